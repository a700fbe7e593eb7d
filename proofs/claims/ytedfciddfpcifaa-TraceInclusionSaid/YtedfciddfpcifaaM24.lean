/- Texts TuRow, Tu2. -/
import Derived.Test.YtedfciddfpcifaaRows
import Derived.Test.YtedfciddfpcifaaM22
import Derived.Test.YtedfciddfpcifaaM21
import Derived.ProofKit
import Derived.OpenShut
import Derived.ShutString
import Derived.ChangeOld
import Derived.Below
import Derived.Deep.Slices
import Derived.Test.YtedfciddfpcifaaM23
import Derived.Test.YtedfciddfpcifaaM11

/- What the cells of a body, a ray, a path, a light are when they come in as arguments. -/
namespace Go.Proofs.Ytedfciddfpcifaa.Iv
open Go.ChangeShapes Go.WideShapes Go.ChangeAt Go.RowKit Go.Deep

theorem own31 : ownKnob Try.prog.godebug = none := by kernel_rfl
theorem laidOut31 : laidOutB Try.prog = true := by kernel_rfl
theorem cInt31 : Try.prog.cellsOf 3 = 1 := by kernel_rfl
theorem cIv31 : Try.prog.cellsOf 24 = 2 := by kernel_rfl
theorem cDir31 : Try.prog.cellsOf 26 = 6 := by kernel_rfl
theorem cRay31 : Try.prog.cellsOf 41 = 12 := by kernel_rfl
theorem cBody31 : Try.prog.cellsOf 39 = 4 := by kernel_rfl
theorem cPath31 : Try.prog.cellsOf 28 = 10 := by kernel_rfl
theorem cDirs31 : Try.prog.cellsOf 36 = 1 := by kernel_rfl
theorem cIvs31 : Try.prog.cellsOf 37 = 1 := by kernel_rfl
theorem cInts31 : Try.prog.cellsOf 22 = 1 := by kernel_rfl

theorem fields31 {H : Type} {enc : TypeId × Value → H} {w : World} {base fuel : Nat} {spare : Nat → Bool} {held : Bool} {cs : List Value} {x : DataW H × List MemPlace} {t : TypeId} {fs : Array Field} (ht : Try.prog.underlying t = some (.struct fs)) (h : DataW.trod enc Try.prog w base spare held fuel t cs = some x) :
    cs.length = Try.prog.cellsOf t ∧ ∃ n, ∀ (i : Nat) (f : Field), fs.toList[i]? = some f → ∃ y, DataW.trod enc Try.prog w base spare held n f.type ((cs.drop f.offset).take (Try.prog.cellsOf f.type)) = some y := by
  obtain ⟨xs, n, _, _, hl, hxl, hf⟩ := DataW.trod_struct ht h
  refine ⟨hl, n, fun i f hi => ?_⟩
  rw [Array.getElem?_toList] at hi
  have hlt : i < fs.size := (Array.getElem?_eq_some_iff.1 hi).1
  exact ⟨_, (hf i f hi).trans (List.getElem?_eq_getElem (by omega))⟩
theorem cut31 (cs : List Value) (o a b : Nat) : (cs.drop o).take (a + b) = (cs.drop o).take a ++ (cs.drop (o + a)).take b := by
  rw [List.take_add, List.drop_drop]
theorem whole31 {cs : List Value} {n : Nat} (h : cs.length = n) : cs = (cs.drop 0).take n := by
  rw [List.drop_zero, ← h, List.take_length]
theorem int_cells31 {H : Type} {enc : TypeId × Value → H} {w : World} {base fuel : Nat} {spare : Nat → Bool} {held : Bool} {cs : List Value} {x : DataW H × List MemPlace} (h : DataW.trod enc Try.prog w base spare held fuel 3 cs = some x) : ∃ a : Int, cs = [.int .i64 a] := by
  obtain ⟨a, p0, _⟩ := DataW.trod_int Try.underlying3 h
  exact ⟨a, p0⟩
theorem iv_cells31 {H : Type} {enc : TypeId × Value → H} {w : World} {base fuel : Nat} {spare : Nat → Bool} {held : Bool} {cs : List Value} {x : DataW H × List MemPlace} (h : DataW.trod enc Try.prog w base spare held fuel 24 cs = some x) : ∃ a b : Int, cs = [.int .i64 a, .int .i64 b] := by
  obtain ⟨hl, n, hf⟩ := fields31 Try.underlying24 h
  obtain ⟨_, h0⟩ := hf 0 _ rfl
  obtain ⟨_, h1⟩ := hf 1 _ rfl
  obtain ⟨a, p0⟩ := int_cells31 h0
  obtain ⟨b, p1⟩ := int_cells31 h1
  rw [cIv31] at hl
  dsimp only at p0 p1
  rw [cInt31] at p0 p1
  have e := whole31 hl
  rw [show (2 : Nat) = 1 + 1 from rfl, cut31, p0, p1] at e
  exact ⟨a, b, e⟩
abbrev dcs (s : D) : List Value := [.int .i64 s.a, .int .i64 s.b, .int .i64 s.c, .int .i64 s.d, .int .i64 s.e, .int .i64 s.f]
abbrev pcs (s : Int × Int) : List Value := [.int .i64 s.1, .int .i64 s.2]
set_option maxRecDepth 100000 in
theorem dir_cells31 {H : Type} {enc : TypeId × Value → H} {w : World} {base fuel : Nat} {spare : Nat → Bool} {held : Bool} {cs : List Value} {x : DataW H × List MemPlace} (h : DataW.trod enc Try.prog w base spare held fuel 26 cs = some x) : ∃ s : D, cs = dcs s := by
  obtain ⟨hl, n, hf⟩ := fields31 Try.underlying26 h
  obtain ⟨_, h0⟩ := hf 0 _ rfl
  obtain ⟨_, h1⟩ := hf 1 _ rfl
  obtain ⟨_, h2⟩ := hf 2 _ rfl
  obtain ⟨a, b, p0⟩ := iv_cells31 h0
  obtain ⟨c, d, p1⟩ := iv_cells31 h1
  obtain ⟨e', f, p2⟩ := iv_cells31 h2
  rw [cDir31] at hl
  dsimp only at p0 p1 p2
  rw [cIv31] at p0 p1 p2
  have e := whole31 hl
  rw [show (6 : Nat) = 2 + (2 + 2) from rfl, cut31, cut31, p0, p1, p2] at e
  exact ⟨⟨a, b, c, d, e', f⟩, e⟩
set_option maxRecDepth 100000 in
theorem ray_cells31 {H : Type} {enc : TypeId × Value → H} {w : World} {base fuel : Nat} {spare : Nat → Bool} {held : Bool} {cs : List Value} {x : DataW H × List MemPlace} (h : DataW.trod enc Try.prog w base spare held fuel 41 cs = some x) : ∃ a v : D, cs = dcs a ++ dcs v := by
  obtain ⟨hl, n, hf⟩ := fields31 Try.underlying41 h
  obtain ⟨_, h0⟩ := hf 0 _ rfl
  obtain ⟨_, h1⟩ := hf 1 _ rfl
  obtain ⟨a, p0⟩ := dir_cells31 h0
  obtain ⟨v, p1⟩ := dir_cells31 h1
  rw [cRay31] at hl
  dsimp only at p0 p1
  rw [cDir31] at p0 p1
  have e := whole31 hl
  rw [show (12 : Nat) = 6 + 6 from rfl, cut31, p0, p1] at e
  exact ⟨a, v, e⟩
/-- a slice that comes in: what its elements are -/
theorem elems31 {H : Type} {enc : TypeId × Value → H} {w : World} {fuel : Nat} {spare : Nat → Bool} {held : Bool} {cs : List Value} {x : DataW H × List MemPlace} {α : Type} [Inhabited α] (f : α → List Value) (k : Nat) (hk : 0 < k) (hlen : ∀ a, (f a).length = k) {t e : TypeId} (ht : Try.prog.underlying t = some (.slice e)) (hc : Try.prog.cellsOf e = k)
    (he : ∀ n cs x, DataW.trod enc Try.prog w 0 spare held n e cs = some x → ∃ a : α, cs = f a) (h : DataW.trod enc Try.prog w 0 spare held fuel t cs = some x) :
    ∃ (ao : Option Addr) (L : List α) (cp : Nat), cs = [.slice ao L.length cp] ∧ L.length ≤ cp ∧ cp ≤ maxLen ∧ (0 < L.length → ∃ b off, ao = some ⟨b, off, none⟩ ∧ b < w.heap.size ∧ ∀ i s, L[i]? = some s → ∀ j, j < k → w.cell? ⟨b, off + i * k + j, none⟩ = (f s)[j]?) := by
  rcases open_slice ht h with ⟨hcs, _⟩ | ⟨a, l, c, m, n, D, Pl, hcs, _, hl, hm, hmm, _, hi⟩
  · exact ⟨none, [], 0, hcs, Nat.le_refl _, Nat.zero_le _, fun h => absurd h (Nat.lt_irrefl 0)⟩
  · have hlm : l ≤ m := by rw [hmm]; split <;> omega
    have hex : ∀ i, i < l → ∃ e : α, ∀ j, j < k → w.cell? (a.add (i * k + j)) = (f e)[j]? := by
      intro i hil
      obtain ⟨cs', hc', ht'⟩ := hi i (by omega)
      obtain ⟨e', rfl⟩ := he _ _ _ ht'
      rw [hc] at hc'
      obtain ⟨_, _, hat⟩ := World.cells?_some hc'
      exact ⟨e', fun j hj => by rw [← add_add]; exact hat j hj⟩
    obtain ⟨E, hE⟩ := choose_lt hex
    refine ⟨some a, (List.range l).map E, c, by simpa using hcs, by simpa using hl, hm, fun hpos => ?_⟩
    rw [List.length_map, List.length_range] at hpos
    obtain ⟨b, off, spot⟩ := a
    have h0 := hE 0 hpos 0 hk
    obtain ⟨u, hu⟩ : ∃ u, (f (E 0))[0]? = some u := ⟨_, List.getElem?_eq_getElem (by rw [hlen]; exact hk)⟩
    have hc0 := h0.trans hu
    have hspot : spot = none := by simpa [Addr.add] using World.cell?_spot hc0
    subst hspot
    have hadd : ∀ k, (⟨b, off, none⟩ : Addr).add k = ⟨b, off + k, none⟩ := by intro k; unfold Addr.add; split <;> simp_all
    have hlt : b < w.heap.size := by
      rcases Nat.lt_or_ge b w.heap.size with h | h
      · exact h
      · rw [hadd] at hc0
        simp [World.cell?, Array.getElem?_eq_none h] at hc0
    refine ⟨b, off, rfl, hlt, fun i s hs j hj => ?_⟩
    rw [List.getElem?_map] at hs
    have hil : i < l := by
      rcases Nat.lt_or_ge i l with h | h
      · exact h
      · rw [List.getElem?_eq_none (by simpa using h)] at hs; cases hs
    rw [List.getElem?_range hil, Option.map_some, Option.some.injEq] at hs
    subst hs
    have := hE i hil j hj
    rw [hadd, ← Nat.add_assoc] at this
    exact this
instance : Inhabited D := ⟨⟨0, 0, 0, 0, 0, 0⟩⟩
theorem dirs31 {H : Type} {enc : TypeId × Value → H} {w : World} {fuel : Nat} {spare : Nat → Bool} {held : Bool} {cs : List Value} {x : DataW H × List MemPlace} (h : DataW.trod enc Try.prog w 0 spare held fuel 36 cs = some x) : ∃ ao L cp, cs = [.slice ao (L : List D).length cp] ∧ L.length ≤ cp ∧ cp ≤ maxLen ∧ NAt w ao L :=
  elems31 dcs 6 (by decide) (fun _ => rfl) Try.underlying36 cDir31 (fun _ _ _ h => dir_cells31 h) h
theorem ivs31 {H : Type} {enc : TypeId × Value → H} {w : World} {fuel : Nat} {spare : Nat → Bool} {held : Bool} {cs : List Value} {x : DataW H × List MemPlace} (h : DataW.trod enc Try.prog w 0 spare held fuel 37 cs = some x) : ∃ ao L cp, cs = [.slice ao (L : List (Int × Int)).length cp] ∧ L.length ≤ cp ∧ cp ≤ maxLen ∧ PAt w ao L :=
  elems31 pcs 2 (by decide) (fun _ => rfl) Try.underlying37 cIv31 (fun _ _ _ h => by obtain ⟨a, b, rfl⟩ := iv_cells31 h; exact ⟨(a, b), rfl⟩) h
theorem ints31 {H : Type} {enc : TypeId × Value → H} {w : World} {fuel : Nat} {spare : Nat → Bool} {held : Bool} {cs : List Value} {x : DataW H × List MemPlace} (h : DataW.trod enc Try.prog w 0 spare held fuel 22 cs = some x) : ∃ ao L cp, cs = [.slice ao (L : List Int).length cp] ∧ L.length ≤ cp ∧ cp ≤ maxLen ∧ IntsAt w ao L := by
  obtain ⟨ao, L, cp, h1, h2, h3, h4⟩ := elems31 (α := Int) (fun a => [.int .i64 a]) 1 (by decide) (fun _ => rfl) Try.underlying22 cInt31 (fun _ _ _ h => int_cells31 h) h
  refine ⟨ao, L, cp, h1, h2, h3, fun hl => ?_⟩
  obtain ⟨b, off, ha, hb, hc⟩ := h4 hl
  refine ⟨b, off, ha, hb, fun i hi => ?_⟩
  have := hc i _ (List.getElem?_eq_getElem hi) 0 (by decide)
  rw [Nat.mul_one, Nat.add_zero] at this
  rw [this, List.getElem?_eq_getElem hi]
  rfl
set_option maxRecDepth 100000 in
theorem body31 {H : Type} {enc : TypeId × Value → H} {w : World} {fuel : Nat} {spare : Nat → Bool} {held : Bool} {cs : List Value} {x : DataW H × List MemPlace} (h : DataW.trod enc Try.prog w 0 spare held fuel 39 cs = some x) :
    ∃ na L nc da M dc i0 i1, cs = [.slice na (L : List D).length nc, .slice da (M : List (Int × Int)).length dc, .int .i64 i0, .int .i64 i1] ∧ NAt w na L ∧ PAt w da M ∧ L.length ≤ maxLen ∧ M.length ≤ maxLen := by
  obtain ⟨hl, n, hf⟩ := fields31 Try.underlying39 h
  obtain ⟨_, h0⟩ := hf 0 _ rfl
  obtain ⟨_, h1⟩ := hf 1 _ rfl
  obtain ⟨_, h2⟩ := hf 2 _ rfl
  obtain ⟨na, L, nc, p0, q0, r0, s0⟩ := dirs31 h0
  obtain ⟨da, M, dc, p1, q1, r1, s1⟩ := ivs31 h1
  obtain ⟨i0, i1, p2⟩ := iv_cells31 h2
  rw [cBody31] at hl
  dsimp only at p0 p1 p2
  rw [cDirs31] at p0
  rw [cIvs31] at p1
  rw [cIv31] at p2
  have e := whole31 hl
  rw [show (4 : Nat) = 1 + (1 + 2) from rfl, cut31, cut31, p0, p1, p2] at e
  exact ⟨na, L, nc, da, M, dc, i0, i1, e, s0, s1, by omega, by omega⟩
set_option maxRecDepth 100000 in
theorem path31 {H : Type} {enc : TypeId × Value → H} {w : World} {fuel : Nat} {spare : Nat → Bool} {held : Bool} {cs : List Value} {x : DataW H × List MemPlace} (h : DataW.trod enc Try.prog w 0 spare held fuel 28 cs = some x) :
    ∃ a c, ∃ p : Pa, cs = [.int .i64 p.k, .slice a p.fs.length c, .int .i64 p.o.a, .int .i64 p.o.b, .int .i64 p.o.c, .int .i64 p.o.d, .int .i64 p.o.e, .int .i64 p.o.f, .int .i64 p.lo, .int .i64 p.hi] ∧ IntsAt w a p.fs ∧ p.fs.length ≤ c ∧ c ≤ maxLen := by
  obtain ⟨hl, n, hf⟩ := fields31 Try.underlying28 h
  obtain ⟨_, h0⟩ := hf 0 _ rfl
  obtain ⟨_, h1⟩ := hf 1 _ rfl
  obtain ⟨_, h2⟩ := hf 2 _ rfl
  obtain ⟨_, h3⟩ := hf 3 _ rfl
  obtain ⟨k, p0⟩ := int_cells31 h0
  obtain ⟨a, L, c, p1, q1, r1, s1⟩ := ints31 h1
  obtain ⟨o, p2⟩ := dir_cells31 h2
  obtain ⟨lo, hi, p3⟩ := iv_cells31 h3
  rw [cPath31] at hl
  dsimp only at p0 p1 p2 p3
  rw [cInt31] at p0
  rw [cInts31] at p1
  rw [cDir31] at p2
  rw [cIv31] at p3
  have e := whole31 hl
  rw [show (10 : Nat) = 1 + (1 + (6 + 2)) from rfl, cut31, cut31, cut31, p0, p1, p2, p3] at e
  exact ⟨a, c, ⟨k, L, o, lo, hi⟩, e, s1, q1, r1⟩
set_option maxRecDepth 100000 in
theorem agg_of {H : Type} {enc : TypeId × Value → H} {w : World} {base : Nat} {spare : Nat → Bool} {held : Bool} {t : TypeId} {fs : Array Field} {v : Value} {r : Reach} {b0 : Nat} {d : DataW H} {p : List MemPlace}
    (ht : Try.prog.underlying t = some (.struct fs)) (hv : Value.okWide Try.prog w r b0 t v) (h : DataW.Trod enc Try.prog w base spare held t v d p) : ∃ l fuel, v = .agg ⟨l⟩ ∧ DataW.trod enc Try.prog w base spare held fuel t l = some (d, p) := by
  obtain ⟨cs, rfl, hsz⟩ := okWide_struct ht hv
  obtain ⟨l⟩ := cs
  obtain ⟨fuel, hf⟩ := h
  exact ⟨l, fuel, rfl, hf⟩
set_option maxRecDepth 100000 in
theorem path_of {H : Type} {enc : TypeId × Value → H} {w : World} {r : Reach} {b0 : Nat} {spare : Nat → Bool} {held : Bool} {v : Value} {d : DataW H} {p : List MemPlace}
    (hv : Value.okWide Try.prog w r b0 28 v) (h : DataW.Trod enc Try.prog w 0 spare held 28 v d p) : ∃ a c, ∃ p : Pa, v = pv a c p ∧ IntsAt w a p.fs ∧ p.fs.length ≤ c := by
  obtain ⟨l, fuel, rfl, hf⟩ := agg_of Try.underlying28 hv h
  obtain ⟨a, c, p, rfl, h1, h2, _⟩ := path31 hf
  exact ⟨a, c, p, rfl, h1, h2⟩
set_option maxRecDepth 100000 in
theorem ray_of {H : Type} {enc : TypeId × Value → H} {w : World} {r : Reach} {b0 : Nat} {spare : Nat → Bool} {held : Bool} {v : Value} {d : DataW H} {p : List MemPlace}
    (hv : Value.okWide Try.prog w r b0 41 v) (h : DataW.Trod enc Try.prog w 0 spare held 41 v d p) : ∃ a b : D, v = rv a b := by
  obtain ⟨l, fuel, rfl, hf⟩ := agg_of Try.underlying41 hv h
  obtain ⟨a, b, rfl⟩ := ray_cells31 hf
  exact ⟨a, b, rfl⟩
set_option maxRecDepth 100000 in
theorem body_of {H : Type} {enc : TypeId × Value → H} {w : World} {r : Reach} {b0 : Nat} {spare : Nat → Bool} {held : Bool} {v : Value} {d : DataW H} {p : List MemPlace}
    (hv : Value.okWide Try.prog w r b0 39 v) (h : DataW.Trod enc Try.prog w 0 spare held 39 v d p) :
    ∃ na L nc da M dc i0 i1, v = .agg #[.slice na (L : List D).length nc, .slice da (M : List (Int × Int)).length dc, .int .i64 i0, .int .i64 i1] ∧ NAt w na L ∧ PAt w da M ∧ L.length ≤ maxLen ∧ M.length ≤ maxLen := by
  obtain ⟨l, fuel, rfl, hf⟩ := agg_of Try.underlying39 hv h
  obtain ⟨na, L, nc, da, M, dc, i0, i1, rfl, h1, h2, h3, h4⟩ := body31 hf
  exact ⟨na, L, nc, da, M, dc, i0, i1, rfl, h1, h2, h3, h4⟩
theorem cLight31 : Try.prog.cellsOf 67 = 3 := by kernel_rfl
set_option maxRecDepth 100000 in
theorem light_of {H : Type} {enc : TypeId × Value → H} {w : World} {r : Reach} {b0 : Nat} {spare : Nat → Bool} {held : Bool} {v : Value} {d : DataW H} {p : List MemPlace}
    (hv : Value.okWide Try.prog w r b0 67 v) (h : DataW.Trod enc Try.prog w 0 spare held 67 v d p) : ∃ a b m : Int, v = .agg #[.int .i64 a, .int .i64 b, .int .i64 m] := by
  obtain ⟨l, fuel, rfl, hf⟩ := agg_of Try.underlying67 hv h
  obtain ⟨hl, n, hx⟩ := fields31 Try.underlying67 hf
  obtain ⟨_, h0⟩ := hx 0 _ rfl
  obtain ⟨_, h1⟩ := hx 1 _ rfl
  obtain ⟨a, b, p0⟩ := iv_cells31 h0
  obtain ⟨m, p1⟩ := int_cells31 h1
  rw [cLight31] at hl
  dsimp only at p0 p1
  rw [cIv31] at p0
  rw [cInt31] at p1
  have e := whole31 hl
  rw [show (3 : Nat) = 2 + 1 from rfl, cut31, p0, p1] at e
  exact ⟨a, b, m, by rw [e]; rfl⟩
theorem cU32 : Try.prog.cellsOf 56 = 1 := by kernel_rfl
theorem cA6 : Try.prog.cellsOf 57 = 6 := by kernel_rfl
theorem cPart31 : Try.prog.cellsOf 59 = 13 := by kernel_rfl
theorem u32_bd {k : Int} (h : (Lit.int .u32 k).wf = true) : 0 ≤ k ∧ k ≤ 4294967295 := by
  simp [Lit.wf, IntKind.min, IntKind.max, IntKind.signed, IntKind.bits] at h
  omega
theorem len6u {α : Type} {l : List α} (h : l.length = 6) : ∃ a b c d e f, l = [a, b, c, d, e, f] := by
  match l, h with
  | [a, b, c, d, e, f], _ => exact ⟨a, b, c, d, e, f, rfl⟩
set_option maxRecDepth 100000 in
theorem a6_cells {H : Type} {enc : TypeId × Value → H} {w : World} {base fuel : Nat} {spare : Nat → Bool} {held : Bool} {cs : List Value} {x : DataW H × List MemPlace} (h : DataW.trod enc Try.prog w base spare held fuel 57 cs = some x) :
    ∃ k0 k1 k2 k3 k4 k5 : Int, cs = [.int .u32 k0, .int .u32 k1, .int .u32 k2, .int .u32 k3, .int .u32 k4, .int .u32 k5] ∧ U6 k0 k1 k2 k3 k4 k5 := by
  obtain ⟨zs, m', _, _, hl, hzl, hk⟩ := DataW.trod_array Try.underlying57 h
  rw [cA6] at hl
  obtain ⟨c0, c1, c2, c3, c4, c5, rfl⟩ := len6u hl
  obtain ⟨z0, z1, z2, z3, z4, z5, rfl⟩ := len6u hzl
  have k0 := hk 0 (by decide)
  have k1 := hk 1 (by decide)
  have k2 := hk 2 (by decide)
  have k3 := hk 3 (by decide)
  have k4 := hk 4 (by decide)
  have k5 := hk 5 (by decide)
  simp [cU32] at k0 k1 k2 k3 k4 k5
  obtain ⟨a0, q0, _, w0⟩ := DataW.trod_int Try.underlying56 k0
  obtain ⟨a1, q1, _, w1⟩ := DataW.trod_int Try.underlying56 k1
  obtain ⟨a2, q2, _, w2⟩ := DataW.trod_int Try.underlying56 k2
  obtain ⟨a3, q3, _, w3⟩ := DataW.trod_int Try.underlying56 k3
  obtain ⟨a4, q4, _, w4⟩ := DataW.trod_int Try.underlying56 k4
  obtain ⟨a5, q5, _, w5⟩ := DataW.trod_int Try.underlying56 k5
  simp at q0 q1 q2 q3 q4 q5
  subst q0 q1 q2 q3 q4 q5
  exact ⟨a0, a1, a2, a3, a4, a5, rfl, u32_bd w0, u32_bd w1, u32_bd w2, u32_bd w3, u32_bd w4, u32_bd w5⟩
set_option maxRecDepth 100000 in
theorem part_of {H : Type} {enc : TypeId × Value → H} {w : World} {r : Reach} {b0 : Nat} {spare : Nat → Bool} {held : Bool} {v : Value} {d : DataW H} {p : List MemPlace}
    (hv : Value.okWide Try.prog w r b0 59 v) (h : DataW.Trod enc Try.prog w 0 spare held 59 v d p) :
    ∃ m k0 k1 k2 k3 k4 k5 l0 l1 l2 l3 l4 l5 : Int, v = .agg #[.int .i64 m, .int .u32 k0, .int .u32 k1, .int .u32 k2, .int .u32 k3, .int .u32 k4, .int .u32 k5, .int .u32 l0, .int .u32 l1, .int .u32 l2, .int .u32 l3, .int .u32 l4, .int .u32 l5] ∧ U6 k0 k1 k2 k3 k4 k5 ∧ U6 l0 l1 l2 l3 l4 l5 := by
  obtain ⟨l, fuel, rfl, hf⟩ := agg_of Try.underlying59 hv h
  obtain ⟨hl, n, hx⟩ := fields31 Try.underlying59 hf
  obtain ⟨_, h0⟩ := hx 0 _ rfl
  obtain ⟨_, h1⟩ := hx 1 _ rfl
  obtain ⟨_, h2⟩ := hx 2 _ rfl
  obtain ⟨m, p0⟩ := int_cells31 h0
  obtain ⟨k0, k1, k2, k3, k4, k5, p1, u1⟩ := a6_cells h1
  obtain ⟨l0, l1, l2, l3, l4, l5, p2, u2⟩ := a6_cells h2
  rw [cPart31] at hl
  dsimp only at p0 p1 p2
  rw [cInt31] at p0
  rw [cA6] at p1 p2
  have e := whole31 hl
  rw [show (13 : Nat) = 1 + (6 + 6) from rfl, cut31, cut31, p0, p1, p2] at e
  exact ⟨m, k0, k1, k2, k3, k4, k5, l0, l1, l2, l3, l4, l5, by rw [e]; rfl, u1, u2⟩
end Go.Proofs.Ytedfciddfpcifaa.Iv

/- The example of layer 31 holds: a ray of the cube returns. -/

namespace Go.Proofs.Ytedfciddfpcifaa.Iv
open Go.RowKit

attribute [local go_sem] Oper.semAt_some

theorem flat_at {α : Type} (f : α → List Value) (n : Nat) (hf : ∀ x, (f x).length = n) : ∀ (L : List α) (i : Nat) (x : α), L[i]? = some x → ∀ j, j < n → (L.flatMap f)[i * n + j]? = (f x)[j]?
  | [], _, _, h, _, _ => by simp at h
  | y :: t, 0, x, h, j, hj => by
    simp only [List.getElem?_cons_zero, Option.some.injEq] at h
    subst h
    rw [List.flatMap_cons, Nat.zero_mul, Nat.zero_add, List.getElem?_append_left (by rw [hf]; exact hj)]
  | y :: t, i + 1, x, h, j, hj => by
    rw [List.getElem?_cons_succ] at h
    have ih := flat_at f n hf t i x h j hj
    rw [List.flatMap_cons, List.getElem?_append_right (by rw [hf, Nat.succ_mul]; omega), ← ih, hf]
    congr 1
    rw [Nat.succ_mul]
    omega
theorem nat_rd {W : World} {b : Nat} {L : List D} (h : Rd W b (L.flatMap dcs)) : NAt W (some ⟨b, 0, none⟩) L := fun _ =>
  ⟨b, 0, rfl, h.lt, fun i s hs j hj => by rw [Nat.zero_add, h.c, flat_at dcs 6 (fun _ => rfl) L i s hs j hj]⟩
theorem pat_rd {W : World} {b : Nat} {L : List (Int × Int)} (h : Rd W b (L.flatMap pcs)) : PAt W (some ⟨b, 0, none⟩) L := fun _ =>
  ⟨b, 0, rfl, h.lt, fun i s hs j hj => by rw [Nat.zero_add, h.c, flat_at pcs 2 (fun _ => rfl) L i s hs j hj]⟩
def cubeL : List D := [⟨16777216, 16777216, 0, 0, 0, 0⟩, ⟨0, 0, 16777216, 16777216, 0, 0⟩, ⟨0, 0, 0, 0, 16777216, 16777216⟩, ⟨-16777216, -16777216, 0, 0, 0, 0⟩, ⟨0, 0, -16777216, -16777216, 0, 0⟩, ⟨0, 0, 0, 0, -16777216, -16777216⟩]
def cubeM : List (Int × Int) := [(16777216, 16777216), (16777216, 16777216), (16777216, 16777216), (16777216, 16777216), (16777216, 16777216), (16777216, 16777216)]
set_option maxRecDepth 100000 in
set_option maxHeartbeats 4000000 in
theorem cube_any (w : World) : Calls Try.prog 25 #[] w fun e w' =>
    (∃ nb db, e = .returned (.agg #[.slice (some ⟨nb, 0, none⟩) 6 6, .slice (some ⟨db, 0, none⟩) 6 6, .int .i64 33554432, .int .i64 33554432]) ∧ NAt w' (some ⟨nb, 0, none⟩) cubeL ∧ PAt w' (some ⟨db, 0, none⟩) cubeM) ∧ Below w.heap.size w w' := by
  have O0 : Bx (w.alloc (.cells (List.toArray [.slice none 0 0, .slice none 0 0, .int .i64 0, .int .i64 0]) 39)) w.heap.size [.slice none 0 0, .slice none 0 0, .int .i64 0, .int .i64 0] := Bx.new rfl
  have H0 := (Ho.nil w).alc (.cells (List.toArray [.slice none 0 0, .slice none 0 0, .int .i64 0, .int .i64 0]) 39)
  go_enter Try.func25, Try.ntmps25
  go_wp2_with fail
  refine (one_any _).mono ?_
  rintro e w1 ⟨rfl, hb⟩
  have H1 := H0.call hb
  have O1 := O0.kept hb
  clear hb
  have y1 := O1.c
  have y2 := O1.f
  have y3 := O1.lt
  have y4 : w.heap.size < w1.heap.size + 1 := by omega
  have y5 : w.heap.size < w1.heap.size + 1 + 1 := by omega
  have y6 : w.heap.size < w1.heap.size + 1 + 1 + 1 := by omega
  have y7 : w.heap.size < w1.heap.size + 1 + 1 + 1 + 1 := by omega
  have y8 : w.heap.size < w1.heap.size + 1 + 1 + 1 + 1 + 1 := by omega
  have n0 : ¬ (w.heap.size = w1.heap.size) := by omega
  have n1 : ¬ (w.heap.size = w1.heap.size + 1) := by omega
  have n2 : ¬ (w.heap.size = w1.heap.size + 1 + 1) := by omega
  have n3 : ¬ (w.heap.size = w1.heap.size + 1 + 1 + 1) := by omega
  have n4 : ¬ (w.heap.size = w1.heap.size + 1 + 1 + 1 + 1) := by omega
  go_wp2_with fail
  have K : Bx _ w.heap.size [.slice (some ⟨w1.heap.size + 1 + 1 + 1, 0, none⟩) 6 6, .slice (some ⟨w1.heap.size + 1 + 1 + 1 + 1, 0, none⟩) 6 6, .int .i64 33554432, .int .i64 33554432] := (((O1.put (i := 0) (u := .slice (some ⟨w1.heap.size + 1 + 1 + 1, 0, none⟩) 6 6)).put (i := 1) (u := .slice (some ⟨w1.heap.size + 1 + 1 + 1 + 1, 0, none⟩) 6 6)).put (i := 2) (u := .int .i64 33554432)).put (i := 3) (u := .int .i64 33554432)
  have KL := (((H1.put (d := w.heap.size) (i := 0) (u := .slice (some ⟨w1.heap.size + 1 + 1 + 1, 0, none⟩) 6 6) (Nat.le_refl _)).put (d := w.heap.size) (i := 1) (u := .slice (some ⟨w1.heap.size + 1 + 1 + 1 + 1, 0, none⟩) 6 6) (Nat.le_refl _)).put (d := w.heap.size) (i := 2) (u := .int .i64 33554432) (Nat.le_refl _)).put (d := w.heap.size) (i := 3) (u := .int .i64 33554432) (Nat.le_refl _)
  refine bodyPost_box (b := w.heap.size) (cs := [.slice (some ⟨w1.heap.size + 1 + 1 + 1, 0, none⟩) 6 6, .slice (some ⟨w1.heap.size + 1 + 1 + 1 + 1, 0, none⟩) 6 6, .int .i64 33554432, .int .i64 33554432]) (v := .agg #[.slice (some ⟨w1.heap.size + 1 + 1 + 1, 0, none⟩) 6 6, .slice (some ⟨w1.heap.size + 1 + 1 + 1 + 1, 0, none⟩) 6 6, .int .i64 33554432, .int .i64 33554432]) (by
    (repeat (first | with_reducible exact K | with_reducible refine Bx.alc ?_ _))) (fun X hX => by simp [results, Try.results25, go_sem, hX]) rfl ⟨⟨_, _, rfl, nat_rd ?_, pat_rd ?_⟩, by
    refine Ho.below (n := w.heap.size) (l := []) ?_
    (repeat (first | with_reducible exact KL | with_reducible refine Ho.alc ?_ _))⟩
  · rw [show cubeL.flatMap dcs = [.int .i64 16777216, .int .i64 16777216, .int .i64 0, .int .i64 0, .int .i64 0, .int .i64 0, .int .i64 0, .int .i64 0, .int .i64 16777216, .int .i64 16777216, .int .i64 0, .int .i64 0, .int .i64 0, .int .i64 0, .int .i64 0, .int .i64 0, .int .i64 16777216, .int .i64 16777216, .int .i64 (-16777216), .int .i64 (-16777216), .int .i64 0, .int .i64 0, .int .i64 0, .int .i64 0, .int .i64 0, .int .i64 0, .int .i64 (-16777216), .int .i64 (-16777216), .int .i64 0, .int .i64 0, .int .i64 0, .int .i64 0, .int .i64 0, .int .i64 0, .int .i64 (-16777216), .int .i64 (-16777216)] from rfl]
    (repeat (first | (with_reducible refine Rd.new ?_; (· (simp; done))) | with_reducible refine Rd.alc ?_ _))
  · rw [show cubeM.flatMap pcs = [.int .i64 16777216, .int .i64 16777216, .int .i64 16777216, .int .i64 16777216, .int .i64 16777216, .int .i64 16777216, .int .i64 16777216, .int .i64 16777216, .int .i64 16777216, .int .i64 16777216, .int .i64 16777216, .int .i64 16777216] from rfl]
    (repeat (first | (with_reducible refine Rd.new ?_; (· (simp; done))) | with_reducible refine Rd.alc ?_ _))
/-- the ray of the example returns -/
theorem cube_way : (followV cubeL cubeM 33554432 33554432 ⟨0, 0, 0, 0, 0, 0⟩ ⟨0, 0, 0, 0, 16777216, 16777216⟩ 16777216 16777216 5).lv.k = 1 ∧ (followV cubeL cubeM 33554432 33554432 ⟨0, 0, 0, 0, 0, 0⟩ ⟨0, 0, 0, 0, 16777216, 16777216⟩ 16777216 16777216 5).fs = [2] ∧ (followV cubeL cubeM 33554432 33554432 ⟨0, 0, 0, 0, 0, 0⟩ ⟨0, 0, 0, 0, 16777216, 16777216⟩ 16777216 16777216 5).e = 0 ∧ (followV cubeL cubeM 33554432 33554432 ⟨0, 0, 0, 0, 0, 0⟩ ⟨0, 0, 0, 0, 16777216, 16777216⟩ 16777216 16777216 5).lv.lo ≤ 14913080 ∧ 14913081 ≤ (followV cubeL cubeM 33554432 33554432 ⟨0, 0, 0, 0, 0, 0⟩ ⟨0, 0, 0, 0, 16777216, 16777216⟩ 16777216 16777216 5).lv.hi ∧ (followV cubeL cubeM 33554432 33554432 ⟨0, 0, 0, 0, 0, 0⟩ ⟨0, 0, 0, 0, 16777216, 16777216⟩ 16777216 16777216 5).lv.hi - (followV cubeL cubeM 33554432 33554432 ⟨0, 0, 0, 0, 0, 0⟩ ⟨0, 0, 0, 0, 16777216, 16777216⟩ 16777216 16777216 5).lv.lo < 10 := by decide +kernel
theorem cube_valid : vBody cubeL cubeM 33554432 33554432 = true := by decide +kernel
set_option maxRecDepth 100000 in
set_option maxHeartbeats 16000000 in
theorem awake31_any (w : World) : Calls Try.prog 8 #[] w fun e w' => e = .returned (.bool true) ∧ Below w.heap.size w w' := by
  obtain ⟨⟨⟨k, o, lo, hi⟩, fs, e⟩, hr⟩ : ∃ r, followV cubeL cubeM 33554432 33554432 ⟨0, 0, 0, 0, 0, 0⟩ ⟨0, 0, 0, 0, 16777216, 16777216⟩ 16777216 16777216 5 = r := ⟨_, rfl⟩
  have hw := cube_way
  rw [hr] at hw
  dsimp only at hw
  obtain ⟨rfl, rfl, rfl, h1, h2, h3⟩ := hw
  have HR := Lib.hid hr
  have e1 : 14913081 ≤ hi := h2
  have e2 : IntKind.i64.wrap (hi - lo) = hi - lo := IntWalk.i64_in _ (by omega)
  clear hr
  go_enter Try.func8, Try.ntmps8
  go_wp2_with fail
  refine (cube_any _).mono ?_
  rintro e w1 ⟨⟨nb, db, rfl, hN, hM⟩, b1⟩
  have HN := Lib.hid hN
  have HM := Lib.hid hM
  have B1 := Lib.hid b1
  clear hN hM b1
  go_wp2_with fail
  refine (one_any _).mono ?_
  rintro e w2 ⟨rfl, b2⟩
  have N2 := Lib.hid (HN.out.kept b2)
  have M2 := Lib.hid (HM.out.kept b2)
  have B2 := Lib.hid (B1.out.trans (b2.mono B1.out.size))
  clear b2
  go_wp2_with fail
  refine (one_any _).mono ?_
  rintro e w3 ⟨rfl, b3⟩
  have N3 := N2.out.kept b3
  have M3 := M2.out.kept b3
  have B3 := Lib.hid (B2.out.trans (b3.mono B2.out.size))
  clear b3
  go_wp2_with fail
  refine (follow_any (L := cubeL) (M := cubeM) (a := ⟨0, 0, 0, 0, 0, 0⟩) (v := ⟨0, 0, 0, 0, 16777216, 16777216⟩) _ N3 M3).mono ?_
  rintro e w4 ⟨⟨u, rfl, hrow⟩, b4⟩
  rw [HR.out] at hrow ⊢
  dsimp only [lcells] at hrow ⊢
  obtain ⟨g, cap, rfl, h5, h6⟩ := hrow.form (by decide)
  have R4 : Rs w4 g 0 [.int .i64 2] := Rs.mk h6 (fun j hj => by
    obtain rfl : j = 0 := by simpa using hj
    have := hrow.cells (g := g) rfl 0 (.int .i64 2) rfl
    simpa [Addr.add] using this)
  have B4 := Lib.hid (B3.out.trans (b4.mono B3.out.size))
  clear hrow N3 M3 b4
  go_wp2_with fail
  refine (cube_any _).mono ?_
  rintro e w5 ⟨⟨nb2, db2, rfl, hN2, hM2⟩, b5⟩
  have P5 := (Bx.new (t := 28) (cs := [.int .i64 1, .slice (some ⟨g, 0, none⟩) 1 cap, .int .i64 o.a, .int .i64 o.b, .int .i64 o.c, .int .i64 o.d, .int .i64 o.e, .int .i64 o.f, .int .i64 lo, .int .i64 hi]) (rfl : w4.heap.size = w4.heap.size)).kept b5
  have R5 := (R4.alc _).kept b5
  have B5 := Lib.hid ((B4.out.alloc (Nat.le_trans B4.out.size (Nat.le_refl _)) _).trans (b5.mono (by have := B4.out.size; simp; omega)))
  clear b5
  go_wp2_with fail
  refine (vbody_any (L := cubeL) (M := cubeM) _ hN2 hM2).mono ?_
  rintro e w6 ⟨rfl, b6⟩
  rw [cube_valid]
  have P6 := P5.kept b6
  have R6 := R5.kept b6
  have B6 := B5.out.trans (b6.mono B5.out.size)
  have p0 := P6.c
  have p1 : w6.cell? ⟨g, 0, none⟩ = some (.int .i64 2) := R6.c 0 (by simp)
  have e1' : ¬ (hi < 14913081) := by omega
  have e3 : hi - lo < 10 := h3
  clear b6 P5 R5
  go_wp2_with fail
  go_ret
  exact ⟨rfl, B6⟩
end Go.Proofs.Ytedfciddfpcifaa.Iv
