/- What a tier's 46 cells are when it comes in as an argument; what the cells of a Case are. -/
import Derived.Test.YtikbgdbbicnfnaaRows
import Derived.Test.YtikbgdbbicnfnaaTr5
import Derived.ProofKit
import Derived.OpenShut
import Derived.ShutString
import Derived.ChangeOld
import Derived.Below
import Derived.Deep.Slices
namespace Go.Proofs.Ytikbgdbbicnfnaa.Tr
open Go.ChangeShapes Go.WideShapes Go.ChangeAt Go.RowKit Go.Deep

theorem own : ownKnob Try.prog.godebug = none := by kernel_rfl
theorem laidOut : laidOutB Try.prog = true := by kernel_rfl
theorem cI : Try.prog.cellsOf 24 = 2 := by kernel_rfl
theorem cA : Try.prog.cellsOf 25 = 8 := by kernel_rfl
theorem cN : Try.prog.cellsOf 27 = 10 := by kernel_rfl
theorem cV : Try.prog.cellsOf 29 = 30 := by kernel_rfl
theorem cF : Try.prog.cellsOf 32 = 42 := by kernel_rfl
theorem cT : Try.prog.cellsOf 34 = 46 := by kernel_rfl
theorem cStr : Try.prog.cellsOf 9 = 1 := by kernel_rfl
theorem cInt : Try.prog.cellsOf 3 = 1 := by kernel_rfl
theorem cBool : Try.prog.cellsOf 4 = 1 := by kernel_rfl
theorem cInts : Try.prog.cellsOf 22 = 1 := by kernel_rfl
theorem cRefs : Try.prog.cellsOf 30 = 1 := by kernel_rfl

section
variable {H : Type} {enc : TypeId × Value → H} {w : World} {base fuel : Nat} {spare : Nat → Bool} {held : Bool} {cs : List Value} {x : DataW H × List MemPlace} {t : TypeId}
theorem fields {fs : Array Field} (ht : Try.prog.underlying t = some (.struct fs)) (h : DataW.trod enc Try.prog w base spare held fuel t cs = some x) :
    cs.length = Try.prog.cellsOf t ∧ ∃ n, ∀ (i : Nat) (f : Field), fs.toList[i]? = some f → ∃ y, DataW.trod enc Try.prog w base spare held n f.type ((cs.drop f.offset).take (Try.prog.cellsOf f.type)) = some y := by
  obtain ⟨xs, n, _, _, hl, hxl, hf⟩ := DataW.trod_struct ht h
  refine ⟨hl, n, fun i f hi => ?_⟩
  rw [Array.getElem?_toList] at hi
  have hlt : i < fs.size := (Array.getElem?_eq_some_iff.1 hi).1
  exact ⟨_, (hf i f hi).trans (List.getElem?_eq_getElem (by omega))⟩
theorem elems {k : Nat} {e : TypeId} (ht : Try.prog.underlying t = some (.array k e)) (h : DataW.trod enc Try.prog w base spare held fuel t cs = some x) :
    cs.length = Try.prog.cellsOf t ∧ ∃ n, ∀ i, i < k → ∃ y, DataW.trod enc Try.prog w base spare held n e ((cs.drop (i * Try.prog.cellsOf e)).take (Try.prog.cellsOf e)) = some y := by
  obtain ⟨xs, n, _, _, hl, hxl, hf⟩ := DataW.trod_array ht h
  exact ⟨hl, n, fun i hi => ⟨_, (hf i hi).trans (List.getElem?_eq_getElem (by omega))⟩⟩
theorem cut (o a b : Nat) : (cs.drop o).take (a + b) = (cs.drop o).take a ++ (cs.drop (o + a)).take b := by
  rw [List.take_add, List.drop_drop]
theorem whole {n : Nat} (h : cs.length = n) : cs = (cs.drop 0).take n := by
  rw [List.drop_zero, ← h, List.take_length]

/-- n big integers: 2 n cells. -/
def IntsC (n : Nat) (cs : List Value) : Prop := ∃ (B : Nat → Bool) (S : Nat → ByteArray), cs = (List.range n).flatMap fun i => [.bool (B i), .string (S i)]
theorem IntsC.append {n m : Nat} {us vs : List Value} (ha : IntsC n us) (hb : IntsC m vs) : IntsC (n + m) (us ++ vs) := by
  obtain ⟨B, S, rfl⟩ := ha
  obtain ⟨B', S', rfl⟩ := hb
  refine ⟨fun i => if i < n then B i else B' (i - n), fun i => if i < n then S i else S' (i - n), ?_⟩
  rw [List.range_add, List.flatMap_append, List.flatMap_map]
  congr 1
  · unfold List.flatMap
    congr 1
    apply List.map_congr_left
    intro i hi
    simp [List.mem_range.1 hi]
  · congr 1
    funext i
    dsimp only
    rw [if_neg (by omega), if_neg (by omega), Nat.add_sub_cancel_left]
theorem int_cells (h : DataW.trod enc Try.prog w base spare held fuel 24 cs = some x) : IntsC 1 cs := by
  obtain ⟨hl, n, hf⟩ := fields Try.underlying24 h
  obtain ⟨_, h0⟩ := hf 0 _ rfl
  obtain ⟨_, h1⟩ := hf 1 _ rfl
  obtain ⟨b, p0, _⟩ := DataW.trod_bool Try.underlying4 h0
  obtain ⟨s, p1, _⟩ := DataW.trod_string Try.underlying9 h1
  rw [cI] at hl
  dsimp only at p0 p1
  refine ⟨fun _ => b, fun _ => s, ?_⟩
  have e := whole hl
  rw [show (2 : Nat) = 1 + 1 from rfl, cut] at e
  rw [cBool] at p0
  rw [cStr] at p1
  refine e.trans ?_
  rw [p0]
  exact congrArg ([Value.bool b] ++ ·) p1
set_option maxRecDepth 100000 in
theorem arr_cells (h : DataW.trod enc Try.prog w base spare held fuel 25 cs = some x) : IntsC 4 cs := by
  obtain ⟨hl, n, hf⟩ := elems Try.underlying25 h
  obtain ⟨_, h0⟩ := hf 0 (by decide)
  obtain ⟨_, h1⟩ := hf 1 (by decide)
  obtain ⟨_, h2⟩ := hf 2 (by decide)
  obtain ⟨_, h3⟩ := hf 3 (by decide)
  have k0 := int_cells h0
  have k1 := int_cells h1
  have k2 := int_cells h2
  have k3 := int_cells h3
  rw [cI] at k0 k1 k2 k3
  rw [cA] at hl
  have e := whole hl
  rw [show (8 : Nat) = 2 + (2 + (2 + 2)) from rfl, cut, cut, cut] at e
  rw [e]
  exact k0.append (k1.append (k2.append k3))
set_option maxRecDepth 100000 in
theorem num_cells (h : DataW.trod enc Try.prog w base spare held fuel 27 cs = some x) : IntsC 5 cs := by
  obtain ⟨hl, n, hf⟩ := fields Try.underlying27 h
  obtain ⟨_, h0⟩ := hf 0 _ rfl
  obtain ⟨_, h1⟩ := hf 1 _ rfl
  have k0 := arr_cells h0
  have k1 := int_cells h1
  dsimp only at k0 k1
  rw [cA] at k0
  rw [cI] at k1
  rw [cN] at hl
  have e := whole hl
  rw [show (10 : Nat) = 8 + 2 from rfl, cut] at e
  rw [e]
  exact k0.append k1
set_option maxRecDepth 100000 in
theorem vec_cells (h : DataW.trod enc Try.prog w base spare held fuel 29 cs = some x) : IntsC 15 cs := by
  obtain ⟨hl, n, hf⟩ := fields Try.underlying29 h
  obtain ⟨_, h0⟩ := hf 0 _ rfl
  obtain ⟨_, h1⟩ := hf 1 _ rfl
  obtain ⟨_, h2⟩ := hf 2 _ rfl
  have k0 := num_cells h0
  have k1 := num_cells h1
  have k2 := num_cells h2
  dsimp only at k0 k1 k2
  rw [cN] at k0 k1 k2
  rw [cV] at hl
  have e := whole hl
  rw [show (30 : Nat) = 10 + (10 + 10) from rfl, cut, cut] at e
  rw [e]
  exact k0.append (k1.append k2)
theorem slice_cells {e : TypeId} (ht : Try.prog.underlying t = some (.slice e)) (h : DataW.trod enc Try.prog w base spare held fuel t cs = some x) : ∃ a l c, cs = [Value.slice a l c] := by
  rcases open_slice ht h with ⟨h, _⟩ | ⟨a, l, c, _, _, _, _, h, _⟩
  · exact ⟨_, _, _, h⟩
  · exact ⟨_, _, _, h⟩
set_option maxRecDepth 100000 in
theorem fix_cells (h : DataW.trod enc Try.prog w base spare held fuel 32 cs = some x) : ∃ (kd : Int) (ls : List Value) (ro : Option Addr) (rn rc : Nat), IntsC 20 ls ∧ cs = [.int .i64 kd] ++ (ls ++ [.slice ro rn rc]) := by
  obtain ⟨hl, n, hf⟩ := fields Try.underlying32 h
  obtain ⟨_, h0⟩ := hf 0 _ rfl
  obtain ⟨_, h1⟩ := hf 1 _ rfl
  obtain ⟨_, h2⟩ := hf 2 _ rfl
  obtain ⟨_, h3⟩ := hf 3 _ rfl
  obtain ⟨kd, k0, _⟩ := DataW.trod_int Try.underlying3 h0
  have k1 := num_cells h1
  have k2 := vec_cells h2
  obtain ⟨ro, rn, rc, k3⟩ := slice_cells Try.underlying30 h3
  dsimp only at k0 k1 k2 k3
  rw [cInt] at k0
  rw [cN] at k1
  rw [cV] at k2
  rw [cRefs] at k3
  rw [cF] at hl
  have e := whole hl
  rw [show (42 : Nat) = 1 + (10 + (30 + 1)) from rfl, cut, cut, cut] at e
  refine ⟨kd, _, ro, rn, rc, k1.append k2, e.trans ?_⟩
  rw [List.append_assoc]
  rw [k0, k3]
theorem ints_of (h : DataW.trod enc Try.prog w 0 spare held fuel 22 cs = some x) : ∃ (ao : Option Addr) (L : List Int) (cp : Nat), cs = [.slice ao L.length cp] ∧ ZAt w ao L := by
  rcases open_slice1 Try.underlying22 cInt h with ⟨h, _⟩ | ⟨a, l, c, m, n, V, D, Pl, hcs, _, hl, hm, hmm, _, hi⟩
  · exact ⟨none, [], 0, h, fun h => absurd h (by decide)⟩
  · have hlm : l ≤ m := by rw [hmm]; split <;> omega
    have hex : ∀ i, i < l → ∃ z : Int, w.cell? (a.add i) = some (.int .i64 z) := by
      intro i hil
      obtain ⟨hc, ht⟩ := hi i (by omega)
      obtain ⟨z, q, _⟩ := DataW.trod_int Try.underlying3 ht
      obtain q : V i = .int .i64 z := by simpa using q
      exact ⟨z, by rw [hc, q]⟩
    obtain ⟨F, hF⟩ := choose_lt hex
    refine ⟨some a, (List.range l).map F, c, by simpa using hcs, ?_⟩
    intro hpos
    rw [List.length_map, List.length_range] at hpos
    obtain ⟨b, off, spot⟩ := a
    have hc := hF 0 hpos
    have hspot : spot = none := by simpa [Addr.add] using World.cell?_spot hc
    subst hspot
    have hadd : ∀ k, (⟨b, off, none⟩ : Addr).add k = ⟨b, off + k, none⟩ := by intro k; unfold Addr.add; split <;> simp_all
    have hlt : b < w.heap.size := by
      rcases Nat.lt_or_ge b w.heap.size with h | h
      · exact h
      · rw [hadd] at hc
        simp [World.cell?, Array.getElem?_eq_none h] at hc
    refine ⟨b, off, rfl, hlt, fun i hil => ?_⟩
    rw [List.length_map, List.length_range] at hil
    have := hF i hil
    rw [hadd] at this
    rw [this]
    simp [hil]
set_option maxRecDepth 100000 in
theorem tier_cells (h : DataW.trod enc Try.prog w 0 spare held fuel 34 cs = some x) : ∃ (nm : ByteArray) (hh vv : Int) (ao : Option Addr) (L : List Int) (cp : Nat) (kd : Int) (ls : List Value) (ro : Option Addr) (rn rc : Nat),
    IntsC 20 ls ∧ ZAt w ao L ∧ cs = [.string nm] ++ ([.int .i64 hh] ++ ([.int .i64 vv] ++ ([.slice ao L.length cp] ++ ([.int .i64 kd] ++ (ls ++ [.slice ro rn rc]))))) := by
  obtain ⟨hl, n, hf⟩ := fields Try.underlying34 h
  obtain ⟨_, h0⟩ := hf 0 _ rfl
  obtain ⟨_, h1⟩ := hf 1 _ rfl
  obtain ⟨_, h2⟩ := hf 2 _ rfl
  obtain ⟨_, h3⟩ := hf 3 _ rfl
  obtain ⟨_, h4⟩ := hf 4 _ rfl
  obtain ⟨nm, k0, _⟩ := DataW.trod_string Try.underlying9 h0
  obtain ⟨hh, k1, _⟩ := DataW.trod_int Try.underlying3 h1
  obtain ⟨vv, k2, _⟩ := DataW.trod_int Try.underlying3 h2
  obtain ⟨ao, L, cp, k3, hz⟩ := ints_of h3
  obtain ⟨kd, ls, ro, rn, rc, hls, k4⟩ := fix_cells h4
  dsimp only at k0 k1 k2 k3 k4
  rw [cStr] at k0
  rw [cInt] at k1 k2
  rw [cInts] at k3
  rw [cF] at k4
  rw [cT] at hl
  have e := whole hl
  rw [show (46 : Nat) = 1 + (1 + (1 + (1 + 42))) from rfl, cut, cut, cut, cut] at e
  refine ⟨nm, hh, vv, ao, L, cp, kd, ls, ro, rn, rc, hls, hz, e.trans ?_⟩
  rw [k0, k1, k2, k3, k4]
end
end Go.Proofs.Ytikbgdbbicnfnaa.Tr
