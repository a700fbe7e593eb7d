/- Texts Th1. -/
import Derived.Test.YtedfciddfpcifaaM10
import Derived.Test.YtedfciddfpcifaaM13
import Derived.Test.YtedfciddfpcifaaM16
import Derived.Test.YtedfciddfpcifaaM14
import Derived.Test.YtedfciddfpcifaaM15
import Derived.Test.YtedfciddfpcifaaM17
import Derived.LoopNIn
import Derived.LoopIn
import Derived.Shelf.RegionOpen

/- The iterator over the faces that a ray can hit. -/
namespace Go.Proofs.Ytedfciddfpcifaa.Iv
open Go.RowKit

attribute [local go_sem] Oper.semAt_some

/-- a slice of boxes that reads as a list, and one of intervals -/
def NAt (W : World) (ao : Option Addr) (L : List D) : Prop := 0 < L.length → ∃ b off, ao = some ⟨b, off, none⟩ ∧ b < W.heap.size ∧ ∀ i (s : D), L[i]? = some s →
  ∀ j, j < 6 → W.cell? ⟨b, off + i * 6 + j, none⟩ = ([.int .i64 s.a, .int .i64 s.b, .int .i64 s.c, .int .i64 s.d, .int .i64 s.e, .int .i64 s.f] : List Value)[j]?
def PAt (W : World) (ao : Option Addr) (L : List (Int × Int)) : Prop := 0 < L.length → ∃ b off, ao = some ⟨b, off, none⟩ ∧ b < W.heap.size ∧ ∀ i (s : Int × Int), L[i]? = some s →
  ∀ j, j < 2 → W.cell? ⟨b, off + i * 2 + j, none⟩ = ([.int .i64 s.1, .int .i64 s.2] : List Value)[j]?
theorem NAt.kept {W W' : World} {ao : Option Addr} {L : List D} (h : NAt W ao L) (hb : Below W.heap.size W W') : NAt W' ao L := by
  intro hl
  obtain ⟨b, off, ha, hlt, hc⟩ := h hl
  exact ⟨b, off, ha, Nat.lt_of_lt_of_le hlt hb.size, fun i s hs j hj => (hb.cell (p := ⟨b, _, none⟩) hlt).trans (hc i s hs j hj)⟩
theorem PAt.kept {W W' : World} {ao : Option Addr} {L : List (Int × Int)} (h : PAt W ao L) (hb : Below W.heap.size W W') : PAt W' ao L := by
  intro hl
  obtain ⟨b, off, ha, hlt, hc⟩ := h hl
  exact ⟨b, off, ha, Nat.lt_of_lt_of_le hlt hb.size, fun i s hs j hj => (hb.cell (p := ⟨b, _, none⟩) hlt).trans (hc i s hs j hj)⟩
theorem up_lt {a v : D} {l : List (D × Int × Int)} {k : Nat} (h : k < l.length) : (upR a v l k).length < l.length :=
  Nat.lt_of_le_of_lt (Nat.le_trans (up_len a v _ 0) (by rw [List.length_take]; omega : (l.take k).length ≤ k)) h

/-- a part of a block reads so -/
structure Rs (W : World) (b o : Nat) (cs : List Value) : Prop where
  lt : b < W.heap.size
  c : ∀ j, j < cs.length → W.cell? ⟨b, o + j, none⟩ = cs[j]?
theorem Rs.kept {W W' : World} {b o : Nat} {cs : List Value} (h : Rs W b o cs) (hb : Below W.heap.size W W') : Rs W' b o cs :=
  ⟨Nat.lt_of_lt_of_le h.lt hb.size, fun j hj => (hb.cell (p := ⟨b, _, none⟩) h.lt).trans (h.c j hj)⟩
theorem Rs.alc {W : World} {b o : Nat} {cs : List Value} (h : Rs W b o cs) (x : Obj) : Rs (W.alloc x) b o cs := h.kept ((Below.refl _ _).alloc (Nat.le_refl _) x)
theorem Rs.drew {W : World} {b o : Nat} {cs : List Value} (h : Rs W b o cs) : Rs W.drew b o cs := h.kept (Below.refl _ _).drew
theorem Rs.set {W : World} {b o c i : Nat} {u : Value} {cs : List Value} (h : Rs W b o cs) (ne : ¬ (b = c)) : Rs (W.setCell ⟨c, i, none⟩ u) b o cs :=
  ⟨by simpa using h.lt, fun j hj => (World.cell?_setCell_other _ _ _ _ (fun e => ne (by injection e with e; exact e.symm))).trans (h.c j hj)⟩
theorem Rd.alc {W : World} {b : Nat} {cs : List Value} (h : Rd W b cs) (x : Obj) : Rd (W.alloc x) b cs := h.kept ((Below.refl _ _).alloc (Nat.le_refl _) x)
theorem Rd.drew {W : World} {b : Nat} {cs : List Value} (h : Rd W b cs) : Rd W.drew b cs := h.kept (Below.refl _ _).drew
theorem goOn_in {e : Int} {r : R} (h : (goOn e r).e = 0) : e = 0 ∧ r.e = 0 ∧ goOn e r = r := by
  have := goOn_e h
  subst this
  rw [goOn0] at h ⊢
  exact ⟨rfl, h, rfl⟩
theorem add_in {a b c d : Int} (h : (addR a b c d).e = 0) : vB (addR a b c d).lo (addR a b c d).hi = true := by
  obtain ⟨e, v1, v2, b1, b2⟩ := add_v h
  rw [e]
  have h1 := vB_iff.1 v1
  have h2 := vB_iff.1 v2
  exact vB_iff.2 ⟨b1, by dsimp only; omega, b2⟩
theorem dot_in {s t : D} (h : (dotR s t).e = 0) : vB (dotR s t).lo (dotR s t).hi = true := by
  unfold dotR at h ⊢
  split at h
  · rename_i hv
    rw [if_pos hv]
    unfold onlyR at h ⊢
    split at h
    · rename_i h0
      rw [if_pos h0]
      dsimp only
      unfold sumG at h0 ⊢
      obtain ⟨_, h1, h2⟩ := goOn_in h0
      rw [h2]
      exact add_in h1
    · exact absurd h (by assumption)
  · cases h

structure Wg (na : Option Addr) (nc dc k n po b0 pb cb : Nat) (i0 i1 p q al ah gl gh ge : Int) (da : Option Addr) (w0 w : World) (l0 l1 l2 l3 l4 l5 l6 l7 l8 l9 l10 l11 l12 : Bool) (v0 v1 v2 v3 v4 v5 v6 v7 v8 v9 v10 v12 : Value) (b10 : Nat) : Prop where
  g : Ho w0 w (cb + 1) [(cb, [.int .i64 al, .int .i64 ah])]
  sz : (cb + 1) ≤ w.heap.size
  mn : (cb + 1) ≤ (cb + 1)
  u0 : Rd w b0 [.slice na n nc, .slice (some ⟨pb, po, none⟩) n dc, .int .i64 i0, .int .i64 i1]
  un0 : b0 < (cb + 1)
  u1 : Rs w pb (po + k * 2) [.int .i64 p, .int .i64 q]
  un1 : pb < (cb + 1)
  ev0 : l0 = true → v0 = .pointer (some ⟨b0, 1, none⟩)
  ev1 : l1 = true → v1 = .slice (some ⟨pb, po, none⟩) n dc
  ev2 : l2 = true → v2 = .int .i64 k
  ev3 : l3 = true → v3 = .pointer (some ⟨pb, po + k * 2, none⟩)
  ev4 : l4 = true → v4 = (iv p q)
  ev5 : l5 = true → v5 = (iv al ah)
  ev6 : l6 = true → v6 = .tuple #[(iv gl gh), .int .i64 ge]
  ev7 : l7 = true → v7 = .tuple #[(iv gl gh), .int .i64 ge]
  ev8 : l8 = true → v8 = (iv gl gh)
  ev9 : l9 = true → v9 = .int .i64 ge
  ev10 : l10 = true → v10 = .pointer (some ⟨b10, 0, none⟩)
  ev12 : l12 = true → v12 = .int .i64 ge
  g10 : l10 = true → (cb + 1) ≤ b10
  t10 : l10 = true → b10 < w.heap.size
  o10 : l11 = true → l10 = true
  z10 : l10 = true → l11 = false → Bx w b10 [.int .i64 0, .int .i64 0]
  s10 : l11 = true → Bx w b10 [.int .i64 gl, .int .i64 gh]
theorem Wg.kept {na : Option Addr} {nc dc k n po b0 pb cb : Nat} {i0 i1 p q al ah gl gh ge : Int} {da : Option Addr} {w0 w : World} {l0 l1 l2 l3 l4 l5 l6 l7 l8 l9 l10 l11 l12 : Bool} {v0 v1 v2 v3 v4 v5 v6 v7 v8 v9 v10 v12 : Value} {b10 : Nat} {w' : World} (h : Wg na nc dc k n po b0 pb cb i0 i1 p q al ah gl gh ge da w0 w l0 l1 l2 l3 l4 l5 l6 l7 l8 l9 l10 l11 l12 v0 v1 v2 v3 v4 v5 v6 v7 v8 v9 v10 v12 b10) (hb : Below w.heap.size w w') : Wg na nc dc k n po b0 pb cb i0 i1 p q al ah gl gh ge da w0 w' l0 l1 l2 l3 l4 l5 l6 l7 l8 l9 l10 l11 l12 v0 v1 v2 v3 v4 v5 v6 v7 v8 v9 v10 v12 b10 :=
  { h with g := h.g.call hb, sz := Nat.le_trans h.sz hb.size, u0 := h.u0.kept hb, u1 := h.u1.kept hb, t10 := fun p => Nat.lt_of_lt_of_le (h.t10 p) hb.size, z10 := fun p q => (h.z10 p q).kept hb, s10 := fun p => (h.s10 p).kept hb }
def Wg.I (na : Option Addr) (nc dc k n po b0 pb cb : Nat) (i0 i1 p q al ah gl gh ge : Int) (da : Option Addr) (w0 : World) : Act → Array Bool → Act → World → Prop := fun aO LX aX w => ∃ (l0 l1 l2 l3 l4 l5 l6 l7 l8 l9 l10 l11 l12 : Bool) (v0 v1 v2 v3 v4 v5 v6 v7 v8 v9 v10 v12 : Value) (b10 : Nat), LX = #[l0, l1, l2, l3, l4, l5, l6, l7, l8, l9, l10, l11, l12] ∧ aX = ((((((((((((aO.put (some 45) v0).put (some 46) v1).put (some 47) v2).put (some 48) v3).put (some 49) v4).put (some 50) v5).put (some 51) v6).put (some 44) v7).put (some 52) v8).put (some 53) v9).put (some 10) v10).put (some 8) v12) ∧ Wg na nc dc k n po b0 pb cb i0 i1 p q al ah gl gh ge da w0 w l0 l1 l2 l3 l4 l5 l6 l7 l8 l9 l10 l11 l12 v0 v1 v2 v3 v4 v5 v6 v7 v8 v9 v10 v12 b10
set_option maxRecDepth 100000 in
set_option maxHeartbeats 16000000 in
theorem ways1_any {na da : Option Addr} {nc dc : Nat} {l : List (D × Int × Int)} {i0 i1 : Int} {a v : D} (I : Int → List W4 → World → Prop) (b0 b1 b2 fb yl : Nat) (Bk : World → Prop)
    (hrd : ∀ e xs W, I e xs W → Rd W b0 [.slice na l.length nc, .slice da l.length dc, .int .i64 i0, .int .i64 i1] ∧
      Rd W b1 [.int .i64 a.a, .int .i64 a.b, .int .i64 a.c, .int .i64 a.d, .int .i64 a.e, .int .i64 a.f, .int .i64 v.a, .int .i64 v.b, .int .i64 v.c, .int .i64 v.d, .int .i64 v.e, .int .i64 v.f] ∧
      Rd W b2 [.pointer (some ⟨fb, 0, none⟩)] ∧ NAt W na (l.map (·.1)) ∧ PAt W da (l.map (·.2)) ∧ Bx W fb [.int .i64 e])
    (hkp : ∀ e xs W W', I e xs W → Below W.heap.size W W' → I e xs W')
    (hst : ∀ xs W e, I 0 xs W → I e xs (W.setCell ⟨fb, 0, none⟩ (.int .i64 e)))
    (hbk : ∀ W W', Bk W → KeepsOthers W W' → Bk W')
    (hY : ∀ xs x W, I 0 xs W → Bk W → xs.length < l.length → YieldAt Fence.wide 0 Try.prog yl #[.agg (wcells x).toArray] W fun e W' => e = .returned (.bool true) ∧ I 0 (xs ++ [x]) W' ∧ Bk W')
    (hl6 : l.length ≤ 1000000) (W : World) (h0 : I 0 [] W) (hb0 : Bk W) :
    CallsIn Fence.wide 0 Try.prog 70 #[.func (.yield yl) #[] #[], .pointer (some ⟨b0, 0, none⟩), .pointer (some ⟨b1, 0, none⟩), .pointer (some ⟨b2, 0, none⟩)] W fun e W' =>
      (∃ u, e = .returned u) ∧ (∃ xs, I (waysR a v 0 l).e xs W' ∧ ((waysR a v 0 l).e = 0 → xs = (waysR a v 0 l).l)) ∧ Bk W' := by
  refine callsIn_of_wp Try.func70 rfl trivial (wpIn_wide.2 ?_) rfl
  simp only [Try.ntmps70, List.size_toArray, List.length_cons, List.length_nil, Nat.reduceAdd, Nat.reduceSub, Array.replicate_succ, Array.replicate_zero, List.push_toArray, List.append_toArray, List.nil_append, List.cons_append]
  obtain ⟨r0, r1, r2, rn, rp, rf⟩ := hrd _ _ _ h0
  have l0 := r0.lt
  have c0 := r0.c
  go_wp2
  go_loopw [15] (fun i wr => ∃ k : Nat, k ≤ l.length ∧ i = .int .i64 k ∧ noE a v l k ∧ I 0 (upR a v l k) wr ∧ Bk wr) (fun i _ => l.length - (intOf i).toNat)
  case atStart => exact ⟨0, Nat.zero_le _, rfl, fun i x h => absurd h (by omega), h0, hb0⟩
  case round =>
    obtain ⟨k, hk, rfl, hno, hI, hB⟩ := hrel
    clear r0 r1 r2 rn rp rf l0 c0
    obtain ⟨r0, r1, r2, rn, rp, rf⟩ := hrd _ _ _ hI
    rcases Nat.lt_or_ge k l.length with hlt | hge
    · obtain ⟨n, p, q, hx⟩ : ∃ n p q, l[k]? = some (n, p, q) := ⟨_, _, _, List.getElem?_eq_getElem hlt⟩
      obtain ⟨nb, no, hna, hnb, hN⟩ := rn (by rw [List.length_map]; omega)
      obtain ⟨pb, po, hpa, hpb, hP⟩ := rp (by rw [List.length_map]; omega)
      have hn := hN k n (by rw [List.getElem?_map, hx]; rfl)
      have hp := hP k (p, q) (by rw [List.getElem?_map, hx]; rfl)
      subst hna hpa
      have hn0 : wr.cell? ⟨nb, no + k * 6, none⟩ = some (.int .i64 n.a) := hn 0 (by decide)
      have hn1 : wr.cell? ⟨nb, no + k * 6 + 1, none⟩ = some (.int .i64 n.b) := hn 1 (by decide)
      have hn2 : wr.cell? ⟨nb, no + k * 6 + 2, none⟩ = some (.int .i64 n.c) := hn 2 (by decide)
      have hn3 : wr.cell? ⟨nb, no + k * 6 + 3, none⟩ = some (.int .i64 n.d) := hn 3 (by decide)
      have hn4 : wr.cell? ⟨nb, no + k * 6 + 4, none⟩ = some (.int .i64 n.e) := hn 4 (by decide)
      have hn5 : wr.cell? ⟨nb, no + k * 6 + 5, none⟩ = some (.int .i64 n.f) := hn 5 (by decide)
      have l1 := r1.lt
      have c1 := r1.c
      have hlt' : (k : Int) < (l.length : Int) := by omega
      have h1 : ¬ (b1 = wr.heap.size) := Nat.ne_of_lt l1
      have R1 := Lib.hid r1
      have R0 := Lib.hid r0
      have R2 := Lib.hid r2
      have RF := Lib.hid rf
      have RP := Lib.hid hp
      have HX := Lib.hid hx
      clear r0 r1 r2 rf hp rn rp hn hN hP hx
      go_wp2_with fail
      refine (ddot_any n v _).mono ?_
      rintro r w1 ⟨rfl, hb⟩
      obtain ⟨⟨cl, ch, ce⟩, hc⟩ : ∃ c, dotR n v = c := ⟨_, rfl⟩
      rw [hc]
      have HC := Lib.hid hc
      clear hc
      have I1 := hkp _ _ _ _ (hkp _ _ _ _ hI ((Below.refl _ _).alloc (Nat.le_refl _) _)) hb
      have K1 := hbk _ _ (hbk _ _ hB (KeepsOthers.alloc _ _)) (keeps_below hb)
      have nB1 : Bx w1 wr.heap.size [.int .i64 n.a, .int .i64 n.b, .int .i64 n.c, .int .i64 n.d, .int .i64 n.e, .int .i64 n.f] := (Bx.new rfl).kept hb
      have hz1 := hb.size
      simp at hz1
      clear hn0 hn1 hn2 hn3 hn4 hn5 l1 c1 h1 hb R0 R1 R2 RF RP
      by_cases z1 : ce = 0
      · subst z1
        obtain ⟨r0, r1, r2, rn, rp, rf⟩ := hrd _ _ _ I1
        have l1 := r1.lt
        have c1 := r1.c
        have h1 : ¬ (b1 = w1.heap.size) := Nat.ne_of_lt l1
        have hn1 := nB1.c
        have hl1 := nB1.lt
        have h2 : ¬ (wr.heap.size = w1.heap.size) := Nat.ne_of_lt nB1.lt
        clear r0 r1 r2 rn rp rf
        go_wp2_with fail
        refine (ddot_any n a _).mono ?_
        rintro r w2 ⟨rfl, hb⟩
        obtain ⟨⟨al, ah, ae⟩, hc⟩ : ∃ c, dotR n a = c := ⟨_, rfl⟩
        rw [hc]
        have HA := Lib.hid hc
        clear hc
        have I2 := hkp _ _ _ _ (hkp _ _ _ _ I1 ((Below.refl _ _).alloc (Nat.le_refl _) _)) hb
        have K2 := hbk _ _ (hbk _ _ K1 (KeepsOthers.alloc _ _)) (keeps_below hb)
        have cB2 : Bx w2 w1.heap.size [.int .i64 cl, .int .i64 ch] := (Bx.new rfl).kept hb
        have hz2 := hb.size
        simp at hz2
        clear l1 c1 h1 hn1 hl1 h2 hb nB1
        by_cases z2 : ae = 0
        · subst z2
          obtain ⟨r0, r1, r2, rn, rp, rf⟩ := hrd _ _ _ I2
          have H2 : Ho w2 (w2.alloc (.cells (List.toArray [.int .i64 al, .int .i64 ah]) 24)) (w2.heap.size + 1) [(w2.heap.size, [.int .i64 al, .int .i64 ah])] := (Ho.nil w2).bx [.int .i64 al, .int .i64 ah] 24 w2.heap.size rfl
          obtain ⟨pb', po', hpa, hpb, hP⟩ := rp (by rw [List.length_map]; omega)
          obtain ⟨rfl, rfl⟩ : pb = pb' ∧ po = po' := by cases hpa; exact ⟨rfl, rfl⟩
          have R0 := Lib.hid r0
          have RS := Lib.hid (Rs.mk hpb (hP k (p, q) (by rw [List.getElem?_map, HX.out]; rfl)) : Rs w2 pb (po + k * 2) [.int .i64 p, .int .i64 q])
          have l0 := r0.lt
          clear r0 r1 r2 rn rp rf hP hpa
          obtain ⟨⟨gl, gh, ge⟩, hg⟩ : ∃ r, subR p q al ah = r := ⟨_, rfl⟩
          have HG := Lib.hid hg
          clear hg
          go_upto_region 9 with fail
          refine region_sets (Wg.I (some ⟨nb, no, none⟩) nc dc k l.length po b0 pb w2.heap.size i0 i1 p q al ah gl gh ge (some ⟨pb, po, none⟩) w2) (by kernel_rfl) ?_ ?_ ?_
          · refine ⟨false, false, false, false, false, false, false, false, false, false, false, false, false, u45, u46, u47, u48, u49, u50, u51, u44, u52, u53, u10, (.int .i64 0), 0, rfl, by simp only [Act.put, List.setIfInBounds_toArray, List.set_cons_zero, List.set_cons_succ], ?_⟩
            constructor
            · (repeat (first | with_reducible exact H2 | with_reducible refine Ho.alc ?_ _ | with_reducible refine Ho.drew ?_ | with_reducible refine Ho.put ?_ (by omega)))
            · (first | (simp; done) | (simp; omega))
            · (omega)
            · (repeat (first | with_reducible exact R0.out | with_reducible refine Rd.alc ?_ _ | with_reducible refine Rd.drew ?_))
            · (omega)
            · (repeat (first | with_reducible exact RS.out | with_reducible refine Rs.alc ?_ _ | with_reducible refine Rs.drew ?_))
            · (omega)
            all_goals (intro h; cases h)
          · intro L a' w' hI i hi
            obtain ⟨l0, l1, l2, l3, l4, l5, l6, l7, l8, l9, l10, l11, l12, v0, v1, v2, v3, v4, v5, v6, v7, v8, v9, v10, v12, b10, rfl, rfl, h⟩ := hI
            have hlt := ready_lt hi
            match i, hi, hlt with
            | 0, hi, _ =>
              have l' : l0 = false := (ready_op (o := _) rfl hi).1
              subst l'
              clear hi hlt
              have H := Lib.hid h
              clear h
              refine wpOp_shut rfl (fun K hK => ?_)
              try simp only [Act.put, List.setIfInBounds_toArray, List.set_cons_zero, List.set_cons_succ]
              go_simp
              refine hK.out _ _ ?_
              unfold Wg.I
              refine ⟨true, l1, l2, l3, l4, l5, l6, l7, l8, l9, l10, l11, l12, (.pointer (some ⟨b0, 1, none⟩)), v1, v2, v3, v4, v5, v6, v7, v8, v9, v10, v12, b10, rfl, ?_, ?_⟩
              · simp only [Act.put, List.setIfInBounds_toArray, List.set_cons_zero, List.set_cons_succ]
              · exact { H.out with ev0 := fun _ => rfl }
            | 1, hi, _ =>
              have l' : l1 = false := (ready_op (o := _) rfl hi).1
              subst l'
              have k0 : l0 = true := (ready_op (o := _) rfl hi).2 { on := 0, ground := .data } (by simp) rfl
              clear hi hlt
              subst k0
              obtain rfl := h.ev0 rfl
              have c := h.u0.c
              have H := Lib.hid h
              clear h
              refine wpOp_shut rfl (fun K hK => ?_)
              try simp only [Act.put, List.setIfInBounds_toArray, List.set_cons_zero, List.set_cons_succ]
              go_simp
              refine hK.out _ _ ?_
              unfold Wg.I
              refine ⟨true, true, l2, l3, l4, l5, l6, l7, l8, l9, l10, l11, l12, (.pointer (some ⟨b0, 1, none⟩)), (.slice (some ⟨pb, po, none⟩) l.length dc), v2, v3, v4, v5, v6, v7, v8, v9, v10, v12, b10, rfl, ?_, ?_⟩
              · simp only [Act.put, List.setIfInBounds_toArray, List.set_cons_zero, List.set_cons_succ]
              · exact { H.out with ev1 := fun _ => rfl }
            | 2, hi, _ =>
              have l' : l2 = false := (ready_op (o := _) rfl hi).1
              subst l'
              clear hi hlt
              have H := Lib.hid h
              clear h
              refine wpOp_shut rfl (fun K hK => ?_)
              try simp only [Act.put, List.setIfInBounds_toArray, List.set_cons_zero, List.set_cons_succ]
              go_simp
              refine hK.out _ _ ?_
              unfold Wg.I
              refine ⟨l0, l1, true, l3, l4, l5, l6, l7, l8, l9, l10, l11, l12, v0, v1, (.int .i64 k), v3, v4, v5, v6, v7, v8, v9, v10, v12, b10, rfl, ?_, ?_⟩
              · simp only [Act.put, List.setIfInBounds_toArray, List.set_cons_zero, List.set_cons_succ]
              · exact { H.out with ev2 := fun _ => rfl }
            | 3, hi, _ =>
              have l' : l3 = false := (ready_op (o := _) rfl hi).1
              subst l'
              have k1 : l1 = true := (ready_op (o := _) rfl hi).2 { on := 1, ground := .data } (by simp) rfl
              have k2 : l2 = true := (ready_op (o := _) rfl hi).2 { on := 2, ground := .data } (by simp) rfl
              clear hi hlt
              subst k1
              subst k2
              obtain rfl := h.ev1 rfl
              obtain rfl := h.ev2 rfl
              have H := Lib.hid h
              clear h
              refine wpOp_shut rfl (fun K hK => ?_)
              try simp only [Act.put, List.setIfInBounds_toArray, List.set_cons_zero, List.set_cons_succ]
              go_simp
              refine hK.out _ _ ?_
              unfold Wg.I
              refine ⟨l0, true, true, true, l4, l5, l6, l7, l8, l9, l10, l11, l12, v0, (.slice (some ⟨pb, po, none⟩) l.length dc), (.int .i64 k), (.pointer (some ⟨pb, po + k * 2, none⟩)), v4, v5, v6, v7, v8, v9, v10, v12, b10, rfl, ?_, ?_⟩
              · simp only [Act.put, List.setIfInBounds_toArray, List.set_cons_zero, List.set_cons_succ]
              · exact { H.out with ev3 := fun _ => rfl }
            | 4, hi, _ =>
              have l' : l4 = false := (ready_op (o := _) rfl hi).1
              subst l'
              have k3 : l3 = true := (ready_op (o := _) rfl hi).2 { on := 3, ground := .data } (by simp) rfl
              clear hi hlt
              subst k3
              obtain rfl := h.ev3 rfl
              have c0 : w'.cell? ⟨pb, po + k * 2, none⟩ = some (.int .i64 p) := h.u1.c 0 (by simp)
              have c1 : w'.cell? ⟨pb, po + k * 2 + 1, none⟩ = some (.int .i64 q) := h.u1.c 1 (by simp)
              have H := Lib.hid h
              clear h
              refine wpOp_shut rfl (fun K hK => ?_)
              try simp only [Act.put, List.setIfInBounds_toArray, List.set_cons_zero, List.set_cons_succ]
              go_simp
              refine hK.out _ _ ?_
              unfold Wg.I
              refine ⟨l0, l1, l2, true, true, l5, l6, l7, l8, l9, l10, l11, l12, v0, v1, v2, (.pointer (some ⟨pb, po + k * 2, none⟩)), ((iv p q)), v5, v6, v7, v8, v9, v10, v12, b10, rfl, ?_, ?_⟩
              · simp only [Act.put, List.setIfInBounds_toArray, List.set_cons_zero, List.set_cons_succ]
              · exact { H.out with ev4 := fun _ => rfl }
            | 5, hi, _ =>
              have l' : l5 = false := (ready_op (o := _) rfl hi).1
              subst l'
              clear hi hlt
              have c := (h.g.at 0 rfl).c
              have H := Lib.hid h
              clear h
              refine wpOp_shut rfl (fun K hK => ?_)
              try simp only [Act.put, List.setIfInBounds_toArray, List.set_cons_zero, List.set_cons_succ]
              go_simp
              refine hK.out _ _ ?_
              unfold Wg.I
              refine ⟨l0, l1, l2, l3, l4, true, l6, l7, l8, l9, l10, l11, l12, v0, v1, v2, v3, v4, ((iv al ah)), v6, v7, v8, v9, v10, v12, b10, rfl, ?_, ?_⟩
              · simp only [Act.put, List.setIfInBounds_toArray, List.set_cons_zero, List.set_cons_succ]
              · exact { H.out with ev5 := fun _ => rfl }
            | 6, hi, _ =>
              have l' : l6 = false := (ready_op (o := _) rfl hi).1
              subst l'
              have k4 : l4 = true := (ready_op (o := _) rfl hi).2 { on := 4, ground := .data } (by simp) rfl
              have k5 : l5 = true := (ready_op (o := _) rfl hi).2 { on := 5, ground := .data } (by simp) rfl
              clear hi hlt
              subst k4
              subst k5
              obtain rfl := h.ev4 rfl
              obtain rfl := h.ev5 rfl
              have H := Lib.hid h
              clear h
              refine wpOp_shut rfl (fun K hK => ?_)
              try simp only [Act.put, List.setIfInBounds_toArray, List.set_cons_zero, List.set_cons_succ]
              go_simp
              refine (sub_any p q al ah _).mono ?_
              rintro e wY ⟨rfl, hb⟩
              rw [HG.out]
              unfold retR
              dsimp only
              try go_simp
              refine hK.out _ _ ?_
              unfold Wg.I
              refine ⟨l0, l1, l2, l3, true, true, true, l7, l8, l9, l10, l11, l12, v0, v1, v2, v3, ((iv p q)), ((iv al ah)), (.tuple #[(iv gl gh), .int .i64 ge]), v7, v8, v9, v10, v12, b10, rfl, ?_, ?_⟩
              · simp only [Act.put, List.setIfInBounds_toArray, List.set_cons_zero, List.set_cons_succ]
              · exact { (H.out.kept hb) with ev6 := fun _ => rfl }
            | 7, hi, _ =>
              have l' : l7 = false := (ready_op (o := _) rfl hi).1
              subst l'
              have k6 : l6 = true := (ready_op (o := _) rfl hi).2 { on := 6, ground := .data } (by simp) rfl
              clear hi hlt
              subst k6
              obtain rfl := h.ev6 rfl
              have H := Lib.hid h
              clear h
              refine wpOp_shut rfl (fun K hK => ?_)
              try simp only [Act.put, List.setIfInBounds_toArray, List.set_cons_zero, List.set_cons_succ]
              go_simp
              refine hK.out _ _ ?_
              unfold Wg.I
              refine ⟨l0, l1, l2, l3, l4, l5, true, true, l8, l9, l10, l11, l12, v0, v1, v2, v3, v4, v5, (.tuple #[(iv gl gh), .int .i64 ge]), (.tuple #[(iv gl gh), .int .i64 ge]), v8, v9, v10, v12, b10, rfl, ?_, ?_⟩
              · simp only [Act.put, List.setIfInBounds_toArray, List.set_cons_zero, List.set_cons_succ]
              · exact { H.out with ev7 := fun _ => rfl }
            | 8, hi, _ =>
              have l' : l8 = false := (ready_op (o := _) rfl hi).1
              subst l'
              have k7 : l7 = true := (ready_op (o := _) rfl hi).2 { on := 7, ground := .data } (by simp) rfl
              clear hi hlt
              subst k7
              obtain rfl := h.ev7 rfl
              have H := Lib.hid h
              clear h
              refine wpOp_shut rfl (fun K hK => ?_)
              try simp only [Act.put, List.setIfInBounds_toArray, List.set_cons_zero, List.set_cons_succ]
              go_simp
              refine hK.out _ _ ?_
              unfold Wg.I
              refine ⟨l0, l1, l2, l3, l4, l5, l6, true, true, l9, l10, l11, l12, v0, v1, v2, v3, v4, v5, v6, (.tuple #[(iv gl gh), .int .i64 ge]), ((iv gl gh)), v9, v10, v12, b10, rfl, ?_, ?_⟩
              · simp only [Act.put, List.setIfInBounds_toArray, List.set_cons_zero, List.set_cons_succ]
              · exact { H.out with ev8 := fun _ => rfl }
            | 9, hi, _ =>
              have l' : l9 = false := (ready_op (o := _) rfl hi).1
              subst l'
              have k7 : l7 = true := (ready_op (o := _) rfl hi).2 { on := 7, ground := .data } (by simp) rfl
              clear hi hlt
              subst k7
              obtain rfl := h.ev7 rfl
              have H := Lib.hid h
              clear h
              refine wpOp_shut rfl (fun K hK => ?_)
              try simp only [Act.put, List.setIfInBounds_toArray, List.set_cons_zero, List.set_cons_succ]
              go_simp
              refine hK.out _ _ ?_
              unfold Wg.I
              refine ⟨l0, l1, l2, l3, l4, l5, l6, true, l8, true, l10, l11, l12, v0, v1, v2, v3, v4, v5, v6, (.tuple #[(iv gl gh), .int .i64 ge]), v8, (.int .i64 ge), v10, v12, b10, rfl, ?_, ?_⟩
              · simp only [Act.put, List.setIfInBounds_toArray, List.set_cons_zero, List.set_cons_succ]
              · exact { H.out with ev9 := fun _ => rfl }
            | 10, hi, _ =>
              have l' : l10 = false := (ready_op (o := _) rfl hi).1
              subst l'
              clear hi hlt
              have H := Lib.hid h
              clear h
              refine wpOp_shut rfl (fun K hK => ?_)
              try simp only [Act.put, List.setIfInBounds_toArray, List.set_cons_zero, List.set_cons_succ]
              go_simp
              refine hK.out _ _ ?_
              unfold Wg.I
              refine ⟨l0, l1, l2, l3, l4, l5, l6, l7, l8, l9, true, l11, l12, v0, v1, v2, v3, v4, v5, v6, v7, v8, v9, (.pointer (some ⟨w'.heap.size, 0, none⟩)), v12, w'.heap.size, rfl, ?_, ?_⟩
              · simp only [Act.put, List.setIfInBounds_toArray, List.set_cons_zero, List.set_cons_succ]
              · have h := H.out
                have h2 := h.kept ((Below.refl _ _).alloc (Nat.le_refl _) (.cells (List.toArray [.int .i64 0, .int .i64 0]) 24))
                exact { h2 with ev10 := fun _ => rfl, g10 := fun _ => h.sz, t10 := fun _ => by simp, o10 := fun p => rfl, z10 := fun _ _ => Bx.new rfl, s10 := fun p => (nomatch (h.o10 p)) }
            | 11, hi, _ =>
              have l' : l11 = false := (ready_op (o := _) rfl hi).1
              subst l'
              have k10 : l10 = true := (ready_op (o := _) rfl hi).2 { on := 10, ground := .phase } (by simp) rfl
              have k8 : l8 = true := (ready_op (o := _) rfl hi).2 { on := 8, ground := .phase } (by simp) rfl
              have k6 : l6 = true := (ready_op (o := _) rfl hi).2 { on := 6, ground := .phase } (by simp) rfl
              have k0 : l0 = true := (ready_op (o := _) rfl hi).2 { on := 0, ground := .phase } (by simp) rfl
              have k1 : l1 = true := (ready_op (o := _) rfl hi).2 { on := 1, ground := .phase } (by simp) rfl
              have k2 : l2 = true := (ready_op (o := _) rfl hi).2 { on := 2, ground := .phase } (by simp) rfl
              have k3 : l3 = true := (ready_op (o := _) rfl hi).2 { on := 3, ground := .phase } (by simp) rfl
              have k4 : l4 = true := (ready_op (o := _) rfl hi).2 { on := 4, ground := .phase } (by simp) rfl
              have k5 : l5 = true := (ready_op (o := _) rfl hi).2 { on := 5, ground := .phase } (by simp) rfl
              have k7 : l7 = true := (ready_op (o := _) rfl hi).2 { on := 7, ground := .phase } (by simp) rfl
              clear hi hlt
              subst k10
              subst k8
              subst k6
              subst k0
              subst k1
              subst k2
              subst k3
              subst k4
              subst k5
              subst k7
              obtain rfl := h.ev10 rfl
              obtain rfl := h.ev8 rfl
              obtain rfl := h.ev6 rfl
              obtain rfl := h.ev0 rfl
              obtain rfl := h.ev1 rfl
              obtain rfl := h.ev2 rfl
              obtain rfl := h.ev3 rfl
              obtain rfl := h.ev4 rfl
              obtain rfl := h.ev5 rfl
              obtain rfl := h.ev7 rfl
              have bz := h.z10 rfl rfl
              have c := bz.c
              have f := bz.f
              clear bz
              have H := Lib.hid h
              clear h
              refine wpOp_shut rfl (fun K hK => ?_)
              try simp only [Act.put, List.setIfInBounds_toArray, List.set_cons_zero, List.set_cons_succ]
              go_simp
              refine hK.out _ _ ?_
              unfold Wg.I
              refine ⟨true, true, true, true, true, true, true, true, true, l9, true, true, l12, (.pointer (some ⟨b0, 1, none⟩)), (.slice (some ⟨pb, po, none⟩) l.length dc), (.int .i64 k), (.pointer (some ⟨pb, po + k * 2, none⟩)), ((iv p q)), ((iv al ah)), (.tuple #[(iv gl gh), .int .i64 ge]), (.tuple #[(iv gl gh), .int .i64 ge]), ((iv gl gh)), v9, (.pointer (some ⟨b10, 0, none⟩)), v12, b10, rfl, ?_, ?_⟩
              · simp only [Act.put, List.setIfInBounds_toArray, List.set_cons_zero, List.set_cons_succ]
              · have h := H.out
                have gb := h.g10 rfl
                have gm := Nat.le_trans h.mn gb
                exact { h with g := ((h.g.put gm).put gm), sz := by simpa using h.sz, o10 := fun _ => rfl, z10 := fun _ p => (nomatch p), s10 := fun _ => (((h.z10 rfl rfl).put).put), t10 := fun p => by simpa using h.t10 p, u0 := ((h.u0.set (Nat.ne_of_lt (Nat.lt_of_lt_of_le h.un0 gb))).set (Nat.ne_of_lt (Nat.lt_of_lt_of_le h.un0 gb))), u1 := ((h.u1.set (Nat.ne_of_lt (Nat.lt_of_lt_of_le h.un1 gb))).set (Nat.ne_of_lt (Nat.lt_of_lt_of_le h.un1 gb))) }
            | 12, hi, _ =>
              have l' : l12 = false := (ready_op (o := _) rfl hi).1
              subst l'
              have k9 : l9 = true := (ready_op (o := _) rfl hi).2 { on := 9, ground := .phase } (by simp) rfl
              have k11 : l11 = true := (ready_op (o := _) rfl hi).2 { on := 11, ground := .phase } (by simp) rfl
              have k0 : l0 = true := (ready_op (o := _) rfl hi).2 { on := 0, ground := .phase } (by simp) rfl
              have k1 : l1 = true := (ready_op (o := _) rfl hi).2 { on := 1, ground := .phase } (by simp) rfl
              have k2 : l2 = true := (ready_op (o := _) rfl hi).2 { on := 2, ground := .phase } (by simp) rfl
              have k3 : l3 = true := (ready_op (o := _) rfl hi).2 { on := 3, ground := .phase } (by simp) rfl
              have k4 : l4 = true := (ready_op (o := _) rfl hi).2 { on := 4, ground := .phase } (by simp) rfl
              have k5 : l5 = true := (ready_op (o := _) rfl hi).2 { on := 5, ground := .phase } (by simp) rfl
              have k6 : l6 = true := (ready_op (o := _) rfl hi).2 { on := 6, ground := .phase } (by simp) rfl
              have k7 : l7 = true := (ready_op (o := _) rfl hi).2 { on := 7, ground := .phase } (by simp) rfl
              have k8 : l8 = true := (ready_op (o := _) rfl hi).2 { on := 8, ground := .phase } (by simp) rfl
              have k10 : l10 = true := (ready_op (o := _) rfl hi).2 { on := 10, ground := .phase } (by simp) rfl
              clear hi hlt
              subst k9
              subst k11
              subst k0
              subst k1
              subst k2
              subst k3
              subst k4
              subst k5
              subst k6
              subst k7
              subst k8
              subst k10
              obtain rfl := h.ev9 rfl
              obtain rfl := h.ev0 rfl
              obtain rfl := h.ev1 rfl
              obtain rfl := h.ev2 rfl
              obtain rfl := h.ev3 rfl
              obtain rfl := h.ev4 rfl
              obtain rfl := h.ev5 rfl
              obtain rfl := h.ev6 rfl
              obtain rfl := h.ev7 rfl
              obtain rfl := h.ev8 rfl
              obtain rfl := h.ev10 rfl
              have H := Lib.hid h
              clear h
              refine wpOp_shut rfl (fun K hK => ?_)
              try simp only [Act.put, List.setIfInBounds_toArray, List.set_cons_zero, List.set_cons_succ]
              go_simp
              refine hK.out _ _ ?_
              unfold Wg.I
              refine ⟨true, true, true, true, true, true, true, true, true, true, true, true, true, (.pointer (some ⟨b0, 1, none⟩)), (.slice (some ⟨pb, po, none⟩) l.length dc), (.int .i64 k), (.pointer (some ⟨pb, po + k * 2, none⟩)), ((iv p q)), ((iv al ah)), (.tuple #[(iv gl gh), .int .i64 ge]), (.tuple #[(iv gl gh), .int .i64 ge]), ((iv gl gh)), (.int .i64 ge), (.pointer (some ⟨b10, 0, none⟩)), (.int .i64 ge), b10, rfl, ?_, ?_⟩
              · simp only [Act.put, List.setIfInBounds_toArray, List.set_cons_zero, List.set_cons_succ]
              · exact { H.out with ev12 := fun _ => rfl }
            | i + 13, _, hlt => exact absurd hlt (by simp)
          · intro L a' w' hI hn
            obtain ⟨l0, l1, l2, l3, l4, l5, l6, l7, l8, l9, l10, l11, l12, v0, v1, v2, v3, v4, v5, v6, v7, v8, v9, v10, v12, b10, rfl, rfl, h⟩ := hI
            have k0 : l0 = true := not_ready (i := 0) (o := _) rfl hn (by simp [Region.binds])
            subst k0
            have k1 : l1 = true := not_ready (i := 1) (o := _) rfl hn (by simp [Region.binds])
            subst k1
            have k2 : l2 = true := not_ready (i := 2) (o := _) rfl hn (by simp [Region.binds])
            subst k2
            have k3 : l3 = true := not_ready (i := 3) (o := _) rfl hn (by simp [Region.binds])
            subst k3
            have k4 : l4 = true := not_ready (i := 4) (o := _) rfl hn (by simp [Region.binds])
            subst k4
            have k5 : l5 = true := not_ready (i := 5) (o := _) rfl hn (by simp [Region.binds])
            subst k5
            have k6 : l6 = true := not_ready (i := 6) (o := _) rfl hn (by simp [Region.binds])
            subst k6
            have k7 : l7 = true := not_ready (i := 7) (o := _) rfl hn (by simp [Region.binds])
            subst k7
            have k8 : l8 = true := not_ready (i := 8) (o := _) rfl hn (by simp [Region.binds])
            subst k8
            have k9 : l9 = true := not_ready (i := 9) (o := _) rfl hn (by simp [Region.binds])
            subst k9
            have k10 : l10 = true := not_ready (i := 10) (o := _) rfl hn (by simp [Region.binds])
            subst k10
            have k11 : l11 = true := not_ready (i := 11) (o := _) rfl hn (by simp [Region.binds])
            subst k11
            have k12 : l12 = true := not_ready (i := 12) (o := _) rfl hn (by simp [Region.binds])
            subst k12
            clear hn
            obtain rfl := h.ev0 rfl
            obtain rfl := h.ev1 rfl
            obtain rfl := h.ev2 rfl
            obtain rfl := h.ev3 rfl
            obtain rfl := h.ev4 rfl
            obtain rfl := h.ev5 rfl
            obtain rfl := h.ev6 rfl
            obtain rfl := h.ev7 rfl
            obtain rfl := h.ev8 rfl
            obtain rfl := h.ev9 rfl
            obtain rfl := h.ev10 rfl
            obtain rfl := h.ev12 rfl
            simp only [Act.put, List.setIfInBounds_toArray, List.set_cons_zero, List.set_cons_succ]
            have I3 := hkp _ _ _ _ I2 h.g.below
            have K3 := hbk _ _ K2 (keeps_below h.g.below)
            have cB3 := cB2.kept h.g.below
            have gB3 := h.s10 rfl
            have hz3 := h.sz
            clear h R0 RS H2 cB2
            by_cases z3 : ge = 0
            · subst z3
              have EF : faceR k n (p, q) a v = ⟨0, wayF k ⟨cl, ch, 0⟩ ⟨gl, gh, 0⟩⟩ := by
                rw [faceR, HC.out, if_pos rfl, HA.out, if_pos rfl]
                dsimp only
                rw [HG.out, if_pos rfl]
              have cc := cB3.c
              have gc := gB3.c
              have lc := cB3.lt
              have lg := gB3.lt
              have nc' : ¬ (w1.heap.size = w'.heap.size) := Nat.ne_of_lt lc
              have ng' : ¬ (b10 = w'.heap.size) := Nat.ne_of_lt lg
              have i15 : IntKind.i64.wrap ((k : Int) + 1) = (k : Int) + 1 := IntWalk.i64_in _ (by omega)
              by_cases z4 : ch ≤ 0
              · have E : (faceR k n (p, q) a v).e = 0 := by rw [EF]
                have EU := up_next hno HX.out E
                rw [EF] at EU
                rw [wayF, if_pos z4] at EU
                have EUH := Lib.hid EU
                clear EU E EF cB3 gB3
                go_wp2
                go_roundw
                case rel => exact ⟨k + 1, hlt, by simp, EUH.out.2, by rw [EUH.out.1]; simpa using I3, K3⟩
                case measure => simp only [intOf]; omega
              · have HB := Lib.hid (dot_in (s := n) (t := v) (by rw [HC.out]))
                have HS := Lib.hid (sub_v (by rw [HG.out] : (subR p q al ah).e = 0))
                obtain ⟨bc1, bc2, bc3⟩ : -1073741824 ≤ cl ∧ cl ≤ ch ∧ ch ≤ 1073741824 := by have := HB.out; rw [HC.out] at this; exact vB_iff.1 this
                obtain ⟨bg1, bg2, bg3⟩ : -1073741824 ≤ gl ∧ gl ≤ gh ∧ gh ≤ 1073741824 := by
                  obtain ⟨e1, v1, v2, b1, b2⟩ := HS.out
                  rw [HG.out] at e1
                  injection e1 with e1 e2
                  have h1 := vB_iff.1 v1
                  have h2 := vB_iff.1 v2
                  omega
                clear HB HS
                have hch : ¬ (ch = 0) := by omega
                have m1 : IntKind.i64.wrap (max 0 gl * 16777216) = max 0 gl * 16777216 := IntWalk.i64_in _ (by omega)
                have tb := td_bd (max 0 gl * 16777216) ch
                have m2 : IntKind.i64.wrap ((max 0 gl * 16777216).tdiv ch) = (max 0 gl * 16777216).tdiv ch := IntWalk.i64_in _ (by omega)
                have EFH := Lib.hid EF
                clear EF tb cB3 gB3
                have HI3 := Lib.hid I3
                by_cases z5 : 0 < cl
                · have hcl : ¬ (cl = 0) := by omega
                  have m3 : IntKind.i64.wrap (max 0 gh * 16777216) = max 0 gh * 16777216 := IntWalk.i64_in _ (by omega)
                  have m4 : IntKind.i64.wrap (max 0 gh * 16777216 + cl) = max 0 gh * 16777216 + cl := IntWalk.i64_in _ (by omega)
                  have m5 : IntKind.i64.wrap (max 0 gh * 16777216 + cl - 1) = max 0 gh * 16777216 + cl - 1 := IntWalk.i64_in _ (by omega)
                  have tb := td_bd (max 0 gh * 16777216 + cl - 1) cl
                  have m6 : IntKind.i64.wrap ((max 0 gh * 16777216 + cl - 1).tdiv cl) = (max 0 gh * 16777216 + cl - 1).tdiv cl := IntWalk.i64_in _ (by omega)
                  clear tb bc1 bc2 bc3 bg1 bg2 bg3
                  go_upto_region 17 with fail
                  have EW : (faceR k n (p, q) a v).w = some ⟨k, (max 0 gl * 16777216).tdiv ch, (max 0 gh * 16777216 + cl - 1).tdiv cl, true⟩ := by
                    rw [EFH.out]
                    dsimp only
                    rw [wayF, if_neg z4, if_pos z5, decide_eq_true z5]
                  clear m3 m4 m5 m6
                  have EU := Lib.hid (up_next hno HX.out (by rw [EFH.out]))
                  refine yield_reg (x := ⟨k, (max 0 gl * 16777216).tdiv ch, (max 0 gh * 16777216 + cl - 1).tdiv cl, true⟩) (R := fun W' => I 0 (upR a v l k ++ [⟨k, (max 0 gl * 16777216).tdiv ch, (max 0 gh * 16777216 + cl - 1).tdiv cl, true⟩]) W' ∧ Bk W') _ _ _ _ _ _ _ _ _ _ _ _ _ _ _ _ _ _ _ _ _ _ _ _ _ _ _ _ _ _ _ _ _ _ _ _ _ _ _ _ _ _ _ _ _ _ _ _ _ _ _ _ _ _ _ _ _ _ _ _ _ _ _ _ _ _ _ _ _ _ _ _ _ _ _ _ _ _ _ _ _ _ _ _ _ _ _ _ _ _ (by simp) (by simp) (by simp) (by simp) (by simp) (hY _ _ _ (hkp _ _ _ _ HI3.out ((Below.refl _ _).alloc (Nat.le_refl _) _)) (hbk _ _ K3 (KeepsOthers.alloc _ _)) (up_lt hlt)) ?_
                  rintro W5 ⟨I5, K5⟩
                  dsimp only
                  have EU2 : upR a v l (k + 1) = upR a v l k ++ [⟨k, (max 0 gl * 16777216).tdiv ch, (max 0 gh * 16777216 + cl - 1).tdiv cl, true⟩] := by
                    rw [EU.out.1, EW]
                    rfl
                  have EUH := Lib.hid EU2
                  have EWH := Lib.hid EW
                  clear EU2 EW cc gc lc lg nc' ng' m1 m2
                  go_wp2
                  go_roundw
                  case rel => exact ⟨k + 1, hlt, by simp, EU.out.2, by rw [EUH.out]; exact I5, K5⟩
                  case measure => simp only [intOf]; omega
                · clear bc1 bc2 bc3 bg1 bg2 bg3
                  go_upto_region 17 with fail
                  have EW : (faceR k n (p, q) a v).w = some ⟨k, (max 0 gl * 16777216).tdiv ch, 0, false⟩ := by
                    rw [EFH.out]
                    dsimp only
                    rw [wayF, if_neg z4, if_neg z5, decide_eq_false z5]
                  have EU := Lib.hid (up_next hno HX.out (by rw [EFH.out]))
                  refine yield_reg (x := ⟨k, (max 0 gl * 16777216).tdiv ch, 0, false⟩) (R := fun W' => I 0 (upR a v l k ++ [⟨k, (max 0 gl * 16777216).tdiv ch, 0, false⟩]) W' ∧ Bk W') _ _ _ _ _ _ _ _ _ _ _ _ _ _ _ _ _ _ _ _ _ _ _ _ _ _ _ _ _ _ _ _ _ _ _ _ _ _ _ _ _ _ _ _ _ _ _ _ _ _ _ _ _ _ _ _ _ _ _ _ _ _ _ _ _ _ _ _ _ _ _ _ _ _ _ _ _ _ _ _ _ _ _ _ _ _ _ _ _ _ (by simp) (by simp) (by simp) (by simp) (by simp) (hY _ _ _ (hkp _ _ _ _ HI3.out ((Below.refl _ _).alloc (Nat.le_refl _) _)) (hbk _ _ K3 (KeepsOthers.alloc _ _)) (up_lt hlt)) ?_
                  rintro W5 ⟨I5, K5⟩
                  dsimp only
                  have EU2 : upR a v l (k + 1) = upR a v l k ++ [⟨k, (max 0 gl * 16777216).tdiv ch, 0, false⟩] := by
                    rw [EU.out.1, EW]
                    rfl
                  have EUH := Lib.hid EU2
                  have EWH := Lib.hid EW
                  clear EU2 EW cc gc lc lg nc' ng' m1 m2
                  go_wp2
                  go_roundw
                  case rel => exact ⟨k + 1, hlt, by simp, EU.out.2, by rw [EUH.out]; exact I5, K5⟩
                  case measure => simp only [intOf]; omega
            · obtain ⟨r0, r1, r2, rn, rp, rf⟩ := hrd _ _ _ I3
              have l2 := r2.lt
              have c2 := r2.c
              have lf := rf.lt
              have cf := rf.c
              have ff := rf.f
              have n2 : ¬ (b2 = w'.heap.size) := Nat.ne_of_lt l2
              have nf : ¬ (fb = w'.heap.size) := Nat.ne_of_lt lf
              clear r0 r1 r2 rn rp rf
              go_wp2
              have E : (faceR k n (p, q) a v).e = ge := by
                rw [faceR, HC.out]
                rw [if_pos rfl, HA.out, if_pos rfl]
                dsimp only
                rw [HG.out, if_neg z3]
              have E2 : (waysR a v 0 l).e = ge := (ways_err hno HX.out (by rw [E]; exact z3)).trans E
              refine bodyPost_ret (results_none rfl _ _ _) rfl ?_
              refine ⟨⟨_, rfl⟩, ⟨_, by rw [E2]; exact hst _ _ _ I3, fun h => absurd (E2.symm.trans h) z3⟩, hbk _ _ K3 (KeepsOthers.setCell _ _ _)⟩
        · obtain ⟨r0, r1, r2, rn, rp, rf⟩ := hrd _ _ _ I2
          have l2 := r2.lt
          have c2 := r2.c
          have lf := rf.lt
          have cf := rf.c
          have ff := rf.f
          have n2 : ¬ (b2 = w2.heap.size) := Nat.ne_of_lt l2
          have nf : ¬ (fb = w2.heap.size) := Nat.ne_of_lt lf
          clear r0 r1 r2 rn rp rf
          go_wp2
          have E : (faceR k n (p, q) a v).e = ae := by
            rw [faceR, HC.out]
            rw [if_pos rfl, HA.out, if_neg z2]
          have E2 : (waysR a v 0 l).e = ae := (ways_err hno HX.out (by rw [E]; exact z2)).trans E
          refine bodyPost_ret (results_none rfl _ _ _) rfl ?_
          refine ⟨⟨_, rfl⟩, ⟨_, by rw [E2]; exact hkp _ _ _ _ (hst _ _ _ I2) ((Below.refl _ _).alloc (Nat.le_refl _) _), fun h => absurd (E2.symm.trans h) z2⟩, hbk _ _ (hbk _ _ K2 (KeepsOthers.setCell _ _ _)) (KeepsOthers.alloc _ _)⟩
      · obtain ⟨r0, r1, r2, rn, rp, rf⟩ := hrd _ _ _ I1
        have l2 := r2.lt
        have c2 := r2.c
        have lf := rf.lt
        have cf := rf.c
        have ff := rf.f
        have n2 : ¬ (b2 = w1.heap.size) := Nat.ne_of_lt l2
        have nf : ¬ (fb = w1.heap.size) := Nat.ne_of_lt lf
        clear r0 r1 r2 rn rp rf
        go_wp2
        have E : (faceR k n (p, q) a v).e = ce := by
          rw [faceR, HC.out]
          rw [if_neg z1]
        have E2 : (waysR a v 0 l).e = ce := (ways_err hno HX.out (by rw [E]; exact z1)).trans E
        refine bodyPost_ret (results_none rfl _ _ _) rfl ?_
        refine ⟨⟨_, rfl⟩, ⟨_, by rw [E2]; exact hkp _ _ _ _ (hst _ _ _ I1) ((Below.refl _ _).alloc (Nat.le_refl _) _), fun h => absurd (E2.symm.trans h) z1⟩, hbk _ _ (hbk _ _ K1 (KeepsOthers.setCell _ _ _)) (KeepsOthers.alloc _ _)⟩
    · obtain rfl : k = l.length := by omega
      clear r0 r1 r2 rn rp rf
      go_wp2
      go_end0
      exact ⟨⟨_, rfl⟩, ⟨_, by rw [ways_all hno]; exact hI, fun _ => by rw [ways_all hno]⟩, hB⟩
end Go.Proofs.Ytedfciddfpcifaa.Iv
