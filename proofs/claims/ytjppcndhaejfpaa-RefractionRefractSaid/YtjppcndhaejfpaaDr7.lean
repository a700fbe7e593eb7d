/- Contract of package refraction's Radicand: the square of the cosine of a refracted ray. -/
import Derived.Test.YtjppcndhaejfpaaDr6
namespace Go.Proofs.Ytjppcndhaejfpaa.Iv
open Go.RowKit

/-- a block reads so -/
def At (W : World) (b : Nat) (cs : List Value) : Prop := b < W.heap.size ∧ ∀ j v, cs[j]? = some v → W.cell? ⟨b, j, none⟩ = some v
theorem At.kept {W W' : World} {b : Nat} {cs : List Value} (h : At W b cs) (hb : Below W.heap.size W W') : At W' b cs :=
  ⟨Nat.lt_of_lt_of_le h.1 hb.size, fun j v hv => (hb.cell (p := ⟨b, j, none⟩) h.1).trans (h.2 j v hv)⟩
theorem At.alc {W : World} {b : Nat} {cs : List Value} (h : At W b cs) (o : Obj) : At (W.alloc o) b cs := h.kept ((Below.refl _ _).alloc (Nat.le_refl _) o)
theorem At.drew {W : World} {b : Nat} {cs : List Value} (h : At W b cs) : At W.drew b cs := h.kept (Below.refl _ _).drew
theorem At.step {n m : Nat} {E : Int} {W W' : World} {b : Nat} {cs : List Value} (h : At W b cs) (st : Step n W m E W') (ne : ¬ (b = m)) : At W' b cs :=
  ⟨Nat.lt_of_lt_of_le h.1 st.size, fun j v hv => (st.other _ _ h.1 ne).trans (h.2 j v hv)⟩
theorem At.set {W : World} {b c i : Nat} {u : Value} {cs : List Value} (h : At W b cs) (ne : ¬ (b = c)) : At (W.setCell ⟨c, i, none⟩ u) b cs :=
  ⟨by simpa using h.1, fun j v hv => fset (h.2 j v hv) ne⟩
theorem At.new2 {W : World} {b : Nat} {p q : Value} {t : TypeId} (hb : b = W.heap.size) : At (W.alloc (.cells #[p, q] t)) b [p, q] := by
  subst hb
  refine ⟨by simp, fun j v hv => ?_⟩
  rw [World.cell?_alloc_new]
  simpa only [List.getElem?_toArray] using hv
theorem At.new6 {W : World} {b : Nat} {p q r s t u : Value} {ty : TypeId} (hb : b = W.heap.size) : At (W.alloc (.cells #[p, q, r, s, t, u] ty)) b [p, q, r, s, t, u] := by
  subst hb
  refine ⟨by simp, fun j v hv => ?_⟩
  rw [World.cell?_alloc_new]
  simpa only [List.getElem?_toArray] using hv
structure Zn (W : World) (b : Nat) : Prop where
  z0 : W.cell? ⟨b, 0, none⟩ = some (.int .i64 0)
  z1 : W.cell? ⟨b, 1, none⟩ = some (.int .i64 0)
  f0 : W.frozen? ⟨b, 0, none⟩ = false
  f1 : W.frozen? ⟨b, 1, none⟩ = false
  lt : b < W.heap.size
theorem Zn.new {W : World} {b : Nat} {t : TypeId} (hb : b = W.heap.size) : Zn (W.alloc (.cells #[.int .i64 0, .int .i64 0] t)) b := by
  subst hb
  constructor <;> simp [go_sem]
theorem Zn.kept {W W' : World} {b : Nat} (h : Zn W b) (hb : Below W.heap.size W W') : Zn W' b :=
  ⟨(hb.cell (p := ⟨b, 0, none⟩) h.lt).trans h.z0, (hb.cell (p := ⟨b, 1, none⟩) h.lt).trans h.z1, (hb.frozen (p := ⟨b, 0, none⟩) h.lt).trans h.f0, (hb.frozen (p := ⟨b, 1, none⟩) h.lt).trans h.f1, Nat.lt_of_lt_of_le h.lt hb.size⟩
theorem Zn.step {n m : Nat} {E : Int} {W W' : World} {b : Nat} (h : Zn W b) (st : Step n W m E W') (ne : ¬ (b = m)) : Zn W' b :=
  ⟨(st.other _ _ h.lt ne).trans h.z0, (st.other _ _ h.lt ne).trans h.z1, (st.frozen _ _ h.lt).trans h.f0, (st.frozen _ _ h.lt).trans h.f1, Nat.lt_of_lt_of_le h.lt st.size⟩
theorem Zn.fin {W : World} {b : Nat} (h : Zn W b) (p q : Value) : At ((W.setCell ⟨b, 0, none⟩ p).setCell ⟨b, 1, none⟩ q) b [p, q] := by
  have z0 := h.z0
  have z1 := h.z1
  have lt := h.lt
  refine ⟨by simpa using lt, fun j v hv => ?_⟩
  rcases j with _ | _ | j
  · simp at hv
    subst hv
    simp [go_sem, *]
  · simp at hv
    subst hv
    simp [go_sem, *]
  · simp at hv
theorem At.c0 {W : World} {b : Nat} {p q : Value} (h : At W b [p, q]) : W.cell? ⟨b, 0, none⟩ = some p := h.2 0 _ rfl
theorem At.c1 {W : World} {b : Nat} {p q : Value} (h : At W b [p, q]) : W.cell? ⟨b, 1, none⟩ = some q := h.2 1 _ rfl
theorem Rm.alc {w0 W : World} {n : Nat} {a b x y : Int} {m : Nat} {E : Int} (h : Rm w0 W n a b x y m E) (o : Obj) : Rm w0 (W.alloc o) n a b x y m E := h.call ((Below.refl _ _).alloc (Nat.le_refl _) o)
theorem Rm.put {w0 W : World} {n : Nat} {a b x y : Int} {m : Nat} {E : Int} {d i : Nat} {u : Value} (h : Rm w0 W n a b x y m E) (lt : m < d) : Rm w0 (W.setCell ⟨d, i, none⟩ u) n a b x y m E := by
  have mlt := h.mlt
  have n0 : ¬ (n = d) := by omega
  have n1 : ¬ (n + 1 = d) := by omega
  have n2 : ¬ (n + 1 + 1 = d) := by omega
  have nm : ¬ (m = d) := by omega
  exact ⟨fset h.r0_0 n0, fset h.r0_1 n0, fset h.r1_0 n1, fset h.r1_1 n1, fset h.z2_0 n2, (by simp [go_sem, h.f2_0]), fset h.z2_1 n2, (by simp [go_sem, h.f2_1]), fset h.cE nm, (by simp [go_sem, h.fE]), mlt, by simpa using h.size, h.below.setCell (by dsimp only; omega) _⟩
theorem Rm.setz {w0 W : World} {n : Nat} {a b x y : Int} {m : Nat} {E : Int} {d : Nat} (h : Rm w0 W n a b x y m E) (lt : m < d) (u v : Value) : ((W.setCell ⟨d, 0, none⟩ u).setCell ⟨d, 1, none⟩ v).cell? ⟨n, 0, none⟩ = some (.int .i64 a) ∧ ((W.setCell ⟨d, 0, none⟩ u).setCell ⟨d, 1, none⟩ v).cell? ⟨n, 1, none⟩ = some (.int .i64 b) :=
  ⟨((h.put lt).put lt).r0_0, ((h.put lt).put lt).r0_1⟩
/-- the square of the cosine of a refracted ray -/
def radG (a b x y : Int) : R :=
  let g1 := goOn 0 (sqR x y)
  let g2 := goOn g1.e (sqR a b)
  let g3 := goOn g2.e (subR 16777216 16777216 g2.lo g2.hi)
  let g4 := goOn g3.e (mulR g1.lo g1.hi g3.lo g3.hi)
  goOn g4.e (subR 16777216 16777216 g4.lo g4.hi)
def radR (a b x y : Int) : R := if vB a b = true ∧ vB x y = true then radG a b x y else ⟨0, 0, 1⟩
set_option maxRecDepth 100000 in
set_option maxHeartbeats 8000000 in
theorem radicand_any (a b x y : Int) (w : World) :
    Calls Try.prog 12 #[iv a b, iv x y] w fun e w' => e = retR (radR a b x y) ∧ Below w.heap.size w w' := by
  have I0 : R1 w (((w.alloc (.cells #[.int .i64 a, .int .i64 b] 23)).alloc (.cells #[.int .i64 x, .int .i64 y] 23)).alloc (.cells #[.int .i64 0, .int .i64 0] 23)) w.heap.size a b x y := by
    refine ⟨by simp [go_sem], by simp [go_sem], by simp [go_sem], by simp [go_sem], by simp [go_sem], by simp [go_sem], by simp [go_sem], by simp [go_sem], by simp, ?_⟩
    · repeat (first | exact Below.refl _ _ | refine Below.alloc ?_ (by first | omega | (simp <;> omega)) _)
  cases hs : vB a b
  · rw [show radR a b x y = ⟨0, 0, 1⟩ from if_neg (by rw [hs]; simp)]
    have HS := Lib.hid hs
    clear hs
    go_enter Try.func12, Try.ntmps12
    go_wp2_with fail
    refine (validb_any a b _).mono ?_
    rintro e w1 ⟨rfl, hb⟩
    rw [HS.out]
    have I1 := I0.call hb
    clear hb
    have r0_0_1 := I1.r0_0
    have r0_1_1 := I1.r0_1
    have r1_0_1 := I1.r1_0
    have r1_1_1 := I1.r1_1
    have z2_0_1 := I1.z2_0
    have f2_0_1 := I1.f2_0
    have z2_1_1 := I1.z2_1
    have f2_1_1 := I1.f2_1
    have sz_1 := I1.size
    go_wp2_with fail
    have K := I1.fin2_2 (0) (0)
    revert K
    generalize ((w1.setCell ⟨w.heap.size + 1 + 1, 0, none⟩ (.int .i64 0)).setCell ⟨w.heap.size + 1 + 1, 1, none⟩ (.int .i64 0)) = X
    intro K
    obtain ⟨k0, k1, kb⟩ := K
    exact bodyPost_ret (v := .tuple #[iv 0 0, .int .i64 1]) (by simp [results, Try.results12, go_sem, k0, k1]) rfl ⟨rfl, kb⟩
  · cases ht : vB x y
    · rw [show radR a b x y = ⟨0, 0, 1⟩ from if_neg (by rw [ht]; simp)]
      have HS := Lib.hid hs
      have HT := Lib.hid ht
      clear hs ht
      go_enter Try.func12, Try.ntmps12
      go_wp2_with fail
      refine (validb_any a b _).mono ?_
      rintro e w1 ⟨rfl, hb⟩
      rw [HS.out]
      have I1 := I0.call hb
      clear hb
      have r0_0_1 := I1.r0_0
      have r0_1_1 := I1.r0_1
      have r1_0_1 := I1.r1_0
      have r1_1_1 := I1.r1_1
      have z2_0_1 := I1.z2_0
      have f2_0_1 := I1.f2_0
      have z2_1_1 := I1.z2_1
      have f2_1_1 := I1.f2_1
      have sz_1 := I1.size
      go_wp2_with fail
      refine (validb_any x y _).mono ?_
      rintro e w2 ⟨rfl, hb⟩
      rw [HT.out]
      have I2 := I1.call hb
      clear hb
      clear r0_0_1 r0_1_1 r1_0_1 r1_1_1 z2_0_1 f2_0_1 z2_1_1 f2_1_1 sz_1
      have r0_0_2 := I2.r0_0
      have r0_1_2 := I2.r0_1
      have r1_0_2 := I2.r1_0
      have r1_1_2 := I2.r1_1
      have z2_0_2 := I2.z2_0
      have f2_0_2 := I2.f2_0
      have z2_1_2 := I2.z2_1
      have f2_1_2 := I2.f2_1
      have sz_2 := I2.size
      go_wp2_with fail
      have K := I2.fin2_2 (0) (0)
      revert K
      generalize ((w2.setCell ⟨w.heap.size + 1 + 1, 0, none⟩ (.int .i64 0)).setCell ⟨w.heap.size + 1 + 1, 1, none⟩ (.int .i64 0)) = X
      intro K
      obtain ⟨k0, k1, kb⟩ := K
      exact bodyPost_ret (v := .tuple #[iv 0 0, .int .i64 1]) (by simp [results, Try.results12, go_sem, k0, k1]) rfl ⟨rfl, kb⟩
    · rw [show radR a b x y = radG a b x y from if_pos ⟨hs, ht⟩]
      obtain ⟨⟨p1, q1, e1⟩, h1⟩ : ∃ r : R, goOn 0 (sqR x y) = r := ⟨_, rfl⟩
      have H1 := Lib.hid (show Ending.returned (iv (goOn 0 (sqR x y)).lo (goOn 0 (sqR x y)).hi) = .returned (iv p1 q1) ∧ (goOn 0 (sqR x y)).e = e1 from by rw [h1]; exact ⟨rfl, rfl⟩)
      obtain ⟨⟨p2, q2, e2⟩, h2⟩ : ∃ r : R, goOn e1 (sqR a b) = r := ⟨_, rfl⟩
      have H2 := Lib.hid (show Ending.returned (iv (goOn e1 (sqR a b)).lo (goOn e1 (sqR a b)).hi) = .returned (iv p2 q2) ∧ (goOn e1 (sqR a b)).e = e2 from by rw [h2]; exact ⟨rfl, rfl⟩)
      obtain ⟨⟨p3, q3, e3⟩, h3⟩ : ∃ r : R, goOn e2 (subR 16777216 16777216 p2 q2) = r := ⟨_, rfl⟩
      have H3 := Lib.hid (show Ending.returned (iv (goOn e2 (subR 16777216 16777216 p2 q2)).lo (goOn e2 (subR 16777216 16777216 p2 q2)).hi) = .returned (iv p3 q3) ∧ (goOn e2 (subR 16777216 16777216 p2 q2)).e = e3 from by rw [h3]; exact ⟨rfl, rfl⟩)
      obtain ⟨⟨p4, q4, e4⟩, h4⟩ : ∃ r : R, goOn e3 (mulR p1 q1 p3 q3) = r := ⟨_, rfl⟩
      have H4 := Lib.hid (show Ending.returned (iv (goOn e3 (mulR p1 q1 p3 q3)).lo (goOn e3 (mulR p1 q1 p3 q3)).hi) = .returned (iv p4 q4) ∧ (goOn e3 (mulR p1 q1 p3 q3)).e = e4 from by rw [h4]; exact ⟨rfl, rfl⟩)
      obtain ⟨⟨p5, q5, e5⟩, h5⟩ : ∃ r : R, goOn e4 (subR 16777216 16777216 p4 q4) = r := ⟨_, rfl⟩
      have H5 := Lib.hid (show Ending.returned (iv (goOn e4 (subR 16777216 16777216 p4 q4)).lo (goOn e4 (subR 16777216 16777216 p4 q4)).hi) = .returned (iv p5 q5) ∧ (goOn e4 (subR 16777216 16777216 p4 q4)).e = e5 from by rw [h5]; exact ⟨rfl, rfl⟩)
      rw [show radG a b x y = ⟨p5, q5, e5⟩ from by unfold radG; simp only [h1, h2, h3, h4, h5]]
      clear h1 h2 h3 h4 h5
      have HS := Lib.hid hs
      have HT := Lib.hid ht
      clear hs ht
      go_enter Try.func12, Try.ntmps12
      go_wp2_with fail
      refine (validb_any a b _).mono ?_
      rintro e w1 ⟨rfl, hb⟩
      rw [HS.out]
      have I1 := I0.call hb
      clear hb
      have r0_0_1 := I1.r0_0
      have r0_1_1 := I1.r0_1
      have r1_0_1 := I1.r1_0
      have r1_1_1 := I1.r1_1
      have z2_0_1 := I1.z2_0
      have f2_0_1 := I1.f2_0
      have z2_1_1 := I1.z2_1
      have f2_1_1 := I1.f2_1
      have sz_1 := I1.size
      go_wp2_with fail
      refine (validb_any x y _).mono ?_
      rintro e w2 ⟨rfl, hb⟩
      rw [HT.out]
      have I2 := I1.call hb
      clear hb
      clear r0_0_1 r0_1_1 r1_0_1 r1_1_1 z2_0_1 f2_0_1 z2_1_1 f2_1_1 sz_1
      have r0_0_2 := I2.r0_0
      have r0_1_2 := I2.r0_1
      have r1_0_2 := I2.r1_0
      have r1_1_2 := I2.r1_1
      have z2_0_2 := I2.z2_0
      have f2_0_2 := I2.f2_0
      have z2_1_2 := I2.z2_1
      have f2_1_2 := I2.f2_1
      have sz_2 := I2.size
      have naq_0 : w.heap.size < w2.heap.size := by omega
      have nbq_0 : ¬ (w.heap.size = w2.heap.size) := by omega
      have ncq_0 : ¬ (w2.heap.size = w.heap.size) := by omega
      have ndq_0 : w.heap.size < w2.heap.size + 1 := by omega
      have naq_1 : w.heap.size + 1 < w2.heap.size := by omega
      have nbq_1 : ¬ (w.heap.size + 1 = w2.heap.size) := by omega
      have ncq_1 : ¬ (w2.heap.size = w.heap.size + 1) := by omega
      have ndq_1 : w.heap.size + 1 < w2.heap.size + 1 := by omega
      have naq_2 : w.heap.size + 1 + 1 < w2.heap.size := by omega
      have nbq_2 : ¬ (w.heap.size + 1 + 1 = w2.heap.size) := by omega
      have ncq_2 : ¬ (w2.heap.size = w.heap.size + 1 + 1) := by omega
      have ndq_2 : w.heap.size + 1 + 1 < w2.heap.size + 1 := by omega
      have I3 := Rm.of (t := 60) I2
      go_wp2_with fail
      refine (rsq_any w.heap.size w2.heap.size x y 0 _ I3.cE I3.fE).mono ?_
      rintro r w4 ⟨rfl, st⟩
      rw [H1.out.1]
      rw [H1.out.2] at st
      have I4 := I3.step st
      clear st
      clear r0_0_2 r0_1_2 r1_0_2 r1_1_2 z2_0_2 f2_0_2 z2_1_2 f2_1_2 sz_2
      have z4 := I4.size
      have neN4 : ¬ (w4.heap.size = w2.heap.size) := by omega
      have neR : ¬ (w4.heap.size = w2.heap.size) := neN4
      have I5 := I4.alc (.cells #[.int .i64 p1, .int .i64 q1] 23)
      have R5 : At (w4.alloc (.cells #[.int .i64 p1, .int .i64 q1] 23)) w4.heap.size [.int .i64 p1, .int .i64 q1] := At.new2 rfl
      have ID := I5.drew
      have RD := R5.drew
      have HS0 : Hid (w4.heap.size + 1 = (w4.alloc (.cells #[.int .i64 p1, .int .i64 q1] 23)).drew.heap.size) := Lib.hid (by simp)
      have IDz := (I5.alc (.cells #[.int .i64 0, .int .i64 0] 23)).drew
      have RDz := (R5.alc (.cells #[.int .i64 0, .int .i64 0] 23)).drew
      have ZDz : Zn (((w4.alloc (.cells #[.int .i64 p1, .int .i64 q1] 23)).alloc (.cells #[.int .i64 0, .int .i64 0] 23)).drew) (w4.heap.size + 1) := (Zn.new (by simp)).kept (Below.refl _ _).drew
      have neND0 : ¬ (w4.heap.size + 1 = w2.heap.size) := by omega
      have lz1 : w2.heap.size < w4.heap.size + 1 := by omega
      have nR1 : ¬ (w4.heap.size = w4.heap.size + 1) := by omega
      have neND : ¬ ((w4.alloc (.cells #[.int .i64 p1, .int .i64 q1] 23)).drew.heap.size = w2.heap.size) := by rw [← HS0.out]; exact neND0
      go_upto_region 6 with fail
      go_cut [10] from 27 to 32 (fun vz wx => ∃ bz : Nat, vz = .pointer (some ⟨bz, 0, none⟩) ∧ Rm w wx w.heap.size a b x y w2.heap.size e3 ∧ At wx w4.heap.size [.int .i64 p1, .int .i64 q1] ∧ At wx bz [.int .i64 p3, .int .i64 q3] ∧ ¬ (bz = w2.heap.size))
      case first =>
        go_region_held3 (fun w' => w'.cell? ⟨w.heap.size, 0, none⟩ = some (.int .i64 a) ∧ w'.cell? ⟨w.heap.size, 1, none⟩ = some (.int .i64 b)) (with_reducible first | exact ⟨IDz.r0_0, IDz.r0_1⟩ | exact ⟨ID.r0_0, ID.r0_1⟩ | exact ⟨(ID.alc _).r0_0, (ID.alc _).r0_1⟩ | exact ⟨IA.r0_0, IA.r0_1⟩ | exact ⟨(IA.alc _).r0_0, (IA.alc _).r0_1⟩ | exact ⟨IB.r0_0, IB.r0_1⟩ | exact ⟨(IB.alc _).r0_0, (IB.alc _).r0_1⟩ | exact ⟨IC.r0_0, IC.r0_1⟩ | exact ⟨(IC.alc _).r0_0, (IC.alc _).r0_1⟩ | exact IC.setz lz1 _ _ | exact IC.setz IA.size _ _ | exact IC.setz IB.size _ _)
          (first | (have hm := hmarkB; go_at_call 32; refine (num_sub w.heap.size w2.heap.size 16777216 16777216 p2 q2 e2 _ ?_ ?_).mono ?_; (· (with_reducible first | exact IB.cE | exact (IB.alc _).cE)); (· (with_reducible first | exact IB.fE | exact (IB.alc _).fE)); rintro r wC ⟨rfl, st⟩; rw [H3.out.1]; rw [H3.out.2] at st; have IC : Rm w wC w.heap.size a b x y w2.heap.size e3 := (by with_reducible first | exact IB.step st | exact (IB.alc _).step st); have RC : At wC (w4.heap.size) [.int .i64 p1, .int .i64 q1] := (by with_reducible first | exact RB.step st neR | exact (RB.alc _).step st neR); have nRC : ¬ ((w4.heap.size) = wC.heap.size) := Nat.ne_of_lt RC.1; have szC := IC.size; have neNC : ¬ (wC.heap.size = w2.heap.size) := (by omega); (first | ((have hz := ZB.lt; have ZC := ZB.step st (by omega))) | (have ZC : Zn wC (wB.heap.size) := (by with_reducible exact (Zn.new rfl).step st neNB)) | skip); (try (have zz0 := ZC.z0; have zz1 := ZC.z1; have ff0 := ZC.f0; have ff1 := ZC.f1)); have hmarkC : wC = wC := rfl) | (have hm := hmarkA; go_at_call 43; refine (rsq_any w.heap.size w2.heap.size a b e1 _ ?_ ?_).mono ?_; (· (with_reducible first | exact IA.cE | exact (IA.alc _).cE)); (· (with_reducible first | exact IA.fE | exact (IA.alc _).fE)); rintro r wB ⟨rfl, st⟩; rw [H2.out.1]; rw [H2.out.2] at st; have IB : Rm w wB w.heap.size a b x y w2.heap.size e2 := (by with_reducible first | exact IA.step st | exact (IA.alc _).step st); have RB : At wB (w4.heap.size) [.int .i64 p1, .int .i64 q1] := (by with_reducible first | exact RA.step st neR | exact (RA.alc _).step st neR); have nRB : ¬ ((w4.heap.size) = wB.heap.size) := Nat.ne_of_lt RB.1; have szB := IB.size; have neNB : ¬ (wB.heap.size = w2.heap.size) := (by omega); (first | ((have hz := ZA.lt; have ZB := ZA.step st (by omega))) | (have ZB : Zn wB (wA.heap.size) := (by with_reducible exact (Zn.new rfl).step st neNA)) | skip); have hmarkB : wB = wB := rfl) | (go_at_call 45; refine (unit_any _).mono ?_; rintro r wA ⟨rfl, hb⟩; have IA : Rm w wA w.heap.size a b x y w2.heap.size e1 := (by with_reducible first | exact ID.call hb | exact IDz.call hb); have RA : At wA (w4.heap.size) [.int .i64 p1, .int .i64 q1] := (by with_reducible first | exact RD.kept hb | exact RDz.kept hb); have nRA : ¬ ((w4.heap.size) = wA.heap.size) := Nat.ne_of_lt RA.1; have szA := IA.size; have neNA : ¬ (wA.heap.size = w2.heap.size) := (by omega); (first | (have ZA : Zn wA (w4.heap.size + 1) := (by with_reducible exact ZDz.kept hb)) | skip); have hmarkA : wA = wA := rfl))
        all_goals (go_wp2_with fail; go_meet)
        all_goals refine ⟨_, rfl, ?_, ?_, ?_, ?_⟩
        all_goals with_reducible first
          | exact (IC.put lz1).put lz1
          | exact (IC.put IA.size).put IA.size
          | exact (IC.put IB.size).put IB.size
          | exact IC.alc _
          | exact (RC.set nR1).set nR1
          | exact (RC.set nRA).set nRA
          | exact (RC.set nRB).set nRB
          | exact RC.alc _
          | exact ZC.fin _ _
          | exact At.new2 rfl
          | exact neND0
          | exact neNA
          | exact neNB
          | exact neNC
      case rest =>
        obtain ⟨bz, rfl, I6, R6, Q6, neQ⟩ := hcut
        clear ID RD IDz RDz ZDz HS0 neND0 neND lz1 nR1 I5 R5
        have ID := I6.drew
        have RD := R6.drew
        have QD := Q6.drew
        have IDz := (I6.alc (.cells #[.int .i64 0, .int .i64 0] 23)).drew
        have RDz := (R6.alc (.cells #[.int .i64 0, .int .i64 0] 23)).drew
        have QDz := (Q6.alc (.cells #[.int .i64 0, .int .i64 0] 23)).drew
        have ZDz : Zn ((wc.alloc (.cells #[.int .i64 0, .int .i64 0] 23)).drew) wc.heap.size := (Zn.new rfl).kept (Below.refl _ _).drew
        have lz1 : w2.heap.size < wc.heap.size := I6.size
        have neND0 : ¬ (wc.heap.size = w2.heap.size) := by omega
        have nR1 : ¬ (w4.heap.size = wc.heap.size) := Nat.ne_of_lt R6.1
        have nQ1 : ¬ (bz = wc.heap.size) := Nat.ne_of_lt Q6.1
        go_upto_region 7 with fail
        go_cut [11] from 33 to 39 (fun vz wx => ∃ bo : Nat, vz = .pointer (some ⟨bo, 0, none⟩) ∧ Rm w wx w.heap.size a b x y w2.heap.size e5 ∧ At wx bz [.int .i64 p3, .int .i64 q3] ∧ At wx w4.heap.size [.int .i64 p1, .int .i64 q1] ∧ At wx bo [.int .i64 p5, .int .i64 q5])
        case first =>
          go_region_held3 (fun w' => w'.cell? ⟨w4.heap.size, 0, none⟩ = some (.int .i64 p1) ∧ w'.cell? ⟨w4.heap.size, 1, none⟩ = some (.int .i64 q1) ∧ w'.cell? ⟨bz, 0, none⟩ = some (.int .i64 p3) ∧ w'.cell? ⟨bz, 1, none⟩ = some (.int .i64 q3)) (with_reducible first | exact ⟨RDz.c0, RDz.c1, QDz.c0, QDz.c1⟩ | exact ⟨RD.c0, RD.c1, QD.c0, QD.c1⟩ | exact ⟨(RD.alc _).c0, (RD.alc _).c1, (QD.alc _).c0, (QD.alc _).c1⟩ | exact ⟨RA.c0, RA.c1, QA.c0, QA.c1⟩ | exact ⟨(RA.alc _).c0, (RA.alc _).c1, (QA.alc _).c0, (QA.alc _).c1⟩ | exact ⟨RB.c0, RB.c1, QB.c0, QB.c1⟩ | exact ⟨(RB.alc _).c0, (RB.alc _).c1, (QB.alc _).c0, (QB.alc _).c1⟩ | exact ⟨RC.c0, RC.c1, QC.c0, QC.c1⟩ | exact ⟨(RC.alc _).c0, (RC.alc _).c1, (QC.alc _).c0, (QC.alc _).c1⟩ | exact ⟨((RC.set nR1).set nR1).c0, ((RC.set nR1).set nR1).c1, ((QC.set nQ1).set nQ1).c0, ((QC.set nQ1).set nQ1).c1⟩ | exact ⟨((RC.set nRA).set nRA).c0, ((RC.set nRA).set nRA).c1, ((QC.set nQA).set nQA).c0, ((QC.set nQA).set nQA).c1⟩ | exact ⟨((RC.set nRB).set nRB).c0, ((RC.set nRB).set nRB).c1, ((QC.set nQB).set nQB).c0, ((QC.set nQB).set nQB).c1⟩)
            (first | (have hm := hmarkB; go_at_call 32; refine (num_sub w.heap.size w2.heap.size 16777216 16777216 p4 q4 e4 _ ?_ ?_).mono ?_; (· (with_reducible first | exact IB.cE | exact (IB.alc _).cE)); (· (with_reducible first | exact IB.fE | exact (IB.alc _).fE)); rintro r wC ⟨rfl, st⟩; rw [H5.out.1]; rw [H5.out.2] at st; have IC : Rm w wC w.heap.size a b x y w2.heap.size e5 := (by with_reducible first | exact IB.step st | exact (IB.alc _).step st); have RC : At wC (w4.heap.size) [.int .i64 p1, .int .i64 q1] := (by with_reducible first | exact RB.step st neR | exact (RB.alc _).step st neR); have QC : At wC (bz) [.int .i64 p3, .int .i64 q3] := (by with_reducible first | exact QB.step st neQ | exact (QB.alc _).step st neQ); have nRC : ¬ ((w4.heap.size) = wC.heap.size) := Nat.ne_of_lt RC.1; have nQC : ¬ ((bz) = wC.heap.size) := Nat.ne_of_lt QC.1; have szC := IC.size; have neNC : ¬ (wC.heap.size = w2.heap.size) := (by omega); (first | ((have hz := ZB.lt; have ZC := ZB.step st (by omega))) | (have ZC : Zn wC (wB.heap.size) := (by with_reducible exact (Zn.new rfl).step st neNB)) | skip); (try (have zz0 := ZC.z0; have zz1 := ZC.z1; have ff0 := ZC.f0; have ff1 := ZC.f1)); have hmarkC : wC = wC := rfl) | (have hm := hmarkA; go_at_call 32; refine (num_mul w.heap.size w2.heap.size p1 q1 p3 q3 e3 _ ?_ ?_).mono ?_; (· (with_reducible first | exact IA.cE | exact (IA.alc _).cE)); (· (with_reducible first | exact IA.fE | exact (IA.alc _).fE)); rintro r wB ⟨rfl, st⟩; rw [H4.out.1]; rw [H4.out.2] at st; have IB : Rm w wB w.heap.size a b x y w2.heap.size e4 := (by with_reducible first | exact IA.step st | exact (IA.alc _).step st); have RB : At wB (w4.heap.size) [.int .i64 p1, .int .i64 q1] := (by with_reducible first | exact RA.step st neR | exact (RA.alc _).step st neR); have QB : At wB (bz) [.int .i64 p3, .int .i64 q3] := (by with_reducible first | exact QA.step st neQ | exact (QA.alc _).step st neQ); have nRB : ¬ ((w4.heap.size) = wB.heap.size) := Nat.ne_of_lt RB.1; have nQB : ¬ ((bz) = wB.heap.size) := Nat.ne_of_lt QB.1; have szB := IB.size; have neNB : ¬ (wB.heap.size = w2.heap.size) := (by omega); (first | ((have hz := ZA.lt; have ZB := ZA.step st (by omega))) | (have ZB : Zn wB (wA.heap.size) := (by with_reducible exact (Zn.new rfl).step st neNA)) | skip); have hmarkB : wB = wB := rfl) | (go_at_call 45; refine (unit_any _).mono ?_; rintro r wA ⟨rfl, hb⟩; have IA : Rm w wA w.heap.size a b x y w2.heap.size e3 := (by with_reducible first | exact ID.call hb | exact IDz.call hb); have RA : At wA (w4.heap.size) [.int .i64 p1, .int .i64 q1] := (by with_reducible first | exact RD.kept hb | exact RDz.kept hb); have QA : At wA (bz) [.int .i64 p3, .int .i64 q3] := (by with_reducible first | exact QD.kept hb | exact QDz.kept hb); have nRA : ¬ ((w4.heap.size) = wA.heap.size) := Nat.ne_of_lt RA.1; have nQA : ¬ ((bz) = wA.heap.size) := Nat.ne_of_lt QA.1; have szA := IA.size; have neNA : ¬ (wA.heap.size = w2.heap.size) := (by omega); (first | (have ZA : Zn wA (wc.heap.size) := (by with_reducible exact ZDz.kept hb)) | skip); have hmarkA : wA = wA := rfl))
          all_goals (go_wp2_with fail; go_meet)
          all_goals refine ⟨_, rfl, ?_, ?_, ?_, ?_⟩
          all_goals with_reducible first
            | exact (IC.put lz1).put lz1
            | exact (IC.put IA.size).put IA.size
            | exact (IC.put IB.size).put IB.size
            | exact IC.alc _
            | exact (RC.set nR1).set nR1
            | exact (RC.set nRA).set nRA
            | exact (RC.set nRB).set nRB
            | exact RC.alc _
            | exact (QC.set nQ1).set nQ1
            | exact (QC.set nQA).set nQA
            | exact (QC.set nQB).set nQB
            | exact QC.alc _
            | exact ZC.fin _ _
            | exact At.new2 rfl
        case rest =>
          obtain ⟨bo, rfl, I7, Q7, R7, O7⟩ := hcut
          have o0 := O7.c0
          have o1 := O7.c1
          have ce := I7.cE
          have zz0 := I7.z2_0
          have zz1 := I7.z2_1
          have ff0 := I7.f2_0
          have ff1 := I7.f2_1
          clear ID RD QD IDz RDz QDz ZDz R6 Q6 I6
          have IB7 := I7.below
          clear I7 Q7 R7 O7
          go_wp2_with fail
          go_region
          all_goals go_wp2_with fail
          all_goals exact bodyPost_ret (v := .tuple #[iv p5 q5, .int .i64 e5]) (by simp [results, Try.results12, go_sem, *]) rfl ⟨rfl, by repeat (first | exact IB7 | refine Below.drew ?_ | refine Below.setCell ?_ (by first | omega | (simp <;> omega)) _)⟩
end Go.Proofs.Ytjppcndhaejfpaa.Iv
