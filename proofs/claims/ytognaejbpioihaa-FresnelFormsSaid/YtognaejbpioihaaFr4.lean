/- Contracts of the program's functions on surfaces: both polarizations, Reflectance and Transmittance of package fresnel return what the plain functions say. -/
import Derived.Test.YtognaejbpioihaaFr3
import Derived.Deep.RegionHeld3
import Derived.Deep.RegionWith
namespace Go.Proofs.Ytognaejbpioihaa.Iv
open Go.RowKit

def polR (s : Sf) (a b c d : Int) : R := if sfB s = true then bind (mulR s.fl s.fh a b) fun p q => bind (mulR s.tl s.th c d) fun u v => contrastR p q u v else ⟨0, 0, 1⟩
theorem polR_ok {s : Sf} {a b c d : Int} (h : sfB s = true) : polR s a b c d = bind (mulR s.fl s.fh a b) fun p q => bind (mulR s.tl s.th c d) fun u v => contrastR p q u v := if_pos h
theorem polR_no {s : Sf} {a b c d : Int} (h : sfB s = false) : polR s a b c d = ⟨0, 0, 1⟩ := if_neg (by simp [h])
/-- a block with a surface -/
def SurfAt (w : World) (B : Nat) (s : Sf) : Prop :=
  w.cell? ⟨B, 0, none⟩ = some (.int .i64 s.bl) ∧ w.cell? ⟨B, 1, none⟩ = some (.int .i64 s.bh) ∧ w.cell? ⟨B, 2, none⟩ = some (.int .i64 s.al) ∧ w.cell? ⟨B, 3, none⟩ = some (.int .i64 s.ah) ∧
  w.cell? ⟨B, 4, none⟩ = some (.int .i64 s.fl) ∧ w.cell? ⟨B, 5, none⟩ = some (.int .i64 s.fh) ∧ w.cell? ⟨B, 6, none⟩ = some (.int .i64 s.tl) ∧ w.cell? ⟨B, 7, none⟩ = some (.int .i64 s.th)
abbrev surfCells (s : Sf) : Array Value := #[.int .i64 s.bl, .int .i64 s.bh, .int .i64 s.al, .int .i64 s.ah, .int .i64 s.fl, .int .i64 s.fh, .int .i64 s.tl, .int .i64 s.th]

theorem polz_any (s : Sf) (w : World) :
    Calls Try.prog 28 #[sv s] w fun e w' => e = .returned (.func (.func 42) #[] #[.pointer (some ⟨w.heap.size, 0, none⟩)]) ∧ w.alloc (.cells (surfCells s) 25) = w' := by
  go_enter Try.func28, Try.ntmps28
  go_wp2
  go_ret
  exact ⟨rfl, rfl⟩

set_option maxRecDepth 100000 in
set_option maxHeartbeats 1000000 in
theorem pol_any (s : Sf) (a b c d : Int) (B : Nat) (w : World) (hB : B < w.heap.size) (hS : SurfAt w B s) :
    Calls Try.prog 42 #[iv a b, iv c d, .pointer (some ⟨B, 0, none⟩)] w fun e w' => e = retR (polR s a b c d) ∧ Below w.heap.size w w' := by
  obtain ⟨s0, s1, s2, s3, s4, s5, s6, s7⟩ := hS
  have hB1 : B < w.heap.size + 1 := by omega
  have hB2 : B < w.heap.size + 1 + 1 := by omega
  go_enter Try.func42, Try.ntmps42
  go_wp2_with fail
  refine (sf_any s _).mono ?_
  rintro e w1 ⟨rfl, hb1⟩
  obtain ⟨hc1, hf1⟩ := bcell hb1
  have hz1 := hb1.size
  try simp at hz1
  have hs1_0 : B < w1.heap.size := by omega
  have hs1_1 : w.heap.size < w1.heap.size := by omega
  have hs1_2 : w.heap.size + 1 < w1.heap.size := by omega
  have hs1_3 : w.heap.size + 1 + 1 < w1.heap.size := by omega
  have hw1 : Below w.heap.size w w1 := Below.trans (by repeat (first | exact Below.refl _ _ | refine Below.drew ?_ | refine Below.setCell ?_ (by first | omega | (simp <;> omega)) _ | refine Below.alloc ?_ (by first | omega | (simp <;> omega)) _)) (hb1.mono (by first | omega | (simp <;> omega)))
  clear hb1 hz1
  cases hV : sfB s
  · have KV := Lib.hid (polR_no (a := a) (b := b) (c := c) (d := d) hV)
    go_wp2_with fail
    exact bodyPost_ret (v := .tuple #[iv 0 0, .int .i64 1]) (by simp [results, Try.results42, go_sem, *]) rfl ⟨by rw [KV.out], by repeat (first | exact hw1 | refine Below.drew ?_ | refine Below.setCell ?_ (by first | omega | (simp <;> omega)) _ | refine Below.alloc ?_ (by first | omega | (simp <;> omega)) _)⟩
  · have KV := Lib.hid (polR_ok (a := a) (b := b) (c := c) (d := d) hV)
    go_wp2_with fail
    refine (mul_any s.fl s.fh a b _).mono ?_
    rintro e w2 ⟨rfl, hb2⟩
    obtain ⟨hc2, hf2⟩ := bcell hb2
    have hz2 := hb2.size
    try simp at hz2
    have hs2_0 : B < w2.heap.size := by omega
    have hs2_1 : w.heap.size < w2.heap.size := by omega
    have hs2_2 : w.heap.size + 1 < w2.heap.size := by omega
    have hs2_3 : w.heap.size + 1 + 1 < w2.heap.size := by omega
    have hw2 : Below w.heap.size w w2 := Below.trans (by repeat (first | exact hw1 | refine Below.drew ?_ | refine Below.setCell ?_ (by first | omega | (simp <;> omega)) _ | refine Below.alloc ?_ (by first | omega | (simp <;> omega)) _)) (hb2.mono (by first | omega | (simp <;> omega)))
    clear hb2 hz2
    obtain ⟨P, eP⟩ : ∃ P, P = mulR s.fl s.fh a b := ⟨_, rfl⟩
    rw [← eP]
    have HP := Lib.hid eP
    clear eP
    by_cases hP : P.e = 0
    · have KP := Lib.hid hP
      go_wp2_with fail
      refine (mul_any s.tl s.th c d _).mono ?_
      rintro e w3 ⟨rfl, hb3⟩
      obtain ⟨hc3, hf3⟩ := bcell hb3
      have hz3 := hb3.size
      try simp at hz3
      have hs3_0 : B < w3.heap.size := by omega
      have hs3_1 : w.heap.size < w3.heap.size := by omega
      have hs3_2 : w.heap.size + 1 < w3.heap.size := by omega
      have hs3_3 : w.heap.size + 1 + 1 < w3.heap.size := by omega
      have hs3_4 : w2.heap.size < w3.heap.size := by omega
      have hw3 : Below w.heap.size w w3 := Below.trans (by repeat (first | exact hw2 | refine Below.drew ?_ | refine Below.setCell ?_ (by first | omega | (simp <;> omega)) _ | refine Below.alloc ?_ (by first | omega | (simp <;> omega)) _)) (hb3.mono (by first | omega | (simp <;> omega)))
      clear hb3 hz3
      obtain ⟨Q, eQ⟩ : ∃ Q, Q = mulR s.tl s.th c d := ⟨_, rfl⟩
      rw [← eQ]
      have HQ := Lib.hid eQ
      clear eQ
      by_cases hQ : Q.e = 0
      · have KQ := Lib.hid hQ
        go_wp2_with fail
        refine (contrast_any P.lo P.hi Q.lo Q.hi _).mono ?_
        rintro e w4 ⟨rfl, hb4⟩
        obtain ⟨hc4, hf4⟩ := bcell hb4
        have hz4 := hb4.size
        try simp at hz4
        have hs4_0 : B < w4.heap.size := by omega
        have hs4_1 : w.heap.size < w4.heap.size := by omega
        have hs4_2 : w.heap.size + 1 < w4.heap.size := by omega
        have hs4_3 : w.heap.size + 1 + 1 < w4.heap.size := by omega
        have hs4_4 : w2.heap.size < w4.heap.size := by omega
        have hs4_5 : w3.heap.size < w4.heap.size := by omega
        have hw4 : Below w.heap.size w w4 := Below.trans (by repeat (first | exact hw3 | refine Below.drew ?_ | refine Below.setCell ?_ (by first | omega | (simp <;> omega)) _ | refine Below.alloc ?_ (by first | omega | (simp <;> omega)) _)) (hb4.mono (by first | omega | (simp <;> omega)))
        clear hb4 hz4
        go_wp2_with fail
        exact bodyPost_ret (v := .tuple #[.agg #[.int .i64 (contrastR P.lo P.hi Q.lo Q.hi).lo, .int .i64 (contrastR P.lo P.hi Q.lo Q.hi).hi], .int .i64 (contrastR P.lo P.hi Q.lo Q.hi).e]) (by simp [results, Try.results42, go_sem, *]) rfl ⟨by rw [KV.out, ← HP.out, bind_ok KP.out, ← HQ.out, bind_ok KQ.out], by repeat (first | exact hw4 | refine Below.drew ?_ | refine Below.setCell ?_ (by first | omega | (simp <;> omega)) _ | refine Below.alloc ?_ (by first | omega | (simp <;> omega)) _)⟩
      · have KQ := Lib.hid hQ
        go_wp2_with fail
        exact bodyPost_ret (v := .tuple #[iv 0 0, .int .i64 Q.e]) (by simp [results, Try.results42, go_sem, *]) rfl ⟨by rw [KV.out, ← HP.out, bind_ok KP.out, ← HQ.out, bind_err KQ.out], by repeat (first | exact hw3 | refine Below.drew ?_ | refine Below.setCell ?_ (by first | omega | (simp <;> omega)) _ | refine Below.alloc ?_ (by first | omega | (simp <;> omega)) _)⟩
    · have KP := Lib.hid hP
      go_wp2_with fail
      exact bodyPost_ret (v := .tuple #[iv 0 0, .int .i64 P.e]) (by simp [results, Try.results42, go_sem, *]) rfl ⟨by rw [KV.out, ← HP.out, bind_err KP.out], by repeat (first | exact hw2 | refine Below.drew ?_ | refine Below.setCell ?_ (by first | omega | (simp <;> omega)) _ | refine Below.alloc ?_ (by first | omega | (simp <;> omega)) _)⟩

def perpR (s : Sf) : R := polR s s.bl s.bh s.al s.ah
def parR (s : Sf) : R := polR s s.al s.ah s.bl s.bh
set_option maxRecDepth 100000 in
set_option maxHeartbeats 1000000 in
theorem perp_any (s : Sf) (w : World) :
    Calls Try.prog 10 #[sv s] w fun e w' => e = retR (perpR s) ∧ Below w.heap.size w w' := by
  go_enter Try.func10, Try.ntmps10
  go_wp2_with fail
  go_region_held3 (fun w' => w'.cell? ⟨w.heap.size, 0, none⟩ = some (.int .i64 s.bl) ∧ w'.cell? ⟨w.heap.size, 1, none⟩ = some (.int .i64 s.bh) ∧ w'.cell? ⟨w.heap.size, 2, none⟩ = some (.int .i64 s.al) ∧ w'.cell? ⟨w.heap.size, 3, none⟩ = some (.int .i64 s.ah) ∧ w'.cell? ⟨w.heap.size, 4, none⟩ = some (.int .i64 s.fl) ∧ w'.cell? ⟨w.heap.size, 5, none⟩ = some (.int .i64 s.fh) ∧ w'.cell? ⟨w.heap.size, 6, none⟩ = some (.int .i64 s.tl) ∧ w'.cell? ⟨w.heap.size, 7, none⟩ = some (.int .i64 s.th)) (first | (simp [go_sem, World.cell?_alloc_past]; done) | (simp [go_sem, World.cell?_alloc_past, hcx]; done))
    (first
      | (go_at_call 28; refine (polz_any s _).mono ?_; rintro e w' ⟨rfl, rfl⟩)
      | (go_at_call 42; refine (pol_any s s.bl s.bh s.al s.ah (w.heap.size + 1 + 1) _ (by simp) (by simp [SurfAt, World.cell?_alloc_at])).mono ?_; rintro e w' ⟨rfl, hb⟩; obtain ⟨hcx, hfx⟩ := bcell hb; have hsx := hb.size; simp at hsx; have hs0 : w.heap.size < w'.heap.size := (by omega); have hs1 : w.heap.size + 1 < w'.heap.size := (by omega); have hwx : Below w.heap.size w w' := Below.trans (by repeat (first | exact Below.refl _ _ | refine Below.drew ?_ | refine Below.alloc ?_ (by first | omega | (simp <;> omega)) _)) (hb.mono (by first | omega | (simp <;> omega))); clear hb hsx))
  go_wp2
  exact bodyPost_ret (v := .tuple #[.agg #[.int .i64 (perpR s).lo, .int .i64 (perpR s).hi], .int .i64 (perpR s).e]) (by simp [results, Try.results10, go_sem, perpR, *]) rfl ⟨rfl, by repeat (first | exact hwx | refine Below.drew ?_ | refine Below.setCell ?_ (by first | omega | (simp <;> omega)) _)⟩
set_option maxRecDepth 100000 in
set_option maxHeartbeats 1000000 in
theorem par_any (s : Sf) (w : World) :
    Calls Try.prog 12 #[sv s] w fun e w' => e = retR (parR s) ∧ Below w.heap.size w w' := by
  go_enter Try.func12, Try.ntmps12
  go_wp2_with fail
  go_region_held3 (fun w' => w'.cell? ⟨w.heap.size, 0, none⟩ = some (.int .i64 s.bl) ∧ w'.cell? ⟨w.heap.size, 1, none⟩ = some (.int .i64 s.bh) ∧ w'.cell? ⟨w.heap.size, 2, none⟩ = some (.int .i64 s.al) ∧ w'.cell? ⟨w.heap.size, 3, none⟩ = some (.int .i64 s.ah) ∧ w'.cell? ⟨w.heap.size, 4, none⟩ = some (.int .i64 s.fl) ∧ w'.cell? ⟨w.heap.size, 5, none⟩ = some (.int .i64 s.fh) ∧ w'.cell? ⟨w.heap.size, 6, none⟩ = some (.int .i64 s.tl) ∧ w'.cell? ⟨w.heap.size, 7, none⟩ = some (.int .i64 s.th)) (first | (simp [go_sem, World.cell?_alloc_past]; done) | (simp [go_sem, World.cell?_alloc_past, hcx]; done))
    (first
      | (go_at_call 28; refine (polz_any s _).mono ?_; rintro e w' ⟨rfl, rfl⟩)
      | (go_at_call 42; refine (pol_any s s.al s.ah s.bl s.bh (w.heap.size + 1 + 1) _ (by simp) (by simp [SurfAt, World.cell?_alloc_at])).mono ?_; rintro e w' ⟨rfl, hb⟩; obtain ⟨hcx, hfx⟩ := bcell hb; have hsx := hb.size; simp at hsx; have hs0 : w.heap.size < w'.heap.size := (by omega); have hs1 : w.heap.size + 1 < w'.heap.size := (by omega); have hwx : Below w.heap.size w w' := Below.trans (by repeat (first | exact Below.refl _ _ | refine Below.drew ?_ | refine Below.alloc ?_ (by first | omega | (simp <;> omega)) _)) (hb.mono (by first | omega | (simp <;> omega))); clear hb hsx))
  go_wp2
  exact bodyPost_ret (v := .tuple #[.agg #[.int .i64 (parR s).lo, .int .i64 (parR s).hi], .int .i64 (parR s).e]) (by simp [results, Try.results12, go_sem, parR, *]) rfl ⟨rfl, by repeat (first | exact hwx | refine Below.drew ?_ | refine Below.setCell ?_ (by first | omega | (simp <;> omega)) _)⟩

def reflR (s : Sf) : R := bind (perpR s) fun a b => bind (parR s) fun c d => bind (addR a b c d) fun p q => bind (mulR p q 8388608 8388608) fun u v => ⟨cutI u, cutI v, 0⟩
def transR (s : Sf) : R := bind (reflR s) fun a b => subR 16777216 16777216 a b
set_option maxRecDepth 100000 in
set_option maxHeartbeats 1000000 in
theorem refl_any (s : Sf) (w : World) :
    Calls Try.prog 16 #[sv s] w fun e w' => e = retR (reflR s) ∧ Below w.heap.size w w' := by
  go_enter Try.func16, Try.ntmps16
  go_wp2_with fail
  refine (perp_any s _).mono ?_
  rintro e w1 ⟨rfl, hb1⟩
  obtain ⟨hc1, hf1⟩ := bcell hb1
  have hz1 := hb1.size
  try simp at hz1
  have hs1_0 : w.heap.size < w1.heap.size := by omega
  have hs1_1 : w.heap.size + 1 < w1.heap.size := by omega
  have hw1 : Below w.heap.size w w1 := Below.trans (by repeat (first | exact Below.refl _ _ | refine Below.drew ?_ | refine Below.setCell ?_ (by first | omega | (simp <;> omega)) _ | refine Below.alloc ?_ (by first | omega | (simp <;> omega)) _)) (hb1.mono (by first | omega | (simp <;> omega)))
  clear hb1 hz1
  obtain ⟨P, eP⟩ : ∃ P, P = perpR s := ⟨_, rfl⟩
  rw [← eP]
  have HP := Lib.hid eP
  clear eP
  by_cases hP : P.e = 0
  · have KP := Lib.hid hP
    go_wp2_with fail
    refine (par_any s _).mono ?_
    rintro e w2 ⟨rfl, hb2⟩
    obtain ⟨hc2, hf2⟩ := bcell hb2
    have hz2 := hb2.size
    try simp at hz2
    have hs2_0 : w.heap.size < w2.heap.size := by omega
    have hs2_1 : w.heap.size + 1 < w2.heap.size := by omega
    have hs2_2 : w1.heap.size < w2.heap.size := by omega
    have hw2 : Below w.heap.size w w2 := Below.trans (by repeat (first | exact hw1 | refine Below.drew ?_ | refine Below.setCell ?_ (by first | omega | (simp <;> omega)) _ | refine Below.alloc ?_ (by first | omega | (simp <;> omega)) _)) (hb2.mono (by first | omega | (simp <;> omega)))
    clear hb2 hz2
    obtain ⟨Q, eQ⟩ : ∃ Q, Q = parR s := ⟨_, rfl⟩
    rw [← eQ]
    have HQ := Lib.hid eQ
    clear eQ
    by_cases hQ : Q.e = 0
    · have KQ := Lib.hid hQ
      go_wp2_with fail
      refine (add_any P.lo P.hi Q.lo Q.hi _).mono ?_
      rintro e w3 ⟨rfl, hb3⟩
      obtain ⟨hc3, hf3⟩ := bcell hb3
      have hz3 := hb3.size
      try simp at hz3
      have hs3_0 : w.heap.size < w3.heap.size := by omega
      have hs3_1 : w.heap.size + 1 < w3.heap.size := by omega
      have hs3_2 : w1.heap.size < w3.heap.size := by omega
      have hs3_3 : w2.heap.size < w3.heap.size := by omega
      have hw3 : Below w.heap.size w w3 := Below.trans (by repeat (first | exact hw2 | refine Below.drew ?_ | refine Below.setCell ?_ (by first | omega | (simp <;> omega)) _ | refine Below.alloc ?_ (by first | omega | (simp <;> omega)) _)) (hb3.mono (by first | omega | (simp <;> omega)))
      clear hb3 hz3
      obtain ⟨T, eT⟩ : ∃ T, T = addR P.lo P.hi Q.lo Q.hi := ⟨_, rfl⟩
      rw [← eT]
      have HT := Lib.hid eT
      clear eT
      by_cases hT : T.e = 0
      · have KT := Lib.hid hT
        go_wp2_with fail
        refine (mul_any T.lo T.hi 8388608 8388608 _).mono ?_
        rintro e w4 ⟨rfl, hb4⟩
        obtain ⟨hc4, hf4⟩ := bcell hb4
        have hz4 := hb4.size
        try simp at hz4
        have hs4_0 : w.heap.size < w4.heap.size := by omega
        have hs4_1 : w.heap.size + 1 < w4.heap.size := by omega
        have hs4_2 : w1.heap.size < w4.heap.size := by omega
        have hs4_3 : w2.heap.size < w4.heap.size := by omega
        have hs4_4 : w3.heap.size < w4.heap.size := by omega
        have hw4 : Below w.heap.size w w4 := Below.trans (by repeat (first | exact hw3 | refine Below.drew ?_ | refine Below.setCell ?_ (by first | omega | (simp <;> omega)) _ | refine Below.alloc ?_ (by first | omega | (simp <;> omega)) _)) (hb4.mono (by first | omega | (simp <;> omega)))
        clear hb4 hz4
        obtain ⟨U, eU⟩ : ∃ U, U = mulR T.lo T.hi 8388608 8388608 := ⟨_, rfl⟩
        rw [← eU]
        have HU := Lib.hid eU
        clear eU
        by_cases hU : U.e = 0
        · have KU := Lib.hid hU
          go_wp2_with fail
          refine (cut_any U.lo U.hi _).mono ?_
          rintro e w5 ⟨rfl, hb5⟩
          obtain ⟨hc5, hf5⟩ := bcell hb5
          have hz5 := hb5.size
          try simp at hz5
          have hs5_0 : w.heap.size < w5.heap.size := by omega
          have hs5_1 : w.heap.size + 1 < w5.heap.size := by omega
          have hs5_2 : w1.heap.size < w5.heap.size := by omega
          have hs5_3 : w2.heap.size < w5.heap.size := by omega
          have hs5_4 : w3.heap.size < w5.heap.size := by omega
          have hs5_5 : w4.heap.size < w5.heap.size := by omega
          have hw5 : Below w.heap.size w w5 := Below.trans (by repeat (first | exact hw4 | refine Below.drew ?_ | refine Below.setCell ?_ (by first | omega | (simp <;> omega)) _ | refine Below.alloc ?_ (by first | omega | (simp <;> omega)) _)) (hb5.mono (by first | omega | (simp <;> omega)))
          clear hb5 hz5
          go_wp2_with fail
          exact bodyPost_ret (v := .tuple #[iv (cutI U.lo) (cutI U.hi), .int .i64 0]) (by simp [results, Try.results16, go_sem, *]) rfl ⟨by rw [reflR, ← HP.out, bind_ok KP.out, ← HQ.out, bind_ok KQ.out, ← HT.out, bind_ok KT.out, ← HU.out, bind_ok KU.out], by repeat (first | exact hw5 | refine Below.drew ?_ | refine Below.setCell ?_ (by first | omega | (simp <;> omega)) _ | refine Below.alloc ?_ (by first | omega | (simp <;> omega)) _)⟩
        · have KU := Lib.hid hU
          go_wp2_with fail
          exact bodyPost_ret (v := .tuple #[iv 0 0, .int .i64 U.e]) (by simp [results, Try.results16, go_sem, *]) rfl ⟨by rw [reflR, ← HP.out, bind_ok KP.out, ← HQ.out, bind_ok KQ.out, ← HT.out, bind_ok KT.out, ← HU.out, bind_err KU.out], by repeat (first | exact hw4 | refine Below.drew ?_ | refine Below.setCell ?_ (by first | omega | (simp <;> omega)) _ | refine Below.alloc ?_ (by first | omega | (simp <;> omega)) _)⟩
      · have KT := Lib.hid hT
        go_wp2_with fail
        exact bodyPost_ret (v := .tuple #[iv 0 0, .int .i64 T.e]) (by simp [results, Try.results16, go_sem, *]) rfl ⟨by rw [reflR, ← HP.out, bind_ok KP.out, ← HQ.out, bind_ok KQ.out, ← HT.out, bind_err KT.out], by repeat (first | exact hw3 | refine Below.drew ?_ | refine Below.setCell ?_ (by first | omega | (simp <;> omega)) _ | refine Below.alloc ?_ (by first | omega | (simp <;> omega)) _)⟩
    · have KQ := Lib.hid hQ
      go_wp2_with fail
      exact bodyPost_ret (v := .tuple #[iv 0 0, .int .i64 Q.e]) (by simp [results, Try.results16, go_sem, *]) rfl ⟨by rw [reflR, ← HP.out, bind_ok KP.out, ← HQ.out, bind_err KQ.out], by repeat (first | exact hw2 | refine Below.drew ?_ | refine Below.setCell ?_ (by first | omega | (simp <;> omega)) _ | refine Below.alloc ?_ (by first | omega | (simp <;> omega)) _)⟩
  · have KP := Lib.hid hP
    go_wp2_with fail
    exact bodyPost_ret (v := .tuple #[iv 0 0, .int .i64 P.e]) (by simp [results, Try.results16, go_sem, *]) rfl ⟨by rw [reflR, ← HP.out, bind_err KP.out], by repeat (first | exact hw1 | refine Below.drew ?_ | refine Below.setCell ?_ (by first | omega | (simp <;> omega)) _ | refine Below.alloc ?_ (by first | omega | (simp <;> omega)) _)⟩
set_option maxRecDepth 100000 in
set_option maxHeartbeats 1000000 in
theorem trans_any (s : Sf) (w : World) :
    Calls Try.prog 18 #[sv s] w fun e w' => e = retR (transR s) ∧ Below w.heap.size w w' := by
  go_enter Try.func18, Try.ntmps18
  go_wp2_with fail
  refine (refl_any s _).mono ?_
  rintro e w1 ⟨rfl, hb1⟩
  obtain ⟨hc1, hf1⟩ := bcell hb1
  have hz1 := hb1.size
  try simp at hz1
  have hs1_0 : w.heap.size < w1.heap.size := by omega
  have hs1_1 : w.heap.size + 1 < w1.heap.size := by omega
  have hw1 : Below w.heap.size w w1 := Below.trans (by repeat (first | exact Below.refl _ _ | refine Below.drew ?_ | refine Below.setCell ?_ (by first | omega | (simp <;> omega)) _ | refine Below.alloc ?_ (by first | omega | (simp <;> omega)) _)) (hb1.mono (by first | omega | (simp <;> omega)))
  clear hb1 hz1
  obtain ⟨P, eP⟩ : ∃ P, P = reflR s := ⟨_, rfl⟩
  rw [← eP]
  have HP := Lib.hid eP
  clear eP
  by_cases hP : P.e = 0
  · have KP := Lib.hid hP
    go_wp2_with fail
    refine (sub_any 16777216 16777216 P.lo P.hi _).mono ?_
    rintro e w2 ⟨rfl, hb2⟩
    obtain ⟨hc2, hf2⟩ := bcell hb2
    have hz2 := hb2.size
    try simp at hz2
    have hs2_0 : w.heap.size < w2.heap.size := by omega
    have hs2_1 : w.heap.size + 1 < w2.heap.size := by omega
    have hs2_2 : w1.heap.size < w2.heap.size := by omega
    have hw2 : Below w.heap.size w w2 := Below.trans (by repeat (first | exact hw1 | refine Below.drew ?_ | refine Below.setCell ?_ (by first | omega | (simp <;> omega)) _ | refine Below.alloc ?_ (by first | omega | (simp <;> omega)) _)) (hb2.mono (by first | omega | (simp <;> omega)))
    clear hb2 hz2
    go_wp2_with fail
    exact bodyPost_ret (v := .tuple #[.agg #[.int .i64 (subR 16777216 16777216 P.lo P.hi).lo, .int .i64 (subR 16777216 16777216 P.lo P.hi).hi], .int .i64 (subR 16777216 16777216 P.lo P.hi).e]) (by simp [results, Try.results18, go_sem, *]) rfl ⟨by rw [transR, ← HP.out, bind_ok KP.out], by repeat (first | exact hw2 | refine Below.drew ?_ | refine Below.setCell ?_ (by first | omega | (simp <;> omega)) _ | refine Below.alloc ?_ (by first | omega | (simp <;> omega)) _)⟩
  · have KP := Lib.hid hP
    go_wp2_with fail
    exact bodyPost_ret (v := .tuple #[iv 0 0, .int .i64 P.e]) (by simp [results, Try.results18, go_sem, *]) rfl ⟨by rw [transR, ← HP.out, bind_err KP.out], by repeat (first | exact hw1 | refine Below.drew ?_ | refine Below.setCell ?_ (by first | omega | (simp <;> omega)) _ | refine Below.alloc ?_ (by first | omega | (simp <;> omega)) _)⟩
end Go.Proofs.Ytognaejbpioihaa.Iv
