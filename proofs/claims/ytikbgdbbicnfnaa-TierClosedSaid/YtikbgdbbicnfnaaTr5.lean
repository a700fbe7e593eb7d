/- Contract of the program's positions of a tier: Positions of package tier. -/
import Derived.Test.YtikbgdbbicnfnaaTr4
namespace Go.Proofs.Ytikbgdbbicnfnaa.Tr
open Go.RowKit

structure T where
  nm : ByteArray
  h : Int
  v : Int
  ao : Option Addr
  n : Nat
  cap : Nat
  kd : Int
  B : Nat → Bool
  S : Nat → ByteArray
  ro : Option Addr
  rn : Nat
  rc : Nat
/-- a tier as a value -/
abbrev tv (t : T) : Value := .agg #[.string t.nm, .int .i64 t.h, .int .i64 t.v, .slice t.ao t.n t.cap, .int .i64 t.kd, .bool (t.B 0), .string (t.S 0), .bool (t.B 1), .string (t.S 1), .bool (t.B 2), .string (t.S 2), .bool (t.B 3), .string (t.S 3), .bool (t.B 4), .string (t.S 4), .bool (t.B 5), .string (t.S 5), .bool (t.B 6), .string (t.S 6), .bool (t.B 7), .string (t.S 7), .bool (t.B 8), .string (t.S 8), .bool (t.B 9), .string (t.S 9), .bool (t.B 10), .string (t.S 10), .bool (t.B 11), .string (t.S 11), .bool (t.B 12), .string (t.S 12), .bool (t.B 13), .string (t.S 13), .bool (t.B 14), .string (t.S 14), .bool (t.B 15), .string (t.S 15), .bool (t.B 16), .string (t.S 16), .bool (t.B 17), .string (t.S 17), .bool (t.B 18), .string (t.S 18), .bool (t.B 19), .string (t.S 19), .slice t.ro t.rn t.rc]
/-- a slice of integers that reads as a list -/
def ZAt (w : World) (ao : Option Addr) (L : List Int) : Prop := 0 < L.length → ∃ b off, ao = some ⟨b, off, none⟩ ∧ b < w.heap.size ∧ ∀ i, i < L.length → w.cell? ⟨b, off + i, none⟩ = some (.int .i64 (L[i]?.getD 0))
/-- what is marked after the first k indices -/
def allOrb (L : List Int) (st : Nat) (m : Bool) (k : Nat) (q : Nat) : Bool := (L.take k).any fun n => inOrb (n % 24).toNat st m q
theorem allOrb_succ (L : List Int) (st : Nat) (m : Bool) (k : Nat) (q : Nat) (h : k < L.length) : allOrb L st m (k + 1) q = (allOrb L st m k q || inOrb (L[k]?.getD 0 % 24).toNat st m q) := by
  unfold allOrb
  rw [List.take_succ_eq_append_getElem h, List.any_append, List.getElem?_eq_getElem h]
  simp
def posL (o : Int) (m : Bool) (h : Int) (L : List Int) : List Nat := if rightB o = true then (if h = 0 then [0] else upTo (allOrb L (24 / o.toNat) m L.length) 24) else []
theorem flags_congr {w : World} {b : Nat} {S S' : Nat → Bool} (h : FlagsAt w b S) (e : ∀ q, q < 24 → S q = S' q) : FlagsAt w b S' :=
  ⟨h.1, fun i hi => by rw [← e i hi]; exact h.2 i hi⟩
theorem zero_only : upTo (setF (fun _ => false) 0) 24 = [0] := by decide +kernel
theorem Only.trans {b : Nat} {w w1 w2 : World} (h : Only b w w1) (k : Only b w1 w2) : Only b w w2 :=
  ⟨fun c o hc => (k.other c o hc).trans (h.other c o hc), fun c o => (k.frozen c o).trans (h.frozen c o), k.size.trans h.size, fun B hB => (h.below B hB).trans (k.below B hB)⟩

theorem flags_one {w : World} {b : Nat} (hb : b = w.heap.size) : FlagsAt (w.alloc (.cells #[.bool true, .bool false, .bool false, .bool false, .bool false, .bool false, .bool false, .bool false, .bool false, .bool false, .bool false, .bool false, .bool false, .bool false, .bool false, .bool false, .bool false, .bool false, .bool false, .bool false, .bool false, .bool false, .bool false, .bool false] 89)) b (setF (fun _ => false) 0) := by
  subst hb
  refine ⟨by simp, fun i hi => ⟨?_, by simp [go_sem]⟩⟩
  rw [World.cell?_alloc_new]
  have : i = 0 ∨ i = 1 ∨ i = 2 ∨ i = 3 ∨ i = 4 ∨ i = 5 ∨ i = 6 ∨ i = 7 ∨ i = 8 ∨ i = 9 ∨ i = 10 ∨ i = 11 ∨ i = 12 ∨ i = 13 ∨ i = 14 ∨ i = 15 ∨ i = 16 ∨ i = 17 ∨ i = 18 ∨ i = 19 ∨ i = 20 ∨ i = 21 ∨ i = 22 ∨ i = 23 := by omega
  rcases this with rfl | rfl | rfl | rfl | rfl | rfl | rfl | rfl | rfl | rfl | rfl | rfl | rfl | rfl | rfl | rfl | rfl | rfl | rfl | rfl | rfl | rfl | rfl | rfl <;> rfl
theorem flags_none {w : World} {b : Nat} (hb : b = w.heap.size) : FlagsAt (w.alloc (.cells #[.bool false, .bool false, .bool false, .bool false, .bool false, .bool false, .bool false, .bool false, .bool false, .bool false, .bool false, .bool false, .bool false, .bool false, .bool false, .bool false, .bool false, .bool false, .bool false, .bool false, .bool false, .bool false, .bool false, .bool false] 89)) b (fun _ => false) := by
  subst hb
  exact flags_new w

set_option maxRecDepth 100000 in
set_option maxHeartbeats 4000000 in
theorem positions_any (o : Int) (m : Bool) (t : T) (L : List Int) (w : World) (hn : t.n = L.length) (hm : L.length ≤ 1000) (hL : ZAt w t.ao L) :
    Calls Try.prog 14 #[.int .i64 o, .bool m, tv t] w fun e w' => ∃ v, e = .returned v ∧ w'.ownsRow w.heap.size 3 1 v (posL o m t.h L).length (vals (posL o m t.h L)) ∧ Below w.heap.size w w' := by
  cases hr : rightB o
  · rw [show posL o m t.h L = [] from if_neg (by rw [hr]; decide)]
    have HR := Lib.hid hr
    clear hr
    go_enter Try.func14, Try.ntmps14
    go_wp2_with (go_at_call 34; refine (right_any _ _).mono ?_; rintro e w1 ⟨rfl, rfl⟩; rw [HR.out])
    go_ret
    exact ⟨_, rfl, ⟨rfl, .inl ⟨rfl, rfl⟩⟩, (Below.refl _ _).alloc (Nat.le_refl _) _⟩
  · have HR := Lib.hid hr
    obtain ⟨c, rfl, k0, k1, k2⟩ := right_nat hr
    have HL := Lib.hid (show posL (c : Int) m t.h L = (if t.h = 0 then [0] else upTo (allOrb L (24 / c) m L.length) 24) from by
      rw [show posL (c : Int) m t.h L = (if t.h = 0 then [0] else upTo (allOrb L (24 / (c : Int).toNat) m L.length) 24) from if_pos hr, Int.toNat_natCast])
    clear hr
    by_cases hh : t.h = 0
    · rw [HL.out, if_pos hh]
      go_enter Try.func14, Try.ntmps14
      go_wp2_with (go_at_call 34; refine (right_any _ _).mono ?_; rintro e w1 ⟨rfl, rfl⟩; rw [HR.out])
      refine (list_any (w.heap.size + 1) _ _ (flags_one (by simp))).mono ?_
      rintro e w2 ⟨v, rfl, hown, hb2⟩
      rw [zero_only] at hown
      go_wp2_with fail
      go_ret
      exact ⟨_, rfl, own_base hown (by simp; omega), (((Below.refl _ _).alloc (Nat.le_refl _) _).alloc (by simp) _).trans (hb2.mono (by simp; omega))⟩
    · have hh' : (t.h == 0) = false := by simpa using hh
      obtain ⟨st, hst⟩ : ∃ st, 24 / c = st := ⟨_, rfl⟩
      rw [HL.out, if_neg hh, hst]
      go_enter Try.func14, Try.ntmps14
      go_wp2_with (go_at_call 34; refine (right_any _ _).mono ?_; rintro e w1 ⟨rfl, rfl⟩; rw [HR.out])
      go_loopw [9, 20] (fun _ i wr => ∃ k : Nat, k ≤ L.length ∧ i = .int .i64 k ∧ FlagsAt wr (w.heap.size + 1) (allOrb L st m k) ∧ Below w.heap.size w wr ∧ w.heap.size + 1 + 1 ≤ wr.heap.size) (fun _ i _ => L.length - (intOf i).toNat)
      case atStart => exact ⟨0, Nat.zero_le _, rfl, flags_congr (flags_none (by simp)) (fun q _ => rfl), ((Below.refl _ _).alloc (Nat.le_refl _) _).alloc (by simp) _, by simp⟩
      case round =>
        obtain ⟨k, hk, rfl, hfl, hbel, hsz⟩ := hrel
        by_cases hlt : k < L.length
        · obtain ⟨b, off, hao, hb1, hc⟩ := hL (by omega)
          have g0 := (hbel.cell (p := ⟨b, off + k, none⟩) hb1).trans (hc k hlt)
          obtain ⟨x, hx⟩ : ∃ x, L[k]?.getD 0 = x := ⟨_, rfl⟩
          rw [hx] at g0
          have HS := Lib.hid (fun q => allOrb_succ L st m k q hlt)
          have HX := Lib.hid hx
          have HF := Lib.hid hfl
          have i1 : (0 : Int) ≤ k := by omega
          have i2 : (k : Int) < L.length := by omega
          clear hx hfl hc
          rw [hao]
          go_wp2_with fail
          refine (mark_any (w.heap.size + 1) c m x _ wr HF.out k0 k2).mono ?_
          rintro e w1 ⟨rfl, hfl1, hon⟩
          have hb2 := hon.below w.heap.size (by omega)
          have hs2 := hon.size
          have F1 := Lib.hid (flags_congr hfl1 (S' := allOrb L st m (k + 1)) (fun q hq => by rw [marks_hit, hit_orb m k0 k2 (by omega) hq, HS.out q, HX.out, hst]))
          clear hfl1 hon
          go_wp2
          go_roundw
          case rel => exact ⟨k + 1, by omega, by go_num, F1.out, hbel.trans hb2, by omega⟩
          case measure => simp [intOf]; omega
        · obtain rfl : k = L.length := by omega
          have HF := Lib.hid hfl
          clear hfl
          go_wp2_with fail
          refine (list_any (w.heap.size + 1) _ wr HF.out).mono ?_
          rintro e w2 ⟨v, rfl, hown, hb2⟩
          go_wp2_with fail
          go_ret
          exact ⟨_, rfl, own_base hown (by omega), hbel.trans (hb2.mono (by omega))⟩
end Go.Proofs.Ytikbgdbbicnfnaa.Tr
