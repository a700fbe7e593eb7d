/- Contracts of the wheel's marks: mark of package tier sets the marks of an orbit, and list lists what is marked. -/
import Derived.Test.YtikbgdbbicnfnaaProg
import Derived.Test.YtikbgdbbicnfnaaTrMath
import Derived.WalkKit
import Derived.WalkSpells
import Derived.WalkLawsBesides
import Derived.WalkSmall
import Derived.Below
import Derived.IntWalk
import Derived.Lib.Hide
import Derived.Laws.OwnMore
import Derived.Deep.AppendLies
import Derived.Deep.QuietTactic
import Derived.BigQuiet
import Derived.Great.Walk
namespace Go.Proofs.Ytikbgdbbicnfnaa.Tr
open Go.RowKit

/-- 24 marks at a block -/
def FlagsAt (w : World) (b : Nat) (S : Nat → Bool) : Prop := b < w.heap.size ∧ ∀ i, i < 24 → w.cell? ⟨b, i, none⟩ = some (.bool (S i)) ∧ w.frozen? ⟨b, i, none⟩ = false
/-- only the cells of one block may have changed -/
structure Only (b : Nat) (w w' : World) : Prop where
  other : ∀ c o, ¬ (c = b) → w'.cell? ⟨c, o, none⟩ = w.cell? ⟨c, o, none⟩
  frozen : ∀ c o, w'.frozen? ⟨c, o, none⟩ = w.frozen? ⟨c, o, none⟩
  size : w'.heap.size = w.heap.size
  below : ∀ B, B ≤ b → Below B w w'
theorem Only.refl (b : Nat) (w : World) : Only b w w := ⟨fun _ _ _ => rfl, fun _ _ => rfl, rfl, fun _ _ => Below.refl _ _⟩
theorem Only.set {b p : Nat} {w w' : World} {v : Value} (h : Only b w w') : Only b w (w'.setCell ⟨b, p, none⟩ v) := by
  refine ⟨fun c o hc => ?_, fun c o => ?_, by rw [← h.size]; simp, fun B hB => (h.below B hB).setCell hB _⟩
  · rw [World.cell?_setCell_other]
    · exact h.other c o hc
    · intro e; injection e with e1; exact hc e1.symm
  · rw [World.frozen?_setCell]
    exact h.frozen c o
theorem FlagsAt.set {b p : Nat} {w : World} {S : Nat → Bool} (h : FlagsAt w b S) (hp : p < 24) : FlagsAt (w.setCell ⟨b, p, none⟩ (.bool true)) b (setF S p) := by
  obtain ⟨h1, h2⟩ := h
  refine ⟨by simpa using h1, fun i hi => ⟨?_, ?_⟩⟩
  · by_cases e : i = p
    · subst e
      rw [show setF S i i = true from if_pos rfl]
      apply World.cell?_setCell_same
      exact (h2 i hi).1
    · rw [show setF S p i = S i from if_neg e, World.cell?_setCell_other]
      · exact (h2 i hi).1
      · intro x; injection x with _ x2; exact e x2.symm
  · rw [World.frozen?_setCell]
    exact (h2 i hi).2

set_option maxRecDepth 100000 in
theorem mark_any (b o : Nat) (m : Bool) (n : Int) (S : Nat → Bool) (w : World) (h : FlagsAt w b S) (h0 : 0 < o) (hd : 24 % o = 0) :
    Calls Try.prog 35 #[.pointer (some ⟨b, 0, none⟩), .int .i64 o, .bool m, .int .i64 n] w fun e w' => e = .returned (.tuple #[]) ∧ FlagsAt w' b (marks (n % 24).toNat (24 / o) m S o) ∧ Only b w w' := by
  obtain ⟨st, hst⟩ : ∃ st, 24 / o = st := ⟨_, rfl⟩
  have hso : st * o = 24 := by rw [← hst]; exact Nat.div_mul_cancel (Nat.dvd_of_mod_eq_zero hd)
  have hs0 : 0 < st := by
    rcases Nat.eq_zero_or_pos st with h | h
    · rw [h] at hso; omega
    · exact h
  have hs1 : st ≤ 24 := by rw [← hst]; exact Nat.div_le_self _ _
  have ho1 : o ≤ 24 := Nat.le_of_dvd (by decide) (Nat.dvd_of_mod_eq_zero hd)
  have t1 : (24 : Int).tdiv (o : Int) = (st : Int) := by rw [← hst, Int.tdiv_eq_ediv_of_nonneg (by decide)]; exact_mod_cast rfl
  have t2 := onWheel_eq n
  unfold onWheel at t2
  obtain ⟨i, hi⟩ : ∃ i : Nat, n % 24 = i := ⟨(n % 24).toNat, by omega⟩
  have hi24 : i < 24 := by omega
  rw [hi] at t2
  rw [show (n % 24).toNat = i from by omega, hst]
  have b1 : n.tmod 24 < 24 ∧ -24 < n.tmod 24 := by
    have := Int.tmod_lt_of_pos n (show (0 : Int) < 24 by decide)
    have := Int.lt_tmod_of_pos n (show (0 : Int) < 24 by decide)
    omega
  have z0 : ((o : Int) == 0) = false := by simp; omega
  go_enter Try.func35, Try.ntmps35
  go_wp2
  go_loopw [8] (fun t wr => ∃ k : Nat, k ≤ o ∧ t = .int .i64 ((st * k : Nat) : Int) ∧ FlagsAt wr b (marks i st m S k) ∧ Only b w wr) (fun t _ => 24 - (intOf t).toNat)
  case atStart => exact ⟨0, Nat.zero_le _, rfl, h, Only.refl _ _⟩
  case round =>
    obtain ⟨k, hk, rfl, hfl, hon⟩ := hrel
    by_cases hlt : k < o
    · have u1 : st * k + st ≤ 24 := by
        have := Nat.mul_le_mul_left st (show k + 1 ≤ o by omega)
        rw [Nat.mul_add, Nat.mul_one, hso] at this
        exact this
      obtain ⟨t, ht⟩ : ∃ t, st * k = t := ⟨_, rfl⟩
      rw [ht] at u1 ⊢
      have e1 : ((i : Int) + (t : Int)).tmod 24 = (((i + t) % 24 : Nat) : Int) := by rw [Int.tmod_eq_emod_of_nonneg (by omega)]; omega
      have e2 : (24 - (i : Int) + (t : Int)).tmod 24 = (((24 - i + t) % 24 : Nat) : Int) := by rw [Int.tmod_eq_emod_of_nonneg (by omega)]; omega
      obtain ⟨p, hp⟩ : ∃ p, (i + t) % 24 = p := ⟨_, rfl⟩
      obtain ⟨q, hq⟩ : ∃ q, (24 - i + t) % 24 = q := ⟨_, rfl⟩
      have p24 : p < 24 := by omega
      have q24 : q < 24 := by omega
      rw [hp] at e1
      rw [hq] at e2
      have hm : marks i st m S (k + 1) = if m = true then setF (setF (marks i st m S k) p) q else setF (marks i st m S k) p := by rw [marks, ht, hp, hq]
      have f1 := hfl.set p24
      have f2 := f1.set q24
      have o1 := hon.set (p := p) (v := .bool true)
      have o2 := o1.set (p := q) (v := .bool true)
      have c1 := (hfl.2 p p24).1
      have c2 := (hfl.2 p p24).2
      have c3 := (f1.2 q q24).1
      have c4 := (f1.2 q q24).2
      have M := Lib.hid hm
      have F1 := Lib.hid f1
      have F2 := Lib.hid f2
      have O1 := Lib.hid o1
      have O2 := Lib.hid o2
      have hts : ((t + st : Nat) : Int) = (t : Int) + (st : Int) := by omega
      have hk1 : st * (k + 1) = t + st := by rw [Nat.mul_add, Nat.mul_one, ht]
      clear hm f1 f2 o1 o2 hfl hon
      cases m
      · go_wp2
        go_roundw
        case rel => exact ⟨k + 1, by omega, by rw [hk1, hts], by rw [M.out, if_neg (by decide)]; exact F1.out, O1.out⟩
        case measure => simp [intOf]; omega
      · go_wp2
        go_roundw
        case rel => exact ⟨k + 1, by omega, by rw [hk1, hts], by rw [M.out, if_pos rfl]; exact F2.out, O2.out⟩
        case measure => simp [intOf]; omega
    · obtain rfl : k = o := by omega
      rw [hso]
      go_wp2_with fail
      exact Go.Great.bodyPost_end0 rfl rfl ⟨rfl, hfl, hon⟩

theorem info_int : (Try.prog.info? 3).map (fun i => (i.zero, i.size, i.bytes)) = some (some (.int .i64 0), 1, 8) := by kernel_rfl
def vals (L : List Nat) : List Value := L.map fun x : Nat => Value.int .i64 (x : Int)
theorem vals_snoc (L : List Nat) (x : Nat) : vals (L ++ [x]) = vals L ++ [.int .i64 (x : Int)] := by simp [vals]
theorem one_new (w : World) (v : Value) (t : TypeId) : ∀ j u, [v][j]? = some u → (w.alloc (.cells #[v] t)).cell? ((⟨w.heap.size, 0, none⟩ : Addr).add j) = some u := by
  intro j u hu
  have : j = 0 := by
    cases j with
    | zero => rfl
    | succ j => simp at hu
  subst this
  simp at hu
  subst hu
  simp [Addr.add, go_sem]
theorem one_int (k : IntKind) (x : Int) : ∀ u ∈ [Value.int k x], u.oneCell' = true := by
  intro u hu
  simp at hu
  subst hu
  rfl
theorem upTo_len (S : Nat → Bool) (k : Nat) : (upTo S k).length ≤ k := by
  induction k with
  | zero => exact Nat.zero_le _
  | succ k ih =>
    unfold upTo
    split
    · rw [List.length_append]; simp; omega
    · omega

set_option maxRecDepth 100000 in
theorem list_any (b : Nat) (S : Nat → Bool) (w : World) (h : FlagsAt w b S) :
    Calls Try.prog 36 #[.pointer (some ⟨b, 0, none⟩)] w fun e w' => ∃ v, e = .returned v ∧ w'.ownsRow w.heap.size 3 1 v (upTo S 24).length (vals (upTo S 24)) ∧ Below w.heap.size w w' := by
  obtain ⟨i0, hi, hz0, hz1, hz2⟩ := info_parts info_int
  obtain ⟨hb, hS⟩ := h
  go_enter Try.func36, Try.ntmps36
  go_wp2
  go_loopw [3, 4, 5, 8] (fun v _ _ i wr => ∃ k : Nat, k ≤ 24 ∧ i = .int .i64 k ∧ wr.ownsRow w.heap.size 3 1 v (upTo S k).length (vals (upTo S k)) ∧ Below w.heap.size w wr) (fun _ _ _ i _ => 24 - (intOf i).toNat)
  case atStart => exact ⟨0, Nat.zero_le _, rfl, ⟨rfl, .inr ⟨w.heap.size, 0, #[], rfl, Nat.le_refl _, heap_alloc_new _ _, Nat.le_refl _, Nat.zero_le _, rfl, rfl⟩⟩, (Below.refl _ _).alloc (Nat.le_refl _) _⟩
  case round =>
    obtain ⟨k, hk, rfl, hown, hbel⟩ := hrel
    have hsz := hbel.size
    by_cases hlt : k < 24
    · have g0 := (hbel.cell (p := ⟨b, k, none⟩) hb).trans (hS k hlt).1
      have i1 : (0 : Int) ≤ k := by omega
      have i2 : (k : Int) < 24 := by omega
      have hlen := upTo_len S k
      obtain ⟨m, hm⟩ : ∃ m, (upTo S k).length = m := ⟨_, rfl⟩
      rw [hm] at hown hlen
      cases hSk : S k
      · rw [hSk] at g0
        have HT := Lib.hid (show upTo S (k + 1) = upTo S k from by rw [upTo, if_neg (by rw [hSk]; decide)])
        clear hSk
        go_wp2_with fail
        go_quiet (fail)
        obtain ⟨wq, hq⟩ : ∃ wq, wq = wr.drewN nq := ⟨_, rfl⟩
        have hown2 : wq.ownsRow w.heap.size 3 1 u3 m (vals (upTo S k)) := by rw [hq]; exact hown
        have hbel2 : Below w.heap.size w wq := by rw [hq]; exact Below.trans hbel ⟨rfl, rfl, rfl, Nat.le_refl _, fun _ _ => rfl⟩
        rw [← hq]
        clear hq
        have hsz2 := hbel2.size
        clear hown hbel
        go_wp2
        go_roundw
        case rel => exact ⟨k + 1, by omega, by go_num, by rw [HT.out, hm]; exact hown2, hbel2⟩
        case measure => simp [intOf]; omega
      · rw [hSk] at g0
        have HT := Lib.hid (show upTo S (k + 1) = upTo S k ++ [k] from by rw [upTo, if_pos hSk])
        clear hSk
        go_wp2_with fail
        go_quiet (fail)
        obtain ⟨wq, hq⟩ : ∃ wq, wq = wr.drewN nq := ⟨_, rfl⟩
        have hown2 : wq.ownsRow w.heap.size 3 1 u3 m (vals (upTo S k)) := by rw [hq]; exact hown
        have hbel2 : Below w.heap.size w wq := by rw [hq]; exact Below.trans hbel ⟨rfl, rfl, rfl, Nat.le_refl _, fun _ _ => rfl⟩
        rw [← hq]
        clear hq
        have hsz2 := hbel2.size
        clear hown hbel
        go_wp2_with (at_builtin; refine wpList_append_own _ rfl _ _ 22 rfl w.heap.size 3 i0 (.int .i64 0) 1 8 Try.underlying22 hi hz0 hz1 hz2 rfl (by decide) _ _ _ rfl (hown2.alloc _) ⟨wq.heap.size, 0, none⟩ 1 1 [.int .i64 k] rfl rfl (one_new _ _ _) (one_int _ _) (by unfold maxLen; omega) (by omega) (by simp; omega) ?_)
        intro v' w1 hown' hgrow _
        have hb2 : Below w.heap.size w w1 := by
          refine Below.grown (hbel2.alloc hbel2.size _) hgrow ?_ ?_
          · simp; omega
          · intro q hq
            have := (hown2.lt q hq).1
            omega
        clear hgrow hown2 g0
        go_wp2
        go_roundw
        case rel => exact ⟨k + 1, by omega, by go_num, by rw [HT.out, vals_snoc, List.length_append, hm]; exact hown', hb2⟩
        case measure => simp [intOf]; omega
    · obtain rfl : k = 24 := by omega
      go_wp2_with fail
      go_ret
      exact ⟨_, rfl, hown, hbel⟩
end Go.Proofs.Ytikbgdbbicnfnaa.Tr
