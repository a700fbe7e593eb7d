/- The functions Keep of package optimize and of its reference return the candidates that may be the best, for up to 20 candidates: contracts of both, and of both tests of intervals. -/
import Derived.Test.YtikbgdbbicnfnaaProg
import Derived.WalkKit
import Derived.WalkSpells
import Derived.WalkLawsBesides
import Derived.Below
import Derived.RowKit3
import Derived.IntWalk
import Derived.Lib.Hide
import Derived.Lib.Hide
namespace Go.Proofs.Ytikbgdbbicnfnaa.Keep
open Go.RowKit

theorem ret_bool {a b : Bool} (h : a = b) : Ending.returned (.bool a) = .returned (.bool b) := by rw [h]
def vB (lo hi : Int) : Bool := decide (-1073741824 ≤ lo ∧ lo ≤ hi ∧ hi ≤ 1073741824)

theorem valid_any (lo hi : Int) (w : World) :
    Calls Try.prog 50 #[.agg #[.int .i64 lo, .int .i64 hi]] w fun e w' => e = .returned (.bool (vB lo hi)) ∧ Below w.heap.size w w' := by
  go_enter Try.func50, Try.ntmps50
  go_wp2
  all_goals go_ret
  all_goals refine ⟨ret_bool ?_, (Below.refl _ _).alloc (Nat.le_refl _) _⟩
  all_goals (simp only [vB]; first | (rw [decide_eq_decide]; omega) | (symm; rw [decide_eq_false_iff_not]; omega))
theorem valid_ref (lo hi : Int) (w : World) :
    Calls Try.prog 51 #[.agg #[.int .i64 lo, .int .i64 hi]] w fun e w' => e = .returned (.bool (vB lo hi)) ∧ Below w.heap.size w w' := by
  go_enter Try.func51, Try.ntmps51
  go_wp2
  all_goals go_ret
  all_goals refine ⟨ret_bool ?_, (Below.refl _ _).alloc (Nat.le_refl _) _⟩
  all_goals (simp only [vB]; first | (rw [decide_eq_decide]; omega) | (symm; rw [decide_eq_false_iff_not]; omega))

structure El where
  nm : ByteArray
  od : Int
  mi : Bool
  ta : Option Addr
  tl : Nat
  tc : Nat
  lo : Int
  hi : Int

def Cands (w : World) (b off n : Nat) (E : Nat → El) : Prop :=
  ∀ i, i < n → w.cell? ⟨b, off + i * 6, none⟩ = some (.string (E i).nm) ∧ w.cell? ⟨b, off + i * 6 + 1, none⟩ = some (.int .i64 (E i).od) ∧ w.cell? ⟨b, off + i * 6 + 2, none⟩ = some (.bool (E i).mi) ∧
    w.cell? ⟨b, off + i * 6 + 3, none⟩ = some (.slice (E i).ta (E i).tl (E i).tc) ∧ w.cell? ⟨b, off + i * 6 + 4, none⟩ = some (.int .i64 (E i).lo) ∧ w.cell? ⟨b, off + i * 6 + 5, none⟩ = some (.int .i64 (E i).hi)

/-! the plain functions -/
def gm (E : Nat → El) : Nat → Int
  | 0 => -1073741824
  | k + 1 => max (gm E k) (E k).lo
def allV (E : Nat → El) : Nat → Bool
  | 0 => true
  | k + 1 => allV E k && vB (E k).lo (E k).hi
def keepL (E : Nat → El) (G : Int) : Nat → List Nat
  | 0 => []
  | k + 1 => keepL E G k ++ if G ≤ (E k).hi then [k] else []
theorem keepL_le (E : Nat → El) (G : Int) (k : Nat) : (keepL E G k).length ≤ k := by
  induction k with
  | zero => simp [keepL]
  | succ k ih => simp only [keepL, List.length_append]; split <;> simp <;> omega
theorem vB_iff {lo hi : Int} : vB lo hi = true ↔ -1073741824 ≤ lo ∧ lo ≤ hi ∧ hi ≤ 1073741824 := by simp [vB]
theorem allV_at {E : Nat → El} {n k : Nat} (h : allV E n = true) (hk : k < n) : vB (E k).lo (E k).hi = true := by
  induction n with
  | zero => omega
  | succ n ih =>
    simp only [allV, Bool.and_eq_true] at h
    by_cases e : k = n
    · subst e; exact h.2
    · exact ih h.1 (by omega)
theorem allV_no {E : Nat → El} {n k : Nat} (hk : k < n) (h : vB (E k).lo (E k).hi = false) : allV E n = false := by
  cases e : allV E n with
  | false => rfl
  | true => rw [allV_at e hk] at h; cases h
theorem gm_le (E : Nat → El) {n k : Nat} (hk : k < n) : (E k).lo ≤ gm E n := by
  induction n with
  | zero => omega
  | succ n ih =>
    simp only [gm]
    by_cases e : k = n
    · subst e; omega
    · have := ih (by omega); omega
theorem gm_ge (E : Nat → El) (n : Nat) : -1073741824 ≤ gm E n := by
  induction n with
  | zero => simp [gm]
  | succ n ih => simp only [gm]; omega

theorem info3 : (Try.prog.info? 3).map (fun i => (i.zero, i.size, i.bytes)) = some (some (.int .i64 0), 1, 8) := by kernel_rfl

theorem gm_up {E : Nat → El} {k : Nat} {G : Int} (hv : vB (E k).lo (E k).hi = true) (hG : 0 < k → G = gm E k) (h : k = 0 ∨ G < (E k).lo) : gm E (k + 1) = (E k).lo := by
  have h1 := (vB_iff.1 hv).1
  simp only [gm]
  rcases h with rfl | h
  · simp only [gm]; omega
  · by_cases e : k = 0
    · subst e; simp only [gm]; omega
    · rw [← hG (by omega)]; omega
theorem gm_stay {E : Nat → El} {k : Nat} {G : Int} (hG : 0 < k → G = gm E k) (hk : ¬ k = 0) (h : (E k).lo ≤ G) : gm E (k + 1) = G := by
  simp only [gm]
  rw [← hG (by omega)]; omega
theorem allV_succ {E : Nat → El} {k : Nat} (h : allV E k = true) (hv : vB (E k).lo (E k).hi = true) : allV E (k + 1) = true := by simp [allV, h, hv]
theorem keep_yes {E : Nat → El} {G : Int} {k : Nat} (h : G ≤ (E k).hi) : keepL E G (k + 1) = keepL E G k ++ [k] := by simp [keepL, h]
theorem keep_no {E : Nat → El} {G : Int} {k : Nat} (h : (E k).hi < G) : keepL E G (k + 1) = keepL E G k := by simp [keepL]; omega
theorem gm_next {E : Nat → El} {k : Nat} : gm E (k + 1) = if gm E k < (E k).lo then (E k).lo else gm E k := by simp only [gm]; split <;> omega
def CandsAt (w : World) (ao : Option Addr) (n : Nat) (E : Nat → El) : Prop := 0 < n → ∃ b off, ao = some ⟨b, off, none⟩ ∧ b < w.heap.size ∧ Cands w b off n E

theorem keepL_G {E : Nat → El} {n : Nat} {G : Int} (h : 0 < n → G = gm E n) : keepL E G n = keepL E (gm E n) n := by
  cases n with
  | zero => rfl
  | succ n => rw [h (by omega)]
def Ints (l : List Nat) : List Value := l.map fun i : Nat => Value.int .i64 (i : Int)
def KeepPost (n : Nat) (E : Nat → El) (w : World) (e : Ending) (w' : World) : Prop :=
  Below w.heap.size w w' ∧ ((allV E n = false ∧ e = .returned (.tuple #[.slice none 0 0, .int .i64 1])) ∨
    (allV E n = true ∧ ∃ v, e = .returned (.tuple #[v, .int .i64 0]) ∧ w'.ownsRow w.heap.size 3 1 v (keepL E (gm E n) n).length (Ints (keepL E (gm E n) n))))
/-- what is so behind the first loop -/
def G0 (E : Nat → El) (n : Nat) (G : Int) : Prop := 0 < n → G = gm E n

set_option maxRecDepth 100000 in
theorem keep_any (ao : Option Addr) (n cap : Nat) (E : Nat → El) (w : World) (hn : n ≤ 20) (hc0 : CandsAt w ao n E) :
    Calls Try.prog 30 #[.slice ao n cap] w (KeepPost n E w) := by
  obtain ⟨i0, hi, hz0, hz1, hz2⟩ := info_parts info3
  go_enter Try.func30, Try.ntmps30
  go_wp2
  go_loopw [4, 12] (fun g i wr => ∃ k : Nat, k ≤ n ∧ i = .int .i64 k ∧ (∃ G : Int, g = .int .i64 G ∧ G0 E k G) ∧ allV E k = true ∧ Below w.heap.size w wr) (fun _ i _ => n - (intOf i).toNat)
  case atStart => exact ⟨0, Nat.zero_le _, rfl, ⟨0, rfl, fun h => absurd h (by omega)⟩, rfl, Below.refl _ _⟩
  case round =>
    obtain ⟨k, hk, rfl, ⟨G, rfl, hG⟩, hav, hbel⟩ := hrel
    have HAV := Lib.hid hav
    clear hav
    by_cases hlt : k < n
    · obtain ⟨b, off, rfl, hb, hc⟩ := hc0 (by omega)
      obtain ⟨h0, h1, h2, h3, h4, h5⟩ := hc k hlt
      have g0 := (hbel.cell (by exact hb)).trans h0
      have g1 := (hbel.cell (by exact hb)).trans h1
      have g2 := (hbel.cell (by exact hb)).trans h2
      have g3 := (hbel.cell (by exact hb)).trans h3
      have g4 := (hbel.cell (by exact hb)).trans h4
      have g5 := (hbel.cell (by exact hb)).trans h5
      clear h0 h1 h2 h3 h4 h5
      go_wp2_with fail
      refine (valid_any _ _ _).mono ?_
      rintro e w1 ⟨rfl, hb1⟩
      have c4 := hb1.cell (p := ⟨wr.heap.size, 4, none⟩) (by simp)
      have c5 := hb1.cell (p := ⟨wr.heap.size, 5, none⟩) (by simp)
      simp [World.cell?_alloc_at] at c4 c5
      clear g0 g1 g2 g3 g4 g5
      have hz : wr.heap.size < w1.heap.size := by have := hb1.size; simp at this; omega
      have hbel1 : Below w.heap.size w w1 := hbel.trans (((Below.refl _ _).alloc hbel.size _).trans (hb1.mono (by have := hbel.size; simp; omega)))
      by_cases hv : vB (E k).lo (E k).hi = true
      · have HV := Lib.hid hv
        go_wp2
        · have hk0 : k = 0 := by assumption
          subst hk0
          go_roundw
          case rel => exact ⟨1, by omega, rfl, ⟨_, rfl, fun _ => (gm_up (k := 0) HV.out hG (.inl rfl)).symm⟩, allV_succ HAV.out HV.out, hbel1⟩
          case measure => simp [intOf]; omega
        · have hk0 : ¬ k = 0 := by assumption
          have hor : ((k : Int) == 0) = true ∨ G < (E k).lo := by assumption
          have hG' : G < (E k).lo := by
            rcases hor with h | h
            · simp at h; omega
            · exact h
          go_roundw
          case rel => exact ⟨k + 1, by omega, by go_num, ⟨_, rfl, fun _ => (gm_up HV.out hG (.inr hG')).symm⟩, allV_succ HAV.out HV.out, hbel1⟩
          case measure => simp [intOf]; omega
        · have hk0 : ¬ k = 0 := by assumption
          have hand : ((k : Int) == 0) = false ∧ (E k).lo ≤ G := by assumption
          go_roundw
          case rel => exact ⟨k + 1, by omega, by go_num, ⟨_, rfl, fun _ => (gm_stay hG hk0 hand.2).symm⟩, allV_succ HAV.out HV.out, hbel1⟩
          case measure => simp [intOf]; omega
      · have hv' : vB (E k).lo (E k).hi = false := by simpa using hv
        have HV := Lib.hid (allV_no hlt hv')
        clear hv
        go_wp2
        go_ret2
        exact ⟨hbel1, .inl ⟨HV.out, rfl⟩⟩
    · obtain rfl : k = n := by omega
      go_wp2_with fail
      go_loopw [7, 37] (fun v i wq => ∃ j : Nat, j ≤ k ∧ i = .int .i64 j ∧ wq.ownsRow w.heap.size 3 1 v (keepL E G j).length (Ints (keepL E G j)) ∧ Below w.heap.size w wq) (fun _ i _ => k - (intOf i).toNat)
      case atStart => exact ⟨0, Nat.zero_le _, rfl, ⟨rfl, .inr ⟨wr.heap.size, 0, #[], rfl, hbel.size, heap_alloc_new _ _, Nat.le_refl _, Nat.zero_le _, rfl, rfl⟩⟩, hbel.trans ((Below.refl _ _).alloc hbel.size _)⟩
      case round =>
        obtain ⟨j, hj, rfl, hown, hbq⟩ := hrel
        by_cases hlt : j < k
        · obtain ⟨b, off, rfl, hb, hc⟩ := hc0 (by omega)
          obtain ⟨h0, h1, h2, h3, h4, h5⟩ := hc j hlt
          have g0 := (hbq.cell (by exact hb)).trans h0
          have g1 := (hbq.cell (by exact hb)).trans h1
          have g2 := (hbq.cell (by exact hb)).trans h2
          have g3 := (hbq.cell (by exact hb)).trans h3
          have g4 := (hbq.cell (by exact hb)).trans h4
          have g5 := (hbq.cell (by exact hb)).trans h5
          have hkl := keepL_le E G j
          have hsz := hbq.size
          clear h0 h1 h2 h3 h4 h5
          by_cases hge : G ≤ (E j).hi
          · go_wp2_with (at_builtin; refine wpList_append_own _ rfl _ _ 22 rfl w.heap.size 3 i0 (.int .i64 0) 1 8 Try.underlying22 hi hz0 hz1 hz2 rfl (by decide) _ _ _ rfl ((hown.alloc _).alloc _) ⟨wr.heap.size + 1, 0, none⟩ 1 1 [.int .i64 j] rfl rfl ?c1 ?c2 ?c3 ?c4 ?c5 ?_)
            case c1 =>
              intro i u hi
              match i, hi with
              | 0, hi => simp at hi; subst hi; simp [Addr.add]
            case c2 => intro u hu; simp at hu; subst hu; rfl
            case c3 => unfold maxLen; omega
            case c4 => omega
            case c5 => simp; omega
            · intro v' w1 hown' hgrow _
              have hb1 : Below w.heap.size w w1 := by
                refine Below.grown ((hbq.alloc hbq.size _).alloc ?_ _) hgrow ?_ ?_
                · simp; omega
                · simp; omega
                · intro q hq
                  have := (hown.lt q hq).1
                  omega
              have hown2 : w1.ownsRow w.heap.size 3 1 v' (keepL E G (j + 1)).length (Ints (keepL E G (j + 1))) := by
                rw [keep_yes hge]
                simpa [Ints] using hown'
              clear hown' hgrow hown g0 g1 g2 g3 g4 g5
              go_wp2
              go_roundw
              case rel => exact ⟨j + 1, by omega, by go_num, hown2, hb1⟩
              case measure => simp [intOf]; omega
          · have hge' : (E j).hi < G := by omega
            clear hge
            go_wp2_with fail
            go_roundw
            case rel => exact ⟨j + 1, by omega, by go_num, by rw [keep_no hge']; exact hown.alloc _, hbq.trans ((Below.refl _ _).alloc hbq.size _)⟩
            case measure => simp [intOf]; omega
        · obtain rfl : j = k := by omega
          go_wp2_with fail
          go_ret2
          exact ⟨hbq, .inr ⟨HAV.out, _, rfl, by rw [← keepL_G hG]; exact hown⟩⟩

/-! the reference's Keep -/
set_option maxRecDepth 100000 in
theorem keep_ref (ao : Option Addr) (n cap : Nat) (E : Nat → El) (w : World) (hn : n ≤ 20) (hc0 : CandsAt w ao n E) :
    Calls Try.prog 31 #[.slice ao n cap] w (KeepPost n E w) := by
  obtain ⟨i0, hi, hz0, hz1, hz2⟩ := info_parts info3
  go_enter Try.func31, Try.ntmps31
  go_wp2
  go_loopw [4, 5] (fun g i wr => ∃ k : Nat, k ≤ n ∧ i = .int .i64 k ∧ g = .int .i64 (gm E k) ∧ allV E k = true ∧ Below w.heap.size w wr) (fun _ i _ => n - (intOf i).toNat)
  case atStart => exact ⟨0, Nat.zero_le _, rfl, rfl, rfl, Below.refl _ _⟩
  case round =>
    obtain ⟨k, hk, rfl, rfl, hav, hbel⟩ := hrel
    have HAV := Lib.hid hav
    clear hav
    by_cases hlt : k < n
    · obtain ⟨b, off, rfl, hb, hc⟩ := hc0 (by omega)
      obtain ⟨h0, h1, h2, h3, h4, h5⟩ := hc k hlt
      have g4 := (hbel.cell (by exact hb)).trans h4
      have g5 := (hbel.cell (by exact hb)).trans h5
      clear h0 h1 h2 h3 h4 h5
      go_wp2_with fail
      refine (valid_ref _ _ _).mono ?_
      rintro e w1 ⟨rfl, hb1⟩
      have c4 := (hb1.cell (p := ⟨b, off + k * 6 + 4, none⟩) (by have := hbel.size; simp; omega)).trans g4
      have hbel1 : Below w.heap.size w w1 := hbel.trans (hb1.mono hbel.size)
      clear g4 g5
      by_cases hv : vB (E k).lo (E k).hi = true
      · have HV := Lib.hid hv
        go_wp2
        go_roundw
        case rel => exact ⟨k + 1, by omega, by go_num, by rw [gm_next], allV_succ HAV.out HV.out, hbel1⟩
        case measure => simp [intOf]; omega
      · have hv' : vB (E k).lo (E k).hi = false := by simpa using hv
        have HV := Lib.hid (allV_no hlt hv')
        clear hv
        go_wp2
        go_ret2
        exact ⟨hbel1, .inl ⟨HV.out, rfl⟩⟩
    · obtain rfl : k = n := by omega
      obtain ⟨G, hG⟩ : ∃ G, G = gm E k := ⟨_, rfl⟩
      rw [← hG]
      have HG := Lib.hid hG
      clear hG
      go_wp2_with fail
      go_loopw [6, 7] (fun v i wq => ∃ j : Nat, j ≤ k ∧ i = .int .i64 j ∧ wq.ownsRow w.heap.size 3 1 v (keepL E G j).length (Ints (keepL E G j)) ∧ Below w.heap.size w wq) (fun _ i _ => k - (intOf i).toNat)
      case atStart => exact ⟨0, Nat.zero_le _, rfl, World.ownsRow_nil _ _ _ _, hbel⟩
      case round =>
        obtain ⟨j, hj, rfl, hown, hbq⟩ := hrel
        by_cases hlt : j < k
        · obtain ⟨b, off, rfl, hb, hc⟩ := hc0 (by omega)
          obtain ⟨h0, h1, h2, h3, h4, h5⟩ := hc j hlt
          have g5 := (hbq.cell (by exact hb)).trans h5
          have hkl := keepL_le E G j
          have hsz := hbq.size
          clear h0 h1 h2 h3 h4 h5
          by_cases hge : G ≤ (E j).hi
          · go_wp2_with (at_builtin; refine wpList_append_own _ rfl _ _ 22 rfl w.heap.size 3 i0 (.int .i64 0) 1 8 Try.underlying22 hi hz0 hz1 hz2 rfl (by decide) _ _ _ rfl (hown.alloc _) ⟨wr.heap.size, 0, none⟩ 1 1 [.int .i64 j] rfl rfl ?c1 ?c2 ?c3 ?c4 ?c5 ?_)
            case c1 =>
              intro i u hi
              match i, hi with
              | 0, hi => simp at hi; subst hi; simp [Addr.add]
            case c2 => intro u hu; simp at hu; subst hu; rfl
            case c3 => unfold maxLen; omega
            case c4 => omega
            case c5 => simp; omega
            · intro v' w1 hown' hgrow _
              have hb1 : Below w.heap.size w w1 := by
                refine Below.grown (hbq.alloc hbq.size _) hgrow ?_ ?_
                · simp; omega
                · intro q hq
                  have := (hown.lt q hq).1
                  omega
              have hown2 : w1.ownsRow w.heap.size 3 1 v' (keepL E G (j + 1)).length (Ints (keepL E G (j + 1))) := by
                rw [keep_yes hge]
                simpa [Ints] using hown'
              clear hown' hgrow hown g5
              go_wp2
              go_roundw
              case rel => exact ⟨j + 1, by omega, by go_num, hown2, hb1⟩
              case measure => simp [intOf]; omega
          · have hge' : (E j).hi < G := by omega
            clear hge
            go_wp2_with fail
            go_roundw
            case rel => exact ⟨j + 1, by omega, by go_num, by rw [keep_no hge']; exact hown, hbq⟩
            case measure => simp [intOf]; omega
        · obtain rfl : j = k := by omega
          go_wp2_with fail
          go_ret2
          exact ⟨hbq, .inr ⟨HAV.out, _, rfl, by rw [← HG.out]; exact hown⟩⟩
end Go.Proofs.Ytikbgdbbicnfnaa.Keep
