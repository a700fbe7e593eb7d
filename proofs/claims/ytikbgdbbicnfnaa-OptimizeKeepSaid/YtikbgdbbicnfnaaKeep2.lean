/- The statement's function OptimizeKeep returns true for every list of candidates, and leaves memory that was there as it was: contracts of its callees and its walk. -/
import Derived.Test.YtikbgdbbicnfnaaKeep1
import Derived.Deep.QuietTactic
import Derived.BigQuiet
import Derived.Deep.Draws
import Derived.Laws.OwnMore
import Derived.WalkSmall
import Derived.Deep.AppendLies
namespace Go.Proofs.Ytikbgdbbicnfnaa.Keep
open Go.RowKit

theorem info103 : (Try.prog.info? 103).map (fun i => (i.zero, i.size, i.bytes)) = some (some (.agg #[.string ByteArray.empty, .int .i64 0, .bool false, .slice none 0 0, .int .i64 0, .int .i64 0]), 6, 72) := by kernel_rfl

def cells6 (x : El) : List Value := [.string x.nm, .int .i64 x.od, .bool x.mi, .slice x.ta x.tl x.tc, .int .i64 x.lo, .int .i64 x.hi]
def cellsN (E : Nat → El) : Nat → List Value
  | 0 => []
  | k + 1 => cellsN E k ++ cells6 (E k)
theorem cellsN_len (E : Nat → El) (k : Nat) : (cellsN E k).length = k * 6 := by
  induction k with
  | zero => rfl
  | succ k ih => simp only [cellsN, List.length_append, ih, cells6, List.length_cons, List.length_nil]; omega
theorem cellsN_at (E : Nat → El) {n i : Nat} (h : i < n) (j : Nat) (hj : j < 6) : (cellsN E n)[i * 6 + j]? = (cells6 (E i))[j]? := by
  induction n with
  | zero => omega
  | succ n ih =>
    simp only [cellsN]
    by_cases e : i = n
    · subst e
      rw [List.getElem?_append_right (by rw [cellsN_len]; omega), cellsN_len]
      congr 1; omega
    · rw [List.getElem?_append_left (by rw [cellsN_len]; omega)]
      exact ih (by omega)

def TheirsPost (n : Nat) (E : Nat → El) (w : World) (e : Ending) (w' : World) : Prop :=
  Below w.heap.size w w' ∧ ∃ ao cap, e = .returned (.slice ao n cap) ∧ CandsAt w' ao n E

theorem add0 (g n : Nat) : (⟨g, 0, none⟩ : Addr).add n = ⟨g, n, none⟩ := by unfold Addr.add; split <;> simp_all
theorem own_cands {w : World} {B n : Nat} {E : Nat → El} {v : Value} (h : w.ownsRow B 103 6 v n (cellsN E n)) : ∃ ao cap, v = .slice ao n cap ∧ CandsAt w ao n E := by
  by_cases hn : 0 < n
  · obtain ⟨g, cap, rfl, h1, h2⟩ := h.form hn
    refine ⟨_, _, rfl, fun _ => ⟨g, 0, rfl, h2, fun i hi => ?_⟩⟩
    have hc := h.cells (g := g) rfl
    have key : ∀ j, j < 6 → ∀ u, (cells6 (E i))[j]? = some u → w.cell? ⟨g, 0 + i * 6 + j, none⟩ = some u := by
      intro j hj u hu
      have := hc (i * 6 + j) u (by rw [cellsN_at E hi j hj]; exact hu)
      rw [add0] at this
      simpa using this
    exact ⟨key 0 (by omega) _ rfl, key 1 (by omega) _ rfl, key 2 (by omega) _ rfl, key 3 (by omega) _ rfl, key 4 (by omega) _ rfl, key 5 (by omega) _ rfl⟩
  · obtain rfl : n = 0 := by omega
    rcases h.2 with ⟨rfl, _⟩ | ⟨g, cap, cur, rfl, _⟩
    · exact ⟨none, 0, rfl, fun h => absurd h (by omega)⟩
    · exact ⟨_, _, rfl, fun h => absurd h (by omega)⟩

set_option maxRecDepth 100000 in
theorem theirs_any (ao : Option Addr) (n cap : Nat) (E : Nat → El) (w : World) (hn : n ≤ 20) (hc0 : CandsAt w ao n E) :
    Calls Try.prog 32 #[.slice ao n cap] w (TheirsPost n E w) := by
  obtain ⟨i0, hi, hz0, hz1, hz2⟩ := info_parts info103
  go_enter Try.func32, Try.ntmps32
  go_wp2
  go_loopw [3, 4] (fun v i wr => ∃ k : Nat, k ≤ n ∧ i = .int .i64 k ∧ wr.ownsRow w.heap.size 103 6 v k (cellsN E k) ∧ Below w.heap.size w wr) (fun _ i _ => n - (intOf i).toNat)
  case atStart => exact ⟨0, Nat.zero_le _, rfl, World.ownsRow_nil _ _ _ _, Below.refl _ _⟩
  case round =>
    obtain ⟨k, hk, rfl, hown, hbel⟩ := hrel
    have hsz := hbel.size
    by_cases hlt : k < n
    · obtain ⟨b, off, rfl, hb, hc⟩ := hc0 (by omega)
      obtain ⟨h0, h1, h2, h3, h4, h5⟩ := hc k hlt
      have g0 := (hbel.cell (by exact hb)).trans h0
      have g1 := (hbel.cell (by exact hb)).trans h1
      have g2 := (hbel.cell (by exact hb)).trans h2
      have g3 := (hbel.cell (by exact hb)).trans h3
      have g4 := (hbel.cell (by exact hb)).trans h4
      have g5 := (hbel.cell (by exact hb)).trans h5
      clear h0 h1 h2 h3 h4 h5
      go_wp2_with (at_builtin; go_loud (refine wpList_append_own _ rfl _ _ 74 rfl w.heap.size 103 i0 (.agg #[.string ByteArray.empty, .int .i64 0, .bool false, .slice none 0 0, .int .i64 0, .int .i64 0]) 6 72 Try.underlying74 hi hz0 hz1 hz2 rfl (by decide) _ _ _ rfl (hown.alloc _) ⟨wr.heap.size, 0, none⟩ 1 1 (cells6 (E k)) rfl rfl ?c1 ?c2 ?c3 ?c4 ?c5 ?_))
      case c1 =>
        intro i u hi
        match i, hi with
        | 0, hi => simp [cells6] at hi; subst hi; simp [Addr.add]
        | 1, hi => simp [cells6] at hi; subst hi; simp [Addr.add]
        | 2, hi => simp [cells6] at hi; subst hi; simp [Addr.add]
        | 3, hi => simp [cells6] at hi; subst hi; simp [Addr.add]
        | 4, hi => simp [cells6] at hi; subst hi; simp [Addr.add]
        | 5, hi => simp [cells6] at hi; subst hi; simp [Addr.add]
      case c2 => intro u hu; simp [cells6] at hu; rcases hu with rfl | rfl | rfl | rfl | rfl | rfl <;> rfl
      case c3 => unfold maxLen; omega
      case c4 => omega
      case c5 => simp; omega
      · intro v' w1 hown' hgrow _
        have hb1 : Below w.heap.size w w1 := by
          refine Below.grown (hbel.alloc hbel.size _) hgrow ?_ ?_
          · simp; omega
          · intro q hq
            have := (hown.lt q hq).1
            omega
        clear hgrow hown g0 g1 g2 g3 g4 g5
        go_wp2
        go_roundw
        case rel => exact ⟨k + 1, by omega, by go_num, hown', hb1⟩
        case measure => simp [intOf]; omega
    · obtain rfl : k = n := by omega
      obtain ⟨ao', cap', rfl, hcc⟩ := own_cands hown
      go_wp2_with fail
      go_ret
      exact ⟨hbel, _, _, rfl, hcc⟩

/-- a slice of ints that reads as a list -/
def IntsAt (w : World) (ao : Option Addr) (L : List Nat) : Prop := 0 < L.length → ∃ b off, ao = some ⟨b, off, none⟩ ∧ b < w.heap.size ∧ ∀ i, i < L.length → w.cell? ⟨b, off + i, none⟩ = some (.int .i64 ((L[i]?.getD 0 : Nat) : Int))

theorem same_any (ao bo : Option Addr) (n ca cb : Nat) (L : List Nat) (w : World) (hn : n = L.length) (hm : n ≤ 20) (ha : IntsAt w ao L) (hb : IntsAt w bo L) :
    Calls Try.prog 12 #[.slice ao n ca, .slice bo n cb] w fun e w' => e = .returned (.bool true) ∧ Below w.heap.size w w' := by
  subst hn
  go_enter Try.func12, Try.ntmps12
  go_wp2
  go_loopw [5] (fun i wr => ∃ k : Nat, k ≤ L.length ∧ i = .int .i64 k ∧ Below w.heap.size w wr) (fun i _ => L.length - (intOf i).toNat)
  case atStart => exact ⟨0, Nat.zero_le _, rfl, Below.refl _ _⟩
  case round =>
    obtain ⟨k, hk, rfl, hbel⟩ := hrel
    by_cases hlt : k < L.length
    · obtain ⟨b, off, rfl, hb1, hc⟩ := ha (by omega)
      obtain ⟨b', off', rfl, hb2, hc'⟩ := hb (by omega)
      have g0 := (hbel.cell (by exact hb1)).trans (hc k hlt)
      have g1 := (hbel.cell (by exact hb2)).trans (hc' k hlt)
      have i0 : (0 : Int) ≤ k := by omega
      have i1 : (k : Int) < L.length := by omega
      go_wp2
      go_quiet (fail)
      go_wp2
      go_roundw
      case rel => exact ⟨k + 1, by omega, by go_num, below_drewN hbel _⟩
      case measure => simp [intOf]; omega
    · obtain rfl : k = L.length := by omega
      go_wp2_with fail
      go_ret
      exact ⟨rfl, hbel⟩

theorem of_any (a b : Int) (w : World) (h1 : 0 ≤ a) (h2 : a ≤ 8) (h3 : 0 ≤ b) (h4 : b ≤ 8) :
    Calls Try.prog 49 #[.int .i64 a, .int .i64 b] w fun e w' => e = .returned (.agg #[.int .i64 (a * 2097152), .int .i64 (b * 2097152)]) ∧ Below w.heap.size w w' := by
  go_enter Try.func49, Try.ntmps49
  go_wp2
  have e1 : a * 16777216 / 8 = a * 2097152 := by omega
  have e2 : b * 16777216 / 8 = b * 2097152 := by omega
  rw [e1, e2]
  refine bodyPost_ret (v := .agg #[.int .i64 (a * 2097152), .int .i64 (b * 2097152)]) (by simp [results, Try.results49, go_sem]) rfl ⟨rfl, (Below.refl _ _).alloc (Nat.le_refl _) _⟩

def Eaw : Nat → El := fun i => if i = 0 then ⟨ByteArray.empty, 0, false, none, 0, 0, 0, 8388608⟩ else if i = 1 then ⟨ByteArray.empty, 0, false, none, 0, 0, 4194304, 12582912⟩ else ⟨ByteArray.empty, 0, false, none, 0, 0, 0, 2097152⟩
theorem aw_valid : allV Eaw 3 = true := by decide
theorem aw_keep : keepL Eaw (gm Eaw 3) 3 = [0, 1] := by decide
theorem cands_aw (w3 : World) : Cands (w3.alloc (.cells #[.string { data := #[] }, .int .i64 0, .bool false, .slice none 0 0, .int .i64 0, .int .i64 8388608, .string { data := #[] }, .int .i64 0,
        .bool false, .slice none 0 0, .int .i64 4194304, .int .i64 12582912, .string { data := #[] }, .int .i64 0, .bool false, .slice none 0 0, .int .i64 0, .int .i64 2097152] 82)) w3.heap.size 0 3 Eaw := by
  intro i hi
  have h : i = 0 ∨ i = 1 ∨ i = 2 := by omega
  rcases h with rfl | rfl | rfl <;> simp [World.cell?_alloc_at, Eaw] <;> rfl
set_option maxRecDepth 100000 in
theorem awake_any (w : World) : Calls Try.prog 29 #[] w fun e w' => e = .returned (.bool true) ∧ Below w.heap.size w w' := by
  go_enter Try.func29, Try.ntmps29
  go_wp2_with fail
  refine (of_any _ _ _ (by omega) (by omega) (by omega) (by omega)).mono ?_
  rintro e w1 ⟨rfl, hb1⟩
  go_wp2_with fail
  refine (of_any _ _ _ (by omega) (by omega) (by omega) (by omega)).mono ?_
  rintro e w2 ⟨rfl, hb2⟩
  go_wp2_with fail
  refine (of_any _ _ _ (by omega) (by omega) (by omega) (by omega)).mono ?_
  rintro e w3 ⟨rfl, hb3⟩
  go_wp2_with fail
  refine (keep_any _ 3 3 Eaw _ (by omega) (fun _ => ⟨w3.heap.size, 0, rfl, by simp, cands_aw w3⟩)).mono ?_
  rintro e w4 ⟨hb4, h⟩
  rcases h with ⟨h, _⟩ | ⟨_, v, rfl, hown⟩
  · rw [aw_valid] at h; cases h
  rw [aw_keep] at hown
  obtain ⟨g, cap, rfl, _, _⟩ := hown.form (by decide)
  have c0 : w4.cell? ⟨g, 0, none⟩ = some (.int .i64 0) := by simpa [Addr.add] using hown.cells rfl 0 _ rfl
  have c1 : w4.cell? ⟨g, 1, none⟩ = some (.int .i64 1) := by simpa [Addr.add] using hown.cells rfl 1 _ rfl
  have hb : Below w.heap.size w w4 := by
    refine hb1.trans ((hb2.mono hb1.size).trans ((hb3.mono (Nat.le_trans hb1.size hb2.size)).trans ?_))
    refine ((Below.refl _ _).alloc (Nat.le_trans hb1.size (Nat.le_trans hb2.size hb3.size)) _).trans (hb4.mono ?_)
    have := hb1.size; have := hb2.size; have := hb3.size; simp; omega
  clear hown hb4 hb3 hb2 hb1
  go_wp2
  go_ret
  exact ⟨rfl, hb⟩

theorem CandsAt.below {w w' : World} {ao : Option Addr} {n : Nat} {E : Nat → El} (h : CandsAt w ao n E) (hb : Below w.heap.size w w') : CandsAt w' ao n E := by
  intro hn
  obtain ⟨b, off, rfl, h1, h2⟩ := h hn
  refine ⟨b, off, rfl, Nat.lt_of_lt_of_le h1 hb.size, fun i hi => ?_⟩
  obtain ⟨g0, g1, g2, g3, g4, g5⟩ := h2 i hi
  exact ⟨(hb.cell (by exact h1)).trans g0, (hb.cell (by exact h1)).trans g1, (hb.cell (by exact h1)).trans g2, (hb.cell (by exact h1)).trans g3, (hb.cell (by exact h1)).trans g4, (hb.cell (by exact h1)).trans g5⟩
theorem IntsAt.below {w w' : World} {ao : Option Addr} {L : List Nat} (h : IntsAt w ao L) (hb : Below w.heap.size w w') : IntsAt w' ao L := by
  intro hn
  obtain ⟨b, off, rfl, h1, h2⟩ := h hn
  exact ⟨b, off, rfl, Nat.lt_of_lt_of_le h1 hb.size, fun i hi => (hb.cell (by exact h1)).trans (h2 i hi)⟩
theorem ints_own {w : World} {B : Nat} {v : Value} {L : List Nat} (h : w.ownsRow B 3 1 v L.length (Ints L)) : ∃ ao cap, v = .slice ao L.length cap ∧ IntsAt w ao L := by
  by_cases hn : 0 < L.length
  · obtain ⟨g, cap, rfl, h1, h2⟩ := h.form hn
    refine ⟨_, _, rfl, fun _ => ⟨g, 0, rfl, h2, fun i hi => ?_⟩⟩
    have := h.cells (g := g) rfl i (.int .i64 ((L[i]?.getD 0 : Nat) : Int)) (by simp [Ints, hi])
    rw [add0] at this
    simpa using this
  · have h0 : L = [] := List.eq_nil_of_length_eq_zero (by omega)
    subst h0
    rcases h.2 with ⟨rfl, _⟩ | ⟨g, cap, cur, rfl, _⟩
    · exact ⟨none, 0, rfl, fun h => absurd h (by simp)⟩
    · exact ⟨_, _, rfl, fun h => absurd h (by simp)⟩

/-! the plain part of the law -/
def BestOf (E : Nat → El) (k m : Nat) : Prop := ∀ j, j < k → (E j).lo ≤ (E m).lo
theorem best_up {E : Nat → El} {k m : Nat} (h : BestOf E k m) (hl : (E m).lo < (E k).lo) : BestOf E (k + 1) k := by
  intro j hj
  by_cases e : j = k
  · subst e; omega
  · have := h j (by omega); omega
theorem best_stay {E : Nat → El} {k m : Nat} (h : BestOf E k m) (hl : (E k).lo ≤ (E m).lo) : BestOf E (k + 1) m := by
  intro j hj
  by_cases e : j = k
  · subst e; omega
  · exact h j (by omega)
theorem gm_best {E : Nat → El} {n m : Nat} (hm : m < n) (hv : allV E n = true) (h : BestOf E n m) : gm E n = (E m).lo := by
  have h1 := gm_le E hm
  have h2 : ∀ k, k ≤ n → gm E k ≤ (E m).lo := by
    intro k
    induction k with
    | zero => intro _; have := (vB_iff.1 (allV_at hv hm)).1; simp only [gm]; omega
    | succ k ih => intro hk; have := h k (by omega); have := ih (by omega); simp only [gm]; omega
  have := h2 n (Nat.le_refl _)
  omega
theorem mem_keepL {E : Nat → El} {G : Int} {n i : Nat} : i ∈ keepL E G n ↔ i < n ∧ G ≤ (E i).hi := by
  induction n with
  | zero => simp [keepL]
  | succ n ih =>
    simp only [keepL, List.mem_append, ih]
    by_cases h : G ≤ (E n).hi
    · rw [if_pos h]
      simp only [List.mem_singleton]
      constructor
      · rintro (h1 | rfl)
        · omega
        · omega
      · rintro ⟨h1, h2⟩
        by_cases e : i = n
        · exact .inr e
        · exact .inl ⟨by omega, h2⟩
    · rw [if_neg h]
      constructor
      · rintro (h1 | h1)
        · omega
        · cases h1
      · rintro ⟨h1, h2⟩
        by_cases e : i = n
        · subst e; omega
        · exact .inl ⟨by omega, h2⟩
def hasB (L : List Nat) (i q : Nat) : Bool := (L.take q).contains i
theorem hasB_zero (L : List Nat) (i : Nat) : hasB L i 0 = false := by simp [hasB]
theorem hasB_succ (L : List Nat) (i q : Nat) (h : q < L.length) : hasB L i (q + 1) = (hasB L i q || decide (((L[q]?.getD 0 : Nat) : Int) = (i : Int))) := by
  unfold hasB
  rw [List.take_succ_eq_append_getElem h]
  simp only [List.contains_eq_mem, List.mem_append, List.mem_singleton, List.getElem?_eq_getElem h, Option.getD_some]
  rw [Bool.eq_iff_iff]
  simp only [decide_eq_true_eq, Bool.or_eq_true]
  constructor
  · rintro (h1 | h1)
    · exact .inl h1
    · exact .inr (by omega)
  · rintro (h1 | h1)
    · exact .inl h1
    · exact .inr (by omega)
theorem hasB_all {E : Nat → El} {G : Int} {n i : Nat} (hi : i < n) : hasB (keepL E G n) i (keepL E G n).length = decide (G ≤ (E i).hi) := by
  unfold hasB
  rw [List.take_length, List.contains_eq_mem, decide_eq_decide, mem_keepL]
  exact ⟨fun h => h.2, fun h => ⟨hi, h⟩⟩

set_option maxRecDepth 100000 in
theorem law_any (ao : Option Addr) (n cap : Nat) (E : Nat → El) (w : World) (hc0 : CandsAt w ao n E) (hm : n ≤ maxLen) :
    Calls Try.prog 9 #[.slice ao n cap] w fun e w' => e = .returned (.bool true) ∧ Below w.heap.size w w' := by
  unfold maxLen at hm
  by_cases hn : 20 < n
  · go_enter Try.func9, Try.ntmps9
    go_wp2_with fail
    refine (awake_any _).mono ?_
    rintro e w1 ⟨rfl, hb1⟩
    go_wp2_with fail
    go_ret
    exact ⟨rfl, hb1⟩
  · have hn' : n ≤ 20 := by omega
    clear hn
    go_enter Try.func9, Try.ntmps9
    go_wp2_with fail
    refine (awake_any _).mono ?_
    rintro e w1 ⟨rfl, hb1⟩
    go_wp2_with fail
    refine (keep_any ao n cap E w1 hn' (hc0.below hb1)).mono ?_
    rintro e w2 ⟨hb2, hk⟩
    have hb2' := hb1.trans (hb2.mono hb1.size)
    rcases hk with ⟨hv, rfl⟩ | ⟨hv, v, rfl, hown⟩
    · go_wp2_with fail
      refine (theirs_any ao n cap E w2 hn' (hc0.below hb2')).mono ?_
      rintro e w3 ⟨hb3, ao', cap', rfl, hc3⟩
      have hb3' := hb2'.trans (hb3.mono hb2'.size)
      go_wp2_with fail
      refine (keep_ref ao' n cap' E w3 hn' hc3).mono ?_
      rintro e w4 ⟨hb4, hk4⟩
      have hb4' := hb3'.trans (hb4.mono hb3'.size)
      rcases hk4 with ⟨_, rfl⟩ | ⟨hv4, _⟩
      · go_wp2_with fail
        refine (same_any none none 0 0 0 [] _ rfl (by omega) (fun h => absurd h (by simp)) (fun h => absurd h (by simp))).mono ?_
        rintro e w5 ⟨rfl, hb5⟩
        go_wp2_with fail
        go_ret
        exact ⟨rfl, hb4'.trans (hb5.mono hb4'.size)⟩
      · rw [hv] at hv4; cases hv4
    · obtain ⟨ka, kc, rfl, hka⟩ := ints_own hown
      obtain ⟨L, hL⟩ : ∃ L, L = keepL E (gm E n) n := ⟨_, rfl⟩
      rw [← hL] at hka hown ⊢
      have hLn : L.length ≤ 20 := by rw [hL]; have := keepL_le E (gm E n) n; omega
      have HL := Lib.hid hL
      have HV := Lib.hid hv
      clear hL hv hown
      go_wp2_with fail
      refine (theirs_any ao n cap E w2 hn' (hc0.below hb2')).mono ?_
      rintro e w3 ⟨hb3, ao', cap', rfl, hc3⟩
      have hb3' := hb2'.trans (hb3.mono hb2'.size)
      go_wp2_with fail
      refine (keep_ref ao' n cap' E w3 hn' hc3).mono ?_
      rintro e w4 ⟨hb4, hk4⟩
      have hb4' := hb3'.trans (hb4.mono hb3'.size)
      rcases hk4 with ⟨hv4, _⟩ | ⟨_, v4, rfl, hown4⟩
      · rw [HV.out] at hv4; cases hv4
      · rw [← HL.out] at hown4
        obtain ⟨kb, kd, rfl, hkb⟩ := ints_own hown4
        clear hown4
        have hka3 := hka.below (hb3.trans (hb4.mono hb3.size))
        clear hka hb3 hb4 hc3
        go_wp2_with fail
        refine (same_any ka kb L.length kc kd L _ rfl hLn hka3 hkb).mono ?_
        rintro e w5 ⟨rfl, hb5⟩
        have hb5' := hb4'.trans (hb5.mono hb4'.size)
        have hka5 := hka3.below hb5
        have hc5 := hc0.below hb5'
        clear hka3 hkb hb5
        by_cases h0 : n = 0
        · subst h0
          go_wp2_with fail
          go_ret
          exact ⟨rfl, hb5'⟩
        · have hpos : (0 : Int) < n := by omega
          have hne : ((n : Int) == 0) = false := by simp; omega
          go_wp2_with fail
          go_loopw [7, 8] (fun m i wr => ∃ k q : Nat, k ≤ n ∧ q < n ∧ i = .int .i64 k ∧ m = .int .i64 q ∧ BestOf E k q ∧ Below w5.heap.size w5 wr) (fun _ i _ => n - (intOf i).toNat)
          case atStart => exact ⟨0, 0, Nat.zero_le _, by omega, rfl, rfl, fun j hj => absurd hj (by omega), Below.refl _ _⟩
          case round =>
            obtain ⟨k, q, hk, hq, rfl, rfl, hbest, hbel⟩ := hrel
            by_cases hlt : k < n
            · obtain ⟨b, off, rfl, hbb, hc⟩ := hc5 (by omega)
              have g0 := (hbel.cell (by exact hbb)).trans (hc k hlt).2.2.2.2.1
              have g1 := (hbel.cell (by exact hbb)).trans (hc q hq).2.2.2.2.1
              have i0 : (0 : Int) ≤ k := by omega
              have i1 : (k : Int) < n := by omega
              have i2 : (0 : Int) ≤ q := by omega
              have i3 : (q : Int) < n := by omega
              by_cases ht : (E q).lo < (E k).lo
              · go_wp2
                go_quiet (fail)
                go_wp2
                go_roundw
                case rel => exact ⟨k + 1, k, by omega, by omega, by go_num, rfl, best_up hbest ht, below_drewN hbel _⟩
                case measure => simp [intOf]; omega
              · have ht' : (E k).lo ≤ (E q).lo := by omega
                clear ht
                go_wp2
                go_quiet (fail)
                go_wp2
                go_roundw
                case rel => exact ⟨k + 1, q, by omega, by omega, by go_num, rfl, best_stay hbest ht', below_drewN hbel _⟩
                case measure => simp [intOf]; omega
            · obtain rfl : k = n := by omega
              have HM := Lib.hid ((gm_best hq HV.out hbest).symm)
              have hbel5 := hb5'.trans (hbel.mono hb5'.size)
              have hc6 := hc5.below hbel
              have hka6 := hka5.below hbel
              clear hbest hka5 hc5 hb5' hb4' hb3' hb2' hb2 hb1 hc0 hbel
              obtain ⟨w6, rfl⟩ : ∃ w6 : World, w6 = wr := ⟨_, rfl⟩
              go_wp2_with fail
              go_loopw [9, 10, 11] (fun i f q' wr => ∃ p : Nat, p ≤ k ∧ i = .int .i64 p ∧ Below w6.heap.size w6 wr) (fun i _ _ _ => k - (intOf i).toNat)
              case atStart => exact ⟨0, Nat.zero_le _, rfl, Below.refl _ _⟩
              case round =>
                obtain ⟨p, hp, rfl, hbel⟩ := hrel
                by_cases hlt : p < k
                · obtain ⟨wo, rfl⟩ : ∃ wo : World, wo = wr := ⟨_, rfl⟩
                  go_wp2_with fail
                  go_loopw [10, 11] (fun f q' wr => ∃ t : Nat, t ≤ L.length ∧ q' = .int .i64 t ∧ f = .bool (hasB L p t) ∧ Below w6.heap.size w6 wr) (fun _ q' _ => L.length - (intOf q').toNat)
                  case atStart => exact ⟨0, Nat.zero_le _, rfl, by rw [hasB_zero], hbel⟩
                  case round =>
                    obtain ⟨t, ht, rfl, rfl, hbel'⟩ := hrel
                    by_cases hltt : t < L.length
                    · obtain ⟨b, off, rfl, hbb, hc⟩ := hka6 (by omega)
                      have g0 := (hbel'.cell (by exact hbb)).trans (hc t hltt)
                      have i0 : (0 : Int) ≤ t := by omega
                      have i1 : (t : Int) < L.length := by omega
                      have hs := hasB_succ L p t hltt
                      have HS := Lib.hid hs
                      clear hs
                      by_cases hh : hasB L p t = true
                      · go_wp2
                        go_roundw
                        case rel => exact ⟨t + 1, by omega, by go_num, by rw [HS.out, hh]; rfl, hbel'⟩
                        case measure => simp [intOf]; omega
                      · have hh' : hasB L p t = false := by simpa using hh
                        clear hh
                        go_wp2
                        go_roundw
                        case rel => exact ⟨t + 1, by omega, by go_num, by rw [HS.out, hh', Bool.false_or, List.getElem?_eq_getElem hltt]; rfl, hbel'⟩
                        case measure => simp [intOf]; omega
                    · obtain rfl : t = L.length := by omega
                      obtain ⟨b, off, rfl, hbb, hc⟩ := hc6 (by omega)
                      have g0 := (hbel'.cell (by exact hbb)).trans (hc p hlt).2.2.2.2.2
                      have g1 := (hbel'.cell (by exact hbb)).trans (hc q hq).2.2.2.2.1
                      have i0 : (0 : Int) ≤ p := by omega
                      have i1 : (p : Int) < k := by omega
                      have i2 : (0 : Int) ≤ q := by omega
                      have i3 : (q : Int) < k := by omega
                      have hall : hasB L p L.length = decide ((E q).lo ≤ (E p).hi) := by
                        rw [HL.out, hasB_all hlt, ← HM.out]
                      rw [hall]
                      clear hall
                      by_cases hge : (E q).lo ≤ (E p).hi
                      · go_wp2
                        go_quiet (fail)
                        go_wp2
                        go_roundw
                        case rel => exact ⟨p + 1, by omega, by go_num, below_drewN hbel' _⟩
                        case measure => simp [intOf]; omega
                      · have hge' : (E p).hi < (E q).lo := by omega
                        clear hge
                        go_wp2
                        go_quiet (fail)
                        go_wp2
                        go_roundw
                        case rel => exact ⟨p + 1, by omega, by go_num, below_drewN hbel' _⟩
                        case measure => simp [intOf]; omega
                · obtain rfl : p = k := by omega
                  go_wp2_with fail
                  go_ret
                  exact ⟨rfl, hbel5.trans (hbel.mono hbel5.size)⟩
end Go.Proofs.Ytikbgdbbicnfnaa.Keep
