/- Contracts of the reference's orbits: Orbit of package culetref16 lists the same positions; SameInts of two lists that read alike. -/
import Derived.Test.YtikbgdbbicnfnaaTr2
namespace Go.Proofs.Ytikbgdbbicnfnaa.Tr
open Go.RowKit

theorem upTo_step (S : Nat → Bool) (k : Nat) : (S k = true → upTo S (k + 1) = upTo S k ++ [k]) ∧ (S k = false → upTo S (k + 1) = upTo S k) :=
  ⟨fun h => by rw [upTo, if_pos h], fun h => by rw [upTo, if_neg (by rw [h]; decide)]⟩

set_option maxRecDepth 100000 in
set_option maxHeartbeats 1000000 in
theorem rorbit_any (o : Int) (m : Bool) (n : Int) (w : World) :
    Calls Try.prog 13 #[.int .i64 o, .bool m, .int .i64 n] w fun e w' => ∃ v, e = .returned v ∧ w'.ownsRow w.heap.size 3 1 v (orbL o m n).length (vals (orbL o m n)) ∧ Below w.heap.size w w' := by
  obtain ⟨i0, hi, hz0, hz1, hz2⟩ := info_parts info_int
  cases hr : rightB o
  · rw [show orbL o m n = [] from if_neg (by rw [hr]; decide)]
    have HR := Lib.hid hr
    clear hr
    go_enter Try.func13, Try.ntmps13
    go_wp2_with (go_at_call 37; refine (divides_any _ _).mono ?_; rintro e w1 ⟨rfl, rfl⟩; rw [HR.out])
    go_ret
    exact ⟨_, rfl, ⟨rfl, .inl ⟨rfl, rfl⟩⟩, Below.refl _ _⟩
  · have HR := Lib.hid hr
    obtain ⟨c, rfl, k0, k1, k2⟩ := right_nat hr
    obtain ⟨i, hin⟩ : ∃ i : Nat, n % 24 = i := ⟨(n % 24).toNat, by omega⟩
    have i24 : i < 24 := by omega
    obtain ⟨st, hst⟩ : ∃ st, 24 / c = st := ⟨_, rfl⟩
    have hdv : st ∣ 24 := ⟨c, by rw [← hst]; exact (Nat.div_mul_cancel (Nat.dvd_of_mod_eq_zero k2)).symm⟩
    have hs0 : 0 < st := Nat.pos_of_dvd_of_pos hdv (by decide)
    have hs1 : st ≤ 24 := Nat.le_of_dvd (by decide) hdv
    have HL := Lib.hid (show orbL (c : Int) m n = upTo (inOrb i st m) 24 from by
      rw [show orbL (c : Int) m n = upTo (inOrb (n % 24).toNat (24 / (c : Int).toNat) m) 24 from if_pos hr, Int.toNat_natCast, hst, hin, Int.toNat_natCast])
    rw [HL.out]
    have HI := Lib.hid hin
    have t1 : (24 : Int).tdiv (c : Int) = (st : Int) := by rw [← hst, Int.tdiv_eq_ediv_of_nonneg (by decide)]; exact_mod_cast rfl
    have z0 : ((c : Int) == 0) = false := by simp; omega
    have z1 : ((st : Int) == 0) = false := by simp; omega
    clear hr hin
    go_enter Try.func13, Try.ntmps13
    go_wp2_with (first | (go_at_call 37; refine (divides_any _ _).mono ?_; rintro e w1 ⟨rfl, rfl⟩; rw [HR.out]) | (go_at_call 38; refine (mod_any _ _).mono ?_; rintro e w1 ⟨rfl, rfl⟩; rw [HI.out]))
    go_loopw [9, 10] (fun v p wr => ∃ k : Nat, k ≤ 24 ∧ p = .int .i64 k ∧ wr.ownsRow w.heap.size 3 1 v (upTo (inOrb i st m) k).length (vals (upTo (inOrb i st m) k)) ∧ Below w.heap.size w wr) (fun _ p _ => 24 - (intOf p).toNat)
    case atStart => exact ⟨0, Nat.zero_le _, rfl, ⟨rfl, .inl ⟨rfl, rfl⟩⟩, Below.refl _ _⟩
    case round =>
      obtain ⟨k, hk, rfl, hown, hbel⟩ := hrel
      have hsz := hbel.size
      by_cases hlt : k < 24
      · obtain ⟨u1, u2⟩ := upTo_step (inOrb i st m) k
        have hlen := upTo_len (inOrb i st m) k
        obtain ⟨q, hq⟩ : ∃ q, (upTo (inOrb i st m) k).length = q := ⟨_, rfl⟩
        rw [hq] at hown hlen
        have E1 := Lib.hid (show ((k : Int) - (i : Int)) % 24 = (((k + 24 - i) % 24 : Nat) : Int) from by omega)
        have E2 := Lib.hid (show ((k : Int) + (i : Int)) % 24 = (((k + i) % 24 : Nat) : Int) from by omega)
        have d1 : ((((k + 24 - i) % 24 : Nat) : Int)).tmod (st : Int) = (((k + 24 - i) % st : Nat) : Int) := by
          rw [Int.tmod_eq_emod_of_nonneg (by omega), ← Nat.mod_mod_of_dvd (k + 24 - i) hdv]; exact_mod_cast rfl
        have d2 : ((((k + i) % 24 : Nat) : Int)).tmod (st : Int) = (((k + i) % st : Nat) : Int) := by
          rw [Int.tmod_eq_emod_of_nonneg (by omega), ← Nat.mod_mod_of_dvd (k + i) hdv]; exact_mod_cast rfl
        have hO : inOrb i st m k = ((k + 24 - i) % st == 0 || (m && (k + i) % st == 0)) := rfl
        obtain ⟨c1, hc1⟩ : ∃ x, (k + 24 - i) % 24 = x := ⟨_, rfl⟩
        obtain ⟨c2, hc2⟩ : ∃ x, (k + i) % 24 = x := ⟨_, rfl⟩
        obtain ⟨r1, hr1⟩ : ∃ x, (k + 24 - i) % st = x := ⟨_, rfl⟩
        obtain ⟨r2, hr2⟩ : ∃ x, (k + i) % st = x := ⟨_, rfl⟩
        have l1 : r1 < st := by rw [← hr1]; exact Nat.mod_lt _ hs0
        have l2 : r2 < st := by rw [← hr2]; exact Nat.mod_lt _ hs0
        have E1' := Lib.hid (E1.out.trans (by rw [hc1]))
        have E2' := Lib.hid (E2.out.trans (by rw [hc2]))
        rw [hc1, hr1] at d1
        rw [hc2, hr2] at d2
        rw [hr1, hr2] at hO
        have b1 : c1 < 24 := by omega
        have b2 : c2 < 24 := by omega
        clear hc1 hc2 hr1 hr2 E1 E2
        by_cases x1 : r1 = 0
        · subst x1
          have HT := Lib.hid (u1 (by rw [hO]; simp))
          clear u1 u2 hO
          go_wp2_with (first | (go_at_call 38; refine (mod_any _ _).mono ?_; rintro e w1 ⟨rfl, rfl⟩; (first | rw [E1'.out] | rw [E2'.out])) | (at_builtin; refine wpList_append_own _ rfl _ _ 22 rfl w.heap.size 3 i0 (.int .i64 0) 1 8 Try.underlying22 hi hz0 hz1 hz2 rfl (by decide) _ _ _ rfl (hown.alloc _) ⟨wr.heap.size, 0, none⟩ 1 1 [.int .i64 k] rfl rfl (one_new _ _ _) (one_int _ _) (by unfold maxLen; omega) (by omega) (by simp; omega) ?_))
          intro v' w1 hown' hgrow _
          have hb2 : Below w.heap.size w w1 := by
            refine Below.grown (hbel.alloc hbel.size _) hgrow ?_ ?_
            · simp; omega
            · intro q hq
              have := (hown.lt q hq).1
              omega
          clear hgrow hown
          go_wp2
          go_roundw
          case rel => exact ⟨k + 1, by omega, by go_num, by rw [HT.out, vals_snoc, List.length_append, hq]; exact hown', hb2⟩
          case measure => simp [intOf]; omega
        · have y1 : ((r1 : Int) == 0) = false := by simp; omega
          cases m
          · skip
            have HT := Lib.hid (u2 (by rw [hO]; simp [x1]))
            clear u1 u2 hO
            go_wp2_with (go_at_call 38; refine (mod_any _ _).mono ?_; rintro e w1 ⟨rfl, rfl⟩; (first | rw [E1'.out] | rw [E2'.out]))
            go_roundw
            case rel => exact ⟨k + 1, by omega, by go_num, by rw [HT.out, hq]; exact hown, hbel⟩
            case measure => simp [intOf]; omega
          · by_cases x2 : r2 = 0
            · subst x2
              have HT := Lib.hid (u1 (by rw [hO]; simp))
              clear u1 u2 hO
              go_wp2_with (first | (go_at_call 38; refine (mod_any _ _).mono ?_; rintro e w1 ⟨rfl, rfl⟩; (first | rw [E1'.out] | rw [E2'.out])) | (at_builtin; refine wpList_append_own _ rfl _ _ 22 rfl w.heap.size 3 i0 (.int .i64 0) 1 8 Try.underlying22 hi hz0 hz1 hz2 rfl (by decide) _ _ _ rfl (hown.alloc _) ⟨wr.heap.size, 0, none⟩ 1 1 [.int .i64 k] rfl rfl (one_new _ _ _) (one_int _ _) (by unfold maxLen; omega) (by omega) (by simp; omega) ?_))
              intro v' w1 hown' hgrow _
              have hb2 : Below w.heap.size w w1 := by
                refine Below.grown (hbel.alloc hbel.size _) hgrow ?_ ?_
                · simp; omega
                · intro q hq
                  have := (hown.lt q hq).1
                  omega
              clear hgrow hown
              go_wp2
              go_roundw
              case rel => exact ⟨k + 1, by omega, by go_num, by rw [HT.out, vals_snoc, List.length_append, hq]; exact hown', hb2⟩
              case measure => simp [intOf]; omega
            · have y2 : ((r2 : Int) == 0) = false := by simp; omega
              have HT := Lib.hid (u2 (by rw [hO]; simp [x1, x2]))
              clear u1 u2 hO
              go_wp2_with (go_at_call 38; refine (mod_any _ _).mono ?_; rintro e w1 ⟨rfl, rfl⟩; (first | rw [E1'.out] | rw [E2'.out]))
              go_roundw
              case rel => exact ⟨k + 1, by omega, by go_num, by rw [HT.out, hq]; exact hown, hbel⟩
              case measure => simp [intOf]; omega
      · obtain rfl : k = 24 := by omega
        go_wp2_with fail
        go_ret
        exact ⟨_, rfl, hown, hbel⟩

/-- a slice of ints that reads as a list -/
def IntsAt (w : World) (ao : Option Addr) (L : List Nat) : Prop := 0 < L.length → ∃ b off, ao = some ⟨b, off, none⟩ ∧ b < w.heap.size ∧ ∀ i, i < L.length → w.cell? ⟨b, off + i, none⟩ = some (.int .i64 ((L[i]?.getD 0 : Nat) : Int))
theorem add0 (g n : Nat) : (⟨g, 0, none⟩ : Addr).add n = ⟨g, n, none⟩ := by unfold Addr.add; split <;> simp_all
theorem own_ints {w : World} {B : Nat} {L : List Nat} {v : Value} (h : w.ownsRow B 3 1 v L.length (vals L)) : ∃ ao cap, v = .slice ao L.length cap ∧ IntsAt w ao L := by
  by_cases hn : 0 < L.length
  · obtain ⟨g, cap, rfl, h1, h2⟩ := h.form hn
    refine ⟨_, _, rfl, fun _ => ⟨g, 0, rfl, h2, fun i hi => ?_⟩⟩
    have hc := h.cells (g := g) rfl
    have := hc i (.int .i64 ((L[i]?.getD 0 : Nat) : Int)) (by simp [vals, List.getElem?_eq_getElem hi])
    rw [add0] at this
    simpa using this
  · rcases h.2 with ⟨rfl, hl⟩ | ⟨g, cap, cur, rfl, _⟩
    · exact ⟨none, 0, by rw [hl], fun h => absurd h (by omega)⟩
    · exact ⟨_, _, rfl, fun h => absurd h (by omega)⟩

theorem same_any (ao bo : Option Addr) (n ca cb : Nat) (L : List Nat) (w : World) (hn : n = L.length) (hm : n ≤ 1000) (ha : IntsAt w ao L) (hb : IntsAt w bo L) :
    Calls Try.prog 12 #[.slice ao n ca, .slice bo n cb] w fun e w' => e = .returned (.bool true) ∧ Below w.heap.size w w' := by
  subst hn
  go_enter Try.func12, Try.ntmps12
  go_wp2
  go_loopw [5] (fun i wr => ∃ k : Nat, k ≤ L.length ∧ i = .int .i64 k ∧ Below w.heap.size w wr) (fun i _ => L.length - (intOf i).toNat)
  case atStart => exact ⟨0, Nat.zero_le _, rfl, Below.refl _ _⟩
  case round =>
    obtain ⟨k, hk, rfl, hbel⟩ := hrel
    by_cases hlt : k < L.length
    · obtain ⟨b, off, rfl, hb1, hc⟩ := ha (by omega)
      obtain ⟨b', off', rfl, hb2, hc'⟩ := hb (by omega)
      have g0 := (hbel.cell (by exact hb1)).trans (hc k hlt)
      have g1 := (hbel.cell (by exact hb2)).trans (hc' k hlt)
      have i0 : (0 : Int) ≤ k := by omega
      have i1 : (k : Int) < L.length := by omega
      go_wp2
      go_quiet (fail)
      go_wp2
      go_roundw
      case rel => exact ⟨k + 1, by omega, by go_num, Below.trans hbel ⟨rfl, rfl, rfl, Nat.le_refl _, fun _ _ => rfl⟩⟩
      case measure => simp [intOf]; omega
    · obtain rfl : k = L.length := by omega
      go_wp2_with fail
      go_ret
      exact ⟨rfl, hbel⟩
end Go.Proofs.Ytikbgdbbicnfnaa.Tr
