/- Contract of the reference's positions of a tier: Positions of package culetref16. -/
import Derived.Test.YtikbgdbbicnfnaaTr5
namespace Go.Proofs.Ytikbgdbbicnfnaa.Tr
open Go.RowKit

theorem mem_upTo (S : Nat → Bool) (k x : Nat) : x ∈ upTo S k ↔ x < k ∧ S x = true := by
  induction k with
  | zero => simp [upTo]
  | succ k ih =>
    unfold upTo
    split
    · rename_i h
      rw [List.mem_append, ih, List.mem_singleton]
      constructor
      · rintro (⟨h1, h2⟩ | rfl)
        · exact ⟨by omega, h2⟩
        · exact ⟨by omega, h⟩
      · rintro ⟨h1, h2⟩
        by_cases e : x = k
        · exact .inr e
        · exact .inl ⟨by omega, h2⟩
    · rename_i h
      rw [ih]
      constructor
      · rintro ⟨h1, h2⟩
        exact ⟨by omega, h2⟩
      · rintro ⟨h1, h2⟩
        refine ⟨?_, h2⟩
        by_cases e : x = k
        · subst e; exact absurd h2 h
        · omega
theorem has_upTo (S : Nat → Bool) (q : Nat) (hq : q < 24) : hasB (upTo S 24) (q : Int) (upTo S 24).length = S q := by
  unfold hasB
  rw [List.take_length]
  cases hS : S q
  · rw [List.any_eq_false]
    intro y hy
    have := (mem_upTo S 24 y).1 hy
    simp only [decide_eq_true_eq]
    intro e
    have : y = q := by omega
    subst this
    simp_all
  · rw [List.any_eq_true]
    exact ⟨q, (mem_upTo S 24 q).2 ⟨hq, hS⟩, by simp⟩
theorem allOrb_mono (L : List Int) (st : Nat) (m : Bool) (j q : Nat) (h : allOrb L st m j q = true) : allOrb L st m L.length q = true := by
  unfold allOrb at h ⊢
  rw [List.any_eq_true] at h ⊢
  obtain ⟨z, hz1, hz2⟩ := h
  rw [List.take_length]
  exact ⟨z, List.mem_of_mem_take hz1, hz2⟩
theorem has_orb {c : Nat} {m : Bool} {x : Int} {q : Nat} (h : rightB (c : Int) = true) (hq : q < 24) : hasB (orbL (c : Int) m x) (q : Int) (orbL (c : Int) m x).length = inOrb (x % 24).toNat (24 / c) m q := by
  rw [show orbL (c : Int) m x = upTo (inOrb (x % 24).toNat (24 / (c : Int).toNat) m) 24 from if_pos h, Int.toNat_natCast]
  exact has_upTo _ q hq
theorem orb_len (o : Int) (m : Bool) (x : Int) : (orbL o m x).length ≤ 24 := by
  unfold orbL
  split
  · exact upTo_len _ _
  · exact Nat.zero_le _

theorem own_below {B : Nat} {e : TypeId} {k n : Nat} {v : Value} {xs : List Value} {w w' : World} (h : w.ownsRow B e k v n xs) (hb : Below w.heap.size w w') : w'.ownsRow B e k v n xs := by
  obtain ⟨h1, h2⟩ := h
  refine ⟨h1, ?_⟩
  rcases h2 with h2 | ⟨g, cap, cur, a, b, c, d⟩
  · exact .inl h2
  · exact .inr ⟨g, cap, cur, a, b, (hb.block g ((Array.getElem?_eq_some_iff.1 c).1)).trans c, d⟩
theorem own_lit {w : World} {B b : Nat} (hb : b = w.heap.size) (hB : B ≤ b) (x : Int) : (w.alloc (.cells #[.int .i64 x] 3)).ownsRow B 3 1 (.slice (some ⟨b, 0, none⟩) 1 1) 1 [.int .i64 x] := by
  subst hb
  exact ⟨rfl, .inr ⟨_, 1, #[.int .i64 x], rfl, hB, heap_alloc_new _ _, Nat.le_refl _, by unfold maxLen; decide, rfl, rfl⟩⟩

set_option maxRecDepth 100000 in
set_option maxHeartbeats 4000000 in
theorem rpositions_any (o : Int) (m : Bool) (t : T) (L : List Int) (w : World) (hn : t.n = L.length) (hm : L.length ≤ 1000) (hL : ZAt w t.ao L) :
    Calls Try.prog 15 #[.int .i64 o, .bool m, tv t] w fun e w' => ∃ v, e = .returned v ∧ w'.ownsRow w.heap.size 3 1 v (posL o m t.h L).length (vals (posL o m t.h L)) ∧ Below w.heap.size w w' := by
  obtain ⟨i0, hi, hz0, hz1, hz2⟩ := info_parts info_int
  cases hr : rightB o
  · rw [show posL o m t.h L = [] from if_neg (by rw [hr]; decide)]
    have HR := Lib.hid hr
    clear hr
    go_enter Try.func15, Try.ntmps15
    go_wp2_with (go_at_call 37; refine (divides_any _ _).mono ?_; rintro e w1 ⟨rfl, rfl⟩; rw [HR.out])
    go_ret
    exact ⟨_, rfl, ⟨rfl, .inl ⟨rfl, rfl⟩⟩, (Below.refl _ _).alloc (Nat.le_refl _) _⟩
  · have HR := Lib.hid hr
    obtain ⟨c, rfl, k0, k1, k2⟩ := right_nat hr
    obtain ⟨st, hst⟩ : ∃ st, 24 / c = st := ⟨_, rfl⟩
    have HL := Lib.hid (show posL (c : Int) m t.h L = (if t.h = 0 then [0] else upTo (allOrb L st m L.length) 24) from by
      rw [show posL (c : Int) m t.h L = (if t.h = 0 then [0] else upTo (allOrb L (24 / (c : Int).toNat) m L.length) 24) from if_pos hr, Int.toNat_natCast, hst])
    clear hr
    by_cases hh : t.h = 0
    · rw [HL.out, if_pos hh]
      go_enter Try.func15, Try.ntmps15
      go_wp2_with (go_at_call 37; refine (divides_any _ _).mono ?_; rintro e w1 ⟨rfl, rfl⟩; rw [HR.out])
      go_ret
      exact ⟨_, rfl, own_lit (by simp) (by omega) 0, ((Below.refl _ _).alloc (Nat.le_refl _) _).alloc (by simp) _⟩
    · have hh' : (t.h == 0) = false := by simpa using hh
      rw [HL.out, if_neg hh]
      obtain ⟨W, hW⟩ : ∃ W, W = w.alloc (.cells (match tv t with | .agg cs => cs | _ => #[]) 34) := ⟨_, rfl⟩
      have hWs : W.heap.size = w.heap.size + 1 := by rw [hW]; simp
      have hWb : Below w.heap.size w W := by rw [hW]; exact (Below.refl _ _).alloc (Nat.le_refl _) _
      have hW3 : W.cell? ⟨w.heap.size, 3, none⟩ = some (.slice t.ao L.length t.cap) := by rw [hW, World.cell?_alloc_new, ← hn]; rfl
      go_enter Try.func15, Try.ntmps15
      go_wp2_with (go_at_call 37; refine (divides_any _ _).mono ?_; rintro e w1 ⟨rfl, rfl⟩; rw [HR.out])
      go_loopw [7, 8, 9, 10] (fun v p _ _ wr => ∃ q : Nat, q ≤ 24 ∧ p = .int .i64 q ∧ wr.ownsRow W.heap.size 3 1 v (upTo (allOrb L st m L.length) q).length (vals (upTo (allOrb L st m L.length) q)) ∧ Below W.heap.size W wr) (fun _ p _ _ _ => 24 - (intOf p).toNat)
      case atStart => exact ⟨0, Nat.zero_le _, rfl, ⟨rfl, .inl ⟨rfl, rfl⟩⟩, by rw [hW, hn]; exact Below.refl _ _⟩
      case round =>
        obtain ⟨q, hq, rfl, hown, hbel⟩ := hrel
        have hsz := hbel.size
        by_cases hlt : q < 24
        · obtain ⟨wo, hwo⟩ : ∃ wo, wo = wr := ⟨_, rfl⟩
          rw [← hwo] at hown hbel hsz
          rw [← hwo]
          clear hwo
          have hT := (hbel.cell (p := ⟨w.heap.size, 3, none⟩) (by simp; omega)).trans hW3
          go_wp2_with fail
          go_loopw [9, 10] (fun f k wi => ∃ j : Nat, j ≤ L.length ∧ k = .int .i64 j ∧ f = .bool (allOrb L st m j q) ∧ Below wo.heap.size wo wi) (fun _ k _ => L.length - (intOf k).toNat)
          case atStart => exact ⟨0, Nat.zero_le _, rfl, rfl, Below.refl _ _⟩
          case round =>
            obtain ⟨j, hj, rfl, rfl, hbi⟩ := hrel
            have hsi := hbi.size
            have hT2 := (hbi.cell (p := ⟨w.heap.size, 3, none⟩) (by simp; omega)).trans hT
            cases hF : allOrb L st m j q
            · by_cases hlt2 : j < L.length
              · obtain ⟨b, off, hao, hb1, hc⟩ := hL (by omega)
                obtain ⟨x, hx⟩ : ∃ x, L[j]?.getD 0 = x := ⟨_, rfl⟩
                have hwr : Below w.heap.size w wr := hWb.trans ((hbel.trans (hbi.mono hsz)).mono (by omega))
                have g0 := (hwr.cell (p := ⟨b, off + j, none⟩) hb1).trans (hc j hlt2)
                rw [hx] at g0
                have HS := Lib.hid (allOrb_succ L st m j q hlt2)
                have HX := Lib.hid hx
                have HF := Lib.hid hF
                have HO := Lib.hid (has_orb (c := c) (m := m) (x := x) HR.out hlt)
                have i1 : (0 : Int) ≤ j := by omega
                have i2 : (j : Int) < L.length := by omega
                rw [hao] at hT2
                clear hc hx hF
                go_wp2_with fail
                refine (rorbit_any c m x wr).mono ?_
                rintro e w1 ⟨v1, rfl, hown1, hb2⟩
                obtain ⟨ao1, cap1, rfl, hi1⟩ := own_ints hown1
                have hl1 := orb_len c m x
                go_wp2_with fail
                refine (has_any _ _ _ (orbL c m x) q w1 rfl (by omega) hi1).mono ?_
                rintro e w2 ⟨rfl, rfl⟩
                rw [HO.out]
                clear hown1 hi1
                go_wp2
                go_roundw
                case rel => (repeat apply Exists.intro); refine ⟨⟨j + 1, by omega, by go_num, by rw [HS.out, HF.out, Bool.false_or, HX.out], hbi.trans (hb2.mono hsi)⟩, ?_⟩; rw [show decide ((q : Int) < 24) = true from decide_eq_true (by omega), show ((j + 1 : Nat) : Int) = (j : Int) + 1 from by omega]
                case measure => simp [intOf]; omega
              · obtain rfl : j = L.length := by omega
                have HT := Lib.hid ((upTo_step (allOrb L st m L.length) q).2 hF)
                have hown2 := own_below hown hbi
                have hbel2 : Below W.heap.size W wr := hbel.trans (hbi.mono hsz)
                clear hown hL
                go_wp2_with fail
                go_roundw
                case rel => exact ⟨q + 1, by omega, by go_num, by rw [HT.out]; exact hown2, hbel2⟩
                case measure => simp [intOf]; omega
            · have hfull := allOrb_mono L st m j q hF
              by_cases hlt2 : j < L.length
              · skip
                have HT := Lib.hid ((upTo_step (allOrb L st m L.length) q).1 hfull)
                have hlen := upTo_len (allOrb L st m L.length) q
                obtain ⟨z, hz⟩ : ∃ z, (upTo (allOrb L st m L.length) q).length = z := ⟨_, rfl⟩
                have hown2 := own_below hown hbi
                rw [hz] at hown2 hlen
                have hbel2 : Below W.heap.size W wr := hbel.trans (hbi.mono hsz)
                clear hown hfull hL
                go_wp2_with (at_builtin; refine wpList_append_own _ rfl _ _ 22 rfl W.heap.size 3 i0 (.int .i64 0) 1 8 Try.underlying22 hi hz0 hz1 hz2 rfl (by decide) _ _ _ rfl (hown2.alloc _) ⟨wr.heap.size, 0, none⟩ 1 1 [.int .i64 q] rfl rfl (one_new _ _ _) (one_int _ _) (by unfold maxLen; omega) (by omega) (by simp; omega) ?_)
                intro v' w1 hown' hgrow _
                have hb2 : Below W.heap.size W w1 := by
                  refine Below.grown (hbel2.alloc hbel2.size _) hgrow ?_ ?_
                  · simp; omega
                  · intro y hy
                    have := (hown2.lt y hy).1
                    omega
                clear hgrow hown2
                go_wp2
                go_roundw
                case rel => exact ⟨q + 1, by omega, by go_num, by rw [HT.out, vals_snoc, List.length_append, hz, hWs]; exact hown', hb2⟩
                case measure => simp [intOf]; omega
              · obtain rfl : j = L.length := by omega
                have HT := Lib.hid ((upTo_step (allOrb L st m L.length) q).1 hfull)
                have hlen := upTo_len (allOrb L st m L.length) q
                obtain ⟨z, hz⟩ : ∃ z, (upTo (allOrb L st m L.length) q).length = z := ⟨_, rfl⟩
                have hown2 := own_below hown hbi
                rw [hz] at hown2 hlen
                have hbel2 : Below W.heap.size W wr := hbel.trans (hbi.mono hsz)
                clear hown hfull hL
                go_wp2_with (at_builtin; refine wpList_append_own _ rfl _ _ 22 rfl W.heap.size 3 i0 (.int .i64 0) 1 8 Try.underlying22 hi hz0 hz1 hz2 rfl (by decide) _ _ _ rfl (hown2.alloc _) ⟨wr.heap.size, 0, none⟩ 1 1 [.int .i64 q] rfl rfl (one_new _ _ _) (one_int _ _) (by unfold maxLen; omega) (by omega) (by simp; omega) ?_)
                intro v' w1 hown' hgrow _
                have hb2 : Below W.heap.size W w1 := by
                  refine Below.grown (hbel2.alloc hbel2.size _) hgrow ?_ ?_
                  · simp; omega
                  · intro y hy
                    have := (hown2.lt y hy).1
                    omega
                clear hgrow hown2
                go_wp2
                go_roundw
                case rel => exact ⟨q + 1, by omega, by go_num, by rw [HT.out, vals_snoc, List.length_append, hz, hWs]; exact hown', hb2⟩
                case measure => simp [intOf]; omega
        · obtain rfl : q = 24 := by omega
          go_wp2_with fail
          go_ret
          exact ⟨_, rfl, own_base hown (by omega), hWb.trans (hbel.mono (by omega))⟩
end Go.Proofs.Ytikbgdbbicnfnaa.Tr
