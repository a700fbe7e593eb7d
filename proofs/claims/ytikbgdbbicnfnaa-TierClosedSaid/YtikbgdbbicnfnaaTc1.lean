/- TierClosed: the positions of a tier are closed under the rotations and reflections of its design. -/
import Derived.Test.YtikbgdbbicnfnaaTcM
import Derived.Test.YtikbgdbbicnfnaaTo1
import Derived.Deep.WholeRow
namespace Go.Proofs.Ytikbgdbbicnfnaa.Tr
open Go.RowKit

attribute [local go_sem ↓] tload_eq
def TierAt (W : World) (b : Nat) (nm : ByteArray) (hh vv kd : Int) (ao ro : Option Addr) (cp rn rc : Nat) (B : Nat → Bool) (S : Nat → ByteArray) (n : Nat) : Prop := ∀ j v, ([.string nm, .int .i64 hh, .int .i64 vv, .slice ao n cp, .int .i64 kd, .bool (B 0), .string (S 0), .bool (B 1), .string (S 1), .bool (B 2), .string (S 2), .bool (B 3), .string (S 3), .bool (B 4), .string (S 4), .bool (B 5), .string (S 5), .bool (B 6), .string (S 6), .bool (B 7), .string (S 7), .bool (B 8), .string (S 8), .bool (B 9), .string (S 9), .bool (B 10), .string (S 10), .bool (B 11), .string (S 11), .bool (B 12), .string (S 12), .bool (B 13), .string (S 13), .bool (B 14), .string (S 14), .bool (B 15), .string (S 15), .bool (B 16), .string (S 16), .bool (B 17), .string (S 17), .bool (B 18), .string (S 18), .bool (B 19), .string (S 19), .slice ro rn rc] : List Value)[j]? = some v → W.cell? ⟨b, j, none⟩ = some v
theorem TierAt.kept {W W' : World} {N b : Nat} {nm : ByteArray} {hh vv kd : Int} {ao ro : Option Addr} {cp rn rc : Nat} {B : Nat → Bool} {S : Nat → ByteArray} {n : Nat} (h : TierAt W b nm hh vv kd ao ro cp rn rc B S n) (l : b < N) (hb : Below N W W') : TierAt W' b nm hh vv kd ao ro cp rn rc B S n := fun j v hv => (hb.cell (p := ⟨b, j, none⟩) l).trans (h j v hv)
theorem TierAt.mk {W W' : World} {b : Nat} {nm : ByteArray} {hh vv kd : Int} {ao ro : Option Addr} {cp rn rc : Nat} {B : Nat → Bool} {S : Nat → ByteArray} {n : Nat} (hb : b < W.heap.size) (h0 : W.heap[b]? = some (.cells #[.string nm, .int .i64 hh, .int .i64 vv, .slice ao n cp, .int .i64 kd, .bool (B 0), .string (S 0), .bool (B 1), .string (S 1), .bool (B 2), .string (S 2), .bool (B 3), .string (S 3), .bool (B 4), .string (S 4), .bool (B 5), .string (S 5), .bool (B 6), .string (S 6), .bool (B 7), .string (S 7), .bool (B 8), .string (S 8), .bool (B 9), .string (S 9), .bool (B 10), .string (S 10), .bool (B 11), .string (S 11), .bool (B 12), .string (S 12), .bool (B 13), .string (S 13), .bool (B 14), .string (S 14), .bool (B 15), .string (S 15), .bool (B 16), .string (S 16), .bool (B 17), .string (S 17), .bool (B 18), .string (S 18), .bool (B 19), .string (S 19), .slice ro rn rc] 34)) (h : Below W.heap.size W W') : TierAt W' b nm hh vv kd ao ro cp rn rc B S n := by
  intro j v hv
  refine (h.cell (p := ⟨b, j, none⟩) hb).trans ?_
  rw [cell_of_row W b j _ _ _ h0]
  simpa only [List.getElem?_toArray] using hv
theorem TierAt.load {W : World} {b : Nat} {nm : ByteArray} {hh vv kd : Int} {ao ro : Option Addr} {cp rn rc : Nat} {B : Nat → Bool} {S : Nat → ByteArray} {n : Nat} (h : TierAt W b nm hh vv kd ao ro cp rn rc B S n) : (tload ⟨b, 0, none⟩).run Try.prog W = .ok #[.string nm, .int .i64 hh, .int .i64 vv, .slice ao n cp, .int .i64 kd, .bool (B 0), .string (S 0), .bool (B 1), .string (S 1), .bool (B 2), .string (S 2), .bool (B 3), .string (S 3), .bool (B 4), .string (S 4), .bool (B 5), .string (S 5), .bool (B 6), .string (S 6), .bool (B 7), .string (S 7), .bool (B 8), .string (S 8), .bool (B 9), .string (S 9), .bool (B 10), .string (S 10), .bool (B 11), .string (S 11), .bool (B 12), .string (S 12), .bool (B 13), .string (S 13), .bool (B 14), .string (S 14), .bool (B 15), .string (S 15), .bool (B 16), .string (S 16), .bool (B 17), .string (S 17), .bool (B 18), .string (S 18), .bool (B 19), .string (S 19), .slice ro rn rc] W := by
  have := run_loadCells_list (P := Try.prog) W ⟨b, 0, none⟩ ([.string nm, .int .i64 hh, .int .i64 vv, .slice ao n cp, .int .i64 kd, .bool (B 0), .string (S 0), .bool (B 1), .string (S 1), .bool (B 2), .string (S 2), .bool (B 3), .string (S 3), .bool (B 4), .string (S 4), .bool (B 5), .string (S 5), .bool (B 6), .string (S 6), .bool (B 7), .string (S 7), .bool (B 8), .string (S 8), .bool (B 9), .string (S 9), .bool (B 10), .string (S 10), .bool (B 11), .string (S 11), .bool (B 12), .string (S 12), .bool (B 13), .string (S 13), .bool (B 14), .string (S 14), .bool (B 15), .string (S 15), .bool (B 16), .string (S 16), .bool (B 17), .string (S 17), .bool (B 18), .string (S 18), .bool (B 19), .string (S 19), .slice ro rn rc] : List Value) (fun j v hv => by
    rw [Addr.add_mid, Nat.zero_add]
    exact h j v hv)
  exact this

def tstore (a : Addr) (v : Value) : Sem Unit := storeVar 34 a v
theorem tstore_eq (a : Addr) (v : Value) : storeVar 34 a v = tstore a v := rfl
attribute [local go_sem ↓] tstore_eq
theorem tstore_new (w : World) (c c' : Array Value) (ho : c.size = 46) (ho' : c'.size = 46) (h1 : c'.all (·.oneCell') = true) : (tstore ⟨w.heap.size, 0, none⟩ (.agg c')).run Try.prog (w.alloc (.cells c 34)) = .ok () (w.alloc (.cells c' 34)) :=
  run_storeVar_new w 34 c c' (by rw [ho']; kernel_rfl) (ho.trans ho'.symm) h1
/-- the moved indices -/
def zvals (k : Int) (st : Nat) (L : List Int) (q : Nat) : List Value := (L.take q).map fun x => Value.int .i64 (x + k * (st : Int))
theorem zvals_succ (k : Int) (st : Nat) (L : List Int) (q : Nat) (h : q < L.length) : zvals k st L (q + 1) = zvals k st L q ++ [.int .i64 (L[q]?.getD 0 + k * (st : Int))] := by
  unfold zvals
  rw [List.take_succ_eq_append_getElem h, List.map_append, List.getElem?_eq_getElem h]
  rfl
theorem own_zs {w : World} {B : Nat} {L : List Int} {k : Int} {st : Nat} {v : Value} (h : w.ownsRow B 3 1 v L.length (zvals k st L L.length)) : ∃ ao cap, v = .slice ao L.length cap ∧ ZAt w ao (L.map fun x => x + k * (st : Int)) := by
  by_cases hn : 0 < L.length
  · obtain ⟨g, cap, rfl, h1, h2⟩ := h.form hn
    refine ⟨_, _, rfl, fun _ => ⟨g, 0, rfl, h2, fun i hi => ?_⟩⟩
    rw [List.length_map] at hi
    have hc := h.cellAt i (by omega)
    rw [Nat.zero_add, hc]
    unfold zvals
    simp [hi]
  · obtain ⟨h1, h2⟩ := h
    rcases h2 with ⟨rfl, h2⟩ | ⟨g, cap, cur, rfl, _⟩
    · exact ⟨none, 0, by rw [show L.length = 0 by omega], fun h => absurd h (by rw [List.length_map]; omega)⟩
    · exact ⟨_, _, rfl, fun h => absurd h (by rw [List.length_map]; omega)⟩

set_option maxRecDepth 100000 in
set_option maxHeartbeats 8000000 in
theorem tclosed_any (ac k : Int) (mi : Bool) (nm : ByteArray) (hh vv kd : Int) (ao ro : Option Addr) (cp rn rc : Nat) (B : Nat → Bool) (S : Nat → ByteArray) (L : List Int) (w : World) (hL : ZAt w ao L) (ha : 0 ≤ ac) (ha' : ac ≤ 255) (hk : -128 ≤ k) (hk' : k ≤ 127) :
    Calls Try.prog 4 #[.agg #[.string nm, .int .i64 hh, .int .i64 vv, .slice ao L.length cp, .int .i64 kd, .bool (B 0), .string (S 0), .bool (B 1), .string (S 1), .bool (B 2), .string (S 2), .bool (B 3), .string (S 3), .bool (B 4), .string (S 4), .bool (B 5), .string (S 5), .bool (B 6), .string (S 6), .bool (B 7), .string (S 7), .bool (B 8), .string (S 8), .bool (B 9), .string (S 9), .bool (B 10), .string (S 10), .bool (B 11), .string (S 11), .bool (B 12), .string (S 12), .bool (B 13), .string (S 13), .bool (B 14), .string (S 14), .bool (B 15), .string (S 15), .bool (B 16), .string (S 16), .bool (B 17), .string (S 17), .bool (B 18), .string (S 18), .bool (B 19), .string (S 19), .slice ro rn rc], .agg #[.int .u8 ac, .bool mi, .int .i8 k]] w fun e w' => e = .returned (.bool true) ∧ Below w.heap.size w w' := by
  go_enter Try.func4, Try.ntmps4
  go_wp2_with fail
  refine (awake_any _).mono ?_
  rintro e w1 ⟨rfl, hc1⟩
  have z1 := hc1.size
  simp at z1
  have lw1 : w.heap.size < w1.heap.size := by omega
  have lx1 : w.heap.size + 1 < w1.heap.size := by omega
  have hw1 : Below w.heap.size w w1 := (((Below.refl _ _).alloc (Nat.le_refl _) _).alloc (by simp) _).trans (hc1.mono (by simp; omega))
  have T1 : TierAt w1 w.heap.size nm hh vv kd ao ro cp rn rc B S L.length := TierAt.mk (by simp; omega) ((heap_alloc_old _ _ (r := w.heap.size) (by simp)).trans (heap_alloc_new _ _)) hc1
  have x1_0 : w1.cell? ⟨w.heap.size + 1, 0, none⟩ = some (.int .u8 ac) := (hc1.cell (p := ⟨w.heap.size + 1, 0, none⟩) (by simp)).trans (by simp [go_sem])
  have x1_1 : w1.cell? ⟨w.heap.size + 1, 1, none⟩ = some (.bool mi) := (hc1.cell (p := ⟨w.heap.size + 1, 1, none⟩) (by simp)).trans (by simp [go_sem])
  have x1_2 : w1.cell? ⟨w.heap.size + 1, 2, none⟩ = some (.int .i8 k) := (hc1.cell (p := ⟨w.heap.size + 1, 2, none⟩) (by simp)).trans (by simp [go_sem])
  have t1_1 : w1.cell? ⟨w.heap.size, 1, none⟩ = some (.int .i64 hh) := T1 1 _ rfl
  have t1_3 : w1.cell? ⟨w.heap.size, 3, none⟩ = some (.slice ao L.length cp) := T1 3 _ rfl
  have hL1 := z_below hL hw1
  clear hc1
  obtain ⟨j, hj⟩ : ∃ j : Nat, ac % 8 = j := Int.eq_ofNat_of_zero_le (by omega)
  have hj8 : j < 8 := by omega
  have hjt : ac.tmod 8 = (j : Int) := by rw [Int.tmod_eq_emod_of_nonneg ha, hj]
  obtain ⟨o0, o1, o2, o3, o4⟩ := ordN_ok hj8
  have hO : ∀ h : j < ([.int .i64 1, .int .i64 2, .int .i64 3, .int .i64 4, .int .i64 6, .int .i64 8, .int .i64 12, .int .i64 24] : List Value).length, ([.int .i64 1, .int .i64 2, .int .i64 3, .int .i64 4, .int .i64 6, .int .i64 8, .int .i64 12, .int .i64 24] : List Value)[j]'h = .int .i64 (ordN j : Int) := by
    intro h
    have : j = 0 ∨ j = 1 ∨ j = 2 ∨ j = 3 ∨ j = 4 ∨ j = 5 ∨ j = 6 ∨ j = 7 := by omega
    rcases this with rfl | rfl | rfl | rfl | rfl | rfl | rfl | rfl <;> rfl
  obtain ⟨c, hc⟩ : ∃ c, ordN j = c := ⟨_, rfl⟩
  obtain ⟨st, hst⟩ : ∃ st, 24 / c = st := ⟨_, rfl⟩
  rw [hc] at o0 o1 o2 o3 o4 hO
  rw [hst] at o4
  have j0 : (0 : Int) ≤ (j : Int) := by omega
  have j8 : (j : Int) < 8 := by omega
  by_cases h0 : hh = 0
  · subst h0
    go_wp2_with fail
    go_ret
    exact ⟨rfl, hw1.alloc (by omega) _⟩
  have h0' : (hh == 0) = false := by simpa using h0
  by_cases h26 : 26 < L.length
  · have h26' : (26 : Int) < (L.length : Int) := by omega
    go_wp2_with fail
    go_ret
    exact ⟨rfl, hw1.alloc (by omega) _⟩
  have h26' : (L.length : Int) ≤ 26 := by omega
  go_wp2_with fail
  go_loopw [8, 40] (fun _ i wr => ∃ q : Nat, q ≤ L.length ∧ i = .int .i64 q ∧ (∀ p, p < q → 0 ≤ L[p]?.getD 0 ∧ L[p]?.getD 0 ≤ 23) ∧ Below w1.heap.size w1 wr) (fun _ i _ => L.length - (intOf i).toNat)
  case atStart => exact ⟨0, Nat.zero_le _, rfl, fun p hp => absurd hp (Nat.not_lt_zero _), (Below.refl _ _).alloc (Nat.le_refl _) _⟩
  case round =>
    obtain ⟨q, hq, rfl, hin, hbel⟩ := hrel
    have zr := hbel.size
    by_cases hlt : q < L.length
    · obtain ⟨b, off, hao, hb1, hcl⟩ := hL1 (by omega)
      have g0 := (hbel.cell (p := ⟨b, off + q, none⟩) hb1).trans (hcl q hlt)
      obtain ⟨x, hx⟩ : ∃ x, L[q]?.getD 0 = x := ⟨_, rfl⟩
      rw [hx] at g0
      have HX := Lib.hid hx
      have HI := Lib.hid hin
      have i1 : (0 : Int) ≤ q := by omega
      have i2 : (q : Int) < L.length := by omega
      clear hx hin hcl
      rw [hao]
      by_cases hneg : x < 0
      · go_wp2_with fail
        go_ret
        exact ⟨rfl, hw1.trans (hbel.mono (by omega))⟩
      by_cases hbig : 23 < x
      · go_wp2_with fail
        go_ret
        exact ⟨rfl, hw1.trans (hbel.mono (by omega))⟩
      go_wp2_with fail
      go_roundw
      case rel =>
        refine ⟨q + 1, by omega, by go_num, fun p hp => ?_, hbel⟩
        rcases Nat.lt_or_ge p q with h | h
        · exact HI.out p h
        · obtain rfl : p = q := by omega
          rw [HX.out]
          omega
      case measure => simp [intOf]; omega
    · obtain rfl : q = L.length := by omega
      have T2 := T1.kept lw1 hbel
      have lw2 : w.heap.size < wr.heap.size := by omega
      have lx2 : w.heap.size + 1 < wr.heap.size := by omega
      have hw2 := hw1.trans (hbel.mono (by omega))
      have x2_1 := (hbel.cell (p := ⟨w.heap.size + 1, 1, none⟩) lx1).trans x1_1
      have x2_2 := (hbel.cell (p := ⟨w.heap.size + 1, 2, none⟩) lx1).trans x1_2
      have hL2 := z_below hL1 hbel
      have FL := T2.load
      have HI := Lib.hid hin
      clear hin hbel hw1 x1_0 x1_1 x1_2 t1_1 t1_3 T1 hL1 hO
      go_wp2_with fail
      refine (positions_any' (c : Int) mi nm hh vv kd ao ro cp rn rc B S L wr (by omega) hL2).mono ?_
      rintro e w3 ⟨ao3, cap3, rfl, hi3, hc3⟩
      clear FL
      obtain ⟨PL, hPL⟩ : ∃ PL, posL (c : Int) mi hh L = PL := ⟨_, rfl⟩
      have HP := Lib.hid hPL
      have HU : Hid (PL = upTo (allOrb L st mi L.length) 24) := Lib.hid (by
        rw [← hPL, show posL (c : Int) mi hh L = (if hh = 0 then [0] else upTo (allOrb L (24 / (c : Int).toNat) mi L.length) 24) from if_pos o3, if_neg h0, Int.toNat_natCast, hst])
      have hpl : PL.length ≤ 24 := by rw [← hPL]; exact pos_len (c : Int) mi hh L
      rw [hPL] at hi3
      have zc3 := hc3.size
      have T3 := T2.kept lw2 hc3
      have lw3 : w.heap.size < w3.heap.size := by omega
      have lx3 : w.heap.size + 1 < w3.heap.size := by omega
      have hw3 := hw2.trans (hc3.mono (by omega))
      have x3_1 := (hc3.cell (p := ⟨w.heap.size + 1, 1, none⟩) lx2).trans x2_1
      have x3_2 := (hc3.cell (p := ⟨w.heap.size + 1, 2, none⟩) lx2).trans x2_2
      have hL3 := z_below hL2 hc3
      rw [hPL]
      clear hPL hc3 hL2 x2_1 x2_2 T2 hw2
      have HC0 := Lib.hid o0
      have HC1 := Lib.hid o1
      have HC2 := Lib.hid o2
      have HST := Lib.hid hst
      have st1 : 0 < st ∧ st ≤ 24 := by
        rw [← hst]
        exact ⟨Nat.div_pos (by omega) o0, Nat.div_le_self _ _⟩
      have cne : ¬ ((c : Int) = 0) := by omega
      clear o0 o1 o2 hst
      go_wp2_with fail
      go_loopw [11, 12, 60] (fun _ _ i wr => ∃ q : Nat, q ≤ PL.length ∧ i = .int .i64 q ∧ Below w3.heap.size w3 wr) (fun _ _ i _ => PL.length - (intOf i).toNat)
      case atStart => exact ⟨0, Nat.zero_le _, rfl, Below.refl _ _⟩
      case round =>
        obtain ⟨q, hq, rfl, hbel⟩ := hrel
        have z4 := hbel.size
        by_cases hlt : q < PL.length
        · have hi4 := ints_below hi3 hbel
          obtain ⟨b, off, hao, hb1, hcl⟩ := hi4 (by omega)
          obtain ⟨P, hP⟩ : ∃ P, PL[q]?.getD 0 = P := ⟨_, rfl⟩
          have g0 := hcl q hlt
          rw [hP] at g0
          have hx1 := (hbel.cell (p := ⟨w.heap.size + 1, 1, none⟩) lx3).trans x3_1
          have HG : P < 24 ∧ allOrb L st mi L.length P = true := by
            rw [← hP]
            have := HU.out
            subst this
            exact upTo_get hlt
          have P24 : (P : Int) ≤ 23 := by omega
          have P0 : (0 : Int) ≤ (P : Int) := by omega
          have hS : ∀ x : Nat, x < 24 → hasB PL (x : Int) PL.length = allOrb L st mi L.length x := by
            intro x hx
            have := HU.out
            subst this
            exact has_upTo _ x hx
          have hmod1 : ((P : Int) + (st : Int)).tmod 24 = ((P : Int) + (st : Int)) % 24 := Int.tmod_eq_emod_of_nonneg (by omega)
          have hmod2 : ((24 : Int) - (P : Int)).tmod 24 = ((24 : Int) - (P : Int)) % 24 := Int.tmod_eq_emod_of_nonneg (by omega)
          have HA := Lib.hid (show hasB PL (((P : Int) + (st : Int)) % 24) PL.length = true from by
            rw [show ((P : Int) + (st : Int)) % 24 = (((P + st) % 24 : Nat) : Int) from by omega, hS _ (by omega)]
            have := HST.out
            subst this
            exact all_shift HC0.out HC2.out HG.1 HG.2)
          have HB : mi = true → Hid (hasB PL (-(P : Int) % 24) PL.length = true) := fun hm => Lib.hid (by
            rw [show -(P : Int) % 24 = (((24 - P) % 24 : Nat) : Int) from by omega, hS _ (by omega)]
            have := HST.out
            subst this
            exact all_mirror HC0.out HC2.out HG.1 hm HG.2)
          have i1 : (0 : Int) ≤ q := by omega
          have i2 : (q : Int) < PL.length := by omega
          have st2 := st1.2
          have i3 : IntKind.i64.wrap ((P : Int) + (st : Int)) = (P : Int) + (st : Int) := IntWalk.i64_in _ ⟨by omega, by omega⟩
          have i4 : IntKind.i64.wrap ((24 : Int) - (P : Int)) = (24 : Int) - (P : Int) := IntWalk.i64_in _ ⟨by omega, by omega⟩
          have HPq := Lib.hid hP
          clear hS HG hP
          rw [hao]
          have hi5 : IntsAt wr (some ⟨b, off, none⟩) PL := hao ▸ hi4
          clear hi4
          rcases q with _ | q
          · have g00 : wr.cell? ⟨b, off, none⟩ = some (.int .i64 (P : Int)) := by simpa using g0
            clear g0 hcl
            cases mi
            · go_wp2_with (go_at_call 16; refine (has_any _ _ _ PL _ wr rfl (by omega) hi5).mono ?_; rintro e w5 ⟨rfl, rfl⟩; first | rw [HA.out] | rw [HB1.out])
              go_roundw
              case rel => exact ⟨0 + 1, by omega, by go_num, hbel⟩
              case measure => simp [intOf]; omega
            · have HB1 := HB rfl
              go_wp2_with (go_at_call 16; refine (has_any _ _ _ PL _ wr rfl (by omega) hi5).mono ?_; rintro e w5 ⟨rfl, rfl⟩; first | rw [HA.out] | rw [HB1.out])
              go_roundw
              case rel => exact ⟨0 + 1, by omega, by go_num, hbel⟩
              case measure => simp [intOf]; omega
          · have g1 := hcl q (by omega)
            obtain ⟨P', hP'⟩ : ∃ P', PL[q]?.getD 0 = P' := ⟨_, rfl⟩
            rw [hP'] at g1
            have hPP : (P' : Int) < (P : Int) := by
              have := HU.out
              rw [← hP', ← HPq.out]
              subst this
              exact_mod_cast upTo_next hlt
            have i5 : IntKind.i64.wrap ((q : Int) + 1 - 1) = (q : Int) := by rw [Int.add_sub_cancel]; exact IntWalk.i64_in _ ⟨by omega, by omega⟩
            have i6 : (0 : Int) < (q : Int) + 1 := by omega
            have i7 : (0 : Int) ≤ (q : Int) := by omega
            have i8 : (q : Int) < PL.length := by omega
            clear hcl hP'
            cases mi
            · go_wp2_with (go_at_call 16; refine (has_any _ _ _ PL _ wr rfl (by omega) hi5).mono ?_; rintro e w5 ⟨rfl, rfl⟩; first | rw [HA.out] | rw [HB1.out])
              go_roundw
              case rel => exact ⟨(q + 1) + 1, by omega, by go_num, hbel⟩
              case measure => simp [intOf]; omega
            · have HB1 := HB rfl
              go_wp2_with (go_at_call 16; refine (has_any _ _ _ PL _ wr rfl (by omega) hi5).mono ?_; rintro e w5 ⟨rfl, rfl⟩; first | rw [HA.out] | rw [HB1.out])
              go_roundw
              case rel => exact ⟨(q + 1) + 1, by omega, by go_num, hbel⟩
              case measure => simp [intOf]; omega
        · obtain rfl : q = PL.length := by omega
          have T4 := T3.kept lw3 hbel
          have lw4 : w.heap.size < wr.heap.size := by omega
          have lx4 : w.heap.size + 1 < wr.heap.size := by omega
          have hw4 := hw3.trans (hbel.mono (by omega))
          have x4_2 := (hbel.cell (p := ⟨w.heap.size + 1, 2, none⟩) lx3).trans x3_2
          have x4_1 := (hbel.cell (p := ⟨w.heap.size + 1, 1, none⟩) lx3).trans x3_1
          have hL4 := z_below hL3 hbel
          have hi4 := ints_below hi3 hbel
          have FL := T4.load
          have t4_3 : wr.cell? ⟨w.heap.size, 3, none⟩ = some (.slice ao L.length cp) := T4 3 _ rfl
          have nw : ¬ (w.heap.size = wr.heap.size) := by omega
          clear hbel hw3 x3_1 x3_2 T3 hL3 hi3
          obtain ⟨wo, hwo⟩ : ∃ wo, wo = wr := ⟨_, rfl⟩
          rw [← hwo] at T4 lw4 lx4 hw4 x4_1 x4_2 hL4 hi4 FL t4_3 nw ⊢
          clear hwo z4
          have kst : -3072 ≤ k * (st : Int) ∧ k * (st : Int) ≤ 3072 := by
            have a1 := Int.mul_le_mul_of_nonneg_right hk' (show (0 : Int) ≤ (st : Int) by omega)
            have a2 := Int.mul_le_mul_of_nonneg_right hk (show (0 : Int) ≤ (st : Int) by omega)
            omega
          have kw : IntKind.i64.wrap (k * (st : Int)) = k * (st : Int) := IntWalk.i64_in _ ⟨by omega, by omega⟩
          have FS : ∀ c : Array Value, c.size = 46 → (tstore ⟨wo.heap.size, 0, none⟩ (.agg #[.string nm, .int .i64 hh, .int .i64 vv, .slice ao L.length cp, .int .i64 kd, .bool (B 0), .string (S 0), .bool (B 1), .string (S 1), .bool (B 2), .string (S 2), .bool (B 3), .string (S 3), .bool (B 4), .string (S 4), .bool (B 5), .string (S 5), .bool (B 6), .string (S 6), .bool (B 7), .string (S 7), .bool (B 8), .string (S 8), .bool (B 9), .string (S 9), .bool (B 10), .string (S 10), .bool (B 11), .string (S 11), .bool (B 12), .string (S 12), .bool (B 13), .string (S 13), .bool (B 14), .string (S 14), .bool (B 15), .string (S 15), .bool (B 16), .string (S 16), .bool (B 17), .string (S 17), .bool (B 18), .string (S 18), .bool (B 19), .string (S 19), .slice ro rn rc])).run Try.prog (wo.alloc (.cells c 34)) = .ok () (wo.alloc (.cells #[.string nm, .int .i64 hh, .int .i64 vv, .slice ao L.length cp, .int .i64 kd, .bool (B 0), .string (S 0), .bool (B 1), .string (S 1), .bool (B 2), .string (S 2), .bool (B 3), .string (S 3), .bool (B 4), .string (S 4), .bool (B 5), .string (S 5), .bool (B 6), .string (S 6), .bool (B 7), .string (S 7), .bool (B 8), .string (S 8), .bool (B 9), .string (S 9), .bool (B 10), .string (S 10), .bool (B 11), .string (S 11), .bool (B 12), .string (S 12), .bool (B 13), .string (S 13), .bool (B 14), .string (S 14), .bool (B 15), .string (S 15), .bool (B 16), .string (S 16), .bool (B 17), .string (S 17), .bool (B 18), .string (S 18), .bool (B 19), .string (S 19), .slice ro rn rc] 34)) := fun c h => tstore_new wo c _ h rfl (by simp [Value.oneCell'])
          go_wp2_with fail
          clear FL FS
          go_loopw [111] (fun i wr => ∃ (q : Nat) (v : Value), q ≤ L.length ∧ i = .int .i64 q ∧ Below wo.heap.size wo wr ∧ wo.heap.size < wr.heap.size ∧ wr.frozen? ⟨wo.heap.size, 3, none⟩ = false ∧ wr.cell? ⟨wo.heap.size, 3, none⟩ = some v ∧ wr.ownsRow (wo.heap.size + 1) 3 1 v q (zvals k st L q) ∧ (∀ j u, j ≠ 3 → ([.string nm, .int .i64 hh, .int .i64 vv, .slice ao L.length cp, .int .i64 kd, .bool (B 0), .string (S 0), .bool (B 1), .string (S 1), .bool (B 2), .string (S 2), .bool (B 3), .string (S 3), .bool (B 4), .string (S 4), .bool (B 5), .string (S 5), .bool (B 6), .string (S 6), .bool (B 7), .string (S 7), .bool (B 8), .string (S 8), .bool (B 9), .string (S 9), .bool (B 10), .string (S 10), .bool (B 11), .string (S 11), .bool (B 12), .string (S 12), .bool (B 13), .string (S 13), .bool (B 14), .string (S 14), .bool (B 15), .string (S 15), .bool (B 16), .string (S 16), .bool (B 17), .string (S 17), .bool (B 18), .string (S 18), .bool (B 19), .string (S 19), .slice ro rn rc] : List Value)[j]? = some u → wr.cell? ⟨wo.heap.size, j, none⟩ = some u)) (fun i _ => L.length - (intOf i).toNat)
          case atStart =>
            refine ⟨0, .slice none 0 0, Nat.zero_le _, rfl, (Below.refl _ _).alloc (Nat.le_refl _) _, by simp, by simp [go_sem], by simp [go_sem], World.ownsRow_nil _ _ _ _, ?_⟩
            intro j u hj hu
            rw [World.cell?_alloc_new, List.getElem?_toArray]
            rcases j with _ | _ | _ | _ | j
            · exact hu
            · exact hu
            · exact hu
            · exact absurd rfl hj
            · exact hu
          case round =>
            obtain ⟨q, v, hq, rfl, hbel, hsz, hfz, hcv, hown, hoth⟩ := hrel
            have zo := hbel.size
            have t5_3 := (hbel.cell (p := ⟨w.heap.size, 3, none⟩) lw4).trans t4_3
            have x5_2 := (hbel.cell (p := ⟨w.heap.size + 1, 2, none⟩) lx4).trans x4_2
            have x5_1 := (hbel.cell (p := ⟨w.heap.size + 1, 1, none⟩) lx4).trans x4_1
            have hi5 := ints_below hi4 hbel
            by_cases hlt : q < L.length
            · obtain ⟨b, off, hao, hb1, hcl⟩ := hL4 (by omega)
              have g0 := (hbel.cell (p := ⟨b, off + q, none⟩) hb1).trans (hcl q hlt)
              obtain ⟨x, hx⟩ : ∃ x, L[q]?.getD 0 = x := ⟨_, rfl⟩
              rw [hx] at g0
              have hin := HI.out q hlt
              rw [hx] at hin
              have HV := Lib.hid (zvals_succ k st L q hlt)
              have HX := Lib.hid hx
              have HA := Lib.hid (show hasB PL x PL.length = true from by
                have := HU.out
                have e : (x.toNat : Int) = x := by omega
                rw [← e]
                rw [this, has_upTo _ x.toNat (by omega)]
                have := HST.out
                subst this
                have := all_self (L := L) (m := mi) HC0.out HC2.out hlt (by rw [hx]; exact hin.1) (by rw [hx]; exact hin.2)
                rw [hx] at this
                exact this)
              have i1 : (0 : Int) ≤ q := by omega
              have i2 : (q : Int) < L.length := by omega
              have xw : IntKind.i64.wrap (x + k * (st : Int)) = x + k * (st : Int) := IntWalk.i64_in _ ⟨by omega, by omega⟩
              clear hx hcl
              rw [hao] at t5_3 ⊢
              obtain ⟨i0, hif, hz0, hz1, hz2⟩ := info_parts info_int
              go_wp2_with (first
                | (go_at_call 16; refine (has_any _ _ _ PL _ wr rfl (by omega) hi5).mono ?_; rintro e w5 ⟨rfl, rfl⟩; rw [HA.out])
                | (at_builtin; refine wpList_append_own _ rfl _ _ 22 rfl (wo.heap.size + 1) 3 i0 (.int .i64 0) 1 8 Try.underlying22 hif hz0 hz1 hz2 rfl (by decide) _ _ _ rfl (hown.alloc _) ⟨wr.heap.size, 0, none⟩ 1 1 [.int .i64 (x + k * (st : Int))] rfl rfl (one_new _ _ _) (one_int _ _) (by unfold maxLen; omega) (by omega) (by simp; omega) ?_))
              intro v' w6 hown6 hgrow _
              have hb6 : Below (wo.heap.size + 1) wr w6 := Below.grown ((Below.refl _ _).alloc (by omega) _) hgrow (by simp; omega) (fun y hy => (hown.lt y hy).1)
              clear hgrow
              obtain ⟨g6, cap6, rfl, hg1, hg2⟩ := hown6.form (by omega)
              have hfz6 := (hb6.frozen (p := ⟨wo.heap.size, 3, none⟩) (by simp)).trans hfz
              have hcv6 := (hb6.cell (p := ⟨wo.heap.size, 3, none⟩) (by simp)).trans hcv
              go_wp2
              go_roundw
              case rel =>
                refine ⟨q + 1, .slice (some ⟨g6, 0, none⟩) (q + 1) cap6, by omega, by go_num, (hbel.trans (hb6.mono (by omega))).setCell (by simp) _, by have := hb6.size; simp; omega, by simp [go_sem, hfz6], by simp [go_sem, hcv6], ?_, ?_⟩
                · rw [HV.out, HX.out]
                  exact ownsRow_setCell_below hown6 (by simp) _
                · intro j' u hj hu
                  have hne : (⟨wo.heap.size, 3, none⟩ : Addr) ≠ ⟨wo.heap.size, j', none⟩ := by
                    intro h
                    injection h with h1 h2 h3
                    exact hj h2.symm
                  rw [World.cell?_setCell_other (h := hne)]
                  exact (hb6.cell (p := ⟨wo.heap.size, j', none⟩) (by simp)).trans (hoth j' u hj (by rw [hao]; exact hu))
              case measure => simp [intOf]; omega
            · obtain rfl : q = L.length := by omega
              obtain ⟨ao7, cap7, rfl, hz7⟩ := own_zs hown
              have M7 : TierAt wr wo.heap.size nm hh vv kd ao7 ro cap7 rn rc B S L.length := by
                intro j' u hu
                by_cases hj : j' = 3
                · subst hj
                  rw [hcv]
                  exact hu
                · refine hoth j' u hj ?_
                  rw [← hu]
                  rcases j' with _ | _ | _ | _ | j'
                  · rfl
                  · rfl
                  · rfl
                  · exact absurd rfl hj
                  · rfl
              have FL := M7.load
              have HPM := Lib.hid ((posL_moved (c := c) (m := mi) (hh := hh) (L := L) k HC0.out HC2.out).trans HP.out)
              have P7 := positions_any' (c : Int) mi nm hh vv kd ao7 ro cap7 rn rc B S (L.map fun x => x + k * ((24 / c : Nat) : Int)) wr (by rw [List.length_map]; omega) (by rw [HST.out]; exact hz7)
              rw [HPM.out, List.length_map] at P7
              have hwr := hw4.trans (hbel.mono (by omega))
              clear hoth hown hcv hfz M7
              go_wp2_with fail
              refine P7.mono ?_
              rintro e w8 ⟨ao8, cap8, rfl, hi8, hb8⟩
              clear P7 FL
              have z8 := hb8.size
              have hi9 := ints_below hi5 hb8
              go_wp2_with fail
              refine (same_any _ _ _ _ _ PL w8 rfl (by omega) hi8 hi9).mono ?_
              rintro e w9 ⟨rfl, hb9⟩
              go_wp2_with fail
              go_ret
              exact ⟨rfl, (hwr.trans (hb8.mono (by omega))).trans (hb9.mono (by omega))⟩
end Go.Proofs.Ytikbgdbbicnfnaa.Tr
