/- Texts Fr5, Fr6. -/
import Derived.Test.YtedfciddfpcifaaM05
import Derived.Deep.DeepCutAuto
import Derived.Tactics2

/- The laws of package fresnel's statements begin with an example: it holds. Contracts of Straight, Turn and of the example. -/
namespace Go.Proofs.Ytedfciddfpcifaa.Ivf
open Go.Proofs.Ytedfciddfpcifaa.Iv
open Go.RowKit

def straightR (a b c d : Int) : R := if winB a b 1 4 = true ∧ winB c d 1 4 = true then contrastR a b c d else ⟨0, 0, 1⟩
theorem one_any (w : World) : Calls Try.prog 21 #[] w fun e w' => e = .returned (iv 16777216 16777216) ∧ boxed w 16777216 16777216 = w' := by
  go_enter Try.func21, Try.ntmps21
  go_wp2
  exact bodyPost_ret (v := iv 16777216 16777216) (by simp [results, Try.results21, go_sem]) rfl ⟨rfl, rfl⟩
def s0 : Sf := ⟨16777216, 16777216, 16777216, 16777216, 16777216, 16777216, 33554432, 33554432⟩
theorem aw1 : (straightR 16777216 16777216 33554432 33554432).lo = 1864134 ∧ (straightR 16777216 16777216 33554432 33554432).hi = 1864136 ∧ (straightR 16777216 16777216 33554432 33554432).e = 0 := by decide +kernel
theorem aw2 : (reflR s0).lo = 1864134 ∧ (reflR s0).hi = 1864136 ∧ (reflR s0).e = 0 := by decide +kernel

def AwX (w : World) (x e : Value) (wx : World) : Prop :=
  ∃ bx : Nat, x = .pointer (some ⟨bx, 0, none⟩) ∧ e = .int .i64 0 ∧ w.heap.size + 1 < bx ∧ bx < wx.heap.size ∧ wx.cell? ⟨w.heap.size + 1, 0, none⟩ = some (.int .i64 33554432) ∧ wx.cell? ⟨w.heap.size + 1, 1, none⟩ = some (.int .i64 33554432) ∧
    wx.cell? ⟨bx, 0, none⟩ = some (.int .i64 1864134) ∧ wx.cell? ⟨bx, 1, none⟩ = some (.int .i64 1864136) ∧ Below w.heap.size w wx
def AwY (wc : World) (bx : Nat) (y e : Value) (wx : World) : Prop :=
  ∃ b : Nat, y = .pointer (some ⟨b, 0, none⟩) ∧ e = .int .i64 0 ∧ wx.cell? ⟨bx, 0, none⟩ = some (.int .i64 1864134) ∧ wx.cell? ⟨bx, 1, none⟩ = some (.int .i64 1864136) ∧
    wx.cell? ⟨b, 0, none⟩ = some (.int .i64 1864134) ∧ wx.cell? ⟨b, 1, none⟩ = some (.int .i64 1864136) ∧ Below wc.heap.size wc wx
end Go.Proofs.Ytedfciddfpcifaa.Ivf

/- FresnelConserves returns true for every surface, and leaves memory that was there as it was: the plain facts and the walk. -/
namespace Go.Proofs.Ytedfciddfpcifaa.Ivf
open Go.Proofs.Ytedfciddfpcifaa.Iv
open Go.RowKit

theorem cutI_mono {a b : Int} (h : a ≤ b) : cutI a ≤ cutI b := by unfold cutI; omega
theorem cutI_lo (a : Int) : 0 ≤ cutI a := by unfold cutI; omega
theorem cutI_hi (a : Int) : cutI a ≤ 16777216 := by unfold cutI; omega
theorem mulR_ord (a b c d : Int) : (mulR a b c d).lo ≤ (mulR a b c d).hi := by
  unfold mulR
  split
  · unfold withinR
    split
    · exact Int.le_refl _
    · exact fl_le_ce (min4_le_max4 _ _ _ _)
  · exact Int.le_refl _
theorem bind_inv {r : R} {f : Int → Int → R} (h : (bind r f).e = 0) : r.e = 0 ∧ bind r f = f r.lo r.hi := by
  by_cases h0 : r.e = 0
  · exact ⟨h0, bind_ok h0⟩
  · rw [bind_err h0] at h; exact absurd h h0
/-- what Reflectance is where it is no error -/
theorem refl_inv {s : Sf} (h : (reflR s).e = 0) : ∃ P Q T U, (perpR s) = P ∧ (parR s) = Q ∧ addR P.lo P.hi Q.lo Q.hi = T ∧ mulR T.lo T.hi 8388608 8388608 = U ∧ P.e = 0 ∧ Q.e = 0 ∧ T.e = 0 ∧ U.e = 0 ∧ reflR s = ⟨cutI U.lo, cutI U.hi, 0⟩ := by
  obtain ⟨h1, e1⟩ := bind_inv (show (bind (perpR s) _).e = 0 from h)
  have h := h
  rw [reflR, e1] at h
  obtain ⟨h2, e2⟩ := bind_inv h
  rw [e2] at h
  obtain ⟨h3, e3⟩ := bind_inv h
  rw [e3] at h
  obtain ⟨h4, e4⟩ := bind_inv h
  exact ⟨_, _, _, _, rfl, rfl, rfl, rfl, h1, h2, h3, h4, by rw [reflR, e1, e2, e3, e4]⟩
/-- what Reflectance gives -/
theorem refl_of (s : Sf) : (reflR s).e ≠ 0 ∨ (0 ≤ (reflR s).lo ∧ (reflR s).lo ≤ (reflR s).hi ∧ (reflR s).hi ≤ 16777216 ∧ (reflR s).e = 0) := by
  by_cases h : (reflR s).e = 0
  · right
    obtain ⟨P, Q, T, U, _, _, _, hU, _, _, _, _, e⟩ := refl_inv h
    rw [e]
    refine ⟨cutI_lo _, cutI_mono ?_, cutI_hi _, rfl⟩
    rw [← hU]
    exact mulR_ord _ _ _ _
  · exact .inl h
theorem trans_of {s : Sf} (h0 : 0 ≤ (reflR s).lo) (h1 : (reflR s).lo ≤ (reflR s).hi) (h2 : (reflR s).hi ≤ 16777216) (h3 : (reflR s).e = 0) :
    (transR s).lo = 16777216 - (reflR s).hi ∧ (transR s).hi = 16777216 - (reflR s).lo ∧ (transR s).e = 0 := by
  rw [transR, bind_ok h3, subR, if_pos ⟨by decide, vB_iff.2 ⟨by omega, h1, by omega⟩⟩, within_yes (by omega) (by omega)]
  exact ⟨rfl, rfl, rfl⟩
theorem trans_err {s : Sf} (h : (reflR s).e ≠ 0) : (transR s).e = (reflR s).e := by rw [transR, bind_err h]

end Go.Proofs.Ytedfciddfpcifaa.Ivf
