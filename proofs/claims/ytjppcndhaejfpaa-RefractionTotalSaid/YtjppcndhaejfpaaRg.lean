/- A region that draws its order, by sets of what is done: one proof for each operation, whatever the order. Boxes that are read, and boxes of one's own. -/
import Derived.Deep.RegionHeld3
import Derived.Below
import Derived.WalkKit
import Derived.WalkSpells
import Derived.WalkLawsBesides
import Derived.WalkSmall
import Derived.Tactics2
namespace Go.Proofs.Ytjppcndhaejfpaa.Iv
open Go.RowKit

section
variable {P : Program} {ops : Array Oper} {Q : Exit → Act → World → Prop} {md : Region.Mode}
theorem count_set {L : Array Bool} {i : Nat} (h : L.getD i true = false) : (L.setIfInBounds i true).toList.count false + 1 = L.toList.count false := by
  have hlt : i < L.size := by
    rcases Nat.lt_or_ge i L.size with h' | h'
    · exact h'
    · simp [Array.getD, Nat.not_lt.2 h'] at h
  have hv : L[i] = false := by simpa [Array.getD, hlt] using h
  obtain ⟨l⟩ := L
  simp at hlt hv ⊢
  rw [List.count_set (by simpa using hlt)]
  simp [hv]
  have : 0 < l.count false := List.count_pos_iff.2 (hv ▸ List.getElem_mem hlt)
  omega
theorem wpAny_sets (I : Array Bool → Act → World → Prop)
    (hs : ∀ L a w, I L a w → ∀ i ∈ Region.ready md ops L, wpOp P ops Q i (I (L.setIfInBounds i true)) a w)
    (hd : ∀ L a w, I L a w → Region.ready md ops L = [] → Q .normal a w) :
    ∀ fuel L a w, L.toList.count false ≤ fuel → I L a w → wpAny P md ops Q fuel L a w := by
  intro fuel
  induction fuel with
  | zero =>
    intro L a w hL hI
    have : Region.ready md ops L = [] := by
      rw [List.eq_nil_iff_forall_not_mem]
      intro j hj
      have := count_set (mem_ready.1 hj).1
      omega
    exact ⟨this, hd L a w hI this⟩
  | succ fuel ih =>
    intro L a w hL hI
    refine ⟨hd L a w hI, fun i hi => wpOp_mono (fun a' w' h => ih _ a' w' ?_ h) (hs L a w hI i hi)⟩
    have := count_set (mem_ready.1 hi).1
    omega
/-- A region that draws, by sets of what is done. -/
theorem region_sets {id : Nat} {a : Act} {w : World} (I : Act → Array Bool → Act → World → Prop) (hm : P.follows .mixedOrders = true)
    (h0 : I a (Array.replicate ops.size false) a w.drew)
    (hs : ∀ L a' w', I a L a' w' → ∀ i ∈ Region.ready .any ops L, wpOp P ops Q i (I a (L.setIfInBounds i true)) a' w')
    (hd : ∀ L a' w', I a L a' w' → Region.ready .any ops L = [] → Q .normal a' w') : (Code.region id ops true).wp P Q a w :=
  wp_region_any hm (wpAny_sets (I a) hs hd ops.size _ a _ (Nat.le_trans List.count_le_length (by simp)) h0)
theorem ready_op {i : Nat} {L : Array Bool} {o : Oper} (ho : ops[i]? = some o) (h : i ∈ Region.ready md ops L) : L.getD i true = false ∧ ∀ e ∈ o.after, Region.binds md e = true → L.getD e.on false = true := by
  obtain ⟨h1, o', h2, h3⟩ := mem_ready.1 h
  rw [ho] at h2; cases h2
  exact ⟨h1, h3⟩
theorem not_ready {i : Nat} {L : Array Bool} {o : Oper} (ho : ops[i]? = some o) (hn : Region.ready md ops L = []) (h : ∀ e ∈ o.after, Region.binds md e = true → L.getD e.on false = true) : L.getD i true = true := by
  cases hc : L.getD i true with
  | true => rfl
  | false => have : i ∈ Region.ready md ops L := mem_ready.2 ⟨hc, o, ho, h⟩; rw [hn] at this; cases this
theorem ready_lt {i : Nat} {L : Array Bool} (h : i ∈ Region.ready md ops L) : i < ops.size := by
  obtain ⟨h1, o', h2, h3⟩ := mem_ready.1 h
  exact (Array.getElem?_eq_some_iff.1 h2).1
end

theorem wpOp_shut {P : Program} {ops : Array Oper} {Q : Exit → Act → World → Prop} {i : Nat} {o : Oper} {K : Act → World → Prop} {a : Act} {w : World} (ho : ops[i]? = some o)
    (h : ∀ K' : Act → World → Prop, Shut (∀ a w, K a w → K' a w) → if Region.wanted o (yielded ops a.tmps) = true then Oper.wp P o a w K' Q else K' (a.put o.dst undef) w) : wpOp P ops Q i K a w :=
  wpOp_step ho h
/-- A block of one's own: it reads so, and may be written. -/
structure Bx (W : World) (b : Nat) (cs : List Value) : Prop where
  lt : b < W.heap.size
  c : ∀ j v, cs[j]? = some v → W.cell? ⟨b, j, none⟩ = some v
  f : ∀ j v, cs[j]? = some v → W.frozen? ⟨b, j, none⟩ = false
theorem Bx.kept {W W' : World} {b : Nat} {cs : List Value} (h : Bx W b cs) (hb : Below W.heap.size W W') : Bx W' b cs :=
  ⟨Nat.lt_of_lt_of_le h.lt hb.size, fun j v hv => (hb.cell (p := ⟨b, j, none⟩) h.lt).trans (h.c j v hv), fun j v hv => (hb.frozen (p := ⟨b, j, none⟩) h.lt).trans (h.f j v hv)⟩
theorem Bx.alc {W : World} {b : Nat} {cs : List Value} (h : Bx W b cs) (o : Obj) : Bx (W.alloc o) b cs := h.kept ((Below.refl _ _).alloc (Nat.le_refl _) o)
theorem Bx.drew {W : World} {b : Nat} {cs : List Value} (h : Bx W b cs) : Bx W.drew b cs := h.kept (Below.refl _ _).drew
theorem Bx.set {W : World} {b c i : Nat} {u : Value} {cs : List Value} (h : Bx W b cs) (ne : ¬ (b = c)) : Bx (W.setCell ⟨c, i, none⟩ u) b cs :=
  ⟨by simpa using h.lt, fun j v hv => by have q := h.c j v hv; simp [go_sem, q], fun j v hv => by have q := h.f j v hv; simp [go_sem, q]⟩
theorem Bx.new {W : World} {b : Nat} {cs : List Value} {t : TypeId} (hb : b = W.heap.size) : Bx (W.alloc (.cells cs.toArray t)) b cs := by
  subst hb
  refine ⟨by simp, fun j v hv => ?_, fun j v hv => ?_⟩
  · rw [World.cell?_alloc_new]
    simpa only [List.getElem?_toArray] using hv
  · simp [go_sem]
/-- A store into a cell. -/
theorem Bx.put {W : World} {b i : Nat} {u : Value} {cs : List Value} (h : Bx W b cs) : Bx (W.setCell ⟨b, i, none⟩ u) b (cs.set i u) := by
  refine ⟨by simpa using h.lt, fun j v hv => ?_, fun j v hv => ?_⟩
  · rw [List.getElem?_set] at hv
    by_cases hij : i = j
    · subst hij
      rw [if_pos rfl] at hv
      split at hv
      · rename_i hl
        cases hv
        have := h.c i _ (List.getElem?_eq_getElem hl)
        simp [go_sem, this]
      · cases hv
    · rw [if_neg hij] at hv
      have := h.c j v hv
      simp [go_sem, this]
  · have hl : j < (cs.set i u).length := (List.getElem?_eq_some_iff.1 hv).1
    rw [List.length_set] at hl
    have := h.f j _ (List.getElem?_eq_getElem hl)
    simp [go_sem, this]
theorem Bx.ne {W : World} {b : Nat} {cs : List Value} (h : Bx W b cs) : ¬ (b = W.heap.size) := Nat.ne_of_lt h.lt
end Go.Proofs.Ytjppcndhaejfpaa.Iv
