/- TraceLight returns true for every input, and the arguments read afterwards as they read before; no conditions. -/
import Derived.Test.YtedfciddfpcifaaM18
import Derived.Test.YtedfciddfpcifaaM24
import Derived.Deep.AppendLies
import Derived.Maps.AppendAt
import Derived.LoopNIn
import Derived.Test.YtedfciddfpcifaaM28
import Derived.Test.YtedfciddfpcifaaM22
import Derived.SizedLaws
import Derived.Test.YtedfciddfpcifaaRows
import Derived.ProofKit
import Derived.OpenShut
import Derived.ShutString
import Derived.ChangeOld
import Derived.Below
import Derived.Deep.Slices

/- Contracts of the laws' helpers: Theirs, Few. -/
namespace Go.Proofs.Ytedfciddfpcifaa.Iv
open Go.RowKit

attribute [local go_sem] Oper.semAt_some

theorem info_rdir : (Try.prog.info? 32).map (fun i => (i.zero, i.size, i.bytes)) = some (some (.agg #[.int .i64 0, .int .i64 0, .int .i64 0, .int .i64 0, .int .i64 0, .int .i64 0]), 6, 48) := by kernel_rfl
/-- what holds between two rounds of Theirs -/
structure TI (w : World) (na da : Option Addr) (m nc mm dc : Nat) (i0 i1 : Int) (L : List D) (uo u : Value) (k : Nat) (W : World) : Prop where
  below : Below w.heap.size w W
  sz : w.heap.size + 1 + 1 + 1 ≤ W.heap.size
  bd : Rd W w.heap.size [.slice na m nc, .slice da mm dc, .int .i64 i0, .int .i64 i1]
  rs : Bx W (w.heap.size + 1) [.slice none 0 0, .slice none 0 0, .int .i64 0, .int .i64 0]
  o : Bx W (w.heap.size + 1 + 1) [uo, .slice da mm dc, .int .i64 i0, .int .i64 i1]
  row : W.ownsRow (w.heap.size + 1 + 1 + 1) 32 6 u k ((L.take k).flatMap dcs)
theorem TI.kept {w : World} {na da : Option Addr} {m nc mm dc : Nat} {i0 i1 : Int} {L : List D} {uo u : Value} {k : Nat} {W W' : World} (h : TI w na da m nc mm dc i0 i1 L uo u k W) (hb : Below W.heap.size W W') : TI w na da m nc mm dc i0 i1 L uo u k W' := by
  refine ⟨h.below.trans (hb.mono h.below.size), Nat.le_trans h.sz hb.size, h.bd.kept hb, h.rs.kept hb, h.o.kept hb, h.row.1, ?_⟩
  rcases h.row.2 with h3 | ⟨g, cap, cur, h3, h4, h5, h6⟩
  · exact .inl h3
  · exact .inr ⟨g, cap, cur, h3, h4, (hb.block _ (Array.getElem?_eq_some_iff.1 h5).1).trans h5, h6⟩
theorem row_lt6 {W : World} {base size n : Nat} {e : TypeId} {u : Value} {xs : List Value} (h : W.ownsRow base e size u n xs) {b : Nat} (hb : b < base) : some b ≠ u.ownBlock := by
  rcases h.2 with ⟨rfl, _⟩ | ⟨g, cap, cur, rfl, hg, h2, _⟩
  · simp [Value.ownBlock]
  · intro e'
    have : b = g := by simpa [Value.ownBlock] using e'
    omega
theorem TI.app {w : World} {na da : Option Addr} {m nc mm dc : Nat} {i0 i1 : Int} {L : List D} {uo u u' : Value} {k : Nat} {x : D} {W W' : World} (h : TI w na da m nc mm dc i0 i1 L uo u k W) (hx : L[k]? = some x) (hown : W'.ownsRow (w.heap.size + 1 + 1 + 1) 32 6 u' (k + 1) ((L.take k).flatMap dcs ++ dcs x)) (hg : W.grownBy W' u.ownBlock) : TI w na da m nc mm dc i0 i1 L uo u' (k + 1) W' := by
  have ne : ∀ b, b < w.heap.size + 1 + 1 + 1 → some b ≠ u.ownBlock := fun b hb => row_lt6 h.row hb
  have ne2 : ∀ q, u.ownBlock = some q → w.heap.size + 1 + 1 + 1 ≤ q := fun q hq => by
    rcases Nat.lt_or_ge q (w.heap.size + 1 + 1 + 1) with k | k
    · exact absurd hq.symm (ne q k)
    · exact k
  refine ⟨h.below.grown hg h.below.size (fun q hq => by have := ne2 q hq; omega), Nat.le_trans h.sz hg.size, h.bd.grown hg (ne _ (by omega)), h.rs.grown hg (ne _ (by omega)), h.o.grown hg (ne _ (by omega)), ?_⟩
  rw [List.take_add_one, hx, List.flatMap_append]
  simpa using hown
theorem grown_set31 (W : World) (b i : Nat) (v : Value) : W.grownBy (W.setCell ⟨b, i, none⟩ v) (some b) :=
  ⟨rfl, rfl, rfl, (KeepsWalks.setCell W _ v).size, fun k _ hk => Below.heap_setCell _ _ _ k (fun e => hk (by rw [e]))⟩
theorem TI.put {w : World} {na da : Option Addr} {m nc mm dc : Nat} {i0 i1 : Int} {L : List D} {uo u : Value} {k : Nat} {W : World} (h : TI w na da m nc mm dc i0 i1 L uo u k W) : TI w na da m nc mm dc i0 i1 L u u k (W.setCell ⟨w.heap.size + 1 + 1, 0, none⟩ u) := by
  have hg := grown_set31 W (w.heap.size + 1 + 1) 0 u
  exact ⟨h.below.setCell (by simp; omega) _, Nat.le_trans h.sz hg.size, h.bd.set (by omega), h.rs.set (by omega), h.o.put, h.row.kept hg (.inr (row_lt6 h.row (by omega)).symm)⟩
theorem row_form6 {W : World} {base size n : Nat} {e : TypeId} {u : Value} {xs : List Value} (h : W.ownsRow base e size u n xs) : ∃ ao cap, u = .slice ao n cap := by
  rcases h.2 with ⟨rfl, rfl⟩ | ⟨g, cap, cur, rfl, _⟩
  · exact ⟨_, _, rfl⟩
  · exact ⟨_, _, rfl⟩
theorem row_set6 {W : World} {b i base size n : Nat} {e : TypeId} {u x : Value} {xs : List Value} (h : W.ownsRow base e size u n xs) (hb : b < base) : (W.setCell ⟨b, i, none⟩ x).ownsRow base e size u n xs :=
  h.kept (grown_set31 W b i x) (.inr (row_lt6 h hb).symm)
theorem row_down6 {W : World} {base base' size n : Nat} {e : TypeId} {u : Value} {xs : List Value} (h : W.ownsRow base e size u n xs) (hb : base' ≤ base) : W.ownsRow base' e size u n xs := by
  refine ⟨h.1, ?_⟩
  rcases h.2 with h3 | ⟨g, cap, cur, h3, h4, h5⟩
  · exact .inl h3
  · exact .inr ⟨g, cap, cur, h3, Nat.le_trans hb h4, h5⟩
theorem TI.drew {w : World} {na da : Option Addr} {m nc mm dc : Nat} {i0 i1 : Int} {L : List D} {uo u : Value} {k : Nat} {W : World} (h : TI w na da m nc mm dc i0 i1 L uo u k W) : TI w na da m nc mm dc i0 i1 L uo u k W.drew := h.kept (Below.refl _ _).drew
theorem add31 (g n : Nat) : (⟨g, 0, none⟩ : Addr).add n = ⟨g, n, none⟩ := by unfold Addr.add; split <;> simp_all
structure Ap (w : World) (na da : Option Addr) (m nc mm dc k nb no : Nat) (i0 i1 : Int) (L : List D) (u : Value) (s : D) (W : World) (l0 l1 l2 l3 l4 l5 l6 l7 l8 l9 l10 : Bool) (v0 v1 v2 v3 v4 v5 v6 v7 v8 v9 : Value) (b7 g7 cap7 : Nat) : Prop where
  a : l8 = false → TI w (some ⟨nb, no, none⟩) da m nc mm dc i0 i1 L (u) (u) (k) W
  b : l8 = true → l10 = false → TI w (some ⟨nb, no, none⟩) da m nc mm dc i0 i1 L (u) (.slice (some ⟨g7, 0, none⟩) (k + 1) cap7) (k + 1) W
  c : l10 = true → TI w (some ⟨nb, no, none⟩) da m nc mm dc i0 i1 L (.slice (some ⟨g7, 0, none⟩) (k + 1) cap7) (.slice (some ⟨g7, 0, none⟩) (k + 1) cap7) (k + 1) W
  r : l8 = false → Rs W nb (no + k * 6) (dcs s)
  z : l7 = true → l8 = false → Bx W b7 (dcs s)
  o1_0 : l1 = true → l0 = true
  o3_2 : l3 = true → l2 = true
  o5_3 : l5 = true → l3 = true
  o5_4 : l5 = true → l4 = true
  o6_5 : l6 = true → l5 = true
  o7_6 : l7 = true → l6 = true
  o8_1 : l8 = true → l1 = true
  o8_7 : l8 = true → l7 = true
  o9_0 : l9 = true → l0 = true
  o9_1 : l9 = true → l1 = true
  o9_2 : l9 = true → l2 = true
  o9_3 : l9 = true → l3 = true
  o9_4 : l9 = true → l4 = true
  o9_5 : l9 = true → l5 = true
  o9_6 : l9 = true → l6 = true
  o9_7 : l9 = true → l7 = true
  o9_8 : l9 = true → l8 = true
  o10_9 : l10 = true → l9 = true
  o10_8 : l10 = true → l8 = true
  o10_0 : l10 = true → l0 = true
  o10_1 : l10 = true → l1 = true
  o10_2 : l10 = true → l2 = true
  o10_3 : l10 = true → l3 = true
  o10_4 : l10 = true → l4 = true
  o10_5 : l10 = true → l5 = true
  o10_6 : l10 = true → l6 = true
  o10_7 : l10 = true → l7 = true
  ev0 : l0 = true → v0 = .pointer (some ⟨w.heap.size + 1 + 1, 0, none⟩)
  ev1 : l1 = true → v1 = u
  ev2 : l2 = true → v2 = .pointer (some ⟨w.heap.size, 0, none⟩)
  ev3 : l3 = true → v3 = .slice (some ⟨nb, no, none⟩) m nc
  ev4 : l4 = true → v4 = .int .i64 k
  ev5 : l5 = true → v5 = .pointer (some ⟨nb, no + k * 6, none⟩)
  ev6 : l6 = true → v6 = dv s
  ev7 : l7 = true → v7 = .slice (some ⟨b7, 0, none⟩) 1 1
  ev8 : l8 = true → v8 = .slice (some ⟨g7, 0, none⟩) (k + 1) cap7
  ev9 : l9 = true → v9 = .pointer (some ⟨w.heap.size + 1 + 1, 0, none⟩)
theorem Ap.kept {w : World} {na da : Option Addr} {m nc mm dc k nb no : Nat} {i0 i1 : Int} {L : List D} {u : Value} {s : D} {W : World} {l0 l1 l2 l3 l4 l5 l6 l7 l8 l9 l10 : Bool} {v0 v1 v2 v3 v4 v5 v6 v7 v8 v9 : Value} {b7 g7 cap7 : Nat} {W' : World} (h : Ap w na da m nc mm dc k nb no i0 i1 L u s W l0 l1 l2 l3 l4 l5 l6 l7 l8 l9 l10 v0 v1 v2 v3 v4 v5 v6 v7 v8 v9 b7 g7 cap7) (hb : Below W.heap.size W W') : Ap w na da m nc mm dc k nb no i0 i1 L u s W' l0 l1 l2 l3 l4 l5 l6 l7 l8 l9 l10 v0 v1 v2 v3 v4 v5 v6 v7 v8 v9 b7 g7 cap7 :=
  { h with a := fun p => (h.a p).kept hb, b := fun p q => (h.b p q).kept hb, c := fun p => (h.c p).kept hb, r := fun p => (h.r p).kept hb, z := fun p q => (h.z p q).kept hb }
def Ap.I (w : World) (na da : Option Addr) (m nc mm dc k nb no : Nat) (i0 i1 : Int) (L : List D) (u : Value) (s : D) : Act → Array Bool → Act → World → Prop := fun aO LX aX W => ∃ (l0 l1 l2 l3 l4 l5 l6 l7 l8 l9 l10 : Bool) (v0 v1 v2 v3 v4 v5 v6 v7 v8 v9 : Value) (b7 g7 cap7 : Nat), LX = #[l0, l1, l2, l3, l4, l5, l6, l7, l8, l9, l10] ∧ aX = ((((((((((aO.put (some 17) v0).put (some 18) v1).put (some 19) v2).put (some 20) v3).put (some 21) v4).put (some 22) v5).put (some 23) v6).put (some 24) v7).put (some 25) v8).put (some 26) v9) ∧ Ap w na da m nc mm dc k nb no i0 i1 L u s W l0 l1 l2 l3 l4 l5 l6 l7 l8 l9 l10 v0 v1 v2 v3 v4 v5 v6 v7 v8 v9 b7 g7 cap7
set_option maxRecDepth 100000 in
set_option maxHeartbeats 16000000 in
theorem theirs31_any {na da : Option Addr} {nc mm dc : Nat} {i0 i1 : Int} {L : List D} (w : World) (hn : NAt w na L) (hl : L.length * 48 ≤ 140737488351232) :
    Calls Try.prog 13 #[.agg #[.slice na L.length nc, .slice da mm dc, .int .i64 i0, .int .i64 i1]] w fun e w' =>
      (∃ u, e = .returned (.agg #[u, .slice da mm dc, .int .i64 i0, .int .i64 i1]) ∧ w'.ownsRow w.heap.size 32 6 u L.length (L.flatMap dcs)) ∧ Below w.heap.size w w' := by
  obtain ⟨j0, hj, hz0, hz1, hz2⟩ := info_parts info_rdir
  have HN := Lib.hid hn
  clear hn
  go_enter Try.func13, Try.ntmps13
  go_wp2_with fail
  go_loopw [4] (fun i wr => ∃ (k : Nat) (u : Value), k ≤ L.length ∧ i = .int .i64 k ∧ TI w na da L.length nc mm dc i0 i1 L u u k wr) (fun i _ => L.length - (intOf i).toNat)
  case atStart =>
    refine ⟨0, .slice none 0 0, Nat.zero_le _, rfl, ?_⟩
    exact ⟨((((Below.refl _ _).alloc (Nat.le_refl _) _).alloc (by simp) _).alloc (by simp; omega) _), by simp, ((Rd.new rfl).alc _).alc _, (Bx.new (by simp)).alc _, Bx.new (by simp), World.ownsRow_nil _ _ _ _⟩
  case round =>
    obtain ⟨k, u, hk, rfl, hI⟩ := hrel
    obtain ⟨ao, cap, rfl⟩ := row_form6 hI.row
    have x0 := hI.bd.c
    have x1 := hI.bd.lt
    have i15 : IntKind.i64.wrap ((k : Int) + 1) = (k : Int) + 1 := IntWalk.i64_in _ (by omega)
    rcases Nat.lt_or_ge k L.length with hlt | hge
    · obtain ⟨nb, no, rfl, hnb, hNc⟩ := (HN.out.kept hI.below) (by omega)
      have hx := List.getElem?_eq_getElem hlt
      generalize L[k] = s at hx
      have HX := Lib.hid hx
      have RS : Rs wr nb (no + k * 6) (dcs s) := Rs.mk hnb (hNc k s hx)
      have hlt' : (k : Int) < (L.length : Int) := by omega
      have hge' : (0 : Int) ≤ (k : Int) := by omega
      have h63 : k + 1 ≤ 2 ^ 63 - 1 := by omega
      have hby : (k + 1) * 48 ≤ 140737488355328 := by omega
      clear hx hNc
      go_wp2_with fail
      go_upto_region 5 with fail
      clear x0 x1
      refine region_sets (Ap.I w (some ⟨nb, no, none⟩) da L.length nc mm dc k nb no i0 i1 L (.slice ao k cap) s) (by kernel_rfl) ?_ ?_ ?_
      · refine ⟨false, false, false, false, false, false, false, false, false, false, false, u17, u18, u19, u20, u21, u22, u23, u24, u25, u26, 0, 0, 0, rfl, by simp only [Act.put, List.setIfInBounds_toArray, List.set_cons_zero, List.set_cons_succ], ?_⟩
        constructor
        · exact fun _ => hI.drew
        · intro h; cases h
        · intro h; cases h
        · exact fun _ => RS.drew
        all_goals (intro h; cases h)
      · intro L9 aa ww hI i hi
        obtain ⟨l0, l1, l2, l3, l4, l5, l6, l7, l8, l9, l10, v0, v1, v2, v3, v4, v5, v6, v7, v8, v9, b7, g7, cap7, rfl, rfl, h⟩ := hI
        have hlt := ready_lt hi
        match i, hi, hlt with
        | 0, hi, _ =>
          have l' : l0 = false := (ready_op (o := _) rfl hi).1
          subst l'
          clear hi hlt
          have H := Lib.hid h
          clear h
          refine wpOp_shut rfl (fun K hK => ?_)
          try simp only [Act.put, List.setIfInBounds_toArray, List.set_cons_zero, List.set_cons_succ]
          go_simp
          refine hK.out _ _ ?_
          unfold Ap.I
          refine ⟨true, l1, l2, l3, l4, l5, l6, l7, l8, l9, l10, (.pointer (some ⟨w.heap.size + 1 + 1, 0, none⟩)), v1, v2, v3, v4, v5, v6, v7, v8, v9, b7, g7, cap7, rfl, ?_, ?_⟩
          · simp only [Act.put, List.setIfInBounds_toArray, List.set_cons_zero, List.set_cons_succ]
          · exact { H.out with ev0 := fun _ => rfl, o1_0 := fun _ => rfl, o9_0 := fun _ => rfl, o10_0 := fun _ => rfl }
        | 1, hi, _ =>
          have l' : l1 = false := (ready_op (o := _) rfl hi).1
          subst l'
          have k0 : l0 = true := (ready_op (o := _) rfl hi).2 { on := 0, ground := .data } (by simp) rfl
          clear hi hlt
          subst k0
          obtain rfl := h.ev0 rfl
          have kA : l8 = false := by
            rcases Bool.eq_false_or_eq_true l8 with q | q
            · exact nomatch (h.o8_1 q)
            · exact q
          subst kA
          have c := (h.a rfl).o.c
          have H := Lib.hid h
          clear h
          refine wpOp_shut rfl (fun K hK => ?_)
          try simp only [Act.put, List.setIfInBounds_toArray, List.set_cons_zero, List.set_cons_succ]
          go_simp
          refine hK.out _ _ ?_
          unfold Ap.I
          refine ⟨true, true, l2, l3, l4, l5, l6, l7, false, l9, l10, (.pointer (some ⟨w.heap.size + 1 + 1, 0, none⟩)), (.slice ao k cap), v2, v3, v4, v5, v6, v7, v8, v9, b7, g7, cap7, rfl, ?_, ?_⟩
          · simp only [Act.put, List.setIfInBounds_toArray, List.set_cons_zero, List.set_cons_succ]
          · exact { H.out with ev1 := fun _ => rfl, o1_0 := fun _ => rfl, o8_1 := fun _ => rfl, o9_1 := fun _ => rfl, o10_1 := fun _ => rfl }
        | 2, hi, _ =>
          have l' : l2 = false := (ready_op (o := _) rfl hi).1
          subst l'
          clear hi hlt
          have H := Lib.hid h
          clear h
          refine wpOp_shut rfl (fun K hK => ?_)
          try simp only [Act.put, List.setIfInBounds_toArray, List.set_cons_zero, List.set_cons_succ]
          go_simp
          refine hK.out _ _ ?_
          unfold Ap.I
          refine ⟨l0, l1, true, l3, l4, l5, l6, l7, l8, l9, l10, v0, v1, (.pointer (some ⟨w.heap.size, 0, none⟩)), v3, v4, v5, v6, v7, v8, v9, b7, g7, cap7, rfl, ?_, ?_⟩
          · simp only [Act.put, List.setIfInBounds_toArray, List.set_cons_zero, List.set_cons_succ]
          · exact { H.out with ev2 := fun _ => rfl, o3_2 := fun _ => rfl, o9_2 := fun _ => rfl, o10_2 := fun _ => rfl }
        | 3, hi, _ =>
          have l' : l3 = false := (ready_op (o := _) rfl hi).1
          subst l'
          have k2 : l2 = true := (ready_op (o := _) rfl hi).2 { on := 2, ground := .data } (by simp) rfl
          clear hi hlt
          subst k2
          obtain rfl := h.ev2 rfl
          have kA : l8 = false := by
            rcases Bool.eq_false_or_eq_true l8 with q | q
            · exact nomatch (h.o5_3 (h.o6_5 (h.o7_6 (h.o8_7 q))))
            · exact q
          subst kA
          have c := (h.a rfl).bd.c
          have H := Lib.hid h
          clear h
          refine wpOp_shut rfl (fun K hK => ?_)
          try simp only [Act.put, List.setIfInBounds_toArray, List.set_cons_zero, List.set_cons_succ]
          go_simp
          refine hK.out _ _ ?_
          unfold Ap.I
          refine ⟨l0, l1, true, true, l4, l5, l6, l7, false, l9, l10, v0, v1, (.pointer (some ⟨w.heap.size, 0, none⟩)), (.slice (some ⟨nb, no, none⟩) L.length nc), v4, v5, v6, v7, v8, v9, b7, g7, cap7, rfl, ?_, ?_⟩
          · simp only [Act.put, List.setIfInBounds_toArray, List.set_cons_zero, List.set_cons_succ]
          · exact { H.out with ev3 := fun _ => rfl, o3_2 := fun _ => rfl, o5_3 := fun _ => rfl, o9_3 := fun _ => rfl, o10_3 := fun _ => rfl }
        | 4, hi, _ =>
          have l' : l4 = false := (ready_op (o := _) rfl hi).1
          subst l'
          clear hi hlt
          have H := Lib.hid h
          clear h
          refine wpOp_shut rfl (fun K hK => ?_)
          try simp only [Act.put, List.setIfInBounds_toArray, List.set_cons_zero, List.set_cons_succ]
          go_simp
          refine hK.out _ _ ?_
          unfold Ap.I
          refine ⟨l0, l1, l2, l3, true, l5, l6, l7, l8, l9, l10, v0, v1, v2, v3, (.int .i64 k), v5, v6, v7, v8, v9, b7, g7, cap7, rfl, ?_, ?_⟩
          · simp only [Act.put, List.setIfInBounds_toArray, List.set_cons_zero, List.set_cons_succ]
          · exact { H.out with ev4 := fun _ => rfl, o5_4 := fun _ => rfl, o9_4 := fun _ => rfl, o10_4 := fun _ => rfl }
        | 5, hi, _ =>
          have l' : l5 = false := (ready_op (o := _) rfl hi).1
          subst l'
          have k3 : l3 = true := (ready_op (o := _) rfl hi).2 { on := 3, ground := .data } (by simp) rfl
          have k4 : l4 = true := (ready_op (o := _) rfl hi).2 { on := 4, ground := .data } (by simp) rfl
          clear hi hlt
          subst k3
          subst k4
          obtain rfl := h.ev3 rfl
          obtain rfl := h.ev4 rfl
          have H := Lib.hid h
          clear h
          refine wpOp_shut rfl (fun K hK => ?_)
          try simp only [Act.put, List.setIfInBounds_toArray, List.set_cons_zero, List.set_cons_succ]
          go_simp
          refine hK.out _ _ ?_
          unfold Ap.I
          refine ⟨l0, l1, l2, true, true, true, l6, l7, l8, l9, l10, v0, v1, v2, (.slice (some ⟨nb, no, none⟩) L.length nc), (.int .i64 k), (.pointer (some ⟨nb, no + k * 6, none⟩)), v6, v7, v8, v9, b7, g7, cap7, rfl, ?_, ?_⟩
          · simp only [Act.put, List.setIfInBounds_toArray, List.set_cons_zero, List.set_cons_succ]
          · exact { H.out with ev5 := fun _ => rfl, o5_3 := fun _ => rfl, o5_4 := fun _ => rfl, o6_5 := fun _ => rfl, o9_5 := fun _ => rfl, o10_5 := fun _ => rfl }
        | 6, hi, _ =>
          have l' : l6 = false := (ready_op (o := _) rfl hi).1
          subst l'
          have k5 : l5 = true := (ready_op (o := _) rfl hi).2 { on := 5, ground := .data } (by simp) rfl
          clear hi hlt
          subst k5
          obtain rfl := h.ev5 rfl
          have kA : l8 = false := by
            rcases Bool.eq_false_or_eq_true l8 with q | q
            · exact nomatch (h.o7_6 (h.o8_7 q))
            · exact q
          subst kA
          have c0 := (h.r rfl).c 0 (by simp)
          have c1 := (h.r rfl).c 1 (by simp)
          have c2 := (h.r rfl).c 2 (by simp)
          have c3 := (h.r rfl).c 3 (by simp)
          have c4 := (h.r rfl).c 4 (by simp)
          have c5 := (h.r rfl).c 5 (by simp)
          simp only [Nat.add_zero] at c0
          have H := Lib.hid h
          clear h
          refine wpOp_shut rfl (fun K hK => ?_)
          try simp only [Act.put, List.setIfInBounds_toArray, List.set_cons_zero, List.set_cons_succ]
          go_simp
          refine hK.out _ _ ?_
          unfold Ap.I
          refine ⟨l0, l1, l2, l3, l4, true, true, l7, false, l9, l10, v0, v1, v2, v3, v4, (.pointer (some ⟨nb, no + k * 6, none⟩)), (dv s), v7, v8, v9, b7, g7, cap7, rfl, ?_, ?_⟩
          · simp only [Act.put, List.setIfInBounds_toArray, List.set_cons_zero, List.set_cons_succ]
          · exact { H.out with ev6 := fun _ => rfl, o6_5 := fun _ => rfl, o7_6 := fun _ => rfl, o9_6 := fun _ => rfl, o10_6 := fun _ => rfl }
        | 7, hi, _ =>
          have l' : l7 = false := (ready_op (o := _) rfl hi).1
          subst l'
          have k6 : l6 = true := (ready_op (o := _) rfl hi).2 { on := 6, ground := .data } (by simp) rfl
          clear hi hlt
          subst k6
          obtain rfl := h.ev6 rfl
          have kA : l8 = false := by
            rcases Bool.eq_false_or_eq_true l8 with q | q
            · exact nomatch (h.o8_7 q)
            · exact q
          subst kA
          have H := Lib.hid h
          clear h
          refine wpOp_shut rfl (fun K hK => ?_)
          try simp only [Act.put, List.setIfInBounds_toArray, List.set_cons_zero, List.set_cons_succ]
          go_simp
          refine hK.out _ _ ?_
          unfold Ap.I
          refine ⟨l0, l1, l2, l3, l4, l5, true, true, false, l9, l10, v0, v1, v2, v3, v4, v5, (dv s), (.slice (some ⟨ww.heap.size, 0, none⟩) 1 1), v8, v9, ww.heap.size, g7, cap7, rfl, ?_, ?_⟩
          · simp only [Act.put, List.setIfInBounds_toArray, List.set_cons_zero, List.set_cons_succ]
          · have h2 := H.out.kept ((Below.refl _ _).alloc (Nat.le_refl _) (.cells (List.toArray (dcs s)) 32))
            exact { h2 with ev7 := fun _ => rfl, o7_6 := fun _ => rfl, o8_7 := fun _ => rfl, o9_7 := fun _ => rfl, o10_7 := fun _ => rfl, z := fun _ _ => Bx.new rfl }
        | 8, hi, _ =>
          have l' : l8 = false := (ready_op (o := _) rfl hi).1
          subst l'
          have k1 : l1 = true := (ready_op (o := _) rfl hi).2 { on := 1, ground := .data } (by simp) rfl
          have k7 : l7 = true := (ready_op (o := _) rfl hi).2 { on := 7, ground := .data } (by simp) rfl
          clear hi hlt
          subst k1
          subst k7
          obtain rfl := h.ev1 rfl
          obtain rfl := h.ev7 rfl
          have kS : l10 = false := by
            rcases Bool.eq_false_or_eq_true l10 with q | q
            · exact nomatch (h.o10_8 q)
            · exact q
          subst kS
          have ha := h.a rfl
          have hz := h.z rfl rfl
          have H := Lib.hid h
          clear h
          refine wpOp_shut rfl (fun K hK => ?_)
          try simp only [Act.put, List.setIfInBounds_toArray, List.set_cons_zero, List.set_cons_succ]
          simp only [List.getElem_toArray, List.getElem_cons_succ, List.getElem_cons_zero]
          rw [if_pos (by first | rfl | simp [Region.wanted])]
          refine wp_append_lies _ _ _ 43 rfl (w.heap.size + 1 + 1 + 1) 32 j0 (.agg #[.int .i64 0, .int .i64 0, .int .i64 0, .int .i64 0, .int .i64 0, .int .i64 0]) 6 48 Try.underlying43 hj hz0 hz1 hz2 rfl (by decide) _ _ _ rfl ha.row ⟨b7, 0, none⟩ 1 1 (dcs s) rfl rfl (fun j x hx => by rw [add31, hz.c]; exact hx) (by intro x hx; simp at hx; rcases hx with rfl | rfl | rfl | rfl | rfl | rfl <;> rfl) (by decide) (by unfold maxLen; exact h63) hby ha.sz _ rfl ?_
          intro g9 cap9 w9 hown hgrow _ _
          refine hK.out _ _ ?_
          unfold Ap.I
          refine ⟨l0, true, l2, l3, l4, l5, l6, true, true, l9, false, v0, (.slice ao k cap), v2, v3, v4, v5, v6, (.slice (some ⟨b7, 0, none⟩) 1 1), (.slice (some ⟨g9, 0, none⟩) (k + 1) cap9), v9, b7, g9, cap9, rfl, ?_, ?_⟩
          · simp only [Act.put, List.setIfInBounds_toArray, List.set_cons_zero, List.set_cons_succ]
          · exact { H.out with ev8 := fun _ => rfl, o8_1 := fun _ => rfl, o8_7 := fun _ => rfl, o9_8 := fun _ => rfl, o10_8 := fun _ => rfl, a := fun p => (nomatch p), z := fun _ p => (nomatch p), b := fun _ _ => (H.out.a rfl).app HX.out hown hgrow, c := fun p => (nomatch p), r := fun p => (nomatch p) }
        | 9, hi, _ =>
          have l' : l9 = false := (ready_op (o := _) rfl hi).1
          subst l'
          have k0 : l0 = true := (ready_op (o := _) rfl hi).2 { on := 0, ground := .phase } (by simp) rfl
          have k1 : l1 = true := (ready_op (o := _) rfl hi).2 { on := 1, ground := .phase } (by simp) rfl
          have k2 : l2 = true := (ready_op (o := _) rfl hi).2 { on := 2, ground := .phase } (by simp) rfl
          have k3 : l3 = true := (ready_op (o := _) rfl hi).2 { on := 3, ground := .phase } (by simp) rfl
          have k4 : l4 = true := (ready_op (o := _) rfl hi).2 { on := 4, ground := .phase } (by simp) rfl
          have k5 : l5 = true := (ready_op (o := _) rfl hi).2 { on := 5, ground := .phase } (by simp) rfl
          have k6 : l6 = true := (ready_op (o := _) rfl hi).2 { on := 6, ground := .phase } (by simp) rfl
          have k7 : l7 = true := (ready_op (o := _) rfl hi).2 { on := 7, ground := .phase } (by simp) rfl
          have k8 : l8 = true := (ready_op (o := _) rfl hi).2 { on := 8, ground := .phase } (by simp) rfl
          clear hi hlt
          subst k0
          subst k1
          subst k2
          subst k3
          subst k4
          subst k5
          subst k6
          subst k7
          subst k8
          obtain rfl := h.ev0 rfl
          obtain rfl := h.ev1 rfl
          obtain rfl := h.ev2 rfl
          obtain rfl := h.ev3 rfl
          obtain rfl := h.ev4 rfl
          obtain rfl := h.ev5 rfl
          obtain rfl := h.ev6 rfl
          obtain rfl := h.ev7 rfl
          obtain rfl := h.ev8 rfl
          have H := Lib.hid h
          clear h
          refine wpOp_shut rfl (fun K hK => ?_)
          try simp only [Act.put, List.setIfInBounds_toArray, List.set_cons_zero, List.set_cons_succ]
          go_simp
          refine hK.out _ _ ?_
          unfold Ap.I
          refine ⟨true, true, true, true, true, true, true, true, true, true, l10, (.pointer (some ⟨w.heap.size + 1 + 1, 0, none⟩)), (.slice ao k cap), (.pointer (some ⟨w.heap.size, 0, none⟩)), (.slice (some ⟨nb, no, none⟩) L.length nc), (.int .i64 k), (.pointer (some ⟨nb, no + k * 6, none⟩)), (dv s), (.slice (some ⟨b7, 0, none⟩) 1 1), (.slice (some ⟨g7, 0, none⟩) (k + 1) cap7), (.pointer (some ⟨w.heap.size + 1 + 1, 0, none⟩)), b7, g7, cap7, rfl, ?_, ?_⟩
          · simp only [Act.put, List.setIfInBounds_toArray, List.set_cons_zero, List.set_cons_succ]
          · exact { H.out with ev9 := fun _ => rfl, o9_0 := fun _ => rfl, o9_1 := fun _ => rfl, o9_2 := fun _ => rfl, o9_3 := fun _ => rfl, o9_4 := fun _ => rfl, o9_5 := fun _ => rfl, o9_6 := fun _ => rfl, o9_7 := fun _ => rfl, o9_8 := fun _ => rfl, o10_9 := fun _ => rfl }
        | 10, hi, _ =>
          have l' : l10 = false := (ready_op (o := _) rfl hi).1
          subst l'
          have k9 : l9 = true := (ready_op (o := _) rfl hi).2 { on := 9, ground := .data } (by simp) rfl
          have k8 : l8 = true := (ready_op (o := _) rfl hi).2 { on := 8, ground := .phase } (by simp) rfl
          have k0 : l0 = true := (ready_op (o := _) rfl hi).2 { on := 0, ground := .phase } (by simp) rfl
          have k1 : l1 = true := (ready_op (o := _) rfl hi).2 { on := 1, ground := .phase } (by simp) rfl
          have k2 : l2 = true := (ready_op (o := _) rfl hi).2 { on := 2, ground := .phase } (by simp) rfl
          have k3 : l3 = true := (ready_op (o := _) rfl hi).2 { on := 3, ground := .phase } (by simp) rfl
          have k4 : l4 = true := (ready_op (o := _) rfl hi).2 { on := 4, ground := .phase } (by simp) rfl
          have k5 : l5 = true := (ready_op (o := _) rfl hi).2 { on := 5, ground := .phase } (by simp) rfl
          have k6 : l6 = true := (ready_op (o := _) rfl hi).2 { on := 6, ground := .phase } (by simp) rfl
          have k7 : l7 = true := (ready_op (o := _) rfl hi).2 { on := 7, ground := .phase } (by simp) rfl
          clear hi hlt
          subst k9
          subst k8
          subst k0
          subst k1
          subst k2
          subst k3
          subst k4
          subst k5
          subst k6
          subst k7
          obtain rfl := h.ev9 rfl
          obtain rfl := h.ev8 rfl
          obtain rfl := h.ev0 rfl
          obtain rfl := h.ev1 rfl
          obtain rfl := h.ev2 rfl
          obtain rfl := h.ev3 rfl
          obtain rfl := h.ev4 rfl
          obtain rfl := h.ev5 rfl
          obtain rfl := h.ev6 rfl
          obtain rfl := h.ev7 rfl
          have c := (h.b rfl rfl).o.c
          have f := (h.b rfl rfl).o.f
          have H := Lib.hid h
          clear h
          refine wpOp_shut rfl (fun K hK => ?_)
          try simp only [Act.put, List.setIfInBounds_toArray, List.set_cons_zero, List.set_cons_succ]
          go_simp
          refine hK.out _ _ ?_
          unfold Ap.I
          refine ⟨true, true, true, true, true, true, true, true, true, true, true, (.pointer (some ⟨w.heap.size + 1 + 1, 0, none⟩)), (.slice ao k cap), (.pointer (some ⟨w.heap.size, 0, none⟩)), (.slice (some ⟨nb, no, none⟩) L.length nc), (.int .i64 k), (.pointer (some ⟨nb, no + k * 6, none⟩)), (dv s), (.slice (some ⟨b7, 0, none⟩) 1 1), (.slice (some ⟨g7, 0, none⟩) (k + 1) cap7), (.pointer (some ⟨w.heap.size + 1 + 1, 0, none⟩)), b7, g7, cap7, rfl, ?_, ?_⟩
          · simp only [Act.put, List.setIfInBounds_toArray, List.set_cons_zero, List.set_cons_succ]
          · exact { H.out with o10_9 := fun _ => rfl, o10_8 := fun _ => rfl, o10_0 := fun _ => rfl, o10_1 := fun _ => rfl, o10_2 := fun _ => rfl, o10_3 := fun _ => rfl, o10_4 := fun _ => rfl, o10_5 := fun _ => rfl, o10_6 := fun _ => rfl, o10_7 := fun _ => rfl, a := fun p => (nomatch p), z := fun _ p => (nomatch p), b := fun _ p => (nomatch p), c := fun _ => (H.out.b rfl rfl).put, r := fun p => (nomatch p) }
        | i + 11, _, hlt => exact absurd hlt (by simp)
      · intro L9 aa ww hI hn
        obtain ⟨l0, l1, l2, l3, l4, l5, l6, l7, l8, l9, l10, v0, v1, v2, v3, v4, v5, v6, v7, v8, v9, b7, g7, cap7, rfl, rfl, h⟩ := hI
        have k0 : l0 = true := not_ready (i := 0) (o := _) rfl hn (by simp [Region.binds])
        subst k0
        have k1 : l1 = true := not_ready (i := 1) (o := _) rfl hn (by simp [Region.binds])
        subst k1
        have k2 : l2 = true := not_ready (i := 2) (o := _) rfl hn (by simp [Region.binds])
        subst k2
        have k3 : l3 = true := not_ready (i := 3) (o := _) rfl hn (by simp [Region.binds])
        subst k3
        have k4 : l4 = true := not_ready (i := 4) (o := _) rfl hn (by simp [Region.binds])
        subst k4
        have k5 : l5 = true := not_ready (i := 5) (o := _) rfl hn (by simp [Region.binds])
        subst k5
        have k6 : l6 = true := not_ready (i := 6) (o := _) rfl hn (by simp [Region.binds])
        subst k6
        have k7 : l7 = true := not_ready (i := 7) (o := _) rfl hn (by simp [Region.binds])
        subst k7
        have k8 : l8 = true := not_ready (i := 8) (o := _) rfl hn (by simp [Region.binds])
        subst k8
        have k9 : l9 = true := not_ready (i := 9) (o := _) rfl hn (by simp [Region.binds])
        subst k9
        have k10 : l10 = true := not_ready (i := 10) (o := _) rfl hn (by simp [Region.binds])
        subst k10
        clear hn
        obtain rfl := h.ev0 rfl
        obtain rfl := h.ev1 rfl
        obtain rfl := h.ev2 rfl
        obtain rfl := h.ev3 rfl
        obtain rfl := h.ev4 rfl
        obtain rfl := h.ev5 rfl
        obtain rfl := h.ev6 rfl
        obtain rfl := h.ev7 rfl
        obtain rfl := h.ev8 rfl
        obtain rfl := h.ev9 rfl
        simp only [Act.put, List.setIfInBounds_toArray, List.set_cons_zero, List.set_cons_succ]
        rename World => w12
        have I12 := h.c rfl
        clear h hI RS
        go_wp2_with fail
        go_roundw
        case rel => exact ⟨k + 1, _, hlt, by simp, I12⟩
        case measure => simp only [intOf]; omega
    · obtain rfl : k = L.length := by omega
      have y0 := hI.o.c
      have y1 := hI.o.lt
      have z0 := hI.rs.c
      have z1 := hI.rs.f
      have z2 := hI.rs.lt
      have lo := hI.sz
      go_wp2_with fail
      have KB : Bx _ (w.heap.size + 1) [.slice ao L.length cap, .slice da mm dc, .int .i64 i0, .int .i64 i1] := (((hI.rs.put (i := 0) (u := .slice ao L.length cap)).put (i := 1) (u := .slice da mm dc)).put (i := 2) (u := .int .i64 i0)).put (i := 3) (u := .int .i64 i1)
      have KL := (((hI.below.setCell (p := ⟨w.heap.size + 1, 0, none⟩) (by simp) (.slice ao L.length cap)).setCell (p := ⟨w.heap.size + 1, 1, none⟩) (by simp) (.slice da mm dc)).setCell (p := ⟨w.heap.size + 1, 2, none⟩) (by simp) (.int .i64 i0)).setCell (p := ⟨w.heap.size + 1, 3, none⟩) (by simp) (.int .i64 i1)
      have hrow := hI.row
      rw [List.take_length] at hrow
      have KR := row_set6 (b := w.heap.size + 1) (i := 3) (x := .int .i64 i1) (row_set6 (b := w.heap.size + 1) (i := 2) (x := .int .i64 i0) (row_set6 (b := w.heap.size + 1) (i := 1) (x := .slice da mm dc) (row_set6 (b := w.heap.size + 1) (i := 0) (x := .slice ao L.length cap) hrow (by omega)) (by omega)) (by omega)) (by omega)
      refine bodyPost_box (b := w.heap.size + 1) (cs := [.slice ao L.length cap, .slice da mm dc, .int .i64 i0, .int .i64 i1]) (v := .agg #[.slice ao L.length cap, .slice da mm dc, .int .i64 i0, .int .i64 i1]) KB (fun X hX => by simp [results, Try.results13, go_sem, hX]) rfl ⟨⟨_, rfl, row_down6 KR (by omega)⟩, KL⟩
/-- whether there are few faces -/
def fewB (n m : Nat) : Bool := decide (n ≤ 20) && decide (m ≤ 20)
set_option maxRecDepth 100000 in
theorem few31_any {a b : Option Addr} {n m c d : Nat} {i0 i1 : Int} (w : World) : Calls Try.prog 12 #[.agg #[.slice a n c, .slice b m d, .int .i64 i0, .int .i64 i1]] w fun e w' => e = .returned (.bool (fewB n m)) ∧ Below w.heap.size w w' := by
  have H0 := (Ho.nil w).bx [.slice a n c, .slice b m d, .int .i64 i0, .int .i64 i1] 45 w.heap.size rfl
  by_cases h : (n : Int) ≤ 20
  · have h1 : fewB n m = decide ((m : Int) ≤ 20) := by
      unfold fewB
      rw [decide_eq_true (by omega), Bool.true_and]
      exact decide_eq_decide.2 (by omega)
    rw [h1]
    go_enter Try.func12, Try.ntmps12
    go_wp2_with fail
    go_ret
    exact ⟨rfl, H0.below⟩
  · have h1 : fewB n m = false := by
      unfold fewB
      rw [decide_eq_false (by omega), Bool.false_and]
    rw [h1]
    go_enter Try.func12, Try.ntmps12
    go_wp2_with fail
    go_ret
    exact ⟨rfl, H0.below⟩
end Go.Proofs.Ytedfciddfpcifaa.Iv

/- Plain facts on Follow's results: light, one reflection more, parts of the rays. -/
namespace Go.Proofs.Ytedfciddfpcifaa.Iv

/-- a result as a path -/
def paOf (x : FO) : Pa := ⟨x.lv.k, x.fs, x.lv.o, x.lv.lo, x.lv.hi⟩
theorem fv_ok {L : List D} {M : List (Int × Int)} {i0 i1 gl gh most : Int} {a v : D} (h : (followV L M i0 i1 a v gl gh most).e = 0) :
    ((vBody L M i0 i1 && (vD a && vD v)) && (vB gl gh && (decide (0 ≤ gl) && decide (gh ≤ 16777216)))) = true ∧ 0 ≤ most ∧ most ≤ 20 ∧
    followV L M i0 i1 a v gl gh most = ⟨(followL (L.zip M) i0 i1 gl gh most.toNat a v []).1, (followL (L.zip M) i0 i1 gl gh most.toNat a v []).2, 0⟩ := by
  unfold followV at h ⊢
  split at h
  · rename_i h1
    rw [if_pos h1]
    split at h
    · rename_i h2
      rw [if_pos h2]
      exact ⟨h1, h2.1, h2.2, rfl⟩
    · cases h
  · cases h
theorem fv_of {L : List D} {M : List (Int × Int)} {i0 i1 gl gh most : Int} {a v : D} (h1 : ((vBody L M i0 i1 && (vD a && vD v)) && (vB gl gh && (decide (0 ≤ gl) && decide (gh ≤ 16777216)))) = true) :
    followV L M i0 i1 a v gl gh most = if 0 ≤ most ∧ most ≤ 20 then ⟨(followL (L.zip M) i0 i1 gl gh most.toNat a v []).1, (followL (L.zip M) i0 i1 gl gh most.toNat a v []).2, 0⟩ else ⟨⟨0, zD, 0, 0⟩, [], 2⟩ := by
  rw [followV, if_pos h1]
theorem fv_parts {L : List D} {M : List (Int × Int)} {i0 i1 gl gh : Int} {a v : D} (h : ((vBody L M i0 i1 && (vD a && vD v)) && (vB gl gh && (decide (0 ≤ gl) && decide (gh ≤ 16777216)))) = true) :
    vBody L M i0 i1 = true ∧ vD a = true ∧ vD v = true ∧ vB gl gh = true ∧ 0 ≤ gl ∧ gh ≤ 16777216 ∧ 0 ≤ gh := by
  simp only [Bool.and_eq_true, decide_eq_true_eq] at h
  obtain ⟨⟨h1, h2, h3⟩, h4, h5, h6⟩ := h
  have := (vB_iff.1 h4).2.1
  exact ⟨h1, h2, h3, h4, h5, h6, by omega⟩
theorem light_plain {L : List D} {M : List (Int × Int)} {i0 i1 gl gh most : Int} {a v : D} (h : (followV L M i0 i1 a v gl gh most).e = 0) :
    0 ≤ (followV L M i0 i1 a v gl gh most).lv.lo ∧ (followV L M i0 i1 a v gl gh most).lv.hi ≤ gh ∧ 1 ≤ (followV L M i0 i1 a v gl gh most).lv.k ∧ (followV L M i0 i1 a v gl gh most).lv.k ≤ 3 ∧
    ((followV L M i0 i1 a v gl gh most).lv.k ≠ 3 → ((followV L M i0 i1 a v gl gh most).fs.length : Int) ≤ most + 1) ∧ 0 ≤ most ∧ most ≤ 20 ∧ L.length ≤ 100 := by
  obtain ⟨h1, h2, h3, h4⟩ := fv_ok h
  obtain ⟨p1, p2, p3, p4, p5, p6, p7⟩ := fv_parts h1
  obtain ⟨⟨g1, g2, g3, g4, _⟩, g6⟩ := follow_good (l := L.zip M) (i0 := i0) (i1 := i1) p5 p7 most.toNat a v []
  rw [h4]
  have hL : L.length ≤ 100 := by
    simp only [vBody, Bool.and_eq_true, decide_eq_true_eq] at p1
    exact p1.1.2.1
  refine ⟨g1, g2, g3, g4, fun hk => ?_, h2, h3, hL⟩
  have := g6 hk
  simp only [List.length_nil] at this
  dsimp only
  omega
theorem ins_pre {p q : Pa} (h : q.k = 3) (k : q.fs <+: p.fs) : insP p q = true := by
  rw [insP, if_pos h, decide_eq_true k.length_le, decide_eq_true (List.prefix_iff_eq_take.1 k).symm]
  rfl
theorem ins_same {p q : Pa} (h : ¬ q.k = 3) (hk : p.k = q.k) (hf : p.fs = q.fs) (ho : SubD p.o q.o) (hg : Sub p.lo p.hi q.lo q.hi) : insP p q = true := by
  rw [insP, if_neg h, decide_eq_true hk, decide_eq_true hf, ho.ins, ins_of_sub hg]
  rfl
theorem light_more {L : List D} {M : List (Int × Int)} {i0 i1 gl gh most : Int} {a v : D} (h : (followV L M i0 i1 a v gl gh most).e = 0) :
    (most = 20 ∧ (followV L M i0 i1 a v gl gh (most + 1)).e = 2) ∨ ((followV L M i0 i1 a v gl gh (most + 1)).e = 0 ∧ insP (paOf (followV L M i0 i1 a v gl gh (most + 1))) (paOf (followV L M i0 i1 a v gl gh most)) = true ∧
      ((followV L M i0 i1 a v gl gh most).lv.k = 3 ∨ (¬ (followV L M i0 i1 a v gl gh most).lv.k = 3 ∧ followV L M i0 i1 a v gl gh (most + 1) = followV L M i0 i1 a v gl gh most))) := by
  obtain ⟨h1, h2, h3, h4⟩ := fv_ok h
  obtain ⟨p1, p2, p3, p4, p5, p6, p7⟩ := fv_parts h1
  by_cases hm : most = 20
  · left
    refine ⟨hm, ?_⟩
    rw [fv_of h1, if_neg (by omega)]
  · right
    have e : (most + 1).toNat = most.toNat + 1 := by omega
    have h5 : followV L M i0 i1 a v gl gh (most + 1) = ⟨(followL (L.zip M) i0 i1 gl gh (most.toNat + 1) a v []).1, (followL (L.zip M) i0 i1 gl gh (most.toNat + 1) a v []).2, 0⟩ := by
      rw [fv_of h1, if_pos (by omega), e]
    rw [h5, h4]
    refine ⟨rfl, ?_⟩
    rcases follow_more (l := L.zip M) (i0 := i0) (i1 := i1) (gl := gl) (gh := gh) most.toNat a v [] with ⟨k1, k2⟩ | k1
    · exact ⟨ins_pre k1 k2, .inl k1⟩
    · rw [← k1]
      by_cases hk : (followL (L.zip M) i0 i1 gl gh most.toNat a v []).1.k = 3
      · exact ⟨ins_pre hk (List.prefix_refl _), .inl hk⟩
      · obtain ⟨⟨g1, g2, g3, g4, g5⟩, g6⟩ := follow_good (l := L.zip M) (i0 := i0) (i1 := i1) p5 p7 most.toNat a v []
        obtain ⟨o1, o2⟩ := g5 hk
        exact ⟨ins_same hk rfl rfl (subD_refl o1) (sub_refl o2), .inr ⟨hk, rfl⟩⟩
theorem incl_plain {L : List D} {M : List (Int × Int)} {i0 i1 gl gh most : Int} {a v a' v' : D} (ha : SubD a' a) (hv : SubD v' v) :
    (followV L M i0 i1 a' v' gl gh most).e = (followV L M i0 i1 a v gl gh most).e ∧ ((followV L M i0 i1 a v gl gh most).e = 0 → insP (paOf (followV L M i0 i1 a' v' gl gh most)) (paOf (followV L M i0 i1 a v gl gh most)) = true) := by
  have hA : vD a' = vD a := by rw [ha.v, ha.v']
  have hV : vD v' = vD v := by rw [hv.v, hv.v']
  by_cases h1 : ((vBody L M i0 i1 && (vD a && vD v)) && (vB gl gh && (decide (0 ≤ gl) && decide (gh ≤ 16777216)))) = true
  · have h1' : ((vBody L M i0 i1 && (vD a' && vD v')) && (vB gl gh && (decide (0 ≤ gl) && decide (gh ≤ 16777216)))) = true := by rw [hA, hV]; exact h1
    rw [fv_of h1, fv_of h1']
    by_cases h2 : 0 ≤ most ∧ most ≤ 20
    · rw [if_pos h2, if_pos h2]
      refine ⟨rfl, fun _ => ?_⟩
      obtain ⟨p1, p2, p3, p4, p5, p6, p7⟩ := fv_parts h1
      simp only [vBody, vI, Bool.and_eq_true, List.all_eq_true] at p1
      have key := follow_sub (l := L.zip M) (gl := gl) (gh := gh) p1.2.1.1 p4 (fun y hy => p1.2.2.1 y.1 (List.of_mem_zip hy).1) most.toNat a v a' v' [] ha hv
      unfold InL at key
      split at key
      · rename_i hk
        exact ins_pre hk key
      · rename_i hk
        exact ins_same hk key.2.k key.1 key.2.o key.2.g
    · rw [if_neg h2, if_neg h2]
      exact ⟨rfl, fun h => by cases h⟩
  · have h1' : ¬ ((vBody L M i0 i1 && (vD a' && vD v')) && (vB gl gh && (decide (0 ≤ gl) && decide (gh ≤ 16777216)))) = true := by rw [hA, hV]; exact h1
    rw [followV, followV, if_neg h1, if_neg h1']
    exact ⟨rfl, fun h => by cases h⟩
end Go.Proofs.Ytedfciddfpcifaa.Iv

/- TraceLight: the light of a path, and one reflection more. -/
namespace Go.Proofs.Ytedfciddfpcifaa.Iv
open Go.RowKit

attribute [local go_sem] Oper.semAt_some

theorem wanted_of {o : Oper} {ops : Array Oper} {tmps : Array Value} {j d : Nat} {b : Bool} {o' : Oper} (hg : o.guard = some (j, b)) (ho : ops[j]? = some o') (hd : o'.dst = some d) (hv : tmps[d]? = some (.bool b)) : Region.wanted o (yielded ops tmps) = true := by
  simp [Region.wanted, hg, yielded, ho, hd, hv]
theorem wanted_not {o : Oper} {ops : Array Oper} {tmps : Array Value} {j d : Nat} {b b' : Bool} {o' : Oper} (hg : o.guard = some (j, b)) (ho : ops[j]? = some o') (hd : o'.dst = some d) (hv : tmps[d]? = some (.bool b')) (hb : b' ≠ b) : Region.wanted o (yielded ops tmps) = false := by
  simp [Region.wanted, hg, yielded, ho, hd, hv, hb]
theorem wpOp_want {P : Program} {ops : Array Oper} {Q : Exit → Act → World → Prop} {i : Nat} {o : Oper} {K : Act → World → Prop} {a : Act} {w : World} (ho : ops[i]? = some o) (hw : Region.wanted o (yielded ops a.tmps) = true)
    (h : ∀ K' : Act → World → Prop, Shut (∀ a w, K a w → K' a w) → Oper.wp P o a w K' Q) : wpOp P ops Q i K a w :=
  wpOp_shut ho (fun K' hK => by rw [if_pos hw]; exact h K' hK)
theorem wpOp_skip {P : Program} {ops : Array Oper} {Q : Exit → Act → World → Prop} {i : Nat} {o : Oper} {K : Act → World → Prop} {a : Act} {w : World} {d : Option Tmp} (ho : ops[i]? = some o) (hd : o.dst = d) (hw : Region.wanted o (yielded ops a.tmps) = false)
    (h : K (a.put d undef) w) : wpOp P ops Q i K a w :=
  wpOp_shut ho (fun K' hK => by rw [if_neg (by rw [hw]; decide), hd]; exact hK.out _ _ h)
theorem follow_long {l : List (D × Int × Int)} {i0 i1 gl gh : Int} : ∀ (m : Nat) (a v : D) (fs : List Int), (followL l i0 i1 gl gh m a v fs).2.length ≤ fs.length + m + 1
  | 0, a, v, fs => by
    rw [followL, oneF]
    repeat' split
    all_goals (simp only [List.length_append, List.length_singleton]; omega)
  | m + 1, a, v, fs => by
    rw [followL, oneF]
    repeat' split
    all_goals first
      | (refine Nat.le_trans (follow_long m _ _ _) ?_; simp only [List.length_append, List.length_singleton]; omega)
      | (simp only [List.length_append, List.length_singleton]; omega)
theorem follow_len {L : List D} {M : List (Int × Int)} {i0 i1 gl gh most : Int} {a v : D} (h : (followV L M i0 i1 a v gl gh most).e = 0) : (followV L M i0 i1 a v gl gh most).fs.length ≤ 21 := by
  obtain ⟨h1, h2, h3, h4⟩ := fv_ok h
  rw [h4]
  have := follow_long (l := L.zip M) (i0 := i0) (i1 := i1) (gl := gl) (gh := gh) most.toNat a v []
  simp only [List.length_nil] at this
  dsimp only
  omega
/-- a slice of the call's own as a list -/
theorem own_ints31 {W : World} {B : Nat} {ao : Option Addr} {n cap : Nat} {fs : List Int} (h : W.ownsRow B 3 1 (.slice ao n cap) n (ivals fs)) (hn : n = fs.length) : IntsAt W ao fs ∧ n ≤ cap := by
  subst hn
  have h0 := h
  rcases h.2 with ⟨e, h1⟩ | ⟨g, c, cur, e, h1, h2, h3, _⟩
  · rw [h1]
    exact ⟨fun h => absurd h (by omega), Nat.zero_le _⟩
  · cases e
    refine ⟨fun _ => ⟨g, 0, rfl, (Array.getElem?_eq_some_iff.1 h2).1, fun i hi => ?_⟩, h3⟩
    have := h0.cells (g := g) rfl i (.int .i64 (fs[i]?.getD 0)) (by simp [ivals, List.getElem?_eq_getElem hi])
    rw [add31] at this
    rw [Nat.zero_add]
    exact this
set_option maxRecDepth 100000 in
set_option maxHeartbeats 16000000 in
theorem same31_any (a1 a2 : Option Addr) (c1 c2 : Nat) (p : Pa) (w : World) (h1 : IntsAt w a1 p.fs) (h2 : IntsAt w a2 p.fs) (hl : p.fs.length ≤ 1000000) :
    Calls Try.prog 22 #[pv a1 c1 p, pv a2 c2 p] w fun e w' => e = .returned (.bool true) ∧ Below w.heap.size w w' := by
  obtain ⟨pk, pf, po, pl, ph⟩ := p
  dsimp only at h1 h2 hl
  have H0 := ((Ho.nil w).bx [.int .i64 pk, .slice a1 pf.length c1, .int .i64 po.a, .int .i64 po.b, .int .i64 po.c, .int .i64 po.d, .int .i64 po.e, .int .i64 po.f, .int .i64 pl, .int .i64 ph] 34 w.heap.size rfl).bx [.int .i64 pk, .slice a2 pf.length c2, .int .i64 po.a, .int .i64 po.b, .int .i64 po.c, .int .i64 po.d, .int .i64 po.e, .int .i64 po.f, .int .i64 pl, .int .i64 ph] 34 (w.heap.size + 1) (by simp)
  have G1 := Lib.hid h1
  have G2 := Lib.hid h2
  have ES := Lib.hid (show startsR pf pf = true from decide_eq_true List.take_length)
  clear h1 h2
  go_enter Try.func22, Try.ntmps22
  go_wp2_with fail
  refine (starts_any a1 a2 c1 c2 pf pf _ (G1.out.kept H0.below) (G2.out.kept H0.below) hl).mono ?_
  rintro e w1 ⟨rfl, hb⟩
  rw [ES.out]
  have H1 := H0.call hb
  clear hb
  have x0 := (H1.at 1 rfl).c
  have x1 := (H1.at 0 rfl).c
  go_wp2_with fail
  go_ret
  exact ⟨by first | rfl | simp, H1.below⟩
structure Lk (pb qb : Nat) (po9 qo9 : Option Addr) (pc9 qc9 : Nat) (pk plo phi qk qlo qhi : Int) (oo qo : D) (fs gs : List Int) (w0 w : World) (l0 l1 l2 l3 l4 l5 l6 l7 l8 l9 l10 l11 l12 l13 l14 l15 : Bool) (v0 v1 v2 v3 v4 v5 v6 v7 v8 v9 v10 v11 v12 v13 v14 v15 : Value) : Prop where
  g : Ho w0 w (qb + 1) [(qb, [.int .i64 qk, .slice qo9 gs.length qc9, .int .i64 qo.a, .int .i64 qo.b, .int .i64 qo.c, .int .i64 qo.d, .int .i64 qo.e, .int .i64 qo.f, .int .i64 qlo, .int .i64 qhi]), (pb, [.int .i64 pk, .slice po9 fs.length pc9, .int .i64 oo.a, .int .i64 oo.b, .int .i64 oo.c, .int .i64 oo.d, .int .i64 oo.e, .int .i64 oo.f, .int .i64 plo, .int .i64 phi])]
  sz : (qb + 1) ≤ w.heap.size
  mn : (qb + 1) ≤ (qb + 1)
  ev0 : l0 = true → v0 = (pv qo9 qc9 ⟨qk, gs, qo, qlo, qhi⟩)
  ev1 : l1 = true → v1 = (pv po9 pc9 ⟨pk, fs, oo, plo, phi⟩)
  ev2 : l2 = true → v2 = .bool true
  ev3 : l3 = true → v3 = .bool true
  ev4 : l4 = true → v4 = .pointer (some ⟨pb, 0, none⟩)
  ev5 : l5 = true → v5 = .int .i64 pk
  ev6 : l6 = true → v6 = .bool true
  ev7 : l7 = true → v7 = .bool true
  ev8 : l8 = true → v8 = undef
  ev9 : l9 = true → v9 = undef
  ev10 : l10 = true → v10 = undef
  ev11 : l11 = true → v11 = undef
  ev12 : l12 = true → v12 = undef
  ev13 : l13 = true → v13 = .bool true
  ev14 : l14 = true → v14 = .bool true
  ev15 : l15 = true → v15 = .bool true
theorem Lk.kept {pb qb : Nat} {po9 qo9 : Option Addr} {pc9 qc9 : Nat} {pk plo phi qk qlo qhi : Int} {oo qo : D} {fs gs : List Int} {w0 w : World} {l0 l1 l2 l3 l4 l5 l6 l7 l8 l9 l10 l11 l12 l13 l14 l15 : Bool} {v0 v1 v2 v3 v4 v5 v6 v7 v8 v9 v10 v11 v12 v13 v14 v15 : Value} {w' : World} (h : Lk pb qb po9 qo9 pc9 qc9 pk plo phi qk qlo qhi oo qo fs gs w0 w l0 l1 l2 l3 l4 l5 l6 l7 l8 l9 l10 l11 l12 l13 l14 l15 v0 v1 v2 v3 v4 v5 v6 v7 v8 v9 v10 v11 v12 v13 v14 v15) (hb : Below w.heap.size w w') : Lk pb qb po9 qo9 pc9 qc9 pk plo phi qk qlo qhi oo qo fs gs w0 w' l0 l1 l2 l3 l4 l5 l6 l7 l8 l9 l10 l11 l12 l13 l14 l15 v0 v1 v2 v3 v4 v5 v6 v7 v8 v9 v10 v11 v12 v13 v14 v15 :=
  { h with g := h.g.call hb, sz := Nat.le_trans h.sz hb.size }
def Lk.I (pb qb : Nat) (po9 qo9 : Option Addr) (pc9 qc9 : Nat) (pk plo phi qk qlo qhi : Int) (oo qo : D) (fs gs : List Int) (w0 : World) : Act → Array Bool → Act → World → Prop := fun aO LX aX w => ∃ (l0 l1 l2 l3 l4 l5 l6 l7 l8 l9 l10 l11 l12 l13 l14 l15 : Bool) (v0 v1 v2 v3 v4 v5 v6 v7 v8 v9 v10 v11 v12 v13 v14 v15 : Value), LX = #[l0, l1, l2, l3, l4, l5, l6, l7, l8, l9, l10, l11, l12, l13, l14, l15] ∧ aX = ((((((((((((((((aO.put (some 86) v0).put (some 87) v1).put (some 88) v2).put (some 89) v3).put (some 90) v4).put (some 91) v5).put (some 92) v6).put (some 93) v7).put (some 94) v8).put (some 95) v9).put (some 96) v10).put (some 97) v11).put (some 98) v12).put (some 99) v13).put (some 100) v14).put (some 6) v15) ∧ Lk pb qb po9 qo9 pc9 qc9 pk plo phi qk qlo qhi oo qo fs gs w0 w l0 l1 l2 l3 l4 l5 l6 l7 l8 l9 l10 l11 l12 l13 l14 l15 v0 v1 v2 v3 v4 v5 v6 v7 v8 v9 v10 v11 v12 v13 v14 v15
structure Lm (pb qb : Nat) (po9 qo9 : Option Addr) (pc9 qc9 : Nat) (pk plo phi : Int) (oo : D) (fs : List Int) (w0 w : World) (l0 l1 l2 l3 l4 l5 l6 l7 l8 l9 l10 l11 l12 l13 l14 l15 : Bool) (v0 v1 v2 v3 v4 v5 v6 v7 v8 v9 v10 v11 v12 v13 v14 v15 : Value) : Prop where
  g : Ho w0 w (qb + 1) [(qb, [.int .i64 pk, .slice qo9 fs.length qc9, .int .i64 oo.a, .int .i64 oo.b, .int .i64 oo.c, .int .i64 oo.d, .int .i64 oo.e, .int .i64 oo.f, .int .i64 plo, .int .i64 phi]), (pb, [.int .i64 pk, .slice po9 fs.length pc9, .int .i64 oo.a, .int .i64 oo.b, .int .i64 oo.c, .int .i64 oo.d, .int .i64 oo.e, .int .i64 oo.f, .int .i64 plo, .int .i64 phi])]
  sz : (qb + 1) ≤ w.heap.size
  mn : (qb + 1) ≤ (qb + 1)
  ev0 : l0 = true → v0 = (pv qo9 qc9 ⟨pk, fs, oo, plo, phi⟩)
  ev1 : l1 = true → v1 = (pv po9 pc9 ⟨pk, fs, oo, plo, phi⟩)
  ev2 : l2 = true → v2 = .bool true
  ev3 : l3 = true → v3 = .bool true
  ev4 : l4 = true → v4 = .pointer (some ⟨pb, 0, none⟩)
  ev5 : l5 = true → v5 = .int .i64 pk
  ev6 : l6 = true → v6 = .bool false
  ev7 : l7 = true → v7 = .bool false
  ev8 : l8 = true → v8 = (pv po9 pc9 ⟨pk, fs, oo, plo, phi⟩)
  ev9 : l9 = true → v9 = (pv po9 pc9 ⟨pk, fs, oo, plo, phi⟩)
  ev10 : l10 = true → v10 = (pv qo9 qc9 ⟨pk, fs, oo, plo, phi⟩)
  ev11 : l11 = true → v11 = (pv qo9 qc9 ⟨pk, fs, oo, plo, phi⟩)
  ev12 : l12 = true → v12 = .bool true
  ev13 : l13 = true → v13 = .bool true
  ev14 : l14 = true → v14 = .bool true
  ev15 : l15 = true → v15 = .bool true
theorem Lm.kept {pb qb : Nat} {po9 qo9 : Option Addr} {pc9 qc9 : Nat} {pk plo phi : Int} {oo : D} {fs : List Int} {w0 w : World} {l0 l1 l2 l3 l4 l5 l6 l7 l8 l9 l10 l11 l12 l13 l14 l15 : Bool} {v0 v1 v2 v3 v4 v5 v6 v7 v8 v9 v10 v11 v12 v13 v14 v15 : Value} {w' : World} (h : Lm pb qb po9 qo9 pc9 qc9 pk plo phi oo fs w0 w l0 l1 l2 l3 l4 l5 l6 l7 l8 l9 l10 l11 l12 l13 l14 l15 v0 v1 v2 v3 v4 v5 v6 v7 v8 v9 v10 v11 v12 v13 v14 v15) (hb : Below w.heap.size w w') : Lm pb qb po9 qo9 pc9 qc9 pk plo phi oo fs w0 w' l0 l1 l2 l3 l4 l5 l6 l7 l8 l9 l10 l11 l12 l13 l14 l15 v0 v1 v2 v3 v4 v5 v6 v7 v8 v9 v10 v11 v12 v13 v14 v15 :=
  { h with g := h.g.call hb, sz := Nat.le_trans h.sz hb.size }
def Lm.I (pb qb : Nat) (po9 qo9 : Option Addr) (pc9 qc9 : Nat) (pk plo phi : Int) (oo : D) (fs : List Int) (w0 : World) : Act → Array Bool → Act → World → Prop := fun aO LX aX w => ∃ (l0 l1 l2 l3 l4 l5 l6 l7 l8 l9 l10 l11 l12 l13 l14 l15 : Bool) (v0 v1 v2 v3 v4 v5 v6 v7 v8 v9 v10 v11 v12 v13 v14 v15 : Value), LX = #[l0, l1, l2, l3, l4, l5, l6, l7, l8, l9, l10, l11, l12, l13, l14, l15] ∧ aX = ((((((((((((((((aO.put (some 86) v0).put (some 87) v1).put (some 88) v2).put (some 89) v3).put (some 90) v4).put (some 91) v5).put (some 92) v6).put (some 93) v7).put (some 94) v8).put (some 95) v9).put (some 96) v10).put (some 97) v11).put (some 98) v12).put (some 99) v13).put (some 100) v14).put (some 6) v15) ∧ Lm pb qb po9 qo9 pc9 qc9 pk plo phi oo fs w0 w l0 l1 l2 l3 l4 l5 l6 l7 l8 l9 l10 l11 l12 l13 l14 l15 v0 v1 v2 v3 v4 v5 v6 v7 v8 v9 v10 v11 v12 v13 v14 v15
set_option maxRecDepth 100000 in
set_option maxHeartbeats 16000000 in
theorem tLight_law {na da : Option Addr} {nc dc : Nat} {L : List D} {M : List (Int × Int)} {i0 i1 : Int} {a v : D} {gl gh most : Int} (w : World) (hn : NAt w na L) (hm : PAt w da M) (hL : L.length * 48 ≤ 140737488351232) :
    Calls Try.prog 6 #[.agg #[.slice na L.length nc, .slice da M.length dc, .int .i64 i0, .int .i64 i1], rv a v, .agg #[.int .i64 gl, .int .i64 gh, .int .i64 most]] w fun e w' => e = .returned (.bool true) ∧ Below w.heap.size w w' := by
  have HN := Lib.hid hn
  have HM := Lib.hid hm
  clear hn hm
  have H0 := (((Ho.nil w).bx [.slice na L.length nc, .slice da M.length dc, .int .i64 i0, .int .i64 i1] 39 w.heap.size rfl).bx [.int .i64 a.a, .int .i64 a.b, .int .i64 a.c, .int .i64 a.d, .int .i64 a.e, .int .i64 a.f, .int .i64 v.a, .int .i64 v.b, .int .i64 v.c, .int .i64 v.d, .int .i64 v.e, .int .i64 v.f] 41 (w.heap.size + 1) (by simp)).bx [.int .i64 gl, .int .i64 gh, .int .i64 most] 67 (w.heap.size + 1 + 1) (by simp)
  unfold rv
  cases hf : fewB L.length M.length
  · have EF := Lib.hid hf
    clear hf
    go_enter Try.func6, Try.ntmps6
    go_wp2_with fail
    refine (awake31_any _).mono ?_
    rintro e w1 ⟨rfl, hb⟩
    have H1 := H0.call hb
    clear hb
    have x0 := (H1.at 2 rfl).c
    go_wp2_with fail
    refine (theirs31_any _ (HN.out.kept H1.below) hL).mono ?_
    rintro e w2 ⟨⟨u, rfl, hrow⟩, hb⟩
    obtain ⟨ao2, cap2, rfl⟩ := row_form6 hrow
    have H2 := H1.call hb
    clear hb x0 hrow
    go_wp2_with fail
    refine (few31_any _).mono ?_
    rintro e w3 ⟨rfl, hb⟩
    rw [EF.out]
    have H3 := H2.call hb
    clear hb
    have x0 := (H3.at 2 rfl).c
    have x1 := (H3.at 1 rfl).c
    have x2 := (H3.at 0 rfl).c
    go_wp2_with fail
    go_ret
    exact ⟨rfl, H3.below⟩
  · have EF := Lib.hid hf
    clear hf
    obtain ⟨⟨⟨pk, oo, plo, phi⟩, fs, pe⟩, hP⟩ : ∃ P, followV L M i0 i1 a v gl gh most = P := ⟨_, rfl⟩
    have HP := Lib.hid hP
    by_cases hpe : pe = 0
    case neg =>
      clear hP
      go_enter Try.func6, Try.ntmps6
      go_wp2_with fail
      refine (awake31_any _).mono ?_
      rintro e w1 ⟨rfl, hb⟩
      have H1 := H0.call hb
      clear hb
      have x0 := (H1.at 2 rfl).c
      go_wp2_with fail
      refine (theirs31_any _ (HN.out.kept H1.below) hL).mono ?_
      rintro e w2 ⟨⟨u, rfl, hrow⟩, hb⟩
      obtain ⟨ao2, cap2, rfl⟩ := row_form6 hrow
      have H2 := H1.call hb
      clear hb x0 hrow
      go_wp2_with fail
      refine (few31_any _).mono ?_
      rintro e w3 ⟨rfl, hb⟩
      rw [EF.out]
      have H3 := H2.call hb
      clear hb
      have x0 := (H3.at 2 rfl).c
      have x1 := (H3.at 1 rfl).c
      have x2 := (H3.at 0 rfl).c
      go_wp2_with fail
      refine (follow_any (a := a) (v := v) _ (HN.out.kept H3.below) (HM.out.kept H3.below)).mono ?_
      rintro e w4 ⟨⟨u, rfl, hrow⟩, hb⟩
      rw [HP.out] at hrow ⊢
      dsimp only [lcells] at hrow ⊢
      obtain ⟨po9, pc9, rfl⟩ := row_form hrow
      have H4 := H3.call hb
      clear hb x0 x1 x2
      go_wp2_with fail
      go_ret
      exact ⟨rfl, (H4.alc _).below⟩
    subst hpe
    have hlp := light_plain (show (followV L M i0 i1 a v gl gh most).e = 0 from by rw [hP])
    have hlm := light_more (show (followV L M i0 i1 a v gl gh most).e = 0 from by rw [hP])
    rw [hP] at hlp hlm
    dsimp only at hlp hlm
    obtain ⟨g1, g2, g3, g4, g5, g6, g7, g8⟩ := hlp
    have n1 : ¬ (plo < 0) := by omega
    have n2 : ¬ (gh < phi) := by omega
    have n3 : ¬ (pk < 1) := by omega
    have n4 : ¬ (3 < pk) := by omega
    have i15 : IntKind.i64.wrap (most + 1) = most + 1 := IntWalk.i64_in _ (by omega)
    have hfl : fs.length ≤ 1000000 := by
      have := follow_len (show (followV L M i0 i1 a v gl gh most).e = 0 from by rw [hP])
      rw [hP] at this
      dsimp only at this
      omega
    obtain ⟨⟨⟨qk, qo, qlo, qhi⟩, gs, qe⟩, hQ⟩ : ∃ Q, followV L M i0 i1 a v gl gh (most + 1) = Q := ⟨_, rfl⟩
    have HQ := Lib.hid hQ
    have hgl2 : qe = 0 → gs.length ≤ 1000000 := by
      intro hq
      have := follow_len (show (followV L M i0 i1 a v gl gh (most + 1)).e = 0 from by rw [hQ]; exact hq)
      rw [hQ] at this
      dsimp only at this
      omega
    rw [hQ] at hlm
    dsimp only [paOf] at hlm
    clear hP hQ g1 g2 g3 g4
    rcases hlm with ⟨hm20, hqe⟩ | ⟨hqe, hins, hsame⟩
    · subst hqe
      have g5' := g5
      have HM20 := Lib.hid hm20
      clear hgl2 hfl g5 g6 g7 hm20
      by_cases hk3 : pk = 3
      · subst hk3
        go_enter Try.func6, Try.ntmps6
        go_wp2_with fail
        refine (awake31_any _).mono ?_
        rintro e w1 ⟨rfl, hb⟩
        have H1 := H0.call hb
        clear hb
        have x0 := (H1.at 2 rfl).c
        go_wp2_with fail
        refine (theirs31_any _ (HN.out.kept H1.below) hL).mono ?_
        rintro e w2 ⟨⟨u, rfl, hrow⟩, hb⟩
        obtain ⟨ao2, cap2, rfl⟩ := row_form6 hrow
        have H2 := H1.call hb
        clear hb x0 hrow
        go_wp2_with fail
        refine (few31_any _).mono ?_
        rintro e w3 ⟨rfl, hb⟩
        rw [EF.out]
        have H3 := H2.call hb
        clear hb
        have x0 := (H3.at 2 rfl).c
        have x1 := (H3.at 1 rfl).c
        have x2 := (H3.at 0 rfl).c
        go_wp2_with fail
        refine (follow_any (a := a) (v := v) _ (HN.out.kept H3.below) (HM.out.kept H3.below)).mono ?_
        rintro e w4 ⟨⟨u, rfl, hrow⟩, hb⟩
        rw [HP.out] at hrow ⊢
        dsimp only [lcells] at hrow ⊢
        obtain ⟨po9, pc9, rfl⟩ := row_form hrow
        have H4 := H3.call hb
        clear hb x0 x1 x2
        have PB4 : Bx (w4.alloc (.cells (List.toArray [.int .i64 3, .slice po9 fs.length pc9, .int .i64 oo.a, .int .i64 oo.b, .int .i64 oo.c, .int .i64 oo.d, .int .i64 oo.e, .int .i64 oo.f, .int .i64 plo, .int .i64 phi]) 28)) w4.heap.size [.int .i64 3, .slice po9 fs.length pc9, .int .i64 oo.a, .int .i64 oo.b, .int .i64 oo.c, .int .i64 oo.d, .int .i64 oo.e, .int .i64 oo.f, .int .i64 plo, .int .i64 phi] := Bx.new rfl
        have H4 := H4.alc (.cells (List.toArray [.int .i64 3, .slice po9 fs.length pc9, .int .i64 oo.a, .int .i64 oo.b, .int .i64 oo.c, .int .i64 oo.d, .int .i64 oo.e, .int .i64 oo.f, .int .i64 plo, .int .i64 phi]) 28)
        have R4 := own_ints31 hrow rfl
        have I4 := R4.1.kept ((Below.refl _ _).alloc (Nat.le_refl _) (.cells (List.toArray [.int .i64 3, .slice po9 fs.length pc9, .int .i64 oo.a, .int .i64 oo.b, .int .i64 oo.c, .int .i64 oo.d, .int .i64 oo.e, .int .i64 oo.f, .int .i64 plo, .int .i64 phi]) 28))
        have y0 := (H4.at 2 rfl).c
        have y1 := (H4.at 1 rfl).c
        have y2 := (H4.at 0 rfl).c
        have y3 := (H4.at 2 rfl).lt
        have y4 := (H4.at 1 rfl).lt
        have y5 := (H4.at 0 rfl).lt
        clear hrow
        go_wp2_with fail
        refine (follow_any (a := a) (v := v) _ (HN.out.kept H4.below) (HM.out.kept H4.below)).mono ?_
        rintro e w5 ⟨⟨u, rfl, hrow⟩, hb⟩
        rw [HQ.out] at hrow ⊢
        dsimp only [lcells] at hrow ⊢
        obtain ⟨qo9, qc9, rfl⟩ := row_form hrow
        have H5 := H4.call hb
        have PB5 := PB4.kept hb
        have I5 := I4.kept hb
        clear hb y0 y1 y2 y3 y4 y5 PB4 I4
        have H5 := H5.alc (.cells (List.toArray [.int .i64 qk, .slice qo9 gs.length qc9, .int .i64 qo.a, .int .i64 qo.b, .int .i64 qo.c, .int .i64 qo.d, .int .i64 qo.e, .int .i64 qo.f, .int .i64 qlo, .int .i64 qhi]) 28)
        have PB5 := PB5.alc (.cells (List.toArray [.int .i64 qk, .slice qo9 gs.length qc9, .int .i64 qo.a, .int .i64 qo.b, .int .i64 qo.c, .int .i64 qo.d, .int .i64 qo.e, .int .i64 qo.f, .int .i64 qlo, .int .i64 qhi]) 28)
        have QB5 : Bx (w5.alloc (.cells (List.toArray [.int .i64 qk, .slice qo9 gs.length qc9, .int .i64 qo.a, .int .i64 qo.b, .int .i64 qo.c, .int .i64 qo.d, .int .i64 qo.e, .int .i64 qo.f, .int .i64 qlo, .int .i64 qhi]) 28)) w5.heap.size [.int .i64 qk, .slice qo9 gs.length qc9, .int .i64 qo.a, .int .i64 qo.b, .int .i64 qo.c, .int .i64 qo.d, .int .i64 qo.e, .int .i64 qo.f, .int .i64 qlo, .int .i64 qhi] := Bx.new rfl
        have J5 := (own_ints31 hrow rfl).1.kept ((Below.refl _ _).alloc (Nat.le_refl _) (.cells (List.toArray [.int .i64 qk, .slice qo9 gs.length qc9, .int .i64 qo.a, .int .i64 qo.b, .int .i64 qo.c, .int .i64 qo.d, .int .i64 qo.e, .int .i64 qo.f, .int .i64 qlo, .int .i64 qhi]) 28))
        have JC := (own_ints31 hrow rfl).2
        have I5 := I5.kept ((Below.refl _ _).alloc (Nat.le_refl _) (.cells (List.toArray [.int .i64 qk, .slice qo9 gs.length qc9, .int .i64 qo.a, .int .i64 qo.b, .int .i64 qo.c, .int .i64 qo.d, .int .i64 qo.e, .int .i64 qo.f, .int .i64 qlo, .int .i64 qhi]) 28))
        clear hrow
        have z0 := (H5.at 0 rfl).c
        have hm20 := HM20.out
        go_wp2_with fail
        go_ret
        exact ⟨rfl, H5.below⟩
      · have n5 : ¬ (most + 1 < (fs.length : Int)) := by
          have := g5' hk3
          omega
        go_enter Try.func6, Try.ntmps6
        go_wp2_with fail
        refine (awake31_any _).mono ?_
        rintro e w1 ⟨rfl, hb⟩
        have H1 := H0.call hb
        clear hb
        have x0 := (H1.at 2 rfl).c
        go_wp2_with fail
        refine (theirs31_any _ (HN.out.kept H1.below) hL).mono ?_
        rintro e w2 ⟨⟨u, rfl, hrow⟩, hb⟩
        obtain ⟨ao2, cap2, rfl⟩ := row_form6 hrow
        have H2 := H1.call hb
        clear hb x0 hrow
        go_wp2_with fail
        refine (few31_any _).mono ?_
        rintro e w3 ⟨rfl, hb⟩
        rw [EF.out]
        have H3 := H2.call hb
        clear hb
        have x0 := (H3.at 2 rfl).c
        have x1 := (H3.at 1 rfl).c
        have x2 := (H3.at 0 rfl).c
        go_wp2_with fail
        refine (follow_any (a := a) (v := v) _ (HN.out.kept H3.below) (HM.out.kept H3.below)).mono ?_
        rintro e w4 ⟨⟨u, rfl, hrow⟩, hb⟩
        rw [HP.out] at hrow ⊢
        dsimp only [lcells] at hrow ⊢
        obtain ⟨po9, pc9, rfl⟩ := row_form hrow
        have H4 := H3.call hb
        clear hb x0 x1 x2
        have PB4 : Bx (w4.alloc (.cells (List.toArray [.int .i64 pk, .slice po9 fs.length pc9, .int .i64 oo.a, .int .i64 oo.b, .int .i64 oo.c, .int .i64 oo.d, .int .i64 oo.e, .int .i64 oo.f, .int .i64 plo, .int .i64 phi]) 28)) w4.heap.size [.int .i64 pk, .slice po9 fs.length pc9, .int .i64 oo.a, .int .i64 oo.b, .int .i64 oo.c, .int .i64 oo.d, .int .i64 oo.e, .int .i64 oo.f, .int .i64 plo, .int .i64 phi] := Bx.new rfl
        have H4 := H4.alc (.cells (List.toArray [.int .i64 pk, .slice po9 fs.length pc9, .int .i64 oo.a, .int .i64 oo.b, .int .i64 oo.c, .int .i64 oo.d, .int .i64 oo.e, .int .i64 oo.f, .int .i64 plo, .int .i64 phi]) 28)
        have R4 := own_ints31 hrow rfl
        have I4 := R4.1.kept ((Below.refl _ _).alloc (Nat.le_refl _) (.cells (List.toArray [.int .i64 pk, .slice po9 fs.length pc9, .int .i64 oo.a, .int .i64 oo.b, .int .i64 oo.c, .int .i64 oo.d, .int .i64 oo.e, .int .i64 oo.f, .int .i64 plo, .int .i64 phi]) 28))
        have y0 := (H4.at 2 rfl).c
        have y1 := (H4.at 1 rfl).c
        have y2 := (H4.at 0 rfl).c
        have y3 := (H4.at 2 rfl).lt
        have y4 := (H4.at 1 rfl).lt
        have y5 := (H4.at 0 rfl).lt
        clear hrow
        go_wp2_with fail
        refine (follow_any (a := a) (v := v) _ (HN.out.kept H4.below) (HM.out.kept H4.below)).mono ?_
        rintro e w5 ⟨⟨u, rfl, hrow⟩, hb⟩
        rw [HQ.out] at hrow ⊢
        dsimp only [lcells] at hrow ⊢
        obtain ⟨qo9, qc9, rfl⟩ := row_form hrow
        have H5 := H4.call hb
        have PB5 := PB4.kept hb
        have I5 := I4.kept hb
        clear hb y0 y1 y2 y3 y4 y5 PB4 I4
        have H5 := H5.alc (.cells (List.toArray [.int .i64 qk, .slice qo9 gs.length qc9, .int .i64 qo.a, .int .i64 qo.b, .int .i64 qo.c, .int .i64 qo.d, .int .i64 qo.e, .int .i64 qo.f, .int .i64 qlo, .int .i64 qhi]) 28)
        have PB5 := PB5.alc (.cells (List.toArray [.int .i64 qk, .slice qo9 gs.length qc9, .int .i64 qo.a, .int .i64 qo.b, .int .i64 qo.c, .int .i64 qo.d, .int .i64 qo.e, .int .i64 qo.f, .int .i64 qlo, .int .i64 qhi]) 28)
        have QB5 : Bx (w5.alloc (.cells (List.toArray [.int .i64 qk, .slice qo9 gs.length qc9, .int .i64 qo.a, .int .i64 qo.b, .int .i64 qo.c, .int .i64 qo.d, .int .i64 qo.e, .int .i64 qo.f, .int .i64 qlo, .int .i64 qhi]) 28)) w5.heap.size [.int .i64 qk, .slice qo9 gs.length qc9, .int .i64 qo.a, .int .i64 qo.b, .int .i64 qo.c, .int .i64 qo.d, .int .i64 qo.e, .int .i64 qo.f, .int .i64 qlo, .int .i64 qhi] := Bx.new rfl
        have J5 := (own_ints31 hrow rfl).1.kept ((Below.refl _ _).alloc (Nat.le_refl _) (.cells (List.toArray [.int .i64 qk, .slice qo9 gs.length qc9, .int .i64 qo.a, .int .i64 qo.b, .int .i64 qo.c, .int .i64 qo.d, .int .i64 qo.e, .int .i64 qo.f, .int .i64 qlo, .int .i64 qhi]) 28))
        have JC := (own_ints31 hrow rfl).2
        have I5 := I5.kept ((Below.refl _ _).alloc (Nat.le_refl _) (.cells (List.toArray [.int .i64 qk, .slice qo9 gs.length qc9, .int .i64 qo.a, .int .i64 qo.b, .int .i64 qo.c, .int .i64 qo.d, .int .i64 qo.e, .int .i64 qo.f, .int .i64 qlo, .int .i64 qhi]) 28))
        clear hrow
        have z0 := (H5.at 0 rfl).c
        have hm20 := HM20.out
        go_wp2_with fail
        go_ret
        exact ⟨rfl, H5.below⟩
    · subst hqe
      have hgl3 := hgl2 rfl
      clear hgl2
      have EI := Lib.hid hins
      clear hins
      rcases hsame with hk3 | ⟨hk3, heq⟩
      · subst hk3
        clear g5
        go_enter Try.func6, Try.ntmps6
        go_wp2_with fail
        refine (awake31_any _).mono ?_
        rintro e w1 ⟨rfl, hb⟩
        have H1 := H0.call hb
        clear hb
        have x0 := (H1.at 2 rfl).c
        go_wp2_with fail
        refine (theirs31_any _ (HN.out.kept H1.below) hL).mono ?_
        rintro e w2 ⟨⟨u, rfl, hrow⟩, hb⟩
        obtain ⟨ao2, cap2, rfl⟩ := row_form6 hrow
        have H2 := H1.call hb
        clear hb x0 hrow
        go_wp2_with fail
        refine (few31_any _).mono ?_
        rintro e w3 ⟨rfl, hb⟩
        rw [EF.out]
        have H3 := H2.call hb
        clear hb
        have x0 := (H3.at 2 rfl).c
        have x1 := (H3.at 1 rfl).c
        have x2 := (H3.at 0 rfl).c
        go_wp2_with fail
        refine (follow_any (a := a) (v := v) _ (HN.out.kept H3.below) (HM.out.kept H3.below)).mono ?_
        rintro e w4 ⟨⟨u, rfl, hrow⟩, hb⟩
        rw [HP.out] at hrow ⊢
        dsimp only [lcells] at hrow ⊢
        obtain ⟨po9, pc9, rfl⟩ := row_form hrow
        have H4 := H3.call hb
        clear hb x0 x1 x2
        have PB4 : Bx (w4.alloc (.cells (List.toArray [.int .i64 3, .slice po9 fs.length pc9, .int .i64 oo.a, .int .i64 oo.b, .int .i64 oo.c, .int .i64 oo.d, .int .i64 oo.e, .int .i64 oo.f, .int .i64 plo, .int .i64 phi]) 28)) w4.heap.size [.int .i64 3, .slice po9 fs.length pc9, .int .i64 oo.a, .int .i64 oo.b, .int .i64 oo.c, .int .i64 oo.d, .int .i64 oo.e, .int .i64 oo.f, .int .i64 plo, .int .i64 phi] := Bx.new rfl
        have H4 := H4.alc (.cells (List.toArray [.int .i64 3, .slice po9 fs.length pc9, .int .i64 oo.a, .int .i64 oo.b, .int .i64 oo.c, .int .i64 oo.d, .int .i64 oo.e, .int .i64 oo.f, .int .i64 plo, .int .i64 phi]) 28)
        have R4 := own_ints31 hrow rfl
        have I4 := R4.1.kept ((Below.refl _ _).alloc (Nat.le_refl _) (.cells (List.toArray [.int .i64 3, .slice po9 fs.length pc9, .int .i64 oo.a, .int .i64 oo.b, .int .i64 oo.c, .int .i64 oo.d, .int .i64 oo.e, .int .i64 oo.f, .int .i64 plo, .int .i64 phi]) 28))
        have y0 := (H4.at 2 rfl).c
        have y1 := (H4.at 1 rfl).c
        have y2 := (H4.at 0 rfl).c
        have y3 := (H4.at 2 rfl).lt
        have y4 := (H4.at 1 rfl).lt
        have y5 := (H4.at 0 rfl).lt
        clear hrow
        go_wp2_with fail
        refine (follow_any (a := a) (v := v) _ (HN.out.kept H4.below) (HM.out.kept H4.below)).mono ?_
        rintro e w5 ⟨⟨u, rfl, hrow⟩, hb⟩
        rw [HQ.out] at hrow ⊢
        dsimp only [lcells] at hrow ⊢
        obtain ⟨qo9, qc9, rfl⟩ := row_form hrow
        have H5 := H4.call hb
        have PB5 := PB4.kept hb
        have I5 := I4.kept hb
        clear hb y0 y1 y2 y3 y4 y5 PB4 I4
        have H5 := H5.alc (.cells (List.toArray [.int .i64 qk, .slice qo9 gs.length qc9, .int .i64 qo.a, .int .i64 qo.b, .int .i64 qo.c, .int .i64 qo.d, .int .i64 qo.e, .int .i64 qo.f, .int .i64 qlo, .int .i64 qhi]) 28)
        have PB5 := PB5.alc (.cells (List.toArray [.int .i64 qk, .slice qo9 gs.length qc9, .int .i64 qo.a, .int .i64 qo.b, .int .i64 qo.c, .int .i64 qo.d, .int .i64 qo.e, .int .i64 qo.f, .int .i64 qlo, .int .i64 qhi]) 28)
        have QB5 : Bx (w5.alloc (.cells (List.toArray [.int .i64 qk, .slice qo9 gs.length qc9, .int .i64 qo.a, .int .i64 qo.b, .int .i64 qo.c, .int .i64 qo.d, .int .i64 qo.e, .int .i64 qo.f, .int .i64 qlo, .int .i64 qhi]) 28)) w5.heap.size [.int .i64 qk, .slice qo9 gs.length qc9, .int .i64 qo.a, .int .i64 qo.b, .int .i64 qo.c, .int .i64 qo.d, .int .i64 qo.e, .int .i64 qo.f, .int .i64 qlo, .int .i64 qhi] := Bx.new rfl
        have J5 := (own_ints31 hrow rfl).1.kept ((Below.refl _ _).alloc (Nat.le_refl _) (.cells (List.toArray [.int .i64 qk, .slice qo9 gs.length qc9, .int .i64 qo.a, .int .i64 qo.b, .int .i64 qo.c, .int .i64 qo.d, .int .i64 qo.e, .int .i64 qo.f, .int .i64 qlo, .int .i64 qhi]) 28))
        have JC := (own_ints31 hrow rfl).2
        have I5 := I5.kept ((Below.refl _ _).alloc (Nat.le_refl _) (.cells (List.toArray [.int .i64 qk, .slice qo9 gs.length qc9, .int .i64 qo.a, .int .i64 qo.b, .int .i64 qo.c, .int .i64 qo.d, .int .i64 qo.e, .int .i64 qo.f, .int .i64 qlo, .int .i64 qhi]) 28))
        clear hrow
        go_upto_region 13 with fail
        have HS : Ho (w5.alloc (.cells (List.toArray [.int .i64 qk, .slice qo9 gs.length qc9, .int .i64 qo.a, .int .i64 qo.b, .int .i64 qo.c, .int .i64 qo.d, .int .i64 qo.e, .int .i64 qo.f, .int .i64 qlo, .int .i64 qhi]) 28)) (World.drew (w5.alloc (.cells (List.toArray [.int .i64 qk, .slice qo9 gs.length qc9, .int .i64 qo.a, .int .i64 qo.b, .int .i64 qo.c, .int .i64 qo.d, .int .i64 qo.e, .int .i64 qo.f, .int .i64 qlo, .int .i64 qhi]) 28))) (w5.heap.size + 1) [(w5.heap.size, [.int .i64 qk, .slice qo9 gs.length qc9, .int .i64 qo.a, .int .i64 qo.b, .int .i64 qo.c, .int .i64 qo.d, .int .i64 qo.e, .int .i64 qo.f, .int .i64 qlo, .int .i64 qhi]), (w4.heap.size, [.int .i64 3, .slice po9 fs.length pc9, .int .i64 oo.a, .int .i64 oo.b, .int .i64 oo.c, .int .i64 oo.d, .int .i64 oo.e, .int .i64 oo.f, .int .i64 plo, .int .i64 phi])] := ⟨(Below.refl _ _).drew, by simp, by simp, fun p hp => by
          simp only [List.mem_cons, List.not_mem_nil, or_false] at hp
          rcases hp with rfl | rfl
          · exact ⟨by dsimp only; omega, QB5.rd.drew⟩
          · exact ⟨by have := PB5.lt; simp at this; dsimp only; omega, PB5.rd.drew⟩⟩
        refine region_sets (Lk.I w4.heap.size w5.heap.size po9 qo9 pc9 qc9 3 plo phi qk qlo qhi oo qo fs gs (w5.alloc (.cells (List.toArray [.int .i64 qk, .slice qo9 gs.length qc9, .int .i64 qo.a, .int .i64 qo.b, .int .i64 qo.c, .int .i64 qo.d, .int .i64 qo.e, .int .i64 qo.f, .int .i64 qlo, .int .i64 qhi]) 28))) (by kernel_rfl) ?_ ?_ ?_
        · refine ⟨false, false, false, false, false, false, false, false, false, false, false, false, false, false, false, false, undef, undef, undef, undef, undef, undef, undef, undef, undef, undef, undef, undef, undef, undef, undef, (.bool false), rfl, by simp only [Act.put, List.setIfInBounds_toArray, List.set_cons_zero, List.set_cons_succ], ?_⟩
          constructor
          · exact HS
          · (first | (simp; done) | (simp; omega))
          · (omega)
          all_goals (intro h; cases h)
        · intro L a' w' hI i hi
          obtain ⟨l0, l1, l2, l3, l4, l5, l6, l7, l8, l9, l10, l11, l12, l13, l14, l15, v0, v1, v2, v3, v4, v5, v6, v7, v8, v9, v10, v11, v12, v13, v14, v15, rfl, rfl, h⟩ := hI
          have hlt := ready_lt hi
          match i, hi, hlt with
          | 0, hi, _ =>
            have l' : l0 = false := (ready_op (o := _) rfl hi).1
            subst l'
            clear hi hlt
            have c := (h.g.at 0 rfl).c
            have H := Lib.hid h
            clear h
            refine wpOp_shut rfl (fun K hK => ?_)
            try simp only [Act.put, List.setIfInBounds_toArray, List.set_cons_zero, List.set_cons_succ]
            go_simp
            refine hK.out _ _ ?_
            unfold Lk.I
            refine ⟨true, l1, l2, l3, l4, l5, l6, l7, l8, l9, l10, l11, l12, l13, l14, l15, ((pv qo9 qc9 ⟨qk, gs, qo, qlo, qhi⟩)), v1, v2, v3, v4, v5, v6, v7, v8, v9, v10, v11, v12, v13, v14, v15, rfl, ?_, ?_⟩
            · simp only [Act.put, List.setIfInBounds_toArray, List.set_cons_zero, List.set_cons_succ]
            · exact { H.out with ev0 := fun _ => rfl }
          | 1, hi, _ =>
            have l' : l1 = false := (ready_op (o := _) rfl hi).1
            subst l'
            clear hi hlt
            have c := (h.g.at 1 rfl).c
            have H := Lib.hid h
            clear h
            refine wpOp_shut rfl (fun K hK => ?_)
            try simp only [Act.put, List.setIfInBounds_toArray, List.set_cons_zero, List.set_cons_succ]
            go_simp
            refine hK.out _ _ ?_
            unfold Lk.I
            refine ⟨l0, true, l2, l3, l4, l5, l6, l7, l8, l9, l10, l11, l12, l13, l14, l15, v0, ((pv po9 pc9 ⟨3, fs, oo, plo, phi⟩)), v2, v3, v4, v5, v6, v7, v8, v9, v10, v11, v12, v13, v14, v15, rfl, ?_, ?_⟩
            · simp only [Act.put, List.setIfInBounds_toArray, List.set_cons_zero, List.set_cons_succ]
            · exact { H.out with ev1 := fun _ => rfl }
          | 2, hi, _ =>
            have l' : l2 = false := (ready_op (o := _) rfl hi).1
            subst l'
            have k0 : l0 = true := (ready_op (o := _) rfl hi).2 { on := 0, ground := .data } (by simp) rfl
            have k1 : l1 = true := (ready_op (o := _) rfl hi).2 { on := 1, ground := .data } (by simp) rfl
            clear hi hlt
            subst k0
            subst k1
            obtain rfl := h.ev0 rfl
            obtain rfl := h.ev1 rfl
            have h2 := h.g.below
            have H := Lib.hid h
            clear h
            refine wpOp_shut rfl (fun K hK => ?_)
            try simp only [Act.put, List.setIfInBounds_toArray, List.set_cons_zero, List.set_cons_succ]
            go_simp
            refine (pins_any qo9 po9 qc9 pc9 ⟨qk, gs, qo, qlo, qhi⟩ ⟨3, fs, oo, plo, phi⟩ _ (J5.kept h2) (I5.kept h2) JC hgl3).mono ?_
            rintro e wY ⟨rfl, hb⟩
            rw [EI.out]
            try go_simp
            refine hK.out _ _ ?_
            unfold Lk.I
            refine ⟨true, true, true, l3, l4, l5, l6, l7, l8, l9, l10, l11, l12, l13, l14, l15, ((pv qo9 qc9 ⟨qk, gs, qo, qlo, qhi⟩)), ((pv po9 pc9 ⟨3, fs, oo, plo, phi⟩)), (.bool true), v3, v4, v5, v6, v7, v8, v9, v10, v11, v12, v13, v14, v15, rfl, ?_, ?_⟩
            · simp only [Act.put, List.setIfInBounds_toArray, List.set_cons_zero, List.set_cons_succ]
            · exact { (H.out.kept hb) with ev2 := fun _ => rfl }
          | 3, hi, _ =>
            have l' : l3 = false := (ready_op (o := _) rfl hi).1
            subst l'
            have k2 : l2 = true := (ready_op (o := _) rfl hi).2 { on := 2, ground := .chain } (by simp) rfl
            clear hi hlt
            subst k2
            obtain rfl := h.ev2 rfl
            have H := Lib.hid h
            clear h
            refine wpOp_shut rfl (fun K hK => ?_)
            try simp only [Act.put, List.setIfInBounds_toArray, List.set_cons_zero, List.set_cons_succ]
            go_simp
            refine hK.out _ _ ?_
            unfold Lk.I
            refine ⟨l0, l1, true, true, l4, l5, l6, l7, l8, l9, l10, l11, l12, l13, l14, l15, v0, v1, (.bool true), (.bool true), v4, v5, v6, v7, v8, v9, v10, v11, v12, v13, v14, v15, rfl, ?_, ?_⟩
            · simp only [Act.put, List.setIfInBounds_toArray, List.set_cons_zero, List.set_cons_succ]
            · exact { H.out with ev3 := fun _ => rfl }
          | 4, hi, _ =>
            have l' : l4 = false := (ready_op (o := _) rfl hi).1
            subst l'
            have k3 : l3 = true := (ready_op (o := _) rfl hi).2 { on := 3, ground := .guard } (by simp) rfl
            clear hi hlt
            subst k3
            obtain rfl := h.ev3 rfl
            have H := Lib.hid h
            clear h
            generalize hact : Act.put _ _ _ = act
            refine wpOp_want rfl (by subst hact; exact wanted_of (j := 3) (d := 89) (b := true) rfl rfl rfl (by simp only [Act.put, List.setIfInBounds_toArray, List.set_cons_zero, List.set_cons_succ]; rfl)) (fun K hK => ?_)
            subst hact
            try simp only [Act.put, List.setIfInBounds_toArray, List.set_cons_zero, List.set_cons_succ]
            go_simp
            refine hK.out _ _ ?_
            unfold Lk.I
            refine ⟨l0, l1, l2, true, true, l5, l6, l7, l8, l9, l10, l11, l12, l13, l14, l15, v0, v1, v2, (.bool true), (.pointer (some ⟨w4.heap.size, 0, none⟩)), v5, v6, v7, v8, v9, v10, v11, v12, v13, v14, v15, rfl, ?_, ?_⟩
            · simp only [Act.put, List.setIfInBounds_toArray, List.set_cons_zero, List.set_cons_succ]
            · exact { H.out with ev4 := fun _ => rfl }
          | 5, hi, _ =>
            have l' : l5 = false := (ready_op (o := _) rfl hi).1
            subst l'
            have k4 : l4 = true := (ready_op (o := _) rfl hi).2 { on := 4, ground := .data } (by simp) rfl
            have k3 : l3 = true := (ready_op (o := _) rfl hi).2 { on := 3, ground := .guard } (by simp) rfl
            clear hi hlt
            subst k4
            subst k3
            obtain rfl := h.ev4 rfl
            obtain rfl := h.ev3 rfl
            have c := (h.g.at 1 rfl).c
            have H := Lib.hid h
            clear h
            generalize hact : Act.put _ _ _ = act
            refine wpOp_want rfl (by subst hact; exact wanted_of (j := 3) (d := 89) (b := true) rfl rfl rfl (by simp only [Act.put, List.setIfInBounds_toArray, List.set_cons_zero, List.set_cons_succ]; rfl)) (fun K hK => ?_)
            subst hact
            try simp only [Act.put, List.setIfInBounds_toArray, List.set_cons_zero, List.set_cons_succ]
            go_simp
            refine hK.out _ _ ?_
            unfold Lk.I
            refine ⟨l0, l1, l2, true, true, true, l6, l7, l8, l9, l10, l11, l12, l13, l14, l15, v0, v1, v2, (.bool true), (.pointer (some ⟨w4.heap.size, 0, none⟩)), (.int .i64 3), v6, v7, v8, v9, v10, v11, v12, v13, v14, v15, rfl, ?_, ?_⟩
            · simp only [Act.put, List.setIfInBounds_toArray, List.set_cons_zero, List.set_cons_succ]
            · exact { H.out with ev5 := fun _ => rfl }
          | 6, hi, _ =>
            have l' : l6 = false := (ready_op (o := _) rfl hi).1
            subst l'
            have k5 : l5 = true := (ready_op (o := _) rfl hi).2 { on := 5, ground := .data } (by simp) rfl
            have k3 : l3 = true := (ready_op (o := _) rfl hi).2 { on := 3, ground := .guard } (by simp) rfl
            clear hi hlt
            subst k5
            subst k3
            obtain rfl := h.ev5 rfl
            obtain rfl := h.ev3 rfl
            have H := Lib.hid h
            clear h
            generalize hact : Act.put _ _ _ = act
            refine wpOp_want rfl (by subst hact; exact wanted_of (j := 3) (d := 89) (b := true) rfl rfl rfl (by simp only [Act.put, List.setIfInBounds_toArray, List.set_cons_zero, List.set_cons_succ]; rfl)) (fun K hK => ?_)
            subst hact
            try simp only [Act.put, List.setIfInBounds_toArray, List.set_cons_zero, List.set_cons_succ]
            go_simp
            refine hK.out _ _ ?_
            unfold Lk.I
            refine ⟨l0, l1, l2, true, l4, true, true, l7, l8, l9, l10, l11, l12, l13, l14, l15, v0, v1, v2, (.bool true), v4, (.int .i64 3), (.bool true), v7, v8, v9, v10, v11, v12, v13, v14, v15, rfl, ?_, ?_⟩
            · simp only [Act.put, List.setIfInBounds_toArray, List.set_cons_zero, List.set_cons_succ]
            · exact { H.out with ev6 := fun _ => rfl }
          | 7, hi, _ =>
            have l' : l7 = false := (ready_op (o := _) rfl hi).1
            subst l'
            have k6 : l6 = true := (ready_op (o := _) rfl hi).2 { on := 6, ground := .data } (by simp) rfl
            have k3 : l3 = true := (ready_op (o := _) rfl hi).2 { on := 3, ground := .guard } (by simp) rfl
            clear hi hlt
            subst k6
            subst k3
            obtain rfl := h.ev6 rfl
            obtain rfl := h.ev3 rfl
            have H := Lib.hid h
            clear h
            generalize hact : Act.put _ _ _ = act
            refine wpOp_want rfl (by subst hact; exact wanted_of (j := 3) (d := 89) (b := true) rfl rfl rfl (by simp only [Act.put, List.setIfInBounds_toArray, List.set_cons_zero, List.set_cons_succ]; rfl)) (fun K hK => ?_)
            subst hact
            try simp only [Act.put, List.setIfInBounds_toArray, List.set_cons_zero, List.set_cons_succ]
            go_simp
            refine hK.out _ _ ?_
            unfold Lk.I
            refine ⟨l0, l1, l2, true, l4, l5, true, true, l8, l9, l10, l11, l12, l13, l14, l15, v0, v1, v2, (.bool true), v4, v5, (.bool true), (.bool true), v8, v9, v10, v11, v12, v13, v14, v15, rfl, ?_, ?_⟩
            · simp only [Act.put, List.setIfInBounds_toArray, List.set_cons_zero, List.set_cons_succ]
            · exact { H.out with ev7 := fun _ => rfl }
          | 8, hi, _ =>
            have l' : l8 = false := (ready_op (o := _) rfl hi).1
            subst l'
            have k7 : l7 = true := (ready_op (o := _) rfl hi).2 { on := 7, ground := .guard } (by simp) rfl
            clear hi hlt
            subst k7
            obtain rfl := h.ev7 rfl
            have H := Lib.hid h
            clear h
            generalize hact : Act.put _ _ _ = act
            refine wpOp_skip (d := some 94) rfl rfl (by subst hact; exact wanted_not (j := 7) (d := 93) (b := false) (b' := true) rfl rfl rfl (by simp only [Act.put, List.setIfInBounds_toArray, List.set_cons_zero, List.set_cons_succ]; rfl) (by decide)) ?_
            subst hact
            try simp only [Act.put, List.setIfInBounds_toArray, List.set_cons_zero, List.set_cons_succ]
            unfold Lk.I
            refine ⟨l0, l1, l2, l3, l4, l5, l6, true, true, l9, l10, l11, l12, l13, l14, l15, v0, v1, v2, v3, v4, v5, v6, (.bool true), (undef), v9, v10, v11, v12, v13, v14, v15, rfl, ?_, ?_⟩
            · simp only [Act.put, List.setIfInBounds_toArray, List.set_cons_zero, List.set_cons_succ]
            · exact { H.out with ev8 := fun _ => rfl }
          | 9, hi, _ =>
            have l' : l9 = false := (ready_op (o := _) rfl hi).1
            subst l'
            have k8 : l8 = true := (ready_op (o := _) rfl hi).2 { on := 8, ground := .data } (by simp) rfl
            have k7 : l7 = true := (ready_op (o := _) rfl hi).2 { on := 7, ground := .guard } (by simp) rfl
            clear hi hlt
            subst k8
            subst k7
            obtain rfl := h.ev8 rfl
            obtain rfl := h.ev7 rfl
            have H := Lib.hid h
            clear h
            generalize hact : Act.put _ _ _ = act
            refine wpOp_skip (d := some 95) rfl rfl (by subst hact; exact wanted_not (j := 7) (d := 93) (b := false) (b' := true) rfl rfl rfl (by simp only [Act.put, List.setIfInBounds_toArray, List.set_cons_zero, List.set_cons_succ]; rfl) (by decide)) ?_
            subst hact
            try simp only [Act.put, List.setIfInBounds_toArray, List.set_cons_zero, List.set_cons_succ]
            unfold Lk.I
            refine ⟨l0, l1, l2, l3, l4, l5, l6, true, true, true, l10, l11, l12, l13, l14, l15, v0, v1, v2, v3, v4, v5, v6, (.bool true), (undef), (undef), v10, v11, v12, v13, v14, v15, rfl, ?_, ?_⟩
            · simp only [Act.put, List.setIfInBounds_toArray, List.set_cons_zero, List.set_cons_succ]
            · exact { H.out with ev9 := fun _ => rfl }
          | 10, hi, _ =>
            have l' : l10 = false := (ready_op (o := _) rfl hi).1
            subst l'
            have k7 : l7 = true := (ready_op (o := _) rfl hi).2 { on := 7, ground := .guard } (by simp) rfl
            clear hi hlt
            subst k7
            obtain rfl := h.ev7 rfl
            have H := Lib.hid h
            clear h
            generalize hact : Act.put _ _ _ = act
            refine wpOp_skip (d := some 96) rfl rfl (by subst hact; exact wanted_not (j := 7) (d := 93) (b := false) (b' := true) rfl rfl rfl (by simp only [Act.put, List.setIfInBounds_toArray, List.set_cons_zero, List.set_cons_succ]; rfl) (by decide)) ?_
            subst hact
            try simp only [Act.put, List.setIfInBounds_toArray, List.set_cons_zero, List.set_cons_succ]
            unfold Lk.I
            refine ⟨l0, l1, l2, l3, l4, l5, l6, true, l8, l9, true, l11, l12, l13, l14, l15, v0, v1, v2, v3, v4, v5, v6, (.bool true), v8, v9, (undef), v11, v12, v13, v14, v15, rfl, ?_, ?_⟩
            · simp only [Act.put, List.setIfInBounds_toArray, List.set_cons_zero, List.set_cons_succ]
            · exact { H.out with ev10 := fun _ => rfl }
          | 11, hi, _ =>
            have l' : l11 = false := (ready_op (o := _) rfl hi).1
            subst l'
            have k10 : l10 = true := (ready_op (o := _) rfl hi).2 { on := 10, ground := .data } (by simp) rfl
            have k9 : l9 = true := (ready_op (o := _) rfl hi).2 { on := 9, ground := .chain } (by simp) rfl
            have k7 : l7 = true := (ready_op (o := _) rfl hi).2 { on := 7, ground := .guard } (by simp) rfl
            clear hi hlt
            subst k10
            subst k9
            subst k7
            obtain rfl := h.ev10 rfl
            obtain rfl := h.ev9 rfl
            obtain rfl := h.ev7 rfl
            have H := Lib.hid h
            clear h
            generalize hact : Act.put _ _ _ = act
            refine wpOp_skip (d := some 97) rfl rfl (by subst hact; exact wanted_not (j := 7) (d := 93) (b := false) (b' := true) rfl rfl rfl (by simp only [Act.put, List.setIfInBounds_toArray, List.set_cons_zero, List.set_cons_succ]; rfl) (by decide)) ?_
            subst hact
            try simp only [Act.put, List.setIfInBounds_toArray, List.set_cons_zero, List.set_cons_succ]
            unfold Lk.I
            refine ⟨l0, l1, l2, l3, l4, l5, l6, true, l8, true, true, true, l12, l13, l14, l15, v0, v1, v2, v3, v4, v5, v6, (.bool true), v8, (undef), (undef), (undef), v12, v13, v14, v15, rfl, ?_, ?_⟩
            · simp only [Act.put, List.setIfInBounds_toArray, List.set_cons_zero, List.set_cons_succ]
            · exact { H.out with ev11 := fun _ => rfl }
          | 12, hi, _ =>
            have l' : l12 = false := (ready_op (o := _) rfl hi).1
            subst l'
            have k9 : l9 = true := (ready_op (o := _) rfl hi).2 { on := 9, ground := .data } (by simp) rfl
            have k11 : l11 = true := (ready_op (o := _) rfl hi).2 { on := 11, ground := .chain } (by simp) rfl
            have k7 : l7 = true := (ready_op (o := _) rfl hi).2 { on := 7, ground := .guard } (by simp) rfl
            clear hi hlt
            subst k9
            subst k11
            subst k7
            obtain rfl := h.ev9 rfl
            obtain rfl := h.ev11 rfl
            obtain rfl := h.ev7 rfl
            have H := Lib.hid h
            clear h
            generalize hact : Act.put _ _ _ = act
            refine wpOp_skip (d := some 98) rfl rfl (by subst hact; exact wanted_not (j := 7) (d := 93) (b := false) (b' := true) rfl rfl rfl (by simp only [Act.put, List.setIfInBounds_toArray, List.set_cons_zero, List.set_cons_succ]; rfl) (by decide)) ?_
            subst hact
            try simp only [Act.put, List.setIfInBounds_toArray, List.set_cons_zero, List.set_cons_succ]
            unfold Lk.I
            refine ⟨l0, l1, l2, l3, l4, l5, l6, true, l8, true, l10, true, true, l13, l14, l15, v0, v1, v2, v3, v4, v5, v6, (.bool true), v8, (undef), v10, (undef), (undef), v13, v14, v15, rfl, ?_, ?_⟩
            · simp only [Act.put, List.setIfInBounds_toArray, List.set_cons_zero, List.set_cons_succ]
            · exact { H.out with ev12 := fun _ => rfl }
          | 13, hi, _ =>
            have l' : l13 = false := (ready_op (o := _) rfl hi).1
            subst l'
            have k7 : l7 = true := (ready_op (o := _) rfl hi).2 { on := 7, ground := .data } (by simp) rfl
            have k12 : l12 = true := (ready_op (o := _) rfl hi).2 { on := 12, ground := .data } (by simp) rfl
            have k3 : l3 = true := (ready_op (o := _) rfl hi).2 { on := 3, ground := .guard } (by simp) rfl
            clear hi hlt
            subst k7
            subst k12
            subst k3
            obtain rfl := h.ev7 rfl
            obtain rfl := h.ev12 rfl
            obtain rfl := h.ev3 rfl
            have H := Lib.hid h
            clear h
            generalize hact : Act.put _ _ _ = act
            refine wpOp_want rfl (by subst hact; exact wanted_of (j := 3) (d := 89) (b := true) rfl rfl rfl (by simp only [Act.put, List.setIfInBounds_toArray, List.set_cons_zero, List.set_cons_succ]; rfl)) (fun K hK => ?_)
            subst hact
            try simp only [Act.put, List.setIfInBounds_toArray, List.set_cons_zero, List.set_cons_succ]
            go_simp
            refine hK.out _ _ ?_
            unfold Lk.I
            refine ⟨l0, l1, l2, true, l4, l5, l6, true, l8, l9, l10, l11, true, true, l14, l15, v0, v1, v2, (.bool true), v4, v5, v6, (.bool true), v8, v9, v10, v11, (undef), (.bool true), v14, v15, rfl, ?_, ?_⟩
            · simp only [Act.put, List.setIfInBounds_toArray, List.set_cons_zero, List.set_cons_succ]
            · exact { H.out with ev13 := fun _ => rfl }
          | 14, hi, _ =>
            have l' : l14 = false := (ready_op (o := _) rfl hi).1
            subst l'
            have k3 : l3 = true := (ready_op (o := _) rfl hi).2 { on := 3, ground := .data } (by simp) rfl
            have k13 : l13 = true := (ready_op (o := _) rfl hi).2 { on := 13, ground := .data } (by simp) rfl
            clear hi hlt
            subst k3
            subst k13
            obtain rfl := h.ev3 rfl
            obtain rfl := h.ev13 rfl
            have H := Lib.hid h
            clear h
            refine wpOp_shut rfl (fun K hK => ?_)
            try simp only [Act.put, List.setIfInBounds_toArray, List.set_cons_zero, List.set_cons_succ]
            go_simp
            refine hK.out _ _ ?_
            unfold Lk.I
            refine ⟨l0, l1, l2, true, l4, l5, l6, l7, l8, l9, l10, l11, l12, true, true, l15, v0, v1, v2, (.bool true), v4, v5, v6, v7, v8, v9, v10, v11, v12, (.bool true), (.bool true), v15, rfl, ?_, ?_⟩
            · simp only [Act.put, List.setIfInBounds_toArray, List.set_cons_zero, List.set_cons_succ]
            · exact { H.out with ev14 := fun _ => rfl }
          | 15, hi, _ =>
            have l' : l15 = false := (ready_op (o := _) rfl hi).1
            subst l'
            have k14 : l14 = true := (ready_op (o := _) rfl hi).2 { on := 14, ground := .phase } (by simp) rfl
            have k12 : l12 = true := (ready_op (o := _) rfl hi).2 { on := 12, ground := .phase } (by simp) rfl
            have k0 : l0 = true := (ready_op (o := _) rfl hi).2 { on := 0, ground := .phase } (by simp) rfl
            have k1 : l1 = true := (ready_op (o := _) rfl hi).2 { on := 1, ground := .phase } (by simp) rfl
            have k2 : l2 = true := (ready_op (o := _) rfl hi).2 { on := 2, ground := .phase } (by simp) rfl
            have k3 : l3 = true := (ready_op (o := _) rfl hi).2 { on := 3, ground := .phase } (by simp) rfl
            have k4 : l4 = true := (ready_op (o := _) rfl hi).2 { on := 4, ground := .phase } (by simp) rfl
            have k5 : l5 = true := (ready_op (o := _) rfl hi).2 { on := 5, ground := .phase } (by simp) rfl
            have k6 : l6 = true := (ready_op (o := _) rfl hi).2 { on := 6, ground := .phase } (by simp) rfl
            have k7 : l7 = true := (ready_op (o := _) rfl hi).2 { on := 7, ground := .phase } (by simp) rfl
            have k8 : l8 = true := (ready_op (o := _) rfl hi).2 { on := 8, ground := .phase } (by simp) rfl
            have k9 : l9 = true := (ready_op (o := _) rfl hi).2 { on := 9, ground := .phase } (by simp) rfl
            have k10 : l10 = true := (ready_op (o := _) rfl hi).2 { on := 10, ground := .phase } (by simp) rfl
            have k11 : l11 = true := (ready_op (o := _) rfl hi).2 { on := 11, ground := .phase } (by simp) rfl
            have k13 : l13 = true := (ready_op (o := _) rfl hi).2 { on := 13, ground := .phase } (by simp) rfl
            clear hi hlt
            subst k14
            subst k12
            subst k0
            subst k1
            subst k2
            subst k3
            subst k4
            subst k5
            subst k6
            subst k7
            subst k8
            subst k9
            subst k10
            subst k11
            subst k13
            obtain rfl := h.ev14 rfl
            obtain rfl := h.ev12 rfl
            obtain rfl := h.ev0 rfl
            obtain rfl := h.ev1 rfl
            obtain rfl := h.ev2 rfl
            obtain rfl := h.ev3 rfl
            obtain rfl := h.ev4 rfl
            obtain rfl := h.ev5 rfl
            obtain rfl := h.ev6 rfl
            obtain rfl := h.ev7 rfl
            obtain rfl := h.ev8 rfl
            obtain rfl := h.ev9 rfl
            obtain rfl := h.ev10 rfl
            obtain rfl := h.ev11 rfl
            obtain rfl := h.ev13 rfl
            have H := Lib.hid h
            clear h
            refine wpOp_shut rfl (fun K hK => ?_)
            try simp only [Act.put, List.setIfInBounds_toArray, List.set_cons_zero, List.set_cons_succ]
            go_simp
            refine hK.out _ _ ?_
            unfold Lk.I
            refine ⟨true, true, true, true, true, true, true, true, true, true, true, true, true, true, true, true, ((pv qo9 qc9 ⟨qk, gs, qo, qlo, qhi⟩)), ((pv po9 pc9 ⟨3, fs, oo, plo, phi⟩)), (.bool true), (.bool true), (.pointer (some ⟨w4.heap.size, 0, none⟩)), (.int .i64 3), (.bool true), (.bool true), (undef), (undef), (undef), (undef), (undef), (.bool true), (.bool true), (.bool true), rfl, ?_, ?_⟩
            · simp only [Act.put, List.setIfInBounds_toArray, List.set_cons_zero, List.set_cons_succ]
            · exact { H.out with ev15 := fun _ => rfl }
          | i + 16, _, hlt => exact absurd hlt (by simp)
        · intro L a' w' hI hn
          obtain ⟨l0, l1, l2, l3, l4, l5, l6, l7, l8, l9, l10, l11, l12, l13, l14, l15, v0, v1, v2, v3, v4, v5, v6, v7, v8, v9, v10, v11, v12, v13, v14, v15, rfl, rfl, h⟩ := hI
          have k0 : l0 = true := not_ready (i := 0) (o := _) rfl hn (by simp [Region.binds])
          subst k0
          have k1 : l1 = true := not_ready (i := 1) (o := _) rfl hn (by simp [Region.binds])
          subst k1
          have k2 : l2 = true := not_ready (i := 2) (o := _) rfl hn (by simp [Region.binds])
          subst k2
          have k3 : l3 = true := not_ready (i := 3) (o := _) rfl hn (by simp [Region.binds])
          subst k3
          have k4 : l4 = true := not_ready (i := 4) (o := _) rfl hn (by simp [Region.binds])
          subst k4
          have k5 : l5 = true := not_ready (i := 5) (o := _) rfl hn (by simp [Region.binds])
          subst k5
          have k6 : l6 = true := not_ready (i := 6) (o := _) rfl hn (by simp [Region.binds])
          subst k6
          have k7 : l7 = true := not_ready (i := 7) (o := _) rfl hn (by simp [Region.binds])
          subst k7
          have k8 : l8 = true := not_ready (i := 8) (o := _) rfl hn (by simp [Region.binds])
          subst k8
          have k9 : l9 = true := not_ready (i := 9) (o := _) rfl hn (by simp [Region.binds])
          subst k9
          have k10 : l10 = true := not_ready (i := 10) (o := _) rfl hn (by simp [Region.binds])
          subst k10
          have k11 : l11 = true := not_ready (i := 11) (o := _) rfl hn (by simp [Region.binds])
          subst k11
          have k12 : l12 = true := not_ready (i := 12) (o := _) rfl hn (by simp [Region.binds])
          subst k12
          have k13 : l13 = true := not_ready (i := 13) (o := _) rfl hn (by simp [Region.binds])
          subst k13
          have k14 : l14 = true := not_ready (i := 14) (o := _) rfl hn (by simp [Region.binds])
          subst k14
          have k15 : l15 = true := not_ready (i := 15) (o := _) rfl hn (by simp [Region.binds])
          subst k15
          clear hn
          obtain rfl := h.ev0 rfl
          obtain rfl := h.ev1 rfl
          obtain rfl := h.ev2 rfl
          obtain rfl := h.ev3 rfl
          obtain rfl := h.ev4 rfl
          obtain rfl := h.ev5 rfl
          obtain rfl := h.ev6 rfl
          obtain rfl := h.ev7 rfl
          obtain rfl := h.ev8 rfl
          obtain rfl := h.ev9 rfl
          obtain rfl := h.ev10 rfl
          obtain rfl := h.ev11 rfl
          obtain rfl := h.ev12 rfl
          obtain rfl := h.ev13 rfl
          obtain rfl := h.ev14 rfl
          obtain rfl := h.ev15 rfl
          simp only [Act.put, List.setIfInBounds_toArray, List.set_cons_zero, List.set_cons_succ]
          rename World => w6
          have H6 := h.g.below
          clear h
          go_wp2_with fail
          go_ret
          exact ⟨by first | rfl | simp, H5.below.trans (H6.mono H5.below.size)⟩
      · have n5 : ¬ (most + 1 < (fs.length : Int)) := by
          have := g5 hk3
          omega
        have hk3b : (pk == 3) = false := by simpa using hk3
        cases heq
        go_enter Try.func6, Try.ntmps6
        go_wp2_with fail
        refine (awake31_any _).mono ?_
        rintro e w1 ⟨rfl, hb⟩
        have H1 := H0.call hb
        clear hb
        have x0 := (H1.at 2 rfl).c
        go_wp2_with fail
        refine (theirs31_any _ (HN.out.kept H1.below) hL).mono ?_
        rintro e w2 ⟨⟨u, rfl, hrow⟩, hb⟩
        obtain ⟨ao2, cap2, rfl⟩ := row_form6 hrow
        have H2 := H1.call hb
        clear hb x0 hrow
        go_wp2_with fail
        refine (few31_any _).mono ?_
        rintro e w3 ⟨rfl, hb⟩
        rw [EF.out]
        have H3 := H2.call hb
        clear hb
        have x0 := (H3.at 2 rfl).c
        have x1 := (H3.at 1 rfl).c
        have x2 := (H3.at 0 rfl).c
        go_wp2_with fail
        refine (follow_any (a := a) (v := v) _ (HN.out.kept H3.below) (HM.out.kept H3.below)).mono ?_
        rintro e w4 ⟨⟨u, rfl, hrow⟩, hb⟩
        rw [HP.out] at hrow ⊢
        dsimp only [lcells] at hrow ⊢
        obtain ⟨po9, pc9, rfl⟩ := row_form hrow
        have H4 := H3.call hb
        clear hb x0 x1 x2
        have PB4 : Bx (w4.alloc (.cells (List.toArray [.int .i64 pk, .slice po9 fs.length pc9, .int .i64 oo.a, .int .i64 oo.b, .int .i64 oo.c, .int .i64 oo.d, .int .i64 oo.e, .int .i64 oo.f, .int .i64 plo, .int .i64 phi]) 28)) w4.heap.size [.int .i64 pk, .slice po9 fs.length pc9, .int .i64 oo.a, .int .i64 oo.b, .int .i64 oo.c, .int .i64 oo.d, .int .i64 oo.e, .int .i64 oo.f, .int .i64 plo, .int .i64 phi] := Bx.new rfl
        have H4 := H4.alc (.cells (List.toArray [.int .i64 pk, .slice po9 fs.length pc9, .int .i64 oo.a, .int .i64 oo.b, .int .i64 oo.c, .int .i64 oo.d, .int .i64 oo.e, .int .i64 oo.f, .int .i64 plo, .int .i64 phi]) 28)
        have R4 := own_ints31 hrow rfl
        have I4 := R4.1.kept ((Below.refl _ _).alloc (Nat.le_refl _) (.cells (List.toArray [.int .i64 pk, .slice po9 fs.length pc9, .int .i64 oo.a, .int .i64 oo.b, .int .i64 oo.c, .int .i64 oo.d, .int .i64 oo.e, .int .i64 oo.f, .int .i64 plo, .int .i64 phi]) 28))
        have y0 := (H4.at 2 rfl).c
        have y1 := (H4.at 1 rfl).c
        have y2 := (H4.at 0 rfl).c
        have y3 := (H4.at 2 rfl).lt
        have y4 := (H4.at 1 rfl).lt
        have y5 := (H4.at 0 rfl).lt
        clear hrow
        go_wp2_with fail
        refine (follow_any (a := a) (v := v) _ (HN.out.kept H4.below) (HM.out.kept H4.below)).mono ?_
        rintro e w5 ⟨⟨u, rfl, hrow⟩, hb⟩
        rw [HQ.out] at hrow ⊢
        dsimp only [lcells] at hrow ⊢
        obtain ⟨qo9, qc9, rfl⟩ := row_form hrow
        have H5 := H4.call hb
        have PB5 := PB4.kept hb
        have I5 := I4.kept hb
        clear hb y0 y1 y2 y3 y4 y5 PB4 I4
        have H5 := H5.alc (.cells (List.toArray [.int .i64 pk, .slice qo9 fs.length qc9, .int .i64 oo.a, .int .i64 oo.b, .int .i64 oo.c, .int .i64 oo.d, .int .i64 oo.e, .int .i64 oo.f, .int .i64 plo, .int .i64 phi]) 28)
        have PB5 := PB5.alc (.cells (List.toArray [.int .i64 pk, .slice qo9 fs.length qc9, .int .i64 oo.a, .int .i64 oo.b, .int .i64 oo.c, .int .i64 oo.d, .int .i64 oo.e, .int .i64 oo.f, .int .i64 plo, .int .i64 phi]) 28)
        have QB5 : Bx (w5.alloc (.cells (List.toArray [.int .i64 pk, .slice qo9 fs.length qc9, .int .i64 oo.a, .int .i64 oo.b, .int .i64 oo.c, .int .i64 oo.d, .int .i64 oo.e, .int .i64 oo.f, .int .i64 plo, .int .i64 phi]) 28)) w5.heap.size [.int .i64 pk, .slice qo9 fs.length qc9, .int .i64 oo.a, .int .i64 oo.b, .int .i64 oo.c, .int .i64 oo.d, .int .i64 oo.e, .int .i64 oo.f, .int .i64 plo, .int .i64 phi] := Bx.new rfl
        have J5 := (own_ints31 hrow rfl).1.kept ((Below.refl _ _).alloc (Nat.le_refl _) (.cells (List.toArray [.int .i64 pk, .slice qo9 fs.length qc9, .int .i64 oo.a, .int .i64 oo.b, .int .i64 oo.c, .int .i64 oo.d, .int .i64 oo.e, .int .i64 oo.f, .int .i64 plo, .int .i64 phi]) 28))
        have JC := (own_ints31 hrow rfl).2
        have I5 := I5.kept ((Below.refl _ _).alloc (Nat.le_refl _) (.cells (List.toArray [.int .i64 pk, .slice qo9 fs.length qc9, .int .i64 oo.a, .int .i64 oo.b, .int .i64 oo.c, .int .i64 oo.d, .int .i64 oo.e, .int .i64 oo.f, .int .i64 plo, .int .i64 phi]) 28))
        clear hrow
        go_upto_region 13 with fail
        have HS : Ho (w5.alloc (.cells (List.toArray [.int .i64 pk, .slice qo9 fs.length qc9, .int .i64 oo.a, .int .i64 oo.b, .int .i64 oo.c, .int .i64 oo.d, .int .i64 oo.e, .int .i64 oo.f, .int .i64 plo, .int .i64 phi]) 28)) (World.drew (w5.alloc (.cells (List.toArray [.int .i64 pk, .slice qo9 fs.length qc9, .int .i64 oo.a, .int .i64 oo.b, .int .i64 oo.c, .int .i64 oo.d, .int .i64 oo.e, .int .i64 oo.f, .int .i64 plo, .int .i64 phi]) 28))) (w5.heap.size + 1) [(w5.heap.size, [.int .i64 pk, .slice qo9 fs.length qc9, .int .i64 oo.a, .int .i64 oo.b, .int .i64 oo.c, .int .i64 oo.d, .int .i64 oo.e, .int .i64 oo.f, .int .i64 plo, .int .i64 phi]), (w4.heap.size, [.int .i64 pk, .slice po9 fs.length pc9, .int .i64 oo.a, .int .i64 oo.b, .int .i64 oo.c, .int .i64 oo.d, .int .i64 oo.e, .int .i64 oo.f, .int .i64 plo, .int .i64 phi])] := ⟨(Below.refl _ _).drew, by simp, by simp, fun p hp => by
          simp only [List.mem_cons, List.not_mem_nil, or_false] at hp
          rcases hp with rfl | rfl
          · exact ⟨by dsimp only; omega, QB5.rd.drew⟩
          · exact ⟨by have := PB5.lt; simp at this; dsimp only; omega, PB5.rd.drew⟩⟩
        refine region_sets (Lm.I w4.heap.size w5.heap.size po9 qo9 pc9 qc9 pk plo phi oo fs (w5.alloc (.cells (List.toArray [.int .i64 pk, .slice qo9 fs.length qc9, .int .i64 oo.a, .int .i64 oo.b, .int .i64 oo.c, .int .i64 oo.d, .int .i64 oo.e, .int .i64 oo.f, .int .i64 plo, .int .i64 phi]) 28))) (by kernel_rfl) ?_ ?_ ?_
        · refine ⟨false, false, false, false, false, false, false, false, false, false, false, false, false, false, false, false, undef, undef, undef, undef, undef, undef, undef, undef, undef, undef, undef, undef, undef, undef, undef, (.bool false), rfl, by simp only [Act.put, List.setIfInBounds_toArray, List.set_cons_zero, List.set_cons_succ], ?_⟩
          constructor
          · exact HS
          · (first | (simp; done) | (simp; omega))
          · (omega)
          all_goals (intro h; cases h)
        · intro L a' w' hI i hi
          obtain ⟨l0, l1, l2, l3, l4, l5, l6, l7, l8, l9, l10, l11, l12, l13, l14, l15, v0, v1, v2, v3, v4, v5, v6, v7, v8, v9, v10, v11, v12, v13, v14, v15, rfl, rfl, h⟩ := hI
          have hlt := ready_lt hi
          match i, hi, hlt with
          | 0, hi, _ =>
            have l' : l0 = false := (ready_op (o := _) rfl hi).1
            subst l'
            clear hi hlt
            have c := (h.g.at 0 rfl).c
            have H := Lib.hid h
            clear h
            refine wpOp_shut rfl (fun K hK => ?_)
            try simp only [Act.put, List.setIfInBounds_toArray, List.set_cons_zero, List.set_cons_succ]
            go_simp
            refine hK.out _ _ ?_
            unfold Lm.I
            refine ⟨true, l1, l2, l3, l4, l5, l6, l7, l8, l9, l10, l11, l12, l13, l14, l15, ((pv qo9 qc9 ⟨pk, fs, oo, plo, phi⟩)), v1, v2, v3, v4, v5, v6, v7, v8, v9, v10, v11, v12, v13, v14, v15, rfl, ?_, ?_⟩
            · simp only [Act.put, List.setIfInBounds_toArray, List.set_cons_zero, List.set_cons_succ]
            · exact { H.out with ev0 := fun _ => rfl }
          | 1, hi, _ =>
            have l' : l1 = false := (ready_op (o := _) rfl hi).1
            subst l'
            clear hi hlt
            have c := (h.g.at 1 rfl).c
            have H := Lib.hid h
            clear h
            refine wpOp_shut rfl (fun K hK => ?_)
            try simp only [Act.put, List.setIfInBounds_toArray, List.set_cons_zero, List.set_cons_succ]
            go_simp
            refine hK.out _ _ ?_
            unfold Lm.I
            refine ⟨l0, true, l2, l3, l4, l5, l6, l7, l8, l9, l10, l11, l12, l13, l14, l15, v0, ((pv po9 pc9 ⟨pk, fs, oo, plo, phi⟩)), v2, v3, v4, v5, v6, v7, v8, v9, v10, v11, v12, v13, v14, v15, rfl, ?_, ?_⟩
            · simp only [Act.put, List.setIfInBounds_toArray, List.set_cons_zero, List.set_cons_succ]
            · exact { H.out with ev1 := fun _ => rfl }
          | 2, hi, _ =>
            have l' : l2 = false := (ready_op (o := _) rfl hi).1
            subst l'
            have k0 : l0 = true := (ready_op (o := _) rfl hi).2 { on := 0, ground := .data } (by simp) rfl
            have k1 : l1 = true := (ready_op (o := _) rfl hi).2 { on := 1, ground := .data } (by simp) rfl
            clear hi hlt
            subst k0
            subst k1
            obtain rfl := h.ev0 rfl
            obtain rfl := h.ev1 rfl
            have h2 := h.g.below
            have H := Lib.hid h
            clear h
            refine wpOp_shut rfl (fun K hK => ?_)
            try simp only [Act.put, List.setIfInBounds_toArray, List.set_cons_zero, List.set_cons_succ]
            go_simp
            refine (pins_any qo9 po9 qc9 pc9 ⟨pk, fs, oo, plo, phi⟩ ⟨pk, fs, oo, plo, phi⟩ _ (J5.kept h2) (I5.kept h2) JC hfl).mono ?_
            rintro e wY ⟨rfl, hb⟩
            rw [EI.out]
            try go_simp
            refine hK.out _ _ ?_
            unfold Lm.I
            refine ⟨true, true, true, l3, l4, l5, l6, l7, l8, l9, l10, l11, l12, l13, l14, l15, ((pv qo9 qc9 ⟨pk, fs, oo, plo, phi⟩)), ((pv po9 pc9 ⟨pk, fs, oo, plo, phi⟩)), (.bool true), v3, v4, v5, v6, v7, v8, v9, v10, v11, v12, v13, v14, v15, rfl, ?_, ?_⟩
            · simp only [Act.put, List.setIfInBounds_toArray, List.set_cons_zero, List.set_cons_succ]
            · exact { (H.out.kept hb) with ev2 := fun _ => rfl }
          | 3, hi, _ =>
            have l' : l3 = false := (ready_op (o := _) rfl hi).1
            subst l'
            have k2 : l2 = true := (ready_op (o := _) rfl hi).2 { on := 2, ground := .chain } (by simp) rfl
            clear hi hlt
            subst k2
            obtain rfl := h.ev2 rfl
            have H := Lib.hid h
            clear h
            refine wpOp_shut rfl (fun K hK => ?_)
            try simp only [Act.put, List.setIfInBounds_toArray, List.set_cons_zero, List.set_cons_succ]
            go_simp
            refine hK.out _ _ ?_
            unfold Lm.I
            refine ⟨l0, l1, true, true, l4, l5, l6, l7, l8, l9, l10, l11, l12, l13, l14, l15, v0, v1, (.bool true), (.bool true), v4, v5, v6, v7, v8, v9, v10, v11, v12, v13, v14, v15, rfl, ?_, ?_⟩
            · simp only [Act.put, List.setIfInBounds_toArray, List.set_cons_zero, List.set_cons_succ]
            · exact { H.out with ev3 := fun _ => rfl }
          | 4, hi, _ =>
            have l' : l4 = false := (ready_op (o := _) rfl hi).1
            subst l'
            have k3 : l3 = true := (ready_op (o := _) rfl hi).2 { on := 3, ground := .guard } (by simp) rfl
            clear hi hlt
            subst k3
            obtain rfl := h.ev3 rfl
            have H := Lib.hid h
            clear h
            generalize hact : Act.put _ _ _ = act
            refine wpOp_want rfl (by subst hact; exact wanted_of (j := 3) (d := 89) (b := true) rfl rfl rfl (by simp only [Act.put, List.setIfInBounds_toArray, List.set_cons_zero, List.set_cons_succ]; rfl)) (fun K hK => ?_)
            subst hact
            try simp only [Act.put, List.setIfInBounds_toArray, List.set_cons_zero, List.set_cons_succ]
            go_simp
            refine hK.out _ _ ?_
            unfold Lm.I
            refine ⟨l0, l1, l2, true, true, l5, l6, l7, l8, l9, l10, l11, l12, l13, l14, l15, v0, v1, v2, (.bool true), (.pointer (some ⟨w4.heap.size, 0, none⟩)), v5, v6, v7, v8, v9, v10, v11, v12, v13, v14, v15, rfl, ?_, ?_⟩
            · simp only [Act.put, List.setIfInBounds_toArray, List.set_cons_zero, List.set_cons_succ]
            · exact { H.out with ev4 := fun _ => rfl }
          | 5, hi, _ =>
            have l' : l5 = false := (ready_op (o := _) rfl hi).1
            subst l'
            have k4 : l4 = true := (ready_op (o := _) rfl hi).2 { on := 4, ground := .data } (by simp) rfl
            have k3 : l3 = true := (ready_op (o := _) rfl hi).2 { on := 3, ground := .guard } (by simp) rfl
            clear hi hlt
            subst k4
            subst k3
            obtain rfl := h.ev4 rfl
            obtain rfl := h.ev3 rfl
            have c := (h.g.at 1 rfl).c
            have H := Lib.hid h
            clear h
            generalize hact : Act.put _ _ _ = act
            refine wpOp_want rfl (by subst hact; exact wanted_of (j := 3) (d := 89) (b := true) rfl rfl rfl (by simp only [Act.put, List.setIfInBounds_toArray, List.set_cons_zero, List.set_cons_succ]; rfl)) (fun K hK => ?_)
            subst hact
            try simp only [Act.put, List.setIfInBounds_toArray, List.set_cons_zero, List.set_cons_succ]
            go_simp
            refine hK.out _ _ ?_
            unfold Lm.I
            refine ⟨l0, l1, l2, true, true, true, l6, l7, l8, l9, l10, l11, l12, l13, l14, l15, v0, v1, v2, (.bool true), (.pointer (some ⟨w4.heap.size, 0, none⟩)), (.int .i64 pk), v6, v7, v8, v9, v10, v11, v12, v13, v14, v15, rfl, ?_, ?_⟩
            · simp only [Act.put, List.setIfInBounds_toArray, List.set_cons_zero, List.set_cons_succ]
            · exact { H.out with ev5 := fun _ => rfl }
          | 6, hi, _ =>
            have l' : l6 = false := (ready_op (o := _) rfl hi).1
            subst l'
            have k5 : l5 = true := (ready_op (o := _) rfl hi).2 { on := 5, ground := .data } (by simp) rfl
            have k3 : l3 = true := (ready_op (o := _) rfl hi).2 { on := 3, ground := .guard } (by simp) rfl
            clear hi hlt
            subst k5
            subst k3
            obtain rfl := h.ev5 rfl
            obtain rfl := h.ev3 rfl
            have H := Lib.hid h
            clear h
            generalize hact : Act.put _ _ _ = act
            refine wpOp_want rfl (by subst hact; exact wanted_of (j := 3) (d := 89) (b := true) rfl rfl rfl (by simp only [Act.put, List.setIfInBounds_toArray, List.set_cons_zero, List.set_cons_succ]; rfl)) (fun K hK => ?_)
            subst hact
            try simp only [Act.put, List.setIfInBounds_toArray, List.set_cons_zero, List.set_cons_succ]
            go_simp
            refine hK.out _ _ ?_
            unfold Lm.I
            refine ⟨l0, l1, l2, true, l4, true, true, l7, l8, l9, l10, l11, l12, l13, l14, l15, v0, v1, v2, (.bool true), v4, (.int .i64 pk), (.bool false), v7, v8, v9, v10, v11, v12, v13, v14, v15, rfl, ?_, ?_⟩
            · simp only [Act.put, List.setIfInBounds_toArray, List.set_cons_zero, List.set_cons_succ]
            · exact { H.out with ev6 := fun _ => rfl }
          | 7, hi, _ =>
            have l' : l7 = false := (ready_op (o := _) rfl hi).1
            subst l'
            have k6 : l6 = true := (ready_op (o := _) rfl hi).2 { on := 6, ground := .data } (by simp) rfl
            have k3 : l3 = true := (ready_op (o := _) rfl hi).2 { on := 3, ground := .guard } (by simp) rfl
            clear hi hlt
            subst k6
            subst k3
            obtain rfl := h.ev6 rfl
            obtain rfl := h.ev3 rfl
            have H := Lib.hid h
            clear h
            generalize hact : Act.put _ _ _ = act
            refine wpOp_want rfl (by subst hact; exact wanted_of (j := 3) (d := 89) (b := true) rfl rfl rfl (by simp only [Act.put, List.setIfInBounds_toArray, List.set_cons_zero, List.set_cons_succ]; rfl)) (fun K hK => ?_)
            subst hact
            try simp only [Act.put, List.setIfInBounds_toArray, List.set_cons_zero, List.set_cons_succ]
            go_simp
            refine hK.out _ _ ?_
            unfold Lm.I
            refine ⟨l0, l1, l2, true, l4, l5, true, true, l8, l9, l10, l11, l12, l13, l14, l15, v0, v1, v2, (.bool true), v4, v5, (.bool false), (.bool false), v8, v9, v10, v11, v12, v13, v14, v15, rfl, ?_, ?_⟩
            · simp only [Act.put, List.setIfInBounds_toArray, List.set_cons_zero, List.set_cons_succ]
            · exact { H.out with ev7 := fun _ => rfl }
          | 8, hi, _ =>
            have l' : l8 = false := (ready_op (o := _) rfl hi).1
            subst l'
            have k7 : l7 = true := (ready_op (o := _) rfl hi).2 { on := 7, ground := .guard } (by simp) rfl
            clear hi hlt
            subst k7
            obtain rfl := h.ev7 rfl
            have c := (h.g.at 1 rfl).c
            have H := Lib.hid h
            clear h
            generalize hact : Act.put _ _ _ = act
            refine wpOp_want rfl (by subst hact; exact wanted_of (j := 7) (d := 93) (b := false) rfl rfl rfl (by simp only [Act.put, List.setIfInBounds_toArray, List.set_cons_zero, List.set_cons_succ]; rfl)) (fun K hK => ?_)
            subst hact
            try simp only [Act.put, List.setIfInBounds_toArray, List.set_cons_zero, List.set_cons_succ]
            go_simp
            refine hK.out _ _ ?_
            unfold Lm.I
            refine ⟨l0, l1, l2, l3, l4, l5, l6, true, true, l9, l10, l11, l12, l13, l14, l15, v0, v1, v2, v3, v4, v5, v6, (.bool false), ((pv po9 pc9 ⟨pk, fs, oo, plo, phi⟩)), v9, v10, v11, v12, v13, v14, v15, rfl, ?_, ?_⟩
            · simp only [Act.put, List.setIfInBounds_toArray, List.set_cons_zero, List.set_cons_succ]
            · exact { H.out with ev8 := fun _ => rfl }
          | 9, hi, _ =>
            have l' : l9 = false := (ready_op (o := _) rfl hi).1
            subst l'
            have k8 : l8 = true := (ready_op (o := _) rfl hi).2 { on := 8, ground := .data } (by simp) rfl
            have k7 : l7 = true := (ready_op (o := _) rfl hi).2 { on := 7, ground := .guard } (by simp) rfl
            clear hi hlt
            subst k8
            subst k7
            obtain rfl := h.ev8 rfl
            obtain rfl := h.ev7 rfl
            have H := Lib.hid h
            clear h
            generalize hact : Act.put _ _ _ = act
            refine wpOp_want rfl (by subst hact; exact wanted_of (j := 7) (d := 93) (b := false) rfl rfl rfl (by simp only [Act.put, List.setIfInBounds_toArray, List.set_cons_zero, List.set_cons_succ]; rfl)) (fun K hK => ?_)
            subst hact
            try simp only [Act.put, List.setIfInBounds_toArray, List.set_cons_zero, List.set_cons_succ]
            go_simp
            refine (way_any po9 pc9 ⟨pk, fs, oo, plo, phi⟩ _).mono ?_
            rintro e wY ⟨rfl, hb⟩
            try go_simp
            refine hK.out _ _ ?_
            unfold Lm.I
            refine ⟨l0, l1, l2, l3, l4, l5, l6, true, true, true, l10, l11, l12, l13, l14, l15, v0, v1, v2, v3, v4, v5, v6, (.bool false), ((pv po9 pc9 ⟨pk, fs, oo, plo, phi⟩)), ((pv po9 pc9 ⟨pk, fs, oo, plo, phi⟩)), v10, v11, v12, v13, v14, v15, rfl, ?_, ?_⟩
            · simp only [Act.put, List.setIfInBounds_toArray, List.set_cons_zero, List.set_cons_succ]
            · exact { (H.out.kept hb) with ev9 := fun _ => rfl }
          | 10, hi, _ =>
            have l' : l10 = false := (ready_op (o := _) rfl hi).1
            subst l'
            have k7 : l7 = true := (ready_op (o := _) rfl hi).2 { on := 7, ground := .guard } (by simp) rfl
            clear hi hlt
            subst k7
            obtain rfl := h.ev7 rfl
            have c := (h.g.at 0 rfl).c
            have H := Lib.hid h
            clear h
            generalize hact : Act.put _ _ _ = act
            refine wpOp_want rfl (by subst hact; exact wanted_of (j := 7) (d := 93) (b := false) rfl rfl rfl (by simp only [Act.put, List.setIfInBounds_toArray, List.set_cons_zero, List.set_cons_succ]; rfl)) (fun K hK => ?_)
            subst hact
            try simp only [Act.put, List.setIfInBounds_toArray, List.set_cons_zero, List.set_cons_succ]
            go_simp
            refine hK.out _ _ ?_
            unfold Lm.I
            refine ⟨l0, l1, l2, l3, l4, l5, l6, true, l8, l9, true, l11, l12, l13, l14, l15, v0, v1, v2, v3, v4, v5, v6, (.bool false), v8, v9, ((pv qo9 qc9 ⟨pk, fs, oo, plo, phi⟩)), v11, v12, v13, v14, v15, rfl, ?_, ?_⟩
            · simp only [Act.put, List.setIfInBounds_toArray, List.set_cons_zero, List.set_cons_succ]
            · exact { H.out with ev10 := fun _ => rfl }
          | 11, hi, _ =>
            have l' : l11 = false := (ready_op (o := _) rfl hi).1
            subst l'
            have k10 : l10 = true := (ready_op (o := _) rfl hi).2 { on := 10, ground := .data } (by simp) rfl
            have k9 : l9 = true := (ready_op (o := _) rfl hi).2 { on := 9, ground := .chain } (by simp) rfl
            have k7 : l7 = true := (ready_op (o := _) rfl hi).2 { on := 7, ground := .guard } (by simp) rfl
            clear hi hlt
            subst k10
            subst k9
            subst k7
            obtain rfl := h.ev10 rfl
            obtain rfl := h.ev9 rfl
            obtain rfl := h.ev7 rfl
            have H := Lib.hid h
            clear h
            generalize hact : Act.put _ _ _ = act
            refine wpOp_want rfl (by subst hact; exact wanted_of (j := 7) (d := 93) (b := false) rfl rfl rfl (by simp only [Act.put, List.setIfInBounds_toArray, List.set_cons_zero, List.set_cons_succ]; rfl)) (fun K hK => ?_)
            subst hact
            try simp only [Act.put, List.setIfInBounds_toArray, List.set_cons_zero, List.set_cons_succ]
            go_simp
            refine (way_any qo9 qc9 ⟨pk, fs, oo, plo, phi⟩ _).mono ?_
            rintro e wY ⟨rfl, hb⟩
            try go_simp
            refine hK.out _ _ ?_
            unfold Lm.I
            refine ⟨l0, l1, l2, l3, l4, l5, l6, true, l8, true, true, true, l12, l13, l14, l15, v0, v1, v2, v3, v4, v5, v6, (.bool false), v8, ((pv po9 pc9 ⟨pk, fs, oo, plo, phi⟩)), ((pv qo9 qc9 ⟨pk, fs, oo, plo, phi⟩)), ((pv qo9 qc9 ⟨pk, fs, oo, plo, phi⟩)), v12, v13, v14, v15, rfl, ?_, ?_⟩
            · simp only [Act.put, List.setIfInBounds_toArray, List.set_cons_zero, List.set_cons_succ]
            · exact { (H.out.kept hb) with ev11 := fun _ => rfl }
          | 12, hi, _ =>
            have l' : l12 = false := (ready_op (o := _) rfl hi).1
            subst l'
            have k9 : l9 = true := (ready_op (o := _) rfl hi).2 { on := 9, ground := .data } (by simp) rfl
            have k11 : l11 = true := (ready_op (o := _) rfl hi).2 { on := 11, ground := .chain } (by simp) rfl
            have k7 : l7 = true := (ready_op (o := _) rfl hi).2 { on := 7, ground := .guard } (by simp) rfl
            clear hi hlt
            subst k9
            subst k11
            subst k7
            obtain rfl := h.ev9 rfl
            obtain rfl := h.ev11 rfl
            obtain rfl := h.ev7 rfl
            have h2 := h.g.below
            have H := Lib.hid h
            clear h
            generalize hact : Act.put _ _ _ = act
            refine wpOp_want rfl (by subst hact; exact wanted_of (j := 7) (d := 93) (b := false) rfl rfl rfl (by simp only [Act.put, List.setIfInBounds_toArray, List.set_cons_zero, List.set_cons_succ]; rfl)) (fun K hK => ?_)
            subst hact
            try simp only [Act.put, List.setIfInBounds_toArray, List.set_cons_zero, List.set_cons_succ]
            go_simp
            refine (same31_any po9 qo9 pc9 qc9 ⟨pk, fs, oo, plo, phi⟩ _ (I5.kept h2) (J5.kept h2) hfl).mono ?_
            rintro e wY ⟨rfl, hb⟩
            try go_simp
            refine hK.out _ _ ?_
            unfold Lm.I
            refine ⟨l0, l1, l2, l3, l4, l5, l6, true, l8, true, l10, true, true, l13, l14, l15, v0, v1, v2, v3, v4, v5, v6, (.bool false), v8, ((pv po9 pc9 ⟨pk, fs, oo, plo, phi⟩)), v10, ((pv qo9 qc9 ⟨pk, fs, oo, plo, phi⟩)), (.bool true), v13, v14, v15, rfl, ?_, ?_⟩
            · simp only [Act.put, List.setIfInBounds_toArray, List.set_cons_zero, List.set_cons_succ]
            · exact { (H.out.kept hb) with ev12 := fun _ => rfl }
          | 13, hi, _ =>
            have l' : l13 = false := (ready_op (o := _) rfl hi).1
            subst l'
            have k7 : l7 = true := (ready_op (o := _) rfl hi).2 { on := 7, ground := .data } (by simp) rfl
            have k12 : l12 = true := (ready_op (o := _) rfl hi).2 { on := 12, ground := .data } (by simp) rfl
            have k3 : l3 = true := (ready_op (o := _) rfl hi).2 { on := 3, ground := .guard } (by simp) rfl
            clear hi hlt
            subst k7
            subst k12
            subst k3
            obtain rfl := h.ev7 rfl
            obtain rfl := h.ev12 rfl
            obtain rfl := h.ev3 rfl
            have H := Lib.hid h
            clear h
            generalize hact : Act.put _ _ _ = act
            refine wpOp_want rfl (by subst hact; exact wanted_of (j := 3) (d := 89) (b := true) rfl rfl rfl (by simp only [Act.put, List.setIfInBounds_toArray, List.set_cons_zero, List.set_cons_succ]; rfl)) (fun K hK => ?_)
            subst hact
            try simp only [Act.put, List.setIfInBounds_toArray, List.set_cons_zero, List.set_cons_succ]
            go_simp
            refine hK.out _ _ ?_
            unfold Lm.I
            refine ⟨l0, l1, l2, true, l4, l5, l6, true, l8, l9, l10, l11, true, true, l14, l15, v0, v1, v2, (.bool true), v4, v5, v6, (.bool false), v8, v9, v10, v11, (.bool true), (.bool true), v14, v15, rfl, ?_, ?_⟩
            · simp only [Act.put, List.setIfInBounds_toArray, List.set_cons_zero, List.set_cons_succ]
            · exact { H.out with ev13 := fun _ => rfl }
          | 14, hi, _ =>
            have l' : l14 = false := (ready_op (o := _) rfl hi).1
            subst l'
            have k3 : l3 = true := (ready_op (o := _) rfl hi).2 { on := 3, ground := .data } (by simp) rfl
            have k13 : l13 = true := (ready_op (o := _) rfl hi).2 { on := 13, ground := .data } (by simp) rfl
            clear hi hlt
            subst k3
            subst k13
            obtain rfl := h.ev3 rfl
            obtain rfl := h.ev13 rfl
            have H := Lib.hid h
            clear h
            refine wpOp_shut rfl (fun K hK => ?_)
            try simp only [Act.put, List.setIfInBounds_toArray, List.set_cons_zero, List.set_cons_succ]
            go_simp
            refine hK.out _ _ ?_
            unfold Lm.I
            refine ⟨l0, l1, l2, true, l4, l5, l6, l7, l8, l9, l10, l11, l12, true, true, l15, v0, v1, v2, (.bool true), v4, v5, v6, v7, v8, v9, v10, v11, v12, (.bool true), (.bool true), v15, rfl, ?_, ?_⟩
            · simp only [Act.put, List.setIfInBounds_toArray, List.set_cons_zero, List.set_cons_succ]
            · exact { H.out with ev14 := fun _ => rfl }
          | 15, hi, _ =>
            have l' : l15 = false := (ready_op (o := _) rfl hi).1
            subst l'
            have k14 : l14 = true := (ready_op (o := _) rfl hi).2 { on := 14, ground := .phase } (by simp) rfl
            have k12 : l12 = true := (ready_op (o := _) rfl hi).2 { on := 12, ground := .phase } (by simp) rfl
            have k0 : l0 = true := (ready_op (o := _) rfl hi).2 { on := 0, ground := .phase } (by simp) rfl
            have k1 : l1 = true := (ready_op (o := _) rfl hi).2 { on := 1, ground := .phase } (by simp) rfl
            have k2 : l2 = true := (ready_op (o := _) rfl hi).2 { on := 2, ground := .phase } (by simp) rfl
            have k3 : l3 = true := (ready_op (o := _) rfl hi).2 { on := 3, ground := .phase } (by simp) rfl
            have k4 : l4 = true := (ready_op (o := _) rfl hi).2 { on := 4, ground := .phase } (by simp) rfl
            have k5 : l5 = true := (ready_op (o := _) rfl hi).2 { on := 5, ground := .phase } (by simp) rfl
            have k6 : l6 = true := (ready_op (o := _) rfl hi).2 { on := 6, ground := .phase } (by simp) rfl
            have k7 : l7 = true := (ready_op (o := _) rfl hi).2 { on := 7, ground := .phase } (by simp) rfl
            have k8 : l8 = true := (ready_op (o := _) rfl hi).2 { on := 8, ground := .phase } (by simp) rfl
            have k9 : l9 = true := (ready_op (o := _) rfl hi).2 { on := 9, ground := .phase } (by simp) rfl
            have k10 : l10 = true := (ready_op (o := _) rfl hi).2 { on := 10, ground := .phase } (by simp) rfl
            have k11 : l11 = true := (ready_op (o := _) rfl hi).2 { on := 11, ground := .phase } (by simp) rfl
            have k13 : l13 = true := (ready_op (o := _) rfl hi).2 { on := 13, ground := .phase } (by simp) rfl
            clear hi hlt
            subst k14
            subst k12
            subst k0
            subst k1
            subst k2
            subst k3
            subst k4
            subst k5
            subst k6
            subst k7
            subst k8
            subst k9
            subst k10
            subst k11
            subst k13
            obtain rfl := h.ev14 rfl
            obtain rfl := h.ev12 rfl
            obtain rfl := h.ev0 rfl
            obtain rfl := h.ev1 rfl
            obtain rfl := h.ev2 rfl
            obtain rfl := h.ev3 rfl
            obtain rfl := h.ev4 rfl
            obtain rfl := h.ev5 rfl
            obtain rfl := h.ev6 rfl
            obtain rfl := h.ev7 rfl
            obtain rfl := h.ev8 rfl
            obtain rfl := h.ev9 rfl
            obtain rfl := h.ev10 rfl
            obtain rfl := h.ev11 rfl
            obtain rfl := h.ev13 rfl
            have H := Lib.hid h
            clear h
            refine wpOp_shut rfl (fun K hK => ?_)
            try simp only [Act.put, List.setIfInBounds_toArray, List.set_cons_zero, List.set_cons_succ]
            go_simp
            refine hK.out _ _ ?_
            unfold Lm.I
            refine ⟨true, true, true, true, true, true, true, true, true, true, true, true, true, true, true, true, ((pv qo9 qc9 ⟨pk, fs, oo, plo, phi⟩)), ((pv po9 pc9 ⟨pk, fs, oo, plo, phi⟩)), (.bool true), (.bool true), (.pointer (some ⟨w4.heap.size, 0, none⟩)), (.int .i64 pk), (.bool false), (.bool false), ((pv po9 pc9 ⟨pk, fs, oo, plo, phi⟩)), ((pv po9 pc9 ⟨pk, fs, oo, plo, phi⟩)), ((pv qo9 qc9 ⟨pk, fs, oo, plo, phi⟩)), ((pv qo9 qc9 ⟨pk, fs, oo, plo, phi⟩)), (.bool true), (.bool true), (.bool true), (.bool true), rfl, ?_, ?_⟩
            · simp only [Act.put, List.setIfInBounds_toArray, List.set_cons_zero, List.set_cons_succ]
            · exact { H.out with ev15 := fun _ => rfl }
          | i + 16, _, hlt => exact absurd hlt (by simp)
        · intro L a' w' hI hn
          obtain ⟨l0, l1, l2, l3, l4, l5, l6, l7, l8, l9, l10, l11, l12, l13, l14, l15, v0, v1, v2, v3, v4, v5, v6, v7, v8, v9, v10, v11, v12, v13, v14, v15, rfl, rfl, h⟩ := hI
          have k0 : l0 = true := not_ready (i := 0) (o := _) rfl hn (by simp [Region.binds])
          subst k0
          have k1 : l1 = true := not_ready (i := 1) (o := _) rfl hn (by simp [Region.binds])
          subst k1
          have k2 : l2 = true := not_ready (i := 2) (o := _) rfl hn (by simp [Region.binds])
          subst k2
          have k3 : l3 = true := not_ready (i := 3) (o := _) rfl hn (by simp [Region.binds])
          subst k3
          have k4 : l4 = true := not_ready (i := 4) (o := _) rfl hn (by simp [Region.binds])
          subst k4
          have k5 : l5 = true := not_ready (i := 5) (o := _) rfl hn (by simp [Region.binds])
          subst k5
          have k6 : l6 = true := not_ready (i := 6) (o := _) rfl hn (by simp [Region.binds])
          subst k6
          have k7 : l7 = true := not_ready (i := 7) (o := _) rfl hn (by simp [Region.binds])
          subst k7
          have k8 : l8 = true := not_ready (i := 8) (o := _) rfl hn (by simp [Region.binds])
          subst k8
          have k9 : l9 = true := not_ready (i := 9) (o := _) rfl hn (by simp [Region.binds])
          subst k9
          have k10 : l10 = true := not_ready (i := 10) (o := _) rfl hn (by simp [Region.binds])
          subst k10
          have k11 : l11 = true := not_ready (i := 11) (o := _) rfl hn (by simp [Region.binds])
          subst k11
          have k12 : l12 = true := not_ready (i := 12) (o := _) rfl hn (by simp [Region.binds])
          subst k12
          have k13 : l13 = true := not_ready (i := 13) (o := _) rfl hn (by simp [Region.binds])
          subst k13
          have k14 : l14 = true := not_ready (i := 14) (o := _) rfl hn (by simp [Region.binds])
          subst k14
          have k15 : l15 = true := not_ready (i := 15) (o := _) rfl hn (by simp [Region.binds])
          subst k15
          clear hn
          obtain rfl := h.ev0 rfl
          obtain rfl := h.ev1 rfl
          obtain rfl := h.ev2 rfl
          obtain rfl := h.ev3 rfl
          obtain rfl := h.ev4 rfl
          obtain rfl := h.ev5 rfl
          obtain rfl := h.ev6 rfl
          obtain rfl := h.ev7 rfl
          obtain rfl := h.ev8 rfl
          obtain rfl := h.ev9 rfl
          obtain rfl := h.ev10 rfl
          obtain rfl := h.ev11 rfl
          obtain rfl := h.ev12 rfl
          obtain rfl := h.ev13 rfl
          obtain rfl := h.ev14 rfl
          obtain rfl := h.ev15 rfl
          simp only [Act.put, List.setIfInBounds_toArray, List.set_cons_zero, List.set_cons_succ]
          rename World => w6
          have H6 := h.g.below
          clear h
          go_wp2_with fail
          go_ret
          exact ⟨by first | rfl | simp, H5.below.trans (H6.mono H5.below.size)⟩
end Go.Proofs.Ytedfciddfpcifaa.Iv

/- A body that comes in: how many bytes its slices take at most. -/
namespace Go.Proofs.Ytedfciddfpcifaa.Iv
open Go.ChangeShapes Go.WideShapes Go.ChangeAt Go.RowKit Go.Deep

theorem bDir31 : Try.prog.bytesOf 26 = 48 := by kernel_rfl
theorem bIv31 : Try.prog.bytesOf 24 = 16 := by kernel_rfl
theorem slice_w31 {H : Type} {enc : TypeId × Value → H} {w : World} {fuel : Nat} {spare : Nat → Bool} {held : Bool} {x : DataW H × List MemPlace} {t e : TypeId} {a : Option Addr} {n c : Nat} (ht : Try.prog.underlying t = some (.slice e))
    (h : DataW.trod enc Try.prog w 0 spare held fuel t [.slice a n c] = some x) (hw : ∀ k ∈ x.1.weights Try.prog t, k ≤ reachBytes) : n * Try.prog.bytesOf e ≤ reachBytes := by
  rcases open_slice ht h with ⟨hcs, _⟩ | ⟨a', l, c', m, k, D, Pl, hcs, _, hl, hm, hmm, hx, _⟩
  · simp at hcs
    obtain ⟨_, rfl, _⟩ := hcs
    rw [Nat.zero_mul]
    exact Nat.zero_le _
  · simp at hcs
    obtain ⟨_, rfl, _⟩ := hcs
    have := hw ((((List.range n).map D).length + ((List.range (m - n)).map fun j => D (n + j)).length) * Try.prog.bytesOf e) (by rw [hx]; simp [DataW.weights, ht])
    simp only [List.length_map, List.length_range] at this
    exact Nat.le_trans (Nat.mul_le_mul_right _ (Nat.le_add_right _ _)) this
set_option maxRecDepth 100000 in
theorem body_w31 {H : Type} {enc : TypeId × Value → H} {w : World} {fuel : Nat} {spare : Nat → Bool} {held : Bool} {x : DataW H × List MemPlace} {na da : Option Addr} {n m nc dc : Nat} {i0 i1 : Int}
    (h : DataW.trod enc Try.prog w 0 spare held fuel 39 [.slice na n nc, .slice da m dc, .int .i64 i0, .int .i64 i1] = some x) (hw : ∀ k ∈ x.1.weights Try.prog 39, k ≤ reachBytes) : n * 48 ≤ reachBytes ∧ m * 16 ≤ reachBytes := by
  obtain ⟨xs, f, _, hx, _, hxl, hf⟩ := DataW.trod_struct Try.underlying39 h
  have h0 : DataW.trod enc Try.prog w 0 spare held f 36 ((([.slice na n nc, .slice da m dc, .int .i64 i0, .int .i64 i1] : List Value).drop 0).take (Try.prog.cellsOf 36)) = xs[0]? := hf 0 _ rfl
  have h1 : DataW.trod enc Try.prog w 0 spare held f 37 ((([.slice na n nc, .slice da m dc, .int .i64 i0, .int .i64 i1] : List Value).drop 1).take (Try.prog.cellsOf 37)) = xs[1]? := hf 1 _ rfl
  rw [cDirs31] at h0
  rw [cIvs31] at h1
  have hl : xs.length = 3 := by simpa using hxl
  match xs, hl with
  | [x0, x1, x2], _ =>
    subst hx
    have g0 := slice_w31 Try.underlying36 (h0.trans rfl) (fun k hk => hw k (by
      simp only [DataW.weights, Try.underlying39]
      exact DataW.weights_mem_each (j := 0) rfl rfl k hk))
    have g1 := slice_w31 Try.underlying37 (h1.trans rfl) (fun k hk => hw k (by
      simp only [DataW.weights, Try.underlying39]
      exact DataW.weights_mem_each (j := 1) rfl rfl k hk))
    rw [bDir31] at g0
    rw [bIv31] at g1
    exact ⟨g0, g1⟩
set_option maxRecDepth 100000 in
theorem body_sz {H : Type} {enc : TypeId × Value → H} {w : World} {r : Reach} {b0 : Nat} {spare : Nat → Bool} {held : Bool} {v : Value} {d : DataW H} {p : List MemPlace}
    (hv : Value.okWide Try.prog w r b0 39 v) (h : DataW.Trod enc Try.prog w 0 spare held 39 v d p) (hw : ∀ k ∈ d.weights Try.prog 39, k ≤ reachBytes) :
    ∃ na L nc da M dc i0 i1, v = .agg #[.slice na (L : List D).length nc, .slice da (M : List (Int × Int)).length dc, .int .i64 i0, .int .i64 i1] ∧ NAt w na L ∧ PAt w da M ∧ L.length * 48 ≤ 140737488351232 ∧ M.length * 16 ≤ 140737488351232 := by
  obtain ⟨l, fuel, rfl, hf⟩ := agg_of Try.underlying39 hv h
  obtain ⟨na, L, nc, da, M, dc, i0, i1, rfl, h1, h2, h3, h4⟩ := body31 hf
  obtain ⟨g0, g1⟩ := body_w31 hf hw
  exact ⟨na, L, nc, da, M, dc, i0, i1, rfl, h1, h2, g0, g1⟩
end Go.Proofs.Ytedfciddfpcifaa.Iv

/- TraceLight returns true for every input, and the arguments read afterwards as they read before; no conditions. -/
namespace Go.Proofs.Ytedfciddfpcifaa.Iv.traceLight
open Go.ChangeShapes Go.WideShapes Go.ChangeAt Go.RowKit Go.Deep

theorem own : ownKnob Try.prog.godebug = none := own31
theorem laidOut : laidOutB Try.prog = true := laidOut31
set_option maxRecDepth 100000 in
set_option maxHeartbeats 4000000 in
theorem lifted (os : Os) (started : os.Started) (H : Type) (enc : TypeId × Value → H) :
    ReturnsInHanded {} Try.checked os 6 .any (Rows.traceLightSpec.pre6 enc Try.prog Try.f6 Rows.traceLightRow.domain false) (Rows.traceLightSpec.post enc Try.prog Try.f6 false true false false) := by
  refine returnsInHanded_of_change_sized (C := Try.checked) own started (by kernel_rfl) Try.func6
    (ChangeSpec.witness6 (enc := enc) (C := Try.checked) false ⟨#[], #[.agg #[.slice none 0 0, .slice none 0 0, .int .i64 0, .int .i64 0], .agg #[.int .i64 0, .int .i64 0, .int .i64 0, .int .i64 0, .int .i64 0, .int .i64 0, .int .i64 0, .int .i64 0, .int .i64 0, .int .i64 0, .int .i64 0, .int .i64 0], .agg #[.int .i64 0, .int .i64 0, .int .i64 0]], []⟩ 40 (by kernel_rfl) (by kernel_rfl) (by kernel_rfl) (by kernel_rfl)) ?_
  intro W base args ds gs before hval0 hW hcnd hsz _
  have hval : ∀ (j : Nat) t v, Try.f6.params[j]? = some t → args[j]? = some v → Value.okWide Try.prog W .any base t v := hval0
  have hW' := hW
  obtain ⟨p, q, hA0, hV, rfl, hfz, hnd⟩ := hW
  have hA : DataW.TrodAll enc Try.prog W 0 (fun _ => true) true Try.f6.params.toList args.toList ds p := hA0
  rw [Try.params6] at hA hval
  obtain ⟨v0, vs0, d0, ds0, p0, q0, hargs, rfl, rfl, h0, r0⟩ := trodAll_cons hA
  obtain ⟨v1, vs1, d1, ds1, p1, q1, rfl, rfl, rfl, h1, r1⟩ := trodAll_cons r0
  obtain ⟨v2, vs2, d2, ds2, p2, q2, rfl, rfl, rfl, h2, r2⟩ := trodAll_cons r1
  obtain ⟨rfl, rfl, rfl⟩ := trodAll_nil r2
  obtain rfl : args = #[v0, v1, v2] := by cases args; simp_all
  obtain ⟨rfl, rfl⟩ := trodVars_none hV
  have k0 := h0
  have k1 := h1
  have k2 := h2
  have lt0 : ∀ x ∈ p0, x.block < W.heap.size := by obtain ⟨m, hm⟩ := k0; exact DataW.trod_lt m _ _ _ hm
  have lt1 : ∀ x ∈ p1, x.block < W.heap.size := by obtain ⟨m, hm⟩ := k1; exact DataW.trod_lt m _ _ _ hm
  have lt2 : ∀ x ∈ p2, x.block < W.heap.size := by obtain ⟨m, hm⟩ := k2; exact DataW.trod_lt m _ _ _ hm
  obtain ⟨na, L, nc, da, M, dc, i0, i1, rfl, hN, hM, hL, hLM⟩ := body_sz (hval 0 39 v0 rfl rfl) h0 (fun k hk => by have := List.all_eq_true.1 hsz k (DataW.weights_mem_each (j := 0) rfl rfl k hk); simpa using this)
  obtain ⟨a, v, rfl⟩ := ray_of (hval 1 41 v1 rfl rfl) h1
  obtain ⟨gl, gh, most, rfl⟩ := light_of (hval 2 67 v2 rfl rfl) h2
  clear hA0 hval0
  refine (tLight_law W hN hM hL).mono fun e W' ⟨he, bel⟩ => ?_
  subst he
  exact ⟨_, rfl, _, _, _, [], _, [], hW', trodAll_mk1 (shut_bool Try.underlying4 _), (trodAll_cons_mk (Below.trod laidOut (by kernel_rfl) (of_decide_eq_true (by kernel_rfl)) k0 bel lt0) (trodAll_cons_mk (Below.trod laidOut (by kernel_rfl) (of_decide_eq_true (by kernel_rfl)) k1 bel lt1) (trodAll_cons_mk (Below.trod laidOut (by kernel_rfl) (of_decide_eq_true (by kernel_rfl)) k2 bel lt2) trodAll_mk0))), rfl, bel.frame _, fun h => by cases h⟩

theorem holds : Rows.TraceLightSaid :=
  OpenClaim.holds_of_wide 6 Try.f6 rfl rfl rfl rfl rfl rfl rfl ⟨rfl, rfl, rfl, rfl, rfl⟩ rfl rfl rfl rfl rfl (by kernel_rfl) Try.func6 (by kernel_rfl)
    (of_decide_eq_true (by kernel_rfl)) (by unfold Func.isWrapper; first | (rw [if_pos (by decide +kernel)]; kernel_rfl) | (rw [if_neg (by decide +kernel)]; exact ⟨rfl, rfl⟩))
    (fun os started H enc _ => lifted os started H enc)
end Go.Proofs.Ytedfciddfpcifaa.Iv.traceLight
