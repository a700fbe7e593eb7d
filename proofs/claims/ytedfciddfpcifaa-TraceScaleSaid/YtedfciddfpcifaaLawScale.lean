/- TraceScale returns true for every input, and the arguments read afterwards as they read before; no conditions. -/
import Derived.Test.YtedfciddfpcifaaM18
import Derived.Test.YtedfciddfpcifaaM24
import Derived.Deep.AppendLies
import Derived.Maps.AppendAt
import Derived.LoopNIn
import Derived.Test.YtedfciddfpcifaaM22
import Derived.BigQuiet
import Derived.SizedLaws
import Derived.Test.YtedfciddfpcifaaRows
import Derived.ProofKit
import Derived.OpenShut
import Derived.ShutString
import Derived.ChangeOld
import Derived.Below
import Derived.Deep.Slices

/- Contracts of the laws' helpers: Theirs, Few. -/
namespace Go.Proofs.Ytedfciddfpcifaa.Iv
open Go.RowKit

attribute [local go_sem] Oper.semAt_some

theorem info_rdir : (Try.prog.info? 32).map (fun i => (i.zero, i.size, i.bytes)) = some (some (.agg #[.int .i64 0, .int .i64 0, .int .i64 0, .int .i64 0, .int .i64 0, .int .i64 0]), 6, 48) := by kernel_rfl
/-- what holds between two rounds of Theirs -/
structure TI (w : World) (na da : Option Addr) (m nc mm dc : Nat) (i0 i1 : Int) (L : List D) (uo u : Value) (k : Nat) (W : World) : Prop where
  below : Below w.heap.size w W
  sz : w.heap.size + 1 + 1 + 1 ≤ W.heap.size
  bd : Rd W w.heap.size [.slice na m nc, .slice da mm dc, .int .i64 i0, .int .i64 i1]
  rs : Bx W (w.heap.size + 1) [.slice none 0 0, .slice none 0 0, .int .i64 0, .int .i64 0]
  o : Bx W (w.heap.size + 1 + 1) [uo, .slice da mm dc, .int .i64 i0, .int .i64 i1]
  row : W.ownsRow (w.heap.size + 1 + 1 + 1) 32 6 u k ((L.take k).flatMap dcs)
theorem TI.kept {w : World} {na da : Option Addr} {m nc mm dc : Nat} {i0 i1 : Int} {L : List D} {uo u : Value} {k : Nat} {W W' : World} (h : TI w na da m nc mm dc i0 i1 L uo u k W) (hb : Below W.heap.size W W') : TI w na da m nc mm dc i0 i1 L uo u k W' := by
  refine ⟨h.below.trans (hb.mono h.below.size), Nat.le_trans h.sz hb.size, h.bd.kept hb, h.rs.kept hb, h.o.kept hb, h.row.1, ?_⟩
  rcases h.row.2 with h3 | ⟨g, cap, cur, h3, h4, h5, h6⟩
  · exact .inl h3
  · exact .inr ⟨g, cap, cur, h3, h4, (hb.block _ (Array.getElem?_eq_some_iff.1 h5).1).trans h5, h6⟩
theorem row_lt6 {W : World} {base size n : Nat} {e : TypeId} {u : Value} {xs : List Value} (h : W.ownsRow base e size u n xs) {b : Nat} (hb : b < base) : some b ≠ u.ownBlock := by
  rcases h.2 with ⟨rfl, _⟩ | ⟨g, cap, cur, rfl, hg, h2, _⟩
  · simp [Value.ownBlock]
  · intro e'
    have : b = g := by simpa [Value.ownBlock] using e'
    omega
theorem TI.app {w : World} {na da : Option Addr} {m nc mm dc : Nat} {i0 i1 : Int} {L : List D} {uo u u' : Value} {k : Nat} {x : D} {W W' : World} (h : TI w na da m nc mm dc i0 i1 L uo u k W) (hx : L[k]? = some x) (hown : W'.ownsRow (w.heap.size + 1 + 1 + 1) 32 6 u' (k + 1) ((L.take k).flatMap dcs ++ dcs x)) (hg : W.grownBy W' u.ownBlock) : TI w na da m nc mm dc i0 i1 L uo u' (k + 1) W' := by
  have ne : ∀ b, b < w.heap.size + 1 + 1 + 1 → some b ≠ u.ownBlock := fun b hb => row_lt6 h.row hb
  have ne2 : ∀ q, u.ownBlock = some q → w.heap.size + 1 + 1 + 1 ≤ q := fun q hq => by
    rcases Nat.lt_or_ge q (w.heap.size + 1 + 1 + 1) with k | k
    · exact absurd hq.symm (ne q k)
    · exact k
  refine ⟨h.below.grown hg h.below.size (fun q hq => by have := ne2 q hq; omega), Nat.le_trans h.sz hg.size, h.bd.grown hg (ne _ (by omega)), h.rs.grown hg (ne _ (by omega)), h.o.grown hg (ne _ (by omega)), ?_⟩
  rw [List.take_add_one, hx, List.flatMap_append]
  simpa using hown
theorem grown_set31 (W : World) (b i : Nat) (v : Value) : W.grownBy (W.setCell ⟨b, i, none⟩ v) (some b) :=
  ⟨rfl, rfl, rfl, (KeepsWalks.setCell W _ v).size, fun k _ hk => Below.heap_setCell _ _ _ k (fun e => hk (by rw [e]))⟩
theorem TI.put {w : World} {na da : Option Addr} {m nc mm dc : Nat} {i0 i1 : Int} {L : List D} {uo u : Value} {k : Nat} {W : World} (h : TI w na da m nc mm dc i0 i1 L uo u k W) : TI w na da m nc mm dc i0 i1 L u u k (W.setCell ⟨w.heap.size + 1 + 1, 0, none⟩ u) := by
  have hg := grown_set31 W (w.heap.size + 1 + 1) 0 u
  exact ⟨h.below.setCell (by simp; omega) _, Nat.le_trans h.sz hg.size, h.bd.set (by omega), h.rs.set (by omega), h.o.put, h.row.kept hg (.inr (row_lt6 h.row (by omega)).symm)⟩
theorem row_form6 {W : World} {base size n : Nat} {e : TypeId} {u : Value} {xs : List Value} (h : W.ownsRow base e size u n xs) : ∃ ao cap, u = .slice ao n cap := by
  rcases h.2 with ⟨rfl, rfl⟩ | ⟨g, cap, cur, rfl, _⟩
  · exact ⟨_, _, rfl⟩
  · exact ⟨_, _, rfl⟩
theorem row_set6 {W : World} {b i base size n : Nat} {e : TypeId} {u x : Value} {xs : List Value} (h : W.ownsRow base e size u n xs) (hb : b < base) : (W.setCell ⟨b, i, none⟩ x).ownsRow base e size u n xs :=
  h.kept (grown_set31 W b i x) (.inr (row_lt6 h hb).symm)
theorem row_down6 {W : World} {base base' size n : Nat} {e : TypeId} {u : Value} {xs : List Value} (h : W.ownsRow base e size u n xs) (hb : base' ≤ base) : W.ownsRow base' e size u n xs := by
  refine ⟨h.1, ?_⟩
  rcases h.2 with h3 | ⟨g, cap, cur, h3, h4, h5⟩
  · exact .inl h3
  · exact .inr ⟨g, cap, cur, h3, Nat.le_trans hb h4, h5⟩
theorem TI.drew {w : World} {na da : Option Addr} {m nc mm dc : Nat} {i0 i1 : Int} {L : List D} {uo u : Value} {k : Nat} {W : World} (h : TI w na da m nc mm dc i0 i1 L uo u k W) : TI w na da m nc mm dc i0 i1 L uo u k W.drew := h.kept (Below.refl _ _).drew
theorem add31 (g n : Nat) : (⟨g, 0, none⟩ : Addr).add n = ⟨g, n, none⟩ := by unfold Addr.add; split <;> simp_all
structure Ap (w : World) (na da : Option Addr) (m nc mm dc k nb no : Nat) (i0 i1 : Int) (L : List D) (u : Value) (s : D) (W : World) (l0 l1 l2 l3 l4 l5 l6 l7 l8 l9 l10 : Bool) (v0 v1 v2 v3 v4 v5 v6 v7 v8 v9 : Value) (b7 g7 cap7 : Nat) : Prop where
  a : l8 = false → TI w (some ⟨nb, no, none⟩) da m nc mm dc i0 i1 L (u) (u) (k) W
  b : l8 = true → l10 = false → TI w (some ⟨nb, no, none⟩) da m nc mm dc i0 i1 L (u) (.slice (some ⟨g7, 0, none⟩) (k + 1) cap7) (k + 1) W
  c : l10 = true → TI w (some ⟨nb, no, none⟩) da m nc mm dc i0 i1 L (.slice (some ⟨g7, 0, none⟩) (k + 1) cap7) (.slice (some ⟨g7, 0, none⟩) (k + 1) cap7) (k + 1) W
  r : l8 = false → Rs W nb (no + k * 6) (dcs s)
  z : l7 = true → l8 = false → Bx W b7 (dcs s)
  o1_0 : l1 = true → l0 = true
  o3_2 : l3 = true → l2 = true
  o5_3 : l5 = true → l3 = true
  o5_4 : l5 = true → l4 = true
  o6_5 : l6 = true → l5 = true
  o7_6 : l7 = true → l6 = true
  o8_1 : l8 = true → l1 = true
  o8_7 : l8 = true → l7 = true
  o9_0 : l9 = true → l0 = true
  o9_1 : l9 = true → l1 = true
  o9_2 : l9 = true → l2 = true
  o9_3 : l9 = true → l3 = true
  o9_4 : l9 = true → l4 = true
  o9_5 : l9 = true → l5 = true
  o9_6 : l9 = true → l6 = true
  o9_7 : l9 = true → l7 = true
  o9_8 : l9 = true → l8 = true
  o10_9 : l10 = true → l9 = true
  o10_8 : l10 = true → l8 = true
  o10_0 : l10 = true → l0 = true
  o10_1 : l10 = true → l1 = true
  o10_2 : l10 = true → l2 = true
  o10_3 : l10 = true → l3 = true
  o10_4 : l10 = true → l4 = true
  o10_5 : l10 = true → l5 = true
  o10_6 : l10 = true → l6 = true
  o10_7 : l10 = true → l7 = true
  ev0 : l0 = true → v0 = .pointer (some ⟨w.heap.size + 1 + 1, 0, none⟩)
  ev1 : l1 = true → v1 = u
  ev2 : l2 = true → v2 = .pointer (some ⟨w.heap.size, 0, none⟩)
  ev3 : l3 = true → v3 = .slice (some ⟨nb, no, none⟩) m nc
  ev4 : l4 = true → v4 = .int .i64 k
  ev5 : l5 = true → v5 = .pointer (some ⟨nb, no + k * 6, none⟩)
  ev6 : l6 = true → v6 = dv s
  ev7 : l7 = true → v7 = .slice (some ⟨b7, 0, none⟩) 1 1
  ev8 : l8 = true → v8 = .slice (some ⟨g7, 0, none⟩) (k + 1) cap7
  ev9 : l9 = true → v9 = .pointer (some ⟨w.heap.size + 1 + 1, 0, none⟩)
theorem Ap.kept {w : World} {na da : Option Addr} {m nc mm dc k nb no : Nat} {i0 i1 : Int} {L : List D} {u : Value} {s : D} {W : World} {l0 l1 l2 l3 l4 l5 l6 l7 l8 l9 l10 : Bool} {v0 v1 v2 v3 v4 v5 v6 v7 v8 v9 : Value} {b7 g7 cap7 : Nat} {W' : World} (h : Ap w na da m nc mm dc k nb no i0 i1 L u s W l0 l1 l2 l3 l4 l5 l6 l7 l8 l9 l10 v0 v1 v2 v3 v4 v5 v6 v7 v8 v9 b7 g7 cap7) (hb : Below W.heap.size W W') : Ap w na da m nc mm dc k nb no i0 i1 L u s W' l0 l1 l2 l3 l4 l5 l6 l7 l8 l9 l10 v0 v1 v2 v3 v4 v5 v6 v7 v8 v9 b7 g7 cap7 :=
  { h with a := fun p => (h.a p).kept hb, b := fun p q => (h.b p q).kept hb, c := fun p => (h.c p).kept hb, r := fun p => (h.r p).kept hb, z := fun p q => (h.z p q).kept hb }
def Ap.I (w : World) (na da : Option Addr) (m nc mm dc k nb no : Nat) (i0 i1 : Int) (L : List D) (u : Value) (s : D) : Act → Array Bool → Act → World → Prop := fun aO LX aX W => ∃ (l0 l1 l2 l3 l4 l5 l6 l7 l8 l9 l10 : Bool) (v0 v1 v2 v3 v4 v5 v6 v7 v8 v9 : Value) (b7 g7 cap7 : Nat), LX = #[l0, l1, l2, l3, l4, l5, l6, l7, l8, l9, l10] ∧ aX = ((((((((((aO.put (some 17) v0).put (some 18) v1).put (some 19) v2).put (some 20) v3).put (some 21) v4).put (some 22) v5).put (some 23) v6).put (some 24) v7).put (some 25) v8).put (some 26) v9) ∧ Ap w na da m nc mm dc k nb no i0 i1 L u s W l0 l1 l2 l3 l4 l5 l6 l7 l8 l9 l10 v0 v1 v2 v3 v4 v5 v6 v7 v8 v9 b7 g7 cap7
set_option maxRecDepth 100000 in
set_option maxHeartbeats 16000000 in
theorem theirs31_any {na da : Option Addr} {nc mm dc : Nat} {i0 i1 : Int} {L : List D} (w : World) (hn : NAt w na L) (hl : L.length * 48 ≤ 140737488351232) :
    Calls Try.prog 13 #[.agg #[.slice na L.length nc, .slice da mm dc, .int .i64 i0, .int .i64 i1]] w fun e w' =>
      (∃ u, e = .returned (.agg #[u, .slice da mm dc, .int .i64 i0, .int .i64 i1]) ∧ w'.ownsRow w.heap.size 32 6 u L.length (L.flatMap dcs)) ∧ Below w.heap.size w w' := by
  obtain ⟨j0, hj, hz0, hz1, hz2⟩ := info_parts info_rdir
  have HN := Lib.hid hn
  clear hn
  go_enter Try.func13, Try.ntmps13
  go_wp2_with fail
  go_loopw [4] (fun i wr => ∃ (k : Nat) (u : Value), k ≤ L.length ∧ i = .int .i64 k ∧ TI w na da L.length nc mm dc i0 i1 L u u k wr) (fun i _ => L.length - (intOf i).toNat)
  case atStart =>
    refine ⟨0, .slice none 0 0, Nat.zero_le _, rfl, ?_⟩
    exact ⟨((((Below.refl _ _).alloc (Nat.le_refl _) _).alloc (by simp) _).alloc (by simp; omega) _), by simp, ((Rd.new rfl).alc _).alc _, (Bx.new (by simp)).alc _, Bx.new (by simp), World.ownsRow_nil _ _ _ _⟩
  case round =>
    obtain ⟨k, u, hk, rfl, hI⟩ := hrel
    obtain ⟨ao, cap, rfl⟩ := row_form6 hI.row
    have x0 := hI.bd.c
    have x1 := hI.bd.lt
    have i15 : IntKind.i64.wrap ((k : Int) + 1) = (k : Int) + 1 := IntWalk.i64_in _ (by omega)
    rcases Nat.lt_or_ge k L.length with hlt | hge
    · obtain ⟨nb, no, rfl, hnb, hNc⟩ := (HN.out.kept hI.below) (by omega)
      have hx := List.getElem?_eq_getElem hlt
      generalize L[k] = s at hx
      have HX := Lib.hid hx
      have RS : Rs wr nb (no + k * 6) (dcs s) := Rs.mk hnb (hNc k s hx)
      have hlt' : (k : Int) < (L.length : Int) := by omega
      have hge' : (0 : Int) ≤ (k : Int) := by omega
      have h63 : k + 1 ≤ 2 ^ 63 - 1 := by omega
      have hby : (k + 1) * 48 ≤ 140737488355328 := by omega
      clear hx hNc
      go_wp2_with fail
      go_upto_region 5 with fail
      clear x0 x1
      refine region_sets (Ap.I w (some ⟨nb, no, none⟩) da L.length nc mm dc k nb no i0 i1 L (.slice ao k cap) s) (by kernel_rfl) ?_ ?_ ?_
      · refine ⟨false, false, false, false, false, false, false, false, false, false, false, u17, u18, u19, u20, u21, u22, u23, u24, u25, u26, 0, 0, 0, rfl, by simp only [Act.put, List.setIfInBounds_toArray, List.set_cons_zero, List.set_cons_succ], ?_⟩
        constructor
        · exact fun _ => hI.drew
        · intro h; cases h
        · intro h; cases h
        · exact fun _ => RS.drew
        all_goals (intro h; cases h)
      · intro L9 aa ww hI i hi
        obtain ⟨l0, l1, l2, l3, l4, l5, l6, l7, l8, l9, l10, v0, v1, v2, v3, v4, v5, v6, v7, v8, v9, b7, g7, cap7, rfl, rfl, h⟩ := hI
        have hlt := ready_lt hi
        match i, hi, hlt with
        | 0, hi, _ =>
          have l' : l0 = false := (ready_op (o := _) rfl hi).1
          subst l'
          clear hi hlt
          have H := Lib.hid h
          clear h
          refine wpOp_shut rfl (fun K hK => ?_)
          try simp only [Act.put, List.setIfInBounds_toArray, List.set_cons_zero, List.set_cons_succ]
          go_simp
          refine hK.out _ _ ?_
          unfold Ap.I
          refine ⟨true, l1, l2, l3, l4, l5, l6, l7, l8, l9, l10, (.pointer (some ⟨w.heap.size + 1 + 1, 0, none⟩)), v1, v2, v3, v4, v5, v6, v7, v8, v9, b7, g7, cap7, rfl, ?_, ?_⟩
          · simp only [Act.put, List.setIfInBounds_toArray, List.set_cons_zero, List.set_cons_succ]
          · exact { H.out with ev0 := fun _ => rfl, o1_0 := fun _ => rfl, o9_0 := fun _ => rfl, o10_0 := fun _ => rfl }
        | 1, hi, _ =>
          have l' : l1 = false := (ready_op (o := _) rfl hi).1
          subst l'
          have k0 : l0 = true := (ready_op (o := _) rfl hi).2 { on := 0, ground := .data } (by simp) rfl
          clear hi hlt
          subst k0
          obtain rfl := h.ev0 rfl
          have kA : l8 = false := by
            rcases Bool.eq_false_or_eq_true l8 with q | q
            · exact nomatch (h.o8_1 q)
            · exact q
          subst kA
          have c := (h.a rfl).o.c
          have H := Lib.hid h
          clear h
          refine wpOp_shut rfl (fun K hK => ?_)
          try simp only [Act.put, List.setIfInBounds_toArray, List.set_cons_zero, List.set_cons_succ]
          go_simp
          refine hK.out _ _ ?_
          unfold Ap.I
          refine ⟨true, true, l2, l3, l4, l5, l6, l7, false, l9, l10, (.pointer (some ⟨w.heap.size + 1 + 1, 0, none⟩)), (.slice ao k cap), v2, v3, v4, v5, v6, v7, v8, v9, b7, g7, cap7, rfl, ?_, ?_⟩
          · simp only [Act.put, List.setIfInBounds_toArray, List.set_cons_zero, List.set_cons_succ]
          · exact { H.out with ev1 := fun _ => rfl, o1_0 := fun _ => rfl, o8_1 := fun _ => rfl, o9_1 := fun _ => rfl, o10_1 := fun _ => rfl }
        | 2, hi, _ =>
          have l' : l2 = false := (ready_op (o := _) rfl hi).1
          subst l'
          clear hi hlt
          have H := Lib.hid h
          clear h
          refine wpOp_shut rfl (fun K hK => ?_)
          try simp only [Act.put, List.setIfInBounds_toArray, List.set_cons_zero, List.set_cons_succ]
          go_simp
          refine hK.out _ _ ?_
          unfold Ap.I
          refine ⟨l0, l1, true, l3, l4, l5, l6, l7, l8, l9, l10, v0, v1, (.pointer (some ⟨w.heap.size, 0, none⟩)), v3, v4, v5, v6, v7, v8, v9, b7, g7, cap7, rfl, ?_, ?_⟩
          · simp only [Act.put, List.setIfInBounds_toArray, List.set_cons_zero, List.set_cons_succ]
          · exact { H.out with ev2 := fun _ => rfl, o3_2 := fun _ => rfl, o9_2 := fun _ => rfl, o10_2 := fun _ => rfl }
        | 3, hi, _ =>
          have l' : l3 = false := (ready_op (o := _) rfl hi).1
          subst l'
          have k2 : l2 = true := (ready_op (o := _) rfl hi).2 { on := 2, ground := .data } (by simp) rfl
          clear hi hlt
          subst k2
          obtain rfl := h.ev2 rfl
          have kA : l8 = false := by
            rcases Bool.eq_false_or_eq_true l8 with q | q
            · exact nomatch (h.o5_3 (h.o6_5 (h.o7_6 (h.o8_7 q))))
            · exact q
          subst kA
          have c := (h.a rfl).bd.c
          have H := Lib.hid h
          clear h
          refine wpOp_shut rfl (fun K hK => ?_)
          try simp only [Act.put, List.setIfInBounds_toArray, List.set_cons_zero, List.set_cons_succ]
          go_simp
          refine hK.out _ _ ?_
          unfold Ap.I
          refine ⟨l0, l1, true, true, l4, l5, l6, l7, false, l9, l10, v0, v1, (.pointer (some ⟨w.heap.size, 0, none⟩)), (.slice (some ⟨nb, no, none⟩) L.length nc), v4, v5, v6, v7, v8, v9, b7, g7, cap7, rfl, ?_, ?_⟩
          · simp only [Act.put, List.setIfInBounds_toArray, List.set_cons_zero, List.set_cons_succ]
          · exact { H.out with ev3 := fun _ => rfl, o3_2 := fun _ => rfl, o5_3 := fun _ => rfl, o9_3 := fun _ => rfl, o10_3 := fun _ => rfl }
        | 4, hi, _ =>
          have l' : l4 = false := (ready_op (o := _) rfl hi).1
          subst l'
          clear hi hlt
          have H := Lib.hid h
          clear h
          refine wpOp_shut rfl (fun K hK => ?_)
          try simp only [Act.put, List.setIfInBounds_toArray, List.set_cons_zero, List.set_cons_succ]
          go_simp
          refine hK.out _ _ ?_
          unfold Ap.I
          refine ⟨l0, l1, l2, l3, true, l5, l6, l7, l8, l9, l10, v0, v1, v2, v3, (.int .i64 k), v5, v6, v7, v8, v9, b7, g7, cap7, rfl, ?_, ?_⟩
          · simp only [Act.put, List.setIfInBounds_toArray, List.set_cons_zero, List.set_cons_succ]
          · exact { H.out with ev4 := fun _ => rfl, o5_4 := fun _ => rfl, o9_4 := fun _ => rfl, o10_4 := fun _ => rfl }
        | 5, hi, _ =>
          have l' : l5 = false := (ready_op (o := _) rfl hi).1
          subst l'
          have k3 : l3 = true := (ready_op (o := _) rfl hi).2 { on := 3, ground := .data } (by simp) rfl
          have k4 : l4 = true := (ready_op (o := _) rfl hi).2 { on := 4, ground := .data } (by simp) rfl
          clear hi hlt
          subst k3
          subst k4
          obtain rfl := h.ev3 rfl
          obtain rfl := h.ev4 rfl
          have H := Lib.hid h
          clear h
          refine wpOp_shut rfl (fun K hK => ?_)
          try simp only [Act.put, List.setIfInBounds_toArray, List.set_cons_zero, List.set_cons_succ]
          go_simp
          refine hK.out _ _ ?_
          unfold Ap.I
          refine ⟨l0, l1, l2, true, true, true, l6, l7, l8, l9, l10, v0, v1, v2, (.slice (some ⟨nb, no, none⟩) L.length nc), (.int .i64 k), (.pointer (some ⟨nb, no + k * 6, none⟩)), v6, v7, v8, v9, b7, g7, cap7, rfl, ?_, ?_⟩
          · simp only [Act.put, List.setIfInBounds_toArray, List.set_cons_zero, List.set_cons_succ]
          · exact { H.out with ev5 := fun _ => rfl, o5_3 := fun _ => rfl, o5_4 := fun _ => rfl, o6_5 := fun _ => rfl, o9_5 := fun _ => rfl, o10_5 := fun _ => rfl }
        | 6, hi, _ =>
          have l' : l6 = false := (ready_op (o := _) rfl hi).1
          subst l'
          have k5 : l5 = true := (ready_op (o := _) rfl hi).2 { on := 5, ground := .data } (by simp) rfl
          clear hi hlt
          subst k5
          obtain rfl := h.ev5 rfl
          have kA : l8 = false := by
            rcases Bool.eq_false_or_eq_true l8 with q | q
            · exact nomatch (h.o7_6 (h.o8_7 q))
            · exact q
          subst kA
          have c0 := (h.r rfl).c 0 (by simp)
          have c1 := (h.r rfl).c 1 (by simp)
          have c2 := (h.r rfl).c 2 (by simp)
          have c3 := (h.r rfl).c 3 (by simp)
          have c4 := (h.r rfl).c 4 (by simp)
          have c5 := (h.r rfl).c 5 (by simp)
          simp only [Nat.add_zero] at c0
          have H := Lib.hid h
          clear h
          refine wpOp_shut rfl (fun K hK => ?_)
          try simp only [Act.put, List.setIfInBounds_toArray, List.set_cons_zero, List.set_cons_succ]
          go_simp
          refine hK.out _ _ ?_
          unfold Ap.I
          refine ⟨l0, l1, l2, l3, l4, true, true, l7, false, l9, l10, v0, v1, v2, v3, v4, (.pointer (some ⟨nb, no + k * 6, none⟩)), (dv s), v7, v8, v9, b7, g7, cap7, rfl, ?_, ?_⟩
          · simp only [Act.put, List.setIfInBounds_toArray, List.set_cons_zero, List.set_cons_succ]
          · exact { H.out with ev6 := fun _ => rfl, o6_5 := fun _ => rfl, o7_6 := fun _ => rfl, o9_6 := fun _ => rfl, o10_6 := fun _ => rfl }
        | 7, hi, _ =>
          have l' : l7 = false := (ready_op (o := _) rfl hi).1
          subst l'
          have k6 : l6 = true := (ready_op (o := _) rfl hi).2 { on := 6, ground := .data } (by simp) rfl
          clear hi hlt
          subst k6
          obtain rfl := h.ev6 rfl
          have kA : l8 = false := by
            rcases Bool.eq_false_or_eq_true l8 with q | q
            · exact nomatch (h.o8_7 q)
            · exact q
          subst kA
          have H := Lib.hid h
          clear h
          refine wpOp_shut rfl (fun K hK => ?_)
          try simp only [Act.put, List.setIfInBounds_toArray, List.set_cons_zero, List.set_cons_succ]
          go_simp
          refine hK.out _ _ ?_
          unfold Ap.I
          refine ⟨l0, l1, l2, l3, l4, l5, true, true, false, l9, l10, v0, v1, v2, v3, v4, v5, (dv s), (.slice (some ⟨ww.heap.size, 0, none⟩) 1 1), v8, v9, ww.heap.size, g7, cap7, rfl, ?_, ?_⟩
          · simp only [Act.put, List.setIfInBounds_toArray, List.set_cons_zero, List.set_cons_succ]
          · have h2 := H.out.kept ((Below.refl _ _).alloc (Nat.le_refl _) (.cells (List.toArray (dcs s)) 32))
            exact { h2 with ev7 := fun _ => rfl, o7_6 := fun _ => rfl, o8_7 := fun _ => rfl, o9_7 := fun _ => rfl, o10_7 := fun _ => rfl, z := fun _ _ => Bx.new rfl }
        | 8, hi, _ =>
          have l' : l8 = false := (ready_op (o := _) rfl hi).1
          subst l'
          have k1 : l1 = true := (ready_op (o := _) rfl hi).2 { on := 1, ground := .data } (by simp) rfl
          have k7 : l7 = true := (ready_op (o := _) rfl hi).2 { on := 7, ground := .data } (by simp) rfl
          clear hi hlt
          subst k1
          subst k7
          obtain rfl := h.ev1 rfl
          obtain rfl := h.ev7 rfl
          have kS : l10 = false := by
            rcases Bool.eq_false_or_eq_true l10 with q | q
            · exact nomatch (h.o10_8 q)
            · exact q
          subst kS
          have ha := h.a rfl
          have hz := h.z rfl rfl
          have H := Lib.hid h
          clear h
          refine wpOp_shut rfl (fun K hK => ?_)
          try simp only [Act.put, List.setIfInBounds_toArray, List.set_cons_zero, List.set_cons_succ]
          simp only [List.getElem_toArray, List.getElem_cons_succ, List.getElem_cons_zero]
          rw [if_pos (by first | rfl | simp [Region.wanted])]
          refine wp_append_lies _ _ _ 43 rfl (w.heap.size + 1 + 1 + 1) 32 j0 (.agg #[.int .i64 0, .int .i64 0, .int .i64 0, .int .i64 0, .int .i64 0, .int .i64 0]) 6 48 Try.underlying43 hj hz0 hz1 hz2 rfl (by decide) _ _ _ rfl ha.row ⟨b7, 0, none⟩ 1 1 (dcs s) rfl rfl (fun j x hx => by rw [add31, hz.c]; exact hx) (by intro x hx; simp at hx; rcases hx with rfl | rfl | rfl | rfl | rfl | rfl <;> rfl) (by decide) (by unfold maxLen; exact h63) hby ha.sz _ rfl ?_
          intro g9 cap9 w9 hown hgrow _ _
          refine hK.out _ _ ?_
          unfold Ap.I
          refine ⟨l0, true, l2, l3, l4, l5, l6, true, true, l9, false, v0, (.slice ao k cap), v2, v3, v4, v5, v6, (.slice (some ⟨b7, 0, none⟩) 1 1), (.slice (some ⟨g9, 0, none⟩) (k + 1) cap9), v9, b7, g9, cap9, rfl, ?_, ?_⟩
          · simp only [Act.put, List.setIfInBounds_toArray, List.set_cons_zero, List.set_cons_succ]
          · exact { H.out with ev8 := fun _ => rfl, o8_1 := fun _ => rfl, o8_7 := fun _ => rfl, o9_8 := fun _ => rfl, o10_8 := fun _ => rfl, a := fun p => (nomatch p), z := fun _ p => (nomatch p), b := fun _ _ => (H.out.a rfl).app HX.out hown hgrow, c := fun p => (nomatch p), r := fun p => (nomatch p) }
        | 9, hi, _ =>
          have l' : l9 = false := (ready_op (o := _) rfl hi).1
          subst l'
          have k0 : l0 = true := (ready_op (o := _) rfl hi).2 { on := 0, ground := .phase } (by simp) rfl
          have k1 : l1 = true := (ready_op (o := _) rfl hi).2 { on := 1, ground := .phase } (by simp) rfl
          have k2 : l2 = true := (ready_op (o := _) rfl hi).2 { on := 2, ground := .phase } (by simp) rfl
          have k3 : l3 = true := (ready_op (o := _) rfl hi).2 { on := 3, ground := .phase } (by simp) rfl
          have k4 : l4 = true := (ready_op (o := _) rfl hi).2 { on := 4, ground := .phase } (by simp) rfl
          have k5 : l5 = true := (ready_op (o := _) rfl hi).2 { on := 5, ground := .phase } (by simp) rfl
          have k6 : l6 = true := (ready_op (o := _) rfl hi).2 { on := 6, ground := .phase } (by simp) rfl
          have k7 : l7 = true := (ready_op (o := _) rfl hi).2 { on := 7, ground := .phase } (by simp) rfl
          have k8 : l8 = true := (ready_op (o := _) rfl hi).2 { on := 8, ground := .phase } (by simp) rfl
          clear hi hlt
          subst k0
          subst k1
          subst k2
          subst k3
          subst k4
          subst k5
          subst k6
          subst k7
          subst k8
          obtain rfl := h.ev0 rfl
          obtain rfl := h.ev1 rfl
          obtain rfl := h.ev2 rfl
          obtain rfl := h.ev3 rfl
          obtain rfl := h.ev4 rfl
          obtain rfl := h.ev5 rfl
          obtain rfl := h.ev6 rfl
          obtain rfl := h.ev7 rfl
          obtain rfl := h.ev8 rfl
          have H := Lib.hid h
          clear h
          refine wpOp_shut rfl (fun K hK => ?_)
          try simp only [Act.put, List.setIfInBounds_toArray, List.set_cons_zero, List.set_cons_succ]
          go_simp
          refine hK.out _ _ ?_
          unfold Ap.I
          refine ⟨true, true, true, true, true, true, true, true, true, true, l10, (.pointer (some ⟨w.heap.size + 1 + 1, 0, none⟩)), (.slice ao k cap), (.pointer (some ⟨w.heap.size, 0, none⟩)), (.slice (some ⟨nb, no, none⟩) L.length nc), (.int .i64 k), (.pointer (some ⟨nb, no + k * 6, none⟩)), (dv s), (.slice (some ⟨b7, 0, none⟩) 1 1), (.slice (some ⟨g7, 0, none⟩) (k + 1) cap7), (.pointer (some ⟨w.heap.size + 1 + 1, 0, none⟩)), b7, g7, cap7, rfl, ?_, ?_⟩
          · simp only [Act.put, List.setIfInBounds_toArray, List.set_cons_zero, List.set_cons_succ]
          · exact { H.out with ev9 := fun _ => rfl, o9_0 := fun _ => rfl, o9_1 := fun _ => rfl, o9_2 := fun _ => rfl, o9_3 := fun _ => rfl, o9_4 := fun _ => rfl, o9_5 := fun _ => rfl, o9_6 := fun _ => rfl, o9_7 := fun _ => rfl, o9_8 := fun _ => rfl, o10_9 := fun _ => rfl }
        | 10, hi, _ =>
          have l' : l10 = false := (ready_op (o := _) rfl hi).1
          subst l'
          have k9 : l9 = true := (ready_op (o := _) rfl hi).2 { on := 9, ground := .data } (by simp) rfl
          have k8 : l8 = true := (ready_op (o := _) rfl hi).2 { on := 8, ground := .phase } (by simp) rfl
          have k0 : l0 = true := (ready_op (o := _) rfl hi).2 { on := 0, ground := .phase } (by simp) rfl
          have k1 : l1 = true := (ready_op (o := _) rfl hi).2 { on := 1, ground := .phase } (by simp) rfl
          have k2 : l2 = true := (ready_op (o := _) rfl hi).2 { on := 2, ground := .phase } (by simp) rfl
          have k3 : l3 = true := (ready_op (o := _) rfl hi).2 { on := 3, ground := .phase } (by simp) rfl
          have k4 : l4 = true := (ready_op (o := _) rfl hi).2 { on := 4, ground := .phase } (by simp) rfl
          have k5 : l5 = true := (ready_op (o := _) rfl hi).2 { on := 5, ground := .phase } (by simp) rfl
          have k6 : l6 = true := (ready_op (o := _) rfl hi).2 { on := 6, ground := .phase } (by simp) rfl
          have k7 : l7 = true := (ready_op (o := _) rfl hi).2 { on := 7, ground := .phase } (by simp) rfl
          clear hi hlt
          subst k9
          subst k8
          subst k0
          subst k1
          subst k2
          subst k3
          subst k4
          subst k5
          subst k6
          subst k7
          obtain rfl := h.ev9 rfl
          obtain rfl := h.ev8 rfl
          obtain rfl := h.ev0 rfl
          obtain rfl := h.ev1 rfl
          obtain rfl := h.ev2 rfl
          obtain rfl := h.ev3 rfl
          obtain rfl := h.ev4 rfl
          obtain rfl := h.ev5 rfl
          obtain rfl := h.ev6 rfl
          obtain rfl := h.ev7 rfl
          have c := (h.b rfl rfl).o.c
          have f := (h.b rfl rfl).o.f
          have H := Lib.hid h
          clear h
          refine wpOp_shut rfl (fun K hK => ?_)
          try simp only [Act.put, List.setIfInBounds_toArray, List.set_cons_zero, List.set_cons_succ]
          go_simp
          refine hK.out _ _ ?_
          unfold Ap.I
          refine ⟨true, true, true, true, true, true, true, true, true, true, true, (.pointer (some ⟨w.heap.size + 1 + 1, 0, none⟩)), (.slice ao k cap), (.pointer (some ⟨w.heap.size, 0, none⟩)), (.slice (some ⟨nb, no, none⟩) L.length nc), (.int .i64 k), (.pointer (some ⟨nb, no + k * 6, none⟩)), (dv s), (.slice (some ⟨b7, 0, none⟩) 1 1), (.slice (some ⟨g7, 0, none⟩) (k + 1) cap7), (.pointer (some ⟨w.heap.size + 1 + 1, 0, none⟩)), b7, g7, cap7, rfl, ?_, ?_⟩
          · simp only [Act.put, List.setIfInBounds_toArray, List.set_cons_zero, List.set_cons_succ]
          · exact { H.out with o10_9 := fun _ => rfl, o10_8 := fun _ => rfl, o10_0 := fun _ => rfl, o10_1 := fun _ => rfl, o10_2 := fun _ => rfl, o10_3 := fun _ => rfl, o10_4 := fun _ => rfl, o10_5 := fun _ => rfl, o10_6 := fun _ => rfl, o10_7 := fun _ => rfl, a := fun p => (nomatch p), z := fun _ p => (nomatch p), b := fun _ p => (nomatch p), c := fun _ => (H.out.b rfl rfl).put, r := fun p => (nomatch p) }
        | i + 11, _, hlt => exact absurd hlt (by simp)
      · intro L9 aa ww hI hn
        obtain ⟨l0, l1, l2, l3, l4, l5, l6, l7, l8, l9, l10, v0, v1, v2, v3, v4, v5, v6, v7, v8, v9, b7, g7, cap7, rfl, rfl, h⟩ := hI
        have k0 : l0 = true := not_ready (i := 0) (o := _) rfl hn (by simp [Region.binds])
        subst k0
        have k1 : l1 = true := not_ready (i := 1) (o := _) rfl hn (by simp [Region.binds])
        subst k1
        have k2 : l2 = true := not_ready (i := 2) (o := _) rfl hn (by simp [Region.binds])
        subst k2
        have k3 : l3 = true := not_ready (i := 3) (o := _) rfl hn (by simp [Region.binds])
        subst k3
        have k4 : l4 = true := not_ready (i := 4) (o := _) rfl hn (by simp [Region.binds])
        subst k4
        have k5 : l5 = true := not_ready (i := 5) (o := _) rfl hn (by simp [Region.binds])
        subst k5
        have k6 : l6 = true := not_ready (i := 6) (o := _) rfl hn (by simp [Region.binds])
        subst k6
        have k7 : l7 = true := not_ready (i := 7) (o := _) rfl hn (by simp [Region.binds])
        subst k7
        have k8 : l8 = true := not_ready (i := 8) (o := _) rfl hn (by simp [Region.binds])
        subst k8
        have k9 : l9 = true := not_ready (i := 9) (o := _) rfl hn (by simp [Region.binds])
        subst k9
        have k10 : l10 = true := not_ready (i := 10) (o := _) rfl hn (by simp [Region.binds])
        subst k10
        clear hn
        obtain rfl := h.ev0 rfl
        obtain rfl := h.ev1 rfl
        obtain rfl := h.ev2 rfl
        obtain rfl := h.ev3 rfl
        obtain rfl := h.ev4 rfl
        obtain rfl := h.ev5 rfl
        obtain rfl := h.ev6 rfl
        obtain rfl := h.ev7 rfl
        obtain rfl := h.ev8 rfl
        obtain rfl := h.ev9 rfl
        simp only [Act.put, List.setIfInBounds_toArray, List.set_cons_zero, List.set_cons_succ]
        rename World => w12
        have I12 := h.c rfl
        clear h hI RS
        go_wp2_with fail
        go_roundw
        case rel => exact ⟨k + 1, _, hlt, by simp, I12⟩
        case measure => simp only [intOf]; omega
    · obtain rfl : k = L.length := by omega
      have y0 := hI.o.c
      have y1 := hI.o.lt
      have z0 := hI.rs.c
      have z1 := hI.rs.f
      have z2 := hI.rs.lt
      have lo := hI.sz
      go_wp2_with fail
      have KB : Bx _ (w.heap.size + 1) [.slice ao L.length cap, .slice da mm dc, .int .i64 i0, .int .i64 i1] := (((hI.rs.put (i := 0) (u := .slice ao L.length cap)).put (i := 1) (u := .slice da mm dc)).put (i := 2) (u := .int .i64 i0)).put (i := 3) (u := .int .i64 i1)
      have KL := (((hI.below.setCell (p := ⟨w.heap.size + 1, 0, none⟩) (by simp) (.slice ao L.length cap)).setCell (p := ⟨w.heap.size + 1, 1, none⟩) (by simp) (.slice da mm dc)).setCell (p := ⟨w.heap.size + 1, 2, none⟩) (by simp) (.int .i64 i0)).setCell (p := ⟨w.heap.size + 1, 3, none⟩) (by simp) (.int .i64 i1)
      have hrow := hI.row
      rw [List.take_length] at hrow
      have KR := row_set6 (b := w.heap.size + 1) (i := 3) (x := .int .i64 i1) (row_set6 (b := w.heap.size + 1) (i := 2) (x := .int .i64 i0) (row_set6 (b := w.heap.size + 1) (i := 1) (x := .slice da mm dc) (row_set6 (b := w.heap.size + 1) (i := 0) (x := .slice ao L.length cap) hrow (by omega)) (by omega)) (by omega)) (by omega)
      refine bodyPost_box (b := w.heap.size + 1) (cs := [.slice ao L.length cap, .slice da mm dc, .int .i64 i0, .int .i64 i1]) (v := .agg #[.slice ao L.length cap, .slice da mm dc, .int .i64 i0, .int .i64 i1]) KB (fun X hX => by simp [results, Try.results13, go_sem, hX]) rfl ⟨⟨_, rfl, row_down6 KR (by omega)⟩, KL⟩
/-- whether there are few faces -/
def fewB (n m : Nat) : Bool := decide (n ≤ 20) && decide (m ≤ 20)
set_option maxRecDepth 100000 in
theorem few31_any {a b : Option Addr} {n m c d : Nat} {i0 i1 : Int} (w : World) : Calls Try.prog 12 #[.agg #[.slice a n c, .slice b m d, .int .i64 i0, .int .i64 i1]] w fun e w' => e = .returned (.bool (fewB n m)) ∧ Below w.heap.size w w' := by
  have H0 := (Ho.nil w).bx [.slice a n c, .slice b m d, .int .i64 i0, .int .i64 i1] 45 w.heap.size rfl
  by_cases h : (n : Int) ≤ 20
  · have h1 : fewB n m = decide ((m : Int) ≤ 20) := by
      unfold fewB
      rw [decide_eq_true (by omega), Bool.true_and]
      exact decide_eq_decide.2 (by omega)
    rw [h1]
    go_enter Try.func12, Try.ntmps12
    go_wp2_with fail
    go_ret
    exact ⟨rfl, H0.below⟩
  · have h1 : fewB n m = false := by
      unfold fewB
      rw [decide_eq_false (by omega), Bool.false_and]
    rw [h1]
    go_enter Try.func12, Try.ntmps12
    go_wp2_with fail
    go_ret
    exact ⟨rfl, H0.below⟩
end Go.Proofs.Ytedfciddfpcifaa.Iv

/- TraceScale: a body whose distances are doubled has the same first face for a ray at a doubled point. -/
namespace Go.Proofs.Ytedfciddfpcifaa.Iv
open Go.RowKit

attribute [local go_sem] Oper.semAt_some

abbrev LP := List (Int × Int)
/-- whether an interval is one number of some size -/
def narB (x y : Int) : Bool := decide (x = y) && (decide (x ≤ 134217728) && decide (-134217728 ≤ x))
set_option maxRecDepth 100000 in
theorem nar_any (x y : Int) (w : World) : Calls Try.prog 23 #[iv x y] w fun e w' => e = .returned (.bool (narB x y)) ∧ Below w.heap.size w w' := by
  have H0 := (Ho.nil w).bx [.int .i64 x, .int .i64 y] 24 w.heap.size rfl
  by_cases h1 : x = y
  · subst h1
    by_cases h2 : x ≤ 134217728
    · rw [show narB x x = decide (-134217728 ≤ x) from by simp [narB, h2]]
      go_enter Try.func23, Try.ntmps23
      go_wp2_with fail
      go_ret
      exact ⟨by first | rfl | simp, H0.below⟩
    · rw [show narB x x = false from by simp [narB, h2]]
      go_enter Try.func23, Try.ntmps23
      go_wp2_with fail
      go_ret
      exact ⟨rfl, H0.below⟩
  · rw [show narB x y = false from by simp [narB, h1]]
    go_enter Try.func23, Try.ntmps23
    go_wp2_with fail
    go_ret
    exact ⟨rfl, H0.below⟩
theorem nar_iff {x y : Int} (h : narB x y = true) : x = y ∧ -134217728 ≤ x ∧ x ≤ 134217728 := by
  simp only [narB, Bool.and_eq_true, decide_eq_true_eq] at h
  omega
set_option maxRecDepth 100000 in
theorem twice_any (x y : Int) (w : World) (h : narB x y = true) : Calls Try.prog 24 #[iv x y] w fun e w' => e = .returned (iv (2 * x) (2 * y)) ∧ Below w.heap.size w w' := by
  obtain ⟨h1, h2, h3⟩ := nar_iff h
  have e1 : IntKind.i64.wrap (2 * x) = 2 * x := IntWalk.i64_in _ (by omega)
  have e2 : IntKind.i64.wrap (2 * y) = 2 * y := IntWalk.i64_in _ (by omega)
  clear h h1 h2 h3
  go_enter Try.func24, Try.ntmps24
  go_wp2_with fail
  exact bodyPost_ret (v := iv (2 * x) (2 * y)) (by simp [results, Try.results24, go_sem]) rfl ⟨rfl, (by repeat (first | exact Below.refl _ _ | refine Below.drew ?_ | refine Below.setCell ?_ (by first | omega | (simp <;> omega)) _ | refine Below.alloc ?_ (by first | omega | (simp <;> omega)) _))⟩
/-- the doubled distances -/
def dbl (M : List (Int × Int)) : List (Int × Int) := M.map fun p => (2 * p.1, 2 * p.2)
theorem info_iv : (Try.prog.info? 24).map (fun i => (i.zero, i.size, i.bytes)) = some (some (.agg #[.int .i64 0, .int .i64 0]), 2, 16) := by kernel_rfl
/-- what holds between two rounds: the boxes of the body and the ray, and the new body -/
structure TS (w0 : World) (na : Option Addr) (nc : Nat) (da : Option Addr) (dc : Nat) (L : List D) (M : List (Int × Int)) (i0 i1 : Int) (a v : D) (cb : Nat) (uo u : Value) (k : Nat) (W : World) : Prop where
  below : Below w0.heap.size w0 W
  c0 : w0.heap.size + 1 + 1 ≤ cb
  sz : cb + 1 ≤ W.heap.size
  bd : Rd W w0.heap.size [.slice na L.length nc, .slice da M.length dc, .int .i64 i0, .int .i64 i1]
  ry : Rd W (w0.heap.size + 1) [.int .i64 a.a, .int .i64 a.b, .int .i64 a.c, .int .i64 a.d, .int .i64 a.e, .int .i64 a.f, .int .i64 v.a, .int .i64 v.b, .int .i64 v.c, .int .i64 v.d, .int .i64 v.e, .int .i64 v.f]
  o : Bx W cb [.slice na L.length nc, uo, .int .i64 i0, .int .i64 i1]
  row : W.ownsRow (cb + 1) 24 2 u k ((dbl (M.take k)).flatMap pcs)
theorem TS.kept {w0 : World} {na : Option Addr} {nc : Nat} {da : Option Addr} {dc : Nat} {L : List D} {M : List (Int × Int)} {i0 i1 : Int} {a v : D} {cb : Nat} {uo u : Value} {k : Nat} {W W' : World} (h : TS w0 na nc da dc L M i0 i1 a v cb uo u k W) (hb : Below W.heap.size W W') : TS w0 na nc da dc L M i0 i1 a v cb uo u k W' := by
  refine ⟨h.below.trans (hb.mono h.below.size), h.c0, Nat.le_trans h.sz hb.size, h.bd.kept hb, h.ry.kept hb, h.o.kept hb, h.row.1, ?_⟩
  rcases h.row.2 with h3 | ⟨g, cap, cur, h3, h4, h5, h6⟩
  · exact .inl h3
  · exact .inr ⟨g, cap, cur, h3, h4, (hb.block _ (Array.getElem?_eq_some_iff.1 h5).1).trans h5, h6⟩
theorem TS.drew {w0 : World} {na : Option Addr} {nc : Nat} {da : Option Addr} {dc : Nat} {L : List D} {M : List (Int × Int)} {i0 i1 : Int} {a v : D} {cb : Nat} {uo u : Value} {k : Nat} {W : World} (h : TS w0 na nc da dc L M i0 i1 a v cb uo u k W) : TS w0 na nc da dc L M i0 i1 a v cb uo u k W.drew := h.kept (Below.refl _ _).drew
theorem TS.app {w0 : World} {na : Option Addr} {nc : Nat} {da : Option Addr} {dc : Nat} {L : List D} {M : List (Int × Int)} {i0 i1 : Int} {a v : D} {cb : Nat} {uo u u' : Value} {k : Nat} {x y : Int} {W W' : World} (h : TS w0 na nc da dc L M i0 i1 a v cb uo u k W) (hx : M[k]? = some (x, y))
    (hown : W'.ownsRow (cb + 1) 24 2 u' (k + 1) ((dbl (M.take k)).flatMap pcs ++ pcs (2 * x, 2 * y))) (hg : W.grownBy W' u.ownBlock) : TS w0 na nc da dc L M i0 i1 a v cb uo u' (k + 1) W' := by
  have c0 := h.c0
  have ne : ∀ b, b < cb + 1 → some b ≠ u.ownBlock := fun b hb => row_lt6 h.row hb
  have ne2 : ∀ q, u.ownBlock = some q → cb + 1 ≤ q := fun q hq => by
    rcases Nat.lt_or_ge q (cb + 1) with k | k
    · exact absurd hq.symm (ne q k)
    · exact k
  refine ⟨h.below.grown hg h.below.size (fun q hq => by have := ne2 q hq; omega), h.c0, Nat.le_trans h.sz hg.size, h.bd.grown hg (ne _ (by omega)), h.ry.grown hg (ne _ (by omega)), h.o.grown hg (ne _ (by omega)), ?_⟩
  rw [List.take_add_one, hx, dbl, List.map_append, List.flatMap_append]
  simpa [dbl] using hown
theorem TS.put {w0 : World} {na : Option Addr} {nc : Nat} {da : Option Addr} {dc : Nat} {L : List D} {M : List (Int × Int)} {i0 i1 : Int} {a v : D} {cb : Nat} {uo u : Value} {k : Nat} {W : World} (h : TS w0 na nc da dc L M i0 i1 a v cb uo u k W) : TS w0 na nc da dc L M i0 i1 a v cb u u k (W.setCell ⟨cb, 1, none⟩ u) := by
  have c0 := h.c0
  have hg := grown_set31 W cb 1 u
  exact ⟨h.below.setCell (by simp; omega) _, h.c0, Nat.le_trans h.sz hg.size, h.bd.set (by omega), h.ry.set (by omega), h.o.put, h.row.kept hg (.inr (row_lt6 h.row (by omega)).symm)⟩
structure As (w0 : World) (na : Option Addr) (nc dc k nb no : Nat) (L : List D) (M : LP) (i0 i1 : Int) (a v : D) (cb : Nat) (u : Value) (x y : Int) (W : World) (l0 l1 l2 l3 l4 l5 l6 l7 l8 l9 l10 l11 : Bool) (v0 v1 v2 v3 v4 v5 v6 v7 v8 v9 v10 : Value) (b7 g7 cap7 : Nat) : Prop where
  sa : l9 = false → TS w0 na nc (some ⟨nb, no, none⟩) dc L M i0 i1 a v cb (u) (u) (k) W
  sb : l9 = true → l11 = false → TS w0 na nc (some ⟨nb, no, none⟩) dc L M i0 i1 a v cb (u) (.slice (some ⟨g7, 0, none⟩) (k + 1) cap7) (k + 1) W
  sc : l11 = true → TS w0 na nc (some ⟨nb, no, none⟩) dc L M i0 i1 a v cb (.slice (some ⟨g7, 0, none⟩) (k + 1) cap7) (.slice (some ⟨g7, 0, none⟩) (k + 1) cap7) (k + 1) W
  sr : l9 = false → Rs W nb (no + k * 2) [.int .i64 x, .int .i64 y]
  sz : l8 = true → l9 = false → Bx W b7 [.int .i64 (2 * x), .int .i64 (2 * y)]
  o1_0 : l1 = true → l0 = true
  o3_2 : l3 = true → l2 = true
  o5_3 : l5 = true → l3 = true
  o5_4 : l5 = true → l4 = true
  o6_5 : l6 = true → l5 = true
  o7_6 : l7 = true → l6 = true
  o8_7 : l8 = true → l7 = true
  o9_1 : l9 = true → l1 = true
  o9_8 : l9 = true → l8 = true
  o9_7 : l9 = true → l7 = true
  o10_0 : l10 = true → l0 = true
  o10_1 : l10 = true → l1 = true
  o10_2 : l10 = true → l2 = true
  o10_3 : l10 = true → l3 = true
  o10_4 : l10 = true → l4 = true
  o10_5 : l10 = true → l5 = true
  o10_6 : l10 = true → l6 = true
  o10_7 : l10 = true → l7 = true
  o10_8 : l10 = true → l8 = true
  o10_9 : l10 = true → l9 = true
  o11_10 : l11 = true → l10 = true
  o11_9 : l11 = true → l9 = true
  o11_0 : l11 = true → l0 = true
  o11_1 : l11 = true → l1 = true
  o11_2 : l11 = true → l2 = true
  o11_3 : l11 = true → l3 = true
  o11_4 : l11 = true → l4 = true
  o11_5 : l11 = true → l5 = true
  o11_6 : l11 = true → l6 = true
  o11_7 : l11 = true → l7 = true
  o11_8 : l11 = true → l8 = true
  ev0 : l0 = true → v0 = .pointer (some ⟨cb, 1, none⟩)
  ev1 : l1 = true → v1 = u
  ev2 : l2 = true → v2 = .pointer (some ⟨w0.heap.size, 1, none⟩)
  ev3 : l3 = true → v3 = .slice (some ⟨nb, no, none⟩) M.length dc
  ev4 : l4 = true → v4 = .int .i64 k
  ev5 : l5 = true → v5 = .pointer (some ⟨nb, no + k * 2, none⟩)
  ev6 : l6 = true → v6 = iv x y
  ev7 : l7 = true → v7 = iv (2 * x) (2 * y)
  ev8 : l8 = true → v8 = .slice (some ⟨b7, 0, none⟩) 1 1
  ev9 : l9 = true → v9 = .slice (some ⟨g7, 0, none⟩) (k + 1) cap7
  ev10 : l10 = true → v10 = .pointer (some ⟨cb, 1, none⟩)
theorem As.kept {w0 : World} {na : Option Addr} {nc dc k nb no : Nat} {L : List D} {M : LP} {i0 i1 : Int} {a v : D} {cb : Nat} {u : Value} {x y : Int} {W : World} {l0 l1 l2 l3 l4 l5 l6 l7 l8 l9 l10 l11 : Bool} {v0 v1 v2 v3 v4 v5 v6 v7 v8 v9 v10 : Value} {b7 g7 cap7 : Nat} {W' : World} (h : As w0 na nc dc k nb no L M i0 i1 a v cb u x y W l0 l1 l2 l3 l4 l5 l6 l7 l8 l9 l10 l11 v0 v1 v2 v3 v4 v5 v6 v7 v8 v9 v10 b7 g7 cap7) (hb : Below W.heap.size W W') : As w0 na nc dc k nb no L M i0 i1 a v cb u x y W' l0 l1 l2 l3 l4 l5 l6 l7 l8 l9 l10 l11 v0 v1 v2 v3 v4 v5 v6 v7 v8 v9 v10 b7 g7 cap7 :=
  { h with sa := fun p => (h.sa p).kept hb, sb := fun p q => (h.sb p q).kept hb, sc := fun p => (h.sc p).kept hb, sr := fun p => (h.sr p).kept hb, sz := fun p q => (h.sz p q).kept hb }
def As.I (w0 : World) (na : Option Addr) (nc dc k nb no : Nat) (L : List D) (M : LP) (i0 i1 : Int) (a v : D) (cb : Nat) (u : Value) (x y : Int) : Act → Array Bool → Act → World → Prop := fun aO LX aX W => ∃ (l0 l1 l2 l3 l4 l5 l6 l7 l8 l9 l10 l11 : Bool) (v0 v1 v2 v3 v4 v5 v6 v7 v8 v9 v10 : Value) (b7 g7 cap7 : Nat), LX = #[l0, l1, l2, l3, l4, l5, l6, l7, l8, l9, l10, l11] ∧ aX = (((((((((((aO.put (some 60) v0).put (some 61) v1).put (some 62) v2).put (some 63) v3).put (some 64) v4).put (some 65) v5).put (some 66) v6).put (some 67) v7).put (some 68) v8).put (some 69) v9).put (some 70) v10) ∧ As w0 na nc dc k nb no L M i0 i1 a v cb u x y W l0 l1 l2 l3 l4 l5 l6 l7 l8 l9 l10 l11 v0 v1 v2 v3 v4 v5 v6 v7 v8 v9 v10 b7 g7 cap7
structure Ls (rb n0 : Nat) (a v : D) (w0 w : World) (l0 l1 l2 l3 l4 l5 l6 l7 l8 l9 l10 l11 l12 l13 l14 l15 l16 l17 : Bool) (v0 v1 v2 v3 v4 v5 v6 v7 v8 v9 v10 v11 v12 v13 v14 v15 v16 : Value) (b16 : Nat) : Prop where
  g : Ho w0 w n0 [(rb, [.int .i64 a.a, .int .i64 a.b, .int .i64 a.c, .int .i64 a.d, .int .i64 a.e, .int .i64 a.f, .int .i64 v.a, .int .i64 v.b, .int .i64 v.c, .int .i64 v.d, .int .i64 v.e, .int .i64 v.f])]
  sz : n0 ≤ w.heap.size
  mn : n0 ≤ n0
  ev0 : l0 = true → v0 = .pointer (some ⟨rb, 0, none⟩)
  ev1 : l1 = true → v1 = .pointer (some ⟨rb, 0, none⟩)
  ev2 : l2 = true → v2 = (iv a.a a.b)
  ev3 : l3 = true → v3 = (iv (2 * a.a) (2 * a.b))
  ev4 : l4 = true → v4 = .pointer (some ⟨rb, 0, none⟩)
  ev5 : l5 = true → v5 = .pointer (some ⟨rb, 2, none⟩)
  ev6 : l6 = true → v6 = (iv a.c a.d)
  ev7 : l7 = true → v7 = (iv (2 * a.c) (2 * a.d))
  ev8 : l8 = true → v8 = .pointer (some ⟨rb, 0, none⟩)
  ev9 : l9 = true → v9 = .pointer (some ⟨rb, 4, none⟩)
  ev10 : l10 = true → v10 = (iv a.e a.f)
  ev11 : l11 = true → v11 = (iv (2 * a.e) (2 * a.f))
  ev12 : l12 = true → v12 = .agg #[.int .i64 (2 * a.a), .int .i64 (2 * a.b), .int .i64 (2 * a.c), .int .i64 (2 * a.d), .int .i64 (2 * a.e), .int .i64 (2 * a.f)]
  ev13 : l13 = true → v13 = .pointer (some ⟨rb, 6, none⟩)
  ev14 : l14 = true → v14 = (dv v)
  ev15 : l15 = true → v15 = .agg #[.int .i64 (2 * a.a), .int .i64 (2 * a.b), .int .i64 (2 * a.c), .int .i64 (2 * a.d), .int .i64 (2 * a.e), .int .i64 (2 * a.f), .int .i64 v.a, .int .i64 v.b, .int .i64 v.c, .int .i64 v.d, .int .i64 v.e, .int .i64 v.f]
  ev16 : l16 = true → v16 = .pointer (some ⟨b16, 0, none⟩)
  g16 : l16 = true → n0 ≤ b16
  t16 : l16 = true → b16 < w.heap.size
  o16 : l17 = true → l16 = true
  z16 : l16 = true → l17 = false → Bx w b16 [.int .i64 0, .int .i64 0, .int .i64 0, .int .i64 0, .int .i64 0, .int .i64 0, .int .i64 0, .int .i64 0, .int .i64 0, .int .i64 0, .int .i64 0, .int .i64 0]
  s16 : l17 = true → Bx w b16 [.int .i64 (2 * a.a), .int .i64 (2 * a.b), .int .i64 (2 * a.c), .int .i64 (2 * a.d), .int .i64 (2 * a.e), .int .i64 (2 * a.f), .int .i64 v.a, .int .i64 v.b, .int .i64 v.c, .int .i64 v.d, .int .i64 v.e, .int .i64 v.f]
theorem Ls.kept {rb n0 : Nat} {a v : D} {w0 w : World} {l0 l1 l2 l3 l4 l5 l6 l7 l8 l9 l10 l11 l12 l13 l14 l15 l16 l17 : Bool} {v0 v1 v2 v3 v4 v5 v6 v7 v8 v9 v10 v11 v12 v13 v14 v15 v16 : Value} {b16 : Nat} {w' : World} (h : Ls rb n0 a v w0 w l0 l1 l2 l3 l4 l5 l6 l7 l8 l9 l10 l11 l12 l13 l14 l15 l16 l17 v0 v1 v2 v3 v4 v5 v6 v7 v8 v9 v10 v11 v12 v13 v14 v15 v16 b16) (hb : Below w.heap.size w w') : Ls rb n0 a v w0 w' l0 l1 l2 l3 l4 l5 l6 l7 l8 l9 l10 l11 l12 l13 l14 l15 l16 l17 v0 v1 v2 v3 v4 v5 v6 v7 v8 v9 v10 v11 v12 v13 v14 v15 v16 b16 :=
  { h with g := h.g.call hb, sz := Nat.le_trans h.sz hb.size, t16 := fun p => Nat.lt_of_lt_of_le (h.t16 p) hb.size, z16 := fun p q => (h.z16 p q).kept hb, s16 := fun p => (h.s16 p).kept hb }
def Ls.I (rb n0 : Nat) (a v : D) (w0 : World) : Act → Array Bool → Act → World → Prop := fun aO LX aX w => ∃ (l0 l1 l2 l3 l4 l5 l6 l7 l8 l9 l10 l11 l12 l13 l14 l15 l16 l17 : Bool) (v0 v1 v2 v3 v4 v5 v6 v7 v8 v9 v10 v11 v12 v13 v14 v15 v16 : Value) (b16 : Nat), LX = #[l0, l1, l2, l3, l4, l5, l6, l7, l8, l9, l10, l11, l12, l13, l14, l15, l16, l17] ∧ aX = (((((((((((((((((aO.put (some 71) v0).put (some 72) v1).put (some 73) v2).put (some 74) v3).put (some 75) v4).put (some 76) v5).put (some 77) v6).put (some 78) v7).put (some 79) v8).put (some 80) v9).put (some 81) v10).put (some 82) v11).put (some 83) v12).put (some 84) v13).put (some 85) v14).put (some 86) v15).put (some 7) v16) ∧ Ls rb n0 a v w0 w l0 l1 l2 l3 l4 l5 l6 l7 l8 l9 l10 l11 l12 l13 l14 l15 l16 l17 v0 v1 v2 v3 v4 v5 v6 v7 v8 v9 v10 v11 v12 v13 v14 v15 v16 b16
theorem hitV_in {L : List D} {M : List (Int × Int)} {i0 i1 : Int} {a v : D} (h : (hitV L M i0 i1 a v).e = 0) : hitV L M i0 i1 a v = hitR (L.zip M) a v ∧ (hitR (L.zip M) a v).e = 0 := by
  unfold hitV at h ⊢
  split at h
  · rename_i h1
    rw [if_pos h1]
    exact ⟨rfl, h⟩
  · cases h
theorem hit_bd {l : List (D × Int × Int)} {a v : D} (h : (hitR l a v).e = 0) : 0 ≤ (hitR l a v).l ∧ (hitR l a v).l ≤ (hitR l a v).g ∧ (hitR l a v).g ≤ 1073741824 := by
  obtain ⟨k, y, x, e1, e2, e3, e4, e5, e6, e7, _⟩ := hit_way h
  obtain ⟨w1, w2, w3, w4, w5, _⟩ := way_pt e3 e4
  rw [e5, e6]
  exact ⟨w2, Int.le_of_mul_le_mul_right (Int.le_trans w4 w5) w1, e7⟩
theorem dbl_len (M : List (Int × Int)) : (dbl M).length = M.length := List.length_map _
theorem scale_law {L : List D} {M : List (Int × Int)} {i0 i1 : Int} {a v : D} (h : (hitV L M i0 i1 a v).e = 0) (h' : (hitV L (dbl M) i0 i1 ⟨2 * a.a, 2 * a.b, 2 * a.c, 2 * a.d, 2 * a.e, 2 * a.f⟩ v).e = 0) :
    (hitV L M i0 i1 a v).f = (hitV L (dbl M) i0 i1 ⟨2 * a.a, 2 * a.b, 2 * a.c, 2 * a.d, 2 * a.e, 2 * a.f⟩ v).f ∧ (hitV L (dbl M) i0 i1 ⟨2 * a.a, 2 * a.b, 2 * a.c, 2 * a.d, 2 * a.e, 2 * a.f⟩ v).l ≤ 2 * (hitV L M i0 i1 a v).g ∧ 2 * (hitV L M i0 i1 a v).l ≤ (hitV L (dbl M) i0 i1 ⟨2 * a.a, 2 * a.b, 2 * a.c, 2 * a.d, 2 * a.e, 2 * a.f⟩ v).g ∧
    0 ≤ (hitV L M i0 i1 a v).l ∧ (hitV L M i0 i1 a v).l ≤ (hitV L M i0 i1 a v).g ∧ (hitV L M i0 i1 a v).g ≤ 1073741824 := by
  obtain ⟨e1, f1⟩ := hitV_in h
  obtain ⟨e2, f2⟩ := hitV_in h'
  rw [e1, e2]
  have b := hit_bd f1
  have k := scale_plain (L := L) (M := M) (M' := dbl M) (a := a) (a' := ⟨2 * a.a, 2 * a.b, 2 * a.c, 2 * a.d, 2 * a.e, 2 * a.f⟩) (v := v)
    (fun j p hp => ⟨(2 * p.1, 2 * p.2), by rw [dbl, List.getElem?_map, hp]; rfl, rfl⟩)
    (fun j q hq => by
      rw [dbl, List.getElem?_map] at hq
      cases hp : M[j]? with
      | none => rw [hp] at hq; cases hq
      | some p => exact ⟨p, rfl⟩) rfl rfl rfl f1 f2
  exact ⟨k.1, k.2.1, k.2.2, b.1, b.2.1, b.2.2⟩
theorem own_pairs31 {W : World} {B : Nat} {ao : Option Addr} {n cap : Nat} {M : List (Int × Int)} (h : W.ownsRow B 24 2 (.slice ao n cap) n (M.flatMap pcs)) (hn : n = M.length) : PAt W ao M := by
  subst hn
  have h0 := h
  rcases h.2 with ⟨e, h1⟩ | ⟨g, c, cur, e, h1, h2, h3, _⟩
  · exact fun h => absurd h (by omega)
  · cases e
    refine fun _ => ⟨g, 0, rfl, (Array.getElem?_eq_some_iff.1 h2).1, fun i s hs j hj => ?_⟩
    have hf := flat_at pcs 2 (fun _ => rfl) M i s hs j hj
    obtain ⟨x, hx⟩ : ∃ x, (pcs s)[j]? = some x := ⟨_, List.getElem?_eq_getElem (by simpa using hj)⟩
    have := h0.cells (g := g) rfl (i * 2 + j) x (hf.trans hx)
    rw [add31] at this
    rw [Nat.zero_add, this, hx]
theorem Hit_dbl {na da : Option Addr} {nc dc : Nat} {L : List D} {M : List (Int × Int)} {i0 i1 : Int} {a v : D} (w : World) (hn : NAt w na L) (hp : PAt w da (dbl M)) :
    Calls Try.prog 14 #[.agg #[.slice na L.length nc, .slice da M.length dc, .int .i64 i0, .int .i64 i1], rv a v] w fun e w' =>
      e = .returned (.tuple #[.int .i64 (hitV L (dbl M) i0 i1 a v).f, iv (hitV L (dbl M) i0 i1 a v).l (hitV L (dbl M) i0 i1 a v).g, .int .i64 (hitV L (dbl M) i0 i1 a v).e]) ∧ Below w.heap.size w w' := by
  have h := Hit_any (nc := nc) (dc := dc) (i0 := i0) (i1 := i1) (a := a) (v := v) w hn hp
  rw [dbl_len] at h
  exact h
set_option maxRecDepth 100000 in
set_option maxHeartbeats 32000000 in
theorem tScale_law {na da : Option Addr} {nc dc : Nat} {L : List D} {M : List (Int × Int)} {i0 i1 : Int} {a v : D} (w : World) (hn : NAt w na L) (hm : PAt w da M) (hL : L.length * 48 ≤ 140737488351232) (hLM : M.length * 16 ≤ 140737488351232) :
    Calls Try.prog 7 #[.agg #[.slice na L.length nc, .slice da M.length dc, .int .i64 i0, .int .i64 i1], rv a v] w fun e w' => e = .returned (.bool true) ∧ Below w.heap.size w w' := by
  have HN := Lib.hid hn
  have HM := Lib.hid hm
  clear hn hm
  obtain ⟨j0, hj, hz0, hz1, hz2⟩ := info_parts info_iv
  have H0 := ((Ho.nil w).bx [.slice na L.length nc, .slice da M.length dc, .int .i64 i0, .int .i64 i1] 39 w.heap.size rfl).bx [.int .i64 a.a, .int .i64 a.b, .int .i64 a.c, .int .i64 a.d, .int .i64 a.e, .int .i64 a.f, .int .i64 v.a, .int .i64 v.b, .int .i64 v.c, .int .i64 v.d, .int .i64 v.e, .int .i64 v.f] 41 (w.heap.size + 1) (by simp)
  unfold rv
  cases hf : fewB L.length M.length
  · have EF := Lib.hid hf
    clear hf
    go_enter Try.func7, Try.ntmps7
    go_wp2_with fail
    refine (awake31_any _).mono ?_
    rintro e w1 ⟨rfl, hb⟩
    have H1 := H0.call hb
    clear hb
    have x0 := (H1.at 1 rfl).c
    go_wp2_with fail
    refine (theirs31_any _ (HN.out.kept H1.below) hL).mono ?_
    rintro e w2 ⟨⟨u, rfl, hrow⟩, hb⟩
    obtain ⟨ao2, cap2, rfl⟩ := row_form6 hrow
    have H2 := H1.call hb
    clear hb x0 hrow
    go_wp2_with fail
    refine (few31_any _).mono ?_
    rintro e w3 ⟨rfl, hb⟩
    rw [EF.out]
    have H3 := H2.call hb
    clear hb
    have x0 := (H3.at 1 rfl).c
    have x1 := (H3.at 0 rfl).c
    go_wp2_with fail
    go_ret
    exact ⟨rfl, H3.below⟩
  have EF := Lib.hid hf
  clear hf
  cases h1 : narB a.a a.b
  · have N1 := Lib.hid h1
    clear h1
    go_enter Try.func7, Try.ntmps7
    go_wp2_with fail
    refine (awake31_any _).mono ?_
    rintro e w1 ⟨rfl, hb⟩
    have H1 := H0.call hb
    clear hb
    have x0 := (H1.at 1 rfl).c
    go_wp2_with fail
    refine (theirs31_any _ (HN.out.kept H1.below) hL).mono ?_
    rintro e w2 ⟨⟨u, rfl, hrow⟩, hb⟩
    obtain ⟨ao2, cap2, rfl⟩ := row_form6 hrow
    have H2 := H1.call hb
    clear hb x0 hrow
    go_wp2_with fail
    refine (few31_any _).mono ?_
    rintro e w3 ⟨rfl, hb⟩
    rw [EF.out]
    have H3 := H2.call hb
    clear hb
    have x0 := (H3.at 1 rfl).c
    have x1 := (H3.at 0 rfl).c
    go_wp2_with fail
    refine (nar_any a.a a.b _).mono ?_
    rintro e w4 ⟨rfl, hb⟩
    rw [N1.out]
    have H4 := H3.call hb
    clear hb x0 x1
    have x0 := (H4.at 1 rfl).c
    have x1 := (H4.at 0 rfl).c
    go_wp2_with fail
    go_ret
    exact ⟨rfl, H4.below⟩
  have N1 := Lib.hid h1
  clear h1
  cases h2 : narB a.c a.d
  · have N2 := Lib.hid h2
    clear h2
    go_enter Try.func7, Try.ntmps7
    go_wp2_with fail
    refine (awake31_any _).mono ?_
    rintro e w1 ⟨rfl, hb⟩
    have H1 := H0.call hb
    clear hb
    have x0 := (H1.at 1 rfl).c
    go_wp2_with fail
    refine (theirs31_any _ (HN.out.kept H1.below) hL).mono ?_
    rintro e w2 ⟨⟨u, rfl, hrow⟩, hb⟩
    obtain ⟨ao2, cap2, rfl⟩ := row_form6 hrow
    have H2 := H1.call hb
    clear hb x0 hrow
    go_wp2_with fail
    refine (few31_any _).mono ?_
    rintro e w3 ⟨rfl, hb⟩
    rw [EF.out]
    have H3 := H2.call hb
    clear hb
    have x0 := (H3.at 1 rfl).c
    have x1 := (H3.at 0 rfl).c
    go_wp2_with fail
    refine (nar_any a.a a.b _).mono ?_
    rintro e w4 ⟨rfl, hb⟩
    rw [N1.out]
    have H4 := H3.call hb
    clear hb x0 x1
    have x0 := (H4.at 1 rfl).c
    have x1 := (H4.at 0 rfl).c
    go_wp2_with fail
    refine (nar_any a.c a.d _).mono ?_
    rintro e w5 ⟨rfl, hb⟩
    rw [N2.out]
    have H5 := H4.call hb
    clear hb x0 x1
    have x0 := (H5.at 1 rfl).c
    have x1 := (H5.at 0 rfl).c
    go_wp2_with fail
    go_ret
    exact ⟨rfl, H5.below⟩
  have N2 := Lib.hid h2
  clear h2
  cases h3 : narB a.e a.f
  · have N3 := Lib.hid h3
    clear h3
    go_enter Try.func7, Try.ntmps7
    go_wp2_with fail
    refine (awake31_any _).mono ?_
    rintro e w1 ⟨rfl, hb⟩
    have H1 := H0.call hb
    clear hb
    have x0 := (H1.at 1 rfl).c
    go_wp2_with fail
    refine (theirs31_any _ (HN.out.kept H1.below) hL).mono ?_
    rintro e w2 ⟨⟨u, rfl, hrow⟩, hb⟩
    obtain ⟨ao2, cap2, rfl⟩ := row_form6 hrow
    have H2 := H1.call hb
    clear hb x0 hrow
    go_wp2_with fail
    refine (few31_any _).mono ?_
    rintro e w3 ⟨rfl, hb⟩
    rw [EF.out]
    have H3 := H2.call hb
    clear hb
    have x0 := (H3.at 1 rfl).c
    have x1 := (H3.at 0 rfl).c
    go_wp2_with fail
    refine (nar_any a.a a.b _).mono ?_
    rintro e w4 ⟨rfl, hb⟩
    rw [N1.out]
    have H4 := H3.call hb
    clear hb x0 x1
    have x0 := (H4.at 1 rfl).c
    have x1 := (H4.at 0 rfl).c
    go_wp2_with fail
    refine (nar_any a.c a.d _).mono ?_
    rintro e w5 ⟨rfl, hb⟩
    rw [N2.out]
    have H5 := H4.call hb
    clear hb x0 x1
    have x0 := (H5.at 1 rfl).c
    have x1 := (H5.at 0 rfl).c
    go_wp2_with fail
    refine (nar_any a.e a.f _).mono ?_
    rintro e w6 ⟨rfl, hb⟩
    rw [N3.out]
    have H6 := H5.call hb
    clear hb x0 x1
    have x0 := (H6.at 1 rfl).c
    have x1 := (H6.at 0 rfl).c
    go_wp2_with fail
    go_ret
    exact ⟨rfl, H6.below⟩
  have N3 := Lib.hid h3
  clear h3
  go_enter Try.func7, Try.ntmps7
  go_wp2_with fail
  refine (awake31_any _).mono ?_
  rintro e w1 ⟨rfl, hb⟩
  have H1 := H0.call hb
  clear hb
  have x0 := (H1.at 1 rfl).c
  go_wp2_with fail
  refine (theirs31_any _ (HN.out.kept H1.below) hL).mono ?_
  rintro e w2 ⟨⟨u, rfl, hrow⟩, hb⟩
  obtain ⟨ao2, cap2, rfl⟩ := row_form6 hrow
  have H2 := H1.call hb
  clear hb x0 hrow
  go_wp2_with fail
  refine (few31_any _).mono ?_
  rintro e w3 ⟨rfl, hb⟩
  rw [EF.out]
  have H3 := H2.call hb
  clear hb
  have x0 := (H3.at 1 rfl).c
  have x1 := (H3.at 0 rfl).c
  go_wp2_with fail
  refine (nar_any a.a a.b _).mono ?_
  rintro e w4 ⟨rfl, hb⟩
  rw [N1.out]
  have H4 := H3.call hb
  clear hb x0 x1
  have x0 := (H4.at 1 rfl).c
  have x1 := (H4.at 0 rfl).c
  go_wp2_with fail
  refine (nar_any a.c a.d _).mono ?_
  rintro e w5 ⟨rfl, hb⟩
  rw [N2.out]
  have H5 := H4.call hb
  clear hb x0 x1
  have x0 := (H5.at 1 rfl).c
  have x1 := (H5.at 0 rfl).c
  go_wp2_with fail
  refine (nar_any a.e a.f _).mono ?_
  rintro e w6 ⟨rfl, hb⟩
  rw [N3.out]
  have H6 := H5.call hb
  clear hb x0 x1
  have x0 := (H6.at 1 rfl).c
  have x1 := (H6.at 0 rfl).c
  go_wp2_with fail
  clear x0 x1
  go_loopw [6] (fun i wr => ∃ (k : Nat) (u : Value), k ≤ M.length ∧ i = .int .i64 k ∧ (∀ j p, j < k → M[j]? = some p → narB p.1 p.2 = true) ∧ TS w na nc da dc L M i0 i1 a v w6.heap.size u u k wr) (fun i _ => M.length - (intOf i).toNat)
  case atStart =>
    refine ⟨0, .slice none 0 0, Nat.zero_le _, rfl, fun _ _ h => absurd h (by omega), ?_⟩
    exact ⟨(H6.alc _).below, H6.size, by simp, (H6.alc _).at 1 rfl, (H6.alc _).at 0 rfl, Bx.new rfl, World.ownsRow_nil _ _ _ _⟩
  case round =>
    obtain ⟨k, u, hk, rfl, hnar, hI⟩ := hrel
    obtain ⟨ao, cap, rfl⟩ := row_form6 hI.row
    have HNAR := Lib.hid hnar
    have i15 : IntKind.i64.wrap ((k : Int) + 1) = (k : Int) + 1 := IntWalk.i64_in _ (by omega)
    have x0 := hI.bd.c
    have x1 := hI.bd.lt
    clear hnar
    rcases Nat.lt_or_ge k M.length with hlt | hge
    · obtain ⟨nb, no, rfl, hnb, hMc⟩ := (HM.out.kept hI.below) (by omega)
      obtain ⟨⟨x, y⟩, hx⟩ : ∃ p, M[k]? = some p := ⟨_, List.getElem?_eq_getElem hlt⟩
      have HX := Lib.hid hx
      have RS0 : Rs wr nb (no + k * 2) [.int .i64 x, .int .i64 y] := Rs.mk hnb (hMc k _ hx)
      have m0 : wr.cell? ⟨nb, no + k * 2, none⟩ = some (.int .i64 x) := RS0.c 0 (by simp)
      have m1 : wr.cell? ⟨nb, no + k * 2 + 1, none⟩ = some (.int .i64 y) := RS0.c 1 (by simp)
      have hlt' : (k : Int) < (M.length : Int) := by omega
      have hge' : (0 : Int) ≤ (k : Int) := by omega
      have h63 : k + 1 ≤ 2 ^ 63 - 1 := by omega
      have hby : (k + 1) * 16 ≤ 140737488355328 := by omega
      clear hx hMc
      cases hxy : narB x y
      · have HNX := Lib.hid hxy
        clear hxy
        go_wp2_with fail
        refine (nar_any x y _).mono ?_
        rintro e w8 ⟨rfl, hb⟩
        rw [HNX.out]
        have hI8 := hI.kept hb
        clear hb
        go_wp2_with fail
        go_ret
        exact ⟨rfl, hI8.below⟩
      · have HNX := Lib.hid hxy
        clear hxy
        go_wp2_with fail
        refine (nar_any x y _).mono ?_
        rintro e w8 ⟨rfl, hb⟩
        rw [HNX.out]
        have hI8 := hI.kept hb
        have RS := RS0.kept hb
        clear hb hI RS0 m0 m1 x0 x1
        have hI := hI8
        clear hI8
        go_wp2_with fail
        go_upto_region 11 with fail
        refine region_sets (As.I w na nc dc k nb no L M i0 i1 a v w6.heap.size (.slice ao k cap) x y) (by kernel_rfl) ?_ ?_ ?_
        · refine ⟨false, false, false, false, false, false, false, false, false, false, false, false, u60, u61, u62, u63, u64, u65, u66, u67, u68, u69, u70, 0, 0, 0, rfl, by simp only [Act.put, List.setIfInBounds_toArray, List.set_cons_zero, List.set_cons_succ], ?_⟩
          constructor
          · exact fun _ => hI.drew
          · intro h; cases h
          · intro h; cases h
          · exact fun _ => RS.drew
          all_goals (intro h; cases h)
        · intro L9 aa ww hI i hi
          obtain ⟨l0, l1, l2, l3, l4, l5, l6, l7, l8, l9, l10, l11, v0, v1, v2, v3, v4, v5, v6, v7, v8, v9, v10, b7, g7, cap7, rfl, rfl, h⟩ := hI
          have hlt := ready_lt hi
          match i, hi, hlt with
          | 0, hi, _ =>
            have l' : l0 = false := (ready_op (o := _) rfl hi).1
            subst l'
            clear hi hlt
            have H := Lib.hid h
            clear h
            refine wpOp_shut rfl (fun K hK => ?_)
            try simp only [Act.put, List.setIfInBounds_toArray, List.set_cons_zero, List.set_cons_succ]
            go_simp
            refine hK.out _ _ ?_
            unfold As.I
            refine ⟨true, l1, l2, l3, l4, l5, l6, l7, l8, l9, l10, l11, (.pointer (some ⟨w6.heap.size, 1, none⟩)), v1, v2, v3, v4, v5, v6, v7, v8, v9, v10, b7, g7, cap7, rfl, ?_, ?_⟩
            · simp only [Act.put, List.setIfInBounds_toArray, List.set_cons_zero, List.set_cons_succ]
            · exact { H.out with ev0 := fun _ => rfl, o1_0 := fun _ => rfl, o10_0 := fun _ => rfl, o11_0 := fun _ => rfl }
          | 1, hi, _ =>
            have l' : l1 = false := (ready_op (o := _) rfl hi).1
            subst l'
            have k0 : l0 = true := (ready_op (o := _) rfl hi).2 { on := 0, ground := .data } (by simp) rfl
            clear hi hlt
            subst k0
            obtain rfl := h.ev0 rfl
            have kA : l9 = false := by
              rcases Bool.eq_false_or_eq_true l9 with q | q
              · exact nomatch (h.o9_1 q)
              · exact q
            subst kA
            have c := (h.sa rfl).o.c
            have H := Lib.hid h
            clear h
            refine wpOp_shut rfl (fun K hK => ?_)
            try simp only [Act.put, List.setIfInBounds_toArray, List.set_cons_zero, List.set_cons_succ]
            go_simp
            refine hK.out _ _ ?_
            unfold As.I
            refine ⟨true, true, l2, l3, l4, l5, l6, l7, l8, false, l10, l11, (.pointer (some ⟨w6.heap.size, 1, none⟩)), (.slice ao k cap), v2, v3, v4, v5, v6, v7, v8, v9, v10, b7, g7, cap7, rfl, ?_, ?_⟩
            · simp only [Act.put, List.setIfInBounds_toArray, List.set_cons_zero, List.set_cons_succ]
            · exact { H.out with ev1 := fun _ => rfl, o1_0 := fun _ => rfl, o9_1 := fun _ => rfl, o10_1 := fun _ => rfl, o11_1 := fun _ => rfl }
          | 2, hi, _ =>
            have l' : l2 = false := (ready_op (o := _) rfl hi).1
            subst l'
            clear hi hlt
            have H := Lib.hid h
            clear h
            refine wpOp_shut rfl (fun K hK => ?_)
            try simp only [Act.put, List.setIfInBounds_toArray, List.set_cons_zero, List.set_cons_succ]
            go_simp
            refine hK.out _ _ ?_
            unfold As.I
            refine ⟨l0, l1, true, l3, l4, l5, l6, l7, l8, l9, l10, l11, v0, v1, (.pointer (some ⟨w.heap.size, 1, none⟩)), v3, v4, v5, v6, v7, v8, v9, v10, b7, g7, cap7, rfl, ?_, ?_⟩
            · simp only [Act.put, List.setIfInBounds_toArray, List.set_cons_zero, List.set_cons_succ]
            · exact { H.out with ev2 := fun _ => rfl, o3_2 := fun _ => rfl, o10_2 := fun _ => rfl, o11_2 := fun _ => rfl }
          | 3, hi, _ =>
            have l' : l3 = false := (ready_op (o := _) rfl hi).1
            subst l'
            have k2 : l2 = true := (ready_op (o := _) rfl hi).2 { on := 2, ground := .data } (by simp) rfl
            clear hi hlt
            subst k2
            obtain rfl := h.ev2 rfl
            have kA : l9 = false := by
              rcases Bool.eq_false_or_eq_true l9 with q | q
              · exact nomatch (h.o5_3 (h.o6_5 (h.o7_6 (h.o9_7 q))))
              · exact q
            subst kA
            have c := (h.sa rfl).bd.c
            have H := Lib.hid h
            clear h
            refine wpOp_shut rfl (fun K hK => ?_)
            try simp only [Act.put, List.setIfInBounds_toArray, List.set_cons_zero, List.set_cons_succ]
            go_simp
            refine hK.out _ _ ?_
            unfold As.I
            refine ⟨l0, l1, true, true, l4, l5, l6, l7, l8, false, l10, l11, v0, v1, (.pointer (some ⟨w.heap.size, 1, none⟩)), (.slice (some ⟨nb, no, none⟩) M.length dc), v4, v5, v6, v7, v8, v9, v10, b7, g7, cap7, rfl, ?_, ?_⟩
            · simp only [Act.put, List.setIfInBounds_toArray, List.set_cons_zero, List.set_cons_succ]
            · exact { H.out with ev3 := fun _ => rfl, o3_2 := fun _ => rfl, o5_3 := fun _ => rfl, o10_3 := fun _ => rfl, o11_3 := fun _ => rfl }
          | 4, hi, _ =>
            have l' : l4 = false := (ready_op (o := _) rfl hi).1
            subst l'
            clear hi hlt
            have H := Lib.hid h
            clear h
            refine wpOp_shut rfl (fun K hK => ?_)
            try simp only [Act.put, List.setIfInBounds_toArray, List.set_cons_zero, List.set_cons_succ]
            go_simp
            refine hK.out _ _ ?_
            unfold As.I
            refine ⟨l0, l1, l2, l3, true, l5, l6, l7, l8, l9, l10, l11, v0, v1, v2, v3, (.int .i64 k), v5, v6, v7, v8, v9, v10, b7, g7, cap7, rfl, ?_, ?_⟩
            · simp only [Act.put, List.setIfInBounds_toArray, List.set_cons_zero, List.set_cons_succ]
            · exact { H.out with ev4 := fun _ => rfl, o5_4 := fun _ => rfl, o10_4 := fun _ => rfl, o11_4 := fun _ => rfl }
          | 5, hi, _ =>
            have l' : l5 = false := (ready_op (o := _) rfl hi).1
            subst l'
            have k3 : l3 = true := (ready_op (o := _) rfl hi).2 { on := 3, ground := .data } (by simp) rfl
            have k4 : l4 = true := (ready_op (o := _) rfl hi).2 { on := 4, ground := .data } (by simp) rfl
            clear hi hlt
            subst k3
            subst k4
            obtain rfl := h.ev3 rfl
            obtain rfl := h.ev4 rfl
            have H := Lib.hid h
            clear h
            refine wpOp_shut rfl (fun K hK => ?_)
            try simp only [Act.put, List.setIfInBounds_toArray, List.set_cons_zero, List.set_cons_succ]
            go_simp
            refine hK.out _ _ ?_
            unfold As.I
            refine ⟨l0, l1, l2, true, true, true, l6, l7, l8, l9, l10, l11, v0, v1, v2, (.slice (some ⟨nb, no, none⟩) M.length dc), (.int .i64 k), (.pointer (some ⟨nb, no + k * 2, none⟩)), v6, v7, v8, v9, v10, b7, g7, cap7, rfl, ?_, ?_⟩
            · simp only [Act.put, List.setIfInBounds_toArray, List.set_cons_zero, List.set_cons_succ]
            · exact { H.out with ev5 := fun _ => rfl, o5_3 := fun _ => rfl, o5_4 := fun _ => rfl, o6_5 := fun _ => rfl, o10_5 := fun _ => rfl, o11_5 := fun _ => rfl }
          | 6, hi, _ =>
            have l' : l6 = false := (ready_op (o := _) rfl hi).1
            subst l'
            have k5 : l5 = true := (ready_op (o := _) rfl hi).2 { on := 5, ground := .data } (by simp) rfl
            clear hi hlt
            subst k5
            obtain rfl := h.ev5 rfl
            have kA : l9 = false := by
              rcases Bool.eq_false_or_eq_true l9 with q | q
              · exact nomatch (h.o7_6 (h.o9_7 q))
              · exact q
            subst kA
            have c0 := (h.sr rfl).c 0 (by simp)
            have c1 := (h.sr rfl).c 1 (by simp)
            simp only [Nat.add_zero] at c0
            have H := Lib.hid h
            clear h
            refine wpOp_shut rfl (fun K hK => ?_)
            try simp only [Act.put, List.setIfInBounds_toArray, List.set_cons_zero, List.set_cons_succ]
            go_simp
            refine hK.out _ _ ?_
            unfold As.I
            refine ⟨l0, l1, l2, l3, l4, true, true, l7, l8, false, l10, l11, v0, v1, v2, v3, v4, (.pointer (some ⟨nb, no + k * 2, none⟩)), (iv x y), v7, v8, v9, v10, b7, g7, cap7, rfl, ?_, ?_⟩
            · simp only [Act.put, List.setIfInBounds_toArray, List.set_cons_zero, List.set_cons_succ]
            · exact { H.out with ev6 := fun _ => rfl, o6_5 := fun _ => rfl, o7_6 := fun _ => rfl, o10_6 := fun _ => rfl, o11_6 := fun _ => rfl }
          | 7, hi, _ =>
            have l' : l7 = false := (ready_op (o := _) rfl hi).1
            subst l'
            have k6 : l6 = true := (ready_op (o := _) rfl hi).2 { on := 6, ground := .data } (by simp) rfl
            clear hi hlt
            subst k6
            obtain rfl := h.ev6 rfl
            have kA : l9 = false := by
              rcases Bool.eq_false_or_eq_true l9 with q | q
              · exact nomatch (h.o9_7 q)
              · exact q
            subst kA
            have H := Lib.hid h
            clear h
            refine wpOp_shut rfl (fun K hK => ?_)
            try simp only [Act.put, List.setIfInBounds_toArray, List.set_cons_zero, List.set_cons_succ]
            go_simp
            refine (twice_any x y _ HNX.out).mono ?_
            rintro e wY ⟨rfl, hb⟩
            try go_simp
            refine hK.out _ _ ?_
            unfold As.I
            refine ⟨l0, l1, l2, l3, l4, l5, true, true, l8, false, l10, l11, v0, v1, v2, v3, v4, v5, (iv x y), (iv (2 * x) (2 * y)), v8, v9, v10, b7, g7, cap7, rfl, ?_, ?_⟩
            · simp only [Act.put, List.setIfInBounds_toArray, List.set_cons_zero, List.set_cons_succ]
            · exact { (H.out.kept hb) with ev7 := fun _ => rfl, o7_6 := fun _ => rfl, o8_7 := fun _ => rfl, o9_7 := fun _ => rfl, o10_7 := fun _ => rfl, o11_7 := fun _ => rfl }
          | 8, hi, _ =>
            have l' : l8 = false := (ready_op (o := _) rfl hi).1
            subst l'
            have k7 : l7 = true := (ready_op (o := _) rfl hi).2 { on := 7, ground := .data } (by simp) rfl
            clear hi hlt
            subst k7
            obtain rfl := h.ev7 rfl
            have kA : l9 = false := by
              rcases Bool.eq_false_or_eq_true l9 with q | q
              · exact nomatch (h.o9_8 q)
              · exact q
            subst kA
            have H := Lib.hid h
            clear h
            refine wpOp_shut rfl (fun K hK => ?_)
            try simp only [Act.put, List.setIfInBounds_toArray, List.set_cons_zero, List.set_cons_succ]
            go_simp
            refine hK.out _ _ ?_
            unfold As.I
            refine ⟨l0, l1, l2, l3, l4, l5, l6, true, true, false, l10, l11, v0, v1, v2, v3, v4, v5, v6, (iv (2 * x) (2 * y)), (.slice (some ⟨ww.heap.size, 0, none⟩) 1 1), v9, v10, ww.heap.size, g7, cap7, rfl, ?_, ?_⟩
            · simp only [Act.put, List.setIfInBounds_toArray, List.set_cons_zero, List.set_cons_succ]
            · have h2 := H.out.kept ((Below.refl _ _).alloc (Nat.le_refl _) (.cells (List.toArray [.int .i64 (2 * x), .int .i64 (2 * y)]) 24))
              exact { h2 with ev8 := fun _ => rfl, o8_7 := fun _ => rfl, o9_8 := fun _ => rfl, o10_8 := fun _ => rfl, o11_8 := fun _ => rfl, sz := fun _ _ => Bx.new rfl }
          | 9, hi, _ =>
            have l' : l9 = false := (ready_op (o := _) rfl hi).1
            subst l'
            have k1 : l1 = true := (ready_op (o := _) rfl hi).2 { on := 1, ground := .data } (by simp) rfl
            have k8 : l8 = true := (ready_op (o := _) rfl hi).2 { on := 8, ground := .data } (by simp) rfl
            have k7 : l7 = true := (ready_op (o := _) rfl hi).2 { on := 7, ground := .chain } (by simp) rfl
            clear hi hlt
            subst k1
            subst k8
            subst k7
            obtain rfl := h.ev1 rfl
            obtain rfl := h.ev8 rfl
            obtain rfl := h.ev7 rfl
            have kS : l11 = false := by
              rcases Bool.eq_false_or_eq_true l11 with q | q
              · exact nomatch (h.o11_9 q)
              · exact q
            subst kS
            have ha := h.sa rfl
            have hz := h.sz rfl rfl
            have H := Lib.hid h
            clear h
            refine wpOp_shut rfl (fun K hK => ?_)
            try simp only [Act.put, List.setIfInBounds_toArray, List.set_cons_zero, List.set_cons_succ]
            simp only [List.getElem_toArray, List.getElem_cons_succ, List.getElem_cons_zero]
            rw [if_pos (by first | rfl | simp [Region.wanted])]
            refine wp_append_lies _ _ _ 37 rfl (w6.heap.size + 1) 24 j0 (.agg #[.int .i64 0, .int .i64 0]) 2 16 Try.underlying37 hj hz0 hz1 hz2 rfl (by decide) _ _ _ rfl ha.row ⟨b7, 0, none⟩ 1 1 [.int .i64 (2 * x), .int .i64 (2 * y)] rfl rfl (fun j x hx => by rw [add31, hz.c]; exact hx) (by intro x hx; simp at hx; rcases hx with rfl | rfl <;> rfl) (by decide) (by unfold maxLen; exact h63) hby ha.sz _ rfl ?_
            intro g9 cap9 w9 hown hgrow _ _
            refine hK.out _ _ ?_
            unfold As.I
            refine ⟨l0, true, l2, l3, l4, l5, l6, true, true, true, l10, false, v0, (.slice ao k cap), v2, v3, v4, v5, v6, (iv (2 * x) (2 * y)), (.slice (some ⟨b7, 0, none⟩) 1 1), (.slice (some ⟨g9, 0, none⟩) (k + 1) cap9), v10, b7, g9, cap9, rfl, ?_, ?_⟩
            · simp only [Act.put, List.setIfInBounds_toArray, List.set_cons_zero, List.set_cons_succ]
            · exact { H.out with ev9 := fun _ => rfl, o9_1 := fun _ => rfl, o9_8 := fun _ => rfl, o9_7 := fun _ => rfl, o10_9 := fun _ => rfl, o11_9 := fun _ => rfl, sa := fun p => (nomatch p), sz := fun _ p => (nomatch p), sb := fun _ _ => (H.out.sa rfl).app HX.out hown hgrow, sc := fun p => (nomatch p), sr := fun p => (nomatch p) }
          | 10, hi, _ =>
            have l' : l10 = false := (ready_op (o := _) rfl hi).1
            subst l'
            have k0 : l0 = true := (ready_op (o := _) rfl hi).2 { on := 0, ground := .phase } (by simp) rfl
            have k1 : l1 = true := (ready_op (o := _) rfl hi).2 { on := 1, ground := .phase } (by simp) rfl
            have k2 : l2 = true := (ready_op (o := _) rfl hi).2 { on := 2, ground := .phase } (by simp) rfl
            have k3 : l3 = true := (ready_op (o := _) rfl hi).2 { on := 3, ground := .phase } (by simp) rfl
            have k4 : l4 = true := (ready_op (o := _) rfl hi).2 { on := 4, ground := .phase } (by simp) rfl
            have k5 : l5 = true := (ready_op (o := _) rfl hi).2 { on := 5, ground := .phase } (by simp) rfl
            have k6 : l6 = true := (ready_op (o := _) rfl hi).2 { on := 6, ground := .phase } (by simp) rfl
            have k7 : l7 = true := (ready_op (o := _) rfl hi).2 { on := 7, ground := .phase } (by simp) rfl
            have k8 : l8 = true := (ready_op (o := _) rfl hi).2 { on := 8, ground := .phase } (by simp) rfl
            have k9 : l9 = true := (ready_op (o := _) rfl hi).2 { on := 9, ground := .phase } (by simp) rfl
            clear hi hlt
            subst k0
            subst k1
            subst k2
            subst k3
            subst k4
            subst k5
            subst k6
            subst k7
            subst k8
            subst k9
            obtain rfl := h.ev0 rfl
            obtain rfl := h.ev1 rfl
            obtain rfl := h.ev2 rfl
            obtain rfl := h.ev3 rfl
            obtain rfl := h.ev4 rfl
            obtain rfl := h.ev5 rfl
            obtain rfl := h.ev6 rfl
            obtain rfl := h.ev7 rfl
            obtain rfl := h.ev8 rfl
            obtain rfl := h.ev9 rfl
            have H := Lib.hid h
            clear h
            refine wpOp_shut rfl (fun K hK => ?_)
            try simp only [Act.put, List.setIfInBounds_toArray, List.set_cons_zero, List.set_cons_succ]
            go_simp
            refine hK.out _ _ ?_
            unfold As.I
            refine ⟨true, true, true, true, true, true, true, true, true, true, true, l11, (.pointer (some ⟨w6.heap.size, 1, none⟩)), (.slice ao k cap), (.pointer (some ⟨w.heap.size, 1, none⟩)), (.slice (some ⟨nb, no, none⟩) M.length dc), (.int .i64 k), (.pointer (some ⟨nb, no + k * 2, none⟩)), (iv x y), (iv (2 * x) (2 * y)), (.slice (some ⟨b7, 0, none⟩) 1 1), (.slice (some ⟨g7, 0, none⟩) (k + 1) cap7), (.pointer (some ⟨w6.heap.size, 1, none⟩)), b7, g7, cap7, rfl, ?_, ?_⟩
            · simp only [Act.put, List.setIfInBounds_toArray, List.set_cons_zero, List.set_cons_succ]
            · exact { H.out with ev10 := fun _ => rfl, o10_0 := fun _ => rfl, o10_1 := fun _ => rfl, o10_2 := fun _ => rfl, o10_3 := fun _ => rfl, o10_4 := fun _ => rfl, o10_5 := fun _ => rfl, o10_6 := fun _ => rfl, o10_7 := fun _ => rfl, o10_8 := fun _ => rfl, o10_9 := fun _ => rfl, o11_10 := fun _ => rfl }
          | 11, hi, _ =>
            have l' : l11 = false := (ready_op (o := _) rfl hi).1
            subst l'
            have k10 : l10 = true := (ready_op (o := _) rfl hi).2 { on := 10, ground := .data } (by simp) rfl
            have k9 : l9 = true := (ready_op (o := _) rfl hi).2 { on := 9, ground := .phase } (by simp) rfl
            have k0 : l0 = true := (ready_op (o := _) rfl hi).2 { on := 0, ground := .phase } (by simp) rfl
            have k1 : l1 = true := (ready_op (o := _) rfl hi).2 { on := 1, ground := .phase } (by simp) rfl
            have k2 : l2 = true := (ready_op (o := _) rfl hi).2 { on := 2, ground := .phase } (by simp) rfl
            have k3 : l3 = true := (ready_op (o := _) rfl hi).2 { on := 3, ground := .phase } (by simp) rfl
            have k4 : l4 = true := (ready_op (o := _) rfl hi).2 { on := 4, ground := .phase } (by simp) rfl
            have k5 : l5 = true := (ready_op (o := _) rfl hi).2 { on := 5, ground := .phase } (by simp) rfl
            have k6 : l6 = true := (ready_op (o := _) rfl hi).2 { on := 6, ground := .phase } (by simp) rfl
            have k7 : l7 = true := (ready_op (o := _) rfl hi).2 { on := 7, ground := .phase } (by simp) rfl
            have k8 : l8 = true := (ready_op (o := _) rfl hi).2 { on := 8, ground := .phase } (by simp) rfl
            clear hi hlt
            subst k10
            subst k9
            subst k0
            subst k1
            subst k2
            subst k3
            subst k4
            subst k5
            subst k6
            subst k7
            subst k8
            obtain rfl := h.ev10 rfl
            obtain rfl := h.ev9 rfl
            obtain rfl := h.ev0 rfl
            obtain rfl := h.ev1 rfl
            obtain rfl := h.ev2 rfl
            obtain rfl := h.ev3 rfl
            obtain rfl := h.ev4 rfl
            obtain rfl := h.ev5 rfl
            obtain rfl := h.ev6 rfl
            obtain rfl := h.ev7 rfl
            obtain rfl := h.ev8 rfl
            have c := (h.sb rfl rfl).o.c
            have f := (h.sb rfl rfl).o.f
            have H := Lib.hid h
            clear h
            refine wpOp_shut rfl (fun K hK => ?_)
            try simp only [Act.put, List.setIfInBounds_toArray, List.set_cons_zero, List.set_cons_succ]
            go_simp
            refine hK.out _ _ ?_
            unfold As.I
            refine ⟨true, true, true, true, true, true, true, true, true, true, true, true, (.pointer (some ⟨w6.heap.size, 1, none⟩)), (.slice ao k cap), (.pointer (some ⟨w.heap.size, 1, none⟩)), (.slice (some ⟨nb, no, none⟩) M.length dc), (.int .i64 k), (.pointer (some ⟨nb, no + k * 2, none⟩)), (iv x y), (iv (2 * x) (2 * y)), (.slice (some ⟨b7, 0, none⟩) 1 1), (.slice (some ⟨g7, 0, none⟩) (k + 1) cap7), (.pointer (some ⟨w6.heap.size, 1, none⟩)), b7, g7, cap7, rfl, ?_, ?_⟩
            · simp only [Act.put, List.setIfInBounds_toArray, List.set_cons_zero, List.set_cons_succ]
            · exact { H.out with o11_10 := fun _ => rfl, o11_9 := fun _ => rfl, o11_0 := fun _ => rfl, o11_1 := fun _ => rfl, o11_2 := fun _ => rfl, o11_3 := fun _ => rfl, o11_4 := fun _ => rfl, o11_5 := fun _ => rfl, o11_6 := fun _ => rfl, o11_7 := fun _ => rfl, o11_8 := fun _ => rfl, sa := fun p => (nomatch p), sz := fun _ p => (nomatch p), sb := fun _ p => (nomatch p), sc := fun _ => (H.out.sb rfl rfl).put, sr := fun p => (nomatch p) }
          | i + 12, _, hlt => exact absurd hlt (by simp)
        · intro L9 aa ww hI hn
          obtain ⟨l0, l1, l2, l3, l4, l5, l6, l7, l8, l9, l10, l11, v0, v1, v2, v3, v4, v5, v6, v7, v8, v9, v10, b7, g7, cap7, rfl, rfl, h⟩ := hI
          have k0 : l0 = true := not_ready (i := 0) (o := _) rfl hn (by simp [Region.binds])
          subst k0
          have k1 : l1 = true := not_ready (i := 1) (o := _) rfl hn (by simp [Region.binds])
          subst k1
          have k2 : l2 = true := not_ready (i := 2) (o := _) rfl hn (by simp [Region.binds])
          subst k2
          have k3 : l3 = true := not_ready (i := 3) (o := _) rfl hn (by simp [Region.binds])
          subst k3
          have k4 : l4 = true := not_ready (i := 4) (o := _) rfl hn (by simp [Region.binds])
          subst k4
          have k5 : l5 = true := not_ready (i := 5) (o := _) rfl hn (by simp [Region.binds])
          subst k5
          have k6 : l6 = true := not_ready (i := 6) (o := _) rfl hn (by simp [Region.binds])
          subst k6
          have k7 : l7 = true := not_ready (i := 7) (o := _) rfl hn (by simp [Region.binds])
          subst k7
          have k8 : l8 = true := not_ready (i := 8) (o := _) rfl hn (by simp [Region.binds])
          subst k8
          have k9 : l9 = true := not_ready (i := 9) (o := _) rfl hn (by simp [Region.binds])
          subst k9
          have k10 : l10 = true := not_ready (i := 10) (o := _) rfl hn (by simp [Region.binds])
          subst k10
          have k11 : l11 = true := not_ready (i := 11) (o := _) rfl hn (by simp [Region.binds])
          subst k11
          clear hn
          obtain rfl := h.ev0 rfl
          obtain rfl := h.ev1 rfl
          obtain rfl := h.ev2 rfl
          obtain rfl := h.ev3 rfl
          obtain rfl := h.ev4 rfl
          obtain rfl := h.ev5 rfl
          obtain rfl := h.ev6 rfl
          obtain rfl := h.ev7 rfl
          obtain rfl := h.ev8 rfl
          obtain rfl := h.ev9 rfl
          obtain rfl := h.ev10 rfl
          simp only [Act.put, List.setIfInBounds_toArray, List.set_cons_zero, List.set_cons_succ]
          rename World => w12
          have I12 := h.sc rfl
          clear h hI RS
          go_wp2_with fail
          go_roundw
          case rel =>
            refine ⟨k + 1, _, hlt, by simp, fun j p hj hp => ?_, I12⟩
            rcases Nat.lt_or_ge j k with h' | h'
            · exact HNAR.out j p h' hp
            · obtain rfl : j = k := by omega
              rw [HX.out] at hp
              cases hp
              exact HNX.out
          case measure => simp only [intOf]; omega
    · obtain rfl : k = M.length := by omega
      go_wp2_with fail
      go_upto_region 12 with fail
      have HS : Ho wr (World.drew wr) wr.heap.size [(w.heap.size + 1, [.int .i64 a.a, .int .i64 a.b, .int .i64 a.c, .int .i64 a.d, .int .i64 a.e, .int .i64 a.f, .int .i64 v.a, .int .i64 v.b, .int .i64 v.c, .int .i64 v.d, .int .i64 v.e, .int .i64 v.f])] := ⟨(Below.refl _ _).drew, Nat.le_refl _, Nat.le_refl _, fun p hp => by
        simp only [List.mem_cons, List.not_mem_nil, or_false] at hp
        subst hp
        exact ⟨hI.ry.lt, hI.ry.drew⟩⟩
      clear x0 x1
      refine region_sets (Ls.I (w.heap.size + 1) wr.heap.size a v wr) (by kernel_rfl) ?_ ?_ ?_
      · refine ⟨false, false, false, false, false, false, false, false, false, false, false, false, false, false, false, false, false, false, undef, undef, undef, undef, undef, undef, undef, undef, undef, undef, undef, undef, undef, undef, undef, undef, undef, 0, rfl, by simp only [Act.put, List.setIfInBounds_toArray, List.set_cons_zero, List.set_cons_succ], ?_⟩
        constructor
        · exact HS
        · (first | (simp; done) | (simp; omega))
        · (omega)
        all_goals (intro h; cases h)
      · intro L a' w' hI i hi
        obtain ⟨l0, l1, l2, l3, l4, l5, l6, l7, l8, l9, l10, l11, l12, l13, l14, l15, l16, l17, v0, v1, v2, v3, v4, v5, v6, v7, v8, v9, v10, v11, v12, v13, v14, v15, v16, b16, rfl, rfl, h⟩ := hI
        have hlt := ready_lt hi
        match i, hi, hlt with
        | 0, hi, _ =>
          have l' : l0 = false := (ready_op (o := _) rfl hi).1
          subst l'
          clear hi hlt
          have H := Lib.hid h
          clear h
          refine wpOp_shut rfl (fun K hK => ?_)
          try simp only [Act.put, List.setIfInBounds_toArray, List.set_cons_zero, List.set_cons_succ]
          go_simp
          refine hK.out _ _ ?_
          unfold Ls.I
          refine ⟨true, l1, l2, l3, l4, l5, l6, l7, l8, l9, l10, l11, l12, l13, l14, l15, l16, l17, (.pointer (some ⟨(w.heap.size + 1), 0, none⟩)), v1, v2, v3, v4, v5, v6, v7, v8, v9, v10, v11, v12, v13, v14, v15, v16, b16, rfl, ?_, ?_⟩
          · simp only [Act.put, List.setIfInBounds_toArray, List.set_cons_zero, List.set_cons_succ]
          · exact { H.out with ev0 := fun _ => rfl }
        | 1, hi, _ =>
          have l' : l1 = false := (ready_op (o := _) rfl hi).1
          subst l'
          have k0 : l0 = true := (ready_op (o := _) rfl hi).2 { on := 0, ground := .data } (by simp) rfl
          clear hi hlt
          subst k0
          obtain rfl := h.ev0 rfl
          have H := Lib.hid h
          clear h
          refine wpOp_shut rfl (fun K hK => ?_)
          try simp only [Act.put, List.setIfInBounds_toArray, List.set_cons_zero, List.set_cons_succ]
          go_simp
          refine hK.out _ _ ?_
          unfold Ls.I
          refine ⟨true, true, l2, l3, l4, l5, l6, l7, l8, l9, l10, l11, l12, l13, l14, l15, l16, l17, (.pointer (some ⟨(w.heap.size + 1), 0, none⟩)), (.pointer (some ⟨(w.heap.size + 1), 0, none⟩)), v2, v3, v4, v5, v6, v7, v8, v9, v10, v11, v12, v13, v14, v15, v16, b16, rfl, ?_, ?_⟩
          · simp only [Act.put, List.setIfInBounds_toArray, List.set_cons_zero, List.set_cons_succ]
          · exact { H.out with ev1 := fun _ => rfl }
        | 2, hi, _ =>
          have l' : l2 = false := (ready_op (o := _) rfl hi).1
          subst l'
          have k1 : l1 = true := (ready_op (o := _) rfl hi).2 { on := 1, ground := .data } (by simp) rfl
          clear hi hlt
          subst k1
          obtain rfl := h.ev1 rfl
          have c := (h.g.at 0 rfl).c
          have H := Lib.hid h
          clear h
          refine wpOp_shut rfl (fun K hK => ?_)
          try simp only [Act.put, List.setIfInBounds_toArray, List.set_cons_zero, List.set_cons_succ]
          go_simp
          refine hK.out _ _ ?_
          unfold Ls.I
          refine ⟨l0, true, true, l3, l4, l5, l6, l7, l8, l9, l10, l11, l12, l13, l14, l15, l16, l17, v0, (.pointer (some ⟨(w.heap.size + 1), 0, none⟩)), ((iv a.a a.b)), v3, v4, v5, v6, v7, v8, v9, v10, v11, v12, v13, v14, v15, v16, b16, rfl, ?_, ?_⟩
          · simp only [Act.put, List.setIfInBounds_toArray, List.set_cons_zero, List.set_cons_succ]
          · exact { H.out with ev2 := fun _ => rfl }
        | 3, hi, _ =>
          have l' : l3 = false := (ready_op (o := _) rfl hi).1
          subst l'
          have k2 : l2 = true := (ready_op (o := _) rfl hi).2 { on := 2, ground := .data } (by simp) rfl
          clear hi hlt
          subst k2
          obtain rfl := h.ev2 rfl
          have H := Lib.hid h
          clear h
          refine wpOp_shut rfl (fun K hK => ?_)
          try simp only [Act.put, List.setIfInBounds_toArray, List.set_cons_zero, List.set_cons_succ]
          go_simp
          refine (twice_any a.a a.b _ N1.out).mono ?_
          rintro e wY ⟨rfl, hb⟩
          try go_simp
          refine hK.out _ _ ?_
          unfold Ls.I
          refine ⟨l0, l1, true, true, l4, l5, l6, l7, l8, l9, l10, l11, l12, l13, l14, l15, l16, l17, v0, v1, ((iv a.a a.b)), ((iv (2 * a.a) (2 * a.b))), v4, v5, v6, v7, v8, v9, v10, v11, v12, v13, v14, v15, v16, b16, rfl, ?_, ?_⟩
          · simp only [Act.put, List.setIfInBounds_toArray, List.set_cons_zero, List.set_cons_succ]
          · exact { (H.out.kept hb) with ev3 := fun _ => rfl }
        | 4, hi, _ =>
          have l' : l4 = false := (ready_op (o := _) rfl hi).1
          subst l'
          clear hi hlt
          have H := Lib.hid h
          clear h
          refine wpOp_shut rfl (fun K hK => ?_)
          try simp only [Act.put, List.setIfInBounds_toArray, List.set_cons_zero, List.set_cons_succ]
          go_simp
          refine hK.out _ _ ?_
          unfold Ls.I
          refine ⟨l0, l1, l2, l3, true, l5, l6, l7, l8, l9, l10, l11, l12, l13, l14, l15, l16, l17, v0, v1, v2, v3, (.pointer (some ⟨(w.heap.size + 1), 0, none⟩)), v5, v6, v7, v8, v9, v10, v11, v12, v13, v14, v15, v16, b16, rfl, ?_, ?_⟩
          · simp only [Act.put, List.setIfInBounds_toArray, List.set_cons_zero, List.set_cons_succ]
          · exact { H.out with ev4 := fun _ => rfl }
        | 5, hi, _ =>
          have l' : l5 = false := (ready_op (o := _) rfl hi).1
          subst l'
          have k4 : l4 = true := (ready_op (o := _) rfl hi).2 { on := 4, ground := .data } (by simp) rfl
          clear hi hlt
          subst k4
          obtain rfl := h.ev4 rfl
          have H := Lib.hid h
          clear h
          refine wpOp_shut rfl (fun K hK => ?_)
          try simp only [Act.put, List.setIfInBounds_toArray, List.set_cons_zero, List.set_cons_succ]
          go_simp
          refine hK.out _ _ ?_
          unfold Ls.I
          refine ⟨l0, l1, l2, l3, true, true, l6, l7, l8, l9, l10, l11, l12, l13, l14, l15, l16, l17, v0, v1, v2, v3, (.pointer (some ⟨(w.heap.size + 1), 0, none⟩)), (.pointer (some ⟨(w.heap.size + 1), 2, none⟩)), v6, v7, v8, v9, v10, v11, v12, v13, v14, v15, v16, b16, rfl, ?_, ?_⟩
          · simp only [Act.put, List.setIfInBounds_toArray, List.set_cons_zero, List.set_cons_succ]
          · exact { H.out with ev5 := fun _ => rfl }
        | 6, hi, _ =>
          have l' : l6 = false := (ready_op (o := _) rfl hi).1
          subst l'
          have k5 : l5 = true := (ready_op (o := _) rfl hi).2 { on := 5, ground := .data } (by simp) rfl
          clear hi hlt
          subst k5
          obtain rfl := h.ev5 rfl
          have c := (h.g.at 0 rfl).c
          have H := Lib.hid h
          clear h
          refine wpOp_shut rfl (fun K hK => ?_)
          try simp only [Act.put, List.setIfInBounds_toArray, List.set_cons_zero, List.set_cons_succ]
          go_simp
          refine hK.out _ _ ?_
          unfold Ls.I
          refine ⟨l0, l1, l2, l3, l4, true, true, l7, l8, l9, l10, l11, l12, l13, l14, l15, l16, l17, v0, v1, v2, v3, v4, (.pointer (some ⟨(w.heap.size + 1), 2, none⟩)), ((iv a.c a.d)), v7, v8, v9, v10, v11, v12, v13, v14, v15, v16, b16, rfl, ?_, ?_⟩
          · simp only [Act.put, List.setIfInBounds_toArray, List.set_cons_zero, List.set_cons_succ]
          · exact { H.out with ev6 := fun _ => rfl }
        | 7, hi, _ =>
          have l' : l7 = false := (ready_op (o := _) rfl hi).1
          subst l'
          have k6 : l6 = true := (ready_op (o := _) rfl hi).2 { on := 6, ground := .data } (by simp) rfl
          have k3 : l3 = true := (ready_op (o := _) rfl hi).2 { on := 3, ground := .chain } (by simp) rfl
          clear hi hlt
          subst k6
          subst k3
          obtain rfl := h.ev6 rfl
          obtain rfl := h.ev3 rfl
          have H := Lib.hid h
          clear h
          refine wpOp_shut rfl (fun K hK => ?_)
          try simp only [Act.put, List.setIfInBounds_toArray, List.set_cons_zero, List.set_cons_succ]
          go_simp
          refine (twice_any a.c a.d _ N2.out).mono ?_
          rintro e wY ⟨rfl, hb⟩
          try go_simp
          refine hK.out _ _ ?_
          unfold Ls.I
          refine ⟨l0, l1, l2, true, l4, l5, true, true, l8, l9, l10, l11, l12, l13, l14, l15, l16, l17, v0, v1, v2, ((iv (2 * a.a) (2 * a.b))), v4, v5, ((iv a.c a.d)), ((iv (2 * a.c) (2 * a.d))), v8, v9, v10, v11, v12, v13, v14, v15, v16, b16, rfl, ?_, ?_⟩
          · simp only [Act.put, List.setIfInBounds_toArray, List.set_cons_zero, List.set_cons_succ]
          · exact { (H.out.kept hb) with ev7 := fun _ => rfl }
        | 8, hi, _ =>
          have l' : l8 = false := (ready_op (o := _) rfl hi).1
          subst l'
          clear hi hlt
          have H := Lib.hid h
          clear h
          refine wpOp_shut rfl (fun K hK => ?_)
          try simp only [Act.put, List.setIfInBounds_toArray, List.set_cons_zero, List.set_cons_succ]
          go_simp
          refine hK.out _ _ ?_
          unfold Ls.I
          refine ⟨l0, l1, l2, l3, l4, l5, l6, l7, true, l9, l10, l11, l12, l13, l14, l15, l16, l17, v0, v1, v2, v3, v4, v5, v6, v7, (.pointer (some ⟨(w.heap.size + 1), 0, none⟩)), v9, v10, v11, v12, v13, v14, v15, v16, b16, rfl, ?_, ?_⟩
          · simp only [Act.put, List.setIfInBounds_toArray, List.set_cons_zero, List.set_cons_succ]
          · exact { H.out with ev8 := fun _ => rfl }
        | 9, hi, _ =>
          have l' : l9 = false := (ready_op (o := _) rfl hi).1
          subst l'
          have k8 : l8 = true := (ready_op (o := _) rfl hi).2 { on := 8, ground := .data } (by simp) rfl
          clear hi hlt
          subst k8
          obtain rfl := h.ev8 rfl
          have H := Lib.hid h
          clear h
          refine wpOp_shut rfl (fun K hK => ?_)
          try simp only [Act.put, List.setIfInBounds_toArray, List.set_cons_zero, List.set_cons_succ]
          go_simp
          refine hK.out _ _ ?_
          unfold Ls.I
          refine ⟨l0, l1, l2, l3, l4, l5, l6, l7, true, true, l10, l11, l12, l13, l14, l15, l16, l17, v0, v1, v2, v3, v4, v5, v6, v7, (.pointer (some ⟨(w.heap.size + 1), 0, none⟩)), (.pointer (some ⟨(w.heap.size + 1), 4, none⟩)), v10, v11, v12, v13, v14, v15, v16, b16, rfl, ?_, ?_⟩
          · simp only [Act.put, List.setIfInBounds_toArray, List.set_cons_zero, List.set_cons_succ]
          · exact { H.out with ev9 := fun _ => rfl }
        | 10, hi, _ =>
          have l' : l10 = false := (ready_op (o := _) rfl hi).1
          subst l'
          have k9 : l9 = true := (ready_op (o := _) rfl hi).2 { on := 9, ground := .data } (by simp) rfl
          clear hi hlt
          subst k9
          obtain rfl := h.ev9 rfl
          have c := (h.g.at 0 rfl).c
          have H := Lib.hid h
          clear h
          refine wpOp_shut rfl (fun K hK => ?_)
          try simp only [Act.put, List.setIfInBounds_toArray, List.set_cons_zero, List.set_cons_succ]
          go_simp
          refine hK.out _ _ ?_
          unfold Ls.I
          refine ⟨l0, l1, l2, l3, l4, l5, l6, l7, l8, true, true, l11, l12, l13, l14, l15, l16, l17, v0, v1, v2, v3, v4, v5, v6, v7, v8, (.pointer (some ⟨(w.heap.size + 1), 4, none⟩)), ((iv a.e a.f)), v11, v12, v13, v14, v15, v16, b16, rfl, ?_, ?_⟩
          · simp only [Act.put, List.setIfInBounds_toArray, List.set_cons_zero, List.set_cons_succ]
          · exact { H.out with ev10 := fun _ => rfl }
        | 11, hi, _ =>
          have l' : l11 = false := (ready_op (o := _) rfl hi).1
          subst l'
          have k10 : l10 = true := (ready_op (o := _) rfl hi).2 { on := 10, ground := .data } (by simp) rfl
          have k7 : l7 = true := (ready_op (o := _) rfl hi).2 { on := 7, ground := .chain } (by simp) rfl
          clear hi hlt
          subst k10
          subst k7
          obtain rfl := h.ev10 rfl
          obtain rfl := h.ev7 rfl
          have H := Lib.hid h
          clear h
          refine wpOp_shut rfl (fun K hK => ?_)
          try simp only [Act.put, List.setIfInBounds_toArray, List.set_cons_zero, List.set_cons_succ]
          go_simp
          refine (twice_any a.e a.f _ N3.out).mono ?_
          rintro e wY ⟨rfl, hb⟩
          try go_simp
          refine hK.out _ _ ?_
          unfold Ls.I
          refine ⟨l0, l1, l2, l3, l4, l5, l6, true, l8, l9, true, true, l12, l13, l14, l15, l16, l17, v0, v1, v2, v3, v4, v5, v6, ((iv (2 * a.c) (2 * a.d))), v8, v9, ((iv a.e a.f)), ((iv (2 * a.e) (2 * a.f))), v12, v13, v14, v15, v16, b16, rfl, ?_, ?_⟩
          · simp only [Act.put, List.setIfInBounds_toArray, List.set_cons_zero, List.set_cons_succ]
          · exact { (H.out.kept hb) with ev11 := fun _ => rfl }
        | 12, hi, _ =>
          have l' : l12 = false := (ready_op (o := _) rfl hi).1
          subst l'
          have k3 : l3 = true := (ready_op (o := _) rfl hi).2 { on := 3, ground := .data } (by simp) rfl
          have k7 : l7 = true := (ready_op (o := _) rfl hi).2 { on := 7, ground := .data } (by simp) rfl
          have k11 : l11 = true := (ready_op (o := _) rfl hi).2 { on := 11, ground := .data } (by simp) rfl
          clear hi hlt
          subst k3
          subst k7
          subst k11
          obtain rfl := h.ev3 rfl
          obtain rfl := h.ev7 rfl
          obtain rfl := h.ev11 rfl
          have H := Lib.hid h
          clear h
          refine wpOp_shut rfl (fun K hK => ?_)
          try simp only [Act.put, List.setIfInBounds_toArray, List.set_cons_zero, List.set_cons_succ]
          go_simp
          refine hK.out _ _ ?_
          unfold Ls.I
          refine ⟨l0, l1, l2, true, l4, l5, l6, true, l8, l9, l10, true, true, l13, l14, l15, l16, l17, v0, v1, v2, ((iv (2 * a.a) (2 * a.b))), v4, v5, v6, ((iv (2 * a.c) (2 * a.d))), v8, v9, v10, ((iv (2 * a.e) (2 * a.f))), (.agg #[.int .i64 (2 * a.a), .int .i64 (2 * a.b), .int .i64 (2 * a.c), .int .i64 (2 * a.d), .int .i64 (2 * a.e), .int .i64 (2 * a.f)]), v13, v14, v15, v16, b16, rfl, ?_, ?_⟩
          · simp only [Act.put, List.setIfInBounds_toArray, List.set_cons_zero, List.set_cons_succ]
          · exact { H.out with ev12 := fun _ => rfl }
        | 13, hi, _ =>
          have l' : l13 = false := (ready_op (o := _) rfl hi).1
          subst l'
          clear hi hlt
          have H := Lib.hid h
          clear h
          refine wpOp_shut rfl (fun K hK => ?_)
          try simp only [Act.put, List.setIfInBounds_toArray, List.set_cons_zero, List.set_cons_succ]
          go_simp
          refine hK.out _ _ ?_
          unfold Ls.I
          refine ⟨l0, l1, l2, l3, l4, l5, l6, l7, l8, l9, l10, l11, l12, true, l14, l15, l16, l17, v0, v1, v2, v3, v4, v5, v6, v7, v8, v9, v10, v11, v12, (.pointer (some ⟨(w.heap.size + 1), 6, none⟩)), v14, v15, v16, b16, rfl, ?_, ?_⟩
          · simp only [Act.put, List.setIfInBounds_toArray, List.set_cons_zero, List.set_cons_succ]
          · exact { H.out with ev13 := fun _ => rfl }
        | 14, hi, _ =>
          have l' : l14 = false := (ready_op (o := _) rfl hi).1
          subst l'
          have k13 : l13 = true := (ready_op (o := _) rfl hi).2 { on := 13, ground := .data } (by simp) rfl
          clear hi hlt
          subst k13
          obtain rfl := h.ev13 rfl
          have c := (h.g.at 0 rfl).c
          have H := Lib.hid h
          clear h
          refine wpOp_shut rfl (fun K hK => ?_)
          try simp only [Act.put, List.setIfInBounds_toArray, List.set_cons_zero, List.set_cons_succ]
          go_simp
          refine hK.out _ _ ?_
          unfold Ls.I
          refine ⟨l0, l1, l2, l3, l4, l5, l6, l7, l8, l9, l10, l11, l12, true, true, l15, l16, l17, v0, v1, v2, v3, v4, v5, v6, v7, v8, v9, v10, v11, v12, (.pointer (some ⟨(w.heap.size + 1), 6, none⟩)), ((dv v)), v15, v16, b16, rfl, ?_, ?_⟩
          · simp only [Act.put, List.setIfInBounds_toArray, List.set_cons_zero, List.set_cons_succ]
          · exact { H.out with ev14 := fun _ => rfl }
        | 15, hi, _ =>
          have l' : l15 = false := (ready_op (o := _) rfl hi).1
          subst l'
          have k12 : l12 = true := (ready_op (o := _) rfl hi).2 { on := 12, ground := .data } (by simp) rfl
          have k14 : l14 = true := (ready_op (o := _) rfl hi).2 { on := 14, ground := .data } (by simp) rfl
          clear hi hlt
          subst k12
          subst k14
          obtain rfl := h.ev12 rfl
          obtain rfl := h.ev14 rfl
          have H := Lib.hid h
          clear h
          refine wpOp_shut rfl (fun K hK => ?_)
          try simp only [Act.put, List.setIfInBounds_toArray, List.set_cons_zero, List.set_cons_succ]
          go_simp
          refine hK.out _ _ ?_
          unfold Ls.I
          refine ⟨l0, l1, l2, l3, l4, l5, l6, l7, l8, l9, l10, l11, true, l13, true, true, l16, l17, v0, v1, v2, v3, v4, v5, v6, v7, v8, v9, v10, v11, (.agg #[.int .i64 (2 * a.a), .int .i64 (2 * a.b), .int .i64 (2 * a.c), .int .i64 (2 * a.d), .int .i64 (2 * a.e), .int .i64 (2 * a.f)]), v13, ((dv v)), (.agg #[.int .i64 (2 * a.a), .int .i64 (2 * a.b), .int .i64 (2 * a.c), .int .i64 (2 * a.d), .int .i64 (2 * a.e), .int .i64 (2 * a.f), .int .i64 v.a, .int .i64 v.b, .int .i64 v.c, .int .i64 v.d, .int .i64 v.e, .int .i64 v.f]), v16, b16, rfl, ?_, ?_⟩
          · simp only [Act.put, List.setIfInBounds_toArray, List.set_cons_zero, List.set_cons_succ]
          · exact { H.out with ev15 := fun _ => rfl }
        | 16, hi, _ =>
          have l' : l16 = false := (ready_op (o := _) rfl hi).1
          subst l'
          clear hi hlt
          have H := Lib.hid h
          clear h
          refine wpOp_shut rfl (fun K hK => ?_)
          try simp only [Act.put, List.setIfInBounds_toArray, List.set_cons_zero, List.set_cons_succ]
          go_simp
          refine hK.out _ _ ?_
          unfold Ls.I
          refine ⟨l0, l1, l2, l3, l4, l5, l6, l7, l8, l9, l10, l11, l12, l13, l14, l15, true, l17, v0, v1, v2, v3, v4, v5, v6, v7, v8, v9, v10, v11, v12, v13, v14, v15, (.pointer (some ⟨w'.heap.size, 0, none⟩)), w'.heap.size, rfl, ?_, ?_⟩
          · simp only [Act.put, List.setIfInBounds_toArray, List.set_cons_zero, List.set_cons_succ]
          · have h := H.out
            have h2 := h.kept ((Below.refl _ _).alloc (Nat.le_refl _) (.cells (List.toArray [.int .i64 0, .int .i64 0, .int .i64 0, .int .i64 0, .int .i64 0, .int .i64 0, .int .i64 0, .int .i64 0, .int .i64 0, .int .i64 0, .int .i64 0, .int .i64 0]) 41))
            exact { h2 with ev16 := fun _ => rfl, g16 := fun _ => h.sz, t16 := fun _ => by simp, o16 := fun p => rfl, z16 := fun _ _ => Bx.new rfl, s16 := fun p => (nomatch (h.o16 p)) }
        | 17, hi, _ =>
          have l' : l17 = false := (ready_op (o := _) rfl hi).1
          subst l'
          have k16 : l16 = true := (ready_op (o := _) rfl hi).2 { on := 16, ground := .phase } (by simp) rfl
          have k15 : l15 = true := (ready_op (o := _) rfl hi).2 { on := 15, ground := .phase } (by simp) rfl
          have k11 : l11 = true := (ready_op (o := _) rfl hi).2 { on := 11, ground := .phase } (by simp) rfl
          have k0 : l0 = true := (ready_op (o := _) rfl hi).2 { on := 0, ground := .phase } (by simp) rfl
          have k1 : l1 = true := (ready_op (o := _) rfl hi).2 { on := 1, ground := .phase } (by simp) rfl
          have k2 : l2 = true := (ready_op (o := _) rfl hi).2 { on := 2, ground := .phase } (by simp) rfl
          have k3 : l3 = true := (ready_op (o := _) rfl hi).2 { on := 3, ground := .phase } (by simp) rfl
          have k4 : l4 = true := (ready_op (o := _) rfl hi).2 { on := 4, ground := .phase } (by simp) rfl
          have k5 : l5 = true := (ready_op (o := _) rfl hi).2 { on := 5, ground := .phase } (by simp) rfl
          have k6 : l6 = true := (ready_op (o := _) rfl hi).2 { on := 6, ground := .phase } (by simp) rfl
          have k7 : l7 = true := (ready_op (o := _) rfl hi).2 { on := 7, ground := .phase } (by simp) rfl
          have k8 : l8 = true := (ready_op (o := _) rfl hi).2 { on := 8, ground := .phase } (by simp) rfl
          have k9 : l9 = true := (ready_op (o := _) rfl hi).2 { on := 9, ground := .phase } (by simp) rfl
          have k10 : l10 = true := (ready_op (o := _) rfl hi).2 { on := 10, ground := .phase } (by simp) rfl
          have k12 : l12 = true := (ready_op (o := _) rfl hi).2 { on := 12, ground := .phase } (by simp) rfl
          have k13 : l13 = true := (ready_op (o := _) rfl hi).2 { on := 13, ground := .phase } (by simp) rfl
          have k14 : l14 = true := (ready_op (o := _) rfl hi).2 { on := 14, ground := .phase } (by simp) rfl
          clear hi hlt
          subst k16
          subst k15
          subst k11
          subst k0
          subst k1
          subst k2
          subst k3
          subst k4
          subst k5
          subst k6
          subst k7
          subst k8
          subst k9
          subst k10
          subst k12
          subst k13
          subst k14
          obtain rfl := h.ev16 rfl
          obtain rfl := h.ev15 rfl
          obtain rfl := h.ev11 rfl
          obtain rfl := h.ev0 rfl
          obtain rfl := h.ev1 rfl
          obtain rfl := h.ev2 rfl
          obtain rfl := h.ev3 rfl
          obtain rfl := h.ev4 rfl
          obtain rfl := h.ev5 rfl
          obtain rfl := h.ev6 rfl
          obtain rfl := h.ev7 rfl
          obtain rfl := h.ev8 rfl
          obtain rfl := h.ev9 rfl
          obtain rfl := h.ev10 rfl
          obtain rfl := h.ev12 rfl
          obtain rfl := h.ev13 rfl
          obtain rfl := h.ev14 rfl
          have bz := h.z16 rfl rfl
          have c := bz.c
          have f := bz.f
          clear bz
          have H := Lib.hid h
          clear h
          refine wpOp_shut rfl (fun K hK => ?_)
          try simp only [Act.put, List.setIfInBounds_toArray, List.set_cons_zero, List.set_cons_succ]
          go_simp
          refine hK.out _ _ ?_
          unfold Ls.I
          refine ⟨true, true, true, true, true, true, true, true, true, true, true, true, true, true, true, true, true, true, (.pointer (some ⟨(w.heap.size + 1), 0, none⟩)), (.pointer (some ⟨(w.heap.size + 1), 0, none⟩)), ((iv a.a a.b)), ((iv (2 * a.a) (2 * a.b))), (.pointer (some ⟨(w.heap.size + 1), 0, none⟩)), (.pointer (some ⟨(w.heap.size + 1), 2, none⟩)), ((iv a.c a.d)), ((iv (2 * a.c) (2 * a.d))), (.pointer (some ⟨(w.heap.size + 1), 0, none⟩)), (.pointer (some ⟨(w.heap.size + 1), 4, none⟩)), ((iv a.e a.f)), ((iv (2 * a.e) (2 * a.f))), (.agg #[.int .i64 (2 * a.a), .int .i64 (2 * a.b), .int .i64 (2 * a.c), .int .i64 (2 * a.d), .int .i64 (2 * a.e), .int .i64 (2 * a.f)]), (.pointer (some ⟨(w.heap.size + 1), 6, none⟩)), ((dv v)), (.agg #[.int .i64 (2 * a.a), .int .i64 (2 * a.b), .int .i64 (2 * a.c), .int .i64 (2 * a.d), .int .i64 (2 * a.e), .int .i64 (2 * a.f), .int .i64 v.a, .int .i64 v.b, .int .i64 v.c, .int .i64 v.d, .int .i64 v.e, .int .i64 v.f]), (.pointer (some ⟨b16, 0, none⟩)), b16, rfl, ?_, ?_⟩
          · simp only [Act.put, List.setIfInBounds_toArray, List.set_cons_zero, List.set_cons_succ]
          · have h := H.out
            have gb := h.g16 rfl
            have gm := Nat.le_trans h.mn gb
            exact { h with g := ((((((((((((h.g.put gm).put gm).put gm).put gm).put gm).put gm).put gm).put gm).put gm).put gm).put gm).put gm), sz := by simpa using h.sz, o16 := fun _ => rfl, z16 := fun _ p => (nomatch p), s16 := fun _ => (((((((((((((h.z16 rfl rfl).put).put).put).put).put).put).put).put).put).put).put).put), t16 := fun p => by simpa using h.t16 p }
        | i + 18, _, hlt => exact absurd hlt (by simp)
      · intro L a' w' hI hn
        obtain ⟨l0, l1, l2, l3, l4, l5, l6, l7, l8, l9, l10, l11, l12, l13, l14, l15, l16, l17, v0, v1, v2, v3, v4, v5, v6, v7, v8, v9, v10, v11, v12, v13, v14, v15, v16, b16, rfl, rfl, h⟩ := hI
        have k0 : l0 = true := not_ready (i := 0) (o := _) rfl hn (by simp [Region.binds])
        subst k0
        have k1 : l1 = true := not_ready (i := 1) (o := _) rfl hn (by simp [Region.binds])
        subst k1
        have k2 : l2 = true := not_ready (i := 2) (o := _) rfl hn (by simp [Region.binds])
        subst k2
        have k3 : l3 = true := not_ready (i := 3) (o := _) rfl hn (by simp [Region.binds])
        subst k3
        have k4 : l4 = true := not_ready (i := 4) (o := _) rfl hn (by simp [Region.binds])
        subst k4
        have k5 : l5 = true := not_ready (i := 5) (o := _) rfl hn (by simp [Region.binds])
        subst k5
        have k6 : l6 = true := not_ready (i := 6) (o := _) rfl hn (by simp [Region.binds])
        subst k6
        have k7 : l7 = true := not_ready (i := 7) (o := _) rfl hn (by simp [Region.binds])
        subst k7
        have k8 : l8 = true := not_ready (i := 8) (o := _) rfl hn (by simp [Region.binds])
        subst k8
        have k9 : l9 = true := not_ready (i := 9) (o := _) rfl hn (by simp [Region.binds])
        subst k9
        have k10 : l10 = true := not_ready (i := 10) (o := _) rfl hn (by simp [Region.binds])
        subst k10
        have k11 : l11 = true := not_ready (i := 11) (o := _) rfl hn (by simp [Region.binds])
        subst k11
        have k12 : l12 = true := not_ready (i := 12) (o := _) rfl hn (by simp [Region.binds])
        subst k12
        have k13 : l13 = true := not_ready (i := 13) (o := _) rfl hn (by simp [Region.binds])
        subst k13
        have k14 : l14 = true := not_ready (i := 14) (o := _) rfl hn (by simp [Region.binds])
        subst k14
        have k15 : l15 = true := not_ready (i := 15) (o := _) rfl hn (by simp [Region.binds])
        subst k15
        have k16 : l16 = true := not_ready (i := 16) (o := _) rfl hn (by simp [Region.binds])
        subst k16
        have k17 : l17 = true := not_ready (i := 17) (o := _) rfl hn (by simp [Region.binds])
        subst k17
        clear hn
        obtain rfl := h.ev0 rfl
        obtain rfl := h.ev1 rfl
        obtain rfl := h.ev2 rfl
        obtain rfl := h.ev3 rfl
        obtain rfl := h.ev4 rfl
        obtain rfl := h.ev5 rfl
        obtain rfl := h.ev6 rfl
        obtain rfl := h.ev7 rfl
        obtain rfl := h.ev8 rfl
        obtain rfl := h.ev9 rfl
        obtain rfl := h.ev10 rfl
        obtain rfl := h.ev11 rfl
        obtain rfl := h.ev12 rfl
        obtain rfl := h.ev13 rfl
        obtain rfl := h.ev14 rfl
        obtain rfl := h.ev15 rfl
        obtain rfl := h.ev16 rfl
        simp only [Act.put, List.setIfInBounds_toArray, List.set_cons_zero, List.set_cons_succ]
        rename World => w13
        have T13 := hI.kept h.g.below
        have S13 := h.s16 rfl
        have hz13 := h.sz
        clear h
        have HNAR2 := HNAR
        obtain ⟨⟨f1, l1, g1, e1⟩, hh1⟩ : ∃ r, hitV L M i0 i1 a v = r := ⟨_, rfl⟩
        obtain ⟨⟨f2, l2, g2, e2⟩, hh2⟩ : ∃ r, hitV L (dbl M) i0 i1 ⟨2 * a.a, 2 * a.b, 2 * a.c, 2 * a.d, 2 * a.e, 2 * a.f⟩ v = r := ⟨_, rfl⟩
        have HH1 := Lib.hid hh1
        have HH2 := Lib.hid hh2
        clear hh1 hh2
        have x0 := T13.bd.c
        have x1 := T13.ry.c
        go_wp2_with fail
        refine (Hit_any (a := a) (v := v) _ (HN.out.kept T13.below) (HM.out.kept T13.below)).mono ?_
        rintro e w14 ⟨rfl, hb⟩
        rw [HH1.out]
        dsimp only
        have T14 := (T13.kept hb).kept ((Below.refl _ _).alloc (Nat.le_refl _) (.cells (List.toArray [.int .i64 l1, .int .i64 g1]) 24))
        have S14 := (S13.kept hb).alc (.cells (List.toArray [.int .i64 l1, .int .i64 g1]) 24)
        have X14 : Bx (w14.alloc (.cells (List.toArray [.int .i64 l1, .int .i64 g1]) 24)) w14.heap.size [.int .i64 l1, .int .i64 g1] := Bx.new rfl
        have hz14 := hb.size
        clear hb x0 x1 T13 S13
        have x0 := T14.o.c
        have x1 := S14.c
        have x2 := T14.o.lt
        have x3 := S14.lt
        have n1 : ¬ (w6.heap.size = w14.heap.size) := by have h1 := hI.sz; omega
        go_wp2_with fail
        have hrow := T14.row
        rw [List.take_length] at hrow
        refine (Hit_dbl (a := ⟨2 * a.a, 2 * a.b, 2 * a.c, 2 * a.d, 2 * a.e, 2 * a.f⟩) (v := v) _ (HN.out.kept T14.below) (own_pairs31 hrow (dbl_len M).symm)).mono ?_
        rintro e w15 ⟨rfl, hb⟩
        rw [HH2.out]
        dsimp only
        have T15 := (T14.kept hb).kept ((Below.refl _ _).alloc (Nat.le_refl _) (.cells (List.toArray [.int .i64 l2, .int .i64 g2]) 24))
        have X15 := (X14.kept hb).alc (.cells (List.toArray [.int .i64 l2, .int .i64 g2]) 24)
        have Y15 : Bx (w15.alloc (.cells (List.toArray [.int .i64 l2, .int .i64 g2]) 24)) w15.heap.size [.int .i64 l2, .int .i64 g2] := Bx.new rfl
        clear hb x0 x1 x2 x3 n1 T14 S14 X14 hrow
        have x0 := X15.c
        have x1 := X15.lt
        by_cases he1 : e1 = 0
        · by_cases he2 : e2 = 0
          · subst he1 he2
            have key := scale_law (L := L) (M := M) (i0 := i0) (i1 := i1) (a := a) (v := v) (by rw [HH1.out]) (by rw [HH2.out])
            rw [HH1.out, HH2.out] at key
            dsimp only at key
            obtain ⟨rfl, k2, k3, k4, k5, k6⟩ := key
            have q1 : IntKind.i64.wrap (2 * g1) = 2 * g1 := IntWalk.i64_in _ (by omega)
            have q2 : IntKind.i64.wrap (2 * l1) = 2 * l1 := IntWalk.i64_in _ (by omega)
            have d1 : decide (l2 ≤ 2 * g1) = true := decide_eq_true k2
            have d2 : decide (2 * l1 ≤ g2) = true := decide_eq_true k3
            go_wp2_with fail
            go_ret
            exact ⟨by first | rfl | simp, T15.below⟩
          · subst he1
            go_wp2_with fail
            go_ret
            exact ⟨by first | rfl | simp, T15.below⟩
        · go_wp2_with fail
          go_ret
          exact ⟨by first | rfl | simp, T15.below⟩
end Go.Proofs.Ytedfciddfpcifaa.Iv

/- A body that comes in: how many bytes its slices take at most. -/
namespace Go.Proofs.Ytedfciddfpcifaa.Iv
open Go.ChangeShapes Go.WideShapes Go.ChangeAt Go.RowKit Go.Deep

theorem bDir31 : Try.prog.bytesOf 26 = 48 := by kernel_rfl
theorem bIv31 : Try.prog.bytesOf 24 = 16 := by kernel_rfl
theorem slice_w31 {H : Type} {enc : TypeId × Value → H} {w : World} {fuel : Nat} {spare : Nat → Bool} {held : Bool} {x : DataW H × List MemPlace} {t e : TypeId} {a : Option Addr} {n c : Nat} (ht : Try.prog.underlying t = some (.slice e))
    (h : DataW.trod enc Try.prog w 0 spare held fuel t [.slice a n c] = some x) (hw : ∀ k ∈ x.1.weights Try.prog t, k ≤ reachBytes) : n * Try.prog.bytesOf e ≤ reachBytes := by
  rcases open_slice ht h with ⟨hcs, _⟩ | ⟨a', l, c', m, k, D, Pl, hcs, _, hl, hm, hmm, hx, _⟩
  · simp at hcs
    obtain ⟨_, rfl, _⟩ := hcs
    rw [Nat.zero_mul]
    exact Nat.zero_le _
  · simp at hcs
    obtain ⟨_, rfl, _⟩ := hcs
    have := hw ((((List.range n).map D).length + ((List.range (m - n)).map fun j => D (n + j)).length) * Try.prog.bytesOf e) (by rw [hx]; simp [DataW.weights, ht])
    simp only [List.length_map, List.length_range] at this
    exact Nat.le_trans (Nat.mul_le_mul_right _ (Nat.le_add_right _ _)) this
set_option maxRecDepth 100000 in
theorem body_w31 {H : Type} {enc : TypeId × Value → H} {w : World} {fuel : Nat} {spare : Nat → Bool} {held : Bool} {x : DataW H × List MemPlace} {na da : Option Addr} {n m nc dc : Nat} {i0 i1 : Int}
    (h : DataW.trod enc Try.prog w 0 spare held fuel 39 [.slice na n nc, .slice da m dc, .int .i64 i0, .int .i64 i1] = some x) (hw : ∀ k ∈ x.1.weights Try.prog 39, k ≤ reachBytes) : n * 48 ≤ reachBytes ∧ m * 16 ≤ reachBytes := by
  obtain ⟨xs, f, _, hx, _, hxl, hf⟩ := DataW.trod_struct Try.underlying39 h
  have h0 : DataW.trod enc Try.prog w 0 spare held f 36 ((([.slice na n nc, .slice da m dc, .int .i64 i0, .int .i64 i1] : List Value).drop 0).take (Try.prog.cellsOf 36)) = xs[0]? := hf 0 _ rfl
  have h1 : DataW.trod enc Try.prog w 0 spare held f 37 ((([.slice na n nc, .slice da m dc, .int .i64 i0, .int .i64 i1] : List Value).drop 1).take (Try.prog.cellsOf 37)) = xs[1]? := hf 1 _ rfl
  rw [cDirs31] at h0
  rw [cIvs31] at h1
  have hl : xs.length = 3 := by simpa using hxl
  match xs, hl with
  | [x0, x1, x2], _ =>
    subst hx
    have g0 := slice_w31 Try.underlying36 (h0.trans rfl) (fun k hk => hw k (by
      simp only [DataW.weights, Try.underlying39]
      exact DataW.weights_mem_each (j := 0) rfl rfl k hk))
    have g1 := slice_w31 Try.underlying37 (h1.trans rfl) (fun k hk => hw k (by
      simp only [DataW.weights, Try.underlying39]
      exact DataW.weights_mem_each (j := 1) rfl rfl k hk))
    rw [bDir31] at g0
    rw [bIv31] at g1
    exact ⟨g0, g1⟩
set_option maxRecDepth 100000 in
theorem body_sz {H : Type} {enc : TypeId × Value → H} {w : World} {r : Reach} {b0 : Nat} {spare : Nat → Bool} {held : Bool} {v : Value} {d : DataW H} {p : List MemPlace}
    (hv : Value.okWide Try.prog w r b0 39 v) (h : DataW.Trod enc Try.prog w 0 spare held 39 v d p) (hw : ∀ k ∈ d.weights Try.prog 39, k ≤ reachBytes) :
    ∃ na L nc da M dc i0 i1, v = .agg #[.slice na (L : List D).length nc, .slice da (M : List (Int × Int)).length dc, .int .i64 i0, .int .i64 i1] ∧ NAt w na L ∧ PAt w da M ∧ L.length * 48 ≤ 140737488351232 ∧ M.length * 16 ≤ 140737488351232 := by
  obtain ⟨l, fuel, rfl, hf⟩ := agg_of Try.underlying39 hv h
  obtain ⟨na, L, nc, da, M, dc, i0, i1, rfl, h1, h2, h3, h4⟩ := body31 hf
  obtain ⟨g0, g1⟩ := body_w31 hf hw
  exact ⟨na, L, nc, da, M, dc, i0, i1, rfl, h1, h2, g0, g1⟩
end Go.Proofs.Ytedfciddfpcifaa.Iv

/- TraceScale returns true for every input, and the arguments read afterwards as they read before; no conditions. -/
namespace Go.Proofs.Ytedfciddfpcifaa.Iv.traceScale
open Go.ChangeShapes Go.WideShapes Go.ChangeAt Go.RowKit Go.Deep

theorem own : ownKnob Try.prog.godebug = none := own31
theorem laidOut : laidOutB Try.prog = true := laidOut31
set_option maxRecDepth 100000 in
set_option maxHeartbeats 4000000 in
theorem lifted (os : Os) (started : os.Started) (H : Type) (enc : TypeId × Value → H) :
    ReturnsInHanded {} Try.checked os 7 .any (Rows.traceScaleSpec.pre6 enc Try.prog Try.f7 Rows.traceScaleRow.domain false) (Rows.traceScaleSpec.post enc Try.prog Try.f7 false true false false) := by
  refine returnsInHanded_of_change_sized (C := Try.checked) own started (by kernel_rfl) Try.func7
    (ChangeSpec.witness6 (enc := enc) (C := Try.checked) false ⟨#[], #[.agg #[.slice none 0 0, .slice none 0 0, .int .i64 0, .int .i64 0], .agg #[.int .i64 0, .int .i64 0, .int .i64 0, .int .i64 0, .int .i64 0, .int .i64 0, .int .i64 0, .int .i64 0, .int .i64 0, .int .i64 0, .int .i64 0, .int .i64 0]], []⟩ 40 (by kernel_rfl) (by kernel_rfl) (by kernel_rfl) (by kernel_rfl)) ?_
  intro W base args ds gs before hval0 hW hcnd hsz _
  have hval : ∀ (j : Nat) t v, Try.f7.params[j]? = some t → args[j]? = some v → Value.okWide Try.prog W .any base t v := hval0
  have hW' := hW
  obtain ⟨p, q, hA0, hV, rfl, hfz, hnd⟩ := hW
  have hA : DataW.TrodAll enc Try.prog W 0 (fun _ => true) true Try.f7.params.toList args.toList ds p := hA0
  rw [Try.params7] at hA hval
  obtain ⟨v0, vs0, d0, ds0, p0, q0, hargs, rfl, rfl, h0, r0⟩ := trodAll_cons hA
  obtain ⟨v1, vs1, d1, ds1, p1, q1, rfl, rfl, rfl, h1, r1⟩ := trodAll_cons r0
  obtain ⟨rfl, rfl, rfl⟩ := trodAll_nil r1
  obtain rfl : args = #[v0, v1] := by cases args; simp_all
  obtain ⟨rfl, rfl⟩ := trodVars_none hV
  have k0 := h0
  have k1 := h1
  have lt0 : ∀ x ∈ p0, x.block < W.heap.size := by obtain ⟨m, hm⟩ := k0; exact DataW.trod_lt m _ _ _ hm
  have lt1 : ∀ x ∈ p1, x.block < W.heap.size := by obtain ⟨m, hm⟩ := k1; exact DataW.trod_lt m _ _ _ hm
  obtain ⟨na, L, nc, da, M, dc, i0, i1, rfl, hN, hM, hL, hLM⟩ := body_sz (hval 0 39 v0 rfl rfl) h0 (fun k hk => by have := List.all_eq_true.1 hsz k (DataW.weights_mem_each (j := 0) rfl rfl k hk); simpa using this)
  obtain ⟨a, v, rfl⟩ := ray_of (hval 1 41 v1 rfl rfl) h1
  clear hA0 hval0
  refine (tScale_law W hN hM hL hLM).mono fun e W' ⟨he, bel⟩ => ?_
  subst he
  exact ⟨_, rfl, _, _, _, [], _, [], hW', trodAll_mk1 (shut_bool Try.underlying4 _), (trodAll_cons_mk (Below.trod laidOut (by kernel_rfl) (of_decide_eq_true (by kernel_rfl)) k0 bel lt0) (trodAll_cons_mk (Below.trod laidOut (by kernel_rfl) (of_decide_eq_true (by kernel_rfl)) k1 bel lt1) trodAll_mk0)), rfl, bel.frame _, fun h => by cases h⟩

theorem holds : Rows.TraceScaleSaid :=
  OpenClaim.holds_of_wide 7 Try.f7 rfl rfl rfl rfl rfl rfl rfl ⟨rfl, rfl, rfl, rfl, rfl⟩ rfl rfl rfl rfl rfl (by kernel_rfl) Try.func7 (by kernel_rfl)
    (of_decide_eq_true (by kernel_rfl)) (by unfold Func.isWrapper; first | (rw [if_pos (by decide +kernel)]; kernel_rfl) | (rw [if_neg (by decide +kernel)]; exact ⟨rfl, rfl⟩))
    (fun os started H enc _ => lifted os started H enc)
end Go.Proofs.Ytedfciddfpcifaa.Iv.traceScale
