/- A body that comes in: how many bytes its slices take at most. -/
import Derived.Test.YtedfciddfpcifaaM18
import Derived.Test.YtedfciddfpcifaaM24
import Derived.Deep.AppendLies
import Derived.Maps.AppendAt
import Derived.LoopNIn
import Derived.Test.YtedfciddfpcifaaM28
import Derived.Test.YtedfciddfpcifaaM22
import Derived.BigQuiet
import Derived.SizedLaws

/- Contracts of the laws' helpers: Theirs, Few. -/
namespace Go.Proofs.Ytedfciddfpcifaa.Iv
open Go.RowKit

attribute [local go_sem] Oper.semAt_some

theorem info_rdir : (Try.prog.info? 32).map (fun i => (i.zero, i.size, i.bytes)) = some (some (.agg #[.int .i64 0, .int .i64 0, .int .i64 0, .int .i64 0, .int .i64 0, .int .i64 0]), 6, 48) := by kernel_rfl
/-- what holds between two rounds of Theirs -/
structure TI (w : World) (na da : Option Addr) (m nc mm dc : Nat) (i0 i1 : Int) (L : List D) (uo u : Value) (k : Nat) (W : World) : Prop where
  below : Below w.heap.size w W
  sz : w.heap.size + 1 + 1 + 1 ≤ W.heap.size
  bd : Rd W w.heap.size [.slice na m nc, .slice da mm dc, .int .i64 i0, .int .i64 i1]
  rs : Bx W (w.heap.size + 1) [.slice none 0 0, .slice none 0 0, .int .i64 0, .int .i64 0]
  o : Bx W (w.heap.size + 1 + 1) [uo, .slice da mm dc, .int .i64 i0, .int .i64 i1]
  row : W.ownsRow (w.heap.size + 1 + 1 + 1) 32 6 u k ((L.take k).flatMap dcs)
theorem TI.kept {w : World} {na da : Option Addr} {m nc mm dc : Nat} {i0 i1 : Int} {L : List D} {uo u : Value} {k : Nat} {W W' : World} (h : TI w na da m nc mm dc i0 i1 L uo u k W) (hb : Below W.heap.size W W') : TI w na da m nc mm dc i0 i1 L uo u k W' := by
  refine ⟨h.below.trans (hb.mono h.below.size), Nat.le_trans h.sz hb.size, h.bd.kept hb, h.rs.kept hb, h.o.kept hb, h.row.1, ?_⟩
  rcases h.row.2 with h3 | ⟨g, cap, cur, h3, h4, h5, h6⟩
  · exact .inl h3
  · exact .inr ⟨g, cap, cur, h3, h4, (hb.block _ (Array.getElem?_eq_some_iff.1 h5).1).trans h5, h6⟩
theorem row_lt6 {W : World} {base size n : Nat} {e : TypeId} {u : Value} {xs : List Value} (h : W.ownsRow base e size u n xs) {b : Nat} (hb : b < base) : some b ≠ u.ownBlock := by
  rcases h.2 with ⟨rfl, _⟩ | ⟨g, cap, cur, rfl, hg, h2, _⟩
  · simp [Value.ownBlock]
  · intro e'
    have : b = g := by simpa [Value.ownBlock] using e'
    omega
theorem TI.app {w : World} {na da : Option Addr} {m nc mm dc : Nat} {i0 i1 : Int} {L : List D} {uo u u' : Value} {k : Nat} {x : D} {W W' : World} (h : TI w na da m nc mm dc i0 i1 L uo u k W) (hx : L[k]? = some x) (hown : W'.ownsRow (w.heap.size + 1 + 1 + 1) 32 6 u' (k + 1) ((L.take k).flatMap dcs ++ dcs x)) (hg : W.grownBy W' u.ownBlock) : TI w na da m nc mm dc i0 i1 L uo u' (k + 1) W' := by
  have ne : ∀ b, b < w.heap.size + 1 + 1 + 1 → some b ≠ u.ownBlock := fun b hb => row_lt6 h.row hb
  have ne2 : ∀ q, u.ownBlock = some q → w.heap.size + 1 + 1 + 1 ≤ q := fun q hq => by
    rcases Nat.lt_or_ge q (w.heap.size + 1 + 1 + 1) with k | k
    · exact absurd hq.symm (ne q k)
    · exact k
  refine ⟨h.below.grown hg h.below.size (fun q hq => by have := ne2 q hq; omega), Nat.le_trans h.sz hg.size, h.bd.grown hg (ne _ (by omega)), h.rs.grown hg (ne _ (by omega)), h.o.grown hg (ne _ (by omega)), ?_⟩
  rw [List.take_add_one, hx, List.flatMap_append]
  simpa using hown
theorem grown_set31 (W : World) (b i : Nat) (v : Value) : W.grownBy (W.setCell ⟨b, i, none⟩ v) (some b) :=
  ⟨rfl, rfl, rfl, (KeepsWalks.setCell W _ v).size, fun k _ hk => Below.heap_setCell _ _ _ k (fun e => hk (by rw [e]))⟩
theorem TI.put {w : World} {na da : Option Addr} {m nc mm dc : Nat} {i0 i1 : Int} {L : List D} {uo u : Value} {k : Nat} {W : World} (h : TI w na da m nc mm dc i0 i1 L uo u k W) : TI w na da m nc mm dc i0 i1 L u u k (W.setCell ⟨w.heap.size + 1 + 1, 0, none⟩ u) := by
  have hg := grown_set31 W (w.heap.size + 1 + 1) 0 u
  exact ⟨h.below.setCell (by simp; omega) _, Nat.le_trans h.sz hg.size, h.bd.set (by omega), h.rs.set (by omega), h.o.put, h.row.kept hg (.inr (row_lt6 h.row (by omega)).symm)⟩
theorem row_form6 {W : World} {base size n : Nat} {e : TypeId} {u : Value} {xs : List Value} (h : W.ownsRow base e size u n xs) : ∃ ao cap, u = .slice ao n cap := by
  rcases h.2 with ⟨rfl, rfl⟩ | ⟨g, cap, cur, rfl, _⟩
  · exact ⟨_, _, rfl⟩
  · exact ⟨_, _, rfl⟩
theorem row_set6 {W : World} {b i base size n : Nat} {e : TypeId} {u x : Value} {xs : List Value} (h : W.ownsRow base e size u n xs) (hb : b < base) : (W.setCell ⟨b, i, none⟩ x).ownsRow base e size u n xs :=
  h.kept (grown_set31 W b i x) (.inr (row_lt6 h hb).symm)
theorem row_down6 {W : World} {base base' size n : Nat} {e : TypeId} {u : Value} {xs : List Value} (h : W.ownsRow base e size u n xs) (hb : base' ≤ base) : W.ownsRow base' e size u n xs := by
  refine ⟨h.1, ?_⟩
  rcases h.2 with h3 | ⟨g, cap, cur, h3, h4, h5⟩
  · exact .inl h3
  · exact .inr ⟨g, cap, cur, h3, Nat.le_trans hb h4, h5⟩
theorem TI.drew {w : World} {na da : Option Addr} {m nc mm dc : Nat} {i0 i1 : Int} {L : List D} {uo u : Value} {k : Nat} {W : World} (h : TI w na da m nc mm dc i0 i1 L uo u k W) : TI w na da m nc mm dc i0 i1 L uo u k W.drew := h.kept (Below.refl _ _).drew
theorem add31 (g n : Nat) : (⟨g, 0, none⟩ : Addr).add n = ⟨g, n, none⟩ := by unfold Addr.add; split <;> simp_all
structure Ap (w : World) (na da : Option Addr) (m nc mm dc k nb no : Nat) (i0 i1 : Int) (L : List D) (u : Value) (s : D) (W : World) (l0 l1 l2 l3 l4 l5 l6 l7 l8 l9 l10 : Bool) (v0 v1 v2 v3 v4 v5 v6 v7 v8 v9 : Value) (b7 g7 cap7 : Nat) : Prop where
  a : l8 = false → TI w (some ⟨nb, no, none⟩) da m nc mm dc i0 i1 L (u) (u) (k) W
  b : l8 = true → l10 = false → TI w (some ⟨nb, no, none⟩) da m nc mm dc i0 i1 L (u) (.slice (some ⟨g7, 0, none⟩) (k + 1) cap7) (k + 1) W
  c : l10 = true → TI w (some ⟨nb, no, none⟩) da m nc mm dc i0 i1 L (.slice (some ⟨g7, 0, none⟩) (k + 1) cap7) (.slice (some ⟨g7, 0, none⟩) (k + 1) cap7) (k + 1) W
  r : l8 = false → Rs W nb (no + k * 6) (dcs s)
  z : l7 = true → l8 = false → Bx W b7 (dcs s)
  o1_0 : l1 = true → l0 = true
  o3_2 : l3 = true → l2 = true
  o5_3 : l5 = true → l3 = true
  o5_4 : l5 = true → l4 = true
  o6_5 : l6 = true → l5 = true
  o7_6 : l7 = true → l6 = true
  o8_1 : l8 = true → l1 = true
  o8_7 : l8 = true → l7 = true
  o9_0 : l9 = true → l0 = true
  o9_1 : l9 = true → l1 = true
  o9_2 : l9 = true → l2 = true
  o9_3 : l9 = true → l3 = true
  o9_4 : l9 = true → l4 = true
  o9_5 : l9 = true → l5 = true
  o9_6 : l9 = true → l6 = true
  o9_7 : l9 = true → l7 = true
  o9_8 : l9 = true → l8 = true
  o10_9 : l10 = true → l9 = true
  o10_8 : l10 = true → l8 = true
  o10_0 : l10 = true → l0 = true
  o10_1 : l10 = true → l1 = true
  o10_2 : l10 = true → l2 = true
  o10_3 : l10 = true → l3 = true
  o10_4 : l10 = true → l4 = true
  o10_5 : l10 = true → l5 = true
  o10_6 : l10 = true → l6 = true
  o10_7 : l10 = true → l7 = true
  ev0 : l0 = true → v0 = .pointer (some ⟨w.heap.size + 1 + 1, 0, none⟩)
  ev1 : l1 = true → v1 = u
  ev2 : l2 = true → v2 = .pointer (some ⟨w.heap.size, 0, none⟩)
  ev3 : l3 = true → v3 = .slice (some ⟨nb, no, none⟩) m nc
  ev4 : l4 = true → v4 = .int .i64 k
  ev5 : l5 = true → v5 = .pointer (some ⟨nb, no + k * 6, none⟩)
  ev6 : l6 = true → v6 = dv s
  ev7 : l7 = true → v7 = .slice (some ⟨b7, 0, none⟩) 1 1
  ev8 : l8 = true → v8 = .slice (some ⟨g7, 0, none⟩) (k + 1) cap7
  ev9 : l9 = true → v9 = .pointer (some ⟨w.heap.size + 1 + 1, 0, none⟩)
theorem Ap.kept {w : World} {na da : Option Addr} {m nc mm dc k nb no : Nat} {i0 i1 : Int} {L : List D} {u : Value} {s : D} {W : World} {l0 l1 l2 l3 l4 l5 l6 l7 l8 l9 l10 : Bool} {v0 v1 v2 v3 v4 v5 v6 v7 v8 v9 : Value} {b7 g7 cap7 : Nat} {W' : World} (h : Ap w na da m nc mm dc k nb no i0 i1 L u s W l0 l1 l2 l3 l4 l5 l6 l7 l8 l9 l10 v0 v1 v2 v3 v4 v5 v6 v7 v8 v9 b7 g7 cap7) (hb : Below W.heap.size W W') : Ap w na da m nc mm dc k nb no i0 i1 L u s W' l0 l1 l2 l3 l4 l5 l6 l7 l8 l9 l10 v0 v1 v2 v3 v4 v5 v6 v7 v8 v9 b7 g7 cap7 :=
  { h with a := fun p => (h.a p).kept hb, b := fun p q => (h.b p q).kept hb, c := fun p => (h.c p).kept hb, r := fun p => (h.r p).kept hb, z := fun p q => (h.z p q).kept hb }
def Ap.I (w : World) (na da : Option Addr) (m nc mm dc k nb no : Nat) (i0 i1 : Int) (L : List D) (u : Value) (s : D) : Act → Array Bool → Act → World → Prop := fun aO LX aX W => ∃ (l0 l1 l2 l3 l4 l5 l6 l7 l8 l9 l10 : Bool) (v0 v1 v2 v3 v4 v5 v6 v7 v8 v9 : Value) (b7 g7 cap7 : Nat), LX = #[l0, l1, l2, l3, l4, l5, l6, l7, l8, l9, l10] ∧ aX = ((((((((((aO.put (some 17) v0).put (some 18) v1).put (some 19) v2).put (some 20) v3).put (some 21) v4).put (some 22) v5).put (some 23) v6).put (some 24) v7).put (some 25) v8).put (some 26) v9) ∧ Ap w na da m nc mm dc k nb no i0 i1 L u s W l0 l1 l2 l3 l4 l5 l6 l7 l8 l9 l10 v0 v1 v2 v3 v4 v5 v6 v7 v8 v9 b7 g7 cap7
set_option maxRecDepth 100000 in
set_option maxHeartbeats 16000000 in
theorem theirs31_any {na da : Option Addr} {nc mm dc : Nat} {i0 i1 : Int} {L : List D} (w : World) (hn : NAt w na L) (hl : L.length * 48 ≤ 140737488351232) :
    Calls Try.prog 13 #[.agg #[.slice na L.length nc, .slice da mm dc, .int .i64 i0, .int .i64 i1]] w fun e w' =>
      (∃ u, e = .returned (.agg #[u, .slice da mm dc, .int .i64 i0, .int .i64 i1]) ∧ w'.ownsRow w.heap.size 32 6 u L.length (L.flatMap dcs)) ∧ Below w.heap.size w w' := by
  obtain ⟨j0, hj, hz0, hz1, hz2⟩ := info_parts info_rdir
  have HN := Lib.hid hn
  clear hn
  go_enter Try.func13, Try.ntmps13
  go_wp2_with fail
  go_loopw [4] (fun i wr => ∃ (k : Nat) (u : Value), k ≤ L.length ∧ i = .int .i64 k ∧ TI w na da L.length nc mm dc i0 i1 L u u k wr) (fun i _ => L.length - (intOf i).toNat)
  case atStart =>
    refine ⟨0, .slice none 0 0, Nat.zero_le _, rfl, ?_⟩
    exact ⟨((((Below.refl _ _).alloc (Nat.le_refl _) _).alloc (by simp) _).alloc (by simp; omega) _), by simp, ((Rd.new rfl).alc _).alc _, (Bx.new (by simp)).alc _, Bx.new (by simp), World.ownsRow_nil _ _ _ _⟩
  case round =>
    obtain ⟨k, u, hk, rfl, hI⟩ := hrel
    obtain ⟨ao, cap, rfl⟩ := row_form6 hI.row
    have x0 := hI.bd.c
    have x1 := hI.bd.lt
    have i15 : IntKind.i64.wrap ((k : Int) + 1) = (k : Int) + 1 := IntWalk.i64_in _ (by omega)
    rcases Nat.lt_or_ge k L.length with hlt | hge
    · obtain ⟨nb, no, rfl, hnb, hNc⟩ := (HN.out.kept hI.below) (by omega)
      have hx := List.getElem?_eq_getElem hlt
      generalize L[k] = s at hx
      have HX := Lib.hid hx
      have RS : Rs wr nb (no + k * 6) (dcs s) := Rs.mk hnb (hNc k s hx)
      have hlt' : (k : Int) < (L.length : Int) := by omega
      have hge' : (0 : Int) ≤ (k : Int) := by omega
      have h63 : k + 1 ≤ 2 ^ 63 - 1 := by omega
      have hby : (k + 1) * 48 ≤ 140737488355328 := by omega
      clear hx hNc
      go_wp2_with fail
      go_upto_region 5 with fail
      clear x0 x1
      refine region_sets (Ap.I w (some ⟨nb, no, none⟩) da L.length nc mm dc k nb no i0 i1 L (.slice ao k cap) s) (by kernel_rfl) ?_ ?_ ?_
      · refine ⟨false, false, false, false, false, false, false, false, false, false, false, u17, u18, u19, u20, u21, u22, u23, u24, u25, u26, 0, 0, 0, rfl, by simp only [Act.put, List.setIfInBounds_toArray, List.set_cons_zero, List.set_cons_succ], ?_⟩
        constructor
        · exact fun _ => hI.drew
        · intro h; cases h
        · intro h; cases h
        · exact fun _ => RS.drew
        all_goals (intro h; cases h)
      · intro L9 aa ww hI i hi
        obtain ⟨l0, l1, l2, l3, l4, l5, l6, l7, l8, l9, l10, v0, v1, v2, v3, v4, v5, v6, v7, v8, v9, b7, g7, cap7, rfl, rfl, h⟩ := hI
        have hlt := ready_lt hi
        match i, hi, hlt with
        | 0, hi, _ =>
          have l' : l0 = false := (ready_op (o := _) rfl hi).1
          subst l'
          clear hi hlt
          have H := Lib.hid h
          clear h
          refine wpOp_shut rfl (fun K hK => ?_)
          try simp only [Act.put, List.setIfInBounds_toArray, List.set_cons_zero, List.set_cons_succ]
          go_simp
          refine hK.out _ _ ?_
          unfold Ap.I
          refine ⟨true, l1, l2, l3, l4, l5, l6, l7, l8, l9, l10, (.pointer (some ⟨w.heap.size + 1 + 1, 0, none⟩)), v1, v2, v3, v4, v5, v6, v7, v8, v9, b7, g7, cap7, rfl, ?_, ?_⟩
          · simp only [Act.put, List.setIfInBounds_toArray, List.set_cons_zero, List.set_cons_succ]
          · exact { H.out with ev0 := fun _ => rfl, o1_0 := fun _ => rfl, o9_0 := fun _ => rfl, o10_0 := fun _ => rfl }
        | 1, hi, _ =>
          have l' : l1 = false := (ready_op (o := _) rfl hi).1
          subst l'
          have k0 : l0 = true := (ready_op (o := _) rfl hi).2 { on := 0, ground := .data } (by simp) rfl
          clear hi hlt
          subst k0
          obtain rfl := h.ev0 rfl
          have kA : l8 = false := by
            rcases Bool.eq_false_or_eq_true l8 with q | q
            · exact nomatch (h.o8_1 q)
            · exact q
          subst kA
          have c := (h.a rfl).o.c
          have H := Lib.hid h
          clear h
          refine wpOp_shut rfl (fun K hK => ?_)
          try simp only [Act.put, List.setIfInBounds_toArray, List.set_cons_zero, List.set_cons_succ]
          go_simp
          refine hK.out _ _ ?_
          unfold Ap.I
          refine ⟨true, true, l2, l3, l4, l5, l6, l7, false, l9, l10, (.pointer (some ⟨w.heap.size + 1 + 1, 0, none⟩)), (.slice ao k cap), v2, v3, v4, v5, v6, v7, v8, v9, b7, g7, cap7, rfl, ?_, ?_⟩
          · simp only [Act.put, List.setIfInBounds_toArray, List.set_cons_zero, List.set_cons_succ]
          · exact { H.out with ev1 := fun _ => rfl, o1_0 := fun _ => rfl, o8_1 := fun _ => rfl, o9_1 := fun _ => rfl, o10_1 := fun _ => rfl }
        | 2, hi, _ =>
          have l' : l2 = false := (ready_op (o := _) rfl hi).1
          subst l'
          clear hi hlt
          have H := Lib.hid h
          clear h
          refine wpOp_shut rfl (fun K hK => ?_)
          try simp only [Act.put, List.setIfInBounds_toArray, List.set_cons_zero, List.set_cons_succ]
          go_simp
          refine hK.out _ _ ?_
          unfold Ap.I
          refine ⟨l0, l1, true, l3, l4, l5, l6, l7, l8, l9, l10, v0, v1, (.pointer (some ⟨w.heap.size, 0, none⟩)), v3, v4, v5, v6, v7, v8, v9, b7, g7, cap7, rfl, ?_, ?_⟩
          · simp only [Act.put, List.setIfInBounds_toArray, List.set_cons_zero, List.set_cons_succ]
          · exact { H.out with ev2 := fun _ => rfl, o3_2 := fun _ => rfl, o9_2 := fun _ => rfl, o10_2 := fun _ => rfl }
        | 3, hi, _ =>
          have l' : l3 = false := (ready_op (o := _) rfl hi).1
          subst l'
          have k2 : l2 = true := (ready_op (o := _) rfl hi).2 { on := 2, ground := .data } (by simp) rfl
          clear hi hlt
          subst k2
          obtain rfl := h.ev2 rfl
          have kA : l8 = false := by
            rcases Bool.eq_false_or_eq_true l8 with q | q
            · exact nomatch (h.o5_3 (h.o6_5 (h.o7_6 (h.o8_7 q))))
            · exact q
          subst kA
          have c := (h.a rfl).bd.c
          have H := Lib.hid h
          clear h
          refine wpOp_shut rfl (fun K hK => ?_)
          try simp only [Act.put, List.setIfInBounds_toArray, List.set_cons_zero, List.set_cons_succ]
          go_simp
          refine hK.out _ _ ?_
          unfold Ap.I
          refine ⟨l0, l1, true, true, l4, l5, l6, l7, false, l9, l10, v0, v1, (.pointer (some ⟨w.heap.size, 0, none⟩)), (.slice (some ⟨nb, no, none⟩) L.length nc), v4, v5, v6, v7, v8, v9, b7, g7, cap7, rfl, ?_, ?_⟩
          · simp only [Act.put, List.setIfInBounds_toArray, List.set_cons_zero, List.set_cons_succ]
          · exact { H.out with ev3 := fun _ => rfl, o3_2 := fun _ => rfl, o5_3 := fun _ => rfl, o9_3 := fun _ => rfl, o10_3 := fun _ => rfl }
        | 4, hi, _ =>
          have l' : l4 = false := (ready_op (o := _) rfl hi).1
          subst l'
          clear hi hlt
          have H := Lib.hid h
          clear h
          refine wpOp_shut rfl (fun K hK => ?_)
          try simp only [Act.put, List.setIfInBounds_toArray, List.set_cons_zero, List.set_cons_succ]
          go_simp
          refine hK.out _ _ ?_
          unfold Ap.I
          refine ⟨l0, l1, l2, l3, true, l5, l6, l7, l8, l9, l10, v0, v1, v2, v3, (.int .i64 k), v5, v6, v7, v8, v9, b7, g7, cap7, rfl, ?_, ?_⟩
          · simp only [Act.put, List.setIfInBounds_toArray, List.set_cons_zero, List.set_cons_succ]
          · exact { H.out with ev4 := fun _ => rfl, o5_4 := fun _ => rfl, o9_4 := fun _ => rfl, o10_4 := fun _ => rfl }
        | 5, hi, _ =>
          have l' : l5 = false := (ready_op (o := _) rfl hi).1
          subst l'
          have k3 : l3 = true := (ready_op (o := _) rfl hi).2 { on := 3, ground := .data } (by simp) rfl
          have k4 : l4 = true := (ready_op (o := _) rfl hi).2 { on := 4, ground := .data } (by simp) rfl
          clear hi hlt
          subst k3
          subst k4
          obtain rfl := h.ev3 rfl
          obtain rfl := h.ev4 rfl
          have H := Lib.hid h
          clear h
          refine wpOp_shut rfl (fun K hK => ?_)
          try simp only [Act.put, List.setIfInBounds_toArray, List.set_cons_zero, List.set_cons_succ]
          go_simp
          refine hK.out _ _ ?_
          unfold Ap.I
          refine ⟨l0, l1, l2, true, true, true, l6, l7, l8, l9, l10, v0, v1, v2, (.slice (some ⟨nb, no, none⟩) L.length nc), (.int .i64 k), (.pointer (some ⟨nb, no + k * 6, none⟩)), v6, v7, v8, v9, b7, g7, cap7, rfl, ?_, ?_⟩
          · simp only [Act.put, List.setIfInBounds_toArray, List.set_cons_zero, List.set_cons_succ]
          · exact { H.out with ev5 := fun _ => rfl, o5_3 := fun _ => rfl, o5_4 := fun _ => rfl, o6_5 := fun _ => rfl, o9_5 := fun _ => rfl, o10_5 := fun _ => rfl }
        | 6, hi, _ =>
          have l' : l6 = false := (ready_op (o := _) rfl hi).1
          subst l'
          have k5 : l5 = true := (ready_op (o := _) rfl hi).2 { on := 5, ground := .data } (by simp) rfl
          clear hi hlt
          subst k5
          obtain rfl := h.ev5 rfl
          have kA : l8 = false := by
            rcases Bool.eq_false_or_eq_true l8 with q | q
            · exact nomatch (h.o7_6 (h.o8_7 q))
            · exact q
          subst kA
          have c0 := (h.r rfl).c 0 (by simp)
          have c1 := (h.r rfl).c 1 (by simp)
          have c2 := (h.r rfl).c 2 (by simp)
          have c3 := (h.r rfl).c 3 (by simp)
          have c4 := (h.r rfl).c 4 (by simp)
          have c5 := (h.r rfl).c 5 (by simp)
          simp only [Nat.add_zero] at c0
          have H := Lib.hid h
          clear h
          refine wpOp_shut rfl (fun K hK => ?_)
          try simp only [Act.put, List.setIfInBounds_toArray, List.set_cons_zero, List.set_cons_succ]
          go_simp
          refine hK.out _ _ ?_
          unfold Ap.I
          refine ⟨l0, l1, l2, l3, l4, true, true, l7, false, l9, l10, v0, v1, v2, v3, v4, (.pointer (some ⟨nb, no + k * 6, none⟩)), (dv s), v7, v8, v9, b7, g7, cap7, rfl, ?_, ?_⟩
          · simp only [Act.put, List.setIfInBounds_toArray, List.set_cons_zero, List.set_cons_succ]
          · exact { H.out with ev6 := fun _ => rfl, o6_5 := fun _ => rfl, o7_6 := fun _ => rfl, o9_6 := fun _ => rfl, o10_6 := fun _ => rfl }
        | 7, hi, _ =>
          have l' : l7 = false := (ready_op (o := _) rfl hi).1
          subst l'
          have k6 : l6 = true := (ready_op (o := _) rfl hi).2 { on := 6, ground := .data } (by simp) rfl
          clear hi hlt
          subst k6
          obtain rfl := h.ev6 rfl
          have kA : l8 = false := by
            rcases Bool.eq_false_or_eq_true l8 with q | q
            · exact nomatch (h.o8_7 q)
            · exact q
          subst kA
          have H := Lib.hid h
          clear h
          refine wpOp_shut rfl (fun K hK => ?_)
          try simp only [Act.put, List.setIfInBounds_toArray, List.set_cons_zero, List.set_cons_succ]
          go_simp
          refine hK.out _ _ ?_
          unfold Ap.I
          refine ⟨l0, l1, l2, l3, l4, l5, true, true, false, l9, l10, v0, v1, v2, v3, v4, v5, (dv s), (.slice (some ⟨ww.heap.size, 0, none⟩) 1 1), v8, v9, ww.heap.size, g7, cap7, rfl, ?_, ?_⟩
          · simp only [Act.put, List.setIfInBounds_toArray, List.set_cons_zero, List.set_cons_succ]
          · have h2 := H.out.kept ((Below.refl _ _).alloc (Nat.le_refl _) (.cells (List.toArray (dcs s)) 32))
            exact { h2 with ev7 := fun _ => rfl, o7_6 := fun _ => rfl, o8_7 := fun _ => rfl, o9_7 := fun _ => rfl, o10_7 := fun _ => rfl, z := fun _ _ => Bx.new rfl }
        | 8, hi, _ =>
          have l' : l8 = false := (ready_op (o := _) rfl hi).1
          subst l'
          have k1 : l1 = true := (ready_op (o := _) rfl hi).2 { on := 1, ground := .data } (by simp) rfl
          have k7 : l7 = true := (ready_op (o := _) rfl hi).2 { on := 7, ground := .data } (by simp) rfl
          clear hi hlt
          subst k1
          subst k7
          obtain rfl := h.ev1 rfl
          obtain rfl := h.ev7 rfl
          have kS : l10 = false := by
            rcases Bool.eq_false_or_eq_true l10 with q | q
            · exact nomatch (h.o10_8 q)
            · exact q
          subst kS
          have ha := h.a rfl
          have hz := h.z rfl rfl
          have H := Lib.hid h
          clear h
          refine wpOp_shut rfl (fun K hK => ?_)
          try simp only [Act.put, List.setIfInBounds_toArray, List.set_cons_zero, List.set_cons_succ]
          simp only [List.getElem_toArray, List.getElem_cons_succ, List.getElem_cons_zero]
          rw [if_pos (by first | rfl | simp [Region.wanted])]
          refine wp_append_lies _ _ _ 43 rfl (w.heap.size + 1 + 1 + 1) 32 j0 (.agg #[.int .i64 0, .int .i64 0, .int .i64 0, .int .i64 0, .int .i64 0, .int .i64 0]) 6 48 Try.underlying43 hj hz0 hz1 hz2 rfl (by decide) _ _ _ rfl ha.row ⟨b7, 0, none⟩ 1 1 (dcs s) rfl rfl (fun j x hx => by rw [add31, hz.c]; exact hx) (by intro x hx; simp at hx; rcases hx with rfl | rfl | rfl | rfl | rfl | rfl <;> rfl) (by decide) (by unfold maxLen; exact h63) hby ha.sz _ rfl ?_
          intro g9 cap9 w9 hown hgrow _ _
          refine hK.out _ _ ?_
          unfold Ap.I
          refine ⟨l0, true, l2, l3, l4, l5, l6, true, true, l9, false, v0, (.slice ao k cap), v2, v3, v4, v5, v6, (.slice (some ⟨b7, 0, none⟩) 1 1), (.slice (some ⟨g9, 0, none⟩) (k + 1) cap9), v9, b7, g9, cap9, rfl, ?_, ?_⟩
          · simp only [Act.put, List.setIfInBounds_toArray, List.set_cons_zero, List.set_cons_succ]
          · exact { H.out with ev8 := fun _ => rfl, o8_1 := fun _ => rfl, o8_7 := fun _ => rfl, o9_8 := fun _ => rfl, o10_8 := fun _ => rfl, a := fun p => (nomatch p), z := fun _ p => (nomatch p), b := fun _ _ => (H.out.a rfl).app HX.out hown hgrow, c := fun p => (nomatch p), r := fun p => (nomatch p) }
        | 9, hi, _ =>
          have l' : l9 = false := (ready_op (o := _) rfl hi).1
          subst l'
          have k0 : l0 = true := (ready_op (o := _) rfl hi).2 { on := 0, ground := .phase } (by simp) rfl
          have k1 : l1 = true := (ready_op (o := _) rfl hi).2 { on := 1, ground := .phase } (by simp) rfl
          have k2 : l2 = true := (ready_op (o := _) rfl hi).2 { on := 2, ground := .phase } (by simp) rfl
          have k3 : l3 = true := (ready_op (o := _) rfl hi).2 { on := 3, ground := .phase } (by simp) rfl
          have k4 : l4 = true := (ready_op (o := _) rfl hi).2 { on := 4, ground := .phase } (by simp) rfl
          have k5 : l5 = true := (ready_op (o := _) rfl hi).2 { on := 5, ground := .phase } (by simp) rfl
          have k6 : l6 = true := (ready_op (o := _) rfl hi).2 { on := 6, ground := .phase } (by simp) rfl
          have k7 : l7 = true := (ready_op (o := _) rfl hi).2 { on := 7, ground := .phase } (by simp) rfl
          have k8 : l8 = true := (ready_op (o := _) rfl hi).2 { on := 8, ground := .phase } (by simp) rfl
          clear hi hlt
          subst k0
          subst k1
          subst k2
          subst k3
          subst k4
          subst k5
          subst k6
          subst k7
          subst k8
          obtain rfl := h.ev0 rfl
          obtain rfl := h.ev1 rfl
          obtain rfl := h.ev2 rfl
          obtain rfl := h.ev3 rfl
          obtain rfl := h.ev4 rfl
          obtain rfl := h.ev5 rfl
          obtain rfl := h.ev6 rfl
          obtain rfl := h.ev7 rfl
          obtain rfl := h.ev8 rfl
          have H := Lib.hid h
          clear h
          refine wpOp_shut rfl (fun K hK => ?_)
          try simp only [Act.put, List.setIfInBounds_toArray, List.set_cons_zero, List.set_cons_succ]
          go_simp
          refine hK.out _ _ ?_
          unfold Ap.I
          refine ⟨true, true, true, true, true, true, true, true, true, true, l10, (.pointer (some ⟨w.heap.size + 1 + 1, 0, none⟩)), (.slice ao k cap), (.pointer (some ⟨w.heap.size, 0, none⟩)), (.slice (some ⟨nb, no, none⟩) L.length nc), (.int .i64 k), (.pointer (some ⟨nb, no + k * 6, none⟩)), (dv s), (.slice (some ⟨b7, 0, none⟩) 1 1), (.slice (some ⟨g7, 0, none⟩) (k + 1) cap7), (.pointer (some ⟨w.heap.size + 1 + 1, 0, none⟩)), b7, g7, cap7, rfl, ?_, ?_⟩
          · simp only [Act.put, List.setIfInBounds_toArray, List.set_cons_zero, List.set_cons_succ]
          · exact { H.out with ev9 := fun _ => rfl, o9_0 := fun _ => rfl, o9_1 := fun _ => rfl, o9_2 := fun _ => rfl, o9_3 := fun _ => rfl, o9_4 := fun _ => rfl, o9_5 := fun _ => rfl, o9_6 := fun _ => rfl, o9_7 := fun _ => rfl, o9_8 := fun _ => rfl, o10_9 := fun _ => rfl }
        | 10, hi, _ =>
          have l' : l10 = false := (ready_op (o := _) rfl hi).1
          subst l'
          have k9 : l9 = true := (ready_op (o := _) rfl hi).2 { on := 9, ground := .data } (by simp) rfl
          have k8 : l8 = true := (ready_op (o := _) rfl hi).2 { on := 8, ground := .phase } (by simp) rfl
          have k0 : l0 = true := (ready_op (o := _) rfl hi).2 { on := 0, ground := .phase } (by simp) rfl
          have k1 : l1 = true := (ready_op (o := _) rfl hi).2 { on := 1, ground := .phase } (by simp) rfl
          have k2 : l2 = true := (ready_op (o := _) rfl hi).2 { on := 2, ground := .phase } (by simp) rfl
          have k3 : l3 = true := (ready_op (o := _) rfl hi).2 { on := 3, ground := .phase } (by simp) rfl
          have k4 : l4 = true := (ready_op (o := _) rfl hi).2 { on := 4, ground := .phase } (by simp) rfl
          have k5 : l5 = true := (ready_op (o := _) rfl hi).2 { on := 5, ground := .phase } (by simp) rfl
          have k6 : l6 = true := (ready_op (o := _) rfl hi).2 { on := 6, ground := .phase } (by simp) rfl
          have k7 : l7 = true := (ready_op (o := _) rfl hi).2 { on := 7, ground := .phase } (by simp) rfl
          clear hi hlt
          subst k9
          subst k8
          subst k0
          subst k1
          subst k2
          subst k3
          subst k4
          subst k5
          subst k6
          subst k7
          obtain rfl := h.ev9 rfl
          obtain rfl := h.ev8 rfl
          obtain rfl := h.ev0 rfl
          obtain rfl := h.ev1 rfl
          obtain rfl := h.ev2 rfl
          obtain rfl := h.ev3 rfl
          obtain rfl := h.ev4 rfl
          obtain rfl := h.ev5 rfl
          obtain rfl := h.ev6 rfl
          obtain rfl := h.ev7 rfl
          have c := (h.b rfl rfl).o.c
          have f := (h.b rfl rfl).o.f
          have H := Lib.hid h
          clear h
          refine wpOp_shut rfl (fun K hK => ?_)
          try simp only [Act.put, List.setIfInBounds_toArray, List.set_cons_zero, List.set_cons_succ]
          go_simp
          refine hK.out _ _ ?_
          unfold Ap.I
          refine ⟨true, true, true, true, true, true, true, true, true, true, true, (.pointer (some ⟨w.heap.size + 1 + 1, 0, none⟩)), (.slice ao k cap), (.pointer (some ⟨w.heap.size, 0, none⟩)), (.slice (some ⟨nb, no, none⟩) L.length nc), (.int .i64 k), (.pointer (some ⟨nb, no + k * 6, none⟩)), (dv s), (.slice (some ⟨b7, 0, none⟩) 1 1), (.slice (some ⟨g7, 0, none⟩) (k + 1) cap7), (.pointer (some ⟨w.heap.size + 1 + 1, 0, none⟩)), b7, g7, cap7, rfl, ?_, ?_⟩
          · simp only [Act.put, List.setIfInBounds_toArray, List.set_cons_zero, List.set_cons_succ]
          · exact { H.out with o10_9 := fun _ => rfl, o10_8 := fun _ => rfl, o10_0 := fun _ => rfl, o10_1 := fun _ => rfl, o10_2 := fun _ => rfl, o10_3 := fun _ => rfl, o10_4 := fun _ => rfl, o10_5 := fun _ => rfl, o10_6 := fun _ => rfl, o10_7 := fun _ => rfl, a := fun p => (nomatch p), z := fun _ p => (nomatch p), b := fun _ p => (nomatch p), c := fun _ => (H.out.b rfl rfl).put, r := fun p => (nomatch p) }
        | i + 11, _, hlt => exact absurd hlt (by simp)
      · intro L9 aa ww hI hn
        obtain ⟨l0, l1, l2, l3, l4, l5, l6, l7, l8, l9, l10, v0, v1, v2, v3, v4, v5, v6, v7, v8, v9, b7, g7, cap7, rfl, rfl, h⟩ := hI
        have k0 : l0 = true := not_ready (i := 0) (o := _) rfl hn (by simp [Region.binds])
        subst k0
        have k1 : l1 = true := not_ready (i := 1) (o := _) rfl hn (by simp [Region.binds])
        subst k1
        have k2 : l2 = true := not_ready (i := 2) (o := _) rfl hn (by simp [Region.binds])
        subst k2
        have k3 : l3 = true := not_ready (i := 3) (o := _) rfl hn (by simp [Region.binds])
        subst k3
        have k4 : l4 = true := not_ready (i := 4) (o := _) rfl hn (by simp [Region.binds])
        subst k4
        have k5 : l5 = true := not_ready (i := 5) (o := _) rfl hn (by simp [Region.binds])
        subst k5
        have k6 : l6 = true := not_ready (i := 6) (o := _) rfl hn (by simp [Region.binds])
        subst k6
        have k7 : l7 = true := not_ready (i := 7) (o := _) rfl hn (by simp [Region.binds])
        subst k7
        have k8 : l8 = true := not_ready (i := 8) (o := _) rfl hn (by simp [Region.binds])
        subst k8
        have k9 : l9 = true := not_ready (i := 9) (o := _) rfl hn (by simp [Region.binds])
        subst k9
        have k10 : l10 = true := not_ready (i := 10) (o := _) rfl hn (by simp [Region.binds])
        subst k10
        clear hn
        obtain rfl := h.ev0 rfl
        obtain rfl := h.ev1 rfl
        obtain rfl := h.ev2 rfl
        obtain rfl := h.ev3 rfl
        obtain rfl := h.ev4 rfl
        obtain rfl := h.ev5 rfl
        obtain rfl := h.ev6 rfl
        obtain rfl := h.ev7 rfl
        obtain rfl := h.ev8 rfl
        obtain rfl := h.ev9 rfl
        simp only [Act.put, List.setIfInBounds_toArray, List.set_cons_zero, List.set_cons_succ]
        rename World => w12
        have I12 := h.c rfl
        clear h hI RS
        go_wp2_with fail
        go_roundw
        case rel => exact ⟨k + 1, _, hlt, by simp, I12⟩
        case measure => simp only [intOf]; omega
    · obtain rfl : k = L.length := by omega
      have y0 := hI.o.c
      have y1 := hI.o.lt
      have z0 := hI.rs.c
      have z1 := hI.rs.f
      have z2 := hI.rs.lt
      have lo := hI.sz
      go_wp2_with fail
      have KB : Bx _ (w.heap.size + 1) [.slice ao L.length cap, .slice da mm dc, .int .i64 i0, .int .i64 i1] := (((hI.rs.put (i := 0) (u := .slice ao L.length cap)).put (i := 1) (u := .slice da mm dc)).put (i := 2) (u := .int .i64 i0)).put (i := 3) (u := .int .i64 i1)
      have KL := (((hI.below.setCell (p := ⟨w.heap.size + 1, 0, none⟩) (by simp) (.slice ao L.length cap)).setCell (p := ⟨w.heap.size + 1, 1, none⟩) (by simp) (.slice da mm dc)).setCell (p := ⟨w.heap.size + 1, 2, none⟩) (by simp) (.int .i64 i0)).setCell (p := ⟨w.heap.size + 1, 3, none⟩) (by simp) (.int .i64 i1)
      have hrow := hI.row
      rw [List.take_length] at hrow
      have KR := row_set6 (b := w.heap.size + 1) (i := 3) (x := .int .i64 i1) (row_set6 (b := w.heap.size + 1) (i := 2) (x := .int .i64 i0) (row_set6 (b := w.heap.size + 1) (i := 1) (x := .slice da mm dc) (row_set6 (b := w.heap.size + 1) (i := 0) (x := .slice ao L.length cap) hrow (by omega)) (by omega)) (by omega)) (by omega)
      refine bodyPost_box (b := w.heap.size + 1) (cs := [.slice ao L.length cap, .slice da mm dc, .int .i64 i0, .int .i64 i1]) (v := .agg #[.slice ao L.length cap, .slice da mm dc, .int .i64 i0, .int .i64 i1]) KB (fun X hX => by simp [results, Try.results13, go_sem, hX]) rfl ⟨⟨_, rfl, row_down6 KR (by omega)⟩, KL⟩
/-- whether there are few faces -/
def fewB (n m : Nat) : Bool := decide (n ≤ 20) && decide (m ≤ 20)
set_option maxRecDepth 100000 in
theorem few31_any {a b : Option Addr} {n m c d : Nat} {i0 i1 : Int} (w : World) : Calls Try.prog 12 #[.agg #[.slice a n c, .slice b m d, .int .i64 i0, .int .i64 i1]] w fun e w' => e = .returned (.bool (fewB n m)) ∧ Below w.heap.size w w' := by
  have H0 := (Ho.nil w).bx [.slice a n c, .slice b m d, .int .i64 i0, .int .i64 i1] 45 w.heap.size rfl
  by_cases h : (n : Int) ≤ 20
  · have h1 : fewB n m = decide ((m : Int) ≤ 20) := by
      unfold fewB
      rw [decide_eq_true (by omega), Bool.true_and]
      exact decide_eq_decide.2 (by omega)
    rw [h1]
    go_enter Try.func12, Try.ntmps12
    go_wp2_with fail
    go_ret
    exact ⟨rfl, H0.below⟩
  · have h1 : fewB n m = false := by
      unfold fewB
      rw [decide_eq_false (by omega), Bool.false_and]
    rw [h1]
    go_enter Try.func12, Try.ntmps12
    go_wp2_with fail
    go_ret
    exact ⟨rfl, H0.below⟩
end Go.Proofs.Ytedfciddfpcifaa.Iv

/- Plain facts on Follow's results: light, one reflection more, parts of the rays. -/
namespace Go.Proofs.Ytedfciddfpcifaa.Iv

/-- a result as a path -/
def paOf (x : FO) : Pa := ⟨x.lv.k, x.fs, x.lv.o, x.lv.lo, x.lv.hi⟩
theorem fv_ok {L : List D} {M : List (Int × Int)} {i0 i1 gl gh most : Int} {a v : D} (h : (followV L M i0 i1 a v gl gh most).e = 0) :
    ((vBody L M i0 i1 && (vD a && vD v)) && (vB gl gh && (decide (0 ≤ gl) && decide (gh ≤ 16777216)))) = true ∧ 0 ≤ most ∧ most ≤ 20 ∧
    followV L M i0 i1 a v gl gh most = ⟨(followL (L.zip M) i0 i1 gl gh most.toNat a v []).1, (followL (L.zip M) i0 i1 gl gh most.toNat a v []).2, 0⟩ := by
  unfold followV at h ⊢
  split at h
  · rename_i h1
    rw [if_pos h1]
    split at h
    · rename_i h2
      rw [if_pos h2]
      exact ⟨h1, h2.1, h2.2, rfl⟩
    · cases h
  · cases h
theorem fv_of {L : List D} {M : List (Int × Int)} {i0 i1 gl gh most : Int} {a v : D} (h1 : ((vBody L M i0 i1 && (vD a && vD v)) && (vB gl gh && (decide (0 ≤ gl) && decide (gh ≤ 16777216)))) = true) :
    followV L M i0 i1 a v gl gh most = if 0 ≤ most ∧ most ≤ 20 then ⟨(followL (L.zip M) i0 i1 gl gh most.toNat a v []).1, (followL (L.zip M) i0 i1 gl gh most.toNat a v []).2, 0⟩ else ⟨⟨0, zD, 0, 0⟩, [], 2⟩ := by
  rw [followV, if_pos h1]
theorem fv_parts {L : List D} {M : List (Int × Int)} {i0 i1 gl gh : Int} {a v : D} (h : ((vBody L M i0 i1 && (vD a && vD v)) && (vB gl gh && (decide (0 ≤ gl) && decide (gh ≤ 16777216)))) = true) :
    vBody L M i0 i1 = true ∧ vD a = true ∧ vD v = true ∧ vB gl gh = true ∧ 0 ≤ gl ∧ gh ≤ 16777216 ∧ 0 ≤ gh := by
  simp only [Bool.and_eq_true, decide_eq_true_eq] at h
  obtain ⟨⟨h1, h2, h3⟩, h4, h5, h6⟩ := h
  have := (vB_iff.1 h4).2.1
  exact ⟨h1, h2, h3, h4, h5, h6, by omega⟩
theorem light_plain {L : List D} {M : List (Int × Int)} {i0 i1 gl gh most : Int} {a v : D} (h : (followV L M i0 i1 a v gl gh most).e = 0) :
    0 ≤ (followV L M i0 i1 a v gl gh most).lv.lo ∧ (followV L M i0 i1 a v gl gh most).lv.hi ≤ gh ∧ 1 ≤ (followV L M i0 i1 a v gl gh most).lv.k ∧ (followV L M i0 i1 a v gl gh most).lv.k ≤ 3 ∧
    ((followV L M i0 i1 a v gl gh most).lv.k ≠ 3 → ((followV L M i0 i1 a v gl gh most).fs.length : Int) ≤ most + 1) ∧ 0 ≤ most ∧ most ≤ 20 ∧ L.length ≤ 100 := by
  obtain ⟨h1, h2, h3, h4⟩ := fv_ok h
  obtain ⟨p1, p2, p3, p4, p5, p6, p7⟩ := fv_parts h1
  obtain ⟨⟨g1, g2, g3, g4, _⟩, g6⟩ := follow_good (l := L.zip M) (i0 := i0) (i1 := i1) p5 p7 most.toNat a v []
  rw [h4]
  have hL : L.length ≤ 100 := by
    simp only [vBody, Bool.and_eq_true, decide_eq_true_eq] at p1
    exact p1.1.2.1
  refine ⟨g1, g2, g3, g4, fun hk => ?_, h2, h3, hL⟩
  have := g6 hk
  simp only [List.length_nil] at this
  dsimp only
  omega
theorem ins_pre {p q : Pa} (h : q.k = 3) (k : q.fs <+: p.fs) : insP p q = true := by
  rw [insP, if_pos h, decide_eq_true k.length_le, decide_eq_true (List.prefix_iff_eq_take.1 k).symm]
  rfl
theorem ins_same {p q : Pa} (h : ¬ q.k = 3) (hk : p.k = q.k) (hf : p.fs = q.fs) (ho : SubD p.o q.o) (hg : Sub p.lo p.hi q.lo q.hi) : insP p q = true := by
  rw [insP, if_neg h, decide_eq_true hk, decide_eq_true hf, ho.ins, ins_of_sub hg]
  rfl
theorem light_more {L : List D} {M : List (Int × Int)} {i0 i1 gl gh most : Int} {a v : D} (h : (followV L M i0 i1 a v gl gh most).e = 0) :
    (most = 20 ∧ (followV L M i0 i1 a v gl gh (most + 1)).e = 2) ∨ ((followV L M i0 i1 a v gl gh (most + 1)).e = 0 ∧ insP (paOf (followV L M i0 i1 a v gl gh (most + 1))) (paOf (followV L M i0 i1 a v gl gh most)) = true ∧
      ((followV L M i0 i1 a v gl gh most).lv.k = 3 ∨ (¬ (followV L M i0 i1 a v gl gh most).lv.k = 3 ∧ followV L M i0 i1 a v gl gh (most + 1) = followV L M i0 i1 a v gl gh most))) := by
  obtain ⟨h1, h2, h3, h4⟩ := fv_ok h
  obtain ⟨p1, p2, p3, p4, p5, p6, p7⟩ := fv_parts h1
  by_cases hm : most = 20
  · left
    refine ⟨hm, ?_⟩
    rw [fv_of h1, if_neg (by omega)]
  · right
    have e : (most + 1).toNat = most.toNat + 1 := by omega
    have h5 : followV L M i0 i1 a v gl gh (most + 1) = ⟨(followL (L.zip M) i0 i1 gl gh (most.toNat + 1) a v []).1, (followL (L.zip M) i0 i1 gl gh (most.toNat + 1) a v []).2, 0⟩ := by
      rw [fv_of h1, if_pos (by omega), e]
    rw [h5, h4]
    refine ⟨rfl, ?_⟩
    rcases follow_more (l := L.zip M) (i0 := i0) (i1 := i1) (gl := gl) (gh := gh) most.toNat a v [] with ⟨k1, k2⟩ | k1
    · exact ⟨ins_pre k1 k2, .inl k1⟩
    · rw [← k1]
      by_cases hk : (followL (L.zip M) i0 i1 gl gh most.toNat a v []).1.k = 3
      · exact ⟨ins_pre hk (List.prefix_refl _), .inl hk⟩
      · obtain ⟨⟨g1, g2, g3, g4, g5⟩, g6⟩ := follow_good (l := L.zip M) (i0 := i0) (i1 := i1) p5 p7 most.toNat a v []
        obtain ⟨o1, o2⟩ := g5 hk
        exact ⟨ins_same hk rfl rfl (subD_refl o1) (sub_refl o2), .inr ⟨hk, rfl⟩⟩
theorem incl_plain {L : List D} {M : List (Int × Int)} {i0 i1 gl gh most : Int} {a v a' v' : D} (ha : SubD a' a) (hv : SubD v' v) :
    (followV L M i0 i1 a' v' gl gh most).e = (followV L M i0 i1 a v gl gh most).e ∧ ((followV L M i0 i1 a v gl gh most).e = 0 → insP (paOf (followV L M i0 i1 a' v' gl gh most)) (paOf (followV L M i0 i1 a v gl gh most)) = true) := by
  have hA : vD a' = vD a := by rw [ha.v, ha.v']
  have hV : vD v' = vD v := by rw [hv.v, hv.v']
  by_cases h1 : ((vBody L M i0 i1 && (vD a && vD v)) && (vB gl gh && (decide (0 ≤ gl) && decide (gh ≤ 16777216)))) = true
  · have h1' : ((vBody L M i0 i1 && (vD a' && vD v')) && (vB gl gh && (decide (0 ≤ gl) && decide (gh ≤ 16777216)))) = true := by rw [hA, hV]; exact h1
    rw [fv_of h1, fv_of h1']
    by_cases h2 : 0 ≤ most ∧ most ≤ 20
    · rw [if_pos h2, if_pos h2]
      refine ⟨rfl, fun _ => ?_⟩
      obtain ⟨p1, p2, p3, p4, p5, p6, p7⟩ := fv_parts h1
      simp only [vBody, vI, Bool.and_eq_true, List.all_eq_true] at p1
      have key := follow_sub (l := L.zip M) (gl := gl) (gh := gh) p1.2.1.1 p4 (fun y hy => p1.2.2.1 y.1 (List.of_mem_zip hy).1) most.toNat a v a' v' [] ha hv
      unfold InL at key
      split at key
      · rename_i hk
        exact ins_pre hk key
      · rename_i hk
        exact ins_same hk key.2.k key.1 key.2.o key.2.g
    · rw [if_neg h2, if_neg h2]
      exact ⟨rfl, fun h => by cases h⟩
  · have h1' : ¬ ((vBody L M i0 i1 && (vD a' && vD v')) && (vB gl gh && (decide (0 ≤ gl) && decide (gh ≤ 16777216)))) = true := by rw [hA, hV]; exact h1
    rw [followV, followV, if_neg h1, if_neg h1']
    exact ⟨rfl, fun h => by cases h⟩
end Go.Proofs.Ytedfciddfpcifaa.Iv

/- TraceInclusion: the path of a part of the rays is inside the path of all of them. -/
namespace Go.Proofs.Ytedfciddfpcifaa.Iv
open Go.RowKit

attribute [local go_sem] Oper.semAt_some

theorem wanted_of {o : Oper} {ops : Array Oper} {tmps : Array Value} {j d : Nat} {b : Bool} {o' : Oper} (hg : o.guard = some (j, b)) (ho : ops[j]? = some o') (hd : o'.dst = some d) (hv : tmps[d]? = some (.bool b)) : Region.wanted o (yielded ops tmps) = true := by
  simp [Region.wanted, hg, yielded, ho, hd, hv]
theorem wanted_not {o : Oper} {ops : Array Oper} {tmps : Array Value} {j d : Nat} {b b' : Bool} {o' : Oper} (hg : o.guard = some (j, b)) (ho : ops[j]? = some o') (hd : o'.dst = some d) (hv : tmps[d]? = some (.bool b')) (hb : b' ≠ b) : Region.wanted o (yielded ops tmps) = false := by
  simp [Region.wanted, hg, yielded, ho, hd, hv, hb]
theorem wpOp_want {P : Program} {ops : Array Oper} {Q : Exit → Act → World → Prop} {i : Nat} {o : Oper} {K : Act → World → Prop} {a : Act} {w : World} (ho : ops[i]? = some o) (hw : Region.wanted o (yielded ops a.tmps) = true)
    (h : ∀ K' : Act → World → Prop, Shut (∀ a w, K a w → K' a w) → Oper.wp P o a w K' Q) : wpOp P ops Q i K a w :=
  wpOp_shut ho (fun K' hK => by rw [if_pos hw]; exact h K' hK)
theorem wpOp_skip {P : Program} {ops : Array Oper} {Q : Exit → Act → World → Prop} {i : Nat} {o : Oper} {K : Act → World → Prop} {a : Act} {w : World} {d : Option Tmp} (ho : ops[i]? = some o) (hd : o.dst = d) (hw : Region.wanted o (yielded ops a.tmps) = false)
    (h : K (a.put d undef) w) : wpOp P ops Q i K a w :=
  wpOp_shut ho (fun K' hK => by rw [if_neg (by rw [hw]; decide), hd]; exact hK.out _ _ h)
theorem follow_long {l : List (D × Int × Int)} {i0 i1 gl gh : Int} : ∀ (m : Nat) (a v : D) (fs : List Int), (followL l i0 i1 gl gh m a v fs).2.length ≤ fs.length + m + 1
  | 0, a, v, fs => by
    rw [followL, oneF]
    repeat' split
    all_goals (simp only [List.length_append, List.length_singleton]; omega)
  | m + 1, a, v, fs => by
    rw [followL, oneF]
    repeat' split
    all_goals first
      | (refine Nat.le_trans (follow_long m _ _ _) ?_; simp only [List.length_append, List.length_singleton]; omega)
      | (simp only [List.length_append, List.length_singleton]; omega)
theorem follow_len {L : List D} {M : List (Int × Int)} {i0 i1 gl gh most : Int} {a v : D} (h : (followV L M i0 i1 a v gl gh most).e = 0) : (followV L M i0 i1 a v gl gh most).fs.length ≤ 21 := by
  obtain ⟨h1, h2, h3, h4⟩ := fv_ok h
  rw [h4]
  have := follow_long (l := L.zip M) (i0 := i0) (i1 := i1) (gl := gl) (gh := gh) most.toNat a v []
  simp only [List.length_nil] at this
  dsimp only
  omega
theorem own_ints31 {W : World} {B : Nat} {ao : Option Addr} {n cap : Nat} {fs : List Int} (h : W.ownsRow B 3 1 (.slice ao n cap) n (ivals fs)) (hn : n = fs.length) : IntsAt W ao fs ∧ n ≤ cap := by
  subst hn
  have h0 := h
  rcases h.2 with ⟨e, h1⟩ | ⟨g, c, cur, e, h1, h2, h3, _⟩
  · rw [h1]
    exact ⟨fun h => absurd h (by omega), Nat.zero_le _⟩
  · cases e
    refine ⟨fun _ => ⟨g, 0, rfl, (Array.getElem?_eq_some_iff.1 h2).1, fun i hi => ?_⟩, h3⟩
    have := h0.cells (g := g) rfl i (.int .i64 (fs[i]?.getD 0)) (by simp [ivals, List.getElem?_eq_getElem hi])
    rw [add31] at this
    rw [Nat.zero_add]
    exact this
abbrev LP := List (Int × Int)
theorem row_ge {W : World} {base size n g : Nat} {e : TypeId} {u : Value} {xs : List Value} (h : W.ownsRow base e size u n xs) (hg : u.ownBlock = some g) : base ≤ g := by
  rcases Nat.lt_or_ge g base with k | k
  · exact absurd hg.symm (row_lt6 h k)
  · exact k
theorem row_in {W : World} {base size n g : Nat} {e : TypeId} {u : Value} {xs : List Value} (h : W.ownsRow base e size u n xs) (hg : u.ownBlock = some g) : g < W.heap.size := by
  rcases h.2 with ⟨rfl, _⟩ | ⟨g2, cap, cur, rfl, _, h2, _⟩
  · simp [Value.ownBlock] at hg
  · have : g2 = g := by simpa [Value.ownBlock] using hg
    subst this
    exact (Array.getElem?_eq_some_iff.1 h2).1
theorem row_setn {W : World} {b i base size n : Nat} {e : TypeId} {u x : Value} {xs : List Value} (h : W.ownsRow base e size u n xs) (hb : some b ≠ u.ownBlock) : (W.setCell ⟨b, i, none⟩ x).ownsRow base e size u n xs :=
  h.kept (grown_set31 W b i x) (.inr hb.symm)
structure Lx (rb pb n0 : Nat) (a v : D) (most k0 k1 k2 k3 k4 k5 m0 m1 m2 m3 m4 m5 : Int) (w0 w : World) (l0 l1 l2 l3 l4 l5 l6 l7 l8 l9 l10 l11 l12 : Bool) (v0 v1 v2 v3 v4 v5 v6 v7 v8 v9 v10 v11 : Value) (b11 : Nat) : Prop where
  g : Ho w0 w n0 [(pb, [.int .i64 most, .int .u32 k0, .int .u32 k1, .int .u32 k2, .int .u32 k3, .int .u32 k4, .int .u32 k5, .int .u32 m0, .int .u32 m1, .int .u32 m2, .int .u32 m3, .int .u32 m4, .int .u32 m5]), (rb, [.int .i64 a.a, .int .i64 a.b, .int .i64 a.c, .int .i64 a.d, .int .i64 a.e, .int .i64 a.f, .int .i64 v.a, .int .i64 v.b, .int .i64 v.c, .int .i64 v.d, .int .i64 v.e, .int .i64 v.f])]
  sz : n0 ≤ w.heap.size
  mn : n0 ≤ n0
  ev0 : l0 = true → v0 = .pointer (some ⟨rb, 0, none⟩)
  ev1 : l1 = true → v1 = (dv a)
  ev2 : l2 = true → v2 = .pointer (some ⟨pb, 1, none⟩)
  ev3 : l3 = true → v3 = .agg #[.int .u32 k0, .int .u32 k1, .int .u32 k2, .int .u32 k3, .int .u32 k4, .int .u32 k5]
  ev4 : l4 = true → v4 = (dv (partD a k0 k1 k2 k3 k4 k5))
  ev5 : l5 = true → v5 = .pointer (some ⟨rb, 6, none⟩)
  ev6 : l6 = true → v6 = (dv v)
  ev7 : l7 = true → v7 = .pointer (some ⟨pb, 7, none⟩)
  ev8 : l8 = true → v8 = .agg #[.int .u32 m0, .int .u32 m1, .int .u32 m2, .int .u32 m3, .int .u32 m4, .int .u32 m5]
  ev9 : l9 = true → v9 = (dv (partD v m0 m1 m2 m3 m4 m5))
  ev10 : l10 = true → v10 = .agg #[.int .i64 (partD a k0 k1 k2 k3 k4 k5).a, .int .i64 (partD a k0 k1 k2 k3 k4 k5).b, .int .i64 (partD a k0 k1 k2 k3 k4 k5).c, .int .i64 (partD a k0 k1 k2 k3 k4 k5).d, .int .i64 (partD a k0 k1 k2 k3 k4 k5).e, .int .i64 (partD a k0 k1 k2 k3 k4 k5).f, .int .i64 (partD v m0 m1 m2 m3 m4 m5).a, .int .i64 (partD v m0 m1 m2 m3 m4 m5).b, .int .i64 (partD v m0 m1 m2 m3 m4 m5).c, .int .i64 (partD v m0 m1 m2 m3 m4 m5).d, .int .i64 (partD v m0 m1 m2 m3 m4 m5).e, .int .i64 (partD v m0 m1 m2 m3 m4 m5).f]
  ev11 : l11 = true → v11 = .pointer (some ⟨b11, 0, none⟩)
  g11 : l11 = true → n0 ≤ b11
  t11 : l11 = true → b11 < w.heap.size
  o11 : l12 = true → l11 = true
  z11 : l11 = true → l12 = false → Bx w b11 [.int .i64 0, .int .i64 0, .int .i64 0, .int .i64 0, .int .i64 0, .int .i64 0, .int .i64 0, .int .i64 0, .int .i64 0, .int .i64 0, .int .i64 0, .int .i64 0]
  s11 : l12 = true → Bx w b11 [.int .i64 (partD a k0 k1 k2 k3 k4 k5).a, .int .i64 (partD a k0 k1 k2 k3 k4 k5).b, .int .i64 (partD a k0 k1 k2 k3 k4 k5).c, .int .i64 (partD a k0 k1 k2 k3 k4 k5).d, .int .i64 (partD a k0 k1 k2 k3 k4 k5).e, .int .i64 (partD a k0 k1 k2 k3 k4 k5).f, .int .i64 (partD v m0 m1 m2 m3 m4 m5).a, .int .i64 (partD v m0 m1 m2 m3 m4 m5).b, .int .i64 (partD v m0 m1 m2 m3 m4 m5).c, .int .i64 (partD v m0 m1 m2 m3 m4 m5).d, .int .i64 (partD v m0 m1 m2 m3 m4 m5).e, .int .i64 (partD v m0 m1 m2 m3 m4 m5).f]
theorem Lx.kept {rb pb n0 : Nat} {a v : D} {most k0 k1 k2 k3 k4 k5 m0 m1 m2 m3 m4 m5 : Int} {w0 w : World} {l0 l1 l2 l3 l4 l5 l6 l7 l8 l9 l10 l11 l12 : Bool} {v0 v1 v2 v3 v4 v5 v6 v7 v8 v9 v10 v11 : Value} {b11 : Nat} {w' : World} (h : Lx rb pb n0 a v most k0 k1 k2 k3 k4 k5 m0 m1 m2 m3 m4 m5 w0 w l0 l1 l2 l3 l4 l5 l6 l7 l8 l9 l10 l11 l12 v0 v1 v2 v3 v4 v5 v6 v7 v8 v9 v10 v11 b11) (hb : Below w.heap.size w w') : Lx rb pb n0 a v most k0 k1 k2 k3 k4 k5 m0 m1 m2 m3 m4 m5 w0 w' l0 l1 l2 l3 l4 l5 l6 l7 l8 l9 l10 l11 l12 v0 v1 v2 v3 v4 v5 v6 v7 v8 v9 v10 v11 b11 :=
  { h with g := h.g.call hb, sz := Nat.le_trans h.sz hb.size, t11 := fun p => Nat.lt_of_lt_of_le (h.t11 p) hb.size, z11 := fun p q => (h.z11 p q).kept hb, s11 := fun p => (h.s11 p).kept hb }
def Lx.I (rb pb n0 : Nat) (a v : D) (most k0 k1 k2 k3 k4 k5 m0 m1 m2 m3 m4 m5 : Int) (w0 : World) : Act → Array Bool → Act → World → Prop := fun aO LX aX w => ∃ (l0 l1 l2 l3 l4 l5 l6 l7 l8 l9 l10 l11 l12 : Bool) (v0 v1 v2 v3 v4 v5 v6 v7 v8 v9 v10 v11 : Value) (b11 : Nat), LX = #[l0, l1, l2, l3, l4, l5, l6, l7, l8, l9, l10, l11, l12] ∧ aX = ((((((((((((aO.put (some 30) v0).put (some 31) v1).put (some 32) v2).put (some 33) v3).put (some 34) v4).put (some 35) v5).put (some 36) v6).put (some 37) v7).put (some 38) v8).put (some 39) v9).put (some 40) v10).put (some 7) v11) ∧ Lx rb pb n0 a v most k0 k1 k2 k3 k4 k5 m0 m1 m2 m3 m4 m5 w0 w l0 l1 l2 l3 l4 l5 l6 l7 l8 l9 l10 l11 l12 v0 v1 v2 v3 v4 v5 v6 v7 v8 v9 v10 v11 b11
structure Ly (bb rb pb n0 : Nat) (na da : Option Addr) (nc dc : Nat) (L : List D) (M : LP) (i0 i1 most : Int) (s t : D) (P : FO) (pt : List Value) (w0 W : World) (l0 l1 l2 l3 l4 l5 l6 l7 l8 l9 l10 l11 : Bool) (v0 v1 v2 v3 v4 v5 v6 v7 v8 v9 v11 : Value) (b9 : Nat) (u5 : Value) : Prop where
  g : Ho w0 W n0 [(pb, .int .i64 most :: pt), (rb, [.int .i64 s.a, .int .i64 s.b, .int .i64 s.c, .int .i64 s.d, .int .i64 s.e, .int .i64 s.f, .int .i64 t.a, .int .i64 t.b, .int .i64 t.c, .int .i64 t.d, .int .i64 t.e, .int .i64 t.f]), (bb, [.slice na L.length nc, .slice da M.length dc, .int .i64 i0, .int .i64 i1])]
  sz : n0 ≤ W.heap.size
  ev0 : l0 = true → v0 = .agg #[.slice na L.length nc, .slice da M.length dc, .int .i64 i0, .int .i64 i1]
  ev1 : l1 = true → v1 = .agg #[.int .i64 s.a, .int .i64 s.b, .int .i64 s.c, .int .i64 s.d, .int .i64 s.e, .int .i64 s.f, .int .i64 t.a, .int .i64 t.b, .int .i64 t.c, .int .i64 t.d, .int .i64 t.e, .int .i64 t.f]
  ev2 : l2 = true → v2 = (iv 16777216 16777216)
  ev3 : l3 = true → v3 = .pointer (some ⟨pb, 0, none⟩)
  ev4 : l4 = true → v4 = .int .i64 most
  ev5 : l5 = true → v5 = .tuple #[.agg #[.int .i64 P.lv.k, u5, .int .i64 P.lv.o.a, .int .i64 P.lv.o.b, .int .i64 P.lv.o.c, .int .i64 P.lv.o.d, .int .i64 P.lv.o.e, .int .i64 P.lv.o.f, .int .i64 P.lv.lo, .int .i64 P.lv.hi], .int .i64 P.e]
  ev6 : l6 = true → v6 = .tuple #[.agg #[.int .i64 P.lv.k, u5, .int .i64 P.lv.o.a, .int .i64 P.lv.o.b, .int .i64 P.lv.o.c, .int .i64 P.lv.o.d, .int .i64 P.lv.o.e, .int .i64 P.lv.o.f, .int .i64 P.lv.lo, .int .i64 P.lv.hi], .int .i64 P.e]
  ev7 : l7 = true → v7 = .agg #[.int .i64 P.lv.k, u5, .int .i64 P.lv.o.a, .int .i64 P.lv.o.b, .int .i64 P.lv.o.c, .int .i64 P.lv.o.d, .int .i64 P.lv.o.e, .int .i64 P.lv.o.f, .int .i64 P.lv.lo, .int .i64 P.lv.hi]
  ev8 : l8 = true → v8 = .int .i64 P.e
  ev9 : l9 = true → v9 = .pointer (some ⟨b9, 0, none⟩)
  ev11 : l11 = true → v11 = .int .i64 P.e
  fr : l5 = true → W.ownsRow n0 3 1 u5 P.fs.length (ivals P.fs)
  fd : l5 = true → l9 = true → some b9 ≠ u5.ownBlock
  g9 : l9 = true → n0 ≤ b9
  t9 : l9 = true → b9 < W.heap.size
  o9 : l10 = true → l9 = true
  o5 : l10 = true → l5 = true
  o65 : l6 = true → l5 = true
  o76 : l7 = true → l6 = true
  z9 : l9 = true → l10 = false → Bx W b9 (lcells ⟨0, zD, 0, 0⟩ (.slice none 0 0))
  s9 : l10 = true → Bx W b9 (lcells P.lv u5)
theorem Ly.kept {bb rb pb n0 : Nat} {na da : Option Addr} {nc dc : Nat} {L : List D} {M : LP} {i0 i1 most : Int} {s t : D} {P : FO} {pt : List Value} {w0 W : World} {l0 l1 l2 l3 l4 l5 l6 l7 l8 l9 l10 l11 : Bool} {v0 v1 v2 v3 v4 v5 v6 v7 v8 v9 v11 : Value} {b9 : Nat} {u5 : Value} {W' : World} (h : Ly bb rb pb n0 na da nc dc L M i0 i1 most s t P pt w0 W l0 l1 l2 l3 l4 l5 l6 l7 l8 l9 l10 l11 v0 v1 v2 v3 v4 v5 v6 v7 v8 v9 v11 b9 u5) (hb : Below W.heap.size W W') : Ly bb rb pb n0 na da nc dc L M i0 i1 most s t P pt w0 W' l0 l1 l2 l3 l4 l5 l6 l7 l8 l9 l10 l11 v0 v1 v2 v3 v4 v5 v6 v7 v8 v9 v11 b9 u5 :=
  { h with g := h.g.call hb, sz := Nat.le_trans h.sz hb.size, fr := fun p => ownsRow_below (h.fr p) hb, t9 := fun p => Nat.lt_of_lt_of_le (h.t9 p) hb.size, z9 := fun p q => (h.z9 p q).kept hb, s9 := fun p => (h.s9 p).kept hb }
def Ly.I (bb rb pb n0 : Nat) (na da : Option Addr) (nc dc : Nat) (L : List D) (M : LP) (i0 i1 most : Int) (s t : D) (P : FO) (pt : List Value) (w0 : World) : Act → Array Bool → Act → World → Prop := fun aO LX aX W => ∃ (l0 l1 l2 l3 l4 l5 l6 l7 l8 l9 l10 l11 : Bool) (v0 v1 v2 v3 v4 v5 v6 v7 v8 v9 v11 : Value) (b9 : Nat) (u5 : Value), LX = #[l0, l1, l2, l3, l4, l5, l6, l7, l8, l9, l10, l11] ∧ aX = (((((((((((aO.put (some 42) v0).put (some 43) v1).put (some 44) v2).put (some 45) v3).put (some 46) v4).put (some 47) v5).put (some 41) v6).put (some 48) v7).put (some 49) v8).put (some 8) v9).put (some 9) v11) ∧ Ly bb rb pb n0 na da nc dc L M i0 i1 most s t P pt w0 W l0 l1 l2 l3 l4 l5 l6 l7 l8 l9 l10 l11 v0 v1 v2 v3 v4 v5 v6 v7 v8 v9 v11 b9 u5
structure Lw (bb rb pb n0 : Nat) (na da : Option Addr) (nc dc : Nat) (L : List D) (M : LP) (i0 i1 most : Int) (s t : D) (P : FO) (pt : List Value) (w0 W : World) (l0 l1 l2 l3 l4 l5 l6 l7 l8 l9 l10 l11 : Bool) (v0 v1 v2 v3 v4 v5 v6 v7 v8 v9 v11 : Value) (b9 : Nat) (u5 : Value) : Prop where
  g : Ho w0 W n0 [(pb, .int .i64 most :: pt), (rb, [.int .i64 s.a, .int .i64 s.b, .int .i64 s.c, .int .i64 s.d, .int .i64 s.e, .int .i64 s.f, .int .i64 t.a, .int .i64 t.b, .int .i64 t.c, .int .i64 t.d, .int .i64 t.e, .int .i64 t.f]), (bb, [.slice na L.length nc, .slice da M.length dc, .int .i64 i0, .int .i64 i1])]
  sz : n0 ≤ W.heap.size
  ev0 : l0 = true → v0 = .agg #[.slice na L.length nc, .slice da M.length dc, .int .i64 i0, .int .i64 i1]
  ev1 : l1 = true → v1 = .agg #[.int .i64 s.a, .int .i64 s.b, .int .i64 s.c, .int .i64 s.d, .int .i64 s.e, .int .i64 s.f, .int .i64 t.a, .int .i64 t.b, .int .i64 t.c, .int .i64 t.d, .int .i64 t.e, .int .i64 t.f]
  ev2 : l2 = true → v2 = (iv 16777216 16777216)
  ev3 : l3 = true → v3 = .pointer (some ⟨pb, 0, none⟩)
  ev4 : l4 = true → v4 = .int .i64 most
  ev5 : l5 = true → v5 = .tuple #[.agg #[.int .i64 P.lv.k, u5, .int .i64 P.lv.o.a, .int .i64 P.lv.o.b, .int .i64 P.lv.o.c, .int .i64 P.lv.o.d, .int .i64 P.lv.o.e, .int .i64 P.lv.o.f, .int .i64 P.lv.lo, .int .i64 P.lv.hi], .int .i64 P.e]
  ev6 : l6 = true → v6 = .tuple #[.agg #[.int .i64 P.lv.k, u5, .int .i64 P.lv.o.a, .int .i64 P.lv.o.b, .int .i64 P.lv.o.c, .int .i64 P.lv.o.d, .int .i64 P.lv.o.e, .int .i64 P.lv.o.f, .int .i64 P.lv.lo, .int .i64 P.lv.hi], .int .i64 P.e]
  ev7 : l7 = true → v7 = .agg #[.int .i64 P.lv.k, u5, .int .i64 P.lv.o.a, .int .i64 P.lv.o.b, .int .i64 P.lv.o.c, .int .i64 P.lv.o.d, .int .i64 P.lv.o.e, .int .i64 P.lv.o.f, .int .i64 P.lv.lo, .int .i64 P.lv.hi]
  ev8 : l8 = true → v8 = .int .i64 P.e
  ev9 : l9 = true → v9 = .pointer (some ⟨b9, 0, none⟩)
  ev11 : l11 = true → v11 = .int .i64 P.e
  fr : l5 = true → W.ownsRow n0 3 1 u5 P.fs.length (ivals P.fs)
  fd : l5 = true → l9 = true → some b9 ≠ u5.ownBlock
  g9 : l9 = true → n0 ≤ b9
  t9 : l9 = true → b9 < W.heap.size
  o9 : l10 = true → l9 = true
  o5 : l10 = true → l5 = true
  o65 : l6 = true → l5 = true
  o76 : l7 = true → l6 = true
  z9 : l9 = true → l10 = false → Bx W b9 (lcells ⟨0, zD, 0, 0⟩ (.slice none 0 0))
  s9 : l10 = true → Bx W b9 (lcells P.lv u5)
theorem Lw.kept {bb rb pb n0 : Nat} {na da : Option Addr} {nc dc : Nat} {L : List D} {M : LP} {i0 i1 most : Int} {s t : D} {P : FO} {pt : List Value} {w0 W : World} {l0 l1 l2 l3 l4 l5 l6 l7 l8 l9 l10 l11 : Bool} {v0 v1 v2 v3 v4 v5 v6 v7 v8 v9 v11 : Value} {b9 : Nat} {u5 : Value} {W' : World} (h : Lw bb rb pb n0 na da nc dc L M i0 i1 most s t P pt w0 W l0 l1 l2 l3 l4 l5 l6 l7 l8 l9 l10 l11 v0 v1 v2 v3 v4 v5 v6 v7 v8 v9 v11 b9 u5) (hb : Below W.heap.size W W') : Lw bb rb pb n0 na da nc dc L M i0 i1 most s t P pt w0 W' l0 l1 l2 l3 l4 l5 l6 l7 l8 l9 l10 l11 v0 v1 v2 v3 v4 v5 v6 v7 v8 v9 v11 b9 u5 :=
  { h with g := h.g.call hb, sz := Nat.le_trans h.sz hb.size, fr := fun p => ownsRow_below (h.fr p) hb, t9 := fun p => Nat.lt_of_lt_of_le (h.t9 p) hb.size, z9 := fun p q => (h.z9 p q).kept hb, s9 := fun p => (h.s9 p).kept hb }
def Lw.I (bb rb pb n0 : Nat) (na da : Option Addr) (nc dc : Nat) (L : List D) (M : LP) (i0 i1 most : Int) (s t : D) (P : FO) (pt : List Value) (w0 : World) : Act → Array Bool → Act → World → Prop := fun aO LX aX W => ∃ (l0 l1 l2 l3 l4 l5 l6 l7 l8 l9 l10 l11 : Bool) (v0 v1 v2 v3 v4 v5 v6 v7 v8 v9 v11 : Value) (b9 : Nat) (u5 : Value), LX = #[l0, l1, l2, l3, l4, l5, l6, l7, l8, l9, l10, l11] ∧ aX = (((((((((((aO.put (some 51) v0).put (some 52) v1).put (some 53) v2).put (some 54) v3).put (some 55) v4).put (some 56) v5).put (some 50) v6).put (some 57) v7).put (some 58) v8).put (some 10) v9).put (some 11) v11) ∧ Lw bb rb pb n0 na da nc dc L M i0 i1 most s t P pt w0 W l0 l1 l2 l3 l4 l5 l6 l7 l8 l9 l10 l11 v0 v1 v2 v3 v4 v5 v6 v7 v8 v9 v11 b9 u5
structure Lz (pb qb n0 : Nat) (po9 qo9 : Option Addr) (pc9 qc9 : Nat) (pk plo phi qk qlo qhi : Int) (oo qo : D) (fs gs : List Int) (w0 w : World) (l0 l1 l2 l3 l4 l5 l6 l7 l8 l9 l10 l11 l12 l13 l14 l15 l16 l17 l18 l19 : Bool) (v0 v1 v2 v3 v4 v5 v6 v7 v8 v9 v10 v11 v12 v13 v14 v15 v16 v17 v18 v19 : Value) : Prop where
  g : Ho w0 w n0 [(qb, [.int .i64 qk, .slice qo9 gs.length qc9, .int .i64 qo.a, .int .i64 qo.b, .int .i64 qo.c, .int .i64 qo.d, .int .i64 qo.e, .int .i64 qo.f, .int .i64 qlo, .int .i64 qhi]), (pb, [.int .i64 pk, .slice po9 fs.length pc9, .int .i64 oo.a, .int .i64 oo.b, .int .i64 oo.c, .int .i64 oo.d, .int .i64 oo.e, .int .i64 oo.f, .int .i64 plo, .int .i64 phi])]
  sz : n0 ≤ w.heap.size
  mn : n0 ≤ n0
  ev0 : l0 = true → v0 = .int .i64 0
  ev1 : l1 = true → v1 = .int .i64 0
  ev2 : l2 = true → v2 = .bool true
  ev3 : l3 = true → v3 = .bool true
  ev4 : l4 = true → v4 = .int .i64 0
  ev5 : l5 = true → v5 = .bool false
  ev6 : l6 = true → v6 = .bool false
  ev7 : l7 = true → v7 = (pv po9 pc9 ⟨pk, fs, oo, plo, phi⟩)
  ev8 : l8 = true → v8 = (pv qo9 qc9 ⟨qk, gs, qo, qlo, qhi⟩)
  ev9 : l9 = true → v9 = .bool true
  ev10 : l10 = true → v10 = .bool true
  ev11 : l11 = true → v11 = (pv po9 pc9 ⟨pk, fs, oo, plo, phi⟩)
  ev12 : l12 = true → v12 = (pv po9 pc9 ⟨pk, fs, oo, plo, phi⟩)
  ev13 : l13 = true → v13 = (pv qo9 qc9 ⟨qk, gs, qo, qlo, qhi⟩)
  ev14 : l14 = true → v14 = (pv qo9 qc9 ⟨qk, gs, qo, qlo, qhi⟩)
  ev15 : l15 = true → v15 = .bool true
  ev16 : l16 = true → v16 = .bool true
  ev17 : l17 = true → v17 = .bool true
  ev18 : l18 = true → v18 = .bool true
  ev19 : l19 = true → v19 = .bool true
theorem Lz.kept {pb qb n0 : Nat} {po9 qo9 : Option Addr} {pc9 qc9 : Nat} {pk plo phi qk qlo qhi : Int} {oo qo : D} {fs gs : List Int} {w0 w : World} {l0 l1 l2 l3 l4 l5 l6 l7 l8 l9 l10 l11 l12 l13 l14 l15 l16 l17 l18 l19 : Bool} {v0 v1 v2 v3 v4 v5 v6 v7 v8 v9 v10 v11 v12 v13 v14 v15 v16 v17 v18 v19 : Value} {w' : World} (h : Lz pb qb n0 po9 qo9 pc9 qc9 pk plo phi qk qlo qhi oo qo fs gs w0 w l0 l1 l2 l3 l4 l5 l6 l7 l8 l9 l10 l11 l12 l13 l14 l15 l16 l17 l18 l19 v0 v1 v2 v3 v4 v5 v6 v7 v8 v9 v10 v11 v12 v13 v14 v15 v16 v17 v18 v19) (hb : Below w.heap.size w w') : Lz pb qb n0 po9 qo9 pc9 qc9 pk plo phi qk qlo qhi oo qo fs gs w0 w' l0 l1 l2 l3 l4 l5 l6 l7 l8 l9 l10 l11 l12 l13 l14 l15 l16 l17 l18 l19 v0 v1 v2 v3 v4 v5 v6 v7 v8 v9 v10 v11 v12 v13 v14 v15 v16 v17 v18 v19 :=
  { h with g := h.g.call hb, sz := Nat.le_trans h.sz hb.size }
def Lz.I (pb qb n0 : Nat) (po9 qo9 : Option Addr) (pc9 qc9 : Nat) (pk plo phi qk qlo qhi : Int) (oo qo : D) (fs gs : List Int) (w0 : World) : Act → Array Bool → Act → World → Prop := fun aO LX aX w => ∃ (l0 l1 l2 l3 l4 l5 l6 l7 l8 l9 l10 l11 l12 l13 l14 l15 l16 l17 l18 l19 : Bool) (v0 v1 v2 v3 v4 v5 v6 v7 v8 v9 v10 v11 v12 v13 v14 v15 v16 v17 v18 v19 : Value), LX = #[l0, l1, l2, l3, l4, l5, l6, l7, l8, l9, l10, l11, l12, l13, l14, l15, l16, l17, l18, l19] ∧ aX = ((((((((((((((((((((aO.put (some 59) v0).put (some 60) v1).put (some 61) v2).put (some 62) v3).put (some 63) v4).put (some 64) v5).put (some 65) v6).put (some 66) v7).put (some 67) v8).put (some 68) v9).put (some 69) v10).put (some 70) v11).put (some 71) v12).put (some 72) v13).put (some 73) v14).put (some 74) v15).put (some 75) v16).put (some 76) v17).put (some 77) v18).put (some 6) v19) ∧ Lz pb qb n0 po9 qo9 pc9 qc9 pk plo phi qk qlo qhi oo qo fs gs w0 w l0 l1 l2 l3 l4 l5 l6 l7 l8 l9 l10 l11 l12 l13 l14 l15 l16 l17 l18 l19 v0 v1 v2 v3 v4 v5 v6 v7 v8 v9 v10 v11 v12 v13 v14 v15 v16 v17 v18 v19
set_option maxRecDepth 100000 in
set_option maxHeartbeats 32000000 in
theorem tIncl_law {na da : Option Addr} {nc dc : Nat} {L : List D} {M : List (Int × Int)} {i0 i1 : Int} {a v : D} {most k0 k1 k2 k3 k4 k5 m0 m1 m2 m3 m4 m5 : Int} (w : World) (hn : NAt w na L) (hm : PAt w da M) (hL : L.length * 48 ≤ 140737488351232) (hu : U6 k0 k1 k2 k3 k4 k5) (hu2 : U6 m0 m1 m2 m3 m4 m5) :
    Calls Try.prog 5 #[.agg #[.slice na L.length nc, .slice da M.length dc, .int .i64 i0, .int .i64 i1], rv a v, .agg #[.int .i64 most, .int .u32 k0, .int .u32 k1, .int .u32 k2, .int .u32 k3, .int .u32 k4, .int .u32 k5, .int .u32 m0, .int .u32 m1, .int .u32 m2, .int .u32 m3, .int .u32 m4, .int .u32 m5]] w fun e w' => e = .returned (.bool true) ∧ Below w.heap.size w w' := by
  have HN := Lib.hid hn
  have HM := Lib.hid hm
  have HU := Lib.hid hu
  have HU2 := Lib.hid hu2
  clear hn hm hu hu2
  have H0 := (((Ho.nil w).bx [.slice na L.length nc, .slice da M.length dc, .int .i64 i0, .int .i64 i1] 39 w.heap.size rfl).bx [.int .i64 a.a, .int .i64 a.b, .int .i64 a.c, .int .i64 a.d, .int .i64 a.e, .int .i64 a.f, .int .i64 v.a, .int .i64 v.b, .int .i64 v.c, .int .i64 v.d, .int .i64 v.e, .int .i64 v.f] 41 (w.heap.size + 1) (by simp)).bx [.int .i64 most, .int .u32 k0, .int .u32 k1, .int .u32 k2, .int .u32 k3, .int .u32 k4, .int .u32 k5, .int .u32 m0, .int .u32 m1, .int .u32 m2, .int .u32 m3, .int .u32 m4, .int .u32 m5] 59 (w.heap.size + 1 + 1) (by simp)
  unfold rv
  cases hf : fewB L.length M.length
  · have EF := Lib.hid hf
    clear hf
    go_enter Try.func5, Try.ntmps5
    go_wp2_with fail
    refine (awake31_any _).mono ?_
    rintro e w1 ⟨rfl, hb⟩
    have H1 := H0.call hb
    clear hb
    have x0 := (H1.at 2 rfl).c
    go_wp2_with fail
    refine (theirs31_any _ (HN.out.kept H1.below) hL).mono ?_
    rintro e w2 ⟨⟨u, rfl, hrow⟩, hb⟩
    obtain ⟨ao2, cap2, rfl⟩ := row_form6 hrow
    have H2 := H1.call hb
    clear hb x0 hrow
    go_wp2_with fail
    refine (few31_any _).mono ?_
    rintro e w3 ⟨rfl, hb⟩
    rw [EF.out]
    have H3 := H2.call hb
    clear hb
    have x1 := (H3.at 1 rfl).c
    go_wp2_with fail
    go_ret
    exact ⟨rfl, H3.below⟩
  have EF := Lib.hid hf
  clear hf
  cases h1 : vD a
  · have HA := Lib.hid h1
    clear h1
    go_enter Try.func5, Try.ntmps5
    go_wp2_with fail
    refine (awake31_any _).mono ?_
    rintro e w1 ⟨rfl, hb⟩
    have H1 := H0.call hb
    clear hb
    have x0 := (H1.at 2 rfl).c
    go_wp2_with fail
    refine (theirs31_any _ (HN.out.kept H1.below) hL).mono ?_
    rintro e w2 ⟨⟨u, rfl, hrow⟩, hb⟩
    obtain ⟨ao2, cap2, rfl⟩ := row_form6 hrow
    have H2 := H1.call hb
    clear hb x0 hrow
    go_wp2_with fail
    refine (few31_any _).mono ?_
    rintro e w3 ⟨rfl, hb⟩
    rw [EF.out]
    have H3 := H2.call hb
    clear hb
    have x1 := (H3.at 1 rfl).c
    go_wp2_with fail
    refine (rdvalid_any a _).mono ?_
    rintro e w4 ⟨rfl, hb⟩
    rw [HA.out]
    have H4 := H3.call hb
    clear hb x1
    have x1 := (H4.at 1 rfl).c
    go_wp2_with fail
    go_ret
    exact ⟨rfl, H4.below⟩
  have HA := Lib.hid h1
  clear h1
  cases h2 : vD v
  · have HV := Lib.hid h2
    clear h2
    go_enter Try.func5, Try.ntmps5
    go_wp2_with fail
    refine (awake31_any _).mono ?_
    rintro e w1 ⟨rfl, hb⟩
    have H1 := H0.call hb
    clear hb
    have x0 := (H1.at 2 rfl).c
    go_wp2_with fail
    refine (theirs31_any _ (HN.out.kept H1.below) hL).mono ?_
    rintro e w2 ⟨⟨u, rfl, hrow⟩, hb⟩
    obtain ⟨ao2, cap2, rfl⟩ := row_form6 hrow
    have H2 := H1.call hb
    clear hb x0 hrow
    go_wp2_with fail
    refine (few31_any _).mono ?_
    rintro e w3 ⟨rfl, hb⟩
    rw [EF.out]
    have H3 := H2.call hb
    clear hb
    have x1 := (H3.at 1 rfl).c
    go_wp2_with fail
    refine (rdvalid_any a _).mono ?_
    rintro e w4 ⟨rfl, hb⟩
    rw [HA.out]
    have H4 := H3.call hb
    clear hb x1
    have x1 := (H4.at 1 rfl).c
    go_wp2_with fail
    refine (rdvalid_any v _).mono ?_
    rintro e w5 ⟨rfl, hb⟩
    rw [HV.out]
    have H5 := H4.call hb
    clear hb x1
    go_wp2_with fail
    go_ret
    exact ⟨rfl, H5.below⟩
  have HV := Lib.hid h2
  clear h2
  go_enter Try.func5, Try.ntmps5
  go_wp2_with fail
  refine (awake31_any _).mono ?_
  rintro e w1 ⟨rfl, hb⟩
  have H1 := H0.call hb
  clear hb
  have x0 := (H1.at 2 rfl).c
  go_wp2_with fail
  refine (theirs31_any _ (HN.out.kept H1.below) hL).mono ?_
  rintro e w2 ⟨⟨u, rfl, hrow⟩, hb⟩
  obtain ⟨ao2, cap2, rfl⟩ := row_form6 hrow
  have H2 := H1.call hb
  clear hb x0 hrow
  go_wp2_with fail
  refine (few31_any _).mono ?_
  rintro e w3 ⟨rfl, hb⟩
  rw [EF.out]
  have H3 := H2.call hb
  clear hb
  have x1 := (H3.at 1 rfl).c
  go_wp2_with fail
  refine (rdvalid_any a _).mono ?_
  rintro e w4 ⟨rfl, hb⟩
  rw [HA.out]
  have H4 := H3.call hb
  clear hb x1
  have x1 := (H4.at 1 rfl).c
  go_wp2_with fail
  refine (rdvalid_any v _).mono ?_
  rintro e w5 ⟨rfl, hb⟩
  rw [HV.out]
  have H5 := H4.call hb
  clear hb x1
  go_wp2_with fail
  go_upto_region 5 with fail
  have HS : Ho w5 (World.drew w5) w5.heap.size [(w.heap.size + 1 + 1, [.int .i64 most, .int .u32 k0, .int .u32 k1, .int .u32 k2, .int .u32 k3, .int .u32 k4, .int .u32 k5, .int .u32 m0, .int .u32 m1, .int .u32 m2, .int .u32 m3, .int .u32 m4, .int .u32 m5]), (w.heap.size + 1, [.int .i64 a.a, .int .i64 a.b, .int .i64 a.c, .int .i64 a.d, .int .i64 a.e, .int .i64 a.f, .int .i64 v.a, .int .i64 v.b, .int .i64 v.c, .int .i64 v.d, .int .i64 v.e, .int .i64 v.f])] := ⟨(Below.refl _ _).drew, Nat.le_refl _, Nat.le_refl _, fun p hp => by
    simp only [List.mem_cons, List.not_mem_nil, or_false] at hp
    rcases hp with rfl | rfl
    · exact ⟨(H5.at 0 rfl).lt, (H5.at 0 rfl).drew⟩
    · exact ⟨(H5.at 1 rfl).lt, (H5.at 1 rfl).drew⟩⟩
  refine region_sets (Lx.I (w.heap.size + 1) (w.heap.size + 1 + 1) w5.heap.size a v most k0 k1 k2 k3 k4 k5 m0 m1 m2 m3 m4 m5 w5) (by kernel_rfl) ?_ ?_ ?_
  · refine ⟨false, false, false, false, false, false, false, false, false, false, false, false, false, undef, undef, undef, undef, undef, undef, undef, undef, undef, undef, undef, undef, 0, rfl, by simp only [Act.put, List.setIfInBounds_toArray, List.set_cons_zero, List.set_cons_succ], ?_⟩
    constructor
    · exact HS
    · (first | (simp; done) | (simp; omega))
    · (omega)
    all_goals (intro h; cases h)
  · intro L a' w' hI i hi
    obtain ⟨l0, l1, l2, l3, l4, l5, l6, l7, l8, l9, l10, l11, l12, v0, v1, v2, v3, v4, v5, v6, v7, v8, v9, v10, v11, b11, rfl, rfl, h⟩ := hI
    have hlt := ready_lt hi
    match i, hi, hlt with
    | 0, hi, _ =>
      have l' : l0 = false := (ready_op (o := _) rfl hi).1
      subst l'
      clear hi hlt
      have H := Lib.hid h
      clear h
      refine wpOp_shut rfl (fun K hK => ?_)
      try simp only [Act.put, List.setIfInBounds_toArray, List.set_cons_zero, List.set_cons_succ]
      go_simp
      refine hK.out _ _ ?_
      unfold Lx.I
      refine ⟨true, l1, l2, l3, l4, l5, l6, l7, l8, l9, l10, l11, l12, (.pointer (some ⟨(w.heap.size + 1), 0, none⟩)), v1, v2, v3, v4, v5, v6, v7, v8, v9, v10, v11, b11, rfl, ?_, ?_⟩
      · simp only [Act.put, List.setIfInBounds_toArray, List.set_cons_zero, List.set_cons_succ]
      · exact { H.out with ev0 := fun _ => rfl }
    | 1, hi, _ =>
      have l' : l1 = false := (ready_op (o := _) rfl hi).1
      subst l'
      have k0 : l0 = true := (ready_op (o := _) rfl hi).2 { on := 0, ground := .data } (by simp) rfl
      clear hi hlt
      subst k0
      obtain rfl := h.ev0 rfl
      have c := (h.g.at 1 rfl).c
      have H := Lib.hid h
      clear h
      refine wpOp_shut rfl (fun K hK => ?_)
      try simp only [Act.put, List.setIfInBounds_toArray, List.set_cons_zero, List.set_cons_succ]
      go_simp
      refine hK.out _ _ ?_
      unfold Lx.I
      refine ⟨true, true, l2, l3, l4, l5, l6, l7, l8, l9, l10, l11, l12, (.pointer (some ⟨(w.heap.size + 1), 0, none⟩)), ((dv a)), v2, v3, v4, v5, v6, v7, v8, v9, v10, v11, b11, rfl, ?_, ?_⟩
      · simp only [Act.put, List.setIfInBounds_toArray, List.set_cons_zero, List.set_cons_succ]
      · exact { H.out with ev1 := fun _ => rfl }
    | 2, hi, _ =>
      have l' : l2 = false := (ready_op (o := _) rfl hi).1
      subst l'
      clear hi hlt
      have H := Lib.hid h
      clear h
      refine wpOp_shut rfl (fun K hK => ?_)
      try simp only [Act.put, List.setIfInBounds_toArray, List.set_cons_zero, List.set_cons_succ]
      go_simp
      refine hK.out _ _ ?_
      unfold Lx.I
      refine ⟨l0, l1, true, l3, l4, l5, l6, l7, l8, l9, l10, l11, l12, v0, v1, (.pointer (some ⟨(w.heap.size + 1 + 1), 1, none⟩)), v3, v4, v5, v6, v7, v8, v9, v10, v11, b11, rfl, ?_, ?_⟩
      · simp only [Act.put, List.setIfInBounds_toArray, List.set_cons_zero, List.set_cons_succ]
      · exact { H.out with ev2 := fun _ => rfl }
    | 3, hi, _ =>
      have l' : l3 = false := (ready_op (o := _) rfl hi).1
      subst l'
      have k2 : l2 = true := (ready_op (o := _) rfl hi).2 { on := 2, ground := .data } (by simp) rfl
      clear hi hlt
      subst k2
      obtain rfl := h.ev2 rfl
      have c := (h.g.at 0 rfl).c
      have H := Lib.hid h
      clear h
      refine wpOp_shut rfl (fun K hK => ?_)
      try simp only [Act.put, List.setIfInBounds_toArray, List.set_cons_zero, List.set_cons_succ]
      go_simp
      refine hK.out _ _ ?_
      unfold Lx.I
      refine ⟨l0, l1, true, true, l4, l5, l6, l7, l8, l9, l10, l11, l12, v0, v1, (.pointer (some ⟨(w.heap.size + 1 + 1), 1, none⟩)), (.agg #[.int .u32 k0, .int .u32 k1, .int .u32 k2, .int .u32 k3, .int .u32 k4, .int .u32 k5]), v4, v5, v6, v7, v8, v9, v10, v11, b11, rfl, ?_, ?_⟩
      · simp only [Act.put, List.setIfInBounds_toArray, List.set_cons_zero, List.set_cons_succ]
      · exact { H.out with ev3 := fun _ => rfl }
    | 4, hi, _ =>
      have l' : l4 = false := (ready_op (o := _) rfl hi).1
      subst l'
      have k1 : l1 = true := (ready_op (o := _) rfl hi).2 { on := 1, ground := .data } (by simp) rfl
      have k3 : l3 = true := (ready_op (o := _) rfl hi).2 { on := 3, ground := .data } (by simp) rfl
      clear hi hlt
      subst k1
      subst k3
      obtain rfl := h.ev1 rfl
      obtain rfl := h.ev3 rfl
      have H := Lib.hid h
      clear h
      refine wpOp_shut rfl (fun K hK => ?_)
      try simp only [Act.put, List.setIfInBounds_toArray, List.set_cons_zero, List.set_cons_succ]
      go_simp
      refine (partd_any a k0 k1 k2 k3 k4 k5 _ HA.out HU.out).mono ?_
      rintro e wY ⟨rfl, hb⟩
      try go_simp
      refine hK.out _ _ ?_
      unfold Lx.I
      refine ⟨l0, true, l2, true, true, l5, l6, l7, l8, l9, l10, l11, l12, v0, ((dv a)), v2, (.agg #[.int .u32 k0, .int .u32 k1, .int .u32 k2, .int .u32 k3, .int .u32 k4, .int .u32 k5]), ((dv (partD a k0 k1 k2 k3 k4 k5))), v5, v6, v7, v8, v9, v10, v11, b11, rfl, ?_, ?_⟩
      · simp only [Act.put, List.setIfInBounds_toArray, List.set_cons_zero, List.set_cons_succ]
      · exact { (H.out.kept hb) with ev4 := fun _ => rfl }
    | 5, hi, _ =>
      have l' : l5 = false := (ready_op (o := _) rfl hi).1
      subst l'
      clear hi hlt
      have H := Lib.hid h
      clear h
      refine wpOp_shut rfl (fun K hK => ?_)
      try simp only [Act.put, List.setIfInBounds_toArray, List.set_cons_zero, List.set_cons_succ]
      go_simp
      refine hK.out _ _ ?_
      unfold Lx.I
      refine ⟨l0, l1, l2, l3, l4, true, l6, l7, l8, l9, l10, l11, l12, v0, v1, v2, v3, v4, (.pointer (some ⟨(w.heap.size + 1), 6, none⟩)), v6, v7, v8, v9, v10, v11, b11, rfl, ?_, ?_⟩
      · simp only [Act.put, List.setIfInBounds_toArray, List.set_cons_zero, List.set_cons_succ]
      · exact { H.out with ev5 := fun _ => rfl }
    | 6, hi, _ =>
      have l' : l6 = false := (ready_op (o := _) rfl hi).1
      subst l'
      have k5 : l5 = true := (ready_op (o := _) rfl hi).2 { on := 5, ground := .data } (by simp) rfl
      clear hi hlt
      subst k5
      obtain rfl := h.ev5 rfl
      have c := (h.g.at 1 rfl).c
      have H := Lib.hid h
      clear h
      refine wpOp_shut rfl (fun K hK => ?_)
      try simp only [Act.put, List.setIfInBounds_toArray, List.set_cons_zero, List.set_cons_succ]
      go_simp
      refine hK.out _ _ ?_
      unfold Lx.I
      refine ⟨l0, l1, l2, l3, l4, true, true, l7, l8, l9, l10, l11, l12, v0, v1, v2, v3, v4, (.pointer (some ⟨(w.heap.size + 1), 6, none⟩)), ((dv v)), v7, v8, v9, v10, v11, b11, rfl, ?_, ?_⟩
      · simp only [Act.put, List.setIfInBounds_toArray, List.set_cons_zero, List.set_cons_succ]
      · exact { H.out with ev6 := fun _ => rfl }
    | 7, hi, _ =>
      have l' : l7 = false := (ready_op (o := _) rfl hi).1
      subst l'
      clear hi hlt
      have H := Lib.hid h
      clear h
      refine wpOp_shut rfl (fun K hK => ?_)
      try simp only [Act.put, List.setIfInBounds_toArray, List.set_cons_zero, List.set_cons_succ]
      go_simp
      refine hK.out _ _ ?_
      unfold Lx.I
      refine ⟨l0, l1, l2, l3, l4, l5, l6, true, l8, l9, l10, l11, l12, v0, v1, v2, v3, v4, v5, v6, (.pointer (some ⟨(w.heap.size + 1 + 1), 7, none⟩)), v8, v9, v10, v11, b11, rfl, ?_, ?_⟩
      · simp only [Act.put, List.setIfInBounds_toArray, List.set_cons_zero, List.set_cons_succ]
      · exact { H.out with ev7 := fun _ => rfl }
    | 8, hi, _ =>
      have l' : l8 = false := (ready_op (o := _) rfl hi).1
      subst l'
      have k7 : l7 = true := (ready_op (o := _) rfl hi).2 { on := 7, ground := .data } (by simp) rfl
      clear hi hlt
      subst k7
      obtain rfl := h.ev7 rfl
      have c := (h.g.at 0 rfl).c
      have H := Lib.hid h
      clear h
      refine wpOp_shut rfl (fun K hK => ?_)
      try simp only [Act.put, List.setIfInBounds_toArray, List.set_cons_zero, List.set_cons_succ]
      go_simp
      refine hK.out _ _ ?_
      unfold Lx.I
      refine ⟨l0, l1, l2, l3, l4, l5, l6, true, true, l9, l10, l11, l12, v0, v1, v2, v3, v4, v5, v6, (.pointer (some ⟨(w.heap.size + 1 + 1), 7, none⟩)), (.agg #[.int .u32 m0, .int .u32 m1, .int .u32 m2, .int .u32 m3, .int .u32 m4, .int .u32 m5]), v9, v10, v11, b11, rfl, ?_, ?_⟩
      · simp only [Act.put, List.setIfInBounds_toArray, List.set_cons_zero, List.set_cons_succ]
      · exact { H.out with ev8 := fun _ => rfl }
    | 9, hi, _ =>
      have l' : l9 = false := (ready_op (o := _) rfl hi).1
      subst l'
      have k6 : l6 = true := (ready_op (o := _) rfl hi).2 { on := 6, ground := .data } (by simp) rfl
      have k8 : l8 = true := (ready_op (o := _) rfl hi).2 { on := 8, ground := .data } (by simp) rfl
      have k4 : l4 = true := (ready_op (o := _) rfl hi).2 { on := 4, ground := .chain } (by simp) rfl
      clear hi hlt
      subst k6
      subst k8
      subst k4
      obtain rfl := h.ev6 rfl
      obtain rfl := h.ev8 rfl
      obtain rfl := h.ev4 rfl
      have H := Lib.hid h
      clear h
      refine wpOp_shut rfl (fun K hK => ?_)
      try simp only [Act.put, List.setIfInBounds_toArray, List.set_cons_zero, List.set_cons_succ]
      go_simp
      refine (partd_any v m0 m1 m2 m3 m4 m5 _ HV.out HU2.out).mono ?_
      rintro e wY ⟨rfl, hb⟩
      try go_simp
      refine hK.out _ _ ?_
      unfold Lx.I
      refine ⟨l0, l1, l2, l3, true, l5, true, l7, true, true, l10, l11, l12, v0, v1, v2, v3, ((dv (partD a k0 k1 k2 k3 k4 k5))), v5, ((dv v)), v7, (.agg #[.int .u32 m0, .int .u32 m1, .int .u32 m2, .int .u32 m3, .int .u32 m4, .int .u32 m5]), ((dv (partD v m0 m1 m2 m3 m4 m5))), v10, v11, b11, rfl, ?_, ?_⟩
      · simp only [Act.put, List.setIfInBounds_toArray, List.set_cons_zero, List.set_cons_succ]
      · exact { (H.out.kept hb) with ev9 := fun _ => rfl }
    | 10, hi, _ =>
      have l' : l10 = false := (ready_op (o := _) rfl hi).1
      subst l'
      have k4 : l4 = true := (ready_op (o := _) rfl hi).2 { on := 4, ground := .data } (by simp) rfl
      have k9 : l9 = true := (ready_op (o := _) rfl hi).2 { on := 9, ground := .data } (by simp) rfl
      clear hi hlt
      subst k4
      subst k9
      obtain rfl := h.ev4 rfl
      obtain rfl := h.ev9 rfl
      have H := Lib.hid h
      clear h
      refine wpOp_shut rfl (fun K hK => ?_)
      try simp only [Act.put, List.setIfInBounds_toArray, List.set_cons_zero, List.set_cons_succ]
      go_simp
      refine hK.out _ _ ?_
      unfold Lx.I
      refine ⟨l0, l1, l2, l3, true, l5, l6, l7, l8, true, true, l11, l12, v0, v1, v2, v3, ((dv (partD a k0 k1 k2 k3 k4 k5))), v5, v6, v7, v8, ((dv (partD v m0 m1 m2 m3 m4 m5))), (.agg #[.int .i64 (partD a k0 k1 k2 k3 k4 k5).a, .int .i64 (partD a k0 k1 k2 k3 k4 k5).b, .int .i64 (partD a k0 k1 k2 k3 k4 k5).c, .int .i64 (partD a k0 k1 k2 k3 k4 k5).d, .int .i64 (partD a k0 k1 k2 k3 k4 k5).e, .int .i64 (partD a k0 k1 k2 k3 k4 k5).f, .int .i64 (partD v m0 m1 m2 m3 m4 m5).a, .int .i64 (partD v m0 m1 m2 m3 m4 m5).b, .int .i64 (partD v m0 m1 m2 m3 m4 m5).c, .int .i64 (partD v m0 m1 m2 m3 m4 m5).d, .int .i64 (partD v m0 m1 m2 m3 m4 m5).e, .int .i64 (partD v m0 m1 m2 m3 m4 m5).f]), v11, b11, rfl, ?_, ?_⟩
      · simp only [Act.put, List.setIfInBounds_toArray, List.set_cons_zero, List.set_cons_succ]
      · exact { H.out with ev10 := fun _ => rfl }
    | 11, hi, _ =>
      have l' : l11 = false := (ready_op (o := _) rfl hi).1
      subst l'
      clear hi hlt
      have H := Lib.hid h
      clear h
      refine wpOp_shut rfl (fun K hK => ?_)
      try simp only [Act.put, List.setIfInBounds_toArray, List.set_cons_zero, List.set_cons_succ]
      go_simp
      refine hK.out _ _ ?_
      unfold Lx.I
      refine ⟨l0, l1, l2, l3, l4, l5, l6, l7, l8, l9, l10, true, l12, v0, v1, v2, v3, v4, v5, v6, v7, v8, v9, v10, (.pointer (some ⟨w'.heap.size, 0, none⟩)), w'.heap.size, rfl, ?_, ?_⟩
      · simp only [Act.put, List.setIfInBounds_toArray, List.set_cons_zero, List.set_cons_succ]
      · have h := H.out
        have h2 := h.kept ((Below.refl _ _).alloc (Nat.le_refl _) (.cells (List.toArray [.int .i64 0, .int .i64 0, .int .i64 0, .int .i64 0, .int .i64 0, .int .i64 0, .int .i64 0, .int .i64 0, .int .i64 0, .int .i64 0, .int .i64 0, .int .i64 0]) 41))
        exact { h2 with ev11 := fun _ => rfl, g11 := fun _ => h.sz, t11 := fun _ => by simp, o11 := fun p => rfl, z11 := fun _ _ => Bx.new rfl, s11 := fun p => (nomatch (h.o11 p)) }
    | 12, hi, _ =>
      have l' : l12 = false := (ready_op (o := _) rfl hi).1
      subst l'
      have k11 : l11 = true := (ready_op (o := _) rfl hi).2 { on := 11, ground := .phase } (by simp) rfl
      have k10 : l10 = true := (ready_op (o := _) rfl hi).2 { on := 10, ground := .phase } (by simp) rfl
      have k9 : l9 = true := (ready_op (o := _) rfl hi).2 { on := 9, ground := .phase } (by simp) rfl
      have k0 : l0 = true := (ready_op (o := _) rfl hi).2 { on := 0, ground := .phase } (by simp) rfl
      have k1 : l1 = true := (ready_op (o := _) rfl hi).2 { on := 1, ground := .phase } (by simp) rfl
      have k2 : l2 = true := (ready_op (o := _) rfl hi).2 { on := 2, ground := .phase } (by simp) rfl
      have k3 : l3 = true := (ready_op (o := _) rfl hi).2 { on := 3, ground := .phase } (by simp) rfl
      have k4 : l4 = true := (ready_op (o := _) rfl hi).2 { on := 4, ground := .phase } (by simp) rfl
      have k5 : l5 = true := (ready_op (o := _) rfl hi).2 { on := 5, ground := .phase } (by simp) rfl
      have k6 : l6 = true := (ready_op (o := _) rfl hi).2 { on := 6, ground := .phase } (by simp) rfl
      have k7 : l7 = true := (ready_op (o := _) rfl hi).2 { on := 7, ground := .phase } (by simp) rfl
      have k8 : l8 = true := (ready_op (o := _) rfl hi).2 { on := 8, ground := .phase } (by simp) rfl
      clear hi hlt
      subst k11
      subst k10
      subst k9
      subst k0
      subst k1
      subst k2
      subst k3
      subst k4
      subst k5
      subst k6
      subst k7
      subst k8
      obtain rfl := h.ev11 rfl
      obtain rfl := h.ev10 rfl
      obtain rfl := h.ev9 rfl
      obtain rfl := h.ev0 rfl
      obtain rfl := h.ev1 rfl
      obtain rfl := h.ev2 rfl
      obtain rfl := h.ev3 rfl
      obtain rfl := h.ev4 rfl
      obtain rfl := h.ev5 rfl
      obtain rfl := h.ev6 rfl
      obtain rfl := h.ev7 rfl
      obtain rfl := h.ev8 rfl
      have bz := h.z11 rfl rfl
      have c := bz.c
      have f := bz.f
      clear bz
      have H := Lib.hid h
      clear h
      refine wpOp_shut rfl (fun K hK => ?_)
      try simp only [Act.put, List.setIfInBounds_toArray, List.set_cons_zero, List.set_cons_succ]
      go_simp
      refine hK.out _ _ ?_
      unfold Lx.I
      refine ⟨true, true, true, true, true, true, true, true, true, true, true, true, true, (.pointer (some ⟨(w.heap.size + 1), 0, none⟩)), ((dv a)), (.pointer (some ⟨(w.heap.size + 1 + 1), 1, none⟩)), (.agg #[.int .u32 k0, .int .u32 k1, .int .u32 k2, .int .u32 k3, .int .u32 k4, .int .u32 k5]), ((dv (partD a k0 k1 k2 k3 k4 k5))), (.pointer (some ⟨(w.heap.size + 1), 6, none⟩)), ((dv v)), (.pointer (some ⟨(w.heap.size + 1 + 1), 7, none⟩)), (.agg #[.int .u32 m0, .int .u32 m1, .int .u32 m2, .int .u32 m3, .int .u32 m4, .int .u32 m5]), ((dv (partD v m0 m1 m2 m3 m4 m5))), (.agg #[.int .i64 (partD a k0 k1 k2 k3 k4 k5).a, .int .i64 (partD a k0 k1 k2 k3 k4 k5).b, .int .i64 (partD a k0 k1 k2 k3 k4 k5).c, .int .i64 (partD a k0 k1 k2 k3 k4 k5).d, .int .i64 (partD a k0 k1 k2 k3 k4 k5).e, .int .i64 (partD a k0 k1 k2 k3 k4 k5).f, .int .i64 (partD v m0 m1 m2 m3 m4 m5).a, .int .i64 (partD v m0 m1 m2 m3 m4 m5).b, .int .i64 (partD v m0 m1 m2 m3 m4 m5).c, .int .i64 (partD v m0 m1 m2 m3 m4 m5).d, .int .i64 (partD v m0 m1 m2 m3 m4 m5).e, .int .i64 (partD v m0 m1 m2 m3 m4 m5).f]), (.pointer (some ⟨b11, 0, none⟩)), b11, rfl, ?_, ?_⟩
      · simp only [Act.put, List.setIfInBounds_toArray, List.set_cons_zero, List.set_cons_succ]
      · have h := H.out
        have gb := h.g11 rfl
        have gm := Nat.le_trans h.mn gb
        exact { h with g := ((((((((((((h.g.put gm).put gm).put gm).put gm).put gm).put gm).put gm).put gm).put gm).put gm).put gm).put gm), sz := by simpa using h.sz, o11 := fun _ => rfl, z11 := fun _ p => (nomatch p), s11 := fun _ => (((((((((((((h.z11 rfl rfl).put).put).put).put).put).put).put).put).put).put).put).put), t11 := fun p => by simpa using h.t11 p }
    | i + 13, _, hlt => exact absurd hlt (by simp)
  · intro L a' w' hI hn
    obtain ⟨l0, l1, l2, l3, l4, l5, l6, l7, l8, l9, l10, l11, l12, v0, v1, v2, v3, v4, v5, v6, v7, v8, v9, v10, v11, b11, rfl, rfl, h⟩ := hI
    have k0 : l0 = true := not_ready (i := 0) (o := _) rfl hn (by simp [Region.binds])
    subst k0
    have k1 : l1 = true := not_ready (i := 1) (o := _) rfl hn (by simp [Region.binds])
    subst k1
    have k2 : l2 = true := not_ready (i := 2) (o := _) rfl hn (by simp [Region.binds])
    subst k2
    have k3 : l3 = true := not_ready (i := 3) (o := _) rfl hn (by simp [Region.binds])
    subst k3
    have k4 : l4 = true := not_ready (i := 4) (o := _) rfl hn (by simp [Region.binds])
    subst k4
    have k5 : l5 = true := not_ready (i := 5) (o := _) rfl hn (by simp [Region.binds])
    subst k5
    have k6 : l6 = true := not_ready (i := 6) (o := _) rfl hn (by simp [Region.binds])
    subst k6
    have k7 : l7 = true := not_ready (i := 7) (o := _) rfl hn (by simp [Region.binds])
    subst k7
    have k8 : l8 = true := not_ready (i := 8) (o := _) rfl hn (by simp [Region.binds])
    subst k8
    have k9 : l9 = true := not_ready (i := 9) (o := _) rfl hn (by simp [Region.binds])
    subst k9
    have k10 : l10 = true := not_ready (i := 10) (o := _) rfl hn (by simp [Region.binds])
    subst k10
    have k11 : l11 = true := not_ready (i := 11) (o := _) rfl hn (by simp [Region.binds])
    subst k11
    have k12 : l12 = true := not_ready (i := 12) (o := _) rfl hn (by simp [Region.binds])
    subst k12
    clear hn
    obtain rfl := h.ev0 rfl
    obtain rfl := h.ev1 rfl
    obtain rfl := h.ev2 rfl
    obtain rfl := h.ev3 rfl
    obtain rfl := h.ev4 rfl
    obtain rfl := h.ev5 rfl
    obtain rfl := h.ev6 rfl
    obtain rfl := h.ev7 rfl
    obtain rfl := h.ev8 rfl
    obtain rfl := h.ev9 rfl
    obtain rfl := h.ev10 rfl
    obtain rfl := h.ev11 rfl
    simp only [Act.put, List.setIfInBounds_toArray, List.set_cons_zero, List.set_cons_succ]
    rename World => w6
    have H6 := H5.call h.g.below
    have B11 := h.s11 rfl
    clear h HS
    have B6 := H6.below
    obtain ⟨s, hs⟩ : ∃ s, partD a k0 k1 k2 k3 k4 k5 = s := ⟨_, rfl⟩
    obtain ⟨t, ht⟩ : ∃ t, partD v m0 m1 m2 m3 m4 m5 = t := ⟨_, rfl⟩
    have SA : SubD s a := by rw [← hs]; exact partD_sub _ _ _ _ _ _ HA.out
    have SV : SubD t v := by rw [← ht]; exact partD_sub _ _ _ _ _ _ HV.out
    rw [hs, ht] at B11
    rw [hs, ht]
    clear hs ht
    have hinc := incl_plain (L := L) (M := M) (i0 := i0) (i1 := i1) (gl := 16777216) (gh := 16777216) (most := most) SA SV
    obtain ⟨P, hP⟩ : ∃ P, followV L M i0 i1 s t 16777216 16777216 most = P := ⟨_, rfl⟩
    obtain ⟨Q, hQ⟩ : ∃ Q, followV L M i0 i1 a v 16777216 16777216 most = Q := ⟨_, rfl⟩
    have hpl := @follow_len L M i0 i1 16777216 16777216 most s t
    have hql := @follow_len L M i0 i1 16777216 16777216 most a v
    rw [hP, hQ] at hinc
    rw [hP] at hpl
    rw [hQ] at hql
    have HP := Lib.hid hP
    have HQ := Lib.hid hQ
    have HI := Lib.hid hinc
    have HPL := Lib.hid hpl
    have HQL := Lib.hid hql
    clear hP hQ hinc hpl hql SA SV
    go_wp2_with fail
    go_upto_region 6 with fail
    have HS : Ho w6 (World.drew w6) w6.heap.size [(w.heap.size + 1 + 1, [.int .i64 most, .int .u32 k0, .int .u32 k1, .int .u32 k2, .int .u32 k3, .int .u32 k4, .int .u32 k5, .int .u32 m0, .int .u32 m1, .int .u32 m2, .int .u32 m3, .int .u32 m4, .int .u32 m5]), (b11, [.int .i64 s.a, .int .i64 s.b, .int .i64 s.c, .int .i64 s.d, .int .i64 s.e, .int .i64 s.f, .int .i64 t.a, .int .i64 t.b, .int .i64 t.c, .int .i64 t.d, .int .i64 t.e, .int .i64 t.f]), (w.heap.size, [.slice na L.length nc, .slice da M.length dc, .int .i64 i0, .int .i64 i1])] := ⟨(Below.refl _ _).drew, Nat.le_refl _, Nat.le_refl _, fun p hp => by
      simp only [List.mem_cons, List.not_mem_nil, or_false] at hp
      rcases hp with rfl | rfl | rfl
      · exact ⟨(H6.at 0 rfl).lt, (H6.at 0 rfl).drew⟩
      · exact ⟨B11.lt, B11.rd.drew⟩
      · exact ⟨(H6.at 2 rfl).lt, (H6.at 2 rfl).drew⟩⟩
    refine region_sets (Ly.I w.heap.size b11 (w.heap.size + 1 + 1) w6.heap.size na da nc dc L M i0 i1 most s t P [.int .u32 k0, .int .u32 k1, .int .u32 k2, .int .u32 k3, .int .u32 k4, .int .u32 k5, .int .u32 m0, .int .u32 m1, .int .u32 m2, .int .u32 m3, .int .u32 m4, .int .u32 m5] w6) (by kernel_rfl) ?_ ?_ ?_
    · refine ⟨false, false, false, false, false, false, false, false, false, false, false, false, undef, undef, undef, undef, undef, undef, undef, undef, undef, undef, undef, 0, undef, rfl, by simp only [Act.put, List.setIfInBounds_toArray, List.set_cons_zero, List.set_cons_succ], ?_⟩
      constructor
      · exact HS
      · (first | (simp; done) | (simp; omega))
      all_goals (intro h; cases h)
    · intro L9 aa ww hI i hi
      obtain ⟨l0, l1, l2, l3, l4, l5, l6, l7, l8, l9, l10, l11, v0, v1, v2, v3, v4, v5, v6, v7, v8, v9, v11, b9, u5, rfl, rfl, h⟩ := hI
      have hlt := ready_lt hi
      match i, hi, hlt with
      | 0, hi, _ =>
        have l' : l0 = false := (ready_op (o := _) rfl hi).1
        subst l'
        clear hi hlt
        have c := (h.g.at 2 rfl).c
        have H := Lib.hid h
        clear h
        refine wpOp_shut rfl (fun K hK => ?_)
        try simp only [Act.put, List.setIfInBounds_toArray, List.set_cons_zero, List.set_cons_succ]
        go_simp
        refine hK.out _ _ ?_
        unfold Ly.I
        refine ⟨true, l1, l2, l3, l4, l5, l6, l7, l8, l9, l10, l11, (.agg #[.slice na L.length nc, .slice da M.length dc, .int .i64 i0, .int .i64 i1]), v1, v2, v3, v4, v5, v6, v7, v8, v9, v11, b9, u5, rfl, ?_, ?_⟩
        · simp only [Act.put, List.setIfInBounds_toArray, List.set_cons_zero, List.set_cons_succ]
        · exact { H.out with ev0 := fun _ => rfl }
      | 1, hi, _ =>
        have l' : l1 = false := (ready_op (o := _) rfl hi).1
        subst l'
        clear hi hlt
        have c := (h.g.at 1 rfl).c
        have H := Lib.hid h
        clear h
        refine wpOp_shut rfl (fun K hK => ?_)
        try simp only [Act.put, List.setIfInBounds_toArray, List.set_cons_zero, List.set_cons_succ]
        go_simp
        refine hK.out _ _ ?_
        unfold Ly.I
        refine ⟨l0, true, l2, l3, l4, l5, l6, l7, l8, l9, l10, l11, v0, (.agg #[.int .i64 s.a, .int .i64 s.b, .int .i64 s.c, .int .i64 s.d, .int .i64 s.e, .int .i64 s.f, .int .i64 t.a, .int .i64 t.b, .int .i64 t.c, .int .i64 t.d, .int .i64 t.e, .int .i64 t.f]), v2, v3, v4, v5, v6, v7, v8, v9, v11, b9, u5, rfl, ?_, ?_⟩
        · simp only [Act.put, List.setIfInBounds_toArray, List.set_cons_zero, List.set_cons_succ]
        · exact { H.out with ev1 := fun _ => rfl }
      | 2, hi, _ =>
        have l' : l2 = false := (ready_op (o := _) rfl hi).1
        subst l'
        clear hi hlt
        have H := Lib.hid h
        clear h
        refine wpOp_shut rfl (fun K hK => ?_)
        try simp only [Act.put, List.setIfInBounds_toArray, List.set_cons_zero, List.set_cons_succ]
        go_simp
        refine (one_any _).mono ?_
        rintro e wY ⟨rfl, hb⟩
        try go_simp
        refine hK.out _ _ ?_
        unfold Ly.I
        refine ⟨l0, l1, true, l3, l4, l5, l6, l7, l8, l9, l10, l11, v0, v1, ((iv 16777216 16777216)), v3, v4, v5, v6, v7, v8, v9, v11, b9, u5, rfl, ?_, ?_⟩
        · simp only [Act.put, List.setIfInBounds_toArray, List.set_cons_zero, List.set_cons_succ]
        · exact { (H.out.kept hb) with ev2 := fun _ => rfl }
      | 3, hi, _ =>
        have l' : l3 = false := (ready_op (o := _) rfl hi).1
        subst l'
        clear hi hlt
        have H := Lib.hid h
        clear h
        refine wpOp_shut rfl (fun K hK => ?_)
        try simp only [Act.put, List.setIfInBounds_toArray, List.set_cons_zero, List.set_cons_succ]
        go_simp
        refine hK.out _ _ ?_
        unfold Ly.I
        refine ⟨l0, l1, l2, true, l4, l5, l6, l7, l8, l9, l10, l11, v0, v1, v2, (.pointer (some ⟨(w.heap.size + 1 + 1), 0, none⟩)), v4, v5, v6, v7, v8, v9, v11, b9, u5, rfl, ?_, ?_⟩
        · simp only [Act.put, List.setIfInBounds_toArray, List.set_cons_zero, List.set_cons_succ]
        · exact { H.out with ev3 := fun _ => rfl }
      | 4, hi, _ =>
        have l' : l4 = false := (ready_op (o := _) rfl hi).1
        subst l'
        have k3 : l3 = true := (ready_op (o := _) rfl hi).2 { on := 3, ground := .data } (by simp) rfl
        clear hi hlt
        subst k3
        obtain rfl := h.ev3 rfl
        have c := (h.g.at 0 rfl).c
        have H := Lib.hid h
        clear h
        refine wpOp_shut rfl (fun K hK => ?_)
        try simp only [Act.put, List.setIfInBounds_toArray, List.set_cons_zero, List.set_cons_succ]
        go_simp
        refine hK.out _ _ ?_
        unfold Ly.I
        refine ⟨l0, l1, l2, true, true, l5, l6, l7, l8, l9, l10, l11, v0, v1, v2, (.pointer (some ⟨(w.heap.size + 1 + 1), 0, none⟩)), (.int .i64 most), v5, v6, v7, v8, v9, v11, b9, u5, rfl, ?_, ?_⟩
        · simp only [Act.put, List.setIfInBounds_toArray, List.set_cons_zero, List.set_cons_succ]
        · exact { H.out with ev4 := fun _ => rfl }
      | 5, hi, _ =>
        have l' : l5 = false := (ready_op (o := _) rfl hi).1
        subst l'
        have k0 : l0 = true := (ready_op (o := _) rfl hi).2 { on := 0, ground := .data } (by simp) rfl
        have k1 : l1 = true := (ready_op (o := _) rfl hi).2 { on := 1, ground := .data } (by simp) rfl
        have k2 : l2 = true := (ready_op (o := _) rfl hi).2 { on := 2, ground := .chain } (by simp) rfl
        have k4 : l4 = true := (ready_op (o := _) rfl hi).2 { on := 4, ground := .data } (by simp) rfl
        clear hi hlt
        subst k0
        subst k1
        subst k2
        subst k4
        obtain rfl := h.ev0 rfl
        obtain rfl := h.ev1 rfl
        obtain rfl := h.ev2 rfl
        obtain rfl := h.ev4 rfl
        have hbl := h.g.below
        have hsz := h.sz
        have H := Lib.hid h
        clear h
        refine wpOp_shut rfl (fun K hK => ?_)
        try simp only [Act.put, List.setIfInBounds_toArray, List.set_cons_zero, List.set_cons_succ]
        go_simp
        refine (follow_any (L := L) (M := M) (a := s) (v := t) _ (HN.out.kept (B6.trans (hbl.mono B6.size))) (HM.out.kept (B6.trans (hbl.mono B6.size)))).mono ?_
        rintro e wY ⟨⟨uu, rfl, hrow⟩, hb⟩
        rw [HP.out] at hrow ⊢
        dsimp only [lcells]
        try go_simp
        refine hK.out _ _ ?_
        unfold Ly.I
        refine ⟨true, true, true, l3, true, true, l6, l7, l8, l9, l10, l11, (.agg #[.slice na L.length nc, .slice da M.length dc, .int .i64 i0, .int .i64 i1]), (.agg #[.int .i64 s.a, .int .i64 s.b, .int .i64 s.c, .int .i64 s.d, .int .i64 s.e, .int .i64 s.f, .int .i64 t.a, .int .i64 t.b, .int .i64 t.c, .int .i64 t.d, .int .i64 t.e, .int .i64 t.f]), ((iv 16777216 16777216)), v3, (.int .i64 most), (.tuple #[.agg #[.int .i64 P.lv.k, uu, .int .i64 P.lv.o.a, .int .i64 P.lv.o.b, .int .i64 P.lv.o.c, .int .i64 P.lv.o.d, .int .i64 P.lv.o.e, .int .i64 P.lv.o.f, .int .i64 P.lv.lo, .int .i64 P.lv.hi], .int .i64 P.e]), v6, v7, v8, v9, v11, b9, uu, rfl, ?_, ?_⟩
        · simp only [Act.put, List.setIfInBounds_toArray, List.set_cons_zero, List.set_cons_succ]
        · have h := H.out.kept hb
          exact { h with ev5 := fun _ => rfl, fr := fun _ => row_down hrow hsz, fd := fun _ p => fun e => absurd (row_ge hrow e.symm) (by have := H.out.t9 p; omega), o5 := fun _ => rfl, o65 := fun _ => rfl, ev6 := fun p => (nomatch (H.out.o65 p)), ev7 := fun p => (nomatch (H.out.o65 (H.out.o76 p))), s9 := fun p => (nomatch (H.out.o5 p)) }
      | 6, hi, _ =>
        have l' : l6 = false := (ready_op (o := _) rfl hi).1
        subst l'
        have k5 : l5 = true := (ready_op (o := _) rfl hi).2 { on := 5, ground := .data } (by simp) rfl
        clear hi hlt
        subst k5
        obtain rfl := h.ev5 rfl
        have H := Lib.hid h
        clear h
        refine wpOp_shut rfl (fun K hK => ?_)
        try simp only [Act.put, List.setIfInBounds_toArray, List.set_cons_zero, List.set_cons_succ]
        go_simp
        refine hK.out _ _ ?_
        unfold Ly.I
        refine ⟨l0, l1, l2, l3, l4, true, true, l7, l8, l9, l10, l11, v0, v1, v2, v3, v4, (.tuple #[.agg #[.int .i64 P.lv.k, u5, .int .i64 P.lv.o.a, .int .i64 P.lv.o.b, .int .i64 P.lv.o.c, .int .i64 P.lv.o.d, .int .i64 P.lv.o.e, .int .i64 P.lv.o.f, .int .i64 P.lv.lo, .int .i64 P.lv.hi], .int .i64 P.e]), (.tuple #[.agg #[.int .i64 P.lv.k, u5, .int .i64 P.lv.o.a, .int .i64 P.lv.o.b, .int .i64 P.lv.o.c, .int .i64 P.lv.o.d, .int .i64 P.lv.o.e, .int .i64 P.lv.o.f, .int .i64 P.lv.lo, .int .i64 P.lv.hi], .int .i64 P.e]), v7, v8, v9, v11, b9, u5, rfl, ?_, ?_⟩
        · simp only [Act.put, List.setIfInBounds_toArray, List.set_cons_zero, List.set_cons_succ]
        · exact { H.out with ev6 := fun _ => rfl, o65 := fun _ => rfl, o76 := fun _ => rfl }
      | 7, hi, _ =>
        have l' : l7 = false := (ready_op (o := _) rfl hi).1
        subst l'
        have k6 : l6 = true := (ready_op (o := _) rfl hi).2 { on := 6, ground := .data } (by simp) rfl
        clear hi hlt
        subst k6
        obtain rfl := h.ev6 rfl
        have H := Lib.hid h
        clear h
        refine wpOp_shut rfl (fun K hK => ?_)
        try simp only [Act.put, List.setIfInBounds_toArray, List.set_cons_zero, List.set_cons_succ]
        go_simp
        refine hK.out _ _ ?_
        unfold Ly.I
        refine ⟨l0, l1, l2, l3, l4, l5, true, true, l8, l9, l10, l11, v0, v1, v2, v3, v4, v5, (.tuple #[.agg #[.int .i64 P.lv.k, u5, .int .i64 P.lv.o.a, .int .i64 P.lv.o.b, .int .i64 P.lv.o.c, .int .i64 P.lv.o.d, .int .i64 P.lv.o.e, .int .i64 P.lv.o.f, .int .i64 P.lv.lo, .int .i64 P.lv.hi], .int .i64 P.e]), (.agg #[.int .i64 P.lv.k, u5, .int .i64 P.lv.o.a, .int .i64 P.lv.o.b, .int .i64 P.lv.o.c, .int .i64 P.lv.o.d, .int .i64 P.lv.o.e, .int .i64 P.lv.o.f, .int .i64 P.lv.lo, .int .i64 P.lv.hi]), v8, v9, v11, b9, u5, rfl, ?_, ?_⟩
        · simp only [Act.put, List.setIfInBounds_toArray, List.set_cons_zero, List.set_cons_succ]
        · exact { H.out with ev7 := fun _ => rfl, o76 := fun _ => rfl }
      | 8, hi, _ =>
        have l' : l8 = false := (ready_op (o := _) rfl hi).1
        subst l'
        have k6 : l6 = true := (ready_op (o := _) rfl hi).2 { on := 6, ground := .data } (by simp) rfl
        clear hi hlt
        subst k6
        obtain rfl := h.ev6 rfl
        have H := Lib.hid h
        clear h
        refine wpOp_shut rfl (fun K hK => ?_)
        try simp only [Act.put, List.setIfInBounds_toArray, List.set_cons_zero, List.set_cons_succ]
        go_simp
        refine hK.out _ _ ?_
        unfold Ly.I
        refine ⟨l0, l1, l2, l3, l4, l5, true, l7, true, l9, l10, l11, v0, v1, v2, v3, v4, v5, (.tuple #[.agg #[.int .i64 P.lv.k, u5, .int .i64 P.lv.o.a, .int .i64 P.lv.o.b, .int .i64 P.lv.o.c, .int .i64 P.lv.o.d, .int .i64 P.lv.o.e, .int .i64 P.lv.o.f, .int .i64 P.lv.lo, .int .i64 P.lv.hi], .int .i64 P.e]), v7, (.int .i64 P.e), v9, v11, b9, u5, rfl, ?_, ?_⟩
        · simp only [Act.put, List.setIfInBounds_toArray, List.set_cons_zero, List.set_cons_succ]
        · exact { H.out with ev8 := fun _ => rfl }
      | 9, hi, _ =>
        have l' : l9 = false := (ready_op (o := _) rfl hi).1
        subst l'
        clear hi hlt
        have H := Lib.hid h
        clear h
        refine wpOp_shut rfl (fun K hK => ?_)
        try simp only [Act.put, List.setIfInBounds_toArray, List.set_cons_zero, List.set_cons_succ]
        go_simp
        refine hK.out _ _ ?_
        unfold Ly.I
        refine ⟨l0, l1, l2, l3, l4, l5, l6, l7, l8, true, l10, l11, v0, v1, v2, v3, v4, v5, v6, v7, v8, (.pointer (some ⟨ww.heap.size, 0, none⟩)), v11, ww.heap.size, u5, rfl, ?_, ?_⟩
        · simp only [Act.put, List.setIfInBounds_toArray, List.set_cons_zero, List.set_cons_succ]
        · have h := H.out.kept ((Below.refl _ _).alloc (Nat.le_refl _) (.cells (List.toArray (lcells ⟨0, zD, 0, 0⟩ (.slice none 0 0))) 28))
          exact { h with ev9 := fun _ => rfl, g9 := fun _ => H.out.sz, t9 := fun _ => by simp, o9 := fun _ => rfl, z9 := fun _ _ => Bx.new rfl, s9 := fun p => (nomatch (H.out.o9 p)), fd := fun p _ => fun e => absurd (row_in (H.out.fr p) e.symm) (by omega) }
      | 10, hi, _ =>
        have l' : l10 = false := (ready_op (o := _) rfl hi).1
        subst l'
        have k9 : l9 = true := (ready_op (o := _) rfl hi).2 { on := 9, ground := .phase } (by simp) rfl
        have k7 : l7 = true := (ready_op (o := _) rfl hi).2 { on := 7, ground := .phase } (by simp) rfl
        have k5 : l5 = true := (ready_op (o := _) rfl hi).2 { on := 5, ground := .phase } (by simp) rfl
        have k0 : l0 = true := (ready_op (o := _) rfl hi).2 { on := 0, ground := .phase } (by simp) rfl
        have k1 : l1 = true := (ready_op (o := _) rfl hi).2 { on := 1, ground := .phase } (by simp) rfl
        have k2 : l2 = true := (ready_op (o := _) rfl hi).2 { on := 2, ground := .phase } (by simp) rfl
        have k3 : l3 = true := (ready_op (o := _) rfl hi).2 { on := 3, ground := .phase } (by simp) rfl
        have k4 : l4 = true := (ready_op (o := _) rfl hi).2 { on := 4, ground := .phase } (by simp) rfl
        have k6 : l6 = true := (ready_op (o := _) rfl hi).2 { on := 6, ground := .phase } (by simp) rfl
        clear hi hlt
        subst k9
        subst k7
        subst k5
        subst k0
        subst k1
        subst k2
        subst k3
        subst k4
        subst k6
        obtain rfl := h.ev9 rfl
        obtain rfl := h.ev7 rfl
        obtain rfl := h.ev5 rfl
        obtain rfl := h.ev0 rfl
        obtain rfl := h.ev1 rfl
        obtain rfl := h.ev2 rfl
        obtain rfl := h.ev3 rfl
        obtain rfl := h.ev4 rfl
        obtain rfl := h.ev6 rfl
        obtain ⟨ao5, cap5, rfl⟩ := row_form (h.fr rfl)
        have l10z := h.z9 rfl rfl
        have c := l10z.c
        have f := l10z.f
        clear l10z
        have H := Lib.hid h
        clear h
        refine wpOp_shut rfl (fun K hK => ?_)
        try simp only [Act.put, List.setIfInBounds_toArray, List.set_cons_zero, List.set_cons_succ]
        dsimp only [lcells, zD] at c
        go_simp
        refine hK.out _ _ ?_
        unfold Ly.I
        refine ⟨true, true, true, true, true, true, true, true, l8, true, true, l11, (.agg #[.slice na L.length nc, .slice da M.length dc, .int .i64 i0, .int .i64 i1]), (.agg #[.int .i64 s.a, .int .i64 s.b, .int .i64 s.c, .int .i64 s.d, .int .i64 s.e, .int .i64 s.f, .int .i64 t.a, .int .i64 t.b, .int .i64 t.c, .int .i64 t.d, .int .i64 t.e, .int .i64 t.f]), ((iv 16777216 16777216)), (.pointer (some ⟨(w.heap.size + 1 + 1), 0, none⟩)), (.int .i64 most), (.tuple #[.agg #[.int .i64 P.lv.k, (.slice ao5 P.fs.length cap5), .int .i64 P.lv.o.a, .int .i64 P.lv.o.b, .int .i64 P.lv.o.c, .int .i64 P.lv.o.d, .int .i64 P.lv.o.e, .int .i64 P.lv.o.f, .int .i64 P.lv.lo, .int .i64 P.lv.hi], .int .i64 P.e]), (.tuple #[.agg #[.int .i64 P.lv.k, (.slice ao5 P.fs.length cap5), .int .i64 P.lv.o.a, .int .i64 P.lv.o.b, .int .i64 P.lv.o.c, .int .i64 P.lv.o.d, .int .i64 P.lv.o.e, .int .i64 P.lv.o.f, .int .i64 P.lv.lo, .int .i64 P.lv.hi], .int .i64 P.e]), (.agg #[.int .i64 P.lv.k, (.slice ao5 P.fs.length cap5), .int .i64 P.lv.o.a, .int .i64 P.lv.o.b, .int .i64 P.lv.o.c, .int .i64 P.lv.o.d, .int .i64 P.lv.o.e, .int .i64 P.lv.o.f, .int .i64 P.lv.lo, .int .i64 P.lv.hi]), v8, (.pointer (some ⟨b9, 0, none⟩)), v11, b9, (.slice ao5 P.fs.length cap5), rfl, ?_, ?_⟩
        · simp only [Act.put, List.setIfInBounds_toArray, List.set_cons_zero, List.set_cons_succ]
        · exact { H.out with g := (Ho.put (d := b9) (i := 9) (u := .int .i64 P.lv.hi) (Ho.put (d := b9) (i := 8) (u := .int .i64 P.lv.lo) (Ho.put (d := b9) (i := 7) (u := .int .i64 P.lv.o.f) (Ho.put (d := b9) (i := 6) (u := .int .i64 P.lv.o.e) (Ho.put (d := b9) (i := 5) (u := .int .i64 P.lv.o.d) (Ho.put (d := b9) (i := 4) (u := .int .i64 P.lv.o.c) (Ho.put (d := b9) (i := 3) (u := .int .i64 P.lv.o.b) (Ho.put (d := b9) (i := 2) (u := .int .i64 P.lv.o.a) (Ho.put (d := b9) (i := 1) (u := (.slice ao5 P.fs.length cap5)) (Ho.put (d := b9) (i := 0) (u := .int .i64 P.lv.k) H.out.g (H.out.g9 rfl)) (H.out.g9 rfl)) (H.out.g9 rfl)) (H.out.g9 rfl)) (H.out.g9 rfl)) (H.out.g9 rfl)) (H.out.g9 rfl)) (H.out.g9 rfl)) (H.out.g9 rfl)) (H.out.g9 rfl)), sz := by simpa using H.out.sz, fr := fun _ => (row_setn (b := b9) (i := 9) (x := .int .i64 P.lv.hi) (row_setn (b := b9) (i := 8) (x := .int .i64 P.lv.lo) (row_setn (b := b9) (i := 7) (x := .int .i64 P.lv.o.f) (row_setn (b := b9) (i := 6) (x := .int .i64 P.lv.o.e) (row_setn (b := b9) (i := 5) (x := .int .i64 P.lv.o.d) (row_setn (b := b9) (i := 4) (x := .int .i64 P.lv.o.c) (row_setn (b := b9) (i := 3) (x := .int .i64 P.lv.o.b) (row_setn (b := b9) (i := 2) (x := .int .i64 P.lv.o.a) (row_setn (b := b9) (i := 1) (x := (.slice ao5 P.fs.length cap5)) (row_setn (b := b9) (i := 0) (x := .int .i64 P.lv.k) (H.out.fr rfl) (H.out.fd rfl rfl)) (H.out.fd rfl rfl)) (H.out.fd rfl rfl)) (H.out.fd rfl rfl)) (H.out.fd rfl rfl)) (H.out.fd rfl rfl)) (H.out.fd rfl rfl)) (H.out.fd rfl rfl)) (H.out.fd rfl rfl)) (H.out.fd rfl rfl)), t9 := fun p => by simpa using H.out.t9 p, o9 := fun _ => rfl, o5 := fun _ => rfl, z9 := fun _ p => (nomatch p), s9 := fun _ => (((((((((((H.out.z9 rfl rfl).put (i := 0) (u := .int .i64 P.lv.k)).put (i := 1) (u := (.slice ao5 P.fs.length cap5))).put (i := 2) (u := .int .i64 P.lv.o.a)).put (i := 3) (u := .int .i64 P.lv.o.b)).put (i := 4) (u := .int .i64 P.lv.o.c)).put (i := 5) (u := .int .i64 P.lv.o.d)).put (i := 6) (u := .int .i64 P.lv.o.e)).put (i := 7) (u := .int .i64 P.lv.o.f)).put (i := 8) (u := .int .i64 P.lv.lo)).put (i := 9) (u := .int .i64 P.lv.hi)) }
      | 11, hi, _ =>
        have l' : l11 = false := (ready_op (o := _) rfl hi).1
        subst l'
        have k8 : l8 = true := (ready_op (o := _) rfl hi).2 { on := 8, ground := .phase } (by simp) rfl
        have k10 : l10 = true := (ready_op (o := _) rfl hi).2 { on := 10, ground := .phase } (by simp) rfl
        have k0 : l0 = true := (ready_op (o := _) rfl hi).2 { on := 0, ground := .phase } (by simp) rfl
        have k1 : l1 = true := (ready_op (o := _) rfl hi).2 { on := 1, ground := .phase } (by simp) rfl
        have k2 : l2 = true := (ready_op (o := _) rfl hi).2 { on := 2, ground := .phase } (by simp) rfl
        have k3 : l3 = true := (ready_op (o := _) rfl hi).2 { on := 3, ground := .phase } (by simp) rfl
        have k4 : l4 = true := (ready_op (o := _) rfl hi).2 { on := 4, ground := .phase } (by simp) rfl
        have k5 : l5 = true := (ready_op (o := _) rfl hi).2 { on := 5, ground := .phase } (by simp) rfl
        have k6 : l6 = true := (ready_op (o := _) rfl hi).2 { on := 6, ground := .phase } (by simp) rfl
        have k7 : l7 = true := (ready_op (o := _) rfl hi).2 { on := 7, ground := .phase } (by simp) rfl
        have k9 : l9 = true := (ready_op (o := _) rfl hi).2 { on := 9, ground := .phase } (by simp) rfl
        clear hi hlt
        subst k8
        subst k10
        subst k0
        subst k1
        subst k2
        subst k3
        subst k4
        subst k5
        subst k6
        subst k7
        subst k9
        obtain rfl := h.ev8 rfl
        obtain rfl := h.ev0 rfl
        obtain rfl := h.ev1 rfl
        obtain rfl := h.ev2 rfl
        obtain rfl := h.ev3 rfl
        obtain rfl := h.ev4 rfl
        obtain rfl := h.ev5 rfl
        obtain rfl := h.ev6 rfl
        obtain rfl := h.ev7 rfl
        obtain rfl := h.ev9 rfl
        have H := Lib.hid h
        clear h
        refine wpOp_shut rfl (fun K hK => ?_)
        try simp only [Act.put, List.setIfInBounds_toArray, List.set_cons_zero, List.set_cons_succ]
        go_simp
        refine hK.out _ _ ?_
        unfold Ly.I
        refine ⟨true, true, true, true, true, true, true, true, true, true, true, true, (.agg #[.slice na L.length nc, .slice da M.length dc, .int .i64 i0, .int .i64 i1]), (.agg #[.int .i64 s.a, .int .i64 s.b, .int .i64 s.c, .int .i64 s.d, .int .i64 s.e, .int .i64 s.f, .int .i64 t.a, .int .i64 t.b, .int .i64 t.c, .int .i64 t.d, .int .i64 t.e, .int .i64 t.f]), ((iv 16777216 16777216)), (.pointer (some ⟨(w.heap.size + 1 + 1), 0, none⟩)), (.int .i64 most), (.tuple #[.agg #[.int .i64 P.lv.k, u5, .int .i64 P.lv.o.a, .int .i64 P.lv.o.b, .int .i64 P.lv.o.c, .int .i64 P.lv.o.d, .int .i64 P.lv.o.e, .int .i64 P.lv.o.f, .int .i64 P.lv.lo, .int .i64 P.lv.hi], .int .i64 P.e]), (.tuple #[.agg #[.int .i64 P.lv.k, u5, .int .i64 P.lv.o.a, .int .i64 P.lv.o.b, .int .i64 P.lv.o.c, .int .i64 P.lv.o.d, .int .i64 P.lv.o.e, .int .i64 P.lv.o.f, .int .i64 P.lv.lo, .int .i64 P.lv.hi], .int .i64 P.e]), (.agg #[.int .i64 P.lv.k, u5, .int .i64 P.lv.o.a, .int .i64 P.lv.o.b, .int .i64 P.lv.o.c, .int .i64 P.lv.o.d, .int .i64 P.lv.o.e, .int .i64 P.lv.o.f, .int .i64 P.lv.lo, .int .i64 P.lv.hi]), (.int .i64 P.e), (.pointer (some ⟨b9, 0, none⟩)), (.int .i64 P.e), b9, u5, rfl, ?_, ?_⟩
        · simp only [Act.put, List.setIfInBounds_toArray, List.set_cons_zero, List.set_cons_succ]
        · exact { H.out with ev11 := fun _ => rfl }
      | i + 12, _, hlt => exact absurd hlt (by simp)
    · intro L9 aa ww hI hn9
      obtain ⟨l0, l1, l2, l3, l4, l5, l6, l7, l8, l9, l10, l11, v0, v1, v2, v3, v4, v5, v6, v7, v8, v9, v11, pb9, pu5, rfl, rfl, h⟩ := hI
      have k0 : l0 = true := not_ready (i := 0) (o := _) rfl hn9 (by simp [Region.binds])
      subst k0
      have k1 : l1 = true := not_ready (i := 1) (o := _) rfl hn9 (by simp [Region.binds])
      subst k1
      have k2 : l2 = true := not_ready (i := 2) (o := _) rfl hn9 (by simp [Region.binds])
      subst k2
      have k3 : l3 = true := not_ready (i := 3) (o := _) rfl hn9 (by simp [Region.binds])
      subst k3
      have k4 : l4 = true := not_ready (i := 4) (o := _) rfl hn9 (by simp [Region.binds])
      subst k4
      have k5 : l5 = true := not_ready (i := 5) (o := _) rfl hn9 (by simp [Region.binds])
      subst k5
      have k6 : l6 = true := not_ready (i := 6) (o := _) rfl hn9 (by simp [Region.binds])
      subst k6
      have k7 : l7 = true := not_ready (i := 7) (o := _) rfl hn9 (by simp [Region.binds])
      subst k7
      have k8 : l8 = true := not_ready (i := 8) (o := _) rfl hn9 (by simp [Region.binds])
      subst k8
      have k9 : l9 = true := not_ready (i := 9) (o := _) rfl hn9 (by simp [Region.binds])
      subst k9
      have k10 : l10 = true := not_ready (i := 10) (o := _) rfl hn9 (by simp [Region.binds])
      subst k10
      have k11 : l11 = true := not_ready (i := 11) (o := _) rfl hn9 (by simp [Region.binds])
      subst k11
      clear hn9
      obtain rfl := h.ev0 rfl
      obtain rfl := h.ev1 rfl
      obtain rfl := h.ev2 rfl
      obtain rfl := h.ev3 rfl
      obtain rfl := h.ev4 rfl
      obtain rfl := h.ev5 rfl
      obtain rfl := h.ev6 rfl
      obtain rfl := h.ev7 rfl
      obtain rfl := h.ev8 rfl
      obtain rfl := h.ev9 rfl
      obtain rfl := h.ev11 rfl
      simp only [Act.put, List.setIfInBounds_toArray, List.set_cons_zero, List.set_cons_succ]
      rename World => w7
      have H7 := H6.call h.g.below
      have PB7 := h.s9 rfl
      have PR7 := h.fr rfl
      clear h HS B6
      have B7 := H7.below
      go_wp2_with fail
      go_upto_region 7 with fail
      have HS : Ho w7 (World.drew w7) w7.heap.size [(w.heap.size + 1 + 1, [.int .i64 most, .int .u32 k0, .int .u32 k1, .int .u32 k2, .int .u32 k3, .int .u32 k4, .int .u32 k5, .int .u32 m0, .int .u32 m1, .int .u32 m2, .int .u32 m3, .int .u32 m4, .int .u32 m5]), (w.heap.size + 1, [.int .i64 a.a, .int .i64 a.b, .int .i64 a.c, .int .i64 a.d, .int .i64 a.e, .int .i64 a.f, .int .i64 v.a, .int .i64 v.b, .int .i64 v.c, .int .i64 v.d, .int .i64 v.e, .int .i64 v.f]), (w.heap.size, [.slice na L.length nc, .slice da M.length dc, .int .i64 i0, .int .i64 i1])] := ⟨(Below.refl _ _).drew, Nat.le_refl _, Nat.le_refl _, fun p hp => by
        simp only [List.mem_cons, List.not_mem_nil, or_false] at hp
        rcases hp with rfl | rfl | rfl
        · exact ⟨(H7.at 0 rfl).lt, (H7.at 0 rfl).drew⟩
        · exact ⟨(H7.at 1 rfl).lt, (H7.at 1 rfl).drew⟩
        · exact ⟨(H7.at 2 rfl).lt, (H7.at 2 rfl).drew⟩⟩
      refine region_sets (Lw.I w.heap.size (w.heap.size + 1) (w.heap.size + 1 + 1) w7.heap.size na da nc dc L M i0 i1 most a v Q [.int .u32 k0, .int .u32 k1, .int .u32 k2, .int .u32 k3, .int .u32 k4, .int .u32 k5, .int .u32 m0, .int .u32 m1, .int .u32 m2, .int .u32 m3, .int .u32 m4, .int .u32 m5] w7) (by kernel_rfl) ?_ ?_ ?_
      · refine ⟨false, false, false, false, false, false, false, false, false, false, false, false, undef, undef, undef, undef, undef, undef, undef, undef, undef, undef, undef, 0, undef, rfl, by simp only [Act.put, List.setIfInBounds_toArray, List.set_cons_zero, List.set_cons_succ], ?_⟩
        constructor
        · exact HS
        · (first | (simp; done) | (simp; omega))
        all_goals (intro h; cases h)
      · intro L9 aa ww hI i hi
        obtain ⟨l0, l1, l2, l3, l4, l5, l6, l7, l8, l9, l10, l11, v0, v1, v2, v3, v4, v5, v6, v7, v8, v9, v11, b9, u5, rfl, rfl, h⟩ := hI
        have hlt := ready_lt hi
        match i, hi, hlt with
        | 0, hi, _ =>
          have l' : l0 = false := (ready_op (o := _) rfl hi).1
          subst l'
          clear hi hlt
          have c := (h.g.at 2 rfl).c
          have H := Lib.hid h
          clear h
          refine wpOp_shut rfl (fun K hK => ?_)
          try simp only [Act.put, List.setIfInBounds_toArray, List.set_cons_zero, List.set_cons_succ]
          go_simp
          refine hK.out _ _ ?_
          unfold Lw.I
          refine ⟨true, l1, l2, l3, l4, l5, l6, l7, l8, l9, l10, l11, (.agg #[.slice na L.length nc, .slice da M.length dc, .int .i64 i0, .int .i64 i1]), v1, v2, v3, v4, v5, v6, v7, v8, v9, v11, b9, u5, rfl, ?_, ?_⟩
          · simp only [Act.put, List.setIfInBounds_toArray, List.set_cons_zero, List.set_cons_succ]
          · exact { H.out with ev0 := fun _ => rfl }
        | 1, hi, _ =>
          have l' : l1 = false := (ready_op (o := _) rfl hi).1
          subst l'
          clear hi hlt
          have c := (h.g.at 1 rfl).c
          have H := Lib.hid h
          clear h
          refine wpOp_shut rfl (fun K hK => ?_)
          try simp only [Act.put, List.setIfInBounds_toArray, List.set_cons_zero, List.set_cons_succ]
          go_simp
          refine hK.out _ _ ?_
          unfold Lw.I
          refine ⟨l0, true, l2, l3, l4, l5, l6, l7, l8, l9, l10, l11, v0, (.agg #[.int .i64 a.a, .int .i64 a.b, .int .i64 a.c, .int .i64 a.d, .int .i64 a.e, .int .i64 a.f, .int .i64 v.a, .int .i64 v.b, .int .i64 v.c, .int .i64 v.d, .int .i64 v.e, .int .i64 v.f]), v2, v3, v4, v5, v6, v7, v8, v9, v11, b9, u5, rfl, ?_, ?_⟩
          · simp only [Act.put, List.setIfInBounds_toArray, List.set_cons_zero, List.set_cons_succ]
          · exact { H.out with ev1 := fun _ => rfl }
        | 2, hi, _ =>
          have l' : l2 = false := (ready_op (o := _) rfl hi).1
          subst l'
          clear hi hlt
          have H := Lib.hid h
          clear h
          refine wpOp_shut rfl (fun K hK => ?_)
          try simp only [Act.put, List.setIfInBounds_toArray, List.set_cons_zero, List.set_cons_succ]
          go_simp
          refine (one_any _).mono ?_
          rintro e wY ⟨rfl, hb⟩
          try go_simp
          refine hK.out _ _ ?_
          unfold Lw.I
          refine ⟨l0, l1, true, l3, l4, l5, l6, l7, l8, l9, l10, l11, v0, v1, ((iv 16777216 16777216)), v3, v4, v5, v6, v7, v8, v9, v11, b9, u5, rfl, ?_, ?_⟩
          · simp only [Act.put, List.setIfInBounds_toArray, List.set_cons_zero, List.set_cons_succ]
          · exact { (H.out.kept hb) with ev2 := fun _ => rfl }
        | 3, hi, _ =>
          have l' : l3 = false := (ready_op (o := _) rfl hi).1
          subst l'
          clear hi hlt
          have H := Lib.hid h
          clear h
          refine wpOp_shut rfl (fun K hK => ?_)
          try simp only [Act.put, List.setIfInBounds_toArray, List.set_cons_zero, List.set_cons_succ]
          go_simp
          refine hK.out _ _ ?_
          unfold Lw.I
          refine ⟨l0, l1, l2, true, l4, l5, l6, l7, l8, l9, l10, l11, v0, v1, v2, (.pointer (some ⟨(w.heap.size + 1 + 1), 0, none⟩)), v4, v5, v6, v7, v8, v9, v11, b9, u5, rfl, ?_, ?_⟩
          · simp only [Act.put, List.setIfInBounds_toArray, List.set_cons_zero, List.set_cons_succ]
          · exact { H.out with ev3 := fun _ => rfl }
        | 4, hi, _ =>
          have l' : l4 = false := (ready_op (o := _) rfl hi).1
          subst l'
          have k3 : l3 = true := (ready_op (o := _) rfl hi).2 { on := 3, ground := .data } (by simp) rfl
          clear hi hlt
          subst k3
          obtain rfl := h.ev3 rfl
          have c := (h.g.at 0 rfl).c
          have H := Lib.hid h
          clear h
          refine wpOp_shut rfl (fun K hK => ?_)
          try simp only [Act.put, List.setIfInBounds_toArray, List.set_cons_zero, List.set_cons_succ]
          go_simp
          refine hK.out _ _ ?_
          unfold Lw.I
          refine ⟨l0, l1, l2, true, true, l5, l6, l7, l8, l9, l10, l11, v0, v1, v2, (.pointer (some ⟨(w.heap.size + 1 + 1), 0, none⟩)), (.int .i64 most), v5, v6, v7, v8, v9, v11, b9, u5, rfl, ?_, ?_⟩
          · simp only [Act.put, List.setIfInBounds_toArray, List.set_cons_zero, List.set_cons_succ]
          · exact { H.out with ev4 := fun _ => rfl }
        | 5, hi, _ =>
          have l' : l5 = false := (ready_op (o := _) rfl hi).1
          subst l'
          have k0 : l0 = true := (ready_op (o := _) rfl hi).2 { on := 0, ground := .data } (by simp) rfl
          have k1 : l1 = true := (ready_op (o := _) rfl hi).2 { on := 1, ground := .data } (by simp) rfl
          have k2 : l2 = true := (ready_op (o := _) rfl hi).2 { on := 2, ground := .chain } (by simp) rfl
          have k4 : l4 = true := (ready_op (o := _) rfl hi).2 { on := 4, ground := .data } (by simp) rfl
          clear hi hlt
          subst k0
          subst k1
          subst k2
          subst k4
          obtain rfl := h.ev0 rfl
          obtain rfl := h.ev1 rfl
          obtain rfl := h.ev2 rfl
          obtain rfl := h.ev4 rfl
          have hbl := h.g.below
          have hsz := h.sz
          have H := Lib.hid h
          clear h
          refine wpOp_shut rfl (fun K hK => ?_)
          try simp only [Act.put, List.setIfInBounds_toArray, List.set_cons_zero, List.set_cons_succ]
          go_simp
          refine (follow_any (L := L) (M := M) (a := a) (v := v) _ (HN.out.kept (B7.trans (hbl.mono B7.size))) (HM.out.kept (B7.trans (hbl.mono B7.size)))).mono ?_
          rintro e wY ⟨⟨uu, rfl, hrow⟩, hb⟩
          rw [HQ.out] at hrow ⊢
          dsimp only [lcells]
          try go_simp
          refine hK.out _ _ ?_
          unfold Lw.I
          refine ⟨true, true, true, l3, true, true, l6, l7, l8, l9, l10, l11, (.agg #[.slice na L.length nc, .slice da M.length dc, .int .i64 i0, .int .i64 i1]), (.agg #[.int .i64 a.a, .int .i64 a.b, .int .i64 a.c, .int .i64 a.d, .int .i64 a.e, .int .i64 a.f, .int .i64 v.a, .int .i64 v.b, .int .i64 v.c, .int .i64 v.d, .int .i64 v.e, .int .i64 v.f]), ((iv 16777216 16777216)), v3, (.int .i64 most), (.tuple #[.agg #[.int .i64 Q.lv.k, uu, .int .i64 Q.lv.o.a, .int .i64 Q.lv.o.b, .int .i64 Q.lv.o.c, .int .i64 Q.lv.o.d, .int .i64 Q.lv.o.e, .int .i64 Q.lv.o.f, .int .i64 Q.lv.lo, .int .i64 Q.lv.hi], .int .i64 Q.e]), v6, v7, v8, v9, v11, b9, uu, rfl, ?_, ?_⟩
          · simp only [Act.put, List.setIfInBounds_toArray, List.set_cons_zero, List.set_cons_succ]
          · have h := H.out.kept hb
            exact { h with ev5 := fun _ => rfl, fr := fun _ => row_down hrow hsz, fd := fun _ p => fun e => absurd (row_ge hrow e.symm) (by have := H.out.t9 p; omega), o5 := fun _ => rfl, o65 := fun _ => rfl, ev6 := fun p => (nomatch (H.out.o65 p)), ev7 := fun p => (nomatch (H.out.o65 (H.out.o76 p))), s9 := fun p => (nomatch (H.out.o5 p)) }
        | 6, hi, _ =>
          have l' : l6 = false := (ready_op (o := _) rfl hi).1
          subst l'
          have k5 : l5 = true := (ready_op (o := _) rfl hi).2 { on := 5, ground := .data } (by simp) rfl
          clear hi hlt
          subst k5
          obtain rfl := h.ev5 rfl
          have H := Lib.hid h
          clear h
          refine wpOp_shut rfl (fun K hK => ?_)
          try simp only [Act.put, List.setIfInBounds_toArray, List.set_cons_zero, List.set_cons_succ]
          go_simp
          refine hK.out _ _ ?_
          unfold Lw.I
          refine ⟨l0, l1, l2, l3, l4, true, true, l7, l8, l9, l10, l11, v0, v1, v2, v3, v4, (.tuple #[.agg #[.int .i64 Q.lv.k, u5, .int .i64 Q.lv.o.a, .int .i64 Q.lv.o.b, .int .i64 Q.lv.o.c, .int .i64 Q.lv.o.d, .int .i64 Q.lv.o.e, .int .i64 Q.lv.o.f, .int .i64 Q.lv.lo, .int .i64 Q.lv.hi], .int .i64 Q.e]), (.tuple #[.agg #[.int .i64 Q.lv.k, u5, .int .i64 Q.lv.o.a, .int .i64 Q.lv.o.b, .int .i64 Q.lv.o.c, .int .i64 Q.lv.o.d, .int .i64 Q.lv.o.e, .int .i64 Q.lv.o.f, .int .i64 Q.lv.lo, .int .i64 Q.lv.hi], .int .i64 Q.e]), v7, v8, v9, v11, b9, u5, rfl, ?_, ?_⟩
          · simp only [Act.put, List.setIfInBounds_toArray, List.set_cons_zero, List.set_cons_succ]
          · exact { H.out with ev6 := fun _ => rfl, o65 := fun _ => rfl, o76 := fun _ => rfl }
        | 7, hi, _ =>
          have l' : l7 = false := (ready_op (o := _) rfl hi).1
          subst l'
          have k6 : l6 = true := (ready_op (o := _) rfl hi).2 { on := 6, ground := .data } (by simp) rfl
          clear hi hlt
          subst k6
          obtain rfl := h.ev6 rfl
          have H := Lib.hid h
          clear h
          refine wpOp_shut rfl (fun K hK => ?_)
          try simp only [Act.put, List.setIfInBounds_toArray, List.set_cons_zero, List.set_cons_succ]
          go_simp
          refine hK.out _ _ ?_
          unfold Lw.I
          refine ⟨l0, l1, l2, l3, l4, l5, true, true, l8, l9, l10, l11, v0, v1, v2, v3, v4, v5, (.tuple #[.agg #[.int .i64 Q.lv.k, u5, .int .i64 Q.lv.o.a, .int .i64 Q.lv.o.b, .int .i64 Q.lv.o.c, .int .i64 Q.lv.o.d, .int .i64 Q.lv.o.e, .int .i64 Q.lv.o.f, .int .i64 Q.lv.lo, .int .i64 Q.lv.hi], .int .i64 Q.e]), (.agg #[.int .i64 Q.lv.k, u5, .int .i64 Q.lv.o.a, .int .i64 Q.lv.o.b, .int .i64 Q.lv.o.c, .int .i64 Q.lv.o.d, .int .i64 Q.lv.o.e, .int .i64 Q.lv.o.f, .int .i64 Q.lv.lo, .int .i64 Q.lv.hi]), v8, v9, v11, b9, u5, rfl, ?_, ?_⟩
          · simp only [Act.put, List.setIfInBounds_toArray, List.set_cons_zero, List.set_cons_succ]
          · exact { H.out with ev7 := fun _ => rfl, o76 := fun _ => rfl }
        | 8, hi, _ =>
          have l' : l8 = false := (ready_op (o := _) rfl hi).1
          subst l'
          have k6 : l6 = true := (ready_op (o := _) rfl hi).2 { on := 6, ground := .data } (by simp) rfl
          clear hi hlt
          subst k6
          obtain rfl := h.ev6 rfl
          have H := Lib.hid h
          clear h
          refine wpOp_shut rfl (fun K hK => ?_)
          try simp only [Act.put, List.setIfInBounds_toArray, List.set_cons_zero, List.set_cons_succ]
          go_simp
          refine hK.out _ _ ?_
          unfold Lw.I
          refine ⟨l0, l1, l2, l3, l4, l5, true, l7, true, l9, l10, l11, v0, v1, v2, v3, v4, v5, (.tuple #[.agg #[.int .i64 Q.lv.k, u5, .int .i64 Q.lv.o.a, .int .i64 Q.lv.o.b, .int .i64 Q.lv.o.c, .int .i64 Q.lv.o.d, .int .i64 Q.lv.o.e, .int .i64 Q.lv.o.f, .int .i64 Q.lv.lo, .int .i64 Q.lv.hi], .int .i64 Q.e]), v7, (.int .i64 Q.e), v9, v11, b9, u5, rfl, ?_, ?_⟩
          · simp only [Act.put, List.setIfInBounds_toArray, List.set_cons_zero, List.set_cons_succ]
          · exact { H.out with ev8 := fun _ => rfl }
        | 9, hi, _ =>
          have l' : l9 = false := (ready_op (o := _) rfl hi).1
          subst l'
          clear hi hlt
          have H := Lib.hid h
          clear h
          refine wpOp_shut rfl (fun K hK => ?_)
          try simp only [Act.put, List.setIfInBounds_toArray, List.set_cons_zero, List.set_cons_succ]
          go_simp
          refine hK.out _ _ ?_
          unfold Lw.I
          refine ⟨l0, l1, l2, l3, l4, l5, l6, l7, l8, true, l10, l11, v0, v1, v2, v3, v4, v5, v6, v7, v8, (.pointer (some ⟨ww.heap.size, 0, none⟩)), v11, ww.heap.size, u5, rfl, ?_, ?_⟩
          · simp only [Act.put, List.setIfInBounds_toArray, List.set_cons_zero, List.set_cons_succ]
          · have h := H.out.kept ((Below.refl _ _).alloc (Nat.le_refl _) (.cells (List.toArray (lcells ⟨0, zD, 0, 0⟩ (.slice none 0 0))) 28))
            exact { h with ev9 := fun _ => rfl, g9 := fun _ => H.out.sz, t9 := fun _ => by simp, o9 := fun _ => rfl, z9 := fun _ _ => Bx.new rfl, s9 := fun p => (nomatch (H.out.o9 p)), fd := fun p _ => fun e => absurd (row_in (H.out.fr p) e.symm) (by omega) }
        | 10, hi, _ =>
          have l' : l10 = false := (ready_op (o := _) rfl hi).1
          subst l'
          have k9 : l9 = true := (ready_op (o := _) rfl hi).2 { on := 9, ground := .phase } (by simp) rfl
          have k7 : l7 = true := (ready_op (o := _) rfl hi).2 { on := 7, ground := .phase } (by simp) rfl
          have k5 : l5 = true := (ready_op (o := _) rfl hi).2 { on := 5, ground := .phase } (by simp) rfl
          have k0 : l0 = true := (ready_op (o := _) rfl hi).2 { on := 0, ground := .phase } (by simp) rfl
          have k1 : l1 = true := (ready_op (o := _) rfl hi).2 { on := 1, ground := .phase } (by simp) rfl
          have k2 : l2 = true := (ready_op (o := _) rfl hi).2 { on := 2, ground := .phase } (by simp) rfl
          have k3 : l3 = true := (ready_op (o := _) rfl hi).2 { on := 3, ground := .phase } (by simp) rfl
          have k4 : l4 = true := (ready_op (o := _) rfl hi).2 { on := 4, ground := .phase } (by simp) rfl
          have k6 : l6 = true := (ready_op (o := _) rfl hi).2 { on := 6, ground := .phase } (by simp) rfl
          clear hi hlt
          subst k9
          subst k7
          subst k5
          subst k0
          subst k1
          subst k2
          subst k3
          subst k4
          subst k6
          obtain rfl := h.ev9 rfl
          obtain rfl := h.ev7 rfl
          obtain rfl := h.ev5 rfl
          obtain rfl := h.ev0 rfl
          obtain rfl := h.ev1 rfl
          obtain rfl := h.ev2 rfl
          obtain rfl := h.ev3 rfl
          obtain rfl := h.ev4 rfl
          obtain rfl := h.ev6 rfl
          obtain ⟨ao5, cap5, rfl⟩ := row_form (h.fr rfl)
          have l10z := h.z9 rfl rfl
          have c := l10z.c
          have f := l10z.f
          clear l10z
          have H := Lib.hid h
          clear h
          refine wpOp_shut rfl (fun K hK => ?_)
          try simp only [Act.put, List.setIfInBounds_toArray, List.set_cons_zero, List.set_cons_succ]
          dsimp only [lcells, zD] at c
          go_simp
          refine hK.out _ _ ?_
          unfold Lw.I
          refine ⟨true, true, true, true, true, true, true, true, l8, true, true, l11, (.agg #[.slice na L.length nc, .slice da M.length dc, .int .i64 i0, .int .i64 i1]), (.agg #[.int .i64 a.a, .int .i64 a.b, .int .i64 a.c, .int .i64 a.d, .int .i64 a.e, .int .i64 a.f, .int .i64 v.a, .int .i64 v.b, .int .i64 v.c, .int .i64 v.d, .int .i64 v.e, .int .i64 v.f]), ((iv 16777216 16777216)), (.pointer (some ⟨(w.heap.size + 1 + 1), 0, none⟩)), (.int .i64 most), (.tuple #[.agg #[.int .i64 Q.lv.k, (.slice ao5 Q.fs.length cap5), .int .i64 Q.lv.o.a, .int .i64 Q.lv.o.b, .int .i64 Q.lv.o.c, .int .i64 Q.lv.o.d, .int .i64 Q.lv.o.e, .int .i64 Q.lv.o.f, .int .i64 Q.lv.lo, .int .i64 Q.lv.hi], .int .i64 Q.e]), (.tuple #[.agg #[.int .i64 Q.lv.k, (.slice ao5 Q.fs.length cap5), .int .i64 Q.lv.o.a, .int .i64 Q.lv.o.b, .int .i64 Q.lv.o.c, .int .i64 Q.lv.o.d, .int .i64 Q.lv.o.e, .int .i64 Q.lv.o.f, .int .i64 Q.lv.lo, .int .i64 Q.lv.hi], .int .i64 Q.e]), (.agg #[.int .i64 Q.lv.k, (.slice ao5 Q.fs.length cap5), .int .i64 Q.lv.o.a, .int .i64 Q.lv.o.b, .int .i64 Q.lv.o.c, .int .i64 Q.lv.o.d, .int .i64 Q.lv.o.e, .int .i64 Q.lv.o.f, .int .i64 Q.lv.lo, .int .i64 Q.lv.hi]), v8, (.pointer (some ⟨b9, 0, none⟩)), v11, b9, (.slice ao5 Q.fs.length cap5), rfl, ?_, ?_⟩
          · simp only [Act.put, List.setIfInBounds_toArray, List.set_cons_zero, List.set_cons_succ]
          · exact { H.out with g := (Ho.put (d := b9) (i := 9) (u := .int .i64 Q.lv.hi) (Ho.put (d := b9) (i := 8) (u := .int .i64 Q.lv.lo) (Ho.put (d := b9) (i := 7) (u := .int .i64 Q.lv.o.f) (Ho.put (d := b9) (i := 6) (u := .int .i64 Q.lv.o.e) (Ho.put (d := b9) (i := 5) (u := .int .i64 Q.lv.o.d) (Ho.put (d := b9) (i := 4) (u := .int .i64 Q.lv.o.c) (Ho.put (d := b9) (i := 3) (u := .int .i64 Q.lv.o.b) (Ho.put (d := b9) (i := 2) (u := .int .i64 Q.lv.o.a) (Ho.put (d := b9) (i := 1) (u := (.slice ao5 Q.fs.length cap5)) (Ho.put (d := b9) (i := 0) (u := .int .i64 Q.lv.k) H.out.g (H.out.g9 rfl)) (H.out.g9 rfl)) (H.out.g9 rfl)) (H.out.g9 rfl)) (H.out.g9 rfl)) (H.out.g9 rfl)) (H.out.g9 rfl)) (H.out.g9 rfl)) (H.out.g9 rfl)) (H.out.g9 rfl)), sz := by simpa using H.out.sz, fr := fun _ => (row_setn (b := b9) (i := 9) (x := .int .i64 Q.lv.hi) (row_setn (b := b9) (i := 8) (x := .int .i64 Q.lv.lo) (row_setn (b := b9) (i := 7) (x := .int .i64 Q.lv.o.f) (row_setn (b := b9) (i := 6) (x := .int .i64 Q.lv.o.e) (row_setn (b := b9) (i := 5) (x := .int .i64 Q.lv.o.d) (row_setn (b := b9) (i := 4) (x := .int .i64 Q.lv.o.c) (row_setn (b := b9) (i := 3) (x := .int .i64 Q.lv.o.b) (row_setn (b := b9) (i := 2) (x := .int .i64 Q.lv.o.a) (row_setn (b := b9) (i := 1) (x := (.slice ao5 Q.fs.length cap5)) (row_setn (b := b9) (i := 0) (x := .int .i64 Q.lv.k) (H.out.fr rfl) (H.out.fd rfl rfl)) (H.out.fd rfl rfl)) (H.out.fd rfl rfl)) (H.out.fd rfl rfl)) (H.out.fd rfl rfl)) (H.out.fd rfl rfl)) (H.out.fd rfl rfl)) (H.out.fd rfl rfl)) (H.out.fd rfl rfl)) (H.out.fd rfl rfl)), t9 := fun p => by simpa using H.out.t9 p, o9 := fun _ => rfl, o5 := fun _ => rfl, z9 := fun _ p => (nomatch p), s9 := fun _ => (((((((((((H.out.z9 rfl rfl).put (i := 0) (u := .int .i64 Q.lv.k)).put (i := 1) (u := (.slice ao5 Q.fs.length cap5))).put (i := 2) (u := .int .i64 Q.lv.o.a)).put (i := 3) (u := .int .i64 Q.lv.o.b)).put (i := 4) (u := .int .i64 Q.lv.o.c)).put (i := 5) (u := .int .i64 Q.lv.o.d)).put (i := 6) (u := .int .i64 Q.lv.o.e)).put (i := 7) (u := .int .i64 Q.lv.o.f)).put (i := 8) (u := .int .i64 Q.lv.lo)).put (i := 9) (u := .int .i64 Q.lv.hi)) }
        | 11, hi, _ =>
          have l' : l11 = false := (ready_op (o := _) rfl hi).1
          subst l'
          have k8 : l8 = true := (ready_op (o := _) rfl hi).2 { on := 8, ground := .phase } (by simp) rfl
          have k10 : l10 = true := (ready_op (o := _) rfl hi).2 { on := 10, ground := .phase } (by simp) rfl
          have k0 : l0 = true := (ready_op (o := _) rfl hi).2 { on := 0, ground := .phase } (by simp) rfl
          have k1 : l1 = true := (ready_op (o := _) rfl hi).2 { on := 1, ground := .phase } (by simp) rfl
          have k2 : l2 = true := (ready_op (o := _) rfl hi).2 { on := 2, ground := .phase } (by simp) rfl
          have k3 : l3 = true := (ready_op (o := _) rfl hi).2 { on := 3, ground := .phase } (by simp) rfl
          have k4 : l4 = true := (ready_op (o := _) rfl hi).2 { on := 4, ground := .phase } (by simp) rfl
          have k5 : l5 = true := (ready_op (o := _) rfl hi).2 { on := 5, ground := .phase } (by simp) rfl
          have k6 : l6 = true := (ready_op (o := _) rfl hi).2 { on := 6, ground := .phase } (by simp) rfl
          have k7 : l7 = true := (ready_op (o := _) rfl hi).2 { on := 7, ground := .phase } (by simp) rfl
          have k9 : l9 = true := (ready_op (o := _) rfl hi).2 { on := 9, ground := .phase } (by simp) rfl
          clear hi hlt
          subst k8
          subst k10
          subst k0
          subst k1
          subst k2
          subst k3
          subst k4
          subst k5
          subst k6
          subst k7
          subst k9
          obtain rfl := h.ev8 rfl
          obtain rfl := h.ev0 rfl
          obtain rfl := h.ev1 rfl
          obtain rfl := h.ev2 rfl
          obtain rfl := h.ev3 rfl
          obtain rfl := h.ev4 rfl
          obtain rfl := h.ev5 rfl
          obtain rfl := h.ev6 rfl
          obtain rfl := h.ev7 rfl
          obtain rfl := h.ev9 rfl
          have H := Lib.hid h
          clear h
          refine wpOp_shut rfl (fun K hK => ?_)
          try simp only [Act.put, List.setIfInBounds_toArray, List.set_cons_zero, List.set_cons_succ]
          go_simp
          refine hK.out _ _ ?_
          unfold Lw.I
          refine ⟨true, true, true, true, true, true, true, true, true, true, true, true, (.agg #[.slice na L.length nc, .slice da M.length dc, .int .i64 i0, .int .i64 i1]), (.agg #[.int .i64 a.a, .int .i64 a.b, .int .i64 a.c, .int .i64 a.d, .int .i64 a.e, .int .i64 a.f, .int .i64 v.a, .int .i64 v.b, .int .i64 v.c, .int .i64 v.d, .int .i64 v.e, .int .i64 v.f]), ((iv 16777216 16777216)), (.pointer (some ⟨(w.heap.size + 1 + 1), 0, none⟩)), (.int .i64 most), (.tuple #[.agg #[.int .i64 Q.lv.k, u5, .int .i64 Q.lv.o.a, .int .i64 Q.lv.o.b, .int .i64 Q.lv.o.c, .int .i64 Q.lv.o.d, .int .i64 Q.lv.o.e, .int .i64 Q.lv.o.f, .int .i64 Q.lv.lo, .int .i64 Q.lv.hi], .int .i64 Q.e]), (.tuple #[.agg #[.int .i64 Q.lv.k, u5, .int .i64 Q.lv.o.a, .int .i64 Q.lv.o.b, .int .i64 Q.lv.o.c, .int .i64 Q.lv.o.d, .int .i64 Q.lv.o.e, .int .i64 Q.lv.o.f, .int .i64 Q.lv.lo, .int .i64 Q.lv.hi], .int .i64 Q.e]), (.agg #[.int .i64 Q.lv.k, u5, .int .i64 Q.lv.o.a, .int .i64 Q.lv.o.b, .int .i64 Q.lv.o.c, .int .i64 Q.lv.o.d, .int .i64 Q.lv.o.e, .int .i64 Q.lv.o.f, .int .i64 Q.lv.lo, .int .i64 Q.lv.hi]), (.int .i64 Q.e), (.pointer (some ⟨b9, 0, none⟩)), (.int .i64 Q.e), b9, u5, rfl, ?_, ?_⟩
          · simp only [Act.put, List.setIfInBounds_toArray, List.set_cons_zero, List.set_cons_succ]
          · exact { H.out with ev11 := fun _ => rfl }
        | i + 12, _, hlt => exact absurd hlt (by simp)
      · intro L9 aa ww hI hn9
        obtain ⟨l0, l1, l2, l3, l4, l5, l6, l7, l8, l9, l10, l11, v0, v1, v2, v3, v4, v5, v6, v7, v8, v9, v11, qb9, qu5, rfl, rfl, h⟩ := hI
        have k0 : l0 = true := not_ready (i := 0) (o := _) rfl hn9 (by simp [Region.binds])
        subst k0
        have k1 : l1 = true := not_ready (i := 1) (o := _) rfl hn9 (by simp [Region.binds])
        subst k1
        have k2 : l2 = true := not_ready (i := 2) (o := _) rfl hn9 (by simp [Region.binds])
        subst k2
        have k3 : l3 = true := not_ready (i := 3) (o := _) rfl hn9 (by simp [Region.binds])
        subst k3
        have k4 : l4 = true := not_ready (i := 4) (o := _) rfl hn9 (by simp [Region.binds])
        subst k4
        have k5 : l5 = true := not_ready (i := 5) (o := _) rfl hn9 (by simp [Region.binds])
        subst k5
        have k6 : l6 = true := not_ready (i := 6) (o := _) rfl hn9 (by simp [Region.binds])
        subst k6
        have k7 : l7 = true := not_ready (i := 7) (o := _) rfl hn9 (by simp [Region.binds])
        subst k7
        have k8 : l8 = true := not_ready (i := 8) (o := _) rfl hn9 (by simp [Region.binds])
        subst k8
        have k9 : l9 = true := not_ready (i := 9) (o := _) rfl hn9 (by simp [Region.binds])
        subst k9
        have k10 : l10 = true := not_ready (i := 10) (o := _) rfl hn9 (by simp [Region.binds])
        subst k10
        have k11 : l11 = true := not_ready (i := 11) (o := _) rfl hn9 (by simp [Region.binds])
        subst k11
        clear hn9
        obtain rfl := h.ev0 rfl
        obtain rfl := h.ev1 rfl
        obtain rfl := h.ev2 rfl
        obtain rfl := h.ev3 rfl
        obtain rfl := h.ev4 rfl
        obtain rfl := h.ev5 rfl
        obtain rfl := h.ev6 rfl
        obtain rfl := h.ev7 rfl
        obtain rfl := h.ev8 rfl
        obtain rfl := h.ev9 rfl
        obtain rfl := h.ev11 rfl
        simp only [Act.put, List.setIfInBounds_toArray, List.set_cons_zero, List.set_cons_succ]
        rename World => w8
        have H8 := H7.call h.g.below
        have QB8 := h.s9 rfl
        have QR8 := h.fr rfl
        have PB8 := PB7.kept h.g.below
        obtain ⟨po9, pc9, rfl⟩ := row_form PR7
        obtain ⟨qo9, qc9, rfl⟩ := row_form QR8
        obtain ⟨I7, IC⟩ := own_ints31 PR7 rfl
        have I8 := I7.kept h.g.below
        have J8 := (own_ints31 QR8 rfl).1
        clear h HS PB7 I7 PR7 QR8
        obtain ⟨⟨pk, oo, plo, phi⟩, fs, pe⟩ := P
        obtain ⟨⟨qk, qo, qlo, qhi⟩, gs, qe⟩ := Q
        have hi := HI.out
        dsimp only at hi I8 J8 IC
        obtain ⟨rfl, hins⟩ := hi
        dsimp only [lcells] at PB8 QB8
        by_cases he : pe = 0
        · subst he
          have EI := Lib.hid (hins rfl)
          have hfl : fs.length ≤ 1000000 := Nat.le_trans (HPL.out rfl) (by decide)
          clear hins
          dsimp only [paOf] at EI
          go_wp2_with fail
          go_upto_region 8 with fail
          have HS : Ho w8 (World.drew w8) w8.heap.size [(qb9, [.int .i64 qk, .slice qo9 gs.length qc9, .int .i64 qo.a, .int .i64 qo.b, .int .i64 qo.c, .int .i64 qo.d, .int .i64 qo.e, .int .i64 qo.f, .int .i64 qlo, .int .i64 qhi]), (pb9, [.int .i64 pk, .slice po9 fs.length pc9, .int .i64 oo.a, .int .i64 oo.b, .int .i64 oo.c, .int .i64 oo.d, .int .i64 oo.e, .int .i64 oo.f, .int .i64 plo, .int .i64 phi])] := ⟨(Below.refl _ _).drew, Nat.le_refl _, Nat.le_refl _, fun p hp => by
            simp only [List.mem_cons, List.not_mem_nil, or_false] at hp
            rcases hp with rfl | rfl
            · exact ⟨QB8.lt, QB8.rd.drew⟩
            · exact ⟨PB8.lt, PB8.rd.drew⟩⟩
          refine region_sets (Lz.I pb9 qb9 w8.heap.size po9 qo9 pc9 qc9 pk plo phi qk qlo qhi oo qo fs gs w8) (by kernel_rfl) ?_ ?_ ?_
          · refine ⟨false, false, false, false, false, false, false, false, false, false, false, false, false, false, false, false, false, false, false, false, undef, undef, undef, undef, undef, undef, undef, undef, undef, undef, undef, undef, undef, undef, undef, undef, undef, undef, undef, .bool false, rfl, by simp only [Act.put, List.setIfInBounds_toArray, List.set_cons_zero, List.set_cons_succ], ?_⟩
            constructor
            · exact HS
            · (first | (simp; done) | (simp; omega))
            · (omega)
            all_goals (intro h; cases h)
          · intro L a' w' hI i hi
            obtain ⟨l0, l1, l2, l3, l4, l5, l6, l7, l8, l9, l10, l11, l12, l13, l14, l15, l16, l17, l18, l19, v0, v1, v2, v3, v4, v5, v6, v7, v8, v9, v10, v11, v12, v13, v14, v15, v16, v17, v18, v19, rfl, rfl, h⟩ := hI
            have hlt := ready_lt hi
            match i, hi, hlt with
            | 0, hi, _ =>
              have l' : l0 = false := (ready_op (o := _) rfl hi).1
              subst l'
              clear hi hlt
              have H := Lib.hid h
              clear h
              refine wpOp_shut rfl (fun K hK => ?_)
              try simp only [Act.put, List.setIfInBounds_toArray, List.set_cons_zero, List.set_cons_succ]
              go_simp
              refine hK.out _ _ ?_
              unfold Lz.I
              refine ⟨true, l1, l2, l3, l4, l5, l6, l7, l8, l9, l10, l11, l12, l13, l14, l15, l16, l17, l18, l19, (.int .i64 0), v1, v2, v3, v4, v5, v6, v7, v8, v9, v10, v11, v12, v13, v14, v15, v16, v17, v18, v19, rfl, ?_, ?_⟩
              · simp only [Act.put, List.setIfInBounds_toArray, List.set_cons_zero, List.set_cons_succ]
              · exact { H.out with ev0 := fun _ => rfl }
            | 1, hi, _ =>
              have l' : l1 = false := (ready_op (o := _) rfl hi).1
              subst l'
              clear hi hlt
              have H := Lib.hid h
              clear h
              refine wpOp_shut rfl (fun K hK => ?_)
              try simp only [Act.put, List.setIfInBounds_toArray, List.set_cons_zero, List.set_cons_succ]
              go_simp
              refine hK.out _ _ ?_
              unfold Lz.I
              refine ⟨l0, true, l2, l3, l4, l5, l6, l7, l8, l9, l10, l11, l12, l13, l14, l15, l16, l17, l18, l19, v0, (.int .i64 0), v2, v3, v4, v5, v6, v7, v8, v9, v10, v11, v12, v13, v14, v15, v16, v17, v18, v19, rfl, ?_, ?_⟩
              · simp only [Act.put, List.setIfInBounds_toArray, List.set_cons_zero, List.set_cons_succ]
              · exact { H.out with ev1 := fun _ => rfl }
            | 2, hi, _ =>
              have l' : l2 = false := (ready_op (o := _) rfl hi).1
              subst l'
              have k0 : l0 = true := (ready_op (o := _) rfl hi).2 { on := 0, ground := .data } (by simp) rfl
              have k1 : l1 = true := (ready_op (o := _) rfl hi).2 { on := 1, ground := .data } (by simp) rfl
              clear hi hlt
              subst k0
              subst k1
              obtain rfl := h.ev0 rfl
              obtain rfl := h.ev1 rfl
              have H := Lib.hid h
              clear h
              refine wpOp_shut rfl (fun K hK => ?_)
              try simp only [Act.put, List.setIfInBounds_toArray, List.set_cons_zero, List.set_cons_succ]
              go_simp
              refine hK.out _ _ ?_
              unfold Lz.I
              refine ⟨true, true, true, l3, l4, l5, l6, l7, l8, l9, l10, l11, l12, l13, l14, l15, l16, l17, l18, l19, (.int .i64 0), (.int .i64 0), (.bool true), v3, v4, v5, v6, v7, v8, v9, v10, v11, v12, v13, v14, v15, v16, v17, v18, v19, rfl, ?_, ?_⟩
              · simp only [Act.put, List.setIfInBounds_toArray, List.set_cons_zero, List.set_cons_succ]
              · exact { H.out with ev2 := fun _ => rfl }
            | 3, hi, _ =>
              have l' : l3 = false := (ready_op (o := _) rfl hi).1
              subst l'
              have k2 : l2 = true := (ready_op (o := _) rfl hi).2 { on := 2, ground := .data } (by simp) rfl
              clear hi hlt
              subst k2
              obtain rfl := h.ev2 rfl
              have H := Lib.hid h
              clear h
              refine wpOp_shut rfl (fun K hK => ?_)
              try simp only [Act.put, List.setIfInBounds_toArray, List.set_cons_zero, List.set_cons_succ]
              go_simp
              refine hK.out _ _ ?_
              unfold Lz.I
              refine ⟨l0, l1, true, true, l4, l5, l6, l7, l8, l9, l10, l11, l12, l13, l14, l15, l16, l17, l18, l19, v0, v1, (.bool true), (.bool true), v4, v5, v6, v7, v8, v9, v10, v11, v12, v13, v14, v15, v16, v17, v18, v19, rfl, ?_, ?_⟩
              · simp only [Act.put, List.setIfInBounds_toArray, List.set_cons_zero, List.set_cons_succ]
              · exact { H.out with ev3 := fun _ => rfl }
            | 4, hi, _ =>
              have l' : l4 = false := (ready_op (o := _) rfl hi).1
              subst l'
              have k3 : l3 = true := (ready_op (o := _) rfl hi).2 { on := 3, ground := .guard } (by simp) rfl
              clear hi hlt
              subst k3
              obtain rfl := h.ev3 rfl
              have H := Lib.hid h
              clear h
              generalize hact : Act.put _ _ _ = act
              refine wpOp_want rfl (by subst hact; exact wanted_of (j := 3) (d := 62) (b := true) rfl rfl rfl (by simp only [Act.put, List.setIfInBounds_toArray, List.set_cons_zero, List.set_cons_succ]; rfl)) (fun K hK => ?_)
              subst hact
              try simp only [Act.put, List.setIfInBounds_toArray, List.set_cons_zero, List.set_cons_succ]
              go_simp
              refine hK.out _ _ ?_
              unfold Lz.I
              refine ⟨l0, l1, l2, true, true, l5, l6, l7, l8, l9, l10, l11, l12, l13, l14, l15, l16, l17, l18, l19, v0, v1, v2, (.bool true), (.int .i64 0), v5, v6, v7, v8, v9, v10, v11, v12, v13, v14, v15, v16, v17, v18, v19, rfl, ?_, ?_⟩
              · simp only [Act.put, List.setIfInBounds_toArray, List.set_cons_zero, List.set_cons_succ]
              · exact { H.out with ev4 := fun _ => rfl }
            | 5, hi, _ =>
              have l' : l5 = false := (ready_op (o := _) rfl hi).1
              subst l'
              have k4 : l4 = true := (ready_op (o := _) rfl hi).2 { on := 4, ground := .data } (by simp) rfl
              have k3 : l3 = true := (ready_op (o := _) rfl hi).2 { on := 3, ground := .guard } (by simp) rfl
              clear hi hlt
              subst k4
              subst k3
              obtain rfl := h.ev4 rfl
              obtain rfl := h.ev3 rfl
              have H := Lib.hid h
              clear h
              generalize hact : Act.put _ _ _ = act
              refine wpOp_want rfl (by subst hact; exact wanted_of (j := 3) (d := 62) (b := true) rfl rfl rfl (by simp only [Act.put, List.setIfInBounds_toArray, List.set_cons_zero, List.set_cons_succ]; rfl)) (fun K hK => ?_)
              subst hact
              try simp only [Act.put, List.setIfInBounds_toArray, List.set_cons_zero, List.set_cons_succ]
              go_simp
              refine hK.out _ _ ?_
              unfold Lz.I
              refine ⟨l0, l1, l2, true, true, true, l6, l7, l8, l9, l10, l11, l12, l13, l14, l15, l16, l17, l18, l19, v0, v1, v2, (.bool true), (.int .i64 0), (.bool false), v6, v7, v8, v9, v10, v11, v12, v13, v14, v15, v16, v17, v18, v19, rfl, ?_, ?_⟩
              · simp only [Act.put, List.setIfInBounds_toArray, List.set_cons_zero, List.set_cons_succ]
              · exact { H.out with ev5 := fun _ => rfl }
            | 6, hi, _ =>
              have l' : l6 = false := (ready_op (o := _) rfl hi).1
              subst l'
              have k5 : l5 = true := (ready_op (o := _) rfl hi).2 { on := 5, ground := .data } (by simp) rfl
              have k3 : l3 = true := (ready_op (o := _) rfl hi).2 { on := 3, ground := .guard } (by simp) rfl
              clear hi hlt
              subst k5
              subst k3
              obtain rfl := h.ev5 rfl
              obtain rfl := h.ev3 rfl
              have H := Lib.hid h
              clear h
              generalize hact : Act.put _ _ _ = act
              refine wpOp_want rfl (by subst hact; exact wanted_of (j := 3) (d := 62) (b := true) rfl rfl rfl (by simp only [Act.put, List.setIfInBounds_toArray, List.set_cons_zero, List.set_cons_succ]; rfl)) (fun K hK => ?_)
              subst hact
              try simp only [Act.put, List.setIfInBounds_toArray, List.set_cons_zero, List.set_cons_succ]
              go_simp
              refine hK.out _ _ ?_
              unfold Lz.I
              refine ⟨l0, l1, l2, true, l4, true, true, l7, l8, l9, l10, l11, l12, l13, l14, l15, l16, l17, l18, l19, v0, v1, v2, (.bool true), v4, (.bool false), (.bool false), v7, v8, v9, v10, v11, v12, v13, v14, v15, v16, v17, v18, v19, rfl, ?_, ?_⟩
              · simp only [Act.put, List.setIfInBounds_toArray, List.set_cons_zero, List.set_cons_succ]
              · exact { H.out with ev6 := fun _ => rfl }
            | 7, hi, _ =>
              have l' : l7 = false := (ready_op (o := _) rfl hi).1
              subst l'
              have k6 : l6 = true := (ready_op (o := _) rfl hi).2 { on := 6, ground := .guard } (by simp) rfl
              clear hi hlt
              subst k6
              obtain rfl := h.ev6 rfl
              have c := (h.g.at 1 rfl).c
              have H := Lib.hid h
              clear h
              generalize hact : Act.put _ _ _ = act
              refine wpOp_want rfl (by subst hact; exact wanted_of (j := 6) (d := 65) (b := false) rfl rfl rfl (by simp only [Act.put, List.setIfInBounds_toArray, List.set_cons_zero, List.set_cons_succ]; rfl)) (fun K hK => ?_)
              subst hact
              try simp only [Act.put, List.setIfInBounds_toArray, List.set_cons_zero, List.set_cons_succ]
              go_simp
              refine hK.out _ _ ?_
              unfold Lz.I
              refine ⟨l0, l1, l2, l3, l4, l5, true, true, l8, l9, l10, l11, l12, l13, l14, l15, l16, l17, l18, l19, v0, v1, v2, v3, v4, v5, (.bool false), ((pv po9 pc9 ⟨pk, fs, oo, plo, phi⟩)), v8, v9, v10, v11, v12, v13, v14, v15, v16, v17, v18, v19, rfl, ?_, ?_⟩
              · simp only [Act.put, List.setIfInBounds_toArray, List.set_cons_zero, List.set_cons_succ]
              · exact { H.out with ev7 := fun _ => rfl }
            | 8, hi, _ =>
              have l' : l8 = false := (ready_op (o := _) rfl hi).1
              subst l'
              have k6 : l6 = true := (ready_op (o := _) rfl hi).2 { on := 6, ground := .guard } (by simp) rfl
              clear hi hlt
              subst k6
              obtain rfl := h.ev6 rfl
              have c := (h.g.at 0 rfl).c
              have H := Lib.hid h
              clear h
              generalize hact : Act.put _ _ _ = act
              refine wpOp_want rfl (by subst hact; exact wanted_of (j := 6) (d := 65) (b := false) rfl rfl rfl (by simp only [Act.put, List.setIfInBounds_toArray, List.set_cons_zero, List.set_cons_succ]; rfl)) (fun K hK => ?_)
              subst hact
              try simp only [Act.put, List.setIfInBounds_toArray, List.set_cons_zero, List.set_cons_succ]
              go_simp
              refine hK.out _ _ ?_
              unfold Lz.I
              refine ⟨l0, l1, l2, l3, l4, l5, true, l7, true, l9, l10, l11, l12, l13, l14, l15, l16, l17, l18, l19, v0, v1, v2, v3, v4, v5, (.bool false), v7, ((pv qo9 qc9 ⟨qk, gs, qo, qlo, qhi⟩)), v9, v10, v11, v12, v13, v14, v15, v16, v17, v18, v19, rfl, ?_, ?_⟩
              · simp only [Act.put, List.setIfInBounds_toArray, List.set_cons_zero, List.set_cons_succ]
              · exact { H.out with ev8 := fun _ => rfl }
            | 9, hi, _ =>
              have l' : l9 = false := (ready_op (o := _) rfl hi).1
              subst l'
              have k7 : l7 = true := (ready_op (o := _) rfl hi).2 { on := 7, ground := .data } (by simp) rfl
              have k8 : l8 = true := (ready_op (o := _) rfl hi).2 { on := 8, ground := .data } (by simp) rfl
              have k6 : l6 = true := (ready_op (o := _) rfl hi).2 { on := 6, ground := .guard } (by simp) rfl
              clear hi hlt
              subst k7
              subst k8
              subst k6
              obtain rfl := h.ev7 rfl
              obtain rfl := h.ev8 rfl
              obtain rfl := h.ev6 rfl
              have h2 := h.g.below
              have H := Lib.hid h
              clear h
              generalize hact : Act.put _ _ _ = act
              refine wpOp_want rfl (by subst hact; exact wanted_of (j := 6) (d := 65) (b := false) rfl rfl rfl (by simp only [Act.put, List.setIfInBounds_toArray, List.set_cons_zero, List.set_cons_succ]; rfl)) (fun K hK => ?_)
              subst hact
              try simp only [Act.put, List.setIfInBounds_toArray, List.set_cons_zero, List.set_cons_succ]
              go_simp
              refine (pins_any po9 qo9 pc9 qc9 ⟨pk, fs, oo, plo, phi⟩ ⟨qk, gs, qo, qlo, qhi⟩ _ (I8.kept h2) (J8.kept h2) IC hfl).mono ?_
              rintro e wY ⟨rfl, hb⟩
              rw [EI.out]
              try go_simp
              refine hK.out _ _ ?_
              unfold Lz.I
              refine ⟨l0, l1, l2, l3, l4, l5, true, true, true, true, l10, l11, l12, l13, l14, l15, l16, l17, l18, l19, v0, v1, v2, v3, v4, v5, (.bool false), ((pv po9 pc9 ⟨pk, fs, oo, plo, phi⟩)), ((pv qo9 qc9 ⟨qk, gs, qo, qlo, qhi⟩)), (.bool true), v10, v11, v12, v13, v14, v15, v16, v17, v18, v19, rfl, ?_, ?_⟩
              · simp only [Act.put, List.setIfInBounds_toArray, List.set_cons_zero, List.set_cons_succ]
              · exact { (H.out.kept hb) with ev9 := fun _ => rfl }
            | 10, hi, _ =>
              have l' : l10 = false := (ready_op (o := _) rfl hi).1
              subst l'
              have k9 : l9 = true := (ready_op (o := _) rfl hi).2 { on := 9, ground := .chain } (by simp) rfl
              have k6 : l6 = true := (ready_op (o := _) rfl hi).2 { on := 6, ground := .guard } (by simp) rfl
              clear hi hlt
              subst k9
              subst k6
              obtain rfl := h.ev9 rfl
              obtain rfl := h.ev6 rfl
              have H := Lib.hid h
              clear h
              generalize hact : Act.put _ _ _ = act
              refine wpOp_want rfl (by subst hact; exact wanted_of (j := 6) (d := 65) (b := false) rfl rfl rfl (by simp only [Act.put, List.setIfInBounds_toArray, List.set_cons_zero, List.set_cons_succ]; rfl)) (fun K hK => ?_)
              subst hact
              try simp only [Act.put, List.setIfInBounds_toArray, List.set_cons_zero, List.set_cons_succ]
              go_simp
              refine hK.out _ _ ?_
              unfold Lz.I
              refine ⟨l0, l1, l2, l3, l4, l5, true, l7, l8, true, true, l11, l12, l13, l14, l15, l16, l17, l18, l19, v0, v1, v2, v3, v4, v5, (.bool false), v7, v8, (.bool true), (.bool true), v11, v12, v13, v14, v15, v16, v17, v18, v19, rfl, ?_, ?_⟩
              · simp only [Act.put, List.setIfInBounds_toArray, List.set_cons_zero, List.set_cons_succ]
              · exact { H.out with ev10 := fun _ => rfl }
            | 11, hi, _ =>
              have l' : l11 = false := (ready_op (o := _) rfl hi).1
              subst l'
              have k10 : l10 = true := (ready_op (o := _) rfl hi).2 { on := 10, ground := .guard } (by simp) rfl
              clear hi hlt
              subst k10
              obtain rfl := h.ev10 rfl
              have c := (h.g.at 1 rfl).c
              have H := Lib.hid h
              clear h
              generalize hact : Act.put _ _ _ = act
              refine wpOp_want rfl (by subst hact; exact wanted_of (j := 10) (d := 69) (b := true) rfl rfl rfl (by simp only [Act.put, List.setIfInBounds_toArray, List.set_cons_zero, List.set_cons_succ]; rfl)) (fun K hK => ?_)
              subst hact
              try simp only [Act.put, List.setIfInBounds_toArray, List.set_cons_zero, List.set_cons_succ]
              go_simp
              refine hK.out _ _ ?_
              unfold Lz.I
              refine ⟨l0, l1, l2, l3, l4, l5, l6, l7, l8, l9, true, true, l12, l13, l14, l15, l16, l17, l18, l19, v0, v1, v2, v3, v4, v5, v6, v7, v8, v9, (.bool true), ((pv po9 pc9 ⟨pk, fs, oo, plo, phi⟩)), v12, v13, v14, v15, v16, v17, v18, v19, rfl, ?_, ?_⟩
              · simp only [Act.put, List.setIfInBounds_toArray, List.set_cons_zero, List.set_cons_succ]
              · exact { H.out with ev11 := fun _ => rfl }
            | 12, hi, _ =>
              have l' : l12 = false := (ready_op (o := _) rfl hi).1
              subst l'
              have k11 : l11 = true := (ready_op (o := _) rfl hi).2 { on := 11, ground := .data } (by simp) rfl
              have k10 : l10 = true := (ready_op (o := _) rfl hi).2 { on := 10, ground := .guard } (by simp) rfl
              clear hi hlt
              subst k11
              subst k10
              obtain rfl := h.ev11 rfl
              obtain rfl := h.ev10 rfl
              have H := Lib.hid h
              clear h
              generalize hact : Act.put _ _ _ = act
              refine wpOp_want rfl (by subst hact; exact wanted_of (j := 10) (d := 69) (b := true) rfl rfl rfl (by simp only [Act.put, List.setIfInBounds_toArray, List.set_cons_zero, List.set_cons_succ]; rfl)) (fun K hK => ?_)
              subst hact
              try simp only [Act.put, List.setIfInBounds_toArray, List.set_cons_zero, List.set_cons_succ]
              go_simp
              refine (way_any po9 pc9 ⟨pk, fs, oo, plo, phi⟩ _).mono ?_
              rintro e wY ⟨rfl, hb⟩
              try go_simp
              refine hK.out _ _ ?_
              unfold Lz.I
              refine ⟨l0, l1, l2, l3, l4, l5, l6, l7, l8, l9, true, true, true, l13, l14, l15, l16, l17, l18, l19, v0, v1, v2, v3, v4, v5, v6, v7, v8, v9, (.bool true), ((pv po9 pc9 ⟨pk, fs, oo, plo, phi⟩)), ((pv po9 pc9 ⟨pk, fs, oo, plo, phi⟩)), v13, v14, v15, v16, v17, v18, v19, rfl, ?_, ?_⟩
              · simp only [Act.put, List.setIfInBounds_toArray, List.set_cons_zero, List.set_cons_succ]
              · exact { (H.out.kept hb) with ev12 := fun _ => rfl }
            | 13, hi, _ =>
              have l' : l13 = false := (ready_op (o := _) rfl hi).1
              subst l'
              have k10 : l10 = true := (ready_op (o := _) rfl hi).2 { on := 10, ground := .guard } (by simp) rfl
              clear hi hlt
              subst k10
              obtain rfl := h.ev10 rfl
              have c := (h.g.at 0 rfl).c
              have H := Lib.hid h
              clear h
              generalize hact : Act.put _ _ _ = act
              refine wpOp_want rfl (by subst hact; exact wanted_of (j := 10) (d := 69) (b := true) rfl rfl rfl (by simp only [Act.put, List.setIfInBounds_toArray, List.set_cons_zero, List.set_cons_succ]; rfl)) (fun K hK => ?_)
              subst hact
              try simp only [Act.put, List.setIfInBounds_toArray, List.set_cons_zero, List.set_cons_succ]
              go_simp
              refine hK.out _ _ ?_
              unfold Lz.I
              refine ⟨l0, l1, l2, l3, l4, l5, l6, l7, l8, l9, true, l11, l12, true, l14, l15, l16, l17, l18, l19, v0, v1, v2, v3, v4, v5, v6, v7, v8, v9, (.bool true), v11, v12, ((pv qo9 qc9 ⟨qk, gs, qo, qlo, qhi⟩)), v14, v15, v16, v17, v18, v19, rfl, ?_, ?_⟩
              · simp only [Act.put, List.setIfInBounds_toArray, List.set_cons_zero, List.set_cons_succ]
              · exact { H.out with ev13 := fun _ => rfl }
            | 14, hi, _ =>
              have l' : l14 = false := (ready_op (o := _) rfl hi).1
              subst l'
              have k13 : l13 = true := (ready_op (o := _) rfl hi).2 { on := 13, ground := .data } (by simp) rfl
              have k12 : l12 = true := (ready_op (o := _) rfl hi).2 { on := 12, ground := .chain } (by simp) rfl
              have k10 : l10 = true := (ready_op (o := _) rfl hi).2 { on := 10, ground := .guard } (by simp) rfl
              clear hi hlt
              subst k13
              subst k12
              subst k10
              obtain rfl := h.ev13 rfl
              obtain rfl := h.ev12 rfl
              obtain rfl := h.ev10 rfl
              have H := Lib.hid h
              clear h
              generalize hact : Act.put _ _ _ = act
              refine wpOp_want rfl (by subst hact; exact wanted_of (j := 10) (d := 69) (b := true) rfl rfl rfl (by simp only [Act.put, List.setIfInBounds_toArray, List.set_cons_zero, List.set_cons_succ]; rfl)) (fun K hK => ?_)
              subst hact
              try simp only [Act.put, List.setIfInBounds_toArray, List.set_cons_zero, List.set_cons_succ]
              go_simp
              refine (way_any qo9 qc9 ⟨qk, gs, qo, qlo, qhi⟩ _).mono ?_
              rintro e wY ⟨rfl, hb⟩
              try go_simp
              refine hK.out _ _ ?_
              unfold Lz.I
              refine ⟨l0, l1, l2, l3, l4, l5, l6, l7, l8, l9, true, l11, true, true, true, l15, l16, l17, l18, l19, v0, v1, v2, v3, v4, v5, v6, v7, v8, v9, (.bool true), v11, ((pv po9 pc9 ⟨pk, fs, oo, plo, phi⟩)), ((pv qo9 qc9 ⟨qk, gs, qo, qlo, qhi⟩)), ((pv qo9 qc9 ⟨qk, gs, qo, qlo, qhi⟩)), v15, v16, v17, v18, v19, rfl, ?_, ?_⟩
              · simp only [Act.put, List.setIfInBounds_toArray, List.set_cons_zero, List.set_cons_succ]
              · exact { (H.out.kept hb) with ev14 := fun _ => rfl }
            | 15, hi, _ =>
              have l' : l15 = false := (ready_op (o := _) rfl hi).1
              subst l'
              have k12 : l12 = true := (ready_op (o := _) rfl hi).2 { on := 12, ground := .data } (by simp) rfl
              have k14 : l14 = true := (ready_op (o := _) rfl hi).2 { on := 14, ground := .chain } (by simp) rfl
              have k10 : l10 = true := (ready_op (o := _) rfl hi).2 { on := 10, ground := .guard } (by simp) rfl
              clear hi hlt
              subst k12
              subst k14
              subst k10
              obtain rfl := h.ev12 rfl
              obtain rfl := h.ev14 rfl
              obtain rfl := h.ev10 rfl
              have h2 := h.g.below
              have H := Lib.hid h
              clear h
              generalize hact : Act.put _ _ _ = act
              refine wpOp_want rfl (by subst hact; exact wanted_of (j := 10) (d := 69) (b := true) rfl rfl rfl (by simp only [Act.put, List.setIfInBounds_toArray, List.set_cons_zero, List.set_cons_succ]; rfl)) (fun K hK => ?_)
              subst hact
              try simp only [Act.put, List.setIfInBounds_toArray, List.set_cons_zero, List.set_cons_succ]
              go_simp
              refine (rpins_any po9 qo9 pc9 qc9 ⟨pk, fs, oo, plo, phi⟩ ⟨qk, gs, qo, qlo, qhi⟩ _ (I8.kept h2) (J8.kept h2) hfl).mono ?_
              rintro e wY ⟨rfl, hb⟩
              rw [EI.out]
              try go_simp
              refine hK.out _ _ ?_
              unfold Lz.I
              refine ⟨l0, l1, l2, l3, l4, l5, l6, l7, l8, l9, true, l11, true, l13, true, true, l16, l17, l18, l19, v0, v1, v2, v3, v4, v5, v6, v7, v8, v9, (.bool true), v11, ((pv po9 pc9 ⟨pk, fs, oo, plo, phi⟩)), v13, ((pv qo9 qc9 ⟨qk, gs, qo, qlo, qhi⟩)), (.bool true), v16, v17, v18, v19, rfl, ?_, ?_⟩
              · simp only [Act.put, List.setIfInBounds_toArray, List.set_cons_zero, List.set_cons_succ]
              · exact { (H.out.kept hb) with ev15 := fun _ => rfl }
            | 16, hi, _ =>
              have l' : l16 = false := (ready_op (o := _) rfl hi).1
              subst l'
              have k10 : l10 = true := (ready_op (o := _) rfl hi).2 { on := 10, ground := .data } (by simp) rfl
              have k15 : l15 = true := (ready_op (o := _) rfl hi).2 { on := 15, ground := .data } (by simp) rfl
              have k6 : l6 = true := (ready_op (o := _) rfl hi).2 { on := 6, ground := .guard } (by simp) rfl
              clear hi hlt
              subst k10
              subst k15
              subst k6
              obtain rfl := h.ev10 rfl
              obtain rfl := h.ev15 rfl
              obtain rfl := h.ev6 rfl
              have H := Lib.hid h
              clear h
              generalize hact : Act.put _ _ _ = act
              refine wpOp_want rfl (by subst hact; exact wanted_of (j := 6) (d := 65) (b := false) rfl rfl rfl (by simp only [Act.put, List.setIfInBounds_toArray, List.set_cons_zero, List.set_cons_succ]; rfl)) (fun K hK => ?_)
              subst hact
              try simp only [Act.put, List.setIfInBounds_toArray, List.set_cons_zero, List.set_cons_succ]
              go_simp
              refine hK.out _ _ ?_
              unfold Lz.I
              refine ⟨l0, l1, l2, l3, l4, l5, true, l7, l8, l9, true, l11, l12, l13, l14, true, true, l17, l18, l19, v0, v1, v2, v3, v4, v5, (.bool false), v7, v8, v9, (.bool true), v11, v12, v13, v14, (.bool true), (.bool true), v17, v18, v19, rfl, ?_, ?_⟩
              · simp only [Act.put, List.setIfInBounds_toArray, List.set_cons_zero, List.set_cons_succ]
              · exact { H.out with ev16 := fun _ => rfl }
            | 17, hi, _ =>
              have l' : l17 = false := (ready_op (o := _) rfl hi).1
              subst l'
              have k6 : l6 = true := (ready_op (o := _) rfl hi).2 { on := 6, ground := .data } (by simp) rfl
              have k16 : l16 = true := (ready_op (o := _) rfl hi).2 { on := 16, ground := .data } (by simp) rfl
              have k3 : l3 = true := (ready_op (o := _) rfl hi).2 { on := 3, ground := .guard } (by simp) rfl
              clear hi hlt
              subst k6
              subst k16
              subst k3
              obtain rfl := h.ev6 rfl
              obtain rfl := h.ev16 rfl
              obtain rfl := h.ev3 rfl
              have H := Lib.hid h
              clear h
              generalize hact : Act.put _ _ _ = act
              refine wpOp_want rfl (by subst hact; exact wanted_of (j := 3) (d := 62) (b := true) rfl rfl rfl (by simp only [Act.put, List.setIfInBounds_toArray, List.set_cons_zero, List.set_cons_succ]; rfl)) (fun K hK => ?_)
              subst hact
              try simp only [Act.put, List.setIfInBounds_toArray, List.set_cons_zero, List.set_cons_succ]
              go_simp
              refine hK.out _ _ ?_
              unfold Lz.I
              refine ⟨l0, l1, l2, true, l4, l5, true, l7, l8, l9, l10, l11, l12, l13, l14, l15, true, true, l18, l19, v0, v1, v2, (.bool true), v4, v5, (.bool false), v7, v8, v9, v10, v11, v12, v13, v14, v15, (.bool true), (.bool true), v18, v19, rfl, ?_, ?_⟩
              · simp only [Act.put, List.setIfInBounds_toArray, List.set_cons_zero, List.set_cons_succ]
              · exact { H.out with ev17 := fun _ => rfl }
            | 18, hi, _ =>
              have l' : l18 = false := (ready_op (o := _) rfl hi).1
              subst l'
              have k3 : l3 = true := (ready_op (o := _) rfl hi).2 { on := 3, ground := .data } (by simp) rfl
              have k17 : l17 = true := (ready_op (o := _) rfl hi).2 { on := 17, ground := .data } (by simp) rfl
              clear hi hlt
              subst k3
              subst k17
              obtain rfl := h.ev3 rfl
              obtain rfl := h.ev17 rfl
              have H := Lib.hid h
              clear h
              refine wpOp_shut rfl (fun K hK => ?_)
              try simp only [Act.put, List.setIfInBounds_toArray, List.set_cons_zero, List.set_cons_succ]
              go_simp
              refine hK.out _ _ ?_
              unfold Lz.I
              refine ⟨l0, l1, l2, true, l4, l5, l6, l7, l8, l9, l10, l11, l12, l13, l14, l15, l16, true, true, l19, v0, v1, v2, (.bool true), v4, v5, v6, v7, v8, v9, v10, v11, v12, v13, v14, v15, v16, (.bool true), (.bool true), v19, rfl, ?_, ?_⟩
              · simp only [Act.put, List.setIfInBounds_toArray, List.set_cons_zero, List.set_cons_succ]
              · exact { H.out with ev18 := fun _ => rfl }
            | 19, hi, _ =>
              have l' : l19 = false := (ready_op (o := _) rfl hi).1
              subst l'
              have k18 : l18 = true := (ready_op (o := _) rfl hi).2 { on := 18, ground := .phase } (by simp) rfl
              have k15 : l15 = true := (ready_op (o := _) rfl hi).2 { on := 15, ground := .phase } (by simp) rfl
              have k0 : l0 = true := (ready_op (o := _) rfl hi).2 { on := 0, ground := .phase } (by simp) rfl
              have k1 : l1 = true := (ready_op (o := _) rfl hi).2 { on := 1, ground := .phase } (by simp) rfl
              have k2 : l2 = true := (ready_op (o := _) rfl hi).2 { on := 2, ground := .phase } (by simp) rfl
              have k3 : l3 = true := (ready_op (o := _) rfl hi).2 { on := 3, ground := .phase } (by simp) rfl
              have k4 : l4 = true := (ready_op (o := _) rfl hi).2 { on := 4, ground := .phase } (by simp) rfl
              have k5 : l5 = true := (ready_op (o := _) rfl hi).2 { on := 5, ground := .phase } (by simp) rfl
              have k6 : l6 = true := (ready_op (o := _) rfl hi).2 { on := 6, ground := .phase } (by simp) rfl
              have k7 : l7 = true := (ready_op (o := _) rfl hi).2 { on := 7, ground := .phase } (by simp) rfl
              have k8 : l8 = true := (ready_op (o := _) rfl hi).2 { on := 8, ground := .phase } (by simp) rfl
              have k9 : l9 = true := (ready_op (o := _) rfl hi).2 { on := 9, ground := .phase } (by simp) rfl
              have k10 : l10 = true := (ready_op (o := _) rfl hi).2 { on := 10, ground := .phase } (by simp) rfl
              have k11 : l11 = true := (ready_op (o := _) rfl hi).2 { on := 11, ground := .phase } (by simp) rfl
              have k12 : l12 = true := (ready_op (o := _) rfl hi).2 { on := 12, ground := .phase } (by simp) rfl
              have k13 : l13 = true := (ready_op (o := _) rfl hi).2 { on := 13, ground := .phase } (by simp) rfl
              have k14 : l14 = true := (ready_op (o := _) rfl hi).2 { on := 14, ground := .phase } (by simp) rfl
              have k16 : l16 = true := (ready_op (o := _) rfl hi).2 { on := 16, ground := .phase } (by simp) rfl
              have k17 : l17 = true := (ready_op (o := _) rfl hi).2 { on := 17, ground := .phase } (by simp) rfl
              clear hi hlt
              subst k18
              subst k15
              subst k0
              subst k1
              subst k2
              subst k3
              subst k4
              subst k5
              subst k6
              subst k7
              subst k8
              subst k9
              subst k10
              subst k11
              subst k12
              subst k13
              subst k14
              subst k16
              subst k17
              obtain rfl := h.ev18 rfl
              obtain rfl := h.ev15 rfl
              obtain rfl := h.ev0 rfl
              obtain rfl := h.ev1 rfl
              obtain rfl := h.ev2 rfl
              obtain rfl := h.ev3 rfl
              obtain rfl := h.ev4 rfl
              obtain rfl := h.ev5 rfl
              obtain rfl := h.ev6 rfl
              obtain rfl := h.ev7 rfl
              obtain rfl := h.ev8 rfl
              obtain rfl := h.ev9 rfl
              obtain rfl := h.ev10 rfl
              obtain rfl := h.ev11 rfl
              obtain rfl := h.ev12 rfl
              obtain rfl := h.ev13 rfl
              obtain rfl := h.ev14 rfl
              obtain rfl := h.ev16 rfl
              obtain rfl := h.ev17 rfl
              have H := Lib.hid h
              clear h
              refine wpOp_shut rfl (fun K hK => ?_)
              try simp only [Act.put, List.setIfInBounds_toArray, List.set_cons_zero, List.set_cons_succ]
              go_simp
              refine hK.out _ _ ?_
              unfold Lz.I
              refine ⟨true, true, true, true, true, true, true, true, true, true, true, true, true, true, true, true, true, true, true, true, (.int .i64 0), (.int .i64 0), (.bool true), (.bool true), (.int .i64 0), (.bool false), (.bool false), ((pv po9 pc9 ⟨pk, fs, oo, plo, phi⟩)), ((pv qo9 qc9 ⟨qk, gs, qo, qlo, qhi⟩)), (.bool true), (.bool true), ((pv po9 pc9 ⟨pk, fs, oo, plo, phi⟩)), ((pv po9 pc9 ⟨pk, fs, oo, plo, phi⟩)), ((pv qo9 qc9 ⟨qk, gs, qo, qlo, qhi⟩)), ((pv qo9 qc9 ⟨qk, gs, qo, qlo, qhi⟩)), (.bool true), (.bool true), (.bool true), (.bool true), (.bool true), rfl, ?_, ?_⟩
              · simp only [Act.put, List.setIfInBounds_toArray, List.set_cons_zero, List.set_cons_succ]
              · exact { H.out with ev19 := fun _ => rfl }
            | i + 20, _, hlt => exact absurd hlt (by simp)
          · intro L a' w' hI hn
            obtain ⟨l0, l1, l2, l3, l4, l5, l6, l7, l8, l9, l10, l11, l12, l13, l14, l15, l16, l17, l18, l19, v0, v1, v2, v3, v4, v5, v6, v7, v8, v9, v10, v11, v12, v13, v14, v15, v16, v17, v18, v19, rfl, rfl, h⟩ := hI
            have k0 : l0 = true := not_ready (i := 0) (o := _) rfl hn (by simp [Region.binds])
            subst k0
            have k1 : l1 = true := not_ready (i := 1) (o := _) rfl hn (by simp [Region.binds])
            subst k1
            have k2 : l2 = true := not_ready (i := 2) (o := _) rfl hn (by simp [Region.binds])
            subst k2
            have k3 : l3 = true := not_ready (i := 3) (o := _) rfl hn (by simp [Region.binds])
            subst k3
            have k4 : l4 = true := not_ready (i := 4) (o := _) rfl hn (by simp [Region.binds])
            subst k4
            have k5 : l5 = true := not_ready (i := 5) (o := _) rfl hn (by simp [Region.binds])
            subst k5
            have k6 : l6 = true := not_ready (i := 6) (o := _) rfl hn (by simp [Region.binds])
            subst k6
            have k7 : l7 = true := not_ready (i := 7) (o := _) rfl hn (by simp [Region.binds])
            subst k7
            have k8 : l8 = true := not_ready (i := 8) (o := _) rfl hn (by simp [Region.binds])
            subst k8
            have k9 : l9 = true := not_ready (i := 9) (o := _) rfl hn (by simp [Region.binds])
            subst k9
            have k10 : l10 = true := not_ready (i := 10) (o := _) rfl hn (by simp [Region.binds])
            subst k10
            have k11 : l11 = true := not_ready (i := 11) (o := _) rfl hn (by simp [Region.binds])
            subst k11
            have k12 : l12 = true := not_ready (i := 12) (o := _) rfl hn (by simp [Region.binds])
            subst k12
            have k13 : l13 = true := not_ready (i := 13) (o := _) rfl hn (by simp [Region.binds])
            subst k13
            have k14 : l14 = true := not_ready (i := 14) (o := _) rfl hn (by simp [Region.binds])
            subst k14
            have k15 : l15 = true := not_ready (i := 15) (o := _) rfl hn (by simp [Region.binds])
            subst k15
            have k16 : l16 = true := not_ready (i := 16) (o := _) rfl hn (by simp [Region.binds])
            subst k16
            have k17 : l17 = true := not_ready (i := 17) (o := _) rfl hn (by simp [Region.binds])
            subst k17
            have k18 : l18 = true := not_ready (i := 18) (o := _) rfl hn (by simp [Region.binds])
            subst k18
            have k19 : l19 = true := not_ready (i := 19) (o := _) rfl hn (by simp [Region.binds])
            subst k19
            clear hn
            obtain rfl := h.ev0 rfl
            obtain rfl := h.ev1 rfl
            obtain rfl := h.ev2 rfl
            obtain rfl := h.ev3 rfl
            obtain rfl := h.ev4 rfl
            obtain rfl := h.ev5 rfl
            obtain rfl := h.ev6 rfl
            obtain rfl := h.ev7 rfl
            obtain rfl := h.ev8 rfl
            obtain rfl := h.ev9 rfl
            obtain rfl := h.ev10 rfl
            obtain rfl := h.ev11 rfl
            obtain rfl := h.ev12 rfl
            obtain rfl := h.ev13 rfl
            obtain rfl := h.ev14 rfl
            obtain rfl := h.ev15 rfl
            obtain rfl := h.ev16 rfl
            obtain rfl := h.ev17 rfl
            obtain rfl := h.ev18 rfl
            obtain rfl := h.ev19 rfl
            simp only [Act.put, List.setIfInBounds_toArray, List.set_cons_zero, List.set_cons_succ]
            rename World => w9
            have H9 := H8.call h.g.below
            clear h HS
            go_wp2_with fail
            go_ret
            exact ⟨by first | rfl | simp, H9.below⟩
        · have d0 : (pe != 0) = true := by simpa using he
          clear hins
          go_wp2_with fail
          go_upto_region 8 with fail
          go_quiet (fail)
          go_wp2_with fail
          go_ret
          exact ⟨by first | rfl | simp, by first | exact H8.below | exact H8.drew.below | exact (H8.drewn _).below⟩
end Go.Proofs.Ytedfciddfpcifaa.Iv

/- A body that comes in: how many bytes its slices take at most. -/
namespace Go.Proofs.Ytedfciddfpcifaa.Iv
open Go.ChangeShapes Go.WideShapes Go.ChangeAt Go.RowKit Go.Deep

theorem bDir31 : Try.prog.bytesOf 26 = 48 := by kernel_rfl
theorem bIv31 : Try.prog.bytesOf 24 = 16 := by kernel_rfl
theorem slice_w31 {H : Type} {enc : TypeId × Value → H} {w : World} {fuel : Nat} {spare : Nat → Bool} {held : Bool} {x : DataW H × List MemPlace} {t e : TypeId} {a : Option Addr} {n c : Nat} (ht : Try.prog.underlying t = some (.slice e))
    (h : DataW.trod enc Try.prog w 0 spare held fuel t [.slice a n c] = some x) (hw : ∀ k ∈ x.1.weights Try.prog t, k ≤ reachBytes) : n * Try.prog.bytesOf e ≤ reachBytes := by
  rcases open_slice ht h with ⟨hcs, _⟩ | ⟨a', l, c', m, k, D, Pl, hcs, _, hl, hm, hmm, hx, _⟩
  · simp at hcs
    obtain ⟨_, rfl, _⟩ := hcs
    rw [Nat.zero_mul]
    exact Nat.zero_le _
  · simp at hcs
    obtain ⟨_, rfl, _⟩ := hcs
    have := hw ((((List.range n).map D).length + ((List.range (m - n)).map fun j => D (n + j)).length) * Try.prog.bytesOf e) (by rw [hx]; simp [DataW.weights, ht])
    simp only [List.length_map, List.length_range] at this
    exact Nat.le_trans (Nat.mul_le_mul_right _ (Nat.le_add_right _ _)) this
set_option maxRecDepth 100000 in
theorem body_w31 {H : Type} {enc : TypeId × Value → H} {w : World} {fuel : Nat} {spare : Nat → Bool} {held : Bool} {x : DataW H × List MemPlace} {na da : Option Addr} {n m nc dc : Nat} {i0 i1 : Int}
    (h : DataW.trod enc Try.prog w 0 spare held fuel 39 [.slice na n nc, .slice da m dc, .int .i64 i0, .int .i64 i1] = some x) (hw : ∀ k ∈ x.1.weights Try.prog 39, k ≤ reachBytes) : n * 48 ≤ reachBytes ∧ m * 16 ≤ reachBytes := by
  obtain ⟨xs, f, _, hx, _, hxl, hf⟩ := DataW.trod_struct Try.underlying39 h
  have h0 : DataW.trod enc Try.prog w 0 spare held f 36 ((([.slice na n nc, .slice da m dc, .int .i64 i0, .int .i64 i1] : List Value).drop 0).take (Try.prog.cellsOf 36)) = xs[0]? := hf 0 _ rfl
  have h1 : DataW.trod enc Try.prog w 0 spare held f 37 ((([.slice na n nc, .slice da m dc, .int .i64 i0, .int .i64 i1] : List Value).drop 1).take (Try.prog.cellsOf 37)) = xs[1]? := hf 1 _ rfl
  rw [cDirs31] at h0
  rw [cIvs31] at h1
  have hl : xs.length = 3 := by simpa using hxl
  match xs, hl with
  | [x0, x1, x2], _ =>
    subst hx
    have g0 := slice_w31 Try.underlying36 (h0.trans rfl) (fun k hk => hw k (by
      simp only [DataW.weights, Try.underlying39]
      exact DataW.weights_mem_each (j := 0) rfl rfl k hk))
    have g1 := slice_w31 Try.underlying37 (h1.trans rfl) (fun k hk => hw k (by
      simp only [DataW.weights, Try.underlying39]
      exact DataW.weights_mem_each (j := 1) rfl rfl k hk))
    rw [bDir31] at g0
    rw [bIv31] at g1
    exact ⟨g0, g1⟩
set_option maxRecDepth 100000 in
theorem body_sz {H : Type} {enc : TypeId × Value → H} {w : World} {r : Reach} {b0 : Nat} {spare : Nat → Bool} {held : Bool} {v : Value} {d : DataW H} {p : List MemPlace}
    (hv : Value.okWide Try.prog w r b0 39 v) (h : DataW.Trod enc Try.prog w 0 spare held 39 v d p) (hw : ∀ k ∈ d.weights Try.prog 39, k ≤ reachBytes) :
    ∃ na L nc da M dc i0 i1, v = .agg #[.slice na (L : List D).length nc, .slice da (M : List (Int × Int)).length dc, .int .i64 i0, .int .i64 i1] ∧ NAt w na L ∧ PAt w da M ∧ L.length * 48 ≤ 140737488351232 ∧ M.length * 16 ≤ 140737488351232 := by
  obtain ⟨l, fuel, rfl, hf⟩ := agg_of Try.underlying39 hv h
  obtain ⟨na, L, nc, da, M, dc, i0, i1, rfl, h1, h2, h3, h4⟩ := body31 hf
  obtain ⟨g0, g1⟩ := body_w31 hf hw
  exact ⟨na, L, nc, da, M, dc, i0, i1, rfl, h1, h2, g0, g1⟩
end Go.Proofs.Ytedfciddfpcifaa.Iv
