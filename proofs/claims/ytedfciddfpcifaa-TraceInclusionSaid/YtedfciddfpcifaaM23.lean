/- Texts Tq. -/
import Derived.Test.YtedfciddfpcifaaM22
import Derived.WalkMore

/- Contract of trace.Follow. -/
namespace Go.Proofs.Ytedfciddfpcifaa.Iv
open Go.RowKit

attribute [local go_sem] Oper.semAt_some

theorem info_int : (Try.prog.info? 3).map (fun i => (i.zero, i.size, i.bytes)) = some (some (.int .i64 0), 1, 8) := by kernel_rfl
abbrev ivals (fs : List Int) : List Value := fs.map fun x => .int .i64 x
/-- what holds between two rounds -/
structure FI (w : World) (pb : Nat) (lv : LV) (na da : Option Addr) (m nc mm dc : Nat) (i0 i1 gl gh : Int) (rc : List Value) (fs : List Int) (uc u : Value) (W : World) : Prop where
  below : Below w.heap.size w W
  sz : pb + 1 ≤ W.heap.size
  lo : w.heap.size + 1 + 1 + 1 + 1 ≤ pb
  bd : Rd W w.heap.size [.slice na m nc, .slice da mm dc, .int .i64 i0, .int .i64 i1]
  ry : Bx W (w.heap.size + 1) rc
  gn : Rd W (w.heap.size + 1 + 1) [.int .i64 gl, .int .i64 gh]
  rs : Bx W (w.heap.size + 1 + 1 + 1) (lcells ⟨0, zD, 0, 0⟩ (.slice none 0 0))
  pt : Bx W (pb) (lcells lv uc)
  row : W.ownsRow (pb + 1) 3 1 u fs.length (ivals fs)
theorem ownsRow_below {W W' : World} {base size n : Nat} {e : TypeId} {u : Value} {xs : List Value} (h : W.ownsRow base e size u n xs) (hb : Below W.heap.size W W') : W'.ownsRow base e size u n xs := by
  refine ⟨h.1, ?_⟩
  rcases h.2 with h3 | ⟨g, cap, cur, h3, h4, h5, h6⟩
  · exact .inl h3
  · exact .inr ⟨g, cap, cur, h3, h4, (hb.block _ (Array.getElem?_eq_some_iff.1 h5).1).trans h5, h6⟩
theorem FI.kept {w : World} {pb : Nat} {lv : LV} {na da : Option Addr} {m nc mm dc : Nat} {i0 i1 gl gh : Int} {rc : List Value} {fs : List Int} {uc u : Value} {W : World} {W' : World} (h : FI w pb lv na da m nc mm dc i0 i1 gl gh rc fs uc u W) (hb : Below W.heap.size W W') : FI w pb lv na da m nc mm dc i0 i1 gl gh rc fs uc u W' :=
  ⟨h.below.trans (hb.mono h.below.size), Nat.le_trans h.sz hb.size, h.lo, h.bd.kept hb, h.ry.kept hb, h.gn.kept hb, h.rs.kept hb, h.pt.kept hb, ownsRow_below h.row hb⟩
theorem FI.alc {w : World} {pb : Nat} {lv : LV} {na da : Option Addr} {m nc mm dc : Nat} {i0 i1 gl gh : Int} {rc : List Value} {fs : List Int} {uc u : Value} {W : World} (h : FI w pb lv na da m nc mm dc i0 i1 gl gh rc fs uc u W) (o : Obj) : FI w pb lv na da m nc mm dc i0 i1 gl gh rc fs uc u (W.alloc o) := h.kept ((Below.refl _ _).alloc (Nat.le_refl _) o)
theorem FI.drew {w : World} {pb : Nat} {lv : LV} {na da : Option Addr} {m nc mm dc : Nat} {i0 i1 gl gh : Int} {rc : List Value} {fs : List Int} {uc u : Value} {W : World} (h : FI w pb lv na da m nc mm dc i0 i1 gl gh rc fs uc u W) : FI w pb lv na da m nc mm dc i0 i1 gl gh rc fs uc u W.drew := h.kept (Below.refl _ _).drew
theorem FI.app {w : World} {pb : Nat} {lv : LV} {na da : Option Addr} {m nc mm dc : Nat} {i0 i1 gl gh : Int} {rc : List Value} {fs : List Int} {uc u : Value} {W : World} {W' : World} {u' : Value} {x : Int} (h : FI w pb lv na da m nc mm dc i0 i1 gl gh rc fs uc u W) (hown : W'.ownsRow (pb + 1) 3 1 u' (fs.length + 1) (ivals fs ++ [.int .i64 x])) (hg : W.grownBy W' u.ownBlock) : FI w pb lv na da m nc mm dc i0 i1 gl gh rc (fs ++ [x]) uc u' W' := by
  have hlo := h.lo
  have ne : ∀ b, b < pb + 1 → some b ≠ u.ownBlock := fun b hb => row_lt h.row (.inl hb)
  have ne2 : ∀ q, u.ownBlock = some q → pb + 1 ≤ q := fun q hq => by
    rcases Nat.lt_or_ge q (pb + 1) with k | k
    · exact absurd hq.symm (ne q k)
    · exact k
  refine ⟨h.below.grown hg h.below.size (fun q hq => by have := ne2 q hq; omega), Nat.le_trans h.sz hg.size, h.lo, h.bd.grown hg (ne _ (by omega)), h.ry.grown hg (ne _ (by omega)), h.gn.grown hg (ne _ (by omega)), h.rs.grown hg (ne _ (by omega)), h.pt.grown hg (ne _ (by omega)), ?_⟩
  rw [List.length_append, List.length_singleton, ivals, List.map_append]
  exact hown
theorem grown_setI (W : World) (b i : Nat) (v : Value) : W.grownBy (W.setCell ⟨b, i, none⟩ v) (some b) :=
  ⟨rfl, rfl, rfl, (KeepsWalks.setCell W _ v).size, fun k _ hk => Below.heap_setCell _ _ _ k (fun e => hk (by rw [e]))⟩
theorem FI.put {w : World} {pb : Nat} {lv : LV} {na da : Option Addr} {m nc mm dc : Nat} {i0 i1 gl gh : Int} {rc : List Value} {fs : List Int} {uc u : Value} {W : World} (h : FI w pb lv na da m nc mm dc i0 i1 gl gh rc fs uc u W) : FI w pb lv na da m nc mm dc i0 i1 gl gh rc fs u u (W.setCell ⟨pb, 1, none⟩ u) := by
  have hlo := h.lo
  have hg := grown_setI W (pb) 1 u
  refine ⟨h.below.setCell (by simp; omega) _, Nat.le_trans h.sz hg.size, h.lo, h.bd.set (by omega), h.ry.set (by omega), h.gn.set (by omega), h.rs.set (by omega), h.pt.put, h.row.kept hg (.inr (row_lt h.row (.inl (by omega))).symm)⟩
theorem FI.ray {w : World} {pb : Nat} {lv : LV} {na da : Option Addr} {m nc mm dc : Nat} {i0 i1 gl gh : Int} {rc : List Value} {fs : List Int} {uc u : Value} {W : World} (h : FI w pb lv na da m nc mm dc i0 i1 gl gh rc fs uc u W) (i : Nat) (x : Value) : FI w pb lv na da m nc mm dc i0 i1 gl gh (rc.set i x) fs uc u (W.setCell ⟨w.heap.size + 1, i, none⟩ x) := by
  have hlo := h.lo
  have hg := grown_setI W (w.heap.size + 1) i x
  refine ⟨h.below.setCell (by simp) _, Nat.le_trans h.sz hg.size, h.lo, h.bd.set (by omega), h.ry.put, h.gn.set (by omega), h.rs.set (by omega), h.pt.set (by omega), h.row.kept hg (.inr (row_lt h.row (.inl (by omega))).symm)⟩
theorem FI.left {w : World} {pb : Nat} {lv : LV} {na da : Option Addr} {m nc mm dc : Nat} {i0 i1 gl gh : Int} {rc : List Value} {fs : List Int} {uc u : Value} {W : World} {W' : World} {lv2 : LV} (h : FI w pb lv na da m nc mm dc i0 i1 gl gh rc fs uc u W) (hg : W.grownBy W' (some pb)) (hB : Bx W' pb (lcells lv2 uc)) : FI w pb lv2 na da m nc mm dc i0 i1 gl gh rc fs uc u W' := by
  have hlo := h.lo
  refine ⟨h.below.grown hg h.below.size (fun q hq => by cases hq; omega), Nat.le_trans h.sz hg.size, h.lo, h.bd.grown hg (fun e => absurd (Option.some.inj e) (by omega)), h.ry.grown hg (fun e => absurd (Option.some.inj e) (by omega)), h.gn.grown hg (fun e => absurd (Option.some.inj e) (by omega)), h.rs.grown hg (fun e => absurd (Option.some.inj e) (by omega)), hB, h.row.kept hg (.inr (row_lt h.row (.inl (by omega))).symm)⟩
theorem row_set {W : World} {b i base size n : Nat} {e : TypeId} {u x : Value} {xs : List Value} (h : W.ownsRow base e size u n xs) (hb : b < base) : (W.setCell ⟨b, i, none⟩ x).ownsRow base e size u n xs :=
  h.kept (grown_setI W b i x) (.inr (row_lt h (.inl hb)).symm)
theorem row_down {W : World} {base base' size n : Nat} {e : TypeId} {u : Value} {xs : List Value} (h : W.ownsRow base e size u n xs) (hb : base' ≤ base) : W.ownsRow base' e size u n xs := by
  refine ⟨h.1, ?_⟩
  rcases h.2 with h3 | ⟨g, cap, cur, h3, h4, h5⟩
  · exact .inl h3
  · exact .inr ⟨g, cap, cur, h3, Nat.le_trans hb h4, h5⟩
theorem row_form {W : World} {base size n : Nat} {e : TypeId} {u : Value} {xs : List Value} (h : W.ownsRow base e size u n xs) : ∃ ao cap, u = .slice ao n cap := by
  rcases h.2 with ⟨rfl, rfl⟩ | ⟨g, cap, cur, rfl, _⟩
  · exact ⟨_, _, rfl⟩
  · exact ⟨_, _, rfl⟩
structure F20 (w : World) (pb : Nat) (da : Option Addr) (m nc mm dc nb no k : Nat) (i0 i1 gl gh b0 b1 b2 b3 b4 b5 d0 d1 d2 d3 d4 d5 ee : Int) (n v : D) (fs : List Int) (u : Value) (W : World) (l0 l1 l2 l3 l4 l5 l6 l7 l8 l9 l10 l11 l12 l13 : Bool) (v0 v1 v2 v3 v4 v5 v6 v7 v8 v9 v10 v11 v13 : Value) : Prop where
  a : l12 = false → FI w pb unk (some ⟨nb, no, none⟩) da m nc mm dc i0 i1 gl gh [.int .i64 b0, .int .i64 b1, .int .i64 b2, .int .i64 b3, .int .i64 b4, .int .i64 b5, .int .i64 v.a, .int .i64 v.b, .int .i64 v.c, .int .i64 v.d, .int .i64 v.e, .int .i64 v.f] fs u u W
  r : l12 = false → Rs W nb (no + k * 6) [.int .i64 n.a, .int .i64 n.b, .int .i64 n.c, .int .i64 n.d, .int .i64 n.e, .int .i64 n.f]
  b : l12 = true → FI w pb unk (some ⟨nb, no, none⟩) da m nc mm dc i0 i1 gl gh [.int .i64 b0, .int .i64 b1, .int .i64 b2, .int .i64 b3, .int .i64 b4, .int .i64 b5, .int .i64 d0, .int .i64 d1, .int .i64 d2, .int .i64 d3, .int .i64 d4, .int .i64 d5] fs u u W
  o12_9 : l12 = true → l9 = true
  o9_8 : l9 = true → l8 = true
  o8_7 : l8 = true → l7 = true
  o7_1 : l7 = true → l1 = true
  o7_6 : l7 = true → l6 = true
  o6_5 : l6 = true → l5 = true
  o5_3 : l5 = true → l3 = true
  ev0 : l0 = true → v0 = .pointer (some ⟨w.heap.size + 1, 6, none⟩)
  ev1 : l1 = true → v1 = dv v
  ev2 : l2 = true → v2 = .pointer (some ⟨w.heap.size, 0, none⟩)
  ev3 : l3 = true → v3 = .slice (some ⟨nb, no, none⟩) m nc
  ev4 : l4 = true → v4 = .int .i64 k
  ev5 : l5 = true → v5 = .pointer (some ⟨nb, no + k * 6, none⟩)
  ev6 : l6 = true → v6 = dv n
  ev7 : l7 = true → v7 = .tuple #[dv ⟨d0, d1, d2, d3, d4, d5⟩, .int .i64 ee]
  ev8 : l8 = true → v8 = .tuple #[dv ⟨d0, d1, d2, d3, d4, d5⟩, .int .i64 ee]
  ev9 : l9 = true → v9 = dv ⟨d0, d1, d2, d3, d4, d5⟩
  ev10 : l10 = true → v10 = .int .i64 ee
  ev11 : l11 = true → v11 = .pointer (some ⟨w.heap.size + 1, 6, none⟩)
  ev13 : l13 = true → v13 = .int .i64 ee
theorem F20.kept {w : World} {pb : Nat} {da : Option Addr} {m nc mm dc nb no k : Nat} {i0 i1 gl gh b0 b1 b2 b3 b4 b5 d0 d1 d2 d3 d4 d5 ee : Int} {n v : D} {fs : List Int} {u : Value} {W : World} {l0 l1 l2 l3 l4 l5 l6 l7 l8 l9 l10 l11 l12 l13 : Bool} {v0 v1 v2 v3 v4 v5 v6 v7 v8 v9 v10 v11 v13 : Value} {W' : World} (h : F20 w pb da m nc mm dc nb no k i0 i1 gl gh b0 b1 b2 b3 b4 b5 d0 d1 d2 d3 d4 d5 ee n v fs u W l0 l1 l2 l3 l4 l5 l6 l7 l8 l9 l10 l11 l12 l13 v0 v1 v2 v3 v4 v5 v6 v7 v8 v9 v10 v11 v13) (hb : Below W.heap.size W W') : F20 w pb da m nc mm dc nb no k i0 i1 gl gh b0 b1 b2 b3 b4 b5 d0 d1 d2 d3 d4 d5 ee n v fs u W' l0 l1 l2 l3 l4 l5 l6 l7 l8 l9 l10 l11 l12 l13 v0 v1 v2 v3 v4 v5 v6 v7 v8 v9 v10 v11 v13 :=
  { h with a := fun p => (h.a p).kept hb, r := fun p => (h.r p).kept hb, b := fun p => (h.b p).kept hb }
def F20.I (w : World) (pb : Nat) (da : Option Addr) (m nc mm dc nb no k : Nat) (i0 i1 gl gh b0 b1 b2 b3 b4 b5 d0 d1 d2 d3 d4 d5 ee : Int) (n v : D) (fs : List Int) (u : Value) : Act → Array Bool → Act → World → Prop := fun aO LX aX W => ∃ (l0 l1 l2 l3 l4 l5 l6 l7 l8 l9 l10 l11 l12 l13 : Bool) (v0 v1 v2 v3 v4 v5 v6 v7 v8 v9 v10 v11 v13 : Value), LX = #[l0, l1, l2, l3, l4, l5, l6, l7, l8, l9, l10, l11, l12, l13] ∧ aX = (((((((((((((aO.put (some 119) v0).put (some 120) v1).put (some 121) v2).put (some 122) v3).put (some 123) v4).put (some 124) v5).put (some 125) v6).put (some 126) v7).put (some 118) v8).put (some 127) v9).put (some 128) v10).put (some 129) v11).put (some 14) v13) ∧ F20 w pb da m nc mm dc nb no k i0 i1 gl gh b0 b1 b2 b3 b4 b5 d0 d1 d2 d3 d4 d5 ee n v fs u W l0 l1 l2 l3 l4 l5 l6 l7 l8 l9 l10 l11 l12 l13 v0 v1 v2 v3 v4 v5 v6 v7 v8 v9 v10 v11 v13
set_option maxRecDepth 100000 in
set_option maxHeartbeats 32000000 in
theorem follow_any {na da : Option Addr} {nc dc : Nat} {L : List D} {M : List (Int × Int)} {i0 i1 gl gh most : Int} {a v : D} (w : World) (hn : NAt w na L) (hp : PAt w da M) :
    Calls Try.prog 20 #[.agg #[.slice na L.length nc, .slice da M.length dc, .int .i64 i0, .int .i64 i1], rv a v, iv gl gh, .int .i64 most] w fun e w' =>
      (∃ u, e = .returned (.tuple #[.agg (lcells (followV L M i0 i1 a v gl gh most).lv u).toArray, .int .i64 (followV L M i0 i1 a v gl gh most).e]) ∧ w'.ownsRow w.heap.size 3 1 u (followV L M i0 i1 a v gl gh most).fs.length (ivals (followV L M i0 i1 a v gl gh most).fs)) ∧ Below w.heap.size w w' := by
  have HN := Lib.hid hn
  have HP := Lib.hid hp
  clear hn hp
  cases hV : vBody L M i0 i1
  · have EV := Lib.hid hV
    have ER := Lib.hid (show followV L M i0 i1 a v gl gh most = ⟨⟨0, zD, 0, 0⟩, [], 1⟩ from by rw [followV, hV]; rfl)
    rw [ER.out]
    clear hV
    have H0 := (((Ho.nil w).bx [.slice na L.length nc, .slice da M.length dc, .int .i64 i0, .int .i64 i1] 39 w.heap.size rfl).bx [.int .i64 a.a, .int .i64 a.b, .int .i64 a.c, .int .i64 a.d, .int .i64 a.e, .int .i64 a.f, .int .i64 v.a, .int .i64 v.b, .int .i64 v.c, .int .i64 v.d, .int .i64 v.e, .int .i64 v.f] 41 (w.heap.size + 1) (by simp)).bx [.int .i64 gl, .int .i64 gh] 24 (w.heap.size + 1 + 1) (by simp)
    have O0 : Bx ((((w.alloc (.cells (List.toArray [.slice na L.length nc, .slice da M.length dc, .int .i64 i0, .int .i64 i1]) 39)).alloc (.cells (List.toArray [.int .i64 a.a, .int .i64 a.b, .int .i64 a.c, .int .i64 a.d, .int .i64 a.e, .int .i64 a.f, .int .i64 v.a, .int .i64 v.b, .int .i64 v.c, .int .i64 v.d, .int .i64 v.e, .int .i64 v.f]) 41)).alloc (.cells (List.toArray [.int .i64 gl, .int .i64 gh]) 24)).alloc (.cells (List.toArray [.int .i64 0, .slice none 0 0, .int .i64 0, .int .i64 0, .int .i64 0, .int .i64 0, .int .i64 0, .int .i64 0, .int .i64 0, .int .i64 0]) 28)) (w.heap.size + 1 + 1 + 1) [.int .i64 0, .slice none 0 0, .int .i64 0, .int .i64 0, .int .i64 0, .int .i64 0, .int .i64 0, .int .i64 0, .int .i64 0, .int .i64 0] := Bx.new (by simp)
    have Y0 : Bx ((((w.alloc (.cells (List.toArray [.slice na L.length nc, .slice da M.length dc, .int .i64 i0, .int .i64 i1]) 39)).alloc (.cells (List.toArray [.int .i64 a.a, .int .i64 a.b, .int .i64 a.c, .int .i64 a.d, .int .i64 a.e, .int .i64 a.f, .int .i64 v.a, .int .i64 v.b, .int .i64 v.c, .int .i64 v.d, .int .i64 v.e, .int .i64 v.f]) 41)).alloc (.cells (List.toArray [.int .i64 gl, .int .i64 gh]) 24)).alloc (.cells (List.toArray [.int .i64 0, .slice none 0 0, .int .i64 0, .int .i64 0, .int .i64 0, .int .i64 0, .int .i64 0, .int .i64 0, .int .i64 0, .int .i64 0]) 28)) (w.heap.size + 1) [.int .i64 a.a, .int .i64 a.b, .int .i64 a.c, .int .i64 a.d, .int .i64 a.e, .int .i64 a.f, .int .i64 v.a, .int .i64 v.b, .int .i64 v.c, .int .i64 v.d, .int .i64 v.e, .int .i64 v.f] := ((Bx.new (by simp)).alc _).alc _
    have H0 := H0.alc (.cells (List.toArray [.int .i64 0, .slice none 0 0, .int .i64 0, .int .i64 0, .int .i64 0, .int .i64 0, .int .i64 0, .int .i64 0, .int .i64 0, .int .i64 0]) 28)
    unfold rv
    go_enter Try.func20, Try.ntmps20
    go_wp2_with fail
    go_step3
    go_wp2_with fail
    refine (vbody_any _ (HN.out.kept H0.below) (HP.out.kept H0.below)).mono ?_
    rintro e w1 ⟨rfl, hb⟩
    rw [EV.out]
    have H1 := H0.call hb
    have O1 := O0.kept hb
    have Y1 := Y0.kept hb
    clear hb
    have x0 := (H1.at 2 rfl).c
    have x1 := (H1.at 1 rfl).c
    have x2 := (H1.at 0 rfl).c
    have y1 := O1.c
    have y2 := O1.f
    have y3 := O1.lt
    go_wp2_with fail
    have KO := ((((((((((O1.put (i := 0) (u := .int .i64 0)).put (i := 1) (u := .slice none 0 0)).put (i := 2) (u := .int .i64 0)).put (i := 3) (u := .int .i64 0)).put (i := 4) (u := .int .i64 0)).put (i := 5) (u := .int .i64 0)).put (i := 6) (u := .int .i64 0)).put (i := 7) (u := .int .i64 0)).put (i := 8) (u := .int .i64 0)).put (i := 9) (u := .int .i64 0))
    rw [Exit.noGoto_ret]
    refine bodyPost_box (b := w.heap.size + 1 + 1 + 1) (cs := [.int .i64 0, .slice none 0 0, .int .i64 0, .int .i64 0, .int .i64 0, .int .i64 0, .int .i64 0, .int .i64 0, .int .i64 0, .int .i64 0]) (v := .tuple #[.agg (List.toArray [.int .i64 0, .slice none 0 0, .int .i64 0, .int .i64 0, .int .i64 0, .int .i64 0, .int .i64 0, .int .i64 0, .int .i64 0, .int .i64 0]), .int .i64 1]) KO (fun X hX => by simp [results, Try.results20, go_sem, hX]) rfl ⟨⟨.slice none 0 0, by first | rfl | (simp [zD]; done), World.ownsRow_nil _ _ _ _⟩, ((((((((((H1.put (d := w.heap.size + 1 + 1 + 1) (i := 0) (u := .int .i64 0) (Nat.le_refl _)).put (d := w.heap.size + 1 + 1 + 1) (i := 1) (u := .slice none 0 0) (Nat.le_refl _)).put (d := w.heap.size + 1 + 1 + 1) (i := 2) (u := .int .i64 0) (Nat.le_refl _)).put (d := w.heap.size + 1 + 1 + 1) (i := 3) (u := .int .i64 0) (Nat.le_refl _)).put (d := w.heap.size + 1 + 1 + 1) (i := 4) (u := .int .i64 0) (Nat.le_refl _)).put (d := w.heap.size + 1 + 1 + 1) (i := 5) (u := .int .i64 0) (Nat.le_refl _)).put (d := w.heap.size + 1 + 1 + 1) (i := 6) (u := .int .i64 0) (Nat.le_refl _)).put (d := w.heap.size + 1 + 1 + 1) (i := 7) (u := .int .i64 0) (Nat.le_refl _)).put (d := w.heap.size + 1 + 1 + 1) (i := 8) (u := .int .i64 0) (Nat.le_refl _)).put (d := w.heap.size + 1 + 1 + 1) (i := 9) (u := .int .i64 0) (Nat.le_refl _)).below⟩
  · have EV := Lib.hid hV
    have hV' := hV
    simp only [vBody, Bool.and_eq_true, decide_eq_true_eq] at hV'
    have hM := hV'.1.2.2
    have hL := hV'.1.2.1
    have EM := Lib.hid hM
    clear hV'
    rw [EM.out]
    have H0 := (((Ho.nil w).bx [.slice na L.length nc, .slice da L.length dc, .int .i64 i0, .int .i64 i1] 39 w.heap.size rfl).bx [.int .i64 a.a, .int .i64 a.b, .int .i64 a.c, .int .i64 a.d, .int .i64 a.e, .int .i64 a.f, .int .i64 v.a, .int .i64 v.b, .int .i64 v.c, .int .i64 v.d, .int .i64 v.e, .int .i64 v.f] 41 (w.heap.size + 1) (by simp)).bx [.int .i64 gl, .int .i64 gh] 24 (w.heap.size + 1 + 1) (by simp)
    have O0 : Bx ((((w.alloc (.cells (List.toArray [.slice na L.length nc, .slice da L.length dc, .int .i64 i0, .int .i64 i1]) 39)).alloc (.cells (List.toArray [.int .i64 a.a, .int .i64 a.b, .int .i64 a.c, .int .i64 a.d, .int .i64 a.e, .int .i64 a.f, .int .i64 v.a, .int .i64 v.b, .int .i64 v.c, .int .i64 v.d, .int .i64 v.e, .int .i64 v.f]) 41)).alloc (.cells (List.toArray [.int .i64 gl, .int .i64 gh]) 24)).alloc (.cells (List.toArray [.int .i64 0, .slice none 0 0, .int .i64 0, .int .i64 0, .int .i64 0, .int .i64 0, .int .i64 0, .int .i64 0, .int .i64 0, .int .i64 0]) 28)) (w.heap.size + 1 + 1 + 1) [.int .i64 0, .slice none 0 0, .int .i64 0, .int .i64 0, .int .i64 0, .int .i64 0, .int .i64 0, .int .i64 0, .int .i64 0, .int .i64 0] := Bx.new (by simp)
    have Y0 : Bx ((((w.alloc (.cells (List.toArray [.slice na L.length nc, .slice da L.length dc, .int .i64 i0, .int .i64 i1]) 39)).alloc (.cells (List.toArray [.int .i64 a.a, .int .i64 a.b, .int .i64 a.c, .int .i64 a.d, .int .i64 a.e, .int .i64 a.f, .int .i64 v.a, .int .i64 v.b, .int .i64 v.c, .int .i64 v.d, .int .i64 v.e, .int .i64 v.f]) 41)).alloc (.cells (List.toArray [.int .i64 gl, .int .i64 gh]) 24)).alloc (.cells (List.toArray [.int .i64 0, .slice none 0 0, .int .i64 0, .int .i64 0, .int .i64 0, .int .i64 0, .int .i64 0, .int .i64 0, .int .i64 0, .int .i64 0]) 28)) (w.heap.size + 1) [.int .i64 a.a, .int .i64 a.b, .int .i64 a.c, .int .i64 a.d, .int .i64 a.e, .int .i64 a.f, .int .i64 v.a, .int .i64 v.b, .int .i64 v.c, .int .i64 v.d, .int .i64 v.e, .int .i64 v.f] := ((Bx.new (by simp)).alc _).alc _
    have H0 := H0.alc (.cells (List.toArray [.int .i64 0, .slice none 0 0, .int .i64 0, .int .i64 0, .int .i64 0, .int .i64 0, .int .i64 0, .int .i64 0, .int .i64 0, .int .i64 0]) 28)
    cases hW : (vD a && vD v)
    · have EW := Lib.hid hW
      have ER := Lib.hid (show followV L M i0 i1 a v gl gh most = ⟨⟨0, zD, 0, 0⟩, [], 1⟩ from by rw [followV, hV, hW]; rfl)
      rw [ER.out]
      clear hV hW
      unfold rv
      go_enter Try.func20, Try.ntmps20
      go_wp2_with fail
      go_step3
      go_wp2_with fail
      refine (vbodyl_any EM.out _ (HN.out.kept H0.below) (HP.out.kept H0.below)).mono ?_
      rintro e w1 ⟨rfl, hb⟩
      rw [EV.out]
      have H1 := H0.call hb
      have O1 := O0.kept hb
      have Y1 := Y0.kept hb
      clear hb
      have x0 := (H1.at 2 rfl).c
      have x1 := (H1.at 1 rfl).c
      have x2 := (H1.at 0 rfl).c
      go_wp2_with fail
      refine (vray31_any a v _).mono ?_
      rintro e w2 ⟨rfl, hb⟩
      rw [EW.out]
      have H2 := H1.call hb
      have O2 := O1.kept hb
      have Y2 := Y1.kept hb
      clear hb
      clear x0 x1 x2
      have x0 := (H2.at 2 rfl).c
      have x1 := (H2.at 1 rfl).c
      have x2 := (H2.at 0 rfl).c
      have y1 := O2.c
      have y2 := O2.f
      have y3 := O2.lt
      go_wp2_with fail
      have KO := ((((((((((O2.put (i := 0) (u := .int .i64 0)).put (i := 1) (u := .slice none 0 0)).put (i := 2) (u := .int .i64 0)).put (i := 3) (u := .int .i64 0)).put (i := 4) (u := .int .i64 0)).put (i := 5) (u := .int .i64 0)).put (i := 6) (u := .int .i64 0)).put (i := 7) (u := .int .i64 0)).put (i := 8) (u := .int .i64 0)).put (i := 9) (u := .int .i64 0))
      rw [Exit.noGoto_ret]
      refine bodyPost_box (b := w.heap.size + 1 + 1 + 1) (cs := [.int .i64 0, .slice none 0 0, .int .i64 0, .int .i64 0, .int .i64 0, .int .i64 0, .int .i64 0, .int .i64 0, .int .i64 0, .int .i64 0]) (v := .tuple #[.agg (List.toArray [.int .i64 0, .slice none 0 0, .int .i64 0, .int .i64 0, .int .i64 0, .int .i64 0, .int .i64 0, .int .i64 0, .int .i64 0, .int .i64 0]), .int .i64 1]) KO (fun X hX => by simp [results, Try.results20, go_sem, hX]) rfl ⟨⟨.slice none 0 0, by first | rfl | (simp [zD]; done), World.ownsRow_nil _ _ _ _⟩, ((((((((((H2.put (d := w.heap.size + 1 + 1 + 1) (i := 0) (u := .int .i64 0) (Nat.le_refl _)).put (d := w.heap.size + 1 + 1 + 1) (i := 1) (u := .slice none 0 0) (Nat.le_refl _)).put (d := w.heap.size + 1 + 1 + 1) (i := 2) (u := .int .i64 0) (Nat.le_refl _)).put (d := w.heap.size + 1 + 1 + 1) (i := 3) (u := .int .i64 0) (Nat.le_refl _)).put (d := w.heap.size + 1 + 1 + 1) (i := 4) (u := .int .i64 0) (Nat.le_refl _)).put (d := w.heap.size + 1 + 1 + 1) (i := 5) (u := .int .i64 0) (Nat.le_refl _)).put (d := w.heap.size + 1 + 1 + 1) (i := 6) (u := .int .i64 0) (Nat.le_refl _)).put (d := w.heap.size + 1 + 1 + 1) (i := 7) (u := .int .i64 0) (Nat.le_refl _)).put (d := w.heap.size + 1 + 1 + 1) (i := 8) (u := .int .i64 0) (Nat.le_refl _)).put (d := w.heap.size + 1 + 1 + 1) (i := 9) (u := .int .i64 0) (Nat.le_refl _)).below⟩
    · have EW := Lib.hid hW
      cases hG : vB gl gh
      · have EG := Lib.hid hG
        have ER := Lib.hid (show followV L M i0 i1 a v gl gh most = ⟨⟨0, zD, 0, 0⟩, [], 1⟩ from by rw [followV, hV, hW, hG]; rfl)
        rw [ER.out]
        clear hV hW hG
        unfold rv
        go_enter Try.func20, Try.ntmps20
        go_wp2_with fail
        go_step3
        go_wp2_with fail
        refine (vbodyl_any EM.out _ (HN.out.kept H0.below) (HP.out.kept H0.below)).mono ?_
        rintro e w1 ⟨rfl, hb⟩
        rw [EV.out]
        have H1 := H0.call hb
        have O1 := O0.kept hb
        have Y1 := Y0.kept hb
        clear hb
        have x0 := (H1.at 2 rfl).c
        have x1 := (H1.at 1 rfl).c
        have x2 := (H1.at 0 rfl).c
        go_wp2_with fail
        refine (vray31_any a v _).mono ?_
        rintro e w2 ⟨rfl, hb⟩
        rw [EW.out]
        have H2 := H1.call hb
        have O2 := O1.kept hb
        have Y2 := Y1.kept hb
        clear hb
        clear x0 x1 x2
        have x0 := (H2.at 2 rfl).c
        have x1 := (H2.at 1 rfl).c
        have x2 := (H2.at 0 rfl).c
        go_wp2_with fail
        refine (validb_any gl gh _).mono ?_
        rintro e w3 ⟨rfl, hb⟩
        rw [EG.out]
        have H3 := H2.call hb
        have O3 := O2.kept hb
        have Y3 := Y2.kept hb
        clear hb
        clear x0 x1 x2
        have x0 := (H3.at 2 rfl).c
        have x1 := (H3.at 1 rfl).c
        have x2 := (H3.at 0 rfl).c
        have y1 := O3.c
        have y2 := O3.f
        have y3 := O3.lt
        go_wp2_with fail
        have KO := ((((((((((O3.put (i := 0) (u := .int .i64 0)).put (i := 1) (u := .slice none 0 0)).put (i := 2) (u := .int .i64 0)).put (i := 3) (u := .int .i64 0)).put (i := 4) (u := .int .i64 0)).put (i := 5) (u := .int .i64 0)).put (i := 6) (u := .int .i64 0)).put (i := 7) (u := .int .i64 0)).put (i := 8) (u := .int .i64 0)).put (i := 9) (u := .int .i64 0))
        rw [Exit.noGoto_ret]
        refine bodyPost_box (b := w.heap.size + 1 + 1 + 1) (cs := [.int .i64 0, .slice none 0 0, .int .i64 0, .int .i64 0, .int .i64 0, .int .i64 0, .int .i64 0, .int .i64 0, .int .i64 0, .int .i64 0]) (v := .tuple #[.agg (List.toArray [.int .i64 0, .slice none 0 0, .int .i64 0, .int .i64 0, .int .i64 0, .int .i64 0, .int .i64 0, .int .i64 0, .int .i64 0, .int .i64 0]), .int .i64 1]) KO (fun X hX => by simp [results, Try.results20, go_sem, hX]) rfl ⟨⟨.slice none 0 0, by first | rfl | (simp [zD]; done), World.ownsRow_nil _ _ _ _⟩, ((((((((((H3.put (d := w.heap.size + 1 + 1 + 1) (i := 0) (u := .int .i64 0) (Nat.le_refl _)).put (d := w.heap.size + 1 + 1 + 1) (i := 1) (u := .slice none 0 0) (Nat.le_refl _)).put (d := w.heap.size + 1 + 1 + 1) (i := 2) (u := .int .i64 0) (Nat.le_refl _)).put (d := w.heap.size + 1 + 1 + 1) (i := 3) (u := .int .i64 0) (Nat.le_refl _)).put (d := w.heap.size + 1 + 1 + 1) (i := 4) (u := .int .i64 0) (Nat.le_refl _)).put (d := w.heap.size + 1 + 1 + 1) (i := 5) (u := .int .i64 0) (Nat.le_refl _)).put (d := w.heap.size + 1 + 1 + 1) (i := 6) (u := .int .i64 0) (Nat.le_refl _)).put (d := w.heap.size + 1 + 1 + 1) (i := 7) (u := .int .i64 0) (Nat.le_refl _)).put (d := w.heap.size + 1 + 1 + 1) (i := 8) (u := .int .i64 0) (Nat.le_refl _)).put (d := w.heap.size + 1 + 1 + 1) (i := 9) (u := .int .i64 0) (Nat.le_refl _)).below⟩
      · have EG := Lib.hid hG
        by_cases g0 : gl < 0
        · have ER := Lib.hid (show followV L M i0 i1 a v gl gh most = ⟨⟨0, zD, 0, 0⟩, [], 1⟩ from by rw [followV, hV, hW, hG, show decide (0 ≤ gl) = false from decide_eq_false (by omega)]; rfl)
          rw [ER.out]
          clear hV hW hG
          unfold rv
          go_enter Try.func20, Try.ntmps20
          go_wp2_with fail
          go_step3
          go_wp2_with fail
          refine (vbodyl_any EM.out _ (HN.out.kept H0.below) (HP.out.kept H0.below)).mono ?_
          rintro e w1 ⟨rfl, hb⟩
          rw [EV.out]
          have H1 := H0.call hb
          have O1 := O0.kept hb
          have Y1 := Y0.kept hb
          clear hb
          have x0 := (H1.at 2 rfl).c
          have x1 := (H1.at 1 rfl).c
          have x2 := (H1.at 0 rfl).c
          go_wp2_with fail
          refine (vray31_any a v _).mono ?_
          rintro e w2 ⟨rfl, hb⟩
          rw [EW.out]
          have H2 := H1.call hb
          have O2 := O1.kept hb
          have Y2 := Y1.kept hb
          clear hb
          clear x0 x1 x2
          have x0 := (H2.at 2 rfl).c
          have x1 := (H2.at 1 rfl).c
          have x2 := (H2.at 0 rfl).c
          go_wp2_with fail
          refine (validb_any gl gh _).mono ?_
          rintro e w3 ⟨rfl, hb⟩
          rw [EG.out]
          have H3 := H2.call hb
          have O3 := O2.kept hb
          have Y3 := Y2.kept hb
          clear hb
          clear x0 x1 x2
          have x0 := (H3.at 2 rfl).c
          have x1 := (H3.at 1 rfl).c
          have x2 := (H3.at 0 rfl).c
          have y1 := O3.c
          have y2 := O3.f
          have y3 := O3.lt
          go_wp2_with fail
          have KO := ((((((((((O3.put (i := 0) (u := .int .i64 0)).put (i := 1) (u := .slice none 0 0)).put (i := 2) (u := .int .i64 0)).put (i := 3) (u := .int .i64 0)).put (i := 4) (u := .int .i64 0)).put (i := 5) (u := .int .i64 0)).put (i := 6) (u := .int .i64 0)).put (i := 7) (u := .int .i64 0)).put (i := 8) (u := .int .i64 0)).put (i := 9) (u := .int .i64 0))
          rw [Exit.noGoto_ret]
          refine bodyPost_box (b := w.heap.size + 1 + 1 + 1) (cs := [.int .i64 0, .slice none 0 0, .int .i64 0, .int .i64 0, .int .i64 0, .int .i64 0, .int .i64 0, .int .i64 0, .int .i64 0, .int .i64 0]) (v := .tuple #[.agg (List.toArray [.int .i64 0, .slice none 0 0, .int .i64 0, .int .i64 0, .int .i64 0, .int .i64 0, .int .i64 0, .int .i64 0, .int .i64 0, .int .i64 0]), .int .i64 1]) KO (fun X hX => by simp [results, Try.results20, go_sem, hX]) rfl ⟨⟨.slice none 0 0, by first | rfl | (simp [zD]; done), World.ownsRow_nil _ _ _ _⟩, ((((((((((H3.put (d := w.heap.size + 1 + 1 + 1) (i := 0) (u := .int .i64 0) (Nat.le_refl _)).put (d := w.heap.size + 1 + 1 + 1) (i := 1) (u := .slice none 0 0) (Nat.le_refl _)).put (d := w.heap.size + 1 + 1 + 1) (i := 2) (u := .int .i64 0) (Nat.le_refl _)).put (d := w.heap.size + 1 + 1 + 1) (i := 3) (u := .int .i64 0) (Nat.le_refl _)).put (d := w.heap.size + 1 + 1 + 1) (i := 4) (u := .int .i64 0) (Nat.le_refl _)).put (d := w.heap.size + 1 + 1 + 1) (i := 5) (u := .int .i64 0) (Nat.le_refl _)).put (d := w.heap.size + 1 + 1 + 1) (i := 6) (u := .int .i64 0) (Nat.le_refl _)).put (d := w.heap.size + 1 + 1 + 1) (i := 7) (u := .int .i64 0) (Nat.le_refl _)).put (d := w.heap.size + 1 + 1 + 1) (i := 8) (u := .int .i64 0) (Nat.le_refl _)).put (d := w.heap.size + 1 + 1 + 1) (i := 9) (u := .int .i64 0) (Nat.le_refl _)).below⟩
        by_cases g1 : 16777216 < gh
        · have ER := Lib.hid (show followV L M i0 i1 a v gl gh most = ⟨⟨0, zD, 0, 0⟩, [], 1⟩ from by rw [followV, hV, hW, hG, show decide (0 ≤ gl) = true from decide_eq_true (by omega), show decide (gh ≤ 16777216) = false from decide_eq_false (by omega)]; rfl)
          rw [ER.out]
          clear hV hW hG
          unfold rv
          go_enter Try.func20, Try.ntmps20
          go_wp2_with fail
          go_step3
          go_wp2_with fail
          refine (vbodyl_any EM.out _ (HN.out.kept H0.below) (HP.out.kept H0.below)).mono ?_
          rintro e w1 ⟨rfl, hb⟩
          rw [EV.out]
          have H1 := H0.call hb
          have O1 := O0.kept hb
          have Y1 := Y0.kept hb
          clear hb
          have x0 := (H1.at 2 rfl).c
          have x1 := (H1.at 1 rfl).c
          have x2 := (H1.at 0 rfl).c
          go_wp2_with fail
          refine (vray31_any a v _).mono ?_
          rintro e w2 ⟨rfl, hb⟩
          rw [EW.out]
          have H2 := H1.call hb
          have O2 := O1.kept hb
          have Y2 := Y1.kept hb
          clear hb
          clear x0 x1 x2
          have x0 := (H2.at 2 rfl).c
          have x1 := (H2.at 1 rfl).c
          have x2 := (H2.at 0 rfl).c
          go_wp2_with fail
          refine (validb_any gl gh _).mono ?_
          rintro e w3 ⟨rfl, hb⟩
          rw [EG.out]
          have H3 := H2.call hb
          have O3 := O2.kept hb
          have Y3 := Y2.kept hb
          clear hb
          clear x0 x1 x2
          have x0 := (H3.at 2 rfl).c
          have x1 := (H3.at 1 rfl).c
          have x2 := (H3.at 0 rfl).c
          have y1 := O3.c
          have y2 := O3.f
          have y3 := O3.lt
          go_wp2_with fail
          have KO := ((((((((((O3.put (i := 0) (u := .int .i64 0)).put (i := 1) (u := .slice none 0 0)).put (i := 2) (u := .int .i64 0)).put (i := 3) (u := .int .i64 0)).put (i := 4) (u := .int .i64 0)).put (i := 5) (u := .int .i64 0)).put (i := 6) (u := .int .i64 0)).put (i := 7) (u := .int .i64 0)).put (i := 8) (u := .int .i64 0)).put (i := 9) (u := .int .i64 0))
          rw [Exit.noGoto_ret]
          refine bodyPost_box (b := w.heap.size + 1 + 1 + 1) (cs := [.int .i64 0, .slice none 0 0, .int .i64 0, .int .i64 0, .int .i64 0, .int .i64 0, .int .i64 0, .int .i64 0, .int .i64 0, .int .i64 0]) (v := .tuple #[.agg (List.toArray [.int .i64 0, .slice none 0 0, .int .i64 0, .int .i64 0, .int .i64 0, .int .i64 0, .int .i64 0, .int .i64 0, .int .i64 0, .int .i64 0]), .int .i64 1]) KO (fun X hX => by simp [results, Try.results20, go_sem, hX]) rfl ⟨⟨.slice none 0 0, by first | rfl | (simp [zD]; done), World.ownsRow_nil _ _ _ _⟩, ((((((((((H3.put (d := w.heap.size + 1 + 1 + 1) (i := 0) (u := .int .i64 0) (Nat.le_refl _)).put (d := w.heap.size + 1 + 1 + 1) (i := 1) (u := .slice none 0 0) (Nat.le_refl _)).put (d := w.heap.size + 1 + 1 + 1) (i := 2) (u := .int .i64 0) (Nat.le_refl _)).put (d := w.heap.size + 1 + 1 + 1) (i := 3) (u := .int .i64 0) (Nat.le_refl _)).put (d := w.heap.size + 1 + 1 + 1) (i := 4) (u := .int .i64 0) (Nat.le_refl _)).put (d := w.heap.size + 1 + 1 + 1) (i := 5) (u := .int .i64 0) (Nat.le_refl _)).put (d := w.heap.size + 1 + 1 + 1) (i := 6) (u := .int .i64 0) (Nat.le_refl _)).put (d := w.heap.size + 1 + 1 + 1) (i := 7) (u := .int .i64 0) (Nat.le_refl _)).put (d := w.heap.size + 1 + 1 + 1) (i := 8) (u := .int .i64 0) (Nat.le_refl _)).put (d := w.heap.size + 1 + 1 + 1) (i := 9) (u := .int .i64 0) (Nat.le_refl _)).below⟩
        by_cases m0 : most < 0
        · have ER := Lib.hid (show followV L M i0 i1 a v gl gh most = ⟨⟨0, zD, 0, 0⟩, [], 2⟩ from by rw [followV, hV, hW, hG, show decide (0 ≤ gl) = true from decide_eq_true (by omega), show decide (gh ≤ 16777216) = true from decide_eq_true (by omega)]; exact (if_pos rfl).trans (if_neg (by omega)))
          rw [ER.out]
          clear hV hW hG
          unfold rv
          go_enter Try.func20, Try.ntmps20
          go_wp2_with fail
          go_step3
          go_wp2_with fail
          refine (vbodyl_any EM.out _ (HN.out.kept H0.below) (HP.out.kept H0.below)).mono ?_
          rintro e w1 ⟨rfl, hb⟩
          rw [EV.out]
          have H1 := H0.call hb
          have O1 := O0.kept hb
          have Y1 := Y0.kept hb
          clear hb
          have x0 := (H1.at 2 rfl).c
          have x1 := (H1.at 1 rfl).c
          have x2 := (H1.at 0 rfl).c
          go_wp2_with fail
          refine (vray31_any a v _).mono ?_
          rintro e w2 ⟨rfl, hb⟩
          rw [EW.out]
          have H2 := H1.call hb
          have O2 := O1.kept hb
          have Y2 := Y1.kept hb
          clear hb
          clear x0 x1 x2
          have x0 := (H2.at 2 rfl).c
          have x1 := (H2.at 1 rfl).c
          have x2 := (H2.at 0 rfl).c
          go_wp2_with fail
          refine (validb_any gl gh _).mono ?_
          rintro e w3 ⟨rfl, hb⟩
          rw [EG.out]
          have H3 := H2.call hb
          have O3 := O2.kept hb
          have Y3 := Y2.kept hb
          clear hb
          clear x0 x1 x2
          have x0 := (H3.at 2 rfl).c
          have x1 := (H3.at 1 rfl).c
          have x2 := (H3.at 0 rfl).c
          have y1 := O3.c
          have y2 := O3.f
          have y3 := O3.lt
          go_wp2_with fail
          have KO := ((((((((((O3.put (i := 0) (u := .int .i64 0)).put (i := 1) (u := .slice none 0 0)).put (i := 2) (u := .int .i64 0)).put (i := 3) (u := .int .i64 0)).put (i := 4) (u := .int .i64 0)).put (i := 5) (u := .int .i64 0)).put (i := 6) (u := .int .i64 0)).put (i := 7) (u := .int .i64 0)).put (i := 8) (u := .int .i64 0)).put (i := 9) (u := .int .i64 0))
          rw [Exit.noGoto_ret]
          refine bodyPost_box (b := w.heap.size + 1 + 1 + 1) (cs := [.int .i64 0, .slice none 0 0, .int .i64 0, .int .i64 0, .int .i64 0, .int .i64 0, .int .i64 0, .int .i64 0, .int .i64 0, .int .i64 0]) (v := .tuple #[.agg (List.toArray [.int .i64 0, .slice none 0 0, .int .i64 0, .int .i64 0, .int .i64 0, .int .i64 0, .int .i64 0, .int .i64 0, .int .i64 0, .int .i64 0]), .int .i64 2]) KO (fun X hX => by simp [results, Try.results20, go_sem, hX]) rfl ⟨⟨.slice none 0 0, by first | rfl | (simp [zD]; done), World.ownsRow_nil _ _ _ _⟩, ((((((((((H3.put (d := w.heap.size + 1 + 1 + 1) (i := 0) (u := .int .i64 0) (Nat.le_refl _)).put (d := w.heap.size + 1 + 1 + 1) (i := 1) (u := .slice none 0 0) (Nat.le_refl _)).put (d := w.heap.size + 1 + 1 + 1) (i := 2) (u := .int .i64 0) (Nat.le_refl _)).put (d := w.heap.size + 1 + 1 + 1) (i := 3) (u := .int .i64 0) (Nat.le_refl _)).put (d := w.heap.size + 1 + 1 + 1) (i := 4) (u := .int .i64 0) (Nat.le_refl _)).put (d := w.heap.size + 1 + 1 + 1) (i := 5) (u := .int .i64 0) (Nat.le_refl _)).put (d := w.heap.size + 1 + 1 + 1) (i := 6) (u := .int .i64 0) (Nat.le_refl _)).put (d := w.heap.size + 1 + 1 + 1) (i := 7) (u := .int .i64 0) (Nat.le_refl _)).put (d := w.heap.size + 1 + 1 + 1) (i := 8) (u := .int .i64 0) (Nat.le_refl _)).put (d := w.heap.size + 1 + 1 + 1) (i := 9) (u := .int .i64 0) (Nat.le_refl _)).below⟩
        by_cases m1 : 20 < most
        · have ER := Lib.hid (show followV L M i0 i1 a v gl gh most = ⟨⟨0, zD, 0, 0⟩, [], 2⟩ from by rw [followV, hV, hW, hG, show decide (0 ≤ gl) = true from decide_eq_true (by omega), show decide (gh ≤ 16777216) = true from decide_eq_true (by omega)]; exact (if_pos rfl).trans (if_neg (by omega)))
          rw [ER.out]
          clear hV hW hG
          unfold rv
          go_enter Try.func20, Try.ntmps20
          go_wp2_with fail
          go_step3
          go_wp2_with fail
          refine (vbodyl_any EM.out _ (HN.out.kept H0.below) (HP.out.kept H0.below)).mono ?_
          rintro e w1 ⟨rfl, hb⟩
          rw [EV.out]
          have H1 := H0.call hb
          have O1 := O0.kept hb
          have Y1 := Y0.kept hb
          clear hb
          have x0 := (H1.at 2 rfl).c
          have x1 := (H1.at 1 rfl).c
          have x2 := (H1.at 0 rfl).c
          go_wp2_with fail
          refine (vray31_any a v _).mono ?_
          rintro e w2 ⟨rfl, hb⟩
          rw [EW.out]
          have H2 := H1.call hb
          have O2 := O1.kept hb
          have Y2 := Y1.kept hb
          clear hb
          clear x0 x1 x2
          have x0 := (H2.at 2 rfl).c
          have x1 := (H2.at 1 rfl).c
          have x2 := (H2.at 0 rfl).c
          go_wp2_with fail
          refine (validb_any gl gh _).mono ?_
          rintro e w3 ⟨rfl, hb⟩
          rw [EG.out]
          have H3 := H2.call hb
          have O3 := O2.kept hb
          have Y3 := Y2.kept hb
          clear hb
          clear x0 x1 x2
          have x0 := (H3.at 2 rfl).c
          have x1 := (H3.at 1 rfl).c
          have x2 := (H3.at 0 rfl).c
          have y1 := O3.c
          have y2 := O3.f
          have y3 := O3.lt
          go_wp2_with fail
          have KO := ((((((((((O3.put (i := 0) (u := .int .i64 0)).put (i := 1) (u := .slice none 0 0)).put (i := 2) (u := .int .i64 0)).put (i := 3) (u := .int .i64 0)).put (i := 4) (u := .int .i64 0)).put (i := 5) (u := .int .i64 0)).put (i := 6) (u := .int .i64 0)).put (i := 7) (u := .int .i64 0)).put (i := 8) (u := .int .i64 0)).put (i := 9) (u := .int .i64 0))
          rw [Exit.noGoto_ret]
          refine bodyPost_box (b := w.heap.size + 1 + 1 + 1) (cs := [.int .i64 0, .slice none 0 0, .int .i64 0, .int .i64 0, .int .i64 0, .int .i64 0, .int .i64 0, .int .i64 0, .int .i64 0, .int .i64 0]) (v := .tuple #[.agg (List.toArray [.int .i64 0, .slice none 0 0, .int .i64 0, .int .i64 0, .int .i64 0, .int .i64 0, .int .i64 0, .int .i64 0, .int .i64 0, .int .i64 0]), .int .i64 2]) KO (fun X hX => by simp [results, Try.results20, go_sem, hX]) rfl ⟨⟨.slice none 0 0, by first | rfl | (simp [zD]; done), World.ownsRow_nil _ _ _ _⟩, ((((((((((H3.put (d := w.heap.size + 1 + 1 + 1) (i := 0) (u := .int .i64 0) (Nat.le_refl _)).put (d := w.heap.size + 1 + 1 + 1) (i := 1) (u := .slice none 0 0) (Nat.le_refl _)).put (d := w.heap.size + 1 + 1 + 1) (i := 2) (u := .int .i64 0) (Nat.le_refl _)).put (d := w.heap.size + 1 + 1 + 1) (i := 3) (u := .int .i64 0) (Nat.le_refl _)).put (d := w.heap.size + 1 + 1 + 1) (i := 4) (u := .int .i64 0) (Nat.le_refl _)).put (d := w.heap.size + 1 + 1 + 1) (i := 5) (u := .int .i64 0) (Nat.le_refl _)).put (d := w.heap.size + 1 + 1 + 1) (i := 6) (u := .int .i64 0) (Nat.le_refl _)).put (d := w.heap.size + 1 + 1 + 1) (i := 7) (u := .int .i64 0) (Nat.le_refl _)).put (d := w.heap.size + 1 + 1 + 1) (i := 8) (u := .int .i64 0) (Nat.le_refl _)).put (d := w.heap.size + 1 + 1 + 1) (i := 9) (u := .int .i64 0) (Nat.le_refl _)).below⟩
        obtain ⟨⟨lvR, fsR⟩, hres⟩ : ∃ r, followL (L.zip M) i0 i1 gl gh most.toNat a v [] = r := ⟨_, rfl⟩
        have HRES := Lib.hid hres
        have ER := Lib.hid (show followV L M i0 i1 a v gl gh most = ⟨lvR, fsR, 0⟩ from by rw [followV, hV, hW, hG, show decide (0 ≤ gl) = true from decide_eq_true (by omega), show decide (gh ≤ 16777216) = true from decide_eq_true (by omega)]; refine (if_pos rfl).trans ((if_pos (by omega)).trans ?_); rw [HRES.out])
        rw [ER.out]
        dsimp only
        clear hV hW hG hres
        obtain ⟨j0, hi, hz0, hz1, hz2⟩ := info_parts info_int
        unfold rv
        go_enter Try.func20, Try.ntmps20
        go_wp2_with fail
        go_step3
        go_wp2_with fail
        refine (vbodyl_any EM.out _ (HN.out.kept H0.below) (HP.out.kept H0.below)).mono ?_
        rintro e w1 ⟨rfl, hb⟩
        rw [EV.out]
        have H1 := H0.call hb
        have O1 := O0.kept hb
        have Y1 := Y0.kept hb
        clear hb
        have x0 := (H1.at 2 rfl).c
        have x1 := (H1.at 1 rfl).c
        have x2 := (H1.at 0 rfl).c
        go_wp2_with fail
        refine (vray31_any a v _).mono ?_
        rintro e w2 ⟨rfl, hb⟩
        rw [EW.out]
        have H2 := H1.call hb
        have O2 := O1.kept hb
        have Y2 := Y1.kept hb
        clear hb
        clear x0 x1 x2
        have x0 := (H2.at 2 rfl).c
        have x1 := (H2.at 1 rfl).c
        have x2 := (H2.at 0 rfl).c
        go_wp2_with fail
        refine (validb_any gl gh _).mono ?_
        rintro e w3 ⟨rfl, hb⟩
        rw [EG.out]
        have H3 := H2.call hb
        have O3 := O2.kept hb
        have Y3 := Y2.kept hb
        clear hb
        clear x0 x1 x2
        have x0 := (H3.at 2 rfl).c
        have x1 := (H3.at 1 rfl).c
        have x2 := (H3.at 0 rfl).c
        have y0 := H3.size
        go_wp2_with fail
        go_step3
        go_wp2_with fail
        clear x0 x1 x2
        go_loopw [11] (fun i wr => ∃ (c m : Nat) (a' v' : D) (fs : List Int) (u : Value), i = .int .i64 c ∧ (c : Int) + m = most ∧ fs.length = c ∧ FI w w3.heap.size unk na da L.length nc L.length dc i0 i1 gl gh (rcs a' v') fs u u wr ∧ followL (L.zip M) i0 i1 gl gh m a' v' fs = (lvR, fsR)) (fun i _ => most.toNat - (intOf i).toNat)
        case atStart =>
          refine ⟨0, most.toNat, a, v, [], .slice none 0 0, rfl, by omega, rfl, ?_, HRES.out⟩
          exact ⟨(H3.alc _).below, by simp, by have := O3.lt; omega, (H3.alc _).at 2 rfl, Y3.alc _, (H3.alc _).at 0 rfl, O3.alc _, Bx.new rfl, World.ownsRow_nil _ _ _ _⟩
        case round =>
          obtain ⟨c, m, a', v', fs, u, rfl, hc, hlen, hI, hF⟩ := hrel
          obtain ⟨ao, cap, rfl⟩ := row_form hI.row
          have HF := Lib.hid hF
          subst hlen
          have i15 : IntKind.i64.wrap ((fs.length : Int) + 1) = (fs.length : Int) + 1 := IntWalk.i64_in _ (by omega)
          have x0 := hI.bd.c
          have x1 := hI.ry.c
          dsimp only [rcs] at x1
          have l0 := hI.bd.lt
          have l1 := hI.ry.lt
          clear hF H0 H1 H2 H3 O0 O1 O2 O3 Y0 Y1 Y2 Y3 y0
          go_wp2_with fail
          refine (hitl_any EM.out _ (HN.out.kept hI.below) (HP.out.kept hI.below) (by omega)).mono ?_
          rintro e w4 ⟨rfl, hb⟩
          obtain ⟨⟨hf, hl, hg, he⟩, hh⟩ : ∃ r, hitR (L.zip M) a' v' = r := ⟨_, rfl⟩
          rw [hh]
          have HH := Lib.hid hh
          have I4 := hI.kept hb
          clear hh hb x0 x1 l0 l1 hI
          by_cases he0 : he = 0
          · subst he0
            obtain ⟨k, ⟨n, pp⟩, hk1, hk2, hk3, hk4⟩ := hit_face (l := L.zip M) (a := a') (v := v') (by rw [HH.out])
            rw [HH.out] at hk1
            dsimp only at hk1 hk3 hk4
            subst hk1
            have HLk := Lib.hid (List.getElem?_zip_eq_some.1 hk2).1
            have HNn := Lib.hid (nrm_eq hk2)
            have HK3 := Lib.hid hk3
            have HK4 := Lib.hid hk4
            have p0 := I4.pt.c
            have p1 := I4.pt.f
            have p2 := I4.pt.lt
            dsimp only [lcells, unk, zD] at p0
            have lo := I4.lo
            have sz4 := I4.sz
            have hrow := I4.row
            have nl : ¬ (w3.heap.size = w4.heap.size) := by omega
            clear hk2 hk3 hk4
            go_wp2_with (at_builtin; refine wpList_append_own _ rfl _ _ 22 rfl (w3.heap.size + 1) 3 j0 (.int .i64 0) 1 8 Try.underlying22 hi hz0 hz1 hz2 rfl (by decide) _ _ _ rfl ((hrow.alloc _).alloc _) ⟨w4.heap.size + 1, 0, none⟩ 1 1 [.int .i64 k] rfl rfl ?c1 ?c2 ?c3 ?c4 ?c5 ?_)
            case c1 =>
              intro i u hi
              match i, hi with
              | 0, hi => simp at hi; subst hi; simp [Addr.add]
            case c2 => intro u hu; simp at hu; subst hu; rfl
            case c3 => unfold maxLen; omega
            case c4 => omega
            case c5 => simp; omega
            intro u' w5 hown hgrow _
            obtain ⟨g', cap', rfl⟩ := ownsRow_succ hown
            have I5 := ((I4.alc (.cells (List.toArray [.int .i64 hl, .int .i64 hg]) 24)).alc (.cells (List.toArray [.int .i64 k]) 3)).app hown hgrow
            have E5 : Bx w5 w4.heap.size [.int .i64 hl, .int .i64 hg] := Bx.grown ((Bx.new (by simp)).alc _) hgrow (row_lt hrow (.inr (Nat.le_refl _)))
            clear hown hgrow hrow p0 p1 p2 nl
            have q0 := I5.pt.c
            have q1 := I5.pt.f
            have q2 := I5.pt.lt
            have x1 := I5.ry.c
            have l1 := I5.ry.lt
            have e0 := E5.c
            have e1 := E5.lt
            dsimp only [rcs] at x1
            dsimp only [lcells, unk, zD] at q0
            have n1 : ¬ (w.heap.size + 1 = w3.heap.size) := by omega
            have n2 : ¬ (w4.heap.size = w3.heap.size) := by omega
            go_wp2_with fail
            refine (dscale_any v' hl hg _).mono ?_
            rintro e w6 ⟨rfl, hb⟩
            obtain ⟨⟨⟨s0, s1, s2, s3, s4, s5⟩, se⟩, hs⟩ : ∃ r, scaleD v' hl hg = r := ⟨_, rfl⟩
            rw [hs]
            have HS := Lib.hid hs
            have I6 := I5.put.kept hb
            clear hs hb q0 q1 q2 x1 l1 e0 e1 E5 I5
            by_cases se0 : se = 0
            · subst se0
              have q0 := I6.pt.lt
              have x1 := I6.ry.c
              have l1 := I6.ry.lt
              have nw : ¬ (w.heap.size + 1 = w6.heap.size) := Nat.ne_of_lt l1
              dsimp only [rcs] at x1
              go_wp2_with fail
              refine (dadd_any a' ⟨s0, s1, s2, s3, s4, s5⟩ _).mono ?_
              rintro e w7 ⟨rfl, hb⟩
              obtain ⟨⟨⟨b0, b1, b2, b3, b4, b5⟩, be⟩, hs⟩ : ∃ r, addD a' ⟨s0, s1, s2, s3, s4, s5⟩ = r := ⟨_, rfl⟩
              rw [hs]
              have HA := Lib.hid hs
              have I7 := (I6.alc _).kept hb
              clear hs hb q0 x1 l1 nw
              have I8 := (((((I7.ray 0 (.int .i64 b0)).ray 1 (.int .i64 b1)).ray 2 (.int .i64 b2)).ray 3 (.int .i64 b3)).ray 4 (.int .i64 b4)).ray 5 (.int .i64 b5)
              have t1 := I7.ry.c
              have t2 := I7.ry.f
              have t3 := I7.ry.lt
              dsimp only [rcs] at t1
              dsimp only [rcs, List.set] at I8
              have n3 : ¬ (w.heap.size + 1 = w.heap.size + 1 + 1 + 1) := by omega
              have n4 : ¬ (w.heap.size + 1 + 1 + 1 = w.heap.size + 1) := by omega
              have n5 : ¬ (w3.heap.size = w.heap.size + 1) := by omega
              by_cases be0 : be = 0
              · subst be0
                go_upto_region 15 with fail
                obtain ⟨W8, hW8⟩ : ∃ W8, ((((((w7.setCell ⟨w.heap.size + 1, 0, none⟩ (.int .i64 b0)).setCell ⟨w.heap.size + 1, 1, none⟩ (.int .i64 b1)).setCell ⟨w.heap.size + 1, 2, none⟩ (.int .i64 b2)).setCell ⟨w.heap.size + 1, 3, none⟩ (.int .i64 b3)).setCell ⟨w.heap.size + 1, 4, none⟩ (.int .i64 b4)).setCell ⟨w.heap.size + 1, 5, none⟩ (.int .i64 b5)) = W8 := ⟨_, rfl⟩
                rw [hW8] at I8 ⊢
                have hkl : k < L.length := (List.getElem?_eq_some_iff.1 HLk.out).1
                obtain ⟨nb, no, hna, hnb, hNc⟩ := (HN.out.kept I8.below) (by omega)
                subst hna
                have RS : Rs W8 nb (no + k * 6) [.int .i64 n.a, .int .i64 n.b, .int .i64 n.c, .int .i64 n.d, .int .i64 n.e, .int .i64 n.f] := Rs.mk hnb (hNc k n HLk.out)
                have RD := RS.drew
                have I8d := I8.drew
                have ry8 := I8d.ry.c
                have bd8 := I8d.bd.c
                have m0 : W8.drew.cell? ⟨nb, no + k * 6, none⟩ = some (.int .i64 n.a) := RD.c 0 (by simp)
                have m1 : W8.drew.cell? ⟨nb, no + k * 6 + 1, none⟩ = some (.int .i64 n.b) := RD.c 1 (by simp)
                have m2 : W8.drew.cell? ⟨nb, no + k * 6 + 2, none⟩ = some (.int .i64 n.c) := RD.c 2 (by simp)
                have m3 : W8.drew.cell? ⟨nb, no + k * 6 + 3, none⟩ = some (.int .i64 n.d) := RD.c 3 (by simp)
                have m4 : W8.drew.cell? ⟨nb, no + k * 6 + 4, none⟩ = some (.int .i64 n.e) := RD.c 4 (by simp)
                have m5 : W8.drew.cell? ⟨nb, no + k * 6 + 5, none⟩ = some (.int .i64 n.f) := RD.c 5 (by simp)
                have hlt' : (k : Int) < (L.length : Int) := by omega
                have hge' : (0 : Int) ≤ (k : Int) := by omega
                clear hW8 t1 t2 t3 n3 n4 n5 I7 hNc
                obtain ⟨⟨hk, he⟩, hh⟩ : ∃ r, hitsR v' n i0 i1 = r := ⟨_, rfl⟩
                have HT := Lib.hid hh
                clear hh
                go_region_held3 (fun X => (∀ j, X.cell? ⟨w.heap.size + 1, j, none⟩ = [.int .i64 b0, .int .i64 b1, .int .i64 b2, .int .i64 b3, .int .i64 b4, .int .i64 b5, .int .i64 v'.a, .int .i64 v'.b, .int .i64 v'.c, .int .i64 v'.d, .int .i64 v'.e, .int .i64 v'.f][j]?) ∧ (∀ j, X.cell? ⟨w.heap.size, j, none⟩ = [.slice (some ⟨nb, no, none⟩) L.length nc, .slice da L.length dc, .int .i64 i0, .int .i64 i1][j]?) ∧ X.cell? ⟨nb, no + k * 6, none⟩ = some (.int .i64 n.a) ∧ X.cell? ⟨nb, no + k * 6 + 1, none⟩ = some (.int .i64 n.b) ∧ X.cell? ⟨nb, no + k * 6 + 2, none⟩ = some (.int .i64 n.c) ∧ X.cell? ⟨nb, no + k * 6 + 3, none⟩ = some (.int .i64 n.d) ∧ X.cell? ⟨nb, no + k * 6 + 4, none⟩ = some (.int .i64 n.e) ∧ X.cell? ⟨nb, no + k * 6 + 5, none⟩ = some (.int .i64 n.f)) (with_reducible first | exact ⟨ry8, bd8, m0, m1, m2, m3, m4, m5⟩ | exact ⟨ry9, bd9, a0, a1, a2, a3, a4, a5⟩)
                  (first | (go_at_call 44; refine (hits_any v' n i0 i1 _).mono ?_; rintro e w9 ⟨rfl, hb⟩; rw [HT.out]; have I9 := I8d.kept hb; have RN := RD.kept hb; clear hb; have ry9 := I9.ry.c; have bd9 := I9.bd.c; have a0 : w9.cell? ⟨nb, no + k * 6, none⟩ = some (.int .i64 n.a) := RN.c 0 (by simp); have a1 : w9.cell? ⟨nb, no + k * 6 + 1, none⟩ = some (.int .i64 n.b) := RN.c 1 (by simp); have a2 : w9.cell? ⟨nb, no + k * 6 + 2, none⟩ = some (.int .i64 n.c) := RN.c 2 (by simp); have a3 : w9.cell? ⟨nb, no + k * 6 + 3, none⟩ = some (.int .i64 n.d) := RN.c 3 (by simp); have a4 : w9.cell? ⟨nb, no + k * 6 + 4, none⟩ = some (.int .i64 n.e) := RN.c 4 (by simp); have a5 : w9.cell? ⟨nb, no + k * 6 + 5, none⟩ = some (.int .i64 n.f) := RN.c 5 (by simp)))
                clear RD ry8 m0 m1 m2 m3 m4 m5 I8 I8d bd8
                by_cases he1 : he = 0
                · subst he1
                  by_cases hk2 : hk = 2
                  · subst hk2
                    have gn9 := I9.gn.c
                    have gl9 := I9.gn.lt
                    go_wp2_with fail
                    refine (leave_any (y := unk) _ (HN.out.kept I9.below) HLk.out I9.pt (leave_pre HK4.out HK3.out) (by omega)).mono ?_
                    rintro e w10 ⟨⟨_, rfl⟩, hg, hB10⟩
                    have I10 := I9.left hg hB10
                    obtain ⟨⟨lk, ⟨o0, o1, o2, o3, o4, o5⟩, ll, lh⟩, hv⟩ : ∃ r, leaveR n v' i0 i1 gl gh unk = r := ⟨_, rfl⟩
                    rw [hv] at I10
                    have HV := Lib.hid hv
                    clear hv hg hB10 ry9 bd9 gn9 gl9 a0 a1 a2 a3 a4 a5
                    have fp := I10.pt.c
                    have fl := I10.pt.lt
                    have r1 := I10.rs.c
                    have r2 := I10.rs.f
                    have r3 := I10.rs.lt
                    have lo := I10.lo
                    have nq : ¬ (w3.heap.size = w.heap.size + 1 + 1 + 1) := by omega
                    have nq2 : ¬ (w.heap.size + 1 + 1 + 1 = w3.heap.size) := by omega
                    have EQ : ((⟨lk, ⟨o0, o1, o2, o3, o4, o5⟩, ll, lh⟩ : LV), fs ++ [(k : Int)]) = (lvR, fsR) := Eq.trans (by cases m <;> (rw [followL, oneF, HH.out]; dsimp only; rw [if_pos rfl, HS.out]; dsimp only; rw [if_pos rfl, HA.out]; dsimp only; rw [if_pos rfl, HNn.out]; rw [HT.out]; dsimp only; rw [if_pos rfl, if_pos rfl, HV.out])) HF.out
                    dsimp only [lcells, unk, zD] at fp r1
                    have KB : Bx _ (w.heap.size + 1 + 1 + 1) [.int .i64 lk, .slice (some ⟨g', 0, none⟩) (fs.length + 1) cap', .int .i64 o0, .int .i64 o1, .int .i64 o2, .int .i64 o3, .int .i64 o4, .int .i64 o5, .int .i64 ll, .int .i64 lh] := ((((((((((I10.rs.put (i := 0) (u := .int .i64 lk)).put (i := 1) (u := .slice (some ⟨g', 0, none⟩) (fs.length + 1) cap')).put (i := 2) (u := .int .i64 o0)).put (i := 3) (u := .int .i64 o1)).put (i := 4) (u := .int .i64 o2)).put (i := 5) (u := .int .i64 o3)).put (i := 6) (u := .int .i64 o4)).put (i := 7) (u := .int .i64 o5)).put (i := 8) (u := .int .i64 ll)).put (i := 9) (u := .int .i64 lh))
                    have KR := row_down (row_set (b := w.heap.size + 1 + 1 + 1) (i := 9) (x := .int .i64 lh) (row_set (b := w.heap.size + 1 + 1 + 1) (i := 8) (x := .int .i64 ll) (row_set (b := w.heap.size + 1 + 1 + 1) (i := 7) (x := .int .i64 o5) (row_set (b := w.heap.size + 1 + 1 + 1) (i := 6) (x := .int .i64 o4) (row_set (b := w.heap.size + 1 + 1 + 1) (i := 5) (x := .int .i64 o3) (row_set (b := w.heap.size + 1 + 1 + 1) (i := 4) (x := .int .i64 o2) (row_set (b := w.heap.size + 1 + 1 + 1) (i := 3) (x := .int .i64 o1) (row_set (b := w.heap.size + 1 + 1 + 1) (i := 2) (x := .int .i64 o0) (row_set (b := w.heap.size + 1 + 1 + 1) (i := 1) (x := .slice (some ⟨g', 0, none⟩) (fs.length + 1) cap') (row_set (b := w.heap.size + 1 + 1 + 1) (i := 0) (x := .int .i64 lk) I10.row (by omega)) (by omega)) (by omega)) (by omega)) (by omega)) (by omega)) (by omega)) (by omega)) (by omega)) (by omega)) (by omega : w.heap.size ≤ _)
                    have KL := (Below.setCell (p := ⟨w.heap.size + 1 + 1 + 1, 9, none⟩) (Below.setCell (p := ⟨w.heap.size + 1 + 1 + 1, 8, none⟩) (Below.setCell (p := ⟨w.heap.size + 1 + 1 + 1, 7, none⟩) (Below.setCell (p := ⟨w.heap.size + 1 + 1 + 1, 6, none⟩) (Below.setCell (p := ⟨w.heap.size + 1 + 1 + 1, 5, none⟩) (Below.setCell (p := ⟨w.heap.size + 1 + 1 + 1, 4, none⟩) (Below.setCell (p := ⟨w.heap.size + 1 + 1 + 1, 3, none⟩) (Below.setCell (p := ⟨w.heap.size + 1 + 1 + 1, 2, none⟩) (Below.setCell (p := ⟨w.heap.size + 1 + 1 + 1, 1, none⟩) (Below.setCell (p := ⟨w.heap.size + 1 + 1 + 1, 0, none⟩) I10.below (by simp; omega) (.int .i64 lk)) (by simp; omega) (.slice (some ⟨g', 0, none⟩) (fs.length + 1) cap')) (by simp; omega) (.int .i64 o0)) (by simp; omega) (.int .i64 o1)) (by simp; omega) (.int .i64 o2)) (by simp; omega) (.int .i64 o3)) (by simp; omega) (.int .i64 o4)) (by simp; omega) (.int .i64 o5)) (by simp; omega) (.int .i64 ll)) (by simp; omega) (.int .i64 lh))
                    have EQH := Lib.hid EQ
                    have KBH := Lib.hid KB
                    have KRH := Lib.hid KR
                    have KLH := Lib.hid KL
                    clear EQ KB KR KL
                    go_wp2_with fail
                    rw [Exit.noGoto_ret]
                    obtain ⟨EQ1, EQ2⟩ := Prod.mk.inj EQH.out
                    subst EQ1 EQ2
                    refine bodyPost_box (b := w.heap.size + 1 + 1 + 1) (cs := [.int .i64 lk, .slice (some ⟨g', 0, none⟩) (fs.length + 1) cap', .int .i64 o0, .int .i64 o1, .int .i64 o2, .int .i64 o3, .int .i64 o4, .int .i64 o5, .int .i64 ll, .int .i64 lh]) (v := .tuple #[.agg (List.toArray [.int .i64 lk, .slice (some ⟨g', 0, none⟩) (fs.length + 1) cap', .int .i64 o0, .int .i64 o1, .int .i64 o2, .int .i64 o3, .int .i64 o4, .int .i64 o5, .int .i64 ll, .int .i64 lh]), .int .i64 0]) (by
                      (repeat (first | with_reducible exact KBH.out | with_reducible refine Bx.alc ?_ _))) (fun X hX => by simp [results, Try.results20, go_sem, hX]) rfl ⟨⟨.slice (some ⟨g', 0, none⟩) (fs.length + 1) cap', rfl, by (with_reducible first | exact KRH.out | exact KRH.out.alloc _ | exact (KRH.out.alloc _).alloc _ | exact ((KRH.out.alloc _).alloc _).alloc _)⟩, by
                      (repeat (first | with_reducible exact KLH.out | with_reducible refine Below.alloc ?_ (by simp; omega) _))⟩
                  · by_cases hk3 : hk = 1
                    · subst hk3
                      cases m with
                      | zero =>
                        have hcm : (fs.length : Int) = most := by omega
                        have fp := I9.pt.c
                        have fl := I9.pt.lt
                        have r1 := I9.rs.c
                        have r2 := I9.rs.f
                        have r3 := I9.rs.lt
                        have lo := I9.lo
                        have nq : ¬ (w3.heap.size = w.heap.size + 1 + 1 + 1) := by omega
                        have nq2 : ¬ (w.heap.size + 1 + 1 + 1 = w3.heap.size) := by omega
                        have EQ : (unk, fs ++ [(k : Int)]) = (lvR, fsR) := Eq.trans (by rw [followL, oneF, HH.out]; dsimp only; rw [if_pos rfl, HS.out]; dsimp only; rw [if_pos rfl, HA.out]; dsimp only; rw [if_pos rfl, HNn.out]; rw [HT.out]; dsimp only; rw [if_pos rfl, if_neg hk2, if_neg (by simp)]) HF.out
                        dsimp only [lcells, unk, zD] at fp r1
                        have KB : Bx _ (w.heap.size + 1 + 1 + 1) [.int .i64 3, .slice (some ⟨g', 0, none⟩) (fs.length + 1) cap', .int .i64 0, .int .i64 0, .int .i64 0, .int .i64 0, .int .i64 0, .int .i64 0, .int .i64 0, .int .i64 0] := ((((((((((I9.rs.put (i := 0) (u := .int .i64 3)).put (i := 1) (u := .slice (some ⟨g', 0, none⟩) (fs.length + 1) cap')).put (i := 2) (u := .int .i64 0)).put (i := 3) (u := .int .i64 0)).put (i := 4) (u := .int .i64 0)).put (i := 5) (u := .int .i64 0)).put (i := 6) (u := .int .i64 0)).put (i := 7) (u := .int .i64 0)).put (i := 8) (u := .int .i64 0)).put (i := 9) (u := .int .i64 0))
                        have KR := row_down (row_set (b := w.heap.size + 1 + 1 + 1) (i := 9) (x := .int .i64 0) (row_set (b := w.heap.size + 1 + 1 + 1) (i := 8) (x := .int .i64 0) (row_set (b := w.heap.size + 1 + 1 + 1) (i := 7) (x := .int .i64 0) (row_set (b := w.heap.size + 1 + 1 + 1) (i := 6) (x := .int .i64 0) (row_set (b := w.heap.size + 1 + 1 + 1) (i := 5) (x := .int .i64 0) (row_set (b := w.heap.size + 1 + 1 + 1) (i := 4) (x := .int .i64 0) (row_set (b := w.heap.size + 1 + 1 + 1) (i := 3) (x := .int .i64 0) (row_set (b := w.heap.size + 1 + 1 + 1) (i := 2) (x := .int .i64 0) (row_set (b := w.heap.size + 1 + 1 + 1) (i := 1) (x := .slice (some ⟨g', 0, none⟩) (fs.length + 1) cap') (row_set (b := w.heap.size + 1 + 1 + 1) (i := 0) (x := .int .i64 3) I9.row (by omega)) (by omega)) (by omega)) (by omega)) (by omega)) (by omega)) (by omega)) (by omega)) (by omega)) (by omega)) (by omega : w.heap.size ≤ _)
                        have KL := (Below.setCell (p := ⟨w.heap.size + 1 + 1 + 1, 9, none⟩) (Below.setCell (p := ⟨w.heap.size + 1 + 1 + 1, 8, none⟩) (Below.setCell (p := ⟨w.heap.size + 1 + 1 + 1, 7, none⟩) (Below.setCell (p := ⟨w.heap.size + 1 + 1 + 1, 6, none⟩) (Below.setCell (p := ⟨w.heap.size + 1 + 1 + 1, 5, none⟩) (Below.setCell (p := ⟨w.heap.size + 1 + 1 + 1, 4, none⟩) (Below.setCell (p := ⟨w.heap.size + 1 + 1 + 1, 3, none⟩) (Below.setCell (p := ⟨w.heap.size + 1 + 1 + 1, 2, none⟩) (Below.setCell (p := ⟨w.heap.size + 1 + 1 + 1, 1, none⟩) (Below.setCell (p := ⟨w.heap.size + 1 + 1 + 1, 0, none⟩) I9.below (by simp; omega) (.int .i64 3)) (by simp; omega) (.slice (some ⟨g', 0, none⟩) (fs.length + 1) cap')) (by simp; omega) (.int .i64 0)) (by simp; omega) (.int .i64 0)) (by simp; omega) (.int .i64 0)) (by simp; omega) (.int .i64 0)) (by simp; omega) (.int .i64 0)) (by simp; omega) (.int .i64 0)) (by simp; omega) (.int .i64 0)) (by simp; omega) (.int .i64 0))
                        have EQH := Lib.hid EQ
                        have KBH := Lib.hid KB
                        have KRH := Lib.hid KR
                        have KLH := Lib.hid KL
                        clear EQ KB KR KL
                        go_wp2_with fail
                        rw [Exit.noGoto_ret]
                        obtain ⟨EQ1, EQ2⟩ := Prod.mk.inj EQH.out
                        subst EQ1 EQ2
                        refine bodyPost_box (b := w.heap.size + 1 + 1 + 1) (cs := [.int .i64 3, .slice (some ⟨g', 0, none⟩) (fs.length + 1) cap', .int .i64 0, .int .i64 0, .int .i64 0, .int .i64 0, .int .i64 0, .int .i64 0, .int .i64 0, .int .i64 0]) (v := .tuple #[.agg (List.toArray [.int .i64 3, .slice (some ⟨g', 0, none⟩) (fs.length + 1) cap', .int .i64 0, .int .i64 0, .int .i64 0, .int .i64 0, .int .i64 0, .int .i64 0, .int .i64 0, .int .i64 0]), .int .i64 0]) (by
                          (repeat (first | with_reducible exact KBH.out | with_reducible refine Bx.alc ?_ _))) (fun X hX => by simp [results, Try.results20, go_sem, hX]) rfl ⟨⟨.slice (some ⟨g', 0, none⟩) (fs.length + 1) cap', rfl, by (with_reducible first | exact KRH.out | exact KRH.out.alloc _ | exact (KRH.out.alloc _).alloc _ | exact ((KRH.out.alloc _).alloc _).alloc _)⟩, by
                          (repeat (first | with_reducible exact KLH.out | with_reducible refine Below.alloc ?_ (by simp; omega) _))⟩
                      | succ m =>
                        obtain ⟨⟨⟨d0, d1, d2, d3, d4, d5⟩, re⟩, hrf⟩ : ∃ r, reflR v' n = r := ⟨_, rfl⟩
                        have HRF := Lib.hid hrf
                        clear hrf
                        have hcm : ¬ ((fs.length : Int) = most) := by omega
                        go_upto_region 20 with fail
                        clear hcm
                        clear ‹((fs.length : Int) == most) = false›
                        refine region_sets (F20.I w w3.heap.size da L.length nc L.length dc nb no k i0 i1 gl gh b0 b1 b2 b3 b4 b5 d0 d1 d2 d3 d4 d5 re n v' (fs ++ [(k : Int)]) (.slice (some ⟨g', 0, none⟩) (fs.length + 1) cap')) (by kernel_rfl) ?_ ?_ ?_
                        · refine ⟨false, false, false, false, false, false, false, false, false, false, false, false, false, false, u119, u120, u121, u122, u123, u124, u125, u126, u118, u127, u128, u129, (.int .i64 0), rfl, by simp only [Act.put, List.setIfInBounds_toArray, List.set_cons_zero, List.set_cons_succ], ?_⟩
                          constructor
                          · exact fun _ => I9.drew
                          · exact fun _ => RN.drew
                          all_goals (intro h; cases h)
                        · intro L9 a' w' hI i hi
                          obtain ⟨l0, l1, l2, l3, l4, l5, l6, l7, l8, l9, l10, l11, l12, l13, v0, v1, v2, v3, v4, v5, v6, v7, v8, v9, v10, v11, v13, rfl, rfl, h⟩ := hI
                          have hlt := ready_lt hi
                          match i, hi, hlt with
                          | 0, hi, _ =>
                            have l' : l0 = false := (ready_op (o := _) rfl hi).1
                            subst l'
                            clear hi hlt
                            have H := Lib.hid h
                            clear h
                            refine wpOp_shut rfl (fun K hK => ?_)
                            try simp only [Act.put, List.setIfInBounds_toArray, List.set_cons_zero, List.set_cons_succ]
                            go_simp
                            refine hK.out _ _ ?_
                            unfold F20.I
                            refine ⟨true, l1, l2, l3, l4, l5, l6, l7, l8, l9, l10, l11, l12, l13, (.pointer (some ⟨w.heap.size + 1, 6, none⟩)), v1, v2, v3, v4, v5, v6, v7, v8, v9, v10, v11, v13, rfl, ?_, ?_⟩
                            · simp only [Act.put, List.setIfInBounds_toArray, List.set_cons_zero, List.set_cons_succ]
                            · exact { H.out with ev0 := fun _ => rfl }
                          | 1, hi, _ =>
                            have l' : l1 = false := (ready_op (o := _) rfl hi).1
                            subst l'
                            have k0 : l0 = true := (ready_op (o := _) rfl hi).2 { on := 0, ground := .data } (by simp) rfl
                            clear hi hlt
                            subst k0
                            obtain rfl := h.ev0 rfl
                            have k12 : l12 = false := by
                              rcases Bool.eq_false_or_eq_true l12 with q | q
                              · exact nomatch (h.o7_1 (h.o8_7 (h.o9_8 (h.o12_9 q))))
                              · exact q
                            subst k12
                            have c := (h.a rfl).ry.c
                            have H := Lib.hid h
                            clear h
                            refine wpOp_shut rfl (fun K hK => ?_)
                            try simp only [Act.put, List.setIfInBounds_toArray, List.set_cons_zero, List.set_cons_succ]
                            go_simp
                            refine hK.out _ _ ?_
                            unfold F20.I
                            refine ⟨true, true, l2, l3, l4, l5, l6, l7, l8, l9, l10, l11, false, l13, (.pointer (some ⟨w.heap.size + 1, 6, none⟩)), (dv v'), v2, v3, v4, v5, v6, v7, v8, v9, v10, v11, v13, rfl, ?_, ?_⟩
                            · simp only [Act.put, List.setIfInBounds_toArray, List.set_cons_zero, List.set_cons_succ]
                            · exact { H.out with ev1 := fun _ => rfl, o7_1 := fun _ => rfl }
                          | 2, hi, _ =>
                            have l' : l2 = false := (ready_op (o := _) rfl hi).1
                            subst l'
                            clear hi hlt
                            have H := Lib.hid h
                            clear h
                            refine wpOp_shut rfl (fun K hK => ?_)
                            try simp only [Act.put, List.setIfInBounds_toArray, List.set_cons_zero, List.set_cons_succ]
                            go_simp
                            refine hK.out _ _ ?_
                            unfold F20.I
                            refine ⟨l0, l1, true, l3, l4, l5, l6, l7, l8, l9, l10, l11, l12, l13, v0, v1, (.pointer (some ⟨w.heap.size, 0, none⟩)), v3, v4, v5, v6, v7, v8, v9, v10, v11, v13, rfl, ?_, ?_⟩
                            · simp only [Act.put, List.setIfInBounds_toArray, List.set_cons_zero, List.set_cons_succ]
                            · exact { H.out with ev2 := fun _ => rfl }
                          | 3, hi, _ =>
                            have l' : l3 = false := (ready_op (o := _) rfl hi).1
                            subst l'
                            have k2 : l2 = true := (ready_op (o := _) rfl hi).2 { on := 2, ground := .data } (by simp) rfl
                            clear hi hlt
                            subst k2
                            obtain rfl := h.ev2 rfl
                            have k12 : l12 = false := by
                              rcases Bool.eq_false_or_eq_true l12 with q | q
                              · exact nomatch (h.o5_3 (h.o6_5 (h.o7_6 (h.o8_7 (h.o9_8 (h.o12_9 q))))))
                              · exact q
                            subst k12
                            have c := (h.a rfl).bd.c
                            have H := Lib.hid h
                            clear h
                            refine wpOp_shut rfl (fun K hK => ?_)
                            try simp only [Act.put, List.setIfInBounds_toArray, List.set_cons_zero, List.set_cons_succ]
                            go_simp
                            refine hK.out _ _ ?_
                            unfold F20.I
                            refine ⟨l0, l1, true, true, l4, l5, l6, l7, l8, l9, l10, l11, false, l13, v0, v1, (.pointer (some ⟨w.heap.size, 0, none⟩)), (.slice (some ⟨nb, no, none⟩) L.length nc), v4, v5, v6, v7, v8, v9, v10, v11, v13, rfl, ?_, ?_⟩
                            · simp only [Act.put, List.setIfInBounds_toArray, List.set_cons_zero, List.set_cons_succ]
                            · exact { H.out with ev3 := fun _ => rfl, o5_3 := fun _ => rfl }
                          | 4, hi, _ =>
                            have l' : l4 = false := (ready_op (o := _) rfl hi).1
                            subst l'
                            clear hi hlt
                            have H := Lib.hid h
                            clear h
                            refine wpOp_shut rfl (fun K hK => ?_)
                            try simp only [Act.put, List.setIfInBounds_toArray, List.set_cons_zero, List.set_cons_succ]
                            go_simp
                            refine hK.out _ _ ?_
                            unfold F20.I
                            refine ⟨l0, l1, l2, l3, true, l5, l6, l7, l8, l9, l10, l11, l12, l13, v0, v1, v2, v3, (.int .i64 k), v5, v6, v7, v8, v9, v10, v11, v13, rfl, ?_, ?_⟩
                            · simp only [Act.put, List.setIfInBounds_toArray, List.set_cons_zero, List.set_cons_succ]
                            · exact { H.out with ev4 := fun _ => rfl }
                          | 5, hi, _ =>
                            have l' : l5 = false := (ready_op (o := _) rfl hi).1
                            subst l'
                            have k3 : l3 = true := (ready_op (o := _) rfl hi).2 { on := 3, ground := .data } (by simp) rfl
                            have k4 : l4 = true := (ready_op (o := _) rfl hi).2 { on := 4, ground := .data } (by simp) rfl
                            clear hi hlt
                            subst k3
                            subst k4
                            obtain rfl := h.ev3 rfl
                            obtain rfl := h.ev4 rfl
                            have H := Lib.hid h
                            clear h
                            refine wpOp_shut rfl (fun K hK => ?_)
                            try simp only [Act.put, List.setIfInBounds_toArray, List.set_cons_zero, List.set_cons_succ]
                            go_simp
                            refine hK.out _ _ ?_
                            unfold F20.I
                            refine ⟨l0, l1, l2, true, true, true, l6, l7, l8, l9, l10, l11, l12, l13, v0, v1, v2, (.slice (some ⟨nb, no, none⟩) L.length nc), (.int .i64 k), (.pointer (some ⟨nb, no + k * 6, none⟩)), v6, v7, v8, v9, v10, v11, v13, rfl, ?_, ?_⟩
                            · simp only [Act.put, List.setIfInBounds_toArray, List.set_cons_zero, List.set_cons_succ]
                            · exact { H.out with ev5 := fun _ => rfl, o6_5 := fun _ => rfl, o5_3 := fun _ => rfl }
                          | 6, hi, _ =>
                            have l' : l6 = false := (ready_op (o := _) rfl hi).1
                            subst l'
                            have k5 : l5 = true := (ready_op (o := _) rfl hi).2 { on := 5, ground := .data } (by simp) rfl
                            clear hi hlt
                            subst k5
                            obtain rfl := h.ev5 rfl
                            have k12 : l12 = false := by
                              rcases Bool.eq_false_or_eq_true l12 with q | q
                              · exact nomatch (h.o7_6 (h.o8_7 (h.o9_8 (h.o12_9 q))))
                              · exact q
                            subst k12
                            have c0 := (h.r rfl).c 0 (by simp)
                            have c1 := (h.r rfl).c 1 (by simp)
                            have c2 := (h.r rfl).c 2 (by simp)
                            have c3 := (h.r rfl).c 3 (by simp)
                            have c4 := (h.r rfl).c 4 (by simp)
                            have c5 := (h.r rfl).c 5 (by simp)
                            simp only [Nat.add_zero] at c0
                            have H := Lib.hid h
                            clear h
                            refine wpOp_shut rfl (fun K hK => ?_)
                            try simp only [Act.put, List.setIfInBounds_toArray, List.set_cons_zero, List.set_cons_succ]
                            go_simp
                            refine hK.out _ _ ?_
                            unfold F20.I
                            refine ⟨l0, l1, l2, l3, l4, true, true, l7, l8, l9, l10, l11, false, l13, v0, v1, v2, v3, v4, (.pointer (some ⟨nb, no + k * 6, none⟩)), (dv n), v7, v8, v9, v10, v11, v13, rfl, ?_, ?_⟩
                            · simp only [Act.put, List.setIfInBounds_toArray, List.set_cons_zero, List.set_cons_succ]
                            · exact { H.out with ev6 := fun _ => rfl, o7_6 := fun _ => rfl, o6_5 := fun _ => rfl }
                          | 7, hi, _ =>
                            have l' : l7 = false := (ready_op (o := _) rfl hi).1
                            subst l'
                            have k1 : l1 = true := (ready_op (o := _) rfl hi).2 { on := 1, ground := .data } (by simp) rfl
                            have k6 : l6 = true := (ready_op (o := _) rfl hi).2 { on := 6, ground := .data } (by simp) rfl
                            clear hi hlt
                            subst k1
                            subst k6
                            obtain rfl := h.ev1 rfl
                            obtain rfl := h.ev6 rfl
                            have H := Lib.hid h
                            clear h
                            refine wpOp_shut rfl (fun K hK => ?_)
                            try simp only [Act.put, List.setIfInBounds_toArray, List.set_cons_zero, List.set_cons_succ]
                            go_simp
                            refine (reflect_any v' n _).mono ?_
                            rintro e wY ⟨rfl, hb⟩
                            rw [HRF.out]
                            try go_simp
                            refine hK.out _ _ ?_
                            unfold F20.I
                            refine ⟨l0, true, l2, l3, l4, l5, true, true, l8, l9, l10, l11, l12, l13, v0, (dv v'), v2, v3, v4, v5, (dv n), (.tuple #[dv ⟨d0, d1, d2, d3, d4, d5⟩, .int .i64 re]), v8, v9, v10, v11, v13, rfl, ?_, ?_⟩
                            · simp only [Act.put, List.setIfInBounds_toArray, List.set_cons_zero, List.set_cons_succ]
                            · exact { (H.out.kept hb) with ev7 := fun _ => rfl, o8_7 := fun _ => rfl, o7_1 := fun _ => rfl, o7_6 := fun _ => rfl }
                          | 8, hi, _ =>
                            have l' : l8 = false := (ready_op (o := _) rfl hi).1
                            subst l'
                            have k7 : l7 = true := (ready_op (o := _) rfl hi).2 { on := 7, ground := .data } (by simp) rfl
                            clear hi hlt
                            subst k7
                            obtain rfl := h.ev7 rfl
                            have H := Lib.hid h
                            clear h
                            refine wpOp_shut rfl (fun K hK => ?_)
                            try simp only [Act.put, List.setIfInBounds_toArray, List.set_cons_zero, List.set_cons_succ]
                            go_simp
                            refine hK.out _ _ ?_
                            unfold F20.I
                            refine ⟨l0, l1, l2, l3, l4, l5, l6, true, true, l9, l10, l11, l12, l13, v0, v1, v2, v3, v4, v5, v6, (.tuple #[dv ⟨d0, d1, d2, d3, d4, d5⟩, .int .i64 re]), (.tuple #[dv ⟨d0, d1, d2, d3, d4, d5⟩, .int .i64 re]), v9, v10, v11, v13, rfl, ?_, ?_⟩
                            · simp only [Act.put, List.setIfInBounds_toArray, List.set_cons_zero, List.set_cons_succ]
                            · exact { H.out with ev8 := fun _ => rfl, o9_8 := fun _ => rfl, o8_7 := fun _ => rfl }
                          | 9, hi, _ =>
                            have l' : l9 = false := (ready_op (o := _) rfl hi).1
                            subst l'
                            have k8 : l8 = true := (ready_op (o := _) rfl hi).2 { on := 8, ground := .data } (by simp) rfl
                            clear hi hlt
                            subst k8
                            obtain rfl := h.ev8 rfl
                            have H := Lib.hid h
                            clear h
                            refine wpOp_shut rfl (fun K hK => ?_)
                            try simp only [Act.put, List.setIfInBounds_toArray, List.set_cons_zero, List.set_cons_succ]
                            go_simp
                            refine hK.out _ _ ?_
                            unfold F20.I
                            refine ⟨l0, l1, l2, l3, l4, l5, l6, l7, true, true, l10, l11, l12, l13, v0, v1, v2, v3, v4, v5, v6, v7, (.tuple #[dv ⟨d0, d1, d2, d3, d4, d5⟩, .int .i64 re]), (dv ⟨d0, d1, d2, d3, d4, d5⟩), v10, v11, v13, rfl, ?_, ?_⟩
                            · simp only [Act.put, List.setIfInBounds_toArray, List.set_cons_zero, List.set_cons_succ]
                            · exact { H.out with ev9 := fun _ => rfl, o12_9 := fun _ => rfl, o9_8 := fun _ => rfl }
                          | 10, hi, _ =>
                            have l' : l10 = false := (ready_op (o := _) rfl hi).1
                            subst l'
                            have k8 : l8 = true := (ready_op (o := _) rfl hi).2 { on := 8, ground := .data } (by simp) rfl
                            clear hi hlt
                            subst k8
                            obtain rfl := h.ev8 rfl
                            have H := Lib.hid h
                            clear h
                            refine wpOp_shut rfl (fun K hK => ?_)
                            try simp only [Act.put, List.setIfInBounds_toArray, List.set_cons_zero, List.set_cons_succ]
                            go_simp
                            refine hK.out _ _ ?_
                            unfold F20.I
                            refine ⟨l0, l1, l2, l3, l4, l5, l6, l7, true, l9, true, l11, l12, l13, v0, v1, v2, v3, v4, v5, v6, v7, (.tuple #[dv ⟨d0, d1, d2, d3, d4, d5⟩, .int .i64 re]), v9, (.int .i64 re), v11, v13, rfl, ?_, ?_⟩
                            · simp only [Act.put, List.setIfInBounds_toArray, List.set_cons_zero, List.set_cons_succ]
                            · exact { H.out with ev10 := fun _ => rfl }
                          | 11, hi, _ =>
                            have l' : l11 = false := (ready_op (o := _) rfl hi).1
                            subst l'
                            have k0 : l0 = true := (ready_op (o := _) rfl hi).2 { on := 0, ground := .phase } (by simp) rfl
                            have k1 : l1 = true := (ready_op (o := _) rfl hi).2 { on := 1, ground := .phase } (by simp) rfl
                            have k2 : l2 = true := (ready_op (o := _) rfl hi).2 { on := 2, ground := .phase } (by simp) rfl
                            have k3 : l3 = true := (ready_op (o := _) rfl hi).2 { on := 3, ground := .phase } (by simp) rfl
                            have k4 : l4 = true := (ready_op (o := _) rfl hi).2 { on := 4, ground := .phase } (by simp) rfl
                            have k5 : l5 = true := (ready_op (o := _) rfl hi).2 { on := 5, ground := .phase } (by simp) rfl
                            have k6 : l6 = true := (ready_op (o := _) rfl hi).2 { on := 6, ground := .phase } (by simp) rfl
                            have k7 : l7 = true := (ready_op (o := _) rfl hi).2 { on := 7, ground := .phase } (by simp) rfl
                            have k8 : l8 = true := (ready_op (o := _) rfl hi).2 { on := 8, ground := .phase } (by simp) rfl
                            have k9 : l9 = true := (ready_op (o := _) rfl hi).2 { on := 9, ground := .phase } (by simp) rfl
                            clear hi hlt
                            subst k0
                            subst k1
                            subst k2
                            subst k3
                            subst k4
                            subst k5
                            subst k6
                            subst k7
                            subst k8
                            subst k9
                            obtain rfl := h.ev0 rfl
                            obtain rfl := h.ev1 rfl
                            obtain rfl := h.ev2 rfl
                            obtain rfl := h.ev3 rfl
                            obtain rfl := h.ev4 rfl
                            obtain rfl := h.ev5 rfl
                            obtain rfl := h.ev6 rfl
                            obtain rfl := h.ev7 rfl
                            obtain rfl := h.ev8 rfl
                            obtain rfl := h.ev9 rfl
                            have H := Lib.hid h
                            clear h
                            refine wpOp_shut rfl (fun K hK => ?_)
                            try simp only [Act.put, List.setIfInBounds_toArray, List.set_cons_zero, List.set_cons_succ]
                            go_simp
                            refine hK.out _ _ ?_
                            unfold F20.I
                            refine ⟨true, true, true, true, true, true, true, true, true, true, l10, true, l12, l13, (.pointer (some ⟨w.heap.size + 1, 6, none⟩)), (dv v'), (.pointer (some ⟨w.heap.size, 0, none⟩)), (.slice (some ⟨nb, no, none⟩) L.length nc), (.int .i64 k), (.pointer (some ⟨nb, no + k * 6, none⟩)), (dv n), (.tuple #[dv ⟨d0, d1, d2, d3, d4, d5⟩, .int .i64 re]), (.tuple #[dv ⟨d0, d1, d2, d3, d4, d5⟩, .int .i64 re]), (dv ⟨d0, d1, d2, d3, d4, d5⟩), v10, (.pointer (some ⟨w.heap.size + 1, 6, none⟩)), v13, rfl, ?_, ?_⟩
                            · simp only [Act.put, List.setIfInBounds_toArray, List.set_cons_zero, List.set_cons_succ]
                            · exact { H.out with ev11 := fun _ => rfl }
                          | 12, hi, _ =>
                            have l' : l12 = false := (ready_op (o := _) rfl hi).1
                            subst l'
                            have k11 : l11 = true := (ready_op (o := _) rfl hi).2 { on := 11, ground := .data } (by simp) rfl
                            have k9 : l9 = true := (ready_op (o := _) rfl hi).2 { on := 9, ground := .phase } (by simp) rfl
                            have k7 : l7 = true := (ready_op (o := _) rfl hi).2 { on := 7, ground := .phase } (by simp) rfl
                            have k0 : l0 = true := (ready_op (o := _) rfl hi).2 { on := 0, ground := .phase } (by simp) rfl
                            have k1 : l1 = true := (ready_op (o := _) rfl hi).2 { on := 1, ground := .phase } (by simp) rfl
                            have k2 : l2 = true := (ready_op (o := _) rfl hi).2 { on := 2, ground := .phase } (by simp) rfl
                            have k3 : l3 = true := (ready_op (o := _) rfl hi).2 { on := 3, ground := .phase } (by simp) rfl
                            have k4 : l4 = true := (ready_op (o := _) rfl hi).2 { on := 4, ground := .phase } (by simp) rfl
                            have k5 : l5 = true := (ready_op (o := _) rfl hi).2 { on := 5, ground := .phase } (by simp) rfl
                            have k6 : l6 = true := (ready_op (o := _) rfl hi).2 { on := 6, ground := .phase } (by simp) rfl
                            have k8 : l8 = true := (ready_op (o := _) rfl hi).2 { on := 8, ground := .phase } (by simp) rfl
                            clear hi hlt
                            subst k11
                            subst k9
                            subst k7
                            subst k0
                            subst k1
                            subst k2
                            subst k3
                            subst k4
                            subst k5
                            subst k6
                            subst k8
                            obtain rfl := h.ev11 rfl
                            obtain rfl := h.ev9 rfl
                            obtain rfl := h.ev7 rfl
                            obtain rfl := h.ev0 rfl
                            obtain rfl := h.ev1 rfl
                            obtain rfl := h.ev2 rfl
                            obtain rfl := h.ev3 rfl
                            obtain rfl := h.ev4 rfl
                            obtain rfl := h.ev5 rfl
                            obtain rfl := h.ev6 rfl
                            obtain rfl := h.ev8 rfl
                            have c := (h.a rfl).ry.c
                            have f := (h.a rfl).ry.f
                            have H := Lib.hid h
                            clear h
                            refine wpOp_shut rfl (fun K hK => ?_)
                            try simp only [Act.put, List.setIfInBounds_toArray, List.set_cons_zero, List.set_cons_succ]
                            go_simp
                            refine hK.out _ _ ?_
                            unfold F20.I
                            refine ⟨true, true, true, true, true, true, true, true, true, true, l10, true, true, l13, (.pointer (some ⟨w.heap.size + 1, 6, none⟩)), (dv v'), (.pointer (some ⟨w.heap.size, 0, none⟩)), (.slice (some ⟨nb, no, none⟩) L.length nc), (.int .i64 k), (.pointer (some ⟨nb, no + k * 6, none⟩)), (dv n), (.tuple #[dv ⟨d0, d1, d2, d3, d4, d5⟩, .int .i64 re]), (.tuple #[dv ⟨d0, d1, d2, d3, d4, d5⟩, .int .i64 re]), (dv ⟨d0, d1, d2, d3, d4, d5⟩), v10, (.pointer (some ⟨w.heap.size + 1, 6, none⟩)), v13, rfl, ?_, ?_⟩
                            · simp only [Act.put, List.setIfInBounds_toArray, List.set_cons_zero, List.set_cons_succ]
                            · exact { H.out with a := fun p => (nomatch p), r := fun p => (nomatch p), b := fun _ => (((((((H.out.a rfl).ray 6 (.int .i64 d0)).ray 7 (.int .i64 d1)).ray 8 (.int .i64 d2)).ray 9 (.int .i64 d3)).ray 10 (.int .i64 d4)).ray 11 (.int .i64 d5)), o12_9 := fun _ => rfl }
                          | 13, hi, _ =>
                            have l' : l13 = false := (ready_op (o := _) rfl hi).1
                            subst l'
                            have k10 : l10 = true := (ready_op (o := _) rfl hi).2 { on := 10, ground := .phase } (by simp) rfl
                            have k12 : l12 = true := (ready_op (o := _) rfl hi).2 { on := 12, ground := .phase } (by simp) rfl
                            have k0 : l0 = true := (ready_op (o := _) rfl hi).2 { on := 0, ground := .phase } (by simp) rfl
                            have k1 : l1 = true := (ready_op (o := _) rfl hi).2 { on := 1, ground := .phase } (by simp) rfl
                            have k2 : l2 = true := (ready_op (o := _) rfl hi).2 { on := 2, ground := .phase } (by simp) rfl
                            have k3 : l3 = true := (ready_op (o := _) rfl hi).2 { on := 3, ground := .phase } (by simp) rfl
                            have k4 : l4 = true := (ready_op (o := _) rfl hi).2 { on := 4, ground := .phase } (by simp) rfl
                            have k5 : l5 = true := (ready_op (o := _) rfl hi).2 { on := 5, ground := .phase } (by simp) rfl
                            have k6 : l6 = true := (ready_op (o := _) rfl hi).2 { on := 6, ground := .phase } (by simp) rfl
                            have k7 : l7 = true := (ready_op (o := _) rfl hi).2 { on := 7, ground := .phase } (by simp) rfl
                            have k8 : l8 = true := (ready_op (o := _) rfl hi).2 { on := 8, ground := .phase } (by simp) rfl
                            have k9 : l9 = true := (ready_op (o := _) rfl hi).2 { on := 9, ground := .phase } (by simp) rfl
                            have k11 : l11 = true := (ready_op (o := _) rfl hi).2 { on := 11, ground := .phase } (by simp) rfl
                            clear hi hlt
                            subst k10
                            subst k12
                            subst k0
                            subst k1
                            subst k2
                            subst k3
                            subst k4
                            subst k5
                            subst k6
                            subst k7
                            subst k8
                            subst k9
                            subst k11
                            obtain rfl := h.ev10 rfl
                            obtain rfl := h.ev0 rfl
                            obtain rfl := h.ev1 rfl
                            obtain rfl := h.ev2 rfl
                            obtain rfl := h.ev3 rfl
                            obtain rfl := h.ev4 rfl
                            obtain rfl := h.ev5 rfl
                            obtain rfl := h.ev6 rfl
                            obtain rfl := h.ev7 rfl
                            obtain rfl := h.ev8 rfl
                            obtain rfl := h.ev9 rfl
                            obtain rfl := h.ev11 rfl
                            have H := Lib.hid h
                            clear h
                            refine wpOp_shut rfl (fun K hK => ?_)
                            try simp only [Act.put, List.setIfInBounds_toArray, List.set_cons_zero, List.set_cons_succ]
                            go_simp
                            refine hK.out _ _ ?_
                            unfold F20.I
                            refine ⟨true, true, true, true, true, true, true, true, true, true, true, true, true, true, (.pointer (some ⟨w.heap.size + 1, 6, none⟩)), (dv v'), (.pointer (some ⟨w.heap.size, 0, none⟩)), (.slice (some ⟨nb, no, none⟩) L.length nc), (.int .i64 k), (.pointer (some ⟨nb, no + k * 6, none⟩)), (dv n), (.tuple #[dv ⟨d0, d1, d2, d3, d4, d5⟩, .int .i64 re]), (.tuple #[dv ⟨d0, d1, d2, d3, d4, d5⟩, .int .i64 re]), (dv ⟨d0, d1, d2, d3, d4, d5⟩), (.int .i64 re), (.pointer (some ⟨w.heap.size + 1, 6, none⟩)), (.int .i64 re), rfl, ?_, ?_⟩
                            · simp only [Act.put, List.setIfInBounds_toArray, List.set_cons_zero, List.set_cons_succ]
                            · exact { H.out with ev13 := fun _ => rfl }
                          | i + 14, _, hlt => exact absurd hlt (by simp)
                        · intro L9 a' w' hI hn
                          obtain ⟨l0, l1, l2, l3, l4, l5, l6, l7, l8, l9, l10, l11, l12, l13, v0, v1, v2, v3, v4, v5, v6, v7, v8, v9, v10, v11, v13, rfl, rfl, h⟩ := hI
                          have k0 : l0 = true := not_ready (i := 0) (o := _) rfl hn (by simp [Region.binds])
                          subst k0
                          have k1 : l1 = true := not_ready (i := 1) (o := _) rfl hn (by simp [Region.binds])
                          subst k1
                          have k2 : l2 = true := not_ready (i := 2) (o := _) rfl hn (by simp [Region.binds])
                          subst k2
                          have k3 : l3 = true := not_ready (i := 3) (o := _) rfl hn (by simp [Region.binds])
                          subst k3
                          have k4 : l4 = true := not_ready (i := 4) (o := _) rfl hn (by simp [Region.binds])
                          subst k4
                          have k5 : l5 = true := not_ready (i := 5) (o := _) rfl hn (by simp [Region.binds])
                          subst k5
                          have k6 : l6 = true := not_ready (i := 6) (o := _) rfl hn (by simp [Region.binds])
                          subst k6
                          have k7 : l7 = true := not_ready (i := 7) (o := _) rfl hn (by simp [Region.binds])
                          subst k7
                          have k8 : l8 = true := not_ready (i := 8) (o := _) rfl hn (by simp [Region.binds])
                          subst k8
                          have k9 : l9 = true := not_ready (i := 9) (o := _) rfl hn (by simp [Region.binds])
                          subst k9
                          have k10 : l10 = true := not_ready (i := 10) (o := _) rfl hn (by simp [Region.binds])
                          subst k10
                          have k11 : l11 = true := not_ready (i := 11) (o := _) rfl hn (by simp [Region.binds])
                          subst k11
                          have k12 : l12 = true := not_ready (i := 12) (o := _) rfl hn (by simp [Region.binds])
                          subst k12
                          have k13 : l13 = true := not_ready (i := 13) (o := _) rfl hn (by simp [Region.binds])
                          subst k13
                          clear hn
                          obtain rfl := h.ev0 rfl
                          obtain rfl := h.ev1 rfl
                          obtain rfl := h.ev2 rfl
                          obtain rfl := h.ev3 rfl
                          obtain rfl := h.ev4 rfl
                          obtain rfl := h.ev5 rfl
                          obtain rfl := h.ev6 rfl
                          obtain rfl := h.ev7 rfl
                          obtain rfl := h.ev8 rfl
                          obtain rfl := h.ev9 rfl
                          obtain rfl := h.ev10 rfl
                          obtain rfl := h.ev11 rfl
                          obtain rfl := h.ev13 rfl
                          simp only [Act.put, List.setIfInBounds_toArray, List.set_cons_zero, List.set_cons_succ]
                          rename World => w12
                          have I12 := h.b rfl
                          have hcm : ¬ ((fs.length : Int) = most) := by omega
                          clear h I9 RN ry9 bd9 a0 a1 a2 a3 a4 a5
                          by_cases re0 : re = 0
                          · subst re0
                            go_wp2_with fail
                            go_roundw
                            case rel => exact ⟨fs.length + 1, m, ⟨b0, b1, b2, b3, b4, b5⟩, ⟨d0, d1, d2, d3, d4, d5⟩, fs ++ [(k : Int)], .slice (some ⟨g', 0, none⟩) (fs.length + 1) cap', by simp, by omega, by simp, I12, Eq.trans (Eq.symm (by rw [followL, oneF, HH.out]; dsimp only; rw [if_pos rfl, HS.out]; dsimp only; rw [if_pos rfl, HA.out]; dsimp only; rw [if_pos rfl, HNn.out]; rw [HT.out]; dsimp only; rw [if_pos rfl, if_neg (by decide), if_pos ⟨rfl, rfl⟩, HRF.out]; dsimp only; rw [if_pos rfl])) HF.out⟩
                            case measure => simp only [intOf]; omega
                          · have fp := I12.pt.c
                            have fl := I12.pt.lt
                            have r1 := I12.rs.c
                            have r2 := I12.rs.f
                            have r3 := I12.rs.lt
                            have lo := I12.lo
                            have nq : ¬ (w3.heap.size = w.heap.size + 1 + 1 + 1) := by omega
                            have nq2 : ¬ (w.heap.size + 1 + 1 + 1 = w3.heap.size) := by omega
                            have EQ : (unk, fs ++ [(k : Int)]) = (lvR, fsR) := Eq.trans (by rw [followL, oneF, HH.out]; dsimp only; rw [if_pos rfl, HS.out]; dsimp only; rw [if_pos rfl, HA.out]; dsimp only; rw [if_pos rfl, HNn.out]; rw [HT.out]; dsimp only; rw [if_pos rfl, if_neg (by decide), if_pos ⟨rfl, rfl⟩, HRF.out]; dsimp only; rw [if_neg re0]) HF.out
                            dsimp only [lcells, unk, zD] at fp r1
                            have KB : Bx _ (w.heap.size + 1 + 1 + 1) [.int .i64 3, .slice (some ⟨g', 0, none⟩) (fs.length + 1) cap', .int .i64 0, .int .i64 0, .int .i64 0, .int .i64 0, .int .i64 0, .int .i64 0, .int .i64 0, .int .i64 0] := ((((((((((I12.rs.put (i := 0) (u := .int .i64 3)).put (i := 1) (u := .slice (some ⟨g', 0, none⟩) (fs.length + 1) cap')).put (i := 2) (u := .int .i64 0)).put (i := 3) (u := .int .i64 0)).put (i := 4) (u := .int .i64 0)).put (i := 5) (u := .int .i64 0)).put (i := 6) (u := .int .i64 0)).put (i := 7) (u := .int .i64 0)).put (i := 8) (u := .int .i64 0)).put (i := 9) (u := .int .i64 0))
                            have KR := row_down (row_set (b := w.heap.size + 1 + 1 + 1) (i := 9) (x := .int .i64 0) (row_set (b := w.heap.size + 1 + 1 + 1) (i := 8) (x := .int .i64 0) (row_set (b := w.heap.size + 1 + 1 + 1) (i := 7) (x := .int .i64 0) (row_set (b := w.heap.size + 1 + 1 + 1) (i := 6) (x := .int .i64 0) (row_set (b := w.heap.size + 1 + 1 + 1) (i := 5) (x := .int .i64 0) (row_set (b := w.heap.size + 1 + 1 + 1) (i := 4) (x := .int .i64 0) (row_set (b := w.heap.size + 1 + 1 + 1) (i := 3) (x := .int .i64 0) (row_set (b := w.heap.size + 1 + 1 + 1) (i := 2) (x := .int .i64 0) (row_set (b := w.heap.size + 1 + 1 + 1) (i := 1) (x := .slice (some ⟨g', 0, none⟩) (fs.length + 1) cap') (row_set (b := w.heap.size + 1 + 1 + 1) (i := 0) (x := .int .i64 3) I12.row (by omega)) (by omega)) (by omega)) (by omega)) (by omega)) (by omega)) (by omega)) (by omega)) (by omega)) (by omega)) (by omega : w.heap.size ≤ _)
                            have KL := (Below.setCell (p := ⟨w.heap.size + 1 + 1 + 1, 9, none⟩) (Below.setCell (p := ⟨w.heap.size + 1 + 1 + 1, 8, none⟩) (Below.setCell (p := ⟨w.heap.size + 1 + 1 + 1, 7, none⟩) (Below.setCell (p := ⟨w.heap.size + 1 + 1 + 1, 6, none⟩) (Below.setCell (p := ⟨w.heap.size + 1 + 1 + 1, 5, none⟩) (Below.setCell (p := ⟨w.heap.size + 1 + 1 + 1, 4, none⟩) (Below.setCell (p := ⟨w.heap.size + 1 + 1 + 1, 3, none⟩) (Below.setCell (p := ⟨w.heap.size + 1 + 1 + 1, 2, none⟩) (Below.setCell (p := ⟨w.heap.size + 1 + 1 + 1, 1, none⟩) (Below.setCell (p := ⟨w.heap.size + 1 + 1 + 1, 0, none⟩) I12.below (by simp; omega) (.int .i64 3)) (by simp; omega) (.slice (some ⟨g', 0, none⟩) (fs.length + 1) cap')) (by simp; omega) (.int .i64 0)) (by simp; omega) (.int .i64 0)) (by simp; omega) (.int .i64 0)) (by simp; omega) (.int .i64 0)) (by simp; omega) (.int .i64 0)) (by simp; omega) (.int .i64 0)) (by simp; omega) (.int .i64 0)) (by simp; omega) (.int .i64 0))
                            have EQH := Lib.hid EQ
                            have KBH := Lib.hid KB
                            have KRH := Lib.hid KR
                            have KLH := Lib.hid KL
                            clear EQ KB KR KL
                            go_wp2_with fail
                            rw [Exit.noGoto_ret]
                            obtain ⟨EQ1, EQ2⟩ := Prod.mk.inj EQH.out
                            subst EQ1 EQ2
                            refine bodyPost_box (b := w.heap.size + 1 + 1 + 1) (cs := [.int .i64 3, .slice (some ⟨g', 0, none⟩) (fs.length + 1) cap', .int .i64 0, .int .i64 0, .int .i64 0, .int .i64 0, .int .i64 0, .int .i64 0, .int .i64 0, .int .i64 0]) (v := .tuple #[.agg (List.toArray [.int .i64 3, .slice (some ⟨g', 0, none⟩) (fs.length + 1) cap', .int .i64 0, .int .i64 0, .int .i64 0, .int .i64 0, .int .i64 0, .int .i64 0, .int .i64 0, .int .i64 0]), .int .i64 0]) (by
                              (repeat (first | with_reducible exact KBH.out | with_reducible refine Bx.alc ?_ _))) (fun X hX => by simp [results, Try.results20, go_sem, hX]) rfl ⟨⟨.slice (some ⟨g', 0, none⟩) (fs.length + 1) cap', rfl, by (with_reducible first | exact KRH.out | exact KRH.out.alloc _ | exact (KRH.out.alloc _).alloc _ | exact ((KRH.out.alloc _).alloc _).alloc _)⟩, by
                              (repeat (first | with_reducible exact KLH.out | with_reducible refine Below.alloc ?_ (by simp; omega) _))⟩
                    · have fp := I9.pt.c
                      have fl := I9.pt.lt
                      have r1 := I9.rs.c
                      have r2 := I9.rs.f
                      have r3 := I9.rs.lt
                      have lo := I9.lo
                      have nq : ¬ (w3.heap.size = w.heap.size + 1 + 1 + 1) := by omega
                      have nq2 : ¬ (w.heap.size + 1 + 1 + 1 = w3.heap.size) := by omega
                      have EQ : (unk, fs ++ [(k : Int)]) = (lvR, fsR) := Eq.trans (by cases m <;> (rw [followL, oneF, HH.out]; dsimp only; rw [if_pos rfl, HS.out]; dsimp only; rw [if_pos rfl, HA.out]; dsimp only; rw [if_pos rfl, HNn.out]; rw [HT.out]; dsimp only; rw [if_pos rfl, if_neg hk2, if_neg (fun h => hk3 h.1)])) HF.out
                      dsimp only [lcells, unk, zD] at fp r1
                      have KB : Bx _ (w.heap.size + 1 + 1 + 1) [.int .i64 3, .slice (some ⟨g', 0, none⟩) (fs.length + 1) cap', .int .i64 0, .int .i64 0, .int .i64 0, .int .i64 0, .int .i64 0, .int .i64 0, .int .i64 0, .int .i64 0] := ((((((((((I9.rs.put (i := 0) (u := .int .i64 3)).put (i := 1) (u := .slice (some ⟨g', 0, none⟩) (fs.length + 1) cap')).put (i := 2) (u := .int .i64 0)).put (i := 3) (u := .int .i64 0)).put (i := 4) (u := .int .i64 0)).put (i := 5) (u := .int .i64 0)).put (i := 6) (u := .int .i64 0)).put (i := 7) (u := .int .i64 0)).put (i := 8) (u := .int .i64 0)).put (i := 9) (u := .int .i64 0))
                      have KR := row_down (row_set (b := w.heap.size + 1 + 1 + 1) (i := 9) (x := .int .i64 0) (row_set (b := w.heap.size + 1 + 1 + 1) (i := 8) (x := .int .i64 0) (row_set (b := w.heap.size + 1 + 1 + 1) (i := 7) (x := .int .i64 0) (row_set (b := w.heap.size + 1 + 1 + 1) (i := 6) (x := .int .i64 0) (row_set (b := w.heap.size + 1 + 1 + 1) (i := 5) (x := .int .i64 0) (row_set (b := w.heap.size + 1 + 1 + 1) (i := 4) (x := .int .i64 0) (row_set (b := w.heap.size + 1 + 1 + 1) (i := 3) (x := .int .i64 0) (row_set (b := w.heap.size + 1 + 1 + 1) (i := 2) (x := .int .i64 0) (row_set (b := w.heap.size + 1 + 1 + 1) (i := 1) (x := .slice (some ⟨g', 0, none⟩) (fs.length + 1) cap') (row_set (b := w.heap.size + 1 + 1 + 1) (i := 0) (x := .int .i64 3) I9.row (by omega)) (by omega)) (by omega)) (by omega)) (by omega)) (by omega)) (by omega)) (by omega)) (by omega)) (by omega)) (by omega : w.heap.size ≤ _)
                      have KL := (Below.setCell (p := ⟨w.heap.size + 1 + 1 + 1, 9, none⟩) (Below.setCell (p := ⟨w.heap.size + 1 + 1 + 1, 8, none⟩) (Below.setCell (p := ⟨w.heap.size + 1 + 1 + 1, 7, none⟩) (Below.setCell (p := ⟨w.heap.size + 1 + 1 + 1, 6, none⟩) (Below.setCell (p := ⟨w.heap.size + 1 + 1 + 1, 5, none⟩) (Below.setCell (p := ⟨w.heap.size + 1 + 1 + 1, 4, none⟩) (Below.setCell (p := ⟨w.heap.size + 1 + 1 + 1, 3, none⟩) (Below.setCell (p := ⟨w.heap.size + 1 + 1 + 1, 2, none⟩) (Below.setCell (p := ⟨w.heap.size + 1 + 1 + 1, 1, none⟩) (Below.setCell (p := ⟨w.heap.size + 1 + 1 + 1, 0, none⟩) I9.below (by simp; omega) (.int .i64 3)) (by simp; omega) (.slice (some ⟨g', 0, none⟩) (fs.length + 1) cap')) (by simp; omega) (.int .i64 0)) (by simp; omega) (.int .i64 0)) (by simp; omega) (.int .i64 0)) (by simp; omega) (.int .i64 0)) (by simp; omega) (.int .i64 0)) (by simp; omega) (.int .i64 0)) (by simp; omega) (.int .i64 0)) (by simp; omega) (.int .i64 0))
                      have EQH := Lib.hid EQ
                      have KBH := Lib.hid KB
                      have KRH := Lib.hid KR
                      have KLH := Lib.hid KL
                      clear EQ KB KR KL
                      go_wp2_with fail
                      rw [Exit.noGoto_ret]
                      obtain ⟨EQ1, EQ2⟩ := Prod.mk.inj EQH.out
                      subst EQ1 EQ2
                      refine bodyPost_box (b := w.heap.size + 1 + 1 + 1) (cs := [.int .i64 3, .slice (some ⟨g', 0, none⟩) (fs.length + 1) cap', .int .i64 0, .int .i64 0, .int .i64 0, .int .i64 0, .int .i64 0, .int .i64 0, .int .i64 0, .int .i64 0]) (v := .tuple #[.agg (List.toArray [.int .i64 3, .slice (some ⟨g', 0, none⟩) (fs.length + 1) cap', .int .i64 0, .int .i64 0, .int .i64 0, .int .i64 0, .int .i64 0, .int .i64 0, .int .i64 0, .int .i64 0]), .int .i64 0]) (by
                        (repeat (first | with_reducible exact KBH.out | with_reducible refine Bx.alc ?_ _))) (fun X hX => by simp [results, Try.results20, go_sem, hX]) rfl ⟨⟨.slice (some ⟨g', 0, none⟩) (fs.length + 1) cap', rfl, by (with_reducible first | exact KRH.out | exact KRH.out.alloc _ | exact (KRH.out.alloc _).alloc _ | exact ((KRH.out.alloc _).alloc _).alloc _)⟩, by
                        (repeat (first | with_reducible exact KLH.out | with_reducible refine Below.alloc ?_ (by simp; omega) _))⟩
                · have fp := I9.pt.c
                  have fl := I9.pt.lt
                  have r1 := I9.rs.c
                  have r2 := I9.rs.f
                  have r3 := I9.rs.lt
                  have lo := I9.lo
                  have nq : ¬ (w3.heap.size = w.heap.size + 1 + 1 + 1) := by omega
                  have nq2 : ¬ (w.heap.size + 1 + 1 + 1 = w3.heap.size) := by omega
                  have EQ : (unk, fs ++ [(k : Int)]) = (lvR, fsR) := Eq.trans (by cases m <;> (rw [followL, oneF, HH.out]; dsimp only; rw [if_pos rfl, HS.out]; dsimp only; rw [if_pos rfl, HA.out]; dsimp only; rw [if_pos rfl, HNn.out]; rw [HT.out]; dsimp only; rw [if_neg he1])) HF.out
                  dsimp only [lcells, unk, zD] at fp r1
                  have KB : Bx _ (w.heap.size + 1 + 1 + 1) [.int .i64 3, .slice (some ⟨g', 0, none⟩) (fs.length + 1) cap', .int .i64 0, .int .i64 0, .int .i64 0, .int .i64 0, .int .i64 0, .int .i64 0, .int .i64 0, .int .i64 0] := ((((((((((I9.rs.put (i := 0) (u := .int .i64 3)).put (i := 1) (u := .slice (some ⟨g', 0, none⟩) (fs.length + 1) cap')).put (i := 2) (u := .int .i64 0)).put (i := 3) (u := .int .i64 0)).put (i := 4) (u := .int .i64 0)).put (i := 5) (u := .int .i64 0)).put (i := 6) (u := .int .i64 0)).put (i := 7) (u := .int .i64 0)).put (i := 8) (u := .int .i64 0)).put (i := 9) (u := .int .i64 0))
                  have KR := row_down (row_set (b := w.heap.size + 1 + 1 + 1) (i := 9) (x := .int .i64 0) (row_set (b := w.heap.size + 1 + 1 + 1) (i := 8) (x := .int .i64 0) (row_set (b := w.heap.size + 1 + 1 + 1) (i := 7) (x := .int .i64 0) (row_set (b := w.heap.size + 1 + 1 + 1) (i := 6) (x := .int .i64 0) (row_set (b := w.heap.size + 1 + 1 + 1) (i := 5) (x := .int .i64 0) (row_set (b := w.heap.size + 1 + 1 + 1) (i := 4) (x := .int .i64 0) (row_set (b := w.heap.size + 1 + 1 + 1) (i := 3) (x := .int .i64 0) (row_set (b := w.heap.size + 1 + 1 + 1) (i := 2) (x := .int .i64 0) (row_set (b := w.heap.size + 1 + 1 + 1) (i := 1) (x := .slice (some ⟨g', 0, none⟩) (fs.length + 1) cap') (row_set (b := w.heap.size + 1 + 1 + 1) (i := 0) (x := .int .i64 3) I9.row (by omega)) (by omega)) (by omega)) (by omega)) (by omega)) (by omega)) (by omega)) (by omega)) (by omega)) (by omega)) (by omega : w.heap.size ≤ _)
                  have KL := (Below.setCell (p := ⟨w.heap.size + 1 + 1 + 1, 9, none⟩) (Below.setCell (p := ⟨w.heap.size + 1 + 1 + 1, 8, none⟩) (Below.setCell (p := ⟨w.heap.size + 1 + 1 + 1, 7, none⟩) (Below.setCell (p := ⟨w.heap.size + 1 + 1 + 1, 6, none⟩) (Below.setCell (p := ⟨w.heap.size + 1 + 1 + 1, 5, none⟩) (Below.setCell (p := ⟨w.heap.size + 1 + 1 + 1, 4, none⟩) (Below.setCell (p := ⟨w.heap.size + 1 + 1 + 1, 3, none⟩) (Below.setCell (p := ⟨w.heap.size + 1 + 1 + 1, 2, none⟩) (Below.setCell (p := ⟨w.heap.size + 1 + 1 + 1, 1, none⟩) (Below.setCell (p := ⟨w.heap.size + 1 + 1 + 1, 0, none⟩) I9.below (by simp; omega) (.int .i64 3)) (by simp; omega) (.slice (some ⟨g', 0, none⟩) (fs.length + 1) cap')) (by simp; omega) (.int .i64 0)) (by simp; omega) (.int .i64 0)) (by simp; omega) (.int .i64 0)) (by simp; omega) (.int .i64 0)) (by simp; omega) (.int .i64 0)) (by simp; omega) (.int .i64 0)) (by simp; omega) (.int .i64 0)) (by simp; omega) (.int .i64 0))
                  have EQH := Lib.hid EQ
                  have KBH := Lib.hid KB
                  have KRH := Lib.hid KR
                  have KLH := Lib.hid KL
                  clear EQ KB KR KL
                  go_wp2_with fail
                  rw [Exit.noGoto_ret]
                  obtain ⟨EQ1, EQ2⟩ := Prod.mk.inj EQH.out
                  subst EQ1 EQ2
                  refine bodyPost_box (b := w.heap.size + 1 + 1 + 1) (cs := [.int .i64 3, .slice (some ⟨g', 0, none⟩) (fs.length + 1) cap', .int .i64 0, .int .i64 0, .int .i64 0, .int .i64 0, .int .i64 0, .int .i64 0, .int .i64 0, .int .i64 0]) (v := .tuple #[.agg (List.toArray [.int .i64 3, .slice (some ⟨g', 0, none⟩) (fs.length + 1) cap', .int .i64 0, .int .i64 0, .int .i64 0, .int .i64 0, .int .i64 0, .int .i64 0, .int .i64 0, .int .i64 0]), .int .i64 0]) (by
                    (repeat (first | with_reducible exact KBH.out | with_reducible refine Bx.alc ?_ _))) (fun X hX => by simp [results, Try.results20, go_sem, hX]) rfl ⟨⟨.slice (some ⟨g', 0, none⟩) (fs.length + 1) cap', rfl, by (with_reducible first | exact KRH.out | exact KRH.out.alloc _ | exact (KRH.out.alloc _).alloc _ | exact ((KRH.out.alloc _).alloc _).alloc _)⟩, by
                    (repeat (first | with_reducible exact KLH.out | with_reducible refine Below.alloc ?_ (by simp; omega) _))⟩
              · have fp := I7.pt.c
                have fl := I7.pt.lt
                have r1 := I7.rs.c
                have r2 := I7.rs.f
                have r3 := I7.rs.lt
                have lo := I8.lo
                have nq : ¬ (w3.heap.size = w.heap.size + 1 + 1 + 1) := by omega
                have nq2 : ¬ (w.heap.size + 1 + 1 + 1 = w3.heap.size) := by omega
                have EQ : (unk, fs ++ [(k : Int)]) = (lvR, fsR) := Eq.trans (by cases m <;> (rw [followL, oneF, HH.out]; dsimp only; rw [if_pos rfl, HS.out]; dsimp only; rw [if_pos rfl, HA.out]; dsimp only; rw [if_neg be0])) HF.out
                dsimp only [lcells, unk, zD] at fp r1
                have KB : Bx _ (w.heap.size + 1 + 1 + 1) [.int .i64 3, .slice (some ⟨g', 0, none⟩) (fs.length + 1) cap', .int .i64 0, .int .i64 0, .int .i64 0, .int .i64 0, .int .i64 0, .int .i64 0, .int .i64 0, .int .i64 0] := ((((((((((I8.rs.put (i := 0) (u := .int .i64 3)).put (i := 1) (u := .slice (some ⟨g', 0, none⟩) (fs.length + 1) cap')).put (i := 2) (u := .int .i64 0)).put (i := 3) (u := .int .i64 0)).put (i := 4) (u := .int .i64 0)).put (i := 5) (u := .int .i64 0)).put (i := 6) (u := .int .i64 0)).put (i := 7) (u := .int .i64 0)).put (i := 8) (u := .int .i64 0)).put (i := 9) (u := .int .i64 0))
                have KR := row_down (row_set (b := w.heap.size + 1 + 1 + 1) (i := 9) (x := .int .i64 0) (row_set (b := w.heap.size + 1 + 1 + 1) (i := 8) (x := .int .i64 0) (row_set (b := w.heap.size + 1 + 1 + 1) (i := 7) (x := .int .i64 0) (row_set (b := w.heap.size + 1 + 1 + 1) (i := 6) (x := .int .i64 0) (row_set (b := w.heap.size + 1 + 1 + 1) (i := 5) (x := .int .i64 0) (row_set (b := w.heap.size + 1 + 1 + 1) (i := 4) (x := .int .i64 0) (row_set (b := w.heap.size + 1 + 1 + 1) (i := 3) (x := .int .i64 0) (row_set (b := w.heap.size + 1 + 1 + 1) (i := 2) (x := .int .i64 0) (row_set (b := w.heap.size + 1 + 1 + 1) (i := 1) (x := .slice (some ⟨g', 0, none⟩) (fs.length + 1) cap') (row_set (b := w.heap.size + 1 + 1 + 1) (i := 0) (x := .int .i64 3) I8.row (by omega)) (by omega)) (by omega)) (by omega)) (by omega)) (by omega)) (by omega)) (by omega)) (by omega)) (by omega)) (by omega : w.heap.size ≤ _)
                have KL := (Below.setCell (p := ⟨w.heap.size + 1 + 1 + 1, 9, none⟩) (Below.setCell (p := ⟨w.heap.size + 1 + 1 + 1, 8, none⟩) (Below.setCell (p := ⟨w.heap.size + 1 + 1 + 1, 7, none⟩) (Below.setCell (p := ⟨w.heap.size + 1 + 1 + 1, 6, none⟩) (Below.setCell (p := ⟨w.heap.size + 1 + 1 + 1, 5, none⟩) (Below.setCell (p := ⟨w.heap.size + 1 + 1 + 1, 4, none⟩) (Below.setCell (p := ⟨w.heap.size + 1 + 1 + 1, 3, none⟩) (Below.setCell (p := ⟨w.heap.size + 1 + 1 + 1, 2, none⟩) (Below.setCell (p := ⟨w.heap.size + 1 + 1 + 1, 1, none⟩) (Below.setCell (p := ⟨w.heap.size + 1 + 1 + 1, 0, none⟩) I8.below (by simp; omega) (.int .i64 3)) (by simp; omega) (.slice (some ⟨g', 0, none⟩) (fs.length + 1) cap')) (by simp; omega) (.int .i64 0)) (by simp; omega) (.int .i64 0)) (by simp; omega) (.int .i64 0)) (by simp; omega) (.int .i64 0)) (by simp; omega) (.int .i64 0)) (by simp; omega) (.int .i64 0)) (by simp; omega) (.int .i64 0)) (by simp; omega) (.int .i64 0))
                have EQH := Lib.hid EQ
                have KBH := Lib.hid KB
                have KRH := Lib.hid KR
                have KLH := Lib.hid KL
                clear EQ KB KR KL
                go_wp2_with fail
                rw [Exit.noGoto_ret]
                obtain ⟨EQ1, EQ2⟩ := Prod.mk.inj EQH.out
                subst EQ1 EQ2
                refine bodyPost_box (b := w.heap.size + 1 + 1 + 1) (cs := [.int .i64 3, .slice (some ⟨g', 0, none⟩) (fs.length + 1) cap', .int .i64 0, .int .i64 0, .int .i64 0, .int .i64 0, .int .i64 0, .int .i64 0, .int .i64 0, .int .i64 0]) (v := .tuple #[.agg (List.toArray [.int .i64 3, .slice (some ⟨g', 0, none⟩) (fs.length + 1) cap', .int .i64 0, .int .i64 0, .int .i64 0, .int .i64 0, .int .i64 0, .int .i64 0, .int .i64 0, .int .i64 0]), .int .i64 0]) (by
                  (repeat (first | with_reducible exact KBH.out | with_reducible refine Bx.alc ?_ _))) (fun X hX => by simp [results, Try.results20, go_sem, hX]) rfl ⟨⟨.slice (some ⟨g', 0, none⟩) (fs.length + 1) cap', rfl, by (with_reducible first | exact KRH.out | exact KRH.out.alloc _ | exact (KRH.out.alloc _).alloc _ | exact ((KRH.out.alloc _).alloc _).alloc _)⟩, by
                  (repeat (first | with_reducible exact KLH.out | with_reducible refine Below.alloc ?_ (by simp; omega) _))⟩
            · have fp := I6.pt.c
              have fl := I6.pt.lt
              have r1 := I6.rs.c
              have r2 := I6.rs.f
              have r3 := I6.rs.lt
              have lo := I6.lo
              have nq : ¬ (w3.heap.size = w.heap.size + 1 + 1 + 1) := by omega
              have nq2 : ¬ (w.heap.size + 1 + 1 + 1 = w3.heap.size) := by omega
              have EQ : (unk, fs ++ [(k : Int)]) = (lvR, fsR) := Eq.trans (by cases m <;> (rw [followL, oneF, HH.out]; dsimp only; rw [if_pos rfl, HS.out]; dsimp only; rw [if_neg se0])) HF.out
              dsimp only [lcells, unk, zD] at fp r1
              have KB : Bx _ (w.heap.size + 1 + 1 + 1) [.int .i64 3, .slice (some ⟨g', 0, none⟩) (fs.length + 1) cap', .int .i64 0, .int .i64 0, .int .i64 0, .int .i64 0, .int .i64 0, .int .i64 0, .int .i64 0, .int .i64 0] := ((((((((((I6.rs.put (i := 0) (u := .int .i64 3)).put (i := 1) (u := .slice (some ⟨g', 0, none⟩) (fs.length + 1) cap')).put (i := 2) (u := .int .i64 0)).put (i := 3) (u := .int .i64 0)).put (i := 4) (u := .int .i64 0)).put (i := 5) (u := .int .i64 0)).put (i := 6) (u := .int .i64 0)).put (i := 7) (u := .int .i64 0)).put (i := 8) (u := .int .i64 0)).put (i := 9) (u := .int .i64 0))
              have KR := row_down (row_set (b := w.heap.size + 1 + 1 + 1) (i := 9) (x := .int .i64 0) (row_set (b := w.heap.size + 1 + 1 + 1) (i := 8) (x := .int .i64 0) (row_set (b := w.heap.size + 1 + 1 + 1) (i := 7) (x := .int .i64 0) (row_set (b := w.heap.size + 1 + 1 + 1) (i := 6) (x := .int .i64 0) (row_set (b := w.heap.size + 1 + 1 + 1) (i := 5) (x := .int .i64 0) (row_set (b := w.heap.size + 1 + 1 + 1) (i := 4) (x := .int .i64 0) (row_set (b := w.heap.size + 1 + 1 + 1) (i := 3) (x := .int .i64 0) (row_set (b := w.heap.size + 1 + 1 + 1) (i := 2) (x := .int .i64 0) (row_set (b := w.heap.size + 1 + 1 + 1) (i := 1) (x := .slice (some ⟨g', 0, none⟩) (fs.length + 1) cap') (row_set (b := w.heap.size + 1 + 1 + 1) (i := 0) (x := .int .i64 3) I6.row (by omega)) (by omega)) (by omega)) (by omega)) (by omega)) (by omega)) (by omega)) (by omega)) (by omega)) (by omega)) (by omega : w.heap.size ≤ _)
              have KL := (Below.setCell (p := ⟨w.heap.size + 1 + 1 + 1, 9, none⟩) (Below.setCell (p := ⟨w.heap.size + 1 + 1 + 1, 8, none⟩) (Below.setCell (p := ⟨w.heap.size + 1 + 1 + 1, 7, none⟩) (Below.setCell (p := ⟨w.heap.size + 1 + 1 + 1, 6, none⟩) (Below.setCell (p := ⟨w.heap.size + 1 + 1 + 1, 5, none⟩) (Below.setCell (p := ⟨w.heap.size + 1 + 1 + 1, 4, none⟩) (Below.setCell (p := ⟨w.heap.size + 1 + 1 + 1, 3, none⟩) (Below.setCell (p := ⟨w.heap.size + 1 + 1 + 1, 2, none⟩) (Below.setCell (p := ⟨w.heap.size + 1 + 1 + 1, 1, none⟩) (Below.setCell (p := ⟨w.heap.size + 1 + 1 + 1, 0, none⟩) I6.below (by simp; omega) (.int .i64 3)) (by simp; omega) (.slice (some ⟨g', 0, none⟩) (fs.length + 1) cap')) (by simp; omega) (.int .i64 0)) (by simp; omega) (.int .i64 0)) (by simp; omega) (.int .i64 0)) (by simp; omega) (.int .i64 0)) (by simp; omega) (.int .i64 0)) (by simp; omega) (.int .i64 0)) (by simp; omega) (.int .i64 0)) (by simp; omega) (.int .i64 0))
              have EQH := Lib.hid EQ
              have KBH := Lib.hid KB
              have KRH := Lib.hid KR
              have KLH := Lib.hid KL
              clear EQ KB KR KL
              go_wp2_with fail
              rw [Exit.noGoto_ret]
              obtain ⟨EQ1, EQ2⟩ := Prod.mk.inj EQH.out
              subst EQ1 EQ2
              refine bodyPost_box (b := w.heap.size + 1 + 1 + 1) (cs := [.int .i64 3, .slice (some ⟨g', 0, none⟩) (fs.length + 1) cap', .int .i64 0, .int .i64 0, .int .i64 0, .int .i64 0, .int .i64 0, .int .i64 0, .int .i64 0, .int .i64 0]) (v := .tuple #[.agg (List.toArray [.int .i64 3, .slice (some ⟨g', 0, none⟩) (fs.length + 1) cap', .int .i64 0, .int .i64 0, .int .i64 0, .int .i64 0, .int .i64 0, .int .i64 0, .int .i64 0, .int .i64 0]), .int .i64 0]) (by
                (repeat (first | with_reducible exact KBH.out | with_reducible refine Bx.alc ?_ _))) (fun X hX => by simp [results, Try.results20, go_sem, hX]) rfl ⟨⟨.slice (some ⟨g', 0, none⟩) (fs.length + 1) cap', rfl, by (with_reducible first | exact KRH.out | exact KRH.out.alloc _ | exact (KRH.out.alloc _).alloc _ | exact ((KRH.out.alloc _).alloc _).alloc _)⟩, by
                (repeat (first | with_reducible exact KLH.out | with_reducible refine Below.alloc ?_ (by simp; omega) _))⟩
          · have fp := I4.pt.c
            have fl := I4.pt.lt
            have r1 := I4.rs.c
            have r2 := I4.rs.f
            have r3 := I4.rs.lt
            have lo := I4.lo
            have nq : ¬ (w3.heap.size = w.heap.size + 1 + 1 + 1) := by omega
            have nq2 : ¬ (w.heap.size + 1 + 1 + 1 = w3.heap.size) := by omega
            have EQ : (unk, fs) = (lvR, fsR) := Eq.trans (by cases m <;> (rw [followL, oneF, HH.out]; dsimp only; rw [if_neg he0])) HF.out
            dsimp only [lcells, unk, zD] at fp r1
            have KB : Bx _ (w.heap.size + 1 + 1 + 1) [.int .i64 3, .slice ao fs.length cap, .int .i64 0, .int .i64 0, .int .i64 0, .int .i64 0, .int .i64 0, .int .i64 0, .int .i64 0, .int .i64 0] := ((((((((((I4.rs.put (i := 0) (u := .int .i64 3)).put (i := 1) (u := .slice ao fs.length cap)).put (i := 2) (u := .int .i64 0)).put (i := 3) (u := .int .i64 0)).put (i := 4) (u := .int .i64 0)).put (i := 5) (u := .int .i64 0)).put (i := 6) (u := .int .i64 0)).put (i := 7) (u := .int .i64 0)).put (i := 8) (u := .int .i64 0)).put (i := 9) (u := .int .i64 0))
            have KR := row_down (row_set (b := w.heap.size + 1 + 1 + 1) (i := 9) (x := .int .i64 0) (row_set (b := w.heap.size + 1 + 1 + 1) (i := 8) (x := .int .i64 0) (row_set (b := w.heap.size + 1 + 1 + 1) (i := 7) (x := .int .i64 0) (row_set (b := w.heap.size + 1 + 1 + 1) (i := 6) (x := .int .i64 0) (row_set (b := w.heap.size + 1 + 1 + 1) (i := 5) (x := .int .i64 0) (row_set (b := w.heap.size + 1 + 1 + 1) (i := 4) (x := .int .i64 0) (row_set (b := w.heap.size + 1 + 1 + 1) (i := 3) (x := .int .i64 0) (row_set (b := w.heap.size + 1 + 1 + 1) (i := 2) (x := .int .i64 0) (row_set (b := w.heap.size + 1 + 1 + 1) (i := 1) (x := .slice ao fs.length cap) (row_set (b := w.heap.size + 1 + 1 + 1) (i := 0) (x := .int .i64 3) I4.row (by omega)) (by omega)) (by omega)) (by omega)) (by omega)) (by omega)) (by omega)) (by omega)) (by omega)) (by omega)) (by omega : w.heap.size ≤ _)
            have KL := (Below.setCell (p := ⟨w.heap.size + 1 + 1 + 1, 9, none⟩) (Below.setCell (p := ⟨w.heap.size + 1 + 1 + 1, 8, none⟩) (Below.setCell (p := ⟨w.heap.size + 1 + 1 + 1, 7, none⟩) (Below.setCell (p := ⟨w.heap.size + 1 + 1 + 1, 6, none⟩) (Below.setCell (p := ⟨w.heap.size + 1 + 1 + 1, 5, none⟩) (Below.setCell (p := ⟨w.heap.size + 1 + 1 + 1, 4, none⟩) (Below.setCell (p := ⟨w.heap.size + 1 + 1 + 1, 3, none⟩) (Below.setCell (p := ⟨w.heap.size + 1 + 1 + 1, 2, none⟩) (Below.setCell (p := ⟨w.heap.size + 1 + 1 + 1, 1, none⟩) (Below.setCell (p := ⟨w.heap.size + 1 + 1 + 1, 0, none⟩) I4.below (by simp; omega) (.int .i64 3)) (by simp; omega) (.slice ao fs.length cap)) (by simp; omega) (.int .i64 0)) (by simp; omega) (.int .i64 0)) (by simp; omega) (.int .i64 0)) (by simp; omega) (.int .i64 0)) (by simp; omega) (.int .i64 0)) (by simp; omega) (.int .i64 0)) (by simp; omega) (.int .i64 0)) (by simp; omega) (.int .i64 0))
            have EQH := Lib.hid EQ
            have KBH := Lib.hid KB
            have KRH := Lib.hid KR
            have KLH := Lib.hid KL
            clear EQ KB KR KL
            go_wp2_with fail
            rw [Exit.noGoto_ret]
            obtain ⟨EQ1, EQ2⟩ := Prod.mk.inj EQH.out
            subst EQ1 EQ2
            refine bodyPost_box (b := w.heap.size + 1 + 1 + 1) (cs := [.int .i64 3, .slice ao fs.length cap, .int .i64 0, .int .i64 0, .int .i64 0, .int .i64 0, .int .i64 0, .int .i64 0, .int .i64 0, .int .i64 0]) (v := .tuple #[.agg (List.toArray [.int .i64 3, .slice ao fs.length cap, .int .i64 0, .int .i64 0, .int .i64 0, .int .i64 0, .int .i64 0, .int .i64 0, .int .i64 0, .int .i64 0]), .int .i64 0]) (by
              (repeat (first | with_reducible exact KBH.out | with_reducible refine Bx.alc ?_ _))) (fun X hX => by simp [results, Try.results20, go_sem, hX]) rfl ⟨⟨.slice ao fs.length cap, rfl, by (with_reducible first | exact KRH.out | exact KRH.out.alloc _ | exact (KRH.out.alloc _).alloc _ | exact ((KRH.out.alloc _).alloc _).alloc _)⟩, by
              (repeat (first | with_reducible exact KLH.out | with_reducible refine Below.alloc ?_ (by simp; omega) _))⟩
end Go.Proofs.Ytedfciddfpcifaa.Iv
