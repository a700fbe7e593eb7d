/- Texts Wk. -/
import Derived.Test.YtedfciddfpcifaaM15
import Derived.Test.YtedfciddfpcifaaM05

/- What a walk carries, over the steps of a calculation: laws for worlds as the walk writes them. -/
namespace Go.Proofs.Ytedfciddfpcifaa.Iv
open Go.RowKit

theorem Bx.put2 {W : World} {b : Nat} {p q u v : Value} (h : Bx W b [p, q]) : Bx ((W.setCell ⟨b, 0, none⟩ u).setCell ⟨b, 1, none⟩ v) b [u, v] := h.put.put
theorem Bx.put6 {W : World} {b : Nat} {p q r s t u p' q' r' s' t' u' : Value} (h : Bx W b [p, q, r, s, t, u]) :
    Bx ((((((W.setCell ⟨b, 0, none⟩ p').setCell ⟨b, 1, none⟩ q').setCell ⟨b, 2, none⟩ r').setCell ⟨b, 3, none⟩ s').setCell ⟨b, 4, none⟩ t').setCell ⟨b, 5, none⟩ u') b [p', q', r', s', t', u'] := h.put.put.put.put.put.put
theorem Bx.put1 {W : World} {b : Nat} {p u : Value} (h : Bx W b [p]) : Bx (W.setCell ⟨b, 0, none⟩ u) b [u] := h.put
/-- A result that lies in a box: it is read in any world in which the box reads so. -/
theorem bodyPost_box {P : Program} {fn : Func} {R : Ending → World → Prop} {a : Act} {w : World} {v : Value} {b : Nat} {cs : List Value} (hB : Bx w b cs)
    (hr : ∀ X : World, (∀ j, X.cell? ⟨b, j, none⟩ = cs[j]?) → (results fn a.tmps).run P X = .ok v X) (hd : a.defers = []) (hR : R (.returned v) w) : bodyPost P fn R .ret a w := ⟨hd, v, hr w hB.c, hR⟩
/-- A calculation's cell. -/
structure Ce (W : World) (c : Nat) (e : Int) : Prop where
  lt : c < W.heap.size
  v : W.cell? ⟨c, 0, none⟩ = some (.int .i64 e)
  f : W.frozen? ⟨c, 0, none⟩ = false
theorem Bx.ce {W : World} {b : Nat} {e : Int} (h : Bx W b [.int .i64 e]) : Ce W b e := ⟨h.lt, h.c 0, h.f 0⟩
theorem Ce.kept {W W' : World} {c : Nat} {e : Int} (h : Ce W c e) (hb : Below W.heap.size W W') : Ce W' c e :=
  ⟨Nat.lt_of_lt_of_le h.lt hb.size, (hb.cell (p := ⟨c, 0, none⟩) h.lt).trans h.v, (hb.frozen (p := ⟨c, 0, none⟩) h.lt).trans h.f⟩
theorem Ce.set {W : World} {b c i : Nat} {u : Value} {e : Int} (h : Ce W b e) (ne : ¬ (b = c)) : Ce (W.setCell ⟨c, i, none⟩ u) b e :=
  ⟨by simpa using h.lt, (World.cell?_setCell_other _ _ _ _ (fun x => ne (by injection x with x; exact x.symm))).trans h.v, (World.frozen?_setCell _ _ _ _).trans h.f⟩
theorem Ce.put {W : World} {c : Nat} {e E : Int} (h : Ce W c e) : Ce (W.setCell ⟨c, 0, none⟩ (.int .i64 E)) c E :=
  ⟨by simpa using h.lt, World.cell?_setCell_same _ _ _ h.v, (World.frozen?_setCell _ _ _ _).trans h.f⟩
theorem Ce.alc {W : World} {c : Nat} {e : Int} (h : Ce W c e) (o : Obj) : Ce (W.alloc o) c e := h.kept ((Below.refl _ _).alloc (Nat.le_refl _) o)
theorem Ce.drew {W : World} {c : Nat} {e : Int} (h : Ce W c e) : Ce W.drew c e := h.kept (Below.refl _ _).drew
theorem Ce.step {B : Nat} {W W' : World} {c : Nat} {e E : Int} (h : Ce W c e) (st : Step B W c E W') : Ce W' c E :=
  ⟨Nat.lt_of_lt_of_le h.lt st.size, st.cell, (st.frozen _ _ h.lt).trans h.f⟩
theorem Bx.step {B : Nat} {W W' : World} {b c : Nat} {E : Int} {cs : List Value} (h : Bx W b cs) (st : Step B W c E W') (ne : ¬ (b = c)) : Bx W' b cs :=
  ⟨Nat.lt_of_lt_of_le h.lt st.size, fun j => (st.other _ _ h.lt ne).trans (h.c j), fun j => (st.frozen _ _ h.lt).trans (h.f j)⟩
theorem Rd.step {B : Nat} {W W' : World} {b c : Nat} {E : Int} {cs : List Value} (h : Rd W b cs) (st : Step B W c E W') (ne : ¬ (b = c)) : Rd W' b cs :=
  ⟨Nat.lt_of_lt_of_le h.lt st.size, fun j => (st.other _ _ h.lt ne).trans (h.c j)⟩
theorem Ho.step {w0 W W' : World} {n c : Nat} {E : Int} {l : List (Nat × List Value)} (h : Ho w0 W n l) (st : Step w0.heap.size W c E W') (g : n ≤ c) : Ho w0 W' n l :=
  ⟨h.below.trans (st.below (Nat.le_trans h.base g) h.below.size), h.base, Nat.le_trans h.size st.size, fun p hp => ⟨(h.rd p hp).1, (h.rd p hp).2.step st (Nat.ne_of_lt (Nat.lt_of_lt_of_le (h.rd p hp).1 g))⟩⟩
theorem Step.beg {B : Nat} {w : World} {c : Nat} {e : Int} (hc : w.cell? ⟨c, 0, none⟩ = some (.int .i64 e)) : Step B w c e w :=
  ⟨hc, fun _ _ _ _ => rfl, fun _ _ _ => rfl, Nat.le_refl _, fun _ _ => Below.refl _ _⟩
theorem Step.lt {B : Nat} {w W : World} {c : Nat} {e : Int} (st : Step B w c e W) : c < W.heap.size := World.block_lt_of_cell? W _ st.cell
theorem Step.kall {B : Nat} {w W W' : World} {c : Nat} {e : Int} (st : Step B w c e W) (hb : Below W.heap.size W W') : Step B w c e W' :=
  ⟨(hb.cell (p := ⟨c, 0, none⟩) st.lt).trans st.cell, fun b o h n => (hb.cell (p := ⟨b, o, none⟩) (Nat.lt_of_lt_of_le h st.size)).trans (st.other b o h n),
    fun b o h => (hb.frozen (p := ⟨b, o, none⟩) (Nat.lt_of_lt_of_le h st.size)).trans (st.frozen b o h), Nat.le_trans st.size hb.size,
    fun h1 h2 => (st.below h1 h2).trans (hb.mono (Nat.le_trans h2 st.size))⟩
theorem Step.alk {B : Nat} {w W : World} {c : Nat} {e : Int} (st : Step B w c e W) (o : Obj) : Step B w c e (W.alloc o) := st.kall ((Below.refl _ _).alloc (Nat.le_refl _) o)
theorem Step.drow {B : Nat} {w W : World} {c : Nat} {e : Int} (st : Step B w c e W) : Step B w c e W.drew := st.kall (Below.refl _ _).drew
theorem Step.owns {B : Nat} {w W : World} {c d i : Nat} {e : Int} {u : Value} (st : Step B w c e W) (g : w.heap.size ≤ d) (ne : ¬ (c = d)) : Step B w c e (W.setCell ⟨d, i, none⟩ u) :=
  ⟨(World.cell?_setCell_other _ _ _ _ (fun x => ne (by injection x with x; exact x.symm))).trans st.cell,
    fun b o h n => (World.cell?_setCell_other _ _ _ _ (fun x => absurd (show d = b by injection x) (Nat.ne_of_gt (Nat.lt_of_lt_of_le h g)))).trans (st.other b o h n),
    fun b o h => (World.frozen?_setCell _ _ _ _).trans (st.frozen b o h), by simpa using st.size, fun h1 h2 => (st.below h1 h2).setCell (Nat.le_trans h2 g) _⟩
theorem Step.putc {B : Nat} {w W : World} {c : Nat} {e E : Int} (st : Step B w c e W) : Step B w c E (W.setCell ⟨c, 0, none⟩ (.int .i64 E)) :=
  ⟨World.cell?_setCell_same _ _ _ st.cell,
    fun b o h n => (World.cell?_setCell_other _ _ _ _ (fun x => n (by injection x with x; exact x.symm))).trans (st.other b o h n),
    fun b o h => (World.frozen?_setCell _ _ _ _).trans (st.frozen b o h), by simpa using st.size, fun h1 h2 => (st.below h1 h2).setCell h1 _⟩
theorem Step.and {B : Nat} {w W W' : World} {c : Nat} {e E : Int} (st : Step B w c e W) (s2 : Step B W c E W') : Step B w c E W' :=
  ⟨s2.cell, fun b o h n => (s2.other b o (Nat.lt_of_lt_of_le h st.size) n).trans (st.other b o h n), fun b o h => (s2.frozen b o (Nat.lt_of_lt_of_le h st.size)).trans (st.frozen b o h),
    Nat.le_trans st.size s2.size, fun h1 h2 => (st.below h1 h2).trans (s2.below h1 (Nat.le_trans h2 st.size))⟩
end Go.Proofs.Ytedfciddfpcifaa.Iv
