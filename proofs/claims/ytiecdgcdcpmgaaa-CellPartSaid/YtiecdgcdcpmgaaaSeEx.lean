/- The example of layers 32 and 33: the cube, and a cell of its upper face. -/
import Derived.Test.YtiecdgcdcpmgaaaM22
import Derived.Test.YtiecdgcdcpmgaaaM24
import Derived.Test.YtiecdgcdcpmgaaaSeVs1
import Derived.Test.YtiecdgcdcpmgaaaSeCr2
import Derived.Test.YtiecdgcdcpmgaaaSeDj
import Derived.Test.YtiecdgcdcpmgaaaSeDkM
import Derived.Test.YtiecdgcdcpmgaaaSeDrb
import Derived.Test.YtiecdgcdcpmgaaaSeDsM
import Derived.Test.YtiecdgcdcpmgaaaSeIeM
import Derived.Test.YtiecdgcdcpmgaaaSeInM
import Derived.Test.YtiecdgcdcpmgaaaSeRf1
import Derived.Test.YtiecdgcdcpmgaaaSeRf2
import Derived.Test.YtiecdgcdcpmgaaaM06
namespace Go.Proofs.Ytiecdgcdcpmgaaa.Iv
open Go.RowKit
attribute [local go_sem] Oper.semAt_some
theorem info_dir33:(Try.prog.info? 47).map (fun i=>(i.zero,i.size,i.bytes))=some (some (.agg #[.int .i64 0,.int .i64 0,.int .i64 0,.int .i64 0,.int .i64 0,.int .i64 0]),6,48):=by kernel_rfl
def exC:CV:=⟨2,-8388608,8388608,-8388608,8388608,0,0,0,0⟩
theorem Bx.put4 {W:World} {b:Nat} {p0 p1 p2 p3 u0 u1 u2 u3:Value} (h:Bx W b [p0,p1,p2,p3]):Bx ((((W.setCell ⟨b,0,none⟩ u0).setCell ⟨b,1,none⟩ u1).setCell ⟨b,2,none⟩ u2).setCell ⟨b,3,none⟩ u3) b [u0,u1,u2,u3]:=h.put.put.put.put
theorem rcube_any (w:World):Calls Try.prog 58 #[iv 16777216 16777216,iv (-16777216) (-16777216)] w fun e w'=>
  (∃nb db,e = .returned (.agg #[.slice (some ⟨nb,0,none⟩) 6 6,.slice (some ⟨db,0,none⟩) 6 6,.int .i64 33554432,.int .i64 33554432])∧Rd w' nb (cubeL.flatMap dcs)∧Rd w' db (cubeM.flatMap pcs)∧w.heap.size≤nb∧w.heap.size≤db)∧Below w.heap.size w w':=by
 go_enter Try.func58,Try.ntmps58
 go_wp2_with fail
 refine bodyPost_box (b:=w.heap.size+1+1) (cs:=[.slice (some ⟨w.heap.size+1+1+1+1,0,none⟩) 6 6,.slice (some ⟨w.heap.size+1+1+1+1+1,0,none⟩) 6 6,.int .i64 33554432,.int .i64 33554432]) (v:=.agg #[.slice (some ⟨w.heap.size+1+1+1+1,0,none⟩) 6 6,.slice (some ⟨w.heap.size+1+1+1+1+1,0,none⟩) 6 6,.int .i64 33554432,.int .i64 33554432]) (by
  (repeat (first|(with_reducible refine Bx.new ?_;(· (simp;done)))|with_reducible apply Bx.put4|with_reducible refine Bx.set ?_ (by omega)|with_reducible refine Bx.alc ?_ _))) (fun X hX=>by simp [results,Try.results58,go_sem,hX]) rfl ⟨⟨_,_,rfl,?_,?_,by omega,by omega⟩,by
  (with_reducible repeat (first|exact Below.refl _ _|refine Below.setCell ?_ (by show w.heap.size≤w.heap.size+1+1;omega) _|refine Below.setCell ?_ (by show w.heap.size≤w.heap.size+1+1+1;omega) _|refine Below.alloc ?_ (by first|omega|(simp<;>omega)) _))⟩
 ·rw [show cubeL.flatMap dcs = [.int .i64 16777216,.int .i64 16777216,.int .i64 0,.int .i64 0,.int .i64 0,.int .i64 0,.int .i64 0,.int .i64 0,.int .i64 16777216,.int .i64 16777216,.int .i64 0,.int .i64 0,.int .i64 0,.int .i64 0,.int .i64 0,.int .i64 0,.int .i64 16777216,.int .i64 16777216,.int .i64 (-16777216),.int .i64 (-16777216),.int .i64 0,.int .i64 0,.int .i64 0,.int .i64 0,.int .i64 0,.int .i64 0,.int .i64 (-16777216),.int .i64 (-16777216),.int .i64 0,.int .i64 0,.int .i64 0,.int .i64 0,.int .i64 0,.int .i64 0,.int .i64 (-16777216),.int .i64 (-16777216)] from rfl]
  (with_reducible repeat (first|(refine Rd.new ?_;(· (simp;done)))|refine Rd.set ?_ (by omega)|refine Rd.alc ?_ _))
 ·rw [show cubeM.flatMap pcs = [.int .i64 16777216,.int .i64 16777216,.int .i64 16777216,.int .i64 16777216,.int .i64 16777216,.int .i64 16777216,.int .i64 16777216,.int .i64 16777216,.int .i64 16777216,.int .i64 16777216,.int .i64 16777216,.int .i64 16777216] from rfl]
  (with_reducible repeat (first|(refine Rd.new ?_;(· (simp;done)))|refine Rd.set ?_ (by omega)|refine Rd.alc ?_ _))
structure EI (w:World) (pb nb db:Nat) (uo u:Value) (k:Nat) (W:World):Prop where
 below:Below w.heap.size w W
 sz:pb+1+1≤W.heap.size
 lo:w.heap.size+1+1+1+1≤pb
 bd:Rd W pb [.slice (some ⟨nb,0,none⟩) 6 6,.slice (some ⟨db,0,none⟩) 6 6,.int .i64 33554432,.int .i64 33554432]
 rs:Bx W w.heap.size [.slice none 0 0,.slice none 0 0,.int .i64 0,.int .i64 0]
 rc:Bx W (w.heap.size+1) [.int .i64 0,.int .i64 0,.int .i64 0,.int .i64 0,.int .i64 0,.int .i64 0,.int .i64 0,.int .i64 0,.int .i64 0]
 o:Bx W (pb+1) [uo,.slice (some ⟨db,0,none⟩) 6 6,.int .i64 33554432,.int .i64 33554432]
 hn:Rd W nb (cubeL.flatMap dcs)
 hd:Rd W db (cubeM.flatMap pcs)
 ln:nb<pb
 ld:db<pb
 gn:w.heap.size+1<nb
 gd:w.heap.size+1<db
 row:W.ownsRow (pb+1+1) 47 6 u k ((cubeL.take k).flatMap dcs)
theorem EI.kept {w:World} {pb nb db:Nat} {uo u:Value} {k:Nat} {W W':World} (h:EI w pb nb db uo u k W) (hb:Below W.heap.size W W'):EI w pb nb db uo u k W':=
 ⟨h.below.trans (hb.mono h.below.size),Nat.le_trans h.sz hb.size,h.lo,h.bd.kept hb,h.rs.kept hb,h.rc.kept hb,h.o.kept hb,h.hn.kept hb,h.hd.kept hb,h.ln,h.ld,h.gn,h.gd,ownsRow_below h.row hb⟩
theorem EI.drew {w:World} {pb nb db:Nat} {uo u:Value} {k:Nat} {W:World} (h:EI w pb nb db uo u k W):EI w pb nb db uo u k W.drew:=h.kept (Below.refl _ _).drew
theorem EI.app {w:World} {pb nb db:Nat} {uo u u':Value} {k:Nat} {x:D} {W W':World} (h:EI w pb nb db uo u k W) (hx:cubeL[k]? = some x) (hown:W'.ownsRow (pb+1+1) 47 6 u' (k+1) ((cubeL.take k).flatMap dcs ++ dcs x)) (hg:W.grownBy W' u.ownBlock):EI w pb nb db uo u' (k+1) W':=by
 have ne:∀b,b<pb+1+1→some b≠u.ownBlock:=fun b hb=>row_lt6 h.row hb
 have ne2:∀q,u.ownBlock=some q→pb+1+1≤q:=fun q hq=>by
  rcases Nat.lt_or_ge q (pb+1+1) with k|k
  ·exact absurd hq.symm (ne q k)
  ·exact k
 have l1:=h.lo;have l2:=h.ln;have l3:=h.ld;refine ⟨h.below.grown hg h.below.size (fun q hq=>by have:=ne2 q hq;omega),Nat.le_trans h.sz hg.size,h.lo,h.bd.grown hg (ne _ (by omega)),h.rs.grown hg (ne _ (by omega)),h.rc.grown hg (ne _ (by omega)),h.o.grown hg (ne _ (by omega)),h.hn.grown hg (ne _ (by omega)),h.hd.grown hg (ne _ (by omega)),h.ln,h.ld,h.gn,h.gd,?_⟩;rw [List.take_add_one,hx,List.flatMap_append];simpa using hown
theorem EI.put {w:World} {pb nb db:Nat} {uo u:Value} {k:Nat} {W:World} (h:EI w pb nb db uo u k W):EI w pb nb db u u k (W.setCell ⟨pb+1,0,none⟩ u):=by
 have hg:=grown_set31 W (pb+1) 0 u;have l1:=h.lo;have l2:=h.ln;have l3:=h.ld;exact ⟨h.below.setCell (by show w.heap.size≤pb+1;omega) _,Nat.le_trans h.sz hg.size,h.lo,h.bd.set (by omega),h.rs.set (by omega),h.rc.set (by omega),h.o.put,h.hn.set (by omega),h.hd.set (by omega),h.ln,h.ld,h.gn,h.gd,h.row.kept hg (.inr (row_lt6 h.row (by omega)).symm)⟩
theorem row_nat {W:World} {base cap g:Nat} {e:TypeId} {L:List D} (h:W.ownsRow base e 6 (.slice (some ⟨g,0,none⟩) L.length cap) L.length (L.flatMap dcs)) (hg:g<W.heap.size):NAt W (some ⟨g,0,none⟩) L:=fun _=>
 ⟨g,0,rfl,hg,fun i s hs j hj=>by
  have hl:(dcs s)[j]? = some ((dcs s)[j]'hj):=List.getElem?_eq_getElem hj;have:=h.cells (g:=g) rfl (i*6+j) _ ((flat_at dcs 6 (fun _=>rfl) L i s hs j hj).trans hl);rw [add31] at this;rw [Nat.zero_add,hl]
  exact this⟩
structure EX (pb db g cap a:Nat) (W:World):Prop where
 row:W.ownsRow (pb+1+1) 47 6 (.slice (some ⟨g,0,none⟩) 6 cap) 6 (cubeL.flatMap dcs)
 hd:Rd W db (cubeM.flatMap pcs)
 l1:a+1<pb
 l2:a+1<db
theorem EX.kept {pb db g cap a:Nat} {W W':World} (h:EX pb db g cap a W) (hb:Below W.heap.size W W'):EX pb db g cap a W':=⟨ownsRow_below h.row hb,h.hd.kept hb,h.l1,h.l2⟩
theorem EX.set {pb db g cap a d i:Nat} {u:Value} {W:World} (h:EX pb db g cap a W) (hd:d≤a+1):EX pb db g cap a (W.setCell ⟨d,i,none⟩ u):=⟨row_set6 h.row (by have:=h.l1;omega),h.hd.set (by have:=h.l2;omega),h.l1,h.l2⟩
theorem EX.gl {pb db g cap a:Nat} {W:World} (h:EX pb db g cap a W):g<W.heap.size:=by
 obtain ⟨g',cap',e,h5,h6⟩:=h.row.form (by decide);cases e;exact h6
structure Axn (a0 o1 pb db gg cap tb n0:Nat) (w0 w:World) (l0 l1 l2 l3 l4 l5:Bool) (v0 v1 v2 v3:Value):Prop where
 g:Ho w0 w n0 [(tb,[.int .i64 (-8388608),.int .i64 8388608]),(pb+1,[.slice (some ⟨gg,0,none⟩) 6 cap,.slice (some ⟨db,0,none⟩) 6 6,.int .i64 33554432,.int .i64 33554432])]
 sz:n0≤w.heap.size
 mn:n0≤n0
 u0:l4=false→Bx w a0 [.slice none 0 0,.slice none 0 0,.int .i64 0,.int .i64 0]
 us0:l4=true→Bx w a0 [.slice (some ⟨gg,0,none⟩) 6 cap,.slice (some ⟨db,0,none⟩) 6 6,.int .i64 33554432,.int .i64 33554432]
 un0:a0<n0
 um0:w0.heap.size≤a0
 uq0:∀p∈([(tb,[.int .i64 (-8388608),.int .i64 8388608]),(pb+1,[.slice (some ⟨gg,0,none⟩) 6 cap,.slice (some ⟨db,0,none⟩) 6 6,.int .i64 33554432,.int .i64 33554432])]:List (Nat × List Value)),¬(p.1=a0)
 ux0:a0≤a0+1
 une0_1:¬(o1=a0)
 u1:l5=false→Bx w o1 [.int .i64 0,.int .i64 0,.int .i64 0,.int .i64 0,.int .i64 0,.int .i64 0,.int .i64 0,.int .i64 0,.int .i64 0]
 us1:l5=true→Bx w o1 [.int .i64 2,.int .i64 (-8388608),.int .i64 8388608,.int .i64 (-8388608),.int .i64 8388608,.int .i64 0,.int .i64 0,.int .i64 0,.int .i64 0]
 un1:o1<n0
 um1:w0.heap.size≤o1
 uq1:∀p∈([(tb,[.int .i64 (-8388608),.int .i64 8388608]),(pb+1,[.slice (some ⟨gg,0,none⟩) 6 cap,.slice (some ⟨db,0,none⟩) 6 6,.int .i64 33554432,.int .i64 33554432])]:List (Nat × List Value)),¬(p.1=o1)
 ux1:o1≤a0+1
 une1_0:¬(a0=o1)
 x:EX pb db gg cap a0 w
 ev0:l0=true→v0 = .agg #[.slice (some ⟨gg,0,none⟩) 6 cap,.slice (some ⟨db,0,none⟩) 6 6,.int .i64 33554432,.int .i64 33554432]
 ev1:l1=true→v1=(iv (-8388608) 8388608)
 ev2:l2=true→v2=(iv (-8388608) 8388608)
 ev3:l3=true→v3 = .agg #[.int .i64 2,.int .i64 (-8388608),.int .i64 8388608,.int .i64 (-8388608),.int .i64 8388608,.int .i64 0,.int .i64 0,.int .i64 0,.int .i64 0]
theorem Axn.kept {a0 o1 pb db gg cap tb n0:Nat} {w0 w:World} {l0 l1 l2 l3 l4 l5:Bool} {v0 v1 v2 v3:Value} {w':World} (h:Axn a0 o1 pb db gg cap tb n0 w0 w l0 l1 l2 l3 l4 l5 v0 v1 v2 v3) (hb:Below w.heap.size w w'):Axn a0 o1 pb db gg cap tb n0 w0 w' l0 l1 l2 l3 l4 l5 v0 v1 v2 v3:=
 {h with g:=h.g.call hb,sz:=Nat.le_trans h.sz hb.size,x:=h.x.kept hb,u0:=fun p=>(h.u0 p).kept hb,us0:=fun p=>(h.us0 p).kept hb,u1:=fun p=>(h.u1 p).kept hb,us1:=fun p=>(h.us1 p).kept hb}
structure Ax (w:World) (pb nb db k:Nat) (u:Value) (s:D) (W:World) (l0 l1 l2 l3 l4 l5 l6 l7 l8 l9 l10:Bool) (v0 v1 v2 v3 v4 v5 v6 v7 v8 v9:Value) (b7 g7 cap7:Nat):Prop where
 sa:l8=false→EI w pb nb db (u) (u) (k) W
 sb:l8=true→l10=false→EI w pb nb db (u) (.slice (some ⟨g7,0,none⟩) (k+1) cap7) (k+1) W
 sc:l10=true→EI w pb nb db (.slice (some ⟨g7,0,none⟩) (k+1) cap7) (.slice (some ⟨g7,0,none⟩) (k+1) cap7) (k+1) W
 sr:l8=false→Rs W nb (k*6) (dcs s)
 sz:l7=true→l8=false→Bx W b7 (dcs s)
 o1_0:l1=true→l0=true
 o3_2:l3=true→l2=true
 o5_3:l5=true→l3=true
 o5_4:l5=true→l4=true
 o6_5:l6=true→l5=true
 o7_6:l7=true→l6=true
 o8_1:l8=true→l1=true
 o8_7:l8=true→l7=true
 o9_0:l9=true→l0=true
 o9_1:l9=true→l1=true
 o9_2:l9=true→l2=true
 o9_3:l9=true→l3=true
 o9_4:l9=true→l4=true
 o9_5:l9=true→l5=true
 o9_6:l9=true→l6=true
 o9_7:l9=true→l7=true
 o9_8:l9=true→l8=true
 o10_9:l10=true→l9=true
 o10_8:l10=true→l8=true
 o10_0:l10=true→l0=true
 o10_1:l10=true→l1=true
 o10_2:l10=true→l2=true
 o10_3:l10=true→l3=true
 o10_4:l10=true→l4=true
 o10_5:l10=true→l5=true
 o10_6:l10=true→l6=true
 o10_7:l10=true→l7=true
 ev0:l0=true→v0 = .pointer (some ⟨pb+1,0,none⟩)
 ev1:l1=true→v1=u
 ev2:l2=true→v2 = .pointer (some ⟨pb,0,none⟩)
 ev3:l3=true→v3 = .slice (some ⟨nb,0,none⟩) 6 6
 ev4:l4=true→v4 = .int .i64 k
 ev5:l5=true→v5 = .pointer (some ⟨nb,k*6,none⟩)
 ev6:l6=true→v6=dv s
 ev7:l7=true→v7 = .slice (some ⟨b7,0,none⟩) 1 1
 ev8:l8=true→v8 = .slice (some ⟨g7,0,none⟩) (k+1) cap7
 ev9:l9=true→v9 = .pointer (some ⟨pb+1,0,none⟩)
theorem Ax.kept {w:World} {pb nb db k:Nat} {u:Value} {s:D} {W:World} {l0 l1 l2 l3 l4 l5 l6 l7 l8 l9 l10:Bool} {v0 v1 v2 v3 v4 v5 v6 v7 v8 v9:Value} {b7 g7 cap7:Nat} {W':World} (h:Ax w pb nb db k u s W l0 l1 l2 l3 l4 l5 l6 l7 l8 l9 l10 v0 v1 v2 v3 v4 v5 v6 v7 v8 v9 b7 g7 cap7) (hb:Below W.heap.size W W'):Ax w pb nb db k u s W' l0 l1 l2 l3 l4 l5 l6 l7 l8 l9 l10 v0 v1 v2 v3 v4 v5 v6 v7 v8 v9 b7 g7 cap7:=
 {h with sa:=fun p=>(h.sa p).kept hb,sb:=fun p q=>(h.sb p q).kept hb,sc:=fun p=>(h.sc p).kept hb,sr:=fun p=>(h.sr p).kept hb,sz:=fun p q=>(h.sz p q).kept hb}
end Go.Proofs.Ytiecdgcdcpmgaaa.Iv
