/- Texts PEx, PExb, PAw2, PHe. -/
import Derived.Test.YtiecdgcdcpmgaaaGreatM06
import Derived.Test.YtiecdgcdcpmgaaaGreatM22
import Derived.Test.YtiecdgcdcpmgaaaGreatM24
import Derived.Test.YtiecdgcdcpmgaaaGreatM28
import Derived.Test.YtiecdgcdcpmgaaaGreatM21

/- The example of layers 32 and 33: the cube, and a cell of its upper face. -/
namespace Go.Proofs.YtiecdgcdcpmgaaaGreat.Iv
open Go.RowKit
attribute [local go_sem] Oper.semAt_some
theorem info_dir33:(Tryz.prog.info? 45).map (fun i=>(i.zero,i.size,i.bytes))=some (some (.agg #[.int .i64 0,.int .i64 0,.int .i64 0,.int .i64 0,.int .i64 0,.int .i64 0]),6,48):=by kernel_rfl
def exC:CV:=⟨2,-8388608,8388608,-8388608,8388608,0,0,0,0⟩
theorem Bx.put4 {W:World} {b:Nat} {p0 p1 p2 p3 u0 u1 u2 u3:Value} (h:Bx W b [p0,p1,p2,p3]):Bx ((((W.setCell ⟨b,0,none⟩ u0).setCell ⟨b,1,none⟩ u1).setCell ⟨b,2,none⟩ u2).setCell ⟨b,3,none⟩ u3) b [u0,u1,u2,u3]:=h.put.put.put.put
theorem rcube_any (w:World):Calls Tryz.prog 53 #[iv 16777216 16777216,iv (-16777216) (-16777216)] w fun e w'=>
  (∃nb db,e = .returned (.agg #[.slice (some ⟨nb,0,none⟩) 6 6,.slice (some ⟨db,0,none⟩) 6 6,.int .i64 33554432,.int .i64 33554432])∧Rd w' nb (cubeL.flatMap dcs)∧Rd w' db (cubeM.flatMap pcs)∧w.heap.size≤nb∧w.heap.size≤db)∧Below w.heap.size w w':=by
 go_enter Tryz.func53,Tryz.ntmps53
 go_wp2_with fail
 refine bodyPost_box (b:=w.heap.size+1+1) (cs:=[.slice (some ⟨w.heap.size+1+1+1+1,0,none⟩) 6 6,.slice (some ⟨w.heap.size+1+1+1+1+1,0,none⟩) 6 6,.int .i64 33554432,.int .i64 33554432]) (v:=.agg #[.slice (some ⟨w.heap.size+1+1+1+1,0,none⟩) 6 6,.slice (some ⟨w.heap.size+1+1+1+1+1,0,none⟩) 6 6,.int .i64 33554432,.int .i64 33554432]) (by
  (repeat (first|(with_reducible refine Bx.new ?_;(· (simp;done)))|with_reducible apply Bx.put4|with_reducible refine Bx.set ?_ (by omega)|with_reducible refine Bx.alc ?_ _))) (fun X hX=>by simp [results,Tryz.results53,go_sem,hX]) rfl ⟨⟨_,_,rfl,?_,?_,by omega,by omega⟩,by
  (with_reducible repeat (first|exact Below.refl _ _|refine Below.setCell ?_ (by show w.heap.size≤w.heap.size+1+1;omega) _|refine Below.setCell ?_ (by show w.heap.size≤w.heap.size+1+1+1;omega) _|refine Below.alloc ?_ (by first|omega|(simp<;>omega)) _))⟩
 ·rw [show cubeL.flatMap dcs = [.int .i64 16777216,.int .i64 16777216,.int .i64 0,.int .i64 0,.int .i64 0,.int .i64 0,.int .i64 0,.int .i64 0,.int .i64 16777216,.int .i64 16777216,.int .i64 0,.int .i64 0,.int .i64 0,.int .i64 0,.int .i64 0,.int .i64 0,.int .i64 16777216,.int .i64 16777216,.int .i64 (-16777216),.int .i64 (-16777216),.int .i64 0,.int .i64 0,.int .i64 0,.int .i64 0,.int .i64 0,.int .i64 0,.int .i64 (-16777216),.int .i64 (-16777216),.int .i64 0,.int .i64 0,.int .i64 0,.int .i64 0,.int .i64 0,.int .i64 0,.int .i64 (-16777216),.int .i64 (-16777216)] from rfl]
  (with_reducible repeat (first|(refine Rd.new ?_;(· (simp;done)))|refine Rd.set ?_ (by omega)|refine Rd.alc ?_ _))
 ·rw [show cubeM.flatMap pcs = [.int .i64 16777216,.int .i64 16777216,.int .i64 16777216,.int .i64 16777216,.int .i64 16777216,.int .i64 16777216,.int .i64 16777216,.int .i64 16777216,.int .i64 16777216,.int .i64 16777216,.int .i64 16777216,.int .i64 16777216] from rfl]
  (with_reducible repeat (first|(refine Rd.new ?_;(· (simp;done)))|refine Rd.set ?_ (by omega)|refine Rd.alc ?_ _))
structure EI (w:World) (pb nb db:Nat) (uo u:Value) (k:Nat) (W:World):Prop where
 below:Below w.heap.size w W
 sz:pb+1+1≤W.heap.size
 lo:w.heap.size+1+1+1+1≤pb
 bd:Rd W pb [.slice (some ⟨nb,0,none⟩) 6 6,.slice (some ⟨db,0,none⟩) 6 6,.int .i64 33554432,.int .i64 33554432]
 rs:Bx W w.heap.size [.slice none 0 0,.slice none 0 0,.int .i64 0,.int .i64 0]
 rc:Bx W (w.heap.size+1) [.int .i64 0,.int .i64 0,.int .i64 0,.int .i64 0,.int .i64 0,.int .i64 0,.int .i64 0,.int .i64 0,.int .i64 0]
 o:Bx W (pb+1) [uo,.slice (some ⟨db,0,none⟩) 6 6,.int .i64 33554432,.int .i64 33554432]
 hn:Rd W nb (cubeL.flatMap dcs)
 hd:Rd W db (cubeM.flatMap pcs)
 ln:nb<pb
 ld:db<pb
 gn:w.heap.size+1<nb
 gd:w.heap.size+1<db
 row:W.ownsRow (pb+1+1) 45 6 u k ((cubeL.take k).flatMap dcs)
theorem EI.kept {w:World} {pb nb db:Nat} {uo u:Value} {k:Nat} {W W':World} (h:EI w pb nb db uo u k W) (hb:Below W.heap.size W W'):EI w pb nb db uo u k W':=
 ⟨h.below.trans (hb.mono h.below.size),Nat.le_trans h.sz hb.size,h.lo,h.bd.kept hb,h.rs.kept hb,h.rc.kept hb,h.o.kept hb,h.hn.kept hb,h.hd.kept hb,h.ln,h.ld,h.gn,h.gd,ownsRow_below h.row hb⟩
theorem EI.drew {w:World} {pb nb db:Nat} {uo u:Value} {k:Nat} {W:World} (h:EI w pb nb db uo u k W):EI w pb nb db uo u k W.drew:=h.kept (Below.refl _ _).drew
theorem EI.app {w:World} {pb nb db:Nat} {uo u u':Value} {k:Nat} {x:D} {W W':World} (h:EI w pb nb db uo u k W) (hx:cubeL[k]? = some x) (hown:W'.ownsRow (pb+1+1) 45 6 u' (k+1) ((cubeL.take k).flatMap dcs ++ dcs x)) (hg:W.grownBy W' u.ownBlock):EI w pb nb db uo u' (k+1) W':=by
 have ne:∀b,b<pb+1+1→some b≠u.ownBlock:=fun b hb=>row_lt6 h.row hb
 have ne2:∀q,u.ownBlock=some q→pb+1+1≤q:=fun q hq=>by
  rcases Nat.lt_or_ge q (pb+1+1) with k|k
  ·exact absurd hq.symm (ne q k)
  ·exact k
 have l1:=h.lo;have l2:=h.ln;have l3:=h.ld;refine ⟨h.below.grown hg h.below.size (fun q hq=>by have:=ne2 q hq;omega),Nat.le_trans h.sz hg.size,h.lo,h.bd.grown hg (ne _ (by omega)),h.rs.grown hg (ne _ (by omega)),h.rc.grown hg (ne _ (by omega)),h.o.grown hg (ne _ (by omega)),h.hn.grown hg (ne _ (by omega)),h.hd.grown hg (ne _ (by omega)),h.ln,h.ld,h.gn,h.gd,?_⟩;rw [List.take_add_one,hx,List.flatMap_append];simpa using hown
theorem EI.put {w:World} {pb nb db:Nat} {uo u:Value} {k:Nat} {W:World} (h:EI w pb nb db uo u k W):EI w pb nb db u u k (W.setCell ⟨pb+1,0,none⟩ u):=by
 have hg:=grown_set31 W (pb+1) 0 u;have l1:=h.lo;have l2:=h.ln;have l3:=h.ld;exact ⟨h.below.setCell (by show w.heap.size≤pb+1;omega) _,Nat.le_trans h.sz hg.size,h.lo,h.bd.set (by omega),h.rs.set (by omega),h.rc.set (by omega),h.o.put,h.hn.set (by omega),h.hd.set (by omega),h.ln,h.ld,h.gn,h.gd,h.row.kept hg (.inr (row_lt6 h.row (by omega)).symm)⟩
theorem row_nat {W:World} {base cap g:Nat} {e:TypeId} {L:List D} (h:W.ownsRow base e 6 (.slice (some ⟨g,0,none⟩) L.length cap) L.length (L.flatMap dcs)) (hg:g<W.heap.size):NAt W (some ⟨g,0,none⟩) L:=fun _=>
 ⟨g,0,rfl,hg,fun i s hs j hj=>by
  have hl:(dcs s)[j]? = some ((dcs s)[j]'hj):=List.getElem?_eq_getElem hj;have:=h.cells (g:=g) rfl (i*6+j) _ ((flat_at dcs 6 (fun _=>rfl) L i s hs j hj).trans hl);rw [add31] at this;rw [Nat.zero_add,hl]
  exact this⟩
structure EX (pb db g cap a:Nat) (W:World):Prop where
 row:W.ownsRow (pb+1+1) 45 6 (.slice (some ⟨g,0,none⟩) 6 cap) 6 (cubeL.flatMap dcs)
 hd:Rd W db (cubeM.flatMap pcs)
 l1:a+1<pb
 l2:a+1<db
theorem EX.kept {pb db g cap a:Nat} {W W':World} (h:EX pb db g cap a W) (hb:Below W.heap.size W W'):EX pb db g cap a W':=⟨ownsRow_below h.row hb,h.hd.kept hb,h.l1,h.l2⟩
theorem EX.set {pb db g cap a d i:Nat} {u:Value} {W:World} (h:EX pb db g cap a W) (hd:d≤a+1):EX pb db g cap a (W.setCell ⟨d,i,none⟩ u):=⟨row_set6 h.row (by have:=h.l1;omega),h.hd.set (by have:=h.l2;omega),h.l1,h.l2⟩
theorem EX.gl {pb db g cap a:Nat} {W:World} (h:EX pb db g cap a W):g<W.heap.size:=by
 obtain ⟨g',cap',e,h5,h6⟩:=h.row.form (by decide);cases e;exact h6
structure Axn (a0 o1 pb db gg cap tb n0:Nat) (w0 w:World) (l0 l1 l2 l3 l4 l5:Bool) (v0 v1 v2 v3:Value):Prop where
 g:Ho w0 w n0 [(tb,[.int .i64 (-8388608),.int .i64 8388608]),(pb+1,[.slice (some ⟨gg,0,none⟩) 6 cap,.slice (some ⟨db,0,none⟩) 6 6,.int .i64 33554432,.int .i64 33554432])]
 sz:n0≤w.heap.size
 mn:n0≤n0
 u0:l4=false→Bx w a0 [.slice none 0 0,.slice none 0 0,.int .i64 0,.int .i64 0]
 us0:l4=true→Bx w a0 [.slice (some ⟨gg,0,none⟩) 6 cap,.slice (some ⟨db,0,none⟩) 6 6,.int .i64 33554432,.int .i64 33554432]
 un0:a0<n0
 um0:w0.heap.size≤a0
 uq0:∀p∈([(tb,[.int .i64 (-8388608),.int .i64 8388608]),(pb+1,[.slice (some ⟨gg,0,none⟩) 6 cap,.slice (some ⟨db,0,none⟩) 6 6,.int .i64 33554432,.int .i64 33554432])]:List (Nat × List Value)),¬(p.1=a0)
 ux0:a0≤a0+1
 une0_1:¬(o1=a0)
 u1:l5=false→Bx w o1 [.int .i64 0,.int .i64 0,.int .i64 0,.int .i64 0,.int .i64 0,.int .i64 0,.int .i64 0,.int .i64 0,.int .i64 0]
 us1:l5=true→Bx w o1 [.int .i64 2,.int .i64 (-8388608),.int .i64 8388608,.int .i64 (-8388608),.int .i64 8388608,.int .i64 0,.int .i64 0,.int .i64 0,.int .i64 0]
 un1:o1<n0
 um1:w0.heap.size≤o1
 uq1:∀p∈([(tb,[.int .i64 (-8388608),.int .i64 8388608]),(pb+1,[.slice (some ⟨gg,0,none⟩) 6 cap,.slice (some ⟨db,0,none⟩) 6 6,.int .i64 33554432,.int .i64 33554432])]:List (Nat × List Value)),¬(p.1=o1)
 ux1:o1≤a0+1
 une1_0:¬(a0=o1)
 x:EX pb db gg cap a0 w
 ev0:l0=true→v0 = .agg #[.slice (some ⟨gg,0,none⟩) 6 cap,.slice (some ⟨db,0,none⟩) 6 6,.int .i64 33554432,.int .i64 33554432]
 ev1:l1=true→v1=(iv (-8388608) 8388608)
 ev2:l2=true→v2=(iv (-8388608) 8388608)
 ev3:l3=true→v3 = .agg #[.int .i64 2,.int .i64 (-8388608),.int .i64 8388608,.int .i64 (-8388608),.int .i64 8388608,.int .i64 0,.int .i64 0,.int .i64 0,.int .i64 0]
theorem Axn.kept {a0 o1 pb db gg cap tb n0:Nat} {w0 w:World} {l0 l1 l2 l3 l4 l5:Bool} {v0 v1 v2 v3:Value} {w':World} (h:Axn a0 o1 pb db gg cap tb n0 w0 w l0 l1 l2 l3 l4 l5 v0 v1 v2 v3) (hb:Below w.heap.size w w'):Axn a0 o1 pb db gg cap tb n0 w0 w' l0 l1 l2 l3 l4 l5 v0 v1 v2 v3:=
 {h with g:=h.g.call hb,sz:=Nat.le_trans h.sz hb.size,x:=h.x.kept hb,u0:=fun p=>(h.u0 p).kept hb,us0:=fun p=>(h.us0 p).kept hb,u1:=fun p=>(h.u1 p).kept hb,us1:=fun p=>(h.us1 p).kept hb}
structure Ax (w:World) (pb nb db k:Nat) (u:Value) (s:D) (W:World) (l0 l1 l2 l3 l4 l5 l6 l7 l8 l9 l10:Bool) (v0 v1 v2 v3 v4 v5 v6 v7 v8 v9:Value) (b7 g7 cap7:Nat):Prop where
 sa:l8=false→EI w pb nb db (u) (u) (k) W
 sb:l8=true→l10=false→EI w pb nb db (u) (.slice (some ⟨g7,0,none⟩) (k+1) cap7) (k+1) W
 sc:l10=true→EI w pb nb db (.slice (some ⟨g7,0,none⟩) (k+1) cap7) (.slice (some ⟨g7,0,none⟩) (k+1) cap7) (k+1) W
 sr:l8=false→Rs W nb (k*6) (dcs s)
 sz:l7=true→l8=false→Bx W b7 (dcs s)
 o1_0:l1=true→l0=true
 o3_2:l3=true→l2=true
 o5_3:l5=true→l3=true
 o5_4:l5=true→l4=true
 o6_5:l6=true→l5=true
 o7_6:l7=true→l6=true
 o8_1:l8=true→l1=true
 o8_7:l8=true→l7=true
 o9_0:l9=true→l0=true
 o9_1:l9=true→l1=true
 o9_2:l9=true→l2=true
 o9_3:l9=true→l3=true
 o9_4:l9=true→l4=true
 o9_5:l9=true→l5=true
 o9_6:l9=true→l6=true
 o9_7:l9=true→l7=true
 o9_8:l9=true→l8=true
 o10_9:l10=true→l9=true
 o10_8:l10=true→l8=true
 o10_0:l10=true→l0=true
 o10_1:l10=true→l1=true
 o10_2:l10=true→l2=true
 o10_3:l10=true→l3=true
 o10_4:l10=true→l4=true
 o10_5:l10=true→l5=true
 o10_6:l10=true→l6=true
 o10_7:l10=true→l7=true
 ev0:l0=true→v0 = .pointer (some ⟨pb+1,0,none⟩)
 ev1:l1=true→v1=u
 ev2:l2=true→v2 = .pointer (some ⟨pb,0,none⟩)
 ev3:l3=true→v3 = .slice (some ⟨nb,0,none⟩) 6 6
 ev4:l4=true→v4 = .int .i64 k
 ev5:l5=true→v5 = .pointer (some ⟨nb,k*6,none⟩)
 ev6:l6=true→v6=dv s
 ev7:l7=true→v7 = .slice (some ⟨b7,0,none⟩) 1 1
 ev8:l8=true→v8 = .slice (some ⟨g7,0,none⟩) (k+1) cap7
 ev9:l9=true→v9 = .pointer (some ⟨pb+1,0,none⟩)
theorem Ax.kept {w:World} {pb nb db k:Nat} {u:Value} {s:D} {W:World} {l0 l1 l2 l3 l4 l5 l6 l7 l8 l9 l10:Bool} {v0 v1 v2 v3 v4 v5 v6 v7 v8 v9:Value} {b7 g7 cap7:Nat} {W':World} (h:Ax w pb nb db k u s W l0 l1 l2 l3 l4 l5 l6 l7 l8 l9 l10 v0 v1 v2 v3 v4 v5 v6 v7 v8 v9 b7 g7 cap7) (hb:Below W.heap.size W W'):Ax w pb nb db k u s W' l0 l1 l2 l3 l4 l5 l6 l7 l8 l9 l10 v0 v1 v2 v3 v4 v5 v6 v7 v8 v9 b7 g7 cap7:=
 {h with sa:=fun p=>(h.sa p).kept hb,sb:=fun p q=>(h.sb p q).kept hb,sc:=fun p=>(h.sc p).kept hb,sr:=fun p=>(h.sr p).kept hb,sz:=fun p q=>(h.sz p q).kept hb}
end Go.Proofs.YtiecdgcdcpmgaaaGreat.Iv

/- The example of layer 32: the cube, and a cell of its upper face. -/
namespace Go.Proofs.YtiecdgcdcpmgaaaGreat.Iv
open Go.RowKit
attribute [local go_sem] Oper.semAt_some
theorem ldir_any (s:D) (w:World):Calls Tryz.prog 54 #[dv s] w fun e w'=>e = .returned (dv s)∧Below w.heap.size w w':=by
 have H0:=((Ho.nil w).bx [.int .i64 s.a,.int .i64 s.b,.int .i64 s.c,.int .i64 s.d,.int .i64 s.e,.int .i64 s.f] 57 (w.heap.size) (by simp));have o_0:Bx ((w.alloc (.cells (List.toArray [.int .i64 s.a,.int .i64 s.b,.int .i64 s.c,.int .i64 s.d,.int .i64 s.e,.int .i64 s.f]) 57)).alloc (.cells (List.toArray [.int .i64 0,.int .i64 0,.int .i64 0,.int .i64 0,.int .i64 0,.int .i64 0]) 45)) (w.heap.size+1) [.int .i64 0,.int .i64 0,.int .i64 0,.int .i64 0,.int .i64 0,.int .i64 0]:=bxA;go_enter Tryz.func54,Tryz.ntmps54;have o_0c:=o_0.c;have o_0f:=o_0.f
 go_wp2_with fail
 refine bodyPost_box (b:=w.heap.size+1) (cs:=[.int .i64 s.a,.int .i64 s.b,.int .i64 s.c,.int .i64 s.d,.int .i64 s.e,.int .i64 s.f]) (v:=dv s) bxA (fun X hX=>by simp [results,Tryz.results54,go_sem,hX]) rfl ⟨rfl,by
  refine Ho.below (n:=w.heap.size+1) (l:=[(w.heap.size,[.int .i64 s.a,.int .i64 s.b,.int .i64 s.c,.int .i64 s.d,.int .i64 s.e,.int .i64 s.f])]) ?_
  exact hoA⟩
structure Ayn (a0 o1 pb db gg cap tb n0:Nat) (w0 w:World) (l0 l1 l2 l3 l4 l5:Bool) (v0 v1 v2 v3:Value):Prop where
 g:Ho w0 w n0 [(tb,[.int .i64 (-8388608),.int .i64 8388608]),(pb+1,[.slice (some ⟨gg,0,none⟩) 6 cap,.slice (some ⟨db,0,none⟩) 6 6,.int .i64 33554432,.int .i64 33554432])]
 sz:n0≤w.heap.size
 mn:n0≤n0
 u0:l4=false→Bx w a0 [.slice none 0 0,.slice none 0 0,.int .i64 0,.int .i64 0]
 us0:l4=true→Bx w a0 [.slice (some ⟨gg,0,none⟩) 6 cap,.slice (some ⟨db,0,none⟩) 6 6,.int .i64 33554432,.int .i64 33554432]
 un0:a0<n0
 um0:w0.heap.size≤a0
 uq0:∀p∈([(tb,[.int .i64 (-8388608),.int .i64 8388608]),(pb+1,[.slice (some ⟨gg,0,none⟩) 6 cap,.slice (some ⟨db,0,none⟩) 6 6,.int .i64 33554432,.int .i64 33554432])]:List (Nat × List Value)),¬(p.1=a0)
 ux0:a0≤a0+1
 une0_1:¬(o1=a0)
 u1:l5=false→Bx w o1 [.int .i64 0,.int .i64 0,.int .i64 0,.int .i64 0,.int .i64 0,.int .i64 0,.int .i64 0,.int .i64 0,.int .i64 0]
 us1:l5=true→Bx w o1 [.int .i64 2,.int .i64 (-8388608),.int .i64 8388608,.int .i64 (-8388608),.int .i64 8388608,.int .i64 0,.int .i64 0,.int .i64 0,.int .i64 0]
 un1:o1<n0
 um1:w0.heap.size≤o1
 uq1:∀p∈([(tb,[.int .i64 (-8388608),.int .i64 8388608]),(pb+1,[.slice (some ⟨gg,0,none⟩) 6 cap,.slice (some ⟨db,0,none⟩) 6 6,.int .i64 33554432,.int .i64 33554432])]:List (Nat × List Value)),¬(p.1=o1)
 ux1:o1≤a0+1
 une1_0:¬(a0=o1)
 x:EX pb db gg cap a0 w
 ev0:l0=true→v0 = .agg #[.slice (some ⟨gg,0,none⟩) 6 cap,.slice (some ⟨db,0,none⟩) 6 6,.int .i64 33554432,.int .i64 33554432]
 ev1:l1=true→v1=(iv (-8388608) 8388608)
 ev2:l2=true→v2=(iv (-8388608) 8388608)
 ev3:l3=true→v3 = .agg #[.int .i64 2,.int .i64 (-8388608),.int .i64 8388608,.int .i64 (-8388608),.int .i64 8388608,.int .i64 0,.int .i64 0,.int .i64 0,.int .i64 0]
theorem Ayn.kept {a0 o1 pb db gg cap tb n0:Nat} {w0 w:World} {l0 l1 l2 l3 l4 l5:Bool} {v0 v1 v2 v3:Value} {w':World} (h:Ayn a0 o1 pb db gg cap tb n0 w0 w l0 l1 l2 l3 l4 l5 v0 v1 v2 v3) (hb:Below w.heap.size w w'):Ayn a0 o1 pb db gg cap tb n0 w0 w' l0 l1 l2 l3 l4 l5 v0 v1 v2 v3:=
 {h with g:=h.g.call hb,sz:=Nat.le_trans h.sz hb.size,x:=h.x.kept hb,u0:=fun p=>(h.u0 p).kept hb,us0:=fun p=>(h.us0 p).kept hb,u1:=fun p=>(h.u1 p).kept hb,us1:=fun p=>(h.us1 p).kept hb}
def Ayn.I (a0 o1 pb db gg cap tb n0:Nat) (w0:World):Act→Array Bool→Act→World→Prop:=fun aO LX aX w=>∃(l0 l1 l2 l3 l4 l5:Bool) (v0 v1 v2 v3:Value),LX=#[l0,l1,l2,l3,l4,l5]∧aX=((((aO.put (some 37) v0).put (some 38) v1).put (some 39) v2).put (some 40) v3)∧Ayn a0 o1 pb db gg cap tb n0 w0 w l0 l1 l2 l3 l4 l5 v0 v1 v2 v3
theorem Ayn.all (a0 o1 pb db gg cap tb n0:Nat) (w0:World) (aO:Act) {PP:Array Bool→Act→World→Prop} (hk:∀(w:World) (l0 l1 l2 l3 l4 l5:Bool) (v0 v1 v2 v3:Value),Ayn a0 o1 pb db gg cap tb n0 w0 w l0 l1 l2 l3 l4 l5 v0 v1 v2 v3→PP #[l0,l1,l2,l3,l4,l5] ((((aO.put (some 37) v0).put (some 38) v1).put (some 39) v2).put (some 40) v3) w):∀L a w,Ayn.I a0 o1 pb db gg cap tb n0 w0 aO L a w→PP L a w:=by
 intro L a w hI;unfold Ayn.I at hI;exact Exists.elim hI (fun l0 hh0=>Exists.elim hh0 (fun l1 hh1=>Exists.elim hh1 (fun l2 hh2=>Exists.elim hh2 (fun l3 hh3=>Exists.elim hh3 (fun l4 hh4=>Exists.elim hh4 (fun l5 hh5=>Exists.elim hh5 (fun v0 hh6=>Exists.elim hh6 (fun v1 hh7=>Exists.elim hh7 (fun v2 hh8=>Exists.elim hh8 (fun v3 hh9=>And.elim (fun e1 h1=>And.elim (fun e2 h=>by subst e1;subst e2;exact hk w l0 l1 l2 l3 l4 l5 v0 v1 v2 v3 h) h1) hh9))))))))))
structure Ay (w:World) (pb nb db k:Nat) (u:Value) (s:D) (W:World) (l0 l1 l2 l3 l4 l5 l6 l7 l8 l9 l10 l11:Bool) (v0 v1 v2 v3 v4 v5 v6 v7 v8 v9 v10:Value) (b7 g7 cap7:Nat):Prop where
 sa:l9=false→EI w pb nb db (u) (u) (k) W
 sb:l9=true→l11=false→EI w pb nb db (u) (.slice (some ⟨g7,0,none⟩) (k+1) cap7) (k+1) W
 sc:l11=true→EI w pb nb db (.slice (some ⟨g7,0,none⟩) (k+1) cap7) (.slice (some ⟨g7,0,none⟩) (k+1) cap7) (k+1) W
 sr:l9=false→Rs W nb (k*6) (dcs s)
 sz:l8=true→l9=false→Bx W b7 (dcs s)
 o1_0:l1=true→l0=true
 o3_2:l3=true→l2=true
 o5_3:l5=true→l3=true
 o5_4:l5=true→l4=true
 o6_5:l6=true→l5=true
 o7_6:l7=true→l6=true
 o8_7:l8=true→l7=true
 o9_1:l9=true→l1=true
 o9_8:l9=true→l8=true
 o9_7:l9=true→l7=true
 o10_0:l10=true→l0=true
 o10_1:l10=true→l1=true
 o10_2:l10=true→l2=true
 o10_3:l10=true→l3=true
 o10_4:l10=true→l4=true
 o10_5:l10=true→l5=true
 o10_6:l10=true→l6=true
 o10_7:l10=true→l7=true
 o10_8:l10=true→l8=true
 o10_9:l10=true→l9=true
 o11_10:l11=true→l10=true
 o11_9:l11=true→l9=true
 o11_0:l11=true→l0=true
 o11_1:l11=true→l1=true
 o11_2:l11=true→l2=true
 o11_3:l11=true→l3=true
 o11_4:l11=true→l4=true
 o11_5:l11=true→l5=true
 o11_6:l11=true→l6=true
 o11_7:l11=true→l7=true
 o11_8:l11=true→l8=true
 ev0:l0=true→v0 = .pointer (some ⟨pb+1,0,none⟩)
 ev1:l1=true→v1=u
 ev2:l2=true→v2 = .pointer (some ⟨pb,0,none⟩)
 ev3:l3=true→v3 = .slice (some ⟨nb,0,none⟩) 6 6
 ev4:l4=true→v4 = .int .i64 k
 ev5:l5=true→v5 = .pointer (some ⟨nb,k*6,none⟩)
 ev6:l6=true→v6=dv s
 ev7:l7=true→v7=dv s
 ev8:l8=true→v8 = .slice (some ⟨b7,0,none⟩) 1 1
 ev9:l9=true→v9 = .slice (some ⟨g7,0,none⟩) (k+1) cap7
 ev10:l10=true→v10 = .pointer (some ⟨pb+1,0,none⟩)
theorem Ay.kept {w:World} {pb nb db k:Nat} {u:Value} {s:D} {W:World} {l0 l1 l2 l3 l4 l5 l6 l7 l8 l9 l10 l11:Bool} {v0 v1 v2 v3 v4 v5 v6 v7 v8 v9 v10:Value} {b7 g7 cap7:Nat} {W':World} (h:Ay w pb nb db k u s W l0 l1 l2 l3 l4 l5 l6 l7 l8 l9 l10 l11 v0 v1 v2 v3 v4 v5 v6 v7 v8 v9 v10 b7 g7 cap7) (hb:Below W.heap.size W W'):Ay w pb nb db k u s W' l0 l1 l2 l3 l4 l5 l6 l7 l8 l9 l10 l11 v0 v1 v2 v3 v4 v5 v6 v7 v8 v9 v10 b7 g7 cap7:=
 {h with sa:=fun p=>(h.sa p).kept hb,sb:=fun p q=>(h.sb p q).kept hb,sc:=fun p=>(h.sc p).kept hb,sr:=fun p=>(h.sr p).kept hb,sz:=fun p q=>(h.sz p q).kept hb}
def Ay.I (w:World) (pb nb db k:Nat) (u:Value) (s:D):Act→Array Bool→Act→World→Prop:=fun aO LX aX W=>∃(l0 l1 l2 l3 l4 l5 l6 l7 l8 l9 l10 l11:Bool) (v0 v1 v2 v3 v4 v5 v6 v7 v8 v9 v10:Value) (b7 g7 cap7:Nat),LX=#[l0,l1,l2,l3,l4,l5,l6,l7,l8,l9,l10,l11]∧aX=(((((((((((aO.put (some 25) v0).put (some 26) v1).put (some 27) v2).put (some 28) v3).put (some 29) v4).put (some 30) v5).put (some 31) v6).put (some 32) v7).put (some 33) v8).put (some 34) v9).put (some 35) v10)∧Ay w pb nb db k u s W l0 l1 l2 l3 l4 l5 l6 l7 l8 l9 l10 l11 v0 v1 v2 v3 v4 v5 v6 v7 v8 v9 v10 b7 g7 cap7
set_option maxRecDepth 100000 in
set_option maxHeartbeats 16000000 in
theorem ex32_any (w:World):Calls Tryz.prog 23 #[] w fun e w'=>
  (∃nb cap db,e = .returned (.tuple #[.agg #[.slice (some ⟨nb,0,none⟩) 6 cap,.slice (some ⟨db,0,none⟩) 6 6,.int .i64 33554432,.int .i64 33554432],cellv exC])∧NAt w' (some ⟨nb,0,none⟩) cubeL∧PAt w' (some ⟨db,0,none⟩) cubeM)∧Below w.heap.size w w':=by
 obtain ⟨j0,hj,hz0,hz1,hz2⟩:=info_parts info_dir33;go_enter Tryz.func23,Tryz.ntmps23
 go_wp2_with fail
 refine (one_any _).mono ?_;rintro e w0 ⟨rfl,hb0⟩
 have W00:Below w.heap.size w ((w.alloc (.cells (List.toArray [.slice none 0 0,.slice none 0 0,.int .i64 0,.int .i64 0]) 27)).alloc (.cells (List.toArray [.int .i64 0,.int .i64 0,.int .i64 0,.int .i64 0,.int .i64 0,.int .i64 0,.int .i64 0,.int .i64 0,.int .i64 0]) 29)):=by
  (with_reducible repeat (first|exact Below.refl _ _|refine Below.alloc ?_ (by first|omega|(simp<;>omega)) _))
 have O00:Bx w0 w.heap.size [.slice none 0 0,.slice none 0 0,.int .i64 0,.int .i64 0]:=Bx.kept bxA hb0;have C00:Bx w0 (w.heap.size+1) [.int .i64 0,.int .i64 0,.int .i64 0,.int .i64 0,.int .i64 0,.int .i64 0,.int .i64 0,.int .i64 0,.int .i64 0]:=Bx.kept bxA hb0;have W0B:Below w.heap.size w ((w0.alloc (.cells (List.toArray [.int .i64 16777216,.int .i64 16777216]) 25)).alloc (.cells (List.toArray [.int .i64 (-16777216),.int .i64 (-16777216)]) 25)):=((W00.trans (hb0.mono W00.size)).alloc (W00.trans (hb0.mono W00.size)).size _).alloc (by have:=(W00.trans (hb0.mono W00.size)).size;simp;omega) _;have O0:=(O00.alc (.cells (List.toArray [.int .i64 16777216,.int .i64 16777216]) 25)).alc (.cells (List.toArray [.int .i64 (-16777216),.int .i64 (-16777216)]) 25);have C0:=(C00.alc (.cells (List.toArray [.int .i64 16777216,.int .i64 16777216]) 25)).alc (.cells (List.toArray [.int .i64 (-16777216),.int .i64 (-16777216)]) 25);have hz0':=hb0.size;simp at hz0';clear hb0 W00 O00 C00
 go_wp2_with fail
 refine (rcube_any _).mono ?_;rintro e w1 ⟨⟨nb,db,rfl,hnr,hdr,gn,gd⟩,hb⟩;have B1:Below w.heap.size w w1:=W0B.trans (hb.mono W0B.size);have O1:=O0.kept hb;have C1:=C0.kept hb;have ln:=hnr.lt;have ld:=hdr.lt;have hz1':=hb.size;simp at hz1' gn gd;clear hb O0 C0 W0B
 go_wp2_with fail
 go_loopw [6] (fun i wr=>∃(k:Nat) (u:Value),k≤6∧i = .int .i64 k∧EI w w1.heap.size nb db u u k wr) (fun i _=>6 - (intOf i).toNat)
 case atStart=>
  refine ⟨0,.slice none 0 0,Nat.zero_le _,rfl,?_⟩;exact ⟨(B1.alloc B1.size _).alloc (by have:=B1.size;simp;omega) _,by simp,by omega,(Rd.new rfl).alc _,(O1.alc _).alc _,(C1.alc _).alc _,Bx.new (by simp),(hnr.alc _).alc _,(hdr.alc _).alc _,ln,ld,by omega,by omega,World.ownsRow_nil _ _ _ _⟩
 case round=>
  obtain ⟨k,u,hk,rfl,hI⟩:=hrel;obtain ⟨ao,cap,rfl⟩:=row_form6 hI.row;have x0:=hI.bd.c;have x1:=hI.bd.lt;have i15:IntKind.i64.wrap ((k:Int)+1)=(k:Int)+1:=IntWalk.i64_in _ (by omega);clear O1 C1 hnr hdr B1;rcases Nat.lt_or_ge k 6 with hlt|hge
  ·obtain ⟨s,hx⟩:∃s,cubeL[k]? = some s:=⟨cubeL[k]'hlt,List.getElem?_eq_getElem hlt⟩;have HX:=Lib.hid hx;have RS:Rs wr nb (k*6) (dcs s):=Rs.mk hI.hn.lt (fun j hj=>by rw [hI.hn.c,flat_at dcs 6 (fun _=>rfl) cubeL k s hx j hj])
   have hlt':(k:Int)<6:=by omega
   have hge':(0:Int)≤(k:Int):=by omega
   have h63:k+1≤2 ^ 63 - 1:=by omega
   have hby:(k+1)*48≤140737488355328:=by omega
   clear hx
   go_wp2_with fail
   go_upto_region 7 with fail
   clear x0 x1;refine region_sets (Ay.I w w1.heap.size nb db k (.slice ao k cap) s) (by kernel_rfl) ?_ ?_ ?_
   ·refine ⟨false,false,false,false,false,false,false,false,false,false,false,false,u25,u26,u27,u28,u29,u30,u31,u32,u33,u34,u35,0,0,0,rfl,by simp only [Act.put,sS],?_⟩;constructor
    ·exact fun _=>hI.drew
    ·intro h;cases h
    ·intro h;cases h
    ·exact fun _=>RS.drew
    all_goals (intro h;cases h)
   ·intro L9 aa ww hI i hi;obtain ⟨l0,l1,l2,l3,l4,l5,l6,l7,l8,l9,l10,l11,v0,v1,v2,v3,v4,v5,v6,v7,v8,v9,v10,b7,g7,cap7,rfl,rfl,h⟩:=hI;have hlt:=ready_lt hi
    match i,hi,hlt with
    |0,hi,_=>
     obtain rfl:l0=false:=rl rfl hi;clear hi hlt;have H:=Lib.hid h;clear h;refine wpOp_shut rfl (fun K hK=>?_)
     try simp only [Act.put,sS]
     go_simp;refine hK.out _ _ ?_;unfold Ay.I;refine ⟨_,_,_,_,_,_,_,_,_,_,_,_,(.pointer (some ⟨w1.heap.size+1,0,none⟩)),v1,v2,v3,v4,v5,v6,v7,v8,v9,v10,b7,g7,cap7,rfl,?_,?_⟩
     ·simp only [Act.put,sS]
     ·exact {H.out with ev0:=fun _=>rfl,o1_0:=fun _=>rfl,o10_0:=fun _=>rfl,o11_0:=fun _=>rfl}
    |1,hi,_=>
     obtain rfl:l1=false:=rl rfl hi;obtain rfl:l0=true:=rk rfl hi 0 .data;clear hi hlt;obtain rfl:=h.ev0 rfl
     have kA:l9=false:=by
      rcases Bool.eq_false_or_eq_true l9 with q|q
      ·exact nomatch (h.o9_1 q)
      ·exact q
     subst kA;have c:=(h.sa rfl).o.c;have H:=Lib.hid h;clear h;refine wpOp_shut rfl (fun K hK=>?_)
     try simp only [Act.put,sS]
     go_simp;refine hK.out _ _ ?_;unfold Ay.I;refine ⟨_,_,_,_,_,_,_,_,_,_,_,_,(.pointer (some ⟨w1.heap.size+1,0,none⟩)),(.slice ao k cap),v2,v3,v4,v5,v6,v7,v8,v9,v10,b7,g7,cap7,rfl,?_,?_⟩
     ·simp only [Act.put,sS]
     ·exact {H.out with ev1:=fun _=>rfl,o1_0:=fun _=>rfl,o9_1:=fun _=>rfl,o10_1:=fun _=>rfl,o11_1:=fun _=>rfl}
    |2,hi,_=>
     obtain rfl:l2=false:=rl rfl hi;clear hi hlt;have H:=Lib.hid h;clear h;refine wpOp_shut rfl (fun K hK=>?_)
     try simp only [Act.put,sS]
     go_simp;refine hK.out _ _ ?_;unfold Ay.I;refine ⟨_,_,_,_,_,_,_,_,_,_,_,_,v0,v1,(.pointer (some ⟨w1.heap.size,0,none⟩)),v3,v4,v5,v6,v7,v8,v9,v10,b7,g7,cap7,rfl,?_,?_⟩
     ·simp only [Act.put,sS]
     ·exact {H.out with ev2:=fun _=>rfl,o3_2:=fun _=>rfl,o10_2:=fun _=>rfl,o11_2:=fun _=>rfl}
    |3,hi,_=>
     obtain rfl:l3=false:=rl rfl hi;obtain rfl:l2=true:=rk rfl hi 2 .data;clear hi hlt;obtain rfl:=h.ev2 rfl
     have kA:l9=false:=by
      rcases Bool.eq_false_or_eq_true l9 with q|q
      ·exact nomatch (h.o5_3 (h.o6_5 (h.o7_6 (h.o9_7 q))))
      ·exact q
     subst kA;have c:=(h.sa rfl).bd.c;have H:=Lib.hid h;clear h;refine wpOp_shut rfl (fun K hK=>?_)
     try simp only [Act.put,sS]
     go_simp;refine hK.out _ _ ?_;unfold Ay.I;refine ⟨_,_,_,_,_,_,_,_,_,_,_,_,v0,v1,(.pointer (some ⟨w1.heap.size,0,none⟩)),(.slice (some ⟨nb,0,none⟩) 6 6),v4,v5,v6,v7,v8,v9,v10,b7,g7,cap7,rfl,?_,?_⟩
     ·simp only [Act.put,sS]
     ·exact {H.out with ev3:=fun _=>rfl,o3_2:=fun _=>rfl,o5_3:=fun _=>rfl,o10_3:=fun _=>rfl,o11_3:=fun _=>rfl}
    |4,hi,_=>
     obtain rfl:l4=false:=rl rfl hi;clear hi hlt;have H:=Lib.hid h;clear h;refine wpOp_shut rfl (fun K hK=>?_)
     try simp only [Act.put,sS]
     go_simp;refine hK.out _ _ ?_;unfold Ay.I;refine ⟨_,_,_,_,_,_,_,_,_,_,_,_,v0,v1,v2,v3,(.int .i64 k),v5,v6,v7,v8,v9,v10,b7,g7,cap7,rfl,?_,?_⟩
     ·simp only [Act.put,sS]
     ·exact {H.out with ev4:=fun _=>rfl,o5_4:=fun _=>rfl,o10_4:=fun _=>rfl,o11_4:=fun _=>rfl}
    |5,hi,_=>
     obtain rfl:l5=false:=rl rfl hi;obtain rfl:l3=true:=rk rfl hi 3 .data;obtain rfl:l4=true:=rk rfl hi 4 .data;clear hi hlt;obtain rfl:=h.ev3 rfl;obtain rfl:=h.ev4 rfl;have H:=Lib.hid h;clear h;refine wpOp_shut rfl (fun K hK=>?_)
     try simp only [Act.put,sS]
     go_simp;refine hK.out _ _ ?_;unfold Ay.I;refine ⟨_,_,_,_,_,_,_,_,_,_,_,_,v0,v1,v2,(.slice (some ⟨nb,0,none⟩) 6 6),(.int .i64 k),(.pointer (some ⟨nb,k*6,none⟩)),v6,v7,v8,v9,v10,b7,g7,cap7,rfl,?_,?_⟩
     ·simp only [Act.put,sS]
     ·exact {H.out with ev5:=fun _=>rfl,o5_3:=fun _=>rfl,o5_4:=fun _=>rfl,o6_5:=fun _=>rfl,o10_5:=fun _=>rfl,o11_5:=fun _=>rfl}
    |6,hi,_=>
     obtain rfl:l6=false:=rl rfl hi;obtain rfl:l5=true:=rk rfl hi 5 .data;clear hi hlt;obtain rfl:=h.ev5 rfl
     have kA:l9=false:=by
      rcases Bool.eq_false_or_eq_true l9 with q|q
      ·exact nomatch (h.o7_6 (h.o9_7 q))
      ·exact q
     subst kA;have c0:=(h.sr rfl).c 0 (by simp);have c1:=(h.sr rfl).c 1 (by simp);have c2:=(h.sr rfl).c 2 (by simp);have c3:=(h.sr rfl).c 3 (by simp);have c4:=(h.sr rfl).c 4 (by simp);have c5:=(h.sr rfl).c 5 (by simp);simp only [Nat.add_zero] at c0;have H:=Lib.hid h;clear h;refine wpOp_shut rfl (fun K hK=>?_)
     try simp only [Act.put,sS]
     go_simp;refine hK.out _ _ ?_;unfold Ay.I;refine ⟨_,_,_,_,_,_,_,_,_,_,_,_,v0,v1,v2,v3,v4,(.pointer (some ⟨nb,k*6,none⟩)),(dv s),v7,v8,v9,v10,b7,g7,cap7,rfl,?_,?_⟩
     ·simp only [Act.put,sS]
     ·exact {H.out with ev6:=fun _=>rfl,o6_5:=fun _=>rfl,o7_6:=fun _=>rfl,o10_6:=fun _=>rfl,o11_6:=fun _=>rfl}
    |7,hi,_=>
     obtain rfl:l7=false:=rl rfl hi;obtain rfl:l6=true:=rk rfl hi 6 .data;clear hi hlt;obtain rfl:=h.ev6 rfl
     have kA:l9=false:=by
      rcases Bool.eq_false_or_eq_true l9 with q|q
      ·exact nomatch (h.o9_7 q)
      ·exact q
     subst kA;have H:=Lib.hid h;clear h;refine wpOp_shut rfl (fun K hK=>?_)
     try simp only [Act.put,sS]
     go_simp;refine (ldir_any s _).mono ?_;rintro e wY ⟨rfl,hb⟩
     try go_simp
     refine hK.out _ _ ?_;unfold Ay.I;refine ⟨_,_,_,_,_,_,_,_,_,_,_,_,v0,v1,v2,v3,v4,v5,(dv s),(dv s),v8,v9,v10,b7,g7,cap7,rfl,?_,?_⟩
     ·simp only [Act.put,sS]
     ·exact {(H.out.kept hb) with ev7:=fun _=>rfl,o7_6:=fun _=>rfl,o8_7:=fun _=>rfl,o9_7:=fun _=>rfl,o10_7:=fun _=>rfl,o11_7:=fun _=>rfl}
    |8,hi,_=>
     obtain rfl:l8=false:=rl rfl hi;obtain rfl:l7=true:=rk rfl hi 7 .data;clear hi hlt;obtain rfl:=h.ev7 rfl
     have kA:l9=false:=by
      rcases Bool.eq_false_or_eq_true l9 with q|q
      ·exact nomatch (h.o9_8 q)
      ·exact q
     subst kA;have H:=Lib.hid h;clear h;refine wpOp_shut rfl (fun K hK=>?_)
     try simp only [Act.put,sS]
     go_simp;refine hK.out _ _ ?_;unfold Ay.I;refine ⟨_,_,_,_,_,_,_,_,_,_,_,_,v0,v1,v2,v3,v4,v5,v6,(dv s),(.slice (some ⟨ww.heap.size,0,none⟩) 1 1),v9,v10,ww.heap.size,g7,cap7,rfl,?_,?_⟩
     ·simp only [Act.put,sS]
     ·have h2:=H.out.kept ((Below.refl _ _).alloc (Nat.le_refl _) (.cells (List.toArray (dcs s)) 45));exact {h2 with ev8:=fun _=>rfl,o8_7:=fun _=>rfl,o9_8:=fun _=>rfl,o10_8:=fun _=>rfl,o11_8:=fun _=>rfl,sz:=fun _ _=>Bx.new rfl}
    |9,hi,_=>
     obtain rfl:l9=false:=rl rfl hi;obtain rfl:l1=true:=rk rfl hi 1 .data;obtain rfl:l8=true:=rk rfl hi 8 .data;obtain rfl:l7=true:=rk rfl hi 7 .chain;clear hi hlt;obtain rfl:=h.ev1 rfl;obtain rfl:=h.ev8 rfl;obtain rfl:=h.ev7 rfl
     have kS:l11=false:=by
      rcases Bool.eq_false_or_eq_true l11 with q|q
      ·exact nomatch (h.o11_9 q)
      ·exact q
     subst kS;have ha:=h.sa rfl;have hz:=h.sz rfl rfl;have H:=Lib.hid h;clear h;refine wpOp_shut rfl (fun K hK=>?_)
     try simp only [Act.put,sS]
     simp only [List.getElem_toArray,List.getElem_cons_succ,List.getElem_cons_zero];rw [if_pos (by first|rfl|simp [Region.wanted])];refine wp_append_lies _ _ _ 22 rfl (w1.heap.size+1+1) 45 j0 (.agg #[.int .i64 0,.int .i64 0,.int .i64 0,.int .i64 0,.int .i64 0,.int .i64 0]) 6 48 Tryz.underlying22 hj hz0 hz1 hz2 rfl (by decide) _ _ _ rfl ha.row ⟨b7,0,none⟩ 1 1 (dcs s) rfl rfl (fun j x hx=>by rw [add31,hz.c];exact hx) (by intro x hx;simp at hx;rcases hx with rfl|rfl|rfl|rfl|rfl|rfl<;>rfl) (by decide) (by unfold maxLen;exact h63) hby ha.sz _ rfl ?_;intro g9 cap9 w9 hown hgrow _ _;refine hK.out _ _ ?_;unfold Ay.I;refine ⟨_,_,_,_,_,_,_,_,_,_,_,_,v0,(.slice ao k cap),v2,v3,v4,v5,v6,(dv s),(.slice (some ⟨b7,0,none⟩) 1 1),(.slice (some ⟨g9,0,none⟩) (k+1) cap9),v10,b7,g9,cap9,rfl,?_,?_⟩
     ·simp only [Act.put,sS]
     ·exact {H.out with ev9:=fun _=>rfl,o9_1:=fun _=>rfl,o9_8:=fun _=>rfl,o9_7:=fun _=>rfl,o10_9:=fun _=>rfl,o11_9:=fun _=>rfl,sa:=fun p=>(nomatch p),sz:=fun _ p=>(nomatch p),sb:=fun _ _=>(H.out.sa rfl).app HX.out hown hgrow,sc:=fun p=>(nomatch p),sr:=fun p=>(nomatch p)}
    |10,hi,_=>
     obtain rfl:l10=false:=rl rfl hi;obtain rfl:l0=true:=rk rfl hi 0 .phase;obtain rfl:l1=true:=rk rfl hi 1 .phase;obtain rfl:l2=true:=rk rfl hi 2 .phase;obtain rfl:l3=true:=rk rfl hi 3 .phase;obtain rfl:l4=true:=rk rfl hi 4 .phase;obtain rfl:l5=true:=rk rfl hi 5 .phase;obtain rfl:l6=true:=rk rfl hi 6 .phase;obtain rfl:l7=true:=rk rfl hi 7 .phase;obtain rfl:l8=true:=rk rfl hi 8 .phase;obtain rfl:l9=true:=rk rfl hi 9 .phase;clear hi hlt;obtain rfl:=h.ev0 rfl;obtain rfl:=h.ev1 rfl;obtain rfl:=h.ev2 rfl;obtain rfl:=h.ev3 rfl;obtain rfl:=h.ev4 rfl;obtain rfl:=h.ev5 rfl;obtain rfl:=h.ev6 rfl;obtain rfl:=h.ev7 rfl;obtain rfl:=h.ev8 rfl;obtain rfl:=h.ev9 rfl;have H:=Lib.hid h;clear h;refine wpOp_shut rfl (fun K hK=>?_)
     try simp only [Act.put,sS]
     go_simp;refine hK.out _ _ ?_;unfold Ay.I;refine ⟨_,_,_,_,_,_,_,_,_,_,_,_,(.pointer (some ⟨w1.heap.size+1,0,none⟩)),(.slice ao k cap),(.pointer (some ⟨w1.heap.size,0,none⟩)),(.slice (some ⟨nb,0,none⟩) 6 6),(.int .i64 k),(.pointer (some ⟨nb,k*6,none⟩)),(dv s),(dv s),(.slice (some ⟨b7,0,none⟩) 1 1),(.slice (some ⟨g7,0,none⟩) (k+1) cap7),(.pointer (some ⟨w1.heap.size+1,0,none⟩)),b7,g7,cap7,rfl,?_,?_⟩
     ·simp only [Act.put,sS]
     ·exact {H.out with ev10:=fun _=>rfl,o10_0:=fun _=>rfl,o10_1:=fun _=>rfl,o10_2:=fun _=>rfl,o10_3:=fun _=>rfl,o10_4:=fun _=>rfl,o10_5:=fun _=>rfl,o10_6:=fun _=>rfl,o10_7:=fun _=>rfl,o10_8:=fun _=>rfl,o10_9:=fun _=>rfl,o11_10:=fun _=>rfl}
    |11,hi,_=>
     obtain rfl:l11=false:=rl rfl hi;obtain rfl:l10=true:=rk rfl hi 10 .data;obtain rfl:l9=true:=rk rfl hi 9 .phase;obtain rfl:l0=true:=rk rfl hi 0 .phase;obtain rfl:l1=true:=rk rfl hi 1 .phase;obtain rfl:l2=true:=rk rfl hi 2 .phase;obtain rfl:l3=true:=rk rfl hi 3 .phase;obtain rfl:l4=true:=rk rfl hi 4 .phase;obtain rfl:l5=true:=rk rfl hi 5 .phase;obtain rfl:l6=true:=rk rfl hi 6 .phase;obtain rfl:l7=true:=rk rfl hi 7 .phase;obtain rfl:l8=true:=rk rfl hi 8 .phase;clear hi hlt;obtain rfl:=h.ev10 rfl;obtain rfl:=h.ev9 rfl;obtain rfl:=h.ev0 rfl;obtain rfl:=h.ev1 rfl;obtain rfl:=h.ev2 rfl;obtain rfl:=h.ev3 rfl;obtain rfl:=h.ev4 rfl;obtain rfl:=h.ev5 rfl;obtain rfl:=h.ev6 rfl;obtain rfl:=h.ev7 rfl;obtain rfl:=h.ev8 rfl;have c:=(h.sb rfl rfl).o.c;have f:=(h.sb rfl rfl).o.f;have H:=Lib.hid h;clear h;refine wpOp_shut rfl (fun K hK=>?_)
     try simp only [Act.put,sS]
     go_simp;refine hK.out _ _ ?_;unfold Ay.I;refine ⟨_,_,_,_,_,_,_,_,_,_,_,_,(.pointer (some ⟨w1.heap.size+1,0,none⟩)),(.slice ao k cap),(.pointer (some ⟨w1.heap.size,0,none⟩)),(.slice (some ⟨nb,0,none⟩) 6 6),(.int .i64 k),(.pointer (some ⟨nb,k*6,none⟩)),(dv s),(dv s),(.slice (some ⟨b7,0,none⟩) 1 1),(.slice (some ⟨g7,0,none⟩) (k+1) cap7),(.pointer (some ⟨w1.heap.size+1,0,none⟩)),b7,g7,cap7,rfl,?_,?_⟩
     ·simp only [Act.put,sS]
     ·exact {H.out with o11_10:=fun _=>rfl,o11_9:=fun _=>rfl,o11_0:=fun _=>rfl,o11_1:=fun _=>rfl,o11_2:=fun _=>rfl,o11_3:=fun _=>rfl,o11_4:=fun _=>rfl,o11_5:=fun _=>rfl,o11_6:=fun _=>rfl,o11_7:=fun _=>rfl,o11_8:=fun _=>rfl,sa:=fun p=>(nomatch p),sz:=fun _ p=>(nomatch p),sb:=fun _ p=>(nomatch p),sc:=fun _=>(H.out.sb rfl rfl).put,sr:=fun p=>(nomatch p)}
    |i+12,_,hlt=>exact absurd hlt (by simp)
   ·intro L9 aa ww hI hn;obtain ⟨l0,l1,l2,l3,l4,l5,l6,l7,l8,l9,l10,l11,v0,v1,v2,v3,v4,v5,v6,v7,v8,v9,v10,b7,g7,cap7,rfl,rfl,h⟩:=hI;obtain rfl:l0=true:=nr 0 rfl hn;obtain rfl:l1=true:=nr 1 rfl hn;obtain rfl:l2=true:=nr 2 rfl hn;obtain rfl:l3=true:=nr 3 rfl hn;obtain rfl:l4=true:=nr 4 rfl hn;obtain rfl:l5=true:=nr 5 rfl hn;obtain rfl:l6=true:=nr 6 rfl hn;obtain rfl:l7=true:=nr 7 rfl hn;obtain rfl:l8=true:=nr 8 rfl hn;obtain rfl:l9=true:=nr 9 rfl hn;obtain rfl:l10=true:=nr 10 rfl hn;obtain rfl:l11=true:=nr 11 rfl hn;clear hn;obtain rfl:=h.ev0 rfl;obtain rfl:=h.ev1 rfl;obtain rfl:=h.ev2 rfl;obtain rfl:=h.ev3 rfl;obtain rfl:=h.ev4 rfl;obtain rfl:=h.ev5 rfl;obtain rfl:=h.ev6 rfl;obtain rfl:=h.ev7 rfl;obtain rfl:=h.ev8 rfl;obtain rfl:=h.ev9 rfl;obtain rfl:=h.ev10 rfl;simp only [Act.put,sS]
    rename World=>w12
    have I12:=h.sc rfl;clear h hI RS
    go_wp2_with fail
    go_roundw
    case rel=>exact ⟨k+1,_,hlt,by simp,I12⟩
    case measure=>simp only [intOf];omega
  ·obtain rfl:k=6:=by omega
   have y0:=hI.o.c;have y1:=hI.o.lt;have z2:=hI.rs.lt;have t2:=hI.rc.lt;have lo:=hI.sz;have lp:=hI.lo
   have n1:¬(w.heap.size=w.heap.size+1):=by omega
   have n2:¬(w.heap.size+1=w.heap.size):=by omega
   have n3:¬(w1.heap.size+1=w.heap.size):=by omega
   have n4:¬(w1.heap.size+1=w.heap.size+1):=by omega
   have n5:¬(wr.heap.size=w.heap.size):=by omega
   have n6:¬(wr.heap.size=w.heap.size+1):=by omega
   obtain ⟨g,cap',hgc,hg1,hg2⟩:=hI.row.form (by decide);cases hgc;have JI:=hI.kept ((Below.refl _ _).alloc (Nat.le_refl _) (.cells (List.toArray [.int .i64 (-8388608),.int .i64 8388608]) 25));have TB:Bx (wr.alloc (.cells (List.toArray [.int .i64 (-8388608),.int .i64 8388608]) 25)) wr.heap.size [.int .i64 (-8388608),.int .i64 8388608]:=Bx.new rfl;have z0:=hI.rs.c;have z1:=hI.rs.f;have t0:=hI.rc.c;have t1:=hI.rc.f;have HI:=Lib.hid JI;have HT:=Lib.hid TB.rd
   have n7:¬(w.heap.size=wr.heap.size):=by omega
   have n8:¬(w.heap.size+1=wr.heap.size):=by omega
   clear hI JI TB
   go_wp2_with fail
   go_upto_region 9 with fail
   rw [show ((6:Nat):Int)=(6:Int) from rfl];have HG0:Ho w (wr.alloc (.cells (List.toArray [.int .i64 (-8388608),.int .i64 8388608]) 25)) (wr.alloc (.cells (List.toArray [.int .i64 (-8388608),.int .i64 8388608]) 25)).heap.size []:=⟨HI.out.below,HI.out.below.size,Nat.le_refl _,fun _ h=>nomatch h⟩;have HG:=(HG0.cons HI.out.o.rd).cons HT.out;have AG:=HI.out.rs;have CG:=HI.out.rc;have XG:EX w1.heap.size db g cap w.heap.size (wr.alloc (.cells (List.toArray [.int .i64 (-8388608),.int .i64 8388608]) 25)):=⟨HI.out.row,HI.out.hd,by omega,by have:=HI.out.gd;omega⟩;clear HG0 y0 y1 z0 z1 t0 t1 HI HT n1 n2 n3 n4 n5 n6 n7 n8
   have s9:(wr.alloc (.cells (List.toArray [.int .i64 (-8388608),.int .i64 8388608]) 25)).heap.size=wr.heap.size+1:=by simp
   revert HG AG CG XG s9;generalize (wr.alloc (.cells (List.toArray [.int .i64 (-8388608),.int .i64 8388608]) 25))=w9;intro HG AG CG XG s9;have a9:=AG.lt;have c9:=CG.lt;refine region_sets (Ayn.I w.heap.size (w.heap.size+1) w1.heap.size db g cap wr.heap.size w9.heap.size w) (by kernel_rfl) ?_ (Ayn.all w.heap.size (w.heap.size+1) w1.heap.size db g cap wr.heap.size w9.heap.size w _ ?_) (Ayn.all w.heap.size (w.heap.size+1) w1.heap.size db g cap wr.heap.size w9.heap.size w _ ?_)
   ·refine ⟨false,false,false,false,false,false,undef,undef,undef,undef,rfl,by simp only [Act.put,sS],?_⟩;constructor
    ·(with_reducible repeat (first|exact HG|refine Ho.drew ?_))
    ·(first|(simp;done)|(simp;omega))
    ·(omega)
    ·(intro _;exact AG.drew)
    ·(intro h;cases h)
    ·(omega)
    ·(omega)
    ·(intro p hp;simp only [List.mem_cons,List.not_mem_nil,or_false] at hp;rcases hp with rfl|rfl<;>(dsimp only;omega))
    ·(omega)
    ·(omega)
    ·(intro _;exact CG.drew)
    ·(intro h;cases h)
    ·(omega)
    ·(omega)
    ·(intro p hp;simp only [List.mem_cons,List.not_mem_nil,or_false] at hp;rcases hp with rfl|rfl<;>(dsimp only;omega))
    ·(omega)
    ·(omega)
    ·(exact XG.kept (Below.refl _ _).drew)
    all_goals (intro h;cases h)
   ·intro w' l0 l1 l2 l3 l4 l5 v0 v1 v2 v3 h i hi;have hlt:=ready_lt hi
    match i,hi,hlt with
    |0,hi,_=>
     obtain rfl:l0=false:=rl rfl hi;clear hi hlt;have c:=(h.g.at 1 rfl).c;have H:=Lib.hid h;clear h;refine wpOp_shut rfl (fun K hK=>?_)
     try simp only [Act.put,sS]
     go_simp;refine hK.out _ _ ?_;unfold Ayn.I;refine ⟨_,_,_,_,_,_,(.agg #[.slice (some ⟨g,0,none⟩) 6 cap,.slice (some ⟨db,0,none⟩) 6 6,.int .i64 33554432,.int .i64 33554432]),v1,v2,v3,rfl,?_,?_⟩
     ·kernel_rfl
     ·exact {H.out with ev0:=fun _=>rfl}
    |1,hi,_=>
     obtain rfl:l1=false:=rl rfl hi;clear hi hlt;have c:=(h.g.at 0 rfl).c;have H:=Lib.hid h;clear h;refine wpOp_shut rfl (fun K hK=>?_)
     try simp only [Act.put,sS]
     go_simp;refine hK.out _ _ ?_;unfold Ayn.I;refine ⟨_,_,_,_,_,_,v0,((iv (-8388608) 8388608)),v2,v3,rfl,?_,?_⟩
     ·kernel_rfl
     ·exact {H.out with ev1:=fun _=>rfl}
    |2,hi,_=>
     obtain rfl:l2=false:=rl rfl hi;clear hi hlt;have c:=(h.g.at 0 rfl).c;have H:=Lib.hid h;clear h;refine wpOp_shut rfl (fun K hK=>?_)
     try simp only [Act.put,sS]
     go_simp;refine hK.out _ _ ?_;unfold Ayn.I;refine ⟨_,_,_,_,_,_,v0,v1,((iv (-8388608) 8388608)),v3,rfl,?_,?_⟩
     ·kernel_rfl
     ·exact {H.out with ev2:=fun _=>rfl}
    |3,hi,_=>
     obtain rfl:l3=false:=rl rfl hi;obtain rfl:l1=true:=rk rfl hi 1 .data;obtain rfl:l2=true:=rk rfl hi 2 .data;clear hi hlt;obtain rfl:=h.ev1 rfl;obtain rfl:=h.ev2 rfl;have H:=Lib.hid h;clear h;refine wpOp_shut rfl (fun K hK=>?_)
     try simp only [Act.put,sS]
     go_simp;refine hK.out _ _ ?_;unfold Ayn.I;refine ⟨_,_,_,_,_,_,v0,((iv (-8388608) 8388608)),((iv (-8388608) 8388608)),(.agg #[.int .i64 2,.int .i64 (-8388608),.int .i64 8388608,.int .i64 (-8388608),.int .i64 8388608,.int .i64 0,.int .i64 0,.int .i64 0,.int .i64 0]),rfl,?_,?_⟩
     ·kernel_rfl
     ·exact {H.out with ev3:=fun _=>rfl}
    |4,hi,_=>
     obtain rfl:l4=false:=rl rfl hi;obtain rfl:l0=true:=rk rfl hi 0 .phase;clear hi hlt;obtain rfl:=h.ev0 rfl;have bz:=h.u0 rfl;have cW:=bz.c;have fW:=bz.f;clear bz;have H:=Lib.hid h;clear h;refine wpOp_shut rfl (fun K hK=>?_)
     try simp only [Act.put,sS]
     go_simp;refine hK.out _ _ ?_;unfold Ayn.I;refine ⟨_,_,_,_,_,_,(.agg #[.slice (some ⟨g,0,none⟩) 6 cap,.slice (some ⟨db,0,none⟩) 6 6,.int .i64 33554432,.int .i64 33554432]),v1,v2,v3,rfl,?_,?_⟩
     ·kernel_rfl
     ·have h:=H.out;exact {h with x:=((((h.x.set h.ux0).set h.ux0).set h.ux0).set h.ux0),g:=((((h.g.putx h.um0 h.uq0).putx h.um0 h.uq0).putx h.um0 h.uq0).putx h.um0 h.uq0),sz:=by simpa using h.sz,u0:=fun p=>(nomatch p),us0:=fun _=>(((((h.u0 rfl).put).put).put).put),u1:=fun p=>(((((h.u1 p).set h.une0_1).set h.une0_1).set h.une0_1).set h.une0_1),us1:=fun p=>(((((h.us1 p).set h.une0_1).set h.une0_1).set h.une0_1).set h.une0_1)}
    |5,hi,_=>
     obtain rfl:l5=false:=rl rfl hi;obtain rfl:l3=true:=rk rfl hi 3 .phase;obtain rfl:l4=true:=rk rfl hi 4 .phase;obtain rfl:l0=true:=rk rfl hi 0 .phase;obtain rfl:l1=true:=rk rfl hi 1 .phase;obtain rfl:l2=true:=rk rfl hi 2 .phase;clear hi hlt;obtain rfl:=h.ev3 rfl;obtain rfl:=h.ev0 rfl;obtain rfl:=h.ev1 rfl;obtain rfl:=h.ev2 rfl;have bz:=h.u1 rfl;have cW:=bz.c;have fW:=bz.f;clear bz;have H:=Lib.hid h;clear h;refine wpOp_shut rfl (fun K hK=>?_)
     try simp only [Act.put,sS]
     go_simp;refine hK.out _ _ ?_;unfold Ayn.I;refine ⟨_,_,_,_,_,_,(.agg #[.slice (some ⟨g,0,none⟩) 6 cap,.slice (some ⟨db,0,none⟩) 6 6,.int .i64 33554432,.int .i64 33554432]),((iv (-8388608) 8388608)),((iv (-8388608) 8388608)),(.agg #[.int .i64 2,.int .i64 (-8388608),.int .i64 8388608,.int .i64 (-8388608),.int .i64 8388608,.int .i64 0,.int .i64 0,.int .i64 0,.int .i64 0]),rfl,?_,?_⟩
     ·kernel_rfl
     ·have h:=H.out;exact {h with x:=(((((((((h.x.set h.ux1).set h.ux1).set h.ux1).set h.ux1).set h.ux1).set h.ux1).set h.ux1).set h.ux1).set h.ux1),g:=(((((((((h.g.putx h.um1 h.uq1).putx h.um1 h.uq1).putx h.um1 h.uq1).putx h.um1 h.uq1).putx h.um1 h.uq1).putx h.um1 h.uq1).putx h.um1 h.uq1).putx h.um1 h.uq1).putx h.um1 h.uq1),sz:=by simpa using h.sz,u1:=fun p=>(nomatch p),us1:=fun _=>((((((((((h.u1 rfl).put).put).put).put).put).put).put).put).put),u0:=fun p=>((((((((((h.u0 p).set h.une1_0).set h.une1_0).set h.une1_0).set h.une1_0).set h.une1_0).set h.une1_0).set h.une1_0).set h.une1_0).set h.une1_0),us0:=fun p=>((((((((((h.us0 p).set h.une1_0).set h.une1_0).set h.une1_0).set h.une1_0).set h.une1_0).set h.une1_0).set h.une1_0).set h.une1_0).set h.une1_0)}
    |i+6,_,hlt=>exact absurd hlt (by simp)
   ·intro w' l0 l1 l2 l3 l4 l5 v0 v1 v2 v3 h hn;obtain rfl:l0=true:=nr 0 rfl hn;obtain rfl:l1=true:=nr 1 rfl hn;obtain rfl:l2=true:=nr 2 rfl hn;obtain rfl:l3=true:=nr 3 rfl hn;obtain rfl:l4=true:=nr 4 rfl hn;obtain rfl:l5=true:=nr 5 rfl hn;clear hn;obtain rfl:=h.ev0 rfl;obtain rfl:=h.ev1 rfl;obtain rfl:=h.ev2 rfl;obtain rfl:=h.ev3 rfl;simp only [Act.put,sS]
    rename World=>w8
    have HB:=h.g;have aB:=h.us0 rfl;have cB:=h.us1 rfl;have xB:=h.x;clear h
    go_wp2_with fail
    refine bodyPost_boxes (b:=w.heap.size) (c:=w.heap.size+1) (cs:=[.slice (some ⟨g,0,none⟩) 6 cap,.slice (some ⟨db,0,none⟩) 6 6,.int .i64 33554432,.int .i64 33554432]) (ds:=[.int .i64 2,.int .i64 (-8388608),.int .i64 8388608,.int .i64 (-8388608),.int .i64 8388608,.int .i64 0,.int .i64 0,.int .i64 0,.int .i64 0]) (v:=.tuple #[.agg #[.slice (some ⟨g,0,none⟩) 6 cap,.slice (some ⟨db,0,none⟩) 6 6,.int .i64 33554432,.int .i64 33554432],.agg #[.int .i64 2,.int .i64 (-8388608),.int .i64 8388608,.int .i64 (-8388608),.int .i64 8388608,.int .i64 0,.int .i64 0,.int .i64 0,.int .i64 0]]) aB cB (fun X hX hY=>by simp [results,Tryz.results23,go_sem,hX,hY]) rfl ⟨⟨g,cap,db,rfl,row_nat (base:=w1.heap.size+1+1) (L:=cubeL) xB.row xB.gl,pat_rd xB.hd⟩,HB.below⟩
end Go.Proofs.YtiecdgcdcpmgaaaGreat.Iv

/- The example of layer 32 holds: all rays of the cell leak through the lower face. -/
namespace Go.Proofs.YtiecdgcdcpmgaaaGreat.Iv
open Go.RowKit
attribute [local go_sem] Oper.semAt_some
set_option maxRecDepth 1000000 in
theorem ex_cv:(coverR cubeL cubeM 33554432 33554432 exC).1=1∧(coverR cubeL cubeM 33554432 33554432 exC).2=0:=by decide +kernel
set_option maxRecDepth 1000000 in
theorem ex_tr:(traceR cubeL cubeM 33554432 33554432 exC 3).lv.k=2∧(traceR cubeL cubeM 33554432 33554432 exC 3).fs = [5]∧(traceR cubeL cubeM 33554432 33554432 exC 3).e=0:=by decide +kernel
theorem ex_vc:vCell cubeL cubeM 33554432 33554432 exC=true:=by decide +kernel
set_option maxRecDepth 100000 in
set_option maxHeartbeats 8000000 in
theorem awake32_any (w:World):Calls Tryz.prog 6 #[] w fun e w'=>e = .returned (.bool true)∧Below w.heap.size w w':=by
 obtain ⟨⟨ck,ce⟩,hs⟩:∃r:Int × Int,coverR cubeL cubeM 33554432 33554432 exC=r:=⟨_,rfl⟩;have h1:=ex_cv;rw [hs] at h1;dsimp only at h1;obtain ⟨rfl,rfl⟩:=h1;obtain ⟨⟨⟨tk,o,lo,hi⟩,fs,te⟩,hh⟩:∃r:FO,traceR cubeL cubeM 33554432 33554432 exC 3=r:=⟨_,rfl⟩;have h2:=ex_tr;rw [hh] at h2;dsimp only at h2;obtain ⟨rfl,rfl,rfl⟩:=h2;have XC:=Lib.hid hs;have XT:=Lib.hid hh;clear hs hh;go_enter Tryz.func6,Tryz.ntmps6
 go_wp2_with fail
 refine (ex32_any _).mono ?_;rintro e w1 ⟨⟨nb,cap,db,rfl,hn,hp⟩,b1'⟩;unfold cellv exC;dsimp only;have H1:=Lib.hid (Bx.rd (cs:=[.slice (some ⟨nb,0,none⟩) 6 cap,.slice (some ⟨db,0,none⟩) 6 6,.int .i64 33554432,.int .i64 33554432]) (W:=(w1.alloc (.cells (List.toArray [.slice (some ⟨nb,0,none⟩) 6 cap,.slice (some ⟨db,0,none⟩) 6 6,.int .i64 33554432,.int .i64 33554432]) 27)).alloc (.cells (List.toArray [.int .i64 2,.int .i64 (-8388608),.int .i64 8388608,.int .i64 (-8388608),.int .i64 8388608,.int .i64 0,.int .i64 0,.int .i64 0,.int .i64 0]) 29)) (b:=w1.heap.size) bxA);have C1:Rd ((w1.alloc (.cells (List.toArray [.slice (some ⟨nb,0,none⟩) 6 cap,.slice (some ⟨db,0,none⟩) 6 6,.int .i64 33554432,.int .i64 33554432]) 27)).alloc (.cells (List.toArray [.int .i64 2,.int .i64 (-8388608),.int .i64 8388608,.int .i64 (-8388608),.int .i64 8388608,.int .i64 0,.int .i64 0,.int .i64 0,.int .i64 0]) 29)) (w1.heap.size+1) [.int .i64 2,.int .i64 (-8388608),.int .i64 8388608,.int .i64 (-8388608),.int .i64 8388608,.int .i64 0,.int .i64 0,.int .i64 0,.int .i64 0]:=Bx.rd bxA;have B1:=H1.out;have HN:=Lib.hid (((hn.kept ((Below.refl _ _).alloc (Nat.le_refl _) (.cells (List.toArray [.slice (some ⟨nb,0,none⟩) 6 cap,.slice (some ⟨db,0,none⟩) 6 6,.int .i64 33554432,.int .i64 33554432]) 27)))).kept ((Below.refl _ _).alloc (Nat.le_refl _) (.cells (List.toArray [.int .i64 2,.int .i64 (-8388608),.int .i64 8388608,.int .i64 (-8388608),.int .i64 8388608,.int .i64 0,.int .i64 0,.int .i64 0,.int .i64 0]) 29)));have HP:=Lib.hid (((hp.kept ((Below.refl _ _).alloc (Nat.le_refl _) (.cells (List.toArray [.slice (some ⟨nb,0,none⟩) 6 cap,.slice (some ⟨db,0,none⟩) 6 6,.int .i64 33554432,.int .i64 33554432]) 27)))).kept ((Below.refl _ _).alloc (Nat.le_refl _) (.cells (List.toArray [.int .i64 2,.int .i64 (-8388608),.int .i64 8388608,.int .i64 (-8388608),.int .i64 8388608,.int .i64 0,.int .i64 0,.int .i64 0,.int .i64 0]) 29)));have HB:=Lib.hid ((b1'.alloc b1'.size (.cells (List.toArray [.slice (some ⟨nb,0,none⟩) 6 cap,.slice (some ⟨db,0,none⟩) 6 6,.int .i64 33554432,.int .i64 33554432]) 27)).alloc (by have:=b1'.size;simp;omega) (.cells (List.toArray [.int .i64 2,.int .i64 (-8388608),.int .i64 8388608,.int .i64 (-8388608),.int .i64 8388608,.int .i64 0,.int .i64 0,.int .i64 0,.int .i64 0]) 29));clear hn hp b1' H1
 go_wp2_with fail
 refine (covers_any (L:=cubeL) (M:=cubeM) exC _ HN.out HP.out).mono ?_;rintro e w2 ⟨rfl,hb⟩;rw [XC.out];dsimp only;have C2:=C1.kept hb;have B2:=B1.kept hb;have N2:=Lib.hid (HN.out.kept hb);have P2:=Lib.hid (HP.out.kept hb);have HB2:=Lib.hid (HB.out.trans (hb.mono HB.out.size));clear hb B1 C1;have cc:=C2.c;have bc:=B2.c
 go_wp2_with fail
 refine (ctrace_any (L:=cubeL) (M:=cubeM) exC 3 _ N2.out P2.out).mono ?_;rintro e w3 ⟨⟨u,rfl,hrow⟩,hb⟩;rw [XT.out] at hrow ⊢;dsimp only [lcells] at hrow ⊢;obtain ⟨g,cp,rfl,h5,h6⟩:=hrow.form (by decide)
 have R3:Rs w3 g 0 [.int .i64 5]:=Rs.mk h6 (fun j hj=>by
  obtain rfl:j=0:=by simpa using hj
  have:=hrow.cells (g:=g) rfl 0 (.int .i64 5) rfl
  simpa [Addr.add] using this)
 have C3:=C2.kept hb;have B3:=B2.kept hb;have N3:=Lib.hid (N2.out.kept hb);have P3:=Lib.hid (P2.out.kept hb);have HB3:=Lib.hid (HB2.out.trans (hb.mono HB2.out.size));clear hb hrow B2 C2 cc bc;have cc:=C3.c;have cl:=C3.lt;have bc:=B3.c;have bl:=B3.lt;have r0:w3.cell? ⟨g,0,none⟩=some (.int .i64 5):=R3.c 0 (by simp);have rl:=R3.lt;have NA:=Lib.hid (N3.out.kept ((Below.refl _ _).alloc (Nat.le_refl _) (.cells (List.toArray [.int .i64 2,.slice (some ⟨g,0,none⟩) 1 cp,.int .i64 o.a,.int .i64 o.b,.int .i64 o.c,.int .i64 o.d,.int .i64 o.e,.int .i64 o.f,.int .i64 lo,.int .i64 hi]) 47)));have PA:=Lib.hid (P3.out.kept ((Below.refl _ _).alloc (Nat.le_refl _) (.cells (List.toArray [.int .i64 2,.slice (some ⟨g,0,none⟩) 1 cp,.int .i64 o.a,.int .i64 o.b,.int .i64 o.c,.int .i64 o.d,.int .i64 o.e,.int .i64 o.f,.int .i64 lo,.int .i64 hi]) 47)));have HB4:=Lib.hid (HB3.out.alloc HB3.out.size (.cells (List.toArray [.int .i64 2,.slice (some ⟨g,0,none⟩) 1 cp,.int .i64 o.a,.int .i64 o.b,.int .i64 o.c,.int .i64 o.d,.int .i64 o.e,.int .i64 o.f,.int .i64 lo,.int .i64 hi]) 47))
 go_wp2_with fail
 refine (vcell_any (L:=cubeL) (M:=cubeM) exC _ NA.out PA.out).mono ?_;rintro e w4 ⟨rfl,hb⟩;rw [ex_vc];have HB5:=Lib.hid (HB4.out.trans (hb.mono HB4.out.size));clear hb
 go_wp2_with fail
 go_ret
 exact ⟨rfl,HB5.out⟩
end Go.Proofs.YtiecdgcdcpmgaaaGreat.Iv

/- CellHeights returns true, where the plain facts hold. -/
namespace Go.Proofs.YtiecdgcdcpmgaaaGreat.Iv
open Go.RowKit
attribute [local go_sem] Oper.semAt_some
theorem Bx.put9_0 {W:World} {b:Nat} {p0 p1 p2 p3 p4 p5 p6 p7 p8 u:Value} (h:Bx W b [p0,p1,p2,p3,p4,p5,p6,p7,p8]):Bx (W.setCell ⟨b,0,none⟩ u) b [u,p1,p2,p3,p4,p5,p6,p7,p8]:=h.put
def heightsP (L:List D) (M:List (Int × Int)) (i0 i1:Int) (c d:CV):Prop:=
 (coverR L M i0 i1 c).2=0→(coverR L M i0 i1 d).2=0→(pointV L M i0 i1 c).e=0→(pointV L M i0 i1 d).e=0→(coverR L M i0 i1 c).1=1→(coverR L M i0 i1 d).1=1 →
  (pointV L M i0 i1 c).d.e≤(pointV L M i0 i1 d).d.f∧(pointV L M i0 i1 d).d.e≤(pointV L M i0 i1 c).d.f
theorem flat6:∀(L:List D) (i j:Nat) (s:D),L[i]? = some s→j<6→(L.flatMap dcs)[i*6+j]? = (dcs s)[j]?
 | [],i,j,s,h,hj=>by simp at h
 |x::L,0,j,s,h,hj=>by
  obtain rfl:x=s:=by simpa using h
  rw [List.flatMap_cons,List.getElem?_append_left (by show 0*6+j<6;omega),Nat.zero_mul,Nat.zero_add]
 |x::L,i+1,j,s,h,hj=>by
  rw [List.flatMap_cons,List.getElem?_append_right (by show 6≤(i+1)*6+j;omega),show (i+1)*6+j - (dcs x).length=i*6+j from by show (i+1)*6+j - 6=i*6+j;omega];exact flat6 L i j s (by simpa using h) hj
theorem nat_own {W:World} {base:Nat} {ao:Option Addr} {cap:Nat} {L:List D} (h:W.ownsRow base 57 6 (.slice ao L.length cap) L.length (L.flatMap dcs)):NAt W ao L:=by
 intro hpos;obtain ⟨h1,h2⟩:=h;rcases h2 with ⟨_,z⟩|⟨g,cap',cur,e,hb,hh,hn,hc,hs,ht⟩
 ·omega
 ·injection e with ea;subst ea;refine ⟨g,0,rfl,(Array.getElem?_eq_some_iff.1 hh).1,fun i s hs' j hj=>?_⟩;have hi:i<L.length:=(List.getElem?_eq_some_iff.1 hs').1
  have e1:W.cell? ⟨g,0+i*6+j,none⟩=cur[0+i*6+j]?:=by simp [World.cell?,hh]
  have e2:=flat6 L i j s hs' hj;rw [←ht,List.getElem?_take_of_lt (by omega)] at e2;rw [e1,Nat.zero_add,←Array.getElem?_toList,e2]
end Go.Proofs.YtiecdgcdcpmgaaaGreat.Iv
