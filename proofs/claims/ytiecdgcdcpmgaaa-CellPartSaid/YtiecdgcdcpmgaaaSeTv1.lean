/- Plain facts: numbers of the boxes of a ray and of a body, and where the ray meets a face. -/
import Derived.Test.YtiecdgcdcpmgaaaM21
import Derived.Test.YtiecdgcdcpmgaaaM07
import Derived.Test.YtiecdgcdcpmgaaaSeIeM
import Derived.Test.YtiecdgcdcpmgaaaSeDj
import Derived.Test.YtiecdgcdcpmgaaaSeDkM
import Derived.Test.YtiecdgcdcpmgaaaSeDrb
import Derived.Test.YtiecdgcdcpmgaaaSeDsM
import Derived.Test.YtiecdgcdcpmgaaaSeInM
import Derived.Test.YtiecdgcdcpmgaaaSeRf1
import Derived.Test.YtiecdgcdcpmgaaaSeRf2
import Derived.Test.YtiecdgcdcpmgaaaM06
namespace Go.Proofs.Ytiecdgcdcpmgaaa.Iv
theorem comb_in {r s t:R} (h:(comb r s t).e=0):r.e=0∧s.e=0∧t.e=0∧(comb r s t).d=⟨r.lo,r.hi,s.lo,s.hi,t.lo,t.hi⟩:=by
 unfold comb at h ⊢;split at h
 ·rename_i h1;split at h
  ·rename_i h2;split at h
   ·rename_i h3;rw [if_pos h1,if_pos h2,if_pos h3];exact ⟨h1,h2,h3,rfl⟩
   ·rename_i h3;exact absurd h h3
  ·rename_i h2;exact absurd h h2
 ·rename_i h1;exact absurd h h1
theorem dot_v {s t:D} (h:(dotR s t).e=0):vD s=true∧vD t=true∧(mulR s.a s.b t.a t.b).e=0∧(mulR s.c s.d t.c t.d).e=0∧(mulR s.e s.f t.e t.f).e=0 ∧
  (dotR s t).lo=(mulR s.a s.b t.a t.b).lo+(mulR s.c s.d t.c t.d).lo+(mulR s.e s.f t.e t.f).lo∧(dotR s t).hi=(mulR s.a s.b t.a t.b).hi+(mulR s.c s.d t.c t.d).hi+(mulR s.e s.f t.e t.f).hi:=by
 unfold dotR at h ⊢;split at h
 ·rename_i hv;rw [if_pos hv];unfold onlyR at h ⊢;split at h
  ·rename_i h0;rw [if_pos h0];dsimp only;unfold sumG at h0 ⊢;obtain ⟨g1,g2,g3⟩:=goOn_in h0;obtain ⟨g4,g5,g6⟩:=goOn_in g1;unfold prodD at g4;obtain ⟨c1,c2,c3,c4⟩:=comb_in g4;rw [g3,g6];rw [g6] at g2;unfold prodD at g2 g5 ⊢;rw [c4] at g2 g5 ⊢;dsimp only at g2 g5 ⊢;obtain ⟨a1,_⟩:=add_v g5;rw [a1] at g2 ⊢;dsimp only at g2 ⊢;obtain ⟨a2,_⟩:=add_v g2;rw [a2];exact ⟨hv.1,hv.2,c1,c2,c3,rfl,rfl⟩
  ·rename_i h0;exact absurd h h0
 ·cases h
end Go.Proofs.Ytiecdgcdcpmgaaa.Iv
