/- Plain facts: the results of the operations enclose the values at numbers of the arguments, and contain the results for contained arguments. -/
import Derived.Test.YtiecdgcdcpmgaaaM07
namespace Go.Proofs.Ytiecdgcdcpmgaaa.Iv
theorem div_ok {a b c d p q A B:Int} (h:divR a b c d=⟨p,q,0⟩) (h1:a≤A) (h2:A≤b) (h3:c≤B) (h4:B≤d) :
  (0<B∧p*B≤A*16777216∧A*16777216≤q*B∨B<0∧A*16777216≤p*B∧q*B≤A*16777216)∧Bd p q:=by
 unfold divR at h;split at h
 ·rename_i v;obtain ⟨_,hcd,_⟩:=vB_iff.1 v.2;split at h
  ·injection h with _ _ h;exact absurd h (by decide)
  ·rename_i h0;obtain ⟨hp,hq,k⟩:=within_ok h
   have m1:p≤qfl A B:=by rw [hp];exact qfl_in h0 hcd h1 h2 h3 h4
   have m2:qce A B≤q:=by rw [hq];exact qce_in h0 hcd h1 h2 h3 h4
   unfold qfl at m1;unfold qce at m2;refine ⟨?_,k⟩;rcases (show 0<B∨B<0 from by omega) with hB|hB
   ·have:=fdiv_le (n:=A*16777216) hB;have:=fdiv_le (n:=-(A*16777216)) hB;have:=Int.mul_le_mul_of_nonneg_right m1 (show 0≤B by omega);have e:=Int.mul_le_mul_of_nonneg_right m2 (show 0≤B by omega);rw [Int.neg_mul] at e;exact .inl ⟨hB,by omega,by omega⟩
   ·have:=fdiv_ge' (n:=A*16777216) hB;have:=fdiv_ge' (n:=-(A*16777216)) hB;have:=Int.mul_le_mul_of_nonpos_right m1 (show B≤0 by omega);have e:=Int.mul_le_mul_of_nonpos_right m2 (show B≤0 by omega);rw [Int.neg_mul] at e;exact .inr ⟨hB,by omega,by omega⟩
 ·injection h with _ _ h;exact absurd h (by decide)
end Go.Proofs.Ytiecdgcdcpmgaaa.Iv
