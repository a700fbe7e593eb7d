/- Plain facts about the numbers of leaves: they add up, they are bounded. -/
import Derived.Test.YtiecdgcdcpmgaaaM28
import Derived.Test.YtiecdgcdcpmgaaaM06
namespace Go.Proofs.Ytiecdgcdcpmgaaa.Iv
open Go.RowKit
def plusC (s t:C3):C3:=⟨s.x+t.x,s.y+t.y,s.z+t.z⟩
def okC (s:C3) (b:Int):Prop:=0≤s.x∧0≤s.y∧0≤s.z∧s.x+s.y+s.z≤b
theorem add_plus {s:C3} {k n b:Int} (hs:okC s b) (hn:0≤n) (hb:b+n≤1099511627776):addC s k n=plusC s (addC ⟨0,0,0⟩ k n)∧okC (addC ⟨0,0,0⟩ k n) n:=by
 obtain ⟨h1,h2,h3,h4⟩:=hs
 have e0:wrap64 (0+n)=n:=by rw [Int.zero_add];exact IntWalk.wrap64_in _ (by omega)
 unfold addC
 by_cases k1:k=1
 ·rw [if_pos k1,if_pos k1];dsimp only;rw [e0,IntWalk.wrap64_in _ (by omega)];exact ⟨by simp [plusC],by unfold okC;dsimp only;omega⟩
 ·rw [if_neg k1,if_neg k1]
  by_cases k2:k=2
  ·rw [if_pos k2,if_pos k2];dsimp only;rw [e0,IntWalk.wrap64_in _ (by omega)];exact ⟨by simp [plusC],by unfold okC;dsimp only;omega⟩
  ·rw [if_neg k2,if_neg k2]
   by_cases k3:k=3
   ·rw [if_pos k3,if_pos k3];dsimp only;rw [e0,IntWalk.wrap64_in _ (by omega)];exact ⟨by simp [plusC],by unfold okC;dsimp only;omega⟩
   ·rw [if_neg k3,if_neg k3];exact ⟨by simp [plusC],by unfold okC;dsimp only;omega⟩
theorem pow_pos2 (n:Nat):(1:Int)≤2 ^ n:=by
 induction n with
 |zero=>decide
 |succ n ih=>rw [Int.pow_succ];omega
theorem ok_plus {s t:C3} {a b:Int} (h:okC s a) (k:okC t b):okC (plusC s t) (a+b):=by
 obtain ⟨h1,h2,h3,h4⟩:=h;obtain ⟨k1,k2,k3,k4⟩:=k;unfold okC plusC;dsimp only;omega
theorem plus_assoc (s t u:C3):plusC (plusC s t) u=plusC s (plusC t u):=by
 unfold plusC;dsimp only;rw [Int.add_assoc,Int.add_assoc,Int.add_assoc]
theorem ok_zero:okC ⟨0,0,0⟩ 0:=⟨Int.le_refl _,Int.le_refl _,Int.le_refl _,Int.le_refl _⟩
theorem visit_plus {L:List D} {M:List (Int × Int)} {i0 i1 most:Int} : ∀(n:Nat) (c:CV) (s:C3) (b:Int),okC s b→b+2 ^ n≤1099511627776 →
  visitR L M i0 i1 most n c s=plusC s (visitR L M i0 i1 most n c ⟨0,0,0⟩)∧okC (visitR L M i0 i1 most n c ⟨0,0,0⟩) (2 ^ n)
 |0,c,s,b,hs,hb=>by
  unfold visitR;exact add_plus hs (by decide) hb
 |n+1,c,s,b,hs,hb=>by
  have p2:(2:Int) ^ (n+1)=2 ^ n+2 ^ n:=by rw [Int.pow_succ];omega
  have pp:=pow_pos2 n
  have hb0:0≤b:=by obtain ⟨h1,h2,h3,h4⟩:=hs;omega
  unfold visitR;split
  ·obtain ⟨a1,a2⟩:=visit_plus n (halvesR c).a s b hs (by omega);obtain ⟨b1,b2⟩:=visit_plus n (halvesR c).b (plusC s (visitR L M i0 i1 most n (halvesR c).a ⟨0,0,0⟩)) (b+2 ^ n) (ok_plus hs a2) (by omega);obtain ⟨c1,c2⟩:=visit_plus n (halvesR c).b (visitR L M i0 i1 most n (halvesR c).a ⟨0,0,0⟩) (2 ^ n) a2 (by omega);rw [a1,b1,c1,plus_assoc,p2];exact ⟨rfl,ok_plus a2 b2⟩
  ·exact add_plus hs (by omega) hb
end Go.Proofs.Ytiecdgcdcpmgaaa.Iv
