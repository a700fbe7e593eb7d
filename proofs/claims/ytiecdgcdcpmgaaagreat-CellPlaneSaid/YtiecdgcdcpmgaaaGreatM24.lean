/- Texts PTu2. -/
import Derived.Test.YtiecdgcdcpmgaaaGreatM06
import Derived.Test.YtiecdgcdcpmgaaaGreatM23
import Derived.Test.YtiecdgcdcpmgaaaGreatM22
import Derived.Test.YtiecdgcdcpmgaaaGreatM12

/- The example of layer 31 holds: a ray of the cube returns. -/
namespace Go.Proofs.YtiecdgcdcpmgaaaGreat.Iv
open Go.RowKit
attribute [local go_sem] Oper.semAt_some
theorem flat_at {α : Type} (f : α→List Value) (n:Nat) (hf:∀x,(f x).length=n):∀(L:List α) (i:Nat) (x : α),L[i]? = some x→∀j,j<n→(L.flatMap f)[i*n+j]? = (f x)[j]?
 | [],_,_,h,_,_=>by simp at h
 |y::t,0,x,h,j,hj=>by
  simp only [List.getElem?_cons_zero,Option.some.injEq] at h;subst h;rw [List.flatMap_cons,Nat.zero_mul,Nat.zero_add,List.getElem?_append_left (by rw [hf];exact hj)]
 |y::t,i+1,x,h,j,hj=>by
  rw [List.getElem?_cons_succ] at h;have ih:=flat_at f n hf t i x h j hj;rw [List.flatMap_cons,List.getElem?_append_right (by rw [hf,Nat.succ_mul];omega),←ih,hf]
  congr 1
  rw [Nat.succ_mul];omega
theorem pat_rd {W:World} {b:Nat} {L:List (Int × Int)} (h:Rd W b (L.flatMap pcs)):PAt W (some ⟨b,0,none⟩) L:=fun _=>
 ⟨b,0,rfl,h.lt,fun i s hs j hj=>by rw [Nat.zero_add,h.c,flat_at pcs 2 (fun _=>rfl) L i s hs j hj]⟩
def cubeL:List D:=[⟨16777216,16777216,0,0,0,0⟩,⟨0,0,16777216,16777216,0,0⟩,⟨0,0,0,0,16777216,16777216⟩,⟨-16777216,-16777216,0,0,0,0⟩,⟨0,0,-16777216,-16777216,0,0⟩,⟨0,0,0,0,-16777216,-16777216⟩]
def cubeM:List (Int × Int):=[(16777216,16777216),(16777216,16777216),(16777216,16777216),(16777216,16777216),(16777216,16777216),(16777216,16777216)]
end Go.Proofs.YtiecdgcdcpmgaaaGreat.Iv
