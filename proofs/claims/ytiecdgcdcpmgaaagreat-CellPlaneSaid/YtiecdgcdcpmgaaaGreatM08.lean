/- Texts PLen. -/
import Derived.Test.YtiecdgcdcpmgaaaGreatProg
import Derived.Lib.BitFns
import Derived.Lib.Small
import Derived.Lib.Strings
import Derived.Lib.Slices
import Derived.Lib.Walk
import Derived.Lib.Tables

/- Contract of the number of binary digits of a whole number: bits.Len. -/
namespace Go.Proofs.YtiecdgcdcpmgaaaGreat.Iv
theorem at_shift (x y K:Int) (k:Nat) (D:Int) (hK:K=k) (hD:D=((2 ^ k:Nat):Int)) (hk:D*y≤x) (hk':x<D*y+D) (h:D≤x) (hy:0≤y) (hy':y≤255) (hx:x≤18446744073709551615) (hl:k≤56) :
  (K+((Lib.len8 y+9223372036854775808) % 18446744073709551616 - 9223372036854775808)+9223372036854775808) % 18446744073709551616 - 9223372036854775808=(Lib.bitLen x.toNat:Int):=by
 have t:=Lib.len8_of y hy hy';have b:=Lib.bitLen_le8' y hy hy';have p:=Nat.two_pow_pos k;have s:=Lib.bitLen_shift k x.toNat (by omega) (by omega)
 have e:x.toNat / 2 ^ k=y.toNat:=by
  obtain ⟨X,rfl⟩:=Int.eq_ofNat_of_zero_le (show 0≤x by omega);obtain ⟨Y,rfl⟩:=Int.eq_ofNat_of_zero_le hy;subst hD
  have k1:2 ^ k*Y≤X:=by exact_mod_cast hk
  have k2:X<2 ^ k*Y+2 ^ k:=by exact_mod_cast hk'
  refine Nat.div_eq_of_lt_le ?_ ?_
  ·rw [Int.toNat_natCast,Int.toNat_natCast,Nat.mul_comm];exact k1
  ·rw [Int.toNat_natCast,Int.toNat_natCast,Nat.succ_mul,Nat.mul_comm];exact k2
 rw [e] at s;rw [t];omega
set_option maxHeartbeats 4000000 in
set_option maxRecDepth 100000 in
theorem len64_any (x:Int) (w:World) (h0:0≤x) (h1:x≤18446744073709551615) :
  Calls Tryz.prog 131 #[.int .u64 x] w fun e w'=>e = .returned (.int .i64 (Lib.bitLen x.toNat))∧w=w':=by
 go_enter Tryz.func131,Tryz.ntmps131
 go_wp2
 all_goals go_ret
 all_goals refine ⟨congrArg Ending.returned (congrArg (Value.int IntKind.i64) ?_),rfl⟩
 all_goals first
  |(have h8:x<256:=by omega
    have t:=Lib.len8_of (x % 256) (by omega) (by omega);have b:=Lib.bitLen_le8' (x % 256) (by omega) (by omega)
    have e:x % 256=x:=by omega
    rw [e] at t b ⊢;rw [t]
    omega)
  |exact at_shift x _ _ 56 72057594037927936 (by omega) (by decide) (by omega) (by omega) (by omega) (by omega) (by omega) h1 (by decide)
  |exact at_shift x _ _ 48 281474976710656 (by omega) (by decide) (by omega) (by omega) (by omega) (by omega) (by omega) h1 (by decide)
  |exact at_shift x _ _ 40 1099511627776 (by omega) (by decide) (by omega) (by omega) (by omega) (by omega) (by omega) h1 (by decide)
  |exact at_shift x _ _ 32 4294967296 (by omega) (by decide) (by omega) (by omega) (by omega) (by omega) (by omega) h1 (by decide)
  |exact at_shift x _ _ 24 16777216 (by omega) (by decide) (by omega) (by omega) (by omega) (by omega) (by omega) h1 (by decide)
  |exact at_shift x _ _ 16 65536 (by omega) (by decide) (by omega) (by omega) (by omega) (by omega) (by omega) h1 (by decide)
  |exact at_shift x _ _ 8 256 (by omega) (by decide) (by omega) (by omega) (by omega) (by omega) (by omega) h1 (by decide)
theorem len_any (x:Int) (w:World) (h0:0≤x) (h1:x≤18446744073709551615) :
  Calls Tryz.prog 127 #[.int .u64 x] w fun e w'=>e = .returned (.int .i64 (Lib.bitLen x.toNat))∧w=w':=by
 go_enter Tryz.func127,Tryz.ntmps127
 go_wp2_with (go_at_call 131;refine (len64_any x _ h0 h1).mono ?_;rintro e w' ⟨rfl,rfl⟩)
 go_ret
 exact ⟨rfl,rfl⟩
end Go.Proofs.YtiecdgcdcpmgaaaGreat.Iv
