import Derived.Test.YtckmihplkhmpnaaGreatDoorTMal
import Derived.Lib.QuoteBits
namespace Go.Proofs.YtckmihplkhmpnaaGreatDoor
open Go.RowKit Go.Maps
set_option linter.unusedVariables false
set_option linter.unusedSimpArgs false
theorem hi64_4 (a:Nat) (h:a<18446744073709551616):a &&& 18446744073709551612=a / 4 * 4:=by
 apply Nat.eq_of_testBit_eq
 intro i
 rw [Nat.testBit_and]
 have e:a / 4 * 4=(a >>> 2) <<< 2:=by rw [Nat.shiftLeft_eq,Nat.shiftRight_eq_div_pow]
 have e2:18446744073709551612=(2 ^ 62 - 1) <<< 2:=by decide
 rw [e,e2,Nat.testBit_shiftLeft,Nat.testBit_shiftLeft,Nat.testBit_two_pow_sub_one,Nat.testBit_shiftRight]
 by_cases h2:2≤i
 · rw [show 2+(i - 2)=i by omega]
   by_cases h3:i - 2<62
   · simp [h2,h3]
   · have:a.testBit i=false:=Nat.testBit_lt_two_pow (Nat.lt_of_lt_of_le h (by rw [show 18446744073709551616=2 ^ 64 by decide];exact Nat.pow_le_pow_right (by decide) (by omega)))
     simp [this]
 · simp [h2]
theorem andNot_flags (f:Int) (h0:-9223372036854775808≤f) (h1:f<9223372036854775808) (hf:¬ (0≤f∧f≤3)):bits BinOp.andNot IntKind.i64 f 3≠0:=by
 show IntKind.i64.wrap ((BitVec.ofInt 64 f &&& ~~~BitVec.ofInt 64 3).toNat:Int)≠0
 have e3:(~~~BitVec.ofInt 64 3:BitVec 64).toNat=18446744073709551612:=by decide
 have ef:(BitVec.ofInt 64 f).toNat=(f % 18446744073709551616).toNat:=by rw [BitVec.toNat_ofInt];rfl
 rw [BitVec.toNat_and,e3,ef,hi64_4 _ (by omega),IntKind.wrap_i64]
 omega
set_option maxHeartbeats 1600000 in
theorem mal_out {k:Int} (hk:k<1∨7<k) (rb:Nat) (s:Int) (p d:ByteArray) (v f:Int) (w:World) :
  Calls Tryz.prog 61 #[.pointer (some ⟨rb,0,none⟩),opV k p d v f] w fun e w'=>e=.returned (.int .i64 48)∧Below w.heap.size w w':=by
 rcases hk with hk | hk
 · go_enter Tryz.func61,Tryz.ntmps61
   go_wp2
   go_ret
   exact ⟨rfl,(Below.refl _ _).alloc (Nat.le_refl _) _⟩
 · have h1:¬ k<1:=by omega
   go_enter Tryz.func61,Tryz.ntmps61
   go_wp2
   go_ret
   exact ⟨rfl,(Below.refl _ _).alloc (Nat.le_refl _) _⟩
set_option maxHeartbeats 1600000 in
theorem mal_flag (rb:Nat) (s:Int) (p d:ByteArray) (v f:Int) (h0:-9223372036854775808≤f) (h1:f<9223372036854775808) (hf:¬ (0≤f∧f≤3)) (w:World) (hg:GroundT w) :
  Calls Tryz.prog 61 #[.pointer (some ⟨rb,0,none⟩),opV 1 p d v f] w fun e w'=>e=.returned (.int .i64 48)∧Below w.heap.size w w':=by
 have n0:=hg.need 1 0 true rfl
 have n1:=hg.need 1 1 true rfl
 have n2:=hg.need 1 2 true rfl
 have n3:=hg.need 1 3 false rfl
 have n4:=hg.need 1 4 false rfl
 have n5:=hg.need 1 5 false rfl
 simp only [Nat.reduceMul,Nat.reduceAdd] at n0 n1 n2 n3 n4 n5
 have hlt:=hg.needLt
 obtain ⟨z,hz⟩:∃ z,bits BinOp.andNot IntKind.i64 f 3=z:=⟨_,rfl⟩
 have hz0:(z==0)=false:=by have:=andNot_flags f h0 h1 hf;rw [hz] at this;simpa using this
 have hz1:(z != 0)=true:=by simp [bne,hz0]
 clear hg h0 h1 hf
 go_enter Tryz.func61,Tryz.ntmps61
 go_wp2
 go_ret
 exact ⟨rfl,((Below.refl _ _).alloc (Nat.le_refl _) _).alloc (by simp) _⟩
end Go.Proofs.YtckmihplkhmpnaaGreatDoor
