import Derived.Test.YtckmihplkhmpnaaGreatDoorCovers
import Derived.Lib.AppendIntMem
import Derived.Lib.LaidTab
import Derived.Lib.Repeat
namespace Go.Proofs.YtckmihplkhmpnaaGreatDoor
open Go.RowKit
def five (n:Nat):List UInt8:=[UInt8.ofNat (48+n / 10000 % 10),UInt8.ofNat (48+n / 1000 % 10),UInt8.ofNat (48+n / 100 % 10),UInt8.ofNat (48+n / 10 % 10),UInt8.ofNat (48+n % 10)]
theorem dec_step {n:Nat} (h:¬ n<10):Lib.decDigits n=Lib.decDigits (n / 10) ++ [UInt8.ofNat (48+n % 10)]:=by rw [Lib.decDigits,dif_neg h]
theorem five_eq {n:Nat} (hn:n<100000):Lib.repeatL [48] (5 - (Lib.decDigits n).length) ++ Lib.decDigits n=five n:=by
 have z:∀ m,m=0→UInt8.ofNat (48+m)=48:=fun m h=>by rw [h];rfl
 by_cases h1:n<10
 · rw [Lib.decDigits_one h1]
   simp only [five,z (n / 10000 % 10) (by omega),z (n / 1000 % 10) (by omega),z (n / 100 % 10) (by omega),z (n / 10 % 10) (by omega),show n % 10=n by omega]
   rfl
 by_cases h2:n<100
 · rw [Lib.decDigits_two h1 h2]
   simp only [five,z (n / 10000 % 10) (by omega),z (n / 1000 % 10) (by omega),z (n / 100 % 10) (by omega),show n / 10 % 10=n / 10 by omega]
   rfl
 by_cases h3:n<1000
 · rw [dec_step h1,Lib.decDigits_two (i:=n / 10) (by omega) (by omega)]
   simp only [five,z (n / 10000 % 10) (by omega),z (n / 1000 % 10) (by omega),show n / 100 % 10=n / 10 / 10 by omega]
   rfl
 by_cases h4:n<10000
 · rw [dec_step h1,dec_step (n:=n / 10) (by omega),Lib.decDigits_two (i:=n / 10 / 10) (by omega) (by omega)]
   simp only [five,z (n / 10000 % 10) (by omega),show n / 1000 % 10=n / 10 / 10 / 10 by omega,show n / 100 % 10=n / 10 / 10 % 10 by omega]
   rfl
 · rw [dec_step h1,dec_step (n:=n / 10) (by omega),dec_step (n:=n / 10 / 10) (by omega),Lib.decDigits_two (i:=n / 10 / 10 / 10) (by omega) (by omega)]
   simp only [five,show n / 10000 % 10=n / 10 / 10 / 10 / 10 by omega,show n / 1000 % 10=n / 10 / 10 / 10 % 10 by omega,show n / 100 % 10=n / 10 / 10 % 10 by omega]
   rfl
theorem dec_len {n:Nat} (hn:n<100000):1≤(Lib.decDigits n).length∧(Lib.decDigits n).length≤5:=by
 by_cases h1:n<10
 · rw [Lib.decDigits_one h1];simp
 by_cases h2:n<100
 · rw [Lib.decDigits_two h1 h2];simp
 by_cases h3:n<1000
 · rw [dec_step h1,Lib.decDigits_two (i:=n / 10) (by omega) (by omega)];simp
 by_cases h4:n<10000
 · rw [dec_step h1,dec_step (n:=n / 10) (by omega),Lib.decDigits_two (i:=n / 10 / 10) (by omega) (by omega)];simp
 · rw [dec_step h1,dec_step (n:=n / 10) (by omega),dec_step (n:=n / 10 / 10) (by omega),Lib.decDigits_two (i:=n / 10 / 10 / 10) (by omega) (by omega)];simp
structure GroundC (w:World):Prop extends Ground w where
 pow:Lib.TabIs Tryz.prog w "internal/strconv.uint64pow10" .u64 Lib.pow10Tab
theorem gPow:Tryz.prog.globalNamed "internal/strconv.uint64pow10"=some 5:=by kernel_rfl
theorem GroundC.below {w w':World} (h:GroundC w) (hb:Below w.heap.size w w'):GroundC w' where
 toGround:=h.toGround.below hb
 pow:=by
  have hc:=h.pow.cell gPow 0 (by decide)
  exact var?_below hb gPow (World.block_lt_of_cell? _ _ hc) h.pow
theorem itoa_any (n:Nat) (hn:n<100000) (w:World) (hg:GroundC w) :
  Calls Tryz.prog 105 #[.int .i64 (n:Int)] w fun e w'=>e=.returned (.string (mk (Lib.decDigits n)))∧Below w.heap.size w w':=by
 refine (Tryz.strconv_Itoa (n:Int) (by omega) (by omega) w hg.pow).mono ?_
 rintro e w' ⟨he,k,os,rfl⟩
 exact ⟨by rw [he,Lib.itoa_nonneg];rfl,Lib.below_grow _ _ (Nat.le_refl _) _ _⟩
theorem parse_size {s:ByteArray} {xs:List ByteArray} (h:parse s=(0,xs)):s.size≤102:=by
 rcases Nat.lt_or_ge 102 s.size with h0 | h0
 · rw [parse_long h0] at h;cases h
 · exact h0
theorem counted_good {n:Nat} (hn:n≤99999) {s:ByteArray} {xs:List ByteArray} (h:parse s=(0,xs)) (k:Nat) (hk:xs.length=k+1) (x:ByteArray) (hx:xs[k]? = some x) (hl:x.size≤11) (w:World) (hg:GroundC w) :
  Calls Tryz.prog 88 #[.string s,.int .i64 (n:Int)] w fun e w'=>e=.returned (.tuple #[.string (mk (s.data.toList ++ five n)),.int .i64 0])∧Below w.heap.size w w':=by
 have hs:=parse_size h
 have HP:Hid _:=belowRoot_some h (fun e=>by rw [e] at hk;simp at hk)
 have HG:Hid (GroundC w):=hg
 have HX:Hid (xs[k]? = some x):=hx
 have hl':¬ (11:Int)<(x.size:Int):=by omega
 have hkm:k≤5:=by have:=(parse_len h).1;omega
 have hd:=dec_len (n:=n) (by omega)
 have h5:=five_eq (n:=n) (by omega)
 obtain ⟨D,hD⟩:∃ D,mk (Lib.decDigits n)=D:=⟨_,rfl⟩
 obtain ⟨d,hds⟩:∃ d,(Lib.decDigits n).length=d:=⟨_,rfl⟩
 have hDs:D.size=d:=by rw [← hD,size_mk,hds]
 obtain ⟨Z,hZ⟩:∃ Z,mk (Lib.repeatL [48] (5 - d))=Z:=⟨_,rfl⟩
 have hZs:Z.size≤5:=by
  rw [← hZ,size_mk]
  have:=congrArg List.length h5
  simp only [List.length_append,hds,five,List.length_cons,List.length_nil] at this
  omega
 have HI:Hid (∀ w,GroundC w→Calls Tryz.prog 105 #[.int .i64 (n:Int)] w fun e w'=>e=.returned (.string D)∧Below w.heap.size w w'):=fun w hg=>by
  rw [← hD]
  exact itoa_any n (by omega) w hg
 have HR:Hid (∀ w,Calls Tryz.prog 106 #[.string ⟨#[48]⟩,.int .i64 (5 - (d:Int))] w fun e w'=>e=.returned (.string Z)∧Below w.heap.size w w'):=fun w=>by
  have e:(5 - (d:Int))=((5 - d:Nat):Int):=by omega
  have h48:(⟨#[48]⟩:ByteArray).size=1:=rfl
  have:=Tryz.strings_Repeat ⟨#[48]⟩ (5 - d) w (by omega) (by rw [h48];omega)
  rw [e,← hZ]
  exact this
 obtain ⟨R,hR⟩:∃ R,mk (s.data.toList ++ five n)=R:=⟨_,rfl⟩
 rw [hR]
 have HA1:Hid (∀ w,(Op.stringOp .add s Z).run Tryz.prog w=.ok (.string (s ++ Z)) w):=fun w=>run_string_add_sum w _ _ (by omega)
 have HA2:Hid (∀ w,(Op.stringOp .add (s ++ Z) D).run Tryz.prog w=.ok (.string R) w):=fun w=>by
  rw [run_string_add_sum w _ _ (by rw [ByteArray.size_append];omega)]
  have:s ++ Z ++ D=R:=by
   rw [← hR,← h5,← hD,← hZ,hds]
   conv=>lhs;rw [← mk_data s]
   have h1:mk s.data.toList ++ mk (Lib.repeatL [48] (5 - d))=mk (s.data.toList ++ Lib.repeatL [48] (5 - d)):=ByteArray.mk_append_mk _ _
   have h2:mk (s.data.toList ++ Lib.repeatL [48] (5 - d)) ++ mk (Lib.decDigits n)=mk (s.data.toList ++ Lib.repeatL [48] (5 - d) ++ Lib.decDigits n):=ByteArray.mk_append_mk _ _
   rw [h1,h2,List.append_assoc]
  rw [this]
 have hd5:d≤5:=by omega
 have hn1:¬ (n:Int)<0:=by omega
 have hn2:¬ (99999:Int)<(n:Int):=by omega
 clear hg h hx hl hd h5 hD hds hZ hZs hR hs
 go_enter Tryz.func88,Tryz.ntmps88
 go_wp2_with fail
 refine (HP.out _ HG.out.toGround).mono ?_
 rintro e w1 ⟨b,rfl,hle,hblk,hb⟩
 have hcell:=cell_of_block hblk HX.out
 have HB:Hid _:=hb
 clear hb hle hblk
 go_wp2_with fail
 refine (HI.out _ (HG.out.below HB.out)).mono ?_
 rintro e w2 ⟨rfl,hb2⟩
 have HB2:Hid _:=trans2 HB.out hb2
 clear hb2 hcell
 go_wp2_with fail
 refine (HR.out _).mono ?_
 rintro e w3 ⟨rfl,hb3⟩
 have HB3:Hid _:=trans2 HB2.out hb3
 have ha1:=HA1.out w3
 have ha2:=HA2.out w3
 clear hb3
 go_wp2
 go_ret2
 exact ⟨rfl,HB3.out⟩
end Go.Proofs.YtckmihplkhmpnaaGreatDoor
namespace Go.Proofs.YtckmihplkhmpnaaGreatDoor
open Go.RowKit
set_option linter.unusedVariables false
set_option linter.unusedSimpArgs false
theorem dig_nat {d:Nat} (h:d<10):(UInt8.ofNat (48+d)).toNat=48+d:=by
 rw [UInt8.toNat_ofNat']
 omega
theorem five_name (n:Nat):∀ b∈five n,nameB b=true:=by
 have h:∀ d,d<10→nameB (UInt8.ofNat (48+d))=true:=fun d hd=>by
  have e:=dig_nat hd
  unfold nameB
  rw [e]
  simp
  omega
 intro b hb
 simp only [five,List.mem_cons,List.not_mem_nil,or_false] at hb
 rcases hb with rfl | rfl | rfl | rfl | rfl <;> exact h _ (by omega)
theorem nm_counted {x:ByteArray} (hx:isNm x=true) (hl:x.size≤11) (n:Nat):isNm (mk (x.data.toList ++ five n))=true:=by
 simp only [isNm,Bool.and_eq_true,decide_eq_true_eq] at hx
 have h5:(five n).length=5:=rfl
 have hxl:x.data.toList.length=x.size:=by simp
 have hx1:=hx.1.1.1.1
 have hsz:(mk (x.data.toList ++ five n)).size=x.size+5:=by rw [size_mk,List.length_append,h5,hxl]
 have hall:(x.data.toList ++ five n).all nameB=true:=by
  rw [List.all_append,hx.2,Bool.true_and,List.all_eq_true]
  exact five_name n
 have hne1:((x.data.toList ++ five n)==[46])=false:=by
  rw [beq_eq_false_iff_ne]
  intro e
  have:=congrArg List.length e
  rw [List.length_append,h5] at this
  simp at this
 have hne2:((x.data.toList ++ five n)==[46,46])=false:=by
  rw [beq_eq_false_iff_ne]
  intro e
  have:=congrArg List.length e
  rw [List.length_append,h5] at this
  simp at this
 simp only [isNm,hsz,data_mk,hall,hne1,hne2]
 simp
 omega
theorem counted_parse {s:ByteArray} {xs:List ByteArray} (h:parse s=(0,xs)) (k:Nat) (hk:xs.length=k+1) (x:ByteArray) (hx:xs[k]? = some x) (hl:x.size≤11) (n:Nat) :
  parse (mk (s.data.toList ++ five n))=(0,xs.take k ++ [mk (x.data.toList ++ five n)]):=by
 have hp:=parse_len h
 have hxn:isNm x=true:=by
  have:=hp.2
  rw [List.all_eq_true] at this
  exact this x (List.mem_of_getElem? hx)
 have hxs:xs=xs.take k ++ [x]:=by
  have:=List.take_add_one (l:=xs) (i:=k)
  rw [hx,← hk,List.take_length] at this
  exact this
 have hne:xs≠[]:=by rintro rfl;simp at hk
 have ht:s.data.toList=flatN (xs.take k) ++ 47 :: x.data.toList:=by
  rw [← parse_back h,placeB,if_neg hne,data_mk]
  conv=>lhs;rw [hxs]
  simp [flatN]
 have hall:(xs.take k ++ [mk (x.data.toList ++ five n)]).all isNm=true:=by
  rw [List.all_append,all_take hp.2 k]
  simp [nm_counted hxn hl n]
 have hlen:(xs.take k ++ [mk (x.data.toList ++ five n)]).length≤6:=by
  rw [List.length_append,List.length_take]
  simp
  omega
 have hpl:=parse_place hlen hall
 have e:placeB (xs.take k ++ [mk (x.data.toList ++ five n)])=mk (s.data.toList ++ five n):=by
  rw [placeB,if_neg (by simp),ht]
  congr 1
  simp [flatN,data_mk]
 rw [e] at hpl
 exact hpl
end Go.Proofs.YtckmihplkhmpnaaGreatDoor
