import Derived.Test.YtckmihplkhmpnaaGreatDoorRows
import Derived.Test.YtckmihplkhmpnaaGreatDoorShelf
import Derived.Test.YtckmihplkhmpnaaGreatDoorPure
import Derived.WalkKit
import Derived.ProofKit
import Derived.BigQuiet
import Derived.Deep.QuietTactic
namespace Go.Proofs.YtckmihplkhmpnaaGreatDoor
open Go.RowKit
structure Ground (w:World):Prop where
 tab:∀ i:Nat,i<128→w.cell? ⟨1,i,none⟩=some (.bool (nameB (UInt8.ofNat i)))
 most:∃ m,w.cell? ⟨2,0,none⟩=some (.int .i64 m)
theorem Ground.below {w w':World} (h:Ground w) (hb:Below w.heap.size w w'):Ground w' where
 tab i hi:=by
  have h0:=h.tab i hi
  rw [hb.cell (p:=⟨1,i,none⟩) (World.block_lt_of_cell? _ _ h0)]
  exact h0
 most:=by
  obtain ⟨m,h0⟩:=h.most
  refine ⟨m,?_⟩
  rw [hb.cell (p:=⟨2,0,none⟩) (World.block_lt_of_cell? _ _ h0)]
  exact h0
theorem isNameByte_any (c:UInt8) (w:World) (hg:Ground w) :
  Calls Tryz.prog 121 #[.int .u8 (c.toNat:Int)] w fun e w'=>e=.returned (.bool (nameB c))∧w'=w:=by
 by_cases h:c.toNat<128
 · have hc:=hg.tab c.toNat h
   rw [UInt8.ofNat_toNat] at hc
   have h2:(c.toNat:Int)<128:=by omega
   clear hg
   go_enter Tryz.func121,Tryz.ntmps121
   go_wp2
   go_ret
   exact ⟨rfl,rfl⟩
 · have h2:¬ (c.toNat:Int)<128:=by omega
   have h3:(c.toNat:Int)<256:=by have:=c.toNat_lt;omega
   have e:nameB c=false:=by simp [nameB];omega
   rw [e]
   clear hg
   go_enter Tryz.func121,Tryz.ntmps121
   go_wp2
   go_ret
   exact ⟨rfl,rfl⟩
theorem nm_empty {s:ByteArray} (h:s.toList=[]):isNm s=false:=by
 rw [ByteArray.toList_eq] at h
 have:s.size=0:=by simpa using congrArg List.length h
 simp [isNm,this]
theorem nm_dot {s:ByteArray} (h:s.toList=[46]):isNm s=false:=by
 rw [ByteArray.toList_eq] at h
 simp [isNm,h]
theorem nm_dots {s:ByteArray} (h:((s.toList.isEmpty=true∨(16:Int)<(s.size:Int))∨(s.toList==[46])=true)∨(s.toList==[46,46])=true):isNm s=false:=by
 rw [ByteArray.toList_eq] at h
 rcases h with ((h | h) | h) | h
 · have:s.size=0:=by simpa using congrArg List.length (List.isEmpty_iff.mp h)
   simp [isNm,this]
 · have:¬ s.size≤16:=by omega
   simp [isNm,this]
 · simp [isNm,h]
 · simp [isNm,h]
theorem nm_long {s:ByteArray} (h:(16:Int)<(s.size:Int)):isNm s=false:=by
 have:¬ s.size≤16:=by omega
 simp [isNm,this]
theorem nm_bad {s:ByteArray} (k:Nat) (hk:k<s.size) (h:nameB s[k]=false):isNm s=false:=by
 have h2:s.data.toList.all nameB=false:=by
  rw [List.all_eq_false]
  exact ⟨s[k],by
   have:s[k]=s.data.toList[k]'(by simpa using hk):=rfl
   rw [this]
   exact List.getElem_mem _,by simp [h]⟩
 simp [isNm,h2]
theorem nm_step {s:ByteArray} (k:Nat) (hk:k<s.size) (h:nameB s[k]=true) (ha:(s.data.toList.take k).all nameB=true):(s.data.toList.take (k+1)).all nameB=true:=by
 have e:s.data.toList.take (k+1)=s.data.toList.take k ++ [s[k]]:=by
  rw [List.take_succ_eq_append_getElem (by simpa using hk)]
  rfl
 rw [e,List.all_append,ha]
 simp [h]
theorem nm_good {s:ByteArray} (h:((s.toList.isEmpty=false∧(s.size:Int)≤16)∧(s.toList==[46])=false)∧(s.toList==[46,46])=false) (ha:(s.data.toList.take s.size).all nameB=true):isNm s=true:=by
 rw [ByteArray.toList_eq] at h
 obtain ⟨⟨⟨h1,h2⟩,h3⟩,h4⟩:=h
 have e:s.data.toList.take s.size=s.data.toList:=List.take_of_length_le (by simp)
 rw [e] at ha
 have h5:1≤s.size:=by
  rcases Nat.eq_zero_or_pos s.size with h0 | h0
  · have:s.data.toList=[]:=List.eq_nil_of_length_eq_zero (by simpa using h0)
    rw [this] at h1
    cases h1
  · exact h0
 have h6:s.size≤16:=by omega
 simp only [isNm,h3,h4,ha,h5,h6]
 rfl
theorem isName_long (s:ByteArray) (w:World) (hg:Ground w) (h1:¬ s.toList=[]) (h2:(s.size:Int)≤16) (h3:(s.toList==[46])=false) (h4:(s.toList==[46,46])=false) :
  Calls Tryz.prog 98 #[.string s] w fun e w'=>e=.returned (.bool (isNm s))∧w'=w:=by
 have HG:Hid (Ground w):=hg
 clear hg
 have h1':s.toList.isEmpty=false:=by simpa using h1
 have h2':decide ((16:Int)<(s.size:Int))=false:=by simpa using h2
 have h3':¬ s.toList=[46]:=by simpa using h3
 have HH:Hid (((s.toList.isEmpty=false∧(s.size:Int)≤16)∧(s.toList==[46])=false)∧(s.toList==[46,46])=false):=⟨⟨⟨h1',h2⟩,h3⟩,h4⟩
 have h16:s.size≤16:=by omega
 go_enter Tryz.func98,Tryz.ntmps98
 go_wp2
 clear h1 h2 h3 h4 h1' h2' h3'
 go_loop [21] (fun i=>∃ k:Nat,i=.int .i64 k∧k≤s.size∧(s.data.toList.take k).all nameB=true) (fun i=>s.size - (intOf i).toNat)
 case atStart=>exact ⟨0,rfl,by omega,rfl⟩
 case round =>
  obtain ⟨k,rfl,hk,ha⟩:=hrel
  have HA:Hid _:=ha
  clear ha
  by_cases hlt:k<s.size
  · go_wp2_with (first | (go_at_call 121;refine (isNameByte_any _ _ HG.out).mono ?_;rintro e w' ⟨rfl,rfl⟩))
    · have hn:nameB s[k]=false:=by simpa using (show (!nameB s[k])=true by assumption)
      go_ret
      exact ⟨by rw [nm_bad k hlt hn];rfl,rfl⟩
    · have hn:nameB s[k]=true:=by simpa using (show (!nameB s[k])=false by assumption)
      go_round
      case rel=>exact ⟨k+1,by go_num,by omega,nm_step k hlt hn HA.out⟩
      case measure=>simp [intOf];omega
  · obtain rfl:k=s.size:=by omega
    go_wp2
    go_ret
    exact ⟨by rw [nm_good HH.out HA.out];rfl,rfl⟩
theorem isName_any (s:ByteArray) (w:World) (hg:Ground w) :
  Calls Tryz.prog 98 #[.string s] w fun e w'=>e=.returned (.bool (isNm s))∧w'=w:=by
 by_cases hall:¬ s.toList=[]∧(s.size:Int)≤16∧(s.toList==[46])=false∧(s.toList==[46,46])=false
 · exact isName_long s w hg hall.1 hall.2.1 hall.2.2.1 hall.2.2.2
 have HN:Hid _:=hall
 clear hg hall
 go_enter Tryz.func98,Tryz.ntmps98
 go_wp2
 · have h:s.toList=[]:=by assumption
   go_ret
   exact ⟨by rw [nm_empty h];rfl,rfl⟩
 · have h:s.toList=[46]:=by assumption
   go_ret
   exact ⟨by rw [nm_dot h];rfl,rfl⟩
 · have h:((s.toList.isEmpty=true∨(16:Int)<(s.size:Int))∨(s.toList==[46])=true)∨(s.toList==[46,46])=true:=by assumption
   go_ret
   exact ⟨by rw [nm_dots h];rfl,rfl⟩
 · have h:((s.toList.isEmpty=false∧(s.size:Int)≤16)∧(s.toList==[46])=false)∧(s.toList==[46,46])=false:=by assumption
   exact absurd ⟨by simpa using h.1.1.1,h.1.1.2,h.1.2,h.2⟩ HN.out
 · have h:(16:Int)<(s.size:Int):=by assumption
   go_ret
   exact ⟨by rw [nm_long h];rfl,rfl⟩
end Go.Proofs.YtckmihplkhmpnaaGreatDoor
namespace Go.Proofs.YtckmihplkhmpnaaGreatDoor
open Go.RowKit
def Strs (w:World) (b o:Nat) (xs:List ByteArray):Prop:=∀ (j:Nat) (x:ByteArray),xs[j]? = some x→w.cell? ⟨b,o+j,none⟩=some (.string x)
def Lst (w:World) (a:Option Addr) (xs:List ByteArray):Prop:=xs=[]∨∃ b o,a=some ⟨b,o,none⟩∧b<w.heap.size∧Strs w b o xs
theorem Lst.below {w w':World} {a:Option Addr} {xs:List ByteArray} (h:Lst w a xs) (hb:Below w.heap.size w w'):Lst w' a xs:=by
 rcases h with h | ⟨b,o,ha,hlt,hs⟩
 · exact .inl h
 · refine .inr ⟨b,o,ha,Nat.lt_of_lt_of_le hlt hb.size,fun j x hx=>?_⟩
   rw [hb.cell (p:=⟨b,o+j,none⟩) hlt]
   exact hs j x hx
theorem all_bad {xs:List ByteArray} {k:Nat} {x:ByteArray} (hx:xs[k]? = some x) (h:isNm x=false):xs.all isNm=false:=by
 rw [List.all_eq_false]
 exact ⟨x,List.mem_of_getElem? hx,by simp [h]⟩
theorem all_step {xs:List ByteArray} {k:Nat} {x:ByteArray} (hx:xs[k]? = some x) (h:isNm x=true) (ha:(xs.take k).all isNm=true):(xs.take (k+1)).all isNm=true:=by
 rw [List.take_add_one,hx,List.all_append,ha]
 simp [h]
theorem areNames_any (a:Option Addr) (c:Nat) (xs:List ByteArray) (w:World) (hg:Ground w) (hl:Lst w a xs) (hm:xs.length≤9223372036854775807) :
  Calls Tryz.prog 79 #[.slice a xs.length c] w fun e w'=>e=.returned (.bool (xs.all isNm))∧w'=w:=by
 rcases hl with rfl | ⟨b,o,rfl,hb,hs⟩
 · clear hg
   go_enter Tryz.func79,Tryz.ntmps79
   go_wp2
   refine wp_loop_rounds 1 ?_
   rw [rounds_succ]
   go_wp2
   go_ret
   exact ⟨rfl,rfl⟩
 · have HG:Hid (Ground w):=hg
   have HS:Hid (Strs w b o xs):=hs
   clear hg hs hb
   go_enter Tryz.func79,Tryz.ntmps79
   go_wp2
   go_loop [7] (fun i=>∃ k:Nat,i=.int .i64 k∧k≤xs.length∧(xs.take k).all isNm=true) (fun i=>xs.length - (intOf i).toNat)
   case atStart=>exact ⟨0,rfl,by omega,rfl⟩
   case round =>
    obtain ⟨k,rfl,hk,ha⟩:=hrel
    have HA:Hid _:=ha
    clear ha
    by_cases hlt:k<xs.length
    · obtain ⟨x,hx⟩:∃ x,xs[k]? = some x:=⟨xs[k],List.getElem?_eq_getElem hlt⟩
      have hc:=HS.out k x hx
      have HX:Hid (xs[k]? = some x):=hx
      clear hx
      go_wp2_with (first | (go_at_call 98;refine (isName_any _ _ HG.out).mono ?_;rintro e w' ⟨rfl,rfl⟩))
      · have hn:isNm x=false:=by simpa using (show (!isNm x)=true by assumption)
        go_ret
        exact ⟨by rw [all_bad HX.out hn];rfl,rfl⟩
      · have hn:isNm x=true:=by simpa using (show (!isNm x)=false by assumption)
        go_round
        case rel=>exact ⟨k+1,by go_num,by omega,all_step HX.out hn HA.out⟩
        case measure=>simp [intOf];omega
    · obtain rfl:k=xs.length:=by omega
      have e:xs.all isNm=true:=by have:=HA.out;rwa [List.take_length] at this
      have HE:Hid _:=e
      clear e
      go_wp2
      go_ret
      exact ⟨by rw [HE.out];rfl,rfl⟩
end Go.Proofs.YtckmihplkhmpnaaGreatDoor
namespace Go.Proofs.YtckmihplkhmpnaaGreatDoor
open Go.RowKit
end Go.Proofs.YtckmihplkhmpnaaGreatDoor
namespace Go.Proofs.YtckmihplkhmpnaaGreatDoor
open Go.RowKit
theorem nameB_of {c:UInt8} {n:Nat} (h:c.toNat=n):nameB c=(decide (97≤n∧n≤122) || decide (65≤n∧n≤90) || decide (48≤n∧n≤57) || decide (n=95) || decide (n=45) || decide (n=46)):=by
 subst h;rfl
set_option maxHeartbeats 1600000 in
theorem nameOf_long (s:ByteArray) (w:World) (h1:(1:Int)≤(s.size:Int)) (h2:(s.size:Int)≤16) (h3:(s.toList==[46])=false) (h4:(s.toList==[46,46])=false) :
  Calls Tryz.prog 82 #[.string s] w fun e w'=>e=.returned (.bool (isNm s))∧w'=w:=by
 have h0:¬ (s.size:Int)<1:=by omega
 have h1':s.toList.isEmpty=false:=by
  rw [ByteArray.toList_eq]
  cases hl:s.data.toList with
  | nil=>have:s.size=0:=by simpa using congrArg List.length hl
         omega
  | cons b l=>rfl
 have h2':decide ((16:Int)<(s.size:Int))=false:=by simpa using h2
 have h3':¬ s.toList=[46]:=by simpa using h3
 have HH:Hid (((s.toList.isEmpty=false∧(s.size:Int)≤16)∧(s.toList==[46])=false)∧(s.toList==[46,46])=false):=⟨⟨⟨h1',h2⟩,h3⟩,h4⟩
 have h16:s.size≤16:=by omega
 have h00:decide ((s.size:Int)<1)=false:=by simpa using h1
 clear h1'
 go_enter Tryz.func82,Tryz.ntmps82
 go_wp2
 clear h1 h2 h3 h4 h0 h2' h3' h00
 go_loop [3] (fun i=>∃ k:Nat,i=.int .i64 k∧k≤s.size∧(s.data.toList.take k).all nameB=true) (fun i=>s.size - (intOf i).toNat)
 case atStart=>exact ⟨0,rfl,by omega,rfl⟩
 case round =>
  obtain ⟨k,rfl,hk,ha⟩:=hrel
  have HA:Hid _:=ha
  clear ha
  by_cases hlt:k<s.size
  · obtain ⟨n,hn⟩:∃ n:Nat,s[k].toNat=n:=⟨_,rfl⟩
    have HB:Hid _:=nameB_of hn
    have hn2:n<256:=by have:=s[k].toNat_lt;omega
    rcases (show n<45∨n=45∨n=46∨n=47∨(48≤n∧n≤57)∨(58≤n∧n≤64)∨(65≤n∧n≤90)∨(91≤n∧n≤94)∨n=95∨n=96∨(97≤n∧n≤122)∨123≤n by omega)
     with hc | hc | hc | hc | hc | hc | hc | hc | hc | hc | hc | hc
    · have e1:((n:Int) != 95)=true:=by simp;omega
      have e2:((n:Int) != 45)=true:=by simp;omega
      have e3:((n:Int) != 46)=true:=by simp;omega
      have hb:nameB s[k]=false:=by rw [HB.out];simp;omega
      have HBB:Hid _:=hb
      clear hb
      go_wp2
      go_ret
      exact ⟨by rw [nm_bad k hlt HBB.out];rfl,rfl⟩
    · subst hc
      have hb:nameB s[k]=true:=by rw [HB.out];rfl
      have HBB:Hid _:=hb
      clear hb
      go_wp2
      go_round
      case rel=>exact ⟨k+1,by go_num,by omega,nm_step k hlt HBB.out HA.out⟩
      case measure=>simp [intOf];omega
    · subst hc
      have hb:nameB s[k]=true:=by rw [HB.out];rfl
      have HBB:Hid _:=hb
      clear hb
      go_wp2
      go_round
      case rel=>exact ⟨k+1,by go_num,by omega,nm_step k hlt HBB.out HA.out⟩
      case measure=>simp [intOf];omega
    · have e1:((n:Int) != 95)=true:=by simp;omega
      have e2:((n:Int) != 45)=true:=by simp;omega
      have e3:((n:Int) != 46)=true:=by simp;omega
      have hb:nameB s[k]=false:=by rw [HB.out];simp;omega
      have HBB:Hid _:=hb
      clear hb
      go_wp2
      go_ret
      exact ⟨by rw [nm_bad k hlt HBB.out];rfl,rfl⟩
    · have hb:nameB s[k]=true:=by rw [HB.out];simp;omega
      have HBB:Hid _:=hb
      clear hb
      go_wp2
      go_round
      case rel=>exact ⟨k+1,by go_num,by omega,nm_step k hlt HBB.out HA.out⟩
      case measure=>simp [intOf];omega
    · have e1:((n:Int) != 95)=true:=by simp;omega
      have e2:((n:Int) != 45)=true:=by simp;omega
      have e3:((n:Int) != 46)=true:=by simp;omega
      have hb:nameB s[k]=false:=by rw [HB.out];simp;omega
      have HBB:Hid _:=hb
      clear hb
      go_wp2
      go_ret
      exact ⟨by rw [nm_bad k hlt HBB.out];rfl,rfl⟩
    · have hb:nameB s[k]=true:=by rw [HB.out];simp;omega
      have HBB:Hid _:=hb
      clear hb
      go_wp2
      go_round
      case rel=>exact ⟨k+1,by go_num,by omega,nm_step k hlt HBB.out HA.out⟩
      case measure=>simp [intOf];omega
    · have e1:((n:Int) != 95)=true:=by simp;omega
      have d1:decide ((n:Int)≤90)=false:=by simp;omega
      have e2:((n:Int) != 45)=true:=by simp;omega
      have e3:((n:Int) != 46)=true:=by simp;omega
      have hb:nameB s[k]=false:=by rw [HB.out];simp;omega
      have HBB:Hid _:=hb
      clear hb
      go_wp2
      go_ret
      exact ⟨by rw [nm_bad k hlt HBB.out];rfl,rfl⟩
    · subst hc
      have hb:nameB s[k]=true:=by rw [HB.out];rfl
      have HBB:Hid _:=hb
      clear hb
      go_wp2
      go_round
      case rel=>exact ⟨k+1,by go_num,by omega,nm_step k hlt HBB.out HA.out⟩
      case measure=>simp [intOf];omega
    · have e1:((n:Int) != 95)=true:=by simp;omega
      have d1:decide ((n:Int)≤90)=false:=by simp;omega
      have e2:((n:Int) != 45)=true:=by simp;omega
      have e3:((n:Int) != 46)=true:=by simp;omega
      have hb:nameB s[k]=false:=by rw [HB.out];simp;omega
      have HBB:Hid _:=hb
      clear hb
      go_wp2
      go_ret
      exact ⟨by rw [nm_bad k hlt HBB.out];rfl,rfl⟩
    · have hb:nameB s[k]=true:=by rw [HB.out];simp;omega
      have HBB:Hid _:=hb
      clear hb
      go_wp2
      go_round
      case rel=>exact ⟨k+1,by go_num,by omega,nm_step k hlt HBB.out HA.out⟩
      case measure=>simp [intOf];omega
    · have e1:((n:Int) != 95)=true:=by simp;omega
      have d1:decide ((n:Int)≤90)=false:=by simp;omega
      have d2:decide ((n:Int)≤122)=false:=by simp;omega
      have e2:((n:Int) != 45)=true:=by simp;omega
      have e3:((n:Int) != 46)=true:=by simp;omega
      have hb:nameB s[k]=false:=by rw [HB.out];simp;omega
      have HBB:Hid _:=hb
      clear hb
      go_wp2
      go_ret
      exact ⟨by rw [nm_bad k hlt HBB.out];rfl,rfl⟩
  · obtain rfl:k=s.size:=by omega
    go_wp2
    go_ret
    exact ⟨by rw [nm_good HH.out HA.out];rfl,rfl⟩
theorem nm_out {s:ByteArray} (h:(((s.size:Int)<1∨(16:Int)<(s.size:Int))∨(s.toList==[46])=true)∨(s.toList==[46,46])=true):isNm s=false:=by
 rw [ByteArray.toList_eq] at h
 rcases h with ((h | h) | h) | h
 · have:s.size=0:=by omega
   simp [isNm,this]
 · exact nm_long h
 · simp [isNm,h]
 · simp [isNm,h]
theorem nameOf_any (s:ByteArray) (w:World) :
  Calls Tryz.prog 82 #[.string s] w fun e w'=>e=.returned (.bool (isNm s))∧w'=w:=by
 by_cases hall:(1:Int)≤(s.size:Int)∧(s.size:Int)≤16∧(s.toList==[46])=false∧(s.toList==[46,46])=false
 · exact nameOf_long s w hall.1 hall.2.1 hall.2.2.1 hall.2.2.2
 have HN:Hid _:=hall
 clear hall
 go_enter Tryz.func82,Tryz.ntmps82
 go_wp2
 · have h:s.toList=[46]:=by assumption
   go_ret
   exact ⟨by rw [nm_dot h];rfl,rfl⟩
 · have h:(((s.size:Int)<1∨(16:Int)<(s.size:Int))∨(s.toList==[46])=true)∨(s.toList==[46,46])=true:=by assumption
   go_ret
   exact ⟨by rw [nm_out h];rfl,rfl⟩
 · have h:(((1:Int)≤(s.size:Int)∧(s.size:Int)≤16)∧(s.toList==[46])=false)∧(s.toList==[46,46])=false:=by assumption
   exact absurd ⟨h.1.1.1,h.1.1.2,h.1.2,h.2⟩ HN.out
 · have h:(16:Int)<(s.size:Int):=by assumption
   go_ret
   exact ⟨by rw [nm_long h];rfl,rfl⟩
 · have h:(s.size:Int)<1:=by assumption
   go_ret
   exact ⟨by rw [nm_out (.inl (.inl (.inl h)))];rfl,rfl⟩
end Go.Proofs.YtckmihplkhmpnaaGreatDoor
namespace Go.Proofs.YtckmihplkhmpnaaGreatDoor
open Go.RowKit
def Own (base:Nat) (w:World) (a:Option Addr) (c:Nat) (xs:List ByteArray):Prop :=
 (xs=[]∧a=none∧c=0)∨xs≠[]∧∃ b,a=some ⟨b,0,none⟩∧c=xs.length∧base≤b∧w.heap[b]? = some (.cells (xs.map Value.string).toArray 9 (0,0))
theorem strs_of_block {w:World} {b:Nat} {xs:List ByteArray} (h:w.heap[b]? = some (.cells (xs.map Value.string).toArray 9 (0,0))):Strs w b 0 xs:=by
 intro j x hx
 rw [Nat.zero_add]
 simp [World.cell?,h,hx]
theorem strs_new (w:World) (xs:List ByteArray):Strs (w.alloc (.cells (xs.map Value.string).toArray 9)) w.heap.size 0 xs:=by
 intro j x hx
 rw [Nat.zero_add,World.cell?_alloc_at _ _ _ _ rfl]
 simp [hx]
theorem block_new (w:World) (xs:List ByteArray):(w.alloc (.cells (xs.map Value.string).toArray 9)).heap[w.heap.size]? = some (.cells (xs.map Value.string).toArray 9 (0,0)):=by
 show (w.heap.push _)[w.heap.size]? = _
 simp
theorem lt_of_block'  {w:World} {b:Nat} {o:Obj} (h:w.heap[b]? = some o):b<w.heap.size:=by
 rw [Array.getElem?_eq_some_iff] at h
 exact h.1
theorem cutPrefix_yes (s:ByteArray) (l:List UInt8) (h:s.data.toList=47 :: l) (w:World) :
  Calls Tryz.prog 77 #[.string s,.string ⟨#[47]⟩] w fun e w'=>e=.returned (.tuple #[.string (mk l),.bool true])∧w'=w:=by
 refine (Tryz.strings_CutPrefix s ⟨#[47]⟩ w).mono fun e w' ⟨he,hw⟩=>⟨?_,hw⟩
 rw [he,h]
 rfl
theorem cutPrefix_no (s:ByteArray) (h:∀ l,s.data.toList≠47 :: l) (w:World) :
  Calls Tryz.prog 77 #[.string s,.string ⟨#[47]⟩] w fun e w'=>e=.returned (.tuple #[.string s,.bool false])∧w'=w:=by
 refine (Tryz.strings_CutPrefix s ⟨#[47]⟩ w).mono fun e w' ⟨he,hw⟩=>⟨?_,hw⟩
 have hp:Lib.hasPrefix s.data.toList [47]=false:=by
  cases hl:s.data.toList with
  | nil=>rfl
  | cons b l =>
    have hb:¬ 47=b:=fun e=>h l (by rw [hl,e])
    simp [Lib.hasPrefix,List.isPrefixOf,hb]
 have ht:Lib.trimPrefix s.data.toList [47]=s.data.toList:=by simp [Lib.trimPrefix,hp]
 rw [he]
 show Ending.returned (.tuple #[.string ⟨(Lib.trimPrefix s.data.toList [47]).toArray⟩,.bool (Lib.hasPrefix s.data.toList [47])])=_
 rw [hp,ht]
theorem split_any (x:ByteArray) (hx:x.size<4294967281) (w:World) (hg:Ground w) :
  Calls Tryz.prog 78 #[.string x,.string ⟨#[47]⟩] w fun e w' =>
   e=.returned (.slice (some ⟨w.heap.size,0,none⟩) (cutB x).length (cutB x).length)∧w'=w.alloc (.cells ((cutB x).map Value.string).toArray 9):=by
 obtain ⟨m,hm⟩:=hg.most
 refine (Tryz.strings_Split x ⟨#[47]⟩ m w hx hm (by decide)).mono fun e w' ⟨he,hw⟩=>?_
 have hl:(cutB x).length=Lib.countB x ⟨#[47]⟩+1:=by
  unfold cutB
  rw [List.length_map,cutL_length]
  have:Lib.countB x ⟨#[47]⟩=x.data.toList.count 47:=Lib.count_one 47 x.data.toList
  rw [this]
 rw [splitB_cut] at hw
 exact ⟨by rw [he,hl],hw⟩
theorem clone_any (x:ByteArray) (hx:x.size≤281474976710656) (w:World) :
  Calls Tryz.prog 69 #[.string x] w fun e w'=>e=.returned (.string x)∧Below w.heap.size w w':=Tryz.stringslite_Clone x w hx
def Parsed (s:ByteArray) (w:World) (e:Ending) (w':World):Prop :=
 ∃ a c,e=.returned (.tuple #[.slice a (parse s).2.length c,.int .i64 (parse s).1])∧Own w.heap.size w' a c (parse s).2∧Below w.heap.size w w'
theorem parse_long {s:ByteArray} (h:102<s.size):parse s=(2,[]):=by rw [parse,if_pos h]
theorem parse_root {s:ByteArray} (h:s.data.toList=[47]):parse s=(0,[]):=by
 have:s.size=1:=by simpa using congrArg List.length h
 rw [parse,if_neg (by omega),if_pos h]
theorem parse_no {s:ByteArray} (h0:¬ 102<s.size) (h:∀ l,s.data.toList≠47 :: l):parse s=(10,[]):=by
 rw [parse,if_neg h0,if_neg (h [])]
 cases hl:s.data.toList with
 | nil=>rfl
 | cons b l=>exact if_neg (fun e=>h l (by rw [hl,e]))
theorem parse_yes {s:ByteArray} {l:List UInt8} (h0:¬ 102<s.size) (h1:¬ s.data.toList=[47]) (h:s.data.toList=47 :: l) :
  parse s=if (cutL l).length≤6∧((cutL l).map mk).all isNm=true then (0,(cutL l).map mk) else (10,[]):=by
 rw [parse,if_neg h0,if_neg h1,h]
 exact if_pos rfl
theorem cutB_mk (l:List UInt8):cutB (mk l)=(cutL l).map mk:=by rw [cutB,data_mk]
theorem none_of {s:ByteArray} {w:World} {code:Int} (h:parse s=(code,[])) {w':World} (hb:Below w.heap.size w w') {e:Ending} (he:e=.returned (.tuple #[.slice none 0 0,.int .i64 code])):Parsed s w e w':=by
 refine ⟨none,0,?_,?_,hb⟩
 · rw [he,h];rfl
 · rw [h];exact .inl ⟨rfl,rfl,rfl⟩
theorem parse_slash (s:ByteArray) (l:List UInt8) (hl:s.data.toList=47 :: l) (w:World) (hg:Ground w) (h0:¬ 102<s.size) (h1:¬ s.data.toList=[47]) :
  Calls Tryz.prog 52 #[.string s] w (Parsed s w):=by
 have h0':¬ (102:Int)<(s.size:Int):=by omega
 have h1':(s.toList==[47])=false:=by rw [ByteArray.toList_eq];simpa using h1
 have hsz:(mk l).size≤102:=by
  rw [size_mk]
  have:s.data.toList.length=l.length+1:=by rw [hl];rfl
  simp at this
  omega
 obtain ⟨xs,hxs⟩:∃ xs,cutB (mk l)=xs:=⟨_,rfl⟩
 have hp:parse s=if xs.length≤6∧xs.all isNm=true then (0,xs) else (10,[]):=by
  rw [parse_yes h0 h1 hl,← hxs,cutB_mk,List.length_map]
 have HC:Hid _:=cutPrefix_yes s l hl
 have HS:Hid (∀ w,Ground w→Calls Tryz.prog 78 #[.string (mk l),.string ⟨#[47]⟩] w fun e w'=>e=.returned (.slice (some ⟨w.heap.size,0,none⟩) xs.length xs.length)∧w'=w.alloc (.cells (xs.map Value.string).toArray 9)) :=
  fun w hg=>by rw [← hxs];exact split_any (mk l) (by omega) w hg
 have HG:Hid (Ground w):=hg
 have HP:Hid _:=hp
 have hcl:(mk l).size≤281474976710656:=by omega
 have hlen:xs.length≤103:=by
  rw [← hxs,cutB_mk,List.length_map,cutL_length]
  have:=List.count_le_length (a:=47) (l:=l)
  rw [size_mk] at hsz
  omega
 have HNE:Hid (xs≠[]):=by rw [← hxs];exact cutB_ne _
 clear hg hp hl h1 hxs
 generalize mk l=rest at *
 by_cases hN:xs.length≤6
 · cases hall:xs.all isNm
   · have hN':(xs.length:Int)≤6:=by omega
     go_enter Tryz.func52,Tryz.ntmps52
     go_wp2_with (first
      | (go_at_call 77;refine (HC.out _).mono ?_;rintro e w' ⟨rfl,rfl⟩)
      | (go_at_call 69;refine (clone_any _ hcl _).mono ?_;rintro e w1 ⟨rfl,hb1⟩;have HB:Hid _:=hb1;clear hb1)
      | (go_at_call 78;refine (HS.out _ (HG.out.below HB.out)).mono ?_;rintro e w2 ⟨rfl,rfl⟩)
      | (go_at_call 79;refine (areNames_any _ _ xs _ ((HG.out.below HB.out).below ((Below.refl _ _).alloc (Nat.le_refl _) _)) (.inr ⟨_,0,rfl,by simp,strs_new _ _⟩) (by omega)).mono ?_;rintro e w3 ⟨rfl,rfl⟩)
      | go_in)
     go_ret2
     exact none_of (by rw [HP.out,if_neg (by simp [hall])]) (HB.out.alloc HB.out.size _) rfl
   · have hN':(xs.length:Int)≤6:=by omega
     go_enter Tryz.func52,Tryz.ntmps52
     go_wp2_with (first
      | (go_at_call 77;refine (HC.out _).mono ?_;rintro e w' ⟨rfl,rfl⟩)
      | (go_at_call 69;refine (clone_any _ hcl _).mono ?_;rintro e w1 ⟨rfl,hb1⟩;have HB:Hid _:=hb1;clear hb1)
      | (go_at_call 78;refine (HS.out _ (HG.out.below HB.out)).mono ?_;rintro e w2 ⟨rfl,rfl⟩)
      | (go_at_call 79;refine (areNames_any _ _ xs _ ((HG.out.below HB.out).below ((Below.refl _ _).alloc (Nat.le_refl _) _)) (.inr ⟨_,0,rfl,by simp,strs_new _ _⟩) (by omega)).mono ?_;rintro e w3 ⟨rfl,rfl⟩)
      | go_in)
     go_ret2
     have e1:parse s=(0,xs):=by rw [HP.out,if_pos ⟨hN,hall⟩]
     refine ⟨some ⟨w1.heap.size,0,none⟩,xs.length,?_,?_,HB.out.alloc HB.out.size _⟩
     · rw [e1];rfl
     · rw [e1];exact .inr ⟨HNE.out,_,rfl,rfl,HB.out.size,block_new _ _⟩
 · have hN':(6:Int)<(xs.length:Int):=by omega
   go_enter Tryz.func52,Tryz.ntmps52
   go_wp2_with (first
    | (go_at_call 77;refine (HC.out _).mono ?_;rintro e w' ⟨rfl,rfl⟩)
    | (go_at_call 69;refine (clone_any _ hcl _).mono ?_;rintro e w1 ⟨rfl,hb1⟩;have HB:Hid _:=hb1;clear hb1)
    | (go_at_call 78;refine (HS.out _ (HG.out.below HB.out)).mono ?_;rintro e w2 ⟨rfl,rfl⟩)
    | (go_at_call 79;refine (areNames_any _ _ xs _ ((HG.out.below HB.out).below ((Below.refl _ _).alloc (Nat.le_refl _) _)) (.inr ⟨_,0,rfl,by simp,strs_new _ _⟩) (by omega)).mono ?_;rintro e w3 ⟨rfl,rfl⟩)
    | go_in)
   go_ret2
   exact none_of (by rw [HP.out,if_neg (by omega)]) (HB.out.alloc HB.out.size _) rfl
theorem parse_any (s:ByteArray) (w:World) (hg:Ground w) :
  Calls Tryz.prog 52 #[.string s] w (Parsed s w):=by
 by_cases h0:102<s.size
 · have h0':(102:Int)<(s.size:Int):=by omega
   have hp:=none_of (s:=s) (w:=w) (parse_long h0) (Below.refl _ _) rfl
   have HP:Hid _:=hp
   clear hp hg
   go_enter Tryz.func52,Tryz.ntmps52
   go_wp2
   go_ret2
   exact HP.out
 have h0':¬ (102:Int)<(s.size:Int):=by omega
 by_cases h1:s.data.toList=[47]
 · have h1':s.toList=[47]:=by rw [ByteArray.toList_eq,h1]
   have hp:=none_of (s:=s) (w:=w) (parse_root h1) (Below.refl _ _) rfl
   have HP:Hid _:=hp
   clear hp hg h1
   go_enter Tryz.func52,Tryz.ntmps52
   go_wp2
   go_ret2
   exact HP.out
 have h1':(s.toList==[47])=false:=by rw [ByteArray.toList_eq];simpa using h1
 by_cases h2:∃ l,s.data.toList=47 :: l
 · obtain ⟨l,hl⟩:=h2
   exact parse_slash s l hl w hg h0 h1
 · have h2':∀ l,s.data.toList≠47 :: l:=fun l e=>h2 ⟨l,e⟩
   have hp:=none_of (s:=s) (w:=w) (parse_no h0 h2') (Below.refl _ _) rfl
   have HP:Hid _:=hp
   have HC:Hid _:=cutPrefix_no s h2'
   clear hp hg h2 h2' h1
   go_enter Tryz.func52,Tryz.ntmps52
   go_wp2_with (first | (go_at_call 77;refine (HC.out _).mono ?_;rintro e w' ⟨rfl,rfl⟩))
   go_ret2
   exact HP.out
theorem parse_none {s:ByteArray} {code:Int} (h:parse s=(code,[])) (w:World) (hg:Ground w) :
  Calls Tryz.prog 52 #[.string s] w fun e w'=>e=.returned (.tuple #[.slice none 0 0,.int .i64 code])∧Below w.heap.size w w':=by
 refine (parse_any s w hg).mono ?_
 rintro e w' ⟨a,c,he,hO,hb⟩
 rw [h] at he hO
 rcases hO with ⟨_,rfl,rfl⟩ | ⟨hne,_⟩
 · exact ⟨he,hb⟩
 · exact absurd rfl hne
theorem parse_some {s:ByteArray} {code:Int} {xs:List ByteArray} (h:parse s=(code,xs)) (hne:xs≠[]) (w:World) (hg:Ground w) :
  Calls Tryz.prog 52 #[.string s] w fun e w' =>
   ∃ b,e=.returned (.tuple #[.slice (some ⟨b,0,none⟩) xs.length xs.length,.int .i64 code])∧w.heap.size≤b∧w'.heap[b]? = some (.cells (xs.map Value.string).toArray 9 (0,0))∧Below w.heap.size w w':=by
 refine (parse_any s w hg).mono ?_
 rintro e w' ⟨a,c,he,hO,hb⟩
 rw [h] at he hO
 rcases hO with ⟨h0,_⟩ | ⟨_,b,rfl,rfl,hle,hblk⟩
 · exact absurd h0 hne
 · exact ⟨b,he,hle,hblk,hb⟩
end Go.Proofs.YtckmihplkhmpnaaGreatDoor
