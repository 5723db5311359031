import Derived.Test.YtckmihplkhmpnaaGreatDoorTOps
import Derived.Test.YtckmihplkhmpnaaGreatDoorCovers
import Derived.Test.YtckmihplkhmpnaaGreatDoorRefOrder
import Derived.Sort.KeysCollected
import Derived.Maps.RangeWalk
import Derived.WalkSpells
import Derived.Sort.OwnSorted
namespace Go.Proofs.YtckmihplkhmpnaaGreatDoor
open Go.RowKit Go.Maps
set_option linter.unusedVariables false
set_option linter.unusedSimpArgs false
theorem Tryz.infoT:(Tryz.prog.info? 9).map (fun i=>(i.zero,i.size,i.bytes))=some (some (.string ⟨#[]⟩),1,16):=by kernel_rfl
abbrev ordV:Value:=.func (.func 14) #[] #[]
def SortsTo:Prop:=∀ (base g cap:Nat) (ss:List (List UInt8)) (w:World),w.ownsRow base 9 1 (.slice (some ⟨g,0,none⟩) ss.length cap) ss.length (ss.map encStr)→(∀ l∈ss,l.length≤1000)→ss.length≤1000000 →
 Calls Tryz.prog 67 #[.slice (some ⟨g,0,none⟩) ss.length cap,ordV] w fun e w'=>e=.returned (.tuple #[])∧∃ ts:List (List UInt8),ts.Perm ss∧ts.Pairwise (fun x y=>ordL x y≠1)∧w'.ownsRow base 9 1 (.slice (some ⟨g,0,none⟩) ts.length cap) ts.length (ts.map encStr)∧w.grownBy w' (some g)
def SortsNil:Prop:=∀ w:World,Calls Tryz.prog 67 #[.slice none 0 0,ordV] w fun e w'=>e=.returned (.tuple #[])∧Below w.heap.size w w'
theorem grown_of_below {w w':World} (h:Below w.heap.size w w') (row:Option Nat):w.grownBy w' row:=⟨h.os,h.tape,h.output,h.size,fun k hk _=>h.block k hk⟩
def wF (kind:Int) (at':ByteArray) (l:List UInt8):Bool:=covers kind at' 1 ⟨l.toArray⟩
set_option maxHeartbeats 4000000 in
set_option maxRecDepth 100000 in
theorem watched_any (hS:SortsTo) (hN:SortsNil) (b n:Nat) (D:DataW Value) (kind:Int) (at':ByteArray) (w:World) (hg:Ground w) (hm:MapAt w b n D) (hk:∀ l∈strKeys D,l.length≤1000) (hsz:Maps.size D≤1000000) :
  Calls Tryz.prog 53 #[.map (some b),.int .i64 kind,.string at'] w fun e w'=>∃ (a:Option Addr) (c:Nat) (ts:List (List UInt8)),e=.returned (.slice a ts.length c)∧ts.Perm ((strKeys D).filter (wF kind at'))∧ts.Pairwise (fun x y=>ordL x y≠1)∧w'.ownsRow w.heap.size 9 1 (.slice a ts.length c) ts.length (ts.map encStr)∧Below w.heap.size w w':=by
 obtain ⟨i0,hi,hz0,hz1,hz2⟩:=info_parts Tryz.infoT
 have hbl:=hm.lt
 have HG:Hid (Ground w):=hg
 have HM:Hid (MapAt w b n D):=hm
 have HK:Hid (∀ l∈strKeys D,l.length≤1000):=hk
 clear hg hk
 go_enter Tryz.func53,Tryz.ntmps53
 go_wp2_with (first
  | (at_range;go_loud (refine wpList_range_own _ rfl _ 52 rfl 9 27 keyed Tryz.underlying52 raw b n D rfl hm ?_;intro w0 hrg0 hg0 hs0))
  | fail)
 go_frame
 go_loopw [7] (fun v wr=>∃ (left:Lit→Bool) (cnt:Nat) (all:List (List UInt8)),wr.ranges Tryz.prog 9 raw b w.heap.size n D left cnt∧all.length+cnt≤Maps.size D∧Hid (wr.ownsRow w.heap.size 9 1 v (all.filter (wF kind at')).length ((all.filter (wF kind at')).map encStr))∧Collected D left all∧Hid (Below w.heap.size w wr)) (fun _ wr=>wr.rangeLeft b w.heap.size)
 case atStart=>exact ⟨_,_,[],hrg0,by simp,World.ownsRow_nil _ _ _ _,Collected.start D,(Below.refl _ _).grown hg0 (Nat.le_refl _) (fun j hj=>by cases hj)⟩
 case round =>
  obtain ⟨left,cnt,all,hrg,hcs,HR,hC,HB⟩:=hrel
  go_wp2_with (first
   | (at_next;go_loud (refine wpList_next_ranges _ rfl _ rfl 9 keyed raw encStr id (fun key kl hk=>by obtain ⟨x,hx,_⟩:=Maps.keyOf_str Tryz.underlying9 hk;exact ⟨x,hx⟩) (fun v y hv=>⟨v,rfl⟩) b w.heap.size n _ _ _ rfl hrg ?_ ?_))
   | fail)
  · intro hc0 hl0
    have HP:Hid (all.Perm (strKeys D)):=hC.perm HM.out keyed Tryz.underlying9 hl0
    have HPF:Hid ((all.filter (wF kind at')).Perm ((strKeys D).filter (wF kind at'))):=HP.out.filter _
    have HSS:Hid (∀ l∈all.filter (wF kind at'),l.length≤1000):=fun l hl=>HK.out l (HP.out.mem_iff.1 (List.mem_filter.1 hl).1)
    have HLn:Hid ((all.filter (wF kind at')).length≤1000000):=Nat.le_trans (List.length_filter_le _ _) (by omega)
    clear hrg hC hc0 hl0 hcs
    obtain ⟨ss,hss⟩:∃ ss,all.filter (wF kind at')=ss:=⟨_,rfl⟩
    rw [hss] at HR HPF HSS HLn
    clear hss
    rcases HR.out.2 with ⟨hv,hl⟩ | ⟨g,cap,cur,hv,hbase,hb,h1,h2,h3,h4⟩
    · have hs0:ss=[]:=List.eq_nil_of_length_eq_zero hl
      subst hs0
      subst hv
      go_wp2_with fail
      refine (hN _).mono ?_
      rintro e w5 ⟨rfl,hb5⟩
      have HB5:Hid (Below w.heap.size w w5):=trans2 HB.out hb5
      clear hb5
      go_wp2_with fail
      go_ret
      exact ⟨none,0,[],rfl,HPF.out,List.Pairwise.nil,World.ownsRow_nil _ _ _ _,HB5.out⟩
    · subst hv
      have HCON:Hid _:=hS w.heap.size g cap ss wr HR.out HSS.out HLn.out
      have HBa:Hid (w.heap.size≤g):=hbase
      clear hb h1 h2 h3 h4 hbase
      go_wp2_with fail
      refine Calls.mono HCON.out ?_
      rintro e w5 ⟨rfl,ts,hp5,hs5,ho5,hg5⟩
      have HB5:Hid (Below w.heap.size w w5):=HB.out.grown hg5 HB.out.size (fun j hj=>by cases hj;exact HBa.out)
      have HO5:Hid _:=ho5
      have HP5:Hid _:=hp5
      have HS5:Hid _:=hs5
      clear hp5 hs5 ho5 hg5
      go_wp2_with fail
      go_ret
      exact ⟨_,cap,ts,by rw [HP5.out.length_eq];rfl,HP5.out.trans HPF.out,HS5.out,HO5.out,HB5.out⟩
  · intro x c kl yd yp w2 cnt2 hkey hlk hv hat hrg2 hlt hg2 hs2 hen
    obtain ⟨x',ex,rfl,_⟩:=Maps.keyOf_str Tryz.underlying9 hkey
    obtain rfl:x=x':=encStr_inj ex
    have HR2:Hid (w2.ownsRow w.heap.size 9 1 u7 (all.filter (wF kind at')).length ((all.filter (wF kind at')).map encStr)):=HR.out.kept hg2 (Or.inr (row_ne_iter HR.out hrg).symm)
    have HB2:Hid (Below w.heap.size w w2):=HB.out.grown hg2 HB.out.size (fun j hj=>by cases hj;exact Nat.le_refl _)
    have HCV:Hid _:=covers_any kind 1 at' ⟨x.toArray⟩ w2 (HG.out.below HB2.out)
    clear hs2
    obtain ⟨f,hf⟩:∃ f,wF kind at' x=f:=⟨_,rfl⟩
    have hf':covers kind at' 1 ⟨x.toArray⟩=f:=hf
    rw [hf'] at HCV
    cases f with
    | false =>
      have HF:Hid ((all ++ [x]).filter (wF kind at')=all.filter (wF kind at')):=by show _=_;rw [List.filter_append];simp [hf]
      go_wp2_with fail
      refine Calls.mono HCV.out ?_
      rintro e w3 ⟨rfl,hb3⟩
      have hrg3:=hrg2.kept (grown_of_below hb3 none) (by simp) (by simp)
      have HR3:Hid (w3.ownsRow w.heap.size 9 1 u7 (all.filter (wF kind at')).length ((all.filter (wF kind at')).map encStr)):=World.ownsRow.kept HR2.out (grown_of_below hb3 none) (by cases u7.ownBlock <;> simp)
      have HB3:Hid (Below w.heap.size w w3):=trans2 HB2.out hb3
      clear hb3
      go_wp2_with fail
      go_roundw
      case rel=>exact ⟨_,cnt2,all ++ [x],hrg3,by simp;omega,by show World.ownsRow _ _ _ _ _ _ _;rw [HF.out];exact HR3.out,hC.step hlk hat,HB3⟩
      case measure=>rw [hrg3.left_eq,hrg.left_eq];exact hlt
    | true =>
      have HF:Hid ((all ++ [x]).filter (wF kind at')=all.filter (wF kind at') ++ [x]):=by show _=_;rw [List.filter_append];simp [hf]
      have HFL:Hid ((all.filter (wF kind at')).length≤1000000):=Nat.le_trans (List.length_filter_le _ _) (by omega)
      go_wp2_with fail
      refine Calls.mono HCV.out ?_
      rintro e w3 ⟨rfl,hb3⟩
      have hrg3:=hrg2.kept (grown_of_below hb3 none) (by simp) (by simp)
      have HR3:Hid (w3.ownsRow w.heap.size 9 1 u7 (all.filter (wF kind at')).length ((all.filter (wF kind at')).map encStr)):=World.ownsRow.kept HR2.out (grown_of_below hb3 none) (by cases u7.ownBlock <;> simp)
      have HB3:Hid (Below w.heap.size w w3):=trans2 HB2.out hb3
      clear hb3
      go_wp2_with (first
       | (at_builtin;refine wpList_append_own _ rfl _ _ 70 rfl w.heap.size 9 i0 (.string ⟨#[]⟩) 1 16 Tryz.underlying70 hi hz0 hz1 hz2 rfl (by decide) _ _ _ rfl (World.ownsRow.alloc HR3.out _) ⟨w3.heap.size,0,none⟩ 1 1 [encStr x] rfl rfl (cell_one_new _ _ _) (by simp [Value.oneCell',encStr]) (by have:=HFL.out;unfold maxLen;omega) (by have:=HFL.out;omega) (by have:=HB3.out.size;simp;omega) ?_;intro v' w4 hown4 hg4 hnil4;go_frame)
       | fail)
      have hrg4:=(hrg3.alloc _).kept hg4 (row_ne_low HR3.out hbl) (row_ne_iter HR3.out hrg3)
      go_roundw
      case rel =>
       refine ⟨_,cnt2,all ++ [x],hrg4,by simp;omega,?_,hC.step hlk hat,?_⟩
       · show World.ownsRow _ _ _ _ _ _ _
         rw [HF.out]
         simpa using hown4
       · exact (HB3.out.alloc HB3.out.size _).grown hg4 (by have:=HB3.out.size;simp;omega) (fun j hj=>(HR3.out.lt j hj).1)
      case measure=>rw [hrg4.left_eq,hrg.left_eq];exact hlt
end Go.Proofs.YtckmihplkhmpnaaGreatDoor
namespace Go.Proofs.YtckmihplkhmpnaaGreatDoor
open Go.RowKit Go.Maps
set_option linter.unusedVariables false
set_option linter.unusedSimpArgs false
set_option maxHeartbeats 4000000 in
set_option maxRecDepth 100000 in
theorem sorts_nil:SortsNil:=by
 intro w
 go_enter Tryz.func67,Tryz.ntmps67
 go_wp2_with (first | go_in | fail)
 refine wp_loop_rounds 1 ?_
 rw [rounds_succ]
 go_wp2_with (first | go_in | fail)
 refine wp_loop_rounds 1 ?_
 rw [rounds_succ]
 go_wp2_with (first | go_in | fail)
 go_end0
 simp only []
 go_wp2_with (first | go_in | fail)
 refine bodyPost_ret (results_none rfl _ _ _) rfl ?_
 simp only []
 go_wp2_with (first | go_in | fail)
 go_end0
 exact ⟨rfl,Below.refl _ _⟩
end Go.Proofs.YtckmihplkhmpnaaGreatDoor
