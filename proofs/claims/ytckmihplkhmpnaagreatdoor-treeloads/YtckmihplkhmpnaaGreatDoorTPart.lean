import Derived.Test.YtckmihplkhmpnaaGreatDoorTLook
import Derived.Test.YtckmihplkhmpnaaGreatDoorTSortN
import Derived.Test.YtckmihplkhmpnaaGreatDoorTSeen
import Derived.Deep.AppendLies
namespace Go.Proofs.YtckmihplkhmpnaaGreatDoor
open Go.RowKit Go.Maps
set_option linter.unusedVariables false
set_option linter.unusedSimpArgs false
theorem Tryz.infoSe:(Tryz.prog.info? 117).map (fun i=>(i.zero,i.size,i.bytes))=some (some (.agg #[.string ⟨#[]⟩,.string ⟨#[]⟩,.int .i64 0]),3,40):=by kernel_rfl
def sd (q:Int) (d:ByteArray):ByteArray:=if q=2 then ⟨#[]⟩ else d
def sv (q:Int) (v:Int):Int:=if q=2 then 0 else v
def seenOf (q:Int) (x:Value):List Value:=match cellsOf x with
 | p :: d :: v :: _=>[p,if q=2 then .string ⟨#[]⟩ else d,if q=2 then .int .i64 0 else v]
 | _=>[]
def seenCs (q:Int) (D:DataW Value) (ts:List (List UInt8)):List Value:=(ts.map fun l=>seenOf q (look D ⟨l.toArray⟩)).flatten
theorem seenCs_snoc (q:Int) (D:DataW Value) (ts:List (List UInt8)) (l:List UInt8) {p d:ByteArray} {v m c o k:Int} (h:look D ⟨l.toArray⟩=fuV p d v m c o k):seenCs q D (ts ++ [l])=seenCs q D ts ++ [.string p,.string (sd q d),.int .i64 (sv q v)]:=by
 by_cases hq:q=2 <;> simp [seenCs,h,seenOf,fuV,cellsOf,sd,sv,hq]
theorem fullSeen_sd (p d:ByteArray) (v m c o k q:Int) (hp:p.size≤281474976710656) (hd:d.size≤281474976710656) (w:World) :
  Calls Tryz.prog 54 #[fuV p d v m c o k,.int .i64 q] w fun e w'=>e=.returned (.agg #[.string p,.string (sd q d),.int .i64 (sv q v)])∧Below w.heap.size w w':=fullSeen_any p d v m c o k q hp hd w
set_option maxHeartbeats 16000000 in
set_option maxRecDepth 100000 in
theorem part_any (hS:SortsTo) (hN:SortsNil) (base tb mb n:Nat) (D:DataW Value) (kind:Int) (at':ByteArray) (w:World) (hg:Ground w) (hT:TreeAt w base tb mb n D) (hn:Maps.size D≤1000) (hwf:WF D) (hp:isP at'=true) (hk:kind=1∨kind=2∨kind=3) :
  Calls Tryz.prog 30 #[.pointer (some ⟨tb,0,none⟩),.string at',.int .i64 kind] w fun e w'=>∃ (a:Option Addr) (cap:Nat) (ts:List (List UInt8)),e=.returned (.tuple #[.slice a ts.length cap,.int .i64 0])∧ts.Perm ((strKeys D).filter (wF kind at'))∧ts.Pairwise (fun x y=>ordL x y≠1)∧w'.ownsRow w.heap.size 117 3 (.slice a ts.length cap) ts.length (seenCs kind D ts)∧Below w.heap.size w w':=by
 obtain ⟨i0,hi0,hz0,hz1,hz2⟩:=info_parts Tryz.infoSe
 have HT:Hid _:=hT
 have HW:Hid _:=hwf
 have HNO:Hid _:=isNone_at tb (some mb) w (cells_1 hT.box)
 have HPA:Hid (Calls Tryz.prog 52 #[.string at'] w fun e w'=>∃ (a:Option Addr) (l c:Nat),e=.returned (.tuple #[.slice a l c,.int .i64 0])∧Below w.heap.size w w'):=by
  refine Calls.mono (parse_any at' w hg) ?_
  rintro e w' ⟨a,c,h1,h2,h3⟩
  have h0:(parse at').1=0:=by simpa [isP] using hp
  rw [h0] at h1
  exact ⟨a,_,c,h1,h3⟩
 have HWA:Hid (∀ w':World,Below w.heap.size w w'→_):=fun w' hb=>watched_any hS hN mb n D kind at' w' (hg.below hb) (hT.below hb).map (fun l hl=>(hwf l hl).1) (by omega)
 have HSZ:Hid ((strKeys D).length≤1000):=by rw [size_of];exact hn
 have htl:tb<w.heap.size:=(Array.getElem?_eq_some_iff.1 hT.box).1
 have HFS:Hid _:=fun p d v m c o k=>fullSeen_sd p d v m c o k kind
 obtain ⟨C,hC⟩:∃ C,C=seenCs kind D:=⟨_,rfl⟩
 have HSN:Hid (∀ ts l p d v m c o k,look D ⟨l.toArray⟩=fuV p d v m c o k→C (ts ++ [l])=C ts ++ [.string p,.string (sd kind d),.int .i64 (sv kind v)]):=fun ts l p d v m c o k h=>by rw [hC];exact seenCs_snoc kind D ts l h
 have HC0:Hid (C []=[]):=by rw [hC];rfl
 rw [← hC]
 obtain ⟨SD,hSD⟩:∃ SD,SD=sd kind:=⟨_,rfl⟩
 obtain ⟨SV,hSV⟩:∃ SV,SV=sv kind:=⟨_,rfl⟩
 obtain ⟨FF,hFF⟩:∃ FF,FF=wF kind at':=⟨_,rfl⟩
 rw [← hSD,← hSV] at HFS HSN
 rw [← hFF] at HWA ⊢
 clear hC hSD hSV hFF hT hwf hn hg hp
 rcases hk with rfl | rfl | rfl
 all_goals
  go_enter Tryz.func30,Tryz.ntmps30
  go_wp2_with (first
   | (go_at_call 19;refine Calls.mono HNO.out ?_;rintro e w0 ⟨rfl,rfl⟩)
   | fail)
  refine Calls.mono HPA.out ?_
  rintro e wa ⟨aa,la,ca,rfl,hba⟩
  have HBA:Hid (Below w0.heap.size w0 wa):=hba
  have hcba:wa.cell? ⟨tb,0,none⟩=some (.map (some mb)):=cells_1 (HT.out.below hba).box
  have HWB:Hid _:=HWA.out wa hba
  clear hba
  go_wp2_with (first
   | (go_at_call 53;refine Calls.mono HWB.out ?_;rintro e w1 ⟨a1,c1,ts,rfl,hp1,hs1,hr1,hb1⟩
      have HP:Hid _:=hp1
      have HA:Hid _:=hs1
      have HR:Hid _:=hr1
      have HB:Hid (Below w0.heap.size w0 w1):=trans2 HBA.out hb1
      have HBb:Hid (wa.heap.size≤w1.heap.size):=hb1.size
      clear hp1 hs1 hr1 hb1 hcba)
   | fail)
  have htl1:tb<w1.heap.size:=Nat.lt_of_lt_of_le htl HB.out.size
  have HT1:Hid _:=HT.out.below HB.out
  have hlen:ts.length≤1000:=by rw [HP.out.length_eq];exact Nat.le_trans (List.length_filter_le _ _) HSZ.out
  go_loopw [10,40] (fun a i wr=>∃ q:Nat,i=.int .i64 q∧q≤ts.length∧Hid (wr.ownsRow w1.heap.size 117 3 a q (C (ts.take q)))∧Hid (Below w1.heap.size w1 wr)) (fun _ i _=>ts.length - (intOf i).toNat)
  case atStart=>exact ⟨0,rfl,Nat.zero_le _,(by show World.ownsRow _ _ _ _ _ _ _;rw [List.take_zero,HC0.out];exact World.ownsRow_nil _ _ _ _),Below.refl _ _⟩
  case round =>
   obtain ⟨q,rfl,hq,HO,HBk⟩:=hrel
   by_cases hlt:q<ts.length
   · obtain ⟨l,hl⟩:∃ l,ts[q]? = some l:=⟨ts[q],List.getElem?_eq_getElem hlt⟩
     obtain ⟨hll,p,d,v,m,c,o,k,hlk,hps,hds⟩:=HW.out l (List.mem_filter.1 (HP.out.mem_iff.1 (List.mem_of_getElem? hl))).1
     rcases HR.out.2 with ⟨hv,h0⟩ | ⟨g,cap,cur,hv,hbase,hb',h1,h2,h3,h4⟩
     · omega
     obtain ⟨rfl,rfl⟩:a1=some ⟨g,0,none⟩∧c1=cap:=by
      simp only [Value.slice.injEq] at hv
      exact ⟨hv.1,hv.2.2⟩
     have hgl:g<w1.heap.size:=(Array.getElem?_eq_some_iff.1 hb').1
     clear hv hbase hb' h1 h2 h3 h4
     have hcq:wr.cell? ⟨g,q,none⟩=some (.string ⟨l.toArray⟩):=by
      rw [HBk.out.cell (p:=⟨g,q,none⟩) hgl,World.ownsRow.cellAt HR.out q (by omega),List.getElem?_map,hl]
      rfl
     have hcb:wr.cell? ⟨tb,0,none⟩=some (.map (some mb)):=cells_1 (HT1.out.below HBk.out).box
     have HMk:Hid _:=(HT1.out.below HBk.out).map
     have hkey:keyOf Tryz.prog 9 (.string ⟨l.toArray⟩)=some (ky ⟨l.toArray⟩):=WideMaps.keyOf_string_mk Tryz.underlying9 (by show l.toArray.size≤maxLen;unfold maxLen;simp;omega)
     have HLK:Hid _:=hlk
     have HCP:Hid _:=HFS.out p d v m c o k (by omega) (by omega)
     have htk:ts.take (q+1)=ts.take q ++ [l]:=by rw [List.take_add_one,hl];rfl
     have HTK:Hid (C (ts.take (q+1))=C (ts.take q) ++ [.string p,.string (SD d),.int .i64 (SV v)]):=by show _=_;rw [htk];exact HSN.out _ l p d v m c o k hlk
     have hlt':(q:Int)<(ts.length:Int):=by omega
     clear hl hlk htk hll
     go_wp2_with (first
      | (at_lookup;refine wpList_lookup_raw _ rfl _ _ 52 rfl 9 27 keyed Tryz.underlying52 (zeroF _) mb n D rfl HMk.out _ _ rfl hkey ?_;intro u ps hu;obtain rfl:=look_of hu;rw [HLK.out];clear hu)
      | (go_at_call 54;refine (HCP.out _).mono ?_;rintro e w3 ⟨rfl,hb3⟩
         have HB3:Hid (Below w1.heap.size w1 w3):=trans2 HBk.out hb3
         have HO3:Hid (w3.ownsRow w1.heap.size 117 3 u10 q (C (ts.take q))):=owns_chg HO.out (Chg.of_below hb3 (fun _=>False)) (fun _ _=>id)
         have hs3:=HB3.out.size
         clear hb3)
      | (at_builtin;refine wpList_append_lies _ rfl _ _ _ rfl w1.heap.size 117 i0 _ 3 40 Tryz.underlying82 hi0 hz0 hz1 hz2 rfl (by omega) u10 q (C (ts.take q)) rfl (World.ownsRow.alloc HO3.out _) ⟨w3.heap.size,0,none⟩ 1 1 [.string p,.string (SD d),.int .i64 (SV v)] rfl rfl (World.news_of_block (cs:=#[.string p,.string (SD d),.int .i64 (SV v)]) (t:=117) (fr:=(0,0)) (heap_alloc_new w3 _)) (by simp [Value.oneCell']) (by omega) (by unfold maxLen;omega) (by omega) (by simp;omega) (w3.heap.size+1) (by simp) ?_
         intro g4 cap4 w4 hown4 hgrow4 hat4 hlt4
         have HN4:Hid (w4.ownsRow w1.heap.size 117 3 (.slice (some ⟨g4,0,none⟩) (q+1) cap4) (q+1) (C (ts.take (q+1)))):=by show World.ownsRow _ _ _ _ _ _ _;rw [HTK.out];exact hown4
         have HB4:Hid (Below w1.heap.size w1 w4):=HB3.out.trans (((Below.refl _ _).alloc (by omega) _).grown hgrow4 (by simp;omega) (fun j hj=>(HO3.out.lt j hj).1))
         clear hown4 hgrow4 hat4 hlt4)
      | fail)
     go_roundw
     case rel=>exact ⟨q+1,by go_num,by omega,HN4.out,HB4.out⟩
     case measure=>simp [intOf];omega
   · obtain rfl:q=ts.length:=by omega
     go_wp2
     go_ret2
     have hO:=HO.out
     rw [List.take_of_length_le (Nat.le_refl _)] at hO
     rcases hO.2 with ⟨hv,h0⟩ | ⟨g5,cap5,cur5,hv,hbs,r5⟩
     · subst hv
       refine ⟨none,0,ts,(by rw [h0];rfl),HP.out,HA.out,?_,trans2 HB.out HBk.out⟩
       have:=List.eq_nil_of_length_eq_zero h0
       subst this
       show World.ownsRow _ _ _ _ _ _ _
       rw [HC0.out]
       exact World.ownsRow_nil _ _ _ _
     · subst hv
       exact ⟨some ⟨g5,0,none⟩,cap5,ts,rfl,HP.out,HA.out,⟨hO.1,.inr ⟨g5,cap5,cur5,rfl,Nat.le_trans HB.out.size hbs,r5⟩⟩,trans2 HB.out HBk.out⟩
end Go.Proofs.YtckmihplkhmpnaaGreatDoor
