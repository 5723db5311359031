import Derived.Test.YtckmihplkhmpnaaGreatDoorTMakeB
import Derived.Test.YtckmihplkhmpnaaGreatDoorTDig
namespace Go.Proofs.YtckmihplkhmpnaaGreatDoor
open Go.RowKit Go.Maps
set_option linter.unusedVariables false
set_option linter.unusedSimpArgs false
attribute [local go_sem ↓] Go.wp_at_zero Go.wp_at_succ
set_option maxHeartbeats 16000000 in
set_option maxRecDepth 100000 in
theorem make_ok (base rb mb n:Nat) (D:DataW Value) (s st:Int) (chV:Value) (cn:Nat) (cs:List Value) (p d a:ByteArray) (v f:Int) (pp pd:ByteArray) (pv pm pc pk pk' o:Int) (w:World) (hg:GroundT w)
  (hR:ReqAt w base rb mb n D s st chV cn cs) (hpl:look D (parB p)=fuV pp pd pv pm pc 0 pk) (hph:Maps.has D (ky (parB p))=true) (hf:0≤f∧f≤3) (hcnt:(f<2∧a=p∧pk'=pk)∨(2≤f∧pk≤99999∧-1000≤pk∧pk'=pk+1∧∀ W,Below w.heap.size w W→Calls Tryz.prog 88 #[.string p,.int .i64 pk] W fun e w'=>e=.returned (.tuple #[.string a,.int .i64 0])∧Below W.heap.size W w')) (hbo:(f % 2=0∧o=0)∨(f % 2=1∧o=s)) (zp zd:ByteArray) (zv zm zc zo zk:Int) (hnl:look D a=fuV zp zd zv zm zc zo zk) (hnh:Maps.has D (ky a)=false) (hfull:Maps.size D<64) (h1:p.size≤1000) (h2:d.size≤1000) (h3:pp.size≤1000) (h4:pd.size≤1000) (h5:(parB p).size≤1000) (hn:n≤10000) (hcn:cn≤1000) (h6:a.size≤1000) :
  Calls Tryz.prog 62 #[.pointer (some ⟨rb,0,none⟩),opV 1 p d v f] w fun e w'=>e=.returned (.tuple #[.agg #[.string a,.string ⟨#[]⟩,.int .i64 0,.int .i64 st,.int .i64 st,.int .i64 o,.slice none 0 0],.int .i64 0]) ∧
   ∃ chV',ReqAt w' base rb mb (n+1+1) ((D.put (ky pp) (.held (fuV pp pd pv pm pc 0 pk'))).put (ky a) (.held (fuV a d 0 st st o 0))) s st chV' (cn+1) (cs ++ [.int .i64 1,.string a,.string d,.int .i64 0])∧(chV'.ownBlock=chV.ownBlock∨∃ g,chV'.ownBlock=some g∧w.heap.size≤g)∧Chg w w' (fun k=>k=rb∨k=mb∨chV.ownBlock=some k):=by
 have HIB:Hid (∀ W,Calls Tryz.prog 39 #[fuV pp pd pv pm pc 0 pk] W fun e w'=>e=.returned (.bool false)∧Below W.heap.size W w'):=fun W=>fIsBrief_any pp pd pv pm pc 0 pk W
 have HF:Hid _:=hf
 have HCNT:Hid _:=hcnt
 have HNL:Hid _:=hnl
 have HNH:Hid _:=hnh
 clear hf hcnt hnl hnh
 have HBO:Hid _:=hbo
 have HSL:Hid (((Maps.size D:Nat):Int)<64):=by show _<_;omega
 have HBR:Hid (∀ W,GroundT W→Calls Tryz.prog 87 #[opV 1 p d v f] W fun e w'=>e=.returned (.bool (decide (f % 2=1)))∧Below W.heap.size W w'):=fun W h=>by
  refine (isBriefOp_any (k:=1) (by decide) (by decide) p d v f (fun _=>HF.out) W h).mono ?_
  rintro e w' ⟨rfl,hb⟩
  exact ⟨by simp,hb⟩
 clear hfull hbo
 obtain ⟨i0,hi0,hz0,hz1,hz2⟩:=info_parts Tryz.infoC
 have HR:Hid _:=hR
 have HG:Hid _:=hg
 have hrl:=hR.lt.1
 have hml:=hR.lt.2
 have HBA:Hid _:=hR.base_le
 have HPL:Hid _:=hpl
 have HPH:Hid _:=hph
 have HPA:Hid (∀ W,GroundT W→MapAt W mb n D→Calls Tryz.prog 40 #[.map (some mb),.string p] W fun e w'=>e=.returned (.tuple #[fuV pp pd pv pm pc 0 pk,.bool true])∧Below W.heap.size W w'):=fun W hW hM=>parent_map mb n D p pp pd pv pm pc 0 pk true W hW hM (by unfold maxLen;omega) hpl hph
 obtain ⟨r0,r1,r2,r3⟩:=cells_4 hR.box
 clear hR hg hpl hph
 go_enter Tryz.func62,Tryz.ntmps62
 go_wp2
 have HW0:Hid (Below w.heap.size w ((w.alloc (.cells #[.int .i64 1,.string p,.string d,.int .i64 v,.int .i64 f] 66)).alloc (.cells #[.string ⟨#[]⟩,.string ⟨#[]⟩,.int .i64 0,.int .i64 0,.int .i64 0,.int .i64 0,.slice none 0 0] 103))):=((Below.refl _ _).alloc (Nat.le_refl _) _).alloc (by simp) _
 have HW1:Hid (Below w.heap.size w (((w.alloc (.cells #[.int .i64 1,.string p,.string d,.int .i64 v,.int .i64 f] 66)).alloc (.cells #[.string ⟨#[]⟩,.string ⟨#[]⟩,.int .i64 0,.int .i64 0,.int .i64 0,.int .i64 0,.slice none 0 0] 103)).alloc (.cells #[.string ⟨#[]⟩,.string ⟨#[]⟩,.int .i64 0,.int .i64 0,.int .i64 0,.int .i64 0,.int .i64 0] 27))):=HW0.out.alloc (by simp;omega) _
 have HO0:Hid ((((w.alloc (.cells #[.int .i64 1,.string p,.string d,.int .i64 v,.int .i64 f] 66)).alloc (.cells #[.string ⟨#[]⟩,.string ⟨#[]⟩,.int .i64 0,.int .i64 0,.int .i64 0,.int .i64 0,.slice none 0 0] 103)).alloc (.cells #[.string ⟨#[]⟩,.string ⟨#[]⟩,.int .i64 0,.int .i64 0,.int .i64 0,.int .i64 0,.int .i64 0] 27)).drew.heap[w.heap.size]? = some (.cells #[.int .i64 1,.string p,.string d,.int .i64 v,.int .i64 f] 66 (0,0))):=new_old (heap_alloc2_old _ _ _) _
 have HK2:Hid ((((w.alloc (.cells #[.int .i64 1,.string p,.string d,.int .i64 v,.int .i64 f] 66)).alloc (.cells #[.string ⟨#[]⟩,.string ⟨#[]⟩,.int .i64 0,.int .i64 0,.int .i64 0,.int .i64 0,.slice none 0 0] 103)).alloc (.cells #[.string ⟨#[]⟩,.string ⟨#[]⟩,.int .i64 0,.int .i64 0,.int .i64 0,.int .i64 0,.int .i64 0] 27)).drew.cell? ⟨rb,2,none⟩=some (.map (some mb))):=(cells_4 (HR.out.below (below_drew HW1.out)).box).2.2.1
 have HK1:Hid ((((w.alloc (.cells #[.int .i64 1,.string p,.string d,.int .i64 v,.int .i64 f] 66)).alloc (.cells #[.string ⟨#[]⟩,.string ⟨#[]⟩,.int .i64 0,.int .i64 0,.int .i64 0,.int .i64 0,.slice none 0 0] 103)).alloc (.cells #[.string ⟨#[]⟩,.string ⟨#[]⟩,.int .i64 0,.int .i64 0,.int .i64 0,.int .i64 0,.int .i64 0] 27)).drew.cell? ⟨w.heap.size,1,none⟩=some (.string p)):=(cells_5 HO0.out).2.1
 have q1:rb≠w.heap.size:=by omega
 have q2:rb≠w.heap.size+1:=by omega
 have q6:w.heap.size≠w.heap.size+1+1:=by omega
 have q3:rb≠w.heap.size+1+1:=by omega
 go_cut [6,7] from 12 (fun s6 s7 wc=>∃ pb,s6=.pointer (some ⟨pb,0,none⟩)∧s7=.bool true∧w.heap.size+1<pb∧Hid (Below w.heap.size w wc)∧Hid (wc.heap[w.heap.size]? = some (.cells #[.int .i64 1,.string p,.string d,.int .i64 v,.int .i64 f] 66 (0,0)))∧Hid (wc.heap[w.heap.size+1]? = some (.cells #[.string ⟨#[]⟩,.string ⟨#[]⟩,.int .i64 0,.int .i64 0,.int .i64 0,.int .i64 0,.slice none 0 0] 103 (0,0)))∧Hid (wc.heap[pb]? = some (.cells #[.string pp,.string pd,.int .i64 pv,.int .i64 pm,.int .i64 pc,.int .i64 0,.int .i64 pk] 27 (0,0))))
 case first =>
  go_region_held3 (fun w'=>w'.cell? ⟨rb,2,none⟩=some (.map (some mb))∧w'.cell? ⟨w.heap.size,1,none⟩=some (.string p)) (first | (rw [HK2.out,HK1.out];exact ⟨rfl,rfl⟩) | (simp only [cellN q3,cellN q6,r2,o1,and_self]) | go_keep)
   (first
     | (go_at_call 40;go_fit (HPA.out _ (HG.out.below (below_drew HW0.out)) (map_below HR.out.map (below_drew HW0.out)));rintro e w1 ⟨rfl,hb1⟩
        have hb1':=of_drew hb1
        have HB1:Hid (Below w.heap.size w w1):=trans2 HW0.out hb1'
        have HO1:Hid (w1.heap[w.heap.size]? = some (.cells #[.int .i64 1,.string p,.string d,.int .i64 v,.int .i64 f] 66 (0,0))):=kept_block hb1' (heap_alloc2_old _ _ _)
        have HZ1:Hid (w1.heap[w.heap.size+1]? = some (.cells #[.string ⟨#[]⟩,.string ⟨#[]⟩,.int .i64 0,.int .i64 0,.int .i64 0,.int .i64 0,.slice none 0 0] 103 (0,0))):=kept_block hb1' (heap_alloc2_new _ _ _)
        have hz1:w.heap.size+1<w1.heap.size:=(Array.getElem?_eq_some_iff.1 HZ1.out).1
        have q4:rb≠w1.heap.size:=by omega
        have q5:w.heap.size≠w1.heap.size:=by omega
        clear hb1 hb1' r0 r1 r2 r3
        obtain ⟨o0,o1,o2,o3,o4⟩:=cells_5 HO1.out
        obtain ⟨r0,r1,r2,r3⟩:=cells_4 (HR.out.below HB1.out).box)
     | (go_at_call 40;go_fit (HPA.out _ (HG.out.below (below_drew HW1.out)) (map_below HR.out.map (below_drew HW1.out)));rintro e w1 ⟨rfl,hb1⟩
        have hb1':=of_drew hb1
        have HB1:Hid (Below w.heap.size w w1):=trans2 HW1.out hb1'
        have HO1:Hid (w1.heap[w.heap.size]? = some (.cells #[.int .i64 1,.string p,.string d,.int .i64 v,.int .i64 f] 66 (0,0))):=kept_block hb1' (new_old (heap_alloc2_old _ _ _) _)
        have HZ1:Hid (w1.heap[w.heap.size+1]? = some (.cells #[.string ⟨#[]⟩,.string ⟨#[]⟩,.int .i64 0,.int .i64 0,.int .i64 0,.int .i64 0,.slice none 0 0] 103 (0,0))):=kept_block hb1' (new_old (heap_alloc2_new _ _ _) _)
        have HV1:Hid (w1.heap[w.heap.size+1+1]? = some (.cells #[.string ⟨#[]⟩,.string ⟨#[]⟩,.int .i64 0,.int .i64 0,.int .i64 0,.int .i64 0,.int .i64 0] 27 (0,0))):=kept_block hb1' (alloc3_new _ _ _ _)
        clear hb1 hb1' r0 r1 r2 r3
        obtain ⟨o0,o1,o2,o3,o4⟩:=cells_5 HO1.out
        obtain ⟨v0,v1,v2,v3,v4,v5,v6⟩:=cells_7 HV1.out
        have hv:=free_7 HV1.out
        clear o0 o2 o3 o4
        have r2:=(cells_4 (HR.out.below HB1.out).box).2.2.1
        clear q1 q2 h1 h2 h3 h4 h5 h6 hn hcn hi0 hz0 hz1 hz2 hml))
  · go_wp2_with fail
    go_meet
    case rel=>exact ⟨_,rfl,rfl,hz1,HB1.out.alloc (by have:=HB1.out.size;omega) _,new_old HO1.out _,new_old HZ1.out _,heap_alloc_new _ _⟩
  · go_wp2_with fail
    go_meet
    case rel=>exact ⟨_,rfl,rfl,by omega,fillB_7 HB1.out (by omega),fillO_7 HO1.out (by omega),fillO_7 HZ1.out (by omega),fill_7 HV1.out⟩
 case rest =>
  obtain ⟨pb,rfl,rfl,hpb,HB,HO,HZ,HP⟩:=hcut
  clear HW0 HW1 HO0 HK1 HK2 HPA q1 q2 q3 q6 r0 r1 r2 r3
  have HRc:Hid _:=HR.out.below HB.out
  have HGc:Hid _:=HG.out.below HB.out
  obtain ⟨a0,a1,a2,a3,a4,a5,a6⟩:=cells_7 HP.out
  go_wp2_with fail
  refine (HIB.out _).mono ?_
  rintro e w2 ⟨rfl,hb2⟩
  have HB2:Hid _:=trans2 HB.out hb2
  have HR2:Hid _:=HRc.out.below hb2
  have HG2:Hid _:=HGc.out.below hb2
  have HO2:Hid _:=kept_block hb2 HO.out
  have HZ2:Hid _:=kept_block hb2 HZ.out
  have HP2:Hid _:=kept_block hb2 HP.out
  clear hb2 a0 a1 a2 a3 a4 a5 a6
  obtain ⟨o0,o1,o2,o3,o4⟩:=cells_5 HO2.out
  have HCO:Hid (∀ W,GroundT W→Calls Tryz.prog 86 #[opV 1 p d v f] W fun e w'=>e=.returned (.bool (decide (2≤f)))∧Below W.heap.size W w'):=fun W h=>by
   refine (isCounted_any (k:=1) (by decide) (by decide) p d v f (fun _=>HF.out) W h).mono ?_
   rintro e w' ⟨rfl,hb⟩
   exact ⟨by simp,hb⟩
  go_upto_if 31 with (first
   | (go_at_call 86;refine (HCO.out _ HG2.out).mono ?_;rintro e w3 ⟨rfl,hb3⟩
      have HB3:Hid _:=trans2 HB2.out hb3
      have HO3:Hid _:=kept_block hb3 HO2.out
      have HZ3:Hid _:=kept_block hb3 HZ2.out
      have HP3:Hid _:=kept_block hb3 HP2.out
      clear hb3 o0 o1 o2 o3 o4)
   | fail)
  clear HB2 HR2 HG2 HO2 HZ2 HP2
  go_cut [8] from 12 (fun s8 wc=>s8=.string a∧Hid (Below w.heap.size w wc)∧Hid (wc.heap[w.heap.size]? = some (.cells #[.int .i64 1,.string p,.string d,.int .i64 v,.int .i64 f] 66 (0,0)))∧Hid (wc.heap[w.heap.size+1]? = some (.cells #[.string ⟨#[]⟩,.string ⟨#[]⟩,.int .i64 0,.int .i64 0,.int .i64 0,.int .i64 0,.slice none 0 0] 103 (0,0)))∧Hid (wc.heap[pb]? = some (.cells #[.string pp,.string pd,.int .i64 pv,.int .i64 pm,.int .i64 pc,.int .i64 0,.int .i64 pk'] 27 (0,0))))
  case first =>
   rcases HCNT.out with ⟨hlt2,rfl,rfl⟩ | ⟨h2f,hpk,hpk0,rfl,hcall⟩
   · have hd2:decide (2≤f)=false:=decide_eq_false (by omega)
     rw [hd2]
     clear hlt2 hd2
     go_wp2_with fail
     go_meet
     case rel=>exact ⟨rfl,HB3.out,HO3.out,HZ3.out,HP3.out⟩
   · have hd2:decide (2≤f)=true:=decide_eq_true h2f
     rw [hd2]
     have HCC:Hid _:=hcall
     have hpk9:¬ (99999:Int)<pk:=by omega
     have hpw:IntKind.i64.wrap (pk+1)=pk+1:=by rw [IntKind.wrap_i64];omega
     clear h2f hcall hd2
     obtain ⟨o0,o1,o2,o3,o4⟩:=cells_5 HO3.out
     obtain ⟨a0,a1,a2,a3,a4,a5,a6⟩:=cells_7 HP3.out
     go_wp2_with fail
     refine (HCC.out _ HB3.out).mono ?_
     rintro e w4 ⟨rfl,hb4⟩
     have HB4:Hid _:=trans2 HB3.out hb4
     have HO4:Hid _:=kept_block hb4 HO3.out
     have HZ4:Hid _:=kept_block hb4 HZ3.out
     have HP4:Hid _:=kept_block hb4 HP3.out
     clear hb4 o0 o1 o2 o3 o4 a0 a1 a2 a3 a4 a5 a6
     obtain ⟨a0,a1,a2,a3,a4,a5,a6⟩:=cells_7 HP4.out
     have hfp:=free_7 HP4.out
     go_wp2_with fail
     go_meet
     case rel=>exact ⟨rfl,HB4.out.setCell (by show w.heap.size≤pb;omega) _,other_blk HO4.out (by omega),other_blk HZ4.out (by omega),same_blk HP4.out rfl⟩
  case rest =>
   clear HB3 HO3 HZ3 HP3
   obtain ⟨rfl,HB3,HO3,HZ3,HP3⟩:=hcut
   clear HCNT
   have HR3:Hid _:=HR.out.below HB3.out
   have HG3:Hid _:=HG.out.below HB3.out
   have hkey:keyOf Tryz.prog 9 (.string a)=some (ky a):=WideMaps.keyOf_string_mk Tryz.underlying9 (by unfold maxLen;omega)
   obtain ⟨r0,r1,r2,r3⟩:=cells_4 HR3.out.box
   have hrl3:=HR3.out.lt.1
   have hol3:=(Array.getElem?_eq_some_iff.1 HO3.out).1
   have hpl3:=(Array.getElem?_eq_some_iff.1 HP3.out).1
   have hzl3:=(Array.getElem?_eq_some_iff.1 HZ3.out).1
   go_wp2_with (first
    | (at_lookup;refine wpList_lookup_own_ok _ rfl _ _ 52 rfl 9 27 keyed Tryz.underlying52 raw (zeroF _) (.held zf) [] rfl mb n D rfl HR3.out.map _ (ky a) rfl hkey ?_;intro u ps hu;obtain rfl:=look_of hu;rw [HNL.out,HNH.out];clear hu)
    | (at_len;refine wpList_len_own _ rfl _ 52 rfl 9 27 Tryz.underlying52 raw mb n D rfl (World.ownsMap.alloc HR3.out.map _) ?_;have hsl:=HSL.out)
    | fail)
   obtain ⟨w4,hw4⟩:∃ x,wc.alloc (.cells #[.string zp,.string zd,.int .i64 zv,.int .i64 zm,.int .i64 zc,.int .i64 zo,.int .i64 zk] 27)=x:=⟨_,rfl⟩
   rw [hw4]
   have hb4:Below wc.heap.size wc w4:=by rw [← hw4];exact (Below.refl _ _).alloc (Nat.le_refl _) _
   have HB4:Hid _:=trans2 HB3.out hb4
   have HR4:Hid _:=HR3.out.below hb4
   have HG4:Hid _:=HG3.out.below hb4
   have HO4:Hid _:=kept_block hb4 HO3.out
   have HZ4:Hid _:=kept_block hb4 HZ3.out
   have HP4:Hid _:=kept_block hb4 HP3.out
   clear hb4 hw4 r0 r1 r2 r3 hrl3 hol3 hpl3 hzl3
   obtain ⟨r0,r1,r2,r3⟩:=cells_4 HR4.out.box
   obtain ⟨o0,o1,o2,o3,o4⟩:=cells_5 HO4.out
   have hrl4:rb<w4.heap.size:=HR4.out.lt.1
   have hol4:w.heap.size<w4.heap.size:=(Array.getElem?_eq_some_iff.1 HO4.out).1
   have q1:rb≠w4.heap.size:=by omega
   have q2:w.heap.size≠w4.heap.size:=by omega
   go_cut [11] from 12 (fun s11 wc=>∃ nb,s11=.pointer (some ⟨nb,0,none⟩)∧w4.heap.size≤nb∧Hid (Below w4.heap.size w4 wc)∧Hid (wc.heap[nb]? = some (.cells #[.string a,.string d,.int .i64 0,.int .i64 st,.int .i64 st,.int .i64 0,.int .i64 0] 27 (0,0))))
   case first =>
    go_region_held3 (fun w'=>w'.cell? ⟨rb,1,none⟩=some (.int .i64 st)∧w'.cell? ⟨w.heap.size,2,none⟩=some (.string d)) (go_keep) (fail)
    go_wp2_with fail
    go_meet
    case rel=>exact ⟨_,rfl,Nat.le_refl _,below_drew ((Below.refl _ _).alloc (Nat.le_refl _) _),heap_alloc_new _ _⟩
   case rest =>
    obtain ⟨nb,rfl,hnb,HB5',HN5⟩:=hcut
    have HB5:Hid _:=trans2 HB4.out HB5'.out
    have HR5:Hid _:=HR4.out.below HB5'.out
    have HG5:Hid _:=HG4.out.below HB5'.out
    have HO5:Hid _:=kept_block HB5'.out HO4.out
    have HZ5:Hid _:=kept_block HB5'.out HZ4.out
    have HP5:Hid _:=kept_block HB5'.out HP4.out
    clear r0 r1 r2 r3 o0 o1 o2 o3 o4 q1 q2
    obtain ⟨o0,o1,o2,o3,o4⟩:=cells_5 HO5.out
    go_upto_if 79 with (first
     | (go_at_call 87;refine (HBR.out _ HG5.out).mono ?_;rintro e w6 ⟨rfl,hb6⟩
        have HB6:Hid _:=trans2 HB5.out hb6
        have HR6:Hid _:=HR5.out.below hb6
        have HO6:Hid _:=kept_block hb6 HO5.out
        have HZ6:Hid _:=kept_block hb6 HZ5.out
        have HP6:Hid _:=kept_block hb6 HP5.out
        have HN6:Hid _:=kept_block hb6 HN5.out
        clear hb6 o0 o1 o2 o3 o4)
     | fail)
    have hnb6:=(Array.getElem?_eq_some_iff.1 HN6.out).1
    have hwn:w.heap.size+1<nb∧pb<nb∧rb<nb∧w.heap.size<nb:=by
     have h1:=HB4.out.size
     have h2:=(Array.getElem?_eq_some_iff.1 HZ4.out).1
     have h3:=(Array.getElem?_eq_some_iff.1 HP4.out).1
     have h4:=HR4.out.lt.1
     refine ⟨?_,?_,?_,?_⟩ <;> omega
    go_cut [11] from 12 (fun s11 wc=>s11=.pointer (some ⟨nb,0,none⟩)∧Hid (Below w.heap.size w wc)∧Hid (wc.heap[w.heap.size]? = some (.cells #[.int .i64 1,.string p,.string d,.int .i64 v,.int .i64 f] 66 (0,0)))∧Hid (wc.heap[w.heap.size+1]? = some (.cells #[.string ⟨#[]⟩,.string ⟨#[]⟩,.int .i64 0,.int .i64 0,.int .i64 0,.int .i64 0,.slice none 0 0] 103 (0,0)))∧Hid (wc.heap[pb]? = some (.cells #[.string pp,.string pd,.int .i64 pv,.int .i64 pm,.int .i64 pc,.int .i64 0,.int .i64 pk'] 27 (0,0)))∧Hid (wc.heap[nb]? = some (.cells #[.string a,.string d,.int .i64 0,.int .i64 st,.int .i64 st,.int .i64 o,.int .i64 0] 27 (0,0))))
    case first =>
     rcases HBO.out with ⟨hm2,rfl⟩ | ⟨hm2,rfl⟩
     · have hd2:decide (f % 2=1)=false:=decide_eq_false (by omega)
       rw [hd2]
       clear hm2 hd2
       go_wp2_with fail
       go_meet
       case rel=>exact ⟨rfl,HB6.out,HO6.out,HZ6.out,HP6.out,HN6.out⟩
     · have hd2:decide (f % 2=1)=true:=decide_eq_true hm2
       rw [hd2]
       clear hm2 hd2
       obtain ⟨r0,r1,r2,r3⟩:=cells_4 HR6.out.box
       obtain ⟨a0,a1,a2,a3,a4,a5,a6⟩:=cells_7 HN6.out
       have hfn:=free_7 HN6.out
       go_wp2_with fail
       go_meet
       case rel=>exact ⟨rfl,HB6.out.setCell (by show w.heap.size≤nb;omega) _,other_blk HO6.out (by omega),other_blk HZ6.out (by omega),other_blk HP6.out (by omega),same_blk HN6.out rfl⟩
    case rest =>
    clear HB6 HR6 HO6 HZ6 HP6 HN6 HB5 HR5 HG5 HO5 HZ5 HP5 HN5 HB5' HB4 HR4 HG4 HO4 HZ4 HP4 HBR HBO
    obtain ⟨rfl,HB6,HO6,HZ6,HP6,HN6⟩:=hcut
    obtain ⟨w6,hw6⟩:∃ x,x=wc:=⟨wc,rfl⟩
    subst hw6
    have HR6:Hid _:=HR.out.below HB6.out
    have HG6:Hid _:=HG.out.below HB6.out
    obtain ⟨r0,r1,r2,r3⟩:=cells_4 HR6.out.box
    obtain ⟨a0,a1,a2,a3,a4,a5,a6⟩:=cells_7 HP6.out
    go_wp2_with fail
    have HM7:Hid _:=put_any mb (n) (D) pp pd pv pm pc 0 pk' (by omega) (by omega) w6.drew (HR6.out.below (below_drew (Below.refl _ _))).map (by omega)
    go_region_held3 (fun w'=>w'.cell? ⟨rb,2,none⟩=some (.map (some mb))∧w'.cell? ⟨pb,0,none⟩=some (.string pp)∧w'.cell? ⟨pb,1,none⟩=some (.string pd)∧w'.cell? ⟨pb,2,none⟩=some (.int .i64 pv)∧w'.cell? ⟨pb,3,none⟩=some (.int .i64 pm)∧w'.cell? ⟨pb,4,none⟩=some (.int .i64 pc)∧w'.cell? ⟨pb,5,none⟩=some (.int .i64 0)∧w'.cell? ⟨pb,6,none⟩=some (.int .i64 pk')) (first | (simp only [World.cell?_drew,r2,a0,a1,a2,a3,a4,a5,a6,and_self]) | go_keep)
     (first
       | (go_at_call 16;refine Calls.mono HM7.out ?_;rintro e w7 ⟨rfl,hm7,hc7⟩
          have HR7:Hid _:=(HR6.out.below (below_drew (Below.refl _ _))).put hm7 hc7
          have HC7:Hid (Chg w w7 (fun k=>k=mb)):=(Chg.of_below (below_drew HB6.out) _).trans hc7
          have HZ7:Hid _:=kept_chg hc7 HZ6.out (by omega)
          have HP7:Hid _:=kept_chg hc7 HP6.out (by omega)
          have HN7:Hid _:=kept_chg hc7 HN6.out (by omega)
          clear hm7 hc7 r0 r1 r2 r3 a0 a1 a2 a3 a4 a5 a6
          obtain ⟨r0,r1,r2,r3⟩:=cells_4 HR7.out.box
          obtain ⟨a0,a1,a2,a3,a4,a5,a6⟩:=cells_7 HP7.out))
    clear a0 a1 a2 a3 a4 a5 a6
    obtain ⟨a0,a1,a2,a3,a4,a5,a6⟩:=cells_7 HN7.out
    go_wp2_with fail
    have HM8:Hid _:=put_any mb (n+1) (D.put (ky pp) (.held (fuV pp pd pv pm pc 0 pk'))) a d 0 st st o 0 (by omega) (by omega) w7.drew (HR7.out.below (below_drew (Below.refl _ _))).map (by omega)
    go_region_held3 (fun w'=>w'.cell? ⟨rb,2,none⟩=some (.map (some mb))∧w'.cell? ⟨nb,0,none⟩=some (.string a)∧w'.cell? ⟨nb,1,none⟩=some (.string d)∧w'.cell? ⟨nb,2,none⟩=some (.int .i64 0)∧w'.cell? ⟨nb,3,none⟩=some (.int .i64 st)∧w'.cell? ⟨nb,4,none⟩=some (.int .i64 st)∧w'.cell? ⟨nb,5,none⟩=some (.int .i64 o)∧w'.cell? ⟨nb,6,none⟩=some (.int .i64 0)) (first | (simp only [World.cell?_drew,r2,a0,a1,a2,a3,a4,a5,a6,and_self]) | go_keep)
     (first
       | (go_at_call 16;refine Calls.mono HM8.out ?_;rintro e w8 ⟨rfl,hm8,hc8⟩
          have HR8:Hid _:=(HR7.out.below (below_drew (Below.refl _ _))).put hm8 hc8
          have HC8:Hid (Chg w w8 (fun k=>k=mb)):=HC7.out.trans ((Chg.of_below (below_drew (Below.refl _ _)) _).trans hc8)
          have HZ8:Hid _:=kept_chg hc8 HZ7.out (by omega)
          have HN8:Hid _:=kept_chg hc8 HN7.out (by omega)
          clear hm8 hc8 r0 r1 r2 r3 a0 a1 a2 a3 a4 a5 a6
          obtain ⟨r0,r1,r2,r3⟩:=cells_4 HR8.out.box
          obtain ⟨a0,a1,a2,a3,a4,a5,a6⟩:=cells_7 HN8.out))
    go_wp2_with fail
    have HCH:Hid _:=change_any a d 0 st st o 0 1 (by omega) (by omega)
    have hbn:base≤w8.heap.size:=HR8.out.base_le
    have HEN:Hid (∀ args w,(callFunc 76 args).run Tryz.prog w=.ok (.enter 76 args) w):=enters_of Tryz.func76 (by kernel_rfl) rfl
    have hnl8:nb<w8.heap.size:=(Array.getElem?_eq_some_iff.1 HN8.out).1
    go_cut [11] from 12 (fun s11 wc=>s11=.pointer (some ⟨nb,0,none⟩)∧∃ chV',Hid (ReqAt wc base rb mb (n+1+1) ((D.put (ky pp) (.held (fuV pp pd pv pm pc 0 pk'))).put (ky a) (.held (fuV a d 0 st st o 0))) s st chV' (cn+1) (cs ++ [.int .i64 1,.string a,.string d,.int .i64 0]))∧Hid (chV'.ownBlock=chV.ownBlock∨∃ g,chV'.ownBlock=some g∧w.heap.size≤g)∧Hid (Chg w wc (fun k=>k=rb∨k=mb∨chV.ownBlock=some k))∧Hid (wc.heap[w.heap.size+1]? = some (.cells #[.string ⟨#[]⟩,.string ⟨#[]⟩,.int .i64 0,.int .i64 0,.int .i64 0,.int .i64 0,.slice none 0 0] 103 (0,0)))∧Hid (wc.heap[nb]? = some (.cells #[.string a,.string d,.int .i64 0,.int .i64 st,.int .i64 st,.int .i64 o,.int .i64 0] 27 (0,0))))
    case first =>
     go_region_law
      (first
        | (refine step_call2 (by rfl) 76 _ _ _ (by rfl) HEN.out (fuV a d 0 st st o 0) (.int .i64 1) (by rfl) (by rfl) (HCH.out _) (.agg #[.int .i64 1,.string a,.string d,.int .i64 0]) (fun _ _ h=>h.1) ?_
           intro w9 hR9
           have hb9:=hR9.2
           clear hR9
           have hb9':=of_drew hb9
           have HR9:Hid _:=HR8.out.below hb9'
           have HC9:Hid _:=HC8.out.trans (Chg.of_below hb9' _)
           have HZ9:Hid _:=kept_block hb9' HZ8.out
           have HN9:Hid _:=kept_block hb9' HN8.out
           have hrl9:rb<w9.heap.size:=HR9.out.lt.1
           have hnl9:nb<w9.heap.size:=(Array.getElem?_eq_some_iff.1 HN9.out).1
           have hzl9:w.heap.size+1<w9.heap.size:=(Array.getElem?_eq_some_iff.1 HZ9.out).1
           have qr:rb≠w9.heap.size:=by omega
           have qn9:nb≠w9.heap.size:=by omega
           have hba9:base≤w9.heap.size:=HR9.out.base_le
           clear hb9 hb9' r0 r1 r2 r3 a0 a1 a2 a3 a4 a5 a6
           obtain ⟨r0,r1,r2,r3⟩:=cells_4 HR9.out.box
           obtain ⟨a0,a1,a2,a3,a4,a5,a6⟩:=cells_7 HN9.out)
        | (refine step_append_lies _ (by rfl) _ _ _ (by rfl) base 69 i0 _ 4 48 Tryz.underlying62 hi0 hz0 hz1 hz2 rfl (by omega) chV cn cs (by rfl) (World.ownsRow.alloc HR9.out.row _) ⟨w9.heap.size,0,none⟩ 1 1 [.int .i64 1,.string a,.string d,.int .i64 0] (by rfl) (by rfl) (World.news_of_block (cs:=#[.int .i64 1,.string a,.string d,.int .i64 0]) (t:=69) (fr:=(0,0)) (heap_alloc_new w9 _)) (by simp [Value.oneCell']) (by omega) (by unfold maxLen;omega) (by omega) (by simp;omega) (w9.heap.size+1) (by simp) ?_
           intro g cap w10 hown10 hgrow10 hat10 hlt10
           have happ:=ReqAt.appended HR9.out hown10 hgrow10
           have HX10:Hid _:=happ.1
           have HR10:Hid _:=happ.2.1
           have HC10:Hid _:=happ.2.2
           have HN10:Hid (w10.heap[nb]? = some (.cells #[.string a,.string d,.int .i64 0,.int .i64 st,.int .i64 st,.int .i64 o,.int .i64 0] 27 (0,0))):=by
            refine kept_chg ((Chg.alloc w9 _ _).trans (Chg.grown hgrow10)) HN9.out (fun e=>?_)
            obtain ⟨cur,hcur⟩:=owns_kind HR9.out.row e
            rw [HN9.out] at hcur
            simp at hcur
           have HZ10:Hid (w10.heap[w.heap.size+1]? = some (.cells #[.string ⟨#[]⟩,.string ⟨#[]⟩,.int .i64 0,.int .i64 0,.int .i64 0,.int .i64 0,.slice none 0 0] 103 (0,0))):=by
            refine kept_chg ((Chg.alloc w9 _ _).trans (Chg.grown hgrow10)) HZ9.out (fun e=>?_)
            obtain ⟨cur,hcur⟩:=owns_kind HR9.out.row e
            rw [HZ9.out] at hcur
            simp at hcur
           have HAT:Hid _:=hat10
           have qn:nb≠rb:=by omega
           clear hown10 hgrow10 hat10 hlt10 happ r0 r1 r2 r3 a0 a1 a2 a3 a4 a5 a6
           obtain ⟨r0,r1,r2,r3⟩:=cells_4 HX10.out
           have hfr:=free_4 HX10.out
           obtain ⟨a0,a1,a2,a3,a4,a5,a6⟩:=cells_7 HN10.out))
     all_goals
      go_wp2_with fail
      go_meet
      case rel=>exact ⟨rfl,_,HR10.out,(by rcases HAT.out with e | e;· exact .inl (by rw [e];rfl)
                                          · exact .inr ⟨g,rfl,by have e':g=w9.heap.size+1:=e;omega⟩),(HC9.out.mono (fun k _ e=>.inr (.inl e))).trans (HC10.out.mono (fun k _ e=>e.elim .inl (fun e=>.inr (.inr e)))),other_blk HZ10.out (by omega),other_blk HN10.out (by omega)⟩
    case rest =>
     obtain ⟨rfl,chV',HRf,HLf,HCf,HZf,HNf⟩:=hcut
     clear r0 r1 r2 r3 a0 a1 a2 a3 a4 a5 a6
     obtain ⟨a0,a1,a2,a3,a4,a5,a6⟩:=cells_7 HNf.out
     have HRE:Hid _:=result_any a d 0 st st o 0 (by omega)
     go_wp2_with fail
     refine (HRE.out _).mono ?_
     rintro e w12 ⟨rfl,hb12⟩
     have HR12:Hid _:=HRf.out.below hb12
     have HC12:Hid _:=HCf.out.trans (Chg.of_below hb12 _)
     have HZ12:Hid _:=kept_block hb12 HZf.out
     clear hb12 a0 a1 a2 a3 a4 a5 a6
     obtain ⟨b0,b1,b2,b3,b4,b5,b6⟩:=cells_7 HZ12.out
     have hfz:=free_7 HZ12.out
     go_wp2_with fail
     have hml12:=HR.out.lt.2
     have hgb:∀ k,chV'.ownBlock=some k→¬ k=w.heap.size+1:=fun k hk e=>by
      obtain ⟨cur,hcur⟩:=owns_kind HR12.out.row hk
      rw [e,HZ12.out] at hcur
      simp at hcur
     refine bodyPost_ret (results_cell_tmp rfl _ _ (w.heap.size+1) 103 _ (0,0) _ (.int .i64 0) rfl rfl (fill_7 HZ12.out) Tryz.underlying103 rfl (by kernel_rfl)) rfl ⟨rfl,chV',HR12.out.chg putC_7 (by omega) (by omega) hgb,HLf.out,?_⟩
     exact ((HC12.out.mono (S':=fun k=>(k=rb∨k=mb∨chV.ownBlock=some k)∨k=w.heap.size+1) (fun _ _ h=>.inl h)).trans (putC_7.mono (fun _ _ h=>.inr h))).mono (fun k hk h=>h.elim id (fun e=>absurd hk (by omega)))
end Go.Proofs.YtckmihplkhmpnaaGreatDoor
