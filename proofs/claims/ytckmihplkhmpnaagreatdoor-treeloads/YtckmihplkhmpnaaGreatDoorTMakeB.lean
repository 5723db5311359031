import Derived.Test.YtckmihplkhmpnaaGreatDoorTDrop
import Derived.Test.YtckmihplkhmpnaaGreatDoorTDig
namespace Go.Proofs.YtckmihplkhmpnaaGreatDoor
open Go.RowKit Go.Maps
set_option linter.unusedVariables false
set_option linter.unusedSimpArgs false
attribute [local go_sem ↓] Go.wp_at_zero Go.wp_at_succ
abbrev noRes:Value:=.agg #[.string ⟨#[]⟩,.string ⟨#[]⟩,.int .i64 0,.int .i64 0,.int .i64 0,.int .i64 0,.slice none 0 0]
set_option maxHeartbeats 16000000 in
set_option maxRecDepth 100000 in
theorem make_40 (base rb mb n:Nat) (D:DataW Value) (s st:Int) (chV:Value) (cn:Nat) (cs:List Value) (p d:ByteArray) (v f:Int) (pp pd:ByteArray) (pv pm pc po pk:Int) (w:World) (hg:GroundT w)
  (hR:ReqAt w base rb mb n D s st chV cn cs) (hpl:look D (parB p)=fuV pp pd pv pm pc po pk) (hph:Maps.has D (ky (parB p))=false) (h1:p.size≤1000) (h2:d.size≤1000) (h3:pp.size≤1000) (h4:pd.size≤1000) (h5:(parB p).size≤1000) (hn:n≤10000) (hcn:cn≤1000) :
  Calls Tryz.prog 62 #[.pointer (some ⟨rb,0,none⟩),opV 1 p d v f] w fun e w'=>e=.returned (.tuple #[noRes,.int .i64 40])∧Below w.heap.size w w':=by
 obtain ⟨i0,hi0,hz0,hz1,hz2⟩:=info_parts Tryz.infoC
 have HR:Hid _:=hR
 have HG:Hid _:=hg
 have hrl:=hR.lt.1
 have hml:=hR.lt.2
 have HBA:Hid _:=hR.base_le
 have HPL:Hid _:=hpl
 have HPH:Hid _:=hph
 have HPA:Hid (∀ W,GroundT W→MapAt W mb n D→Calls Tryz.prog 40 #[.map (some mb),.string p] W fun e w'=>e=.returned (.tuple #[fuV pp pd pv pm pc po pk,.bool false])∧Below W.heap.size W w'):=fun W hW hM=>parent_map mb n D p pp pd pv pm pc po pk false W hW hM (by unfold maxLen;omega) hpl hph
 obtain ⟨r0,r1,r2,r3⟩:=cells_4 hR.box
 clear hR hg hpl hph
 go_enter Tryz.func62,Tryz.ntmps62
 go_wp2
 have HW0:Hid (Below w.heap.size w ((w.alloc (.cells #[.int .i64 1,.string p,.string d,.int .i64 v,.int .i64 f] 66)).alloc (.cells #[.string ⟨#[]⟩,.string ⟨#[]⟩,.int .i64 0,.int .i64 0,.int .i64 0,.int .i64 0,.slice none 0 0] 103))):=((Below.refl _ _).alloc (Nat.le_refl _) _).alloc (by simp) _
 have HW1:Hid (Below w.heap.size w (((w.alloc (.cells #[.int .i64 1,.string p,.string d,.int .i64 v,.int .i64 f] 66)).alloc (.cells #[.string ⟨#[]⟩,.string ⟨#[]⟩,.int .i64 0,.int .i64 0,.int .i64 0,.int .i64 0,.slice none 0 0] 103)).alloc (.cells #[.string ⟨#[]⟩,.string ⟨#[]⟩,.int .i64 0,.int .i64 0,.int .i64 0,.int .i64 0,.int .i64 0] 27))):=HW0.out.alloc (by simp;omega) _
 have HO0:Hid ((((w.alloc (.cells #[.int .i64 1,.string p,.string d,.int .i64 v,.int .i64 f] 66)).alloc (.cells #[.string ⟨#[]⟩,.string ⟨#[]⟩,.int .i64 0,.int .i64 0,.int .i64 0,.int .i64 0,.slice none 0 0] 103)).alloc (.cells #[.string ⟨#[]⟩,.string ⟨#[]⟩,.int .i64 0,.int .i64 0,.int .i64 0,.int .i64 0,.int .i64 0] 27)).drew.heap[w.heap.size]? = some (.cells #[.int .i64 1,.string p,.string d,.int .i64 v,.int .i64 f] 66 (0,0))):=new_old (heap_alloc2_old _ _ _) _
 have HK2:Hid ((((w.alloc (.cells #[.int .i64 1,.string p,.string d,.int .i64 v,.int .i64 f] 66)).alloc (.cells #[.string ⟨#[]⟩,.string ⟨#[]⟩,.int .i64 0,.int .i64 0,.int .i64 0,.int .i64 0,.slice none 0 0] 103)).alloc (.cells #[.string ⟨#[]⟩,.string ⟨#[]⟩,.int .i64 0,.int .i64 0,.int .i64 0,.int .i64 0,.int .i64 0] 27)).drew.cell? ⟨rb,2,none⟩=some (.map (some mb))):=(cells_4 (HR.out.below (below_drew HW1.out)).box).2.2.1
 have HK1:Hid ((((w.alloc (.cells #[.int .i64 1,.string p,.string d,.int .i64 v,.int .i64 f] 66)).alloc (.cells #[.string ⟨#[]⟩,.string ⟨#[]⟩,.int .i64 0,.int .i64 0,.int .i64 0,.int .i64 0,.slice none 0 0] 103)).alloc (.cells #[.string ⟨#[]⟩,.string ⟨#[]⟩,.int .i64 0,.int .i64 0,.int .i64 0,.int .i64 0,.int .i64 0] 27)).drew.cell? ⟨w.heap.size,1,none⟩=some (.string p)):=(cells_5 HO0.out).2.1
 have q1:rb≠w.heap.size:=by omega
 have q2:rb≠w.heap.size+1:=by omega
 have q6:w.heap.size≠w.heap.size+1+1:=by omega
 have q3:rb≠w.heap.size+1+1:=by omega
 go_cut [6,7] from 12 (fun s6 s7 wc=>∃ pb,s6=.pointer (some ⟨pb,0,none⟩)∧s7=.bool false∧w.heap.size+1<pb∧Hid (Below w.heap.size w wc)∧Hid (wc.heap[w.heap.size]? = some (.cells #[.int .i64 1,.string p,.string d,.int .i64 v,.int .i64 f] 66 (0,0)))∧Hid (wc.heap[w.heap.size+1]? = some (.cells #[.string ⟨#[]⟩,.string ⟨#[]⟩,.int .i64 0,.int .i64 0,.int .i64 0,.int .i64 0,.slice none 0 0] 103 (0,0)))∧Hid (wc.heap[pb]? = some (.cells #[.string pp,.string pd,.int .i64 pv,.int .i64 pm,.int .i64 pc,.int .i64 po,.int .i64 pk] 27 (0,0))))
 case first =>
  go_region_held3 (fun w'=>w'.cell? ⟨rb,2,none⟩=some (.map (some mb))∧w'.cell? ⟨w.heap.size,1,none⟩=some (.string p)) (first | (rw [HK2.out,HK1.out];exact ⟨rfl,rfl⟩) | (simp only [cellN q3,cellN q6,r2,o1,and_self]) | go_keep)
   (first
     | (go_at_call 40;go_fit (HPA.out _ (HG.out.below (below_drew HW0.out)) (map_below HR.out.map (below_drew HW0.out)));rintro e w1 ⟨rfl,hb1⟩
        have hb1':=of_drew hb1
        have HB1:Hid (Below w.heap.size w w1):=trans2 HW0.out hb1'
        have HO1:Hid (w1.heap[w.heap.size]? = some (.cells #[.int .i64 1,.string p,.string d,.int .i64 v,.int .i64 f] 66 (0,0))):=kept_block hb1' (heap_alloc2_old _ _ _)
        have HZ1:Hid (w1.heap[w.heap.size+1]? = some (.cells #[.string ⟨#[]⟩,.string ⟨#[]⟩,.int .i64 0,.int .i64 0,.int .i64 0,.int .i64 0,.slice none 0 0] 103 (0,0))):=kept_block hb1' (heap_alloc2_new _ _ _)
        have hz1:w.heap.size+1<w1.heap.size:=(Array.getElem?_eq_some_iff.1 HZ1.out).1
        have q4:rb≠w1.heap.size:=by omega
        have q5:w.heap.size≠w1.heap.size:=by omega
        clear hb1 hb1' r0 r1 r2 r3
        obtain ⟨o0,o1,o2,o3,o4⟩:=cells_5 HO1.out
        obtain ⟨r0,r1,r2,r3⟩:=cells_4 (HR.out.below HB1.out).box)
     | (go_at_call 40;go_fit (HPA.out _ (HG.out.below (below_drew HW1.out)) (map_below HR.out.map (below_drew HW1.out)));rintro e w1 ⟨rfl,hb1⟩
        have hb1':=of_drew hb1
        have HB1:Hid (Below w.heap.size w w1):=trans2 HW1.out hb1'
        have HO1:Hid (w1.heap[w.heap.size]? = some (.cells #[.int .i64 1,.string p,.string d,.int .i64 v,.int .i64 f] 66 (0,0))):=kept_block hb1' (new_old (heap_alloc2_old _ _ _) _)
        have HZ1:Hid (w1.heap[w.heap.size+1]? = some (.cells #[.string ⟨#[]⟩,.string ⟨#[]⟩,.int .i64 0,.int .i64 0,.int .i64 0,.int .i64 0,.slice none 0 0] 103 (0,0))):=kept_block hb1' (new_old (heap_alloc2_new _ _ _) _)
        have HV1:Hid (w1.heap[w.heap.size+1+1]? = some (.cells #[.string ⟨#[]⟩,.string ⟨#[]⟩,.int .i64 0,.int .i64 0,.int .i64 0,.int .i64 0,.int .i64 0] 27 (0,0))):=kept_block hb1' (alloc3_new _ _ _ _)
        clear hb1 hb1' r0 r1 r2 r3
        obtain ⟨o0,o1,o2,o3,o4⟩:=cells_5 HO1.out
        obtain ⟨v0,v1,v2,v3,v4,v5,v6⟩:=cells_7 HV1.out
        have hv:=free_7 HV1.out
        clear o0 o2 o3 o4
        have r2:=(cells_4 (HR.out.below HB1.out).box).2.2.1
        clear q1 q2 h1 h2 h3 h4 h5 hn hcn hi0 hz0 hz1 hz2 hml))
  · go_wp2_with fail
    go_meet
    case rel=>exact ⟨_,rfl,rfl,hz1,HB1.out.alloc (by have:=HB1.out.size;omega) _,new_old HO1.out _,new_old HZ1.out _,heap_alloc_new _ _⟩
  · go_wp2_with fail
    go_meet
    case rel=>exact ⟨_,rfl,rfl,by omega,fillB_7 HB1.out (by omega),fillO_7 HO1.out (by omega),fillO_7 HZ1.out (by omega),fill_7 HV1.out⟩
 case rest =>
  obtain ⟨pb,rfl,rfl,hpb,HB,HO,HZ,HP⟩:=hcut
  clear HW0 HW1 HO0 HK1 HK2 HPA q1 q2 q3 q6 r0 r1 r2 r3
  have HRc:Hid _:=HR.out.below HB.out
  have HGc:Hid _:=HG.out.below HB.out
  obtain ⟨b0,b1,b2,b3,b4,b5,b6⟩:=cells_7 HZ.out
  have hfz:=free_7 HZ.out
  go_wp2_with fail
  exact bodyPost_ret (results_cell_tmp rfl _ _ (w.heap.size+1) 103 _ (0,0) _ (.int .i64 40) rfl rfl (fill_7 HZ.out) Tryz.underlying103 rfl (by kernel_rfl)) rfl ⟨rfl,fillB_7 HB.out (by omega)⟩
set_option maxHeartbeats 16000000 in
set_option maxRecDepth 100000 in
theorem make_44 (base rb mb n:Nat) (D:DataW Value) (s st:Int) (chV:Value) (cn:Nat) (cs:List Value) (p d:ByteArray) (v f:Int) (pp pd:ByteArray) (pv pm pc po pk:Int) (w:World) (hg:GroundT w)
  (hR:ReqAt w base rb mb n D s st chV cn cs) (hpl:look D (parB p)=fuV pp pd pv pm pc po pk) (hph:Maps.has D (ky (parB p))=true) (hpo:po≠0) (h1:p.size≤1000) (h2:d.size≤1000) (h3:pp.size≤1000) (h4:pd.size≤1000) (h5:(parB p).size≤1000) (hn:n≤10000) (hcn:cn≤1000) :
  Calls Tryz.prog 62 #[.pointer (some ⟨rb,0,none⟩),opV 1 p d v f] w fun e w'=>e=.returned (.tuple #[noRes,.int .i64 44])∧Below w.heap.size w w':=by
 have HIB:Hid (∀ W,Calls Tryz.prog 39 #[fuV pp pd pv pm pc po pk] W fun e w'=>e=.returned (.bool true)∧Below W.heap.size W w'):=fun W=>by
  refine (fIsBrief_any pp pd pv pm pc po pk W).mono ?_
  rintro e w' ⟨rfl,hb⟩
  exact ⟨by rw [decide_eq_true hpo],hb⟩
 clear hpo
 obtain ⟨i0,hi0,hz0,hz1,hz2⟩:=info_parts Tryz.infoC
 have HR:Hid _:=hR
 have HG:Hid _:=hg
 have hrl:=hR.lt.1
 have hml:=hR.lt.2
 have HBA:Hid _:=hR.base_le
 have HPL:Hid _:=hpl
 have HPH:Hid _:=hph
 have HPA:Hid (∀ W,GroundT W→MapAt W mb n D→Calls Tryz.prog 40 #[.map (some mb),.string p] W fun e w'=>e=.returned (.tuple #[fuV pp pd pv pm pc po pk,.bool true])∧Below W.heap.size W w'):=fun W hW hM=>parent_map mb n D p pp pd pv pm pc po pk true W hW hM (by unfold maxLen;omega) hpl hph
 obtain ⟨r0,r1,r2,r3⟩:=cells_4 hR.box
 clear hR hg hpl hph
 go_enter Tryz.func62,Tryz.ntmps62
 go_wp2
 have HW0:Hid (Below w.heap.size w ((w.alloc (.cells #[.int .i64 1,.string p,.string d,.int .i64 v,.int .i64 f] 66)).alloc (.cells #[.string ⟨#[]⟩,.string ⟨#[]⟩,.int .i64 0,.int .i64 0,.int .i64 0,.int .i64 0,.slice none 0 0] 103))):=((Below.refl _ _).alloc (Nat.le_refl _) _).alloc (by simp) _
 have HW1:Hid (Below w.heap.size w (((w.alloc (.cells #[.int .i64 1,.string p,.string d,.int .i64 v,.int .i64 f] 66)).alloc (.cells #[.string ⟨#[]⟩,.string ⟨#[]⟩,.int .i64 0,.int .i64 0,.int .i64 0,.int .i64 0,.slice none 0 0] 103)).alloc (.cells #[.string ⟨#[]⟩,.string ⟨#[]⟩,.int .i64 0,.int .i64 0,.int .i64 0,.int .i64 0,.int .i64 0] 27))):=HW0.out.alloc (by simp;omega) _
 have HO0:Hid ((((w.alloc (.cells #[.int .i64 1,.string p,.string d,.int .i64 v,.int .i64 f] 66)).alloc (.cells #[.string ⟨#[]⟩,.string ⟨#[]⟩,.int .i64 0,.int .i64 0,.int .i64 0,.int .i64 0,.slice none 0 0] 103)).alloc (.cells #[.string ⟨#[]⟩,.string ⟨#[]⟩,.int .i64 0,.int .i64 0,.int .i64 0,.int .i64 0,.int .i64 0] 27)).drew.heap[w.heap.size]? = some (.cells #[.int .i64 1,.string p,.string d,.int .i64 v,.int .i64 f] 66 (0,0))):=new_old (heap_alloc2_old _ _ _) _
 have HK2:Hid ((((w.alloc (.cells #[.int .i64 1,.string p,.string d,.int .i64 v,.int .i64 f] 66)).alloc (.cells #[.string ⟨#[]⟩,.string ⟨#[]⟩,.int .i64 0,.int .i64 0,.int .i64 0,.int .i64 0,.slice none 0 0] 103)).alloc (.cells #[.string ⟨#[]⟩,.string ⟨#[]⟩,.int .i64 0,.int .i64 0,.int .i64 0,.int .i64 0,.int .i64 0] 27)).drew.cell? ⟨rb,2,none⟩=some (.map (some mb))):=(cells_4 (HR.out.below (below_drew HW1.out)).box).2.2.1
 have HK1:Hid ((((w.alloc (.cells #[.int .i64 1,.string p,.string d,.int .i64 v,.int .i64 f] 66)).alloc (.cells #[.string ⟨#[]⟩,.string ⟨#[]⟩,.int .i64 0,.int .i64 0,.int .i64 0,.int .i64 0,.slice none 0 0] 103)).alloc (.cells #[.string ⟨#[]⟩,.string ⟨#[]⟩,.int .i64 0,.int .i64 0,.int .i64 0,.int .i64 0,.int .i64 0] 27)).drew.cell? ⟨w.heap.size,1,none⟩=some (.string p)):=(cells_5 HO0.out).2.1
 have q1:rb≠w.heap.size:=by omega
 have q2:rb≠w.heap.size+1:=by omega
 have q6:w.heap.size≠w.heap.size+1+1:=by omega
 have q3:rb≠w.heap.size+1+1:=by omega
 go_cut [6,7] from 12 (fun s6 s7 wc=>∃ pb,s6=.pointer (some ⟨pb,0,none⟩)∧s7=.bool true∧w.heap.size+1<pb∧Hid (Below w.heap.size w wc)∧Hid (wc.heap[w.heap.size]? = some (.cells #[.int .i64 1,.string p,.string d,.int .i64 v,.int .i64 f] 66 (0,0)))∧Hid (wc.heap[w.heap.size+1]? = some (.cells #[.string ⟨#[]⟩,.string ⟨#[]⟩,.int .i64 0,.int .i64 0,.int .i64 0,.int .i64 0,.slice none 0 0] 103 (0,0)))∧Hid (wc.heap[pb]? = some (.cells #[.string pp,.string pd,.int .i64 pv,.int .i64 pm,.int .i64 pc,.int .i64 po,.int .i64 pk] 27 (0,0))))
 case first =>
  go_region_held3 (fun w'=>w'.cell? ⟨rb,2,none⟩=some (.map (some mb))∧w'.cell? ⟨w.heap.size,1,none⟩=some (.string p)) (first | (rw [HK2.out,HK1.out];exact ⟨rfl,rfl⟩) | (simp only [cellN q3,cellN q6,r2,o1,and_self]) | go_keep)
   (first
     | (go_at_call 40;go_fit (HPA.out _ (HG.out.below (below_drew HW0.out)) (map_below HR.out.map (below_drew HW0.out)));rintro e w1 ⟨rfl,hb1⟩
        have hb1':=of_drew hb1
        have HB1:Hid (Below w.heap.size w w1):=trans2 HW0.out hb1'
        have HO1:Hid (w1.heap[w.heap.size]? = some (.cells #[.int .i64 1,.string p,.string d,.int .i64 v,.int .i64 f] 66 (0,0))):=kept_block hb1' (heap_alloc2_old _ _ _)
        have HZ1:Hid (w1.heap[w.heap.size+1]? = some (.cells #[.string ⟨#[]⟩,.string ⟨#[]⟩,.int .i64 0,.int .i64 0,.int .i64 0,.int .i64 0,.slice none 0 0] 103 (0,0))):=kept_block hb1' (heap_alloc2_new _ _ _)
        have hz1:w.heap.size+1<w1.heap.size:=(Array.getElem?_eq_some_iff.1 HZ1.out).1
        have q4:rb≠w1.heap.size:=by omega
        have q5:w.heap.size≠w1.heap.size:=by omega
        clear hb1 hb1' r0 r1 r2 r3
        obtain ⟨o0,o1,o2,o3,o4⟩:=cells_5 HO1.out
        obtain ⟨r0,r1,r2,r3⟩:=cells_4 (HR.out.below HB1.out).box)
     | (go_at_call 40;go_fit (HPA.out _ (HG.out.below (below_drew HW1.out)) (map_below HR.out.map (below_drew HW1.out)));rintro e w1 ⟨rfl,hb1⟩
        have hb1':=of_drew hb1
        have HB1:Hid (Below w.heap.size w w1):=trans2 HW1.out hb1'
        have HO1:Hid (w1.heap[w.heap.size]? = some (.cells #[.int .i64 1,.string p,.string d,.int .i64 v,.int .i64 f] 66 (0,0))):=kept_block hb1' (new_old (heap_alloc2_old _ _ _) _)
        have HZ1:Hid (w1.heap[w.heap.size+1]? = some (.cells #[.string ⟨#[]⟩,.string ⟨#[]⟩,.int .i64 0,.int .i64 0,.int .i64 0,.int .i64 0,.slice none 0 0] 103 (0,0))):=kept_block hb1' (new_old (heap_alloc2_new _ _ _) _)
        have HV1:Hid (w1.heap[w.heap.size+1+1]? = some (.cells #[.string ⟨#[]⟩,.string ⟨#[]⟩,.int .i64 0,.int .i64 0,.int .i64 0,.int .i64 0,.int .i64 0] 27 (0,0))):=kept_block hb1' (alloc3_new _ _ _ _)
        clear hb1 hb1' r0 r1 r2 r3
        obtain ⟨o0,o1,o2,o3,o4⟩:=cells_5 HO1.out
        obtain ⟨v0,v1,v2,v3,v4,v5,v6⟩:=cells_7 HV1.out
        have hv:=free_7 HV1.out
        clear o0 o2 o3 o4
        have r2:=(cells_4 (HR.out.below HB1.out).box).2.2.1
        clear q1 q2 h1 h2 h3 h4 h5 hn hcn hi0 hz0 hz1 hz2 hml))
  · go_wp2_with fail
    go_meet
    case rel=>exact ⟨_,rfl,rfl,hz1,HB1.out.alloc (by have:=HB1.out.size;omega) _,new_old HO1.out _,new_old HZ1.out _,heap_alloc_new _ _⟩
  · go_wp2_with fail
    go_meet
    case rel=>exact ⟨_,rfl,rfl,by omega,fillB_7 HB1.out (by omega),fillO_7 HO1.out (by omega),fillO_7 HZ1.out (by omega),fill_7 HV1.out⟩
 case rest =>
  obtain ⟨pb,rfl,rfl,hpb,HB,HO,HZ,HP⟩:=hcut
  clear HW0 HW1 HO0 HK1 HK2 HPA q1 q2 q3 q6 r0 r1 r2 r3
  have HRc:Hid _:=HR.out.below HB.out
  have HGc:Hid _:=HG.out.below HB.out
  obtain ⟨a0,a1,a2,a3,a4,a5,a6⟩:=cells_7 HP.out
  go_wp2_with fail
  refine (HIB.out _).mono ?_
  rintro e w2 ⟨rfl,hb2⟩
  have HB2:Hid _:=trans2 HB.out hb2
  have HR2:Hid _:=HRc.out.below hb2
  have HG2:Hid _:=HGc.out.below hb2
  have HO2:Hid _:=kept_block hb2 HO.out
  have HZ2:Hid _:=kept_block hb2 HZ.out
  have HP2:Hid _:=kept_block hb2 HP.out
  clear hb2 a0 a1 a2 a3 a4 a5 a6
  obtain ⟨b0,b1,b2,b3,b4,b5,b6⟩:=cells_7 HZ2.out
  have hfz:=free_7 HZ2.out
  go_wp2_with fail
  exact bodyPost_ret (results_cell_tmp rfl _ _ (w.heap.size+1) 103 _ (0,0) _ (.int .i64 44) rfl rfl (fill_7 HZ2.out) Tryz.underlying103 rfl (by kernel_rfl)) rfl ⟨rfl,fillB_7 HB2.out (by omega)⟩
set_option maxHeartbeats 16000000 in
set_option maxRecDepth 100000 in
theorem make_46c (base rb mb n:Nat) (D:DataW Value) (s st:Int) (chV:Value) (cn:Nat) (cs:List Value) (p d:ByteArray) (v f:Int) (pp pd:ByteArray) (pv pm pc  pk:Int) (w:World) (hg:GroundT w)
  (hR:ReqAt w base rb mb n D s st chV cn cs) (hpl:look D (parB p)=fuV pp pd pv pm pc 0 pk) (hph:Maps.has D (ky (parB p))=true) (hf:0≤f∧f≤3) (h2f:2≤f) (hpk:99999<pk) (h1:p.size≤1000) (h2:d.size≤1000) (h3:pp.size≤1000) (h4:pd.size≤1000) (h5:(parB p).size≤1000) (hn:n≤10000) (hcn:cn≤1000) :
  Calls Tryz.prog 62 #[.pointer (some ⟨rb,0,none⟩),opV 1 p d v f] w fun e w'=>e=.returned (.tuple #[noRes,.int .i64 46])∧Below w.heap.size w w':=by
 have HIB:Hid (∀ W,Calls Tryz.prog 39 #[fuV pp pd pv pm pc 0 pk] W fun e w'=>e=.returned (.bool false)∧Below W.heap.size W w'):=fun W=>fIsBrief_any pp pd pv pm pc 0 pk W
 have HCO:Hid (∀ W,GroundT W→Calls Tryz.prog 86 #[opV 1 p d v f] W fun e w'=>e=.returned (.bool true)∧Below W.heap.size W w'):=fun W h=>by
  refine (isCounted_any (k:=1) (by decide) (by decide) p d v f (fun _=>hf) W h).mono ?_
  rintro e w' ⟨rfl,hb⟩
  exact ⟨by rw [decide_eq_true ⟨rfl,h2f⟩],hb⟩
 clear hf h2f
 obtain ⟨i0,hi0,hz0,hz1,hz2⟩:=info_parts Tryz.infoC
 have HR:Hid _:=hR
 have HG:Hid _:=hg
 have hrl:=hR.lt.1
 have hml:=hR.lt.2
 have HBA:Hid _:=hR.base_le
 have HPL:Hid _:=hpl
 have HPH:Hid _:=hph
 have HPA:Hid (∀ W,GroundT W→MapAt W mb n D→Calls Tryz.prog 40 #[.map (some mb),.string p] W fun e w'=>e=.returned (.tuple #[fuV pp pd pv pm pc 0 pk,.bool true])∧Below W.heap.size W w'):=fun W hW hM=>parent_map mb n D p pp pd pv pm pc 0 pk true W hW hM (by unfold maxLen;omega) hpl hph
 obtain ⟨r0,r1,r2,r3⟩:=cells_4 hR.box
 clear hR hg hpl hph
 go_enter Tryz.func62,Tryz.ntmps62
 go_wp2
 have HW0:Hid (Below w.heap.size w ((w.alloc (.cells #[.int .i64 1,.string p,.string d,.int .i64 v,.int .i64 f] 66)).alloc (.cells #[.string ⟨#[]⟩,.string ⟨#[]⟩,.int .i64 0,.int .i64 0,.int .i64 0,.int .i64 0,.slice none 0 0] 103))):=((Below.refl _ _).alloc (Nat.le_refl _) _).alloc (by simp) _
 have HW1:Hid (Below w.heap.size w (((w.alloc (.cells #[.int .i64 1,.string p,.string d,.int .i64 v,.int .i64 f] 66)).alloc (.cells #[.string ⟨#[]⟩,.string ⟨#[]⟩,.int .i64 0,.int .i64 0,.int .i64 0,.int .i64 0,.slice none 0 0] 103)).alloc (.cells #[.string ⟨#[]⟩,.string ⟨#[]⟩,.int .i64 0,.int .i64 0,.int .i64 0,.int .i64 0,.int .i64 0] 27))):=HW0.out.alloc (by simp;omega) _
 have HO0:Hid ((((w.alloc (.cells #[.int .i64 1,.string p,.string d,.int .i64 v,.int .i64 f] 66)).alloc (.cells #[.string ⟨#[]⟩,.string ⟨#[]⟩,.int .i64 0,.int .i64 0,.int .i64 0,.int .i64 0,.slice none 0 0] 103)).alloc (.cells #[.string ⟨#[]⟩,.string ⟨#[]⟩,.int .i64 0,.int .i64 0,.int .i64 0,.int .i64 0,.int .i64 0] 27)).drew.heap[w.heap.size]? = some (.cells #[.int .i64 1,.string p,.string d,.int .i64 v,.int .i64 f] 66 (0,0))):=new_old (heap_alloc2_old _ _ _) _
 have HK2:Hid ((((w.alloc (.cells #[.int .i64 1,.string p,.string d,.int .i64 v,.int .i64 f] 66)).alloc (.cells #[.string ⟨#[]⟩,.string ⟨#[]⟩,.int .i64 0,.int .i64 0,.int .i64 0,.int .i64 0,.slice none 0 0] 103)).alloc (.cells #[.string ⟨#[]⟩,.string ⟨#[]⟩,.int .i64 0,.int .i64 0,.int .i64 0,.int .i64 0,.int .i64 0] 27)).drew.cell? ⟨rb,2,none⟩=some (.map (some mb))):=(cells_4 (HR.out.below (below_drew HW1.out)).box).2.2.1
 have HK1:Hid ((((w.alloc (.cells #[.int .i64 1,.string p,.string d,.int .i64 v,.int .i64 f] 66)).alloc (.cells #[.string ⟨#[]⟩,.string ⟨#[]⟩,.int .i64 0,.int .i64 0,.int .i64 0,.int .i64 0,.slice none 0 0] 103)).alloc (.cells #[.string ⟨#[]⟩,.string ⟨#[]⟩,.int .i64 0,.int .i64 0,.int .i64 0,.int .i64 0,.int .i64 0] 27)).drew.cell? ⟨w.heap.size,1,none⟩=some (.string p)):=(cells_5 HO0.out).2.1
 have q1:rb≠w.heap.size:=by omega
 have q2:rb≠w.heap.size+1:=by omega
 have q6:w.heap.size≠w.heap.size+1+1:=by omega
 have q3:rb≠w.heap.size+1+1:=by omega
 go_cut [6,7] from 12 (fun s6 s7 wc=>∃ pb,s6=.pointer (some ⟨pb,0,none⟩)∧s7=.bool true∧w.heap.size+1<pb∧Hid (Below w.heap.size w wc)∧Hid (wc.heap[w.heap.size]? = some (.cells #[.int .i64 1,.string p,.string d,.int .i64 v,.int .i64 f] 66 (0,0)))∧Hid (wc.heap[w.heap.size+1]? = some (.cells #[.string ⟨#[]⟩,.string ⟨#[]⟩,.int .i64 0,.int .i64 0,.int .i64 0,.int .i64 0,.slice none 0 0] 103 (0,0)))∧Hid (wc.heap[pb]? = some (.cells #[.string pp,.string pd,.int .i64 pv,.int .i64 pm,.int .i64 pc,.int .i64 0,.int .i64 pk] 27 (0,0))))
 case first =>
  go_region_held3 (fun w'=>w'.cell? ⟨rb,2,none⟩=some (.map (some mb))∧w'.cell? ⟨w.heap.size,1,none⟩=some (.string p)) (first | (rw [HK2.out,HK1.out];exact ⟨rfl,rfl⟩) | (simp only [cellN q3,cellN q6,r2,o1,and_self]) | go_keep)
   (first
     | (go_at_call 40;go_fit (HPA.out _ (HG.out.below (below_drew HW0.out)) (map_below HR.out.map (below_drew HW0.out)));rintro e w1 ⟨rfl,hb1⟩
        have hb1':=of_drew hb1
        have HB1:Hid (Below w.heap.size w w1):=trans2 HW0.out hb1'
        have HO1:Hid (w1.heap[w.heap.size]? = some (.cells #[.int .i64 1,.string p,.string d,.int .i64 v,.int .i64 f] 66 (0,0))):=kept_block hb1' (heap_alloc2_old _ _ _)
        have HZ1:Hid (w1.heap[w.heap.size+1]? = some (.cells #[.string ⟨#[]⟩,.string ⟨#[]⟩,.int .i64 0,.int .i64 0,.int .i64 0,.int .i64 0,.slice none 0 0] 103 (0,0))):=kept_block hb1' (heap_alloc2_new _ _ _)
        have hz1:w.heap.size+1<w1.heap.size:=(Array.getElem?_eq_some_iff.1 HZ1.out).1
        have q4:rb≠w1.heap.size:=by omega
        have q5:w.heap.size≠w1.heap.size:=by omega
        clear hb1 hb1' r0 r1 r2 r3
        obtain ⟨o0,o1,o2,o3,o4⟩:=cells_5 HO1.out
        obtain ⟨r0,r1,r2,r3⟩:=cells_4 (HR.out.below HB1.out).box)
     | (go_at_call 40;go_fit (HPA.out _ (HG.out.below (below_drew HW1.out)) (map_below HR.out.map (below_drew HW1.out)));rintro e w1 ⟨rfl,hb1⟩
        have hb1':=of_drew hb1
        have HB1:Hid (Below w.heap.size w w1):=trans2 HW1.out hb1'
        have HO1:Hid (w1.heap[w.heap.size]? = some (.cells #[.int .i64 1,.string p,.string d,.int .i64 v,.int .i64 f] 66 (0,0))):=kept_block hb1' (new_old (heap_alloc2_old _ _ _) _)
        have HZ1:Hid (w1.heap[w.heap.size+1]? = some (.cells #[.string ⟨#[]⟩,.string ⟨#[]⟩,.int .i64 0,.int .i64 0,.int .i64 0,.int .i64 0,.slice none 0 0] 103 (0,0))):=kept_block hb1' (new_old (heap_alloc2_new _ _ _) _)
        have HV1:Hid (w1.heap[w.heap.size+1+1]? = some (.cells #[.string ⟨#[]⟩,.string ⟨#[]⟩,.int .i64 0,.int .i64 0,.int .i64 0,.int .i64 0,.int .i64 0] 27 (0,0))):=kept_block hb1' (alloc3_new _ _ _ _)
        clear hb1 hb1' r0 r1 r2 r3
        obtain ⟨o0,o1,o2,o3,o4⟩:=cells_5 HO1.out
        obtain ⟨v0,v1,v2,v3,v4,v5,v6⟩:=cells_7 HV1.out
        have hv:=free_7 HV1.out
        clear o0 o2 o3 o4
        have r2:=(cells_4 (HR.out.below HB1.out).box).2.2.1
        clear q1 q2 h1 h2 h3 h4 h5 hn hcn hi0 hz0 hz1 hz2 hml))
  · go_wp2_with fail
    go_meet
    case rel=>exact ⟨_,rfl,rfl,hz1,HB1.out.alloc (by have:=HB1.out.size;omega) _,new_old HO1.out _,new_old HZ1.out _,heap_alloc_new _ _⟩
  · go_wp2_with fail
    go_meet
    case rel=>exact ⟨_,rfl,rfl,by omega,fillB_7 HB1.out (by omega),fillO_7 HO1.out (by omega),fillO_7 HZ1.out (by omega),fill_7 HV1.out⟩
 case rest =>
  obtain ⟨pb,rfl,rfl,hpb,HB,HO,HZ,HP⟩:=hcut
  clear HW0 HW1 HO0 HK1 HK2 HPA q1 q2 q3 q6 r0 r1 r2 r3
  have HRc:Hid _:=HR.out.below HB.out
  have HGc:Hid _:=HG.out.below HB.out
  obtain ⟨a0,a1,a2,a3,a4,a5,a6⟩:=cells_7 HP.out
  go_wp2_with fail
  refine (HIB.out _).mono ?_
  rintro e w2 ⟨rfl,hb2⟩
  have HB2:Hid _:=trans2 HB.out hb2
  have HR2:Hid _:=HRc.out.below hb2
  have HG2:Hid _:=HGc.out.below hb2
  have HO2:Hid _:=kept_block hb2 HO.out
  have HZ2:Hid _:=kept_block hb2 HZ.out
  have HP2:Hid _:=kept_block hb2 HP.out
  clear hb2 a0 a1 a2 a3 a4 a5 a6
  obtain ⟨o0,o1,o2,o3,o4⟩:=cells_5 HO2.out
  go_wp2_with fail
  refine (HCO.out _ HG2.out).mono ?_
  rintro e w3 ⟨rfl,hb3⟩
  have HB3:Hid _:=trans2 HB2.out hb3
  have HZ3:Hid _:=kept_block hb3 HZ2.out
  have HP3:Hid _:=kept_block hb3 HP2.out
  clear hb3 o0 o1 o2 o3 o4
  obtain ⟨a0,a1,a2,a3,a4,a5,a6⟩:=cells_7 HP3.out
  obtain ⟨b0,b1,b2,b3,b4,b5,b6⟩:=cells_7 HZ3.out
  have hfz:=free_7 HZ3.out
  go_wp2_with fail
  exact bodyPost_ret (results_cell_tmp rfl _ _ (w.heap.size+1) 103 _ (0,0) _ (.int .i64 46) rfl rfl (fill_7 HZ3.out) Tryz.underlying103 rfl (by kernel_rfl)) rfl ⟨rfl,fillB_7 HB3.out (by omega)⟩
end Go.Proofs.YtckmihplkhmpnaaGreatDoor
namespace Go.Proofs.YtckmihplkhmpnaaGreatDoor
open Go.RowKit Go.Maps
set_option linter.unusedVariables false
set_option linter.unusedSimpArgs false
attribute [local go_sem ↓] Go.wp_at_zero Go.wp_at_succ
set_option maxHeartbeats 16000000 in
set_option maxRecDepth 100000 in
theorem make_41 (base rb mb n:Nat) (D:DataW Value) (s st:Int) (chV:Value) (cn:Nat) (cs:List Value) (p d a:ByteArray) (v f:Int) (pp pd:ByteArray) (pv pm pc pk pk' po:Int) (w:World) (hg:GroundT w)
  (hR:ReqAt w base rb mb n D s st chV cn cs) (hpl:look D (parB p)=fuV pp pd pv pm pc 0 pk) (hph:Maps.has D (ky (parB p))=true) (hf:0≤f∧f≤3) (hcnt:(f<2∧a=p∧pk'=pk)∨(2≤f∧pk≤99999∧-1000≤pk∧pk'=pk+1∧∀ W,Below w.heap.size w W→Calls Tryz.prog 88 #[.string p,.int .i64 pk] W fun e w'=>e=.returned (.tuple #[.string a,.int .i64 0])∧Below W.heap.size W w')) (zp zd:ByteArray) (zv zm zc zo zk:Int) (hnl:look D a=fuV zp zd zv zm zc zo zk) (hnh:Maps.has D (ky a)=true) (h1:p.size≤1000) (h2:d.size≤1000) (h3:pp.size≤1000) (h4:pd.size≤1000) (h5:(parB p).size≤1000) (hn:n≤10000) (hcn:cn≤1000) (h6:a.size≤1000) :
  Calls Tryz.prog 62 #[.pointer (some ⟨rb,0,none⟩),opV 1 p d v f] w fun e w'=>e=.returned (.tuple #[noRes,.int .i64 41])∧Below w.heap.size w w':=by
 have HIB:Hid (∀ W,Calls Tryz.prog 39 #[fuV pp pd pv pm pc 0 pk] W fun e w'=>e=.returned (.bool false)∧Below W.heap.size W w'):=fun W=>fIsBrief_any pp pd pv pm pc 0 pk W
 have HF:Hid _:=hf
 have HCNT:Hid _:=hcnt
 have HNL:Hid _:=hnl
 have HNH:Hid _:=hnh
 clear hf hcnt hnl hnh
 have HSL:Hid True:=trivial
 obtain ⟨i0,hi0,hz0,hz1,hz2⟩:=info_parts Tryz.infoC
 have HR:Hid _:=hR
 have HG:Hid _:=hg
 have hrl:=hR.lt.1
 have hml:=hR.lt.2
 have HBA:Hid _:=hR.base_le
 have HPL:Hid _:=hpl
 have HPH:Hid _:=hph
 have HPA:Hid (∀ W,GroundT W→MapAt W mb n D→Calls Tryz.prog 40 #[.map (some mb),.string p] W fun e w'=>e=.returned (.tuple #[fuV pp pd pv pm pc 0 pk,.bool true])∧Below W.heap.size W w'):=fun W hW hM=>parent_map mb n D p pp pd pv pm pc 0 pk true W hW hM (by unfold maxLen;omega) hpl hph
 obtain ⟨r0,r1,r2,r3⟩:=cells_4 hR.box
 clear hR hg hpl hph
 go_enter Tryz.func62,Tryz.ntmps62
 go_wp2
 have HW0:Hid (Below w.heap.size w ((w.alloc (.cells #[.int .i64 1,.string p,.string d,.int .i64 v,.int .i64 f] 66)).alloc (.cells #[.string ⟨#[]⟩,.string ⟨#[]⟩,.int .i64 0,.int .i64 0,.int .i64 0,.int .i64 0,.slice none 0 0] 103))):=((Below.refl _ _).alloc (Nat.le_refl _) _).alloc (by simp) _
 have HW1:Hid (Below w.heap.size w (((w.alloc (.cells #[.int .i64 1,.string p,.string d,.int .i64 v,.int .i64 f] 66)).alloc (.cells #[.string ⟨#[]⟩,.string ⟨#[]⟩,.int .i64 0,.int .i64 0,.int .i64 0,.int .i64 0,.slice none 0 0] 103)).alloc (.cells #[.string ⟨#[]⟩,.string ⟨#[]⟩,.int .i64 0,.int .i64 0,.int .i64 0,.int .i64 0,.int .i64 0] 27))):=HW0.out.alloc (by simp;omega) _
 have HO0:Hid ((((w.alloc (.cells #[.int .i64 1,.string p,.string d,.int .i64 v,.int .i64 f] 66)).alloc (.cells #[.string ⟨#[]⟩,.string ⟨#[]⟩,.int .i64 0,.int .i64 0,.int .i64 0,.int .i64 0,.slice none 0 0] 103)).alloc (.cells #[.string ⟨#[]⟩,.string ⟨#[]⟩,.int .i64 0,.int .i64 0,.int .i64 0,.int .i64 0,.int .i64 0] 27)).drew.heap[w.heap.size]? = some (.cells #[.int .i64 1,.string p,.string d,.int .i64 v,.int .i64 f] 66 (0,0))):=new_old (heap_alloc2_old _ _ _) _
 have HK2:Hid ((((w.alloc (.cells #[.int .i64 1,.string p,.string d,.int .i64 v,.int .i64 f] 66)).alloc (.cells #[.string ⟨#[]⟩,.string ⟨#[]⟩,.int .i64 0,.int .i64 0,.int .i64 0,.int .i64 0,.slice none 0 0] 103)).alloc (.cells #[.string ⟨#[]⟩,.string ⟨#[]⟩,.int .i64 0,.int .i64 0,.int .i64 0,.int .i64 0,.int .i64 0] 27)).drew.cell? ⟨rb,2,none⟩=some (.map (some mb))):=(cells_4 (HR.out.below (below_drew HW1.out)).box).2.2.1
 have HK1:Hid ((((w.alloc (.cells #[.int .i64 1,.string p,.string d,.int .i64 v,.int .i64 f] 66)).alloc (.cells #[.string ⟨#[]⟩,.string ⟨#[]⟩,.int .i64 0,.int .i64 0,.int .i64 0,.int .i64 0,.slice none 0 0] 103)).alloc (.cells #[.string ⟨#[]⟩,.string ⟨#[]⟩,.int .i64 0,.int .i64 0,.int .i64 0,.int .i64 0,.int .i64 0] 27)).drew.cell? ⟨w.heap.size,1,none⟩=some (.string p)):=(cells_5 HO0.out).2.1
 have q1:rb≠w.heap.size:=by omega
 have q2:rb≠w.heap.size+1:=by omega
 have q6:w.heap.size≠w.heap.size+1+1:=by omega
 have q3:rb≠w.heap.size+1+1:=by omega
 go_cut [6,7] from 12 (fun s6 s7 wc=>∃ pb,s6=.pointer (some ⟨pb,0,none⟩)∧s7=.bool true∧w.heap.size+1<pb∧Hid (Below w.heap.size w wc)∧Hid (wc.heap[w.heap.size]? = some (.cells #[.int .i64 1,.string p,.string d,.int .i64 v,.int .i64 f] 66 (0,0)))∧Hid (wc.heap[w.heap.size+1]? = some (.cells #[.string ⟨#[]⟩,.string ⟨#[]⟩,.int .i64 0,.int .i64 0,.int .i64 0,.int .i64 0,.slice none 0 0] 103 (0,0)))∧Hid (wc.heap[pb]? = some (.cells #[.string pp,.string pd,.int .i64 pv,.int .i64 pm,.int .i64 pc,.int .i64 0,.int .i64 pk] 27 (0,0))))
 case first =>
  go_region_held3 (fun w'=>w'.cell? ⟨rb,2,none⟩=some (.map (some mb))∧w'.cell? ⟨w.heap.size,1,none⟩=some (.string p)) (first | (rw [HK2.out,HK1.out];exact ⟨rfl,rfl⟩) | (simp only [cellN q3,cellN q6,r2,o1,and_self]) | go_keep)
   (first
     | (go_at_call 40;go_fit (HPA.out _ (HG.out.below (below_drew HW0.out)) (map_below HR.out.map (below_drew HW0.out)));rintro e w1 ⟨rfl,hb1⟩
        have hb1':=of_drew hb1
        have HB1:Hid (Below w.heap.size w w1):=trans2 HW0.out hb1'
        have HO1:Hid (w1.heap[w.heap.size]? = some (.cells #[.int .i64 1,.string p,.string d,.int .i64 v,.int .i64 f] 66 (0,0))):=kept_block hb1' (heap_alloc2_old _ _ _)
        have HZ1:Hid (w1.heap[w.heap.size+1]? = some (.cells #[.string ⟨#[]⟩,.string ⟨#[]⟩,.int .i64 0,.int .i64 0,.int .i64 0,.int .i64 0,.slice none 0 0] 103 (0,0))):=kept_block hb1' (heap_alloc2_new _ _ _)
        have hz1:w.heap.size+1<w1.heap.size:=(Array.getElem?_eq_some_iff.1 HZ1.out).1
        have q4:rb≠w1.heap.size:=by omega
        have q5:w.heap.size≠w1.heap.size:=by omega
        clear hb1 hb1' r0 r1 r2 r3
        obtain ⟨o0,o1,o2,o3,o4⟩:=cells_5 HO1.out
        obtain ⟨r0,r1,r2,r3⟩:=cells_4 (HR.out.below HB1.out).box)
     | (go_at_call 40;go_fit (HPA.out _ (HG.out.below (below_drew HW1.out)) (map_below HR.out.map (below_drew HW1.out)));rintro e w1 ⟨rfl,hb1⟩
        have hb1':=of_drew hb1
        have HB1:Hid (Below w.heap.size w w1):=trans2 HW1.out hb1'
        have HO1:Hid (w1.heap[w.heap.size]? = some (.cells #[.int .i64 1,.string p,.string d,.int .i64 v,.int .i64 f] 66 (0,0))):=kept_block hb1' (new_old (heap_alloc2_old _ _ _) _)
        have HZ1:Hid (w1.heap[w.heap.size+1]? = some (.cells #[.string ⟨#[]⟩,.string ⟨#[]⟩,.int .i64 0,.int .i64 0,.int .i64 0,.int .i64 0,.slice none 0 0] 103 (0,0))):=kept_block hb1' (new_old (heap_alloc2_new _ _ _) _)
        have HV1:Hid (w1.heap[w.heap.size+1+1]? = some (.cells #[.string ⟨#[]⟩,.string ⟨#[]⟩,.int .i64 0,.int .i64 0,.int .i64 0,.int .i64 0,.int .i64 0] 27 (0,0))):=kept_block hb1' (alloc3_new _ _ _ _)
        clear hb1 hb1' r0 r1 r2 r3
        obtain ⟨o0,o1,o2,o3,o4⟩:=cells_5 HO1.out
        obtain ⟨v0,v1,v2,v3,v4,v5,v6⟩:=cells_7 HV1.out
        have hv:=free_7 HV1.out
        clear o0 o2 o3 o4
        have r2:=(cells_4 (HR.out.below HB1.out).box).2.2.1
        clear q1 q2 h1 h2 h3 h4 h5 h6 hn hcn hi0 hz0 hz1 hz2 hml))
  · go_wp2_with fail
    go_meet
    case rel=>exact ⟨_,rfl,rfl,hz1,HB1.out.alloc (by have:=HB1.out.size;omega) _,new_old HO1.out _,new_old HZ1.out _,heap_alloc_new _ _⟩
  · go_wp2_with fail
    go_meet
    case rel=>exact ⟨_,rfl,rfl,by omega,fillB_7 HB1.out (by omega),fillO_7 HO1.out (by omega),fillO_7 HZ1.out (by omega),fill_7 HV1.out⟩
 case rest =>
  obtain ⟨pb,rfl,rfl,hpb,HB,HO,HZ,HP⟩:=hcut
  clear HW0 HW1 HO0 HK1 HK2 HPA q1 q2 q3 q6 r0 r1 r2 r3
  have HRc:Hid _:=HR.out.below HB.out
  have HGc:Hid _:=HG.out.below HB.out
  obtain ⟨a0,a1,a2,a3,a4,a5,a6⟩:=cells_7 HP.out
  go_wp2_with fail
  refine (HIB.out _).mono ?_
  rintro e w2 ⟨rfl,hb2⟩
  have HB2:Hid _:=trans2 HB.out hb2
  have HR2:Hid _:=HRc.out.below hb2
  have HG2:Hid _:=HGc.out.below hb2
  have HO2:Hid _:=kept_block hb2 HO.out
  have HZ2:Hid _:=kept_block hb2 HZ.out
  have HP2:Hid _:=kept_block hb2 HP.out
  clear hb2 a0 a1 a2 a3 a4 a5 a6
  obtain ⟨o0,o1,o2,o3,o4⟩:=cells_5 HO2.out
  have HCO:Hid (∀ W,GroundT W→Calls Tryz.prog 86 #[opV 1 p d v f] W fun e w'=>e=.returned (.bool (decide (2≤f)))∧Below W.heap.size W w'):=fun W h=>by
   refine (isCounted_any (k:=1) (by decide) (by decide) p d v f (fun _=>HF.out) W h).mono ?_
   rintro e w' ⟨rfl,hb⟩
   exact ⟨by simp,hb⟩
  go_upto_if 31 with (first
   | (go_at_call 86;refine (HCO.out _ HG2.out).mono ?_;rintro e w3 ⟨rfl,hb3⟩
      have HB3:Hid _:=trans2 HB2.out hb3
      have HO3:Hid _:=kept_block hb3 HO2.out
      have HZ3:Hid _:=kept_block hb3 HZ2.out
      have HP3:Hid _:=kept_block hb3 HP2.out
      clear hb3 o0 o1 o2 o3 o4)
   | fail)
  clear HB2 HR2 HG2 HO2 HZ2 HP2
  go_cut [8] from 12 (fun s8 wc=>s8=.string a∧Hid (Below w.heap.size w wc)∧Hid (wc.heap[w.heap.size]? = some (.cells #[.int .i64 1,.string p,.string d,.int .i64 v,.int .i64 f] 66 (0,0)))∧Hid (wc.heap[w.heap.size+1]? = some (.cells #[.string ⟨#[]⟩,.string ⟨#[]⟩,.int .i64 0,.int .i64 0,.int .i64 0,.int .i64 0,.slice none 0 0] 103 (0,0)))∧Hid (wc.heap[pb]? = some (.cells #[.string pp,.string pd,.int .i64 pv,.int .i64 pm,.int .i64 pc,.int .i64 0,.int .i64 pk'] 27 (0,0))))
  case first =>
   rcases HCNT.out with ⟨hlt2,rfl,rfl⟩ | ⟨h2f,hpk,hpk0,rfl,hcall⟩
   · have hd2:decide (2≤f)=false:=decide_eq_false (by omega)
     rw [hd2]
     clear hlt2 hd2
     go_wp2_with fail
     go_meet
     case rel=>exact ⟨rfl,HB3.out,HO3.out,HZ3.out,HP3.out⟩
   · have hd2:decide (2≤f)=true:=decide_eq_true h2f
     rw [hd2]
     have HCC:Hid _:=hcall
     have hpk9:¬ (99999:Int)<pk:=by omega
     have hpw:IntKind.i64.wrap (pk+1)=pk+1:=by rw [IntKind.wrap_i64];omega
     clear h2f hcall hd2
     obtain ⟨o0,o1,o2,o3,o4⟩:=cells_5 HO3.out
     obtain ⟨a0,a1,a2,a3,a4,a5,a6⟩:=cells_7 HP3.out
     go_wp2_with fail
     refine (HCC.out _ HB3.out).mono ?_
     rintro e w4 ⟨rfl,hb4⟩
     have HB4:Hid _:=trans2 HB3.out hb4
     have HO4:Hid _:=kept_block hb4 HO3.out
     have HZ4:Hid _:=kept_block hb4 HZ3.out
     have HP4:Hid _:=kept_block hb4 HP3.out
     clear hb4 o0 o1 o2 o3 o4 a0 a1 a2 a3 a4 a5 a6
     obtain ⟨a0,a1,a2,a3,a4,a5,a6⟩:=cells_7 HP4.out
     have hfp:=free_7 HP4.out
     go_wp2_with fail
     go_meet
     case rel=>exact ⟨rfl,HB4.out.setCell (by show w.heap.size≤pb;omega) _,other_blk HO4.out (by omega),other_blk HZ4.out (by omega),same_blk HP4.out rfl⟩
  case rest =>
   clear HB3 HO3 HZ3 HP3
   obtain ⟨rfl,HB3,HO3,HZ3,HP3⟩:=hcut
   clear HCNT
   have HR3:Hid _:=HR.out.below HB3.out
   have HG3:Hid _:=HG.out.below HB3.out
   have hkey:keyOf Tryz.prog 9 (.string a)=some (ky a):=WideMaps.keyOf_string_mk Tryz.underlying9 (by unfold maxLen;omega)
   obtain ⟨r0,r1,r2,r3⟩:=cells_4 HR3.out.box
   have hrl3:=HR3.out.lt.1
   have hol3:=(Array.getElem?_eq_some_iff.1 HO3.out).1
   have hpl3:=(Array.getElem?_eq_some_iff.1 HP3.out).1
   have hzl3:=(Array.getElem?_eq_some_iff.1 HZ3.out).1
   go_upto_if 57 with (first
    | (at_lookup;refine wpList_lookup_own_ok _ rfl _ _ 52 rfl 9 27 keyed Tryz.underlying52 raw (zeroF _) (.held zf) [] rfl mb n D rfl HR3.out.map _ (ky a) rfl hkey ?_;intro u ps hu;obtain rfl:=look_of hu;rw [HNL.out,HNH.out];clear hu)
    | (at_len;refine wpList_len_own _ rfl _ 52 rfl 9 27 Tryz.underlying52 raw mb n D rfl (World.ownsMap.alloc HR3.out.map _) ?_;have hsl:=HSL.out)
    | fail)
   have HZ4:Hid _:=new_old HZ3.out (.cells #[.string zp,.string zd,.int .i64 zv,.int .i64 zm,.int .i64 zc,.int .i64 zo,.int .i64 zk] 27)
   have HB4:Hid _:=HB3.out.alloc HB3.out.size (.cells #[.string zp,.string zd,.int .i64 zv,.int .i64 zm,.int .i64 zc,.int .i64 zo,.int .i64 zk] 27)
   obtain ⟨w4,hw4⟩:∃ x,wc.alloc (.cells #[.string zp,.string zd,.int .i64 zv,.int .i64 zm,.int .i64 zc,.int .i64 zo,.int .i64 zk] 27)=x:=⟨_,rfl⟩
   rw [hw4] at HZ4 HB4 ⊢
   clear hw4
   obtain ⟨b0,b1,b2,b3,b4,b5,b6⟩:=cells_7 HZ4.out
   have hfz:=free_7 HZ4.out
   go_wp2_with fail
   exact bodyPost_ret (results_cell_tmp rfl _ _ (w.heap.size+1) 103 _ (0,0) _ (.int .i64 41) rfl rfl (fill_7 HZ4.out) Tryz.underlying103 rfl (by kernel_rfl)) rfl ⟨rfl,fillB_7 HB4.out (by omega)⟩
set_option maxHeartbeats 16000000 in
set_option maxRecDepth 100000 in
theorem make_46 (base rb mb n:Nat) (D:DataW Value) (s st:Int) (chV:Value) (cn:Nat) (cs:List Value) (p d a:ByteArray) (v f:Int) (pp pd:ByteArray) (pv pm pc pk pk' po:Int) (w:World) (hg:GroundT w)
  (hR:ReqAt w base rb mb n D s st chV cn cs) (hpl:look D (parB p)=fuV pp pd pv pm pc 0 pk) (hph:Maps.has D (ky (parB p))=true) (hf:0≤f∧f≤3) (hcnt:(f<2∧a=p∧pk'=pk)∨(2≤f∧pk≤99999∧-1000≤pk∧pk'=pk+1∧∀ W,Below w.heap.size w W→Calls Tryz.prog 88 #[.string p,.int .i64 pk] W fun e w'=>e=.returned (.tuple #[.string a,.int .i64 0])∧Below W.heap.size W w')) (zp zd:ByteArray) (zv zm zc zo zk:Int) (hnl:look D a=fuV zp zd zv zm zc zo zk) (hnh:Maps.has D (ky a)=false) (hfull:64≤Maps.size D) (h1:p.size≤1000) (h2:d.size≤1000) (h3:pp.size≤1000) (h4:pd.size≤1000) (h5:(parB p).size≤1000) (hn:n≤10000) (hcn:cn≤1000) (h6:a.size≤1000) :
  Calls Tryz.prog 62 #[.pointer (some ⟨rb,0,none⟩),opV 1 p d v f] w fun e w'=>e=.returned (.tuple #[noRes,.int .i64 46])∧Below w.heap.size w w':=by
 have HIB:Hid (∀ W,Calls Tryz.prog 39 #[fuV pp pd pv pm pc 0 pk] W fun e w'=>e=.returned (.bool false)∧Below W.heap.size W w'):=fun W=>fIsBrief_any pp pd pv pm pc 0 pk W
 have HF:Hid _:=hf
 have HCNT:Hid _:=hcnt
 have HNL:Hid _:=hnl
 have HNH:Hid _:=hnh
 clear hf hcnt hnl hnh
 have HSL:Hid (¬ ((Maps.size D:Nat):Int)<64):=by show ¬ _;omega
 clear hfull
 obtain ⟨i0,hi0,hz0,hz1,hz2⟩:=info_parts Tryz.infoC
 have HR:Hid _:=hR
 have HG:Hid _:=hg
 have hrl:=hR.lt.1
 have hml:=hR.lt.2
 have HBA:Hid _:=hR.base_le
 have HPL:Hid _:=hpl
 have HPH:Hid _:=hph
 have HPA:Hid (∀ W,GroundT W→MapAt W mb n D→Calls Tryz.prog 40 #[.map (some mb),.string p] W fun e w'=>e=.returned (.tuple #[fuV pp pd pv pm pc 0 pk,.bool true])∧Below W.heap.size W w'):=fun W hW hM=>parent_map mb n D p pp pd pv pm pc 0 pk true W hW hM (by unfold maxLen;omega) hpl hph
 obtain ⟨r0,r1,r2,r3⟩:=cells_4 hR.box
 clear hR hg hpl hph
 go_enter Tryz.func62,Tryz.ntmps62
 go_wp2
 have HW0:Hid (Below w.heap.size w ((w.alloc (.cells #[.int .i64 1,.string p,.string d,.int .i64 v,.int .i64 f] 66)).alloc (.cells #[.string ⟨#[]⟩,.string ⟨#[]⟩,.int .i64 0,.int .i64 0,.int .i64 0,.int .i64 0,.slice none 0 0] 103))):=((Below.refl _ _).alloc (Nat.le_refl _) _).alloc (by simp) _
 have HW1:Hid (Below w.heap.size w (((w.alloc (.cells #[.int .i64 1,.string p,.string d,.int .i64 v,.int .i64 f] 66)).alloc (.cells #[.string ⟨#[]⟩,.string ⟨#[]⟩,.int .i64 0,.int .i64 0,.int .i64 0,.int .i64 0,.slice none 0 0] 103)).alloc (.cells #[.string ⟨#[]⟩,.string ⟨#[]⟩,.int .i64 0,.int .i64 0,.int .i64 0,.int .i64 0,.int .i64 0] 27))):=HW0.out.alloc (by simp;omega) _
 have HO0:Hid ((((w.alloc (.cells #[.int .i64 1,.string p,.string d,.int .i64 v,.int .i64 f] 66)).alloc (.cells #[.string ⟨#[]⟩,.string ⟨#[]⟩,.int .i64 0,.int .i64 0,.int .i64 0,.int .i64 0,.slice none 0 0] 103)).alloc (.cells #[.string ⟨#[]⟩,.string ⟨#[]⟩,.int .i64 0,.int .i64 0,.int .i64 0,.int .i64 0,.int .i64 0] 27)).drew.heap[w.heap.size]? = some (.cells #[.int .i64 1,.string p,.string d,.int .i64 v,.int .i64 f] 66 (0,0))):=new_old (heap_alloc2_old _ _ _) _
 have HK2:Hid ((((w.alloc (.cells #[.int .i64 1,.string p,.string d,.int .i64 v,.int .i64 f] 66)).alloc (.cells #[.string ⟨#[]⟩,.string ⟨#[]⟩,.int .i64 0,.int .i64 0,.int .i64 0,.int .i64 0,.slice none 0 0] 103)).alloc (.cells #[.string ⟨#[]⟩,.string ⟨#[]⟩,.int .i64 0,.int .i64 0,.int .i64 0,.int .i64 0,.int .i64 0] 27)).drew.cell? ⟨rb,2,none⟩=some (.map (some mb))):=(cells_4 (HR.out.below (below_drew HW1.out)).box).2.2.1
 have HK1:Hid ((((w.alloc (.cells #[.int .i64 1,.string p,.string d,.int .i64 v,.int .i64 f] 66)).alloc (.cells #[.string ⟨#[]⟩,.string ⟨#[]⟩,.int .i64 0,.int .i64 0,.int .i64 0,.int .i64 0,.slice none 0 0] 103)).alloc (.cells #[.string ⟨#[]⟩,.string ⟨#[]⟩,.int .i64 0,.int .i64 0,.int .i64 0,.int .i64 0,.int .i64 0] 27)).drew.cell? ⟨w.heap.size,1,none⟩=some (.string p)):=(cells_5 HO0.out).2.1
 have q1:rb≠w.heap.size:=by omega
 have q2:rb≠w.heap.size+1:=by omega
 have q6:w.heap.size≠w.heap.size+1+1:=by omega
 have q3:rb≠w.heap.size+1+1:=by omega
 go_cut [6,7] from 12 (fun s6 s7 wc=>∃ pb,s6=.pointer (some ⟨pb,0,none⟩)∧s7=.bool true∧w.heap.size+1<pb∧Hid (Below w.heap.size w wc)∧Hid (wc.heap[w.heap.size]? = some (.cells #[.int .i64 1,.string p,.string d,.int .i64 v,.int .i64 f] 66 (0,0)))∧Hid (wc.heap[w.heap.size+1]? = some (.cells #[.string ⟨#[]⟩,.string ⟨#[]⟩,.int .i64 0,.int .i64 0,.int .i64 0,.int .i64 0,.slice none 0 0] 103 (0,0)))∧Hid (wc.heap[pb]? = some (.cells #[.string pp,.string pd,.int .i64 pv,.int .i64 pm,.int .i64 pc,.int .i64 0,.int .i64 pk] 27 (0,0))))
 case first =>
  go_region_held3 (fun w'=>w'.cell? ⟨rb,2,none⟩=some (.map (some mb))∧w'.cell? ⟨w.heap.size,1,none⟩=some (.string p)) (first | (rw [HK2.out,HK1.out];exact ⟨rfl,rfl⟩) | (simp only [cellN q3,cellN q6,r2,o1,and_self]) | go_keep)
   (first
     | (go_at_call 40;go_fit (HPA.out _ (HG.out.below (below_drew HW0.out)) (map_below HR.out.map (below_drew HW0.out)));rintro e w1 ⟨rfl,hb1⟩
        have hb1':=of_drew hb1
        have HB1:Hid (Below w.heap.size w w1):=trans2 HW0.out hb1'
        have HO1:Hid (w1.heap[w.heap.size]? = some (.cells #[.int .i64 1,.string p,.string d,.int .i64 v,.int .i64 f] 66 (0,0))):=kept_block hb1' (heap_alloc2_old _ _ _)
        have HZ1:Hid (w1.heap[w.heap.size+1]? = some (.cells #[.string ⟨#[]⟩,.string ⟨#[]⟩,.int .i64 0,.int .i64 0,.int .i64 0,.int .i64 0,.slice none 0 0] 103 (0,0))):=kept_block hb1' (heap_alloc2_new _ _ _)
        have hz1:w.heap.size+1<w1.heap.size:=(Array.getElem?_eq_some_iff.1 HZ1.out).1
        have q4:rb≠w1.heap.size:=by omega
        have q5:w.heap.size≠w1.heap.size:=by omega
        clear hb1 hb1' r0 r1 r2 r3
        obtain ⟨o0,o1,o2,o3,o4⟩:=cells_5 HO1.out
        obtain ⟨r0,r1,r2,r3⟩:=cells_4 (HR.out.below HB1.out).box)
     | (go_at_call 40;go_fit (HPA.out _ (HG.out.below (below_drew HW1.out)) (map_below HR.out.map (below_drew HW1.out)));rintro e w1 ⟨rfl,hb1⟩
        have hb1':=of_drew hb1
        have HB1:Hid (Below w.heap.size w w1):=trans2 HW1.out hb1'
        have HO1:Hid (w1.heap[w.heap.size]? = some (.cells #[.int .i64 1,.string p,.string d,.int .i64 v,.int .i64 f] 66 (0,0))):=kept_block hb1' (new_old (heap_alloc2_old _ _ _) _)
        have HZ1:Hid (w1.heap[w.heap.size+1]? = some (.cells #[.string ⟨#[]⟩,.string ⟨#[]⟩,.int .i64 0,.int .i64 0,.int .i64 0,.int .i64 0,.slice none 0 0] 103 (0,0))):=kept_block hb1' (new_old (heap_alloc2_new _ _ _) _)
        have HV1:Hid (w1.heap[w.heap.size+1+1]? = some (.cells #[.string ⟨#[]⟩,.string ⟨#[]⟩,.int .i64 0,.int .i64 0,.int .i64 0,.int .i64 0,.int .i64 0] 27 (0,0))):=kept_block hb1' (alloc3_new _ _ _ _)
        clear hb1 hb1' r0 r1 r2 r3
        obtain ⟨o0,o1,o2,o3,o4⟩:=cells_5 HO1.out
        obtain ⟨v0,v1,v2,v3,v4,v5,v6⟩:=cells_7 HV1.out
        have hv:=free_7 HV1.out
        clear o0 o2 o3 o4
        have r2:=(cells_4 (HR.out.below HB1.out).box).2.2.1
        clear q1 q2 h1 h2 h3 h4 h5 h6 hn hcn hi0 hz0 hz1 hz2 hml))
  · go_wp2_with fail
    go_meet
    case rel=>exact ⟨_,rfl,rfl,hz1,HB1.out.alloc (by have:=HB1.out.size;omega) _,new_old HO1.out _,new_old HZ1.out _,heap_alloc_new _ _⟩
  · go_wp2_with fail
    go_meet
    case rel=>exact ⟨_,rfl,rfl,by omega,fillB_7 HB1.out (by omega),fillO_7 HO1.out (by omega),fillO_7 HZ1.out (by omega),fill_7 HV1.out⟩
 case rest =>
  obtain ⟨pb,rfl,rfl,hpb,HB,HO,HZ,HP⟩:=hcut
  clear HW0 HW1 HO0 HK1 HK2 HPA q1 q2 q3 q6 r0 r1 r2 r3
  have HRc:Hid _:=HR.out.below HB.out
  have HGc:Hid _:=HG.out.below HB.out
  obtain ⟨a0,a1,a2,a3,a4,a5,a6⟩:=cells_7 HP.out
  go_wp2_with fail
  refine (HIB.out _).mono ?_
  rintro e w2 ⟨rfl,hb2⟩
  have HB2:Hid _:=trans2 HB.out hb2
  have HR2:Hid _:=HRc.out.below hb2
  have HG2:Hid _:=HGc.out.below hb2
  have HO2:Hid _:=kept_block hb2 HO.out
  have HZ2:Hid _:=kept_block hb2 HZ.out
  have HP2:Hid _:=kept_block hb2 HP.out
  clear hb2 a0 a1 a2 a3 a4 a5 a6
  obtain ⟨o0,o1,o2,o3,o4⟩:=cells_5 HO2.out
  have HCO:Hid (∀ W,GroundT W→Calls Tryz.prog 86 #[opV 1 p d v f] W fun e w'=>e=.returned (.bool (decide (2≤f)))∧Below W.heap.size W w'):=fun W h=>by
   refine (isCounted_any (k:=1) (by decide) (by decide) p d v f (fun _=>HF.out) W h).mono ?_
   rintro e w' ⟨rfl,hb⟩
   exact ⟨by simp,hb⟩
  go_upto_if 31 with (first
   | (go_at_call 86;refine (HCO.out _ HG2.out).mono ?_;rintro e w3 ⟨rfl,hb3⟩
      have HB3:Hid _:=trans2 HB2.out hb3
      have HO3:Hid _:=kept_block hb3 HO2.out
      have HZ3:Hid _:=kept_block hb3 HZ2.out
      have HP3:Hid _:=kept_block hb3 HP2.out
      clear hb3 o0 o1 o2 o3 o4)
   | fail)
  clear HB2 HR2 HG2 HO2 HZ2 HP2
  go_cut [8] from 12 (fun s8 wc=>s8=.string a∧Hid (Below w.heap.size w wc)∧Hid (wc.heap[w.heap.size]? = some (.cells #[.int .i64 1,.string p,.string d,.int .i64 v,.int .i64 f] 66 (0,0)))∧Hid (wc.heap[w.heap.size+1]? = some (.cells #[.string ⟨#[]⟩,.string ⟨#[]⟩,.int .i64 0,.int .i64 0,.int .i64 0,.int .i64 0,.slice none 0 0] 103 (0,0)))∧Hid (wc.heap[pb]? = some (.cells #[.string pp,.string pd,.int .i64 pv,.int .i64 pm,.int .i64 pc,.int .i64 0,.int .i64 pk'] 27 (0,0))))
  case first =>
   rcases HCNT.out with ⟨hlt2,rfl,rfl⟩ | ⟨h2f,hpk,hpk0,rfl,hcall⟩
   · have hd2:decide (2≤f)=false:=decide_eq_false (by omega)
     rw [hd2]
     clear hlt2 hd2
     go_wp2_with fail
     go_meet
     case rel=>exact ⟨rfl,HB3.out,HO3.out,HZ3.out,HP3.out⟩
   · have hd2:decide (2≤f)=true:=decide_eq_true h2f
     rw [hd2]
     have HCC:Hid _:=hcall
     have hpk9:¬ (99999:Int)<pk:=by omega
     have hpw:IntKind.i64.wrap (pk+1)=pk+1:=by rw [IntKind.wrap_i64];omega
     clear h2f hcall hd2
     obtain ⟨o0,o1,o2,o3,o4⟩:=cells_5 HO3.out
     obtain ⟨a0,a1,a2,a3,a4,a5,a6⟩:=cells_7 HP3.out
     go_wp2_with fail
     refine (HCC.out _ HB3.out).mono ?_
     rintro e w4 ⟨rfl,hb4⟩
     have HB4:Hid _:=trans2 HB3.out hb4
     have HO4:Hid _:=kept_block hb4 HO3.out
     have HZ4:Hid _:=kept_block hb4 HZ3.out
     have HP4:Hid _:=kept_block hb4 HP3.out
     clear hb4 o0 o1 o2 o3 o4 a0 a1 a2 a3 a4 a5 a6
     obtain ⟨a0,a1,a2,a3,a4,a5,a6⟩:=cells_7 HP4.out
     have hfp:=free_7 HP4.out
     go_wp2_with fail
     go_meet
     case rel=>exact ⟨rfl,HB4.out.setCell (by show w.heap.size≤pb;omega) _,other_blk HO4.out (by omega),other_blk HZ4.out (by omega),same_blk HP4.out rfl⟩
  case rest =>
   clear HB3 HO3 HZ3 HP3
   obtain ⟨rfl,HB3,HO3,HZ3,HP3⟩:=hcut
   clear HCNT
   have HR3:Hid _:=HR.out.below HB3.out
   have HG3:Hid _:=HG.out.below HB3.out
   have hkey:keyOf Tryz.prog 9 (.string a)=some (ky a):=WideMaps.keyOf_string_mk Tryz.underlying9 (by unfold maxLen;omega)
   obtain ⟨r0,r1,r2,r3⟩:=cells_4 HR3.out.box
   have hrl3:=HR3.out.lt.1
   have hol3:=(Array.getElem?_eq_some_iff.1 HO3.out).1
   have hpl3:=(Array.getElem?_eq_some_iff.1 HP3.out).1
   have hzl3:=(Array.getElem?_eq_some_iff.1 HZ3.out).1
   go_upto_if 64 with (first
    | (at_lookup;refine wpList_lookup_own_ok _ rfl _ _ 52 rfl 9 27 keyed Tryz.underlying52 raw (zeroF _) (.held zf) [] rfl mb n D rfl HR3.out.map _ (ky a) rfl hkey ?_;intro u ps hu;obtain rfl:=look_of hu;rw [HNL.out,HNH.out];clear hu)
    | (at_len;refine wpList_len_own _ rfl _ 52 rfl 9 27 Tryz.underlying52 raw mb n D rfl (World.ownsMap.alloc HR3.out.map _) ?_;have hsl:=HSL.out)
    | fail)
   have HZ4:Hid _:=new_old HZ3.out (.cells #[.string zp,.string zd,.int .i64 zv,.int .i64 zm,.int .i64 zc,.int .i64 zo,.int .i64 zk] 27)
   have HB4:Hid _:=HB3.out.alloc HB3.out.size (.cells #[.string zp,.string zd,.int .i64 zv,.int .i64 zm,.int .i64 zc,.int .i64 zo,.int .i64 zk] 27)
   obtain ⟨w4,hw4⟩:∃ x,wc.alloc (.cells #[.string zp,.string zd,.int .i64 zv,.int .i64 zm,.int .i64 zc,.int .i64 zo,.int .i64 zk] 27)=x:=⟨_,rfl⟩
   rw [hw4] at HZ4 HB4 ⊢
   clear hw4
   obtain ⟨b0,b1,b2,b3,b4,b5,b6⟩:=cells_7 HZ4.out
   have hfz:=free_7 HZ4.out
   go_wp2_with fail
   exact bodyPost_ret (results_cell_tmp rfl _ _ (w.heap.size+1) 103 _ (0,0) _ (.int .i64 46) rfl rfl (fill_7 HZ4.out) Tryz.underlying103 rfl (by kernel_rfl)) rfl ⟨rfl,fillB_7 HB4.out (by omega)⟩
end Go.Proofs.YtckmihplkhmpnaaGreatDoor
