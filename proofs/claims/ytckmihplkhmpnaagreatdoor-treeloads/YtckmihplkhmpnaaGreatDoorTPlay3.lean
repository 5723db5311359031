import Derived.Test.YtckmihplkhmpnaaGreatDoorTDrop
import Derived.Test.YtckmihplkhmpnaaGreatDoorShelfG
import Derived.Deep.Cut
namespace Go.Proofs.YtckmihplkhmpnaaGreatDoor
open Go.RowKit Go.Maps
set_option linter.unusedVariables false
set_option linter.unusedSimpArgs false
set_option maxHeartbeats 3200000 in
theorem mayPlay_ok {w:World} {tb mb:Nat} (h:w.cell? ⟨tb,0,none⟩=some (.map (some mb))) (s st n:Int) (h0:0≤s) (h1:s≤2147483647) (h2:1≤st) (h3:st≤2147483647) (h4:1≤n) (h5:n≤4) :
  Calls Tryz.prog 41 #[.pointer (some ⟨tb,0,none⟩),.int .i64 s,.int .i64 st,.int .i64 n] w fun e w'=>e=.returned (.int .i64 0)∧w'=w:=by
 have HN:Hid _:=isNone_at tb (some mb) w h
 have q1:¬ s<0:=by omega
 have q2:¬ 2147483647<s:=by omega
 have q3:¬ st<1:=by omega
 have q4:¬ 2147483647<st:=by omega
 have q5:¬ 4<n:=by omega
 have q6:(n==0)=false:=by simp;omega
 clear h h0 h1 h2 h3 h4 h5
 go_enter Tryz.func41,Tryz.ntmps41
 go_wp2_with (first | (go_at_call 19;refine Calls.mono HN.out ?_;rintro e w1 ⟨rfl,rfl⟩) | fail)
 go_ret
 exact ⟨rfl,rfl⟩
theorem cloneMap_any (b n:Nat) (D:DataW Value) (w:World) (hm:MapAt w b n D) :
  Calls Tryz.prog 42 #[.map (some b)] w fun e w'=>e=.returned (.map (some w.heap.size))∧MapAt w' w.heap.size n D∧Below w.heap.size w w':=by
 have h:=AnyW.maps_Clone_owns Tryz.cloneM 9 raw b n D w hm
 refine Calls.mono h ?_
 rintro e w' ⟨h1,h2,_,h4⟩
 exact ⟨h1,h2,h4⟩
theorem Tryz.infoR:(Tryz.prog.info? 103).map (fun i=>(i.zero,i.size,i.bytes))=some (some (.agg #[.string ⟨#[]⟩,.string ⟨#[]⟩,.int .i64 0,.int .i64 0,.int .i64 0,.int .i64 0,.slice none 0 0]),7,88):=by kernel_rfl
set_option maxHeartbeats 16000000 in
set_option maxRecDepth 100000 in
theorem play1_mal {k:Int} (g1:1≤k) (g7:k≤7) (base tb mb n ob:Nat) (D:DataW Value) (s st:Int) (p d:ByteArray) (v f:Int) (hf:k=1→0≤f∧f≤3) (w:World) (hg:GroundT w) (hT:TreeAt w base tb mb n D) (hop:w.heap[ob]? = some (.cells #[.int .i64 k,.string p,.string d,.int .i64 v,.int .i64 f] 66 (0,0)))
  (c:Int) (hc:malC s k p d f=c) (hc0:c≠0) (h0:0≤s) (h1:s≤2147483647) (h2:1≤st) (h3:st≤2147483647) :
  Calls Tryz.prog 18 #[.pointer (some ⟨tb,0,none⟩),.int .i64 s,.int .i64 st,.slice (some ⟨ob,0,none⟩) 1 1] w fun e w'=>e=.returned (.tuple #[.agg #[.int .i64 st,.int .i64 c,.int .i64 0,.slice none 0 0],.slice none 0 0])∧Below w.heap.size w w':=by
 obtain ⟨i0,hi0,hz0,hz1,hz2⟩:=info_parts Tryz.infoR
 have HMP:Hid (∀ W,W.cell? ⟨tb,0,none⟩=some (.map (some mb))→Calls Tryz.prog 41 #[.pointer (some ⟨tb,0,none⟩),.int .i64 s,.int .i64 st,.int .i64 1] W fun e w'=>e=.returned (.int .i64 0)∧w'=W):=fun W hW=>mayPlay_ok hW s st 1 h0 h1 h2 h3 (by decide) (by decide)
 have HPM:Hid (∀ W rb mb',GroundT W→ReqAt W w.heap.size rb mb' n D s st (.slice none 0 0) 0 []→Calls Tryz.prog 43 #[.pointer (some ⟨rb,0,none⟩),opV k p d v f] W fun e w'=>e=.returned (.tuple #[.agg #[.string ⟨#[]⟩,.string ⟨#[]⟩,.int .i64 0,.int .i64 0,.int .i64 0,.int .i64 0,.slice none 0 0],.int .i64 c])∧Below W.heap.size W w'):=fun W rb mb' hW hR=>play_mal g1 g7 w.heap.size rb mb' n D s st (.slice none 0 0) 0 [] p d v f hf W hW hR c hc hc0
 have HG:Hid _:=hg
 have HT:Hid _:=hT
 have HOP:Hid _:=hop
 have hcb:(c==0)=false:=by simp [hc0]
 have htl:tb<w.heap.size:=(Array.getElem?_eq_some_iff.1 hT.box).1
 have hol:ob<w.heap.size:=(Array.getElem?_eq_some_iff.1 hop).1
 have htc:=cells_1 hT.box
 clear g1 g7 hf hg hT hop hc h0 h1 h2 h3
 go_enter Tryz.func18,Tryz.ntmps18
 have HW0:Hid (Below w.heap.size w (w.alloc (.cells #[.int .i64 0,.int .i64 0,.int .i64 0,.slice none 0 0] 61))):=(Below.refl _ _).alloc (Nat.le_refl _) _
 have HCL:Hid _:=cloneMap_any mb n D (w.alloc (.cells #[.int .i64 0,.int .i64 0,.int .i64 0,.slice none 0 0] 61)) (map_below HT.out.map HW0.out)
 go_wp2_with (first
  | (go_at_call 41;refine (HMP.out _ (cells_1 (HT.out.below HW0.out).box)).mono ?_;rintro e w1 ⟨rfl,rfl⟩)
  | (go_at_call 42;refine Calls.mono HCL.out ?_;rintro e w1 ⟨rfl,hm1,hb1⟩
     have HB1:Hid (Below w.heap.size w w1):=trans2 HW0.out hb1
     rw [World.size_alloc] at hm1
     have HM1:Hid (MapAt w1 (w.heap.size+1) n D):=hm1
     have HZ1:Hid (w1.heap[w.heap.size]? = some (.cells #[.int .i64 0,.int .i64 0,.int .i64 0,.slice none 0 0] 61 (0,0))):=kept_block hb1 (heap_alloc_new _ _)
     have hs1:w.heap.size+1≤w1.heap.size:=by have:=hb1.size;simpa using this
     clear hb1 hm1 htc)
  | (at_make;refine wpList_make_full _ rfl _ _ _ rfl w.heap.size 103 i0 _ 7 Tryz.underlying59 hi0 hz0 hz1 .i64 .i64 1 1 1 rfl rfl rfl rfl (by rw [hz2];decide) (by unfold maxLen;decide) (by simp;omega) ?_;intro w2 hown2 hgrow2
     have HO2:Hid _:=hown2
     have HG2:Hid _:=hgrow2
     clear hown2 hgrow2)
  | fail)
 have hs2:=HG2.out.size
 simp only [World.size_alloc] at hs2
 have HB12:Hid (Below w1.heap.size w1 w2):=((Chg.alloc w1 _ (fun _=>False)).trans ((Chg.grown HG2.out).mono (fun _ _ e=>by cases e))).below (Nat.le_refl _) (fun _ _ h=>h.elim)
 have HB2:Hid (Below w.heap.size w w2):=trans2 HB1.out HB12.out
 have HR2:Hid (ReqAt w2 w.heap.size w1.heap.size (w.heap.size+1) n D s st (.slice none 0 0) 0 []) :=
  ⟨by rw [HG2.out.block w1.heap.size (by simp) (fun e=>by cases e)];exact heap_alloc_new _ _,map_below HM1.out HB12.out,World.ownsRow_nil _ _ _ _,by omega⟩
 have HGd2:Hid (GroundT w2):=HG.out.below HB2.out
 have HOP2:Hid _:=kept_block HB2.out HOP.out
 have HZ2:Hid _:=kept_block HB12.out HZ1.out
 obtain ⟨o0,o1,o2,o3,o4⟩:=cells_5 HOP2.out
 refine wp_loop_rounds 1 ?_
 rw [rounds_succ]
 go_wp2_with fail
 refine (HPM.out _ w1.heap.size (w.heap.size+1) (HGd2.out.below ((Below.refl _ _).alloc (Nat.le_refl _) _)) (HR2.out.below ((Below.refl _ _).alloc (Nat.le_refl _) _))).mono ?_
 rintro e w3 ⟨rfl,hb3⟩
 have HB3:Hid (Below w.heap.size w w3):=trans2 (HB2.out.alloc (by omega) _) hb3
 have HZ3:Hid (w3.heap[w.heap.size]? = some (.cells #[.int .i64 0,.int .i64 0,.int .i64 0,.slice none 0 0] 61 (0,0))):=kept_block hb3 (new_old HZ2.out _)
 obtain ⟨z0,z1,z2,z3⟩:=cells_4 HZ3.out
 have hfz:=free_4 HZ3.out
 have hzl3:w.heap.size<w3.heap.size:=(Array.getElem?_eq_some_iff.1 HZ3.out).1
 clear hb3 o0 o1 o2 o3 o4
 go_wp2_with fail
 exact bodyPost_ret (results_cell_tmp rfl _ _ w.heap.size 61 _ (0,0) _ (.slice none 0 0) rfl rfl (new_old (fill_4 HZ3.out) _) Tryz.underlying61 rfl (by kernel_rfl)) rfl ⟨rfl,(fillB_4 HB3.out (Nat.le_refl _)).alloc (by have:=HB3.out.size;simp;omega) _⟩
end Go.Proofs.YtckmihplkhmpnaaGreatDoor
namespace Go.Proofs.YtckmihplkhmpnaaGreatDoor
open Go.RowKit Go.Maps
set_option linter.unusedVariables false
set_option linter.unusedSimpArgs false
theorem chg_drew (w:World) (S:Nat→Prop):Chg w w.drew S:=⟨rfl,rfl,rfl,Nat.le_refl _,fun _ _ _=>rfl⟩
theorem heap_drew_at (w:World) (k:Nat):w.drew.heap[k]? = w.heap[k]?:=rfl
theorem putC_4 {w:World} {g:Nat} {x0 x1 x2 x3:Value}:Chg w (put_4 w g x0 x1 x2 x3) (fun k=>k=g) :=
 (((Chg.set w ⟨g,0,none⟩ x0).trans (Chg.set _ ⟨g,1,none⟩ x1)).trans (Chg.set _ ⟨g,2,none⟩ x2)).trans (Chg.set _ ⟨g,3,none⟩ x3)
set_option maxHeartbeats 16000000 in
set_option maxRecDepth 100000 in
theorem play1_make (base tb mb n ob:Nat) (D:DataW Value) (s st:Int) (p d:ByteArray) (v:Int) (pp pd:ByteArray) (pv pm pc pk:Int) (zp zd:ByteArray) (zv zm zc zo zk:Int) (w:World) (hg:GroundT w) (hT:TreeAt w base tb mb n D) (hop:w.heap[ob]? = some (.cells #[.int .i64 1,.string p,.string d,.int .i64 v,.int .i64 0] 66 (0,0)))
  (hmal:malC s 1 p d 0=0) (hpl:look D (parB p)=fuV pp pd pv pm pc 0 pk) (hph:Maps.has D (ky (parB p))=true) (hnl:look D p=fuV zp zd zv zm zc zo zk) (hnh:Maps.has D (ky p)=false) (hfull:Maps.size D<64)
  (k1:p.size≤1000) (k2:d.size≤1000) (k3:pp.size≤1000) (k4:pd.size≤1000) (k5:(parB p).size≤1000) (hn:n≤10000) (h0:0≤s) (h1:s≤2147483647) (h2:1≤st) (h3:st≤2147483647) :
  Calls Tryz.prog 18 #[.pointer (some ⟨tb,0,none⟩),.int .i64 s,.int .i64 st,.slice (some ⟨ob,0,none⟩) 1 1] w fun e w'=>∃ g cap chV mb',e=.returned (.tuple #[.agg #[.int .i64 st,.int .i64 0,.int .i64 0,.slice (some ⟨g,0,none⟩) 1 cap],chV])∧w.heap.size≤mb'∧TreeAt w' base tb mb' (n+1+1) ((D.put (ky pp) (.held (fuV pp pd pv pm pc 0 pk))).put (ky p) (.held (fuV p d 0 st st 0 0)))∧w'.ownsRow w.heap.size 69 4 chV 1 [.int .i64 1,.string p,.string d,.int .i64 0]∧Chg w w' (fun k=>k=tb):=by
 obtain ⟨i0,hi0,hz0,hz1,hz2⟩:=info_parts Tryz.infoR
 have HMP:Hid (∀ W,W.cell? ⟨tb,0,none⟩=some (.map (some mb))→Calls Tryz.prog 41 #[.pointer (some ⟨tb,0,none⟩),.int .i64 s,.int .i64 st,.int .i64 1] W fun e w'=>e=.returned (.int .i64 0)∧w'=W):=fun W hW=>mayPlay_ok hW s st 1 h0 h1 h2 h3 (by decide) (by decide)
 have HPM:Hid (∀ W rb mb',GroundT W→ReqAt W w.heap.size rb mb' n D s st (.slice none 0 0) 0 []→Calls Tryz.prog 43 #[.pointer (some ⟨rb,0,none⟩),opV 1 p d v 0] W fun e w'=>e=.returned (.tuple #[.agg #[.string p,.string ⟨#[]⟩,.int .i64 0,.int .i64 st,.int .i64 st,.int .i64 0,.slice none 0 0],.int .i64 0])∧∃ chV',ReqAt w' w.heap.size rb mb' (n+1+1) ((D.put (ky pp) (.held (fuV pp pd pv pm pc 0 pk))).put (ky p) (.held (fuV p d 0 st st 0 0))) s st chV' (0+1) ([] ++ [.int .i64 1,.string p,.string d,.int .i64 0])∧(chV'.ownBlock=(Value.slice none 0 0).ownBlock∨∃ g,chV'.ownBlock=some g∧W.heap.size≤g)∧Chg W w' (fun k=>k=rb∨k=mb'∨(Value.slice none 0 0).ownBlock=some k)):=fun W rb mb' hW hR=>play_make w.heap.size rb mb' n D s st (.slice none 0 0) 0 [] p d v pp pd pv pm pc pk zp zd zv zm zc zo zk W hW hR hmal hpl hph hnl hnh hfull k1 k2 k3 k4 k5 hn (by decide)
 have HG:Hid _:=hg
 have HT:Hid _:=hT
 have HOP:Hid _:=hop
 have htl:tb<w.heap.size:=(Array.getElem?_eq_some_iff.1 hT.box).1
 have hol:ob<w.heap.size:=(Array.getElem?_eq_some_iff.1 hop).1
 have htc:=cells_1 hT.box
 clear hg hT hop hmal hpl hph hnl hnh hfull k1 k2 k3 k4 k5 h0 h1 h2 h3
 go_enter Tryz.func18,Tryz.ntmps18
 have HW0:Hid (Below w.heap.size w (w.alloc (.cells #[.int .i64 0,.int .i64 0,.int .i64 0,.slice none 0 0] 61))):=(Below.refl _ _).alloc (Nat.le_refl _) _
 have HCL:Hid _:=cloneMap_any mb n D (w.alloc (.cells #[.int .i64 0,.int .i64 0,.int .i64 0,.slice none 0 0] 61)) (map_below HT.out.map HW0.out)
 go_wp2_with (first
  | (go_at_call 41;refine (HMP.out _ (cells_1 (HT.out.below HW0.out).box)).mono ?_;rintro e w1 ⟨rfl,rfl⟩)
  | (go_at_call 42;refine Calls.mono HCL.out ?_;rintro e w1 ⟨rfl,hm1,hb1⟩
     have HB1:Hid (Below w.heap.size w w1):=trans2 HW0.out hb1
     rw [World.size_alloc] at hm1
     have HM1:Hid (MapAt w1 (w.heap.size+1) n D):=hm1
     have HZ1:Hid (w1.heap[w.heap.size]? = some (.cells #[.int .i64 0,.int .i64 0,.int .i64 0,.slice none 0 0] 61 (0,0))):=kept_block hb1 (heap_alloc_new _ _)
     have hs1:w.heap.size+1≤w1.heap.size:=by have:=hb1.size;simpa using this
     clear hb1 hm1 htc)
  | (at_make;refine wpList_make_full _ rfl _ _ _ rfl w.heap.size 103 i0 _ 7 Tryz.underlying59 hi0 hz0 hz1 .i64 .i64 1 1 1 rfl rfl rfl rfl (by rw [hz2];decide) (by unfold maxLen;decide) (by simp;omega) ?_;intro w2 hown2 hgrow2
     have HO2:Hid _:=hown2
     have HG2:Hid _:=hgrow2
     clear hown2 hgrow2)
  | fail)
 have hs2:=HG2.out.size
 simp only [World.size_alloc] at hs2
 have HB12:Hid (Below w1.heap.size w1 w2):=((Chg.alloc w1 _ (fun _=>False)).trans ((Chg.grown HG2.out).mono (fun _ _ e=>by cases e))).below (Nat.le_refl _) (fun _ _ h=>h.elim)
 have HB2:Hid (Below w.heap.size w w2):=trans2 HB1.out HB12.out
 have HR2:Hid (ReqAt w2 w.heap.size w1.heap.size (w.heap.size+1) n D s st (.slice none 0 0) 0 []) :=
  ⟨by rw [HG2.out.block w1.heap.size (by simp) (fun e=>by cases e)];exact heap_alloc_new _ _,map_below HM1.out HB12.out,World.ownsRow_nil _ _ _ _,by omega⟩
 have HGd2:Hid (GroundT w2):=HG.out.below HB2.out
 have HOP2:Hid _:=kept_block HB2.out HOP.out
 have HZ2:Hid _:=kept_block HB12.out HZ1.out
 obtain ⟨o0,o1,o2,o3,o4⟩:=cells_5 HOP2.out
 refine wp_loop_rounds 2 ?_
 rw [rounds_succ]
 go_wp2_with fail
 refine (HPM.out _ w1.heap.size (w.heap.size+1) (HGd2.out.below ((Below.refl _ _).alloc (Nat.le_refl _) _)) (HR2.out.below ((Below.refl _ _).alloc (Nat.le_refl _) _))).mono ?_
 rintro e w3 ⟨rfl,chV,hR3,hL3,hC3⟩
 have HR3:Hid _:=hR3
 have HC23:Hid (Chg w2 w3 (fun k=>k=w1.heap.size∨k=w.heap.size+1)):=((Chg.alloc w2 _ _).trans hC3).mono (fun k _ h=>by
  rcases h with h | h | h
  · exact .inl h
  · exact .inr h
  · cases h)
 have HB3:Hid (Below w.heap.size w w3):=HB2.out.trans (HC23.out.below HB2.out.size (fun k _ h=>by rcases h with h | h <;> omega))
 have HRS:Hid (w2.heap[w1.heap.size+1]? = some (.cells #[.string ⟨#[]⟩,.string ⟨#[]⟩,.int .i64 0,.int .i64 0,.int .i64 0,.int .i64 0,.slice none 0 0] 103 (0,0))):=by
  rcases HO2.out.2 with ⟨h,_⟩ | ⟨g',cap',cur,hv,_,hb',_,_,h3',h4'⟩
  · cases h
  · simp only [Value.slice.injEq,Option.some.injEq,Addr.mk.injEq,World.size_alloc] at hv
    obtain ⟨⟨rfl,_⟩,_,rfl⟩:=hv
    rw [hb']
    rw [List.take_of_length_le (by rw [Array.length_toList,h3'];exact Nat.le_refl _)] at h4'
    have:cur=#[.string ⟨#[]⟩,.string ⟨#[]⟩,.int .i64 0,.int .i64 0,.int .i64 0,.int .i64 0,.slice none 0 0]:=Array.ext' (by rw [h4'];kernel_rfl)
    rw [this]
    exact rfl
 have HRS3:Hid _:=kept_chg HC23.out HRS.out (by omega)
 have HZ3:Hid (w3.heap[w.heap.size]? = some (.cells #[.int .i64 0,.int .i64 0,.int .i64 0,.slice none 0 0] 61 (0,0))):=kept_chg HC23.out HZ2.out (by omega)
 obtain ⟨y0,y1,y2,y3,y4,y5,y6⟩:=cells_7 HRS3.out
 have hfy:=free_7 HRS3.out
 have hyl3:w1.heap.size+1<w3.heap.size:=(Array.getElem?_eq_some_iff.1 HRS3.out).1
 clear hR3 hL3 hC3 o0 o1 o2 o3 o4
 go_wp2_with fail
 generalize hw4:(put_7 w3 (w1.heap.size+1) (.string p) (.string ⟨#[]⟩) (.int .i64 0) (.int .i64 st) (.int .i64 st) (.int .i64 0) (.slice none 0 0)).alloc (.cells #[.string p,.string ⟨#[]⟩,.int .i64 0,.int .i64 st,.int .i64 st,.int .i64 0,.slice none 0 0] 103)=w4
 have HC34:Hid (Chg w3 w4 (fun k=>k=w1.heap.size+1)):=by rw [← hw4];exact putC_7.trans (Chg.alloc _ _ _)
 have hmb:=HT.out.map.lt
 have hgb:∀ k,chV.ownBlock=some k→¬ k=w1.heap.size+1:=fun k hk e=>by
  obtain ⟨cur,hcur⟩:=owns_kind HR3.out.row hk
  rw [e,HRS3.out] at hcur
  simp at hcur
 have HR4:Hid _:=HR3.out.chg HC34.out (by omega) (by omega) hgb
 have HB4:Hid (Below w.heap.size w w4):=HB3.out.trans (HC34.out.below HB3.out.size (fun k _ e=>by omega))
 have HZ4:Hid _:=kept_chg HC34.out HZ3.out (by omega)
 have HTB4:Hid _:=kept_block HB4.out HT.out.box
 have HRS4:Hid (w4.heap[w1.heap.size+1]? = some (.cells #[.string p,.string ⟨#[]⟩,.int .i64 0,.int .i64 st,.int .i64 st,.int .i64 0,.slice none 0 0] 103 (0,0))):=by rw [← hw4];exact new_old (fill_7 HRS3.out) _
 clear hw4 y0 y1 y2 y3 y4 y5 y6 hfy hyl3
 obtain ⟨r0,r1,r2,r3⟩:=cells_4 HR4.out.box
 have t0:=cells_1 HTB4.out
 have hft:=free_1 HTB4.out
 rw [rounds_succ]
 go_wp2_with fail
 generalize hw5:w4.setCell ⟨tb,0,none⟩ (.map (some (w.heap.size+1)))=w5
 have HC45:Hid (Chg w4 w5 (fun k=>k=tb)):=by rw [← hw5];exact Chg.set w4 ⟨tb,0,none⟩ _
 have HTB5:Hid (w5.heap[tb]? = some (.cells #[.map (some (w.heap.size+1))] 57 (0,0))):=by rw [← hw5];exact same_blk HTB4.out rfl
 have hgb5:∀ k,chV.ownBlock=some k→¬ k=tb:=fun k hk e=>by
  obtain ⟨cur,hcur⟩:=owns_kind HR4.out.row hk
  rw [e,HTB4.out] at hcur
  simp at hcur
 have HR5:Hid _:=HR4.out.chg HC45.out (by omega) (by omega) hgb5
 have HZ5:Hid _:=kept_chg HC45.out HZ4.out (by omega)
 clear hw5 r0 r1 r2 r3 t0 hft
 obtain ⟨r0,r1,r2,r3⟩:=cells_4 HR5.out.box
 obtain ⟨z0,z1,z2,z3⟩:=cells_4 HZ5.out
 have hfz:=free_4 HZ5.out
 have hrq:w1.heap.size≠w.heap.size:=by omega
 go_region_held3 (fun w'=>w'.cell? ⟨w1.heap.size,3,none⟩=some chV) (first | (simp only [World.cell?_drew,cellN hrq,r3];done) | go_keep) (fail)
 go_wp2_with fail
 have hgb6:∀ k,chV.ownBlock=some k→¬ k=w.heap.size:=fun k hk e=>by
  obtain ⟨cur,hcur⟩:=owns_kind HR5.out.row hk
  rw [e,HZ5.out] at hcur
  simp at hcur
 have hlo:=HT.out.lo
 have HC56:Hid (Chg w5 (put_4 w5 w.heap.size (.int .i64 st) (.int .i64 0) (.int .i64 0) (.slice (some ⟨w1.heap.size+1,0,none⟩) 1 1)).drew (fun k=>k=w.heap.size)):=putC_4.trans (chg_drew _ _)
 have HZ6:Hid ((put_4 w5 w.heap.size (.int .i64 st) (.int .i64 0) (.int .i64 0) (.slice (some ⟨w1.heap.size+1,0,none⟩) 1 1)).drew.heap[w.heap.size]? = some (.cells #[.int .i64 st,.int .i64 0,.int .i64 0,.slice (some ⟨w1.heap.size+1,0,none⟩) 1 1] 61 (0,0))):=(heap_drew_at _ _).trans (fill_4 HZ5.out)
 have HRW:Hid ((put_4 w5 w.heap.size (.int .i64 st) (.int .i64 0) (.int .i64 0) (.slice (some ⟨w1.heap.size+1,0,none⟩) 1 1)).drew.ownsRow w.heap.size 69 4 chV 1 [.int .i64 1,.string p,.string d,.int .i64 0]):=owns_chg HR5.out.row HC56.out hgb6
 have HTA:Hid (TreeAt (put_4 w5 w.heap.size (.int .i64 st) (.int .i64 0) (.int .i64 0) (.slice (some ⟨w1.heap.size+1,0,none⟩) 1 1)).drew base tb (w.heap.size+1) (n+1+1) ((D.put (ky pp) (.held (fuV pp pd pv pm pc 0 pk))).put (ky p) (.held (fuV p d 0 st st 0 0)))):=⟨kept_chg HC56.out HTB5.out (by omega),map_chg HR5.out.map HC56.out (by omega),hlo,by omega⟩
 have HCA:Hid (Chg w (put_4 w5 w.heap.size (.int .i64 st) (.int .i64 0) (.int .i64 0) (.slice (some ⟨w1.heap.size+1,0,none⟩) 1 1)).drew (fun k=>k=tb)):=(((Chg.of_below HB4.out (fun k=>k=tb∨k=w.heap.size)).trans (HC45.out.mono (fun _ _ e=>.inl e))).trans (HC56.out.mono (fun _ _ e=>.inr e))).mono (fun k hk e=>e.elim id (fun e=>absurd hk (by omega)))
 exact bodyPost_ret (results_cell_tmp rfl _ _ w.heap.size 61 _ (0,0) _ chV rfl rfl HZ6.out Tryz.underlying61 rfl (by kernel_rfl)) rfl ⟨w1.heap.size+1,1,chV,w.heap.size+1,rfl,by omega,HTA.out,HRW.out,HCA.out⟩
end Go.Proofs.YtckmihplkhmpnaaGreatDoor
