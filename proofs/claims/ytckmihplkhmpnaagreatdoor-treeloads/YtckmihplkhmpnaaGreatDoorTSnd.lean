import Derived.Test.YtckmihplkhmpnaaGreatDoorTPlayM
namespace Go.Proofs.YtckmihplkhmpnaaGreatDoor
open Go.RowKit Go.Maps Go.WideShapes
set_option linter.unusedVariables false
set_option linter.unusedSimpArgs false
attribute [local go_sem ↓] Go.wp_at_zero Go.wp_at_succ
abbrev rpZ:Obj:=.cells #[.int .i64 0,.int .i64 0,.int .i64 0,.slice none 0 0] 61
structure PlayE (w:World) (base tb mb n:Nat) (M:PlayR) (L:List RsT) (rv chV:Value) (w':World):Prop where
 res:L.map RsT.r=M.R
 row:RsAt w' w.heap.size rv L.length L
 ch:w'.ownsRow w.heap.size 69 4 chV M.C.length (chCs M.C)
 tree:∃ mb' n' D',(mb'=mb∨w.heap.size≤mb')∧n'≤n+8∧TreeAt w' base tb mb' n' D'∧Rep D' M.T
 chg:Chg w w' (fun k=>k=tb)
theorem PlayE.none {w w':World} {base tb mb n:Nat} {D:DataW Value} {T:List Nd} {c:Int} {i:Nat} (hT:TreeAt w base tb mb n D) (hr:Rep D T) (hb:Below w.heap.size w w'):PlayE w base tb mb n ⟨c,i,T,[],[]⟩ [] (.slice none 0 0) (.slice none 0 0) w' :=
 ⟨rfl,⟨World.ownsRow_nil _ _ _ _,Nat.le_refl _,fun x hx=>by cases hx⟩,World.ownsRow_nil _ _ _ _,⟨mb,n,D,.inl rfl,by omega,hT.below hb,hr⟩,Chg.of_below hb _⟩
set_option maxHeartbeats 8000000 in
set_option maxRecDepth 100000 in
theorem playT_no (base tb mb n:Nat) (D:DataW Value) (T:List Nd) (s st:Int) (a:Option Addr) (N c:Nat) (w:World) (hT:TreeAt w base tb mb n D) (hr:Rep D T) (hc:mayC s st N≠0) :
  Calls Tryz.prog 18 #[.pointer (some ⟨tb,0,none⟩),.int .i64 s,.int .i64 st,.slice a N c] w fun e w'=>e=.returned (.tuple #[.agg #[.int .i64 st,.int .i64 (mayC s st N),.int .i64 0,.slice none 0 0],.slice none 0 0])∧Below w.heap.size w w':=by
 have HT:Hid _:=hT
 have HMP:Hid (∀ W:World,W.cell? ⟨tb,0,none⟩=some (.map (some mb))→Calls Tryz.prog 41 #[.pointer (some ⟨tb,0,none⟩),.int .i64 s,.int .i64 st,.int .i64 (N:Int)] W fun e w'=>e=.returned (.int .i64 (mayC s st N))∧w'=W):=fun W hW=>mayPlay_any hW s st N
 obtain ⟨cc,hcc⟩:∃ cc,mayC s st N=cc:=⟨_,rfl⟩
 rw [hcc] at HMP hc ⊢
 have hcb:(cc==0)=false:=by simp [hc]
 have hcn:(cc != 0)=true:=by simp [hc]
 clear hT hr hcc hc
 go_enter Tryz.func18,Tryz.ntmps18
 have HW0:Hid (Below w.heap.size w (w.alloc rpZ)):=(Below.refl _ _).alloc (Nat.le_refl _) _
 go_wp2_with (first
  | (go_at_call 41;refine (HMP.out _ (cells_1 (HT.out.below HW0.out).box)).mono ?_;rintro e w1 ⟨rfl,rfl⟩)
  | fail)
 exact bodyPost_ret (results_cell_tmp rfl _ _ w.heap.size 61 _ (0,0) _ (.slice none 0 0) rfl rfl (heap_alloc_new _ _) Tryz.underlying61 rfl (by kernel_rfl)) rfl ⟨rfl,(Below.refl _ _).alloc (Nat.le_refl _) _⟩
set_option maxHeartbeats 16000000 in
set_option maxRecDepth 100000 in
theorem playT_yes (base tb mb n:Nat) (D:DataW Value) (T:List Nd) (s st:Int) (a:Option Addr) (c:Nat) (os:List OpT) (w:World) (hg:GroundT w) (hgc:GroundC w) (hT:TreeAt w base tb mb n D) (hr:Rep D T) (hi:Inv T) (hn:n≤8000) (ho:OpsAt w w.heap.size a os) (hok:∀ o∈os,o.Ok) (hc:mayC s st os.length=0) :
  Calls Tryz.prog 18 #[.pointer (some ⟨tb,0,none⟩),.int .i64 s,.int .i64 st,.slice a os.length c] w fun e w'=>∃ L rv chV,e=.returned (.tuple #[.agg #[.int .i64 st,.int .i64 (playL T s st os 0 T [] []).code,.int .i64 (playL T s st os 0 T [] []).at',rv],chV])∧PlayE w base tb mb n (playL T s st os 0 T [] []) L rv chV w':=by
 obtain ⟨i0,hi0,hz0,hz1,hz2⟩:=info_parts Tryz.infoR
 have hN4:1≤os.length∧os.length≤4:=by
  unfold mayC at hc
  split at hc
  · cases hc
  split at hc
  · cases hc
  split at hc
  · cases hc
  omega
 obtain ⟨N,hN⟩:∃ N,os.length=N:=⟨_,rfl⟩
 rw [hN] at hN4 hc ⊢
 have HMP:Hid (∀ W:World,W.cell? ⟨tb,0,none⟩=some (.map (some mb))→Calls Tryz.prog 41 #[.pointer (some ⟨tb,0,none⟩),.int .i64 s,.int .i64 st,.int .i64 (N:Int)] W fun e w'=>e=.returned (.int .i64 0)∧w'=W):=fun W hW=>by
  have:=mayPlay_any hW s st N
  rw [hc] at this
  exact this
 obtain ⟨M,hM⟩:∃ M,playL T s st os 0 T [] []=M:=⟨_,rfl⟩
 have HM0:Hid (playL T s st os 0 T [] []=M):=hM
 rw [hM]
 have HG:Hid _:=hg
 have HGC:Hid _:=hgc
 have HT:Hid _:=hT
 have HRP:Hid _:=hr
 have HI:Hid _:=hi
 have HO:Hid _:=ho
 have HOK:Hid _:=hok
 have HNL:Hid (os.length=N):=hN
 have HNN:Hid (n≤8000):=hn
 have htl:tb<w.heap.size:=(Array.getElem?_eq_some_iff.1 hT.box).1
 have htc:=cells_1 hT.box
 have hN1:=hN4.1
 have hN4':=hN4.2
 clear hg hgc hT hr hi ho hok hc hN hM hn hN4
 go_enter Tryz.func18,Tryz.ntmps18
 have HW0:Hid (Below w.heap.size w (w.alloc rpZ)):=(Below.refl _ _).alloc (Nat.le_refl _) _
 have HCL:Hid _:=cloneMap_any mb n D (w.alloc rpZ) (map_below HT.out.map HW0.out)
 go_wp2_with (first
  | (go_at_call 41;refine (HMP.out _ (cells_1 (HT.out.below HW0.out).box)).mono ?_;rintro e w1 ⟨rfl,rfl⟩)
  | (go_at_call 42;refine Calls.mono HCL.out ?_;rintro e w1 ⟨rfl,hm1,hb1⟩
     have HB1:Hid (Below w.heap.size w w1):=trans2 HW0.out hb1
     rw [World.size_alloc] at hm1
     have HM1:Hid (MapAt w1 (w.heap.size+1) n D):=hm1
     have HZ1:Hid (w1.heap[w.heap.size]? = some (.cells #[.int .i64 0,.int .i64 0,.int .i64 0,.slice none 0 0] 61 (0,0))):=kept_block hb1 (heap_alloc_new _ _)
     have hs1:w.heap.size+1≤w1.heap.size:=by have:=hb1.size;simpa using this
     clear hb1 hm1 htc)
  | (at_make;refine wpList_make_full _ rfl _ _ _ rfl w.heap.size 103 i0 _ 7 Tryz.underlying59 hi0 hz0 hz1 .i64 .i64 N N N rfl rfl rfl rfl (by rw [hz2];omega) (by unfold maxLen;omega) (by simp;omega) ?_;intro w2 hown2 hgrow2
     have HO2:Hid _:=hown2
     have HG2:Hid _:=hgrow2
     clear hown2 hgrow2)
  | fail)
 have hs2:=HG2.out.size
 simp only [World.size_alloc] at hs2
 have HB12:Hid (Below w1.heap.size w1 w2):=((Chg.alloc w1 _ (fun _=>False)).trans ((Chg.grown HG2.out).mono (fun _ _ e=>by cases e))).below (Nat.le_refl _) (fun _ _ h=>h.elim)
 have HB2:Hid (Below w.heap.size w w2):=trans2 HB1.out HB12.out
 have HR2:Hid (ReqAt w2 w.heap.size w1.heap.size (w.heap.size+1) n D s st (.slice none 0 0) 0 []) :=
  ⟨by rw [HG2.out.block w1.heap.size (by simp) (fun e=>by cases e)];exact heap_alloc_new _ _,map_below HM1.out HB12.out,World.ownsRow_nil _ _ _ _,by omega⟩
 have HZ2:Hid _:=kept_block HB12.out HZ1.out
 have HRS2:Hid (RsAt w2 w.heap.size (.slice (some ⟨w1.heap.size+1,0,none⟩) N N) N []):=by
  have h9:=HO2.out
  have e:(madeCells (Value.agg #[.string ⟨#[]⟩,.string ⟨#[]⟩,.int .i64 0,.int .i64 0,.int .i64 0,.int .i64 0,.slice none 0 0]).cells (N * 7)).toList=Fa.fl ([].map RsT.el ++ List.replicate (N - 0) zEl):=by
   rcases (show N=1∨N=2∨N=3∨N=4 by omega) with rfl | rfl | rfl | rfl <;> kernel_rfl
  rw [e,World.size_alloc] at h9
  exact ⟨h9,Nat.zero_le _,fun x hx=>by cases hx⟩
 obtain ⟨rb,hrb⟩:∃ x,w1.heap.size=x:=⟨_,rfl⟩
 obtain ⟨gR,hgR⟩:∃ x,w1.heap.size+1=x:=⟨_,rfl⟩
 have hne:w.heap.size+1≤rb∧rb<gR:=by omega
 obtain ⟨hne1,hne2⟩:=hne
 rw [hgR] at HRS2 ⊢
 rw [hrb] at HR2 ⊢
 have HLO:Hid (base≤tb):=HT.out.lo
 clear HB12 HO2 HG2 hs2 hgR hrb HM1 HZ1 HB1 HCL HW0 HMP hs1
 go_loopw [41] (fun i wr=>∃ (q:Nat) (Tq:List Nd) (L:List RsT) (Cq:List ChT) (n':Nat) (D':DataW Value) (chV':Value),i=.int .i64 q∧q≤N∧Hid (playL T s st (os.drop q) q Tq (L.map RsT.r) Cq=M)∧Hid (Inv Tq∧Rep D' Tq∧n'≤n+2 * q∧Cq.length≤q∧L.length=q)∧Hid (ReqAt wr w.heap.size rb (w.heap.size+1) n' D' s st chV' Cq.length (chCs Cq))∧Hid (RsAt wr w.heap.size (.slice (some ⟨gR,0,none⟩) N N) N L)∧Hid (Below w.heap.size w wr)∧Hid (wr.heap[w.heap.size]? = some (.cells #[.int .i64 0,.int .i64 0,.int .i64 0,.slice none 0 0] 61 (0,0)))) (fun i _=>N - (intOf i).toNat)
 case atStart=>exact ⟨0,T,[],[],n,D,.slice none 0 0,rfl,Nat.zero_le _,HM0.out,⟨HI.out,HRP.out,by omega,Nat.le_refl _,rfl⟩,HR2.out,HRS2.out,HB2.out,HZ2.out⟩
 case round =>
  clear HR2 HRS2 HB2 HZ2
  obtain ⟨q,Tq,L,Cq,n',D',chV',rfl,hq,HML,HQ,HRq,HRS,HB,HZ⟩:=hrel
  by_cases hlt:q<N
  · have hqi:(q:Int)<(N:Int):=by omega
    obtain ⟨o,hoq⟩:∃ o,os[q]? = some o:=⟨os[q]'(by rw [HNL.out];exact hlt),List.getElem?_eq_getElem _⟩
    obtain ⟨b,fo,rfl,hb,hcs⟩:=HO.out q o hoq
    have HOo:Hid o.Ok:=HOK.out o (List.mem_of_getElem? hoq)
    have HDR:Hid (os.drop q=o :: os.drop (q+1)):=by show _=_;rw [List.drop_eq_getElem_cons (by rw [HNL.out];exact hlt)];congr 1;have:=List.getElem?_eq_some_iff.1 hoq;exact this.2
    have hcell:∀ j x,o.cells[j]? = some x→wr.cell? ⟨b,fo+q * 5+j,none⟩=some x:=fun j x hx=>by
     rw [HB.out.cell (p:=⟨b,fo+q * 5+j,none⟩) hb]
     exact hcs j x hx
    have o0:=hcell 0 _ rfl
    have o1:=hcell 1 _ rfl
    have o2:=hcell 2 _ rfl
    have o3:=hcell 3 _ rfl
    have o4:=hcell 4 _ rfl
    rw [Nat.add_zero] at o0
    clear hoq hcs hcell
    go_upto_region 9 with fail
    obtain ⟨w4,hw4⟩:∃ x,wr.alloc (.cells #[.int .i64 o.k,.string o.p,.string o.d,.int .i64 o.v,.int .i64 o.f] 66)=x:=⟨_,rfl⟩
    obtain ⟨ob,hob⟩:∃ x,wr.heap.size=x:=⟨_,rfl⟩
    rw [hw4,hob]
    have hb4:Below wr.heap.size wr w4:=by rw [← hw4];exact (Below.refl _ _).alloc (Nat.le_refl _) _
    have HB4:Hid (Below w.heap.size w w4):=trans2 HB.out hb4
    have HR4:Hid _:=HRq.out.below hb4
    have HRS4:Hid _:=HRS.out.below hb4
    have HZ4:Hid _:=kept_block hb4 HZ.out
    have HO4:Hid (w4.heap[ob]? = some (.cells #[.int .i64 o.k,.string o.p,.string o.d,.int .i64 o.v,.int .i64 o.f] 66 (0,0))):=by rw [← hw4,← hob];exact heap_alloc_new _ _
    clear hw4 hob hb4 o0 o1 o2 o3 o4
    obtain ⟨o0,o1,o2,o3,o4⟩:=cells_5 HO4.out
    have HPL:Hid _:=play_any w.heap.size rb (w.heap.size+1) n' D' Tq s st chV' Cq.length (chCs Cq) o HOo.out w4 (HG.out.below HB4.out) (HGC.out.below HB4.out) HR4.out HQ.out.2.1 HQ.out.1 (by have:=HQ.out.2.2.1;have:=HNN.out;omega) (by have:=HQ.out.2.2.2.1;omega)
    have HPE:Hid (playL T s st (o :: os.drop (q+1)) q Tq (L.map RsT.r) Cq=M):=by rw [← HDR.out];exact HML.out
    have hmc:=oneM_ch Tq s st o
    have hmi:=oneM_inv HQ.out.1 s st o
    obtain ⟨MO,hMO⟩:∃ MO,oneM Tq s st o=MO:=⟨_,rfl⟩
    rw [hMO] at HPL hmc hmi
    have HMO:Hid (oneM Tq s st o=MO):=hMO
    have HMC:Hid (MO.2.2.2.length≤1∧Inv MO.2.1):=⟨hmc,hmi⟩
    clear hMO hmc hmi
    obtain ⟨mc,MT,⟨mp,md,mv,mm,mmc,mo,mkids⟩,Mch⟩:=MO
    go_wp2_with fail
    refine Calls.mono HPL.out ?_
    rintro e w5 ⟨ka,kn,kc,rfl,hE⟩
    have HE:Hid (ReqE w4 w.heap.size rb (w.heap.size+1) n' s st chV' Cq.length (chCs Cq) ⟨mp,md,mv,mm,mmc,mo,mkids⟩ MT Mch ka kn kc w5):=hE
    have HB5:Hid (Below w.heap.size w w5):=HB4.out.trans (hE.chg.below HB4.out.size (fun k _ e=>by
     rcases e with e | e | e
     · omega
     · omega
     · exact (HR4.out.row.lt k e).1))
    have HRS5:Hid _:=HRS4.out.keeps HR4.out hE.chg
    have HZ5:Hid _:=hE.box (w:=w) HR4.out HZ4.out (by decide) (by omega) (by omega)
    clear hE o0 o1 o2 o3 o4 HPL
    by_cases hmc:mc=0
    · subst hmc
      go_upto_region 12 with fail
      obtain ⟨w6,hw6⟩:∃ x,w5.alloc (.cells #[.string mp,.string md,.int .i64 mv,.int .i64 mm,.int .i64 mmc,.int .i64 mo,.slice ka kn kc] 103)=x:=⟨_,rfl⟩
      obtain ⟨yb,hyb⟩:∃ x,w5.heap.size=x:=⟨_,rfl⟩
      rw [hw6,hyb]
      have hb6:Below w5.heap.size w5 w6:=by rw [← hw6];exact (Below.refl _ _).alloc (Nat.le_refl _) _
      have HB6:Hid (Below w.heap.size w w6):=trans2 HB5.out hb6
      have HRS6:Hid _:=HRS5.out.below hb6
      have HZ6:Hid _:=kept_block hb6 HZ5.out
      have HY6:Hid (w6.heap[yb]? = some (.cells #[.string mp,.string md,.int .i64 mv,.int .i64 mm,.int .i64 mmc,.int .i64 mo,.slice ka kn kc] 103 (0,0))):=by rw [← hw6,← hyb];exact heap_alloc_new _ _
      obtain ⟨n2,D2,chV2,hn2,hr2,hR2,hc2⟩:=HE.out.req
      have HR6:Hid _:=hR2.below hb6
      have HRP2:Hid (n2≤n'+2∧Rep D2 MT):=⟨hn2,hr2⟩
      have HK6:Hid (w6.ownsRow w.heap.size 9 1 (.slice ka kn kc) mkids.length (mkids.map Value.string)):=by
       have h9:=HE.out.kids
       have h8:w6.ownsRow w4.heap.size 9 1 (.slice ka kn kc) mkids.length (mkids.map Value.string):=owns_chg h9 (Chg.of_below hb6 (fun _=>False)) (fun _ _=>id)
       exact ⟨h8.1,h8.2.imp id (fun ⟨g,cap,cur,h1,h2,r⟩=>⟨g,cap,cur,h1,Nat.le_trans HB4.out.size h2,r⟩)⟩
      clear hw6 hyb hb6 hn2 hr2 hR2 hc2
      obtain ⟨y0,y1,y2,y3,y4,y5,y6⟩:=cells_7 HY6.out
      have HLQ:Hid (L.length=q):=HQ.out.2.2.2.2
      have HTH:Hid (w6.there gR (q * 7) 7):=Fa.there_row HRS6.out.row hlt
      obtain ⟨xs,hxs⟩:∃ xs,(⟨⟨mp,md,mv,mm,mmc,mo,mkids⟩,ka,kn,kc⟩:RsT)=xs:=⟨_,rfl⟩
      obtain ⟨w7,hw7⟩:∃ x,w6.setCells gR (q * 7) (RsT.cs xs)=x:=⟨_,rfl⟩
      have HW7:Hid (w6.setCells gR (q * 7) (RsT.cs xs)=w7):=hw7
      have HXS:Hid ((⟨⟨mp,md,mv,mm,mmc,mo,mkids⟩,ka,kn,kc⟩:RsT)=xs):=hxs
      have hgl:gR<w6.heap.size:=(HRS6.out.row.lt gR rfl).2
      have HC7:Hid (Chg w6 w7 (fun k=>k=gR)):=by rw [← hw7];exact Fa.chg_setCells gR _ _ w6
      have HRS7:Hid (RsAt w7 w.heap.size (.slice (some ⟨gR,0,none⟩) N N) N (L ++ [xs])):=by
       have h9:=HRS6.out.set (by rw [HLQ.out];exact hlt) xs (by rw [← hxs];exact HK6.out)
       rw [HLQ.out,hw7] at h9
       exact h9
      have hgk:∀ k,chV2.ownBlock=some k→¬ k=gR:=fun k hk e=>by
       obtain ⟨cur,hcur⟩:=owns_kind HR6.out.row hk
       obtain ⟨cur',hcur'⟩:=owns_kind HRS6.out.row (k:=gR) rfl
       rw [e,hcur'] at hcur
       simp at hcur
      have HR7:Hid _:=HR6.out.chg HC7.out (by omega) (by omega) hgk
      have HB7:Hid (Below w.heap.size w w7):=HB6.out.trans (HC7.out.below HB6.out.size (fun k _ e=>by omega))
      have HZ7:Hid _:=kept_chg HC7.out HZ6.out (by omega)
      clear hw7 hxs hgk
      go_wp2_with (first
       | (refine wpList_store_mid rfl 103 _ _ rfl gR (q * 7) (RsT.cs (⟨⟨mp,md,mv,mm,mmc,mo,mkids⟩,ka,kn,kc⟩:RsT)).toArray rfl rfl HTH.out (by kernel_rfl) (all_oneCell_toArray (RsT.el (⟨⟨mp,md,mv,mm,mmc,mo,mkids⟩,ka,kn,kc⟩:RsT)).2.2) ?_
          rw [HXS.out,show (RsT.cs xs).toArray.toList=RsT.cs xs from rfl,HW7.out])
       | fail)
      go_roundw
      case rel =>
       refine ⟨q+1,MT,L ++ [xs],Cq ++ Mch,n2,D2,chV2,by go_num,by omega,?_,⟨HMC.out.2,HRP2.out.2,?_,?_,?_⟩,?_,HRS7.out,HB7.out,HZ7.out⟩
       · have h9:=HPE.out
         unfold playL at h9
         rw [HMO.out,if_neg (by simp)] at h9
         rw [List.map_append,← HXS.out]
         exact h9
       · have h1:=HQ.out.2.2.1;have h2:=HRP2.out.1;omega
       · have h1:=HQ.out.2.2.2.1
         have h2:Mch.length≤1:=HMC.out.1
         rw [List.length_append]
         omega
       · rw [List.length_append,HLQ.out];rfl
       · have h9:=HR7.out
         have e:chCs (Cq ++ Mch)=chCs Cq ++ chCs Mch:=by simp [chCs]
         rw [List.length_append,e]
         exact h9
      case measure=>simp [intOf];omega
    · have hcb:(mc==0)=false:=by simp [hmc]
      have hcn:(mc != 0)=true:=by simp [hmc]
      have HMM:Hid (M=⟨mc,q,T,[],[]⟩):=by
       have h9:=HPE.out
       unfold playL at h9
       rw [HMO.out,if_pos hmc] at h9
       exact h9.symm
      go_upto_region 11 with fail
      obtain ⟨w6,hw6⟩:∃ x,w5.alloc (.cells #[.string mp,.string md,.int .i64 mv,.int .i64 mm,.int .i64 mmc,.int .i64 mo,.slice ka kn kc] 103)=x:=⟨_,rfl⟩
      rw [hw6]
      have hb6:Below w5.heap.size w5 w6:=by rw [← hw6];exact (Below.refl _ _).alloc (Nat.le_refl _) _
      have HB6:Hid (Below w.heap.size w w6):=trans2 HB5.out hb6
      have HZ6:Hid _:=kept_block hb6 HZ5.out
      clear hw6 hb6
      obtain ⟨z0,z1,z2,z3⟩:=cells_4 HZ6.out
      have hfz:=free_4 HZ6.out
      go_wp2_with fail
      rw [HMM.out]
      refine bodyPost_ret (results_cell_tmp rfl _ _ w.heap.size 61 _ (0,0) _ (.slice none 0 0) rfl rfl (fill_4 HZ6.out) Tryz.underlying61 rfl (by kernel_rfl)) rfl ⟨[],.slice none 0 0,.slice none 0 0,rfl,PlayE.none HT.out HRP.out (fillB_4 HB6.out (Nat.le_refl _))⟩
  · obtain rfl:q=N:=by omega
    have hge:¬ (q:Int)<(q:Int):=by omega
    have HMM:Hid (M=⟨0,0,Tq,L.map RsT.r,Cq⟩):=by
     have h9:=HML.out
     rw [List.drop_of_length_le (by rw [HNL.out];exact Nat.le_refl _)] at h9
     exact h9.symm
    go_upto_region 14 with fail
    obtain ⟨r0,r1,r2,r3⟩:=cells_4 HRq.out.box
    have HTB4:Hid _:=kept_block HB.out HT.out.box
    have t0:=cells_1 HTB4.out
    have hft:=free_1 HTB4.out
    go_upto_region 15 with fail
    obtain ⟨w5,hw5⟩:∃ x,wr.setCell ⟨tb,0,none⟩ (.map (some (w.heap.size+1)))=x:=⟨_,rfl⟩
    rw [hw5]
    have HC45:Hid (Chg wr w5 (fun k=>k=tb)):=by rw [← hw5];exact Chg.set wr ⟨tb,0,none⟩ _
    have HTB5:Hid (w5.heap[tb]? = some (.cells #[.map (some (w.heap.size+1))] 57 (0,0))):=by rw [← hw5];exact same_blk HTB4.out rfl
    have hgb5:∀ k,chV'.ownBlock=some k→¬ k=tb:=fun k hk e=>by
     obtain ⟨cur,hcur⟩:=owns_kind HRq.out.row hk
     rw [e,HTB4.out] at hcur
     simp at hcur
    have HR5:Hid _:=HRq.out.chg HC45.out (by omega) (by omega) hgb5
    have HZ5:Hid _:=kept_chg HC45.out HZ.out (by omega)
    have HRS5:Hid (RsAt w5 w.heap.size (.slice (some ⟨gR,0,none⟩) q q) q L):=⟨owns_chg HRS.out.row HC45.out (fun k hk e=>by
      obtain ⟨cur,hcur⟩:=owns_kind HRS.out.row hk
      have e':k=tb:=e
      rw [e',HTB4.out] at hcur
      simp at hcur),HRS.out.le,fun x hx=>owns_chg (HRS.out.kids x hx) HC45.out (fun k hk e=>by
      obtain ⟨cur,hcur⟩:=owns_kind (HRS.out.kids x hx) hk
      have e':k=tb:=e
      rw [e',HTB4.out] at hcur
      simp at hcur)⟩
    clear hw5 r0 r1 r2 r3 t0 hft
    obtain ⟨r0,r1,r2,r3⟩:=cells_4 HR5.out.box
    obtain ⟨z0,z1,z2,z3⟩:=cells_4 HZ5.out
    have hfz:=free_4 HZ5.out
    have hrq:rb≠w.heap.size:=by omega
    go_region_held3 (fun w'=>w'.cell? ⟨rb,3,none⟩=some chV') (first | (simp only [World.cell?_drew,cellN hrq,r3];done) | go_keep) (fail)
    go_wp2_with fail
    have hgb6:∀ k,chV'.ownBlock=some k→¬ k=w.heap.size:=fun k hk e=>by
     obtain ⟨cur,hcur⟩:=owns_kind HR5.out.row hk
     rw [e,HZ5.out] at hcur
     simp at hcur
    have hlo:=HT.out.lo
    have HC56:Hid (Chg w5 (put_4 w5 w.heap.size (.int .i64 st) (.int .i64 0) (.int .i64 0) (.slice (some ⟨gR,0,none⟩) q q)).drew (fun k=>k=w.heap.size)):=putC_4.trans (chg_drew _ _)
    have HZ6:Hid ((put_4 w5 w.heap.size (.int .i64 st) (.int .i64 0) (.int .i64 0) (.slice (some ⟨gR,0,none⟩) q q)).drew.heap[w.heap.size]? = some (.cells #[.int .i64 st,.int .i64 0,.int .i64 0,.slice (some ⟨gR,0,none⟩) q q] 61 (0,0))):=(heap_drew_at _ _).trans (fill_4 HZ5.out)
    have hkz:∀ {T' sz m:Nat} {v:Value} {xs:List Value},w5.ownsRow w.heap.size T' sz v m xs→T'≠61→(put_4 w5 w.heap.size (.int .i64 st) (.int .i64 0) (.int .i64 0) (.slice (some ⟨gR,0,none⟩) q q)).drew.ownsRow w.heap.size T' sz v m xs:=fun {T' sz m v xs} hv hT'=>owns_chg hv HC56.out (fun k hk e=>by
     obtain ⟨cur,hcur⟩:=owns_kind hv hk
     have e':k=w.heap.size:=e
     rw [e',HZ5.out] at hcur
     simp at hcur
     exact hT' hcur.2.symm)
    have hLq:=HQ.out.2.2.2.2
    have HRW:Hid _:=owns_chg HR5.out.row HC56.out hgb6
    have HRS6:Hid (RsAt (put_4 w5 w.heap.size (.int .i64 st) (.int .i64 0) (.int .i64 0) (.slice (some ⟨gR,0,none⟩) q q)).drew w.heap.size (.slice (some ⟨gR,0,none⟩) q q) L.length L):=by
     rw [hLq]
     exact ⟨hkz HRS5.out.row (by decide),HRS5.out.le,fun x hx=>hkz (HRS5.out.kids x hx) (by decide)⟩
    have hn8:n'≤n+8:=by have:=HQ.out.2.2.1;omega
    have HTA:Hid (TreeAt (put_4 w5 w.heap.size (.int .i64 st) (.int .i64 0) (.int .i64 0) (.slice (some ⟨gR,0,none⟩) q q)).drew base tb (w.heap.size+1) n' D'):=⟨kept_chg HC56.out HTB5.out (by omega),map_chg HR5.out.map HC56.out (by omega),hlo,by omega⟩
    have HCA:Hid (Chg w (put_4 w5 w.heap.size (.int .i64 st) (.int .i64 0) (.int .i64 0) (.slice (some ⟨gR,0,none⟩) q q)).drew (fun k=>k=tb)):=(((Chg.of_below HB.out (fun k=>k=tb∨k=w.heap.size)).trans (HC45.out.mono (fun _ _ e=>.inl e))).trans (HC56.out.mono (fun _ _ e=>.inr e))).mono (fun k hk e=>e.elim id (fun e=>absurd hk (by omega)))
    rw [HMM.out]
    exact bodyPost_ret (results_cell_tmp rfl _ _ w.heap.size 61 _ (0,0) _ chV' rfl rfl HZ6.out Tryz.underlying61 rfl (by kernel_rfl)) rfl ⟨L,.slice (some ⟨gR,0,none⟩) q q,chV',rfl,rfl,HRS6.out,HRW.out,⟨w.heap.size+1,n',D',.inr (by omega),hn8,HTA.out,HQ.out.2.1⟩,HCA.out⟩
end Go.Proofs.YtckmihplkhmpnaaGreatDoor
namespace Go.Proofs.YtckmihplkhmpnaaGreatDoor
open Go.RowKit Go.Maps Go.WideShapes
set_option linter.unusedVariables false
set_option linter.unusedSimpArgs false
attribute [local go_sem ↓] Go.wp_at_zero Go.wp_at_succ
theorem playT_any (base tb mb n:Nat) (D:DataW Value) (T:List Nd) (s st:Int) (a:Option Addr) (c:Nat) (os:List OpT) (w:World) (hg:GroundT w) (hgc:GroundC w) (hT:TreeAt w base tb mb n D) (hr:Rep D T) (hi:Inv T) (hn:n≤8000) (ho:OpsAt w w.heap.size a os) (hok:∀ o∈os,o.Ok) :
  Calls Tryz.prog 18 #[.pointer (some ⟨tb,0,none⟩),.int .i64 s,.int .i64 st,.slice a os.length c] w fun e w'=>∃ L rv chV,e=.returned (.tuple #[.agg #[.int .i64 st,.int .i64 (playM T s st os).code,.int .i64 (playM T s st os).at',rv],chV])∧PlayE w base tb mb n (playM T s st os) L rv chV w':=by
 unfold playM
 by_cases hc:mayC s st os.length=0
 · rw [if_neg (by simpa using hc)]
   exact playT_yes base tb mb n D T s st a c os w hg hgc hT hr hi hn ho hok hc
 · rw [if_pos hc]
   refine Calls.mono (playT_no base tb mb n D T s st a os.length c w hT hr hc) ?_
   rintro e w' ⟨rfl,hb⟩
   exact ⟨[],.slice none 0 0,.slice none 0 0,rfl,PlayE.none hT hr hb⟩
def endC (T:List Nd) (s:Int):List ChT:=(T.filter (fun x=>decide (x.o=s))).map (fun x=>⟨3,x.p,⟨#[]⟩,x.v⟩)
def endT (T:List Nd) (s:Int):List Nd:=T.filter (fun x=>decide (x.o≠s))
theorem endT_inv {T:List Nd} (h:Inv T) (s:Int):Inv (endT T s):=⟨h.srt.filter _,Nat.le_trans (List.length_filter_le _ _) h.len,fun y hy=>h.nd y (List.mem_filter.1 hy).1⟩
def endQ (T:List Nd) (s:Int) (q:Nat):List Nd:=(T.take q).filter (fun x=>decide (x.o≠s)) ++ T.drop q
theorem endQ_stay {T:List Nd} {s:Int} {q:Nat} {x:Nd} (hx:T[q]? = some x) (h:x.o≠s):endQ T s (q+1)=endQ T s q:=by
 have hq:=(List.getElem?_eq_some_iff.1 hx).1
 have hd:T.drop q=x :: T.drop (q+1):=by rw [List.drop_eq_getElem_cons hq];congr 1;exact (List.getElem?_eq_some_iff.1 hx).2
 unfold endQ
 rw [List.take_add_one,hx,hd]
 simp [List.filter_append,h]
theorem endQ_go {T:List Nd} {s:Int} {q:Nat} {x:Nd} (hnd:(T.map Nd.p).Nodup) (hx:T[q]? = some x) (h:x.o=s):endQ T s (q+1)=(endQ T s q).filter (fun y=>decide (y.p≠x.p)):=by
 have hq:=(List.getElem?_eq_some_iff.1 hx).1
 have hd:T.drop q=x :: T.drop (q+1):=by rw [List.drop_eq_getElem_cons hq];congr 1;exact (List.getElem?_eq_some_iff.1 hx).2
 have hT:T=T.take q ++ x :: T.drop (q+1):=by rw [← hd,List.take_append_drop]
 have hnd2:((T.take q ++ x :: T.drop (q+1)).map Nd.p).Nodup:=by rw [← hT];exact hnd
 rw [List.map_append,List.map_cons,List.nodup_append,List.nodup_cons] at hnd2
 have e1:∀ y∈T.take q,y.p≠x.p:=fun y hy e=>hnd2.2.2 y.p (List.mem_map_of_mem hy) x.p List.mem_cons_self e
 have e2:∀ y∈T.drop (q+1),y.p≠x.p:=fun y hy e=>hnd2.2.1.1 (by rw [← e];exact List.mem_map_of_mem hy)
 unfold endQ
 rw [List.take_add_one,hx,hd,List.filter_append,List.filter_append,List.filter_cons,if_neg (by simp)]
 have h1:(List.filter (fun x=>decide (x.o≠s)) (T.take q)).filter (fun y=>decide (y.p≠x.p))=List.filter (fun x=>decide (x.o≠s)) (T.take q):=List.filter_eq_self.2 (fun y hy=>by simpa using e1 y (List.mem_filter.1 hy).1)
 have h2:(T.drop (q+1)).filter (fun y=>decide (y.p≠x.p))=T.drop (q+1):=List.filter_eq_self.2 (fun y hy=>by simpa using e2 y hy)
 rw [h1,h2]
 simp [h]
theorem endC_snoc {T:List Nd} {s:Int} {q:Nat} {x:Nd} (hx:T[q]? = some x):endC (T.take (q+1)) s=endC (T.take q) s ++ (if x.o=s then [⟨3,x.p,⟨#[]⟩,x.v⟩] else []):=by
 unfold endC
 rw [List.take_add_one,hx,List.filter_append,List.map_append]
 by_cases h:x.o=s <;> simp [h]
set_option maxHeartbeats 16000000 in
set_option maxRecDepth 100000 in
theorem end_any (base tb mb n:Nat) (D:DataW Value) (T:List Nd) (s:Int) (w:World) (hT:TreeAt w base tb mb n D) (hr:Rep D T) (hi:Inv T) (hne:T≠[]) (hn:n≤8000) (hs:1≤s) :
  Calls Tryz.prog 28 #[.pointer (some ⟨tb,0,none⟩),.int .i64 s] w fun e w'=>∃ chV mb' D',e=.returned chV∧w.heap.size≤mb'∧TreeAt w' base tb mb' n D'∧Rep D' (endT T s)∧w'.ownsRow w.heap.size 69 4 chV (endC T s).length (chCs (endC T s))∧Chg w w' (fun k=>k=tb):=by
 have HT:Hid _:=hT
 have HNO:Hid _:=isNone_at tb (some mb) w (cells_1 hT.box)
 have hne':strKeys D≠[]:=fun e=>by
  have h9:=hr.keys
  rw [e] at h9
  have h8:=h9.eq_nil
  simp at h8
  exact hne h8
 have hsz:Maps.size D≤1000000:=by rw [hr.size];have:=hi.len;omega
 have HPL:Hid (∀ W:World,Below w.heap.size w W→_):=fun W hb=>places_any mb n D W (hT.below hb).map hsz (fun l hl=>(hr.wf hi.sml l hl).1) hne'
 have HON:Hid (∀ ts:List (List UInt8),ts.Perm (strKeys D)→Asc ts→ts=T.map Nd.by):=fun ts h1 h2=>hi.srt.only (h1.trans hr.keys.symm) h2
 have HRP:Hid _:=hr
 have HI:Hid _:=hi
 have HNN:Hid (n≤8000):=hn
 have htl:tb<w.heap.size:=(Array.getElem?_eq_some_iff.1 hT.box).1
 have htc:=cells_1 hT.box
 have HCL:Hid _:=cloneMap_any mb n D w hT.map
 have hs1:¬ s<1:=by omega
 clear hT hr hi hne hne' hn hsz
 go_enter Tryz.func28,Tryz.ntmps28
 go_upto_region 4 with (first
  | (go_at_call 19;refine Calls.mono HNO.out ?_;rintro e w0 ⟨rfl,rfl⟩)
  | (go_at_call 42;refine Calls.mono HCL.out ?_;rintro e w1 ⟨rfl,hm1,hb1⟩
     have HB1:Hid (Below w0.heap.size w0 w1):=hb1
     have HM1:Hid (MapAt w1 w0.heap.size n D):=hm1
     clear hb1 hm1)
  | fail)
 obtain ⟨w2,hw2⟩:∃ x,w1.alloc (.cells #[.int .i64 0,.int .i64 0,.map (some w0.heap.size),.slice none 0 0] 101)=x:=⟨_,rfl⟩
 obtain ⟨rb,hrb⟩:∃ x,w1.heap.size=x:=⟨_,rfl⟩
 obtain ⟨m1,hm1⟩:∃ x,w0.heap.size=x:=⟨_,rfl⟩
 have hb2:Below w1.heap.size w1 w2:=by rw [← hw2];exact (Below.refl _ _).alloc (Nat.le_refl _) _
 have HB2:Hid (Below w0.heap.size w0 w2):=trans2 HB1.out hb2
 have HR2:Hid (ReqAt w2 w0.heap.size rb m1 n D 0 0 (.slice none 0 0) 0 []):=by
  refine ⟨?_,?_,World.ownsRow_nil _ _ _ _,HB2.out.size⟩
  · rw [← hw2,← hrb,← hm1];exact heap_alloc_new _ _
  · rw [← hm1];exact map_below HM1.out hb2
 have hs2:=HB1.out.size
 have hml:m1<rb:=by rw [← hrb,← hm1];exact HM1.out.lt
 have hmt:w0.heap.size≤m1:=by omega
 rw [hw2,hrb]
 clear hw2 hrb hb2 htc HM1 HCL HNO hs2
 have HM1E:Hid (w0.heap.size=m1):=hm1
 clear hm1
 have htc:=cells_1 (HT.out.below HB2.out).box
 go_wp2_with fail
 refine Calls.mono (HPL.out w2 HB2.out) ?_
 rintro e w3 ⟨g,cap,ts,rfl,hp,ha,hrow,hb3⟩
 obtain rfl:=HON.out ts hp ha
 have HB3:Hid (Below w0.heap.size w0 w3):=trans2 HB2.out hb3
 have HR3:Hid _:=HR2.out.below hb3
 obtain ⟨N,hN⟩:∃ N,(T.map Nd.by).length=N:=⟨_,rfl⟩
 have HN:Hid (T.length=N):=by show _=_;rw [← hN,List.length_map]
 have HNB:Hid (N≤64):=by have h1:=HI.out.len;have h2:=HN.out;show N≤64;omega
 have hN64:N≤64:=HNB.out
 have HRW:Hid (w3.ownsRow w2.heap.size 9 1 (.slice (some ⟨g,0,none⟩) N cap) N ((T.map Nd.by).map encStr)):=by rw [← hN];exact hrow
 rw [hN]
 clear hp ha hrow hb3 hN HPL HON HR2 HB2 htc
 go_wp2_with fail
 go_loopw [27] (fun i wr=>∃ (q:Nat) (D':DataW Value) (chV':Value),i=.int .i64 q∧q≤N∧Hid (Rep D' (endQ T s q))∧Hid (ReqAt wr w0.heap.size rb m1 n D' 0 0 chV' (endC (T.take q) s).length (chCs (endC (T.take q) s)))∧Hid (wr.ownsRow w2.heap.size 9 1 (.slice (some ⟨g,0,none⟩) N cap) N ((T.map Nd.by).map encStr))∧Hid (Below w0.heap.size w0 wr)) (fun i _=>N - (intOf i).toNat)
 case atStart=>exact ⟨0,D,.slice none 0 0,rfl,Nat.zero_le _,by show Rep _ _;simpa [endQ] using HRP.out,by show ReqAt _ _ _ _ _ _ _ _ _ _ _;simpa [endC,chCs] using HR3.out,HRW.out,HB3.out⟩
 case round =>
  clear HR3 HRW HB3
  obtain ⟨q,D',chV',rfl,hq,HRD,HRq,HRW,HB⟩:=hrel
  by_cases hlt:q<N
  · have hqi:(q:Int)<(N:Int):=by omega
    obtain ⟨x,hx⟩:∃ x,T[q]? = some x:=⟨T[q]'(by rw [HN.out];exact hlt),List.getElem?_eq_getElem _⟩
    have hxT:=List.mem_of_getElem? hx
    have hxn:=HI.out.nd x hxT
    have hxs:=size_of_parse hxn.1
    have hcq:wr.cell? ⟨g,q,none⟩=some (.string x.p):=by
     rw [HRW.out.cellAt q (by omega),List.getElem?_map,List.getElem?_map,hx]
     show some (Value.string ⟨(Nd.by x).toArray⟩)=_
     congr 2
    have htc:=cells_1 (HT.out.below HB.out).box
    have HMk:Hid _:=(HT.out.below HB.out).map
    have hkey:keyOf Tryz.prog 9 (.string x.p)=some (ky x.p):=WideMaps.keyOf_string_mk Tryz.underlying9 (by unfold maxLen;omega)
    have HLK:Hid (look D x.p=fuV x.p x.d x.v x.m x.c x.o x.k):=HRP.out.look x hxT
    have HX:Hid (T[q]? = some x):=hx
    have HXS:Hid (x.p.size≤1000):=by show x.p.size≤1000;omega
    have HCL:Hid ((endC (T.take q) s).length≤64):=by
     show _≤_
     unfold endC
     rw [List.length_map]
     refine Nat.le_trans (List.length_filter_le _ _) ?_
     rw [List.length_take]
     omega
    clear hx hxT hxn hxs
    go_upto_region 8 with (first
     | (at_lookup;refine wpList_lookup_raw _ rfl _ _ 52 rfl 9 27 keyed Tryz.underlying52 (zeroF _) mb n D rfl HMk.out _ _ rfl hkey ?_;intro u ps hu;obtain rfl:=look_of hu;rw [HLK.out];clear hu)
     | fail)
    obtain ⟨w4,hw4⟩:∃ y,wr.alloc (.cells #[.string x.p,.string x.d,.int .i64 x.v,.int .i64 x.m,.int .i64 x.c,.int .i64 x.o,.int .i64 x.k] 27)=y:=⟨_,rfl⟩
    obtain ⟨nb,hnb⟩:∃ y,wr.heap.size=y:=⟨_,rfl⟩
    rw [hw4,hnb]
    have hb4:Below wr.heap.size wr w4:=by rw [← hw4];exact (Below.refl _ _).alloc (Nat.le_refl _) _
    have HB4:Hid (Below w0.heap.size w0 w4):=trans2 HB.out hb4
    have HR4:Hid _:=HRq.out.below hb4
    have HRW4:Hid _:=owns_chg HRW.out (Chg.of_below hb4 (fun _=>False)) (fun _ _=>id)
    have HF4:Hid (w4.heap[nb]? = some (.cells #[.string x.p,.string x.d,.int .i64 x.v,.int .i64 x.m,.int .i64 x.c,.int .i64 x.o,.int .i64 x.k] 27 (0,0))):=by rw [← hw4,← hnb];exact heap_alloc_new _ _
    clear hw4 hnb hb4 hcq htc hkey
    obtain ⟨a0,a1,a2,a3,a4,a5,a6⟩:=cells_7 HF4.out
    by_cases hos:x.o=s
    · have e1:(x.o==s)=true:=by simpa using hos
      have HOS:Hid (x.o=s):=hos
      clear hos
      go_wp2_with fail
      refine Calls.mono (drop_any w0.heap.size rb m1 n D' 0 0 chV' _ _ x.p x.d x.v x.m x.c x.o x.k w4 HR4.out HXS.out (by have:=HNN.out;omega) (by have:=HCL.out;omega)) ?_
      rintro e w5 ⟨rfl,chV2,hR5,hL5,hC5⟩
      have HB5:Hid (Below w0.heap.size w0 w5):=HB4.out.trans (hC5.below HB4.out.size (fun k _ e=>by
       rcases e with e | e | e
       · omega
       · omega
       · exact (HR4.out.row.lt k e).1))
      have HRW5:Hid _:=HR4.out.keeps hC5 HRW4.out (by decide) (by decide)
      have HR5:Hid _:=hR5
      clear hR5 hL5 hC5 a0 a1 a2 a3 a4 a5 a6
      go_wp2_with fail
      go_roundw
      case rel =>
       refine ⟨q+1,D'.del (ky x.p),chV2,by go_num,by omega,?_,?_,HRW5.out,HB5.out⟩
       · show Rep _ _
         rw [endQ_go HRP.out.nd HX.out HOS.out]
         exact HRD.out.del x.p
       · have h9:=HR5.out
         have e:=endC_snoc (s:=s) HX.out
         rw [if_pos HOS.out] at e
         have e2:chCs (endC (T.take (q+1)) s)=chCs (endC (T.take q) s) ++ [.int .i64 3,.string x.p,.string ⟨#[]⟩,.int .i64 x.v]:=by rw [e];simp [chCs]
         have e3:(endC (T.take (q+1)) s).length=(endC (T.take q) s).length+1:=by rw [e];simp
         show ReqAt _ _ _ _ _ _ _ _ _ _ _
         rw [e2,e3]
         exact h9
      case measure=>simp [intOf];omega
    · have e1:(x.o==s)=false:=by simpa using hos
      have HOS:Hid (x.o≠s):=hos
      clear hos
      go_wp2_with fail
      have hrel2:∃ (q':Nat) (D':DataW Value) (chV':Value),Value.int .i64 ((q:Int)+1)=.int .i64 q'∧q'≤N∧Hid (Rep D' (endQ T s q'))∧Hid (ReqAt w4 w0.heap.size rb m1 n D' 0 0 chV' (endC (T.take q') s).length (chCs (endC (T.take q') s)))∧Hid (w4.ownsRow w2.heap.size 9 1 (.slice (some ⟨g,0,none⟩) N cap) N ((T.map Nd.by).map encStr))∧Hid (Below w0.heap.size w0 w4):=by
       have e:=endC_snoc (s:=s) HX.out
       rw [if_neg HOS.out,List.append_nil] at e
       refine ⟨q+1,D',chV',by simp,by omega,?_,?_,HRW4.out,HB4.out⟩
       · show Rep _ _
         rw [endQ_stay HX.out HOS.out]
         exact HRD.out
       · show ReqAt _ _ _ _ _ _ _ _ _ _ _
         rw [e]
         exact HR4.out
      exact ⟨hrel2,by simp [intOf];omega⟩
  · obtain rfl:q=N:=by omega
    have hge:¬ (q:Int)<(q:Int):=by omega
    go_upto_region 11 with fail
    obtain ⟨r0,r1,r2,r3⟩:=cells_4 HRq.out.box
    have HTB4:Hid _:=kept_block HB.out HT.out.box
    have t0:=cells_1 HTB4.out
    have hft:=free_1 HTB4.out
    have htr:rb≠tb:=by omega
    go_upto_region 12 with fail
    obtain ⟨w5,hw5⟩:∃ x,wr.setCell ⟨tb,0,none⟩ (.map (some m1))=x:=⟨_,rfl⟩
    rw [hw5]
    have HC45:Hid (Chg wr w5 (fun k=>k=tb)):=by rw [← hw5];exact Chg.set wr ⟨tb,0,none⟩ _
    have HTB5:Hid (w5.heap[tb]? = some (.cells #[.map (some m1)] 57 (0,0))):=by rw [← hw5];exact same_blk HTB4.out rfl
    have hgb5:∀ k,chV'.ownBlock=some k→¬ k=tb:=fun k hk e=>by
     obtain ⟨cur,hcur⟩:=owns_kind HRq.out.row hk
     rw [e,HTB4.out] at hcur
     simp at hcur
    have HR5:Hid _:=HRq.out.chg HC45.out (by omega) (by omega) hgb5
    clear hw5 r0 r1 r2 r3 t0 hft
    obtain ⟨r0,r1,r2,r3⟩:=cells_4 HR5.out.box
    go_wp2_with fail
    go_ret
    have hlo:=HT.out.lo
    have eT:T.take q=T:=List.take_of_length_le (by rw [HN.out];exact Nat.le_refl _)
    have eQ:endQ T s q=endT T s:=by unfold endQ endT;rw [eT,List.drop_of_length_le (by rw [HN.out];exact Nat.le_refl _),List.append_nil]
    have h5:=HR5.out
    rw [eT] at h5
    have hrd:=HRD.out
    rw [eQ] at hrd
    exact ⟨chV',rfl,m1,hmt,D',⟨HTB5.out,h5.map,hlo,by omega⟩,hrd,h5.row,((Chg.of_below HB.out (fun k=>k=tb)).trans HC45.out)⟩
end Go.Proofs.YtckmihplkhmpnaaGreatDoor
namespace Go.Proofs.YtckmihplkhmpnaaGreatDoor
open Go.RowKit Go.Maps Go.WideShapes
set_option linter.unusedVariables false
set_option linter.unusedSimpArgs false
abbrev pRt:ByteArray:=⟨#[47]⟩
structure Snd (T:List Nd):Prop where
 inv:Inv T
 root:∃ r∈T,r.p=pRt∧r.o=0
 up:∀ x∈T,x.p≠pRt→∃ u∈T,u.p=parB x.p∧u.o=0
theorem Snd.ne {T:List Nd} (h:Snd T):T≠[]:=fun e=>by
 obtain ⟨r,hr,_⟩:=h.root
 rw [e] at hr
 cases hr
theorem par_of {s:ByteArray} {xs:List ByteArray} {c:Int} {x:ByteArray} {k:Nat} (h:parse s=(c,xs)) (hk:xs.length=k+1):parB s=placeB (xs.take k):=by
 unfold parB
 rw [h]
 cases xs with
 | nil=>simp at hk
 | cons y r =>
   have:r.length=k:=by simpa using hk
   simp [this]
theorem par_counted {p:ByteArray} {f k:Int} (hp:(parse p).1=0) (hr:p≠pRt) (hl:2≤f→(lastN p).size≤11):parB (atOf p f k)=parB p:=by
 unfold atOf
 split
 · rename_i h2
   obtain ⟨xs,j,x,hx,hxl,hxk,hlx⟩:=names_of hp hr
   have h1:=counted_parse hx j hxl x hxk (by rw [← hlx];exact hl h2) k.toNat
   have hlen:(xs.take j ++ [mk (x.data.toList ++ five k.toNat)]).length=j+1:=by simp;omega
   rw [par_of (x:=x) h1 hlen,par_of (x:=x) hx hxl]
   congr 1
   rw [List.take_append_of_le_length (by simp;omega),List.take_take,Nat.min_self]
 · rfl
theorem kid_of_par {x u:ByteArray} (hx:(parse x).1=0) (hu:(parse u).1=0) (hr:x≠pRt) (hp:parB x=u):covers 2 u 1 x=true:=by
 obtain ⟨xs,j,y,hxs,hxl,hxk,hlx⟩:=names_of hx hr
 have h1:=par_of (x:=y) hxs hxl
 have hne:xs.isEmpty=false:=by cases xs with | nil=>simp at hxl | cons _ _=>rfl
 have hc:childB u x=true:=by
  unfold childB
  rw [hxs]
  simp only [hne,hxl,Nat.add_sub_cancel]
  rw [← h1,hp]
  simp
 unfold covers isP okC cov
 rw [hc]
 simp [hx,hu]
theorem upd_mem {T:List Nd} {y z:Nd} (h:z∈upd T y):(z∈T∧z.p≠y.p)∨z=y:=by
 obtain ⟨x,hx,rfl⟩:=List.mem_map.1 h
 by_cases e:x.p=y.p
 · rw [if_pos e];exact .inr rfl
 · rw [if_neg e];exact .inl ⟨hx,e⟩
theorem mem_upd {T:List Nd} {y u:Nd} (hu:u∈T) (hp:u.p=y.p):y∈upd T y:=List.mem_map.2 ⟨u,hu,by rw [if_pos hp]⟩
theorem mem_upd_ne {T:List Nd} {y u:Nd} (hu:u∈T) (hp:u.p≠y.p):u∈upd T y:=List.mem_map.2 ⟨u,hu,by rw [if_neg hp]⟩
theorem Snd.upd {T:List Nd} (h:Snd T) {y u:Nd} (hu:u∈T) (hp:u.p=y.p) (ho:u.o=y.o) (hi:Inv (upd T y)):Snd (upd T y):=by
 have nd:∀ z∈T,z.p=y.p→z=u:=fun z hz e=>by
  have hs:=h.inv.srt
  have hnd:∀ a∈T,∀ b∈T,a.p=b.p→a=b:=by
   intro a ha b hb e
   obtain ⟨i,hi,rfl⟩:=List.mem_iff_getElem.1 ha
   obtain ⟨j,hj,rfl⟩:=List.mem_iff_getElem.1 hb
   rcases Nat.lt_trichotomy i j with hij | hij | hij
   · have:=List.pairwise_iff_getElem.1 hs i j hi hj hij
     rw [e,O_self] at this
     cases this
   · subst hij;rfl
   · have:=List.pairwise_iff_getElem.1 hs j i hj hi hij
     rw [e,O_self] at this
     cases this
  exact hnd z hz u hu (e.trans hp.symm)
 have keep:∀ q,(∃ z∈T,z.p=q∧z.o=0)→∃ z∈Go.Proofs.YtckmihplkhmpnaaGreatDoor.upd T y,z.p=q∧z.o=0:=by
  rintro q ⟨z,hz,e,e0⟩
  by_cases hz2:z.p=y.p
  · obtain rfl:=nd z hz hz2
    exact ⟨y,mem_upd hz hp,hp ▸ e,ho ▸ e0⟩
  · exact ⟨z,mem_upd_ne hz hz2,e,e0⟩
 refine ⟨hi,keep _ h.root,fun x hx hr=>?_⟩
 rcases upd_mem hx with ⟨hx,_⟩ | rfl
 · exact keep _ (h.up x hx hr)
 · rw [← hp] at hr ⊢
   exact keep _ (h.up u hu hr)
theorem Snd.one {T:List Nd} (h:Snd T) (s st:Int) (o:OpT):Snd (oneM T s st o).2.1:=by
 have hinv:=oneM_inv h.inv s st o
 revert hinv
 unfold oneM
 split
 · exact fun _=>h
 rename_i hc
 have hc:malC s o.k o.p o.d o.f=0:=by simpa using hc
 obtain ⟨hk1,hk7,hp0,hd2,_⟩:=mal_ok hc
 split
 · rename_i h1
   unfold makeM
   split
   · exact fun _=>h
   rename_i u hfu
   have hu:=fnd_some hfu
   have hun:=h.inv.nd u hu.1
   split
   · exact fun _=>h
   rename_i huo
   have huo:u.o=0:=by simpa using huo
   split
   · exact fun _=>h
   rename_i hfull
   split
   · exact fun _=>h
   rename_i hfa
   split
   · exact fun _=>h
   rename_i hlen
   rw [h1] at hc
   obtain ⟨hf,_,hlast,hroot,hd⟩:=mal_ok1 hc
   intro hinv
   have hui:Inv (Go.Proofs.YtckmihplkhmpnaaGreatDoor.upd T { u with k:=if 2≤o.f then u.k+1 else u.k }):=h.inv.upd ⟨hun.1,hun.2.1,hun.2.2.1,hun.2.2.2.1,by show 0≤(if 2≤o.f then u.k+1 else u.k);split <;> omega,by show (if 2≤o.f then u.k+1 else u.k)≤100000;split <;> omega⟩
   have hs:=h.upd (y:={ u with k:=if 2≤o.f then u.k+1 else u.k }) hu.1 rfl rfl hui
   have keep:∀ q,(∃ z∈Go.Proofs.YtckmihplkhmpnaaGreatDoor.upd T { u with k:=if 2≤o.f then u.k+1 else u.k },z.p=q∧z.o=0)→∃ z∈ins ⟨atOf o.p o.f u.k,o.d,0,st,st,if o.f % 2=1 then s else 0,0⟩ (Go.Proofs.YtckmihplkhmpnaaGreatDoor.upd T { u with k:=if 2≤o.f then u.k+1 else u.k }),z.p=q∧z.o=0:=by
    rintro q ⟨z,hz,e⟩
    exact ⟨z,(ins_perm _ _).mem_iff.2 (List.mem_cons_of_mem _ hz),e⟩
   refine ⟨hinv,keep _ hs.root,fun x hx hr=>?_⟩
   rcases List.mem_cons.1 ((ins_perm _ _).mem_iff.1 hx) with rfl | hx
   · have e1:parB (atOf o.p o.f u.k)=parB o.p:=par_counted hp0 hroot hlast
     have h9:=keep (parB o.p) ⟨_,mem_upd (y:={ u with k:=if 2≤o.f then u.k+1 else u.k }) hu.1 rfl,hu.2,huo⟩
     rw [← e1] at h9
     exact h9
   · exact keep _ (hs.up x hx hr)
 · rename_i h1
   split
   · exact fun _=>h
   rename_i x hf
   have hx:=fnd_some hf
   split
   · exact fun _=>h
   rename_i hm
   have hm:misC o.k o.v x.v (kidsM T x.p)=0:=by simpa using hm
   unfold restM
   split
   · exact fun hinv=>h.upd (y:={ x with d:=o.d,v:=x.v+1,c:=st }) hx.1 rfl rfl hinv
   split
   · rename_i h2 h3
     intro hinv
     have hkid:kidsM T x.p=[]:=by
      rw [h3] at hm
      unfold misC at hm
      by_cases hk:kidsM T x.p=[]
      · exact hk
      · exfalso
        split at hm
        · cases hm
        · rw [if_pos ⟨rfl,hk⟩] at hm
          cases hm
     have hroot:x.p≠pRt:=fun e=>by
      have e2:o.p=pRt:=hx.2 ▸ e
      rw [h3,e2] at hc
      unfold malC at hc
      rw [if_neg (by omega),if_neg (by omega)] at hc
      split at hc
      · cases hc
      · rw [if_pos ⟨.inr rfl,rfl⟩] at hc
        cases hc
     have hxp:=(h.inv.nd x hx.1).1
     have keep:∀ q,q≠x.p→(∃ z∈T,z.p=q∧z.o=0)→∃ z∈T.filter (fun y=>decide (y.p≠x.p)),z.p=q∧z.o=0:=by
      rintro q hq ⟨z,hz,e,e0⟩
      exact ⟨z,List.mem_filter.2 ⟨hz,by simpa [e] using hq⟩,e,e0⟩
     refine ⟨hinv,keep _ (fun e=>hroot e.symm) h.root,fun y hy hr=>?_⟩
     obtain ⟨hy,hyx⟩:=List.mem_filter.1 hy
     refine keep _ (fun e=>?_) (h.up y hy hr)
     have hc2:=kid_of_par (h.inv.nd y hy).1 hxp hr e
     have hmem:y∈T.filter (kidP x.p):=by
      refine List.mem_filter.2 ⟨hy,?_⟩
      unfold kidP wF
      rw [show (⟨(Nd.by y).toArray⟩:ByteArray)=y.p from rfl,hc2]
      simpa using hyx
     have:kidsM T x.p≠[]:=fun e9=>by
      unfold kidsM at e9
      rw [List.map_eq_nil_iff] at e9
      rw [e9] at hmem
      cases hmem
     exact this hkid
   · exact fun _=>h
theorem Snd.playL {T0:List Nd} (h0:Snd T0) (s st:Int):∀ (os:List OpT) (i:Nat) (T:List Nd) (R:List ResT) (C:List ChT),Snd T→Snd (playL T0 s st os i T R C).T
 | [],_,_,_,_,h=>h
 | o :: r,i,T,R,C,h=>by
   unfold Go.Proofs.YtckmihplkhmpnaaGreatDoor.playL
   split
   · exact h0
   · exact Snd.playL h0 s st r _ _ _ _ (h.one s st o)
theorem Snd.play {T:List Nd} (h:Snd T) (s st:Int) (os:List OpT):Snd (playM T s st os).T:=by
 unfold playM
 split
 · exact h
 · exact h.playL s st os 0 T [] [] h
theorem Snd.fin {T:List Nd} (h:Snd T) {s:Int} (hs:1≤s):Snd (endT T s):=by
 have keep:∀ q,(∃ z∈T,z.p=q∧z.o=0)→∃ z∈endT T s,z.p=q∧z.o=0:=by
  rintro q ⟨z,hz,e,e0⟩
  exact ⟨z,List.mem_filter.2 ⟨hz,by simp;omega⟩,e,e0⟩
 exact ⟨endT_inv h.inv s,keep _ h.root,fun x hx hr=>keep _ (h.up x (List.mem_filter.1 hx).1 hr)⟩
end Go.Proofs.YtckmihplkhmpnaaGreatDoor
