import Derived.Test.YtckmihplkhmpnaaGreatDoorTOnly
import Derived.Test.YtckmihplkhmpnaaGreatDoorTPlyE
namespace Go.Proofs.YtckmihplkhmpnaaGreatDoor
open Go.RowKit Go.Maps Go.WideShapes
set_option linter.unusedVariables false
set_option linter.unusedSimpArgs false
attribute [local go_sem ↓] Go.wp_at_zero Go.wp_at_succ
theorem take_set_drop {V U:List Nd} {q:Nat} {y:Nd} (hl:U.length=V.length) (hy:V[q]? = some y):(V.take q ++ U.drop q).set q y=V.take (q+1) ++ U.drop (q+1):=by
 have hq:=(List.getElem?_eq_some_iff.1 hy).1
 have e1:(V.take q).length=q:=by rw [List.length_take];omega
 obtain ⟨u,e2⟩:∃ u,U.drop q=u :: U.drop (q+1):=⟨_,List.drop_eq_getElem_cons (by omega)⟩
 rw [List.take_add_one,hy,e2,List.set_append_right _ _ (by omega),e1,Nat.sub_self]
 simp
theorem tnx_size {t N i:Nat} {x:Nd} (h:x.p.size≤140737488355328∧x.d.size≤140737488355328):(tnx t N i x).p.size≤maxLen∧(tnx t N i x).d.size≤maxLen:=by
 unfold tnx
 split
 · have e:(x.p ++ ⟨#[120]⟩:ByteArray).size=x.p.size+1:=by rw [ByteArray.size_append];rfl
   exact ⟨by show (x.p ++ ⟨#[120]⟩:ByteArray).size≤_;rw [e];unfold maxLen;omega,by show x.d.size≤_;unfold maxLen;omega⟩
 · split
   · exact ⟨by show x.p.size≤_;unfold maxLen;omega,by show (⟨#[111,116,104,101,114]⟩:ByteArray).size≤_;exact Nat.le_trans (by decide:(⟨#[111,116,104,101,114]⟩:ByteArray).size≤5) (by unfold maxLen;omega)⟩
   · exact ⟨by unfold maxLen;omega,by unfold maxLen;omega⟩
theorem tnL_mem {t:Nat} {T:List Nd} {y:Nd} (h:y∈tnL t T):∃ i x,T[i]? = some x∧y=tnx t T.length i x:=by
 obtain ⟨i,hi⟩:=List.mem_iff_getElem?.1 h
 unfold tnL at hi
 rw [List.getElem?_mapIdx] at hi
 cases hx:T[i]? with
 | none=>rw [hx] at hi;cases hi
 | some x=>rw [hx] at hi;exact ⟨i,x,hx,(Option.some.inj hi).symm⟩
set_option maxHeartbeats 16000000 in
set_option maxRecDepth 100000 in
theorem again_any (W:World) (B g cap:Nat) (la:Option Addr) (lc:Nat) (T:List Nd) (w:World) (hB:B=W.heap.size) (hg:GroundT W) (hlow:Below W.heap.size W w) (hr:RoomAt w B g cap T) (hn:NdsAt w la T) (hsz:∀ x∈T,x.p.size≤140737488355328∧x.d.size≤140737488355328) (hl:T.length≤1954687338211) (hgl:B≤g) :
  Calls Tryz.prog 8 #[.slice (some ⟨g,0,none⟩) T.length cap,.slice la T.length lc] w fun e w'=>e=.returned (.bool true)∧(∃ U:List Nd,U.length=T.length∧RoomAt w' B g cap U)∧Chg w w' (fun k=>k=g):=by
 obtain ⟨i0,hi0,hz0,hz1,hz2⟩:=info_parts Tryz.infoRF
 have HR:Hid (RoomAt w B g cap T):=hr
 have HNL:Hid (NdsAt w la T):=hn
 have HSZ:Hid _:=hsz
 have HG:Hid (GroundT W):=hg
 have HLW:Hid (∀ w',Chg w w' (fun k=>k=g)→Below W.heap.size W w'):=fun w' hc=>hlow.trans (hc.below hlow.size (fun k _ e=>by rw [show k=g from e,← hB];exact hgl))
 obtain ⟨N,hN⟩:∃ N,T.length=N:=⟨_,rfl⟩
 have HN:Hid (T.length=N):=hN
 have hcapN:N+1≤cap:=by rw [← hN];exact owns_cap hr
 have hgw:g<w.heap.size:=(hr.lt g rfl).2
 have HKG:Hid (∃ cur,w.heap[g]? = some (.cells cur 27 (0,0))):=owns_kind hr rfl
 rw [hN] at hl ⊢
 clear hg hr hn hsz hN hlow hB
 go_enter Tryz.func8,Tryz.ntmps8
 go_wp2_with fail
 go_loopw [5] (fun i wr=>∃ (t:Nat) (U:List Nd),i=.int .i64 t∧t≤3∧Hid (U.length=N)∧Hid (RoomAt wr B g cap U)∧Hid (Chg w wr (fun k=>k=g))) (fun i _=>3 - (intOf i).toNat)
 case atStart=>exact ⟨0,T,rfl,Nat.zero_le _,HN.out,HR.out,Chg.refl _ _⟩
 case round =>
  obtain ⟨t,U,rfl,ht,HUN,HRU,HCU⟩:=hrel
  obtain ⟨w0,hw0⟩:∃ x,x=wr:=⟨wr,rfl⟩
  subst hw0
  have HNr:Hid (NdsAt w0 la T):=HNL.out.chg HCU.out (fun k e cur hk=>by
   obtain ⟨c9,h9⟩:=HKG.out
   rw [show k=g from e,h9] at hk
   simp at hk)
  have hw0:w.heap.size≤w0.heap.size:=HCU.out.size
  by_cases hlt:t<3
  · have hlt':(t:Int)<3:=by omega
    rcases (show t=0∨t=1∨t=2 by omega) with rfl | rfl | rfl
    · rw [show ((0:Nat):Int)=0 from rfl]
      obtain ⟨V,hV⟩:∃ V,tnL 0 T=V:=⟨_,rfl⟩
      have HV:Hid (tnL 0 T=V):=hV
      have HVN:Hid (V.length=N):=by rw [← hV];show _=_;rw [tnL_len];exact HN.out
      clear hV
      go_wp2_with fail
      go_loopw [6,7] (fun mv i wq=>∃ (q:Nat),i=.int .i64 q∧q≤N∧Hid (wq.ownsRow w0.heap.size 26 7 mv q ((V.take q).flatMap Nd.cs))∧Hid (RoomAt wq B g cap (V.take q ++ U.drop q))∧Hid (Chg w0 wq (fun k=>k=g))) (fun _ i _=>N - (intOf i).toNat)
      case atStart=>exact ⟨0,rfl,Nat.zero_le _,World.ownsRow_nil _ _ _ _,by show RoomAt _ _ _ _ _;rw [List.take_zero,List.drop_zero,List.nil_append];exact HRU.out,Chg.refl _ _⟩
      case round =>
       obtain ⟨q,rfl,hq,HO,HRq,HCq⟩:=hrel
       have hsq:w0.heap.size≤wr.heap.size:=HCq.out.size
       by_cases hlt2:q<N
       · have hq':(q:Int)<(N:Int):=by omega
         obtain ⟨x,hx⟩:∃ x,T[q]? = some x:=⟨T[q]'(by rw [HN.out];exact hlt2),List.getElem?_eq_getElem _⟩
         have HNq:Hid (NdsAt wr la T):=HNr.out.chg HCq.out (fun k e cur hk=>by
          obtain ⟨c9,h9⟩:=owns_kind HRU.out (k:=g) rfl
          rw [show k=g from e,h9] at hk
          simp at hk)
         obtain ⟨bl,fl',rfl⟩:=HNq.out.some hx
         obtain ⟨hbl,x0,x1,x2,x3,x4,x5,x6⟩:=HNq.out.cells hx
         have hxs:=HSZ.out x (List.mem_of_getElem? hx)
         have HY:Hid (V[q]? = some (tnx 0 N q x)):=by rw [← HV.out,← HN.out];exact tnL_at hx
         clear hx
         obtain ⟨VQ,hVQ⟩:∃ z,V.take q=z:=⟨_,rfl⟩
         have HVQ:Hid (V.take q=VQ):=hVQ
         obtain ⟨RQ,hRQ⟩:∃ z,V.take q ++ U.drop q=z:=⟨_,rfl⟩
         have HRQ:Hid (RQ=V.take q ++ U.drop q):=hRQ.symm
         have HRL:Hid (RQ.length=N):=by
          show _=_
          rw [← hRQ,List.length_append,List.length_take,List.length_drop,HUN.out,HVN.out]
          omega
         rw [hVQ] at HO
         rw [hRQ] at HRq
         clear hVQ hRQ
         have hxs1:x.p.size+1≤9223372036854775807:=by omega
         obtain ⟨PX,hPX⟩:∃ z,x.p ++ ⟨#[120]⟩=z:=⟨_,rfl⟩
         have hY0:V[q]? = some ⟨PX,x.d,x.v,x.m,x.c,x.o,x.k⟩:=by rw [HY.out,← hPX];rfl
         have HYQ:Hid (V[q]? = some ⟨PX,x.d,x.v,x.m,x.c,x.o,x.k⟩):=hY0
         go_upto_region 13 with fail
         clear hY0 hPX
         obtain ⟨w1,hw1⟩:∃ z,wr.alloc (.cells #[.string PX,.string x.d,.int .i64 x.v,.int .i64 x.m,.int .i64 x.c,.int .i64 x.o,.int .i64 x.k] 26)=z:=⟨_,rfl⟩
         obtain ⟨xb,hxb⟩:∃ z,wr.heap.size=z:=⟨_,rfl⟩
         have hb1:Below wr.heap.size wr w1:=by rw [← hw1];exact (Below.refl _ _).alloc (Nat.le_refl _) _
         have HX1:Hid (w1.heap[xb]? = some (.cells #[.string PX,.string x.d,.int .i64 x.v,.int .i64 x.m,.int .i64 x.c,.int .i64 x.o,.int .i64 x.k] 26 (0,0))):=by rw [← hw1,← hxb];exact heap_alloc_new _ _
         have HXB:Hid (∀ k,u6.ownBlock=some k→¬ k=xb):=fun k hk e=>by have:=(HO.out.lt k hk).2;omega
         have HO1:Hid (w1.ownsRow w0.heap.size 26 7 u6 q (VQ.flatMap Nd.cs)):=owns_chg HO.out (Chg.of_below hb1 (fun _=>False)) (fun _ _=>id)
         have HR1:Hid (RoomAt w1 B g cap RQ):=HRq.out.below hb1
         have HC1:Hid (Chg w0 w1 (fun k=>k=g)):=HCq.out.trans (Chg.of_below hb1 _)
         have hs1:w0.heap.size≤w1.heap.size:=HC1.out.size
         rw [hw1,hxb]
         clear hw1 hxb hb1 x0 x1 x2 x3 x4 x5 x6
         obtain ⟨y0,y1,y2,y3,y4,y5,y6⟩:=cells_7 HX1.out
         go_wp2_with (first
          | (at_builtin;refine wpList_append_lies _ rfl _ _ _ rfl w0.heap.size 26 i0 _ 7 72 Tryz.underlying24 hi0 hz0 hz1 hz2 rfl (by omega) u6 q (VQ.flatMap Nd.cs) rfl (World.ownsRow.alloc HO1.out _) ⟨w1.heap.size,0,none⟩ 1 1 [.string PX,.string x.d,.int .i64 x.v,.int .i64 x.m,.int .i64 x.c,.int .i64 x.o,.int .i64 x.k] rfl rfl (World.news_of_block (cs:=#[.string PX,.string x.d,.int .i64 x.v,.int .i64 x.m,.int .i64 x.c,.int .i64 x.o,.int .i64 x.k]) (t:=26) (fr:=(0,0)) (heap_alloc_new w1 _)) (by simp [Value.oneCell']) (by omega) (by unfold maxLen;omega) (by omega) (by simp;omega) (w1.heap.size+1) (by simp) ?_
             intro g4 cap4 w4 hown4 hgrow4 hat4 hlt4
             have HN4:Hid (w4.ownsRow w0.heap.size 26 7 (.slice (some ⟨g4,0,none⟩) (q+1) cap4) (q+1) (VQ.flatMap Nd.cs ++ [.string PX,.string x.d,.int .i64 x.v,.int .i64 x.m,.int .i64 x.c,.int .i64 x.o,.int .i64 x.k])):=hown4
             have HC14:Hid (Chg w1 w4 (fun k=>u6.ownBlock=some k)):=(Chg.alloc _ _ _).trans (Chg.grown hgrow4)
             have HR4:Hid (RoomAt w4 B g cap RQ):=HR1.out.chg HC14.out (fun e=>by
              obtain ⟨c8,h8⟩:=owns_kind HO1.out e
              obtain ⟨c9,h9⟩:=owns_kind HR1.out (k:=g) rfl
              rw [h8] at h9
              simp at h9)
             have HC4:Hid (Chg w0 w4 (fun k=>k=g)):=HC1.out.trans' HC14.out (fun k e=>.inr (HO1.out.lt k e).1)
             have HX4:Hid (w4.heap[xb]? = some (.cells #[.string PX,.string x.d,.int .i64 x.v,.int .i64 x.m,.int .i64 x.c,.int .i64 x.o,.int .i64 x.k] 26 (0,0))):=by
              show _=_
              rw [HC14.out.block xb (Array.getElem?_eq_some_iff.1 HX1.out).1 (fun e=>HXB.out xb e rfl)]
              exact HX1.out
             clear hown4 hgrow4 hat4 hlt4 y0 y1 y2 y3 y4 y5 y6
             obtain ⟨y0,y1,y2,y3,y4,y5,y6⟩:=cells_7 HX4.out
             obtain ⟨r0,k0⟩:=some_n (k:=q * 7) HR4.out (by rw [HRL.out];omega)
             obtain ⟨r1,k1⟩:=some_n (k:=q * 7+1) HR4.out (by rw [HRL.out];omega)
             obtain ⟨r2,k2⟩:=some_n (k:=q * 7+2) HR4.out (by rw [HRL.out];omega)
             obtain ⟨r3,k3⟩:=some_n (k:=q * 7+3) HR4.out (by rw [HRL.out];omega)
             obtain ⟨r4,k4⟩:=some_n (k:=q * 7+4) HR4.out (by rw [HRL.out];omega)
             obtain ⟨r5,k5⟩:=some_n (k:=q * 7+5) HR4.out (by rw [HRL.out];omega)
             obtain ⟨r6,k6⟩:=some_n (k:=q * 7+6) HR4.out (by rw [HRL.out];omega)
             have fz:=blk_of HR4.out)
          | fail)
         go_roundw
         case rel =>
          have hS:=HR4.out.set (i:=q) (by rw [HRL.out];omega) (⟨PX,x.d,x.v,x.m,x.c,x.o,x.k⟩:Nd)
          rw [HRQ.out,take_set_drop (by rw [HUN.out,HVN.out]) HYQ.out] at hS
          have hC:=Fa.chg_setCells g (⟨PX,x.d,x.v,x.m,x.c,x.o,x.k⟩:Nd).cs (q * 7) w4
          have hM:=owns_chg HN4.out hC (fun k hk e=>by
           obtain ⟨c8,h8⟩:=owns_kind HN4.out hk
           obtain ⟨c9,h9⟩:=owns_kind HR4.out (k:=g) rfl
           rw [show k=g from e,h9] at h8
           simp at h8)
          have eM:(V.take (q+1)).flatMap Nd.cs=VQ.flatMap Nd.cs ++ [.string PX,.string x.d,.int .i64 x.v,.int .i64 x.m,.int .i64 x.c,.int .i64 x.o,.int .i64 x.k]:=by rw [List.take_add_one,HYQ.out,← HVQ.out,List.flatMap_append];simp [Nd.cs]
          exact ⟨q+1,by go_num,by omega,by show World.ownsRow _ _ _ _ _ _ _;rw [eM];exact hM,hS,HC4.out.trans hC⟩
         case measure=>simp [intOf];omega
       · obtain rfl:q=N:=by omega
         have hge:¬ (q:Int)<(q:Int):=by omega
         rw [List.take_of_length_le (by rw [HVN.out];exact Nat.le_refl _)] at HO HRq
         rw [List.drop_of_length_le (by rw [HUN.out];exact Nat.le_refl _),List.append_nil] at HRq
         obtain ⟨ma,mc,rfl⟩:=slice_of' HO.out
         have HMN:Hid (NdsAt wr ma V):=nds_row' (c:=mc) HO.out
         have HSV:Hid (∀ y∈V,y.p.size≤maxLen∧y.d.size≤maxLen):=fun y hy=>by
          rw [← HV.out] at hy
          obtain ⟨i9,x9,hx9,hy9⟩:=tnL_mem hy
          rw [hy9]
          exact tnx_size (HSZ.out x9 (List.mem_of_getElem? hx9))
         have HCw:Hid (Chg w wr (fun k=>k=g)):=HCU.out.trans HCq.out
         have HRL:Hid _:=refLoad_all ma mc V wr HSV.out HMN.out
         rw [HVN.out] at HRL
         go_wp2_with fail
         refine Calls.mono HRL.out ?_
         rintro e w1 ⟨hb1,hE1⟩
         have HR1:Hid (RoomAt w1 B g cap V):=HRq.out.below hb1
         have HC1:Hid (Chg w w1 (fun k=>k=g)):=HCw.out.trans (Chg.of_below hb1 _)
         by_cases hcd:loadC V=0
         · obtain ⟨la1,lc1,rfl,hn1⟩:∃ la lc,e=.returned (.tuple #[rtV la V.length lc,.int .i64 0])∧NdsAt w1 la V:=by
            rcases hE1 with h9 | h9
            · exact absurd hcd h9.1
            · exact h9.2
           have HN1:Hid (NdsAt w1 la1 V):=hn1
           simp only [HVN.out]
           clear hE1 hb1 hn1
           go_upto_region 16 with fail
           obtain ⟨w2,hw2⟩:∃ z,w1.alloc (.cells #[.slice la1 q lc1] 29)=z:=⟨_,rfl⟩
           obtain ⟨vb,hvb⟩:∃ z,w1.heap.size=z:=⟨_,rfl⟩
           have hb2:Below w1.heap.size w1 w2:=by rw [← hw2];exact (Below.refl _ _).alloc (Nat.le_refl _) _
           have HV2:Hid (w2.heap[vb]? = some (.cells #[.slice la1 q lc1] 29 (0,0))):=by rw [← hw2,← hvb];exact heap_alloc_new _ _
           have HR2:Hid (RoomAt w2 B g cap V):=HR1.out.below hb2
           have HN2:Hid (NdsAt w2 la1 V):=HN1.out.below hb2
           have HC2:Hid (Chg w w2 (fun k=>k=g)):=HC1.out.trans (Chg.of_below hb2 _)
           rw [hw2,hvb]
           clear hw2 hvb hb2
           have HLO:Hid _:=load_all (some ⟨g,0,none⟩) cap V w2 HR2.out.fus HSV.out (HG.out.below (HLW.out _ HC2.out))
           rw [HVN.out] at HLO
           go_wp2_with fail
           refine Calls.mono HLO.out ?_
           rintro e w3 ⟨hb3,hE3⟩
           obtain ⟨ub,rfl,ht3⟩:∃ ub,e=.returned (.tuple #[.pointer (some ⟨ub,0,none⟩),.int .i64 0])∧TrAt w3 w2.heap.size ub 8 V:=by
            rcases hE3 with h9 | h9
            · exact absurd hcd h9.1
            · exact h9.2
           have HT3:Hid (TrAt w3 w2.heap.size ub 8 V):=ht3
           have HV3:Hid _:=kept_block hb3 HV2.out
           have HR3:Hid (RoomAt w3 B g cap V):=HR2.out.below hb3
           have HN3:Hid (NdsAt w3 la1 V):=HN2.out.below hb3
           have HC3:Hid (Chg w w3 (fun k=>k=g)):=HC2.out.trans (Chg.of_below hb3 _)
           clear hE3 hb3 ht3 hcd
           go_wp2_with (first | (go_at_call 6;go_in) | fail)
           refine Calls.mono (nodes_tr w2.heap.size ub 8 V w3 HT3.out) ?_
           rintro e w4 ⟨g4,cap4,rfl,hr4,hb4⟩
           have HM4:Hid (w4.ownsRow w3.heap.size 27 7 (.slice (some ⟨g4,0,none⟩) V.length cap4) V.length (V.flatMap Nd.cs)):=hr4
           have HV4:Hid _:=kept_block hb4 HV3.out
           have HR4:Hid (RoomAt w4 B g cap V):=HR3.out.below hb4
           have HN4:Hid (NdsAt w4 la1 V):=HN3.out.below hb4
           have HC4:Hid (Chg w w4 (fun k=>k=g)):=HC3.out.trans (Chg.of_below hb4 _)
           have HRN:Hid _:=refNodes_any la1 lc1 V w4 HN4.out HT3.out.snd.inv.len
           simp only [HVN.out]
           rw [HVN.out] at HRN
           have v0:=cells_1 HV4.out
           clear hr4 hb4
           go_wp2_with fail
           refine Calls.mono HRN.out ?_
           rintro e w5 ⟨v5,rfl,hr5,hb5⟩
           have HR5:Hid (RoomAt w5 B g cap V):=HR4.out.below hb5
           have HC5:Hid (Chg w w5 (fun k=>k=g)):=HC4.out.trans (Chg.of_below hb5 _)
           have HFU:Hid _:=fullsT_any w3.heap.size w4.heap.size (.slice (some ⟨g4,0,none⟩) V.length cap4) v5 V w5 (owns_chg HM4.out (Chg.of_below hb5 (fun _=>False)) (fun _ _=>id)) (by rw [HVN.out];exact hr5) (by have:=HT3.out.snd.inv.len;omega)
           rw [HVN.out] at HFU
           clear hr5 hb5 v0
           go_wp2_with fail
           refine Calls.mono HFU.out ?_
           rintro e w6 ⟨rfl,hb6⟩
           have HR6:Hid (RoomAt w6 B g cap V):=HR5.out.below hb6
           have HC6:Hid (Chg w w6 (fun k=>k=g)):=HC5.out.trans (Chg.of_below hb6 _)
           clear hb6
           go_wp2_with fail
           go_roundw
           case rel=>exact ⟨0+1,V,by go_num,by omega,HVN.out,HR6.out,HC6.out⟩
           case measure=>simp [intOf]
         · obtain ⟨cd,hcd'⟩:∃ cd,loadC V=cd:=⟨_,rfl⟩
           obtain rfl:e=.returned (.tuple #[rtV none 0 0,.int .i64 cd]):=by
            rcases hE1 with h9 | h9
            · rw [← hcd'];exact h9.2
            · exact absurd h9.1 hcd
           have hcb:(cd != 0)=true:=by rw [← hcd'];simpa using hcd
           have HCD:Hid (loadC V=cd∧cd≠0):=⟨hcd',by rw [← hcd'];exact hcd⟩
           clear hE1 hb1 hcd' hcd
           go_upto_region 16 with fail
           obtain ⟨w2,hw2⟩:∃ z,w1.alloc (.cells #[.slice none 0 0] 29)=z:=⟨_,rfl⟩
           obtain ⟨vb,hvb⟩:∃ z,w1.heap.size=z:=⟨_,rfl⟩
           have hb2:Below w1.heap.size w1 w2:=by rw [← hw2];exact (Below.refl _ _).alloc (Nat.le_refl _) _
           have HR2:Hid (RoomAt w2 B g cap V):=HR1.out.below hb2
           have HC2:Hid (Chg w w2 (fun k=>k=g)):=HC1.out.trans (Chg.of_below hb2 _)
           rw [hw2,hvb]
           clear hw2 hvb hb2
           have HLO:Hid _:=load_all (some ⟨g,0,none⟩) cap V w2 HR2.out.fus HSV.out (HG.out.below (HLW.out _ HC2.out))
           rw [HVN.out] at HLO
           go_wp2_with fail
           refine Calls.mono HLO.out ?_
           rintro e w3 ⟨hb3,hE3⟩
           obtain rfl:e=.returned (.tuple #[.pointer none,.int .i64 cd]):=by
            rcases hE3 with h9 | h9
            · rw [← HCD.out.1];exact h9.2
            · exact absurd (HCD.out.1.symm.trans h9.1) HCD.out.2
           have HR3:Hid (RoomAt w3 B g cap V):=HR2.out.below hb3
           have HC3:Hid (Chg w w3 (fun k=>k=g)):=HC2.out.trans (Chg.of_below hb3 _)
           clear hE3 hb3
           go_wp2_with (first | (go_at_call 6;go_in) | fail)
           go_roundw
           case rel=>exact ⟨0+1,V,by go_num,by omega,HVN.out,HR3.out,HC3.out⟩
           case measure=>simp [intOf]
    · rw [show ((1:Nat):Int)=1 from rfl]
      obtain ⟨V,hV⟩:∃ V,tnL 1 T=V:=⟨_,rfl⟩
      have HV:Hid (tnL 1 T=V):=hV
      have HVN:Hid (V.length=N):=by rw [← hV];show _=_;rw [tnL_len];exact HN.out
      clear hV
      go_wp2_with fail
      go_loopw [6,7] (fun mv i wq=>∃ (q:Nat),i=.int .i64 q∧q≤N∧Hid (wq.ownsRow w0.heap.size 26 7 mv q ((V.take q).flatMap Nd.cs))∧Hid (RoomAt wq B g cap (V.take q ++ U.drop q))∧Hid (Chg w0 wq (fun k=>k=g))) (fun _ i _=>N - (intOf i).toNat)
      case atStart=>exact ⟨0,rfl,Nat.zero_le _,World.ownsRow_nil _ _ _ _,by show RoomAt _ _ _ _ _;rw [List.take_zero,List.drop_zero,List.nil_append];exact HRU.out,Chg.refl _ _⟩
      case round =>
       obtain ⟨q,rfl,hq,HO,HRq,HCq⟩:=hrel
       have hsq:w0.heap.size≤wr.heap.size:=HCq.out.size
       by_cases hlt2:q<N
       · have hq':(q:Int)<(N:Int):=by omega
         obtain ⟨x,hx⟩:∃ x,T[q]? = some x:=⟨T[q]'(by rw [HN.out];exact hlt2),List.getElem?_eq_getElem _⟩
         have HNq:Hid (NdsAt wr la T):=HNr.out.chg HCq.out (fun k e cur hk=>by
          obtain ⟨c9,h9⟩:=owns_kind HRU.out (k:=g) rfl
          rw [show k=g from e,h9] at hk
          simp at hk)
         obtain ⟨bl,fl',rfl⟩:=HNq.out.some hx
         obtain ⟨hbl,x0,x1,x2,x3,x4,x5,x6⟩:=HNq.out.cells hx
         have hxs:=HSZ.out x (List.mem_of_getElem? hx)
         have HY:Hid (V[q]? = some (tnx 1 N q x)):=by rw [← HV.out,← HN.out];exact tnL_at hx
         clear hx
         obtain ⟨VQ,hVQ⟩:∃ z,V.take q=z:=⟨_,rfl⟩
         have HVQ:Hid (V.take q=VQ):=hVQ
         obtain ⟨RQ,hRQ⟩:∃ z,V.take q ++ U.drop q=z:=⟨_,rfl⟩
         have HRQ:Hid (RQ=V.take q ++ U.drop q):=hRQ.symm
         have HRL:Hid (RQ.length=N):=by
          show _=_
          rw [← hRQ,List.length_append,List.length_take,List.length_drop,HUN.out,HVN.out]
          omega
         rw [hVQ] at HO
         rw [hRQ] at HRq
         clear hVQ hRQ
         have hxs1:x.p.size+1≤9223372036854775807:=by omega
         by_cases hql:q+1=N
         · have hY0:V[q]? = some ⟨x.p,⟨#[111,116,104,101,114]⟩,x.v,x.m,x.c,x.o,x.k⟩:=by rw [HY.out];unfold tnx;rw [if_neg (by decide),if_pos ⟨rfl,hql⟩]
           have hwn:IntKind.i64.wrap ((N:Int) - 1)=(q:Int):=by rw [IntKind.wrap_i64];omega
           have hqq:((q:Int)==(q:Int))=true:=by simp
           clear hql
           have HYQ:Hid (V[q]? = some ⟨x.p,⟨#[111,116,104,101,114]⟩,x.v,x.m,x.c,x.o,x.k⟩):=hY0
           go_upto_region 13 with fail
           obtain ⟨w1,hw1⟩:∃ z,wr.alloc (.cells #[.string x.p,.string ⟨#[111,116,104,101,114]⟩,.int .i64 x.v,.int .i64 x.m,.int .i64 x.c,.int .i64 x.o,.int .i64 x.k] 26)=z:=⟨_,rfl⟩
           obtain ⟨xb,hxb⟩:∃ z,wr.heap.size=z:=⟨_,rfl⟩
           have hb1:Below wr.heap.size wr w1:=by rw [← hw1];exact (Below.refl _ _).alloc (Nat.le_refl _) _
           have HX1:Hid (w1.heap[xb]? = some (.cells #[.string x.p,.string ⟨#[111,116,104,101,114]⟩,.int .i64 x.v,.int .i64 x.m,.int .i64 x.c,.int .i64 x.o,.int .i64 x.k] 26 (0,0))):=by rw [← hw1,← hxb];exact heap_alloc_new _ _
           have HXB:Hid (∀ k,u6.ownBlock=some k→¬ k=xb):=fun k hk e=>by have:=(HO.out.lt k hk).2;omega
           have HO1:Hid (w1.ownsRow w0.heap.size 26 7 u6 q (VQ.flatMap Nd.cs)):=owns_chg HO.out (Chg.of_below hb1 (fun _=>False)) (fun _ _=>id)
           have HR1:Hid (RoomAt w1 B g cap RQ):=HRq.out.below hb1
           have HC1:Hid (Chg w0 w1 (fun k=>k=g)):=HCq.out.trans (Chg.of_below hb1 _)
           have hs1:w0.heap.size≤w1.heap.size:=HC1.out.size
           rw [hw1,hxb]
           clear hw1 hxb hb1 x0 x1 x2 x3 x4 x5 x6
           obtain ⟨y0,y1,y2,y3,y4,y5,y6⟩:=cells_7 HX1.out
           go_wp2_with (first
            | (at_builtin;refine wpList_append_lies _ rfl _ _ _ rfl w0.heap.size 26 i0 _ 7 72 Tryz.underlying24 hi0 hz0 hz1 hz2 rfl (by omega) u6 q (VQ.flatMap Nd.cs) rfl (World.ownsRow.alloc HO1.out _) ⟨w1.heap.size,0,none⟩ 1 1 [.string x.p,.string ⟨#[111,116,104,101,114]⟩,.int .i64 x.v,.int .i64 x.m,.int .i64 x.c,.int .i64 x.o,.int .i64 x.k] rfl rfl (World.news_of_block (cs:=#[.string x.p,.string ⟨#[111,116,104,101,114]⟩,.int .i64 x.v,.int .i64 x.m,.int .i64 x.c,.int .i64 x.o,.int .i64 x.k]) (t:=26) (fr:=(0,0)) (heap_alloc_new w1 _)) (by simp [Value.oneCell']) (by omega) (by unfold maxLen;omega) (by omega) (by simp;omega) (w1.heap.size+1) (by simp) ?_
               intro g4 cap4 w4 hown4 hgrow4 hat4 hlt4
               have HN4:Hid (w4.ownsRow w0.heap.size 26 7 (.slice (some ⟨g4,0,none⟩) (q+1) cap4) (q+1) (VQ.flatMap Nd.cs ++ [.string x.p,.string ⟨#[111,116,104,101,114]⟩,.int .i64 x.v,.int .i64 x.m,.int .i64 x.c,.int .i64 x.o,.int .i64 x.k])):=hown4
               have HC14:Hid (Chg w1 w4 (fun k=>u6.ownBlock=some k)):=(Chg.alloc _ _ _).trans (Chg.grown hgrow4)
               have HR4:Hid (RoomAt w4 B g cap RQ):=HR1.out.chg HC14.out (fun e=>by
                obtain ⟨c8,h8⟩:=owns_kind HO1.out e
                obtain ⟨c9,h9⟩:=owns_kind HR1.out (k:=g) rfl
                rw [h8] at h9
                simp at h9)
               have HC4:Hid (Chg w0 w4 (fun k=>k=g)):=HC1.out.trans' HC14.out (fun k e=>.inr (HO1.out.lt k e).1)
               have HX4:Hid (w4.heap[xb]? = some (.cells #[.string x.p,.string ⟨#[111,116,104,101,114]⟩,.int .i64 x.v,.int .i64 x.m,.int .i64 x.c,.int .i64 x.o,.int .i64 x.k] 26 (0,0))):=by
                show _=_
                rw [HC14.out.block xb (Array.getElem?_eq_some_iff.1 HX1.out).1 (fun e=>HXB.out xb e rfl)]
                exact HX1.out
               clear hown4 hgrow4 hat4 hlt4 y0 y1 y2 y3 y4 y5 y6
               obtain ⟨y0,y1,y2,y3,y4,y5,y6⟩:=cells_7 HX4.out
               obtain ⟨r0,k0⟩:=some_n (k:=q * 7) HR4.out (by rw [HRL.out];omega)
               obtain ⟨r1,k1⟩:=some_n (k:=q * 7+1) HR4.out (by rw [HRL.out];omega)
               obtain ⟨r2,k2⟩:=some_n (k:=q * 7+2) HR4.out (by rw [HRL.out];omega)
               obtain ⟨r3,k3⟩:=some_n (k:=q * 7+3) HR4.out (by rw [HRL.out];omega)
               obtain ⟨r4,k4⟩:=some_n (k:=q * 7+4) HR4.out (by rw [HRL.out];omega)
               obtain ⟨r5,k5⟩:=some_n (k:=q * 7+5) HR4.out (by rw [HRL.out];omega)
               obtain ⟨r6,k6⟩:=some_n (k:=q * 7+6) HR4.out (by rw [HRL.out];omega)
               have fz:=blk_of HR4.out)
            | fail)
           go_roundw
           case rel =>
            have hS:=HR4.out.set (i:=q) (by rw [HRL.out];omega) (⟨x.p,⟨#[111,116,104,101,114]⟩,x.v,x.m,x.c,x.o,x.k⟩:Nd)
            rw [HRQ.out,take_set_drop (by rw [HUN.out,HVN.out]) HYQ.out] at hS
            have hC:=Fa.chg_setCells g (⟨x.p,⟨#[111,116,104,101,114]⟩,x.v,x.m,x.c,x.o,x.k⟩:Nd).cs (q * 7) w4
            have hM:=owns_chg HN4.out hC (fun k hk e=>by
             obtain ⟨c8,h8⟩:=owns_kind HN4.out hk
             obtain ⟨c9,h9⟩:=owns_kind HR4.out (k:=g) rfl
             rw [show k=g from e,h9] at h8
             simp at h8)
            have eM:(V.take (q+1)).flatMap Nd.cs=VQ.flatMap Nd.cs ++ [.string x.p,.string ⟨#[111,116,104,101,114]⟩,.int .i64 x.v,.int .i64 x.m,.int .i64 x.c,.int .i64 x.o,.int .i64 x.k]:=by rw [List.take_add_one,HYQ.out,← HVQ.out,List.flatMap_append];simp [Nd.cs]
            exact ⟨q+1,by go_num,by omega,by show World.ownsRow _ _ _ _ _ _ _;rw [eM];exact hM,hS,HC4.out.trans hC⟩
           case measure=>simp [intOf];omega
         · have hY0:V[q]? = some ⟨x.p,x.d,x.v,x.m,x.c,x.o,x.k⟩:=by rw [HY.out];unfold tnx;rw [if_neg (by decide),if_neg (fun e=>hql e.2)]
           obtain ⟨n1,hn1⟩:∃ n:Nat,N=n+1:=⟨N - 1,by omega⟩
           have hwn:IntKind.i64.wrap ((N:Int) - 1)=(n1:Int):=by rw [IntKind.wrap_i64];omega
           have hqq:((q:Int)==(n1:Int))=false:=beq_eq_false_iff_ne.2 (by omega)
           clear hql hn1
           have HYQ:Hid (V[q]? = some ⟨x.p,x.d,x.v,x.m,x.c,x.o,x.k⟩):=hY0
           go_upto_region 13 with fail
           obtain ⟨w1,hw1⟩:∃ z,wr.alloc (.cells #[.string x.p,.string x.d,.int .i64 x.v,.int .i64 x.m,.int .i64 x.c,.int .i64 x.o,.int .i64 x.k] 26)=z:=⟨_,rfl⟩
           obtain ⟨xb,hxb⟩:∃ z,wr.heap.size=z:=⟨_,rfl⟩
           have hb1:Below wr.heap.size wr w1:=by rw [← hw1];exact (Below.refl _ _).alloc (Nat.le_refl _) _
           have HX1:Hid (w1.heap[xb]? = some (.cells #[.string x.p,.string x.d,.int .i64 x.v,.int .i64 x.m,.int .i64 x.c,.int .i64 x.o,.int .i64 x.k] 26 (0,0))):=by rw [← hw1,← hxb];exact heap_alloc_new _ _
           have HXB:Hid (∀ k,u6.ownBlock=some k→¬ k=xb):=fun k hk e=>by have:=(HO.out.lt k hk).2;omega
           have HO1:Hid (w1.ownsRow w0.heap.size 26 7 u6 q (VQ.flatMap Nd.cs)):=owns_chg HO.out (Chg.of_below hb1 (fun _=>False)) (fun _ _=>id)
           have HR1:Hid (RoomAt w1 B g cap RQ):=HRq.out.below hb1
           have HC1:Hid (Chg w0 w1 (fun k=>k=g)):=HCq.out.trans (Chg.of_below hb1 _)
           have hs1:w0.heap.size≤w1.heap.size:=HC1.out.size
           rw [hw1,hxb]
           clear hw1 hxb hb1 x0 x1 x2 x3 x4 x5 x6
           obtain ⟨y0,y1,y2,y3,y4,y5,y6⟩:=cells_7 HX1.out
           go_wp2_with (first
            | (at_builtin;refine wpList_append_lies _ rfl _ _ _ rfl w0.heap.size 26 i0 _ 7 72 Tryz.underlying24 hi0 hz0 hz1 hz2 rfl (by omega) u6 q (VQ.flatMap Nd.cs) rfl (World.ownsRow.alloc HO1.out _) ⟨w1.heap.size,0,none⟩ 1 1 [.string x.p,.string x.d,.int .i64 x.v,.int .i64 x.m,.int .i64 x.c,.int .i64 x.o,.int .i64 x.k] rfl rfl (World.news_of_block (cs:=#[.string x.p,.string x.d,.int .i64 x.v,.int .i64 x.m,.int .i64 x.c,.int .i64 x.o,.int .i64 x.k]) (t:=26) (fr:=(0,0)) (heap_alloc_new w1 _)) (by simp [Value.oneCell']) (by omega) (by unfold maxLen;omega) (by omega) (by simp;omega) (w1.heap.size+1) (by simp) ?_
               intro g4 cap4 w4 hown4 hgrow4 hat4 hlt4
               have HN4:Hid (w4.ownsRow w0.heap.size 26 7 (.slice (some ⟨g4,0,none⟩) (q+1) cap4) (q+1) (VQ.flatMap Nd.cs ++ [.string x.p,.string x.d,.int .i64 x.v,.int .i64 x.m,.int .i64 x.c,.int .i64 x.o,.int .i64 x.k])):=hown4
               have HC14:Hid (Chg w1 w4 (fun k=>u6.ownBlock=some k)):=(Chg.alloc _ _ _).trans (Chg.grown hgrow4)
               have HR4:Hid (RoomAt w4 B g cap RQ):=HR1.out.chg HC14.out (fun e=>by
                obtain ⟨c8,h8⟩:=owns_kind HO1.out e
                obtain ⟨c9,h9⟩:=owns_kind HR1.out (k:=g) rfl
                rw [h8] at h9
                simp at h9)
               have HC4:Hid (Chg w0 w4 (fun k=>k=g)):=HC1.out.trans' HC14.out (fun k e=>.inr (HO1.out.lt k e).1)
               have HX4:Hid (w4.heap[xb]? = some (.cells #[.string x.p,.string x.d,.int .i64 x.v,.int .i64 x.m,.int .i64 x.c,.int .i64 x.o,.int .i64 x.k] 26 (0,0))):=by
                show _=_
                rw [HC14.out.block xb (Array.getElem?_eq_some_iff.1 HX1.out).1 (fun e=>HXB.out xb e rfl)]
                exact HX1.out
               clear hown4 hgrow4 hat4 hlt4 y0 y1 y2 y3 y4 y5 y6
               obtain ⟨y0,y1,y2,y3,y4,y5,y6⟩:=cells_7 HX4.out
               obtain ⟨r0,k0⟩:=some_n (k:=q * 7) HR4.out (by rw [HRL.out];omega)
               obtain ⟨r1,k1⟩:=some_n (k:=q * 7+1) HR4.out (by rw [HRL.out];omega)
               obtain ⟨r2,k2⟩:=some_n (k:=q * 7+2) HR4.out (by rw [HRL.out];omega)
               obtain ⟨r3,k3⟩:=some_n (k:=q * 7+3) HR4.out (by rw [HRL.out];omega)
               obtain ⟨r4,k4⟩:=some_n (k:=q * 7+4) HR4.out (by rw [HRL.out];omega)
               obtain ⟨r5,k5⟩:=some_n (k:=q * 7+5) HR4.out (by rw [HRL.out];omega)
               obtain ⟨r6,k6⟩:=some_n (k:=q * 7+6) HR4.out (by rw [HRL.out];omega)
               have fz:=blk_of HR4.out)
            | fail)
           go_roundw
           case rel =>
            have hS:=HR4.out.set (i:=q) (by rw [HRL.out];omega) (⟨x.p,x.d,x.v,x.m,x.c,x.o,x.k⟩:Nd)
            rw [HRQ.out,take_set_drop (by rw [HUN.out,HVN.out]) HYQ.out] at hS
            have hC:=Fa.chg_setCells g (⟨x.p,x.d,x.v,x.m,x.c,x.o,x.k⟩:Nd).cs (q * 7) w4
            have hM:=owns_chg HN4.out hC (fun k hk e=>by
             obtain ⟨c8,h8⟩:=owns_kind HN4.out hk
             obtain ⟨c9,h9⟩:=owns_kind HR4.out (k:=g) rfl
             rw [show k=g from e,h9] at h8
             simp at h8)
            have eM:(V.take (q+1)).flatMap Nd.cs=VQ.flatMap Nd.cs ++ [.string x.p,.string x.d,.int .i64 x.v,.int .i64 x.m,.int .i64 x.c,.int .i64 x.o,.int .i64 x.k]:=by rw [List.take_add_one,HYQ.out,← HVQ.out,List.flatMap_append];simp [Nd.cs]
            exact ⟨q+1,by go_num,by omega,by show World.ownsRow _ _ _ _ _ _ _;rw [eM];exact hM,hS,HC4.out.trans hC⟩
           case measure=>simp [intOf];omega
       · obtain rfl:q=N:=by omega
         have hge:¬ (q:Int)<(q:Int):=by omega
         rw [List.take_of_length_le (by rw [HVN.out];exact Nat.le_refl _)] at HO HRq
         rw [List.drop_of_length_le (by rw [HUN.out];exact Nat.le_refl _),List.append_nil] at HRq
         obtain ⟨ma,mc,rfl⟩:=slice_of' HO.out
         have HMN:Hid (NdsAt wr ma V):=nds_row' (c:=mc) HO.out
         have HSV:Hid (∀ y∈V,y.p.size≤maxLen∧y.d.size≤maxLen):=fun y hy=>by
          rw [← HV.out] at hy
          obtain ⟨i9,x9,hx9,hy9⟩:=tnL_mem hy
          rw [hy9]
          exact tnx_size (HSZ.out x9 (List.mem_of_getElem? hx9))
         have HCw:Hid (Chg w wr (fun k=>k=g)):=HCU.out.trans HCq.out
         have HRL:Hid _:=refLoad_all ma mc V wr HSV.out HMN.out
         rw [HVN.out] at HRL
         go_wp2_with fail
         refine Calls.mono HRL.out ?_
         rintro e w1 ⟨hb1,hE1⟩
         have HR1:Hid (RoomAt w1 B g cap V):=HRq.out.below hb1
         have HC1:Hid (Chg w w1 (fun k=>k=g)):=HCw.out.trans (Chg.of_below hb1 _)
         by_cases hcd:loadC V=0
         · obtain ⟨la1,lc1,rfl,hn1⟩:∃ la lc,e=.returned (.tuple #[rtV la V.length lc,.int .i64 0])∧NdsAt w1 la V:=by
            rcases hE1 with h9 | h9
            · exact absurd hcd h9.1
            · exact h9.2
           have HN1:Hid (NdsAt w1 la1 V):=hn1
           simp only [HVN.out]
           clear hE1 hb1 hn1
           go_upto_region 16 with fail
           obtain ⟨w2,hw2⟩:∃ z,w1.alloc (.cells #[.slice la1 q lc1] 29)=z:=⟨_,rfl⟩
           obtain ⟨vb,hvb⟩:∃ z,w1.heap.size=z:=⟨_,rfl⟩
           have hb2:Below w1.heap.size w1 w2:=by rw [← hw2];exact (Below.refl _ _).alloc (Nat.le_refl _) _
           have HV2:Hid (w2.heap[vb]? = some (.cells #[.slice la1 q lc1] 29 (0,0))):=by rw [← hw2,← hvb];exact heap_alloc_new _ _
           have HR2:Hid (RoomAt w2 B g cap V):=HR1.out.below hb2
           have HN2:Hid (NdsAt w2 la1 V):=HN1.out.below hb2
           have HC2:Hid (Chg w w2 (fun k=>k=g)):=HC1.out.trans (Chg.of_below hb2 _)
           rw [hw2,hvb]
           clear hw2 hvb hb2
           have HLO:Hid _:=load_all (some ⟨g,0,none⟩) cap V w2 HR2.out.fus HSV.out (HG.out.below (HLW.out _ HC2.out))
           rw [HVN.out] at HLO
           go_wp2_with fail
           refine Calls.mono HLO.out ?_
           rintro e w3 ⟨hb3,hE3⟩
           obtain ⟨ub,rfl,ht3⟩:∃ ub,e=.returned (.tuple #[.pointer (some ⟨ub,0,none⟩),.int .i64 0])∧TrAt w3 w2.heap.size ub 8 V:=by
            rcases hE3 with h9 | h9
            · exact absurd hcd h9.1
            · exact h9.2
           have HT3:Hid (TrAt w3 w2.heap.size ub 8 V):=ht3
           have HV3:Hid _:=kept_block hb3 HV2.out
           have HR3:Hid (RoomAt w3 B g cap V):=HR2.out.below hb3
           have HN3:Hid (NdsAt w3 la1 V):=HN2.out.below hb3
           have HC3:Hid (Chg w w3 (fun k=>k=g)):=HC2.out.trans (Chg.of_below hb3 _)
           clear hE3 hb3 ht3 hcd
           go_wp2_with (first | (go_at_call 6;go_in) | fail)
           refine Calls.mono (nodes_tr w2.heap.size ub 8 V w3 HT3.out) ?_
           rintro e w4 ⟨g4,cap4,rfl,hr4,hb4⟩
           have HM4:Hid (w4.ownsRow w3.heap.size 27 7 (.slice (some ⟨g4,0,none⟩) V.length cap4) V.length (V.flatMap Nd.cs)):=hr4
           have HV4:Hid _:=kept_block hb4 HV3.out
           have HR4:Hid (RoomAt w4 B g cap V):=HR3.out.below hb4
           have HN4:Hid (NdsAt w4 la1 V):=HN3.out.below hb4
           have HC4:Hid (Chg w w4 (fun k=>k=g)):=HC3.out.trans (Chg.of_below hb4 _)
           have HRN:Hid _:=refNodes_any la1 lc1 V w4 HN4.out HT3.out.snd.inv.len
           simp only [HVN.out]
           rw [HVN.out] at HRN
           have v0:=cells_1 HV4.out
           clear hr4 hb4
           go_wp2_with fail
           refine Calls.mono HRN.out ?_
           rintro e w5 ⟨v5,rfl,hr5,hb5⟩
           have HR5:Hid (RoomAt w5 B g cap V):=HR4.out.below hb5
           have HC5:Hid (Chg w w5 (fun k=>k=g)):=HC4.out.trans (Chg.of_below hb5 _)
           have HFU:Hid _:=fullsT_any w3.heap.size w4.heap.size (.slice (some ⟨g4,0,none⟩) V.length cap4) v5 V w5 (owns_chg HM4.out (Chg.of_below hb5 (fun _=>False)) (fun _ _=>id)) (by rw [HVN.out];exact hr5) (by have:=HT3.out.snd.inv.len;omega)
           rw [HVN.out] at HFU
           clear hr5 hb5 v0
           go_wp2_with fail
           refine Calls.mono HFU.out ?_
           rintro e w6 ⟨rfl,hb6⟩
           have HR6:Hid (RoomAt w6 B g cap V):=HR5.out.below hb6
           have HC6:Hid (Chg w w6 (fun k=>k=g)):=HC5.out.trans (Chg.of_below hb6 _)
           clear hb6
           go_wp2_with fail
           go_roundw
           case rel=>exact ⟨1+1,V,by go_num,by omega,HVN.out,HR6.out,HC6.out⟩
           case measure=>simp [intOf]
         · obtain ⟨cd,hcd'⟩:∃ cd,loadC V=cd:=⟨_,rfl⟩
           obtain rfl:e=.returned (.tuple #[rtV none 0 0,.int .i64 cd]):=by
            rcases hE1 with h9 | h9
            · rw [← hcd'];exact h9.2
            · exact absurd h9.1 hcd
           have hcb:(cd != 0)=true:=by rw [← hcd'];simpa using hcd
           have HCD:Hid (loadC V=cd∧cd≠0):=⟨hcd',by rw [← hcd'];exact hcd⟩
           clear hE1 hb1 hcd' hcd
           go_upto_region 16 with fail
           obtain ⟨w2,hw2⟩:∃ z,w1.alloc (.cells #[.slice none 0 0] 29)=z:=⟨_,rfl⟩
           obtain ⟨vb,hvb⟩:∃ z,w1.heap.size=z:=⟨_,rfl⟩
           have hb2:Below w1.heap.size w1 w2:=by rw [← hw2];exact (Below.refl _ _).alloc (Nat.le_refl _) _
           have HR2:Hid (RoomAt w2 B g cap V):=HR1.out.below hb2
           have HC2:Hid (Chg w w2 (fun k=>k=g)):=HC1.out.trans (Chg.of_below hb2 _)
           rw [hw2,hvb]
           clear hw2 hvb hb2
           have HLO:Hid _:=load_all (some ⟨g,0,none⟩) cap V w2 HR2.out.fus HSV.out (HG.out.below (HLW.out _ HC2.out))
           rw [HVN.out] at HLO
           go_wp2_with fail
           refine Calls.mono HLO.out ?_
           rintro e w3 ⟨hb3,hE3⟩
           obtain rfl:e=.returned (.tuple #[.pointer none,.int .i64 cd]):=by
            rcases hE3 with h9 | h9
            · rw [← HCD.out.1];exact h9.2
            · exact absurd (HCD.out.1.symm.trans h9.1) HCD.out.2
           have HR3:Hid (RoomAt w3 B g cap V):=HR2.out.below hb3
           have HC3:Hid (Chg w w3 (fun k=>k=g)):=HC2.out.trans (Chg.of_below hb3 _)
           clear hE3 hb3
           go_wp2_with (first | (go_at_call 6;go_in) | fail)
           go_roundw
           case rel=>exact ⟨1+1,V,by go_num,by omega,HVN.out,HR3.out,HC3.out⟩
           case measure=>simp [intOf]
    · rw [show ((2:Nat):Int)=2 from rfl]
      obtain ⟨V,hV⟩:∃ V,tnL 2 T=V:=⟨_,rfl⟩
      have HV:Hid (tnL 2 T=V):=hV
      have HVN:Hid (V.length=N):=by rw [← hV];show _=_;rw [tnL_len];exact HN.out
      clear hV
      go_wp2_with fail
      go_loopw [6,7] (fun mv i wq=>∃ (q:Nat),i=.int .i64 q∧q≤N∧Hid (wq.ownsRow w0.heap.size 26 7 mv q ((V.take q).flatMap Nd.cs))∧Hid (RoomAt wq B g cap (V.take q ++ U.drop q))∧Hid (Chg w0 wq (fun k=>k=g))) (fun _ i _=>N - (intOf i).toNat)
      case atStart=>exact ⟨0,rfl,Nat.zero_le _,World.ownsRow_nil _ _ _ _,by show RoomAt _ _ _ _ _;rw [List.take_zero,List.drop_zero,List.nil_append];exact HRU.out,Chg.refl _ _⟩
      case round =>
       obtain ⟨q,rfl,hq,HO,HRq,HCq⟩:=hrel
       have hsq:w0.heap.size≤wr.heap.size:=HCq.out.size
       by_cases hlt2:q<N
       · have hq':(q:Int)<(N:Int):=by omega
         obtain ⟨x,hx⟩:∃ x,T[q]? = some x:=⟨T[q]'(by rw [HN.out];exact hlt2),List.getElem?_eq_getElem _⟩
         have HNq:Hid (NdsAt wr la T):=HNr.out.chg HCq.out (fun k e cur hk=>by
          obtain ⟨c9,h9⟩:=owns_kind HRU.out (k:=g) rfl
          rw [show k=g from e,h9] at hk
          simp at hk)
         obtain ⟨bl,fl',rfl⟩:=HNq.out.some hx
         obtain ⟨hbl,x0,x1,x2,x3,x4,x5,x6⟩:=HNq.out.cells hx
         have hxs:=HSZ.out x (List.mem_of_getElem? hx)
         have HY:Hid (V[q]? = some (tnx 2 N q x)):=by rw [← HV.out,← HN.out];exact tnL_at hx
         clear hx
         obtain ⟨VQ,hVQ⟩:∃ z,V.take q=z:=⟨_,rfl⟩
         have HVQ:Hid (V.take q=VQ):=hVQ
         obtain ⟨RQ,hRQ⟩:∃ z,V.take q ++ U.drop q=z:=⟨_,rfl⟩
         have HRQ:Hid (RQ=V.take q ++ U.drop q):=hRQ.symm
         have HRL:Hid (RQ.length=N):=by
          show _=_
          rw [← hRQ,List.length_append,List.length_take,List.length_drop,HUN.out,HVN.out]
          omega
         rw [hVQ] at HO
         rw [hRQ] at HRq
         clear hVQ hRQ
         have hxs1:x.p.size+1≤9223372036854775807:=by omega
         have hY0:V[q]? = some ⟨x.p,x.d,x.v,x.m,x.c,x.o,x.k⟩:=by rw [HY.out];unfold tnx;rw [if_neg (by decide),if_neg (fun e=>absurd e.1 (by decide))]
         have HYQ:Hid (V[q]? = some ⟨x.p,x.d,x.v,x.m,x.c,x.o,x.k⟩):=hY0
         go_upto_region 13 with fail
         obtain ⟨w1,hw1⟩:∃ z,wr.alloc (.cells #[.string x.p,.string x.d,.int .i64 x.v,.int .i64 x.m,.int .i64 x.c,.int .i64 x.o,.int .i64 x.k] 26)=z:=⟨_,rfl⟩
         obtain ⟨xb,hxb⟩:∃ z,wr.heap.size=z:=⟨_,rfl⟩
         have hb1:Below wr.heap.size wr w1:=by rw [← hw1];exact (Below.refl _ _).alloc (Nat.le_refl _) _
         have HX1:Hid (w1.heap[xb]? = some (.cells #[.string x.p,.string x.d,.int .i64 x.v,.int .i64 x.m,.int .i64 x.c,.int .i64 x.o,.int .i64 x.k] 26 (0,0))):=by rw [← hw1,← hxb];exact heap_alloc_new _ _
         have HXB:Hid (∀ k,u6.ownBlock=some k→¬ k=xb):=fun k hk e=>by have:=(HO.out.lt k hk).2;omega
         have HO1:Hid (w1.ownsRow w0.heap.size 26 7 u6 q (VQ.flatMap Nd.cs)):=owns_chg HO.out (Chg.of_below hb1 (fun _=>False)) (fun _ _=>id)
         have HR1:Hid (RoomAt w1 B g cap RQ):=HRq.out.below hb1
         have HC1:Hid (Chg w0 w1 (fun k=>k=g)):=HCq.out.trans (Chg.of_below hb1 _)
         have hs1:w0.heap.size≤w1.heap.size:=HC1.out.size
         rw [hw1,hxb]
         clear hw1 hxb hb1 x0 x1 x2 x3 x4 x5 x6
         obtain ⟨y0,y1,y2,y3,y4,y5,y6⟩:=cells_7 HX1.out
         go_wp2_with (first
          | (at_builtin;refine wpList_append_lies _ rfl _ _ _ rfl w0.heap.size 26 i0 _ 7 72 Tryz.underlying24 hi0 hz0 hz1 hz2 rfl (by omega) u6 q (VQ.flatMap Nd.cs) rfl (World.ownsRow.alloc HO1.out _) ⟨w1.heap.size,0,none⟩ 1 1 [.string x.p,.string x.d,.int .i64 x.v,.int .i64 x.m,.int .i64 x.c,.int .i64 x.o,.int .i64 x.k] rfl rfl (World.news_of_block (cs:=#[.string x.p,.string x.d,.int .i64 x.v,.int .i64 x.m,.int .i64 x.c,.int .i64 x.o,.int .i64 x.k]) (t:=26) (fr:=(0,0)) (heap_alloc_new w1 _)) (by simp [Value.oneCell']) (by omega) (by unfold maxLen;omega) (by omega) (by simp;omega) (w1.heap.size+1) (by simp) ?_
             intro g4 cap4 w4 hown4 hgrow4 hat4 hlt4
             have HN4:Hid (w4.ownsRow w0.heap.size 26 7 (.slice (some ⟨g4,0,none⟩) (q+1) cap4) (q+1) (VQ.flatMap Nd.cs ++ [.string x.p,.string x.d,.int .i64 x.v,.int .i64 x.m,.int .i64 x.c,.int .i64 x.o,.int .i64 x.k])):=hown4
             have HC14:Hid (Chg w1 w4 (fun k=>u6.ownBlock=some k)):=(Chg.alloc _ _ _).trans (Chg.grown hgrow4)
             have HR4:Hid (RoomAt w4 B g cap RQ):=HR1.out.chg HC14.out (fun e=>by
              obtain ⟨c8,h8⟩:=owns_kind HO1.out e
              obtain ⟨c9,h9⟩:=owns_kind HR1.out (k:=g) rfl
              rw [h8] at h9
              simp at h9)
             have HC4:Hid (Chg w0 w4 (fun k=>k=g)):=HC1.out.trans' HC14.out (fun k e=>.inr (HO1.out.lt k e).1)
             have HX4:Hid (w4.heap[xb]? = some (.cells #[.string x.p,.string x.d,.int .i64 x.v,.int .i64 x.m,.int .i64 x.c,.int .i64 x.o,.int .i64 x.k] 26 (0,0))):=by
              show _=_
              rw [HC14.out.block xb (Array.getElem?_eq_some_iff.1 HX1.out).1 (fun e=>HXB.out xb e rfl)]
              exact HX1.out
             clear hown4 hgrow4 hat4 hlt4 y0 y1 y2 y3 y4 y5 y6
             obtain ⟨y0,y1,y2,y3,y4,y5,y6⟩:=cells_7 HX4.out
             obtain ⟨r0,k0⟩:=some_n (k:=q * 7) HR4.out (by rw [HRL.out];omega)
             obtain ⟨r1,k1⟩:=some_n (k:=q * 7+1) HR4.out (by rw [HRL.out];omega)
             obtain ⟨r2,k2⟩:=some_n (k:=q * 7+2) HR4.out (by rw [HRL.out];omega)
             obtain ⟨r3,k3⟩:=some_n (k:=q * 7+3) HR4.out (by rw [HRL.out];omega)
             obtain ⟨r4,k4⟩:=some_n (k:=q * 7+4) HR4.out (by rw [HRL.out];omega)
             obtain ⟨r5,k5⟩:=some_n (k:=q * 7+5) HR4.out (by rw [HRL.out];omega)
             obtain ⟨r6,k6⟩:=some_n (k:=q * 7+6) HR4.out (by rw [HRL.out];omega)
             have fz:=blk_of HR4.out)
          | fail)
         go_roundw
         case rel =>
          have hS:=HR4.out.set (i:=q) (by rw [HRL.out];omega) (⟨x.p,x.d,x.v,x.m,x.c,x.o,x.k⟩:Nd)
          rw [HRQ.out,take_set_drop (by rw [HUN.out,HVN.out]) HYQ.out] at hS
          have hC:=Fa.chg_setCells g (⟨x.p,x.d,x.v,x.m,x.c,x.o,x.k⟩:Nd).cs (q * 7) w4
          have hM:=owns_chg HN4.out hC (fun k hk e=>by
           obtain ⟨c8,h8⟩:=owns_kind HN4.out hk
           obtain ⟨c9,h9⟩:=owns_kind HR4.out (k:=g) rfl
           rw [show k=g from e,h9] at h8
           simp at h8)
          have eM:(V.take (q+1)).flatMap Nd.cs=VQ.flatMap Nd.cs ++ [.string x.p,.string x.d,.int .i64 x.v,.int .i64 x.m,.int .i64 x.c,.int .i64 x.o,.int .i64 x.k]:=by rw [List.take_add_one,HYQ.out,← HVQ.out,List.flatMap_append];simp [Nd.cs]
          exact ⟨q+1,by go_num,by omega,by show World.ownsRow _ _ _ _ _ _ _;rw [eM];exact hM,hS,HC4.out.trans hC⟩
         case measure=>simp [intOf];omega
       · obtain rfl:q=N:=by omega
         have hge:¬ (q:Int)<(q:Int):=by omega
         rw [List.take_of_length_le (by rw [HVN.out];exact Nat.le_refl _)] at HO HRq
         rw [List.drop_of_length_le (by rw [HUN.out];exact Nat.le_refl _),List.append_nil] at HRq
         obtain ⟨ma,mc,rfl⟩:=slice_of' HO.out
         have HMN:Hid (NdsAt wr ma V):=nds_row' (c:=mc) HO.out
         have HSV:Hid (∀ y∈V,y.p.size≤maxLen∧y.d.size≤maxLen):=fun y hy=>by
          rw [← HV.out] at hy
          obtain ⟨i9,x9,hx9,hy9⟩:=tnL_mem hy
          rw [hy9]
          exact tnx_size (HSZ.out x9 (List.mem_of_getElem? hx9))
         have HCw:Hid (Chg w wr (fun k=>k=g)):=HCU.out.trans HCq.out
         have HRL:Hid _:=refLoad_all ma mc V wr HSV.out HMN.out
         rw [HVN.out] at HRL
         go_wp2_with fail
         refine Calls.mono HRL.out ?_
         rintro e w1 ⟨hb1,hE1⟩
         have HR1:Hid (RoomAt w1 B g cap V):=HRq.out.below hb1
         have HC1:Hid (Chg w w1 (fun k=>k=g)):=HCw.out.trans (Chg.of_below hb1 _)
         by_cases hcd:loadC V=0
         · obtain ⟨la1,lc1,rfl,hn1⟩:∃ la lc,e=.returned (.tuple #[rtV la V.length lc,.int .i64 0])∧NdsAt w1 la V:=by
            rcases hE1 with h9 | h9
            · exact absurd hcd h9.1
            · exact h9.2
           have HN1:Hid (NdsAt w1 la1 V):=hn1
           simp only [HVN.out]
           clear hE1 hb1 hn1
           go_upto_region 16 with fail
           obtain ⟨w2,hw2⟩:∃ z,w1.alloc (.cells #[.slice la1 q lc1] 29)=z:=⟨_,rfl⟩
           obtain ⟨vb,hvb⟩:∃ z,w1.heap.size=z:=⟨_,rfl⟩
           have hb2:Below w1.heap.size w1 w2:=by rw [← hw2];exact (Below.refl _ _).alloc (Nat.le_refl _) _
           have HV2:Hid (w2.heap[vb]? = some (.cells #[.slice la1 q lc1] 29 (0,0))):=by rw [← hw2,← hvb];exact heap_alloc_new _ _
           have HR2:Hid (RoomAt w2 B g cap V):=HR1.out.below hb2
           have HN2:Hid (NdsAt w2 la1 V):=HN1.out.below hb2
           have HC2:Hid (Chg w w2 (fun k=>k=g)):=HC1.out.trans (Chg.of_below hb2 _)
           rw [hw2,hvb]
           clear hw2 hvb hb2
           have HLO:Hid _:=load_all (some ⟨g,0,none⟩) cap V w2 HR2.out.fus HSV.out (HG.out.below (HLW.out _ HC2.out))
           rw [HVN.out] at HLO
           go_wp2_with fail
           refine Calls.mono HLO.out ?_
           rintro e w3 ⟨hb3,hE3⟩
           obtain ⟨ub,rfl,ht3⟩:∃ ub,e=.returned (.tuple #[.pointer (some ⟨ub,0,none⟩),.int .i64 0])∧TrAt w3 w2.heap.size ub 8 V:=by
            rcases hE3 with h9 | h9
            · exact absurd hcd h9.1
            · exact h9.2
           have HT3:Hid (TrAt w3 w2.heap.size ub 8 V):=ht3
           have HV3:Hid _:=kept_block hb3 HV2.out
           have HR3:Hid (RoomAt w3 B g cap V):=HR2.out.below hb3
           have HN3:Hid (NdsAt w3 la1 V):=HN2.out.below hb3
           have HC3:Hid (Chg w w3 (fun k=>k=g)):=HC2.out.trans (Chg.of_below hb3 _)
           clear hE3 hb3 ht3 hcd
           go_wp2_with (first | (go_at_call 6;go_in) | fail)
           refine Calls.mono (nodes_tr w2.heap.size ub 8 V w3 HT3.out) ?_
           rintro e w4 ⟨g4,cap4,rfl,hr4,hb4⟩
           have HM4:Hid (w4.ownsRow w3.heap.size 27 7 (.slice (some ⟨g4,0,none⟩) V.length cap4) V.length (V.flatMap Nd.cs)):=hr4
           have HV4:Hid _:=kept_block hb4 HV3.out
           have HR4:Hid (RoomAt w4 B g cap V):=HR3.out.below hb4
           have HN4:Hid (NdsAt w4 la1 V):=HN3.out.below hb4
           have HC4:Hid (Chg w w4 (fun k=>k=g)):=HC3.out.trans (Chg.of_below hb4 _)
           have HRN:Hid _:=refNodes_any la1 lc1 V w4 HN4.out HT3.out.snd.inv.len
           simp only [HVN.out]
           rw [HVN.out] at HRN
           have v0:=cells_1 HV4.out
           clear hr4 hb4
           go_wp2_with fail
           refine Calls.mono HRN.out ?_
           rintro e w5 ⟨v5,rfl,hr5,hb5⟩
           have HR5:Hid (RoomAt w5 B g cap V):=HR4.out.below hb5
           have HC5:Hid (Chg w w5 (fun k=>k=g)):=HC4.out.trans (Chg.of_below hb5 _)
           have HFU:Hid _:=fullsT_any w3.heap.size w4.heap.size (.slice (some ⟨g4,0,none⟩) V.length cap4) v5 V w5 (owns_chg HM4.out (Chg.of_below hb5 (fun _=>False)) (fun _ _=>id)) (by rw [HVN.out];exact hr5) (by have:=HT3.out.snd.inv.len;omega)
           rw [HVN.out] at HFU
           clear hr5 hb5 v0
           go_wp2_with fail
           refine Calls.mono HFU.out ?_
           rintro e w6 ⟨rfl,hb6⟩
           have HR6:Hid (RoomAt w6 B g cap V):=HR5.out.below hb6
           have HC6:Hid (Chg w w6 (fun k=>k=g)):=HC5.out.trans (Chg.of_below hb6 _)
           clear hb6
           go_wp2_with fail
           go_roundw
           case rel=>exact ⟨2+1,V,by go_num,by omega,HVN.out,HR6.out,HC6.out⟩
           case measure=>simp [intOf]
         · obtain ⟨cd,hcd'⟩:∃ cd,loadC V=cd:=⟨_,rfl⟩
           obtain rfl:e=.returned (.tuple #[rtV none 0 0,.int .i64 cd]):=by
            rcases hE1 with h9 | h9
            · rw [← hcd'];exact h9.2
            · exact absurd h9.1 hcd
           have hcb:(cd != 0)=true:=by rw [← hcd'];simpa using hcd
           have HCD:Hid (loadC V=cd∧cd≠0):=⟨hcd',by rw [← hcd'];exact hcd⟩
           clear hE1 hb1 hcd' hcd
           go_upto_region 16 with fail
           obtain ⟨w2,hw2⟩:∃ z,w1.alloc (.cells #[.slice none 0 0] 29)=z:=⟨_,rfl⟩
           obtain ⟨vb,hvb⟩:∃ z,w1.heap.size=z:=⟨_,rfl⟩
           have hb2:Below w1.heap.size w1 w2:=by rw [← hw2];exact (Below.refl _ _).alloc (Nat.le_refl _) _
           have HR2:Hid (RoomAt w2 B g cap V):=HR1.out.below hb2
           have HC2:Hid (Chg w w2 (fun k=>k=g)):=HC1.out.trans (Chg.of_below hb2 _)
           rw [hw2,hvb]
           clear hw2 hvb hb2
           have HLO:Hid _:=load_all (some ⟨g,0,none⟩) cap V w2 HR2.out.fus HSV.out (HG.out.below (HLW.out _ HC2.out))
           rw [HVN.out] at HLO
           go_wp2_with fail
           refine Calls.mono HLO.out ?_
           rintro e w3 ⟨hb3,hE3⟩
           obtain rfl:e=.returned (.tuple #[.pointer none,.int .i64 cd]):=by
            rcases hE3 with h9 | h9
            · rw [← HCD.out.1];exact h9.2
            · exact absurd (HCD.out.1.symm.trans h9.1) HCD.out.2
           have HR3:Hid (RoomAt w3 B g cap V):=HR2.out.below hb3
           have HC3:Hid (Chg w w3 (fun k=>k=g)):=HC2.out.trans (Chg.of_below hb3 _)
           clear hE3 hb3
           go_wp2_with (first | (go_at_call 6;go_in) | fail)
           go_roundw
           case rel=>exact ⟨2+1,V,by go_num,by omega,HVN.out,HR3.out,HC3.out⟩
           case measure=>simp [intOf]
  · obtain rfl:t=3:=by omega
    go_wp2_with fail
    go_ret
    exact ⟨rfl,⟨U,HUN.out,HRU.out⟩,HCU.out⟩
end Go.Proofs.YtckmihplkhmpnaaGreatDoor
