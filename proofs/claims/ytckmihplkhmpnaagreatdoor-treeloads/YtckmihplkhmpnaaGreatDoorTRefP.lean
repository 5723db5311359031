import Derived.Test.YtckmihplkhmpnaaGreatDoorTRefF
namespace Go.Proofs.YtckmihplkhmpnaaGreatDoor
open Go.RowKit Go.Maps Go.WideShapes
set_option linter.unusedVariables false
set_option linter.unusedSimpArgs false
attribute [local go_sem ↓] Go.wp_at_zero Go.wp_at_succ
set_option maxHeartbeats 8000000 in
set_option maxRecDepth 100000 in
theorem rm_F2 (a:Option Addr) (c:Nat) (T:List Nd) (s st:Int) (p d:ByteArray) (v:Int) (u:Nd) (q:Nat) (w:World) (h:NdsAt w a T) (hT:T.length≤64) (hq:T[q]? = some u) (hu:fndI T (parB p)=q) (ho:u.o=0) (at':ByteArray) (hk:u.k≤99999) (hk0:0≤u.k) (hc:∀ W,Calls Tryz.prog 94 #[.string p,.int .i64 u.k] W fun e w'=>e=.returned (.tuple #[.string at',.int .i64 0])∧Below W.heap.size W w') (n:Nd) (hn:n=(⟨at',d,0,st,st,0,0⟩:Nd)) (hg:fndI T at'=-1) (hN6:T.length<64) (q2:Nat) (hq2:(ins n T)[q2]? = some u) (hu2:fndI (ins n T) (parB p)=q2) (hsm:Sml T) (hat:(at').size≤1000) :
  Calls Tryz.prog 71 #[.slice a T.length c,.int .i64 s,.int .i64 st,opV 1 p d v 2] w (OneE w (0,(ins n T).set q2 { u with k:=u.k+1 },⟨at',⟨#[]⟩,0,st,st,0,[]⟩,[⟨1,at',d,0⟩])):=by
 have ho1:(u.o != 0)=false:=by simpa using ho
 clear ho
 have hk2:¬ 99999<u.k:=by omega
 have HC:Hid (∀ W,Calls Tryz.prog 94 #[.string p,.int .i64 u.k] W fun e w'=>e=.returned (.tuple #[.string at',.int .i64 0])∧Below W.heap.size W w'):=hc
 clear hc
 have HG:Hid (fndI T at'=-1):=hg
 have HWI:Hid (∀ W,Below w.heap.size w W→Calls Tryz.prog 73 #[.slice a T.length c,(⟨at',d,0,st,st,0,0⟩:Nd).V] W fun e w'=>∃ v,e=.returned v∧w'.ownsRow W.heap.size 26 7 v (ins n T).length ((ins n T).flatMap Nd.cs)∧Below W.heap.size W w'):=fun W hb=>by rw [hn];exact refWith_any a c T _ W (h.below hb) (by omega) hsm hat
 have HQ2:Hid ((ins n T)[q2]? = some u):=hq2
 have HSM:Hid (Sml T):=hsm
 have HNN:Hid (n=(⟨at',d,0,st,st,0,0⟩:Nd)):=hn
 clear hg hq2 hsm hn
 have H:Hid (NdsAt w a T):=h
 have HP:Hid (∀ W,_):=fun W=>refParent_any p W
 have HF:Hid (∀ W,Below w.heap.size w W→∀ x,Calls Tryz.prog 36 #[.slice a T.length c,.string x] W fun e w'=>e=.returned (.int .i64 (fndI T x))∧w'=W):=fun W hb x=>refFind_any a c T x W (h.below hb) (by omega)
 obtain ⟨N,hN⟩:∃ N,T.length=N:=⟨_,rfl⟩
 have HN:Hid (T.length=N):=hN
 rw [hN] at HF hT  HWI hN6 ⊢
 obtain ⟨ab,hab⟩:∃ ab,parB p=ab:=⟨_,rfl⟩
 rw [hab] at HP hu2 hu
 have HU2:Hid (fndI (ins n T) ab=(q2:Int)):=hu2
 clear hu2
 have HU:Hid (fndI T ab=(q:Int)):=hu
 have HQ:Hid (T[q]? = some u):=hq
 have hqN:q<N:=by rw [← hN];exact (List.getElem?_eq_some_iff.1 hq).1
 obtain ⟨gb,gf,rfl⟩:=h.some hq
 clear hq
 clear h hN hab hu
 go_enter Tryz.func71,Tryz.ntmps71
 go_upto_region 1 with fail
 obtain ⟨W2,hW2⟩:∃ x,(w.alloc (.cells #[.int .i64 1,.string p,.string d,.int .i64 v,.int .i64 (2)] 66)).alloc (.cells #[.string ⟨#[]⟩,.string ⟨#[]⟩,.int .i64 0,.int .i64 0,.int .i64 0,.int .i64 0,.slice none 0 0] 103)=x:=⟨_,rfl⟩
 obtain ⟨ob,hob⟩:∃ x,w.heap.size=x:=⟨_,rfl⟩
 have HOB:Hid (w.heap.size=ob):=hob
 have HB2:Hid (Below w.heap.size w W2):=by rw [← hW2];exact ((Below.refl _ _).alloc (Nat.le_refl _) _).alloc (by simp) _
 have HO2:Hid (W2.heap[ob]? = some (.cells #[.int .i64 1,.string p,.string d,.int .i64 v,.int .i64 (2)] 66 (0,0))):=by rw [← hW2,← hob];exact heap_alloc2_old _ _ _
 have HZ2:Hid (W2.heap[ob+1]? = some (.cells #[.string ⟨#[]⟩,.string ⟨#[]⟩,.int .i64 0,.int .i64 0,.int .i64 0,.int .i64 0,.slice none 0 0] 103 (0,0))):=by rw [← hW2,← hob];exact heap_alloc2_new _ _ _
 rw [hW2,hob]
 clear hW2 hob
 obtain ⟨o0,o1,o2,o3,o4⟩:=cells_5 HO2.out
 go_wp2_with (go_at_call 34;refine Calls.mono (HP.out _) ?_;rintro e w3 ⟨rfl,hb3⟩
              have HB3:Hid (Below w.heap.size w w3):=trans2 HB2.out hb3
              have HO3:Hid _:=kept_block hb3 HO2.out
              have HZ3:Hid _:=kept_block hb3 HZ2.out
              have hz3:ob+1<w3.heap.size:=(Array.getElem?_eq_some_iff.1 HZ3.out).1
              clear hb3 o0 o1 o2 o3 o4
              obtain ⟨o0,o1,o2,o3,o4⟩:=cells_5 HO3.out
              obtain ⟨b0,b1,b2,b3,b4,b5,b6⟩:=cells_7 HZ3.out
              have hfz:=free_7 HZ3.out)
 refine Calls.mono (HF.out _ HB3.out _) ?_
 rintro e w4 ⟨rfl,hw4⟩
 subst hw4
 rw [HU.out]
 obtain ⟨hgb,x0,x1,x2,x3,x4,x5,x6⟩:=(H.out.below HB3.out).cells HQ.out
 have hq0:¬ (q:Int)<0:=by omega
 go_upto_region 8 with fail
 obtain ⟨w5,hw5⟩:∃ x,w4.alloc (.cells #[.string p,.string d,.int .i64 0,.int .i64 st,.int .i64 st,.int .i64 0,.int .i64 0] 26)=x:=⟨_,rfl⟩
 obtain ⟨nb,hnb⟩:∃ x,w4.heap.size=x:=⟨_,rfl⟩
 have hnz:ob+1<nb:=by omega
 have HB5:Hid (Below w.heap.size w w5):=by rw [← hw5];exact HB3.out.alloc (by have:=HB3.out.size;omega) _
 have HO5:Hid (w5.heap[ob]? = some (.cells #[.int .i64 1,.string p,.string d,.int .i64 v,.int .i64 (2)] 66 (0,0))):=by rw [← hw5];exact new_old HO3.out _
 have HZ5:Hid (w5.heap[ob+1]? = some (.cells #[.string ⟨#[]⟩,.string ⟨#[]⟩,.int .i64 0,.int .i64 0,.int .i64 0,.int .i64 0,.slice none 0 0] 103 (0,0))):=by rw [← hw5];exact new_old HZ3.out _
 have HN5:Hid (w5.heap[nb]? = some (.cells #[.string p,.string d,.int .i64 0,.int .i64 st,.int .i64 st,.int .i64 0,.int .i64 0] 26 (0,0))):=by rw [← hw5,← hnb];exact heap_alloc_new _ _
 rw [hw5,hnb]
 clear hw5 hnb hz3 o0 o1 o2 o3 o4 b0 b1 b2 b3 b4 b5 b6 hfz x0 x1 x2 x3 x4 x5 x6 hgb ho1
 obtain ⟨o0,o1,o2,o3,o4⟩:=cells_5 HO5.out
 obtain ⟨b0,b1,b2,b3,b4,b5,b6⟩:=cells_7 HZ5.out
 have hfz:=free_7 HZ5.out
 obtain ⟨hgb,x0,x1,x2,x3,x4,x5,x6⟩:=(H.out.below HB5.out).cells HQ.out
 obtain ⟨n0,n1,n2,n3,n4,n5,n6⟩:=cells_7 HN5.out
 have hfn:=free_7 HN5.out
 go_upto_region 14 with (go_at_call 94;refine Calls.mono (HC.out _) ?_;rintro e w6 ⟨rfl,hb6⟩
                         have HB6:Hid (Below w.heap.size w w6):=trans2 HB5.out hb6
                         have HO6:Hid _:=kept_block hb6 HO5.out
                         have HZ6:Hid _:=kept_block hb6 HZ5.out
                         have HN6:Hid _:=kept_block hb6 HN5.out
                         clear hb6 o0 o1 o2 o3 o4 b0 b1 b2 b3 b4 b5 b6 hfz x0 x1 x2 x3 x4 x5 x6 hgb n0 n1 n2 n3 n4 n5 n6 hfn
                         obtain ⟨n0,n1,n2,n3,n4,n5,n6⟩:=cells_7 HN6.out
                         have hfn:=free_7 HN6.out)
 obtain ⟨w7,hw7⟩:∃ x,w6.setCell ⟨nb,0,none⟩ (.string at')=x:=⟨_,rfl⟩
 have HB7:Hid (Below w.heap.size w w7):=by rw [← hw7];exact HB6.out.setCell (show w.heap.size≤nb by rw [HOB.out];omega) _
 have HO7:Hid (w7.heap[ob]? = some (.cells #[.int .i64 1,.string p,.string d,.int .i64 v,.int .i64 (2)] 66 (0,0))):=by rw [← hw7];exact other_blk HO6.out (by omega)
 have HZ7:Hid (w7.heap[ob+1]? = some (.cells #[.string ⟨#[]⟩,.string ⟨#[]⟩,.int .i64 0,.int .i64 0,.int .i64 0,.int .i64 0,.slice none 0 0] 103 (0,0))):=by rw [← hw7];exact other_blk HZ6.out (by omega)
 have HN7:Hid (w7.heap[nb]? = some (.cells #[.string at',.string d,.int .i64 0,.int .i64 st,.int .i64 st,.int .i64 0,.int .i64 0] 26 (0,0))):=by rw [← hw7];exact same_blk HN6.out rfl
 rw [hw7]
 clear hw7 n0 n1 n2 n3 n4 n5 n6 hfn HC
 obtain ⟨o0,o1,o2,o3,o4⟩:=cells_5 HO7.out
 obtain ⟨b0,b1,b2,b3,b4,b5,b6⟩:=cells_7 HZ7.out
 have hfz:=free_7 HZ7.out
 obtain ⟨n0,n1,n2,n3,n4,n5,n6⟩:=cells_7 HN7.out
 have hfn:=free_7 HN7.out
 go_wp2_with fail
 refine Calls.mono (HF.out _ HB7.out _) ?_
 rintro e w8 ⟨rfl,hw8⟩
 subst hw8
 rw [HG.out]
 have hN64:¬ (64:Int)≤(N:Int):=by omega
 go_upto_region 20 with fail
 obtain ⟨w9,hw9⟩:∃ x,w8=x:=⟨_,rfl⟩
 rw [hw9] at HB7 HZ7 HN7 ⊢
 have HB9:Hid (Below w.heap.size w w9):=HB7.out
 have HZ9:Hid (w9.heap[ob+1]? = some (.cells #[.string ⟨#[]⟩,.string ⟨#[]⟩,.int .i64 0,.int .i64 0,.int .i64 0,.int .i64 0,.slice none 0 0] 103 (0,0))):=HZ7.out
 have HN9:Hid (w9.heap[nb]? = some (.cells #[.string at',.string d,.int .i64 0,.int .i64 st,.int .i64 st,.int .i64 (0),.int .i64 0] 26 (0,0))):=HN7.out
 clear hw9 n0 n1 n2 n3 n4 n5 n6 hfn o0 o1 o2 o3 o4 b0 b1 b2 b3 b4 b5 b6 hfz
 obtain ⟨n0,n1,n2,n3,n4,n5,n6⟩:=cells_7 HN9.out
 have hn9:nb<w9.heap.size:=(Array.getElem?_eq_some_iff.1 HN9.out).1
 go_wp2_with fail
 refine Calls.mono (HWI.out _ HB9.out) ?_
 rintro e w10 ⟨mv,rfl,hrow,hb10⟩
 obtain ⟨g,mc,rfl⟩:∃ g cap,mv=.slice (some ⟨g,0,none⟩) (ins n T).length cap:=by
  rcases hrow.2 with ⟨rfl,h0⟩ | ⟨g,cap,cur,rfl,_⟩
  · rw [ins_len] at h0;cases h0
  · exact ⟨_,_,rfl⟩
 have HR10:Hid (w10.ownsRow w9.heap.size 26 7 (.slice (some ⟨g,0,none⟩) (ins n T).length mc) (ins n T).length ((ins n T).flatMap Nd.cs)):=hrow
 have hgl:=(hrow.lt g rfl).1
 have HB10:Hid (Below w.heap.size w w10):=trans2 HB9.out hb10
 have HZ10:Hid _:=kept_block hb10 HZ9.out
 have HN10:Hid _:=kept_block hb10 HN9.out
 obtain ⟨cur,hcur,_,_⟩:=Fa.owns_block hrow
 have hfm:∀ o,w10.frozen? ⟨g,o,none⟩=false:=free_blk hcur
 have HFM:Hid _:=refFind_any (some ⟨g,0,none⟩) mc (ins n T) ab w10 (nds_of_row hrow) (by rw [ins_len,HN.out];omega)
 obtain ⟨_,m0,m1,m2,m3,m4,m5,m6⟩:=(nds_of_row hrow).cells HQ2.out
 have HML:Hid ((ins n T).length=N+1):=(show (ins n T).length=N+1 by rw [ins_len,HN.out])
 have hq2N:q2<N+1:=by rw [← HML.out];exact (List.getElem?_eq_some_iff.1 HQ2.out).1
 clear hrow hb10 n0 n1 n2 n3 n4 n5 n6 hcur
 rw [HML.out] at HFM ⊢
 rw [Nat.zero_add] at m0 m1 m2 m3 m4 m5 m6
 go_wp2_with fail
 refine Calls.mono HFM.out ?_
 rintro e w11 ⟨rfl,hw11⟩
 subst hw11
 rw [HU2.out]
 go_upto_region 23 with fail
 obtain ⟨w12,hw12⟩:∃ x,w11.setCell ⟨g,q2 * 7+6,none⟩ (.int .i64 (u.k+1))=x:=⟨_,rfl⟩
 have HB12:Hid (Below w.heap.size w w12):=by rw [← hw12];exact HB10.out.setCell (show w.heap.size≤g by have:=HB9.out.size;omega) _
 have HZ12:Hid (w12.heap[ob+1]? = some (.cells #[.string ⟨#[]⟩,.string ⟨#[]⟩,.int .i64 0,.int .i64 0,.int .i64 0,.int .i64 0,.slice none 0 0] 103 (0,0))):=by rw [← hw12];exact other_blk HZ10.out (by omega)
 have HN12:Hid (w12.heap[nb]? = some (.cells #[.string at',.string d,.int .i64 0,.int .i64 st,.int .i64 st,.int .i64 (0),.int .i64 0] 26 (0,0))):=by rw [← hw12];exact other_blk HN10.out (by omega)
 have HR12:Hid (NdsAt w12 (some ⟨g,0,none⟩) ((ins n T).set q2 { u with k:=u.k+1 })):=by rw [← hw12];exact nds_set HR10.out HQ2.out _
 rw [hw12]
 clear hw12 m0 m1 m2 m3 m4 m5 m6 hfm
 obtain ⟨n0,n1,n2,n3,n4,n5,n6⟩:=cells_7 HN12.out
 obtain ⟨b0,b1,b2,b3,b4,b5,b6⟩:=cells_7 HZ12.out
 have hfz:=free_7 HZ12.out
 have HSH:Hid (∀ W,_):=fun W=>refShown_any (⟨at',d,0,st,st,0,0⟩:Nd) W
 have hne:nb≠ob+1:=by omega
 have hgz:g≠ob+1:=by omega
 have hnl:nb<w12.heap.size:=(Array.getElem?_eq_some_iff.1 HN12.out).1
 have q3:nb≠w12.heap.size:=by omega
 have q4:ob+1≠w12.heap.size:=by omega
 go_region_held3 (fun w'=>w'.cell? ⟨nb,0,none⟩=some (.string at')∧w'.cell? ⟨nb,1,none⟩=some (.string d)∧w'.cell? ⟨nb,2,none⟩=some (.int .i64 0)∧w'.cell? ⟨nb,3,none⟩=some (.int .i64 st)∧w'.cell? ⟨nb,4,none⟩=some (.int .i64 st)∧w'.cell? ⟨nb,5,none⟩=some (.int .i64 (0))∧w'.cell? ⟨nb,6,none⟩=some (.int .i64 0)) (first | (simp only [World.cell?_drew,n0,n1,n2,n3,n4,n5,n6,and_self];done) | (simp only [cellN hne,World.cell?_drew,n0,n1,n2,n3,n4,n5,n6,and_self];done) | (simp only [cellA,World.size_setCell,World.size_drew,hnl,cellN hne,World.cell?_drew,n0,n1,n2,n3,n4,n5,n6,and_self];done) | go_keep)
  (first
    | (go_at_call 72;refine Calls.mono (HSH.out _) ?_;rintro e w13 ⟨rfl,hb13⟩
       have hb13':=of_drew hb13
       have HB13:Hid (Below w.heap.size w w13):=trans2 HB12.out hb13'
       have HN13:Hid _:=kept_block hb13' HN12.out
       have HZ13:Hid _:=kept_block hb13' HZ12.out
       have HR13:Hid _:=HR12.out.below hb13'
       clear hb13 hb13' n0 n1 n2 n3 n4 n5 n6 b0 b1 b2 b3 b4 b5 b6 hfz
       obtain ⟨n0,n1,n2,n3,n4,n5,n6⟩:=cells_7 HN13.out
       obtain ⟨b0,b1,b2,b3,b4,b5,b6⟩:=cells_7 HZ13.out
       have hfz:=free_7 HZ13.out
       have hzl:ob+1<w13.heap.size:=(Array.getElem?_eq_some_iff.1 HZ13.out).1
       clear hnl
       have hnl:nb<w13.heap.size:=(Array.getElem?_eq_some_iff.1 HN13.out).1
       have q3:nb≠w13.heap.size:=by omega
       have q4:ob+1≠w13.heap.size:=by omega)
    | (go_at_call 72;refine Calls.mono (HSH.out _) ?_;rintro e w13 ⟨rfl,hb13⟩
       have hb13':=of_drew hb13
       have HB13:Hid (Below w.heap.size w w13):=trans2 (HB12.out.alloc (by have:=HB12.out.size;omega) _) hb13'
       have HN13:Hid _:=kept_block hb13' (new_old HN12.out _)
       have HZ13:Hid _:=kept_block hb13' (new_old HZ12.out _)
       have HC13:Hid _:=kept_block hb13' (heap_alloc_new _ _)
       have HR13:Hid _:=(HR12.out.below ((Below.refl _ _).alloc (Nat.le_refl _) _)).below hb13'
       clear hb13 hb13' n0 n1 n2 n3 n4 n5 n6 b0 b1 b2 b3 b4 b5 b6 hfz
       obtain ⟨n0,n1,n2,n3,n4,n5,n6⟩:=cells_7 HN13.out
       obtain ⟨b0,b1,b2,b3,b4,b5,b6⟩:=cells_7 HZ13.out
       have hfz:=free_7 HZ13.out
       clear hnl
       have hnl:nb<w13.heap.size:=(Array.getElem?_eq_some_iff.1 HN13.out).1))
 · go_wp2_with fail
   exact bodyPost_ret (results_4c rfl _ _ (ob+1) 103 #[.string at',.string ⟨#[]⟩,.int .i64 0,.int .i64 st,.int .i64 st,.int .i64 (0),.slice none 0 0] (0,0) _ (.slice (some ⟨g,0,none⟩) (N+1) mc) (.slice (some ⟨w13.heap.size,0,none⟩) 1 1) (.int .i64 0) rfl rfl rfl rfl (new_old (fill_7 HZ13.out) _) Tryz.underlying103 rfl (by kernel_rfl)) rfl (OneE.made (by rw [List.length_set,HML.out]) mc ((nds_put7 HR13.out hgz).below ((Below.refl _ _).alloc (Nat.le_refl _) _)) (new_at (by simp [put_7]) _) ((fillB_7 HB13.out (by rw [HOB.out];omega)).alloc (by have:=HB13.out.size;simp [put_7];omega) _))
 · go_wp2_with fail
   exact bodyPost_ret (results_4c rfl _ _ (ob+1) 103 #[.string at',.string ⟨#[]⟩,.int .i64 0,.int .i64 st,.int .i64 st,.int .i64 (0),.slice none 0 0] (0,0) _ (.slice (some ⟨g,0,none⟩) (N+1) mc) (.slice (some ⟨w13.heap.size,0,none⟩) 1 1) (.int .i64 0) rfl rfl rfl rfl (new_old (fill_7 HZ13.out) _) Tryz.underlying103 rfl (by kernel_rfl)) rfl (OneE.made (by rw [List.length_set,HML.out]) mc ((nds_put7 HR13.out hgz).below ((Below.refl _ _).alloc (Nat.le_refl _) _)) (new_at (by simp [put_7]) _) ((fillB_7 HB13.out (by rw [HOB.out];omega)).alloc (by have:=HB13.out.size;simp [put_7];omega) _))
 · go_wp2_with fail
   exact bodyPost_ret (results_4c rfl _ _ (ob+1) 103 #[.string at',.string ⟨#[]⟩,.int .i64 0,.int .i64 st,.int .i64 st,.int .i64 (0),.slice none 0 0] (0,0) _ (.slice (some ⟨g,0,none⟩) (N+1) mc) (.slice (some ⟨w12.heap.size,0,none⟩) 1 1) (.int .i64 0) rfl rfl rfl rfl (fill_7 HZ13.out) Tryz.underlying103 rfl (by kernel_rfl)) rfl (OneE.made (by rw [List.length_set,HML.out]) mc (nds_put7 HR13.out hgz) (fillO_7 HC13.out (by omega)) (fillB_7 HB13.out (by rw [HOB.out];omega)))
end Go.Proofs.YtckmihplkhmpnaaGreatDoor
namespace Go.Proofs.YtckmihplkhmpnaaGreatDoor
open Go.RowKit Go.Maps Go.WideShapes
set_option linter.unusedVariables false
set_option linter.unusedSimpArgs false
attribute [local go_sem ↓] Go.wp_at_zero Go.wp_at_succ
set_option maxHeartbeats 8000000 in
set_option maxRecDepth 100000 in
theorem rm_F1 (a:Option Addr) (c:Nat) (T:List Nd) (s st:Int) (p d:ByteArray) (v:Int) (u:Nd) (q:Nat) (w:World) (h:NdsAt w a T) (hT:T.length≤64) (hq:T[q]? = some u) (hu:fndI T (parB p)=q) (ho:u.o=0) (n:Nd) (hn:n=(⟨p,d,0,st,st,s,0⟩:Nd)) (hg:fndI T p=-1) (hN6:T.length<64) (q2:Nat) (hq2:(ins n T)[q2]? = some u) (hu2:fndI (ins n T) (parB p)=q2) (hsm:Sml T) (hat:(p).size≤1000) :
  Calls Tryz.prog 71 #[.slice a T.length c,.int .i64 s,.int .i64 st,opV 1 p d v 1] w (OneE w (0,(ins n T).set q2 { u with k:=u.k },⟨p,⟨#[]⟩,0,st,st,s,[]⟩,[⟨1,p,d,0⟩])):=by
 have ho1:(u.o != 0)=false:=by simpa using ho
 clear ho
 have HG:Hid (fndI T p=-1):=hg
 have HWI:Hid (∀ W,Below w.heap.size w W→Calls Tryz.prog 73 #[.slice a T.length c,(⟨p,d,0,st,st,s,0⟩:Nd).V] W fun e w'=>∃ v,e=.returned v∧w'.ownsRow W.heap.size 26 7 v (ins n T).length ((ins n T).flatMap Nd.cs)∧Below W.heap.size W w'):=fun W hb=>by rw [hn];exact refWith_any a c T _ W (h.below hb) (by omega) hsm hat
 have HQ2:Hid ((ins n T)[q2]? = some u):=hq2
 have HSM:Hid (Sml T):=hsm
 have HNN:Hid (n=(⟨p,d,0,st,st,s,0⟩:Nd)):=hn
 clear hg hq2 hsm hn
 have H:Hid (NdsAt w a T):=h
 have HP:Hid (∀ W,_):=fun W=>refParent_any p W
 have HF:Hid (∀ W,Below w.heap.size w W→∀ x,Calls Tryz.prog 36 #[.slice a T.length c,.string x] W fun e w'=>e=.returned (.int .i64 (fndI T x))∧w'=W):=fun W hb x=>refFind_any a c T x W (h.below hb) (by omega)
 obtain ⟨N,hN⟩:∃ N,T.length=N:=⟨_,rfl⟩
 have HN:Hid (T.length=N):=hN
 rw [hN] at HF hT  HWI hN6 ⊢
 obtain ⟨ab,hab⟩:∃ ab,parB p=ab:=⟨_,rfl⟩
 rw [hab] at HP hu2 hu
 have HU2:Hid (fndI (ins n T) ab=(q2:Int)):=hu2
 clear hu2
 have HU:Hid (fndI T ab=(q:Int)):=hu
 have HQ:Hid (T[q]? = some u):=hq
 have hqN:q<N:=by rw [← hN];exact (List.getElem?_eq_some_iff.1 hq).1
 obtain ⟨gb,gf,rfl⟩:=h.some hq
 clear hq
 clear h hN hab hu
 go_enter Tryz.func71,Tryz.ntmps71
 go_upto_region 1 with fail
 obtain ⟨W2,hW2⟩:∃ x,(w.alloc (.cells #[.int .i64 1,.string p,.string d,.int .i64 v,.int .i64 (1)] 66)).alloc (.cells #[.string ⟨#[]⟩,.string ⟨#[]⟩,.int .i64 0,.int .i64 0,.int .i64 0,.int .i64 0,.slice none 0 0] 103)=x:=⟨_,rfl⟩
 obtain ⟨ob,hob⟩:∃ x,w.heap.size=x:=⟨_,rfl⟩
 have HOB:Hid (w.heap.size=ob):=hob
 have HB2:Hid (Below w.heap.size w W2):=by rw [← hW2];exact ((Below.refl _ _).alloc (Nat.le_refl _) _).alloc (by simp) _
 have HO2:Hid (W2.heap[ob]? = some (.cells #[.int .i64 1,.string p,.string d,.int .i64 v,.int .i64 (1)] 66 (0,0))):=by rw [← hW2,← hob];exact heap_alloc2_old _ _ _
 have HZ2:Hid (W2.heap[ob+1]? = some (.cells #[.string ⟨#[]⟩,.string ⟨#[]⟩,.int .i64 0,.int .i64 0,.int .i64 0,.int .i64 0,.slice none 0 0] 103 (0,0))):=by rw [← hW2,← hob];exact heap_alloc2_new _ _ _
 rw [hW2,hob]
 clear hW2 hob
 obtain ⟨o0,o1,o2,o3,o4⟩:=cells_5 HO2.out
 go_wp2_with (go_at_call 34;refine Calls.mono (HP.out _) ?_;rintro e w3 ⟨rfl,hb3⟩
              have HB3:Hid (Below w.heap.size w w3):=trans2 HB2.out hb3
              have HO3:Hid _:=kept_block hb3 HO2.out
              have HZ3:Hid _:=kept_block hb3 HZ2.out
              have hz3:ob+1<w3.heap.size:=(Array.getElem?_eq_some_iff.1 HZ3.out).1
              clear hb3 o0 o1 o2 o3 o4
              obtain ⟨o0,o1,o2,o3,o4⟩:=cells_5 HO3.out
              obtain ⟨b0,b1,b2,b3,b4,b5,b6⟩:=cells_7 HZ3.out
              have hfz:=free_7 HZ3.out)
 refine Calls.mono (HF.out _ HB3.out _) ?_
 rintro e w4 ⟨rfl,hw4⟩
 subst hw4
 rw [HU.out]
 obtain ⟨hgb,x0,x1,x2,x3,x4,x5,x6⟩:=(H.out.below HB3.out).cells HQ.out
 have hq0:¬ (q:Int)<0:=by omega
 go_upto_region 8 with fail
 obtain ⟨w5,hw5⟩:∃ x,w4.alloc (.cells #[.string p,.string d,.int .i64 0,.int .i64 st,.int .i64 st,.int .i64 0,.int .i64 0] 26)=x:=⟨_,rfl⟩
 obtain ⟨nb,hnb⟩:∃ x,w4.heap.size=x:=⟨_,rfl⟩
 have hnz:ob+1<nb:=by omega
 have HB5:Hid (Below w.heap.size w w5):=by rw [← hw5];exact HB3.out.alloc (by have:=HB3.out.size;omega) _
 have HO5:Hid (w5.heap[ob]? = some (.cells #[.int .i64 1,.string p,.string d,.int .i64 v,.int .i64 (1)] 66 (0,0))):=by rw [← hw5];exact new_old HO3.out _
 have HZ5:Hid (w5.heap[ob+1]? = some (.cells #[.string ⟨#[]⟩,.string ⟨#[]⟩,.int .i64 0,.int .i64 0,.int .i64 0,.int .i64 0,.slice none 0 0] 103 (0,0))):=by rw [← hw5];exact new_old HZ3.out _
 have HN5:Hid (w5.heap[nb]? = some (.cells #[.string p,.string d,.int .i64 0,.int .i64 st,.int .i64 st,.int .i64 0,.int .i64 0] 26 (0,0))):=by rw [← hw5,← hnb];exact heap_alloc_new _ _
 rw [hw5,hnb]
 clear hw5 hnb hz3 o0 o1 o2 o3 o4 b0 b1 b2 b3 b4 b5 b6 hfz x0 x1 x2 x3 x4 x5 x6 hgb ho1
 obtain ⟨o0,o1,o2,o3,o4⟩:=cells_5 HO5.out
 obtain ⟨b0,b1,b2,b3,b4,b5,b6⟩:=cells_7 HZ5.out
 have hfz:=free_7 HZ5.out
 obtain ⟨hgb,x0,x1,x2,x3,x4,x5,x6⟩:=(H.out.below HB5.out).cells HQ.out
 go_upto_region 14 with fail
 obtain ⟨w7,hw7⟩:∃ x,w5=x:=⟨_,rfl⟩
 rw [hw7]
 rw [hw7] at HB5 HO5 HZ5 HN5
 have HB7:Hid (Below w.heap.size w w7):=HB5.out
 have HO7:Hid (w7.heap[ob]? = some (.cells #[.int .i64 1,.string p,.string d,.int .i64 v,.int .i64 (1)] 66 (0,0))):=HO5.out
 have HZ7:Hid (w7.heap[ob+1]? = some (.cells #[.string ⟨#[]⟩,.string ⟨#[]⟩,.int .i64 0,.int .i64 0,.int .i64 0,.int .i64 0,.slice none 0 0] 103 (0,0))):=HZ5.out
 have HN7:Hid (w7.heap[nb]? = some (.cells #[.string p,.string d,.int .i64 0,.int .i64 st,.int .i64 st,.int .i64 0,.int .i64 0] 26 (0,0))):=HN5.out
 clear hw7 o0 o1 o2 o3 o4 b0 b1 b2 b3 b4 b5 b6 hfz x0 x1 x2 x3 x4 x5 x6 hgb
 obtain ⟨o0,o1,o2,o3,o4⟩:=cells_5 HO7.out
 obtain ⟨b0,b1,b2,b3,b4,b5,b6⟩:=cells_7 HZ7.out
 have hfz:=free_7 HZ7.out
 obtain ⟨n0,n1,n2,n3,n4,n5,n6⟩:=cells_7 HN7.out
 have hfn:=free_7 HN7.out
 go_wp2_with fail
 refine Calls.mono (HF.out _ HB7.out _) ?_
 rintro e w8 ⟨rfl,hw8⟩
 subst hw8
 rw [HG.out]
 have hN64:¬ (64:Int)≤(N:Int):=by omega
 go_upto_region 20 with fail
 obtain ⟨w9,hw9⟩:∃ x,w8.setCell ⟨nb,5,none⟩ (.int .i64 s)=x:=⟨_,rfl⟩
 have HB9:Hid (Below w.heap.size w w9):=by rw [← hw9];exact HB7.out.setCell (show w.heap.size≤nb by rw [HOB.out];omega) _
 have HZ9:Hid (w9.heap[ob+1]? = some (.cells #[.string ⟨#[]⟩,.string ⟨#[]⟩,.int .i64 0,.int .i64 0,.int .i64 0,.int .i64 0,.slice none 0 0] 103 (0,0))):=by rw [← hw9];exact other_blk HZ7.out (by omega)
 have HN9:Hid (w9.heap[nb]? = some (.cells #[.string p,.string d,.int .i64 0,.int .i64 st,.int .i64 st,.int .i64 (s),.int .i64 0] 26 (0,0))):=by rw [← hw9];exact same_blk HN7.out rfl
 rw [hw9]
 clear hw9 n0 n1 n2 n3 n4 n5 n6 hfn o0 o1 o2 o3 o4 b0 b1 b2 b3 b4 b5 b6 hfz
 obtain ⟨n0,n1,n2,n3,n4,n5,n6⟩:=cells_7 HN9.out
 have hn9:nb<w9.heap.size:=(Array.getElem?_eq_some_iff.1 HN9.out).1
 go_wp2_with fail
 refine Calls.mono (HWI.out _ HB9.out) ?_
 rintro e w10 ⟨mv,rfl,hrow,hb10⟩
 obtain ⟨g,mc,rfl⟩:∃ g cap,mv=.slice (some ⟨g,0,none⟩) (ins n T).length cap:=by
  rcases hrow.2 with ⟨rfl,h0⟩ | ⟨g,cap,cur,rfl,_⟩
  · rw [ins_len] at h0;cases h0
  · exact ⟨_,_,rfl⟩
 have HR10:Hid (w10.ownsRow w9.heap.size 26 7 (.slice (some ⟨g,0,none⟩) (ins n T).length mc) (ins n T).length ((ins n T).flatMap Nd.cs)):=hrow
 have hgl:=(hrow.lt g rfl).1
 have HB10:Hid (Below w.heap.size w w10):=trans2 HB9.out hb10
 have HZ10:Hid _:=kept_block hb10 HZ9.out
 have HN10:Hid _:=kept_block hb10 HN9.out
 obtain ⟨cur,hcur,_,_⟩:=Fa.owns_block hrow
 have hfm:∀ o,w10.frozen? ⟨g,o,none⟩=false:=free_blk hcur
 have HFM:Hid _:=refFind_any (some ⟨g,0,none⟩) mc (ins n T) ab w10 (nds_of_row hrow) (by rw [ins_len,HN.out];omega)
 obtain ⟨_,m0,m1,m2,m3,m4,m5,m6⟩:=(nds_of_row hrow).cells HQ2.out
 have HML:Hid ((ins n T).length=N+1):=(show (ins n T).length=N+1 by rw [ins_len,HN.out])
 have hq2N:q2<N+1:=by rw [← HML.out];exact (List.getElem?_eq_some_iff.1 HQ2.out).1
 clear hrow hb10 n0 n1 n2 n3 n4 n5 n6 hcur
 rw [HML.out] at HFM ⊢
 rw [Nat.zero_add] at m0 m1 m2 m3 m4 m5 m6
 go_wp2_with fail
 refine Calls.mono HFM.out ?_
 rintro e w11 ⟨rfl,hw11⟩
 subst hw11
 rw [HU2.out]
 go_upto_region 23 with fail
 obtain ⟨w12,hw12⟩:∃ x,w11.setCell ⟨g,q2 * 7+6,none⟩ (.int .i64 (u.k))=x:=⟨_,rfl⟩
 have HB12:Hid (Below w.heap.size w w12):=by rw [← hw12];exact HB10.out.setCell (show w.heap.size≤g by have:=HB9.out.size;omega) _
 have HZ12:Hid (w12.heap[ob+1]? = some (.cells #[.string ⟨#[]⟩,.string ⟨#[]⟩,.int .i64 0,.int .i64 0,.int .i64 0,.int .i64 0,.slice none 0 0] 103 (0,0))):=by rw [← hw12];exact other_blk HZ10.out (by omega)
 have HN12:Hid (w12.heap[nb]? = some (.cells #[.string p,.string d,.int .i64 0,.int .i64 st,.int .i64 st,.int .i64 (s),.int .i64 0] 26 (0,0))):=by rw [← hw12];exact other_blk HN10.out (by omega)
 have HR12:Hid (NdsAt w12 (some ⟨g,0,none⟩) ((ins n T).set q2 { u with k:=u.k })):=by rw [← hw12];exact nds_set HR10.out HQ2.out _
 rw [hw12]
 clear hw12 m0 m1 m2 m3 m4 m5 m6 hfm
 obtain ⟨n0,n1,n2,n3,n4,n5,n6⟩:=cells_7 HN12.out
 obtain ⟨b0,b1,b2,b3,b4,b5,b6⟩:=cells_7 HZ12.out
 have hfz:=free_7 HZ12.out
 have HSH:Hid (∀ W,_):=fun W=>refShown_any (⟨p,d,0,st,st,s,0⟩:Nd) W
 have hne:nb≠ob+1:=by omega
 have hgz:g≠ob+1:=by omega
 have hnl:nb<w12.heap.size:=(Array.getElem?_eq_some_iff.1 HN12.out).1
 have q3:nb≠w12.heap.size:=by omega
 have q4:ob+1≠w12.heap.size:=by omega
 go_region_held3 (fun w'=>w'.cell? ⟨nb,0,none⟩=some (.string p)∧w'.cell? ⟨nb,1,none⟩=some (.string d)∧w'.cell? ⟨nb,2,none⟩=some (.int .i64 0)∧w'.cell? ⟨nb,3,none⟩=some (.int .i64 st)∧w'.cell? ⟨nb,4,none⟩=some (.int .i64 st)∧w'.cell? ⟨nb,5,none⟩=some (.int .i64 (s))∧w'.cell? ⟨nb,6,none⟩=some (.int .i64 0)) (first | (simp only [World.cell?_drew,n0,n1,n2,n3,n4,n5,n6,and_self];done) | (simp only [cellN hne,World.cell?_drew,n0,n1,n2,n3,n4,n5,n6,and_self];done) | (simp only [cellA,World.size_setCell,World.size_drew,hnl,cellN hne,World.cell?_drew,n0,n1,n2,n3,n4,n5,n6,and_self];done) | go_keep)
  (first
    | (go_at_call 72;refine Calls.mono (HSH.out _) ?_;rintro e w13 ⟨rfl,hb13⟩
       have hb13':=of_drew hb13
       have HB13:Hid (Below w.heap.size w w13):=trans2 HB12.out hb13'
       have HN13:Hid _:=kept_block hb13' HN12.out
       have HZ13:Hid _:=kept_block hb13' HZ12.out
       have HR13:Hid _:=HR12.out.below hb13'
       clear hb13 hb13' n0 n1 n2 n3 n4 n5 n6 b0 b1 b2 b3 b4 b5 b6 hfz
       obtain ⟨n0,n1,n2,n3,n4,n5,n6⟩:=cells_7 HN13.out
       obtain ⟨b0,b1,b2,b3,b4,b5,b6⟩:=cells_7 HZ13.out
       have hfz:=free_7 HZ13.out
       have hzl:ob+1<w13.heap.size:=(Array.getElem?_eq_some_iff.1 HZ13.out).1
       clear hnl
       have hnl:nb<w13.heap.size:=(Array.getElem?_eq_some_iff.1 HN13.out).1
       have q3:nb≠w13.heap.size:=by omega
       have q4:ob+1≠w13.heap.size:=by omega)
    | (go_at_call 72;refine Calls.mono (HSH.out _) ?_;rintro e w13 ⟨rfl,hb13⟩
       have hb13':=of_drew hb13
       have HB13:Hid (Below w.heap.size w w13):=trans2 (HB12.out.alloc (by have:=HB12.out.size;omega) _) hb13'
       have HN13:Hid _:=kept_block hb13' (new_old HN12.out _)
       have HZ13:Hid _:=kept_block hb13' (new_old HZ12.out _)
       have HC13:Hid _:=kept_block hb13' (heap_alloc_new _ _)
       have HR13:Hid _:=(HR12.out.below ((Below.refl _ _).alloc (Nat.le_refl _) _)).below hb13'
       clear hb13 hb13' n0 n1 n2 n3 n4 n5 n6 b0 b1 b2 b3 b4 b5 b6 hfz
       obtain ⟨n0,n1,n2,n3,n4,n5,n6⟩:=cells_7 HN13.out
       obtain ⟨b0,b1,b2,b3,b4,b5,b6⟩:=cells_7 HZ13.out
       have hfz:=free_7 HZ13.out
       clear hnl
       have hnl:nb<w13.heap.size:=(Array.getElem?_eq_some_iff.1 HN13.out).1))
 · go_wp2_with fail
   exact bodyPost_ret (results_4c rfl _ _ (ob+1) 103 #[.string p,.string ⟨#[]⟩,.int .i64 0,.int .i64 st,.int .i64 st,.int .i64 (s),.slice none 0 0] (0,0) _ (.slice (some ⟨g,0,none⟩) (N+1) mc) (.slice (some ⟨w13.heap.size,0,none⟩) 1 1) (.int .i64 0) rfl rfl rfl rfl (new_old (fill_7 HZ13.out) _) Tryz.underlying103 rfl (by kernel_rfl)) rfl (OneE.made (by rw [List.length_set,HML.out]) mc ((nds_put7 HR13.out hgz).below ((Below.refl _ _).alloc (Nat.le_refl _) _)) (new_at (by simp [put_7]) _) ((fillB_7 HB13.out (by rw [HOB.out];omega)).alloc (by have:=HB13.out.size;simp [put_7];omega) _))
 · go_wp2_with fail
   exact bodyPost_ret (results_4c rfl _ _ (ob+1) 103 #[.string p,.string ⟨#[]⟩,.int .i64 0,.int .i64 st,.int .i64 st,.int .i64 (s),.slice none 0 0] (0,0) _ (.slice (some ⟨g,0,none⟩) (N+1) mc) (.slice (some ⟨w13.heap.size,0,none⟩) 1 1) (.int .i64 0) rfl rfl rfl rfl (new_old (fill_7 HZ13.out) _) Tryz.underlying103 rfl (by kernel_rfl)) rfl (OneE.made (by rw [List.length_set,HML.out]) mc ((nds_put7 HR13.out hgz).below ((Below.refl _ _).alloc (Nat.le_refl _) _)) (new_at (by simp [put_7]) _) ((fillB_7 HB13.out (by rw [HOB.out];omega)).alloc (by have:=HB13.out.size;simp [put_7];omega) _))
 · go_wp2_with fail
   exact bodyPost_ret (results_4c rfl _ _ (ob+1) 103 #[.string p,.string ⟨#[]⟩,.int .i64 0,.int .i64 st,.int .i64 st,.int .i64 (s),.slice none 0 0] (0,0) _ (.slice (some ⟨g,0,none⟩) (N+1) mc) (.slice (some ⟨w12.heap.size,0,none⟩) 1 1) (.int .i64 0) rfl rfl rfl rfl (fill_7 HZ13.out) Tryz.underlying103 rfl (by kernel_rfl)) rfl (OneE.made (by rw [List.length_set,HML.out]) mc (nds_put7 HR13.out hgz) (fillO_7 HC13.out (by omega)) (fillB_7 HB13.out (by rw [HOB.out];omega)))
end Go.Proofs.YtckmihplkhmpnaaGreatDoor
namespace Go.Proofs.YtckmihplkhmpnaaGreatDoor
open Go.RowKit Go.Maps Go.WideShapes
set_option linter.unusedVariables false
set_option linter.unusedSimpArgs false
attribute [local go_sem ↓] Go.wp_at_zero Go.wp_at_succ
set_option maxHeartbeats 8000000 in
set_option maxRecDepth 100000 in
theorem rm_F0 (a:Option Addr) (c:Nat) (T:List Nd) (s st:Int) (p d:ByteArray) (v:Int) (u:Nd) (q:Nat) (w:World) (h:NdsAt w a T) (hT:T.length≤64) (hq:T[q]? = some u) (hu:fndI T (parB p)=q) (ho:u.o=0) (n:Nd) (hn:n=(⟨p,d,0,st,st,0,0⟩:Nd)) (hg:fndI T p=-1) (hN6:T.length<64) (q2:Nat) (hq2:(ins n T)[q2]? = some u) (hu2:fndI (ins n T) (parB p)=q2) (hsm:Sml T) (hat:(p).size≤1000) :
  Calls Tryz.prog 71 #[.slice a T.length c,.int .i64 s,.int .i64 st,opV 1 p d v 0] w (OneE w (0,(ins n T).set q2 { u with k:=u.k },⟨p,⟨#[]⟩,0,st,st,0,[]⟩,[⟨1,p,d,0⟩])):=by
 have ho1:(u.o != 0)=false:=by simpa using ho
 clear ho
 have HG:Hid (fndI T p=-1):=hg
 have HWI:Hid (∀ W,Below w.heap.size w W→Calls Tryz.prog 73 #[.slice a T.length c,(⟨p,d,0,st,st,0,0⟩:Nd).V] W fun e w'=>∃ v,e=.returned v∧w'.ownsRow W.heap.size 26 7 v (ins n T).length ((ins n T).flatMap Nd.cs)∧Below W.heap.size W w'):=fun W hb=>by rw [hn];exact refWith_any a c T _ W (h.below hb) (by omega) hsm hat
 have HQ2:Hid ((ins n T)[q2]? = some u):=hq2
 have HSM:Hid (Sml T):=hsm
 have HNN:Hid (n=(⟨p,d,0,st,st,0,0⟩:Nd)):=hn
 clear hg hq2 hsm hn
 have H:Hid (NdsAt w a T):=h
 have HP:Hid (∀ W,_):=fun W=>refParent_any p W
 have HF:Hid (∀ W,Below w.heap.size w W→∀ x,Calls Tryz.prog 36 #[.slice a T.length c,.string x] W fun e w'=>e=.returned (.int .i64 (fndI T x))∧w'=W):=fun W hb x=>refFind_any a c T x W (h.below hb) (by omega)
 obtain ⟨N,hN⟩:∃ N,T.length=N:=⟨_,rfl⟩
 have HN:Hid (T.length=N):=hN
 rw [hN] at HF hT  HWI hN6 ⊢
 obtain ⟨ab,hab⟩:∃ ab,parB p=ab:=⟨_,rfl⟩
 rw [hab] at HP hu2 hu
 have HU2:Hid (fndI (ins n T) ab=(q2:Int)):=hu2
 clear hu2
 have HU:Hid (fndI T ab=(q:Int)):=hu
 have HQ:Hid (T[q]? = some u):=hq
 have hqN:q<N:=by rw [← hN];exact (List.getElem?_eq_some_iff.1 hq).1
 obtain ⟨gb,gf,rfl⟩:=h.some hq
 clear hq
 clear h hN hab hu
 go_enter Tryz.func71,Tryz.ntmps71
 go_upto_region 1 with fail
 obtain ⟨W2,hW2⟩:∃ x,(w.alloc (.cells #[.int .i64 1,.string p,.string d,.int .i64 v,.int .i64 (0)] 66)).alloc (.cells #[.string ⟨#[]⟩,.string ⟨#[]⟩,.int .i64 0,.int .i64 0,.int .i64 0,.int .i64 0,.slice none 0 0] 103)=x:=⟨_,rfl⟩
 obtain ⟨ob,hob⟩:∃ x,w.heap.size=x:=⟨_,rfl⟩
 have HOB:Hid (w.heap.size=ob):=hob
 have HB2:Hid (Below w.heap.size w W2):=by rw [← hW2];exact ((Below.refl _ _).alloc (Nat.le_refl _) _).alloc (by simp) _
 have HO2:Hid (W2.heap[ob]? = some (.cells #[.int .i64 1,.string p,.string d,.int .i64 v,.int .i64 (0)] 66 (0,0))):=by rw [← hW2,← hob];exact heap_alloc2_old _ _ _
 have HZ2:Hid (W2.heap[ob+1]? = some (.cells #[.string ⟨#[]⟩,.string ⟨#[]⟩,.int .i64 0,.int .i64 0,.int .i64 0,.int .i64 0,.slice none 0 0] 103 (0,0))):=by rw [← hW2,← hob];exact heap_alloc2_new _ _ _
 rw [hW2,hob]
 clear hW2 hob
 obtain ⟨o0,o1,o2,o3,o4⟩:=cells_5 HO2.out
 go_wp2_with (go_at_call 34;refine Calls.mono (HP.out _) ?_;rintro e w3 ⟨rfl,hb3⟩
              have HB3:Hid (Below w.heap.size w w3):=trans2 HB2.out hb3
              have HO3:Hid _:=kept_block hb3 HO2.out
              have HZ3:Hid _:=kept_block hb3 HZ2.out
              have hz3:ob+1<w3.heap.size:=(Array.getElem?_eq_some_iff.1 HZ3.out).1
              clear hb3 o0 o1 o2 o3 o4
              obtain ⟨o0,o1,o2,o3,o4⟩:=cells_5 HO3.out
              obtain ⟨b0,b1,b2,b3,b4,b5,b6⟩:=cells_7 HZ3.out
              have hfz:=free_7 HZ3.out)
 refine Calls.mono (HF.out _ HB3.out _) ?_
 rintro e w4 ⟨rfl,hw4⟩
 subst hw4
 rw [HU.out]
 obtain ⟨hgb,x0,x1,x2,x3,x4,x5,x6⟩:=(H.out.below HB3.out).cells HQ.out
 have hq0:¬ (q:Int)<0:=by omega
 go_upto_region 8 with fail
 obtain ⟨w5,hw5⟩:∃ x,w4.alloc (.cells #[.string p,.string d,.int .i64 0,.int .i64 st,.int .i64 st,.int .i64 0,.int .i64 0] 26)=x:=⟨_,rfl⟩
 obtain ⟨nb,hnb⟩:∃ x,w4.heap.size=x:=⟨_,rfl⟩
 have hnz:ob+1<nb:=by omega
 have HB5:Hid (Below w.heap.size w w5):=by rw [← hw5];exact HB3.out.alloc (by have:=HB3.out.size;omega) _
 have HO5:Hid (w5.heap[ob]? = some (.cells #[.int .i64 1,.string p,.string d,.int .i64 v,.int .i64 (0)] 66 (0,0))):=by rw [← hw5];exact new_old HO3.out _
 have HZ5:Hid (w5.heap[ob+1]? = some (.cells #[.string ⟨#[]⟩,.string ⟨#[]⟩,.int .i64 0,.int .i64 0,.int .i64 0,.int .i64 0,.slice none 0 0] 103 (0,0))):=by rw [← hw5];exact new_old HZ3.out _
 have HN5:Hid (w5.heap[nb]? = some (.cells #[.string p,.string d,.int .i64 0,.int .i64 st,.int .i64 st,.int .i64 0,.int .i64 0] 26 (0,0))):=by rw [← hw5,← hnb];exact heap_alloc_new _ _
 rw [hw5,hnb]
 clear hw5 hnb hz3 o0 o1 o2 o3 o4 b0 b1 b2 b3 b4 b5 b6 hfz x0 x1 x2 x3 x4 x5 x6 hgb ho1
 obtain ⟨o0,o1,o2,o3,o4⟩:=cells_5 HO5.out
 obtain ⟨b0,b1,b2,b3,b4,b5,b6⟩:=cells_7 HZ5.out
 have hfz:=free_7 HZ5.out
 obtain ⟨hgb,x0,x1,x2,x3,x4,x5,x6⟩:=(H.out.below HB5.out).cells HQ.out
 go_upto_region 14 with fail
 obtain ⟨w7,hw7⟩:∃ x,w5=x:=⟨_,rfl⟩
 rw [hw7]
 rw [hw7] at HB5 HO5 HZ5 HN5
 have HB7:Hid (Below w.heap.size w w7):=HB5.out
 have HO7:Hid (w7.heap[ob]? = some (.cells #[.int .i64 1,.string p,.string d,.int .i64 v,.int .i64 (0)] 66 (0,0))):=HO5.out
 have HZ7:Hid (w7.heap[ob+1]? = some (.cells #[.string ⟨#[]⟩,.string ⟨#[]⟩,.int .i64 0,.int .i64 0,.int .i64 0,.int .i64 0,.slice none 0 0] 103 (0,0))):=HZ5.out
 have HN7:Hid (w7.heap[nb]? = some (.cells #[.string p,.string d,.int .i64 0,.int .i64 st,.int .i64 st,.int .i64 0,.int .i64 0] 26 (0,0))):=HN5.out
 clear hw7 o0 o1 o2 o3 o4 b0 b1 b2 b3 b4 b5 b6 hfz x0 x1 x2 x3 x4 x5 x6 hgb
 obtain ⟨o0,o1,o2,o3,o4⟩:=cells_5 HO7.out
 obtain ⟨b0,b1,b2,b3,b4,b5,b6⟩:=cells_7 HZ7.out
 have hfz:=free_7 HZ7.out
 obtain ⟨n0,n1,n2,n3,n4,n5,n6⟩:=cells_7 HN7.out
 have hfn:=free_7 HN7.out
 go_wp2_with fail
 refine Calls.mono (HF.out _ HB7.out _) ?_
 rintro e w8 ⟨rfl,hw8⟩
 subst hw8
 rw [HG.out]
 have hN64:¬ (64:Int)≤(N:Int):=by omega
 go_upto_region 20 with fail
 obtain ⟨w9,hw9⟩:∃ x,w8=x:=⟨_,rfl⟩
 rw [hw9] at HB7 HZ7 HN7 ⊢
 have HB9:Hid (Below w.heap.size w w9):=HB7.out
 have HZ9:Hid (w9.heap[ob+1]? = some (.cells #[.string ⟨#[]⟩,.string ⟨#[]⟩,.int .i64 0,.int .i64 0,.int .i64 0,.int .i64 0,.slice none 0 0] 103 (0,0))):=HZ7.out
 have HN9:Hid (w9.heap[nb]? = some (.cells #[.string p,.string d,.int .i64 0,.int .i64 st,.int .i64 st,.int .i64 (0),.int .i64 0] 26 (0,0))):=HN7.out
 clear hw9 n0 n1 n2 n3 n4 n5 n6 hfn o0 o1 o2 o3 o4 b0 b1 b2 b3 b4 b5 b6 hfz
 obtain ⟨n0,n1,n2,n3,n4,n5,n6⟩:=cells_7 HN9.out
 have hn9:nb<w9.heap.size:=(Array.getElem?_eq_some_iff.1 HN9.out).1
 go_wp2_with fail
 refine Calls.mono (HWI.out _ HB9.out) ?_
 rintro e w10 ⟨mv,rfl,hrow,hb10⟩
 obtain ⟨g,mc,rfl⟩:∃ g cap,mv=.slice (some ⟨g,0,none⟩) (ins n T).length cap:=by
  rcases hrow.2 with ⟨rfl,h0⟩ | ⟨g,cap,cur,rfl,_⟩
  · rw [ins_len] at h0;cases h0
  · exact ⟨_,_,rfl⟩
 have HR10:Hid (w10.ownsRow w9.heap.size 26 7 (.slice (some ⟨g,0,none⟩) (ins n T).length mc) (ins n T).length ((ins n T).flatMap Nd.cs)):=hrow
 have hgl:=(hrow.lt g rfl).1
 have HB10:Hid (Below w.heap.size w w10):=trans2 HB9.out hb10
 have HZ10:Hid _:=kept_block hb10 HZ9.out
 have HN10:Hid _:=kept_block hb10 HN9.out
 obtain ⟨cur,hcur,_,_⟩:=Fa.owns_block hrow
 have hfm:∀ o,w10.frozen? ⟨g,o,none⟩=false:=free_blk hcur
 have HFM:Hid _:=refFind_any (some ⟨g,0,none⟩) mc (ins n T) ab w10 (nds_of_row hrow) (by rw [ins_len,HN.out];omega)
 obtain ⟨_,m0,m1,m2,m3,m4,m5,m6⟩:=(nds_of_row hrow).cells HQ2.out
 have HML:Hid ((ins n T).length=N+1):=(show (ins n T).length=N+1 by rw [ins_len,HN.out])
 have hq2N:q2<N+1:=by rw [← HML.out];exact (List.getElem?_eq_some_iff.1 HQ2.out).1
 clear hrow hb10 n0 n1 n2 n3 n4 n5 n6 hcur
 rw [HML.out] at HFM ⊢
 rw [Nat.zero_add] at m0 m1 m2 m3 m4 m5 m6
 go_wp2_with fail
 refine Calls.mono HFM.out ?_
 rintro e w11 ⟨rfl,hw11⟩
 subst hw11
 rw [HU2.out]
 go_upto_region 23 with fail
 obtain ⟨w12,hw12⟩:∃ x,w11.setCell ⟨g,q2 * 7+6,none⟩ (.int .i64 (u.k))=x:=⟨_,rfl⟩
 have HB12:Hid (Below w.heap.size w w12):=by rw [← hw12];exact HB10.out.setCell (show w.heap.size≤g by have:=HB9.out.size;omega) _
 have HZ12:Hid (w12.heap[ob+1]? = some (.cells #[.string ⟨#[]⟩,.string ⟨#[]⟩,.int .i64 0,.int .i64 0,.int .i64 0,.int .i64 0,.slice none 0 0] 103 (0,0))):=by rw [← hw12];exact other_blk HZ10.out (by omega)
 have HN12:Hid (w12.heap[nb]? = some (.cells #[.string p,.string d,.int .i64 0,.int .i64 st,.int .i64 st,.int .i64 (0),.int .i64 0] 26 (0,0))):=by rw [← hw12];exact other_blk HN10.out (by omega)
 have HR12:Hid (NdsAt w12 (some ⟨g,0,none⟩) ((ins n T).set q2 { u with k:=u.k })):=by rw [← hw12];exact nds_set HR10.out HQ2.out _
 rw [hw12]
 clear hw12 m0 m1 m2 m3 m4 m5 m6 hfm
 obtain ⟨n0,n1,n2,n3,n4,n5,n6⟩:=cells_7 HN12.out
 obtain ⟨b0,b1,b2,b3,b4,b5,b6⟩:=cells_7 HZ12.out
 have hfz:=free_7 HZ12.out
 have HSH:Hid (∀ W,_):=fun W=>refShown_any (⟨p,d,0,st,st,0,0⟩:Nd) W
 have hne:nb≠ob+1:=by omega
 have hgz:g≠ob+1:=by omega
 have hnl:nb<w12.heap.size:=(Array.getElem?_eq_some_iff.1 HN12.out).1
 have q3:nb≠w12.heap.size:=by omega
 have q4:ob+1≠w12.heap.size:=by omega
 go_region_held3 (fun w'=>w'.cell? ⟨nb,0,none⟩=some (.string p)∧w'.cell? ⟨nb,1,none⟩=some (.string d)∧w'.cell? ⟨nb,2,none⟩=some (.int .i64 0)∧w'.cell? ⟨nb,3,none⟩=some (.int .i64 st)∧w'.cell? ⟨nb,4,none⟩=some (.int .i64 st)∧w'.cell? ⟨nb,5,none⟩=some (.int .i64 (0))∧w'.cell? ⟨nb,6,none⟩=some (.int .i64 0)) (first | (simp only [World.cell?_drew,n0,n1,n2,n3,n4,n5,n6,and_self];done) | (simp only [cellN hne,World.cell?_drew,n0,n1,n2,n3,n4,n5,n6,and_self];done) | (simp only [cellA,World.size_setCell,World.size_drew,hnl,cellN hne,World.cell?_drew,n0,n1,n2,n3,n4,n5,n6,and_self];done) | go_keep)
  (first
    | (go_at_call 72;refine Calls.mono (HSH.out _) ?_;rintro e w13 ⟨rfl,hb13⟩
       have hb13':=of_drew hb13
       have HB13:Hid (Below w.heap.size w w13):=trans2 HB12.out hb13'
       have HN13:Hid _:=kept_block hb13' HN12.out
       have HZ13:Hid _:=kept_block hb13' HZ12.out
       have HR13:Hid _:=HR12.out.below hb13'
       clear hb13 hb13' n0 n1 n2 n3 n4 n5 n6 b0 b1 b2 b3 b4 b5 b6 hfz
       obtain ⟨n0,n1,n2,n3,n4,n5,n6⟩:=cells_7 HN13.out
       obtain ⟨b0,b1,b2,b3,b4,b5,b6⟩:=cells_7 HZ13.out
       have hfz:=free_7 HZ13.out
       have hzl:ob+1<w13.heap.size:=(Array.getElem?_eq_some_iff.1 HZ13.out).1
       clear hnl
       have hnl:nb<w13.heap.size:=(Array.getElem?_eq_some_iff.1 HN13.out).1
       have q3:nb≠w13.heap.size:=by omega
       have q4:ob+1≠w13.heap.size:=by omega)
    | (go_at_call 72;refine Calls.mono (HSH.out _) ?_;rintro e w13 ⟨rfl,hb13⟩
       have hb13':=of_drew hb13
       have HB13:Hid (Below w.heap.size w w13):=trans2 (HB12.out.alloc (by have:=HB12.out.size;omega) _) hb13'
       have HN13:Hid _:=kept_block hb13' (new_old HN12.out _)
       have HZ13:Hid _:=kept_block hb13' (new_old HZ12.out _)
       have HC13:Hid _:=kept_block hb13' (heap_alloc_new _ _)
       have HR13:Hid _:=(HR12.out.below ((Below.refl _ _).alloc (Nat.le_refl _) _)).below hb13'
       clear hb13 hb13' n0 n1 n2 n3 n4 n5 n6 b0 b1 b2 b3 b4 b5 b6 hfz
       obtain ⟨n0,n1,n2,n3,n4,n5,n6⟩:=cells_7 HN13.out
       obtain ⟨b0,b1,b2,b3,b4,b5,b6⟩:=cells_7 HZ13.out
       have hfz:=free_7 HZ13.out
       clear hnl
       have hnl:nb<w13.heap.size:=(Array.getElem?_eq_some_iff.1 HN13.out).1))
 · go_wp2_with fail
   exact bodyPost_ret (results_4c rfl _ _ (ob+1) 103 #[.string p,.string ⟨#[]⟩,.int .i64 0,.int .i64 st,.int .i64 st,.int .i64 (0),.slice none 0 0] (0,0) _ (.slice (some ⟨g,0,none⟩) (N+1) mc) (.slice (some ⟨w13.heap.size,0,none⟩) 1 1) (.int .i64 0) rfl rfl rfl rfl (new_old (fill_7 HZ13.out) _) Tryz.underlying103 rfl (by kernel_rfl)) rfl (OneE.made (by rw [List.length_set,HML.out]) mc ((nds_put7 HR13.out hgz).below ((Below.refl _ _).alloc (Nat.le_refl _) _)) (new_at (by simp [put_7]) _) ((fillB_7 HB13.out (by rw [HOB.out];omega)).alloc (by have:=HB13.out.size;simp [put_7];omega) _))
 · go_wp2_with fail
   exact bodyPost_ret (results_4c rfl _ _ (ob+1) 103 #[.string p,.string ⟨#[]⟩,.int .i64 0,.int .i64 st,.int .i64 st,.int .i64 (0),.slice none 0 0] (0,0) _ (.slice (some ⟨g,0,none⟩) (N+1) mc) (.slice (some ⟨w13.heap.size,0,none⟩) 1 1) (.int .i64 0) rfl rfl rfl rfl (new_old (fill_7 HZ13.out) _) Tryz.underlying103 rfl (by kernel_rfl)) rfl (OneE.made (by rw [List.length_set,HML.out]) mc ((nds_put7 HR13.out hgz).below ((Below.refl _ _).alloc (Nat.le_refl _) _)) (new_at (by simp [put_7]) _) ((fillB_7 HB13.out (by rw [HOB.out];omega)).alloc (by have:=HB13.out.size;simp [put_7];omega) _))
 · go_wp2_with fail
   exact bodyPost_ret (results_4c rfl _ _ (ob+1) 103 #[.string p,.string ⟨#[]⟩,.int .i64 0,.int .i64 st,.int .i64 st,.int .i64 (0),.slice none 0 0] (0,0) _ (.slice (some ⟨g,0,none⟩) (N+1) mc) (.slice (some ⟨w12.heap.size,0,none⟩) 1 1) (.int .i64 0) rfl rfl rfl rfl (fill_7 HZ13.out) Tryz.underlying103 rfl (by kernel_rfl)) rfl (OneE.made (by rw [List.length_set,HML.out]) mc (nds_put7 HR13.out hgz) (fillO_7 HC13.out (by omega)) (fillB_7 HB13.out (by rw [HOB.out];omega)))
end Go.Proofs.YtckmihplkhmpnaaGreatDoor
namespace Go.Proofs.YtckmihplkhmpnaaGreatDoor
open Go.RowKit Go.Maps Go.WideShapes
set_option linter.unusedVariables false
set_option linter.unusedSimpArgs false
theorem fnd_ins {n:Nd} {s:ByteArray} (h:n.p≠s):∀ T:List Nd,fnd (ins n T) s=fnd T s
 | []=>by simp [fnd,ins,h]
 | x :: r=>by
   unfold ins
   split
   · unfold fnd;rw [List.find?_cons,show decide (n.p=s)=false by simpa using h]
   · have ih:=fnd_ins h r
     unfold fnd at ih ⊢
     rw [List.find?_cons,List.find?_cons,ih]
theorem upd_cons (x y:Nd) (r:List Nd):upd (x :: r) y=(if x.p=y.p then y else x) :: upd r y:=rfl
theorem ins_cons (n x:Nd) (r:List Nd):ins n (x :: r)=if O n.p x.p=-1 then n :: x :: r else x :: ins n r:=rfl
theorem upd_ins {n y:Nd} (h:n.p≠y.p):∀ T:List Nd,upd (ins n T) y=ins n (upd T y)
 | []=>by simp [upd,ins,h]
 | x :: r=>by
   have hp:(if x.p=y.p then y else x).p=x.p:=by split <;> simp_all
   rw [upd_cons,ins_cons,ins_cons,hp]
   split
   · rw [upd_cons,if_neg h,upd_cons]
   · rw [upd_cons,upd_ins h r]
theorem upd_not {y:Nd}:∀ {T:List Nd},(∀ x∈T,x.p≠y.p)→upd T y=T
 | [],_=>rfl
 | x :: r,h=>by rw [upd_cons,if_neg (h x List.mem_cons_self),upd_not (fun z hz=>h z (List.mem_cons_of_mem _ hz))]
theorem O_neq {x y:ByteArray} (h:O x y=-1):x≠y:=fun e=>by rw [e,O_self] at h;cases h
theorem set_upd {u y:Nd}:∀ {T:List Nd} {q:Nat},Srt T→T[q]? = some u→u.p=y.p→T.set q y=upd T y
 | [],q,_,h,_=>by simp at h
 | x :: r,0,hs,h,hp=>by
   obtain rfl:x=u:=by simpa using h
   have h1:=(List.pairwise_cons.1 hs).1
   rw [upd_cons,if_pos hp,upd_not (fun z hz=>by rw [← hp];exact (O_neq (h1 z hz)).symm)]
   rfl
 | x :: r,q+1,hs,h,hp=>by
   have h0:r[q]? = some u:=by simpa using h
   have h1:=(List.pairwise_cons.1 hs).1
   rw [upd_cons,if_neg (by rw [← hp];exact O_neq (h1 u (List.mem_of_getElem? h0))),← set_upd (List.pairwise_cons.1 hs).2 h0 hp]
   rfl
theorem fndI_ge {T:List Nd} {s:ByteArray} {x:Nd} (h:fnd T s=some x):∃ g:Nat,fndI T s=g:=by
 obtain ⟨q,h1,_⟩:=fndI_fnd h
 exact ⟨q,h1⟩
theorem refMade_any (a:Option Addr) (c:Nat) (T:List Nd) (s st:Int) (o:OpT) (w:World) (h:NdsAt w a T) (hi:Inv T) (hk:o.k=1) (hm:malC s o.k o.p o.d o.f=0) :
  Calls Tryz.prog 71 #[.slice a T.length c,.int .i64 s,.int .i64 st,opV o.k o.p o.d o.v o.f] w (OneE w (makeM T s st o)):=by
 obtain ⟨k,p,d,v,f⟩:=o
 obtain rfl:k=1:=hk
 have hm':malC s 1 p d f=0:=hm
 obtain ⟨hf,hp0,hlast,hroot,hd⟩:=mal_ok1 hm'
 clear hm hm'
 obtain ⟨xs,j,x,hp,hj,hx,hl⟩:=names_of hp0 hroot
 have hps:=size_of_parse hp0
 show Calls _ _ #[_,_,_,opV 1 p d v f] w _
 unfold makeM
 dsimp only
 cases hfu:fnd T (parB p) with
 | none=>exact rm_A a c T s st p d v f w h hi.len (fndI_none (fnd_none hfu))
 | some u =>
   obtain ⟨q,hu,hq,_⟩:=fndI_fnd hfu
   obtain ⟨huT,hup⟩:=fnd_some hfu
   obtain ⟨_,_,_,_,hk0,hk1⟩:=hi.nd u huT
   dsimp only
   by_cases ho:u.o=0
   · rw [if_neg (by simpa using ho)]
     by_cases h2:2≤f
     · by_cases hkk:99999<u.k
       · rw [if_pos ⟨h2,hkk⟩]
         exact rm_C a c T s st p d v f u q w h hi.len hq hu ho h2 hkk
       · rw [if_neg (fun e=>hkk e.2)]
         have hc:∀ W,Calls Tryz.prog 94 #[.string p,.int .i64 u.k] W fun e w'=>e=.returned (.tuple #[.string (atOf p f u.k),.int .i64 0])∧Below W.heap.size W w':=fun W=>by
          have h9:=refCounted_good (n:=u.k.toNat) (by omega) hp j hj x hx (by rw [← hl];exact hlast h2) W
          rw [show ((u.k.toNat:Nat):Int)=u.k by omega] at h9
          unfold atOf
          rw [if_pos h2]
          exact h9
         have hats:(atOf p f u.k).size≤1000:=by
          unfold atOf
          rw [if_pos h2,size_mk,List.length_append]
          have h1:p.data.toList.length=p.size:=by simp
          have h2:(five u.k.toNat).length=5:=by simp [five]
          omega
         generalize hat:atOf p f u.k=at' at hc hats ⊢
         cases hfa:fnd T at' with
         | some y =>
           obtain ⟨g,hg⟩:=fndI_ge hfa
           rw [if_pos (by simp)]
           exact rm_Dh a c T s st p d v f u q w h hi.len hq hu ho h2 at' (by omega) hk0 hc g hg
         | none =>
           have hg:=fndI_none (fnd_none hfa)
           rw [if_neg (by simp)]
           by_cases h64:64≤T.length
           · rw [if_pos h64]
             exact rm_Eh a c T s st p d v f u q w h hi.len hq hu ho h2 at' (by omega) hk0 hc hg h64
           · rw [if_neg h64]
             have hne:at'≠parB p:=fun e=>fnd_none hfa u huT (by rw [hup,e])
             rcases (show f=2∨f=3 by omega) with rfl | rfl
             all_goals (
              first
              | (obtain ⟨n,hn⟩:∃ n:Nd,n=⟨at',d,0,st,st,0,0⟩:=⟨_,rfl⟩
                 obtain ⟨q2,hu2,hq2,_⟩:=fndI_fnd (show fnd (ins n T) (parB p)=some u by rw [fnd_ins (by rw [hn];exact hne)];exact hfu)
                 have h9:=rm_F2 a c T s st p d v u q w h hi.len hq hu ho at' (by omega) hk0 hc n hn hg (by omega) q2 hq2 hu2 hi.sml hats
                 rw [set_upd (y:={ u with k:=u.k+1 }) (hi.srt.ins (fun z hz=>by rw [hn];exact fnd_none hfa z hz)) hq2 rfl,upd_ins (by rw [hn];show at'≠u.p;rw [hup];exact hne),hn] at h9
                 exact h9)
              | (obtain ⟨n,hn⟩:∃ n:Nd,n=⟨at',d,0,st,st,s,0⟩:=⟨_,rfl⟩
                 obtain ⟨q2,hu2,hq2,_⟩:=fndI_fnd (show fnd (ins n T) (parB p)=some u by rw [fnd_ins (by rw [hn];exact hne)];exact hfu)
                 have h9:=rm_F3 a c T s st p d v u q w h hi.len hq hu ho at' (by omega) hk0 hc n hn hg (by omega) q2 hq2 hu2 hi.sml hats
                 rw [set_upd (y:={ u with k:=u.k+1 }) (hi.srt.ins (fun z hz=>by rw [hn];exact fnd_none hfa z hz)) hq2 rfl,upd_ins (by rw [hn];show at'≠u.p;rw [hup];exact hne),hn] at h9
                 exact h9))
     · rw [if_neg (fun e=>h2 e.1)]
       rw [show atOf p f u.k=p by unfold atOf;rw [if_neg h2]]
       cases hfa:fnd T p with
       | some y =>
         obtain ⟨g,hg⟩:=fndI_ge hfa
         rw [if_pos (by simp)]
         exact rm_Dl a c T s st p d v f u q w h hi.len hq hu ho h2 g hg
       | none =>
         have hg:=fndI_none (fnd_none hfa)
         rw [if_neg (by simp)]
         by_cases h64:64≤T.length
         · rw [if_pos h64]
           exact rm_El a c T s st p d v f u q w h hi.len hq hu ho h2 hg h64
         · rw [if_neg h64]
           have hne:p≠parB p:=fun e=>fnd_none hfa u huT (by rw [hup,← e])
           rcases (show f=0∨f=1 by omega) with rfl | rfl
           all_goals (
            first
            | (obtain ⟨n,hn⟩:∃ n:Nd,n=⟨p,d,0,st,st,0,0⟩:=⟨_,rfl⟩
               obtain ⟨q2,hu2,hq2,_⟩:=fndI_fnd (show fnd (ins n T) (parB p)=some u by rw [fnd_ins (by rw [hn];exact hne)];exact hfu)
               have h9:=rm_F0 a c T s st p d v u q w h hi.len hq hu ho n hn hg (by omega) q2 hq2 hu2 hi.sml (by omega)
               rw [set_upd (y:={ u with k:=u.k }) (hi.srt.ins (fun z hz=>by rw [hn];exact fnd_none hfa z hz)) hq2 rfl,upd_ins (by rw [hn];show p≠u.p;rw [hup];exact hne),hn] at h9
               exact h9)
            | (obtain ⟨n,hn⟩:∃ n:Nd,n=⟨p,d,0,st,st,s,0⟩:=⟨_,rfl⟩
               obtain ⟨q2,hu2,hq2,_⟩:=fndI_fnd (show fnd (ins n T) (parB p)=some u by rw [fnd_ins (by rw [hn];exact hne)];exact hfu)
               have h9:=rm_F1 a c T s st p d v u q w h hi.len hq hu ho n hn hg (by omega) q2 hq2 hu2 hi.sml (by omega)
               rw [set_upd (y:={ u with k:=u.k }) (hi.srt.ins (fun z hz=>by rw [hn];exact fnd_none hfa z hz)) hq2 rfl,upd_ins (by rw [hn];show p≠u.p;rw [hup];exact hne),hn] at h9
               exact h9))
   · rw [if_pos ho]
     exact rm_B a c T s st p d v f u q w h hi.len hq hu ho
end Go.Proofs.YtckmihplkhmpnaaGreatDoor
