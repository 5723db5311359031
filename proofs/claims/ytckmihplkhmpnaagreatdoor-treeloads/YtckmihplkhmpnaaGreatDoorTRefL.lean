import Derived.Test.YtckmihplkhmpnaaGreatDoorTRefQ
import Derived.Test.YtckmihplkhmpnaaGreatDoorTUntouched
namespace Go.Proofs.YtckmihplkhmpnaaGreatDoor
open Go.RowKit Go.Maps Go.WideShapes
set_option linter.unusedVariables false
set_option linter.unusedSimpArgs false
attribute [local go_sem ↓] Go.wp_at_zero Go.wp_at_succ
theorem slice_row {w:World} {B e s n:Nat} {v:Value} {xs:List Value} (h:w.ownsRow B e s v n xs):∃ a c,v=.slice a n c∧∀ x,a=some x→B≤x.block:=by
 have h':=h
 rcases h.2 with ⟨rfl,h0⟩ | ⟨g,cap,cur,rfl,_⟩
 · exact ⟨none,0,by rw [h0],fun x hx=>by cases hx⟩
 · refine ⟨_,_,rfl,fun x hx=>?_⟩
   obtain rfl:=Option.some.inj hx
   exact (h'.lt g rfl).1
theorem nds_row {w:World} {B n c:Nat} {a:Option Addr} {T:List Nd} (h:w.ownsRow B 26 7 (.slice a n c) n (T.flatMap Nd.cs)):NdsAt w a T:=by
 have h':=h
 rcases h.2 with ⟨e,h0⟩ | ⟨g,cap,cur,e,_⟩
 · have hl:=h.1
   intro i x hx
   exfalso
   have:T=[]:=by
    cases T with
    | nil=>rfl
    | cons y r =>
      subst h0
      rw [List.flatMap_cons] at hl
      simp at hl
   rw [this] at hx
   simp at hx
 · obtain ⟨rfl,_,rfl⟩:a=some ⟨g,0,none⟩∧n=n∧c=cap:=by simpa using e
   exact nds_of_row h'
theorem nds_put7a {w:World} {a:Option Addr} {zb:Nat} {M:List Nd} {x0 x1 x2 x3 x4 x5 x6:Value} (h:NdsAt w a M) (hne:∀ x,a=some x→x.block≠zb):NdsAt (put_7 w zb x0 x1 x2 x3 x4 x5 x6) a M:=fun i x hx=>by
 obtain ⟨b,f,ha,hlt,⟨cur,hk⟩,hc⟩:=h i x hx
 exact ⟨b,f,ha,by simpa [put_7] using hlt,⟨cur,fillO_7 hk (hne _ ha)⟩,fun j v hv=>cellO_7 (hc j v hv) (hne _ ha)⟩
theorem OneE.chg {w w':World} {M:List Nd} {a:Option Addr} {N cb:Nat} {p d cp cd:ByteArray} {v m ch o ck cv:Int} (hN:M.length=N) (c:Nat) (h:NdsAt w' a M) (hC:w'.heap[cb]? = some (.cells #[.int .i64 ck,.string cp,.string cd,.int .i64 cv] 69 (0,0))) (hb:Below w.heap.size w w') :
  OneE w (0,M,⟨p,d,v,m,ch,o,[]⟩,[⟨ck,cp,cd,cv⟩]) (.returned (.tuple #[.slice a N c,resV p d v m ch o (.slice none 0 0),.slice (some ⟨cb,0,none⟩) 1 1,.int .i64 0])) w':=by
 refine ⟨a,c,none,0,some ⟨cb,0,none⟩,1,by rw [hN];rfl,h,World.ownsRow_nil _ _ _ _,fun i x hx=>?_,hb⟩
 obtain ⟨rfl,rfl⟩:i=0∧x=⟨ck,cp,cd,cv⟩:=by
  cases i with
  | zero=>exact ⟨rfl,by simpa using hx.symm⟩
  | succ i=>simp at hx
 obtain ⟨c0,c1,c2,c3⟩:=cells_4 hC
 refine ⟨cb,0,rfl,(Array.getElem?_eq_some_iff.1 hC).1,⟨_,hC⟩,fun j v hv=>?_⟩
 have hj:j<4:=by have:=(List.getElem?_eq_some_iff.1 hv).1;simpa using this
 rcases (show j=0∨j=1∨j=2∨j=3 by omega) with rfl | rfl | rfl | rfl
 · obtain rfl:Value.int .i64 ck=v:=by simpa using hv
   exact c0
 · obtain rfl:Value.string cp=v:=by simpa using hv
   exact c1
 · obtain rfl:Value.string cd=v:=by simpa using hv
   exact c2
 · obtain rfl:Value.int .i64 cv=v:=by simpa using hv
   exact c3
set_option maxHeartbeats 8000000 in
set_option maxRecDepth 100000 in
theorem ro_dropm (a:Option Addr) (c:Nat) (T:List Nd) (s st:Int) (p d:ByteArray) (v f:Int) (u:Nd) (q:Nat) (w:World) (h:NdsAt w a T) (hT:T.length≤64) (hm:malC s 3 p d f=0) (hq:T[q]? = some u) (hu:fndI T p=q) (hv:(v != -1)=false) (hkd:kidsR T u.p=[]) :
  Calls Tryz.prog 47 #[.slice a T.length c,.int .i64 s,.int .i64 st,opV 3 p d v f] w (OneE w (0,T.eraseIdx q,⟨u.p,⟨#[]⟩,0,0,0,0,[]⟩,[⟨3,u.p,⟨#[]⟩,u.v⟩])):=by
 have HKI:Hid (∀ W,Below w.heap.size w W→Calls Tryz.prog 75 #[.slice a T.length c,.string u.p] W fun e w'=>∃ v,e=.returned v∧w'.ownsRow W.heap.size 9 1 v 0 []∧Below W.heap.size W w'):=fun W hb=>by have h9:=refKids_any a c T u.p W (h.below hb) (by omega);rw [hkd] at h9;exact h9
 clear hkd
 obtain ⟨E,hE⟩:∃ E,T.eraseIdx q=E:=⟨_,rfl⟩
 have HWO:Hid (∀ W,Below w.heap.size w W→Calls Tryz.prog 74 #[.slice a T.length c,.int .i64 q] W fun e w'=>∃ v,e=.returned v∧w'.ownsRow W.heap.size 26 7 v E.length (E.flatMap Nd.cs)∧Below W.heap.size W w'):=fun W hb=>by rw [← hE];exact refWithout_any a c T q W (h.below hb) (by omega) (List.getElem?_eq_some_iff.1 hq).1
 rw [hE]
 clear hE
 have H:Hid (NdsAt w a T):=h
 have HST:Hid (∀ W,_):=fun W=>refStatic_any s (3) p d v f W
 have HF:Hid (∀ W,Below w.heap.size w W→∀ x,Calls Tryz.prog 36 #[.slice a T.length c,.string x] W fun e w'=>e=.returned (.int .i64 (fndI T x))∧w'=W):=fun W hb x=>refFind_any a c T x W (h.below hb) (by omega)
 obtain ⟨mc,hmc⟩:∃ mc,malC s (3) p d f=mc:=⟨_,rfl⟩
 rw [hmc] at HST hm
 obtain ⟨N,hN⟩:∃ N,T.length=N:=⟨_,rfl⟩
 have HN:Hid (T.length=N):=hN
 rw [hN] at HF hT HKI HWO ⊢
 subst hm
 have HU:Hid (fndI T p=(q:Int)):=hu
 have HQ:Hid (T[q]? = some u):=hq
 have hqN:q<N:=by rw [← hN];exact (List.getElem?_eq_some_iff.1 hq).1
 have hq0:¬ (q:Int)<0:=by omega
 obtain ⟨gb,gf,rfl⟩:=h.some hq
 clear hq hu
 clear h hN hmc
 go_enter Tryz.func47,Tryz.ntmps47
 go_upto_region 1 with fail
 obtain ⟨W2,hW2⟩:∃ x,(w.alloc (.cells #[.int .i64 (3),.string p,.string d,.int .i64 v,.int .i64 f] 66)).alloc (.cells #[.string ⟨#[]⟩,.string ⟨#[]⟩,.int .i64 0,.int .i64 0,.int .i64 0,.int .i64 0,.slice none 0 0] 103)=x:=⟨_,rfl⟩
 obtain ⟨ob,hob⟩:∃ x,w.heap.size=x:=⟨_,rfl⟩
 have HOB:Hid (w.heap.size=ob):=hob
 have HB2:Hid (Below w.heap.size w W2):=by rw [← hW2];exact ((Below.refl _ _).alloc (Nat.le_refl _) _).alloc (by simp) _
 have HO2:Hid (W2.heap[ob]? = some (.cells #[.int .i64 (3),.string p,.string d,.int .i64 v,.int .i64 f] 66 (0,0))):=by rw [← hW2,← hob];exact heap_alloc2_old _ _ _
 have HZ2:Hid (W2.heap[ob+1]? = some (.cells #[.string ⟨#[]⟩,.string ⟨#[]⟩,.int .i64 0,.int .i64 0,.int .i64 0,.int .i64 0,.slice none 0 0] 103 (0,0))):=by rw [← hW2,← hob];exact heap_alloc2_new _ _ _
 rw [hW2,hob]
 clear hW2 hob
 obtain ⟨o0,o1,o2,o3,o4⟩:=cells_5 HO2.out
 go_wp2_with fail
 refine Calls.mono (HST.out _) ?_
 rintro e w3 ⟨rfl,hb3⟩
 have HB3:Hid (Below w.heap.size w w3):=trans2 HB2.out hb3
 have HO3:Hid _:=kept_block hb3 HO2.out
 have HZ3:Hid _:=kept_block hb3 HZ2.out
 have hz3:ob+1<w3.heap.size:=(Array.getElem?_eq_some_iff.1 HZ3.out).1
 clear hb3 o0 o1 o2 o3 o4
 obtain ⟨o0,o1,o2,o3,o4⟩:=cells_5 HO3.out
 obtain ⟨b0,b1,b2,b3,b4,b5,b6⟩:=cells_7 HZ3.out
 have hfz:=free_7 HZ3.out
 have e1:((3:Int)==1)=false:=by simp
 go_wp2_with fail
 refine Calls.mono (HF.out _ HB3.out _) ?_
 rintro e w4 ⟨rfl,hw4⟩
 subst hw4
 rw [HU.out]
 obtain ⟨hgb,x0,x1,x2,x3,x4,x5,x6⟩:=(H.out.below HB3.out).cells HQ.out
 go_upto_region 10 with fail
 obtain ⟨w5,hw5⟩:∃ x,w4.alloc (.cells #[.string u.p,.string u.d,.int .i64 u.v,.int .i64 u.m,.int .i64 u.c,.int .i64 u.o,.int .i64 u.k] 26)=x:=⟨_,rfl⟩
 obtain ⟨nb,hnb⟩:∃ x,w4.heap.size=x:=⟨_,rfl⟩
 have hnz:ob+1<nb:=by omega
 have HB5:Hid (Below w.heap.size w w5):=by rw [← hw5];exact HB3.out.alloc (by have:=HB3.out.size;omega) _
 have HO5:Hid (w5.heap[ob]? = some (.cells #[.int .i64 (3),.string p,.string d,.int .i64 v,.int .i64 f] 66 (0,0))):=by rw [← hw5];exact new_old HO3.out _
 have HZ5:Hid (w5.heap[ob+1]? = some (.cells #[.string ⟨#[]⟩,.string ⟨#[]⟩,.int .i64 0,.int .i64 0,.int .i64 0,.int .i64 0,.slice none 0 0] 103 (0,0))):=by rw [← hw5];exact new_old HZ3.out _
 have HN5:Hid (w5.heap[nb]? = some (.cells #[.string u.p,.string u.d,.int .i64 u.v,.int .i64 u.m,.int .i64 u.c,.int .i64 u.o,.int .i64 u.k] 26 (0,0))):=by rw [← hw5,← hnb];exact heap_alloc_new _ _
 rw [hw5,hnb]
 clear hw5 hnb hz3 o0 o1 o2 o3 o4 b0 b1 b2 b3 b4 b5 b6 hfz x0 x1 x2 x3 x4 x5 x6 hgb
 obtain ⟨o0,o1,o2,o3,o4⟩:=cells_5 HO5.out
 obtain ⟨b0,b1,b2,b3,b4,b5,b6⟩:=cells_7 HZ5.out
 have hfz:=free_7 HZ5.out
 obtain ⟨n0,n1,n2,n3,n4,n5,n6⟩:=cells_7 HN5.out
 have HSH:Hid (∀ W,_):=fun W=>refShown_any u W
 go_upto_region 13 with (go_at_call 72;refine Calls.mono (HSH.out _) ?_;rintro e w6 ⟨rfl,hb6⟩
                         have HB6:Hid (Below w.heap.size w w6):=trans2 HB5.out hb6
                         have HO6:Hid _:=kept_block hb6 HO5.out
                         have HZ6:Hid _:=kept_block hb6 HZ5.out
                         have HN6:Hid _:=kept_block hb6 HN5.out
                         clear hb6 o0 o1 o2 o3 o4 b0 b1 b2 b3 b4 b5 b6 hfz n0 n1 n2 n3 n4 n5 n6)
 obtain ⟨w7,hw7⟩:∃ x,w6.alloc (.cells #[.string u.p,.string ⟨#[]⟩,.int .i64 u.v,.int .i64 u.m,.int .i64 u.c,.int .i64 u.o,.slice none 0 0] 103)=x:=⟨_,rfl⟩
 obtain ⟨rb,hrb⟩:∃ x,w6.heap.size=x:=⟨_,rfl⟩
 have hnl6:nb<w6.heap.size:=(Array.getElem?_eq_some_iff.1 HN6.out).1
 have hrz:nb<rb:=by omega
 have HB7:Hid (Below w.heap.size w w7):=by rw [← hw7];exact HB6.out.alloc (by have:=HB6.out.size;omega) _
 have HO7:Hid (w7.heap[ob]? = some (.cells #[.int .i64 (3),.string p,.string d,.int .i64 v,.int .i64 f] 66 (0,0))):=by rw [← hw7];exact new_old HO6.out _
 have HZ7:Hid (w7.heap[ob+1]? = some (.cells #[.string ⟨#[]⟩,.string ⟨#[]⟩,.int .i64 0,.int .i64 0,.int .i64 0,.int .i64 0,.slice none 0 0] 103 (0,0))):=by rw [← hw7];exact new_old HZ6.out _
 have HN7:Hid (w7.heap[nb]? = some (.cells #[.string u.p,.string u.d,.int .i64 u.v,.int .i64 u.m,.int .i64 u.c,.int .i64 u.o,.int .i64 u.k] 26 (0,0))):=by rw [← hw7];exact new_old HN6.out _
 have HR7:Hid (w7.heap[rb]? = some (.cells #[.string u.p,.string ⟨#[]⟩,.int .i64 u.v,.int .i64 u.m,.int .i64 u.c,.int .i64 u.o,.slice none 0 0] 103 (0,0))):=by rw [← hw7,← hrb];exact heap_alloc_new _ _
 rw [hw7,hrb]
 clear hw7 hrb hnl6
 obtain ⟨o0,o1,o2,o3,o4⟩:=cells_5 HO7.out
 obtain ⟨b0,b1,b2,b3,b4,b5,b6⟩:=cells_7 HZ7.out
 have hfz:=free_7 HZ7.out
 obtain ⟨n0,n1,n2,n3,n4,n5,n6⟩:=cells_7 HN7.out
 have hfn:=free_7 HN7.out
 go_upto_region 26 with (go_at_call 75;refine Calls.mono (HKI.out _ HB7.out) ?_;rintro e w8 ⟨kv,rfl,hrow,hb8⟩
                         have HBb:Hid (Below w.heap.size w w8):=trans2 HB7.out hb8
                         have HZb:Hid _:=kept_block hb8 HZ7.out
                         have HNb:Hid _:=kept_block hb8 HN7.out
                         obtain ⟨ka,kc,rfl⟩:∃ a c,kv=.slice a 0 c:=by
                          rcases hrow.2 with ⟨rfl,h0⟩ | ⟨g,cap,cur,rfl,_⟩
                          · exact ⟨_,_,rfl⟩
                          · exact ⟨_,_,rfl⟩
                         clear hb8 hrow b0 b1 b2 b3 b4 b5 b6 hfz n0 n1 n2 n3 n4 n5 n6 hfn o0 o1 o2 o3 o4)
 obtain ⟨b0,b1,b2,b3,b4,b5,b6⟩:=cells_7 HZb.out
 have hfz:=free_7 HZb.out
 obtain ⟨n0,n1,n2,n3,n4,n5,n6⟩:=cells_7 HNb.out
 have hne:nb≠ob+1:=by omega
 have hnl:nb<w8.heap.size:=(Array.getElem?_eq_some_iff.1 HNb.out).1
 have HZL:Hid (ob+1<w8.heap.size):=(show ob+1<w8.heap.size by omega)
 have q3:nb≠w8.heap.size:=by omega
 have q4:ob+1≠w8.heap.size:=by omega
 go_region_held3 (fun w'=>w'.cell? ⟨nb,0,none⟩=some (.string u.p)∧w'.cell? ⟨nb,2,none⟩=some (.int .i64 u.v)) (first | (simp only [World.cell?_drew,n0,n2,and_self];done) | (simp only [cellN hne,World.cell?_drew,n0,n2,and_self];done) | (simp only [cellA,World.size_setCell,World.size_drew,hnl,cellN hne,World.cell?_drew,n0,n2,and_self];done) | go_keep)
  (first
    | (go_at_call 74;refine Calls.mono (HWO.out _ (below_drew HBb.out)) ?_;rintro e w9 ⟨mv,rfl,hrow,hbn⟩
       have hbn':=of_drew hbn
       have HBn:Hid (Below w.heap.size w w9):=trans2 HBb.out hbn'
       have HNn:Hid _:=kept_block hbn' HNb.out
       have HZn:Hid _:=kept_block hbn' HZb.out
       obtain ⟨ga,gc,rfl,hga⟩:=slice_row hrow
       have HRn:Hid (NdsAt w9 ga E):=nds_row hrow
       have HGA:Hid (∀ x,ga=some x→w8.heap.size≤x.block):=fun x hx=>Nat.le_trans (by simp) (hga x hx)
       clear hrow hga
       clear hbn hbn'
       clear n0 n1 n2 n3 n4 n5 n6 b0 b1 b2 b3 b4 b5 b6 hfz
       obtain ⟨n0,n1,n2,n3,n4,n5,n6⟩:=cells_7 HNn.out
       obtain ⟨b0,b1,b2,b3,b4,b5,b6⟩:=cells_7 HZn.out
       have hfz:=free_7 HZn.out
       clear hnl
       have hnl:nb<w9.heap.size:=(Array.getElem?_eq_some_iff.1 HNn.out).1
       have hzl:ob+1<w9.heap.size:=(Array.getElem?_eq_some_iff.1 HZn.out).1
       clear q3 q4
       have q3:nb≠w9.heap.size:=by omega
       have q4:ob+1≠w9.heap.size:=by omega)
    | (go_at_call 74;refine Calls.mono (HWO.out _ (below_drew (HBb.out.alloc (by have:=HBb.out.size;omega) _))) ?_;rintro e w9 ⟨mv,rfl,hrow,hbn⟩
       have hbn':=of_drew hbn
       have HBn:Hid (Below w.heap.size w w9):=trans2 (HBb.out.alloc (by have:=HBb.out.size;omega) _) hbn'
       have HNn:Hid _:=kept_block hbn' (new_old HNb.out _)
       have HZn:Hid _:=kept_block hbn' (new_old HZb.out _)
       have HCn:Hid _:=kept_block hbn' (heap_alloc_new _ _)
       obtain ⟨ga,gc,rfl,hga⟩:=slice_row hrow
       have HRn:Hid (NdsAt w9 ga E):=nds_row hrow
       have HGA:Hid (∀ x,ga=some x→w8.heap.size≤x.block):=fun x hx=>Nat.le_trans (by simp) (hga x hx)
       clear hrow hga
       clear hbn hbn'
       clear n0 n1 n2 n3 n4 n5 n6 b0 b1 b2 b3 b4 b5 b6 hfz
       obtain ⟨n0,n1,n2,n3,n4,n5,n6⟩:=cells_7 HNn.out
       obtain ⟨b0,b1,b2,b3,b4,b5,b6⟩:=cells_7 HZn.out
       have hfz:=free_7 HZn.out
       clear hnl
       have hnl:nb<w9.heap.size:=(Array.getElem?_eq_some_iff.1 HNn.out).1
       have hzl:ob+1<w9.heap.size:=(Array.getElem?_eq_some_iff.1 HZn.out).1
       clear q3 q4
       have q3:nb≠w9.heap.size:=by omega
       have q4:ob+1≠w9.heap.size:=by omega))
 · go_wp2_with fail
   exact bodyPost_ret (results_4c rfl _ _ (ob+1) 103 #[.string u.p,.string ⟨#[]⟩,.int .i64 0,.int .i64 0,.int .i64 0,.int .i64 0,.slice none 0 0] (0,0) _ (.slice ga E.length gc) (.slice (some ⟨w9.heap.size,0,none⟩) 1 1) (.int .i64 0) rfl rfl rfl rfl (new_old (fill_7 HZn.out) _) Tryz.underlying103 rfl (by kernel_rfl)) rfl (OneE.chg rfl gc ((nds_put7a HRn.out (fun x hx=>by have:=HGA.out x hx;have:=HZL.out;omega)).below ((Below.refl _ _).alloc (Nat.le_refl _) _)) (new_at (by simp [put_7]) _) ((fillB_7 HBn.out (by rw [HOB.out];omega)).alloc (by have:=HBn.out.size;simp [put_7];omega) _))
 · go_wp2_with fail
   exact bodyPost_ret (results_4c rfl _ _ (ob+1) 103 #[.string u.p,.string ⟨#[]⟩,.int .i64 0,.int .i64 0,.int .i64 0,.int .i64 0,.slice none 0 0] (0,0) _ (.slice ga E.length gc) (.slice (some ⟨w9.heap.size,0,none⟩) 1 1) (.int .i64 0) rfl rfl rfl rfl (new_old (fill_7 HZn.out) _) Tryz.underlying103 rfl (by kernel_rfl)) rfl (OneE.chg rfl gc ((nds_put7a HRn.out (fun x hx=>by have:=HGA.out x hx;have:=HZL.out;omega)).below ((Below.refl _ _).alloc (Nat.le_refl _) _)) (new_at (by simp [put_7]) _) ((fillB_7 HBn.out (by rw [HOB.out];omega)).alloc (by have:=HBn.out.size;simp [put_7];omega) _))
 · go_wp2_with fail
   exact bodyPost_ret (results_4c rfl _ _ (ob+1) 103 #[.string u.p,.string ⟨#[]⟩,.int .i64 0,.int .i64 0,.int .i64 0,.int .i64 0,.slice none 0 0] (0,0) _ (.slice ga E.length gc) (.slice (some ⟨w8.heap.size,0,none⟩) 1 1) (.int .i64 0) rfl rfl rfl rfl (fill_7 HZn.out) Tryz.underlying103 rfl (by kernel_rfl)) rfl (OneE.chg rfl gc (nds_put7a HRn.out (fun x hx=>by have:=HGA.out x hx;have:=HZL.out;omega)) (fillO_7 HCn.out (by have:=HZL.out;omega)) (fillB_7 HBn.out (by rw [HOB.out];omega)))
set_option maxHeartbeats 8000000 in
set_option maxRecDepth 100000 in
theorem ro_drope (a:Option Addr) (c:Nat) (T:List Nd) (s st:Int) (p d:ByteArray) (v f:Int) (u:Nd) (q:Nat) (w:World) (h:NdsAt w a T) (hT:T.length≤64) (hm:malC s 3 p d f=0) (hq:T[q]? = some u) (hu:fndI T p=q) (hv:(v != -1)=true) (hv2:(v != u.v)=false) (hkd:kidsR T u.p=[]) :
  Calls Tryz.prog 47 #[.slice a T.length c,.int .i64 s,.int .i64 st,opV 3 p d v f] w (OneE w (0,T.eraseIdx q,⟨u.p,⟨#[]⟩,0,0,0,0,[]⟩,[⟨3,u.p,⟨#[]⟩,u.v⟩])):=by
 have HKI:Hid (∀ W,Below w.heap.size w W→Calls Tryz.prog 75 #[.slice a T.length c,.string u.p] W fun e w'=>∃ v,e=.returned v∧w'.ownsRow W.heap.size 9 1 v 0 []∧Below W.heap.size W w'):=fun W hb=>by have h9:=refKids_any a c T u.p W (h.below hb) (by omega);rw [hkd] at h9;exact h9
 clear hkd
 obtain ⟨E,hE⟩:∃ E,T.eraseIdx q=E:=⟨_,rfl⟩
 have HWO:Hid (∀ W,Below w.heap.size w W→Calls Tryz.prog 74 #[.slice a T.length c,.int .i64 q] W fun e w'=>∃ v,e=.returned v∧w'.ownsRow W.heap.size 26 7 v E.length (E.flatMap Nd.cs)∧Below W.heap.size W w'):=fun W hb=>by rw [← hE];exact refWithout_any a c T q W (h.below hb) (by omega) (List.getElem?_eq_some_iff.1 hq).1
 rw [hE]
 clear hE
 have H:Hid (NdsAt w a T):=h
 have HST:Hid (∀ W,_):=fun W=>refStatic_any s (3) p d v f W
 have HF:Hid (∀ W,Below w.heap.size w W→∀ x,Calls Tryz.prog 36 #[.slice a T.length c,.string x] W fun e w'=>e=.returned (.int .i64 (fndI T x))∧w'=W):=fun W hb x=>refFind_any a c T x W (h.below hb) (by omega)
 obtain ⟨mc,hmc⟩:∃ mc,malC s (3) p d f=mc:=⟨_,rfl⟩
 rw [hmc] at HST hm
 obtain ⟨N,hN⟩:∃ N,T.length=N:=⟨_,rfl⟩
 have HN:Hid (T.length=N):=hN
 rw [hN] at HF hT HKI HWO ⊢
 subst hm
 have HU:Hid (fndI T p=(q:Int)):=hu
 have HQ:Hid (T[q]? = some u):=hq
 have hqN:q<N:=by rw [← hN];exact (List.getElem?_eq_some_iff.1 hq).1
 have hq0:¬ (q:Int)<0:=by omega
 obtain ⟨gb,gf,rfl⟩:=h.some hq
 clear hq hu
 clear h hN hmc
 go_enter Tryz.func47,Tryz.ntmps47
 go_upto_region 1 with fail
 obtain ⟨W2,hW2⟩:∃ x,(w.alloc (.cells #[.int .i64 (3),.string p,.string d,.int .i64 v,.int .i64 f] 66)).alloc (.cells #[.string ⟨#[]⟩,.string ⟨#[]⟩,.int .i64 0,.int .i64 0,.int .i64 0,.int .i64 0,.slice none 0 0] 103)=x:=⟨_,rfl⟩
 obtain ⟨ob,hob⟩:∃ x,w.heap.size=x:=⟨_,rfl⟩
 have HOB:Hid (w.heap.size=ob):=hob
 have HB2:Hid (Below w.heap.size w W2):=by rw [← hW2];exact ((Below.refl _ _).alloc (Nat.le_refl _) _).alloc (by simp) _
 have HO2:Hid (W2.heap[ob]? = some (.cells #[.int .i64 (3),.string p,.string d,.int .i64 v,.int .i64 f] 66 (0,0))):=by rw [← hW2,← hob];exact heap_alloc2_old _ _ _
 have HZ2:Hid (W2.heap[ob+1]? = some (.cells #[.string ⟨#[]⟩,.string ⟨#[]⟩,.int .i64 0,.int .i64 0,.int .i64 0,.int .i64 0,.slice none 0 0] 103 (0,0))):=by rw [← hW2,← hob];exact heap_alloc2_new _ _ _
 rw [hW2,hob]
 clear hW2 hob
 obtain ⟨o0,o1,o2,o3,o4⟩:=cells_5 HO2.out
 go_wp2_with fail
 refine Calls.mono (HST.out _) ?_
 rintro e w3 ⟨rfl,hb3⟩
 have HB3:Hid (Below w.heap.size w w3):=trans2 HB2.out hb3
 have HO3:Hid _:=kept_block hb3 HO2.out
 have HZ3:Hid _:=kept_block hb3 HZ2.out
 have hz3:ob+1<w3.heap.size:=(Array.getElem?_eq_some_iff.1 HZ3.out).1
 clear hb3 o0 o1 o2 o3 o4
 obtain ⟨o0,o1,o2,o3,o4⟩:=cells_5 HO3.out
 obtain ⟨b0,b1,b2,b3,b4,b5,b6⟩:=cells_7 HZ3.out
 have hfz:=free_7 HZ3.out
 have e1:((3:Int)==1)=false:=by simp
 go_wp2_with fail
 refine Calls.mono (HF.out _ HB3.out _) ?_
 rintro e w4 ⟨rfl,hw4⟩
 subst hw4
 rw [HU.out]
 obtain ⟨hgb,x0,x1,x2,x3,x4,x5,x6⟩:=(H.out.below HB3.out).cells HQ.out
 go_upto_region 10 with fail
 obtain ⟨w5,hw5⟩:∃ x,w4.alloc (.cells #[.string u.p,.string u.d,.int .i64 u.v,.int .i64 u.m,.int .i64 u.c,.int .i64 u.o,.int .i64 u.k] 26)=x:=⟨_,rfl⟩
 obtain ⟨nb,hnb⟩:∃ x,w4.heap.size=x:=⟨_,rfl⟩
 have hnz:ob+1<nb:=by omega
 have HB5:Hid (Below w.heap.size w w5):=by rw [← hw5];exact HB3.out.alloc (by have:=HB3.out.size;omega) _
 have HO5:Hid (w5.heap[ob]? = some (.cells #[.int .i64 (3),.string p,.string d,.int .i64 v,.int .i64 f] 66 (0,0))):=by rw [← hw5];exact new_old HO3.out _
 have HZ5:Hid (w5.heap[ob+1]? = some (.cells #[.string ⟨#[]⟩,.string ⟨#[]⟩,.int .i64 0,.int .i64 0,.int .i64 0,.int .i64 0,.slice none 0 0] 103 (0,0))):=by rw [← hw5];exact new_old HZ3.out _
 have HN5:Hid (w5.heap[nb]? = some (.cells #[.string u.p,.string u.d,.int .i64 u.v,.int .i64 u.m,.int .i64 u.c,.int .i64 u.o,.int .i64 u.k] 26 (0,0))):=by rw [← hw5,← hnb];exact heap_alloc_new _ _
 rw [hw5,hnb]
 clear hw5 hnb hz3 o0 o1 o2 o3 o4 b0 b1 b2 b3 b4 b5 b6 hfz x0 x1 x2 x3 x4 x5 x6 hgb
 obtain ⟨o0,o1,o2,o3,o4⟩:=cells_5 HO5.out
 obtain ⟨b0,b1,b2,b3,b4,b5,b6⟩:=cells_7 HZ5.out
 have hfz:=free_7 HZ5.out
 obtain ⟨n0,n1,n2,n3,n4,n5,n6⟩:=cells_7 HN5.out
 have HSH:Hid (∀ W,_):=fun W=>refShown_any u W
 go_upto_region 13 with (go_at_call 72;refine Calls.mono (HSH.out _) ?_;rintro e w6 ⟨rfl,hb6⟩
                         have HB6:Hid (Below w.heap.size w w6):=trans2 HB5.out hb6
                         have HO6:Hid _:=kept_block hb6 HO5.out
                         have HZ6:Hid _:=kept_block hb6 HZ5.out
                         have HN6:Hid _:=kept_block hb6 HN5.out
                         clear hb6 o0 o1 o2 o3 o4 b0 b1 b2 b3 b4 b5 b6 hfz n0 n1 n2 n3 n4 n5 n6)
 obtain ⟨w7,hw7⟩:∃ x,w6.alloc (.cells #[.string u.p,.string ⟨#[]⟩,.int .i64 u.v,.int .i64 u.m,.int .i64 u.c,.int .i64 u.o,.slice none 0 0] 103)=x:=⟨_,rfl⟩
 obtain ⟨rb,hrb⟩:∃ x,w6.heap.size=x:=⟨_,rfl⟩
 have hnl6:nb<w6.heap.size:=(Array.getElem?_eq_some_iff.1 HN6.out).1
 have hrz:nb<rb:=by omega
 have HB7:Hid (Below w.heap.size w w7):=by rw [← hw7];exact HB6.out.alloc (by have:=HB6.out.size;omega) _
 have HO7:Hid (w7.heap[ob]? = some (.cells #[.int .i64 (3),.string p,.string d,.int .i64 v,.int .i64 f] 66 (0,0))):=by rw [← hw7];exact new_old HO6.out _
 have HZ7:Hid (w7.heap[ob+1]? = some (.cells #[.string ⟨#[]⟩,.string ⟨#[]⟩,.int .i64 0,.int .i64 0,.int .i64 0,.int .i64 0,.slice none 0 0] 103 (0,0))):=by rw [← hw7];exact new_old HZ6.out _
 have HN7:Hid (w7.heap[nb]? = some (.cells #[.string u.p,.string u.d,.int .i64 u.v,.int .i64 u.m,.int .i64 u.c,.int .i64 u.o,.int .i64 u.k] 26 (0,0))):=by rw [← hw7];exact new_old HN6.out _
 have HR7:Hid (w7.heap[rb]? = some (.cells #[.string u.p,.string ⟨#[]⟩,.int .i64 u.v,.int .i64 u.m,.int .i64 u.c,.int .i64 u.o,.slice none 0 0] 103 (0,0))):=by rw [← hw7,← hrb];exact heap_alloc_new _ _
 rw [hw7,hrb]
 clear hw7 hrb hnl6
 obtain ⟨o0,o1,o2,o3,o4⟩:=cells_5 HO7.out
 obtain ⟨b0,b1,b2,b3,b4,b5,b6⟩:=cells_7 HZ7.out
 have hfz:=free_7 HZ7.out
 obtain ⟨n0,n1,n2,n3,n4,n5,n6⟩:=cells_7 HN7.out
 have hfn:=free_7 HN7.out
 go_upto_region 26 with (go_at_call 75;refine Calls.mono (HKI.out _ HB7.out) ?_;rintro e w8 ⟨kv,rfl,hrow,hb8⟩
                         have HBb:Hid (Below w.heap.size w w8):=trans2 HB7.out hb8
                         have HZb:Hid _:=kept_block hb8 HZ7.out
                         have HNb:Hid _:=kept_block hb8 HN7.out
                         obtain ⟨ka,kc,rfl⟩:∃ a c,kv=.slice a 0 c:=by
                          rcases hrow.2 with ⟨rfl,h0⟩ | ⟨g,cap,cur,rfl,_⟩
                          · exact ⟨_,_,rfl⟩
                          · exact ⟨_,_,rfl⟩
                         clear hb8 hrow b0 b1 b2 b3 b4 b5 b6 hfz n0 n1 n2 n3 n4 n5 n6 hfn o0 o1 o2 o3 o4)
 obtain ⟨b0,b1,b2,b3,b4,b5,b6⟩:=cells_7 HZb.out
 have hfz:=free_7 HZb.out
 obtain ⟨n0,n1,n2,n3,n4,n5,n6⟩:=cells_7 HNb.out
 have hne:nb≠ob+1:=by omega
 have hnl:nb<w8.heap.size:=(Array.getElem?_eq_some_iff.1 HNb.out).1
 have HZL:Hid (ob+1<w8.heap.size):=(show ob+1<w8.heap.size by omega)
 have q3:nb≠w8.heap.size:=by omega
 have q4:ob+1≠w8.heap.size:=by omega
 go_region_held3 (fun w'=>w'.cell? ⟨nb,0,none⟩=some (.string u.p)∧w'.cell? ⟨nb,2,none⟩=some (.int .i64 u.v)) (first | (simp only [World.cell?_drew,n0,n2,and_self];done) | (simp only [cellN hne,World.cell?_drew,n0,n2,and_self];done) | (simp only [cellA,World.size_setCell,World.size_drew,hnl,cellN hne,World.cell?_drew,n0,n2,and_self];done) | go_keep)
  (first
    | (go_at_call 74;refine Calls.mono (HWO.out _ (below_drew HBb.out)) ?_;rintro e w9 ⟨mv,rfl,hrow,hbn⟩
       have hbn':=of_drew hbn
       have HBn:Hid (Below w.heap.size w w9):=trans2 HBb.out hbn'
       have HNn:Hid _:=kept_block hbn' HNb.out
       have HZn:Hid _:=kept_block hbn' HZb.out
       obtain ⟨ga,gc,rfl,hga⟩:=slice_row hrow
       have HRn:Hid (NdsAt w9 ga E):=nds_row hrow
       have HGA:Hid (∀ x,ga=some x→w8.heap.size≤x.block):=fun x hx=>Nat.le_trans (by simp) (hga x hx)
       clear hrow hga
       clear hbn hbn'
       clear n0 n1 n2 n3 n4 n5 n6 b0 b1 b2 b3 b4 b5 b6 hfz
       obtain ⟨n0,n1,n2,n3,n4,n5,n6⟩:=cells_7 HNn.out
       obtain ⟨b0,b1,b2,b3,b4,b5,b6⟩:=cells_7 HZn.out
       have hfz:=free_7 HZn.out
       clear hnl
       have hnl:nb<w9.heap.size:=(Array.getElem?_eq_some_iff.1 HNn.out).1
       have hzl:ob+1<w9.heap.size:=(Array.getElem?_eq_some_iff.1 HZn.out).1
       clear q3 q4
       have q3:nb≠w9.heap.size:=by omega
       have q4:ob+1≠w9.heap.size:=by omega)
    | (go_at_call 74;refine Calls.mono (HWO.out _ (below_drew (HBb.out.alloc (by have:=HBb.out.size;omega) _))) ?_;rintro e w9 ⟨mv,rfl,hrow,hbn⟩
       have hbn':=of_drew hbn
       have HBn:Hid (Below w.heap.size w w9):=trans2 (HBb.out.alloc (by have:=HBb.out.size;omega) _) hbn'
       have HNn:Hid _:=kept_block hbn' (new_old HNb.out _)
       have HZn:Hid _:=kept_block hbn' (new_old HZb.out _)
       have HCn:Hid _:=kept_block hbn' (heap_alloc_new _ _)
       obtain ⟨ga,gc,rfl,hga⟩:=slice_row hrow
       have HRn:Hid (NdsAt w9 ga E):=nds_row hrow
       have HGA:Hid (∀ x,ga=some x→w8.heap.size≤x.block):=fun x hx=>Nat.le_trans (by simp) (hga x hx)
       clear hrow hga
       clear hbn hbn'
       clear n0 n1 n2 n3 n4 n5 n6 b0 b1 b2 b3 b4 b5 b6 hfz
       obtain ⟨n0,n1,n2,n3,n4,n5,n6⟩:=cells_7 HNn.out
       obtain ⟨b0,b1,b2,b3,b4,b5,b6⟩:=cells_7 HZn.out
       have hfz:=free_7 HZn.out
       clear hnl
       have hnl:nb<w9.heap.size:=(Array.getElem?_eq_some_iff.1 HNn.out).1
       have hzl:ob+1<w9.heap.size:=(Array.getElem?_eq_some_iff.1 HZn.out).1
       clear q3 q4
       have q3:nb≠w9.heap.size:=by omega
       have q4:ob+1≠w9.heap.size:=by omega))
 · go_wp2_with fail
   exact bodyPost_ret (results_4c rfl _ _ (ob+1) 103 #[.string u.p,.string ⟨#[]⟩,.int .i64 0,.int .i64 0,.int .i64 0,.int .i64 0,.slice none 0 0] (0,0) _ (.slice ga E.length gc) (.slice (some ⟨w9.heap.size,0,none⟩) 1 1) (.int .i64 0) rfl rfl rfl rfl (new_old (fill_7 HZn.out) _) Tryz.underlying103 rfl (by kernel_rfl)) rfl (OneE.chg rfl gc ((nds_put7a HRn.out (fun x hx=>by have:=HGA.out x hx;have:=HZL.out;omega)).below ((Below.refl _ _).alloc (Nat.le_refl _) _)) (new_at (by simp [put_7]) _) ((fillB_7 HBn.out (by rw [HOB.out];omega)).alloc (by have:=HBn.out.size;simp [put_7];omega) _))
 · go_wp2_with fail
   exact bodyPost_ret (results_4c rfl _ _ (ob+1) 103 #[.string u.p,.string ⟨#[]⟩,.int .i64 0,.int .i64 0,.int .i64 0,.int .i64 0,.slice none 0 0] (0,0) _ (.slice ga E.length gc) (.slice (some ⟨w9.heap.size,0,none⟩) 1 1) (.int .i64 0) rfl rfl rfl rfl (new_old (fill_7 HZn.out) _) Tryz.underlying103 rfl (by kernel_rfl)) rfl (OneE.chg rfl gc ((nds_put7a HRn.out (fun x hx=>by have:=HGA.out x hx;have:=HZL.out;omega)).below ((Below.refl _ _).alloc (Nat.le_refl _) _)) (new_at (by simp [put_7]) _) ((fillB_7 HBn.out (by rw [HOB.out];omega)).alloc (by have:=HBn.out.size;simp [put_7];omega) _))
 · go_wp2_with fail
   exact bodyPost_ret (results_4c rfl _ _ (ob+1) 103 #[.string u.p,.string ⟨#[]⟩,.int .i64 0,.int .i64 0,.int .i64 0,.int .i64 0,.slice none 0 0] (0,0) _ (.slice ga E.length gc) (.slice (some ⟨w8.heap.size,0,none⟩) 1 1) (.int .i64 0) rfl rfl rfl rfl (fill_7 HZn.out) Tryz.underlying103 rfl (by kernel_rfl)) rfl (OneE.chg rfl gc (nds_put7a HRn.out (fun x hx=>by have:=HGA.out x hx;have:=HZL.out;omega)) (fillO_7 HCn.out (by have:=HZL.out;omega)) (fillB_7 HBn.out (by rw [HOB.out];omega)))
end Go.Proofs.YtckmihplkhmpnaaGreatDoor
namespace Go.Proofs.YtckmihplkhmpnaaGreatDoor
open Go.RowKit Go.Maps Go.WideShapes
set_option linter.unusedVariables false
set_option linter.unusedSimpArgs false
attribute [local go_sem ↓] Go.wp_at_zero Go.wp_at_succ
theorem nds_box {w:World} {a:Option Addr} {M:List Nd} {zb:Nat} {t:TypeId} {e0 e1:ByteArray} {z2 z3 z4 z5:Int} {x0 x1 x2 x3 x4 x5 x6:Value} (h:NdsAt w a M) (hz:w.heap[zb]? = some (.cells #[.string e0,.string e1,.int .i64 z2,.int .i64 z3,.int .i64 z4,.int .i64 z5,.slice none 0 0] t (0,0))):NdsAt (put_7 w zb x0 x1 x2 x3 x4 x5 x6) a M:=fun i x hx=>by
 obtain ⟨b,f,ha,hlt,⟨cur,hk⟩,hc⟩:=h i x hx
 have hne:b≠zb:=fun e=>by
  subst e
  have h6:=hc 6 _ rfl
  unfold World.cell? at h6
  rw [hz] at h6
  match f+i * 7,h6 with
  | 0,h6=>simp at h6
  | k+1,h6=>simp at h6
 exact ⟨b,f,ha,by simpa [put_7] using hlt,⟨cur,fillO_7 hk hne⟩,fun j v hv=>cellO_7 (hc j v hv) hne⟩
theorem ks_box {w:World} {v:Value} {n zb:Nat} {xs:List Value} {cs:Array Value} {x0 x1 x2 x3 x4 x5 x6:Value} (h:w.ownsRow 0 9 1 v n xs) (hz:w.heap[zb]? = some (.cells cs 103 (0,0))):(put_7 w zb x0 x1 x2 x3 x4 x5 x6).ownsRow 0 9 1 v n xs:=owns_chg h putC_7 (fun k hk e=>by
 obtain ⟨cur,hcur⟩:=owns_kind h hk
 rw [show k=zb from e,hz] at hcur
 simp at hcur)
theorem chs_box {w:World} {a:Option Addr} {M:List ChT} {zb:Nat} {t:TypeId} {e0 e1:ByteArray} {z2 z3 z4 z5:Int} {x0 x1 x2 x3 x4 x5 x6:Value} (h:ChsAt w a M) (hz:w.heap[zb]? = some (.cells #[.string e0,.string e1,.int .i64 z2,.int .i64 z3,.int .i64 z4,.int .i64 z5,.slice none 0 0] t (0,0))):ChsAt (put_7 w zb x0 x1 x2 x3 x4 x5 x6) a M:=fun i x hx=>by
 obtain ⟨b,f,ha,hlt,⟨cur,hk⟩,hc⟩:=h i x hx
 have hne:b≠zb:=fun e=>by
  subst e
  have h0:=hc 0 _ rfl
  have h1:=hc 1 _ rfl
  unfold World.cell? at h0 h1
  rw [hz] at h0 h1
  match f+i * 4,h0,h1 with
  | 0,h0,h1=>simp at h0
  | 1,h0,h1=>simp at h0
  | 2,h0,h1=>simp at h1
  | 3,h0,h1=>simp at h1
  | 4,h0,h1=>simp at h1
  | 5,h0,h1=>simp at h1
  | 6,h0,h1=>simp at h0
  | k+7,h0,h1=>simp at h0
 exact ⟨b,f,ha,by simpa [put_7] using hlt,⟨cur,fillO_7 hk hne⟩,fun j v hv=>cellO_7 (hc j v hv) hne⟩
theorem makeM_kids (T:List Nd) (s st:Int) (o:OpT):(makeM T s st o).2.2.1.kids=[]:=by
 unfold makeM
 split
 · rfl
 split
 · rfl
 split
 · rfl
 split
 · rfl
 split
 · rfl
 · rfl
set_option maxHeartbeats 8000000 in
set_option maxRecDepth 100000 in
theorem ro_make (a:Option Addr) (c:Nat) (T:List Nd) (s st:Int) (p d:ByteArray) (v f:Int) (w:World) (h:NdsAt w a T) (hT:T.length≤64) (hm:malC s 1 p d f=0) (hi:Inv T) :
  Calls Tryz.prog 47 #[.slice a T.length c,.int .i64 s,.int .i64 st,opV 1 p d v f] w (OneE w (makeM T s st ⟨1,p,d,v,f⟩)):=by
 have HMK:Hid (∀ W,Below w.heap.size w W→Calls Tryz.prog 71 #[.slice a T.length c,.int .i64 s,.int .i64 st,opV 1 p d v f] W (OneE W (makeM T s st ⟨1,p,d,v,f⟩))):=fun W hb=>refMade_any a c T s st ⟨1,p,d,v,f⟩ W (h.below hb) hi rfl hm
 have HKK:Hid ((makeM T s st ⟨1,p,d,v,f⟩).2.2.1.kids=[]):=makeM_kids _ _ _ _
 obtain ⟨MK,hMK⟩:∃ MK,makeM T s st ⟨1,p,d,v,f⟩=MK:=⟨_,rfl⟩
 rw [hMK] at HMK HKK ⊢
 clear hMK hi
 have H:Hid (NdsAt w a T):=h
 have HST:Hid (∀ W,_):=fun W=>refStatic_any s (1) p d v f W
 have HF:Hid (∀ W,Below w.heap.size w W→∀ x,Calls Tryz.prog 36 #[.slice a T.length c,.string x] W fun e w'=>e=.returned (.int .i64 (fndI T x))∧w'=W):=fun W hb x=>refFind_any a c T x W (h.below hb) (by omega)
 obtain ⟨mc,hmc⟩:∃ mc,malC s (1) p d f=mc:=⟨_,rfl⟩
 rw [hmc] at HST hm
 obtain ⟨N,hN⟩:∃ N,T.length=N:=⟨_,rfl⟩
 have HN:Hid (T.length=N):=hN
 rw [hN] at HF hT HMK ⊢
 subst hm
 clear h hN hmc
 go_enter Tryz.func47,Tryz.ntmps47
 go_upto_region 1 with fail
 obtain ⟨W2,hW2⟩:∃ x,(w.alloc (.cells #[.int .i64 (1),.string p,.string d,.int .i64 v,.int .i64 f] 66)).alloc (.cells #[.string ⟨#[]⟩,.string ⟨#[]⟩,.int .i64 0,.int .i64 0,.int .i64 0,.int .i64 0,.slice none 0 0] 103)=x:=⟨_,rfl⟩
 obtain ⟨ob,hob⟩:∃ x,w.heap.size=x:=⟨_,rfl⟩
 have HOB:Hid (w.heap.size=ob):=hob
 have HB2:Hid (Below w.heap.size w W2):=by rw [← hW2];exact ((Below.refl _ _).alloc (Nat.le_refl _) _).alloc (by simp) _
 have HO2:Hid (W2.heap[ob]? = some (.cells #[.int .i64 (1),.string p,.string d,.int .i64 v,.int .i64 f] 66 (0,0))):=by rw [← hW2,← hob];exact heap_alloc2_old _ _ _
 have HZ2:Hid (W2.heap[ob+1]? = some (.cells #[.string ⟨#[]⟩,.string ⟨#[]⟩,.int .i64 0,.int .i64 0,.int .i64 0,.int .i64 0,.slice none 0 0] 103 (0,0))):=by rw [← hW2,← hob];exact heap_alloc2_new _ _ _
 rw [hW2,hob]
 clear hW2 hob
 obtain ⟨o0,o1,o2,o3,o4⟩:=cells_5 HO2.out
 go_wp2_with fail
 refine Calls.mono (HST.out _) ?_
 rintro e w3 ⟨rfl,hb3⟩
 have HB3:Hid (Below w.heap.size w w3):=trans2 HB2.out hb3
 have HO3:Hid _:=kept_block hb3 HO2.out
 have HZ3:Hid _:=kept_block hb3 HZ2.out
 have hz3:ob+1<w3.heap.size:=(Array.getElem?_eq_some_iff.1 HZ3.out).1
 clear hb3 o0 o1 o2 o3 o4
 obtain ⟨o0,o1,o2,o3,o4⟩:=cells_5 HO3.out
 obtain ⟨b0,b1,b2,b3,b4,b5,b6⟩:=cells_7 HZ3.out
 have hfz:=free_7 HZ3.out
 go_wp2_with fail
 refine Calls.mono (HMK.out _ HB3.out) ?_
 rintro e w4 ⟨a4,c4,ka,kc,ca,cc,rfl,hn4,hk4,hc4,hb4⟩
 have HB4:Hid (Below w.heap.size w w4):=trans2 HB3.out hb4
 have HZ4:Hid _:=kept_block hb4 HZ3.out
 have HN4:Hid (NdsAt w4 a4 _):=hn4
 have HK4:Hid (w4.ownsRow 0 9 1 (.slice ka _ kc) _ _):=hk4
 have HC4:Hid (ChsAt w4 ca _):=hc4
 clear hb4 hn4 hk4 hc4 b0 b1 b2 b3 b4 b5 b6 hfz o0 o1 o2 o3 o4
 obtain ⟨b0,b1,b2,b3,b4,b5,b6⟩:=cells_7 HZ4.out
 have hfz:=free_7 HZ4.out
 go_wp2_with fail
 exact bodyPost_ret (results_4c rfl _ _ (ob+1) 103 _ (0,0) _ (.slice a4 MK.2.1.length c4) (.slice ca MK.2.2.2.length cc) (.int .i64 MK.1) rfl rfl rfl rfl (fill_7 HZ4.out) Tryz.underlying103 rfl (by kernel_rfl)) rfl ⟨a4,c4,ka,kc,ca,cc,rfl,nds_box HN4.out HZ4.out,ks_box HK4.out HZ4.out,chs_box HC4.out HZ4.out,fillB_7 HB4.out (by rw [HOB.out];omega)⟩
end Go.Proofs.YtckmihplkhmpnaaGreatDoor
namespace Go.Proofs.YtckmihplkhmpnaaGreatDoor
open Go.RowKit Go.Maps Go.WideShapes
set_option linter.unusedVariables false
set_option linter.unusedSimpArgs false
attribute [local go_sem ↓] Go.wp_at_zero Go.wp_at_succ
theorem below_drewR (w:World):Below w.heap.size w w.drew:=⟨rfl,rfl,rfl,Nat.le_refl _,fun _ _=>rfl⟩
theorem OneE.list {w w':World} {T:List Nd} {a ka:Option Addr} {N kc:Nat} {p d:ByteArray} {v m ch o:Int} {KL:List ByteArray} (hN:T.length=N) (c:Nat) (h:NdsAt w' a T) (hk:w'.ownsRow 0 9 1 (.slice ka KL.length kc) KL.length (KL.map Value.string)) (hb:Below w.heap.size w w') :
  OneE w (0,T,⟨p,d,v,m,ch,o,KL⟩,[]) (.returned (.tuple #[.slice a N c,resV p d v m ch o (.slice ka KL.length kc),.slice none 0 0,.int .i64 0])) w' :=
 ⟨a,c,ka,kc,none,0,by rw [hN];rfl,h,hk,ChsAt.nil,hb⟩
theorem lst_put7 {w:World} {B zb kc:Nat} {ka:Option Addr} {KL:List ByteArray} {x0 x1 x2 x3 x4 x5 x6:Value} (h:w.ownsRow B 9 1 (.slice ka KL.length kc) KL.length (KL.map Value.string)) (hz:zb<B):(put_7 w zb x0 x1 x2 x3 x4 x5 x6).drew.ownsRow 0 9 1 (.slice ka KL.length kc) KL.length (KL.map Value.string):=by
 have h1:(put_7 w zb x0 x1 x2 x3 x4 x5 x6).ownsRow B 9 1 (.slice ka KL.length kc) KL.length (KL.map Value.string):=owns_chg h putC_7 (fun k hk e=>by
  have:=(h.lt k hk).1
  have e':k=zb:=e
  omega)
 have h2:=owns_chg h1 (Chg.of_below (below_drewR _) (fun _=>False)) (fun _ _=>id)
 exact ⟨h2.1,h2.2.imp id (fun ⟨g,cap,cur,e1,e2,r⟩=>⟨g,cap,cur,e1,Nat.zero_le _,r⟩)⟩
set_option maxHeartbeats 8000000 in
set_option maxRecDepth 100000 in
theorem ro_list (a:Option Addr) (c:Nat) (T:List Nd) (s st:Int) (p d:ByteArray) (v f:Int) (u:Nd) (q:Nat) (w:World) (h:NdsAt w a T) (hT:T.length≤64) (hm:malC s 7 p d f=0) (hq:T[q]? = some u) (hu:fndI T p=q) :
  Calls Tryz.prog 47 #[.slice a T.length c,.int .i64 s,.int .i64 st,opV 7 p d v f] w (OneE w (0,T,⟨u.p,⟨#[]⟩,u.v,u.m,u.c,u.o,kidsR T u.p⟩,[])):=by
 have HKI:Hid (∀ W,Below w.heap.size w W→Calls Tryz.prog 75 #[.slice a T.length c,.string u.p] W fun e w'=>∃ v,e=.returned v∧w'.ownsRow W.heap.size 9 1 v (kidsR T u.p).length ((kidsR T u.p).map .string)∧Below W.heap.size W w'):=fun W hb=>refKids_any a c T u.p W (h.below hb) (by omega)
 obtain ⟨KL,hKL⟩:∃ KL,kidsR T u.p=KL:=⟨_,rfl⟩
 rw [hKL] at HKI ⊢
 clear hKL
 have H:Hid (NdsAt w a T):=h
 have HST:Hid (∀ W,_):=fun W=>refStatic_any s (7) p d v f W
 have HF:Hid (∀ W,Below w.heap.size w W→∀ x,Calls Tryz.prog 36 #[.slice a T.length c,.string x] W fun e w'=>e=.returned (.int .i64 (fndI T x))∧w'=W):=fun W hb x=>refFind_any a c T x W (h.below hb) (by omega)
 obtain ⟨mc,hmc⟩:∃ mc,malC s (7) p d f=mc:=⟨_,rfl⟩
 rw [hmc] at HST hm
 obtain ⟨N,hN⟩:∃ N,T.length=N:=⟨_,rfl⟩
 have HN:Hid (T.length=N):=hN
 rw [hN] at HF hT HKI ⊢
 subst hm
 have HU:Hid (fndI T p=(q:Int)):=hu
 have HQ:Hid (T[q]? = some u):=hq
 have hqN:q<N:=by rw [← hN];exact (List.getElem?_eq_some_iff.1 hq).1
 have hq0:¬ (q:Int)<0:=by omega
 obtain ⟨gb,gf,rfl⟩:=h.some hq
 clear hq hu
 clear h hN hmc
 go_enter Tryz.func47,Tryz.ntmps47
 go_upto_region 1 with fail
 obtain ⟨W2,hW2⟩:∃ x,(w.alloc (.cells #[.int .i64 (7),.string p,.string d,.int .i64 v,.int .i64 f] 66)).alloc (.cells #[.string ⟨#[]⟩,.string ⟨#[]⟩,.int .i64 0,.int .i64 0,.int .i64 0,.int .i64 0,.slice none 0 0] 103)=x:=⟨_,rfl⟩
 obtain ⟨ob,hob⟩:∃ x,w.heap.size=x:=⟨_,rfl⟩
 have HOB:Hid (w.heap.size=ob):=hob
 have HB2:Hid (Below w.heap.size w W2):=by rw [← hW2];exact ((Below.refl _ _).alloc (Nat.le_refl _) _).alloc (by simp) _
 have HO2:Hid (W2.heap[ob]? = some (.cells #[.int .i64 (7),.string p,.string d,.int .i64 v,.int .i64 f] 66 (0,0))):=by rw [← hW2,← hob];exact heap_alloc2_old _ _ _
 have HZ2:Hid (W2.heap[ob+1]? = some (.cells #[.string ⟨#[]⟩,.string ⟨#[]⟩,.int .i64 0,.int .i64 0,.int .i64 0,.int .i64 0,.slice none 0 0] 103 (0,0))):=by rw [← hW2,← hob];exact heap_alloc2_new _ _ _
 rw [hW2,hob]
 clear hW2 hob
 obtain ⟨o0,o1,o2,o3,o4⟩:=cells_5 HO2.out
 go_wp2_with fail
 refine Calls.mono (HST.out _) ?_
 rintro e w3 ⟨rfl,hb3⟩
 have HB3:Hid (Below w.heap.size w w3):=trans2 HB2.out hb3
 have HO3:Hid _:=kept_block hb3 HO2.out
 have HZ3:Hid _:=kept_block hb3 HZ2.out
 have hz3:ob+1<w3.heap.size:=(Array.getElem?_eq_some_iff.1 HZ3.out).1
 clear hb3 o0 o1 o2 o3 o4
 obtain ⟨o0,o1,o2,o3,o4⟩:=cells_5 HO3.out
 obtain ⟨b0,b1,b2,b3,b4,b5,b6⟩:=cells_7 HZ3.out
 have hfz:=free_7 HZ3.out
 have e1:((7:Int)==1)=false:=by simp
 go_wp2_with fail
 refine Calls.mono (HF.out _ HB3.out _) ?_
 rintro e w4 ⟨rfl,hw4⟩
 subst hw4
 rw [HU.out]
 obtain ⟨hgb,x0,x1,x2,x3,x4,x5,x6⟩:=(H.out.below HB3.out).cells HQ.out
 go_upto_region 10 with fail
 obtain ⟨w5,hw5⟩:∃ x,w4.alloc (.cells #[.string u.p,.string u.d,.int .i64 u.v,.int .i64 u.m,.int .i64 u.c,.int .i64 u.o,.int .i64 u.k] 26)=x:=⟨_,rfl⟩
 obtain ⟨nb,hnb⟩:∃ x,w4.heap.size=x:=⟨_,rfl⟩
 have hnz:ob+1<nb:=by omega
 have HB5:Hid (Below w.heap.size w w5):=by rw [← hw5];exact HB3.out.alloc (by have:=HB3.out.size;omega) _
 have HO5:Hid (w5.heap[ob]? = some (.cells #[.int .i64 (7),.string p,.string d,.int .i64 v,.int .i64 f] 66 (0,0))):=by rw [← hw5];exact new_old HO3.out _
 have HZ5:Hid (w5.heap[ob+1]? = some (.cells #[.string ⟨#[]⟩,.string ⟨#[]⟩,.int .i64 0,.int .i64 0,.int .i64 0,.int .i64 0,.slice none 0 0] 103 (0,0))):=by rw [← hw5];exact new_old HZ3.out _
 have HN5:Hid (w5.heap[nb]? = some (.cells #[.string u.p,.string u.d,.int .i64 u.v,.int .i64 u.m,.int .i64 u.c,.int .i64 u.o,.int .i64 u.k] 26 (0,0))):=by rw [← hw5,← hnb];exact heap_alloc_new _ _
 rw [hw5,hnb]
 clear hw5 hnb hz3 o0 o1 o2 o3 o4 b0 b1 b2 b3 b4 b5 b6 hfz x0 x1 x2 x3 x4 x5 x6 hgb
 obtain ⟨o0,o1,o2,o3,o4⟩:=cells_5 HO5.out
 obtain ⟨b0,b1,b2,b3,b4,b5,b6⟩:=cells_7 HZ5.out
 have hfz:=free_7 HZ5.out
 obtain ⟨n0,n1,n2,n3,n4,n5,n6⟩:=cells_7 HN5.out
 have HSH:Hid (∀ W,_):=fun W=>refShown_any u W
 go_upto_region 13 with (go_at_call 72;refine Calls.mono (HSH.out _) ?_;rintro e w6 ⟨rfl,hb6⟩
                         have HB6:Hid (Below w.heap.size w w6):=trans2 HB5.out hb6
                         have HO6:Hid _:=kept_block hb6 HO5.out
                         have HZ6:Hid _:=kept_block hb6 HZ5.out
                         have HN6:Hid _:=kept_block hb6 HN5.out
                         clear hb6 o0 o1 o2 o3 o4 b0 b1 b2 b3 b4 b5 b6 hfz n0 n1 n2 n3 n4 n5 n6)
 obtain ⟨w7,hw7⟩:∃ x,w6.alloc (.cells #[.string u.p,.string ⟨#[]⟩,.int .i64 u.v,.int .i64 u.m,.int .i64 u.c,.int .i64 u.o,.slice none 0 0] 103)=x:=⟨_,rfl⟩
 obtain ⟨rb,hrb⟩:∃ x,w6.heap.size=x:=⟨_,rfl⟩
 have hnl6:nb<w6.heap.size:=(Array.getElem?_eq_some_iff.1 HN6.out).1
 have hrz:nb<rb:=by omega
 have HB7:Hid (Below w.heap.size w w7):=by rw [← hw7];exact HB6.out.alloc (by have:=HB6.out.size;omega) _
 have HO7:Hid (w7.heap[ob]? = some (.cells #[.int .i64 (7),.string p,.string d,.int .i64 v,.int .i64 f] 66 (0,0))):=by rw [← hw7];exact new_old HO6.out _
 have HZ7:Hid (w7.heap[ob+1]? = some (.cells #[.string ⟨#[]⟩,.string ⟨#[]⟩,.int .i64 0,.int .i64 0,.int .i64 0,.int .i64 0,.slice none 0 0] 103 (0,0))):=by rw [← hw7];exact new_old HZ6.out _
 have HN7:Hid (w7.heap[nb]? = some (.cells #[.string u.p,.string u.d,.int .i64 u.v,.int .i64 u.m,.int .i64 u.c,.int .i64 u.o,.int .i64 u.k] 26 (0,0))):=by rw [← hw7];exact new_old HN6.out _
 have HR7:Hid (w7.heap[rb]? = some (.cells #[.string u.p,.string ⟨#[]⟩,.int .i64 u.v,.int .i64 u.m,.int .i64 u.c,.int .i64 u.o,.slice none 0 0] 103 (0,0))):=by rw [← hw7,← hrb];exact heap_alloc_new _ _
 rw [hw7,hrb]
 clear hw7 hrb hnl6
 obtain ⟨o0,o1,o2,o3,o4⟩:=cells_5 HO7.out
 obtain ⟨b0,b1,b2,b3,b4,b5,b6⟩:=cells_7 HZ7.out
 have hfz:=free_7 HZ7.out
 obtain ⟨n0,n1,n2,n3,n4,n5,n6⟩:=cells_7 HN7.out
 have hfn:=free_7 HN7.out
 obtain ⟨r0,r1,r2,r3,r4,r5,r6⟩:=cells_7 HR7.out
 have hfr:=free_7 HR7.out
 go_upto_region 31 with (go_at_call 75;refine Calls.mono (HKI.out _ HB7.out) ?_;rintro e wk ⟨kv,rfl,hrow,hbk⟩
                         have HBk:Hid (Below w.heap.size w wk):=trans2 HB7.out hbk
                         have HZk:Hid _:=kept_block hbk HZ7.out
                         have HRk:Hid _:=kept_block hbk HR7.out
                         obtain ⟨ka,kc,rfl,_⟩:=slice_row hrow
                         have HKV:Hid (wk.ownsRow w7.heap.size 9 1 (.slice ka KL.length kc) KL.length (KL.map .string)):=hrow
                         clear hbk hrow b0 b1 b2 b3 b4 b5 b6 hfz n0 n1 n2 n3 n4 n5 n6 hfn o0 o1 o2 o3 o4 r0 r1 r2 r3 r4 r5 r6 hfr
                         obtain ⟨r0,r1,r2,r3,r4,r5,r6⟩:=cells_7 HRk.out
                         have hfr:=free_7 HRk.out)
 have HL7:Hid (rb<w7.heap.size):=(Array.getElem?_eq_some_iff.1 HR7.out).1
 have HL7z:Hid (ob+1<w7.heap.size):=(Array.getElem?_eq_some_iff.1 HZ7.out).1
 obtain ⟨w8,hw8⟩:∃ x,wk.setCell ⟨rb,6,none⟩ (.slice ka KL.length kc)=x:=⟨_,rfl⟩
 have HB8:Hid (Below w.heap.size w w8):=by rw [← hw8];exact HBk.out.setCell (show w.heap.size≤rb by rw [HOB.out];omega) _
 have HZ8:Hid (w8.heap[ob+1]? = some (.cells #[.string ⟨#[]⟩,.string ⟨#[]⟩,.int .i64 0,.int .i64 0,.int .i64 0,.int .i64 0,.slice none 0 0] 103 (0,0))):=by rw [← hw8];exact other_blk HZk.out (by omega)
 have HR8:Hid (w8.heap[rb]? = some (.cells #[.string u.p,.string ⟨#[]⟩,.int .i64 u.v,.int .i64 u.m,.int .i64 u.c,.int .i64 u.o,.slice ka KL.length kc] 103 (0,0))):=by rw [← hw8];exact same_blk HRk.out rfl
 have HK8:Hid (w8.ownsRow w7.heap.size 9 1 (.slice ka KL.length kc) KL.length (KL.map .string)):=by
  rw [← hw8]
  exact owns_chg HKV.out (Chg.set _ _ _) (fun k hk e=>by
   have h9:=(HKV.out.lt k hk).1
   have e':k=rb:=e
   have:=HL7.out
   omega)
 rw [hw8]
 clear hw8 r0 r1 r2 r3 r4 r5 r6 hfr
 obtain ⟨b0,b1,b2,b3,b4,b5,b6⟩:=cells_7 HZ8.out
 have hfz:=free_7 HZ8.out
 obtain ⟨r0,r1,r2,r3,r4,r5,r6⟩:=cells_7 HR8.out
 have hne:rb≠ob+1:=by omega
 go_region_held3 (fun w'=>w'.cell? ⟨rb,0,none⟩=some (.string u.p)∧w'.cell? ⟨rb,1,none⟩=some (.string ⟨#[]⟩)∧w'.cell? ⟨rb,2,none⟩=some (.int .i64 u.v)∧w'.cell? ⟨rb,3,none⟩=some (.int .i64 u.m)∧w'.cell? ⟨rb,4,none⟩=some (.int .i64 u.c)∧w'.cell? ⟨rb,5,none⟩=some (.int .i64 u.o)∧w'.cell? ⟨rb,6,none⟩=some (.slice ka KL.length kc)) (first | (simp only [World.cell?_drew,r0,r1,r2,r3,r4,r5,r6,and_self];done) | (simp only [cellN hne,World.cell?_drew,r0,r1,r2,r3,r4,r5,r6,and_self];done) | go_keep) (fail)
 all_goals (go_wp2_with fail)
 exact bodyPost_ret (results_4c rfl _ _ (ob+1) 103 #[.string u.p,.string ⟨#[]⟩,.int .i64 u.v,.int .i64 u.m,.int .i64 u.c,.int .i64 u.o,.slice ka KL.length kc] (0,0) _ (.slice (some ⟨gb,gf,none⟩) N c) (.slice none 0 0) (.int .i64 0) rfl rfl rfl rfl ((heap_drew_at _ _).trans (fill_7 HZ8.out)) Tryz.underlying103 rfl (by kernel_rfl)) rfl (OneE.list HN.out c (H.out.below (below_drew (fillB_7 HB8.out (by rw [HOB.out];omega)))) (lst_put7 HK8.out HL7z.out) (below_drew (fillB_7 HB8.out (by rw [HOB.out];omega))))
end Go.Proofs.YtckmihplkhmpnaaGreatDoor
