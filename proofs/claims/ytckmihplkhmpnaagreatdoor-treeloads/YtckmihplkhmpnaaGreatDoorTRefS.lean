import Derived.Test.YtckmihplkhmpnaaGreatDoorTRefL
namespace Go.Proofs.YtckmihplkhmpnaaGreatDoor
open Go.RowKit Go.Maps Go.WideShapes
set_option linter.unusedVariables false
set_option linter.unusedSimpArgs false
attribute [local go_sem ↓] Go.wp_at_zero Go.wp_at_succ
set_option maxHeartbeats 8000000 in
set_option maxRecDepth 100000 in
theorem ro_setm (a:Option Addr) (c:Nat) (T:List Nd) (s st:Int) (p d:ByteArray) (v f:Int) (u:Nd) (q:Nat) (w:World) (h:NdsAt w a T) (hT:T.length≤64) (hm:malC s 2 p d f=0) (hq:T[q]? = some u) (hu:fndI T p=q) (hv:(v != -1)=false) (hx:u.v<2147483647) (hx0:0≤u.v) (hsm:Sml T) (hps:u.p.size≤1000) :
  Calls Tryz.prog 47 #[.slice a T.length c,.int .i64 s,.int .i64 st,opV 2 p d v f] w (OneE w (0,ins ⟨u.p,d,u.v+1,u.m,st,u.o,u.k⟩ (T.eraseIdx q),⟨u.p,⟨#[]⟩,u.v+1,u.m,st,u.o,[]⟩,[⟨2,u.p,d,u.v+1⟩])):=by
 obtain ⟨E,hE⟩:∃ E,T.eraseIdx q=E:=⟨_,rfl⟩
 have HWO:Hid (∀ W,Below w.heap.size w W→Calls Tryz.prog 74 #[.slice a T.length c,.int .i64 q] W fun e w'=>∃ v,e=.returned v∧w'.ownsRow W.heap.size 26 7 v E.length (E.flatMap Nd.cs)∧Below W.heap.size W w'):=fun W hb=>by rw [← hE];exact refWithout_any a c T q W (h.below hb) (by omega) (List.getElem?_eq_some_iff.1 hq).1
 have hEl:E.length≤1000:=by rw [← hE,List.length_eraseIdx];split <;> omega
 have hEs:Sml E:=fun x hx=>hsm x (by rw [← hE] at hx;exact List.mem_of_mem_eraseIdx hx)
 rw [hE]
 clear hE hsm
 obtain ⟨n,hn⟩:∃ n:Nd,n=⟨u.p,d,u.v+1,u.m,st,u.o,u.k⟩:=⟨_,rfl⟩
 have HWI:Hid (∀ W b cc,NdsAt W b E→Calls Tryz.prog 73 #[.slice b E.length cc,(⟨u.p,d,u.v+1,u.m,st,u.o,u.k⟩:Nd).V] W fun e w'=>∃ v,e=.returned v∧w'.ownsRow W.heap.size 26 7 v (ins n E).length ((ins n E).flatMap Nd.cs)∧Below W.heap.size W w'):=fun W b cc hb=>by rw [hn];exact refWith_any b cc E _ W hb hEl hEs hps
 rw [← hn]
 clear hEl hEs hps hn
 have hx1:¬ (2147483647:Int)≤u.v:=by omega
 have H:Hid (NdsAt w a T):=h
 have HST:Hid (∀ W,_):=fun W=>refStatic_any s (2) p d v f W
 have HF:Hid (∀ W,Below w.heap.size w W→∀ x,Calls Tryz.prog 36 #[.slice a T.length c,.string x] W fun e w'=>e=.returned (.int .i64 (fndI T x))∧w'=W):=fun W hb x=>refFind_any a c T x W (h.below hb) (by omega)
 obtain ⟨mc,hmc⟩:∃ mc,malC s (2) p d f=mc:=⟨_,rfl⟩
 rw [hmc] at HST hm
 obtain ⟨N,hN⟩:∃ N,T.length=N:=⟨_,rfl⟩
 have HN:Hid (T.length=N):=hN
 rw [hN] at HF hT HWO ⊢
 subst hm
 have HU:Hid (fndI T p=(q:Int)):=hu
 have HQ:Hid (T[q]? = some u):=hq
 have hqN:q<N:=by rw [← hN];exact (List.getElem?_eq_some_iff.1 hq).1
 have hq0:¬ (q:Int)<0:=by omega
 obtain ⟨gb,gf,rfl⟩:=h.some hq
 clear hq hu
 clear h hN hmc
 go_enter Tryz.func47,Tryz.ntmps47
 go_upto_region 1 with fail
 obtain ⟨W2,hW2⟩:∃ x,(w.alloc (.cells #[.int .i64 (2),.string p,.string d,.int .i64 v,.int .i64 f] 66)).alloc (.cells #[.string ⟨#[]⟩,.string ⟨#[]⟩,.int .i64 0,.int .i64 0,.int .i64 0,.int .i64 0,.slice none 0 0] 103)=x:=⟨_,rfl⟩
 obtain ⟨ob,hob⟩:∃ x,w.heap.size=x:=⟨_,rfl⟩
 have HOB:Hid (w.heap.size=ob):=hob
 have HB2:Hid (Below w.heap.size w W2):=by rw [← hW2];exact ((Below.refl _ _).alloc (Nat.le_refl _) _).alloc (by simp) _
 have HO2:Hid (W2.heap[ob]? = some (.cells #[.int .i64 (2),.string p,.string d,.int .i64 v,.int .i64 f] 66 (0,0))):=by rw [← hW2,← hob];exact heap_alloc2_old _ _ _
 have HZ2:Hid (W2.heap[ob+1]? = some (.cells #[.string ⟨#[]⟩,.string ⟨#[]⟩,.int .i64 0,.int .i64 0,.int .i64 0,.int .i64 0,.slice none 0 0] 103 (0,0))):=by rw [← hW2,← hob];exact heap_alloc2_new _ _ _
 rw [hW2,hob]
 clear hW2 hob
 obtain ⟨o0,o1,o2,o3,o4⟩:=cells_5 HO2.out
 go_wp2_with fail
 refine Calls.mono (HST.out _) ?_
 rintro e w3 ⟨rfl,hb3⟩
 have HB3:Hid (Below w.heap.size w w3):=trans2 HB2.out hb3
 have HO3:Hid _:=kept_block hb3 HO2.out
 have HZ3:Hid _:=kept_block hb3 HZ2.out
 have hz3:ob+1<w3.heap.size:=(Array.getElem?_eq_some_iff.1 HZ3.out).1
 clear hb3 o0 o1 o2 o3 o4
 obtain ⟨o0,o1,o2,o3,o4⟩:=cells_5 HO3.out
 obtain ⟨b0,b1,b2,b3,b4,b5,b6⟩:=cells_7 HZ3.out
 have hfz:=free_7 HZ3.out
 have e1:((2:Int)==1)=false:=by simp
 go_wp2_with fail
 refine Calls.mono (HF.out _ HB3.out _) ?_
 rintro e w4 ⟨rfl,hw4⟩
 subst hw4
 rw [HU.out]
 obtain ⟨hgb,x0,x1,x2,x3,x4,x5,x6⟩:=(H.out.below HB3.out).cells HQ.out
 go_upto_region 10 with fail
 obtain ⟨w5,hw5⟩:∃ x,w4.alloc (.cells #[.string u.p,.string u.d,.int .i64 u.v,.int .i64 u.m,.int .i64 u.c,.int .i64 u.o,.int .i64 u.k] 26)=x:=⟨_,rfl⟩
 obtain ⟨nb,hnb⟩:∃ x,w4.heap.size=x:=⟨_,rfl⟩
 have hnz:ob+1<nb:=by omega
 have HB5:Hid (Below w.heap.size w w5):=by rw [← hw5];exact HB3.out.alloc (by have:=HB3.out.size;omega) _
 have HO5:Hid (w5.heap[ob]? = some (.cells #[.int .i64 (2),.string p,.string d,.int .i64 v,.int .i64 f] 66 (0,0))):=by rw [← hw5];exact new_old HO3.out _
 have HZ5:Hid (w5.heap[ob+1]? = some (.cells #[.string ⟨#[]⟩,.string ⟨#[]⟩,.int .i64 0,.int .i64 0,.int .i64 0,.int .i64 0,.slice none 0 0] 103 (0,0))):=by rw [← hw5];exact new_old HZ3.out _
 have HN5:Hid (w5.heap[nb]? = some (.cells #[.string u.p,.string u.d,.int .i64 u.v,.int .i64 u.m,.int .i64 u.c,.int .i64 u.o,.int .i64 u.k] 26 (0,0))):=by rw [← hw5,← hnb];exact heap_alloc_new _ _
 rw [hw5,hnb]
 clear hw5 hnb hz3 o0 o1 o2 o3 o4 b0 b1 b2 b3 b4 b5 b6 hfz x0 x1 x2 x3 x4 x5 x6 hgb
 obtain ⟨o0,o1,o2,o3,o4⟩:=cells_5 HO5.out
 obtain ⟨b0,b1,b2,b3,b4,b5,b6⟩:=cells_7 HZ5.out
 have hfz:=free_7 HZ5.out
 obtain ⟨n0,n1,n2,n3,n4,n5,n6⟩:=cells_7 HN5.out
 have HSH:Hid (∀ W,_):=fun W=>refShown_any u W
 go_upto_region 13 with (go_at_call 72;refine Calls.mono (HSH.out _) ?_;rintro e w6 ⟨rfl,hb6⟩
                         have HB6:Hid (Below w.heap.size w w6):=trans2 HB5.out hb6
                         have HO6:Hid _:=kept_block hb6 HO5.out
                         have HZ6:Hid _:=kept_block hb6 HZ5.out
                         have HN6:Hid _:=kept_block hb6 HN5.out
                         clear hb6 o0 o1 o2 o3 o4 b0 b1 b2 b3 b4 b5 b6 hfz n0 n1 n2 n3 n4 n5 n6)
 obtain ⟨w7,hw7⟩:∃ x,w6.alloc (.cells #[.string u.p,.string ⟨#[]⟩,.int .i64 u.v,.int .i64 u.m,.int .i64 u.c,.int .i64 u.o,.slice none 0 0] 103)=x:=⟨_,rfl⟩
 obtain ⟨rb,hrb⟩:∃ x,w6.heap.size=x:=⟨_,rfl⟩
 have hnl6:nb<w6.heap.size:=(Array.getElem?_eq_some_iff.1 HN6.out).1
 have hrz:nb<rb:=by omega
 have HB7:Hid (Below w.heap.size w w7):=by rw [← hw7];exact HB6.out.alloc (by have:=HB6.out.size;omega) _
 have HO7:Hid (w7.heap[ob]? = some (.cells #[.int .i64 (2),.string p,.string d,.int .i64 v,.int .i64 f] 66 (0,0))):=by rw [← hw7];exact new_old HO6.out _
 have HZ7:Hid (w7.heap[ob+1]? = some (.cells #[.string ⟨#[]⟩,.string ⟨#[]⟩,.int .i64 0,.int .i64 0,.int .i64 0,.int .i64 0,.slice none 0 0] 103 (0,0))):=by rw [← hw7];exact new_old HZ6.out _
 have HN7:Hid (w7.heap[nb]? = some (.cells #[.string u.p,.string u.d,.int .i64 u.v,.int .i64 u.m,.int .i64 u.c,.int .i64 u.o,.int .i64 u.k] 26 (0,0))):=by rw [← hw7];exact new_old HN6.out _
 have HR7:Hid (w7.heap[rb]? = some (.cells #[.string u.p,.string ⟨#[]⟩,.int .i64 u.v,.int .i64 u.m,.int .i64 u.c,.int .i64 u.o,.slice none 0 0] 103 (0,0))):=by rw [← hw7,← hrb];exact heap_alloc_new _ _
 rw [hw7,hrb]
 clear hw7 hrb hnl6
 obtain ⟨o0,o1,o2,o3,o4⟩:=cells_5 HO7.out
 obtain ⟨b0,b1,b2,b3,b4,b5,b6⟩:=cells_7 HZ7.out
 have hfz:=free_7 HZ7.out
 obtain ⟨n0,n1,n2,n3,n4,n5,n6⟩:=cells_7 HN7.out
 have hfn:=free_7 HN7.out
 go_upto_region 20 with fail
 obtain ⟨w8,hw8⟩:∃ x,((w7.setCell ⟨nb,1,none⟩ (.string d)).setCell ⟨nb,2,none⟩ (.int .i64 (u.v+1))).setCell ⟨nb,4,none⟩ (.int .i64 st)=x:=⟨_,rfl⟩
 have hobn:w.heap.size≤nb:=by rw [HOB.out];omega
 have HB8:Hid (Below w.heap.size w w8):=by rw [← hw8];exact ((HB7.out.setCell hobn _).setCell hobn _).setCell hobn _
 have HZ8:Hid (w8.heap[ob+1]? = some (.cells #[.string ⟨#[]⟩,.string ⟨#[]⟩,.int .i64 0,.int .i64 0,.int .i64 0,.int .i64 0,.slice none 0 0] 103 (0,0))):=by rw [← hw8];exact other_blk (other_blk (other_blk HZ7.out (by omega)) (by omega)) (by omega)
 have HN8:Hid (w8.heap[nb]? = some (.cells #[.string u.p,.string d,.int .i64 (u.v+1),.int .i64 u.m,.int .i64 st,.int .i64 u.o,.int .i64 u.k] 26 (0,0))):=by
  rw [← hw8]
  have h1:=same_blk (i:=1) (v:=.string d) (cs':=#[.string u.p,.string d,.int .i64 u.v,.int .i64 u.m,.int .i64 u.c,.int .i64 u.o,.int .i64 u.k]) HN7.out rfl
  have h2:=same_blk (i:=2) (v:=.int .i64 (u.v+1)) (cs':=#[.string u.p,.string d,.int .i64 (u.v+1),.int .i64 u.m,.int .i64 u.c,.int .i64 u.o,.int .i64 u.k]) h1 rfl
  exact same_blk (i:=4) (v:=.int .i64 st) (cs':=#[.string u.p,.string d,.int .i64 (u.v+1),.int .i64 u.m,.int .i64 st,.int .i64 u.o,.int .i64 u.k]) h2 rfl
 rw [hw8]
 clear hw8 b0 b1 b2 b3 b4 b5 b6 hfz n0 n1 n2 n3 n4 n5 n6 hfn o0 o1 o2 o3 o4
 obtain ⟨n0,n1,n2,n3,n4,n5,n6⟩:=cells_7 HN8.out
 go_cut [16] from 92 (fun s16 wc=>∃ ga gc,s16=.slice ga (ins n E).length gc∧Hid (∀ x,ga=some x→w8.heap.size≤x.block)∧Hid (NdsAt wc ga (ins n E))∧Hid (Below w.heap.size w wc)∧Hid (wc.heap[ob+1]? = some (.cells #[.string ⟨#[]⟩,.string ⟨#[]⟩,.int .i64 0,.int .i64 0,.int .i64 0,.int .i64 0,.slice none 0 0] 103 (0,0)))∧Hid (wc.heap[nb]? = some (.cells #[.string u.p,.string d,.int .i64 (u.v+1),.int .i64 u.m,.int .i64 st,.int .i64 u.o,.int .i64 u.k] 26 (0,0))))
 case first =>
  go_region_held3 (fun w'=>w'.cell? ⟨nb,0,none⟩=some (.string u.p)∧w'.cell? ⟨nb,1,none⟩=some (.string d)∧w'.cell? ⟨nb,2,none⟩=some (.int .i64 (u.v+1))∧w'.cell? ⟨nb,3,none⟩=some (.int .i64 u.m)∧w'.cell? ⟨nb,4,none⟩=some (.int .i64 st)∧w'.cell? ⟨nb,5,none⟩=some (.int .i64 u.o)∧w'.cell? ⟨nb,6,none⟩=some (.int .i64 u.k)) (first | (simp only [World.cell?_drew,n0,n1,n2,n3,n4,n5,n6,and_self];done) | go_keep)
   (first
     | (go_at_call 74;refine Calls.mono (HWO.out _ (below_drew HB8.out)) ?_;rintro e w9 ⟨mv,rfl,hrow,hb9⟩
        have hb9':=of_drew hb9
        have HB9:Hid (Below w.heap.size w w9):=trans2 HB8.out hb9'
        have HL9:Hid (w8.heap.size≤w9.heap.size):=hb9'.size
        have HZ9:Hid _:=kept_block hb9' HZ8.out
        have HN9:Hid _:=kept_block hb9' HN8.out
        obtain ⟨fa,fc,rfl,_⟩:=slice_row hrow
        have HR9:Hid (NdsAt w9 fa E):=nds_row hrow
        clear hrow hb9 hb9' n0 n1 n2 n3 n4 n5 n6
        obtain ⟨n0,n1,n2,n3,n4,n5,n6⟩:=cells_7 HN9.out)
     | (go_at_call 73;refine Calls.mono (HWI.out _ _ _ HR9.out) ?_;rintro e w10 ⟨mv,rfl,hrow,hb10⟩
        have HB10:Hid (Below w.heap.size w w10):=trans2 HB9.out hb10
        have HZ10:Hid _:=kept_block hb10 HZ9.out
        have HN10:Hid _:=kept_block hb10 HN9.out
        obtain ⟨ga,gc,rfl,hga⟩:=slice_row hrow
        have HGA:Hid (∀ x,ga=some x→w8.heap.size≤x.block):=fun x hx=>Nat.le_trans HL9.out (hga x hx)
        have HR10:Hid (NdsAt w10 ga (ins n E)):=nds_row hrow
        clear hrow hb10 hga n0 n1 n2 n3 n4 n5 n6
        obtain ⟨n0,n1,n2,n3,n4,n5,n6⟩:=cells_7 HN10.out))
  all_goals (
   go_wp2_with fail
   go_meet
   case rel=>exact ⟨_,_,rfl,HGA,HR10,HB10,HZ10,HN10⟩)
 case rest =>
  obtain ⟨ga,gc,rfl,HGA,HRc,HBb,HZb,HNb⟩:=hcut
  have HSH2:Hid (∀ W,_):=fun W=>refShown_any (⟨u.p,d,u.v+1,u.m,st,u.o,u.k⟩:Nd) W
  have HZ8L:Hid (ob+1<w8.heap.size):=(Array.getElem?_eq_some_iff.1 HZ8.out).1
  clear n0 n1 n2 n3 n4 n5 n6
  obtain ⟨b0,b1,b2,b3,b4,b5,b6⟩:=cells_7 HZb.out
  have hfz:=free_7 HZb.out
  obtain ⟨n0,n1,n2,n3,n4,n5,n6⟩:=cells_7 HNb.out
  go_upto_region 21 with fail
  have hne:nb≠ob+1:=by omega
  have hnl:nb<wc.heap.size:=(Array.getElem?_eq_some_iff.1 HNb.out).1
  have HZL:Hid (ob+1<wc.heap.size):=(show ob+1<wc.heap.size by omega)
  have q3:nb≠wc.heap.size:=by omega
  have q4:ob+1≠wc.heap.size:=by omega
  go_region_held3 (fun w'=>w'.cell? ⟨nb,0,none⟩=some (.string u.p)∧w'.cell? ⟨nb,1,none⟩=some (.string d)∧w'.cell? ⟨nb,2,none⟩=some (.int .i64 (u.v+1))∧w'.cell? ⟨nb,3,none⟩=some (.int .i64 u.m)∧w'.cell? ⟨nb,4,none⟩=some (.int .i64 st)∧w'.cell? ⟨nb,5,none⟩=some (.int .i64 u.o)∧w'.cell? ⟨nb,6,none⟩=some (.int .i64 u.k)) (first | (simp only [World.cell?_drew,n0,n1,n2,n3,n4,n5,n6,and_self];done) | (simp only [cellN hne,World.cell?_drew,n0,n1,n2,n3,n4,n5,n6,and_self];done) | (simp only [cellA,World.size_setCell,World.size_drew,hnl,cellN hne,World.cell?_drew,n0,n1,n2,n3,n4,n5,n6,and_self];done) | go_keep)
   (first
     | (go_at_call 72;refine Calls.mono (HSH2.out _) ?_;rintro e w9 ⟨rfl,hbn⟩
        have hbn':=of_drew hbn
        have HBn:Hid (Below w.heap.size w w9):=trans2 HBb.out hbn'
        have HNn:Hid _:=kept_block hbn' HNb.out
        have HZn:Hid _:=kept_block hbn' HZb.out
        have HRn:Hid (NdsAt w9 ga (ins n E)):=HRc.out.below hbn'
        clear hbn hbn'
        clear n0 n1 n2 n3 n4 n5 n6 b0 b1 b2 b3 b4 b5 b6 hfz
        obtain ⟨n0,n1,n2,n3,n4,n5,n6⟩:=cells_7 HNn.out
        obtain ⟨b0,b1,b2,b3,b4,b5,b6⟩:=cells_7 HZn.out
        have hfz:=free_7 HZn.out
        clear hnl
        have hnl:nb<w9.heap.size:=(Array.getElem?_eq_some_iff.1 HNn.out).1
        have hzl:ob+1<w9.heap.size:=(Array.getElem?_eq_some_iff.1 HZn.out).1
        clear q3 q4
        have q3:nb≠w9.heap.size:=by omega
        have q4:ob+1≠w9.heap.size:=by omega)
     | (go_at_call 72;refine Calls.mono (HSH2.out _) ?_;rintro e w9 ⟨rfl,hbn⟩
        have hbn':=of_drew hbn
        have HBn:Hid (Below w.heap.size w w9):=trans2 (HBb.out.alloc (by have:=HBb.out.size;omega) _) hbn'
        have HNn:Hid _:=kept_block hbn' (new_old HNb.out _)
        have HZn:Hid _:=kept_block hbn' (new_old HZb.out _)
        have HCn:Hid _:=kept_block hbn' (heap_alloc_new _ _)
        have HRn:Hid (NdsAt w9 ga (ins n E)):=(HRc.out.below ((Below.refl _ _).alloc (Nat.le_refl _) _)).below hbn'
        clear hbn hbn'
        clear n0 n1 n2 n3 n4 n5 n6 b0 b1 b2 b3 b4 b5 b6 hfz
        obtain ⟨n0,n1,n2,n3,n4,n5,n6⟩:=cells_7 HNn.out
        obtain ⟨b0,b1,b2,b3,b4,b5,b6⟩:=cells_7 HZn.out
        have hfz:=free_7 HZn.out
        clear hnl
        have hnl:nb<w9.heap.size:=(Array.getElem?_eq_some_iff.1 HNn.out).1
        have hzl:ob+1<w9.heap.size:=(Array.getElem?_eq_some_iff.1 HZn.out).1
        clear q3 q4
        have q3:nb≠w9.heap.size:=by omega
        have q4:ob+1≠w9.heap.size:=by omega))
  · go_wp2_with fail
    exact bodyPost_ret (results_4c rfl _ _ (ob+1) 103 #[.string u.p,.string ⟨#[]⟩,.int .i64 (u.v+1),.int .i64 u.m,.int .i64 st,.int .i64 u.o,.slice none 0 0] (0,0) _ (.slice ga (ins n E).length gc) (.slice (some ⟨w9.heap.size,0,none⟩) 1 1) (.int .i64 0) rfl rfl rfl rfl (new_old (fill_7 HZn.out) _) Tryz.underlying103 rfl (by kernel_rfl)) rfl (OneE.chg rfl gc ((nds_put7a HRn.out (fun x hx=>by have:=HGA.out x hx;have:=HZ8L.out;omega)).below ((Below.refl _ _).alloc (Nat.le_refl _) _)) (new_at (by simp [put_7]) _) ((fillB_7 HBn.out (by rw [HOB.out];omega)).alloc (by have:=HBn.out.size;simp [put_7];omega) _))
  · go_wp2_with fail
    exact bodyPost_ret (results_4c rfl _ _ (ob+1) 103 #[.string u.p,.string ⟨#[]⟩,.int .i64 (u.v+1),.int .i64 u.m,.int .i64 st,.int .i64 u.o,.slice none 0 0] (0,0) _ (.slice ga (ins n E).length gc) (.slice (some ⟨w9.heap.size,0,none⟩) 1 1) (.int .i64 0) rfl rfl rfl rfl (new_old (fill_7 HZn.out) _) Tryz.underlying103 rfl (by kernel_rfl)) rfl (OneE.chg rfl gc ((nds_put7a HRn.out (fun x hx=>by have:=HGA.out x hx;have:=HZ8L.out;omega)).below ((Below.refl _ _).alloc (Nat.le_refl _) _)) (new_at (by simp [put_7]) _) ((fillB_7 HBn.out (by rw [HOB.out];omega)).alloc (by have:=HBn.out.size;simp [put_7];omega) _))
  · go_wp2_with fail
    exact bodyPost_ret (results_4c rfl _ _ (ob+1) 103 #[.string u.p,.string ⟨#[]⟩,.int .i64 (u.v+1),.int .i64 u.m,.int .i64 st,.int .i64 u.o,.slice none 0 0] (0,0) _ (.slice ga (ins n E).length gc) (.slice (some ⟨wc.heap.size,0,none⟩) 1 1) (.int .i64 0) rfl rfl rfl rfl (fill_7 HZn.out) Tryz.underlying103 rfl (by kernel_rfl)) rfl (OneE.chg rfl gc (nds_put7a HRn.out (fun x hx=>by have:=HGA.out x hx;have:=HZ8L.out;omega)) (fillO_7 HCn.out (by have:=HZL.out;omega)) (fillB_7 HBn.out (by rw [HOB.out];omega)))
set_option maxHeartbeats 8000000 in
set_option maxRecDepth 100000 in
theorem ro_sete (a:Option Addr) (c:Nat) (T:List Nd) (s st:Int) (p d:ByteArray) (v f:Int) (u:Nd) (q:Nat) (w:World) (h:NdsAt w a T) (hT:T.length≤64) (hm:malC s 2 p d f=0) (hq:T[q]? = some u) (hu:fndI T p=q) (hv:(v != -1)=true) (hv2:(v != u.v)=false) (hx:u.v<2147483647) (hx0:0≤u.v) (hsm:Sml T) (hps:u.p.size≤1000) :
  Calls Tryz.prog 47 #[.slice a T.length c,.int .i64 s,.int .i64 st,opV 2 p d v f] w (OneE w (0,ins ⟨u.p,d,u.v+1,u.m,st,u.o,u.k⟩ (T.eraseIdx q),⟨u.p,⟨#[]⟩,u.v+1,u.m,st,u.o,[]⟩,[⟨2,u.p,d,u.v+1⟩])):=by
 obtain ⟨E,hE⟩:∃ E,T.eraseIdx q=E:=⟨_,rfl⟩
 have HWO:Hid (∀ W,Below w.heap.size w W→Calls Tryz.prog 74 #[.slice a T.length c,.int .i64 q] W fun e w'=>∃ v,e=.returned v∧w'.ownsRow W.heap.size 26 7 v E.length (E.flatMap Nd.cs)∧Below W.heap.size W w'):=fun W hb=>by rw [← hE];exact refWithout_any a c T q W (h.below hb) (by omega) (List.getElem?_eq_some_iff.1 hq).1
 have hEl:E.length≤1000:=by rw [← hE,List.length_eraseIdx];split <;> omega
 have hEs:Sml E:=fun x hx=>hsm x (by rw [← hE] at hx;exact List.mem_of_mem_eraseIdx hx)
 rw [hE]
 clear hE hsm
 obtain ⟨n,hn⟩:∃ n:Nd,n=⟨u.p,d,u.v+1,u.m,st,u.o,u.k⟩:=⟨_,rfl⟩
 have HWI:Hid (∀ W b cc,NdsAt W b E→Calls Tryz.prog 73 #[.slice b E.length cc,(⟨u.p,d,u.v+1,u.m,st,u.o,u.k⟩:Nd).V] W fun e w'=>∃ v,e=.returned v∧w'.ownsRow W.heap.size 26 7 v (ins n E).length ((ins n E).flatMap Nd.cs)∧Below W.heap.size W w'):=fun W b cc hb=>by rw [hn];exact refWith_any b cc E _ W hb hEl hEs hps
 rw [← hn]
 clear hEl hEs hps hn
 have hx1:¬ (2147483647:Int)≤u.v:=by omega
 have H:Hid (NdsAt w a T):=h
 have HST:Hid (∀ W,_):=fun W=>refStatic_any s (2) p d v f W
 have HF:Hid (∀ W,Below w.heap.size w W→∀ x,Calls Tryz.prog 36 #[.slice a T.length c,.string x] W fun e w'=>e=.returned (.int .i64 (fndI T x))∧w'=W):=fun W hb x=>refFind_any a c T x W (h.below hb) (by omega)
 obtain ⟨mc,hmc⟩:∃ mc,malC s (2) p d f=mc:=⟨_,rfl⟩
 rw [hmc] at HST hm
 obtain ⟨N,hN⟩:∃ N,T.length=N:=⟨_,rfl⟩
 have HN:Hid (T.length=N):=hN
 rw [hN] at HF hT HWO ⊢
 subst hm
 have HU:Hid (fndI T p=(q:Int)):=hu
 have HQ:Hid (T[q]? = some u):=hq
 have hqN:q<N:=by rw [← hN];exact (List.getElem?_eq_some_iff.1 hq).1
 have hq0:¬ (q:Int)<0:=by omega
 obtain ⟨gb,gf,rfl⟩:=h.some hq
 clear hq hu
 clear h hN hmc
 go_enter Tryz.func47,Tryz.ntmps47
 go_upto_region 1 with fail
 obtain ⟨W2,hW2⟩:∃ x,(w.alloc (.cells #[.int .i64 (2),.string p,.string d,.int .i64 v,.int .i64 f] 66)).alloc (.cells #[.string ⟨#[]⟩,.string ⟨#[]⟩,.int .i64 0,.int .i64 0,.int .i64 0,.int .i64 0,.slice none 0 0] 103)=x:=⟨_,rfl⟩
 obtain ⟨ob,hob⟩:∃ x,w.heap.size=x:=⟨_,rfl⟩
 have HOB:Hid (w.heap.size=ob):=hob
 have HB2:Hid (Below w.heap.size w W2):=by rw [← hW2];exact ((Below.refl _ _).alloc (Nat.le_refl _) _).alloc (by simp) _
 have HO2:Hid (W2.heap[ob]? = some (.cells #[.int .i64 (2),.string p,.string d,.int .i64 v,.int .i64 f] 66 (0,0))):=by rw [← hW2,← hob];exact heap_alloc2_old _ _ _
 have HZ2:Hid (W2.heap[ob+1]? = some (.cells #[.string ⟨#[]⟩,.string ⟨#[]⟩,.int .i64 0,.int .i64 0,.int .i64 0,.int .i64 0,.slice none 0 0] 103 (0,0))):=by rw [← hW2,← hob];exact heap_alloc2_new _ _ _
 rw [hW2,hob]
 clear hW2 hob
 obtain ⟨o0,o1,o2,o3,o4⟩:=cells_5 HO2.out
 go_wp2_with fail
 refine Calls.mono (HST.out _) ?_
 rintro e w3 ⟨rfl,hb3⟩
 have HB3:Hid (Below w.heap.size w w3):=trans2 HB2.out hb3
 have HO3:Hid _:=kept_block hb3 HO2.out
 have HZ3:Hid _:=kept_block hb3 HZ2.out
 have hz3:ob+1<w3.heap.size:=(Array.getElem?_eq_some_iff.1 HZ3.out).1
 clear hb3 o0 o1 o2 o3 o4
 obtain ⟨o0,o1,o2,o3,o4⟩:=cells_5 HO3.out
 obtain ⟨b0,b1,b2,b3,b4,b5,b6⟩:=cells_7 HZ3.out
 have hfz:=free_7 HZ3.out
 have e1:((2:Int)==1)=false:=by simp
 go_wp2_with fail
 refine Calls.mono (HF.out _ HB3.out _) ?_
 rintro e w4 ⟨rfl,hw4⟩
 subst hw4
 rw [HU.out]
 obtain ⟨hgb,x0,x1,x2,x3,x4,x5,x6⟩:=(H.out.below HB3.out).cells HQ.out
 go_upto_region 10 with fail
 obtain ⟨w5,hw5⟩:∃ x,w4.alloc (.cells #[.string u.p,.string u.d,.int .i64 u.v,.int .i64 u.m,.int .i64 u.c,.int .i64 u.o,.int .i64 u.k] 26)=x:=⟨_,rfl⟩
 obtain ⟨nb,hnb⟩:∃ x,w4.heap.size=x:=⟨_,rfl⟩
 have hnz:ob+1<nb:=by omega
 have HB5:Hid (Below w.heap.size w w5):=by rw [← hw5];exact HB3.out.alloc (by have:=HB3.out.size;omega) _
 have HO5:Hid (w5.heap[ob]? = some (.cells #[.int .i64 (2),.string p,.string d,.int .i64 v,.int .i64 f] 66 (0,0))):=by rw [← hw5];exact new_old HO3.out _
 have HZ5:Hid (w5.heap[ob+1]? = some (.cells #[.string ⟨#[]⟩,.string ⟨#[]⟩,.int .i64 0,.int .i64 0,.int .i64 0,.int .i64 0,.slice none 0 0] 103 (0,0))):=by rw [← hw5];exact new_old HZ3.out _
 have HN5:Hid (w5.heap[nb]? = some (.cells #[.string u.p,.string u.d,.int .i64 u.v,.int .i64 u.m,.int .i64 u.c,.int .i64 u.o,.int .i64 u.k] 26 (0,0))):=by rw [← hw5,← hnb];exact heap_alloc_new _ _
 rw [hw5,hnb]
 clear hw5 hnb hz3 o0 o1 o2 o3 o4 b0 b1 b2 b3 b4 b5 b6 hfz x0 x1 x2 x3 x4 x5 x6 hgb
 obtain ⟨o0,o1,o2,o3,o4⟩:=cells_5 HO5.out
 obtain ⟨b0,b1,b2,b3,b4,b5,b6⟩:=cells_7 HZ5.out
 have hfz:=free_7 HZ5.out
 obtain ⟨n0,n1,n2,n3,n4,n5,n6⟩:=cells_7 HN5.out
 have HSH:Hid (∀ W,_):=fun W=>refShown_any u W
 go_upto_region 13 with (go_at_call 72;refine Calls.mono (HSH.out _) ?_;rintro e w6 ⟨rfl,hb6⟩
                         have HB6:Hid (Below w.heap.size w w6):=trans2 HB5.out hb6
                         have HO6:Hid _:=kept_block hb6 HO5.out
                         have HZ6:Hid _:=kept_block hb6 HZ5.out
                         have HN6:Hid _:=kept_block hb6 HN5.out
                         clear hb6 o0 o1 o2 o3 o4 b0 b1 b2 b3 b4 b5 b6 hfz n0 n1 n2 n3 n4 n5 n6)
 obtain ⟨w7,hw7⟩:∃ x,w6.alloc (.cells #[.string u.p,.string ⟨#[]⟩,.int .i64 u.v,.int .i64 u.m,.int .i64 u.c,.int .i64 u.o,.slice none 0 0] 103)=x:=⟨_,rfl⟩
 obtain ⟨rb,hrb⟩:∃ x,w6.heap.size=x:=⟨_,rfl⟩
 have hnl6:nb<w6.heap.size:=(Array.getElem?_eq_some_iff.1 HN6.out).1
 have hrz:nb<rb:=by omega
 have HB7:Hid (Below w.heap.size w w7):=by rw [← hw7];exact HB6.out.alloc (by have:=HB6.out.size;omega) _
 have HO7:Hid (w7.heap[ob]? = some (.cells #[.int .i64 (2),.string p,.string d,.int .i64 v,.int .i64 f] 66 (0,0))):=by rw [← hw7];exact new_old HO6.out _
 have HZ7:Hid (w7.heap[ob+1]? = some (.cells #[.string ⟨#[]⟩,.string ⟨#[]⟩,.int .i64 0,.int .i64 0,.int .i64 0,.int .i64 0,.slice none 0 0] 103 (0,0))):=by rw [← hw7];exact new_old HZ6.out _
 have HN7:Hid (w7.heap[nb]? = some (.cells #[.string u.p,.string u.d,.int .i64 u.v,.int .i64 u.m,.int .i64 u.c,.int .i64 u.o,.int .i64 u.k] 26 (0,0))):=by rw [← hw7];exact new_old HN6.out _
 have HR7:Hid (w7.heap[rb]? = some (.cells #[.string u.p,.string ⟨#[]⟩,.int .i64 u.v,.int .i64 u.m,.int .i64 u.c,.int .i64 u.o,.slice none 0 0] 103 (0,0))):=by rw [← hw7,← hrb];exact heap_alloc_new _ _
 rw [hw7,hrb]
 clear hw7 hrb hnl6
 obtain ⟨o0,o1,o2,o3,o4⟩:=cells_5 HO7.out
 obtain ⟨b0,b1,b2,b3,b4,b5,b6⟩:=cells_7 HZ7.out
 have hfz:=free_7 HZ7.out
 obtain ⟨n0,n1,n2,n3,n4,n5,n6⟩:=cells_7 HN7.out
 have hfn:=free_7 HN7.out
 go_upto_region 20 with fail
 obtain ⟨w8,hw8⟩:∃ x,((w7.setCell ⟨nb,1,none⟩ (.string d)).setCell ⟨nb,2,none⟩ (.int .i64 (u.v+1))).setCell ⟨nb,4,none⟩ (.int .i64 st)=x:=⟨_,rfl⟩
 have hobn:w.heap.size≤nb:=by rw [HOB.out];omega
 have HB8:Hid (Below w.heap.size w w8):=by rw [← hw8];exact ((HB7.out.setCell hobn _).setCell hobn _).setCell hobn _
 have HZ8:Hid (w8.heap[ob+1]? = some (.cells #[.string ⟨#[]⟩,.string ⟨#[]⟩,.int .i64 0,.int .i64 0,.int .i64 0,.int .i64 0,.slice none 0 0] 103 (0,0))):=by rw [← hw8];exact other_blk (other_blk (other_blk HZ7.out (by omega)) (by omega)) (by omega)
 have HN8:Hid (w8.heap[nb]? = some (.cells #[.string u.p,.string d,.int .i64 (u.v+1),.int .i64 u.m,.int .i64 st,.int .i64 u.o,.int .i64 u.k] 26 (0,0))):=by
  rw [← hw8]
  have h1:=same_blk (i:=1) (v:=.string d) (cs':=#[.string u.p,.string d,.int .i64 u.v,.int .i64 u.m,.int .i64 u.c,.int .i64 u.o,.int .i64 u.k]) HN7.out rfl
  have h2:=same_blk (i:=2) (v:=.int .i64 (u.v+1)) (cs':=#[.string u.p,.string d,.int .i64 (u.v+1),.int .i64 u.m,.int .i64 u.c,.int .i64 u.o,.int .i64 u.k]) h1 rfl
  exact same_blk (i:=4) (v:=.int .i64 st) (cs':=#[.string u.p,.string d,.int .i64 (u.v+1),.int .i64 u.m,.int .i64 st,.int .i64 u.o,.int .i64 u.k]) h2 rfl
 rw [hw8]
 clear hw8 b0 b1 b2 b3 b4 b5 b6 hfz n0 n1 n2 n3 n4 n5 n6 hfn o0 o1 o2 o3 o4
 obtain ⟨n0,n1,n2,n3,n4,n5,n6⟩:=cells_7 HN8.out
 go_cut [16] from 92 (fun s16 wc=>∃ ga gc,s16=.slice ga (ins n E).length gc∧Hid (∀ x,ga=some x→w8.heap.size≤x.block)∧Hid (NdsAt wc ga (ins n E))∧Hid (Below w.heap.size w wc)∧Hid (wc.heap[ob+1]? = some (.cells #[.string ⟨#[]⟩,.string ⟨#[]⟩,.int .i64 0,.int .i64 0,.int .i64 0,.int .i64 0,.slice none 0 0] 103 (0,0)))∧Hid (wc.heap[nb]? = some (.cells #[.string u.p,.string d,.int .i64 (u.v+1),.int .i64 u.m,.int .i64 st,.int .i64 u.o,.int .i64 u.k] 26 (0,0))))
 case first =>
  go_region_held3 (fun w'=>w'.cell? ⟨nb,0,none⟩=some (.string u.p)∧w'.cell? ⟨nb,1,none⟩=some (.string d)∧w'.cell? ⟨nb,2,none⟩=some (.int .i64 (u.v+1))∧w'.cell? ⟨nb,3,none⟩=some (.int .i64 u.m)∧w'.cell? ⟨nb,4,none⟩=some (.int .i64 st)∧w'.cell? ⟨nb,5,none⟩=some (.int .i64 u.o)∧w'.cell? ⟨nb,6,none⟩=some (.int .i64 u.k)) (first | (simp only [World.cell?_drew,n0,n1,n2,n3,n4,n5,n6,and_self];done) | go_keep)
   (first
     | (go_at_call 74;refine Calls.mono (HWO.out _ (below_drew HB8.out)) ?_;rintro e w9 ⟨mv,rfl,hrow,hb9⟩
        have hb9':=of_drew hb9
        have HB9:Hid (Below w.heap.size w w9):=trans2 HB8.out hb9'
        have HL9:Hid (w8.heap.size≤w9.heap.size):=hb9'.size
        have HZ9:Hid _:=kept_block hb9' HZ8.out
        have HN9:Hid _:=kept_block hb9' HN8.out
        obtain ⟨fa,fc,rfl,_⟩:=slice_row hrow
        have HR9:Hid (NdsAt w9 fa E):=nds_row hrow
        clear hrow hb9 hb9' n0 n1 n2 n3 n4 n5 n6
        obtain ⟨n0,n1,n2,n3,n4,n5,n6⟩:=cells_7 HN9.out)
     | (go_at_call 73;refine Calls.mono (HWI.out _ _ _ HR9.out) ?_;rintro e w10 ⟨mv,rfl,hrow,hb10⟩
        have HB10:Hid (Below w.heap.size w w10):=trans2 HB9.out hb10
        have HZ10:Hid _:=kept_block hb10 HZ9.out
        have HN10:Hid _:=kept_block hb10 HN9.out
        obtain ⟨ga,gc,rfl,hga⟩:=slice_row hrow
        have HGA:Hid (∀ x,ga=some x→w8.heap.size≤x.block):=fun x hx=>Nat.le_trans HL9.out (hga x hx)
        have HR10:Hid (NdsAt w10 ga (ins n E)):=nds_row hrow
        clear hrow hb10 hga n0 n1 n2 n3 n4 n5 n6
        obtain ⟨n0,n1,n2,n3,n4,n5,n6⟩:=cells_7 HN10.out))
  all_goals (
   go_wp2_with fail
   go_meet
   case rel=>exact ⟨_,_,rfl,HGA,HR10,HB10,HZ10,HN10⟩)
 case rest =>
  obtain ⟨ga,gc,rfl,HGA,HRc,HBb,HZb,HNb⟩:=hcut
  have HSH2:Hid (∀ W,_):=fun W=>refShown_any (⟨u.p,d,u.v+1,u.m,st,u.o,u.k⟩:Nd) W
  have HZ8L:Hid (ob+1<w8.heap.size):=(Array.getElem?_eq_some_iff.1 HZ8.out).1
  clear n0 n1 n2 n3 n4 n5 n6
  obtain ⟨b0,b1,b2,b3,b4,b5,b6⟩:=cells_7 HZb.out
  have hfz:=free_7 HZb.out
  obtain ⟨n0,n1,n2,n3,n4,n5,n6⟩:=cells_7 HNb.out
  go_upto_region 21 with fail
  have hne:nb≠ob+1:=by omega
  have hnl:nb<wc.heap.size:=(Array.getElem?_eq_some_iff.1 HNb.out).1
  have HZL:Hid (ob+1<wc.heap.size):=(show ob+1<wc.heap.size by omega)
  have q3:nb≠wc.heap.size:=by omega
  have q4:ob+1≠wc.heap.size:=by omega
  go_region_held3 (fun w'=>w'.cell? ⟨nb,0,none⟩=some (.string u.p)∧w'.cell? ⟨nb,1,none⟩=some (.string d)∧w'.cell? ⟨nb,2,none⟩=some (.int .i64 (u.v+1))∧w'.cell? ⟨nb,3,none⟩=some (.int .i64 u.m)∧w'.cell? ⟨nb,4,none⟩=some (.int .i64 st)∧w'.cell? ⟨nb,5,none⟩=some (.int .i64 u.o)∧w'.cell? ⟨nb,6,none⟩=some (.int .i64 u.k)) (first | (simp only [World.cell?_drew,n0,n1,n2,n3,n4,n5,n6,and_self];done) | (simp only [cellN hne,World.cell?_drew,n0,n1,n2,n3,n4,n5,n6,and_self];done) | (simp only [cellA,World.size_setCell,World.size_drew,hnl,cellN hne,World.cell?_drew,n0,n1,n2,n3,n4,n5,n6,and_self];done) | go_keep)
   (first
     | (go_at_call 72;refine Calls.mono (HSH2.out _) ?_;rintro e w9 ⟨rfl,hbn⟩
        have hbn':=of_drew hbn
        have HBn:Hid (Below w.heap.size w w9):=trans2 HBb.out hbn'
        have HNn:Hid _:=kept_block hbn' HNb.out
        have HZn:Hid _:=kept_block hbn' HZb.out
        have HRn:Hid (NdsAt w9 ga (ins n E)):=HRc.out.below hbn'
        clear hbn hbn'
        clear n0 n1 n2 n3 n4 n5 n6 b0 b1 b2 b3 b4 b5 b6 hfz
        obtain ⟨n0,n1,n2,n3,n4,n5,n6⟩:=cells_7 HNn.out
        obtain ⟨b0,b1,b2,b3,b4,b5,b6⟩:=cells_7 HZn.out
        have hfz:=free_7 HZn.out
        clear hnl
        have hnl:nb<w9.heap.size:=(Array.getElem?_eq_some_iff.1 HNn.out).1
        have hzl:ob+1<w9.heap.size:=(Array.getElem?_eq_some_iff.1 HZn.out).1
        clear q3 q4
        have q3:nb≠w9.heap.size:=by omega
        have q4:ob+1≠w9.heap.size:=by omega)
     | (go_at_call 72;refine Calls.mono (HSH2.out _) ?_;rintro e w9 ⟨rfl,hbn⟩
        have hbn':=of_drew hbn
        have HBn:Hid (Below w.heap.size w w9):=trans2 (HBb.out.alloc (by have:=HBb.out.size;omega) _) hbn'
        have HNn:Hid _:=kept_block hbn' (new_old HNb.out _)
        have HZn:Hid _:=kept_block hbn' (new_old HZb.out _)
        have HCn:Hid _:=kept_block hbn' (heap_alloc_new _ _)
        have HRn:Hid (NdsAt w9 ga (ins n E)):=(HRc.out.below ((Below.refl _ _).alloc (Nat.le_refl _) _)).below hbn'
        clear hbn hbn'
        clear n0 n1 n2 n3 n4 n5 n6 b0 b1 b2 b3 b4 b5 b6 hfz
        obtain ⟨n0,n1,n2,n3,n4,n5,n6⟩:=cells_7 HNn.out
        obtain ⟨b0,b1,b2,b3,b4,b5,b6⟩:=cells_7 HZn.out
        have hfz:=free_7 HZn.out
        clear hnl
        have hnl:nb<w9.heap.size:=(Array.getElem?_eq_some_iff.1 HNn.out).1
        have hzl:ob+1<w9.heap.size:=(Array.getElem?_eq_some_iff.1 HZn.out).1
        clear q3 q4
        have q3:nb≠w9.heap.size:=by omega
        have q4:ob+1≠w9.heap.size:=by omega))
  · go_wp2_with fail
    exact bodyPost_ret (results_4c rfl _ _ (ob+1) 103 #[.string u.p,.string ⟨#[]⟩,.int .i64 (u.v+1),.int .i64 u.m,.int .i64 st,.int .i64 u.o,.slice none 0 0] (0,0) _ (.slice ga (ins n E).length gc) (.slice (some ⟨w9.heap.size,0,none⟩) 1 1) (.int .i64 0) rfl rfl rfl rfl (new_old (fill_7 HZn.out) _) Tryz.underlying103 rfl (by kernel_rfl)) rfl (OneE.chg rfl gc ((nds_put7a HRn.out (fun x hx=>by have:=HGA.out x hx;have:=HZ8L.out;omega)).below ((Below.refl _ _).alloc (Nat.le_refl _) _)) (new_at (by simp [put_7]) _) ((fillB_7 HBn.out (by rw [HOB.out];omega)).alloc (by have:=HBn.out.size;simp [put_7];omega) _))
  · go_wp2_with fail
    exact bodyPost_ret (results_4c rfl _ _ (ob+1) 103 #[.string u.p,.string ⟨#[]⟩,.int .i64 (u.v+1),.int .i64 u.m,.int .i64 st,.int .i64 u.o,.slice none 0 0] (0,0) _ (.slice ga (ins n E).length gc) (.slice (some ⟨w9.heap.size,0,none⟩) 1 1) (.int .i64 0) rfl rfl rfl rfl (new_old (fill_7 HZn.out) _) Tryz.underlying103 rfl (by kernel_rfl)) rfl (OneE.chg rfl gc ((nds_put7a HRn.out (fun x hx=>by have:=HGA.out x hx;have:=HZ8L.out;omega)).below ((Below.refl _ _).alloc (Nat.le_refl _) _)) (new_at (by simp [put_7]) _) ((fillB_7 HBn.out (by rw [HOB.out];omega)).alloc (by have:=HBn.out.size;simp [put_7];omega) _))
  · go_wp2_with fail
    exact bodyPost_ret (results_4c rfl _ _ (ob+1) 103 #[.string u.p,.string ⟨#[]⟩,.int .i64 (u.v+1),.int .i64 u.m,.int .i64 st,.int .i64 u.o,.slice none 0 0] (0,0) _ (.slice ga (ins n E).length gc) (.slice (some ⟨wc.heap.size,0,none⟩) 1 1) (.int .i64 0) rfl rfl rfl rfl (fill_7 HZn.out) Tryz.underlying103 rfl (by kernel_rfl)) rfl (OneE.chg rfl gc (nds_put7a HRn.out (fun x hx=>by have:=HGA.out x hx;have:=HZ8L.out;omega)) (fillO_7 HCn.out (by have:=HZL.out;omega)) (fillB_7 HBn.out (by rw [HOB.out];omega)))
end Go.Proofs.YtckmihplkhmpnaaGreatDoor
