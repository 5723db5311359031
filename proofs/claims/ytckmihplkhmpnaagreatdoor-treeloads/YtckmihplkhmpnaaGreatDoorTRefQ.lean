import Derived.Test.YtckmihplkhmpnaaGreatDoorTRefP
namespace Go.Proofs.YtckmihplkhmpnaaGreatDoor
open Go.RowKit Go.Maps Go.WideShapes
set_option linter.unusedVariables false
set_option linter.unusedSimpArgs false
attribute [local go_sem ↓] Go.wp_at_zero Go.wp_at_succ
set_option maxHeartbeats 8000000 in
set_option maxRecDepth 100000 in
theorem ro_mal (a:Option Addr) (c:Nat) (T:List Nd) (s st:Int) (k:Int) (p d:ByteArray) (v f:Int) (w:World) (h:NdsAt w a T) (hT:T.length≤64) (hm:malC s k p d f≠0) :
  Calls Tryz.prog 47 #[.slice a T.length c,.int .i64 s,.int .i64 st,opV k p d v f] w (OneE w (malC s k p d f,T,zr,[])):=by
 have H:Hid (NdsAt w a T):=h
 have HST:Hid (∀ W,_):=fun W=>refStatic_any s (k) p d v f W
 have HF:Hid (∀ W,Below w.heap.size w W→∀ x,Calls Tryz.prog 36 #[.slice a T.length c,.string x] W fun e w'=>e=.returned (.int .i64 (fndI T x))∧w'=W):=fun W hb x=>refFind_any a c T x W (h.below hb) (by omega)
 obtain ⟨mc,hmc⟩:∃ mc,malC s (k) p d f=mc:=⟨_,rfl⟩
 rw [hmc] at HST hm ⊢
 obtain ⟨N,hN⟩:∃ N,T.length=N:=⟨_,rfl⟩
 have HN:Hid (T.length=N):=hN
 rw [hN] at HF hT ⊢
 have hm1:(mc != 0)=true:=by simpa using hm
 clear h hN hmc hm
 go_enter Tryz.func47,Tryz.ntmps47
 go_upto_region 1 with fail
 obtain ⟨W2,hW2⟩:∃ x,(w.alloc (.cells #[.int .i64 (k),.string p,.string d,.int .i64 v,.int .i64 f] 66)).alloc (.cells #[.string ⟨#[]⟩,.string ⟨#[]⟩,.int .i64 0,.int .i64 0,.int .i64 0,.int .i64 0,.slice none 0 0] 103)=x:=⟨_,rfl⟩
 obtain ⟨ob,hob⟩:∃ x,w.heap.size=x:=⟨_,rfl⟩
 have HOB:Hid (w.heap.size=ob):=hob
 have HB2:Hid (Below w.heap.size w W2):=by rw [← hW2];exact ((Below.refl _ _).alloc (Nat.le_refl _) _).alloc (by simp) _
 have HO2:Hid (W2.heap[ob]? = some (.cells #[.int .i64 (k),.string p,.string d,.int .i64 v,.int .i64 f] 66 (0,0))):=by rw [← hW2,← hob];exact heap_alloc2_old _ _ _
 have HZ2:Hid (W2.heap[ob+1]? = some (.cells #[.string ⟨#[]⟩,.string ⟨#[]⟩,.int .i64 0,.int .i64 0,.int .i64 0,.int .i64 0,.slice none 0 0] 103 (0,0))):=by rw [← hW2,← hob];exact heap_alloc2_new _ _ _
 rw [hW2,hob]
 clear hW2 hob
 obtain ⟨o0,o1,o2,o3,o4⟩:=cells_5 HO2.out
 go_wp2_with fail
 refine Calls.mono (HST.out _) ?_
 rintro e w3 ⟨rfl,hb3⟩
 have HB3:Hid (Below w.heap.size w w3):=trans2 HB2.out hb3
 have HO3:Hid _:=kept_block hb3 HO2.out
 have HZ3:Hid _:=kept_block hb3 HZ2.out
 have hz3:ob+1<w3.heap.size:=(Array.getElem?_eq_some_iff.1 HZ3.out).1
 clear hb3 o0 o1 o2 o3 o4
 obtain ⟨o0,o1,o2,o3,o4⟩:=cells_5 HO3.out
 obtain ⟨b0,b1,b2,b3,b4,b5,b6⟩:=cells_7 HZ3.out
 have hfz:=free_7 HZ3.out
 go_wp2_with fail
 exact bodyPost_ret (results_4c rfl _ _ (ob+1) 103 #[.string ⟨#[]⟩,.string ⟨#[]⟩,.int .i64 0,.int .i64 0,.int .i64 0,.int .i64 0,.slice none 0 0] (0,0) _ (.slice a N c) (.slice none 0 0) (.int .i64 mc) rfl rfl rfl rfl (fill_7 HZ3.out) Tryz.underlying103 rfl (by kernel_rfl)) rfl (OneE.err HN.out c mc H.out (fillB_7 HB3.out (by rw [HOB.out];omega)))
set_option maxHeartbeats 8000000 in
set_option maxRecDepth 100000 in
theorem ro_40 (a:Option Addr) (c:Nat) (T:List Nd) (s st:Int) (k:Int) (p d:ByteArray) (v f:Int) (w:World) (h:NdsAt w a T) (hT:T.length≤64) (hm:malC s k p d f=0) (hk:2≤k) (hu:fndI T p=-1) :
  Calls Tryz.prog 47 #[.slice a T.length c,.int .i64 s,.int .i64 st,opV k p d v f] w (OneE w (40,T,zr,[])):=by
 have H:Hid (NdsAt w a T):=h
 have HST:Hid (∀ W,_):=fun W=>refStatic_any s (k) p d v f W
 have HF:Hid (∀ W,Below w.heap.size w W→∀ x,Calls Tryz.prog 36 #[.slice a T.length c,.string x] W fun e w'=>e=.returned (.int .i64 (fndI T x))∧w'=W):=fun W hb x=>refFind_any a c T x W (h.below hb) (by omega)
 obtain ⟨mc,hmc⟩:∃ mc,malC s (k) p d f=mc:=⟨_,rfl⟩
 rw [hmc] at HST hm
 obtain ⟨N,hN⟩:∃ N,T.length=N:=⟨_,rfl⟩
 have HN:Hid (T.length=N):=hN
 rw [hN] at HF hT ⊢
 subst hm
 have HU:Hid (fndI T p=-1):=hu
 clear hu
 clear h hN hmc
 go_enter Tryz.func47,Tryz.ntmps47
 go_upto_region 1 with fail
 obtain ⟨W2,hW2⟩:∃ x,(w.alloc (.cells #[.int .i64 (k),.string p,.string d,.int .i64 v,.int .i64 f] 66)).alloc (.cells #[.string ⟨#[]⟩,.string ⟨#[]⟩,.int .i64 0,.int .i64 0,.int .i64 0,.int .i64 0,.slice none 0 0] 103)=x:=⟨_,rfl⟩
 obtain ⟨ob,hob⟩:∃ x,w.heap.size=x:=⟨_,rfl⟩
 have HOB:Hid (w.heap.size=ob):=hob
 have HB2:Hid (Below w.heap.size w W2):=by rw [← hW2];exact ((Below.refl _ _).alloc (Nat.le_refl _) _).alloc (by simp) _
 have HO2:Hid (W2.heap[ob]? = some (.cells #[.int .i64 (k),.string p,.string d,.int .i64 v,.int .i64 f] 66 (0,0))):=by rw [← hW2,← hob];exact heap_alloc2_old _ _ _
 have HZ2:Hid (W2.heap[ob+1]? = some (.cells #[.string ⟨#[]⟩,.string ⟨#[]⟩,.int .i64 0,.int .i64 0,.int .i64 0,.int .i64 0,.slice none 0 0] 103 (0,0))):=by rw [← hW2,← hob];exact heap_alloc2_new _ _ _
 rw [hW2,hob]
 clear hW2 hob
 obtain ⟨o0,o1,o2,o3,o4⟩:=cells_5 HO2.out
 go_wp2_with fail
 refine Calls.mono (HST.out _) ?_
 rintro e w3 ⟨rfl,hb3⟩
 have HB3:Hid (Below w.heap.size w w3):=trans2 HB2.out hb3
 have HO3:Hid _:=kept_block hb3 HO2.out
 have HZ3:Hid _:=kept_block hb3 HZ2.out
 have hz3:ob+1<w3.heap.size:=(Array.getElem?_eq_some_iff.1 HZ3.out).1
 clear hb3 o0 o1 o2 o3 o4
 obtain ⟨o0,o1,o2,o3,o4⟩:=cells_5 HO3.out
 obtain ⟨b0,b1,b2,b3,b4,b5,b6⟩:=cells_7 HZ3.out
 have hfz:=free_7 HZ3.out
 have e1:((k:Int)==1)=false:=by simp ;omega
 go_wp2_with fail
 refine Calls.mono (HF.out _ HB3.out _) ?_
 rintro e w4 ⟨rfl,hw4⟩
 subst hw4
 rw [HU.out]
 go_wp2_with fail
 exact bodyPost_ret (results_4c rfl _ _ (ob+1) 103 #[.string ⟨#[]⟩,.string ⟨#[]⟩,.int .i64 0,.int .i64 0,.int .i64 0,.int .i64 0,.slice none 0 0] (0,0) _ (.slice a N c) (.slice none 0 0) (.int .i64 40) rfl rfl rfl rfl (fill_7 HZ3.out) Tryz.underlying103 rfl (by kernel_rfl)) rfl (OneE.err HN.out c 40 H.out (fillB_7 HB3.out (by rw [HOB.out];omega)))
set_option maxHeartbeats 8000000 in
set_option maxRecDepth 100000 in
theorem ro_42 (a:Option Addr) (c:Nat) (T:List Nd) (s st:Int) (k:Int) (p d:ByteArray) (v f:Int) (u:Nd) (q:Nat) (w:World) (h:NdsAt w a T) (hT:T.length≤64) (hm:malC s k p d f=0) (hk:2≤k∧k≤4) (hq:T[q]? = some u) (hu:fndI T p=q) (hv:(v != -1)=true) (hv2:(v != u.v)=true) :
  Calls Tryz.prog 47 #[.slice a T.length c,.int .i64 s,.int .i64 st,opV k p d v f] w (OneE w (42,T,zr,[])):=by
 have H:Hid (NdsAt w a T):=h
 have HST:Hid (∀ W,_):=fun W=>refStatic_any s (k) p d v f W
 have HF:Hid (∀ W,Below w.heap.size w W→∀ x,Calls Tryz.prog 36 #[.slice a T.length c,.string x] W fun e w'=>e=.returned (.int .i64 (fndI T x))∧w'=W):=fun W hb x=>refFind_any a c T x W (h.below hb) (by omega)
 obtain ⟨mc,hmc⟩:∃ mc,malC s (k) p d f=mc:=⟨_,rfl⟩
 rw [hmc] at HST hm
 obtain ⟨N,hN⟩:∃ N,T.length=N:=⟨_,rfl⟩
 have HN:Hid (T.length=N):=hN
 rw [hN] at HF hT ⊢
 subst hm
 have HU:Hid (fndI T p=(q:Int)):=hu
 have HQ:Hid (T[q]? = some u):=hq
 have hqN:q<N:=by rw [← hN];exact (List.getElem?_eq_some_iff.1 hq).1
 have hq0:¬ (q:Int)<0:=by omega
 obtain ⟨gb,gf,rfl⟩:=h.some hq
 clear hq hu
 clear h hN hmc
 go_enter Tryz.func47,Tryz.ntmps47
 go_upto_region 1 with fail
 obtain ⟨W2,hW2⟩:∃ x,(w.alloc (.cells #[.int .i64 (k),.string p,.string d,.int .i64 v,.int .i64 f] 66)).alloc (.cells #[.string ⟨#[]⟩,.string ⟨#[]⟩,.int .i64 0,.int .i64 0,.int .i64 0,.int .i64 0,.slice none 0 0] 103)=x:=⟨_,rfl⟩
 obtain ⟨ob,hob⟩:∃ x,w.heap.size=x:=⟨_,rfl⟩
 have HOB:Hid (w.heap.size=ob):=hob
 have HB2:Hid (Below w.heap.size w W2):=by rw [← hW2];exact ((Below.refl _ _).alloc (Nat.le_refl _) _).alloc (by simp) _
 have HO2:Hid (W2.heap[ob]? = some (.cells #[.int .i64 (k),.string p,.string d,.int .i64 v,.int .i64 f] 66 (0,0))):=by rw [← hW2,← hob];exact heap_alloc2_old _ _ _
 have HZ2:Hid (W2.heap[ob+1]? = some (.cells #[.string ⟨#[]⟩,.string ⟨#[]⟩,.int .i64 0,.int .i64 0,.int .i64 0,.int .i64 0,.slice none 0 0] 103 (0,0))):=by rw [← hW2,← hob];exact heap_alloc2_new _ _ _
 rw [hW2,hob]
 clear hW2 hob
 obtain ⟨o0,o1,o2,o3,o4⟩:=cells_5 HO2.out
 go_wp2_with fail
 refine Calls.mono (HST.out _) ?_
 rintro e w3 ⟨rfl,hb3⟩
 have HB3:Hid (Below w.heap.size w w3):=trans2 HB2.out hb3
 have HO3:Hid _:=kept_block hb3 HO2.out
 have HZ3:Hid _:=kept_block hb3 HZ2.out
 have hz3:ob+1<w3.heap.size:=(Array.getElem?_eq_some_iff.1 HZ3.out).1
 clear hb3 o0 o1 o2 o3 o4
 obtain ⟨o0,o1,o2,o3,o4⟩:=cells_5 HO3.out
 obtain ⟨b0,b1,b2,b3,b4,b5,b6⟩:=cells_7 HZ3.out
 have hfz:=free_7 HZ3.out
 have e1:((k:Int)==1)=false:=by simp ;omega
 go_wp2_with fail
 refine Calls.mono (HF.out _ HB3.out _) ?_
 rintro e w4 ⟨rfl,hw4⟩
 subst hw4
 rw [HU.out]
 obtain ⟨hgb,x0,x1,x2,x3,x4,x5,x6⟩:=(H.out.below HB3.out).cells HQ.out
 go_upto_region 10 with fail
 obtain ⟨w5,hw5⟩:∃ x,w4.alloc (.cells #[.string u.p,.string u.d,.int .i64 u.v,.int .i64 u.m,.int .i64 u.c,.int .i64 u.o,.int .i64 u.k] 26)=x:=⟨_,rfl⟩
 obtain ⟨nb,hnb⟩:∃ x,w4.heap.size=x:=⟨_,rfl⟩
 have hnz:ob+1<nb:=by omega
 have HB5:Hid (Below w.heap.size w w5):=by rw [← hw5];exact HB3.out.alloc (by have:=HB3.out.size;omega) _
 have HO5:Hid (w5.heap[ob]? = some (.cells #[.int .i64 (k),.string p,.string d,.int .i64 v,.int .i64 f] 66 (0,0))):=by rw [← hw5];exact new_old HO3.out _
 have HZ5:Hid (w5.heap[ob+1]? = some (.cells #[.string ⟨#[]⟩,.string ⟨#[]⟩,.int .i64 0,.int .i64 0,.int .i64 0,.int .i64 0,.slice none 0 0] 103 (0,0))):=by rw [← hw5];exact new_old HZ3.out _
 have HN5:Hid (w5.heap[nb]? = some (.cells #[.string u.p,.string u.d,.int .i64 u.v,.int .i64 u.m,.int .i64 u.c,.int .i64 u.o,.int .i64 u.k] 26 (0,0))):=by rw [← hw5,← hnb];exact heap_alloc_new _ _
 rw [hw5,hnb]
 clear hw5 hnb hz3 o0 o1 o2 o3 o4 b0 b1 b2 b3 b4 b5 b6 hfz x0 x1 x2 x3 x4 x5 x6 hgb
 obtain ⟨o0,o1,o2,o3,o4⟩:=cells_5 HO5.out
 obtain ⟨b0,b1,b2,b3,b4,b5,b6⟩:=cells_7 HZ5.out
 have hfz:=free_7 HZ5.out
 obtain ⟨n0,n1,n2,n3,n4,n5,n6⟩:=cells_7 HN5.out
 have k4:k≤4:=by omega
 go_wp2_with fail
 exact bodyPost_ret (results_4c rfl _ _ (ob+1) 103 #[.string ⟨#[]⟩,.string ⟨#[]⟩,.int .i64 0,.int .i64 0,.int .i64 0,.int .i64 0,.slice none 0 0] (0,0) _ (.slice (some ⟨gb,gf,none⟩) N c) (.slice none 0 0) (.int .i64 42) rfl rfl rfl rfl (fill_7 HZ5.out) Tryz.underlying103 rfl (by kernel_rfl)) rfl (OneE.err HN.out c 42 H.out (fillB_7 HB5.out (by rw [HOB.out];omega)))
set_option maxHeartbeats 8000000 in
set_option maxRecDepth 100000 in
theorem ro_46m (a:Option Addr) (c:Nat) (T:List Nd) (s st:Int) (p d:ByteArray) (v f:Int) (u:Nd) (q:Nat) (w:World) (h:NdsAt w a T) (hT:T.length≤64) (hm:malC s 2 p d f=0) (hq:T[q]? = some u) (hu:fndI T p=q) (hv:(v != -1)=false) (hx:2147483647≤u.v) :
  Calls Tryz.prog 47 #[.slice a T.length c,.int .i64 s,.int .i64 st,opV 2 p d v f] w (OneE w (46,T,zr,[])):=by
 have H:Hid (NdsAt w a T):=h
 have HST:Hid (∀ W,_):=fun W=>refStatic_any s (2) p d v f W
 have HF:Hid (∀ W,Below w.heap.size w W→∀ x,Calls Tryz.prog 36 #[.slice a T.length c,.string x] W fun e w'=>e=.returned (.int .i64 (fndI T x))∧w'=W):=fun W hb x=>refFind_any a c T x W (h.below hb) (by omega)
 obtain ⟨mc,hmc⟩:∃ mc,malC s (2) p d f=mc:=⟨_,rfl⟩
 rw [hmc] at HST hm
 obtain ⟨N,hN⟩:∃ N,T.length=N:=⟨_,rfl⟩
 have HN:Hid (T.length=N):=hN
 rw [hN] at HF hT ⊢
 subst hm
 have HU:Hid (fndI T p=(q:Int)):=hu
 have HQ:Hid (T[q]? = some u):=hq
 have hqN:q<N:=by rw [← hN];exact (List.getElem?_eq_some_iff.1 hq).1
 have hq0:¬ (q:Int)<0:=by omega
 obtain ⟨gb,gf,rfl⟩:=h.some hq
 clear hq hu
 clear h hN hmc
 go_enter Tryz.func47,Tryz.ntmps47
 go_upto_region 1 with fail
 obtain ⟨W2,hW2⟩:∃ x,(w.alloc (.cells #[.int .i64 (2),.string p,.string d,.int .i64 v,.int .i64 f] 66)).alloc (.cells #[.string ⟨#[]⟩,.string ⟨#[]⟩,.int .i64 0,.int .i64 0,.int .i64 0,.int .i64 0,.slice none 0 0] 103)=x:=⟨_,rfl⟩
 obtain ⟨ob,hob⟩:∃ x,w.heap.size=x:=⟨_,rfl⟩
 have HOB:Hid (w.heap.size=ob):=hob
 have HB2:Hid (Below w.heap.size w W2):=by rw [← hW2];exact ((Below.refl _ _).alloc (Nat.le_refl _) _).alloc (by simp) _
 have HO2:Hid (W2.heap[ob]? = some (.cells #[.int .i64 (2),.string p,.string d,.int .i64 v,.int .i64 f] 66 (0,0))):=by rw [← hW2,← hob];exact heap_alloc2_old _ _ _
 have HZ2:Hid (W2.heap[ob+1]? = some (.cells #[.string ⟨#[]⟩,.string ⟨#[]⟩,.int .i64 0,.int .i64 0,.int .i64 0,.int .i64 0,.slice none 0 0] 103 (0,0))):=by rw [← hW2,← hob];exact heap_alloc2_new _ _ _
 rw [hW2,hob]
 clear hW2 hob
 obtain ⟨o0,o1,o2,o3,o4⟩:=cells_5 HO2.out
 go_wp2_with fail
 refine Calls.mono (HST.out _) ?_
 rintro e w3 ⟨rfl,hb3⟩
 have HB3:Hid (Below w.heap.size w w3):=trans2 HB2.out hb3
 have HO3:Hid _:=kept_block hb3 HO2.out
 have HZ3:Hid _:=kept_block hb3 HZ2.out
 have hz3:ob+1<w3.heap.size:=(Array.getElem?_eq_some_iff.1 HZ3.out).1
 clear hb3 o0 o1 o2 o3 o4
 obtain ⟨o0,o1,o2,o3,o4⟩:=cells_5 HO3.out
 obtain ⟨b0,b1,b2,b3,b4,b5,b6⟩:=cells_7 HZ3.out
 have hfz:=free_7 HZ3.out
 have e1:((2:Int)==1)=false:=by simp
 go_wp2_with fail
 refine Calls.mono (HF.out _ HB3.out _) ?_
 rintro e w4 ⟨rfl,hw4⟩
 subst hw4
 rw [HU.out]
 obtain ⟨hgb,x0,x1,x2,x3,x4,x5,x6⟩:=(H.out.below HB3.out).cells HQ.out
 go_upto_region 10 with fail
 obtain ⟨w5,hw5⟩:∃ x,w4.alloc (.cells #[.string u.p,.string u.d,.int .i64 u.v,.int .i64 u.m,.int .i64 u.c,.int .i64 u.o,.int .i64 u.k] 26)=x:=⟨_,rfl⟩
 obtain ⟨nb,hnb⟩:∃ x,w4.heap.size=x:=⟨_,rfl⟩
 have hnz:ob+1<nb:=by omega
 have HB5:Hid (Below w.heap.size w w5):=by rw [← hw5];exact HB3.out.alloc (by have:=HB3.out.size;omega) _
 have HO5:Hid (w5.heap[ob]? = some (.cells #[.int .i64 (2),.string p,.string d,.int .i64 v,.int .i64 f] 66 (0,0))):=by rw [← hw5];exact new_old HO3.out _
 have HZ5:Hid (w5.heap[ob+1]? = some (.cells #[.string ⟨#[]⟩,.string ⟨#[]⟩,.int .i64 0,.int .i64 0,.int .i64 0,.int .i64 0,.slice none 0 0] 103 (0,0))):=by rw [← hw5];exact new_old HZ3.out _
 have HN5:Hid (w5.heap[nb]? = some (.cells #[.string u.p,.string u.d,.int .i64 u.v,.int .i64 u.m,.int .i64 u.c,.int .i64 u.o,.int .i64 u.k] 26 (0,0))):=by rw [← hw5,← hnb];exact heap_alloc_new _ _
 rw [hw5,hnb]
 clear hw5 hnb hz3 o0 o1 o2 o3 o4 b0 b1 b2 b3 b4 b5 b6 hfz x0 x1 x2 x3 x4 x5 x6 hgb
 obtain ⟨o0,o1,o2,o3,o4⟩:=cells_5 HO5.out
 obtain ⟨b0,b1,b2,b3,b4,b5,b6⟩:=cells_7 HZ5.out
 have hfz:=free_7 HZ5.out
 obtain ⟨n0,n1,n2,n3,n4,n5,n6⟩:=cells_7 HN5.out
 have HSH:Hid (∀ W,_):=fun W=>refShown_any u W
 go_upto_region 13 with (go_at_call 72;refine Calls.mono (HSH.out _) ?_;rintro e w6 ⟨rfl,hb6⟩
                         have HB6:Hid (Below w.heap.size w w6):=trans2 HB5.out hb6
                         have HO6:Hid _:=kept_block hb6 HO5.out
                         have HZ6:Hid _:=kept_block hb6 HZ5.out
                         have HN6:Hid _:=kept_block hb6 HN5.out
                         clear hb6 o0 o1 o2 o3 o4 b0 b1 b2 b3 b4 b5 b6 hfz n0 n1 n2 n3 n4 n5 n6)
 obtain ⟨w7,hw7⟩:∃ x,w6.alloc (.cells #[.string u.p,.string ⟨#[]⟩,.int .i64 u.v,.int .i64 u.m,.int .i64 u.c,.int .i64 u.o,.slice none 0 0] 103)=x:=⟨_,rfl⟩
 obtain ⟨rb,hrb⟩:∃ x,w6.heap.size=x:=⟨_,rfl⟩
 have hnl6:nb<w6.heap.size:=(Array.getElem?_eq_some_iff.1 HN6.out).1
 have hrz:nb<rb:=by omega
 have HB7:Hid (Below w.heap.size w w7):=by rw [← hw7];exact HB6.out.alloc (by have:=HB6.out.size;omega) _
 have HO7:Hid (w7.heap[ob]? = some (.cells #[.int .i64 (2),.string p,.string d,.int .i64 v,.int .i64 f] 66 (0,0))):=by rw [← hw7];exact new_old HO6.out _
 have HZ7:Hid (w7.heap[ob+1]? = some (.cells #[.string ⟨#[]⟩,.string ⟨#[]⟩,.int .i64 0,.int .i64 0,.int .i64 0,.int .i64 0,.slice none 0 0] 103 (0,0))):=by rw [← hw7];exact new_old HZ6.out _
 have HN7:Hid (w7.heap[nb]? = some (.cells #[.string u.p,.string u.d,.int .i64 u.v,.int .i64 u.m,.int .i64 u.c,.int .i64 u.o,.int .i64 u.k] 26 (0,0))):=by rw [← hw7];exact new_old HN6.out _
 have HR7:Hid (w7.heap[rb]? = some (.cells #[.string u.p,.string ⟨#[]⟩,.int .i64 u.v,.int .i64 u.m,.int .i64 u.c,.int .i64 u.o,.slice none 0 0] 103 (0,0))):=by rw [← hw7,← hrb];exact heap_alloc_new _ _
 rw [hw7,hrb]
 clear hw7 hrb hnl6
 obtain ⟨o0,o1,o2,o3,o4⟩:=cells_5 HO7.out
 obtain ⟨b0,b1,b2,b3,b4,b5,b6⟩:=cells_7 HZ7.out
 have hfz:=free_7 HZ7.out
 obtain ⟨n0,n1,n2,n3,n4,n5,n6⟩:=cells_7 HN7.out
 have hfn:=free_7 HN7.out
 go_wp2_with fail
 exact bodyPost_ret (results_4c rfl _ _ (ob+1) 103 #[.string ⟨#[]⟩,.string ⟨#[]⟩,.int .i64 0,.int .i64 0,.int .i64 0,.int .i64 0,.slice none 0 0] (0,0) _ (.slice (some ⟨gb,gf,none⟩) N c) (.slice none 0 0) (.int .i64 46) rfl rfl rfl rfl (fill_7 HZ7.out) Tryz.underlying103 rfl (by kernel_rfl)) rfl (OneE.err HN.out c 46 H.out (fillB_7 HB7.out (by rw [HOB.out];omega)))
set_option maxHeartbeats 8000000 in
set_option maxRecDepth 100000 in
theorem ro_43m (a:Option Addr) (c:Nat) (T:List Nd) (s st:Int) (p d:ByteArray) (v f:Int) (u:Nd) (q:Nat) (w:World) (h:NdsAt w a T) (hT:T.length≤64) (hm:malC s 3 p d f=0) (hq:T[q]? = some u) (hu:fndI T p=q) (hv:(v != -1)=false) (hkd:kidsR T u.p≠[]) :
  Calls Tryz.prog 47 #[.slice a T.length c,.int .i64 s,.int .i64 st,opV 3 p d v f] w (OneE w (43,T,zr,[])):=by
 have HKI:Hid (∀ W,Below w.heap.size w W→Calls Tryz.prog 75 #[.slice a T.length c,.string u.p] W fun e w'=>∃ v,e=.returned v∧w'.ownsRow W.heap.size 9 1 v (kidsR T u.p).length ((kidsR T u.p).map .string)∧Below W.heap.size W w'):=fun W hb=>refKids_any a c T u.p W (h.below hb) (by omega)
 obtain ⟨KL,hKL⟩:∃ KL,kidsR T u.p=KL:=⟨_,rfl⟩
 rw [hKL] at HKI hkd
 have hkl0:KL.length≠0:=by simpa using hkd
 have hkl:(0:Int)<(KL.length:Int):=by omega
 clear hKL hkd
 have H:Hid (NdsAt w a T):=h
 have HST:Hid (∀ W,_):=fun W=>refStatic_any s (3) p d v f W
 have HF:Hid (∀ W,Below w.heap.size w W→∀ x,Calls Tryz.prog 36 #[.slice a T.length c,.string x] W fun e w'=>e=.returned (.int .i64 (fndI T x))∧w'=W):=fun W hb x=>refFind_any a c T x W (h.below hb) (by omega)
 obtain ⟨mc,hmc⟩:∃ mc,malC s (3) p d f=mc:=⟨_,rfl⟩
 rw [hmc] at HST hm
 obtain ⟨N,hN⟩:∃ N,T.length=N:=⟨_,rfl⟩
 have HN:Hid (T.length=N):=hN
 rw [hN] at HF hT HKI ⊢
 subst hm
 have HU:Hid (fndI T p=(q:Int)):=hu
 have HQ:Hid (T[q]? = some u):=hq
 have hqN:q<N:=by rw [← hN];exact (List.getElem?_eq_some_iff.1 hq).1
 have hq0:¬ (q:Int)<0:=by omega
 obtain ⟨gb,gf,rfl⟩:=h.some hq
 clear hq hu
 clear h hN hmc
 go_enter Tryz.func47,Tryz.ntmps47
 go_upto_region 1 with fail
 obtain ⟨W2,hW2⟩:∃ x,(w.alloc (.cells #[.int .i64 (3),.string p,.string d,.int .i64 v,.int .i64 f] 66)).alloc (.cells #[.string ⟨#[]⟩,.string ⟨#[]⟩,.int .i64 0,.int .i64 0,.int .i64 0,.int .i64 0,.slice none 0 0] 103)=x:=⟨_,rfl⟩
 obtain ⟨ob,hob⟩:∃ x,w.heap.size=x:=⟨_,rfl⟩
 have HOB:Hid (w.heap.size=ob):=hob
 have HB2:Hid (Below w.heap.size w W2):=by rw [← hW2];exact ((Below.refl _ _).alloc (Nat.le_refl _) _).alloc (by simp) _
 have HO2:Hid (W2.heap[ob]? = some (.cells #[.int .i64 (3),.string p,.string d,.int .i64 v,.int .i64 f] 66 (0,0))):=by rw [← hW2,← hob];exact heap_alloc2_old _ _ _
 have HZ2:Hid (W2.heap[ob+1]? = some (.cells #[.string ⟨#[]⟩,.string ⟨#[]⟩,.int .i64 0,.int .i64 0,.int .i64 0,.int .i64 0,.slice none 0 0] 103 (0,0))):=by rw [← hW2,← hob];exact heap_alloc2_new _ _ _
 rw [hW2,hob]
 clear hW2 hob
 obtain ⟨o0,o1,o2,o3,o4⟩:=cells_5 HO2.out
 go_wp2_with fail
 refine Calls.mono (HST.out _) ?_
 rintro e w3 ⟨rfl,hb3⟩
 have HB3:Hid (Below w.heap.size w w3):=trans2 HB2.out hb3
 have HO3:Hid _:=kept_block hb3 HO2.out
 have HZ3:Hid _:=kept_block hb3 HZ2.out
 have hz3:ob+1<w3.heap.size:=(Array.getElem?_eq_some_iff.1 HZ3.out).1
 clear hb3 o0 o1 o2 o3 o4
 obtain ⟨o0,o1,o2,o3,o4⟩:=cells_5 HO3.out
 obtain ⟨b0,b1,b2,b3,b4,b5,b6⟩:=cells_7 HZ3.out
 have hfz:=free_7 HZ3.out
 have e1:((3:Int)==1)=false:=by simp
 go_wp2_with fail
 refine Calls.mono (HF.out _ HB3.out _) ?_
 rintro e w4 ⟨rfl,hw4⟩
 subst hw4
 rw [HU.out]
 obtain ⟨hgb,x0,x1,x2,x3,x4,x5,x6⟩:=(H.out.below HB3.out).cells HQ.out
 go_upto_region 10 with fail
 obtain ⟨w5,hw5⟩:∃ x,w4.alloc (.cells #[.string u.p,.string u.d,.int .i64 u.v,.int .i64 u.m,.int .i64 u.c,.int .i64 u.o,.int .i64 u.k] 26)=x:=⟨_,rfl⟩
 obtain ⟨nb,hnb⟩:∃ x,w4.heap.size=x:=⟨_,rfl⟩
 have hnz:ob+1<nb:=by omega
 have HB5:Hid (Below w.heap.size w w5):=by rw [← hw5];exact HB3.out.alloc (by have:=HB3.out.size;omega) _
 have HO5:Hid (w5.heap[ob]? = some (.cells #[.int .i64 (3),.string p,.string d,.int .i64 v,.int .i64 f] 66 (0,0))):=by rw [← hw5];exact new_old HO3.out _
 have HZ5:Hid (w5.heap[ob+1]? = some (.cells #[.string ⟨#[]⟩,.string ⟨#[]⟩,.int .i64 0,.int .i64 0,.int .i64 0,.int .i64 0,.slice none 0 0] 103 (0,0))):=by rw [← hw5];exact new_old HZ3.out _
 have HN5:Hid (w5.heap[nb]? = some (.cells #[.string u.p,.string u.d,.int .i64 u.v,.int .i64 u.m,.int .i64 u.c,.int .i64 u.o,.int .i64 u.k] 26 (0,0))):=by rw [← hw5,← hnb];exact heap_alloc_new _ _
 rw [hw5,hnb]
 clear hw5 hnb hz3 o0 o1 o2 o3 o4 b0 b1 b2 b3 b4 b5 b6 hfz x0 x1 x2 x3 x4 x5 x6 hgb
 obtain ⟨o0,o1,o2,o3,o4⟩:=cells_5 HO5.out
 obtain ⟨b0,b1,b2,b3,b4,b5,b6⟩:=cells_7 HZ5.out
 have hfz:=free_7 HZ5.out
 obtain ⟨n0,n1,n2,n3,n4,n5,n6⟩:=cells_7 HN5.out
 have HSH:Hid (∀ W,_):=fun W=>refShown_any u W
 go_upto_region 13 with (go_at_call 72;refine Calls.mono (HSH.out _) ?_;rintro e w6 ⟨rfl,hb6⟩
                         have HB6:Hid (Below w.heap.size w w6):=trans2 HB5.out hb6
                         have HO6:Hid _:=kept_block hb6 HO5.out
                         have HZ6:Hid _:=kept_block hb6 HZ5.out
                         have HN6:Hid _:=kept_block hb6 HN5.out
                         clear hb6 o0 o1 o2 o3 o4 b0 b1 b2 b3 b4 b5 b6 hfz n0 n1 n2 n3 n4 n5 n6)
 obtain ⟨w7,hw7⟩:∃ x,w6.alloc (.cells #[.string u.p,.string ⟨#[]⟩,.int .i64 u.v,.int .i64 u.m,.int .i64 u.c,.int .i64 u.o,.slice none 0 0] 103)=x:=⟨_,rfl⟩
 obtain ⟨rb,hrb⟩:∃ x,w6.heap.size=x:=⟨_,rfl⟩
 have hnl6:nb<w6.heap.size:=(Array.getElem?_eq_some_iff.1 HN6.out).1
 have hrz:nb<rb:=by omega
 have HB7:Hid (Below w.heap.size w w7):=by rw [← hw7];exact HB6.out.alloc (by have:=HB6.out.size;omega) _
 have HO7:Hid (w7.heap[ob]? = some (.cells #[.int .i64 (3),.string p,.string d,.int .i64 v,.int .i64 f] 66 (0,0))):=by rw [← hw7];exact new_old HO6.out _
 have HZ7:Hid (w7.heap[ob+1]? = some (.cells #[.string ⟨#[]⟩,.string ⟨#[]⟩,.int .i64 0,.int .i64 0,.int .i64 0,.int .i64 0,.slice none 0 0] 103 (0,0))):=by rw [← hw7];exact new_old HZ6.out _
 have HN7:Hid (w7.heap[nb]? = some (.cells #[.string u.p,.string u.d,.int .i64 u.v,.int .i64 u.m,.int .i64 u.c,.int .i64 u.o,.int .i64 u.k] 26 (0,0))):=by rw [← hw7];exact new_old HN6.out _
 have HR7:Hid (w7.heap[rb]? = some (.cells #[.string u.p,.string ⟨#[]⟩,.int .i64 u.v,.int .i64 u.m,.int .i64 u.c,.int .i64 u.o,.slice none 0 0] 103 (0,0))):=by rw [← hw7,← hrb];exact heap_alloc_new _ _
 rw [hw7,hrb]
 clear hw7 hrb hnl6
 obtain ⟨o0,o1,o2,o3,o4⟩:=cells_5 HO7.out
 obtain ⟨b0,b1,b2,b3,b4,b5,b6⟩:=cells_7 HZ7.out
 have hfz:=free_7 HZ7.out
 obtain ⟨n0,n1,n2,n3,n4,n5,n6⟩:=cells_7 HN7.out
 have hfn:=free_7 HN7.out
 go_wp2_with fail
 refine Calls.mono (HKI.out _ HB7.out) ?_
 rintro e w8 ⟨kv,rfl,hrow,hb8⟩
 have HB8:Hid (Below w.heap.size w w8):=trans2 HB7.out hb8
 have HZ8:Hid _:=kept_block hb8 HZ7.out
 obtain ⟨ka,kc,rfl⟩:∃ a c,kv=.slice a KL.length c:=by
  rcases hrow.2 with ⟨rfl,h0⟩ | ⟨g,cap,cur,rfl,_⟩
  · exact ⟨_,_,by rw [h0]⟩
  · exact ⟨_,_,rfl⟩
 clear hb8 hrow b0 b1 b2 b3 b4 b5 b6 hfz n0 n1 n2 n3 n4 n5 n6 hfn o0 o1 o2 o3 o4
 obtain ⟨b0,b1,b2,b3,b4,b5,b6⟩:=cells_7 HZ8.out
 have hfz:=free_7 HZ8.out
 go_wp2_with fail
 exact bodyPost_ret (results_4c rfl _ _ (ob+1) 103 #[.string ⟨#[]⟩,.string ⟨#[]⟩,.int .i64 0,.int .i64 0,.int .i64 0,.int .i64 0,.slice none 0 0] (0,0) _ (.slice (some ⟨gb,gf,none⟩) N c) (.slice none 0 0) (.int .i64 43) rfl rfl rfl rfl (fill_7 HZ8.out) Tryz.underlying103 rfl (by kernel_rfl)) rfl (OneE.err HN.out c 43 H.out (fillB_7 HB8.out (by rw [HOB.out];omega)))
set_option maxHeartbeats 8000000 in
set_option maxRecDepth 100000 in
theorem ro_46e (a:Option Addr) (c:Nat) (T:List Nd) (s st:Int) (p d:ByteArray) (v f:Int) (u:Nd) (q:Nat) (w:World) (h:NdsAt w a T) (hT:T.length≤64) (hm:malC s 2 p d f=0) (hq:T[q]? = some u) (hu:fndI T p=q) (hv:(v != -1)=true) (hv2:(v != u.v)=false) (hx:2147483647≤u.v) :
  Calls Tryz.prog 47 #[.slice a T.length c,.int .i64 s,.int .i64 st,opV 2 p d v f] w (OneE w (46,T,zr,[])):=by
 have H:Hid (NdsAt w a T):=h
 have HST:Hid (∀ W,_):=fun W=>refStatic_any s (2) p d v f W
 have HF:Hid (∀ W,Below w.heap.size w W→∀ x,Calls Tryz.prog 36 #[.slice a T.length c,.string x] W fun e w'=>e=.returned (.int .i64 (fndI T x))∧w'=W):=fun W hb x=>refFind_any a c T x W (h.below hb) (by omega)
 obtain ⟨mc,hmc⟩:∃ mc,malC s (2) p d f=mc:=⟨_,rfl⟩
 rw [hmc] at HST hm
 obtain ⟨N,hN⟩:∃ N,T.length=N:=⟨_,rfl⟩
 have HN:Hid (T.length=N):=hN
 rw [hN] at HF hT ⊢
 subst hm
 have HU:Hid (fndI T p=(q:Int)):=hu
 have HQ:Hid (T[q]? = some u):=hq
 have hqN:q<N:=by rw [← hN];exact (List.getElem?_eq_some_iff.1 hq).1
 have hq0:¬ (q:Int)<0:=by omega
 obtain ⟨gb,gf,rfl⟩:=h.some hq
 clear hq hu
 clear h hN hmc
 go_enter Tryz.func47,Tryz.ntmps47
 go_upto_region 1 with fail
 obtain ⟨W2,hW2⟩:∃ x,(w.alloc (.cells #[.int .i64 (2),.string p,.string d,.int .i64 v,.int .i64 f] 66)).alloc (.cells #[.string ⟨#[]⟩,.string ⟨#[]⟩,.int .i64 0,.int .i64 0,.int .i64 0,.int .i64 0,.slice none 0 0] 103)=x:=⟨_,rfl⟩
 obtain ⟨ob,hob⟩:∃ x,w.heap.size=x:=⟨_,rfl⟩
 have HOB:Hid (w.heap.size=ob):=hob
 have HB2:Hid (Below w.heap.size w W2):=by rw [← hW2];exact ((Below.refl _ _).alloc (Nat.le_refl _) _).alloc (by simp) _
 have HO2:Hid (W2.heap[ob]? = some (.cells #[.int .i64 (2),.string p,.string d,.int .i64 v,.int .i64 f] 66 (0,0))):=by rw [← hW2,← hob];exact heap_alloc2_old _ _ _
 have HZ2:Hid (W2.heap[ob+1]? = some (.cells #[.string ⟨#[]⟩,.string ⟨#[]⟩,.int .i64 0,.int .i64 0,.int .i64 0,.int .i64 0,.slice none 0 0] 103 (0,0))):=by rw [← hW2,← hob];exact heap_alloc2_new _ _ _
 rw [hW2,hob]
 clear hW2 hob
 obtain ⟨o0,o1,o2,o3,o4⟩:=cells_5 HO2.out
 go_wp2_with fail
 refine Calls.mono (HST.out _) ?_
 rintro e w3 ⟨rfl,hb3⟩
 have HB3:Hid (Below w.heap.size w w3):=trans2 HB2.out hb3
 have HO3:Hid _:=kept_block hb3 HO2.out
 have HZ3:Hid _:=kept_block hb3 HZ2.out
 have hz3:ob+1<w3.heap.size:=(Array.getElem?_eq_some_iff.1 HZ3.out).1
 clear hb3 o0 o1 o2 o3 o4
 obtain ⟨o0,o1,o2,o3,o4⟩:=cells_5 HO3.out
 obtain ⟨b0,b1,b2,b3,b4,b5,b6⟩:=cells_7 HZ3.out
 have hfz:=free_7 HZ3.out
 have e1:((2:Int)==1)=false:=by simp
 go_wp2_with fail
 refine Calls.mono (HF.out _ HB3.out _) ?_
 rintro e w4 ⟨rfl,hw4⟩
 subst hw4
 rw [HU.out]
 obtain ⟨hgb,x0,x1,x2,x3,x4,x5,x6⟩:=(H.out.below HB3.out).cells HQ.out
 go_upto_region 10 with fail
 obtain ⟨w5,hw5⟩:∃ x,w4.alloc (.cells #[.string u.p,.string u.d,.int .i64 u.v,.int .i64 u.m,.int .i64 u.c,.int .i64 u.o,.int .i64 u.k] 26)=x:=⟨_,rfl⟩
 obtain ⟨nb,hnb⟩:∃ x,w4.heap.size=x:=⟨_,rfl⟩
 have hnz:ob+1<nb:=by omega
 have HB5:Hid (Below w.heap.size w w5):=by rw [← hw5];exact HB3.out.alloc (by have:=HB3.out.size;omega) _
 have HO5:Hid (w5.heap[ob]? = some (.cells #[.int .i64 (2),.string p,.string d,.int .i64 v,.int .i64 f] 66 (0,0))):=by rw [← hw5];exact new_old HO3.out _
 have HZ5:Hid (w5.heap[ob+1]? = some (.cells #[.string ⟨#[]⟩,.string ⟨#[]⟩,.int .i64 0,.int .i64 0,.int .i64 0,.int .i64 0,.slice none 0 0] 103 (0,0))):=by rw [← hw5];exact new_old HZ3.out _
 have HN5:Hid (w5.heap[nb]? = some (.cells #[.string u.p,.string u.d,.int .i64 u.v,.int .i64 u.m,.int .i64 u.c,.int .i64 u.o,.int .i64 u.k] 26 (0,0))):=by rw [← hw5,← hnb];exact heap_alloc_new _ _
 rw [hw5,hnb]
 clear hw5 hnb hz3 o0 o1 o2 o3 o4 b0 b1 b2 b3 b4 b5 b6 hfz x0 x1 x2 x3 x4 x5 x6 hgb
 obtain ⟨o0,o1,o2,o3,o4⟩:=cells_5 HO5.out
 obtain ⟨b0,b1,b2,b3,b4,b5,b6⟩:=cells_7 HZ5.out
 have hfz:=free_7 HZ5.out
 obtain ⟨n0,n1,n2,n3,n4,n5,n6⟩:=cells_7 HN5.out
 have HSH:Hid (∀ W,_):=fun W=>refShown_any u W
 go_upto_region 13 with (go_at_call 72;refine Calls.mono (HSH.out _) ?_;rintro e w6 ⟨rfl,hb6⟩
                         have HB6:Hid (Below w.heap.size w w6):=trans2 HB5.out hb6
                         have HO6:Hid _:=kept_block hb6 HO5.out
                         have HZ6:Hid _:=kept_block hb6 HZ5.out
                         have HN6:Hid _:=kept_block hb6 HN5.out
                         clear hb6 o0 o1 o2 o3 o4 b0 b1 b2 b3 b4 b5 b6 hfz n0 n1 n2 n3 n4 n5 n6)
 obtain ⟨w7,hw7⟩:∃ x,w6.alloc (.cells #[.string u.p,.string ⟨#[]⟩,.int .i64 u.v,.int .i64 u.m,.int .i64 u.c,.int .i64 u.o,.slice none 0 0] 103)=x:=⟨_,rfl⟩
 obtain ⟨rb,hrb⟩:∃ x,w6.heap.size=x:=⟨_,rfl⟩
 have hnl6:nb<w6.heap.size:=(Array.getElem?_eq_some_iff.1 HN6.out).1
 have hrz:nb<rb:=by omega
 have HB7:Hid (Below w.heap.size w w7):=by rw [← hw7];exact HB6.out.alloc (by have:=HB6.out.size;omega) _
 have HO7:Hid (w7.heap[ob]? = some (.cells #[.int .i64 (2),.string p,.string d,.int .i64 v,.int .i64 f] 66 (0,0))):=by rw [← hw7];exact new_old HO6.out _
 have HZ7:Hid (w7.heap[ob+1]? = some (.cells #[.string ⟨#[]⟩,.string ⟨#[]⟩,.int .i64 0,.int .i64 0,.int .i64 0,.int .i64 0,.slice none 0 0] 103 (0,0))):=by rw [← hw7];exact new_old HZ6.out _
 have HN7:Hid (w7.heap[nb]? = some (.cells #[.string u.p,.string u.d,.int .i64 u.v,.int .i64 u.m,.int .i64 u.c,.int .i64 u.o,.int .i64 u.k] 26 (0,0))):=by rw [← hw7];exact new_old HN6.out _
 have HR7:Hid (w7.heap[rb]? = some (.cells #[.string u.p,.string ⟨#[]⟩,.int .i64 u.v,.int .i64 u.m,.int .i64 u.c,.int .i64 u.o,.slice none 0 0] 103 (0,0))):=by rw [← hw7,← hrb];exact heap_alloc_new _ _
 rw [hw7,hrb]
 clear hw7 hrb hnl6
 obtain ⟨o0,o1,o2,o3,o4⟩:=cells_5 HO7.out
 obtain ⟨b0,b1,b2,b3,b4,b5,b6⟩:=cells_7 HZ7.out
 have hfz:=free_7 HZ7.out
 obtain ⟨n0,n1,n2,n3,n4,n5,n6⟩:=cells_7 HN7.out
 have hfn:=free_7 HN7.out
 go_wp2_with fail
 exact bodyPost_ret (results_4c rfl _ _ (ob+1) 103 #[.string ⟨#[]⟩,.string ⟨#[]⟩,.int .i64 0,.int .i64 0,.int .i64 0,.int .i64 0,.slice none 0 0] (0,0) _ (.slice (some ⟨gb,gf,none⟩) N c) (.slice none 0 0) (.int .i64 46) rfl rfl rfl rfl (fill_7 HZ7.out) Tryz.underlying103 rfl (by kernel_rfl)) rfl (OneE.err HN.out c 46 H.out (fillB_7 HB7.out (by rw [HOB.out];omega)))
set_option maxHeartbeats 8000000 in
set_option maxRecDepth 100000 in
theorem ro_43e (a:Option Addr) (c:Nat) (T:List Nd) (s st:Int) (p d:ByteArray) (v f:Int) (u:Nd) (q:Nat) (w:World) (h:NdsAt w a T) (hT:T.length≤64) (hm:malC s 3 p d f=0) (hq:T[q]? = some u) (hu:fndI T p=q) (hv:(v != -1)=true) (hv2:(v != u.v)=false) (hkd:kidsR T u.p≠[]) :
  Calls Tryz.prog 47 #[.slice a T.length c,.int .i64 s,.int .i64 st,opV 3 p d v f] w (OneE w (43,T,zr,[])):=by
 have HKI:Hid (∀ W,Below w.heap.size w W→Calls Tryz.prog 75 #[.slice a T.length c,.string u.p] W fun e w'=>∃ v,e=.returned v∧w'.ownsRow W.heap.size 9 1 v (kidsR T u.p).length ((kidsR T u.p).map .string)∧Below W.heap.size W w'):=fun W hb=>refKids_any a c T u.p W (h.below hb) (by omega)
 obtain ⟨KL,hKL⟩:∃ KL,kidsR T u.p=KL:=⟨_,rfl⟩
 rw [hKL] at HKI hkd
 have hkl0:KL.length≠0:=by simpa using hkd
 have hkl:(0:Int)<(KL.length:Int):=by omega
 clear hKL hkd
 have H:Hid (NdsAt w a T):=h
 have HST:Hid (∀ W,_):=fun W=>refStatic_any s (3) p d v f W
 have HF:Hid (∀ W,Below w.heap.size w W→∀ x,Calls Tryz.prog 36 #[.slice a T.length c,.string x] W fun e w'=>e=.returned (.int .i64 (fndI T x))∧w'=W):=fun W hb x=>refFind_any a c T x W (h.below hb) (by omega)
 obtain ⟨mc,hmc⟩:∃ mc,malC s (3) p d f=mc:=⟨_,rfl⟩
 rw [hmc] at HST hm
 obtain ⟨N,hN⟩:∃ N,T.length=N:=⟨_,rfl⟩
 have HN:Hid (T.length=N):=hN
 rw [hN] at HF hT HKI ⊢
 subst hm
 have HU:Hid (fndI T p=(q:Int)):=hu
 have HQ:Hid (T[q]? = some u):=hq
 have hqN:q<N:=by rw [← hN];exact (List.getElem?_eq_some_iff.1 hq).1
 have hq0:¬ (q:Int)<0:=by omega
 obtain ⟨gb,gf,rfl⟩:=h.some hq
 clear hq hu
 clear h hN hmc
 go_enter Tryz.func47,Tryz.ntmps47
 go_upto_region 1 with fail
 obtain ⟨W2,hW2⟩:∃ x,(w.alloc (.cells #[.int .i64 (3),.string p,.string d,.int .i64 v,.int .i64 f] 66)).alloc (.cells #[.string ⟨#[]⟩,.string ⟨#[]⟩,.int .i64 0,.int .i64 0,.int .i64 0,.int .i64 0,.slice none 0 0] 103)=x:=⟨_,rfl⟩
 obtain ⟨ob,hob⟩:∃ x,w.heap.size=x:=⟨_,rfl⟩
 have HOB:Hid (w.heap.size=ob):=hob
 have HB2:Hid (Below w.heap.size w W2):=by rw [← hW2];exact ((Below.refl _ _).alloc (Nat.le_refl _) _).alloc (by simp) _
 have HO2:Hid (W2.heap[ob]? = some (.cells #[.int .i64 (3),.string p,.string d,.int .i64 v,.int .i64 f] 66 (0,0))):=by rw [← hW2,← hob];exact heap_alloc2_old _ _ _
 have HZ2:Hid (W2.heap[ob+1]? = some (.cells #[.string ⟨#[]⟩,.string ⟨#[]⟩,.int .i64 0,.int .i64 0,.int .i64 0,.int .i64 0,.slice none 0 0] 103 (0,0))):=by rw [← hW2,← hob];exact heap_alloc2_new _ _ _
 rw [hW2,hob]
 clear hW2 hob
 obtain ⟨o0,o1,o2,o3,o4⟩:=cells_5 HO2.out
 go_wp2_with fail
 refine Calls.mono (HST.out _) ?_
 rintro e w3 ⟨rfl,hb3⟩
 have HB3:Hid (Below w.heap.size w w3):=trans2 HB2.out hb3
 have HO3:Hid _:=kept_block hb3 HO2.out
 have HZ3:Hid _:=kept_block hb3 HZ2.out
 have hz3:ob+1<w3.heap.size:=(Array.getElem?_eq_some_iff.1 HZ3.out).1
 clear hb3 o0 o1 o2 o3 o4
 obtain ⟨o0,o1,o2,o3,o4⟩:=cells_5 HO3.out
 obtain ⟨b0,b1,b2,b3,b4,b5,b6⟩:=cells_7 HZ3.out
 have hfz:=free_7 HZ3.out
 have e1:((3:Int)==1)=false:=by simp
 go_wp2_with fail
 refine Calls.mono (HF.out _ HB3.out _) ?_
 rintro e w4 ⟨rfl,hw4⟩
 subst hw4
 rw [HU.out]
 obtain ⟨hgb,x0,x1,x2,x3,x4,x5,x6⟩:=(H.out.below HB3.out).cells HQ.out
 go_upto_region 10 with fail
 obtain ⟨w5,hw5⟩:∃ x,w4.alloc (.cells #[.string u.p,.string u.d,.int .i64 u.v,.int .i64 u.m,.int .i64 u.c,.int .i64 u.o,.int .i64 u.k] 26)=x:=⟨_,rfl⟩
 obtain ⟨nb,hnb⟩:∃ x,w4.heap.size=x:=⟨_,rfl⟩
 have hnz:ob+1<nb:=by omega
 have HB5:Hid (Below w.heap.size w w5):=by rw [← hw5];exact HB3.out.alloc (by have:=HB3.out.size;omega) _
 have HO5:Hid (w5.heap[ob]? = some (.cells #[.int .i64 (3),.string p,.string d,.int .i64 v,.int .i64 f] 66 (0,0))):=by rw [← hw5];exact new_old HO3.out _
 have HZ5:Hid (w5.heap[ob+1]? = some (.cells #[.string ⟨#[]⟩,.string ⟨#[]⟩,.int .i64 0,.int .i64 0,.int .i64 0,.int .i64 0,.slice none 0 0] 103 (0,0))):=by rw [← hw5];exact new_old HZ3.out _
 have HN5:Hid (w5.heap[nb]? = some (.cells #[.string u.p,.string u.d,.int .i64 u.v,.int .i64 u.m,.int .i64 u.c,.int .i64 u.o,.int .i64 u.k] 26 (0,0))):=by rw [← hw5,← hnb];exact heap_alloc_new _ _
 rw [hw5,hnb]
 clear hw5 hnb hz3 o0 o1 o2 o3 o4 b0 b1 b2 b3 b4 b5 b6 hfz x0 x1 x2 x3 x4 x5 x6 hgb
 obtain ⟨o0,o1,o2,o3,o4⟩:=cells_5 HO5.out
 obtain ⟨b0,b1,b2,b3,b4,b5,b6⟩:=cells_7 HZ5.out
 have hfz:=free_7 HZ5.out
 obtain ⟨n0,n1,n2,n3,n4,n5,n6⟩:=cells_7 HN5.out
 have HSH:Hid (∀ W,_):=fun W=>refShown_any u W
 go_upto_region 13 with (go_at_call 72;refine Calls.mono (HSH.out _) ?_;rintro e w6 ⟨rfl,hb6⟩
                         have HB6:Hid (Below w.heap.size w w6):=trans2 HB5.out hb6
                         have HO6:Hid _:=kept_block hb6 HO5.out
                         have HZ6:Hid _:=kept_block hb6 HZ5.out
                         have HN6:Hid _:=kept_block hb6 HN5.out
                         clear hb6 o0 o1 o2 o3 o4 b0 b1 b2 b3 b4 b5 b6 hfz n0 n1 n2 n3 n4 n5 n6)
 obtain ⟨w7,hw7⟩:∃ x,w6.alloc (.cells #[.string u.p,.string ⟨#[]⟩,.int .i64 u.v,.int .i64 u.m,.int .i64 u.c,.int .i64 u.o,.slice none 0 0] 103)=x:=⟨_,rfl⟩
 obtain ⟨rb,hrb⟩:∃ x,w6.heap.size=x:=⟨_,rfl⟩
 have hnl6:nb<w6.heap.size:=(Array.getElem?_eq_some_iff.1 HN6.out).1
 have hrz:nb<rb:=by omega
 have HB7:Hid (Below w.heap.size w w7):=by rw [← hw7];exact HB6.out.alloc (by have:=HB6.out.size;omega) _
 have HO7:Hid (w7.heap[ob]? = some (.cells #[.int .i64 (3),.string p,.string d,.int .i64 v,.int .i64 f] 66 (0,0))):=by rw [← hw7];exact new_old HO6.out _
 have HZ7:Hid (w7.heap[ob+1]? = some (.cells #[.string ⟨#[]⟩,.string ⟨#[]⟩,.int .i64 0,.int .i64 0,.int .i64 0,.int .i64 0,.slice none 0 0] 103 (0,0))):=by rw [← hw7];exact new_old HZ6.out _
 have HN7:Hid (w7.heap[nb]? = some (.cells #[.string u.p,.string u.d,.int .i64 u.v,.int .i64 u.m,.int .i64 u.c,.int .i64 u.o,.int .i64 u.k] 26 (0,0))):=by rw [← hw7];exact new_old HN6.out _
 have HR7:Hid (w7.heap[rb]? = some (.cells #[.string u.p,.string ⟨#[]⟩,.int .i64 u.v,.int .i64 u.m,.int .i64 u.c,.int .i64 u.o,.slice none 0 0] 103 (0,0))):=by rw [← hw7,← hrb];exact heap_alloc_new _ _
 rw [hw7,hrb]
 clear hw7 hrb hnl6
 obtain ⟨o0,o1,o2,o3,o4⟩:=cells_5 HO7.out
 obtain ⟨b0,b1,b2,b3,b4,b5,b6⟩:=cells_7 HZ7.out
 have hfz:=free_7 HZ7.out
 obtain ⟨n0,n1,n2,n3,n4,n5,n6⟩:=cells_7 HN7.out
 have hfn:=free_7 HN7.out
 go_wp2_with fail
 refine Calls.mono (HKI.out _ HB7.out) ?_
 rintro e w8 ⟨kv,rfl,hrow,hb8⟩
 have HB8:Hid (Below w.heap.size w w8):=trans2 HB7.out hb8
 have HZ8:Hid _:=kept_block hb8 HZ7.out
 obtain ⟨ka,kc,rfl⟩:∃ a c,kv=.slice a KL.length c:=by
  rcases hrow.2 with ⟨rfl,h0⟩ | ⟨g,cap,cur,rfl,_⟩
  · exact ⟨_,_,by rw [h0]⟩
  · exact ⟨_,_,rfl⟩
 clear hb8 hrow b0 b1 b2 b3 b4 b5 b6 hfz n0 n1 n2 n3 n4 n5 n6 hfn o0 o1 o2 o3 o4
 obtain ⟨b0,b1,b2,b3,b4,b5,b6⟩:=cells_7 HZ8.out
 have hfz:=free_7 HZ8.out
 go_wp2_with fail
 exact bodyPost_ret (results_4c rfl _ _ (ob+1) 103 #[.string ⟨#[]⟩,.string ⟨#[]⟩,.int .i64 0,.int .i64 0,.int .i64 0,.int .i64 0,.slice none 0 0] (0,0) _ (.slice (some ⟨gb,gf,none⟩) N c) (.slice none 0 0) (.int .i64 43) rfl rfl rfl rfl (fill_7 HZ8.out) Tryz.underlying103 rfl (by kernel_rfl)) rfl (OneE.err HN.out c 43 H.out (fillB_7 HB8.out (by rw [HOB.out];omega)))
end Go.Proofs.YtckmihplkhmpnaaGreatDoor
namespace Go.Proofs.YtckmihplkhmpnaaGreatDoor
open Go.RowKit Go.Maps Go.WideShapes
set_option linter.unusedVariables false
set_option linter.unusedSimpArgs false
attribute [local go_sem ↓] Go.wp_at_zero Go.wp_at_succ
theorem OneE.read {w w':World} {T:List Nd} {a:Option Addr} {N:Nat} {p d:ByteArray} {v m ch o:Int} (hN:T.length=N) (c:Nat) (h:NdsAt w' a T) (hb:Below w.heap.size w w') :
  OneE w (0,T,⟨p,d,v,m,ch,o,[]⟩,[]) (.returned (.tuple #[.slice a N c,resV p d v m ch o (.slice none 0 0),.slice none 0 0,.int .i64 0])) w' :=
 ⟨a,c,none,0,none,0,by rw [hN];rfl,h,World.ownsRow_nil _ _ _ _,ChsAt.nil,hb⟩
set_option maxHeartbeats 8000000 in
set_option maxRecDepth 100000 in
theorem ro_get (a:Option Addr) (c:Nat) (T:List Nd) (s st:Int) (p d:ByteArray) (v f:Int) (u:Nd) (q:Nat) (w:World) (h:NdsAt w a T) (hT:T.length≤64) (hm:malC s 5 p d f=0) (hq:T[q]? = some u) (hu:fndI T p=q) :
  Calls Tryz.prog 47 #[.slice a T.length c,.int .i64 s,.int .i64 st,opV 5 p d v f] w (OneE w (0,T,⟨u.p,u.d,u.v,u.m,u.c,u.o,[]⟩,[])):=by
 have H:Hid (NdsAt w a T):=h
 have HST:Hid (∀ W,_):=fun W=>refStatic_any s (5) p d v f W
 have HF:Hid (∀ W,Below w.heap.size w W→∀ x,Calls Tryz.prog 36 #[.slice a T.length c,.string x] W fun e w'=>e=.returned (.int .i64 (fndI T x))∧w'=W):=fun W hb x=>refFind_any a c T x W (h.below hb) (by omega)
 obtain ⟨mc,hmc⟩:∃ mc,malC s (5) p d f=mc:=⟨_,rfl⟩
 rw [hmc] at HST hm
 obtain ⟨N,hN⟩:∃ N,T.length=N:=⟨_,rfl⟩
 have HN:Hid (T.length=N):=hN
 rw [hN] at HF hT ⊢
 subst hm
 have HU:Hid (fndI T p=(q:Int)):=hu
 have HQ:Hid (T[q]? = some u):=hq
 have hqN:q<N:=by rw [← hN];exact (List.getElem?_eq_some_iff.1 hq).1
 have hq0:¬ (q:Int)<0:=by omega
 obtain ⟨gb,gf,rfl⟩:=h.some hq
 clear hq hu
 clear h hN hmc
 go_enter Tryz.func47,Tryz.ntmps47
 go_upto_region 1 with fail
 obtain ⟨W2,hW2⟩:∃ x,(w.alloc (.cells #[.int .i64 (5),.string p,.string d,.int .i64 v,.int .i64 f] 66)).alloc (.cells #[.string ⟨#[]⟩,.string ⟨#[]⟩,.int .i64 0,.int .i64 0,.int .i64 0,.int .i64 0,.slice none 0 0] 103)=x:=⟨_,rfl⟩
 obtain ⟨ob,hob⟩:∃ x,w.heap.size=x:=⟨_,rfl⟩
 have HOB:Hid (w.heap.size=ob):=hob
 have HB2:Hid (Below w.heap.size w W2):=by rw [← hW2];exact ((Below.refl _ _).alloc (Nat.le_refl _) _).alloc (by simp) _
 have HO2:Hid (W2.heap[ob]? = some (.cells #[.int .i64 (5),.string p,.string d,.int .i64 v,.int .i64 f] 66 (0,0))):=by rw [← hW2,← hob];exact heap_alloc2_old _ _ _
 have HZ2:Hid (W2.heap[ob+1]? = some (.cells #[.string ⟨#[]⟩,.string ⟨#[]⟩,.int .i64 0,.int .i64 0,.int .i64 0,.int .i64 0,.slice none 0 0] 103 (0,0))):=by rw [← hW2,← hob];exact heap_alloc2_new _ _ _
 rw [hW2,hob]
 clear hW2 hob
 obtain ⟨o0,o1,o2,o3,o4⟩:=cells_5 HO2.out
 go_wp2_with fail
 refine Calls.mono (HST.out _) ?_
 rintro e w3 ⟨rfl,hb3⟩
 have HB3:Hid (Below w.heap.size w w3):=trans2 HB2.out hb3
 have HO3:Hid _:=kept_block hb3 HO2.out
 have HZ3:Hid _:=kept_block hb3 HZ2.out
 have hz3:ob+1<w3.heap.size:=(Array.getElem?_eq_some_iff.1 HZ3.out).1
 clear hb3 o0 o1 o2 o3 o4
 obtain ⟨o0,o1,o2,o3,o4⟩:=cells_5 HO3.out
 obtain ⟨b0,b1,b2,b3,b4,b5,b6⟩:=cells_7 HZ3.out
 have hfz:=free_7 HZ3.out
 have e1:((5:Int)==1)=false:=by simp
 go_wp2_with fail
 refine Calls.mono (HF.out _ HB3.out _) ?_
 rintro e w4 ⟨rfl,hw4⟩
 subst hw4
 rw [HU.out]
 obtain ⟨hgb,x0,x1,x2,x3,x4,x5,x6⟩:=(H.out.below HB3.out).cells HQ.out
 go_upto_region 10 with fail
 obtain ⟨w5,hw5⟩:∃ x,w4.alloc (.cells #[.string u.p,.string u.d,.int .i64 u.v,.int .i64 u.m,.int .i64 u.c,.int .i64 u.o,.int .i64 u.k] 26)=x:=⟨_,rfl⟩
 obtain ⟨nb,hnb⟩:∃ x,w4.heap.size=x:=⟨_,rfl⟩
 have hnz:ob+1<nb:=by omega
 have HB5:Hid (Below w.heap.size w w5):=by rw [← hw5];exact HB3.out.alloc (by have:=HB3.out.size;omega) _
 have HO5:Hid (w5.heap[ob]? = some (.cells #[.int .i64 (5),.string p,.string d,.int .i64 v,.int .i64 f] 66 (0,0))):=by rw [← hw5];exact new_old HO3.out _
 have HZ5:Hid (w5.heap[ob+1]? = some (.cells #[.string ⟨#[]⟩,.string ⟨#[]⟩,.int .i64 0,.int .i64 0,.int .i64 0,.int .i64 0,.slice none 0 0] 103 (0,0))):=by rw [← hw5];exact new_old HZ3.out _
 have HN5:Hid (w5.heap[nb]? = some (.cells #[.string u.p,.string u.d,.int .i64 u.v,.int .i64 u.m,.int .i64 u.c,.int .i64 u.o,.int .i64 u.k] 26 (0,0))):=by rw [← hw5,← hnb];exact heap_alloc_new _ _
 rw [hw5,hnb]
 clear hw5 hnb hz3 o0 o1 o2 o3 o4 b0 b1 b2 b3 b4 b5 b6 hfz x0 x1 x2 x3 x4 x5 x6 hgb
 obtain ⟨o0,o1,o2,o3,o4⟩:=cells_5 HO5.out
 obtain ⟨b0,b1,b2,b3,b4,b5,b6⟩:=cells_7 HZ5.out
 have hfz:=free_7 HZ5.out
 obtain ⟨n0,n1,n2,n3,n4,n5,n6⟩:=cells_7 HN5.out
 have HSH:Hid (∀ W,_):=fun W=>refShown_any u W
 go_upto_region 13 with (go_at_call 72;refine Calls.mono (HSH.out _) ?_;rintro e w6 ⟨rfl,hb6⟩
                         have HB6:Hid (Below w.heap.size w w6):=trans2 HB5.out hb6
                         have HO6:Hid _:=kept_block hb6 HO5.out
                         have HZ6:Hid _:=kept_block hb6 HZ5.out
                         have HN6:Hid _:=kept_block hb6 HN5.out
                         clear hb6 o0 o1 o2 o3 o4 b0 b1 b2 b3 b4 b5 b6 hfz n0 n1 n2 n3 n4 n5 n6)
 obtain ⟨w7,hw7⟩:∃ x,w6.alloc (.cells #[.string u.p,.string ⟨#[]⟩,.int .i64 u.v,.int .i64 u.m,.int .i64 u.c,.int .i64 u.o,.slice none 0 0] 103)=x:=⟨_,rfl⟩
 obtain ⟨rb,hrb⟩:∃ x,w6.heap.size=x:=⟨_,rfl⟩
 have hnl6:nb<w6.heap.size:=(Array.getElem?_eq_some_iff.1 HN6.out).1
 have hrz:nb<rb:=by omega
 have HB7:Hid (Below w.heap.size w w7):=by rw [← hw7];exact HB6.out.alloc (by have:=HB6.out.size;omega) _
 have HO7:Hid (w7.heap[ob]? = some (.cells #[.int .i64 (5),.string p,.string d,.int .i64 v,.int .i64 f] 66 (0,0))):=by rw [← hw7];exact new_old HO6.out _
 have HZ7:Hid (w7.heap[ob+1]? = some (.cells #[.string ⟨#[]⟩,.string ⟨#[]⟩,.int .i64 0,.int .i64 0,.int .i64 0,.int .i64 0,.slice none 0 0] 103 (0,0))):=by rw [← hw7];exact new_old HZ6.out _
 have HN7:Hid (w7.heap[nb]? = some (.cells #[.string u.p,.string u.d,.int .i64 u.v,.int .i64 u.m,.int .i64 u.c,.int .i64 u.o,.int .i64 u.k] 26 (0,0))):=by rw [← hw7];exact new_old HN6.out _
 have HR7:Hid (w7.heap[rb]? = some (.cells #[.string u.p,.string ⟨#[]⟩,.int .i64 u.v,.int .i64 u.m,.int .i64 u.c,.int .i64 u.o,.slice none 0 0] 103 (0,0))):=by rw [← hw7,← hrb];exact heap_alloc_new _ _
 rw [hw7,hrb]
 clear hw7 hrb hnl6
 obtain ⟨o0,o1,o2,o3,o4⟩:=cells_5 HO7.out
 obtain ⟨b0,b1,b2,b3,b4,b5,b6⟩:=cells_7 HZ7.out
 have hfz:=free_7 HZ7.out
 obtain ⟨n0,n1,n2,n3,n4,n5,n6⟩:=cells_7 HN7.out
 have hfn:=free_7 HN7.out
 obtain ⟨r0,r1,r2,r3,r4,r5,r6⟩:=cells_7 HR7.out
 have hfr:=free_7 HR7.out
 go_upto_region 31 with fail
 obtain ⟨w8,hw8⟩:∃ x,w7.setCell ⟨rb,1,none⟩ (.string u.d)=x:=⟨_,rfl⟩
 have HB8:Hid (Below w.heap.size w w8):=by rw [← hw8];exact HB7.out.setCell (show w.heap.size≤rb by rw [HOB.out];omega) _
 have HZ8:Hid (w8.heap[ob+1]? = some (.cells #[.string ⟨#[]⟩,.string ⟨#[]⟩,.int .i64 0,.int .i64 0,.int .i64 0,.int .i64 0,.slice none 0 0] 103 (0,0))):=by rw [← hw8];exact other_blk HZ7.out (by omega)
 have HR8:Hid (w8.heap[rb]? = some (.cells #[.string u.p,.string u.d,.int .i64 u.v,.int .i64 u.m,.int .i64 u.c,.int .i64 u.o,.slice none 0 0] 103 (0,0))):=by rw [← hw8];exact same_blk HR7.out rfl
 rw [hw8]
 clear hw8 b0 b1 b2 b3 b4 b5 b6 hfz n0 n1 n2 n3 n4 n5 n6 hfn o0 o1 o2 o3 o4 r0 r1 r2 r3 r4 r5 r6 hfr
 obtain ⟨b0,b1,b2,b3,b4,b5,b6⟩:=cells_7 HZ8.out
 have hfz:=free_7 HZ8.out
 obtain ⟨r0,r1,r2,r3,r4,r5,r6⟩:=cells_7 HR8.out
 have hne:rb≠ob+1:=by omega
 go_region_held3 (fun w'=>w'.cell? ⟨rb,0,none⟩=some (.string u.p)∧w'.cell? ⟨rb,1,none⟩=some (.string u.d)∧w'.cell? ⟨rb,2,none⟩=some (.int .i64 u.v)∧w'.cell? ⟨rb,3,none⟩=some (.int .i64 u.m)∧w'.cell? ⟨rb,4,none⟩=some (.int .i64 u.c)∧w'.cell? ⟨rb,5,none⟩=some (.int .i64 u.o)∧w'.cell? ⟨rb,6,none⟩=some (.slice none 0 0)) (first | (simp only [World.cell?_drew,r0,r1,r2,r3,r4,r5,r6,and_self];done) | (simp only [cellN hne,World.cell?_drew,r0,r1,r2,r3,r4,r5,r6,and_self];done) | go_keep) (fail)
 all_goals (go_wp2_with fail)
 exact bodyPost_ret (results_4c rfl _ _ (ob+1) 103 #[.string u.p,.string u.d,.int .i64 u.v,.int .i64 u.m,.int .i64 u.c,.int .i64 u.o,.slice none 0 0] (0,0) _ (.slice (some ⟨gb,gf,none⟩) N c) (.slice none 0 0) (.int .i64 0) rfl rfl rfl rfl ((heap_drew_at _ _).trans (fill_7 HZ8.out)) Tryz.underlying103 rfl (by kernel_rfl)) rfl (OneE.read HN.out c (H.out.below (below_drew (fillB_7 HB8.out (by rw [HOB.out];omega)))) (below_drew (fillB_7 HB8.out (by rw [HOB.out];omega))))
set_option maxHeartbeats 8000000 in
set_option maxRecDepth 100000 in
theorem ro_look6 (a:Option Addr) (c:Nat) (T:List Nd) (s st:Int) (p d:ByteArray) (v f:Int) (u:Nd) (q:Nat) (w:World) (h:NdsAt w a T) (hT:T.length≤64) (hm:malC s 6 p d f=0) (hq:T[q]? = some u) (hu:fndI T p=q) :
  Calls Tryz.prog 47 #[.slice a T.length c,.int .i64 s,.int .i64 st,opV 6 p d v f] w (OneE w (0,T,⟨u.p,⟨#[]⟩,u.v,u.m,u.c,u.o,[]⟩,[])):=by
 have H:Hid (NdsAt w a T):=h
 have HST:Hid (∀ W,_):=fun W=>refStatic_any s (6) p d v f W
 have HF:Hid (∀ W,Below w.heap.size w W→∀ x,Calls Tryz.prog 36 #[.slice a T.length c,.string x] W fun e w'=>e=.returned (.int .i64 (fndI T x))∧w'=W):=fun W hb x=>refFind_any a c T x W (h.below hb) (by omega)
 obtain ⟨mc,hmc⟩:∃ mc,malC s (6) p d f=mc:=⟨_,rfl⟩
 rw [hmc] at HST hm
 obtain ⟨N,hN⟩:∃ N,T.length=N:=⟨_,rfl⟩
 have HN:Hid (T.length=N):=hN
 rw [hN] at HF hT ⊢
 subst hm
 have HU:Hid (fndI T p=(q:Int)):=hu
 have HQ:Hid (T[q]? = some u):=hq
 have hqN:q<N:=by rw [← hN];exact (List.getElem?_eq_some_iff.1 hq).1
 have hq0:¬ (q:Int)<0:=by omega
 obtain ⟨gb,gf,rfl⟩:=h.some hq
 clear hq hu
 clear h hN hmc
 go_enter Tryz.func47,Tryz.ntmps47
 go_upto_region 1 with fail
 obtain ⟨W2,hW2⟩:∃ x,(w.alloc (.cells #[.int .i64 (6),.string p,.string d,.int .i64 v,.int .i64 f] 66)).alloc (.cells #[.string ⟨#[]⟩,.string ⟨#[]⟩,.int .i64 0,.int .i64 0,.int .i64 0,.int .i64 0,.slice none 0 0] 103)=x:=⟨_,rfl⟩
 obtain ⟨ob,hob⟩:∃ x,w.heap.size=x:=⟨_,rfl⟩
 have HOB:Hid (w.heap.size=ob):=hob
 have HB2:Hid (Below w.heap.size w W2):=by rw [← hW2];exact ((Below.refl _ _).alloc (Nat.le_refl _) _).alloc (by simp) _
 have HO2:Hid (W2.heap[ob]? = some (.cells #[.int .i64 (6),.string p,.string d,.int .i64 v,.int .i64 f] 66 (0,0))):=by rw [← hW2,← hob];exact heap_alloc2_old _ _ _
 have HZ2:Hid (W2.heap[ob+1]? = some (.cells #[.string ⟨#[]⟩,.string ⟨#[]⟩,.int .i64 0,.int .i64 0,.int .i64 0,.int .i64 0,.slice none 0 0] 103 (0,0))):=by rw [← hW2,← hob];exact heap_alloc2_new _ _ _
 rw [hW2,hob]
 clear hW2 hob
 obtain ⟨o0,o1,o2,o3,o4⟩:=cells_5 HO2.out
 go_wp2_with fail
 refine Calls.mono (HST.out _) ?_
 rintro e w3 ⟨rfl,hb3⟩
 have HB3:Hid (Below w.heap.size w w3):=trans2 HB2.out hb3
 have HO3:Hid _:=kept_block hb3 HO2.out
 have HZ3:Hid _:=kept_block hb3 HZ2.out
 have hz3:ob+1<w3.heap.size:=(Array.getElem?_eq_some_iff.1 HZ3.out).1
 clear hb3 o0 o1 o2 o3 o4
 obtain ⟨o0,o1,o2,o3,o4⟩:=cells_5 HO3.out
 obtain ⟨b0,b1,b2,b3,b4,b5,b6⟩:=cells_7 HZ3.out
 have hfz:=free_7 HZ3.out
 have e1:((6:Int)==1)=false:=by simp
 go_wp2_with fail
 refine Calls.mono (HF.out _ HB3.out _) ?_
 rintro e w4 ⟨rfl,hw4⟩
 subst hw4
 rw [HU.out]
 obtain ⟨hgb,x0,x1,x2,x3,x4,x5,x6⟩:=(H.out.below HB3.out).cells HQ.out
 go_upto_region 10 with fail
 obtain ⟨w5,hw5⟩:∃ x,w4.alloc (.cells #[.string u.p,.string u.d,.int .i64 u.v,.int .i64 u.m,.int .i64 u.c,.int .i64 u.o,.int .i64 u.k] 26)=x:=⟨_,rfl⟩
 obtain ⟨nb,hnb⟩:∃ x,w4.heap.size=x:=⟨_,rfl⟩
 have hnz:ob+1<nb:=by omega
 have HB5:Hid (Below w.heap.size w w5):=by rw [← hw5];exact HB3.out.alloc (by have:=HB3.out.size;omega) _
 have HO5:Hid (w5.heap[ob]? = some (.cells #[.int .i64 (6),.string p,.string d,.int .i64 v,.int .i64 f] 66 (0,0))):=by rw [← hw5];exact new_old HO3.out _
 have HZ5:Hid (w5.heap[ob+1]? = some (.cells #[.string ⟨#[]⟩,.string ⟨#[]⟩,.int .i64 0,.int .i64 0,.int .i64 0,.int .i64 0,.slice none 0 0] 103 (0,0))):=by rw [← hw5];exact new_old HZ3.out _
 have HN5:Hid (w5.heap[nb]? = some (.cells #[.string u.p,.string u.d,.int .i64 u.v,.int .i64 u.m,.int .i64 u.c,.int .i64 u.o,.int .i64 u.k] 26 (0,0))):=by rw [← hw5,← hnb];exact heap_alloc_new _ _
 rw [hw5,hnb]
 clear hw5 hnb hz3 o0 o1 o2 o3 o4 b0 b1 b2 b3 b4 b5 b6 hfz x0 x1 x2 x3 x4 x5 x6 hgb
 obtain ⟨o0,o1,o2,o3,o4⟩:=cells_5 HO5.out
 obtain ⟨b0,b1,b2,b3,b4,b5,b6⟩:=cells_7 HZ5.out
 have hfz:=free_7 HZ5.out
 obtain ⟨n0,n1,n2,n3,n4,n5,n6⟩:=cells_7 HN5.out
 have HSH:Hid (∀ W,_):=fun W=>refShown_any u W
 go_upto_region 13 with (go_at_call 72;refine Calls.mono (HSH.out _) ?_;rintro e w6 ⟨rfl,hb6⟩
                         have HB6:Hid (Below w.heap.size w w6):=trans2 HB5.out hb6
                         have HO6:Hid _:=kept_block hb6 HO5.out
                         have HZ6:Hid _:=kept_block hb6 HZ5.out
                         have HN6:Hid _:=kept_block hb6 HN5.out
                         clear hb6 o0 o1 o2 o3 o4 b0 b1 b2 b3 b4 b5 b6 hfz n0 n1 n2 n3 n4 n5 n6)
 obtain ⟨w7,hw7⟩:∃ x,w6.alloc (.cells #[.string u.p,.string ⟨#[]⟩,.int .i64 u.v,.int .i64 u.m,.int .i64 u.c,.int .i64 u.o,.slice none 0 0] 103)=x:=⟨_,rfl⟩
 obtain ⟨rb,hrb⟩:∃ x,w6.heap.size=x:=⟨_,rfl⟩
 have hnl6:nb<w6.heap.size:=(Array.getElem?_eq_some_iff.1 HN6.out).1
 have hrz:nb<rb:=by omega
 have HB7:Hid (Below w.heap.size w w7):=by rw [← hw7];exact HB6.out.alloc (by have:=HB6.out.size;omega) _
 have HO7:Hid (w7.heap[ob]? = some (.cells #[.int .i64 (6),.string p,.string d,.int .i64 v,.int .i64 f] 66 (0,0))):=by rw [← hw7];exact new_old HO6.out _
 have HZ7:Hid (w7.heap[ob+1]? = some (.cells #[.string ⟨#[]⟩,.string ⟨#[]⟩,.int .i64 0,.int .i64 0,.int .i64 0,.int .i64 0,.slice none 0 0] 103 (0,0))):=by rw [← hw7];exact new_old HZ6.out _
 have HN7:Hid (w7.heap[nb]? = some (.cells #[.string u.p,.string u.d,.int .i64 u.v,.int .i64 u.m,.int .i64 u.c,.int .i64 u.o,.int .i64 u.k] 26 (0,0))):=by rw [← hw7];exact new_old HN6.out _
 have HR7:Hid (w7.heap[rb]? = some (.cells #[.string u.p,.string ⟨#[]⟩,.int .i64 u.v,.int .i64 u.m,.int .i64 u.c,.int .i64 u.o,.slice none 0 0] 103 (0,0))):=by rw [← hw7,← hrb];exact heap_alloc_new _ _
 rw [hw7,hrb]
 clear hw7 hrb hnl6
 obtain ⟨o0,o1,o2,o3,o4⟩:=cells_5 HO7.out
 obtain ⟨b0,b1,b2,b3,b4,b5,b6⟩:=cells_7 HZ7.out
 have hfz:=free_7 HZ7.out
 obtain ⟨n0,n1,n2,n3,n4,n5,n6⟩:=cells_7 HN7.out
 have hfn:=free_7 HN7.out
 go_upto_region 31 with fail
 obtain ⟨w8,hw8⟩:∃ x,w7=x:=⟨_,rfl⟩
 rw [hw8] at HB7 HZ7 HR7 ⊢
 have HB8:Hid (Below w.heap.size w w8):=HB7.out
 have HZ8:Hid (w8.heap[ob+1]? = some (.cells #[.string ⟨#[]⟩,.string ⟨#[]⟩,.int .i64 0,.int .i64 0,.int .i64 0,.int .i64 0,.slice none 0 0] 103 (0,0))):=HZ7.out
 have HR8:Hid (w8.heap[rb]? = some (.cells #[.string u.p,.string ⟨#[]⟩,.int .i64 u.v,.int .i64 u.m,.int .i64 u.c,.int .i64 u.o,.slice none 0 0] 103 (0,0))):=HR7.out
 clear hw8 b0 b1 b2 b3 b4 b5 b6 hfz n0 n1 n2 n3 n4 n5 n6 hfn o0 o1 o2 o3 o4
 obtain ⟨b0,b1,b2,b3,b4,b5,b6⟩:=cells_7 HZ8.out
 have hfz:=free_7 HZ8.out
 obtain ⟨r0,r1,r2,r3,r4,r5,r6⟩:=cells_7 HR8.out
 have hne:rb≠ob+1:=by omega
 go_region_held3 (fun w'=>w'.cell? ⟨rb,0,none⟩=some (.string u.p)∧w'.cell? ⟨rb,1,none⟩=some (.string ⟨#[]⟩)∧w'.cell? ⟨rb,2,none⟩=some (.int .i64 u.v)∧w'.cell? ⟨rb,3,none⟩=some (.int .i64 u.m)∧w'.cell? ⟨rb,4,none⟩=some (.int .i64 u.c)∧w'.cell? ⟨rb,5,none⟩=some (.int .i64 u.o)∧w'.cell? ⟨rb,6,none⟩=some (.slice none 0 0)) (first | (simp only [World.cell?_drew,r0,r1,r2,r3,r4,r5,r6,and_self];done) | (simp only [cellN hne,World.cell?_drew,r0,r1,r2,r3,r4,r5,r6,and_self];done) | go_keep) (fail)
 all_goals (go_wp2_with fail)
 exact bodyPost_ret (results_4c rfl _ _ (ob+1) 103 #[.string u.p,.string ⟨#[]⟩,.int .i64 u.v,.int .i64 u.m,.int .i64 u.c,.int .i64 u.o,.slice none 0 0] (0,0) _ (.slice (some ⟨gb,gf,none⟩) N c) (.slice none 0 0) (.int .i64 0) rfl rfl rfl rfl ((heap_drew_at _ _).trans (fill_7 HZ8.out)) Tryz.underlying103 rfl (by kernel_rfl)) rfl (OneE.read HN.out c (H.out.below (below_drew (fillB_7 HB8.out (by rw [HOB.out];omega)))) (below_drew (fillB_7 HB8.out (by rw [HOB.out];omega))))
set_option maxHeartbeats 8000000 in
set_option maxRecDepth 100000 in
theorem ro_look4m (a:Option Addr) (c:Nat) (T:List Nd) (s st:Int) (p d:ByteArray) (v f:Int) (u:Nd) (q:Nat) (w:World) (h:NdsAt w a T) (hT:T.length≤64) (hm:malC s 4 p d f=0) (hq:T[q]? = some u) (hu:fndI T p=q) (hv:(v != -1)=false) :
  Calls Tryz.prog 47 #[.slice a T.length c,.int .i64 s,.int .i64 st,opV 4 p d v f] w (OneE w (0,T,⟨u.p,⟨#[]⟩,u.v,u.m,u.c,u.o,[]⟩,[])):=by
 have H:Hid (NdsAt w a T):=h
 have HST:Hid (∀ W,_):=fun W=>refStatic_any s (4) p d v f W
 have HF:Hid (∀ W,Below w.heap.size w W→∀ x,Calls Tryz.prog 36 #[.slice a T.length c,.string x] W fun e w'=>e=.returned (.int .i64 (fndI T x))∧w'=W):=fun W hb x=>refFind_any a c T x W (h.below hb) (by omega)
 obtain ⟨mc,hmc⟩:∃ mc,malC s (4) p d f=mc:=⟨_,rfl⟩
 rw [hmc] at HST hm
 obtain ⟨N,hN⟩:∃ N,T.length=N:=⟨_,rfl⟩
 have HN:Hid (T.length=N):=hN
 rw [hN] at HF hT ⊢
 subst hm
 have HU:Hid (fndI T p=(q:Int)):=hu
 have HQ:Hid (T[q]? = some u):=hq
 have hqN:q<N:=by rw [← hN];exact (List.getElem?_eq_some_iff.1 hq).1
 have hq0:¬ (q:Int)<0:=by omega
 obtain ⟨gb,gf,rfl⟩:=h.some hq
 clear hq hu
 clear h hN hmc
 go_enter Tryz.func47,Tryz.ntmps47
 go_upto_region 1 with fail
 obtain ⟨W2,hW2⟩:∃ x,(w.alloc (.cells #[.int .i64 (4),.string p,.string d,.int .i64 v,.int .i64 f] 66)).alloc (.cells #[.string ⟨#[]⟩,.string ⟨#[]⟩,.int .i64 0,.int .i64 0,.int .i64 0,.int .i64 0,.slice none 0 0] 103)=x:=⟨_,rfl⟩
 obtain ⟨ob,hob⟩:∃ x,w.heap.size=x:=⟨_,rfl⟩
 have HOB:Hid (w.heap.size=ob):=hob
 have HB2:Hid (Below w.heap.size w W2):=by rw [← hW2];exact ((Below.refl _ _).alloc (Nat.le_refl _) _).alloc (by simp) _
 have HO2:Hid (W2.heap[ob]? = some (.cells #[.int .i64 (4),.string p,.string d,.int .i64 v,.int .i64 f] 66 (0,0))):=by rw [← hW2,← hob];exact heap_alloc2_old _ _ _
 have HZ2:Hid (W2.heap[ob+1]? = some (.cells #[.string ⟨#[]⟩,.string ⟨#[]⟩,.int .i64 0,.int .i64 0,.int .i64 0,.int .i64 0,.slice none 0 0] 103 (0,0))):=by rw [← hW2,← hob];exact heap_alloc2_new _ _ _
 rw [hW2,hob]
 clear hW2 hob
 obtain ⟨o0,o1,o2,o3,o4⟩:=cells_5 HO2.out
 go_wp2_with fail
 refine Calls.mono (HST.out _) ?_
 rintro e w3 ⟨rfl,hb3⟩
 have HB3:Hid (Below w.heap.size w w3):=trans2 HB2.out hb3
 have HO3:Hid _:=kept_block hb3 HO2.out
 have HZ3:Hid _:=kept_block hb3 HZ2.out
 have hz3:ob+1<w3.heap.size:=(Array.getElem?_eq_some_iff.1 HZ3.out).1
 clear hb3 o0 o1 o2 o3 o4
 obtain ⟨o0,o1,o2,o3,o4⟩:=cells_5 HO3.out
 obtain ⟨b0,b1,b2,b3,b4,b5,b6⟩:=cells_7 HZ3.out
 have hfz:=free_7 HZ3.out
 have e1:((4:Int)==1)=false:=by simp
 go_wp2_with fail
 refine Calls.mono (HF.out _ HB3.out _) ?_
 rintro e w4 ⟨rfl,hw4⟩
 subst hw4
 rw [HU.out]
 obtain ⟨hgb,x0,x1,x2,x3,x4,x5,x6⟩:=(H.out.below HB3.out).cells HQ.out
 go_upto_region 10 with fail
 obtain ⟨w5,hw5⟩:∃ x,w4.alloc (.cells #[.string u.p,.string u.d,.int .i64 u.v,.int .i64 u.m,.int .i64 u.c,.int .i64 u.o,.int .i64 u.k] 26)=x:=⟨_,rfl⟩
 obtain ⟨nb,hnb⟩:∃ x,w4.heap.size=x:=⟨_,rfl⟩
 have hnz:ob+1<nb:=by omega
 have HB5:Hid (Below w.heap.size w w5):=by rw [← hw5];exact HB3.out.alloc (by have:=HB3.out.size;omega) _
 have HO5:Hid (w5.heap[ob]? = some (.cells #[.int .i64 (4),.string p,.string d,.int .i64 v,.int .i64 f] 66 (0,0))):=by rw [← hw5];exact new_old HO3.out _
 have HZ5:Hid (w5.heap[ob+1]? = some (.cells #[.string ⟨#[]⟩,.string ⟨#[]⟩,.int .i64 0,.int .i64 0,.int .i64 0,.int .i64 0,.slice none 0 0] 103 (0,0))):=by rw [← hw5];exact new_old HZ3.out _
 have HN5:Hid (w5.heap[nb]? = some (.cells #[.string u.p,.string u.d,.int .i64 u.v,.int .i64 u.m,.int .i64 u.c,.int .i64 u.o,.int .i64 u.k] 26 (0,0))):=by rw [← hw5,← hnb];exact heap_alloc_new _ _
 rw [hw5,hnb]
 clear hw5 hnb hz3 o0 o1 o2 o3 o4 b0 b1 b2 b3 b4 b5 b6 hfz x0 x1 x2 x3 x4 x5 x6 hgb
 obtain ⟨o0,o1,o2,o3,o4⟩:=cells_5 HO5.out
 obtain ⟨b0,b1,b2,b3,b4,b5,b6⟩:=cells_7 HZ5.out
 have hfz:=free_7 HZ5.out
 obtain ⟨n0,n1,n2,n3,n4,n5,n6⟩:=cells_7 HN5.out
 have HSH:Hid (∀ W,_):=fun W=>refShown_any u W
 go_upto_region 13 with (go_at_call 72;refine Calls.mono (HSH.out _) ?_;rintro e w6 ⟨rfl,hb6⟩
                         have HB6:Hid (Below w.heap.size w w6):=trans2 HB5.out hb6
                         have HO6:Hid _:=kept_block hb6 HO5.out
                         have HZ6:Hid _:=kept_block hb6 HZ5.out
                         have HN6:Hid _:=kept_block hb6 HN5.out
                         clear hb6 o0 o1 o2 o3 o4 b0 b1 b2 b3 b4 b5 b6 hfz n0 n1 n2 n3 n4 n5 n6)
 obtain ⟨w7,hw7⟩:∃ x,w6.alloc (.cells #[.string u.p,.string ⟨#[]⟩,.int .i64 u.v,.int .i64 u.m,.int .i64 u.c,.int .i64 u.o,.slice none 0 0] 103)=x:=⟨_,rfl⟩
 obtain ⟨rb,hrb⟩:∃ x,w6.heap.size=x:=⟨_,rfl⟩
 have hnl6:nb<w6.heap.size:=(Array.getElem?_eq_some_iff.1 HN6.out).1
 have hrz:nb<rb:=by omega
 have HB7:Hid (Below w.heap.size w w7):=by rw [← hw7];exact HB6.out.alloc (by have:=HB6.out.size;omega) _
 have HO7:Hid (w7.heap[ob]? = some (.cells #[.int .i64 (4),.string p,.string d,.int .i64 v,.int .i64 f] 66 (0,0))):=by rw [← hw7];exact new_old HO6.out _
 have HZ7:Hid (w7.heap[ob+1]? = some (.cells #[.string ⟨#[]⟩,.string ⟨#[]⟩,.int .i64 0,.int .i64 0,.int .i64 0,.int .i64 0,.slice none 0 0] 103 (0,0))):=by rw [← hw7];exact new_old HZ6.out _
 have HN7:Hid (w7.heap[nb]? = some (.cells #[.string u.p,.string u.d,.int .i64 u.v,.int .i64 u.m,.int .i64 u.c,.int .i64 u.o,.int .i64 u.k] 26 (0,0))):=by rw [← hw7];exact new_old HN6.out _
 have HR7:Hid (w7.heap[rb]? = some (.cells #[.string u.p,.string ⟨#[]⟩,.int .i64 u.v,.int .i64 u.m,.int .i64 u.c,.int .i64 u.o,.slice none 0 0] 103 (0,0))):=by rw [← hw7,← hrb];exact heap_alloc_new _ _
 rw [hw7,hrb]
 clear hw7 hrb hnl6
 obtain ⟨o0,o1,o2,o3,o4⟩:=cells_5 HO7.out
 obtain ⟨b0,b1,b2,b3,b4,b5,b6⟩:=cells_7 HZ7.out
 have hfz:=free_7 HZ7.out
 obtain ⟨n0,n1,n2,n3,n4,n5,n6⟩:=cells_7 HN7.out
 have hfn:=free_7 HN7.out
 go_upto_region 31 with fail
 obtain ⟨w8,hw8⟩:∃ x,w7=x:=⟨_,rfl⟩
 rw [hw8] at HB7 HZ7 HR7 ⊢
 have HB8:Hid (Below w.heap.size w w8):=HB7.out
 have HZ8:Hid (w8.heap[ob+1]? = some (.cells #[.string ⟨#[]⟩,.string ⟨#[]⟩,.int .i64 0,.int .i64 0,.int .i64 0,.int .i64 0,.slice none 0 0] 103 (0,0))):=HZ7.out
 have HR8:Hid (w8.heap[rb]? = some (.cells #[.string u.p,.string ⟨#[]⟩,.int .i64 u.v,.int .i64 u.m,.int .i64 u.c,.int .i64 u.o,.slice none 0 0] 103 (0,0))):=HR7.out
 clear hw8 b0 b1 b2 b3 b4 b5 b6 hfz n0 n1 n2 n3 n4 n5 n6 hfn o0 o1 o2 o3 o4
 obtain ⟨b0,b1,b2,b3,b4,b5,b6⟩:=cells_7 HZ8.out
 have hfz:=free_7 HZ8.out
 obtain ⟨r0,r1,r2,r3,r4,r5,r6⟩:=cells_7 HR8.out
 have hne:rb≠ob+1:=by omega
 go_region_held3 (fun w'=>w'.cell? ⟨rb,0,none⟩=some (.string u.p)∧w'.cell? ⟨rb,1,none⟩=some (.string ⟨#[]⟩)∧w'.cell? ⟨rb,2,none⟩=some (.int .i64 u.v)∧w'.cell? ⟨rb,3,none⟩=some (.int .i64 u.m)∧w'.cell? ⟨rb,4,none⟩=some (.int .i64 u.c)∧w'.cell? ⟨rb,5,none⟩=some (.int .i64 u.o)∧w'.cell? ⟨rb,6,none⟩=some (.slice none 0 0)) (first | (simp only [World.cell?_drew,r0,r1,r2,r3,r4,r5,r6,and_self];done) | (simp only [cellN hne,World.cell?_drew,r0,r1,r2,r3,r4,r5,r6,and_self];done) | go_keep) (fail)
 all_goals (go_wp2_with fail)
 exact bodyPost_ret (results_4c rfl _ _ (ob+1) 103 #[.string u.p,.string ⟨#[]⟩,.int .i64 u.v,.int .i64 u.m,.int .i64 u.c,.int .i64 u.o,.slice none 0 0] (0,0) _ (.slice (some ⟨gb,gf,none⟩) N c) (.slice none 0 0) (.int .i64 0) rfl rfl rfl rfl ((heap_drew_at _ _).trans (fill_7 HZ8.out)) Tryz.underlying103 rfl (by kernel_rfl)) rfl (OneE.read HN.out c (H.out.below (below_drew (fillB_7 HB8.out (by rw [HOB.out];omega)))) (below_drew (fillB_7 HB8.out (by rw [HOB.out];omega))))
set_option maxHeartbeats 8000000 in
set_option maxRecDepth 100000 in
theorem ro_look4e (a:Option Addr) (c:Nat) (T:List Nd) (s st:Int) (p d:ByteArray) (v f:Int) (u:Nd) (q:Nat) (w:World) (h:NdsAt w a T) (hT:T.length≤64) (hm:malC s 4 p d f=0) (hq:T[q]? = some u) (hu:fndI T p=q) (hv:(v != -1)=true) (hv2:(v != u.v)=false) :
  Calls Tryz.prog 47 #[.slice a T.length c,.int .i64 s,.int .i64 st,opV 4 p d v f] w (OneE w (0,T,⟨u.p,⟨#[]⟩,u.v,u.m,u.c,u.o,[]⟩,[])):=by
 have H:Hid (NdsAt w a T):=h
 have HST:Hid (∀ W,_):=fun W=>refStatic_any s (4) p d v f W
 have HF:Hid (∀ W,Below w.heap.size w W→∀ x,Calls Tryz.prog 36 #[.slice a T.length c,.string x] W fun e w'=>e=.returned (.int .i64 (fndI T x))∧w'=W):=fun W hb x=>refFind_any a c T x W (h.below hb) (by omega)
 obtain ⟨mc,hmc⟩:∃ mc,malC s (4) p d f=mc:=⟨_,rfl⟩
 rw [hmc] at HST hm
 obtain ⟨N,hN⟩:∃ N,T.length=N:=⟨_,rfl⟩
 have HN:Hid (T.length=N):=hN
 rw [hN] at HF hT ⊢
 subst hm
 have HU:Hid (fndI T p=(q:Int)):=hu
 have HQ:Hid (T[q]? = some u):=hq
 have hqN:q<N:=by rw [← hN];exact (List.getElem?_eq_some_iff.1 hq).1
 have hq0:¬ (q:Int)<0:=by omega
 obtain ⟨gb,gf,rfl⟩:=h.some hq
 clear hq hu
 clear h hN hmc
 go_enter Tryz.func47,Tryz.ntmps47
 go_upto_region 1 with fail
 obtain ⟨W2,hW2⟩:∃ x,(w.alloc (.cells #[.int .i64 (4),.string p,.string d,.int .i64 v,.int .i64 f] 66)).alloc (.cells #[.string ⟨#[]⟩,.string ⟨#[]⟩,.int .i64 0,.int .i64 0,.int .i64 0,.int .i64 0,.slice none 0 0] 103)=x:=⟨_,rfl⟩
 obtain ⟨ob,hob⟩:∃ x,w.heap.size=x:=⟨_,rfl⟩
 have HOB:Hid (w.heap.size=ob):=hob
 have HB2:Hid (Below w.heap.size w W2):=by rw [← hW2];exact ((Below.refl _ _).alloc (Nat.le_refl _) _).alloc (by simp) _
 have HO2:Hid (W2.heap[ob]? = some (.cells #[.int .i64 (4),.string p,.string d,.int .i64 v,.int .i64 f] 66 (0,0))):=by rw [← hW2,← hob];exact heap_alloc2_old _ _ _
 have HZ2:Hid (W2.heap[ob+1]? = some (.cells #[.string ⟨#[]⟩,.string ⟨#[]⟩,.int .i64 0,.int .i64 0,.int .i64 0,.int .i64 0,.slice none 0 0] 103 (0,0))):=by rw [← hW2,← hob];exact heap_alloc2_new _ _ _
 rw [hW2,hob]
 clear hW2 hob
 obtain ⟨o0,o1,o2,o3,o4⟩:=cells_5 HO2.out
 go_wp2_with fail
 refine Calls.mono (HST.out _) ?_
 rintro e w3 ⟨rfl,hb3⟩
 have HB3:Hid (Below w.heap.size w w3):=trans2 HB2.out hb3
 have HO3:Hid _:=kept_block hb3 HO2.out
 have HZ3:Hid _:=kept_block hb3 HZ2.out
 have hz3:ob+1<w3.heap.size:=(Array.getElem?_eq_some_iff.1 HZ3.out).1
 clear hb3 o0 o1 o2 o3 o4
 obtain ⟨o0,o1,o2,o3,o4⟩:=cells_5 HO3.out
 obtain ⟨b0,b1,b2,b3,b4,b5,b6⟩:=cells_7 HZ3.out
 have hfz:=free_7 HZ3.out
 have e1:((4:Int)==1)=false:=by simp
 go_wp2_with fail
 refine Calls.mono (HF.out _ HB3.out _) ?_
 rintro e w4 ⟨rfl,hw4⟩
 subst hw4
 rw [HU.out]
 obtain ⟨hgb,x0,x1,x2,x3,x4,x5,x6⟩:=(H.out.below HB3.out).cells HQ.out
 go_upto_region 10 with fail
 obtain ⟨w5,hw5⟩:∃ x,w4.alloc (.cells #[.string u.p,.string u.d,.int .i64 u.v,.int .i64 u.m,.int .i64 u.c,.int .i64 u.o,.int .i64 u.k] 26)=x:=⟨_,rfl⟩
 obtain ⟨nb,hnb⟩:∃ x,w4.heap.size=x:=⟨_,rfl⟩
 have hnz:ob+1<nb:=by omega
 have HB5:Hid (Below w.heap.size w w5):=by rw [← hw5];exact HB3.out.alloc (by have:=HB3.out.size;omega) _
 have HO5:Hid (w5.heap[ob]? = some (.cells #[.int .i64 (4),.string p,.string d,.int .i64 v,.int .i64 f] 66 (0,0))):=by rw [← hw5];exact new_old HO3.out _
 have HZ5:Hid (w5.heap[ob+1]? = some (.cells #[.string ⟨#[]⟩,.string ⟨#[]⟩,.int .i64 0,.int .i64 0,.int .i64 0,.int .i64 0,.slice none 0 0] 103 (0,0))):=by rw [← hw5];exact new_old HZ3.out _
 have HN5:Hid (w5.heap[nb]? = some (.cells #[.string u.p,.string u.d,.int .i64 u.v,.int .i64 u.m,.int .i64 u.c,.int .i64 u.o,.int .i64 u.k] 26 (0,0))):=by rw [← hw5,← hnb];exact heap_alloc_new _ _
 rw [hw5,hnb]
 clear hw5 hnb hz3 o0 o1 o2 o3 o4 b0 b1 b2 b3 b4 b5 b6 hfz x0 x1 x2 x3 x4 x5 x6 hgb
 obtain ⟨o0,o1,o2,o3,o4⟩:=cells_5 HO5.out
 obtain ⟨b0,b1,b2,b3,b4,b5,b6⟩:=cells_7 HZ5.out
 have hfz:=free_7 HZ5.out
 obtain ⟨n0,n1,n2,n3,n4,n5,n6⟩:=cells_7 HN5.out
 have HSH:Hid (∀ W,_):=fun W=>refShown_any u W
 go_upto_region 13 with (go_at_call 72;refine Calls.mono (HSH.out _) ?_;rintro e w6 ⟨rfl,hb6⟩
                         have HB6:Hid (Below w.heap.size w w6):=trans2 HB5.out hb6
                         have HO6:Hid _:=kept_block hb6 HO5.out
                         have HZ6:Hid _:=kept_block hb6 HZ5.out
                         have HN6:Hid _:=kept_block hb6 HN5.out
                         clear hb6 o0 o1 o2 o3 o4 b0 b1 b2 b3 b4 b5 b6 hfz n0 n1 n2 n3 n4 n5 n6)
 obtain ⟨w7,hw7⟩:∃ x,w6.alloc (.cells #[.string u.p,.string ⟨#[]⟩,.int .i64 u.v,.int .i64 u.m,.int .i64 u.c,.int .i64 u.o,.slice none 0 0] 103)=x:=⟨_,rfl⟩
 obtain ⟨rb,hrb⟩:∃ x,w6.heap.size=x:=⟨_,rfl⟩
 have hnl6:nb<w6.heap.size:=(Array.getElem?_eq_some_iff.1 HN6.out).1
 have hrz:nb<rb:=by omega
 have HB7:Hid (Below w.heap.size w w7):=by rw [← hw7];exact HB6.out.alloc (by have:=HB6.out.size;omega) _
 have HO7:Hid (w7.heap[ob]? = some (.cells #[.int .i64 (4),.string p,.string d,.int .i64 v,.int .i64 f] 66 (0,0))):=by rw [← hw7];exact new_old HO6.out _
 have HZ7:Hid (w7.heap[ob+1]? = some (.cells #[.string ⟨#[]⟩,.string ⟨#[]⟩,.int .i64 0,.int .i64 0,.int .i64 0,.int .i64 0,.slice none 0 0] 103 (0,0))):=by rw [← hw7];exact new_old HZ6.out _
 have HN7:Hid (w7.heap[nb]? = some (.cells #[.string u.p,.string u.d,.int .i64 u.v,.int .i64 u.m,.int .i64 u.c,.int .i64 u.o,.int .i64 u.k] 26 (0,0))):=by rw [← hw7];exact new_old HN6.out _
 have HR7:Hid (w7.heap[rb]? = some (.cells #[.string u.p,.string ⟨#[]⟩,.int .i64 u.v,.int .i64 u.m,.int .i64 u.c,.int .i64 u.o,.slice none 0 0] 103 (0,0))):=by rw [← hw7,← hrb];exact heap_alloc_new _ _
 rw [hw7,hrb]
 clear hw7 hrb hnl6
 obtain ⟨o0,o1,o2,o3,o4⟩:=cells_5 HO7.out
 obtain ⟨b0,b1,b2,b3,b4,b5,b6⟩:=cells_7 HZ7.out
 have hfz:=free_7 HZ7.out
 obtain ⟨n0,n1,n2,n3,n4,n5,n6⟩:=cells_7 HN7.out
 have hfn:=free_7 HN7.out
 go_upto_region 31 with fail
 obtain ⟨w8,hw8⟩:∃ x,w7=x:=⟨_,rfl⟩
 rw [hw8] at HB7 HZ7 HR7 ⊢
 have HB8:Hid (Below w.heap.size w w8):=HB7.out
 have HZ8:Hid (w8.heap[ob+1]? = some (.cells #[.string ⟨#[]⟩,.string ⟨#[]⟩,.int .i64 0,.int .i64 0,.int .i64 0,.int .i64 0,.slice none 0 0] 103 (0,0))):=HZ7.out
 have HR8:Hid (w8.heap[rb]? = some (.cells #[.string u.p,.string ⟨#[]⟩,.int .i64 u.v,.int .i64 u.m,.int .i64 u.c,.int .i64 u.o,.slice none 0 0] 103 (0,0))):=HR7.out
 clear hw8 b0 b1 b2 b3 b4 b5 b6 hfz n0 n1 n2 n3 n4 n5 n6 hfn o0 o1 o2 o3 o4
 obtain ⟨b0,b1,b2,b3,b4,b5,b6⟩:=cells_7 HZ8.out
 have hfz:=free_7 HZ8.out
 obtain ⟨r0,r1,r2,r3,r4,r5,r6⟩:=cells_7 HR8.out
 have hne:rb≠ob+1:=by omega
 go_region_held3 (fun w'=>w'.cell? ⟨rb,0,none⟩=some (.string u.p)∧w'.cell? ⟨rb,1,none⟩=some (.string ⟨#[]⟩)∧w'.cell? ⟨rb,2,none⟩=some (.int .i64 u.v)∧w'.cell? ⟨rb,3,none⟩=some (.int .i64 u.m)∧w'.cell? ⟨rb,4,none⟩=some (.int .i64 u.c)∧w'.cell? ⟨rb,5,none⟩=some (.int .i64 u.o)∧w'.cell? ⟨rb,6,none⟩=some (.slice none 0 0)) (first | (simp only [World.cell?_drew,r0,r1,r2,r3,r4,r5,r6,and_self];done) | (simp only [cellN hne,World.cell?_drew,r0,r1,r2,r3,r4,r5,r6,and_self];done) | go_keep) (fail)
 all_goals (go_wp2_with fail)
 exact bodyPost_ret (results_4c rfl _ _ (ob+1) 103 #[.string u.p,.string ⟨#[]⟩,.int .i64 u.v,.int .i64 u.m,.int .i64 u.c,.int .i64 u.o,.slice none 0 0] (0,0) _ (.slice (some ⟨gb,gf,none⟩) N c) (.slice none 0 0) (.int .i64 0) rfl rfl rfl rfl ((heap_drew_at _ _).trans (fill_7 HZ8.out)) Tryz.underlying103 rfl (by kernel_rfl)) rfl (OneE.read HN.out c (H.out.below (below_drew (fillB_7 HB8.out (by rw [HOB.out];omega)))) (below_drew (fillB_7 HB8.out (by rw [HOB.out];omega))))
end Go.Proofs.YtckmihplkhmpnaaGreatDoor
