import Derived.Test.YtckmihplkhmpnaaGreatDoorTRefF
import Derived.Test.YtckmihplkhmpnaaGreatDoorTRefI
import Derived.Test.YtckmihplkhmpnaaGreatDoorTLdM
import Derived.Test.YtckmihplkhmpnaaGreatDoorTRefZ
import Derived.Test.YtckmihplkhmpnaaGreatDoorTRng
import Derived.Test.YtckmihplkhmpnaaGreatDoorTUntouched
import Derived.Test.YtckmihplkhmpnaaGreatDoorTRefB
namespace Go.Proofs.YtckmihplkhmpnaaGreatDoor
open Go.RowKit Go.Maps Go.WideShapes
set_option linter.unusedVariables false
set_option linter.unusedSimpArgs false
attribute [local go_sem ↓] Go.wp_at_zero Go.wp_at_succ
theorem refIn_yes (v m:Int) (w:World) (h0:0≤v) (h1:v≤m) :
  Calls Tryz.prog 33 #[.int .i64 v,.int .i64 m] w fun e w'=>e=.returned (.bool true)∧w'=w:=by
 have h0':¬ v<0:=by omega
 have h1':¬ m<v:=by omega
 go_enter Tryz.func33,Tryz.ntmps33
 go_wp2_with fail
 go_ret
 exact ⟨rfl,rfl⟩
theorem parC_ok {p:ByteArray} (hp:(parse p).1=0) (hr:p≠pRt):parC p=0:=by
 obtain ⟨xs,k,x,hx,hl,hk,_⟩:=names_of hp hr
 unfold parC
 rw [if_pos hp,hx,if_neg (fun e=>by
  have e':xs=[]:=e
  rw [e'] at hl
  simp at hl)]
structure NdO (x:Nd):Prop where
 r:NdR x
 v:0≤x.v∧x.v≤2147483647
 d:x.d.size≤64
 k:0≤x.k∧x.k≤100000
 p:(parse x.p).1=0
set_option maxHeartbeats 8000000 in
set_option maxRecDepth 100000 in
theorem fits_first (x:Nd) (c:Nat) (w:World) (hx:NdO x) (hp:x.p=pRt) (ho:x.o=0) :
  Calls Tryz.prog 13 #[.slice none 0 c,x.V] w fun e w'=>e=.returned (.bool true)∧Below w.heap.size w w':=by
 have HIS:Hid (∀ W,Calls Tryz.prog 32 #[.string x.p] W fun e w'=>e=.returned (.bool true)∧Below W.heap.size W w'):=fun W=>by have:=refIs_any x.p W;rw [show isP x.p=true by simpa [isP] using hx.p] at this;exact this
 have HI1:Hid (∀ W,Calls Tryz.prog 33 #[.int .i64 x.v,.int .i64 2147483647] W fun e w'=>e=.returned (.bool true)∧w'=W):=fun W=>refIn_yes _ _ W hx.v.1 hx.v.2
 have HI2:Hid (∀ W,Calls Tryz.prog 33 #[.int .i64 x.m,.int .i64 2147483647] W fun e w'=>e=.returned (.bool true)∧w'=W):=fun W=>refIn_yes _ _ W hx.r.1.1 hx.r.1.2
 have HI3:Hid (∀ W,Calls Tryz.prog 33 #[.int .i64 x.c,.int .i64 2147483647] W fun e w'=>e=.returned (.bool true)∧w'=W):=fun W=>refIn_yes _ _ W hx.r.2.1.1 hx.r.2.1.2
 have HI4:Hid (∀ W,Calls Tryz.prog 33 #[.int .i64 x.o,.int .i64 2147483647] W fun e w'=>e=.returned (.bool true)∧w'=W):=fun W=>refIn_yes _ _ W hx.r.2.2.1.1 hx.r.2.2.1.2
 have HI5:Hid (∀ W,Calls Tryz.prog 33 #[.int .i64 x.k,.int .i64 100000] W fun e w'=>e=.returned (.bool true)∧w'=W):=fun W=>refIn_yes _ _ W hx.k.1 hx.k.2
 have hd':¬ (64:Int)<(x.d.size:Int):=by have:=hx.d;omega
 obtain ⟨p,d,v,m,ch,o,k⟩:=x
 obtain rfl:p=pRt:=hp
 obtain rfl:o=0:=ho
 clear hx
 show Calls _ _ #[.slice none 0 c,.agg #[.string pRt,.string d,.int .i64 v,.int .i64 m,.int .i64 ch,.int .i64 0,.int .i64 k]] w _
 go_enter Tryz.func13,Tryz.ntmps13
 go_upto_region 1 with fail
 obtain ⟨w1,hw1⟩:∃ y,w.alloc (.cells #[.string pRt,.string d,.int .i64 v,.int .i64 m,.int .i64 ch,.int .i64 0,.int .i64 k] 26)=y:=⟨_,rfl⟩
 obtain ⟨nb,hnb⟩:∃ y,w.heap.size=y:=⟨_,rfl⟩
 have HB1:Hid (Below w.heap.size w w1):=by rw [← hw1];exact (Below.refl _ _).alloc (Nat.le_refl _) _
 have HN1:Hid (w1.heap[nb]? = some (.cells #[.string pRt,.string d,.int .i64 v,.int .i64 m,.int .i64 ch,.int .i64 0,.int .i64 k] 26 (0,0))):=by rw [← hw1,← hnb];exact heap_alloc_new _ _
 rw [hw1,hnb]
 clear hw1 hnb
 obtain ⟨n0,n1,n2,n3,n4,n5,n6⟩:=cells_7 HN1.out
 go_wp2_with fail
 refine Calls.mono (HIS.out _) ?_
 rintro e w2 ⟨rfl,hb2⟩
 have HB2:Hid (Below w.heap.size w w2):=trans2 HB1.out hb2
 have HN2:Hid _:=kept_block hb2 HN1.out
 clear hb2 n0 n1 n2 n3 n4 n5 n6
 obtain ⟨n0,n1,n2,n3,n4,n5,n6⟩:=cells_7 HN2.out
 go_wp2_with fail
 refine Calls.mono (HI1.out _) ?_
 rintro e w3 ⟨rfl,rfl⟩
 go_wp2_with fail
 refine Calls.mono (HI2.out _) ?_
 rintro e w4 ⟨rfl,rfl⟩
 go_wp2_with fail
 refine Calls.mono (HI3.out _) ?_
 rintro e w5 ⟨rfl,rfl⟩
 go_wp2_with fail
 refine Calls.mono (HI4.out _) ?_
 rintro e w6 ⟨rfl,rfl⟩
 go_wp2_with fail
 refine Calls.mono (HI5.out _) ?_
 rintro e w7 ⟨rfl,rfl⟩
 go_wp2_with fail
 go_ret
 exact ⟨rfl,HB2.out⟩
set_option maxHeartbeats 8000000 in
set_option maxRecDepth 100000 in
theorem fits_next (x z u:Nd) (a:Option Addr) (c n N i:Nat) (P:List Nd) (w:World) (h:NdsAt w a P) (hN:P.length=N) (hnN:N=n+1) (hn:n≤64) (hx:NdO x) (hr:x.p≠pRt) (hz:P[n]? = some z) (hzs:z.p.size≤1000) (hO:O z.p x.p=-1) (hf:fndI P (parB x.p)=(i:Int)) (hu:P[i]? = some u) (ho:u.o=0) (hok:x.o≠0→x.k=0) :
  Calls Tryz.prog 13 #[.slice a N c,x.V] w fun e w'=>e=.returned (.bool true)∧Below w.heap.size w w':=by
 have HIS:Hid (∀ W,Calls Tryz.prog 32 #[.string x.p] W fun e w'=>e=.returned (.bool true)∧Below W.heap.size W w'):=fun W=>by have:=refIs_any x.p W;rw [show isP x.p=true by simpa [isP] using hx.p] at this;exact this
 have HI1:Hid (∀ W,Calls Tryz.prog 33 #[.int .i64 x.v,.int .i64 2147483647] W fun e w'=>e=.returned (.bool true)∧w'=W):=fun W=>refIn_yes _ _ W hx.v.1 hx.v.2
 have HI2:Hid (∀ W,Calls Tryz.prog 33 #[.int .i64 x.m,.int .i64 2147483647] W fun e w'=>e=.returned (.bool true)∧w'=W):=fun W=>refIn_yes _ _ W hx.r.1.1 hx.r.1.2
 have HI3:Hid (∀ W,Calls Tryz.prog 33 #[.int .i64 x.c,.int .i64 2147483647] W fun e w'=>e=.returned (.bool true)∧w'=W):=fun W=>refIn_yes _ _ W hx.r.2.1.1 hx.r.2.1.2
 have HI4:Hid (∀ W,Calls Tryz.prog 33 #[.int .i64 x.o,.int .i64 2147483647] W fun e w'=>e=.returned (.bool true)∧w'=W):=fun W=>refIn_yes _ _ W hx.r.2.2.1.1 hx.r.2.2.1.2
 have HI5:Hid (∀ W,Calls Tryz.prog 33 #[.int .i64 x.k,.int .i64 100000] W fun e w'=>e=.returned (.bool true)∧w'=W):=fun W=>refIn_yes _ _ W hx.k.1 hx.k.2
 have HPA:Hid (∀ W,Calls Tryz.prog 34 #[.string x.p] W fun e w'=>e=.returned (.tuple #[.string (parB x.p),.int .i64 0])∧Below W.heap.size W w'):=fun W=>by have:=refParent_any x.p W;rw [parC_ok hx.p hr] at this;exact this
 have HOR:Hid (∀ W,Calls Tryz.prog 35 #[.string z.p,.string x.p] W fun e w'=>e=.returned (.int .i64 (-1))∧w'=W):=fun W=>by
  have h9:Calls Tryz.prog 35 #[.string z.p,.string x.p] W fun e w'=>e=.returned (.int .i64 (O z.p x.p))∧w'=W:=ref_any z.p x.p (by unfold maxLen;omega) (by have:=size_of_parse hx.p;unfold maxLen;omega) W
  rw [hO] at h9
  exact h9
 have HFI:Hid (∀ W,Below w.heap.size w W→Calls Tryz.prog 36 #[.slice a N c,.string (parB x.p)] W fun e w'=>e=.returned (.int .i64 i)∧w'=W):=fun W hb=>by have:=refFind_any a c P (parB x.p) W (h.below hb) (by omega);rw [hN,hf] at this;exact this
 have hd':¬ (64:Int)<(x.d.size:Int):=by have:=hx.d;omega
 have H:Hid (NdsAt w a P):=h
 have hil:i<N:=by rw [← hN];exact (List.getElem?_eq_some_iff.1 hu).1
 have HZ:Hid (P[n]? = some z):=hz
 have HU:Hid (P[i]? = some u):=hu
 have hii:(i:Int)<(N:Int):=by omega
 have hi0:¬ (i:Int)<0:=by omega
 have hi1:(0:Int)≤(i:Int):=by omega
 have hn0:((N:Int)==0)=false:=by have:¬ (N:Int)=0:=by omega
                                 simpa using this
 have hn1:IntKind.i64.wrap ((N:Int) - 1)=(n:Int):=by rw [IntKind.wrap_i64];omega
 have hn2:(0:Int)≤(n:Int):=by omega
 have hn3:(n:Int)<(N:Int):=by omega
 obtain ⟨b,f,rfl⟩:=h.some hz
 have hok':x.o≤0∨x.k≤0:=by
  by_cases e:x.o=0
  · exact .inl (by omega)
  · exact .inr (by have:=hok e;omega)
 obtain ⟨p,d,v,m,ch,o,k⟩:=x
 clear hx h hz hu hf hO hok hr hN hnN
 show Calls _ _ #[.slice (some ⟨b,f,none⟩) N c,.agg #[.string p,.string d,.int .i64 v,.int .i64 m,.int .i64 ch,.int .i64 o,.int .i64 k]] w _
 go_enter Tryz.func13,Tryz.ntmps13
 go_upto_region 1 with fail
 obtain ⟨w1,hw1⟩:∃ y,w.alloc (.cells #[.string p,.string d,.int .i64 v,.int .i64 m,.int .i64 ch,.int .i64 o,.int .i64 k] 26)=y:=⟨_,rfl⟩
 obtain ⟨nb,hnb⟩:∃ y,w.heap.size=y:=⟨_,rfl⟩
 have HB1:Hid (Below w.heap.size w w1):=by rw [← hw1];exact (Below.refl _ _).alloc (Nat.le_refl _) _
 have HN1:Hid (w1.heap[nb]? = some (.cells #[.string p,.string d,.int .i64 v,.int .i64 m,.int .i64 ch,.int .i64 o,.int .i64 k] 26 (0,0))):=by rw [← hw1,← hnb];exact heap_alloc_new _ _
 rw [hw1,hnb]
 clear hw1 hnb
 obtain ⟨n0,n1,n2,n3,n4,n5,n6⟩:=cells_7 HN1.out
 go_wp2_with fail
 refine Calls.mono (HIS.out _) ?_
 rintro e w2 ⟨rfl,hb2⟩
 have HB2:Hid (Below w.heap.size w w2):=trans2 HB1.out hb2
 have HN2:Hid _:=kept_block hb2 HN1.out
 clear hb2 n0 n1 n2 n3 n4 n5 n6
 obtain ⟨n0,n1,n2,n3,n4,n5,n6⟩:=cells_7 HN2.out
 go_wp2_with fail
 refine Calls.mono (HI1.out _) ?_
 rintro e w3 ⟨rfl,rfl⟩
 go_wp2_with fail
 refine Calls.mono (HI2.out _) ?_
 rintro e w4 ⟨rfl,rfl⟩
 go_wp2_with fail
 refine Calls.mono (HI3.out _) ?_
 rintro e w5 ⟨rfl,rfl⟩
 go_wp2_with fail
 refine Calls.mono (HI4.out _) ?_
 rintro e w6 ⟨rfl,rfl⟩
 go_wp2_with fail
 refine Calls.mono (HI5.out _) ?_
 rintro e w7 ⟨rfl,rfl⟩
 by_cases hoo:0<o
 · have hk0:¬ 0<k:=by rcases hok' with e | e
                      · exact absurd hoo (by simpa using e)
                      · simpa using e
   go_wp2_with fail
   refine Calls.mono (HPA.out _) ?_
   rintro e w8 ⟨rfl,hb8⟩
   have HB8:Hid (Below w.heap.size w w8):=trans2 HB2.out hb8
   have HN8:Hid _:=kept_block hb8 HN2.out
   clear hb8 n0 n1 n2 n3 n4 n5 n6
   obtain ⟨n0,n1,n2,n3,n4,n5,n6⟩:=cells_7 HN8.out
   obtain ⟨hzl,z0,z1,z2,z3,z4,z5,z6⟩:=(H.out.below HB8.out).cells HZ.out
   go_upto_region 9 with fail
   go_region_held3 (fun w'=>w'.cell? ⟨nb,0,none⟩=some (.string p)∧w'.cell? ⟨b,f+n * 7,none⟩=some (.string z.p)) (first | (simp only [World.cell?_drew,n0,z0,and_self]) | go_keep)
    (first
      | (go_at_call 35;refine Calls.mono (HOR.out _) ?_;rintro e w9 ⟨rfl,rfl⟩))
   obtain ⟨w9,hw9⟩:∃ x,w8.drew=x:=⟨_,rfl⟩
   have HB9:Hid (Below w.heap.size w w9):=by rw [← hw9];exact below_drew HB8.out
   rw [hw9]
   clear hw9 n0 n1 n2 n3 n4 n5 n6 z0 z1 z2 z3 z4 z5 z6
   obtain ⟨hul,y0,y1,y2,y3,y4,y5,y6⟩:=(H.out.below HB9.out).cells HU.out
   rw [ho] at y5
   go_wp2_with fail
   refine Calls.mono (HFI.out _ HB9.out) ?_
   rintro e w10 ⟨rfl,rfl⟩
   go_wp2_with fail
   go_ret
   exact ⟨rfl,HB9.out⟩
 · skip
   go_wp2_with fail
   refine Calls.mono (HPA.out _) ?_
   rintro e w8 ⟨rfl,hb8⟩
   have HB8:Hid (Below w.heap.size w w8):=trans2 HB2.out hb8
   have HN8:Hid _:=kept_block hb8 HN2.out
   clear hb8 n0 n1 n2 n3 n4 n5 n6
   obtain ⟨n0,n1,n2,n3,n4,n5,n6⟩:=cells_7 HN8.out
   obtain ⟨hzl,z0,z1,z2,z3,z4,z5,z6⟩:=(H.out.below HB8.out).cells HZ.out
   go_upto_region 9 with fail
   go_region_held3 (fun w'=>w'.cell? ⟨nb,0,none⟩=some (.string p)∧w'.cell? ⟨b,f+n * 7,none⟩=some (.string z.p)) (first | (simp only [World.cell?_drew,n0,z0,and_self]) | go_keep)
    (first
      | (go_at_call 35;refine Calls.mono (HOR.out _) ?_;rintro e w9 ⟨rfl,rfl⟩))
   obtain ⟨w9,hw9⟩:∃ x,w8.drew=x:=⟨_,rfl⟩
   have HB9:Hid (Below w.heap.size w w9):=by rw [← hw9];exact below_drew HB8.out
   rw [hw9]
   clear hw9 n0 n1 n2 n3 n4 n5 n6 z0 z1 z2 z3 z4 z5 z6
   obtain ⟨hul,y0,y1,y2,y3,y4,y5,y6⟩:=(H.out.below HB9.out).cells HU.out
   rw [ho] at y5
   go_wp2_with fail
   refine Calls.mono (HFI.out _ HB9.out) ?_
   rintro e w10 ⟨rfl,rfl⟩
   go_wp2_with fail
   go_ret
   exact ⟨rfl,HB9.out⟩
theorem fndI_take {T:List Nd} {i n:Nat} {u:Nd} (hi:Inv T) (hu:T[i]? = some u) (hn:i<n):fndI (T.take n) u.p=i:=by
 refine fndI_some (by rw [List.getElem?_take,if_pos hn];exact hu) rfl (fun y hy e=>?_)
 rw [List.take_take,Nat.min_eq_left (Nat.le_of_lt hn)] at hy
 obtain ⟨j,hj⟩:=List.mem_iff_getElem?.1 hy
 rw [List.getElem?_take] at hj
 split at hj
 · rename_i hji
   obtain ⟨h2,e2⟩:=List.getElem?_eq_some_iff.1 hj
   obtain ⟨h3,e3⟩:=List.getElem?_eq_some_iff.1 hu
   have:=List.pairwise_iff_getElem.1 hi.srt j i h2 h3 hji
   rw [e2,e3,e,O_self] at this
   cases this
 · cases hj
theorem ndO_of {T:List Nd} (hS:Snd T) (hR:Rng T) {x:Nd} (hx:x∈T):NdO x:=by
 have h:=hS.inv.nd x hx
 exact ⟨hR x hx,⟨h.2.2.1,h.2.2.2.1⟩,h.2.1,⟨h.2.2.2.2.1,h.2.2.2.2.2⟩,h.1⟩
theorem fits_at (T:List Nd) (q:Nat) (x:Nd) (a:Option Addr) (c:Nat) (w:World) (hS:Snd T) (hR:Rng T) (hx:T[q]? = some x) (h:NdsAt w a (T.take q)) (ha:q=0→a=none) :
  Calls Tryz.prog 13 #[.slice a q c,x.V] w fun e w'=>e=.returned (.bool true)∧Below w.heap.size w w':=by
 have hxm:=List.mem_of_getElem? hx
 have hql:=(List.getElem?_eq_some_iff.1 hx).1
 have h64:=hS.inv.len
 cases q with
 | zero =>
   obtain rfl:=ha rfl
   obtain ⟨r,hr0,hrp,hro⟩:=hS.first
   rw [hx] at hr0
   obtain rfl:=Option.some.inj hr0
   exact fits_first x c w (ndO_of hS hR hxm) hrp hro
 | succ n =>
   obtain ⟨hxr,k,u,hk,hu,hup,huo⟩:=hS.above (by omega) hx
   obtain ⟨z,hz⟩:∃ z,T[n]? = some z:=⟨T[n],List.getElem?_eq_getElem (by omega)⟩
   exact fits_next x z u a c n (n+1) k (T.take (n+1)) w h (by rw [List.length_take];omega) rfl (by omega) (ndO_of hS hR hxm) hxr (by rw [List.getElem?_take,if_pos (by omega)];exact hz) (Nat.le_trans (size_of_parse (hS.inv.nd z (List.mem_of_getElem? hz)).1) (by decide)) (hS.order hz hx) (by rw [← hup];exact fndI_take hS.inv hu hk) (by rw [List.getElem?_take,if_pos hk];exact hu) huo (hR x hxm).2.2.2
set_option maxHeartbeats 8000000 in
set_option maxRecDepth 100000 in
theorem refLoad_ok (a:Option Addr) (c:Nat) (T:List Nd) (w:World) (hS:Snd T) (hR:Rng T) (h:NdsAt w a T) :
  Calls Tryz.prog 4 #[.slice a T.length c] w fun e w'=>∃ la lc,e=.returned (.tuple #[rtV la T.length lc,.int .i64 0])∧NdsAt w' la T∧Below w.heap.size w w':=by
 obtain ⟨i0,hi0,hz0,hz1,hz2⟩:=info_parts Tryz.infoRF
 have H:Hid (NdsAt w a T):=h
 have HS:Hid (Snd T):=hS
 have HR:Hid (Rng T):=hR
 have hT:T.length≤64:=hS.inv.len
 have hT1:1≤T.length:=List.length_pos_iff.2 hS.ne
 obtain ⟨N,hN⟩:∃ N,T.length=N:=⟨_,rfl⟩
 have HN:Hid (T.length=N):=hN
 rw [hN] at hT hT1 ⊢
 have hn64:¬ (64:Int)<(N:Int):=by omega
 clear h hN hS hR
 go_enter Tryz.func4,Tryz.ntmps4
 go_upto_region 1 with fail
 obtain ⟨w1,hw1⟩:∃ y,w.alloc (.cells #[.slice none 0 0] 29)=y:=⟨_,rfl⟩
 obtain ⟨tb,htb⟩:∃ y,w.heap.size=y:=⟨_,rfl⟩
 have HB1:Hid (Below w.heap.size w w1):=by rw [← hw1];exact (Below.refl _ _).alloc (Nat.le_refl _) _
 have HX1:Hid (w1.heap[tb]? = some (.cells #[.slice none 0 0] 29 (0,0))):=by rw [← hw1,← htb];exact heap_alloc_new _ _
 have HTB:Hid (w.heap.size=tb):=htb
 rw [hw1,htb]
 clear hw1 htb
 go_wp2_with fail
 go_loopw [4,5] (fun v i wr=>∃ (q:Nat) (la:Option Addr) (lc:Nat),i=.int .i64 q∧q≤N∧v=.slice la q lc∧(q=0→la=none)∧Hid (wr.ownsRow w1.heap.size 26 7 v q ((T.take q).flatMap Nd.cs))∧Hid (Below w1.heap.size w1 wr)) (fun _ i _=>N - (intOf i).toNat)
 case atStart=>exact ⟨0,none,0,rfl,Nat.zero_le _,rfl,fun _=>rfl,World.ownsRow_nil _ _ _ _,Below.refl _ _⟩
 case round =>
  obtain ⟨q,la,lc,rfl,hq,hv,hla,HO,HB⟩:=hrel
  have HV:Hid (u4=.slice la q lc):=hv
  clear hv
  have HXr:Hid _:=kept_block HB.out HX1.out
  by_cases hlt:q<N
  · have hlt':(q:Int)<(N:Int):=by omega
    obtain ⟨x,hx⟩:∃ x,T[q]? = some x:=⟨T[q]'(by rw [HN.out];exact hlt),List.getElem?_eq_getElem _⟩
    obtain ⟨gb,gf,rfl⟩:=H.out.some hx
    obtain ⟨hgl,x0,x1,x2,x3,x4,x5,x6⟩:=(H.out.below (trans2 HB1.out HB.out)).cells hx
    have HTK:Hid (T.take (q+1)=T.take q ++ [x]):=by show _=_;rw [List.take_add_one,hx];rfl
    have HFT:Hid (Calls Tryz.prog 13 #[u4,x.V] wr fun e w'=>e=.returned (.bool true)∧Below wr.heap.size wr w'):=by
     have h9:=HO.out
     rw [HV.out] at h9 ⊢
     exact fits_at T q x la lc wr HS.out HR.out hx (nds_row' h9) hla
    have HXX:Hid (T[q]? = some x):=hx
    have hs:=HB.out.size
    clear hx
    go_wp2_with fail
    refine Calls.mono HFT.out ?_
    rintro e w3 ⟨rfl,hb3⟩
    have HO3:Hid (w3.ownsRow w1.heap.size 26 7 u4 q ((T.take q).flatMap Nd.cs)):=owns_chg HO.out (Chg.of_below hb3 (fun _=>False)) (fun _ _=>id)
    have HB3:Hid (Below w1.heap.size w1 w3):=trans2 HB.out hb3
    have hs3:=HB3.out.size
    clear hb3 x0 x1 x2 x3 x4 x5 x6
    obtain ⟨hgl3,x0,x1,x2,x3,x4,x5,x6⟩:=(H.out.below (trans2 HB1.out HB3.out)).cells HXX.out
    obtain ⟨U,hU⟩:∃ U,T.take q=U:=⟨_,rfl⟩
    rw [hU] at HO3 HTK
    clear hU
    go_wp2_with (first
     | (at_builtin;refine wpList_append_lies _ rfl _ _ _ rfl w1.heap.size 26 i0 _ 7 72 Tryz.underlying24 hi0 hz0 hz1 hz2 rfl (by omega) u4 q (U.flatMap Nd.cs) rfl (World.ownsRow.alloc HO3.out _) ⟨w3.heap.size,0,none⟩ 1 1 [.string x.p,.string x.d,.int .i64 x.v,.int .i64 x.m,.int .i64 x.c,.int .i64 x.o,.int .i64 x.k] rfl rfl (World.news_of_block (cs:=#[.string x.p,.string x.d,.int .i64 x.v,.int .i64 x.m,.int .i64 x.c,.int .i64 x.o,.int .i64 x.k]) (t:=26) (fr:=(0,0)) (heap_alloc_new w3 _)) (by simp [Value.oneCell']) (by omega) (by unfold maxLen;omega) (by omega) (by simp;omega) (w3.heap.size+1) (by simp) ?_
        intro g4 cap4 w4 hown4 hgrow4 hat4 hlt4
        have HN4:Hid (w4.ownsRow w1.heap.size 26 7 (.slice (some ⟨g4,0,none⟩) (q+1) cap4) (q+1) (U.flatMap Nd.cs ++ [.string x.p,.string x.d,.int .i64 x.v,.int .i64 x.m,.int .i64 x.c,.int .i64 x.o,.int .i64 x.k])):=hown4
        have HB4:Hid (Below w1.heap.size w1 w4):=HB3.out.trans (((Below.refl _ _).alloc (by omega) _).grown hgrow4 (by simp;omega) (fun j hj=>(HO3.out.lt j hj).1))
        clear hown4 hgrow4 hat4 hlt4)
     | fail)
    go_roundw
    case rel=>exact ⟨q+1,some ⟨g4,0,none⟩,cap4,by go_num,by omega,rfl,(fun e=>by omega),by show World.ownsRow _ _ _ _ _ _ _;rw [HTK.out,List.flatMap_append];have h9:=HN4.out;simpa using h9,HB4.out⟩
    case measure=>simp [intOf];omega
  · obtain rfl:q=N:=by omega
    obtain rfl:=HV.out
    have hge:¬ (q:Int)<(q:Int):=by omega
    have hq0:((q:Int)==0)=false:=by have:¬ (q:Int)=0:=by omega
                                    simpa using this
    have y0:=cells_1 HXr.out
    have yf:=free_1 HXr.out
    have HOT:Hid (wr.ownsRow w1.heap.size 26 7 (.slice la q lc) q (T.flatMap Nd.cs)):=by
     have h9:=HO.out
     rw [List.take_of_length_le (by rw [HN.out];exact Nat.le_refl _)] at h9
     exact h9
    go_wp2_with fail
    have hset:(wr.setCell ⟨tb,0,none⟩ (.slice la q lc)).ownsRow w1.heap.size 26 7 (.slice la q lc) q (T.flatMap Nd.cs):=owns_chg HOT.out (Chg.set _ _ _) (fun k hk e=>by
     have:=(HOT.out.lt k hk).1
     have e':k=tb:=e
     have:=(Array.getElem?_eq_some_iff.1 HX1.out).1
     omega)
    exact bodyPost_ret (results_cell_tmp rfl _ _ tb 29 _ (0,0) _ (.int .i64 0) rfl rfl (fill_1 HXr.out) Tryz.underlying29 rfl (by kernel_rfl)) rfl ⟨la,⟨lc,rfl⟩,nds_row' hset,(trans2 HB1.out HB.out).setCell (by rw [HTB.out];exact Nat.le_refl _) _⟩
end Go.Proofs.YtckmihplkhmpnaaGreatDoor
namespace Go.Proofs.YtckmihplkhmpnaaGreatDoor
open Go.RowKit Go.Maps Go.WideShapes
set_option linter.unusedVariables false
set_option linter.unusedSimpArgs false
theorem results_tmp_cell_tmp {P:Program} {fn:Func} {p q r:Tmp} {ty:TypeId} (h:fn.results=#[.tmp r,.cell p ty,.tmp q]) (tmps:Array Value) (w:World) (g:Nat) (t:TypeId) (cs:Array Value) (fr:Nat × Nat) (d:TypeDesc) (u v:Value)
  (hr:tmps.getD r undef=u) (hp:tmps.getD p undef=.pointer (some ⟨g,0,none⟩)) (hq:tmps.getD q undef=v) (hg:w.heap[g]? = some (.cells cs t fr))
  (hu:P.underlying ty=some d) (hd:(match d with | .struct _ | .array _ _=>true | _=>false)=true) (hi:(P.info? ty).map (·.size)=some cs.size) :
  (results fn tmps).run P w=.ok (.tuple #[u,.agg cs,v]) w:=by
 have hp':tmps[p]?.getD undef=.pointer (some ⟨g,0,none⟩):=by simpa using hp
 have hq':tmps[q]?.getD undef=v:=by simpa using hq
 have hr':tmps[r]?.getD undef=u:=by simpa using hr
 simp [results,h,hp',hq',hr',asAddr,run_loadVar_row w g t ty cs fr d hg hu hd hi]
abbrev stCs (k s st:Int) (a:Option Addr) (n c:Nat) (pl:ByteArray) (nn:Int):Array Value:=#[.int .i64 k,.int .i64 s,.int .i64 st,.slice a n c,.string pl,.int .i64 nn]
abbrev pW0 (w:World) (v:Value) (cs:Array Value):World:=((w.alloc (.cells #[v] 29)).alloc (.cells cs 48)).alloc (.cells #[.slice none 0 0] 29)
structure PlI (w W:World) (v:Value) (cs:Array Value):Prop where
 low:Below w.heap.size w W
 tr:W.heap[w.heap.size]? = some (.cells #[v] 29 (0,0))
 sp:W.heap[w.heap.size+1]? = some (.cells cs 48 (0,0))
 rs:W.heap[w.heap.size+1+1]? = some (.cells #[.slice none 0 0] 29 (0,0))
theorem plI_start (w:World) (v:Value) (cs:Array Value):PlI w (pW0 w v cs) v cs :=
 ⟨(((Below.refl _ _).alloc (Nat.le_refl _) _).alloc (by simp) _).alloc (by simp;omega) _,heap_alloc_old (heap_alloc_old (heap_alloc_new _ _)),heap_alloc_old (heap_alloc_new' (by simp)),heap_alloc_new' (by simp)⟩
theorem PlI.below {w W W':World} {v:Value} {cs:Array Value} (h:PlI w W v cs) (hb:Below W.heap.size W W'):PlI w W' v cs :=
 ⟨trans2 h.low hb,kept_block hb h.tr,kept_block hb h.sp,kept_block hb h.rs⟩
theorem DeskAt.below {w w':World} {base db:Nat} {dv:Value} (h:DeskAt w base db dv) (hb:Below w.heap.size w w'):DeskAt w' base db dv:=by
 obtain ⟨h1,h2,n,xs,h3⟩:=h
 exact ⟨kept_block hb h1,h2,n,xs,owns_chg h3 (Chg.of_below hb (fun _=>False)) (fun _ _=>id)⟩
theorem TrAt.chg {w w':World} {B tb q:Nat} {T:List Nd} {S:Nat→Prop} (h:TrAt w B tb q T) (hc:Chg w w' S) (hs:∀ k,S k→(∃ cur t,t≠57∧w.heap[k]? = some (.cells cur t (0,0)))∨(k≠tb∧∃ cur t,w.heap[k]? = some (.cells cur t (0,0)))):TrAt w' B tb q T:=by
 obtain ⟨mb,n,D,h1,h2,h3⟩:=h.at'
 refine ⟨⟨mb,n,D,⟨kept_chg hc h1.box (fun e=>?_),map_chg h1.map hc (fun e=>?_),h1.lo,h1.lom⟩,h2,h3⟩,h.snd⟩
 · rcases hs tb e with ⟨cur,t,ht,hk⟩ | ⟨hne,_⟩
   · rw [h1.box] at hk
     simp at hk
     exact ht hk.2.symm
   · exact hne rfl
 · obtain ⟨es,clock,hb,_⟩:=h1.map
   rcases hs mb e with ⟨cur,t,ht,hk⟩ | ⟨hne,cur,t,hk⟩
   · rw [hb] at hk
     cases hk
   · rw [hb] at hk
     cases hk
theorem TrAt.base {w:World} {B B' tb q:Nat} {T:List Nd} (h:TrAt w B tb q T) (hB:B'≤B):TrAt w B' tb q T:=by
 obtain ⟨mb,n,D,h1,h2,h3⟩:=h.at'
 exact ⟨⟨mb,n,D,⟨h1.box,h1.map,Nat.le_trans hB h1.lo,Nat.le_trans hB h1.lom⟩,h2,h3⟩,h.snd⟩
theorem Chg.trans' {w w1 w2:World} {S T:Nat→Prop} (h:Chg w w1 S) (k:Chg w1 w2 T) (hT:∀ j,T j→S j∨w.heap.size≤j):Chg w w2 S :=
 ⟨k.os.trans h.os,k.tape.trans h.tape,k.output.trans h.output,Nat.le_trans h.size k.size,fun j hj hn=>by
  rw [k.block j (Nat.lt_of_lt_of_le hj h.size) (fun e=>(hT j e).elim hn (fun h'=>by omega)),h.block j hj hn]⟩
theorem DeskAt.chg {w w':World} {base db:Nat} {dv:Value} {S:Nat→Prop} (h:DeskAt w base db dv) (hc:Chg w w' S) (hs:∀ k,S k→∃ cur t,t≠44∧t≠66∧w.heap[k]? = some (.cells cur t (0,0))):DeskAt w' base db dv:=by
 obtain ⟨h1,h2,n,xs,h3⟩:=h
 refine ⟨kept_chg hc h1 (fun e=>?_),h2,n,xs,owns_chg h3 hc (fun k hk e=>?_)⟩
 · obtain ⟨cur,t,ht,_,hk⟩:=hs db e
   rw [h1] at hk
   simp at hk
   exact ht hk.2.symm
 · obtain ⟨cur,t,_,ht,hk'⟩:=hs k e
   obtain ⟨cur',h9⟩:=owns_kind h3 hk
   rw [h9] at hk'
   simp at hk'
   exact ht hk'.2.symm
structure PlC (w W:World) (v:Value) (cs:Array Value) (S:Nat→Prop):Prop where
 chg:Chg w W S
 tr:W.heap[w.heap.size]? = some (.cells #[v] 29 (0,0))
 sp:W.heap[w.heap.size+1]? = some (.cells cs 48 (0,0))
 rs:W.heap[w.heap.size+1+1]? = some (.cells #[.slice none 0 0] 29 (0,0))
theorem PlI.c {w W:World} {v:Value} {cs:Array Value} (h:PlI w W v cs) (S:Nat→Prop):PlC w W v cs S:=⟨Chg.of_below h.low S,h.tr,h.sp,h.rs⟩
theorem PlC.below {w W W':World} {v:Value} {cs:Array Value} {S:Nat→Prop} (h:PlC w W v cs S) (hb:Below W.heap.size W W'):PlC w W' v cs S :=
 ⟨h.chg.trans (Chg.of_below hb S),kept_block hb h.tr,kept_block hb h.sp,kept_block hb h.rs⟩
theorem PlC.turn {w W W':World} {v:Value} {cs:Array Value} {S T:Nat→Prop} (h:PlC w W v cs S) (hc:Chg W W' T) (hT:∀ k,T k→S k∨w.heap.size≤k) (h0:¬ T w.heap.size) (h1:¬ T (w.heap.size+1)) (h2:¬ T (w.heap.size+1+1)):PlC w W' v cs S :=
 ⟨h.chg.trans' hc hT,kept_chg hc h.tr h0,kept_chg hc h.sp h1,kept_chg hc h.rs h2⟩
structure Sit (W w:World) (db tb q:Nat) (dv:Value) (a:Option Addr) (T:List Nd):Prop where
 low:Below W.heap.size W w
 desk:DeskAt w W.heap.size db dv
 tr:TrAt w W.heap.size tb q T
 nds:NdsAt w a T
 rng:Rng T
theorem Sit.below {W w w':World} {db tb q:Nat} {dv:Value} {a:Option Addr} {T:List Nd} (h:Sit W w db tb q dv a T) (hb:Below w.heap.size w w'):Sit W w' db tb q dv a T :=
 ⟨trans2 h.low hb,h.desk.below hb,h.tr.below hb,h.nds.below hb,h.rng⟩
theorem Sit.chg {W w w':World} {db tb q:Nat} {dv:Value} {a:Option Addr} {T:List Nd} {S:Nat→Prop} (h:Sit W w db tb q dv a T) (hc:Chg w w' S) (hs:∀ k,S k→W.heap.size≤k∧∃ cur t,t≠57∧t≠44∧t≠66∧t≠26∧w.heap[k]? = some (.cells cur t (0,0))):Sit W w' db tb q dv a T :=
 ⟨h.low.trans (hc.below h.low.size (fun k _ e=>(hs k e).1)),
  h.desk.chg hc (fun k e=>by obtain ⟨_,cur,t,h1,h2,h3,h4,h5⟩:=hs k e;exact ⟨cur,t,h2,h3,h5⟩),
  h.tr.chg hc (fun k e=>by obtain ⟨_,cur,t,h1,h2,h3,h4,h5⟩:=hs k e;exact .inl ⟨cur,t,h1,h5⟩),
  h.nds.chg hc (fun k e cur' hk=>by
   obtain ⟨_,cur,t,h1,h2,h3,h4,h5⟩:=hs k e
   rw [hk] at h5
   simp at h5
   exact h4 h5.2.symm),h.rng⟩
def PlE (W w:World) (db tb q:Nat) (dv:Value) (T:List Nd) (e:Ending) (w':World):Prop :=
 ∃ tb' q' dv' a' c',e=.returned (.tuple #[.pointer (some ⟨tb',0,none⟩),rtV a' T.length c',.bool true])∧Sit W w' db tb' q' dv' a' T∧(q'≤q+1∨q'≤8)∧Chg w w' (fun k=>k=tb∨k=db∨dv.ownBlock=some k)∧(tb'=tb∨w.heap.size≤tb')
theorem PlE.low {W w w':World} {db tb q:Nat} {dv:Value} {a:Option Addr} {T:List Nd} {N:Nat} (h:Sit W w db tb q dv a T) (c:Nat) (hN:T.length=N) (hb:Below w.heap.size w w'):PlE W w db tb q dv T (.returned (.tuple #[.pointer (some ⟨tb,0,none⟩),rtV a N c,.bool true])) w' :=
 ⟨tb,q,dv,a,c,by rw [hN],h.below hb,.inl (by omega),Chg.of_below hb _,.inl rfl⟩
end Go.Proofs.YtckmihplkhmpnaaGreatDoor
namespace Go.Proofs.YtckmihplkhmpnaaGreatDoor
open Go.RowKit Go.Maps Go.WideShapes
set_option linter.unusedVariables false
set_option linter.unusedSimpArgs false
set_option maxHeartbeats 6400000 in
set_option maxRecDepth 100000 in
theorem ply_load (W w:World) (db tb q:Nat) (dv:Value) (a:Option Addr) (c:Nat) (T:List Nd) (h:Sit W w db tb q dv a T) (hg:GroundT W) (s st nn:Int) (oa:Option Addr) (n oc:Nat) (pl:ByteArray) :
  Calls Tryz.prog 12 #[.pointer (some ⟨tb,0,none⟩),rtV a T.length c,.agg (stCs 5 s st oa n oc pl nn),.pointer (some ⟨db,0,none⟩)] w (PlE W w db tb q dv T):=by
 have h64:T.length≤64:=h.tr.snd.inv.len
 have HNO:Hid (∀ w',Below w.heap.size w w'→_):=fun w' hb=>nodes_tr W.heap.size tb q T w' (h.tr.below hb)
 have HRN:Hid (∀ w',Below w.heap.size w w'→_):=fun w' hb=>refNodes_any a c T w' (h.nds.below hb) h64
 have HLO:Hid (∀ (w':World) (B g cap:Nat),Below w.heap.size w w'→w'.ownsRow B 27 7 (.slice (some ⟨g,0,none⟩) T.length cap) T.length (T.flatMap Nd.cs)→_):=fun w' B g cap hb hr=>load_any B g cap T w' h.tr.snd h.rng hr (hg.below (trans2 h.low hb))
 have HRL:Hid (∀ (w':World) (la:Option Addr) (lc:Nat),NdsAt w' la T→_):=fun w' la lc hn=>refLoad_ok la lc T w' h.tr.snd h.rng hn
 obtain ⟨N,hN⟩:∃ N,T.length=N:=⟨_,rfl⟩
 have HN:Hid (T.length=N):=hN
 have H:Hid _:=h
 have hwl:=h.low.size
 rw [hN] at HNO HRN HLO HRL ⊢
 clear hN h hg
 have HS:Hid _:=plI_start w (.slice a N c) (stCs 5 s st oa n oc pl nn)
 go_enter Tryz.func12,Tryz.ntmps12
 go_wp2_with fail
 refine Calls.mono (HNO.out _ HS.out.low) ?_
 rintro e w1 ⟨g,cap,rfl,hr1,hb1⟩
 have H1:Hid (PlI w w1 (.slice a N c) (stCs 5 s st oa n oc pl nn)):=HS.out.below hb1
 have HR1:Hid _:=hr1
 clear hb1 hr1
 go_wp2_with fail
 refine Calls.mono (HLO.out _ _ _ _ H1.out.low HR1.out) ?_
 rintro e w2 ⟨ub,rfl,ht2,hb2⟩
 have H2:Hid (PlI w w2 (.slice a N c) (stCs 5 s st oa n oc pl nn)):=H1.out.below hb2
 have HT2:Hid (TrAt w2 w1.heap.size ub 8 T):=ht2
 have r0:=cells_1 H2.out.tr
 clear hb2 ht2
 go_wp2_with fail
 refine Calls.mono (HRN.out _ H2.out.low) ?_
 rintro e w3 ⟨v3,rfl,hr3,hb3⟩
 obtain ⟨la,lc,rfl⟩:=slice_of' hr3
 have H3:Hid (PlI w w3 (.slice a N c) (stCs 5 s st oa n oc pl nn)):=H2.out.below hb3
 have HT3:Hid (TrAt w3 w1.heap.size ub 8 T):=HT2.out.below hb3
 have HN3:Hid (NdsAt w3 la T):=nds_row' hr3
 clear hb3 hr3 r0
 go_wp2_with fail
 refine Calls.mono (HRL.out _ la lc HN3.out) ?_
 rintro e w4 ⟨la4,lc4,rfl,hn4,hb4⟩
 have H4:Hid (PlI w w4 (.slice a N c) (stCs 5 s st oa n oc pl nn)):=H3.out.below hb4
 have HT4:Hid (TrAt w4 w1.heap.size ub 8 T):=HT3.out.below hb4
 clear hb4 hn4
 go_upto_region 26 with fail
 obtain ⟨w5,hw5⟩:∃ y,w4.alloc (.cells #[.slice la4 N lc4] 29)=y:=⟨_,rfl⟩
 have hb5:Below w4.heap.size w4 w5:=by rw [← hw5];exact (Below.refl _ _).alloc (Nat.le_refl _) _
 have H5:Hid (PlI w w5 (.slice a N c) (stCs 5 s st oa n oc pl nn)):=H4.out.below hb5
 have HT5:Hid (TrAt w5 w1.heap.size ub 8 T):=HT4.out.below hb5
 rw [hw5]
 obtain ⟨yb,hyb⟩:∃ y,w4.heap.size=y:=⟨_,rfl⟩
 rw [hyb]
 clear hw5 hb5 hyb
 have q0:=cells_1 H5.out.tr
 have q1:=cells_1 H5.out.rs
 have g1:=free_1 H5.out.rs
 go_wp2_with (first | (go_at_call 6;go_in) | fail)
 have n1:w.heap.size+1+1≠w.heap.size:=by omega
 have n2:w.heap.size≠w.heap.size+1+1:=by omega
 go_region_held3 (fun w'=>w'.cell? ⟨w.heap.size,0,none⟩=some (.slice a N c)) (first | go_keep | exact q0 | exact (World.cell?_drew _ _).trans ((cellN n2).trans q0)) (fail)
 go_wp2_with fail
 have hbE:Below w.heap.size w ((w5.setCell ⟨w.heap.size+1+1,0,none⟩ (.slice a N c)).drew):=below_drew (H5.out.low.setCell (by simp;omega) _)
 have hcE:Chg w5 ((w5.setCell ⟨w.heap.size+1+1,0,none⟩ (.slice a N c)).drew) (fun k=>k=w.heap.size+1+1):=(Chg.set _ _ _).trans (Chg.of_below (below_drew0 _) _)
 have hl1:w.heap.size≤w1.heap.size:=H1.out.low.size
 refine bodyPost_ret (results_tmp_cell_tmp rfl _ _ (w.heap.size+1+1) 29 #[.slice a N c] (0,0) _ (.pointer (some ⟨ub,0,none⟩)) (.bool true) rfl rfl rfl ((heap_drew_at _ _).trans (same_blk H5.out.rs rfl)) Tryz.underlying29 rfl (by kernel_rfl)) rfl ⟨ub,8,dv,a,c,by rw [HN.out],⟨trans2 H.out.low hbE,H.out.desk.below hbE,?_,H.out.nds.below hbE,H.out.rng⟩,.inr (Nat.le_refl _),Chg.of_below hbE _,.inr (Nat.le_trans hl1 HT5.out.lo)⟩
 exact (HT5.out.base (B':=W.heap.size) (by omega)).chg hcE (fun k e=>.inl ⟨#[.slice none 0 0],29,by decide,by rw [show k=w.heap.size+1+1 from e];exact H5.out.rs⟩)
end Go.Proofs.YtckmihplkhmpnaaGreatDoor
namespace Go.Proofs.YtckmihplkhmpnaaGreatDoor
open Go.RowKit Go.Maps Go.WideShapes
set_option linter.unusedVariables false
set_option linter.unusedSimpArgs false
attribute [local go_sem ↓] Go.wp_at_zero Go.wp_at_succ
set_option maxHeartbeats 6400000 in
set_option maxRecDepth 100000 in
theorem fullsT_any (B1 B2:Nat) (va vb:Value) (T:List Nd) (w:World) (h1:w.ownsRow B1 27 7 va T.length (T.flatMap Nd.cs)) (h2:w.ownsRow B2 26 7 vb T.length (T.flatMap Nd.cs)) (hl:T.length≤1000) :
  Calls Tryz.prog 7 #[va,vb] w fun e w'=>e=.returned (.bool true)∧Below w.heap.size w w':=by
 obtain ⟨a,c,rfl⟩:=slice_of h1
 obtain ⟨b,d,rfl⟩:=slice_of h2
 have H1:Hid _:=h1
 have H2:Hid _:=h2
 obtain ⟨N,hN⟩:∃ N,T.length=N:=⟨_,rfl⟩
 have HN:Hid (T.length=N):=hN
 rw [hN] at hl ⊢
 clear h1 h2 hN
 go_enter Tryz.func7,Tryz.ntmps7
 go_wp2_with fail
 go_loopw [5] (fun i wr=>∃ q:Nat,i=.int .i64 q∧q≤N∧Hid (Below w.heap.size w wr)) (fun i _=>N - (intOf i).toNat)
 case atStart=>exact ⟨0,rfl,Nat.zero_le _,Below.refl _ _⟩
 case round =>
  obtain ⟨q,rfl,hq,HB⟩:=hrel
  by_cases hlt:q<N
  · have hlt':(q:Int)<(N:Int):=by omega
    obtain ⟨x,hx⟩:∃ x,T[q]? = some x:=⟨T[q]'(by rw [HN.out];exact hlt),List.getElem?_eq_getElem _⟩
    obtain ⟨g1,c1,e1⟩:=form_n H1.out (by rw [HN.out];omega)
    obtain ⟨g2,c2,e2⟩:=form_n H2.out (by rw [HN.out];omega)
    obtain ⟨rfl,rfl⟩:a=some ⟨g1,0,none⟩∧c=c1:=by simpa using e1
    obtain ⟨rfl,rfl⟩:b=some ⟨g2,0,none⟩∧d=c2:=by simpa using e2
    have l1:g1<w.heap.size:=(World.ownsRow.lt H1.out g1 rfl).2
    have l2:g2<w.heap.size:=(World.ownsRow.lt H2.out g2 rfl).2
    have hk1:∀ j v,x.cs[j]? = some v→wr.cell? ⟨g1,q * 7+j,none⟩=some v:=fun j v hv=>by rw [HB.out.cell (p:=⟨g1,q * 7+j,none⟩) l1];exact Fa.cell_n H1.out (Fa.flat_at (cells:=Nd.cs) (fun _=>rfl) hx hv)
    have hk2:∀ j v,x.cs[j]? = some v→wr.cell? ⟨g2,q * 7+j,none⟩=some v:=fun j v hv=>by rw [HB.out.cell (p:=⟨g2,q * 7+j,none⟩) l2];exact Fa.cell_n H2.out (Fa.flat_at (cells:=Nd.cs) (fun _=>rfl) hx hv)
    have k0:wr.cell? ⟨g1,q * 7,none⟩=some (.string x.p):=hk1 0 _ rfl
    have k1:=hk1 1 _ rfl
    have k2:=hk1 2 _ rfl
    have k3:=hk1 3 _ rfl
    have k4:=hk1 4 _ rfl
    have k5:=hk1 5 _ rfl
    have k6:=hk1 6 _ rfl
    have m0:wr.cell? ⟨g2,q * 7,none⟩=some (.string x.p):=hk2 0 _ rfl
    have m1:=hk2 1 _ rfl
    have m2:=hk2 2 _ rfl
    have m3:=hk2 3 _ rfl
    have m4:=hk2 4 _ rfl
    have m5:=hk2 5 _ rfl
    have m6:=hk2 6 _ rfl
    clear hx e1 e2 hk1 hk2
    go_upto_region 6 with fail
    go_quiet (fail)
    go_wp2_with fail
    go_roundw
    case rel=>exact ⟨q+1,by go_num,by omega,below_dN HB.out _⟩
    case measure=>simp [intOf];omega
  · obtain rfl:q=N:=by omega
    go_wp2_with fail
    go_ret
    exact ⟨rfl,HB.out⟩
end Go.Proofs.YtckmihplkhmpnaaGreatDoor
namespace Go.Proofs.YtckmihplkhmpnaaGreatDoor
open Go.RowKit Go.Maps Go.WideShapes
set_option linter.unusedVariables false
set_option linter.unusedSimpArgs false
set_option maxHeartbeats 3200000 in
set_option maxRecDepth 100000 in
theorem ply_else (W w:World) (db tb q:Nat) (dv:Value) (a:Option Addr) (c:Nat) (T:List Nd) (h:Sit W w db tb q dv a T) (k s st nn:Int) (oa:Option Addr) (n oc:Nat) (pl:ByteArray) (h1:¬ k=1) (h2:¬ k=2) (h3:¬ k=3) (h4:¬ k=4) (h5:¬ k=5) :
  Calls Tryz.prog 12 #[.pointer (some ⟨tb,0,none⟩),rtV a T.length c,.agg (stCs k s st oa n oc pl nn),.pointer (some ⟨db,0,none⟩)] w (PlE W w db tb q dv T):=by
 obtain ⟨N,hN⟩:∃ N,T.length=N:=⟨_,rfl⟩
 have HN:Hid (T.length=N):=hN
 have H:Hid _:=h
 rw [hN]
 clear hN h
 have HS:Hid _:=plI_start w (.slice a N c) (stCs k s st oa n oc pl nn)
 go_enter Tryz.func12,Tryz.ntmps12
 go_wp2_with fail
 have q0:=cells_1 HS.out.tr
 have q1:=cells_1 HS.out.rs
 have g1:=free_1 HS.out.rs
 go_region_held3 (fun w'=>w'.cell? ⟨w.heap.size,0,none⟩=some (.slice a N c)) (first | go_keep | exact q0 | (rw [cellN (by omega)];exact q0)) (fail)
 go_wp2_with fail
 exact bodyPost_ret (results_tmp_cell_tmp rfl _ _ (w.heap.size+1+1) 29 #[.slice a N c] (0,0) _ (.pointer (some ⟨tb,0,none⟩)) (.bool true) rfl rfl rfl ((heap_drew_at _ _).trans (heap_alloc_new' (by simp))) Tryz.underlying29 rfl (by kernel_rfl)) rfl (PlE.low H.out c HN.out (below_drew ((((Below.refl _ _).alloc (Nat.le_refl _) _).alloc (by simp) _).alloc (by simp;omega) _)))
set_option maxHeartbeats 3200000 in
set_option maxRecDepth 100000 in
theorem ply_nodes (W w:World) (db tb q:Nat) (dv:Value) (a:Option Addr) (c:Nat) (T:List Nd) (h:Sit W w db tb q dv a T) (s st nn:Int) (oa:Option Addr) (n oc:Nat) (pl:ByteArray) :
  Calls Tryz.prog 12 #[.pointer (some ⟨tb,0,none⟩),rtV a T.length c,.agg (stCs 4 s st oa n oc pl nn),.pointer (some ⟨db,0,none⟩)] w (PlE W w db tb q dv T):=by
 have h64:T.length≤64:=h.tr.snd.inv.len
 have HNO:Hid (∀ w',Below w.heap.size w w'→_):=fun w' hb=>nodes_tr W.heap.size tb q T w' (h.tr.below hb)
 have HRN:Hid (∀ w',Below w.heap.size w w'→_):=fun w' hb=>refNodes_any a c T w' (h.nds.below hb) h64
 obtain ⟨N,hN⟩:∃ N,T.length=N:=⟨_,rfl⟩
 have HN:Hid (T.length=N):=hN
 have H:Hid _:=h
 have HFU:Hid (∀ (w':World) (B1 B2:Nat) (va vb:Value),w'.ownsRow B1 27 7 va N (T.flatMap Nd.cs)→w'.ownsRow B2 26 7 vb N (T.flatMap Nd.cs)→Calls Tryz.prog 7 #[va,vb] w' fun e w''=>e=.returned (.bool true)∧Below w'.heap.size w' w''):=fun w' B1 B2 va vb h1 h2=>fullsT_any B1 B2 va vb T w' (by rw [hN];exact h1) (by rw [hN];exact h2) (by omega)
 rw [hN] at HNO HRN ⊢
 clear hN h
 have HS:Hid _:=plI_start w (.slice a N c) (stCs 4 s st oa n oc pl nn)
 go_enter Tryz.func12,Tryz.ntmps12
 go_wp2_with fail
 refine Calls.mono (HNO.out _ HS.out.low) ?_
 rintro e w1 ⟨g,cap,rfl,hr1,hb1⟩
 have H1:Hid (PlI w w1 (.slice a N c) (stCs 4 s st oa n oc pl nn)):=HS.out.below hb1
 have HR1:Hid _:=hr1
 have r0:=cells_1 H1.out.tr
 clear hb1 hr1
 go_wp2_with fail
 go_region_held3 (fun w'=>w'.cell? ⟨w.heap.size,0,none⟩=some (.slice a N c)) (first | go_keep | exact q0 | (rw [cellN (by omega)];exact q0) | exact z0)
  (first
  | (go_at_call 11;refine Calls.mono (HRN.out _ (below_drew H1.out.low)) ?_;rintro e w2 ⟨v2,rfl,hr2,hb2⟩
     have H2:Hid (PlI w w2 (.slice a N c) (stCs 4 s st oa n oc pl nn)):=H1.out.below (of_drew hb2)
     have HR2:Hid _:=owns_chg HR1.out (Chg.of_below (of_drew hb2) (fun _=>False)) (fun _ _=>id)
     have HV2:Hid _:=hr2
     have z0:=cells_1 H2.out.tr
     clear hb2 hr2)
  | (go_at_call 7;refine Calls.mono (HFU.out _ _ _ _ _ HR2.out HV2.out) ?_;rintro e w3 ⟨rfl,hb3⟩
     have H3:Hid (PlI w w3 (.slice a N c) (stCs 4 s st oa n oc pl nn)):=H2.out.below hb3
     have q0:=cells_1 H3.out.tr
     have q1:=cells_1 H3.out.rs
     have g1:=free_1 H3.out.rs
     clear hb3)
  | fail)
 go_wp2_with fail
 exact bodyPost_ret (results_tmp_cell_tmp rfl _ _ (w.heap.size+1+1) 29 #[.slice a N c] (0,0) _ (.pointer (some ⟨tb,0,none⟩)) (.bool true) rfl rfl rfl (same_blk H3.out.rs rfl) Tryz.underlying29 rfl (by kernel_rfl)) rfl (PlE.low H.out c HN.out (H3.out.low.setCell (by simp;omega) _))
end Go.Proofs.YtckmihplkhmpnaaGreatDoor
namespace Go.Proofs.YtckmihplkhmpnaaGreatDoor
open Go.RowKit Go.Maps Go.WideShapes
set_option linter.unusedVariables false
set_option linter.unusedSimpArgs false
attribute [local go_sem ↓] Go.wp_at_zero Go.wp_at_succ
set_option maxHeartbeats 4000000 in
set_option maxRecDepth 100000 in
theorem refEnd_low (a:Option Addr) (c n:Nat) (s:Int) (w:World) (hs:s<1) :
  Calls Tryz.prog 27 #[rtV a n c,.int .i64 s] w fun e w'=>e=.returned (.tuple #[rtV a n c,.slice none 0 0])∧Below w.heap.size w w':=by
 go_enter Tryz.func27,Tryz.ntmps27
 go_upto_region 1 with fail
 obtain ⟨w1,hw1⟩:∃ y,(w.alloc (.cells #[.slice a n c] 29)).alloc (.cells #[.slice none 0 0] 29)=y:=⟨_,rfl⟩
 obtain ⟨tb,htb⟩:∃ y,w.heap.size=y:=⟨_,rfl⟩
 have HB1:Hid (Below w.heap.size w w1):=by rw [← hw1];exact ((Below.refl _ _).alloc (Nat.le_refl _) _).alloc (by simp) _
 have HX1:Hid (w1.heap[tb]? = some (.cells #[.slice a n c] 29 (0,0))):=by rw [← hw1,← htb];exact heap_alloc2_old _ _ _
 have HY1:Hid (w1.heap[tb+1]? = some (.cells #[.slice none 0 0] 29 (0,0))):=by rw [← hw1,← htb];exact heap_alloc2_new _ _ _
 have HTB:Hid (w.heap.size=tb):=htb
 rw [hw1,htb]
 clear hw1 htb
 have x0:=cells_1 HX1.out
 have y0:=cells_1 HY1.out
 have yf:=free_1 HY1.out
 have hyl:tb+1<w1.heap.size:=(Array.getElem?_eq_some_iff.1 HY1.out).1
 go_wp2_with fail
 exact bodyPost_ret (results_cell_tmp rfl _ _ (tb+1) 29 _ (0,0) _ (.slice none 0 0) rfl rfl (fill_1 HY1.out) Tryz.underlying29 rfl (by kernel_rfl)) rfl ⟨rfl,HB1.out.setCell (by rw [HTB.out];show tb≤tb+1;omega) _⟩
end Go.Proofs.YtckmihplkhmpnaaGreatDoor
namespace Go.Proofs.YtckmihplkhmpnaaGreatDoor
open Go.RowKit Go.Maps Go.WideShapes
set_option linter.unusedVariables false
set_option linter.unusedSimpArgs false
theorem refEnd_all (a:Option Addr) (c:Nat) (T:List Nd) (s:Int) (w:World) (h:NdsAt w a T) (hT:T.length≤64) :
  Calls Tryz.prog 27 #[rtV a T.length c,.int .i64 s] w fun e w'=>∃ la lc v,e=.returned (.tuple #[rtV la (finT T s).length lc,v])∧NdsAt w' la (finT T s)∧w'.ownsRow w.heap.size 69 4 v (finC T s).length (chCs (finC T s))∧Below w.heap.size w w':=by
 unfold finT finC
 by_cases hs:s<1
 · rw [if_pos hs,if_pos hs]
   refine Calls.mono (refEnd_low a c T.length s w hs) ?_
   rintro e w' ⟨rfl,hb⟩
   exact ⟨a,c,_,rfl,h.below hb,World.ownsRow_nil _ _ _ _,hb⟩
 · rw [if_neg hs,if_neg hs]
   refine Calls.mono (refEnd_any a c T s w h hT hs) ?_
   rintro e w' ⟨la,lc,ca,cc,rfl,h1,h2,h3,h4⟩
   exact ⟨la,lc,_,rfl,h1,h3,h4⟩
theorem Rng.finT {T:List Nd} (h:Rng T) (s:Int):Rng (finT T s):=by
 unfold Go.Proofs.YtckmihplkhmpnaaGreatDoor.finT
 split
 · exact h
 · exact fun x hx=>h x (List.mem_filter.1 hx).1
set_option maxHeartbeats 3200000 in
set_option maxRecDepth 100000 in
theorem ply_end (W w:World) (db tb q:Nat) (dv:Value) (a:Option Addr) (c:Nat) (T:List Nd) (h:Sit W w db tb q dv a T) (hq:q≤900) (s st nn:Int) (oa:Option Addr) (n oc:Nat) (pl:ByteArray) :
  Calls Tryz.prog 12 #[.pointer (some ⟨tb,0,none⟩),rtV a T.length c,.agg (stCs 2 s st oa n oc pl nn),.pointer (some ⟨db,0,none⟩)] w (PlE W w db tb q dv (finT T s)):=by
 have h64:T.length≤64:=h.tr.snd.inv.len
 have hfl:=finC_len T s
 have HRE:Hid (∀ w',Below w.heap.size w w'→_):=fun w' hb=>refEnd_all a c T s w' (h.nds.below hb) h64
 have HEN:Hid (∀ w',Below w.heap.size w w'→_):=fun w' hb=>end_tr W.heap.size tb q T s w' (h.tr.below hb) hq
 obtain ⟨N,hN⟩:∃ N,T.length=N:=⟨_,rfl⟩
 have H:Hid _:=h
 have HRF:Hid (Rng (finT T s)):=h.rng.finT s
 obtain ⟨F,hF⟩:∃ F,finT T s=F:=⟨_,rfl⟩
 obtain ⟨C,hC⟩:∃ C,finC T s=C:=⟨_,rfl⟩
 obtain ⟨FN,hFN⟩:∃ FN,F.length=FN:=⟨_,rfl⟩
 have HFN:Hid (F.length=FN):=hFN
 rw [hF] at HRE HEN HRF ⊢
 rw [hC] at HRE HEN hfl
 have HCH:Hid (∀ (w':World) (B1 B2:Nat) (va vb:Value),w'.ownsRow B1 69 4 va C.length (chCs C)→w'.ownsRow B2 69 4 vb C.length (chCs C)→Calls Tryz.prog 26 #[va,vb] w' fun e w''=>e=.returned (.bool true)∧Below w'.heap.size w' w''):=fun w' B1 B2 va vb h1 h2=>changesT_any B1 B2 va vb C w' h1 h2 (by omega)
 rw [hN] at HRE ⊢
 rw [hFN] at HRE
 have htl:tb<w.heap.size:=h.tr.lt
 have hWl:=h.low.size
 have hWt:=h.tr.lo
 clear hN h hF hC hFN
 have HS:Hid _:=plI_start w (.slice a N c) (stCs 2 s st oa n oc pl nn)
 go_enter Tryz.func12,Tryz.ntmps12
 go_wp2_with fail
 refine Calls.mono (HRE.out _ HS.out.low) ?_
 rintro e w1 ⟨la,lc,v1,rfl,hn1,hr1,hb1⟩
 have H1:Hid (PlI w w1 (.slice a N c) (stCs 2 s st oa n oc pl nn)):=HS.out.below hb1
 have hal:Below w1.heap.size w1 (w1.alloc (.cells #[.slice la FN lc] 29)):=(Below.refl _ _).alloc (Nat.le_refl _) _
 have HA:Hid (PlI w (w1.alloc (.cells #[.slice la FN lc] 29)) (.slice a N c) (stCs 2 s st oa n oc pl nn)):=H1.out.below hal
 have HNA:Hid (NdsAt (w1.alloc (.cells #[.slice la FN lc] 29)) la F):=hn1.below hal
 have HRA:Hid _:=owns_chg hr1 (Chg.of_below hal (fun _=>False)) (fun _ _=>id)
 have HVA:Hid ((w1.alloc (.cells #[.slice la FN lc] 29)).heap[w1.heap.size]? = some (.cells #[.slice la FN lc] 29 (0,0))):=heap_alloc_new _ _
 have hrl:w.heap.size+1+1<w1.heap.size:=(Array.getElem?_eq_some_iff.1 H1.out.rs).1
 obtain ⟨s0,s1,s2,s3,s4,s5⟩:=cells_6 HA.out.sp
 clear hb1 hn1 hr1 hal
 go_wp2_with fail
 refine Calls.mono (HEN.out _ HA.out.low) ?_
 rintro e w2 ⟨chV,rfl,hr2,ht2,hc2⟩
 have H2:Hid (PlC w w2 (.slice a N c) (stCs 2 s st oa n oc pl nn) (fun k=>k=tb∨k=db∨dv.ownBlock=some k)):=(HA.out.c _).turn hc2 (fun k e=>.inl (.inl e)) (fun e=>by have e':w.heap.size=tb:=e;omega) (fun e=>by have e':w.heap.size+1=tb:=e;omega) (fun e=>by have e':w.heap.size+1+1=tb:=e;omega)
 have HV2:Hid (w2.heap[w1.heap.size]? = some (.cells #[.slice la FN lc] 29 (0,0))):=kept_chg hc2 HVA.out (fun e=>by have e':w1.heap.size=tb:=e;omega)
 have HS2:Hid (Sit W w2 db tb q dv la F):=by
  obtain ⟨tv,htb⟩:=(H.out.tr.below HA.out.low).box
  exact ⟨(trans2 H.out.low HA.out.low).trans (chg_lo hc2 hWt (Nat.le_trans hWl HA.out.low.size)),(H.out.desk.below HA.out.low).chg hc2 (fun k e=>⟨#[tv],57,by decide,by decide,by rw [show k=tb from e];exact htb⟩),ht2,HNA.out.chg hc2 (fun k e cur hk=>by
   rw [show k=tb from e,htb] at hk
   simp at hk),HRF.out⟩
 have HR2:Hid _:=row_keep (H.out.tr.below HA.out.low) hc2 HRA.out (by decide)
 have HQ2:Hid _:=hr2
 have z0:=cells_1 HV2.out
 clear hr2 ht2 hc2 s0 s1 s2 s3 s4 s5
 go_wp2_with fail
 go_region_held3 (fun w'=>w'.cell? ⟨w1.heap.size,0,none⟩=some (.slice la FN lc)) (first | go_keep | exact q0 | (rw [cellN (by omega)];exact q0) | exact z0)
  (first
  | (go_at_call 26;refine Calls.mono (HCH.out _ _ _ _ _ (owns_chg HQ2.out (Chg.of_below (below_drew0 _) (fun _=>False)) (fun _ _=>id)) (owns_chg HR2.out (Chg.of_below (below_drew0 _) (fun _=>False)) (fun _ _=>id))) ?_;rintro e w3 ⟨rfl,hb3⟩
     have H3:Hid (PlC w w3 (.slice a N c) (stCs 2 s st oa n oc pl nn) (fun k=>k=tb∨k=db∨dv.ownBlock=some k)):=H2.out.below (of_drew hb3)
     have HS3:Hid (Sit W w3 db tb q dv la F):=HS2.out.below (of_drew hb3)
     have q0:=cells_1 (kept_block (of_drew hb3) HV2.out)
     have q1:=cells_1 H3.out.rs
     have g1:=free_1 H3.out.rs
     clear hb3)
  | fail)
 go_wp2_with fail
 refine bodyPost_ret (results_tmp_cell_tmp rfl _ _ (w.heap.size+1+1) 29 #[.slice la FN lc] (0,0) _ (.pointer (some ⟨tb,0,none⟩)) (.bool true) rfl rfl rfl (same_blk H3.out.rs rfl) Tryz.underlying29 rfl (by kernel_rfl)) rfl ⟨tb,q,dv,la,lc,by rw [HFN.out],?_,.inl (by omega),?_,.inl rfl⟩
 · exact HS3.out.chg (Chg.set _ _ _) (fun k e=>by
    rw [show k=w.heap.size+1+1 from e]
    exact ⟨by omega,_,29,by decide,by decide,by decide,by decide,H3.out.rs⟩)
 · exact H3.out.chg.trans' (Chg.set _ _ _) (fun k e=>.inr (by rw [show k=w.heap.size+1+1 from e];omega))
end Go.Proofs.YtckmihplkhmpnaaGreatDoor
