import Derived.Test.YtckmihplkhmpnaaGreatDoorTRefI
import Derived.Test.YtckmihplkhmpnaaGreatDoorTPlyE
import Derived.Test.YtckmihplkhmpnaaGreatDoorTLdM
namespace Go.Proofs.YtckmihplkhmpnaaGreatDoor
open Go.RowKit Go.Maps Go.WideShapes
set_option linter.unusedVariables false
set_option linter.unusedSimpArgs false
attribute [local go_sem ↓] Go.wp_at_zero Go.wp_at_succ
theorem child_kid (p x:ByteArray):childB p x=kidB x p:=by
 unfold childB kidB parC parB
 obtain ⟨c,xs⟩:=parse x
 cases xs with
 | nil=>by_cases hc:c=0 <;> simp [hc]
 | cons y r =>
   by_cases hc:c=0
   · subst hc
     simp only [if_pos]
     by_cases h:placeB (List.take ((y :: r).length - 1) (y :: r))=p
     · subst h;simp
     · have h':¬ (placeB (List.take ((y :: r).length - 1) (y :: r))).toList=p.toList:=fun e=>h (by
        rw [ByteArray.toList_eq,ByteArray.toList_eq] at e
        exact ByteArray.ext (Array.ext' e))
       simp at h h'
       simp [h,h']
   · simp [hc]
theorem cov_val {k:Int} {p x:ByteArray} {e d b:Bool} (hp:isP p=true) (hx:isP x=true) (he:eqB x p=e) (hd:kidB x p=d) (hb:belB p x=b):covers k p 1 x=cov k 1 e d b:=by
 unfold covers
 rw [hp,hx,he,child_kid,hd,hb]
 rfl
theorem parT_snoc {T:List Nd} {q:Nat} {x:Nd} (k:Int) (p:ByteArray) (hx:T[q]? = some x):parT (T.take (q+1)) k p=parT (T.take q) k p ++ (if covers k p 1 x.p=true then [snN k x] else []):=by
 unfold parT
 rw [List.take_add_one,hx,List.filter_append,List.map_append]
 by_cases h:covers k p 1 x.p=true
 · simp [h]
 · simp [h]
abbrev PartE (w:World) (L:List SnT) (e:Ending) (w':World):Prop:=∃ v,e=.returned (.tuple #[v,.int .i64 0])∧w'.ownsRow w.heap.size 117 3 v L.length (L.flatMap SnT.cs)∧Below w.heap.size w w'
set_option maxHeartbeats 4000000 in
set_option maxRecDepth 100000 in
theorem refPart_bad (a:Option Addr) (n c:Nat) (p:ByteArray) (k:Int) (w:World) (hn:0<n) (hp:isP p=false) :
  Calls Tryz.prog 29 #[rtV a n c,.string p,.int .i64 k] w fun e w'=>e=.returned (.tuple #[.slice none 0 0,.int .i64 10])∧Below w.heap.size w w':=by
 have HIS:Hid (∀ W,Calls Tryz.prog 32 #[.string p] W fun e w'=>e=.returned (.bool false)∧Below W.heap.size W w'):=fun W=>by have:=refIs_any p W;rw [hp] at this;exact this
 have hn0:((n:Int)==0)=false:=by have:¬ (n:Int)=0:=by omega
                                 simpa using this
 clear hp
 go_enter Tryz.func29,Tryz.ntmps29
 go_upto_region 1 with fail
 obtain ⟨w1,hw1⟩:∃ y,w.alloc (.cells #[.slice a n c] 29)=y:=⟨_,rfl⟩
 obtain ⟨tb,htb⟩:∃ y,w.heap.size=y:=⟨_,rfl⟩
 have HB1:Hid (Below w.heap.size w w1):=by rw [← hw1];exact (Below.refl _ _).alloc (Nat.le_refl _) _
 have HX1:Hid (w1.heap[tb]? = some (.cells #[.slice a n c] 29 (0,0))):=by rw [← hw1,← htb];exact heap_alloc_new _ _
 have HTB:Hid (w.heap.size=tb):=htb
 rw [hw1,htb]
 clear hw1 htb
 have t0:=cells_1 HX1.out
 go_wp2_with fail
 refine Calls.mono (HIS.out _) ?_
 rintro e w2 ⟨rfl,hb2⟩
 have HB2:Hid (Below w.heap.size w w2):=trans2 HB1.out hb2
 clear hb2
 go_wp2_with fail
 go_ret2
 exact ⟨rfl,HB2.out⟩
set_option maxHeartbeats 4000000 in
set_option maxRecDepth 100000 in
theorem refPart_arg (a:Option Addr) (n c:Nat) (p:ByteArray) (k:Int) (w:World) (hn:0<n) (hp:isP p=true) (hk:k<1∨3<k) :
  Calls Tryz.prog 29 #[rtV a n c,.string p,.int .i64 k] w fun e w'=>e=.returned (.tuple #[.slice none 0 0,.int .i64 1])∧Below w.heap.size w w':=by
 have HIS:Hid (∀ W,Calls Tryz.prog 32 #[.string p] W fun e w'=>e=.returned (.bool true)∧Below W.heap.size W w'):=fun W=>by have:=refIs_any p W;rw [hp] at this;exact this
 have hn0:((n:Int)==0)=false:=by have:¬ (n:Int)=0:=by omega
                                 simpa using this
 clear hp
 have hk':k<1∨(¬ k<1∧3<k):=by omega
 clear hk
 rcases hk' with hk | ⟨hk,hk3⟩
 · go_enter Tryz.func29,Tryz.ntmps29
   go_upto_region 1 with fail
   obtain ⟨w1,hw1⟩:∃ y,w.alloc (.cells #[.slice a n c] 29)=y:=⟨_,rfl⟩
   obtain ⟨tb,htb⟩:∃ y,w.heap.size=y:=⟨_,rfl⟩
   have HB1:Hid (Below w.heap.size w w1):=by rw [← hw1];exact (Below.refl _ _).alloc (Nat.le_refl _) _
   have HX1:Hid (w1.heap[tb]? = some (.cells #[.slice a n c] 29 (0,0))):=by rw [← hw1,← htb];exact heap_alloc_new _ _
   have HTB:Hid (w.heap.size=tb):=htb
   rw [hw1,htb]
   clear hw1 htb
   have t0:=cells_1 HX1.out
   go_wp2_with fail
   refine Calls.mono (HIS.out _) ?_
   rintro e w2 ⟨rfl,hb2⟩
   have HB2:Hid (Below w.heap.size w w2):=trans2 HB1.out hb2
   clear hb2
   go_wp2_with fail
   go_ret2
   exact ⟨rfl,HB2.out⟩
 · go_enter Tryz.func29,Tryz.ntmps29
   go_upto_region 1 with fail
   obtain ⟨w1,hw1⟩:∃ y,w.alloc (.cells #[.slice a n c] 29)=y:=⟨_,rfl⟩
   obtain ⟨tb,htb⟩:∃ y,w.heap.size=y:=⟨_,rfl⟩
   have HB1:Hid (Below w.heap.size w w1):=by rw [← hw1];exact (Below.refl _ _).alloc (Nat.le_refl _) _
   have HX1:Hid (w1.heap[tb]? = some (.cells #[.slice a n c] 29 (0,0))):=by rw [← hw1,← htb];exact heap_alloc_new _ _
   have HTB:Hid (w.heap.size=tb):=htb
   rw [hw1,htb]
   clear hw1 htb
   have t0:=cells_1 HX1.out
   go_wp2_with fail
   refine Calls.mono (HIS.out _) ?_
   rintro e w2 ⟨rfl,hb2⟩
   have HB2:Hid (Below w.heap.size w w2):=trans2 HB1.out hb2
   clear hb2
   go_wp2_with fail
   go_ret2
   exact ⟨rfl,HB2.out⟩
set_option maxHeartbeats 4000000 in
set_option maxRecDepth 100000 in
theorem refPart_gone (a:Option Addr) (c:Nat) (T:List Nd) (p:ByteArray) (k:Int) (w:World) (h:NdsAt w a T) (hT:T.length≤64) (hp:isP p=true) (hk:1≤k∧k≤3) (hf:fndI T p<0) (h0:0<T.length) :
  Calls Tryz.prog 29 #[rtV a T.length c,.string p,.int .i64 k] w (PartE w []):=by
 have HIS:Hid (∀ W,Calls Tryz.prog 32 #[.string p] W fun e w'=>e=.returned (.bool true)∧Below W.heap.size W w'):=fun W=>by have:=refIs_any p W;rw [hp] at this;exact this
 have HF:Hid (∀ W,Below w.heap.size w W→Calls Tryz.prog 36 #[.slice a T.length c,.string p] W fun e w'=>e=.returned (.int .i64 (fndI T p))∧w'=W):=fun W hb=>refFind_any a c T p W (h.below hb) (by omega)
 obtain ⟨fi,hfi⟩:∃ fi,fndI T p=fi:=⟨_,rfl⟩
 rw [hfi] at HF hf
 obtain ⟨N,hN⟩:∃ N,T.length=N:=⟨_,rfl⟩
 rw [hN] at hT HF h0 ⊢
 have hn0:((N:Int)==0)=false:=by have:¬ (N:Int)=0:=by omega
                                 simpa using this
 have hk1:¬ k<1:=by omega
 have hk3:¬ 3<k:=by omega
 clear h hN hp hfi hk
 go_enter Tryz.func29,Tryz.ntmps29
 go_upto_region 1 with fail
 obtain ⟨w1,hw1⟩:∃ y,w.alloc (.cells #[.slice a N c] 29)=y:=⟨_,rfl⟩
 obtain ⟨tb,htb⟩:∃ y,w.heap.size=y:=⟨_,rfl⟩
 have HB1:Hid (Below w.heap.size w w1):=by rw [← hw1];exact (Below.refl _ _).alloc (Nat.le_refl _) _
 have HX1:Hid (w1.heap[tb]? = some (.cells #[.slice a N c] 29 (0,0))):=by rw [← hw1,← htb];exact heap_alloc_new _ _
 rw [hw1,htb]
 clear hw1 htb
 have t0:=cells_1 HX1.out
 go_wp2_with fail
 refine Calls.mono (HIS.out _) ?_
 rintro e w2 ⟨rfl,hb2⟩
 have HX2:Hid _:=kept_block hb2 HX1.out
 have HB2:Hid (Below w.heap.size w w2):=trans2 HB1.out hb2
 clear hb2 t0
 have t0:=cells_1 HX2.out
 go_wp2_with fail
 refine Calls.mono (HF.out _ HB2.out) ?_
 rintro e w3 ⟨rfl,hw3⟩
 have hw3:=hw3.symm
 subst hw3
 go_wp2_with fail
 go_ret2
 exact ⟨_,rfl,World.ownsRow_nil _ _ _ _,HB2.out⟩
set_option maxHeartbeats 16000000 in
set_option maxRecDepth 100000 in
theorem refPart_1 (a:Option Addr) (c:Nat) (T:List Nd) (p:ByteArray) (w:World) (h:NdsAt w a T) (hT:T.length≤64) (hp:isP p=true) (hf:0≤fndI T p) (hi:∀ x∈T,isP x.p=true) (h0:0<T.length) :
  Calls Tryz.prog 29 #[rtV a T.length c,.string p,.int .i64 1] w (PartE w (parT T 1 p)):=by
 obtain ⟨i0,hi0,hz0,hz1,hz2⟩:=info_parts Tryz.infoSe
 have H:Hid (NdsAt w a T):=h
 have HI:Hid (∀ x∈T,isP x.p=true):=hi
 have HP:Hid (isP p=true):=hp
 have HIS:Hid (∀ W,Calls Tryz.prog 32 #[.string p] W fun e w'=>e=.returned (.bool true)∧Below W.heap.size W w'):=fun W=>by have:=refIs_any p W;rw [hp] at this;exact this
 have HF:Hid (∀ W,Below w.heap.size w W→Calls Tryz.prog 36 #[.slice a T.length c,.string p] W fun e w'=>e=.returned (.int .i64 (fndI T p))∧w'=W):=fun W hb=>refFind_any a c T p W (h.below hb) (by omega)
 obtain ⟨fi,hfi⟩:∃ fi,fndI T p=fi:=⟨_,rfl⟩
 rw [hfi] at HF hf
 have hf':¬ fi<0:=by omega
 obtain ⟨N,hN⟩:∃ N,T.length=N:=⟨_,rfl⟩
 have HN:Hid (T.length=N):=hN
 rw [hN] at hT HF h0 ⊢
 have hn0:((N:Int)==0)=false:=by have:¬ (N:Int)=0:=by omega
                                 simpa using this
 clear h hN hp hi hfi hf
 go_enter Tryz.func29,Tryz.ntmps29
 go_upto_region 1 with fail
 obtain ⟨w1,hw1⟩:∃ y,w.alloc (.cells #[.slice a N c] 29)=y:=⟨_,rfl⟩
 obtain ⟨tb,htb⟩:∃ y,w.heap.size=y:=⟨_,rfl⟩
 have HB1:Hid (Below w.heap.size w w1):=by rw [← hw1];exact (Below.refl _ _).alloc (Nat.le_refl _) _
 have HX1:Hid (w1.heap[tb]? = some (.cells #[.slice a N c] 29 (0,0))):=by rw [← hw1,← htb];exact heap_alloc_new _ _
 rw [hw1,htb]
 clear hw1 htb
 have t0:=cells_1 HX1.out
 go_wp2_with fail
 refine Calls.mono (HIS.out _) ?_
 rintro e w2 ⟨rfl,hb2⟩
 have HX2:Hid _:=kept_block hb2 HX1.out
 have HB2:Hid (Below w.heap.size w w2):=trans2 HB1.out hb2
 clear hb2 t0
 have t0:=cells_1 HX2.out
 go_wp2_with fail
 refine Calls.mono (HF.out _ HB2.out) ?_
 rintro e w3 ⟨rfl,hw3⟩
 have hw3:=hw3.symm
 subst hw3
 go_wp2_with fail
 go_loopw [9,10] (fun v i wr=>∃ q:Nat,i=.int .i64 q∧q≤N∧Hid (wr.ownsRow w2.heap.size 117 3 v (parT (T.take q) 1 p).length ((parT (T.take q) 1 p).flatMap SnT.cs))∧Hid (Below w2.heap.size w2 wr)) (fun _ i _=>N - (intOf i).toNat)
 case atStart=>exact ⟨0,rfl,Nat.zero_le _,World.ownsRow_nil _ _ _ _,Below.refl _ _⟩
 case round =>
  obtain ⟨q,rfl,hq,HO,HB⟩:=hrel
  have HXr:Hid _:=kept_block HB.out HX2.out
  clear t0
  have t0:=cells_1 HXr.out
  by_cases hlt:q<N
  · have hlt':(q:Int)<(N:Int):=by omega
    obtain ⟨x,hx⟩:∃ x,T[q]? = some x:=⟨T[q]'(by rw [HN.out];exact hlt),List.getElem?_eq_getElem _⟩
    have HXP:Hid (isP x.p=true):=HI.out x (List.mem_of_getElem? hx)
    obtain ⟨gb,gf,rfl⟩:=H.out.some hx
    obtain ⟨hgl,x0,x1,x2,x3,x4,x5,x6⟩:=(H.out.below (trans2 HB2.out HB.out)).cells hx
    have HTK:Hid (parT (T.take (q+1)) 1 p=parT (T.take q) 1 p ++ (if covers 1 p 1 x.p=true then [snN 1 x] else [])):=parT_snoc 1 p hx
    have HLL:Hid ((parT (T.take q) 1 p).length≤64):=by
     show _≤_
     refine Nat.le_trans (parT_len _ _ _) ?_
     rw [List.length_take]
     omega
    obtain ⟨U,hU⟩:∃ U,parT (T.take q) 1 p=U:=⟨_,rfl⟩
    rw [hU] at HO HTK HLL
    have hs1:=HB.out.size
    clear hx hU
    obtain ⟨b,hbd⟩:∃ b,belB p x.p=b:=⟨_,rfl⟩
    obtain ⟨d,hkd⟩:∃ d,kidB x.p p=d:=⟨_,rfl⟩
    have HBD:Hid (belB p x.p=b):=hbd
    have HKD:Hid (kidB x.p p=d):=hkd
    have HBE:Hid (∀ W,Calls Tryz.prog 50 #[.string x.p,.string p] W fun e w'=>e=.returned (.bool b)∧Below W.heap.size W w'):=fun W=>by
     have:=refBelow_any (text:=x.p) (above:=p) rfl rfl W
     rw [← hbd]
     exact this
    have HKI:Hid (∀ W,Calls Tryz.prog 51 #[.string x.p,.string p] W fun e w'=>e=.returned (.bool d)∧Below W.heap.size W w'):=fun W=>by
     have:=refKid_any x.p p W
     rw [hkd] at this
     exact this
    clear hbd hkd
    go_upto_region 15 with fail
    obtain ⟨w4,hw4⟩:∃ y,wr.alloc (.cells #[.string x.p,.string x.d,.int .i64 x.v,.int .i64 x.m,.int .i64 x.c,.int .i64 x.o,.int .i64 x.k] 26)=y:=⟨_,rfl⟩
    obtain ⟨nb,hnb⟩:∃ y,wr.heap.size=y:=⟨_,rfl⟩
    have hb4:Below wr.heap.size wr w4:=by rw [← hw4];exact (Below.refl _ _).alloc (Nat.le_refl _) _
    have HX4:Hid (w4.heap[nb]? = some (.cells #[.string x.p,.string x.d,.int .i64 x.v,.int .i64 x.m,.int .i64 x.c,.int .i64 x.o,.int .i64 x.k] 26 (0,0))):=by rw [← hw4,← hnb];exact heap_alloc_new _ _
    have HO4:Hid (w4.ownsRow w2.heap.size 117 3 u9 U.length (U.flatMap SnT.cs)):=owns_chg HO.out (Chg.of_below hb4 (fun _=>False)) (fun _ _=>id)
    have HB4:Hid (Below w2.heap.size w2 w4):=trans2 HB.out hb4
    rw [hw4,hnb]
    clear hw4 hnb hb4 x0 x1 x2 x3 x4 x5 x6 t0
    obtain ⟨n0,n1,n2,n3,n4,n5,n6⟩:=cells_7 HX4.out
    go_wp2_with fail
    refine Calls.mono (HBE.out _) ?_
    rintro e w5 ⟨rfl,hb5⟩
    have HX5:Hid _:=kept_block hb5 HX4.out
    have HO5:Hid (w5.ownsRow w2.heap.size 117 3 u9 U.length (U.flatMap SnT.cs)):=owns_chg HO4.out (Chg.of_below hb5 (fun _=>False)) (fun _ _=>id)
    have HB5:Hid (Below w2.heap.size w2 w5):=trans2 HB4.out hb5
    clear hb5 n0 n1 n2 n3 n4 n5 n6
    obtain ⟨n0,n1,n2,n3,n4,n5,n6⟩:=cells_7 HX5.out
    go_wp2_with fail
    refine Calls.mono (HKI.out _) ?_
    rintro e w6 ⟨rfl,hb6⟩
    have HX6:Hid _:=kept_block hb6 HX5.out
    have HO6:Hid (w6.ownsRow w2.heap.size 117 3 u9 U.length (U.flatMap SnT.cs)):=owns_chg HO5.out (Chg.of_below hb6 (fun _=>False)) (fun _ _=>id)
    have HB6:Hid (Below w2.heap.size w2 w6):=trans2 HB5.out hb6
    have hs6:=HB6.out.size
    clear hb6 n0 n1 n2 n3 n4 n5 n6
    obtain ⟨n0,n1,n2,n3,n4,n5,n6⟩:=cells_7 HX6.out
    by_cases hE:x.p=p
    · have eE:(x.p.toList==p.toList)=true:=by rw [hE];simp
      clear hE
      cases b with
      | false =>
        cases d with
        | false =>
          have HCV:Hid (covers 1 p 1 x.p=true):=(cov_val HP.out HXP.out (show eqB x.p p=true from eE) HKD.out HBD.out).trans rfl
          go_wp2_with (first
           | (at_builtin;refine wpList_append_lies _ rfl _ _ _ rfl w2.heap.size 117 i0 _ 3 40 Tryz.underlying82 hi0 hz0 hz1 hz2 rfl (by omega) u9 U.length (U.flatMap SnT.cs) rfl (World.ownsRow.alloc HO6.out _) ⟨w6.heap.size,0,none⟩ 1 1 [.string x.p,.string x.d,.int .i64 x.v] rfl rfl (World.news_of_block (cs:=#[.string x.p,.string x.d,.int .i64 x.v]) (t:=117) (fr:=(0,0)) (heap_alloc_new w6 _)) (by simp [Value.oneCell']) (by have:=HLL.out;omega) (by have:=HLL.out;unfold maxLen;omega) (by have:=HLL.out;omega) (by simp;omega) (w6.heap.size+1) (by simp) ?_
              intro g4 cap4 w7 hown4 hgrow4 hat4 hlt4
              have HN4:Hid (w7.ownsRow w2.heap.size 117 3 (.slice (some ⟨g4,0,none⟩) (U.length+1) cap4) (U.length+1) (U.flatMap SnT.cs ++ [.string x.p,.string x.d,.int .i64 x.v])):=hown4
              have HB7:Hid (Below w2.heap.size w2 w7):=HB6.out.trans (((Below.refl _ _).alloc (by omega) _).grown hgrow4 (by simp;omega) (fun j hj=>(HO6.out.lt j hj).1))
              have HX7:Hid (w7.heap[nb]? = some (.cells #[.string x.p,.string x.d,.int .i64 x.v,.int .i64 x.m,.int .i64 x.c,.int .i64 x.o,.int .i64 x.k] 26 (0,0))):=by
               refine (((Chg.alloc w6 _ _).trans (Chg.grown hgrow4)).block nb (Array.getElem?_eq_some_iff.1 HX6.out).1 (fun e9=>?_)).trans HX6.out
               obtain ⟨cur9,h9⟩:=owns_kind HO6.out e9
               rw [HX6.out] at h9
               simp at h9
              obtain ⟨m0,m1,m2,m3,m4,m5,m6⟩:=cells_7 HX7.out
              clear hown4 hgrow4 hat4 hlt4 n0 n1 n2 n3 n4 n5 n6)
           | fail)
          go_roundw
          case rel =>
           refine ⟨q+1,by go_num,by omega,?_,HB7.out⟩
           show World.ownsRow _ _ _ _ _ _ _
           rw [HTK.out,if_pos HCV.out,List.flatMap_append,List.length_append]
           have h9:=HN4.out
           simpa [snN,sd,sv] using h9
          case measure=>simp [intOf];omega
        | true =>
          have HCV:Hid (covers 1 p 1 x.p=true):=(cov_val HP.out HXP.out (show eqB x.p p=true from eE) HKD.out HBD.out).trans rfl
          go_wp2_with (first
           | (at_builtin;refine wpList_append_lies _ rfl _ _ _ rfl w2.heap.size 117 i0 _ 3 40 Tryz.underlying82 hi0 hz0 hz1 hz2 rfl (by omega) u9 U.length (U.flatMap SnT.cs) rfl (World.ownsRow.alloc HO6.out _) ⟨w6.heap.size,0,none⟩ 1 1 [.string x.p,.string x.d,.int .i64 x.v] rfl rfl (World.news_of_block (cs:=#[.string x.p,.string x.d,.int .i64 x.v]) (t:=117) (fr:=(0,0)) (heap_alloc_new w6 _)) (by simp [Value.oneCell']) (by have:=HLL.out;omega) (by have:=HLL.out;unfold maxLen;omega) (by have:=HLL.out;omega) (by simp;omega) (w6.heap.size+1) (by simp) ?_
              intro g4 cap4 w7 hown4 hgrow4 hat4 hlt4
              have HN4:Hid (w7.ownsRow w2.heap.size 117 3 (.slice (some ⟨g4,0,none⟩) (U.length+1) cap4) (U.length+1) (U.flatMap SnT.cs ++ [.string x.p,.string x.d,.int .i64 x.v])):=hown4
              have HB7:Hid (Below w2.heap.size w2 w7):=HB6.out.trans (((Below.refl _ _).alloc (by omega) _).grown hgrow4 (by simp;omega) (fun j hj=>(HO6.out.lt j hj).1))
              have HX7:Hid (w7.heap[nb]? = some (.cells #[.string x.p,.string x.d,.int .i64 x.v,.int .i64 x.m,.int .i64 x.c,.int .i64 x.o,.int .i64 x.k] 26 (0,0))):=by
               refine (((Chg.alloc w6 _ _).trans (Chg.grown hgrow4)).block nb (Array.getElem?_eq_some_iff.1 HX6.out).1 (fun e9=>?_)).trans HX6.out
               obtain ⟨cur9,h9⟩:=owns_kind HO6.out e9
               rw [HX6.out] at h9
               simp at h9
              obtain ⟨m0,m1,m2,m3,m4,m5,m6⟩:=cells_7 HX7.out
              clear hown4 hgrow4 hat4 hlt4 n0 n1 n2 n3 n4 n5 n6)
           | fail)
          go_roundw
          case rel =>
           refine ⟨q+1,by go_num,by omega,?_,HB7.out⟩
           show World.ownsRow _ _ _ _ _ _ _
           rw [HTK.out,if_pos HCV.out,List.flatMap_append,List.length_append]
           have h9:=HN4.out
           simpa [snN,sd,sv] using h9
          case measure=>simp [intOf];omega
      | true =>
        cases d with
        | false =>
          have HCV:Hid (covers 1 p 1 x.p=true):=(cov_val HP.out HXP.out (show eqB x.p p=true from eE) HKD.out HBD.out).trans rfl
          go_wp2_with (first
           | (at_builtin;refine wpList_append_lies _ rfl _ _ _ rfl w2.heap.size 117 i0 _ 3 40 Tryz.underlying82 hi0 hz0 hz1 hz2 rfl (by omega) u9 U.length (U.flatMap SnT.cs) rfl (World.ownsRow.alloc HO6.out _) ⟨w6.heap.size,0,none⟩ 1 1 [.string x.p,.string x.d,.int .i64 x.v] rfl rfl (World.news_of_block (cs:=#[.string x.p,.string x.d,.int .i64 x.v]) (t:=117) (fr:=(0,0)) (heap_alloc_new w6 _)) (by simp [Value.oneCell']) (by have:=HLL.out;omega) (by have:=HLL.out;unfold maxLen;omega) (by have:=HLL.out;omega) (by simp;omega) (w6.heap.size+1) (by simp) ?_
              intro g4 cap4 w7 hown4 hgrow4 hat4 hlt4
              have HN4:Hid (w7.ownsRow w2.heap.size 117 3 (.slice (some ⟨g4,0,none⟩) (U.length+1) cap4) (U.length+1) (U.flatMap SnT.cs ++ [.string x.p,.string x.d,.int .i64 x.v])):=hown4
              have HB7:Hid (Below w2.heap.size w2 w7):=HB6.out.trans (((Below.refl _ _).alloc (by omega) _).grown hgrow4 (by simp;omega) (fun j hj=>(HO6.out.lt j hj).1))
              have HX7:Hid (w7.heap[nb]? = some (.cells #[.string x.p,.string x.d,.int .i64 x.v,.int .i64 x.m,.int .i64 x.c,.int .i64 x.o,.int .i64 x.k] 26 (0,0))):=by
               refine (((Chg.alloc w6 _ _).trans (Chg.grown hgrow4)).block nb (Array.getElem?_eq_some_iff.1 HX6.out).1 (fun e9=>?_)).trans HX6.out
               obtain ⟨cur9,h9⟩:=owns_kind HO6.out e9
               rw [HX6.out] at h9
               simp at h9
              obtain ⟨m0,m1,m2,m3,m4,m5,m6⟩:=cells_7 HX7.out
              clear hown4 hgrow4 hat4 hlt4 n0 n1 n2 n3 n4 n5 n6)
           | fail)
          go_roundw
          case rel =>
           refine ⟨q+1,by go_num,by omega,?_,HB7.out⟩
           show World.ownsRow _ _ _ _ _ _ _
           rw [HTK.out,if_pos HCV.out,List.flatMap_append,List.length_append]
           have h9:=HN4.out
           simpa [snN,sd,sv] using h9
          case measure=>simp [intOf];omega
        | true =>
          have HCV:Hid (covers 1 p 1 x.p=true):=(cov_val HP.out HXP.out (show eqB x.p p=true from eE) HKD.out HBD.out).trans rfl
          go_wp2_with (first
           | (at_builtin;refine wpList_append_lies _ rfl _ _ _ rfl w2.heap.size 117 i0 _ 3 40 Tryz.underlying82 hi0 hz0 hz1 hz2 rfl (by omega) u9 U.length (U.flatMap SnT.cs) rfl (World.ownsRow.alloc HO6.out _) ⟨w6.heap.size,0,none⟩ 1 1 [.string x.p,.string x.d,.int .i64 x.v] rfl rfl (World.news_of_block (cs:=#[.string x.p,.string x.d,.int .i64 x.v]) (t:=117) (fr:=(0,0)) (heap_alloc_new w6 _)) (by simp [Value.oneCell']) (by have:=HLL.out;omega) (by have:=HLL.out;unfold maxLen;omega) (by have:=HLL.out;omega) (by simp;omega) (w6.heap.size+1) (by simp) ?_
              intro g4 cap4 w7 hown4 hgrow4 hat4 hlt4
              have HN4:Hid (w7.ownsRow w2.heap.size 117 3 (.slice (some ⟨g4,0,none⟩) (U.length+1) cap4) (U.length+1) (U.flatMap SnT.cs ++ [.string x.p,.string x.d,.int .i64 x.v])):=hown4
              have HB7:Hid (Below w2.heap.size w2 w7):=HB6.out.trans (((Below.refl _ _).alloc (by omega) _).grown hgrow4 (by simp;omega) (fun j hj=>(HO6.out.lt j hj).1))
              have HX7:Hid (w7.heap[nb]? = some (.cells #[.string x.p,.string x.d,.int .i64 x.v,.int .i64 x.m,.int .i64 x.c,.int .i64 x.o,.int .i64 x.k] 26 (0,0))):=by
               refine (((Chg.alloc w6 _ _).trans (Chg.grown hgrow4)).block nb (Array.getElem?_eq_some_iff.1 HX6.out).1 (fun e9=>?_)).trans HX6.out
               obtain ⟨cur9,h9⟩:=owns_kind HO6.out e9
               rw [HX6.out] at h9
               simp at h9
              obtain ⟨m0,m1,m2,m3,m4,m5,m6⟩:=cells_7 HX7.out
              clear hown4 hgrow4 hat4 hlt4 n0 n1 n2 n3 n4 n5 n6)
           | fail)
          go_roundw
          case rel =>
           refine ⟨q+1,by go_num,by omega,?_,HB7.out⟩
           show World.ownsRow _ _ _ _ _ _ _
           rw [HTK.out,if_pos HCV.out,List.flatMap_append,List.length_append]
           have h9:=HN4.out
           simpa [snN,sd,sv] using h9
          case measure=>simp [intOf];omega
    · have eE:(x.p.toList==p.toList)=false:=beq_ne hE
      clear hE
      cases b with
      | false =>
        cases d with
        | false =>
          have HCV:Hid (covers 1 p 1 x.p=false):=(cov_val HP.out HXP.out (show eqB x.p p=false from eE) HKD.out HBD.out).trans rfl
          go_wp2_with fail
          go_roundw
          case rel =>
           refine ⟨q+1,by go_num,by omega,?_,HB6.out⟩
           show World.ownsRow _ _ _ _ _ _ _
           rw [HTK.out,if_neg (by rw [HCV.out];simp),List.append_nil]
           exact HO6.out
          case measure=>simp [intOf];omega
        | true =>
          have HCV:Hid (covers 1 p 1 x.p=false):=(cov_val HP.out HXP.out (show eqB x.p p=false from eE) HKD.out HBD.out).trans rfl
          go_wp2_with fail
          go_roundw
          case rel =>
           refine ⟨q+1,by go_num,by omega,?_,HB6.out⟩
           show World.ownsRow _ _ _ _ _ _ _
           rw [HTK.out,if_neg (by rw [HCV.out];simp),List.append_nil]
           exact HO6.out
          case measure=>simp [intOf];omega
      | true =>
        cases d with
        | false =>
          have HCV:Hid (covers 1 p 1 x.p=false):=(cov_val HP.out HXP.out (show eqB x.p p=false from eE) HKD.out HBD.out).trans rfl
          go_wp2_with fail
          go_roundw
          case rel =>
           refine ⟨q+1,by go_num,by omega,?_,HB6.out⟩
           show World.ownsRow _ _ _ _ _ _ _
           rw [HTK.out,if_neg (by rw [HCV.out];simp),List.append_nil]
           exact HO6.out
          case measure=>simp [intOf];omega
        | true =>
          have HCV:Hid (covers 1 p 1 x.p=false):=(cov_val HP.out HXP.out (show eqB x.p p=false from eE) HKD.out HBD.out).trans rfl
          go_wp2_with fail
          go_roundw
          case rel =>
           refine ⟨q+1,by go_num,by omega,?_,HB6.out⟩
           show World.ownsRow _ _ _ _ _ _ _
           rw [HTK.out,if_neg (by rw [HCV.out];simp),List.append_nil]
           exact HO6.out
          case measure=>simp [intOf];omega
  · obtain rfl:q=N:=by omega
    have hO:=HO.out
    rw [List.take_of_length_le (by rw [HN.out];exact Nat.le_refl _)] at hO
    have HOF:Hid _:=hO
    clear hO
    go_wp2_with fail
    go_ret2
    exact ⟨_,rfl,⟨HOF.out.1,HOF.out.2.imp id (fun ⟨g,cap,cur,h1,h2,r⟩=>⟨g,cap,cur,h1,Nat.le_trans HB2.out.size h2,r⟩)⟩,trans2 HB2.out HB.out⟩
set_option maxHeartbeats 16000000 in
set_option maxRecDepth 100000 in
theorem refPart_2 (a:Option Addr) (c:Nat) (T:List Nd) (p:ByteArray) (w:World) (h:NdsAt w a T) (hT:T.length≤64) (hp:isP p=true) (hf:0≤fndI T p) (hi:∀ x∈T,isP x.p=true) (h0:0<T.length) :
  Calls Tryz.prog 29 #[rtV a T.length c,.string p,.int .i64 2] w (PartE w (parT T 2 p)):=by
 obtain ⟨i0,hi0,hz0,hz1,hz2⟩:=info_parts Tryz.infoSe
 have H:Hid (NdsAt w a T):=h
 have HI:Hid (∀ x∈T,isP x.p=true):=hi
 have HP:Hid (isP p=true):=hp
 have HIS:Hid (∀ W,Calls Tryz.prog 32 #[.string p] W fun e w'=>e=.returned (.bool true)∧Below W.heap.size W w'):=fun W=>by have:=refIs_any p W;rw [hp] at this;exact this
 have HF:Hid (∀ W,Below w.heap.size w W→Calls Tryz.prog 36 #[.slice a T.length c,.string p] W fun e w'=>e=.returned (.int .i64 (fndI T p))∧w'=W):=fun W hb=>refFind_any a c T p W (h.below hb) (by omega)
 obtain ⟨fi,hfi⟩:∃ fi,fndI T p=fi:=⟨_,rfl⟩
 rw [hfi] at HF hf
 have hf':¬ fi<0:=by omega
 obtain ⟨N,hN⟩:∃ N,T.length=N:=⟨_,rfl⟩
 have HN:Hid (T.length=N):=hN
 rw [hN] at hT HF h0 ⊢
 have hn0:((N:Int)==0)=false:=by have:¬ (N:Int)=0:=by omega
                                 simpa using this
 clear h hN hp hi hfi hf
 go_enter Tryz.func29,Tryz.ntmps29
 go_upto_region 1 with fail
 obtain ⟨w1,hw1⟩:∃ y,w.alloc (.cells #[.slice a N c] 29)=y:=⟨_,rfl⟩
 obtain ⟨tb,htb⟩:∃ y,w.heap.size=y:=⟨_,rfl⟩
 have HB1:Hid (Below w.heap.size w w1):=by rw [← hw1];exact (Below.refl _ _).alloc (Nat.le_refl _) _
 have HX1:Hid (w1.heap[tb]? = some (.cells #[.slice a N c] 29 (0,0))):=by rw [← hw1,← htb];exact heap_alloc_new _ _
 rw [hw1,htb]
 clear hw1 htb
 have t0:=cells_1 HX1.out
 go_wp2_with fail
 refine Calls.mono (HIS.out _) ?_
 rintro e w2 ⟨rfl,hb2⟩
 have HX2:Hid _:=kept_block hb2 HX1.out
 have HB2:Hid (Below w.heap.size w w2):=trans2 HB1.out hb2
 clear hb2 t0
 have t0:=cells_1 HX2.out
 go_wp2_with fail
 refine Calls.mono (HF.out _ HB2.out) ?_
 rintro e w3 ⟨rfl,hw3⟩
 have hw3:=hw3.symm
 subst hw3
 go_wp2_with fail
 go_loopw [9,10] (fun v i wr=>∃ q:Nat,i=.int .i64 q∧q≤N∧Hid (wr.ownsRow w2.heap.size 117 3 v (parT (T.take q) 2 p).length ((parT (T.take q) 2 p).flatMap SnT.cs))∧Hid (Below w2.heap.size w2 wr)) (fun _ i _=>N - (intOf i).toNat)
 case atStart=>exact ⟨0,rfl,Nat.zero_le _,World.ownsRow_nil _ _ _ _,Below.refl _ _⟩
 case round =>
  obtain ⟨q,rfl,hq,HO,HB⟩:=hrel
  have HXr:Hid _:=kept_block HB.out HX2.out
  clear t0
  have t0:=cells_1 HXr.out
  by_cases hlt:q<N
  · have hlt':(q:Int)<(N:Int):=by omega
    obtain ⟨x,hx⟩:∃ x,T[q]? = some x:=⟨T[q]'(by rw [HN.out];exact hlt),List.getElem?_eq_getElem _⟩
    have HXP:Hid (isP x.p=true):=HI.out x (List.mem_of_getElem? hx)
    obtain ⟨gb,gf,rfl⟩:=H.out.some hx
    obtain ⟨hgl,x0,x1,x2,x3,x4,x5,x6⟩:=(H.out.below (trans2 HB2.out HB.out)).cells hx
    have HTK:Hid (parT (T.take (q+1)) 2 p=parT (T.take q) 2 p ++ (if covers 2 p 1 x.p=true then [snN 2 x] else [])):=parT_snoc 2 p hx
    have HLL:Hid ((parT (T.take q) 2 p).length≤64):=by
     show _≤_
     refine Nat.le_trans (parT_len _ _ _) ?_
     rw [List.length_take]
     omega
    obtain ⟨U,hU⟩:∃ U,parT (T.take q) 2 p=U:=⟨_,rfl⟩
    rw [hU] at HO HTK HLL
    have hs1:=HB.out.size
    clear hx hU
    obtain ⟨b,hbd⟩:∃ b,belB p x.p=b:=⟨_,rfl⟩
    obtain ⟨d,hkd⟩:∃ d,kidB x.p p=d:=⟨_,rfl⟩
    have HBD:Hid (belB p x.p=b):=hbd
    have HKD:Hid (kidB x.p p=d):=hkd
    have HBE:Hid (∀ W,Calls Tryz.prog 50 #[.string x.p,.string p] W fun e w'=>e=.returned (.bool b)∧Below W.heap.size W w'):=fun W=>by
     have:=refBelow_any (text:=x.p) (above:=p) rfl rfl W
     rw [← hbd]
     exact this
    have HKI:Hid (∀ W,Calls Tryz.prog 51 #[.string x.p,.string p] W fun e w'=>e=.returned (.bool d)∧Below W.heap.size W w'):=fun W=>by
     have:=refKid_any x.p p W
     rw [hkd] at this
     exact this
    clear hbd hkd
    go_upto_region 15 with fail
    obtain ⟨w4,hw4⟩:∃ y,wr.alloc (.cells #[.string x.p,.string x.d,.int .i64 x.v,.int .i64 x.m,.int .i64 x.c,.int .i64 x.o,.int .i64 x.k] 26)=y:=⟨_,rfl⟩
    obtain ⟨nb,hnb⟩:∃ y,wr.heap.size=y:=⟨_,rfl⟩
    have hb4:Below wr.heap.size wr w4:=by rw [← hw4];exact (Below.refl _ _).alloc (Nat.le_refl _) _
    have HX4:Hid (w4.heap[nb]? = some (.cells #[.string x.p,.string x.d,.int .i64 x.v,.int .i64 x.m,.int .i64 x.c,.int .i64 x.o,.int .i64 x.k] 26 (0,0))):=by rw [← hw4,← hnb];exact heap_alloc_new _ _
    have HO4:Hid (w4.ownsRow w2.heap.size 117 3 u9 U.length (U.flatMap SnT.cs)):=owns_chg HO.out (Chg.of_below hb4 (fun _=>False)) (fun _ _=>id)
    have HB4:Hid (Below w2.heap.size w2 w4):=trans2 HB.out hb4
    rw [hw4,hnb]
    clear hw4 hnb hb4 x0 x1 x2 x3 x4 x5 x6 t0
    obtain ⟨n0,n1,n2,n3,n4,n5,n6⟩:=cells_7 HX4.out
    go_wp2_with fail
    refine Calls.mono (HBE.out _) ?_
    rintro e w5 ⟨rfl,hb5⟩
    have HX5:Hid _:=kept_block hb5 HX4.out
    have HO5:Hid (w5.ownsRow w2.heap.size 117 3 u9 U.length (U.flatMap SnT.cs)):=owns_chg HO4.out (Chg.of_below hb5 (fun _=>False)) (fun _ _=>id)
    have HB5:Hid (Below w2.heap.size w2 w5):=trans2 HB4.out hb5
    clear hb5 n0 n1 n2 n3 n4 n5 n6
    obtain ⟨n0,n1,n2,n3,n4,n5,n6⟩:=cells_7 HX5.out
    go_wp2_with fail
    refine Calls.mono (HKI.out _) ?_
    rintro e w6 ⟨rfl,hb6⟩
    have HX6:Hid _:=kept_block hb6 HX5.out
    have HO6:Hid (w6.ownsRow w2.heap.size 117 3 u9 U.length (U.flatMap SnT.cs)):=owns_chg HO5.out (Chg.of_below hb6 (fun _=>False)) (fun _ _=>id)
    have HB6:Hid (Below w2.heap.size w2 w6):=trans2 HB5.out hb6
    have hs6:=HB6.out.size
    clear hb6 n0 n1 n2 n3 n4 n5 n6
    obtain ⟨n0,n1,n2,n3,n4,n5,n6⟩:=cells_7 HX6.out
    by_cases hE:x.p=p
    · have eE:(x.p.toList==p.toList)=true:=by rw [hE];simp
      clear hE
      cases b with
      | false =>
        cases d with
        | false =>
          have HCV:Hid (covers 2 p 1 x.p=true):=(cov_val HP.out HXP.out (show eqB x.p p=true from eE) HKD.out HBD.out).trans rfl
          go_wp2_with (first
           | (at_builtin;refine wpList_append_lies _ rfl _ _ _ rfl w2.heap.size 117 i0 _ 3 40 Tryz.underlying82 hi0 hz0 hz1 hz2 rfl (by omega) u9 U.length (U.flatMap SnT.cs) rfl (World.ownsRow.alloc HO6.out _) ⟨w6.heap.size,0,none⟩ 1 1 [.string x.p,.string ⟨#[]⟩,.int .i64 0] rfl rfl (World.news_of_block (cs:=#[.string x.p,.string ⟨#[]⟩,.int .i64 0]) (t:=117) (fr:=(0,0)) (heap_alloc_new w6 _)) (by simp [Value.oneCell']) (by have:=HLL.out;omega) (by have:=HLL.out;unfold maxLen;omega) (by have:=HLL.out;omega) (by simp;omega) (w6.heap.size+1) (by simp) ?_
              intro g4 cap4 w7 hown4 hgrow4 hat4 hlt4
              have HN4:Hid (w7.ownsRow w2.heap.size 117 3 (.slice (some ⟨g4,0,none⟩) (U.length+1) cap4) (U.length+1) (U.flatMap SnT.cs ++ [.string x.p,.string ⟨#[]⟩,.int .i64 0])):=hown4
              have HB7:Hid (Below w2.heap.size w2 w7):=HB6.out.trans (((Below.refl _ _).alloc (by omega) _).grown hgrow4 (by simp;omega) (fun j hj=>(HO6.out.lt j hj).1))
              have HX7:Hid (w7.heap[nb]? = some (.cells #[.string x.p,.string x.d,.int .i64 x.v,.int .i64 x.m,.int .i64 x.c,.int .i64 x.o,.int .i64 x.k] 26 (0,0))):=by
               refine (((Chg.alloc w6 _ _).trans (Chg.grown hgrow4)).block nb (Array.getElem?_eq_some_iff.1 HX6.out).1 (fun e9=>?_)).trans HX6.out
               obtain ⟨cur9,h9⟩:=owns_kind HO6.out e9
               rw [HX6.out] at h9
               simp at h9
              obtain ⟨m0,m1,m2,m3,m4,m5,m6⟩:=cells_7 HX7.out
              clear hown4 hgrow4 hat4 hlt4 n0 n1 n2 n3 n4 n5 n6)
           | fail)
          go_roundw
          case rel =>
           refine ⟨q+1,by go_num,by omega,?_,HB7.out⟩
           show World.ownsRow _ _ _ _ _ _ _
           rw [HTK.out,if_pos HCV.out,List.flatMap_append,List.length_append]
           have h9:=HN4.out
           simpa [snN,sd,sv] using h9
          case measure=>simp [intOf];omega
        | true =>
          have HCV:Hid (covers 2 p 1 x.p=true):=(cov_val HP.out HXP.out (show eqB x.p p=true from eE) HKD.out HBD.out).trans rfl
          go_wp2_with (first
           | (at_builtin;refine wpList_append_lies _ rfl _ _ _ rfl w2.heap.size 117 i0 _ 3 40 Tryz.underlying82 hi0 hz0 hz1 hz2 rfl (by omega) u9 U.length (U.flatMap SnT.cs) rfl (World.ownsRow.alloc HO6.out _) ⟨w6.heap.size,0,none⟩ 1 1 [.string x.p,.string ⟨#[]⟩,.int .i64 0] rfl rfl (World.news_of_block (cs:=#[.string x.p,.string ⟨#[]⟩,.int .i64 0]) (t:=117) (fr:=(0,0)) (heap_alloc_new w6 _)) (by simp [Value.oneCell']) (by have:=HLL.out;omega) (by have:=HLL.out;unfold maxLen;omega) (by have:=HLL.out;omega) (by simp;omega) (w6.heap.size+1) (by simp) ?_
              intro g4 cap4 w7 hown4 hgrow4 hat4 hlt4
              have HN4:Hid (w7.ownsRow w2.heap.size 117 3 (.slice (some ⟨g4,0,none⟩) (U.length+1) cap4) (U.length+1) (U.flatMap SnT.cs ++ [.string x.p,.string ⟨#[]⟩,.int .i64 0])):=hown4
              have HB7:Hid (Below w2.heap.size w2 w7):=HB6.out.trans (((Below.refl _ _).alloc (by omega) _).grown hgrow4 (by simp;omega) (fun j hj=>(HO6.out.lt j hj).1))
              have HX7:Hid (w7.heap[nb]? = some (.cells #[.string x.p,.string x.d,.int .i64 x.v,.int .i64 x.m,.int .i64 x.c,.int .i64 x.o,.int .i64 x.k] 26 (0,0))):=by
               refine (((Chg.alloc w6 _ _).trans (Chg.grown hgrow4)).block nb (Array.getElem?_eq_some_iff.1 HX6.out).1 (fun e9=>?_)).trans HX6.out
               obtain ⟨cur9,h9⟩:=owns_kind HO6.out e9
               rw [HX6.out] at h9
               simp at h9
              obtain ⟨m0,m1,m2,m3,m4,m5,m6⟩:=cells_7 HX7.out
              clear hown4 hgrow4 hat4 hlt4 n0 n1 n2 n3 n4 n5 n6)
           | fail)
          go_roundw
          case rel =>
           refine ⟨q+1,by go_num,by omega,?_,HB7.out⟩
           show World.ownsRow _ _ _ _ _ _ _
           rw [HTK.out,if_pos HCV.out,List.flatMap_append,List.length_append]
           have h9:=HN4.out
           simpa [snN,sd,sv] using h9
          case measure=>simp [intOf];omega
      | true =>
        cases d with
        | false =>
          have HCV:Hid (covers 2 p 1 x.p=true):=(cov_val HP.out HXP.out (show eqB x.p p=true from eE) HKD.out HBD.out).trans rfl
          go_wp2_with (first
           | (at_builtin;refine wpList_append_lies _ rfl _ _ _ rfl w2.heap.size 117 i0 _ 3 40 Tryz.underlying82 hi0 hz0 hz1 hz2 rfl (by omega) u9 U.length (U.flatMap SnT.cs) rfl (World.ownsRow.alloc HO6.out _) ⟨w6.heap.size,0,none⟩ 1 1 [.string x.p,.string ⟨#[]⟩,.int .i64 0] rfl rfl (World.news_of_block (cs:=#[.string x.p,.string ⟨#[]⟩,.int .i64 0]) (t:=117) (fr:=(0,0)) (heap_alloc_new w6 _)) (by simp [Value.oneCell']) (by have:=HLL.out;omega) (by have:=HLL.out;unfold maxLen;omega) (by have:=HLL.out;omega) (by simp;omega) (w6.heap.size+1) (by simp) ?_
              intro g4 cap4 w7 hown4 hgrow4 hat4 hlt4
              have HN4:Hid (w7.ownsRow w2.heap.size 117 3 (.slice (some ⟨g4,0,none⟩) (U.length+1) cap4) (U.length+1) (U.flatMap SnT.cs ++ [.string x.p,.string ⟨#[]⟩,.int .i64 0])):=hown4
              have HB7:Hid (Below w2.heap.size w2 w7):=HB6.out.trans (((Below.refl _ _).alloc (by omega) _).grown hgrow4 (by simp;omega) (fun j hj=>(HO6.out.lt j hj).1))
              have HX7:Hid (w7.heap[nb]? = some (.cells #[.string x.p,.string x.d,.int .i64 x.v,.int .i64 x.m,.int .i64 x.c,.int .i64 x.o,.int .i64 x.k] 26 (0,0))):=by
               refine (((Chg.alloc w6 _ _).trans (Chg.grown hgrow4)).block nb (Array.getElem?_eq_some_iff.1 HX6.out).1 (fun e9=>?_)).trans HX6.out
               obtain ⟨cur9,h9⟩:=owns_kind HO6.out e9
               rw [HX6.out] at h9
               simp at h9
              obtain ⟨m0,m1,m2,m3,m4,m5,m6⟩:=cells_7 HX7.out
              clear hown4 hgrow4 hat4 hlt4 n0 n1 n2 n3 n4 n5 n6)
           | fail)
          go_roundw
          case rel =>
           refine ⟨q+1,by go_num,by omega,?_,HB7.out⟩
           show World.ownsRow _ _ _ _ _ _ _
           rw [HTK.out,if_pos HCV.out,List.flatMap_append,List.length_append]
           have h9:=HN4.out
           simpa [snN,sd,sv] using h9
          case measure=>simp [intOf];omega
        | true =>
          have HCV:Hid (covers 2 p 1 x.p=true):=(cov_val HP.out HXP.out (show eqB x.p p=true from eE) HKD.out HBD.out).trans rfl
          go_wp2_with (first
           | (at_builtin;refine wpList_append_lies _ rfl _ _ _ rfl w2.heap.size 117 i0 _ 3 40 Tryz.underlying82 hi0 hz0 hz1 hz2 rfl (by omega) u9 U.length (U.flatMap SnT.cs) rfl (World.ownsRow.alloc HO6.out _) ⟨w6.heap.size,0,none⟩ 1 1 [.string x.p,.string ⟨#[]⟩,.int .i64 0] rfl rfl (World.news_of_block (cs:=#[.string x.p,.string ⟨#[]⟩,.int .i64 0]) (t:=117) (fr:=(0,0)) (heap_alloc_new w6 _)) (by simp [Value.oneCell']) (by have:=HLL.out;omega) (by have:=HLL.out;unfold maxLen;omega) (by have:=HLL.out;omega) (by simp;omega) (w6.heap.size+1) (by simp) ?_
              intro g4 cap4 w7 hown4 hgrow4 hat4 hlt4
              have HN4:Hid (w7.ownsRow w2.heap.size 117 3 (.slice (some ⟨g4,0,none⟩) (U.length+1) cap4) (U.length+1) (U.flatMap SnT.cs ++ [.string x.p,.string ⟨#[]⟩,.int .i64 0])):=hown4
              have HB7:Hid (Below w2.heap.size w2 w7):=HB6.out.trans (((Below.refl _ _).alloc (by omega) _).grown hgrow4 (by simp;omega) (fun j hj=>(HO6.out.lt j hj).1))
              have HX7:Hid (w7.heap[nb]? = some (.cells #[.string x.p,.string x.d,.int .i64 x.v,.int .i64 x.m,.int .i64 x.c,.int .i64 x.o,.int .i64 x.k] 26 (0,0))):=by
               refine (((Chg.alloc w6 _ _).trans (Chg.grown hgrow4)).block nb (Array.getElem?_eq_some_iff.1 HX6.out).1 (fun e9=>?_)).trans HX6.out
               obtain ⟨cur9,h9⟩:=owns_kind HO6.out e9
               rw [HX6.out] at h9
               simp at h9
              obtain ⟨m0,m1,m2,m3,m4,m5,m6⟩:=cells_7 HX7.out
              clear hown4 hgrow4 hat4 hlt4 n0 n1 n2 n3 n4 n5 n6)
           | fail)
          go_roundw
          case rel =>
           refine ⟨q+1,by go_num,by omega,?_,HB7.out⟩
           show World.ownsRow _ _ _ _ _ _ _
           rw [HTK.out,if_pos HCV.out,List.flatMap_append,List.length_append]
           have h9:=HN4.out
           simpa [snN,sd,sv] using h9
          case measure=>simp [intOf];omega
    · have eE:(x.p.toList==p.toList)=false:=beq_ne hE
      clear hE
      cases b with
      | false =>
        cases d with
        | false =>
          have HCV:Hid (covers 2 p 1 x.p=false):=(cov_val HP.out HXP.out (show eqB x.p p=false from eE) HKD.out HBD.out).trans rfl
          go_wp2_with fail
          go_roundw
          case rel =>
           refine ⟨q+1,by go_num,by omega,?_,HB6.out⟩
           show World.ownsRow _ _ _ _ _ _ _
           rw [HTK.out,if_neg (by rw [HCV.out];simp),List.append_nil]
           exact HO6.out
          case measure=>simp [intOf];omega
        | true =>
          have HCV:Hid (covers 2 p 1 x.p=true):=(cov_val HP.out HXP.out (show eqB x.p p=false from eE) HKD.out HBD.out).trans rfl
          go_wp2_with (first
           | (at_builtin;refine wpList_append_lies _ rfl _ _ _ rfl w2.heap.size 117 i0 _ 3 40 Tryz.underlying82 hi0 hz0 hz1 hz2 rfl (by omega) u9 U.length (U.flatMap SnT.cs) rfl (World.ownsRow.alloc HO6.out _) ⟨w6.heap.size,0,none⟩ 1 1 [.string x.p,.string ⟨#[]⟩,.int .i64 0] rfl rfl (World.news_of_block (cs:=#[.string x.p,.string ⟨#[]⟩,.int .i64 0]) (t:=117) (fr:=(0,0)) (heap_alloc_new w6 _)) (by simp [Value.oneCell']) (by have:=HLL.out;omega) (by have:=HLL.out;unfold maxLen;omega) (by have:=HLL.out;omega) (by simp;omega) (w6.heap.size+1) (by simp) ?_
              intro g4 cap4 w7 hown4 hgrow4 hat4 hlt4
              have HN4:Hid (w7.ownsRow w2.heap.size 117 3 (.slice (some ⟨g4,0,none⟩) (U.length+1) cap4) (U.length+1) (U.flatMap SnT.cs ++ [.string x.p,.string ⟨#[]⟩,.int .i64 0])):=hown4
              have HB7:Hid (Below w2.heap.size w2 w7):=HB6.out.trans (((Below.refl _ _).alloc (by omega) _).grown hgrow4 (by simp;omega) (fun j hj=>(HO6.out.lt j hj).1))
              have HX7:Hid (w7.heap[nb]? = some (.cells #[.string x.p,.string x.d,.int .i64 x.v,.int .i64 x.m,.int .i64 x.c,.int .i64 x.o,.int .i64 x.k] 26 (0,0))):=by
               refine (((Chg.alloc w6 _ _).trans (Chg.grown hgrow4)).block nb (Array.getElem?_eq_some_iff.1 HX6.out).1 (fun e9=>?_)).trans HX6.out
               obtain ⟨cur9,h9⟩:=owns_kind HO6.out e9
               rw [HX6.out] at h9
               simp at h9
              obtain ⟨m0,m1,m2,m3,m4,m5,m6⟩:=cells_7 HX7.out
              clear hown4 hgrow4 hat4 hlt4 n0 n1 n2 n3 n4 n5 n6)
           | fail)
          go_roundw
          case rel =>
           refine ⟨q+1,by go_num,by omega,?_,HB7.out⟩
           show World.ownsRow _ _ _ _ _ _ _
           rw [HTK.out,if_pos HCV.out,List.flatMap_append,List.length_append]
           have h9:=HN4.out
           simpa [snN,sd,sv] using h9
          case measure=>simp [intOf];omega
      | true =>
        cases d with
        | false =>
          have HCV:Hid (covers 2 p 1 x.p=false):=(cov_val HP.out HXP.out (show eqB x.p p=false from eE) HKD.out HBD.out).trans rfl
          go_wp2_with fail
          go_roundw
          case rel =>
           refine ⟨q+1,by go_num,by omega,?_,HB6.out⟩
           show World.ownsRow _ _ _ _ _ _ _
           rw [HTK.out,if_neg (by rw [HCV.out];simp),List.append_nil]
           exact HO6.out
          case measure=>simp [intOf];omega
        | true =>
          have HCV:Hid (covers 2 p 1 x.p=true):=(cov_val HP.out HXP.out (show eqB x.p p=false from eE) HKD.out HBD.out).trans rfl
          go_wp2_with (first
           | (at_builtin;refine wpList_append_lies _ rfl _ _ _ rfl w2.heap.size 117 i0 _ 3 40 Tryz.underlying82 hi0 hz0 hz1 hz2 rfl (by omega) u9 U.length (U.flatMap SnT.cs) rfl (World.ownsRow.alloc HO6.out _) ⟨w6.heap.size,0,none⟩ 1 1 [.string x.p,.string ⟨#[]⟩,.int .i64 0] rfl rfl (World.news_of_block (cs:=#[.string x.p,.string ⟨#[]⟩,.int .i64 0]) (t:=117) (fr:=(0,0)) (heap_alloc_new w6 _)) (by simp [Value.oneCell']) (by have:=HLL.out;omega) (by have:=HLL.out;unfold maxLen;omega) (by have:=HLL.out;omega) (by simp;omega) (w6.heap.size+1) (by simp) ?_
              intro g4 cap4 w7 hown4 hgrow4 hat4 hlt4
              have HN4:Hid (w7.ownsRow w2.heap.size 117 3 (.slice (some ⟨g4,0,none⟩) (U.length+1) cap4) (U.length+1) (U.flatMap SnT.cs ++ [.string x.p,.string ⟨#[]⟩,.int .i64 0])):=hown4
              have HB7:Hid (Below w2.heap.size w2 w7):=HB6.out.trans (((Below.refl _ _).alloc (by omega) _).grown hgrow4 (by simp;omega) (fun j hj=>(HO6.out.lt j hj).1))
              have HX7:Hid (w7.heap[nb]? = some (.cells #[.string x.p,.string x.d,.int .i64 x.v,.int .i64 x.m,.int .i64 x.c,.int .i64 x.o,.int .i64 x.k] 26 (0,0))):=by
               refine (((Chg.alloc w6 _ _).trans (Chg.grown hgrow4)).block nb (Array.getElem?_eq_some_iff.1 HX6.out).1 (fun e9=>?_)).trans HX6.out
               obtain ⟨cur9,h9⟩:=owns_kind HO6.out e9
               rw [HX6.out] at h9
               simp at h9
              obtain ⟨m0,m1,m2,m3,m4,m5,m6⟩:=cells_7 HX7.out
              clear hown4 hgrow4 hat4 hlt4 n0 n1 n2 n3 n4 n5 n6)
           | fail)
          go_roundw
          case rel =>
           refine ⟨q+1,by go_num,by omega,?_,HB7.out⟩
           show World.ownsRow _ _ _ _ _ _ _
           rw [HTK.out,if_pos HCV.out,List.flatMap_append,List.length_append]
           have h9:=HN4.out
           simpa [snN,sd,sv] using h9
          case measure=>simp [intOf];omega
  · obtain rfl:q=N:=by omega
    have hO:=HO.out
    rw [List.take_of_length_le (by rw [HN.out];exact Nat.le_refl _)] at hO
    have HOF:Hid _:=hO
    clear hO
    go_wp2_with fail
    go_ret2
    exact ⟨_,rfl,⟨HOF.out.1,HOF.out.2.imp id (fun ⟨g,cap,cur,h1,h2,r⟩=>⟨g,cap,cur,h1,Nat.le_trans HB2.out.size h2,r⟩)⟩,trans2 HB2.out HB.out⟩
set_option maxHeartbeats 16000000 in
set_option maxRecDepth 100000 in
theorem refPart_3 (a:Option Addr) (c:Nat) (T:List Nd) (p:ByteArray) (w:World) (h:NdsAt w a T) (hT:T.length≤64) (hp:isP p=true) (hf:0≤fndI T p) (hi:∀ x∈T,isP x.p=true) (h0:0<T.length) :
  Calls Tryz.prog 29 #[rtV a T.length c,.string p,.int .i64 3] w (PartE w (parT T 3 p)):=by
 obtain ⟨i0,hi0,hz0,hz1,hz2⟩:=info_parts Tryz.infoSe
 have H:Hid (NdsAt w a T):=h
 have HI:Hid (∀ x∈T,isP x.p=true):=hi
 have HP:Hid (isP p=true):=hp
 have HIS:Hid (∀ W,Calls Tryz.prog 32 #[.string p] W fun e w'=>e=.returned (.bool true)∧Below W.heap.size W w'):=fun W=>by have:=refIs_any p W;rw [hp] at this;exact this
 have HF:Hid (∀ W,Below w.heap.size w W→Calls Tryz.prog 36 #[.slice a T.length c,.string p] W fun e w'=>e=.returned (.int .i64 (fndI T p))∧w'=W):=fun W hb=>refFind_any a c T p W (h.below hb) (by omega)
 obtain ⟨fi,hfi⟩:∃ fi,fndI T p=fi:=⟨_,rfl⟩
 rw [hfi] at HF hf
 have hf':¬ fi<0:=by omega
 obtain ⟨N,hN⟩:∃ N,T.length=N:=⟨_,rfl⟩
 have HN:Hid (T.length=N):=hN
 rw [hN] at hT HF h0 ⊢
 have hn0:((N:Int)==0)=false:=by have:¬ (N:Int)=0:=by omega
                                 simpa using this
 clear h hN hp hi hfi hf
 go_enter Tryz.func29,Tryz.ntmps29
 go_upto_region 1 with fail
 obtain ⟨w1,hw1⟩:∃ y,w.alloc (.cells #[.slice a N c] 29)=y:=⟨_,rfl⟩
 obtain ⟨tb,htb⟩:∃ y,w.heap.size=y:=⟨_,rfl⟩
 have HB1:Hid (Below w.heap.size w w1):=by rw [← hw1];exact (Below.refl _ _).alloc (Nat.le_refl _) _
 have HX1:Hid (w1.heap[tb]? = some (.cells #[.slice a N c] 29 (0,0))):=by rw [← hw1,← htb];exact heap_alloc_new _ _
 rw [hw1,htb]
 clear hw1 htb
 have t0:=cells_1 HX1.out
 go_wp2_with fail
 refine Calls.mono (HIS.out _) ?_
 rintro e w2 ⟨rfl,hb2⟩
 have HX2:Hid _:=kept_block hb2 HX1.out
 have HB2:Hid (Below w.heap.size w w2):=trans2 HB1.out hb2
 clear hb2 t0
 have t0:=cells_1 HX2.out
 go_wp2_with fail
 refine Calls.mono (HF.out _ HB2.out) ?_
 rintro e w3 ⟨rfl,hw3⟩
 have hw3:=hw3.symm
 subst hw3
 go_wp2_with fail
 go_loopw [9,10] (fun v i wr=>∃ q:Nat,i=.int .i64 q∧q≤N∧Hid (wr.ownsRow w2.heap.size 117 3 v (parT (T.take q) 3 p).length ((parT (T.take q) 3 p).flatMap SnT.cs))∧Hid (Below w2.heap.size w2 wr)) (fun _ i _=>N - (intOf i).toNat)
 case atStart=>exact ⟨0,rfl,Nat.zero_le _,World.ownsRow_nil _ _ _ _,Below.refl _ _⟩
 case round =>
  obtain ⟨q,rfl,hq,HO,HB⟩:=hrel
  have HXr:Hid _:=kept_block HB.out HX2.out
  clear t0
  have t0:=cells_1 HXr.out
  by_cases hlt:q<N
  · have hlt':(q:Int)<(N:Int):=by omega
    obtain ⟨x,hx⟩:∃ x,T[q]? = some x:=⟨T[q]'(by rw [HN.out];exact hlt),List.getElem?_eq_getElem _⟩
    have HXP:Hid (isP x.p=true):=HI.out x (List.mem_of_getElem? hx)
    obtain ⟨gb,gf,rfl⟩:=H.out.some hx
    obtain ⟨hgl,x0,x1,x2,x3,x4,x5,x6⟩:=(H.out.below (trans2 HB2.out HB.out)).cells hx
    have HTK:Hid (parT (T.take (q+1)) 3 p=parT (T.take q) 3 p ++ (if covers 3 p 1 x.p=true then [snN 3 x] else [])):=parT_snoc 3 p hx
    have HLL:Hid ((parT (T.take q) 3 p).length≤64):=by
     show _≤_
     refine Nat.le_trans (parT_len _ _ _) ?_
     rw [List.length_take]
     omega
    obtain ⟨U,hU⟩:∃ U,parT (T.take q) 3 p=U:=⟨_,rfl⟩
    rw [hU] at HO HTK HLL
    have hs1:=HB.out.size
    clear hx hU
    obtain ⟨b,hbd⟩:∃ b,belB p x.p=b:=⟨_,rfl⟩
    obtain ⟨d,hkd⟩:∃ d,kidB x.p p=d:=⟨_,rfl⟩
    have HBD:Hid (belB p x.p=b):=hbd
    have HKD:Hid (kidB x.p p=d):=hkd
    have HBE:Hid (∀ W,Calls Tryz.prog 50 #[.string x.p,.string p] W fun e w'=>e=.returned (.bool b)∧Below W.heap.size W w'):=fun W=>by
     have:=refBelow_any (text:=x.p) (above:=p) rfl rfl W
     rw [← hbd]
     exact this
    have HKI:Hid (∀ W,Calls Tryz.prog 51 #[.string x.p,.string p] W fun e w'=>e=.returned (.bool d)∧Below W.heap.size W w'):=fun W=>by
     have:=refKid_any x.p p W
     rw [hkd] at this
     exact this
    clear hbd hkd
    go_upto_region 15 with fail
    obtain ⟨w4,hw4⟩:∃ y,wr.alloc (.cells #[.string x.p,.string x.d,.int .i64 x.v,.int .i64 x.m,.int .i64 x.c,.int .i64 x.o,.int .i64 x.k] 26)=y:=⟨_,rfl⟩
    obtain ⟨nb,hnb⟩:∃ y,wr.heap.size=y:=⟨_,rfl⟩
    have hb4:Below wr.heap.size wr w4:=by rw [← hw4];exact (Below.refl _ _).alloc (Nat.le_refl _) _
    have HX4:Hid (w4.heap[nb]? = some (.cells #[.string x.p,.string x.d,.int .i64 x.v,.int .i64 x.m,.int .i64 x.c,.int .i64 x.o,.int .i64 x.k] 26 (0,0))):=by rw [← hw4,← hnb];exact heap_alloc_new _ _
    have HO4:Hid (w4.ownsRow w2.heap.size 117 3 u9 U.length (U.flatMap SnT.cs)):=owns_chg HO.out (Chg.of_below hb4 (fun _=>False)) (fun _ _=>id)
    have HB4:Hid (Below w2.heap.size w2 w4):=trans2 HB.out hb4
    rw [hw4,hnb]
    clear hw4 hnb hb4 x0 x1 x2 x3 x4 x5 x6 t0
    obtain ⟨n0,n1,n2,n3,n4,n5,n6⟩:=cells_7 HX4.out
    go_wp2_with fail
    refine Calls.mono (HBE.out _) ?_
    rintro e w5 ⟨rfl,hb5⟩
    have HX5:Hid _:=kept_block hb5 HX4.out
    have HO5:Hid (w5.ownsRow w2.heap.size 117 3 u9 U.length (U.flatMap SnT.cs)):=owns_chg HO4.out (Chg.of_below hb5 (fun _=>False)) (fun _ _=>id)
    have HB5:Hid (Below w2.heap.size w2 w5):=trans2 HB4.out hb5
    clear hb5 n0 n1 n2 n3 n4 n5 n6
    obtain ⟨n0,n1,n2,n3,n4,n5,n6⟩:=cells_7 HX5.out
    go_wp2_with fail
    refine Calls.mono (HKI.out _) ?_
    rintro e w6 ⟨rfl,hb6⟩
    have HX6:Hid _:=kept_block hb6 HX5.out
    have HO6:Hid (w6.ownsRow w2.heap.size 117 3 u9 U.length (U.flatMap SnT.cs)):=owns_chg HO5.out (Chg.of_below hb6 (fun _=>False)) (fun _ _=>id)
    have HB6:Hid (Below w2.heap.size w2 w6):=trans2 HB5.out hb6
    have hs6:=HB6.out.size
    clear hb6 n0 n1 n2 n3 n4 n5 n6
    obtain ⟨n0,n1,n2,n3,n4,n5,n6⟩:=cells_7 HX6.out
    by_cases hE:x.p=p
    · have eE:(x.p.toList==p.toList)=true:=by rw [hE];simp
      clear hE
      cases b with
      | false =>
        cases d with
        | false =>
          have HCV:Hid (covers 3 p 1 x.p=true):=(cov_val HP.out HXP.out (show eqB x.p p=true from eE) HKD.out HBD.out).trans rfl
          go_wp2_with (first
           | (at_builtin;refine wpList_append_lies _ rfl _ _ _ rfl w2.heap.size 117 i0 _ 3 40 Tryz.underlying82 hi0 hz0 hz1 hz2 rfl (by omega) u9 U.length (U.flatMap SnT.cs) rfl (World.ownsRow.alloc HO6.out _) ⟨w6.heap.size,0,none⟩ 1 1 [.string x.p,.string x.d,.int .i64 x.v] rfl rfl (World.news_of_block (cs:=#[.string x.p,.string x.d,.int .i64 x.v]) (t:=117) (fr:=(0,0)) (heap_alloc_new w6 _)) (by simp [Value.oneCell']) (by have:=HLL.out;omega) (by have:=HLL.out;unfold maxLen;omega) (by have:=HLL.out;omega) (by simp;omega) (w6.heap.size+1) (by simp) ?_
              intro g4 cap4 w7 hown4 hgrow4 hat4 hlt4
              have HN4:Hid (w7.ownsRow w2.heap.size 117 3 (.slice (some ⟨g4,0,none⟩) (U.length+1) cap4) (U.length+1) (U.flatMap SnT.cs ++ [.string x.p,.string x.d,.int .i64 x.v])):=hown4
              have HB7:Hid (Below w2.heap.size w2 w7):=HB6.out.trans (((Below.refl _ _).alloc (by omega) _).grown hgrow4 (by simp;omega) (fun j hj=>(HO6.out.lt j hj).1))
              have HX7:Hid (w7.heap[nb]? = some (.cells #[.string x.p,.string x.d,.int .i64 x.v,.int .i64 x.m,.int .i64 x.c,.int .i64 x.o,.int .i64 x.k] 26 (0,0))):=by
               refine (((Chg.alloc w6 _ _).trans (Chg.grown hgrow4)).block nb (Array.getElem?_eq_some_iff.1 HX6.out).1 (fun e9=>?_)).trans HX6.out
               obtain ⟨cur9,h9⟩:=owns_kind HO6.out e9
               rw [HX6.out] at h9
               simp at h9
              obtain ⟨m0,m1,m2,m3,m4,m5,m6⟩:=cells_7 HX7.out
              clear hown4 hgrow4 hat4 hlt4 n0 n1 n2 n3 n4 n5 n6)
           | fail)
          go_roundw
          case rel =>
           refine ⟨q+1,by go_num,by omega,?_,HB7.out⟩
           show World.ownsRow _ _ _ _ _ _ _
           rw [HTK.out,if_pos HCV.out,List.flatMap_append,List.length_append]
           have h9:=HN4.out
           simpa [snN,sd,sv] using h9
          case measure=>simp [intOf];omega
        | true =>
          have HCV:Hid (covers 3 p 1 x.p=true):=(cov_val HP.out HXP.out (show eqB x.p p=true from eE) HKD.out HBD.out).trans rfl
          go_wp2_with (first
           | (at_builtin;refine wpList_append_lies _ rfl _ _ _ rfl w2.heap.size 117 i0 _ 3 40 Tryz.underlying82 hi0 hz0 hz1 hz2 rfl (by omega) u9 U.length (U.flatMap SnT.cs) rfl (World.ownsRow.alloc HO6.out _) ⟨w6.heap.size,0,none⟩ 1 1 [.string x.p,.string x.d,.int .i64 x.v] rfl rfl (World.news_of_block (cs:=#[.string x.p,.string x.d,.int .i64 x.v]) (t:=117) (fr:=(0,0)) (heap_alloc_new w6 _)) (by simp [Value.oneCell']) (by have:=HLL.out;omega) (by have:=HLL.out;unfold maxLen;omega) (by have:=HLL.out;omega) (by simp;omega) (w6.heap.size+1) (by simp) ?_
              intro g4 cap4 w7 hown4 hgrow4 hat4 hlt4
              have HN4:Hid (w7.ownsRow w2.heap.size 117 3 (.slice (some ⟨g4,0,none⟩) (U.length+1) cap4) (U.length+1) (U.flatMap SnT.cs ++ [.string x.p,.string x.d,.int .i64 x.v])):=hown4
              have HB7:Hid (Below w2.heap.size w2 w7):=HB6.out.trans (((Below.refl _ _).alloc (by omega) _).grown hgrow4 (by simp;omega) (fun j hj=>(HO6.out.lt j hj).1))
              have HX7:Hid (w7.heap[nb]? = some (.cells #[.string x.p,.string x.d,.int .i64 x.v,.int .i64 x.m,.int .i64 x.c,.int .i64 x.o,.int .i64 x.k] 26 (0,0))):=by
               refine (((Chg.alloc w6 _ _).trans (Chg.grown hgrow4)).block nb (Array.getElem?_eq_some_iff.1 HX6.out).1 (fun e9=>?_)).trans HX6.out
               obtain ⟨cur9,h9⟩:=owns_kind HO6.out e9
               rw [HX6.out] at h9
               simp at h9
              obtain ⟨m0,m1,m2,m3,m4,m5,m6⟩:=cells_7 HX7.out
              clear hown4 hgrow4 hat4 hlt4 n0 n1 n2 n3 n4 n5 n6)
           | fail)
          go_roundw
          case rel =>
           refine ⟨q+1,by go_num,by omega,?_,HB7.out⟩
           show World.ownsRow _ _ _ _ _ _ _
           rw [HTK.out,if_pos HCV.out,List.flatMap_append,List.length_append]
           have h9:=HN4.out
           simpa [snN,sd,sv] using h9
          case measure=>simp [intOf];omega
      | true =>
        cases d with
        | false =>
          have HCV:Hid (covers 3 p 1 x.p=true):=(cov_val HP.out HXP.out (show eqB x.p p=true from eE) HKD.out HBD.out).trans rfl
          go_wp2_with (first
           | (at_builtin;refine wpList_append_lies _ rfl _ _ _ rfl w2.heap.size 117 i0 _ 3 40 Tryz.underlying82 hi0 hz0 hz1 hz2 rfl (by omega) u9 U.length (U.flatMap SnT.cs) rfl (World.ownsRow.alloc HO6.out _) ⟨w6.heap.size,0,none⟩ 1 1 [.string x.p,.string x.d,.int .i64 x.v] rfl rfl (World.news_of_block (cs:=#[.string x.p,.string x.d,.int .i64 x.v]) (t:=117) (fr:=(0,0)) (heap_alloc_new w6 _)) (by simp [Value.oneCell']) (by have:=HLL.out;omega) (by have:=HLL.out;unfold maxLen;omega) (by have:=HLL.out;omega) (by simp;omega) (w6.heap.size+1) (by simp) ?_
              intro g4 cap4 w7 hown4 hgrow4 hat4 hlt4
              have HN4:Hid (w7.ownsRow w2.heap.size 117 3 (.slice (some ⟨g4,0,none⟩) (U.length+1) cap4) (U.length+1) (U.flatMap SnT.cs ++ [.string x.p,.string x.d,.int .i64 x.v])):=hown4
              have HB7:Hid (Below w2.heap.size w2 w7):=HB6.out.trans (((Below.refl _ _).alloc (by omega) _).grown hgrow4 (by simp;omega) (fun j hj=>(HO6.out.lt j hj).1))
              have HX7:Hid (w7.heap[nb]? = some (.cells #[.string x.p,.string x.d,.int .i64 x.v,.int .i64 x.m,.int .i64 x.c,.int .i64 x.o,.int .i64 x.k] 26 (0,0))):=by
               refine (((Chg.alloc w6 _ _).trans (Chg.grown hgrow4)).block nb (Array.getElem?_eq_some_iff.1 HX6.out).1 (fun e9=>?_)).trans HX6.out
               obtain ⟨cur9,h9⟩:=owns_kind HO6.out e9
               rw [HX6.out] at h9
               simp at h9
              obtain ⟨m0,m1,m2,m3,m4,m5,m6⟩:=cells_7 HX7.out
              clear hown4 hgrow4 hat4 hlt4 n0 n1 n2 n3 n4 n5 n6)
           | fail)
          go_roundw
          case rel =>
           refine ⟨q+1,by go_num,by omega,?_,HB7.out⟩
           show World.ownsRow _ _ _ _ _ _ _
           rw [HTK.out,if_pos HCV.out,List.flatMap_append,List.length_append]
           have h9:=HN4.out
           simpa [snN,sd,sv] using h9
          case measure=>simp [intOf];omega
        | true =>
          have HCV:Hid (covers 3 p 1 x.p=true):=(cov_val HP.out HXP.out (show eqB x.p p=true from eE) HKD.out HBD.out).trans rfl
          go_wp2_with (first
           | (at_builtin;refine wpList_append_lies _ rfl _ _ _ rfl w2.heap.size 117 i0 _ 3 40 Tryz.underlying82 hi0 hz0 hz1 hz2 rfl (by omega) u9 U.length (U.flatMap SnT.cs) rfl (World.ownsRow.alloc HO6.out _) ⟨w6.heap.size,0,none⟩ 1 1 [.string x.p,.string x.d,.int .i64 x.v] rfl rfl (World.news_of_block (cs:=#[.string x.p,.string x.d,.int .i64 x.v]) (t:=117) (fr:=(0,0)) (heap_alloc_new w6 _)) (by simp [Value.oneCell']) (by have:=HLL.out;omega) (by have:=HLL.out;unfold maxLen;omega) (by have:=HLL.out;omega) (by simp;omega) (w6.heap.size+1) (by simp) ?_
              intro g4 cap4 w7 hown4 hgrow4 hat4 hlt4
              have HN4:Hid (w7.ownsRow w2.heap.size 117 3 (.slice (some ⟨g4,0,none⟩) (U.length+1) cap4) (U.length+1) (U.flatMap SnT.cs ++ [.string x.p,.string x.d,.int .i64 x.v])):=hown4
              have HB7:Hid (Below w2.heap.size w2 w7):=HB6.out.trans (((Below.refl _ _).alloc (by omega) _).grown hgrow4 (by simp;omega) (fun j hj=>(HO6.out.lt j hj).1))
              have HX7:Hid (w7.heap[nb]? = some (.cells #[.string x.p,.string x.d,.int .i64 x.v,.int .i64 x.m,.int .i64 x.c,.int .i64 x.o,.int .i64 x.k] 26 (0,0))):=by
               refine (((Chg.alloc w6 _ _).trans (Chg.grown hgrow4)).block nb (Array.getElem?_eq_some_iff.1 HX6.out).1 (fun e9=>?_)).trans HX6.out
               obtain ⟨cur9,h9⟩:=owns_kind HO6.out e9
               rw [HX6.out] at h9
               simp at h9
              obtain ⟨m0,m1,m2,m3,m4,m5,m6⟩:=cells_7 HX7.out
              clear hown4 hgrow4 hat4 hlt4 n0 n1 n2 n3 n4 n5 n6)
           | fail)
          go_roundw
          case rel =>
           refine ⟨q+1,by go_num,by omega,?_,HB7.out⟩
           show World.ownsRow _ _ _ _ _ _ _
           rw [HTK.out,if_pos HCV.out,List.flatMap_append,List.length_append]
           have h9:=HN4.out
           simpa [snN,sd,sv] using h9
          case measure=>simp [intOf];omega
    · have eE:(x.p.toList==p.toList)=false:=beq_ne hE
      clear hE
      cases b with
      | false =>
        cases d with
        | false =>
          have HCV:Hid (covers 3 p 1 x.p=false):=(cov_val HP.out HXP.out (show eqB x.p p=false from eE) HKD.out HBD.out).trans rfl
          go_wp2_with fail
          go_roundw
          case rel =>
           refine ⟨q+1,by go_num,by omega,?_,HB6.out⟩
           show World.ownsRow _ _ _ _ _ _ _
           rw [HTK.out,if_neg (by rw [HCV.out];simp),List.append_nil]
           exact HO6.out
          case measure=>simp [intOf];omega
        | true =>
          have HCV:Hid (covers 3 p 1 x.p=false):=(cov_val HP.out HXP.out (show eqB x.p p=false from eE) HKD.out HBD.out).trans rfl
          go_wp2_with fail
          go_roundw
          case rel =>
           refine ⟨q+1,by go_num,by omega,?_,HB6.out⟩
           show World.ownsRow _ _ _ _ _ _ _
           rw [HTK.out,if_neg (by rw [HCV.out];simp),List.append_nil]
           exact HO6.out
          case measure=>simp [intOf];omega
      | true =>
        cases d with
        | false =>
          have HCV:Hid (covers 3 p 1 x.p=true):=(cov_val HP.out HXP.out (show eqB x.p p=false from eE) HKD.out HBD.out).trans rfl
          go_wp2_with (first
           | (at_builtin;refine wpList_append_lies _ rfl _ _ _ rfl w2.heap.size 117 i0 _ 3 40 Tryz.underlying82 hi0 hz0 hz1 hz2 rfl (by omega) u9 U.length (U.flatMap SnT.cs) rfl (World.ownsRow.alloc HO6.out _) ⟨w6.heap.size,0,none⟩ 1 1 [.string x.p,.string x.d,.int .i64 x.v] rfl rfl (World.news_of_block (cs:=#[.string x.p,.string x.d,.int .i64 x.v]) (t:=117) (fr:=(0,0)) (heap_alloc_new w6 _)) (by simp [Value.oneCell']) (by have:=HLL.out;omega) (by have:=HLL.out;unfold maxLen;omega) (by have:=HLL.out;omega) (by simp;omega) (w6.heap.size+1) (by simp) ?_
              intro g4 cap4 w7 hown4 hgrow4 hat4 hlt4
              have HN4:Hid (w7.ownsRow w2.heap.size 117 3 (.slice (some ⟨g4,0,none⟩) (U.length+1) cap4) (U.length+1) (U.flatMap SnT.cs ++ [.string x.p,.string x.d,.int .i64 x.v])):=hown4
              have HB7:Hid (Below w2.heap.size w2 w7):=HB6.out.trans (((Below.refl _ _).alloc (by omega) _).grown hgrow4 (by simp;omega) (fun j hj=>(HO6.out.lt j hj).1))
              have HX7:Hid (w7.heap[nb]? = some (.cells #[.string x.p,.string x.d,.int .i64 x.v,.int .i64 x.m,.int .i64 x.c,.int .i64 x.o,.int .i64 x.k] 26 (0,0))):=by
               refine (((Chg.alloc w6 _ _).trans (Chg.grown hgrow4)).block nb (Array.getElem?_eq_some_iff.1 HX6.out).1 (fun e9=>?_)).trans HX6.out
               obtain ⟨cur9,h9⟩:=owns_kind HO6.out e9
               rw [HX6.out] at h9
               simp at h9
              obtain ⟨m0,m1,m2,m3,m4,m5,m6⟩:=cells_7 HX7.out
              clear hown4 hgrow4 hat4 hlt4 n0 n1 n2 n3 n4 n5 n6)
           | fail)
          go_roundw
          case rel =>
           refine ⟨q+1,by go_num,by omega,?_,HB7.out⟩
           show World.ownsRow _ _ _ _ _ _ _
           rw [HTK.out,if_pos HCV.out,List.flatMap_append,List.length_append]
           have h9:=HN4.out
           simpa [snN,sd,sv] using h9
          case measure=>simp [intOf];omega
        | true =>
          have HCV:Hid (covers 3 p 1 x.p=true):=(cov_val HP.out HXP.out (show eqB x.p p=false from eE) HKD.out HBD.out).trans rfl
          go_wp2_with (first
           | (at_builtin;refine wpList_append_lies _ rfl _ _ _ rfl w2.heap.size 117 i0 _ 3 40 Tryz.underlying82 hi0 hz0 hz1 hz2 rfl (by omega) u9 U.length (U.flatMap SnT.cs) rfl (World.ownsRow.alloc HO6.out _) ⟨w6.heap.size,0,none⟩ 1 1 [.string x.p,.string x.d,.int .i64 x.v] rfl rfl (World.news_of_block (cs:=#[.string x.p,.string x.d,.int .i64 x.v]) (t:=117) (fr:=(0,0)) (heap_alloc_new w6 _)) (by simp [Value.oneCell']) (by have:=HLL.out;omega) (by have:=HLL.out;unfold maxLen;omega) (by have:=HLL.out;omega) (by simp;omega) (w6.heap.size+1) (by simp) ?_
              intro g4 cap4 w7 hown4 hgrow4 hat4 hlt4
              have HN4:Hid (w7.ownsRow w2.heap.size 117 3 (.slice (some ⟨g4,0,none⟩) (U.length+1) cap4) (U.length+1) (U.flatMap SnT.cs ++ [.string x.p,.string x.d,.int .i64 x.v])):=hown4
              have HB7:Hid (Below w2.heap.size w2 w7):=HB6.out.trans (((Below.refl _ _).alloc (by omega) _).grown hgrow4 (by simp;omega) (fun j hj=>(HO6.out.lt j hj).1))
              have HX7:Hid (w7.heap[nb]? = some (.cells #[.string x.p,.string x.d,.int .i64 x.v,.int .i64 x.m,.int .i64 x.c,.int .i64 x.o,.int .i64 x.k] 26 (0,0))):=by
               refine (((Chg.alloc w6 _ _).trans (Chg.grown hgrow4)).block nb (Array.getElem?_eq_some_iff.1 HX6.out).1 (fun e9=>?_)).trans HX6.out
               obtain ⟨cur9,h9⟩:=owns_kind HO6.out e9
               rw [HX6.out] at h9
               simp at h9
              obtain ⟨m0,m1,m2,m3,m4,m5,m6⟩:=cells_7 HX7.out
              clear hown4 hgrow4 hat4 hlt4 n0 n1 n2 n3 n4 n5 n6)
           | fail)
          go_roundw
          case rel =>
           refine ⟨q+1,by go_num,by omega,?_,HB7.out⟩
           show World.ownsRow _ _ _ _ _ _ _
           rw [HTK.out,if_pos HCV.out,List.flatMap_append,List.length_append]
           have h9:=HN4.out
           simpa [snN,sd,sv] using h9
          case measure=>simp [intOf];omega
  · obtain rfl:q=N:=by omega
    have hO:=HO.out
    rw [List.take_of_length_le (by rw [HN.out];exact Nat.le_refl _)] at hO
    have HOF:Hid _:=hO
    clear hO
    go_wp2_with fail
    go_ret2
    exact ⟨_,rfl,⟨HOF.out.1,HOF.out.2.imp id (fun ⟨g,cap,cur,h1,h2,r⟩=>⟨g,cap,cur,h1,Nat.le_trans HB2.out.size h2,r⟩)⟩,trans2 HB2.out HB.out⟩
end Go.Proofs.YtckmihplkhmpnaaGreatDoor
namespace Go.Proofs.YtckmihplkhmpnaaGreatDoor
open Go.RowKit Go.Maps Go.WideShapes
set_option linter.unusedVariables false
set_option linter.unusedSimpArgs false
def partM (T:List Nd) (k:Int) (p:ByteArray):Int × List SnT:=if (parse p).1≠0 then (10,[]) else if k<1∨3<k then (1,[]) else (0,parT T k p)
theorem partM_len (T:List Nd) (k:Int) (p:ByteArray):(partM T k p).2.length≤T.length:=by
 unfold partM
 split
 · exact Nat.zero_le _
 · split
   · exact Nat.zero_le _
   · exact parT_len _ _ _
theorem partT_all (B tb q:Nat) (T:List Nd) (k:Int) (p:ByteArray) (w:World) (hg:Ground w) (h:TrAt w B tb q T) :
  Calls Tryz.prog 30 #[.pointer (some ⟨tb,0,none⟩),.string p,.int .i64 k] w fun e w'=>∃ a cap,e=.returned (.tuple #[.slice a (partM T k p).2.length cap,.int .i64 (partM T k p).1])∧w'.ownsRow w.heap.size 117 3 (.slice a (partM T k p).2.length cap) (partM T k p).2.length ((partM T k p).2.flatMap SnT.cs)∧Below w.heap.size w w':=by
 unfold partM
 by_cases hp:(parse p).1=0
 · rw [if_neg (by simpa using hp)]
   by_cases hk:k<1∨3<k
   · rw [if_pos hk]
     refine Calls.mono (part_arg B tb q T k p w hg h hp hk) ?_
     rintro e w' ⟨rfl,hb⟩
     exact ⟨none,0,rfl,World.ownsRow_nil _ _ _ _,hb⟩
   · rw [if_neg hk]
     exact part_tr B tb q T k p w hg h hp (by omega)
 · rw [if_pos hp]
   refine Calls.mono (part_bad B tb q T k p w hg h hp) ?_
   rintro e w' ⟨rfl,hb⟩
   exact ⟨none,0,rfl,World.ownsRow_nil _ _ _ _,hb⟩
theorem refPart_all (a:Option Addr) (c:Nat) (T:List Nd) (k:Int) (p:ByteArray) (w:World) (h:NdsAt w a T) (hS:Snd T) :
  Calls Tryz.prog 29 #[rtV a T.length c,.string p,.int .i64 k] w fun e w'=>∃ v,e=.returned (.tuple #[v,.int .i64 (partM T k p).1])∧w'.ownsRow w.heap.size 117 3 v (partM T k p).2.length ((partM T k p).2.flatMap SnT.cs)∧Below w.heap.size w w':=by
 have h0:0<T.length:=List.length_pos_iff.2 hS.ne
 have hi:∀ x∈T,isP x.p=true:=fun x hx=>by simpa [isP] using (hS.inv.nd x hx).1
 have h64:=hS.inv.len
 unfold partM
 by_cases hp:(parse p).1=0
 · have hp':isP p=true:=by simpa [isP] using hp
   rw [if_neg (by simpa using hp)]
   by_cases hk:k<1∨3<k
   · rw [if_pos hk]
     refine Calls.mono (refPart_arg a T.length c p k w h0 hp' hk) ?_
     rintro e w' ⟨rfl,hb⟩
     exact ⟨_,rfl,World.ownsRow_nil _ _ _ _,hb⟩
   · rw [if_neg hk]
     show Calls _ _ _ _ (PartE w (parT T k p))
     cases hf:fnd T p with
     | none =>
       rw [part_none hS hp hf k]
       exact refPart_gone a c T p k w h h64 hp' (by omega) (by rw [fndI_none (fnd_none hf)];decide) h0
     | some u =>
       obtain ⟨i,hi',_⟩:=fndI_fnd hf
       have hfi:0≤fndI T p:=by rw [hi'];omega
       rcases (show k=1∨k=2∨k=3 by omega) with rfl | rfl | rfl
       · exact refPart_1 a c T p w h h64 hp' hfi hi h0
       · exact refPart_2 a c T p w h h64 hp' hfi hi h0
       · exact refPart_3 a c T p w h h64 hp' hfi hi h0
 · have hp':isP p=false:=by simpa [isP] using hp
   rw [if_pos hp]
   refine Calls.mono (refPart_bad a T.length c p k w h0 hp') ?_
   rintro e w' ⟨rfl,hb⟩
   exact ⟨_,rfl,World.ownsRow_nil _ _ _ _,hb⟩
set_option maxHeartbeats 3200000 in
set_option maxRecDepth 100000 in
theorem ply_part (W w:World) (db tb q:Nat) (dv:Value) (a:Option Addr) (c:Nat) (T:List Nd) (h:Sit W w db tb q dv a T) (hg:GroundT W) (s st nn:Int) (oa:Option Addr) (n oc:Nat) (pl:ByteArray) :
  Calls Tryz.prog 12 #[.pointer (some ⟨tb,0,none⟩),rtV a T.length c,.agg (stCs 3 s st oa n oc pl nn),.pointer (some ⟨db,0,none⟩)] w (PlE W w db tb q dv T):=by
 have h64:T.length≤64:=h.tr.snd.inv.len
 have hpl:=partM_len T nn pl
 have HPT:Hid (∀ w',Below w.heap.size w w'→_):=fun w' hb=>partT_all W.heap.size tb q T nn pl w' (hg.below (trans2 h.low hb)).toGround (h.tr.below hb)
 have HRP:Hid (∀ w',Below w.heap.size w w'→_):=fun w' hb=>refPart_all a c T nn pl w' (h.nds.below hb) h.tr.snd
 obtain ⟨N,hN⟩:∃ N,T.length=N:=⟨_,rfl⟩
 have HN:Hid (T.length=N):=hN
 have H:Hid _:=h
 obtain ⟨PM,hPM⟩:∃ PM,partM T nn pl=PM:=⟨_,rfl⟩
 rw [hPM] at HPT HRP hpl
 obtain ⟨pc,PL⟩:=PM
 obtain ⟨PN,hPN⟩:∃ PN,PL.length=PN:=⟨_,rfl⟩
 have HPN:Hid (PL.length=PN):=hPN
 have HSE:Hid (∀ (w':World) (B1 B2:Nat) (va vb:Value),w'.ownsRow B1 117 3 va PN (PL.flatMap SnT.cs)→w'.ownsRow B2 117 3 vb PN (PL.flatMap SnT.cs)→Calls Tryz.prog 31 #[va,vb] w' fun e w''=>e=.returned (.bool true)∧Below w'.heap.size w' w''):=fun w' B1 B2 va vb h1 h2=>seenT_any B1 B2 va vb PL w' (by rw [hPN];exact h1) (by rw [hPN];exact h2) (by have:PL.length≤T.length:=hpl;omega)
 rw [hN] at HRP ⊢
 simp only [hPN] at HPT HRP
 clear hN h hPM hPN hpl
 have HS:Hid _:=plI_start w (.slice a N c) (stCs 3 s st oa n oc pl nn)
 go_enter Tryz.func12,Tryz.ntmps12
 go_wp2_with fail
 refine Calls.mono (HRP.out _ HS.out.low) ?_
 rintro e w1 ⟨v1,rfl,hr1,hb1⟩
 have H1:Hid (PlI w w1 (.slice a N c) (stCs 3 s st oa n oc pl nn)):=HS.out.below hb1
 have HR1:Hid _:=hr1
 obtain ⟨s0,s1,s2,s3,s4,s5⟩:=cells_6 H1.out.sp
 clear hb1 hr1
 go_wp2_with fail
 refine Calls.mono (HPT.out _ H1.out.low) ?_
 rintro e w2 ⟨pa,pcap,rfl,hr2,hb2⟩
 have H2:Hid (PlI w w2 (.slice a N c) (stCs 3 s st oa n oc pl nn)):=H1.out.below hb2
 have HR2:Hid _:=owns_chg HR1.out (Chg.of_below hb2 (fun _=>False)) (fun _ _=>id)
 have HQ2:Hid _:=hr2
 have r0:=cells_1 H2.out.tr
 have r1:=cells_1 H2.out.rs
 have f1:=free_1 H2.out.rs
 clear hb2 hr2 s0 s1 s2 s3 s4 s5
 go_wp2_with fail
 go_region_held3 (fun w'=>w'.cell? ⟨w.heap.size,0,none⟩=some (.slice a N c)) (first | go_keep | exact q0 | (rw [cellN (by omega)];exact q0))
  (first
  | (go_at_call 6;go_in)
  | (go_at_call 31;refine Calls.mono (HSE.out _ _ _ _ _ (owns_chg HQ2.out (Chg.of_below (below_drew0 _) (fun _=>False)) (fun _ _=>id)) (owns_chg HR2.out (Chg.of_below (below_drew0 _) (fun _=>False)) (fun _ _=>id))) ?_;rintro e w3 ⟨rfl,hb3⟩
     have H3:Hid (PlI w w3 (.slice a N c) (stCs 3 s st oa n oc pl nn)):=H2.out.below (of_drew hb3)
     have q0:=cells_1 H3.out.tr
     have q1:=cells_1 H3.out.rs
     have g1:=free_1 H3.out.rs
     clear hb3)
  | fail)
 go_wp2_with fail
 exact bodyPost_ret (results_tmp_cell_tmp rfl _ _ (w.heap.size+1+1) 29 #[.slice a N c] (0,0) _ (.pointer (some ⟨tb,0,none⟩)) (.bool true) rfl rfl rfl (same_blk H3.out.rs rfl) Tryz.underlying29 rfl (by kernel_rfl)) rfl (PlE.low H.out c HN.out (H3.out.low.setCell (by simp;omega) _))
end Go.Proofs.YtckmihplkhmpnaaGreatDoor
