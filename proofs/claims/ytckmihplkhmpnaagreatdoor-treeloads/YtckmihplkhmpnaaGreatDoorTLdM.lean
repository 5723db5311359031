import Derived.Test.YtckmihplkhmpnaaGreatDoorTRng
import Derived.Deep.RegionHeld3
import Derived.Test.YtckmihplkhmpnaaGreatDoorTUntouched
import Derived.BigQuiet
import Derived.Deep.QuietTactic
import Derived.Test.YtckmihplkhmpnaaGreatDoorTPart
namespace Go.Proofs.YtckmihplkhmpnaaGreatDoor
open Go.RowKit Go.Maps Go.WideShapes
set_option linter.unusedVariables false
set_option linter.unusedSimpArgs false
attribute [local go_sem ↓] Go.wp_at_zero Go.wp_at_succ
end Go.Proofs.YtckmihplkhmpnaaGreatDoor
namespace Go.Proofs.YtckmihplkhmpnaaGreatDoor
open Go.RowKit Go.Maps Go.WideShapes
set_option linter.unusedVariables false
set_option linter.unusedSimpArgs false
attribute [local go_sem ↓] Go.wp_at_zero Go.wp_at_succ
theorem below_dN {B:Nat} {a w:World} (h:Below B a w) (n:Nat):Below B a (w.drewN n):=⟨h.os,h.tape,h.output,h.size,h.block⟩
theorem flat_at {α:Type} (f:α→List Value) (n:Nat) (hn:∀ x,(f x).length=n):∀ (l:List α) (q j:Nat) (x:α) (v:Value),l[q]? = some x→(f x)[j]? = some v→(l.flatMap f)[q * n+j]? = some v
 | [],q,j,x,v,h,_=>by simp at h
 | y :: r,0,j,x,v,h,hv=>by
   obtain rfl:y=x:=by simpa using h
   have hj:=(List.getElem?_eq_some_iff.1 hv).1
   rw [List.flatMap_cons,List.getElem?_append_left (by omega),Nat.zero_mul,Nat.zero_add]
   exact hv
 | y :: r,q+1,j,x,v,h,hv=>by
   rw [List.flatMap_cons,List.getElem?_append_right (by rw [hn,Nat.succ_mul];omega),hn,show (q+1) * n+j - n=q * n+j by rw [Nat.succ_mul];omega]
   exact flat_at f n hn r q j x v (by simpa using h) hv
theorem slice_of {w:World} {B e s n:Nat} {v:Value} {xs:List Value} (h:w.ownsRow B e s v n xs):∃ a c,v=.slice a n c:=by
 rcases h.2 with ⟨rfl,h0⟩ | ⟨g,cap,cur,rfl,_⟩
 · exact ⟨none,0,by rw [h0]⟩
 · exact ⟨_,_,rfl⟩
theorem nd_cell {w:World} {B g cap:Nat} {T:List Nd} (h:w.ownsRow B 27 7 (.slice (some ⟨g,0,none⟩) T.length cap) T.length (T.flatMap Nd.cs)) {q j:Nat} {x:Nd} {v:Value} (hx:T[q]? = some x) (hv:x.cs[j]? = some v):w.cell? ⟨g,q * 7+j,none⟩=some v :=
 cell_n h (flat_at Nd.cs 7 (fun _=>rfl) T q j x v hx hv)
theorem ch_cell {w:World} {B g cap:Nat} {C:List ChT} (h:w.ownsRow B 69 4 (.slice (some ⟨g,0,none⟩) C.length cap) C.length (chCs C)) {q j:Nat} {x:ChT} {v:Value} (hx:C[q]? = some x) (hv:x.cells[j]? = some v):w.cell? ⟨g,q * 4+j,none⟩=some v :=
 cell_n h (flat_at ChT.cells 4 (fun _=>rfl) C q j x v hx hv)
theorem finC_len (T:List Nd) (s:Int):(finC T s).length≤T.length:=by
 unfold finC
 split
 · exact Nat.zero_le _
 · unfold endC
   rw [List.length_map]
   exact List.length_filter_le _ _
end Go.Proofs.YtckmihplkhmpnaaGreatDoor
namespace Go.Proofs.YtckmihplkhmpnaaGreatDoor
open Go.RowKit Go.Maps Go.WideShapes
set_option linter.unusedVariables false
set_option linter.unusedSimpArgs false
attribute [local go_sem ↓] Go.wp_at_zero Go.wp_at_succ
theorem ordL_pre:∀ (s t:List UInt8),t≠[]→ordL s (s ++ t)=-1
 | [],[],h=>absurd rfl h
 | [],_ :: _,_=>rfl
 | x :: r,t,h=>by
   show ordL (x :: r) (x :: (r ++ t))=-1
   unfold ordL
   rw [if_pos rfl]
   exact ordL_pre r t h
theorem par_pre {p:ByteArray} (hp:(parse p).1=0) (hr:p≠pRt):∃ t,t≠[]∧p.data.toList=(parB p).data.toList ++ t:=by
 obtain ⟨xs,k,x,hx,hl,hk,_⟩:=names_of hp hr
 have hne:xs≠[]:=fun e=>by rw [e] at hl;simp at hl
 have hxs:xs=xs.take k ++ [x]:=by
  have:=List.take_add_one (l:=xs) (i:=k)
  rw [hk,← hl,List.take_length] at this
  exact this
 have ht:p.data.toList=flatN (xs.take k) ++ 47 :: x.data.toList:=by
  rw [← parse_back hx,placeB,if_neg hne,data_mk]
  conv=>lhs;rw [hxs]
  simp [flatN]
 have hx0:x.data.toList≠[]:=fun e=>by
  have hall:=(parse_len hx).2
  rw [List.all_eq_true] at hall
  have h9:=hall x (List.mem_of_getElem? hk)
  have:x.size=0:=by have h8:=congrArg List.length e;simpa using h8
  simp [isNm,this] at h9
 rw [par_of (x:=x) hx hl]
 by_cases h0:xs.take k=[]
 · refine ⟨x.data.toList,hx0,?_⟩
   rw [ht,h0,placeB,if_pos rfl,data_mk]
   rfl
 · refine ⟨47 :: x.data.toList,by simp,?_⟩
   rw [ht,placeB,if_neg h0,data_mk]
theorem par_less {p:ByteArray} (hp:(parse p).1=0) (hr:p≠pRt):O (parB p) p=-1:=by
 obtain ⟨t,h0,h1⟩:=par_pre hp hr
 rw [O_list,h1]
 exact ordL_pre _ _ h0
theorem root_less {p:ByteArray} (hp:(parse p).1=0) (hr:p≠pRt):O pRt p=-1:=by
 obtain ⟨xs,k,x,hx,hl,hk,_⟩:=names_of hp hr
 have hne:xs≠[]:=fun e=>by rw [e] at hl;simp at hl
 obtain ⟨y,r,rfl⟩:∃ y r,xs=y :: r:=by cases xs with | nil=>exact absurd rfl hne | cons y r=>exact ⟨y,r,rfl⟩
 have hy0:y.data.toList≠[]:=fun e=>by
  have hall:=(parse_len hx).2
  rw [List.all_eq_true] at hall
  have h9:=hall y List.mem_cons_self
  have:y.size=0:=by have h8:=congrArg List.length e;simpa using h8
  simp [isNm,this] at h9
 have ht:p.data.toList=[47] ++ (y.data.toList ++ flatN r):=by
  rw [← parse_back hx,placeB,if_neg hne,data_mk]
  simp [flatN]
 rw [O_list,ht]
 exact ordL_pre [47] _ (by simp [hy0])
theorem Snd.first {T:List Nd} (h:Snd T):∃ r,T[0]? = some r∧r.p=pRt∧r.o=0:=by
 obtain ⟨r,hr,hp,ho⟩:=h.root
 cases T with
 | nil=>cases hr
 | cons x U =>
   refine ⟨x,rfl,?_⟩
   rcases List.mem_cons.1 hr with rfl | hr
   · exact ⟨hp,ho⟩
   · exfalso
     have h1:=(List.pairwise_cons.1 h.inv.srt).1 r hr
     rw [hp] at h1
     by_cases hx:x.p=pRt
     · rw [hx,O_self] at h1
       cases h1
     · have h2:=root_less (h.inv.nd x List.mem_cons_self).1 hx
       rw [O_anti x.p pRt,h1] at h2
       cases h2
theorem Snd.above {T:List Nd} (h:Snd T) {i:Nat} {x:Nd} (hi:0<i) (hx:T[i]? = some x):x.p≠pRt∧∃ k u,k<i∧T[k]? = some u∧u.p=parB x.p∧u.o=0:=by
 have hil:=(List.getElem?_eq_some_iff.1 hx).1
 have hxm:=List.mem_of_getElem? hx
 obtain ⟨r,hr0,hrp,_⟩:=h.first
 have hlt:∀ {j k:Nat} {y z:Nd},T[j]? = some y→T[k]? = some z→j<k→O y.p z.p=-1:=fun {j k y z} hy hz hjk=>by
  obtain ⟨hj,e1⟩:=List.getElem?_eq_some_iff.1 hy
  obtain ⟨hk,e2⟩:=List.getElem?_eq_some_iff.1 hz
  have:=List.pairwise_iff_getElem.1 h.inv.srt j k hj hk hjk
  rw [e1,e2] at this
  exact this
 have hxr:x.p≠pRt:=fun e=>by
  have:=hlt hr0 hx hi
  rw [hrp,e,O_self] at this
  cases this
 refine ⟨hxr,?_⟩
 obtain ⟨u,hu,hup,huo⟩:=h.up x hxm hxr
 obtain ⟨k,hk⟩:=List.mem_iff_getElem?.1 hu
 refine ⟨k,u,?_,hk,hup,huo⟩
 have h1:=par_less (h.inv.nd x hxm).1 hxr
 rcases Nat.lt_trichotomy k i with hki | hki | hki
 · exact hki
 · subst hki
   rw [hx] at hk
   obtain rfl:=Option.some.inj hk
   rw [← hup,O_self] at h1
   cases h1
 · have h2:=hlt hx hk hki
   rw [hup] at h2
   rw [O_anti x.p (parB x.p),h2] at h1
   cases h1
theorem Snd.order {T:List Nd} (h:Snd T) {i:Nat} {x y:Nd} (hy:T[i]? = some y) (hx:T[i+1]? = some x):O y.p x.p=-1:=by
 obtain ⟨hj,e1⟩:=List.getElem?_eq_some_iff.1 hy
 obtain ⟨hk,e2⟩:=List.getElem?_eq_some_iff.1 hx
 have:=List.pairwise_iff_getElem.1 h.inv.srt i (i+1) hj hk (by omega)
 rw [e1,e2] at this
 exact this
theorem parC_zero {p:ByteArray} (hp:(parse p).1=0) (hr:p≠pRt):parC p=0:=by
 obtain ⟨xs,k,x,hx,hl,_,_⟩:=names_of hp hr
 unfold parC
 rw [hx,if_pos rfl,if_neg (fun e=>by rw [show xs=[] from e] at hl;simp at hl)]
end Go.Proofs.YtckmihplkhmpnaaGreatDoor
namespace Go.Proofs.YtckmihplkhmpnaaGreatDoor
open Go.RowKit Go.Maps Go.WideShapes
set_option linter.unusedVariables false
set_option linter.unusedSimpArgs false
attribute [local go_sem ↓] Go.wp_at_zero Go.wp_at_succ
set_option maxHeartbeats 3200000 in
set_option maxRecDepth 100000 in
theorem textsT_any (B1 B2:Nat) (va vb:Value) (xs:List ByteArray) (w:World) (h1:w.ownsRow B1 9 1 va xs.length (xs.map Value.string)) (h2:w.ownsRow B2 9 1 vb xs.length (xs.map Value.string)) (hl:xs.length≤1000) :
  Calls Tryz.prog 48 #[va,vb] w fun e w'=>e=.returned (.bool true)∧Below w.heap.size w w':=by
 obtain ⟨a,c,rfl⟩:=slice_of h1
 obtain ⟨b,d,rfl⟩:=slice_of h2
 have H1:Hid _:=h1
 have H2:Hid _:=h2
 obtain ⟨N,hN⟩:∃ N,xs.length=N:=⟨_,rfl⟩
 have HN:Hid (xs.length=N):=hN
 rw [hN] at H1 H2 hl ⊢
 clear h1 h2 hN
 go_enter Tryz.func48,Tryz.ntmps48
 go_wp2_with fail
 go_loopw [5] (fun i wr=>∃ q:Nat,i=.int .i64 q∧q≤N∧Hid (Below w.heap.size w wr)) (fun i _=>N - (intOf i).toNat)
 case atStart=>exact ⟨0,rfl,Nat.zero_le _,Below.refl _ _⟩
 case round =>
  obtain ⟨q,rfl,hq,HB⟩:=hrel
  by_cases hlt:q<N
  · have hlt':(q:Int)<(N:Int):=by omega
    obtain ⟨x,hx⟩:∃ x,xs[q]? = some x:=⟨xs[q]'(by rw [HN.out];exact hlt),List.getElem?_eq_getElem _⟩
    obtain ⟨g1,c1,e1⟩:=form_n H1.out (by omega)
    obtain ⟨g2,c2,e2⟩:=form_n H2.out (by omega)
    obtain ⟨rfl,rfl⟩:a=some ⟨g1,0,none⟩∧c=c1:=by simpa using e1
    obtain ⟨rfl,rfl⟩:b=some ⟨g2,0,none⟩∧d=c2:=by simpa using e2
    have l1:g1<w.heap.size:=(World.ownsRow.lt H1.out g1 rfl).2
    have l2:g2<w.heap.size:=(World.ownsRow.lt H2.out g2 rfl).2
    have k1:wr.cell? ⟨g1,q,none⟩=some (.string x):=by rw [HB.out.cell (p:=⟨g1,q,none⟩) l1];exact cell_n H1.out (by rw [List.getElem?_map,hx];rfl)
    have k2:wr.cell? ⟨g2,q,none⟩=some (.string x):=by rw [HB.out.cell (p:=⟨g2,q,none⟩) l2];exact cell_n H2.out (by rw [List.getElem?_map,hx];rfl)
    clear hx e1 e2
    go_upto_region 6 with fail
    go_quiet (fail)
    go_wp2_with fail
    go_roundw
    case rel=>exact ⟨q+1,by go_num,by omega,below_dN HB.out _⟩
    case measure=>simp [intOf];omega
  · obtain rfl:q=N:=by omega
    go_wp2_with fail
    go_ret
    exact ⟨rfl,HB.out⟩
theorem beq_ne {a b:ByteArray} (h:a≠b):(a.toList==b.toList)=false:=by
 cases hb:(a.toList==b.toList) with
 | false=>rfl
 | true =>
   exfalso
   have h1:a.toList=b.toList:=by simpa using hb
   rw [ByteArray.toList_eq,ByteArray.toList_eq] at h1
   exact h (ByteArray.ext (Array.ext' h1))
abbrev zN:Nd:=⟨⟨#[]⟩,⟨#[]⟩,0,0,0,0,0⟩
end Go.Proofs.YtckmihplkhmpnaaGreatDoor
namespace Go.Proofs.YtckmihplkhmpnaaGreatDoor
open Go.RowKit Go.Maps Go.WideShapes
set_option linter.unusedVariables false
set_option linter.unusedSimpArgs false
attribute [local go_sem ↓] Go.wp_at_zero Go.wp_at_succ
theorem NdR.nums {x:Nd} (h:NdR x) (hv:0≤x.v∧x.v≤2147483647):∀ (q:Nat) (y:Int),[x.v,x.m,x.c,x.o][q]? = some y→0≤y∧y≤2147483647:=fun q y hy=>by
 match q,hy with
 | 0,hy=>obtain rfl:x.v=y:=by simpa using hy
         exact hv
 | 1,hy=>obtain rfl:x.m=y:=by simpa using hy
         exact h.1
 | 2,hy=>obtain rfl:x.c=y:=by simpa using hy
         exact h.2.1
 | 3,hy=>obtain rfl:x.o=y:=by simpa using hy
         exact h.2.2.1
 | q+4,hy=>simp at hy
set_option maxHeartbeats 8000000 in
set_option maxRecDepth 100000 in
theorem mayHave_any (b n:Nat) (D:DataW Value) (x up:Nd) (th:Bool) (w:World) (hg:GroundT w) (hm:MapAt w b n D) (hx:NdR x) (hv:0≤x.v∧x.v≤2147483647) (hd:x.d.size≤64) (hk:0≤x.k∧x.k≤100000) (hp:(parse x.p).1=0) (hl:look D (parB x.p)=up.V) (hh:Maps.has D (ky (parB x.p))=th) (hr:(x.p=pRt∧x.o=0)∨(x.p≠pRt∧th=true∧up.o=0)) :
  Calls Tryz.prog 15 #[.map (some b),x.V] w fun e w'=>e=.returned (.bool true)∧Below w.heap.size w w':=by
 have HPM:Hid (∀ W,Below w.heap.size w W→_):=fun W hb=>parent_map b n D x.p up.p up.d up.v up.m up.c up.o up.k th W (hg.below hb) (map_below hm hb) (by have:=par_size hp;unfold maxLen;omega) hl hh
 have HIB:Hid (∀ (y:Nd) W,_):=fun y W=>fIsBrief_any y.p y.d y.v y.m y.c y.o y.k W
 have HX:Hid _:=hx
 have HV:Hid _:=hv
 have hd':¬ (64:Int)<(x.d.size:Int):=by omega
 have hk0:¬ x.k<0:=by omega
 have hk1:¬ (100000:Int)<x.k:=by omega
 clear hg hm hx hv hd hk hp hl hh
 go_enter Tryz.func15,Tryz.ntmps15
 go_upto_region 1 with fail
 obtain ⟨w1,hw1⟩:∃ y,w.alloc (.cells #[.string x.p,.string x.d,.int .i64 x.v,.int .i64 x.m,.int .i64 x.c,.int .i64 x.o,.int .i64 x.k] 27)=y:=⟨_,rfl⟩
 obtain ⟨nb,hnb⟩:∃ y,w.heap.size=y:=⟨_,rfl⟩
 have HB1:Hid (Below w.heap.size w w1):=by rw [← hw1];exact (Below.refl _ _).alloc (Nat.le_refl _) _
 have HN1:Hid (w1.heap[nb]? = some (.cells #[.string x.p,.string x.d,.int .i64 x.v,.int .i64 x.m,.int .i64 x.c,.int .i64 x.o,.int .i64 x.k] 27 (0,0))):=by rw [← hw1,← hnb];exact heap_alloc_new _ _
 rw [hw1,hnb]
 clear hw1 hnb
 obtain ⟨n0,n1,n2,n3,n4,n5,n6⟩:=cells_7 HN1.out
 go_wp2_with fail
 go_loopw [32] (fun i wr=>∃ q:Nat,i=.int .i64 q∧q≤4∧wr=w1) (fun i _=>4 - (intOf i).toNat)
 case atStart=>exact ⟨0,rfl,Nat.zero_le _,rfl⟩
 case round =>
  obtain ⟨q,rfl,hq,hwr⟩:=hrel
  have hwr':=hwr.symm
  subst hwr'
  by_cases hlt:q<4
  · have hnum:=NdR.nums HX.out HV.out
    rcases (show q=0∨q=1∨q=2∨q=3 by omega) with rfl | rfl | rfl | rfl
    · have r1:=(hnum 0 _ rfl).1
      have ix:∀ W,(Instr.index 95 (.agg #[.int .i64 x.v,.int .i64 x.m,.int .i64 x.c,.int .i64 x.o]) (.int .i64 0)).run Tryz.prog W=.ok (.int .i64 x.v) W:=fun _=>by kernel_rfl
      have r2:=(hnum 0 _ rfl).2
      have r3:¬ x.v<0:=by omega
      have r4:¬ (2147483647:Int)<x.v:=by omega
      clear hnum
      go_wp2_with fail
      go_roundw
      case rel=>exact ⟨1,rfl,by omega,by trivial⟩
      case measure=>simp [intOf]
    · have r1:=(hnum 1 _ rfl).1
      have ix:∀ W,(Instr.index 95 (.agg #[.int .i64 x.v,.int .i64 x.m,.int .i64 x.c,.int .i64 x.o]) (.int .i64 1)).run Tryz.prog W=.ok (.int .i64 x.m) W:=fun _=>by kernel_rfl
      have r2:=(hnum 1 _ rfl).2
      have r3:¬ x.m<0:=by omega
      have r4:¬ (2147483647:Int)<x.m:=by omega
      clear hnum
      go_wp2_with fail
      go_roundw
      case rel=>exact ⟨2,rfl,by omega,by trivial⟩
      case measure=>simp [intOf]
    · have r1:=(hnum 2 _ rfl).1
      have ix:∀ W,(Instr.index 95 (.agg #[.int .i64 x.v,.int .i64 x.m,.int .i64 x.c,.int .i64 x.o]) (.int .i64 2)).run Tryz.prog W=.ok (.int .i64 x.c) W:=fun _=>by kernel_rfl
      have r2:=(hnum 2 _ rfl).2
      have r3:¬ x.c<0:=by omega
      have r4:¬ (2147483647:Int)<x.c:=by omega
      clear hnum
      go_wp2_with fail
      go_roundw
      case rel=>exact ⟨3,rfl,by omega,by trivial⟩
      case measure=>simp [intOf]
    · have r1:=(hnum 3 _ rfl).1
      have ix:∀ W,(Instr.index 95 (.agg #[.int .i64 x.v,.int .i64 x.m,.int .i64 x.c,.int .i64 x.o]) (.int .i64 3)).run Tryz.prog W=.ok (.int .i64 x.o) W:=fun _=>by kernel_rfl
      have r2:=(hnum 3 _ rfl).2
      have r3:¬ x.o<0:=by omega
      have r4:¬ (2147483647:Int)<x.o:=by omega
      clear hnum
      go_wp2_with fail
      go_roundw
      case rel=>exact ⟨4,rfl,by omega,by trivial⟩
      case measure=>simp [intOf]
  · obtain rfl:q=4:=by omega
    go_wp2_with fail
    refine Calls.mono (HIB.out x w1) ?_
    rintro e w2 ⟨rfl,hb2⟩
    have HB2:Hid (Below w.heap.size w w2):=trans2 HB1.out hb2
    have HN2:Hid _:=kept_block hb2 HN1.out
    clear hb2 n0 n1 n2 n3 n4 n5 n6
    obtain ⟨n0,n1,n2,n3,n4,n5,n6⟩:=cells_7 HN2.out
    rcases hr with ⟨h1,h2⟩ | ⟨h1,h2,h3⟩
    · have e2:decide (x.o≠0)=false:=by simp [h2]
      have HP2:Hid (x.p=pRt):=h1
      rw [e2]
      rw [h1] at n0
      clear h1 h2 e2
      go_wp2_with fail
      refine Calls.mono (by have h9:=HPM.out w2 HB2.out;rw [HP2.out] at h9;exact h9) ?_
      rintro e w3 ⟨rfl,hb3⟩
      have HB3:Hid (Below w.heap.size w w3):=trans2 HB2.out hb3
      have HN3:Hid _:=kept_block hb3 HN2.out
      have hnl:nb<w3.heap.size:=(Array.getElem?_eq_some_iff.1 HN3.out).1
      clear hb3 n0 n1 n2 n3 n4 n5 n6
      obtain ⟨n0,n1,n2,n3,n4,n5,n6⟩:=cells_7 HN3.out
      rw [HP2.out] at n0
      go_wp2_with fail
      go_ret
      exact ⟨rfl,HB3.out.alloc HB3.out.size _⟩
    · have hc:(x.p.toList==pRt.toList)=false:=beq_ne h1
      have hc2:(x.p.toList==[47])=false:=by
       cases h9:(x.p.toList==[47]) with
       | false=>rfl
       | true =>
         exfalso
         have h8:x.p.toList=[47]:=by simpa using h9
         rw [ByteArray.toList_eq] at h8
         exact h1 (ByteArray.ext (Array.ext' h8))
      subst h2
      have HU0:Hid (up.o=0):=h3
      have hob:(decide (x.o≠0)=false)∨(decide (x.o≠0)=true∧x.k=0):=by
       by_cases ho:x.o=0
       · exact .inl (by simp [ho])
       · exact .inr ⟨by simp [ho],HX.out.2.2.2 ho⟩
      clear h1 h3
      rcases hob with e2 | ⟨e2,e3⟩
      · rw [e2]
        clear e2
        go_wp2_with fail
        refine Calls.mono (HPM.out w2 HB2.out) ?_
        rintro e w3 ⟨rfl,hb3⟩
        have HB3:Hid (Below w.heap.size w w3):=trans2 HB2.out hb3
        have HN3:Hid _:=kept_block hb3 HN2.out
        have hnl:nb<w3.heap.size:=(Array.getElem?_eq_some_iff.1 HN3.out).1
        clear hb3 n0 n1 n2 n3 n4 n5 n6
        obtain ⟨n0,n1,n2,n3,n4,n5,n6⟩:=cells_7 HN3.out
        go_wp2_with fail
        refine Calls.mono (HIB.out up _) ?_
        rintro e w4 ⟨rfl,hb4⟩
        have HB4:Hid (Below w.heap.size w w4):=trans2 (HB3.out.alloc HB3.out.size _) hb4
        have e4:decide (up.o≠0)=false:=by simp [HU0.out]
        rw [e4]
        clear hb4 e4
        go_wp2_with fail
        go_ret
        exact ⟨rfl,HB4.out⟩
      · rw [e2]
        rw [e3] at n6
        clear e2
        go_wp2_with fail
        refine Calls.mono (HPM.out w2 HB2.out) ?_
        rintro e w3 ⟨rfl,hb3⟩
        have HB3:Hid (Below w.heap.size w w3):=trans2 HB2.out hb3
        have HN3:Hid _:=kept_block hb3 HN2.out
        have hnl:nb<w3.heap.size:=(Array.getElem?_eq_some_iff.1 HN3.out).1
        clear hb3 n0 n1 n2 n3 n4 n5 n6
        obtain ⟨n0,n1,n2,n3,n4,n5,n6⟩:=cells_7 HN3.out
        go_wp2_with fail
        refine Calls.mono (HIB.out up _) ?_
        rintro e w4 ⟨rfl,hb4⟩
        have HB4:Hid (Below w.heap.size w w4):=trans2 (HB3.out.alloc HB3.out.size _) hb4
        have e4:decide (up.o≠0)=false:=by simp [HU0.out]
        rw [e4]
        clear hb4 e4
        go_wp2_with fail
        go_ret
        exact ⟨rfl,HB4.out⟩
end Go.Proofs.YtckmihplkhmpnaaGreatDoor
namespace Go.Proofs.YtckmihplkhmpnaaGreatDoor
open Go.RowKit Go.Maps Go.WideShapes
set_option linter.unusedVariables false
set_option linter.unusedSimpArgs false
attribute [local go_sem ↓] Go.wp_at_zero Go.wp_at_succ
set_option maxHeartbeats 3200000 in
set_option maxRecDepth 100000 in
theorem changesT_any (B1 B2:Nat) (va vb:Value) (C:List ChT) (w:World) (h1:w.ownsRow B1 69 4 va C.length (chCs C)) (h2:w.ownsRow B2 69 4 vb C.length (chCs C)) (hl:C.length≤1000) :
  Calls Tryz.prog 26 #[va,vb] w fun e w'=>e=.returned (.bool true)∧Below w.heap.size w w':=by
 obtain ⟨a,c,rfl⟩:=slice_of h1
 obtain ⟨b,d,rfl⟩:=slice_of h2
 have H1:Hid _:=h1
 have H2:Hid _:=h2
 obtain ⟨N,hN⟩:∃ N,C.length=N:=⟨_,rfl⟩
 have HN:Hid (C.length=N):=hN
 rw [hN] at hl ⊢
 clear h1 h2 hN
 go_enter Tryz.func26,Tryz.ntmps26
 go_wp2_with fail
 go_loopw [5] (fun i wr=>∃ q:Nat,i=.int .i64 q∧q≤N∧Hid (Below w.heap.size w wr)) (fun i _=>N - (intOf i).toNat)
 case atStart=>exact ⟨0,rfl,Nat.zero_le _,Below.refl _ _⟩
 case round =>
  obtain ⟨q,rfl,hq,HB⟩:=hrel
  by_cases hlt:q<N
  · have hlt':(q:Int)<(N:Int):=by omega
    obtain ⟨x,hx⟩:∃ x,C[q]? = some x:=⟨C[q]'(by rw [HN.out];exact hlt),List.getElem?_eq_getElem _⟩
    obtain ⟨g1,c1,e1⟩:=form_n H1.out (by rw [HN.out];omega)
    obtain ⟨g2,c2,e2⟩:=form_n H2.out (by rw [HN.out];omega)
    obtain ⟨rfl,rfl⟩:a=some ⟨g1,0,none⟩∧c=c1:=by simpa using e1
    obtain ⟨rfl,rfl⟩:b=some ⟨g2,0,none⟩∧d=c2:=by simpa using e2
    have l1:g1<w.heap.size:=(World.ownsRow.lt H1.out g1 rfl).2
    have l2:g2<w.heap.size:=(World.ownsRow.lt H2.out g2 rfl).2
    have hk1:∀ j v,x.cells[j]? = some v→wr.cell? ⟨g1,q * 4+j,none⟩=some v:=fun j v hv=>by rw [HB.out.cell (p:=⟨g1,q * 4+j,none⟩) l1];exact ch_cell H1.out hx hv
    have hk2:∀ j v,x.cells[j]? = some v→wr.cell? ⟨g2,q * 4+j,none⟩=some v:=fun j v hv=>by rw [HB.out.cell (p:=⟨g2,q * 4+j,none⟩) l2];exact ch_cell H2.out hx hv
    have k0:wr.cell? ⟨g1,q * 4,none⟩=some (.int .i64 x.k):=hk1 0 _ rfl
    have k1:=hk1 1 _ rfl
    have k2:=hk1 2 _ rfl
    have k3:=hk1 3 _ rfl
    have m0:wr.cell? ⟨g2,q * 4,none⟩=some (.int .i64 x.k):=hk2 0 _ rfl
    have m1:=hk2 1 _ rfl
    have m2:=hk2 2 _ rfl
    have m3:=hk2 3 _ rfl
    clear hx e1 e2 hk1 hk2
    go_upto_region 6 with fail
    go_quiet (fail)
    go_wp2_with fail
    go_roundw
    case rel=>exact ⟨q+1,by go_num,by omega,below_dN HB.out _⟩
    case measure=>simp [intOf];omega
  · obtain rfl:q=N:=by omega
    go_wp2_with fail
    go_ret
    exact ⟨rfl,HB.out⟩
theorem rs_cell {w:World} {B g cap:Nat} {L:List RsT} (h:RsAt w B (.slice (some ⟨g,0,none⟩) L.length cap) L.length L) {q j:Nat} {x:RsT} {v:Value} (hx:L[q]? = some x) (hv:x.cs[j]? = some v):w.cell? ⟨g,q * 7+j,none⟩=some v:=by
 have hr:=h.row
 rw [Nat.sub_self] at hr
 have e:Fa.fl (L.map RsT.el ++ List.replicate 0 zEl)=L.flatMap RsT.cs:=by
  show (L.map RsT.el ++ []).flatMap (fun e:Fa.El 7=>e.1)=_
  rw [List.append_nil,List.flatMap_map]
  rfl
 rw [e] at hr
 exact cell_n hr (flat_at RsT.cs 7 (fun _=>rfl) L q j x v hx hv)
set_option maxHeartbeats 6400000 in
set_option maxRecDepth 100000 in
theorem replyT_any (B1 B2:Nat) (st cd at':Int) (rv1 rv2:Value) (L1 L2:List RsT) (w:World) (h1:RsAt w B1 rv1 L1.length L1) (h2:RsAt w B2 rv2 L2.length L2) (hL:L1.map RsT.r=L2.map RsT.r) (hl:L1.length≤1000) (hk:∀ x∈L1,x.r.kids.length≤1000) :
  Calls Tryz.prog 25 #[.agg #[.int .i64 st,.int .i64 cd,.int .i64 at',rv1],.agg #[.int .i64 st,.int .i64 cd,.int .i64 at',rv2]] w fun e w'=>e=.returned (.bool true)∧Below w.heap.size w w':=by
 obtain ⟨a1,c1,rfl⟩:=slice_of h1.row
 obtain ⟨a2,c2,rfl⟩:=slice_of h2.row
 have hlen:L2.length=L1.length:=by have:=congrArg List.length hL;simpa using this.symm
 have HL:Hid _:=hL
 have HKL:Hid _:=hk
 have H1:Hid (RsAt w B1 (.slice a1 L1.length c1) L1.length L1):=h1
 have H2:Hid (RsAt w B2 (.slice a2 L2.length c2) L2.length L2):=h2
 obtain ⟨N,hN⟩:∃ N,L1.length=N:=⟨_,rfl⟩
 have HN:Hid (L1.length=N):=hN
 have HN2:Hid (L2.length=N):=by show _=_;rw [hlen];exact hN
 rw [hlen,hN]
 rw [hN] at hl
 clear h1 h2 hL hN hlen hk
 go_enter Tryz.func25,Tryz.ntmps25
 go_upto_region 1 with fail
 obtain ⟨w2,hw2⟩:∃ y,(w.alloc (.cells #[.int .i64 st,.int .i64 cd,.int .i64 at',.slice a1 N c1] 61)).alloc (.cells #[.int .i64 st,.int .i64 cd,.int .i64 at',.slice a2 N c2] 61)=y:=⟨_,rfl⟩
 obtain ⟨sb,hsb⟩:∃ y,w.heap.size=y:=⟨_,rfl⟩
 have HB2:Hid (Below w.heap.size w w2):=by rw [← hw2];exact ((Below.refl _ _).alloc (Nat.le_refl _) _).alloc (by simp) _
 have HS2:Hid (w2.heap[sb]? = some (.cells #[.int .i64 st,.int .i64 cd,.int .i64 at',.slice a1 N c1] 61 (0,0))):=by rw [← hw2,← hsb];exact heap_alloc2_old _ _ _
 have HR2:Hid (w2.heap[sb+1]? = some (.cells #[.int .i64 st,.int .i64 cd,.int .i64 at',.slice a2 N c2] 61 (0,0))):=by rw [← hw2,← hsb];exact heap_alloc2_new _ _ _
 rw [hw2,hsb]
 clear hw2 hsb
 obtain ⟨s0,s1,s2,s3⟩:=cells_4 HS2.out
 obtain ⟨r0,r1,r2,r3⟩:=cells_4 HR2.out
 go_wp2_with fail
 clear s0 s1 s2 s3 r0 r1 r2 r3
 go_loopw [5] (fun i wr=>∃ q:Nat,i=.int .i64 q∧q≤N∧Hid (Below w2.heap.size w2 wr)) (fun i _=>N - (intOf i).toNat)
 case atStart=>exact ⟨0,rfl,Nat.zero_le _,Below.refl _ _⟩
 case round =>
  obtain ⟨q,rfl,hq,HB⟩:=hrel
  have HS3:Hid _:=kept_block HB.out HS2.out
  have HR3:Hid _:=kept_block HB.out HR2.out
  obtain ⟨s0,s1,s2,s3⟩:=cells_4 HS3.out
  obtain ⟨r0,r1,r2,r3⟩:=cells_4 HR3.out
  have hsl:sb+1<wr.heap.size:=(Array.getElem?_eq_some_iff.1 HR3.out).1
  by_cases hlt:q<N
  · have hlt':(q:Int)<(N:Int):=by omega
    obtain ⟨x,hx⟩:∃ x,L1[q]? = some x:=⟨L1[q]'(by rw [HN.out];exact hlt),List.getElem?_eq_getElem _⟩
    obtain ⟨y,hy⟩:∃ y,L2[q]? = some y:=⟨L2[q]'(by rw [HN2.out];exact hlt),List.getElem?_eq_getElem _⟩
    have hxy:x.r=y.r:=by
     have h9:(L1.map RsT.r)[q]? = (L2.map RsT.r)[q]?:=by rw [HL.out]
     rw [List.getElem?_map,List.getElem?_map,hx,hy] at h9
     simpa using h9
    have hbw:Below w.heap.size w wr:=trans2 HB2.out HB.out
    obtain ⟨g1,d1,e1⟩:=form_n H1.out.row (by rw [HN.out];omega)
    obtain ⟨g2,d2,e2⟩:=form_n H2.out.row (by rw [HN2.out];omega)
    obtain ⟨rfl,rfl⟩:a1=some ⟨g1,0,none⟩∧c1=d1:=by simpa using e1
    obtain ⟨rfl,rfl⟩:a2=some ⟨g2,0,none⟩∧c2=d2:=by simpa using e2
    have l1:g1<w.heap.size:=(H1.out.row.lt g1 rfl).2
    have l2:g2<w.heap.size:=(H2.out.row.lt g2 rfl).2
    have hk1:∀ j v,x.cs[j]? = some v→wr.cell? ⟨g1,q * 7+j,none⟩=some v:=fun j v hv=>by rw [hbw.cell (p:=⟨g1,q * 7+j,none⟩) l1];exact rs_cell H1.out hx hv
    have hk2:∀ j v,y.cs[j]? = some v→wr.cell? ⟨g2,q * 7+j,none⟩=some v:=fun j v hv=>by rw [hbw.cell (p:=⟨g2,q * 7+j,none⟩) l2];exact rs_cell H2.out hy hv
    obtain ⟨⟨p,d,v,m,c,o,kids⟩,xa,xn,xc⟩:=x
    obtain ⟨yr,ya,yn,yc⟩:=y
    obtain rfl:(⟨p,d,v,m,c,o,kids⟩:ResT)=yr:=hxy
    have hkx:=H1.out.kids _ (List.mem_of_getElem? hx)
    have hky:=H2.out.kids _ (List.mem_of_getElem? hy)
    have hkn:=HKL.out _ (List.mem_of_getElem? hx)
    have k0:wr.cell? ⟨g1,q * 7,none⟩=some (.string p):=hk1 0 _ rfl
    have k1:=hk1 1 _ rfl
    have k2:=hk1 2 _ rfl
    have k3:=hk1 3 _ rfl
    have k4:=hk1 4 _ rfl
    have k5:=hk1 5 _ rfl
    have k6:=hk1 6 _ rfl
    have m0:wr.cell? ⟨g2,q * 7,none⟩=some (.string p):=hk2 0 _ rfl
    have m1:=hk2 1 _ rfl
    have m2:=hk2 2 _ rfl
    have m3:=hk2 3 _ rfl
    have m4:=hk2 4 _ rfl
    have m5:=hk2 5 _ rfl
    have m6:=hk2 6 _ rfl
    have hg1:g1<wr.heap.size:=Nat.lt_of_lt_of_le l1 hbw.size
    have hg2:g2<wr.heap.size:=Nat.lt_of_lt_of_le l2 hbw.size
    have HTX:Hid (∀ W,Below w.heap.size w W→Calls Tryz.prog 48 #[.slice xa xn xc,.slice ya yn yc] W fun e w'=>e=.returned (.bool true)∧Below W.heap.size W w'):=fun W hb=>textsT_any B1 B2 _ _ kids W (owns_chg hkx (Chg.of_below hb (fun _=>False)) (fun _ _=>id)) (owns_chg hky (Chg.of_below hb (fun _=>False)) (fun _ _=>id)) hkn
    have HBW:Hid (Below w.heap.size w wr):=hbw
    clear hx hy e1 e2 hk1 hk2 hkx hky hkn hbw
    go_wp2_with fail
    refine Calls.mono (HTX.out _ ((HBW.out.alloc HBW.out.size _).alloc (by have:=HBW.out.size;simp;omega) _)) ?_
    rintro e w5 ⟨rfl,hb5⟩
    have HB5:Hid (Below w2.heap.size w2 w5):=trans2 ((HB.out.alloc HB.out.size _).alloc (by have:=HB.out.size;simp;omega) _) hb5
    clear hb5
    go_wp2_with fail
    go_roundw
    case rel=>exact ⟨q+1,by go_num,by omega,HB5.out⟩
    case measure=>simp [intOf];omega
  · obtain rfl:q=N:=by omega
    go_wp2_with fail
    go_ret
    exact ⟨rfl,trans2 HB2.out HB.out⟩
end Go.Proofs.YtckmihplkhmpnaaGreatDoor
namespace Go.Proofs.YtckmihplkhmpnaaGreatDoor
open Go.RowKit Go.Maps Go.WideShapes
set_option linter.unusedVariables false
set_option linter.unusedSimpArgs false
attribute [local go_sem ↓] Go.wp_at_zero Go.wp_at_succ
structure SnT where
 p:ByteArray
 d:ByteArray
 v:Int
abbrev SnT.cs (x:SnT):List Value:=[.string x.p,.string x.d,.int .i64 x.v]
def snN (k:Int) (x:Nd):SnT:=⟨x.p,sd k x.d,sv k x.v⟩
def parT (T:List Nd) (k:Int) (p:ByteArray):List SnT:=(T.filter (fun x=>covers k p 1 x.p)).map (snN k)
theorem parT_len (T:List Nd) (k:Int) (p:ByteArray):(parT T k p).length≤T.length:=by
 unfold parT
 rw [List.length_map]
 exact List.length_filter_le _ _
theorem seenCs_T {D:DataW Value} {T:List Nd} (h:Rep D T) (k:Int):∀ U:List Nd,(∀ x∈U,x∈T)→seenCs k D (U.map Nd.by)=(U.map (snN k)).flatMap SnT.cs
 | [],_=>rfl
 | x :: r,hU=>by
   have e:(⟨(Nd.by x).toArray⟩:ByteArray)=x.p:=ByteArray.ext (by simp [Nd.by])
   have ih:=seenCs_T h k r (fun y hy=>hU y (List.mem_cons_of_mem _ hy))
   unfold seenCs at ih ⊢
   rw [List.map_cons,List.map_cons,List.flatten_cons,ih,List.map_cons,List.flatMap_cons,e,h.look x (hU x List.mem_cons_self)]
   congr 1
   unfold seenOf snN sd sv
   by_cases hk:k=2 <;> simp [hk,cellsOf]
theorem part_tr (B tb q:Nat) (T:List Nd) (k:Int) (p:ByteArray) (w:World) (hg:Ground w) (h:TrAt w B tb q T) (hp:(parse p).1=0) (hk:k=1∨k=2∨k=3) :
  Calls Tryz.prog 30 #[.pointer (some ⟨tb,0,none⟩),.string p,.int .i64 k] w fun e w'=>∃ a cap,e=.returned (.tuple #[.slice a (parT T k p).length cap,.int .i64 0])∧w'.ownsRow w.heap.size 117 3 (.slice a (parT T k p).length cap) (parT T k p).length ((parT T k p).flatMap SnT.cs)∧Below w.heap.size w w':=by
 obtain ⟨mb,n,D,h1,h2,h3⟩:=h.at'
 refine Calls.mono (part_any sorts_to sorts_nil B tb mb n D k p w hg h1 (by rw [h2.size];have:=h.snd.inv.len;omega) (h2.wf h.snd.inv.sml) (by simpa [isP] using hp) hk) ?_
 rintro e w' ⟨a,cap,ts,rfl,hpm,ha,hr,hb⟩
 have h4:=(h.snd.inv.srt.filter (fun x=>wF k p x.by)).only (hpm.trans (filter_keys h2 (wF k p))) ha
 have e1:T.filter (fun x=>wF k p x.by)=T.filter (fun x=>covers k p 1 x.p):=rfl
 rw [e1] at h4
 subst h4
 rw [seenCs_T h2 k _ (fun x hx=>(List.mem_filter.1 hx).1)] at hr
 have e2:((T.filter (fun x=>covers k p 1 x.p)).map Nd.by).length=(parT T k p).length:=by unfold parT;simp
 rw [e2] at hr ⊢
 exact ⟨a,cap,rfl,hr,hb⟩
set_option maxHeartbeats 3200000 in
theorem part_bad (B tb q:Nat) (T:List Nd) (k:Int) (p:ByteArray) (w:World) (hg:Ground w) (h:TrAt w B tb q T) (hp:(parse p).1≠0) :
  Calls Tryz.prog 30 #[.pointer (some ⟨tb,0,none⟩),.string p,.int .i64 k] w fun e w'=>e=.returned (.tuple #[.slice none 0 0,.int .i64 10])∧Below w.heap.size w w':=by
 obtain ⟨mb,n,D,h1,_⟩:=h.at'
 have HN:Hid _:=isNone_at tb (some mb) w (cells_1 h1.box)
 have HP:Hid (Calls Tryz.prog 52 #[.string p] w (Parsed p w)):=parse_any p w hg
 obtain ⟨pc,hpc⟩:∃ pc,(parse p).1=pc:=⟨_,rfl⟩
 have HPC:Hid ((parse p).1=pc):=hpc
 rw [hpc] at hp
 have e1:(pc != 0)=true:=by simpa using hp
 clear hpc hp h h1 hg
 go_enter Tryz.func30,Tryz.ntmps30
 go_wp2_with (first
  | (go_at_call 19;refine Calls.mono HN.out ?_;rintro e w0 ⟨rfl,rfl⟩)
  | fail)
 refine Calls.mono HP.out ?_
 rintro e w1 ⟨a,c,rfl,_,hb⟩
 have HB:Hid _:=hb
 rw [HPC.out]
 clear hb
 go_wp2_with fail
 go_ret2
 exact ⟨rfl,HB.out⟩
set_option maxHeartbeats 3200000 in
theorem part_arg (B tb q:Nat) (T:List Nd) (k:Int) (p:ByteArray) (w:World) (hg:Ground w) (h:TrAt w B tb q T) (hp:(parse p).1=0) (hk:k<1∨3<k) :
  Calls Tryz.prog 30 #[.pointer (some ⟨tb,0,none⟩),.string p,.int .i64 k] w fun e w'=>e=.returned (.tuple #[.slice none 0 0,.int .i64 1])∧Below w.heap.size w w':=by
 obtain ⟨mb,n,D,h1,_⟩:=h.at'
 have HN:Hid _:=isNone_at tb (some mb) w (cells_1 h1.box)
 have HP:Hid (Calls Tryz.prog 52 #[.string p] w (Parsed p w)):=parse_any p w hg
 have HPC:Hid ((parse p).1=0):=hp
 have e1:(k != 1)=true:=by simp;omega
 have e2:(k != 2)=true:=by simp;omega
 have e3:(k != 3)=true:=by simp;omega
 clear hp h h1 hg hk
 go_enter Tryz.func30,Tryz.ntmps30
 go_wp2_with (first
  | (go_at_call 19;refine Calls.mono HN.out ?_;rintro e w0 ⟨rfl,rfl⟩)
  | fail)
 refine Calls.mono HP.out ?_
 rintro e w1 ⟨a,c,rfl,_,hb⟩
 have HB:Hid _:=hb
 rw [HPC.out]
 clear hb
 go_wp2_with fail
 go_ret2
 exact ⟨rfl,HB.out⟩
theorem sn_cell {w:World} {B g cap:Nat} {L:List SnT} (h:w.ownsRow B 117 3 (.slice (some ⟨g,0,none⟩) L.length cap) L.length (L.flatMap SnT.cs)) {q j:Nat} {x:SnT} {v:Value} (hx:L[q]? = some x) (hv:x.cs[j]? = some v):w.cell? ⟨g,q * 3+j,none⟩=some v :=
 cell_n h (flat_at SnT.cs 3 (fun _=>rfl) L q j x v hx hv)
set_option maxHeartbeats 3200000 in
set_option maxRecDepth 100000 in
theorem seenT_any (B1 B2:Nat) (va vb:Value) (L:List SnT) (w:World) (h1:w.ownsRow B1 117 3 va L.length (L.flatMap SnT.cs)) (h2:w.ownsRow B2 117 3 vb L.length (L.flatMap SnT.cs)) (hl:L.length≤1000) :
  Calls Tryz.prog 31 #[va,vb] w fun e w'=>e=.returned (.bool true)∧Below w.heap.size w w':=by
 obtain ⟨a,c,rfl⟩:=slice_of h1
 obtain ⟨b,d,rfl⟩:=slice_of h2
 have H1:Hid _:=h1
 have H2:Hid _:=h2
 obtain ⟨N,hN⟩:∃ N,L.length=N:=⟨_,rfl⟩
 have HN:Hid (L.length=N):=hN
 rw [hN] at hl ⊢
 clear h1 h2 hN
 go_enter Tryz.func31,Tryz.ntmps31
 go_wp2_with fail
 go_loopw [5] (fun i wr=>∃ q:Nat,i=.int .i64 q∧q≤N∧Hid (Below w.heap.size w wr)) (fun i _=>N - (intOf i).toNat)
 case atStart=>exact ⟨0,rfl,Nat.zero_le _,Below.refl _ _⟩
 case round =>
  obtain ⟨q,rfl,hq,HB⟩:=hrel
  by_cases hlt:q<N
  · have hlt':(q:Int)<(N:Int):=by omega
    obtain ⟨x,hx⟩:∃ x,L[q]? = some x:=⟨L[q]'(by rw [HN.out];exact hlt),List.getElem?_eq_getElem _⟩
    obtain ⟨g1,c1,e1⟩:=form_n H1.out (by rw [HN.out];omega)
    obtain ⟨g2,c2,e2⟩:=form_n H2.out (by rw [HN.out];omega)
    obtain ⟨rfl,rfl⟩:a=some ⟨g1,0,none⟩∧c=c1:=by simpa using e1
    obtain ⟨rfl,rfl⟩:b=some ⟨g2,0,none⟩∧d=c2:=by simpa using e2
    have l1:g1<w.heap.size:=(World.ownsRow.lt H1.out g1 rfl).2
    have l2:g2<w.heap.size:=(World.ownsRow.lt H2.out g2 rfl).2
    have hk1:∀ j v,x.cs[j]? = some v→wr.cell? ⟨g1,q * 3+j,none⟩=some v:=fun j v hv=>by rw [HB.out.cell (p:=⟨g1,q * 3+j,none⟩) l1];exact sn_cell H1.out hx hv
    have hk2:∀ j v,x.cs[j]? = some v→wr.cell? ⟨g2,q * 3+j,none⟩=some v:=fun j v hv=>by rw [HB.out.cell (p:=⟨g2,q * 3+j,none⟩) l2];exact sn_cell H2.out hx hv
    have k0:wr.cell? ⟨g1,q * 3,none⟩=some (.string x.p):=hk1 0 _ rfl
    have k1:=hk1 1 _ rfl
    have k2:=hk1 2 _ rfl
    have m0:wr.cell? ⟨g2,q * 3,none⟩=some (.string x.p):=hk2 0 _ rfl
    have m1:=hk2 1 _ rfl
    have m2:=hk2 2 _ rfl
    clear hx e1 e2 hk1 hk2
    go_upto_region 6 with fail
    go_quiet (fail)
    go_wp2_with fail
    go_roundw
    case rel=>exact ⟨q+1,by go_num,by omega,below_dN HB.out _⟩
    case measure=>simp [intOf];omega
  · obtain rfl:q=N:=by omega
    go_wp2_with fail
    go_ret
    exact ⟨rfl,HB.out⟩
theorem Snd.below {T:List Nd} (h:Snd T) {p:ByteArray} (hp:(parse p).1=0):∀ (n:Nat) (y:Nd),y∈T→(parse y.p).2.length≤n→Bel (parse p).2 (parse y.p).2→∃ u∈T,u.p=p
 | n,y,hy,hn,hb=>by
   have hyp:=(h.inv.nd y hy).1
   have hyr:y.p≠pRt:=fun e=>by
    have h9:=hb
    rw [e,show parse pRt=(0,[]) by kernel_rfl] at h9
    obtain ⟨h1,_⟩:=h9
    simp at h1
   obtain ⟨xs,k,x,hx,hl,hk,_⟩:=names_of hyp hyr
   obtain ⟨u,hu,hup,_⟩:=h.up y hy hyr
   rw [par_of (x:=x) hx hl] at hup
   have hlen:=parse_len hx
   have hup2:parse u.p=(0,xs.take k):=by
    rw [hup]
    exact parse_place (by rw [List.length_take];omega) (all_take hlen.2 k)
   rw [hx] at hb hn
   have hn:xs.length≤n:=hn
   obtain ⟨h1,h2⟩:=hb
   by_cases hek:(parse p).2.length=k
   · refine ⟨u,hu,?_⟩
     rw [hup]
     have h3:(parse p).2=xs.take k:=by rw [← hek];exact h2.symm
     rw [← h3]
     exact parse_back (by rw [← hp])
   · match n,hn with
     | 0,hn=>omega
     | n+1,hn =>
       refine Snd.below h hp n u hu (by rw [hup2];simp;omega) ?_
       rw [hup2]
       refine ⟨by rw [List.length_take];show _<_;have:(parse p).2.length<xs.length:=h1;omega,?_⟩
       rw [List.take_take,Nat.min_eq_left (by have:(parse p).2.length<xs.length:=h1;omega)]
       exact h2
theorem part_none {T:List Nd} (h:Snd T) {p:ByteArray} (hp:(parse p).1=0) (hf:fnd T p=none) (k:Int):parT T k p=[]:=by
 unfold parT
 rw [List.map_eq_nil_iff,List.filter_eq_nil_iff]
 intro y hy hc
 have hyp:=(h.inv.nd y hy).1
 have hne:=fnd_none hf y hy
 have e1:eqB y.p p=false:=beq_ne hne
 have hbel:Bel (parse p).2 (parse y.p).2→False:=fun hb=>by
  obtain ⟨u,hu,e⟩:=h.below hp _ y hy (Nat.le_refl _) hb
  exact fnd_none hf u hu e
 have e3:belB p y.p=false:=by
  unfold belB
  exact decide_eq_false hbel
 have e2:childB p y.p=false:=by
  cases hcb:childB p y.p with
  | false=>rfl
  | true =>
    exfalso
    by_cases hyr:y.p=pRt
    · rw [hyr] at hcb
      cases hcb
    · obtain ⟨xs,j,x,hx,hl,_,_⟩:=names_of hyp hyr
      have h9:parB y.p=p:=by
       unfold childB at hcb
       rw [hx] at hcb
       simp only [hl,Nat.add_sub_cancel] at hcb
       rw [← par_of (x:=x) hx hl] at hcb
       have h8:(parB y.p).toList=p.toList:=by
        have:=(Bool.and_eq_true _ _ ▸ hcb).2
        simpa using this
       rw [ByteArray.toList_eq,ByteArray.toList_eq] at h8
       exact ByteArray.ext (Array.ext' h8)
      obtain ⟨u,hu,hup,_⟩:=h.up y hy hyr
      exact fnd_none hf u hu (hup.trans h9)
 unfold covers cov at hc
 rw [e1,e2,e3] at hc
 simp at hc
end Go.Proofs.YtckmihplkhmpnaaGreatDoor
namespace Go.Proofs.YtckmihplkhmpnaaGreatDoor
open Go.RowKit Go.Maps Go.WideShapes
set_option linter.unusedVariables false
set_option linter.unusedSimpArgs false
attribute [local go_sem ↓] Go.wp_at_zero Go.wp_at_succ
def lastP (T:List Nd) (q:Nat):ByteArray:=(((T.take q).getLast?).map Nd.p).getD ⟨#[]⟩
theorem lastP_next {T:List Nd} {q:Nat} {x:Nd} (hx:T[q]? = some x):lastP T (q+1)=x.p:=by
 unfold lastP
 rw [List.take_add_one,hx]
 simp
theorem last_less {T:List Nd} (h:Snd T) {q:Nat} {x:Nd} (hx:T[q]? = some x):O (lastP T q) x.p=-1∧(lastP T q).size≤1000:=by
 cases q with
 | zero =>
   have e:lastP T 0=⟨#[]⟩:=by simp [lastP]
   rw [e]
   refine ⟨?_,by decide⟩
   rw [O_list]
   have hne:x.p.data.toList≠[]:=fun e9=>by
    have hp:=(h.inv.nd x (List.mem_of_getElem? hx)).1
    have:x.p=⟨#[]⟩:=ByteArray.ext (Array.ext' e9)
    rw [this] at hp
    revert hp
    decide +kernel
   match hl:x.p.data.toList with
   | []=>exact absurd hl hne
   | _ :: _=>rfl
 | succ q =>
   have hl:=(List.getElem?_eq_some_iff.1 hx).1
   obtain ⟨y,hy⟩:∃ y,T[q]? = some y:=⟨T[q],List.getElem?_eq_getElem (by omega)⟩
   rw [lastP_next hy]
   exact ⟨h.order hy hx,Nat.le_trans (size_of_parse (h.inv.nd y (List.mem_of_getElem? hy)).1) (by decide)⟩
theorem rep_nil:Rep (.map []) []:=by
 refine ⟨by simp [Tidy],⟨[],rfl,fun p hp=>?_⟩,fun s=>?_,fun x hx=>?_,by simp⟩
 · cases hp
 · constructor
   · intro h
     simp [Maps.has] at h
   · rintro ⟨x,hx,_⟩
     cases hx
 · cases hx
theorem rep_next {D:DataW Value} {T:List Nd} (hi:Inv T) {q:Nat} {x:Nd} (hx:T[q]? = some x) (h:Rep D (T.take q)):Rep (D.put (ky x.p) (.held x.V)) (T.take (q+1)):=by
 have h1:=h.put x
 have hq:=(List.getElem?_eq_some_iff.1 hx).1
 have e1:(T.take q).filter (fun y=>decide (y.p≠x.p))=T.take q:=by
  rw [List.filter_eq_self]
  intro y hy
  have hne:y.p≠x.p:=fun e=>by
   obtain ⟨j,hj⟩:=List.mem_iff_getElem?.1 hy
   rw [List.getElem?_take] at hj
   split at hj
   · rename_i hjq
     obtain ⟨h2,e2⟩:=List.getElem?_eq_some_iff.1 hj
     have:=List.pairwise_iff_getElem.1 hi.srt j q h2 hq hjq
     rw [e2,(List.getElem?_eq_some_iff.1 hx).2,e,O_self] at this
     cases this
   · cases hj
  simpa using hne
 rw [e1] at h1
 refine h1.perm ?_
 rw [List.take_add_one,hx]
 exact List.perm_append_singleton x _
theorem up_there {T:List Nd} (h:Snd T) {D:DataW Value} {q:Nat} {x:Nd} (hx:T[q]? = some x) (hr:Rep D (T.take q)):∃ (up:Nd) (th:Bool),look D (parB x.p)=up.V∧Maps.has D (ky (parB x.p))=th∧((x.p=pRt∧x.o=0)∨(x.p≠pRt∧th=true∧up.o=0)):=by
 cases q with
 | zero =>
   obtain ⟨r,hr0,hrp,hro⟩:=h.first
   rw [hx] at hr0
   obtain rfl:=Option.some.inj hr0
   have hf:fnd (T.take 0) (parB x.p)=none:=rfl
   exact ⟨zN,false,hr.look_none hf,by rw [hr.has_fnd,hf];rfl,.inl ⟨hrp,hro⟩⟩
 | succ q =>
   obtain ⟨hxr,k,u,hk,hu,hup,huo⟩:=h.above (by omega) hx
   have hm:u∈T.take (q+1):=List.mem_of_getElem? (i:=k) (by rw [List.getElem?_take,if_pos hk];exact hu)
   exact ⟨u,true,by rw [← hup];exact hr.look u hm,by rw [hr.has];exact ⟨u,hm,hup⟩,.inr ⟨hxr,rfl,huo⟩⟩
set_option maxHeartbeats 8000000 in
set_option maxRecDepth 100000 in
theorem load_any (B g cap:Nat) (T:List Nd) (w:World) (hS:Snd T) (hR:Rng T) (hr:w.ownsRow B 27 7 (.slice (some ⟨g,0,none⟩) T.length cap) T.length (T.flatMap Nd.cs)) (hg:GroundT w) :
  Calls Tryz.prog 5 #[.slice (some ⟨g,0,none⟩) T.length cap] w fun e w'=>∃ ub,e=.returned (.tuple #[.pointer (some ⟨ub,0,none⟩),.int .i64 0])∧TrAt w' w.heap.size ub 8 T∧Below w.heap.size w w':=by
 have HS:Hid (Snd T):=hS
 have HRG:Hid (Rng T):=hR
 have HG:Hid (GroundT w):=hg
 have hgl:g<w.heap.size:=(hr.lt g rfl).2
 have HND:Hid (∀ (wr:World),Below w.heap.size w wr→∀ q j x v,T[q]? = some x→x.cs[j]? = some v→wr.cell? ⟨g,q * 7+j,none⟩=some v):=fun wr hb q j x v hx hv=>by rw [hb.cell (p:=⟨g,q * 7+j,none⟩) hgl];exact nd_cell hr hx hv
 obtain ⟨N,hN⟩:∃ N,T.length=N:=⟨_,rfl⟩
 have HN:Hid (T.length=N):=hN
 have hN64:N≤64:=by rw [← hN];exact hS.inv.len
 have hN1:1≤N:=by rw [← hN];exact List.length_pos_iff.2 hS.ne
 have hn':¬ (64:Int)<(N:Int):=by omega
 have hmm:=@run_makeMap Tryz.prog
 rw [hN]
 clear hr hg hS hR hN
 go_enter Tryz.func5,Tryz.ntmps5
 go_upto_region 4 with fail
 obtain ⟨w0,hw0⟩:∃ y,w.alloc (.map #[] 0)=y:=⟨_,rfl⟩
 obtain ⟨mb,hmb⟩:∃ y,w.heap.size=y:=⟨_,rfl⟩
 have HB0:Hid (Below w.heap.size w w0):=by rw [← hw0];exact (Below.refl _ _).alloc (Nat.le_refl _) _
 have HM0:Hid (MapAt w0 mb 0 (.map [])):=by rw [← hw0,← hmb];exact World.ownsMap_made w Tryz.prog 9 raw
 have HMB:Hid (w.heap.size=mb):=hmb
 rw [hw0,hmb]
 clear hw0 hmb hmm
 go_wp2_with fail
 go_loopw [5,14] (fun lv i wr=>∃ (q:Nat) (D:DataW Value),i=.int .i64 q∧q≤N∧lv=.string (lastP T q)∧Hid (Rep D (T.take q))∧Hid (MapAt wr mb q D)∧Hid (Below w.heap.size w wr)) (fun _ i _=>N - (intOf i).toNat)
 case atStart=>exact ⟨0,.map [],rfl,Nat.zero_le _,by simp [lastP],rep_nil,HM0.out,HB0.out⟩
 case round =>
  obtain ⟨q,D,rfl,hq,rfl,HRD,HMD,HB⟩:=hrel
  by_cases hlt:q<N
  · have hlt':(q:Int)<(N:Int):=by omega
    obtain ⟨x,hx⟩:∃ x,T[q]? = some x:=⟨T[q]'(by rw [HN.out];exact hlt),List.getElem?_eq_getElem _⟩
    have hxm:=List.mem_of_getElem? hx
    have hxn:=HS.out.inv.nd x hxm
    have hxs:=size_of_parse hxn.1
    obtain ⟨hO,hls⟩:=last_less HS.out hx
    obtain ⟨up,th,hl1,hl2,hl3⟩:=up_there HS.out hx HRD.out
    obtain ⟨la,hla⟩:∃ la,lastP T q=la:=⟨_,rfl⟩
    rw [hla] at hO hls ⊢
    have HOR:Hid (∀ W:World,Calls Tryz.prog 14 #[.string la,.string x.p] W fun e w'=>e=.returned (.int .i64 (-1))∧∃ m,w'=W.drewN m):=fun W=>by
     have h9:=order_O la x.p (by unfold maxLen;omega) (by unfold maxLen;omega) W
     rw [hO] at h9
     exact h9
    have HMH:Hid (∀ W,Below wr.heap.size wr W→Calls Tryz.prog 15 #[.map (some mb),x.V] W fun e w'=>e=.returned (.bool true)∧Below W.heap.size W w'):=fun W hb=>mayHave_any mb q D x up th W (HG.out.below (trans2 HB.out hb)) (map_below HMD.out hb) (HRG.out x hxm) ⟨hxn.2.2.1,hxn.2.2.2.1⟩ hxn.2.1 ⟨hxn.2.2.2.2.1,hxn.2.2.2.2.2⟩ hxn.1 hl1 hl2 hl3
    have HPT:Hid (∀ W,Below wr.heap.size wr W→_):=fun W hb=>put_any mb q D x.p x.d x.v x.m x.c x.o x.k (by omega) (by have:=hxn.2.1;omega) W (map_below HMD.out hb) (by omega)
    have HRN:Hid (Rep (D.put (ky x.p) (.held x.V)) (T.take (q+1))):=rep_next HS.out.inv hx HRD.out
    have HLP:Hid (lastP T (q+1)=x.p):=lastP_next hx
    have hgr:g<wr.heap.size:=Nat.lt_of_lt_of_le hgl HB.out.size
    have n0:wr.cell? ⟨g,q * 7,none⟩=some (.string x.p):=HND.out wr HB.out q 0 x _ hx rfl
    have n1:=HND.out wr HB.out q 1 x _ hx rfl
    have n2:=HND.out wr HB.out q 2 x _ hx rfl
    have n3:=HND.out wr HB.out q 3 x _ hx rfl
    have n4:=HND.out wr HB.out q 4 x _ hx rfl
    have n5:=HND.out wr HB.out q 5 x _ hx rfl
    have n6:=HND.out wr HB.out q 6 x _ hx rfl
    clear hx hxm hxn hxs hO hls hl1 hl2 hl3 hla
    go_upto_region 8 with fail
    obtain ⟨w1,hw1⟩:∃ y,wr.alloc (.cells #[.string x.p,.string x.d,.int .i64 x.v,.int .i64 x.m,.int .i64 x.c,.int .i64 x.o,.int .i64 x.k] 27)=y:=⟨_,rfl⟩
    obtain ⟨nb,hnb⟩:∃ y,wr.heap.size=y:=⟨_,rfl⟩
    have HB1:Hid (Below wr.heap.size wr w1):=by rw [← hw1];exact (Below.refl _ _).alloc (Nat.le_refl _) _
    have HN1:Hid (w1.heap[nb]? = some (.cells #[.string x.p,.string x.d,.int .i64 x.v,.int .i64 x.m,.int .i64 x.c,.int .i64 x.o,.int .i64 x.k] 27 (0,0))):=by rw [← hw1,← hnb];exact heap_alloc_new _ _
    rw [hw1,hnb]
    clear hw1 hnb n0 n1 n2 n3 n4 n5 n6
    obtain ⟨n0,n1,n2,n3,n4,n5,n6⟩:=cells_7 HN1.out
    go_wp2_with fail
    refine Calls.mono (HOR.out w1) ?_
    rintro e w2 ⟨rfl,m2,hw2⟩
    have HB2:Hid (Below wr.heap.size wr w2):=by rw [hw2];exact below_dN HB1.out _
    have HN2:Hid (w2.heap[nb]? = some (.cells #[.string x.p,.string x.d,.int .i64 x.v,.int .i64 x.m,.int .i64 x.c,.int .i64 x.o,.int .i64 x.k] 27 (0,0))):=by rw [hw2];exact HN1.out
    clear hw2 n0 n1 n2 n3 n4 n5 n6
    obtain ⟨n0,n1,n2,n3,n4,n5,n6⟩:=cells_7 HN2.out
    go_wp2_with fail
    refine Calls.mono (HMH.out w2 HB2.out) ?_
    rintro e w3 ⟨rfl,hb3⟩
    have HB3:Hid (Below wr.heap.size wr w3):=trans2 HB2.out hb3
    have HN3:Hid _:=kept_block hb3 HN2.out
    clear hb3 n0 n1 n2 n3 n4 n5 n6
    obtain ⟨n0,n1,n2,n3,n4,n5,n6⟩:=cells_7 HN3.out
    go_wp2_with fail
    refine Calls.mono (HPT.out w3 HB3.out) ?_
    rintro e w4 ⟨rfl,hm4,hc4⟩
    have HM4:Hid (MapAt w4 mb (q+1) (D.put (ky x.p) (.held x.V))):=hm4
    have HN4:Hid (w4.heap[nb]? = some (.cells #[.string x.p,.string x.d,.int .i64 x.v,.int .i64 x.m,.int .i64 x.c,.int .i64 x.o,.int .i64 x.k] 27 (0,0))):=by
     show _=_
     rw [hc4.block nb (Array.getElem?_eq_some_iff.1 HN3.out).1 (fun e=>?_)]
     · exact HN3.out
     · obtain ⟨es,clock,hb,_⟩:=map_below HMD.out HB3.out
       have h9:=HN3.out
       rw [show nb=mb from e,hb] at h9
       cases h9
    have HB4:Hid (Below w.heap.size w w4):=(trans2 HB.out HB3.out).trans (hc4.below (trans2 HB.out HB3.out).size (fun j _ e=>by rw [show j=mb from e,HMB.out];exact Nat.le_refl _))
    clear hm4 hc4 n0 n1 n2 n3 n4 n5 n6
    obtain ⟨n0,n1,n2,n3,n4,n5,n6⟩:=cells_7 HN4.out
    go_wp2_with fail
    go_roundw
    case rel=>exact ⟨q+1,_,by go_num,by omega,by rw [HLP.out],HRN.out,HM4.out,HB4.out⟩
    case measure=>simp [intOf];omega
  · obtain rfl:q=N:=by omega
    have HRT:Hid (Rep D T):=by
     have h9:=HRD.out
     rw [List.take_of_length_le (by rw [HN.out];exact Nat.le_refl _)] at h9
     exact h9
    have HSZ:Hid (Maps.size D=q):=by show _=_;rw [HRT.out.size];exact HN.out
    have hz:¬ (q:Int)=0:=by omega
    have hz2:((q:Int)==0)=false:=by simpa using hz
    go_wp2_with (first
     | (at_len;refine wpList_len_own _ rfl _ 52 rfl 9 27 Tryz.underlying52 raw mb q D rfl HMD.out ?_;rw [HSZ.out])
     | fail)
    go_ret2
    have hmb:=HMD.out.lt
    refine ⟨wr.heap.size,rfl,⟨⟨mb,q,D,⟨heap_alloc_new _ _,World.ownsMap.alloc HMD.out _,HB.out.size,by rw [HMB.out];exact Nat.le_refl _⟩,HRT.out,by omega⟩,HS.out⟩,HB.out.alloc HB.out.size _⟩
end Go.Proofs.YtckmihplkhmpnaaGreatDoor
namespace Go.Proofs.YtckmihplkhmpnaaGreatDoor
open Go.RowKit Go.Maps Go.WideShapes
set_option linter.unusedVariables false
set_option linter.unusedSimpArgs false
attribute [local go_sem ↓] Go.wp_at_zero Go.wp_at_succ
def inR (v m:Int):Bool:=decide (0≤v∧v≤m)
def mayQ (x:Nd) (th:Bool) (up:Nd):Bool:=decide (x.d.size≤64) && inR x.k 100000 && inR x.v 2147483647 && inR x.m 2147483647 && inR x.c 2147483647 && inR x.o 2147483647 && decide (x.o=0∨(x.p≠pRt∧x.k=0)) && decide (x.p=pRt∨(th=true∧up.o=0))
theorem mayQ_iff {x:Nd} {th:Bool} {up:Nd}:mayQ x th up=true ↔ x.d.size≤64∧(0≤x.k∧x.k≤100000)∧(0≤x.v∧x.v≤2147483647)∧(0≤x.m∧x.m≤2147483647)∧(0≤x.c∧x.c≤2147483647)∧(0≤x.o∧x.o≤2147483647)∧(x.o=0∨(x.p≠pRt∧x.k=0))∧(x.p=pRt∨(th=true∧up.o=0)):=by
 unfold mayQ inR
 simp only [Bool.and_eq_true,decide_eq_true_eq]
 constructor
 · rintro ⟨⟨⟨⟨⟨⟨⟨h1,h2⟩,h3⟩,h4⟩,h5⟩,h6⟩,h7⟩,h8⟩
   exact ⟨h1,h2,h3,h4,h5,h6,h7,h8⟩
 · rintro ⟨h1,h2,h3,h4,h5,h6,h7,h8⟩
   exact ⟨⟨⟨⟨⟨⟨⟨h1,h2⟩,h3⟩,h4⟩,h5⟩,h6⟩,h7⟩,h8⟩
theorem mayQ_no {x:Nd} {th:Bool} {up:Nd} (h:¬ (x.d.size≤64∧(0≤x.k∧x.k≤100000)∧(0≤x.v∧x.v≤2147483647)∧(0≤x.m∧x.m≤2147483647)∧(0≤x.c∧x.c≤2147483647)∧(0≤x.o∧x.o≤2147483647)∧(x.o=0∨(x.p≠pRt∧x.k=0))∧(x.p=pRt∨(th=true∧up.o=0)))):mayQ x th up=false:=Bool.eq_false_iff.2 (fun e=>h (mayQ_iff.1 e))
theorem par_small (p:ByteArray):(parB p).size≤1000:=by
 by_cases h:(parse p).1=0
 · exact Nat.le_trans (par_size h) (by decide)
 · have e:(parse p).2=[]:=by
    unfold parse at h ⊢
    split
    · rfl
    · split
      · rfl
      · split
        · rfl
        · split
          · split
            · rename_i h1 h2 _ _ _ h3 h4
              exfalso
              apply h
              simp_all
            · rfl
          · rfl
   unfold parB
   rw [e]
   decide
def numOf (x:Nd) (q:Nat):Int:=if q=0 then x.v else if q=1 then x.m else if q=2 then x.c else x.o
set_option maxHeartbeats 16000000 in
set_option maxRecDepth 100000 in
theorem mayHave_all (b n:Nat) (D:DataW Value) (x up:Nd) (th:Bool) (w:World) (hg:GroundT w) (hm:MapAt w b n D) (hl:look D (parB x.p)=up.V) (hh:Maps.has D (ky (parB x.p))=th) (hds:x.d.size≤maxLen) :
  Calls Tryz.prog 15 #[.map (some b),x.V] w fun e w'=>e=.returned (.bool (mayQ x th up))∧Below w.heap.size w w':=by
 have HPM:Hid (∀ W,Below w.heap.size w W→_):=fun W hb=>parent_map b n D x.p up.p up.d up.v up.m up.c up.o up.k th W (hg.below hb) (map_below hm hb) (by have:=par_small x.p;unfold maxLen;omega) hl hh
 have HIB:Hid (∀ (y:Nd) W,_):=fun y W=>fIsBrief_any y.p y.d y.v y.m y.c y.o y.k W
 obtain ⟨res,hres⟩:∃ r,mayQ x th up=r:=⟨_,rfl⟩
 have HRES:Hid (mayQ x th up=res):=hres
 rw [hres]
 clear hg hm hl hh hres
 go_enter Tryz.func15,Tryz.ntmps15
 go_upto_region 1 with fail
 obtain ⟨w1,hw1⟩:∃ y,w.alloc (.cells #[.string x.p,.string x.d,.int .i64 x.v,.int .i64 x.m,.int .i64 x.c,.int .i64 x.o,.int .i64 x.k] 27)=y:=⟨_,rfl⟩
 obtain ⟨nb,hnb⟩:∃ y,w.heap.size=y:=⟨_,rfl⟩
 have HB1:Hid (Below w.heap.size w w1):=by rw [← hw1];exact (Below.refl _ _).alloc (Nat.le_refl _) _
 have HN1:Hid (w1.heap[nb]? = some (.cells #[.string x.p,.string x.d,.int .i64 x.v,.int .i64 x.m,.int .i64 x.c,.int .i64 x.o,.int .i64 x.k] 27 (0,0))):=by rw [← hw1,← hnb];exact heap_alloc_new _ _
 rw [hw1,hnb]
 clear hw1 hnb
 obtain ⟨n0,n1,n2,n3,n4,n5,n6⟩:=cells_7 HN1.out
 by_cases hd:(64:Int)<(x.d.size:Int)
 · obtain rfl:false=res:=(mayQ_no (fun h=>by have:=h.1;omega)).symm.trans HRES.out
   go_wp2_with fail
   go_ret
   exact ⟨rfl,HB1.out⟩
 by_cases hk0:x.k<0
 · obtain rfl:false=res:=(mayQ_no (fun h=>by have:=h.2.1.1;omega)).symm.trans HRES.out
   go_wp2_with fail
   go_ret
   exact ⟨rfl,HB1.out⟩
 by_cases hk1:(100000:Int)<x.k
 · obtain rfl:false=res:=(mayQ_no (fun h=>by have:=h.2.1.2;omega)).symm.trans HRES.out
   go_wp2_with fail
   go_ret
   exact ⟨rfl,HB1.out⟩
 have HDK:Hid (x.d.size≤64∧0≤x.k∧x.k≤100000):=⟨by omega,by omega,by omega⟩
 go_wp2_with fail
 go_loopw [32] (fun i wr=>∃ q:Nat,i=.int .i64 q∧q≤4∧Hid (∀ j,j<q→0≤numOf x j∧numOf x j≤2147483647)∧wr=w1) (fun i _=>4 - (intOf i).toNat)
 case atStart=>exact ⟨0,rfl,Nat.zero_le _,(fun j hj=>by omega),rfl⟩
 case round =>
  obtain ⟨q,rfl,hq,HNU,hwr⟩:=hrel
  have hwr':=hwr.symm
  subst hwr'
  by_cases hlt:q<4
  · have hbad:¬ (0≤numOf x q∧numOf x q≤2147483647)→mayQ x th up=false:=fun hb=>mayQ_no (fun h=>hb (by
     rcases (show q=0∨q=1∨q=2∨q=3 by omega) with rfl | rfl | rfl | rfl
     · exact h.2.2.1
     · exact h.2.2.2.1
     · exact h.2.2.2.2.1
     · exact h.2.2.2.2.2.1))
    have HBAD:Hid _:=hbad
    have ix:∀ W,(Instr.index 95 (.agg #[.int .i64 x.v,.int .i64 x.m,.int .i64 x.c,.int .i64 x.o]) (.int .i64 (q:Int))).run Tryz.prog W=.ok (.int .i64 (numOf x q)) W:=fun W=>by
     rcases (show q=0∨q=1∨q=2∨q=3 by omega) with rfl | rfl | rfl | rfl
     · exact (show (Instr.index 95 (.agg #[.int .i64 x.v,.int .i64 x.m,.int .i64 x.c,.int .i64 x.o]) (.int .i64 0)).run Tryz.prog W=.ok (.int .i64 x.v) W by kernel_rfl)
     · exact (show (Instr.index 95 (.agg #[.int .i64 x.v,.int .i64 x.m,.int .i64 x.c,.int .i64 x.o]) (.int .i64 1)).run Tryz.prog W=.ok (.int .i64 x.m) W by kernel_rfl)
     · exact (show (Instr.index 95 (.agg #[.int .i64 x.v,.int .i64 x.m,.int .i64 x.c,.int .i64 x.o]) (.int .i64 2)).run Tryz.prog W=.ok (.int .i64 x.c) W by kernel_rfl)
     · exact (show (Instr.index 95 (.agg #[.int .i64 x.v,.int .i64 x.m,.int .i64 x.c,.int .i64 x.o]) (.int .i64 3)).run Tryz.prog W=.ok (.int .i64 x.o) W by kernel_rfl)
    have HNX:Hid (∀ h:0≤numOf x q∧numOf x q≤2147483647,∀ j,j<q+1→0≤numOf x j∧numOf x j≤2147483647):=fun h j hj=>by
     by_cases e:j=q
     · rw [e];exact h
     · exact HNU.out j (by omega)
    obtain ⟨z,hz⟩:∃ z,numOf x q=z:=⟨_,rfl⟩
    rw [hz] at ix HBAD HNX
    have hlt':(q:Int)<4:=by omega
    clear hbad hz
    by_cases r3:z<0
    · obtain rfl:false=res:=(HBAD.out (by omega)).symm.trans HRES.out
      go_wp2_with fail
      go_ret
      exact ⟨rfl,HB1.out⟩
    by_cases r4:(2147483647:Int)<z
    · obtain rfl:false=res:=(HBAD.out (by omega)).symm.trans HRES.out
      go_wp2_with fail
      go_ret
      exact ⟨rfl,HB1.out⟩
    have HNX':Hid _:=HNX.out ⟨by omega,by omega⟩
    go_wp2_with fail
    go_roundw
    case rel=>exact ⟨q+1,by go_num,by omega,HNX'.out,by trivial⟩
    case measure=>simp [intOf];omega
  · obtain rfl:q=4:=by omega
    have HALL:Hid ((0≤x.v∧x.v≤2147483647)∧(0≤x.m∧x.m≤2147483647)∧(0≤x.c∧x.c≤2147483647)∧(0≤x.o∧x.o≤2147483647)):=⟨HNU.out 0 (by omega),HNU.out 1 (by omega),HNU.out 2 (by omega),HNU.out 3 (by omega)⟩
    go_wp2_with fail
    refine Calls.mono (HIB.out x w1) ?_
    rintro e w2 ⟨rfl,hb2⟩
    have HB2:Hid (Below w.heap.size w w2):=trans2 HB1.out hb2
    have HN2:Hid _:=kept_block hb2 HN1.out
    clear hb2 n0 n1 n2 n3 n4 n5 n6
    obtain ⟨n0,n1,n2,n3,n4,n5,n6⟩:=cells_7 HN2.out
    by_cases hp:x.p=pRt
    · have HP2:Hid (x.p=pRt):=hp
      rw [hp] at n0
      by_cases ho:x.o=0
      · obtain rfl:true=res:=(mayQ_iff.2 ⟨HDK.out.1,HDK.out.2,HALL.out.1,HALL.out.2.1,HALL.out.2.2.1,HALL.out.2.2.2,.inl ho,.inl hp⟩).symm.trans HRES.out
        rw [show decide (x.o≠0)=false by simp [ho]]
        clear hp ho
        go_wp2_with fail
        refine Calls.mono (by have h9:=HPM.out w2 HB2.out;rw [HP2.out] at h9;exact h9) ?_
        rintro e w3 ⟨rfl,hb3⟩
        have HB3:Hid (Below w.heap.size w w3):=trans2 HB2.out hb3
        have HN3:Hid _:=kept_block hb3 HN2.out
        have hnl:nb<w3.heap.size:=(Array.getElem?_eq_some_iff.1 HN3.out).1
        clear hb3 n0 n1 n2 n3 n4 n5 n6
        obtain ⟨n0,n1,n2,n3,n4,n5,n6⟩:=cells_7 HN3.out
        rw [HP2.out] at n0
        go_wp2_with fail
        go_ret
        exact ⟨rfl,HB3.out.alloc HB3.out.size _⟩
      · obtain rfl:false=res:=(mayQ_no (fun h=>by rcases h.2.2.2.2.2.2.1 with h | h;exact ho h;exact h.1 hp)).symm.trans HRES.out
        rw [show decide (x.o≠0)=true by simp [ho]]
        clear hp ho
        go_wp2_with fail
        go_ret
        exact ⟨rfl,HB2.out⟩
    · have hc2:(x.p.toList==[47])=false:=by
       cases h9:(x.p.toList==[47]) with
       | false=>rfl
       | true =>
         exfalso
         have h8:x.p.toList=[47]:=by simpa using h9
         rw [ByteArray.toList_eq] at h8
         exact hp (ByteArray.ext (Array.ext' h8))
      have HP:Hid (x.p≠pRt):=hp
      by_cases ho:x.o=0
      · have OKB:x.o=0∨(x.p≠pRt∧x.k=0):=.inl ho
        rw [show decide (x.o≠0)=false by simp [ho]]
        clear ho hp
        go_wp2_with fail
        refine Calls.mono (HPM.out w2 HB2.out) ?_
        rintro e w3 ⟨rfl,hb3⟩
        have HB3:Hid (Below w.heap.size w w3):=trans2 HB2.out hb3
        have HN3:Hid _:=kept_block hb3 HN2.out
        have hnl:nb<w3.heap.size:=(Array.getElem?_eq_some_iff.1 HN3.out).1
        clear hb3 n0 n1 n2 n3 n4 n5 n6
        obtain ⟨n0,n1,n2,n3,n4,n5,n6⟩:=cells_7 HN3.out
        cases hth:th with
        | false =>
          obtain rfl:false=res:=(mayQ_no (fun h=>by rcases h.2.2.2.2.2.2.2 with h | h;exact HP.out h;rw [hth] at h;exact absurd h.1 (by decide))).symm.trans HRES.out
          go_wp2_with fail
          go_ret
          exact ⟨rfl,HB3.out.alloc HB3.out.size _⟩
        | true =>
          by_cases hup:up.o=0
          · obtain rfl:true=res:=(mayQ_iff.2 ⟨HDK.out.1,HDK.out.2,HALL.out.1,HALL.out.2.1,HALL.out.2.2.1,HALL.out.2.2.2,OKB,.inr ⟨hth,hup⟩⟩).symm.trans HRES.out
            have hbu:=HIB.out up
            rw [show decide (up.o≠0)=false by simp [hup]] at hbu
            have HBU:Hid _:=hbu
            clear hbu hup
            go_upto_region 12 with fail
            obtain ⟨w4,hw4⟩:∃ y,w3.alloc (.cells #[.string up.p,.string up.d,.int .i64 up.v,.int .i64 up.m,.int .i64 up.c,.int .i64 up.o,.int .i64 up.k] 27)=y:=⟨_,rfl⟩
            obtain ⟨ub,hub⟩:∃ y,w3.heap.size=y:=⟨_,rfl⟩
            have hb4:Below w3.heap.size w3 w4:=by rw [← hw4];exact (Below.refl _ _).alloc (Nat.le_refl _) _
            have HB4:Hid (Below w.heap.size w w4):=trans2 HB3.out hb4
            have HN4:Hid _:=kept_block hb4 HN3.out
            have HU4:Hid (w4.heap[ub]? = some (.cells #[.string up.p,.string up.d,.int .i64 up.v,.int .i64 up.m,.int .i64 up.c,.int .i64 up.o,.int .i64 up.k] 27 (0,0))):=by rw [← hw4,← hub];exact heap_alloc_new _ _
            rw [hw4,hub]
            clear hw4 hub hb4 n0 n1 n2 n3 n4 n5 n6 hnl
            obtain ⟨n0,n1,n2,n3,n4,n5,n6⟩:=cells_7 HN4.out
            obtain ⟨u0,u1,u2,u3,u4,u5,u6⟩:=cells_7 HU4.out
            go_wp2_with fail
            refine Calls.mono (HBU.out w4) ?_
            rintro e w5 ⟨rfl,hb5⟩
            have HB5:Hid (Below w.heap.size w w5):=trans2 HB4.out hb5
            clear hb5 n0 n1 n2 n3 n4 n5 n6 u0 u1 u2 u3 u4 u5 u6
            go_wp2_with fail
            go_ret
            exact ⟨rfl,HB5.out⟩
          · obtain rfl:false=res:=(mayQ_no (fun h=>by rcases h.2.2.2.2.2.2.2 with h | h;exact HP.out h;exact hup h.2)).symm.trans HRES.out
            have hbu:=HIB.out up
            rw [show decide (up.o≠0)=true by simp [hup]] at hbu
            have HBU:Hid _:=hbu
            clear hbu hup
            go_upto_region 12 with fail
            obtain ⟨w4,hw4⟩:∃ y,w3.alloc (.cells #[.string up.p,.string up.d,.int .i64 up.v,.int .i64 up.m,.int .i64 up.c,.int .i64 up.o,.int .i64 up.k] 27)=y:=⟨_,rfl⟩
            obtain ⟨ub,hub⟩:∃ y,w3.heap.size=y:=⟨_,rfl⟩
            have hb4:Below w3.heap.size w3 w4:=by rw [← hw4];exact (Below.refl _ _).alloc (Nat.le_refl _) _
            have HB4:Hid (Below w.heap.size w w4):=trans2 HB3.out hb4
            have HN4:Hid _:=kept_block hb4 HN3.out
            have HU4:Hid (w4.heap[ub]? = some (.cells #[.string up.p,.string up.d,.int .i64 up.v,.int .i64 up.m,.int .i64 up.c,.int .i64 up.o,.int .i64 up.k] 27 (0,0))):=by rw [← hw4,← hub];exact heap_alloc_new _ _
            rw [hw4,hub]
            clear hw4 hub hb4 n0 n1 n2 n3 n4 n5 n6 hnl
            obtain ⟨n0,n1,n2,n3,n4,n5,n6⟩:=cells_7 HN4.out
            obtain ⟨u0,u1,u2,u3,u4,u5,u6⟩:=cells_7 HU4.out
            go_wp2_with fail
            refine Calls.mono (HBU.out w4) ?_
            rintro e w5 ⟨rfl,hb5⟩
            have HB5:Hid (Below w.heap.size w w5):=trans2 HB4.out hb5
            clear hb5 n0 n1 n2 n3 n4 n5 n6 u0 u1 u2 u3 u4 u5 u6
            go_wp2_with fail
            go_ret
            exact ⟨rfl,HB5.out⟩
      · by_cases hk:x.k=0
        · have OKB:x.o=0∨(x.p≠pRt∧x.k=0):=.inr ⟨hp,hk⟩
          have hkb:(x.k != 0)=false:=by simpa using hk
          rw [show decide (x.o≠0)=true by simp [ho]]
          clear ho hp hk
          go_wp2_with fail
          refine Calls.mono (HPM.out w2 HB2.out) ?_
          rintro e w3 ⟨rfl,hb3⟩
          have HB3:Hid (Below w.heap.size w w3):=trans2 HB2.out hb3
          have HN3:Hid _:=kept_block hb3 HN2.out
          have hnl:nb<w3.heap.size:=(Array.getElem?_eq_some_iff.1 HN3.out).1
          clear hb3 n0 n1 n2 n3 n4 n5 n6
          obtain ⟨n0,n1,n2,n3,n4,n5,n6⟩:=cells_7 HN3.out
          cases hth:th with
          | false =>
            obtain rfl:false=res:=(mayQ_no (fun h=>by rcases h.2.2.2.2.2.2.2 with h | h;exact HP.out h;rw [hth] at h;exact absurd h.1 (by decide))).symm.trans HRES.out
            go_wp2_with fail
            go_ret
            exact ⟨rfl,HB3.out.alloc HB3.out.size _⟩
          | true =>
            by_cases hup:up.o=0
            · obtain rfl:true=res:=(mayQ_iff.2 ⟨HDK.out.1,HDK.out.2,HALL.out.1,HALL.out.2.1,HALL.out.2.2.1,HALL.out.2.2.2,OKB,.inr ⟨hth,hup⟩⟩).symm.trans HRES.out
              have hbu:=HIB.out up
              rw [show decide (up.o≠0)=false by simp [hup]] at hbu
              have HBU:Hid _:=hbu
              clear hbu hup
              go_upto_region 12 with fail
              obtain ⟨w4,hw4⟩:∃ y,w3.alloc (.cells #[.string up.p,.string up.d,.int .i64 up.v,.int .i64 up.m,.int .i64 up.c,.int .i64 up.o,.int .i64 up.k] 27)=y:=⟨_,rfl⟩
              obtain ⟨ub,hub⟩:∃ y,w3.heap.size=y:=⟨_,rfl⟩
              have hb4:Below w3.heap.size w3 w4:=by rw [← hw4];exact (Below.refl _ _).alloc (Nat.le_refl _) _
              have HB4:Hid (Below w.heap.size w w4):=trans2 HB3.out hb4
              have HN4:Hid _:=kept_block hb4 HN3.out
              have HU4:Hid (w4.heap[ub]? = some (.cells #[.string up.p,.string up.d,.int .i64 up.v,.int .i64 up.m,.int .i64 up.c,.int .i64 up.o,.int .i64 up.k] 27 (0,0))):=by rw [← hw4,← hub];exact heap_alloc_new _ _
              rw [hw4,hub]
              clear hw4 hub hb4 n0 n1 n2 n3 n4 n5 n6 hnl
              obtain ⟨n0,n1,n2,n3,n4,n5,n6⟩:=cells_7 HN4.out
              obtain ⟨u0,u1,u2,u3,u4,u5,u6⟩:=cells_7 HU4.out
              go_wp2_with fail
              refine Calls.mono (HBU.out w4) ?_
              rintro e w5 ⟨rfl,hb5⟩
              have HB5:Hid (Below w.heap.size w w5):=trans2 HB4.out hb5
              clear hb5 n0 n1 n2 n3 n4 n5 n6 u0 u1 u2 u3 u4 u5 u6
              go_wp2_with fail
              go_ret
              exact ⟨rfl,HB5.out⟩
            · obtain rfl:false=res:=(mayQ_no (fun h=>by rcases h.2.2.2.2.2.2.2 with h | h;exact HP.out h;exact hup h.2)).symm.trans HRES.out
              have hbu:=HIB.out up
              rw [show decide (up.o≠0)=true by simp [hup]] at hbu
              have HBU:Hid _:=hbu
              clear hbu hup
              go_upto_region 12 with fail
              obtain ⟨w4,hw4⟩:∃ y,w3.alloc (.cells #[.string up.p,.string up.d,.int .i64 up.v,.int .i64 up.m,.int .i64 up.c,.int .i64 up.o,.int .i64 up.k] 27)=y:=⟨_,rfl⟩
              obtain ⟨ub,hub⟩:∃ y,w3.heap.size=y:=⟨_,rfl⟩
              have hb4:Below w3.heap.size w3 w4:=by rw [← hw4];exact (Below.refl _ _).alloc (Nat.le_refl _) _
              have HB4:Hid (Below w.heap.size w w4):=trans2 HB3.out hb4
              have HN4:Hid _:=kept_block hb4 HN3.out
              have HU4:Hid (w4.heap[ub]? = some (.cells #[.string up.p,.string up.d,.int .i64 up.v,.int .i64 up.m,.int .i64 up.c,.int .i64 up.o,.int .i64 up.k] 27 (0,0))):=by rw [← hw4,← hub];exact heap_alloc_new _ _
              rw [hw4,hub]
              clear hw4 hub hb4 n0 n1 n2 n3 n4 n5 n6 hnl
              obtain ⟨n0,n1,n2,n3,n4,n5,n6⟩:=cells_7 HN4.out
              obtain ⟨u0,u1,u2,u3,u4,u5,u6⟩:=cells_7 HU4.out
              go_wp2_with fail
              refine Calls.mono (HBU.out w4) ?_
              rintro e w5 ⟨rfl,hb5⟩
              have HB5:Hid (Below w.heap.size w w5):=trans2 HB4.out hb5
              clear hb5 n0 n1 n2 n3 n4 n5 n6 u0 u1 u2 u3 u4 u5 u6
              go_wp2_with fail
              go_ret
              exact ⟨rfl,HB5.out⟩
        · obtain rfl:false=res:=(mayQ_no (fun h=>by rcases h.2.2.2.2.2.2.1 with h | h;exact ho h;exact hk h.2)).symm.trans HRES.out
          have hkb:(x.k != 0)=true:=by simpa using hk
          rw [show decide (x.o≠0)=true by simp [ho]]
          clear ho hp hk
          go_wp2_with fail
          go_ret
          exact ⟨rfl,HB2.out⟩
end Go.Proofs.YtckmihplkhmpnaaGreatDoor
