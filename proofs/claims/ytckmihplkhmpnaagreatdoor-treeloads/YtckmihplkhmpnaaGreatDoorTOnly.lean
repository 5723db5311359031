import Derived.Test.YtckmihplkhmpnaaGreatDoorTPlyE
import Derived.Test.YtckmihplkhmpnaaGreatDoorTRefZ
import Derived.Test.YtckmihplkhmpnaaGreatDoorTLoadedW
import Derived.Test.YtckmihplkhmpnaaGreatDoorTLdR
import Derived.Test.YtckmihplkhmpnaaGreatDoorTPlyP
import Derived.Test.YtckmihplkhmpnaaGreatDoorTRng
import Derived.Deep.CutRange
namespace Go.Proofs.YtckmihplkhmpnaaGreatDoor
open Go.RowKit Go.Maps Go.WideShapes
set_option linter.unusedVariables false
set_option linter.unusedSimpArgs false
theorem owns_cap {w:World} {B e s n g cap:Nat} {xs:List Value} (h:w.ownsRow B e s (.slice (some ⟨g,0,none⟩) n cap) n xs):n≤cap:=by
 rcases h.2 with ⟨h0,_⟩ | ⟨g',cap',cur,hv,_,hg,hn,_⟩
 · cases h0
 · cases hv
   exact hn
theorem blk_of {w:World} {B e s n g cap:Nat} {xs:List Value} (h:w.ownsRow B e s (.slice (some ⟨g,0,none⟩) n cap) n xs) (k:Nat):w.frozen? ⟨g,k,none⟩=false:=by
 rcases h.2 with ⟨h0,_⟩ | ⟨g',cap',cur,hv,hB,hg,hn,hc,hsz,ht⟩
 · cases h0
 · cases hv
   simp [World.frozen?,hg]
theorem some_n {w:World} {B e s n g cap k:Nat} {xs:List Value} (h:w.ownsRow B e s (.slice (some ⟨g,0,none⟩) n cap) n xs) (hk:k<n * s):∃ x,w.cell? ⟨g,k,none⟩=some x:=by
 have hl:k<xs.length:=by have:=h.1;omega
 exact ⟨xs[k],cell_n h (List.getElem?_eq_getElem hl)⟩
theorem ops_row {w:World} {base g n cap:Nat} {os:List OpT} {rest:List Value} (h:w.ownsRow base 66 5 (.slice (some ⟨g,0,none⟩) n cap) n (opCs os ++ rest)):OpsAt w w.heap.size (some ⟨g,0,none⟩) os:=fun i o hi=>by
 refine ⟨g,0,rfl,(h.lt g rfl).2,fun j x hx=>?_⟩
 rw [Nat.zero_add]
 exact cell_n h (opCs_at os i j o x hi hx _)
structure Bag (w wk:World) (v:Value) (cs:Array Value) (vb:Nat) (va:Value) (rb:Nat) (rcs:Array Value) (na:Option Addr) (T:List Nd) (B:Nat) (rv:Value) (L:List RsT) (cv:Value) (C:List ChT):Prop where
 tr:wk.heap[w.heap.size]? = some (.cells #[v] 29 (0,0))
 sp:wk.heap[w.heap.size+1]? = some (.cells cs 48 (0,0))
 rs:wk.heap[w.heap.size+1+1]? = some (.cells #[.slice none 0 0] 29 (0,0))
 vb:wk.heap[vb]? = some (.cells #[va] 29 (0,0))
 rb:wk.heap[rb]? = some (.cells rcs 61 (0,0))
 nds:NdsAt wk na T
 rsd:RsD wk B rv L
 ch:wk.ownsRow B 69 4 cv C.length (chCs C)
theorem Bag.below {w wk wk':World} {v:Value} {cs:Array Value} {vb:Nat} {va:Value} {rb:Nat} {rcs:Array Value} {na:Option Addr} {T:List Nd} {B:Nat} {rv:Value} {L:List RsT} {cv:Value} {C:List ChT} (h:Bag w wk v cs vb va rb rcs na T B rv L cv C) (hb:Below wk.heap.size wk wk'):Bag w wk' v cs vb va rb rcs na T B rv L cv C :=
 ⟨kept_block hb h.tr,kept_block hb h.sp,kept_block hb h.rs,kept_block hb h.vb,kept_block hb h.rb,h.nds.below hb,h.rsd.below hb,owns_chg h.ch (Chg.of_below hb (fun _=>False)) (fun _ _=>id)⟩
theorem Bag.chg {w wk wk':World} {v:Value} {cs:Array Value} {vb:Nat} {va:Value} {rb:Nat} {rcs:Array Value} {na:Option Addr} {T:List Nd} {B:Nat} {rv:Value} {L:List RsT} {cv:Value} {C:List ChT} {S:Nat→Prop} (h:Bag w wk v cs vb va rb rcs na T B rv L cv C) (hc:Chg wk wk' S) (hs:∀ k,S k→∃ cur t,(t=57∨t=44∨t=66)∧wk.heap[k]? = some (.cells cur t (0,0))):Bag w wk' v cs vb va rb rcs na T B rv L cv C:=by
 have hno:∀ {k t':Nat} {cur':Array Value},wk.heap[k]? = some (.cells cur' t' (0,0))→t'≠57→t'≠44→t'≠66→¬ S k:=fun {k t' cur'} hk h1 h2 h3 e=>by
  obtain ⟨cur,t,ht,hk'⟩:=hs k e
  rw [hk] at hk'
  simp at hk'
  obtain ⟨_,rfl⟩:=hk'
  rcases ht with ht | ht | ht
  · exact h1 ht
  · exact h2 ht
  · exact h3 ht
 refine ⟨kept_chg hc h.tr (hno h.tr (by decide) (by decide) (by decide)),kept_chg hc h.sp (hno h.sp (by decide) (by decide) (by decide)),kept_chg hc h.rs (hno h.rs (by decide) (by decide) (by decide)),kept_chg hc h.vb (hno h.vb (by decide) (by decide) (by decide)),kept_chg hc h.rb (hno h.rb (by decide) (by decide) (by decide)),h.nds.chg hc (fun k e cur hk=>hno hk (by decide) (by decide) (by decide) e),h.rsd.chg hc (fun k e cur=>⟨fun hk=>hno hk (by decide) (by decide) (by decide) e,fun hk=>hno hk (by decide) (by decide) (by decide) e⟩),owns_chg h.ch hc (fun k hk e=>?_)⟩
 obtain ⟨cur,h9⟩:=owns_kind h.ch hk
 exact hno h9 (by decide) (by decide) (by decide) e
structure Ans (wk:World) (B xb:Nat) (xcs:Array Value) (rv:Value) (L:List RsT) (cv:Value) (C:List ChT):Prop where
 xb:wk.heap[xb]? = some (.cells xcs 61 (0,0))
 rs:RsAt wk B rv L.length L
 ch:wk.ownsRow B 69 4 cv C.length (chCs C)
theorem Ans.below {wk wk':World} {B xb:Nat} {xcs:Array Value} {rv:Value} {L:List RsT} {cv:Value} {C:List ChT} (h:Ans wk B xb xcs rv L cv C) (hb:Below wk.heap.size wk wk'):Ans wk' B xb xcs rv L cv C :=
 ⟨kept_block hb h.xb,h.rs.below hb,owns_chg h.ch (Chg.of_below hb (fun _=>False)) (fun _ _=>id)⟩
theorem Ans.row {wk wk':World} {B xb g:Nat} {xcs:Array Value} {rv:Value} {L:List RsT} {cv:Value} {C:List ChT} (h:Ans wk B xb xcs rv L cv C) (hc:Chg wk wk' (fun k=>k=g)) (hk:∃ cur,wk.heap[g]? = some (.cells cur 66 (0,0))):Ans wk' B xb xcs rv L cv C:=by
 obtain ⟨cur,hk⟩:=hk
 have hno:∀ {k t':Nat} {cur':Array Value},wk.heap[k]? = some (.cells cur' t' (0,0))→t'≠66→¬ k=g:=fun {k t' cur'} hk' h1 e=>by
  rw [e,hk] at hk'
  simp at hk'
  exact h1 hk'.2.symm
 have hr:∀ {B' t sz m:Nat} {v:Value} {xs:List Value},wk.ownsRow B' t sz v m xs→t≠66→wk'.ownsRow B' t sz v m xs:=fun hr h1=>owns_chg hr hc (fun k hk' e=>by
  obtain ⟨cur',h9⟩:=owns_kind hr hk'
  exact hno h9 h1 e)
 exact ⟨kept_chg hc h.xb (hno h.xb (by decide)),⟨hr h.rs.row (by decide),h.rs.le,fun x hx=>hr (h.rs.kids x hx) (by decide)⟩,hr h.ch (by decide)⟩
end Go.Proofs.YtckmihplkhmpnaaGreatDoor
namespace Go.Proofs.YtckmihplkhmpnaaGreatDoor
open Go.RowKit Go.Maps Go.WideShapes
set_option linter.unusedVariables false
set_option linter.unusedSimpArgs false
attribute [local go_sem ↓] Go.wp_at_zero Go.wp_at_succ
theorem FusAt.cells {w:World} {b f:Nat} {T:List Nd} (h:FusAt w (some ⟨b,f,none⟩) T) {q:Nat} {x:Nd} (hx:T[q]? = some x):b<w.heap.size∧w.cell? ⟨b,f+q * 7,none⟩=some (.string x.p)∧w.cell? ⟨b,f+q * 7+1,none⟩=some (.string x.d)∧w.cell? ⟨b,f+q * 7+2,none⟩=some (.int .i64 x.v)∧w.cell? ⟨b,f+q * 7+3,none⟩=some (.int .i64 x.m)∧w.cell? ⟨b,f+q * 7+4,none⟩=some (.int .i64 x.c)∧w.cell? ⟨b,f+q * 7+5,none⟩=some (.int .i64 x.o)∧w.cell? ⟨b,f+q * 7+6,none⟩=some (.int .i64 x.k):=by
 obtain ⟨b',f',e,hl,hc⟩:=h q x hx
 simp only [Option.some.injEq,Addr.mk.injEq,and_true] at e
 obtain ⟨rfl,rfl⟩:=e
 have h0:=hc 0 _ rfl
 rw [Nat.add_zero] at h0
 exact ⟨hl,h0,hc 1 _ rfl,hc 2 _ rfl,hc 3 _ rfl,hc 4 _ rfl,hc 5 _ rfl,hc 6 _ rfl⟩
set_option maxHeartbeats 6400000 in
set_option maxRecDepth 100000 in
theorem fullsG_any (a b:Option Addr) (c d:Nat) (T:List Nd) (w:World) (h1:FusAt w a T) (h2:NdsAt w b T) (hl:T.length≤4611686018427387904) :
  Calls Tryz.prog 7 #[.slice a T.length c,.slice b T.length d] w fun e w'=>e=.returned (.bool true)∧Below w.heap.size w w':=by
 have H1:Hid (FusAt w a T):=h1
 have H2:Hid (NdsAt w b T):=h2
 obtain ⟨N,hN⟩:∃ N,T.length=N:=⟨_,rfl⟩
 have HN:Hid (T.length=N):=hN
 rw [hN] at hl ⊢
 clear h1 h2 hN
 go_enter Tryz.func7,Tryz.ntmps7
 go_wp2_with fail
 go_loopw [5] (fun i wr=>∃ q:Nat,i=.int .i64 q∧q≤N∧Hid (Below w.heap.size w wr)) (fun i _=>N - (intOf i).toNat)
 case atStart=>exact ⟨0,rfl,Nat.zero_le _,Below.refl _ _⟩
 case round =>
  obtain ⟨q,rfl,hq,HB⟩:=hrel
  by_cases hlt:q<N
  · have hlt':(q:Int)<(N:Int):=by omega
    obtain ⟨x,hx⟩:∃ x,T[q]? = some x:=⟨T[q]'(by rw [HN.out];exact hlt),List.getElem?_eq_getElem _⟩
    obtain ⟨b1,f1,rfl,_⟩:=H1.out q x hx
    obtain ⟨b2,f2,rfl⟩:=H2.out.some hx
    obtain ⟨l1,k0,k1,k2,k3,k4,k5,k6⟩:=(H1.out.below HB.out).cells hx
    obtain ⟨l2,m0,m1,m2,m3,m4,m5,m6⟩:=(H2.out.below HB.out).cells hx
    clear hx
    go_upto_region 6 with fail
    go_quiet (fail)
    go_wp2_with fail
    go_roundw
    case rel=>exact ⟨q+1,by go_num,by omega,below_dN HB.out _⟩
    case measure=>simp [intOf];omega
  · obtain rfl:q=N:=by omega
    go_wp2_with fail
    go_ret
    exact ⟨rfl,HB.out⟩
def ndEl (x:Nd):Fa.El 7:=⟨x.cs,rfl,by simp [Nd.cs,Value.oneCell']⟩
def roomN:Nd:=⟨⟨#[114,111,111,109]⟩,⟨#[]⟩,0,0,0,0,0⟩
def RoomAt (w:World) (B g cap:Nat) (T:List Nd):Prop:=w.ownsRow B 27 7 (.slice (some ⟨g,0,none⟩) (T.length+1) cap) (T.length+1) (Fa.fl ((T ++ [roomN]).map ndEl))
theorem fl_nd (T:List Nd):Fa.fl (T.map ndEl)=T.flatMap Nd.cs:=by
 show (T.map ndEl).flatMap (fun e:Fa.El 7=>e.1)=_
 rw [List.flatMap_map]
 rfl
theorem RoomAt.fusR {w:World} {B g cap:Nat} {T:List Nd} (h:RoomAt w B g cap T):FusAt w (some ⟨g,0,none⟩) (T ++ [roomN]):=fun i x hx=>by
 refine ⟨g,0,rfl,(h.lt g rfl).2,fun j v hv=>?_⟩
 rw [Nat.zero_add]
 have h9:w.ownsRow B 27 7 (.slice (some ⟨g,0,none⟩) (T.length+1) cap) (T.length+1) ((T ++ [roomN]).flatMap Nd.cs):=by rw [← fl_nd];exact h
 exact Fa.cell_n h9 (Fa.flat_at (cells:=Nd.cs) (fun _=>rfl) hx hv)
theorem RoomAt.fus {w:World} {B g cap:Nat} {T:List Nd} (h:RoomAt w B g cap T):FusAt w (some ⟨g,0,none⟩) T:=fun i x hx=>h.fusR i x (by rw [List.getElem?_append_left (List.getElem?_eq_some_iff.1 hx).1];exact hx)
theorem RoomAt.set {w:World} {B g cap:Nat} {T:List Nd} (h:RoomAt w B g cap T) {i:Nat} (hi:i<T.length) (y:Nd):RoomAt (w.setCells g (i * 7) y.cs) B g cap (T.set i y):=by
 have h1:w.ownsRow B 27 7 (.slice (some ⟨g,0,none⟩) ((T ++ [roomN]).map ndEl).length cap) ((T ++ [roomN]).map ndEl).length (Fa.fl ((T ++ [roomN]).map ndEl)):=by
  have e:((T ++ [roomN]).map ndEl).length=T.length+1:=by simp
  rw [e]
  exact h
 have h2:=Fa.row_sets (by decide) h1 i (ndEl y) (by simp;omega)
 have e1:((T ++ [roomN]).map ndEl).set i (ndEl y)=((T.set i y) ++ [roomN]).map ndEl:=by
  rw [← List.map_set,List.set_append_left _ _ hi]
 have e2:(((T.set i y) ++ [roomN]).map ndEl).length=T.length+1:=by simp
 have e3:(T.set i y).length+1=T.length+1:=by simp
 have e4:((T ++ [roomN]).map ndEl).length=T.length+1:=by simp
 unfold RoomAt
 rw [e1] at h2
 rw [e3]
 first
  | (rw [e2] at h2;exact h2)
  | (rw [e4] at h2;exact h2)
  | (rw [e4,e2] at h2;exact h2)
theorem RoomAt.chg {w w':World} {B g cap:Nat} {T:List Nd} {S:Nat→Prop} (h:RoomAt w B g cap T) (hc:Chg w w' S) (hs:¬ S g):RoomAt w' B g cap T:=owns_chg h hc (fun k hk e=>hs (by
 have e':g=k:=by simpa [Value.ownBlock] using hk
 rw [e'];exact e))
theorem RoomAt.below {w w':World} {B g cap:Nat} {T:List Nd} (h:RoomAt w B g cap T) (hb:Below w.heap.size w w'):RoomAt w' B g cap T:=h.chg (Chg.of_below hb (fun _=>False)) id
def tnx (t N i:Nat) (x:Nd):Nd:=if t=0 then { x with p:=x.p ++ ⟨#[120]⟩ } else if t=1∧i+1=N then { x with d:=⟨#[111,116,104,101,114]⟩ } else x
def tnL (t:Nat) (T:List Nd):List Nd:=T.mapIdx (fun i x=>tnx t T.length i x)
theorem tnL_len (t:Nat) (T:List Nd):(tnL t T).length=T.length:=by simp [tnL]
theorem tnL_at {t:Nat} {T:List Nd} {i:Nat} {x:Nd} (hx:T[i]? = some x):(tnL t T)[i]? = some (tnx t T.length i x):=by
 unfold tnL
 rw [List.getElem?_mapIdx,hx]
 rfl
end Go.Proofs.YtckmihplkhmpnaaGreatDoor
namespace Go.Proofs.YtckmihplkhmpnaaGreatDoor
open Go.RowKit Go.Maps Go.WideShapes
set_option linter.unusedVariables false
set_option linter.unusedSimpArgs false
theorem RsAt.kind {w w':World} {B N:Nat} {rv:Value} {L:List RsT} {S:Nat→Prop} (h:RsAt w B rv N L) (hc:Chg w w' S) (hs:∀ k,S k→∃ cur t,t≠103∧t≠9∧w.heap[k]? = some (.cells cur t (0,0))):RsAt w' B rv N L:=by
 have hr:∀ {B' t sz m:Nat} {v:Value} {xs:List Value},w.ownsRow B' t sz v m xs→(t=103∨t=9)→w'.ownsRow B' t sz v m xs:=fun hr ht=>owns_chg hr hc (fun k hk e=>by
  obtain ⟨cur,t',h1,h2,h3⟩:=hs k e
  obtain ⟨cur',h9⟩:=owns_kind hr hk
  rw [h9] at h3
  simp at h3
  rcases ht with ht | ht
  · exact h1 (h3.2.symm.trans ht)
  · exact h2 (h3.2.symm.trans ht))
 exact ⟨hr h.row (.inl rfl),h.le,fun x hx=>hr (h.kids x hx) (.inr rfl)⟩
abbrev rpC (st code:Int) (at':Nat) (v:Value):Array Value:=#[.int .i64 st,.int .i64 code,.int .i64 at',v]
structure Aft (W w w3 wc:World) (base db tb q g cap K:Nat) (os:List OpT) (st code:Int) (at':Nat) (v:Value) (cs:Array Value) (vb:Nat) (va:Value) (rv1:Value) (na:Option Addr) (T:List Nd) (R:List ResT) (B:Nat) (L:List RsT) (cv:Value) (C:List ChT) (xb:Nat) (L2:List RsT) (B2:Nat) (rv2 cv2:Value):Prop where
 map:L2.map RsT.r=R
 ans:Ans wc B2 xb (rpC st code at' rv2) rv2 L2 cv2 C
 bag:Bag w wc v cs vb va (vb+1) (rpC st code at' rv1) na T B rv1 L cv C
 desk:DeskAt wc base db (.slice (some ⟨g,0,none⟩) (K+2) cap)
 row:wc.ownsRow base 66 5 (.slice (some ⟨g,0,none⟩) (K+2) cap) (K+2) (opCs os ++ roomCs)
 tr:TrAt wc base tb (q+1) T
 chg:Chg w3 wc (fun k=>k=tb)
 xlo:w3.heap.size≤xb
theorem Aft.mk1 {W w w3 w4 wc:World} {base db tb q g cap K:Nat} {os:List OpT} {st code:Int} {at':Nat} {v:Value} {cs:Array Value} {vb:Nat} {va:Value} {rv1:Value} {na:Option Addr} {T:List Nd} {R:List ResT} {B:Nat} {L:List RsT} {cv:Value} {C:List ChT} {xb:Nat} {L2:List RsT} {B2:Nat} {rv2 cv2:Value}
  (hm:L2.map RsT.r=R) (hrs:RsAt w4 B2 rv2 L2.length L2) (hch:w4.ownsRow B2 69 4 cv2 C.length (chCs C)) (ht:TrAt w4 base tb (q+1) T) (hc:Chg w3 w4 (fun k=>k=tb)) (hbag:Bag w w3 v cs vb va (vb+1) (rpC st code at' rv1) na T B rv1 L cv C) (hd:DeskAt w3 base db (.slice (some ⟨g,0,none⟩) (K+2) cap)) (hr:w3.ownsRow base 66 5 (.slice (some ⟨g,0,none⟩) (K+2) cap) (K+2) (opCs os ++ roomCs)) (htb:∃ v,w3.heap[tb]? = some (.cells #[v] 57 (0,0)))
  (hx:wc.heap[xb]? = some (.cells (rpC st code at' rv2) 61 (0,0))) (hlo:w3.heap.size≤xb) (hc':Chg w4 wc (fun k=>k=xb)) (hk:xb<w4.heap.size→∃ cur,w4.heap[xb]? = some (.cells cur 61 (0,0))) :
  Aft W w w3 wc base db tb q g cap K os st code at' v cs vb va rv1 na T R B L cv C xb L2 B2 rv2 cv2:=by
 obtain ⟨tv,htb⟩:=htb
 have hc2:Chg w4 wc (fun k=>k=xb∧k<w4.heap.size):=hc'.mono (fun k h e=>⟨e,h⟩)
 have hkd:∀ k,(k=xb∧k<w4.heap.size)→∃ cur,w4.heap[k]? = some (.cells cur 61 (0,0)):=fun k e=>by
  obtain ⟨rfl,h9⟩:=e
  exact hk h9
 have hc3:Chg w3 wc (fun k=>k=tb):=hc.trans' hc' (fun k e=>.inr (by rw [show k=xb from e];exact hlo))
 refine ⟨hm,⟨hx,hrs.kind hc2 (fun k e=>?_),owns_chg hch hc2 (fun k hk' e=>?_)⟩,hbag.chg hc3 (fun k e=>⟨#[tv],57,.inl rfl,by rw [show k=tb from e];exact htb⟩),hd.chg hc3 (fun k e=>⟨#[tv],57,by decide,by decide,by rw [show k=tb from e];exact htb⟩),owns_chg hr hc3 (fun k hk' e=>?_),ht.chg hc2 (fun k e=>?_),hc3,hlo⟩
 · obtain ⟨cur,h9⟩:=hkd k e
   exact ⟨cur,61,by decide,by decide,h9⟩
 · obtain ⟨cur,h9⟩:=hkd k e
   obtain ⟨cur',h8⟩:=owns_kind hch hk'
   rw [h8] at h9
   simp at h9
 · obtain ⟨cur',h8⟩:=owns_kind hr hk'
   rw [show k=tb from e,htb] at h8
   simp at h8
 · obtain ⟨cur,h9⟩:=hkd k e
   exact .inl ⟨cur,61,by decide,h9⟩
set_option maxHeartbeats 16000000 in
set_option maxRecDepth 100000 in
theorem ply_play (W w:World) (db tb q:Nat) (dv:Value) (a:Option Addr) (c:Nat) (T:List Nd) (h:Sit W w db tb q dv a T) (hg:GroundT W) (hgc:GroundC W) (hq:q≤900) (os:List OpT) (s st nn:Int) (oa:Option Addr) (oc:Nat) (pl:ByteArray) (ho:OpsAt W W.heap.size oa os) (hok:∀ o∈os,o.Ok) (hl:os.length≤2513169434846) :
  Calls Tryz.prog 12 #[.pointer (some ⟨tb,0,none⟩),rtV a T.length c,.agg (stCs 1 s st oa os.length oc pl nn),.pointer (some ⟨db,0,none⟩)] w (PlE W w db tb q dv (playM T s st os).T):=by
 have HRP:Hid (∀ w',Below w.heap.size w w'→Calls Tryz.prog 22 #[rtV a T.length c,.int .i64 s,.int .i64 st,.slice oa os.length oc] w' (PlayD w' st (playM T s st os))):=fun w' hb=>refPlay_any a c T s st oa oc os w' (h.nds.below hb) h.tr.snd.inv h.tr.snd.ne (opsAt_mono (ho.below (trans2 h.low hb)) (trans2 h.low hb).size)
 have HPT:Hid (∀ (w':World) (g cap:Nat),Below W.heap.size W w'→TrAt w' W.heap.size tb q T→OpsAt w' w'.heap.size (some ⟨g,0,none⟩) os→_):=fun w' g cap hb ht ho'=>play_tr W.heap.size tb q T s st (some ⟨g,0,none⟩) cap os w' (hg.below hb) (hgc.below hb) ht hq ho' hok
 have HTW:Hid (∀ w',Below w.heap.size w w'→_):=fun w' hb=>twin_any W.heap.size db dv w' os oa oc (Nat.le_trans h.low.size hb.size) (h.desk.below hb) (ho.below (trans2 h.low hb)) hl
 have HUN:Hid (∀ (w':World) (g cap:Nat),Below W.heap.size W w'→w'.ownsRow W.heap.size 66 5 (.slice (some ⟨g,0,none⟩) (os.length+2) cap) (os.length+2) (opCs os ++ roomCs)→_):=fun w' g cap hb hr=>untouched_any W.heap.size g cap w' os oa oc (ho.below hb) hr hl
 have HKD:Hid (∀ r∈(playM T s st os).R,r.kids.length≤64):=playM_kids h.tr.snd.inv s st os
 have HLN:Hid ((playM T s st os).R.length≤4∧(playM T s st os).C.length≤4):=play_lens T s st os
 have HRG:Hid (Rng (playM T s st os).T):=rng_play h.rng s st os
 have H:Hid _:=h
 have htl:tb<w.heap.size:=h.tr.lt
 have hWt:W.heap.size≤tb:=h.tr.lo
 have hWl:W.heap.size≤w.heap.size:=h.low.size
 obtain ⟨N,hN⟩:∃ N,T.length=N:=⟨_,rfl⟩
 obtain ⟨K,hK⟩:∃ K,os.length=K:=⟨_,rfl⟩
 obtain ⟨M,hM⟩:∃ M,playM T s st os=M:=⟨_,rfl⟩
 rw [hN] at HRP ⊢
 rw [hM] at HRP HPT HKD HLN HRG ⊢
 rw [hK] at HRP HPT HTW HUN hl ⊢
 obtain ⟨code,at',MT,MR,MC⟩:=M
 obtain ⟨MN,hMN⟩:∃ n,MT.length=n:=⟨_,rfl⟩
 have HMN:Hid (MT.length=MN):=hMN
 clear h hg hgc ho hok hN hK hM hMN
 show Calls _ _ _ _ (PlE W w db tb q dv MT)
 obtain ⟨cs,hcs⟩:∃ cs,stCs 1 s st oa K oc pl nn=cs:=⟨_,rfl⟩
 have HCS:Hid (stCs 1 s st oa K oc pl nn=cs):=hcs
 have HS:Hid (PlI w (pW0 w (.slice a N c) (stCs 1 s st oa K oc pl nn)) (.slice a N c) cs):=by rw [← hcs];exact plI_start w (.slice a N c) (stCs 1 s st oa K oc pl nn)
 clear hcs
 go_enter Tryz.func12,Tryz.ntmps12
 go_wp2_with fail
 refine Calls.mono (HRP.out _ HS.out.low) ?_
 rintro e w1 ⟨a1,c1,rv1,ca1,cc1,L1,rfl,hR1,hrs1,hn1,hch1,hb1⟩
 obtain ⟨ra1,rc1,rfl⟩:=slice_of' hrs1.row
 have H1:Hid (PlI w w1 (.slice a N c) cs):=HS.out.below hb1
 have HR1:Hid (L1.map RsT.r=MR):=hR1
 obtain ⟨B1,hB1⟩:∃ B,(pW0 w (.slice a N c) (stCs 1 s st oa K oc pl nn)).heap.size=B:=⟨_,rfl⟩
 have HRS1:Hid (RsD w1 B1 (.slice ra1 L1.length rc1) L1):=by rw [← hB1];exact hrs1
 have HN1:Hid (NdsAt w1 a1 MT):=hn1
 have HCH1:Hid (w1.ownsRow B1 69 4 (.slice ca1 MC.length cc1) MC.length (chCs MC)):=by rw [← hB1];exact hch1
 clear hR1 hrs1 hn1 hch1 hb1 hB1
 simp only [HMN.out]
 go_upto_region 4 with fail
 obtain ⟨w2,hw2⟩:∃ y,(w1.alloc (.cells #[.slice a1 MN c1] 29)).alloc (.cells #[.int .i64 st,.int .i64 code,.int .i64 at',.slice ra1 L1.length rc1] 61)=y:=⟨_,rfl⟩
 obtain ⟨vb,hvb⟩:∃ y,w1.heap.size=y:=⟨_,rfl⟩
 have hb12:Below w1.heap.size w1 w2:=by rw [← hw2];exact ((Below.refl _ _).alloc (Nat.le_refl _) _).alloc (by simp) _
 have HBG2:Hid (Bag w w2 (.slice a N c) cs vb (.slice a1 MN c1) (vb+1) (rpC st code at' (.slice ra1 L1.length rc1)) a1 MT B1 (.slice ra1 L1.length rc1) L1 (.slice ca1 MC.length cc1) MC):=by
  have h2:=H1.out.below hb12
  exact ⟨h2.tr,h2.sp,h2.rs,by rw [← hw2,← hvb];exact heap_alloc2_old _ _ _,by rw [← hw2,← hvb];exact heap_alloc2_new _ _ _,HN1.out.below hb12,HRS1.out.below hb12,owns_chg HCH1.out (Chg.of_below hb12 (fun _=>False)) (fun _ _=>id)⟩
 have HB2:Hid (Below w.heap.size w w2):=trans2 H1.out.low hb12
 have HVB:Hid (w.heap.size+1+1<vb∧vb+1<w2.heap.size):=⟨by rw [← hvb];exact (Array.getElem?_eq_some_iff.1 H1.out.rs).1,(Array.getElem?_eq_some_iff.1 HBG2.out.rb).1⟩
 rw [hw2,hvb]
 clear hw2 hvb hb12
 have hsp2:=HBG2.out.sp
 rw [← HCS.out] at hsp2
 obtain ⟨s0,s1,s2,s3,s4,s5⟩:=cells_6 hsp2
 clear hsp2
 go_wp2_with fail
 refine Calls.mono (HTW.out w2 HB2.out) ?_
 rintro e w3 ⟨g,cap,rfl,hd3,hr3,hb3,hc3,hg3⟩
 have hkd3:∀ k,(k=db∨dv.ownBlock=some k)→∃ cur t,(t=44∨t=66)∧w2.heap[k]? = some (.cells cur t (0,0)):=fun k e=>by
  obtain ⟨e1,_,n0,xs0,e3⟩:=H.out.desk.below HB2.out
  rcases e with e | e
  · exact ⟨#[dv],44,.inl rfl,by rw [e];exact e1⟩
  · obtain ⟨cur,h9⟩:=owns_kind e3 e
    exact ⟨cur,66,.inr rfl,h9⟩
 have HBG3:Hid (Bag w w3 (.slice a N c) cs vb (.slice a1 MN c1) (vb+1) (rpC st code at' (.slice ra1 L1.length rc1)) a1 MT B1 (.slice ra1 L1.length rc1) L1 (.slice ca1 MC.length cc1) MC):=HBG2.out.chg hc3 (fun k e=>by
  obtain ⟨cur,t,ht,hk⟩:=hkd3 k e
  exact ⟨cur,t,ht.elim (fun e=>.inr (.inl e)) (fun e=>.inr (.inr e)),hk⟩)
 have HTR3:Hid (TrAt w3 W.heap.size tb q T):=(H.out.tr.below HB2.out).chg hc3 (fun k e=>by
  obtain ⟨cur,t,ht,hk⟩:=hkd3 k e
  exact .inl ⟨cur,t,by rcases ht with rfl | rfl <;> decide,hk⟩)
 have HB3:Hid (Below W.heap.size W w3):=(trans2 H.out.low HB2.out).trans hb3
 have HC3:Hid (Chg w w3 (fun k=>k=tb∨k=db∨dv.ownBlock=some k)):=(Chg.of_below HB2.out _).trans' hc3 (fun k e=>.inl (.inr e))
 have HG3:Hid (dv.ownBlock=some g∨w.heap.size≤g):=hg3.imp id (fun h=>Nat.le_trans HB2.out.size h)
 have HD3:Hid (DeskAt w3 W.heap.size db (.slice (some ⟨g,0,none⟩) (K+2) cap)):=hd3
 have HR3:Hid (w3.ownsRow W.heap.size 66 5 (.slice (some ⟨g,0,none⟩) (K+2) cap) (K+2) (opCs os ++ roomCs)):=hr3
 have hcap3:=owns_cap hr3
 have hle3:(K:Int)≤(cap:Int):=by omega
 have hsz3:w2.heap.size≤w3.heap.size:=hc3.size
 have hq3:w.heap.size+1≠w3.heap.size:=by have:=HVB.out;omega
 have hsp3:=HBG3.out.sp
 rw [← HCS.out] at hsp3
 clear s0 s1 s2 s3 s4 s5 hd3 hr3 hb3 hc3 hg3 hkd3
 obtain ⟨q0,q1,q2,q3,q4,q5⟩:=cells_6 hsp3
 clear hsp3
 go_wp2_with fail
 go_cut [15,16] from 31 (fun s15 s16 wc=>∃ (xb:Nat) (L2:List RsT) (B2:Nat) (ra2:Option Addr) (rc2:Nat) (ca2:Option Addr) (cc2:Nat),s15=.pointer (some ⟨xb,0,none⟩)∧s16=.slice ca2 MC.length cc2∧Hid (Aft W w w3 wc W.heap.size db tb q g cap K os st code at' (.slice a N c) cs vb (.slice a1 MN c1) (.slice ra1 L1.length rc1) a1 MT MR B1 L1 (.slice ca1 MC.length cc1) MC xb L2 B2 (.slice ra2 L2.length rc2) (.slice ca2 MC.length cc2)))
 case first =>
  go_region_held3 (fun w'=>w'.cell? ⟨w.heap.size+1,1,none⟩=some (.int .i64 s)∧w'.cell? ⟨w.heap.size+1,2,none⟩=some (.int .i64 st)∧w'.cell? ⟨w.heap.size+1,3,none⟩=some (.slice oa K oc)) (first | go_keep | exact ⟨q1,q2,q3⟩ | (simp only [cellN hq3,q1,q2,q3,and_self]))
   (first
   | (go_at_call 18;refine Calls.mono (HPT.out _ g cap (below_drew HB3.out) (HTR3.out.below (below_drew0 _)) (ops_row (owns_chg HR3.out (Chg.of_below (below_drew0 _) (fun _=>False)) (fun _ _=>id)))) ?_;rintro e w4 ⟨L2,rv2,chV2,rfl,hL2,hrs2,hch2,ht4,hc4⟩
      obtain ⟨ra2,rc2,rfl⟩:=slice_of' hrs2.row
      obtain ⟨ca2,cc2,rfl⟩:=slice_of' hch2
      have HC4:Hid (Chg w3 w4 (fun k=>k=tb)):=chg_undrew hc4
      have HL2:Hid (L2.map RsT.r=MR):=hL2
      have HRS4:Hid (RsAt w4 w3.heap.size (.slice ra2 L2.length rc2) L2.length L2):=hrs2
      have HCH4:Hid (w4.ownsRow w3.heap.size 69 4 (.slice ca2 MC.length cc2) MC.length (chCs MC)):=hch2
      have HT4:Hid (TrAt w4 W.heap.size tb (q+1) MT):=ht4
      have hsp4:=kept_chg HC4.out HBG3.out.sp (fun e=>by have e':w.heap.size+1=tb:=e;omega)
      rw [← HCS.out] at hsp4
      clear hL2 hrs2 hch2 ht4 hc4 q0 q1 q2 q3 q4 q5
      obtain ⟨q0,q1,q2,q3,q4,q5⟩:=cells_6 hsp4
      clear hsp4)
   | (go_at_call 18;refine Calls.mono (HPT.out _ g cap (below_drew (HB3.out.alloc HB3.out.size (.cells #[.int .i64 0,.int .i64 0,.int .i64 0,.slice none 0 0] 61))) ((HTR3.out.below ((Below.refl _ _).alloc (Nat.le_refl _) _)).below (below_drew0 _)) (ops_row (owns_chg (owns_chg HR3.out (Chg.of_below ((Below.refl _ _).alloc (Nat.le_refl _) _) (fun _=>False)) (fun _ _=>id)) (Chg.of_below (below_drew0 _) (fun _=>False)) (fun _ _=>id)))) ?_;rintro e w4 ⟨L2,rv2,chV2,rfl,hL2,hrs2,hch2,ht4,hc4⟩
      obtain ⟨ra2,rc2,rfl⟩:=slice_of' hrs2.row
      obtain ⟨ca2,cc2,rfl⟩:=slice_of' hch2
      have HC4':Hid (Chg (w3.alloc (.cells #[.int .i64 0,.int .i64 0,.int .i64 0,.slice none 0 0] 61)) w4 (fun k=>k=tb)):=chg_undrew hc4
      have HC4:Hid (Chg w3 w4 (fun k=>k=tb)):=(Chg.alloc _ _ _).trans HC4'.out
      have HZ4:Hid (w4.heap[w3.heap.size]? = some (.cells #[.int .i64 0,.int .i64 0,.int .i64 0,.slice none 0 0] 61 (0,0))):=kept_chg HC4'.out (heap_alloc_new _ _) (fun e=>by have e':w3.heap.size=tb:=e;have:=HB2.out.size;omega)
      have HL2:Hid (L2.map RsT.r=MR):=hL2
      have hrs2':RsAt w4 (w3.heap.size+1) (.slice ra2 L2.length rc2) L2.length L2:=by simpa using hrs2
      have HRS4:Hid (RsAt w4 (w3.heap.size+1) (.slice ra2 L2.length rc2) L2.length L2):=hrs2'
      have hch2':w4.ownsRow (w3.heap.size+1) 69 4 (.slice ca2 MC.length cc2) MC.length (chCs MC):=by have h9:=hch2;rw [show (w3.alloc (.cells #[.int .i64 0,.int .i64 0,.int .i64 0,.slice none 0 0] 61)).drew.heap.size=w3.heap.size+1 by simp] at h9;exact h9
      have HCH4:Hid (w4.ownsRow (w3.heap.size+1) 69 4 (.slice ca2 MC.length cc2) MC.length (chCs MC)):=hch2'
      have HT4:Hid (TrAt w4 W.heap.size tb (q+1) MT):=ht4
      have hsp4:=kept_chg HC4.out HBG3.out.sp (fun e=>by have e':w.heap.size+1=tb:=e;omega)
      rw [← HCS.out] at hsp4
      clear hL2 hrs2 hch2 hrs2' hch2' ht4 hc4 q0 q1 q2 q3 q4 q5
      obtain ⟨q0,q1,q2,q3,q4,q5⟩:=cells_6 hsp4
      obtain ⟨z0,z1,z2,z3⟩:=cells_4 HZ4.out
      have zf:=free_4 HZ4.out
      clear hsp4)
   | fail)
  all_goals
   go_wp2_with fail
   go_meet
   case rel =>
    first
     | exact ⟨w3.heap.size,L2,w3.heap.size+1,ra2,rc2,ca2,cc2,rfl,rfl,Aft.mk1 HL2.out HRS4.out HCH4.out HT4.out HC4.out HBG3.out HD3.out HR3.out HTR3.out.box (fill_4 HZ4.out) (Nat.le_refl _) putC_4 (fun _=>⟨_,HZ4.out⟩)⟩
     | exact ⟨w4.heap.size,L2,w3.heap.size,ra2,rc2,ca2,cc2,rfl,rfl,Aft.mk1 HL2.out HRS4.out HCH4.out HT4.out HC4.out HBG3.out HD3.out HR3.out HTR3.out.box (heap_alloc_new _ _) HC4.out.size (Chg.alloc _ _ _) (fun h=>absurd h (Nat.lt_irrefl _))⟩
 case rest =>
  obtain ⟨xb,L2,B2,ra2,rc2,ca2,cc2,rfl,rfl,HA⟩:=hcut
  have HBw:Hid (Below W.heap.size W wc):=HB3.out.trans (chg_lo HA.out.chg hWt HB3.out.size)
  have HUC:Hid _:=HUN.out wc g cap HBw.out HA.out.row
  have hspc:=HA.out.bag.sp
  rw [← HCS.out] at hspc
  obtain ⟨y0,y1,y2,y3,y4,y5⟩:=cells_6 hspc
  clear q0 q1 q2 q3 q4 q5 hspc
  go_wp2_with fail
  refine Calls.mono HUC.out ?_
  rintro e w5 ⟨rfl,hb5⟩
  have HBG5:Hid _:=HA.out.bag.below hb5
  have HAN5:Hid _:=HA.out.ans.below hb5
  have HD5:Hid (DeskAt w5 W.heap.size db (.slice (some ⟨g,0,none⟩) (K+2) cap)):=HA.out.desk.below hb5
  have HR5:Hid (w5.ownsRow W.heap.size 66 5 (.slice (some ⟨g,0,none⟩) (K+2) cap) (K+2) (opCs os ++ roomCs)):=owns_chg HA.out.row (Chg.of_below hb5 (fun _=>False)) (fun _ _=>id)
  have HT5:Hid (TrAt w5 W.heap.size tb (q+1) MT):=HA.out.tr.below hb5
  have HC5:Hid (Chg w w5 (fun k=>k=tb∨k=db∨dv.ownBlock=some k)):=(HC3.out.trans' HA.out.chg (fun k e=>.inl (.inl e))).trans' (Chg.of_below hb5 (fun _=>False)) (fun k e=>e.elim)
  have HB5:Hid (Below W.heap.size W w5):=trans2 HBw.out hb5
  clear hb5 y0 y1 y2 y3 y4 y5
  go_wp2_with fail
  have hl5:(0:Int)≤(K:Int)+2:=by omega
  go_loopw [18] (fun i wr=>∃ q:Nat,i=.int .i64 q∧q≤K+2∧(∃ xs,Hid (wr.ownsRow W.heap.size 66 5 (.slice (some ⟨g,0,none⟩) (K+2) cap) (K+2) xs))∧Hid (Chg w5 wr (fun k=>k=g))) (fun i _=>K+2 - (intOf i).toNat)
  case atStart=>exact ⟨0,rfl,Nat.zero_le _,⟨_,HR5.out⟩,Chg.refl _ _⟩
  case round =>
   obtain ⟨p,rfl,hp,⟨xs,HRk⟩,HCk⟩:=hrel
   by_cases hlt:p<K+2
   · obtain ⟨x0,k0⟩:=some_n (k:=p * 5) HRk.out (by omega)
     obtain ⟨x1,k1⟩:=some_n (k:=p * 5+1) HRk.out (by omega)
     obtain ⟨x2,k2⟩:=some_n (k:=p * 5+2) HRk.out (by omega)
     obtain ⟨x3,k3⟩:=some_n (k:=p * 5+3) HRk.out (by omega)
     obtain ⟨x4,k4⟩:=some_n (k:=p * 5+4) HRk.out (by omega)
     have fz:=blk_of HRk.out
     have hlt':(p:Int)<(K:Int)+2:=by omega
     have HRn:Hid _:=Fa.owns_set (k:=p * 5+4) (Fa.owns_set (k:=p * 5+3) (Fa.owns_set (k:=p * 5+2) (Fa.owns_set (k:=p * 5+1) (Fa.owns_set (k:=p * 5) HRk.out (.int .i64 99)) (.string ⟨#[115,112,111,105,108,116]⟩)) (.string ⟨#[115,112,111,105,108,116]⟩)) (.int .i64 0)) (.int .i64 0)
     go_wp2_with fail
     go_roundw
     case rel=>exact ⟨p+1,by go_num,by omega,⟨_,HRn.out⟩,((((HCk.out.trans (Chg.set _ _ _)).trans (Chg.set _ _ _)).trans (Chg.set _ _ _)).trans (Chg.set _ _ _)).trans (Chg.set _ _ _)⟩
     case measure=>simp [intOf];omega
   · obtain rfl:p=K+2:=by omega
     have hge:¬ ((K:Int)+2<(K:Int)+2):=by omega
     obtain ⟨gcur,hk5⟩:∃ cur,w5.heap[g]? = some (.cells cur 66 (0,0)):=owns_kind HR5.out rfl
     have HBGr:Hid (Bag w wr (.slice a N c) cs vb (.slice a1 MN c1) (vb+1) (rpC st code at' (.slice ra1 L1.length rc1)) a1 MT B1 (.slice ra1 L1.length rc1) L1 (.slice ca1 MC.length cc1) MC):=HBG5.out.chg HCk.out (fun k e=>⟨gcur,66,.inr (.inr rfl),by rw [show k=g from e];exact hk5⟩)
     have HANr:Hid (Ans wr B2 xb (rpC st code at' (.slice ra2 L2.length rc2)) (.slice ra2 L2.length rc2) L2 (.slice ca2 MC.length cc2) MC):=HAN5.out.row HCk.out ⟨gcur,hk5⟩
     have HDr:Hid (wr.heap[db]? = some (.cells #[.slice (some ⟨g,0,none⟩) (K+2) cap] 44 (0,0))):=kept_chg HCk.out HD5.out.1 (fun e=>by
      have h9:=hk5
      rw [← show db=g from e,HD5.out.1] at h9
      simp at h9)
     have HTr:Hid (TrAt wr W.heap.size tb (q+1) MT):=HT5.out.chg HCk.out (fun k e=>.inl ⟨gcur,66,by decide,by rw [show k=g from e];exact hk5⟩)
     have HBr:Hid (Below W.heap.size W wr):=HB5.out.trans (HCk.out.below HB5.out.size (fun k _ e=>by rw [show k=g from e];exact (HR5.out.lt g rfl).1))
     have HSr:Hid (Sit W wr db tb (q+1) (.slice (some ⟨g,0,none⟩) (K+2) cap) a1 MT):=⟨HBr.out,⟨HDr.out,HD5.out.2.1,_,_,HRk.out⟩,HTr.out,HBGr.out.nds,HRG.out⟩
     have HCr:Hid (Chg w wr (fun k=>k=tb∨k=db∨dv.ownBlock=some k)):=HC5.out.trans' HCk.out (fun k e=>by
      rw [show k=g from e]
      rcases HG3.out with h9 | h9
      · exact .inl (.inr (.inr h9))
      · exact .inr h9)
     have hv:=HVB.out
     have hxl:=HA.out.xlo
     have e1:vb≠w.heap.size+1+1:=by omega
     have e2:xb≠w.heap.size+1+1:=by omega
     have e3:vb+1≠w.heap.size+1+1:=by omega
     have f1:w.heap.size+1+1≠vb:=fun e=>e1 e.symm
     have f2:w.heap.size+1+1≠xb:=fun e=>e2 e.symm
     have f3:w.heap.size+1+1≠vb+1:=fun e=>e3 e.symm
     have v0:=cells_1 HBGr.out.vb
     obtain ⟨r0,r1,r2,r3⟩:=cells_4 HBGr.out.rb
     obtain ⟨p0,p1,p2,p3⟩:=cells_4 HANr.out.xb
     have o0:=cells_1 HBGr.out.rs
     have of0:=free_1 HBGr.out.rs
     have HMM:Hid (L2.map RsT.r=L1.map RsT.r):=by show _=_;rw [HA.out.map,HR1.out]
     have hLl:L2.length≤4:=by have h9:=congrArg List.length HA.out.map;rw [List.length_map] at h9;rw [h9];exact HLN.out.1
     have HKL:Hid (∀ y∈L2,y.r.kids.length≤1000):=fun y hy=>Nat.le_trans (HKD.out y.r (by rw [← HA.out.map];exact List.mem_map_of_mem hy)) (by decide)
     have HRE:Hid (∀ w',Below wr.heap.size wr w'→_):=fun w' hb=>replyT_any B2 0 st code at' (.slice ra2 L2.length rc2) (.slice ra1 L1.length rc1) L2 L1 w' (HANr.out.rs.below hb) (HBGr.out.rsd.at.below hb) HMM.out (by omega) HKL.out
     have HCE:Hid (∀ w',Below wr.heap.size wr w'→_):=fun w' hb=>changesT_any B2 B1 (.slice ca2 MC.length cc2) (.slice ca1 MC.length cc1) MC w' (owns_chg HANr.out.ch (Chg.of_below hb (fun _=>False)) (fun _ _=>id)) (owns_chg HBGr.out.ch (Chg.of_below hb (fun _=>False)) (fun _ _=>id)) (by have:=HLN.out.2;omega)
     clear hk5 hv hxl hLl
     go_wp2_with fail
     go_region_held3 (fun w'=>w'.cell? ⟨vb,0,none⟩=some (.slice a1 MN c1)∧w'.cell? ⟨xb,0,none⟩=some (.int .i64 st)∧w'.cell? ⟨xb,1,none⟩=some (.int .i64 code)∧w'.cell? ⟨xb,2,none⟩=some (.int .i64 at')∧w'.cell? ⟨xb,3,none⟩=some (.slice ra2 L2.length rc2)∧w'.cell? ⟨vb+1,0,none⟩=some (.int .i64 st)∧w'.cell? ⟨vb+1,1,none⟩=some (.int .i64 code)∧w'.cell? ⟨vb+1,2,none⟩=some (.int .i64 at')∧w'.cell? ⟨vb+1,3,none⟩=some (.slice ra1 L1.length rc1)) (first | exact ⟨v0,p0,p1,p2,p3,r0,r1,r2,r3⟩ | exact ⟨(cellN e1).trans v0,(cellN e2).trans p0,(cellN e2).trans p1,(cellN e2).trans p2,(cellN e2).trans p3,(cellN e3).trans r0,(cellN e3).trans r1,(cellN e3).trans r2,(cellN e3).trans r3⟩ | go_keep)
      (first
      | (go_at_call 25;refine Calls.mono (HRE.out _ (below_drew0 _)) ?_;rintro e w6 ⟨rfl,hb6⟩
         have HB6:Hid (Below wr.heap.size wr w6):=of_drew hb6
         have HL6:Hid _:=HBGr.out.below HB6.out
         have HX6:Hid _:=kept_block HB6.out HANr.out.xb
         clear hb6 v0 r0 r1 r2 r3 p0 p1 p2 p3 o0 of0
         have v0:=cells_1 HL6.out.vb
         obtain ⟨r0,r1,r2,r3⟩:=cells_4 HL6.out.rb
         obtain ⟨p0,p1,p2,p3⟩:=cells_4 HX6.out
         have o0:=cells_1 HL6.out.rs
         have of0:=free_1 HL6.out.rs)
      | (go_at_call 26;refine Calls.mono (HCE.out _ HB6.out) ?_;rintro e w7 ⟨rfl,hb7⟩
         have HB7:Hid (Below wr.heap.size wr w7):=trans2 HB6.out hb7
         have HL7:Hid _:=HBGr.out.below HB7.out
         have HX7:Hid _:=kept_block HB7.out HANr.out.xb
         clear hb7 v0 r0 r1 r2 r3 p0 p1 p2 p3 o0 of0
         have v0:=cells_1 HL7.out.vb
         obtain ⟨r0,r1,r2,r3⟩:=cells_4 HL7.out.rb
         obtain ⟨p0,p1,p2,p3⟩:=cells_4 HX7.out
         have o0:=cells_1 HL7.out.rs
         have of0:=free_1 HL7.out.rs)
      | fail)
     go_wp2_with fail
     refine bodyPost_ret (results_tmp_cell_tmp rfl _ _ (w.heap.size+1+1) 29 #[.slice a1 MN c1] (0,0) _ (.pointer (some ⟨tb,0,none⟩)) (.bool true) rfl rfl rfl (same_blk HL7.out.rs rfl) Tryz.underlying29 rfl (by kernel_rfl)) rfl ⟨tb,q+1,.slice (some ⟨g,0,none⟩) (K+2) cap,a1,c1,by rw [HMN.out],?_,.inl (Nat.le_refl _),?_,.inl rfl⟩
     · exact (HSr.out.below HB7.out).chg (Chg.set _ _ _) (fun k e=>by
        rw [show k=w.heap.size+1+1 from e]
        exact ⟨by omega,_,29,by decide,by decide,by decide,by decide,HL7.out.rs⟩)
     · exact (HCr.out.trans' (Chg.of_below HB7.out (fun _=>False)) (fun k e=>e.elim)).trans' (Chg.set _ _ _) (fun k e=>.inr (by rw [show k=w.heap.size+1+1 from e];omega))
end Go.Proofs.YtckmihplkhmpnaaGreatDoor
namespace Go.Proofs.YtckmihplkhmpnaaGreatDoor
open Go.RowKit Go.Maps Go.WideShapes
set_option linter.unusedVariables false
set_option linter.unusedSimpArgs false
theorem ply_any (W w:World) (db tb q:Nat) (dv:Value) (a:Option Addr) (c:Nat) (T:List Nd) (h:Sit W w db tb q dv a T) (hg:GroundT W) (hgc:GroundC W) (hq:q≤900) (x:StT) (ho:OpsAt W W.heap.size x.a x.os) (hok:∀ o∈x.os,o.Ok) (hl:x.os.length≤2513169434846) :
  Calls Tryz.prog 12 #[.pointer (some ⟨tb,0,none⟩),rtV a T.length c,.agg #[.int .i64 x.k,.int .i64 x.s,.int .i64 x.st,.slice x.a x.os.length x.c,.string x.pl,.int .i64 x.nn],.pointer (some ⟨db,0,none⟩)] w (PlE W w db tb q dv (runS T x)):=by
 obtain ⟨k,s,st,oa,oc,os,pl,nn⟩:=x
 show Calls _ _ #[.pointer (some ⟨tb,0,none⟩),rtV a T.length c,.agg (stCs k s st oa os.length oc pl nn),.pointer (some ⟨db,0,none⟩)] w (PlE W w db tb q dv (if k=1 then (playM T s st os).T else if k=2 then finT T s else T))
 by_cases h1:k=1
 · subst h1
   rw [if_pos rfl]
   exact ply_play W w db tb q dv a c T h hg hgc hq os s st nn oa oc pl ho hok hl
 rw [if_neg h1]
 by_cases h2:k=2
 · subst h2
   rw [if_pos rfl]
   exact ply_end W w db tb q dv a c T h hq s st nn oa os.length oc pl
 rw [if_neg h2]
 by_cases h3:k=3
 · subst h3
   exact ply_part W w db tb q dv a c T h hg s st nn oa os.length oc pl
 by_cases h4:k=4
 · subst h4
   exact ply_nodes W w db tb q dv a c T h s st nn oa os.length oc pl
 by_cases h5:k=5
 · subst h5
   exact ply_load W w db tb q dv a c T h hg s st nn oa os.length oc pl
 exact ply_else W w db tb q dv a c T h k s st nn oa os.length oc pl h1 h2 h3 h4 h5
theorem PlE.keep {W w w':World} {db tb q:Nat} {dv:Value} {a:Option Addr} {T:List Nd} (h:Sit W w db tb q dv a T) (hc:Chg w w' (fun k=>k=tb∨k=db∨dv.ownBlock=some k)) {b:Nat} {cs:Array Value} (hb:w.heap[b]? = some (.cells cs 29 (0,0))):w'.heap[b]? = some (.cells cs 29 (0,0)):=kept_chg hc hb (fun e=>by
 obtain ⟨tv,ht⟩:=h.tr.box
 obtain ⟨hd,_,n,xs,hr⟩:=h.desk
 rcases e with e | e | e
 · rw [e,ht] at hb
   simp at hb
 · rw [e,hd] at hb
   simp at hb
 · obtain ⟨cur,h9⟩:=owns_kind hr e
   rw [h9] at hb
   simp at hb)
theorem Sit.set {W w:World} {db tb q b:Nat} {dv v:Value} {a:Option Addr} {T:List Nd} {cs:Array Value} (h:Sit W w db tb q dv a T) (hb:w.heap[b]? = some (.cells cs 29 (0,0))) (hW:W.heap.size≤b):Sit W (w.setCell ⟨b,0,none⟩ v) db tb q dv a T :=
 h.chg (Chg.set _ _ _) (fun k e=>by
  rw [show k=b from e]
  exact ⟨hW,cs,29,by decide,by decide,by decide,by decide,hb⟩)
end Go.Proofs.YtckmihplkhmpnaaGreatDoor
