import Derived.Test.YtckmihplkhmpnaaGreatDoorTLaidB
import Derived.Test.YtckmihplkhmpnaaGreatDoorTPlayM
import Derived.Test.YtckmihplkhmpnaaGreatDoorTSnd
namespace Go.Proofs.YtckmihplkhmpnaaGreatDoor
open Go.RowKit Go.ChangeShapes Go.WideShapes Go.ChangeAt
set_option linter.unusedSimpArgs false
structure StT where
 k:Int
 s:Int
 st:Int
 a:Option Addr
 c:Nat
 os:List OpT
 pl:ByteArray
 nn:Int
abbrev StT.cells (x:StT):List Value:=[.int .i64 x.k,.int .i64 x.s,.int .i64 x.st,.slice x.a x.os.length x.c,.string x.pl,.int .i64 x.nn]
def Steps (W:World) (a:Option Addr) (l:List StT):Prop :=
 ∀ i x,l[i]? = some x→∃ b f,a=some ⟨b,f,none⟩∧b<W.heap.size∧(∀ j v,x.cells[j]? = some v→W.cell? ⟨b,f+i * 6+j,none⟩=some v)∧OpsAt W W.heap.size x.a x.os∧(∀ o∈x.os,o.Ok)
theorem opsAt_mono {w:World} {B B':Nat} {a:Option Addr} {os:List OpT} (h:OpsAt w B a os) (hB:B≤B'):OpsAt w B' a os:=fun i o hi=>by
 obtain ⟨b,f,h1,h2,h3⟩:=h i o hi
 exact ⟨b,f,h1,Nat.lt_of_lt_of_le h2 hB,h3⟩
theorem OpsAt.below {w w':World} {base:Nat} {a:Option Addr} {os:List OpT} (h:OpsAt w base a os) (hb:Below base w w'):OpsAt w' base a os:=by
 intro i o hi
 obtain ⟨b,f,h1,h2,h3⟩:=h i o hi
 exact ⟨b,f,h1,h2,fun j x hx=>by rw [hb.cell (p:=⟨b,f+i * 5+j,none⟩) h2];exact h3 j x hx⟩
theorem list_of {α:Type} {P:Nat→α→Prop}:∀ n,(∀ i,i<n→∃ x,P i x)→∃ l:List α,l.length=n∧∀ (j:Nat) (x:α),l[j]? = some x→P j x
 | 0,_=>⟨[],rfl,fun j x h=>by simp at h⟩
 | n+1,h=>by
   obtain ⟨l,hl,hp⟩:=list_of n (fun i hi=>h i (by omega))
   obtain ⟨x,hx⟩:=h n (by omega)
   refine ⟨l ++ [x],by simp [hl],fun j y hy=>?_⟩
   by_cases hj:j<l.length
   · rw [List.getElem?_append_left hj] at hy
     exact hp j y hy
   · rw [List.getElem?_append_right (by omega)] at hy
     have hj0:j - l.length=0:=by
      rcases Nat.eq_zero_or_pos (j - l.length) with g | g
      · exact g
      · rw [List.getElem?_eq_none (by simp;omega)] at hy
        cases hy
     rw [hj0] at hy
     have:j=n:=by omega
     subst this
     have e:x=y:=by simpa using hy
     subst e
     exact hx
theorem weights_all {H:Type} {P:Program} {e:TypeId} {d:DataW H} {n:Nat}:∀ {l:List (DataW H)},d∈l→n∈d.weights P e→n∈DataW.weightsAll P e l
 | x :: r,hd,hn=>by
   simp only [DataW.weightsAll,List.mem_append]
   rcases List.mem_cons.1 hd with rfl | hd
   · exact .inl hn
   · exact .inr (weights_all hd hn)
theorem addr_add' (b o j:Nat):(⟨b,o,none⟩:Addr).add j=⟨b,o+j,none⟩:=by unfold Addr.add;split <;> simp_all
theorem cellsOp:Tryz.prog.cellsOf 66=5:=by kernel_rfl
theorem cellsStep:Tryz.prog.cellsOf 48=6:=by kernel_rfl
theorem bytesOp:Tryz.prog.bytesOf 66=56:=by kernel_rfl
theorem op_of {H:Type} {enc:TypeId × Value→H} {W:World} {n:Nat} {cs:List Value} {y:DataW H × List MemPlace} (h:DataW.trod enc Tryz.prog W 0 (fun _=>true) true n 66 cs=some y):∃ o:OpT,cs=o.cells∧o.Ok:=by
 obtain ⟨xs,m,_,hx,hl,hxl,hf⟩:=DataW.trod_struct Tryz.underlying66 h
 rw [cellsOp] at hl
 obtain ⟨c0,c1,c2,c3,c4,rfl⟩:=list5 hl
 obtain ⟨x0,x1,x2,x3,x4,rfl⟩:=list5 (l:=xs) hxl
 obtain ⟨z0,q0,_⟩:=DataW.trod_int Tryz.underlying3 (hf 0 _ rfl)
 obtain ⟨z1,q1,_⟩:=DataW.trod_string Tryz.underlying9 (hf 1 _ rfl)
 obtain ⟨z2,q2,_⟩:=DataW.trod_string Tryz.underlying9 (hf 2 _ rfl)
 obtain ⟨z3,q3,_⟩:=DataW.trod_int Tryz.underlying3 (hf 3 _ rfl)
 obtain ⟨z4,q4,_,hw4⟩:=DataW.trod_int Tryz.underlying3 (hf 4 _ rfl)
 simp [cells3',cells9'] at q0 q1 q2 q3 q4
 subst q0 q1 q2 q3 q4
 exact ⟨⟨z0,z1,z2,z3,z4⟩,rfl,by simp only [Lit.wf,IntKind.min,IntKind.max,IntKind.signed,IntKind.bits,Bool.and_eq_true,decide_eq_true_eq,if_pos] at hw4;have:=hw4.1;have:=hw4.2;exact ⟨show -9223372036854775808≤z4 by omega,show z4<9223372036854775808 by omega⟩⟩
end Go.Proofs.YtckmihplkhmpnaaGreatDoor
namespace Go.Proofs.YtckmihplkhmpnaaGreatDoor
open Go.RowKit Go.ChangeShapes Go.WideShapes Go.ChangeAt
set_option linter.unusedSimpArgs false
theorem ops_ofD {H:Type} {enc:TypeId × Value→H} {W:World} {n:Nat} {v:Value} {y:DataW H × List MemPlace} (h:DataW.trod enc Tryz.prog W 0 (fun _=>true) true n 42 [v]=some y) (hz:∀ m∈y.1.weights Tryz.prog 42,m≤reachBytes) :
  ∃ a c os,v=.slice a os.length c∧OpsAt W W.heap.size a os∧(os.length≤2513169434846∧os.length≤c)∧∀ o∈os,o.Ok:=by
 rcases Go.Deep.open_slice Tryz.underlying42 h with ⟨hcs,_⟩ | ⟨x,len,cap,m,n',D,Pl,hcs,_,hl,hm,hmm,hxx,hx⟩
 · have hv:v=.slice none 0 0:=by simpa using hcs
   subst hv
   exact ⟨none,0,[],rfl,fun i o hi=>by simp at hi,⟨Nat.zero_le _,Nat.zero_le _⟩,fun o ho=>by cases ho⟩
 · have hv:v=.slice (some x) len cap:=by simpa using hcs
   subst hv
   have hmc:m=cap:=by simpa using hmm
   subst hmc
   have hw:len * 56≤reachBytes:=by
    refine Nat.le_trans ?_ (hz ((((List.range len).map D).length+((List.range (m - len)).map fun j=>D (len+j)).length) * Tryz.prog.bytesOf 66) (by rw [hxx];simp [DataW.weights,Tryz.underlying42]))
    rw [bytesOp]
    simp
    omega
   have each:∀ i,i<len→∃ o:OpT,o.Ok∧∀ j x',o.cells[j]? = some x'→W.cell? ((x.add (i * 5)).add j)=some x':=by
    intro i hi
    obtain ⟨cs',h1,h2⟩:=hx i (by omega)
    obtain ⟨o,rfl,hok⟩:=op_of h2
    rw [cellsOp] at h1
    obtain ⟨_,_,hc⟩:=World.cells?_some h1
    exact ⟨o,hok,fun j x' hj=>by rw [hc j (by have:=(List.getElem?_eq_some_iff.1 hj).1;simpa using this)];exact hj⟩
   obtain ⟨l,hll,hls⟩:=list_of len each
   subst hll
   refine ⟨some x,m,l,rfl,fun i o hi=>?_,?_,fun o ho=>?_⟩
   · have hi0:0<l.length:=by have:=(List.getElem?_eq_some_iff.1 hi).1;omega
     have hc0:=(hls 0 l[0] (List.getElem?_eq_getElem hi0)).2 0 _ rfl
     obtain ⟨b,f,rfl,hb⟩:∃ b f,x=⟨b,f,none⟩∧b<W.heap.size:=by
      obtain ⟨b,f,spot⟩:=x
      have hs:spot=none:=by simpa [Addr.add] using World.cell?_spot hc0
      subst hs
      exact ⟨b,f,rfl,by have:=World.block_lt_of_cell? _ _ hc0;simpa [Addr.add] using this⟩
     refine ⟨b,f,rfl,hb,fun j x' hj=>?_⟩
     have:=(hls i o hi).2 j x' hj
     rw [addr_add',addr_add'] at this
     exact this
   · refine ⟨?_,hl⟩
     unfold reachBytes at hw
     omega
   · obtain ⟨i,hi⟩:=List.mem_iff_getElem?.1 ho
     exact (hls i o hi).1
theorem step_ofD {H:Type} {enc:TypeId × Value→H} {W:World} {n:Nat} {cs:List Value} {y:DataW H × List MemPlace} (h:DataW.trod enc Tryz.prog W 0 (fun _=>true) true n 48 cs=some y) (hz:∀ m∈y.1.weights Tryz.prog 48,m≤reachBytes) :
  ∃ x:StT,cs=x.cells∧OpsAt W W.heap.size x.a x.os∧(∀ o∈x.os,o.Ok)∧x.os.length≤2513169434846:=by
 obtain ⟨xs,m,_,hx,hl,hxl,hf⟩:=DataW.trod_struct Tryz.underlying48 h
 rw [cellsStep] at hl
 obtain ⟨c0,c1,c2,c3,c4,c5,rfl⟩:=list6 hl
 obtain ⟨x0,x1,x2,x3,x4,x5,rfl⟩:=list6 (l:=xs) hxl
 obtain ⟨z0,q0,_⟩:=DataW.trod_int Tryz.underlying3 (hf 0 _ rfl)
 obtain ⟨z1,q1,_⟩:=DataW.trod_int Tryz.underlying3 (hf 1 _ rfl)
 obtain ⟨z2,q2,_⟩:=DataW.trod_int Tryz.underlying3 (hf 2 _ rfl)
 have g3:DataW.trod enc Tryz.prog W 0 (fun _=>true) true m 42 (([c0,c1,c2,c3,c4,c5].drop 3).take (Tryz.prog.cellsOf 42))=[x0,x1,x2,x3,x4,x5][3]?:=hf 3 _ rfl
 rw [cellsOps] at g3
 have g3':DataW.trod enc Tryz.prog W 0 (fun _=>true) true m 42 [c3]=some x3:=g3
 clear g3
 obtain ⟨z4,q4,_⟩:=DataW.trod_string Tryz.underlying9 (hf 4 _ rfl)
 obtain ⟨z5,q5,_⟩:=DataW.trod_int Tryz.underlying3 (hf 5 _ rfl)
 simp [cells3',cells9'] at q0 q1 q2 q4 q5
 subst q0 q1 q2 q4 q5
 obtain ⟨a,c,os,rfl,ho,hcp,hol⟩:=ops_ofD g3' (fun k hk=>hz k (by
  rw [hx]
  simp only [DataW.weights,Tryz.underlying48]
  exact DataW.weights_mem_each (j:=3) rfl rfl k hk))
 exact ⟨⟨z0,z1,z2,a,c,os,z4,z5⟩,rfl,ho,hol,hcp.1⟩
theorem steps_ofD {H:Type} {enc:TypeId × Value→H} {W:World} {a:Option Addr} {len cap:Nat} {d:DataW H} {p:List MemPlace}
  (h:DataW.Trod enc Tryz.prog W 0 (fun _=>true) true 23 (.slice a len cap) d p) (hz:∀ m∈d.weights Tryz.prog 23,m≤reachBytes) :
  ∃ l:List StT,len=l.length∧(Steps W a l∧∀ x∈l,x.os.length≤2513169434846)∧l.length≤maxLen:=by
 obtain ⟨fuel,hf⟩:=h
 rcases Go.Deep.open_slice Tryz.underlying23 hf with ⟨hcs,_⟩ | ⟨x,len',cap',m,n',D,Pl,hcs,_,hl,hm,hmm,hxx,hx⟩
 · simp [Value.cells] at hcs
   obtain ⟨rfl,rfl,rfl⟩:=hcs
   exact ⟨[],rfl,⟨fun i o hi=>by simp at hi,fun x hx=>by cases hx⟩,Nat.zero_le _⟩
 · simp [Value.cells] at hcs
   obtain ⟨rfl,rfl,rfl⟩:=hcs
   have hmc:m=cap:=by simpa using hmm
   subst hmc
   simp only [Prod.mk.injEq] at hxx
   have each:∀ i,i<len→∃ s:StT,OpsAt W W.heap.size s.a s.os∧((∀ o∈s.os,o.Ok)∧s.os.length≤2513169434846)∧∀ j x',s.cells[j]? = some x'→W.cell? ((x.add (i * 6)).add j)=some x':=by
    intro i hi
    obtain ⟨cs',h1,h2⟩:=hx i (by omega)
    obtain ⟨s,rfl,ho,hol⟩:=step_ofD h2 (fun k hk=>hz k (by
     rw [hxx.1]
     simp only [DataW.weights,Tryz.underlying23,List.mem_cons,List.mem_append]
     exact .inr (.inl (weights_all (List.mem_map.2 ⟨i,List.mem_range.2 hi,rfl⟩) hk))))
    rw [cellsStep] at h1
    obtain ⟨_,_,hc⟩:=World.cells?_some h1
    exact ⟨s,ho,hol,fun j x' hj=>by rw [hc j (by have:=(List.getElem?_eq_some_iff.1 hj).1;simpa using this)];exact hj⟩
   obtain ⟨l,hll,hls⟩:=list_of len each
   subst hll
   refine ⟨l,rfl,⟨fun i s hi=>?_,fun s hs=>?_⟩,Nat.le_trans hl hm⟩
   rotate_left
   · obtain ⟨i,hi⟩:=List.mem_iff_getElem?.1 hs
     exact (hls i s hi).2.1.2
   obtain ⟨ho,hol,hc⟩:=hls i s hi
   have hi0:0<l.length:=by have:=(List.getElem?_eq_some_iff.1 hi).1;omega
   have hc0:=(hls 0 l[0] (List.getElem?_eq_getElem hi0)).2.2 0 _ rfl
   obtain ⟨b,f,rfl,hb⟩:∃ b f,x=⟨b,f,none⟩∧b<W.heap.size:=by
    obtain ⟨b,f,spot⟩:=x
    have hs:spot=none:=by simpa [Addr.add] using World.cell?_spot hc0
    subst hs
    exact ⟨b,f,rfl,by have:=World.block_lt_of_cell? _ _ hc0;simpa [Addr.add] using this⟩
   refine ⟨b,f,rfl,hb,fun j x' hj=>?_,ho,hol.1⟩
   have:=hc j x' hj
   rw [addr_add',addr_add'] at this
   exact this
end Go.Proofs.YtckmihplkhmpnaaGreatDoor
namespace Go.Proofs.YtckmihplkhmpnaaGreatDoor
open Go.RowKit Go.Maps Go.WideShapes
set_option linter.unusedVariables false
set_option linter.unusedSimpArgs false
attribute [local go_sem ↓] Go.wp_at_zero Go.wp_at_succ
theorem below_drew0 (w:World):Below w.heap.size w w.drew:=⟨rfl,rfl,rfl,Nat.le_refl _,fun _ _=>rfl⟩
theorem chg_undrew {w w':World} {S:Nat→Prop} (h:Chg w.drew w' S):Chg w w' S:=⟨h.os,h.tape,h.output,h.size,h.block⟩
structure TrAt (w:World) (B tb q:Nat) (T:List Nd):Prop where
 at':∃ mb n D,TreeAt w B tb mb n D∧Rep D T∧n≤1+8 * q
 snd:Snd T
theorem TrAt.below {w w':World} {B tb q:Nat} {T:List Nd} (h:TrAt w B tb q T) (hb:Below w.heap.size w w'):TrAt w' B tb q T:=by
 obtain ⟨mb,n,D,h1,h2,h3⟩:=h.at'
 exact ⟨⟨mb,n,D,h1.below hb,h2,h3⟩,h.snd⟩
theorem TrAt.lo {w:World} {B tb q:Nat} {T:List Nd} (h:TrAt w B tb q T):B≤tb:=by
 obtain ⟨mb,n,D,h1,_⟩:=h.at'
 exact h1.lo
theorem TrAt.lt {w:World} {B tb q:Nat} {T:List Nd} (h:TrAt w B tb q T):tb<w.heap.size:=by
 obtain ⟨mb,n,D,h1,_⟩:=h.at'
 exact (Array.getElem?_eq_some_iff.1 h1.box).1
theorem TrAt.box {w:World} {B tb q:Nat} {T:List Nd} (h:TrAt w B tb q T):∃ v,w.heap[tb]? = some (.cells #[v] 57 (0,0)):=by
 obtain ⟨mb,n,D,h1,_⟩:=h.at'
 exact ⟨_,h1.box⟩
theorem chg_lo {w w':World} {B tb:Nat} (h:Chg w w' (fun k=>k=tb)) (hlo:B≤tb) (hB:B≤w.heap.size):Below B w w':=h.below hB (fun k _ e=>by rw [show k=tb from e];exact hlo)
theorem row_keep {w w':World} {B tb q:Nat} {T:List Nd} {B' t sz m:Nat} {v:Value} {xs:List Value} (h:TrAt w B tb q T) (hc:Chg w w' (fun k=>k=tb)) (hr:w.ownsRow B' t sz v m xs) (ht:t≠57):w'.ownsRow B' t sz v m xs :=
 owns_chg hr hc (fun k hk e=>by
  obtain ⟨v',hb⟩:=h.box
  obtain ⟨cur,hcur⟩:=owns_kind hr hk
  rw [show k=tb from e,hb] at hcur
  simp at hcur
  exact ht hcur.2.symm)
theorem play_tr (B tb q:Nat) (T:List Nd) (s st:Int) (a:Option Addr) (c:Nat) (os:List OpT) (w:World) (hg:GroundT w) (hgc:GroundC w) (h:TrAt w B tb q T) (hq:q≤900) (ho:OpsAt w w.heap.size a os) (hok:∀ o∈os,o.Ok) :
  Calls Tryz.prog 18 #[.pointer (some ⟨tb,0,none⟩),.int .i64 s,.int .i64 st,.slice a os.length c] w fun e w'=>∃ L rv chV,e=.returned (.tuple #[.agg #[.int .i64 st,.int .i64 (playM T s st os).code,.int .i64 (playM T s st os).at',rv],chV])∧L.map RsT.r=(playM T s st os).R∧RsAt w' w.heap.size rv L.length L∧w'.ownsRow w.heap.size 69 4 chV (playM T s st os).C.length (chCs (playM T s st os).C)∧TrAt w' B tb (q+1) (playM T s st os).T∧Chg w w' (fun k=>k=tb):=by
 obtain ⟨mb,n,D,h1,h2,h3⟩:=h.at'
 refine Calls.mono (playT_any B tb mb n D T s st a c os w hg hgc h1 h2 h.snd.inv (by omega) ho hok) ?_
 rintro e w' ⟨L,rv,chV,rfl,hE⟩
 obtain ⟨mb',n',D',_,hn',hT',hr'⟩:=hE.tree
 exact ⟨L,rv,chV,rfl,hE.res,hE.row,hE.ch,⟨⟨mb',n',D',hT',hr',by omega⟩,h.snd.play s st os⟩,hE.chg⟩
def finT (T:List Nd) (s:Int):List Nd:=if s<1 then T else endT T s
def finC (T:List Nd) (s:Int):List ChT:=if s<1 then [] else endC T s
set_option maxHeartbeats 3200000 in
theorem end_low {w:World} {tb mb:Nat} (h:w.cell? ⟨tb,0,none⟩=some (.map (some mb))) (s:Int) (hs:s<1) :
  Calls Tryz.prog 28 #[.pointer (some ⟨tb,0,none⟩),.int .i64 s] w fun e w'=>e=.returned (.slice none 0 0)∧w'=w:=by
 have HN:Hid _:=isNone_at tb (some mb) w h
 clear h
 go_enter Tryz.func28,Tryz.ntmps28
 go_wp2_with (first | (go_at_call 19;refine Calls.mono HN.out ?_;rintro e w1 ⟨rfl,rfl⟩) | fail)
 go_ret
 exact ⟨rfl,rfl⟩
theorem end_tr (B tb q:Nat) (T:List Nd) (s:Int) (w:World) (h:TrAt w B tb q T) (hq:q≤900) :
  Calls Tryz.prog 28 #[.pointer (some ⟨tb,0,none⟩),.int .i64 s] w fun e w'=>∃ chV,e=.returned chV∧w'.ownsRow w.heap.size 69 4 chV (finC T s).length (chCs (finC T s))∧TrAt w' B tb q (finT T s)∧Chg w w' (fun k=>k=tb):=by
 obtain ⟨mb,n,D,h1,h2,h3⟩:=h.at'
 unfold finT finC
 by_cases hs:s<1
 · rw [if_pos hs,if_pos hs]
   refine Calls.mono (end_low (cells_1 h1.box) s hs) ?_
   rintro e w' ⟨rfl,rfl⟩
   exact ⟨_,rfl,World.ownsRow_nil _ _ _ _,h,Chg.refl _ _⟩
 · rw [if_neg hs,if_neg hs]
   refine Calls.mono (end_any B tb mb n D T s w h1 h2 h.snd.inv h.snd.ne (by omega) (by omega)) ?_
   rintro e w' ⟨chV,mb',D',rfl,_,hT',hr',hch,hc⟩
   exact ⟨chV,rfl,hch,⟨⟨mb',n,D',hT',hr',h3⟩,h.snd.fin (by omega)⟩,hc⟩
theorem nodeCs_T {D:DataW Value} {T:List Nd} (h:Rep D T):∀ U:List Nd,(∀ x∈U,x∈T)→nodeCs D (U.map Nd.by)=U.flatMap Nd.cs
 | [],_=>rfl
 | x :: r,hU=>by
   have e:(⟨(Nd.by x).toArray⟩:ByteArray)=x.p:=ByteArray.ext (by simp [Nd.by])
   have ih:=nodeCs_T h r (fun y hy=>hU y (List.mem_cons_of_mem _ hy))
   unfold nodeCs at ih ⊢
   rw [List.map_cons,List.map_cons,List.flatten_cons,ih,List.flatMap_cons,e,h.look x (hU x List.mem_cons_self)]
   rfl
theorem nodes_tr (B tb q:Nat) (T:List Nd) (w:World) (h:TrAt w B tb q T) :
  Calls Tryz.prog 10 #[.pointer (some ⟨tb,0,none⟩)] w fun e w'=>∃ g cap,e=.returned (.slice (some ⟨g,0,none⟩) T.length cap)∧w'.ownsRow w.heap.size 27 7 (.slice (some ⟨g,0,none⟩) T.length cap) T.length (T.flatMap Nd.cs)∧Below w.heap.size w w':=by
 obtain ⟨mb,n,D,h1,h2,h3⟩:=h.at'
 have hne:strKeys D≠[]:=fun e=>by
  have h9:=h2.keys
  rw [e] at h9
  have h8:=h9.eq_nil
  simp at h8
  exact h.snd.ne h8
 refine Calls.mono (nodes_any B tb mb n D w h1 (by rw [h2.size];have:=h.snd.inv.len;omega) (h2.wf h.snd.inv.sml) hne) ?_
 rintro e w' ⟨g,cap,ts,rfl,hp,ha,hr,hb⟩
 obtain rfl:=h.snd.inv.srt.only (hp.trans h2.keys.symm) ha
 rw [nodeCs_T h2 T (fun x hx=>hx)] at hr
 rw [List.length_map] at hr ⊢
 exact ⟨g,cap,rfl,hr,hb⟩
def runS (T:List Nd) (x:StT):List Nd:=if x.k=1 then (playM T x.s x.st x.os).T else if x.k=2 then finT T x.s else T
end Go.Proofs.YtckmihplkhmpnaaGreatDoor
namespace Go.Proofs.YtckmihplkhmpnaaGreatDoor
open Go.RowKit Go.Maps Go.WideShapes
set_option linter.unusedVariables false
set_option linter.unusedSimpArgs false
def NdR (x:Nd):Prop:=(0≤x.m∧x.m≤2147483647)∧(0≤x.c∧x.c≤2147483647)∧(0≤x.o∧x.o≤2147483647)∧(x.o≠0→x.k=0)
def Rng (T:List Nd):Prop:=∀ x∈T,NdR x
theorem rng_upd {T:List Nd} (h:Rng T) {y:Nd} (hy:NdR y):Rng (upd T y):=fun x hx=>by
 obtain ⟨z,hz,rfl⟩:=List.mem_map.1 hx
 by_cases e:z.p=y.p
 · rw [if_pos e];exact hy
 · rw [if_neg e];exact h z hz
theorem rng_one {T:List Nd} (h:Rng T) {s st:Int} (hs:0≤s∧s≤2147483647) (ht:1≤st∧st≤2147483647) (o:OpT):Rng (oneM T s st o).2.1:=by
 unfold oneM
 split
 · exact h
 split
 · unfold makeM
   split
   · exact h
   rename_i u hfu
   have hu:=h u (fnd_some hfu).1
   split
   · exact h
   rename_i huo
   have huo:u.o=0:=by simpa using huo
   split
   · exact h
   split
   · exact h
   split
   · exact h
   intro x hx
   rcases List.mem_cons.1 ((ins_perm _ _).mem_iff.1 hx) with rfl | hx
   · refine ⟨⟨by show 0≤st;omega,ht.2⟩,⟨by show 0≤st;omega,ht.2⟩,?_,fun _=>rfl⟩
     show 0≤(if o.f % 2=1 then s else 0)∧(if o.f % 2=1 then s else 0)≤2147483647
     split
     · exact hs
     · omega
   · exact rng_upd h (y:={ u with k:=if 2≤o.f then u.k+1 else u.k }) ⟨hu.1,hu.2.1,hu.2.2.1,fun e=>absurd huo e⟩ x hx
 · split
   · exact h
   rename_i x hf
   have hx:=h x (fnd_some hf).1
   split
   · exact h
   unfold restM
   split
   · exact rng_upd h (y:={ x with d:=o.d,v:=x.v+1,c:=st }) ⟨hx.1,⟨by show 0≤st;omega,ht.2⟩,hx.2.2.1,hx.2.2.2⟩
   split
   · exact fun y hy=>h y (List.mem_filter.1 hy).1
   · exact h
theorem rng_playL {T0:List Nd} (h0:Rng T0) {s st:Int} (hs:0≤s∧s≤2147483647) (ht:1≤st∧st≤2147483647):∀ (os:List OpT) (i:Nat) (T:List Nd) (R:List ResT) (C:List ChT),Rng T→Rng (playL T0 s st os i T R C).T
 | [],_,_,_,_,h=>h
 | o :: r,i,T,R,C,h=>by
   unfold playL
   split
   · exact h0
   · exact rng_playL h0 hs ht r _ _ _ _ (rng_one h hs ht o)
theorem rng_play {T:List Nd} (h:Rng T) (s st:Int) (os:List OpT):Rng (playM T s st os).T:=by
 unfold playM
 split
 · exact h
 · rename_i hm
   have hm:mayC s st os.length=0:=by simpa using hm
   unfold mayC at hm
   split at hm
   · cases hm
   split at hm
   · cases hm
   rename_i hb
   exact rng_playL h (by omega) (by omega) os 0 T [] [] h
end Go.Proofs.YtckmihplkhmpnaaGreatDoor
