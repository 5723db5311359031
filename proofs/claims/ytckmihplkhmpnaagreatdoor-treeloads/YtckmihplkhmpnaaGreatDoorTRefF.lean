import Derived.Test.YtckmihplkhmpnaaGreatDoorTRefSt
import Derived.Test.YtckmihplkhmpnaaGreatDoorTPlayM
import Derived.Test.YtckmihplkhmpnaaGreatDoorRefCounted
import Derived.Test.YtckmihplkhmpnaaGreatDoorTRefB
import Derived.Test.YtckmihplkhmpnaaGreatDoorTSnd
namespace Go.Proofs.YtckmihplkhmpnaaGreatDoor
open Go.RowKit Go.Maps Go.WideShapes
set_option linter.unusedVariables false
set_option linter.unusedSimpArgs false
attribute [local go_sem ↓] Go.wp_at_zero Go.wp_at_succ
def ChsAt (w:World) (a:Option Addr) (l:List ChT):Prop:=∀ i x,l[i]? = some x→∃ b f,a=some ⟨b,f,none⟩∧b<w.heap.size∧(∃ cur,w.heap[b]? = some (.cells cur 69 (0,0)))∧∀ j v,x.cells[j]? = some v→w.cell? ⟨b,f+i * 4+j,none⟩=some v
theorem ChsAt.below {w w':World} {a:Option Addr} {l:List ChT} (h:ChsAt w a l) (hb:Below w.heap.size w w'):ChsAt w' a l:=fun i x hx=>by
 obtain ⟨b,f,ha,hlt,⟨cur,hk⟩,hc⟩:=h i x hx
 exact ⟨b,f,ha,Nat.lt_of_lt_of_le hlt hb.size,⟨cur,by rw [hb.block b hlt];exact hk⟩,fun j v hv=>by rw [hb.cell (p:=⟨b,f+i * 4+j,none⟩) hlt];exact hc j v hv⟩
theorem ChsAt.nil {w:World} {a:Option Addr}:ChsAt w a []:=fun i x hx=>by simp at hx
def OneE (w:World) (r:Int × List Nd × ResT × List ChT) (e:Ending) (w':World):Prop :=
 ∃ a c ka kc ca cc,e=.returned (.tuple #[.slice a r.2.1.length c,resV r.2.2.1.p r.2.2.1.d r.2.2.1.v r.2.2.1.m r.2.2.1.c r.2.2.1.o (.slice ka r.2.2.1.kids.length kc),.slice ca r.2.2.2.length cc,.int .i64 r.1])∧NdsAt w' a r.2.1∧w'.ownsRow 0 9 1 (.slice ka r.2.2.1.kids.length kc) r.2.2.1.kids.length (r.2.2.1.kids.map Value.string)∧ChsAt w' ca r.2.2.2∧Below w.heap.size w w'
theorem OneE.err {w w':World} {T:List Nd} {a:Option Addr} {N:Nat} (hN:T.length=N) (c:Nat) (code:Int) (h:NdsAt w a T) (hb:Below w.heap.size w w') :
  OneE w (code,T,zr,[]) (.returned (.tuple #[.slice a N c,noRes,.slice none 0 0,.int .i64 code])) w' :=
 ⟨a,c,none,0,none,0,by rw [hN];rfl,h.below hb,World.ownsRow_nil _ _ _ _,ChsAt.nil,hb⟩
theorem nds_set {w:World} {base g n cap:Nat} {M:List Nd} (h:w.ownsRow base 26 7 (.slice (some ⟨g,0,none⟩) n cap) n (M.flatMap Nd.cs)) {q:Nat} {u:Nd} (hq:M[q]? = some u) (k:Int) :
  NdsAt (w.setCell ⟨g,q * 7+6,none⟩ (.int .i64 k)) (some ⟨g,0,none⟩) (M.set q { u with k:=k }):=fun i x hx=>by
 have hlt:=(h.lt g rfl).2
 have h':=Fa.owns_set h (k:=q * 7+6) (.int .i64 k)
 refine ⟨g,0,rfl,(h'.lt g rfl).2,owns_kind h' rfl,fun j v hv=>?_⟩
 rw [Nat.zero_add]
 refine Fa.cell_n h' ?_
 have hj:j<7:=by have:=(List.getElem?_eq_some_iff.1 hv).1;simpa [Nd.cs] using this
 have hql:q<M.length:=(List.getElem?_eq_some_iff.1 hq).1
 by_cases hi:i=q
 · subst hi
   rw [List.getElem?_set_self (by simpa using hql)] at hx
   obtain rfl:{ u with k:=k }=x:=by simpa using hx
   have hl6:i * 7+6<(M.flatMap Nd.cs).length:=(List.getElem?_eq_some_iff.1 (Fa.flat_at (cells:=Nd.cs) (fun _=>rfl) hq (show u.cs[6]? = some (.int .i64 u.k) from rfl))).1
   by_cases hj6:j=6
   · subst hj6
     rw [List.getElem?_set_self hl6]
     exact hv
   · rw [List.getElem?_set_ne (by omega)]
     refine Fa.flat_at (cells:=Nd.cs) (fun _=>rfl) hq ?_
     rcases (show j=0∨j=1∨j=2∨j=3∨j=4∨j=5 by omega) with rfl | rfl | rfl | rfl | rfl | rfl <;> exact hv
 · rw [List.getElem?_set_ne (Ne.symm hi)] at hx
   rw [List.getElem?_set_ne (by omega)]
   exact Fa.flat_at (cells:=Nd.cs) (fun _=>rfl) hx hv
theorem cellA {w:World} {o:Obj} {b i:Nat} (h:b<w.heap.size):(w.alloc o).cell? ⟨b,i,none⟩=w.cell? ⟨b,i,none⟩:=World.cell?_of_block (Below.heap_alloc w o b h)
theorem nds_put7 {w:World} {g zb:Nat} {M:List Nd} {x0 x1 x2 x3 x4 x5 x6:Value} (h:NdsAt w (some ⟨g,0,none⟩) M) (hne:g≠zb):NdsAt (put_7 w zb x0 x1 x2 x3 x4 x5 x6) (some ⟨g,0,none⟩) M:=fun i x hx=>by
 obtain ⟨b,f,ha,hlt,⟨cur,hk⟩,hc⟩:=h i x hx
 obtain ⟨rfl,rfl⟩:g=b∧0=f:=by simpa using ha
 exact ⟨g,0,rfl,by simpa [put_7] using hlt,⟨cur,fillO_7 hk hne⟩,fun j v hv=>cellO_7 (hc j v hv) hne⟩
theorem new_at {w:World} {b:Nat} (h:b=w.heap.size) (o:Obj):(w.alloc o).heap[b]? = some o:=by rw [h];exact heap_alloc_new w o
theorem OneE.made {w w':World} {M:List Nd} {a:Option Addr} {N cb:Nat} {at' d:ByteArray} {st own:Int} (hN:M.length=N) (c:Nat) (h:NdsAt w' a M) (hC:w'.heap[cb]? = some (.cells #[.int .i64 1,.string at',.string d,.int .i64 0] 69 (0,0))) (hb:Below w.heap.size w w') :
  OneE w (0,M,⟨at',⟨#[]⟩,0,st,st,own,[]⟩,[⟨1,at',d,0⟩]) (.returned (.tuple #[.slice a N c,resV at' ⟨#[]⟩ 0 st st own (.slice none 0 0),.slice (some ⟨cb,0,none⟩) 1 1,.int .i64 0])) w':=by
 refine ⟨a,c,none,0,some ⟨cb,0,none⟩,1,by rw [hN];rfl,h,World.ownsRow_nil _ _ _ _,fun i x hx=>?_,hb⟩
 obtain ⟨rfl,rfl⟩:i=0∧x=⟨1,at',d,0⟩:=by
  cases i with
  | zero=>exact ⟨rfl,by simpa using hx.symm⟩
  | succ i=>simp at hx
 obtain ⟨c0,c1,c2,c3⟩:=cells_4 hC
 refine ⟨cb,0,rfl,(Array.getElem?_eq_some_iff.1 hC).1,⟨_,hC⟩,fun j v hv=>?_⟩
 have hj:j<4:=by have:=(List.getElem?_eq_some_iff.1 hv).1;simpa using this
 rcases (show j=0∨j=1∨j=2∨j=3 by omega) with rfl | rfl | rfl | rfl
 · obtain rfl:Value.int .i64 1=v:=by simpa using hv
   exact c0
 · obtain rfl:Value.string at'=v:=by simpa using hv
   exact c1
 · obtain rfl:Value.string d=v:=by simpa using hv
   exact c2
 · obtain rfl:Value.int .i64 0=v:=by simpa using hv
   exact c3
theorem free_blk {W:World} {b:Nat} {t:TypeId} {cs:Array Value} (h:W.heap[b]? = some (.cells cs t (0,0))) (o:Nat):W.frozen? ⟨b,o,none⟩=false:=by
 simp [World.frozen?,h]
theorem results_4c {P:Program} {fn:Func} {p s1 s2 s3:Tmp} {ty:TypeId} (h:fn.results=#[.tmp s1,.cell p ty,.tmp s2,.tmp s3]) (tmps:Array Value) (w:World) (g:Nat) (t:TypeId) (cs:Array Value) (fr:Nat × Nat) (d:TypeDesc) (v1 v2 v3:Value)
  (h1:tmps.getD s1 undef=v1) (hp:tmps.getD p undef=.pointer (some ⟨g,0,none⟩)) (h2:tmps.getD s2 undef=v2) (h3:tmps.getD s3 undef=v3) (hg:w.heap[g]? = some (.cells cs t fr))
  (hu:P.underlying ty=some d) (hd:(match d with | .struct _ | .array _ _=>true | _=>false)=true) (hi:(P.info? ty).map (·.size)=some cs.size) :
  (results fn tmps).run P w=.ok (.tuple #[v1,.agg cs,v2,v3]) w:=by
 have hp':tmps[p]?.getD undef=.pointer (some ⟨g,0,none⟩):=by simpa using hp
 subst h1 h2 h3
 simp [results,h,hp',asAddr,run_loadVar_row w g t ty cs fr d hg hu hd hi]
set_option maxHeartbeats 8000000 in
set_option maxRecDepth 100000 in
theorem rm_A (a:Option Addr) (c:Nat) (T:List Nd) (s st:Int) (p d:ByteArray) (v:Int) (f:Int) (w:World) (h:NdsAt w a T) (hT:T.length≤64) (hu:fndI T (parB p)=-1) :
  Calls Tryz.prog 71 #[.slice a T.length c,.int .i64 s,.int .i64 st,opV 1 p d v f] w (OneE w (40,T,zr,[])):=by
 have H:Hid (NdsAt w a T):=h
 have HP:Hid (∀ W,_):=fun W=>refParent_any p W
 have HF:Hid (∀ W,Below w.heap.size w W→∀ x,Calls Tryz.prog 36 #[.slice a T.length c,.string x] W fun e w'=>e=.returned (.int .i64 (fndI T x))∧w'=W):=fun W hb x=>refFind_any a c T x W (h.below hb) (by omega)
 obtain ⟨N,hN⟩:∃ N,T.length=N:=⟨_,rfl⟩
 have HN:Hid (T.length=N):=hN
 rw [hN] at HF hT ⊢
 obtain ⟨ab,hab⟩:∃ ab,parB p=ab:=⟨_,rfl⟩
 rw [hab] at HP  hu
 have HU:Hid (fndI T ab=-1):=hu
 clear h hN hab hu
 go_enter Tryz.func71,Tryz.ntmps71
 go_upto_region 1 with fail
 obtain ⟨W2,hW2⟩:∃ x,(w.alloc (.cells #[.int .i64 1,.string p,.string d,.int .i64 v,.int .i64 (f)] 66)).alloc (.cells #[.string ⟨#[]⟩,.string ⟨#[]⟩,.int .i64 0,.int .i64 0,.int .i64 0,.int .i64 0,.slice none 0 0] 103)=x:=⟨_,rfl⟩
 obtain ⟨ob,hob⟩:∃ x,w.heap.size=x:=⟨_,rfl⟩
 have HOB:Hid (w.heap.size=ob):=hob
 have HB2:Hid (Below w.heap.size w W2):=by rw [← hW2];exact ((Below.refl _ _).alloc (Nat.le_refl _) _).alloc (by simp) _
 have HO2:Hid (W2.heap[ob]? = some (.cells #[.int .i64 1,.string p,.string d,.int .i64 v,.int .i64 (f)] 66 (0,0))):=by rw [← hW2,← hob];exact heap_alloc2_old _ _ _
 have HZ2:Hid (W2.heap[ob+1]? = some (.cells #[.string ⟨#[]⟩,.string ⟨#[]⟩,.int .i64 0,.int .i64 0,.int .i64 0,.int .i64 0,.slice none 0 0] 103 (0,0))):=by rw [← hW2,← hob];exact heap_alloc2_new _ _ _
 rw [hW2,hob]
 clear hW2 hob
 obtain ⟨o0,o1,o2,o3,o4⟩:=cells_5 HO2.out
 go_wp2_with (go_at_call 34;refine Calls.mono (HP.out _) ?_;rintro e w3 ⟨rfl,hb3⟩
              have HB3:Hid (Below w.heap.size w w3):=trans2 HB2.out hb3
              have HO3:Hid _:=kept_block hb3 HO2.out
              have HZ3:Hid _:=kept_block hb3 HZ2.out
              have hz3:ob+1<w3.heap.size:=(Array.getElem?_eq_some_iff.1 HZ3.out).1
              clear hb3 o0 o1 o2 o3 o4
              obtain ⟨o0,o1,o2,o3,o4⟩:=cells_5 HO3.out
              obtain ⟨b0,b1,b2,b3,b4,b5,b6⟩:=cells_7 HZ3.out
              have hfz:=free_7 HZ3.out)
 refine Calls.mono (HF.out _ HB3.out _) ?_
 rintro e w4 ⟨rfl,hw4⟩
 subst hw4
 rw [HU.out]
 go_wp2_with fail
 exact bodyPost_ret (results_4c rfl _ _ (ob+1) 103 #[.string ⟨#[]⟩,.string ⟨#[]⟩,.int .i64 0,.int .i64 0,.int .i64 0,.int .i64 0,.slice none 0 0] (0,0) _ (.slice a N c) (.slice none 0 0) (.int .i64 40) rfl rfl rfl rfl (fill_7 HZ3.out) Tryz.underlying103 rfl (by kernel_rfl)) rfl (OneE.err HN.out c 40 H.out (fillB_7 HB3.out (by rw [HOB.out];omega)))
set_option maxHeartbeats 8000000 in
set_option maxRecDepth 100000 in
theorem rm_B (a:Option Addr) (c:Nat) (T:List Nd) (s st:Int) (p d:ByteArray) (v:Int) (f:Int) (u:Nd) (q:Nat) (w:World) (h:NdsAt w a T) (hT:T.length≤64) (hq:T[q]? = some u) (hu:fndI T (parB p)=q) (ho:u.o≠0) :
  Calls Tryz.prog 71 #[.slice a T.length c,.int .i64 s,.int .i64 st,opV 1 p d v f] w (OneE w (44,T,zr,[])):=by
 have ho1:(u.o != 0)=true:=by simpa using ho
 clear ho
 have H:Hid (NdsAt w a T):=h
 have HP:Hid (∀ W,_):=fun W=>refParent_any p W
 have HF:Hid (∀ W,Below w.heap.size w W→∀ x,Calls Tryz.prog 36 #[.slice a T.length c,.string x] W fun e w'=>e=.returned (.int .i64 (fndI T x))∧w'=W):=fun W hb x=>refFind_any a c T x W (h.below hb) (by omega)
 obtain ⟨N,hN⟩:∃ N,T.length=N:=⟨_,rfl⟩
 have HN:Hid (T.length=N):=hN
 rw [hN] at HF hT ⊢
 obtain ⟨ab,hab⟩:∃ ab,parB p=ab:=⟨_,rfl⟩
 rw [hab] at HP  hu
 have HU:Hid (fndI T ab=(q:Int)):=hu
 have HQ:Hid (T[q]? = some u):=hq
 have hqN:q<N:=by rw [← hN];exact (List.getElem?_eq_some_iff.1 hq).1
 obtain ⟨gb,gf,rfl⟩:=h.some hq
 clear hq
 clear h hN hab hu
 go_enter Tryz.func71,Tryz.ntmps71
 go_upto_region 1 with fail
 obtain ⟨W2,hW2⟩:∃ x,(w.alloc (.cells #[.int .i64 1,.string p,.string d,.int .i64 v,.int .i64 (f)] 66)).alloc (.cells #[.string ⟨#[]⟩,.string ⟨#[]⟩,.int .i64 0,.int .i64 0,.int .i64 0,.int .i64 0,.slice none 0 0] 103)=x:=⟨_,rfl⟩
 obtain ⟨ob,hob⟩:∃ x,w.heap.size=x:=⟨_,rfl⟩
 have HOB:Hid (w.heap.size=ob):=hob
 have HB2:Hid (Below w.heap.size w W2):=by rw [← hW2];exact ((Below.refl _ _).alloc (Nat.le_refl _) _).alloc (by simp) _
 have HO2:Hid (W2.heap[ob]? = some (.cells #[.int .i64 1,.string p,.string d,.int .i64 v,.int .i64 (f)] 66 (0,0))):=by rw [← hW2,← hob];exact heap_alloc2_old _ _ _
 have HZ2:Hid (W2.heap[ob+1]? = some (.cells #[.string ⟨#[]⟩,.string ⟨#[]⟩,.int .i64 0,.int .i64 0,.int .i64 0,.int .i64 0,.slice none 0 0] 103 (0,0))):=by rw [← hW2,← hob];exact heap_alloc2_new _ _ _
 rw [hW2,hob]
 clear hW2 hob
 obtain ⟨o0,o1,o2,o3,o4⟩:=cells_5 HO2.out
 go_wp2_with (go_at_call 34;refine Calls.mono (HP.out _) ?_;rintro e w3 ⟨rfl,hb3⟩
              have HB3:Hid (Below w.heap.size w w3):=trans2 HB2.out hb3
              have HO3:Hid _:=kept_block hb3 HO2.out
              have HZ3:Hid _:=kept_block hb3 HZ2.out
              have hz3:ob+1<w3.heap.size:=(Array.getElem?_eq_some_iff.1 HZ3.out).1
              clear hb3 o0 o1 o2 o3 o4
              obtain ⟨o0,o1,o2,o3,o4⟩:=cells_5 HO3.out
              obtain ⟨b0,b1,b2,b3,b4,b5,b6⟩:=cells_7 HZ3.out
              have hfz:=free_7 HZ3.out)
 refine Calls.mono (HF.out _ HB3.out _) ?_
 rintro e w4 ⟨rfl,hw4⟩
 subst hw4
 rw [HU.out]
 obtain ⟨hgb,x0,x1,x2,x3,x4,x5,x6⟩:=(H.out.below HB3.out).cells HQ.out
 have hq0:¬ (q:Int)<0:=by omega
 go_wp2_with fail
 exact bodyPost_ret (results_4c rfl _ _ (ob+1) 103 #[.string ⟨#[]⟩,.string ⟨#[]⟩,.int .i64 0,.int .i64 0,.int .i64 0,.int .i64 0,.slice none 0 0] (0,0) _ (.slice (some ⟨gb,gf,none⟩) N c) (.slice none 0 0) (.int .i64 44) rfl rfl rfl rfl (fill_7 HZ3.out) Tryz.underlying103 rfl (by kernel_rfl)) rfl (OneE.err HN.out c 44 H.out (fillB_7 HB3.out (by rw [HOB.out];omega)))
set_option maxHeartbeats 8000000 in
set_option maxRecDepth 100000 in
theorem rm_C (a:Option Addr) (c:Nat) (T:List Nd) (s st:Int) (p d:ByteArray) (v:Int) (f:Int) (u:Nd) (q:Nat) (w:World) (h:NdsAt w a T) (hT:T.length≤64) (hq:T[q]? = some u) (hu:fndI T (parB p)=q) (ho:u.o=0) (hf:2≤f) (hk:99999<u.k) :
  Calls Tryz.prog 71 #[.slice a T.length c,.int .i64 s,.int .i64 st,opV 1 p d v f] w (OneE w (46,T,zr,[])):=by
 have ho1:(u.o != 0)=false:=by simpa using ho
 clear ho
 have H:Hid (NdsAt w a T):=h
 have HP:Hid (∀ W,_):=fun W=>refParent_any p W
 have HF:Hid (∀ W,Below w.heap.size w W→∀ x,Calls Tryz.prog 36 #[.slice a T.length c,.string x] W fun e w'=>e=.returned (.int .i64 (fndI T x))∧w'=W):=fun W hb x=>refFind_any a c T x W (h.below hb) (by omega)
 obtain ⟨N,hN⟩:∃ N,T.length=N:=⟨_,rfl⟩
 have HN:Hid (T.length=N):=hN
 rw [hN] at HF hT ⊢
 obtain ⟨ab,hab⟩:∃ ab,parB p=ab:=⟨_,rfl⟩
 rw [hab] at HP  hu
 have HU:Hid (fndI T ab=(q:Int)):=hu
 have HQ:Hid (T[q]? = some u):=hq
 have hqN:q<N:=by rw [← hN];exact (List.getElem?_eq_some_iff.1 hq).1
 obtain ⟨gb,gf,rfl⟩:=h.some hq
 clear hq
 clear h hN hab hu
 go_enter Tryz.func71,Tryz.ntmps71
 go_upto_region 1 with fail
 obtain ⟨W2,hW2⟩:∃ x,(w.alloc (.cells #[.int .i64 1,.string p,.string d,.int .i64 v,.int .i64 (f)] 66)).alloc (.cells #[.string ⟨#[]⟩,.string ⟨#[]⟩,.int .i64 0,.int .i64 0,.int .i64 0,.int .i64 0,.slice none 0 0] 103)=x:=⟨_,rfl⟩
 obtain ⟨ob,hob⟩:∃ x,w.heap.size=x:=⟨_,rfl⟩
 have HOB:Hid (w.heap.size=ob):=hob
 have HB2:Hid (Below w.heap.size w W2):=by rw [← hW2];exact ((Below.refl _ _).alloc (Nat.le_refl _) _).alloc (by simp) _
 have HO2:Hid (W2.heap[ob]? = some (.cells #[.int .i64 1,.string p,.string d,.int .i64 v,.int .i64 (f)] 66 (0,0))):=by rw [← hW2,← hob];exact heap_alloc2_old _ _ _
 have HZ2:Hid (W2.heap[ob+1]? = some (.cells #[.string ⟨#[]⟩,.string ⟨#[]⟩,.int .i64 0,.int .i64 0,.int .i64 0,.int .i64 0,.slice none 0 0] 103 (0,0))):=by rw [← hW2,← hob];exact heap_alloc2_new _ _ _
 rw [hW2,hob]
 clear hW2 hob
 obtain ⟨o0,o1,o2,o3,o4⟩:=cells_5 HO2.out
 go_wp2_with (go_at_call 34;refine Calls.mono (HP.out _) ?_;rintro e w3 ⟨rfl,hb3⟩
              have HB3:Hid (Below w.heap.size w w3):=trans2 HB2.out hb3
              have HO3:Hid _:=kept_block hb3 HO2.out
              have HZ3:Hid _:=kept_block hb3 HZ2.out
              have hz3:ob+1<w3.heap.size:=(Array.getElem?_eq_some_iff.1 HZ3.out).1
              clear hb3 o0 o1 o2 o3 o4
              obtain ⟨o0,o1,o2,o3,o4⟩:=cells_5 HO3.out
              obtain ⟨b0,b1,b2,b3,b4,b5,b6⟩:=cells_7 HZ3.out
              have hfz:=free_7 HZ3.out)
 refine Calls.mono (HF.out _ HB3.out _) ?_
 rintro e w4 ⟨rfl,hw4⟩
 subst hw4
 rw [HU.out]
 obtain ⟨hgb,x0,x1,x2,x3,x4,x5,x6⟩:=(H.out.below HB3.out).cells HQ.out
 have hq0:¬ (q:Int)<0:=by omega
 go_upto_region 8 with fail
 obtain ⟨w5,hw5⟩:∃ x,w4.alloc (.cells #[.string p,.string d,.int .i64 0,.int .i64 st,.int .i64 st,.int .i64 0,.int .i64 0] 26)=x:=⟨_,rfl⟩
 obtain ⟨nb,hnb⟩:∃ x,w4.heap.size=x:=⟨_,rfl⟩
 have hnz:ob+1<nb:=by omega
 have HB5:Hid (Below w.heap.size w w5):=by rw [← hw5];exact HB3.out.alloc (by have:=HB3.out.size;omega) _
 have HO5:Hid (w5.heap[ob]? = some (.cells #[.int .i64 1,.string p,.string d,.int .i64 v,.int .i64 (f)] 66 (0,0))):=by rw [← hw5];exact new_old HO3.out _
 have HZ5:Hid (w5.heap[ob+1]? = some (.cells #[.string ⟨#[]⟩,.string ⟨#[]⟩,.int .i64 0,.int .i64 0,.int .i64 0,.int .i64 0,.slice none 0 0] 103 (0,0))):=by rw [← hw5];exact new_old HZ3.out _
 have HN5:Hid (w5.heap[nb]? = some (.cells #[.string p,.string d,.int .i64 0,.int .i64 st,.int .i64 st,.int .i64 0,.int .i64 0] 26 (0,0))):=by rw [← hw5,← hnb];exact heap_alloc_new _ _
 rw [hw5,hnb]
 clear hw5 hnb hz3 o0 o1 o2 o3 o4 b0 b1 b2 b3 b4 b5 b6 hfz x0 x1 x2 x3 x4 x5 x6 hgb ho1
 obtain ⟨o0,o1,o2,o3,o4⟩:=cells_5 HO5.out
 obtain ⟨b0,b1,b2,b3,b4,b5,b6⟩:=cells_7 HZ5.out
 have hfz:=free_7 HZ5.out
 obtain ⟨hgb,x0,x1,x2,x3,x4,x5,x6⟩:=(H.out.below HB5.out).cells HQ.out
 go_wp2_with fail
 exact bodyPost_ret (results_4c rfl _ _ (ob+1) 103 #[.string ⟨#[]⟩,.string ⟨#[]⟩,.int .i64 0,.int .i64 0,.int .i64 0,.int .i64 0,.slice none 0 0] (0,0) _ (.slice (some ⟨gb,gf,none⟩) N c) (.slice none 0 0) (.int .i64 46) rfl rfl rfl rfl (fill_7 HZ5.out) Tryz.underlying103 rfl (by kernel_rfl)) rfl (OneE.err HN.out c 46 H.out (fillB_7 HB5.out (by rw [HOB.out];omega)))
set_option maxHeartbeats 8000000 in
set_option maxRecDepth 100000 in
theorem rm_Dl (a:Option Addr) (c:Nat) (T:List Nd) (s st:Int) (p d:ByteArray) (v:Int) (f:Int) (u:Nd) (q:Nat) (w:World) (h:NdsAt w a T) (hT:T.length≤64) (hq:T[q]? = some u) (hu:fndI T (parB p)=q) (ho:u.o=0) (hf:¬ 2≤f) (g:Nat) (hg:fndI T p=g) :
  Calls Tryz.prog 71 #[.slice a T.length c,.int .i64 s,.int .i64 st,opV 1 p d v f] w (OneE w (41,T,zr,[])):=by
 have ho1:(u.o != 0)=false:=by simpa using ho
 clear ho
 have HG:Hid (fndI T p=(g:Int)):=hg
 clear hg
 have H:Hid (NdsAt w a T):=h
 have HP:Hid (∀ W,_):=fun W=>refParent_any p W
 have HF:Hid (∀ W,Below w.heap.size w W→∀ x,Calls Tryz.prog 36 #[.slice a T.length c,.string x] W fun e w'=>e=.returned (.int .i64 (fndI T x))∧w'=W):=fun W hb x=>refFind_any a c T x W (h.below hb) (by omega)
 obtain ⟨N,hN⟩:∃ N,T.length=N:=⟨_,rfl⟩
 have HN:Hid (T.length=N):=hN
 rw [hN] at HF hT ⊢
 obtain ⟨ab,hab⟩:∃ ab,parB p=ab:=⟨_,rfl⟩
 rw [hab] at HP  hu
 have HU:Hid (fndI T ab=(q:Int)):=hu
 have HQ:Hid (T[q]? = some u):=hq
 have hqN:q<N:=by rw [← hN];exact (List.getElem?_eq_some_iff.1 hq).1
 obtain ⟨gb,gf,rfl⟩:=h.some hq
 clear hq
 clear h hN hab hu
 go_enter Tryz.func71,Tryz.ntmps71
 go_upto_region 1 with fail
 obtain ⟨W2,hW2⟩:∃ x,(w.alloc (.cells #[.int .i64 1,.string p,.string d,.int .i64 v,.int .i64 (f)] 66)).alloc (.cells #[.string ⟨#[]⟩,.string ⟨#[]⟩,.int .i64 0,.int .i64 0,.int .i64 0,.int .i64 0,.slice none 0 0] 103)=x:=⟨_,rfl⟩
 obtain ⟨ob,hob⟩:∃ x,w.heap.size=x:=⟨_,rfl⟩
 have HOB:Hid (w.heap.size=ob):=hob
 have HB2:Hid (Below w.heap.size w W2):=by rw [← hW2];exact ((Below.refl _ _).alloc (Nat.le_refl _) _).alloc (by simp) _
 have HO2:Hid (W2.heap[ob]? = some (.cells #[.int .i64 1,.string p,.string d,.int .i64 v,.int .i64 (f)] 66 (0,0))):=by rw [← hW2,← hob];exact heap_alloc2_old _ _ _
 have HZ2:Hid (W2.heap[ob+1]? = some (.cells #[.string ⟨#[]⟩,.string ⟨#[]⟩,.int .i64 0,.int .i64 0,.int .i64 0,.int .i64 0,.slice none 0 0] 103 (0,0))):=by rw [← hW2,← hob];exact heap_alloc2_new _ _ _
 rw [hW2,hob]
 clear hW2 hob
 obtain ⟨o0,o1,o2,o3,o4⟩:=cells_5 HO2.out
 go_wp2_with (go_at_call 34;refine Calls.mono (HP.out _) ?_;rintro e w3 ⟨rfl,hb3⟩
              have HB3:Hid (Below w.heap.size w w3):=trans2 HB2.out hb3
              have HO3:Hid _:=kept_block hb3 HO2.out
              have HZ3:Hid _:=kept_block hb3 HZ2.out
              have hz3:ob+1<w3.heap.size:=(Array.getElem?_eq_some_iff.1 HZ3.out).1
              clear hb3 o0 o1 o2 o3 o4
              obtain ⟨o0,o1,o2,o3,o4⟩:=cells_5 HO3.out
              obtain ⟨b0,b1,b2,b3,b4,b5,b6⟩:=cells_7 HZ3.out
              have hfz:=free_7 HZ3.out)
 refine Calls.mono (HF.out _ HB3.out _) ?_
 rintro e w4 ⟨rfl,hw4⟩
 subst hw4
 rw [HU.out]
 obtain ⟨hgb,x0,x1,x2,x3,x4,x5,x6⟩:=(H.out.below HB3.out).cells HQ.out
 have hq0:¬ (q:Int)<0:=by omega
 go_upto_region 8 with fail
 obtain ⟨w5,hw5⟩:∃ x,w4.alloc (.cells #[.string p,.string d,.int .i64 0,.int .i64 st,.int .i64 st,.int .i64 0,.int .i64 0] 26)=x:=⟨_,rfl⟩
 obtain ⟨nb,hnb⟩:∃ x,w4.heap.size=x:=⟨_,rfl⟩
 have hnz:ob+1<nb:=by omega
 have HB5:Hid (Below w.heap.size w w5):=by rw [← hw5];exact HB3.out.alloc (by have:=HB3.out.size;omega) _
 have HO5:Hid (w5.heap[ob]? = some (.cells #[.int .i64 1,.string p,.string d,.int .i64 v,.int .i64 (f)] 66 (0,0))):=by rw [← hw5];exact new_old HO3.out _
 have HZ5:Hid (w5.heap[ob+1]? = some (.cells #[.string ⟨#[]⟩,.string ⟨#[]⟩,.int .i64 0,.int .i64 0,.int .i64 0,.int .i64 0,.slice none 0 0] 103 (0,0))):=by rw [← hw5];exact new_old HZ3.out _
 have HN5:Hid (w5.heap[nb]? = some (.cells #[.string p,.string d,.int .i64 0,.int .i64 st,.int .i64 st,.int .i64 0,.int .i64 0] 26 (0,0))):=by rw [← hw5,← hnb];exact heap_alloc_new _ _
 rw [hw5,hnb]
 clear hw5 hnb hz3 o0 o1 o2 o3 o4 b0 b1 b2 b3 b4 b5 b6 hfz x0 x1 x2 x3 x4 x5 x6 hgb ho1
 obtain ⟨o0,o1,o2,o3,o4⟩:=cells_5 HO5.out
 obtain ⟨b0,b1,b2,b3,b4,b5,b6⟩:=cells_7 HZ5.out
 have hfz:=free_7 HZ5.out
 obtain ⟨hgb,x0,x1,x2,x3,x4,x5,x6⟩:=(H.out.below HB5.out).cells HQ.out
 go_upto_region 14 with fail
 obtain ⟨w7,hw7⟩:∃ x,w5=x:=⟨_,rfl⟩
 rw [hw7]
 rw [hw7] at HB5 HO5 HZ5 HN5
 have HB7:Hid (Below w.heap.size w w7):=HB5.out
 have HO7:Hid (w7.heap[ob]? = some (.cells #[.int .i64 1,.string p,.string d,.int .i64 v,.int .i64 (f)] 66 (0,0))):=HO5.out
 have HZ7:Hid (w7.heap[ob+1]? = some (.cells #[.string ⟨#[]⟩,.string ⟨#[]⟩,.int .i64 0,.int .i64 0,.int .i64 0,.int .i64 0,.slice none 0 0] 103 (0,0))):=HZ5.out
 have HN7:Hid (w7.heap[nb]? = some (.cells #[.string p,.string d,.int .i64 0,.int .i64 st,.int .i64 st,.int .i64 0,.int .i64 0] 26 (0,0))):=HN5.out
 clear hw7 o0 o1 o2 o3 o4 b0 b1 b2 b3 b4 b5 b6 hfz x0 x1 x2 x3 x4 x5 x6 hgb
 obtain ⟨o0,o1,o2,o3,o4⟩:=cells_5 HO7.out
 obtain ⟨b0,b1,b2,b3,b4,b5,b6⟩:=cells_7 HZ7.out
 have hfz:=free_7 HZ7.out
 obtain ⟨n0,n1,n2,n3,n4,n5,n6⟩:=cells_7 HN7.out
 have hfn:=free_7 HN7.out
 go_wp2_with fail
 refine Calls.mono (HF.out _ HB7.out _) ?_
 rintro e w8 ⟨rfl,hw8⟩
 subst hw8
 rw [HG.out]
 have hg0:(0:Int)≤(g:Int):=by omega
 go_wp2_with fail
 exact bodyPost_ret (results_4c rfl _ _ (ob+1) 103 #[.string ⟨#[]⟩,.string ⟨#[]⟩,.int .i64 0,.int .i64 0,.int .i64 0,.int .i64 0,.slice none 0 0] (0,0) _ (.slice (some ⟨gb,gf,none⟩) N c) (.slice none 0 0) (.int .i64 41) rfl rfl rfl rfl (fill_7 HZ7.out) Tryz.underlying103 rfl (by kernel_rfl)) rfl (OneE.err HN.out c 41 H.out (fillB_7 HB7.out (by rw [HOB.out];omega)))
set_option maxHeartbeats 8000000 in
set_option maxRecDepth 100000 in
theorem rm_El (a:Option Addr) (c:Nat) (T:List Nd) (s st:Int) (p d:ByteArray) (v:Int) (f:Int) (u:Nd) (q:Nat) (w:World) (h:NdsAt w a T) (hT:T.length≤64) (hq:T[q]? = some u) (hu:fndI T (parB p)=q) (ho:u.o=0) (hf:¬ 2≤f) (hg:fndI T p=-1) (hN6:64≤T.length) :
  Calls Tryz.prog 71 #[.slice a T.length c,.int .i64 s,.int .i64 st,opV 1 p d v f] w (OneE w (46,T,zr,[])):=by
 have ho1:(u.o != 0)=false:=by simpa using ho
 clear ho
 have HG:Hid (fndI T p=-1):=hg
 clear hg
 have HNF:Hid (64≤T.length):=hN6
 clear hN6
 have H:Hid (NdsAt w a T):=h
 have HP:Hid (∀ W,_):=fun W=>refParent_any p W
 have HF:Hid (∀ W,Below w.heap.size w W→∀ x,Calls Tryz.prog 36 #[.slice a T.length c,.string x] W fun e w'=>e=.returned (.int .i64 (fndI T x))∧w'=W):=fun W hb x=>refFind_any a c T x W (h.below hb) (by omega)
 obtain ⟨N,hN⟩:∃ N,T.length=N:=⟨_,rfl⟩
 have HN:Hid (T.length=N):=hN
 rw [hN] at HF hT ⊢
 obtain ⟨ab,hab⟩:∃ ab,parB p=ab:=⟨_,rfl⟩
 rw [hab] at HP  hu
 have HU:Hid (fndI T ab=(q:Int)):=hu
 have HQ:Hid (T[q]? = some u):=hq
 have hqN:q<N:=by rw [← hN];exact (List.getElem?_eq_some_iff.1 hq).1
 obtain ⟨gb,gf,rfl⟩:=h.some hq
 clear hq
 clear h hN hab hu
 go_enter Tryz.func71,Tryz.ntmps71
 go_upto_region 1 with fail
 obtain ⟨W2,hW2⟩:∃ x,(w.alloc (.cells #[.int .i64 1,.string p,.string d,.int .i64 v,.int .i64 (f)] 66)).alloc (.cells #[.string ⟨#[]⟩,.string ⟨#[]⟩,.int .i64 0,.int .i64 0,.int .i64 0,.int .i64 0,.slice none 0 0] 103)=x:=⟨_,rfl⟩
 obtain ⟨ob,hob⟩:∃ x,w.heap.size=x:=⟨_,rfl⟩
 have HOB:Hid (w.heap.size=ob):=hob
 have HB2:Hid (Below w.heap.size w W2):=by rw [← hW2];exact ((Below.refl _ _).alloc (Nat.le_refl _) _).alloc (by simp) _
 have HO2:Hid (W2.heap[ob]? = some (.cells #[.int .i64 1,.string p,.string d,.int .i64 v,.int .i64 (f)] 66 (0,0))):=by rw [← hW2,← hob];exact heap_alloc2_old _ _ _
 have HZ2:Hid (W2.heap[ob+1]? = some (.cells #[.string ⟨#[]⟩,.string ⟨#[]⟩,.int .i64 0,.int .i64 0,.int .i64 0,.int .i64 0,.slice none 0 0] 103 (0,0))):=by rw [← hW2,← hob];exact heap_alloc2_new _ _ _
 rw [hW2,hob]
 clear hW2 hob
 obtain ⟨o0,o1,o2,o3,o4⟩:=cells_5 HO2.out
 go_wp2_with (go_at_call 34;refine Calls.mono (HP.out _) ?_;rintro e w3 ⟨rfl,hb3⟩
              have HB3:Hid (Below w.heap.size w w3):=trans2 HB2.out hb3
              have HO3:Hid _:=kept_block hb3 HO2.out
              have HZ3:Hid _:=kept_block hb3 HZ2.out
              have hz3:ob+1<w3.heap.size:=(Array.getElem?_eq_some_iff.1 HZ3.out).1
              clear hb3 o0 o1 o2 o3 o4
              obtain ⟨o0,o1,o2,o3,o4⟩:=cells_5 HO3.out
              obtain ⟨b0,b1,b2,b3,b4,b5,b6⟩:=cells_7 HZ3.out
              have hfz:=free_7 HZ3.out)
 refine Calls.mono (HF.out _ HB3.out _) ?_
 rintro e w4 ⟨rfl,hw4⟩
 subst hw4
 rw [HU.out]
 obtain ⟨hgb,x0,x1,x2,x3,x4,x5,x6⟩:=(H.out.below HB3.out).cells HQ.out
 have hq0:¬ (q:Int)<0:=by omega
 go_upto_region 8 with fail
 obtain ⟨w5,hw5⟩:∃ x,w4.alloc (.cells #[.string p,.string d,.int .i64 0,.int .i64 st,.int .i64 st,.int .i64 0,.int .i64 0] 26)=x:=⟨_,rfl⟩
 obtain ⟨nb,hnb⟩:∃ x,w4.heap.size=x:=⟨_,rfl⟩
 have hnz:ob+1<nb:=by omega
 have HB5:Hid (Below w.heap.size w w5):=by rw [← hw5];exact HB3.out.alloc (by have:=HB3.out.size;omega) _
 have HO5:Hid (w5.heap[ob]? = some (.cells #[.int .i64 1,.string p,.string d,.int .i64 v,.int .i64 (f)] 66 (0,0))):=by rw [← hw5];exact new_old HO3.out _
 have HZ5:Hid (w5.heap[ob+1]? = some (.cells #[.string ⟨#[]⟩,.string ⟨#[]⟩,.int .i64 0,.int .i64 0,.int .i64 0,.int .i64 0,.slice none 0 0] 103 (0,0))):=by rw [← hw5];exact new_old HZ3.out _
 have HN5:Hid (w5.heap[nb]? = some (.cells #[.string p,.string d,.int .i64 0,.int .i64 st,.int .i64 st,.int .i64 0,.int .i64 0] 26 (0,0))):=by rw [← hw5,← hnb];exact heap_alloc_new _ _
 rw [hw5,hnb]
 clear hw5 hnb hz3 o0 o1 o2 o3 o4 b0 b1 b2 b3 b4 b5 b6 hfz x0 x1 x2 x3 x4 x5 x6 hgb ho1
 obtain ⟨o0,o1,o2,o3,o4⟩:=cells_5 HO5.out
 obtain ⟨b0,b1,b2,b3,b4,b5,b6⟩:=cells_7 HZ5.out
 have hfz:=free_7 HZ5.out
 obtain ⟨hgb,x0,x1,x2,x3,x4,x5,x6⟩:=(H.out.below HB5.out).cells HQ.out
 go_upto_region 14 with fail
 obtain ⟨w7,hw7⟩:∃ x,w5=x:=⟨_,rfl⟩
 rw [hw7]
 rw [hw7] at HB5 HO5 HZ5 HN5
 have HB7:Hid (Below w.heap.size w w7):=HB5.out
 have HO7:Hid (w7.heap[ob]? = some (.cells #[.int .i64 1,.string p,.string d,.int .i64 v,.int .i64 (f)] 66 (0,0))):=HO5.out
 have HZ7:Hid (w7.heap[ob+1]? = some (.cells #[.string ⟨#[]⟩,.string ⟨#[]⟩,.int .i64 0,.int .i64 0,.int .i64 0,.int .i64 0,.slice none 0 0] 103 (0,0))):=HZ5.out
 have HN7:Hid (w7.heap[nb]? = some (.cells #[.string p,.string d,.int .i64 0,.int .i64 st,.int .i64 st,.int .i64 0,.int .i64 0] 26 (0,0))):=HN5.out
 clear hw7 o0 o1 o2 o3 o4 b0 b1 b2 b3 b4 b5 b6 hfz x0 x1 x2 x3 x4 x5 x6 hgb
 obtain ⟨o0,o1,o2,o3,o4⟩:=cells_5 HO7.out
 obtain ⟨b0,b1,b2,b3,b4,b5,b6⟩:=cells_7 HZ7.out
 have hfz:=free_7 HZ7.out
 obtain ⟨n0,n1,n2,n3,n4,n5,n6⟩:=cells_7 HN7.out
 have hfn:=free_7 HN7.out
 go_wp2_with fail
 refine Calls.mono (HF.out _ HB7.out _) ?_
 rintro e w8 ⟨rfl,hw8⟩
 subst hw8
 rw [HG.out]
 have hN64:(64:Int)≤(N:Int):=by have:=HNF.out;rw [HN.out] at this;omega
 go_wp2_with fail
 exact bodyPost_ret (results_4c rfl _ _ (ob+1) 103 #[.string ⟨#[]⟩,.string ⟨#[]⟩,.int .i64 0,.int .i64 0,.int .i64 0,.int .i64 0,.slice none 0 0] (0,0) _ (.slice (some ⟨gb,gf,none⟩) N c) (.slice none 0 0) (.int .i64 46) rfl rfl rfl rfl (fill_7 HZ7.out) Tryz.underlying103 rfl (by kernel_rfl)) rfl (OneE.err HN.out c 46 H.out (fillB_7 HB7.out (by rw [HOB.out];omega)))
set_option maxHeartbeats 8000000 in
set_option maxRecDepth 100000 in
theorem rm_Dh (a:Option Addr) (c:Nat) (T:List Nd) (s st:Int) (p d:ByteArray) (v:Int) (f:Int) (u:Nd) (q:Nat) (w:World) (h:NdsAt w a T) (hT:T.length≤64) (hq:T[q]? = some u) (hu:fndI T (parB p)=q) (ho:u.o=0) (hf:2≤f) (at':ByteArray) (hk:u.k≤99999) (hk0:0≤u.k) (hc:∀ W,Calls Tryz.prog 94 #[.string p,.int .i64 u.k] W fun e w'=>e=.returned (.tuple #[.string at',.int .i64 0])∧Below W.heap.size W w') (g:Nat) (hg:fndI T at'=g) :
  Calls Tryz.prog 71 #[.slice a T.length c,.int .i64 s,.int .i64 st,opV 1 p d v f] w (OneE w (41,T,zr,[])):=by
 have ho1:(u.o != 0)=false:=by simpa using ho
 clear ho
 have hk2:¬ 99999<u.k:=by omega
 have HC:Hid (∀ W,Calls Tryz.prog 94 #[.string p,.int .i64 u.k] W fun e w'=>e=.returned (.tuple #[.string at',.int .i64 0])∧Below W.heap.size W w'):=hc
 clear hc
 have HG:Hid (fndI T at'=(g:Int)):=hg
 clear hg
 have H:Hid (NdsAt w a T):=h
 have HP:Hid (∀ W,_):=fun W=>refParent_any p W
 have HF:Hid (∀ W,Below w.heap.size w W→∀ x,Calls Tryz.prog 36 #[.slice a T.length c,.string x] W fun e w'=>e=.returned (.int .i64 (fndI T x))∧w'=W):=fun W hb x=>refFind_any a c T x W (h.below hb) (by omega)
 obtain ⟨N,hN⟩:∃ N,T.length=N:=⟨_,rfl⟩
 have HN:Hid (T.length=N):=hN
 rw [hN] at HF hT ⊢
 obtain ⟨ab,hab⟩:∃ ab,parB p=ab:=⟨_,rfl⟩
 rw [hab] at HP  hu
 have HU:Hid (fndI T ab=(q:Int)):=hu
 have HQ:Hid (T[q]? = some u):=hq
 have hqN:q<N:=by rw [← hN];exact (List.getElem?_eq_some_iff.1 hq).1
 obtain ⟨gb,gf,rfl⟩:=h.some hq
 clear hq
 clear h hN hab hu
 go_enter Tryz.func71,Tryz.ntmps71
 go_upto_region 1 with fail
 obtain ⟨W2,hW2⟩:∃ x,(w.alloc (.cells #[.int .i64 1,.string p,.string d,.int .i64 v,.int .i64 (f)] 66)).alloc (.cells #[.string ⟨#[]⟩,.string ⟨#[]⟩,.int .i64 0,.int .i64 0,.int .i64 0,.int .i64 0,.slice none 0 0] 103)=x:=⟨_,rfl⟩
 obtain ⟨ob,hob⟩:∃ x,w.heap.size=x:=⟨_,rfl⟩
 have HOB:Hid (w.heap.size=ob):=hob
 have HB2:Hid (Below w.heap.size w W2):=by rw [← hW2];exact ((Below.refl _ _).alloc (Nat.le_refl _) _).alloc (by simp) _
 have HO2:Hid (W2.heap[ob]? = some (.cells #[.int .i64 1,.string p,.string d,.int .i64 v,.int .i64 (f)] 66 (0,0))):=by rw [← hW2,← hob];exact heap_alloc2_old _ _ _
 have HZ2:Hid (W2.heap[ob+1]? = some (.cells #[.string ⟨#[]⟩,.string ⟨#[]⟩,.int .i64 0,.int .i64 0,.int .i64 0,.int .i64 0,.slice none 0 0] 103 (0,0))):=by rw [← hW2,← hob];exact heap_alloc2_new _ _ _
 rw [hW2,hob]
 clear hW2 hob
 obtain ⟨o0,o1,o2,o3,o4⟩:=cells_5 HO2.out
 go_wp2_with (go_at_call 34;refine Calls.mono (HP.out _) ?_;rintro e w3 ⟨rfl,hb3⟩
              have HB3:Hid (Below w.heap.size w w3):=trans2 HB2.out hb3
              have HO3:Hid _:=kept_block hb3 HO2.out
              have HZ3:Hid _:=kept_block hb3 HZ2.out
              have hz3:ob+1<w3.heap.size:=(Array.getElem?_eq_some_iff.1 HZ3.out).1
              clear hb3 o0 o1 o2 o3 o4
              obtain ⟨o0,o1,o2,o3,o4⟩:=cells_5 HO3.out
              obtain ⟨b0,b1,b2,b3,b4,b5,b6⟩:=cells_7 HZ3.out
              have hfz:=free_7 HZ3.out)
 refine Calls.mono (HF.out _ HB3.out _) ?_
 rintro e w4 ⟨rfl,hw4⟩
 subst hw4
 rw [HU.out]
 obtain ⟨hgb,x0,x1,x2,x3,x4,x5,x6⟩:=(H.out.below HB3.out).cells HQ.out
 have hq0:¬ (q:Int)<0:=by omega
 go_upto_region 8 with fail
 obtain ⟨w5,hw5⟩:∃ x,w4.alloc (.cells #[.string p,.string d,.int .i64 0,.int .i64 st,.int .i64 st,.int .i64 0,.int .i64 0] 26)=x:=⟨_,rfl⟩
 obtain ⟨nb,hnb⟩:∃ x,w4.heap.size=x:=⟨_,rfl⟩
 have hnz:ob+1<nb:=by omega
 have HB5:Hid (Below w.heap.size w w5):=by rw [← hw5];exact HB3.out.alloc (by have:=HB3.out.size;omega) _
 have HO5:Hid (w5.heap[ob]? = some (.cells #[.int .i64 1,.string p,.string d,.int .i64 v,.int .i64 (f)] 66 (0,0))):=by rw [← hw5];exact new_old HO3.out _
 have HZ5:Hid (w5.heap[ob+1]? = some (.cells #[.string ⟨#[]⟩,.string ⟨#[]⟩,.int .i64 0,.int .i64 0,.int .i64 0,.int .i64 0,.slice none 0 0] 103 (0,0))):=by rw [← hw5];exact new_old HZ3.out _
 have HN5:Hid (w5.heap[nb]? = some (.cells #[.string p,.string d,.int .i64 0,.int .i64 st,.int .i64 st,.int .i64 0,.int .i64 0] 26 (0,0))):=by rw [← hw5,← hnb];exact heap_alloc_new _ _
 rw [hw5,hnb]
 clear hw5 hnb hz3 o0 o1 o2 o3 o4 b0 b1 b2 b3 b4 b5 b6 hfz x0 x1 x2 x3 x4 x5 x6 hgb ho1
 obtain ⟨o0,o1,o2,o3,o4⟩:=cells_5 HO5.out
 obtain ⟨b0,b1,b2,b3,b4,b5,b6⟩:=cells_7 HZ5.out
 have hfz:=free_7 HZ5.out
 obtain ⟨hgb,x0,x1,x2,x3,x4,x5,x6⟩:=(H.out.below HB5.out).cells HQ.out
 obtain ⟨n0,n1,n2,n3,n4,n5,n6⟩:=cells_7 HN5.out
 have hfn:=free_7 HN5.out
 go_upto_region 14 with (go_at_call 94;refine Calls.mono (HC.out _) ?_;rintro e w6 ⟨rfl,hb6⟩
                         have HB6:Hid (Below w.heap.size w w6):=trans2 HB5.out hb6
                         have HO6:Hid _:=kept_block hb6 HO5.out
                         have HZ6:Hid _:=kept_block hb6 HZ5.out
                         have HN6:Hid _:=kept_block hb6 HN5.out
                         clear hb6 o0 o1 o2 o3 o4 b0 b1 b2 b3 b4 b5 b6 hfz x0 x1 x2 x3 x4 x5 x6 hgb n0 n1 n2 n3 n4 n5 n6 hfn
                         obtain ⟨n0,n1,n2,n3,n4,n5,n6⟩:=cells_7 HN6.out
                         have hfn:=free_7 HN6.out)
 obtain ⟨w7,hw7⟩:∃ x,w6.setCell ⟨nb,0,none⟩ (.string at')=x:=⟨_,rfl⟩
 have HB7:Hid (Below w.heap.size w w7):=by rw [← hw7];exact HB6.out.setCell (show w.heap.size≤nb by rw [HOB.out];omega) _
 have HO7:Hid (w7.heap[ob]? = some (.cells #[.int .i64 1,.string p,.string d,.int .i64 v,.int .i64 (f)] 66 (0,0))):=by rw [← hw7];exact other_blk HO6.out (by omega)
 have HZ7:Hid (w7.heap[ob+1]? = some (.cells #[.string ⟨#[]⟩,.string ⟨#[]⟩,.int .i64 0,.int .i64 0,.int .i64 0,.int .i64 0,.slice none 0 0] 103 (0,0))):=by rw [← hw7];exact other_blk HZ6.out (by omega)
 have HN7:Hid (w7.heap[nb]? = some (.cells #[.string at',.string d,.int .i64 0,.int .i64 st,.int .i64 st,.int .i64 0,.int .i64 0] 26 (0,0))):=by rw [← hw7];exact same_blk HN6.out rfl
 rw [hw7]
 clear hw7 n0 n1 n2 n3 n4 n5 n6 hfn HC
 obtain ⟨o0,o1,o2,o3,o4⟩:=cells_5 HO7.out
 obtain ⟨b0,b1,b2,b3,b4,b5,b6⟩:=cells_7 HZ7.out
 have hfz:=free_7 HZ7.out
 obtain ⟨n0,n1,n2,n3,n4,n5,n6⟩:=cells_7 HN7.out
 have hfn:=free_7 HN7.out
 go_wp2_with fail
 refine Calls.mono (HF.out _ HB7.out _) ?_
 rintro e w8 ⟨rfl,hw8⟩
 subst hw8
 rw [HG.out]
 have hg0:(0:Int)≤(g:Int):=by omega
 go_wp2_with fail
 exact bodyPost_ret (results_4c rfl _ _ (ob+1) 103 #[.string ⟨#[]⟩,.string ⟨#[]⟩,.int .i64 0,.int .i64 0,.int .i64 0,.int .i64 0,.slice none 0 0] (0,0) _ (.slice (some ⟨gb,gf,none⟩) N c) (.slice none 0 0) (.int .i64 41) rfl rfl rfl rfl (fill_7 HZ7.out) Tryz.underlying103 rfl (by kernel_rfl)) rfl (OneE.err HN.out c 41 H.out (fillB_7 HB7.out (by rw [HOB.out];omega)))
set_option maxHeartbeats 8000000 in
set_option maxRecDepth 100000 in
theorem rm_Eh (a:Option Addr) (c:Nat) (T:List Nd) (s st:Int) (p d:ByteArray) (v:Int) (f:Int) (u:Nd) (q:Nat) (w:World) (h:NdsAt w a T) (hT:T.length≤64) (hq:T[q]? = some u) (hu:fndI T (parB p)=q) (ho:u.o=0) (hf:2≤f) (at':ByteArray) (hk:u.k≤99999) (hk0:0≤u.k) (hc:∀ W,Calls Tryz.prog 94 #[.string p,.int .i64 u.k] W fun e w'=>e=.returned (.tuple #[.string at',.int .i64 0])∧Below W.heap.size W w') (hg:fndI T at'=-1) (hN6:64≤T.length) :
  Calls Tryz.prog 71 #[.slice a T.length c,.int .i64 s,.int .i64 st,opV 1 p d v f] w (OneE w (46,T,zr,[])):=by
 have ho1:(u.o != 0)=false:=by simpa using ho
 clear ho
 have hk2:¬ 99999<u.k:=by omega
 have HC:Hid (∀ W,Calls Tryz.prog 94 #[.string p,.int .i64 u.k] W fun e w'=>e=.returned (.tuple #[.string at',.int .i64 0])∧Below W.heap.size W w'):=hc
 clear hc
 have HG:Hid (fndI T at'=-1):=hg
 clear hg
 have HNF:Hid (64≤T.length):=hN6
 clear hN6
 have H:Hid (NdsAt w a T):=h
 have HP:Hid (∀ W,_):=fun W=>refParent_any p W
 have HF:Hid (∀ W,Below w.heap.size w W→∀ x,Calls Tryz.prog 36 #[.slice a T.length c,.string x] W fun e w'=>e=.returned (.int .i64 (fndI T x))∧w'=W):=fun W hb x=>refFind_any a c T x W (h.below hb) (by omega)
 obtain ⟨N,hN⟩:∃ N,T.length=N:=⟨_,rfl⟩
 have HN:Hid (T.length=N):=hN
 rw [hN] at HF hT ⊢
 obtain ⟨ab,hab⟩:∃ ab,parB p=ab:=⟨_,rfl⟩
 rw [hab] at HP  hu
 have HU:Hid (fndI T ab=(q:Int)):=hu
 have HQ:Hid (T[q]? = some u):=hq
 have hqN:q<N:=by rw [← hN];exact (List.getElem?_eq_some_iff.1 hq).1
 obtain ⟨gb,gf,rfl⟩:=h.some hq
 clear hq
 clear h hN hab hu
 go_enter Tryz.func71,Tryz.ntmps71
 go_upto_region 1 with fail
 obtain ⟨W2,hW2⟩:∃ x,(w.alloc (.cells #[.int .i64 1,.string p,.string d,.int .i64 v,.int .i64 (f)] 66)).alloc (.cells #[.string ⟨#[]⟩,.string ⟨#[]⟩,.int .i64 0,.int .i64 0,.int .i64 0,.int .i64 0,.slice none 0 0] 103)=x:=⟨_,rfl⟩
 obtain ⟨ob,hob⟩:∃ x,w.heap.size=x:=⟨_,rfl⟩
 have HOB:Hid (w.heap.size=ob):=hob
 have HB2:Hid (Below w.heap.size w W2):=by rw [← hW2];exact ((Below.refl _ _).alloc (Nat.le_refl _) _).alloc (by simp) _
 have HO2:Hid (W2.heap[ob]? = some (.cells #[.int .i64 1,.string p,.string d,.int .i64 v,.int .i64 (f)] 66 (0,0))):=by rw [← hW2,← hob];exact heap_alloc2_old _ _ _
 have HZ2:Hid (W2.heap[ob+1]? = some (.cells #[.string ⟨#[]⟩,.string ⟨#[]⟩,.int .i64 0,.int .i64 0,.int .i64 0,.int .i64 0,.slice none 0 0] 103 (0,0))):=by rw [← hW2,← hob];exact heap_alloc2_new _ _ _
 rw [hW2,hob]
 clear hW2 hob
 obtain ⟨o0,o1,o2,o3,o4⟩:=cells_5 HO2.out
 go_wp2_with (go_at_call 34;refine Calls.mono (HP.out _) ?_;rintro e w3 ⟨rfl,hb3⟩
              have HB3:Hid (Below w.heap.size w w3):=trans2 HB2.out hb3
              have HO3:Hid _:=kept_block hb3 HO2.out
              have HZ3:Hid _:=kept_block hb3 HZ2.out
              have hz3:ob+1<w3.heap.size:=(Array.getElem?_eq_some_iff.1 HZ3.out).1
              clear hb3 o0 o1 o2 o3 o4
              obtain ⟨o0,o1,o2,o3,o4⟩:=cells_5 HO3.out
              obtain ⟨b0,b1,b2,b3,b4,b5,b6⟩:=cells_7 HZ3.out
              have hfz:=free_7 HZ3.out)
 refine Calls.mono (HF.out _ HB3.out _) ?_
 rintro e w4 ⟨rfl,hw4⟩
 subst hw4
 rw [HU.out]
 obtain ⟨hgb,x0,x1,x2,x3,x4,x5,x6⟩:=(H.out.below HB3.out).cells HQ.out
 have hq0:¬ (q:Int)<0:=by omega
 go_upto_region 8 with fail
 obtain ⟨w5,hw5⟩:∃ x,w4.alloc (.cells #[.string p,.string d,.int .i64 0,.int .i64 st,.int .i64 st,.int .i64 0,.int .i64 0] 26)=x:=⟨_,rfl⟩
 obtain ⟨nb,hnb⟩:∃ x,w4.heap.size=x:=⟨_,rfl⟩
 have hnz:ob+1<nb:=by omega
 have HB5:Hid (Below w.heap.size w w5):=by rw [← hw5];exact HB3.out.alloc (by have:=HB3.out.size;omega) _
 have HO5:Hid (w5.heap[ob]? = some (.cells #[.int .i64 1,.string p,.string d,.int .i64 v,.int .i64 (f)] 66 (0,0))):=by rw [← hw5];exact new_old HO3.out _
 have HZ5:Hid (w5.heap[ob+1]? = some (.cells #[.string ⟨#[]⟩,.string ⟨#[]⟩,.int .i64 0,.int .i64 0,.int .i64 0,.int .i64 0,.slice none 0 0] 103 (0,0))):=by rw [← hw5];exact new_old HZ3.out _
 have HN5:Hid (w5.heap[nb]? = some (.cells #[.string p,.string d,.int .i64 0,.int .i64 st,.int .i64 st,.int .i64 0,.int .i64 0] 26 (0,0))):=by rw [← hw5,← hnb];exact heap_alloc_new _ _
 rw [hw5,hnb]
 clear hw5 hnb hz3 o0 o1 o2 o3 o4 b0 b1 b2 b3 b4 b5 b6 hfz x0 x1 x2 x3 x4 x5 x6 hgb ho1
 obtain ⟨o0,o1,o2,o3,o4⟩:=cells_5 HO5.out
 obtain ⟨b0,b1,b2,b3,b4,b5,b6⟩:=cells_7 HZ5.out
 have hfz:=free_7 HZ5.out
 obtain ⟨hgb,x0,x1,x2,x3,x4,x5,x6⟩:=(H.out.below HB5.out).cells HQ.out
 obtain ⟨n0,n1,n2,n3,n4,n5,n6⟩:=cells_7 HN5.out
 have hfn:=free_7 HN5.out
 go_upto_region 14 with (go_at_call 94;refine Calls.mono (HC.out _) ?_;rintro e w6 ⟨rfl,hb6⟩
                         have HB6:Hid (Below w.heap.size w w6):=trans2 HB5.out hb6
                         have HO6:Hid _:=kept_block hb6 HO5.out
                         have HZ6:Hid _:=kept_block hb6 HZ5.out
                         have HN6:Hid _:=kept_block hb6 HN5.out
                         clear hb6 o0 o1 o2 o3 o4 b0 b1 b2 b3 b4 b5 b6 hfz x0 x1 x2 x3 x4 x5 x6 hgb n0 n1 n2 n3 n4 n5 n6 hfn
                         obtain ⟨n0,n1,n2,n3,n4,n5,n6⟩:=cells_7 HN6.out
                         have hfn:=free_7 HN6.out)
 obtain ⟨w7,hw7⟩:∃ x,w6.setCell ⟨nb,0,none⟩ (.string at')=x:=⟨_,rfl⟩
 have HB7:Hid (Below w.heap.size w w7):=by rw [← hw7];exact HB6.out.setCell (show w.heap.size≤nb by rw [HOB.out];omega) _
 have HO7:Hid (w7.heap[ob]? = some (.cells #[.int .i64 1,.string p,.string d,.int .i64 v,.int .i64 (f)] 66 (0,0))):=by rw [← hw7];exact other_blk HO6.out (by omega)
 have HZ7:Hid (w7.heap[ob+1]? = some (.cells #[.string ⟨#[]⟩,.string ⟨#[]⟩,.int .i64 0,.int .i64 0,.int .i64 0,.int .i64 0,.slice none 0 0] 103 (0,0))):=by rw [← hw7];exact other_blk HZ6.out (by omega)
 have HN7:Hid (w7.heap[nb]? = some (.cells #[.string at',.string d,.int .i64 0,.int .i64 st,.int .i64 st,.int .i64 0,.int .i64 0] 26 (0,0))):=by rw [← hw7];exact same_blk HN6.out rfl
 rw [hw7]
 clear hw7 n0 n1 n2 n3 n4 n5 n6 hfn HC
 obtain ⟨o0,o1,o2,o3,o4⟩:=cells_5 HO7.out
 obtain ⟨b0,b1,b2,b3,b4,b5,b6⟩:=cells_7 HZ7.out
 have hfz:=free_7 HZ7.out
 obtain ⟨n0,n1,n2,n3,n4,n5,n6⟩:=cells_7 HN7.out
 have hfn:=free_7 HN7.out
 go_wp2_with fail
 refine Calls.mono (HF.out _ HB7.out _) ?_
 rintro e w8 ⟨rfl,hw8⟩
 subst hw8
 rw [HG.out]
 have hN64:(64:Int)≤(N:Int):=by have:=HNF.out;rw [HN.out] at this;omega
 go_wp2_with fail
 exact bodyPost_ret (results_4c rfl _ _ (ob+1) 103 #[.string ⟨#[]⟩,.string ⟨#[]⟩,.int .i64 0,.int .i64 0,.int .i64 0,.int .i64 0,.slice none 0 0] (0,0) _ (.slice (some ⟨gb,gf,none⟩) N c) (.slice none 0 0) (.int .i64 46) rfl rfl rfl rfl (fill_7 HZ7.out) Tryz.underlying103 rfl (by kernel_rfl)) rfl (OneE.err HN.out c 46 H.out (fillB_7 HB7.out (by rw [HOB.out];omega)))
end Go.Proofs.YtckmihplkhmpnaaGreatDoor
namespace Go.Proofs.YtckmihplkhmpnaaGreatDoor
open Go.RowKit Go.Maps Go.WideShapes
set_option linter.unusedVariables false
set_option linter.unusedSimpArgs false
attribute [local go_sem ↓] Go.wp_at_zero Go.wp_at_succ
set_option maxHeartbeats 8000000 in
set_option maxRecDepth 100000 in
theorem rm_F3 (a:Option Addr) (c:Nat) (T:List Nd) (s st:Int) (p d:ByteArray) (v:Int) (u:Nd) (q:Nat) (w:World) (h:NdsAt w a T) (hT:T.length≤64) (hq:T[q]? = some u) (hu:fndI T (parB p)=q) (ho:u.o=0) (at':ByteArray) (hk:u.k≤99999) (hk0:0≤u.k) (hc:∀ W,Calls Tryz.prog 94 #[.string p,.int .i64 u.k] W fun e w'=>e=.returned (.tuple #[.string at',.int .i64 0])∧Below W.heap.size W w') (n:Nd) (hn:n=(⟨at',d,0,st,st,s,0⟩:Nd)) (hg:fndI T at'=-1) (hN6:T.length<64) (q2:Nat) (hq2:(ins n T)[q2]? = some u) (hu2:fndI (ins n T) (parB p)=q2) (hsm:Sml T) (hat:(at').size≤1000) :
  Calls Tryz.prog 71 #[.slice a T.length c,.int .i64 s,.int .i64 st,opV 1 p d v 3] w (OneE w (0,(ins n T).set q2 { u with k:=u.k+1 },⟨at',⟨#[]⟩,0,st,st,s,[]⟩,[⟨1,at',d,0⟩])):=by
 have ho1:(u.o != 0)=false:=by simpa using ho
 clear ho
 have hk2:¬ 99999<u.k:=by omega
 have HC:Hid (∀ W,Calls Tryz.prog 94 #[.string p,.int .i64 u.k] W fun e w'=>e=.returned (.tuple #[.string at',.int .i64 0])∧Below W.heap.size W w'):=hc
 clear hc
 have HG:Hid (fndI T at'=-1):=hg
 have HWI:Hid (∀ W,Below w.heap.size w W→Calls Tryz.prog 73 #[.slice a T.length c,(⟨at',d,0,st,st,s,0⟩:Nd).V] W fun e w'=>∃ v,e=.returned v∧w'.ownsRow W.heap.size 26 7 v (ins n T).length ((ins n T).flatMap Nd.cs)∧Below W.heap.size W w'):=fun W hb=>by rw [hn];exact refWith_any a c T _ W (h.below hb) (by omega) hsm hat
 have HQ2:Hid ((ins n T)[q2]? = some u):=hq2
 have HSM:Hid (Sml T):=hsm
 have HNN:Hid (n=(⟨at',d,0,st,st,s,0⟩:Nd)):=hn
 clear hg hq2 hsm hn
 have H:Hid (NdsAt w a T):=h
 have HP:Hid (∀ W,_):=fun W=>refParent_any p W
 have HF:Hid (∀ W,Below w.heap.size w W→∀ x,Calls Tryz.prog 36 #[.slice a T.length c,.string x] W fun e w'=>e=.returned (.int .i64 (fndI T x))∧w'=W):=fun W hb x=>refFind_any a c T x W (h.below hb) (by omega)
 obtain ⟨N,hN⟩:∃ N,T.length=N:=⟨_,rfl⟩
 have HN:Hid (T.length=N):=hN
 rw [hN] at HF hT  HWI hN6 ⊢
 obtain ⟨ab,hab⟩:∃ ab,parB p=ab:=⟨_,rfl⟩
 rw [hab] at HP hu2 hu
 have HU2:Hid (fndI (ins n T) ab=(q2:Int)):=hu2
 clear hu2
 have HU:Hid (fndI T ab=(q:Int)):=hu
 have HQ:Hid (T[q]? = some u):=hq
 have hqN:q<N:=by rw [← hN];exact (List.getElem?_eq_some_iff.1 hq).1
 obtain ⟨gb,gf,rfl⟩:=h.some hq
 clear hq
 clear h hN hab hu
 go_enter Tryz.func71,Tryz.ntmps71
 go_upto_region 1 with fail
 obtain ⟨W2,hW2⟩:∃ x,(w.alloc (.cells #[.int .i64 1,.string p,.string d,.int .i64 v,.int .i64 (3)] 66)).alloc (.cells #[.string ⟨#[]⟩,.string ⟨#[]⟩,.int .i64 0,.int .i64 0,.int .i64 0,.int .i64 0,.slice none 0 0] 103)=x:=⟨_,rfl⟩
 obtain ⟨ob,hob⟩:∃ x,w.heap.size=x:=⟨_,rfl⟩
 have HOB:Hid (w.heap.size=ob):=hob
 have HB2:Hid (Below w.heap.size w W2):=by rw [← hW2];exact ((Below.refl _ _).alloc (Nat.le_refl _) _).alloc (by simp) _
 have HO2:Hid (W2.heap[ob]? = some (.cells #[.int .i64 1,.string p,.string d,.int .i64 v,.int .i64 (3)] 66 (0,0))):=by rw [← hW2,← hob];exact heap_alloc2_old _ _ _
 have HZ2:Hid (W2.heap[ob+1]? = some (.cells #[.string ⟨#[]⟩,.string ⟨#[]⟩,.int .i64 0,.int .i64 0,.int .i64 0,.int .i64 0,.slice none 0 0] 103 (0,0))):=by rw [← hW2,← hob];exact heap_alloc2_new _ _ _
 rw [hW2,hob]
 clear hW2 hob
 obtain ⟨o0,o1,o2,o3,o4⟩:=cells_5 HO2.out
 go_wp2_with (go_at_call 34;refine Calls.mono (HP.out _) ?_;rintro e w3 ⟨rfl,hb3⟩
              have HB3:Hid (Below w.heap.size w w3):=trans2 HB2.out hb3
              have HO3:Hid _:=kept_block hb3 HO2.out
              have HZ3:Hid _:=kept_block hb3 HZ2.out
              have hz3:ob+1<w3.heap.size:=(Array.getElem?_eq_some_iff.1 HZ3.out).1
              clear hb3 o0 o1 o2 o3 o4
              obtain ⟨o0,o1,o2,o3,o4⟩:=cells_5 HO3.out
              obtain ⟨b0,b1,b2,b3,b4,b5,b6⟩:=cells_7 HZ3.out
              have hfz:=free_7 HZ3.out)
 refine Calls.mono (HF.out _ HB3.out _) ?_
 rintro e w4 ⟨rfl,hw4⟩
 subst hw4
 rw [HU.out]
 obtain ⟨hgb,x0,x1,x2,x3,x4,x5,x6⟩:=(H.out.below HB3.out).cells HQ.out
 have hq0:¬ (q:Int)<0:=by omega
 go_upto_region 8 with fail
 obtain ⟨w5,hw5⟩:∃ x,w4.alloc (.cells #[.string p,.string d,.int .i64 0,.int .i64 st,.int .i64 st,.int .i64 0,.int .i64 0] 26)=x:=⟨_,rfl⟩
 obtain ⟨nb,hnb⟩:∃ x,w4.heap.size=x:=⟨_,rfl⟩
 have hnz:ob+1<nb:=by omega
 have HB5:Hid (Below w.heap.size w w5):=by rw [← hw5];exact HB3.out.alloc (by have:=HB3.out.size;omega) _
 have HO5:Hid (w5.heap[ob]? = some (.cells #[.int .i64 1,.string p,.string d,.int .i64 v,.int .i64 (3)] 66 (0,0))):=by rw [← hw5];exact new_old HO3.out _
 have HZ5:Hid (w5.heap[ob+1]? = some (.cells #[.string ⟨#[]⟩,.string ⟨#[]⟩,.int .i64 0,.int .i64 0,.int .i64 0,.int .i64 0,.slice none 0 0] 103 (0,0))):=by rw [← hw5];exact new_old HZ3.out _
 have HN5:Hid (w5.heap[nb]? = some (.cells #[.string p,.string d,.int .i64 0,.int .i64 st,.int .i64 st,.int .i64 0,.int .i64 0] 26 (0,0))):=by rw [← hw5,← hnb];exact heap_alloc_new _ _
 rw [hw5,hnb]
 clear hw5 hnb hz3 o0 o1 o2 o3 o4 b0 b1 b2 b3 b4 b5 b6 hfz x0 x1 x2 x3 x4 x5 x6 hgb ho1
 obtain ⟨o0,o1,o2,o3,o4⟩:=cells_5 HO5.out
 obtain ⟨b0,b1,b2,b3,b4,b5,b6⟩:=cells_7 HZ5.out
 have hfz:=free_7 HZ5.out
 obtain ⟨hgb,x0,x1,x2,x3,x4,x5,x6⟩:=(H.out.below HB5.out).cells HQ.out
 obtain ⟨n0,n1,n2,n3,n4,n5,n6⟩:=cells_7 HN5.out
 have hfn:=free_7 HN5.out
 go_upto_region 14 with (go_at_call 94;refine Calls.mono (HC.out _) ?_;rintro e w6 ⟨rfl,hb6⟩
                         have HB6:Hid (Below w.heap.size w w6):=trans2 HB5.out hb6
                         have HO6:Hid _:=kept_block hb6 HO5.out
                         have HZ6:Hid _:=kept_block hb6 HZ5.out
                         have HN6:Hid _:=kept_block hb6 HN5.out
                         clear hb6 o0 o1 o2 o3 o4 b0 b1 b2 b3 b4 b5 b6 hfz x0 x1 x2 x3 x4 x5 x6 hgb n0 n1 n2 n3 n4 n5 n6 hfn
                         obtain ⟨n0,n1,n2,n3,n4,n5,n6⟩:=cells_7 HN6.out
                         have hfn:=free_7 HN6.out)
 obtain ⟨w7,hw7⟩:∃ x,w6.setCell ⟨nb,0,none⟩ (.string at')=x:=⟨_,rfl⟩
 have HB7:Hid (Below w.heap.size w w7):=by rw [← hw7];exact HB6.out.setCell (show w.heap.size≤nb by rw [HOB.out];omega) _
 have HO7:Hid (w7.heap[ob]? = some (.cells #[.int .i64 1,.string p,.string d,.int .i64 v,.int .i64 (3)] 66 (0,0))):=by rw [← hw7];exact other_blk HO6.out (by omega)
 have HZ7:Hid (w7.heap[ob+1]? = some (.cells #[.string ⟨#[]⟩,.string ⟨#[]⟩,.int .i64 0,.int .i64 0,.int .i64 0,.int .i64 0,.slice none 0 0] 103 (0,0))):=by rw [← hw7];exact other_blk HZ6.out (by omega)
 have HN7:Hid (w7.heap[nb]? = some (.cells #[.string at',.string d,.int .i64 0,.int .i64 st,.int .i64 st,.int .i64 0,.int .i64 0] 26 (0,0))):=by rw [← hw7];exact same_blk HN6.out rfl
 rw [hw7]
 clear hw7 n0 n1 n2 n3 n4 n5 n6 hfn HC
 obtain ⟨o0,o1,o2,o3,o4⟩:=cells_5 HO7.out
 obtain ⟨b0,b1,b2,b3,b4,b5,b6⟩:=cells_7 HZ7.out
 have hfz:=free_7 HZ7.out
 obtain ⟨n0,n1,n2,n3,n4,n5,n6⟩:=cells_7 HN7.out
 have hfn:=free_7 HN7.out
 go_wp2_with fail
 refine Calls.mono (HF.out _ HB7.out _) ?_
 rintro e w8 ⟨rfl,hw8⟩
 subst hw8
 rw [HG.out]
 have hN64:¬ (64:Int)≤(N:Int):=by omega
 go_upto_region 20 with fail
 obtain ⟨w9,hw9⟩:∃ x,w8.setCell ⟨nb,5,none⟩ (.int .i64 s)=x:=⟨_,rfl⟩
 have HB9:Hid (Below w.heap.size w w9):=by rw [← hw9];exact HB7.out.setCell (show w.heap.size≤nb by rw [HOB.out];omega) _
 have HZ9:Hid (w9.heap[ob+1]? = some (.cells #[.string ⟨#[]⟩,.string ⟨#[]⟩,.int .i64 0,.int .i64 0,.int .i64 0,.int .i64 0,.slice none 0 0] 103 (0,0))):=by rw [← hw9];exact other_blk HZ7.out (by omega)
 have HN9:Hid (w9.heap[nb]? = some (.cells #[.string at',.string d,.int .i64 0,.int .i64 st,.int .i64 st,.int .i64 (s),.int .i64 0] 26 (0,0))):=by rw [← hw9];exact same_blk HN7.out rfl
 rw [hw9]
 clear hw9 n0 n1 n2 n3 n4 n5 n6 hfn o0 o1 o2 o3 o4 b0 b1 b2 b3 b4 b5 b6 hfz
 obtain ⟨n0,n1,n2,n3,n4,n5,n6⟩:=cells_7 HN9.out
 have hn9:nb<w9.heap.size:=(Array.getElem?_eq_some_iff.1 HN9.out).1
 go_wp2_with fail
 refine Calls.mono (HWI.out _ HB9.out) ?_
 rintro e w10 ⟨mv,rfl,hrow,hb10⟩
 obtain ⟨g,mc,rfl⟩:∃ g cap,mv=.slice (some ⟨g,0,none⟩) (ins n T).length cap:=by
  rcases hrow.2 with ⟨rfl,h0⟩ | ⟨g,cap,cur,rfl,_⟩
  · rw [ins_len] at h0;cases h0
  · exact ⟨_,_,rfl⟩
 have HR10:Hid (w10.ownsRow w9.heap.size 26 7 (.slice (some ⟨g,0,none⟩) (ins n T).length mc) (ins n T).length ((ins n T).flatMap Nd.cs)):=hrow
 have hgl:=(hrow.lt g rfl).1
 have HB10:Hid (Below w.heap.size w w10):=trans2 HB9.out hb10
 have HZ10:Hid _:=kept_block hb10 HZ9.out
 have HN10:Hid _:=kept_block hb10 HN9.out
 obtain ⟨cur,hcur,_,_⟩:=Fa.owns_block hrow
 have hfm:∀ o,w10.frozen? ⟨g,o,none⟩=false:=free_blk hcur
 have HFM:Hid _:=refFind_any (some ⟨g,0,none⟩) mc (ins n T) ab w10 (nds_of_row hrow) (by rw [ins_len,HN.out];omega)
 obtain ⟨_,m0,m1,m2,m3,m4,m5,m6⟩:=(nds_of_row hrow).cells HQ2.out
 have HML:Hid ((ins n T).length=N+1):=(show (ins n T).length=N+1 by rw [ins_len,HN.out])
 have hq2N:q2<N+1:=by rw [← HML.out];exact (List.getElem?_eq_some_iff.1 HQ2.out).1
 clear hrow hb10 n0 n1 n2 n3 n4 n5 n6 hcur
 rw [HML.out] at HFM ⊢
 rw [Nat.zero_add] at m0 m1 m2 m3 m4 m5 m6
 go_wp2_with fail
 refine Calls.mono HFM.out ?_
 rintro e w11 ⟨rfl,hw11⟩
 subst hw11
 rw [HU2.out]
 go_upto_region 23 with fail
 obtain ⟨w12,hw12⟩:∃ x,w11.setCell ⟨g,q2 * 7+6,none⟩ (.int .i64 (u.k+1))=x:=⟨_,rfl⟩
 have HB12:Hid (Below w.heap.size w w12):=by rw [← hw12];exact HB10.out.setCell (show w.heap.size≤g by have:=HB9.out.size;omega) _
 have HZ12:Hid (w12.heap[ob+1]? = some (.cells #[.string ⟨#[]⟩,.string ⟨#[]⟩,.int .i64 0,.int .i64 0,.int .i64 0,.int .i64 0,.slice none 0 0] 103 (0,0))):=by rw [← hw12];exact other_blk HZ10.out (by omega)
 have HN12:Hid (w12.heap[nb]? = some (.cells #[.string at',.string d,.int .i64 0,.int .i64 st,.int .i64 st,.int .i64 (s),.int .i64 0] 26 (0,0))):=by rw [← hw12];exact other_blk HN10.out (by omega)
 have HR12:Hid (NdsAt w12 (some ⟨g,0,none⟩) ((ins n T).set q2 { u with k:=u.k+1 })):=by rw [← hw12];exact nds_set HR10.out HQ2.out _
 rw [hw12]
 clear hw12 m0 m1 m2 m3 m4 m5 m6 hfm
 obtain ⟨n0,n1,n2,n3,n4,n5,n6⟩:=cells_7 HN12.out
 obtain ⟨b0,b1,b2,b3,b4,b5,b6⟩:=cells_7 HZ12.out
 have hfz:=free_7 HZ12.out
 have HSH:Hid (∀ W,_):=fun W=>refShown_any (⟨at',d,0,st,st,s,0⟩:Nd) W
 have hne:nb≠ob+1:=by omega
 have hgz:g≠ob+1:=by omega
 have hnl:nb<w12.heap.size:=(Array.getElem?_eq_some_iff.1 HN12.out).1
 have q3:nb≠w12.heap.size:=by omega
 have q4:ob+1≠w12.heap.size:=by omega
 go_region_held3 (fun w'=>w'.cell? ⟨nb,0,none⟩=some (.string at')∧w'.cell? ⟨nb,1,none⟩=some (.string d)∧w'.cell? ⟨nb,2,none⟩=some (.int .i64 0)∧w'.cell? ⟨nb,3,none⟩=some (.int .i64 st)∧w'.cell? ⟨nb,4,none⟩=some (.int .i64 st)∧w'.cell? ⟨nb,5,none⟩=some (.int .i64 (s))∧w'.cell? ⟨nb,6,none⟩=some (.int .i64 0)) (first | (simp only [World.cell?_drew,n0,n1,n2,n3,n4,n5,n6,and_self];done) | (simp only [cellN hne,World.cell?_drew,n0,n1,n2,n3,n4,n5,n6,and_self];done) | (simp only [cellA,World.size_setCell,World.size_drew,hnl,cellN hne,World.cell?_drew,n0,n1,n2,n3,n4,n5,n6,and_self];done) | go_keep)
  (first
    | (go_at_call 72;refine Calls.mono (HSH.out _) ?_;rintro e w13 ⟨rfl,hb13⟩
       have hb13':=of_drew hb13
       have HB13:Hid (Below w.heap.size w w13):=trans2 HB12.out hb13'
       have HN13:Hid _:=kept_block hb13' HN12.out
       have HZ13:Hid _:=kept_block hb13' HZ12.out
       have HR13:Hid _:=HR12.out.below hb13'
       clear hb13 hb13' n0 n1 n2 n3 n4 n5 n6 b0 b1 b2 b3 b4 b5 b6 hfz
       obtain ⟨n0,n1,n2,n3,n4,n5,n6⟩:=cells_7 HN13.out
       obtain ⟨b0,b1,b2,b3,b4,b5,b6⟩:=cells_7 HZ13.out
       have hfz:=free_7 HZ13.out
       have hzl:ob+1<w13.heap.size:=(Array.getElem?_eq_some_iff.1 HZ13.out).1
       clear hnl
       have hnl:nb<w13.heap.size:=(Array.getElem?_eq_some_iff.1 HN13.out).1
       have q3:nb≠w13.heap.size:=by omega
       have q4:ob+1≠w13.heap.size:=by omega)
    | (go_at_call 72;refine Calls.mono (HSH.out _) ?_;rintro e w13 ⟨rfl,hb13⟩
       have hb13':=of_drew hb13
       have HB13:Hid (Below w.heap.size w w13):=trans2 (HB12.out.alloc (by have:=HB12.out.size;omega) _) hb13'
       have HN13:Hid _:=kept_block hb13' (new_old HN12.out _)
       have HZ13:Hid _:=kept_block hb13' (new_old HZ12.out _)
       have HC13:Hid _:=kept_block hb13' (heap_alloc_new _ _)
       have HR13:Hid _:=(HR12.out.below ((Below.refl _ _).alloc (Nat.le_refl _) _)).below hb13'
       clear hb13 hb13' n0 n1 n2 n3 n4 n5 n6 b0 b1 b2 b3 b4 b5 b6 hfz
       obtain ⟨n0,n1,n2,n3,n4,n5,n6⟩:=cells_7 HN13.out
       obtain ⟨b0,b1,b2,b3,b4,b5,b6⟩:=cells_7 HZ13.out
       have hfz:=free_7 HZ13.out
       clear hnl
       have hnl:nb<w13.heap.size:=(Array.getElem?_eq_some_iff.1 HN13.out).1))
 · go_wp2_with fail
   exact bodyPost_ret (results_4c rfl _ _ (ob+1) 103 #[.string at',.string ⟨#[]⟩,.int .i64 0,.int .i64 st,.int .i64 st,.int .i64 (s),.slice none 0 0] (0,0) _ (.slice (some ⟨g,0,none⟩) (N+1) mc) (.slice (some ⟨w13.heap.size,0,none⟩) 1 1) (.int .i64 0) rfl rfl rfl rfl (new_old (fill_7 HZ13.out) _) Tryz.underlying103 rfl (by kernel_rfl)) rfl (OneE.made (by rw [List.length_set,HML.out]) mc ((nds_put7 HR13.out hgz).below ((Below.refl _ _).alloc (Nat.le_refl _) _)) (new_at (by simp [put_7]) _) ((fillB_7 HB13.out (by rw [HOB.out];omega)).alloc (by have:=HB13.out.size;simp [put_7];omega) _))
 · go_wp2_with fail
   exact bodyPost_ret (results_4c rfl _ _ (ob+1) 103 #[.string at',.string ⟨#[]⟩,.int .i64 0,.int .i64 st,.int .i64 st,.int .i64 (s),.slice none 0 0] (0,0) _ (.slice (some ⟨g,0,none⟩) (N+1) mc) (.slice (some ⟨w13.heap.size,0,none⟩) 1 1) (.int .i64 0) rfl rfl rfl rfl (new_old (fill_7 HZ13.out) _) Tryz.underlying103 rfl (by kernel_rfl)) rfl (OneE.made (by rw [List.length_set,HML.out]) mc ((nds_put7 HR13.out hgz).below ((Below.refl _ _).alloc (Nat.le_refl _) _)) (new_at (by simp [put_7]) _) ((fillB_7 HB13.out (by rw [HOB.out];omega)).alloc (by have:=HB13.out.size;simp [put_7];omega) _))
 · go_wp2_with fail
   exact bodyPost_ret (results_4c rfl _ _ (ob+1) 103 #[.string at',.string ⟨#[]⟩,.int .i64 0,.int .i64 st,.int .i64 st,.int .i64 (s),.slice none 0 0] (0,0) _ (.slice (some ⟨g,0,none⟩) (N+1) mc) (.slice (some ⟨w12.heap.size,0,none⟩) 1 1) (.int .i64 0) rfl rfl rfl rfl (fill_7 HZ13.out) Tryz.underlying103 rfl (by kernel_rfl)) rfl (OneE.made (by rw [List.length_set,HML.out]) mc (nds_put7 HR13.out hgz) (fillO_7 HC13.out (by omega)) (fillB_7 HB13.out (by rw [HOB.out];omega)))
end Go.Proofs.YtckmihplkhmpnaaGreatDoor
namespace Go.Proofs.YtckmihplkhmpnaaGreatDoor
open Go.RowKit Go.Maps Go.WideShapes
set_option linter.unusedVariables false
set_option linter.unusedSimpArgs false
attribute [local go_sem ↓] Go.wp_at_zero Go.wp_at_succ
abbrev rtV (a:Option Addr) (n c:Nat):Value:=.agg #[.slice a n c]
set_option maxHeartbeats 8000000 in
set_option maxRecDepth 100000 in
theorem refNodes_any (a:Option Addr) (c:Nat) (T:List Nd) (w:World) (h:NdsAt w a T) (hT:T.length≤64) :
  Calls Tryz.prog 11 #[rtV a T.length c] w fun e w'=>∃ v,e=.returned v∧w'.ownsRow w.heap.size 26 7 v T.length (T.flatMap Nd.cs)∧Below w.heap.size w w':=by
 obtain ⟨i0,hi0,hz0,hz1,hz2⟩:=info_parts Tryz.infoRF
 have H:Hid (NdsAt w a T):=h
 obtain ⟨N,hN⟩:∃ N,T.length=N:=⟨_,rfl⟩
 have HN:Hid (T.length=N):=hN
 rw [hN] at hT ⊢
 clear h hN
 go_enter Tryz.func11,Tryz.ntmps11
 go_upto_region 1 with fail
 obtain ⟨w1,hw1⟩:∃ y,w.alloc (.cells #[.slice a N c] 29)=y:=⟨_,rfl⟩
 obtain ⟨tb,htb⟩:∃ y,w.heap.size=y:=⟨_,rfl⟩
 have HB1:Hid (Below w.heap.size w w1):=by rw [← hw1];exact (Below.refl _ _).alloc (Nat.le_refl _) _
 have HX1:Hid (w1.heap[tb]? = some (.cells #[.slice a N c] 29 (0,0))):=by rw [← hw1,← htb];exact heap_alloc_new _ _
 have HTB:Hid (w.heap.size=tb):=htb
 rw [hw1,htb]
 clear hw1 htb
 go_wp2_with fail
 go_loopw [3,4] (fun v i wr=>∃ q:Nat,i=.int .i64 q∧q≤N∧Hid (wr.ownsRow w1.heap.size 26 7 v (T.take q).length ((T.take q).flatMap Nd.cs))∧Hid (Below w1.heap.size w1 wr)) (fun _ i _=>N - (intOf i).toNat)
 case atStart=>exact ⟨0,rfl,Nat.zero_le _,World.ownsRow_nil _ _ _ _,Below.refl _ _⟩
 case round =>
  obtain ⟨q,rfl,hq,HO,HB⟩:=hrel
  have HXr:Hid _:=kept_block HB.out HX1.out
  have t0:=cells_1 HXr.out
  by_cases hlt:q<N
  · have hlt':(q:Int)<(N:Int):=by omega
    obtain ⟨x,hx⟩:∃ x,T[q]? = some x:=⟨T[q]'(by rw [HN.out];exact hlt),List.getElem?_eq_getElem _⟩
    obtain ⟨gb,gf,rfl⟩:=H.out.some hx
    obtain ⟨hgl,x0,x1,x2,x3,x4,x5,x6⟩:=(H.out.below (trans2 HB1.out HB.out)).cells hx
    have HTK:Hid (T.take (q+1)=T.take q ++ [x]):=by show _=_;rw [List.take_add_one,hx];rfl
    have HLL:Hid ((T.take q).length≤64):=by show _≤_;rw [List.length_take];omega
    obtain ⟨U,hU⟩:∃ U,T.take q=U:=⟨_,rfl⟩
    rw [hU] at HO HTK HLL
    have hs:=HB.out.size
    clear hx hU
    go_wp2_with (first
     | (at_builtin;refine wpList_append_lies _ rfl _ _ _ rfl w1.heap.size 26 i0 _ 7 72 Tryz.underlying24 hi0 hz0 hz1 hz2 rfl (by omega) u3 U.length (U.flatMap Nd.cs) rfl (World.ownsRow.alloc HO.out _) ⟨wr.heap.size,0,none⟩ 1 1 [.string x.p,.string x.d,.int .i64 x.v,.int .i64 x.m,.int .i64 x.c,.int .i64 x.o,.int .i64 x.k] rfl rfl (World.news_of_block (cs:=#[.string x.p,.string x.d,.int .i64 x.v,.int .i64 x.m,.int .i64 x.c,.int .i64 x.o,.int .i64 x.k]) (t:=26) (fr:=(0,0)) (heap_alloc_new wr _)) (by simp [Value.oneCell']) (by have:=HLL.out;omega) (by have:=HLL.out;unfold maxLen;omega) (by have:=HLL.out;omega) (by simp;omega) (wr.heap.size+1) (by simp) ?_
        intro g4 cap4 w4 hown4 hgrow4 hat4 hlt4
        have HN4:Hid (w4.ownsRow w1.heap.size 26 7 (.slice (some ⟨g4,0,none⟩) (U.length+1) cap4) (U.length+1) (U.flatMap Nd.cs ++ [.string x.p,.string x.d,.int .i64 x.v,.int .i64 x.m,.int .i64 x.c,.int .i64 x.o,.int .i64 x.k])):=hown4
        have HB4:Hid (Below w1.heap.size w1 w4):=HB.out.trans (((Below.refl _ _).alloc (by omega) _).grown hgrow4 (by simp;omega) (fun j hj=>(HO.out.lt j hj).1))
        clear hown4 hgrow4 hat4 hlt4)
     | fail)
    go_roundw
    case rel=>exact ⟨q+1,by go_num,by omega,by show World.ownsRow _ _ _ _ _ _ _;rw [HTK.out,List.flatMap_append,List.length_append];have h9:=HN4.out;simpa using h9,HB4.out⟩
    case measure=>simp [intOf];omega
  · obtain rfl:q=N:=by omega
    go_wp2_with fail
    go_ret
    have h9:=HO.out
    rw [List.take_of_length_le (by rw [HN.out];exact Nat.le_refl _),HN.out] at h9
    refine ⟨_,rfl,?_,trans2 HB1.out HB.out⟩
    exact ⟨h9.1,h9.2.imp id (fun ⟨g,cap,cur,h1,h2,r⟩=>⟨g,cap,cur,h1,Nat.le_trans HB1.out.size h2,r⟩)⟩
end Go.Proofs.YtckmihplkhmpnaaGreatDoor
namespace Go.Proofs.YtckmihplkhmpnaaGreatDoor
open Go.RowKit Go.Maps Go.WideShapes
set_option linter.unusedVariables false
set_option linter.unusedSimpArgs false
attribute [local go_sem ↓] Go.wp_at_zero Go.wp_at_succ
theorem slice_of' {w:World} {B e s n:Nat} {v:Value} {xs:List Value} (h:w.ownsRow B e s v n xs):∃ a c,v=.slice a n c:=by
 rcases h.2 with ⟨rfl,h0⟩ | ⟨g,cap,cur,rfl,_⟩
 · exact ⟨none,0,by rw [h0]⟩
 · exact ⟨_,_,rfl⟩
theorem nds_row' {w:World} {B n c:Nat} {a:Option Addr} {T:List Nd} (h:w.ownsRow B 26 7 (.slice a n c) n (T.flatMap Nd.cs)):NdsAt w a T:=by
 have h':=h
 rcases h.2 with ⟨e,h0⟩ | ⟨g,cap,cur,e,_⟩
 · have hl:=h.1
   intro i x hx
   exfalso
   have:T=[]:=by
    cases T with
    | nil=>rfl
    | cons y r =>
      subst h0
      rw [List.flatMap_cons] at hl
      simp at hl
   rw [this] at hx
   simp at hx
 · obtain ⟨rfl,_,rfl⟩:a=some ⟨g,0,none⟩∧n=n∧c=cap:=by simpa using e
   exact nds_of_row h'
theorem endC_take {T:List Nd} {s:Int} {q:Nat} {x:Nd} (hx:T[q]? = some x):endT (T.take (q+1)) s=endT (T.take q) s ++ (if x.o=s then [] else [x]):=by
 unfold endT
 rw [List.take_add_one,hx,List.filter_append]
 by_cases h:x.o=s <;> simp [h]
set_option maxHeartbeats 8000000 in
set_option maxRecDepth 100000 in
theorem refEnd_any (a:Option Addr) (c:Nat) (T:List Nd) (s:Int) (w:World) (h:NdsAt w a T) (hT:T.length≤64) (hs:¬ s<1) :
  Calls Tryz.prog 27 #[rtV a T.length c,.int .i64 s] w fun e w'=>∃ la lc ca cc,e=.returned (.tuple #[rtV la (endT T s).length lc,.slice ca (endC T s).length cc])∧NdsAt w' la (endT T s)∧w'.ownsRow w.heap.size 26 7 (.slice la (endT T s).length lc) (endT T s).length ((endT T s).flatMap Nd.cs)∧w'.ownsRow w.heap.size 69 4 (.slice ca (endC T s).length cc) (endC T s).length (chCs (endC T s))∧Below w.heap.size w w':=by
 obtain ⟨i0,hi0,hz0,hz1,hz2⟩:=info_parts Tryz.infoRF
 obtain ⟨j0,hj0,hy0,hy1,hy2⟩:=info_parts Tryz.infoC
 have H:Hid (NdsAt w a T):=h
 obtain ⟨N,hN⟩:∃ N,T.length=N:=⟨_,rfl⟩
 have HN:Hid (T.length=N):=hN
 rw [hN] at hT ⊢
 clear h hN
 go_enter Tryz.func27,Tryz.ntmps27
 go_upto_region 1 with fail
 obtain ⟨w1,hw1⟩:∃ y,(w.alloc (.cells #[.slice a N c] 29)).alloc (.cells #[.slice none 0 0] 29)=y:=⟨_,rfl⟩
 obtain ⟨tb,htb⟩:∃ y,w.heap.size=y:=⟨_,rfl⟩
 have HB1:Hid (Below w.heap.size w w1):=by rw [← hw1];exact ((Below.refl _ _).alloc (Nat.le_refl _) _).alloc (by simp) _
 have HX1:Hid (w1.heap[tb]? = some (.cells #[.slice a N c] 29 (0,0))):=by rw [← hw1,← htb];exact heap_alloc2_old _ _ _
 have HY1:Hid (w1.heap[tb+1]? = some (.cells #[.slice none 0 0] 29 (0,0))):=by rw [← hw1,← htb];exact heap_alloc2_new _ _ _
 have HTB:Hid (w.heap.size=tb):=htb
 rw [hw1,htb]
 clear hw1 htb
 go_wp2_with fail
 go_loopw [6,7,8] (fun lv cv i wr=>∃ q:Nat,i=.int .i64 q∧q≤N∧Hid (wr.ownsRow w1.heap.size 26 7 lv (endT (T.take q) s).length ((endT (T.take q) s).flatMap Nd.cs))∧Hid (wr.ownsRow w1.heap.size 69 4 cv (endC (T.take q) s).length (chCs (endC (T.take q) s)))∧Hid (Below w1.heap.size w1 wr)) (fun _ _ i _=>N - (intOf i).toNat)
 case atStart=>exact ⟨0,rfl,Nat.zero_le _,World.ownsRow_nil _ _ _ _,World.ownsRow_nil _ _ _ _,Below.refl _ _⟩
 case round =>
  obtain ⟨q,rfl,hq,HO,HC,HB⟩:=hrel
  have HXr:Hid _:=kept_block HB.out HX1.out
  have t0:=cells_1 HXr.out
  have htl:tb<wr.heap.size:=(Array.getElem?_eq_some_iff.1 HXr.out).1
  by_cases hlt:q<N
  · have hlt':(q:Int)<(N:Int):=by omega
    obtain ⟨x,hx⟩:∃ x,T[q]? = some x:=⟨T[q]'(by rw [HN.out];exact hlt),List.getElem?_eq_getElem _⟩
    obtain ⟨gb,gf,rfl⟩:=H.out.some hx
    obtain ⟨hgl,x0,x1,x2,x3,x4,x5,x6⟩:=(H.out.below (trans2 HB1.out HB.out)).cells hx
    have HT1:Hid (endT (T.take (q+1)) s=endT (T.take q) s ++ (if x.o=s then [] else [x])):=endC_take hx
    have HC1:Hid (endC (T.take (q+1)) s=endC (T.take q) s ++ (if x.o=s then [⟨3,x.p,⟨#[]⟩,x.v⟩] else [])):=endC_snoc hx
    have HL1:Hid ((endT (T.take q) s).length≤64):=by
     show _≤_
     refine Nat.le_trans (List.length_filter_le _ _) ?_
     rw [List.length_take]
     omega
    have HL2:Hid ((endC (T.take q) s).length≤64):=by
     show _≤_
     unfold endC
     rw [List.length_map]
     refine Nat.le_trans (List.length_filter_le _ _) ?_
     rw [List.length_take]
     omega
    obtain ⟨U,hU⟩:∃ U,endT (T.take q) s=U:=⟨_,rfl⟩
    obtain ⟨C,hC⟩:∃ C,endC (T.take q) s=C:=⟨_,rfl⟩
    rw [hU] at HO HT1 HL1
    rw [hC] at HC HC1 HL2
    have hs1:=HB.out.size
    clear hx hU hC
    go_upto_region 9 with fail
    obtain ⟨w2,hw2⟩:∃ y,wr.alloc (.cells #[.string x.p,.string x.d,.int .i64 x.v,.int .i64 x.m,.int .i64 x.c,.int .i64 x.o,.int .i64 x.k] 26)=y:=⟨_,rfl⟩
    obtain ⟨nb,hnb⟩:∃ y,wr.heap.size=y:=⟨_,rfl⟩
    have hb2:Below wr.heap.size wr w2:=by rw [← hw2];exact (Below.refl _ _).alloc (Nat.le_refl _) _
    have HX2:Hid (w2.heap[nb]? = some (.cells #[.string x.p,.string x.d,.int .i64 x.v,.int .i64 x.m,.int .i64 x.c,.int .i64 x.o,.int .i64 x.k] 26 (0,0))):=by rw [← hw2,← hnb];exact heap_alloc_new _ _
    have HO2:Hid (w2.ownsRow w1.heap.size 26 7 u6 U.length (U.flatMap Nd.cs)):=owns_chg HO.out (Chg.of_below hb2 (fun _=>False)) (fun _ _=>id)
    have HC2:Hid (w2.ownsRow w1.heap.size 69 4 u7 C.length (chCs C)):=owns_chg HC.out (Chg.of_below hb2 (fun _=>False)) (fun _ _=>id)
    have HB2:Hid (Below w1.heap.size w1 w2):=trans2 HB.out hb2
    have hs2:=HB2.out.size
    rw [hw2,hnb]
    clear hw2 hnb hb2 x0 x1 x2 x3 x4 x5 x6 t0
    obtain ⟨n0,n1,n2,n3,n4,n5,n6⟩:=cells_7 HX2.out
    by_cases ho:x.o=s
    · have eo:(x.o==s)=true:=by simpa using ho
      have HO1:Hid (x.o=s):=ho
      clear ho
      go_wp2_with (first
       | (at_builtin;refine wpList_append_lies _ rfl _ _ _ rfl w1.heap.size 69 j0 _ 4 48 Tryz.underlying62 hj0 hy0 hy1 hy2 rfl (by omega) u7 C.length (chCs C) rfl (World.ownsRow.alloc HC2.out _) ⟨w2.heap.size,0,none⟩ 1 1 [.int .i64 3,.string x.p,.string ⟨#[]⟩,.int .i64 x.v] rfl rfl (World.news_of_block (cs:=#[.int .i64 3,.string x.p,.string ⟨#[]⟩,.int .i64 x.v]) (t:=69) (fr:=(0,0)) (heap_alloc_new w2 _)) (by simp [Value.oneCell']) (by have:=HL2.out;omega) (by have:=HL2.out;unfold maxLen;omega) (by have:=HL2.out;omega) (by simp;omega) (w2.heap.size+1) (by simp) ?_
          intro g4 cap4 w4 hown4 hgrow4 hat4 hlt4
          have HN4:Hid (w4.ownsRow w1.heap.size 69 4 (.slice (some ⟨g4,0,none⟩) (C.length+1) cap4) (C.length+1) (chCs C ++ [.int .i64 3,.string x.p,.string ⟨#[]⟩,.int .i64 x.v])):=hown4
          have HB4:Hid (Below w1.heap.size w1 w4):=HB2.out.trans (((Below.refl _ _).alloc (by omega) _).grown hgrow4 (by simp;omega) (fun j hj=>(HC2.out.lt j hj).1))
          have HO4:Hid (w4.ownsRow w1.heap.size 26 7 u6 U.length (U.flatMap Nd.cs)):=owns_chg HO2.out ((Chg.alloc _ _ _).trans (Chg.grown hgrow4)) (fun k hk e=>by
           obtain ⟨cur,h8⟩:=owns_kind HO2.out hk
           obtain ⟨cur',h9⟩:=owns_kind HC2.out e
           rw [h8] at h9
           simp at h9)
          clear hown4 hgrow4 hat4 hlt4)
       | fail)
      go_roundw
      case rel =>
       refine ⟨q+1,by go_num,by omega,?_,?_,HB4.out⟩
       · show World.ownsRow _ _ _ _ _ _ _
         rw [HT1.out,if_pos HO1.out,List.append_nil]
         exact HO4.out
       · show World.ownsRow _ _ _ _ _ _ _
         rw [HC1.out,if_pos HO1.out,List.length_append]
         have h9:=HN4.out
         simpa [chCs] using h9
      case measure=>simp [intOf];omega
    · have eo:(x.o==s)=false:=by simpa using ho
      have HO1:Hid (¬ x.o=s):=ho
      clear ho
      go_wp2_with (first
       | (at_builtin;refine wpList_append_lies _ rfl _ _ _ rfl w1.heap.size 26 i0 _ 7 72 Tryz.underlying24 hi0 hz0 hz1 hz2 rfl (by omega) u6 U.length (U.flatMap Nd.cs) rfl (World.ownsRow.alloc HO2.out _) ⟨w2.heap.size,0,none⟩ 1 1 [.string x.p,.string x.d,.int .i64 x.v,.int .i64 x.m,.int .i64 x.c,.int .i64 x.o,.int .i64 x.k] rfl rfl (World.news_of_block (cs:=#[.string x.p,.string x.d,.int .i64 x.v,.int .i64 x.m,.int .i64 x.c,.int .i64 x.o,.int .i64 x.k]) (t:=26) (fr:=(0,0)) (heap_alloc_new w2 _)) (by simp [Value.oneCell']) (by have:=HL1.out;omega) (by have:=HL1.out;unfold maxLen;omega) (by have:=HL1.out;omega) (by simp;omega) (w2.heap.size+1) (by simp) ?_
          intro g4 cap4 w4 hown4 hgrow4 hat4 hlt4
          have HN4:Hid (w4.ownsRow w1.heap.size 26 7 (.slice (some ⟨g4,0,none⟩) (U.length+1) cap4) (U.length+1) (U.flatMap Nd.cs ++ [.string x.p,.string x.d,.int .i64 x.v,.int .i64 x.m,.int .i64 x.c,.int .i64 x.o,.int .i64 x.k])):=hown4
          have HB4:Hid (Below w1.heap.size w1 w4):=HB2.out.trans (((Below.refl _ _).alloc (by omega) _).grown hgrow4 (by simp;omega) (fun j hj=>(HO2.out.lt j hj).1))
          have HC4:Hid (w4.ownsRow w1.heap.size 69 4 u7 C.length (chCs C)):=owns_chg HC2.out ((Chg.alloc _ _ _).trans (Chg.grown hgrow4)) (fun k hk e=>by
           obtain ⟨cur,h8⟩:=owns_kind HC2.out hk
           obtain ⟨cur',h9⟩:=owns_kind HO2.out e
           rw [h8] at h9
           simp at h9)
          clear hown4 hgrow4 hat4 hlt4)
       | fail)
      go_roundw
      case rel =>
       refine ⟨q+1,by go_num,by omega,?_,?_,HB4.out⟩
       · show World.ownsRow _ _ _ _ _ _ _
         rw [HT1.out,if_neg HO1.out,List.flatMap_append,List.length_append]
         have h9:=HN4.out
         simpa using h9
       · show World.ownsRow _ _ _ _ _ _ _
         rw [HC1.out,if_neg HO1.out,List.append_nil]
         exact HC4.out
      case measure=>simp [intOf];omega
  · obtain rfl:q=N:=by omega
    have hO:=HO.out
    have hC:=HC.out
    rw [List.take_of_length_le (by rw [HN.out];exact Nat.le_refl _)] at hO hC
    obtain ⟨la,lc,rfl⟩:=slice_of' hO
    obtain ⟨ca,cc,rfl⟩:=slice_of' hC
    have HYr:Hid _:=kept_block HB.out HY1.out
    have hyf:=free_1 HYr.out
    have y0:=cells_1 HYr.out
    have HOF:Hid (wr.ownsRow w1.heap.size 26 7 (.slice la (endT T s).length lc) (endT T s).length ((endT T s).flatMap Nd.cs)):=hO
    have HCF:Hid (wr.ownsRow w1.heap.size 69 4 (.slice ca (endC T s).length cc) (endC T s).length (chCs (endC T s))):=hC
    have hyl:tb+1<w1.heap.size:=(Array.getElem?_eq_some_iff.1 HY1.out).1
    obtain ⟨LN,hLN⟩:∃ n,(endT T s).length=n:=⟨_,rfl⟩
    obtain ⟨CN,hCN⟩:∃ n,(endC T s).length=n:=⟨_,rfl⟩
    have HLN:Hid ((endT T s).length=LN):=hLN
    have HCN:Hid ((endC T s).length=CN):=hCN
    rw [hLN] at HOF ⊢
    rw [hCN] at HCF ⊢
    clear hO hC hLN hCN
    go_wp2_with fail
    have hset:∀ {B t sz m:Nat} {v:Value} {xs:List Value},w1.heap.size≤B→wr.ownsRow B t sz v m xs→(wr.setCell ⟨tb+1,0,none⟩ (.slice la LN lc)).ownsRow B t sz v m xs:=fun hB hr=>owns_chg hr (Chg.set _ _ _) (fun k hk e=>by
     have:=(hr.lt k hk).1
     have e':k=tb+1:=e
     omega)
    have hOo:=hset (Nat.le_refl _) HOF.out
    have hCo:=hset (Nat.le_refl _) HCF.out
    have base:∀ {W:World} {t sz m:Nat} {v:Value} {xs:List Value},W.ownsRow w1.heap.size t sz v m xs→W.ownsRow w.heap.size t sz v m xs:=fun h9=>⟨h9.1,h9.2.imp id (fun ⟨g,cap,cur,h1,h2,r⟩=>⟨g,cap,cur,h1,Nat.le_trans HB1.out.size h2,r⟩)⟩
    exact bodyPost_ret (results_cell_tmp rfl _ _ (tb+1) 29 _ (0,0) _ (.slice ca CN cc) rfl rfl (fill_1 HYr.out) Tryz.underlying29 rfl (by kernel_rfl)) rfl ⟨la,lc,ca,cc,by rw [HLN.out,HCN.out],nds_row' hOo,by rw [HLN.out];exact base hOo,by rw [HCN.out];exact base hCo,(trans2 HB1.out HB.out).setCell (by rw [HTB.out];show tb≤tb+1;omega) _⟩
end Go.Proofs.YtckmihplkhmpnaaGreatDoor
