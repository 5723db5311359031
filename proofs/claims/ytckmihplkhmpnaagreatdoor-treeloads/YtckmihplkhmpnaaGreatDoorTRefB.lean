import Derived.Test.YtckmihplkhmpnaaGreatDoorTOne
import Derived.Test.YtckmihplkhmpnaaGreatDoorTRefI
import Derived.Test.YtckmihplkhmpnaaGreatDoorRefOrder
import Derived.Test.YtckmihplkhmpnaaGreatDoorTDrop
namespace Go.Proofs.YtckmihplkhmpnaaGreatDoor
open Go.RowKit Go.Maps Go.WideShapes
set_option linter.unusedVariables false
set_option linter.unusedSimpArgs false
attribute [local go_sem ↓] Go.wp_at_zero Go.wp_at_succ
def NdsAt (w:World) (a:Option Addr) (T:List Nd):Prop:=∀ i x,T[i]? = some x→∃ b f,a=some ⟨b,f,none⟩∧b<w.heap.size∧(∃ cur,w.heap[b]? = some (.cells cur 26 (0,0)))∧∀ j v,x.cs[j]? = some v→w.cell? ⟨b,f+i * 7+j,none⟩=some v
theorem NdsAt.below {w w':World} {a:Option Addr} {T:List Nd} (h:NdsAt w a T) (hb:Below w.heap.size w w'):NdsAt w' a T:=fun i x hx=>by
 obtain ⟨b,f,ha,hlt,⟨cur,hk⟩,hc⟩:=h i x hx
 exact ⟨b,f,ha,Nat.lt_of_lt_of_le hlt hb.size,⟨cur,by rw [hb.block b hlt];exact hk⟩,fun j v hv=>by rw [hb.cell (p:=⟨b,f+i * 7+j,none⟩) hlt];exact hc j v hv⟩
theorem nds_of_row {w:World} {base g n cap:Nat} {T:List Nd} (h:w.ownsRow base 26 7 (.slice (some ⟨g,0,none⟩) n cap) n (T.flatMap Nd.cs)):NdsAt w (some ⟨g,0,none⟩) T:=fun i x hx=>by
 refine ⟨g,0,rfl,(h.lt g rfl).2,owns_kind h rfl,fun j v hv=>?_⟩
 rw [Nat.zero_add]
 exact Fa.cell_n h (Fa.flat_at (cells:=Nd.cs) (fun _=>rfl) hx hv)
def fndI:List Nd→ByteArray→Int
 | [],_=>-1
 | x :: r,s=>if x.p=s then 0 else if fndI r s=-1 then -1 else fndI r s+1
theorem fndI_none:∀ {T:List Nd} {s:ByteArray},(∀ x∈T,x.p≠s)→fndI T s=-1
 | [],_,_=>rfl
 | x :: r,s,h=>by
   unfold fndI
   rw [if_neg (h x List.mem_cons_self),if_pos (fndI_none (fun y hy=>h y (List.mem_cons_of_mem _ hy)))]
theorem fndI_some:∀ {T:List Nd} {s:ByteArray} {q:Nat} {x:Nd},T[q]? = some x→x.p=s→(∀ y∈T.take q,y.p≠s)→fndI T s=q
 | [],_,_,_,h,_,_=>by simp at h
 | y :: r,s,0,x,h,hp,_=>by
   obtain rfl:y=x:=by simpa using h
   unfold fndI
   rw [if_pos hp]
   rfl
 | y :: r,s,q+1,x,h,hp,hn=>by
   have ih:=fndI_some (T:=r) (s:=s) (q:=q) (x:=x) (by simpa using h) hp (fun z hz=>hn z (by simp [hz]))
   unfold fndI
   rw [if_neg (hn y (by simp)),ih,if_neg (by omega)]
   omega
theorem fndI_fnd {T:List Nd} {s:ByteArray} {x:Nd} (h:fnd T s=some x):∃ q:Nat,fndI T s=q∧T[q]? = some x∧∀ y∈T.take q,y.p≠s:=by
 induction T with
 | nil=>cases h
 | cons y r ih =>
   unfold fnd at h
   rw [List.find?_cons] at h
   by_cases hy:y.p=s
   · rw [show decide (y.p=s)=true by simpa using hy] at h
     obtain rfl:y=x:=by simpa using h
     exact ⟨0,by unfold fndI;rw [if_pos hy];rfl,rfl,fun z hz=>by simp at hz⟩
   · rw [show decide (y.p=s)=false by simpa using hy] at h
     obtain ⟨q,h1,h2,h3⟩:=ih h
     refine ⟨q+1,?_,by simpa using h2,fun z hz=>?_⟩
     · unfold fndI;rw [if_neg hy,h1,if_neg (by omega)];omega
     · rw [List.take_succ_cons] at hz
       rcases List.mem_cons.1 hz with rfl | hz
       · exact hy
       · exact h3 z hz
theorem str_eq_t {a b:ByteArray} (h:a=b):(a.toList==b.toList)=true:=by rw [h];simp
theorem str_eq_f {a b:ByteArray} (h:a≠b):(a.toList==b.toList)=false:=by have:=str_ne h;simpa [bne] using this
set_option maxHeartbeats 4000000 in
set_option maxRecDepth 100000 in
theorem refFind_any (a:Option Addr) (c:Nat) (T:List Nd) (s:ByteArray) (w:World) (h:NdsAt w a T) (hl:T.length≤1000) :
  Calls Tryz.prog 36 #[.slice a T.length c,.string s] w fun e w'=>e=.returned (.int .i64 (fndI T s))∧w'=w:=by
 have H:Hid _:=h
 obtain ⟨N,hN⟩:∃ N,T.length=N:=⟨_,rfl⟩
 have HN:Hid (T.length=N):=hN
 rw [hN] at hl ⊢
 clear h hN
 go_enter Tryz.func36,Tryz.ntmps36
 go_wp2_with fail
 go_loopw [5] (fun i wr=>∃ q:Nat,i=.int .i64 q∧q≤N∧Hid (∀ y∈T.take q,y.p≠s)∧wr=w) (fun i _=>N - (intOf i).toNat)
 case atStart=>exact ⟨0,rfl,Nat.zero_le _,(fun y hy=>by simp at hy),rfl⟩
 case round =>
  obtain ⟨q,rfl,hq,HB,rfl⟩:=hrel
  by_cases hlt:q<N
  · have hqi:(q:Int)<(N:Int):=by omega
    obtain ⟨x,hx⟩:∃ x,T[q]? = some x:=⟨T[q]'(by rw [HN.out];exact hlt),List.getElem?_eq_getElem _⟩
    obtain ⟨b,f,rfl,hb,_,hc⟩:=H.out q x hx
    have x0:=hc 0 _ rfl
    rw [Nat.add_zero] at x0
    have HX:Hid (T[q]? = some x):=hx
    clear hc hx
    by_cases hp:x.p=s
    · have e1:=str_eq_t hp
      have HP:Hid (x.p=s):=hp
      clear hp
      go_wp2_with fail
      go_ret
      exact ⟨by rw [fndI_some HX.out HP.out HB.out];rfl,rfl⟩
    · have e1:=str_eq_f hp
      have HP:Hid (x.p≠s):=hp
      clear hp
      go_wp2_with fail
      go_roundw
      case rel=>exact ⟨q+1,by go_num,by omega,(fun y hy=>by
       rw [List.take_add_one,HX.out] at hy
       rcases List.mem_append.1 hy with hy | hy
       · exact HB.out y hy
       · obtain rfl:y=x:=by simpa using hy
         exact HP.out),trivial⟩
      case measure=>simp [intOf];omega
  · obtain rfl:q=N:=by omega
    have hge:¬ (q:Int)<(q:Int):=by omega
    go_wp2_with fail
    go_ret
    have h9:=HB.out
    rw [List.take_of_length_le (by rw [HN.out];exact Nat.le_refl _)] at h9
    exact ⟨by rw [fndI_none h9];rfl,rfl⟩
theorem refParent_any (p:ByteArray) (w:World) :
  Calls Tryz.prog 34 #[.string p] w fun e w'=>e=.returned (.tuple #[.string (parB p),.int .i64 (parC p)])∧Below w.heap.size w w':=by
 obtain ⟨code,xs,hp⟩:∃ code xs,parse p=(code,xs):=⟨_,_,rfl⟩
 unfold parB parC
 rw [hp]
 by_cases hc:code=0
 · subst hc
   cases xs with
   | nil=>exact refParent_root hp w
   | cons x r =>
     have h9:=refParent_some hp r.length (by simp) w
     simpa using h9
 · have hx:=parse_code hp hc
   subst hx
   simpa [hc] using refParent_err hp hc w
theorem refName_any (p:ByteArray) (w:World) :
  Calls Tryz.prog 95 #[.string p] w fun e w'=>e=.returned (.tuple #[.string (lastN p),.int .i64 (parse p).1])∧Below w.heap.size w w':=by
 obtain ⟨code,xs,hp⟩:∃ code xs,parse p=(code,xs):=⟨_,_,rfl⟩
 unfold lastN
 rw [hp]
 rcases List.eq_nil_or_concat xs with rfl | ⟨ys,x,e⟩
 · exact refName_err hp w
 · rw [List.concat_eq_append] at e
   subst e
   have hc:code=0:=Classical.byContradiction fun hc=>by have:=parse_code hp hc;simp at this
   subst hc
   have h9:=refName_some hp ys.length (by simp) x (by simp) w
   simpa using h9
def kidB (text above:ByteArray):Bool:=decide (parC text=0∧parB text=above)
set_option maxHeartbeats 4000000 in
theorem refKid_any (text above:ByteArray) (w:World) :
  Calls Tryz.prog 51 #[.string text,.string above] w fun e w'=>e=.returned (.bool (kidB text above))∧Below w.heap.size w w':=by
 have HP:Hid _:=refParent_any text w
 unfold kidB
 by_cases hc:parC text=0
 · rw [hc] at HP ⊢
   by_cases hp:parB text=above
   · have e1:=str_eq_t hp
     rw [decide_eq_true ⟨rfl,hp⟩]
     clear hp hc
     go_enter Tryz.func51,Tryz.ntmps51
     go_wp2_with fail
     refine Calls.mono HP.out ?_
     rintro e w1 ⟨rfl,hb1⟩
     go_wp2_with fail
     go_ret
     exact ⟨rfl,hb1⟩
   · have e1:=str_eq_f hp
     rw [decide_eq_false (fun h=>hp h.2)]
     clear hp hc
     go_enter Tryz.func51,Tryz.ntmps51
     go_wp2_with fail
     refine Calls.mono HP.out ?_
     rintro e w1 ⟨rfl,hb1⟩
     go_wp2_with fail
     go_ret
     exact ⟨rfl,hb1⟩
 · rw [decide_eq_false (fun h=>hc h.1)]
   have e2:(parC text==0)=false:=by simpa using hc
   obtain ⟨pc,hpc⟩:∃ pc,parC text=pc:=⟨_,rfl⟩
   rw [hpc] at HP e2
   clear hc hpc
   go_enter Tryz.func51,Tryz.ntmps51
   go_wp2_with fail
   refine Calls.mono HP.out ?_
   rintro e w1 ⟨rfl,hb1⟩
   go_wp2_with fail
   go_ret
   exact ⟨rfl,hb1⟩
set_option maxHeartbeats 4000000 in
theorem refShown_any (x:Nd) (w:World) :
  Calls Tryz.prog 72 #[x.V] w fun e w'=>e=.returned (resV x.p ⟨#[]⟩ x.v x.m x.c x.o (.slice none 0 0))∧Below w.heap.size w w':=by
 obtain ⟨p,d,v,m,c,o,k⟩:=x
 go_enter Tryz.func72,Tryz.ntmps72
 go_upto_region 1 with fail
 obtain ⟨W1,hW1⟩:∃ x,(w.alloc (.cells #[.string p,.string d,.int .i64 v,.int .i64 m,.int .i64 c,.int .i64 o,.int .i64 k] 26)).alloc (.cells #[.string ⟨#[]⟩,.string ⟨#[]⟩,.int .i64 0,.int .i64 0,.int .i64 0,.int .i64 0,.slice none 0 0] 103)=x:=⟨_,rfl⟩
 have HB1:Hid (Below w.heap.size w W1):=by rw [← hW1];exact ((Below.refl _ _).alloc (Nat.le_refl _) _).alloc (by simp) _
 have HN1:Hid (W1.heap[w.heap.size]? = some (.cells #[.string p,.string d,.int .i64 v,.int .i64 m,.int .i64 c,.int .i64 o,.int .i64 k] 26 (0,0))):=by rw [← hW1];exact heap_alloc2_old _ _ _
 have HZ1:Hid (W1.heap[w.heap.size+1]? = some (.cells #[.string ⟨#[]⟩,.string ⟨#[]⟩,.int .i64 0,.int .i64 0,.int .i64 0,.int .i64 0,.slice none 0 0] 103 (0,0))):=by rw [← hW1];exact heap_alloc2_new _ _ _
 rw [hW1]
 clear hW1
 obtain ⟨a0,a1,a2,a3,a4,a5,a6⟩:=cells_7 HN1.out
 obtain ⟨b0,b1,b2,b3,b4,b5,b6⟩:=cells_7 HZ1.out
 have hfz:=free_7 HZ1.out
 go_wp2_with fail
 exact bodyPost_ret (results_cell1 rfl _ _ (w.heap.size+1) 103 _ (0,0) _ rfl (fill_7 HZ1.out) Tryz.underlying103 rfl (by kernel_rfl)) rfl ⟨rfl,fillB_7 HB1.out (by omega)⟩
end Go.Proofs.YtckmihplkhmpnaaGreatDoor
namespace Go.Proofs.YtckmihplkhmpnaaGreatDoor
open Go.RowKit Go.Maps Go.WideShapes
set_option linter.unusedVariables false
set_option linter.unusedSimpArgs false
attribute [local go_sem ↓] Go.wp_at_zero Go.wp_at_succ
theorem Tryz.infoRF:(Tryz.prog.info? 26).map (fun i=>(i.zero,i.size,i.bytes))=some (some zf,7,72):=by kernel_rfl
def kidsR (T:List Nd) (at':ByteArray):List ByteArray:=(T.filter (fun x=>kidB x.p at')).map (fun x=>lastN x.p)
theorem kidsR_snoc (l:List Nd) (x:Nd) (at':ByteArray):kidsR (l ++ [x]) at'=kidsR l at' ++ (if kidB x.p at'=true then [lastN x.p] else []):=by
 unfold kidsR
 rw [List.filter_append,List.map_append]
 cases h:kidB x.p at' <;> simp [h]
theorem flat_snoc (l:List Nd) (x:Nd):(l ++ [x]).flatMap Nd.cs=l.flatMap Nd.cs ++ [.string x.p,.string x.d,.int .i64 x.v,.int .i64 x.m,.int .i64 x.c,.int .i64 x.o,.int .i64 x.k]:=by simp [Nd.cs]
theorem NdsAt.cells {w:World} {b f:Nat} {T:List Nd} (h:NdsAt w (some ⟨b,f,none⟩) T) {q:Nat} {x:Nd} (hx:T[q]? = some x):b<w.heap.size∧w.cell? ⟨b,f+q * 7,none⟩=some (.string x.p)∧w.cell? ⟨b,f+q * 7+1,none⟩=some (.string x.d)∧w.cell? ⟨b,f+q * 7+2,none⟩=some (.int .i64 x.v)∧w.cell? ⟨b,f+q * 7+3,none⟩=some (.int .i64 x.m)∧w.cell? ⟨b,f+q * 7+4,none⟩=some (.int .i64 x.c)∧w.cell? ⟨b,f+q * 7+5,none⟩=some (.int .i64 x.o)∧w.cell? ⟨b,f+q * 7+6,none⟩=some (.int .i64 x.k):=by
 obtain ⟨b',f',e,hl,_,hc⟩:=h q x hx
 simp only [Option.some.injEq,Addr.mk.injEq,and_true] at e
 obtain ⟨rfl,rfl⟩:=e
 have h0:=hc 0 _ rfl
 rw [Nat.add_zero] at h0
 exact ⟨hl,h0,hc 1 _ rfl,hc 2 _ rfl,hc 3 _ rfl,hc 4 _ rfl,hc 5 _ rfl,hc 6 _ rfl⟩
theorem NdsAt.some {w:World} {a:Option Addr} {T:List Nd} (h:NdsAt w a T) {q:Nat} {x:Nd} (hx:T[q]? = some x):∃ b f,a=some ⟨b,f,none⟩:=by
 obtain ⟨b,f,e,_⟩:=h q x hx
 exact ⟨b,f,e⟩
set_option maxHeartbeats 4000000 in
set_option maxRecDepth 100000 in
theorem refKids_any (a:Option Addr) (c:Nat) (T:List Nd) (at':ByteArray) (w:World) (h:NdsAt w a T) (hl:T.length≤1000) :
  Calls Tryz.prog 75 #[.slice a T.length c,.string at'] w fun e w'=>∃ v,e=.returned v∧w'.ownsRow w.heap.size 9 1 v (kidsR T at').length ((kidsR T at').map Value.string)∧Below w.heap.size w w':=by
 obtain ⟨i0,hi,hz0,hz1,hz2⟩:=info_parts Tryz.infoT
 have H:Hid (NdsAt w a T):=h
 obtain ⟨N,hN⟩:∃ N,T.length=N:=⟨_,rfl⟩
 have HN:Hid (T.length=N):=hN
 rw [hN] at hl ⊢
 clear h hN
 go_enter Tryz.func75,Tryz.ntmps75
 go_wp2_with fail
 go_loopw [5,6] (fun v i wr=>∃ q:Nat,i=.int .i64 q∧q≤N∧Hid (wr.ownsRow w.heap.size 9 1 v (kidsR (T.take q) at').length ((kidsR (T.take q) at').map Value.string))∧Hid (Below w.heap.size w wr)) (fun _ i _=>N - (intOf i).toNat)
 case atStart=>exact ⟨0,rfl,Nat.zero_le _,World.ownsRow_nil _ _ _ _,Below.refl _ _⟩
 case round =>
  obtain ⟨q,rfl,hq,HO,HB⟩:=hrel
  by_cases hlt:q<N
  · have hqi:(q:Int)<(N:Int):=by omega
    obtain ⟨x,hx⟩:∃ x,T[q]? = some x:=⟨T[q]'(by rw [HN.out];exact hlt),List.getElem?_eq_getElem _⟩
    obtain ⟨b,f,rfl⟩:=H.out.some hx
    obtain ⟨hb,x0,-⟩:=(H.out.below HB.out).cells hx
    have HX:Hid (T.take (q+1)=T.take q ++ [x]):=by show _=_;rw [List.take_add_one,hx];rfl
    have HX2:Hid (T[q]? = some x):=hx
    have HLL:Hid ((kidsR (T.take q) at').length≤1000):=by
     show _≤_
     unfold kidsR
     rw [List.length_map]
     refine Nat.le_trans (List.length_filter_le _ _) ?_
     rw [List.length_take]
     omega
    have HKD:Hid _:=refKid_any x.p at' wr
    obtain ⟨kb,hkb⟩:∃ kb,kidB x.p at'=kb:=⟨_,rfl⟩
    have HKB:Hid (kidB x.p at'=kb):=hkb
    rw [hkb] at HKD
    clear hx hkb
    cases kb with
    | false =>
      go_wp2_with fail
      refine Calls.mono HKD.out ?_
      rintro e w3 ⟨rfl,hb3⟩
      have HB3:Hid (Below w.heap.size w w3):=trans2 HB.out hb3
      have HO3:Hid _:=owns_chg HO.out (Chg.of_below hb3 (fun _=>False)) (fun _ _=>id)
      clear hb3
      go_wp2_with fail
      go_roundw
      case rel=>exact ⟨q+1,by go_num,by omega,by show World.ownsRow _ _ _ _ _ _ _;rw [HX.out,kidsR_snoc,if_neg (by rw [HKB.out];simp),List.append_nil];exact HO3.out,HB3.out⟩
      case measure=>simp [intOf];omega
    | true =>
      obtain ⟨L,hL⟩:∃ L,kidsR (T.take q) at'=L:=⟨_,rfl⟩
      have HL:Hid (kidsR (T.take (q+1)) at'=L ++ [lastN x.p]):=by show _=_;rw [HX.out,kidsR_snoc,if_pos HKB.out,hL]
      rw [hL] at HO HLL
      clear hL
      go_wp2_with fail
      refine Calls.mono HKD.out ?_
      rintro e w3 ⟨rfl,hb3⟩
      have HB3:Hid (Below w.heap.size w w3):=trans2 HB.out hb3
      have HO3:Hid (w3.ownsRow w.heap.size 9 1 u5 L.length (L.map Value.string)):=owns_chg HO.out (Chg.of_below hb3 (fun _=>False)) (fun _ _=>id)
      clear hb3 x0 hb
      obtain ⟨hb,x0,-⟩:=(H.out.below HB3.out).cells HX2.out
      go_wp2_with fail
      refine Calls.mono (refName_any x.p w3) ?_
      rintro e w4 ⟨rfl,hb4⟩
      have HB4:Hid (Below w.heap.size w w4):=trans2 HB3.out hb4
      have HO4:Hid (w4.ownsRow w.heap.size 9 1 u5 L.length (L.map Value.string)):=owns_chg HO3.out (Chg.of_below hb4 (fun _=>False)) (fun _ _=>id)
      have hs4:=HB4.out.size
      clear hb4
      go_wp2_with (first
       | (at_builtin;refine wpList_append_own _ rfl _ _ 70 rfl w.heap.size 9 i0 (.string ⟨#[]⟩) 1 16 Tryz.underlying70 hi hz0 hz1 hz2 rfl (by decide) _ _ _ rfl (World.ownsRow.alloc HO4.out _) ⟨w4.heap.size,0,none⟩ 1 1 [.string (lastN x.p)] rfl rfl (cell_one_new _ _ _) (by simp [Value.oneCell']) (by have:=HLL.out;unfold maxLen;omega) (by have:=HLL.out;omega) (by simp;omega) ?_;intro v' w5 hown5 hg5 hnil5;go_frame)
       | fail)
      go_roundw
      case rel =>
       refine ⟨q+1,by go_num,by omega,?_,?_⟩
       · show World.ownsRow _ _ _ _ _ _ _
         rw [HL.out]
         simpa using hown5
       · exact (HB4.out.alloc hs4 _).grown hg5 (by simp;omega) (fun j hj=>(HO4.out.lt j hj).1)
      case measure=>simp [intOf];omega
  · obtain rfl:q=N:=by omega
    have hge:¬ (q:Int)<(q:Int):=by omega
    go_wp2_with fail
    go_ret
    have h9:=HO.out
    rw [List.take_of_length_le (by rw [HN.out];exact Nat.le_refl _)] at h9
    exact ⟨_,rfl,h9,HB.out⟩
set_option maxHeartbeats 4000000 in
set_option maxRecDepth 100000 in
theorem refWithout_any (a:Option Addr) (c:Nat) (T:List Nd) (i:Nat) (w:World) (h:NdsAt w a T) (hl:T.length≤1000) (hi':i<T.length) :
  Calls Tryz.prog 74 #[.slice a T.length c,.int .i64 i] w fun e w'=>∃ v,e=.returned v∧w'.ownsRow w.heap.size 26 7 v (T.eraseIdx i).length ((T.eraseIdx i).flatMap Nd.cs)∧Below w.heap.size w w':=by
 obtain ⟨i0,hi0,hz0,hz1,hz2⟩:=info_parts Tryz.infoRF
 have H:Hid (NdsAt w a T):=h
 obtain ⟨N,hN⟩:∃ N,T.length=N:=⟨_,rfl⟩
 have HN:Hid (T.length=N):=hN
 rw [hN] at hl hi' ⊢
 clear h hN
 go_enter Tryz.func74,Tryz.ntmps74
 go_wp2_with fail
 go_loopw [5,6] (fun v k wr=>∃ (q:Nat) (U:List Nd),k=.int .i64 q∧q≤N∧Hid (U=if q≤i then T.take q else (T.take q).eraseIdx i)∧Hid (wr.ownsRow w.heap.size 26 7 v U.length (U.flatMap Nd.cs))∧Hid (Below w.heap.size w wr)) (fun _ k _=>N - (intOf k).toNat)
 case atStart=>exact ⟨0,[],rfl,Nat.zero_le _,by show _=_;simp,World.ownsRow_nil _ _ _ _,Below.refl _ _⟩
 case round =>
  obtain ⟨q,U,rfl,hq,HU,HO,HB⟩:=hrel
  by_cases hlt:q<N
  · have hqi:(q:Int)<(N:Int):=by omega
    obtain ⟨x,hx⟩:∃ x,T[q]? = some x:=⟨T[q]'(by rw [HN.out];exact hlt),List.getElem?_eq_getElem _⟩
    obtain ⟨b,f,rfl⟩:=H.out.some hx
    obtain ⟨hb,x0,x1,x2,x3,x4,x5,x6⟩:=(H.out.below HB.out).cells hx
    have HX:Hid (T.take (q+1)=T.take q ++ [x]):=by show _=_;rw [List.take_add_one,hx];rfl
    have HTQ:Hid ((T.take q).length=q):=by show _=_;rw [List.length_take,HN.out];omega
    clear hx
    by_cases hqe:q=i
    · have e1:((q:Int)==(i:Int))=true:=by rw [hqe];simp
      have e2:((q:Int) != (i:Int))=false:=by rw [hqe];simp
      have HU2:Hid (U=if q+1≤i then T.take (q+1) else (T.take (q+1)).eraseIdx i):=by
       show _=_
       rw [HU.out,if_pos (by omega),if_neg (by omega),HX.out,List.eraseIdx_append_of_length_le (by rw [HTQ.out];omega),HTQ.out,hqe,Nat.sub_self]
       simp
      clear hqe
      go_wp2_with fail
      exact ⟨⟨q+1,U,by go_num,by omega,HU2,HO,HB⟩,by simp [intOf];omega⟩
    · have e1:((q:Int)==(i:Int))=false:=by simp;omega
      have e2:((q:Int) != (i:Int))=true:=by simp;omega
      have HU2:Hid (U ++ [x]=if q+1≤i then T.take (q+1) else (T.take (q+1)).eraseIdx i):=by
       show _=_
       by_cases hle:q≤i
       · rw [HU.out,if_pos hle,if_pos (by omega),HX.out]
       · rw [HU.out,if_neg hle,if_neg (by omega),HX.out,List.eraseIdx_append_of_lt_length (by rw [HTQ.out];omega)]
      have HUL:Hid (U.length≤1000):=by
       have h9:=congrArg List.length HU.out
       have h8:(T.take q).length≤1000:=by rw [HTQ.out];omega
       show U.length≤1000
       rw [h9]
       split
       · exact h8
       · exact Nat.le_trans (List.length_eraseIdx_le _ _) h8
      have hul:=HUL.out
      have HFS:Hid _:=flat_snoc U x
      clear hqe
      go_wp2_with (first
       | (at_builtin;refine wpList_append_lies _ rfl _ _ _ rfl w.heap.size 26 i0 _ 7 72 Tryz.underlying24 hi0 hz0 hz1 hz2 rfl (by omega) u5 U.length (U.flatMap Nd.cs) rfl (World.ownsRow.alloc HO.out _) ⟨wr.heap.size,0,none⟩ 1 1 [.string x.p,.string x.d,.int .i64 x.v,.int .i64 x.m,.int .i64 x.c,.int .i64 x.o,.int .i64 x.k] rfl rfl (World.news_of_block (cs:=#[.string x.p,.string x.d,.int .i64 x.v,.int .i64 x.m,.int .i64 x.c,.int .i64 x.o,.int .i64 x.k]) (t:=26) (fr:=(0,0)) (heap_alloc_new wr _)) (by simp [Value.oneCell']) (by omega) (by unfold maxLen;omega) (by omega) (by simp;have:=HB.out.size;omega) (wr.heap.size+1) (by simp) ?_
          intro g4 cap4 w4 hown4 hgrow4 hat4 hlt4
          have HN4:Hid (w4.ownsRow w.heap.size 26 7 (.slice (some ⟨g4,0,none⟩) (U.length+1) cap4) (U.length+1) ((U ++ [x]).flatMap Nd.cs)):=by rw [HFS.out];exact hown4
          have HB4:Hid (Below w.heap.size w w4):=HB.out.trans (((Below.refl _ _).alloc HB.out.size _).grown hgrow4 (by simp;have:=HB.out.size;omega) (fun j hj=>(HO.out.lt j hj).1))
          clear hown4 hgrow4 hat4 hlt4)
       | fail)
      go_roundw
      case rel=>exact ⟨q+1,U ++ [x],by go_num,by omega,HU2,by show World.ownsRow _ _ _ _ _ _ _;rw [List.length_append];exact HN4.out,HB4⟩
      case measure=>simp [intOf];omega
  · obtain rfl:q=N:=by omega
    have hge:¬ (q:Int)<(q:Int):=by omega
    go_wp2_with fail
    go_ret
    have h9:=HU.out
    rw [if_neg (by omega),List.take_of_length_le (by rw [HN.out];exact Nat.le_refl _)] at h9
    have h8:=HO.out
    rw [h9] at h8
    exact ⟨_,rfl,h8,HB.out⟩
theorem ins_put {n x:Nd}:∀ {l:List Nd},(∃ y∈l,O n.p y.p=-1)→ins n (l ++ [x])=ins n l ++ [x]
 | [],⟨y,hy,_⟩=>by cases hy
 | z :: r,⟨y,hy,ho⟩=>by
   show ins n (z :: (r ++ [x]))=ins n (z :: r) ++ [x]
   unfold ins
   by_cases hz:O n.p z.p=-1
   · rw [if_pos hz,if_pos hz];rfl
   · rw [if_neg hz,if_neg hz]
     rcases List.mem_cons.1 hy with rfl | hy
     · exact absurd ho hz
     · rw [ins_put ⟨y,hy,ho⟩];rfl
theorem ins_no {n:Nd}:∀ {l:List Nd},(∀ y∈l,O n.p y.p≠-1)→ins n l=l ++ [n]
 | [],_=>rfl
 | z :: r,h=>by
   unfold ins
   rw [if_neg (h z List.mem_cons_self),ins_no (fun y hy=>h y (List.mem_cons_of_mem _ hy))]
   rfl
theorem ins_at {n x:Nd}:∀ {l:List Nd},(∀ y∈l,O n.p y.p≠-1)→O n.p x.p=-1→ins n (l ++ [x])=l ++ [n] ++ [x]
 | [],_,h=>by show ins n [x]=_;unfold ins;rw [if_pos h];rfl
 | z :: r,h,hx=>by
   show ins n (z :: (r ++ [x]))=_
   unfold ins
   rw [if_neg (h z List.mem_cons_self),ins_at (fun y hy=>h y (List.mem_cons_of_mem _ hy)) hx]
   rfl
def WiQ (n:Nd) (l:List Nd) (put:Bool) (U:List Nd):Prop:=(put=true∧(∃ y∈l,O n.p y.p=-1)∧U=ins n l)∨(put=false∧(∀ y∈l,O n.p y.p≠-1)∧U=l)
set_option maxHeartbeats 8000000 in
set_option maxRecDepth 100000 in
theorem refWith_any (a:Option Addr) (c:Nat) (T:List Nd) (n:Nd) (w:World) (h:NdsAt w a T) (hl:T.length≤1000) (hs:Sml T) (hn:n.p.size≤1000) :
  Calls Tryz.prog 73 #[.slice a T.length c,n.V] w fun e w'=>∃ v,e=.returned v∧w'.ownsRow w.heap.size 26 7 v (ins n T).length ((ins n T).flatMap Nd.cs)∧Below w.heap.size w w':=by
 obtain ⟨i0,hi0,hz0,hz1,hz2⟩:=info_parts Tryz.infoRF
 have H:Hid (NdsAt w a T):=h
 have HS:Hid (Sml T∧n.p.size≤1000):=⟨hs,hn⟩
 obtain ⟨N,hN⟩:∃ N,T.length=N:=⟨_,rfl⟩
 have HN:Hid (T.length=N):=hN
 rw [hN] at hl ⊢
 obtain ⟨W,hW⟩:∃ W,w.alloc (.cells #[.string n.p,.string n.d,.int .i64 n.v,.int .i64 n.m,.int .i64 n.c,.int .i64 n.o,.int .i64 n.k] 26)=W:=⟨_,rfl⟩
 obtain ⟨nb,hnb⟩:∃ nb,w.heap.size=nb:=⟨_,rfl⟩
 have HW:Hid _:=hW
 have HNB:Hid (w.heap.size=nb):=hnb
 have HBW:Hid (Below w.heap.size w W):=by rw [← hW];exact (Below.refl _ _).alloc (Nat.le_refl _) _
 have HNW:Hid (W.heap[nb]? = some (.cells #[.string n.p,.string n.d,.int .i64 n.v,.int .i64 n.m,.int .i64 n.c,.int .i64 n.o,.int .i64 n.k] 26 (0,0))):=by rw [← hW,← hnb];exact heap_alloc_new _ _
 have hnl:nb<W.heap.size:=(Array.getElem?_eq_some_iff.1 HNW.out).1
 clear h hN hs hn hW hnb
 go_enter Tryz.func73,Tryz.ntmps73
 go_upto_region 1 with fail
 rw [HW.out,HNB.out]
 go_wp2_with fail
 go_loopw [5,6,7] (fun v pt k wr=>∃ (q:Nat) (put:Bool) (U:List Nd),k=.int .i64 q∧pt=.bool put∧q≤N∧Hid (WiQ n (T.take q) put U)∧Hid (wr.ownsRow W.heap.size 26 7 v U.length (U.flatMap Nd.cs))∧Hid (Below W.heap.size W wr)) (fun _ _ k _=>N - (intOf k).toNat)
 case atStart=>exact ⟨0,false,[],rfl,rfl,Nat.zero_le _,(.inr ⟨rfl,(fun y hy=>by simp at hy),rfl⟩),World.ownsRow_nil _ _ _ _,Below.refl _ _⟩
 case round =>
  obtain ⟨q,put,U,rfl,rfl,hq,HU,HO,HB⟩:=hrel
  have HBw:Hid (Below w.heap.size w wr):=trans2 HBW.out HB.out
  have HNr:Hid _:=kept_block HB.out HNW.out
  have HUL:Hid (U.length≤1001):=by
   have h8:(T.take q).length≤1000:=by rw [List.length_take];omega
   show U.length≤1001
   rcases HU.out with ⟨_,_,e⟩ | ⟨_,_,e⟩
   · rw [e,ins_len];omega
   · rw [e];omega
  have hul:=HUL.out
  have hbs:=HB.out.size
  by_cases hlt:q<N
  · have hqi:(q:Int)<(N:Int):=by omega
    obtain ⟨x,hx⟩:∃ x,T[q]? = some x:=⟨T[q]'(by rw [HN.out];exact hlt),List.getElem?_eq_getElem _⟩
    obtain ⟨b,f,rfl⟩:=H.out.some hx
    obtain ⟨hb,x0,x1,x2,x3,x4,x5,x6⟩:=(H.out.below HBw.out).cells hx
    obtain ⟨a0,a1,a2,a3,a4,a5,a6⟩:=cells_7 HNr.out
    have HX:Hid (T.take (q+1)=T.take q ++ [x]):=by show _=_;rw [List.take_add_one,hx];rfl
    have HXT:Hid (x∈T):=List.mem_of_getElem? hx
    have HXQ:Hid (T[q]? = some x):=hx
    have HOR:Hid (∀ W',Calls Tryz.prog 35 #[.string n.p,.string x.p] W' fun e w'=>e=.returned (.int .i64 (O n.p x.p))∧w'=W'):=fun W'=>ref_any n.p x.p (by have:=HS.out.2;unfold maxLen;omega) (by have:=(HS.out.1 x HXT.out).1;unfold maxLen;omega) W'
    obtain ⟨oo,hoo⟩:∃ oo,O n.p x.p=oo:=⟨_,rfl⟩
    have HOO:Hid (O n.p x.p=oo):=hoo
    have hor:=O_range n.p x.p
    rw [hoo] at HOR hor
    clear hx hoo
    go_upto_region 6 with fail
    go_region_held3 (fun w'=>w'.cell? ⟨nb,0,none⟩=some (.string n.p)∧w'.cell? ⟨b,f+q * 7,none⟩=some (.string x.p)) (first | (simp only [World.cell?_drew,a0,x0,and_self]) | go_keep)
     (first
       | (go_at_call 35;refine Calls.mono (HOR.out _) ?_;rintro e w3 ⟨rfl,rfl⟩))
    obtain ⟨w4,hw4⟩:∃ x,wr.drew=x:=⟨_,rfl⟩
    have hb4:Below wr.heap.size wr w4:=by rw [← hw4];exact below_drew (Below.refl _ _)
    rw [hw4]
    have HB4:Hid (Below W.heap.size W w4):=trans2 HB.out hb4
    have HO4:Hid (w4.ownsRow W.heap.size 26 7 u5 U.length (U.flatMap Nd.cs)):=owns_chg HO.out (Chg.of_below hb4 (fun _=>False)) (fun _ _=>id)
    have HN4:Hid _:=kept_block hb4 HNr.out
    have hbs4:=HB4.out.size
    clear hw4 hb4 x0 x1 x2 x3 x4 x5 x6 a0 a1 a2 a3 a4 a5 a6 HOR
    have HFX:Hid _:=flat_snoc U x
    by_cases hpc:put=false∧oo=-1
    · obtain ⟨rfl,rfl⟩:=hpc
      have HFN:Hid _:=flat_snoc U n
      have HFNX:Hid _:=flat_snoc (U ++ [n]) x
      obtain ⟨a0,a1,a2,a3,a4,a5,a6⟩:=cells_7 HN4.out
      go_upto_region 9 with (first
       | (at_builtin;refine wpList_append_lies _ rfl _ _ _ rfl W.heap.size 26 i0 _ 7 72 Tryz.underlying24 hi0 hz0 hz1 hz2 rfl (by omega) u5 U.length (U.flatMap Nd.cs) rfl (World.ownsRow.alloc HO4.out _) ⟨w4.heap.size,0,none⟩ 1 1 [.string n.p,.string n.d,.int .i64 n.v,.int .i64 n.m,.int .i64 n.c,.int .i64 n.o,.int .i64 n.k] rfl rfl (World.news_of_block (cs:=#[.string n.p,.string n.d,.int .i64 n.v,.int .i64 n.m,.int .i64 n.c,.int .i64 n.o,.int .i64 n.k]) (t:=26) (fr:=(0,0)) (heap_alloc_new w4 _)) (by simp [Value.oneCell']) (by omega) (by unfold maxLen;omega) (by omega) (by simp;omega) (w4.heap.size+1) (by simp) ?_
          intro g5 cap5 w5 hown5 hgrow5 hat5 hlt5
          have HO5:Hid (w5.ownsRow W.heap.size 26 7 (.slice (some ⟨g5,0,none⟩) (U.length+1) cap5) (U.length+1) ((U ++ [n]).flatMap Nd.cs)):=by rw [HFN.out];exact hown5
          have HB45:Hid (Below w4.heap.size w4 w5∨True):=.inr trivial
          have HB5:Hid (Below W.heap.size W w5):=HB4.out.trans (((Below.refl _ _).alloc HB4.out.size _).grown hgrow5 (by simp;have:=HB4.out.size;omega) (fun j hj=>(HO4.out.lt j hj).1))
          clear hown5 hgrow5 hat5 hlt5)
       | fail)
      have hbs5:=HB5.out.size
      obtain ⟨hb5,x0,x1,x2,x3,x4,x5,x6⟩:=(H.out.below (trans2 HBW.out HB5.out)).cells HXQ.out
      clear a0 a1 a2 a3 a4 a5 a6
      go_wp2_with (first
       | (at_builtin;refine wpList_append_lies _ rfl _ _ _ rfl W.heap.size 26 i0 _ 7 72 Tryz.underlying24 hi0 hz0 hz1 hz2 rfl (by omega) (.slice (some ⟨g5,0,none⟩) (U.length+1) cap5) (U.length+1) ((U ++ [n]).flatMap Nd.cs) rfl (World.ownsRow.alloc HO5.out _) ⟨w5.heap.size,0,none⟩ 1 1 [.string x.p,.string x.d,.int .i64 x.v,.int .i64 x.m,.int .i64 x.c,.int .i64 x.o,.int .i64 x.k] rfl rfl (World.news_of_block (cs:=#[.string x.p,.string x.d,.int .i64 x.v,.int .i64 x.m,.int .i64 x.c,.int .i64 x.o,.int .i64 x.k]) (t:=26) (fr:=(0,0)) (heap_alloc_new w5 _)) (by simp [Value.oneCell']) (by omega) (by unfold maxLen;omega) (by omega) (by simp;omega) (w5.heap.size+1) (by simp) ?_
          intro g6 cap6 w6 hown6 hgrow6 hat6 hlt6
          have HO6:Hid (w6.ownsRow W.heap.size 26 7 (.slice (some ⟨g6,0,none⟩) (U.length+1+1) cap6) (U.length+1+1) ((U ++ [n] ++ [x]).flatMap Nd.cs)):=by rw [HFNX.out];exact hown6
          have HB6:Hid (Below W.heap.size W w6):=HB5.out.trans (((Below.refl _ _).alloc HB5.out.size _).grown hgrow6 (by simp;have:=HB5.out.size;omega) (fun j hj=>(HO5.out.lt j hj).1))
          clear hown6 hgrow6 hat6 hlt6)
       | fail)
      go_roundw
      case rel =>
       refine ⟨q+1,true,U ++ [n] ++ [x],by go_num,rfl,by omega,?_,?_,HB6⟩
       · rcases HU.out with ⟨h1,_,_⟩ | ⟨_,h2,h3⟩
         · cases h1
         · refine .inl ⟨rfl,⟨x,by rw [HX.out];simp,HOO.out⟩,?_⟩
           rw [HX.out,ins_at h2 HOO.out,h3]
       · show World.ownsRow _ _ _ _ _ _ _
         rw [List.length_append,List.length_append]
         exact HO6.out
      case measure=>simp [intOf];omega
    · have HWI:Hid (WiQ n (T.take (q+1)) put (U ++ [x])):=by
       show WiQ _ _ _ _
       rw [HX.out]
       rcases HU.out with ⟨h1,⟨y,hy,hyo⟩,h3⟩ | ⟨h1,h2,h3⟩
       · exact .inl ⟨h1,⟨y,List.mem_append_left _ hy,hyo⟩,by rw [ins_put ⟨y,hy,hyo⟩,h3]⟩
       · refine .inr ⟨h1,fun y hy=>?_,by rw [h3]⟩
         rcases List.mem_append.1 hy with hy | hy
         · exact h2 y hy
         · obtain rfl:=List.mem_singleton.1 hy
           rw [HOO.out]
           exact fun e=>hpc ⟨h1,e⟩
      obtain ⟨hb5,x0,x1,x2,x3,x4,x5,x6⟩:=(H.out.below (trans2 HBW.out HB4.out)).cells HXQ.out
      have hdo:put=false→¬ oo<0:=fun h1 h2=>hpc ⟨h1,by omega⟩
      clear hpc
      have hcase:put=true∨(put=false∧¬ oo<0):=by cases put <;> simp_all
      clear hdo
      rcases hcase with rfl | ⟨rfl,hd0⟩
      all_goals (
       go_wp2_with (first
        | (at_builtin;refine wpList_append_lies _ rfl _ _ _ rfl W.heap.size 26 i0 _ 7 72 Tryz.underlying24 hi0 hz0 hz1 hz2 rfl (by omega) u5 U.length (U.flatMap Nd.cs) rfl (World.ownsRow.alloc HO4.out _) ⟨w4.heap.size,0,none⟩ 1 1 [.string x.p,.string x.d,.int .i64 x.v,.int .i64 x.m,.int .i64 x.c,.int .i64 x.o,.int .i64 x.k] rfl rfl (World.news_of_block (cs:=#[.string x.p,.string x.d,.int .i64 x.v,.int .i64 x.m,.int .i64 x.c,.int .i64 x.o,.int .i64 x.k]) (t:=26) (fr:=(0,0)) (heap_alloc_new w4 _)) (by simp [Value.oneCell']) (by omega) (by unfold maxLen;omega) (by omega) (by simp;omega) (w4.heap.size+1) (by simp) ?_
           intro g6 cap6 w6 hown6 hgrow6 hat6 hlt6
           have HO6:Hid (w6.ownsRow W.heap.size 26 7 (.slice (some ⟨g6,0,none⟩) (U.length+1) cap6) (U.length+1) ((U ++ [x]).flatMap Nd.cs)):=by rw [HFX.out];exact hown6
           have HB6:Hid (Below W.heap.size W w6):=HB4.out.trans (((Below.refl _ _).alloc HB4.out.size _).grown hgrow6 (by simp;have:=HB4.out.size;omega) (fun j hj=>(HO4.out.lt j hj).1))
           clear hown6 hgrow6 hat6 hlt6)
        | fail)
       go_roundw
       case rel=>exact ⟨q+1,_,U ++ [x],by go_num,rfl,by omega,HWI,by show World.ownsRow _ _ _ _ _ _ _;rw [List.length_append];exact HO6.out,HB6⟩
       case measure=>simp [intOf];omega)
  · obtain rfl:q=N:=by omega
    have hge:¬ (q:Int)<(q:Int):=by omega
    have h9:=HU.out
    rw [List.take_of_length_le (by rw [HN.out];exact Nat.le_refl _)] at h9
    have HU9:Hid (WiQ n T put U):=h9
    clear h9
    have HWS:=HBW.out.size
    cases put with
    | true =>
      go_wp2_with fail
      go_ret
      rcases HU9.out with ⟨_,_,e⟩ | ⟨h1,_,_⟩
      · have h8:=HO.out
        rw [e] at h8
        exact ⟨_,rfl,⟨h8.1,h8.2.imp id (fun ⟨g,cap,cur,h1,h2,r⟩=>⟨g,cap,cur,h1,Nat.le_trans HBW.out.size h2,r⟩)⟩,HBw.out⟩
      · cases h1
    | false =>
      have HFN:Hid _:=flat_snoc U n
      obtain ⟨a0,a1,a2,a3,a4,a5,a6⟩:=cells_7 HNr.out
      go_wp2_with (first
       | (at_builtin;refine wpList_append_lies _ rfl _ _ _ rfl W.heap.size 26 i0 _ 7 72 Tryz.underlying24 hi0 hz0 hz1 hz2 rfl (by omega) u5 U.length (U.flatMap Nd.cs) rfl (World.ownsRow.alloc HO.out _) ⟨wr.heap.size,0,none⟩ 1 1 [.string n.p,.string n.d,.int .i64 n.v,.int .i64 n.m,.int .i64 n.c,.int .i64 n.o,.int .i64 n.k] rfl rfl (World.news_of_block (cs:=#[.string n.p,.string n.d,.int .i64 n.v,.int .i64 n.m,.int .i64 n.c,.int .i64 n.o,.int .i64 n.k]) (t:=26) (fr:=(0,0)) (heap_alloc_new wr _)) (by simp [Value.oneCell']) (by omega) (by unfold maxLen;omega) (by omega) (by simp;omega) (wr.heap.size+1) (by simp) ?_
          intro g6 cap6 w6 hown6 hgrow6 hat6 hlt6
          have HO6:Hid (w6.ownsRow W.heap.size 26 7 (.slice (some ⟨g6,0,none⟩) (U.length+1) cap6) (U.length+1) ((U ++ [n]).flatMap Nd.cs)):=by rw [HFN.out];exact hown6
          have HB6:Hid (Below W.heap.size W w6):=HB.out.trans (((Below.refl _ _).alloc HB.out.size _).grown hgrow6 (by simp;have:=HB.out.size;omega) (fun j hj=>(HO.out.lt j hj).1))
          clear hown6 hgrow6 hat6 hlt6)
       | fail)
      go_ret
      rcases HU9.out with ⟨h1,_,_⟩ | ⟨_,h2,h3⟩
      · cases h1
      · have e:ins n T=U ++ [n]:=by rw [ins_no h2,h3]
        have h8:=HO6.out
        rw [e]
        refine ⟨_,rfl,?_,trans2 HBW.out HB6.out⟩
        rw [List.length_append]
        exact ⟨h8.1,h8.2.imp id (fun ⟨g,cap,cur,h1,h2,r⟩=>⟨g,cap,cur,h1,Nat.le_trans HBW.out.size h2,r⟩)⟩
end Go.Proofs.YtckmihplkhmpnaaGreatDoor
