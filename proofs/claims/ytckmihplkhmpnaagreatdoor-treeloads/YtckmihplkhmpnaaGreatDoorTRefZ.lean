import Derived.Test.YtckmihplkhmpnaaGreatDoorTRefB
import Derived.Test.YtckmihplkhmpnaaGreatDoorTLdM
import Derived.Test.YtckmihplkhmpnaaGreatDoorTRefS
import Derived.Test.YtckmihplkhmpnaaGreatDoorTRefL
import Derived.Test.YtckmihplkhmpnaaGreatDoorTRefF
import Derived.Test.YtckmihplkhmpnaaGreatDoorTPlayM
namespace Go.Proofs.YtckmihplkhmpnaaGreatDoor
open Go.RowKit Go.Maps Go.WideShapes
set_option linter.unusedVariables false
set_option linter.unusedSimpArgs false
theorem upd_no {T:List Nd} {y:Nd} (h:∀ x∈T,x.p≠y.p):upd T y=T:=by
 unfold upd
 conv=>rhs;rw [← List.map_id T]
 apply List.map_congr_left
 intro x hx
 rw [if_neg (h x hx)]
 rfl
theorem erase_filter:∀ {T:List Nd} {q:Nat} {u:Nd},Srt T→T[q]? = some u→T.eraseIdx q=T.filter (fun z=>decide (z.p≠u.p))
 | [],q,u,_,h=>by simp at h
 | x :: r,0,u,hs,h=>by
   obtain rfl:x=u:=by simpa using h
   obtain ⟨h1,h2⟩:=List.pairwise_cons.1 hs
   rw [List.eraseIdx_cons_zero,List.filter_cons,if_neg (by simp)]
   refine (List.filter_eq_self.2 (fun z hz=>?_)).symm
   have:z.p≠x.p:=fun e=>by
    have:=h1 z hz
    rw [e,O_self] at this
    cases this
   simpa using this
 | x :: r,q+1,u,hs,h=>by
   obtain ⟨h1,h2⟩:=List.pairwise_cons.1 hs
   have hr:r[q]? = some u:=by simpa using h
   have hne:x.p≠u.p:=fun e=>by
    have:=h1 u (List.mem_of_getElem? hr)
    rw [e,O_self] at this
    cases this
   rw [List.eraseIdx_cons_succ,List.filter_cons,if_pos (by simpa using hne),erase_filter h2 hr]
theorem ins_erase:∀ {T:List Nd} {q:Nat} {u y:Nd},Srt T→T[q]? = some u→y.p=u.p→ins y (T.eraseIdx q)=upd T y
 | [],q,u,y,_,h,_=>by simp at h
 | x :: r,0,u,y,hs,h,hy=>by
   obtain rfl:x=u:=by simpa using h
   obtain ⟨h1,h2⟩:=List.pairwise_cons.1 hs
   have hno:∀ z∈r,z.p≠y.p:=fun z hz e=>by
    have:=h1 z hz
    rw [e,hy,O_self] at this
    cases this
   have e1:upd (x :: r) y=y :: upd r y:=by simp [upd,hy.symm]
   rw [List.eraseIdx_cons_zero,e1,upd_no hno]
   cases r with
   | nil=>rfl
   | cons z r' =>
     unfold ins
     rw [if_pos (by rw [hy];exact h1 z List.mem_cons_self)]
 | x :: r,q+1,u,y,hs,h,hy=>by
   obtain ⟨h1,h2⟩:=List.pairwise_cons.1 hs
   have hr:r[q]? = some u:=by simpa using h
   have hxu:=h1 u (List.mem_of_getElem? hr)
   have hne:x.p≠y.p:=fun e=>by
    rw [e,hy,O_self] at hxu
    cases hxu
   have e1:upd (x :: r) y=x :: upd r y:=by simp [upd,hne]
   rw [List.eraseIdx_cons_succ,e1]
   unfold ins
   rw [if_neg,ins_erase h2 hr hy]
   rw [hy,O_anti x.p u.p,hxu]
   decide
theorem kidsR_eq {T:List Nd} (h:Inv T) {at':ByteArray} (hp:(parse at').1=0):kidsM T at'=kidsR T at':=by
 unfold kidsM kidsR
 congr 1
 apply List.filter_congr
 intro y hy
 have hyp:=(h.nd y hy).1
 unfold kidP wF kidB
 rw [show (⟨(Nd.by y).toArray⟩:ByteArray)=y.p from rfl]
 by_cases hr:y.p=pRt
 · have e1:parC y.p=47:=by rw [hr];kernel_rfl
   have hc:childB at' y.p=false:=by rw [hr];rfl
   rw [e1]
   unfold covers cov
   rw [hc]
   simp
   intro _ _ _ h9
   unfold eqB at h9
   have h8:y.p.toList=at'.toList:=by simpa using h9
   rw [ByteArray.toList_eq,ByteArray.toList_eq] at h8
   exact ByteArray.ext (Array.ext' h8)
 · obtain ⟨xs,k,x,hxs,hl,_,_⟩:=names_of hyp hr
   have e1:=parC_zero hyp hr
   have e2:=par_of (x:=x) hxs hl
   have hne:xs.isEmpty=false:=by cases xs with | nil=>simp at hl | cons _ _=>rfl
   have hless:=par_less hyp hr
   by_cases hpa:parB y.p=at'
   · have h1:=kid_of_par hyp hp hr hpa
     rw [h1]
     have hne2:y.p≠at':=fun e=>by
      rw [hpa,← e,O_self] at hless
      cases hless
     simp [hne2,e1,hpa]
   · have hc:childB at' y.p=false:=by
      unfold childB
      rw [hxs]
      simp only [hne,hl,Nat.add_sub_cancel]
      rw [← e2]
      simp
      intro e
      rw [ByteArray.toList_eq,ByteArray.toList_eq] at e
      exact hpa (ByteArray.ext (Array.ext' e))
     unfold covers cov
     rw [hc]
     by_cases hya:y.p=at'
     · simp [hya,hpa]
       intro _
       rw [hya] at hpa
       exact hpa
     · have:eqB y.p at'=false:=beq_ne hya
       rw [this]
       simp [hpa]
end Go.Proofs.YtckmihplkhmpnaaGreatDoor
namespace Go.Proofs.YtckmihplkhmpnaaGreatDoor
open Go.RowKit Go.Maps Go.WideShapes
set_option linter.unusedVariables false
set_option linter.unusedSimpArgs false
theorem refOne_any (a:Option Addr) (c:Nat) (T:List Nd) (s st:Int) (o:OpT) (w:World) (h:NdsAt w a T) (hi:Inv T) :
  Calls Tryz.prog 47 #[.slice a T.length c,.int .i64 s,.int .i64 st,opV o.k o.p o.d o.v o.f] w (OneE w (oneM T s st o)):=by
 obtain ⟨k,p,d,v,f⟩:=o
 have hT:=hi.len
 show Calls _ _ #[.slice a T.length c,.int .i64 s,.int .i64 st,opV k p d v f] w _
 unfold oneM
 by_cases hm:malC s k p d f=0
 · rw [if_neg (by simpa using hm)]
   obtain ⟨hk1,hk7,hp0,_,_⟩:=mal_ok hm
   have hk1:1≤k:=hk1
   have hk7:k≤7:=hk7
   by_cases h1:k=1
   · subst h1
     rw [if_pos rfl]
     exact ro_make a c T s st p d v f w h hT hm hi
   rw [if_neg h1]
   cases hf:fnd T p with
   | none =>
     show Calls _ _ _ _ (OneE w (40,T,zr,[]))
     exact ro_40 a c T s st k p d v f w h hT hm (by omega) (fndI_none (fnd_none hf))
   | some u =>
     obtain ⟨q,hu,hq,_⟩:=fndI_fnd hf
     have hum:=(fnd_some hf).1
     have hun:=hi.nd u hum
     have hkid:=kidsR_eq hi hun.1
     show Calls _ _ _ _ (OneE w (if misC k v u.v (kidsM T u.p)≠0 then (misC k v u.v (kidsM T u.p),T,zr,[]) else (0,restM T st ⟨k,p,d,v,f⟩ u)))
     rw [hkid]
     have hvc:((v != -1)=false)∨((v != -1)=true∧(v != u.v)=false)∨((v != -1)=true∧(v != u.v)=true):=by
      by_cases h1:v=-1
      · exact .inl (by simpa using h1)
      · by_cases h2:v=u.v
        · exact .inr (.inl ⟨by simpa using h1,by simpa using h2⟩)
        · exact .inr (.inr ⟨by simpa using h1,by simpa using h2⟩)
     have hv0:((v != -1)=false∨(v != u.v)=false)→¬ (v≠-1∧v≠u.v):=fun h9 ⟨g1,g2⟩=>by
      rcases h9 with h9 | h9
      · exact g1 (by simpa using h9)
      · exact g2 (by simpa using h9)
     rcases (show k=2∨k=3∨k=4∨k=5∨k=6∨k=7 by omega) with rfl | rfl | rfl | rfl | rfl | rfl
     ·
      rcases hvc with hv | ⟨hv,hv2⟩ | ⟨hv,hv2⟩
      · by_cases hx:2147483647≤u.v
        · have e:misC 2 v u.v (kidsR T u.p)=46:=by unfold misC;rw [if_neg (fun g=>hv0 (.inl hv) g.2),if_neg (by omega),if_pos ⟨rfl,hx⟩]
          rw [e]
          exact ro_46m a c T s st p d v f u q w h hT hm hq hu hv hx
        · have e:misC 2 v u.v (kidsR T u.p)=0:=by unfold misC;rw [if_neg (fun g=>hv0 (.inl hv) g.2),if_neg (by omega),if_neg (fun g=>hx g.2)]
          rw [e,if_neg (by simp)]
          have h9:=ro_setm a c T s st p d v f u q w h hT hm hq hu hv (by omega) hun.2.2.1 hi.sml (by have:=size_of_parse hun.1;omega)
          rw [ins_erase (y:=⟨u.p,d,u.v+1,u.m,st,u.o,u.k⟩) hi.srt hq rfl] at h9
          exact h9
      · by_cases hx:2147483647≤u.v
        · have e:misC 2 v u.v (kidsR T u.p)=46:=by unfold misC;rw [if_neg (fun g=>hv0 (.inr hv2) g.2),if_neg (by omega),if_pos ⟨rfl,hx⟩]
          rw [e]
          exact ro_46e a c T s st p d v f u q w h hT hm hq hu hv hv2 hx
        · have e:misC 2 v u.v (kidsR T u.p)=0:=by unfold misC;rw [if_neg (fun g=>hv0 (.inr hv2) g.2),if_neg (by omega),if_neg (fun g=>hx g.2)]
          rw [e,if_neg (by simp)]
          have h9:=ro_sete a c T s st p d v f u q w h hT hm hq hu hv hv2 (by omega) hun.2.2.1 hi.sml (by have:=size_of_parse hun.1;omega)
          rw [ins_erase (y:=⟨u.p,d,u.v+1,u.m,st,u.o,u.k⟩) hi.srt hq rfl] at h9
          exact h9
      · have e:misC 2 v u.v (kidsR T u.p)=42:=by unfold misC;rw [if_pos ⟨.inl rfl,by simpa using hv,by simpa using hv2⟩]
        rw [e]
        exact ro_42 a c T s st 2 p d v f u q w h hT hm (by omega) hq hu hv hv2
     ·
      rcases hvc with hv | ⟨hv,hv2⟩ | ⟨hv,hv2⟩
      · by_cases hx:kidsR T u.p=[]
        · have e:misC 3 v u.v (kidsR T u.p)=0:=by unfold misC;rw [if_neg (fun g=>hv0 (.inl hv) g.2),if_neg (fun g=>g.2 hx),if_neg (by omega)]
          rw [e,if_neg (by simp)]
          have h9:=ro_dropm a c T s st p d v f u q w h hT hm hq hu hv hx
          rw [erase_filter hi.srt hq] at h9
          exact h9
        · have e:misC 3 v u.v (kidsR T u.p)=43:=by unfold misC;rw [if_neg (fun g=>hv0 (.inl hv) g.2),if_pos ⟨rfl,hx⟩]
          rw [e]
          exact ro_43m a c T s st p d v f u q w h hT hm hq hu hv hx
      · by_cases hx:kidsR T u.p=[]
        · have e:misC 3 v u.v (kidsR T u.p)=0:=by unfold misC;rw [if_neg (fun g=>hv0 (.inr hv2) g.2),if_neg (fun g=>g.2 hx),if_neg (by omega)]
          rw [e,if_neg (by simp)]
          have h9:=ro_drope a c T s st p d v f u q w h hT hm hq hu hv hv2 hx
          rw [erase_filter hi.srt hq] at h9
          exact h9
        · have e:misC 3 v u.v (kidsR T u.p)=43:=by unfold misC;rw [if_neg (fun g=>hv0 (.inr hv2) g.2),if_pos ⟨rfl,hx⟩]
          rw [e]
          exact ro_43e a c T s st p d v f u q w h hT hm hq hu hv hv2 hx
      · have e:misC 3 v u.v (kidsR T u.p)=42:=by unfold misC;rw [if_pos ⟨.inr (.inl rfl),by simpa using hv,by simpa using hv2⟩]
        rw [e]
        exact ro_42 a c T s st 3 p d v f u q w h hT hm (by omega) hq hu hv hv2
     ·
      rcases hvc with hv | ⟨hv,hv2⟩ | ⟨hv,hv2⟩
      · have e:misC 4 v u.v (kidsR T u.p)=0:=by unfold misC;rw [if_neg (fun g=>hv0 (.inl hv) g.2),if_neg (by omega),if_neg (by omega)]
        rw [e,if_neg (by simp)]
        exact ro_look4m a c T s st p d v f u q w h hT hm hq hu hv
      · have e:misC 4 v u.v (kidsR T u.p)=0:=by unfold misC;rw [if_neg (fun g=>hv0 (.inr hv2) g.2),if_neg (by omega),if_neg (by omega)]
        rw [e,if_neg (by simp)]
        exact ro_look4e a c T s st p d v f u q w h hT hm hq hu hv hv2
      · have e:misC 4 v u.v (kidsR T u.p)=42:=by unfold misC;rw [if_pos ⟨.inr (.inr rfl),by simpa using hv,by simpa using hv2⟩]
        rw [e]
        exact ro_42 a c T s st 4 p d v f u q w h hT hm (by omega) hq hu hv hv2
     · have e:misC 5 v u.v (kidsR T u.p)=0:=by unfold misC;rw [if_neg (by omega),if_neg (by omega),if_neg (by omega)]
       rw [e,if_neg (by simp)]
       exact ro_get a c T s st p d v f u q w h hT hm hq hu
     · have e:misC 6 v u.v (kidsR T u.p)=0:=by unfold misC;rw [if_neg (by omega),if_neg (by omega),if_neg (by omega)]
       rw [e,if_neg (by simp)]
       exact ro_look6 a c T s st p d v f u q w h hT hm hq hu
     · have e:misC 7 v u.v (kidsR T u.p)=0:=by unfold misC;rw [if_neg (by omega),if_neg (by omega),if_neg (by omega)]
       rw [e,if_neg (by simp)]
       have h9:=ro_list a c T s st p d v f u q w h hT hm hq hu
       rw [← hkid] at h9
       exact h9
 · rw [if_pos hm]
   exact ro_mal a c T s st k p d v f w h hT hm
end Go.Proofs.YtckmihplkhmpnaaGreatDoor
namespace Go.Proofs.YtckmihplkhmpnaaGreatDoor
open Go.RowKit Go.Maps Go.WideShapes
set_option linter.unusedVariables false
set_option linter.unusedSimpArgs false
attribute [local go_sem ↓] Go.wp_at_zero Go.wp_at_succ
theorem results_cct {P:Program} {fn:Func} {p1 p2 s3:Tmp} {ty1 ty2:TypeId} (h:fn.results=#[.cell p1 ty1,.cell p2 ty2,.tmp s3]) (tmps:Array Value) (w:World) (g1 g2:Nat) (t1 t2:TypeId) (cs1 cs2:Array Value) (fr1 fr2:Nat × Nat) (d1 d2:TypeDesc) (v3:Value)
  (hp1:tmps.getD p1 undef=.pointer (some ⟨g1,0,none⟩)) (hp2:tmps.getD p2 undef=.pointer (some ⟨g2,0,none⟩)) (h3:tmps.getD s3 undef=v3) (hg1:w.heap[g1]? = some (.cells cs1 t1 fr1)) (hg2:w.heap[g2]? = some (.cells cs2 t2 fr2))
  (hu1:P.underlying ty1=some d1) (hd1:(match d1 with | .struct _ | .array _ _=>true | _=>false)=true) (hi1:(P.info? ty1).map (·.size)=some cs1.size)
  (hu2:P.underlying ty2=some d2) (hd2:(match d2 with | .struct _ | .array _ _=>true | _=>false)=true) (hi2:(P.info? ty2).map (·.size)=some cs2.size) :
  (results fn tmps).run P w=.ok (.tuple #[.agg cs1,.agg cs2,v3]) w:=by
 have hp1':tmps[p1]?.getD undef=.pointer (some ⟨g1,0,none⟩):=by simpa using hp1
 have hp2':tmps[p2]?.getD undef=.pointer (some ⟨g2,0,none⟩):=by simpa using hp2
 subst h3
 simp [results,h,hp1',hp2',asAddr,run_loadVar_row w g1 t1 ty1 cs1 fr1 d1 hg1 hu1 hd1 hi1,run_loadVar_row w g2 t2 ty2 cs2 fr2 d2 hg2 hu2 hd2 hi2]
structure RsD (w:World) (B:Nat) (rv:Value) (L:List RsT):Prop where
 row:w.ownsRow B 103 7 rv L.length (L.flatMap RsT.cs)
 kids:∀ x∈L,w.ownsRow 0 9 1 (.slice x.a x.n x.c) x.r.kids.length (x.r.kids.map Value.string)
theorem RsD.nil (w:World) (B:Nat):RsD w B (.slice none 0 0) []:=⟨World.ownsRow_nil _ _ _ _,fun x hx=>by cases hx⟩
theorem RsD.below {w w':World} {B:Nat} {rv:Value} {L:List RsT} (h:RsD w B rv L) (hb:Below w.heap.size w w'):RsD w' B rv L :=
 ⟨owns_chg h.row (Chg.of_below hb (fun _=>False)) (fun _ _=>id),fun x hx=>owns_chg (h.kids x hx) (Chg.of_below hb (fun _=>False)) (fun _ _=>id)⟩
theorem RsD.chg {w w':World} {B:Nat} {rv:Value} {L:List RsT} {S:Nat→Prop} (h:RsD w B rv L) (hc:Chg w w' S) (hs:∀ k,S k→∀ cur,w.heap[k]?≠some (.cells cur 103 (0,0))∧w.heap[k]?≠some (.cells cur 9 (0,0))):RsD w' B rv L :=
 ⟨owns_chg h.row hc (fun k hk e=>by
  obtain ⟨cur,hcur⟩:=owns_kind h.row hk
  exact (hs k e cur).1 hcur),fun x hx=>owns_chg (h.kids x hx) hc (fun k hk e=>by
  obtain ⟨cur,hcur⟩:=owns_kind (h.kids x hx) hk
  exact (hs k e cur).2 hcur)⟩
theorem NdsAt.chg {w w':World} {a:Option Addr} {T:List Nd} {S:Nat→Prop} (h:NdsAt w a T) (hc:Chg w w' S) (hs:∀ k,S k→∀ cur,w.heap[k]?≠Option.some (.cells cur 26 (0,0))):NdsAt w' a T:=fun i x hx=>by
 obtain ⟨b,f,ha,hlt,⟨cur,hk⟩,hcs⟩:=h i x hx
 have e:=hc.block b hlt (fun e=>hs b e cur hk)
 exact ⟨b,f,ha,Nat.lt_of_lt_of_le hlt hc.size,⟨cur,by rw [e];exact hk⟩,fun j v hv=>by rw [World.cell?_of_block e];exact hcs j v hv⟩
theorem owns_low {w:World} {B B' t s n:Nat} {v:Value} {xs:List Value} (h:w.ownsRow B t s v n xs) (hB:B'≤B):w.ownsRow B' t s v n xs :=
 ⟨h.1,h.2.imp id (fun ⟨g,cap,cur,h1,h2,r⟩=>⟨g,cap,cur,h1,Nat.le_trans hB h2,r⟩)⟩
theorem RsD.at {w:World} {B:Nat} {rv:Value} {L:List RsT} (h:RsD w B rv L):RsAt w 0 rv L.length L :=
 ⟨by
  rw [Nat.sub_self]
  have e:Fa.fl (L.map RsT.el ++ List.replicate 0 zEl)=L.flatMap RsT.cs:=by
   show (L.map RsT.el ++ []).flatMap (fun e:Fa.El 7=>e.1)=_
   rw [List.append_nil,List.flatMap_map]
   rfl
  rw [e]
  exact owns_low h.row (Nat.zero_le _),Nat.le_refl _,h.kids⟩
theorem chs_cells {w:World} {b f:Nat} {l:List ChT} (h:ChsAt w (some ⟨b,f,none⟩) l) {i:Nat} {x:ChT} (hx:l[i]? = some x):b<w.heap.size∧w.cell? ⟨b,f+i * 4,none⟩=some (.int .i64 x.k)∧w.cell? ⟨b,f+i * 4+1,none⟩=some (.string x.p)∧w.cell? ⟨b,f+i * 4+2,none⟩=some (.string x.d)∧w.cell? ⟨b,f+i * 4+3,none⟩=some (.int .i64 x.v):=by
 obtain ⟨b',f',e,hl,_,hc⟩:=h i x hx
 simp only [Option.some.injEq,Addr.mk.injEq,and_true] at e
 obtain ⟨rfl,rfl⟩:=e
 have h0:=hc 0 _ rfl
 rw [Nat.add_zero] at h0
 exact ⟨hl,h0,hc 1 _ rfl,hc 2 _ rfl,hc 3 _ rfl⟩
theorem ChsAt.chg {w w':World} {a:Option Addr} {l:List ChT} {S:Nat→Prop} (h:ChsAt w a l) (hc:Chg w w' S) (hs:∀ k,S k→∀ cur,w.heap[k]?≠some (.cells cur 69 (0,0))):ChsAt w' a l:=fun i x hx=>by
 obtain ⟨b,f,ha,hlt,⟨cur,hk⟩,hcs⟩:=h i x hx
 have e:=hc.block b hlt (fun e=>hs b e cur hk)
 exact ⟨b,f,ha,Nat.lt_of_lt_of_le hlt hc.size,⟨cur,by rw [e];exact hk⟩,fun j v hv=>by rw [World.cell?_of_block e];exact hcs j v hv⟩
def PlayD (w:World) (st:Int) (M:PlayR) (e:Ending) (w':World):Prop :=
 ∃ a c rv ca cc L,e=.returned (.tuple #[rtV a M.T.length c,.agg #[.int .i64 st,.int .i64 M.code,.int .i64 M.at',rv],.slice ca M.C.length cc])∧L.map RsT.r=M.R∧RsD w' w.heap.size rv L∧NdsAt w' a M.T∧w'.ownsRow w.heap.size 69 4 (.slice ca M.C.length cc) M.C.length (chCs M.C)∧Below w.heap.size w w'
theorem PlayD.no {w w':World} {a:Option Addr} {T:List Nd} {N at':Nat} {st:Int} (hN:T.length=N) (c:Nat) (code:Int) (h:NdsAt w a T) (hb:Below w.heap.size w w') :
  PlayD w st ⟨code,at',T,[],[]⟩ (.returned (.tuple #[rtV a N c,.agg #[.int .i64 st,.int .i64 code,.int .i64 at',.slice none 0 0],.slice none 0 0])) w' :=
 ⟨a,c,.slice none 0 0,none,0,[],by rw [hN];rfl,rfl,RsD.nil _ _,h.below hb,World.ownsRow_nil _ _ _ _,hb⟩
structure PlS (w1 wr:World) (B rb:Nat) (st:Int) (la:Option Addr) (T:List Nd) (cv:Value) (C:List ChT) (rv:Value) (L:List RsT):Prop where
 nds:NdsAt wr la T
 ch:wr.ownsRow B 69 4 cv C.length (chCs C)
 box:wr.heap[rb]? = some (.cells #[.int .i64 st,.int .i64 0,.int .i64 0,rv] 61 (0,0))
 rs:RsD wr B rv L
 low:Below w1.heap.size w1 wr
 base:w1.heap.size≤rb
 lt:rb<B
 hB:B≤wr.heap.size
theorem PlS.below {w1 wr w':World} {B rb:Nat} {st:Int} {la:Option Addr} {T:List Nd} {cv rv:Value} {C:List ChT} {L:List RsT} (h:PlS w1 wr B rb st la T cv C rv L) (hb:Below wr.heap.size wr w'):PlS w1 w' B rb st la T cv C rv L :=
 ⟨h.nds.below hb,owns_chg h.ch (Chg.of_below hb (fun _=>False)) (fun _ _=>id),kept_block hb h.box,h.rs.below hb,trans2 h.low hb,h.base,h.lt,Nat.le_trans h.hB hb.size⟩
theorem PlS.turn {w1 wr:World} {B rb:Nat} {st:Int} {la la':Option Addr} {T T':List Nd} {cv rv:Value} {C:List ChT} {L:List RsT} (h:PlS w1 wr B rb st la T cv C rv L) (hn:NdsAt wr la' T'):PlS w1 wr B rb st la' T' cv C rv L:=⟨hn,h.ch,h.box,h.rs,h.low,h.base,h.lt,h.hB⟩
theorem PlS.res {w1 w4 w5:World} {B rb g cap N:Nat} {st:Int} {la:Option Addr} {T:List Nd} {cv rv:Value} {C:List ChT} {L:List RsT} {o:Obj} (h:PlS w1 w4 B rb st la T cv C rv L) (x:RsT) (hN:L.length=N) (hk:w4.ownsRow 0 9 1 (.slice x.a x.n x.c) x.r.kids.length (x.r.kids.map Value.string))
  (hown:w5.ownsRow B 103 7 (.slice (some ⟨g,0,none⟩) (N+1) cap) (N+1) (L.flatMap RsT.cs ++ x.cs)) (hgrow:(w4.alloc o).grownBy w5 rv.ownBlock) :
  w5.heap[rb]? = some (.cells #[.int .i64 st,.int .i64 0,.int .i64 0,rv] 61 (0,0))∧PlS w1 (w5.setCell ⟨rb,3,none⟩ (.slice (some ⟨g,0,none⟩) (N+1) cap)) B rb st la T cv C (.slice (some ⟨g,0,none⟩) (N+1) cap) (L ++ [x])∧Chg w4 (w5.setCell ⟨rb,3,none⟩ (.slice (some ⟨g,0,none⟩) (N+1) cap)) (fun k=>rv.ownBlock=some k∨k=rb):=by
 have hc5:Chg w4 w5 (fun k=>rv.ownBlock=some k):=(Chg.alloc w4 o _).trans (Chg.grown hgrow)
 have hkind:∀ k,rv.ownBlock=some k→∃ cur,w4.heap[k]? = some (.cells cur 103 (0,0)):=fun k hk'=>owns_kind h.rs.row hk'
 have hb5:w5.heap[rb]? = some (.cells #[.int .i64 st,.int .i64 0,.int .i64 0,rv] 61 (0,0)):=kept_chg hc5 h.box (fun e=>by
  obtain ⟨cur,hcur⟩:=hkind rb e
  rw [h.box] at hcur
  simp at hcur)
 have hC:Chg w4 (w5.setCell ⟨rb,3,none⟩ (.slice (some ⟨g,0,none⟩) (N+1) cap)) (fun k=>rv.ownBlock=some k∨k=rb):=(hc5.mono (fun _ _ e=>.inl e)).trans ((Chg.set _ _ _).mono (fun _ _ e=>.inr e))
 have hS:∀ k,(rv.ownBlock=some k∨k=rb)→(∃ cur,w4.heap[k]? = some (.cells cur 103 (0,0)))∨w4.heap[k]? = some (.cells #[.int .i64 st,.int .i64 0,.int .i64 0,rv] 61 (0,0)):=fun k e=>by
  rcases e with e | rfl
  · exact .inl (hkind k e)
  · exact .inr h.box
 have hrowK:∀ {B' t sz m:Nat} {v:Value} {xs:List Value},w4.ownsRow B' t sz v m xs→t≠103→t≠61→(w5.setCell ⟨rb,3,none⟩ (.slice (some ⟨g,0,none⟩) (N+1) cap)).ownsRow B' t sz v m xs:=fun hr h1 h2=>owns_chg hr hC (fun k hk' e=>by
  obtain ⟨cur,hcur⟩:=owns_kind hr hk'
  rcases hS k e with ⟨cur',h9⟩ | h9
  · rw [hcur] at h9
    simp at h9
    exact h1 h9.2
  · rw [hcur] at h9
    simp at h9
    exact h2 h9.2)
 refine ⟨hb5,⟨h.nds.chg hC (fun k e cur hcur=>?_),hrowK h.ch (by decide) (by decide),same_blk hb5 rfl,⟨?_,fun y hy=>?_⟩,?_,h.base,h.lt,Nat.le_trans h.hB hC.size⟩,hC⟩
 · rcases hS k e with ⟨cur',h9⟩ | h9
   · rw [hcur] at h9
     simp at h9
   · rw [hcur] at h9
     simp at h9
 · have h9:(w5.setCell ⟨rb,3,none⟩ (.slice (some ⟨g,0,none⟩) (N+1) cap)).ownsRow B 103 7 (.slice (some ⟨g,0,none⟩) (N+1) cap) (N+1) (L.flatMap RsT.cs ++ x.cs):=owns_chg hown (Chg.set _ _ _) (fun k hk' e=>by
    have:=(hown.lt k hk').1
    have e':k=rb:=e
    have:=h.lt
    omega)
   rw [List.length_append,hN,List.flatMap_append]
   simpa using h9
 · rcases List.mem_append.1 hy with hy | hy
   · exact hrowK (h.rs.kids y hy) (by decide) (by decide)
   · obtain rfl:=List.mem_singleton.1 hy
     exact hrowK hk (by decide) (by decide)
 · refine h.low.trans (hC.below h.low.size (fun k _ e=>?_))
   rcases e with e | rfl
   · have:=(h.rs.row.lt k e).1
     have:=h.lt
     have:=h.base
     omega
   · exact h.base
theorem PlS.chs {w1 w4 w5:World} {B rb g cap N:Nat} {st:Int} {la:Option Addr} {T:List Nd} {cv rv:Value} {C:List ChT} {L:List RsT} {o:Obj} (h:PlS w1 w4 B rb st la T cv C rv L) (x:ChT) (hN:C.length=N)
  (hown:w5.ownsRow B 69 4 (.slice (some ⟨g,0,none⟩) (N+1) cap) (N+1) (chCs C ++ x.cells)) (hgrow:(w4.alloc o).grownBy w5 cv.ownBlock) :
  PlS w1 w5 B rb st la T (.slice (some ⟨g,0,none⟩) (N+1) cap) (C ++ [x]) rv L:=by
 have hc5:Chg w4 w5 (fun k=>cv.ownBlock=some k):=(Chg.alloc w4 o _).trans (Chg.grown hgrow)
 have hkind:∀ k,cv.ownBlock=some k→∃ cur,w4.heap[k]? = some (.cells cur 69 (0,0)):=fun k hk'=>owns_kind h.ch hk'
 refine ⟨h.nds.chg hc5 (fun k e cur hcur=>?_),?_,kept_chg hc5 h.box (fun e=>?_),h.rs.chg hc5 (fun k e cur=>?_),?_,h.base,h.lt,Nat.le_trans h.hB hc5.size⟩
 · obtain ⟨cur',h9⟩:=hkind k e
   rw [hcur] at h9
   simp at h9
 · rw [List.length_append,hN]
   simpa [chCs] using hown
 · obtain ⟨cur',h9⟩:=hkind rb e
   rw [h.box] at h9
   simp at h9
 · obtain ⟨cur',h9⟩:=hkind k e
   rw [h9]
   constructor <;> simp
 · refine h.low.trans (hc5.below h.low.size (fun k _ e=>?_))
   have:=(h.ch.lt k e).1
   have:=h.lt
   have:=h.base
   omega
end Go.Proofs.YtckmihplkhmpnaaGreatDoor
namespace Go.Proofs.YtckmihplkhmpnaaGreatDoor
open Go.RowKit Go.Maps Go.WideShapes
set_option linter.unusedVariables false
set_option linter.unusedSimpArgs false
attribute [local go_sem ↓] Go.wp_at_zero Go.wp_at_succ
set_option maxHeartbeats 8000000 in
set_option maxRecDepth 100000 in
theorem refPlay_bad (a:Option Addr) (c n:Nat) (T:List Nd) (s st:Int) (oa:Option Addr) (oc:Nat) (w:World) (h:NdsAt w a T) (hne:T≠[]) (hm:mayC s st n≠0) :
  Calls Tryz.prog 22 #[rtV a T.length c,.int .i64 s,.int .i64 st,.slice oa n oc] w (PlayD w st ⟨mayC s st n,0,T,[],[]⟩):=by
 have H:Hid (NdsAt w a T):=h
 have hl:T.length≠0:=fun e=>hne (List.length_eq_zero_iff.1 e)
 obtain ⟨N,hN⟩:∃ N,T.length=N:=⟨_,rfl⟩
 have HN:Hid (T.length=N):=hN
 rw [hN] at hl ⊢
 have hn0:((N:Int)==0)=false:=by have:¬ (N:Int)=0:=by omega
                                 simpa using this
 clear h hne hN hl
 have hcase:(4<n∧mayC s st n=2)∨(¬ 4<n∧mayC s st n=3∧(s<0∨(¬ s<0∧2147483647<s)∨(¬ s<0∧¬ 2147483647<s∧st<1)∨(¬ s<0∧¬ 2147483647<s∧¬ st<1∧2147483647<st)))∨(n=0∧mayC s st n=48∧¬ s<0∧¬ 2147483647<s∧¬ st<1∧¬ 2147483647<st):=by
  unfold mayC at hm ⊢
  by_cases h4:4<n
  · exact .inl ⟨h4,if_pos h4⟩
  · by_cases hb:s<0∨2147483647<s∨st<1∨2147483647<st
    · exact .inr (.inl ⟨h4,by rw [if_neg h4,if_pos hb],by omega⟩)
    · by_cases h0:n=0
      · exact .inr (.inr ⟨h0,by rw [if_neg h4,if_neg hb,if_pos h0],by omega,by omega,by omega,by omega⟩)
      · rw [if_neg h4,if_neg hb,if_neg h0] at hm
        exact absurd rfl hm
 clear hm
 obtain ⟨code,hcode⟩:∃ code,mayC s st n=code:=⟨_,rfl⟩
 rw [hcode] at hcase ⊢
 clear hcode
 go_enter Tryz.func22,Tryz.ntmps22
 go_upto_region 1 with fail
 obtain ⟨w1,hw1⟩:∃ y,((w.alloc (.cells #[.slice a N c] 29)).alloc (.cells #[.slice none 0 0] 29)).alloc (.cells #[.int .i64 0,.int .i64 0,.int .i64 0,.slice none 0 0] 61)=y:=⟨_,rfl⟩
 obtain ⟨tb,htb⟩:∃ y,w.heap.size=y:=⟨_,rfl⟩
 have HB1:Hid (Below w.heap.size w w1):=by rw [← hw1];exact (((Below.refl _ _).alloc (Nat.le_refl _) _).alloc (by simp) _).alloc (by simp;omega) _
 have HX1:Hid (w1.heap[tb]? = some (.cells #[.slice a N c] 29 (0,0))):=by rw [← hw1,← htb];exact heap_alloc_old (heap_alloc_old (heap_alloc_new _ _))
 have HY1:Hid (w1.heap[tb+1]? = some (.cells #[.slice none 0 0] 29 (0,0))):=by rw [← hw1,← htb];exact heap_alloc_old (heap_alloc_new' (by simp))
 have HZ1:Hid (w1.heap[tb+1+1]? = some (.cells #[.int .i64 0,.int .i64 0,.int .i64 0,.slice none 0 0] 61 (0,0))):=by rw [← hw1,← htb];exact heap_alloc_new' (by simp)
 have HTB:Hid (w.heap.size=tb):=htb
 rw [hw1,htb]
 clear hw1 htb
 have t0:=cells_1 HX1.out
 have y0:=cells_1 HY1.out
 have yf:=free_1 HY1.out
 obtain ⟨z0,z1,z2,z3⟩:=cells_4 HZ1.out
 have zf:=free_4 HZ1.out
 rcases hcase with ⟨h4,rfl⟩ | ⟨h4,rfl,c1 | ⟨c1,c2⟩ | ⟨c1,c2,c3⟩ | ⟨c1,c2,c3,c4⟩⟩ | ⟨rfl,rfl,c1,c2,c3,c4⟩
 · have q:(4:Int)<(n:Int):=by omega
   go_wp2_with fail
   exact bodyPost_ret (results_cct rfl _ _ (tb+1) (tb+1+1) 29 61 #[.slice a N c] #[.int .i64 st,.int .i64 2,.int .i64 0,.slice none 0 0] (0,0) (0,0) _ _ (.slice none 0 0) rfl rfl rfl (fillO_4 (fill_1 HY1.out) (by omega)) (fill_4 (other_blk HZ1.out (by omega))) Tryz.underlying29 rfl (by kernel_rfl) Tryz.underlying61 rfl (by kernel_rfl)) rfl (PlayD.no HN.out c 2 H.out (fillB_4 (HB1.out.setCell (by rw [HTB.out];show tb≤tb+1;omega) _) (by rw [HTB.out];omega)))
 · have q:¬ (4:Int)<(n:Int):=by omega
   go_wp2_with fail
   exact bodyPost_ret (results_cct rfl _ _ (tb+1) (tb+1+1) 29 61 #[.slice a N c] #[.int .i64 st,.int .i64 3,.int .i64 0,.slice none 0 0] (0,0) (0,0) _ _ (.slice none 0 0) rfl rfl rfl (fillO_4 (fill_1 HY1.out) (by omega)) (fill_4 (other_blk HZ1.out (by omega))) Tryz.underlying29 rfl (by kernel_rfl) Tryz.underlying61 rfl (by kernel_rfl)) rfl (PlayD.no HN.out c 3 H.out (fillB_4 (HB1.out.setCell (by rw [HTB.out];show tb≤tb+1;omega) _) (by rw [HTB.out];omega)))
 · have q:¬ (4:Int)<(n:Int):=by omega
   go_wp2_with fail
   exact bodyPost_ret (results_cct rfl _ _ (tb+1) (tb+1+1) 29 61 #[.slice a N c] #[.int .i64 st,.int .i64 3,.int .i64 0,.slice none 0 0] (0,0) (0,0) _ _ (.slice none 0 0) rfl rfl rfl (fillO_4 (fill_1 HY1.out) (by omega)) (fill_4 (other_blk HZ1.out (by omega))) Tryz.underlying29 rfl (by kernel_rfl) Tryz.underlying61 rfl (by kernel_rfl)) rfl (PlayD.no HN.out c 3 H.out (fillB_4 (HB1.out.setCell (by rw [HTB.out];show tb≤tb+1;omega) _) (by rw [HTB.out];omega)))
 · have q:¬ (4:Int)<(n:Int):=by omega
   go_wp2_with fail
   exact bodyPost_ret (results_cct rfl _ _ (tb+1) (tb+1+1) 29 61 #[.slice a N c] #[.int .i64 st,.int .i64 3,.int .i64 0,.slice none 0 0] (0,0) (0,0) _ _ (.slice none 0 0) rfl rfl rfl (fillO_4 (fill_1 HY1.out) (by omega)) (fill_4 (other_blk HZ1.out (by omega))) Tryz.underlying29 rfl (by kernel_rfl) Tryz.underlying61 rfl (by kernel_rfl)) rfl (PlayD.no HN.out c 3 H.out (fillB_4 (HB1.out.setCell (by rw [HTB.out];show tb≤tb+1;omega) _) (by rw [HTB.out];omega)))
 · have q:¬ (4:Int)<(n:Int):=by omega
   go_wp2_with fail
   exact bodyPost_ret (results_cct rfl _ _ (tb+1) (tb+1+1) 29 61 #[.slice a N c] #[.int .i64 st,.int .i64 3,.int .i64 0,.slice none 0 0] (0,0) (0,0) _ _ (.slice none 0 0) rfl rfl rfl (fillO_4 (fill_1 HY1.out) (by omega)) (fill_4 (other_blk HZ1.out (by omega))) Tryz.underlying29 rfl (by kernel_rfl) Tryz.underlying61 rfl (by kernel_rfl)) rfl (PlayD.no HN.out c 3 H.out (fillB_4 (HB1.out.setCell (by rw [HTB.out];show tb≤tb+1;omega) _) (by rw [HTB.out];omega)))
 · go_wp2_with fail
   exact bodyPost_ret (results_cct rfl _ _ (tb+1) (tb+1+1) 29 61 #[.slice a N c] #[.int .i64 st,.int .i64 48,.int .i64 0,.slice none 0 0] (0,0) (0,0) _ _ (.slice none 0 0) rfl rfl rfl (fillO_4 (fill_1 HY1.out) (by omega)) (fill_4 (other_blk HZ1.out (by omega))) Tryz.underlying29 rfl (by kernel_rfl) Tryz.underlying61 rfl (by kernel_rfl)) rfl (PlayD.no HN.out c 48 H.out (fillB_4 (HB1.out.setCell (by rw [HTB.out];show tb≤tb+1;omega) _) (by rw [HTB.out];omega)))
end Go.Proofs.YtckmihplkhmpnaaGreatDoor
namespace Go.Proofs.YtckmihplkhmpnaaGreatDoor
open Go.RowKit Go.Maps Go.WideShapes
set_option linter.unusedVariables false
set_option linter.unusedSimpArgs false
attribute [local go_sem ↓] Go.wp_at_zero Go.wp_at_succ
set_option maxHeartbeats 16000000 in
set_option maxRecDepth 100000 in
theorem refPlay_ok (a:Option Addr) (c:Nat) (T:List Nd) (s st:Int) (oa:Option Addr) (oc:Nat) (os:List OpT) (w:World) (h:NdsAt w a T) (hi:Inv T) (hne:T≠[]) (ho:OpsAt w w.heap.size oa os) (hm:mayC s st os.length=0) :
  Calls Tryz.prog 22 #[rtV a T.length c,.int .i64 s,.int .i64 st,.slice oa os.length oc] w (PlayD w st (playL T s st os 0 T [] [])):=by
 obtain ⟨i0,hi0,hz0,hz1,hz2⟩:=info_parts Tryz.infoR
 obtain ⟨j0,hj0,hy0,hy1,hy2⟩:=info_parts Tryz.infoC
 have H:Hid (NdsAt w a T):=h
 have HI:Hid (Inv T):=hi
 have HO:Hid (OpsAt w w.heap.size oa os):=ho
 have hl:T.length≠0:=fun e=>hne (List.length_eq_zero_iff.1 e)
 obtain ⟨hc1,hc2,hc3,hc4,hc5,hc6⟩:os.length≤4∧1≤os.length∧¬ s<0∧¬ 2147483647<s∧¬ st<1∧¬ 2147483647<st:=by
  unfold mayC at hm
  by_cases h4:4<os.length
  · rw [if_pos h4] at hm
    exact absurd hm (by decide)
  · by_cases hb:s<0∨2147483647<s∨st<1∨2147483647<st
    · rw [if_neg h4,if_pos hb] at hm
      exact absurd hm (by decide)
    · by_cases h0:os.length=0
      · rw [if_neg h4,if_neg hb,if_pos h0] at hm
        exact absurd hm (by decide)
      · exact ⟨by omega,by omega,by omega,by omega,by omega,by omega⟩
 obtain ⟨N,hN⟩:∃ N,T.length=N:=⟨_,rfl⟩
 have HN:Hid (T.length=N):=hN
 obtain ⟨K,hK⟩:∃ K,os.length=K:=⟨_,rfl⟩
 have HK:Hid (os.length=K):=hK
 obtain ⟨M,hM⟩:∃ M,playL T s st os 0 T [] []=M:=⟨_,rfl⟩
 have HM:Hid (playL T s st os 0 T [] []=M):=hM
 rw [hN] at hl ⊢
 rw [hK] at hc1 hc2 ⊢
 rw [hM]
 have hn0:((N:Int)==0)=false:=by have:¬ (N:Int)=0:=by omega
                                 simpa using this
 have hk0:((K:Int)==0)=false:=by have:¬ (K:Int)=0:=by omega
                                 simpa using this
 have hk4:¬ (4:Int)<(K:Int):=by omega
 clear h hne hN hl hi ho hK hM hm
 go_enter Tryz.func22,Tryz.ntmps22
 go_upto_region 1 with fail
 obtain ⟨w1,hw1⟩:∃ y,((w.alloc (.cells #[.slice a N c] 29)).alloc (.cells #[.slice none 0 0] 29)).alloc (.cells #[.int .i64 0,.int .i64 0,.int .i64 0,.slice none 0 0] 61)=y:=⟨_,rfl⟩
 obtain ⟨tb,htb⟩:∃ y,w.heap.size=y:=⟨_,rfl⟩
 have HB1:Hid (Below w.heap.size w w1):=by rw [← hw1];exact (((Below.refl _ _).alloc (Nat.le_refl _) _).alloc (by simp) _).alloc (by simp;omega) _
 have HX1:Hid (w1.heap[tb]? = some (.cells #[.slice a N c] 29 (0,0))):=by rw [← hw1,← htb];exact heap_alloc_old (heap_alloc_old (heap_alloc_new _ _))
 have HY1:Hid (w1.heap[tb+1]? = some (.cells #[.slice none 0 0] 29 (0,0))):=by rw [← hw1,← htb];exact heap_alloc_old (heap_alloc_new' (by simp))
 have HZ1:Hid (w1.heap[tb+1+1]? = some (.cells #[.int .i64 0,.int .i64 0,.int .i64 0,.slice none 0 0] 61 (0,0))):=by rw [← hw1,← htb];exact heap_alloc_new' (by simp)
 have HTB:Hid (w.heap.size=tb):=htb
 rw [hw1,htb]
 clear hw1 htb
 have t0:=cells_1 HX1.out
 go_upto_region 11 with fail
 obtain ⟨w2,hw2⟩:∃ y,w1.alloc (.cells #[.int .i64 st,.int .i64 0,.int .i64 0,.slice none 0 0] 61)=y:=⟨_,rfl⟩
 obtain ⟨rb,hrb⟩:∃ y,w1.heap.size=y:=⟨_,rfl⟩
 have HP2:Hid (PlS w1 w2 w2.heap.size rb st a T (.slice none 0 0) [] (.slice none 0 0) []):=by
  have hb:Below w1.heap.size w1 w2:=by rw [← hw2];exact (Below.refl _ _).alloc (Nat.le_refl _) _
  exact ⟨(H.out.below HB1.out).below hb,World.ownsRow_nil _ _ _ _,by rw [← hw2,← hrb];exact heap_alloc_new _ _,RsD.nil _ _,hb,by rw [hrb];exact Nat.le_refl _,by rw [← hw2,← hrb];simp,Nat.le_refl _⟩
 have HRB:Hid (w1.heap.size=rb):=hrb
 rw [hw2,hrb]
 clear hw2 hrb t0
 go_wp2_with fail
 go_loopw [11,13,14] (fun lv cv i wr=>∃ (q:Nat) (Tq:List Nd) (L:List RsT) (Cq:List ChT) (la:Option Addr) (lc:Nat) (rv:Value),lv=.slice la Tq.length lc∧i=.int .i64 q∧q≤K∧Hid (playL T s st (os.drop q) q Tq (L.map RsT.r) Cq=M)∧Hid (Inv Tq∧Cq.length≤q∧L.length=q)∧Hid (PlS w1 wr w2.heap.size rb st la Tq cv Cq rv L)) (fun _ _ i _=>K - (intOf i).toNat)
 case atStart=>exact ⟨0,T,[],[],a,c,_,by rw [HN.out],rfl,Nat.zero_le _,HM.out,⟨HI.out,Nat.le_refl _,rfl⟩,HP2.out⟩
 case round =>
  obtain ⟨q,Tq,L,Cq,la,lc,rv,rfl,rfl,hq,HML,HQ,HP⟩:=hrel
  have HXr:Hid _:=kept_block HP.out.low HX1.out
  have HYr:Hid _:=kept_block HP.out.low HY1.out
  have HZr:Hid _:=kept_block HP.out.low HZ1.out
  by_cases hlt:q<K
  · have hqi:(q:Int)<(K:Int):=by omega
    obtain ⟨o,hoq⟩:∃ o,os[q]? = some o:=⟨os[q]'(by rw [HK.out];exact hlt),List.getElem?_eq_getElem _⟩
    obtain ⟨b,fo,rfl,hb,hcs⟩:=HO.out q o hoq
    have HDR:Hid (os.drop q=o :: os.drop (q+1)):=by show _=_;rw [List.drop_eq_getElem_cons (by rw [HK.out];exact hlt)];congr 1;have:=List.getElem?_eq_some_iff.1 hoq;exact this.2
    have hbw:Below w.heap.size w wr:=trans2 HB1.out HP.out.low
    have hcell:∀ j x,o.cells[j]? = some x→wr.cell? ⟨b,fo+q * 5+j,none⟩=some x:=fun j x hx=>by
     rw [hbw.cell (p:=⟨b,fo+q * 5+j,none⟩) hb]
     exact hcs j x hx
    have o0:=hcell 0 _ rfl
    have o1:=hcell 1 _ rfl
    have o2:=hcell 2 _ rfl
    have o3:=hcell 3 _ rfl
    have o4:=hcell 4 _ rfl
    rw [Nat.add_zero] at o0
    have HBW:Hid (Below w.heap.size w wr):=hbw
    clear hoq hcs hcell hbw
    have HON:Hid _:=refOne_any la lc Tq s st o wr HP.out.nds HQ.out.1
    have HPE:Hid (playL T s st (o :: os.drop (q+1)) q Tq (L.map RsT.r) Cq=M):=by rw [← HDR.out];exact HML.out
    have hmc:=oneM_ch Tq s st o
    have hmi:=oneM_inv HQ.out.1 s st o
    obtain ⟨MO,hMO⟩:∃ MO,oneM Tq s st o=MO:=⟨_,rfl⟩
    rw [hMO] at HON hmc hmi
    have HMO:Hid (oneM Tq s st o=MO):=hMO
    have HMI:Hid (Inv MO.2.1):=hmi
    clear hMO hmi
    obtain ⟨mc,MT,⟨mp,md,mv,mm,mmc,mo,mkids⟩,Mch⟩:=MO
    obtain ⟨TN,hTN⟩:∃ n,Tq.length=n:=⟨_,rfl⟩
    rw [hTN] at HON ⊢
    clear hTN
    go_wp2_with fail
    refine Calls.mono HON.out ?_
    rintro e w3 ⟨a3,c3,ka,kc,ca,cc,rfl,hn3,hk3,hc3',hb3⟩
    have HN3:Hid (NdsAt w3 a3 MT):=hn3
    have HK3:Hid (w3.ownsRow 0 9 1 (.slice ka mkids.length kc) mkids.length (mkids.map Value.string)):=hk3
    have HC3:Hid (ChsAt w3 ca Mch):=hc3'
    have HP3:Hid (PlS w1 w3 w2.heap.size rb st a3 MT u13 Cq rv L):=(HP.out.below hb3).turn hn3
    have HBW3:Hid (Below w.heap.size w w3):=trans2 HBW.out hb3
    clear hn3 hk3 hc3' hb3 o0 o1 o2 o3 o4 HON
    obtain ⟨KN,hKN⟩:∃ n,mkids.length=n:=⟨_,rfl⟩
    have HKN:Hid (mkids.length=KN):=hKN
    obtain ⟨CN,hCN⟩:∃ n,Mch.length=n:=⟨_,rfl⟩
    have HCN:Hid (Mch.length=CN):=hCN
    obtain ⟨MN,hMN⟩:∃ n,MT.length=n:=⟨_,rfl⟩
    have HMN:Hid (MT.length=MN):=hMN
    have hmc:CN≤1:=by rw [← hCN];exact hmc
    simp only [hKN,hCN,hMN]
    rw [hKN] at HK3
    clear hKN hCN hMN
    go_upto_region 16 with fail
    obtain ⟨w4,hw4⟩:∃ y,w3.alloc (.cells #[.string mp,.string md,.int .i64 mv,.int .i64 mm,.int .i64 mmc,.int .i64 mo,.slice ka KN kc] 103)=y:=⟨_,rfl⟩
    obtain ⟨yb,hyb⟩:∃ y,w3.heap.size=y:=⟨_,rfl⟩
    have hb4:Below w3.heap.size w3 w4:=by rw [← hw4];exact (Below.refl _ _).alloc (Nat.le_refl _) _
    have HYB:Hid (w4.heap[yb]? = some (.cells #[.string mp,.string md,.int .i64 mv,.int .i64 mm,.int .i64 mmc,.int .i64 mo,.slice ka KN kc] 103 (0,0))):=by rw [← hw4,← hyb];exact heap_alloc_new _ _
    have HP4:Hid (PlS w1 w4 w2.heap.size rb st a3 MT u13 Cq rv L):=HP3.out.below hb4
    have HK4:Hid (w4.ownsRow 0 9 1 (.slice ka KN kc) KN (mkids.map Value.string)):=owns_chg HK3.out (Chg.of_below hb4 (fun _=>False)) (fun _ _=>id)
    have HC4:Hid (ChsAt w4 ca Mch):=HC3.out.below hb4
    have HBW4:Hid (Below w.heap.size w w4):=trans2 HBW3.out hb4
    rw [hw4,hyb]
    clear hw4 hyb hb4
    by_cases hmz:mc=0
    · subst hmz
      have HPN:Hid (playL T s st (os.drop (q+1)) (q+1) MT (L.map RsT.r ++ [⟨mp,md,mv,mm,mmc,mo,mkids⟩]) (Cq ++ Mch)=M):=by
       have h9:=HPE.out
       unfold playL at h9
       rw [HMO.out,if_neg (by simp)] at h9
       exact h9
      obtain ⟨y0,y1,y2,y3,y4,y5,y6⟩:=cells_7 HYB.out
      obtain ⟨r0,r1,r2,r3⟩:=cells_4 HP4.out.box
      have hrl:rb<w4.heap.size:=(Array.getElem?_eq_some_iff.1 HP4.out.box).1
      have hB4:w2.heap.size≤w4.heap.size:=HP4.out.hB
      have HLQ:Hid (L.length=q):=HQ.out.2.2
      have HCQ:Hid (Cq.length≤q):=HQ.out.2.1
      have HRW:Hid (w4.ownsRow w2.heap.size 103 7 rv q (L.flatMap RsT.cs)):=by have:=HP4.out.rs.row;rw [HLQ.out] at this;exact this
      go_upto_region 20 with (first
       | (at_builtin;refine wpList_append_lies _ rfl _ _ _ rfl w2.heap.size 103 i0 _ 7 88 Tryz.underlying59 hi0 hz0 hz1 hz2 rfl (by omega) rv q (L.flatMap RsT.cs) rfl (World.ownsRow.alloc HRW.out _) ⟨w4.heap.size,0,none⟩ 1 1 [.string mp,.string md,.int .i64 mv,.int .i64 mm,.int .i64 mmc,.int .i64 mo,.slice ka KN kc] rfl rfl (World.news_of_block (cs:=#[.string mp,.string md,.int .i64 mv,.int .i64 mm,.int .i64 mmc,.int .i64 mo,.slice ka KN kc]) (t:=103) (fr:=(0,0)) (heap_alloc_new w4 _)) (by simp [Value.oneCell']) (by omega) (by unfold maxLen;omega) (by omega) (by simp;omega) (w4.heap.size+1) (by simp) ?_
          intro g5 cap5 w5 hown5 hgrow5 hat5 hlt5
          have h9:=HP4.out.res ⟨⟨mp,md,mv,mm,mmc,mo,mkids⟩,ka,KN,kc⟩ HLQ.out (by show World.ownsRow _ _ _ _ _ mkids.length _;rw [HKN.out];exact HK4.out) hown5 hgrow5
          have HR5:Hid _:=h9.1
          have HP6:Hid _:=h9.2.1
          have HC6:Hid _:=h9.2.2
          obtain ⟨r0,r1,r2,r3⟩:=cells_4 h9.1
          have rf:=free_4 h9.1
          clear h9 hown5 hgrow5 hat5 hlt5)
       | fail)
      clear y0 y1 y2 y3 y4 y5 y6 r0 r1 r2 r3 rf
      have HCH:Hid (ChsAt (w5.setCell ⟨rb,3,none⟩ (.slice (some ⟨g5,0,none⟩) (q+1) cap5)) ca Mch):=HC4.out.chg HC6.out (fun k e cur hk=>by
       rcases e with e | e
       · obtain ⟨cur',h9⟩:=owns_kind HP4.out.rs.row e
         rw [hk] at h9
         simp at h9
       · rw [show k=rb from e,HP4.out.box] at hk
         simp at hk)
      go_wp2_with fail
      go_loopw [13,19] (fun cv i wk=>∃ (k:Nat) (Ck:List ChT),i=.int .i64 k∧k≤CN∧Hid (Ck=Cq ++ Mch.take k)∧Hid (k<CN→ChsAt wk ca Mch)∧Hid (PlS w1 wk w2.heap.size rb st a3 MT cv Ck (.slice (some ⟨g5,0,none⟩) (q+1) cap5) (L ++ [⟨⟨mp,md,mv,mm,mmc,mo,mkids⟩,ka,KN,kc⟩]))) (fun _ i _=>CN - (intOf i).toNat)
      case atStart=>exact ⟨0,Cq,rfl,Nat.zero_le _,(by show _=_;simp),fun _=>HCH.out,HP6.out⟩
      case round =>
       obtain ⟨k,Ck,rfl,hk,HCk,HCA,HPk⟩:=hrel
       have HCL:Hid (Ck.length≤8):=by
        show _≤_
        rw [HCk.out,List.length_append,List.length_take]
        have:=HCQ.out
        omega
       have hBk:w2.heap.size≤wr.heap.size:=HPk.out.hB
       by_cases hkl:k<CN
       · have hki:(k:Int)<(CN:Int):=by omega
         obtain ⟨y,hy⟩:∃ y,Mch[k]? = some y:=⟨Mch[k]'(by rw [HCN.out];exact hkl),List.getElem?_eq_getElem _⟩
         obtain ⟨b9,f9,rfl,_⟩:=(HCA.out hkl) k y hy
         obtain ⟨hbl,e0,e1,e2,e3⟩:=chs_cells (HCA.out hkl) hy
         have HTK:Hid (Ck ++ [y]=Cq ++ Mch.take (k+1)):=by show _=_;rw [HCk.out,List.take_add_one,hy];simp
         obtain ⟨CL,hCL⟩:∃ n,Ck.length=n:=⟨_,rfl⟩
         have HCL2:Hid (Ck.length=CL):=hCL
         have HRk:Hid (wr.ownsRow w2.heap.size 69 4 u13 CL (chCs Ck)):=by have:=HPk.out.ch;rw [hCL] at this;exact this
         have hcl8:CL≤8:=by rw [← hCL];exact HCL.out
         clear hy hCL
         go_wp2_with (first
          | (at_builtin;refine wpList_append_lies _ rfl _ _ _ rfl w2.heap.size 69 j0 _ 4 48 Tryz.underlying62 hj0 hy0 hy1 hy2 rfl (by omega) u13 CL (chCs Ck) rfl (World.ownsRow.alloc HRk.out _) ⟨wr.heap.size,0,none⟩ 1 1 [.int .i64 y.k,.string y.p,.string y.d,.int .i64 y.v] rfl rfl (World.news_of_block (cs:=#[.int .i64 y.k,.string y.p,.string y.d,.int .i64 y.v]) (t:=69) (fr:=(0,0)) (heap_alloc_new wr _)) (by simp [Value.oneCell']) (by omega) (by unfold maxLen;omega) (by omega) (by simp;omega) (wr.heap.size+1) (by simp) ?_
             intro g7 cap7 w7 hown7 hgrow7 hat7 hlt7
             have HP7:Hid _:=HPk.out.chs y HCL2.out hown7 hgrow7
             clear hown7 hgrow7 hat7 hlt7)
          | fail)
         go_roundw
         case rel=>exact ⟨k+1,Ck ++ [y],by go_num,by omega,HTK.out,(fun h=>by omega),HP7.out⟩
         case measure=>simp [intOf];omega
       · obtain rfl:k=CN:=by omega
         have hge:¬ (k:Int)<(k:Int):=by omega
         go_wp2_with fail
         go_roundw
         case rel =>
          have e1:Ck=Cq ++ Mch:=by rw [HCk.out,List.take_of_length_le (by rw [HCN.out];exact Nat.le_refl _)]
          refine ⟨q+1,MT,L ++ [⟨⟨mp,md,mv,mm,mmc,mo,mkids⟩,ka,KN,kc⟩],Ck,a3,c3,_,by rw [HMN.out],by go_num,by omega,?_,⟨HMI.out,?_,?_⟩,HPk⟩
          · show _=_
            rw [e1,List.map_append]
            exact HPN.out
          · rw [e1,List.length_append,HCN.out]
            have:=HCQ.out
            omega
          · rw [List.length_append,HLQ.out]
            rfl
         case measure=>simp [intOf];omega
    · have emc:(mc != 0)=true:=by simpa using hmz
      have HPM:Hid ((⟨mc,q,T,[],[]⟩:PlayR)=M):=by
       have h9:=HPE.out
       unfold playL at h9
       rw [HMO.out,if_pos (by simpa using hmz)] at h9
       exact h9
      have HX4:Hid _:=kept_block HP4.out.low HX1.out
      have HY4:Hid _:=kept_block HP4.out.low HY1.out
      have HZ4:Hid _:=kept_block HP4.out.low HZ1.out
      have t0:=cells_1 HX4.out
      have y0:=cells_1 HY4.out
      have yf:=free_1 HY4.out
      obtain ⟨z0,z1,z2,z3⟩:=cells_4 HZ4.out
      have zf:=free_4 HZ4.out
      clear hmz
      go_wp2_with fail
      refine bodyPost_ret (results_cct rfl _ _ (tb+1) (tb+1+1) 29 61 #[.slice a N c] #[.int .i64 st,.int .i64 mc,.int .i64 q,.slice none 0 0] (0,0) (0,0) _ _ (.slice none 0 0) rfl rfl rfl (fillO_4 (fill_1 HY4.out) (by omega)) (fill_4 (other_blk HZ4.out (by omega))) Tryz.underlying29 rfl (by kernel_rfl) Tryz.underlying61 rfl (by kernel_rfl)) rfl ?_
      rw [← HPM.out]
      exact PlayD.no HN.out c mc H.out (fillB_4 (HBW4.out.setCell (by rw [HTB.out];show tb≤tb+1;omega) _) (by rw [HTB.out];omega))
  · obtain rfl:q=K:=by omega
    have hge:¬ (q:Int)<(q:Int):=by omega
    have HME:Hid ((⟨0,0,Tq,L.map RsT.r,Cq⟩:PlayR)=M):=by
     have h9:=HML.out
     rw [List.drop_of_length_le (by rw [HK.out];exact Nat.le_refl _)] at h9
     exact h9
    obtain ⟨ra,rc,rfl⟩:=slice_of' HP.out.rs.row
    obtain ⟨r0,r1,r2,r3⟩:=cells_4 HP.out.box
    have y0:=cells_1 HYr.out
    have yf:=free_1 HYr.out
    obtain ⟨z0,z1,z2,z3⟩:=cells_4 HZr.out
    have zf:=free_4 HZr.out
    have hrb1:w1.heap.size≤rb:=HP.out.base
    have htb1:tb+1+1<w1.heap.size:=(Array.getElem?_eq_some_iff.1 HZ1.out).1
    have e1:rb≠tb+1:=by omega
    have e2:rb≠tb+1+1:=by omega
    obtain ⟨ca,cc,ecv⟩:=slice_of' HP.out.ch
    obtain ⟨TN,hTN⟩:∃ n,Tq.length=n:=⟨_,rfl⟩
    have HTN:Hid (Tq.length=TN):=hTN
    have HCV:Hid (u13=.slice ca Cq.length cc):=ecv
    rw [hTN]
    clear hTN ecv
    go_wp2_with fail
    have e3:tb+1≠rb:=fun e=>e1 e.symm
    have e4:tb+1+1≠rb:=fun e=>e2 e.symm
    have e5:tb+1+1≠tb+1:=by omega
    have e6:tb+1≠tb+1+1:=by omega
    have HZs:Hid ((wr.setCell ⟨tb+1,0,none⟩ (.slice la TN lc)).heap[tb+1+1]? = some (.cells #[.int .i64 0,.int .i64 0,.int .i64 0,.slice none 0 0] 61 (0,0))):=other_blk HZr.out e5
    have HZd:Hid ((wr.setCell ⟨tb+1,0,none⟩ (.slice la TN lc)).drew.heap[tb+1+1]? = some (.cells #[.int .i64 0,.int .i64 0,.int .i64 0,.slice none 0 0] 61 (0,0))):=(heap_drew_at _ _).trans HZs.out
    obtain ⟨x0,x1,x2,x3⟩:=cells_4 HZs.out
    have xf:=free_4 HZs.out
    obtain ⟨v0,v1,v2,v3⟩:=cells_4 HZd.out
    have vf:=free_4 HZd.out
    go_region_held3 (fun w'=>w'.cell? ⟨rb,0,none⟩=some (.int .i64 st)∧w'.cell? ⟨rb,1,none⟩=some (.int .i64 0)∧w'.cell? ⟨rb,2,none⟩=some (.int .i64 0)∧w'.cell? ⟨rb,3,none⟩=some (.slice ra L.length rc)) (first | go_keep | exact ⟨r0,r1,r2,r3⟩ | (exact ⟨(World.cell?_drew _ _).trans ((cellN e1).trans r0),(World.cell?_drew _ _).trans ((cellN e1).trans r1),(World.cell?_drew _ _).trans ((cellN e1).trans r2),(World.cell?_drew _ _).trans ((cellN e1).trans r3)⟩)) (fail)
    go_wp2_with fail
    have hbA:Below w.heap.size w wr:=trans2 HB1.out HP.out.low
    have hcB:Chg wr (put_4 (wr.setCell ⟨tb+1,0,none⟩ (.slice la TN lc)) (tb+1+1) (.int .i64 st) (.int .i64 0) (.int .i64 0) (.slice ra L.length rc)) (fun k=>k=tb+1∨k=tb+1+1):=((Chg.set wr ⟨tb+1,0,none⟩ (.slice la TN lc)).mono (fun _ _ e=>.inl e)).trans ((((((Chg.set _ ⟨tb+1+1,0,none⟩ _).trans (Chg.set _ ⟨tb+1+1,1,none⟩ _)).trans (Chg.set _ ⟨tb+1+1,2,none⟩ _)).trans (Chg.set _ ⟨tb+1+1,3,none⟩ _))).mono (fun _ _ e=>.inr e))
    have hkd:∀ k,(k=tb+1∨k=tb+1+1)→∃ cur t,t≠26∧t≠69∧t≠103∧t≠9∧wr.heap[k]? = some (.cells cur t (0,0)):=fun k e=>by
     rcases e with rfl | rfl
     · exact ⟨_,29,by decide,by decide,by decide,by decide,HYr.out⟩
     · exact ⟨_,61,by decide,by decide,by decide,by decide,HZr.out⟩
    refine bodyPost_ret (results_cct rfl _ _ (tb+1) (tb+1+1) 29 61 #[.slice la TN lc] #[.int .i64 st,.int .i64 0,.int .i64 0,.slice ra L.length rc] (0,0) (0,0) _ _ u13 rfl rfl rfl ((heap_drew_at _ _).trans (fillO_4 (fill_1 HYr.out) (by omega))) ((heap_drew_at _ _).trans (fill_4 (other_blk HZr.out (by omega)))) Tryz.underlying29 rfl (by kernel_rfl) Tryz.underlying61 rfl (by kernel_rfl)) rfl ?_
    rw [← HME.out]
    have hN':=HP.out.nds.chg hcB (fun k e cur hk=>by
     obtain ⟨cur',t,h1,_,_,_,h5⟩:=hkd k e
     rw [hk] at h5
     simp at h5
     exact h1 h5.2.symm)
    have hR':=HP.out.rs.chg hcB (fun k e cur=>by
     obtain ⟨cur',t,_,_,h3,h4,h5⟩:=hkd k e
     rw [h5]
     constructor
     · intro h9
       simp at h9
       exact h3 h9.2
     · intro h9
       simp at h9
       exact h4 h9.2)
    have hC':=owns_chg HP.out.ch hcB (fun k hk e=>by
     obtain ⟨cur',t,_,h2,_,_,h5⟩:=hkd k e
     obtain ⟨cur,h6⟩:=owns_kind HP.out.ch hk
     rw [h6] at h5
     simp at h5
     exact h2 h5.2.symm)
    have hB2:w.heap.size≤w2.heap.size:=Nat.le_trans HB1.out.size (Nat.le_of_lt (Nat.lt_of_le_of_lt hrb1 HP.out.lt))
    have hd:=below_drewR (put_4 (wr.setCell ⟨tb+1,0,none⟩ (.slice la TN lc)) (tb+1+1) (.int .i64 st) (.int .i64 0) (.int .i64 0) (.slice ra L.length rc))
    have hCd:=owns_low (owns_chg hC' (Chg.of_below hd (fun _=>False)) (fun _ _=>id)) hB2
    rw [HCV.out] at hCd
    have hRd:=hR'.below hd
    exact ⟨la,lc,.slice ra L.length rc,ca,cc,L,by rw [HTN.out,HCV.out];rfl,rfl,⟨owns_low hRd.row hB2,hRd.kids⟩,hN'.below hd,hCd,below_drew (fillB_4 (hbA.setCell (by rw [HTB.out];show tb≤tb+1;omega) _) (by rw [HTB.out];omega))⟩
theorem refPlay_any (a:Option Addr) (c:Nat) (T:List Nd) (s st:Int) (oa:Option Addr) (oc:Nat) (os:List OpT) (w:World) (h:NdsAt w a T) (hi:Inv T) (hne:T≠[]) (ho:OpsAt w w.heap.size oa os) :
  Calls Tryz.prog 22 #[rtV a T.length c,.int .i64 s,.int .i64 st,.slice oa os.length oc] w (PlayD w st (playM T s st os)):=by
 unfold playM
 by_cases hm:mayC s st os.length=0
 · rw [if_neg (by simpa using hm)]
   exact refPlay_ok a c T s st oa oc os w h hi hne ho hm
 · rw [if_pos hm]
   exact refPlay_bad a c os.length T s st oa oc w h hne hm
end Go.Proofs.YtckmihplkhmpnaaGreatDoor
