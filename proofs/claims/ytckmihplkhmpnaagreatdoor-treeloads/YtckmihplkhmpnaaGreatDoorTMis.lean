import Derived.Test.YtckmihplkhmpnaaGreatDoorTUntouched
import Derived.Test.YtckmihplkhmpnaaGreatDoorTPart
import Derived.Maps.Views
import Derived.Test.YtckmihplkhmpnaaGreatDoorTSortP
import Derived.Test.YtckmihplkhmpnaaGreatDoorTSortN
import Derived.Test.YtckmihplkhmpnaaGreatDoorTDrop
namespace Go.Proofs.YtckmihplkhmpnaaGreatDoor
open Go.RowKit Go.Maps Go.WideShapes
set_option linter.unusedVariables false
set_option linter.unusedSimpArgs false
structure Nd where
 p:ByteArray
 d:ByteArray
 v:Int
 m:Int
 c:Int
 o:Int
 k:Int
abbrev Nd.V (x:Nd):Value:=fuV x.p x.d x.v x.m x.c x.o x.k
abbrev Nd.cs (x:Nd):List Value:=[.string x.p,.string x.d,.int .i64 x.v,.int .i64 x.m,.int .i64 x.c,.int .i64 x.o,.int .i64 x.k]
abbrev Nd.by (x:Nd):List UInt8:=x.p.data.toList
theorem ky_inj {a b:ByteArray} (h:ky a=ky b):a=b:=by
 have h1:a.data.toList=b.data.toList:=by simpa [ky] using h
 exact ByteArray.ext (Array.ext' h1)
theorem ky_lit (a:ByteArray):WideAt.IsKeyLit (ky a):=by simp [ky,WideAt.IsKeyLit]
def StrD (D:DataW Value):Prop:=∃ es,D=.map es∧∀ p∈es,∃ x,p.1=.string x
theorem StrD.isMap {D:DataW Value} (h:StrD D):IsMap D:=by obtain ⟨es,rfl,_⟩:=h;exact ⟨es,rfl⟩
theorem StrD.put {D:DataW Value} (h:StrD D) (s:ByteArray) (d:DataW Value):StrD (D.put (ky s) d):=by
 obtain ⟨es,rfl,hs⟩:=h
 refine ⟨_,rfl,fun p hp=>?_⟩
 rcases List.mem_cons.1 ((insert_perm _ _).mem_iff.1 hp) with rfl | hp
 · exact ⟨_,rfl⟩
 · exact hs p (List.mem_filter.1 hp).1
theorem StrD.del {D:DataW Value} (h:StrD D) (k:Lit):StrD (D.del k):=by
 obtain ⟨es,rfl,hs⟩:=h
 exact ⟨_,rfl,fun p hp=>hs p (List.mem_filter.1 hp).1⟩
structure Rep (D:DataW Value) (T:List Nd):Prop where
 tidy:Tidy D
 str:StrD D
 has:∀ s,Maps.has D (ky s)=true ↔ ∃ x∈T,x.p=s
 look:∀ x∈T,look D x.p=x.V
 nd:(T.map Nd.p).Nodup
theorem look_put_same {D:DataW Value} (h:IsMap D) (s:ByteArray) (v:Value):look (D.put (ky s) (.held v)) s=v:=by
 unfold look
 rw [atKey_put_same h (ky_lit s)]
theorem look_put_other {D:DataW Value} {s t:ByteArray} (h:t≠s) (v:DataW Value):look (D.put (ky s) v) t=look D t:=by
 unfold look
 rw [atKey_put_other (fun e=>h (ky_inj e))]
theorem look_del_other {D:DataW Value} {s t:ByteArray} (h:t≠s):look (D.del (ky s)) t=look D t:=by
 unfold look
 rw [atKey_del_other (fun e=>h (ky_inj e))]
theorem Rep.perm {D:DataW Value} {T U:List Nd} (h:Rep D T) (hp:U.Perm T):Rep D U :=
 ⟨h.tidy,h.str,fun s=>(h.has s).trans ⟨fun ⟨x,hx,e⟩=>⟨x,hp.mem_iff.2 hx,e⟩,fun ⟨x,hx,e⟩=>⟨x,hp.mem_iff.1 hx,e⟩⟩,fun x hx=>h.look x (hp.mem_iff.1 hx),(hp.map _).nodup_iff.2 h.nd⟩
theorem Rep.put {D:DataW Value} {T:List Nd} (h:Rep D T) (n:Nd):Rep (D.put (ky n.p) (.held n.V)) (n :: T.filter (fun x=>decide (x.p≠n.p))):=by
 refine ⟨h.tidy.put (ky_lit _) _,h.str.put _ _,fun s=>?_,fun x hx=>?_,?_⟩
 · by_cases hs:s=n.p
   · subst hs
     simp only [has_put_same h.str.isMap (ky_lit _),true_iff]
     exact ⟨n,List.mem_cons_self,rfl⟩
   · rw [has_put_other (fun e=>hs (ky_inj e)),h.has]
     constructor
     · rintro ⟨x,hx,rfl⟩
       exact ⟨x,List.mem_cons_of_mem _ (List.mem_filter.2 ⟨hx,by simpa using hs⟩),rfl⟩
     · rintro ⟨x,hx,rfl⟩
       rcases List.mem_cons.1 hx with rfl | hx
       · exact absurd rfl hs
       · exact ⟨x,(List.mem_filter.1 hx).1,rfl⟩
 · rcases List.mem_cons.1 hx with rfl | hx
   · exact look_put_same h.str.isMap _ _
   · rw [look_put_other (by simpa using (List.mem_filter.1 hx).2)]
     exact h.look x (List.mem_filter.1 hx).1
 · rw [List.map_cons,List.nodup_cons]
   refine ⟨fun hm=>?_,?_⟩
   · obtain ⟨x,hx,e⟩:=List.mem_map.1 hm
     have:=(List.mem_filter.1 hx).2
     simp [e] at this
   · exact List.Sublist.nodup (List.filter_sublist.map _) h.nd
theorem Rep.del {D:DataW Value} {T:List Nd} (h:Rep D T) (s:ByteArray):Rep (D.del (ky s)) (T.filter (fun x=>decide (x.p≠s))):=by
 refine ⟨h.tidy.del _,h.str.del _,fun t=>?_,fun x hx=>?_,List.Sublist.nodup (List.filter_sublist.map _) h.nd⟩
 · by_cases hs:t=s
   · subst hs
     rw [has_del_same]
     constructor
     · intro e;cases e
     · rintro ⟨x,hx,e⟩
       have:=(List.mem_filter.1 hx).2
       simp [e] at this
   · rw [has_del_other (fun e=>hs (ky_inj e)),h.has]
     constructor
     · rintro ⟨x,hx,rfl⟩
       exact ⟨x,List.mem_filter.2 ⟨hx,by simpa using hs⟩,rfl⟩
     · rintro ⟨x,hx,rfl⟩
       exact ⟨x,(List.mem_filter.1 hx).1,rfl⟩
 · rw [look_del_other (by simpa using (List.mem_filter.1 hx).2)]
   exact h.look x (List.mem_filter.1 hx).1
theorem Rep.keys {D:DataW Value} {T:List Nd} (h:Rep D T):(T.map Nd.by).Perm (strKeys D):=by
 obtain ⟨es,rfl,hs⟩:=h.str
 obtain ⟨es',e,hp⟩:=h.tidy
 obtain rfl:es=es':=by simpa using e
 refine perm_strKeys hp hs ?_ (fun l=>?_)
 · have h1:=h.nd
   rw [show T.map Nd.by=(T.map Nd.p).map (fun b=>b.data.toList) by simp [Nd.by]]
   exact List.Pairwise.map _ (fun a b hab e=>hab (ByteArray.ext (Array.ext' e))) h1
 · have h1:=h.has ⟨l.toArray⟩
   have e:ky ⟨l.toArray⟩=.string l:=by simp [ky]
   rw [e] at h1
   rw [h1]
   constructor
   · intro hl
     obtain ⟨x,hx,rfl⟩:=List.mem_map.1 hl
     exact ⟨x,hx,ByteArray.ext (by simp [Nd.by])⟩
   · rintro ⟨x,hx,e⟩
     exact List.mem_map.2 ⟨x,hx,by simp [Nd.by,e]⟩
theorem Rep.size {D:DataW Value} {T:List Nd} (h:Rep D T):Maps.size D=T.length:=by
 rw [← size_of,← h.keys.length_eq,List.length_map]
def Srt (T:List Nd):Prop:=T.Pairwise (fun x y=>O x.p y.p=-1)
theorem ordL_le_antisymm {a b:List UInt8} (h:ordL a b≠1) (g:ordL b a≠1):a=b:=by
 have h1:=ordL_anti a b
 rcases ordL_range a b with e | e | e
 · rw [e] at h1;exact absurd h1 g
 · exact ordL_zero a b e
 · exact absurd e h
theorem Srt.only {T:List Nd} (h:Srt T) {ts:List (List UInt8)} (hp:ts.Perm (T.map Nd.by)) (ha:ts.Pairwise (fun x y=>ordL x y≠1)):ts=T.map Nd.by:=by
 refine List.Perm.eq_of_pairwise (le:=fun x y=>ordL x y≠1) (fun a b _ _ h1 h2=>ordL_le_antisymm h1 h2) ha ?_ hp
 refine List.pairwise_map.2 (h.imp (fun {x y} hxy e=>?_))
 rw [O_list] at hxy
 rw [hxy] at e
 cases e
theorem Srt.filter {T:List Nd} (h:Srt T) (f:Nd→Bool):Srt (T.filter f):=List.Pairwise.filter _ h
def Sml (T:List Nd):Prop:=∀ x∈T,x.p.size≤1000∧x.d.size≤1000
theorem Rep.wf {D:DataW Value} {T:List Nd} (h:Rep D T) (hs:Sml T):WF D:=fun l hl=>by
 obtain ⟨x,hx,rfl⟩:=List.mem_map.1 (h.keys.mem_iff.2 hl)
 have e:(⟨(Nd.by x).toArray⟩:ByteArray)=x.p:=ByteArray.ext (by simp [Nd.by])
 refine ⟨?_,x.p,x.d,x.v,x.m,x.c,x.o,x.k,by rw [e];exact h.look x hx,(hs x hx).1,(hs x hx).2⟩
 show (Nd.by x).length≤1000
 rw [Array.length_toList]
 exact (hs x hx).1
theorem filter_keys {D:DataW Value} {T:List Nd} (h:Rep D T) (f:List UInt8→Bool):((strKeys D).filter f).Perm ((T.filter (fun x=>f x.by)).map Nd.by):=by
 have h1:=(h.keys.filter f).symm
 rw [List.filter_map] at h1
 exact h1
end Go.Proofs.YtckmihplkhmpnaaGreatDoor
namespace Go.Proofs.YtckmihplkhmpnaaGreatDoor
open Go.RowKit Go.Maps Go.WideShapes
set_option linter.unusedVariables false
set_option linter.unusedSimpArgs false
theorem str_ne {a b:ByteArray} (h:a≠b):(a.toList != b.toList)=true:=by
 cases hb:(a.toList != b.toList) with
 | true=>rfl
 | false =>
   exfalso
   have h1:a.toList=b.toList:=by simpa using hb
   rw [ByteArray.toList_eq,ByteArray.toList_eq] at h1
   exact h (ByteArray.ext (Array.ext' h1))
theorem str_eq (a:ByteArray):(a.toList != a.toList)=false:=by simp
def kidP (at':ByteArray) (x:Nd):Bool:=wF 2 at' x.by && decide (x.p≠at')
def kidsM (T:List Nd) (at':ByteArray):List ByteArray:=(T.filter (kidP at')).map (fun x=>lastN x.p)
def knN (at':ByteArray) (l:List Nd):List ByteArray:=(l.filter (fun y=>decide (y.p≠at'))).map (fun x=>lastN x.p)
theorem kids_snoc (at':ByteArray) (l:List Nd) (x:Nd):knN at' (l ++ [x])=knN at' l ++ (if x.p=at' then [] else [lastN x.p]):=by
 unfold knN
 rw [List.filter_append,List.map_append]
 by_cases h:x.p=at' <;> simp [h]
set_option maxHeartbeats 4000000 in
set_option maxRecDepth 100000 in
theorem kids_any (b n:Nat) (D:DataW Value) (T:List Nd) (at':ByteArray) (w:World) (hg:Ground w) (hm:MapAt w b n D) (hr:Rep D T) (hs:Srt T) (hl:Sml T) (hn:T.length≤1000) :
  Calls Tryz.prog 90 #[.map (some b),.string at'] w fun e w'=>∃ v,e=.returned v∧w'.ownsRow w.heap.size 9 1 v (kidsM T at').length ((kidsM T at').map Value.string)∧Below w.heap.size w w':=by
 obtain ⟨i0,hi,hz0,hz1,hz2⟩:=info_parts Tryz.infoT
 have HWA:Hid _:=watched_any sorts_to sorts_nil b n D 2 at' w hg hm (fun l hl'=>(hr.wf hl l hl').1) (by rw [hr.size];omega)
 have HF:Hid ((T.filter (fun x=>wF 2 at' x.by)).length≤1000):=Nat.le_trans (List.length_filter_le _ _) hn
 obtain ⟨U,hU⟩:∃ U,T.filter (fun x=>wF 2 at' x.by)=U:=⟨_,rfl⟩
 have HK:Hid (kidsM T at'=knN at' U):=by
  unfold kidsM kidP knN
  rw [← hU,List.filter_filter]
  congr 2
  funext x
  rw [Bool.and_comm]
 have HO:Hid (∀ ts:List (List UInt8),ts.Perm ((strKeys D).filter (wF 2 at'))→ts.Pairwise (fun x y=>ordL x y≠1)→ts=U.map Nd.by):=fun ts h1 h2=>by
  have h3:=(hs.filter (fun x=>wF 2 at' x.by)).only (h1.trans (filter_keys hr (wF 2 at'))) h2
  rw [hU] at h3
  exact h3
 rw [hU] at HF
 have HG:Hid _:=hg
 have HNM:Hid (∀ p W,Ground W→_):=fun p W h=>name_any p W h
 rw [HK.out]
 clear hg hm hr hs hl hn hU HK
 go_enter Tryz.func90,Tryz.ntmps90
 go_wp2_with fail
 refine Calls.mono HWA.out ?_
 rintro e w1 ⟨a,c,ts,rfl,hp,ha,hrow,hb1⟩
 obtain rfl:=HO.out ts hp ha
 have HR1:Hid (w1.ownsRow w.heap.size 9 1 (.slice a (U.map Nd.by).length c) (U.map Nd.by).length ((U.map Nd.by).map encStr)):=hrow
 have HB1:Hid (Below w.heap.size w w1):=hb1
 obtain ⟨N,hN⟩:∃ N,(U.map Nd.by).length=N:=⟨_,rfl⟩
 have HN:Hid (U.length=N):=by rw [← hN,List.length_map];rfl
 have hN1:N≤1000:=by have:=HF.out;have:=HN.out;omega
 rw [hN] at HR1 ⊢
 clear hp ha hrow hb1 hN HO HWA HF
 go_wp2_with fail
 go_loopw [5,14] (fun v i wr=>∃ q:Nat,i=.int .i64 q∧q≤N∧Hid (wr.ownsRow w1.heap.size 9 1 v (knN at' (U.take q)).length ((knN at' (U.take q)).map Value.string))∧Hid (Below w1.heap.size w1 wr)) (fun _ i _=>N - (intOf i).toNat)
 case atStart=>exact ⟨0,rfl,Nat.zero_le _,World.ownsRow_nil _ _ _ _,Below.refl _ _⟩
 case round =>
  obtain ⟨q,rfl,hq,HO,HB⟩:=hrel
  by_cases hlt:q<N
  · have hqi:(q:Int)<(N:Int):=by omega
    obtain ⟨x,hx⟩:∃ x,U[q]? = some x:=⟨U[q]'(by rw [HN.out];exact hlt),List.getElem?_eq_getElem _⟩
    obtain ⟨g,cap,hv,_⟩:=HR1.out.form (by omega)
    simp only [Value.slice.injEq] at hv
    obtain ⟨rfl,_,rfl⟩:=hv
    have hgl:g<w1.heap.size:=(HR1.out.lt g rfl).2
    have hcq:wr.cell? ⟨g,q,none⟩=some (.string x.p):=by
     rw [HB.out.cell (p:=⟨g,q,none⟩) hgl,HR1.out.cellAt q (by omega),List.getElem?_map,List.getElem?_map,hx]
     show some (Value.string ⟨(Nd.by x).toArray⟩)=_
     congr 2
    have HT:Hid (U.take (q+1)=U.take q ++ [x]):=by show _=_;rw [List.take_add_one,hx];rfl
    have HLL:Hid ((knN at' (U.take q)).length≤1000):=by
     show (knN at' (U.take q)).length≤_
     unfold knN
     rw [List.length_map]
     refine Nat.le_trans (List.length_filter_le _ _) ?_
     rw [List.length_take]
     omega
    clear hx
    by_cases hpe:x.p=at'
    · have hc1:(x.p.toList != at'.toList)=false:=by rw [hpe];exact str_eq _
      have hc2:(x.p.toList==at'.toList)=true:=by rw [hpe];simp
      have HS:Hid ((knN at' (U.take q ++ [x]))=(knN at' (U.take q))):=by show _=_;rw [kids_snoc,if_pos hpe,List.append_nil]
      clear hpe
      go_wp2_with fail
      exact ⟨⟨q+1,by go_num,by omega,by show World.ownsRow _ _ _ _ _ _ _;rw [HT.out,HS.out];exact HO.out,HB⟩,by simp [intOf];omega⟩
    · have hc1:(x.p.toList != at'.toList)=true:=str_ne hpe
      have hc2:(x.p.toList==at'.toList)=false:=by have:=str_ne hpe;simpa [bne] using this
      have HS:Hid ((knN at' (U.take q ++ [x]))=(knN at' (U.take q)) ++ [lastN x.p]):=by show _=_;rw [kids_snoc,if_neg hpe]
      clear hpe
      obtain ⟨L,hL⟩:∃ L,(knN at' (U.take q))=L:=⟨_,rfl⟩
      rw [hL] at HO HLL HS
      clear hL
      go_wp2_with fail
      refine Calls.mono (HNM.out x.p wr (HG.out.below (trans2 HB1.out HB.out))) ?_
      rintro e w3 ⟨rfl,hb3⟩
      have HB3:Hid (Below w1.heap.size w1 w3):=trans2 HB.out hb3
      have HR3:Hid (w3.ownsRow w1.heap.size 9 1 u5 L.length (L.map Value.string)):=owns_chg HO.out (Chg.of_below hb3 (fun _=>False)) (fun _ _=>id)
      have hs3:=HB3.out.size
      clear hb3
      go_wp2_with (first
       | (at_builtin;refine wpList_append_own _ rfl _ _ 70 rfl w1.heap.size 9 i0 (.string ⟨#[]⟩) 1 16 Tryz.underlying70 hi hz0 hz1 hz2 rfl (by decide) _ _ _ rfl (World.ownsRow.alloc HR3.out _) ⟨w3.heap.size,0,none⟩ 1 1 [.string (lastN x.p)] rfl rfl (cell_one_new _ _ _) (by simp [Value.oneCell']) (by have:=HLL.out;unfold maxLen;omega) (by have:=HLL.out;omega) (by simp;omega) ?_;intro v' w4 hown4 hg4 hnil4;go_frame)
       | fail)
      go_roundw
      case rel =>
       refine ⟨q+1,by go_num,by omega,?_,?_⟩
       · show World.ownsRow _ _ _ _ _ _ _
         rw [HT.out,HS.out]
         simpa using hown4
       · exact (HB3.out.alloc hs3 _).grown hg4 (by simp;omega) (fun j hj=>(HR3.out.lt j hj).1)
      case measure=>simp [intOf];omega
  · obtain rfl:q=N:=by omega
    have hge:¬ (q:Int)<(q:Int):=by omega
    go_wp2_with fail
    go_ret
    have h9:=HO.out
    rw [List.take_of_length_le (by rw [HN.out];exact Nat.le_refl _)] at h9
    refine ⟨_,rfl,?_,trans2 HB1.out HB.out⟩
    exact ⟨h9.1,h9.2.imp id (fun ⟨g,cap,cur,h1,h2,r⟩=>⟨g,cap,cur,h1,Nat.le_trans HB1.out.size h2,r⟩)⟩
end Go.Proofs.YtckmihplkhmpnaaGreatDoor
namespace Go.Proofs.YtckmihplkhmpnaaGreatDoor
open Go.RowKit Go.Maps Go.WideShapes
set_option linter.unusedVariables false
set_option linter.unusedSimpArgs false
attribute [local go_sem ↓] Go.wp_at_zero Go.wp_at_succ
abbrev resV (p d:ByteArray) (v m c o:Int) (k:Value):Value:=.agg #[.string p,.string d,.int .i64 v,.int .i64 m,.int .i64 c,.int .i64 o,k]
set_option maxHeartbeats 16000000 in
set_option maxRecDepth 100000 in
theorem read_any (base rb mb n:Nat) (D:DataW Value) (T:List Nd) (s st:Int) (chV:Value) (cn:Nat) (cs:List Value) (q:Int) (p d:ByteArray) (v m c o k:Int) (w:World) (hg:Ground w)
  (hR:ReqAt w base rb mb n D s st chV cn cs) (hr:Rep D T) (hs:Srt T) (hl:Sml T) (hn:T.length≤1000) (h1:p.size≤1000) (h2:d.size≤1000) :
  Calls Tryz.prog 65 #[.pointer (some ⟨rb,0,none⟩),.int .i64 q,fuV p d v m c o k] w fun e w'=>∃ kv,e=.returned (resV p (if q=5 then d else ⟨#[]⟩) v m c o kv)∧w'.ownsRow w.heap.size 9 1 kv (if q=7 then kidsM T p else []).length ((if q=7 then kidsM T p else []).map Value.string)∧Below w.heap.size w w':=by
 have HRE:Hid _:=result_any p d v m c o k (by omega)
 have HSC:Hid _:=sclone_any d (by omega)
 have HR:Hid _:=hR
 have hrl:=hR.lt.1
 have HKI:Hid (∀ W,Below w.heap.size w W→_):=fun W hb=>kids_any mb n D T p W (hg.below hb) (hR.below hb).map hr hs hl hn
 clear hR hg hr hs hl hn
 obtain ⟨W1,hW1⟩:∃ x,(w.alloc (.cells #[.string p,.string d,.int .i64 v,.int .i64 m,.int .i64 c,.int .i64 o,.int .i64 k] 27)).alloc (.cells #[.string ⟨#[]⟩,.string ⟨#[]⟩,.int .i64 0,.int .i64 0,.int .i64 0,.int .i64 0,.slice none 0 0] 103)=x:=⟨_,rfl⟩
 obtain ⟨nb,hnb⟩:∃ nb,w.heap.size=nb:=⟨_,rfl⟩
 obtain ⟨zb,hzb⟩:∃ zb,w.heap.size+1=zb:=⟨_,rfl⟩
 have HB1:Hid (Below w.heap.size w W1):=by rw [← hW1];exact ((Below.refl _ _).alloc (Nat.le_refl _) _).alloc (by simp) _
 have HN1:Hid (W1.heap[nb]? = some (.cells #[.string p,.string d,.int .i64 v,.int .i64 m,.int .i64 c,.int .i64 o,.int .i64 k] 27 (0,0))):=by rw [← hW1,← hnb];exact heap_alloc2_old _ _ _
 have HZ1:Hid (W1.heap[zb]? = some (.cells #[.string ⟨#[]⟩,.string ⟨#[]⟩,.int .i64 0,.int .i64 0,.int .i64 0,.int .i64 0,.slice none 0 0] 103 (0,0))):=by rw [← hW1,← hzb];exact heap_alloc2_new _ _ _
 have HW1:Hid _:=hW1
 have HNB:Hid (w.heap.size=nb):=hnb
 have HZB:Hid (w.heap.size+1=zb):=hzb
 have hnbl:w.heap.size≤nb:=by omega
 have hzbl:w.heap.size≤zb:=by omega
 have hnz:nb<zb:=by omega
 clear hW1 hnb hzb
 go_enter Tryz.func65,Tryz.ntmps65
 go_upto_region 1 with fail
 rw [HW1.out,HZB.out,HNB.out]
 obtain ⟨a0,a1,a2,a3,a4,a5,a6⟩:=cells_7 HN1.out
 go_wp2_with fail
 refine (HRE.out _).mono ?_
 rintro e w2 ⟨rfl,hb2⟩
 have HB2:Hid (Below w.heap.size w w2):=trans2 HB1.out hb2
 have HN2:Hid _:=kept_block hb2 HN1.out
 have HZ2:Hid _:=kept_block hb2 HZ1.out
 have hzl2:zb<w2.heap.size:=(Array.getElem?_eq_some_iff.1 HZ2.out).1
 clear hb2 a0 a1 a2 a3 a4 a5 a6
 go_upto_region 2 with fail
 obtain ⟨w3,hw3⟩:∃ x,w2.alloc (.cells #[.string p,.string ⟨#[]⟩,.int .i64 v,.int .i64 m,.int .i64 c,.int .i64 o,.slice none 0 0] 103)=x:=⟨_,rfl⟩
 obtain ⟨yb,hyb⟩:∃ yb,w2.heap.size=yb:=⟨_,rfl⟩
 rw [hw3,hyb]
 have HY3:Hid (w3.heap[yb]? = some (.cells #[.string p,.string ⟨#[]⟩,.int .i64 v,.int .i64 m,.int .i64 c,.int .i64 o,.slice none 0 0] 103 (0,0))):=by rw [← hw3,← hyb];exact heap_alloc_new _ _
 have HB3:Hid (Below w.heap.size w w3):=by rw [← hw3];exact HB2.out.alloc HB2.out.size _
 have HN3:Hid _:=new_old HN2.out (.cells #[.string p,.string ⟨#[]⟩,.int .i64 v,.int .i64 m,.int .i64 c,.int .i64 o,.slice none 0 0] 103)
 have HZ3:Hid _:=new_old HZ2.out (.cells #[.string p,.string ⟨#[]⟩,.int .i64 v,.int .i64 m,.int .i64 c,.int .i64 o,.slice none 0 0] 103)
 rw [hw3] at HN3 HZ3
 have hyl:zb<yb:=by omega
 clear hw3 hyb
 obtain ⟨a0,a1,a2,a3,a4,a5,a6⟩:=cells_7 HN3.out
 obtain ⟨y0,y1,y2,y3,y4,y5,y6⟩:=cells_7 HY3.out
 have hfy:=free_7 HY3.out
 by_cases hq5:q=5
 · subst hq5
   go_wp2_with fail
   refine (HSC.out _).mono ?_
   rintro e w4 ⟨rfl,hb4⟩
   have HB4:Hid (Below w.heap.size w w4):=trans2 HB3.out hb4
   have HY4:Hid _:=kept_block hb4 HY3.out
   have HZ4:Hid _:=kept_block hb4 HZ3.out
   clear hb4 a0 a1 a2 a3 a4 a5 a6 y0 y1 y2 y3 y4 y5 y6 hfy
   obtain ⟨y0,y1,y2,y3,y4,y5,y6⟩:=cells_7 HY4.out
   have hfy:=free_7 HY4.out
   go_upto_region 7 with fail
   obtain ⟨w5,hw5⟩:∃ x,w4.setCell ⟨yb,1,none⟩ (.string d)=x:=⟨_,rfl⟩
   rw [hw5]
   have HY5:Hid (w5.heap[yb]? = some (.cells #[.string p,.string d,.int .i64 v,.int .i64 m,.int .i64 c,.int .i64 o,.slice none 0 0] 103 (0,0))):=by rw [← hw5];exact same_blk HY4.out rfl
   have HZ5:Hid _:=other_blk HZ4.out (show zb≠yb by omega) (i:=1) (v:=.string d)
   rw [hw5] at HZ5
   have HB5:Hid (Below w.heap.size w w5):=by rw [← hw5];exact HB4.out.setCell (by show w.heap.size≤yb;omega) _
   clear hw5 y0 y1 y2 y3 y4 y5 y6 hfy
   obtain ⟨y0,y1,y2,y3,y4,y5,y6⟩:=cells_7 HY5.out
   obtain ⟨b0,b1,b2,b3,b4,b5,b6⟩:=cells_7 HZ5.out
   have hfz:=free_7 HZ5.out
   go_wp2_with fail
   exact bodyPost_ret (results_cell1 rfl _ _ zb 103 _ (0,0) _ rfl (fill_7 HZ5.out) Tryz.underlying103 rfl (by kernel_rfl)) rfl ⟨_,rfl,World.ownsRow_nil _ _ _ _,fillB_7 HB5.out (by omega)⟩
 · have hd5:(q==5)=false:=by simpa using hq5
   by_cases hq7:q=7
   · subst hq7
     go_upto_region 6 with fail
     have r2:=(cells_4 (HR.out.below HB3.out).box).2.2.1
     have HKJ:Hid _:=HKI.out w3.drew (below_drew HB3.out)
     have qyr:rb≠yb:=by omega
     have qyn:nb≠yb:=by omega
     go_region_held3 (fun w'=>w'.cell? ⟨rb,2,none⟩=some (.map (some mb))∧w'.cell? ⟨nb,0,none⟩=some (.string p)) (first | (simp only [World.cell?_drew,r2,a0,and_self]) | (simp only [cellN qyr,cellN qyn,r2,a0,and_self]) | go_keep)
      (first
        | (go_at_call 90;refine Calls.mono HKJ.out ?_;rintro e w4 ⟨kv,rfl,hrow,hb4'⟩
           have hb4:=of_drew hb4'
           have HB4:Hid (Below w.heap.size w w4):=trans2 HB3.out hb4
           have HY4:Hid _:=kept_block hb4 HY3.out
           have HZ4:Hid _:=kept_block hb4 HZ3.out
           have HN4:Hid _:=kept_block hb4 HN3.out
           have HRW:Hid (w4.ownsRow w3.heap.size 9 1 kv (kidsM T p).length ((kidsM T p).map Value.string)):=hrow
           obtain ⟨ka,kn,kc,rfl⟩:∃ a n c,kv=.slice a n c:=by
            rcases hrow.2 with ⟨rfl,_⟩ | ⟨g,cap,cur,rfl,_⟩
            · exact ⟨_,_,_,rfl⟩
            · exact ⟨_,_,_,rfl⟩
           clear hb4 hb4' hrow a0 a1 a2 a3 a4 a5 a6 y0 y1 y2 y3 y4 y5 y6 hfy r2
           obtain ⟨a0,a1,a2,a3,a4,a5,a6⟩:=cells_7 HN4.out
           obtain ⟨y0,y1,y2,y3,y4,y5,y6⟩:=cells_7 HY4.out
           have hfy:=free_7 HY4.out
           have r2:=(cells_4 (HR.out.below HB4.out).box).2.2.1))
     go_upto_region 7 with fail
     obtain ⟨w5,hw5⟩:∃ x,w4.setCell ⟨yb,6,none⟩ (.slice ka kn kc)=x:=⟨_,rfl⟩
     rw [hw5]
     have HY5:Hid (w5.heap[yb]? = some (.cells #[.string p,.string ⟨#[]⟩,.int .i64 v,.int .i64 m,.int .i64 c,.int .i64 o,.slice ka kn kc] 103 (0,0))):=by rw [← hw5];exact same_blk HY4.out rfl
     have HZ5:Hid _:=other_blk HZ4.out (show zb≠yb by omega) (i:=6) (v:=.slice ka kn kc)
     rw [hw5] at HZ5
     have HB5:Hid (Below w.heap.size w w5):=by rw [← hw5];exact HB4.out.setCell (by show w.heap.size≤yb;omega) _
     have HR5:Hid (w5.ownsRow w.heap.size 9 1 (.slice ka kn kc) (kidsM T p).length ((kidsM T p).map Value.string)):=by
      have h9:=HRW.out
      have h8:w5.ownsRow w3.heap.size 9 1 (.slice ka kn kc) (kidsM T p).length ((kidsM T p).map Value.string):=by
       rw [← hw5]
       refine owns_same h9 (fun j hj=>Below.heap_setCell _ _ _ j (fun e=>?_))
       have e':j=yb:=e
       subst e'
       have h7:=(h9.lt _ hj).1
       have h6:=(Array.getElem?_eq_some_iff.1 HY3.out).1
       omega
      exact ⟨h8.1,h8.2.imp id (fun ⟨g,cap,cur,h1,h2,r⟩=>⟨g,cap,cur,h1,Nat.le_trans HB3.out.size h2,r⟩)⟩
     clear hw5 y0 y1 y2 y3 y4 y5 y6 hfy a0 a1 a2 a3 a4 a5 a6 r2
     obtain ⟨y0,y1,y2,y3,y4,y5,y6⟩:=cells_7 HY5.out
     obtain ⟨b0,b1,b2,b3,b4,b5,b6⟩:=cells_7 HZ5.out
     have hfz:=free_7 HZ5.out
     go_wp2_with fail
     refine bodyPost_ret (results_cell1 rfl _ _ zb 103 _ (0,0) _ rfl (fill_7 HZ5.out) Tryz.underlying103 rfl (by kernel_rfl)) rfl ⟨.slice ka kn kc,rfl,?_,fillB_7 HB5.out (by omega)⟩
     refine owns_chg HR5.out putC_7 (fun j hj e=>?_)
     have e':j=zb:=e
     subst e'
     obtain ⟨cur,hcur⟩:=owns_kind HR5.out hj
     rw [HZ5.out] at hcur
     simp at hcur
   · have hd7:(q==7)=false:=by simpa using hq7
     go_upto_region 7 with fail
     obtain ⟨b0,b1,b2,b3,b4,b5,b6⟩:=cells_7 HZ3.out
     have hfz:=free_7 HZ3.out
     go_wp2_with fail
     refine bodyPost_ret (results_cell1 rfl _ _ zb 103 _ (0,0) _ rfl (fill_7 HZ3.out) Tryz.underlying103 rfl (by kernel_rfl)) rfl ⟨.slice none 0 0,?_,?_,fillB_7 HB3.out (by omega)⟩
     · rfl
     · exact World.ownsRow_nil _ _ _ _
end Go.Proofs.YtckmihplkhmpnaaGreatDoor
namespace Go.Proofs.YtckmihplkhmpnaaGreatDoor
open Go.RowKit Go.Maps Go.WideShapes
set_option linter.unusedVariables false
set_option linter.unusedSimpArgs false
attribute [local go_sem ↓] Go.wp_at_zero Go.wp_at_succ
def misC (k ov nv:Int) (kids:List ByteArray):Int :=
 if (k=2∨k=3∨k=4)∧ov≠-1∧ov≠nv then 42 else
 if k=3∧kids≠[] then 43 else
 if k=2∧2147483647≤nv then 46 else 0
set_option maxHeartbeats 8000000 in
set_option maxRecDepth 100000 in
theorem mis_2m (base rb mb n:Nat) (D:DataW Value) (T:List Nd) (s st:Int) (chV:Value) (cn:Nat) (cs:List Value) (p d:ByteArray) (f:Int) (np nd:ByteArray) (nv nm nc no nk:Int) (w:World) (hg:GroundT w)
  (hR:ReqAt w base rb mb n D s st chV cn cs) (hr:Rep D T) (hs:Srt T) (hl:Sml T) (hn:T.length≤1000) (h3:nv<2147483647) :
  Calls Tryz.prog 63 #[.pointer (some ⟨rb,0,none⟩),opV 2 p d (-1) f,fuV np nd nv nm nc no nk] w fun e w'=>e=.returned (.int .i64 0)∧Below w.heap.size w w':=by
 have n0:=hg.need 2 0 false rfl
 have n1:=hg.need 2 1 false rfl
 have n2:=hg.need 2 2 true rfl
 have n3:=hg.need 2 3 true rfl
 have n4:=hg.need 2 4 false rfl
 have n5:=hg.need 2 5 true rfl
 simp only [Nat.reduceMul,Nat.reduceAdd] at n0 n1 n2 n3 n4 n5
 have hlt:=hg.needLt
 have HR:Hid _:=hR
 have hrl:=hR.lt.1
 have e1:((-1:Int)==-1)=true:=rfl
 have e2:((-1:Int) != -1)=false:=rfl
 have h4:¬ (2147483647:Int)≤nv:=by omega
 clear hg hR hr hs hl hn
 go_enter Tryz.func63,Tryz.ntmps63
 go_upto_region 4 with fail
 obtain ⟨w3,hw3⟩:∃ x,((w.alloc (.cells #[.int .i64 2,.string p,.string d,.int .i64 (-1),.int .i64 f] 66)).alloc (.cells #[.string np,.string nd,.int .i64 nv,.int .i64 nm,.int .i64 nc,.int .i64 no,.int .i64 nk] 27)).alloc (.cells #[.bool false,.bool false,.bool true,.bool true,.bool false,.bool true] 132)=x:=⟨_,rfl⟩
 obtain ⟨ob,hob⟩:∃ x,w.heap.size=x:=⟨_,rfl⟩
 rw [hw3]
 have HB3:Hid (Below w.heap.size w w3):=by rw [← hw3];exact (((Below.refl _ _).alloc (Nat.le_refl _) _).alloc (by simp) _).alloc (by simp;omega) _
 have HF3:Hid (w3.heap[w.heap.size+1]? = some (.cells #[.string np,.string nd,.int .i64 nv,.int .i64 nm,.int .i64 nc,.int .i64 no,.int .i64 nk] 27 (0,0))):=by rw [← hw3];exact new_old (heap_alloc2_new _ _ _) _
 have HE3:Hid (w3.heap[w.heap.size+1+1]? = some (.cells #[.bool false,.bool false,.bool true,.bool true,.bool false,.bool true] 132 (0,0))):=by rw [← hw3];exact alloc3_new _ _ _ _
 clear hw3 hob n0 n1 n2 n3 n4 n5 hlt
 obtain ⟨a0,a1,a2,a3,a4,a5,a6⟩:=cells_7 HF3.out
 obtain ⟨m0,m1,m2,m3,m4,m5⟩:=cells_6 HE3.out
 go_region
 go_wp2_with fail
 go_ret
 exact ⟨rfl,below_drewN HB3.out _⟩
set_option maxHeartbeats 8000000 in
set_option maxRecDepth 100000 in
theorem mis_2mn (base rb mb n:Nat) (D:DataW Value) (T:List Nd) (s st:Int) (chV:Value) (cn:Nat) (cs:List Value) (p d:ByteArray) (f:Int) (np nd:ByteArray) (nv nm nc no nk:Int) (w:World) (hg:GroundT w)
  (hR:ReqAt w base rb mb n D s st chV cn cs) (hr:Rep D T) (hs:Srt T) (hl:Sml T) (hn:T.length≤1000) (h3:2147483647≤nv) :
  Calls Tryz.prog 63 #[.pointer (some ⟨rb,0,none⟩),opV 2 p d (-1) f,fuV np nd nv nm nc no nk] w fun e w'=>e=.returned (.int .i64 46)∧Below w.heap.size w w':=by
 have n0:=hg.need 2 0 false rfl
 have n1:=hg.need 2 1 false rfl
 have n2:=hg.need 2 2 true rfl
 have n3:=hg.need 2 3 true rfl
 have n4:=hg.need 2 4 false rfl
 have n5:=hg.need 2 5 true rfl
 simp only [Nat.reduceMul,Nat.reduceAdd] at n0 n1 n2 n3 n4 n5
 have hlt:=hg.needLt
 have HR:Hid _:=hR
 have hrl:=hR.lt.1
 have e1:((-1:Int)==-1)=true:=rfl
 have e2:((-1:Int) != -1)=false:=rfl
 have h4:(2147483647:Int)≤nv:=by omega
 clear hg hR hr hs hl hn
 go_enter Tryz.func63,Tryz.ntmps63
 go_upto_region 4 with fail
 obtain ⟨w3,hw3⟩:∃ x,((w.alloc (.cells #[.int .i64 2,.string p,.string d,.int .i64 (-1),.int .i64 f] 66)).alloc (.cells #[.string np,.string nd,.int .i64 nv,.int .i64 nm,.int .i64 nc,.int .i64 no,.int .i64 nk] 27)).alloc (.cells #[.bool false,.bool false,.bool true,.bool true,.bool false,.bool true] 132)=x:=⟨_,rfl⟩
 obtain ⟨ob,hob⟩:∃ x,w.heap.size=x:=⟨_,rfl⟩
 rw [hw3]
 have HB3:Hid (Below w.heap.size w w3):=by rw [← hw3];exact (((Below.refl _ _).alloc (Nat.le_refl _) _).alloc (by simp) _).alloc (by simp;omega) _
 have HF3:Hid (w3.heap[w.heap.size+1]? = some (.cells #[.string np,.string nd,.int .i64 nv,.int .i64 nm,.int .i64 nc,.int .i64 no,.int .i64 nk] 27 (0,0))):=by rw [← hw3];exact new_old (heap_alloc2_new _ _ _) _
 have HE3:Hid (w3.heap[w.heap.size+1+1]? = some (.cells #[.bool false,.bool false,.bool true,.bool true,.bool false,.bool true] 132 (0,0))):=by rw [← hw3];exact alloc3_new _ _ _ _
 clear hw3 hob n0 n1 n2 n3 n4 n5 hlt
 obtain ⟨a0,a1,a2,a3,a4,a5,a6⟩:=cells_7 HF3.out
 obtain ⟨m0,m1,m2,m3,m4,m5⟩:=cells_6 HE3.out
 go_region
 go_wp2_with fail
 go_ret
 exact ⟨rfl,below_drewN HB3.out _⟩
set_option maxHeartbeats 8000000 in
set_option maxRecDepth 100000 in
theorem mis_2e (base rb mb n:Nat) (D:DataW Value) (T:List Nd) (s st:Int) (chV:Value) (cn:Nat) (cs:List Value) (p d:ByteArray) (f:Int) (np nd:ByteArray) (nv nm nc no nk:Int) (w:World) (hg:GroundT w)
  (hR:ReqAt w base rb mb n D s st chV cn cs) (hr:Rep D T) (hs:Srt T) (hl:Sml T) (hn:T.length≤1000) (h1:nv≠-1) (h3:nv<2147483647) :
  Calls Tryz.prog 63 #[.pointer (some ⟨rb,0,none⟩),opV 2 p d nv f,fuV np nd nv nm nc no nk] w fun e w'=>e=.returned (.int .i64 0)∧Below w.heap.size w w':=by
 have n0:=hg.need 2 0 false rfl
 have n1:=hg.need 2 1 false rfl
 have n2:=hg.need 2 2 true rfl
 have n3:=hg.need 2 3 true rfl
 have n4:=hg.need 2 4 false rfl
 have n5:=hg.need 2 5 true rfl
 simp only [Nat.reduceMul,Nat.reduceAdd] at n0 n1 n2 n3 n4 n5
 have hlt:=hg.needLt
 have HR:Hid _:=hR
 have hrl:=hR.lt.1
 have e1:(nv==-1)=false:=by simpa using h1
 have e2:(nv != -1)=true:=by simpa using h1
 have e3:(nv==nv)=true:=by simp
 have e4:(nv != nv)=false:=by simp
 have h4:¬ (2147483647:Int)≤nv:=by omega
 clear hg hR hr hs hl hn
 go_enter Tryz.func63,Tryz.ntmps63
 go_upto_region 4 with fail
 obtain ⟨w3,hw3⟩:∃ x,((w.alloc (.cells #[.int .i64 2,.string p,.string d,.int .i64 nv,.int .i64 f] 66)).alloc (.cells #[.string np,.string nd,.int .i64 nv,.int .i64 nm,.int .i64 nc,.int .i64 no,.int .i64 nk] 27)).alloc (.cells #[.bool false,.bool false,.bool true,.bool true,.bool false,.bool true] 132)=x:=⟨_,rfl⟩
 obtain ⟨ob,hob⟩:∃ x,w.heap.size=x:=⟨_,rfl⟩
 rw [hw3]
 have HB3:Hid (Below w.heap.size w w3):=by rw [← hw3];exact (((Below.refl _ _).alloc (Nat.le_refl _) _).alloc (by simp) _).alloc (by simp;omega) _
 have HF3:Hid (w3.heap[w.heap.size+1]? = some (.cells #[.string np,.string nd,.int .i64 nv,.int .i64 nm,.int .i64 nc,.int .i64 no,.int .i64 nk] 27 (0,0))):=by rw [← hw3];exact new_old (heap_alloc2_new _ _ _) _
 have HE3:Hid (w3.heap[w.heap.size+1+1]? = some (.cells #[.bool false,.bool false,.bool true,.bool true,.bool false,.bool true] 132 (0,0))):=by rw [← hw3];exact alloc3_new _ _ _ _
 clear hw3 hob n0 n1 n2 n3 n4 n5 hlt
 obtain ⟨a0,a1,a2,a3,a4,a5,a6⟩:=cells_7 HF3.out
 obtain ⟨m0,m1,m2,m3,m4,m5⟩:=cells_6 HE3.out
 go_region
 go_wp2_with fail
 go_ret
 exact ⟨rfl,below_drewN HB3.out _⟩
set_option maxHeartbeats 8000000 in
set_option maxRecDepth 100000 in
theorem mis_2en (base rb mb n:Nat) (D:DataW Value) (T:List Nd) (s st:Int) (chV:Value) (cn:Nat) (cs:List Value) (p d:ByteArray) (f:Int) (np nd:ByteArray) (nv nm nc no nk:Int) (w:World) (hg:GroundT w)
  (hR:ReqAt w base rb mb n D s st chV cn cs) (hr:Rep D T) (hs:Srt T) (hl:Sml T) (hn:T.length≤1000) (h1:nv≠-1) (h3:2147483647≤nv) :
  Calls Tryz.prog 63 #[.pointer (some ⟨rb,0,none⟩),opV 2 p d nv f,fuV np nd nv nm nc no nk] w fun e w'=>e=.returned (.int .i64 46)∧Below w.heap.size w w':=by
 have n0:=hg.need 2 0 false rfl
 have n1:=hg.need 2 1 false rfl
 have n2:=hg.need 2 2 true rfl
 have n3:=hg.need 2 3 true rfl
 have n4:=hg.need 2 4 false rfl
 have n5:=hg.need 2 5 true rfl
 simp only [Nat.reduceMul,Nat.reduceAdd] at n0 n1 n2 n3 n4 n5
 have hlt:=hg.needLt
 have HR:Hid _:=hR
 have hrl:=hR.lt.1
 have e1:(nv==-1)=false:=by simpa using h1
 have e2:(nv != -1)=true:=by simpa using h1
 have e3:(nv==nv)=true:=by simp
 have e4:(nv != nv)=false:=by simp
 have h4:(2147483647:Int)≤nv:=by omega
 clear hg hR hr hs hl hn
 go_enter Tryz.func63,Tryz.ntmps63
 go_upto_region 4 with fail
 obtain ⟨w3,hw3⟩:∃ x,((w.alloc (.cells #[.int .i64 2,.string p,.string d,.int .i64 nv,.int .i64 f] 66)).alloc (.cells #[.string np,.string nd,.int .i64 nv,.int .i64 nm,.int .i64 nc,.int .i64 no,.int .i64 nk] 27)).alloc (.cells #[.bool false,.bool false,.bool true,.bool true,.bool false,.bool true] 132)=x:=⟨_,rfl⟩
 obtain ⟨ob,hob⟩:∃ x,w.heap.size=x:=⟨_,rfl⟩
 rw [hw3]
 have HB3:Hid (Below w.heap.size w w3):=by rw [← hw3];exact (((Below.refl _ _).alloc (Nat.le_refl _) _).alloc (by simp) _).alloc (by simp;omega) _
 have HF3:Hid (w3.heap[w.heap.size+1]? = some (.cells #[.string np,.string nd,.int .i64 nv,.int .i64 nm,.int .i64 nc,.int .i64 no,.int .i64 nk] 27 (0,0))):=by rw [← hw3];exact new_old (heap_alloc2_new _ _ _) _
 have HE3:Hid (w3.heap[w.heap.size+1+1]? = some (.cells #[.bool false,.bool false,.bool true,.bool true,.bool false,.bool true] 132 (0,0))):=by rw [← hw3];exact alloc3_new _ _ _ _
 clear hw3 hob n0 n1 n2 n3 n4 n5 hlt
 obtain ⟨a0,a1,a2,a3,a4,a5,a6⟩:=cells_7 HF3.out
 obtain ⟨m0,m1,m2,m3,m4,m5⟩:=cells_6 HE3.out
 go_region
 go_wp2_with fail
 go_ret
 exact ⟨rfl,below_drewN HB3.out _⟩
set_option maxHeartbeats 8000000 in
set_option maxRecDepth 100000 in
theorem mis_2x (base rb mb n:Nat) (D:DataW Value) (T:List Nd) (s st:Int) (chV:Value) (cn:Nat) (cs:List Value) (p d:ByteArray) (ov f:Int) (np nd:ByteArray) (nv nm nc no nk:Int) (w:World) (hg:GroundT w)
  (hR:ReqAt w base rb mb n D s st chV cn cs) (hr:Rep D T) (hs:Srt T) (hl:Sml T) (hn:T.length≤1000) (h1:ov≠-1) (h2:ov≠nv) :
  Calls Tryz.prog 63 #[.pointer (some ⟨rb,0,none⟩),opV 2 p d ov f,fuV np nd nv nm nc no nk] w fun e w'=>e=.returned (.int .i64 42)∧Below w.heap.size w w':=by
 have n0:=hg.need 2 0 false rfl
 have n1:=hg.need 2 1 false rfl
 have n2:=hg.need 2 2 true rfl
 have n3:=hg.need 2 3 true rfl
 have n4:=hg.need 2 4 false rfl
 have n5:=hg.need 2 5 true rfl
 simp only [Nat.reduceMul,Nat.reduceAdd] at n0 n1 n2 n3 n4 n5
 have hlt:=hg.needLt
 have HR:Hid _:=hR
 have hrl:=hR.lt.1
 have e1:(ov==-1)=false:=by simpa using h1
 have e2:(ov != -1)=true:=by simpa using h1
 have e3:(ov==nv)=false:=by simpa using h2
 have e4:(ov != nv)=true:=by simpa using h2
 clear hg hR hr hs hl hn
 go_enter Tryz.func63,Tryz.ntmps63
 go_wp2_with fail
 go_ret
 exact ⟨rfl,(((Below.refl _ _).alloc (Nat.le_refl _) _).alloc (by simp) _).alloc (by simp;omega) _⟩
set_option maxHeartbeats 8000000 in
set_option maxRecDepth 100000 in
theorem mis_3m (base rb mb n:Nat) (D:DataW Value) (T:List Nd) (s st:Int) (chV:Value) (cn:Nat) (cs:List Value) (p d:ByteArray) (f:Int) (np nd:ByteArray) (nv nm nc no nk:Int) (w:World) (hg:GroundT w)
  (hR:ReqAt w base rb mb n D s st chV cn cs) (hr:Rep D T) (hs:Srt T) (hl:Sml T) (hn:T.length≤1000) (h3:kidsM T np=[]) :
  Calls Tryz.prog 63 #[.pointer (some ⟨rb,0,none⟩),opV 3 p d (-1) f,fuV np nd nv nm nc no nk] w fun e w'=>e=.returned (.int .i64 0)∧Below w.heap.size w w':=by
 have n0:=hg.need 3 0 false rfl
 have n1:=hg.need 3 1 true rfl
 have n2:=hg.need 3 2 false rfl
 have n3:=hg.need 3 3 true rfl
 have n4:=hg.need 3 4 true rfl
 have n5:=hg.need 3 5 false rfl
 simp only [Nat.reduceMul,Nat.reduceAdd] at n0 n1 n2 n3 n4 n5
 have hlt:=hg.needLt
 have HR:Hid _:=hR
 have hrl:=hR.lt.1
 have e1:((-1:Int)==-1)=true:=rfl
 have e2:((-1:Int) != -1)=false:=rfl
 have HKI:Hid (∀ W,Below w.heap.size w W→_):=fun W hb=>kids_any mb n D T np W (hg.toGround.below hb) (hR.below hb).map hr hs hl hn
 obtain ⟨KL,hKL⟩:∃ KL,kidsM T np=KL:=⟨_,rfl⟩
 rw [hKL] at HKI h3
 have hk0:KL.length=0:=by simpa using h3
 clear hKL h3
 clear hg hR hr hs hl hn
 go_enter Tryz.func63,Tryz.ntmps63
 go_upto_region 4 with fail
 obtain ⟨w3,hw3⟩:∃ x,((w.alloc (.cells #[.int .i64 3,.string p,.string d,.int .i64 (-1),.int .i64 f] 66)).alloc (.cells #[.string np,.string nd,.int .i64 nv,.int .i64 nm,.int .i64 nc,.int .i64 no,.int .i64 nk] 27)).alloc (.cells #[.bool false,.bool true,.bool false,.bool true,.bool true,.bool false] 132)=x:=⟨_,rfl⟩
 obtain ⟨ob,hob⟩:∃ x,w.heap.size=x:=⟨_,rfl⟩
 rw [hw3]
 have HB3:Hid (Below w.heap.size w w3):=by rw [← hw3];exact (((Below.refl _ _).alloc (Nat.le_refl _) _).alloc (by simp) _).alloc (by simp;omega) _
 have HF3:Hid (w3.heap[w.heap.size+1]? = some (.cells #[.string np,.string nd,.int .i64 nv,.int .i64 nm,.int .i64 nc,.int .i64 no,.int .i64 nk] 27 (0,0))):=by rw [← hw3];exact new_old (heap_alloc2_new _ _ _) _
 have HE3:Hid (w3.heap[w.heap.size+1+1]? = some (.cells #[.bool false,.bool true,.bool false,.bool true,.bool true,.bool false] 132 (0,0))):=by rw [← hw3];exact alloc3_new _ _ _ _
 clear hw3 hob n0 n1 n2 n3 n4 n5 hlt
 obtain ⟨a0,a1,a2,a3,a4,a5,a6⟩:=cells_7 HF3.out
 obtain ⟨m0,m1,m2,m3,m4,m5⟩:=cells_6 HE3.out
 have r2:=(cells_4 (HR.out.below HB3.out).box).2.2.1
 have HKJ:Hid _:=HKI.out w3.drew (below_drew HB3.out)
 have hdl:decide ((0:Int)<(KL.length:Int))=false:=decide_eq_false (by omega)
 have hdi:¬ (0:Int)<(KL.length:Int):=by omega
 go_region_held3 (fun w'=>w'.cell? ⟨w.heap.size+1+1,4,none⟩=some (.bool true)∧w'.cell? ⟨rb,2,none⟩=some (.map (some mb))∧w'.cell? ⟨w.heap.size+1,0,none⟩=some (.string np)) (first | (simp only [World.cell?_drew,r2,a0,m4,and_self]) | go_keep)
  (first
    | (go_at_call 90;refine Calls.mono HKJ.out ?_;rintro e w4 ⟨kv,rfl,hrow,hb4'⟩
       have hb4:=of_drew hb4'
       have HB4:Hid (Below w.heap.size w w4):=trans2 HB3.out hb4
       have HF4:Hid _:=kept_block hb4 HF3.out
       have HE4:Hid _:=kept_block hb4 HE3.out
       obtain ⟨ka,kc,rfl⟩:∃ a c,kv=.slice a KL.length c:=by
        rcases hrow.2 with ⟨rfl,h0⟩ | ⟨g,cap,cur,rfl,_⟩
        · exact ⟨_,_,by rw [h0]⟩
        · exact ⟨_,_,rfl⟩
       clear hb4 hb4' hrow a0 a1 a2 a3 a4 a5 a6 m0 m1 m2 m3 m4 m5 r2
       obtain ⟨a0,a1,a2,a3,a4,a5,a6⟩:=cells_7 HF4.out
       obtain ⟨m0,m1,m2,m3,m4,m5⟩:=cells_6 HE4.out
       have r2:=(cells_4 (HR.out.below HB4.out).box).2.2.1))
 go_wp2_with fail
 go_ret
 exact ⟨rfl,HB4.out⟩
set_option maxHeartbeats 8000000 in
set_option maxRecDepth 100000 in
theorem mis_3mn (base rb mb n:Nat) (D:DataW Value) (T:List Nd) (s st:Int) (chV:Value) (cn:Nat) (cs:List Value) (p d:ByteArray) (f:Int) (np nd:ByteArray) (nv nm nc no nk:Int) (w:World) (hg:GroundT w)
  (hR:ReqAt w base rb mb n D s st chV cn cs) (hr:Rep D T) (hs:Srt T) (hl:Sml T) (hn:T.length≤1000) (h3:kidsM T np≠[]) :
  Calls Tryz.prog 63 #[.pointer (some ⟨rb,0,none⟩),opV 3 p d (-1) f,fuV np nd nv nm nc no nk] w fun e w'=>e=.returned (.int .i64 43)∧Below w.heap.size w w':=by
 have n0:=hg.need 3 0 false rfl
 have n1:=hg.need 3 1 true rfl
 have n2:=hg.need 3 2 false rfl
 have n3:=hg.need 3 3 true rfl
 have n4:=hg.need 3 4 true rfl
 have n5:=hg.need 3 5 false rfl
 simp only [Nat.reduceMul,Nat.reduceAdd] at n0 n1 n2 n3 n4 n5
 have hlt:=hg.needLt
 have HR:Hid _:=hR
 have hrl:=hR.lt.1
 have e1:((-1:Int)==-1)=true:=rfl
 have e2:((-1:Int) != -1)=false:=rfl
 have HKI:Hid (∀ W,Below w.heap.size w W→_):=fun W hb=>kids_any mb n D T np W (hg.toGround.below hb) (hR.below hb).map hr hs hl hn
 obtain ⟨KL,hKL⟩:∃ KL,kidsM T np=KL:=⟨_,rfl⟩
 rw [hKL] at HKI h3
 have hk0:KL.length≠0:=by simpa using h3
 clear hKL h3
 clear hg hR hr hs hl hn
 go_enter Tryz.func63,Tryz.ntmps63
 go_upto_region 4 with fail
 obtain ⟨w3,hw3⟩:∃ x,((w.alloc (.cells #[.int .i64 3,.string p,.string d,.int .i64 (-1),.int .i64 f] 66)).alloc (.cells #[.string np,.string nd,.int .i64 nv,.int .i64 nm,.int .i64 nc,.int .i64 no,.int .i64 nk] 27)).alloc (.cells #[.bool false,.bool true,.bool false,.bool true,.bool true,.bool false] 132)=x:=⟨_,rfl⟩
 obtain ⟨ob,hob⟩:∃ x,w.heap.size=x:=⟨_,rfl⟩
 rw [hw3]
 have HB3:Hid (Below w.heap.size w w3):=by rw [← hw3];exact (((Below.refl _ _).alloc (Nat.le_refl _) _).alloc (by simp) _).alloc (by simp;omega) _
 have HF3:Hid (w3.heap[w.heap.size+1]? = some (.cells #[.string np,.string nd,.int .i64 nv,.int .i64 nm,.int .i64 nc,.int .i64 no,.int .i64 nk] 27 (0,0))):=by rw [← hw3];exact new_old (heap_alloc2_new _ _ _) _
 have HE3:Hid (w3.heap[w.heap.size+1+1]? = some (.cells #[.bool false,.bool true,.bool false,.bool true,.bool true,.bool false] 132 (0,0))):=by rw [← hw3];exact alloc3_new _ _ _ _
 clear hw3 hob n0 n1 n2 n3 n4 n5 hlt
 obtain ⟨a0,a1,a2,a3,a4,a5,a6⟩:=cells_7 HF3.out
 obtain ⟨m0,m1,m2,m3,m4,m5⟩:=cells_6 HE3.out
 have r2:=(cells_4 (HR.out.below HB3.out).box).2.2.1
 have HKJ:Hid _:=HKI.out w3.drew (below_drew HB3.out)
 have hdl:decide ((0:Int)<(KL.length:Int))=true:=decide_eq_true (by omega)
 have hdi:(0:Int)<(KL.length:Int):=by omega
 go_region_held3 (fun w'=>w'.cell? ⟨w.heap.size+1+1,4,none⟩=some (.bool true)∧w'.cell? ⟨rb,2,none⟩=some (.map (some mb))∧w'.cell? ⟨w.heap.size+1,0,none⟩=some (.string np)) (first | (simp only [World.cell?_drew,r2,a0,m4,and_self]) | go_keep)
  (first
    | (go_at_call 90;refine Calls.mono HKJ.out ?_;rintro e w4 ⟨kv,rfl,hrow,hb4'⟩
       have hb4:=of_drew hb4'
       have HB4:Hid (Below w.heap.size w w4):=trans2 HB3.out hb4
       have HF4:Hid _:=kept_block hb4 HF3.out
       have HE4:Hid _:=kept_block hb4 HE3.out
       obtain ⟨ka,kc,rfl⟩:∃ a c,kv=.slice a KL.length c:=by
        rcases hrow.2 with ⟨rfl,h0⟩ | ⟨g,cap,cur,rfl,_⟩
        · exact ⟨_,_,by rw [h0]⟩
        · exact ⟨_,_,rfl⟩
       clear hb4 hb4' hrow a0 a1 a2 a3 a4 a5 a6 m0 m1 m2 m3 m4 m5 r2
       obtain ⟨a0,a1,a2,a3,a4,a5,a6⟩:=cells_7 HF4.out
       obtain ⟨m0,m1,m2,m3,m4,m5⟩:=cells_6 HE4.out
       have r2:=(cells_4 (HR.out.below HB4.out).box).2.2.1))
 go_wp2_with fail
 go_ret
 exact ⟨rfl,HB4.out⟩
set_option maxHeartbeats 8000000 in
set_option maxRecDepth 100000 in
theorem mis_3e (base rb mb n:Nat) (D:DataW Value) (T:List Nd) (s st:Int) (chV:Value) (cn:Nat) (cs:List Value) (p d:ByteArray) (f:Int) (np nd:ByteArray) (nv nm nc no nk:Int) (w:World) (hg:GroundT w)
  (hR:ReqAt w base rb mb n D s st chV cn cs) (hr:Rep D T) (hs:Srt T) (hl:Sml T) (hn:T.length≤1000) (h1:nv≠-1) (h3:kidsM T np=[]) :
  Calls Tryz.prog 63 #[.pointer (some ⟨rb,0,none⟩),opV 3 p d nv f,fuV np nd nv nm nc no nk] w fun e w'=>e=.returned (.int .i64 0)∧Below w.heap.size w w':=by
 have n0:=hg.need 3 0 false rfl
 have n1:=hg.need 3 1 true rfl
 have n2:=hg.need 3 2 false rfl
 have n3:=hg.need 3 3 true rfl
 have n4:=hg.need 3 4 true rfl
 have n5:=hg.need 3 5 false rfl
 simp only [Nat.reduceMul,Nat.reduceAdd] at n0 n1 n2 n3 n4 n5
 have hlt:=hg.needLt
 have HR:Hid _:=hR
 have hrl:=hR.lt.1
 have e1:(nv==-1)=false:=by simpa using h1
 have e2:(nv != -1)=true:=by simpa using h1
 have e3:(nv==nv)=true:=by simp
 have e4:(nv != nv)=false:=by simp
 have HKI:Hid (∀ W,Below w.heap.size w W→_):=fun W hb=>kids_any mb n D T np W (hg.toGround.below hb) (hR.below hb).map hr hs hl hn
 obtain ⟨KL,hKL⟩:∃ KL,kidsM T np=KL:=⟨_,rfl⟩
 rw [hKL] at HKI h3
 have hk0:KL.length=0:=by simpa using h3
 clear hKL h3
 clear hg hR hr hs hl hn
 go_enter Tryz.func63,Tryz.ntmps63
 go_upto_region 4 with fail
 obtain ⟨w3,hw3⟩:∃ x,((w.alloc (.cells #[.int .i64 3,.string p,.string d,.int .i64 nv,.int .i64 f] 66)).alloc (.cells #[.string np,.string nd,.int .i64 nv,.int .i64 nm,.int .i64 nc,.int .i64 no,.int .i64 nk] 27)).alloc (.cells #[.bool false,.bool true,.bool false,.bool true,.bool true,.bool false] 132)=x:=⟨_,rfl⟩
 obtain ⟨ob,hob⟩:∃ x,w.heap.size=x:=⟨_,rfl⟩
 rw [hw3]
 have HB3:Hid (Below w.heap.size w w3):=by rw [← hw3];exact (((Below.refl _ _).alloc (Nat.le_refl _) _).alloc (by simp) _).alloc (by simp;omega) _
 have HF3:Hid (w3.heap[w.heap.size+1]? = some (.cells #[.string np,.string nd,.int .i64 nv,.int .i64 nm,.int .i64 nc,.int .i64 no,.int .i64 nk] 27 (0,0))):=by rw [← hw3];exact new_old (heap_alloc2_new _ _ _) _
 have HE3:Hid (w3.heap[w.heap.size+1+1]? = some (.cells #[.bool false,.bool true,.bool false,.bool true,.bool true,.bool false] 132 (0,0))):=by rw [← hw3];exact alloc3_new _ _ _ _
 clear hw3 hob n0 n1 n2 n3 n4 n5 hlt
 obtain ⟨a0,a1,a2,a3,a4,a5,a6⟩:=cells_7 HF3.out
 obtain ⟨m0,m1,m2,m3,m4,m5⟩:=cells_6 HE3.out
 have r2:=(cells_4 (HR.out.below HB3.out).box).2.2.1
 have HKJ:Hid _:=HKI.out w3.drew (below_drew HB3.out)
 have hdl:decide ((0:Int)<(KL.length:Int))=false:=decide_eq_false (by omega)
 have hdi:¬ (0:Int)<(KL.length:Int):=by omega
 go_region_held3 (fun w'=>w'.cell? ⟨w.heap.size+1+1,4,none⟩=some (.bool true)∧w'.cell? ⟨rb,2,none⟩=some (.map (some mb))∧w'.cell? ⟨w.heap.size+1,0,none⟩=some (.string np)) (first | (simp only [World.cell?_drew,r2,a0,m4,and_self]) | go_keep)
  (first
    | (go_at_call 90;refine Calls.mono HKJ.out ?_;rintro e w4 ⟨kv,rfl,hrow,hb4'⟩
       have hb4:=of_drew hb4'
       have HB4:Hid (Below w.heap.size w w4):=trans2 HB3.out hb4
       have HF4:Hid _:=kept_block hb4 HF3.out
       have HE4:Hid _:=kept_block hb4 HE3.out
       obtain ⟨ka,kc,rfl⟩:∃ a c,kv=.slice a KL.length c:=by
        rcases hrow.2 with ⟨rfl,h0⟩ | ⟨g,cap,cur,rfl,_⟩
        · exact ⟨_,_,by rw [h0]⟩
        · exact ⟨_,_,rfl⟩
       clear hb4 hb4' hrow a0 a1 a2 a3 a4 a5 a6 m0 m1 m2 m3 m4 m5 r2
       obtain ⟨a0,a1,a2,a3,a4,a5,a6⟩:=cells_7 HF4.out
       obtain ⟨m0,m1,m2,m3,m4,m5⟩:=cells_6 HE4.out
       have r2:=(cells_4 (HR.out.below HB4.out).box).2.2.1))
 go_wp2_with fail
 go_ret
 exact ⟨rfl,HB4.out⟩
set_option maxHeartbeats 8000000 in
set_option maxRecDepth 100000 in
theorem mis_3en (base rb mb n:Nat) (D:DataW Value) (T:List Nd) (s st:Int) (chV:Value) (cn:Nat) (cs:List Value) (p d:ByteArray) (f:Int) (np nd:ByteArray) (nv nm nc no nk:Int) (w:World) (hg:GroundT w)
  (hR:ReqAt w base rb mb n D s st chV cn cs) (hr:Rep D T) (hs:Srt T) (hl:Sml T) (hn:T.length≤1000) (h1:nv≠-1) (h3:kidsM T np≠[]) :
  Calls Tryz.prog 63 #[.pointer (some ⟨rb,0,none⟩),opV 3 p d nv f,fuV np nd nv nm nc no nk] w fun e w'=>e=.returned (.int .i64 43)∧Below w.heap.size w w':=by
 have n0:=hg.need 3 0 false rfl
 have n1:=hg.need 3 1 true rfl
 have n2:=hg.need 3 2 false rfl
 have n3:=hg.need 3 3 true rfl
 have n4:=hg.need 3 4 true rfl
 have n5:=hg.need 3 5 false rfl
 simp only [Nat.reduceMul,Nat.reduceAdd] at n0 n1 n2 n3 n4 n5
 have hlt:=hg.needLt
 have HR:Hid _:=hR
 have hrl:=hR.lt.1
 have e1:(nv==-1)=false:=by simpa using h1
 have e2:(nv != -1)=true:=by simpa using h1
 have e3:(nv==nv)=true:=by simp
 have e4:(nv != nv)=false:=by simp
 have HKI:Hid (∀ W,Below w.heap.size w W→_):=fun W hb=>kids_any mb n D T np W (hg.toGround.below hb) (hR.below hb).map hr hs hl hn
 obtain ⟨KL,hKL⟩:∃ KL,kidsM T np=KL:=⟨_,rfl⟩
 rw [hKL] at HKI h3
 have hk0:KL.length≠0:=by simpa using h3
 clear hKL h3
 clear hg hR hr hs hl hn
 go_enter Tryz.func63,Tryz.ntmps63
 go_upto_region 4 with fail
 obtain ⟨w3,hw3⟩:∃ x,((w.alloc (.cells #[.int .i64 3,.string p,.string d,.int .i64 nv,.int .i64 f] 66)).alloc (.cells #[.string np,.string nd,.int .i64 nv,.int .i64 nm,.int .i64 nc,.int .i64 no,.int .i64 nk] 27)).alloc (.cells #[.bool false,.bool true,.bool false,.bool true,.bool true,.bool false] 132)=x:=⟨_,rfl⟩
 obtain ⟨ob,hob⟩:∃ x,w.heap.size=x:=⟨_,rfl⟩
 rw [hw3]
 have HB3:Hid (Below w.heap.size w w3):=by rw [← hw3];exact (((Below.refl _ _).alloc (Nat.le_refl _) _).alloc (by simp) _).alloc (by simp;omega) _
 have HF3:Hid (w3.heap[w.heap.size+1]? = some (.cells #[.string np,.string nd,.int .i64 nv,.int .i64 nm,.int .i64 nc,.int .i64 no,.int .i64 nk] 27 (0,0))):=by rw [← hw3];exact new_old (heap_alloc2_new _ _ _) _
 have HE3:Hid (w3.heap[w.heap.size+1+1]? = some (.cells #[.bool false,.bool true,.bool false,.bool true,.bool true,.bool false] 132 (0,0))):=by rw [← hw3];exact alloc3_new _ _ _ _
 clear hw3 hob n0 n1 n2 n3 n4 n5 hlt
 obtain ⟨a0,a1,a2,a3,a4,a5,a6⟩:=cells_7 HF3.out
 obtain ⟨m0,m1,m2,m3,m4,m5⟩:=cells_6 HE3.out
 have r2:=(cells_4 (HR.out.below HB3.out).box).2.2.1
 have HKJ:Hid _:=HKI.out w3.drew (below_drew HB3.out)
 have hdl:decide ((0:Int)<(KL.length:Int))=true:=decide_eq_true (by omega)
 have hdi:(0:Int)<(KL.length:Int):=by omega
 go_region_held3 (fun w'=>w'.cell? ⟨w.heap.size+1+1,4,none⟩=some (.bool true)∧w'.cell? ⟨rb,2,none⟩=some (.map (some mb))∧w'.cell? ⟨w.heap.size+1,0,none⟩=some (.string np)) (first | (simp only [World.cell?_drew,r2,a0,m4,and_self]) | go_keep)
  (first
    | (go_at_call 90;refine Calls.mono HKJ.out ?_;rintro e w4 ⟨kv,rfl,hrow,hb4'⟩
       have hb4:=of_drew hb4'
       have HB4:Hid (Below w.heap.size w w4):=trans2 HB3.out hb4
       have HF4:Hid _:=kept_block hb4 HF3.out
       have HE4:Hid _:=kept_block hb4 HE3.out
       obtain ⟨ka,kc,rfl⟩:∃ a c,kv=.slice a KL.length c:=by
        rcases hrow.2 with ⟨rfl,h0⟩ | ⟨g,cap,cur,rfl,_⟩
        · exact ⟨_,_,by rw [h0]⟩
        · exact ⟨_,_,rfl⟩
       clear hb4 hb4' hrow a0 a1 a2 a3 a4 a5 a6 m0 m1 m2 m3 m4 m5 r2
       obtain ⟨a0,a1,a2,a3,a4,a5,a6⟩:=cells_7 HF4.out
       obtain ⟨m0,m1,m2,m3,m4,m5⟩:=cells_6 HE4.out
       have r2:=(cells_4 (HR.out.below HB4.out).box).2.2.1))
 go_wp2_with fail
 go_ret
 exact ⟨rfl,HB4.out⟩
set_option maxHeartbeats 8000000 in
set_option maxRecDepth 100000 in
theorem mis_3x (base rb mb n:Nat) (D:DataW Value) (T:List Nd) (s st:Int) (chV:Value) (cn:Nat) (cs:List Value) (p d:ByteArray) (ov f:Int) (np nd:ByteArray) (nv nm nc no nk:Int) (w:World) (hg:GroundT w)
  (hR:ReqAt w base rb mb n D s st chV cn cs) (hr:Rep D T) (hs:Srt T) (hl:Sml T) (hn:T.length≤1000) (h1:ov≠-1) (h2:ov≠nv) :
  Calls Tryz.prog 63 #[.pointer (some ⟨rb,0,none⟩),opV 3 p d ov f,fuV np nd nv nm nc no nk] w fun e w'=>e=.returned (.int .i64 42)∧Below w.heap.size w w':=by
 have n0:=hg.need 3 0 false rfl
 have n1:=hg.need 3 1 true rfl
 have n2:=hg.need 3 2 false rfl
 have n3:=hg.need 3 3 true rfl
 have n4:=hg.need 3 4 true rfl
 have n5:=hg.need 3 5 false rfl
 simp only [Nat.reduceMul,Nat.reduceAdd] at n0 n1 n2 n3 n4 n5
 have hlt:=hg.needLt
 have HR:Hid _:=hR
 have hrl:=hR.lt.1
 have e1:(ov==-1)=false:=by simpa using h1
 have e2:(ov != -1)=true:=by simpa using h1
 have e3:(ov==nv)=false:=by simpa using h2
 have e4:(ov != nv)=true:=by simpa using h2
 clear hg hR hr hs hl hn
 go_enter Tryz.func63,Tryz.ntmps63
 go_wp2_with fail
 go_ret
 exact ⟨rfl,(((Below.refl _ _).alloc (Nat.le_refl _) _).alloc (by simp) _).alloc (by simp;omega) _⟩
set_option maxHeartbeats 8000000 in
set_option maxRecDepth 100000 in
theorem mis_4m (base rb mb n:Nat) (D:DataW Value) (T:List Nd) (s st:Int) (chV:Value) (cn:Nat) (cs:List Value) (p d:ByteArray) (f:Int) (np nd:ByteArray) (nv nm nc no nk:Int) (w:World) (hg:GroundT w)
  (hR:ReqAt w base rb mb n D s st chV cn cs) (hr:Rep D T) (hs:Srt T) (hl:Sml T) (hn:T.length≤1000) :
  Calls Tryz.prog 63 #[.pointer (some ⟨rb,0,none⟩),opV 4 p d (-1) f,fuV np nd nv nm nc no nk] w fun e w'=>e=.returned (.int .i64 0)∧Below w.heap.size w w':=by
 have n0:=hg.need 4 0 false rfl
 have n1:=hg.need 4 1 false rfl
 have n2:=hg.need 4 2 false rfl
 have n3:=hg.need 4 3 true rfl
 have n4:=hg.need 4 4 false rfl
 have n5:=hg.need 4 5 false rfl
 simp only [Nat.reduceMul,Nat.reduceAdd] at n0 n1 n2 n3 n4 n5
 have hlt:=hg.needLt
 have HR:Hid _:=hR
 have hrl:=hR.lt.1
 have e1:((-1:Int)==-1)=true:=rfl
 have e2:((-1:Int) != -1)=false:=rfl
 clear hg hR hr hs hl hn
 go_enter Tryz.func63,Tryz.ntmps63
 go_upto_region 4 with fail
 obtain ⟨w3,hw3⟩:∃ x,((w.alloc (.cells #[.int .i64 4,.string p,.string d,.int .i64 (-1),.int .i64 f] 66)).alloc (.cells #[.string np,.string nd,.int .i64 nv,.int .i64 nm,.int .i64 nc,.int .i64 no,.int .i64 nk] 27)).alloc (.cells #[.bool false,.bool false,.bool false,.bool true,.bool false,.bool false] 132)=x:=⟨_,rfl⟩
 obtain ⟨ob,hob⟩:∃ x,w.heap.size=x:=⟨_,rfl⟩
 rw [hw3]
 have HB3:Hid (Below w.heap.size w w3):=by rw [← hw3];exact (((Below.refl _ _).alloc (Nat.le_refl _) _).alloc (by simp) _).alloc (by simp;omega) _
 have HF3:Hid (w3.heap[w.heap.size+1]? = some (.cells #[.string np,.string nd,.int .i64 nv,.int .i64 nm,.int .i64 nc,.int .i64 no,.int .i64 nk] 27 (0,0))):=by rw [← hw3];exact new_old (heap_alloc2_new _ _ _) _
 have HE3:Hid (w3.heap[w.heap.size+1+1]? = some (.cells #[.bool false,.bool false,.bool false,.bool true,.bool false,.bool false] 132 (0,0))):=by rw [← hw3];exact alloc3_new _ _ _ _
 clear hw3 hob n0 n1 n2 n3 n4 n5 hlt
 obtain ⟨a0,a1,a2,a3,a4,a5,a6⟩:=cells_7 HF3.out
 obtain ⟨m0,m1,m2,m3,m4,m5⟩:=cells_6 HE3.out
 go_region
 go_wp2_with fail
 go_ret
 exact ⟨rfl,below_drewN HB3.out _⟩
set_option maxHeartbeats 8000000 in
set_option maxRecDepth 100000 in
theorem mis_4e (base rb mb n:Nat) (D:DataW Value) (T:List Nd) (s st:Int) (chV:Value) (cn:Nat) (cs:List Value) (p d:ByteArray) (f:Int) (np nd:ByteArray) (nv nm nc no nk:Int) (w:World) (hg:GroundT w)
  (hR:ReqAt w base rb mb n D s st chV cn cs) (hr:Rep D T) (hs:Srt T) (hl:Sml T) (hn:T.length≤1000) (h1:nv≠-1) :
  Calls Tryz.prog 63 #[.pointer (some ⟨rb,0,none⟩),opV 4 p d nv f,fuV np nd nv nm nc no nk] w fun e w'=>e=.returned (.int .i64 0)∧Below w.heap.size w w':=by
 have n0:=hg.need 4 0 false rfl
 have n1:=hg.need 4 1 false rfl
 have n2:=hg.need 4 2 false rfl
 have n3:=hg.need 4 3 true rfl
 have n4:=hg.need 4 4 false rfl
 have n5:=hg.need 4 5 false rfl
 simp only [Nat.reduceMul,Nat.reduceAdd] at n0 n1 n2 n3 n4 n5
 have hlt:=hg.needLt
 have HR:Hid _:=hR
 have hrl:=hR.lt.1
 have e1:(nv==-1)=false:=by simpa using h1
 have e2:(nv != -1)=true:=by simpa using h1
 have e3:(nv==nv)=true:=by simp
 have e4:(nv != nv)=false:=by simp
 clear hg hR hr hs hl hn
 go_enter Tryz.func63,Tryz.ntmps63
 go_upto_region 4 with fail
 obtain ⟨w3,hw3⟩:∃ x,((w.alloc (.cells #[.int .i64 4,.string p,.string d,.int .i64 nv,.int .i64 f] 66)).alloc (.cells #[.string np,.string nd,.int .i64 nv,.int .i64 nm,.int .i64 nc,.int .i64 no,.int .i64 nk] 27)).alloc (.cells #[.bool false,.bool false,.bool false,.bool true,.bool false,.bool false] 132)=x:=⟨_,rfl⟩
 obtain ⟨ob,hob⟩:∃ x,w.heap.size=x:=⟨_,rfl⟩
 rw [hw3]
 have HB3:Hid (Below w.heap.size w w3):=by rw [← hw3];exact (((Below.refl _ _).alloc (Nat.le_refl _) _).alloc (by simp) _).alloc (by simp;omega) _
 have HF3:Hid (w3.heap[w.heap.size+1]? = some (.cells #[.string np,.string nd,.int .i64 nv,.int .i64 nm,.int .i64 nc,.int .i64 no,.int .i64 nk] 27 (0,0))):=by rw [← hw3];exact new_old (heap_alloc2_new _ _ _) _
 have HE3:Hid (w3.heap[w.heap.size+1+1]? = some (.cells #[.bool false,.bool false,.bool false,.bool true,.bool false,.bool false] 132 (0,0))):=by rw [← hw3];exact alloc3_new _ _ _ _
 clear hw3 hob n0 n1 n2 n3 n4 n5 hlt
 obtain ⟨a0,a1,a2,a3,a4,a5,a6⟩:=cells_7 HF3.out
 obtain ⟨m0,m1,m2,m3,m4,m5⟩:=cells_6 HE3.out
 go_region
 go_wp2_with fail
 go_ret
 exact ⟨rfl,below_drewN HB3.out _⟩
set_option maxHeartbeats 8000000 in
set_option maxRecDepth 100000 in
theorem mis_4x (base rb mb n:Nat) (D:DataW Value) (T:List Nd) (s st:Int) (chV:Value) (cn:Nat) (cs:List Value) (p d:ByteArray) (ov f:Int) (np nd:ByteArray) (nv nm nc no nk:Int) (w:World) (hg:GroundT w)
  (hR:ReqAt w base rb mb n D s st chV cn cs) (hr:Rep D T) (hs:Srt T) (hl:Sml T) (hn:T.length≤1000) (h1:ov≠-1) (h2:ov≠nv) :
  Calls Tryz.prog 63 #[.pointer (some ⟨rb,0,none⟩),opV 4 p d ov f,fuV np nd nv nm nc no nk] w fun e w'=>e=.returned (.int .i64 42)∧Below w.heap.size w w':=by
 have n0:=hg.need 4 0 false rfl
 have n1:=hg.need 4 1 false rfl
 have n2:=hg.need 4 2 false rfl
 have n3:=hg.need 4 3 true rfl
 have n4:=hg.need 4 4 false rfl
 have n5:=hg.need 4 5 false rfl
 simp only [Nat.reduceMul,Nat.reduceAdd] at n0 n1 n2 n3 n4 n5
 have hlt:=hg.needLt
 have HR:Hid _:=hR
 have hrl:=hR.lt.1
 have e1:(ov==-1)=false:=by simpa using h1
 have e2:(ov != -1)=true:=by simpa using h1
 have e3:(ov==nv)=false:=by simpa using h2
 have e4:(ov != nv)=true:=by simpa using h2
 clear hg hR hr hs hl hn
 go_enter Tryz.func63,Tryz.ntmps63
 go_wp2_with fail
 go_ret
 exact ⟨rfl,(((Below.refl _ _).alloc (Nat.le_refl _) _).alloc (by simp) _).alloc (by simp;omega) _⟩
set_option maxHeartbeats 8000000 in
set_option maxRecDepth 100000 in
theorem mis_5a (base rb mb n:Nat) (D:DataW Value) (T:List Nd) (s st:Int) (chV:Value) (cn:Nat) (cs:List Value) (p d:ByteArray) (ov f:Int) (np nd:ByteArray) (nv nm nc no nk:Int) (w:World) (hg:GroundT w)
  (hR:ReqAt w base rb mb n D s st chV cn cs) (hr:Rep D T) (hs:Srt T) (hl:Sml T) (hn:T.length≤1000) :
  Calls Tryz.prog 63 #[.pointer (some ⟨rb,0,none⟩),opV 5 p d ov f,fuV np nd nv nm nc no nk] w fun e w'=>e=.returned (.int .i64 0)∧Below w.heap.size w w':=by
 have n0:=hg.need 5 0 false rfl
 have n1:=hg.need 5 1 false rfl
 have n2:=hg.need 5 2 false rfl
 have n3:=hg.need 5 3 false rfl
 have n4:=hg.need 5 4 false rfl
 have n5:=hg.need 5 5 false rfl
 simp only [Nat.reduceMul,Nat.reduceAdd] at n0 n1 n2 n3 n4 n5
 have hlt:=hg.needLt
 have HR:Hid _:=hR
 have hrl:=hR.lt.1
 clear hg hR hr hs hl hn
 go_enter Tryz.func63,Tryz.ntmps63
 go_upto_region 4 with fail
 obtain ⟨w3,hw3⟩:∃ x,((w.alloc (.cells #[.int .i64 5,.string p,.string d,.int .i64 ov,.int .i64 f] 66)).alloc (.cells #[.string np,.string nd,.int .i64 nv,.int .i64 nm,.int .i64 nc,.int .i64 no,.int .i64 nk] 27)).alloc (.cells #[.bool false,.bool false,.bool false,.bool false,.bool false,.bool false] 132)=x:=⟨_,rfl⟩
 obtain ⟨ob,hob⟩:∃ x,w.heap.size=x:=⟨_,rfl⟩
 rw [hw3]
 have HB3:Hid (Below w.heap.size w w3):=by rw [← hw3];exact (((Below.refl _ _).alloc (Nat.le_refl _) _).alloc (by simp) _).alloc (by simp;omega) _
 have HF3:Hid (w3.heap[w.heap.size+1]? = some (.cells #[.string np,.string nd,.int .i64 nv,.int .i64 nm,.int .i64 nc,.int .i64 no,.int .i64 nk] 27 (0,0))):=by rw [← hw3];exact new_old (heap_alloc2_new _ _ _) _
 have HE3:Hid (w3.heap[w.heap.size+1+1]? = some (.cells #[.bool false,.bool false,.bool false,.bool false,.bool false,.bool false] 132 (0,0))):=by rw [← hw3];exact alloc3_new _ _ _ _
 clear hw3 hob n0 n1 n2 n3 n4 n5 hlt
 obtain ⟨a0,a1,a2,a3,a4,a5,a6⟩:=cells_7 HF3.out
 obtain ⟨m0,m1,m2,m3,m4,m5⟩:=cells_6 HE3.out
 go_region
 go_wp2_with fail
 go_ret
 exact ⟨rfl,below_drewN HB3.out _⟩
set_option maxHeartbeats 8000000 in
set_option maxRecDepth 100000 in
theorem mis_6a (base rb mb n:Nat) (D:DataW Value) (T:List Nd) (s st:Int) (chV:Value) (cn:Nat) (cs:List Value) (p d:ByteArray) (ov f:Int) (np nd:ByteArray) (nv nm nc no nk:Int) (w:World) (hg:GroundT w)
  (hR:ReqAt w base rb mb n D s st chV cn cs) (hr:Rep D T) (hs:Srt T) (hl:Sml T) (hn:T.length≤1000) :
  Calls Tryz.prog 63 #[.pointer (some ⟨rb,0,none⟩),opV 6 p d ov f,fuV np nd nv nm nc no nk] w fun e w'=>e=.returned (.int .i64 0)∧Below w.heap.size w w':=by
 have n0:=hg.need 6 0 false rfl
 have n1:=hg.need 6 1 false rfl
 have n2:=hg.need 6 2 false rfl
 have n3:=hg.need 6 3 false rfl
 have n4:=hg.need 6 4 false rfl
 have n5:=hg.need 6 5 false rfl
 simp only [Nat.reduceMul,Nat.reduceAdd] at n0 n1 n2 n3 n4 n5
 have hlt:=hg.needLt
 have HR:Hid _:=hR
 have hrl:=hR.lt.1
 clear hg hR hr hs hl hn
 go_enter Tryz.func63,Tryz.ntmps63
 go_upto_region 4 with fail
 obtain ⟨w3,hw3⟩:∃ x,((w.alloc (.cells #[.int .i64 6,.string p,.string d,.int .i64 ov,.int .i64 f] 66)).alloc (.cells #[.string np,.string nd,.int .i64 nv,.int .i64 nm,.int .i64 nc,.int .i64 no,.int .i64 nk] 27)).alloc (.cells #[.bool false,.bool false,.bool false,.bool false,.bool false,.bool false] 132)=x:=⟨_,rfl⟩
 obtain ⟨ob,hob⟩:∃ x,w.heap.size=x:=⟨_,rfl⟩
 rw [hw3]
 have HB3:Hid (Below w.heap.size w w3):=by rw [← hw3];exact (((Below.refl _ _).alloc (Nat.le_refl _) _).alloc (by simp) _).alloc (by simp;omega) _
 have HF3:Hid (w3.heap[w.heap.size+1]? = some (.cells #[.string np,.string nd,.int .i64 nv,.int .i64 nm,.int .i64 nc,.int .i64 no,.int .i64 nk] 27 (0,0))):=by rw [← hw3];exact new_old (heap_alloc2_new _ _ _) _
 have HE3:Hid (w3.heap[w.heap.size+1+1]? = some (.cells #[.bool false,.bool false,.bool false,.bool false,.bool false,.bool false] 132 (0,0))):=by rw [← hw3];exact alloc3_new _ _ _ _
 clear hw3 hob n0 n1 n2 n3 n4 n5 hlt
 obtain ⟨a0,a1,a2,a3,a4,a5,a6⟩:=cells_7 HF3.out
 obtain ⟨m0,m1,m2,m3,m4,m5⟩:=cells_6 HE3.out
 go_region
 go_wp2_with fail
 go_ret
 exact ⟨rfl,below_drewN HB3.out _⟩
set_option maxHeartbeats 8000000 in
set_option maxRecDepth 100000 in
theorem mis_7a (base rb mb n:Nat) (D:DataW Value) (T:List Nd) (s st:Int) (chV:Value) (cn:Nat) (cs:List Value) (p d:ByteArray) (ov f:Int) (np nd:ByteArray) (nv nm nc no nk:Int) (w:World) (hg:GroundT w)
  (hR:ReqAt w base rb mb n D s st chV cn cs) (hr:Rep D T) (hs:Srt T) (hl:Sml T) (hn:T.length≤1000) :
  Calls Tryz.prog 63 #[.pointer (some ⟨rb,0,none⟩),opV 7 p d ov f,fuV np nd nv nm nc no nk] w fun e w'=>e=.returned (.int .i64 0)∧Below w.heap.size w w':=by
 have n0:=hg.need 7 0 false rfl
 have n1:=hg.need 7 1 false rfl
 have n2:=hg.need 7 2 false rfl
 have n3:=hg.need 7 3 false rfl
 have n4:=hg.need 7 4 false rfl
 have n5:=hg.need 7 5 false rfl
 simp only [Nat.reduceMul,Nat.reduceAdd] at n0 n1 n2 n3 n4 n5
 have hlt:=hg.needLt
 have HR:Hid _:=hR
 have hrl:=hR.lt.1
 clear hg hR hr hs hl hn
 go_enter Tryz.func63,Tryz.ntmps63
 go_upto_region 4 with fail
 obtain ⟨w3,hw3⟩:∃ x,((w.alloc (.cells #[.int .i64 7,.string p,.string d,.int .i64 ov,.int .i64 f] 66)).alloc (.cells #[.string np,.string nd,.int .i64 nv,.int .i64 nm,.int .i64 nc,.int .i64 no,.int .i64 nk] 27)).alloc (.cells #[.bool false,.bool false,.bool false,.bool false,.bool false,.bool false] 132)=x:=⟨_,rfl⟩
 obtain ⟨ob,hob⟩:∃ x,w.heap.size=x:=⟨_,rfl⟩
 rw [hw3]
 have HB3:Hid (Below w.heap.size w w3):=by rw [← hw3];exact (((Below.refl _ _).alloc (Nat.le_refl _) _).alloc (by simp) _).alloc (by simp;omega) _
 have HF3:Hid (w3.heap[w.heap.size+1]? = some (.cells #[.string np,.string nd,.int .i64 nv,.int .i64 nm,.int .i64 nc,.int .i64 no,.int .i64 nk] 27 (0,0))):=by rw [← hw3];exact new_old (heap_alloc2_new _ _ _) _
 have HE3:Hid (w3.heap[w.heap.size+1+1]? = some (.cells #[.bool false,.bool false,.bool false,.bool false,.bool false,.bool false] 132 (0,0))):=by rw [← hw3];exact alloc3_new _ _ _ _
 clear hw3 hob n0 n1 n2 n3 n4 n5 hlt
 obtain ⟨a0,a1,a2,a3,a4,a5,a6⟩:=cells_7 HF3.out
 obtain ⟨m0,m1,m2,m3,m4,m5⟩:=cells_6 HE3.out
 go_region
 go_wp2_with fail
 go_ret
 exact ⟨rfl,below_drewN HB3.out _⟩
theorem misfit_any {k:Int} (h2:2≤k) (h7:k≤7) (base rb mb n:Nat) (D:DataW Value) (T:List Nd) (s st:Int) (chV:Value) (cn:Nat) (cs:List Value) (p d:ByteArray) (ov f:Int) (np nd:ByteArray) (nv nm nc no nk:Int) (w:World) (hg:GroundT w)
  (hR:ReqAt w base rb mb n D s st chV cn cs) (hr:Rep D T) (hs:Srt T) (hl:Sml T) (hn:T.length≤1000) :
  Calls Tryz.prog 63 #[.pointer (some ⟨rb,0,none⟩),opV k p d ov f,fuV np nd nv nm nc no nk] w fun e w'=>e=.returned (.int .i64 (misC k ov nv (kidsM T np)))∧Below w.heap.size w w':=by
 rcases (show k=2∨k=3∨k=4∨k=5∨k=6∨k=7 by omega) with rfl | rfl | rfl | rfl | rfl | rfl
 · by_cases h1:ov=-1
   · subst h1
     by_cases h3:nv<2147483647
     · have e:misC 2 (-1) nv (kidsM T np)=0:=by simp [misC];omega
       rw [e]
       exact mis_2m base rb mb n D T s st chV cn cs p d f np nd nv nm nc no nk w hg hR hr hs hl hn h3
     · have e:misC 2 (-1) nv (kidsM T np)=46:=by simp [misC];omega
       rw [e]
       exact mis_2mn base rb mb n D T s st chV cn cs p d f np nd nv nm nc no nk w hg hR hr hs hl hn (by omega)
   · by_cases h4:ov=nv
     · subst h4
       by_cases h3:ov<2147483647
       · have e:misC 2 ov ov (kidsM T np)=0:=by simp [misC];omega
         rw [e]
         exact mis_2e base rb mb n D T s st chV cn cs p d f np nd ov nm nc no nk w hg hR hr hs hl hn h1 h3
       · have e:misC 2 ov ov (kidsM T np)=46:=by simp [misC];omega
         rw [e]
         exact mis_2en base rb mb n D T s st chV cn cs p d f np nd ov nm nc no nk w hg hR hr hs hl hn h1 (by omega)
     · have e:misC 2 ov nv (kidsM T np)=42:=by simp [misC,h1,h4]
       rw [e]
       exact mis_2x base rb mb n D T s st chV cn cs p d ov f np nd nv nm nc no nk w hg hR hr hs hl hn h1 h4
 · by_cases h1:ov=-1
   · subst h1
     by_cases h3:kidsM T np=[]
     · have e:misC 3 (-1) nv (kidsM T np)=0:=by simp [misC,h3]
       rw [e]
       exact mis_3m base rb mb n D T s st chV cn cs p d f np nd nv nm nc no nk w hg hR hr hs hl hn h3
     · have e:misC 3 (-1) nv (kidsM T np)=43:=by simp [misC,h3]
       rw [e]
       exact mis_3mn base rb mb n D T s st chV cn cs p d f np nd nv nm nc no nk w hg hR hr hs hl hn h3
   · by_cases h4:ov=nv
     · subst h4
       by_cases h3:kidsM T np=[]
       · have e:misC 3 ov ov (kidsM T np)=0:=by simp [misC,h3]
         rw [e]
         exact mis_3e base rb mb n D T s st chV cn cs p d f np nd ov nm nc no nk w hg hR hr hs hl hn h1 h3
       · have e:misC 3 ov ov (kidsM T np)=43:=by simp [misC,h3]
         rw [e]
         exact mis_3en base rb mb n D T s st chV cn cs p d f np nd ov nm nc no nk w hg hR hr hs hl hn h1 h3
     · have e:misC 3 ov nv (kidsM T np)=42:=by simp [misC,h1,h4]
       rw [e]
       exact mis_3x base rb mb n D T s st chV cn cs p d ov f np nd nv nm nc no nk w hg hR hr hs hl hn h1 h4
 · by_cases h1:ov=-1
   · subst h1
     have e:misC 4 (-1) nv (kidsM T np)=0:=by simp [misC]
     rw [e]
     exact mis_4m base rb mb n D T s st chV cn cs p d f np nd nv nm nc no nk w hg hR hr hs hl hn
   · by_cases h4:ov=nv
     · subst h4
       have e:misC 4 ov ov (kidsM T np)=0:=by simp [misC]
       rw [e]
       exact mis_4e base rb mb n D T s st chV cn cs p d f np nd ov nm nc no nk w hg hR hr hs hl hn h1
     · have e:misC 4 ov nv (kidsM T np)=42:=by simp [misC,h1,h4]
       rw [e]
       exact mis_4x base rb mb n D T s st chV cn cs p d ov f np nd nv nm nc no nk w hg hR hr hs hl hn h1 h4
 · have e:misC 5 ov nv (kidsM T np)=0:=by simp [misC]
   rw [e]
   exact mis_5a base rb mb n D T s st chV cn cs p d ov f np nd nv nm nc no nk w hg hR hr hs hl hn
 · have e:misC 6 ov nv (kidsM T np)=0:=by simp [misC]
   rw [e]
   exact mis_6a base rb mb n D T s st chV cn cs p d ov f np nd nv nm nc no nk w hg hR hr hs hl hn
 · have e:misC 7 ov nv (kidsM T np)=0:=by simp [misC]
   rw [e]
   exact mis_7a base rb mb n D T s st chV cn cs p d ov f np nd nv nm nc no nk w hg hR hr hs hl hn
end Go.Proofs.YtckmihplkhmpnaaGreatDoor
