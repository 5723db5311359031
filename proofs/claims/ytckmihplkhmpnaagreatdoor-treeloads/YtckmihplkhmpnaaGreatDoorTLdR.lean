import Derived.Test.YtckmihplkhmpnaaGreatDoorTLdM
import Derived.Test.YtckmihplkhmpnaaGreatDoorTRefB
import Derived.Test.YtckmihplkhmpnaaGreatDoorTPlyE
namespace Go.Proofs.YtckmihplkhmpnaaGreatDoor
open Go.RowKit Go.Maps Go.WideShapes
set_option linter.unusedVariables false
set_option linter.unusedSimpArgs false
theorem parse_err {p:ByteArray} (h:(parse p).1≠0):(parse p).2=[]:=by
 unfold parse at h ⊢
 split
 · rfl
 · split
   · rfl
   · split
     · rfl
     · split
       · split
         · exfalso
           apply h
           simp_all
         · rfl
       · rfl
theorem par_err {p:ByteArray} (h:(parse p).1≠0):parB p=⟨#[]⟩:=by unfold parB;rw [parse_err h]
def stepB (P:List Nd) (x:Nd):Bool:=decide (O ((P.getLast?.map Nd.p).getD ⟨#[]⟩) x.p=-1) && mayQ x (fnd P (parB x.p)).isSome ((fnd P (parB x.p)).getD zN)
theorem step_iff {P:List Nd} {x:Nd}:stepB P x=true ↔ O ((P.getLast?.map Nd.p).getD ⟨#[]⟩) x.p=-1∧mayQ x (fnd P (parB x.p)).isSome ((fnd P (parB x.p)).getD zN)=true:=by
 unfold stepB
 simp only [Bool.and_eq_true,decide_eq_true_eq]
def Acc (P:List Nd):Prop:=(P=[]∨Snd P)∧Rng P
theorem Acc.nil:Acc []:=⟨.inl rfl,fun x hx=>by cases hx⟩
theorem last_le {P:List Nd} (h:Srt P) {z y:Nd} (hz:P.getLast? = some z) (hy:y∈P):y=z∨O y.p z.p=-1:=by
 obtain ⟨l,rfl⟩:=List.getLast?_eq_some_iff.1 hz
 rcases List.mem_append.1 hy with hy | hy
 · exact .inr ((List.pairwise_append.1 h).2.2 y hy z (List.mem_singleton.2 rfl))
 · exact .inl (List.mem_singleton.1 hy)
theorem nrootL {P:List Nd} (h:Snd P) {z:Nd} {p:ByteArray} (hz:P.getLast? = some z) (ho:O z.p p=-1):p≠pRt:=fun e=>by
 subst e
 obtain ⟨r,hr,hp,_⟩:=h.root
 rcases last_le h.inv.srt hz hr with rfl | h1
 · rw [hp,O_self] at ho
   cases ho
 · rw [hp] at h1
   have:=O_anti pRt z.p
   rw [h1] at this
   rw [this] at ho
   cases ho
theorem isp_of {P:List Nd} (h:Snd P) {p:ByteArray} {u:Nd} (hf:fnd P (parB p)=some u):(parse p).1=0:=by
 by_cases hp:(parse p).1=0
 · exact hp
 · exfalso
   obtain ⟨hm,he⟩:=fnd_some hf
   rw [par_err hp] at he
   have h9:=(h.inv.nd u hm).1
   rw [he] at h9
   revert h9
   decide +kernel
theorem Acc.step {P:List Nd} {x:Nd} (h:Acc P) (hl:P.length<64) (hs:stepB P x=true):Acc (P ++ [x]):=by
 obtain ⟨ho,hm⟩:=step_iff.1 hs
 obtain ⟨h1,h2,h3,h4,h5,h6,h7,h8⟩:=mayQ_iff.1 hm
 have hR:Rng (P ++ [x]):=fun y hy=>by
  rcases List.mem_append.1 hy with hy | hy
  · exact h.2 y hy
  · obtain rfl:=List.mem_singleton.1 hy
    exact ⟨h4,h5,h6,fun e=>by rcases h7 with h7 | h7;exact absurd h7 e;exact h7.2⟩
 refine ⟨.inr ?_,hR⟩
 rcases h.1 with rfl | hS
 · have hp:x.p=pRt:=by
    rcases h8 with h8 | h8
    · exact h8
    · simp [fnd] at h8
   have hx0:x.o=0:=by
    rcases h7 with h7 | h7
    · exact h7
    · exact absurd hp h7.1
   refine ⟨⟨List.pairwise_singleton _ _,by simp,fun y hy=>?_⟩,⟨x,by simp,hp,hx0⟩,fun y hy hr=>?_⟩
   · obtain rfl:y=x:=by simpa using hy
     exact ⟨by rw [hp];kernel_rfl,h1,h3.1,h3.2,h2.1,h2.2⟩
   · obtain rfl:y=x:=by simpa using hy
     exact absurd hp hr
 · obtain ⟨z,hz⟩:∃ z,P.getLast? = some z:=by
    cases hg:P.getLast? with
    | none=>exact absurd (List.getLast?_eq_none_iff.1 hg) hS.ne
    | some z=>exact ⟨z,rfl⟩
   rw [hz] at ho
   have ho:O z.p x.p=-1:=ho
   have hxr:=nrootL hS hz ho
   obtain ⟨u,hu,huo⟩:∃ u,fnd P (parB x.p)=some u∧u.o=0:=by
    rcases h8 with h8 | h8
    · exact absurd h8 hxr
    · cases hf:fnd P (parB x.p) with
      | none=>rw [hf] at h8;simp at h8
      | some u=>rw [hf] at h8;exact ⟨u,rfl,by simpa using h8⟩
   have hxp:=isp_of hS hu
   refine ⟨⟨List.pairwise_append.2 ⟨hS.inv.srt,List.pairwise_singleton _ _,fun y hy w hw=>?_⟩,by simp;omega,fun y hy=>?_⟩,?_,fun y hy hr=>?_⟩
   · obtain rfl:=List.mem_singleton.1 hw
     rcases last_le hS.inv.srt hz hy with rfl | h9
     · exact ho
     · exact O_trans h9 ho
   · rcases List.mem_append.1 hy with hy | hy
     · exact hS.inv.nd y hy
     · obtain rfl:=List.mem_singleton.1 hy
       exact ⟨hxp,h1,h3.1,h3.2,h2.1,h2.2⟩
   · obtain ⟨r,hr,h9⟩:=hS.root
     exact ⟨r,List.mem_append_left _ hr,h9⟩
   · rcases List.mem_append.1 hy with hy | hy
     · obtain ⟨v,hv,h9⟩:=hS.up y hy hr
       exact ⟨v,List.mem_append_left _ hv,h9⟩
     · obtain rfl:=List.mem_singleton.1 hy
       obtain ⟨hm',he⟩:=fnd_some hu
       exact ⟨u,List.mem_append_left _ hm',he,huo⟩
def fitsB (P:List Nd) (x:Nd):Bool:=isP x.p && decide (x.d.size≤64) && inR x.v 2147483647 && inR x.m 2147483647 && inR x.c 2147483647 && inR x.o 2147483647 && inR x.k 100000 && decide (¬ (0<x.o∧0<x.k)) && (match P.getLast? with | none=>decide (x.p=pRt∧x.o=0) | some z=>decide (parC x.p=0) && decide (O z.p x.p<0) && (match fnd P (parB x.p) with | some u=>decide (u.o=0) | none=>false))
theorem fits_step {P:List Nd} {x:Nd} (h:Acc P):fitsB P x=stepB P x:=by
 rw [Bool.eq_iff_iff,step_iff,mayQ_iff]
 unfold fitsB inR
 simp only [Bool.and_eq_true,decide_eq_true_eq]
 rcases h.1 with rfl | hS
 · simp only [List.getLast?_nil,Option.map_none,Option.getD_none,fnd,List.find?_nil,Option.isSome_none]
   constructor
   · rintro ⟨⟨⟨⟨⟨⟨⟨⟨h1,h2⟩,h3⟩,h4⟩,h5⟩,h6⟩,h7⟩,h8⟩,h9⟩
     have h9:x.p=pRt∧x.o=0:=by simpa using h9
     exact ⟨by rw [h9.1];kernel_rfl,h2,h7,h3,h4,h5,h6,.inl h9.2,.inl h9.1⟩
   · rintro ⟨h0,h2,h7,h3,h4,h5,h6,h8,h9⟩
     have hp:x.p=pRt:=by
      rcases h9 with h9 | h9
      · exact h9
      · simp at h9
     have hx0:x.o=0:=by
      rcases h8 with h8 | h8
      · exact h8
      · exact absurd hp h8.1
     exact ⟨⟨⟨⟨⟨⟨⟨⟨by rw [hp];kernel_rfl,h2⟩,h3⟩,h4⟩,h5⟩,h6⟩,h7⟩,by omega⟩,by simp [hp,hx0]⟩
 · obtain ⟨z,hz⟩:∃ z,P.getLast? = some z:=by
    cases hg:P.getLast? with
    | none=>exact absurd (List.getLast?_eq_none_iff.1 hg) hS.ne
    | some z=>exact ⟨z,rfl⟩
   rw [hz]
   simp only [Option.map_some,Option.getD_some,Bool.and_eq_true,decide_eq_true_eq]
   have hOr:=O_range z.p x.p
   constructor
   · rintro ⟨⟨⟨⟨⟨⟨⟨⟨h1,h2⟩,h3⟩,h4⟩,h5⟩,h6⟩,h7⟩,h8⟩,⟨h9,h10⟩,h11⟩
     have ho:O z.p x.p=-1:=by omega
     have hxr:=nrootL hS hz ho
     cases hf:fnd P (parB x.p) with
     | none=>rw [hf] at h11;simp at h11
     | some u =>
       rw [hf] at h11
       have huo:u.o=0:=by simpa using h11
       exact ⟨ho,h2,h7,h3,h4,h5,h6,by
        by_cases e:x.o=0
        · exact .inl e
        · exact .inr ⟨hxr,by omega⟩,.inr ⟨rfl,huo⟩⟩
   · rintro ⟨ho,h2,h7,h3,h4,h5,h6,h8,h9⟩
     have hxr:=nrootL hS hz ho
     cases hf:fnd P (parB x.p) with
     | none=>rw [hf] at h9;simp at h9;exact absurd h9 hxr
     | some u =>
       rw [hf] at h9
       have huo:u.o=0:=by
        rcases h9 with h9 | h9
        · exact absurd h9 hxr
        · simpa using h9
       have hxp:=isp_of hS hf
       have hpc:parC x.p=0:=by
        obtain ⟨xs,k,y,hx,hl,hk,_⟩:=names_of hxp hxr
        unfold parC
        rw [if_pos hxp,hx,if_neg (fun e=>by
         have e':xs=[]:=e
         rw [e'] at hl
         simp at hl)]
       refine ⟨⟨⟨⟨⟨⟨⟨⟨by simpa [isP] using hxp,h2⟩,h3⟩,h4⟩,h5⟩,h6⟩,h7⟩,?_⟩,⟨hpc,by omega⟩,by simpa using huo⟩
       rcases h8 with h8 | h8
       · omega
       · have:=h8.2
         omega
def okB:List Nd→List Nd→Bool
 | _,[]=>true
 | P,x :: r=>stepB P x && okB (P ++ [x]) r
def loadC (T:List Nd):Int:=if 64<T.length then 2 else if okB [] T=true∧T≠[] then 0 else 1
theorem okB_acc:∀ (r P:List Nd),Acc P→P.length+r.length≤64→okB P r=true→Acc (P ++ r)
 | [],P,h,_,_=>by simpa using h
 | x :: r,P,h,hl,ho=>by
   simp only [okB,Bool.and_eq_true] at ho
   have h1:=h.step (by simp at hl;omega) ho.1
   have h2:=okB_acc r (P ++ [x]) h1 (by simp at hl ⊢;omega) ho.2
   simpa using h2
theorem loadC_ok {T:List Nd} (h:loadC T=0):Snd T∧Rng T:=by
 unfold loadC at h
 split at h
 · cases h
 · rename_i hl
   split at h
   · rename_i ho
     have h1:=okB_acc T [] Acc.nil (by simp;omega) ho.1
     rcases h1.1 with h2 | h2
     · exact absurd (by simpa using h2) ho.2
     · exact ⟨by simpa using h2,by simpa using h1.2⟩
   · cases h
end Go.Proofs.YtckmihplkhmpnaaGreatDoor
namespace Go.Proofs.YtckmihplkhmpnaaGreatDoor
open Go.RowKit Go.Maps Go.WideShapes
set_option linter.unusedVariables false
set_option linter.unusedSimpArgs false
attribute [local go_sem ↓] Go.wp_at_zero Go.wp_at_succ
def FusAt (w:World) (a:Option Addr) (T:List Nd):Prop:=∀ i x,T[i]? = some x→∃ b f,a=some ⟨b,f,none⟩∧b<w.heap.size∧∀ j v,x.cs[j]? = some v→w.cell? ⟨b,f+i * 7+j,none⟩=some v
theorem FusAt.below {w w':World} {a:Option Addr} {T:List Nd} (h:FusAt w a T) (hb:Below w.heap.size w w'):FusAt w' a T:=fun i x hx=>by
 obtain ⟨b,f,ha,hlt,hc⟩:=h i x hx
 exact ⟨b,f,ha,Nat.lt_of_lt_of_le hlt hb.size,fun j v hv=>by rw [hb.cell (p:=⟨b,f+i * 7+j,none⟩) hlt];exact hc j v hv⟩
theorem last_take {T:List Nd} {q:Nat}:((T.take q).getLast?.map Nd.p).getD ⟨#[]⟩=lastP T q:=rfl
def Upto (T:List Nd) (q:Nat):Prop:=Acc (T.take q)∧okB [] T=okB (T.take q) (T.drop q)
theorem Upto.next {T:List Nd} {q:Nat} {x:Nd} (h:Upto T q) (hx:T[q]? = some x) (hq:q<64) (hs:stepB (T.take q) x=true):Upto T (q+1):=by
 have hl:=(List.getElem?_eq_some_iff.1 hx).1
 have e1:T.take (q+1)=T.take q ++ [x]:=by rw [List.take_add_one,hx];rfl
 have e2:T.drop q=x :: T.drop (q+1):=by rw [List.drop_eq_getElem_cons hl,(List.getElem?_eq_some_iff.1 hx).2]
 refine ⟨by rw [e1];exact h.1.step (by rw [List.length_take];omega) hs,?_⟩
 rw [h.2,e2,e1]
 simp [okB,hs]
theorem Upto.no {T:List Nd} {q:Nat} {x:Nd} (h:Upto T q) (hx:T[q]? = some x) (hs:stepB (T.take q) x=false) (hl:T.length≤64):loadC T=1:=by
 have hl':=(List.getElem?_eq_some_iff.1 hx).1
 have e2:T.drop q=x :: T.drop (q+1):=by rw [List.drop_eq_getElem_cons hl',(List.getElem?_eq_some_iff.1 hx).2]
 have e3:okB [] T=false:=by rw [h.2,e2];simp [okB,hs]
 unfold loadC
 rw [if_neg (by omega),e3,if_neg (by simp)]
theorem Upto.all {T:List Nd} (h:Upto T T.length) (hl:T.length≤64):loadC T=if T=[] then 1 else 0:=by
 have e:okB [] T=true:=by rw [h.2];simp [okB]
 unfold loadC
 rw [if_neg (by omega),e]
 by_cases ht:T=[] <;> simp [ht]
def LoadE (w:World) (T:List Nd) (e:Ending) (w':World):Prop:=Below w.heap.size w w'∧((loadC T≠0∧e=.returned (.tuple #[.pointer none,.int .i64 (loadC T)]))∨(loadC T=0∧∃ ub,e=.returned (.tuple #[.pointer (some ⟨ub,0,none⟩),.int .i64 0])∧TrAt w' w.heap.size ub 8 T))
set_option maxHeartbeats 16000000 in
set_option maxRecDepth 100000 in
theorem load_all (a:Option Addr) (cap:Nat) (T:List Nd) (w:World) (h:FusAt w a T) (hsz:∀ x∈T,x.p.size≤maxLen∧x.d.size≤maxLen) (hg:GroundT w) :
  Calls Tryz.prog 5 #[.slice a T.length cap] w (LoadE w T):=by
 have H:Hid (FusAt w a T):=h
 have HSZ:Hid _:=hsz
 have HG:Hid (GroundT w):=hg
 obtain ⟨N,hN⟩:∃ N,T.length=N:=⟨_,rfl⟩
 have HN:Hid (T.length=N):=hN
 have hmm:=@run_makeMap Tryz.prog
 rw [hN]
 clear h hsz hg hN
 by_cases hn64:(64:Int)<(N:Int)
 · have e:loadC T=2:=by unfold loadC;rw [if_pos (by rw [HN.out];omega)]
   have HE:Hid (∀ w',Below w.heap.size w w'→LoadE w T (.returned (.tuple #[.pointer none,.int .i64 2])) w'):=fun w' hb=>⟨hb,.inl ⟨by rw [e];decide,by rw [e]⟩⟩
   clear e
   go_enter Tryz.func5,Tryz.ntmps5
   go_wp2_with fail
   go_ret2
   exact HE.out _ (Below.refl _ _)
 have hN64:N≤64:=by omega
 go_enter Tryz.func5,Tryz.ntmps5
 go_upto_region 4 with fail
 obtain ⟨w0,hw0⟩:∃ y,w.alloc (.map #[] 0)=y:=⟨_,rfl⟩
 obtain ⟨mb,hmb⟩:∃ y,w.heap.size=y:=⟨_,rfl⟩
 have HB0:Hid (Below w.heap.size w w0):=by rw [← hw0];exact (Below.refl _ _).alloc (Nat.le_refl _) _
 have HM0:Hid (MapAt w0 mb 0 (.map [])):=by rw [← hw0,← hmb];exact World.ownsMap_made w Tryz.prog 9 raw
 have HMB:Hid (w.heap.size=mb):=hmb
 rw [hw0,hmb]
 clear hw0 hmb hmm
 go_wp2_with fail
 go_loopw [5,14] (fun lv i wr=>∃ (q:Nat) (D:DataW Value),i=.int .i64 q∧q≤N∧lv=.string (lastP T q)∧Hid (Upto T q)∧Hid (Rep D (T.take q))∧Hid (MapAt wr mb q D)∧Hid (Below w.heap.size w wr)) (fun _ i _=>N - (intOf i).toNat)
 case atStart=>exact ⟨0,.map [],rfl,Nat.zero_le _,by simp [lastP],⟨Acc.nil,rfl⟩,rep_nil,HM0.out,HB0.out⟩
 case round =>
  obtain ⟨q,D,rfl,hq,rfl,HUP,HRD,HMD,HB⟩:=hrel
  by_cases hlt:q<N
  · have hlt':(q:Int)<(N:Int):=by omega
    obtain ⟨x,hx⟩:∃ x,T[q]? = some x:=⟨T[q]'(by rw [HN.out];exact hlt),List.getElem?_eq_getElem _⟩
    obtain ⟨gb,gf,rfl,hgr,hcs⟩:=(H.out.below HB.out) q x hx
    have hxm:=List.mem_of_getElem? hx
    obtain ⟨up,th,hup,hth,hl1,hl2⟩:∃ (up:Nd) (th:Bool),(fnd (T.take q) (parB x.p)).getD zN=up∧(fnd (T.take q) (parB x.p)).isSome=th∧look D (parB x.p)=up.V∧Maps.has D (ky (parB x.p))=th:=by
     cases hf:fnd (T.take q) (parB x.p) with
     | none=>exact ⟨zN,false,rfl,rfl,HRD.out.look_none hf,by rw [HRD.out.has_fnd,hf];rfl⟩
     | some u=>exact ⟨u,true,rfl,rfl,by obtain ⟨hm,he⟩:=fnd_some hf;rw [← he];exact HRD.out.look u hm,by rw [HRD.out.has_fnd,hf];rfl⟩
    have hstep:stepB (T.take q) x=(decide (O (lastP T q) x.p=-1) && mayQ x th up):=by unfold stepB;rw [last_take,hup,hth]
    have hlsz:(lastP T q).size≤maxLen:=by
     cases q with
     | zero =>
       have e0:lastP T 0=⟨#[]⟩:=by simp [lastP]
       rw [e0]
       exact Nat.zero_le _
     | succ q =>
       obtain ⟨y,hy⟩:∃ y,T[q]? = some y:=⟨T[q]'(by rw [HN.out];omega),List.getElem?_eq_getElem _⟩
       rw [lastP_next hy]
       exact (HSZ.out y (List.mem_of_getElem? hy)).1
    have HOR:Hid (∀ W:World,Calls Tryz.prog 14 #[.string (lastP T q),.string x.p] W fun e w'=>e=.returned (.int .i64 (O (lastP T q) x.p))∧∃ m,w'=W.drewN m):=fun W=>order_O (lastP T q) x.p hlsz (HSZ.out x hxm).1 W
    have hOr:=O_range (lastP T q) x.p
    have HMH:Hid (∀ W,Below wr.heap.size wr W→Calls Tryz.prog 15 #[.map (some mb),x.V] W fun e w'=>e=.returned (.bool (mayQ x th up))∧Below W.heap.size W w'):=fun W hb=>mayHave_all mb q D x up th W (HG.out.below (trans2 HB.out hb)) (map_below HMD.out hb) hl1 hl2 (HSZ.out x hxm).2
    have HNO:Hid (stepB (T.take q) x=false→loadC T=1):=fun h9=>HUP.out.no hx h9 (by rw [HN.out];exact hN64)
    have HYE:Hid (stepB (T.take q) x=true→Upto T (q+1)∧x.p.size≤1000∧x.d.size≤64):=fun h9=>by
     have h8:=HUP.out.next hx (by omega) h9
     have h7:x∈T.take (q+1):=by rw [List.take_add_one,hx];simp
     rcases h8.1.1 with h6 | h6
     · rw [h6] at h7;cases h7
     · have h5:=h6.inv.nd x h7
       exact ⟨h8,Nat.le_trans (size_of_parse h5.1) (by decide),h5.2.1⟩
    have HPT:Hid (x.p.size≤1000→x.d.size≤64→∀ W,Below wr.heap.size wr W→_):=fun h1 h2 W hb=>put_any mb q D x.p x.d x.v x.m x.c x.o x.k (by omega) (by omega) W (map_below HMD.out hb) (by omega)
    have HRN:Hid (Upto T (q+1)→Rep (D.put (ky x.p) (.held x.V)) (T.take (q+1))):=fun h9=>by
     have h8:Inv (T.take (q+1)):=by
      rcases h9.1.1 with h6 | h6
      · have h7:x∈T.take (q+1):=by rw [List.take_add_one,hx];simp
        rw [h6] at h7;cases h7
      · exact h6.inv
     have h7:=rep_next (T:=T.take (q+1)) (q:=q) (x:=x) (D:=D) h8 (by rw [List.getElem?_take,if_pos (by omega)];exact hx) (by rw [List.take_take,Nat.min_eq_left (by omega)];exact HRD.out)
     rw [List.take_take,Nat.min_self] at h7
     exact h7
    have HLP:Hid (lastP T (q+1)=x.p):=lastP_next hx
    obtain ⟨SB,hSB⟩:∃ s,stepB (T.take q) x=s:=⟨_,rfl⟩
    rw [hSB] at hstep HNO HYE
    obtain ⟨oo,hoo⟩:∃ o,O (lastP T q) x.p=o:=⟨_,rfl⟩
    obtain ⟨mq,hmq⟩:∃ m,mayQ x th up=m:=⟨_,rfl⟩
    rw [hoo] at HOR hOr hstep
    rw [hmq] at HMH hstep
    obtain ⟨la,hla⟩:∃ la,lastP T q=la:=⟨_,rfl⟩
    rw [hla] at HOR ⊢
    have n0:wr.cell? ⟨gb,gf+q * 7,none⟩=some (.string x.p):=hcs 0 _ rfl
    have n1:=hcs 1 _ rfl
    have n2:=hcs 2 _ rfl
    have n3:=hcs 3 _ rfl
    have n4:=hcs 4 _ rfl
    have n5:=hcs 5 _ rfl
    have n6:=hcs 6 _ rfl
    clear hx hxm hcs hup hth hl1 hl2 hlsz hla hoo hmq hSB
    go_upto_region 8 with fail
    obtain ⟨w1,hw1⟩:∃ y,wr.alloc (.cells #[.string x.p,.string x.d,.int .i64 x.v,.int .i64 x.m,.int .i64 x.c,.int .i64 x.o,.int .i64 x.k] 27)=y:=⟨_,rfl⟩
    obtain ⟨nb,hnb⟩:∃ y,wr.heap.size=y:=⟨_,rfl⟩
    have HB1:Hid (Below wr.heap.size wr w1):=by rw [← hw1];exact (Below.refl _ _).alloc (Nat.le_refl _) _
    have HN1:Hid (w1.heap[nb]? = some (.cells #[.string x.p,.string x.d,.int .i64 x.v,.int .i64 x.m,.int .i64 x.c,.int .i64 x.o,.int .i64 x.k] 27 (0,0))):=by rw [← hw1,← hnb];exact heap_alloc_new _ _
    rw [hw1,hnb]
    clear hw1 hnb n0 n1 n2 n3 n4 n5 n6
    obtain ⟨n0,n1,n2,n3,n4,n5,n6⟩:=cells_7 HN1.out
    go_wp2_with fail
    refine Calls.mono (HOR.out w1) ?_
    rintro e w2 ⟨rfl,m2,hw2⟩
    have HB2:Hid (Below wr.heap.size wr w2):=by rw [hw2];exact below_dN HB1.out _
    have HN2:Hid (w2.heap[nb]? = some (.cells #[.string x.p,.string x.d,.int .i64 x.v,.int .i64 x.m,.int .i64 x.c,.int .i64 x.o,.int .i64 x.k] 27 (0,0))):=by rw [hw2];exact HN1.out
    clear hw2 n0 n1 n2 n3 n4 n5 n6
    obtain ⟨n0,n1,n2,n3,n4,n5,n6⟩:=cells_7 HN2.out
    by_cases hoo:oo=-1
    · subst hoo
      have hs2:SB=mq:=by simpa using hstep
      clear hstep
      subst hs2
      go_wp2_with fail
      refine Calls.mono (HMH.out w2 HB2.out) ?_
      rintro e w3 ⟨rfl,hb3⟩
      have HB3:Hid (Below wr.heap.size wr w3):=trans2 HB2.out hb3
      have HN3:Hid _:=kept_block hb3 HN2.out
      clear hb3 n0 n1 n2 n3 n4 n5 n6
      obtain ⟨n0,n1,n2,n3,n4,n5,n6⟩:=cells_7 HN3.out
      cases hsb:SB with
      | false =>
        rw [hsb] at HNO
        have HE:Hid (∀ w',Below w.heap.size w w'→LoadE w T (.returned (.tuple #[.pointer none,.int .i64 1])) w'):=fun w' hb=>⟨hb,.inl ⟨by rw [HNO.out rfl];decide,by rw [HNO.out rfl]⟩⟩
        go_wp2_with fail
        go_ret2
        exact HE.out _ (trans2 HB.out HB3.out)
      | true =>
        rw [hsb] at HYE
        have HY:Hid _:=HYE.out rfl
        go_wp2_with fail
        refine Calls.mono (HPT.out HY.out.2.1 HY.out.2.2 w3 HB3.out) ?_
        rintro e w4 ⟨rfl,hm4,hc4⟩
        have HM4:Hid (MapAt w4 mb (q+1) (D.put (ky x.p) (.held x.V))):=hm4
        have HN4:Hid (w4.heap[nb]? = some (.cells #[.string x.p,.string x.d,.int .i64 x.v,.int .i64 x.m,.int .i64 x.c,.int .i64 x.o,.int .i64 x.k] 27 (0,0))):=by
         show _=_
         rw [hc4.block nb (Array.getElem?_eq_some_iff.1 HN3.out).1 (fun e=>?_)]
         · exact HN3.out
         · obtain ⟨es,clock,hb,_⟩:=map_below HMD.out HB3.out
           have h9:=HN3.out
           rw [show nb=mb from e,hb] at h9
           cases h9
        have HB4:Hid (Below w.heap.size w w4):=(trans2 HB.out HB3.out).trans (hc4.below (trans2 HB.out HB3.out).size (fun j _ e=>by rw [show j=mb from e,HMB.out];exact Nat.le_refl _))
        clear hm4 hc4 n0 n1 n2 n3 n4 n5 n6
        obtain ⟨n0,n1,n2,n3,n4,n5,n6⟩:=cells_7 HN4.out
        go_wp2_with fail
        go_roundw
        case rel=>exact ⟨q+1,_,by go_num,by omega,by rw [HLP.out],HY.out.1,HRN.out HY.out.1,HM4.out,HB4.out⟩
        case measure=>simp [intOf];omega
    · have hs2:SB=false:=by simpa [hoo] using hstep
      clear hstep
      subst hs2
      have HE:Hid (∀ w',Below w.heap.size w w'→LoadE w T (.returned (.tuple #[.pointer none,.int .i64 1])) w'):=fun w' hb=>⟨hb,.inl ⟨by rw [HNO.out rfl];decide,by rw [HNO.out rfl]⟩⟩
      have hO2:oo=0∨oo=1:=by omega
      clear hOr hoo
      rcases hO2 with rfl | rfl
      · go_wp2_with fail
        go_ret2
        exact HE.out _ (trans2 HB.out HB2.out)
      · go_wp2_with fail
        go_ret2
        exact HE.out _ (trans2 HB.out HB2.out)
  · obtain rfl:q=N:=by omega
    have HRT:Hid (Rep D T):=by
     have h9:=HRD.out
     rw [List.take_of_length_le (by rw [HN.out];exact Nat.le_refl _)] at h9
     exact h9
    have HSZD:Hid (Maps.size D=q):=by show _=_;rw [HRT.out.size];exact HN.out
    have HLC:Hid (loadC T=if T=[] then 1 else 0):=by
     have h9:=HUP.out
     rw [← HN.out] at h9
     exact h9.all (by rw [HN.out];exact hN64)
    by_cases hz:q=0
    · have hTn:T=[]:=List.length_eq_zero_iff.1 (by rw [HN.out];exact hz)
      have hz2:((q:Int)==0)=true:=by simp [hz]
      have HE:Hid (∀ w',Below w.heap.size w w'→LoadE w T (.returned (.tuple #[.pointer none,.int .i64 1])) w'):=fun w' hb=>by
       have h9:=HLC.out
       rw [if_pos hTn] at h9
       exact ⟨hb,.inl ⟨by rw [h9];decide,by rw [h9]⟩⟩
      clear hTn hz
      go_wp2_with (first
       | (at_len;refine wpList_len_own _ rfl _ 52 rfl 9 27 Tryz.underlying52 raw mb q D rfl HMD.out ?_;rw [HSZD.out])
       | fail)
      go_ret2
      exact HE.out _ HB.out
    · have hz1:¬ (q:Int)=0:=by omega
      have hz2:((q:Int)==0)=false:=by simpa using hz1
      have HL0:Hid (loadC T=0):=by
       have h9:=HLC.out
       rw [if_neg (fun e=>hz (by rw [← HN.out,e];rfl))] at h9
       exact h9
      go_wp2_with (first
       | (at_len;refine wpList_len_own _ rfl _ 52 rfl 9 27 Tryz.underlying52 raw mb q D rfl HMD.out ?_;rw [HSZD.out])
       | fail)
      go_ret2
      refine ⟨HB.out.alloc HB.out.size _,.inr ⟨HL0.out,wr.heap.size,rfl,⟨⟨mb,q,D,⟨heap_alloc_new _ _,World.ownsMap.alloc HMD.out _,HB.out.size,by rw [HMB.out];exact Nat.le_refl _⟩,HRT.out,by omega⟩,(loadC_ok HL0.out).1⟩⟩⟩
end Go.Proofs.YtckmihplkhmpnaaGreatDoor
namespace Go.Proofs.YtckmihplkhmpnaaGreatDoor
open Go.RowKit Go.Maps Go.WideShapes
set_option linter.unusedVariables false
set_option linter.unusedSimpArgs false
attribute [local go_sem ↓] Go.wp_at_zero Go.wp_at_succ
theorem refIn_any (v m:Int) (w:World) :
  Calls Tryz.prog 33 #[.int .i64 v,.int .i64 m] w fun e w'=>e=.returned (.bool (inR v m))∧w'=w:=by
 by_cases h0:0≤v
 · by_cases h1:v≤m
   · rw [show inR v m=true by unfold inR;simp [h0,h1]]
     exact refIn_yes v m w h0 h1
   · rw [show inR v m=false by unfold inR;simp [h1]]
     have h1':m<v:=by omega
     go_enter Tryz.func33,Tryz.ntmps33
     go_wp2_with fail
     go_ret
     exact ⟨rfl,rfl⟩
 · rw [show inR v m=false by unfold inR;simp [h0]]
   have h0':v<0:=by omega
   go_enter Tryz.func33,Tryz.ntmps33
   go_wp2_with fail
   go_ret
   exact ⟨rfl,rfl⟩
def tailB (P:List Nd) (x:Nd):Bool:=match P.getLast? with | none=>decide (x.p=pRt∧x.o=0) | some z=>decide (parC x.p=0) && decide (O z.p x.p<0) && (match fnd P (parB x.p) with | some u=>decide (u.o=0) | none=>false)
theorem fitsB_iff {P:List Nd} {x:Nd}:fitsB P x=true ↔ isP x.p=true∧x.d.size≤64∧inR x.v 2147483647=true∧inR x.m 2147483647=true∧inR x.c 2147483647=true∧inR x.o 2147483647=true∧inR x.k 100000=true∧¬ (0<x.o∧0<x.k)∧tailB P x=true:=by
 have e:fitsB P x=(isP x.p && decide (x.d.size≤64) && inR x.v 2147483647 && inR x.m 2147483647 && inR x.c 2147483647 && inR x.o 2147483647 && inR x.k 100000 && decide (¬ (0<x.o∧0<x.k)) && tailB P x):=rfl
 rw [e]
 simp only [Bool.and_eq_true,decide_eq_true_eq,and_assoc]
theorem fitsB_no {P:List Nd} {x:Nd} (h:¬ (isP x.p=true∧x.d.size≤64∧inR x.v 2147483647=true∧inR x.m 2147483647=true∧inR x.c 2147483647=true∧inR x.o 2147483647=true∧inR x.k 100000=true∧¬ (0<x.o∧0<x.k)∧tailB P x=true)):fitsB P x=false:=Bool.eq_false_iff.2 (fun e=>h (fitsB_iff.1 e))
set_option maxHeartbeats 16000000 in
set_option maxRecDepth 100000 in
theorem fits_all (P:List Nd) (x:Nd) (a:Option Addr) (c:Nat) (w:World) (h:NdsAt w a P) (hl:P.length≤64) (hP:∀ y∈P,y.p.size≤maxLen) (hxp:x.p.size≤maxLen) (hxd:x.d.size≤maxLen) :
  Calls Tryz.prog 13 #[.slice a P.length c,x.V] w fun e w'=>e=.returned (.bool (fitsB P x))∧Below w.heap.size w w':=by
 have HIS:Hid (∀ W,Calls Tryz.prog 32 #[.string x.p] W fun e w'=>e=.returned (.bool (isP x.p))∧Below W.heap.size W w'):=fun W=>refIs_any x.p W
 have HI:Hid (∀ v m W,Calls Tryz.prog 33 #[.int .i64 v,.int .i64 m] W fun e w'=>e=.returned (.bool (inR v m))∧w'=W):=fun v m W=>refIn_any v m W
 have HPA:Hid (∀ W,Calls Tryz.prog 34 #[.string x.p] W fun e w'=>e=.returned (.tuple #[.string (parB x.p),.int .i64 (parC x.p)])∧Below W.heap.size W w'):=fun W=>refParent_any x.p W
 have HOR:Hid (∀ z∈P,∀ W,Calls Tryz.prog 35 #[.string z.p,.string x.p] W fun e w'=>e=.returned (.int .i64 (O z.p x.p))∧w'=W):=fun z hz W=>ref_any z.p x.p (hP z hz) hxp W
 have HFI:Hid (∀ W,Below w.heap.size w W→Calls Tryz.prog 36 #[.slice a P.length c,.string (parB x.p)] W fun e w'=>e=.returned (.int .i64 (fndI P (parB x.p)))∧w'=W):=fun W hb=>refFind_any a c P (parB x.p) W (h.below hb) (by omega)
 have H:Hid (NdsAt w a P):=h
 obtain ⟨res,hres⟩:∃ r,fitsB P x=r:=⟨_,rfl⟩
 have HRES:Hid (fitsB P x=res):=hres
 rw [hres]
 obtain ⟨N,hN⟩:∃ N,P.length=N:=⟨_,rfl⟩
 have HN:Hid (P.length=N):=hN
 rw [hN] at HFI hl ⊢
 clear h hres hN hP hxp
 obtain ⟨p,d,v,m,ch,o,k⟩:=x
 show Calls _ _ #[.slice a N c,.agg #[.string p,.string d,.int .i64 v,.int .i64 m,.int .i64 ch,.int .i64 o,.int .i64 k]] w _
 have hxd:d.size≤maxLen:=hxd
 unfold maxLen at hxd
 go_enter Tryz.func13,Tryz.ntmps13
 go_upto_region 1 with fail
 obtain ⟨w1,hw1⟩:∃ y,w.alloc (.cells #[.string p,.string d,.int .i64 v,.int .i64 m,.int .i64 ch,.int .i64 o,.int .i64 k] 26)=y:=⟨_,rfl⟩
 obtain ⟨nb,hnb⟩:∃ y,w.heap.size=y:=⟨_,rfl⟩
 have HB1:Hid (Below w.heap.size w w1):=by rw [← hw1];exact (Below.refl _ _).alloc (Nat.le_refl _) _
 have HN1:Hid (w1.heap[nb]? = some (.cells #[.string p,.string d,.int .i64 v,.int .i64 m,.int .i64 ch,.int .i64 o,.int .i64 k] 26 (0,0))):=by rw [← hw1,← hnb];exact heap_alloc_new _ _
 rw [hw1,hnb]
 clear hw1 hnb
 obtain ⟨n0,n1,n2,n3,n4,n5,n6⟩:=cells_7 HN1.out
 go_wp2_with fail
 refine Calls.mono (HIS.out _) ?_
 rintro e w2 ⟨rfl,hb2⟩
 have HB2:Hid (Below w.heap.size w w2):=trans2 HB1.out hb2
 have HN2:Hid _:=kept_block hb2 HN1.out
 clear hb2 n0 n1 n2 n3 n4 n5 n6
 obtain ⟨n0,n1,n2,n3,n4,n5,n6⟩:=cells_7 HN2.out
 cases hip:isP p with
 | false =>
   obtain rfl:false=res:=(fitsB_no (fun h=>by have h9:isP p=true:=h.1;rw [hip] at h9;cases h9)).symm.trans HRES.out
   go_wp2_with fail
   go_ret
   exact ⟨rfl,HB2.out⟩
 | true =>
 have HIP:Hid (isP p=true):=hip
 clear hip
 by_cases hd:(64:Int)<(d.size:Int)
 · obtain rfl:false=res:=(fitsB_no (fun h=>by have h9:d.size≤64:=h.2.1;omega)).symm.trans HRES.out
   go_wp2_with fail
   go_ret
   exact ⟨rfl,HB2.out⟩
 have HD:Hid (d.size≤64):=by show _≤_;omega
 go_wp2_with fail
 refine Calls.mono (HI.out v 2147483647 _) ?_
 rintro e w20 ⟨rfl,rfl⟩
 cases hb1:inR v 2147483647 with
 | false =>
   obtain rfl:false=res:=(fitsB_no (fun h=>by have h9:inR v 2147483647=true:=h.2.2.1;rw [hb1] at h9;cases h9)).symm.trans HRES.out
   go_wp2_with fail
   go_ret
   exact ⟨rfl,HB2.out⟩
 | true =>
 have HI1:Hid (inR v 2147483647=true):=hb1
 clear hb1
 go_wp2_with fail
 refine Calls.mono (HI.out m 2147483647 _) ?_
 rintro e w21 ⟨rfl,rfl⟩
 cases hb2:inR m 2147483647 with
 | false =>
   obtain rfl:false=res:=(fitsB_no (fun h=>by have h9:inR m 2147483647=true:=h.2.2.2.1;rw [hb2] at h9;cases h9)).symm.trans HRES.out
   go_wp2_with fail
   go_ret
   exact ⟨rfl,HB2.out⟩
 | true =>
 have HI2:Hid (inR m 2147483647=true):=hb2
 clear hb2
 go_wp2_with fail
 refine Calls.mono (HI.out ch 2147483647 _) ?_
 rintro e w22 ⟨rfl,rfl⟩
 cases hb3:inR ch 2147483647 with
 | false =>
   obtain rfl:false=res:=(fitsB_no (fun h=>by have h9:inR ch 2147483647=true:=h.2.2.2.2.1;rw [hb3] at h9;cases h9)).symm.trans HRES.out
   go_wp2_with fail
   go_ret
   exact ⟨rfl,HB2.out⟩
 | true =>
 have HI3:Hid (inR ch 2147483647=true):=hb3
 clear hb3
 go_wp2_with fail
 refine Calls.mono (HI.out o 2147483647 _) ?_
 rintro e w23 ⟨rfl,rfl⟩
 cases hb4:inR o 2147483647 with
 | false =>
   obtain rfl:false=res:=(fitsB_no (fun h=>by have h9:inR o 2147483647=true:=h.2.2.2.2.2.1;rw [hb4] at h9;cases h9)).symm.trans HRES.out
   go_wp2_with fail
   go_ret
   exact ⟨rfl,HB2.out⟩
 | true =>
 have HI4:Hid (inR o 2147483647=true):=hb4
 clear hb4
 go_wp2_with fail
 refine Calls.mono (HI.out k 100000 _) ?_
 rintro e w24 ⟨rfl,rfl⟩
 cases hb5:inR k 100000 with
 | false =>
   obtain rfl:false=res:=(fitsB_no (fun h=>by have h9:inR k 100000=true:=h.2.2.2.2.2.2.1;rw [hb5] at h9;cases h9)).symm.trans HRES.out
   go_wp2_with fail
   go_ret
   exact ⟨rfl,HB2.out⟩
 | true =>
 have HI5:Hid (inR k 100000=true):=hb5
 clear hb5
 by_cases hok:0<o∧0<k
 · obtain rfl:false=res:=(fitsB_no (fun h=>h.2.2.2.2.2.2.2.1 hok)).symm.trans HRES.out
   obtain ⟨hok1,hok2⟩:=hok
   go_wp2_with fail
   go_ret
   exact ⟨rfl,HB2.out⟩
 have HOK:Hid (¬ (0<o∧0<k)):=hok
 have HTL:Hid (∀ b,tailB P ⟨p,d,v,m,ch,o,k⟩=b→res=b):=fun b hb=>by
  cases b with
  | true=>exact HRES.out.symm.trans (fitsB_iff.2 ⟨HIP.out,HD.out,HI1.out,HI2.out,HI3.out,HI4.out,HI5.out,HOK.out,hb⟩)
  | false=>exact HRES.out.symm.trans (fitsB_no (fun h=>by have h9:tailB P ⟨p,d,v,m,ch,o,k⟩=true:=h.2.2.2.2.2.2.2.2;rw [hb] at h9;cases h9))
 have hoc:(¬ 0<o)∨(0<o∧¬ 0<k):=by omega
 clear hok hd
 rcases hoc with hoc | ⟨hoc,hkc⟩
 · skip
   by_cases hz:N=0
   · have hPn:P=[]:=List.length_eq_zero_iff.1 (by rw [HN.out];exact hz)
     have hz2:((N:Int)==0)=true:=by simp [hz]
     have htl:tailB P ⟨p,d,v,m,ch,o,k⟩=decide (p=pRt∧o=0):=by rw [hPn];rfl
     by_cases hpr:p=pRt
     · subst hpr
       by_cases ho:o=0
       · obtain rfl:res=true:=HTL.out true (by rw [htl];simp [ho])
         have hob:(o==0)=true:=by simpa using ho
         clear htl ho hz hPn
         go_wp2_with fail
         go_ret
         exact ⟨rfl,HB2.out⟩
       · obtain rfl:res=false:=HTL.out false (by rw [htl];simp [ho])
         have hob:(o==0)=false:=by simpa using ho
         clear htl ho hz hPn
         go_wp2_with fail
         go_ret
         exact ⟨rfl,HB2.out⟩
     · obtain rfl:res=false:=HTL.out false (by rw [htl];simp [hpr])
       have hc2:(p.toList==[47])=false:=by
        cases h9:(p.toList==[47]) with
        | false=>rfl
        | true =>
          exfalso
          have h8:p.toList=[47]:=by simpa using h9
          rw [ByteArray.toList_eq] at h8
          exact hpr (ByteArray.ext (Array.ext' h8))
       clear htl hz hPn
       go_wp2_with fail
       go_ret
       exact ⟨rfl,HB2.out⟩
   · have hz2:((N:Int)==0)=false:=by have:¬ (N:Int)=0:=by omega
                                     simpa using this
     obtain ⟨n,hn⟩:∃ n,N=n+1:=⟨N - 1,by omega⟩
     obtain ⟨z,hzz⟩:∃ z,P[n]? = some z:=⟨P[n]'(by rw [HN.out];omega),List.getElem?_eq_getElem _⟩
     have hzl:P.getLast? = some z:=by rw [List.getLast?_eq_getElem?,HN.out,hn];exact hzz
     have htl:tailB P ⟨p,d,v,m,ch,o,k⟩=(decide (parC p=0) && decide (O z.p p<0) && (match fnd P (parB p) with | some u=>decide (u.o=0) | none=>false)):=by unfold tailB;rw [hzl]
     have HTB:Hid _:=htl
     obtain ⟨gb,gf,rfl⟩:=H.out.some hzz
     have HZZ:Hid (P[n]? = some z):=hzz
     have HOZ:Hid _:=HOR.out z (List.mem_of_getElem? hzz)
     have hn1:IntKind.i64.wrap ((N:Int) - 1)=(n:Int):=by rw [IntKind.wrap_i64];omega
     have hn1b:wrap64 ((N:Int) - 1)=(n:Int):=by unfold wrap64;omega
     have hn1c:(N:Int) - 1=(n:Int):=by omega
     have hn2:(0:Int)≤(n:Int):=by omega
     have hn3:(n:Int)<(N:Int):=by omega
     clear htl hz hzl hzz hn hn1b hn1c
     go_wp2_with fail
     refine Calls.mono (HPA.out _) ?_
     rintro e w8 ⟨rfl,hb8⟩
     have HB8:Hid (Below w.heap.size w w8):=trans2 HB2.out hb8
     have HN8:Hid _:=kept_block hb8 HN2.out
     clear hb8 n0 n1 n2 n3 n4 n5 n6
     obtain ⟨n0,n1,n2,n3,n4,n5,n6⟩:=cells_7 HN8.out
     obtain ⟨hzl,z0,z1,z2,z3,z4,z5,z6⟩:=(H.out.below HB8.out).cells HZZ.out
     obtain ⟨pc,hpc⟩:∃ c,parC p=c:=⟨_,rfl⟩
     obtain ⟨oo,hoo⟩:∃ c,O z.p p=c:=⟨_,rfl⟩
     simp only [hpc] at HTB ⊢
     rw [hoo] at HTB HOZ
     clear hpc hoo
     go_upto_region 9 with fail
     go_region_held3 (fun w'=>w'.cell? ⟨nb,0,none⟩=some (.string p)∧w'.cell? ⟨gb,gf+n * 7,none⟩=some (.string z.p)) (first | (simp only [World.cell?_drew,n0,z0,and_self]) | go_keep)
      (first
        | (go_at_call 35;refine Calls.mono (HOZ.out _) ?_;rintro e w9 ⟨rfl,rfl⟩))
     obtain ⟨w9,hw9⟩:∃ x,w8.drew=x:=⟨_,rfl⟩
     have HB9:Hid (Below w.heap.size w w9):=by rw [← hw9];exact below_drew HB8.out
     rw [hw9]
     clear hw9 n0 n1 n2 n3 n4 n5 n6 z0 z1 z2 z3 z4 z5 z6
     by_cases hpz:pc=0
     · subst hpz
       by_cases hlo:oo<0
       · have hge:¬ 0≤oo:=by omega
         go_wp2_with fail
         refine Calls.mono (HFI.out _ HB9.out) ?_
         rintro e w10 ⟨rfl,rfl⟩
         cases hf:fnd P (parB p) with
         | none =>
           obtain rfl:res=false:=HTL.out false (by rw [HTB.out,hf];simp)
           have hfi:fndI P (parB p)=-1:=fndI_none (fnd_none hf)
           simp only [hfi]
           go_wp2_with fail
           go_ret
           exact ⟨rfl,HB9.out⟩
         | some u =>
           obtain ⟨i,hfi,hu,_⟩:=fndI_fnd hf
           obtain ⟨hul,y0,y1,y2,y3,y4,y5,y6⟩:=(H.out.below HB9.out).cells hu
           have hil:(i:Int)<(N:Int):=by have:=(List.getElem?_eq_some_iff.1 hu).1;rw [HN.out] at this;omega
           have hi1:(0:Int)≤(i:Int):=by omega
           simp only [hfi]
           by_cases huo:u.o=0
           · obtain rfl:res=true:=HTL.out true (by rw [HTB.out,hf];simp [huo,hlo])
             rw [huo] at y5
             clear hu hf hfi huo
             go_wp2_with fail
             go_ret
             exact ⟨rfl,HB9.out⟩
           · obtain rfl:res=false:=HTL.out false (by rw [HTB.out,hf];simp [huo])
             have hub:(u.o==0)=false:=by simpa using huo
             clear hu hf hfi huo
             go_wp2_with fail
             go_ret
             exact ⟨rfl,HB9.out⟩
       · obtain rfl:res=false:=HTL.out false (by rw [HTB.out];simp [hlo])
         have hge:0≤oo:=by omega
         go_wp2_with fail
         go_ret
         exact ⟨rfl,HB9.out⟩
     · obtain rfl:res=false:=HTL.out false (by rw [HTB.out];simp [hpz])
       have hpb:(pc != 0)=true:=by simpa using hpz
       clear hpz
       go_wp2_with fail
       go_ret
       exact ⟨rfl,HB9.out⟩
 · skip
   by_cases hz:N=0
   · have hPn:P=[]:=List.length_eq_zero_iff.1 (by rw [HN.out];exact hz)
     have hz2:((N:Int)==0)=true:=by simp [hz]
     have htl:tailB P ⟨p,d,v,m,ch,o,k⟩=decide (p=pRt∧o=0):=by rw [hPn];rfl
     by_cases hpr:p=pRt
     · subst hpr
       by_cases ho:o=0
       · obtain rfl:res=true:=HTL.out true (by rw [htl];simp [ho])
         have hob:(o==0)=true:=by simpa using ho
         clear htl ho hz hPn
         go_wp2_with fail
         go_ret
         exact ⟨rfl,HB2.out⟩
       · obtain rfl:res=false:=HTL.out false (by rw [htl];simp [ho])
         have hob:(o==0)=false:=by simpa using ho
         clear htl ho hz hPn
         go_wp2_with fail
         go_ret
         exact ⟨rfl,HB2.out⟩
     · obtain rfl:res=false:=HTL.out false (by rw [htl];simp [hpr])
       have hc2:(p.toList==[47])=false:=by
        cases h9:(p.toList==[47]) with
        | false=>rfl
        | true =>
          exfalso
          have h8:p.toList=[47]:=by simpa using h9
          rw [ByteArray.toList_eq] at h8
          exact hpr (ByteArray.ext (Array.ext' h8))
       clear htl hz hPn
       go_wp2_with fail
       go_ret
       exact ⟨rfl,HB2.out⟩
   · have hz2:((N:Int)==0)=false:=by have:¬ (N:Int)=0:=by omega
                                     simpa using this
     obtain ⟨n,hn⟩:∃ n,N=n+1:=⟨N - 1,by omega⟩
     obtain ⟨z,hzz⟩:∃ z,P[n]? = some z:=⟨P[n]'(by rw [HN.out];omega),List.getElem?_eq_getElem _⟩
     have hzl:P.getLast? = some z:=by rw [List.getLast?_eq_getElem?,HN.out,hn];exact hzz
     have htl:tailB P ⟨p,d,v,m,ch,o,k⟩=(decide (parC p=0) && decide (O z.p p<0) && (match fnd P (parB p) with | some u=>decide (u.o=0) | none=>false)):=by unfold tailB;rw [hzl]
     have HTB:Hid _:=htl
     obtain ⟨gb,gf,rfl⟩:=H.out.some hzz
     have HZZ:Hid (P[n]? = some z):=hzz
     have HOZ:Hid _:=HOR.out z (List.mem_of_getElem? hzz)
     have hn1:IntKind.i64.wrap ((N:Int) - 1)=(n:Int):=by rw [IntKind.wrap_i64];omega
     have hn1b:wrap64 ((N:Int) - 1)=(n:Int):=by unfold wrap64;omega
     have hn1c:(N:Int) - 1=(n:Int):=by omega
     have hn2:(0:Int)≤(n:Int):=by omega
     have hn3:(n:Int)<(N:Int):=by omega
     clear htl hz hzl hzz hn hn1b hn1c
     go_wp2_with fail
     refine Calls.mono (HPA.out _) ?_
     rintro e w8 ⟨rfl,hb8⟩
     have HB8:Hid (Below w.heap.size w w8):=trans2 HB2.out hb8
     have HN8:Hid _:=kept_block hb8 HN2.out
     clear hb8 n0 n1 n2 n3 n4 n5 n6
     obtain ⟨n0,n1,n2,n3,n4,n5,n6⟩:=cells_7 HN8.out
     obtain ⟨hzl,z0,z1,z2,z3,z4,z5,z6⟩:=(H.out.below HB8.out).cells HZZ.out
     obtain ⟨pc,hpc⟩:∃ c,parC p=c:=⟨_,rfl⟩
     obtain ⟨oo,hoo⟩:∃ c,O z.p p=c:=⟨_,rfl⟩
     simp only [hpc] at HTB ⊢
     rw [hoo] at HTB HOZ
     clear hpc hoo
     go_upto_region 9 with fail
     go_region_held3 (fun w'=>w'.cell? ⟨nb,0,none⟩=some (.string p)∧w'.cell? ⟨gb,gf+n * 7,none⟩=some (.string z.p)) (first | (simp only [World.cell?_drew,n0,z0,and_self]) | go_keep)
      (first
        | (go_at_call 35;refine Calls.mono (HOZ.out _) ?_;rintro e w9 ⟨rfl,rfl⟩))
     obtain ⟨w9,hw9⟩:∃ x,w8.drew=x:=⟨_,rfl⟩
     have HB9:Hid (Below w.heap.size w w9):=by rw [← hw9];exact below_drew HB8.out
     rw [hw9]
     clear hw9 n0 n1 n2 n3 n4 n5 n6 z0 z1 z2 z3 z4 z5 z6
     by_cases hpz:pc=0
     · subst hpz
       by_cases hlo:oo<0
       · have hge:¬ 0≤oo:=by omega
         go_wp2_with fail
         refine Calls.mono (HFI.out _ HB9.out) ?_
         rintro e w10 ⟨rfl,rfl⟩
         cases hf:fnd P (parB p) with
         | none =>
           obtain rfl:res=false:=HTL.out false (by rw [HTB.out,hf];simp)
           have hfi:fndI P (parB p)=-1:=fndI_none (fnd_none hf)
           simp only [hfi]
           go_wp2_with fail
           go_ret
           exact ⟨rfl,HB9.out⟩
         | some u =>
           obtain ⟨i,hfi,hu,_⟩:=fndI_fnd hf
           obtain ⟨hul,y0,y1,y2,y3,y4,y5,y6⟩:=(H.out.below HB9.out).cells hu
           have hil:(i:Int)<(N:Int):=by have:=(List.getElem?_eq_some_iff.1 hu).1;rw [HN.out] at this;omega
           have hi1:(0:Int)≤(i:Int):=by omega
           simp only [hfi]
           by_cases huo:u.o=0
           · obtain rfl:res=true:=HTL.out true (by rw [HTB.out,hf];simp [huo,hlo])
             rw [huo] at y5
             clear hu hf hfi huo
             go_wp2_with fail
             go_ret
             exact ⟨rfl,HB9.out⟩
           · obtain rfl:res=false:=HTL.out false (by rw [HTB.out,hf];simp [huo])
             have hub:(u.o==0)=false:=by simpa using huo
             clear hu hf hfi huo
             go_wp2_with fail
             go_ret
             exact ⟨rfl,HB9.out⟩
       · obtain rfl:res=false:=HTL.out false (by rw [HTB.out];simp [hlo])
         have hge:0≤oo:=by omega
         go_wp2_with fail
         go_ret
         exact ⟨rfl,HB9.out⟩
     · obtain rfl:res=false:=HTL.out false (by rw [HTB.out];simp [hpz])
       have hpb:(pc != 0)=true:=by simpa using hpz
       clear hpz
       go_wp2_with fail
       go_ret
       exact ⟨rfl,HB9.out⟩
end Go.Proofs.YtckmihplkhmpnaaGreatDoor
namespace Go.Proofs.YtckmihplkhmpnaaGreatDoor
open Go.RowKit Go.Maps Go.WideShapes
set_option linter.unusedVariables false
set_option linter.unusedSimpArgs false
attribute [local go_sem ↓] Go.wp_at_zero Go.wp_at_succ
def LoadD (w:World) (T:List Nd) (e:Ending) (w':World):Prop:=Below w.heap.size w w'∧((loadC T≠0∧e=.returned (.tuple #[rtV none 0 0,.int .i64 (loadC T)]))∨(loadC T=0∧∃ la lc,e=.returned (.tuple #[rtV la T.length lc,.int .i64 0])∧NdsAt w' la T))
set_option maxHeartbeats 8000000 in
set_option maxRecDepth 100000 in
theorem refLoad_all (a:Option Addr) (c:Nat) (T:List Nd) (w:World) (hsz:∀ x∈T,x.p.size≤maxLen∧x.d.size≤maxLen) (h:NdsAt w a T) :
  Calls Tryz.prog 4 #[.slice a T.length c] w (LoadD w T):=by
 obtain ⟨i0,hi0,hz0,hz1,hz2⟩:=info_parts Tryz.infoRF
 have H:Hid (NdsAt w a T):=h
 have HSZ:Hid _:=hsz
 obtain ⟨N,hN⟩:∃ N,T.length=N:=⟨_,rfl⟩
 have HN:Hid (T.length=N):=hN
 rw [hN]
 clear h hN hsz
 go_enter Tryz.func4,Tryz.ntmps4
 go_upto_region 1 with fail
 obtain ⟨w1,hw1⟩:∃ y,w.alloc (.cells #[.slice none 0 0] 29)=y:=⟨_,rfl⟩
 obtain ⟨tb,htb⟩:∃ y,w.heap.size=y:=⟨_,rfl⟩
 have HB1:Hid (Below w.heap.size w w1):=by rw [← hw1];exact (Below.refl _ _).alloc (Nat.le_refl _) _
 have HX1:Hid (w1.heap[tb]? = some (.cells #[.slice none 0 0] 29 (0,0))):=by rw [← hw1,← htb];exact heap_alloc_new _ _
 have HTB:Hid (w.heap.size=tb):=htb
 rw [hw1,htb]
 clear hw1 htb
 by_cases hn64:(64:Int)<(N:Int)
 · have e:loadC T=2:=by unfold loadC;rw [if_pos (by rw [HN.out];omega)]
   have HE:Hid (∀ w',Below w.heap.size w w'→LoadD w T (.returned (.tuple #[rtV none 0 0,.int .i64 2])) w'):=fun w' hb=>⟨hb,.inl ⟨by rw [e];decide,by rw [e]⟩⟩
   have y0:=cells_1 HX1.out
   have yf:=free_1 HX1.out
   clear e
   go_wp2_with fail
   exact bodyPost_ret (results_cell_tmp rfl _ _ tb 29 _ (0,0) _ (.int .i64 2) rfl rfl (fill_1 HX1.out) Tryz.underlying29 rfl (by kernel_rfl)) rfl (HE.out _ (HB1.out.setCell (by rw [HTB.out];exact Nat.le_refl _) _))
 have hT:N≤64:=by omega
 go_wp2_with fail
 go_loopw [4,5] (fun v i wr=>∃ (q:Nat) (la:Option Addr) (lc:Nat),i=.int .i64 q∧q≤N∧v=.slice la q lc∧Hid (Upto T q)∧Hid (wr.ownsRow w1.heap.size 26 7 v q ((T.take q).flatMap Nd.cs))∧Hid (Below w1.heap.size w1 wr)) (fun _ i _=>N - (intOf i).toNat)
 case atStart=>exact ⟨0,none,0,rfl,Nat.zero_le _,rfl,⟨Acc.nil,rfl⟩,World.ownsRow_nil _ _ _ _,Below.refl _ _⟩
 case round =>
  obtain ⟨q,la,lc,rfl,hq,hv,HUP,HO,HB⟩:=hrel
  have HV:Hid (u4=.slice la q lc):=hv
  clear hv
  have HXr:Hid _:=kept_block HB.out HX1.out
  by_cases hlt:q<N
  · have hlt':(q:Int)<(N:Int):=by omega
    obtain ⟨x,hx⟩:∃ x,T[q]? = some x:=⟨T[q]'(by rw [HN.out];exact hlt),List.getElem?_eq_getElem _⟩
    obtain ⟨gb,gf,rfl⟩:=H.out.some hx
    obtain ⟨hgl,x0,x1,x2,x3,x4,x5,x6⟩:=(H.out.below (trans2 HB1.out HB.out)).cells hx
    have HTK:Hid (T.take (q+1)=T.take q ++ [x]):=by show _=_;rw [List.take_add_one,hx];rfl
    have HFT:Hid (Calls Tryz.prog 13 #[u4,x.V] wr fun e w'=>e=.returned (.bool (stepB (T.take q) x))∧Below wr.heap.size wr w'):=by
     have h9:=HO.out
     rw [HV.out] at h9 ⊢
     have h8:=fits_all (T.take q) x la lc wr (nds_row' h9) (by rw [List.length_take];omega) (fun y hy=>(HSZ.out y (List.mem_of_mem_take hy)).1) (HSZ.out x (List.mem_of_getElem? hx)).1 (HSZ.out x (List.mem_of_getElem? hx)).2
     rw [show (T.take q).length=q by rw [List.length_take,HN.out];omega,fits_step HUP.out.1] at h8
     exact h8
    have HNO:Hid (stepB (T.take q) x=false→loadC T=1):=fun h9=>HUP.out.no hx h9 (by rw [HN.out];exact hT)
    have HYE:Hid (stepB (T.take q) x=true→Upto T (q+1)):=fun h9=>HUP.out.next hx (by omega) h9
    obtain ⟨SB,hSB⟩:∃ s,stepB (T.take q) x=s:=⟨_,rfl⟩
    rw [hSB] at HFT HNO HYE
    clear hSB
    have HXX:Hid (T[q]? = some x):=hx
    have hs:=HB.out.size
    clear hx
    go_wp2_with fail
    refine Calls.mono HFT.out ?_
    rintro e w3 ⟨rfl,hb3⟩
    have HO3:Hid (w3.ownsRow w1.heap.size 26 7 u4 q ((T.take q).flatMap Nd.cs)):=owns_chg HO.out (Chg.of_below hb3 (fun _=>False)) (fun _ _=>id)
    have HB3:Hid (Below w1.heap.size w1 w3):=trans2 HB.out hb3
    have hs3:=HB3.out.size
    clear hb3 x0 x1 x2 x3 x4 x5 x6
    cases hsb:SB with
    | false =>
      rw [hsb] at HNO
      have HE:Hid (∀ w',Below w.heap.size w w'→LoadD w T (.returned (.tuple #[rtV none 0 0,.int .i64 1])) w'):=fun w' hb=>⟨hb,.inl ⟨by rw [HNO.out rfl];decide,by rw [HNO.out rfl]⟩⟩
      have HX3:Hid _:=kept_block HB3.out HX1.out
      have y0:=cells_1 HX3.out
      have yf:=free_1 HX3.out
      go_wp2_with fail
      exact bodyPost_ret (results_cell_tmp rfl _ _ tb 29 _ (0,0) _ (.int .i64 1) rfl rfl (fill_1 HX3.out) Tryz.underlying29 rfl (by kernel_rfl)) rfl (HE.out _ ((trans2 HB1.out HB3.out).setCell (by rw [HTB.out];exact Nat.le_refl _) _))
    | true =>
    rw [hsb] at HYE
    have HY:Hid _:=HYE.out rfl
    clear hsb HYE HNO
    obtain ⟨hgl3,x0,x1,x2,x3,x4,x5,x6⟩:=(H.out.below (trans2 HB1.out HB3.out)).cells HXX.out
    obtain ⟨U,hU⟩:∃ U,T.take q=U:=⟨_,rfl⟩
    rw [hU] at HO3 HTK
    clear hU
    go_wp2_with (first
     | (at_builtin;refine wpList_append_lies _ rfl _ _ _ rfl w1.heap.size 26 i0 _ 7 72 Tryz.underlying24 hi0 hz0 hz1 hz2 rfl (by omega) u4 q (U.flatMap Nd.cs) rfl (World.ownsRow.alloc HO3.out _) ⟨w3.heap.size,0,none⟩ 1 1 [.string x.p,.string x.d,.int .i64 x.v,.int .i64 x.m,.int .i64 x.c,.int .i64 x.o,.int .i64 x.k] rfl rfl (World.news_of_block (cs:=#[.string x.p,.string x.d,.int .i64 x.v,.int .i64 x.m,.int .i64 x.c,.int .i64 x.o,.int .i64 x.k]) (t:=26) (fr:=(0,0)) (heap_alloc_new w3 _)) (by simp [Value.oneCell']) (by omega) (by unfold maxLen;omega) (by omega) (by simp;omega) (w3.heap.size+1) (by simp) ?_
        intro g4 cap4 w4 hown4 hgrow4 hat4 hlt4
        have HN4:Hid (w4.ownsRow w1.heap.size 26 7 (.slice (some ⟨g4,0,none⟩) (q+1) cap4) (q+1) (U.flatMap Nd.cs ++ [.string x.p,.string x.d,.int .i64 x.v,.int .i64 x.m,.int .i64 x.c,.int .i64 x.o,.int .i64 x.k])):=hown4
        have HB4:Hid (Below w1.heap.size w1 w4):=HB3.out.trans (((Below.refl _ _).alloc (by omega) _).grown hgrow4 (by simp;omega) (fun j hj=>(HO3.out.lt j hj).1))
        clear hown4 hgrow4 hat4 hlt4)
     | fail)
    go_roundw
    case rel=>exact ⟨q+1,some ⟨g4,0,none⟩,cap4,by go_num,by omega,rfl,HY.out,by show World.ownsRow _ _ _ _ _ _ _;rw [HTK.out,List.flatMap_append];have h9:=HN4.out;simpa using h9,HB4.out⟩
    case measure=>simp [intOf];omega
  · obtain rfl:q=N:=by omega
    obtain rfl:=HV.out
    have hge:¬ (q:Int)<(q:Int):=by omega
    have HLC:Hid (loadC T=if T=[] then 1 else 0):=by
     have h9:=HUP.out
     rw [← HN.out] at h9
     exact h9.all (by rw [HN.out];exact hT)
    have y0:=cells_1 HXr.out
    have yf:=free_1 HXr.out
    by_cases hz:q=0
    · have hTn:T=[]:=List.length_eq_zero_iff.1 (by rw [HN.out];exact hz)
      have hz2:((q:Int)==0)=true:=by simp [hz]
      have HE:Hid (∀ w',Below w.heap.size w w'→LoadD w T (.returned (.tuple #[rtV none 0 0,.int .i64 1])) w'):=fun w' hb=>by
       have h9:=HLC.out
       rw [if_pos hTn] at h9
       exact ⟨hb,.inl ⟨by rw [h9];decide,by rw [h9]⟩⟩
      clear hTn hz
      go_wp2_with fail
      exact bodyPost_ret (results_cell_tmp rfl _ _ tb 29 _ (0,0) _ (.int .i64 1) rfl rfl (fill_1 HXr.out) Tryz.underlying29 rfl (by kernel_rfl)) rfl (HE.out _ ((trans2 HB1.out HB.out).setCell (by rw [HTB.out];exact Nat.le_refl _) _))
    · have hq0:((q:Int)==0)=false:=by have:¬ (q:Int)=0:=by omega
                                      simpa using this
      have HL0:Hid (loadC T=0):=by
       have h9:=HLC.out
       rw [if_neg (fun e=>hz (by rw [← HN.out,e];rfl))] at h9
       exact h9
      have HOT:Hid (wr.ownsRow w1.heap.size 26 7 (.slice la q lc) q (T.flatMap Nd.cs)):=by
       have h9:=HO.out
       rw [List.take_of_length_le (by rw [HN.out];exact Nat.le_refl _)] at h9
       exact h9
      have hset:(wr.setCell ⟨tb,0,none⟩ (.slice la q lc)).ownsRow w1.heap.size 26 7 (.slice la q lc) q (T.flatMap Nd.cs):=owns_chg HOT.out (Chg.set _ _ _) (fun k hk e=>by
       have:=(HOT.out.lt k hk).1
       have e':k=tb:=e
       have:=(Array.getElem?_eq_some_iff.1 HX1.out).1
       omega)
      have HSET:Hid (NdsAt (wr.setCell ⟨tb,0,none⟩ (.slice la q lc)) la T):=nds_row' hset
      clear hz hset
      go_wp2_with fail
      exact bodyPost_ret (results_cell_tmp rfl _ _ tb 29 _ (0,0) _ (.int .i64 0) rfl rfl (fill_1 HXr.out) Tryz.underlying29 rfl (by kernel_rfl)) rfl ⟨(trans2 HB1.out HB.out).setCell (by rw [HTB.out];exact Nat.le_refl _) _,.inr ⟨HL0.out,la,lc,by rw [HN.out],HSET.out⟩⟩
end Go.Proofs.YtckmihplkhmpnaaGreatDoor
