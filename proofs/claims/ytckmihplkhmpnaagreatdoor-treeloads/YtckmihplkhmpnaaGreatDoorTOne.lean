import Derived.Test.YtckmihplkhmpnaaGreatDoorTMis
import Derived.Test.YtckmihplkhmpnaaGreatDoorTDig
import Derived.Test.YtckmihplkhmpnaaGreatDoorTUntouched
namespace Go.Proofs.YtckmihplkhmpnaaGreatDoor
open Go.RowKit Go.Maps Go.WideShapes
set_option linter.unusedVariables false
set_option linter.unusedSimpArgs false
structure ResT where
 p:ByteArray
 d:ByteArray
 v:Int
 m:Int
 c:Int
 o:Int
 kids:List ByteArray
abbrev zr:ResT:=⟨⟨#[]⟩,⟨#[]⟩,0,0,0,0,[]⟩
structure ChT where
 k:Int
 p:ByteArray
 d:ByteArray
 v:Int
abbrev ChT.cells (x:ChT):List Value:=[.int .i64 x.k,.string x.p,.string x.d,.int .i64 x.v]
def chCs (l:List ChT):List Value:=l.flatMap ChT.cells
def fnd (T:List Nd) (s:ByteArray):Option Nd:=T.find? (fun x=>decide (x.p=s))
def upd (T:List Nd) (y:Nd):List Nd:=T.map (fun x=>if x.p=y.p then y else x)
def ins (n:Nd):List Nd→List Nd
 | []=>[n]
 | x :: r=>if O n.p x.p=-1 then n :: x :: r else x :: ins n r
def atOf (p:ByteArray) (f k:Int):ByteArray:=if 2≤f then mk (p.data.toList ++ five k.toNat) else p
theorem fnd_some {T:List Nd} {s:ByteArray} {x:Nd} (h:fnd T s=some x):x∈T∧x.p=s:=⟨List.mem_of_find?_eq_some h,by simpa using List.find?_some h⟩
theorem fnd_none {T:List Nd} {s:ByteArray} (h:fnd T s=none):∀ x∈T,x.p≠s:=fun x hx e=>by
 have:=List.find?_eq_none.1 h x hx
 simp [e] at this
theorem Rep.has_fnd {D:DataW Value} {T:List Nd} (h:Rep D T) (s:ByteArray):Maps.has D (ky s)=(fnd T s).isSome:=by
 cases hf:fnd T s with
 | none =>
   cases hh:Maps.has D (ky s) with
   | false=>rfl
   | true =>
     obtain ⟨x,hx,e⟩:=(h.has s).1 hh
     exact absurd e (fnd_none hf x hx)
 | some x=>exact (h.has s).2 ⟨x,(fnd_some hf).1,(fnd_some hf).2⟩
theorem Rep.look_fnd {D:DataW Value} {T:List Nd} (h:Rep D T) {s:ByteArray} {x:Nd} (hf:fnd T s=some x):Go.Proofs.YtckmihplkhmpnaaGreatDoor.look D s=x.V:=by
 rw [← (fnd_some hf).2]
 exact h.look x (fnd_some hf).1
theorem Rep.look_none {D:DataW Value} {T:List Nd} (h:Rep D T) {s:ByteArray} (hf:fnd T s=none):Go.Proofs.YtckmihplkhmpnaaGreatDoor.look D s=zf:=by
 have h1:=h.has_fnd s
 rw [hf] at h1
 unfold Go.Proofs.YtckmihplkhmpnaaGreatDoor.look
 rw [atKey_of_not_has h1]
theorem upd_map (T:List Nd) (y:Nd):(upd T y).map Nd.p=T.map Nd.p:=by
 unfold upd
 rw [List.map_map]
 apply List.map_congr_left
 intro x _
 simp only [Function.comp]
 split
 · rename_i h;exact h.symm
 · rfl
theorem upd_len (T:List Nd) (y:Nd):(upd T y).length=T.length:=by simp [upd]
theorem upd_perm {T:List Nd} {y:Nd} (hnd:(T.map Nd.p).Nodup) (hy:∃ u∈T,u.p=y.p):(upd T y).Perm (y :: T.filter (fun x=>decide (x.p≠y.p))):=by
 induction T with
 | nil=>obtain ⟨u,hu,_⟩:=hy;cases hu
 | cons x r ih =>
   rw [List.map_cons,List.nodup_cons] at hnd
   by_cases hx:x.p=y.p
   · have hr:r.filter (fun x=>decide (x.p≠y.p))=r:=List.filter_eq_self.2 (fun z hz=>by
      have:z.p≠y.p:=fun e=>hnd.1 (by rw [hx,← e];exact List.mem_map_of_mem hz)
      simpa using this)
     have hu:upd r y=r:=by
      unfold upd
      conv=>rhs;rw [← List.map_id r]
      apply List.map_congr_left
      intro z hz
      have:z.p≠y.p:=fun e=>hnd.1 (by rw [hx,← e];exact List.mem_map_of_mem hz)
      simp [this]
     have e1:upd (x :: r) y=y :: upd r y:=by simp [upd,hx]
     rw [e1,hu,List.filter_cons,if_neg (by simp [hx]),hr]
   · have e1:upd (x :: r) y=x :: upd r y:=by simp [upd,hx]
     have e2:(x :: r).filter (fun x=>decide (x.p≠y.p))=x :: r.filter (fun x=>decide (x.p≠y.p)):=by rw [List.filter_cons,if_pos (by simpa using hx)]
     obtain ⟨u,hu,hup⟩:=hy
     have hur:u∈r:=by
      rcases List.mem_cons.1 hu with rfl | hu
      · exact absurd hup hx
      · exact hu
     rw [e1,e2]
     exact ((ih hnd.2 ⟨u,hur,hup⟩).cons x).trans (List.Perm.swap _ _ _)
theorem ins_perm (n:Nd):∀ T:List Nd,(ins n T).Perm (n :: T)
 | []=>List.Perm.refl _
 | x :: r=>by
   unfold ins
   split
   · exact List.Perm.refl _
   · exact ((ins_perm n r).cons x).trans (List.Perm.swap _ _ _)
theorem ins_len (n:Nd) (T:List Nd):(ins n T).length=T.length+1:=by rw [(ins_perm n T).length_eq];rfl
theorem Srt.of_map {T U:List Nd} (h:Srt T) (e:U.map Nd.p=T.map Nd.p):Srt U:=by
 have h1:(T.map Nd.p).Pairwise (fun a b=>O a b=-1):=List.pairwise_map.2 h
 rw [← e] at h1
 exact List.pairwise_map.1 h1
theorem Srt.upd {T:List Nd} (h:Srt T) (y:Nd):Srt (upd T y):=h.of_map (upd_map T y)
theorem Srt.ins {n:Nd}:∀ {T:List Nd},Srt T→(∀ x∈T,x.p≠n.p)→Srt (ins n T)
 | [],_,_=>List.pairwise_singleton _ _
 | x :: r,h,hn=>by
   obtain ⟨h1,h2⟩:=List.pairwise_cons.1 h
   unfold Go.Proofs.YtckmihplkhmpnaaGreatDoor.ins
   split
   · rename_i hlt
     refine List.pairwise_cons.2 ⟨fun z hz=>?_,h⟩
     rcases List.mem_cons.1 hz with rfl | hz
     · exact hlt
     · exact O_trans hlt (h1 z hz)
   · rename_i hlt
     refine List.pairwise_cons.2 ⟨fun z hz=>?_,Srt.ins h2 (fun z hz=>hn z (List.mem_cons_of_mem _ hz))⟩
     rcases List.mem_cons.1 ((ins_perm n r).mem_iff.1 hz) with rfl | hz
     · rcases O_range z.p x.p with e | e | e
       · exact absurd e hlt
       · exact absurd (O_zero e).symm (hn x List.mem_cons_self)
       · rw [O_anti z.p x.p,e]
     · exact h1 z hz
structure Inv (T:List Nd):Prop where
 srt:Srt T
 len:T.length≤64
 nd:∀ x∈T,(parse x.p).1=0∧x.d.size≤64∧0≤x.v∧x.v≤2147483647∧0≤x.k∧x.k≤100000
theorem size_of_parse {s:ByteArray} (h:(parse s).1=0):s.size≤102:=parse_size (xs:=(parse s).2) (by rw [← h])
theorem Inv.sml {T:List Nd} (h:Inv T):Sml T:=fun x hx=>⟨Nat.le_trans (size_of_parse (h.nd x hx).1) (by decide),Nat.le_trans (h.nd x hx).2.1 (by decide)⟩
def makeM (T:List Nd) (s st:Int) (o:OpT):Int × List Nd × ResT × List ChT :=
 match fnd T (parB o.p) with
 | none=>(40,T,zr,[])
 | some u =>
   if u.o≠0 then (44,T,zr,[]) else
   if 2≤o.f∧99999<u.k then (46,T,zr,[]) else
   if (fnd T (atOf o.p o.f u.k)).isSome then (41,T,zr,[]) else
   if 64≤T.length then (46,T,zr,[]) else
   (0,ins ⟨atOf o.p o.f u.k,o.d,0,st,st,if o.f % 2=1 then s else 0,0⟩ (upd T { u with k:=if 2≤o.f then u.k+1 else u.k }),⟨atOf o.p o.f u.k,⟨#[]⟩,0,st,st,if o.f % 2=1 then s else 0,[]⟩,[⟨1,atOf o.p o.f u.k,o.d,0⟩])
def restM (T:List Nd) (st:Int) (o:OpT) (x:Nd):List Nd × ResT × List ChT :=
 if o.k=2 then (upd T { x with d:=o.d,v:=x.v+1,c:=st },⟨x.p,⟨#[]⟩,x.v+1,x.m,st,x.o,[]⟩,[⟨2,x.p,o.d,x.v+1⟩]) else
 if o.k=3 then (T.filter (fun y=>decide (y.p≠x.p)),⟨x.p,⟨#[]⟩,0,0,0,0,[]⟩,[⟨3,x.p,⟨#[]⟩,x.v⟩]) else
 (T,⟨x.p,if o.k=5 then x.d else ⟨#[]⟩,x.v,x.m,x.c,x.o,if o.k=7 then kidsM T x.p else []⟩,[])
def oneM (T:List Nd) (s st:Int) (o:OpT):Int × List Nd × ResT × List ChT :=
 if malC s o.k o.p o.d o.f≠0 then (malC s o.k o.p o.d o.f,T,zr,[]) else
 if o.k=1 then makeM T s st o else
 match fnd T o.p with
 | none=>(40,T,zr,[])
 | some x=>if misC o.k o.v x.v (kidsM T x.p)≠0 then (misC o.k o.v x.v (kidsM T x.p),T,zr,[]) else (0,restM T st o x)
end Go.Proofs.YtckmihplkhmpnaaGreatDoor
