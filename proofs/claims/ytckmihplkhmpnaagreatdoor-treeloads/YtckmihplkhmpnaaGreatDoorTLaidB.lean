import Derived.Test.YtckmihplkhmpnaaGreatDoorLaid
import Derived.Test.YtckmihplkhmpnaaGreatDoorTOps
import Derived.ProofKit
import Derived.ChangeSlices
import Derived.OpenShut
import Derived.ChangeOld
import Derived.SizedLaws
import Derived.Deep.Slices
import Derived.Deep.Strs
namespace Go.Proofs.YtckmihplkhmpnaaGreatDoor
open Go.RowKit Go.ChangeShapes Go.WideShapes Go.ChangeAt
theorem list5 {α:Type} {l:List α} (h:l.length=5):∃ a b c d e,l=[a,b,c,d,e]:=by
 match l,h with
 | [a,b,c,d,e],_=>exact ⟨a,b,c,d,e,rfl⟩
theorem list6 {α:Type} {l:List α} (h:l.length=6):∃ a b c d e f,l=[a,b,c,d,e,f]:=by
 match l,h with
 | [a,b,c,d,e,f],_=>exact ⟨a,b,c,d,e,f,rfl⟩
theorem cellsNeed:Tryz.prog.cellsOf 132=6:=by kernel_rfl
theorem cellsNeeds:Tryz.prog.cellsOf 133=48:=by kernel_rfl
theorem gNeeds:Tryz.prog.globalNamed "herald/tree.needs"=some 0:=by kernel_rfl
theorem gNeedsType:(Tryz.prog.globals[0]?).map (·.type)=some 133:=by kernel_rfl
theorem datumNeeds:(Rows.laid_herald_tree_needs:DataW Unit)=.agg (needsTab.map fun r=>.agg (r.map fun z=>.lit (.bool z))):=by kernel_rfl
theorem cells4':Tryz.prog.cellsOf 4=1:=by kernel_rfl
theorem cells3':Tryz.prog.cellsOf 3=1:=by kernel_rfl
theorem cells9':Tryz.prog.cellsOf 9=1:=by kernel_rfl
theorem cellsOps:Tryz.prog.cellsOf 42=1:=by kernel_rfl
theorem need_row {H:Type} {enc:TypeId × Value→H} {w:World} {base:Nat} {sp:Nat→Bool} {held:Bool} {fuel:Nat} {cs:List Value} {r:List Bool} {p:List MemPlace} (hr:r.length=6)
  (h:DataW.trod enc Tryz.prog w base sp held fuel 132 cs=some (.agg (r.map fun z=>.lit (.bool z)),p)):cs=r.map Value.bool:=by
 obtain ⟨xs,n,_,hx,hl,hxl,hf⟩:=DataW.trod_struct Tryz.underlying132 h
 rw [cellsNeed] at hl
 obtain ⟨c0,c1,c2,c3,c4,c5,rfl⟩:=list6 hl
 obtain ⟨b0,b1,b2,b3,b4,b5,rfl⟩:=list6 hr
 obtain ⟨x0,x1,x2,x3,x4,x5,rfl⟩:=list6 (l:=xs) hxl
 simp only [List.map_cons,List.map_nil,Prod.mk.injEq,DataW.agg.injEq,List.cons.injEq,and_true] at hx
 obtain ⟨⟨e0,e1,e2,e3,e4,e5⟩,_⟩:=hx
 have g0:=hf 0 _ rfl
 have g1:=hf 1 _ rfl
 have g2:=hf 2 _ rfl
 have g3:=hf 3 _ rfl
 have g4:=hf 4 _ rfl
 have g5:=hf 5 _ rfl
 obtain ⟨z0,q0,k0⟩:=DataW.trod_bool Tryz.underlying4 g0
 obtain ⟨z1,q1,k1⟩:=DataW.trod_bool Tryz.underlying4 g1
 obtain ⟨z2,q2,k2⟩:=DataW.trod_bool Tryz.underlying4 g2
 obtain ⟨z3,q3,k3⟩:=DataW.trod_bool Tryz.underlying4 g3
 obtain ⟨z4,q4,k4⟩:=DataW.trod_bool Tryz.underlying4 g4
 obtain ⟨z5,q5,k5⟩:=DataW.trod_bool Tryz.underlying4 g5
 simp [cells4'] at q0 q1 q2 q3 q4 q5
 subst q0 q1 q2 q3 q4 q5 k0 k1 k2 k3 k4 k5
 simp only [DataW.lit.injEq,Lit.bool.injEq] at e0 e1 e2 e3 e4 e5
 subst e0 e1 e2 e3 e4 e5
 rfl
theorem needs_flat:∀ k,k<48→(needsTab.flatten)[k]? = (needsTab[k / 6]?).bind (·[k % 6]?):=by decide
theorem needs_six:∀ r∈needsTab,r.length=6:=by decide
theorem needs_cells {H:Type} {enc:TypeId × Value→H} {w:World} {base:Nat} {sp:Nat→Bool} {held:Bool} {fuel:Nat} {cs:List Value} {p:List MemPlace}
  (h:DataW.trod enc Tryz.prog w base sp held fuel 133 cs=some (.agg (needsTab.map fun r=>.agg (r.map fun z=>.lit (.bool z))),p)):∀ (k:Nat) (b:Bool),(needsTab.flatten)[k]? = some b→cs[k]? = some (Value.bool b):=by
 intro k b hk
 have hk48:k<48:=(List.getElem?_eq_some_iff.1 hk).1
 rw [needs_flat k hk48] at hk
 obtain ⟨r,hr,hb⟩:=Option.bind_eq_some_iff.1 hk
 cases fuel with
 | zero=>simp [DataW.trod] at h
 | succ fuel =>
   simp only [DataW.trod,Tryz.underlying133,cellsNeed,cellsNeeds] at h
   split at h
   · rename_i hl
     obtain ⟨xs,hm,hx⟩:=Option.map_eq_some_iff.1 h
     have hxs:xs.map (·.1)=needsTab.map fun r=>(DataW.agg (r.map fun z=>.lit (.bool z)):DataW H):=by
      have:=congrArg Prod.fst hx
      simpa using this
     obtain ⟨y,hy,hf⟩:=Lib.mapM_at hm (k / 6) (k / 6) (List.getElem?_range (by omega))
     have h2:(xs.map (·.1))[k / 6]? = some y.1:=by simp [hy]
     rw [hxs,List.getElem?_map,hr] at h2
     obtain ⟨y1,y2⟩:=y
     simp only [Option.map_some,Option.some.injEq] at h2
     subst h2
     have hrow:=need_row (needs_six r (List.mem_of_getElem? hr)) hf
     have:=congrArg (·[k % 6]?) hrow
     simp only [List.getElem?_map,hb,Option.map_some,List.getElem?_take,List.getElem?_drop] at this
     rw [if_pos (by omega),show k / 6 * 6+k % 6=k by omega] at this
     exact this
   · cases h
theorem groundT_of {W:World} {l:List (String × DataW Unit)} (hf:(l.filter fun x=>x.1=="herald/place.nameBytes")=[("herald/place.nameBytes",Rows.laid_herald_place_nameBytes)])
  (hf2:(l.filter fun x=>x.1=="herald/tree.needs")=[("herald/tree.needs",Rows.laid_herald_tree_needs)]) (hL:laidMetH Tryz.prog l W) (hS:W.ShapedOpen Tryz.prog):GroundT W:=by
 have h1:=hL.filter (fun x=>x.1=="herald/tree.needs")
 rw [hf2,Go.MakeChecks.laidMetH_plain _ _ _ (by kernel_rfl)] at h1
 obtain ⟨ps,⟨g',t',cs,fuel,p,q,hg',ht',hvar,hd,_,_⟩,_⟩:=h1
 obtain rfl:=Option.some.inj (gNeeds.symm.trans hg')
 obtain rfl:=Option.some.inj (gNeedsType.symm.trans ht')
 rw [datumNeeds] at hd
 have hcs:=needs_cells hd
 have hcell:∀ (k:Nat) (b:Bool),(needsTab.flatten)[k]? = some b→W.cell? ⟨0,k,none⟩=some (Value.bool b):=fun k b hk=>by
  rw [World.var?_cell gNeeds hvar k,← Array.getElem?_toList]
  exact hcs k b hk
 exact { ground_of hf hL hS with need:=fun i j b hb=>hcell _ b hb,needLt:=World.block_lt_of_cell? _ _ (hcell 0 false rfl) }
end Go.Proofs.YtckmihplkhmpnaaGreatDoor
