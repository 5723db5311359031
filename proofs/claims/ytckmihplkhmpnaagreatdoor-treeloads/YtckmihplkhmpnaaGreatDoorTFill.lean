import Derived.Test.YtckmihplkhmpnaaGreatDoorTOps
import Derived.Laws.Rows
namespace Go.Proofs.YtckmihplkhmpnaaGreatDoor
open Go.RowKit Go.Maps
theorem other_blk {w:World} {g b i:Nat} {v:Value} {o:Obj} (h:w.heap[b]? = some o) (hne:b≠g):(w.setCell ⟨g,i,none⟩ v).heap[b]? = some o:=by
 rw [Below.heap_setCell w ⟨g,i,none⟩ v b hne];exact h
theorem same_blk {w:World} {g i:Nat} {cs cs':Array Value} {t:TypeId} {v:Value} (h:w.heap[g]? = some (.cells cs t (0,0))) (he:cs.setIfInBounds i v=cs'):(w.setCell ⟨g,i,none⟩ v).heap[g]? = some (.cells cs' t (0,0)):=by
 rw [← he];exact heap_setCell_same w g i cs t v h
abbrev put_1 (w:World) (g:Nat) (x0:Value):World:=(w.setCell ⟨g,0,none⟩ x0)
theorem fill_1 {w:World} {g:Nat} {t:TypeId} {x0 y0:Value} (h:w.heap[g]? = some (.cells #[y0] t (0,0))):(put_1 w g x0).heap[g]? = some (.cells #[x0] t (0,0)):=by
 have h0:=same_blk (i:=0) (v:=x0) (cs':=#[x0]) h rfl
 exact h0
abbrev put_3 (w:World) (g:Nat) (x0 x1 x2:Value):World:=(((w.setCell ⟨g,0,none⟩ x0).setCell ⟨g,1,none⟩ x1).setCell ⟨g,2,none⟩ x2)
theorem fill_3 {w:World} {g:Nat} {t:TypeId} {x0 x1 x2 y0 y1 y2:Value} (h:w.heap[g]? = some (.cells #[y0,y1,y2] t (0,0))):(put_3 w g x0 x1 x2).heap[g]? = some (.cells #[x0,x1,x2] t (0,0)):=by
 have h0:=same_blk (i:=0) (v:=x0) (cs':=#[x0,y1,y2]) h rfl
 have h1:=same_blk (i:=1) (v:=x1) (cs':=#[x0,x1,y2]) h0 rfl
 have h2:=same_blk (i:=2) (v:=x2) (cs':=#[x0,x1,x2]) h1 rfl
 exact h2
theorem fillB_3 {B:Nat} {w0 w:World} {g:Nat} {x0 x1 x2:Value} (h:Below B w0 w) (hg:B≤g):Below B w0 (put_3 w g x0 x1 x2):=(((h.setCell hg _).setCell hg _).setCell hg _)
abbrev put_4 (w:World) (g:Nat) (x0 x1 x2 x3:Value):World:=((((w.setCell ⟨g,0,none⟩ x0).setCell ⟨g,1,none⟩ x1).setCell ⟨g,2,none⟩ x2).setCell ⟨g,3,none⟩ x3)
theorem fill_4 {w:World} {g:Nat} {t:TypeId} {x0 x1 x2 x3 y0 y1 y2 y3:Value} (h:w.heap[g]? = some (.cells #[y0,y1,y2,y3] t (0,0))):(put_4 w g x0 x1 x2 x3).heap[g]? = some (.cells #[x0,x1,x2,x3] t (0,0)):=by
 have h0:=same_blk (i:=0) (v:=x0) (cs':=#[x0,y1,y2,y3]) h rfl
 have h1:=same_blk (i:=1) (v:=x1) (cs':=#[x0,x1,y2,y3]) h0 rfl
 have h2:=same_blk (i:=2) (v:=x2) (cs':=#[x0,x1,x2,y3]) h1 rfl
 have h3:=same_blk (i:=3) (v:=x3) (cs':=#[x0,x1,x2,x3]) h2 rfl
 exact h3
theorem fillB_4 {B:Nat} {w0 w:World} {g:Nat} {x0 x1 x2 x3:Value} (h:Below B w0 w) (hg:B≤g):Below B w0 (put_4 w g x0 x1 x2 x3):=((((h.setCell hg _).setCell hg _).setCell hg _).setCell hg _)
theorem fillO_4 {w:World} {g b:Nat} {o:Obj} {x0 x1 x2 x3:Value} (h:w.heap[b]? = some o) (hne:b≠g):(put_4 w g x0 x1 x2 x3).heap[b]? = some o:=(other_blk (other_blk (other_blk (other_blk h hne) hne) hne) hne)
abbrev put_7 (w:World) (g:Nat) (x0 x1 x2 x3 x4 x5 x6:Value):World:=(((((((w.setCell ⟨g,0,none⟩ x0).setCell ⟨g,1,none⟩ x1).setCell ⟨g,2,none⟩ x2).setCell ⟨g,3,none⟩ x3).setCell ⟨g,4,none⟩ x4).setCell ⟨g,5,none⟩ x5).setCell ⟨g,6,none⟩ x6)
theorem fill_7 {w:World} {g:Nat} {t:TypeId} {x0 x1 x2 x3 x4 x5 x6 y0 y1 y2 y3 y4 y5 y6:Value} (h:w.heap[g]? = some (.cells #[y0,y1,y2,y3,y4,y5,y6] t (0,0))):(put_7 w g x0 x1 x2 x3 x4 x5 x6).heap[g]? = some (.cells #[x0,x1,x2,x3,x4,x5,x6] t (0,0)):=by
 have h0:=same_blk (i:=0) (v:=x0) (cs':=#[x0,y1,y2,y3,y4,y5,y6]) h rfl
 have h1:=same_blk (i:=1) (v:=x1) (cs':=#[x0,x1,y2,y3,y4,y5,y6]) h0 rfl
 have h2:=same_blk (i:=2) (v:=x2) (cs':=#[x0,x1,x2,y3,y4,y5,y6]) h1 rfl
 have h3:=same_blk (i:=3) (v:=x3) (cs':=#[x0,x1,x2,x3,y4,y5,y6]) h2 rfl
 have h4:=same_blk (i:=4) (v:=x4) (cs':=#[x0,x1,x2,x3,x4,y5,y6]) h3 rfl
 have h5:=same_blk (i:=5) (v:=x5) (cs':=#[x0,x1,x2,x3,x4,x5,y6]) h4 rfl
 have h6:=same_blk (i:=6) (v:=x6) (cs':=#[x0,x1,x2,x3,x4,x5,x6]) h5 rfl
 exact h6
theorem fillB_7 {B:Nat} {w0 w:World} {g:Nat} {x0 x1 x2 x3 x4 x5 x6:Value} (h:Below B w0 w) (hg:B≤g):Below B w0 (put_7 w g x0 x1 x2 x3 x4 x5 x6):=(((((((h.setCell hg _).setCell hg _).setCell hg _).setCell hg _).setCell hg _).setCell hg _).setCell hg _)
theorem fillO_7 {w:World} {g b:Nat} {o:Obj} {x0 x1 x2 x3 x4 x5 x6:Value} (h:w.heap[b]? = some o) (hne:b≠g):(put_7 w g x0 x1 x2 x3 x4 x5 x6).heap[b]? = some o:=(other_blk (other_blk (other_blk (other_blk (other_blk (other_blk (other_blk h hne) hne) hne) hne) hne) hne) hne)
theorem cellO_1 {w:World} {g b i j:Nat} {v x:Value} (h:w.cell? ⟨b,i,none⟩=some v) (hne:b≠g):(w.setCell ⟨g,j,none⟩ x).cell? ⟨b,i,none⟩=some v:=by
 rw [World.cell?_of_block (w:=w) (Below.heap_setCell w ⟨g,j,none⟩ x b hne)];exact h
theorem cellO_7 {w:World} {g b i:Nat} {v x0 x1 x2 x3 x4 x5 x6:Value} (h:w.cell? ⟨b,i,none⟩=some v) (hne:b≠g):(put_7 w g x0 x1 x2 x3 x4 x5 x6).cell? ⟨b,i,none⟩=some v:=(cellO_1 (cellO_1 (cellO_1 (cellO_1 (cellO_1 (cellO_1 (cellO_1 h hne) hne) hne) hne) hne) hne) hne)
theorem new_old {w:World} {b:Nat} {o:Obj} (h:w.heap[b]? = some o) (o':Obj):(w.alloc o').heap[b]? = some o:=by
 rw [Below.heap_alloc w o' b (Array.getElem?_eq_some_iff.1 h).1];exact h
theorem results_cell_tmp {P:Program} {fn:Func} {p q:Tmp} {ty:TypeId} (h:fn.results=#[.cell p ty,.tmp q]) (tmps:Array Value) (w:World) (g:Nat) (t:TypeId) (cs:Array Value) (fr:Nat × Nat) (d:TypeDesc) (v:Value)
  (hp:tmps.getD p undef=.pointer (some ⟨g,0,none⟩)) (hq:tmps.getD q undef=v) (hg:w.heap[g]? = some (.cells cs t fr))
  (hu:P.underlying ty=some d) (hd:(match d with | .struct _ | .array _ _=>true | _=>false)=true) (hi:(P.info? ty).map (·.size)=some cs.size) :
  (results fn tmps).run P w=.ok (.tuple #[.agg cs,v]) w:=by
 have hp':tmps[p]?.getD undef=.pointer (some ⟨g,0,none⟩):=by simpa using hp
 have hq':tmps[q]?.getD undef=v:=by simpa using hq
 simp [results,h,hp',hq',asAddr,run_loadVar_row w g t ty cs fr d hg hu hd hi]
end Go.Proofs.YtckmihplkhmpnaaGreatDoor
