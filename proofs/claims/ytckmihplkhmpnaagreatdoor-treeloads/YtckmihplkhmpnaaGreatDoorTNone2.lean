import Derived.Test.YtckmihplkhmpnaaGreatDoorTSeen
import Derived.Shelf.SlMaps.Clone
namespace Go.Proofs.YtckmihplkhmpnaaGreatDoor
open Go.RowKit Go.Maps
set_option linter.unusedVariables false
theorem isNone_at (b:Nat) (m:Option Nat) (w:World) (h:w.cell? ⟨b,0,none⟩=some (.map m)):Calls Tryz.prog 19 #[.pointer (some ⟨b,0,none⟩)] w fun e w'=>e=.returned (.bool m.isNone)∧w'=w:=by
 have hq:=fun w=>run_eql_map_nil_sl (P:=Tryz.prog) w 52 _ _ m Tryz.underlying52
 cases m with
 | none =>
   go_enter Tryz.func19,Tryz.ntmps19
   go_wp2
   go_ret
   exact ⟨rfl,rfl⟩
 | some b' =>
   go_enter Tryz.func19,Tryz.ntmps19
   go_wp2
   go_ret
   exact ⟨rfl,rfl⟩
structure TreeAt (w:World) (base tb mb n:Nat) (D:DataW Value):Prop where
 box:w.heap[tb]? = some (.cells #[.map (some mb)] 57 (0,0))
 map:MapAt w mb n D
 lo:base≤tb
 lom:base≤mb
theorem TreeAt.below {w w':World} {base tb mb n:Nat} {D:DataW Value} (h:TreeAt w base tb mb n D) (hb:Below w.heap.size w w'):TreeAt w' base tb mb n D :=
 ⟨kept_block hb h.box,map_below h.map hb,h.lo,h.lom⟩
abbrev rootD:DataW Value:=.map [(ky ⟨#[47]⟩,.held (fuV ⟨#[47]⟩ ⟨#[]⟩ 0 0 0 0 0))]
theorem new_any (w:World):Calls Tryz.prog 17 #[] w fun e w'=>∃ tb mb,e=.returned (.pointer (some ⟨tb,0,none⟩))∧TreeAt w' w.heap.size tb mb 1 rootD∧Below w.heap.size w w':=by
 obtain ⟨w1,hrun,hown,hgrow⟩:=(World.ownsMap_made w Tryz.prog 9 raw).update keyed Tryz.underlying52 (by unfold maxLen;decide) (key:=.string ⟨#[47]⟩) (val:=fuV ⟨#[47]⟩ ⟨#[]⟩ 0 0 0 0 0) (kl:=ky ⟨#[47]⟩) (d:=.held (fuV ⟨#[47]⟩ ⟨#[]⟩ 0 0 0 0 0)) (ps:=[]) (WideMaps.keyOf_string_mk Tryz.underlying9 (by unfold maxLen;decide)) rfl
 have HO:Hid _:=hown
 have HGr:Hid _:=hgrow
 have hmm:=@run_makeMap Tryz.prog
 clear hown hgrow
 go_enter Tryz.func17,Tryz.ntmps17
 go_wp2
 go_ret
 have hsz:w.heap.size+1≤w1.heap.size:=by have:=HGr.out.size;simpa using this
 have hb:Below w.heap.size w w1:=((Below.refl _ _).alloc (Nat.le_refl _) _).grown HGr.out (by simp) (fun k hk=>by cases hk;exact Nat.le_refl _)
 exact ⟨_,_,rfl,⟨heap_alloc_new _ _,World.ownsMap.alloc HO.out _,by omega,Nat.le_refl _⟩,hb.alloc (by omega) _⟩
end Go.Proofs.YtckmihplkhmpnaaGreatDoor
namespace Go.Proofs.YtckmihplkhmpnaaGreatDoor
open Go.RowKit Go.Maps
set_option linter.unusedVariables false
end Go.Proofs.YtckmihplkhmpnaaGreatDoor
namespace Go.Proofs.YtckmihplkhmpnaaGreatDoor
open Go.RowKit Go.Maps
set_option linter.unusedVariables false
theorem heap_alloc_old {w:World} {o o':Obj} {g:Nat} (h:w.heap[g]? = some o):(w.alloc o').heap[g]? = some o:=by
 have hl:g<w.heap.size:=(Array.getElem?_eq_some_iff.1 h).1
 rw [← h]
 show (w.heap.push o')[g]? = w.heap[g]?
 rw [Array.getElem?_push_lt hl]
 exact (Array.getElem?_eq_getElem hl).symm
theorem heap_alloc_new' {w:World} {o:Obj} {g:Nat} (h:g=w.heap.size):(w.alloc o).heap[g]? = some o:=by
 subst h
 exact heap_alloc_new _ _
end Go.Proofs.YtckmihplkhmpnaaGreatDoor
