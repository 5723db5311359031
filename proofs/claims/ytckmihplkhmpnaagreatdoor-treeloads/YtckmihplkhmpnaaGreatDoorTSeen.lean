import Derived.Test.YtckmihplkhmpnaaGreatDoorTOps
import Derived.Test.YtckmihplkhmpnaaGreatDoorTFill
import Derived.Deep.RegionHeld3
import Derived.Laws.Rows
namespace Go.Proofs.YtckmihplkhmpnaaGreatDoor
open Go.RowKit Go.Maps
set_option linter.unusedVariables false
theorem sclone_any (s:ByteArray) (hs:s.size≤281474976710656) (w:World) :
  Calls Tryz.prog 46 #[.string s] w fun e w'=>e=.returned (.string s)∧Below w.heap.size w w':=by
 go_enter Tryz.func46,Tryz.ntmps46
 go_wp2_with (first | (go_at_call 69;refine (Tryz.stringslite_Clone s _ hs).mono ?_;rintro e w1 ⟨rfl,hb⟩) | fail)
 go_ret
 exact ⟨rfl,hb⟩
set_option maxHeartbeats 16000000 in
set_option maxRecDepth 100000 in
theorem copied_any (p d:ByteArray) (v m c o k:Int) (hp:p.size≤281474976710656) (hd:d.size≤281474976710656) (w:World) :
  Calls Tryz.prog 21 #[fuV p d v m c o k] w fun e w'=>e=.returned (fuV p d v m c o k)∧Below w.heap.size w w':=by
 have HP:Hid _:=sclone_any p hp
 have HD:Hid _:=sclone_any d hd
 clear hp hd
 go_enter Tryz.func21,Tryz.ntmps21
 go_wp2_with fail
 refine (HP.out _).mono ?_
 rintro e w1 ⟨rfl,hb1⟩
 have HB1:Hid (Below w.heap.size w w1):=trans2 (((Below.refl _ _).alloc (Nat.le_refl _) _).alloc (by simp) _) hb1
 have HX1:Hid (w1.heap[w.heap.size]? = some (.cells #[.string p,.string d,.int .i64 v,.int .i64 m,.int .i64 c,.int .i64 o,.int .i64 k] 27 (0,0))):=kept_block hb1 (heap_alloc2_old _ _ _)
 have HY1:Hid (w1.heap[w.heap.size+1]? = some (.cells #[.string ⟨#[]⟩,.string ⟨#[]⟩,.int .i64 0,.int .i64 0,.int .i64 0,.int .i64 0,.int .i64 0] 27 (0,0))):=kept_block hb1 (heap_alloc2_new _ _ _)
 obtain ⟨a0,a1,a2,a3,a4,a5,a6⟩:=cells_7 HX1.out
 have hf0:=free_7 HX1.out 0
 clear hb1
 go_wp2_with fail
 refine (HD.out _).mono ?_
 rintro e w2 ⟨rfl,hb2⟩
 have hs0:Below w.heap.size w (w1.setCell ⟨w.heap.size,0,none⟩ (.string p)):=HB1.out.setCell (Nat.le_refl _) _
 have HB2:Hid (Below w.heap.size w w2):=trans2 hs0 hb2
 have HX2:Hid _:=kept_block hb2 (same_blk HX1.out rfl)
 have HY2:Hid _:=kept_block hb2 (other_blk HY1.out (by omega))
 clear hb2 hs0 a0 a1 a2 a3 a4 a5 a6 hf0
 obtain ⟨a0,a1,a2,a3,a4,a5,a6⟩:=cells_7 HX2.out
 obtain ⟨b0,b1,b2,b3,b4,b5,b6⟩:=cells_7 HY2.out
 have hf:=free_7 HX2.out
 have hg:=free_7 HY2.out
 go_wp2_with fail
 exact bodyPost_ret (results_cell_row rfl _ _ (w.heap.size+1) 27 _ (0,0) _ rfl (fill_7 (other_blk HY2.out (by omega))) Tryz.underlying27 rfl (by kernel_rfl)) rfl ⟨rfl,fillB_7 (HB2.out.setCell (Nat.le_refl _) _) (by omega)⟩
set_option maxHeartbeats 16000000 in
set_option maxRecDepth 100000 in
theorem fIsBrief_any (p d:ByteArray) (v m c o k:Int) (w:World) :
  Calls Tryz.prog 39 #[fuV p d v m c o k] w fun e w'=>e=.returned (.bool (decide (o≠0)))∧Below w.heap.size w w':=by
 by_cases ho:o=0
 · subst ho
   go_enter Tryz.func39,Tryz.ntmps39
   go_wp2
   go_ret
   exact ⟨(by simp),(Below.refl _ _).alloc (Nat.le_refl _) _⟩
 · have hd:decide (o≠0)=true:=by simp [ho]
   rw [hd]
   clear hd
   go_enter Tryz.func39,Tryz.ntmps39
   go_wp2
   go_ret
   exact ⟨(by simp [ho]),(Below.refl _ _).alloc (Nat.le_refl _) _⟩
set_option linter.unusedSimpArgs false in
set_option maxHeartbeats 16000000 in
set_option maxRecDepth 100000 in
theorem change_any (p d:ByteArray) (v m c o k q:Int) (hp:p.size≤281474976710656) (hd:d.size≤281474976710656) (w:World) :
  Calls Tryz.prog 76 #[fuV p d v m c o k,.int .i64 q] w fun e w'=>e=.returned (.agg #[.int .i64 q,.string p,.string d,.int .i64 v])∧Below w.heap.size w w':=by
 have HP:Hid _:=sclone_any p hp
 have HD:Hid _:=sclone_any d hd
 clear hp hd
 go_enter Tryz.func76,Tryz.ntmps76
 go_wp2
 go_region_held3 (fun w'=>w'.cell? ⟨w.heap.size,0,none⟩=some (.string p)∧w'.cell? ⟨w.heap.size,1,none⟩=some (.string d)∧w'.cell? ⟨w.heap.size,2,none⟩=some (.int .i64 v)) (first | go_keep | exact ⟨a0,a1,a2⟩)
  (first
    | (go_at_call 46;refine (HP.out _).mono ?_;rintro e w1 ⟨rfl,hb1⟩
       have HB1:Hid (Below w.heap.size w w1):=trans2 (((Below.refl _ _).alloc (Nat.le_refl _) _).alloc (by simp) _) ⟨hb1.os,hb1.tape,hb1.output,hb1.size,hb1.block⟩
       have HX1:Hid (w1.heap[w.heap.size]? = some (.cells #[.string p,.string d,.int .i64 v,.int .i64 m,.int .i64 c,.int .i64 o,.int .i64 k] 27 (0,0))):=kept_block hb1 (heap_alloc2_old _ _ _)
       have HY1:Hid (w1.heap[w.heap.size+1]? = some (.cells #[.int .i64 0,.string ⟨#[]⟩,.string ⟨#[]⟩,.int .i64 0] 69 (0,0))):=kept_block hb1 (heap_alloc2_new _ _ _)
       obtain ⟨a0,a1,a2,a3,a4,a5,a6⟩:=cells_7 HX1.out
       clear hb1)
    | (go_at_call 46;refine (HD.out _).mono ?_;rintro e w2 ⟨rfl,hb2⟩
       have HB2:Hid (Below w.heap.size w w2):=trans2 HB1.out hb2
       have HX2:Hid _:=kept_block hb2 HX1.out
       have HY2:Hid _:=kept_block hb2 HY1.out
       clear a0 a1 a2 a3 a4 a5 a6 hb2
       obtain ⟨a0,a1,a2,a3,a4,a5,a6⟩:=cells_7 HX2.out
       obtain ⟨b0,b1,b2,b3⟩:=cells_4 HY2.out
       have hg:=free_4 HY2.out))
 go_wp2_with fail
 exact bodyPost_ret (results_cell_row rfl _ _ (w.heap.size+1) 69 _ (0,0) _ rfl (fill_4 HY2.out) Tryz.underlying69 rfl (by kernel_rfl)) rfl ⟨rfl,fillB_4 HB2.out (by omega)⟩
set_option linter.unusedSimpArgs false in
set_option maxHeartbeats 16000000 in
set_option maxRecDepth 100000 in
theorem result_any (p d:ByteArray) (v m c o k:Int) (hp:p.size≤281474976710656) (w:World) :
  Calls Tryz.prog 89 #[fuV p d v m c o k] w fun e w'=>e=.returned (.agg #[.string p,.string ⟨#[]⟩,.int .i64 v,.int .i64 m,.int .i64 c,.int .i64 o,.slice none 0 0])∧Below w.heap.size w w':=by
 have HP:Hid _:=sclone_any p hp
 clear hp
 go_enter Tryz.func89,Tryz.ntmps89
 go_wp2
 go_region_held3 (fun w'=>w'.cell? ⟨w.heap.size,0,none⟩=some (.string p)∧w'.cell? ⟨w.heap.size,2,none⟩=some (.int .i64 v)∧w'.cell? ⟨w.heap.size,3,none⟩=some (.int .i64 m)∧w'.cell? ⟨w.heap.size,4,none⟩=some (.int .i64 c)∧w'.cell? ⟨w.heap.size,5,none⟩=some (.int .i64 o)) (first | go_keep | exact ⟨a0,a2,a3,a4,a5⟩)
  (first
    | (go_at_call 46;refine (HP.out _).mono ?_;rintro e w1 ⟨rfl,hb1⟩
       have HB1:Hid (Below w.heap.size w w1):=trans2 (((Below.refl _ _).alloc (Nat.le_refl _) _).alloc (by simp) _) ⟨hb1.os,hb1.tape,hb1.output,hb1.size,hb1.block⟩
       have HX1:Hid (w1.heap[w.heap.size]? = some (.cells #[.string p,.string d,.int .i64 v,.int .i64 m,.int .i64 c,.int .i64 o,.int .i64 k] 27 (0,0))):=kept_block hb1 (heap_alloc2_old _ _ _)
       have HY1:Hid (w1.heap[w.heap.size+1]? = some (.cells #[.string ⟨#[]⟩,.string ⟨#[]⟩,.int .i64 0,.int .i64 0,.int .i64 0,.int .i64 0,.slice none 0 0] 103 (0,0))):=kept_block hb1 (heap_alloc2_new _ _ _)
       obtain ⟨a0,a1,a2,a3,a4,a5,a6⟩:=cells_7 HX1.out
       obtain ⟨b0,b1,b2,b3,b4,b5,b6⟩:=cells_7 HY1.out
       have hg:=free_7 HY1.out
       clear hb1))
 go_wp2_with fail
 exact bodyPost_ret (results_cell_row rfl _ _ (w.heap.size+1) 103 _ (0,0) _ rfl (fill_7 HY1.out) Tryz.underlying103 rfl (by kernel_rfl)) rfl ⟨rfl,fillB_7 HB1.out (by omega)⟩
set_option maxHeartbeats 16000000 in
set_option maxRecDepth 100000 in
theorem put_any (b n:Nat) (D:DataW Value) (p d:ByteArray) (v m c o k:Int) (hp:p.size≤281474976710656) (hd:d.size≤281474976710656) (w:World) (hm:MapAt w b n D) (hn:n≤1000000) :
  Calls Tryz.prog 16 #[.map (some b),fuV p d v m c o k] w fun e w'=>e=.returned (.tuple #[])∧MapAt w' b (n+1) (D.put (ky p) (.held (fuV p d v m c o k)))∧Chg w w' (fun k=>k=b):=by
 have HC:Hid _:=copied_any p d v m c o k hp hd
 have HM:Hid (MapAt w b n D):=hm
 have hbl:=hm.lt
 have hkey:keyOf Tryz.prog 9 (.string p)=some (ky p):=WideMaps.keyOf_string_mk Tryz.underlying9 (by unfold maxLen;omega)
 clear hm hp hd
 go_enter Tryz.func16,Tryz.ntmps16
 go_wp2_with fail
 refine (HC.out _).mono ?_
 rintro e w1 ⟨rfl,hb1⟩
 have HB1:Hid (Below w.heap.size w w1):=trans2 ((Below.refl _ _).alloc (Nat.le_refl _) _) hb1
 have HX1:Hid (w1.heap[w.heap.size]? = some (.cells #[.string p,.string d,.int .i64 v,.int .i64 m,.int .i64 c,.int .i64 o,.int .i64 k] 27 (0,0))):=kept_block hb1 (heap_alloc_new _ _)
 obtain ⟨a0,a1,a2,a3,a4,a5,a6⟩:=cells_7 HX1.out
 have hf:=free_7 HX1.out
 clear hb1
 have HB2:Hid (Below w.heap.size w (put_7 w1 w.heap.size (.string p) (.string d) (.int .i64 v) (.int .i64 m) (.int .i64 c) (.int .i64 o) (.int .i64 k))):=fillB_7 HB1.out (Nat.le_refl _)
 have HM2:Hid (MapAt (put_7 w1 w.heap.size (.string p) (.string d) (.int .i64 v) (.int .i64 m) (.int .i64 c) (.int .i64 o) (.int .i64 k)) b n D):=map_below HM.out HB2.out
 go_wp2_with (first
  | (at_mapUpdate;refine wpList_mapUpdate_own _ rfl _ _ _ 52 rfl 9 27 keyed Tryz.underlying52 raw b n D rfl HM2.out (by unfold maxLen;omega) _ _ (ky p) rfl rfl hkey (.held (fuV p d v m c o k)) [] rfl ?_;intro w3 hown3 hgrow3)
  | fail)
 go_end0
 exact ⟨rfl,hown3,(Chg.of_below HB2.out _).trans ((Chg.grown hgrow3).mono (fun k _ e=>by cases e;rfl))⟩
def parB (p:ByteArray):ByteArray:=match (parse p).2 with
 | []=>⟨#[]⟩
 | xs=>placeB (xs.take (xs.length - 1))
def parC (p:ByteArray):Int:=if (parse p).1=0 then (if (parse p).2=[] then 47 else 0) else (parse p).1
theorem parentOf_any (p:ByteArray) (w:World) (hg:Ground w) :
  Calls Tryz.prog 59 #[.string p] w fun e w'=>e=.returned (.tuple #[.string (parB p),.int .i64 (parC p)])∧Below w.heap.size w w':=by
 obtain ⟨code,xs,hp⟩:∃ code xs,parse p=(code,xs):=⟨_,_,rfl⟩
 unfold parB parC
 rw [hp]
 by_cases hc:code=0
 · subst hc
   cases xs with
   | nil=>simpa using parent_root hp w hg
   | cons x ys=>simpa using parent_some hp ys.length (by simp) w hg
 · have:=parse_code hp hc
   subst this
   simpa [hc] using parent_err hp hc w hg
def look (D:DataW Value) (s:ByteArray):Value:=match D.atKey (ky s) (.held zf) with | .held v=>v | _=>zf
theorem look_of {D:DataW Value} {s:ByteArray} {v:Value} {ps:List MemPlace} (h:raw v=some (D.atKey (ky s) (.held zf),ps)):v=look D s:=by
 simp only [raw,Option.some.injEq,Prod.mk.injEq] at h
 unfold look
 rw [← h.1]
set_option maxHeartbeats 16000000 in
set_option maxRecDepth 100000 in
theorem parent_map (b n:Nat) (D:DataW Value) (s:ByteArray) (p d:ByteArray) (v m c o k:Int) (h:Bool) (w:World) (hg:GroundT w) (hm:MapAt w b n D) (hs:(parB s).size≤maxLen) (hl:look D (parB s)=fuV p d v m c o k) (hh:Maps.has D (ky (parB s))=h) :
  Calls Tryz.prog 40 #[.map (some b),.string s] w fun e w'=>e=.returned (.tuple #[fuV p d v m c o k,.bool h])∧Below w.heap.size w w':=by
 have HP:Hid _:=fun W (hW:Ground W)=>parentOf_any s W hW
 have HM:Hid (MapAt w b n D):=hm
 have hkey:keyOf Tryz.prog 9 (.string (parB s))=some (ky (parB s)):=WideMaps.keyOf_string_mk Tryz.underlying9 hs
 have HG:Hid _:=hg
 have HH:Hid _:=hh
 have HL:Hid _:=hl
 clear hm hs hg hh hl
 go_enter Tryz.func40,Tryz.ntmps40
 go_wp2_with fail
 refine (HP.out _ (HG.out.toGround.below ((Below.refl _ _).alloc (Nat.le_refl _) _))).mono ?_
 rintro e w1 ⟨rfl,hb1⟩
 have HB1:Hid (Below w.heap.size w w1):=trans2 ((Below.refl _ _).alloc (Nat.le_refl _) _) hb1
 have HX1:Hid (w1.heap[w.heap.size]? = some (.cells #[.string ⟨#[]⟩,.string ⟨#[]⟩,.int .i64 0,.int .i64 0,.int .i64 0,.int .i64 0,.int .i64 0] 27 (0,0))):=kept_block hb1 (heap_alloc_new _ _)
 obtain ⟨a0,a1,a2,a3,a4,a5,a6⟩:=cells_7 HX1.out
 have hf:=free_7 HX1.out
 have hlt1:w.heap.size<w1.heap.size:=(Array.getElem?_eq_some_iff.1 HX1.out).1
 clear hb1
 go_wp2_with (first
  | (at_lookup;refine wpList_lookup_own_ok _ rfl _ _ 52 rfl 9 27 keyed Tryz.underlying52 raw (zeroF _) (.held zf) [] rfl b n D rfl (map_below HM.out HB1.out) _ (ky (parB s)) rfl hkey ?_;intro u ps hu;obtain rfl:=look_of hu;rw [HL.out,HH.out];clear hu)
  | fail)
 exact bodyPost_ret (results_cell_tmp rfl _ _ w.heap.size 27 _ (0,0) _ (.bool h) rfl rfl (new_old (fill_7 HX1.out) _) Tryz.underlying27 rfl (by kernel_rfl)) rfl ⟨rfl,(fillB_7 HB1.out (Nat.le_refl _)).alloc (by have:=HB1.out.size;simp;omega) _⟩
end Go.Proofs.YtckmihplkhmpnaaGreatDoor
namespace Go.Proofs.YtckmihplkhmpnaaGreatDoor
open Go.RowKit Go.Maps
set_option linter.unusedVariables false
set_option linter.unusedSimpArgs false
theorem tcells_3 {W:World} {b:Nat} {t:TypeId} {x0 x1 x2:Value} (h:W.heap[b]? = some (.cells #[x0,x1,x2] t (0,0))):W.cell? ⟨b,0,none⟩=some x0∧W.cell? ⟨b,1,none⟩=some x1∧W.cell? ⟨b,2,none⟩=some x2:=by
 simp [World.cell?,h]
theorem tfree_3 {W:World} {b:Nat} {t:TypeId} {x0 x1 x2:Value} (h:W.heap[b]? = some (.cells #[x0,x1,x2] t (0,0))) (o:Nat):W.frozen? ⟨b,o,none⟩=false:=by
 simp [World.frozen?,h]
set_option maxHeartbeats 3200000 in
set_option maxRecDepth 100000 in
theorem fullSeen_kids (p d:ByteArray) (v m c o k:Int) (hp:p.size≤281474976710656) (w:World) :
  Calls Tryz.prog 54 #[fuV p d v m c o k,.int .i64 2] w fun e w'=>e=.returned (.agg #[.string p,.string ⟨#[]⟩,.int .i64 0])∧Below w.heap.size w w':=by
 have HP:Hid _:=sclone_any p hp
 clear hp
 go_enter Tryz.func54,Tryz.ntmps54
 go_wp2_with fail
 refine (HP.out _).mono ?_
 rintro e w1 ⟨rfl,hb1⟩
 have HB1:Hid (Below w.heap.size w w1):=trans2 (((Below.refl _ _).alloc (Nat.le_refl _) _).alloc (by simp) _) ⟨hb1.os,hb1.tape,hb1.output,hb1.size,hb1.block⟩
 have HY1:Hid (w1.heap[w.heap.size+1]? = some (.cells #[.string ⟨#[]⟩,.string ⟨#[]⟩,.int .i64 0] 117 (0,0))):=kept_block hb1 (heap_alloc2_new _ _ _)
 obtain ⟨b0,b1,b2⟩:=tcells_3 HY1.out
 have hg:=tfree_3 HY1.out
 clear hb1
 go_wp2_with fail
 exact bodyPost_ret (results_cell_row rfl _ _ (w.heap.size+1) 117 _ (0,0) _ rfl (fill_3 HY1.out) Tryz.underlying117 rfl (by kernel_rfl)) rfl ⟨rfl,fillB_3 HB1.out (by omega)⟩
set_option maxHeartbeats 3200000 in
set_option maxRecDepth 100000 in
theorem fullSeen_whole (p d:ByteArray) (v m c o k q:Int) (hq:q≠2) (hp:p.size≤281474976710656) (hd:d.size≤281474976710656) (w:World) :
  Calls Tryz.prog 54 #[fuV p d v m c o k,.int .i64 q] w fun e w'=>e=.returned (.agg #[.string p,.string d,.int .i64 v])∧Below w.heap.size w w':=by
 have HP:Hid _:=sclone_any p hp
 have HD:Hid _:=sclone_any d hd
 clear hp hd
 go_enter Tryz.func54,Tryz.ntmps54
 go_wp2
 go_region_held3 (fun w'=>w'.cell? ⟨w.heap.size,0,none⟩=some (.string p)∧w'.cell? ⟨w.heap.size,1,none⟩=some (.string d)∧w'.cell? ⟨w.heap.size,2,none⟩=some (.int .i64 v)) (first | go_keep | exact ⟨a0,a1,a2⟩)
  (first
    | (go_at_call 46;refine (HP.out _).mono ?_;rintro e w1 ⟨rfl,hb1⟩
       have HB1:Hid (Below w.heap.size w w1):=trans2 (((Below.refl _ _).alloc (Nat.le_refl _) _).alloc (by simp) _) ⟨hb1.os,hb1.tape,hb1.output,hb1.size,hb1.block⟩
       have HX1:Hid (w1.heap[w.heap.size]? = some (.cells #[.string p,.string d,.int .i64 v,.int .i64 m,.int .i64 c,.int .i64 o,.int .i64 k] 27 (0,0))):=kept_block hb1 (heap_alloc2_old _ _ _)
       have HY1:Hid (w1.heap[w.heap.size+1]? = some (.cells #[.string ⟨#[]⟩,.string ⟨#[]⟩,.int .i64 0] 117 (0,0))):=kept_block hb1 (heap_alloc2_new _ _ _)
       obtain ⟨a0,a1,a2,a3,a4,a5,a6⟩:=cells_7 HX1.out
       clear hb1)
    | (go_at_call 46;refine (HD.out _).mono ?_;rintro e w2 ⟨rfl,hb2⟩
       have HB2:Hid (Below w.heap.size w w2):=trans2 HB1.out hb2
       have HX2:Hid _:=kept_block hb2 HX1.out
       have HY2:Hid _:=kept_block hb2 HY1.out
       clear a0 a1 a2 a3 a4 a5 a6 hb2
       obtain ⟨a0,a1,a2,a3,a4,a5,a6⟩:=cells_7 HX2.out
       obtain ⟨b0,b1,b2⟩:=tcells_3 HY2.out
       have hg:=tfree_3 HY2.out))
 go_wp2_with fail
 exact bodyPost_ret (results_cell_row rfl _ _ (w.heap.size+1) 117 _ (0,0) _ rfl (fill_3 HY2.out) Tryz.underlying117 rfl (by kernel_rfl)) rfl ⟨rfl,fillB_3 HB2.out (by omega)⟩
theorem fullSeen_any (p d:ByteArray) (v m c o k q:Int) (hp:p.size≤281474976710656) (hd:d.size≤281474976710656) (w:World) :
  Calls Tryz.prog 54 #[fuV p d v m c o k,.int .i64 q] w fun e w'=>e=.returned (.agg #[.string p,.string (if q=2 then ⟨#[]⟩ else d),.int .i64 (if q=2 then 0 else v)])∧Below w.heap.size w w':=by
 by_cases hq:q=2
 · subst hq
   simpa using fullSeen_kids p d v m c o k hp w
 · simpa [hq] using fullSeen_whole p d v m c o k q hq hp hd w
end Go.Proofs.YtckmihplkhmpnaaGreatDoor
