import Derived.Test.YtckmihplkhmpnaaGreatDoorCovers
import Derived.Maps.OwnSet
import Derived.Maps.Ext
import Derived.WalkMore
import Derived.OneCell
namespace Go.Proofs.YtckmihplkhmpnaaGreatDoor
open Go.RowKit Go.Maps
structure Chg (w w':World) (S:Nat→Prop):Prop where
 os:w'.os=w.os
 tape:w'.tape=w.tape
 output:w'.output=w.output
 size:w.heap.size≤w'.heap.size
 block:∀ k,k<w.heap.size→¬ S k→w'.heap[k]? = w.heap[k]?
theorem Chg.trans {w w1 w2:World} {S:Nat→Prop} (h:Chg w w1 S) (k:Chg w1 w2 S):Chg w w2 S :=
 ⟨k.os.trans h.os,k.tape.trans h.tape,k.output.trans h.output,Nat.le_trans h.size k.size,fun i hi hs=>(k.block i (Nat.lt_of_lt_of_le hi h.size) hs).trans (h.block i hi hs)⟩
theorem Chg.mono {w w':World} {S S':Nat→Prop} (h:Chg w w' S) (hs:∀ k,k<w.heap.size→S k→S' k):Chg w w' S' :=
 ⟨h.os,h.tape,h.output,h.size,fun k hk hn=>h.block k hk (fun h'=>hn (hs k hk h'))⟩
theorem Chg.refl (w:World) (S:Nat→Prop):Chg w w S:=⟨rfl,rfl,rfl,Nat.le_refl _,fun _ _ _=>rfl⟩
theorem Chg.grown {w w':World} {row:Option Nat} (h:w.grownBy w' row):Chg w w' (fun k=>row=some k) :=
 ⟨h.os,h.tape,h.output,h.size,fun k hk hn=>h.block k hk (fun e=>hn e.symm)⟩
theorem Chg.alloc (w:World) (o:Obj) (S:Nat→Prop):Chg w (w.alloc o) S:=(Chg.grown (World.grownBy_alloc w o none)).mono (fun _ _ h=>by cases h)
theorem Chg.set (w:World) (a:Addr) (v:Value):Chg w (w.setCell a v) (fun k=>k=a.block) :=
 ⟨rfl,rfl,rfl,by simp,fun k _ hn=>Below.heap_setCell w a v k hn⟩
theorem Chg.of_below {w w':World} (h:Below w.heap.size w w') (S:Nat→Prop):Chg w w' S:=⟨h.os,h.tape,h.output,h.size,fun k hk _=>h.block k hk⟩
theorem Chg.below {w w':World} {S:Nat→Prop} {B:Nat} (h:Chg w w' S) (hB:B≤w.heap.size) (hs:∀ k,k<w.heap.size→S k→B≤k):Below B w w' :=
 ⟨h.os,h.tape,h.output,h.size,fun k hk=>h.block k (Nat.lt_of_lt_of_le hk hB) (fun h'=>by have:=hs k (Nat.lt_of_lt_of_le hk hB) h';omega)⟩
theorem kept_block {W w1:World} {b:Nat} {o:Obj} (hb:Below W.heap.size W w1) (h:W.heap[b]? = some o):w1.heap[b]? = some o:=by
 rw [hb.block b (Array.getElem?_eq_some_iff.1 h).1];exact h
theorem cells_1 {W:World} {b:Nat} {t:TypeId} {x0:Value} (h:W.heap[b]? = some (.cells #[x0] t (0,0))):W.cell? ⟨b,0,none⟩=some x0:=by
 simp [World.cell?,h]
theorem free_1 {W:World} {b:Nat} {t:TypeId} {x0:Value} (h:W.heap[b]? = some (.cells #[x0] t (0,0))) (o:Nat):W.frozen? ⟨b,o,none⟩=false:=by
 simp [World.frozen?,h]
theorem cells_4 {W:World} {b:Nat} {t:TypeId} {x0 x1 x2 x3:Value} (h:W.heap[b]? = some (.cells #[x0,x1,x2,x3] t (0,0))):W.cell? ⟨b,0,none⟩=some x0∧W.cell? ⟨b,1,none⟩=some x1∧W.cell? ⟨b,2,none⟩=some x2∧W.cell? ⟨b,3,none⟩=some x3:=by
 simp [World.cell?,h]
theorem free_4 {W:World} {b:Nat} {t:TypeId} {x0 x1 x2 x3:Value} (h:W.heap[b]? = some (.cells #[x0,x1,x2,x3] t (0,0))) (o:Nat):W.frozen? ⟨b,o,none⟩=false:=by
 simp [World.frozen?,h]
theorem cells_5 {W:World} {b:Nat} {t:TypeId} {x0 x1 x2 x3 x4:Value} (h:W.heap[b]? = some (.cells #[x0,x1,x2,x3,x4] t (0,0))):W.cell? ⟨b,0,none⟩=some x0∧W.cell? ⟨b,1,none⟩=some x1∧W.cell? ⟨b,2,none⟩=some x2∧W.cell? ⟨b,3,none⟩=some x3∧W.cell? ⟨b,4,none⟩=some x4:=by
 simp [World.cell?,h]
theorem cells_6 {W:World} {b:Nat} {t:TypeId} {x0 x1 x2 x3 x4 x5:Value} (h:W.heap[b]? = some (.cells #[x0,x1,x2,x3,x4,x5] t (0,0))):W.cell? ⟨b,0,none⟩=some x0∧W.cell? ⟨b,1,none⟩=some x1∧W.cell? ⟨b,2,none⟩=some x2∧W.cell? ⟨b,3,none⟩=some x3∧W.cell? ⟨b,4,none⟩=some x4∧W.cell? ⟨b,5,none⟩=some x5:=by
 simp [World.cell?,h]
theorem cells_7 {W:World} {b:Nat} {t:TypeId} {x0 x1 x2 x3 x4 x5 x6:Value} (h:W.heap[b]? = some (.cells #[x0,x1,x2,x3,x4,x5,x6] t (0,0))):W.cell? ⟨b,0,none⟩=some x0∧W.cell? ⟨b,1,none⟩=some x1∧W.cell? ⟨b,2,none⟩=some x2∧W.cell? ⟨b,3,none⟩=some x3∧W.cell? ⟨b,4,none⟩=some x4∧W.cell? ⟨b,5,none⟩=some x5∧W.cell? ⟨b,6,none⟩=some x6:=by
 simp [World.cell?,h]
theorem free_7 {W:World} {b:Nat} {t:TypeId} {x0 x1 x2 x3 x4 x5 x6:Value} (h:W.heap[b]? = some (.cells #[x0,x1,x2,x3,x4,x5,x6] t (0,0))) (o:Nat):W.frozen? ⟨b,o,none⟩=false:=by
 simp [World.frozen?,h]
def raw (v:Value):Option (DataW Value × List MemPlace):=some (.held v,[])
abbrev MapAt (w:World) (b n:Nat) (D:DataW Value):Prop:=w.ownsMap Tryz.prog 9 raw b n D
theorem keyed:Keyed Tryz.prog 9:=string_keyed Tryz.underlying9
abbrev ky (s:ByteArray):Lit:=.string s.data.toList
abbrev fuV (p d:ByteArray) (v m c o k:Int):Value:=.agg #[.string p,.string d,.int .i64 v,.int .i64 m,.int .i64 c,.int .i64 o,.int .i64 k]
abbrev zf:Value:=fuV ByteArray.empty ByteArray.empty 0 0 0 0 0
theorem zeroF (w:World):(zeroValue 27).run Tryz.prog w=.ok zf w:=by kernel_rfl
theorem map_chg {w w':World} {b n:Nat} {D:DataW Value} {S:Nat→Prop} (h:MapAt w b n D) (hc:Chg w w' S) (hs:¬ S b):MapAt w' b n D:=by
 have hl:=h.lt
 obtain ⟨es,clock,hb,r⟩:=h
 exact ⟨es,clock,by rw [hc.block b hl hs];exact hb,r⟩
theorem map_below {w w':World} {b n:Nat} {D:DataW Value} (h:MapAt w b n D) (hc:Below w.heap.size w w'):MapAt w' b n D:=map_chg h (Chg.of_below hc (fun _=>False)) id
def needsTab:List (List Bool):=[[false,false,false,false,false,false],[true,true,true,false,false,false],[false,false,true,true,false,true],[false,true,false,true,true,false],[false,false,false,true,false,false],[false,false,false,false,false,false],[false,false,false,false,false,false],[false,false,false,false,false,false]]
structure GroundT (w:World):Prop extends Ground w where
 need:∀ i j b,(needsTab.flatten)[6 * i+j]? = some b→w.cell? ⟨0,6 * i+j,none⟩=some (.bool b)
 needLt:0<w.heap.size
theorem GroundT.below {w w':World} (h:GroundT w) (hb:Below w.heap.size w w'):GroundT w' :=
 { h.toGround.below hb with
   need:=fun i j b hx=>by rw [hb.cell (p:=⟨0,6 * i+j,none⟩) h.needLt];exact h.need i j b hx
   needLt:=Nat.lt_of_lt_of_le h.needLt hb.size }
end Go.Proofs.YtckmihplkhmpnaaGreatDoor
namespace Go.Proofs.YtckmihplkhmpnaaGreatDoor
open Go.RowKit Go.Maps
abbrev opV (k:Int) (p d:ByteArray) (v f:Int):Value:=.agg #[.int .i64 k,.string p,.string d,.int .i64 v,.int .i64 f]
theorem kinds {k:Int} (h1:1≤k) (h7:k≤7):k=1∨k=2∨k=3∨k=4∨k=5∨k=6∨k=7:=by omega
set_option maxHeartbeats 1600000 in
theorem flagsOf_any {k:Int} (h1:1≤k) (h7:k≤7) (p d:ByteArray) (v f:Int) (w:World) (hg:GroundT w) :
  Calls Tryz.prog 104 #[opV k p d v f] w fun e w'=>e=.returned (.int .i64 (if k=1 then f else 0))∧Below w.heap.size w w':=by
 have n1:=hg.need 1 0 true rfl
 have n2:=hg.need 2 0 false rfl
 have n3:=hg.need 3 0 false rfl
 have n4:=hg.need 4 0 false rfl
 have n5:=hg.need 5 0 false rfl
 have n6:=hg.need 6 0 false rfl
 have n7:=hg.need 7 0 false rfl
 simp only [Nat.reduceMul,Nat.reduceAdd] at n1 n2 n3 n4 n5 n6 n7
 have hlt:=hg.needLt
 clear hg
 rcases kinds h1 h7 with rfl | rfl | rfl | rfl | rfl | rfl | rfl <;> clear h1 h7
 all_goals
  go_enter Tryz.func104,Tryz.ntmps104
  go_wp2
  go_ret
  exact ⟨rfl,(Below.refl _ _).alloc (Nat.le_refl _) _⟩
theorem flags4 {f:Int} (h0:0≤f) (h3:f≤3):f=0∨f=1∨f=2∨f=3:=by omega
set_option maxHeartbeats 1600000 in
theorem isCounted_any {k:Int} (h1:1≤k) (h7:k≤7) (p d:ByteArray) (v f:Int) (hf:k=1→0≤f∧f≤3) (w:World) (hg:GroundT w) :
  Calls Tryz.prog 86 #[opV k p d v f] w fun e w'=>e=.returned (.bool (decide (k=1∧2≤f)))∧Below w.heap.size w w':=by
 have HF:Hid (∀ W,GroundT W→Calls Tryz.prog 104 #[opV k p d v f] W fun e w'=>e=.returned (.int .i64 (if k=1 then f else 0))∧Below W.heap.size W w'):=fun W h=>flagsOf_any h1 h7 p d v f W h
 have HG:Hid _:=hg
 clear hg
 by_cases hk:k=1
 · obtain ⟨h0,h3⟩:=hf hk
   simp only [if_pos hk] at HF
   rcases flags4 h0 h3 with rfl | rfl | rfl | rfl
   all_goals
    subst hk
    clear h0 h3 hf h1 h7
    go_enter Tryz.func86,Tryz.ntmps86
    go_wp2_with (first | (go_at_call 104;refine (HF.out _ (HG.out.below ((Below.refl _ _).alloc (Nat.le_refl _) _))).mono ?_;rintro e w1 ⟨rfl,hb⟩) | fail)
    go_ret
    exact ⟨(by first | (simp;done) | (simp;decide)),(((Below.refl _ _).alloc (Nat.le_refl _) _).trans (hb.mono (by simp)))⟩
 · simp only [if_neg hk] at HF
   have hd:decide (k=1∧2≤f)=false:=by simp [hk]
   rw [hd]
   clear hd h1 h7 hf
   go_enter Tryz.func86,Tryz.ntmps86
   go_wp2_with (first | (go_at_call 104;refine (HF.out _ (HG.out.below ((Below.refl _ _).alloc (Nat.le_refl _) _))).mono ?_;rintro e w1 ⟨rfl,hb⟩) | fail)
   go_ret
   exact ⟨(by first | (simp;done) | (simp;decide)),(((Below.refl _ _).alloc (Nat.le_refl _) _).trans (hb.mono (by simp)))⟩
set_option maxHeartbeats 1600000 in
theorem isBriefOp_any {k:Int} (h1:1≤k) (h7:k≤7) (p d:ByteArray) (v f:Int) (hf:k=1→0≤f∧f≤3) (w:World) (hg:GroundT w) :
  Calls Tryz.prog 87 #[opV k p d v f] w fun e w'=>e=.returned (.bool (decide (k=1∧f % 2=1)))∧Below w.heap.size w w':=by
 have HF:Hid (∀ W,GroundT W→Calls Tryz.prog 104 #[opV k p d v f] W fun e w'=>e=.returned (.int .i64 (if k=1 then f else 0))∧Below W.heap.size W w'):=fun W h=>flagsOf_any h1 h7 p d v f W h
 have HG:Hid _:=hg
 clear hg
 by_cases hk:k=1
 · obtain ⟨h0,h3⟩:=hf hk
   simp only [if_pos hk] at HF
   rcases flags4 h0 h3 with rfl | rfl | rfl | rfl
   all_goals
    subst hk
    clear h0 h3 hf h1 h7
    go_enter Tryz.func87,Tryz.ntmps87
    go_wp2_with (first | (go_at_call 104;refine (HF.out _ (HG.out.below ((Below.refl _ _).alloc (Nat.le_refl _) _))).mono ?_;rintro e w1 ⟨rfl,hb⟩) | fail)
    go_ret
    exact ⟨(by first | (simp;done) | (simp;decide)),(((Below.refl _ _).alloc (Nat.le_refl _) _).trans (hb.mono (by simp)))⟩
 · simp only [if_neg hk] at HF
   have hd:decide (k=1∧f % 2=1)=false:=by simp [hk]
   rw [hd]
   clear hd h1 h7 hf
   go_enter Tryz.func87,Tryz.ntmps87
   go_wp2_with (first | (go_at_call 104;refine (HF.out _ (HG.out.below ((Below.refl _ _).alloc (Nat.le_refl _) _))).mono ?_;rintro e w1 ⟨rfl,hb⟩) | fail)
   go_ret
   exact ⟨(by first | (simp;done) | (simp;decide)),(((Below.refl _ _).alloc (Nat.le_refl _) _).trans (hb.mono (by simp)))⟩
def lastN (p:ByteArray):ByteArray:=((parse p).2.getLast?).getD ⟨#[]⟩
theorem name_any (p:ByteArray) (w:World) (hg:Ground w) :
  Calls Tryz.prog 85 #[.string p] w fun e w'=>e=.returned (.tuple #[.string (lastN p),.int .i64 (parse p).1])∧Below w.heap.size w w':=by
 obtain ⟨code,xs,hp⟩:∃ code xs,parse p=(code,xs):=⟨_,_,rfl⟩
 unfold lastN
 rw [hp]
 rcases List.eq_nil_or_concat xs with rfl | ⟨ys,x,rfl⟩
 · exact name_err hp w hg
 · have hc:code=0:=Classical.byContradiction fun h=>by have:=parse_code hp h;simp at this
   subst hc
   simp only [List.concat_eq_append,List.getLast?_append,List.getLast?_singleton,Option.some_or,Option.getD_some]
   exact name_some hp ys.length (by simp) x (by simp) w hg
def malC (s k:Int) (p d:ByteArray) (f:Int):Int :=
 if k<1∨7<k then 48 else
 if k=1∧¬ (0≤f∧f≤3) then 48 else
 if (parse p).1≠0∨(k=1∧2≤f)∧11<(lastN p).size then 10 else
 if (k=1∨k=3)∧p=⟨#[47]⟩ then 47 else
 if (k=1∧f % 2=1)∧s=0 then 44 else
 if (k=1∨k=2)∧64<d.size then 45 else 0
end Go.Proofs.YtckmihplkhmpnaaGreatDoor
