import Derived.Test.YtckmihplkhmpnaaGreatDoorTOps
namespace Go.Proofs.YtckmihplkhmpnaaGreatDoor
open Go.RowKit Go.Maps
set_option linter.unusedVariables false
set_option linter.unusedSimpArgs false
theorem slash_ne {p:ByteArray} (h:p≠⟨#[47]⟩):(p.toList==[47])=false:=by
 cases hb:(p.toList==[47]) with
 | false=>rfl
 | true =>
   exfalso
   have:=eq_of_beq hb
   exact h (ByteArray.ext (Array.ext' (by rw [← ByteArray.toList_eq];exact this)))
theorem slash_is:((⟨#[47]⟩:ByteArray).toList==[47])=true:=by rw [ByteArray.toList_eq];decide
set_option maxHeartbeats 3200000 in
theorem mal_1_0 (rb:Nat) (s:Int) (p d:ByteArray) (v:Int) (w:World) (hg:GroundT w) (hr:w.cell? ⟨rb,0,none⟩=some (.int .i64 s)) (hrl:rb<w.heap.size) :
  Calls Tryz.prog 61 #[.pointer (some ⟨rb,0,none⟩),opV 1 p d v 0] w fun e w'=>e=.returned (.int .i64 (malC s 1 p d 0))∧Below w.heap.size w w':=by
 have n0:=hg.need 1 0 true rfl
 have n1:=hg.need 1 1 true rfl
 have n2:=hg.need 1 2 true rfl
 have n3:=hg.need 1 3 false rfl
 have n4:=hg.need 1 4 false rfl
 have n5:=hg.need 1 5 false rfl
 simp only [Nat.reduceMul,Nat.reduceAdd] at n0 n1 n2 n3 n4 n5
 have hlt:=hg.needLt
 have HG:Hid _:=hg
 have HR:Hid _:=hr
 obtain ⟨code,hcode⟩:∃ code,(parse p).1=code:=⟨_,rfl⟩
 have HN:Hid (∀ W,Ground W→Calls Tryz.prog 85 #[.string p] W fun e w'=>e=.returned (.tuple #[.string (lastN p),.int .i64 code])∧Below W.heap.size W w'):=fun W h=>by rw [← hcode];exact name_any p W h
 have HC:Hid (∀ W,GroundT W→Calls Tryz.prog 86 #[opV 1 p d v 0] W fun e w'=>e=.returned (.bool false)∧Below W.heap.size W w'):=fun W h=>isCounted_any (k:=1) (by decide) (by decide) p d v 0 (fun _=>by decide) W h
 have HB:Hid (∀ W,GroundT W→Calls Tryz.prog 87 #[opV 1 p d v 0] W fun e w'=>e=.returned (.bool false)∧Below W.heap.size W w'):=fun W h=>isBriefOp_any (k:=1) (by decide) (by decide) p d v 0 (fun _=>by decide) W h
 clear hg
 have hbt:bits BinOp.andNot IntKind.i64 0 3=0:=by decide
 by_cases hc:code=0
 · subst hc
   by_cases hsl:p=⟨#[47]⟩
   · subst hsl
     have hsb:=slash_is
     have HV:Hid (malC s 1 ⟨#[47]⟩ d 0=47):=by
      show malC s 1 ⟨#[47]⟩ d 0=47
      simp [malC,hcode]
     go_enter Tryz.func61,Tryz.ntmps61
     go_wp2_with fail
     refine (HN.out _ (HG.out.toGround.below (((Below.refl _ _).alloc (Nat.le_refl _) _).alloc (by simp) _))).mono ?_
     rintro e w1 ⟨rfl,hb1⟩
     have HB1:Hid (Below w.heap.size w w1):=trans2 (((Below.refl _ _).alloc (Nat.le_refl _) _).alloc (by simp) _) hb1
     have HO1:Hid (w1.heap[w.heap.size]? = some (.cells #[.int .i64 1,.string ⟨#[47]⟩,.string d,.int .i64 v,.int .i64 0] 66 (0,0))):=kept_block hb1 (heap_alloc2_old _ _ _)
     have HE1:Hid (w1.heap[w.heap.size+1]? = some (.cells #[.bool true,.bool true,.bool true,.bool false,.bool false,.bool false] 132 (0,0))):=kept_block hb1 (heap_alloc2_new _ _ _)
     obtain ⟨a0,a1,a2,a3,a4⟩:=cells_5 HO1.out
     obtain ⟨b0,b1,b2,b3,b4,b5⟩:=cells_6 HE1.out
     clear hb1 n0 n1 n2 n3 n4 n5 hr
     go_wp2_with fail
     refine (HC.out _ (HG.out.below HB1.out)).mono ?_
     rintro e w2 ⟨rfl,hb2⟩
     have HB2:Hid (Below w.heap.size w w2):=trans2 HB1.out hb2
     have HO2:Hid _:=kept_block hb2 HO1.out
     have HE2:Hid _:=kept_block hb2 HE1.out
     clear hb2 a0 a1 a2 a3 a4 b0 b1 b2 b3 b4 b5
     obtain ⟨a0,a1,a2,a3,a4⟩:=cells_5 HO2.out
     obtain ⟨b0,b1,b2,b3,b4,b5⟩:=cells_6 HE2.out
     go_wp2
     go_ret
     exact ⟨(by rw [HV.out] <;> rfl),HB2.out⟩
   · have hsb:=slash_ne hsl
     by_cases hdl:64<d.size
     · have hdl':(64:Int)<(d.size:Int):=by omega
       have HV:Hid (malC s 1 p d 0=45):=by
        show malC s 1 p d 0=45
        simp [malC,hcode,hsl,hdl]
       go_enter Tryz.func61,Tryz.ntmps61
       go_wp2_with fail
       refine (HN.out _ (HG.out.toGround.below (((Below.refl _ _).alloc (Nat.le_refl _) _).alloc (by simp) _))).mono ?_
       rintro e w1 ⟨rfl,hb1⟩
       have HB1:Hid (Below w.heap.size w w1):=trans2 (((Below.refl _ _).alloc (Nat.le_refl _) _).alloc (by simp) _) hb1
       have HO1:Hid (w1.heap[w.heap.size]? = some (.cells #[.int .i64 1,.string p,.string d,.int .i64 v,.int .i64 0] 66 (0,0))):=kept_block hb1 (heap_alloc2_old _ _ _)
       have HE1:Hid (w1.heap[w.heap.size+1]? = some (.cells #[.bool true,.bool true,.bool true,.bool false,.bool false,.bool false] 132 (0,0))):=kept_block hb1 (heap_alloc2_new _ _ _)
       obtain ⟨a0,a1,a2,a3,a4⟩:=cells_5 HO1.out
       obtain ⟨b0,b1,b2,b3,b4,b5⟩:=cells_6 HE1.out
       clear hb1 n0 n1 n2 n3 n4 n5 hr
       go_wp2_with fail
       refine (HC.out _ (HG.out.below HB1.out)).mono ?_
       rintro e w2 ⟨rfl,hb2⟩
       have HB2:Hid (Below w.heap.size w w2):=trans2 HB1.out hb2
       have HO2:Hid _:=kept_block hb2 HO1.out
       have HE2:Hid _:=kept_block hb2 HE1.out
       clear hb2 a0 a1 a2 a3 a4 b0 b1 b2 b3 b4 b5
       obtain ⟨a0,a1,a2,a3,a4⟩:=cells_5 HO2.out
       obtain ⟨b0,b1,b2,b3,b4,b5⟩:=cells_6 HE2.out
       go_wp2_with fail
       refine (HB.out _ (HG.out.below HB2.out)).mono ?_
       rintro e w3 ⟨rfl,hb3⟩
       have HB3:Hid (Below w.heap.size w w3):=trans2 HB2.out hb3
       have HO3:Hid _:=kept_block hb3 HO2.out
       have HE3:Hid _:=kept_block hb3 HE2.out
       have r3:w3.cell? ⟨rb,0,none⟩=some (.int .i64 s):=by rw [HB3.out.cell (p:=⟨rb,0,none⟩) hrl];exact HR.out
       clear hb3 a0 a1 a2 a3 a4 b0 b1 b2 b3 b4 b5
       obtain ⟨a0,a1,a2,a3,a4⟩:=cells_5 HO3.out
       obtain ⟨b0,b1,b2,b3,b4,b5⟩:=cells_6 HE3.out
       go_wp2
       go_ret
       exact ⟨(by rw [HV.out] <;> rfl),HB3.out⟩
     · have hdl':¬ (64:Int)<(d.size:Int):=by omega
       have HV:Hid (malC s 1 p d 0=0):=by
        show malC s 1 p d 0=0
        simp [malC,hcode,hsl,hdl]
       go_enter Tryz.func61,Tryz.ntmps61
       go_wp2_with fail
       refine (HN.out _ (HG.out.toGround.below (((Below.refl _ _).alloc (Nat.le_refl _) _).alloc (by simp) _))).mono ?_
       rintro e w1 ⟨rfl,hb1⟩
       have HB1:Hid (Below w.heap.size w w1):=trans2 (((Below.refl _ _).alloc (Nat.le_refl _) _).alloc (by simp) _) hb1
       have HO1:Hid (w1.heap[w.heap.size]? = some (.cells #[.int .i64 1,.string p,.string d,.int .i64 v,.int .i64 0] 66 (0,0))):=kept_block hb1 (heap_alloc2_old _ _ _)
       have HE1:Hid (w1.heap[w.heap.size+1]? = some (.cells #[.bool true,.bool true,.bool true,.bool false,.bool false,.bool false] 132 (0,0))):=kept_block hb1 (heap_alloc2_new _ _ _)
       obtain ⟨a0,a1,a2,a3,a4⟩:=cells_5 HO1.out
       obtain ⟨b0,b1,b2,b3,b4,b5⟩:=cells_6 HE1.out
       clear hb1 n0 n1 n2 n3 n4 n5 hr
       go_wp2_with fail
       refine (HC.out _ (HG.out.below HB1.out)).mono ?_
       rintro e w2 ⟨rfl,hb2⟩
       have HB2:Hid (Below w.heap.size w w2):=trans2 HB1.out hb2
       have HO2:Hid _:=kept_block hb2 HO1.out
       have HE2:Hid _:=kept_block hb2 HE1.out
       clear hb2 a0 a1 a2 a3 a4 b0 b1 b2 b3 b4 b5
       obtain ⟨a0,a1,a2,a3,a4⟩:=cells_5 HO2.out
       obtain ⟨b0,b1,b2,b3,b4,b5⟩:=cells_6 HE2.out
       go_wp2_with fail
       refine (HB.out _ (HG.out.below HB2.out)).mono ?_
       rintro e w3 ⟨rfl,hb3⟩
       have HB3:Hid (Below w.heap.size w w3):=trans2 HB2.out hb3
       have HO3:Hid _:=kept_block hb3 HO2.out
       have HE3:Hid _:=kept_block hb3 HE2.out
       have r3:w3.cell? ⟨rb,0,none⟩=some (.int .i64 s):=by rw [HB3.out.cell (p:=⟨rb,0,none⟩) hrl];exact HR.out
       clear hb3 a0 a1 a2 a3 a4 b0 b1 b2 b3 b4 b5
       obtain ⟨a0,a1,a2,a3,a4⟩:=cells_5 HO3.out
       obtain ⟨b0,b1,b2,b3,b4,b5⟩:=cells_6 HE3.out
       go_wp2
       go_ret
       exact ⟨(by rw [HV.out] <;> rfl),HB3.out⟩
 · skip
   have HV:Hid (malC s 1 p d 0=10):=by
    show malC s 1 p d 0=10
    simp [malC,hcode,hc]
   go_enter Tryz.func61,Tryz.ntmps61
   go_wp2_with fail
   refine (HN.out _ (HG.out.toGround.below (((Below.refl _ _).alloc (Nat.le_refl _) _).alloc (by simp) _))).mono ?_
   rintro e w1 ⟨rfl,hb1⟩
   have HB1:Hid (Below w.heap.size w w1):=trans2 (((Below.refl _ _).alloc (Nat.le_refl _) _).alloc (by simp) _) hb1
   have HO1:Hid (w1.heap[w.heap.size]? = some (.cells #[.int .i64 1,.string p,.string d,.int .i64 v,.int .i64 0] 66 (0,0))):=kept_block hb1 (heap_alloc2_old _ _ _)
   have HE1:Hid (w1.heap[w.heap.size+1]? = some (.cells #[.bool true,.bool true,.bool true,.bool false,.bool false,.bool false] 132 (0,0))):=kept_block hb1 (heap_alloc2_new _ _ _)
   obtain ⟨a0,a1,a2,a3,a4⟩:=cells_5 HO1.out
   obtain ⟨b0,b1,b2,b3,b4,b5⟩:=cells_6 HE1.out
   clear hb1 n0 n1 n2 n3 n4 n5 hr
   go_wp2
   go_ret
   exact ⟨(by rw [HV.out] <;> rfl),HB1.out⟩
set_option maxHeartbeats 3200000 in
theorem mal_1_1 (rb:Nat) (s:Int) (p d:ByteArray) (v:Int) (w:World) (hg:GroundT w) (hr:w.cell? ⟨rb,0,none⟩=some (.int .i64 s)) (hrl:rb<w.heap.size) :
  Calls Tryz.prog 61 #[.pointer (some ⟨rb,0,none⟩),opV 1 p d v 1] w fun e w'=>e=.returned (.int .i64 (malC s 1 p d 1))∧Below w.heap.size w w':=by
 have n0:=hg.need 1 0 true rfl
 have n1:=hg.need 1 1 true rfl
 have n2:=hg.need 1 2 true rfl
 have n3:=hg.need 1 3 false rfl
 have n4:=hg.need 1 4 false rfl
 have n5:=hg.need 1 5 false rfl
 simp only [Nat.reduceMul,Nat.reduceAdd] at n0 n1 n2 n3 n4 n5
 have hlt:=hg.needLt
 have HG:Hid _:=hg
 have HR:Hid _:=hr
 obtain ⟨code,hcode⟩:∃ code,(parse p).1=code:=⟨_,rfl⟩
 have HN:Hid (∀ W,Ground W→Calls Tryz.prog 85 #[.string p] W fun e w'=>e=.returned (.tuple #[.string (lastN p),.int .i64 code])∧Below W.heap.size W w'):=fun W h=>by rw [← hcode];exact name_any p W h
 have HC:Hid (∀ W,GroundT W→Calls Tryz.prog 86 #[opV 1 p d v 1] W fun e w'=>e=.returned (.bool false)∧Below W.heap.size W w'):=fun W h=>isCounted_any (k:=1) (by decide) (by decide) p d v 1 (fun _=>by decide) W h
 have HB:Hid (∀ W,GroundT W→Calls Tryz.prog 87 #[opV 1 p d v 1] W fun e w'=>e=.returned (.bool true)∧Below W.heap.size W w'):=fun W h=>isBriefOp_any (k:=1) (by decide) (by decide) p d v 1 (fun _=>by decide) W h
 clear hg
 have hbt:bits BinOp.andNot IntKind.i64 1 3=0:=by decide
 by_cases hc:code=0
 · subst hc
   by_cases hsl:p=⟨#[47]⟩
   · subst hsl
     have hsb:=slash_is
     have HV:Hid (malC s 1 ⟨#[47]⟩ d 1=47):=by
      show malC s 1 ⟨#[47]⟩ d 1=47
      simp [malC,hcode]
     go_enter Tryz.func61,Tryz.ntmps61
     go_wp2_with fail
     refine (HN.out _ (HG.out.toGround.below (((Below.refl _ _).alloc (Nat.le_refl _) _).alloc (by simp) _))).mono ?_
     rintro e w1 ⟨rfl,hb1⟩
     have HB1:Hid (Below w.heap.size w w1):=trans2 (((Below.refl _ _).alloc (Nat.le_refl _) _).alloc (by simp) _) hb1
     have HO1:Hid (w1.heap[w.heap.size]? = some (.cells #[.int .i64 1,.string ⟨#[47]⟩,.string d,.int .i64 v,.int .i64 1] 66 (0,0))):=kept_block hb1 (heap_alloc2_old _ _ _)
     have HE1:Hid (w1.heap[w.heap.size+1]? = some (.cells #[.bool true,.bool true,.bool true,.bool false,.bool false,.bool false] 132 (0,0))):=kept_block hb1 (heap_alloc2_new _ _ _)
     obtain ⟨a0,a1,a2,a3,a4⟩:=cells_5 HO1.out
     obtain ⟨b0,b1,b2,b3,b4,b5⟩:=cells_6 HE1.out
     clear hb1 n0 n1 n2 n3 n4 n5 hr
     go_wp2_with fail
     refine (HC.out _ (HG.out.below HB1.out)).mono ?_
     rintro e w2 ⟨rfl,hb2⟩
     have HB2:Hid (Below w.heap.size w w2):=trans2 HB1.out hb2
     have HO2:Hid _:=kept_block hb2 HO1.out
     have HE2:Hid _:=kept_block hb2 HE1.out
     clear hb2 a0 a1 a2 a3 a4 b0 b1 b2 b3 b4 b5
     obtain ⟨a0,a1,a2,a3,a4⟩:=cells_5 HO2.out
     obtain ⟨b0,b1,b2,b3,b4,b5⟩:=cells_6 HE2.out
     go_wp2
     go_ret
     exact ⟨(by rw [HV.out] <;> rfl),HB2.out⟩
   · have hsb:=slash_ne hsl
     by_cases hs0:s=0
     · subst hs0
       have HV:Hid (malC 0 1 p d 1=44):=by
        show malC 0 1 p d 1=44
        simp [malC,hcode,hsl]
       go_enter Tryz.func61,Tryz.ntmps61
       go_wp2_with fail
       refine (HN.out _ (HG.out.toGround.below (((Below.refl _ _).alloc (Nat.le_refl _) _).alloc (by simp) _))).mono ?_
       rintro e w1 ⟨rfl,hb1⟩
       have HB1:Hid (Below w.heap.size w w1):=trans2 (((Below.refl _ _).alloc (Nat.le_refl _) _).alloc (by simp) _) hb1
       have HO1:Hid (w1.heap[w.heap.size]? = some (.cells #[.int .i64 1,.string p,.string d,.int .i64 v,.int .i64 1] 66 (0,0))):=kept_block hb1 (heap_alloc2_old _ _ _)
       have HE1:Hid (w1.heap[w.heap.size+1]? = some (.cells #[.bool true,.bool true,.bool true,.bool false,.bool false,.bool false] 132 (0,0))):=kept_block hb1 (heap_alloc2_new _ _ _)
       obtain ⟨a0,a1,a2,a3,a4⟩:=cells_5 HO1.out
       obtain ⟨b0,b1,b2,b3,b4,b5⟩:=cells_6 HE1.out
       clear hb1 n0 n1 n2 n3 n4 n5 hr
       go_wp2_with fail
       refine (HC.out _ (HG.out.below HB1.out)).mono ?_
       rintro e w2 ⟨rfl,hb2⟩
       have HB2:Hid (Below w.heap.size w w2):=trans2 HB1.out hb2
       have HO2:Hid _:=kept_block hb2 HO1.out
       have HE2:Hid _:=kept_block hb2 HE1.out
       clear hb2 a0 a1 a2 a3 a4 b0 b1 b2 b3 b4 b5
       obtain ⟨a0,a1,a2,a3,a4⟩:=cells_5 HO2.out
       obtain ⟨b0,b1,b2,b3,b4,b5⟩:=cells_6 HE2.out
       go_wp2_with fail
       refine (HB.out _ (HG.out.below HB2.out)).mono ?_
       rintro e w3 ⟨rfl,hb3⟩
       have HB3:Hid (Below w.heap.size w w3):=trans2 HB2.out hb3
       have HO3:Hid _:=kept_block hb3 HO2.out
       have HE3:Hid _:=kept_block hb3 HE2.out
       have r3:w3.cell? ⟨rb,0,none⟩=some (.int .i64 0):=by rw [HB3.out.cell (p:=⟨rb,0,none⟩) hrl];exact HR.out
       clear hb3 a0 a1 a2 a3 a4 b0 b1 b2 b3 b4 b5
       obtain ⟨a0,a1,a2,a3,a4⟩:=cells_5 HO3.out
       obtain ⟨b0,b1,b2,b3,b4,b5⟩:=cells_6 HE3.out
       go_wp2
       go_ret
       exact ⟨(by rw [HV.out] <;> rfl),HB3.out⟩
     · skip
       by_cases hdl:64<d.size
       · have hdl':(64:Int)<(d.size:Int):=by omega
         have HV:Hid (malC s 1 p d 1=45):=by
          show malC s 1 p d 1=45
          simp [malC,hcode,hsl,hs0,hdl]
         go_enter Tryz.func61,Tryz.ntmps61
         go_wp2_with fail
         refine (HN.out _ (HG.out.toGround.below (((Below.refl _ _).alloc (Nat.le_refl _) _).alloc (by simp) _))).mono ?_
         rintro e w1 ⟨rfl,hb1⟩
         have HB1:Hid (Below w.heap.size w w1):=trans2 (((Below.refl _ _).alloc (Nat.le_refl _) _).alloc (by simp) _) hb1
         have HO1:Hid (w1.heap[w.heap.size]? = some (.cells #[.int .i64 1,.string p,.string d,.int .i64 v,.int .i64 1] 66 (0,0))):=kept_block hb1 (heap_alloc2_old _ _ _)
         have HE1:Hid (w1.heap[w.heap.size+1]? = some (.cells #[.bool true,.bool true,.bool true,.bool false,.bool false,.bool false] 132 (0,0))):=kept_block hb1 (heap_alloc2_new _ _ _)
         obtain ⟨a0,a1,a2,a3,a4⟩:=cells_5 HO1.out
         obtain ⟨b0,b1,b2,b3,b4,b5⟩:=cells_6 HE1.out
         clear hb1 n0 n1 n2 n3 n4 n5 hr
         go_wp2_with fail
         refine (HC.out _ (HG.out.below HB1.out)).mono ?_
         rintro e w2 ⟨rfl,hb2⟩
         have HB2:Hid (Below w.heap.size w w2):=trans2 HB1.out hb2
         have HO2:Hid _:=kept_block hb2 HO1.out
         have HE2:Hid _:=kept_block hb2 HE1.out
         clear hb2 a0 a1 a2 a3 a4 b0 b1 b2 b3 b4 b5
         obtain ⟨a0,a1,a2,a3,a4⟩:=cells_5 HO2.out
         obtain ⟨b0,b1,b2,b3,b4,b5⟩:=cells_6 HE2.out
         go_wp2_with fail
         refine (HB.out _ (HG.out.below HB2.out)).mono ?_
         rintro e w3 ⟨rfl,hb3⟩
         have HB3:Hid (Below w.heap.size w w3):=trans2 HB2.out hb3
         have HO3:Hid _:=kept_block hb3 HO2.out
         have HE3:Hid _:=kept_block hb3 HE2.out
         have r3:w3.cell? ⟨rb,0,none⟩=some (.int .i64 s):=by rw [HB3.out.cell (p:=⟨rb,0,none⟩) hrl];exact HR.out
         clear hb3 a0 a1 a2 a3 a4 b0 b1 b2 b3 b4 b5
         obtain ⟨a0,a1,a2,a3,a4⟩:=cells_5 HO3.out
         obtain ⟨b0,b1,b2,b3,b4,b5⟩:=cells_6 HE3.out
         go_wp2
         go_ret
         exact ⟨(by rw [HV.out] <;> rfl),HB3.out⟩
       · have hdl':¬ (64:Int)<(d.size:Int):=by omega
         have HV:Hid (malC s 1 p d 1=0):=by
          show malC s 1 p d 1=0
          simp [malC,hcode,hsl,hs0,hdl]
         go_enter Tryz.func61,Tryz.ntmps61
         go_wp2_with fail
         refine (HN.out _ (HG.out.toGround.below (((Below.refl _ _).alloc (Nat.le_refl _) _).alloc (by simp) _))).mono ?_
         rintro e w1 ⟨rfl,hb1⟩
         have HB1:Hid (Below w.heap.size w w1):=trans2 (((Below.refl _ _).alloc (Nat.le_refl _) _).alloc (by simp) _) hb1
         have HO1:Hid (w1.heap[w.heap.size]? = some (.cells #[.int .i64 1,.string p,.string d,.int .i64 v,.int .i64 1] 66 (0,0))):=kept_block hb1 (heap_alloc2_old _ _ _)
         have HE1:Hid (w1.heap[w.heap.size+1]? = some (.cells #[.bool true,.bool true,.bool true,.bool false,.bool false,.bool false] 132 (0,0))):=kept_block hb1 (heap_alloc2_new _ _ _)
         obtain ⟨a0,a1,a2,a3,a4⟩:=cells_5 HO1.out
         obtain ⟨b0,b1,b2,b3,b4,b5⟩:=cells_6 HE1.out
         clear hb1 n0 n1 n2 n3 n4 n5 hr
         go_wp2_with fail
         refine (HC.out _ (HG.out.below HB1.out)).mono ?_
         rintro e w2 ⟨rfl,hb2⟩
         have HB2:Hid (Below w.heap.size w w2):=trans2 HB1.out hb2
         have HO2:Hid _:=kept_block hb2 HO1.out
         have HE2:Hid _:=kept_block hb2 HE1.out
         clear hb2 a0 a1 a2 a3 a4 b0 b1 b2 b3 b4 b5
         obtain ⟨a0,a1,a2,a3,a4⟩:=cells_5 HO2.out
         obtain ⟨b0,b1,b2,b3,b4,b5⟩:=cells_6 HE2.out
         go_wp2_with fail
         refine (HB.out _ (HG.out.below HB2.out)).mono ?_
         rintro e w3 ⟨rfl,hb3⟩
         have HB3:Hid (Below w.heap.size w w3):=trans2 HB2.out hb3
         have HO3:Hid _:=kept_block hb3 HO2.out
         have HE3:Hid _:=kept_block hb3 HE2.out
         have r3:w3.cell? ⟨rb,0,none⟩=some (.int .i64 s):=by rw [HB3.out.cell (p:=⟨rb,0,none⟩) hrl];exact HR.out
         clear hb3 a0 a1 a2 a3 a4 b0 b1 b2 b3 b4 b5
         obtain ⟨a0,a1,a2,a3,a4⟩:=cells_5 HO3.out
         obtain ⟨b0,b1,b2,b3,b4,b5⟩:=cells_6 HE3.out
         go_wp2
         go_ret
         exact ⟨(by rw [HV.out] <;> rfl),HB3.out⟩
 · skip
   have HV:Hid (malC s 1 p d 1=10):=by
    show malC s 1 p d 1=10
    simp [malC,hcode,hc]
   go_enter Tryz.func61,Tryz.ntmps61
   go_wp2_with fail
   refine (HN.out _ (HG.out.toGround.below (((Below.refl _ _).alloc (Nat.le_refl _) _).alloc (by simp) _))).mono ?_
   rintro e w1 ⟨rfl,hb1⟩
   have HB1:Hid (Below w.heap.size w w1):=trans2 (((Below.refl _ _).alloc (Nat.le_refl _) _).alloc (by simp) _) hb1
   have HO1:Hid (w1.heap[w.heap.size]? = some (.cells #[.int .i64 1,.string p,.string d,.int .i64 v,.int .i64 1] 66 (0,0))):=kept_block hb1 (heap_alloc2_old _ _ _)
   have HE1:Hid (w1.heap[w.heap.size+1]? = some (.cells #[.bool true,.bool true,.bool true,.bool false,.bool false,.bool false] 132 (0,0))):=kept_block hb1 (heap_alloc2_new _ _ _)
   obtain ⟨a0,a1,a2,a3,a4⟩:=cells_5 HO1.out
   obtain ⟨b0,b1,b2,b3,b4,b5⟩:=cells_6 HE1.out
   clear hb1 n0 n1 n2 n3 n4 n5 hr
   go_wp2
   go_ret
   exact ⟨(by rw [HV.out] <;> rfl),HB1.out⟩
set_option maxHeartbeats 3200000 in
theorem mal_1_2 (rb:Nat) (s:Int) (p d:ByteArray) (v:Int) (w:World) (hg:GroundT w) (hr:w.cell? ⟨rb,0,none⟩=some (.int .i64 s)) (hrl:rb<w.heap.size) :
  Calls Tryz.prog 61 #[.pointer (some ⟨rb,0,none⟩),opV 1 p d v 2] w fun e w'=>e=.returned (.int .i64 (malC s 1 p d 2))∧Below w.heap.size w w':=by
 have n0:=hg.need 1 0 true rfl
 have n1:=hg.need 1 1 true rfl
 have n2:=hg.need 1 2 true rfl
 have n3:=hg.need 1 3 false rfl
 have n4:=hg.need 1 4 false rfl
 have n5:=hg.need 1 5 false rfl
 simp only [Nat.reduceMul,Nat.reduceAdd] at n0 n1 n2 n3 n4 n5
 have hlt:=hg.needLt
 have HG:Hid _:=hg
 have HR:Hid _:=hr
 obtain ⟨code,hcode⟩:∃ code,(parse p).1=code:=⟨_,rfl⟩
 have HN:Hid (∀ W,Ground W→Calls Tryz.prog 85 #[.string p] W fun e w'=>e=.returned (.tuple #[.string (lastN p),.int .i64 code])∧Below W.heap.size W w'):=fun W h=>by rw [← hcode];exact name_any p W h
 have HC:Hid (∀ W,GroundT W→Calls Tryz.prog 86 #[opV 1 p d v 2] W fun e w'=>e=.returned (.bool true)∧Below W.heap.size W w'):=fun W h=>isCounted_any (k:=1) (by decide) (by decide) p d v 2 (fun _=>by decide) W h
 have HB:Hid (∀ W,GroundT W→Calls Tryz.prog 87 #[opV 1 p d v 2] W fun e w'=>e=.returned (.bool false)∧Below W.heap.size W w'):=fun W h=>isBriefOp_any (k:=1) (by decide) (by decide) p d v 2 (fun _=>by decide) W h
 clear hg
 have hbt:bits BinOp.andNot IntKind.i64 2 3=0:=by decide
 by_cases hc:code=0
 · subst hc
   by_cases hln:11<(lastN p).size
   · have hln':(11:Int)<((lastN p).size:Int):=by omega
     have HV:Hid (malC s 1 p d 2=10):=by
      show malC s 1 p d 2=10
      simp [malC,hcode,hln]
     go_enter Tryz.func61,Tryz.ntmps61
     go_wp2_with fail
     refine (HN.out _ (HG.out.toGround.below (((Below.refl _ _).alloc (Nat.le_refl _) _).alloc (by simp) _))).mono ?_
     rintro e w1 ⟨rfl,hb1⟩
     have HB1:Hid (Below w.heap.size w w1):=trans2 (((Below.refl _ _).alloc (Nat.le_refl _) _).alloc (by simp) _) hb1
     have HO1:Hid (w1.heap[w.heap.size]? = some (.cells #[.int .i64 1,.string p,.string d,.int .i64 v,.int .i64 2] 66 (0,0))):=kept_block hb1 (heap_alloc2_old _ _ _)
     have HE1:Hid (w1.heap[w.heap.size+1]? = some (.cells #[.bool true,.bool true,.bool true,.bool false,.bool false,.bool false] 132 (0,0))):=kept_block hb1 (heap_alloc2_new _ _ _)
     obtain ⟨a0,a1,a2,a3,a4⟩:=cells_5 HO1.out
     obtain ⟨b0,b1,b2,b3,b4,b5⟩:=cells_6 HE1.out
     clear hb1 n0 n1 n2 n3 n4 n5 hr
     go_wp2_with fail
     refine (HC.out _ (HG.out.below HB1.out)).mono ?_
     rintro e w2 ⟨rfl,hb2⟩
     have HB2:Hid (Below w.heap.size w w2):=trans2 HB1.out hb2
     have HO2:Hid _:=kept_block hb2 HO1.out
     have HE2:Hid _:=kept_block hb2 HE1.out
     clear hb2 a0 a1 a2 a3 a4 b0 b1 b2 b3 b4 b5
     obtain ⟨a0,a1,a2,a3,a4⟩:=cells_5 HO2.out
     obtain ⟨b0,b1,b2,b3,b4,b5⟩:=cells_6 HE2.out
     go_wp2
     go_ret
     exact ⟨(by rw [HV.out] <;> rfl),HB2.out⟩
   · have hln':¬ (11:Int)<((lastN p).size:Int):=by omega
     by_cases hsl:p=⟨#[47]⟩
     · subst hsl
       have hsb:=slash_is
       have HV:Hid (malC s 1 ⟨#[47]⟩ d 2=47):=by
        show malC s 1 ⟨#[47]⟩ d 2=47
        simp [malC,hcode,hln]
       go_enter Tryz.func61,Tryz.ntmps61
       go_wp2_with fail
       refine (HN.out _ (HG.out.toGround.below (((Below.refl _ _).alloc (Nat.le_refl _) _).alloc (by simp) _))).mono ?_
       rintro e w1 ⟨rfl,hb1⟩
       have HB1:Hid (Below w.heap.size w w1):=trans2 (((Below.refl _ _).alloc (Nat.le_refl _) _).alloc (by simp) _) hb1
       have HO1:Hid (w1.heap[w.heap.size]? = some (.cells #[.int .i64 1,.string ⟨#[47]⟩,.string d,.int .i64 v,.int .i64 2] 66 (0,0))):=kept_block hb1 (heap_alloc2_old _ _ _)
       have HE1:Hid (w1.heap[w.heap.size+1]? = some (.cells #[.bool true,.bool true,.bool true,.bool false,.bool false,.bool false] 132 (0,0))):=kept_block hb1 (heap_alloc2_new _ _ _)
       obtain ⟨a0,a1,a2,a3,a4⟩:=cells_5 HO1.out
       obtain ⟨b0,b1,b2,b3,b4,b5⟩:=cells_6 HE1.out
       clear hb1 n0 n1 n2 n3 n4 n5 hr
       go_wp2_with fail
       refine (HC.out _ (HG.out.below HB1.out)).mono ?_
       rintro e w2 ⟨rfl,hb2⟩
       have HB2:Hid (Below w.heap.size w w2):=trans2 HB1.out hb2
       have HO2:Hid _:=kept_block hb2 HO1.out
       have HE2:Hid _:=kept_block hb2 HE1.out
       clear hb2 a0 a1 a2 a3 a4 b0 b1 b2 b3 b4 b5
       obtain ⟨a0,a1,a2,a3,a4⟩:=cells_5 HO2.out
       obtain ⟨b0,b1,b2,b3,b4,b5⟩:=cells_6 HE2.out
       go_wp2
       go_ret
       exact ⟨(by rw [HV.out] <;> rfl),HB2.out⟩
     · have hsb:=slash_ne hsl
       by_cases hdl:64<d.size
       · have hdl':(64:Int)<(d.size:Int):=by omega
         have HV:Hid (malC s 1 p d 2=45):=by
          show malC s 1 p d 2=45
          simp [malC,hcode,hln,hsl,hdl]
         go_enter Tryz.func61,Tryz.ntmps61
         go_wp2_with fail
         refine (HN.out _ (HG.out.toGround.below (((Below.refl _ _).alloc (Nat.le_refl _) _).alloc (by simp) _))).mono ?_
         rintro e w1 ⟨rfl,hb1⟩
         have HB1:Hid (Below w.heap.size w w1):=trans2 (((Below.refl _ _).alloc (Nat.le_refl _) _).alloc (by simp) _) hb1
         have HO1:Hid (w1.heap[w.heap.size]? = some (.cells #[.int .i64 1,.string p,.string d,.int .i64 v,.int .i64 2] 66 (0,0))):=kept_block hb1 (heap_alloc2_old _ _ _)
         have HE1:Hid (w1.heap[w.heap.size+1]? = some (.cells #[.bool true,.bool true,.bool true,.bool false,.bool false,.bool false] 132 (0,0))):=kept_block hb1 (heap_alloc2_new _ _ _)
         obtain ⟨a0,a1,a2,a3,a4⟩:=cells_5 HO1.out
         obtain ⟨b0,b1,b2,b3,b4,b5⟩:=cells_6 HE1.out
         clear hb1 n0 n1 n2 n3 n4 n5 hr
         go_wp2_with fail
         refine (HC.out _ (HG.out.below HB1.out)).mono ?_
         rintro e w2 ⟨rfl,hb2⟩
         have HB2:Hid (Below w.heap.size w w2):=trans2 HB1.out hb2
         have HO2:Hid _:=kept_block hb2 HO1.out
         have HE2:Hid _:=kept_block hb2 HE1.out
         clear hb2 a0 a1 a2 a3 a4 b0 b1 b2 b3 b4 b5
         obtain ⟨a0,a1,a2,a3,a4⟩:=cells_5 HO2.out
         obtain ⟨b0,b1,b2,b3,b4,b5⟩:=cells_6 HE2.out
         go_wp2_with fail
         refine (HB.out _ (HG.out.below HB2.out)).mono ?_
         rintro e w3 ⟨rfl,hb3⟩
         have HB3:Hid (Below w.heap.size w w3):=trans2 HB2.out hb3
         have HO3:Hid _:=kept_block hb3 HO2.out
         have HE3:Hid _:=kept_block hb3 HE2.out
         have r3:w3.cell? ⟨rb,0,none⟩=some (.int .i64 s):=by rw [HB3.out.cell (p:=⟨rb,0,none⟩) hrl];exact HR.out
         clear hb3 a0 a1 a2 a3 a4 b0 b1 b2 b3 b4 b5
         obtain ⟨a0,a1,a2,a3,a4⟩:=cells_5 HO3.out
         obtain ⟨b0,b1,b2,b3,b4,b5⟩:=cells_6 HE3.out
         go_wp2
         go_ret
         exact ⟨(by rw [HV.out] <;> rfl),HB3.out⟩
       · have hdl':¬ (64:Int)<(d.size:Int):=by omega
         have HV:Hid (malC s 1 p d 2=0):=by
          show malC s 1 p d 2=0
          simp [malC,hcode,hln,hsl,hdl]
         go_enter Tryz.func61,Tryz.ntmps61
         go_wp2_with fail
         refine (HN.out _ (HG.out.toGround.below (((Below.refl _ _).alloc (Nat.le_refl _) _).alloc (by simp) _))).mono ?_
         rintro e w1 ⟨rfl,hb1⟩
         have HB1:Hid (Below w.heap.size w w1):=trans2 (((Below.refl _ _).alloc (Nat.le_refl _) _).alloc (by simp) _) hb1
         have HO1:Hid (w1.heap[w.heap.size]? = some (.cells #[.int .i64 1,.string p,.string d,.int .i64 v,.int .i64 2] 66 (0,0))):=kept_block hb1 (heap_alloc2_old _ _ _)
         have HE1:Hid (w1.heap[w.heap.size+1]? = some (.cells #[.bool true,.bool true,.bool true,.bool false,.bool false,.bool false] 132 (0,0))):=kept_block hb1 (heap_alloc2_new _ _ _)
         obtain ⟨a0,a1,a2,a3,a4⟩:=cells_5 HO1.out
         obtain ⟨b0,b1,b2,b3,b4,b5⟩:=cells_6 HE1.out
         clear hb1 n0 n1 n2 n3 n4 n5 hr
         go_wp2_with fail
         refine (HC.out _ (HG.out.below HB1.out)).mono ?_
         rintro e w2 ⟨rfl,hb2⟩
         have HB2:Hid (Below w.heap.size w w2):=trans2 HB1.out hb2
         have HO2:Hid _:=kept_block hb2 HO1.out
         have HE2:Hid _:=kept_block hb2 HE1.out
         clear hb2 a0 a1 a2 a3 a4 b0 b1 b2 b3 b4 b5
         obtain ⟨a0,a1,a2,a3,a4⟩:=cells_5 HO2.out
         obtain ⟨b0,b1,b2,b3,b4,b5⟩:=cells_6 HE2.out
         go_wp2_with fail
         refine (HB.out _ (HG.out.below HB2.out)).mono ?_
         rintro e w3 ⟨rfl,hb3⟩
         have HB3:Hid (Below w.heap.size w w3):=trans2 HB2.out hb3
         have HO3:Hid _:=kept_block hb3 HO2.out
         have HE3:Hid _:=kept_block hb3 HE2.out
         have r3:w3.cell? ⟨rb,0,none⟩=some (.int .i64 s):=by rw [HB3.out.cell (p:=⟨rb,0,none⟩) hrl];exact HR.out
         clear hb3 a0 a1 a2 a3 a4 b0 b1 b2 b3 b4 b5
         obtain ⟨a0,a1,a2,a3,a4⟩:=cells_5 HO3.out
         obtain ⟨b0,b1,b2,b3,b4,b5⟩:=cells_6 HE3.out
         go_wp2
         go_ret
         exact ⟨(by rw [HV.out] <;> rfl),HB3.out⟩
 · skip
   have HV:Hid (malC s 1 p d 2=10):=by
    show malC s 1 p d 2=10
    simp [malC,hcode,hc]
   go_enter Tryz.func61,Tryz.ntmps61
   go_wp2_with fail
   refine (HN.out _ (HG.out.toGround.below (((Below.refl _ _).alloc (Nat.le_refl _) _).alloc (by simp) _))).mono ?_
   rintro e w1 ⟨rfl,hb1⟩
   have HB1:Hid (Below w.heap.size w w1):=trans2 (((Below.refl _ _).alloc (Nat.le_refl _) _).alloc (by simp) _) hb1
   have HO1:Hid (w1.heap[w.heap.size]? = some (.cells #[.int .i64 1,.string p,.string d,.int .i64 v,.int .i64 2] 66 (0,0))):=kept_block hb1 (heap_alloc2_old _ _ _)
   have HE1:Hid (w1.heap[w.heap.size+1]? = some (.cells #[.bool true,.bool true,.bool true,.bool false,.bool false,.bool false] 132 (0,0))):=kept_block hb1 (heap_alloc2_new _ _ _)
   obtain ⟨a0,a1,a2,a3,a4⟩:=cells_5 HO1.out
   obtain ⟨b0,b1,b2,b3,b4,b5⟩:=cells_6 HE1.out
   clear hb1 n0 n1 n2 n3 n4 n5 hr
   go_wp2
   go_ret
   exact ⟨(by rw [HV.out] <;> rfl),HB1.out⟩
set_option maxHeartbeats 3200000 in
theorem mal_1_3 (rb:Nat) (s:Int) (p d:ByteArray) (v:Int) (w:World) (hg:GroundT w) (hr:w.cell? ⟨rb,0,none⟩=some (.int .i64 s)) (hrl:rb<w.heap.size) :
  Calls Tryz.prog 61 #[.pointer (some ⟨rb,0,none⟩),opV 1 p d v 3] w fun e w'=>e=.returned (.int .i64 (malC s 1 p d 3))∧Below w.heap.size w w':=by
 have n0:=hg.need 1 0 true rfl
 have n1:=hg.need 1 1 true rfl
 have n2:=hg.need 1 2 true rfl
 have n3:=hg.need 1 3 false rfl
 have n4:=hg.need 1 4 false rfl
 have n5:=hg.need 1 5 false rfl
 simp only [Nat.reduceMul,Nat.reduceAdd] at n0 n1 n2 n3 n4 n5
 have hlt:=hg.needLt
 have HG:Hid _:=hg
 have HR:Hid _:=hr
 obtain ⟨code,hcode⟩:∃ code,(parse p).1=code:=⟨_,rfl⟩
 have HN:Hid (∀ W,Ground W→Calls Tryz.prog 85 #[.string p] W fun e w'=>e=.returned (.tuple #[.string (lastN p),.int .i64 code])∧Below W.heap.size W w'):=fun W h=>by rw [← hcode];exact name_any p W h
 have HC:Hid (∀ W,GroundT W→Calls Tryz.prog 86 #[opV 1 p d v 3] W fun e w'=>e=.returned (.bool true)∧Below W.heap.size W w'):=fun W h=>isCounted_any (k:=1) (by decide) (by decide) p d v 3 (fun _=>by decide) W h
 have HB:Hid (∀ W,GroundT W→Calls Tryz.prog 87 #[opV 1 p d v 3] W fun e w'=>e=.returned (.bool true)∧Below W.heap.size W w'):=fun W h=>isBriefOp_any (k:=1) (by decide) (by decide) p d v 3 (fun _=>by decide) W h
 clear hg
 have hbt:bits BinOp.andNot IntKind.i64 3 3=0:=by decide
 by_cases hc:code=0
 · subst hc
   by_cases hln:11<(lastN p).size
   · have hln':(11:Int)<((lastN p).size:Int):=by omega
     have HV:Hid (malC s 1 p d 3=10):=by
      show malC s 1 p d 3=10
      simp [malC,hcode,hln]
     go_enter Tryz.func61,Tryz.ntmps61
     go_wp2_with fail
     refine (HN.out _ (HG.out.toGround.below (((Below.refl _ _).alloc (Nat.le_refl _) _).alloc (by simp) _))).mono ?_
     rintro e w1 ⟨rfl,hb1⟩
     have HB1:Hid (Below w.heap.size w w1):=trans2 (((Below.refl _ _).alloc (Nat.le_refl _) _).alloc (by simp) _) hb1
     have HO1:Hid (w1.heap[w.heap.size]? = some (.cells #[.int .i64 1,.string p,.string d,.int .i64 v,.int .i64 3] 66 (0,0))):=kept_block hb1 (heap_alloc2_old _ _ _)
     have HE1:Hid (w1.heap[w.heap.size+1]? = some (.cells #[.bool true,.bool true,.bool true,.bool false,.bool false,.bool false] 132 (0,0))):=kept_block hb1 (heap_alloc2_new _ _ _)
     obtain ⟨a0,a1,a2,a3,a4⟩:=cells_5 HO1.out
     obtain ⟨b0,b1,b2,b3,b4,b5⟩:=cells_6 HE1.out
     clear hb1 n0 n1 n2 n3 n4 n5 hr
     go_wp2_with fail
     refine (HC.out _ (HG.out.below HB1.out)).mono ?_
     rintro e w2 ⟨rfl,hb2⟩
     have HB2:Hid (Below w.heap.size w w2):=trans2 HB1.out hb2
     have HO2:Hid _:=kept_block hb2 HO1.out
     have HE2:Hid _:=kept_block hb2 HE1.out
     clear hb2 a0 a1 a2 a3 a4 b0 b1 b2 b3 b4 b5
     obtain ⟨a0,a1,a2,a3,a4⟩:=cells_5 HO2.out
     obtain ⟨b0,b1,b2,b3,b4,b5⟩:=cells_6 HE2.out
     go_wp2
     go_ret
     exact ⟨(by rw [HV.out] <;> rfl),HB2.out⟩
   · have hln':¬ (11:Int)<((lastN p).size:Int):=by omega
     by_cases hsl:p=⟨#[47]⟩
     · subst hsl
       have hsb:=slash_is
       have HV:Hid (malC s 1 ⟨#[47]⟩ d 3=47):=by
        show malC s 1 ⟨#[47]⟩ d 3=47
        simp [malC,hcode,hln]
       go_enter Tryz.func61,Tryz.ntmps61
       go_wp2_with fail
       refine (HN.out _ (HG.out.toGround.below (((Below.refl _ _).alloc (Nat.le_refl _) _).alloc (by simp) _))).mono ?_
       rintro e w1 ⟨rfl,hb1⟩
       have HB1:Hid (Below w.heap.size w w1):=trans2 (((Below.refl _ _).alloc (Nat.le_refl _) _).alloc (by simp) _) hb1
       have HO1:Hid (w1.heap[w.heap.size]? = some (.cells #[.int .i64 1,.string ⟨#[47]⟩,.string d,.int .i64 v,.int .i64 3] 66 (0,0))):=kept_block hb1 (heap_alloc2_old _ _ _)
       have HE1:Hid (w1.heap[w.heap.size+1]? = some (.cells #[.bool true,.bool true,.bool true,.bool false,.bool false,.bool false] 132 (0,0))):=kept_block hb1 (heap_alloc2_new _ _ _)
       obtain ⟨a0,a1,a2,a3,a4⟩:=cells_5 HO1.out
       obtain ⟨b0,b1,b2,b3,b4,b5⟩:=cells_6 HE1.out
       clear hb1 n0 n1 n2 n3 n4 n5 hr
       go_wp2_with fail
       refine (HC.out _ (HG.out.below HB1.out)).mono ?_
       rintro e w2 ⟨rfl,hb2⟩
       have HB2:Hid (Below w.heap.size w w2):=trans2 HB1.out hb2
       have HO2:Hid _:=kept_block hb2 HO1.out
       have HE2:Hid _:=kept_block hb2 HE1.out
       clear hb2 a0 a1 a2 a3 a4 b0 b1 b2 b3 b4 b5
       obtain ⟨a0,a1,a2,a3,a4⟩:=cells_5 HO2.out
       obtain ⟨b0,b1,b2,b3,b4,b5⟩:=cells_6 HE2.out
       go_wp2
       go_ret
       exact ⟨(by rw [HV.out] <;> rfl),HB2.out⟩
     · have hsb:=slash_ne hsl
       by_cases hs0:s=0
       · subst hs0
         have HV:Hid (malC 0 1 p d 3=44):=by
          show malC 0 1 p d 3=44
          simp [malC,hcode,hln,hsl]
         go_enter Tryz.func61,Tryz.ntmps61
         go_wp2_with fail
         refine (HN.out _ (HG.out.toGround.below (((Below.refl _ _).alloc (Nat.le_refl _) _).alloc (by simp) _))).mono ?_
         rintro e w1 ⟨rfl,hb1⟩
         have HB1:Hid (Below w.heap.size w w1):=trans2 (((Below.refl _ _).alloc (Nat.le_refl _) _).alloc (by simp) _) hb1
         have HO1:Hid (w1.heap[w.heap.size]? = some (.cells #[.int .i64 1,.string p,.string d,.int .i64 v,.int .i64 3] 66 (0,0))):=kept_block hb1 (heap_alloc2_old _ _ _)
         have HE1:Hid (w1.heap[w.heap.size+1]? = some (.cells #[.bool true,.bool true,.bool true,.bool false,.bool false,.bool false] 132 (0,0))):=kept_block hb1 (heap_alloc2_new _ _ _)
         obtain ⟨a0,a1,a2,a3,a4⟩:=cells_5 HO1.out
         obtain ⟨b0,b1,b2,b3,b4,b5⟩:=cells_6 HE1.out
         clear hb1 n0 n1 n2 n3 n4 n5 hr
         go_wp2_with fail
         refine (HC.out _ (HG.out.below HB1.out)).mono ?_
         rintro e w2 ⟨rfl,hb2⟩
         have HB2:Hid (Below w.heap.size w w2):=trans2 HB1.out hb2
         have HO2:Hid _:=kept_block hb2 HO1.out
         have HE2:Hid _:=kept_block hb2 HE1.out
         clear hb2 a0 a1 a2 a3 a4 b0 b1 b2 b3 b4 b5
         obtain ⟨a0,a1,a2,a3,a4⟩:=cells_5 HO2.out
         obtain ⟨b0,b1,b2,b3,b4,b5⟩:=cells_6 HE2.out
         go_wp2_with fail
         refine (HB.out _ (HG.out.below HB2.out)).mono ?_
         rintro e w3 ⟨rfl,hb3⟩
         have HB3:Hid (Below w.heap.size w w3):=trans2 HB2.out hb3
         have HO3:Hid _:=kept_block hb3 HO2.out
         have HE3:Hid _:=kept_block hb3 HE2.out
         have r3:w3.cell? ⟨rb,0,none⟩=some (.int .i64 0):=by rw [HB3.out.cell (p:=⟨rb,0,none⟩) hrl];exact HR.out
         clear hb3 a0 a1 a2 a3 a4 b0 b1 b2 b3 b4 b5
         obtain ⟨a0,a1,a2,a3,a4⟩:=cells_5 HO3.out
         obtain ⟨b0,b1,b2,b3,b4,b5⟩:=cells_6 HE3.out
         go_wp2
         go_ret
         exact ⟨(by rw [HV.out] <;> rfl),HB3.out⟩
       · skip
         by_cases hdl:64<d.size
         · have hdl':(64:Int)<(d.size:Int):=by omega
           have HV:Hid (malC s 1 p d 3=45):=by
            show malC s 1 p d 3=45
            simp [malC,hcode,hln,hsl,hs0,hdl]
           go_enter Tryz.func61,Tryz.ntmps61
           go_wp2_with fail
           refine (HN.out _ (HG.out.toGround.below (((Below.refl _ _).alloc (Nat.le_refl _) _).alloc (by simp) _))).mono ?_
           rintro e w1 ⟨rfl,hb1⟩
           have HB1:Hid (Below w.heap.size w w1):=trans2 (((Below.refl _ _).alloc (Nat.le_refl _) _).alloc (by simp) _) hb1
           have HO1:Hid (w1.heap[w.heap.size]? = some (.cells #[.int .i64 1,.string p,.string d,.int .i64 v,.int .i64 3] 66 (0,0))):=kept_block hb1 (heap_alloc2_old _ _ _)
           have HE1:Hid (w1.heap[w.heap.size+1]? = some (.cells #[.bool true,.bool true,.bool true,.bool false,.bool false,.bool false] 132 (0,0))):=kept_block hb1 (heap_alloc2_new _ _ _)
           obtain ⟨a0,a1,a2,a3,a4⟩:=cells_5 HO1.out
           obtain ⟨b0,b1,b2,b3,b4,b5⟩:=cells_6 HE1.out
           clear hb1 n0 n1 n2 n3 n4 n5 hr
           go_wp2_with fail
           refine (HC.out _ (HG.out.below HB1.out)).mono ?_
           rintro e w2 ⟨rfl,hb2⟩
           have HB2:Hid (Below w.heap.size w w2):=trans2 HB1.out hb2
           have HO2:Hid _:=kept_block hb2 HO1.out
           have HE2:Hid _:=kept_block hb2 HE1.out
           clear hb2 a0 a1 a2 a3 a4 b0 b1 b2 b3 b4 b5
           obtain ⟨a0,a1,a2,a3,a4⟩:=cells_5 HO2.out
           obtain ⟨b0,b1,b2,b3,b4,b5⟩:=cells_6 HE2.out
           go_wp2_with fail
           refine (HB.out _ (HG.out.below HB2.out)).mono ?_
           rintro e w3 ⟨rfl,hb3⟩
           have HB3:Hid (Below w.heap.size w w3):=trans2 HB2.out hb3
           have HO3:Hid _:=kept_block hb3 HO2.out
           have HE3:Hid _:=kept_block hb3 HE2.out
           have r3:w3.cell? ⟨rb,0,none⟩=some (.int .i64 s):=by rw [HB3.out.cell (p:=⟨rb,0,none⟩) hrl];exact HR.out
           clear hb3 a0 a1 a2 a3 a4 b0 b1 b2 b3 b4 b5
           obtain ⟨a0,a1,a2,a3,a4⟩:=cells_5 HO3.out
           obtain ⟨b0,b1,b2,b3,b4,b5⟩:=cells_6 HE3.out
           go_wp2
           go_ret
           exact ⟨(by rw [HV.out] <;> rfl),HB3.out⟩
         · have hdl':¬ (64:Int)<(d.size:Int):=by omega
           have HV:Hid (malC s 1 p d 3=0):=by
            show malC s 1 p d 3=0
            simp [malC,hcode,hln,hsl,hs0,hdl]
           go_enter Tryz.func61,Tryz.ntmps61
           go_wp2_with fail
           refine (HN.out _ (HG.out.toGround.below (((Below.refl _ _).alloc (Nat.le_refl _) _).alloc (by simp) _))).mono ?_
           rintro e w1 ⟨rfl,hb1⟩
           have HB1:Hid (Below w.heap.size w w1):=trans2 (((Below.refl _ _).alloc (Nat.le_refl _) _).alloc (by simp) _) hb1
           have HO1:Hid (w1.heap[w.heap.size]? = some (.cells #[.int .i64 1,.string p,.string d,.int .i64 v,.int .i64 3] 66 (0,0))):=kept_block hb1 (heap_alloc2_old _ _ _)
           have HE1:Hid (w1.heap[w.heap.size+1]? = some (.cells #[.bool true,.bool true,.bool true,.bool false,.bool false,.bool false] 132 (0,0))):=kept_block hb1 (heap_alloc2_new _ _ _)
           obtain ⟨a0,a1,a2,a3,a4⟩:=cells_5 HO1.out
           obtain ⟨b0,b1,b2,b3,b4,b5⟩:=cells_6 HE1.out
           clear hb1 n0 n1 n2 n3 n4 n5 hr
           go_wp2_with fail
           refine (HC.out _ (HG.out.below HB1.out)).mono ?_
           rintro e w2 ⟨rfl,hb2⟩
           have HB2:Hid (Below w.heap.size w w2):=trans2 HB1.out hb2
           have HO2:Hid _:=kept_block hb2 HO1.out
           have HE2:Hid _:=kept_block hb2 HE1.out
           clear hb2 a0 a1 a2 a3 a4 b0 b1 b2 b3 b4 b5
           obtain ⟨a0,a1,a2,a3,a4⟩:=cells_5 HO2.out
           obtain ⟨b0,b1,b2,b3,b4,b5⟩:=cells_6 HE2.out
           go_wp2_with fail
           refine (HB.out _ (HG.out.below HB2.out)).mono ?_
           rintro e w3 ⟨rfl,hb3⟩
           have HB3:Hid (Below w.heap.size w w3):=trans2 HB2.out hb3
           have HO3:Hid _:=kept_block hb3 HO2.out
           have HE3:Hid _:=kept_block hb3 HE2.out
           have r3:w3.cell? ⟨rb,0,none⟩=some (.int .i64 s):=by rw [HB3.out.cell (p:=⟨rb,0,none⟩) hrl];exact HR.out
           clear hb3 a0 a1 a2 a3 a4 b0 b1 b2 b3 b4 b5
           obtain ⟨a0,a1,a2,a3,a4⟩:=cells_5 HO3.out
           obtain ⟨b0,b1,b2,b3,b4,b5⟩:=cells_6 HE3.out
           go_wp2
           go_ret
           exact ⟨(by rw [HV.out] <;> rfl),HB3.out⟩
 · skip
   have HV:Hid (malC s 1 p d 3=10):=by
    show malC s 1 p d 3=10
    simp [malC,hcode,hc]
   go_enter Tryz.func61,Tryz.ntmps61
   go_wp2_with fail
   refine (HN.out _ (HG.out.toGround.below (((Below.refl _ _).alloc (Nat.le_refl _) _).alloc (by simp) _))).mono ?_
   rintro e w1 ⟨rfl,hb1⟩
   have HB1:Hid (Below w.heap.size w w1):=trans2 (((Below.refl _ _).alloc (Nat.le_refl _) _).alloc (by simp) _) hb1
   have HO1:Hid (w1.heap[w.heap.size]? = some (.cells #[.int .i64 1,.string p,.string d,.int .i64 v,.int .i64 3] 66 (0,0))):=kept_block hb1 (heap_alloc2_old _ _ _)
   have HE1:Hid (w1.heap[w.heap.size+1]? = some (.cells #[.bool true,.bool true,.bool true,.bool false,.bool false,.bool false] 132 (0,0))):=kept_block hb1 (heap_alloc2_new _ _ _)
   obtain ⟨a0,a1,a2,a3,a4⟩:=cells_5 HO1.out
   obtain ⟨b0,b1,b2,b3,b4,b5⟩:=cells_6 HE1.out
   clear hb1 n0 n1 n2 n3 n4 n5 hr
   go_wp2
   go_ret
   exact ⟨(by rw [HV.out] <;> rfl),HB1.out⟩
set_option maxHeartbeats 3200000 in
theorem mal_2 (rb:Nat) (s:Int) (p d:ByteArray) (v f:Int) (w:World) (hg:GroundT w) (hr:w.cell? ⟨rb,0,none⟩=some (.int .i64 s)) (hrl:rb<w.heap.size) :
  Calls Tryz.prog 61 #[.pointer (some ⟨rb,0,none⟩),opV 2 p d v f] w fun e w'=>e=.returned (.int .i64 (malC s 2 p d f))∧Below w.heap.size w w':=by
 have n0:=hg.need 2 0 false rfl
 have n1:=hg.need 2 1 false rfl
 have n2:=hg.need 2 2 true rfl
 have n3:=hg.need 2 3 true rfl
 have n4:=hg.need 2 4 false rfl
 have n5:=hg.need 2 5 true rfl
 simp only [Nat.reduceMul,Nat.reduceAdd] at n0 n1 n2 n3 n4 n5
 have hlt:=hg.needLt
 have HG:Hid _:=hg
 have HR:Hid _:=hr
 obtain ⟨code,hcode⟩:∃ code,(parse p).1=code:=⟨_,rfl⟩
 have HN:Hid (∀ W,Ground W→Calls Tryz.prog 85 #[.string p] W fun e w'=>e=.returned (.tuple #[.string (lastN p),.int .i64 code])∧Below W.heap.size W w'):=fun W h=>by rw [← hcode];exact name_any p W h
 have HC:Hid (∀ W,GroundT W→Calls Tryz.prog 86 #[opV 2 p d v f] W fun e w'=>e=.returned (.bool false)∧Below W.heap.size W w'):=fun W h=>isCounted_any (k:=2) (by decide) (by decide) p d v f (fun h=>by omega) W h
 have HB:Hid (∀ W,GroundT W→Calls Tryz.prog 87 #[opV 2 p d v f] W fun e w'=>e=.returned (.bool false)∧Below W.heap.size W w'):=fun W h=>isBriefOp_any (k:=2) (by decide) (by decide) p d v f (fun h=>by omega) W h
 clear hg
 by_cases hc:code=0
 · subst hc
   by_cases hdl:64<d.size
   · have hdl':(64:Int)<(d.size:Int):=by omega
     have HV:Hid (malC s 2 p d f=45):=by
      show malC s 2 p d f=45
      simp [malC,hcode,hdl]
     go_enter Tryz.func61,Tryz.ntmps61
     go_wp2_with fail
     refine (HN.out _ (HG.out.toGround.below (((Below.refl _ _).alloc (Nat.le_refl _) _).alloc (by simp) _))).mono ?_
     rintro e w1 ⟨rfl,hb1⟩
     have HB1:Hid (Below w.heap.size w w1):=trans2 (((Below.refl _ _).alloc (Nat.le_refl _) _).alloc (by simp) _) hb1
     have HO1:Hid (w1.heap[w.heap.size]? = some (.cells #[.int .i64 2,.string p,.string d,.int .i64 v,.int .i64 f] 66 (0,0))):=kept_block hb1 (heap_alloc2_old _ _ _)
     have HE1:Hid (w1.heap[w.heap.size+1]? = some (.cells #[.bool false,.bool false,.bool true,.bool true,.bool false,.bool true] 132 (0,0))):=kept_block hb1 (heap_alloc2_new _ _ _)
     obtain ⟨a0,a1,a2,a3,a4⟩:=cells_5 HO1.out
     obtain ⟨b0,b1,b2,b3,b4,b5⟩:=cells_6 HE1.out
     clear hb1 n0 n1 n2 n3 n4 n5 hr
     go_wp2_with fail
     refine (HC.out _ (HG.out.below HB1.out)).mono ?_
     rintro e w2 ⟨rfl,hb2⟩
     have HB2:Hid (Below w.heap.size w w2):=trans2 HB1.out hb2
     have HO2:Hid _:=kept_block hb2 HO1.out
     have HE2:Hid _:=kept_block hb2 HE1.out
     clear hb2 a0 a1 a2 a3 a4 b0 b1 b2 b3 b4 b5
     obtain ⟨a0,a1,a2,a3,a4⟩:=cells_5 HO2.out
     obtain ⟨b0,b1,b2,b3,b4,b5⟩:=cells_6 HE2.out
     go_wp2_with fail
     refine (HB.out _ (HG.out.below HB2.out)).mono ?_
     rintro e w3 ⟨rfl,hb3⟩
     have HB3:Hid (Below w.heap.size w w3):=trans2 HB2.out hb3
     have HO3:Hid _:=kept_block hb3 HO2.out
     have HE3:Hid _:=kept_block hb3 HE2.out
     have r3:w3.cell? ⟨rb,0,none⟩=some (.int .i64 s):=by rw [HB3.out.cell (p:=⟨rb,0,none⟩) hrl];exact HR.out
     clear hb3 a0 a1 a2 a3 a4 b0 b1 b2 b3 b4 b5
     obtain ⟨a0,a1,a2,a3,a4⟩:=cells_5 HO3.out
     obtain ⟨b0,b1,b2,b3,b4,b5⟩:=cells_6 HE3.out
     go_wp2
     go_ret
     exact ⟨(by rw [HV.out] <;> rfl),HB3.out⟩
   · have hdl':¬ (64:Int)<(d.size:Int):=by omega
     have HV:Hid (malC s 2 p d f=0):=by
      show malC s 2 p d f=0
      simp [malC,hcode,hdl]
     go_enter Tryz.func61,Tryz.ntmps61
     go_wp2_with fail
     refine (HN.out _ (HG.out.toGround.below (((Below.refl _ _).alloc (Nat.le_refl _) _).alloc (by simp) _))).mono ?_
     rintro e w1 ⟨rfl,hb1⟩
     have HB1:Hid (Below w.heap.size w w1):=trans2 (((Below.refl _ _).alloc (Nat.le_refl _) _).alloc (by simp) _) hb1
     have HO1:Hid (w1.heap[w.heap.size]? = some (.cells #[.int .i64 2,.string p,.string d,.int .i64 v,.int .i64 f] 66 (0,0))):=kept_block hb1 (heap_alloc2_old _ _ _)
     have HE1:Hid (w1.heap[w.heap.size+1]? = some (.cells #[.bool false,.bool false,.bool true,.bool true,.bool false,.bool true] 132 (0,0))):=kept_block hb1 (heap_alloc2_new _ _ _)
     obtain ⟨a0,a1,a2,a3,a4⟩:=cells_5 HO1.out
     obtain ⟨b0,b1,b2,b3,b4,b5⟩:=cells_6 HE1.out
     clear hb1 n0 n1 n2 n3 n4 n5 hr
     go_wp2_with fail
     refine (HC.out _ (HG.out.below HB1.out)).mono ?_
     rintro e w2 ⟨rfl,hb2⟩
     have HB2:Hid (Below w.heap.size w w2):=trans2 HB1.out hb2
     have HO2:Hid _:=kept_block hb2 HO1.out
     have HE2:Hid _:=kept_block hb2 HE1.out
     clear hb2 a0 a1 a2 a3 a4 b0 b1 b2 b3 b4 b5
     obtain ⟨a0,a1,a2,a3,a4⟩:=cells_5 HO2.out
     obtain ⟨b0,b1,b2,b3,b4,b5⟩:=cells_6 HE2.out
     go_wp2_with fail
     refine (HB.out _ (HG.out.below HB2.out)).mono ?_
     rintro e w3 ⟨rfl,hb3⟩
     have HB3:Hid (Below w.heap.size w w3):=trans2 HB2.out hb3
     have HO3:Hid _:=kept_block hb3 HO2.out
     have HE3:Hid _:=kept_block hb3 HE2.out
     have r3:w3.cell? ⟨rb,0,none⟩=some (.int .i64 s):=by rw [HB3.out.cell (p:=⟨rb,0,none⟩) hrl];exact HR.out
     clear hb3 a0 a1 a2 a3 a4 b0 b1 b2 b3 b4 b5
     obtain ⟨a0,a1,a2,a3,a4⟩:=cells_5 HO3.out
     obtain ⟨b0,b1,b2,b3,b4,b5⟩:=cells_6 HE3.out
     go_wp2
     go_ret
     exact ⟨(by rw [HV.out] <;> rfl),HB3.out⟩
 · skip
   have HV:Hid (malC s 2 p d f=10):=by
    show malC s 2 p d f=10
    simp [malC,hcode,hc]
   go_enter Tryz.func61,Tryz.ntmps61
   go_wp2_with fail
   refine (HN.out _ (HG.out.toGround.below (((Below.refl _ _).alloc (Nat.le_refl _) _).alloc (by simp) _))).mono ?_
   rintro e w1 ⟨rfl,hb1⟩
   have HB1:Hid (Below w.heap.size w w1):=trans2 (((Below.refl _ _).alloc (Nat.le_refl _) _).alloc (by simp) _) hb1
   have HO1:Hid (w1.heap[w.heap.size]? = some (.cells #[.int .i64 2,.string p,.string d,.int .i64 v,.int .i64 f] 66 (0,0))):=kept_block hb1 (heap_alloc2_old _ _ _)
   have HE1:Hid (w1.heap[w.heap.size+1]? = some (.cells #[.bool false,.bool false,.bool true,.bool true,.bool false,.bool true] 132 (0,0))):=kept_block hb1 (heap_alloc2_new _ _ _)
   obtain ⟨a0,a1,a2,a3,a4⟩:=cells_5 HO1.out
   obtain ⟨b0,b1,b2,b3,b4,b5⟩:=cells_6 HE1.out
   clear hb1 n0 n1 n2 n3 n4 n5 hr
   go_wp2
   go_ret
   exact ⟨(by rw [HV.out] <;> rfl),HB1.out⟩
set_option maxHeartbeats 3200000 in
theorem mal_3 (rb:Nat) (s:Int) (p d:ByteArray) (v f:Int) (w:World) (hg:GroundT w) (hr:w.cell? ⟨rb,0,none⟩=some (.int .i64 s)) (hrl:rb<w.heap.size) :
  Calls Tryz.prog 61 #[.pointer (some ⟨rb,0,none⟩),opV 3 p d v f] w fun e w'=>e=.returned (.int .i64 (malC s 3 p d f))∧Below w.heap.size w w':=by
 have n0:=hg.need 3 0 false rfl
 have n1:=hg.need 3 1 true rfl
 have n2:=hg.need 3 2 false rfl
 have n3:=hg.need 3 3 true rfl
 have n4:=hg.need 3 4 true rfl
 have n5:=hg.need 3 5 false rfl
 simp only [Nat.reduceMul,Nat.reduceAdd] at n0 n1 n2 n3 n4 n5
 have hlt:=hg.needLt
 have HG:Hid _:=hg
 have HR:Hid _:=hr
 obtain ⟨code,hcode⟩:∃ code,(parse p).1=code:=⟨_,rfl⟩
 have HN:Hid (∀ W,Ground W→Calls Tryz.prog 85 #[.string p] W fun e w'=>e=.returned (.tuple #[.string (lastN p),.int .i64 code])∧Below W.heap.size W w'):=fun W h=>by rw [← hcode];exact name_any p W h
 have HC:Hid (∀ W,GroundT W→Calls Tryz.prog 86 #[opV 3 p d v f] W fun e w'=>e=.returned (.bool false)∧Below W.heap.size W w'):=fun W h=>isCounted_any (k:=3) (by decide) (by decide) p d v f (fun h=>by omega) W h
 have HB:Hid (∀ W,GroundT W→Calls Tryz.prog 87 #[opV 3 p d v f] W fun e w'=>e=.returned (.bool false)∧Below W.heap.size W w'):=fun W h=>isBriefOp_any (k:=3) (by decide) (by decide) p d v f (fun h=>by omega) W h
 clear hg
 by_cases hc:code=0
 · subst hc
   by_cases hsl:p=⟨#[47]⟩
   · subst hsl
     have hsb:=slash_is
     have HV:Hid (malC s 3 ⟨#[47]⟩ d f=47):=by
      show malC s 3 ⟨#[47]⟩ d f=47
      simp [malC,hcode]
     go_enter Tryz.func61,Tryz.ntmps61
     go_wp2_with fail
     refine (HN.out _ (HG.out.toGround.below (((Below.refl _ _).alloc (Nat.le_refl _) _).alloc (by simp) _))).mono ?_
     rintro e w1 ⟨rfl,hb1⟩
     have HB1:Hid (Below w.heap.size w w1):=trans2 (((Below.refl _ _).alloc (Nat.le_refl _) _).alloc (by simp) _) hb1
     have HO1:Hid (w1.heap[w.heap.size]? = some (.cells #[.int .i64 3,.string ⟨#[47]⟩,.string d,.int .i64 v,.int .i64 f] 66 (0,0))):=kept_block hb1 (heap_alloc2_old _ _ _)
     have HE1:Hid (w1.heap[w.heap.size+1]? = some (.cells #[.bool false,.bool true,.bool false,.bool true,.bool true,.bool false] 132 (0,0))):=kept_block hb1 (heap_alloc2_new _ _ _)
     obtain ⟨a0,a1,a2,a3,a4⟩:=cells_5 HO1.out
     obtain ⟨b0,b1,b2,b3,b4,b5⟩:=cells_6 HE1.out
     clear hb1 n0 n1 n2 n3 n4 n5 hr
     go_wp2_with fail
     refine (HC.out _ (HG.out.below HB1.out)).mono ?_
     rintro e w2 ⟨rfl,hb2⟩
     have HB2:Hid (Below w.heap.size w w2):=trans2 HB1.out hb2
     have HO2:Hid _:=kept_block hb2 HO1.out
     have HE2:Hid _:=kept_block hb2 HE1.out
     clear hb2 a0 a1 a2 a3 a4 b0 b1 b2 b3 b4 b5
     obtain ⟨a0,a1,a2,a3,a4⟩:=cells_5 HO2.out
     obtain ⟨b0,b1,b2,b3,b4,b5⟩:=cells_6 HE2.out
     go_wp2
     go_ret
     exact ⟨(by rw [HV.out] <;> rfl),HB2.out⟩
   · have hsb:=slash_ne hsl
     have HV:Hid (malC s 3 p d f=0):=by
      show malC s 3 p d f=0
      simp [malC,hcode,hsl]
     go_enter Tryz.func61,Tryz.ntmps61
     go_wp2_with fail
     refine (HN.out _ (HG.out.toGround.below (((Below.refl _ _).alloc (Nat.le_refl _) _).alloc (by simp) _))).mono ?_
     rintro e w1 ⟨rfl,hb1⟩
     have HB1:Hid (Below w.heap.size w w1):=trans2 (((Below.refl _ _).alloc (Nat.le_refl _) _).alloc (by simp) _) hb1
     have HO1:Hid (w1.heap[w.heap.size]? = some (.cells #[.int .i64 3,.string p,.string d,.int .i64 v,.int .i64 f] 66 (0,0))):=kept_block hb1 (heap_alloc2_old _ _ _)
     have HE1:Hid (w1.heap[w.heap.size+1]? = some (.cells #[.bool false,.bool true,.bool false,.bool true,.bool true,.bool false] 132 (0,0))):=kept_block hb1 (heap_alloc2_new _ _ _)
     obtain ⟨a0,a1,a2,a3,a4⟩:=cells_5 HO1.out
     obtain ⟨b0,b1,b2,b3,b4,b5⟩:=cells_6 HE1.out
     clear hb1 n0 n1 n2 n3 n4 n5 hr
     go_wp2_with fail
     refine (HC.out _ (HG.out.below HB1.out)).mono ?_
     rintro e w2 ⟨rfl,hb2⟩
     have HB2:Hid (Below w.heap.size w w2):=trans2 HB1.out hb2
     have HO2:Hid _:=kept_block hb2 HO1.out
     have HE2:Hid _:=kept_block hb2 HE1.out
     clear hb2 a0 a1 a2 a3 a4 b0 b1 b2 b3 b4 b5
     obtain ⟨a0,a1,a2,a3,a4⟩:=cells_5 HO2.out
     obtain ⟨b0,b1,b2,b3,b4,b5⟩:=cells_6 HE2.out
     go_wp2_with fail
     refine (HB.out _ (HG.out.below HB2.out)).mono ?_
     rintro e w3 ⟨rfl,hb3⟩
     have HB3:Hid (Below w.heap.size w w3):=trans2 HB2.out hb3
     have HO3:Hid _:=kept_block hb3 HO2.out
     have HE3:Hid _:=kept_block hb3 HE2.out
     have r3:w3.cell? ⟨rb,0,none⟩=some (.int .i64 s):=by rw [HB3.out.cell (p:=⟨rb,0,none⟩) hrl];exact HR.out
     clear hb3 a0 a1 a2 a3 a4 b0 b1 b2 b3 b4 b5
     obtain ⟨a0,a1,a2,a3,a4⟩:=cells_5 HO3.out
     obtain ⟨b0,b1,b2,b3,b4,b5⟩:=cells_6 HE3.out
     go_wp2
     go_ret
     exact ⟨(by rw [HV.out] <;> rfl),HB3.out⟩
 · skip
   have HV:Hid (malC s 3 p d f=10):=by
    show malC s 3 p d f=10
    simp [malC,hcode,hc]
   go_enter Tryz.func61,Tryz.ntmps61
   go_wp2_with fail
   refine (HN.out _ (HG.out.toGround.below (((Below.refl _ _).alloc (Nat.le_refl _) _).alloc (by simp) _))).mono ?_
   rintro e w1 ⟨rfl,hb1⟩
   have HB1:Hid (Below w.heap.size w w1):=trans2 (((Below.refl _ _).alloc (Nat.le_refl _) _).alloc (by simp) _) hb1
   have HO1:Hid (w1.heap[w.heap.size]? = some (.cells #[.int .i64 3,.string p,.string d,.int .i64 v,.int .i64 f] 66 (0,0))):=kept_block hb1 (heap_alloc2_old _ _ _)
   have HE1:Hid (w1.heap[w.heap.size+1]? = some (.cells #[.bool false,.bool true,.bool false,.bool true,.bool true,.bool false] 132 (0,0))):=kept_block hb1 (heap_alloc2_new _ _ _)
   obtain ⟨a0,a1,a2,a3,a4⟩:=cells_5 HO1.out
   obtain ⟨b0,b1,b2,b3,b4,b5⟩:=cells_6 HE1.out
   clear hb1 n0 n1 n2 n3 n4 n5 hr
   go_wp2
   go_ret
   exact ⟨(by rw [HV.out] <;> rfl),HB1.out⟩
set_option maxHeartbeats 3200000 in
theorem mal_4 (rb:Nat) (s:Int) (p d:ByteArray) (v f:Int) (w:World) (hg:GroundT w) (hr:w.cell? ⟨rb,0,none⟩=some (.int .i64 s)) (hrl:rb<w.heap.size) :
  Calls Tryz.prog 61 #[.pointer (some ⟨rb,0,none⟩),opV 4 p d v f] w fun e w'=>e=.returned (.int .i64 (malC s 4 p d f))∧Below w.heap.size w w':=by
 have n0:=hg.need 4 0 false rfl
 have n1:=hg.need 4 1 false rfl
 have n2:=hg.need 4 2 false rfl
 have n3:=hg.need 4 3 true rfl
 have n4:=hg.need 4 4 false rfl
 have n5:=hg.need 4 5 false rfl
 simp only [Nat.reduceMul,Nat.reduceAdd] at n0 n1 n2 n3 n4 n5
 have hlt:=hg.needLt
 have HG:Hid _:=hg
 have HR:Hid _:=hr
 obtain ⟨code,hcode⟩:∃ code,(parse p).1=code:=⟨_,rfl⟩
 have HN:Hid (∀ W,Ground W→Calls Tryz.prog 85 #[.string p] W fun e w'=>e=.returned (.tuple #[.string (lastN p),.int .i64 code])∧Below W.heap.size W w'):=fun W h=>by rw [← hcode];exact name_any p W h
 have HC:Hid (∀ W,GroundT W→Calls Tryz.prog 86 #[opV 4 p d v f] W fun e w'=>e=.returned (.bool false)∧Below W.heap.size W w'):=fun W h=>isCounted_any (k:=4) (by decide) (by decide) p d v f (fun h=>by omega) W h
 have HB:Hid (∀ W,GroundT W→Calls Tryz.prog 87 #[opV 4 p d v f] W fun e w'=>e=.returned (.bool false)∧Below W.heap.size W w'):=fun W h=>isBriefOp_any (k:=4) (by decide) (by decide) p d v f (fun h=>by omega) W h
 clear hg
 by_cases hc:code=0
 · subst hc
   have HV:Hid (malC s 4 p d f=0):=by
    show malC s 4 p d f=0
    simp [malC,hcode]
   go_enter Tryz.func61,Tryz.ntmps61
   go_wp2_with fail
   refine (HN.out _ (HG.out.toGround.below (((Below.refl _ _).alloc (Nat.le_refl _) _).alloc (by simp) _))).mono ?_
   rintro e w1 ⟨rfl,hb1⟩
   have HB1:Hid (Below w.heap.size w w1):=trans2 (((Below.refl _ _).alloc (Nat.le_refl _) _).alloc (by simp) _) hb1
   have HO1:Hid (w1.heap[w.heap.size]? = some (.cells #[.int .i64 4,.string p,.string d,.int .i64 v,.int .i64 f] 66 (0,0))):=kept_block hb1 (heap_alloc2_old _ _ _)
   have HE1:Hid (w1.heap[w.heap.size+1]? = some (.cells #[.bool false,.bool false,.bool false,.bool true,.bool false,.bool false] 132 (0,0))):=kept_block hb1 (heap_alloc2_new _ _ _)
   obtain ⟨a0,a1,a2,a3,a4⟩:=cells_5 HO1.out
   obtain ⟨b0,b1,b2,b3,b4,b5⟩:=cells_6 HE1.out
   clear hb1 n0 n1 n2 n3 n4 n5 hr
   go_wp2_with fail
   refine (HC.out _ (HG.out.below HB1.out)).mono ?_
   rintro e w2 ⟨rfl,hb2⟩
   have HB2:Hid (Below w.heap.size w w2):=trans2 HB1.out hb2
   have HO2:Hid _:=kept_block hb2 HO1.out
   have HE2:Hid _:=kept_block hb2 HE1.out
   clear hb2 a0 a1 a2 a3 a4 b0 b1 b2 b3 b4 b5
   obtain ⟨a0,a1,a2,a3,a4⟩:=cells_5 HO2.out
   obtain ⟨b0,b1,b2,b3,b4,b5⟩:=cells_6 HE2.out
   go_wp2_with fail
   refine (HB.out _ (HG.out.below HB2.out)).mono ?_
   rintro e w3 ⟨rfl,hb3⟩
   have HB3:Hid (Below w.heap.size w w3):=trans2 HB2.out hb3
   have HO3:Hid _:=kept_block hb3 HO2.out
   have HE3:Hid _:=kept_block hb3 HE2.out
   have r3:w3.cell? ⟨rb,0,none⟩=some (.int .i64 s):=by rw [HB3.out.cell (p:=⟨rb,0,none⟩) hrl];exact HR.out
   clear hb3 a0 a1 a2 a3 a4 b0 b1 b2 b3 b4 b5
   obtain ⟨a0,a1,a2,a3,a4⟩:=cells_5 HO3.out
   obtain ⟨b0,b1,b2,b3,b4,b5⟩:=cells_6 HE3.out
   go_wp2
   go_ret
   exact ⟨(by rw [HV.out] <;> rfl),HB3.out⟩
 · skip
   have HV:Hid (malC s 4 p d f=10):=by
    show malC s 4 p d f=10
    simp [malC,hcode,hc]
   go_enter Tryz.func61,Tryz.ntmps61
   go_wp2_with fail
   refine (HN.out _ (HG.out.toGround.below (((Below.refl _ _).alloc (Nat.le_refl _) _).alloc (by simp) _))).mono ?_
   rintro e w1 ⟨rfl,hb1⟩
   have HB1:Hid (Below w.heap.size w w1):=trans2 (((Below.refl _ _).alloc (Nat.le_refl _) _).alloc (by simp) _) hb1
   have HO1:Hid (w1.heap[w.heap.size]? = some (.cells #[.int .i64 4,.string p,.string d,.int .i64 v,.int .i64 f] 66 (0,0))):=kept_block hb1 (heap_alloc2_old _ _ _)
   have HE1:Hid (w1.heap[w.heap.size+1]? = some (.cells #[.bool false,.bool false,.bool false,.bool true,.bool false,.bool false] 132 (0,0))):=kept_block hb1 (heap_alloc2_new _ _ _)
   obtain ⟨a0,a1,a2,a3,a4⟩:=cells_5 HO1.out
   obtain ⟨b0,b1,b2,b3,b4,b5⟩:=cells_6 HE1.out
   clear hb1 n0 n1 n2 n3 n4 n5 hr
   go_wp2
   go_ret
   exact ⟨(by rw [HV.out] <;> rfl),HB1.out⟩
set_option maxHeartbeats 3200000 in
theorem mal_5 (rb:Nat) (s:Int) (p d:ByteArray) (v f:Int) (w:World) (hg:GroundT w) (hr:w.cell? ⟨rb,0,none⟩=some (.int .i64 s)) (hrl:rb<w.heap.size) :
  Calls Tryz.prog 61 #[.pointer (some ⟨rb,0,none⟩),opV 5 p d v f] w fun e w'=>e=.returned (.int .i64 (malC s 5 p d f))∧Below w.heap.size w w':=by
 have n0:=hg.need 5 0 false rfl
 have n1:=hg.need 5 1 false rfl
 have n2:=hg.need 5 2 false rfl
 have n3:=hg.need 5 3 false rfl
 have n4:=hg.need 5 4 false rfl
 have n5:=hg.need 5 5 false rfl
 simp only [Nat.reduceMul,Nat.reduceAdd] at n0 n1 n2 n3 n4 n5
 have hlt:=hg.needLt
 have HG:Hid _:=hg
 have HR:Hid _:=hr
 obtain ⟨code,hcode⟩:∃ code,(parse p).1=code:=⟨_,rfl⟩
 have HN:Hid (∀ W,Ground W→Calls Tryz.prog 85 #[.string p] W fun e w'=>e=.returned (.tuple #[.string (lastN p),.int .i64 code])∧Below W.heap.size W w'):=fun W h=>by rw [← hcode];exact name_any p W h
 have HC:Hid (∀ W,GroundT W→Calls Tryz.prog 86 #[opV 5 p d v f] W fun e w'=>e=.returned (.bool false)∧Below W.heap.size W w'):=fun W h=>isCounted_any (k:=5) (by decide) (by decide) p d v f (fun h=>by omega) W h
 have HB:Hid (∀ W,GroundT W→Calls Tryz.prog 87 #[opV 5 p d v f] W fun e w'=>e=.returned (.bool false)∧Below W.heap.size W w'):=fun W h=>isBriefOp_any (k:=5) (by decide) (by decide) p d v f (fun h=>by omega) W h
 clear hg
 by_cases hc:code=0
 · subst hc
   have HV:Hid (malC s 5 p d f=0):=by
    show malC s 5 p d f=0
    simp [malC,hcode]
   go_enter Tryz.func61,Tryz.ntmps61
   go_wp2_with fail
   refine (HN.out _ (HG.out.toGround.below (((Below.refl _ _).alloc (Nat.le_refl _) _).alloc (by simp) _))).mono ?_
   rintro e w1 ⟨rfl,hb1⟩
   have HB1:Hid (Below w.heap.size w w1):=trans2 (((Below.refl _ _).alloc (Nat.le_refl _) _).alloc (by simp) _) hb1
   have HO1:Hid (w1.heap[w.heap.size]? = some (.cells #[.int .i64 5,.string p,.string d,.int .i64 v,.int .i64 f] 66 (0,0))):=kept_block hb1 (heap_alloc2_old _ _ _)
   have HE1:Hid (w1.heap[w.heap.size+1]? = some (.cells #[.bool false,.bool false,.bool false,.bool false,.bool false,.bool false] 132 (0,0))):=kept_block hb1 (heap_alloc2_new _ _ _)
   obtain ⟨a0,a1,a2,a3,a4⟩:=cells_5 HO1.out
   obtain ⟨b0,b1,b2,b3,b4,b5⟩:=cells_6 HE1.out
   clear hb1 n0 n1 n2 n3 n4 n5 hr
   go_wp2_with fail
   refine (HC.out _ (HG.out.below HB1.out)).mono ?_
   rintro e w2 ⟨rfl,hb2⟩
   have HB2:Hid (Below w.heap.size w w2):=trans2 HB1.out hb2
   have HO2:Hid _:=kept_block hb2 HO1.out
   have HE2:Hid _:=kept_block hb2 HE1.out
   clear hb2 a0 a1 a2 a3 a4 b0 b1 b2 b3 b4 b5
   obtain ⟨a0,a1,a2,a3,a4⟩:=cells_5 HO2.out
   obtain ⟨b0,b1,b2,b3,b4,b5⟩:=cells_6 HE2.out
   go_wp2_with fail
   refine (HB.out _ (HG.out.below HB2.out)).mono ?_
   rintro e w3 ⟨rfl,hb3⟩
   have HB3:Hid (Below w.heap.size w w3):=trans2 HB2.out hb3
   have HO3:Hid _:=kept_block hb3 HO2.out
   have HE3:Hid _:=kept_block hb3 HE2.out
   have r3:w3.cell? ⟨rb,0,none⟩=some (.int .i64 s):=by rw [HB3.out.cell (p:=⟨rb,0,none⟩) hrl];exact HR.out
   clear hb3 a0 a1 a2 a3 a4 b0 b1 b2 b3 b4 b5
   obtain ⟨a0,a1,a2,a3,a4⟩:=cells_5 HO3.out
   obtain ⟨b0,b1,b2,b3,b4,b5⟩:=cells_6 HE3.out
   go_wp2
   go_ret
   exact ⟨(by rw [HV.out] <;> rfl),HB3.out⟩
 · skip
   have HV:Hid (malC s 5 p d f=10):=by
    show malC s 5 p d f=10
    simp [malC,hcode,hc]
   go_enter Tryz.func61,Tryz.ntmps61
   go_wp2_with fail
   refine (HN.out _ (HG.out.toGround.below (((Below.refl _ _).alloc (Nat.le_refl _) _).alloc (by simp) _))).mono ?_
   rintro e w1 ⟨rfl,hb1⟩
   have HB1:Hid (Below w.heap.size w w1):=trans2 (((Below.refl _ _).alloc (Nat.le_refl _) _).alloc (by simp) _) hb1
   have HO1:Hid (w1.heap[w.heap.size]? = some (.cells #[.int .i64 5,.string p,.string d,.int .i64 v,.int .i64 f] 66 (0,0))):=kept_block hb1 (heap_alloc2_old _ _ _)
   have HE1:Hid (w1.heap[w.heap.size+1]? = some (.cells #[.bool false,.bool false,.bool false,.bool false,.bool false,.bool false] 132 (0,0))):=kept_block hb1 (heap_alloc2_new _ _ _)
   obtain ⟨a0,a1,a2,a3,a4⟩:=cells_5 HO1.out
   obtain ⟨b0,b1,b2,b3,b4,b5⟩:=cells_6 HE1.out
   clear hb1 n0 n1 n2 n3 n4 n5 hr
   go_wp2
   go_ret
   exact ⟨(by rw [HV.out] <;> rfl),HB1.out⟩
set_option maxHeartbeats 3200000 in
theorem mal_6 (rb:Nat) (s:Int) (p d:ByteArray) (v f:Int) (w:World) (hg:GroundT w) (hr:w.cell? ⟨rb,0,none⟩=some (.int .i64 s)) (hrl:rb<w.heap.size) :
  Calls Tryz.prog 61 #[.pointer (some ⟨rb,0,none⟩),opV 6 p d v f] w fun e w'=>e=.returned (.int .i64 (malC s 6 p d f))∧Below w.heap.size w w':=by
 have n0:=hg.need 6 0 false rfl
 have n1:=hg.need 6 1 false rfl
 have n2:=hg.need 6 2 false rfl
 have n3:=hg.need 6 3 false rfl
 have n4:=hg.need 6 4 false rfl
 have n5:=hg.need 6 5 false rfl
 simp only [Nat.reduceMul,Nat.reduceAdd] at n0 n1 n2 n3 n4 n5
 have hlt:=hg.needLt
 have HG:Hid _:=hg
 have HR:Hid _:=hr
 obtain ⟨code,hcode⟩:∃ code,(parse p).1=code:=⟨_,rfl⟩
 have HN:Hid (∀ W,Ground W→Calls Tryz.prog 85 #[.string p] W fun e w'=>e=.returned (.tuple #[.string (lastN p),.int .i64 code])∧Below W.heap.size W w'):=fun W h=>by rw [← hcode];exact name_any p W h
 have HC:Hid (∀ W,GroundT W→Calls Tryz.prog 86 #[opV 6 p d v f] W fun e w'=>e=.returned (.bool false)∧Below W.heap.size W w'):=fun W h=>isCounted_any (k:=6) (by decide) (by decide) p d v f (fun h=>by omega) W h
 have HB:Hid (∀ W,GroundT W→Calls Tryz.prog 87 #[opV 6 p d v f] W fun e w'=>e=.returned (.bool false)∧Below W.heap.size W w'):=fun W h=>isBriefOp_any (k:=6) (by decide) (by decide) p d v f (fun h=>by omega) W h
 clear hg
 by_cases hc:code=0
 · subst hc
   have HV:Hid (malC s 6 p d f=0):=by
    show malC s 6 p d f=0
    simp [malC,hcode]
   go_enter Tryz.func61,Tryz.ntmps61
   go_wp2_with fail
   refine (HN.out _ (HG.out.toGround.below (((Below.refl _ _).alloc (Nat.le_refl _) _).alloc (by simp) _))).mono ?_
   rintro e w1 ⟨rfl,hb1⟩
   have HB1:Hid (Below w.heap.size w w1):=trans2 (((Below.refl _ _).alloc (Nat.le_refl _) _).alloc (by simp) _) hb1
   have HO1:Hid (w1.heap[w.heap.size]? = some (.cells #[.int .i64 6,.string p,.string d,.int .i64 v,.int .i64 f] 66 (0,0))):=kept_block hb1 (heap_alloc2_old _ _ _)
   have HE1:Hid (w1.heap[w.heap.size+1]? = some (.cells #[.bool false,.bool false,.bool false,.bool false,.bool false,.bool false] 132 (0,0))):=kept_block hb1 (heap_alloc2_new _ _ _)
   obtain ⟨a0,a1,a2,a3,a4⟩:=cells_5 HO1.out
   obtain ⟨b0,b1,b2,b3,b4,b5⟩:=cells_6 HE1.out
   clear hb1 n0 n1 n2 n3 n4 n5 hr
   go_wp2_with fail
   refine (HC.out _ (HG.out.below HB1.out)).mono ?_
   rintro e w2 ⟨rfl,hb2⟩
   have HB2:Hid (Below w.heap.size w w2):=trans2 HB1.out hb2
   have HO2:Hid _:=kept_block hb2 HO1.out
   have HE2:Hid _:=kept_block hb2 HE1.out
   clear hb2 a0 a1 a2 a3 a4 b0 b1 b2 b3 b4 b5
   obtain ⟨a0,a1,a2,a3,a4⟩:=cells_5 HO2.out
   obtain ⟨b0,b1,b2,b3,b4,b5⟩:=cells_6 HE2.out
   go_wp2_with fail
   refine (HB.out _ (HG.out.below HB2.out)).mono ?_
   rintro e w3 ⟨rfl,hb3⟩
   have HB3:Hid (Below w.heap.size w w3):=trans2 HB2.out hb3
   have HO3:Hid _:=kept_block hb3 HO2.out
   have HE3:Hid _:=kept_block hb3 HE2.out
   have r3:w3.cell? ⟨rb,0,none⟩=some (.int .i64 s):=by rw [HB3.out.cell (p:=⟨rb,0,none⟩) hrl];exact HR.out
   clear hb3 a0 a1 a2 a3 a4 b0 b1 b2 b3 b4 b5
   obtain ⟨a0,a1,a2,a3,a4⟩:=cells_5 HO3.out
   obtain ⟨b0,b1,b2,b3,b4,b5⟩:=cells_6 HE3.out
   go_wp2
   go_ret
   exact ⟨(by rw [HV.out] <;> rfl),HB3.out⟩
 · skip
   have HV:Hid (malC s 6 p d f=10):=by
    show malC s 6 p d f=10
    simp [malC,hcode,hc]
   go_enter Tryz.func61,Tryz.ntmps61
   go_wp2_with fail
   refine (HN.out _ (HG.out.toGround.below (((Below.refl _ _).alloc (Nat.le_refl _) _).alloc (by simp) _))).mono ?_
   rintro e w1 ⟨rfl,hb1⟩
   have HB1:Hid (Below w.heap.size w w1):=trans2 (((Below.refl _ _).alloc (Nat.le_refl _) _).alloc (by simp) _) hb1
   have HO1:Hid (w1.heap[w.heap.size]? = some (.cells #[.int .i64 6,.string p,.string d,.int .i64 v,.int .i64 f] 66 (0,0))):=kept_block hb1 (heap_alloc2_old _ _ _)
   have HE1:Hid (w1.heap[w.heap.size+1]? = some (.cells #[.bool false,.bool false,.bool false,.bool false,.bool false,.bool false] 132 (0,0))):=kept_block hb1 (heap_alloc2_new _ _ _)
   obtain ⟨a0,a1,a2,a3,a4⟩:=cells_5 HO1.out
   obtain ⟨b0,b1,b2,b3,b4,b5⟩:=cells_6 HE1.out
   clear hb1 n0 n1 n2 n3 n4 n5 hr
   go_wp2
   go_ret
   exact ⟨(by rw [HV.out] <;> rfl),HB1.out⟩
set_option maxHeartbeats 3200000 in
theorem mal_7 (rb:Nat) (s:Int) (p d:ByteArray) (v f:Int) (w:World) (hg:GroundT w) (hr:w.cell? ⟨rb,0,none⟩=some (.int .i64 s)) (hrl:rb<w.heap.size) :
  Calls Tryz.prog 61 #[.pointer (some ⟨rb,0,none⟩),opV 7 p d v f] w fun e w'=>e=.returned (.int .i64 (malC s 7 p d f))∧Below w.heap.size w w':=by
 have n0:=hg.need 7 0 false rfl
 have n1:=hg.need 7 1 false rfl
 have n2:=hg.need 7 2 false rfl
 have n3:=hg.need 7 3 false rfl
 have n4:=hg.need 7 4 false rfl
 have n5:=hg.need 7 5 false rfl
 simp only [Nat.reduceMul,Nat.reduceAdd] at n0 n1 n2 n3 n4 n5
 have hlt:=hg.needLt
 have HG:Hid _:=hg
 have HR:Hid _:=hr
 obtain ⟨code,hcode⟩:∃ code,(parse p).1=code:=⟨_,rfl⟩
 have HN:Hid (∀ W,Ground W→Calls Tryz.prog 85 #[.string p] W fun e w'=>e=.returned (.tuple #[.string (lastN p),.int .i64 code])∧Below W.heap.size W w'):=fun W h=>by rw [← hcode];exact name_any p W h
 have HC:Hid (∀ W,GroundT W→Calls Tryz.prog 86 #[opV 7 p d v f] W fun e w'=>e=.returned (.bool false)∧Below W.heap.size W w'):=fun W h=>isCounted_any (k:=7) (by decide) (by decide) p d v f (fun h=>by omega) W h
 have HB:Hid (∀ W,GroundT W→Calls Tryz.prog 87 #[opV 7 p d v f] W fun e w'=>e=.returned (.bool false)∧Below W.heap.size W w'):=fun W h=>isBriefOp_any (k:=7) (by decide) (by decide) p d v f (fun h=>by omega) W h
 clear hg
 by_cases hc:code=0
 · subst hc
   have HV:Hid (malC s 7 p d f=0):=by
    show malC s 7 p d f=0
    simp [malC,hcode]
   go_enter Tryz.func61,Tryz.ntmps61
   go_wp2_with fail
   refine (HN.out _ (HG.out.toGround.below (((Below.refl _ _).alloc (Nat.le_refl _) _).alloc (by simp) _))).mono ?_
   rintro e w1 ⟨rfl,hb1⟩
   have HB1:Hid (Below w.heap.size w w1):=trans2 (((Below.refl _ _).alloc (Nat.le_refl _) _).alloc (by simp) _) hb1
   have HO1:Hid (w1.heap[w.heap.size]? = some (.cells #[.int .i64 7,.string p,.string d,.int .i64 v,.int .i64 f] 66 (0,0))):=kept_block hb1 (heap_alloc2_old _ _ _)
   have HE1:Hid (w1.heap[w.heap.size+1]? = some (.cells #[.bool false,.bool false,.bool false,.bool false,.bool false,.bool false] 132 (0,0))):=kept_block hb1 (heap_alloc2_new _ _ _)
   obtain ⟨a0,a1,a2,a3,a4⟩:=cells_5 HO1.out
   obtain ⟨b0,b1,b2,b3,b4,b5⟩:=cells_6 HE1.out
   clear hb1 n0 n1 n2 n3 n4 n5 hr
   go_wp2_with fail
   refine (HC.out _ (HG.out.below HB1.out)).mono ?_
   rintro e w2 ⟨rfl,hb2⟩
   have HB2:Hid (Below w.heap.size w w2):=trans2 HB1.out hb2
   have HO2:Hid _:=kept_block hb2 HO1.out
   have HE2:Hid _:=kept_block hb2 HE1.out
   clear hb2 a0 a1 a2 a3 a4 b0 b1 b2 b3 b4 b5
   obtain ⟨a0,a1,a2,a3,a4⟩:=cells_5 HO2.out
   obtain ⟨b0,b1,b2,b3,b4,b5⟩:=cells_6 HE2.out
   go_wp2_with fail
   refine (HB.out _ (HG.out.below HB2.out)).mono ?_
   rintro e w3 ⟨rfl,hb3⟩
   have HB3:Hid (Below w.heap.size w w3):=trans2 HB2.out hb3
   have HO3:Hid _:=kept_block hb3 HO2.out
   have HE3:Hid _:=kept_block hb3 HE2.out
   have r3:w3.cell? ⟨rb,0,none⟩=some (.int .i64 s):=by rw [HB3.out.cell (p:=⟨rb,0,none⟩) hrl];exact HR.out
   clear hb3 a0 a1 a2 a3 a4 b0 b1 b2 b3 b4 b5
   obtain ⟨a0,a1,a2,a3,a4⟩:=cells_5 HO3.out
   obtain ⟨b0,b1,b2,b3,b4,b5⟩:=cells_6 HE3.out
   go_wp2
   go_ret
   exact ⟨(by rw [HV.out] <;> rfl),HB3.out⟩
 · skip
   have HV:Hid (malC s 7 p d f=10):=by
    show malC s 7 p d f=10
    simp [malC,hcode,hc]
   go_enter Tryz.func61,Tryz.ntmps61
   go_wp2_with fail
   refine (HN.out _ (HG.out.toGround.below (((Below.refl _ _).alloc (Nat.le_refl _) _).alloc (by simp) _))).mono ?_
   rintro e w1 ⟨rfl,hb1⟩
   have HB1:Hid (Below w.heap.size w w1):=trans2 (((Below.refl _ _).alloc (Nat.le_refl _) _).alloc (by simp) _) hb1
   have HO1:Hid (w1.heap[w.heap.size]? = some (.cells #[.int .i64 7,.string p,.string d,.int .i64 v,.int .i64 f] 66 (0,0))):=kept_block hb1 (heap_alloc2_old _ _ _)
   have HE1:Hid (w1.heap[w.heap.size+1]? = some (.cells #[.bool false,.bool false,.bool false,.bool false,.bool false,.bool false] 132 (0,0))):=kept_block hb1 (heap_alloc2_new _ _ _)
   obtain ⟨a0,a1,a2,a3,a4⟩:=cells_5 HO1.out
   obtain ⟨b0,b1,b2,b3,b4,b5⟩:=cells_6 HE1.out
   clear hb1 n0 n1 n2 n3 n4 n5 hr
   go_wp2
   go_ret
   exact ⟨(by rw [HV.out] <;> rfl),HB1.out⟩
theorem mal_any {k:Int} (h1:1≤k) (h7:k≤7) (rb:Nat) (s:Int) (p d:ByteArray) (v f:Int) (hf:k=1→0≤f∧f≤3) (w:World) (hg:GroundT w) (hr:w.cell? ⟨rb,0,none⟩=some (.int .i64 s)) (hrl:rb<w.heap.size) :
  Calls Tryz.prog 61 #[.pointer (some ⟨rb,0,none⟩),opV k p d v f] w fun e w'=>e=.returned (.int .i64 (malC s k p d f))∧Below w.heap.size w w':=by
 rcases kinds h1 h7 with rfl | rfl | rfl | rfl | rfl | rfl | rfl
 · rcases flags4 (hf rfl).1 (hf rfl).2 with rfl | rfl | rfl | rfl
   · exact mal_1_0 rb s p d v w hg hr hrl
   · exact mal_1_1 rb s p d v w hg hr hrl
   · exact mal_1_2 rb s p d v w hg hr hrl
   · exact mal_1_3 rb s p d v w hg hr hrl
 · exact mal_2 rb s p d v f w hg hr hrl
 · exact mal_3 rb s p d v f w hg hr hrl
 · exact mal_4 rb s p d v f w hg hr hrl
 · exact mal_5 rb s p d v f w hg hr hrl
 · exact mal_6 rb s p d v f w hg hr hrl
 · exact mal_7 rb s p d v f w hg hr hrl
end Go.Proofs.YtckmihplkhmpnaaGreatDoor
