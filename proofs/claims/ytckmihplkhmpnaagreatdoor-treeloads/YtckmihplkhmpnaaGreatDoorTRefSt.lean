import Derived.Test.YtckmihplkhmpnaaGreatDoorTRefB
namespace Go.Proofs.YtckmihplkhmpnaaGreatDoor
open Go.RowKit Go.Maps Go.WideShapes
set_option linter.unusedVariables false
set_option linter.unusedSimpArgs false
attribute [local go_sem ↓] Go.wp_at_zero Go.wp_at_succ
theorem is_root {p:ByteArray} (h:parse p=(0,[])):p=⟨#[47]⟩:=by rw [← parse_back h];rfl
theorem parse_47:(parse ⟨#[47]⟩).1=0:=rfl
theorem not_root {p:ByteArray} {xs:List ByteArray} (h:parse p=(0,xs)) (hne:xs≠[]):p≠⟨#[47]⟩:=by
 rintro rfl
 rw [show parse ⟨#[47]⟩=(0,[]) from rfl] at h
 exact hne (Prod.mk.inj h).2.symm
set_option maxHeartbeats 4000000 in
theorem st_lo (s:Int) (p d:ByteArray) (v:Int) (k f:Int) (w:World) (h:k<1) :
  Calls Tryz.prog 70 #[.int .i64 s,opV k p d v f] w fun e w'=>e=.returned (.int .i64 48)∧Below w.heap.size w w':=by
 go_enter Tryz.func70,Tryz.ntmps70
 go_wp2_with fail
 go_ret
 exact ⟨rfl,(Below.refl _ _).alloc (Nat.le_refl _) _⟩
set_option maxHeartbeats 4000000 in
theorem st_hi (s:Int) (p d:ByteArray) (v:Int) (k f:Int) (w:World) (h:7<k) :
  Calls Tryz.prog 70 #[.int .i64 s,opV k p d v f] w fun e w'=>e=.returned (.int .i64 48)∧Below w.heap.size w w':=by
 have h1:¬ k<1:=by omega
 go_enter Tryz.func70,Tryz.ntmps70
 go_wp2_with fail
 go_ret
 exact ⟨rfl,(Below.refl _ _).alloc (Nat.le_refl _) _⟩
set_option maxHeartbeats 4000000 in
theorem st_flo (s:Int) (p d:ByteArray) (v:Int) (f:Int) (w:World) (h:f<0) :
  Calls Tryz.prog 70 #[.int .i64 s,opV 1 p d v f] w fun e w'=>e=.returned (.int .i64 48)∧Below w.heap.size w w':=by
 go_enter Tryz.func70,Tryz.ntmps70
 go_wp2_with fail
 go_ret
 exact ⟨rfl,(Below.refl _ _).alloc (Nat.le_refl _) _⟩
set_option maxHeartbeats 4000000 in
theorem st_fhi (s:Int) (p d:ByteArray) (v:Int) (f:Int) (w:World) (h:3<f) :
  Calls Tryz.prog 70 #[.int .i64 s,opV 1 p d v f] w fun e w'=>e=.returned (.int .i64 48)∧Below w.heap.size w w':=by
 have h1:¬ f<0:=by omega
 go_enter Tryz.func70,Tryz.ntmps70
 go_wp2_with fail
 go_ret
 exact ⟨rfl,(Below.refl _ _).alloc (Nat.le_refl _) _⟩
set_option maxHeartbeats 4000000 in
theorem st_1_0_err (s:Int) (p d:ByteArray) (v:Int) {code:Int} (w:World) (hp:parse p=(code,[])) (hc:code≠0) :
  Calls Tryz.prog 70 #[.int .i64 s,opV 1 p d v 0] w fun e w'=>e=.returned (.int .i64 10)∧Below w.heap.size w w':=by
 have e1:(code != 0)=true:=by simpa using hc
 clear hc
 have HP:Hid (∀ W,_):=fun W=>refParse_none hp W
 clear hp
 go_enter Tryz.func70,Tryz.ntmps70
 go_wp2_with fail
 refine Calls.mono (HP.out _) ?_
 rintro e w1 ⟨a,c,rfl,hb1⟩
 have HB1:Hid (Below w.heap.size w w1):=trans2 ((Below.refl _ _).alloc (Nat.le_refl _) _) hb1
 have HO1:Hid (w1.heap[w.heap.size]? = some (.cells #[.int .i64 (1),.string p,.string d,.int .i64 v,.int .i64 (0)] 66 (0,0))):=kept_block hb1 (heap_alloc_new _ _)
 obtain ⟨a0,a1,a2,a3,a4⟩:=cells_5 HO1.out
 clear hb1
 go_wp2_with fail
 go_ret
 exact ⟨rfl,HB1.out⟩
set_option maxHeartbeats 4000000 in
theorem st_1_0_root (s:Int) (p d:ByteArray) (v:Int) (w:World) (hp:parse p=(0,[])) :
  Calls Tryz.prog 70 #[.int .i64 s,opV 1 p d v 0] w fun e w'=>e=.returned (.int .i64 47)∧Below w.heap.size w w':=by
 have HP:Hid (∀ W,_):=fun W=>refParse_none hp W
 clear hp
 go_enter Tryz.func70,Tryz.ntmps70
 go_wp2_with fail
 refine Calls.mono (HP.out _) ?_
 rintro e w1 ⟨a,c,rfl,hb1⟩
 have HB1:Hid (Below w.heap.size w w1):=trans2 ((Below.refl _ _).alloc (Nat.le_refl _) _) hb1
 have HO1:Hid (w1.heap[w.heap.size]? = some (.cells #[.int .i64 (1),.string p,.string d,.int .i64 v,.int .i64 (0)] 66 (0,0))):=kept_block hb1 (heap_alloc_new _ _)
 obtain ⟨a0,a1,a2,a3,a4⟩:=cells_5 HO1.out
 clear hb1
 go_wp2_with fail
 go_ret
 exact ⟨rfl,HB1.out⟩
set_option maxHeartbeats 4000000 in
theorem st_1_0_some1 (s:Int) (p d:ByteArray) (v:Int) {ys:List ByteArray} {x:ByteArray} (w:World) (hp:parse p=(0,ys ++ [x])) (hd:64<d.size) :
  Calls Tryz.prog 70 #[.int .i64 s,opV 1 p d v 0] w fun e w'=>e=.returned (.int .i64 45)∧Below w.heap.size w w':=by
 have hd1:(64:Int)<(d.size:Int):=by omega
 clear hd
 have hpl:=parse_len hp
 obtain ⟨q,hq⟩:∃ q,ys.length=q:=⟨_,rfl⟩
 have hq6:q≤5:=by have:=hpl.1;simp at this;omega
 have HP:Hid (∀ W,_):=fun W=>refParse_some hp (by simp) W
 have HY:Hid ((ys ++ [x]).length=q+1):=(show (ys ++ [x]).length=q+1 by simp [hq])
 have HQ:Hid ((ys ++ [x])[q]? = some x):=(show (ys ++ [x])[q]? = some x by simp [← hq])
 have hq0:((q:Int)+1==0)=false:=by simp;omega
 have hq1:(0:Int)<(q:Int)+1:=by omega
 clear hpl hq
 clear hp
 go_enter Tryz.func70,Tryz.ntmps70
 go_wp2_with fail
 refine Calls.mono (HP.out _) ?_
 rintro e w1 ⟨b,o,c,rfl,hlt,hS,hcap,hb1⟩
 rw [HY.out]
 have hx:=hS q x HQ.out
 clear hS hlt hcap
 have HB1:Hid (Below w.heap.size w w1):=trans2 ((Below.refl _ _).alloc (Nat.le_refl _) _) hb1
 have HO1:Hid (w1.heap[w.heap.size]? = some (.cells #[.int .i64 (1),.string p,.string d,.int .i64 v,.int .i64 (0)] 66 (0,0))):=kept_block hb1 (heap_alloc_new _ _)
 obtain ⟨a0,a1,a2,a3,a4⟩:=cells_5 HO1.out
 clear hb1
 go_wp2_with fail
 go_ret
 exact ⟨rfl,HB1.out⟩
set_option maxHeartbeats 4000000 in
theorem st_1_0_some0 (s:Int) (p d:ByteArray) (v:Int) {ys:List ByteArray} {x:ByteArray} (w:World) (hp:parse p=(0,ys ++ [x])) (hd:d.size≤64) :
  Calls Tryz.prog 70 #[.int .i64 s,opV 1 p d v 0] w fun e w'=>e=.returned (.int .i64 0)∧Below w.heap.size w w':=by
 have hd1:¬ (64:Int)<(d.size:Int):=by omega
 clear hd
 have hpl:=parse_len hp
 obtain ⟨q,hq⟩:∃ q,ys.length=q:=⟨_,rfl⟩
 have hq6:q≤5:=by have:=hpl.1;simp at this;omega
 have HP:Hid (∀ W,_):=fun W=>refParse_some hp (by simp) W
 have HY:Hid ((ys ++ [x]).length=q+1):=(show (ys ++ [x]).length=q+1 by simp [hq])
 have HQ:Hid ((ys ++ [x])[q]? = some x):=(show (ys ++ [x])[q]? = some x by simp [← hq])
 have hq0:((q:Int)+1==0)=false:=by simp;omega
 have hq1:(0:Int)<(q:Int)+1:=by omega
 clear hpl hq
 clear hp
 go_enter Tryz.func70,Tryz.ntmps70
 go_wp2_with fail
 refine Calls.mono (HP.out _) ?_
 rintro e w1 ⟨b,o,c,rfl,hlt,hS,hcap,hb1⟩
 rw [HY.out]
 have hx:=hS q x HQ.out
 clear hS hlt hcap
 have HB1:Hid (Below w.heap.size w w1):=trans2 ((Below.refl _ _).alloc (Nat.le_refl _) _) hb1
 have HO1:Hid (w1.heap[w.heap.size]? = some (.cells #[.int .i64 (1),.string p,.string d,.int .i64 v,.int .i64 (0)] 66 (0,0))):=kept_block hb1 (heap_alloc_new _ _)
 obtain ⟨a0,a1,a2,a3,a4⟩:=cells_5 HO1.out
 clear hb1
 go_wp2_with fail
 go_ret
 exact ⟨rfl,HB1.out⟩
set_option maxHeartbeats 4000000 in
theorem st_1_1_err (s:Int) (p d:ByteArray) (v:Int) {code:Int} (w:World) (hp:parse p=(code,[])) (hc:code≠0) :
  Calls Tryz.prog 70 #[.int .i64 s,opV 1 p d v 1] w fun e w'=>e=.returned (.int .i64 10)∧Below w.heap.size w w':=by
 have e1:(code != 0)=true:=by simpa using hc
 clear hc
 have HP:Hid (∀ W,_):=fun W=>refParse_none hp W
 clear hp
 go_enter Tryz.func70,Tryz.ntmps70
 go_wp2_with fail
 refine Calls.mono (HP.out _) ?_
 rintro e w1 ⟨a,c,rfl,hb1⟩
 have HB1:Hid (Below w.heap.size w w1):=trans2 ((Below.refl _ _).alloc (Nat.le_refl _) _) hb1
 have HO1:Hid (w1.heap[w.heap.size]? = some (.cells #[.int .i64 (1),.string p,.string d,.int .i64 v,.int .i64 (1)] 66 (0,0))):=kept_block hb1 (heap_alloc_new _ _)
 obtain ⟨a0,a1,a2,a3,a4⟩:=cells_5 HO1.out
 clear hb1
 go_wp2_with fail
 go_ret
 exact ⟨rfl,HB1.out⟩
set_option maxHeartbeats 4000000 in
theorem st_1_1_root (s:Int) (p d:ByteArray) (v:Int) (w:World) (hp:parse p=(0,[])) :
  Calls Tryz.prog 70 #[.int .i64 s,opV 1 p d v 1] w fun e w'=>e=.returned (.int .i64 47)∧Below w.heap.size w w':=by
 have HP:Hid (∀ W,_):=fun W=>refParse_none hp W
 clear hp
 go_enter Tryz.func70,Tryz.ntmps70
 go_wp2_with fail
 refine Calls.mono (HP.out _) ?_
 rintro e w1 ⟨a,c,rfl,hb1⟩
 have HB1:Hid (Below w.heap.size w w1):=trans2 ((Below.refl _ _).alloc (Nat.le_refl _) _) hb1
 have HO1:Hid (w1.heap[w.heap.size]? = some (.cells #[.int .i64 (1),.string p,.string d,.int .i64 v,.int .i64 (1)] 66 (0,0))):=kept_block hb1 (heap_alloc_new _ _)
 obtain ⟨a0,a1,a2,a3,a4⟩:=cells_5 HO1.out
 clear hb1
 go_wp2_with fail
 go_ret
 exact ⟨rfl,HB1.out⟩
set_option maxHeartbeats 4000000 in
theorem st_1_1_brief (s:Int) (p d:ByteArray) (v:Int) {ys:List ByteArray} {x:ByteArray} (w:World) (hp:parse p=(0,ys ++ [x])) (hs:s=0) :
  Calls Tryz.prog 70 #[.int .i64 s,opV 1 p d v 1] w fun e w'=>e=.returned (.int .i64 44)∧Below w.heap.size w w':=by
 subst hs
 have hpl:=parse_len hp
 obtain ⟨q,hq⟩:∃ q,ys.length=q:=⟨_,rfl⟩
 have hq6:q≤5:=by have:=hpl.1;simp at this;omega
 have HP:Hid (∀ W,_):=fun W=>refParse_some hp (by simp) W
 have HY:Hid ((ys ++ [x]).length=q+1):=(show (ys ++ [x]).length=q+1 by simp [hq])
 have HQ:Hid ((ys ++ [x])[q]? = some x):=(show (ys ++ [x])[q]? = some x by simp [← hq])
 have hq0:((q:Int)+1==0)=false:=by simp;omega
 have hq1:(0:Int)<(q:Int)+1:=by omega
 clear hpl hq
 clear hp
 go_enter Tryz.func70,Tryz.ntmps70
 go_wp2_with fail
 refine Calls.mono (HP.out _) ?_
 rintro e w1 ⟨b,o,c,rfl,hlt,hS,hcap,hb1⟩
 rw [HY.out]
 have hx:=hS q x HQ.out
 clear hS hlt hcap
 have HB1:Hid (Below w.heap.size w w1):=trans2 ((Below.refl _ _).alloc (Nat.le_refl _) _) hb1
 have HO1:Hid (w1.heap[w.heap.size]? = some (.cells #[.int .i64 (1),.string p,.string d,.int .i64 v,.int .i64 (1)] 66 (0,0))):=kept_block hb1 (heap_alloc_new _ _)
 obtain ⟨a0,a1,a2,a3,a4⟩:=cells_5 HO1.out
 clear hb1
 go_wp2_with fail
 go_ret
 exact ⟨rfl,HB1.out⟩
set_option maxHeartbeats 4000000 in
theorem st_1_1_some1 (s:Int) (p d:ByteArray) (v:Int) {ys:List ByteArray} {x:ByteArray} (w:World) (hp:parse p=(0,ys ++ [x])) (hs:s≠0) (hd:64<d.size) :
  Calls Tryz.prog 70 #[.int .i64 s,opV 1 p d v 1] w fun e w'=>e=.returned (.int .i64 45)∧Below w.heap.size w w':=by
 have hs1:(s==0)=false:=by simpa using hs
 clear hs
 have hd1:(64:Int)<(d.size:Int):=by omega
 clear hd
 have hpl:=parse_len hp
 obtain ⟨q,hq⟩:∃ q,ys.length=q:=⟨_,rfl⟩
 have hq6:q≤5:=by have:=hpl.1;simp at this;omega
 have HP:Hid (∀ W,_):=fun W=>refParse_some hp (by simp) W
 have HY:Hid ((ys ++ [x]).length=q+1):=(show (ys ++ [x]).length=q+1 by simp [hq])
 have HQ:Hid ((ys ++ [x])[q]? = some x):=(show (ys ++ [x])[q]? = some x by simp [← hq])
 have hq0:((q:Int)+1==0)=false:=by simp;omega
 have hq1:(0:Int)<(q:Int)+1:=by omega
 clear hpl hq
 clear hp
 go_enter Tryz.func70,Tryz.ntmps70
 go_wp2_with fail
 refine Calls.mono (HP.out _) ?_
 rintro e w1 ⟨b,o,c,rfl,hlt,hS,hcap,hb1⟩
 rw [HY.out]
 have hx:=hS q x HQ.out
 clear hS hlt hcap
 have HB1:Hid (Below w.heap.size w w1):=trans2 ((Below.refl _ _).alloc (Nat.le_refl _) _) hb1
 have HO1:Hid (w1.heap[w.heap.size]? = some (.cells #[.int .i64 (1),.string p,.string d,.int .i64 v,.int .i64 (1)] 66 (0,0))):=kept_block hb1 (heap_alloc_new _ _)
 obtain ⟨a0,a1,a2,a3,a4⟩:=cells_5 HO1.out
 clear hb1
 go_wp2_with fail
 go_ret
 exact ⟨rfl,HB1.out⟩
set_option maxHeartbeats 4000000 in
theorem st_1_1_some0 (s:Int) (p d:ByteArray) (v:Int) {ys:List ByteArray} {x:ByteArray} (w:World) (hp:parse p=(0,ys ++ [x])) (hs:s≠0) (hd:d.size≤64) :
  Calls Tryz.prog 70 #[.int .i64 s,opV 1 p d v 1] w fun e w'=>e=.returned (.int .i64 0)∧Below w.heap.size w w':=by
 have hs1:(s==0)=false:=by simpa using hs
 clear hs
 have hd1:¬ (64:Int)<(d.size:Int):=by omega
 clear hd
 have hpl:=parse_len hp
 obtain ⟨q,hq⟩:∃ q,ys.length=q:=⟨_,rfl⟩
 have hq6:q≤5:=by have:=hpl.1;simp at this;omega
 have HP:Hid (∀ W,_):=fun W=>refParse_some hp (by simp) W
 have HY:Hid ((ys ++ [x]).length=q+1):=(show (ys ++ [x]).length=q+1 by simp [hq])
 have HQ:Hid ((ys ++ [x])[q]? = some x):=(show (ys ++ [x])[q]? = some x by simp [← hq])
 have hq0:((q:Int)+1==0)=false:=by simp;omega
 have hq1:(0:Int)<(q:Int)+1:=by omega
 clear hpl hq
 clear hp
 go_enter Tryz.func70,Tryz.ntmps70
 go_wp2_with fail
 refine Calls.mono (HP.out _) ?_
 rintro e w1 ⟨b,o,c,rfl,hlt,hS,hcap,hb1⟩
 rw [HY.out]
 have hx:=hS q x HQ.out
 clear hS hlt hcap
 have HB1:Hid (Below w.heap.size w w1):=trans2 ((Below.refl _ _).alloc (Nat.le_refl _) _) hb1
 have HO1:Hid (w1.heap[w.heap.size]? = some (.cells #[.int .i64 (1),.string p,.string d,.int .i64 v,.int .i64 (1)] 66 (0,0))):=kept_block hb1 (heap_alloc_new _ _)
 obtain ⟨a0,a1,a2,a3,a4⟩:=cells_5 HO1.out
 clear hb1
 go_wp2_with fail
 go_ret
 exact ⟨rfl,HB1.out⟩
set_option maxHeartbeats 4000000 in
theorem st_1_2_err (s:Int) (p d:ByteArray) (v:Int) {code:Int} (w:World) (hp:parse p=(code,[])) (hc:code≠0) :
  Calls Tryz.prog 70 #[.int .i64 s,opV 1 p d v 2] w fun e w'=>e=.returned (.int .i64 10)∧Below w.heap.size w w':=by
 have e1:(code != 0)=true:=by simpa using hc
 clear hc
 have HP:Hid (∀ W,_):=fun W=>refParse_none hp W
 clear hp
 go_enter Tryz.func70,Tryz.ntmps70
 go_wp2_with fail
 refine Calls.mono (HP.out _) ?_
 rintro e w1 ⟨a,c,rfl,hb1⟩
 have HB1:Hid (Below w.heap.size w w1):=trans2 ((Below.refl _ _).alloc (Nat.le_refl _) _) hb1
 have HO1:Hid (w1.heap[w.heap.size]? = some (.cells #[.int .i64 (1),.string p,.string d,.int .i64 v,.int .i64 (2)] 66 (0,0))):=kept_block hb1 (heap_alloc_new _ _)
 obtain ⟨a0,a1,a2,a3,a4⟩:=cells_5 HO1.out
 clear hb1
 go_wp2_with fail
 go_ret
 exact ⟨rfl,HB1.out⟩
set_option maxHeartbeats 4000000 in
theorem st_1_2_root (s:Int) (p d:ByteArray) (v:Int) (w:World) (hp:parse p=(0,[])) :
  Calls Tryz.prog 70 #[.int .i64 s,opV 1 p d v 2] w fun e w'=>e=.returned (.int .i64 47)∧Below w.heap.size w w':=by
 have HP:Hid (∀ W,_):=fun W=>refParse_none hp W
 clear hp
 go_enter Tryz.func70,Tryz.ntmps70
 go_wp2_with fail
 refine Calls.mono (HP.out _) ?_
 rintro e w1 ⟨a,c,rfl,hb1⟩
 have HB1:Hid (Below w.heap.size w w1):=trans2 ((Below.refl _ _).alloc (Nat.le_refl _) _) hb1
 have HO1:Hid (w1.heap[w.heap.size]? = some (.cells #[.int .i64 (1),.string p,.string d,.int .i64 v,.int .i64 (2)] 66 (0,0))):=kept_block hb1 (heap_alloc_new _ _)
 obtain ⟨a0,a1,a2,a3,a4⟩:=cells_5 HO1.out
 clear hb1
 go_wp2_with fail
 go_ret
 exact ⟨rfl,HB1.out⟩
set_option maxHeartbeats 4000000 in
theorem st_1_2_long (s:Int) (p d:ByteArray) (v:Int) {ys:List ByteArray} {x:ByteArray} (w:World) (hp:parse p=(0,ys ++ [x])) (hx:11<x.size) :
  Calls Tryz.prog 70 #[.int .i64 s,opV 1 p d v 2] w fun e w'=>e=.returned (.int .i64 10)∧Below w.heap.size w w':=by
 have hx1:(11:Int)<(x.size:Int):=by omega
 clear hx
 have hpl:=parse_len hp
 obtain ⟨q,hq⟩:∃ q,ys.length=q:=⟨_,rfl⟩
 have hq6:q≤5:=by have:=hpl.1;simp at this;omega
 have HP:Hid (∀ W,_):=fun W=>refParse_some hp (by simp) W
 have HY:Hid ((ys ++ [x]).length=q+1):=(show (ys ++ [x]).length=q+1 by simp [hq])
 have HQ:Hid ((ys ++ [x])[q]? = some x):=(show (ys ++ [x])[q]? = some x by simp [← hq])
 have hq0:((q:Int)+1==0)=false:=by simp;omega
 have hq1:(0:Int)<(q:Int)+1:=by omega
 clear hpl hq
 clear hp
 go_enter Tryz.func70,Tryz.ntmps70
 go_wp2_with fail
 refine Calls.mono (HP.out _) ?_
 rintro e w1 ⟨b,o,c,rfl,hlt,hS,hcap,hb1⟩
 rw [HY.out]
 have hx:=hS q x HQ.out
 clear hS hlt hcap
 have HB1:Hid (Below w.heap.size w w1):=trans2 ((Below.refl _ _).alloc (Nat.le_refl _) _) hb1
 have HO1:Hid (w1.heap[w.heap.size]? = some (.cells #[.int .i64 (1),.string p,.string d,.int .i64 v,.int .i64 (2)] 66 (0,0))):=kept_block hb1 (heap_alloc_new _ _)
 obtain ⟨a0,a1,a2,a3,a4⟩:=cells_5 HO1.out
 clear hb1
 go_wp2_with fail
 go_ret
 exact ⟨rfl,HB1.out⟩
set_option maxHeartbeats 4000000 in
theorem st_1_2_some1 (s:Int) (p d:ByteArray) (v:Int) {ys:List ByteArray} {x:ByteArray} (w:World) (hp:parse p=(0,ys ++ [x])) (hx:x.size≤11) (hd:64<d.size) :
  Calls Tryz.prog 70 #[.int .i64 s,opV 1 p d v 2] w fun e w'=>e=.returned (.int .i64 45)∧Below w.heap.size w w':=by
 have hx1:¬ (11:Int)<(x.size:Int):=by omega
 clear hx
 have hd1:(64:Int)<(d.size:Int):=by omega
 clear hd
 have hpl:=parse_len hp
 obtain ⟨q,hq⟩:∃ q,ys.length=q:=⟨_,rfl⟩
 have hq6:q≤5:=by have:=hpl.1;simp at this;omega
 have HP:Hid (∀ W,_):=fun W=>refParse_some hp (by simp) W
 have HY:Hid ((ys ++ [x]).length=q+1):=(show (ys ++ [x]).length=q+1 by simp [hq])
 have HQ:Hid ((ys ++ [x])[q]? = some x):=(show (ys ++ [x])[q]? = some x by simp [← hq])
 have hq0:((q:Int)+1==0)=false:=by simp;omega
 have hq1:(0:Int)<(q:Int)+1:=by omega
 clear hpl hq
 clear hp
 go_enter Tryz.func70,Tryz.ntmps70
 go_wp2_with fail
 refine Calls.mono (HP.out _) ?_
 rintro e w1 ⟨b,o,c,rfl,hlt,hS,hcap,hb1⟩
 rw [HY.out]
 have hx:=hS q x HQ.out
 clear hS hlt hcap
 have HB1:Hid (Below w.heap.size w w1):=trans2 ((Below.refl _ _).alloc (Nat.le_refl _) _) hb1
 have HO1:Hid (w1.heap[w.heap.size]? = some (.cells #[.int .i64 (1),.string p,.string d,.int .i64 v,.int .i64 (2)] 66 (0,0))):=kept_block hb1 (heap_alloc_new _ _)
 obtain ⟨a0,a1,a2,a3,a4⟩:=cells_5 HO1.out
 clear hb1
 go_wp2_with fail
 go_ret
 exact ⟨rfl,HB1.out⟩
set_option maxHeartbeats 4000000 in
theorem st_1_2_some0 (s:Int) (p d:ByteArray) (v:Int) {ys:List ByteArray} {x:ByteArray} (w:World) (hp:parse p=(0,ys ++ [x])) (hx:x.size≤11) (hd:d.size≤64) :
  Calls Tryz.prog 70 #[.int .i64 s,opV 1 p d v 2] w fun e w'=>e=.returned (.int .i64 0)∧Below w.heap.size w w':=by
 have hx1:¬ (11:Int)<(x.size:Int):=by omega
 clear hx
 have hd1:¬ (64:Int)<(d.size:Int):=by omega
 clear hd
 have hpl:=parse_len hp
 obtain ⟨q,hq⟩:∃ q,ys.length=q:=⟨_,rfl⟩
 have hq6:q≤5:=by have:=hpl.1;simp at this;omega
 have HP:Hid (∀ W,_):=fun W=>refParse_some hp (by simp) W
 have HY:Hid ((ys ++ [x]).length=q+1):=(show (ys ++ [x]).length=q+1 by simp [hq])
 have HQ:Hid ((ys ++ [x])[q]? = some x):=(show (ys ++ [x])[q]? = some x by simp [← hq])
 have hq0:((q:Int)+1==0)=false:=by simp;omega
 have hq1:(0:Int)<(q:Int)+1:=by omega
 clear hpl hq
 clear hp
 go_enter Tryz.func70,Tryz.ntmps70
 go_wp2_with fail
 refine Calls.mono (HP.out _) ?_
 rintro e w1 ⟨b,o,c,rfl,hlt,hS,hcap,hb1⟩
 rw [HY.out]
 have hx:=hS q x HQ.out
 clear hS hlt hcap
 have HB1:Hid (Below w.heap.size w w1):=trans2 ((Below.refl _ _).alloc (Nat.le_refl _) _) hb1
 have HO1:Hid (w1.heap[w.heap.size]? = some (.cells #[.int .i64 (1),.string p,.string d,.int .i64 v,.int .i64 (2)] 66 (0,0))):=kept_block hb1 (heap_alloc_new _ _)
 obtain ⟨a0,a1,a2,a3,a4⟩:=cells_5 HO1.out
 clear hb1
 go_wp2_with fail
 go_ret
 exact ⟨rfl,HB1.out⟩
set_option maxHeartbeats 4000000 in
theorem st_1_3_err (s:Int) (p d:ByteArray) (v:Int) {code:Int} (w:World) (hp:parse p=(code,[])) (hc:code≠0) :
  Calls Tryz.prog 70 #[.int .i64 s,opV 1 p d v 3] w fun e w'=>e=.returned (.int .i64 10)∧Below w.heap.size w w':=by
 have e1:(code != 0)=true:=by simpa using hc
 clear hc
 have HP:Hid (∀ W,_):=fun W=>refParse_none hp W
 clear hp
 go_enter Tryz.func70,Tryz.ntmps70
 go_wp2_with fail
 refine Calls.mono (HP.out _) ?_
 rintro e w1 ⟨a,c,rfl,hb1⟩
 have HB1:Hid (Below w.heap.size w w1):=trans2 ((Below.refl _ _).alloc (Nat.le_refl _) _) hb1
 have HO1:Hid (w1.heap[w.heap.size]? = some (.cells #[.int .i64 (1),.string p,.string d,.int .i64 v,.int .i64 (3)] 66 (0,0))):=kept_block hb1 (heap_alloc_new _ _)
 obtain ⟨a0,a1,a2,a3,a4⟩:=cells_5 HO1.out
 clear hb1
 go_wp2_with fail
 go_ret
 exact ⟨rfl,HB1.out⟩
set_option maxHeartbeats 4000000 in
theorem st_1_3_root (s:Int) (p d:ByteArray) (v:Int) (w:World) (hp:parse p=(0,[])) :
  Calls Tryz.prog 70 #[.int .i64 s,opV 1 p d v 3] w fun e w'=>e=.returned (.int .i64 47)∧Below w.heap.size w w':=by
 have HP:Hid (∀ W,_):=fun W=>refParse_none hp W
 clear hp
 go_enter Tryz.func70,Tryz.ntmps70
 go_wp2_with fail
 refine Calls.mono (HP.out _) ?_
 rintro e w1 ⟨a,c,rfl,hb1⟩
 have HB1:Hid (Below w.heap.size w w1):=trans2 ((Below.refl _ _).alloc (Nat.le_refl _) _) hb1
 have HO1:Hid (w1.heap[w.heap.size]? = some (.cells #[.int .i64 (1),.string p,.string d,.int .i64 v,.int .i64 (3)] 66 (0,0))):=kept_block hb1 (heap_alloc_new _ _)
 obtain ⟨a0,a1,a2,a3,a4⟩:=cells_5 HO1.out
 clear hb1
 go_wp2_with fail
 go_ret
 exact ⟨rfl,HB1.out⟩
set_option maxHeartbeats 4000000 in
theorem st_1_3_long (s:Int) (p d:ByteArray) (v:Int) {ys:List ByteArray} {x:ByteArray} (w:World) (hp:parse p=(0,ys ++ [x])) (hx:11<x.size) :
  Calls Tryz.prog 70 #[.int .i64 s,opV 1 p d v 3] w fun e w'=>e=.returned (.int .i64 10)∧Below w.heap.size w w':=by
 have hx1:(11:Int)<(x.size:Int):=by omega
 clear hx
 have hpl:=parse_len hp
 obtain ⟨q,hq⟩:∃ q,ys.length=q:=⟨_,rfl⟩
 have hq6:q≤5:=by have:=hpl.1;simp at this;omega
 have HP:Hid (∀ W,_):=fun W=>refParse_some hp (by simp) W
 have HY:Hid ((ys ++ [x]).length=q+1):=(show (ys ++ [x]).length=q+1 by simp [hq])
 have HQ:Hid ((ys ++ [x])[q]? = some x):=(show (ys ++ [x])[q]? = some x by simp [← hq])
 have hq0:((q:Int)+1==0)=false:=by simp;omega
 have hq1:(0:Int)<(q:Int)+1:=by omega
 clear hpl hq
 clear hp
 go_enter Tryz.func70,Tryz.ntmps70
 go_wp2_with fail
 refine Calls.mono (HP.out _) ?_
 rintro e w1 ⟨b,o,c,rfl,hlt,hS,hcap,hb1⟩
 rw [HY.out]
 have hx:=hS q x HQ.out
 clear hS hlt hcap
 have HB1:Hid (Below w.heap.size w w1):=trans2 ((Below.refl _ _).alloc (Nat.le_refl _) _) hb1
 have HO1:Hid (w1.heap[w.heap.size]? = some (.cells #[.int .i64 (1),.string p,.string d,.int .i64 v,.int .i64 (3)] 66 (0,0))):=kept_block hb1 (heap_alloc_new _ _)
 obtain ⟨a0,a1,a2,a3,a4⟩:=cells_5 HO1.out
 clear hb1
 go_wp2_with fail
 go_ret
 exact ⟨rfl,HB1.out⟩
set_option maxHeartbeats 4000000 in
theorem st_1_3_brief (s:Int) (p d:ByteArray) (v:Int) {ys:List ByteArray} {x:ByteArray} (w:World) (hp:parse p=(0,ys ++ [x])) (hx:x.size≤11) (hs:s=0) :
  Calls Tryz.prog 70 #[.int .i64 s,opV 1 p d v 3] w fun e w'=>e=.returned (.int .i64 44)∧Below w.heap.size w w':=by
 have hx1:¬ (11:Int)<(x.size:Int):=by omega
 clear hx
 subst hs
 have hpl:=parse_len hp
 obtain ⟨q,hq⟩:∃ q,ys.length=q:=⟨_,rfl⟩
 have hq6:q≤5:=by have:=hpl.1;simp at this;omega
 have HP:Hid (∀ W,_):=fun W=>refParse_some hp (by simp) W
 have HY:Hid ((ys ++ [x]).length=q+1):=(show (ys ++ [x]).length=q+1 by simp [hq])
 have HQ:Hid ((ys ++ [x])[q]? = some x):=(show (ys ++ [x])[q]? = some x by simp [← hq])
 have hq0:((q:Int)+1==0)=false:=by simp;omega
 have hq1:(0:Int)<(q:Int)+1:=by omega
 clear hpl hq
 clear hp
 go_enter Tryz.func70,Tryz.ntmps70
 go_wp2_with fail
 refine Calls.mono (HP.out _) ?_
 rintro e w1 ⟨b,o,c,rfl,hlt,hS,hcap,hb1⟩
 rw [HY.out]
 have hx:=hS q x HQ.out
 clear hS hlt hcap
 have HB1:Hid (Below w.heap.size w w1):=trans2 ((Below.refl _ _).alloc (Nat.le_refl _) _) hb1
 have HO1:Hid (w1.heap[w.heap.size]? = some (.cells #[.int .i64 (1),.string p,.string d,.int .i64 v,.int .i64 (3)] 66 (0,0))):=kept_block hb1 (heap_alloc_new _ _)
 obtain ⟨a0,a1,a2,a3,a4⟩:=cells_5 HO1.out
 clear hb1
 go_wp2_with fail
 go_ret
 exact ⟨rfl,HB1.out⟩
set_option maxHeartbeats 4000000 in
theorem st_1_3_some1 (s:Int) (p d:ByteArray) (v:Int) {ys:List ByteArray} {x:ByteArray} (w:World) (hp:parse p=(0,ys ++ [x])) (hx:x.size≤11) (hs:s≠0) (hd:64<d.size) :
  Calls Tryz.prog 70 #[.int .i64 s,opV 1 p d v 3] w fun e w'=>e=.returned (.int .i64 45)∧Below w.heap.size w w':=by
 have hx1:¬ (11:Int)<(x.size:Int):=by omega
 clear hx
 have hs1:(s==0)=false:=by simpa using hs
 clear hs
 have hd1:(64:Int)<(d.size:Int):=by omega
 clear hd
 have hpl:=parse_len hp
 obtain ⟨q,hq⟩:∃ q,ys.length=q:=⟨_,rfl⟩
 have hq6:q≤5:=by have:=hpl.1;simp at this;omega
 have HP:Hid (∀ W,_):=fun W=>refParse_some hp (by simp) W
 have HY:Hid ((ys ++ [x]).length=q+1):=(show (ys ++ [x]).length=q+1 by simp [hq])
 have HQ:Hid ((ys ++ [x])[q]? = some x):=(show (ys ++ [x])[q]? = some x by simp [← hq])
 have hq0:((q:Int)+1==0)=false:=by simp;omega
 have hq1:(0:Int)<(q:Int)+1:=by omega
 clear hpl hq
 clear hp
 go_enter Tryz.func70,Tryz.ntmps70
 go_wp2_with fail
 refine Calls.mono (HP.out _) ?_
 rintro e w1 ⟨b,o,c,rfl,hlt,hS,hcap,hb1⟩
 rw [HY.out]
 have hx:=hS q x HQ.out
 clear hS hlt hcap
 have HB1:Hid (Below w.heap.size w w1):=trans2 ((Below.refl _ _).alloc (Nat.le_refl _) _) hb1
 have HO1:Hid (w1.heap[w.heap.size]? = some (.cells #[.int .i64 (1),.string p,.string d,.int .i64 v,.int .i64 (3)] 66 (0,0))):=kept_block hb1 (heap_alloc_new _ _)
 obtain ⟨a0,a1,a2,a3,a4⟩:=cells_5 HO1.out
 clear hb1
 go_wp2_with fail
 go_ret
 exact ⟨rfl,HB1.out⟩
set_option maxHeartbeats 4000000 in
theorem st_1_3_some0 (s:Int) (p d:ByteArray) (v:Int) {ys:List ByteArray} {x:ByteArray} (w:World) (hp:parse p=(0,ys ++ [x])) (hx:x.size≤11) (hs:s≠0) (hd:d.size≤64) :
  Calls Tryz.prog 70 #[.int .i64 s,opV 1 p d v 3] w fun e w'=>e=.returned (.int .i64 0)∧Below w.heap.size w w':=by
 have hx1:¬ (11:Int)<(x.size:Int):=by omega
 clear hx
 have hs1:(s==0)=false:=by simpa using hs
 clear hs
 have hd1:¬ (64:Int)<(d.size:Int):=by omega
 clear hd
 have hpl:=parse_len hp
 obtain ⟨q,hq⟩:∃ q,ys.length=q:=⟨_,rfl⟩
 have hq6:q≤5:=by have:=hpl.1;simp at this;omega
 have HP:Hid (∀ W,_):=fun W=>refParse_some hp (by simp) W
 have HY:Hid ((ys ++ [x]).length=q+1):=(show (ys ++ [x]).length=q+1 by simp [hq])
 have HQ:Hid ((ys ++ [x])[q]? = some x):=(show (ys ++ [x])[q]? = some x by simp [← hq])
 have hq0:((q:Int)+1==0)=false:=by simp;omega
 have hq1:(0:Int)<(q:Int)+1:=by omega
 clear hpl hq
 clear hp
 go_enter Tryz.func70,Tryz.ntmps70
 go_wp2_with fail
 refine Calls.mono (HP.out _) ?_
 rintro e w1 ⟨b,o,c,rfl,hlt,hS,hcap,hb1⟩
 rw [HY.out]
 have hx:=hS q x HQ.out
 clear hS hlt hcap
 have HB1:Hid (Below w.heap.size w w1):=trans2 ((Below.refl _ _).alloc (Nat.le_refl _) _) hb1
 have HO1:Hid (w1.heap[w.heap.size]? = some (.cells #[.int .i64 (1),.string p,.string d,.int .i64 v,.int .i64 (3)] 66 (0,0))):=kept_block hb1 (heap_alloc_new _ _)
 obtain ⟨a0,a1,a2,a3,a4⟩:=cells_5 HO1.out
 clear hb1
 go_wp2_with fail
 go_ret
 exact ⟨rfl,HB1.out⟩
set_option maxHeartbeats 4000000 in
theorem st_2_err (s:Int) (p d:ByteArray) (v:Int) (f:Int) {code:Int} (w:World) (hp:parse p=(code,[])) (hc:code≠0) :
  Calls Tryz.prog 70 #[.int .i64 s,opV 2 p d v f] w fun e w'=>e=.returned (.int .i64 10)∧Below w.heap.size w w':=by
 have e1:(code != 0)=true:=by simpa using hc
 clear hc
 have HP:Hid (∀ W,_):=fun W=>refParse_none hp W
 clear hp
 go_enter Tryz.func70,Tryz.ntmps70
 go_wp2_with fail
 refine Calls.mono (HP.out _) ?_
 rintro e w1 ⟨a,c,rfl,hb1⟩
 have HB1:Hid (Below w.heap.size w w1):=trans2 ((Below.refl _ _).alloc (Nat.le_refl _) _) hb1
 have HO1:Hid (w1.heap[w.heap.size]? = some (.cells #[.int .i64 (2),.string p,.string d,.int .i64 v,.int .i64 (f)] 66 (0,0))):=kept_block hb1 (heap_alloc_new _ _)
 obtain ⟨a0,a1,a2,a3,a4⟩:=cells_5 HO1.out
 clear hb1
 go_wp2_with fail
 go_ret
 exact ⟨rfl,HB1.out⟩
set_option maxHeartbeats 4000000 in
theorem st_2_root1 (s:Int) (p d:ByteArray) (v:Int) (f:Int) (w:World) (hp:parse p=(0,[])) (hd:64<d.size) :
  Calls Tryz.prog 70 #[.int .i64 s,opV 2 p d v f] w fun e w'=>e=.returned (.int .i64 45)∧Below w.heap.size w w':=by
 have hd1:(64:Int)<(d.size:Int):=by omega
 clear hd
 have HP:Hid (∀ W,_):=fun W=>refParse_none hp W
 clear hp
 go_enter Tryz.func70,Tryz.ntmps70
 go_wp2_with fail
 refine Calls.mono (HP.out _) ?_
 rintro e w1 ⟨a,c,rfl,hb1⟩
 have HB1:Hid (Below w.heap.size w w1):=trans2 ((Below.refl _ _).alloc (Nat.le_refl _) _) hb1
 have HO1:Hid (w1.heap[w.heap.size]? = some (.cells #[.int .i64 (2),.string p,.string d,.int .i64 v,.int .i64 (f)] 66 (0,0))):=kept_block hb1 (heap_alloc_new _ _)
 obtain ⟨a0,a1,a2,a3,a4⟩:=cells_5 HO1.out
 clear hb1
 go_wp2_with fail
 go_ret
 exact ⟨rfl,HB1.out⟩
set_option maxHeartbeats 4000000 in
theorem st_2_root0 (s:Int) (p d:ByteArray) (v:Int) (f:Int) (w:World) (hp:parse p=(0,[])) (hd:d.size≤64) :
  Calls Tryz.prog 70 #[.int .i64 s,opV 2 p d v f] w fun e w'=>e=.returned (.int .i64 0)∧Below w.heap.size w w':=by
 have hd1:¬ (64:Int)<(d.size:Int):=by omega
 clear hd
 have HP:Hid (∀ W,_):=fun W=>refParse_none hp W
 clear hp
 go_enter Tryz.func70,Tryz.ntmps70
 go_wp2_with fail
 refine Calls.mono (HP.out _) ?_
 rintro e w1 ⟨a,c,rfl,hb1⟩
 have HB1:Hid (Below w.heap.size w w1):=trans2 ((Below.refl _ _).alloc (Nat.le_refl _) _) hb1
 have HO1:Hid (w1.heap[w.heap.size]? = some (.cells #[.int .i64 (2),.string p,.string d,.int .i64 v,.int .i64 (f)] 66 (0,0))):=kept_block hb1 (heap_alloc_new _ _)
 obtain ⟨a0,a1,a2,a3,a4⟩:=cells_5 HO1.out
 clear hb1
 go_wp2_with fail
 go_ret
 exact ⟨rfl,HB1.out⟩
set_option maxHeartbeats 4000000 in
theorem st_2_some1 (s:Int) (p d:ByteArray) (v:Int) (f:Int) {ys:List ByteArray} {x:ByteArray} (w:World) (hp:parse p=(0,ys ++ [x])) (hd:64<d.size) :
  Calls Tryz.prog 70 #[.int .i64 s,opV 2 p d v f] w fun e w'=>e=.returned (.int .i64 45)∧Below w.heap.size w w':=by
 have hd1:(64:Int)<(d.size:Int):=by omega
 clear hd
 have hpl:=parse_len hp
 obtain ⟨q,hq⟩:∃ q,ys.length=q:=⟨_,rfl⟩
 have hq6:q≤5:=by have:=hpl.1;simp at this;omega
 have HP:Hid (∀ W,_):=fun W=>refParse_some hp (by simp) W
 have HY:Hid ((ys ++ [x]).length=q+1):=(show (ys ++ [x]).length=q+1 by simp [hq])
 have HQ:Hid ((ys ++ [x])[q]? = some x):=(show (ys ++ [x])[q]? = some x by simp [← hq])
 have hq0:((q:Int)+1==0)=false:=by simp;omega
 have hq1:(0:Int)<(q:Int)+1:=by omega
 clear hpl hq
 clear hp
 go_enter Tryz.func70,Tryz.ntmps70
 go_wp2_with fail
 refine Calls.mono (HP.out _) ?_
 rintro e w1 ⟨b,o,c,rfl,hlt,hS,hcap,hb1⟩
 rw [HY.out]
 have hx:=hS q x HQ.out
 clear hS hlt hcap
 have HB1:Hid (Below w.heap.size w w1):=trans2 ((Below.refl _ _).alloc (Nat.le_refl _) _) hb1
 have HO1:Hid (w1.heap[w.heap.size]? = some (.cells #[.int .i64 (2),.string p,.string d,.int .i64 v,.int .i64 (f)] 66 (0,0))):=kept_block hb1 (heap_alloc_new _ _)
 obtain ⟨a0,a1,a2,a3,a4⟩:=cells_5 HO1.out
 clear hb1
 go_wp2_with fail
 go_ret
 exact ⟨rfl,HB1.out⟩
set_option maxHeartbeats 4000000 in
theorem st_2_some0 (s:Int) (p d:ByteArray) (v:Int) (f:Int) {ys:List ByteArray} {x:ByteArray} (w:World) (hp:parse p=(0,ys ++ [x])) (hd:d.size≤64) :
  Calls Tryz.prog 70 #[.int .i64 s,opV 2 p d v f] w fun e w'=>e=.returned (.int .i64 0)∧Below w.heap.size w w':=by
 have hd1:¬ (64:Int)<(d.size:Int):=by omega
 clear hd
 have hpl:=parse_len hp
 obtain ⟨q,hq⟩:∃ q,ys.length=q:=⟨_,rfl⟩
 have hq6:q≤5:=by have:=hpl.1;simp at this;omega
 have HP:Hid (∀ W,_):=fun W=>refParse_some hp (by simp) W
 have HY:Hid ((ys ++ [x]).length=q+1):=(show (ys ++ [x]).length=q+1 by simp [hq])
 have HQ:Hid ((ys ++ [x])[q]? = some x):=(show (ys ++ [x])[q]? = some x by simp [← hq])
 have hq0:((q:Int)+1==0)=false:=by simp;omega
 have hq1:(0:Int)<(q:Int)+1:=by omega
 clear hpl hq
 clear hp
 go_enter Tryz.func70,Tryz.ntmps70
 go_wp2_with fail
 refine Calls.mono (HP.out _) ?_
 rintro e w1 ⟨b,o,c,rfl,hlt,hS,hcap,hb1⟩
 rw [HY.out]
 have hx:=hS q x HQ.out
 clear hS hlt hcap
 have HB1:Hid (Below w.heap.size w w1):=trans2 ((Below.refl _ _).alloc (Nat.le_refl _) _) hb1
 have HO1:Hid (w1.heap[w.heap.size]? = some (.cells #[.int .i64 (2),.string p,.string d,.int .i64 v,.int .i64 (f)] 66 (0,0))):=kept_block hb1 (heap_alloc_new _ _)
 obtain ⟨a0,a1,a2,a3,a4⟩:=cells_5 HO1.out
 clear hb1
 go_wp2_with fail
 go_ret
 exact ⟨rfl,HB1.out⟩
set_option maxHeartbeats 4000000 in
theorem st_3_err (s:Int) (p d:ByteArray) (v:Int) (f:Int) {code:Int} (w:World) (hp:parse p=(code,[])) (hc:code≠0) :
  Calls Tryz.prog 70 #[.int .i64 s,opV 3 p d v f] w fun e w'=>e=.returned (.int .i64 10)∧Below w.heap.size w w':=by
 have e1:(code != 0)=true:=by simpa using hc
 clear hc
 have HP:Hid (∀ W,_):=fun W=>refParse_none hp W
 clear hp
 go_enter Tryz.func70,Tryz.ntmps70
 go_wp2_with fail
 refine Calls.mono (HP.out _) ?_
 rintro e w1 ⟨a,c,rfl,hb1⟩
 have HB1:Hid (Below w.heap.size w w1):=trans2 ((Below.refl _ _).alloc (Nat.le_refl _) _) hb1
 have HO1:Hid (w1.heap[w.heap.size]? = some (.cells #[.int .i64 (3),.string p,.string d,.int .i64 v,.int .i64 (f)] 66 (0,0))):=kept_block hb1 (heap_alloc_new _ _)
 obtain ⟨a0,a1,a2,a3,a4⟩:=cells_5 HO1.out
 clear hb1
 go_wp2_with fail
 go_ret
 exact ⟨rfl,HB1.out⟩
set_option maxHeartbeats 4000000 in
theorem st_3_root (s:Int) (p d:ByteArray) (v:Int) (f:Int) (w:World) (hp:parse p=(0,[])) :
  Calls Tryz.prog 70 #[.int .i64 s,opV 3 p d v f] w fun e w'=>e=.returned (.int .i64 47)∧Below w.heap.size w w':=by
 have HP:Hid (∀ W,_):=fun W=>refParse_none hp W
 clear hp
 go_enter Tryz.func70,Tryz.ntmps70
 go_wp2_with fail
 refine Calls.mono (HP.out _) ?_
 rintro e w1 ⟨a,c,rfl,hb1⟩
 have HB1:Hid (Below w.heap.size w w1):=trans2 ((Below.refl _ _).alloc (Nat.le_refl _) _) hb1
 have HO1:Hid (w1.heap[w.heap.size]? = some (.cells #[.int .i64 (3),.string p,.string d,.int .i64 v,.int .i64 (f)] 66 (0,0))):=kept_block hb1 (heap_alloc_new _ _)
 obtain ⟨a0,a1,a2,a3,a4⟩:=cells_5 HO1.out
 clear hb1
 go_wp2_with fail
 go_ret
 exact ⟨rfl,HB1.out⟩
set_option maxHeartbeats 4000000 in
theorem st_3_some (s:Int) (p d:ByteArray) (v:Int) (f:Int) {ys:List ByteArray} {x:ByteArray} (w:World) (hp:parse p=(0,ys ++ [x])) :
  Calls Tryz.prog 70 #[.int .i64 s,opV 3 p d v f] w fun e w'=>e=.returned (.int .i64 0)∧Below w.heap.size w w':=by
 have hpl:=parse_len hp
 obtain ⟨q,hq⟩:∃ q,ys.length=q:=⟨_,rfl⟩
 have hq6:q≤5:=by have:=hpl.1;simp at this;omega
 have HP:Hid (∀ W,_):=fun W=>refParse_some hp (by simp) W
 have HY:Hid ((ys ++ [x]).length=q+1):=(show (ys ++ [x]).length=q+1 by simp [hq])
 have HQ:Hid ((ys ++ [x])[q]? = some x):=(show (ys ++ [x])[q]? = some x by simp [← hq])
 have hq0:((q:Int)+1==0)=false:=by simp;omega
 have hq1:(0:Int)<(q:Int)+1:=by omega
 clear hpl hq
 clear hp
 go_enter Tryz.func70,Tryz.ntmps70
 go_wp2_with fail
 refine Calls.mono (HP.out _) ?_
 rintro e w1 ⟨b,o,c,rfl,hlt,hS,hcap,hb1⟩
 rw [HY.out]
 have hx:=hS q x HQ.out
 clear hS hlt hcap
 have HB1:Hid (Below w.heap.size w w1):=trans2 ((Below.refl _ _).alloc (Nat.le_refl _) _) hb1
 have HO1:Hid (w1.heap[w.heap.size]? = some (.cells #[.int .i64 (3),.string p,.string d,.int .i64 v,.int .i64 (f)] 66 (0,0))):=kept_block hb1 (heap_alloc_new _ _)
 obtain ⟨a0,a1,a2,a3,a4⟩:=cells_5 HO1.out
 clear hb1
 go_wp2_with fail
 go_ret
 exact ⟨rfl,HB1.out⟩
set_option maxHeartbeats 4000000 in
theorem st_o_err (s:Int) (p d:ByteArray) (v:Int) (k f:Int) {code:Int} (w:World) (hk:4≤k∧k≤7) (hp:parse p=(code,[])) (hc:code≠0) :
  Calls Tryz.prog 70 #[.int .i64 s,opV k p d v f] w fun e w'=>e=.returned (.int .i64 10)∧Below w.heap.size w w':=by
 have k1:¬ k<1:=by omega
 have k7:¬ 7<k:=by omega
 have ke1:(k==1)=false:=by simp;omega
 have ke2:(k==2)=false:=by simp;omega
 have ke3:(k==3)=false:=by simp;omega
 clear hk
 have e1:(code != 0)=true:=by simpa using hc
 clear hc
 have HP:Hid (∀ W,_):=fun W=>refParse_none hp W
 clear hp
 go_enter Tryz.func70,Tryz.ntmps70
 go_wp2_with fail
 refine Calls.mono (HP.out _) ?_
 rintro e w1 ⟨a,c,rfl,hb1⟩
 have HB1:Hid (Below w.heap.size w w1):=trans2 ((Below.refl _ _).alloc (Nat.le_refl _) _) hb1
 have HO1:Hid (w1.heap[w.heap.size]? = some (.cells #[.int .i64 (k),.string p,.string d,.int .i64 v,.int .i64 (f)] 66 (0,0))):=kept_block hb1 (heap_alloc_new _ _)
 obtain ⟨a0,a1,a2,a3,a4⟩:=cells_5 HO1.out
 clear hb1
 go_wp2_with fail
 go_ret
 exact ⟨rfl,HB1.out⟩
set_option maxHeartbeats 4000000 in
theorem st_o_root (s:Int) (p d:ByteArray) (v:Int) (k f:Int) (w:World) (hk:4≤k∧k≤7) (hp:parse p=(0,[])) :
  Calls Tryz.prog 70 #[.int .i64 s,opV k p d v f] w fun e w'=>e=.returned (.int .i64 0)∧Below w.heap.size w w':=by
 have k1:¬ k<1:=by omega
 have k7:¬ 7<k:=by omega
 have ke1:(k==1)=false:=by simp;omega
 have ke2:(k==2)=false:=by simp;omega
 have ke3:(k==3)=false:=by simp;omega
 clear hk
 have HP:Hid (∀ W,_):=fun W=>refParse_none hp W
 clear hp
 go_enter Tryz.func70,Tryz.ntmps70
 go_wp2_with fail
 refine Calls.mono (HP.out _) ?_
 rintro e w1 ⟨a,c,rfl,hb1⟩
 have HB1:Hid (Below w.heap.size w w1):=trans2 ((Below.refl _ _).alloc (Nat.le_refl _) _) hb1
 have HO1:Hid (w1.heap[w.heap.size]? = some (.cells #[.int .i64 (k),.string p,.string d,.int .i64 v,.int .i64 (f)] 66 (0,0))):=kept_block hb1 (heap_alloc_new _ _)
 obtain ⟨a0,a1,a2,a3,a4⟩:=cells_5 HO1.out
 clear hb1
 go_wp2_with fail
 go_ret
 exact ⟨rfl,HB1.out⟩
set_option maxHeartbeats 4000000 in
theorem st_o_some (s:Int) (p d:ByteArray) (v:Int) (k f:Int) {ys:List ByteArray} {x:ByteArray} (w:World) (hk:4≤k∧k≤7) (hp:parse p=(0,ys ++ [x])) :
  Calls Tryz.prog 70 #[.int .i64 s,opV k p d v f] w fun e w'=>e=.returned (.int .i64 0)∧Below w.heap.size w w':=by
 have k1:¬ k<1:=by omega
 have k7:¬ 7<k:=by omega
 have ke1:(k==1)=false:=by simp;omega
 have ke2:(k==2)=false:=by simp;omega
 have ke3:(k==3)=false:=by simp;omega
 clear hk
 have hpl:=parse_len hp
 obtain ⟨q,hq⟩:∃ q,ys.length=q:=⟨_,rfl⟩
 have hq6:q≤5:=by have:=hpl.1;simp at this;omega
 have HP:Hid (∀ W,_):=fun W=>refParse_some hp (by simp) W
 have HY:Hid ((ys ++ [x]).length=q+1):=(show (ys ++ [x]).length=q+1 by simp [hq])
 have HQ:Hid ((ys ++ [x])[q]? = some x):=(show (ys ++ [x])[q]? = some x by simp [← hq])
 have hq0:((q:Int)+1==0)=false:=by simp;omega
 have hq1:(0:Int)<(q:Int)+1:=by omega
 clear hpl hq
 clear hp
 go_enter Tryz.func70,Tryz.ntmps70
 go_wp2_with fail
 refine Calls.mono (HP.out _) ?_
 rintro e w1 ⟨b,o,c,rfl,hlt,hS,hcap,hb1⟩
 rw [HY.out]
 have hx:=hS q x HQ.out
 clear hS hlt hcap
 have HB1:Hid (Below w.heap.size w w1):=trans2 ((Below.refl _ _).alloc (Nat.le_refl _) _) hb1
 have HO1:Hid (w1.heap[w.heap.size]? = some (.cells #[.int .i64 (k),.string p,.string d,.int .i64 v,.int .i64 (f)] 66 (0,0))):=kept_block hb1 (heap_alloc_new _ _)
 obtain ⟨a0,a1,a2,a3,a4⟩:=cells_5 HO1.out
 clear hb1
 go_wp2_with fail
 go_ret
 exact ⟨rfl,HB1.out⟩
theorem refStatic_any (s k:Int) (p d:ByteArray) (v f:Int) (w:World) :
  Calls Tryz.prog 70 #[.int .i64 s,opV k p d v f] w fun e w'=>e=.returned (.int .i64 (malC s k p d f))∧Below w.heap.size w w':=by
 by_cases h1:k<1
 · rw [show malC s k p d f=48 by simp [malC,h1]];exact st_lo s p d v k f w h1
 by_cases h7:7<k
 · rw [show malC s k p d f=48 by simp [malC,h7]];exact st_hi s p d v k f w h7
 obtain ⟨code,xs,hp⟩:∃ code xs,parse p=(code,xs):=⟨_,_,rfl⟩
 have hk:¬ (k<1∨7<k):=by omega
 by_cases h:k=1
 · subst h
   by_cases f0:f<0
   · rw [show malC s 1 p d f=48 by simp [malC];omega];exact st_flo s p d v f w f0
   by_cases f3:3<f
   · rw [show malC s 1 p d f=48 by simp [malC];omega];exact st_fhi s p d v f w f3
   rcases (show f=0∨f=1∨f=2∨f=3 by omega) with rfl | rfl | rfl | rfl
   · by_cases hc:code=0
     · subst hc
       rcases List.eq_nil_or_concat xs with rfl | ⟨ys,x,rfl⟩
       · have hr:=is_root hp
         have hl:lastN p=⟨#[]⟩:=by simp [lastN,hp]
         rw [show malC s 1 p d 0=47 by simp [malC,hr,parse_47];try (rw [← hr,hl];decide)];exact st_1_0_root s p d v w hp
       · rw [List.concat_eq_append] at hp
         have hr:=not_root hp (by simp)
         have hl:lastN p=x:=by simp [lastN,hp]
         by_cases hd:64<d.size
         · rw [show malC s 1 p d 0=45 by simp [malC,hp,hr,hl,hd]];exact st_1_0_some1 s p d v w hp hd
         · rw [show malC s 1 p d 0=0 by simp [malC,hp,hr,hl,hd]];exact st_1_0_some0 s p d v w hp (by omega)
     · have hx:=parse_code hp hc
       subst hx
       rw [show malC s 1 p d 0=10 by simp [malC,hp,hc]];exact st_1_0_err s p d v w hp hc
   · by_cases hc:code=0
     · subst hc
       rcases List.eq_nil_or_concat xs with rfl | ⟨ys,x,rfl⟩
       · have hr:=is_root hp
         have hl:lastN p=⟨#[]⟩:=by simp [lastN,hp]
         rw [show malC s 1 p d 1=47 by simp [malC,hr,parse_47];try (rw [← hr,hl];decide)];exact st_1_1_root s p d v w hp
       · rw [List.concat_eq_append] at hp
         have hr:=not_root hp (by simp)
         have hl:lastN p=x:=by simp [lastN,hp]
         by_cases hs:s=0
         · rw [show malC s 1 p d 1=44 by simp [malC,hp,hr,hl,hs]];exact st_1_1_brief s p d v w hp hs
         by_cases hd:64<d.size
         · rw [show malC s 1 p d 1=45 by simp [malC,hp,hr,hl,hs,hd]];exact st_1_1_some1 s p d v w hp hs hd
         · rw [show malC s 1 p d 1=0 by simp [malC,hp,hr,hl,hs,hd]];exact st_1_1_some0 s p d v w hp hs (by omega)
     · have hx:=parse_code hp hc
       subst hx
       rw [show malC s 1 p d 1=10 by simp [malC,hp,hc]];exact st_1_1_err s p d v w hp hc
   · by_cases hc:code=0
     · subst hc
       rcases List.eq_nil_or_concat xs with rfl | ⟨ys,x,rfl⟩
       · have hr:=is_root hp
         have hl:lastN p=⟨#[]⟩:=by simp [lastN,hp]
         rw [show malC s 1 p d 2=47 by simp [malC,hr,parse_47];try (rw [← hr,hl];decide)];exact st_1_2_root s p d v w hp
       · rw [List.concat_eq_append] at hp
         have hr:=not_root hp (by simp)
         have hl:lastN p=x:=by simp [lastN,hp]
         by_cases hx:11<x.size
         · rw [show malC s 1 p d 2=10 by simp [malC,hp,hr,hl,hx]];exact st_1_2_long s p d v w hp hx
         by_cases hd:64<d.size
         · rw [show malC s 1 p d 2=45 by simp [malC,hp,hr,hl,hx,hd]];exact st_1_2_some1 s p d v w hp (by omega) hd
         · rw [show malC s 1 p d 2=0 by simp [malC,hp,hr,hl,hx,hd]];exact st_1_2_some0 s p d v w hp (by omega) (by omega)
     · have hx:=parse_code hp hc
       subst hx
       rw [show malC s 1 p d 2=10 by simp [malC,hp,hc]];exact st_1_2_err s p d v w hp hc
   · by_cases hc:code=0
     · subst hc
       rcases List.eq_nil_or_concat xs with rfl | ⟨ys,x,rfl⟩
       · have hr:=is_root hp
         have hl:lastN p=⟨#[]⟩:=by simp [lastN,hp]
         rw [show malC s 1 p d 3=47 by simp [malC,hr,parse_47];try (rw [← hr,hl];decide)];exact st_1_3_root s p d v w hp
       · rw [List.concat_eq_append] at hp
         have hr:=not_root hp (by simp)
         have hl:lastN p=x:=by simp [lastN,hp]
         by_cases hx:11<x.size
         · rw [show malC s 1 p d 3=10 by simp [malC,hp,hr,hl,hx]];exact st_1_3_long s p d v w hp hx
         by_cases hs:s=0
         · rw [show malC s 1 p d 3=44 by simp [malC,hp,hr,hl,hx,hs]];exact st_1_3_brief s p d v w hp (by omega) hs
         by_cases hd:64<d.size
         · rw [show malC s 1 p d 3=45 by simp [malC,hp,hr,hl,hx,hs,hd]];exact st_1_3_some1 s p d v w hp (by omega) hs hd
         · rw [show malC s 1 p d 3=0 by simp [malC,hp,hr,hl,hx,hs,hd]];exact st_1_3_some0 s p d v w hp (by omega) hs (by omega)
     · have hx:=parse_code hp hc
       subst hx
       rw [show malC s 1 p d 3=10 by simp [malC,hp,hc]];exact st_1_3_err s p d v w hp hc
 by_cases h2:k=2
 · subst h2
   by_cases hc:code=0
   · subst hc
     rcases List.eq_nil_or_concat xs with rfl | ⟨ys,x,rfl⟩
     · have hr:=is_root hp
       have hl:lastN p=⟨#[]⟩:=by simp [lastN,hp]
       by_cases hd:64<d.size
       · rw [show malC s 2 p d f=45 by simp [malC,hp,hd]];exact st_2_root1 s p d v f w hp hd
       · rw [show malC s 2 p d f=0 by simp [malC,hp,hd]];exact st_2_root0 s p d v f w hp (by omega)
     · rw [List.concat_eq_append] at hp
       have hr:=not_root hp (by simp)
       have hl:lastN p=x:=by simp [lastN,hp]
       by_cases hd:64<d.size
       · rw [show malC s 2 p d f=45 by simp [malC,hp,hr,hl,hd]];exact st_2_some1 s p d v f w hp hd
       · rw [show malC s 2 p d f=0 by simp [malC,hp,hr,hl,hd]];exact st_2_some0 s p d v f w hp (by omega)
   · have hx:=parse_code hp hc
     subst hx
     rw [show malC s 2 p d f=10 by simp [malC,hp,hc]];exact st_2_err s p d v f w hp hc
 by_cases h3:k=3
 · subst h3
   by_cases hc:code=0
   · subst hc
     rcases List.eq_nil_or_concat xs with rfl | ⟨ys,x,rfl⟩
     · have hr:=is_root hp
       have hl:lastN p=⟨#[]⟩:=by simp [lastN,hp]
       rw [show malC s 3 p d f=47 by simp [malC,hr,parse_47]];exact st_3_root s p d v f w hp
     · rw [List.concat_eq_append] at hp
       have hr:=not_root hp (by simp)
       have hl:lastN p=x:=by simp [lastN,hp]
       rw [show malC s 3 p d f=0 by simp [malC,hp,hr,hl]];exact st_3_some s p d v f w hp
   · have hx:=parse_code hp hc
     subst hx
     rw [show malC s 3 p d f=10 by simp [malC,hp,hc]];exact st_3_err s p d v f w hp hc
 have k1:=h
 have k2:=h2
 have k3:=h3
 by_cases hc:code=0
 · subst hc
   rcases List.eq_nil_or_concat xs with rfl | ⟨ys,x,rfl⟩
   · have hr:=is_root hp
     have hl:lastN p=⟨#[]⟩:=by simp [lastN,hp]
     rw [show malC s k p d f=0 by simp [malC,hk,hr,parse_47,k1,k2,k3]];exact st_o_root s p d v k f w ⟨by omega,by omega⟩ hp
   · rw [List.concat_eq_append] at hp
     have hr:=not_root hp (by simp)
     have hl:lastN p=x:=by simp [lastN,hp]
     rw [show malC s k p d f=0 by simp [malC,hk,hp,hr,hl,k1,k2,k3]];exact st_o_some s p d v k f w ⟨by omega,by omega⟩ hp
 · have hx:=parse_code hp hc
   subst hx
   rw [show malC s k p d f=10 by simp [malC,hk,hp,hc,k1,k2,k3]];exact st_o_err s p d v k f w ⟨by omega,by omega⟩ hp hc
end Go.Proofs.YtckmihplkhmpnaaGreatDoor
