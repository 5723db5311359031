/-
  note: an op, a list of ops, an entry, read.
-/
import Derived.Test.YtdjfeomdiljaeaaGreatDoorNtRp
import Derived.Test.YtdjfeomdiljaeaaGreatDoorNtCk1
import Derived.Test.YtdjfeomdiljaeaaGreatDoorNtEe
import Derived.Test.YtdjfeomdiljaeaaGreatDoorNtApp
namespace Go.Proofs.YtdjfeomdiljaeaaGreatDoor
open Go.RowKit
set_option linter.unusedVariables false
set_option linter.unusedSimpArgs false

set_option maxHeartbeats 3200000 in
set_option maxRecDepth 100000 in
theorem rd_op (w0 : World) (br : Nat) (a : Option Addr) (c : Nat) (xs : List Int) (p : Nat) (w : World) (hc : RdC w0 br a c xs) (h : RdS 78 w0 w br a c xs p) :
    Calls Tryz.prog 79 #[.pointer (some ⟨br, 0, none⟩)] w (RdE w0 br a c xs p opL OpG OpN.val noP w) := by
  obtain ⟨w1, hw1⟩ : ∃ w1, w.alloc (.cells #[.int .i64 0, .string ⟨#[]⟩, .string ⟨#[]⟩, .int .i64 0, .int .i64 0] 60) = w1 := ⟨_, rfl⟩
  have HW : Hid (w.alloc (.cells #[.int .i64 0, .string ⟨#[]⟩, .string ⟨#[]⟩, .int .i64 0, .int .i64 0] 60) = w1) := hw1
  have HB1 : Hid (Below w.heap.size w w1) := by rw [← hw1]; exact (Below.refl _ _).alloc (Nat.le_refl _) _
  have HX0 : Hid (w1.heap[w.heap.size]? = some (.cells #[.int .i64 0, .string ⟨#[]⟩, .string ⟨#[]⟩, .int .i64 0, .int .i64 0] 60 (0, 0))) := by show _ = _; rw [← hw1]; exact heap_alloc_new _ _
  have HR0 : Hid (RdS 78 w0 w1 br a c xs p) := h.ext HB1.out
  have HCH0 : Hid (Chg w w1 (fun j => j = br)) := Chg.of_below HB1.out _
  have HC : Hid (RdC w0 br a c xs) := hc
  have HGE : Hid (w0.heap.size ≤ w.heap.size) := h.chg.size
  have HNE : Hid (w.heap.size ≠ br) := by show _ ≠ _; have := hc.lt; have := h.chg.size; omega
  clear hw1 hc h
  go_enter Tryz.func79, Tryz.ntmps79
  go_upto_region 1 with fail
  rw [HW.out]
  go_wp2_with (first
    | (have hq := HR4; clear hq; go_at_call 64; refine Calls.mono (rd_number w0 br a c xs q4 _ HC.out HR4.out) ?_
       rintro e w6 (⟨x4, q5, rfl, hg, hs, hr, hch, hpp⟩ | ⟨rfl, hno, hch⟩)
       rotate_left
       · refine ⟨rfl, .inr ⟨rfl, fun y r hy hd => ?_, HCH4.out.trans hch⟩⟩
         exact by
           obtain ⟨hy0, hy1, hy2, hy3, hy4⟩ := hy
           unfold opL at hd
           simp only [List.append_assoc] at hd
           rw [HS0.out.1] at hd
           have hd := (nm_pre HG0.out hy0 hd).2
           rw [HS1.out.1] at hd
           have hd := (tx_pre HG1.out hy1 hd).2
           rw [HS2.out.1] at hd
           have hd := (tx_pre HG2.out hy2 hd).2
           rw [HS3.out.1] at hd
           have hd := (vr_pre HG3.out hy3 hd).2
           exact hno y.fl _ (hy4) hd
       have HG4 : Hid _ := hg
       have HS4 : Hid _ := hs
       have HP4 : Hid _ := hpp
       have HR5 : Hid (RdS 78 w0 w6 br a c xs q5) := hr
       have HCH5 : Hid (Chg w w6 (fun j => j = br)) := HCH4.out.trans hch
       have HX5 : Hid (w6.heap[w.heap.size]? = some (.cells #[.int .i64 0, .string ⟨#[]⟩, .string ⟨#[]⟩, .int .i64 0, .int .i64 0] 60 (0, 0))) := by show _ = _; rw [hch.block _ (lt_of_blk HX4.out) HNE.out]; exact HX4.out
       clear hg hs hr hch hpp)
    | (have hq := HR3; clear hq; go_at_call 110; refine Calls.mono (rd_version w0 br a c xs q3 _ HC.out HR3.out) ?_
       rintro e w5 (⟨x3, q4, rfl, hg, hs, hr, hch, hpp⟩ | ⟨rfl, hno, hch⟩)
       rotate_left
       · refine ⟨rfl, .inr ⟨rfl, fun y r hy hd => ?_, HCH3.out.trans hch⟩⟩
         exact by
           obtain ⟨hy0, hy1, hy2, hy3, hy4⟩ := hy
           unfold opL at hd
           simp only [List.append_assoc] at hd
           rw [HS0.out.1] at hd
           have hd := (nm_pre HG0.out hy0 hd).2
           rw [HS1.out.1] at hd
           have hd := (tx_pre HG1.out hy1 hd).2
           rw [HS2.out.1] at hd
           have hd := (tx_pre HG2.out hy2 hd).2
           exact hno y.v _ (hy3) hd
       have HG3 : Hid _ := hg
       have HS3 : Hid _ := hs
       have HP3 : Hid _ := hpp
       have HR4 : Hid (RdS 78 w0 w5 br a c xs q4) := hr
       have HCH4 : Hid (Chg w w5 (fun j => j = br)) := HCH3.out.trans hch
       have HX4 : Hid (w5.heap[w.heap.size]? = some (.cells #[.int .i64 0, .string ⟨#[]⟩, .string ⟨#[]⟩, .int .i64 0, .int .i64 0] 60 (0, 0))) := by show _ = _; rw [hch.block _ (lt_of_blk HX3.out) HNE.out]; exact HX3.out
       clear hg hs hr hch hpp)
    | (have hq := HR2; clear hq; go_at_call 109; refine Calls.mono (rd_text w0 br a c xs q2 _ HC.out HR2.out) ?_
       rintro e w4 (⟨x2, q3, rfl, hg, hs, hr, hch, hpp⟩ | ⟨rfl, hno, hch⟩)
       rotate_left
       · refine ⟨rfl, .inr ⟨rfl, fun y r hy hd => ?_, HCH2.out.trans hch⟩⟩
         exact by
           obtain ⟨hy0, hy1, hy2, hy3, hy4⟩ := hy
           unfold opL at hd
           simp only [List.append_assoc] at hd
           rw [HS0.out.1] at hd
           have hd := (nm_pre HG0.out hy0 hd).2
           rw [HS1.out.1] at hd
           have hd := (tx_pre HG1.out hy1 hd).2
           exact hno y.d _ (hy2) hd
       have HG2 : Hid _ := hg
       have HS2 : Hid _ := hs
       have HP2 : Hid _ := hpp
       have HR3 : Hid (RdS 78 w0 w4 br a c xs q3) := hr
       have HCH3 : Hid (Chg w w4 (fun j => j = br)) := HCH2.out.trans hch
       have HX3 : Hid (w4.heap[w.heap.size]? = some (.cells #[.int .i64 0, .string ⟨#[]⟩, .string ⟨#[]⟩, .int .i64 0, .int .i64 0] 60 (0, 0))) := by show _ = _; rw [hch.block _ (lt_of_blk HX2.out) HNE.out]; exact HX2.out
       clear hg hs hr hch hpp)
    | (have hq := HR1; clear hq; go_at_call 109; refine Calls.mono (rd_text w0 br a c xs q1 _ HC.out HR1.out) ?_
       rintro e w3 (⟨x1, q2, rfl, hg, hs, hr, hch, hpp⟩ | ⟨rfl, hno, hch⟩)
       rotate_left
       · refine ⟨rfl, .inr ⟨rfl, fun y r hy hd => ?_, HCH1.out.trans hch⟩⟩
         exact by
           obtain ⟨hy0, hy1, hy2, hy3, hy4⟩ := hy
           unfold opL at hd
           simp only [List.append_assoc] at hd
           rw [HS0.out.1] at hd
           have hd := (nm_pre HG0.out hy0 hd).2
           exact hno y.p _ (hy1) hd
       have HG1 : Hid _ := hg
       have HS1 : Hid _ := hs
       have HP1 : Hid _ := hpp
       have HR2 : Hid (RdS 78 w0 w3 br a c xs q2) := hr
       have HCH2 : Hid (Chg w w3 (fun j => j = br)) := HCH1.out.trans hch
       have HX2 : Hid (w3.heap[w.heap.size]? = some (.cells #[.int .i64 0, .string ⟨#[]⟩, .string ⟨#[]⟩, .int .i64 0, .int .i64 0] 60 (0, 0))) := by show _ = _; rw [hch.block _ (lt_of_blk HX1.out) HNE.out]; exact HX1.out
       clear hg hs hr hch hpp)
    | (have hq := HR0; clear hq; go_at_call 64; refine Calls.mono (rd_number w0 br a c xs p _ HC.out HR0.out) ?_
       rintro e w2 (⟨x0, q1, rfl, hg, hs, hr, hch, hpp⟩ | ⟨rfl, hno, hch⟩)
       rotate_left
       · refine ⟨rfl, .inr ⟨rfl, fun y r hy hd => ?_, HCH0.out.trans hch⟩⟩
         exact by
           obtain ⟨hy0, hy1, hy2, hy3, hy4⟩ := hy
           unfold opL at hd
           simp only [List.append_assoc] at hd
           exact hno y.K _ (hy0) hd
       have HG0 : Hid _ := hg
       have HS0 : Hid _ := hs
       have HP0 : Hid _ := hpp
       have HR1 : Hid (RdS 78 w0 w2 br a c xs q1) := hr
       have HCH1 : Hid (Chg w w2 (fun j => j = br)) := HCH0.out.trans hch
       have HX1 : Hid (w2.heap[w.heap.size]? = some (.cells #[.int .i64 0, .string ⟨#[]⟩, .string ⟨#[]⟩, .int .i64 0, .int .i64 0] 60 (0, 0))) := by show _ = _; rw [hch.block _ (lt_of_blk HX0.out) HNE.out]; exact HX0.out
       clear hg hs hr hch hpp)
    | (refine wpList_store_row rfl 60 _ _ rfl w.heap.size #[.int .i64 x0, .string x1, .string x2, .int .i64 x3, .int .i64 x4] rfl rfl 60 _ HX5.out (by kernel_rfl) rfl (by first | kernel_rfl | (simp; rfl) | simp [Value.oneCell']) ?_)
    | fail)
  refine bodyPost_ret (results_cell1 rfl _ _ w.heap.size 60 _ (0, 0) _ rfl (row_setA HX5.out) Tryz.underlying60 rfl (by kernel_rfl)) rfl ?_
  have hlow : Below w.heap.size w6 (w6.setRow w.heap.size #[.int .i64 x0, .string x1, .string x2, .int .i64 x3, .int .i64 x4]) := (row_chgA HX5.out).below (Nat.le_of_lt (lt_of_blk HX5.out)) (fun k _ e => by omega)
  refine .inl ⟨⟨x0, x1, x2, x3, x4⟩, q5, rfl, ⟨HG0.out, HG1.out, HG2.out, HG3.out, HG4.out⟩, ?_, HR5.out.row HX5.out HGE.out HC.out.lt, HCH5.out.low hlow (Nat.le_refl _), trivial⟩
  exact Sd.trans HS0.out (Sd.trans HS1.out (Sd.trans HS2.out (Sd.trans HS3.out (HS4.out))))
abbrev LsT (E : Type) := Option Addr × Nat × List E
abbrev lsV {E : Type} (t : LsT E) : Value := .slice t.1 t.2.2.length t.2.1
abbrev lsEnc {E : Type} (f : E → List Int) (t : LsT E) : List Int := lsL f t.2.2
abbrev lsG {E : Type} (G : E → Prop) (t : LsT E) : Prop := inN (t.2.2.length : Int) ∧ ∀ x ∈ t.2.2, G x
theorem Tryz.infoOp : (Tryz.prog.info? 60).map (fun i => (i.zero, i.size, i.bytes)) = some (some (.agg #[.int .i64 0, .string ⟨#[]⟩, .string ⟨#[]⟩, .int .i64 0, .int .i64 0]), 5, 56) := by kernel_rfl
abbrev opCs (L : List OpN) : List Value := L.flatMap OpN.cl
theorem op_one (x : OpN) : ∀ v ∈ x.cl, v.oneCell' = true := by
  intro v hv
  simp at hv
  rcases hv with rfl | rfl | rfl | rfl | rfl <;> rfl
theorem wpList_appOp {w : World} {ops : Array Oper} {rest : List Oper} {op : Oper} {act : Act} {Q : Exit → Act → World → Prop} (hgd : op.guard = none) (s x : Operand)
    (ho : op.op = .call { callee := .builtin .append, args := #[s, x], argTypes := #[22, 22] }) (base : Nat) (v : Value) (L : List OpN) (hs : act.eval s = v) (hown : w.ownsRow base 60 5 v L.length (opCs L))
    (gx : Nat) (o : OpN) (hx : act.eval x = .slice (some ⟨gx, 0, none⟩) 1 1) (hby : w.heap[gx]? = some (.cells o.cl.toArray 60 (0, 0))) (hlen : (L.length + 1) * 56 ≤ 140737488355328) (hB : base ≤ w.heap.size)
    (h : ∀ v' w', w'.ownsRow base 60 5 v' (L ++ [o]).length (opCs (L ++ [o])) → Below base w w' → wpList Tryz.prog ops Q rest (act.put op.dst v') w') : wpList Tryz.prog ops Q (op :: rest) act w := by
  obtain ⟨i0, hi, hz0, hz1, hz2⟩ := info_partsN Tryz.infoOp
  refine wpList_append_own_at _ hgd s x 22 ho base 60 i0 _ 5 56 Tryz.underlying22 hi hz0 hz1 hz2 rfl (by decide) v L.length (opCs L) hs hown ⟨gx, 0, none⟩ 1 1 o.cl hx rfl (fun j u hu => ?_) (op_one o) (by unfold maxLen; omega) (by omega) hB ?_
  · rw [addr_add, Nat.zero_add]
    simp only [World.cell?, hby]
    simpa using hu
  · intro v' w' ho' hg' _ hat'
    refine h v' w' ?_ ((Chg.grown hg').below hB (fun k hk e => (hown.lt k e).1))
    have e : opCs (L ++ [o]) = opCs L ++ o.cl := by simp [opCs]
    rw [List.length_append, e]
    exact ho'
theorem owns_sl {w : World} {B e s n : Nat} {v : Value} {zs : List Value} (h : w.ownsRow B e s v n zs) : ∃ a c, v = .slice a n c ∧ (a = none → c = 0) ∧ n ≤ c ∧ (∀ b o, a = some ⟨b, o, none⟩ → B ≤ b ∧ b < w.heap.size) := by
  rcases h.2 with ⟨rfl, h0⟩ | ⟨g, cap, cur, rfl, hg, hb, hn, hc, hs, ht⟩
  · subst h0
    exact ⟨none, 0, rfl, fun _ => rfl, Nat.le_refl _, fun b o hb => by cases hb⟩
  · exact ⟨some ⟨g, 0, none⟩, cap, rfl, (fun e => by cases e), hn, fun b o e => by cases e; exact ⟨hg, lt_of_blk hb⟩⟩
theorem Sd.len {xs bs : List Int} {p q : Nat} (h : Sd xs p bs q) : bs.length = q - p := by
  have h1 := congrArg List.length h.1
  have h2 := h.2
  rw [List.length_append, List.length_drop, List.length_drop] at h1
  omega
theorem flat_ge {E : Type} {f : E → List Int} : ∀ {L : List E}, (∀ x ∈ L, 1 ≤ (f x).length) → L.length ≤ (L.flatMap f).length
  | [], _ => by simp
  | x :: L, h => by
    have h1 := flat_ge (f := f) (L := L) (fun y hy => h y (by simp [hy]))
    have h2 := h x (by simp)
    simp only [List.flatMap_cons, List.length_append, List.length_cons]
    omega
theorem sd_cnt {E : Type} {f : E → List Int} {L : List E} {xs : List Int} {p q : Nat} (h : Sd xs p (L.flatMap f) q) (hf : ∀ x ∈ L, 1 ≤ (f x).length) : L.length ≤ xs.length := by
  have h1 := flat_ge hf
  have h2 := h.len
  have h3 := h.2.2
  omega
theorem nmGe {n : Int} (h : inN n) : 1 ≤ (nmL n).length := (numL_len 5 (Nat.lt_of_le_of_lt (show n.toNat ≤ 2147483647 by have := h.2; omega) (by decide)) (by decide)).2
theorem opGe {x : OpN} (h : OpG x) : 1 ≤ (opL x).length := by
  have := nmGe h.1
  unfold opL
  rw [List.length_append]
  omega
theorem ls_no {E : Type} {f : E → List Int} {G : E → Prop} (hf : ∀ a b r s, G a → G b → f a ++ r = f b ++ s → a = b ∧ r = s) {xs : List Int} {q1 ps : Nat} {L M : List E} {r : List Int} (hS : Sd xs q1 (L.flatMap f) ps) (hL : ∀ x ∈ L, G x) (hM : ∀ x ∈ M, G x) (hlt : L.length < M.length) (hd : xs.drop q1 = M.flatMap f ++ r) :
    ∃ x r', x ∈ M ∧ xs.drop ps = f x ++ r' := by
  refine ⟨M[L.length], (M.drop (L.length + 1)).flatMap f ++ r, List.getElem_mem _, ?_⟩
  have e : M = M.take L.length ++ (M[L.length] :: M.drop (L.length + 1)) := by rw [List.getElem_cons_drop, List.take_append_drop]
  have e2 : M.flatMap f = (M.take L.length).flatMap f ++ (f M[L.length] ++ (M.drop (L.length + 1)).flatMap f) := by
    have := congrArg (List.flatMap f) e
    rw [List.flatMap_append, List.flatMap_cons] at this
    exact this
  rw [hS.1, e2, List.append_assoc, List.append_assoc] at hd
  exact (fl_pre hf (by rw [List.length_take]; omega) hL (fun x hx => hM x (List.mem_of_mem_take hx)) hd).2
set_option maxHeartbeats 3200000 in
set_option maxRecDepth 100000 in
theorem rdl_Op (w0 : World) (br : Nat) (a : Option Addr) (c : Nat) (xs : List Int) (p : Nat) (w : World) (hc : RdC w0 br a c xs) (h : RdS 78 w0 w br a c xs p) :
    Calls Tryz.prog 78 #[.pointer (some ⟨br, 0, none⟩), .func (.func 79) #[] #[]] w (RdE w0 br a c xs p (lsEnc opL) (lsG OpG) lsV (fun t w' => w'.ownsRow w.heap.size 60 5 (lsV t) t.2.2.length (opCs t.2.2)) w) := by
  have HN : Hid _ := rd_number w0 br a c xs p w hc h
  have HC : Hid (RdC w0 br a c xs) := hc
  have HGE : Hid (w0.heap.size ≤ w.heap.size) := h.chg.size
  have HLT : Hid (br < w.heap.size) := by show _ < _; have := hc.lt; have := h.chg.size; omega
  clear hc h
  go_enter Tryz.func78, Tryz.ntmps78
  go_upto_region 2 with fail
  go_wp2_with (first
    | (go_at_call 64; refine Calls.mono HN.out ?_
       rintro e w1 (⟨n, q1, rfl, hg, hs, hr, hch, _⟩ | ⟨rfl, hno, hch⟩)
       rotate_left
       · exact ⟨rfl, .inr ⟨rfl, fun y r hy hd => hno _ _ hy.1 (by have hd' : xs.drop p = lsL opL y.2.2 ++ r := hd; unfold lsL at hd'; rw [List.append_assoc] at hd'; exact hd'), hch⟩⟩
       obtain ⟨k, rfl⟩ := Int.eq_ofNat_of_zero_le hg.1
       have HG : Hid (inN (k : Int)) := hg
       have HS : Hid (Sd xs p (nmL k) q1) := hs
       have HR1 : Hid (RdS 78 w0 w1 br a c xs q1) := hr
       have HCH1 : Hid (Chg w w1 (fun j => j = br)) := hch
       clear hg hs hr hch)
    | fail)
  have hk := HG.out.2
  go_loopw [5, 8] (fun v iv wr => ∃ (q : Nat) (L : List OpN) (ps : Nat), iv = .int .i64 q ∧ q ≤ k ∧ L.length = q ∧ Hid (wr.ownsRow w.heap.size 60 5 v L.length (opCs L)) ∧ Hid (∀ x ∈ L, OpG x) ∧ Hid (Sd xs q1 (L.flatMap opL) ps) ∧ Hid (RdS 78 w0 wr br a c xs ps) ∧ Hid (Chg w wr (fun j => j = br))) (fun _ iv _ => k - (intOf iv).toNat)
  case atStart => exact ⟨0, [], q1, rfl, Nat.zero_le _, rfl, World.ownsRow_nil _ _ _ _, fun x hx => (by cases hx), Sd.refl HR1.out.le, HR1.out, HCH1.out⟩
  case round =>
    obtain ⟨q, L, ps, rfl, hqk, hLq, HOr, HGL, HSL, HRr, HCr⟩ := hrel
    by_cases hlt : q < k
    · have hlt' : (q : Int) < (k : Int) := by omega
      have hcnt := sd_cnt (f := opL) HSL.out (fun x hx => opGe (HGL.out x hx))
      have hcx := HC.out.len
      go_wp2_with (first
        | (go_at_call 79; refine Calls.mono (rd_op w0 br a c xs ps _ HC.out HRr.out) ?_
           rintro e w2 (⟨x, q2, rfl, hg, hs, hr, hch, _⟩ | ⟨rfl, hno, hch⟩)
           rotate_left
           · refine ⟨rfl, .inr ⟨rfl, fun y r hy hd => ?_, HCr.out.trans hch⟩⟩
             have hd' : xs.drop p = lsL opL y.2.2 ++ r := hd
             unfold lsL at hd'
             rw [List.append_assoc, HS.out.1] at hd'
             obtain ⟨e1, hd'⟩ := nm_pre HG.out hy.1 hd'
             obtain ⟨z, r', hz, hzd⟩ := ls_no (G := OpG) (fun a b r s => op_pre) HSL.out HGL.out hy.2 (by omega) hd'
             exact hno z r' (hy.2 z hz) hzd
           have HG2 : Hid (OpG x) := hg
           have HS2 : Hid (Sd xs ps (opL x) q2) := hs
           have HR2 : Hid (RdS 78 w0 w2 br a c xs q2) := hr
           have HCH2 : Hid (Chg w w2 (fun j => j = br)) := HCr.out.trans hch
           have HO2 : Hid (w2.ownsRow w.heap.size 60 5 _ L.length (opCs L)) := row_keep HOr.out hch (fun k hk e => by have := HLT.out; omega)
           clear hg hs hr hch)
        | (at_builtin; refine wpList_appOp rfl _ _ rfl w.heap.size _ L rfl (owns_below HO2.out ((Below.refl _ _).alloc (Nat.le_refl _) _)) w2.heap.size x rfl (heap_alloc_new _ _) (by omega) (by have := HCH2.out.size; rw [World.size_alloc]; omega) ?_
           intro v3 w3 ho3 hb3
           have HO3 : Hid (w3.ownsRow w.heap.size 60 5 v3 (L ++ [x]).length (opCs (L ++ [x]))) := ho3
           have HB3 : Hid (Below w.heap.size w2 w3) := ((Below.refl _ _).alloc HCH2.out.size _).trans hb3
           clear ho3 hb3)
        | fail)
      have hsz := HCH2.out.size
      go_roundw
      case rel =>
        refine ⟨q + 1, L ++ [x], q2, by go_num, by omega, by rw [List.length_append, hLq]; rfl, HO3.out, ?_, ?_, HR2.out.low HB3.out HGE.out HC.out.lt, HCH2.out.low HB3.out (Nat.le_refl _)⟩
        · intro y hy
          rcases List.mem_append.1 hy with hy | hy
          · exact HGL.out y hy
          · rw [List.mem_singleton.1 hy]; exact HG2.out
        · show Sd _ _ _ _
          rw [List.flatMap_append]
          have : [x].flatMap opL = opL x := by simp
          rw [this]
          exact Sd.trans HSL.out HS2.out
      case measure => simp [intOf]; omega
    · obtain rfl : q = k := by omega
      subst hLq
      have hlt' : ¬ (L.length : Int) < (L.length : Int) := by omega
      obtain ⟨sa, sc, rfl, _⟩ := owns_sl HOr.out
      go_wp2_with fail
      go_ret
      refine .inl ⟨(sa, sc, L), ps, rfl, ⟨HG.out, HGL.out⟩, ?_, HRr.out, HCr.out, HOr.out⟩
      show Sd xs p (lsL opL L) ps
      unfold lsL
      exact Sd.trans HS.out HSL.out
theorem row_keep2 {w : World} {B g e s n : Nat} {v : Value} {xs : List Value} {old cs : Array Value} {t : TypeId} (h : w.ownsRow B e s v n xs) (hg : w.heap[g]? = some (.cells old t (0, 0))) (hlt : g < B) : (w.setRow g cs).ownsRow B e s v n xs :=
  owns_same h (fun k hk => (row_chgA hg).block k (h.lt k hk).2 (fun e => by have := (h.lt k hk).1; omega))
set_option maxHeartbeats 3200000 in
set_option maxRecDepth 100000 in
theorem rd_entry (w0 : World) (br : Nat) (a : Option Addr) (c : Nat) (xs : List Int) (p : Nat) (w : World) (hc : RdC w0 br a c xs) (h : RdS 78 w0 w br a c xs p) :
    Calls Tryz.prog 32 #[.pointer (some ⟨br, 0, none⟩)] w (RdE w0 br a c xs p enL EnG EnN.val (fun t w' => w'.ownsRow w.heap.size 60 5 (.slice t.opsA t.ops.length t.opsC) t.ops.length (opCs t.ops)) w) := by
  obtain ⟨w1, hw1⟩ : ∃ w1, w.alloc (.cells #[.int .i64 0, .int .i64 0, .int .i64 0, .int .i64 0, .int .i64 0, .slice none 0 0] 24) = w1 := ⟨_, rfl⟩
  have HW : Hid (w.alloc (.cells #[.int .i64 0, .int .i64 0, .int .i64 0, .int .i64 0, .int .i64 0, .slice none 0 0] 24) = w1) := hw1
  have HB1 : Hid (Below w.heap.size w w1) := by rw [← hw1]; exact (Below.refl _ _).alloc (Nat.le_refl _) _
  have HX0 : Hid (w1.heap[w.heap.size]? = some (.cells #[.int .i64 0, .int .i64 0, .int .i64 0, .int .i64 0, .int .i64 0, .slice none 0 0] 24 (0, 0))) := by show _ = _; rw [← hw1]; exact heap_alloc_new _ _
  have HR0 : Hid (RdS 78 w0 w1 br a c xs p) := h.ext HB1.out
  have HCH0 : Hid (Chg w w1 (fun j => j = br)) := Chg.of_below HB1.out _
  have HC : Hid (RdC w0 br a c xs) := hc
  have HGE : Hid (w0.heap.size ≤ w.heap.size) := h.chg.size
  have HNE : Hid (w.heap.size ≠ br) := by show _ ≠ _; have := hc.lt; have := h.chg.size; omega
  clear hw1 hc h
  go_enter Tryz.func32, Tryz.ntmps32
  go_upto_region 1 with fail
  rw [HW.out]
  go_wp2_with (first
    | (have hq := HR5; clear hq; go_at_call 78; refine Calls.mono (rdl_Op w0 br a c xs q5 _ HC.out HR5.out) ?_
       rintro e w7 (⟨x5, q6, rfl, hg, hs, hr, hch, hpp⟩ | ⟨rfl, hno, hch⟩)
       rotate_left
       · refine ⟨rfl, .inr ⟨rfl, fun y r hy hd => ?_, HCH5.out.trans hch⟩⟩
         exact by
           obtain ⟨⟨hy0, hy1, hy2, hy3, hy4⟩, hy5⟩ := hy
           rw [enL_is] at hd
           simp only [List.append_assoc] at hd
           rw [HS0.out.1] at hd
           have hd := (nm_pre HG0.out hy0 hd).2
           rw [HS1.out.1] at hd
           have hd := (nm_pre HG1.out hy1 hd).2
           rw [HS2.out.1] at hd
           have hd := (nm_pre HG2.out hy2 hd).2
           rw [HS3.out.1] at hd
           have hd := (nm_pre HG3.out hy3 hd).2
           rw [HS4.out.1] at hd
           have hd := (nm_pre HG4.out hy4 hd).2
           exact hno (y.opsA, y.opsC, y.ops) _ (hy5) hd
       have HG5 : Hid _ := hg
       have HS5 : Hid _ := hs
       have HP5 : Hid _ := hpp
       have HR6 : Hid (RdS 78 w0 w7 br a c xs q6) := hr
       have HCH6 : Hid (Chg w w7 (fun j => j = br)) := HCH5.out.trans hch
       have HX6 : Hid (w7.heap[w.heap.size]? = some (.cells #[.int .i64 0, .int .i64 0, .int .i64 0, .int .i64 0, .int .i64 0, .slice none 0 0] 24 (0, 0))) := by show _ = _; rw [hch.block _ (lt_of_blk HX5.out) HNE.out]; exact HX5.out
       clear hg hs hr hch hpp)
    | (have hq := HR4; clear hq; go_at_call 64; refine Calls.mono (rd_number w0 br a c xs q4 _ HC.out HR4.out) ?_
       rintro e w6 (⟨x4, q5, rfl, hg, hs, hr, hch, hpp⟩ | ⟨rfl, hno, hch⟩)
       rotate_left
       · refine ⟨rfl, .inr ⟨rfl, fun y r hy hd => ?_, HCH4.out.trans hch⟩⟩
         exact by
           obtain ⟨⟨hy0, hy1, hy2, hy3, hy4⟩, hy5⟩ := hy
           rw [enL_is] at hd
           simp only [List.append_assoc] at hd
           rw [HS0.out.1] at hd
           have hd := (nm_pre HG0.out hy0 hd).2
           rw [HS1.out.1] at hd
           have hd := (nm_pre HG1.out hy1 hd).2
           rw [HS2.out.1] at hd
           have hd := (nm_pre HG2.out hy2 hd).2
           rw [HS3.out.1] at hd
           have hd := (nm_pre HG3.out hy3 hd).2
           exact hno y.rq _ (hy4) hd
       have HG4 : Hid _ := hg
       have HS4 : Hid _ := hs
       have HP4 : Hid _ := hpp
       have HR5 : Hid (RdS 78 w0 w6 br a c xs q5) := hr
       have HCH5 : Hid (Chg w w6 (fun j => j = br)) := HCH4.out.trans hch
       have HX5 : Hid (w6.heap[w.heap.size]? = some (.cells #[.int .i64 0, .int .i64 0, .int .i64 0, .int .i64 0, .int .i64 0, .slice none 0 0] 24 (0, 0))) := by show _ = _; rw [hch.block _ (lt_of_blk HX4.out) HNE.out]; exact HX4.out
       clear hg hs hr hch hpp)
    | (have hq := HR3; clear hq; go_at_call 64; refine Calls.mono (rd_number w0 br a c xs q3 _ HC.out HR3.out) ?_
       rintro e w5 (⟨x3, q4, rfl, hg, hs, hr, hch, hpp⟩ | ⟨rfl, hno, hch⟩)
       rotate_left
       · refine ⟨rfl, .inr ⟨rfl, fun y r hy hd => ?_, HCH3.out.trans hch⟩⟩
         exact by
           obtain ⟨⟨hy0, hy1, hy2, hy3, hy4⟩, hy5⟩ := hy
           rw [enL_is] at hd
           simp only [List.append_assoc] at hd
           rw [HS0.out.1] at hd
           have hd := (nm_pre HG0.out hy0 hd).2
           rw [HS1.out.1] at hd
           have hd := (nm_pre HG1.out hy1 hd).2
           rw [HS2.out.1] at hd
           have hd := (nm_pre HG2.out hy2 hd).2
           exact hno y.se _ (hy3) hd
       have HG3 : Hid _ := hg
       have HS3 : Hid _ := hs
       have HP3 : Hid _ := hpp
       have HR4 : Hid (RdS 78 w0 w5 br a c xs q4) := hr
       have HCH4 : Hid (Chg w w5 (fun j => j = br)) := HCH3.out.trans hch
       have HX4 : Hid (w5.heap[w.heap.size]? = some (.cells #[.int .i64 0, .int .i64 0, .int .i64 0, .int .i64 0, .int .i64 0, .slice none 0 0] 24 (0, 0))) := by show _ = _; rw [hch.block _ (lt_of_blk HX3.out) HNE.out]; exact HX3.out
       clear hg hs hr hch hpp)
    | (have hq := HR2; clear hq; go_at_call 64; refine Calls.mono (rd_number w0 br a c xs q2 _ HC.out HR2.out) ?_
       rintro e w4 (⟨x2, q3, rfl, hg, hs, hr, hch, hpp⟩ | ⟨rfl, hno, hch⟩)
       rotate_left
       · refine ⟨rfl, .inr ⟨rfl, fun y r hy hd => ?_, HCH2.out.trans hch⟩⟩
         exact by
           obtain ⟨⟨hy0, hy1, hy2, hy3, hy4⟩, hy5⟩ := hy
           rw [enL_is] at hd
           simp only [List.append_assoc] at hd
           rw [HS0.out.1] at hd
           have hd := (nm_pre HG0.out hy0 hd).2
           rw [HS1.out.1] at hd
           have hd := (nm_pre HG1.out hy1 hd).2
           exact hno y.K _ (hy2) hd
       have HG2 : Hid _ := hg
       have HS2 : Hid _ := hs
       have HP2 : Hid _ := hpp
       have HR3 : Hid (RdS 78 w0 w4 br a c xs q3) := hr
       have HCH3 : Hid (Chg w w4 (fun j => j = br)) := HCH2.out.trans hch
       have HX3 : Hid (w4.heap[w.heap.size]? = some (.cells #[.int .i64 0, .int .i64 0, .int .i64 0, .int .i64 0, .int .i64 0, .slice none 0 0] 24 (0, 0))) := by show _ = _; rw [hch.block _ (lt_of_blk HX2.out) HNE.out]; exact HX2.out
       clear hg hs hr hch hpp)
    | (have hq := HR1; clear hq; go_at_call 64; refine Calls.mono (rd_number w0 br a c xs q1 _ HC.out HR1.out) ?_
       rintro e w3 (⟨x1, q2, rfl, hg, hs, hr, hch, hpp⟩ | ⟨rfl, hno, hch⟩)
       rotate_left
       · refine ⟨rfl, .inr ⟨rfl, fun y r hy hd => ?_, HCH1.out.trans hch⟩⟩
         exact by
           obtain ⟨⟨hy0, hy1, hy2, hy3, hy4⟩, hy5⟩ := hy
           rw [enL_is] at hd
           simp only [List.append_assoc] at hd
           rw [HS0.out.1] at hd
           have hd := (nm_pre HG0.out hy0 hd).2
           exact hno y.vw _ (hy1) hd
       have HG1 : Hid _ := hg
       have HS1 : Hid _ := hs
       have HP1 : Hid _ := hpp
       have HR2 : Hid (RdS 78 w0 w3 br a c xs q2) := hr
       have HCH2 : Hid (Chg w w3 (fun j => j = br)) := HCH1.out.trans hch
       have HX2 : Hid (w3.heap[w.heap.size]? = some (.cells #[.int .i64 0, .int .i64 0, .int .i64 0, .int .i64 0, .int .i64 0, .slice none 0 0] 24 (0, 0))) := by show _ = _; rw [hch.block _ (lt_of_blk HX1.out) HNE.out]; exact HX1.out
       clear hg hs hr hch hpp)
    | (have hq := HR0; clear hq; go_at_call 64; refine Calls.mono (rd_number w0 br a c xs p _ HC.out HR0.out) ?_
       rintro e w2 (⟨x0, q1, rfl, hg, hs, hr, hch, hpp⟩ | ⟨rfl, hno, hch⟩)
       rotate_left
       · refine ⟨rfl, .inr ⟨rfl, fun y r hy hd => ?_, HCH0.out.trans hch⟩⟩
         exact by
           obtain ⟨⟨hy0, hy1, hy2, hy3, hy4⟩, hy5⟩ := hy
           rw [enL_is] at hd
           simp only [List.append_assoc] at hd
           exact hno y.st _ (hy0) hd
       have HG0 : Hid _ := hg
       have HS0 : Hid _ := hs
       have HP0 : Hid _ := hpp
       have HR1 : Hid (RdS 78 w0 w2 br a c xs q1) := hr
       have HCH1 : Hid (Chg w w2 (fun j => j = br)) := HCH0.out.trans hch
       have HX1 : Hid (w2.heap[w.heap.size]? = some (.cells #[.int .i64 0, .int .i64 0, .int .i64 0, .int .i64 0, .int .i64 0, .slice none 0 0] 24 (0, 0))) := by show _ = _; rw [hch.block _ (lt_of_blk HX0.out) HNE.out]; exact HX0.out
       clear hg hs hr hch hpp)
    | (refine wpList_store_row rfl 24 _ _ rfl w.heap.size #[.int .i64 x0, .int .i64 x1, .int .i64 x2, .int .i64 x3, .int .i64 x4, .slice x5.1 x5.2.2.length x5.2.1] rfl rfl 24 _ HX6.out (by kernel_rfl) rfl (by first | kernel_rfl | (simp; rfl) | simp [Value.oneCell']) ?_)
    | fail)
  refine bodyPost_ret (results_cell1 rfl _ _ w.heap.size 24 _ (0, 0) _ rfl (row_setA HX6.out) Tryz.underlying24 rfl (by kernel_rfl)) rfl ?_
  have hlow : Below w.heap.size w7 (w7.setRow w.heap.size #[.int .i64 x0, .int .i64 x1, .int .i64 x2, .int .i64 x3, .int .i64 x4, .slice x5.1 x5.2.2.length x5.2.1]) := (row_chgA HX6.out).below (Nat.le_of_lt (lt_of_blk HX6.out)) (fun k _ e => by omega)
  refine .inl ⟨⟨x0, x1, x2, x3, x4, x5.1, x5.2.1, x5.2.2⟩, q6, rfl, ⟨⟨HG0.out, HG1.out, HG2.out, HG3.out, HG4.out⟩, HG5.out⟩, ?_, HR6.out.row HX6.out HGE.out HC.out.lt, HCH6.out.low hlow (Nat.le_refl _), owns_mono (row_keep2 HP5.out HX6.out (by have := HB1.out.size; have := HCH5.out.size; have := lt_of_blk HX5.out; omega)) (by have := HB1.out.size; have := HCH5.out.size; omega)⟩
  rw [enL_is]
  exact Sd.trans HS0.out (Sd.trans HS1.out (Sd.trans HS2.out (Sd.trans HS3.out (Sd.trans HS4.out (HS5.out)))))
end Go.Proofs.YtdjfeomdiljaeaaGreatDoor
