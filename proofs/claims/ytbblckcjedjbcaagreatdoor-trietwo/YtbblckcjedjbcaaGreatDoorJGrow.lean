import Derived.Test.YtbblckcjedjbcaaGreatDoorJFull
namespace Go.Proofs.YtbblckcjedjbcaaGreatDoor.J
open Go.RowKit
set_option linter.unusedVariables false
set_option linter.unusedSimpArgs false

theorem owns_mono {w : World} {B B' e s n : Nat} {v : Value} {xs : List Value} (h : w.ownsRow B e s v n xs) (hB : B' ≤ B) : w.ownsRow B' e s v n xs :=
  ⟨h.1, h.2.imp id (fun ⟨g, cap, cur, h1, h2, r⟩ => ⟨g, cap, cur, h1, Nat.le_trans hB h2, r⟩)⟩
theorem owns_prefix {w : World} {B e s g n m cap : Nat} {xs news : List Value} (hx : xs.length = n * s) (h : w.ownsRow B e s (.slice (some ⟨g, 0, none⟩) (n + m) cap) (n + m) (xs ++ news)) : w.ownsRow B e s (.slice (some ⟨g, 0, none⟩) n cap) n xs := by
  refine ⟨hx, .inr ?_⟩
  rcases h.2 with ⟨h0, _⟩ | ⟨g', cap', cur, hv, hB, hg, h1, h2, h3, h4⟩
  · cases h0
  · simp only [Value.slice.injEq, Option.some.injEq, Addr.mk.injEq, and_true, true_and] at hv
    obtain ⟨rfl, rfl⟩ := hv
    refine ⟨g, cap, cur, rfl, hB, hg, by omega, h2, h3, ?_⟩
    have hle : n * s ≤ (n + m) * s := Nat.mul_le_mul_right _ (by omega)
    have e1 : (cur.toList.take ((n + m) * s)).take (n * s) = cur.toList.take (n * s) := by rw [List.take_take, Nat.min_eq_left hle]
    have e2 : (xs ++ news).take (n * s) = xs := by rw [← hx, List.take_left]
    rw [← e1, h4, e2]
theorem wpList_append_any {P : Program} (w : World) {ops : Array Oper} {rest : List Oper} {o : Oper} {a : Act} {Q : Exit → Act → World → Prop} (hgd : o.guard = none) (s x : Operand) (t : TypeId)
    (ho : o.op = .call { callee := .builtin .append, args := #[s, x], argTypes := #[t, t] })
    (base : Nat) (e : TypeId) (i : TypeInfo) (z : Value) (size bytes : Nat) (ht : P.underlying t = some (.slice e)) (hi : P.info? e = some i) (hz : i.zero = some z)
    (hsize : i.size = size) (hby : i.bytes = bytes) (hzs : z.cells.size = size) (hsz : 0 < size)
    (v : Value) (n : Nat) (xs : List Value) (hs : a.eval s = v) (hown : w.ownsRow base e size v n xs)
    (ad : Addr) (m c : Nat) (news : List Value) (hx : a.eval x = .slice (some ad) m c) (hl : news.length = m * size) (hnews : ∀ j u, news[j]? = some u → w.cell? (ad.add j) = some u) (h1 : ∀ u ∈ news, u.oneCell' = true)
    (hm : 0 < m) (h63 : n + m ≤ maxLen) (hbytes : (n + m) * bytes ≤ 140737488355328) (hbase : base ≤ w.heap.size)
    (h : ∀ g cap w', w'.ownsRow base e size (.slice (some ⟨g, 0, none⟩) (n + m) cap) (n + m) (xs ++ news) → ((v = .slice (some ⟨g, 0, none⟩) n cap ∧ w.grownBy w' (some g)) ∨ (w.heap.size ≤ g ∧ w.grownBy w' none)) →
      wpList P ops Q rest (a.put o.dst (.slice (some ⟨g, 0, none⟩) (n + m) cap)) w') :
    wpList P ops Q (o :: rest) a w := by
  have hgrow : ∀ v' w', w'.ownsRow w.heap.size e size v' (n + m) (xs ++ news) → w.grownBy w' none → wpList P ops Q rest (a.put o.dst v') w' := by
    intro v' w' h2 h3
    obtain ⟨g, cap, rfl, _⟩ := h2.form (by omega)
    exact h g cap w' (owns_mono h2 hbase) (.inr ⟨(h2.lt g rfl).1, h3⟩)
  rcases hown.2 with ⟨rfl, rfl⟩ | ⟨g, cap, cur, rfl, hbg, hg, hnc, hcm, hcs, htake⟩
  · have hx0 : xs = [] := List.eq_nil_of_length_eq_zero (by simpa using hown.1)
    subst hx0
    exact wpList_append_grows w hgd s x t ho e i z size bytes ht hi hz hsize hby hzs hsz none 0 0 [] hs (fun _ => ⟨rfl, rfl⟩) (by simp) (fun b hb => by cases hb) ad m c news hx hl hnews h1 (by omega) h63 hbytes hgrow
  · by_cases hroom : n + m ≤ cap
    · refine wpList_append_fits w hgd s x t ho base e i size ht hi hsize g n cap xs hs hown ad m c news hx hl hnews h1 hroom ?_
      intro w' h2 h3
      exact h g cap w' h2 (.inl ⟨rfl, h3⟩)
    · exact wpList_append_grows w hgd s x t ho e i z size bytes ht hi hz hsize hby hzs hsz (some ⟨g, 0, none⟩) n cap xs hs (fun h => by cases h) hown.1 (fun b hb => by cases hb; exact hown.cells (g := g) rfl) ad m c news hx hl hnews h1 (by omega) h63 hbytes hgrow
/-- A list that is gone on from p times, beside what it was. -/
structure Gro (T sz : Nat) (Wq wr : World) (u : Value) (l k : List (El sz)) (g : Value) : Prop where
  chg : Chg Wq wr (fun b => u.ownBlock = some b)
  row : wr.ownsRow 0 T sz g (l.length + k.length) (fl l ++ fl k)
  old : wr.ownsRow 0 T sz u l.length (fl l)
  alt : (∃ a c, u = .slice a l.length c ∧ g = .slice a (l.length + k.length) c) ∨ ∃ b, g.ownBlock = some b ∧ Wq.heap.size ≤ b
theorem Gro.start {T sz : Nat} {w : World} {u : Value} {l : List (El sz)} (h : w.ownsRow 0 T sz u l.length (fl l)) : Gro T sz w w u l [] u := by
  refine ⟨Chg.refl _ _, by simpa using h, h, .inl ?_⟩
  rcases h.2 with ⟨rfl, h0⟩ | ⟨g, cap, cur, rfl, _⟩
  · exact ⟨none, 0, by rw [h0], by simp [h0]⟩
  · exact ⟨_, _, rfl, by simp⟩
theorem Gro.next {T sz : Nat} {Wq wr w1 w2 : World} {u g : Value} {l k : List (El sz)} {g' cap' : Nat} {e : El sz} (h : Gro T sz Wq wr u l k g) (hu : ∀ b, u.ownBlock = some b → b < Wq.heap.size) (hb : Below wr.heap.size wr w1)
    (hown : w2.ownsRow 0 T sz (.slice (some ⟨g', 0, none⟩) (l.length + k.length + 1) cap') (l.length + k.length + 1) ((fl l ++ fl k) ++ e.1))
    (halt : (g = .slice (some ⟨g', 0, none⟩) (l.length + k.length) cap' ∧ w1.grownBy w2 (some g')) ∨ (w1.heap.size ≤ g' ∧ w1.grownBy w2 none)) :
    Gro T sz Wq w2 u l (k ++ [e]) (.slice (some ⟨g', 0, none⟩) (l.length + k.length + 1) cap') := by
  have s1 := h.chg.size
  have s2 := hb.size
  have hfl : fl (k ++ [e]) = fl k ++ e.1 := by simp [fl]
  have hle : l.length + (k ++ [e]).length = l.length + k.length + 1 := by simp; omega
  have hrow : w2.ownsRow 0 T sz (.slice (some ⟨g', 0, none⟩) (l.length + k.length + 1) cap') (l.length + (k ++ [e]).length) (fl l ++ fl (k ++ [e])) := by
    rw [hfl, hle, ← List.append_assoc]
    exact hown
  rcases halt with ⟨hg, hgr⟩ | ⟨hge, hgr⟩
  · rcases h.alt with ⟨a, c, hua, hga⟩ | ⟨b, hgb, hN⟩
    · rw [hga] at hg
      simp only [Value.slice.injEq] at hg
      obtain ⟨rfl, _, rfl⟩ := hg
      have hub : u.ownBlock = some g' := by rw [hua]; rfl
      refine ⟨h.chg.trans ((Chg.of_below hb _).trans ((Chg.grown hgr).mono (fun b _ e' => by cases e'; exact hub))), hrow, ?_, .inl ⟨_, _, hua, by rw [hle]⟩⟩
      rw [hua]
      have hlt : l.length + k.length + 1 = l.length + (k.length + 1) := by omega
      rw [hlt, List.append_assoc] at hown
      exact owns_prefix (fl_len l) hown
    · have hgb' : g' = b := by rw [hg] at hgb; simpa [Value.ownBlock] using hgb
      subst hgb'
      have hne : ∀ b, u.ownBlock = some b → b ≠ g' := fun b hb' e' => by have := hu b hb'; omega
      refine ⟨⟨?_, ?_, ?_, Nat.le_trans s1 (Nat.le_trans s2 hgr.size), fun b hb' hn => ?_⟩, hrow, owns_same h.old (fun b hb' => ?_), .inr ⟨g', rfl, hN⟩⟩
      · exact hgr.os.trans (hb.os.trans h.chg.os)
      · exact hgr.tape.trans (hb.tape.trans h.chg.tape)
      · exact hgr.output.trans (hb.output.trans h.chg.output)
      · rw [hgr.block b (by omega) (fun e' => by cases e'; omega), hb.block b (by omega)]
        exact h.chg.block b hb' hn
      · have := (row_block h.old b hb').2
        rw [hgr.block b (by omega) (fun e' => by cases e'; exact hne _ hb' rfl), hb.block b this]
  · refine ⟨h.chg.trans ((Chg.of_below hb _).trans ((Chg.grown hgr).mono (fun b _ e' => by cases e'))), hrow, owns_same h.old (fun b hb' => ?_), .inr ⟨g', rfl, by omega⟩⟩
    have := (row_block h.old b hb').2
    rw [hgr.block b (by omega) (fun e' => by cases e'), hb.block b this]
end Go.Proofs.YtbblckcjedjbcaaGreatDoor.J
namespace Go.Proofs.YtbblckcjedjbcaaGreatDoor.J
open Go.RowKit
set_option linter.unusedVariables false
set_option linter.unusedSimpArgs false

def grB (k : Nat) : Nat := if k < 64 then 96 else 2
theorem grB_le (k : Nat) : grB k ≤ 96 := by unfold grB; split <;> omega
theorem grownBy_any (k : Nat) (w : World) : Calls Tryz.prog 74 #[.int .i64 k] w fun e w' => e = .returned (.int .i64 (grB k)) ∧ w' = w := by
  by_cases h : k < 64
  · have h1 : (k : Int) < 64 := by omega
    have HG : Hid (grB k = 96) := by show _ = _; unfold grB; rw [if_pos h]
    go_enter Tryz.func74, Tryz.ntmps74
    go_wp2_with fail
    go_ret
    exact ⟨by rw [HG.out]; rfl, rfl⟩
  · have h1 : ¬ (k : Int) < 64 := by omega
    have HG : Hid (grB k = 2) := by show _ = _; unfold grB; rw [if_neg h]
    go_enter Tryz.func74, Tryz.ntmps74
    go_wp2_with fail
    go_ret
    exact ⟨by rw [HG.out]; rfl, rfl⟩
/-- What is put behind list j. -/
def bhd {sz : Nat} (mk : Int → El sz) (j : Nat) : List (El sz) := List.replicate (grB j) (mk (-(j : Int) - 1))
/-- The grown lists, under a head. -/
structure Rs (w : World) (tH T sz : Nat) (mk : Int → El sz) (gv : Value) (gs : List Value) (ls : List (List (El sz))) : Prop where
  gr : w.ownsRow 0 tH 1 gv gs.length gs
  rd : ∀ (j : Nat) (g : Value) (l : List (El sz)), gs[j]? = some g → ls[j]? = some l → w.ownsRow 0 T sz g (l.length + (bhd mk j).length) (fl l ++ fl (bhd mk j))
def RsB (gv : Value) (gs : List Value) (b : Nat) : Prop := gv.ownBlock = some b ∨ FamB gs b
theorem Rs.keep {w w' : World} {tH T sz : Nat} {mk : Int → El sz} {gv : Value} {gs : List Value} {ls : List (List (El sz))} (h : Rs w tH T sz mk gv gs ls) (hlen : gs.length ≤ ls.length) (hk : Kp w w' (RsB gv gs)) : Rs w' tH T sz mk gv gs ls :=
  ⟨owns_same h.gr (fun b hb => hk.block b (row_block h.gr b hb).2 (.inl hb)), fun j g l hg hl => owns_same (h.rd j g l hg hl) (fun b hb => hk.block b (row_block (h.rd j g l hg hl) b hb).2 (.inr ⟨j, g, hg, hb⟩))⟩
/-- Between two lists: w: how it was at the start. -/
structure Gk (w wr : World) (tH T sz : Nat) (mk : Int → El sz) (us : List Value) (hv gv : Value) (gs : List Value) (ls : List (List (El sz))) (q : Nat) : Prop where
  rs : Rs wr tH T sz mk gv gs ls
  len : gs.length = q
  hd : ∀ b, gv.ownBlock = some b → w.heap.size ≤ b
  at' : ∀ (j : Nat) (g u : Value), gs[j]? = some g → us[j]? = some u → g.ownBlock = u.ownBlock ∨ ∃ b, g.ownBlock = some b ∧ w.heap.size ≤ b
/-- One more grown list. -/
theorem Gk.next {w wr w1 w2 w3 : World} {tH T sz : Nat} {mk : Int → El sz} {us : List Value} {hv gv : Value} {gs : List Value} {ls : List (List (El sz))} {q g3 c3 B o3 : Nat} {g u : Value} {l : List (El sz)} (hT : T ≠ tH) (hG : Gk w wr tH T sz mk us hv gv gs ls q) (hF : Fam wr T sz us ls) (h0 : ∀ b, FamB us b → b < w.heap.size) (hww : w.heap.size ≤ wr.heap.size) (hlen : us.length = ls.length)
    (hu : us[q]? = some u) (hl : ls[q]? = some l) (hg : Gro T sz wr w1 u l (bhd mk q) g) (hw2 : Below w1.heap.size w1 w2)
    (h3 : w3.ownsRow 0 tH 1 (.slice (some ⟨g3, 0, none⟩) (gs.length + 1) c3) (gs.length + 1) (gs ++ [g]))
    (hal : (gv = .slice (some ⟨g3, 0, none⟩) gs.length c3 ∧ w2.grownBy w3 (some g3)) ∨ (w2.heap.size ≤ g3 ∧ w2.grownBy w3 none))
    {bt : TypeId} {bc : Array Value} (hB : wr.heap[B]? = some (.cells bc bt (0, 0))) (hbT : T ≠ bt) (hbH : tH ≠ bt) (hBw : B < w.heap.size) (x : Value) :
    Gk w (w3.setCell ⟨B, o3, none⟩ x) tH T sz mk us hv (.slice (some ⟨g3, 0, none⟩) (gs.length + 1) c3) (gs ++ [g]) ls (q + 1) := by
  have s1 := hg.chg.size
  have s2 := hw2.size
  have hub : ∀ b, u.ownBlock = some b → b < w.heap.size := fun b hb => h0 b ⟨q, u, hu, hb⟩
  have hgr3 : ∃ row, w2.grownBy w3 row ∧ ∀ b, row = some b → gv.ownBlock = some b ∧ w.heap.size ≤ b := by
    rcases hal with ⟨e, hg3⟩ | ⟨_, hg3⟩
    · have e2 : gv.ownBlock = some g3 := by rw [e]; rfl
      exact ⟨_, hg3, fun b hb => by cases hb; exact ⟨e2, hG.hd _ e2⟩⟩
    · exact ⟨_, hg3, fun b hb => by cases hb⟩
  obtain ⟨row, hgr, hrow⟩ := hgr3
  have s3 := hgr.size
  have hg3B : g3 ≠ B := by
    rcases hal with ⟨e, _⟩ | ⟨h, _⟩
    · have := hG.hd g3 (by rw [e]; rfl); omega
    · omega
  have keepT : ∀ {v : Value} {k : Nat} {xs : List Value}, wr.ownsRow 0 T sz v k xs → (∀ b, v.ownBlock = some b → u.ownBlock ≠ some b) → (w3.setCell ⟨B, o3, none⟩ x).ownsRow 0 T sz v k xs := fun {v k xs} hv hne => owns_same hv (fun b hb => by
    have hlt := (row_block hv b hb).2
    rw [Below.heap_setCell _ _ _ b (kind_box hv hb hB hbT), hgr.block b (by omega) (fun e' => ?_), hw2.block b (by omega), hg.chg.block b hlt (hne b hb)]
    exact kind_ne2 hv hG.rs.gr hb (hrow b e'.symm).1 hT)
  have hgB : ∀ b, g.ownBlock = some b → b ≠ B := fun b hb e' => by
    rcases hg.alt with ⟨a, c, hua, hga⟩ | ⟨b', hb', hN⟩
    · have : u.ownBlock = some b := by
        rw [hga] at hb
        rw [hua]
        cases a with
        | none => cases hb
        | some a => exact hb
      exact kind_box (hF.row q u l hu hl) this hB hbT e'
    · rw [hb'] at hb; have hb : b' = b := by simpa using hb
      omega
  have hgrow : (w3.setCell ⟨B, o3, none⟩ x).ownsRow 0 T sz g (l.length + (bhd mk q).length) (fl l ++ fl (bhd mk q)) := owns_same hg.row (fun b hb => by
    have hlt := (row_block hg.row b hb).2
    rw [Below.heap_setCell _ _ _ b (hgB b hb), hgr.block b (by omega) (fun e' => ?_), hw2.block b hlt]
    have hh := hrow b e'.symm
    rcases hg.alt with ⟨a, c, hua, hga⟩ | ⟨b', hb', hN⟩
    · have : u.ownBlock = some b := by
        rw [hga] at hb
        rw [hua]
        cases a with
        | none => cases hb
        | some a => exact hb
      have := hub b this
      omega
    · rw [hb'] at hb
      have hb : b' = b := by simpa using hb
      have := (row_block hG.rs.gr b hh.1).2
      omega)
  have hat : ∀ {k : Nat} {y : Value}, (gs ++ [g])[k]? = some y → gs[k]? = some y ∨ (k = gs.length ∧ y = g) := fun {k y} hy => by
    rw [List.getElem?_append] at hy
    split at hy
    · exact .inl hy
    · by_cases hz : k - gs.length = 0
      · rw [hz] at hy
        exact .inr ⟨by omega, by simpa using hy.symm⟩
      · rw [List.getElem?_eq_none (by simp; omega)] at hy; cases hy
  refine ⟨⟨?_, fun j g' l' hg' hl' => ?_⟩, by simp [hG.len], fun b hb => ?_, fun j g' u' hg' hu' => ?_⟩
  · have h9 : (w3.setCell ⟨B, o3, none⟩ x).ownsRow 0 tH 1 (.slice (some ⟨g3, 0, none⟩) (gs.length + 1) c3) (gs.length + 1) (gs ++ [g]) := owns_same h3 (fun b hb => by
      have hb : g3 = b := by simpa [Value.ownBlock] using hb
      exact Below.heap_setCell _ _ _ b (by show b ≠ B; omega))
    simpa using h9
  · rcases hat hg' with hg' | ⟨hj, rfl⟩
    · refine keepT (hG.rs.rd j g' l' hg' hl') (fun b hb hub' => ?_)
      have hjl := (List.getElem?_eq_some_iff.1 hl').1
      obtain ⟨u', hu'⟩ : ∃ u', us[j]? = some u' := ⟨us[j]'(by rw [hlen]; exact hjl), List.getElem?_eq_getElem _⟩
      rcases hG.at' j g' u' hg' hu' with e' | ⟨b', hb', hN⟩
      · have := hF.nd j q u' u b hu' hu (by rw [← e']; exact hb) hub'
        have := (List.getElem?_eq_some_iff.1 hg').1
        have := hG.len
        omega
      · rw [hb'] at hb
        have hb : b' = b := by simpa using hb
        have := hub b hub'
        omega
    · rw [hj, hG.len] at hl' ⊢
      rw [hl] at hl'
      cases hl'
      exact hgrow
  · have hb : g3 = b := by simpa [Value.ownBlock] using hb
    subst hb
    rcases hal with ⟨e, _⟩ | ⟨h, _⟩
    · exact hG.hd _ (by rw [e]; rfl)
    · omega
  · rcases hat hg' with hg' | ⟨hj, rfl⟩
    · exact hG.at' j g' u' hg' hu'
    · rw [hj, hG.len, hu] at hu'
      cases hu'
      rcases hg.alt with ⟨a, c, hua, hga⟩ | ⟨b', hb', hN⟩
      · left
        rw [hga, hua]
        cases a <;> rfl
      · exact .inr ⟨b', hb', by omega⟩
end Go.Proofs.YtbblckcjedjbcaaGreatDoor.J
