/-
  queue: a reader's book.
-/
import Derived.Test.YtlidkieljiebiaaQOrdP
namespace Go.Proofs.Ytlidkieljiebiaa
open Go.RowKit Go.ChangeShapes Go.WideShapes Go.ChangeAt
set_option linter.unusedVariables false
set_option linter.unusedSimpArgs false

/-- An item is behind no event that was put between its After and its stamp. -/
structure Told (last : Nat) (P : List Int) (t : ItT) : Prop where
  top : t.st ≤ last
  gap : t.mark = false → ∀ p ∈ P, p ≤ t.af ∨ t.st ≤ p
structure RdP (last : Nat) (P : List Int) (l : List ItT) (L : List (List ItT)) : Prop where
  puts : ∀ p ∈ P, p ≤ last
  l : ∀ t ∈ l, Told last P t
  book : ∀ x ∈ L, ∀ t ∈ x, Told last P t
theorem Told.up {last last' : Nat} {P : List Int} {t : ItT} (h : Told last P t) (hl : last ≤ last') : Told last' P t := ⟨by have := h.top; omega, h.gap⟩
theorem Told.more {last last' : Nat} {P : List Int} {t : ItT} {p : Int} (h : Told last P t) (hl : last ≤ last') (hp : (last : Int) < p) : Told last' (P ++ [p]) t :=
  ⟨by have := h.top; omega, fun hm q hq => by
    rcases List.mem_append.1 hq with hq | hq
    · exact h.gap hm q hq
    · have : q = p := by simpa using hq
      subst this
      exact .inr (by have := h.top; omega)⟩
theorem RdP.put {last : Nat} {P : List Int} {l : List ItT} {L : List (List ItT)} {st : Int} {cs : List TgT} (h : RdP last P l L) (hs : (last : Int) < st) : RdP st.toNat (P ++ [st]) (l ++ [⟨st, last, false, cs, []⟩]) L := by
  refine ⟨fun p hp => ?_, fun t ht => ?_, fun x hx t ht => (h.book x hx t ht).more (by omega) hs⟩
  · rcases List.mem_append.1 hp with hp | hp
    · have := h.puts p hp; omega
    · have : p = st := by simpa using hp
      omega
  · rcases List.mem_append.1 ht with ht | ht
    · exact (h.l t ht).more (by omega) hs
    · obtain rfl := List.mem_singleton.1 ht
      refine ⟨by show st ≤ _; omega, fun _ p hp => ?_⟩
      rcases List.mem_append.1 hp with hp | hp
      · exact .inl (h.puts p hp)
      · exact .inr (by have : p = st := by simpa using hp
                       show st ≤ p
                       omega)
theorem RdP.coll {last : Nat} {P : List Int} {l : List ItT} {L : List (List ItT)} {st af : Int} {ps : List PaT} (h : RdP last P l L) (hs : (last : Int) < st) : RdP st.toNat P [⟨st, af, true, [], ps⟩] L := by
  refine ⟨fun p hp => by have := h.puts p hp; omega, fun t ht => ?_, fun x hx t ht => (h.book x hx t ht).up (by omega)⟩
  obtain rfl := List.mem_singleton.1 ht
  exact ⟨by show st ≤ _; omega, fun e => by cases e⟩
theorem RdP.took {last : Nat} {P : List Int} {l : List ItT} {L : List (List ItT)} (h : RdP last P l L) (n : Nat) : RdP last P (l.drop n) L := ⟨h.puts, fun t ht => h.l t (List.mem_of_mem_drop ht), h.book⟩
theorem RdP.next {last : Nat} {P : List Int} {l : List ItT} {L : List (List ItT)} (h : RdP last P l L) : RdP last P l (L ++ [l]) := ⟨h.puts, h.l, fun x hx => by
  rcases List.mem_append.1 hx with hx | hx
  · exact h.book x hx
  · have : x = l := by simpa using hx
    subst this
    exact h.l⟩
/-- What lies in memory: the queue's lists and the book's in S, the law's own two lists elsewhere. -/
structure RdM (w : World) (S : Nat → Prop) (B : Nat) (Q : QuT) (vp vb : Value) (P : List Int) (L : List (Value × List ItT)) : Prop where
  q : QueueAt w S B 0 Q
  hi : ∀ j, w.heap.size ≤ j → S j
  lop : ∀ k, vp.ownBlock = some k → ¬ S k ∧ B < k
  lob : ∀ k, vb.ownBlock = some k → ¬ S k ∧ B < k
  ne : ∀ k, vp.ownBlock = some k → vb.ownBlock ≠ some k
  dp : Deq w 3 vp (P.map (.int .i64 ·))
  db : Deq w 39 vb (L.map (·.1))
  each : ∀ x ∈ L, ItsAt w S x.1 x.2
theorem ItsAt.mono {w : World} {S T : Nat → Prop} {v : Value} {l : List ItT} (h : ItsAt w S v l) (hs : ∀ b, b < w.heap.size → S b → T b) : ItsAt w T v l :=
  RowAt.map h (Nat.le_refl _) hs (fun b o x _ _ ⟨u1, u2, hx⟩ => ⟨u1, u2, hx.mono hs⟩)
theorem RdM.chg {w w' : World} {S : Nat → Prop} {B : Nat} {Q Q' : QuT} {vp vb : Value} {P : List Int} {L : List (Value × List ItT)} (h : RdM w S B Q vp vb P L) (hq : QueueAt w' S B 0 Q') (hc : Chg w w' (fun j => j = B)) : RdM w' S B Q' vp vb P L :=
  ⟨hq, fun j hj => h.hi j (Nat.le_trans hc.size hj), h.lop, h.lob, h.ne, h.dp.chg hc (fun k hk e => by have := (h.lop k hk).2; omega), h.db.chg hc (fun k hk e => by have := (h.lob k hk).2; omega),
    fun x hx => ItsAt.keep (h.each x hx) (Kp.of_chg hc (fun j _ hj e => h.q.out (by have e : j = B := e; rw [← e]; exact hj)))⟩
theorem RdM.below {w w' : World} {S : Nat → Prop} {B : Nat} {Q : QuT} {vp vb : Value} {P : List Int} {L : List (Value × List ItT)} (h : RdM w S B Q vp vb P L) (hb : Below w.heap.size w w') : RdM w' S B Q vp vb P L := h.chg (h.q.below hb) (Chg.of_below hb _)
/-- The list of puts has grown. -/
theorem RdM.appP {w w' : World} {S : Nat → Prop} {B : Nat} {Q : QuT} {vp vb v' : Value} {P : List Int} {L : List (Value × List ItT)} {p : Int} (h : RdM w S B Q vp vb P L) (hg : w.grownBy w' vp.ownBlock) (hf : ∀ k, v'.ownBlock = some k → vp.ownBlock = some k ∨ w.heap.size ≤ k) (hd : Deq w' 3 v' (P.map (.int .i64 ·) ++ [.int .i64 p])) : ∃ S', RdM w' S' B Q v' vb (P ++ [p]) L := by
  have hc : Chg w w' (fun k => vp.ownBlock = some k) := Chg.grown hg
  have hsub : ∀ j, j < w.heap.size → S j → S j ∧ v'.ownBlock ≠ some j := fun j hj hS => ⟨hS, fun e => by
    rcases hf j e with e | e
    · exact (h.lop j e).1 hS
    · omega⟩
  have hk : Kp w w' (fun j => (S j ∧ v'.ownBlock ≠ some j) ∨ j = B) := Kp.of_chg hc (fun j _ hj e => by
    rcases hj with hj | rfl
    · exact (h.lop j e).1 hj.1
    · have := (h.lop _ e).2; omega)
  refine ⟨fun j => S j ∧ v'.ownBlock ≠ some j, (h.q.mono hsub (fun hB => h.q.out hB.1)).keep hk, fun j hj => ⟨h.hi j (Nat.le_trans hc.size hj), fun e => ?_⟩, fun k hk => ⟨fun hh => hh.2 hk, ?_⟩, fun k hk => ⟨fun hh => (h.lob k hk).1 hh.1, (h.lob k hk).2⟩, fun k hk e => ?_, by rw [List.map_append]; exact hd, h.db.chg hc (fun k hk e => h.ne k e hk), fun x hx => ItsAt.keep (ItsAt.mono (h.each x hx) hsub) (hk.mono (fun j _ hj => .inl hj))⟩
  · have := (hd.lt j e).1; omega
  · rcases hf k hk with e | e
    · exact (h.lop k e).2
    · exact Nat.lt_of_lt_of_le h.q.lt e
  · rcases hf k hk with e' | e'
    · exact h.ne k e' e
    · have := (h.db.lt k e).1; omega
/-- The book has grown. -/
theorem RdM.appB {w w' : World} {S : Nat → Prop} {B : Nat} {Q : QuT} {vp vb v' v : Value} {P : List Int} {L : List (Value × List ItT)} {l : List ItT} (h : RdM w S B Q vp vb P L) (hg : w.grownBy w' vb.ownBlock) (hf : ∀ k, v'.ownBlock = some k → vb.ownBlock = some k ∨ w.heap.size ≤ k) (hd : Deq w' 39 v' (L.map (·.1) ++ [v])) (hv : ItsAt w S v l) : ∃ S', RdM w' S' B Q vp v' P (L ++ [(v, l)]) := by
  have hc : Chg w w' (fun k => vb.ownBlock = some k) := Chg.grown hg
  have hsub : ∀ j, j < w.heap.size → S j → S j ∧ v'.ownBlock ≠ some j := fun j hj hS => ⟨hS, fun e => by
    rcases hf j e with e | e
    · exact (h.lob j e).1 hS
    · omega⟩
  have hk : Kp w w' (fun j => (S j ∧ v'.ownBlock ≠ some j) ∨ j = B) := Kp.of_chg hc (fun j _ hj e => by
    rcases hj with hj | rfl
    · exact (h.lob j e).1 hj.1
    · have := (h.lob _ e).2; omega)
  refine ⟨fun j => S j ∧ v'.ownBlock ≠ some j, (h.q.mono hsub (fun hB => h.q.out hB.1)).keep hk, fun j hj => ⟨h.hi j (Nat.le_trans hc.size hj), fun e => ?_⟩, fun k hk => ⟨fun hh => (h.lop k hk).1 hh.1, (h.lop k hk).2⟩, fun k hk => ⟨fun hh => hh.2 hk, ?_⟩, fun k hk e => ?_, h.dp.chg hc (fun k hk e => h.ne k hk e), by rw [List.map_append]; exact hd, fun x hx => ?_⟩
  · have := (hd.lt j e).1; omega
  · rcases hf k hk with e | e
    · exact (h.lob k e).2
    · exact Nat.lt_of_lt_of_le h.q.lt e
  · rcases hf k e with e' | e'
    · exact h.ne k hk e'
    · have := (h.dp.lt k hk).1; omega
  · rcases List.mem_append.1 hx with hx | hx
    · exact ItsAt.keep (ItsAt.mono (h.each x hx) hsub) (hk.mono (fun j _ hj => .inl hj))
    · have : x = (v, l) := by simpa using hx
      subst this
      exact ItsAt.keep (ItsAt.mono hv hsub) (hk.mono (fun j _ hj => .inl hj))
theorem Try.info_its : (Try.prog.info? 39).map (fun i => (i.zero, i.size, i.bytes)) = some (some (.slice none 0 0), 1, 24) := by kernel_rfl
theorem wpList_app_its {w : World} {ops : Array Oper} {rest : List Oper} {o : Oper} {act : Act} {Q : Exit → Act → World → Prop} (hgd : o.guard = none) (s x : Operand)
    (ho : o.op = .call { callee := .builtin .append, args := #[s, x], argTypes := #[45, 45] }) (v : Value) (vals : List Value) (hs : act.eval s = v) (hd : Deq w 39 v vals) (g c : Nat) (a : Option Addr) (yn yc : Nat) (hx : act.eval x = .slice (some ⟨g, 0, none⟩) 1 c) (hy : w.cell? ⟨g, 0, none⟩ = some (.slice a yn yc)) (hb1 : vals.length + 1 ≤ 1000000)
    (h : ∀ v' w', Deq w' 39 v' (vals ++ [.slice a yn yc]) → w.grownBy w' v.ownBlock → (∀ k, v'.ownBlock = some k → v.ownBlock = some k ∨ w.heap.size ≤ k) → wpList Try.prog ops Q rest (act.put o.dst v') w') : wpList Try.prog ops Q (o :: rest) act w := by
  have hI := Try.info_its
  cases hi : Try.prog.info? 39 with
  | none => rw [hi] at hI; cases hI
  | some i0 =>
    rw [hi] at hI
    simp only [Option.map_some, Option.some.injEq, Prod.mk.injEq] at hI
    exact wpList_app_deq hgd s x 45 ho Try.underlying45 hi hI.1 hI.2.1 hI.2.2 rfl hs hd hx hy rfl hb1 (by decide) rfl h
/-- A take. -/
structure TkT where
  at_ : Int
  which : Int
  ack : Bool
structure tkE (w : World) (b o : Nat) (t : TkT) : Prop where
  at_ : w.cell? ⟨b, o, none⟩ = some (.int .i64 t.at_)
  which : w.cell? ⟨b, o + 1, none⟩ = some (.int .i64 t.which)
  ack : w.cell? ⟨b, o + 2, none⟩ = some (.bool t.ack)
abbrev TakesAt (w : World) (S : Nat → Prop) (v : Value) (l : List TkT) : Prop := RowAt w S 3 (tkE w) v l
theorem TakesAt.keep {w w' : World} {S : Nat → Prop} {v : Value} {l : List TkT} (h : TakesAt w S v l) (hk : Kp w w' S) : TakesAt w' S v l := RowAt.map h hk.size (fun _ _ h => h) (fun b o x hb hS hx => ⟨hk.cell hb hS hx.at_, hk.cell hb hS hx.which, hk.cell hb hS hx.ack⟩)
theorem Try.cellsTkq : Try.prog.cellsOf 47 = 3 := by kernel_rfl
theorem Try.bytesTkq : Try.prog.bytesOf 47 = 24 := by kernel_rfl
theorem Try.cells4' : Try.prog.cellsOf 4 = 1 := by kernel_rfl
theorem take_of {H : Type} {enc : TypeId × Value → H} {W : World} (n : Nat) (cs : List Value) (y : DataW H × List MemPlace) (h : DataW.trod enc Try.prog W 0 (fun _ => true) true n 47 cs = some y) (hz : ∀ m ∈ y.1.weights Try.prog 47, m ≤ reachBytes) : ∃ x : TkT, True ∧ ∀ b o, (∀ j x', cs[j]? = some x' → W.cell? ⟨b, o + j, none⟩ = some x') → tkE W b o x := by
  obtain ⟨xs, m, _, hx, hl, hxl, hf⟩ := DataW.trod_struct Try.underlying47 h
  rw [Try.cellsTkq] at hl
  obtain ⟨c0, c1, c2, rfl⟩ := list3 hl
  obtain ⟨x0, x1, x2, rfl⟩ := list3 (l := xs) hxl
  obtain ⟨z0, q0, _⟩ := DataW.trod_int Try.underlying3 (hf 0 _ rfl)
  obtain ⟨z1, q1, _⟩ := DataW.trod_int Try.underlying3 (hf 1 _ rfl)
  obtain ⟨z2, q2, _⟩ := DataW.trod_bool Try.underlying4 (hf 2 _ rfl)
  simp [Try.cells3', Try.cells4'] at q0 q1 q2
  subst q0 q1 q2
  exact ⟨⟨z0, z1, z2⟩, trivial, fun b o hc => ⟨hc 0 _ rfl, hc 1 _ rfl, hc 2 _ rfl⟩⟩
theorem takes_of {H : Type} {enc : TypeId × Value → H} {W : World} {v : Value} {d : DataW H} {p : List MemPlace} (h : DataW.Trod enc Try.prog W 0 (fun _ => true) true 44 v d p) (hv : v.cells.toList = [v]) (hz : ∀ m ∈ d.weights Try.prog 44, m ≤ reachBytes) :
    ∃ l : List TkT, TakesAt W (fun b => b < W.heap.size) v l ∧ l.length ≤ maxLen ∧ True := by
  obtain ⟨fuel, hf⟩ := h
  rw [hv] at hf
  obtain ⟨l, h1, _, _, h4⟩ := row_of Try.underlying44 Try.cellsTkq Try.bytesTkq (by decide) (tkE W) (fun _ => True) take_of hf hz
  exact ⟨l, h1, h4, trivial⟩
set_option maxHeartbeats 1600000 in
theorem miss_any (v : Value) (P : List Int) (lo hi : Int) (w : World) (h : Deq w 3 v (P.map (.int .i64 ·))) (hl : P.length ≤ 60) (hm : ∀ p ∈ P, p ≤ lo ∨ hi ≤ p) :
    Calls Try.prog 18 #[v, .int .i64 lo, .int .i64 hi] w fun e w' => e = .returned (.bool false) ∧ Below w.heap.size w w' := by
  obtain ⟨a, c, rfl, hc⟩ := Deq.form h
  rw [List.length_map] at h hc ⊢
  obtain ⟨n, hn⟩ : ∃ n, P.length = n := ⟨_, rfl⟩
  rw [hn] at h hl hc ⊢
  have HN : Hid (P.length = n) := hn
  have H1 : Hid (Deq w 3 (.slice a n c) (P.map (.int .i64 ·))) := h
  have HM : Hid (∀ p ∈ P, p ≤ lo ∨ hi ≤ p) := hm
  clear h hn hc hm
  go_enter Try.func18, Try.ntmps18
  go_wp2_with fail
  go_loopw [7] (fun i wr => ∃ q : Nat, i = .int .i64 q ∧ q ≤ n ∧ Hid (∃ z, wr = w.drewN z)) (fun i _ => n - (intOf i).toNat)
  case atStart => exact ⟨0, rfl, Nat.zero_le _, ⟨0, rfl⟩⟩
  case round =>
    obtain ⟨q, rfl, hq, ⟨z, hz⟩⟩ := hrel
    subst hz
    by_cases hlt : q < n
    · have hqi : (q : Int) < (n : Int) := by omega
      obtain ⟨x, hx⟩ : ∃ x, P[q]? = some x := ⟨P[q]'(by rw [HN.out]; exact hlt), List.getElem?_eq_getElem _⟩
      obtain ⟨b, o, rfl, _, s0⟩ := Deq.get H1.out (x := .int .i64 x) (j := q) (by rw [List.getElem?_map, hx]; rfl)
      have hx2 := HM.out x (List.mem_of_getElem? hx)
      clear hx
      by_cases h1 : lo < x
      · have d1 : decide (lo < x) = true := by simpa using h1
        have d2 : ¬ x < hi := by omega
        have d3 : decide (x < hi) = false := by simpa using d2
        clear hx2
        go_wp2_with fail
        go_roundw
        case rel => exact ⟨q + 1, by go_num, by omega, ⟨_, rfl⟩⟩
        case measure => simp [intOf]; omega
      · have d1 : decide (lo < x) = false := by simpa using h1
        clear hx2
        go_wp2_with fail
        go_roundw
        case rel => exact ⟨q + 1, by go_num, by omega, ⟨_, rfl⟩⟩
        case measure => simp [intOf]; omega
    · obtain rfl : q = n := by omega
      have hge : ¬ (q : Int) < (q : Int) := by omega
      go_wp2_with fail
      go_ret
      exact ⟨rfl, below_drewN (Below.refl _ _) _⟩
end Go.Proofs.Ytlidkieljiebiaa
