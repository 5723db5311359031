/-
  Twins, turned one behind the other.
-/
import Derived.Test.YtdjibjmhjofedabWAllUn
namespace Go.Proofs.Ytdjibjmhjofedab
open Go.RowKit

def turnT (t : Tw) : Tw := (t.1, t.2.1, turnL t.2.2)
def turnTs (k : Nat) (ts : List Tw) : List Tw := (ts.take k).map turnT ++ ts.drop k
theorem turnTs_zero (ts : List Tw) : turnTs 0 ts = ts := by simp [turnTs]
theorem turnTs_all (ts : List Tw) : turnTs ts.length ts = ts.map turnT := by simp [turnTs]
theorem turnT_val (t : Tw) : (turnT t).val = t.val := by unfold turnT Tw.val; simp only; rw [turnL_len]
theorem turnTs_vals (k : Nat) (ts : List Tw) : (turnTs k ts).map Tw.val = ts.map Tw.val := by
  unfold turnTs
  rw [List.map_append, List.map_map]
  have : (Tw.val ∘ turnT) = Tw.val := funext turnT_val
  rw [this, ← List.map_append, List.take_append_drop]
theorem turnTs_len (k : Nat) (ts : List Tw) : (turnTs k ts).length = ts.length := by
  have := congrArg List.length (turnTs_vals k ts)
  simpa using this
theorem turnTs_at {k : Nat} {ts : List Tw} {t : Tw} (h : ts[k]? = some t) : turnTs k ts = (ts.take k).map turnT ++ t :: ts.drop (k + 1) ∧ turnTs (k + 1) ts = (ts.take k).map turnT ++ turnT t :: ts.drop (k + 1) := by
  have hl : k < ts.length := (List.getElem?_eq_some_iff.1 h).1
  have hd : ts.drop k = t :: ts.drop (k + 1) := by
    rw [List.drop_eq_getElem_cons hl]
    rw [List.getElem?_eq_getElem hl] at h
    rw [Option.some.inj h]
  constructor
  · unfold turnTs
    rw [hd]
  · unfold turnTs
    rw [List.take_add_one, h, List.map_append, List.append_assoc]
    rfl
/-- One twin's bytes are written. -/
theorem Tws.put {w w1 : World} {base : Nat} {A B : List Tw} {t t' : Tw} (h : Tws w base (A ++ t :: B)) (hg : w.grownBy w1 (some t.1)) (h1 : t'.1 = t.1) (hr : Room w1 base t'.1 t'.2.1 t'.2.2) (hb : Byt t'.2.2) : Tws w1 base (A ++ t' :: B) := by
  have hnd := h.nodup
  rw [List.map_append, List.map_cons, List.nodup_append] at hnd
  have hcons := List.nodup_cons.1 hnd.2.1
  have hne : ∀ s, s ∈ A ∨ s ∈ B → s.1 ≠ t.1 := by
    intro s hs e
    rcases hs with hs | hs
    · exact hnd.2.2 s.1 (List.mem_map.2 ⟨s, hs, rfl⟩) t.1 (by simp) e
    · exact hcons.1 (e ▸ List.mem_map.2 ⟨s, hs, rfl⟩)
  refine ⟨fun s hs => ?_, fun s hs => ?_, ?_⟩
  · rcases List.mem_append.1 hs with g | g
    · exact owns_same (h.room s (List.mem_append.2 (.inl g))) fun k hk => by cases hk; exact hg.block _ (h.room s (List.mem_append.2 (.inl g))).lt.2 (fun e => hne s (.inl g) (Option.some.inj e))
    · rcases List.mem_cons.1 g with rfl | g
      · exact hr
      · have hs' : s ∈ A ++ t :: B := List.mem_append.2 (.inr (List.mem_cons.2 (.inr g)))
        exact owns_same (h.room s hs') fun k hk => by cases hk; exact hg.block _ (h.room s hs').lt.2 (fun e => hne s (.inr g) (Option.some.inj e))
  · rcases List.mem_append.1 hs with g | g
    · exact h.byt s (List.mem_append.2 (.inl g))
    · rcases List.mem_cons.1 g with rfl | g
      · exact hb
      · exact h.byt s (List.mem_append.2 (.inr (List.mem_cons.2 (.inr g))))
  · rw [List.map_append, List.map_cons, h1]
    have := h.nodup
    rwa [List.map_append, List.map_cons] at this
theorem Tws.next {w w1 : World} {base k : Nat} {ts : List Tw} {t : Tw} (h : Tws w base (turnTs k ts)) (ht : ts[k]? = some t) (hg : w.grownBy w1 (some t.1)) (hr : Room w1 base t.1 t.2.1 (turnL t.2.2)) (hb : Byt t.2.2) : Tws w1 base (turnTs (k + 1) ts) := by
  have e := turnTs_at ht
  rw [e.1] at h
  rw [e.2]
  exact Tws.put (t' := turnT t) h hg rfl hr (turnL_byt hb)
theorem Tws.now {w : World} {base k : Nat} {ts : List Tw} {t : Tw} (h : Tws w base (turnTs k ts)) (ht : ts[k]? = some t) : Room w base t.1 t.2.1 t.2.2 ∧ Byt t.2.2 := by
  have e := turnTs_at ht
  rw [e.1] at h
  exact ⟨h.room t (by simp), h.byt t (by simp)⟩

/-- Rows of the call's own, gathered. -/
def Gat (w : World) (M : Nat) (N : List Pc) : Prop := ∀ p ∈ N, w.ownsRow M 5 1 p.val p.2.2.length (bv p.2.2) ∧ Byt p.2.2
theorem row_none' {w : World} {base n c : Nat} {a : Option Addr} {zs : List Int} (h : w.ownsRow base 5 1 (.slice a n c) n (bv zs)) : a = none → c = 0 := by
  obtain ⟨a', c', hv, _, hn, _⟩ := bys_of_owns h
  simp only [Value.slice.injEq] at hv
  rw [hv.1, hv.2.2]
  exact hn
theorem row_bys {w : World} {base n c : Nat} {a : Option Addr} {zs : List Int} (h : w.ownsRow base 5 1 (.slice a n c) n (bv zs)) : Bys w a zs := by
  obtain ⟨a', c', hv, hL, _⟩ := bys_of_owns h
  simp only [Value.slice.injEq] at hv
  rw [hv.1]
  exact hL
theorem Gat.ok {w : World} {M : Nat} {N : List Pc} (h : Gat w M N) : ∀ p ∈ N, p.ok w := fun p hp => ⟨row_bys (h p hp).1, (h p hp).2, row_none' (h p hp).1⟩
theorem Gat.kept {w w' : World} {M : Nat} {N : List Pc} {r : Option Nat} (h : Gat w M N) (hg : w.grownBy w' r) (hne : ∀ p ∈ N, ∀ k, p.val.ownBlock = some k → r ≠ some k) : Gat w' M N :=
  fun p hp => ⟨owns_same (h p hp).1 fun k hk => hg.block k (World.ownsRow.lt (h p hp).1 k hk).2 (fun e => hne p hp k hk e.symm), (h p hp).2⟩
theorem Gat.below {w w' : World} {M : Nat} {N : List Pc} (h : Gat w M N) (hb : Below w.heap.size w w') : Gat w' M N := fun p hp => ⟨owns_below (h p hp).1 hb, (h p hp).2⟩
theorem Gat.snoc {w : World} {M : Nat} {N : List Pc} (h : Gat w M N) {p : Pc} (hp : w.ownsRow M 5 1 p.val p.2.2.length (bv p.2.2)) (hb : Byt p.2.2) : Gat w M (N ++ [p]) := by
  intro s hs
  rcases List.mem_append.1 hs with g | g
  · exact h s g
  · rw [List.mem_singleton] at g; subst g; exact ⟨hp, hb⟩
/-- A row of lists is no row of bytes. -/
theorem rows_ne {w : World} {base base' n n' : Nat} {v u : Value} {vs us : List Value} (h : w.ownsRow base' 22 1 v n vs) (hr : w.ownsRow base 5 1 u n' us) {k : Nat} (hu : u.ownBlock = some k) : v.ownBlock ≠ some k := by
  intro hk
  obtain ⟨c1, h1⟩ := row_kind h hk
  obtain ⟨c2, h2⟩ := row_kind hr hu
  rw [h1] at h2
  have := Option.some.inj h2
  simp at this
theorem owns_mono {w : World} {B B' e n : Nat} {v : Value} {xs : List Value} (h : w.ownsRow B e 1 v n xs) (hb : B' ≤ B) : w.ownsRow B' e 1 v n xs :=
  ⟨h.1, h.2.imp id fun ⟨g, cap, cur, h1, h2, r⟩ => ⟨g, cap, cur, h1, Nat.le_trans hb h2, r⟩⟩
end Go.Proofs.Ytdjibjmhjofedab
