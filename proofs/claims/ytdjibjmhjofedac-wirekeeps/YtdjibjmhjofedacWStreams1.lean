/-
  WireStreams: two streams beside one another.
-/
import Derived.Test.YtdjibjmhjofedacWFollow
import Derived.Test.YtdjibjmhjofedacWAllUnC
namespace Go.Proofs.Ytdjibjmhjofedac
open Go.RowKit
set_option linter.unusedVariables false

/-- The blocks of a stream. -/
def Own (sb : Nat) (rv fv : Value) (fs : List (Value × List Int)) : Nat → Prop := fun b => b = sb ∨ rv.ownBlock = some b ∨ fv.ownBlock = some b ∨ BodyB fs b

theorem St.own_lt {w : World} {sb sk : Nat} {rv fv : Value} {xs : List Int} {fs : List (Value × List Int)} (h : St w sb rv fv xs fs sk) : ∀ b, Own sb rv fv fs b → b < w.heap.size := by
  rintro b (rfl | e | e | ⟨p, hp, e⟩)
  · exact h.lt
  · exact (owns_kind h.room b e).1
  · exact (h.fnd.lt b e).1
  · exact h.lt_b p hp b e
theorem St.off {S : Nat → Prop} {w w' : World} {sb sk : Nat} {rv fv : Value} {xs : List Int} {fs : List (Value × List Int)} (h : St w sb rv fv xs fs sk) (hf : Fr S w w') (hS : ∀ b, Own sb rv fv fs b → ¬ S b) : St w' sb rv fv xs fs sk :=
  h.fr hf (hS sb (.inl rfl)) (fun k hk => hS k (.inr (.inl hk))) (fun k hk => hS k (.inr (.inr (.inl hk)))) (fun p hp k hk => hS k (.inr (.inr (.inr ⟨p, hp, hk⟩))))
theorem StQ.off {S : Nat → Prop} {w w' : World} {sb m : Nat} {rv fv : Value} {P : List Int} {fs : List (Value × List Int)} (h : StQ w sb rv fv P m fs) (hf : Fr S w w') (hS : ∀ b, Own sb rv fv fs b → ¬ S b) : StQ w' sb rv fv P m fs :=
  ⟨h.st.off hf hS, h.all, h.le⟩

/-- Two streams, and what lay there before them. -/
structure Two (w : World) (sb : Nat) (rv fv : Value) (P : List Int) (m : Nat) (fs : List (Value × List Int)) (tb : Nat) (rt ft : Value) (Q : List Int) (n : Nat) (gs : List (Value × List Int)) (W : World) : Prop where
  one : StQ W sb rv fv P m fs
  two : StQ W tb rt ft Q n gs
  lone : ∀ b, Own sb rv fv fs b → w.heap.size ≤ b
  ltwo : ∀ b, Own tb rt ft gs b → w.heap.size ≤ b
  apart : ∀ b, Own sb rv fv fs b → ¬ Own tb rt ft gs b
  bel : Below w.heap.size w W

theorem Two.symm {w W : World} {sb tb m n : Nat} {rv fv rt ft : Value} {P Q : List Int} {fs gs : List (Value × List Int)} (h : Two w sb rv fv P m fs tb rt ft Q n gs W) : Two w tb rt ft Q n gs sb rv fv P m fs W :=
  ⟨h.two, h.one, h.ltwo, h.lone, fun b hb e => h.apart b e hb, h.bel⟩

/-- The first turns within its own blocks, and into new ones. -/
theorem Two.turn {S : Nat → Prop} {w W W' : World} {sb tb m n m' : Nat} {rv fv rt ft rv' fv' : Value} {P P' Q : List Int} {fs fs' gs : List (Value × List Int)} (h : Two w sb rv fv P m fs tb rt ft Q n gs W) (hf : Fr S W W') (hS : ∀ b, S b → Own sb rv fv fs b) (hq : StQ W' sb rv' fv' P' m' fs') (hn : ∀ b, Own sb rv' fv' fs' b → Own sb rv fv fs b ∨ W.heap.size ≤ b) :
    Two w sb rv' fv' P' m' fs' tb rt ft Q n gs W' := by
  refine ⟨hq, h.two.off hf (fun b hb e => h.apart b (hS b e) hb), fun b hb => ?_, h.ltwo, fun b hb e => ?_, h.bel.trans (hf.below _ h.bel.size (fun b e => h.lone b (hS b e)))⟩
  · rcases hn b hb with g | g
    · exact h.lone b g
    · exact Nat.le_trans h.bel.size g
  · rcases hn b hb with g | g
    · exact h.apart b g e
    · have := h.two.st.own_lt b e
      omega
theorem Two.fed {w W W' : World} {sb tb m n : Nat} {rv fv rt ft rv' fv' : Value} {P Q ys : List Int} {fs gs hs : List (Value × List Int)} (h : Two w sb rv fv P m fs tb rt ft Q n gs W) (hF : Fed W sb rv fv (P.drop (dec P).2.2) fs (dec P).2.1 ys W' rv' fv' hs) :
    Two w sb rv' fv' (P ++ ys) m (fs ++ hs) tb rt ft Q n gs W' := by
  refine h.turn hF.fr (fun b e => ?_) (h.one.fed hF) (fun b hb => ?_)
  · rcases e with e | e | e
    · exact .inl e
    · exact .inr (.inl e)
    · exact .inr (.inr (.inl e))
  · rcases hb with e | e | e | ⟨p, hp, e⟩
    · exact .inl (.inl e)
    · exact (hF.rvf b e).imp (fun g => .inr (.inl g)) (fun g => g)
    · exact (hF.fvf b e).imp (fun g => .inr (.inr (.inl g))) (fun g => g)
    · rcases List.mem_append.1 hp with g | g
      · exact .inl (.inr (.inr (.inr ⟨p, g, e⟩)))
      · exact .inr (hF.gsf p g b e)
theorem Two.followed {w W W' : World} {sb tb m n k : Nat} {rv fv rt ft fv' : Value} {P Q : List Int} {fs gs : List (Value × List Int)} (h : Two w sb rv fv P m fs tb rt ft Q n gs W) (hq : StQ W' sb rv fv' P (m + k) (fs.drop k)) (hf : Fr (fun b => b = sb ∨ fv.ownBlock = some b ∨ BodyB fs b) W W') (hs : ∀ b, fv'.ownBlock = some b → fv.ownBlock = some b) :
    Two w sb rv fv' P (m + k) (fs.drop k) tb rt ft Q n gs W' := by
  refine h.turn hf (fun b e => ?_) hq (fun b hb => .inl ?_)
  · rcases e with e | e | e
    · exact .inl e
    · exact .inr (.inr (.inl e))
    · exact .inr (.inr (.inr e))
  · rcases hb with e | e | e | ⟨p, hp, e⟩
    · exact .inl e
    · exact .inr (.inl e)
    · exact .inr (.inr (.inl (hs b e)))
    · exact .inr (.inr (.inr ⟨p, List.mem_of_mem_drop hp, e⟩))
theorem Two.below {w W W' : World} {sb tb m n : Nat} {rv fv rt ft : Value} {P Q : List Int} {fs gs : List (Value × List Int)} (h : Two w sb rv fv P m fs tb rt ft Q n gs W) (hb : Below W.heap.size W W') : Two w sb rv fv P m fs tb rt ft Q n gs W' :=
  h.turn (Fr.of_below hb (fun _ => False)) (fun _ e => e.elim) (h.one.off (Fr.of_below hb (fun _ => False)) (fun _ _ e => e)) (fun b hb => .inl hb)

/-- Both are new. -/
theorem Two.start {w W : World} (hb : Below w.heap.size w W) :
    Two w W.heap.size (.slice none 0 0) (.slice none 0 0) [] 0 [] (W.heap.size + 1) (.slice none 0 0) (.slice none 0 0) [] 0 [] ((W.alloc (.cells #[.slice none 0 0, .slice none 0 0, .int .i64 0] 33)).alloc (.cells #[.slice none 0 0, .slice none 0 0, .int .i64 0] 33)) := by
  have hs := hb.size
  have o : ∀ {x b : Nat}, Own x (.slice none 0 0) (.slice none 0 0) [] b → b = x := by
    rintro x b (e | e | e | ⟨p, hp, e⟩)
    · exact e
    · cases e
    · cases e
    · cases hp
  have h2 := StQ.zero (W.alloc (.cells #[.slice none 0 0, .slice none 0 0, .int .i64 0] 33))
  rw [World.size_alloc] at h2
  refine ⟨(StQ.zero W).off (Fr.of_below ((Below.refl _ _).alloc (Nat.le_refl _) _) (fun _ => False)) (fun _ _ e => e), h2, fun b e => ?_, fun b e => ?_, fun b e f => ?_, (hb.alloc hs _).alloc (by rw [World.size_alloc]; omega) _⟩
  · rw [o e]; exact hs
  · rw [o e]; omega
  · have := o e; have := o f; omega

/-- The first pieces of a row. -/
theorem Pcs.take {w : World} {a : Option Addr} {ps : List Pc} (h : Pcs w a ps) (k : Nat) : Pcs w a (ps.take k) := by
  refine ⟨?_, fun p hp => h.2 p (List.mem_of_mem_take hp)⟩
  rcases h.1 with rfl | ⟨b, o, rfl, hb, hc⟩
  · exact .inl (by simp)
  · refine .inr ⟨b, o, rfl, hb, fun j p hp => hc j p ?_⟩
    rw [List.getElem?_take] at hp
    split at hp
    · exact hp
    · cases hp

/-- How much there is of each. -/
theorem StQ.few {w : World} {sb m : Nat} {rv fv : Value} {P : List Int} {fs : List (Value × List Int)} (h : StQ w sb rv fv P m fs) : fs.length + m = (dec P).1.length ∧ (dec P).1.length ≤ P.length ∧ (dec P).2.1 ≤ P.length := by
  have h1 := congrArg List.length h.all
  rw [List.length_drop, List.length_map] at h1
  have := h.le
  exact ⟨by omega, dec_count P⟩
end Go.Proofs.Ytdjibjmhjofedac
