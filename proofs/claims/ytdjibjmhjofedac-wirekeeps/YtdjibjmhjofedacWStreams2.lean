/-
  WireStreams: Feed and follows with two streams.
-/
import Derived.Test.YtdjibjmhjofedacWStreams1
namespace Go.Proofs.Ytdjibjmhjofedac
open Go.RowKit
set_option linter.unusedVariables false

theorem two_feed {w W : World} {sb tb m n : Nat} {rv fv rt ft : Value} {P Q : List Int} {fs gs : List (Value × List Int)} (h : Two w sb rv fv P m fs tb rt ft Q n gs W) (a : Option Addr) (c : Nat) (ys : List Int) (hby : Bys W a ys) (hyb : Byt ys) (hyc : ys.length ≤ c) (hcm : c ≤ maxLen) (hl : (P ++ ys).length ≤ 20000) :
    Calls Try.prog 10 #[.pointer (some ⟨sb, 0, none⟩), .slice a ys.length c] W fun e w' => (∃ v, e = .returned v) ∧ ∃ rv' fv' fs', Two w sb rv' fv' (P ++ ys) m fs' tb rt ft Q n gs w' := by
  obtain ⟨h1, h2, h3⟩ := h.one.few
  rw [List.length_append] at hl
  refine (feed_st sb _ c a rv fv _ ys fs W h.one.st (dec_left P) hby hyb (by omega) hyc hcm (by rw [List.length_drop]; omega) (by omega)).mono ?_
  rintro e w' ⟨hv, rv', fv', hs, hF⟩
  exact ⟨hv, rv', fv', _, h.fed hF⟩
theorem two_feed' {w W : World} {sb tb m n : Nat} {rv fv rt ft : Value} {P Q : List Int} {fs gs : List (Value × List Int)} (h : Two w sb rv fv P m fs tb rt ft Q n gs W) (a : Option Addr) (c : Nat) (ys : List Int) (hby : Bys W a ys) (hyb : Byt ys) (hyc : ys.length ≤ c) (hcm : c ≤ maxLen) (hl : (Q ++ ys).length ≤ 20000) :
    Calls Try.prog 10 #[.pointer (some ⟨tb, 0, none⟩), .slice a ys.length c] W fun e w' => (∃ v, e = .returned v) ∧ ∃ rt' ft' gs', Two w sb rv fv P m fs tb rt' ft' (Q ++ ys) n gs' w' := by
  refine (two_feed h.symm a c ys hby hyb hyc hcm hl).mono ?_
  rintro e w' ⟨hv, rv', fv', hs, hF⟩
  exact ⟨hv, rv', fv', _, hF.symm⟩

theorem two_follows {w W : World} {sb tb m n : Nat} {rv fv rt ft : Value} {P Q : List Int} {fs gs : List (Value × List Int)} (h : Two w sb rv fv P m fs tb rt ft Q n gs W) (af : Option Addr) (cf : Nat) (ps : List Pc) (N : Nat) (most : Int) (hp : Pcs W af ps) (hN : N = ps.length) (hP : P = bodyOf ps) (hl : P.length ≤ 20000) (hk : ps.length ≤ 24) (hmost : -9223372036854775808 ≤ most ∧ most ≤ 9223372036854775807) :
    Calls Try.prog 21 #[.pointer (some ⟨sb, 0, none⟩), .slice af N cf, .int .i64 m, .int .i64 most] W fun e w' => ∃ m' fv' fs', e = .returned (.tuple #[.int .i64 ((m' : Nat) : Int), .bool true]) ∧ Two w sb rv fv' P m' fs' tb rt ft Q n gs w' ∧ m' ≤ 20000 ∧ (most = 100000 → m' = (dec P).1.length) := by
  subst hN hP
  obtain ⟨h1, h2, h3⟩ := h.one.few
  refine (follows_any sb m cf af rv fv fs ps most W hp hl hk h.one hmost).mono ?_
  rintro e w' ⟨k, fv', rfl, hq, hf, hs, hk1, hk2⟩
  refine ⟨m + k, fv', _, rfl, h.followed hq hf hs, by omega, fun e => ?_⟩
  have := hk2 (by omega)
  omega
theorem two_follows' {w W : World} {sb tb m n : Nat} {rv fv rt ft : Value} {P Q : List Int} {fs gs : List (Value × List Int)} (h : Two w sb rv fv P m fs tb rt ft Q n gs W) (af : Option Addr) (cf : Nat) (ps : List Pc) (N : Nat) (most : Int) (hp : Pcs W af ps) (hN : N = ps.length) (hP : Q = bodyOf ps) (hl : Q.length ≤ 20000) (hk : ps.length ≤ 24) (hmost : -9223372036854775808 ≤ most ∧ most ≤ 9223372036854775807) :
    Calls Try.prog 21 #[.pointer (some ⟨tb, 0, none⟩), .slice af N cf, .int .i64 n, .int .i64 most] W fun e w' => ∃ n' ft' gs', e = .returned (.tuple #[.int .i64 ((n' : Nat) : Int), .bool true]) ∧ Two w sb rv fv P m fs tb rt ft' Q n' gs' w' ∧ n' ≤ 20000 ∧ (most = 100000 → n' = (dec Q).1.length) := by
  refine (two_follows h.symm af cf ps N most hp hN hP hl hk hmost).mono ?_
  rintro e w' ⟨m', fv', fs', he, hT, h1, h2⟩
  exact ⟨m', fv', fs', he, hT.symm, h1, h2⟩

/-- A twin, where it is read. -/
theorem twin_at {w W : World} {la : Option Addr} {base k : Nat} {ts : List Tw} {ps : List Pc} {p : Pc} (hL : Pcs w la (ts.map Tw.pc)) (hT : Tws w base ts) (hE : ts.map (fun t => t.2.2) = ps.map (fun p => p.2.2)) (hp : ps[k]? = some p) (hb : Below w.heap.size w W) :
    ∃ b o a c, la = some ⟨b, o, none⟩ ∧ W.cell? ⟨b, o + k, none⟩ = some (.slice a p.2.2.length c) ∧ Bys W a p.2.2 ∧ Byt p.2.2 ∧ p.2.2.length ≤ c ∧ c ≤ maxLen := by
  have hk : k < ts.length := by rw [same_len hE]; exact (List.getElem?_eq_some_iff.1 hp).1
  have ht : ts[k]? = some ts[k] := List.getElem?_eq_getElem hk
  have e := same_at hE ht hp
  have hr := (hT.room _ (List.getElem_mem hk))
  have hc := hr.cap
  rcases hL.1 with h | ⟨b, o, rfl, hlt, hcell⟩
  · rw [List.map_eq_nil_iff] at h
    rw [h] at hk
    cases hk
  · refine ⟨b, o, some ⟨ts[k].1, 0, none⟩, ts[k].2.1, rfl, ?_, ?_, ?_, ?_, hc.2⟩
    · rw [hb.cell (p := ⟨b, o + k, none⟩) hlt, hcell k ts[k].pc (by rw [List.getElem?_map, ht]; rfl), ← e]
      rfl
    · rw [← e]; exact (hr.below hb).bys
    · rw [← e]; exact hT.byt _ (List.getElem_mem hk)
    · rw [← e]; omega
theorem body_take {ps : List Pc} {k : Nat} (h : ps.length ≤ k) : bodyOf (ps.take (k + 1)) = bodyOf (ps.take k) := by
  rw [List.take_of_length_le h, List.take_of_length_le (by omega)]
end Go.Proofs.Ytdjibjmhjofedac
