import Derived.Test.YtliafokjdngejaaGreatDoorTMal
import Derived.Lib.QuoteBits
import Derived.Test.YtliafokjdngejaaGreatDoorTOne
import Derived.Test.YtliafokjdngejaaGreatDoorTMakeC
import Derived.Test.YtliafokjdngejaaGreatDoorTDrop
namespace Go.Proofs.YtliafokjdngejaaGreatDoor
open Go.RowKit Go.Maps
set_option linter.unusedVariables false
set_option linter.unusedSimpArgs false

theorem hi64_4 (a : Nat) (h : a < 18446744073709551616) : a &&& 18446744073709551612 = a / 4 * 4 := by
  apply Nat.eq_of_testBit_eq
  intro i
  rw [Nat.testBit_and]
  have e : a / 4 * 4 = (a >>> 2) <<< 2 := by rw [Nat.shiftLeft_eq, Nat.shiftRight_eq_div_pow]
  have e2 : 18446744073709551612 = (2 ^ 62 - 1) <<< 2 := by decide
  rw [e, e2, Nat.testBit_shiftLeft, Nat.testBit_shiftLeft, Nat.testBit_two_pow_sub_one, Nat.testBit_shiftRight]
  by_cases h2 : 2 ≤ i
  · rw [show 2 + (i - 2) = i by omega]
    by_cases h3 : i - 2 < 62
    · simp [h2, h3]
    · have : a.testBit i = false := Nat.testBit_lt_two_pow (Nat.lt_of_lt_of_le h (by rw [show 18446744073709551616 = 2 ^ 64 by decide]; exact Nat.pow_le_pow_right (by decide) (by omega)))
      simp [this]
  · simp [h2]
theorem andNot_flags (f : Int) (h0 : -9223372036854775808 ≤ f) (h1 : f < 9223372036854775808) (hf : ¬ (0 ≤ f ∧ f ≤ 3)) : bits BinOp.andNot IntKind.i64 f 3 ≠ 0 := by
  show IntKind.i64.wrap ((BitVec.ofInt 64 f &&& ~~~BitVec.ofInt 64 3).toNat : Int) ≠ 0
  have e3 : (~~~BitVec.ofInt 64 3 : BitVec 64).toNat = 18446744073709551612 := by decide
  have ef : (BitVec.ofInt 64 f).toNat = (f % 18446744073709551616).toNat := by rw [BitVec.toNat_ofInt]; rfl
  rw [BitVec.toNat_and, e3, ef, hi64_4 _ (by omega), IntKind.wrap_i64]
  omega
set_option maxHeartbeats 1600000 in
theorem mal_out {k : Int} (hk : k < 1 ∨ 7 < k) (rb : Nat) (s : Int) (p d : ByteArray) (v f : Int) (w : World) :
    Calls Tryz.prog 51 #[.pointer (some ⟨rb, 0, none⟩), opV k p d v f] w fun e w' => e = .returned (.int .i64 48) ∧ Below w.heap.size w w' := by
  rcases hk with hk | hk
  · go_enter Tryz.func51, Tryz.ntmps51
    go_wp2
    go_ret
    exact ⟨rfl, (Below.refl _ _).alloc (Nat.le_refl _) _⟩
  · have h1 : ¬ k < 1 := by omega
    go_enter Tryz.func51, Tryz.ntmps51
    go_wp2
    go_ret
    exact ⟨rfl, (Below.refl _ _).alloc (Nat.le_refl _) _⟩
set_option maxHeartbeats 1600000 in
theorem mal_flag (rb : Nat) (s : Int) (p d : ByteArray) (v f : Int) (h0 : -9223372036854775808 ≤ f) (h1 : f < 9223372036854775808) (hf : ¬ (0 ≤ f ∧ f ≤ 3)) (w : World) (hg : GroundT w) :
    Calls Tryz.prog 51 #[.pointer (some ⟨rb, 0, none⟩), opV 1 p d v f] w fun e w' => e = .returned (.int .i64 48) ∧ Below w.heap.size w w' := by
  have n0 := hg.need 1 0 true rfl
  have n1 := hg.need 1 1 true rfl
  have n2 := hg.need 1 2 true rfl
  have n3 := hg.need 1 3 false rfl
  have n4 := hg.need 1 4 false rfl
  have n5 := hg.need 1 5 false rfl
  simp only [Nat.reduceMul, Nat.reduceAdd] at n0 n1 n2 n3 n4 n5
  have hlt := hg.needLt
  obtain ⟨z, hz⟩ : ∃ z, bits BinOp.andNot IntKind.i64 f 3 = z := ⟨_, rfl⟩
  have hz0 : (z == 0) = false := by have := andNot_flags f h0 h1 hf; rw [hz] at this; simpa using this
  have hz1 : (z != 0) = true := by simp [bne, hz0]
  clear hg h0 h1 hf
  go_enter Tryz.func51, Tryz.ntmps51
  go_wp2
  go_ret
  exact ⟨rfl, ((Below.refl _ _).alloc (Nat.le_refl _) _).alloc (by simp) _⟩
end Go.Proofs.YtliafokjdngejaaGreatDoor
namespace Go.Proofs.YtliafokjdngejaaGreatDoor
open Go.RowKit Go.Maps Go.WideShapes
set_option linter.unusedVariables false
set_option linter.unusedSimpArgs false

/-- The result's value, the nodes and the changes behind one op. -/
structure ReqE (w : World) (base rb mb n : Nat) (s st : Int) (chV : Value) (cn : Nat) (cs : List Value) (R : ResT) (T : List Nd) (ch : List ChT) (ka : Option Addr) (kn kc : Nat) (w' : World) : Prop where
  kids : w'.ownsRow w.heap.size 9 1 (.slice ka kn kc) R.kids.length (R.kids.map Value.string)
  req : ∃ n' D' chV', n' ≤ n + 2 ∧ Rep D' T ∧ ReqAt w' base rb mb n' D' s st chV' (cn + ch.length) (cs ++ chCs ch) ∧ (chV'.ownBlock = chV.ownBlock ∨ ∃ g, chV'.ownBlock = some g ∧ w.heap.size ≤ g)
  chg : Chg w w' (fun k => k = rb ∨ k = mb ∨ chV.ownBlock = some k)
abbrev ReqE.V (R : ResT) (ka : Option Addr) (kn kc : Nat) : Value := resV R.p R.d R.v R.m R.c R.o (.slice ka kn kc)
theorem ReqE.err {w w' : World} {base rb mb n : Nat} {D : DataW Value} {T : List Nd} {s st : Int} {chV : Value} {cn : Nat} {cs : List Value} (hR : ReqAt w base rb mb n D s st chV cn cs) (hr : Rep D T) (hb : Below w.heap.size w w') : ReqE w base rb mb n s st chV cn cs zr T [] none 0 0 w' :=
  ⟨World.ownsRow_nil _ _ _ _, ⟨n, D, chV, by omega, hr, by simpa [chCs] using hR.below hb, .inl rfl⟩, Chg.of_below hb _⟩
/-- Behind the store into the result's box. -/
theorem ReqE.fin {w W w2 : World} {base rb mb n zb : Nat} {s st : Int} {chV : Value} {cn : Nat} {cs : List Value} {R : ResT} {T : List Nd} {ch : List ChT} {ka : Option Addr} {kn kc : Nat} {cs0 : Array Value} {x0 x1 x2 x3 x4 x5 x6 : Value} (h : ReqE W base rb mb n s st chV cn cs R T ch ka kn kc w2) (hW : Below w.heap.size w W) (hz : w2.heap[zb]? = some (.cells cs0 40 (0, 0))) (hzb : w.heap.size ≤ zb) (hrb : rb < w.heap.size) (hmb : mb < w.heap.size) :
    ReqE w base rb mb n s st chV cn cs R T ch ka kn kc (put_7 w2 zb x0 x1 x2 x3 x4 x5 x6) := by
  have hk : (put_7 w2 zb x0 x1 x2 x3 x4 x5 x6).ownsRow W.heap.size 9 1 (.slice ka kn kc) R.kids.length (R.kids.map Value.string) := owns_chg h.kids putC_7 (fun j hj e => by
    have e' : j = zb := e
    subst e'
    obtain ⟨cur, hcur⟩ := owns_kind h.kids hj
    rw [hz] at hcur
    simp at hcur)
  obtain ⟨n', D', chV', hn, hr, hR, hc⟩ := h.req
  refine ⟨⟨hk.1, hk.2.imp id (fun ⟨g, cap, cur, h1, h2, r⟩ => ⟨g, cap, cur, h1, Nat.le_trans hW.size h2, r⟩)⟩, ⟨n', D', chV', hn, hr, hR.chg putC_7 (by omega) (by omega) (fun k hkb e => by
    have e' : k = zb := e
    subst e'
    obtain ⟨cur, hcur⟩ := owns_kind hR.row hkb
    rw [hz] at hcur
    simp at hcur), hc.imp id (fun ⟨g, h1, h2⟩ => ⟨g, h1, Nat.le_trans hW.size h2⟩)⟩, ?_⟩
  exact (((Chg.of_below hW _).trans (h.chg.mono (S' := fun k => (k = rb ∨ k = mb ∨ chV.ownBlock = some k) ∨ k = zb) (fun _ _ h => .inl h))).trans (putC_7.mono (fun _ _ h => .inr h))).mono (fun k hk h => h.elim id (fun e => absurd hk (by omega)))
theorem Rep.make {D : DataW Value} {T : List Nd} (h : Rep D T) {u u' n : Nd} (hu : u ∈ T) (hp : u'.p = u.p) (hn : ∀ x ∈ T, x.p ≠ n.p) : Rep ((D.put (ky u'.p) (.held u'.V)).put (ky n.p) (.held n.V)) (ins n (upd T u')) := by
  have h1 := (h.put u').perm (upd_perm h.nd ⟨u, hu, hp.symm⟩)
  have h2 := h1.put n
  have e : (upd T u').filter (fun x => decide (x.p ≠ n.p)) = upd T u' := List.filter_eq_self.2 (fun x hx => by
    have hm : x.p ∈ (upd T u').map Nd.p := List.mem_map_of_mem hx
    rw [upd_map] at hm
    obtain ⟨z, hz, e⟩ := List.mem_map.1 hm
    have := hn z hz
    rw [e] at this
    simpa using this)
  rw [e] at h2
  exact h2.perm (ins_perm n _)
theorem Rep.set {D : DataW Value} {T : List Nd} (h : Rep D T) {u y : Nd} (hu : u ∈ T) (hp : y.p = u.p) : Rep (D.put (ky y.p) (.held y.V)) (upd T y) := (h.put y).perm (upd_perm h.nd ⟨u, hu, hp.symm⟩)
/-- What a Make that is well formed tells of itself. -/
theorem mal_ok1 {s : Int} {p d : ByteArray} {f : Int} (h : malC s 1 p d f = 0) : (0 ≤ f ∧ f ≤ 3) ∧ (parse p).1 = 0 ∧ (2 ≤ f → (lastN p).size ≤ 11) ∧ p ≠ ⟨#[47]⟩ ∧ d.size ≤ 64 := by
  unfold malC at h
  split at h
  · cases h
  split at h
  · cases h
  split at h
  · cases h
  split at h
  · cases h
  split at h
  · cases h
  split at h
  · cases h
  rename_i h1 h2 h3 h4 h5 h6
  refine ⟨?_, ?_, fun hf => ?_, ?_, ?_⟩
  · by_cases hf : 0 ≤ f ∧ f ≤ 3
    · exact hf
    · exact absurd ⟨rfl, hf⟩ h2
  · by_cases hp : (parse p).1 = 0
    · exact hp
    · exact absurd (.inl hp) h3
  · by_cases hl : 11 < (lastN p).size
    · exact absurd (.inr ⟨⟨rfl, hf⟩, hl⟩) h3
    · omega
  · exact fun e => h4 ⟨.inl rfl, e⟩
  · by_cases hd : 64 < d.size
    · exact absurd ⟨.inl rfl, hd⟩ h6
    · omega
theorem names_of {p : ByteArray} (hp : (parse p).1 = 0) (hr : p ≠ ⟨#[47]⟩) : ∃ xs k x, parse p = (0, xs) ∧ xs.length = k + 1 ∧ xs[k]? = some x ∧ lastN p = x := by
  obtain ⟨c, xs, h⟩ : ∃ c xs, parse p = (c, xs) := ⟨_, _, rfl⟩
  rw [h] at hp
  obtain rfl : c = 0 := hp
  rcases List.eq_nil_or_concat xs with rfl | ⟨ys, x, e⟩
  · have := parse_back h
    rw [placeB, if_pos rfl] at this
    exact absurd this.symm hr
  · rw [List.concat_eq_append] at e
    subst e
    exact ⟨_, ys.length, x, h, by simp, by simp, by unfold lastN; rw [h]; simp⟩
theorem par_size {p : ByteArray} (hp : (parse p).1 = 0) : (parB p).size ≤ 102 := by
  unfold parB
  obtain ⟨c, xs, h⟩ : ∃ c xs, parse p = (c, xs) := ⟨_, _, rfl⟩
  rw [h]
  have hl := parse_len h
  cases xs with
  | nil => show (0 : Nat) ≤ 102; omega
  | cons x r =>
    refine place_size ?_ (all_take hl.2 _)
    have h1 := hl.1
    show ((x :: r).take ((x :: r).length - 1)).length ≤ 6
    rw [List.length_take]
    exact Nat.le_trans (Nat.min_le_right _ _) h1
end Go.Proofs.YtliafokjdngejaaGreatDoor
