import Derived.Test.YtliafokjdngejaaGreatDoorTPlayS
import Derived.Test.YtliafokjdngejaaGreatDoorTMake
import Derived.Test.YtliafokjdngejaaGreatDoorTPlay3
namespace Go.Proofs.YtliafokjdngejaaGreatDoor
open Go.RowKit Go.Maps Go.WideShapes
set_option linter.unusedVariables false
set_option linter.unusedSimpArgs false

theorem mal_ok {s k : Int} {p d : ByteArray} {f : Int} (h : malC s k p d f = 0) : 1 ≤ k ∧ k ≤ 7 ∧ (parse p).1 = 0 ∧ (k = 2 → d.size ≤ 64) ∧ (k = 3 → p ≠ ⟨#[47]⟩) := by
  unfold malC at h
  split at h
  · cases h
  split at h
  · cases h
  split at h
  · cases h
  split at h
  · cases h
  split at h
  · cases h
  split at h
  · cases h
  rename_i h1 h2 h3 h4 h5 h6
  refine ⟨by omega, by omega, ?_, fun hk => ?_, fun hk e => h4 ⟨.inr hk, e⟩⟩
  · by_cases hp : (parse p).1 = 0
    · exact hp
    · exact absurd (.inl hp) h3
  · by_cases hd : 64 < d.size
    · exact absurd ⟨.inr hk, hd⟩ h6
    · omega
theorem mis_ok2 {ov nv : Int} {kids : List ByteArray} (h : misC 2 ov nv kids = 0) : nv < 2147483647 := by
  unfold misC at h
  split at h
  · cases h
  split at h
  · cases h
  split at h
  · cases h
  rename_i h1 h2 h3
  omega
set_option maxHeartbeats 1000000 in
theorem play_any (base rb mb n : Nat) (D : DataW Value) (T : List Nd) (s st : Int) (chV : Value) (cn : Nat) (cs : List Value) (o : OpT) (ho : o.Ok) (w : World) (hg : GroundT w) (hgc : GroundC w)
    (hR : ReqAt w base rb mb n D s st chV cn cs) (hr : Rep D T) (hi : Inv T) (hn : n ≤ 9000) (hcn : cn ≤ 900) :
    Calls Tryz.prog 29 #[.pointer (some ⟨rb, 0, none⟩), opV o.k o.p o.d o.v o.f] w (PlayEnd w base rb mb n s st chV cn cs (oneM T s st o)) := by
  have hM := mal_all o ho rb s
  have err : ∀ c e w', e = Ending.returned (.tuple #[noRes, .int .i64 c]) ∧ Below w.heap.size w w' → PlayEnd w base rb mb n s st chV cn cs (c, T, zr, []) e w' := fun c e w' ⟨he, hb⟩ => ⟨none, 0, 0, he, ReqE.err hR hr hb⟩
  unfold oneM
  by_cases hc : malC s o.k o.p o.d o.f = 0
  · rw [if_neg (by simpa using hc)]
    rw [hc] at hM
    obtain ⟨hk1, hk7, hp0, hd2, hr3⟩ := mal_ok hc
    have hps := size_of_parse hp0
    by_cases h1 : o.k = 1
    · rw [if_pos h1]
      have hK := fun W (hb : Below w.heap.size w W) => make_any base rb mb n D T s st chV cn cs o W (hg.below hb) (hgc.below hb) (hR.below hb) hr hi h1 hc hn hcn
      rw [h1] at hM hK ⊢
      exact play_mk base rb mb n D s st chV cn cs o.p o.d o.v o.f w hg hR (makeM T s st o) hM hK
    · rw [if_neg h1]
      cases hf : fnd T o.p with
      | none =>
        exact Calls.mono (play_40 (by omega) hk7 base rb mb n D s st chV cn cs o.p o.d o.v o.f w hg hR (by omega) (hr.look_none hf) (by rw [hr.has_fnd, hf]; rfl) hM) (err 40)
      | some x =>
        dsimp only
        have hx := fnd_some hf
        have hxn := hi.nd x hx.1
        have hxs := size_of_parse hxn.1
        have hF := fun W (hb : Below w.heap.size w W) => misfit_any (k := o.k) (by omega) hk7 base rb mb n D T s st chV cn cs o.p o.d o.v o.f x.p x.d x.v x.m x.c x.o x.k W (hg.below hb) (hR.below hb) hr hi.srt hi.sml (Nat.le_trans hi.len (by decide))
        have hlk := hr.look_fnd hf
        have hh : Maps.has D (ky o.p) = true := by rw [hr.has_fnd, hf]; rfl
        by_cases hm : misC o.k o.v x.v (kidsM T x.p) = 0
        · rw [if_neg (by simpa using hm)]
          rw [hm] at hF
          unfold restM
          by_cases h2 : o.k = 2
          · rw [if_pos h2]
            have hv := mis_ok2 (by rw [← h2]; exact hm)
            refine play_set (by omega) hk7 base rb mb n D s st chV cn cs o.p o.d o.v o.f w hg hR (by omega) h2 x.p x.d x.v x.m x.c x.o x.k hlk hh hF hM _ rfl (fun W hb => ?_)
            refine Calls.mono (set_any base rb mb n D s st chV cn cs x.p x.d o.d x.v x.m x.c x.o x.k W (hR.below hb) ⟨by omega, hv⟩ (by omega) (by have := hd2 h2; omega) (by omega) (by omega)) ?_
            rintro e w' ⟨rfl, chV', hR', hc', hC'⟩
            have hrep := hr.set (u := x) (y := ⟨x.p, o.d, x.v + 1, x.m, st, x.o, x.k⟩) hx.1 rfl
            exact ⟨none, 0, 0, rfl, World.ownsRow_nil _ _ _ _, ⟨n + 1, _, chV', by omega, hrep, by simpa [chCs] using hR', hc'⟩, hC'⟩
          · rw [if_neg h2]
            by_cases h3 : o.k = 3
            · rw [if_pos h3]
              refine play_drop (by omega) hk7 base rb mb n D s st chV cn cs o.p o.d o.v o.f w hg hR (by omega) h3 x.p x.d x.v x.m x.c x.o x.k hlk hh hF hM _ rfl (fun W hb => ?_)
              refine Calls.mono (drop_any base rb mb n D s st chV cn cs x.p x.d x.v x.m x.c x.o x.k W (hR.below hb) (by omega) (by omega) (by omega)) ?_
              rintro e w' ⟨rfl, chV', hR', hc', hC'⟩
              exact ⟨none, 0, 0, rfl, World.ownsRow_nil _ _ _ _, ⟨n, _, chV', by omega, hr.del x.p, by simpa [chCs] using hR', hc'⟩, hC'⟩
            · rw [if_neg h3]
              refine play_read (by omega) hk7 base rb mb n D s st chV cn cs o.p o.d o.v o.f w hg hR (by omega) (by omega) x.p x.d x.v x.m x.c x.o x.k hlk hh hF hM _ rfl (fun W hb => ?_)
              refine Calls.mono (read_any base rb mb n D T s st chV cn cs o.k x.p x.d x.v x.m x.c x.o x.k W (hg.below hb).toGround (hR.below hb) hr hi.srt hi.sml (Nat.le_trans hi.len (by decide)) (by omega) (by omega)) ?_
              rintro e w' ⟨kv, rfl, hrow, hb'⟩
              obtain ⟨ka, kn, kc, rfl⟩ : ∃ a n c, kv = .slice a n c := by
                rcases hrow.2 with ⟨rfl, _⟩ | ⟨g, cap, cur, rfl, _⟩
                · exact ⟨_, _, _, rfl⟩
                · exact ⟨_, _, _, rfl⟩
              exact ⟨ka, kn, kc, rfl, hrow, ⟨n, D, chV, by omega, hr, by simpa [chCs] using (hR.below hb).below hb', .inl rfl⟩, Chg.of_below hb' _⟩
        · rw [if_pos hm]
          exact Calls.mono (play_mis (by omega) hk7 base rb mb n D s st chV cn cs o.p o.d o.v o.f w hg hR (by omega) x.p x.d x.v x.m x.c x.o x.k hlk hh _ hF hm hM) (err _)
  · rw [if_pos hc]
    exact Calls.mono (play_bad base rb mb n D s st chV cn cs o.k o.p o.d o.v o.f w hg hR _ hc hM) (err _)
theorem Inv.upd {T : List Nd} (h : Inv T) {y : Nd} (hy : (parse y.p).1 = 0 ∧ y.d.size ≤ 64 ∧ 0 ≤ y.v ∧ y.v ≤ 2147483647 ∧ 0 ≤ y.k ∧ y.k ≤ 100000) : Inv (upd T y) := by
  refine ⟨h.srt.upd y, by rw [upd_len]; exact h.len, fun x hx => ?_⟩
  unfold Go.Proofs.YtliafokjdngejaaGreatDoor.upd at hx
  obtain ⟨z, hz, rfl⟩ := List.mem_map.1 hx
  split
  · exact hy
  · exact h.nd z hz
theorem oneM_inv {T : List Nd} (h : Inv T) (s st : Int) (o : OpT) : Inv (oneM T s st o).2.1 := by
  unfold oneM
  split
  · exact h
  rename_i hc
  have hc : malC s o.k o.p o.d o.f = 0 := by simpa using hc
  obtain ⟨hk1, hk7, hp0, hd2, _⟩ := mal_ok hc
  split
  · rename_i h1
    unfold makeM
    split
    · exact h
    rename_i u hfu
    have hu := fnd_some hfu
    have hun := h.nd u hu.1
    split
    · exact h
    split
    · exact h
    rename_i hfull
    split
    · exact h
    rename_i hfa
    split
    · exact h
    rename_i hlen
    rw [h1] at hc
    obtain ⟨hf, _, hlast, hroot, hd⟩ := mal_ok1 hc
    have hap : (parse (atOf o.p o.f u.k)).1 = 0 := by
      unfold atOf
      split
      · rename_i h2
        obtain ⟨xs, k, x, hx, hxl, hxk, hlx⟩ := names_of hp0 hroot
        rw [counted_parse hx k hxl x hxk (by rw [← hlx]; exact hlast h2)]
      · exact hp0
    have hup : Inv (upd T { u with k := if 2 ≤ o.f then u.k + 1 else u.k }) := h.upd ⟨hun.1, hun.2.1, hun.2.2.1, hun.2.2.2.1, by show 0 ≤ (if 2 ≤ o.f then u.k + 1 else u.k); split <;> omega, by show (if 2 ≤ o.f then u.k + 1 else u.k) ≤ 100000; split <;> omega⟩
    have hnone : fnd T (atOf o.p o.f u.k) = none := by simpa using hfa
    refine ⟨hup.srt.ins (fun x hx => ?_), by show (ins _ _).length ≤ 64; rw [ins_len, upd_len]; omega, fun x hx => ?_⟩
    · have hm : x.p ∈ (upd T { u with k := if 2 ≤ o.f then u.k + 1 else u.k }).map Nd.p := List.mem_map_of_mem hx
      rw [upd_map] at hm
      obtain ⟨z, hz, e⟩ := List.mem_map.1 hm
      rw [← e]
      exact fnd_none hnone z hz
    · rcases List.mem_cons.1 ((ins_perm _ _).mem_iff.1 hx) with rfl | hx
      · exact ⟨hap, hd, by show (0 : Int) ≤ 0; omega, by show (0 : Int) ≤ 2147483647; omega, by show (0 : Int) ≤ 0; omega, by show (0 : Int) ≤ 100000; omega⟩
      · exact hup.nd x hx
  · rename_i h1
    split
    · exact h
    rename_i x hf
    have hx := fnd_some hf
    have hxn := h.nd x hx.1
    split
    · exact h
    rename_i hm
    have hm : misC o.k o.v x.v (kidsM T x.p) = 0 := by simpa using hm
    unfold restM
    split
    · rename_i h2
      have hv := mis_ok2 (by rw [← h2]; exact hm)
      exact h.upd ⟨hxn.1, hd2 h2, by show 0 ≤ x.v + 1; omega, by show x.v + 1 ≤ 2147483647; omega, hxn.2.2.2.2.1, hxn.2.2.2.2.2⟩
    split
    · exact ⟨h.srt.filter _, Nat.le_trans (List.length_filter_le _ _) h.len, fun y hy => h.nd y (List.mem_filter.1 hy).1⟩
    · exact h
end Go.Proofs.YtliafokjdngejaaGreatDoor
namespace Go.Proofs.YtliafokjdngejaaGreatDoor.Fa
open Go.RowKit
set_option linter.unusedVariables false
set_option linter.unusedSimpArgs false

theorem cell_n {w : World} {B e s n g cap k : Nat} {xs : List Value} {x : Value} (h : w.ownsRow B e s (.slice (some ⟨g, 0, none⟩) n cap) n xs) (hx : xs[k]? = some x) : w.cell? ⟨g, k, none⟩ = some x := by
  have hk : k < xs.length := (List.getElem?_eq_some_iff.1 hx).1
  rcases h.2 with ⟨h0, _⟩ | ⟨g', cap', cur, hv, _, hg, _, _, hsz, ht⟩
  · cases h0
  · cases hv
    have hkc : k < n * s := by have := h.1; omega
    have : cur[k]? = some x := by
      rw [← hx, ← ht, List.getElem?_take_of_lt hkc, Array.getElem?_toList]
    unfold World.cell?
    simp only [hg]
    exact this
theorem owns_set {w : World} {B e s n g cap k : Nat} {xs : List Value} (h : w.ownsRow B e s (.slice (some ⟨g, 0, none⟩) n cap) n xs) (x : Value) : (w.setCell ⟨g, k, none⟩ x).ownsRow B e s (.slice (some ⟨g, 0, none⟩) n cap) n (xs.set k x) := by
  refine ⟨by rw [List.length_set]; exact h.1, ?_⟩
  rcases h.2 with ⟨h0, _⟩ | ⟨g', cap', cur, hv, hB, hg, hn, hc, hsz, ht⟩
  · cases h0
  · cases hv
    refine .inr ⟨g, cap, cur.setIfInBounds k x, rfl, hB, heap_setCell_same w g k cur e x hg, hn, hc, by simpa using hsz, ?_⟩
    rw [← ht, Array.toList_setIfInBounds, List.take_set]
theorem flat_at {α : Type} {cells : α → List Value} {sz : Nat} (hsz : ∀ x, (cells x).length = sz) : ∀ {L : List α} {i : Nat} {x : α} {j : Nat} {u : Value}, L[i]? = some x → (cells x)[j]? = some u → (L.flatMap cells)[i * sz + j]? = some u
  | [], i, x, j, u, h, _ => by simp at h
  | y :: L, 0, x, j, u, h, hu => by
    obtain rfl : y = x := by simpa using h
    rw [List.flatMap_cons, Nat.zero_mul, Nat.zero_add, List.getElem?_append_left (by rw [hsz]; have := (List.getElem?_eq_some_iff.1 hu).1; rw [hsz] at this; exact this)]
    exact hu
  | y :: L, i + 1, x, j, u, h, hu => by
    have h' : L[i]? = some x := by simpa using h
    rw [List.flatMap_cons, List.getElem?_append_right (by rw [hsz, Nat.add_mul]; omega), hsz, show (i + 1) * sz + j - sz = i * sz + j by rw [Nat.add_mul]; omega]
    exact flat_at hsz h' hu
theorem flat_len {α : Type} {cells : α → List Value} {sz : Nat} (hsz : ∀ x, (cells x).length = sz) : ∀ L : List α, (L.flatMap cells).length = L.length * sz
  | [] => by simp
  | y :: L => by rw [List.flatMap_cons, List.length_append, hsz, flat_len hsz L, List.length_cons, Nat.add_mul]; omega
abbrev El (sz : Nat) : Type := { e : List Value // e.length = sz ∧ ∀ v ∈ e, v.oneCell' = true }
abbrev fl {sz : Nat} (l : List (El sz)) : List Value := l.flatMap (fun e => e.1)
theorem fl_len {sz : Nat} (l : List (El sz)) : (fl l).length = l.length * sz := flat_len (cells := fun e : El sz => e.1) (fun e => e.2.1) l
def setsL : List Value → Nat → List Value → List Value
  | xs, _, [] => xs
  | xs, o, v :: vs => setsL (xs.set o v) (o + 1) vs
theorem setsL_len : ∀ (e xs : List Value) (o : Nat), (setsL xs o e).length = xs.length
  | [], xs, o => rfl
  | v :: vs, xs, o => by rw [setsL, setsL_len vs]; simp
theorem setsL_get : ∀ (e xs : List Value) (o j : Nat), (setsL xs o e)[j]? = if o ≤ j ∧ j < o + e.length ∧ j < xs.length then e[j - o]? else xs[j]?
  | [], xs, o, j => by rw [setsL, if_neg (by simp; omega)]
  | v :: vs, xs, o, j => by
    rw [setsL, setsL_get vs]
    simp only [List.length_set, List.length_cons]
    by_cases h1 : o + 1 ≤ j ∧ j < o + 1 + vs.length ∧ j < xs.length
    · rw [if_pos h1, if_pos (by omega), show j - o = (j - (o + 1)) + 1 by omega, List.getElem?_cons_succ]
    · rw [if_neg h1, List.getElem?_set]
      by_cases h2 : o = j
      · subst h2
        by_cases h3 : o < xs.length
        · rw [if_pos rfl, if_pos h3, if_pos (by omega), Nat.sub_self]; rfl
        · rw [if_pos rfl, if_neg h3, if_neg (by omega), List.getElem?_eq_none (by omega)]
      · rw [if_neg h2, if_neg (by omega)]
theorem flat_get {sz : Nat} (h0 : 0 < sz) (l : List (El sz)) (j : Nat) : (fl l)[j]? = (l[j / sz]?).bind (fun e => e.1[j % sz]?) := by
  by_cases hj : j / sz < l.length
  · have hm : j % sz < sz := Nat.mod_lt _ h0
    obtain ⟨x, hx⟩ : ∃ x, l[j / sz]? = some x := ⟨_, List.getElem?_eq_getElem hj⟩
    have hl := x.2.1
    obtain ⟨u, hu⟩ : ∃ u, x.1[j % sz]? = some u := ⟨_, List.getElem?_eq_getElem (by omega)⟩
    have := flat_at (cells := fun e : El sz => e.1) (fun e => e.2.1) hx hu
    rw [Nat.mul_comm, Nat.div_add_mod] at this
    rw [this, hx]
    simp [hu]
  · have hge : l.length * sz ≤ j := by
      have h1 := Nat.div_add_mod j sz
      have h2 : l.length * sz ≤ j / sz * sz := Nat.mul_le_mul_right _ (by omega)
      rw [Nat.mul_comm] at h1
      omega
    rw [List.getElem?_eq_none (by rw [fl_len]; exact hge), List.getElem?_eq_none (by omega)]
    rfl
theorem fl_set {sz : Nat} (h0 : 0 < sz) (l : List (El sz)) (i : Nat) (e : El sz) (hi : i < l.length) : fl (l.set i e) = setsL (fl l) (i * sz) e.1 := by
  apply List.ext_getElem?
  intro j
  have hm : j % sz < sz := Nat.mod_lt _ h0
  have hd := Nat.div_add_mod j sz
  rw [Nat.mul_comm] at hd
  rw [flat_get h0, setsL_get, flat_get h0, fl_len, e.2.1, List.getElem?_set]
  by_cases hk : i = j / sz
  · subst hk
    have hlt : j < l.length * sz := by
      have h2 : (j / sz + 1) * sz ≤ l.length * sz := Nat.mul_le_mul_right _ hi
      rw [Nat.add_mul] at h2
      omega
    rw [if_pos rfl, if_pos hi, if_pos ⟨by omega, by omega, hlt⟩, show j - j / sz * sz = j % sz by omega]
    rfl
  · rw [if_neg hk, if_neg]
    intro hh
    apply hk
    have h3 : i * sz ≤ j := hh.1
    have h4 : j < (i + 1) * sz := by rw [Nat.add_mul]; omega
    have e1 : i ≤ j / sz := (Nat.le_div_iff_mul_le h0).2 h3
    have e2 : j / sz < i + 1 := (Nat.div_lt_iff_lt_mul h0).2 h4
    omega
theorem owns_sets {B e s n g cap : Nat} : ∀ (vs xs : List Value) (o : Nat) (w : World), w.ownsRow B e s (.slice (some ⟨g, 0, none⟩) n cap) n xs → (w.setCells g o vs).ownsRow B e s (.slice (some ⟨g, 0, none⟩) n cap) n (setsL xs o vs)
  | [], xs, o, w, h => h
  | v :: vs, xs, o, w, h => owns_sets vs (xs.set o v) (o + 1) (w.setCell ⟨g, o, none⟩ v) (owns_set h v)
theorem row_sets {B T sz g cap : Nat} (h0 : 0 < sz) {w : World} {l : List (El sz)} (h : w.ownsRow B T sz (.slice (some ⟨g, 0, none⟩) l.length cap) l.length (fl l)) (i : Nat) (e : El sz) (hi : i < l.length) : (w.setCells g (i * sz) e.1).ownsRow B T sz (.slice (some ⟨g, 0, none⟩) l.length cap) (l.set i e).length (fl (l.set i e)) := by
  rw [List.length_set, fl_set h0 l i e hi]
  exact owns_sets e.1 _ _ w h
theorem owns_block {w : World} {B e s n g cap : Nat} {xs : List Value} (h : w.ownsRow B e s (.slice (some ⟨g, 0, none⟩) n cap) n xs) : ∃ cur, w.heap[g]? = some (.cells cur e (0, 0)) ∧ cur.size = cap * s ∧ n ≤ cap := by
  rcases h.2 with ⟨h0, _⟩ | ⟨g', cap', cur, hv, hB, hg, h1, h2, h3, h4⟩
  · cases h0
  · simp only [Value.slice.injEq, Option.some.injEq, Addr.mk.injEq, and_true, true_and] at hv
    obtain ⟨rfl, rfl⟩ := hv
    exact ⟨cur, hg, h3, h1⟩
theorem there_row {w : World} {B e s n g cap i : Nat} {xs : List Value} (h : w.ownsRow B e s (.slice (some ⟨g, 0, none⟩) n cap) n xs) (hi : i < n) : w.there g (i * s) s := fun j hj => by
  obtain ⟨cur, hg, hs, hc⟩ := owns_block h
  have h1 : (i + 1) * s ≤ cap * s := Nat.mul_le_mul_right _ (by omega)
  rw [Nat.add_mul, Nat.one_mul] at h1
  have h2 : i * s + j < cur.size := by omega
  refine ⟨?_, ?_⟩
  · simp [World.cell?, hg, h2]
  · simp [World.frozen?, hg]
theorem chg_setCells (b : Nat) : ∀ (vs : List Value) (o : Nat) (w : World), Chg w (w.setCells b o vs) (fun j => j = b)
  | [], o, w => Chg.refl _ _
  | v :: vs, o, w => (Chg.set w ⟨b, o, none⟩ v).trans (chg_setCells b vs (o + 1) (w.setCell ⟨b, o, none⟩ v))
end Go.Proofs.YtliafokjdngejaaGreatDoor.Fa
namespace Go.Proofs.YtliafokjdngejaaGreatDoor
open Go.RowKit Go.Maps Go.WideShapes
set_option linter.unusedVariables false
set_option linter.unusedSimpArgs false

/-- What a request answers: code, at, the nodes behind it, the results, the changes. -/
structure PlayR where
  code : Int
  at' : Nat
  T : List Nd
  R : List ResT
  C : List ChT
def playL (T0 : List Nd) (s st : Int) : List OpT → Nat → List Nd → List ResT → List ChT → PlayR
  | [], i, T, R, C => ⟨0, 0, T, R, C⟩
  | o :: r, i, T, R, C => if (oneM T s st o).1 ≠ 0 then ⟨(oneM T s st o).1, i, T0, [], []⟩ else playL T0 s st r (i + 1) (oneM T s st o).2.1 (R ++ [(oneM T s st o).2.2.1]) (C ++ (oneM T s st o).2.2.2)
def mayC (s st : Int) (n : Nat) : Int := if 4 < n then 2 else if s < 0 ∨ 2147483647 < s ∨ st < 1 ∨ 2147483647 < st then 3 else if n = 0 then 48 else 0
def playM (T : List Nd) (s st : Int) (os : List OpT) : PlayR := if mayC s st os.length ≠ 0 then ⟨mayC s st os.length, 0, T, [], []⟩ else playL T s st os 0 T [] []
theorem playL_inv {T0 : List Nd} (h0 : Inv T0) (s st : Int) : ∀ (os : List OpT) (i : Nat) (T : List Nd) (R : List ResT) (C : List ChT), Inv T → Inv (playL T0 s st os i T R C).T
  | [], _, _, _, _, h => h
  | o :: r, i, T, R, C, h => by
    unfold playL
    split
    · exact h0
    · exact playL_inv h0 s st r _ _ _ _ (oneM_inv h s st o)
theorem playM_inv {T : List Nd} (h : Inv T) (s st : Int) (os : List OpT) : Inv (playM T s st os).T := by
  unfold playM
  split
  · exact h
  · exact playL_inv h s st os 0 T [] [] h
set_option maxHeartbeats 3200000 in
theorem mayPlay_any {w : World} {tb mb : Nat} (h : w.cell? ⟨tb, 0, none⟩ = some (.map (some mb))) (s st : Int) (n : Nat) :
    Calls Tryz.prog 27 #[.pointer (some ⟨tb, 0, none⟩), .int .i64 s, .int .i64 st, .int .i64 (n : Int)] w fun e w' => e = .returned (.int .i64 (mayC s st n)) ∧ w' = w := by
  have HN : Hid _ := isNone_at tb (some mb) w h
  by_cases h4 : 4 < n
  · have e : mayC s st n = 2 := by unfold mayC; rw [if_pos h4]
    have q : (4 : Int) < (n : Int) := by omega
    rw [e]
    clear h
    go_enter Tryz.func27, Tryz.ntmps27
    go_wp2_with (first | (go_at_call 35; refine Calls.mono HN.out ?_; rintro e w1 ⟨rfl, rfl⟩) | fail)
    go_ret
    exact ⟨rfl, rfl⟩
  have q4 : ¬ (4 : Int) < (n : Int) := by omega
  by_cases hb : s < 0 ∨ 2147483647 < s ∨ st < 1 ∨ 2147483647 < st
  · have e : mayC s st n = 3 := by unfold mayC; rw [if_neg h4, if_pos hb]
    rw [e]
    have hb' : s < 0 ∨ (¬ s < 0 ∧ 2147483647 < s) ∨ (¬ s < 0 ∧ ¬ 2147483647 < s ∧ st < 1) ∨ (¬ s < 0 ∧ ¬ 2147483647 < s ∧ ¬ st < 1 ∧ 2147483647 < st) := by omega
    clear h hb
    rcases hb' with c1 | ⟨c1, c2⟩ | ⟨c1, c2, c3⟩ | ⟨c1, c2, c3, c4⟩
    all_goals (
      go_enter Tryz.func27, Tryz.ntmps27
      go_wp2_with (first | (go_at_call 35; refine Calls.mono HN.out ?_; rintro e w1 ⟨rfl, rfl⟩) | fail)
      go_ret
      exact ⟨rfl, rfl⟩)
  by_cases h0 : n = 0
  · have e : mayC s st n = 48 := by unfold mayC; rw [if_neg h4, if_neg hb, if_pos h0]
    rw [e]
    subst h0
    have c1 : ¬ s < 0 := by omega
    have c2 : ¬ 2147483647 < s := by omega
    have c3 : ¬ st < 1 := by omega
    have c4 : ¬ 2147483647 < st := by omega
    clear h hb
    go_enter Tryz.func27, Tryz.ntmps27
    go_wp2_with (first | (go_at_call 35; refine Calls.mono HN.out ?_; rintro e w1 ⟨rfl, rfl⟩) | fail)
    go_ret
    exact ⟨rfl, rfl⟩
  · have e : mayC s st n = 0 := by unfold mayC; rw [if_neg h4, if_neg hb, if_neg h0]
    rw [e]
    exact mayPlay_ok h s st n (by omega) (by omega) (by omega) (by omega) (by omega) (by omega)
/-- A result in memory, with where the list of its names lies. -/
structure RsT where
  r : ResT
  a : Option Addr
  n : Nat
  c : Nat
abbrev RsT.cs (x : RsT) : List Value := [.string x.r.p, .string x.r.d, .int .i64 x.r.v, .int .i64 x.r.m, .int .i64 x.r.c, .int .i64 x.r.o, .slice x.a x.n x.c]
def RsT.el (x : RsT) : Fa.El 7 := ⟨x.cs, rfl, by simp [Value.oneCell']⟩
def zEl : Fa.El 7 := ⟨[.string ⟨#[]⟩, .string ⟨#[]⟩, .int .i64 0, .int .i64 0, .int .i64 0, .int .i64 0, .slice none 0 0], rfl, by simp [Value.oneCell']⟩
structure RsAt (w : World) (B : Nat) (rv : Value) (N : Nat) (L : List RsT) : Prop where
  row : w.ownsRow B 40 7 rv N (Fa.fl (L.map RsT.el ++ List.replicate (N - L.length) zEl))
  le : L.length ≤ N
  kids : ∀ x ∈ L, w.ownsRow B 9 1 (.slice x.a x.n x.c) x.r.kids.length (x.r.kids.map Value.string)
theorem ReqAt.keeps {w w' : World} {base rb mb n B T sz m : Nat} {D : DataW Value} {s st : Int} {chV v : Value} {cn : Nat} {cs xs : List Value} (hR : ReqAt w base rb mb n D s st chV cn cs) (hc : Chg w w' (fun k => k = rb ∨ k = mb ∨ chV.ownBlock = some k)) (h : w.ownsRow B T sz v m xs) (h1 : T ≠ 79) (h2 : T ≠ 56) : w'.ownsRow B T sz v m xs :=
  owns_chg h hc (fun k hk e => by
    obtain ⟨cur, hcur⟩ := owns_kind h hk
    rcases e with e | e | e
    · subst e
      have := hR.box
      rw [hcur] at this
      simp at this
      exact h1 this.2
    · subst e
      obtain ⟨es, clock, hb, _⟩ := hR.map
      rw [hcur] at hb
      cases hb
    · obtain ⟨cur', hcur'⟩ := owns_kind hR.row e
      rw [hcur] at hcur'
      simp at hcur'
      exact h2 hcur'.2)
theorem RsAt.below {w w' : World} {B N : Nat} {rv : Value} {L : List RsT} (h : RsAt w B rv N L) (hb : Below w.heap.size w w') : RsAt w' B rv N L :=
  ⟨owns_chg h.row (Chg.of_below hb (fun _ => False)) (fun _ _ => id), h.le, fun x hx => owns_chg (h.kids x hx) (Chg.of_below hb (fun _ => False)) (fun _ _ => id)⟩
theorem RsAt.keeps {w w' : World} {base rb mb n B N : Nat} {D : DataW Value} {s st : Int} {chV rv : Value} {cn : Nat} {cs : List Value} {L : List RsT} (h : RsAt w B rv N L) (hR : ReqAt w base rb mb n D s st chV cn cs) (hc : Chg w w' (fun k => k = rb ∨ k = mb ∨ chV.ownBlock = some k)) : RsAt w' B rv N L :=
  ⟨hR.keeps hc h.row (by decide) (by decide), h.le, fun x hx => hR.keeps hc (h.kids x hx) (by decide) (by decide)⟩
/-- One more result. -/
theorem RsAt.set {w : World} {B N g cap : Nat} {L : List RsT} (h : RsAt w B (.slice (some ⟨g, 0, none⟩) N cap) N L) (hlt : L.length < N) (x : RsT) (hk : w.ownsRow B 9 1 (.slice x.a x.n x.c) x.r.kids.length (x.r.kids.map Value.string)) : RsAt (w.setCells g (L.length * 7) x.cs) B (.slice (some ⟨g, 0, none⟩) N cap) N (L ++ [x]) := by
  have hlen : (L.map RsT.el ++ List.replicate (N - L.length) zEl).length = N := by simp; omega
  have hrow := h.row
  have hr2 : w.ownsRow B 40 7 (.slice (some ⟨g, 0, none⟩) (L.map RsT.el ++ List.replicate (N - L.length) zEl).length cap) (L.map RsT.el ++ List.replicate (N - L.length) zEl).length (Fa.fl (L.map RsT.el ++ List.replicate (N - L.length) zEl)) := by rw [hlen]; exact hrow
  have h3 := Fa.row_sets (by decide) hr2 L.length x.el (by rw [hlen]; exact hlt)
  have e : (L.map RsT.el ++ List.replicate (N - L.length) zEl).set L.length x.el = (L ++ [x]).map RsT.el ++ List.replicate (N - (L ++ [x]).length) zEl := by
    rw [show N - L.length = (N - (L ++ [x]).length) + 1 by simp; omega, List.replicate_succ, List.map_append, List.append_assoc]
    have : (L.map RsT.el).length = L.length := by simp
    conv => lhs; rw [← this]
    rw [List.set_append_right _ _ (Nat.le_refl _)]
    simp
  rw [hlen, List.length_set, hlen, e] at h3
  have hkind : ∀ {v : Value} {m : Nat} {xs : List Value}, w.ownsRow B 9 1 v m xs → (w.setCells g (L.length * 7) x.cs).ownsRow B 9 1 v m xs := fun {v m xs} hv => owns_chg hv (Fa.chg_setCells g _ _ w) (fun k hk' e' => by
    have e'' : k = g := e'
    subst e''
    obtain ⟨cur, hcur⟩ := owns_kind hv hk'
    obtain ⟨cur', hcur'⟩ := owns_kind hrow (k := k) rfl
    rw [hcur] at hcur'
    simp at hcur')
  refine ⟨h3, by simp; omega, fun y hy => ?_⟩
  rcases List.mem_append.1 hy with hy | hy
  · exact hkind (h.kids y hy)
  · obtain rfl := List.mem_singleton.1 hy
    exact hkind hk
theorem oneM_ch (T : List Nd) (s st : Int) (o : OpT) : (oneM T s st o).2.2.2.length ≤ 1 := by
  unfold oneM
  split
  · exact Nat.zero_le _
  split
  · unfold makeM
    split
    · exact Nat.zero_le _
    split
    · exact Nat.zero_le _
    split
    · exact Nat.zero_le _
    split
    · exact Nat.zero_le _
    split
    · exact Nat.zero_le _
    · exact Nat.le_refl _
  split
  · exact Nat.zero_le _
  split
  · exact Nat.zero_le _
  unfold restM
  split
  · exact Nat.le_refl _
  split
  · exact Nat.le_refl _
  · exact Nat.zero_le _
end Go.Proofs.YtliafokjdngejaaGreatDoor
