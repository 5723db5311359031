/-
  tree: play, every op; a tree stays one that may be.
-/
import Derived.Test.YtliafokjdngejabGreatDoorTPlayS
namespace Go.Proofs.YtliafokjdngejabGreatDoor
open Go.RowKit Go.Maps Go.WideShapes
set_option linter.unusedVariables false
set_option linter.unusedSimpArgs false

theorem mal_ok {s k : Int} {p d : ByteArray} {f : Int} (h : malC s k p d f = 0) : 1 ≤ k ∧ k ≤ 7 ∧ (parse p).1 = 0 ∧ (k = 2 → d.size ≤ 64) ∧ (k = 3 → p ≠ ⟨#[47]⟩) := by
  unfold malC at h
  split at h
  · cases h
  split at h
  · cases h
  split at h
  · cases h
  split at h
  · cases h
  split at h
  · cases h
  split at h
  · cases h
  rename_i h1 h2 h3 h4 h5 h6
  refine ⟨by omega, by omega, ?_, fun hk => ?_, fun hk e => h4 ⟨.inr hk, e⟩⟩
  · by_cases hp : (parse p).1 = 0
    · exact hp
    · exact absurd (.inl hp) h3
  · by_cases hd : 64 < d.size
    · exact absurd ⟨.inr hk, hd⟩ h6
    · omega
theorem mis_ok2 {ov nv : Int} {kids : List ByteArray} (h : misC 2 ov nv kids = 0) : nv < 2147483647 := by
  unfold misC at h
  split at h
  · cases h
  split at h
  · cases h
  split at h
  · cases h
  rename_i h1 h2 h3
  omega
set_option maxHeartbeats 1000000 in
theorem play_any (base rb mb n : Nat) (D : DataW Value) (T : List Nd) (s st : Int) (chV : Value) (cn : Nat) (cs : List Value) (o : OpT) (ho : o.Ok) (w : World) (hg : GroundT w) (hgc : GroundC w)
    (hR : ReqAt w base rb mb n D s st chV cn cs) (hr : Rep D T) (hi : Inv T) (hn : n ≤ 9000) (hcn : cn ≤ 900) :
    Calls Tryz.prog 39 #[.pointer (some ⟨rb, 0, none⟩), opV o.k o.p o.d o.v o.f] w (PlayEnd w base rb mb n s st chV cn cs (oneM T s st o)) := by
  have hM := mal_all o ho rb s
  have err : ∀ c e w', e = Ending.returned (.tuple #[noRes, .int .i64 c]) ∧ Below w.heap.size w w' → PlayEnd w base rb mb n s st chV cn cs (c, T, zr, []) e w' := fun c e w' ⟨he, hb⟩ => ⟨none, 0, 0, he, ReqE.err hR hr hb⟩
  unfold oneM
  by_cases hc : malC s o.k o.p o.d o.f = 0
  · rw [if_neg (by simpa using hc)]
    rw [hc] at hM
    obtain ⟨hk1, hk7, hp0, hd2, hr3⟩ := mal_ok hc
    have hps := size_of_parse hp0
    by_cases h1 : o.k = 1
    · rw [if_pos h1]
      have hK := fun W (hb : Below w.heap.size w W) => make_any base rb mb n D T s st chV cn cs o W (hg.below hb) (hgc.below hb) (hR.below hb) hr hi h1 hc hn hcn
      rw [h1] at hM hK ⊢
      exact play_mk base rb mb n D s st chV cn cs o.p o.d o.v o.f w hg hR (makeM T s st o) hM hK
    · rw [if_neg h1]
      cases hf : fnd T o.p with
      | none =>
        exact Calls.mono (play_40 (by omega) hk7 base rb mb n D s st chV cn cs o.p o.d o.v o.f w hg hR (by omega) (hr.look_none hf) (by rw [hr.has_fnd, hf]; rfl) hM) (err 40)
      | some x =>
        dsimp only
        have hx := fnd_some hf
        have hxn := hi.nd x hx.1
        have hxs := size_of_parse hxn.1
        have hF := fun W (hb : Below w.heap.size w W) => misfit_any (k := o.k) (by omega) hk7 base rb mb n D T s st chV cn cs o.p o.d o.v o.f x.p x.d x.v x.m x.c x.o x.k W (hg.below hb) (hR.below hb) hr hi.srt hi.sml (Nat.le_trans hi.len (by decide))
        have hlk := hr.look_fnd hf
        have hh : Maps.has D (ky o.p) = true := by rw [hr.has_fnd, hf]; rfl
        by_cases hm : misC o.k o.v x.v (kidsM T x.p) = 0
        · rw [if_neg (by simpa using hm)]
          rw [hm] at hF
          unfold restM
          by_cases h2 : o.k = 2
          · rw [if_pos h2]
            have hv := mis_ok2 (by rw [← h2]; exact hm)
            refine play_set (by omega) hk7 base rb mb n D s st chV cn cs o.p o.d o.v o.f w hg hR (by omega) h2 x.p x.d x.v x.m x.c x.o x.k hlk hh hF hM _ rfl (fun W hb => ?_)
            refine Calls.mono (set_any base rb mb n D s st chV cn cs x.p x.d o.d x.v x.m x.c x.o x.k W (hR.below hb) ⟨by omega, hv⟩ (by omega) (by have := hd2 h2; omega) (by omega) (by omega)) ?_
            rintro e w' ⟨rfl, chV', hR', hc', hC'⟩
            have hrep := hr.set (u := x) (y := ⟨x.p, o.d, x.v + 1, x.m, st, x.o, x.k⟩) hx.1 rfl
            exact ⟨none, 0, 0, rfl, World.ownsRow_nil _ _ _ _, ⟨n + 1, _, chV', by omega, hrep, by simpa [chCs] using hR', hc'⟩, hC'⟩
          · rw [if_neg h2]
            by_cases h3 : o.k = 3
            · rw [if_pos h3]
              refine play_drop (by omega) hk7 base rb mb n D s st chV cn cs o.p o.d o.v o.f w hg hR (by omega) h3 x.p x.d x.v x.m x.c x.o x.k hlk hh hF hM _ rfl (fun W hb => ?_)
              refine Calls.mono (drop_any base rb mb n D s st chV cn cs x.p x.d x.v x.m x.c x.o x.k W (hR.below hb) (by omega) (by omega) (by omega)) ?_
              rintro e w' ⟨rfl, chV', hR', hc', hC'⟩
              exact ⟨none, 0, 0, rfl, World.ownsRow_nil _ _ _ _, ⟨n, _, chV', by omega, hr.del x.p, by simpa [chCs] using hR', hc'⟩, hC'⟩
            · rw [if_neg h3]
              refine play_read (by omega) hk7 base rb mb n D s st chV cn cs o.p o.d o.v o.f w hg hR (by omega) (by omega) x.p x.d x.v x.m x.c x.o x.k hlk hh hF hM _ rfl (fun W hb => ?_)
              refine Calls.mono (read_any base rb mb n D T s st chV cn cs o.k x.p x.d x.v x.m x.c x.o x.k W (hg.below hb).toGround (hR.below hb) hr hi.srt hi.sml (Nat.le_trans hi.len (by decide)) (by omega) (by omega)) ?_
              rintro e w' ⟨kv, rfl, hrow, hb'⟩
              obtain ⟨ka, kn, kc, rfl⟩ : ∃ a n c, kv = .slice a n c := by
                rcases hrow.2 with ⟨rfl, _⟩ | ⟨g, cap, cur, rfl, _⟩
                · exact ⟨_, _, _, rfl⟩
                · exact ⟨_, _, _, rfl⟩
              exact ⟨ka, kn, kc, rfl, hrow, ⟨n, D, chV, by omega, hr, by simpa [chCs] using (hR.below hb).below hb', .inl rfl⟩, Chg.of_below hb' _⟩
        · rw [if_pos hm]
          exact Calls.mono (play_mis (by omega) hk7 base rb mb n D s st chV cn cs o.p o.d o.v o.f w hg hR (by omega) x.p x.d x.v x.m x.c x.o x.k hlk hh _ hF hm hM) (err _)
  · rw [if_pos hc]
    exact Calls.mono (play_bad base rb mb n D s st chV cn cs o.k o.p o.d o.v o.f w hg hR _ hc hM) (err _)
theorem Inv.upd {T : List Nd} (h : Inv T) {y : Nd} (hy : (parse y.p).1 = 0 ∧ y.d.size ≤ 64 ∧ 0 ≤ y.v ∧ y.v ≤ 2147483647 ∧ 0 ≤ y.k ∧ y.k ≤ 100000) : Inv (upd T y) := by
  refine ⟨h.srt.upd y, by rw [upd_len]; exact h.len, fun x hx => ?_⟩
  unfold Go.Proofs.YtliafokjdngejabGreatDoor.upd at hx
  obtain ⟨z, hz, rfl⟩ := List.mem_map.1 hx
  split
  · exact hy
  · exact h.nd z hz
theorem oneM_inv {T : List Nd} (h : Inv T) (s st : Int) (o : OpT) : Inv (oneM T s st o).2.1 := by
  unfold oneM
  split
  · exact h
  rename_i hc
  have hc : malC s o.k o.p o.d o.f = 0 := by simpa using hc
  obtain ⟨hk1, hk7, hp0, hd2, _⟩ := mal_ok hc
  split
  · rename_i h1
    unfold makeM
    split
    · exact h
    rename_i u hfu
    have hu := fnd_some hfu
    have hun := h.nd u hu.1
    split
    · exact h
    split
    · exact h
    rename_i hfull
    split
    · exact h
    rename_i hfa
    split
    · exact h
    rename_i hlen
    rw [h1] at hc
    obtain ⟨hf, _, hlast, hroot, hd⟩ := mal_ok1 hc
    have hap : (parse (atOf o.p o.f u.k)).1 = 0 := by
      unfold atOf
      split
      · rename_i h2
        obtain ⟨xs, k, x, hx, hxl, hxk, hlx⟩ := names_of hp0 hroot
        rw [counted_parse hx k hxl x hxk (by rw [← hlx]; exact hlast h2)]
      · exact hp0
    have hup : Inv (upd T { u with k := if 2 ≤ o.f then u.k + 1 else u.k }) := h.upd ⟨hun.1, hun.2.1, hun.2.2.1, hun.2.2.2.1, by show 0 ≤ (if 2 ≤ o.f then u.k + 1 else u.k); split <;> omega, by show (if 2 ≤ o.f then u.k + 1 else u.k) ≤ 100000; split <;> omega⟩
    have hnone : fnd T (atOf o.p o.f u.k) = none := by simpa using hfa
    refine ⟨hup.srt.ins (fun x hx => ?_), by show (ins _ _).length ≤ 64; rw [ins_len, upd_len]; omega, fun x hx => ?_⟩
    · have hm : x.p ∈ (upd T { u with k := if 2 ≤ o.f then u.k + 1 else u.k }).map Nd.p := List.mem_map_of_mem hx
      rw [upd_map] at hm
      obtain ⟨z, hz, e⟩ := List.mem_map.1 hm
      rw [← e]
      exact fnd_none hnone z hz
    · rcases List.mem_cons.1 ((ins_perm _ _).mem_iff.1 hx) with rfl | hx
      · exact ⟨hap, hd, by show (0 : Int) ≤ 0; omega, by show (0 : Int) ≤ 2147483647; omega, by show (0 : Int) ≤ 0; omega, by show (0 : Int) ≤ 100000; omega⟩
      · exact hup.nd x hx
  · rename_i h1
    split
    · exact h
    rename_i x hf
    have hx := fnd_some hf
    have hxn := h.nd x hx.1
    split
    · exact h
    rename_i hm
    have hm : misC o.k o.v x.v (kidsM T x.p) = 0 := by simpa using hm
    unfold restM
    split
    · rename_i h2
      have hv := mis_ok2 (by rw [← h2]; exact hm)
      exact h.upd ⟨hxn.1, hd2 h2, by show 0 ≤ x.v + 1; omega, by show x.v + 1 ≤ 2147483647; omega, hxn.2.2.2.2.1, hxn.2.2.2.2.2⟩
    split
    · exact ⟨h.srt.filter _, Nat.le_trans (List.length_filter_le _ _) h.len, fun y hy => h.nd y (List.mem_filter.1 hy).1⟩
    · exact h
end Go.Proofs.YtliafokjdngejabGreatDoor
