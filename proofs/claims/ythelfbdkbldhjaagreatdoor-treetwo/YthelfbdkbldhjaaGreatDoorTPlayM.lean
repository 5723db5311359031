/-
  tree: play, every op; a tree stays one that may be.
-/
import Derived.Test.YthelfbdkbldhjaaGreatDoorTPlayS
import Derived.Test.YthelfbdkbldhjaaGreatDoorTRefA
import Derived.Test.YthelfbdkbldhjaaGreatDoorTPlay3
namespace Go.Proofs.YthelfbdkbldhjaaGreatDoor
open Go.RowKit Go.Maps Go.WideShapes
set_option linter.unusedVariables false
set_option linter.unusedSimpArgs false

theorem mal_ok {s k : Int} {p d : ByteArray} {f : Int} (h : malC s k p d f = 0) : 1 ≤ k ∧ k ≤ 7 ∧ (parse p).1 = 0 ∧ (k = 2 → d.size ≤ 64) ∧ (k = 3 → p ≠ ⟨#[47]⟩) := by
  unfold malC at h
  split at h
  · cases h
  split at h
  · cases h
  split at h
  · cases h
  split at h
  · cases h
  split at h
  · cases h
  split at h
  · cases h
  rename_i h1 h2 h3 h4 h5 h6
  refine ⟨by omega, by omega, ?_, fun hk => ?_, fun hk e => h4 ⟨.inr hk, e⟩⟩
  · by_cases hp : (parse p).1 = 0
    · exact hp
    · exact absurd (.inl hp) h3
  · by_cases hd : 64 < d.size
    · exact absurd ⟨.inr hk, hd⟩ h6
    · omega
theorem mis_ok2 {ov nv : Int} {kids : List ByteArray} (h : misC 2 ov nv kids = 0) : nv < 2147483647 := by
  unfold misC at h
  split at h
  · cases h
  split at h
  · cases h
  split at h
  · cases h
  rename_i h1 h2 h3
  omega
set_option maxHeartbeats 1000000 in
theorem play_any (base rb mb n : Nat) (D : DataW Value) (T : List Nd) (s st : Int) (chV : Value) (cn : Nat) (cs : List Value) (o : OpT) (ho : o.Ok) (w : World) (hg : GroundT w) (hgc : GroundC w)
    (hR : ReqAt w base rb mb n D s st chV cn cs) (hr : Rep D T) (hi : Inv T) (hn : n ≤ 9000) (hcn : cn ≤ 900) :
    Calls Tryz.prog 37 #[.pointer (some ⟨rb, 0, none⟩), opV o.k o.p o.d o.v o.f] w (PlayEnd w base rb mb n s st chV cn cs (oneM T s st o)) := by
  have hM := mal_all o ho rb s
  have err : ∀ c e w', e = Ending.returned (.tuple #[noRes, .int .i64 c]) ∧ Below w.heap.size w w' → PlayEnd w base rb mb n s st chV cn cs (c, T, zr, []) e w' := fun c e w' ⟨he, hb⟩ => ⟨none, 0, 0, he, ReqE.err hR hr hb⟩
  unfold oneM
  by_cases hc : malC s o.k o.p o.d o.f = 0
  · rw [if_neg (by simpa using hc)]
    rw [hc] at hM
    obtain ⟨hk1, hk7, hp0, hd2, hr3⟩ := mal_ok hc
    have hps := size_of_parse hp0
    by_cases h1 : o.k = 1
    · rw [if_pos h1]
      have hK := fun W (hb : Below w.heap.size w W) => make_any base rb mb n D T s st chV cn cs o W (hg.below hb) (hgc.below hb) (hR.below hb) hr hi h1 hc hn hcn
      rw [h1] at hM hK ⊢
      exact play_mk base rb mb n D s st chV cn cs o.p o.d o.v o.f w hg hR (makeM T s st o) hM hK
    · rw [if_neg h1]
      cases hf : fnd T o.p with
      | none =>
        exact Calls.mono (play_40 (by omega) hk7 base rb mb n D s st chV cn cs o.p o.d o.v o.f w hg hR (by omega) (hr.look_none hf) (by rw [hr.has_fnd, hf]; rfl) hM) (err 40)
      | some x =>
        dsimp only
        have hx := fnd_some hf
        have hxn := hi.nd x hx.1
        have hxs := size_of_parse hxn.1
        have hF := fun W (hb : Below w.heap.size w W) => misfit_any (k := o.k) (by omega) hk7 base rb mb n D T s st chV cn cs o.p o.d o.v o.f x.p x.d x.v x.m x.c x.o x.k W (hg.below hb) (hR.below hb) hr hi.srt hi.sml (Nat.le_trans hi.len (by decide))
        have hlk := hr.look_fnd hf
        have hh : Maps.has D (ky o.p) = true := by rw [hr.has_fnd, hf]; rfl
        by_cases hm : misC o.k o.v x.v (kidsM T x.p) = 0
        · rw [if_neg (by simpa using hm)]
          rw [hm] at hF
          unfold restM
          by_cases h2 : o.k = 2
          · rw [if_pos h2]
            have hv := mis_ok2 (by rw [← h2]; exact hm)
            refine play_set (by omega) hk7 base rb mb n D s st chV cn cs o.p o.d o.v o.f w hg hR (by omega) h2 x.p x.d x.v x.m x.c x.o x.k hlk hh hF hM _ rfl (fun W hb => ?_)
            refine Calls.mono (set_any base rb mb n D s st chV cn cs x.p x.d o.d x.v x.m x.c x.o x.k W (hR.below hb) ⟨by omega, hv⟩ (by omega) (by have := hd2 h2; omega) (by omega) (by omega)) ?_
            rintro e w' ⟨rfl, chV', hR', hc', hC'⟩
            have hrep := hr.set (u := x) (y := ⟨x.p, o.d, x.v + 1, x.m, st, x.o, x.k⟩) hx.1 rfl
            exact ⟨none, 0, 0, rfl, World.ownsRow_nil _ _ _ _, ⟨n + 1, _, chV', by omega, hrep, by simpa [chCs] using hR', hc'⟩, hC'⟩
          · rw [if_neg h2]
            by_cases h3 : o.k = 3
            · rw [if_pos h3]
              refine play_drop (by omega) hk7 base rb mb n D s st chV cn cs o.p o.d o.v o.f w hg hR (by omega) h3 x.p x.d x.v x.m x.c x.o x.k hlk hh hF hM _ rfl (fun W hb => ?_)
              refine Calls.mono (drop_any base rb mb n D s st chV cn cs x.p x.d x.v x.m x.c x.o x.k W (hR.below hb) (by omega) (by omega) (by omega)) ?_
              rintro e w' ⟨rfl, chV', hR', hc', hC'⟩
              exact ⟨none, 0, 0, rfl, World.ownsRow_nil _ _ _ _, ⟨n, _, chV', by omega, hr.del x.p, by simpa [chCs] using hR', hc'⟩, hC'⟩
            · rw [if_neg h3]
              refine play_read (by omega) hk7 base rb mb n D s st chV cn cs o.p o.d o.v o.f w hg hR (by omega) (by omega) x.p x.d x.v x.m x.c x.o x.k hlk hh hF hM _ rfl (fun W hb => ?_)
              refine Calls.mono (read_any base rb mb n D T s st chV cn cs o.k x.p x.d x.v x.m x.c x.o x.k W (hg.below hb).toGround (hR.below hb) hr hi.srt hi.sml (Nat.le_trans hi.len (by decide)) (by omega) (by omega)) ?_
              rintro e w' ⟨kv, rfl, hrow, hb'⟩
              obtain ⟨ka, kn, kc, rfl⟩ : ∃ a n c, kv = .slice a n c := by
                rcases hrow.2 with ⟨rfl, _⟩ | ⟨g, cap, cur, rfl, _⟩
                · exact ⟨_, _, _, rfl⟩
                · exact ⟨_, _, _, rfl⟩
              exact ⟨ka, kn, kc, rfl, hrow, ⟨n, D, chV, by omega, hr, by simpa [chCs] using (hR.below hb).below hb', .inl rfl⟩, Chg.of_below hb' _⟩
        · rw [if_pos hm]
          exact Calls.mono (play_mis (by omega) hk7 base rb mb n D s st chV cn cs o.p o.d o.v o.f w hg hR (by omega) x.p x.d x.v x.m x.c x.o x.k hlk hh _ hF hm hM) (err _)
  · rw [if_pos hc]
    exact Calls.mono (play_bad base rb mb n D s st chV cn cs o.k o.p o.d o.v o.f w hg hR _ hc hM) (err _)
theorem Inv.upd {T : List Nd} (h : Inv T) {y : Nd} (hy : (parse y.p).1 = 0 ∧ y.d.size ≤ 64 ∧ 0 ≤ y.v ∧ y.v ≤ 2147483647 ∧ 0 ≤ y.k ∧ y.k ≤ 100000) : Inv (upd T y) := by
  refine ⟨h.srt.upd y, by rw [upd_len]; exact h.len, fun x hx => ?_⟩
  unfold Go.Proofs.YthelfbdkbldhjaaGreatDoor.upd at hx
  obtain ⟨z, hz, rfl⟩ := List.mem_map.1 hx
  split
  · exact hy
  · exact h.nd z hz
theorem oneM_inv {T : List Nd} (h : Inv T) (s st : Int) (o : OpT) : Inv (oneM T s st o).2.1 := by
  unfold oneM
  split
  · exact h
  rename_i hc
  have hc : malC s o.k o.p o.d o.f = 0 := by simpa using hc
  obtain ⟨hk1, hk7, hp0, hd2, _⟩ := mal_ok hc
  split
  · rename_i h1
    unfold makeM
    split
    · exact h
    rename_i u hfu
    have hu := fnd_some hfu
    have hun := h.nd u hu.1
    split
    · exact h
    split
    · exact h
    rename_i hfull
    split
    · exact h
    rename_i hfa
    split
    · exact h
    rename_i hlen
    rw [h1] at hc
    obtain ⟨hf, _, hlast, hroot, hd⟩ := mal_ok1 hc
    have hap : (parse (atOf o.p o.f u.k)).1 = 0 := by
      unfold atOf
      split
      · rename_i h2
        obtain ⟨xs, k, x, hx, hxl, hxk, hlx⟩ := names_of hp0 hroot
        rw [counted_parse hx k hxl x hxk (by rw [← hlx]; exact hlast h2)]
      · exact hp0
    have hup : Inv (upd T { u with k := if 2 ≤ o.f then u.k + 1 else u.k }) := h.upd ⟨hun.1, hun.2.1, hun.2.2.1, hun.2.2.2.1, by show 0 ≤ (if 2 ≤ o.f then u.k + 1 else u.k); split <;> omega, by show (if 2 ≤ o.f then u.k + 1 else u.k) ≤ 100000; split <;> omega⟩
    have hnone : fnd T (atOf o.p o.f u.k) = none := by simpa using hfa
    refine ⟨hup.srt.ins (fun x hx => ?_), by show (ins _ _).length ≤ 64; rw [ins_len, upd_len]; omega, fun x hx => ?_⟩
    · have hm : x.p ∈ (upd T { u with k := if 2 ≤ o.f then u.k + 1 else u.k }).map Nd.p := List.mem_map_of_mem hx
      rw [upd_map] at hm
      obtain ⟨z, hz, e⟩ := List.mem_map.1 hm
      rw [← e]
      exact fnd_none hnone z hz
    · rcases List.mem_cons.1 ((ins_perm _ _).mem_iff.1 hx) with rfl | hx
      · exact ⟨hap, hd, by show (0 : Int) ≤ 0; omega, by show (0 : Int) ≤ 2147483647; omega, by show (0 : Int) ≤ 0; omega, by show (0 : Int) ≤ 100000; omega⟩
      · exact hup.nd x hx
  · rename_i h1
    split
    · exact h
    rename_i x hf
    have hx := fnd_some hf
    have hxn := h.nd x hx.1
    split
    · exact h
    rename_i hm
    have hm : misC o.k o.v x.v (kidsM T x.p) = 0 := by simpa using hm
    unfold restM
    split
    · rename_i h2
      have hv := mis_ok2 (by rw [← h2]; exact hm)
      exact h.upd ⟨hxn.1, hd2 h2, by show 0 ≤ x.v + 1; omega, by show x.v + 1 ≤ 2147483647; omega, hxn.2.2.2.2.1, hxn.2.2.2.2.2⟩
    split
    · exact ⟨h.srt.filter _, Nat.le_trans (List.length_filter_le _ _) h.len, fun y hy => h.nd y (List.mem_filter.1 hy).1⟩
    · exact h
end Go.Proofs.YthelfbdkbldhjaaGreatDoor
namespace Go.Proofs.YthelfbdkbldhjaaGreatDoor
open Go.RowKit Go.Maps Go.WideShapes
set_option linter.unusedVariables false
set_option linter.unusedSimpArgs false

/-- What a request answers: code, at, the nodes behind it, the results, the changes. -/
structure PlayR where
  code : Int
  at' : Nat
  T : List Nd
  R : List ResT
  C : List ChT
def playL (T0 : List Nd) (s st : Int) : List OpT → Nat → List Nd → List ResT → List ChT → PlayR
  | [], i, T, R, C => ⟨0, 0, T, R, C⟩
  | o :: r, i, T, R, C => if (oneM T s st o).1 ≠ 0 then ⟨(oneM T s st o).1, i, T0, [], []⟩ else playL T0 s st r (i + 1) (oneM T s st o).2.1 (R ++ [(oneM T s st o).2.2.1]) (C ++ (oneM T s st o).2.2.2)
def mayC (s st : Int) (n : Nat) : Int := if 4 < n then 2 else if s < 0 ∨ 2147483647 < s ∨ st < 1 ∨ 2147483647 < st then 3 else if n = 0 then 48 else 0
def playM (T : List Nd) (s st : Int) (os : List OpT) : PlayR := if mayC s st os.length ≠ 0 then ⟨mayC s st os.length, 0, T, [], []⟩ else playL T s st os 0 T [] []
set_option maxHeartbeats 3200000 in
theorem mayPlay_any {w : World} {tb mb : Nat} (h : w.cell? ⟨tb, 0, none⟩ = some (.map (some mb))) (s st : Int) (n : Nat) :
    Calls Tryz.prog 35 #[.pointer (some ⟨tb, 0, none⟩), .int .i64 s, .int .i64 st, .int .i64 (n : Int)] w fun e w' => e = .returned (.int .i64 (mayC s st n)) ∧ w' = w := by
  have HN : Hid _ := isNone_at tb (some mb) w h
  by_cases h4 : 4 < n
  · have e : mayC s st n = 2 := by unfold mayC; rw [if_pos h4]
    have q : (4 : Int) < (n : Int) := by omega
    rw [e]
    clear h
    go_enter Tryz.func35, Tryz.ntmps35
    go_wp2_with (first | (go_at_call 31; refine Calls.mono HN.out ?_; rintro e w1 ⟨rfl, rfl⟩) | fail)
    go_ret
    exact ⟨rfl, rfl⟩
  have q4 : ¬ (4 : Int) < (n : Int) := by omega
  by_cases hb : s < 0 ∨ 2147483647 < s ∨ st < 1 ∨ 2147483647 < st
  · have e : mayC s st n = 3 := by unfold mayC; rw [if_neg h4, if_pos hb]
    rw [e]
    have hb' : s < 0 ∨ (¬ s < 0 ∧ 2147483647 < s) ∨ (¬ s < 0 ∧ ¬ 2147483647 < s ∧ st < 1) ∨ (¬ s < 0 ∧ ¬ 2147483647 < s ∧ ¬ st < 1 ∧ 2147483647 < st) := by omega
    clear h hb
    rcases hb' with c1 | ⟨c1, c2⟩ | ⟨c1, c2, c3⟩ | ⟨c1, c2, c3, c4⟩
    all_goals (
      go_enter Tryz.func35, Tryz.ntmps35
      go_wp2_with (first | (go_at_call 31; refine Calls.mono HN.out ?_; rintro e w1 ⟨rfl, rfl⟩) | fail)
      go_ret
      exact ⟨rfl, rfl⟩)
  by_cases h0 : n = 0
  · have e : mayC s st n = 48 := by unfold mayC; rw [if_neg h4, if_neg hb, if_pos h0]
    rw [e]
    subst h0
    have c1 : ¬ s < 0 := by omega
    have c2 : ¬ 2147483647 < s := by omega
    have c3 : ¬ st < 1 := by omega
    have c4 : ¬ 2147483647 < st := by omega
    clear h hb
    go_enter Tryz.func35, Tryz.ntmps35
    go_wp2_with (first | (go_at_call 31; refine Calls.mono HN.out ?_; rintro e w1 ⟨rfl, rfl⟩) | fail)
    go_ret
    exact ⟨rfl, rfl⟩
  · have e : mayC s st n = 0 := by unfold mayC; rw [if_neg h4, if_neg hb, if_neg h0]
    rw [e]
    exact mayPlay_ok h s st n (by omega) (by omega) (by omega) (by omega) (by omega) (by omega)
/-- A result in memory, with where the list of its names lies. -/
structure RsT where
  r : ResT
  a : Option Addr
  n : Nat
  c : Nat
abbrev RsT.cs (x : RsT) : List Value := [.string x.r.p, .string x.r.d, .int .i64 x.r.v, .int .i64 x.r.m, .int .i64 x.r.c, .int .i64 x.r.o, .slice x.a x.n x.c]
def RsT.el (x : RsT) : Fa.El 7 := ⟨x.cs, rfl, by simp [Value.oneCell']⟩
def zEl : Fa.El 7 := ⟨[.string ⟨#[]⟩, .string ⟨#[]⟩, .int .i64 0, .int .i64 0, .int .i64 0, .int .i64 0, .slice none 0 0], rfl, by simp [Value.oneCell']⟩
structure RsAt (w : World) (B : Nat) (rv : Value) (N : Nat) (L : List RsT) : Prop where
  row : w.ownsRow B 87 7 rv N (Fa.fl (L.map RsT.el ++ List.replicate (N - L.length) zEl))
  le : L.length ≤ N
  kids : ∀ x ∈ L, w.ownsRow B 9 1 (.slice x.a x.n x.c) x.r.kids.length (x.r.kids.map Value.string)
theorem ReqAt.keeps {w w' : World} {base rb mb n B T sz m : Nat} {D : DataW Value} {s st : Int} {chV v : Value} {cn : Nat} {cs xs : List Value} (hR : ReqAt w base rb mb n D s st chV cn cs) (hc : Chg w w' (fun k => k = rb ∨ k = mb ∨ chV.ownBlock = some k)) (h : w.ownsRow B T sz v m xs) (h1 : T ≠ 93) (h2 : T ≠ 85) : w'.ownsRow B T sz v m xs :=
  owns_chg h hc (fun k hk e => by
    obtain ⟨cur, hcur⟩ := owns_kind h hk
    rcases e with e | e | e
    · subst e
      have := hR.box
      rw [hcur] at this
      simp at this
      exact h1 this.2
    · subst e
      obtain ⟨es, clock, hb, _⟩ := hR.map
      rw [hcur] at hb
      cases hb
    · obtain ⟨cur', hcur'⟩ := owns_kind hR.row e
      rw [hcur] at hcur'
      simp at hcur'
      exact h2 hcur'.2)
theorem RsAt.below {w w' : World} {B N : Nat} {rv : Value} {L : List RsT} (h : RsAt w B rv N L) (hb : Below w.heap.size w w') : RsAt w' B rv N L :=
  ⟨owns_chg h.row (Chg.of_below hb (fun _ => False)) (fun _ _ => id), h.le, fun x hx => owns_chg (h.kids x hx) (Chg.of_below hb (fun _ => False)) (fun _ _ => id)⟩
theorem RsAt.keeps {w w' : World} {base rb mb n B N : Nat} {D : DataW Value} {s st : Int} {chV rv : Value} {cn : Nat} {cs : List Value} {L : List RsT} (h : RsAt w B rv N L) (hR : ReqAt w base rb mb n D s st chV cn cs) (hc : Chg w w' (fun k => k = rb ∨ k = mb ∨ chV.ownBlock = some k)) : RsAt w' B rv N L :=
  ⟨hR.keeps hc h.row (by decide) (by decide), h.le, fun x hx => hR.keeps hc (h.kids x hx) (by decide) (by decide)⟩
/-- One more result. -/
theorem RsAt.set {w : World} {B N g cap : Nat} {L : List RsT} (h : RsAt w B (.slice (some ⟨g, 0, none⟩) N cap) N L) (hlt : L.length < N) (x : RsT) (hk : w.ownsRow B 9 1 (.slice x.a x.n x.c) x.r.kids.length (x.r.kids.map Value.string)) : RsAt (w.setCells g (L.length * 7) x.cs) B (.slice (some ⟨g, 0, none⟩) N cap) N (L ++ [x]) := by
  have hlen : (L.map RsT.el ++ List.replicate (N - L.length) zEl).length = N := by simp; omega
  have hrow := h.row
  have hr2 : w.ownsRow B 87 7 (.slice (some ⟨g, 0, none⟩) (L.map RsT.el ++ List.replicate (N - L.length) zEl).length cap) (L.map RsT.el ++ List.replicate (N - L.length) zEl).length (Fa.fl (L.map RsT.el ++ List.replicate (N - L.length) zEl)) := by rw [hlen]; exact hrow
  have h3 := Fa.row_sets (by decide) hr2 L.length x.el (by rw [hlen]; exact hlt)
  have e : (L.map RsT.el ++ List.replicate (N - L.length) zEl).set L.length x.el = (L ++ [x]).map RsT.el ++ List.replicate (N - (L ++ [x]).length) zEl := by
    rw [show N - L.length = (N - (L ++ [x]).length) + 1 by simp; omega, List.replicate_succ, List.map_append, List.append_assoc]
    have : (L.map RsT.el).length = L.length := by simp
    conv => lhs; rw [← this]
    rw [List.set_append_right _ _ (Nat.le_refl _)]
    simp
  rw [hlen, List.length_set, hlen, e] at h3
  have hkind : ∀ {v : Value} {m : Nat} {xs : List Value}, w.ownsRow B 9 1 v m xs → (w.setCells g (L.length * 7) x.cs).ownsRow B 9 1 v m xs := fun {v m xs} hv => owns_chg hv (Fa.chg_setCells g _ _ w) (fun k hk' e' => by
    have e'' : k = g := e'
    subst e''
    obtain ⟨cur, hcur⟩ := owns_kind hv hk'
    obtain ⟨cur', hcur'⟩ := owns_kind hrow (k := k) rfl
    rw [hcur] at hcur'
    simp at hcur')
  refine ⟨h3, by simp; omega, fun y hy => ?_⟩
  rcases List.mem_append.1 hy with hy | hy
  · exact hkind (h.kids y hy)
  · obtain rfl := List.mem_singleton.1 hy
    exact hkind hk
theorem oneM_ch (T : List Nd) (s st : Int) (o : OpT) : (oneM T s st o).2.2.2.length ≤ 1 := by
  unfold oneM
  split
  · exact Nat.zero_le _
  split
  · unfold makeM
    split
    · exact Nat.zero_le _
    split
    · exact Nat.zero_le _
    split
    · exact Nat.zero_le _
    split
    · exact Nat.zero_le _
    split
    · exact Nat.zero_le _
    · exact Nat.le_refl _
  split
  · exact Nat.zero_le _
  split
  · exact Nat.zero_le _
  unfold restM
  split
  · exact Nat.le_refl _
  split
  · exact Nat.le_refl _
  · exact Nat.zero_le _
end Go.Proofs.YthelfbdkbldhjaaGreatDoor
