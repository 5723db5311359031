import Derived.Test.YtliafokjdngejaaGreatDoorTReqE
import Derived.Test.YtliafokjdngejaaGreatDoorTPlayR
namespace Go.Proofs.YtliafokjdngejaaGreatDoor
open Go.RowKit Go.Maps Go.WideShapes
set_option linter.unusedVariables false
set_option linter.unusedSimpArgs false

theorem make_any (base rb mb n : Nat) (D : DataW Value) (T : List Nd) (s st : Int) (chV : Value) (cn : Nat) (cs : List Value) (o : OpT) (w : World) (hg : GroundT w) (hgc : GroundC w)
    (hR : ReqAt w base rb mb n D s st chV cn cs) (hr : Rep D T) (hi : Inv T) (hk : o.k = 1) (hm : malC s o.k o.p o.d o.f = 0) (hn : n ≤ 9000) (hcn : cn ≤ 900) :
    Calls Tryz.prog 52 #[.pointer (some ⟨rb, 0, none⟩), opV o.k o.p o.d o.v o.f] w fun e w' => ∃ ka kn kc, e = .returned (.tuple #[ReqE.V (makeM T s st o).2.2.1 ka kn kc, .int .i64 (makeM T s st o).1]) ∧ ReqE w base rb mb n s st chV cn cs (makeM T s st o).2.2.1 (makeM T s st o).2.1 (makeM T s st o).2.2.2 ka kn kc w' := by
  obtain ⟨k, p, d, v, f⟩ := o
  obtain rfl : k = 1 := hk
  have hm' : malC s 1 p d f = 0 := hm
  obtain ⟨hf, hp0, hlast, hroot, hd⟩ := mal_ok1 hm'
  clear hm hm'
  have hps := size_of_parse hp0
  have hpar := par_size hp0
  have err : ∀ c w', Below w.heap.size w w' → ∃ ka kn kc, Ending.returned (.tuple #[noRes, .int .i64 c]) = .returned (.tuple #[ReqE.V zr ka kn kc, .int .i64 c]) ∧ ReqE w base rb mb n s st chV cn cs zr T [] ka kn kc w' := fun c w' hb => ⟨none, 0, 0, rfl, ReqE.err hR hr hb⟩
  show Calls _ _ #[_, opV 1 p d v f] w _
  unfold makeM
  dsimp only
  cases hfu : fnd T (parB p) with
  | none =>
    dsimp only
    refine Calls.mono (make_40 base rb mb n D s st chV cn cs p d v f ⟨#[]⟩ ⟨#[]⟩ 0 0 0 0 0 w hg hR (hr.look_none hfu) (by rw [hr.has_fnd, hfu]; rfl) (by omega) (by omega) (by decide) (by decide) (by omega) (by omega) (by omega)) ?_
    rintro e w' ⟨rfl, hb⟩
    exact err 40 w' hb
  | some u =>
    dsimp only
    have hu := fnd_some hfu
    have hun := hi.nd u hu.1
    have hup := size_of_parse hun.1
    have hlk := hr.look_fnd hfu
    have hhas : Maps.has D (ky (parB p)) = true := by rw [hr.has_fnd, hfu]; rfl
    by_cases ho : u.o = 0
    · rw [if_neg (by simpa using ho)]
      have hlk0 : look D (parB p) = fuV u.p u.d u.v u.m u.c 0 u.k := by rw [hlk, ← ho]
      by_cases hfull : 2 ≤ f ∧ 99999 < u.k
      · rw [if_pos hfull]
        refine Calls.mono (make_46c base rb mb n D s st chV cn cs p d v f u.p u.d u.v u.m u.c u.k w hg hR hlk0 hhas hf hfull.1 hfull.2 (by omega) (by omega) (by omega) (by omega) (by omega) (by omega) (by omega)) ?_
        rintro e w' ⟨rfl, hb⟩
        exact err 46 w' hb
      · rw [if_neg hfull]
        have hcnt : (f < 2 ∧ atOf p f u.k = p ∧ (if 2 ≤ f then u.k + 1 else u.k) = u.k) ∨ (2 ≤ f ∧ u.k ≤ 99999 ∧ -1000 ≤ u.k ∧ (if 2 ≤ f then u.k + 1 else u.k) = u.k + 1 ∧ ∀ W, Below w.heap.size w W → Calls Tryz.prog 13 #[.string p, .int .i64 u.k] W fun e w' => e = .returned (.tuple #[.string (atOf p f u.k), .int .i64 0]) ∧ Below W.heap.size W w') := by
          by_cases h2 : 2 ≤ f
          · refine .inr ⟨h2, by omega, by omega, by rw [if_pos h2], fun W hb => ?_⟩
            obtain ⟨xs, k, x, hx, hxl, hxk, hlx⟩ := names_of hp0 hroot
            have h9 := counted_good (n := u.k.toNat) (by omega) hx k hxl x hxk (by rw [← hlx]; exact hlast h2) W (hgc.below hb)
            rw [show ((u.k.toNat : Nat) : Int) = u.k by omega] at h9
            unfold atOf
            rw [if_pos h2]
            exact h9
          · refine .inl ⟨by omega, ?_, by rw [if_neg h2]⟩
            unfold atOf
            rw [if_neg h2]
        have hap : (parse (atOf p f u.k)).1 = 0 := by
          unfold atOf
          split
          · rename_i h2
            obtain ⟨xs, k, x, hx, hxl, hxk, hlx⟩ := names_of hp0 hroot
            rw [counted_parse hx k hxl x hxk (by rw [← hlx]; exact hlast h2)]
          · exact hp0
        have has := size_of_parse hap
        obtain ⟨a, ha⟩ : ∃ a, atOf p f u.k = a := ⟨_, rfl⟩
        rw [ha] at hcnt has ⊢
        obtain ⟨pk', hpk'⟩ : ∃ pk', (if 2 ≤ f then u.k + 1 else u.k) = pk' := ⟨_, rfl⟩
        rw [hpk'] at hcnt ⊢
        cases hfa : fnd T a with
        | some y =>
          rw [if_pos (show (some y).isSome = true from rfl)]
          refine Calls.mono (make_41 base rb mb n D s st chV cn cs p d a v f u.p u.d u.v u.m u.c u.k pk' 0 w hg hR hlk0 hhas hf hcnt y.p y.d y.v y.m y.c y.o y.k (hr.look_fnd hfa) (by rw [hr.has_fnd, hfa]; rfl) (by omega) (by omega) (by omega) (by omega) (by omega) (by omega) (by omega) (by omega)) ?_
          rintro e w' ⟨rfl, hb⟩
          exact err 41 w' hb
        | none =>
          rw [if_neg (show ¬ (none : Option Nd).isSome = true by simp)]
          have hah : Maps.has D (ky a) = false := by rw [hr.has_fnd, hfa]; rfl
          by_cases hlen : 64 ≤ T.length
          · rw [if_pos hlen]
            refine Calls.mono (make_46 base rb mb n D s st chV cn cs p d a v f u.p u.d u.v u.m u.c u.k pk' 0 w hg hR hlk0 hhas hf hcnt ⟨#[]⟩ ⟨#[]⟩ 0 0 0 0 0 (hr.look_none hfa) hah (by rw [hr.size]; exact hlen) (by omega) (by omega) (by omega) (by omega) (by omega) (by omega) (by omega) (by omega)) ?_
            rintro e w' ⟨rfl, hb⟩
            exact err 46 w' hb
          · rw [if_neg hlen]
            have hbo : (f % 2 = 0 ∧ (if f % 2 = 1 then s else 0) = 0) ∨ (f % 2 = 1 ∧ (if f % 2 = 1 then s else 0) = s) := by
              by_cases h1 : f % 2 = 1
              · exact .inr ⟨h1, by rw [if_pos h1]⟩
              · exact .inl ⟨by omega, by rw [if_neg h1]⟩
            obtain ⟨ow, how⟩ : ∃ ow, (if f % 2 = 1 then s else 0) = ow := ⟨_, rfl⟩
            rw [how] at hbo ⊢
            refine Calls.mono (make_ok base rb mb n D s st chV cn cs p d a v f u.p u.d u.v u.m u.c u.k pk' ow w hg hR hlk0 hhas hf hcnt hbo ⟨#[]⟩ ⟨#[]⟩ 0 0 0 0 0 (hr.look_none hfa) hah (by rw [hr.size]; omega) (by omega) (by omega) (by omega) (by omega) (by omega) (by omega) (by omega) (by omega)) ?_
            rintro e w' ⟨rfl, chV', hR', hc', hC'⟩
            have e1 : fuV u.p u.d u.v u.m u.c 0 pk' = (⟨u.p, u.d, u.v, u.m, u.c, u.o, pk'⟩ : Nd).V := by rw [← ho]
            rw [e1] at hR'
            have hrep := hr.make (u := u) (u' := ⟨u.p, u.d, u.v, u.m, u.c, u.o, pk'⟩) (n := ⟨a, d, 0, st, st, ow, 0⟩) hu.1 rfl (fnd_none hfa)
            exact ⟨none, 0, 0, rfl, World.ownsRow_nil _ _ _ _, ⟨n + 1 + 1, _, chV', by omega, hrep, by simpa [chCs] using hR', hc'⟩, hC'⟩
    · rw [if_pos ho]
      refine Calls.mono (make_44 base rb mb n D s st chV cn cs p d v f u.p u.d u.v u.m u.c u.o u.k w hg hR hlk hhas ho (by omega) (by omega) (by omega) (by omega) (by omega) (by omega) (by omega)) ?_
      rintro e w' ⟨rfl, hb⟩
      exact err 44 w' hb
end Go.Proofs.YtliafokjdngejaaGreatDoor
namespace Go.Proofs.YtliafokjdngejaaGreatDoor
open Go.RowKit Go.Maps Go.WideShapes
set_option linter.unusedVariables false
set_option linter.unusedSimpArgs false
attribute [local go_sem ↓] Go.wp_at_zero Go.wp_at_succ

/-- An op's numbers are numbers. -/
def OpT.Ok (o : OpT) : Prop := -9223372036854775808 ≤ o.f ∧ o.f < 9223372036854775808
theorem mal_all (o : OpT) (ho : o.Ok) (rb : Nat) (s : Int) (w : World) (hg : GroundT w) (hr : w.cell? ⟨rb, 0, none⟩ = some (.int .i64 s)) (hrl : rb < w.heap.size) :
    Calls Tryz.prog 51 #[.pointer (some ⟨rb, 0, none⟩), opV o.k o.p o.d o.v o.f] w fun e w' => e = .returned (.int .i64 (malC s o.k o.p o.d o.f)) ∧ Below w.heap.size w w' := by
  by_cases hk : o.k < 1 ∨ 7 < o.k
  · have e : malC s o.k o.p o.d o.f = 48 := by unfold malC; rw [if_pos hk]
    rw [e]
    exact mal_out hk rb s o.p o.d o.v o.f w
  · by_cases hf : o.k = 1 ∧ ¬ (0 ≤ o.f ∧ o.f ≤ 3)
    · have e : malC s o.k o.p o.d o.f = 48 := by unfold malC; rw [if_neg hk, if_pos hf]
      rw [e, hf.1]
      exact mal_flag rb s o.p o.d o.v o.f ho.1 ho.2 hf.2 w hg
    · exact mal_any (by omega) (by omega) rb s o.p o.d o.v o.f (fun h => Classical.byContradiction fun h' => hf ⟨h, h'⟩) w hg hr hrl
abbrev PlayEnd (w : World) (base rb mb n : Nat) (s st : Int) (chV : Value) (cn : Nat) (cs : List Value) (M : Int × List Nd × ResT × List ChT) (e : Ending) (w' : World) : Prop := ∃ ka kn kc, e = .returned (.tuple #[ReqE.V M.2.2.1 ka kn kc, .int .i64 M.1]) ∧ ReqE w base rb mb n s st chV cn cs M.2.2.1 M.2.1 M.2.2.2 ka kn kc w'
set_option maxHeartbeats 16000000 in
set_option maxRecDepth 100000 in
/-- An op that is refused whatever nodes there are. -/
theorem play_bad (base rb mb n : Nat) (D : DataW Value) (s st : Int) (chV : Value) (cn : Nat) (cs : List Value) (k : Int) (p d : ByteArray) (v f : Int) (w : World) (hg : GroundT w) (hR : ReqAt w base rb mb n D s st chV cn cs) (c : Int) (hc0 : c ≠ 0)
    (hM : ∀ W, GroundT W → W.cell? ⟨rb, 0, none⟩ = some (.int .i64 s) → rb < W.heap.size → Calls Tryz.prog 51 #[.pointer (some ⟨rb, 0, none⟩), opV k p d v f] W fun e w' => e = .returned (.int .i64 c) ∧ Below W.heap.size W w') :
    Calls Tryz.prog 29 #[.pointer (some ⟨rb, 0, none⟩), opV k p d v f] w fun e w' => e = .returned (.tuple #[noRes, .int .i64 c]) ∧ Below w.heap.size w w' := by
  have HM : Hid _ := hM
  have HR : Hid _ := hR
  have HG : Hid _ := hg
  have hcb : (c == 0) = false := by simp [hc0]
  have hcn : (c != 0) = true := by simp [hc0]
  clear hR hg hM
  go_enter Tryz.func29, Tryz.ntmps29
  have HW0 : Hid (Below w.heap.size w ((w.alloc (.cells #[.int .i64 k, .string p, .string d, .int .i64 v, .int .i64 f] 33)).alloc (.cells #[.string ⟨#[]⟩, .string ⟨#[]⟩, .int .i64 0, .int .i64 0, .int .i64 0, .int .i64 0, .slice none 0 0] 40))) := ((Below.refl _ _).alloc (Nat.le_refl _) _).alloc (by simp) _
  have HR0 : Hid _ := HR.out.below HW0.out
  go_wp2_with fail
  refine (HM.out _ (HG.out.below HW0.out) (cells_4 HR0.out.box).1 HR0.out.lt.1).mono ?_
  rintro e w1 ⟨rfl, hb1⟩
  have HB1 : Hid (Below w.heap.size w w1) := trans2 HW0.out hb1
  have HZ1 : Hid (w1.heap[w.heap.size + 1]? = some (.cells #[.string ⟨#[]⟩, .string ⟨#[]⟩, .int .i64 0, .int .i64 0, .int .i64 0, .int .i64 0, .slice none 0 0] 40 (0, 0))) := kept_block hb1 (heap_alloc2_new _ _ _)
  obtain ⟨b0, b1, b2, b3, b4, b5, b6⟩ := cells_7 HZ1.out
  have hfz := free_7 HZ1.out
  clear hb1
  go_wp2
  exact bodyPost_ret (results_cell_tmp rfl _ _ (w.heap.size + 1) 40 _ (0, 0) _ (.int .i64 c) rfl rfl (fill_7 HZ1.out) Tryz.underlying40 rfl (by kernel_rfl)) rfl ⟨rfl, fillB_7 HB1.out (by omega)⟩
/-- A result's box keeps what it is while a request is turned. -/
theorem ReqE.box {w W w2 : World} {base rb mb n zb : Nat} {s st : Int} {chV : Value} {cn n0 : Nat} {D : DataW Value} {cs : List Value} {R : ResT} {T : List Nd} {ch : List ChT} {ka : Option Addr} {kn kc : Nat} {cs0 : Array Value} {t : TypeId} (h : ReqE W base rb mb n s st chV cn cs R T ch ka kn kc w2) (hR : ReqAt W base rb mb n0 D s st chV cn cs) (hz : W.heap[zb]? = some (.cells cs0 t (0, 0))) (ht : t ≠ 56) (h1 : zb ≠ rb) (h2 : zb ≠ mb) : w2.heap[zb]? = some (.cells cs0 t (0, 0)) :=
  kept_chg h.chg hz (fun e => by
    rcases e with e | e | e
    · exact h1 e
    · exact h2 e
    · obtain ⟨cur, hcur⟩ := owns_kind hR.row e
      rw [hz] at hcur
      simp at hcur
      exact ht hcur.2)
set_option maxHeartbeats 16000000 in
set_option maxRecDepth 100000 in
theorem play_mk (base rb mb n : Nat) (D : DataW Value) (s st : Int) (chV : Value) (cn : Nat) (cs : List Value) (p d : ByteArray) (v f : Int) (w : World) (hg : GroundT w) (hR : ReqAt w base rb mb n D s st chV cn cs) (M : Int × List Nd × ResT × List ChT)
    (hM : ∀ W, GroundT W → W.cell? ⟨rb, 0, none⟩ = some (.int .i64 s) → rb < W.heap.size → Calls Tryz.prog 51 #[.pointer (some ⟨rb, 0, none⟩), opV 1 p d v f] W fun e w' => e = .returned (.int .i64 0) ∧ Below W.heap.size W w')
    (hK : ∀ W, Below w.heap.size w W → Calls Tryz.prog 52 #[.pointer (some ⟨rb, 0, none⟩), opV 1 p d v f] W (PlayEnd W base rb mb n s st chV cn cs M)) :
    Calls Tryz.prog 29 #[.pointer (some ⟨rb, 0, none⟩), opV 1 p d v f] w (PlayEnd w base rb mb n s st chV cn cs M) := by
  have HM : Hid _ := hM
  have HK : Hid _ := hK
  have HR : Hid _ := hR
  have HG : Hid _ := hg
  obtain ⟨mc, MT, ⟨mp, md, mv, mm, mmc, mo, mkids⟩, Mch⟩ := M
  clear hR hg hM hK
  go_enter Tryz.func29, Tryz.ntmps29
  have HW0 : Hid (Below w.heap.size w ((w.alloc (.cells #[.int .i64 1, .string p, .string d, .int .i64 v, .int .i64 f] 33)).alloc (.cells #[.string ⟨#[]⟩, .string ⟨#[]⟩, .int .i64 0, .int .i64 0, .int .i64 0, .int .i64 0, .slice none 0 0] 40))) := ((Below.refl _ _).alloc (Nat.le_refl _) _).alloc (by simp) _
  have HR0 : Hid _ := HR.out.below HW0.out
  go_wp2_with fail
  refine (HM.out _ (HG.out.below HW0.out) (cells_4 HR0.out.box).1 HR0.out.lt.1).mono ?_
  rintro e w1 ⟨rfl, hb1⟩
  have HB1 : Hid (Below w.heap.size w w1) := trans2 HW0.out hb1
  have HO1 : Hid (w1.heap[w.heap.size]? = some (.cells #[.int .i64 1, .string p, .string d, .int .i64 v, .int .i64 f] 33 (0, 0))) := kept_block hb1 (heap_alloc2_old _ _ _)
  have HZ1 : Hid (w1.heap[w.heap.size + 1]? = some (.cells #[.string ⟨#[]⟩, .string ⟨#[]⟩, .int .i64 0, .int .i64 0, .int .i64 0, .int .i64 0, .slice none 0 0] 40 (0, 0))) := kept_block hb1 (heap_alloc2_new _ _ _)
  have HR1 : Hid _ := HR0.out.below hb1
  have HG1 : Hid _ := HG.out.below HB1.out
  obtain ⟨o0, o1, o2, o3, o4⟩ := cells_5 HO1.out
  have n1 := HG1.out.need 1 0 true rfl
  simp only [Nat.reduceMul, Nat.reduceAdd] at n1
  clear hb1
  go_wp2_with fail
  refine (HK.out _ HB1.out).mono ?_
  rintro e w2 ⟨ka, kn, kc, rfl, hE⟩
  have HE : Hid _ := hE
  have hrb := HR.out.lt
  have hs1 := HB1.out.size
  have HZ2 : Hid _ := hE.box (w := w) HR1.out HZ1.out (by decide) (by omega) (by omega)
  obtain ⟨b0, b1, b2, b3, b4, b5, b6⟩ := cells_7 HZ2.out
  have hfz := free_7 HZ2.out
  clear hE o0 o1 o2 o3 o4 n1
  go_wp2_with fail
  exact bodyPost_ret (results_cell_tmp rfl _ _ (w.heap.size + 1) 40 _ (0, 0) _ (.int .i64 mc) rfl rfl (fill_7 HZ2.out) Tryz.underlying40 rfl (by kernel_rfl)) rfl ⟨ka, kn, kc, rfl, HE.out.fin HB1.out HZ2.out (by omega) hrb.1 hrb.2⟩
end Go.Proofs.YtliafokjdngejaaGreatDoor
