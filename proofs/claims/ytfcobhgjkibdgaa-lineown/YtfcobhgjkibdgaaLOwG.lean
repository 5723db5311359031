/-
  line: own.go: held.
-/
import Derived.Test.YtfcobhgjkibdgaaLOwF
namespace Go.Proofs.Ytfcobhgjkibdgaa
open Go.RowKit Go.Maps
set_option linter.unusedVariables false
set_option linter.unusedSimpArgs false

def SmL (ls : List (List Int)) : Prop := ∀ xs ∈ ls, xs.length ≤ 300
theorem SmL.push {ls : List (List Int)} (h : SmL ls) {xs : List Int} (hx : xs.length ≤ 300) : SmL (ls ++ [xs]) := fun y hy => by
  rcases List.mem_append.1 hy with hy | hy
  · exact h y hy
  · obtain rfl : y = xs := by simpa using hy
    exact hx
theorem one_of {w : World} {B n : Nat} {v : Value} {xs : List Value} (h : w.ownsRow B 3 1 v n xs) : v.oneCell' = true := by
  obtain ⟨a, c, rfl, _⟩ := row_form h
  rfl
/-- What held has between two steps. -/
structure Ht (w0 w : World) (Ka K : Nat → Prop) (L : LnT) (p av wv : Value) (us cs : List Value) (ls : List (List Int)) (N : Nat) : Prop where
  hd : Hd w0 w Ka K L p av wv us cs ls ls
  len : us.length = N
  lenW : cs.length = N
  sm : SmL ls
  ok : L.Ok
set_option maxHeartbeats 6400000 in
set_option maxRecDepth 100000 in
theorem held_any (w : World) (Ka : Nat → Prop) (p v : Value) (l : List StL) (P : Nat → Prop) (h1 : AtL w Ka ln0 p) (hl : StsAt w P v l) (hP : ∀ j, P j → ¬ Ka j) (hwf : ∀ x ∈ l, (Lit.int .i64 x.n).wf = true) :
    Calls Try.prog 23 #[p, v] w fun e w' => e = .returned (.bool true) ∧ Chg w w' Ka := by
  obtain ⟨sa, sc, rfl, _⟩ := RowAt.form hl
  obtain ⟨sn, hsn⟩ : ∃ z, l.length = z := ⟨_, rfl⟩
  rw [hsn] at hl ⊢
  obtain ⟨o1, ho1⟩ : ∃ o, p = .pointer o := by rcases h1.ptr with h | ⟨b, h⟩ <;> exact ⟨_, h⟩
  subst ho1
  have HSN : Hid (l.length = sn) := hsn
  have HL : Hid (StsAt w P (.slice sa sn sc) l) := hl
  have HP : Hid (∀ j, P j → ¬ Ka j) := hP
  have HWF : Hid (∀ x ∈ l, (Lit.int .i64 x.n).wf = true) := hwf
  have HI0 : Hid (Ht w w Ka Ka ln0 (.pointer o1) (.slice none 0 0) (.slice none 0 0) [] [] [] 0) := ⟨⟨Chg.refl _ _, h1, (fun j hj => .inl hj), World.ownsRow_nil _ _ _ _, World.ownsRow_nil _ _ _ _, (fun b hb => by cases hb), ⟨rfl, fun k u xs h => by simp at h⟩, ⟨rfl, fun k u xs h => by simp at h⟩, Nd.nil⟩, rfl, rfl, (fun y hy => by cases hy), ok0⟩
  clear hsn hl hP hwf h1
  go_enter Try.func23, Try.ntmps23
  go_wp2_with fail
  go_loopw [5, 6, 7, 8, 9, 10] (fun av wv i _ _ _ wr => ∃ (q : Nat) (K : Nat → Prop) (us cs : List Value) (ls : List (List Int)), i = .int .i64 q ∧ q ≤ sn ∧ q ≤ 40 ∧ Hid (Ht w wr Ka K (runL ln0 (l.take q)) (.pointer o1) av wv us cs ls (3 * q))) (fun _ _ i _ _ _ _ => sn - (intOf i).toNat)
  case atStart => exact ⟨0, Ka, [], [], [], rfl, Nat.zero_le _, Nat.zero_le _, HI0⟩
  case round =>
    obtain ⟨q, K, us, cs, ls, rfl, hq, hq1, HI⟩ := hrel
    have HEND : Hid (¬ (q < sn ∧ q < 40) → True) := fun _ => trivial
    by_cases hboth : q < sn ∧ q < 40
    · obtain ⟨hlt, h40⟩ := hboth
      have hqi : (q : Int) < (sn : Int) := by omega
      · have hqj : (q : Int) < 40 := by omega
        obtain ⟨s, hs⟩ : ∃ s, l[q]? = some s := ⟨l[q]'(by rw [HSN.out]; exact hlt), List.getElem?_eq_getElem _⟩
        obtain ⟨sb, so, rfl, hsP, hsb, mv, hE⟩ := RowAt.get HL.out hs
        obtain ⟨L, hL⟩ : ∃ z, runL ln0 (l.take q) = z := ⟨_, rfl⟩
        have hgv : L.gv + 300 ≤ MaxG := by
          have h1 := runL_gv ln0 (l.take q)
          rw [hL, List.length_take, HSN.out] at h1
          have : ln0.gv = 0 := rfl
          unfold MaxG
          omega
        rw [hL] at HI
        have hok := HI.out.ok
        have hok2 : (L.step s).Ok := hok.step s
        obtain ⟨ma, mc, rfl, _⟩ := RowAt.form hE.ms
        obtain ⟨mn, hmn⟩ : ∃ z, s.ms.length = z := ⟨_, rfl⟩
        rw [hmn] at hE
        have HEE : Hid (stE w P sb (so + q * 6) s (.slice ma mn mc)) := hE
        have hwfs := HWF.out s (List.mem_of_getElem? hs)
        have HN : Hid (runL ln0 (l.take (q + 1)) = L.step s) := by show _ = _; rw [take_at hs, runL_snoc, hL]
        have HSW : Hid (∀ w', Chg w w' Ka → w'.cell? ⟨sb, so + q * 6, none⟩ = some (.int .i64 s.kind) ∧ w'.cell? ⟨sb, so + q * 6 + 1, none⟩ = some (.int .i64 s.on) ∧ w'.cell? ⟨sb, so + q * 6 + 2, none⟩ = some (.slice ma mn mc) ∧ w'.cell? ⟨sb, so + q * 6 + 3, none⟩ = some (.int .i64 s.n) ∧ w'.cell? ⟨sb, so + q * 6 + 4, none⟩ = some (.int .i64 s.a) ∧ w'.cell? ⟨sb, so + q * 6 + 5, none⟩ = some (.int .i64 s.t)) := fun w' hc => by
          have h9 := HEE.out.keep (Kp.of_chg hc (fun j _ hj => HP.out j hj)) hsb hsP
          exact ⟨h9.kind, h9.on, h9.cu, h9.n, h9.a, h9.t⟩
        have HA1 : Hid (∀ w' K p, Chg w w' Ka → AtL w' K L p → _) := fun w' K p hc ha => act_any w' K L p (.slice ma mn mc) s P ha hok hgv hwfs (MssAt.keep HEE.out.ms (Kp.of_chg hc (fun j _ hj => HP.out j hj)))
        obtain ⟨L2, hL2⟩ : ∃ z, L.step s = z := ⟨_, rfl⟩
        obtain ⟨A, hA⟩ : ∃ z, actN L s = z := ⟨_, rfl⟩
        have hAl := actN_len L s
        rw [hA] at hAl HA1
        rw [hL2] at HN HA1 hok2
        obtain ⟨NN, hNN⟩ : ∃ z, L2.fl.map (fun p => (p.n : Int)) = z := ⟨_, rfl⟩
        have HNU : Hid (∀ w' K p, AtL w' K L2 p → _) := fun w' K p ha => numbers_at w' K L2 p ha hok2
        rw [hNN] at HNU
        have hNl : NN.length ≤ 256 := by rw [← hNN, List.length_map]; exact hok2.len
        have HAL : Hid (A.length ≤ 300 ∧ NN.length ≤ 256) := ⟨hAl, hNl⟩
        have HOK2 : Hid L2.Ok := hok2
        obtain ⟨sk, son, sms, sn', sat, stt⟩ := s
        obtain ⟨s0, s1, s2, s3, s4, s5⟩ := HSW.out wr HI.out.hd.chg
        obtain ⟨w0, rfl⟩ : ∃ z, z = wr := ⟨_, rfl⟩
        simp only at s0 s1 s2 s3 s4 s5 HA1 HSW
        have HQ : Hid (q < sn ∧ q < 40) := ⟨hlt, h40⟩
        have hus : us.length = 3 * q := HI.out.len
        have hcs : cs.length = 3 * q := HI.out.lenW
        have HLEN : Hid (us.length = 3 * q ∧ cs.length = 3 * q) := ⟨hus, hcs⟩
        clear hs hsP hsb hE hL hgv hok hok2 hmn hwfs hL2 hA hAl hNN hNl HEE hus hcs
        go_wp2_with fail
        refine Calls.mono (HA1.out w0 K (.pointer o1) HI.out.hd.chg HI.out.hd.at1) ?_
        rintro e w1 ⟨ua, Ka1, rfl, hua, hE1⟩
        have HM1 : Hid (Hd w w1 Ka Ka1 L2 (.pointer o1) u5 u6 us cs ls ls) := HI.out.hd.call hE1
        have HUA1 : Hid (InsOwn w1 w0.heap.size ua A) := hua
        have HS1 : Hid (w0.heap.size ≤ w1.heap.size) := hE1.chg.size
        clear hua hE1 s0 s1 s2 s3 s4 s5
        go_wp2_with fail
        refine Calls.mono (HNU.out w1 Ka1 (.pointer o1) HM1.out.at1) ?_
        rintro e w2 ⟨un, Ka2, rfl, hun, _, hE2⟩
        have HM2 : Hid (Hd w w2 Ka Ka2 L2 (.pointer o1) u5 u6 us cs ls ls) := HM1.out.call hE2
        have HUA2 : Hid (InsOwn w2 w0.heap.size ua A) := row_at HM1.out.at1 hE2 HUA1.out (by decide)
        have HUN2 : Hid (InsOwn w2 w1.heap.size un NN) := hun
        have HS2 : Hid (w1.heap.size ≤ w2.heap.size) := hE2.chg.size
        clear hun hE2
        go_wp2_with fail
        refine Calls.mono (HNU.out w2 Ka2 (.pointer o1) HM2.out.at1) ?_
        rintro e w3 ⟨um, Ka3, rfl, hum, _, hE3⟩
        have HM3 : Hid (Hd w w3 Ka Ka3 L2 (.pointer o1) u5 u6 us cs ls ls) := HM2.out.call hE3
        have HUA3 : Hid (InsOwn w3 w0.heap.size ua A) := row_at HM2.out.at1 hE3 HUA2.out (by decide)
        have HUN3 : Hid (InsOwn w3 w1.heap.size un NN) := row_at HM2.out.at1 hE3 HUN2.out (by decide)
        have HUM3 : Hid (InsOwn w3 w2.heap.size um NN) := hum
        clear hum hE3
        have HSZ3 : Hid (w.heap.size ≤ w3.heap.size) := HM3.out.chg.size
        have HSW0 : Hid (w.heap.size ≤ w0.heap.size) := HI.out.hd.chg.size
        have HROW3 : Hid (w3.ownsRow w.heap.size 28 1 u5 (3 * q) us) := by
          have h9 : w3.ownsRow w.heap.size 28 1 u5 us.length us := HM3.out.row
          rw [HLEN.out.1] at h9
          exact h9
        obtain ⟨nA, hnA⟩ : ∃ z, A.length = z := ⟨_, rfl⟩
        obtain ⟨nN, hnN⟩ : ∃ z, NN.length = z := ⟨_, rfl⟩
        obtain ⟨xa, xb, hxa⟩ := ins_len HUA3.out
        obtain ⟨ya, yb, hya⟩ := ins_len HUN3.out
        obtain ⟨za, zb, hza⟩ := ins_len HUM3.out
        rw [hnA] at hxa
        rw [hnN] at hya hza
        subst hxa
        subst hya
        subst hza
        have HNL : Hid (A.length = nA ∧ NN.length = nN) := ⟨hnA, hnN⟩
        clear hnA hnN
        have HONE : Hid ((Value.slice xa nA xb).oneCell' = true ∧ (Value.slice ya nN yb).oneCell' = true ∧ (Value.slice za nN zb).oneCell' = true) := ⟨one_of HUA3.out, one_of HUN3.out, one_of HUM3.out⟩
        have HLT0 : Hid (∀ (k : Nat) (v : Value) (b : Nat), us[k]? = some v → v.ownBlock = some b → b < w0.heap.size) := HI.out.hd.lt
        go_wp2_with (first
          | (at_builtin; refine wpList_rowM Try.underlying84 Try.infoInts rfl (by decide) rfl _ _ rfl w.heap.size u5 (3 * q) us rfl (World.ownsRow.alloc HROW3.out _) w3.heap.size 3 3 [(.slice xa nA xb), (.slice ya nN yb), (.slice za nN zb)] rfl (heap_alloc_new _ _) rfl (fun y hy => by
               simp only [List.mem_cons, List.not_mem_nil, or_false] at hy
               rcases hy with rfl | rfl | rfl
               · exact HONE.out.1
               · exact HONE.out.2.1
               · exact HONE.out.2.2) (by unfold maxLen; omega) (by omega) (by rw [World.size_alloc]; have := HSZ3.out; omega) ?_)
          | fail)
        intro bv4 w4 hown4 hg4 ho4
        have hal4 : Below w3.heap.size w3 (w3.alloc (.cells #[(.slice xa nA xb), (.slice ya nN yb), (.slice za nN zb)] 28)) := (Below.refl _ _).alloc (Nat.le_refl _) _
        have HM4 : Hid (Hd w w4 Ka Ka3 L2 (.pointer o1) bv4 u6 (us ++ [(.slice xa nA xb)] ++ [(.slice ya nN yb)] ++ [(.slice za nN zb)]) cs (ls ++ [A] ++ [NN] ++ [NN]) ls) := by
          have hb := HM3.out.below hal4
          refine hb.grow ?_ hg4 (by simpa using ho4) (((hb.each.push (owns_mono (owns_below HUA3.out hal4) HSW0.out)).push (owns_mono (owns_below HUN3.out hal4) (Nat.le_trans HSW0.out HS1.out))).push (owns_mono (owns_below HUM3.out hal4) (Nat.le_trans HSW0.out (Nat.le_trans HS1.out HS2.out)))) ?_
          · show World.ownsRow _ _ _ _ _ _ _
            rw [show us ++ [(.slice xa nA xb)] ++ [(.slice ya nN yb)] ++ [(.slice za nN zb)] = us ++ [(.slice xa nA xb), (.slice ya nN yb), (.slice za nN zb)] by simp, List.length_append, HLEN.out.1]
            exact hown4
          · have n1 := HI.out.hd.nd.push (u := (.slice xa nA xb)) (s := w0.heap.size) HLT0.out (fun b hb => (row_block HUA1.out b hb).1)
            have lt1 : ∀ (k : Nat) (v : Value) (b : Nat), (us ++ [(.slice xa nA xb)])[k]? = some v → v.ownBlock = some b → b < w1.heap.size := fun k v b hv hb => by
              have hm := List.mem_of_getElem? hv
              rcases List.mem_append.1 hm with hm | hm
              · obtain ⟨k', hk'⟩ := List.getElem?_of_mem hm
                have := HLT0.out k' v b hk' hb
                have := HS1.out
                omega
              · obtain rfl : v = (.slice xa nA xb) := by simpa using hm
                exact (row_block HUA1.out b hb).2
            have n2 := n1.push (u := (.slice ya nN yb)) (s := w1.heap.size) lt1 (fun b hb => (row_block HUN2.out b hb).1)
            have lt2 : ∀ (k : Nat) (v : Value) (b : Nat), (us ++ [(.slice xa nA xb)] ++ [(.slice ya nN yb)])[k]? = some v → v.ownBlock = some b → b < w2.heap.size := fun k v b hv hb => by
              have hm := List.mem_of_getElem? hv
              rcases List.mem_append.1 hm with hm | hm
              · obtain ⟨k', hk'⟩ := List.getElem?_of_mem hm
                have := lt1 k' v b hk' hb
                have := HS2.out
                omega
              · obtain rfl : v = (.slice ya nN yb) := by simpa using hm
                exact (row_block HUN2.out b hb).2
            exact n2.push (u := (.slice za nN zb)) (s := w2.heap.size) lt2 (fun b hb => (row_block HUM3.out b hb).1)
        have hkd4 := Kind.own (owns_below HROW3.out hal4)
        have HUA4 : Hid (InsOwn w4 0 (.slice xa nA xb) A) := owns_mono (row_other (owns_below HUA3.out hal4) (Chg.grown hg4) hkd4 (by decide)) (Nat.zero_le _)
        have HUN4 : Hid (InsOwn w4 0 (.slice ya nN yb) NN) := owns_mono (row_other (owns_below HUN3.out hal4) (Chg.grown hg4) hkd4 (by decide)) (Nat.zero_le _)
        have HUM4 : Hid (InsOwn w4 0 (.slice za nN zb) NN) := owns_mono (row_other (owns_below HUM3.out hal4) (Chg.grown hg4) hkd4 (by decide)) (Nat.zero_le _)
        have hsl4 : ∃ a c, bv4 = .slice a (3 * q + 3) c := by obtain ⟨a, c, h, _⟩ := row_form hown4; exact ⟨a, c, h⟩
        obtain ⟨ba4, bc4, rfl⟩ := hsl4
        clear hown4 hg4 ho4 hal4 hkd4
        go_wp2_with fail
        refine Calls.mono (copied_any (.slice xa nA xb) A w4 HUA4.out (by have := HAL.out.1; omega)) ?_
        rintro e w5 ⟨ca, rfl, hca, hb5⟩
        have HM5 : Hid (Hd w w5 Ka Ka3 L2 (.pointer o1) (.slice ba4 (3 * q + 3) bc4) u6 (us ++ [(.slice xa nA xb)] ++ [(.slice ya nN yb)] ++ [(.slice za nN zb)]) cs (ls ++ [A] ++ [NN] ++ [NN]) ls) := HM4.out.below hb5
        have HCA5 : Hid (InsOwn w5 w4.heap.size ca A) := hca
        have HUN5 : Hid (InsOwn w5 0 (.slice ya nN yb) NN) := owns_below HUN4.out hb5
        have HUM5 : Hid (InsOwn w5 0 (.slice za nN zb) NN) := owns_below HUM4.out hb5
        have HS5 : Hid (w4.heap.size ≤ w5.heap.size) := hb5.size
        clear hca hb5
        go_wp2_with fail
        refine Calls.mono (copied_any (.slice ya nN yb) NN w5 HUN5.out (by have := HAL.out.2; omega)) ?_
        rintro e w6 ⟨cn, rfl, hcn, hb6⟩
        have HM6 : Hid (Hd w w6 Ka Ka3 L2 (.pointer o1) (.slice ba4 (3 * q + 3) bc4) u6 (us ++ [(.slice xa nA xb)] ++ [(.slice ya nN yb)] ++ [(.slice za nN zb)]) cs (ls ++ [A] ++ [NN] ++ [NN]) ls) := HM5.out.below hb6
        have HCA6 : Hid (InsOwn w6 w4.heap.size ca A) := owns_below HCA5.out hb6
        have HCN6 : Hid (InsOwn w6 w5.heap.size cn NN) := hcn
        have HUM6 : Hid (InsOwn w6 0 (.slice za nN zb) NN) := owns_below HUM5.out hb6
        have HS6 : Hid (w5.heap.size ≤ w6.heap.size) := hb6.size
        clear hcn hb6
        go_wp2_with fail
        refine Calls.mono (copied_any (.slice za nN zb) NN w6 HUM6.out (by have := HAL.out.2; omega)) ?_
        rintro e w7 ⟨cm, rfl, hcm, hb7⟩
        have HM7 : Hid (Hd w w7 Ka Ka3 L2 (.pointer o1) (.slice ba4 (3 * q + 3) bc4) u6 (us ++ [(.slice xa nA xb)] ++ [(.slice ya nN yb)] ++ [(.slice za nN zb)]) cs (ls ++ [A] ++ [NN] ++ [NN]) ls) := HM6.out.below hb7
        have HCA7 : Hid (InsOwn w7 w4.heap.size ca A) := owns_below HCA6.out hb7
        have HCN7 : Hid (InsOwn w7 w5.heap.size cn NN) := owns_below HCN6.out hb7
        have HCM7 : Hid (InsOwn w7 w6.heap.size cm NN) := hcm
        clear hcm hb7
        have HSZ7 : Hid (w.heap.size ≤ w7.heap.size) := HM7.out.chg.size
        have HSZ4 : Hid (w.heap.size ≤ w4.heap.size) := HM4.out.chg.size
        have HROW7 : Hid (w7.ownsRow w.heap.size 28 1 u6 (3 * q) cs) := by
          have h9 : w7.ownsRow w.heap.size 28 1 u6 cs.length cs := HM7.out.rowW
          rw [HLEN.out.2] at h9
          exact h9
        obtain ⟨xd, xe, hxd⟩ := ins_len HCA7.out
        obtain ⟨yd, ye, hyd⟩ := ins_len HCN7.out
        obtain ⟨zd, ze, hzd⟩ := ins_len HCM7.out
        rw [HNL.out.1] at hxd
        rw [HNL.out.2] at hyd hzd
        subst hxd
        subst hyd
        subst hzd
        have HONEC : Hid ((Value.slice xd nA xe).oneCell' = true ∧ (Value.slice yd nN ye).oneCell' = true ∧ (Value.slice zd nN ze).oneCell' = true) := ⟨one_of HCA7.out, one_of HCN7.out, one_of HCM7.out⟩
        go_wp2_with (first
          | (at_builtin; refine wpList_rowM Try.underlying84 Try.infoInts rfl (by decide) rfl _ _ rfl w.heap.size u6 (3 * q) cs rfl (World.ownsRow.alloc HROW7.out _) w7.heap.size 3 3 [(.slice xd nA xe), (.slice yd nN ye), (.slice zd nN ze)] rfl (heap_alloc_new _ _) rfl (fun y hy => by
               simp only [List.mem_cons, List.not_mem_nil, or_false] at hy
               rcases hy with rfl | rfl | rfl
               · exact HONEC.out.1
               · exact HONEC.out.2.1
               · exact HONEC.out.2.2) (by unfold maxLen; omega) (by omega) (by rw [World.size_alloc]; have := HSZ7.out; omega) ?_)
          | fail)
        intro bv8 w8 hown8 hg8 ho8
        have hal8 : Below w7.heap.size w7 (w7.alloc (.cells #[(.slice xd nA xe), (.slice yd nN ye), (.slice zd nN ze)] 28)) := (Below.refl _ _).alloc (Nat.le_refl _) _
        have HM8 : Hid (Hd w w8 Ka Ka3 L2 (.pointer o1) (.slice ba4 (3 * q + 3) bc4) bv8 (us ++ [(.slice xa nA xb)] ++ [(.slice ya nN yb)] ++ [(.slice za nN zb)]) (cs ++ [(.slice xd nA xe)] ++ [(.slice yd nN ye)] ++ [(.slice zd nN ze)]) (ls ++ [A] ++ [NN] ++ [NN]) (ls ++ [A] ++ [NN] ++ [NN])) := by
          have hb := HM7.out.below hal8
          refine hb.growW ?_ hg8 (by simpa using ho8) (((hb.eachW.push (owns_mono (owns_below HCA7.out hal8) HSZ4.out)).push (owns_mono (owns_below HCN7.out hal8) (Nat.le_trans HSZ4.out HS5.out))).push (owns_mono (owns_below HCM7.out hal8) (Nat.le_trans HSZ4.out (Nat.le_trans HS5.out HS6.out))))
          show World.ownsRow _ _ _ _ _ _ _
          rw [show cs ++ [(.slice xd nA xe)] ++ [(.slice yd nN ye)] ++ [(.slice zd nN ze)] = cs ++ [(.slice xd nA xe), (.slice yd nN ye), (.slice zd nN ze)] by simp, List.length_append, HLEN.out.2]
          exact hown8
        have hsl8 : ∃ a c, bv8 = .slice a (3 * q + 3) c := by obtain ⟨a, c, h, _⟩ := row_form hown8; exact ⟨a, c, h⟩
        obtain ⟨ba8, bc8, rfl⟩ := hsl8
        have HT8 : Hid (Ht w w8 Ka Ka3 (runL ln0 (l.take (q + 1))) (.pointer o1) (.slice ba4 (3 * q + 3) bc4) (.slice ba8 (3 * q + 3) bc8) (us ++ [(.slice xa nA xb)] ++ [(.slice ya nN yb)] ++ [(.slice za nN zb)]) (cs ++ [(.slice xd nA xe)] ++ [(.slice yd nN ye)] ++ [(.slice zd nN ze)]) (ls ++ [A] ++ [NN] ++ [NN]) (3 * (q + 1))) := by
          rw [HN.out]
          exact ⟨HM8.out, by simp [HLEN.out.1]; omega, by simp [HLEN.out.2]; omega, ((HI.out.sm.push HAL.out.1).push (by have := HAL.out.2; omega)).push (by have := HAL.out.2; omega), HOK2.out⟩
        clear hown8 hg8 ho8 hal8
        go_wp2_with fail
        go_roundw
        case rel => exact ⟨q + 1, Ka3, _, _, _, by go_num, HQ.out.1, HQ.out.2, HT8⟩
        case measure => have := HQ.out.1; simp [intOf]; omega
    · by_cases hlt : q < sn
      · have hge : ¬ (q : Int) < 40 := by omega
        have hqi : (q : Int) < (sn : Int) := by omega
        have HT0 : Hid (Ht w wr Ka K (runL ln0 (l.take q)) (.pointer o1) u5 u6 us cs ls (3 * q) ∧ (runL ln0 (l.take q)).gv ≤ 12000) := ⟨HI.out, by
          have h1 := runL_gv ln0 (l.take q)
          rw [List.length_take] at h1
          have : ln0.gv = 0 := rfl
          omega⟩
        obtain ⟨W0, rfl⟩ : ∃ z, z = wr := ⟨_, rfl⟩
        obtain ⟨N0, hN0⟩ : ∃ z, 3 * q = z := ⟨_, rfl⟩
        have hN0' : N0 ≤ 120 := by omega
        rw [hN0] at HT0
        clear hN0 HI
        obtain ⟨LQ, hLQ⟩ : ∃ z, runL ln0 (l.take q) = z := ⟨_, rfl⟩
        rw [hLQ] at HT0
        clear hLQ
        go_wp2_with fail
        go_loopw [5, 6, 11, 12] (fun av wv i _ wr => ∃ (t : Nat) (K : Nat → Prop) (L : LnT) (us cs : List Value) (ls : List (List Int)), i = .int .i64 t ∧ t ≤ 3 ∧ Hid (Ht w wr Ka K L (.pointer o1) av wv us cs ls (N0 + t) ∧ L.gv ≤ 12000)) (fun _ _ i _ _ => 3 - (intOf i).toNat)
        case atStart => exact ⟨0, K, LQ, us, cs, ls, rfl, Nat.zero_le _, HT0⟩
        case round =>
          clear HT0
          obtain ⟨t, K, L, us, cs, ls, rfl, ht, HI⟩ := hrel
          by_cases hlt3 : t < 3
          · have hti : (t : Int) < 3 := by omega
            have htw : IntKind.i64.wrap ((t : Int) + 1) = (t : Int) + 1 := by unfold IntKind.wrap; simp [IntKind.bits, IntKind.signed]; omega
            have hok := HI.out.1.ok
            have HACT : Hid (∀ w' K p, AtL w' K L p → _) := fun w' K p ha => act_any w' K L p (.slice none 0 0) ⟨2, 0, [], (t : Int) + 1, 0, 0⟩ (fun _ => False) ha hok (by have := HI.out.2; unfold MaxG; omega) (WalkArith.wf_i64 (by show _ ≤ (t : Int) + 1 ∧ (t : Int) + 1 ≤ _; omega)) ⟨none, 0, rfl, Nat.le_refl _, fun _ => rfl, .inl rfl⟩
            obtain ⟨L2, hL2⟩ : ∃ z, L.step ⟨2, 0, [], (t : Int) + 1, 0, 0⟩ = z := ⟨_, rfl⟩
            have hok2 : L2.Ok := by rw [← hL2]; exact hok.step _
            have hgv2 : L2.gv ≤ 12000 := by
              rw [← hL2]
              have e : L.step ⟨2, 0, [], (t : Int) + 1, 0, 0⟩ = (L.tak ((t : Int) + 1)).1 := rfl
              rw [e, tak_gv]
              exact HI.out.2
            rw [hL2] at HACT
            obtain ⟨NN, hNN⟩ : ∃ z, L2.fl.map (fun p => (p.n : Int)) = z := ⟨_, rfl⟩
            have HNU : Hid (∀ w' K p, AtL w' K L2 p → _) := fun w' K p ha => numbers_at w' K L2 p ha hok2
            rw [hNN] at HNU
            have hNl : NN.length ≤ 256 := by rw [← hNN, List.length_map]; exact hok2.len
            have HAL : Hid (NN.length ≤ 256) := hNl
            have HOK2 : Hid (L2.Ok ∧ L2.gv ≤ 12000) := ⟨hok2, hgv2⟩
            have HLEN : Hid (us.length = N0 + t ∧ cs.length = N0 + t) := ⟨HI.out.1.len, HI.out.1.lenW⟩
            have HQ3 : Hid (t < 3) := hlt3
            obtain ⟨w0, rfl⟩ : ∃ z, z = wr := ⟨_, rfl⟩
            clear hok hL2 hok2 hgv2 hNN hNl
            go_wp2_with fail
            refine Calls.mono (HACT.out w0 K (.pointer o1) HI.out.1.hd.at1) ?_
            rintro e w1 ⟨uz, Ka1, rfl, hua, hE1⟩
            have HM1 : Hid (Hd w w1 Ka Ka1 L2 (.pointer o1) u5 u6 us cs ls ls) := HI.out.1.hd.call hE1
            have HS1 : Hid (w0.heap.size ≤ w1.heap.size) := hE1.chg.size
            clear hua hE1
            go_wp2_with fail
            refine Calls.mono (HNU.out w1 Ka1 (.pointer o1) HM1.out.at1) ?_
            rintro e w3 ⟨uy, Ka3, rfl, hun, _, hE3⟩
            have HM3 : Hid (Hd w w3 Ka Ka3 L2 (.pointer o1) u5 u6 us cs ls ls) := HM1.out.call hE3
            have HUN3 : Hid (InsOwn w3 w1.heap.size uy NN) := hun
            clear hun hE3
            have HSZ3 : Hid (w.heap.size ≤ w3.heap.size) := HM3.out.chg.size
            have HSZ1 : Hid (w.heap.size ≤ w1.heap.size) := HM1.out.chg.size
            have HROW3 : Hid (w3.ownsRow w.heap.size 28 1 u5 (N0 + t) us) := by
              have h9 : w3.ownsRow w.heap.size 28 1 u5 us.length us := HM3.out.row
              rw [HLEN.out.1] at h9
              exact h9
            have HLT1 : Hid (∀ (k : Nat) (v : Value) (b : Nat), us[k]? = some v → v.ownBlock = some b → b < w1.heap.size) := HM1.out.lt
            obtain ⟨nN, hnN⟩ : ∃ z, NN.length = z := ⟨_, rfl⟩
            obtain ⟨ya, yb, hya⟩ := ins_len HUN3.out
            rw [hnN] at hya
            subst hya
            have HNL : Hid (NN.length = nN) := hnN
            clear hnN
            go_wp2_with (first
              | (at_builtin; refine wpList_rowM Try.underlying84 Try.infoInts rfl (by decide) rfl _ _ rfl w.heap.size u5 (N0 + t) us rfl (World.ownsRow.alloc HROW3.out _) w3.heap.size 1 1 [.slice ya nN yb] rfl (heap_alloc_new _ _) rfl (fun y hy => by
                   simp only [List.mem_cons, List.not_mem_nil, or_false] at hy
                   rw [hy]
                   rfl) (by unfold maxLen; omega) (by omega) (by rw [World.size_alloc]; have := HSZ3.out; omega) ?_)
              | fail)
            intro bv4 w4 hown4 hg4 ho4
            have hal4 : Below w3.heap.size w3 (w3.alloc (.cells #[.slice ya nN yb] 28)) := (Below.refl _ _).alloc (Nat.le_refl _) _
            have HM4 : Hid (Hd w w4 Ka Ka3 L2 (.pointer o1) bv4 u6 (us ++ [.slice ya nN yb]) cs (ls ++ [NN]) ls) := by
              have hb := HM3.out.below hal4
              refine hb.grow ?_ hg4 (by simpa using ho4) (hb.each.push (owns_mono (owns_below HUN3.out hal4) HSZ1.out)) ?_
              · show World.ownsRow _ _ _ _ _ _ _
                rw [List.length_append, HLEN.out.1]
                exact hown4
              · exact HM1.out.nd.push (s := w1.heap.size) HLT1.out (fun b hb => (row_block HUN3.out b hb).1)
            have hkd4 := Kind.own (owns_below HROW3.out hal4)
            have HUN4 : Hid (InsOwn w4 0 (.slice ya nN yb) NN) := owns_mono (row_other (owns_below HUN3.out hal4) (Chg.grown hg4) hkd4 (by decide)) (Nat.zero_le _)
            have hsl4 : ∃ a c, bv4 = .slice a (N0 + t + 1) c := by obtain ⟨a, c, h, _⟩ := row_form hown4; exact ⟨a, c, h⟩
            obtain ⟨ba4, bc4, rfl⟩ := hsl4
            clear hown4 hg4 ho4 hal4 hkd4
            go_wp2_with fail
            refine Calls.mono (copied_any (.slice ya nN yb) NN w4 HUN4.out (by have := HAL.out; omega)) ?_
            rintro e w7 ⟨cy, rfl, hcn, hb7⟩
            have HM7 : Hid (Hd w w7 Ka Ka3 L2 (.pointer o1) (.slice ba4 (N0 + t + 1) bc4) u6 (us ++ [.slice ya nN yb]) cs (ls ++ [NN]) ls) := HM4.out.below hb7
            have HCN7 : Hid (InsOwn w7 w4.heap.size cy NN) := hcn
            clear hcn hb7
            have HSZ7 : Hid (w.heap.size ≤ w7.heap.size) := HM7.out.chg.size
            have HSZ4 : Hid (w.heap.size ≤ w4.heap.size) := HM4.out.chg.size
            have HROW7 : Hid (w7.ownsRow w.heap.size 28 1 u6 (N0 + t) cs) := by
              have h9 : w7.ownsRow w.heap.size 28 1 u6 cs.length cs := HM7.out.rowW
              rw [HLEN.out.2] at h9
              exact h9
            obtain ⟨yd, ye, hyd⟩ := ins_len HCN7.out
            rw [HNL.out] at hyd
            subst hyd
            go_wp2_with (first
              | (at_builtin; refine wpList_rowM Try.underlying84 Try.infoInts rfl (by decide) rfl _ _ rfl w.heap.size u6 (N0 + t) cs rfl (World.ownsRow.alloc HROW7.out _) w7.heap.size 1 1 [.slice yd nN ye] rfl (heap_alloc_new _ _) rfl (fun y hy => by
                   simp only [List.mem_cons, List.not_mem_nil, or_false] at hy
                   rw [hy]
                   rfl) (by unfold maxLen; omega) (by omega) (by rw [World.size_alloc]; have := HSZ7.out; omega) ?_)
              | fail)
            intro bv8 w8 hown8 hg8 ho8
            have hal8 : Below w7.heap.size w7 (w7.alloc (.cells #[.slice yd nN ye] 28)) := (Below.refl _ _).alloc (Nat.le_refl _) _
            have HM8 : Hid (Hd w w8 Ka Ka3 L2 (.pointer o1) (.slice ba4 (N0 + t + 1) bc4) bv8 (us ++ [.slice ya nN yb]) (cs ++ [.slice yd nN ye]) (ls ++ [NN]) (ls ++ [NN])) := by
              have hb := HM7.out.below hal8
              refine hb.growW ?_ hg8 (by simpa using ho8) (hb.eachW.push (owns_mono (owns_below HCN7.out hal8) HSZ4.out))
              show World.ownsRow _ _ _ _ _ _ _
              rw [List.length_append, HLEN.out.2]
              exact hown8
            have hsl8 : ∃ a c, bv8 = .slice a (N0 + t + 1) c := by obtain ⟨a, c, h, _⟩ := row_form hown8; exact ⟨a, c, h⟩
            obtain ⟨ba8, bc8, rfl⟩ := hsl8
            have HT8 : Hid (Ht w w8 Ka Ka3 L2 (.pointer o1) (.slice ba4 (N0 + t + 1) bc4) (.slice ba8 (N0 + t + 1) bc8) (us ++ [.slice ya nN yb]) (cs ++ [.slice yd nN ye]) (ls ++ [NN]) (N0 + (t + 1)) ∧ L2.gv ≤ 12000) :=
              ⟨⟨HM8.out, by rw [List.length_append, HLEN.out.1]; rfl, by rw [List.length_append, HLEN.out.2]; rfl, HI.out.1.sm.push (by have := HAL.out; omega), HOK2.out.1⟩, HOK2.out.2⟩
            clear hown8 hg8 ho8 hal8
            go_wp2_with fail
            go_roundw
            case rel => exact ⟨t + 1, Ka3, L2, _, _, _, by go_num, HQ3.out, HT8⟩
            case measure => have := HQ3.out; simp [intOf]; omega
          · obtain rfl : t = 3 := by omega
            have hge3 : ¬ ((3 : Nat) : Int) < 3 := by omega
            have hus : us.length = N0 + 3 := HI.out.1.len
            have hcs : cs.length = N0 + 3 := HI.out.1.lenW
            have HSM : Hid (SmL ls) := HI.out.1.sm
            obtain ⟨M, hM⟩ : ∃ z, N0 + 3 = z := ⟨_, rfl⟩
            have hM' : M ≤ 123 := by omega
            rw [hM] at hus hcs
            have HLEN : Hid (us.length = M ∧ cs.length = M) := ⟨hus, hcs⟩
            have hr5 : wr.ownsRow w.heap.size 28 1 u5 M us := by
              have h9 : wr.ownsRow w.heap.size 28 1 u5 us.length us := HI.out.1.hd.row
              rw [hus] at h9
              exact h9
            have hr6 : wr.ownsRow w.heap.size 28 1 u6 M cs := by
              have h9 : wr.ownsRow w.heap.size 28 1 u6 cs.length cs := HI.out.1.hd.rowW
              rw [hcs] at h9
              exact h9
            obtain ⟨ga, ac, h5⟩ : ∃ g c, u5 = .slice (some ⟨g, 0, none⟩) M c := by rw [← hM] at hr5 ⊢; exact row_some (n := N0 + 2) hr5
            obtain ⟨gw, wc, h6⟩ : ∃ g c, u6 = .slice (some ⟨g, 0, none⟩) M c := by rw [← hM] at hr6 ⊢; exact row_some (n := N0 + 2) hr6
            subst h5
            subst h6
            have HD : Hid (Hd w wr Ka K L (.pointer o1) (.slice (some ⟨ga, 0, none⟩) M ac) (.slice (some ⟨gw, 0, none⟩) M wc) us cs ls ls) := HI.out.1.hd
            obtain ⟨W3, rfl⟩ : ∃ z, z = wr := ⟨_, rfl⟩
            clear hus hcs hM hr5 hr6 HI
            go_wp2_with fail
            go_loopw [13] (fun i wr => ∃ t : Nat, i = .int .i64 t ∧ t ≤ M ∧ Hid (Hd w wr Ka K L (.pointer o1) (.slice (some ⟨ga, 0, none⟩) M ac) (.slice (some ⟨gw, 0, none⟩) M wc) us cs ls ls)) (fun i _ => M - (intOf i).toNat)
            case atStart => exact ⟨0, rfl, Nat.zero_le _, HD⟩
            case round =>
              clear HD
              obtain ⟨t, rfl, ht, HI⟩ := hrel
              by_cases htM : t < M
              · have hti : (t : Int) < (M : Int) := by omega
                obtain ⟨u, hu⟩ : ∃ x, us[t]? = some x := ⟨us[t]'(by rw [HLEN.out.1]; exact htM), List.getElem?_eq_getElem _⟩
                obtain ⟨c, hc⟩ : ∃ x, cs[t]? = some x := ⟨cs[t]'(by rw [HLEN.out.2]; exact htM), List.getElem?_eq_getElem _⟩
                obtain ⟨xs, hx⟩ : ∃ x, ls[t]? = some x := ⟨ls[t]'(by rw [← HI.out.each.1, HLEN.out.1]; exact htM), List.getElem?_eq_getElem _⟩
                have hxl := HSM.out xs (List.mem_of_getElem? hx)
                have HSW : Hid (∀ w', Below wr.heap.size wr w' → w'.cell? ⟨ga, t, none⟩ = some u ∧ w'.cell? ⟨gw, t, none⟩ = some c) := fun w' hb => by
                  have h9 := HI.out.below hb
                  have r1 : w'.ownsRow w.heap.size 28 1 (.slice (some ⟨ga, 0, none⟩) M ac) M us := by
                    have h8 : w'.ownsRow w.heap.size 28 1 (.slice (some ⟨ga, 0, none⟩) M ac) us.length us := h9.row
                    rw [HLEN.out.1] at h8
                    exact h8
                  have r2 : w'.ownsRow w.heap.size 28 1 (.slice (some ⟨gw, 0, none⟩) M wc) M cs := by
                    have h8 : w'.ownsRow w.heap.size 28 1 (.slice (some ⟨gw, 0, none⟩) M wc) cs.length cs := h9.rowW
                    rw [HLEN.out.2] at h8
                    exact h8
                  exact ⟨cell_n r1 hu, cell_n r2 hc⟩
                have HIN : Hid (∀ w', Below wr.heap.size wr w' → _) := fun w' hb => ints_own xs u c w' ((HI.out.below hb).each.2 t u xs hu hx) ((HI.out.below hb).eachW.2 t c xs hc hx) (by omega)
                obtain ⟨c0, c1⟩ := HSW.out wr (Below.refl _ _)
                have HTM : Hid (t < M) := htM
                clear hu hc hx hxl
                go_upto_region 21 with fail
                go_region_held3 (fun w' => w'.cell? ⟨ga, t, none⟩ = some u ∧ w'.cell? ⟨gw, t, none⟩ = some c)
                  (first
                  | (refine HSW.out _ ?_; first | exact HB9.out | exact below_drew (Below.refl _ _) | exact Below.refl _ _)
                  | go_keep)
                  (first
                  | (go_at_call 26
                     refine Calls.mono (HIN.out wr.drew (below_drew (Below.refl _ _))) ?_
                     rintro e w9 ⟨rfl, hb9⟩
                     have HB9 : Hid (Below wr.heap.size wr w9) := of_drew hb9
                     clear hb9))
                have HI9 : Hid (Hd w w9 Ka K L (.pointer o1) (.slice (some ⟨ga, 0, none⟩) M ac) (.slice (some ⟨gw, 0, none⟩) M wc) us cs ls ls) := HI.out.below HB9.out
                go_wp2_with fail
                go_roundw
                case rel => exact ⟨t + 1, by go_num, HTM.out, HI9⟩
                case measure => have := HTM.out; simp [intOf]; omega
              · obtain rfl : t = M := by omega
                have hgeM : ¬ (t : Int) < (t : Int) := by omega
                have HND : Hid (Nd us) := HI.out.nd
                have H4 : Hid (∀ (k : Nat) (v : Value) (b : Nat), us[k]? = some v → v.ownBlock = some b → b < wr.heap.size) := HI.out.lt
                have HEL : Hid (us.length = ls.length) := HI.out.each.1
                obtain ⟨W4, rfl⟩ : ∃ z, z = wr := ⟨_, rfl⟩
                have HF0 : Hid (Fd w W4 W4 Ka (.slice (some ⟨ga, 0, none⟩) t ac) (.slice none 0 0) us ls [] 0) := Fd.start HI.out
                clear HI
                go_wp2_with fail
                go_loopw [14, 15] (fun bv i wr => ∃ (r : Nat) (bk : List BkT), i = .int .i64 r ∧ r ≤ t ∧ Hid (Fd w W4 wr Ka (.slice (some ⟨ga, 0, none⟩) t ac) bv us ls bk r ∧ bk.length = r)) (fun _ i _ => t - (intOf i).toNat)
                case atStart => exact ⟨0, [], rfl, Nat.zero_le _, HF0.out, rfl⟩
                case round =>
                  clear HF0
                  obtain ⟨r, bk, rfl, hr, HI⟩ := hrel
                  by_cases hrt : r < t
                  · have hri : (r : Int) < (t : Int) := by omega
                    obtain ⟨u, hu⟩ : ∃ x, us[r]? = some x := ⟨us[r]'(by rw [HLEN.out.1]; exact hrt), List.getElem?_eq_getElem _⟩
                    obtain ⟨xs, hx⟩ : ∃ x, ls[r]? = some x := ⟨ls[r]'(by rw [← HEL.out, HLEN.out.1]; exact hrt), List.getElem?_eq_getElem _⟩
                    have hxl := HSM.out xs (List.mem_of_getElem? hx)
                    have HXL : Hid (xs.length ≤ 300) := hxl
                    have c0 : wr.cell? ⟨ga, r, none⟩ = some u := by
                      have r1 : wr.ownsRow w.heap.size 28 1 (.slice (some ⟨ga, 0, none⟩) t ac) t us := by
                        have h8 : wr.ownsRow w.heap.size 28 1 (.slice (some ⟨ga, 0, none⟩) t ac) us.length us := HI.out.1.row
                        rw [HLEN.out.1] at h8
                        exact h8
                      exact cell_n r1 hu
                    have HUR : Hid (InsOwn wr w.heap.size u xs) := HI.out.1.rest r u xs (Nat.le_refl _) hu hx
                    have HUX : Hid (us[r]? = some u ∧ ls[r]? = some xs) := ⟨hu, hx⟩
                    have HRT : Hid (r < t) := hrt
                    have hw1 : IntKind.i64.wrap (-100 * (r : Int)) = -100 * (r : Int) := by unfold IntKind.wrap; simp [IntKind.bits, IntKind.signed]; omega
                    have hw2 : IntKind.i64.wrap (-100 * (r : Int) - 100) = -100 * (r : Int) - 100 := by unfold IntKind.wrap; simp [IntKind.bits, IntKind.signed]; omega
                    obtain ⟨w6, rfl⟩ : ∃ z, z = wr := ⟨_, rfl⟩
                    clear hu hx hxl
                    go_wp2_with fail
                    refine Calls.mono (kept_any u xs (-100 * (r : Int) - 100) w6 (owns_mono HUR.out (Nat.zero_le _)) (by omega) (by have := HXL.out; omega)) ?_
                    rintro e w7 ⟨gz, rfl, hbe7, hgz7, hc7⟩
                    have HM7 : Hid (Fd w W4 w7 Ka (.slice (some ⟨ga, 0, none⟩) t ac) u14 us ls bk (r + 1)) := HI.out.1.turn HND.out H4.out HUX.out.1 HUX.out.2 hc7
                    have HBE7 : Hid (BkE w7 ⟨u, gz, xs.length, -100 * (r : Int) - 100⟩) := hbe7
                    have HGZ : Hid (∀ j, BkB ⟨u, gz, xs.length, -100 * (r : Int) - 100⟩ j → (∃ (k : Nat) (v : Value), k < r + 1 ∧ us[k]? = some v ∧ v.ownBlock = some j) ∨ W4.heap.size ≤ j) := fun j hj => by
                      rcases hj with e | e
                      · exact .inl ⟨r, u, Nat.lt_succ_self r, HUX.out.1, e⟩
                      · rcases hgz7 j e with e | e
                        · exact .inl ⟨r, u, Nat.lt_succ_self r, HUX.out.1, e⟩
                        · exact .inr (Nat.le_trans HI.out.1.size e)
                    have HROW7 : Hid (w7.ownsRow w.heap.size 81 3 u14 r (bk.flatMap BkT.cells)) := by
                      have h9 : w7.ownsRow w.heap.size 81 3 u14 bk.length (bk.flatMap BkT.cells) := HM7.out.book
                      rw [HI.out.2] at h9
                      exact h9
                    have HSZ7 : Hid (w.heap.size ≤ w7.heap.size) := HM7.out.chg.size
                    obtain ⟨XS, hXS⟩ : ∃ z, bk.flatMap BkT.cells = z := ⟨_, rfl⟩
                    rw [hXS] at HROW7
                    have HXS : Hid (bk.flatMap BkT.cells = XS) := hXS
                    have HUV7 : Hid (u.oneCell' = true ∧ gz.oneCell' = true) := ⟨one_of HUR.out, one_of HBE7.out.g⟩
                    clear hc7 hbe7 hgz7 hXS c0
                    go_wp2_with (first
                      | (at_builtin; refine wpList_row Try.underlying78 Try.infoKept rfl (by decide) rfl _ _ rfl w.heap.size u14 r XS rfl (World.ownsRow.alloc HROW7.out _) w7.heap.size 1 [u, gz, .int .i64 (-100 * (r : Int) - 100)] rfl (heap_alloc_new _ _) rfl (fun y hy => by
                           simp only [List.mem_cons, List.not_mem_nil, or_false] at hy
                           rcases hy with rfl | rfl | rfl
                           · exact HUV7.out.1
                           · exact HUV7.out.2
                           · rfl) (by unfold maxLen; omega) (by omega) (by rw [World.size_alloc]; have := HSZ7.out; omega) ?_)
                      | fail)
                    intro bv8 w8 hown8 hg8 ho8
                    have hal8 : Below w7.heap.size w7 (w7.alloc (.cells #[u, gz, .int .i64 (-100 * (r : Int) - 100)] 81)) := (Below.refl _ _).alloc (Nat.le_refl _) _
                    have HM8 : Hid (Fd w W4 w8 Ka (.slice (some ⟨ga, 0, none⟩) t ac) bv8 us ls (bk ++ [⟨u, gz, xs.length, -100 * (r : Int) - 100⟩]) (r + 1) ∧ (bk ++ [(⟨u, gz, xs.length, -100 * (r : Int) - 100⟩ : BkT)]).length = r + 1) := by
                      refine ⟨(HM7.out.below hal8).push (x := ⟨u, gz, xs.length, -100 * (r : Int) - 100⟩) (by rw [HI.out.2, HXS.out]; exact hown8) hg8 (HBE7.out.keep (Kp.of_below hal8 _)) ⟨by show -1000000 ≤ -100 * (r : Int) - 100; omega, by show -100 * (r : Int) - 100 ≤ 0; omega, by show xs.length ≤ 1000; have := HXL.out; omega⟩ HGZ.out, ?_⟩
                      rw [List.length_append, HI.out.2]
                      rfl
                    have hsl8 : ∃ a c, bv8 = .slice a (r + 1) c := by obtain ⟨a, c, h, _⟩ := row_form hown8; exact ⟨a, c, h⟩
                    obtain ⟨ba8, bc8, rfl⟩ := hsl8
                    clear hown8 hg8 ho8 hal8
                    go_wp2_with fail
                    go_roundw
                    case rel => exact ⟨r + 1, _, by go_num, HRT.out, HM8⟩
                    case measure => have := HRT.out; simp [intOf]; omega
                  · obtain rfl : r = t := by omega
                    have hger : ¬ (r : Int) < (r : Int) := by omega
                    have HST : Hid _ := still_any u14 w.heap.size bk wr HI.out.1.book HI.out.1.each HI.out.1.small (by rw [HI.out.2]; omega)
                    have hsl : ∃ a c, u14 = .slice a r c := by
                      obtain ⟨a, c, h, _⟩ := row_form HI.out.1.book
                      rw [HI.out.2] at h
                      exact ⟨a, c, h⟩
                    obtain ⟨ba, bc, rfl⟩ := hsl
                    go_wp2_with fail
                    refine Calls.mono HST.out ?_
                    rintro e w9 ⟨rfl, hb9⟩
                    have HC9 : Hid (Chg w w9 Ka) := HI.out.1.chg.trans (Chg.of_below hb9 _)
                    clear hb9
                    go_wp2_with fail
                    go_ret
                    exact ⟨rfl, HC9.out⟩
      · have hge : ¬ (q : Int) < (sn : Int) := by omega
        have HT0 : Hid (Ht w wr Ka K (runL ln0 (l.take q)) (.pointer o1) u5 u6 us cs ls (3 * q) ∧ (runL ln0 (l.take q)).gv ≤ 12000) := ⟨HI.out, by
          have h1 := runL_gv ln0 (l.take q)
          rw [List.length_take] at h1
          have : ln0.gv = 0 := rfl
          omega⟩
        obtain ⟨W0, rfl⟩ : ∃ z, z = wr := ⟨_, rfl⟩
        obtain ⟨N0, hN0⟩ : ∃ z, 3 * q = z := ⟨_, rfl⟩
        have hN0' : N0 ≤ 120 := by omega
        rw [hN0] at HT0
        clear hN0 HI
        obtain ⟨LQ, hLQ⟩ : ∃ z, runL ln0 (l.take q) = z := ⟨_, rfl⟩
        rw [hLQ] at HT0
        clear hLQ
        go_wp2_with fail
        go_loopw [5, 6, 11, 12] (fun av wv i _ wr => ∃ (t : Nat) (K : Nat → Prop) (L : LnT) (us cs : List Value) (ls : List (List Int)), i = .int .i64 t ∧ t ≤ 3 ∧ Hid (Ht w wr Ka K L (.pointer o1) av wv us cs ls (N0 + t) ∧ L.gv ≤ 12000)) (fun _ _ i _ _ => 3 - (intOf i).toNat)
        case atStart => exact ⟨0, K, LQ, us, cs, ls, rfl, Nat.zero_le _, HT0⟩
        case round =>
          clear HT0
          obtain ⟨t, K, L, us, cs, ls, rfl, ht, HI⟩ := hrel
          by_cases hlt3 : t < 3
          · have hti : (t : Int) < 3 := by omega
            have htw : IntKind.i64.wrap ((t : Int) + 1) = (t : Int) + 1 := by unfold IntKind.wrap; simp [IntKind.bits, IntKind.signed]; omega
            have hok := HI.out.1.ok
            have HACT : Hid (∀ w' K p, AtL w' K L p → _) := fun w' K p ha => act_any w' K L p (.slice none 0 0) ⟨2, 0, [], (t : Int) + 1, 0, 0⟩ (fun _ => False) ha hok (by have := HI.out.2; unfold MaxG; omega) (WalkArith.wf_i64 (by show _ ≤ (t : Int) + 1 ∧ (t : Int) + 1 ≤ _; omega)) ⟨none, 0, rfl, Nat.le_refl _, fun _ => rfl, .inl rfl⟩
            obtain ⟨L2, hL2⟩ : ∃ z, L.step ⟨2, 0, [], (t : Int) + 1, 0, 0⟩ = z := ⟨_, rfl⟩
            have hok2 : L2.Ok := by rw [← hL2]; exact hok.step _
            have hgv2 : L2.gv ≤ 12000 := by
              rw [← hL2]
              have e : L.step ⟨2, 0, [], (t : Int) + 1, 0, 0⟩ = (L.tak ((t : Int) + 1)).1 := rfl
              rw [e, tak_gv]
              exact HI.out.2
            rw [hL2] at HACT
            obtain ⟨NN, hNN⟩ : ∃ z, L2.fl.map (fun p => (p.n : Int)) = z := ⟨_, rfl⟩
            have HNU : Hid (∀ w' K p, AtL w' K L2 p → _) := fun w' K p ha => numbers_at w' K L2 p ha hok2
            rw [hNN] at HNU
            have hNl : NN.length ≤ 256 := by rw [← hNN, List.length_map]; exact hok2.len
            have HAL : Hid (NN.length ≤ 256) := hNl
            have HOK2 : Hid (L2.Ok ∧ L2.gv ≤ 12000) := ⟨hok2, hgv2⟩
            have HLEN : Hid (us.length = N0 + t ∧ cs.length = N0 + t) := ⟨HI.out.1.len, HI.out.1.lenW⟩
            have HQ3 : Hid (t < 3) := hlt3
            obtain ⟨w0, rfl⟩ : ∃ z, z = wr := ⟨_, rfl⟩
            clear hok hL2 hok2 hgv2 hNN hNl
            go_wp2_with fail
            refine Calls.mono (HACT.out w0 K (.pointer o1) HI.out.1.hd.at1) ?_
            rintro e w1 ⟨uz, Ka1, rfl, hua, hE1⟩
            have HM1 : Hid (Hd w w1 Ka Ka1 L2 (.pointer o1) u5 u6 us cs ls ls) := HI.out.1.hd.call hE1
            have HS1 : Hid (w0.heap.size ≤ w1.heap.size) := hE1.chg.size
            clear hua hE1
            go_wp2_with fail
            refine Calls.mono (HNU.out w1 Ka1 (.pointer o1) HM1.out.at1) ?_
            rintro e w3 ⟨uy, Ka3, rfl, hun, _, hE3⟩
            have HM3 : Hid (Hd w w3 Ka Ka3 L2 (.pointer o1) u5 u6 us cs ls ls) := HM1.out.call hE3
            have HUN3 : Hid (InsOwn w3 w1.heap.size uy NN) := hun
            clear hun hE3
            have HSZ3 : Hid (w.heap.size ≤ w3.heap.size) := HM3.out.chg.size
            have HSZ1 : Hid (w.heap.size ≤ w1.heap.size) := HM1.out.chg.size
            have HROW3 : Hid (w3.ownsRow w.heap.size 28 1 u5 (N0 + t) us) := by
              have h9 : w3.ownsRow w.heap.size 28 1 u5 us.length us := HM3.out.row
              rw [HLEN.out.1] at h9
              exact h9
            have HLT1 : Hid (∀ (k : Nat) (v : Value) (b : Nat), us[k]? = some v → v.ownBlock = some b → b < w1.heap.size) := HM1.out.lt
            obtain ⟨nN, hnN⟩ : ∃ z, NN.length = z := ⟨_, rfl⟩
            obtain ⟨ya, yb, hya⟩ := ins_len HUN3.out
            rw [hnN] at hya
            subst hya
            have HNL : Hid (NN.length = nN) := hnN
            clear hnN
            go_wp2_with (first
              | (at_builtin; refine wpList_rowM Try.underlying84 Try.infoInts rfl (by decide) rfl _ _ rfl w.heap.size u5 (N0 + t) us rfl (World.ownsRow.alloc HROW3.out _) w3.heap.size 1 1 [.slice ya nN yb] rfl (heap_alloc_new _ _) rfl (fun y hy => by
                   simp only [List.mem_cons, List.not_mem_nil, or_false] at hy
                   rw [hy]
                   rfl) (by unfold maxLen; omega) (by omega) (by rw [World.size_alloc]; have := HSZ3.out; omega) ?_)
              | fail)
            intro bv4 w4 hown4 hg4 ho4
            have hal4 : Below w3.heap.size w3 (w3.alloc (.cells #[.slice ya nN yb] 28)) := (Below.refl _ _).alloc (Nat.le_refl _) _
            have HM4 : Hid (Hd w w4 Ka Ka3 L2 (.pointer o1) bv4 u6 (us ++ [.slice ya nN yb]) cs (ls ++ [NN]) ls) := by
              have hb := HM3.out.below hal4
              refine hb.grow ?_ hg4 (by simpa using ho4) (hb.each.push (owns_mono (owns_below HUN3.out hal4) HSZ1.out)) ?_
              · show World.ownsRow _ _ _ _ _ _ _
                rw [List.length_append, HLEN.out.1]
                exact hown4
              · exact HM1.out.nd.push (s := w1.heap.size) HLT1.out (fun b hb => (row_block HUN3.out b hb).1)
            have hkd4 := Kind.own (owns_below HROW3.out hal4)
            have HUN4 : Hid (InsOwn w4 0 (.slice ya nN yb) NN) := owns_mono (row_other (owns_below HUN3.out hal4) (Chg.grown hg4) hkd4 (by decide)) (Nat.zero_le _)
            have hsl4 : ∃ a c, bv4 = .slice a (N0 + t + 1) c := by obtain ⟨a, c, h, _⟩ := row_form hown4; exact ⟨a, c, h⟩
            obtain ⟨ba4, bc4, rfl⟩ := hsl4
            clear hown4 hg4 ho4 hal4 hkd4
            go_wp2_with fail
            refine Calls.mono (copied_any (.slice ya nN yb) NN w4 HUN4.out (by have := HAL.out; omega)) ?_
            rintro e w7 ⟨cy, rfl, hcn, hb7⟩
            have HM7 : Hid (Hd w w7 Ka Ka3 L2 (.pointer o1) (.slice ba4 (N0 + t + 1) bc4) u6 (us ++ [.slice ya nN yb]) cs (ls ++ [NN]) ls) := HM4.out.below hb7
            have HCN7 : Hid (InsOwn w7 w4.heap.size cy NN) := hcn
            clear hcn hb7
            have HSZ7 : Hid (w.heap.size ≤ w7.heap.size) := HM7.out.chg.size
            have HSZ4 : Hid (w.heap.size ≤ w4.heap.size) := HM4.out.chg.size
            have HROW7 : Hid (w7.ownsRow w.heap.size 28 1 u6 (N0 + t) cs) := by
              have h9 : w7.ownsRow w.heap.size 28 1 u6 cs.length cs := HM7.out.rowW
              rw [HLEN.out.2] at h9
              exact h9
            obtain ⟨yd, ye, hyd⟩ := ins_len HCN7.out
            rw [HNL.out] at hyd
            subst hyd
            go_wp2_with (first
              | (at_builtin; refine wpList_rowM Try.underlying84 Try.infoInts rfl (by decide) rfl _ _ rfl w.heap.size u6 (N0 + t) cs rfl (World.ownsRow.alloc HROW7.out _) w7.heap.size 1 1 [.slice yd nN ye] rfl (heap_alloc_new _ _) rfl (fun y hy => by
                   simp only [List.mem_cons, List.not_mem_nil, or_false] at hy
                   rw [hy]
                   rfl) (by unfold maxLen; omega) (by omega) (by rw [World.size_alloc]; have := HSZ7.out; omega) ?_)
              | fail)
            intro bv8 w8 hown8 hg8 ho8
            have hal8 : Below w7.heap.size w7 (w7.alloc (.cells #[.slice yd nN ye] 28)) := (Below.refl _ _).alloc (Nat.le_refl _) _
            have HM8 : Hid (Hd w w8 Ka Ka3 L2 (.pointer o1) (.slice ba4 (N0 + t + 1) bc4) bv8 (us ++ [.slice ya nN yb]) (cs ++ [.slice yd nN ye]) (ls ++ [NN]) (ls ++ [NN])) := by
              have hb := HM7.out.below hal8
              refine hb.growW ?_ hg8 (by simpa using ho8) (hb.eachW.push (owns_mono (owns_below HCN7.out hal8) HSZ4.out))
              show World.ownsRow _ _ _ _ _ _ _
              rw [List.length_append, HLEN.out.2]
              exact hown8
            have hsl8 : ∃ a c, bv8 = .slice a (N0 + t + 1) c := by obtain ⟨a, c, h, _⟩ := row_form hown8; exact ⟨a, c, h⟩
            obtain ⟨ba8, bc8, rfl⟩ := hsl8
            have HT8 : Hid (Ht w w8 Ka Ka3 L2 (.pointer o1) (.slice ba4 (N0 + t + 1) bc4) (.slice ba8 (N0 + t + 1) bc8) (us ++ [.slice ya nN yb]) (cs ++ [.slice yd nN ye]) (ls ++ [NN]) (N0 + (t + 1)) ∧ L2.gv ≤ 12000) :=
              ⟨⟨HM8.out, by rw [List.length_append, HLEN.out.1]; rfl, by rw [List.length_append, HLEN.out.2]; rfl, HI.out.1.sm.push (by have := HAL.out; omega), HOK2.out.1⟩, HOK2.out.2⟩
            clear hown8 hg8 ho8 hal8
            go_wp2_with fail
            go_roundw
            case rel => exact ⟨t + 1, Ka3, L2, _, _, _, by go_num, HQ3.out, HT8⟩
            case measure => have := HQ3.out; simp [intOf]; omega
          · obtain rfl : t = 3 := by omega
            have hge3 : ¬ ((3 : Nat) : Int) < 3 := by omega
            have hus : us.length = N0 + 3 := HI.out.1.len
            have hcs : cs.length = N0 + 3 := HI.out.1.lenW
            have HSM : Hid (SmL ls) := HI.out.1.sm
            obtain ⟨M, hM⟩ : ∃ z, N0 + 3 = z := ⟨_, rfl⟩
            have hM' : M ≤ 123 := by omega
            rw [hM] at hus hcs
            have HLEN : Hid (us.length = M ∧ cs.length = M) := ⟨hus, hcs⟩
            have hr5 : wr.ownsRow w.heap.size 28 1 u5 M us := by
              have h9 : wr.ownsRow w.heap.size 28 1 u5 us.length us := HI.out.1.hd.row
              rw [hus] at h9
              exact h9
            have hr6 : wr.ownsRow w.heap.size 28 1 u6 M cs := by
              have h9 : wr.ownsRow w.heap.size 28 1 u6 cs.length cs := HI.out.1.hd.rowW
              rw [hcs] at h9
              exact h9
            obtain ⟨ga, ac, h5⟩ : ∃ g c, u5 = .slice (some ⟨g, 0, none⟩) M c := by rw [← hM] at hr5 ⊢; exact row_some (n := N0 + 2) hr5
            obtain ⟨gw, wc, h6⟩ : ∃ g c, u6 = .slice (some ⟨g, 0, none⟩) M c := by rw [← hM] at hr6 ⊢; exact row_some (n := N0 + 2) hr6
            subst h5
            subst h6
            have HD : Hid (Hd w wr Ka K L (.pointer o1) (.slice (some ⟨ga, 0, none⟩) M ac) (.slice (some ⟨gw, 0, none⟩) M wc) us cs ls ls) := HI.out.1.hd
            obtain ⟨W3, rfl⟩ : ∃ z, z = wr := ⟨_, rfl⟩
            clear hus hcs hM hr5 hr6 HI
            go_wp2_with fail
            go_loopw [13] (fun i wr => ∃ t : Nat, i = .int .i64 t ∧ t ≤ M ∧ Hid (Hd w wr Ka K L (.pointer o1) (.slice (some ⟨ga, 0, none⟩) M ac) (.slice (some ⟨gw, 0, none⟩) M wc) us cs ls ls)) (fun i _ => M - (intOf i).toNat)
            case atStart => exact ⟨0, rfl, Nat.zero_le _, HD⟩
            case round =>
              clear HD
              obtain ⟨t, rfl, ht, HI⟩ := hrel
              by_cases htM : t < M
              · have hti : (t : Int) < (M : Int) := by omega
                obtain ⟨u, hu⟩ : ∃ x, us[t]? = some x := ⟨us[t]'(by rw [HLEN.out.1]; exact htM), List.getElem?_eq_getElem _⟩
                obtain ⟨c, hc⟩ : ∃ x, cs[t]? = some x := ⟨cs[t]'(by rw [HLEN.out.2]; exact htM), List.getElem?_eq_getElem _⟩
                obtain ⟨xs, hx⟩ : ∃ x, ls[t]? = some x := ⟨ls[t]'(by rw [← HI.out.each.1, HLEN.out.1]; exact htM), List.getElem?_eq_getElem _⟩
                have hxl := HSM.out xs (List.mem_of_getElem? hx)
                have HSW : Hid (∀ w', Below wr.heap.size wr w' → w'.cell? ⟨ga, t, none⟩ = some u ∧ w'.cell? ⟨gw, t, none⟩ = some c) := fun w' hb => by
                  have h9 := HI.out.below hb
                  have r1 : w'.ownsRow w.heap.size 28 1 (.slice (some ⟨ga, 0, none⟩) M ac) M us := by
                    have h8 : w'.ownsRow w.heap.size 28 1 (.slice (some ⟨ga, 0, none⟩) M ac) us.length us := h9.row
                    rw [HLEN.out.1] at h8
                    exact h8
                  have r2 : w'.ownsRow w.heap.size 28 1 (.slice (some ⟨gw, 0, none⟩) M wc) M cs := by
                    have h8 : w'.ownsRow w.heap.size 28 1 (.slice (some ⟨gw, 0, none⟩) M wc) cs.length cs := h9.rowW
                    rw [HLEN.out.2] at h8
                    exact h8
                  exact ⟨cell_n r1 hu, cell_n r2 hc⟩
                have HIN : Hid (∀ w', Below wr.heap.size wr w' → _) := fun w' hb => ints_own xs u c w' ((HI.out.below hb).each.2 t u xs hu hx) ((HI.out.below hb).eachW.2 t c xs hc hx) (by omega)
                obtain ⟨c0, c1⟩ := HSW.out wr (Below.refl _ _)
                have HTM : Hid (t < M) := htM
                clear hu hc hx hxl
                go_upto_region 21 with fail
                go_region_held3 (fun w' => w'.cell? ⟨ga, t, none⟩ = some u ∧ w'.cell? ⟨gw, t, none⟩ = some c)
                  (first
                  | (refine HSW.out _ ?_; first | exact HB9.out | exact below_drew (Below.refl _ _) | exact Below.refl _ _)
                  | go_keep)
                  (first
                  | (go_at_call 26
                     refine Calls.mono (HIN.out wr.drew (below_drew (Below.refl _ _))) ?_
                     rintro e w9 ⟨rfl, hb9⟩
                     have HB9 : Hid (Below wr.heap.size wr w9) := of_drew hb9
                     clear hb9))
                have HI9 : Hid (Hd w w9 Ka K L (.pointer o1) (.slice (some ⟨ga, 0, none⟩) M ac) (.slice (some ⟨gw, 0, none⟩) M wc) us cs ls ls) := HI.out.below HB9.out
                go_wp2_with fail
                go_roundw
                case rel => exact ⟨t + 1, by go_num, HTM.out, HI9⟩
                case measure => have := HTM.out; simp [intOf]; omega
              · obtain rfl : t = M := by omega
                have hgeM : ¬ (t : Int) < (t : Int) := by omega
                have HND : Hid (Nd us) := HI.out.nd
                have H4 : Hid (∀ (k : Nat) (v : Value) (b : Nat), us[k]? = some v → v.ownBlock = some b → b < wr.heap.size) := HI.out.lt
                have HEL : Hid (us.length = ls.length) := HI.out.each.1
                obtain ⟨W4, rfl⟩ : ∃ z, z = wr := ⟨_, rfl⟩
                have HF0 : Hid (Fd w W4 W4 Ka (.slice (some ⟨ga, 0, none⟩) t ac) (.slice none 0 0) us ls [] 0) := Fd.start HI.out
                clear HI
                go_wp2_with fail
                go_loopw [14, 15] (fun bv i wr => ∃ (r : Nat) (bk : List BkT), i = .int .i64 r ∧ r ≤ t ∧ Hid (Fd w W4 wr Ka (.slice (some ⟨ga, 0, none⟩) t ac) bv us ls bk r ∧ bk.length = r)) (fun _ i _ => t - (intOf i).toNat)
                case atStart => exact ⟨0, [], rfl, Nat.zero_le _, HF0.out, rfl⟩
                case round =>
                  clear HF0
                  obtain ⟨r, bk, rfl, hr, HI⟩ := hrel
                  by_cases hrt : r < t
                  · have hri : (r : Int) < (t : Int) := by omega
                    obtain ⟨u, hu⟩ : ∃ x, us[r]? = some x := ⟨us[r]'(by rw [HLEN.out.1]; exact hrt), List.getElem?_eq_getElem _⟩
                    obtain ⟨xs, hx⟩ : ∃ x, ls[r]? = some x := ⟨ls[r]'(by rw [← HEL.out, HLEN.out.1]; exact hrt), List.getElem?_eq_getElem _⟩
                    have hxl := HSM.out xs (List.mem_of_getElem? hx)
                    have HXL : Hid (xs.length ≤ 300) := hxl
                    have c0 : wr.cell? ⟨ga, r, none⟩ = some u := by
                      have r1 : wr.ownsRow w.heap.size 28 1 (.slice (some ⟨ga, 0, none⟩) t ac) t us := by
                        have h8 : wr.ownsRow w.heap.size 28 1 (.slice (some ⟨ga, 0, none⟩) t ac) us.length us := HI.out.1.row
                        rw [HLEN.out.1] at h8
                        exact h8
                      exact cell_n r1 hu
                    have HUR : Hid (InsOwn wr w.heap.size u xs) := HI.out.1.rest r u xs (Nat.le_refl _) hu hx
                    have HUX : Hid (us[r]? = some u ∧ ls[r]? = some xs) := ⟨hu, hx⟩
                    have HRT : Hid (r < t) := hrt
                    have hw1 : IntKind.i64.wrap (-100 * (r : Int)) = -100 * (r : Int) := by unfold IntKind.wrap; simp [IntKind.bits, IntKind.signed]; omega
                    have hw2 : IntKind.i64.wrap (-100 * (r : Int) - 100) = -100 * (r : Int) - 100 := by unfold IntKind.wrap; simp [IntKind.bits, IntKind.signed]; omega
                    obtain ⟨w6, rfl⟩ : ∃ z, z = wr := ⟨_, rfl⟩
                    clear hu hx hxl
                    go_wp2_with fail
                    refine Calls.mono (kept_any u xs (-100 * (r : Int) - 100) w6 (owns_mono HUR.out (Nat.zero_le _)) (by omega) (by have := HXL.out; omega)) ?_
                    rintro e w7 ⟨gz, rfl, hbe7, hgz7, hc7⟩
                    have HM7 : Hid (Fd w W4 w7 Ka (.slice (some ⟨ga, 0, none⟩) t ac) u14 us ls bk (r + 1)) := HI.out.1.turn HND.out H4.out HUX.out.1 HUX.out.2 hc7
                    have HBE7 : Hid (BkE w7 ⟨u, gz, xs.length, -100 * (r : Int) - 100⟩) := hbe7
                    have HGZ : Hid (∀ j, BkB ⟨u, gz, xs.length, -100 * (r : Int) - 100⟩ j → (∃ (k : Nat) (v : Value), k < r + 1 ∧ us[k]? = some v ∧ v.ownBlock = some j) ∨ W4.heap.size ≤ j) := fun j hj => by
                      rcases hj with e | e
                      · exact .inl ⟨r, u, Nat.lt_succ_self r, HUX.out.1, e⟩
                      · rcases hgz7 j e with e | e
                        · exact .inl ⟨r, u, Nat.lt_succ_self r, HUX.out.1, e⟩
                        · exact .inr (Nat.le_trans HI.out.1.size e)
                    have HROW7 : Hid (w7.ownsRow w.heap.size 81 3 u14 r (bk.flatMap BkT.cells)) := by
                      have h9 : w7.ownsRow w.heap.size 81 3 u14 bk.length (bk.flatMap BkT.cells) := HM7.out.book
                      rw [HI.out.2] at h9
                      exact h9
                    have HSZ7 : Hid (w.heap.size ≤ w7.heap.size) := HM7.out.chg.size
                    obtain ⟨XS, hXS⟩ : ∃ z, bk.flatMap BkT.cells = z := ⟨_, rfl⟩
                    rw [hXS] at HROW7
                    have HXS : Hid (bk.flatMap BkT.cells = XS) := hXS
                    have HUV7 : Hid (u.oneCell' = true ∧ gz.oneCell' = true) := ⟨one_of HUR.out, one_of HBE7.out.g⟩
                    clear hc7 hbe7 hgz7 hXS c0
                    go_wp2_with (first
                      | (at_builtin; refine wpList_row Try.underlying78 Try.infoKept rfl (by decide) rfl _ _ rfl w.heap.size u14 r XS rfl (World.ownsRow.alloc HROW7.out _) w7.heap.size 1 [u, gz, .int .i64 (-100 * (r : Int) - 100)] rfl (heap_alloc_new _ _) rfl (fun y hy => by
                           simp only [List.mem_cons, List.not_mem_nil, or_false] at hy
                           rcases hy with rfl | rfl | rfl
                           · exact HUV7.out.1
                           · exact HUV7.out.2
                           · rfl) (by unfold maxLen; omega) (by omega) (by rw [World.size_alloc]; have := HSZ7.out; omega) ?_)
                      | fail)
                    intro bv8 w8 hown8 hg8 ho8
                    have hal8 : Below w7.heap.size w7 (w7.alloc (.cells #[u, gz, .int .i64 (-100 * (r : Int) - 100)] 81)) := (Below.refl _ _).alloc (Nat.le_refl _) _
                    have HM8 : Hid (Fd w W4 w8 Ka (.slice (some ⟨ga, 0, none⟩) t ac) bv8 us ls (bk ++ [⟨u, gz, xs.length, -100 * (r : Int) - 100⟩]) (r + 1) ∧ (bk ++ [(⟨u, gz, xs.length, -100 * (r : Int) - 100⟩ : BkT)]).length = r + 1) := by
                      refine ⟨(HM7.out.below hal8).push (x := ⟨u, gz, xs.length, -100 * (r : Int) - 100⟩) (by rw [HI.out.2, HXS.out]; exact hown8) hg8 (HBE7.out.keep (Kp.of_below hal8 _)) ⟨by show -1000000 ≤ -100 * (r : Int) - 100; omega, by show -100 * (r : Int) - 100 ≤ 0; omega, by show xs.length ≤ 1000; have := HXL.out; omega⟩ HGZ.out, ?_⟩
                      rw [List.length_append, HI.out.2]
                      rfl
                    have hsl8 : ∃ a c, bv8 = .slice a (r + 1) c := by obtain ⟨a, c, h, _⟩ := row_form hown8; exact ⟨a, c, h⟩
                    obtain ⟨ba8, bc8, rfl⟩ := hsl8
                    clear hown8 hg8 ho8 hal8
                    go_wp2_with fail
                    go_roundw
                    case rel => exact ⟨r + 1, _, by go_num, HRT.out, HM8⟩
                    case measure => have := HRT.out; simp [intOf]; omega
                  · obtain rfl : r = t := by omega
                    have hger : ¬ (r : Int) < (r : Int) := by omega
                    have HST : Hid _ := still_any u14 w.heap.size bk wr HI.out.1.book HI.out.1.each HI.out.1.small (by rw [HI.out.2]; omega)
                    have hsl : ∃ a c, u14 = .slice a r c := by
                      obtain ⟨a, c, h, _⟩ := row_form HI.out.1.book
                      rw [HI.out.2] at h
                      exact ⟨a, c, h⟩
                    obtain ⟨ba, bc, rfl⟩ := hsl
                    go_wp2_with fail
                    refine Calls.mono HST.out ?_
                    rintro e w9 ⟨rfl, hb9⟩
                    have HC9 : Hid (Chg w w9 Ka) := HI.out.1.chg.trans (Chg.of_below hb9 _)
                    clear hb9
                    go_wp2_with fail
                    go_ret
                    exact ⟨rfl, HC9.out⟩
end Go.Proofs.Ytfcobhgjkibdgaa
