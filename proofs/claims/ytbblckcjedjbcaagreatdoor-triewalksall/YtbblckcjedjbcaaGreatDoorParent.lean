/-
  Parent and Name by contracts.
-/
import Derived.Test.YtbblckcjedjbcaaGreatDoorOf
namespace Go.Proofs.YtbblckcjedjbcaaGreatDoor
open Go.RowKit

theorem parent_err {s : ByteArray} {code : Int} (h : parse s = (code, [])) (hc : code ≠ 0) (w : World) (hg : Ground w) :
    Calls Tryz.prog 115 #[.string s] w fun e w' => e = .returned (.tuple #[.string ⟨#[]⟩, .int .i64 code]) ∧ Below w.heap.size w w' := by
  have HP : Hid _ := belowRoot_err h hc
  have hc' : (code != 0) = true := by simpa using hc
  have HG : Hid (Ground w) := hg
  clear hg h
  go_enter Tryz.func115, Tryz.ntmps115
  go_wp2_with (first | (go_at_call 129; refine (HP.out _ HG.out).mono ?_; rintro e w1 ⟨rfl, hb⟩; have HB : Hid _ := hb; clear hb))
  go_ret2
  exact ⟨rfl, HB.out⟩
theorem parent_root {s : ByteArray} (h : parse s = (0, [])) (w : World) (hg : Ground w) :
    Calls Tryz.prog 115 #[.string s] w fun e w' => e = .returned (.tuple #[.string ⟨#[]⟩, .int .i64 47]) ∧ Below w.heap.size w w' := by
  have HP : Hid _ := belowRoot_root h
  have HG : Hid (Ground w) := hg
  clear hg h
  go_enter Tryz.func115, Tryz.ntmps115
  go_wp2_with (first | (go_at_call 129; refine (HP.out _ HG.out).mono ?_; rintro e w1 ⟨rfl, hb⟩; have HB : Hid _ := hb; clear hb))
  go_ret2
  exact ⟨rfl, HB.out⟩

theorem lst_take {w : World} {b : Nat} {xs : List ByteArray} (h : w.heap[b]? = some (.cells (xs.map Value.string).toArray 9 (0, 0))) (k : Nat) : Lst w (some ⟨b, 0, none⟩) (xs.take k) := by
  refine .inr ⟨b, 0, rfl, lt_of_block' h, fun j x hx => strs_of_block h j x ?_⟩
  rw [List.getElem?_take] at hx
  split at hx
  · exact hx
  · cases hx
theorem all_take {xs : List ByteArray} (h : xs.all isNm = true) (k : Nat) : (xs.take k).all isNm = true := by
  rw [List.all_eq_true] at h ⊢
  exact fun x hx => h x (List.mem_of_mem_take hx)

theorem parent_some {s : ByteArray} {xs : List ByteArray} (h : parse s = (0, xs)) (k : Nat) (hk : xs.length = k + 1) (w : World) (hg : Ground w) :
    Calls Tryz.prog 115 #[.string s] w fun e w' => e = .returned (.tuple #[.string (placeB (xs.take k)), .int .i64 0]) ∧ Below w.heap.size w w' := by
  have hl := parse_len h
  have HP : Hid _ := belowRoot_some h (fun e => by rw [e] at hk; simp at hk)
  have HG : Hid (Ground w) := hg
  have htl : (xs.take k).length = k := by rw [List.length_take]; omega
  have hk6 : k ≤ 5 := by omega
  have HN : Hid (xs.all isNm = true) := hl.2
  have HT : Hid ((xs.take k).length = k) := htl
  obtain ⟨pb, hpb⟩ : ∃ pb, placeB (xs.take k) = pb := ⟨_, rfl⟩
  rw [hpb]
  have HPB : Hid (placeB (xs.take k) = pb) := hpb
  clear hg h hl htl hpb
  go_enter Tryz.func115, Tryz.ntmps115
  go_wp2_with fail
  refine (HP.out _ HG.out).mono ?_
  rintro e w1 ⟨b, rfl, _, hblk, hb⟩
  have HB : Hid _ := hb
  have HO : Hid (∀ c, k ≤ c → Calls Tryz.prog 130 #[.slice (some ⟨b, 0, none⟩) k c] w1 fun e w' => e = .returned (.string pb) ∧ Below w1.heap.size w1 w') := fun c hc => by
    have := placeOf_any (some ⟨b, 0, none⟩) c (xs.take k) w1 (lst_take hblk k) (by rw [HT.out]; exact hc) (by rw [HT.out]; omega) (all_take HN.out k)
    rw [HT.out, HPB.out] at this
    exact this
  clear hb hblk
  go_wp2_with (first | (go_at_call 130; refine (HO.out _ (by omega)).mono ?_; rintro e w2 ⟨rfl, hb2⟩; have HB2 : Hid _ := hb2; clear hb2))
  go_ret2
  exact ⟨rfl, HB.out.trans (HB2.out.mono HB.out.size)⟩

end Go.Proofs.YtbblckcjedjbcaaGreatDoor
