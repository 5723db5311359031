import Derived.Test.YtckmihplkhmpnaaGreatDoorTLdM
import Derived.Test.YtckmihplkhmpnaaGreatDoorTUntouched
import Derived.Deep.CutRange
namespace Go.Proofs.YtckmihplkhmpnaaGreatDoor
open Go.RowKit Go.Maps Go.WideShapes
set_option linter.unusedVariables false
set_option linter.unusedSimpArgs false
attribute [local go_sem ↓] Go.wp_at_zero Go.wp_at_succ
theorem one_kids {T:List Nd} (h:Inv T) (s st:Int) (o:OpT):(oneM T s st o).2.2.1.kids.length≤64:=by
 unfold oneM
 split
 · exact Nat.zero_le _
 split
 · unfold makeM
   split
   · exact Nat.zero_le _
   split
   · exact Nat.zero_le _
   split
   · exact Nat.zero_le _
   split
   · exact Nat.zero_le _
   split
   · exact Nat.zero_le _
   · exact Nat.zero_le _
 split
 · exact Nat.zero_le _
 split
 · exact Nat.zero_le _
 unfold restM
 split
 · exact Nat.zero_le _
 split
 · exact Nat.zero_le _
 · show (if _ then _ else _:List ByteArray).length≤64
   split
   · unfold kidsM
     rw [List.length_map]
     exact Nat.le_trans (List.length_filter_le _ _) h.len
   · exact Nat.zero_le _
theorem play_kids {T0:List Nd} (s st:Int):∀ (os:List OpT) (i:Nat) (T:List Nd) (R:List ResT) (C:List ChT),Inv T→(∀ r∈R,r.kids.length≤64)→∀ r∈(playL T0 s st os i T R C).R,r.kids.length≤64
 | [],_,_,_,_,_,h=>h
 | o :: r,i,T,R,C,hi,h=>by
   unfold playL
   split
   · intro r hr
     cases hr
   · exact play_kids s st r _ _ _ _ (oneM_inv hi s st o) (fun y hy=>by
      rcases List.mem_append.1 hy with hy | hy
      · exact h y hy
      · obtain rfl:=List.mem_singleton.1 hy
        exact one_kids hi s st o)
theorem playM_kids {T:List Nd} (hi:Inv T) (s st:Int) (os:List OpT):∀ r∈(playM T s st os).R,r.kids.length≤64:=by
 unfold playM
 split
 · intro r hr
   cases hr
 · exact play_kids s st os 0 T [] [] hi (fun r hr=>by cases hr)
theorem play_lens (T:List Nd) (s st:Int) (os:List OpT):(playM T s st os).R.length≤4∧(playM T s st os).C.length≤4:=by
 have main:∀ (os:List OpT) (i:Nat) (T0 T:List Nd) (R:List ResT) (C:List ChT),(playL T0 s st os i T R C).R.length≤R.length+os.length∧(playL T0 s st os i T R C).C.length≤C.length+os.length:=by
  intro os
  induction os with
  | nil=>intro i T0 T R C;exact ⟨Nat.le_refl _,Nat.le_refl _⟩
  | cons o r ih =>
    intro i T0 T R C
    unfold playL
    split
    · exact ⟨Nat.zero_le _,Nat.zero_le _⟩
    · have h9:=ih (i+1) T0 (oneM T s st o).2.1 (R ++ [(oneM T s st o).2.2.1]) (C ++ (oneM T s st o).2.2.2)
      have:=oneM_ch T s st o
      rw [List.length_append,List.length_append] at h9
      simp only [List.length_cons,List.length_nil] at h9 ⊢
      omega
 by_cases h:4<os.length
 · unfold playM
   rw [if_pos (by unfold mayC;rw [if_pos h];decide)]
   exact ⟨Nat.zero_le _,Nat.zero_le _⟩
 · unfold playM
   split
   · exact ⟨Nat.zero_le _,Nat.zero_le _⟩
   · have:=main os 0 T T [] []
     simp at this
     omega
end Go.Proofs.YtckmihplkhmpnaaGreatDoor
