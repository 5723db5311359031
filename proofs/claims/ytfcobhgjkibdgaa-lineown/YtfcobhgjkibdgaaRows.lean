/-
  No cell of these rows narrows 'for every input' (looked for: loops, veiled, ifaces, maps, wideKeys, modest, calm, conditions, laid).
  DERIVED. THE GIVEN ROWS OF THIS SEAT. 6 by the template 'for every input the law returns true; each argument reads behind the call as it read before'; 0 by the template 'total and deterministic' (their statements: YtfcobhgjkibdgaaTotals.lean).
  GIVEN WITH THE SEED: the statements are not yours to turn. If you find one false, say at which input.
  Laid BY PROGRAM, IN A SANDBOX (cutbox-rows.mjs): the forced cells as the released guide's own fill.sh prints them over the translation f0b101d003666741… (all of the seat's roots in one cut). By AI agents, Wed Nov 11 2026. No macro, syntax, notation, axiom, sorry.
-/
import Derived.Test.YtfcobhgjkibdgaaChecked
import GoSem.Claim
import GoSem.ClaimJoined
import GoSem.ClaimMapViews
import Derived.JoinedTies
import Derived.KernelRfl
namespace Go.Proofs.Ytfcobhgjkibdgaa
/- THE CELL 'sum', in the pinned program and in every row, IS THE sha256 OF THE DUMP (.gsa) THAT YtfcobhgjkibdgaaProg.lean LOADS. Nothing in Lean hashes anything: it is a label: what it is worth is what the hold of that sum in a sandbox is worth. -/
noncomputable def Try.pinned : Pinned := { name := "ytfcobhgjkibdgaa", sum := "f0b101d0036667416860433dfdebca55fc5796cd689d969909c7f0d8e4ca7cb0", checked := Try.checked }
namespace Rows
def none {H : Type} : Left H := { results := [], args := [] }

/-- 'heraldlaw16.LineTurned': WHATEVER THE INPUT: true; the input reads as it did. -/
def lineTurnedSpec : ChangeSpec := { name := "lineTurned", fn := fun _ => fun
  | [d1, d2, d3, d4] => { results := [.lit (.bool true)], args := [d1, d2, d3, d4] }
  | _ => none }
def lineTurnedRow : OpenClaim := { program := "ytfcobhgjkibdgaa", sum := "f0b101d0036667416860433dfdebca55fc5796cd689d969909c7f0d8e4ca7cb0", func := "herald/heraldlaw16.LineTurned", spec := "lineTurned", apart := false }
def LineTurnedSaid : Prop := lineTurnedRow.holds Try.pinned (OpenSpec.ofChange lineTurnedSpec)

/-- ITS FALSE NEIGHBOUR: 'it returns false'. Refute it at one input. -/
def lineTurnedWrong : ChangeSpec := { name := "lineTurned", fn := fun _ => fun
  | [d1, d2, d3, d4] => { results := [.lit (.bool false)], args := [d1, d2, d3, d4] }
  | _ => none }
def LineTurnedWrongFalsely : Prop := lineTurnedRow.holds Try.pinned (OpenSpec.ofChange lineTurnedWrong)

/-- 'heraldlaw16.LineHonest': WHATEVER THE INPUT: true; the input reads as it did. -/
def lineHonestSpec : ChangeSpec := { name := "lineHonest", fn := fun _ => fun
  | [d] => { results := [.lit (.bool true)], args := [d] }
  | _ => none }
def lineHonestRow : OpenClaim := { program := "ytfcobhgjkibdgaa", sum := "f0b101d0036667416860433dfdebca55fc5796cd689d969909c7f0d8e4ca7cb0", func := "herald/heraldlaw16.LineHonest", spec := "lineHonest", recurses := true, apart := false }
def LineHonestSaid : Prop := lineHonestRow.holds Try.pinned (OpenSpec.ofChange lineHonestSpec)

/-- ITS FALSE NEIGHBOUR: 'it returns false'. Refute it at one input. -/
def lineHonestWrong : ChangeSpec := { name := "lineHonest", fn := fun _ => fun
  | [d] => { results := [.lit (.bool false)], args := [d] }
  | _ => none }
def LineHonestWrongFalsely : Prop := lineHonestRow.holds Try.pinned (OpenSpec.ofChange lineHonestWrong)

/-- 'heraldlaw16.LineOwn': WHATEVER THE INPUT: true; the input reads as it did. -/
def lineOwnSpec : ChangeSpec := { name := "lineOwn", fn := fun _ => fun
  | [d] => { results := [.lit (.bool true)], args := [d] }
  | _ => none }
def lineOwnRow : OpenClaim := { program := "ytfcobhgjkibdgaa", sum := "f0b101d0036667416860433dfdebca55fc5796cd689d969909c7f0d8e4ca7cb0", func := "herald/heraldlaw16.LineOwn", spec := "lineOwn", recurses := true, apart := false }
def LineOwnSaid : Prop := lineOwnRow.holds Try.pinned (OpenSpec.ofChange lineOwnSpec)

/-- ITS FALSE NEIGHBOUR: 'it returns false'. Refute it at one input. -/
def lineOwnWrong : ChangeSpec := { name := "lineOwn", fn := fun _ => fun
  | [d] => { results := [.lit (.bool false)], args := [d] }
  | _ => none }
def LineOwnWrongFalsely : Prop := lineOwnRow.holds Try.pinned (OpenSpec.ofChange lineOwnWrong)

/-- 'heraldlaw16.LineNothing': WHATEVER THE INPUT: true; the input reads as it did. -/
def lineNothingSpec : ChangeSpec := { name := "lineNothing", fn := fun _ => fun
  | [d] => { results := [.lit (.bool true)], args := [d] }
  | _ => none }
def lineNothingRow : OpenClaim := { program := "ytfcobhgjkibdgaa", sum := "f0b101d0036667416860433dfdebca55fc5796cd689d969909c7f0d8e4ca7cb0", func := "herald/heraldlaw16.LineNothing", spec := "lineNothing", recurses := true, apart := false }
def LineNothingSaid : Prop := lineNothingRow.holds Try.pinned (OpenSpec.ofChange lineNothingSpec)

/-- ITS FALSE NEIGHBOUR: 'it returns false'. Refute it at one input. -/
def lineNothingWrong : ChangeSpec := { name := "lineNothing", fn := fun _ => fun
  | [d] => { results := [.lit (.bool false)], args := [d] }
  | _ => none }
def LineNothingWrongFalsely : Prop := lineNothingRow.holds Try.pinned (OpenSpec.ofChange lineNothingWrong)

/-- 'heraldlaw16.LineTwo': WHATEVER THE INPUT: true; the input reads as it did. -/
def lineTwoSpec : ChangeSpec := { name := "lineTwo", fn := fun _ => fun
  | [d] => { results := [.lit (.bool true)], args := [d] }
  | _ => none }
def lineTwoRow : OpenClaim := { program := "ytfcobhgjkibdgaa", sum := "f0b101d0036667416860433dfdebca55fc5796cd689d969909c7f0d8e4ca7cb0", func := "herald/heraldlaw16.LineTwo", spec := "lineTwo", recurses := true, apart := false }
def LineTwoSaid : Prop := lineTwoRow.holds Try.pinned (OpenSpec.ofChange lineTwoSpec)

/-- ITS FALSE NEIGHBOUR: 'it returns false'. Refute it at one input. -/
def lineTwoWrong : ChangeSpec := { name := "lineTwo", fn := fun _ => fun
  | [d] => { results := [.lit (.bool false)], args := [d] }
  | _ => none }
def LineTwoWrongFalsely : Prop := lineTwoRow.holds Try.pinned (OpenSpec.ofChange lineTwoWrong)

/-- 'heraldlaw16.LineSends': WHATEVER THE INPUT: true; the input reads as it did. -/
def lineSendsSpec : ChangeSpec := { name := "lineSends", fn := fun _ => fun
  | [d] => { results := [.lit (.bool true)], args := [d] }
  | _ => none }
def lineSendsRow : OpenClaim := { program := "ytfcobhgjkibdgaa", sum := "f0b101d0036667416860433dfdebca55fc5796cd689d969909c7f0d8e4ca7cb0", func := "herald/heraldlaw16.LineSends", spec := "lineSends", recurses := true, apart := false }
def LineSendsSaid : Prop := lineSendsRow.holds Try.pinned (OpenSpec.ofChange lineSendsSpec)

/-- ITS FALSE NEIGHBOUR: 'it returns false'. Refute it at one input. -/
def lineSendsWrong : ChangeSpec := { name := "lineSends", fn := fun _ => fun
  | [d] => { results := [.lit (.bool false)], args := [d] }
  | _ => none }
def LineSendsWrongFalsely : Prop := lineSendsRow.holds Try.pinned (OpenSpec.ofChange lineSendsWrong)

/- THE SECOND FORM. 'bulk': how many values and letters a reading holds, each counted each time it is reached (what is shared counts as often as it is met; a slice's spare places count too). A statement '..UptoSaid' is the law's where the arguments, and the package variables that the reading takes, are together of bulk at most 1048576: NARROWER than '..Said'. Prove '..Said' where nothing that the law and all that it calls make is longer than what came in: it says more and counts as full. Else prove '..UptoSaid'. A law counts once. -/
mutual
def uptoBulk {H : Type} : DataW H → Nat
  | .lit (.string bytes) => bytes.length + 1
  | .lit _ => 1
  | .nil => 1
  | .ptr d => uptoBulk d + 1
  | .slice elems spare => uptoBulkAll elems + uptoBulkAll spare + 1
  | .agg parts => uptoBulkAll parts + 1
  | .iface _ d => uptoBulk d + 1
  | .map entries => uptoBulkEntries entries + 1
  | .held _ => 1
def uptoBulkAll {H : Type} : List (DataW H) → Nat
  | [] => 0
  | d :: r => uptoBulk d + uptoBulkAll r
def uptoBulkEntries {H : Type} : List (Lit × DataW H) → Nat
  | [] => 0
  | x :: r => uptoBulkEntry x + uptoBulkEntries r
def uptoBulkEntry {H : Type} : Lit × DataW H → Nat
  | (.string bytes, d) => bytes.length + uptoBulk d + 1
  | (_, d) => uptoBulk d + 1
 end
def uptoSmall : (H : Type) → List (DataW H) → Bool := fun _ ds => decide (uptoBulkAll ds ≤ 1048576)
def OpenSpec.upto (s : _root_.Go.ChangeSpec) : _root_.Go.OpenSpec := { _root_.Go.OpenSpec.ofChange s with cond := some uptoSmall }

/-- 'heraldlaw16.LineTurned', WHERE WHAT IT READS IS OF BULK AT MOST 1048576: true; the input reads as it did. -/
def lineTurnedUptoRow : OpenClaim := { program := "ytfcobhgjkibdgaa", sum := "f0b101d0036667416860433dfdebca55fc5796cd689d969909c7f0d8e4ca7cb0", func := "herald/heraldlaw16.LineTurned", spec := "lineTurned", apart := false, narrowed := true }
def LineTurnedUptoSaid : Prop := lineTurnedUptoRow.holds Try.pinned (OpenSpec.upto lineTurnedSpec)

/-- 'heraldlaw16.LineHonest', WHERE WHAT IT READS IS OF BULK AT MOST 1048576: true; the input reads as it did. -/
def lineHonestUptoRow : OpenClaim := { program := "ytfcobhgjkibdgaa", sum := "f0b101d0036667416860433dfdebca55fc5796cd689d969909c7f0d8e4ca7cb0", func := "herald/heraldlaw16.LineHonest", spec := "lineHonest", recurses := true, apart := false, narrowed := true }
def LineHonestUptoSaid : Prop := lineHonestUptoRow.holds Try.pinned (OpenSpec.upto lineHonestSpec)

/-- 'heraldlaw16.LineOwn', WHERE WHAT IT READS IS OF BULK AT MOST 1048576: true; the input reads as it did. -/
def lineOwnUptoRow : OpenClaim := { program := "ytfcobhgjkibdgaa", sum := "f0b101d0036667416860433dfdebca55fc5796cd689d969909c7f0d8e4ca7cb0", func := "herald/heraldlaw16.LineOwn", spec := "lineOwn", recurses := true, apart := false, narrowed := true }
def LineOwnUptoSaid : Prop := lineOwnUptoRow.holds Try.pinned (OpenSpec.upto lineOwnSpec)

/-- 'heraldlaw16.LineNothing', WHERE WHAT IT READS IS OF BULK AT MOST 1048576: true; the input reads as it did. -/
def lineNothingUptoRow : OpenClaim := { program := "ytfcobhgjkibdgaa", sum := "f0b101d0036667416860433dfdebca55fc5796cd689d969909c7f0d8e4ca7cb0", func := "herald/heraldlaw16.LineNothing", spec := "lineNothing", recurses := true, apart := false, narrowed := true }
def LineNothingUptoSaid : Prop := lineNothingUptoRow.holds Try.pinned (OpenSpec.upto lineNothingSpec)

/-- 'heraldlaw16.LineTwo', WHERE WHAT IT READS IS OF BULK AT MOST 1048576: true; the input reads as it did. -/
def lineTwoUptoRow : OpenClaim := { program := "ytfcobhgjkibdgaa", sum := "f0b101d0036667416860433dfdebca55fc5796cd689d969909c7f0d8e4ca7cb0", func := "herald/heraldlaw16.LineTwo", spec := "lineTwo", recurses := true, apart := false, narrowed := true }
def LineTwoUptoSaid : Prop := lineTwoUptoRow.holds Try.pinned (OpenSpec.upto lineTwoSpec)

/-- 'heraldlaw16.LineSends', WHERE WHAT IT READS IS OF BULK AT MOST 1048576: true; the input reads as it did. -/
def lineSendsUptoRow : OpenClaim := { program := "ytfcobhgjkibdgaa", sum := "f0b101d0036667416860433dfdebca55fc5796cd689d969909c7f0d8e4ca7cb0", func := "herald/heraldlaw16.LineSends", spec := "lineSends", recurses := true, apart := false, narrowed := true }
def LineSendsUptoSaid : Prop := lineSendsUptoRow.holds Try.pinned (OpenSpec.upto lineSendsSpec)

end Rows
end Go.Proofs.Ytfcobhgjkibdgaa
