/-
  NARROWER THAN 'FOR EVERY INPUT', by the rows' own cells (each row's printed sentence says how): TrieWalksAll: laid · TrieMayStop: laid · TrieIsNew: laid · TriePlays: laid · TrieTwo: laid · TrieOfNothing: laid.
  DERIVED. THE GIVEN ROWS OF THIS SEAT. 6 by the template 'for every input the law returns true; each argument reads behind the call as it read before'; 0 by the template 'total and deterministic' (their statements: YtbblckcjedjbcaaGreatDoorTotals.lean).
  GIVEN WITH THE SEED: the statements are not yours to turn. If you find one false, say at which input.
  Laid BY PROGRAM, IN A SANDBOX (cutbox-rows.mjs): the forced cells as the released guide's own fill.sh prints them over the translation 3dcc1e5425e30721… (all of the seat's roots in one cut). By AI agents, Wed Nov 11 2026. No macro, syntax, notation, axiom, sorry.
-/
import Derived.Test.YtbblckcjedjbcaaGreatDoorChecked
import GoSem.PinnedTables
import GoSem.Claim
import GoSem.ClaimJoined
import GoSem.ClaimMapViews
import Derived.JoinedTies
import Derived.KernelRfl
namespace Go.Proofs.YtbblckcjedjbcaaGreatDoor
/- THE CELL 'sum', in the pinned program and in every row, IS THE sha256 OF THE DUMP (.gsa) THAT YtbblckcjedjbcaaGreatDoorProg.lean LOADS. Nothing in Lean hashes anything: it is a label: what it is worth is what the hold of that sum in a sandbox is worth. -/
noncomputable def Tryz.pinned : Pinned := { name := "ytbblckcjedjbcaagreatdoor", sum := "3dcc1e5425e30721bbbde2e463596d84b9395317a76fca3aa213d401ab183312", checked := Tryz.checked }
namespace Rows
def none {H : Type} : Left H := { results := [], args := [] }

/- WHAT THE LISTED PACKAGE-LEVEL VARIABLES READ AS WHEN THE CALL BEGINS. Each datum BY PROGRAM (the guide's laid-datum.mjs) off the statement by which the dump's own 'gosem.cut.vars' lays the variable. In a bare row this is a premise. The card (YtbblckcjedjbcaaGreatDoorCards.lean) ties it to the program's text. -/
def laid_unicode_utf8_acceptRanges {H : Type} : DataW H := .agg [.agg [.lit (.int .u8 128), .lit (.int .u8 191)], .agg [.lit (.int .u8 160), .lit (.int .u8 191)], .agg [.lit (.int .u8 128), .lit (.int .u8 159)], .agg [.lit (.int .u8 144), .lit (.int .u8 191)], .agg [.lit (.int .u8 128), .lit (.int .u8 143)], .agg [.lit (.int .u8 0), .lit (.int .u8 0)], .agg [.lit (.int .u8 0), .lit (.int .u8 0)], .agg [.lit (.int .u8 0), .lit (.int .u8 0)], .agg [.lit (.int .u8 0), .lit (.int .u8 0)], .agg [.lit (.int .u8 0), .lit (.int .u8 0)], .agg [.lit (.int .u8 0), .lit (.int .u8 0)], .agg [.lit (.int .u8 0), .lit (.int .u8 0)], .agg [.lit (.int .u8 0), .lit (.int .u8 0)], .agg [.lit (.int .u8 0), .lit (.int .u8 0)], .agg [.lit (.int .u8 0), .lit (.int .u8 0)], .agg [.lit (.int .u8 0), .lit (.int .u8 0)]]
def laid_herald_place_nameBytes {H : Type} : DataW H := .agg [.lit (.bool false), .lit (.bool false), .lit (.bool false), .lit (.bool false), .lit (.bool false), .lit (.bool false), .lit (.bool false), .lit (.bool false), .lit (.bool false), .lit (.bool false), .lit (.bool false), .lit (.bool false), .lit (.bool false), .lit (.bool false), .lit (.bool false), .lit (.bool false), .lit (.bool false), .lit (.bool false), .lit (.bool false), .lit (.bool false), .lit (.bool false), .lit (.bool false), .lit (.bool false), .lit (.bool false), .lit (.bool false), .lit (.bool false), .lit (.bool false), .lit (.bool false), .lit (.bool false), .lit (.bool false), .lit (.bool false), .lit (.bool false), .lit (.bool false), .lit (.bool false), .lit (.bool false), .lit (.bool false), .lit (.bool false), .lit (.bool false), .lit (.bool false), .lit (.bool false), .lit (.bool false), .lit (.bool false), .lit (.bool false), .lit (.bool false), .lit (.bool false), .lit (.bool true), .lit (.bool true), .lit (.bool false), .lit (.bool true), .lit (.bool true), .lit (.bool true), .lit (.bool true), .lit (.bool true), .lit (.bool true), .lit (.bool true), .lit (.bool true), .lit (.bool true), .lit (.bool true), .lit (.bool false), .lit (.bool false), .lit (.bool false), .lit (.bool false), .lit (.bool false), .lit (.bool false), .lit (.bool false), .lit (.bool true), .lit (.bool true), .lit (.bool true), .lit (.bool true), .lit (.bool true), .lit (.bool true), .lit (.bool true), .lit (.bool true), .lit (.bool true), .lit (.bool true), .lit (.bool true), .lit (.bool true), .lit (.bool true), .lit (.bool true), .lit (.bool true), .lit (.bool true), .lit (.bool true), .lit (.bool true), .lit (.bool true), .lit (.bool true), .lit (.bool true), .lit (.bool true), .lit (.bool true), .lit (.bool true), .lit (.bool true), .lit (.bool true), .lit (.bool false), .lit (.bool false), .lit (.bool false), .lit (.bool false), .lit (.bool true), .lit (.bool false), .lit (.bool true), .lit (.bool true), .lit (.bool true), .lit (.bool true), .lit (.bool true), .lit (.bool true), .lit (.bool true), .lit (.bool true), .lit (.bool true), .lit (.bool true), .lit (.bool true), .lit (.bool true), .lit (.bool true), .lit (.bool true), .lit (.bool true), .lit (.bool true), .lit (.bool true), .lit (.bool true), .lit (.bool true), .lit (.bool true), .lit (.bool true), .lit (.bool true), .lit (.bool true), .lit (.bool true), .lit (.bool true), .lit (.bool true), .lit (.bool false), .lit (.bool false), .lit (.bool false), .lit (.bool false), .lit (.bool false)]
/-- One of Go's own tables, pinned by name: the form's constant. -/
def laid_unicode_utf8_first : DataW Unit := Go.Pinned.utf8First

/-- 'heraldlaw9.TrieWalksAll': WHATEVER THE INPUT: true; the input reads as it did. -/
def trieWalksAllSpec : ChangeSpec := { name := "trieWalksAll", fn := fun _ => fun
  | [d1, d2, d3] => { results := [.lit (.bool true)], args := [d1, d2, d3] }
  | _ => none }
def trieWalksAllRow : OpenClaim := { program := "ytbblckcjedjbcaagreatdoor", sum := "3dcc1e5425e30721bbbde2e463596d84b9395317a76fca3aa213d401ab183312", func := "herald/heraldlaw9.TrieWalksAll", spec := "trieWalksAll", inPlace := ["internal/bytealg.CountString", "internal/bytealg.IndexByteString", "internal/bytealg.IndexString", "slices.overlaps[*herald/trie.held]", "internal/abi.NoEscape", "internal/bytealg.MakeNoZero"], unfollowed := true, recurses := true, named := ["unicode/utf8.first", "unicode/utf8.acceptRanges", "internal/bytealg.MaxLen", "herald/place.nameBytes"], apart := false, laid := [("unicode/utf8.acceptRanges", laid_unicode_utf8_acceptRanges), ("herald/place.nameBytes", laid_herald_place_nameBytes), ("unicode/utf8.first", laid_unicode_utf8_first)] }
def TrieWalksAllSaid : Prop := trieWalksAllRow.holds Tryz.pinned (OpenSpec.ofChange trieWalksAllSpec)

/-- ITS FALSE NEIGHBOUR: 'it returns false'. Refute it at one input. -/
def trieWalksAllWrong : ChangeSpec := { name := "trieWalksAll", fn := fun _ => fun
  | [d1, d2, d3] => { results := [.lit (.bool false)], args := [d1, d2, d3] }
  | _ => none }
def TrieWalksAllWrongFalsely : Prop := trieWalksAllRow.holds Tryz.pinned (OpenSpec.ofChange trieWalksAllWrong)

/-- 'heraldlaw9.TrieMayStop': WHATEVER THE INPUT: true; the input reads as it did. -/
def trieMayStopSpec : ChangeSpec := { name := "trieMayStop", fn := fun _ => fun
  | [d1, d2] => { results := [.lit (.bool true)], args := [d1, d2] }
  | _ => none }
def trieMayStopRow : OpenClaim := { program := "ytbblckcjedjbcaagreatdoor", sum := "3dcc1e5425e30721bbbde2e463596d84b9395317a76fca3aa213d401ab183312", func := "herald/heraldlaw9.TrieMayStop", spec := "trieMayStop", inPlace := ["internal/bytealg.CountString", "internal/bytealg.IndexByteString", "internal/bytealg.IndexString", "slices.overlaps[*herald/trie.held]", "internal/abi.NoEscape", "internal/bytealg.MakeNoZero"], unfollowed := true, recurses := true, named := ["unicode/utf8.first", "unicode/utf8.acceptRanges", "internal/bytealg.MaxLen", "herald/place.nameBytes"], apart := false, laid := [("unicode/utf8.acceptRanges", laid_unicode_utf8_acceptRanges), ("herald/place.nameBytes", laid_herald_place_nameBytes), ("unicode/utf8.first", laid_unicode_utf8_first)] }
def TrieMayStopSaid : Prop := trieMayStopRow.holds Tryz.pinned (OpenSpec.ofChange trieMayStopSpec)

/-- ITS FALSE NEIGHBOUR: 'it returns false'. Refute it at one input. -/
def trieMayStopWrong : ChangeSpec := { name := "trieMayStop", fn := fun _ => fun
  | [d1, d2] => { results := [.lit (.bool false)], args := [d1, d2] }
  | _ => none }
def TrieMayStopWrongFalsely : Prop := trieMayStopRow.holds Tryz.pinned (OpenSpec.ofChange trieMayStopWrong)

/-- 'heraldlaw9.TrieIsNew': WHATEVER THE INPUT: true; the input reads as it did. -/
def trieIsNewSpec : ChangeSpec := { name := "trieIsNew", fn := fun _ => fun
  | [d1, d2, d3] => { results := [.lit (.bool true)], args := [d1, d2, d3] }
  | _ => none }
def trieIsNewRow : OpenClaim := { program := "ytbblckcjedjbcaagreatdoor", sum := "3dcc1e5425e30721bbbde2e463596d84b9395317a76fca3aa213d401ab183312", func := "herald/heraldlaw9.TrieIsNew", spec := "trieIsNew", inPlace := ["internal/bytealg.CountString", "internal/bytealg.IndexByteString", "internal/bytealg.IndexString", "slices.overlaps[*herald/trie.held]", "internal/abi.NoEscape", "internal/bytealg.MakeNoZero"], unfollowed := true, recurses := true, named := ["unicode/utf8.first", "unicode/utf8.acceptRanges", "internal/bytealg.MaxLen", "herald/place.nameBytes"], apart := false, laid := [("unicode/utf8.acceptRanges", laid_unicode_utf8_acceptRanges), ("herald/place.nameBytes", laid_herald_place_nameBytes), ("unicode/utf8.first", laid_unicode_utf8_first)] }
def TrieIsNewSaid : Prop := trieIsNewRow.holds Tryz.pinned (OpenSpec.ofChange trieIsNewSpec)

/-- ITS FALSE NEIGHBOUR: 'it returns false'. Refute it at one input. -/
def trieIsNewWrong : ChangeSpec := { name := "trieIsNew", fn := fun _ => fun
  | [d1, d2, d3] => { results := [.lit (.bool false)], args := [d1, d2, d3] }
  | _ => none }
def TrieIsNewWrongFalsely : Prop := trieIsNewRow.holds Tryz.pinned (OpenSpec.ofChange trieIsNewWrong)

/-- 'heraldlaw9.TriePlays': WHATEVER THE INPUT: true; the input reads as it did. -/
def triePlaysSpec : ChangeSpec := { name := "triePlays", fn := fun _ => fun
  | [d] => { results := [.lit (.bool true)], args := [d] }
  | _ => none }
def triePlaysRow : OpenClaim := { program := "ytbblckcjedjbcaagreatdoor", sum := "3dcc1e5425e30721bbbde2e463596d84b9395317a76fca3aa213d401ab183312", func := "herald/heraldlaw9.TriePlays", spec := "triePlays", inPlace := ["internal/bytealg.CountString", "internal/bytealg.IndexByteString", "internal/bytealg.IndexString", "slices.overlaps[*herald/trie.held]", "internal/abi.NoEscape", "internal/bytealg.MakeNoZero"], unfollowed := true, recurses := true, named := ["unicode/utf8.first", "unicode/utf8.acceptRanges", "internal/bytealg.MaxLen", "herald/place.nameBytes"], apart := false, laid := [("unicode/utf8.acceptRanges", laid_unicode_utf8_acceptRanges), ("herald/place.nameBytes", laid_herald_place_nameBytes), ("unicode/utf8.first", laid_unicode_utf8_first)] }
def TriePlaysSaid : Prop := triePlaysRow.holds Tryz.pinned (OpenSpec.ofChange triePlaysSpec)

/-- ITS FALSE NEIGHBOUR: 'it returns false'. Refute it at one input. -/
def triePlaysWrong : ChangeSpec := { name := "triePlays", fn := fun _ => fun
  | [d] => { results := [.lit (.bool false)], args := [d] }
  | _ => none }
def TriePlaysWrongFalsely : Prop := triePlaysRow.holds Tryz.pinned (OpenSpec.ofChange triePlaysWrong)

/-- 'heraldlaw9.TrieTwo': WHATEVER THE INPUT: true; the input reads as it did. -/
def trieTwoSpec : ChangeSpec := { name := "trieTwo", fn := fun _ => fun
  | [d] => { results := [.lit (.bool true)], args := [d] }
  | _ => none }
def trieTwoRow : OpenClaim := { program := "ytbblckcjedjbcaagreatdoor", sum := "3dcc1e5425e30721bbbde2e463596d84b9395317a76fca3aa213d401ab183312", func := "herald/heraldlaw9.TrieTwo", spec := "trieTwo", inPlace := ["internal/bytealg.CountString", "internal/bytealg.IndexByteString", "internal/bytealg.IndexString", "slices.overlaps[*herald/trie.held]", "internal/abi.NoEscape", "internal/bytealg.MakeNoZero"], unfollowed := true, recurses := true, named := ["unicode/utf8.first", "unicode/utf8.acceptRanges", "internal/bytealg.MaxLen", "herald/place.nameBytes"], apart := false, laid := [("unicode/utf8.acceptRanges", laid_unicode_utf8_acceptRanges), ("herald/place.nameBytes", laid_herald_place_nameBytes), ("unicode/utf8.first", laid_unicode_utf8_first)] }
def TrieTwoSaid : Prop := trieTwoRow.holds Tryz.pinned (OpenSpec.ofChange trieTwoSpec)

/-- ITS FALSE NEIGHBOUR: 'it returns false'. Refute it at one input. -/
def trieTwoWrong : ChangeSpec := { name := "trieTwo", fn := fun _ => fun
  | [d] => { results := [.lit (.bool false)], args := [d] }
  | _ => none }
def TrieTwoWrongFalsely : Prop := trieTwoRow.holds Tryz.pinned (OpenSpec.ofChange trieTwoWrong)

/-- 'heraldlaw9.TrieOfNothing': WHATEVER THE INPUT: true; the input reads as it did. -/
def trieOfNothingSpec : ChangeSpec := { name := "trieOfNothing", fn := fun _ => fun
  | [d] => { results := [.lit (.bool true)], args := [d] }
  | _ => none }
def trieOfNothingRow : OpenClaim := { program := "ytbblckcjedjbcaagreatdoor", sum := "3dcc1e5425e30721bbbde2e463596d84b9395317a76fca3aa213d401ab183312", func := "herald/heraldlaw9.TrieOfNothing", spec := "trieOfNothing", inPlace := ["internal/bytealg.CountString", "internal/bytealg.IndexByteString", "internal/bytealg.IndexString", "slices.overlaps[*herald/trie.held]", "internal/abi.NoEscape", "internal/bytealg.MakeNoZero"], unfollowed := true, recurses := true, named := ["unicode/utf8.first", "unicode/utf8.acceptRanges", "internal/bytealg.MaxLen", "herald/place.nameBytes"], apart := false, laid := [("unicode/utf8.acceptRanges", laid_unicode_utf8_acceptRanges), ("herald/place.nameBytes", laid_herald_place_nameBytes), ("unicode/utf8.first", laid_unicode_utf8_first)] }
def TrieOfNothingSaid : Prop := trieOfNothingRow.holds Tryz.pinned (OpenSpec.ofChange trieOfNothingSpec)

/-- ITS FALSE NEIGHBOUR: 'it returns false'. Refute it at one input. -/
def trieOfNothingWrong : ChangeSpec := { name := "trieOfNothing", fn := fun _ => fun
  | [d] => { results := [.lit (.bool false)], args := [d] }
  | _ => none }
def TrieOfNothingWrongFalsely : Prop := trieOfNothingRow.holds Tryz.pinned (OpenSpec.ofChange trieOfNothingWrong)

/- THE SECOND FORM. 'bulk': how many values and letters a reading holds, each counted each time it is reached (what is shared counts as often as it is met; a slice's spare places count too). A statement '..UptoSaid' is the law's where the arguments, and the package variables that the reading takes, are together of bulk at most 1048576: NARROWER than '..Said'. Prove '..Said' where nothing that the law and all that it calls make is longer than what came in: it says more and counts as full. Else prove '..UptoSaid'. A law counts once. -/
mutual
def uptoBulk {H : Type} : DataW H → Nat
  | .lit (.string bytes) => bytes.length + 1
  | .lit _ => 1
  | .nil => 1
  | .ptr d => uptoBulk d + 1
  | .slice elems spare => uptoBulkAll elems + uptoBulkAll spare + 1
  | .agg parts => uptoBulkAll parts + 1
  | .iface _ d => uptoBulk d + 1
  | .map entries => uptoBulkEntries entries + 1
  | .held _ => 1
def uptoBulkAll {H : Type} : List (DataW H) → Nat
  | [] => 0
  | d :: r => uptoBulk d + uptoBulkAll r
def uptoBulkEntries {H : Type} : List (Lit × DataW H) → Nat
  | [] => 0
  | x :: r => uptoBulkEntry x + uptoBulkEntries r
def uptoBulkEntry {H : Type} : Lit × DataW H → Nat
  | (.string bytes, d) => bytes.length + uptoBulk d + 1
  | (_, d) => uptoBulk d + 1
 end
def uptoSmall : (H : Type) → List (DataW H) → Bool := fun _ ds => decide (uptoBulkAll ds ≤ 1048576)
def OpenSpec.upto (s : _root_.Go.ChangeSpec) : _root_.Go.OpenSpec := { _root_.Go.OpenSpec.ofChange s with cond := some uptoSmall }

/-- 'heraldlaw9.TrieWalksAll', WHERE WHAT IT READS IS OF BULK AT MOST 1048576: true; the input reads as it did. -/
def trieWalksAllUptoRow : OpenClaim := { program := "ytbblckcjedjbcaagreatdoor", sum := "3dcc1e5425e30721bbbde2e463596d84b9395317a76fca3aa213d401ab183312", func := "herald/heraldlaw9.TrieWalksAll", spec := "trieWalksAll", inPlace := ["internal/bytealg.CountString", "internal/bytealg.IndexByteString", "internal/bytealg.IndexString", "slices.overlaps[*herald/trie.held]", "internal/abi.NoEscape", "internal/bytealg.MakeNoZero"], unfollowed := true, recurses := true, named := ["unicode/utf8.first", "unicode/utf8.acceptRanges", "internal/bytealg.MaxLen", "herald/place.nameBytes"], apart := false, laid := [("unicode/utf8.acceptRanges", laid_unicode_utf8_acceptRanges), ("herald/place.nameBytes", laid_herald_place_nameBytes), ("unicode/utf8.first", laid_unicode_utf8_first)], narrowed := true }
def TrieWalksAllUptoSaid : Prop := trieWalksAllUptoRow.holds Tryz.pinned (OpenSpec.upto trieWalksAllSpec)

/-- 'heraldlaw9.TrieMayStop', WHERE WHAT IT READS IS OF BULK AT MOST 1048576: true; the input reads as it did. -/
def trieMayStopUptoRow : OpenClaim := { program := "ytbblckcjedjbcaagreatdoor", sum := "3dcc1e5425e30721bbbde2e463596d84b9395317a76fca3aa213d401ab183312", func := "herald/heraldlaw9.TrieMayStop", spec := "trieMayStop", inPlace := ["internal/bytealg.CountString", "internal/bytealg.IndexByteString", "internal/bytealg.IndexString", "slices.overlaps[*herald/trie.held]", "internal/abi.NoEscape", "internal/bytealg.MakeNoZero"], unfollowed := true, recurses := true, named := ["unicode/utf8.first", "unicode/utf8.acceptRanges", "internal/bytealg.MaxLen", "herald/place.nameBytes"], apart := false, laid := [("unicode/utf8.acceptRanges", laid_unicode_utf8_acceptRanges), ("herald/place.nameBytes", laid_herald_place_nameBytes), ("unicode/utf8.first", laid_unicode_utf8_first)], narrowed := true }
def TrieMayStopUptoSaid : Prop := trieMayStopUptoRow.holds Tryz.pinned (OpenSpec.upto trieMayStopSpec)

/-- 'heraldlaw9.TrieIsNew', WHERE WHAT IT READS IS OF BULK AT MOST 1048576: true; the input reads as it did. -/
def trieIsNewUptoRow : OpenClaim := { program := "ytbblckcjedjbcaagreatdoor", sum := "3dcc1e5425e30721bbbde2e463596d84b9395317a76fca3aa213d401ab183312", func := "herald/heraldlaw9.TrieIsNew", spec := "trieIsNew", inPlace := ["internal/bytealg.CountString", "internal/bytealg.IndexByteString", "internal/bytealg.IndexString", "slices.overlaps[*herald/trie.held]", "internal/abi.NoEscape", "internal/bytealg.MakeNoZero"], unfollowed := true, recurses := true, named := ["unicode/utf8.first", "unicode/utf8.acceptRanges", "internal/bytealg.MaxLen", "herald/place.nameBytes"], apart := false, laid := [("unicode/utf8.acceptRanges", laid_unicode_utf8_acceptRanges), ("herald/place.nameBytes", laid_herald_place_nameBytes), ("unicode/utf8.first", laid_unicode_utf8_first)], narrowed := true }
def TrieIsNewUptoSaid : Prop := trieIsNewUptoRow.holds Tryz.pinned (OpenSpec.upto trieIsNewSpec)

/-- 'heraldlaw9.TriePlays', WHERE WHAT IT READS IS OF BULK AT MOST 1048576: true; the input reads as it did. -/
def triePlaysUptoRow : OpenClaim := { program := "ytbblckcjedjbcaagreatdoor", sum := "3dcc1e5425e30721bbbde2e463596d84b9395317a76fca3aa213d401ab183312", func := "herald/heraldlaw9.TriePlays", spec := "triePlays", inPlace := ["internal/bytealg.CountString", "internal/bytealg.IndexByteString", "internal/bytealg.IndexString", "slices.overlaps[*herald/trie.held]", "internal/abi.NoEscape", "internal/bytealg.MakeNoZero"], unfollowed := true, recurses := true, named := ["unicode/utf8.first", "unicode/utf8.acceptRanges", "internal/bytealg.MaxLen", "herald/place.nameBytes"], apart := false, laid := [("unicode/utf8.acceptRanges", laid_unicode_utf8_acceptRanges), ("herald/place.nameBytes", laid_herald_place_nameBytes), ("unicode/utf8.first", laid_unicode_utf8_first)], narrowed := true }
def TriePlaysUptoSaid : Prop := triePlaysUptoRow.holds Tryz.pinned (OpenSpec.upto triePlaysSpec)

/-- 'heraldlaw9.TrieTwo', WHERE WHAT IT READS IS OF BULK AT MOST 1048576: true; the input reads as it did. -/
def trieTwoUptoRow : OpenClaim := { program := "ytbblckcjedjbcaagreatdoor", sum := "3dcc1e5425e30721bbbde2e463596d84b9395317a76fca3aa213d401ab183312", func := "herald/heraldlaw9.TrieTwo", spec := "trieTwo", inPlace := ["internal/bytealg.CountString", "internal/bytealg.IndexByteString", "internal/bytealg.IndexString", "slices.overlaps[*herald/trie.held]", "internal/abi.NoEscape", "internal/bytealg.MakeNoZero"], unfollowed := true, recurses := true, named := ["unicode/utf8.first", "unicode/utf8.acceptRanges", "internal/bytealg.MaxLen", "herald/place.nameBytes"], apart := false, laid := [("unicode/utf8.acceptRanges", laid_unicode_utf8_acceptRanges), ("herald/place.nameBytes", laid_herald_place_nameBytes), ("unicode/utf8.first", laid_unicode_utf8_first)], narrowed := true }
def TrieTwoUptoSaid : Prop := trieTwoUptoRow.holds Tryz.pinned (OpenSpec.upto trieTwoSpec)

/-- 'heraldlaw9.TrieOfNothing', WHERE WHAT IT READS IS OF BULK AT MOST 1048576: true; the input reads as it did. -/
def trieOfNothingUptoRow : OpenClaim := { program := "ytbblckcjedjbcaagreatdoor", sum := "3dcc1e5425e30721bbbde2e463596d84b9395317a76fca3aa213d401ab183312", func := "herald/heraldlaw9.TrieOfNothing", spec := "trieOfNothing", inPlace := ["internal/bytealg.CountString", "internal/bytealg.IndexByteString", "internal/bytealg.IndexString", "slices.overlaps[*herald/trie.held]", "internal/abi.NoEscape", "internal/bytealg.MakeNoZero"], unfollowed := true, recurses := true, named := ["unicode/utf8.first", "unicode/utf8.acceptRanges", "internal/bytealg.MaxLen", "herald/place.nameBytes"], apart := false, laid := [("unicode/utf8.acceptRanges", laid_unicode_utf8_acceptRanges), ("herald/place.nameBytes", laid_herald_place_nameBytes), ("unicode/utf8.first", laid_unicode_utf8_first)], narrowed := true }
def TrieOfNothingUptoSaid : Prop := trieOfNothingUptoRow.holds Tryz.pinned (OpenSpec.upto trieOfNothingSpec)

end Rows
end Go.Proofs.YtbblckcjedjbcaaGreatDoor
