/-
  shot: a shot as bytes.
-/
import Derived.Test.YtbamkdohaofgdaaGreatDoorWText
import Derived.Test.YtbamkdohaofgdaaGreatDoorSBase
namespace Go.Proofs.YtbamkdohaofgdaaGreatDoor.W

def seenL (s : SeenT) : List Int := textL s.p ++ (textL s.d ++ numL s.v.toNat)
def seensL (l : List SeenT) : List Int := (l.map seenL).flatten
def shotL (st : Int) (p : ByteArray) (k : Int) (l : List SeenT) : List Int := numL st.toNat ++ (textL p ++ (numL k.toNat ++ (numL l.length ++ seensL l)))
end Go.Proofs.YtbamkdohaofgdaaGreatDoor.W
