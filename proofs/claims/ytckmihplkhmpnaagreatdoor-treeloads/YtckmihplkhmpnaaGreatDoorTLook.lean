import Derived.Test.YtckmihplkhmpnaaGreatDoorTNone2
import Derived.Test.YtckmihplkhmpnaaGreatDoorTDrop
import Derived.Deep.AppendLies
import Derived.Maps.OwnOps
import Derived.Sort.KeysCollected
namespace Go.Proofs.YtckmihplkhmpnaaGreatDoor
open Go.RowKit Go.Maps
set_option linter.unusedVariables false
theorem wpList_lookup_raw {P:Program} (w:World) {ops:Array Oper} {rest:List Oper} {o:Oper} {a:Act} {Q:Exit→Act→World→Prop} (hg:o.guard=none) (m x:Operand) (t:TypeId) (hop:o.op=Op.lookup t m x false)
  (k e:TypeId) (K:Keyed P k) (ht:P.underlying t=some (.map k e)) {z:Value} (hz:(zeroValue e).run P w=.ok z w) (b n:Nat) (D:DataW Value)
  (hm:a.eval m=.map (some b)) (hown:w.ownsMap P k raw b n D) (key:Value) (kl:Lit) (hx:a.eval x=key) (hkey:keyOf P k key=some kl)
  (hK:∀ v ps,raw v=some (D.atKey kl (.held z),ps)→wpList P ops Q rest (a.put o.dst v) w) :
  wpList P ops Q (o :: rest) a w:=by
 refine wpList_plain hg fun K' hK'=>?_
 obtain ⟨v,ps,hrun,hv⟩:=hown.lookup K ht hz (zd:=.held z) (zp:=[]) rfl hkey
 unfold Oper.wp
 simp [execOp,hop,hm,hx,hrun,Result.andThen]
 exact hK' _ _ (hK v ps hv)
def cellsOf:Value→List Value
 | .agg xs=>xs.toList
 | _=>[]
theorem size_of {H:Type} (D:DataW H):(strKeys D).length=Maps.size D:=by
 cases D <;> simp [strKeys,Maps.size]
def WF (D:DataW Value):Prop:=∀ l∈strKeys D,l.length≤1000∧∃ p d v m c o k,look D ⟨l.toArray⟩=fuV p d v m c o k∧p.size≤1000∧d.size≤1000
end Go.Proofs.YtckmihplkhmpnaaGreatDoor
