import Derived.Test.YtckmihplkhmpnaaGreatDoorTFill
import Derived.Deep.RegionLaw
import Derived.Shelf.Abstract
namespace Go.Proofs.YtckmihplkhmpnaaGreatDoor
open Go.RowKit Go.Maps
theorem step_call2 {P:Program} {ops:Array Oper} {o:Oper} {a:Act} {w:World} {K:Act→World→Prop} {Q:Exit→Act→World→Prop} {E:Prop} (hgd:o.guard=none) (f:FuncId) (x y:Operand) (ts:Array TypeId)
  (ho:o.op=.call { callee:=.value (.func f),args:=#[x,y],argTypes:=ts }) (ef:∀ args w,(callFunc f args).run P w=.ok (.enter f args) w) (u z:Value) (hx:a.eval x=u) (hy:a.eval y=z) {R:Ending→World→Prop} (hc:Calls P f #[u,z] w R)
  (v:Value) (hr:∀ e w',R e w'→e=.returned v) (h:∀ w',R (.returned v) w'→K (a.put o.dst v) w') :
  if Region.wanted o (yielded ops a.tmps)=true then Oper.wp P o a w K Q else E:=by
 have hw:Region.wanted o (yielded ops a.tmps)=true:=by simp [Region.wanted,hgd]
 rw [if_pos hw]
 have he:(execOp a.eval o).run P w=.ok (.enter f #[u,z]) w:=by
  have hf:a.eval (.func f)=.func (.func f) #[] #[]:=rfl
  simp [execOp,ho,resolve,invoke,Deferred.ofValue,hx,hy,hf,ef]
 unfold Oper.wp
 rw [he,Oper.upon_enter]
 refine hc.mono ?_
 intro e w' hR
 obtain rfl:=hr e w' hR
 exact h w' hR
end Go.Proofs.YtckmihplkhmpnaaGreatDoor
