import Derived.Test.YtckmihplkhmpnaaGreatDoorLaid
import Derived.Test.YtckmihplkhmpnaaGreatDoorTDig
namespace Go.Proofs.YtckmihplkhmpnaaGreatDoor
open Go.RowKit
theorem gPowType:(Tryz.prog.globals[5]?).map (·.type)=some 224:=by kernel_rfl
theorem cellsPow:Tryz.prog.cellsOf 224=20:=by kernel_rfl
theorem cellsPowE:Tryz.prog.cellsOf (Tryz.prog.elem 224)=1:=by kernel_rfl
theorem underPowE:Tryz.prog.underlying (Tryz.prog.elem 224)=some (.int .u64):=by kernel_rfl
theorem underPow:Tryz.prog.underlying 224=some (.array 20 (Tryz.prog.elem 224)):=by kernel_rfl
theorem datumPow:(Rows.laid_internal_strconv_uint64pow10:DataW Unit)=Lib.tabData .u64 Lib.pow10Tab:=by kernel_rfl
theorem groundC_of {W:World} {l:List (String × DataW Unit)} (hf:(l.filter fun x=>x.1=="herald/place.nameBytes")=[("herald/place.nameBytes",Rows.laid_herald_place_nameBytes)])
  (hf2:(l.filter fun x=>x.1=="internal/strconv.uint64pow10")=[("internal/strconv.uint64pow10",Rows.laid_internal_strconv_uint64pow10)])
  (hL:laidMetH Tryz.prog l W) (hS:W.ShapedOpen Tryz.prog):GroundC W where
 toGround:=ground_of hf hL hS
 pow:=by
  have h1:=hL.filter (fun x=>x.1=="internal/strconv.uint64pow10")
  rw [hf2,Go.MakeChecks.laidMetH_plain _ _ _ (by kernel_rfl),datumPow] at h1
  exact Lib.tabIs_of_head (rest:=[]) gPow gPowType underPow underPowE cellsPowE cellsPow h1
end Go.Proofs.YtckmihplkhmpnaaGreatDoor
