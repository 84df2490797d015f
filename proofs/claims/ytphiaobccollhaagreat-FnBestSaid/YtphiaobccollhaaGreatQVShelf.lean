import Derived.Shelf.Bits.Mul64
import Derived.Ground.NamesProg
import Derived.Test.YtphiaobccollhaaGreatProg
namespace Go.Proofs
open Go.Shelf
set_option maxHeartbeats 16000000
def Tryz.mulA_ren:Go.Shelf.Ren:=⟨λ|212=>100|263=>109|264=>110|n=>n,λ|46=>163|51=>174|146=>175|53=>177|148=>178|n=>n,λ|n=>n⟩
theorem Tryz.mulA:Go.Proofs.Lays.n212 Tryz.prog Tryz.mulA_ren:={
 mixed:=by kernel_rfl
 f212:=Tryz.func100.trans (congrArg some (by kernel_rfl))
 f263:=Tryz.func109.trans (congrArg some (by kernel_rfl))
 f264:=Tryz.func110.trans (congrArg some (by kernel_rfl))
 t46:=Tryz.underlying163
 a46:=Tryz.isAgg163
 z46:=Tryz.sizeOf163
 v46:=Tryz.zeroValue163
 t51:=Tryz.underlying174
 a51:=Tryz.isAgg174
 z51:=Tryz.sizeOf174
 v51:=Tryz.zeroValue174
 t53:=Tryz.underlying177
 a53:=Tryz.isAgg177
 z53:=Tryz.sizeOf177
 v53:=Tryz.zeroValue177
 t146:=Tryz.underlying175
 a146:=Tryz.isAgg175
 z146:=Tryz.sizeOf175
 v146:=Tryz.zeroValue175
 t148:=Tryz.underlying178
 a148:=Tryz.isAgg178
 z148:=Tryz.sizeOf178
 v148:=Tryz.zeroValue178 }
end Go.Proofs
