/- The walks of the document's answers of layer 1, seventh part: Number. -/
import Derived.Test.YtccacjkogdmleaaDoorMo
import Derived.Test.YtccacjkogdmleaaDoorMa
import Derived.Deep.LoopGhost
namespace Go.Proofs.YtccacjkogdmleaaDoor
open Go.RowKit
theorem byte_back (c : UInt8) : UInt8.ofNat ((c.toNat : Int).toNat) = c := by
  rw [Int.toNat_natCast]; exact UInt8.ofNat_toNat

end Go.Proofs.YtccacjkogdmleaaDoor

