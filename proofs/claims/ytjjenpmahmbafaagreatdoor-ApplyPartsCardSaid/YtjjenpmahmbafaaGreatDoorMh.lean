/- Mh: Mh Mi, in one text. -/
import Derived.Test.YtjjenpmahmbafaaGreatDoorWb
import Derived.Test.YtjjenpmahmbafaaGreatDoorMa
import Derived.Lib.Builder
import Derived.Lib.AppendStr
import Derived.Laws.Externs
import Derived.Lib.SmallJoins
import Derived.Lib.UnsafeStr
import Derived.Lib.AppendIntMem
namespace Go.Proofs.YtjjenpmahmbafaaGreatDoor
open Go.RowKit
end Go.Proofs.YtjjenpmahmbafaaGreatDoor

namespace Go.Proofs.YtjjenpmahmbafaaGreatDoor
open Go.RowKit
abbrev numV (n : Nm.Num) : Value := .agg #[.bool n.neg, .string ⟨n.digits.toArray⟩, .int .i64 n.exp]

end Go.Proofs.YtjjenpmahmbafaaGreatDoor

namespace Go.Proofs.YtjjenpmahmbafaaGreatDoor
open Go.RowKit
end Go.Proofs.YtjjenpmahmbafaaGreatDoor

namespace Go.Proofs.YtjjenpmahmbafaaGreatDoor
open Go.RowKit
end Go.Proofs.YtjjenpmahmbafaaGreatDoor


