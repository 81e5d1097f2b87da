/- Mh: Wc Wd, in one text. -/
import Derived.Test.YtmdpjhcghdjmmaaWb
import Derived.Test.YtmdpjhcghdjmmaaMa
/- The walks of layer 1 (num), third part: split. -/
namespace Go.Proofs.Ytmdpjhcghdjmmaa
open Go.RowKit

/-- The pieces of a number's text, as a value. -/
abbrev partsV (p : Nm.Parts) : Value := .agg #[.bool p.neg, .string ⟨p.whole.toArray⟩, .string ⟨p.frac.toArray⟩, .bool p.expNeg, .string ⟨p.exp.toArray⟩]

end Go.Proofs.Ytmdpjhcghdjmmaa

/- The walks of layer 1 (num), fourth part: exponent, normal. -/
namespace Go.Proofs.Ytmdpjhcghdjmmaa
open Go.RowKit
/-- A number, as a value. -/
abbrev numV (n : Nm.Num) : Value := .agg #[.bool n.neg, .string ⟨n.digits.toArray⟩, .int .i64 n.exp]

end Go.Proofs.Ytmdpjhcghdjmmaa


