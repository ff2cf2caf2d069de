/-
  Slices of bytes: what is known of one, how it is kept, cut, made into a text; texts as bytes.
-/
import Derived.Test.YtdoefjhdipkkeaaDoorECopy
import Derived.Laws.BytesArg
namespace Go.Proofs.YtdoefjhdipkkeaaDoor.E
open Go.RowKit

end Go.Proofs.YtdoefjhdipkkeaaDoor.E
