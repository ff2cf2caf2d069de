/-
  The row's steps and the plain facts, imported once.
-/
import Derived.Test.YtindajjcekgjeaaFrame
import Derived.Test.YtindajjcekgjeaaFacts
namespace Go.Proofs.Ytindajjcekgjeaa
end Go.Proofs.Ytindajjcekgjeaa
