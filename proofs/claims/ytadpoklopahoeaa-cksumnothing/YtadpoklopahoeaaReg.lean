/-
  The region tactics, imported once.
-/
import Derived.Test.YtadpoklopahoeaaUpd
import Derived.Deep.RegionHeld3
import Derived.Deep.DrawnRows
import Derived.Deep.RegionWith
namespace Go.Proofs.Ytadpoklopahoeaa
end Go.Proofs.Ytadpoklopahoeaa
