/-
  Contracts of package fixenc's Encode and Decode, with ask.
-/
import Derived.Test.YtambpcgdaogojabGreatX7Mod
import Derived.Test.YtambpcgdaogojabGreatP7LawsO
import Derived.Deep.RegionWith
import Derived.BigRegion
namespace Go.Proofs.YtambpcgdaogojabGreat
open Go.RowKit

end Go.Proofs.YtambpcgdaogojabGreat
