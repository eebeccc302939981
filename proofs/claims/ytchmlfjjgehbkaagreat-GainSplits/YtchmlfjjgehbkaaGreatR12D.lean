/-
  The document's Right: the Ids. Written by mk/ref12c.py.
  The document's Right: the Rows. Written by mk/ref12c.py.
  The document's Right: the Nats. Written by mk/ref12c.py.
  The document's Right: the numbers. Written by mk/ref12c.py.
  The document's Right: its beginning and its end. Written by mk/ref12c.py.
  The document's Right, put together. Written by mk/ref12c.py.
-/
import Derived.Test.YtchmlfjjgehbkaaGreatR12C
namespace Go.Proofs.YtchmlfjjgehbkaaGreat
open Go.RowKit

end Go.Proofs.YtchmlfjjgehbkaaGreat

namespace Go.Proofs.YtchmlfjjgehbkaaGreat
open Go.RowKit

end Go.Proofs.YtchmlfjjgehbkaaGreat

namespace Go.Proofs.YtchmlfjjgehbkaaGreat
open Go.RowKit

end Go.Proofs.YtchmlfjjgehbkaaGreat

namespace Go.Proofs.YtchmlfjjgehbkaaGreat
open Go.RowKit

end Go.Proofs.YtchmlfjjgehbkaaGreat

namespace Go.Proofs.YtchmlfjjgehbkaaGreat
open Go.RowKit

end Go.Proofs.YtchmlfjjgehbkaaGreat

namespace Go.Proofs.YtchmlfjjgehbkaaGreat
open Go.RowKit

end Go.Proofs.YtchmlfjjgehbkaaGreat
