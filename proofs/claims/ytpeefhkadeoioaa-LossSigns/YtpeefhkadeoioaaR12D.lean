/-
  The document's Right: the Ids. Written by mk/ref12c.py.
  The document's Right: the Rows. Written by mk/ref12c.py.
  The document's Right: the Nats. Written by mk/ref12c.py.
  The document's Right: the numbers. Written by mk/ref12c.py.
  The document's Right: its beginning and its end. Written by mk/ref12c.py.
  The document's Right, put together. Written by mk/ref12c.py.
-/
import Derived.Test.YtpeefhkadeoioaaR12C
namespace Go.Proofs.Ytpeefhkadeoioaa
open Go.RowKit

end Go.Proofs.Ytpeefhkadeoioaa

namespace Go.Proofs.Ytpeefhkadeoioaa
open Go.RowKit

end Go.Proofs.Ytpeefhkadeoioaa

namespace Go.Proofs.Ytpeefhkadeoioaa
open Go.RowKit

end Go.Proofs.Ytpeefhkadeoioaa

namespace Go.Proofs.Ytpeefhkadeoioaa
open Go.RowKit

end Go.Proofs.Ytpeefhkadeoioaa

namespace Go.Proofs.Ytpeefhkadeoioaa
open Go.RowKit

end Go.Proofs.Ytpeefhkadeoioaa

namespace Go.Proofs.Ytpeefhkadeoioaa
open Go.RowKit

end Go.Proofs.Ytpeefhkadeoioaa
