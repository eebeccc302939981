/-
  The document's Right: the Ids. Written by mk/ref12c.py.
  The document's Right: the Rows. Written by mk/ref12c.py.
  The document's Right: the Nats. Written by mk/ref12c.py.
  The document's Right: the numbers. Written by mk/ref12c.py.
  The document's Right: its beginning and its end. Written by mk/ref12c.py.
  The document's Right, put together. Written by mk/ref12c.py.
-/
import Derived.Test.YtchmlfjjgehbkaaR12C
namespace Go.Proofs.Ytchmlfjjgehbkaa
open Go.RowKit

end Go.Proofs.Ytchmlfjjgehbkaa

namespace Go.Proofs.Ytchmlfjjgehbkaa
open Go.RowKit

end Go.Proofs.Ytchmlfjjgehbkaa

namespace Go.Proofs.Ytchmlfjjgehbkaa
open Go.RowKit

end Go.Proofs.Ytchmlfjjgehbkaa

namespace Go.Proofs.Ytchmlfjjgehbkaa
open Go.RowKit

end Go.Proofs.Ytchmlfjjgehbkaa

namespace Go.Proofs.Ytchmlfjjgehbkaa
open Go.RowKit

end Go.Proofs.Ytchmlfjjgehbkaa

namespace Go.Proofs.Ytchmlfjjgehbkaa
open Go.RowKit

end Go.Proofs.Ytchmlfjjgehbkaa
