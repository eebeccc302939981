/-
  The document's Right: the Ids. Written by mk/ref12c.py.
  The document's Right: the Rows. Written by mk/ref12c.py.
  The document's Right: the Nats. Written by mk/ref12c.py.
  The document's Right: the numbers. Written by mk/ref12c.py.
  The document's Right: its beginning and its end. Written by mk/ref12c.py.
  The document's Right, put together. Written by mk/ref12c.py.
-/
import Derived.Test.YtfgccldkbolkoaaDoorR12C
namespace Go.Proofs.YtfgccldkbolkoaaDoor
open Go.RowKit

end Go.Proofs.YtfgccldkbolkoaaDoor

namespace Go.Proofs.YtfgccldkbolkoaaDoor
open Go.RowKit

end Go.Proofs.YtfgccldkbolkoaaDoor

namespace Go.Proofs.YtfgccldkbolkoaaDoor
open Go.RowKit

end Go.Proofs.YtfgccldkbolkoaaDoor

namespace Go.Proofs.YtfgccldkbolkoaaDoor
open Go.RowKit

end Go.Proofs.YtfgccldkbolkoaaDoor

namespace Go.Proofs.YtfgccldkbolkoaaDoor
open Go.RowKit

end Go.Proofs.YtfgccldkbolkoaaDoor

namespace Go.Proofs.YtfgccldkbolkoaaDoor
open Go.RowKit

end Go.Proofs.YtfgccldkbolkoaaDoor
