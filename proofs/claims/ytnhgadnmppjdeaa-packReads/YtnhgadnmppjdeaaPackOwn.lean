/- Rows of bytes of a call's own: empty, read and written at a place. -/
import Derived.Test.YtnhgadnmppjdeaaPackItem
namespace Go.Proofs.Ytnhgadnmppjdeaa
open Go.RowKit Go.Lib

end Go.Proofs.Ytnhgadnmppjdeaa
