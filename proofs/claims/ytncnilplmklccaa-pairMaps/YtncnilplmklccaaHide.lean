/- A fact kept from the walk's own rules. -/
import Derived.Below
namespace Go.Proofs.Ytncnilplmklccaa
open Go.RowKit
theorem hide {p : Prop} (h : p) : Hid p := h
end Go.Proofs.Ytncnilplmklccaa
