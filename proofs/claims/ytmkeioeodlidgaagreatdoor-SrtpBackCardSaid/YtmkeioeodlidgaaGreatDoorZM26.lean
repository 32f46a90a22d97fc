/- Several texts in one: What the document's answer for layer 10 (tenailleref10) writes. What the document's answer for layer 10 (tenailleref10) writes, with no extension. No statement is proved here. -/
import Derived.Test.YtmkeioeodlidgaaGreatDoorZM23
import Derived.Test.YtmkeioeodlidgaaGreatDoorZM4
import Derived.Deep.DeepCutAuto
namespace Go.Proofs.YtmkeioeodlidgaaGreatDoor
open Go.RowKit
set_option linter.unusedVariables false

/-- A number is put behind bytes by the document's answer, in a row of the call's own. -/
theorem own_loW {w : World} {base base' n : Nat} {e : TypeId} {v : Value} {xs : List Value} (h : w.ownsRow base e 1 v n xs) (hb : base' ≤ base) : w.ownsRow base' e 1 v n xs :=
  ⟨h.1, h.2.imp id fun ⟨g, cap, cur, hv, hg, r⟩ => ⟨g, cap, cur, hv, Nat.le_trans hb hg, r⟩⟩
end Go.Proofs.YtmkeioeodlidgaaGreatDoor

namespace Go.Proofs.YtmkeioeodlidgaaGreatDoor
open Go.RowKit
set_option linter.unusedVariables false

end Go.Proofs.YtmkeioeodlidgaaGreatDoor
