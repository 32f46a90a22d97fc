/- Several texts in one: What the document's answer for layer 10 (tenailleref10) reads: a packet, way by way. What the document's answer for layer 10 (tenailleref10) reads: a packet, way by way. No statement is proved here. -/
import Derived.Test.YtmkeioeodlidgaaGreatDoorZM17
namespace Go.Proofs.YtmkeioeodlidgaaGreatDoor
open Go.RowKit
set_option linter.unusedVariables false

end Go.Proofs.YtmkeioeodlidgaaGreatDoor

namespace Go.Proofs.YtmkeioeodlidgaaGreatDoor
open Go.RowKit
set_option linter.unusedVariables false

end Go.Proofs.YtmkeioeodlidgaaGreatDoor
