/- The walks of the statements RtcpNames and RtcpLosses, over the package's table. No statement is proved here. -/
import Derived.Test.YtacaempcbdekaaaDoorRtcpNames
import Derived.Test.YtacaempcbdekaaaDoorRtcpLaw
import Derived.Test.YtacaempcbdekaaaDoorRtcpP3
namespace Go.Proofs.YtacaempcbdekaaaDoor
open Go.RowKit
set_option linter.unusedVariables false
theorem rtcpNames_walk (s : ByteArray) (w : World) (ht : Tab w ∧ 0 < w.heap.size) :
    Calls Tryd.prog 4 #[.string s] w fun e w' => e = .returned (.bool true) ∧ Below w.heap.size w w' := rtcpNames_core (alive_any w ht.1 ht.2) isname_any s
theorem rtcpLosses_walk (a0 : Option Addr) (n0 c0 : Nat) (a1 : Option Addr) (n1 c1 : Nat) (w : World) (ht : Tab w ∧ 0 < w.heap.size) (h0 : ∃ L, RdL w a0 n0 L) (h1 : ∃ T, RdH w a1 n1 T) :
    Calls Tryd.prog 5 #[.slice a0 n0 c0, .slice a1 n1 c1] w fun e w' => e = .returned (.bool true) ∧ Below w.heap.size w w' :=
  rtcpLosses_walkP (alive_any w ht.1 ht.2) nacked_any losses_any a0 n0 c0 a1 n1 c1 h0 h1
end Go.Proofs.YtacaempcbdekaaaDoor
