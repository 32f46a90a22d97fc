/- The walks of the statements of layer 12, over package stun as it stands. -/
import Derived.Test.YthoiebjndchobaaStunP9
import Derived.Test.YthoiebjndchobaaStunL2
import Derived.Test.YthoiebjndchobaaStunL3
import Derived.Test.YthoiebjndchobaaStunL4
namespace Go.Proofs.Ythoiebjndchobaa
open Go.RowKit

theorem stunReads_walk (A : Option Addr) (n c : Nat) (bs : List UInt8) (w : World) (hr : RdS w A n c bs) :
    Calls Try.prog 3 #[.slice A n c] w fun e w' => e = .returned (.bool true) ∧ Below w.heap.size w w' := stunReads_walkP tells12 A n c bs w trivial hr
theorem stunWrites_walk (cs : List Value) (s : Stn) (w : World) (h : StnRd w cs s) (hf : s.fit) (hs : s.av.length ≤ 9223372036854775807) :
    Calls Try.prog 4 #[.agg cs.toArray] w fun e w' => e = .returned (.bool true) ∧ Below w.heap.size w w' := stunWrites_walkP tells12 cs s w trivial h hf hs
theorem stunAnswers_walk (A : Option Addr) (n c : Nat) (bs : List UInt8) (port addr : Nat) (w : World) (hr : RdS w A n c bs) (hp : port < 65536) (ha : addr < 4294967296) :
    Calls Try.prog 5 #[.slice A n c, .agg #[.int .u32 (addr : Int), .int .u16 (port : Int)]] w fun e w' => e = .returned (.bool true) ∧ Below w.heap.size w w' := stunAnswers_walkP tells12 A n c bs port addr w trivial hr hp ha
end Go.Proofs.Ythoiebjndchobaa
