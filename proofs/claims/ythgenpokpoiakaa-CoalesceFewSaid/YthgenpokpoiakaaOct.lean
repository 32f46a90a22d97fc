/- What the functions of package octets answer, and what they leave of memory: contracts that the proofs of the statements use. No statement is proved here. -/
import Derived.Test.YthgenpokpoiakaaProg
import Derived.Test.YthgenpokpoiakaaBytes
import Derived.Test.YthgenpokpoiakaaNums
import Derived.KernelRfl
import Derived.Lib.Hide
namespace Go.Proofs.Ythgenpokpoiakaa
open Go.RowKit
set_option linter.unusedVariables false

theorem u8_info : (Try.prog.info? 5).map (fun i => (i.zero, i.size, i.bytes)) = some (some (.int .u8 0), 1, 1) := by kernel_rfl

end Go.Proofs.Ythgenpokpoiakaa
