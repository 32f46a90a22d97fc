/- Package ladder tells what the laws of layer 21 ask; the laws' walks, brought together. No statement is proved here. -/
import Derived.Test.YtbghpgflfaheiaaLadP2
import Derived.Test.YtbghpgflfaheiaaLadL2
import Derived.Test.YtbghpgflfaheiaaLadPl
import Derived.Test.YtbghpgflfaheiaaOnes
import Derived.Test.YtbghpgflfaheiaaArg
namespace Go.Proofs.Ytbghpgflfaheiaa
end Go.Proofs.Ytbghpgflfaheiaa
