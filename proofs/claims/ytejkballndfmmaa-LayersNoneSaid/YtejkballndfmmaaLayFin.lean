/- Package layers tells what the laws of layer 23 ask; the laws' walks, brought together. No statement is proved here. -/
import Derived.Test.YtejkballndfmmaaLayP2
import Derived.Test.YtejkballndfmmaaLayPl
import Derived.Test.YtejkballndfmmaaLayTr
import Derived.Test.YtejkballndfmmaaFields
import Derived.Test.YtejkballndfmmaaArg
namespace Go.Proofs.Ytejkballndfmmaa
end Go.Proofs.Ytejkballndfmmaa
