/- Package coalesce tells what the laws of layer 24 ask; the laws' walks, brought together. No statement is proved here. -/
import Derived.Test.YthgenpokpoiakaaCoaP2
import Derived.Test.YthgenpokpoiakaaCoaPl
import Derived.Test.YthgenpokpoiakaaCoaFew
import Derived.Test.YthgenpokpoiakaaFields
import Derived.Test.YthgenpokpoiakaaArg
namespace Go.Proofs.Ythgenpokpoiakaa
end Go.Proofs.Ythgenpokpoiakaa
