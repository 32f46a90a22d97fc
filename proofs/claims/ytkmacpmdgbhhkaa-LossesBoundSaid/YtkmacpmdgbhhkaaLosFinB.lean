/- Package losses' contracts beside a law's walk. No statement is proved here. -/
import Derived.Test.YtkmacpmdgbhhkaaLosFin
import Derived.Test.YtkmacpmdgbhhkaaLosBd
namespace Go.Proofs.Ytkmacpmdgbhhkaa
theorem fin_LosFinB : Tells20 T20 := tells20
end Go.Proofs.Ytkmacpmdgbhhkaa
