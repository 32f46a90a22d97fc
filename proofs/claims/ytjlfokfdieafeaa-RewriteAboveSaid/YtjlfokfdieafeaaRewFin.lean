/- Layer 22: all that its laws stand on. No statement is proved here. -/
import Derived.Test.YtjlfokfdieafeaaRewP5
import Derived.Test.YtjlfokfdieafeaaRewPl2
import Derived.Test.YtjlfokfdieafeaaRewOrd
import Derived.Test.YtjlfokfdieafeaaRewAb
