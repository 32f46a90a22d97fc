/- What the laws of layer 25 stand on, brought together. No statement is proved here. -/
import Derived.Test.YtehnnnhbgjfdgaaRemP4
import Derived.Test.YtehnnnhbgjfdgaaRemL2
