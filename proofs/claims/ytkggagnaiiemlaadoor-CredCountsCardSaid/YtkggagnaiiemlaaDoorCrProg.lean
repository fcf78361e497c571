/-
  The program's own functions of cred by contract, all but the two on lists.
-/
import Derived.Test.YtkggagnaiiemlaaDoorCrPrP
import Derived.Test.YtkggagnaiiemlaaDoorCrPrD
