/-
  The program's own vectors, all by contract.
-/
import Derived.Test.YtkaakbgpkpkeeaaVeBack
import Derived.Test.YtkaakbgpkpkeeaaVePgE
