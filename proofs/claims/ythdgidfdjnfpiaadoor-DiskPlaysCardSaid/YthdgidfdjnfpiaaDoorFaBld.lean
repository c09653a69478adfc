/-
  A bare name: this program has no strings.Builder. It hands on what the texts behind it import.
-/
import Derived.Test.YthdgidfdjnfpiaaDoorFaShelf
import Derived.Test.YthdgidfdjnfpiaaDoorPkMem
import Derived.Test.YthdgidfdjnfpiaaDoorSmStr
