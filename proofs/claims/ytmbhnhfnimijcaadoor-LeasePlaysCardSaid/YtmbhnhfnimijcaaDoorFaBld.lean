/-
  A bare name: this program has no strings.Builder and no strconv.Itoa. It hands on what the texts behind it import.
-/
import Derived.Test.YtmbhnhfnimijcaaDoorPkMem
import Derived.Test.YtmbhnhfnimijcaaDoorSmStr
