/- In a seat where all of package word is called: N4 in the place of B1. -/
import Derived.Test.YtebkmlbpngpmdaaDoorN4g
import Derived.Test.YtebkmlbpngpmdaaDoorMM
