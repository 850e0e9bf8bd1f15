/- PathValidates: which fields and momenta are valid, and the opposite momenta, is what the document says, for all fields and lists.
Conditions: none. -/
import Derived.Test.YtilbhcjnkmeecaaGreatPkSane6
import Derived.Test.YtilbhcjnkmeecaaGreatPkKickB
import Derived.Test.YtilbhcjnkmeecaaGreatPkOpenKA
import Derived.Test.YtilbhcjnkmeecaaGreatPkLawValF
import Derived.Test.YtilbhcjnkmeecaaGreatPkJFacts
namespace Go.Proofs.YtilbhcjnkmeecaaGreat
set_option linter.unusedVariables false
set_option linter.unusedSimpArgs false
set_option maxRecDepth 1000000
open Go.ChangeShapes Go.WideShapes Go.ChangeAt Go.RowKit
open Um Tm Cm Km

end Go.Proofs.YtilbhcjnkmeecaaGreat
