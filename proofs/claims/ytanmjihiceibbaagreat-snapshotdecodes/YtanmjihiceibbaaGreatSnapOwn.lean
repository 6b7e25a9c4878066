/- Contracts of snapshot: May, Same, Encode, Note, Take. -/
import Derived.Test.YtanmjihiceibbaaGreatSnapTakeC
import Derived.Test.YtanmjihiceibbaaGreatSnapEncD
import Derived.Test.YtanmjihiceibbaaGreatSnapOwnA
