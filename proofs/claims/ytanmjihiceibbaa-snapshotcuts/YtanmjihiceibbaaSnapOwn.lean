/- Contracts of snapshot: May, Same, Encode, Note, Take. -/
import Derived.Test.YtanmjihiceibbaaSnapTakeC
import Derived.Test.YtanmjihiceibbaaSnapEncD
import Derived.Test.YtanmjihiceibbaaSnapOwnA
