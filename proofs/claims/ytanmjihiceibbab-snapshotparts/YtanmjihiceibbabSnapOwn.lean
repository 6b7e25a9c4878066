/- Contracts of snapshot: May, Same, Encode, Note, Take. -/
import Derived.Test.YtanmjihiceibbabSnapTakeC
import Derived.Test.YtanmjihiceibbabSnapEncD
import Derived.Test.YtanmjihiceibbabSnapOwnA
