/- Contracts of codec: PutOp, GetOp, EncodeState, DecodeState. -/
import Derived.Test.YtcaalklpjpefjaaCodecPut
import Derived.Test.YtcaalklpjpefjaaCodecGet
import Derived.Test.YtcaalklpjpefjaaCodecEnc
import Derived.Test.YtcaalklpjpefjaaCodecDec
