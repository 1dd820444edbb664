/- Contracts of burgageref8's there, Bits, Vals, SetBits, SetVals. -/
import Derived.Test.YtdihcdphgiaepaaY6
namespace Go.Proofs.Ytdihcdphgiaepaa
open Go.RowKit

end Go.Proofs.Ytdihcdphgiaepaa
