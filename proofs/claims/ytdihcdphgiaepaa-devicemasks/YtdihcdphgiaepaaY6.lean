/- Contract of burgageref8.New. -/
import Derived.Test.YtdihcdphgiaepaaY5
namespace Go.Proofs.Ytdihcdphgiaepaa
open Go.RowKit

end Go.Proofs.Ytdihcdphgiaepaa
