/- Joined texts. -/
import Derived.Test.YtdihcdphgiaepaaGreatZZQ5
import Derived.Test.YtdihcdphgiaepaaGreatZZQ6
namespace Go.Proofs.YtdihcdphgiaepaaGreat
end Go.Proofs.YtdihcdphgiaepaaGreat
