/- The contract of Request holds. -/
import Derived.Test.YthiheimpmnihcaaV0
import Derived.Test.YthiheimpmnihcaaT2
namespace Go.Proofs.Ythiheimpmnihcaa
theorem req_ok : ReqOk := fun B g l w hT hB => request_walk B g l w hT hB
end Go.Proofs.Ythiheimpmnihcaa
