/- The contract of Request holds. -/
import Derived.Test.YtbkkinmnokfofaaV0
import Derived.Test.YtbkkinmnokfofaaT2
namespace Go.Proofs.Ytbkkinmnokfofaa
theorem req_ok : ReqOk := fun B g l w hT hB => request_walk B g l w hT hB
end Go.Proofs.Ytbkkinmnokfofaa
