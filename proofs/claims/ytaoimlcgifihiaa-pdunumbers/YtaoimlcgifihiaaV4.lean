/- The contract of Request holds. -/
import Derived.Test.YtaoimlcgifihiaaV0
import Derived.Test.YtaoimlcgifihiaaT2
namespace Go.Proofs.Ytaoimlcgifihiaa
theorem req_ok : ReqOk := fun B g l w hT hB => request_walk B g l w hT hB
end Go.Proofs.Ytaoimlcgifihiaa
