/- Contract of burgageref7.Cover. -/
import Derived.Test.YtffjhimdamdenaaZ7
namespace Go.Proofs.Ytffjhimdamdenaa
open Go.RowKit

end Go.Proofs.Ytffjhimdamdenaa
