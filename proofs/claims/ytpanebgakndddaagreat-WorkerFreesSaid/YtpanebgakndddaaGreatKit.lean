/- A part. -/
import Derived.WalkKit
import Derived.Lib.Hide
namespace Go.Proofs.YtpanebgakndddaaGreat.K
open Go.RowKit
theorem vf {k:IntKind} {a b:Int} (h:a=b):Ending.returned (.int k a)=.returned (.int k b):=by rw [h]
theorem je {a b:Bool} (h:a=b):Ending.returned (.bool a)=.returned (.bool b):=by rw [h]
end Go.Proofs.YtpanebgakndddaaGreat.K
