/- A part. -/
import Derived.WalkKit
import Derived.Lib.Hide
namespace Go.Proofs.YtpanebgakndddaaGreat.K
open Go.RowKit
theorem kZ {a b:Bool} (h:a=b):Ending.returned (.bool a)=.returned (.bool b):=by rw [h]
theorem wf_u8 {a:Int} (h:(Lit.int .u8 a).wf=true):0<=a/\a<=255:=by
 simp [Lit.wf,IntKind.min,IntKind.max,IntKind.signed,IntKind.bits] at h; omega
theorem wf_i64 {a:Int} (h:(Lit.int .i64 a).wf=true): -9223372036854775808<=a/\a<=9223372036854775807:=by
 simp [Lit.wf,IntKind.min,IntKind.max,IntKind.signed,IntKind.bits] at h; omega
end Go.Proofs.YtpanebgakndddaaGreat.K
