/- Small lemmas used by every layer: bounds of an integer that fits its kind; endings. -/
import Derived.WalkKit
import Derived.Lib.Hide
set_option linter.unusedVariables false
set_option linter.unusedSimpArgs false
namespace Go.Proofs.YtpobbnllcoabhaaGreatDoor.K
open Go.RowKit
theorem ret_bool {a b:Bool} (h:a=b):Ending.returned (.bool a)=.returned (.bool b):=by rw [h]
end Go.Proofs.YtpobbnllcoabhaaGreatDoor.K
