/- The document's example of layer 1 answers true. -/
import Derived.Test.YtpobbnllcoabhaaGreatFnvWalk
import Derived.Test.YtpobbnllcoabhaaGreatKit
set_option linter.unusedVariables false
set_option linter.unusedSimpArgs false
namespace Go.Proofs.YtpobbnllcoabhaaGreat.AwOne
open Go.RowKit Fnv
theorem sum_a:FM.sum [97]=3826002220:=by decide+kernel
set_option maxHeartbeats 400000 in
theorem awake (w:World):Calls Tryz.prog 143 #[] w fun e w'=>e=.returned (.bool true)∧w'=w:=by
 go_enter Tryz.func143,Tryz.ntmps143
 go_wp2_with fail
 refine (sum_any ⟨#[97]⟩ _ (by decide)).mono ?_
 rintro e w' ⟨rfl,rfl⟩
 rw [show FM.sum (ByteArray.mk #[97]).data.toList=3826002220 from sum_a]
 go_wp2_with fail
 refine (power_any 8 _ (by omega) (by omega)).mono ?_
 rintro e w' ⟨rfl,rfl⟩
 rw [show FM.power 8=true from by decide]
 go_wp2_with fail
 refine (power_any 0 _ (by omega) (by omega)).mono ?_
 rintro e w' ⟨rfl,rfl⟩
 rw [show FM.power 0=false from by decide]
 go_wp2
 go_ret
 exact ⟨rfl,rfl⟩
end Go.Proofs.YtpobbnllcoabhaaGreat.AwOne
