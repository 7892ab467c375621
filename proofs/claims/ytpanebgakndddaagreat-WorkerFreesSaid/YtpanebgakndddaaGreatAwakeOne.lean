/- A part. -/
import Derived.Test.YtpanebgakndddaaGreatFnvWalk
import Derived.Test.YtpanebgakndddaaGreatKit
set_option linter.unusedVariables false
set_option linter.unusedSimpArgs false
namespace Go.Proofs.YtpanebgakndddaaGreat.Fc
open Go.RowKit lZ
theorem LM:FM.sum [97]=3826002220:=by decide+kernel
set_option maxHeartbeats 400000 in
theorem ey (w:World):Calls Tryz.prog 181 #[] w fun e w'=>e=.returned (.bool true)/\w'=w:=by
 go_enter Tryz.func181,Tryz.ntmps181
 go_wp2_with fail
 refine (x8 ⟨#[97]⟩ _ (by decide)).mono ?_
 rintro e w' ⟨rfl,rfl⟩
 rw [show FM.sum (ByteArray.mk #[97]).data.toList=3826002220 from LM]
 go_wp2_with fail
 refine (qv 8 _ (by omega) (by omega)).mono ?_
 rintro e w' ⟨rfl,rfl⟩
 rw [show FM.bo 8=true from by decide]
 go_wp2_with fail
 refine (qv 0 _ (by omega) (by omega)).mono ?_
 rintro e w' ⟨rfl,rfl⟩
 rw [show FM.bo 0=false from by decide]
 go_wp2
 go_ret
 exact ⟨rfl,rfl⟩
end Go.Proofs.YtpanebgakndddaaGreat.Fc
