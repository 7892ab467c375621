/- A part. -/
import Derived.Test.YtpanebgakndddaaGreatFnvWalk
import Derived.Test.YtpanebgakndddaaGreatKit
set_option linter.unusedVariables false
set_option linter.unusedSimpArgs false
namespace Go.Proofs.YtpanebgakndddaaGreat.E2
open Go.RowKit lX
theorem Lz:FM.sum [97]=3826002220:=by decide+kernel
set_option maxHeartbeats 400000 in
theorem et (w:World):Calls Tryz.prog 181 #[] w fun e w'=>e=.returned (.bool true)/\w'=w:=by
 go_enter Tryz.func181,Tryz.ntmps181
 go_wp2_with fail
 refine (xU ⟨#[97]⟩ _ (by decide)).mono ?_
 rintro e w' ⟨rfl,rfl⟩
 rw [show FM.sum (ByteArray.mk #[97]).data.toList=3826002220 from Lz]
 go_wp2_with fail
 refine (qp 8 _ (by omega) (by omega)).mono ?_
 rintro e w' ⟨rfl,rfl⟩
 rw [show FM.bo 8=true from by decide]
 go_wp2_with fail
 refine (qp 0 _ (by omega) (by omega)).mono ?_
 rintro e w' ⟨rfl,rfl⟩
 rw [show FM.bo 0=false from by decide]
 go_wp2
 go_ret
 exact ⟨rfl,rfl⟩
end Go.Proofs.YtpanebgakndddaaGreat.E2
