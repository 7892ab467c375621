/- A part. -/
import Derived.Test.YtpanebgakndddaaGreatCellsWalk
import Derived.Test.YtpanebgakndddaaGreatLawKit
set_option linter.unusedVariables false
set_option linter.unusedSimpArgs false
namespace Go.Proofs.YtpanebgakndddaaGreat.Hh
open Go Go.RowKit Hp K Cl LK
set_option maxRecDepth 100000
theorem AM {B g:Nat} {A:Option Addr} (hg:B<=g) (hA:∀ b,A.map (·.block)=some b->B<=b):∀ x,x<B->¬aR g A x:=by
 rintro x hx (h | h)
 ·omega
 ·have:=hA x h; omega
theorem et (w:World):Calls Tryz.prog 182 #[] w fun e w'=>e=.returned (.bool true)/\Below w.heap.size w w':=by
 go_enter Tryz.func182,Tryz.ntmps182
 go_wp2_with fail
 refine (qm w 1 (by omega)).mono ?_
 rintro e w1 ⟨rfl,hb,A,cap,hC,hA⟩
 have hF:=AM (Nat.le_refl w.heap.size) (fun b hb=>Nat.le_of_lt (hA b hb))
 have ax:=Lib.hid hb
 have eY:=Lib.hid hF
 clear hb hA hF
 have nS:=Lib.hid (E8 hC 0 (by simp) 3)
 rw [show fh (nth (List.replicate 1 0) 0) 3=3 from by decide,show (List.replicate 1 (0:Int)).set 0 3=[3] from rfl] at nS
 clear hC
 go_wp2_with fail
 refine nS.out.mono ?_
 rintro e w2 ⟨rfl,hC,hO⟩
 have au:=Lib.hid (ax.out.trans (hO.toBelow ax.out.size eY.out))
 clear nS hO ax
 have jO:=Lib.hid (LR hC 0 (by simp) 3 9 rfl (by omega) (by omega))
 rw [show ([3]:List Int).set 0 9=[9] from rfl] at jO
 clear hC
 go_wp2_with fail
 refine jO.out.mono ?_
 rintro e w3 ⟨rfl,hC,hO⟩
 have aZ:=Lib.hid (au.out.trans (hO.toBelow au.out.size eY.out))
 clear jO hO au
 have aU:=Lib.hid (mL hC 0 (by simp))
 rw [show nth [9] 0=9 from rfl] at aU
 clear hC
 go_wp2_with (go_at_call 90; refine aU.out.mono ?_; rintro e w' ⟨rfl,rfl⟩)
 go_ret
 exact ⟨rfl,aZ.out⟩
end Go.Proofs.YtpanebgakndddaaGreat.Hh
