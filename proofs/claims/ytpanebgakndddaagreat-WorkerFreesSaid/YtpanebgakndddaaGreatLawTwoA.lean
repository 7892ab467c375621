/- A part. -/
import Derived.Test.YtpanebgakndddaaGreatCellsWalk
import Derived.Test.YtpanebgakndddaaGreatLawKit
set_option linter.unusedVariables false
set_option linter.unusedSimpArgs false
namespace Go.Proofs.YtpanebgakndddaaGreat.Hu
open Go Go.RowKit Hp K Cl LK
set_option maxRecDepth 100000
theorem AW {B g:Nat} {A:Option Addr} (hg:B<=g) (hA:∀ b,A.map (·.block)=some b->B<=b):∀ x,x<B->¬aS g A x:=by
 rintro x hx (h | h)
 ·omega
 ·have:=hA x h; omega
theorem ey (w:World):Calls Tryz.prog 182 #[] w fun e w'=>e=.returned (.bool true)/\Below w.heap.size w w':=by
 go_enter Tryz.func182,Tryz.ntmps182
 go_wp2_with fail
 refine (qt w 1 (by omega)).mono ?_
 rintro e w1 ⟨rfl,hb,A,cap,hC,hA⟩
 have hF:=AW (Nat.le_refl w.heap.size) (fun b hb=>Nat.le_of_lt (hA b hb))
 have ax:=Lib.hid hb
 have ff:=Lib.hid hF
 clear hb hA hF
 have nW:=Lib.hid (Fj hC 0 (by simp) 3)
 rw [show fp (nth (List.replicate 1 0) 0) 3=3 from by decide,show (List.replicate 1 (0:Int)).set 0 3=[3] from rfl] at nW
 clear hC
 go_wp2_with fail
 refine nW.out.mono ?_
 rintro e w2 ⟨rfl,hC,hO⟩
 have au:=Lib.hid (ax.out.trans (hO.toBelow ax.out.size ff.out))
 clear nW hO ax
 have gJ:=Lib.hid (L7 hC 0 (by simp) 3 9 rfl (by omega) (by omega))
 rw [show ([3]:List Int).set 0 9=[9] from rfl] at gJ
 clear hC
 go_wp2_with fail
 refine gJ.out.mono ?_
 rintro e w3 ⟨rfl,hC,hO⟩
 have ba:=Lib.hid (au.out.trans (hO.toBelow au.out.size ff.out))
 clear gJ hO au
 have aW:=Lib.hid (mM hC 0 (by simp))
 rw [show nth [9] 0=9 from rfl] at aW
 clear hC
 go_wp2_with (go_at_call 90; refine aW.out.mono ?_; rintro e w' ⟨rfl,rfl⟩)
 go_ret
 exact ⟨rfl,ba.out⟩
end Go.Proofs.YtpanebgakndddaaGreat.Hu
