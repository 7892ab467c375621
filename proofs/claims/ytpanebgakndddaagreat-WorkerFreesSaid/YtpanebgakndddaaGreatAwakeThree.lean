/- A part. -/
import Derived.Test.YtpanebgakndddaaGreatLocksWalk
import Derived.Test.YtpanebgakndddaaGreatLawKit
import Derived.Test.YtpanebgakndddaaGreatRowKit
set_option linter.unusedVariables false
set_option linter.unusedSimpArgs false
namespace Go.Proofs.YtpanebgakndddaaGreat.Fe
open Go Go.RowKit Hp K Fl Rw Lo LK
set_option maxRecDepth 100000
theorem AW {B g b:Nat} (hg:B<=g) (hb:B<=b):∀ x,x<B->¬aS g b x:=by
 rintro x hx (h | h)<;>omega
theorem ey (w:World):Calls Tryz.prog 183 #[] w fun e w'=>e=.returned (.bool true)/\Below w.heap.size w w':=by
 go_enter Tryz.func183,Tryz.ntmps183
 go_wp2_with fail
 refine (qt w 1 (by omega)).mono ?_
 rintro e w1 ⟨g,b,rfl,hL,hg,hb,hB⟩
 have hF:=Lib.hid (AW hg hb)
 have t1:=Lib.hid (vi hL 0 (by simp) 5 (by omega) (by omega) (by decide))
 replace hB:=Lib.hid hB
 clear hL hg hb
 go_wp2_with fail
 refine t1.out.mono ?_
 rintro e w2 ⟨rfl,hL,hO⟩
 rw [show (List.replicate 1 (-1:Int)).set 0 5=[5] from rfl] at hL
 have ag:=Lib.hid (hB.out.trans (hO.toBelow hB.out.size hF.out))
 have t2:=Lib.hid (LN hL 0 (by simp) 6 (by omega) (by decide))
 have t3:=Lib.hid (LO hL 0 (by simp) 6 (by omega) (by decide))
 replace hL:=Lib.hid hL
 clear t1 hO hB
 go_wp2_with fail
 refine t2.out.mono ?_
 rintro e w' ⟨rfl,rfl⟩
 go_wp2_with fail
 refine t3.out.mono ?_
 rintro e w3 ⟨rfl,ba⟩
 have ay:=Lib.hid (ag.out.trans (ba.mono ag.out.size))
 have t4:=Lib.hid (tC (hL.out.only (ab.aD ba (fun _=>False)) (by simp)) 0 (by simp))
 rw [show aE [5] 0=5 from rfl] at t4
 clear t2 t3 ba ag hL
 go_wp2_with (go_at_call 97; refine t4.out.mono ?_; rintro e w' ⟨rfl,rfl⟩)
 go_ret
 exact ⟨rfl,ay.out⟩
end Go.Proofs.YtpanebgakndddaaGreat.Fe
