/- The document's example of layer 3 answers true. -/
import Derived.Test.YtkogifmjbmnpgaaGreatLocksWalk
import Derived.Test.YtkogifmjbmnpgaaGreatLawKit
import Derived.Test.YtkogifmjbmnpgaaGreatRowKit
set_option linter.unusedVariables false
set_option linter.unusedSimpArgs false
namespace Go.Proofs.YtkogifmjbmnpgaaGreat.AwThree
open Go Go.RowKit Hp K Fl Rw Lo LK
set_option maxRecDepth 100000
theorem foot_new {B g b:Nat} (hg:B≤g) (hb:B≤b):∀ x,x<B→¬foot g b x:=by
 rintro x hx (h | h)<;>omega
theorem awake (w:World):Calls Tryz.prog 152 #[] w fun e w'=>e=.returned (.bool true)∧Below w.heap.size w w':=by
 go_enter Tryz.func152,Tryz.ntmps152
 go_wp2_with fail
 refine (new_yes w 1 (by omega)).mono ?_
 rintro e w1 ⟨g,b,rfl,hL,hg,hb,hB⟩
 have hF:=Lib.hid (foot_new hg hb)
 have t1:=Lib.hid (try_free hL 0 (by simp) 5 (by omega) (by omega) (by decide))
 replace hB:=Lib.hid hB
 clear hL hg hb
 go_wp2_with fail
 refine t1.out.mono ?_
 rintro e w2 ⟨rfl,hL,hO⟩
 rw [show (List.replicate 1 (-1:Int)).set 0 5=[5] from rfl] at hL
 have hB2:=Lib.hid (hB.out.trans (hO.toBelow hB.out.size hF.out))
 have t2:=Lib.hid (try_held hL 0 (by simp) 6 (by omega) (by decide))
 have t3:=Lib.hid (free_other hL 0 (by simp) 6 (by omega) (by decide))
 replace hL:=Lib.hid hL
 clear t1 hO hB
 go_wp2_with fail
 refine t2.out.mono ?_
 rintro e w' ⟨rfl,rfl⟩
 go_wp2_with fail
 refine t3.out.mono ?_
 rintro e w3 ⟨rfl,hb3⟩
 have hB3:=Lib.hid (hB2.out.trans (hb3.mono hB2.out.size))
 have t4:=Lib.hid (holder_in (hL.out.only (Only.ofBelow hb3 (fun _=>False)) (by simp)) 0 (by simp))
 rw [show hol [5] 0=5 from rfl] at t4
 clear t2 t3 hb3 hB2 hL
 go_wp2_with (go_at_call 68; refine t4.out.mono ?_; rintro e w' ⟨rfl,rfl⟩)
 go_ret
 exact ⟨rfl,hB3.out⟩
end Go.Proofs.YtkogifmjbmnpgaaGreat.AwThree
