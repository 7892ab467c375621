/- What both statements of layer 2 use: the document's example. -/
import Derived.Test.YtkogifmjbmnpgaaGreatCellsWalk
import Derived.Test.YtkogifmjbmnpgaaGreatLawKit
set_option linter.unusedVariables false
set_option linter.unusedSimpArgs false
namespace Go.Proofs.YtkogifmjbmnpgaaGreat.LawTwo
open Go Go.RowKit Hp K Cl LK
set_option maxRecDepth 100000
theorem foot_new {B g:Nat} {A:Option Addr} (hg:B≤g) (hA:∀ b,A.map (·.block)=some b→B≤b):∀ x,x<B→¬foot g A x:=by
 rintro x hx (h | h)
 · omega
 · have:=hA x h; omega
theorem awake (w:World):Calls Tryz.prog 151 #[] w fun e w'=>e=.returned (.bool true)∧Below w.heap.size w w':=by
 go_enter Tryz.func151,Tryz.ntmps151
 go_wp2_with fail
 refine (new_yes w 1 (by omega)).mono ?_
 rintro e w1 ⟨rfl,hb,A,cap,hC,hA⟩
 have hF:=foot_new (Nat.le_refl w.heap.size) (fun b hb=>Nat.le_of_lt (hA b hb))
 have hb1:=Lib.hid hb
 have hF1:=Lib.hid hF
 clear hb hA hF
 have hadd:=Lib.hid (add_in hC 0 (by simp) 3)
 rw [show sum64 (nth (List.replicate 1 0) 0) 3=3 from by decide,show (List.replicate 1 (0:Int)).set 0 3=[3] from rfl] at hadd
 clear hC
 go_wp2_with fail
 refine hadd.out.mono ?_
 rintro e w2 ⟨rfl,hC,hO⟩
 have hb2:=Lib.hid (hb1.out.trans (hO.toBelow hb1.out.size hF1.out))
 clear hadd hO hb1
 have hsw:=Lib.hid (swap_yes hC 0 (by simp) 3 9 rfl (by omega) (by omega))
 rw [show ([3]:List Int).set 0 9=[9] from rfl] at hsw
 clear hC
 go_wp2_with fail
 refine hsw.out.mono ?_
 rintro e w3 ⟨rfl,hC,hO⟩
 have hb3:=Lib.hid (hb2.out.trans (hO.toBelow hb2.out.size hF1.out))
 clear hsw hO hb2
 have hlo:=Lib.hid (load_in hC 0 (by simp))
 rw [show nth [9] 0=9 from rfl] at hlo
 clear hC
 go_wp2_with (go_at_call 42; refine hlo.out.mono ?_; rintro e w' ⟨rfl,rfl⟩)
 go_ret
 exact ⟨rfl,hb3.out⟩
end Go.Proofs.YtkogifmjbmnpgaaGreat.LawTwo
