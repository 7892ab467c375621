/- What all statements of layer 5 use: the document's example; the smallest statement. -/
import Derived.Test.YtkogifmjbmnpgaaGreatMemNew
import Derived.Test.YtkogifmjbmnpgaaGreatFnvWalk
import Derived.Test.YtkogifmjbmnpgaaGreatAwakeOne
import Derived.Test.YtkogifmjbmnpgaaGreatLawTwoA
import Derived.Test.YtkogifmjbmnpgaaGreatAwakeThree
import Derived.Test.YtkogifmjbmnpgaaGreatAwakeFour
set_option linter.unusedVariables false
set_option linter.unusedSimpArgs false
namespace Go.Proofs.YtkogifmjbmnpgaaGreat.LawFive
open Go Go.RowKit Hp K Fl Rw Hm Ar Mm Me LK
set_option maxRecDepth 100000
theorem one (w:World):Calls Tryz.prog 150 #[] w fun e w'=>e=.returned (.bool true)∧w=w':=(AwOne.awake w).mono fun _ _ h=>⟨h.1,h.2.symm⟩
set_option maxHeartbeats 1000000 in
theorem awake (w:World):Calls Tryz.prog 127 #[] w fun e w'=>e=.returned (.bool true)∧Below w.heap.size w w':=by
 have hN:=Lib.hid (mem_yes 4 2 w (by omega) (by omega))
 go_enter Tryz.func127,Tryz.ntmps127
 go_wp2_with fail
 refine hN.out.mono ?_
 rintro e w1 ⟨M,rfl,hM,hlo,hB,h1,h2,h3,h4,h5,h6,h7⟩
 have hLd:=Lib.hid (Cl.load_in hM.2.1 0 (by rw [h1]; simp))
 rw [h1,show Cl.nth (1::List.replicate (2+2) 0) 0=1 from rfl] at hLd
 obtain ⟨c0,c1,c2,_⟩:=hM.hd
 have hlen:∀ w',Below w1.heap.size w1 w'→Calls Tryz.prog 7 #[ptr M.g] w' fun e w''=>e=.returned (.int .i64 5)∧w'=w'':=fun w' hb=>by
  have:=(Cl.len_any (hM.below hb).2.1)
  rw [h1] at this
  exact this.mono fun _ _ h=>⟨h.1,h.2.symm⟩
 have hnow:∀ w',Below w1.heap.size w1 w'→Calls Tryz.prog 16 #[ptr M.m] w' fun e w''=>e=.returned (.agg #[.int .i64 1,.int .i64 4])∧Below w'.heap.size w' w'':=fun w' hb=>by
  have:=now_any (hM.below hb) (by rw [h1]; simp)
  rw [h1,h6] at this
  exact this
 have hcell:∀ w',Below w1.heap.size w1 w'→w'.cell? ⟨M.m,0,none⟩=some (ptr M.g):=fun w' hb=>(hM.below hb).hd.1
 replace hlen:=Lib.hid hlen
 replace hnow:=Lib.hid hnow
 replace hcell:=Lib.hid hcell
 replace hB:=Lib.hid hB
 clear hN hM hlo h1 h2 h3 h4 h5 h6 h7
 go_wp2_with (first
  | (go_at_call 42; refine hLd.out.mono ?_; rintro e w' ⟨rfl,hw⟩; obtain rfl:w1=w':=hw.symm)
  | (go_at_call 150; refine (one _).mono ?_; rintro e w' ⟨rfl,rfl⟩))
 refine (LawTwo.awake w1).mono ?_
 rintro e w2 ⟨rfl,hB2⟩
 have hc2:=hcell.out w2 hB2
 replace hB2:=Lib.hid hB2
 go_wp2_with fail
 refine (AwThree.awake w2).mono ?_
 rintro e w3 ⟨rfl,hB3⟩
 replace hB3:=Lib.hid (hB2.out.trans (hB3.mono hB2.out.size))
 clear hc2
 go_wp2_with fail
 refine (AwFour.awake w3).mono ?_
 rintro e w4 ⟨rfl,hB4⟩
 replace hB4:=Lib.hid (hB3.out.trans (hB4.mono hB3.out.size))
 have hc4:=hcell.out w4 hB4.out
 have hl4:=Lib.hid (hlen.out w4 hB4.out)
 have hn4:=Lib.hid (hnow.out w4 hB4.out)
 clear c0 c1 c2
 go_wp2_with (first
  | (go_at_call 7; refine hl4.out.mono ?_; rintro e w' ⟨rfl,rfl⟩)
  | (go_at_call 16; refine hn4.out.mono ?_; rintro e w5 ⟨rfl,hB5⟩
     replace hB5:=Lib.hid (hB.out.trans ((hB4.out.trans (hB5.mono hB4.out.size)).mono hB.out.size))))
 go_ret
 exact ⟨rfl,hB5.out⟩
/-! ### names-/
end Go.Proofs.YtkogifmjbmnpgaaGreat.LawFive
