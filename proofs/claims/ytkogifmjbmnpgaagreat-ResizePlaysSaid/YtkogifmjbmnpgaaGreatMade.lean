/- A memory that is whole, just made. -/
import Derived.Test.YtkogifmjbmnpgaaGreatMemNew
set_option linter.unusedVariables false
set_option linter.unusedSimpArgs false
namespace Go.Proofs.YtkogifmjbmnpgaaGreat.LawSix
open Go Go.RowKit Hp K Fl Rw Hm Ar Mm Me
set_option maxRecDepth 100000
def MadeP (w:World) (n k:Nat) (M:Mo) (w':World):Prop:=
 MemAt w' M∧(∀ x,mfoot M x→w.heap.size≤x)∧Below w.heap.size w w'∧M.xs=1::List.replicate (k+2) 0∧M.ss=List.replicate n .zero∧M.F=false∧M.hs=List.replicate 6 (-1)∧M.k=k∧M.ds=[(1,k+2)]∧M.ws=[]
theorem made_yes (n k:Nat) (w:World) (hn:1≤n∧n≤1024) (hk:1≤k∧k≤8):Calls Tryz.prog 6 #[.int .i64 n,.int .i64 k] w fun e w'=>∃ M,e=.returned (ptr M.m)∧MadeP w n k M w':=by
 have hN:=Lib.hid (mem_yes n k w hn hk)
 go_enter Tryz.func6,Tryz.ntmps6
 go_wp2_with fail
 refine hN.out.mono ?_
 rintro e w1 ⟨M,rfl,hM⟩
 obtain ⟨c0,c1,c2,_⟩:=hM.1.hd
 replace hM:=Lib.hid hM
 clear hN
 go_wp2_with fail
 go_ret
 exact ⟨M,rfl,hM.out⟩
end Go.Proofs.YtkogifmjbmnpgaaGreat.LawSix
