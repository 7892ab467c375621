/- A part. -/
import Derived.Test.YtpanebgakndddaaGreatQsbrE
import Derived.Test.YtpanebgakndddaaGreatMemWalk
set_option linter.unusedVariables false
set_option linter.unusedSimpArgs false
namespace Go.Proofs.YtpanebgakndddaaGreat.Ob
end Go.Proofs.YtpanebgakndddaaGreat.Ob
namespace Go.Proofs.YtpanebgakndddaaGreat.fk
open Go Go.RowKit Hp K Fl Rw Hm Ar Mm Me Qs Ob
set_option maxRecDepth 100000
theorem SV {xs:List Int} {j:Nat} (hj:j<xs.length) (v:Int) (i:Nat):Cl.nth (xs.set j v) i=if i=j then v else Cl.nth xs i:=by
 unfold Cl.nth
 simp only [List.getD_eq_getElem?_getD,List.getElem?_set]
 by_cases e:j=i
 ·subst e; simp [hj]
 ·have e':¬i=j:=fun q=>e q.symm
  simp [e,e']
theorem qO {hs:List Int} (h:0<hs.length) (v:Int):Lo.aE (hs.set 0 v) 0=v:=by simp [Lo.aE,List.getD,h]
/-! ### once all are out-/
def rem (n:Nat) (W:Wt):Nat:=if W.at_=0 then n+3 else if W.at_=1 then n+2 else if W.at_=2 then n-W.bm+1 else 1
end Go.Proofs.YtpanebgakndddaaGreat.fk
