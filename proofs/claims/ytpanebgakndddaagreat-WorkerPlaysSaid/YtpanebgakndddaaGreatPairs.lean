/- A part. -/
import Derived.Test.YtpanebgakndddaaGreatWalkD
import Derived.Test.YtpanebgakndddaaGreatFnvMath
set_option linter.unusedVariables false
set_option linter.unusedSimpArgs false
namespace Go.Proofs.YtpanebgakndddaaGreat.Pc
open Go Hm Ar Mm Wk
abbrev Pr:=ByteArray×ByteArray
def sm (k:ByteArray):Int:=(FM.sum k.data.toList:Nat)
theorem oT (k:ByteArray):0<=sm k/\sm k<4294967296:=by
 have:=FM.Cf k.data.toList
 unfold sm
 omega
def dR (p:Pr) (z:Nat):Nd:=⟨p.1,p.2,sm p.1,z⟩
inductive Cn (ss:List Sl):Nat->List Pr->Prop
 | nil:Cn ss 0 []
 | cons {x k z:Nat} {p:Pr} {t:List Pr}:bj ss x k->(aj ss k).nd=dR p z->Cn ss z t->Cn ss x (p::t)
section
variable {ss:List Sl} {x:Nat} {q:List Pr}
theorem Cn.pos (h:Cn ss x q):x=0↔q=[]:=by
 cases h with
 | nil=>simp
 | cons a b c=>simp [a.pos]
def lk:List Pr->ByteArray->Option ByteArray
 | [],_=>none
 | p::t,key=>if p.1=key then some p.2 else lk t key
end
theorem fG (xs:List Int) (k:Nat) (v:Int) (h:k<xs.length) (i:Nat):Cl.nth (xs.set k v) i=if i=k then v else Cl.nth xs i:=by
 unfold Cl.nth
 by_cases e:i=k
 ·subst e; simp [List.getD,h]
 ·rw [if_neg e]; simp [List.getD,List.getElem?_set_ne (Ne.symm e)]
theorem I1 {k:Nat} (h:k<=16):FM.bl ((2 ^ k:Nat):Int)=true:=(FM.wA _).2 ⟨k,h,rfl⟩
theorem IK {n:Nat} (hp:FM.bl n=true) (s:Int) (hs:0<=s):0<=FM.bucket s n/\FM.bucket s n<n:=by
 have:=FM.eG hp
 unfold FM.bucket
 rw [hp,if_pos rfl]
 exact ⟨Int.emod_nonneg _ (by omega),Int.emod_lt_of_pos _ (by omega)⟩
/-! ### laid from the end-/
def pat (l:List Pr) (i:Nat):Pr:=l.getD i default
end Go.Proofs.YtpanebgakndddaaGreat.Pc
