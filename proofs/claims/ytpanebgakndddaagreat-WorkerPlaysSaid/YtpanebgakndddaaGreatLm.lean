/- A part. -/
import Derived.Test.YtpanebgakndddaaGreatFinish
import Derived.Test.YtpanebgakndddaaGreatWalkD
import Derived.Test.YtpanebgakndddaaGreatPairs
import Derived.Test.YtpanebgakndddaaGreatGetA
set_option linter.unusedVariables false
set_option linter.unusedSimpArgs false
namespace Go.Proofs.YtpanebgakndddaaGreat.Pn
open Go Go.RowKit Hp K Fl Rw Hm Ar Mm Me
set_option maxRecDepth 100000
structure Lm where
 xs:List Int
 hs:List Int
 ss:List Sl
 F:Bool
 k:Int
 ds:List (Nat×Nat)
 ws:List Nat
abbrev lm (M:Mo):Lm:=⟨M.xs,M.hs,M.ss,M.F,M.k,M.ds,M.ws⟩
structure gq (w:World) (M M':Mo):Prop where
 m:M'.m=M.m
 g:M'.g=M.g
 lg:M'.lg=M.lg
 ar:M'.ar=M.ar
 aQ:∀ x,aq M' x->aq M x\/w.heap.size<=x
theorem gq.refl (w:World) (M:Mo):gq w M M:=⟨rfl,rfl,rfl,rfl,fun _ h=>.inl h⟩
theorem gq.trans {w w':World} {M M' M'':Mo} (h:gq w M M') (h':gq w' M' M'') (hs:w.heap.size<=w'.heap.size):gq w M M'':=
 ⟨h'.m.trans h.m,h'.g.trans h.g,h'.lg.trans h.lg,h'.ar.trans h.ar,fun x hx=>by
  rcases h'.aQ x hx with q | q
  ·exact h.aQ x q
  ·exact .inr (Nat.le_trans hs q)⟩
def fW (ss:List Sl):Option Nat:=(List.range ss.length).find? fun i=> !(aj ss i).taken
theorem wU {ss:List Sl} {m:Nat}:fW ss=some m↔Least ss m:=by
 unfold fW Least
 rw [List.find?_range_eq_some]
 simp only [List.mem_range,Bool.not_eq_true',Bool.not_eq_eq_eq_not,Bool.not_true,Bool.not_false]
 constructor
 ·rintro ⟨a,b,c⟩
  exact ⟨b,a,c⟩
 ·rintro ⟨a,b,c⟩
  exact ⟨b,a,c⟩
theorem B8 {ss:List Sl}:fW ss=none↔∀ k,k<ss.length->(aj ss k).taken=true:=by
 unfold fW
 rw [List.find?_range_eq_none]
 simp
theorem Hk {S:Type} {rd:S->Bool} {st:S->S} {dn:S->Bool} (R:Nat->S->Prop) (Q:S->Prop)
 (h:∀ k s,R k s->rd s=true/\1<=k/\(dn s=true->Q (st s))/\(dn s=false->R (k-1) (st s))):
 ∀ K k s,R k s->k<=K->∃ n s',fin rd st dn K s=(n,true,s')/\n<=k/\Q s':=by
 intro K
 induction K with
 | zero=>
   intro k s hR hk
   have:=(h k s hR).2.1
   omega
 | succ K ih=>
   intro k s hR hk
   obtain ⟨h1,h2,h3,h4⟩:=h k s hR
   unfold fin
   rw [if_pos h1]
   cases hd:dn s with
   | true=>exact ⟨1,_,by simp,h2,h3 hd⟩
   | false=>
     obtain ⟨n,s',e,hn,hq⟩:=ih (k-1) (st s) (h4 hd) (by omega)
     exact ⟨n+1,s',by rw [if_neg (by simp),e],by omega,hq⟩
end Go.Proofs.YtpanebgakndddaaGreat.Pn
