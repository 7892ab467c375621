/- A part. -/
import Derived.Test.YtpanebgakndddaaGreatRetMath
set_option linter.unusedVariables false
set_option linter.unusedSimpArgs false
namespace Go.Proofs.YtpanebgakndddaaGreat.Re
open Go Go.RowKit Hp K Fl Rw Hm Ar Mm Me Qs fk
set_option maxRecDepth 100000
theorem Oi (ss:List Sl):(∀ k,k<ss.length->(ai ss k).taken=true)\/∃ m,Least ss m:=by
 have:∀ n,n<=ss.length->(∀ k,k<n->(ai ss k).taken=true)\/∃ m,Least ss m:=by
  intro n
  induction n with
  | zero=>intro _; exact .inl (fun k hk=>by omega)
  | succ n ih=>
    intro hn
    rcases ih (by omega) with h | h
    ·by_cases ht:(ai ss n).taken=true
     ·refine .inl fun k hk=>?_
      by_cases e:k=n
      ·subst e; exact ht
      ·exact h k (by omega)
     ·exact .inr ⟨n,by omega,by simpa using ht,h⟩
    ·exact .inr h
 exact this _ (Nat.le_refl _)
section
variable {w w':World} {M:Mo} {D:Dr} {n:Nat}
theorem yu:(aO n M D).1.m=M.m/\(aO n M D).2.f=D.f/\(aO n M D).2.fw=D.fw/\(aO n M D).1.k=M.k/\(aO n M D).1.F=M.F:=by
 unfold aO
 split
 ·exact ⟨rfl,rfl,rfl,rfl,rfl⟩
 ·split<;>exact ⟨rfl,rfl,rfl,rfl,rfl⟩
theorem QI {x:Nat} (h:ao (aO n M D).1 x):ao M x:=by
 unfold aO at h
 split at h
 ·rcases h with q | q | q | q | q | q
  ·exact .inl q
  ·exact .inr (.inl q)
  ·exact .inr (.inr (.inl q))
  ·exact .inr (.inr (.inr (.inl q)))
  ·exact .inr (.inr (.inr (.inr (.inl q))))
  ·simp [In] at q
 ·split at h<;>exact h
theorem QJ (hM:ah w M) (dF:D.left≠[]->∀ y,In D.A y->¬ao M y) (aH:D.at_≠0->D.left≠[]):(aO n M D).2.left≠[]->∀ y,In (aO n M D).2.A y->¬ao (aO n M D).1 y:=by
 unfold aO
 split
 ·intro _ y hy hx
  have hy:In M.V y:=hy
  have ht:=b9 hM.2.2.2.2.2 hy
  rcases hx with q | q | q | q | q | q
  ·exact ht.apart (by subst q; exact aV hM.1) (by decide)
  ·exact ht.apart (sA hM.2.1 q) (by decide)
  ·exact ht.apart (qM hM.2.2.1 q) (by decide)
  ·exact ht.apart (sB hM.2.2.2.1 q) (by decide)
  ·exact ht.apart (b9 hM.2.2.2.2.1 q) (by decide)
  ·simp [In] at q
 ·rename_i h0
  split
  ·exact dF
  ·intro hl y hy
   exact dF (aH h0) y (CR.1 hy)
theorem QK (aH:D.at_≠0->D.left≠[]) (hl:(aO n M D).2.left≠[]) {y:Nat} (hy:In (aO n M D).2.A y):ao M y\/(D.left≠[]/\In D.A y):=by
 unfold aO at hy
 split at hy
 ·exact .inl (.inr (.inr (.inr (.inr (.inr hy)))))
 ·rename_i h0
  split at hy
  ·exact .inr ⟨aH h0,hy⟩
  ·exact .inr ⟨aH h0,CR.1 hy⟩
def yW (s:Mo×Dr):Bool:=decide (s.2.at_=2/\s.2.left.tail=[])
theorem Pd.ready {B:Nat} (h:Pd n M D B) (hM:ah w M) (hD:df w D):Calls Tryz.prog 36 #[ptr D.f,ptr M.m] w fun e w'=>e=.returned (.bool (fP M D))/\∃ n,w'=w.drewN n:=
 SI hM hD h.hl (fun q=>by
  have ok:=h.wt (by omega)
  have:=ok.at_
  have:=ok.bm
  have:=ok.xl
  have:=ok.n1
  exact ⟨by omega,fun q=>⟨by omega,by omega⟩⟩) (by have:=h.at_; omega)
end
/-! ### where nobody is in-/
structure Qd (n:Nat) (M:Mo) (D:Dr) (z:List Nat):Prop where
 zero:∀ i,i<n->Cl.nth M.xs (2+i)=0
 lock:D.at_=0\/(D.at_=1/\D.W.at_=0)\/D.at_=2->Lo.aE M.hs 0= -1
 SS:D.at_=0->M.ws≠[]/\z=[]
 Io:D.at_≠0->M.ws=z
def gP (n:Nat) (M:Mo) (D:Dr):Nat:=if D.at_=0 then M.ws.length+(n+4)-0 else if D.at_=1 then rem n D.W+D.left.length else D.left.length
theorem SU (n:Nat) (W:Wt):0<rem n W:=by unfold rem; split; omega; split; omega; split<;>omega
theorem Qd.run {n:Nat} {M:Mo} {D:Dr} {B:Nat} {z:List Nat} (h:Pd n M D B) (q:Qd n M D z):
 fP M D=true/\0<gP n M D/\(yW (M,D)=true↔gP n M D=1)/\(¬(D.at_=2/\D.left.tail=[])->Qd n (aO n M D).1 (aO n M D).2 z/\gP n (aO n M D).1 (aO n M D).2+1=gP n M D):=by
 have bO:=h.at_
 by_cases h0:D.at_=0
 ·obtain ⟨iR,hz⟩:=q.SS h0
  have hp:0<M.ws.length:=List.length_pos_iff.2 iR
  have e:aO n M D=({M with V:=none,capV:=0,ws:=[]},{D with A:=M.V,cap:=M.capV,left:=M.ws,at_:=1}):=by unfold aO; rw [if_pos h0]
  refine ⟨by simpa [fP,h0] using hp,by simp [gP,h0]; omega,by simp [yW,gP,h0]; omega,fun _=>?_⟩
  rw [e]
  refine ⟨⟨q.zero,fun _=>q.lock (.inl h0),fun q=>by simp at q,fun _=>hz.symm⟩,?_⟩
  have hr:rem n D.W=n+3:=by simp [rem,(h.zero h0).2]
  simp [gP,h0,hr]
  omega
 by_cases h1:D.at_=1
 ·have ok:=h.wt (by omega)
  have VI:0<D.left.length:=List.length_pos_iff.2 (h.some h0)
  have XD:=SU n D.W
  have eD:fQ M.xs M.hs D.W=true:=by
   unfold fQ
   by_cases g0:D.W.at_=0
   ·rw [if_pos g0]
    have:=q.lock (.inr (.inl ⟨h1,g0⟩))
    have:=ok.wk
    simp [pH, *]
   rw [if_neg g0]
   by_cases g2:D.W.at_=2
   ·rw [if_pos g2]
    have:=q.zero D.W.bm (ok.bm.2 (by omega))
    simp [oK,this]
   ·rw [if_neg g2]
  have e:aO n M D=({M with xs:=(aI n M.xs M.hs D.W).1,hs:=(aI n M.xs M.hs D.W).2.1},{D with W:=(aI n M.xs M.hs D.W).2.2,at_:=if D.W.at_=3 then 2 else 1}):=by unfold aO; rw [if_neg h0,if_pos h1]
  have lT:0<M.xs.length:=by have:=ok.xl; omega
  refine ⟨by simpa [fP,h1] using eD,by simp [gP,h1]; omega,by simp [yW,gP,h1]; omega,fun _=>?_⟩
  rw [e]
  have dU:=ok.at_
  have cT:=q.Io h0
  have cF:=ok.bm
  by_cases g0:D.W.at_=0
  ·have e':aI n M.xs M.hs D.W=(M.xs,M.hs.set 0 D.W.worker,{D.W with at_:=1}):=by unfold aI; rw [if_pos g0]
   rw [e',if_neg (show ¬D.W.at_=3 by omega)]
   refine ⟨⟨q.zero,fun r=>?_,fun r=>by simp at r,fun _=>cT⟩,?_⟩
   ·rcases r with r | r | r
    ·simp at r
    ·exact absurd r.2 (by simp)
    ·simp at r
   ·simp [gP,h1,rem,g0]; omega
  by_cases g1:D.W.at_=1
  ·have e':aI n M.xs M.hs D.W=(M.xs.set 0 (Cl.fp (Cl.nth M.xs 0) 1),M.hs,{D.W with period:=Cl.fp (Cl.nth M.xs 0) 1,at_:=2}):=by unfold aI; rw [if_neg g0,if_pos g1]
   rw [e',if_neg (show ¬D.W.at_=3 by omega)]
   refine ⟨⟨fun i hi=>?_,fun r=>?_,fun r=>by simp at r,fun _=>cT⟩,?_⟩
   ·show Cl.nth (M.xs.set 0 _) (2+i)=0
    rw [SV lT,if_neg (by omega)]; exact q.zero i hi
   ·rcases r with r | r | r
    ·simp at r
    ·exact absurd r.2 (by simp)
    ·simp at r
   ·have:=h.vB (by omega) (by omega)
    simp [gP,h1,rem,g1,this]; omega
  by_cases g2:D.W.at_=2
  ·have bn:=cF.2 (by omega)
   have e':aI n M.xs M.hs D.W=(M.xs,M.hs,{D.W with bm:=D.W.bm+1,at_:=if n<=D.W.bm+1 then 3 else 2}):=by unfold aI; rw [if_neg g0,if_neg g1,if_pos g2]
   rw [e',if_neg (show ¬D.W.at_=3 by omega)]
   refine ⟨⟨q.zero,fun r=>?_,fun r=>by simp at r,fun _=>cT⟩,?_⟩
   ·rcases r with r | r | r
    ·simp at r
    ·have r2:(if n<=D.W.bm+1 then 3 else 2)=0:=r.2
     split at r2<;>omega
    ·simp at r
   ·by_cases hc:n<=D.W.bm+1
    ·simp [gP,h1,rem,g2,hc]; omega
    ·simp [gP,h1,rem,g2,hc]; omega
  ·have g3:D.W.at_=3:=by omega
   have e':aI n M.xs M.hs D.W=(M.xs,M.hs.set 0 (-1),{D.W with at_:=4}):=by unfold aI; rw [if_neg g0,if_neg g1,if_neg g2]
   rw [e',if_pos g3]
   refine ⟨⟨q.zero,fun _=>qO h.hl _,fun r=>by simp at r,fun _=>cT⟩,?_⟩
   simp [gP,h1,rem,g3]; omega
 ·have h2:D.at_=2:=by omega
  obtain ⟨x,r,hl⟩:∃ x r,D.left=x::r:=by
   cases hh:D.left with
   | nil=>exact absurd hh (h.some h0)
   | cons x r=>exact ⟨x,r,rfl⟩
  refine ⟨by simp [fP,h2],by simp [gP,h2,hl],by simp [yW,gP,h2,hl],fun hd=>?_⟩
  have lU:r≠[]:=fun q=>hd ⟨h2,by rw [hl]; exact q⟩
  have e:aO n M D=({M with ss:=ik M.ss (place x)},{D with A:=gT D.A D.cap,cap:=D.cap-1,left:=r,at_:=2}):=by
   unfold aO; rw [if_neg h0,if_neg h1,hl]; simp [lU]
  rw [e]
  exact ⟨⟨q.zero,fun _=>q.lock (.inr (.inr h2)),fun r=>by simp at r,fun _=>q.Io h0⟩,by simp [gP,h2,hl]⟩
end Go.Proofs.YtpanebgakndddaaGreat.Re
