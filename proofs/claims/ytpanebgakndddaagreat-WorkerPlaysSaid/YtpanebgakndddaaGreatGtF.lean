/- A part. -/
import Derived.Test.YtpanebgakndddaaGreatGetD
import Derived.Test.YtpanebgakndddaaGreatFrm
set_option linter.unusedVariables false
set_option linter.unusedSimpArgs false
namespace Go.Proofs.YtpanebgakndddaaGreat.Gt
open Go Go.RowKit Hp K Fl Rw Hm Ar Mm Me Qs Wk Pc Pn
set_option maxRecDepth 100000
abbrev QU:iG Ga Ge:=⟨Ga.f,dh,fun a _ x=>bC a x⟩
def lQ (L:Lm) (G:Ge):Lm×Ge:=({L with xs:=(dC L.ds L.ss (L.xs,L.F,G)).1,F:=(dC L.ds L.ss (L.xs,L.F,G)).2.1},(dC L.ds L.ss (L.xs,L.F,G)).2.2)
theorem tY:oR QU 177 283 284 (fun L G=>mD 1 L.ds L.ss L.xs G) (fun _ _=>true) lQ (fun _ G=>eI G) where
 below h hb:=h.only (ab.aA hb (fun _=>False)) (by simp)
 mr b:=Hz ⟨b,0,none⟩
 ms b:=HA ⟨b,0,none⟩
 er:=HC
 es:=HE
 ready {w M a p} hM h ok:=(pM _ _ w).mono fun e w' q=>⟨q.1,by rw [<-q.2]; exact Below.refl _ _⟩
 step {w M a p} hM h ok hr:=(Hx (r:=0) hM h ok).mono fun e w' q=>by
  obtain ⟨q1,a2,m2,aI,du,ae⟩:=q
  exact ⟨q1,_,a2,aI,rfl,⟨rfl,rfl,rfl,rfl,fun x h=>.inl h⟩,du,m2.1,m2.aB (w0:=w) (fun x hx=>.inl hx) (Nat.le_refl _),ae⟩
def Rg (E:Ev) (L0:Lm) (k:Nat) (s:Lm×Ge):Prop:=∃ n,Gv E n false (s.1.xs,s.1.F,s.2)/\5+E.L<=n+k/\s.1.hs=L0.hs/\s.1.ss=L0.ss/\s.1.k=L0.k/\s.1.ds=L0.ds/\s.1.ws=L0.ws
def Qg (E:Ev) (L0:Lm) (s:Lm×Ge):Prop:=s.1=L0/\Fits (lk E.q E.key) s.2.W
theorem Rg.step {E:Ev} {L0:Lm} {k:Nat} {s:Lm×Ge} (hE:E.Ok) (h0:E.ds=L0.ds/\E.ss=L0.ss/\E.xs=L0.xs/\E.F=L0.F) (h:Rg E L0 k s):mD 1 s.1.ds s.1.ss s.1.xs s.2/\1<=k/\(eI s.2=true->Qg E L0 (lQ s.1 s.2))/\(eI s.2=false->Rg E L0 (k-1) (lQ s.1 s.2)):=by
 obtain ⟨n,hv,hk,f1,f5,f2,f4,f3⟩:=h
 obtain ⟨e1,e2,e3,e4⟩:=h0
 have d1:s.1.ds=E.ds:=by rw [e1]; exact f4
 have d2:s.1.ss=E.ss:=by rw [e2]; exact f5
 have hle:=hv.le
 have eL:=hv.ok hE 1 (by omega)
 have hs:=hv.step hE
 have est:(lQ s.1 s.2).1.xs=(dC E.ds E.ss (s.1.xs,s.1.F,s.2)).1/\(lQ s.1 s.2).1.F=(dC E.ds E.ss (s.1.xs,s.1.F,s.2)).2.1/\(lQ s.1 s.2).2=(dC E.ds E.ss (s.1.xs,s.1.F,s.2)).2.2:=by
  unfold lQ
  rw [d1,d2]
  exact ⟨rfl,rfl,rfl⟩
 refine ⟨by rw [d1,d2]; exact eL,by omega,fun hd=>?_,fun hd=>?_⟩
 ·have fU:Gv E (n+1) true (dC E.ds E.ss (s.1.xs,s.1.F,s.2)):=by
   have:eI (s.1.xs,s.1.F,s.2).2.2=true:=hd
   rw [this] at hs
   exact hs
  obtain ⟨o1,o2,o3,o4,o5⟩:=fU.cK
  refine ⟨?_,by rw [est.2.2]; exact o2⟩
  obtain ⟨x1,x2,x3⟩:=est
  rw [o4,e3] at x1
  rw [o3,e4] at x2
  generalize hg:(lQ s.1 s.2).1=g at*
  have g1:g.hs=s.1.hs/\g.k=s.1.k/\g.ws=s.1.ws/\g.ds=s.1.ds/\g.ss=s.1.ss:=by rw [<-hg]; exact ⟨rfl,rfl,rfl,rfl,rfl⟩
  obtain ⟨g1,g2,g3,g4,g5⟩:=g1
  cases g
  cases L0
  simp only at*
  simp [*]
 ·have fU:Gv E (n+1) false (dC E.ds E.ss (s.1.xs,s.1.F,s.2)):=by
   have:eI (s.1.xs,s.1.F,s.2).2.2=false:=hd
   rw [this] at hs
   exact hs
  refine ⟨n+1,?_,by omega,?_⟩
  ·obtain ⟨x1,x2,x3⟩:=est
   rw [x1,x2,x3]
   exact fU
  ·exact ⟨f1,f5,f2,f4,f3⟩
end Go.Proofs.YtpanebgakndddaaGreat.Gt
