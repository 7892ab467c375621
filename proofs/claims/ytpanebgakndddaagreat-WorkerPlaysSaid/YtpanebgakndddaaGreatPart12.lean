/- Walks and plain mathematics, put together in their order: ClS, One, ThE, FoA, LocksHeld, FnC, AwC, CpA, AnA, WkP, CopyN, WkA, WkB, WkC. -/
import Derived.Test.YtpanebgakndddaaGreatPart11
import Derived.Test.YtpanebgakndddaaGreatFinishN
import Derived.Test.YtpanebgakndddaaGreatLocksWalk
import Derived.Test.YtpanebgakndddaaGreatRowKit
import Derived.Deep.DeepCutAuto
import Derived.Deep.CutBlock
import Derived.Laws.Cover1
import Derived.Test.YtpanebgakndddaaGreatHeap
import Derived.Laws.CopyOwn
import Derived.Deep.RegionHeld3
set_option linter.unusedVariables false
set_option linter.unusedSimpArgs false
namespace Go.Proofs.YtpanebgakndddaaGreat.Ca
open Go Go.RowKit Hp K Fl Rw Hm Ar Mm Me LK Qs Wk Re fp Pc Pn Mq Pu Zp Mx cJ Bs Dl Zr gj gm kC
section
variable {W0 w w':World} {M:Mo} {A:Option Addr} {cap:Nat} {l lr:List Pr} {n B G t:Nat} {cs:Nat->List Mq.Hp} {c:Ct} {i:Nat} {a:Cp} {C:Cl}
theorem tX {s:Lm×Cl} (h:eh W0 w M A cap lr) (hP:cE.At w a C) (fR:∀ x,cE.aQ a C x->W0.heap.size<=x) (hI:cE.Inv M a C w s w'):∃ M' a',eh W0 w' M' A cap lr/\M'.m=M.m/\lm M'=s.1/\cE.At w' a' s.2/\cE.f a'=cE.f a/\ab (fun x=>aq M x\/cE.aQ a C x) w w':=by
 obtain ⟨M',a',r1,r2,r3,r4,r5,r7,r8⟩:=hI
 refine ⟨M',a',h.iW r1 r3.aQ r8 (fun x q=>?_) (fun x hx q=>?_),r3.m,r2,r4,r5,r8⟩
 ·rcases q with q | q
  ·exact h.pF x q
  ·exact fR x q
 ·rcases q with q | q
  ·exact h.BT hx q
  ·exact NB hP q (cw h.row hx)
def NC (W0 w':World) (M:Mo) (A:Option Addr) (cap:Nat) (lr l:List Pr) (G t:Nat) (c:Ct) (a:Cp):Prop:=
 ∃ (M':Mo) (a':Cp) (C':Cl) (n' B' G':Nat) (cs':Nat->List Mq.Hp),eh W0 w' M' A cap lr/\M'.m=M.m/\cE.At w' a' C'/\cE.f a'=cE.f a/\C'.done=true/\bU C'=0/\M'.ss.length=M.ss.length/\M'.k=M.k/\jS (lm M') (t+1)/\n'<=256/\G'<=G+1/\
   ((cU c=0/\c.kind=1/\fW M.ss=none/\da C'=(4,false,⟨#[]⟩)/\Mp (lm M') n' B' cs' l G')\/(¬(cU c=0/\c.kind=1/\fW M.ss=none)/\da C'=dg l c/\∀ l',dz l l' c->Mp (lm M') n' B' cs' l' G'))
theorem ND (h:eh W0 w M A cap lr) (hm:Mp (lm M) n B cs l G) (hG:G<=900000) (hl:l.length<=30) (eW:jS (lm M) t) (ht:t<=200) (jw:n<=256) (lF:c.size<=256\/65536<c.size) (hi:(i:Int)<M.k) (hC:iV i c C) (hP:cE.At w a C) (fR:∀ x,cE.aQ a C x->W0.heap.size<=x):
 Calls Tryz.prog 58 #[ptr M.m,.iface 75 (ptr (cE.f a)),.int .i64 30000] w fun e w'=>((∃ k:Nat,e=.returned (.tuple #[.int .i64 k,.bool true]))/\ab (fun x=>aq M x\/cE.aQ a C x) w w')/\NC W0 w' M A cap lr l G t c a:=by
 have D9:1<=M.k/\M.k<=8:=hm.k
 have mN:0<=(i:Int)/\(i:Int)<=1000:=by omega
 have qg:jS (lm M) (t+1):=by obtain ⟨u1,u2,u3,u4⟩:=eW; exact ⟨by omega,by omega,u3,by omega⟩
 have eu:2+M.k<=B:=hm.kB
 have hlen:M.ss.length<=1024:=hm.small.2
 have kN:∀ b,b<n->(cs b).length<=1024:=fun b hb=>by have:=(Mp.vP hm).1 b hb; have e:(lm M).ss.length=M.ss.length:=rfl; omega
 obtain ⟨c1,c2,c3,c4⟩:=hC
 by_cases h0:cU c=0
 case neg=>
  have cC:=c3 h0
  have eC:C=⟨.ref,cU c,false⟩:=by cases C; simp only at c1 c2 cC; rw [c1,c2,cC]
  subst eC
  refine (ni qO h.mem hP (fun k s=>k=1/\s=(lm M,(⟨.ref,cU c,false⟩:Cl))) (fun s=>s=(lm M,(⟨.ref,cU c,true⟩:Cl))) (fun k s hs=>by
   obtain ⟨rfl,rfl⟩:=hs
   exact ⟨trivial,rfl,Nat.le_refl _,fun _=>rfl,fun q=>by simp [dI] at q⟩) 1 30000 ⟨rfl,rfl⟩ (by omega) (by omega)).mono fun e w' q=>?_
  obtain ⟨k,s,q1,_,q4,hI⟩:=q
  obtain ⟨M',a',g1,g2,g3,g4,g5,g6⟩:=tX h hP fR hI
  rw [q4] at g3 g4
  have e1:M'.ss=M.ss:=congrArg Lm.ss g3
  have e2:M'.k=M.k:=congrArg Lm.k g3
  refine ⟨⟨⟨k,q1⟩,g6⟩,M',a',_,n,B,G,cs,g1,g2,g4,g5,rfl,rfl,by rw [e1],e2,by rw [g3]; exact qg,jw,by omega,.inr ⟨fun q=>h0 q.1,?_,fun l' cS=>?_⟩⟩
  ·unfold dg; rw [if_pos h0]; rfl
  ·unfold dz at cS
   rw [if_neg (fun q=>h0 q.1),if_neg (fun q=>h0 q.1)] at cS
   rw [cS,g3]; exact hm
 obtain ⟨k0,k1,k2,k3⟩:=c4 h0
 have sV:c.kind=0\/c.kind=1\/c.kind=2\/c.kind=3:=by
  unfold cU at h0
  split at h0
  ·omega
  ·omega
 rcases sV with hk | hk | hk | hk
 ·
  have cC:=k0 hk
  have eC:C=⟨.get (Gt.nc i c.key),0,false⟩:=by cases C; simp only at c1 c2 cC; rw [c1,c2,cC,h0]
  subst eC
  obtain ⟨hE,b9⟩:=NF hm c.key hi
  have hq:=kN (ai c.key n) (dJ hm.pw c.key).1
  refine (ni qO h.mem hP (fun k s=>∃ P d,s.2=(⟨.get P,0,d⟩:Cl)/\Gt.Rg ⟨M.ds,M.ss,M.xs,M.F,c.key,i,bs (cs (ai c.key n)),(cs (ai c.key n)).length⟩ (lm M) k (s.1,P)) (fun s=>∃ P,s.2=(⟨.get P,0,true⟩:Cl)/\Gt.Qg ⟨M.ds,M.ss,M.xs,M.F,c.key,i,bs (cs (ai c.key n)),(cs (ai c.key n)).length⟩ (lm M) (s.1,P))
   (GC (fun k s hs=>Gt.Rg.step hE ⟨rfl,rfl,rfl,rfl⟩ hs) 0) (5+(cs (ai c.key n)).length) 30000 ⟨_,_,rfl,0,Gt.Gv.begin hE,by simp only; omega,rfl,rfl,rfl,rfl,rfl⟩ (by omega) (by omega)).mono fun e w' q=>?_
  obtain ⟨k,s,q1,_,⟨P,q4,q5,q6⟩,hI⟩:=q
  obtain ⟨M',a',g1,g2,g3,g4,g5,g6⟩:=tX h hP fR hI
  have g3:lm M'=lm M:=g3.trans q5
  rw [q4] at g4
  have e1:M'.ss=M.ss:=congrArg Lm.ss g3
  have e2:M'.k=M.k:=congrArg Lm.k g3
  have q6:Gt.Fits (Pc.lk (bs (cs (ai c.key n))) c.key) P.W:=q6
  rw [b9] at q6
  refine ⟨⟨⟨k,q1⟩,g6⟩,M',a',_,n,B,G,cs,g1,g2,g4,g5,rfl,rfl,by rw [e1],e2,by rw [g3]; exact qg,jw,by omega,.inr ⟨fun q=>by omega,?_,fun l' cS=>?_⟩⟩
  ·unfold dg
   rw [if_neg (by omega),if_pos hk]
   show ((0:Int),decide (P.W.found≠0),P.W.nd.val)=_
   rw [q6.1,q6.2]
  ·unfold dz at cS
   rw [if_neg (fun q=>by omega),if_neg (fun q=>by omega)] at cS
   rw [cS,g3]; exact hm
 ·
  obtain ⟨hh,cC⟩:=k1 hk
  have eC:C=⟨.put (Pu.jU hh i c.key c.val),0,false⟩:=by cases C; simp only at c1 c2 cC; rw [c1,c2,cC,h0]
  subst eC
  have hE:=hm.si (key:=c.key) (val:=c.val) (i:=i) (hb:=hh) (by omega) mN
  have hq:=kN (ai c.key n) (dJ hm.pw c.key).1
  refine (ni qO h.mem hP (fun k s=>∃ P d,s.2=(⟨.put P,0,d⟩:Cl)/\Rq (Mp.ep (lm M) n B cs c.key c.val i hh) k (s.1,P)) (fun s=>∃ P,s.2=(⟨.put P,0,true⟩:Cl)/\Qp (Mp.ep (lm M) n B cs c.key c.val i hh) (s.1,P))
   (GA (fun k s hs=>by
     obtain ⟨j,hj,hr⟩:=hs
     obtain ⟨h1,h2,h3,h4⟩:=hr.step hE
     refine ⟨hr.ok hE,h1,by omega,h3,fun hd=>?_⟩
     obtain ⟨j',te,oh⟩:=h4 hd
     exact ⟨j',by omega,oh⟩) 0) (8+(cs (ai c.key n)).length) 30000 ⟨_,_,rfl,(Rp.s (E:=Mp.ep (lm M) n B cs c.key c.val i hh) (4+(cs (ai c.key n)).length) _ _ .a1).q (by omega)⟩ (by omega) (by omega)).mono fun e w' q=>?_
  obtain ⟨k,s,q1,_,⟨P,q4,q5⟩,hI⟩:=q
  obtain ⟨M',a',g1,g2,g3,g4,g5,g6⟩:=tX h hP fR hI
  obtain ⟨m1,m2,m3⟩:=BR hm (by omega) mN q5
  have rk:=GK (by show B+ai c.key n≠0; omega) q5
  have rk:Cz (lm M) s.1:=rk
  rw [q4] at g4
  rw [<-g3] at rk
  simp only at m1 m2 m3
  rcases m3 with ⟨p1,p2,p3⟩ | ⟨p1,p2,p3,p4,p5,cs',p6⟩
  ·have g3:lm M'=lm M:=g3.trans p2
   have e1:M'.ss=M.ss:=congrArg Lm.ss g3
   have e2:M'.k=M.k:=congrArg Lm.k g3
   refine ⟨⟨⟨k,q1⟩,g6⟩,M',a',_,n,B,G,cs,g1,g2,g4,g5,rfl,m2,by rw [e1],e2,by rw [g3]; exact qg,jw,by omega,.inl ⟨h0,hk,p1,?_,by rw [g3]; exact hm⟩⟩
   show (if P.err=0 then ((0:Int),decide (P.W.found≠0),(⟨#[]⟩:ByteArray)) else (P.err,false,⟨#[]⟩))=_
   rw [p3,if_neg (by omega)]
  ·have e1:M'.ss=s.1.ss:=by rw [<-g3]
   have e2:M'.k=s.1.k:=by rw [<-g3]
   refine ⟨⟨⟨k,q1⟩,g6⟩,M',a',_,n,B,G+1,cs',g1,g2,g4,g5,rfl,m2,by rw [e1]; exact p4,by rw [e2]; exact p5,yZ eW rk,jw,by omega,.inr ⟨fun q=>?_,?_,fun l' cS=>?_⟩⟩
   ·have q3:fW (lm M).ss=none:=q.2.2
    rw [q3] at p1
    simp at p1
   ·unfold dg
    rw [if_neg (by omega),if_neg (by omega),if_pos hk]
    show (if P.err=0 then ((0:Int),decide (P.W.found≠0),(⟨#[]⟩:ByteArray)) else (P.err,false,⟨#[]⟩))=_
    rw [if_pos p2,m1]
   ·unfold dz at cS
    rw [if_pos ⟨h0,hk⟩] at cS
    rw [g3]
    exact p6 l' (GL hm.ln cS)
 ·
  obtain ⟨hh,cC⟩:=k2 hk
  have eC:C=⟨.del (Dl.kD hh i c.key),0,false⟩:=by cases C; simp only at c1 c2 cC; rw [c1,c2,cC,h0]
  subst eC
  have hE:=hm.si (key:=c.key) (val:=⟨#[]⟩) (i:=i) (hb:=hh) (by omega) mN
  have hq:=kN (ai c.key n) (dJ hm.pw c.key).1
  refine (ni qO h.mem hP (fun k s=>∃ P d,s.2=(⟨.del P,0,d⟩:Cl)/\Dl.tV (Mp.ep (lm M) n B cs c.key ⟨#[]⟩ i hh) k (s.1,P)) (fun s=>∃ P,s.2=(⟨.del P,0,true⟩:Cl)/\Dl.Qd (Mp.ep (lm M) n B cs c.key ⟨#[]⟩ i hh) (s.1,P))
   (GB (fun k s hs=>by
     obtain ⟨j,hj,hr⟩:=hs
     obtain ⟨h1,h2,h3,h4⟩:=Dl.Rd.step hE hr
     refine ⟨Dl.Rd.ok hE hr,h1,by omega,h3,fun hd=>?_⟩
     obtain ⟨j',te,oh⟩:=h4 hd
     exact ⟨j',by omega,oh⟩) 0) (7+(cs (ai c.key n)).length) 30000 ⟨_,_,rfl,(Dl.Rd.s (E:=Mp.ep (lm M) n B cs c.key ⟨#[]⟩ i hh) (4+(cs (ai c.key n)).length) _ _ .a1).q (by omega)⟩ (by omega) (by omega)).mono fun e w' q=>?_
  obtain ⟨k,s,q1,_,⟨P,q4,W,hf,hz,q5⟩,hI⟩:=q
  obtain ⟨M',a',g1,g2,g3,g4,g5,g6⟩:=tX h hP fR hI
  obtain ⟨m1,m2,m3,cs',m4⟩:=BS hm hf
  injection q5 with q5 q6
  have hd:lm M'=gQ (lm M) (B+ai c.key n) W:=g3.trans q5
  have b9:=tW hm hf
  have tg:=yY hm hf hz
  rw [q4] at g4
  have q6:P=Dl.Ep.t (Mp.ep (lm M) n B cs c.key ⟨#[]⟩ i hh) 7 {Ep.H (Mp.ep (lm M) n B cs c.key ⟨#[]⟩ i hh) with holds:=false} W 0:=q6
  have e1:M'.ss=(lm M').ss:=rfl
  have e2:M'.k=(lm M').k:=rfl
  refine ⟨⟨⟨k,q1⟩,g6⟩,M',a',_,n,B,G,cs',g1,g2,g4,g5,rfl,by rw [q6]; rfl,by rw [e1,hd,m2],by rw [e2,hd,m3],yZ eW (by rw [hd]; exact GM (by omega)),jw,by omega,.inr ⟨fun q=>by omega,?_,fun l' cS=>?_⟩⟩
  ·unfold dg
   rw [if_neg (by omega),if_neg (by omega),if_neg (by omega),if_pos hk]
   show ((0:Int),decide (P.W.found≠0),P.W.nd.val)=_
   rw [q6]
   show ((0:Int),decide (W.found≠0),W.nd.val)=_
   rw [b9,tg]
  ·unfold dz at cS
   rw [if_neg (fun q=>by omega),if_pos ⟨h0,hk⟩] at cS
   rw [hd]
   exact m4 l' (GN hm.ln cS)
 ·
  have cC:=k3 hk
  have eC:C=⟨.rz (Zr.bX i c.size),0,false⟩:=by cases C; simp only at c1 c2 cC; rw [c1,c2,cC,h0]
  subst eC
  cases hp:FM.bl c.size with
  | false=>
    refine (ni qO h.mem hP (fun k s=>∃ P d,s.2=(⟨.rz P,0,d⟩:Cl)/\k=1/\(s.1,P)=(lm M,Zr.bX i c.size)) (fun s=>∃ P,s.2=(⟨.rz P,0,true⟩:Cl)/\(s.1,P)=(lm M,{Zr.bX i c.size with err:=5,nx:=12}))
     (yX (R:=fun k s=>k=1/\s=(lm M,Zr.bX i c.size)) (Q:=fun s=>s=(lm M,{Zr.bX i c.size with err:=5,nx:=12})) (fun k s hs=>GI hm hp k s hs) 0) 1 30000 ⟨_,_,rfl,rfl,rfl⟩ (by omega) (by omega)).mono fun e w' q=>?_
    obtain ⟨k,s,q1,_,⟨P,q4,q5⟩,hI⟩:=q
    obtain ⟨M',a',g1,g2,g3,g4,g5,g6⟩:=tX h hP fR hI
    injection q5 with q5 q6
    have g3:lm M'=lm M:=g3.trans q5
    rw [q4] at g4
    have e1:M'.ss=M.ss:=congrArg Lm.ss g3
    have e2:M'.k=M.k:=congrArg Lm.k g3
    refine ⟨⟨⟨k,q1⟩,g6⟩,M',a',_,n,B,G,cs,g1,g2,g4,g5,rfl,rfl,by rw [e1],e2,by rw [g3]; exact qg,jw,by omega,.inr ⟨fun q=>by omega,?_,fun l' cS=>?_⟩⟩
    ·unfold dg
     rw [if_neg (by omega),if_neg (by omega),if_neg (by omega),if_neg (by omega),if_neg (by rw [hp]; simp)]
     show (P.err,false,(⟨#[]⟩:ByteArray))=_
     rw [q6]
    ·unfold dz at cS
     rw [if_neg (fun q=>by omega),if_neg (fun q=>by omega)] at cS
     rw [cS,g3]; exact hm
  | true=>
    have cA:=FM.eG hp
    obtain ⟨z,hz⟩:=Int.eq_ofNat_of_zero_le (show 0<=c.size by omega)
    have Av:z<=256:=by omega
    rw [hz] at hp hP fR
    obtain ⟨cc,x,tt,ca,hw,hc,hx,xF,tc⟩:=NG l.length n z hl hm.pw hp jw Av
    have lH:=GD hm (by omega) hl eW ht hp hw hc hx xF tc mN
    refine (ni qO h.mem hP (fun k s=>∃ P d,s.2=(⟨.rz P,0,d⟩:Cl)/\Lone (lm M) (bK n cs) ⟨10+512*(t+1),1+8*(t+1),1+20000*((t:Int)+1)⟩ z l k (s.1,P)) (fun s=>∃ P,s.2=(⟨.rz P,0,true⟩:Cl)/\Qr (lm M) (bK n cs) ⟨10+512*(t+1),1+8*(t+1),1+20000*((t:Int)+1)⟩ z l s.1 P/\∀ i:Nat,(i:Int)<s.1.k->Cl.nth s.1.xs (2+i)=0)
     (yX (R:=Lone (lm M) (bK n cs) ⟨10+512*(t+1),1+8*(t+1),1+20000*((t:Int)+1)⟩ z l) (Q:=fun s=>Qr (lm M) (bK n cs) ⟨10+512*(t+1),1+8*(t+1),1+20000*((t:Int)+1)⟩ z l s.1 s.2/\∀ i:Nat,(i:Int)<s.1.k->Cl.nth s.1.xs (2+i)=0) (fun k s hs=>hs.step) 0) (cc+10) 30000 ⟨_,_,rfl,lH⟩ (by omega) (by omega)).mono fun e w' q=>?_
    obtain ⟨k,s,q1,_,⟨P,q4,q5,q6⟩,hI⟩:=q
    obtain ⟨M',a',g1,g2,g3,g4,g5,g6⟩:=tX h hP fR hI
    obtain ⟨p1,⟨B',cs',p2⟩,p3,p4,p5,p6⟩:=GG hm q5 q6
    rw [q4] at g4
    rw [<-g3] at p2 p3 p4 p6
    refine ⟨⟨⟨k,q1⟩,by rw [hz]; exact g6⟩,M',a',_,z,B',G,cs',g1,g2,g4,g5,rfl,rfl,p3,p4,p6,Av,by omega,.inr ⟨fun q=>by omega,?_,fun l' cS=>?_⟩⟩
    ·unfold dg
     rw [if_neg (by omega),if_neg (by omega),if_neg (by omega),if_neg (by omega),hz,if_pos hp]
     show (P.err,false,(⟨#[]⟩:ByteArray))=_
     rw [p1]
    ·unfold dz at cS
     rw [if_neg (fun q=>by omega),if_neg (fun q=>by omega)] at cS
     rw [cS]; exact p2
end
end Go.Proofs.YtpanebgakndddaaGreat.Ca
namespace Go.Proofs.YtpanebgakndddaaGreat.Ca
open Go Go.RowKit Hp K Fl Rw Hm Ar Mm Me LK Qs Wk Re fp Pc Pn Mq Pu Zp Mx cJ Bs Dl Zr gj gm kC
set_option maxRecDepth 100000
theorem Su {i:Nat} {c:Ct} {C:Cl} (h:iV i c C):C.done=false/\da C=(0,false,⟨#[]⟩):=⟨h.1,by unfold da; rw [h.1]; rfl⟩
def I0 (W0 w':World) (M:Mo) (A:Option Addr) (cap:Nat) (lr l:List Pr) (G t:Nat) (c:Ct) (x:Int×Bool×ByteArray):Prop:=
 ∃ (M':Mo) (n' B' G':Nat) (cs':Nat->List Mq.Hp),eh W0 w' M' A cap lr/\M'.m=M.m/\M'.ss.length=M.ss.length/\M'.k=M.k/\jS (lm M') (t+1)/\n'<=256/\G'<=G+1/\
   ((cU c=0/\c.kind=1/\fW M.ss=none/\x=(4,false,⟨#[]⟩)/\Mp (lm M') n' B' cs' l G')\/(¬(cU c=0/\c.kind=1/\fW M.ss=none)/\x=dg l c/\∀ l',dz l l' c->Mp (lm M') n' B' cs' l' G'))
set_option maxHeartbeats 4000000 in
theorem F6 {W0 w:World} {M:Mo} {A:Option Addr} {cap:Nat} {l lr:List Pr} {n B G t:Nat} {cs:Nat->List Mq.Hp} {c:Ct} {i:Nat} (h:eh W0 w M A cap lr) (hm:Mp (lm M) n B cs l G) (hG:G<=900000) (hl:l.length<=30) (eW:jS (lm M) t) (ht:t<=200) (jw:n<=256) (lF:c.size<=256\/65536<c.size) (hi:(i:Int)<M.k) (hk:c.key.size<=maxLen):
 Calls Tryz.prog 39 #[ptr M.m,.int .i64 i,iU c] w fun e w'=>∃ x,e=.returned (.tuple #[qH x,.bool true])/\I0 W0 w' M A cap lr l G t c x/\ab (aq M) w w':=by
 obtain ⟨w1,aJ⟩:∃ w1,w1=w.alloc (.cells #[.int .i64 c.kind,.string c.key,.string c.val,.int .i64 c.size] 31):=⟨_,rfl⟩
 obtain ⟨w2,aT⟩:∃ w2,w2=w1.alloc (.cells #[.int .i64 0,.bool false,.string ⟨#[]⟩] 44):=⟨_,rfl⟩
 have b1:af w1 w.heap.size 31 #[.int .i64 c.kind,.string c.key,.string c.val,.int .i64 c.size]:=by rw [aJ]; exact af.made w _ _
 have d1:Below w.heap.size w w1:=by rw [aJ]; exact below_1 _ _
 have b2:af w2 w1.heap.size 44 #[.int .i64 0,.bool false,.string ⟨#[]⟩]:=by rw [aT]; exact af.made w1 _ _
 have d2:Below w1.heap.size w1 w2:=by rw [aT]; exact below_1 _ _
 have b12:=b1.only (ab.aA d2 (fun _=>False)) (by simp)
 have uV:w.heap.size<=w1.heap.size:=d1.size
 have hd:=d1.trans (d2.mono d1.size)
 obtain ⟨p,hp⟩:∃ p,p=w.heap.size:=⟨_,rfl⟩
 have lI:w1.heap.size=w.heap.size+1:=by rw [aJ]; exact Array.size_push _
 obtain ⟨q,lE⟩:∃ q,q=w1.heap.size:=⟨_,rfl⟩
 have hq:q=p+1:=by omega
 rw [<-hp] at b12
 rw [<-lE] at b2
 have p0:=b12.cell 0
 have p1:=b12.cell 1
 have p2:=b12.cell 2
 have p3:=b12.cell 3
 simp at p0 p1 p2 p3
 have lp:=b12.lt
 have S2:=h.down hd
 have jQ:=Lib.hid S2.below.size
 have yB:=Lib.hid hd
 have dN:w.heap.size<=q:=by omega
 have HM:=Lib.hid S2.mem
 have W8:W0.heap.size<=q:=by have:=h.below.size; omega
 have eM:=Lib.hid (fun w=>GV i c hk w)
 have AO:=Lib.hid (fun w3 a C (hb:Below w2.heap.size w2 w3) (hI:iV i c C) (hP:cE.At w3 a C) (bp:∀ x,cE.aQ a C x->w2.heap.size<=x)=>ND (S2.down hb) hm hG hl eW ht jw lF hi hI hP (fun x hx=>Nat.le_trans S2.below.size (bp x hx)))
 replace b2:=Lib.hid b2
 unfold iU
 unfold iU at eM
 clear h hm eW hd S2 b1 d1 d2 b12 uV hk lF
 go_enter Tryz.func39,Tryz.ntmps39
 go_upto_region 1 with (fail)
 rw [<-aJ,<-aT,<-hp,<-hq]
 clear aJ aT hp hq lE lI
 go_wp2_with fail
 refine (eM.out _).mono ?_
 rintro e w3 ⟨a,C,rfl,hI,hP,bp,aR⟩
 have fL:=Lib.hid (fun w4 (hb:Below w3.heap.size w3 w4)=>AO.out w4 a C (aR.trans (hb.mono aR.size)) hI (qO.below hP hb) bp)
 obtain ⟨i1,i2⟩:=Su hI
 have hR:=BN hP
 rw [i1,i2] at hR
 have W9:=b2.out.only (ab.aA aR (fun _=>False)) (by simp)
 replace hR:=Lib.hid hR
 go_wp2_with fail
 refine hR.out.mono ?_
 rintro e w4 ⟨rfl,jM⟩
 go_wp2_with fail
 have jj:Below w3.heap.size w3 (w4.alloc (.cells #[.int .i64 0,.bool false,.string ⟨#[]⟩] 44)):=jM.alloc jM.size _
 have Lq:=fL.out _ jj
 have E0:=b2.out.only (ab.aA (aR.trans (jj.mono aR.size)) (fun _=>False)) (by simp)
 generalize w4.alloc (.cells #[.int .i64 0,.bool false,.string ⟨#[]⟩] 44)=w5 at*
 refine Lq.mono ?_
 rintro e w6 ⟨⟨⟨k,rfl⟩,hO⟩,M',a',C',n',B',G',cs',s1,s2,s3,s4,s5,s6,s7,s8,s9,s10,s11,s12⟩
 have pa:q<w2.heap.size:=b2.out.lt
 have E1:=E0.only hO (fun g=>by
  rcases g with g | g
  ·exact (HM.out.below (aR.trans (jj.mono aR.size))).ty g |>.apart (bm E0) (by decide)
  ·have:=bp q g; omega)
 have Xa:ab (aq M) w w6:=(ab.aA (yB.out.trans ((aR.trans (jj.mono aR.size)).mono yB.out.size)) (aq M)).trans' hO (fun x hx g=>g.elim id (fun g=>by have:=bp x g; have:=yB.out.size; omega))
 have yC:=tT s3
 rw [s6,s4] at yC
 have ve:=Lib.hid (fun wx (hb:Below w6.heap.size w6 wx)=>by
  have:=BN (qO.below s3 hb)
  rw [s4,s5] at this
  exact this)
 have iO:=Lib.hid (fun wx (hb:Below w6.heap.size w6 wx) u1 u2 u3=>show I0 W0 (((wx.setCell ⟨q,0,none⟩ u1).setCell ⟨q,1,none⟩ u2).setCell ⟨q,2,none⟩ u3) M A cap lr l G t c (da C')/\ab (aq M) w (((wx.setCell ⟨q,0,none⟩ u1).setCell ⟨q,1,none⟩ u2).setCell ⟨q,2,none⟩ u3) from by
  have Lr:=E1.only (ab.aA hb (fun _=>False)) (by simp)
  have an:=(((ab.refl (·=q) wx).setCell (p:=⟨q,0,none⟩) (.inl rfl) u1).setCell (p:=⟨q,1,none⟩) (.inl rfl) u2).setCell (p:=⟨q,2,none⟩) (.inl rfl) u3
  have sx:=s1.down hb
  refine ⟨⟨M',n',B',G',cs',sx.iW (sx.mem.only an (fun x hx e=>by subst e; exact (sx.mem.ty hx).apart (bm Lr) (by decide))) (fun x hx=>.inl hx) an (fun x e=>by subst e; exact W8) (fun x hx e=>by subst e; exact sx.apart hx (by decide) (bm Lr)),s2,s7,s8,s9,s10,s11,s12⟩,(Xa.below hb).trans' an (fun x hx e=>by subst e; omega)⟩)
 have hQ:=Lib.hid (fun wx (hb:Below w6.heap.size w6 wx)=>E1.only (ab.aA hb (fun _=>False)) (by simp))
 generalize da C'=x at*
 replace yC:=Lib.hid yC
 clear Lq fL E0 E1 s1 s2 s3 s4 s5 s6 s7 s8 s9 s10 s11 s12 hO bp aR jM jj W9 hI hP hR eM AO p0 p1 p2 p3 lp HM i1 i2
 go_wp2_with fail
 refine yC.out.mono ?_
 rintro e w7 ⟨rfl,lD⟩
 have Ls:=Lib.hid (ve.out w7 lD)
 replace lD:=Lib.hid lD
 clear yC ve
 go_wp2_with fail
 refine Ls.out.mono ?_
 rintro e w8 ⟨rfl,l7⟩
 have E2:=lD.out.trans (l7.mono lD.out.size)
 have rN:=hQ.out w8 E2
 have f0:=rN.cell 0
 have f1:=rN.cell 1
 have f2:=rN.cell 2
 have z0:=rN.frozen 0
 have z1:=rN.frozen 1
 have z2:=rN.frozen 2
 simp at f0 f1 f2
 have lq:=rN.lt
 have lK:=Lib.hid (iO.out w8 E2 (.int .i64 x.1) (.bool x.2.1) (.string x.2.2))
 clear Ls iO hQ lD l7 E2 rN b2
 go_wp2_with fail
 refine bodyPost_ret (v:=.tuple #[.agg #[.int .i64 x.1,.bool x.2.1,.string x.2.2],.bool true]) (by simp [results,Tryz.results39,go_sem,f0,f1,f2]) rfl ⟨x,rfl,lK.out⟩
end Go.Proofs.YtpanebgakndddaaGreat.Ca
namespace Go.Proofs.YtpanebgakndddaaGreat.cJ
open Go Go.RowKit Hp K Fl Rw Hm Ar Mm Me LK Qs Wk Pc Pn Mq Zp Mx Gw fp
set_option maxRecDepth 100000
theorem qK {w:World} {a:Gl} {G:Gr} (h:bY w a G):Calls Tryz.prog 86 #[ptr a.f] w fun e w'=>e=.returned (.int .i64 G.err)/\w=w':=by
 have c:=(sA h.ao).2.2.2.1
 clear h
 go_enter Tryz.func86,Tryz.ntmps86
 go_wp2_with fail
 go_ret
 exact ⟨rfl,rfl⟩
/-! ### the example's steps are eight-/
def L0:Lm:=⟨[1,0,0,0],List.replicate 6 (-1),[.zero],false,1,[(1,3)],[]⟩
def it:Nat->Lm×Gr
 | 0=>(L0,iJ 0)
 | n+1=>aE (it n).1 (it n).2
def g1:Gr:={iJ 0 with el:=(1,3),nx:=2}
def L2:Lm:={L0 with xs:=[1,0,0,0,0,0],ds:=[(1,3),(2,4)]}
def g2:Gr:={g1 with num:=1,err:=0,nw:=(2,4),nx:=3}
def g3:Gr:={g2 with half:=2,bucket:=1,nx:=6}
def L4:Lm:={L2 with xs:=[1,1,0,0,0,0]}
def g4:Gr:={g3 with W:=⟨0,0,0,0⟩,nx:=7}
def L5:Lm:={L4 with hs:=0::List.replicate 5 (-1)}
def g5:Gr:={g4 with W:=⟨0,1,0,0⟩}
def L6:Lm:={L5 with xs:=[2,1,0,0,0,0]}
def g6:Gr:={g5 with W:=⟨0,2,2,0⟩}
def g7:Gr:={g6 with W:=⟨0,3,2,1⟩}
def L8:Lm:={L6 with hs:=List.replicate 6 (-1)}
def g8:Gr:={g7 with W:=⟨0,4,2,1⟩,nx:=9}
theorem JY:it 1=(L0,g1):=by kernel_rfl
theorem JZ:it 2=(L2,g2):=by
 show aE (it 1).1 (it 1).2=_
 rw [JY]; kernel_rfl
theorem J0:it 3=(L2,g3):=by
 show aE (it 2).1 (it 2).2=_
 rw [JZ]; kernel_rfl
theorem J1:it 4=(L4,g4):=by
 show aE (it 3).1 (it 3).2=_
 rw [J0]; kernel_rfl
theorem J2:it 5=(L5,g5):=by
 show aE (it 4).1 (it 4).2=_
 rw [J1]; kernel_rfl
theorem J3:it 6=(L6,g6):=by
 show aE (it 5).1 (it 5).2=_
 rw [J2]; kernel_rfl
theorem J4:it 7=(L6,g7):=by
 show aE (it 6).1 (it 6).2=_
 rw [J3]; kernel_rfl
theorem Va:it 8=(L8,g8):=by
 show aE (it 7).1 (it 7).2=_
 rw [J4]; kernel_rfl
theorem rh {L:Lm} {G:Gr} (h1:1<=G.nx/\G.nx<=8) (h2:1<L.xs.length/\0<L.hs.length/\L.ds.length<=900000) (h3:G.nx≠1->G.el.1<=65536/\G.el.2<=4000000) (h4:G.bucket<=1000000) (h5:G.pass.length<=100000/\G.later.length<=100000) (h6:G.later=[])
 (h7:G.nx=3->G.el.2+G.bucket<L.xs.length) (h8:G.nx=6->0<=G.num/\G.num<=1000000) (h9:G.nx=7->0<=L.k/\Qs.eV L.k.toNat L.xs L.hs G.W) (n4:G.nx≠4) (n5:G.nx≠5) (n8:G.nx≠8):pR L G:=
 ⟨h1,h2.1,h2.2.1,h2.2.2,h3,h4,h5,fun _=>h6,h7,fun q=>absurd q n4,fun q=>absurd q n5,h8,h9,fun q=>absurd q n8⟩
theorem Ab {L:Lm} {W:Wt} (hk:L.k=1) (h1:W.at_<=3) (h2:W.worker=0) (h3:0<L.hs.length) (h4:3<=L.xs.length) (h5:W.bF<=1000/\(W.at_<=2->W.bF<1)) (h6:W.at_≠0->Lo.aF L.hs 0=0):0<=L.k/\Qs.eV L.k.toNat L.xs L.hs W:=by
 rw [hk]
 exact ⟨by omega,⟨by decide,h1,by omega,h3,h4,h5,by rw [h2]; exact h6⟩⟩
theorem BG (j:Nat) (hj:j<=7):pR (it j).1 (it j).2/\lh (it j).1 (it j).2=true/\cp (it j).1 (it j).2=decide (j=7):=by
 have:j=0\/j=1\/j=2\/j=3\/j=4\/j=5\/j=6\/j=7:=by omega
 rcases this with rfl | rfl | rfl | rfl | rfl | rfl | rfl | rfl
 ·exact ⟨rh (by decide) (by decide) (by decide) (by decide) (by decide) rfl (by decide) (by decide) (fun q=>absurd q (by decide)) (by decide) (by decide) (by decide),by kernel_rfl,by kernel_rfl⟩
 ·rw [JY]; exact ⟨rh (by decide) (by decide) (by decide) (by decide) (by decide) rfl (by decide) (by decide) (fun q=>absurd q (by decide)) (by decide) (by decide) (by decide),by kernel_rfl,by kernel_rfl⟩
 ·rw [JZ]; exact ⟨rh (by decide) (by decide) (by decide) (by decide) (by decide) rfl (by decide) (by decide) (fun q=>absurd q (by decide)) (by decide) (by decide) (by decide),by kernel_rfl,by kernel_rfl⟩
 ·rw [J0]; exact ⟨rh (by decide) (by decide) (by decide) (by decide) (by decide) rfl (by decide) (by decide) (fun q=>absurd q (by decide)) (by decide) (by decide) (by decide),by kernel_rfl,by kernel_rfl⟩
 ·rw [J1]; exact ⟨rh (by decide) (by decide) (by decide) (by decide) (by decide) rfl (by decide) (by decide) (fun _=>Ab rfl (by decide) rfl (by decide) (by decide) (by decide) (by decide)) (by decide) (by decide) (by decide),by kernel_rfl,by kernel_rfl⟩
 ·rw [J2]; exact ⟨rh (by decide) (by decide) (by decide) (by decide) (by decide) rfl (by decide) (by decide) (fun _=>Ab rfl (by decide) rfl (by decide) (by decide) (by decide) (by decide)) (by decide) (by decide) (by decide),by kernel_rfl,by kernel_rfl⟩
 ·rw [J3]; exact ⟨rh (by decide) (by decide) (by decide) (by decide) (by decide) rfl (by decide) (by decide) (fun _=>Ab rfl (by decide) rfl (by decide) (by decide) (by decide) (by decide)) (by decide) (by decide) (by decide),by kernel_rfl,by kernel_rfl⟩
 ·rw [J4]; exact ⟨rh (by decide) (by decide) (by decide) (by decide) (by decide) rfl (by decide) (by decide) (fun _=>Ab rfl (by decide) rfl (by decide) (by decide) (by decide) (by decide)) (by decide) (by decide) (by decide),by kernel_rfl,by kernel_rfl⟩
theorem Vb {W0 a b:World} {M:Mo} {g:Gl} {G:Gr} (ha:Below W0.heap.size W0 a) (bp:∀ x,aq M x->W0.heap.size<=x) (hg:∀ x,bC g G x->W0.heap.size<=x) (ho:ab (fun x=>aq M x\/bC g G x) a b):Below W0.heap.size W0 b:=
 ha.trans (ho.toBelow ha.size (fun x hx q=>by
  rcases q with q | q
  ·have:=bp x q; omega
  ·have:=hg x q; omega))
set_option maxHeartbeats 2000000 in
theorem eA (w:World):Calls Tryz.prog 61 #[] w fun e w'=>e=.returned (.bool true)/\Below w.heap.size w w':=by
 have hN:=Lib.hid (na 1 1 w (by omega) (by omega))
 have hA:=Lib.hid (fun w=>gj.eA w)
 have qo:=Lib.hid (fun w=>HY 0 w)
 go_enter Tryz.func61,Tryz.ntmps61
 go_wp2_with fail
 refine hN.out.mono ?_
 rintro e w1 ⟨M,rfl,hM,bp,hB,h1,h2,h3,h4,h5,h6,h7⟩
 have hL:lm M=L0:=by
  unfold lm L0
  rw [h1,h2,h3,h4,h5,h6,h7]
  rfl
 replace hL:=Lib.hid hL
 replace hM:=Lib.hid hM
 replace bp:=Lib.hid bp
 replace hB:=Lib.hid hB
 clear hN h1 h2 h3 h4 h5 h6 h7
 go_wp2_with fail
 refine (qo.out _).mono ?_
 rintro e w2 ⟨a,rfl,du,xS,ag⟩
 have aI:=hM.out.below ag
 have fM:=Lib.hid (hB.out.trans (ag.mono hB.out.size))
 have tq:=Lib.hid (fun x hx=>Nat.le_trans hB.out.size (xS x hx))
 have mT:=ni pS aI (show dL.At w2 a (iJ 0) from du) (fun k s=>∃ j,j+k=8/\j<=7/\s=it j) (fun s=>s=it 8) (fun k s hs=>by
  obtain ⟨j,h1,h2,rfl⟩:=hs
  obtain ⟨a1,a2,a3⟩:=BG j h2
  refine ⟨a1,a2,by omega,fun hd=>?_,fun hd=>⟨j+1,by omega,?_,rfl⟩⟩
  ·rw [a3] at hd
   have:j=7:=of_decide_eq_true hd
   subst this
   rfl
  ·rw [a3] at hd
   have:¬j=7:=of_decide_eq_false hd
   omega) 8 100 ⟨0,by omega,by omega,by rw [hL.out]; rfl⟩ (by omega) (by omega)
 have aP:Hid (Calls Tryz.prog 58 #[ptr M.m,.iface 167 (ptr a.f),.int .i64 100] w2 fun e w'=>∃ (n:Nat) (M':Mo) (a':Gl),e=.returned (.tuple #[.int .i64 n,.bool true])/\ah w' M'/\lm M'=L8/\M'.m=M.m/\bY w' a' g8/\a'.f=a.f/\Below w.heap.size w w'):=Lib.hid (mT.mono fun e w' q=>by
  obtain ⟨n,s,q1,_,q2,M',a',r1,r2,r3,r4,r5,r6,r7⟩:=q
  rw [q2,Va] at r2 r4
  exact ⟨n,M',a',q1,r1,r2,r3.m,r4,r5,Vb fM.out bp.out tq.out r7⟩)
 clear mT qo du xS ag aI hM hB hL
 go_wp2_with fail
 refine aP.out.mono ?_
 rintro e w3 ⟨n,M',a',rfl,bB,jg,em,de,ea,ay⟩
 have x3:M'.xs=[2,1,0,0,0,0]:=congrArg Lm.xs jg
 have d3:M'.ds=[(1,3),(2,4)]:=congrArg Lm.ds jg
 have s3:M'.ss=[.zero]:=congrArg Lm.ss jg
 have hE:=fun wx (hb:Below w3.heap.size w3 wx)=>qK (de.below hb)
 rw [ea] at hE
 have eM:=fun wx (hb:Below w3.heap.size w3 wx)=>pJ (bB.below hb) (by rw [x3]; simp)
 have yJ:=fun wx (hb:Below w3.heap.size w3 wx)=>So (bB.below hb) (by
  rw [x3,d3]
  intro i hi
  have:i=0\/i=1:=by simp at hi; omega
  rcases this with rfl | rfl<;>decide) (by rw [x3]; simp) (by
  rw [s3]
  intro k
  rcases k with _ | k
  ·decide
  ·simp [aj,List.getD]; decide) (by rw [s3]; simp) [] (by
  rw [x3,d3,s3]
  unfold Dg
  have h0:∀ b,b<2->first [2,1,0,0,0,0] [(1,3),(2,4)] b=0:=fun b hb=>by
   have:b=0\/b=1:=by omega
   rcases this with rfl | rfl<;>rfl
  have bR:∀ met,Ch [Sl.zero] met 0 []:=fun met=>.stop (.inl fun k hk=>by
   have:=hk.2.2
   omega)
  show Rh [Sl.zero] (first [2,1,0,0,0,0] [(1,3),(2,4)]) 2 []
  exact .succ (all:=[]) (t:=[]) (.succ (all:=[]) (t:=[]) .zero (by rw [h0 0 (by omega)]; exact bR _)) (by rw [h0 1 (by omega)]; exact bR _))
 have bO:Me.now M'.xs M'.ds=(2,4):=by rw [x3,d3]; rfl
 have dH:g8.err=0:=rfl
 rw [bO,em] at eM
 rw [em] at yJ
 rw [dH] at hE
 unfold dv at eM
 have uZ:∀ w,(Instr.field 141 (.agg #[.int .i64 2,.int .i64 4]) 0).run Tryz.prog w=.ok (.int .i64 2) w:=fun w=>rfl
 replace hE:=Lib.hid hE
 replace eM:=Lib.hid eM
 replace yJ:=Lib.hid yJ
 replace ay:=Lib.hid ay
 clear aP bB jg em de ea x3 d3 s3 bO dH bp tq fM
 go_wp2_with fail
 refine (hA.out _).mono ?_
 rintro e w4 ⟨rfl,az⟩
 replace az:=Lib.hid az
 clear hA
 go_wp2_with fail
 refine (hE.out _ az.out).mono ?_
 rintro e w' ⟨rfl,rfl⟩
 clear hE
 go_wp2_with fail
 refine (eM.out _ az.out).mono ?_
 rintro e w5 ⟨rfl,bM⟩
 have rU:=Lib.hid (az.out.trans (bM.mono az.out.size))
 clear bM az eM
 go_wp2_with fail
 refine (yJ.out _ rU.out).mono ?_
 rintro e w6 ⟨Ac,capc,rfl,Bo,gI,jm⟩
 have jo:=Lib.hid (ay.out.trans ((rU.out.trans (gI.mono rU.out.size)).mono ay.out.size))
 clear Bo jm gI rU ay yJ
 go_wp2_with fail
 go_ret
 exact ⟨rfl,jo.out⟩
end Go.Proofs.YtpanebgakndddaaGreat.cJ
namespace Go.Proofs.YtpanebgakndddaaGreat.Hl
open Go Go.RowKit Hp K Fl Rw Hm Ar Mm Me LK Qs Wk Pc Pn Mx Sw fp
set_option maxRecDepth 100000
abbrev L0:Lm:=⟨[1,0,0,0],[-1, -1, -1, -1, -1, -1],[.zero],false,1,[(1,3)],[]⟩
abbrev s1:Sh:=⟨0,2,0,(1,3),(0,0),0,0,0,0,0,0,[],⟨0,0,0,0⟩⟩
abbrev s2:Sh:=⟨0,10,5,(1,3),(0,0), -1,0,0,0,0,0,[],⟨0,0,0,0⟩⟩
theorem Pj:aH L0 (il 0)=(L0,s1):=by kernel_rfl
theorem Pk:aH L0 s1=(L0,s2):=by kernel_rfl
theorem Pm:pK L0 (il 0)/\eK L0 (il 0)=true/\b7 L0 (il 0)=false:=
 ⟨⟨by decide,by decide,by decide,by decide,by decide,by decide,by decide,by decide,by decide,by decide,fun q=>absurd q (by decide),fun q=>absurd q (by decide),by decide,by decide,fun q=>absurd q (by decide)⟩,by kernel_rfl,by kernel_rfl⟩
theorem okB:pK L0 s1/\eK L0 s1=true/\b7 L0 s1=true:=
 ⟨⟨by decide,by decide,by decide,by decide,by decide,by decide,by decide,by decide,by decide,by decide,fun q=>absurd q (by decide),fun q=>absurd q (by decide),by decide,by decide,fun q=>absurd q (by decide)⟩,by kernel_rfl,by kernel_rfl⟩
theorem Po {W0 a b:World} {M:Mo} {g:Sc} {G:Sh} (ha:Below W0.heap.size W0 a) (bp:∀ x,aq M x->W0.heap.size<=x) (hg:∀ x,dq g G x->W0.heap.size<=x) (ho:ab (fun x=>aq M x\/dq g G x) a b):Below W0.heap.size W0 b:=
 ha.trans (ho.toBelow ha.size (fun x hx q=>by
  rcases q with q | q
  ·have:=bp x q; omega
  ·have:=hg x q; omega))
set_option maxHeartbeats 2000000 in
theorem eA (w:World):Calls Tryz.prog 62 #[] w fun e w'=>e=.returned (.bool true)/\Below w.heap.size w w':=by
 have hN:=Lib.hid (na 1 1 w (by omega) (by omega))
 have hA:=Lib.hid (fun w=>cJ.eA w)
 have qo:=Lib.hid (fun w=>Hq 0 w)
 go_enter Tryz.func62,Tryz.ntmps62
 go_wp2_with fail
 refine hN.out.mono ?_
 rintro e w1 ⟨M,rfl,hM,bp,hB,h1,h2,h3,h4,h5,h6,h7⟩
 have hL:lm M=L0:=by
  unfold lm L0
  rw [h1,h2,h3,h4,h5,h6,h7]
  rfl
 replace hL:=Lib.hid hL
 replace hM:=Lib.hid hM
 replace bp:=Lib.hid bp
 replace hB:=Lib.hid hB
 clear hN h1 h2 h3 h4 h5 h6 h7
 go_wp2_with fail
 refine (qo.out _).mono ?_
 rintro e w2 ⟨a,rfl,du,xS,ag⟩
 have aI:=hM.out.below ag
 have fM:=Lib.hid (hB.out.trans (ag.mono hB.out.size))
 have tq:=Lib.hid (fun x hx=>Nat.le_trans hB.out.size (xS x hx))
 have mT:=ni pL aI (show gu.At w2 a (il 0) from du) (fun k s=>(k=2/\s=(L0,il 0))\/(k=1/\s=(L0,s1))) (fun s=>s=(L0,s2)) (fun k s hs=>by
  rcases hs with ⟨rfl,rfl⟩ | ⟨rfl,rfl⟩
  ·obtain ⟨a1,a2,a3⟩:=Pm
   exact ⟨a1,a2,by omega,fun hd=>by rw [a3] at hd; simp at hd,fun _=>.inr ⟨rfl,Pj⟩⟩
  ·obtain ⟨a1,a2,a3⟩:=okB
   exact ⟨a1,a2,by omega,fun _=>Pk,fun hd=>by rw [a3] at hd; simp at hd⟩) 2 100 (.inl ⟨rfl,by rw [hL.out]⟩) (by omega) (by omega)
 have aP:Hid (Calls Tryz.prog 58 #[ptr M.m,.iface 169 (ptr a.f),.int .i64 100] w2 fun e w'=>∃ (n:Nat) (M':Mo) (a':Sc),e=.returned (.tuple #[.int .i64 n,.bool true])/\ah w' M'/\lm M'=L0/\M'.m=M.m/\cO w' a' s2/\a'.f=a.f/\Below w.heap.size w w'):=Lib.hid (mT.mono fun e w' q=>by
  obtain ⟨n,s,q1,_,q2,M',a',r1,r2,r3,r4,r5,r6,r7⟩:=q
  rw [q2] at r2 r4
  exact ⟨n,M',a',q1,r1,r2,r3.m,r4,r5,Po fM.out bp.out tq.out r7⟩)
 clear mT qo du xS ag aI hM hB hL
 go_wp2_with fail
 refine aP.out.mono ?_
 rintro e w3 ⟨n,M',a',rfl,bB,jg,em,de,ea,ay⟩
 have x3:M'.xs=[1,0,0,0]:=congrArg Lm.xs jg
 have d3:M'.ds=[(1,3)]:=congrArg Lm.ds jg
 have hE:=fun wx (hb:Below w3.heap.size w3 wx)=>qK (de.below hb)
 rw [ea] at hE
 have eM:=fun wx (hb:Below w3.heap.size w3 wx)=>pJ (bB.below hb) (by rw [x3]; simp)
 have bO:Me.now M'.xs M'.ds=(1,3):=by rw [x3,d3]; rfl
 have dH:s2.err=5:=rfl
 rw [bO,em] at eM
 rw [dH] at hE
 unfold dv at eM
 have uZ:∀ w,(Instr.field 141 (.agg #[.int .i64 1,.int .i64 3]) 0).run Tryz.prog w=.ok (.int .i64 1) w:=fun w=>rfl
 replace hE:=Lib.hid hE
 replace eM:=Lib.hid eM
 replace ay:=Lib.hid ay
 clear aP bB jg em de ea x3 d3 bO dH bp tq fM
 go_wp2_with fail
 refine (hA.out _).mono ?_
 rintro e w4 ⟨rfl,az⟩
 replace az:=Lib.hid az
 clear hA
 go_wp2_with fail
 refine (hE.out _ az.out).mono ?_
 rintro e w' ⟨rfl,rfl⟩
 clear hE
 go_wp2_with fail
 refine (eM.out _ az.out).mono ?_
 rintro e w5 ⟨rfl,bM⟩
 have jo:=Lib.hid (ay.out.trans ((az.out.trans (bM.mono az.out.size)).mono ay.out.size))
 clear bM az eM
 go_wp2_with fail
 go_ret
 exact ⟨rfl,jo.out⟩
end Go.Proofs.YtpanebgakndddaaGreat.Hl
namespace Go.Proofs.YtpanebgakndddaaGreat.Lo
open Go Go.RowKit Hp K Fl Rw
def jF (hs:List Int) (n:Int) (k:Nat):List Nat:=(List.range k).filter fun i=>decide (0<=n/\aF hs i=n)
def Db (x:Nat):List Value:=[.int .i64 (x:Int)]
abbrev IE (w:World) (A:Option Addr) (cap:Nat) (xs:List Nat):Prop:=Row w 3 1 Db A cap xs
theorem IF {hs:List Int} {n:Int} {k:Nat} (h:0<=n/\aF hs k=n):jF hs n (k+1)=jF hs n k++[k]:=by
 unfold jF
 rw [List.range_succ,List.filter_append]
 simp only [h,and_self,decide_true,List.filter_cons_of_pos,List.filter_nil]
theorem IG {hs:List Int} {n:Int} {k:Nat} (h:¬(0<=n/\aF hs k=n)):jF hs n (k+1)=jF hs n k:=by
 unfold jF
 rw [List.range_succ,List.filter_append]
 rw [List.filter_cons_of_neg (by simpa using h)]
 simp
theorem RN (hs:List Int) (n:Int) (k:Nat):(jF hs n k).length<=k:=by
 unfold jF
 exact Nat.le_trans (List.length_filter_le _ _) (by simp)
def IH (W w:World) (g b:Nat) (hs:List Int) (n:Int) (v:Value) (k:Nat):Prop:=
 Below W.heap.size W w/\gF w g b hs/\∃ A cap,v=.slice A (jF hs n k).length cap/\IE w A cap (jF hs n k)/\∀ x,In A x->W.heap.size<=x
theorem O6 {W:World} {g b:Nat} {hs:List Int} (h:gF W g b hs) (n:Int):
 Calls Tryz.prog 65 #[.pointer (some ⟨g,0,none⟩),.int .i64 n] W fun e w'=>
  ∃ A cap,e=.returned (.slice A (jF hs n hs.length).length cap)/\IE w' A cap (jF hs n hs.length)/\(∀ x,In A x->W.heap.size<=x)/\Below W.heap.size W w':=by
 have hc:W.cell? ⟨g,0,none⟩=some (.slice (some ⟨b,0,none⟩) hs.length hs.length):=h.1.cell 0
 have hl:=h.2.2.2
 have hI:=Lib.hid (show IH W W g b hs n (.slice none 0 0) 0 from ⟨Below.refl _ _,h,none,0,rfl,Row.nil _ _ _ _,by simp [In]⟩)
 obtain ⟨i0,cq,cy,cL,cz⟩:=info_parts BA
 clear h
 go_enter Tryz.func65,Tryz.ntmps65
 go_wp2_with fail
 go_loopw [5,12] (fun v i wr=>∃ k:Nat,k<=hs.length/\i=.int .i64 k/\IH W wr g b hs n v k) (fun _ i _=>hs.length-(intOf i).toNat)
 case atStart=>exact ⟨0,Nat.zero_le _,rfl,hI.out⟩
 case round=>
  rename_i v i wr
  obtain ⟨k,hk,rfl,hB,hL,A,cap,rfl,hR,hA⟩:=hrel
  by_cases aV:k<hs.length
  ·have c0:=sI hL k aV
   have c1:=uw hL k aV
   have hc:wr.cell? ⟨g,0,none⟩=some (.slice (some ⟨b,0,none⟩) hs.length hs.length):=hL.1.cell 0
   have hs':=Lib.hid (Dc (aF hs k) n)
   have X9:=RN hs n k
   replace hL:=Lib.hid hL
   replace hR:=Lib.hid hR
   replace hA:=Lib.hid hA
   replace hB:=Lib.hid hB
   have hlen:=Lib.hid (rfl:(jF hs n k).length=(jF hs n k).length)
   generalize decide (0<=aF hs k)=p at*
   generalize (if 0<=aF hs k then aF hs k else 0)=q at*
   generalize hm:(jF hs n k).length=m at*
   replace hm:=Lib.hid hm
   by_cases hh:0<=n/\aF hs k=n
   ·have hd:=Lib.hid (show decide (0<=n/\aF hs k=n)=true from decide_eq_true hh)
    replace hh:=Lib.hid hh
    go_wp2_with (first
     | (go_at_call 91; refine (zI _ _ _ _).mono ?_; rintro e w1 ⟨rfl,av⟩; rw [hs'.out,hd.out]
        have iD:=hR.out.only (ab.aA av (fun _=>False)) (by simp)
        replace av:=Lib.hid av)
     | (at_builtin
        refine kx w1 rfl (.tmp 24) (.tmp 26) 88 rfl 3 i0 (.int .i64 0) 1 8 Tryz.underlying88 cq cy cL cz rfl (by omega) Db (fun _=>rfl) (by intro x u hu; simp [Db] at hu; subst hu; rfl)
         A cap m (jF hs n k) hm.out k #[.int .i64 k] rfl rfl iD rfl (by simp only [maxLen]; omega) (by omega) ?_
        intro A1 cap1 w2 bG ae bw))
    go_roundw
    case rel=>
     have hO:=(ab.aA av.out (In A)).trans ae
     refine ⟨k+1,by omega,by go_num,hB.out.trans (hO.toBelow hB.out.size (fun x hx hi=>by have:=hA.out x hi; omega)),hL.out.only hO ?_,A1,cap1,?_,?_,fun x hi=>?_⟩
     ·rintro x (rfl | rfl)
      ·exact hR.out.differ hL.out.1 (by decide)
      ·exact hR.out.differ hL.out.2.1 (by decide)
     ·rw [IF hh.out,List.length_append,hm.out]
      rfl
     ·rw [IF hh.out]
      exact bG
     ·rcases bw x hi with q | q
      ·exact hA.out x q
      ·have h1:=av.out.size
       have h2:=hB.out.size
       omega
    case measure=>simp [intOf]; omega
   ·have hd:=Lib.hid (show decide (0<=n/\aF hs k=n)=false from decide_eq_false hh)
    replace hh:=Lib.hid hh
    go_wp2_with (first
     | (go_at_call 91; refine (zI _ _ _ _).mono ?_; rintro e w1 ⟨rfl,av⟩; rw [hs'.out,hd.out]; replace av:=Lib.hid av))
    go_roundw
    case rel=>
     have hO:=ab.aA av.out (fun _=>False)
     refine ⟨k+1,by omega,by go_num,hB.out.trans (av.out.mono hB.out.size),hL.out.only hO (by simp),A,cap,?_,?_,hA.out⟩
     ·rw [IG hh.out,hm.out]
     ·rw [IG hh.out]
      exact hR.out.only hO (by simp)
    case measure=>simp [intOf]; omega
  ·obtain rfl:k=hs.length:=by omega
   replace hL:=Lib.hid hL
   replace hR:=Lib.hid hR
   replace hA:=Lib.hid hA
   replace hB:=Lib.hid hB
   go_wp2_with fail
   go_ret
   exact ⟨A,cap,rfl,hR.out,hA.out,hB.out⟩
end Go.Proofs.YtpanebgakndddaaGreat.Lo
namespace Go.Proofs.YtpanebgakndddaaGreat.kC
open Go Go.RowKit Hp K Fl Rw Hm Ar Mm Me LK Qs Wk Re fp Pn Pc Mq Pu gj gm iT Dl Zr
set_option maxRecDepth 100000
theorem yS {w w1:World} {n k:Nat} {M:Mo} (h:oK w n k M w1) (hk:k<=6):jS (lm M) 0:=by
 obtain ⟨hM,bp,hB,h1,h2,h3,h4,h5,h6,h7⟩:=h
 refine ⟨?_,?_,?_,?_⟩
 ·show M.xs.length<=_; rw [h1]; simp; omega
 ·show M.ds.length<=_; rw [h6]; simp
 ·show 1<=Cl.nth M.xs 0; rw [h1]; exact Int.le_refl _
 ·show Cl.nth M.xs 0<=_; rw [h1]; exact Int.le_refl _
theorem vO {w w1:World} {n k:Nat} {M:Mo} (h:oK w n k M w1):eh w w1 M none 0 []:=by
 obtain ⟨hM,bp,hB,_⟩:=h
 exact ⟨hM,Row.nil _ _ _ _,hB,bp,by simp [In]⟩
theorem O3 {hs:List Int} (h:hs=List.replicate 6 (-1)) (i:Nat):(Lo.jF hs (i:Int) hs.length).length=0:=by
 subst h
 rw [List.length_eq_zero_iff]
 unfold Lo.jF
 rw [List.filter_eq_nil_iff]
 intro j _
 simp only [decide_eq_true_eq]
 intro q
 have h2:=q.2
 unfold Lo.aF at h2
 rw [List.getD_eq_getElem?_getD,List.getElem?_replicate] at h2
 split at h2<;>simp at h2<;>omega
section
variable {W0 w wx:World} {M:Mo} {n B G:Nat} {cs:Nat->List Mq.Hp} {l:List Pr}
theorem O4 (h:eh W0 w M none 0 []) (hm:Mp (lm M) n B cs l G) (hb:Below w.heap.size w wx):Calls Tryz.prog 64 #[ptr M.m] wx fun e w'=>e=.returned (.agg #[.int .i64 n,.int .i64 B])/\Below wx.heap.size wx w':=by
 have eu:2+M.k<=B:=hm.kB
 have hk:1<=M.k/\M.k<=8:=hm.k
 have bz:B+n<=M.xs.length:=hm.xl
 have bO:Me.now M.xs M.ds=(n,B):=hm.now
 have:=pJ (h.mem.below hb) (by omega)
 rw [bO] at this
 exact this
theorem O5 (h:eh W0 w M none 0 []) (hm:Mp (lm M) n B cs l G) (hb:Below w.heap.size w wx):wx.cell? ⟨M.m,1,none⟩=some (ptr M.lg)/\∀ i:Nat,Calls Tryz.prog 65 #[ptr M.lg,.int .i64 i] wx fun e w'=>∃ A cap,e=.returned (.slice A (0:Nat) cap)/\Below wx.heap.size wx w':=by
 have hM:=h.mem.below hb
 have td:M.hs=List.replicate 6 (-1):=hm.hs
 refine ⟨hM.hd.2.1,fun i=>(Lo.O6 hM.2.2.1 (i:Int)).mono fun e w' q=>?_⟩
 obtain ⟨A,cap,q1,_,_,q4⟩:=q
 rw [O3 td i] at q1
 exact ⟨A,cap,q1,q4⟩
end
theorem O7:∃ c x t a,nS ([]:List Pr).length 8 1 c x t a/\c<=100/\x<=512/\t<=8/\a<=30*256:=by
 obtain ⟨c,x,hu⟩:=BQ 0 3 (by omega) 3 0 (by omega)
 obtain ⟨e1,e2,e3⟩:=hu.eqs
 exact ⟨c,x,3,0,.inl hu,by omega,by omega,by omega,by omega⟩
set_option maxHeartbeats 2000000 in
theorem eA (w:World):Calls Tryz.prog 40 #[] w fun e w'=>e=.returned (.bool true)/\Below w.heap.size w w':=by
 have hN:=Lib.hid (na 1 1 w (by omega) (by omega))
 have bw:=Lib.hid (fun w=>iT.eA w)
 have lB:=Lib.hid (fun w=>cJ.eA w)
 have iz:=Lib.hid (fun w=>Hl.eA w)
 have qo:=Lib.hid (fun z w=>GU 0 z w)
 go_enter Tryz.func40,Tryz.ntmps40
 go_wp2_with fail
 refine hN.out.mono ?_
 rintro e w1 ⟨M,rfl,fh⟩
 have lz:=tQ fh (by omega) (by omega)
 have eW:=yS fh (by omega)
 have hS:=vO fh
 replace lz:=Lib.hid lz
 replace eW:=Lib.hid eW
 replace hS:=Lib.hid hS
 clear hN fh
 go_wp2_with fail
 refine (qo.out 8 _).mono ?_
 rintro e w2 ⟨a,rfl,bG,fK,ag⟩
 have dO:=Lib.hid (hS.out.down ag)
 have KF:=Lib.hid (fun x hx=>Nat.le_trans hS.out.below.size (fK x hx))
 replace bG:=Lib.hid bG
 clear fK ag hS
 go_wp2_with fail
 refine (qo.out 3 _).mono ?_
 rintro e w3 ⟨b,rfl,gG,mR,ay⟩
 have eN:=dO.out.down ay
 have KG:=we bG.out (ab.aA ay (fun _=>False)) (by simp)
 have fI:=Lib.hid (fun x hx=>Nat.le_trans dO.out.below.size (mR x hx))
 have xA:=Lib.hid (fun x (hx:dp.aQ b (bX 0 3) x)=>show ¬(aq M x\/dp.aQ a (bX 0 8) x) from fun q=>by
  rcases q with q | q
  ·exact Hn gG eN.mem hx q
  ·have:=Ce bG.out q
   have:=mR x hx
   omega)
 obtain ⟨c,x,t,ca,Ej,hc,hx,ht,tc⟩:=O7
 have mT:=OZ eN lz.out (by omega) (by simp) eW.out (by omega) (s:=8) (by decide) Ej (by omega) hx ht tc 500 ⟨by omega,by omega⟩ (i:=0) (by omega) KG KF.out
 have tm:=Lib.hid (fun x hx=>Ce (a:=a) (R:=bX 0 8) (x:=x) bG.out hx)
 have KH:=Lib.hid mR
 replace gG:=Lib.hid gG
 replace mT:=Lib.hid mT
 clear qo mR ay eN KG dO bG KF Ej lz eW
 go_wp2_with fail
 refine mT.out.mono ?_
 rintro e w4 ⟨k,rfl,M4,a4,R4,B4,cs4,mO,em4,Ek,ea4,KI,Em,V9,Wb,Wc,Wd, -,aN,En⟩
 have KJ:=we gG.out aN xA.out
 have aP:=O2 mO Em (z:=3) (by decide) KJ fI.out 500 ⟨by omega,by omega⟩
 rw [em4] at aP
 have fL:Hid (Calls Tryz.prog 58 #[ptr M.m,.iface 137 (ptr (dp.f b)),.int .i64 500] w4 fun e w'=>e=.returned (.tuple #[.int .i64 1,.bool true])/\Below w.heap.size w w'/\(∀ wx,Below w'.heap.size w' wx->Calls Tryz.prog 63 #[ptr (dp.f a)] wx fun e w''=>e=.returned (.int .i64 0)/\w''=wx)/\(∀ wx,Below w'.heap.size w' wx->Calls Tryz.prog 63 #[ptr (dp.f b)] wx fun e w''=>e=.returned (.int .i64 5)/\w''=wx)/\(∀ wx,Below w'.heap.size w' wx->Calls Tryz.prog 64 #[ptr M.m] wx fun e w''=>e=.returned (.agg #[.int .i64 8,.int .i64 B4])/\Below wx.heap.size wx w'')/\∃ lk,∀ wx,Below w'.heap.size w' wx->wx.cell? ⟨M.m,1,none⟩=some (ptr lk)/\Calls Tryz.prog 65 #[ptr lk,.int .i64 0] wx fun e w''=>∃ A cap,e=.returned (.slice A 0 cap)/\Below wx.heap.size wx w''):=Lib.hid (aP.mono fun e w' q=>by
  obtain ⟨q1,M5,a5,R5,fY,em5,We,eb5,Wf,xP,bN⟩:=q
  have Wg:=we Ek bN (fun x hx q=>by
   rcases q with q | q
   ·exact Hn Ek mO.mem hx q
   ·have h1:=Ce gG.out q
    have h2:=KH.out x q
    rcases En x hx with q | q
    ·have h3:=tm.out x q; omega
    ·omega)
  have KK:Mp (lm M5) 8 B4 cs4 [] 0:=by rw [xP]; exact Em
  refine ⟨q1,fY.below,fun wx hb=>?_,fun wx hb=>?_,fun wx hb=>?_,M5.lg,fun wx hb=>?_⟩
  ·have:=BO (oQ.below Wg hb)
   rw [ea4,KI] at this
   exact this
  ·have:=BO (oQ.below We hb)
   rw [eb5,Wf] at this
   exact this
  ·have:=O4 fY KK hb
   rw [em5,em4] at this
   exact this
  ·have:=O5 fY KK hb
   rw [em5,em4] at this
   exact ⟨this.1,this.2 0⟩)
 have jf:=Lib.hid mO.below
 clear aP KJ mT mO em4 Ek ea4 KI Em V9 Wb Wc Wd aN En gG fI xA tm KH
 go_wp2_with fail
 refine fL.out.mono ?_
 rintro e w5 ⟨rfl,bM,Az,AA,eM,lk,xQ⟩
 replace bM:=Lib.hid bM
 replace Az:=Lib.hid Az
 replace AA:=Lib.hid AA
 replace eM:=Lib.hid eM
 replace xQ:=Lib.hid xQ
 have uZ:∀ w,(Instr.field 141 (.agg #[.int .i64 8,.int .i64 B4]) 0).run Tryz.prog w=.ok (.int .i64 8) w:=fun w=>rfl
 clear fL jf
 go_wp2_with fail
 refine (bw.out _).mono ?_
 rintro e w6 ⟨rfl,lC⟩
 have gI:=Lib.hid lC
 clear lC bw
 go_wp2_with fail
 refine (lB.out _).mono ?_
 rintro e w7 ⟨rfl,lD⟩
 have nF:=Lib.hid (gI.out.trans (lD.mono gI.out.size))
 clear lD gI lB
 go_wp2_with fail
 refine (iz.out _).mono ?_
 rintro e w8 ⟨rfl,l7⟩
 have rp:=Lib.hid (nF.out.trans (l7.mono nF.out.size))
 clear l7 nF iz
 go_wp2_with fail
 refine (Az.out _ rp.out).mono ?_
 rintro e w' ⟨rfl,rfl⟩
 clear Az
 go_wp2_with fail
 refine (eM.out _ rp.out).mono ?_
 rintro e w9 ⟨rfl,mf⟩
 have kL:=Lib.hid (rp.out.trans (mf.mono rp.out.size))
 have Wh:=(xQ.out _ kL.out).1
 have KL:=Lib.hid (xQ.out _ kL.out).2
 clear mf rp eM xQ
 go_wp2_with fail
 refine KL.out.mono ?_
 rintro e w10 ⟨A,cap,rfl,KM⟩
 have tp:=Lib.hid (kL.out.trans (KM.mono kL.out.size))
 clear KM kL KL Wh
 go_wp2_with fail
 refine (AA.out _ tp.out).mono ?_
 rintro e w' ⟨rfl,rfl⟩
 have jo:=Lib.hid (bM.out.trans (tp.out.mono bM.out.size))
 clear AA bM tp
 go_wp2_with fail
 go_ret
 exact ⟨rfl,jo.out⟩
end Go.Proofs.YtpanebgakndddaaGreat.kC
namespace Go.Proofs.YtpanebgakndddaaGreat.Ca
open Go Go.RowKit Hp K Fl Rw Hm Ar Mm Me LK Qs Wk Re fp Pc Pn Mq Pu Zp Mx cJ Bs Dl Zr gj gm kC
set_option maxRecDepth 100000
def aK:ByteArray:=⟨#[97]⟩
def aX:ByteArray:=⟨#[120]⟩
theorem se (k:Int) (v:ByteArray) (hk:0<=k/\k<=2) (hv:v.size<=32):cU ⟨k,aK,v,0⟩=0:=by
 unfold cU
 simp only
 rw [if_neg (by omega),if_neg]
 rintro ⟨_,h | h | ⟨_,h⟩⟩
 ·exact absurd h (by decide)
 ·exact absurd h (by decide)
 ·omega
theorem MG:dg [] ⟨1,aK,aX,0⟩=(0,false,⟨#[]⟩):=by
 unfold dg
 rw [if_neg (by rw [se 1 aX (by omega) (by decide)]; simp)]
 rfl
theorem MH:dg [(aK,aX)] ⟨0,aK,⟨#[]⟩,0⟩=(0,true,aX):=by
 unfold dg
 rw [if_neg (by rw [se 0 ⟨#[]⟩ (by omega) (by decide)]; simp)]
 simp [Pc.lk]
theorem MI:dg [(aK,aX)] ⟨2,aK,⟨#[]⟩,0⟩=(0,true,aX):=by
 unfold dg
 rw [if_neg (by rw [se 2 ⟨#[]⟩ (by omega) (by decide)]; simp)]
 simp [Pc.lk]
theorem MJ:dg [] ⟨0,aK,⟨#[]⟩,0⟩=(0,false,⟨#[]⟩):=by
 unfold dg
 rw [if_neg (by rw [se 0 ⟨#[]⟩ (by omega) (by decide)]; simp)]
 rfl
def Am (W0 w:World) (m:Nat) (l:List Pr) (j:Nat):Prop:=∃ (M:Mo) (n B G:Nat) (cs:Nat->List Mq.Hp),eh W0 w M none 0 []/\M.m=m/\Mp (lm M) n B cs l G/\G<=j/\M.ss.length=2/\M.k=1/\jS (lm M) j/\n<=256
theorem yR {W0 w w':World} {m j:Nat} {l:List Pr} (h:Am W0 w m l j) (hb:Below w.heap.size w w'):Am W0 w' m l j:=by
 obtain ⟨M,n,B,G,cs,h1,h2⟩:=h
 exact ⟨M,n,B,G,cs,h1.down hb,h2⟩
theorem MK {W0 w:World} {m j:Nat} {l:List Pr} (h:Am W0 w m l j):Below W0.heap.size W0 w:=by
 obtain ⟨M,n,B,G,cs,h1,h2⟩:=h
 exact h1.below
def Rs (w w':World):Prop:=∀ x cs,af w x 44 cs->af w' x 44 cs
theorem ML {c:Ct} (hc:cU c=0) (hk:c.kind<=2):c.key.size<=32:=by
 unfold cU at hc
 split at hc
 ·omega
 ·split at hc
  ·omega
  ·omega
theorem BD {W0 w:World} {m j:Nat} {l l':List Pr} (h:Am W0 w m l j) (hj:j<=20) (c:Ct) (hc:cU c=0) (sV:c.kind<=2) (og:c.kind≠1) (hl:l.length<=1) (hd:dz l l' c) (hs:c.size=0):
 Calls Tryz.prog 39 #[ptr m,.int .i64 0,iU c] w fun e w'=>e=.returned (.tuple #[qH (dg l c),.bool true])/\Am W0 w' m l' (j+1)/\Rs w w':=by
 obtain ⟨M,n,B,G,cs,h1,h2,h3,h4,h5,h6,h7,h8⟩:=h
 have hk:=ML hc sV
 have:=F6 (c:=c) (i:=0) (t:=j) h1 h3 (by omega) (by omega) h7 (by omega) h8 (.inl (by omega)) (by rw [h6]; omega) (by unfold maxLen; omega)
 rw [h2] at this
 refine this.mono fun e w' q=>?_
 obtain ⟨x,q1,⟨M',n',B',G',cs',s1,s2,s3,s4,s5,s6,s7,s8⟩,hO⟩:=q
 have hR:Rs w w':=fun y ys hb=>hb.only hO (fun g=>(h1.mem.ty g).apart (bm hb) (by decide))
 rcases s8 with ⟨r1,r2,r3,_⟩ | ⟨_,r2,r3⟩
 ·exact absurd r2 og
 ·exact ⟨by rw [q1,r2],⟨M',n',B',G',cs',s1,s2.trans h2,r3 l' hd,by omega,s3.trans h5,s4.trans h6,s5,s6⟩,hR⟩
theorem MM {W0 w:World} {M:Mo} (h:oK W0 2 1 M w):
 Calls Tryz.prog 39 #[ptr M.m,.int .i64 0,iU ⟨1,aK,aX,0⟩] w fun e w'=>e=.returned (.tuple #[qH (0,false,⟨#[]⟩),.bool true])/\Am W0 w' M.m [(aK,aX)] 1/\Rs w w':=by
 have lz:=tQ h (by omega) (by omega)
 have eW:=yS h (by omega)
 have hS:=vO h
 obtain ⟨_,_,_,g1,g2,g3,g4,g5,g6,g7⟩:=h
 have uQ:M.ss.length=2:=by rw [g2]; simp
 have:=F6 (c:=⟨1,aK,aX,0⟩) (i:=0) (t:=0) hS lz (by omega) (by simp) eW (by omega) (by omega) (.inl (by simp)) (by rw [g5]; simp) (by unfold maxLen; decide)
 refine this.mono fun e w' q=>?_
 obtain ⟨x,q1,⟨M',n',B',G',cs',s1,s2,s3,s4,s5,s6,s7,s8⟩,hO⟩:=q
 have hR:Rs w w':=fun y ys hb=>hb.only hO (fun g=>(hS.mem.ty g).apart (bm hb) (by decide))
 have hc:=se 1 aX (by omega) (by decide)
 rcases s8 with ⟨r1,r2,r3,_⟩ | ⟨_,r2,r3⟩
 ·exfalso
  have h1:=(BE M.ss).1 r3
  have h2:(dX M.ss M.ss.length).length+M.ws.length+([]:List Pr).length=M.ss.length:=(Mp.vP lz).2
  rw [g7,uQ] at h2
  rw [uQ] at h1
  simp at h2
  omega
 ·have hd:dz [] [(aK,aX)] ⟨1,aK,aX,0⟩:=by
   unfold dz
   rw [if_pos ⟨hc,rfl⟩]
   exact List.Perm.refl _
  exact ⟨by rw [q1,r2,MG],⟨M',n',B',G',cs',s1,s2,r3 _ hd,by omega,s3.trans uQ,s4.trans g5,s5,s6⟩,hR⟩
set_option maxHeartbeats 4000000 in
theorem eA (w:World):Calls Tryz.prog 26 #[] w fun e w'=>e=.returned (.bool true)/\Below w.heap.size w w':=by
 have hN:=Lib.hid (na 2 1 w (by omega) (by omega))
 have hA:=Lib.hid (fun w=>kC.eA w)
 have c1:=se 0 ⟨#[]⟩ (by omega) (by decide)
 have c2:=se 2 ⟨#[]⟩ (by omega) (by decide)
 have d1:dz [(aK,aX)] [(aK,aX)] ⟨0,aK,⟨#[]⟩,0⟩:=by unfold dz; rw [if_neg (by simp),if_neg (by simp)]
 have d2:dz [(aK,aX)] [] ⟨2,aK,⟨#[]⟩,0⟩:=by unfold dz; rw [if_neg (by simp),if_pos ⟨c2,rfl⟩]; simp
 have d3:dz [] [] ⟨0,aK,⟨#[]⟩,0⟩:=by unfold dz; rw [if_neg (by simp),if_neg (by simp)]
 have h1:=Lib.hid (fun w1 M (h:oK w 2 1 M w1)=>MM h)
 have h2:=Lib.hid (fun w1 m (h:Am w w1 m [(aK,aX)] 1)=>BD h (by omega) ⟨0,aK,⟨#[]⟩,0⟩ c1 (by simp) (by simp) (by simp) d1 rfl)
 have h3:=Lib.hid (fun w1 m (h:Am w w1 m [(aK,aX)] 2)=>BD h (by omega) ⟨2,aK,⟨#[]⟩,0⟩ c2 (by simp) (by simp) (by simp) d2 rfl)
 have h4:=Lib.hid (fun w1 m (h:Am w w1 m [] 3)=>BD h (by omega) ⟨0,aK,⟨#[]⟩,0⟩ c1 (by simp) (by simp) (by simp) d3 rfl)
 rw [MH] at h2
 rw [MI] at h3
 rw [MJ] at h4
 simp only [iU,qH,aK,aX] at h1 h2 h3 h4
 clear c1 c2 d1 d2 d3
 go_enter Tryz.func26,Tryz.ntmps26
 go_wp2_with fail
 refine hN.out.mono ?_
 rintro e w1 ⟨M,rfl,hM⟩
 have g1:=h1.out w1 M hM
 clear hN h1 hM
 replace g1:=Lib.hid g1
 go_wp2_with fail
 refine g1.out.mono ?_
 rintro e w2 ⟨rfl,bw, -⟩
 go_wp2_with fail
 obtain ⟨v1,Al⟩:∃ v,v=w2.alloc (.cells #[.int .i64 0,.bool false,.string ⟨#[]⟩] 44):=⟨_,rfl⟩
 have b1:af v1 w2.heap.size 44 #[.int .i64 0,.bool false,.string ⟨#[]⟩]:=by rw [Al]; exact af.made w2 _ _
 have l1:Below w2.heap.size w2 v1:=by rw [Al]; exact below_1 _ _
 have A1:=yR bw l1
 rw [<-Al]
 clear Al bw
 obtain ⟨x1,sW⟩:∃ x,x=w2.heap.size:=⟨_,rfl⟩
 rw [<-sW] at b1 ⊢
 clear l1 sW
 have r1:=Lib.hid (h2.out v1 M.m A1)
 clear h2 A1
 refine r1.out.mono ?_
 rintro e w3 ⟨rfl,lB,gG⟩
 replace b1:=gG _ _ b1
 clear r1 gG
 go_wp2_with fail
 obtain ⟨v2,Ao⟩:∃ v,v=w3.alloc (.cells #[.int .i64 0,.bool true,.string ⟨#[120]⟩] 44):=⟨_,rfl⟩
 have b2:af v2 w3.heap.size 44 #[.int .i64 0,.bool true,.string ⟨#[120]⟩]:=by rw [Ao]; exact af.made w3 _ _
 have l2:Below w3.heap.size w3 v2:=by rw [Ao]; exact below_1 _ _
 have A2:=yR lB l2
 rw [<-Ao]
 clear Ao lB
 obtain ⟨x2,Ku⟩:∃ x,x=w3.heap.size:=⟨_,rfl⟩
 rw [<-Ku] at b2 ⊢
 replace b1:=b1.only (ab.aA l2 (fun _=>False)) (by simp)
 clear l2 Ku
 have r2:=Lib.hid (h3.out v2 M.m A2)
 clear h3 A2
 refine r2.out.mono ?_
 rintro e w4 ⟨rfl,iz,ka⟩
 replace b1:=ka _ _ b1
 replace b2:=ka _ _ b2
 clear r2 ka
 go_wp2_with fail
 obtain ⟨v3,Ap⟩:∃ v,v=w4.alloc (.cells #[.int .i64 0,.bool true,.string ⟨#[120]⟩] 44):=⟨_,rfl⟩
 have b3:af v3 w4.heap.size 44 #[.int .i64 0,.bool true,.string ⟨#[120]⟩]:=by rw [Ap]; exact af.made w4 _ _
 have l3:Below w4.heap.size w4 v3:=by rw [Ap]; exact below_1 _ _
 have A3:=yR iz l3
 rw [<-Ap]
 clear Ap iz
 obtain ⟨x3,Kv⟩:∃ x,x=w4.heap.size:=⟨_,rfl⟩
 rw [<-Kv] at b3 ⊢
 replace b1:=b1.only (ab.aA l3 (fun _=>False)) (by simp)
 replace b2:=b2.only (ab.aA l3 (fun _=>False)) (by simp)
 clear l3 Kv
 have r3:=Lib.hid (h4.out v3 M.m A3)
 clear h4 A3
 refine r3.out.mono ?_
 rintro e w5 ⟨rfl,xC,Aq⟩
 replace b1:=Aq _ _ b1
 replace b2:=Aq _ _ b2
 replace b3:=Aq _ _ b3
 clear r3 Aq
 go_wp2_with fail
 obtain ⟨v4,As⟩:∃ v,v=w5.alloc (.cells #[.int .i64 0,.bool false,.string ⟨#[]⟩] 44):=⟨_,rfl⟩
 have b4:af v4 w5.heap.size 44 #[.int .i64 0,.bool false,.string ⟨#[]⟩]:=by rw [As]; exact af.made w5 _ _
 have l4:Below w5.heap.size w5 v4:=by rw [As]; exact below_1 _ _
 have A4:=yR xC l4
 rw [<-As]
 clear As xC
 obtain ⟨x4,Kw⟩:∃ x,x=w5.heap.size:=⟨_,rfl⟩
 rw [<-Kw] at b4 ⊢
 replace b1:=b1.only (ab.aA l4 (fun _=>False)) (by simp)
 replace b2:=b2.only (ab.aA l4 (fun _=>False)) (by simp)
 replace b3:=b3.only (ab.aA l4 (fun _=>False)) (by simp)
 clear l4 Kw
 have D6:=Lib.hid (MK A4)
 clear A4
 refine (hA.out _).mono ?_
 rintro e w9 ⟨rfl,kL⟩
 replace b1:=b1.only (ab.aA kL (fun _=>False)) (by simp)
 replace b2:=b2.only (ab.aA kL (fun _=>False)) (by simp)
 replace b3:=b3.only (ab.aA kL (fun _=>False)) (by simp)
 replace b4:=b4.only (ab.aA kL (fun _=>False)) (by simp)
 have jo:=Lib.hid (D6.out.trans (kL.mono D6.out.size))
 have f10:=b1.cell 0
 have f11:=b1.cell 1
 have f12:=b1.cell 2
 have q1:=b1.lt
 have f20:=b2.cell 0
 have f21:=b2.cell 1
 have f22:=b2.cell 2
 have q2:=b2.lt
 have f30:=b3.cell 0
 have f31:=b3.cell 1
 have f32:=b3.cell 2
 have q3:=b3.lt
 have f40:=b4.cell 0
 have f41:=b4.cell 1
 have f42:=b4.cell 2
 have q4:=b4.lt
 simp at f10 f11 f12 f20 f21 f22 f30 f31 f32 f40 f41 f42
 clear b1 b2 b3 b4 kL D6 hA
 go_wp2_with fail
 go_ret
 exact ⟨rfl,jo.out⟩
end Go.Proofs.YtpanebgakndddaaGreat.Ca
namespace Go.Proofs.YtpanebgakndddaaGreat.Ca
open Go Go.RowKit Hp K Fl Rw Hm Ar Mm Me LK Qs Wk Re fp Pc Pn Mq Pu Zp Mx cJ Bs Dl Zr gj gm iT kC
set_option maxRecDepth 100000
abbrev cat (l:List Ct) (i:Nat):Ct:=l.getD i ⟨0,⟨#[]⟩,⟨#[]⟩,0⟩
def vT (w:World) (A:Option Addr) (l:List Ct):Prop:=∀ i,i<l.length->∃ b o:Nat,A=some ⟨b,o,none⟩/\b<w.heap.size/\
 w.cell? ⟨b,o+i*4,none⟩=some (.int .i64 (cat l i).kind)/\w.cell? ⟨b,o+i*4+1,none⟩=some (.string (cat l i).key)/\w.cell? ⟨b,o+i*4+2,none⟩=some (.string (cat l i).val)/\w.cell? ⟨b,o+i*4+3,none⟩=some (.int .i64 (cat l i).size)/\
 ((cat l i).key.size<=140737488355328/\(cat l i).val.size<=140737488355328)/\(-9223372036854775808<=(cat l i).size/\(cat l i).size<=9223372036854775807)
section
variable {W0 w w':World} {M:Mo} {m N:Nat} {A:Option Addr} {cap:Nat} {l:List Pr} {g t:Nat} {c:Ct} {x:Int×Bool×ByteArray} {fl:Bool}
theorem Md {l':List Pr} (hs:vM l) (hd:dz l l' c) (hk:c.key.size<=200/\c.val.size<=200):vM l':=by
 unfold dz at hd
 split at hd
 ·intro p hp
  rcases List.mem_cons.1 (hd.mem_iff.1 hp) with rfl | q
  ·exact hk
  ·exact hs p (List.mem_filter.1 q).1
 split at hd
 ·intro p hp
  exact hs p (List.mem_filter.1 (hd.mem_iff.1 hp)).1
 ·rw [hd]; exact hs
end
end Go.Proofs.YtpanebgakndddaaGreat.Ca
namespace Go.Proofs.YtpanebgakndddaaGreat.Wo
open Go Go.RowKit Hp K Fl Rw Hm Ar Mm Me Wk Pc Mq LK gj gm iT Ca
set_option maxRecDepth 100000
abbrev An:=Int×Bool×ByteArray
def rW (x:An):List Value:=[.int .i64 x.1,.bool x.2.1,.string x.2.2]
theorem LY (x:An):(rW x).length=3:=rfl
abbrev eE (w:World) (A:Option Addr) (cap:Nat) (xs:List An):Prop:=Row w 50 3 rW A cap xs
def pE (c:Ct):List Value:=[.int .i64 c.kind,.string c.key,.string c.val,.int .i64 c.size]
theorem LZ (c:Ct):(pE c).length=4:=rfl
abbrev Bt (w:World) (A:Option Addr) (cap:Nat) (xs:List Ct):Prop:=Row w 34 4 pE A cap xs
theorem L3:(Tryz.prog.info? 50).map (fun i=>(i.zero,i.size,i.bytes))=some (some (.agg #[.int .i64 0,.bool false,.string ⟨#[]⟩]),3,32):=by kernel_rfl
theorem L7:(Tryz.prog.info? 34).map (fun i=>(i.zero,i.size,i.bytes))=some (some (.agg #[.int .i64 0,.string ⟨#[]⟩,.string ⟨#[]⟩,.int .i64 0]),4,48):=by kernel_rfl
def FN (l:List Ct):Prop:=∀ c∈l,(c.key.size<=200/\c.val.size<=200)/\(-9223372036854775808<=c.size/\c.size<=9223372036854775807)
def Maps (l:List Ct) (ls:Nat->List Pr) (k:Nat):Prop:=ls 0=[]/\∀ i,i<k->dz (ls i) (ls (i+1)) (cat l i)
def answers (l:List Ct) (ls:Nat->List Pr) (k:Nat):List An:=(List.range k).map fun i=>dg (ls i) (cat l i)
theorem FO (l:List Ct) (ls:Nat->List Pr) (k:Nat):(answers l ls k).length=k:=by simp [answers]
theorem L9 (l:List Ct) (ls:Nat->List Pr) (k:Nat):answers l ls (k+1)=answers l ls k++[dg (ls k) (cat l k)]:=by simp [answers,List.range_succ]
theorem Ma {l:List Ct} {ls:Nat->List Pr} {k:Nat} {m:List Pr} (h:Maps l ls k) (hd:dz (ls k) m (cat l k)):∃ ls',Maps l ls' (k+1)/\ls' (k+1)=m/\ls' k=ls k/\answers l ls' k=answers l ls k:=by
 refine ⟨fun i=>if i<=k then ls i else m,⟨by simpa using h.1,fun i hi=>?_⟩,by show (if k+1<=k then ls (k+1) else m)=m; rw [if_neg (by omega)],by simp,?_⟩
 ·by_cases e:i=k
  ·subst e
   show dz (if i<=i then ls i else m) (if i+1<=i then ls (i+1) else m) _
   rw [if_pos (Nat.le_refl _),if_neg (by omega)]
   exact hd
  ·have h1:i<=k:=by omega
   have h2:i+1<=k:=by omega
   simp only [h1,h2,if_true]
   exact h.2 i (by omega)
 ·unfold answers
  refine List.map_congr_left fun i hi=>?_
  have:i<=k:=by have:=List.mem_range.1 hi; omega
  simp [this]
theorem FP {l l':List Pr} {c:Ct} (h:dz l l' c):l'.length<=l.length+(if c.kind=1 then 1 else 0):=by
 unfold dz at h
 split at h
 ·rename_i q
  rw [if_pos q.2,h.length_eq,List.length_cons]
  have:=List.length_filter_le (fun p:Pr=>decide (p.1≠c.key)) l
  omega
 split at h
 ·rw [h.length_eq]
  have:=List.length_filter_le (fun p:Pr=>decide (p.1≠c.key)) l
  omega
 ·rw [h]; omega
end Go.Proofs.YtpanebgakndddaaGreat.Wo
namespace Go.Proofs.YtpanebgakndddaaGreat.Wo
open Go Go.RowKit Hp K Fl Rw Hm Ar Mm Me LK Qs Wk Re fp Pc Pn Mq Pu Zp Mx cJ Bs Dl Zr gj gm kC Ca
structure Ws where
 num:Nat
 idx:Nat
 br:Int
 left:List Ct
 run:Option (Ct×Cl)
def j9 (l:List Ct) (n:Nat):Nat:=((l.take n).filter fun c=>decide (c.kind=1)).length
def cost (l:List Ct) (n:Nat):Nat:=(n-j9 l n)*(352+198*j9 l n)+38*j9 l n
section
variable {l:List Ct} {ls:Nat->List Pr} {n k:Nat}
theorem D1:j9 l n<=n:=by
 unfold j9
 have h1:=List.length_filter_le (fun c:Ct=>decide (c.kind=1)) (l.take n)
 have h2:=List.length_take_le n l
 omega
theorem Kj (hn:n<l.length):j9 l (n+1)=j9 l n+(if (cat l n).kind=1 then 1 else 0):=by
 have e:l[n]?=some (cat l n):=by simp [cat,List.getD,hn]
 unfold j9
 rw [List.take_add_one,e,List.filter_append,List.length_append]
 generalize cat l n=c at*
 by_cases h:c.kind=1<;>simp [h]
theorem VD (hn:n<l.length):cost l n+(if (cat l n).kind=1 then 38 else 352+198*j9 l n)<=cost l (n+1):=by
 have hp:=D1 (l:=l) (n:=n)
 unfold cost
 rw [Kj hn]
 generalize j9 l n=p at*
 by_cases h:(cat l n).kind=1
 ·rw [if_pos h,if_pos h]
  have h1:n+1-(p+1)=n-p:=by omega
  rw [h1]
  have h2:(n-p)*(352+198*p)<=(n-p)*(352+198*(p+1)):=Nat.mul_le_mul_left _ (by omega)
  omega
 ·rw [if_neg h,if_neg h]
  simp only [Nat.add_zero]
  have h1:n+1-p=(n-p)+1:=by omega
  rw [h1,Nat.add_mul (n-p) 1,Nat.one_mul]
  omega
theorem VE:∀ p,p<=20->(20-p)*(352+198*p)+38*p<=25000:=by decide
theorem Kk (hn:n<=20):cost l n<=25000:=by
 have hp:=D1 (l:=l) (n:=n)
 have h1:=VE (j9 l n) (by omega)
 have h2:(n-j9 l n)*(352+198*j9 l n)<=(20-j9 l n)*(352+198*j9 l n):=Nat.mul_le_mul_right _ (by omega)
 unfold cost
 omega
theorem VF (h:Maps l ls k) (hk:k<=l.length):∀ n,n<=k->(ls n).length<=j9 l n:=by
 intro n
 induction n with
 | zero=>intro _; rw [h.1]; simp
 | succ n ih=>
   intro hn
   have h1:=ih (by omega)
   have h2:=FP (h.2 n (by omega))
   rw [Kj (by omega)]
   omega
def Idle (L:Lm) (ls:Nat->List Pr) (n nb G:Nat):Prop:=∃ (B:Nat) (cs:Nat->List Mq.Hp),Mp L nb B cs (ls n) G/\G<=n/\jS L n/\nb<=64/\(ls n).length+L.ws.length<=n/\L.ss.length=30/\L.k=2
theorem Idle.VG {L:Lm} {nb G:Nat} (h:Idle L ls n nb G) (hM:Maps l ls l.length) (hn:n<l.length) (hl:l.length<=20) (lF:(cat l n).size<=64\/65536<(cat l n).size) {C:Cl} (hC:iV 1 (cat l n) C):
 ∃ (R:Nat->Lm×Cl->Prop) (k:Nat),cost l n+k<=cost l (n+1)/\R k (L,C)/\mE R (nU L (ls n) nb G n (cat l n)):=by
 obtain ⟨B,cs,h1,h2,h3,h4,h5,h6,h7⟩:=h
 have pz:=VF hM (Nat.le_refl _) n (by omega)
 have ic:=D1 (l:=l) (n:=n)
 obtain ⟨R,k,r1,r2,r3⟩:=F9 h1 (by omega) (by omega) h3 (by omega) h4 lF (by rw [h7]; decide) hC (by omega)
 refine ⟨R,k,?_,r2,r3⟩
 have hc:=VD hn
 unfold qN at r1
 by_cases q:(cat l n).kind=1
 ·rw [if_pos q] at r1 hc
  omega
 ·rw [if_neg q] at r1 hc
  have:198*(ls n).length<=198*j9 l n:=Nat.mul_le_mul_left _ pz
  omega
theorem Idle.ends {L L1:Lm} {C1:Cl} {nb G:Nat} (h:Idle L ls n nb G) (hM:Maps l ls l.length) (hn:n<l.length) (hl:l.length<=20) (lF:(cat l n).size<=64\/65536<(cat l n).size) (hE:nU L (ls n) nb G n (cat l n) (L1,C1)):
 da C1=dg (ls n) (cat l n)/\C1.done=true/\bU C1=0/\∃ nb' G',Idle L1 ls (n+1) nb' G':=by
 obtain ⟨B,cs,h1,h2,h3,h4,h5,h6,h7⟩:=h
 obtain ⟨e1,e2,e3,e4,e5,nb',B',G',cs',e6,e7,e8⟩:=hE
 have hq:=(Mp.vP h1).2
 have cC:fW L.ss≠none:=fun q=>by
  have:=(BE L.ss).1 q
  have e:(dX L.ss L.ss.length).length+L.ws.length+(ls n).length=L.ss.length:=hq
  omega
 rcases e8 with ⟨_,_,q,_⟩ | ⟨_,q1,q2⟩
 ·exact absurd q cC
 ·obtain ⟨p1,p2⟩:=q2 _ (hM.2 n hn)
  have hb:=FM.eG p1.pw
  refine ⟨q1,e1,e2,nb',G',B',cs',p1,by omega,e5,?_,?_,e3.trans h6,e4.trans h7⟩
  ·rcases e6 with rfl | e6
   ·exact h4
   ·omega
  ·have p2:(ls (n+1)).length+L1.ws.length<=(ls n).length+L.ws.length+1:=p2
   omega
def Wv (l:List Ct) (ls:Nat->List Pr) (d st n:Nat) (last now:Int) (L:Lm) (s:Ws):Prop:=
 s.num=1/\s.idx=n/\n<=l.length/\now=((d*st:Nat):Int)/\last<now/\match s.run with
  | none=>s.left=l.drop n/\st<=cost l n/\∃ nb G,Idle L ls n nb G
  | some (c,C)=>n<l.length/\c=cat l n/\s.left=l.drop (n+1)/\last<s.br/\s.br<now/\∃ (L0:Lm) (nb G:Nat) (R:Nat->Lm×Cl->Prop) (k:Nat),Idle L0 ls n nb G/\R k (L,C)/\mE R (nU L0 (ls n) nb G n c)/\st+k<=cost l (n+1)
def iE (s:Ws) (now:Int) (L:Lm) (c:Ct) (C:Cl) (br:Int) (left:List Ct):Ws:=
 if dI L C=true then ⟨s.num,s.idx+1,br,left,none⟩ else ⟨s.num,s.idx,br,left,some (c,(bJ L C).2)⟩
theorem Wv.oZ {d st:Nat} {last now br:Int} {L:Lm} {s:Ws} {C:Cl} {left:List Ct} (hd:1<=d) (hM:Maps l ls l.length) (hl:l.length<=20) (lF:(cat l n).size<=64\/65536<(cat l n).size) (eW:s.num=1) (LO:s.idx=n) (hn:n<l.length) (bV:now=((d*st:Nat):Int)) (XI:last<br) (Yp:br<=now) (LP:left=l.drop (n+1))
 {L0:Lm} {nb G k:Nat} {R:Nat->Lm×Cl->Prop} (hI:Idle L0 ls n nb G) (hR:R k (L,C)) (eX:mE R (nU L0 (ls n) nb G n (cat l n))) (bR:st+k<=cost l (n+1)):
 (dI L C=true->da (bJ L C).2=dg (ls n) (cat l n)/\(bJ L C).2.done=true/\bU (bJ L C).2=0/\Wv l ls d (st+1) (n+1) now (now+d) (bJ L C).1 (iE s now L (cat l n) C br left))/\
 (dI L C=false->Wv l ls d (st+1) n last (now+d) (bJ L C).1 (iE s now L (cat l n) C br left)):=by
 obtain ⟨r1,r2,r3,r4,r5⟩:=eX k _ hR
 have fz:((d*(st+1):Nat):Int)=((d*st:Nat):Int)+(d:Int):=by rw [Nat.mul_succ]; omega
 constructor
 ·intro q
  have hE:=r4 q
  obtain ⟨a1,a2,a3,nb',G',a4⟩:=hI.ends hM hn hl lF hE
  refine ⟨a1,a2,a3,?_⟩
  unfold iE
  rw [if_pos q]
  refine ⟨eW,by show s.idx+1=n+1; rw [LO],hn,by rw [fz,bV],by omega,LP,by omega,nb',G',a4⟩
 ·intro q
  have hE:=r5 q
  unfold iE
  rw [if_neg (by rw [q]; simp)]
  refine ⟨eW,LO,by omega,by rw [fz,bV],by omega,hn,rfl,LP,XI,by show br<now+(d:Int); omega,L0,nb,G,R,k-1,hI,hE,eX,by omega⟩
end
end Go.Proofs.YtpanebgakndddaaGreat.Wo
namespace Go.Proofs.YtpanebgakndddaaGreat.GW
open Go Go.RowKit Hp
theorem run_copy_cells {P:Program} (w:World) (dT sT ty elem:TypeId) (size g dLen dCap:Nat) (sp:Option Addr) (sLen sCap n:Nat) (cur:List Value) (t:TypeId) (cs:List Value)
 (hu:P.underlying dT=some (.slice elem)) (hs:(P.info? elem).map (·.size)=some size)
 (hg:w.heap[g]?=some (.cells cur.toArray t (0,0))) (hn:Nat.min sLen dLen=n) (hc:cs.length=n*size)
 (uT:n≠0->∃ a,sp=some a/\∀ j v,cs[j]?=some v->w.cell? (a.add j)=some v) (xJ:cs.length<=cur.length) (h1:∀ v∈cs,v.oneCell'=true):
 (Builtin.copy_ #[dT,sT] ty #[.slice (some ⟨g,0,none⟩) dLen dCap,.slice sp sLen sCap]).run P w=.ok (goInt n) (w.setRow g (cs++cur.drop cs.length).toArray):=by
 cases hq:P.info? elem with
 | none=>simp [hq] at hs
 | some i=>
   have hi:i.size=size:=by simpa [hq] using hs
   have bR:=run_storeCells_at P g 0 t cs 0 cur.toArray w hg (by simpa using xJ) h1
   by_cases h0:n=0
   ·subst h0
    have fg:cs=[]:=List.eq_nil_of_length_eq_zero (by rw [hc,Nat.zero_mul])
    subst fg
    have hl:∀ (x:Addr),(loadCells x 0).run P w=.ok #[] w:=fun x=>by simpa using run_loadCells_list (P:=P) w x [] (by simp)
    have iA:w.setRow g ([]++cur.drop 0).toArray=w:=by simpa using setRow_self w g _ t (0,0) hg
    cases sp<;>simp [Builtin.copy_,run_underlying hu,Builtin.lenOf,Builtin.firstCells,sizeOf,typeInfo,hq,hi,hn,storeCells,hl]<;>simpa using iA.symm
   ·obtain ⟨a,rfl,Ec⟩:=uT h0
    have hl:=run_loadCells_list (P:=P) w a cs Ec
    simp [Builtin.copy_,run_underlying hu,Builtin.lenOf,Builtin.firstCells,sizeOf,typeInfo,hq,hi,hn,<-hc,hl,bR]
theorem Of {P:Program} {w:World} {ops:Array Oper} {rest:List Oper} {o:Oper} {a:Act} {Q:Exit->Act->World->Prop} (qi:o.guard=none) (d s:Operand) (dT sT:TypeId)
 (ho:o.op=.call {callee:=.builtin .copy,args:=#[d,s],argTypes:=#[dT,sT]}) (elem:TypeId) (hu:P.underlying dT=some (.slice elem)) (size:Nat) (cA:(P.info? elem).map (·.size)=some size)
 (g dLen dCap:Nat) (sp:Option Addr) (sLen sCap n:Nat) (hd:a.eval d=.slice (some ⟨g,0,none⟩) dLen dCap) (hs:a.eval s=.slice sp sLen sCap)
 (cur:List Value) (t:TypeId) (hg:w.heap[g]?=some (.cells cur.toArray t (0,0))) (cs:List Value) (hn:Nat.min sLen dLen=n) (hc:cs.length=n*size)
 (uT:n≠0->∃ a,sp=some a/\∀ j v,cs[j]?=some v->w.cell? (a.add j)=some v) (xJ:cs.length<=cur.length) (h1:∀ v∈cs,v.oneCell'=true)
 (h:∀ w',Hid (af w' g t (cs++cur.drop cs.length).toArray)->Hid (ab (·=g) w w')->wpList P ops Q rest (a.put o.dst (goInt n)) w'):wpList P ops Q (o::rest) a w:=by
 refine wpList_plain qi fun K hK=>?_
 have eX:=run_copy_cells (P:=P) w dT sT o.type elem size g dLen dCap sp sLen sCap n cur t cs hu cA hg hn hc uT xJ h1
 unfold Oper.wp
 simp [execOp,ho,resolve,invoke,builtin,hd,hs,eX,Result.andThen]
 exact hK _ _ (h _ (show _=_ by simpa using setRow_heap w g _ _ t _ hg) ⟨rfl,rfl,rfl,by simp [World.setRow],fun k _ hn=>setRow_other w g k _ hn⟩)
end Go.Proofs.YtpanebgakndddaaGreat.GW
namespace Go.Proofs.YtpanebgakndddaaGreat.Wo
open Go Go.RowKit Hp K Fl Rw Hm Ar Mm Me LK Qs Wk Pc Pn Mq Pu Zp Mx cJ Bs Zr Ca
set_option maxRecDepth 100000
def mz (num idx:Int) (c:Ct) (br en:Int) (x:An):Value:=.agg #[.int .i64 num,.int .i64 idx,.int .i64 c.kind,.string c.key,.string c.val,.int .i64 c.size,.int .i64 br,.int .i64 en,.int .i64 x.1,.bool x.2.1,.string x.2.2]
def sg:Value:=mz 0 0 ⟨0,⟨#[]⟩,⟨#[]⟩,0⟩ 0 0 (0,false,⟨#[]⟩)
def lN (s:Ws) (now:Int) (L:Lm) (c:Ct) (C:Cl) (br:Int):Value:=.tuple #[if dI L C=true then mz s.num s.idx c br now (da (bJ L C).2) else sg,.bool (dI L C)]
structure Wp where
 f:Nat
 A:Option Addr
 cap:Nat
 r:Cp
def dy (num:Int) (A:Option Addr) (n cap:Nat) (ix:Int) (run:Value) (ew ei:Int) (c:Ct) (eb:Int):Array Value:=
 #[.int .i64 num,.slice A n cap,.int .i64 ix,run,.int .i64 ew,.int .i64 ei,.int .i64 c.kind,.string c.key,.string c.val,.int .i64 c.size,.int .i64 eb,.int .i64 0,.int .i64 0,.bool false,.string ⟨#[]⟩]
abbrev dt:Ct:=⟨0,⟨#[]⟩,⟨#[]⟩,0⟩
def nB (a:Wp) (s:Ws):Array Value:=match s.run with
 | none=>dy s.num a.A s.left.length a.cap s.idx (.pointer none) 0 0 dt 0
 | some p=>dy s.num a.A s.left.length a.cap (s.idx+1:Nat) (ptr a.r.f) s.num s.idx p.1 s.br
def Ka (cs:Array Value) (o:Nat) (c:Ct):Prop:=cs[o]?=some (.int .i64 c.kind)/\cs[o+1]?=some (.string c.key)/\cs[o+2]?=some (.string c.val)/\cs[o+3]?=some (.int .i64 c.size)
def nC (w:World) (A:Option Addr) (l:List Ct):Prop:=l=[]\/∃ b o cs,A=some ⟨b,o,none⟩/\af w b 31 cs/\∀ i c,l[i]?=some c->Ka cs (o+i*4) c
structure Vk (w:World) (a:Wp) (s:Ws):Prop where
 ao:af w a.f 77 (nB a s)
 uK:nC w a.A s.left
 sz:s.left.length<=a.cap/\s.idx+a.cap+(if s.run.isSome=true then 1 else 0)<=1000
 run:∀ p,s.run=some p->cE.At w a.r p.2
def Vl (a:Wp) (s:Ws) (x:Nat):Prop:=x=a.f\/(s.left≠[]/\In a.A x)\/∃ p,s.run=some p/\cE.aQ a.r p.2 x
abbrev bA:iG Wp Ws:=⟨Wp.f,Vk,Vl⟩
section
variable {w w':World} {M:Mo} {a:Wp} {s:Ws} {A:Option Addr} {l:List Ct} {S:Nat->Prop}
theorem nC.only (h:nC w A l) (ho:ab S w w') (hn:∀ x,l≠[]->In A x->¬S x):nC w' A l:=by
 rcases h with h | ⟨b,o,cs,rfl,hb,hc⟩
 ·exact .inl h
 ·by_cases e:l=[]
  ·exact .inl e
  ·exact .inr ⟨b,o,cs,rfl,hb.only ho (hn b e rfl),hc⟩
theorem nC.ty (h:nC w A l) {x:Nat} (hl:l≠[]) (hx:In A x):Ty w x [31]:=by
 rcases h with h | ⟨b,o,cs,rfl,hb,hc⟩
 ·exact absurd h hl
 ·obtain rfl:b=x:=by simpa [In] using hx
  exact bm hb
theorem xt {C:Cl} {a:Cp} {x:Nat} (h:cE.At w a C) (hx:cE.aQ a C x) {ts:List TypeId} (ht:Ty w x ts) (hd:∀ t∈ts,t∉118::v7):False:=by
 rcases hx with rfl | hx
 ·exact ht.apart (bm h.ao) (fun t q r=>hd t q (by simp at r; simp [r]))
 ·exact zb h.inn hx ht (fun t q r=>hd t q (List.mem_cons_of_mem _ r))
theorem sf (h:bA.At w a s) (ho:ab S w w') (hn:∀ x,bA.aQ a s x->¬S x):bA.At w' a s:=
 ⟨h.ao.only ho (hn _ (.inl rfl)),h.uK.only ho (fun x hl hx=>hn x (.inr (.inl ⟨hl,hx⟩))),h.sz,fun p hp=>BV (h.run p hp) ho (fun x hx=>hn x (.inr (.inr ⟨p,hp,hx⟩)))⟩
theorem sQ (h:bA.At w a s) (hb:Below w.heap.size w w'):bA.At w' a s:=sf h (ab.aA hb (fun _=>False)) (by simp)
theorem Vm {x:Nat} (h:bA.At w a s) (hx:bA.aQ a s x):¬Ty w x [153,50]:=fun q=>by
 rcases hx with rfl | ⟨hl,hx⟩ | ⟨p,hp,hx⟩
 ·exact q.apart (bm h.ao) (by decide)
 ·exact q.apart (h.uK.ty hl hx) (by decide)
 ·exact xt (h.run p hp) hx q (by decide)
theorem xu {x:Nat} (h:bA.At w a s) (hM:ah w M) (hx:bA.aQ a s x):¬aq M x:=fun q=>by
 rcases hx with rfl | ⟨hl,hx⟩ | ⟨p,hp,hx⟩
 ·exact (hM.ty q).apart (bm h.ao) (by decide)
 ·exact (hM.ty q).apart (h.uK.ty hl hx) (by decide)
 ·exact BW (h.run p hp) hM hx q
theorem Kb {t:TypeId} {cs:Array Value} {f:Nat} (hb:af w f t cs) (ht:t∉118::v7) {C:Cl} {r:Cp} (h:cE.At w r C) {x:Nat} (hx:cE.aQ r C x):x≠f:=by
 rintro rfl
 exact xt h hx (bm hb) (by simpa using ht)
theorem vR (h:bA.At w a s):Calls Tryz.prog 11 #[ptr (bA.f a)] w fun e w'=>e=.returned (.bool (decide (s.run.isSome=true\/s.left≠[])))/\Below w.heap.size w w':=by
 obtain ⟨hb,hl,hz,hr⟩:=h
 obtain ⟨num,idx,br,left,run⟩:=s
 obtain ⟨f,A,cap,r⟩:=a
 have hz:left.length<=cap/\idx+cap+(if run.isSome=true then 1 else 0)<=1000:=hz
 have hz:left.length<=1000:=by omega
 cases run with
 | some p=>
   have c3:=hb.cell 3
   simp [nB,dy] at c3
   rw [decide_eq_true (.inl rfl)]
   clear hb hl hr hz
   go_enter Tryz.func11,Tryz.ntmps11
   go_wp2_with fail
   go_ret
   exact ⟨rfl,Below.refl _ _⟩
 | none=>
   have c1:=hb.cell 1
   have c3:=hb.cell 3
   simp [nB,dy] at c1 c3
   have e:decide ((none:Option (Ct×Cl)).isSome=true\/left≠[])=decide (0<left.length):=by
    cases left<;>simp
   have e:decide ((⟨num,idx,br,left,none⟩:Ws).run.isSome=true\/(⟨num,idx,br,left,none⟩:Ws).left≠[])=decide (0<left.length):=e
   rw [e]
   clear e hb hl hr
   generalize left.length=n at*
   by_cases q:0<n
   ·rw [decide_eq_true q]
    have q':(0:Int)<n:=by omega
    go_enter Tryz.func11,Tryz.ntmps11
    go_wp2_with fail
    go_ret
    exact ⟨rfl,Below.refl _ _⟩
   ·rw [decide_eq_false q]
    obtain rfl:n=0:=by omega
    clear q
    go_enter Tryz.func11,Tryz.ntmps11
    go_wp2_with fail
    go_ret
    exact ⟨rfl,Below.refl _ _⟩
end
end Go.Proofs.YtpanebgakndddaaGreat.Wo
namespace Go.Proofs.YtpanebgakndddaaGreat.Wo
open Go Go.RowKit Hp K Fl Rw Hm Ar Mm Me LK Qs Wk Pc Pn Mq Pu Zp Mx cJ Bs Zr Ca
set_option maxRecDepth 100000
def fX (w:World) (f o:Nat):List Value->World
 | []=>w
 | v::r=>fX (w.setCell ⟨f,o,none⟩ v) f (o+1) r
def uL (cs:Array Value) (o:Nat):List Value->Array Value
 | []=>cs
 | v::r=>uL (cs.setIfInBounds o v) (o+1) r
theorem DR {f:Nat} {t:TypeId}:∀ {l:List Value} {o:Nat} {cs:Array Value} {w:World},af w f t cs->af (fX w f o l) f t (uL cs o l)
 | [],_,_,_,h=>h
 | v::r,o,_,_,h=>DR (l:=r) (h.store o v)
theorem sR {f:Nat} {W:World}:∀ {l:List Value} {o:Nat} {w:World},ab (·=f) W w->ab (·=f) W (fX w f o l)
 | [],_,_,h=>h
 | v::r,o,_,h=>sR (l:=r) (h.setCell (p:=⟨f,o,none⟩) (.inl rfl) v)
def o9 (A:Option Addr) (cap:Nat):Option Addr:=if cap=1 then A else A.map (·.add 4)
theorem Kd {A:Option Addr} {cap x:Nat}:In (o9 A cap) x↔In A x:=by
 unfold o9 In
 split
 ·rfl
 ·cases A<;>simp [Addr.add]
theorem Vn {w:World} {A:Option Addr} {cap:Nat} {c:Ct} {r:List Ct} (h:nC w A (c::r)) (hc:cap=1->r=[]):nC w (o9 A cap) r:=by
 by_cases e:r=[]
 ·exact .inl e
 ·rcases h with h | ⟨b,o,cs,rfl,hb,bo⟩
  ·simp at h
  ·refine .inr ⟨b,o+4,cs,?_,hb,fun i c hi=>?_⟩
   ·unfold o9
    rw [if_neg (fun q=>e (hc q))]
    rfl
   ·have:=bo (i+1) c (by simpa using hi)
    rw [show o+4+i*4=o+(i+1)*4 by omega]
    exact this
theorem Vo {w:World} {f:Nat} {t:TypeId} {cs:Array Value} (h:af w f t cs):af w.drew f t cs:=h
abbrev lX (ew ei:Int) (c:Ct) (eb:Int):List Value:=[.int .i64 ew,.int .i64 ei,.int .i64 c.kind,.string c.key,.string c.val,.int .i64 c.size,.int .i64 eb,.int .i64 0,.int .i64 0,.bool false,.string ⟨#[]⟩]
theorem Ke {num:Int} {A:Option Addr} {n cap:Nat} {ix:Int} {run:Value} {ew ei ew' ei' eb eb':Int} {c c':Ct}:uL (dy num A n cap ix run ew ei c eb) 4 (lX ew' ei' c' eb')=dy num A n cap ix run ew' ei' c' eb':=by simp [uL,dy]
theorem Vp {w:World} {f:Nat} {num:Int} {A:Option Addr} {n cap:Nat} {ix:Int} {run:Value} {ew ei ew' ei' eb eb':Int} {c c':Ct} (h:af w f 77 (dy num A n cap ix run ew ei c eb)):
 af (fX w f 4 (lX ew' ei' c' eb')).drew f 77 (dy num A n cap ix run ew' ei' c' eb')/\ab (·=f) w (fX w f 4 (lX ew' ei' c' eb')).drew:=by
 have h1:af (fX w f 4 (lX ew' ei' c' eb')) f 77 (uL (dy num A n cap ix run ew ei c eb) 4 (lX ew' ei' c' eb')):=DR h
 have h2:ab (·=f) w (fX w f 4 (lX ew' ei' c' eb')):=sR (ab.refl _ _)
 rw [Ke] at h1
 generalize fX w f 4 (lX ew' ei' c' eb')=w1 at*
 exact ⟨Vo h1,h2.drew⟩
theorem Vq {num:Int} {A A3:Option Addr} {n cap n3 cap3:Nat} {ix ix3:Int} {run run3:Value} {ew ei eb:Int} {c:Ct}:
 (((dy num A n cap ix run ew ei c eb).setIfInBounds 3 run3).setIfInBounds 1 (.slice A3 n3 cap3)).setIfInBounds 2 (.int .i64 ix3)=dy num A3 n3 cap3 ix3 run3 ew ei c eb:=by simp [dy]
def xw (w:World) (a:Wp) (s:Ws) (c:Ct) (t:List Ct) (now:Int) (e:Ending) (w':World):Prop:=
 e=.returned (.tuple #[])/\∃ (r:Cp) (C:Cl),iV s.num c C/\bA.At w' ⟨a.f,o9 a.A a.cap,a.cap-1,r⟩ ⟨s.num,s.idx,now,t,some (c,C)⟩/\(∀ x,cE.aQ r C x->w.heap.size<=x)/\ab (·=a.f) w w'
set_option maxHeartbeats 2000000 in
theorem zU {w:World} {a:Wp} {s:Ws} {c:Ct} {t:List Ct} (h:bA.At w a s) (h0:s.run=none) (h1:s.left=c::t) (hk:c.key.size<=maxLen) (now:Int):
 Calls Tryz.prog 31 #[ptr a.f,.int .i64 now] w (xw w a s c t now):=by
 obtain ⟨hb,hl,hz,hr⟩:=h
 obtain ⟨num,idx,br,left,run⟩:=s
 obtain ⟨f,A,cap,r⟩:=a
 obtain rfl:run=none:=h0
 obtain rfl:left=c::t:=h1
 clear hr
 replace hz:t.length+1<=cap/\idx+cap<=1000:=hz
 replace hl:nC w A (c::t):=hl
 obtain ⟨b,o,cs,hA,fI,bo⟩:∃ b o cs,A=some ⟨b,o,none⟩/\af w b 31 cs/\∀ i x,(c::t)[i]?=some x->Ka cs (o+i*4) x:=by
  rcases hl with q | q
  ·simp at q
  ·exact q
 obtain rfl:A=some ⟨b,o,none⟩:=hA
 obtain ⟨d0,d1,d2,d3⟩:=bo 0 c rfl
 simp only [Nat.zero_mul,Nat.add_zero] at d0 d1 d2 d3
 rw [<-fI.cell] at d0 d1 d2 d3
 replace hb:af w f 77 (dy num (some ⟨b,o,none⟩) (t.length+1) cap idx (.pointer none) 0 0 dt 0):=hb
 have aL:f≠b:=hb.differ fI (by decide)
 have hN:=Lib.hid (fun w=>show Calls Tryz.prog 52 #[.int .i64 num,.agg #[.int .i64 c.kind,.string c.key,.string c.val,.int .i64 c.size]] w (BX w num c) from GV num c hk w)
 have kP:∀ w3 A3 (r:Cp) (C:Cl),iV num c C->cE.At w3 r C->(∀ x,cE.aQ r C x->w.heap.size<=x)->ab (·=f) w w3->af w3 f 77 (dy num A3 t.length (cap-1) (idx+1:Nat) (ptr r.f) num idx c now)->A3=o9 (some ⟨b,o,none⟩) cap->
  xw w ⟨f,some ⟨b,o,none⟩,cap,r⟩ ⟨num,idx,br,c::t,none⟩ c t now (.returned (.tuple #[])) w3:=by
  intro w3 A3 r C hI hC hf hO hB lB
  subst lB
  refine ⟨rfl,r,C,hI,⟨hB,?_,⟨?_,?_⟩,fun p hp=>?_⟩,hf,hO⟩
  ·refine (Vn (cap:=cap) hl (fun q=>?_)).only hO (fun x hx hi e=>?_)
   ·cases t with
    | nil=>rfl
    | cons _ _=>simp at hz; omega
   ·rw [Kd] at hi
    obtain rfl:b=x:=by simpa [In] using hi
    exact aL e.symm
  ·show t.length<=cap-1
   omega
  ·show idx+(cap-1)+1<=1000
   omega
  ·have hp:some (c,C)=some p:=hp
   simp only [Option.some.injEq] at hp
   subst hp
   exact hC
 have c0:=hb.cell 0
 have c1:=hb.cell 1
 have c2:=hb.cell 2
 have c4:=hb.cell 4
 have c5:=hb.cell 5
 have c6:=hb.cell 6
 have c7:=hb.cell 7
 have c8:=hb.cell 8
 have c9:=hb.cell 9
 have c10:=hb.cell 10
 have c11:=hb.cell 11
 have c12:=hb.cell 12
 have c13:=hb.cell 13
 have c14:=hb.cell 14
 simp [dy] at c0 c1 c2 c4 c5 c6 c7 c8 c9 c10 c11 c12 c13 c14
 have lf:=hb.lt
 have lb:=fI.lt
 have z:∀ i,w.frozen? ⟨f,i,none⟩=false:=fun i=>hb.frozen i
 have z4:=z 4
 have z5:=z 5
 have z6:=z 6
 have z7:=z 7
 have z8:=z 8
 have z9:=z 9
 have z10:=z 10
 have z11:=z 11
 have z12:=z 12
 have z13:=z 13
 have z14:=z 14
 replace hb:=Lib.hid hb
 replace fI:=Lib.hid fI
 replace bo:=Lib.hid bo
 replace hl:=Lib.hid hl
 replace kP:=Lib.hid kP
 replace hk:=Lib.hid hk
 clear z
 obtain ⟨kind,key,val,size⟩:=c
 generalize hn:t.length=n at*
 replace hn:=Lib.hid hn
 show Calls _ _ #[ptr f,.int .i64 now] w _
 obtain ⟨w1,aJ⟩:∃ w1,w1=(fX w f 4 (lX num idx ⟨kind,key,val,size⟩ now)).drew:=⟨_,rfl⟩
 obtain ⟨B1,O1⟩:af w1 f 77 (dy num (some ⟨b,o,none⟩) (n+1) cap idx (.pointer none) num idx ⟨kind,key,val,size⟩ now)/\ab (·=f) w w1:=by rw [aJ]; exact Vp hb.out
 have R1:=fI.out.only O1 (fun q=>aL q.symm)
 replace O1:=Lib.hid O1
 replace B1:=Lib.hid B1
 replace R1:=Lib.hid R1
 go_enter Tryz.func31,Tryz.ntmps31
 go_wp2_with fail
 go_region_held3 (fun w'=>w'.cell? ⟨f,0,none⟩=some (.int .i64 num)/\w'.cell? ⟨f,1,none⟩=some (.slice (some ⟨b,o,none⟩) (n+1) cap)/\w'.cell? ⟨f,2,none⟩=some (.int .i64 idx)/\w'.cell? ⟨b,o,none⟩=some (.int .i64 kind)/\w'.cell? ⟨b,o+1,none⟩=some (.string key)/\w'.cell? ⟨b,o+2,none⟩=some (.string val)/\w'.cell? ⟨b,o+3,none⟩=some (.int .i64 size)) ((go_split_ands; (refine ⟨?_,?_,?_,?_,?_,?_,?_⟩<;>simp [World.cell?_setCell_other, *]))) (fail)
 change Exit.then _ _ _ _ (fX w f 4 (lX num idx ⟨kind,key,val,size⟩ now)).drew
 rw [<-aJ]
 clear z4 z5 z6 z7 z8 z9 z10 z11 z12 z13 z14 c4 c5 c6 c7 c8 c9 c10 c11 c12 c13 c14 c0 c1 c2 lf lb d0 d1 d2 d3
 have c0:=B1.out.cell 0
 have c1:=B1.out.cell 1
 have c3:=B1.out.cell 3
 simp [dy] at c0 c1 c3
 have z3:=B1.out.frozen 3
 have lf:=B1.out.lt
 have lb:=R1.out.lt
 obtain ⟨d0,d1,d2,d3⟩:=bo.out 0 _ rfl
 simp only [Nat.zero_mul,Nat.add_zero] at d0 d1 d2 d3
 rw [<-R1.out.cell] at d0 d1 d2 d3
 clear aJ
 go_wp2_with fail
 go_region_held3 (fun w'=>w'.cell? ⟨f,0,none⟩=some (.int .i64 num)/\w'.cell? ⟨f,1,none⟩=some (.slice (some ⟨b,o,none⟩) (n+1) cap)/\w'.cell? ⟨b,o,none⟩=some (.int .i64 kind)/\w'.cell? ⟨b,o+1,none⟩=some (.string key)/\w'.cell? ⟨b,o+2,none⟩=some (.string val)/\w'.cell? ⟨b,o+3,none⟩=some (.int .i64 size)) ((go_split_ands; (refine ⟨?_,?_,?_,?_,?_,?_⟩<;>simp [World.cell?_setCell_other, *])))
  (first
    | (go_at_call 52
       refine (hN.out _).mono ?_
       rintro e w2 ⟨q,C,rfl,hI,hC,hq,au⟩
       have B2:=B1.out.only ((ab.refl (fun _=>False) w1).drew.trans (ab.aA au (fun _=>False))) (by simp)
       have R2:=R1.out.only ((ab.refl (fun _=>False) w1).drew.trans (ab.aA au (fun _=>False))) (by simp)
       have c0:=B2.cell 0
       have c1:=B2.cell 1
       have c3:=B2.cell 3
       simp [dy] at c0 c1 c3
       have z3:=B2.frozen 3
       have lf:=B2.lt
       have lb:=R2.lt
       obtain ⟨d0,d1,d2,d3⟩:=bo.out 0 _ rfl
       simp only [Nat.zero_mul,Nat.add_zero] at d0 d1 d2 d3
       rw [<-R2.cell] at d0 d1 d2 d3
       replace hI:=Lib.hid hI
       replace hC:=Lib.hid hC
       replace hq:=Lib.hid hq
       replace au:=Lib.hid au
       replace B2:=Lib.hid B2
       replace R2:=Lib.hid R2))
 have hE:Hid (∀ A3,A3=o9 (some ⟨b,o,none⟩) cap->xw w ⟨f,some ⟨b,o,none⟩,cap,r⟩ ⟨num,idx,br,⟨kind,key,val,size⟩::t,none⟩ ⟨kind,key,val,size⟩ t now (.returned (.tuple #[]))
  (((w2.setCell ⟨f,3,none⟩ (ptr q.f)).setCell ⟨f,1,none⟩ (.slice A3 n (cap-1))).setCell ⟨f,2,none⟩ (.int .i64 (idx+1:Nat)))):=Lib.hid (by
  intro A3 lB
  have ae:ab (·=f) w w2:=(O1.out.drew).trans (ab.aA au.out _)
  have an:=(((ab.refl (·=f) w2).setCell (p:=⟨f,3,none⟩) (.inl rfl) (ptr q.f)).setCell (p:=⟨f,1,none⟩) (.inl rfl) (.slice A3 n (cap-1))).setCell (p:=⟨f,2,none⟩) (.inl rfl) (.int .i64 (idx+1:Nat))
  have ay:=((B2.out.store 3 (ptr q.f)).store 1 (.slice A3 n (cap-1))).store 2 (.int .i64 (idx+1:Nat))
  rw [Vq] at ay
  refine kP.out _ A3 q C hI.out (BV hC.out an (fun x hx e=>Kb B2.out (by decide) hC.out hx e)) (fun x hx=>Nat.le_trans O1.out.size (hq.out x hx)) (ae.trans an) ay lB)
 have B3:=B2.out.store 3 (ptr q.f)
 have R3:=R2.out.aB (p:=⟨f,3,none⟩) (fun e=>aL e.symm) (ptr q.f)
 obtain ⟨w3,cX⟩:∃ w3,w3=w2.setCell ⟨f,3,none⟩ (ptr q.f):=⟨_,rfl⟩
 rw [<-cX] at B3 R3 hE ⊢
 clear c0 c1 c3 z3 lf lb d0 d1 d2 d3
 have c1:=B3.cell 1
 have c2:=B3.cell 2
 simp [dy] at c1 c2
 have z1:=B3.frozen 1
 have z2:=B3.frozen 2
 have lf:=B3.lt
 have Yo:(idx:Int)<=1000:=by omega
 have hle:(1:Int)<=n+1:=by omega
 have fz:(n:Int)<=1000:=by omega
 clear cX bo hl hb kP hN O1 B1 R1 hq au hC hI aL fI B2 R2 B3 R3
 by_cases h1:cap=1
 ·obtain rfl:n=0:=by omega
  subst h1
  simp only [Nat.zero_add] at c1
  have hF:=Lib.hid (hE.out (some ⟨b,o,none⟩) (by simp [o9]))
  clear hE
  go_wp2_with fail
  go_end0
  exact hF.out
 ·have hF:=Lib.hid (hE.out (some ⟨b,o+4,none⟩) (by simp [o9,h1,Addr.add]))
  clear hE
  go_wp2_with fail
  go_end0
  exact hF.out
end Go.Proofs.YtpanebgakndddaaGreat.Wo
namespace Go.Proofs.YtpanebgakndddaaGreat.Wo
open Go Go.RowKit Hp K Fl Rw Hm Ar Mm Me LK Qs Wk Pc Pn Mq Pu Zp Mx cJ Bs Zr Ca
set_option maxRecDepth 100000
theorem DS {f g:Nat} {W:World}:∀ {l:List Value} {o:Nat} {w:World},ab (·=f) W w->W.heap.size<=g->ab (·=f) W (fX w g o l)
 | [],_,_,h,_=>h
 | v::r,o,_,h,hg=>DS (l:=r) (h.setCell (p:=⟨g,o,none⟩) (.inr hg) v) hg
theorem Kf {g B:Nat} {W:World}:∀ {l:List Value} {o:Nat} {w:World},Below B W w->B<=g->Below B W (fX w g o l)
 | [],_,_,h,_=>h
 | v::r,o,_,h,hg=>Kf (l:=r) (h.setCell (p:=⟨g,o,none⟩) hg v) hg
theorem DT {f g:Nat} {t:TypeId} {cs:Array Value}:∀ {l:List Value} {o:Nat} {w:World},af w f t cs->f≠g->af (fX w g o l) f t cs
 | [],_,_,h,_=>h
 | v::r,o,_,h,hg=>DT (l:=r) (h.aB (p:=⟨g,o,none⟩) hg v) hg
theorem Vr {num:Int} {A:Option Addr} {n cap:Nat} {ix:Int} {run run':Value} {ew ei eb:Int} {c:Ct}:(dy num A n cap ix run ew ei c eb).setIfInBounds 3 run'=dy num A n cap ix run' ew ei c eb:=by simp [dy]
def DU (w:World) (a:Wp) (s:Ws) (c:Ct) (C:Cl) (now:Int) (e:Ending) (w':World):Prop:=
 e=.returned (mz s.num s.idx c s.br now (da C))/\bA.At w' a ⟨s.num,s.idx+1,s.br,s.left,none⟩/\ab (·=a.f) w w'
def dF (num idx:Int) (c:Ct) (br en:Int) (x:An):Array Value:=#[.int .i64 num,.int .i64 idx,.int .i64 c.kind,.string c.key,.string c.val,.int .i64 c.size,.int .i64 br,.int .i64 en,.int .i64 x.1,.bool x.2.1,.string x.2.2]
set_option maxHeartbeats 2000000 in
theorem nY {w:World} {a:Wp} {s:Ws} {c:Ct} {C:Cl} (h:bA.At w a s) (h0:s.run=some (c,C)) (now:Int):
 Calls Tryz.prog 33 #[ptr a.f,.int .i64 now] w (DU w a s c C now):=by
 have hR:=Lib.hid (fun w1 (hb:Below w.heap.size w w1)=>show Calls Tryz.prog 53 #[ptr a.r.f] w1 fun e w'=>e=.returned (.tuple #[.agg #[.int .i64 (da C).1,.bool (da C).2.1,.string (da C).2.2],.bool C.done])/\Below w1.heap.size w1 w' from BN (GQ (h.run _ h0) hb))
 obtain ⟨hb,hl,hz,hr⟩:=h
 obtain ⟨num,idx,br,left,run⟩:=s
 obtain ⟨f,A,cap,r⟩:=a
 obtain rfl:run=some (c,C):=h0
 replace hz:left.length<=cap/\idx+cap+1<=1000:=hz
 replace hl:nC w A left:=hl
 replace hb:af w f 77 (dy num A left.length cap (idx+1:Nat) (ptr r.f) num idx c br):=hb
 have kP:∀ w3,ab (·=f) w w3->af w3 f 77 (dy num A left.length cap (idx+1:Nat) (.pointer none) 0 0 dt 0)->
  DU w ⟨f,A,cap,r⟩ ⟨num,idx,br,left,some (c,C)⟩ c C now (.returned (mz num idx c br now (da C))) w3:=by
  intro w3 hO hB
  refine ⟨rfl,⟨hB,nC.only hl hO (fun x hx hi e=>?_),⟨hz.1,by show idx+1+cap+0<=1000; omega⟩,fun p hp=>?_⟩,hO⟩
  ·exact (nC.ty hl hx hi).apart (bm (show af w x _ _ from e▸hb)) (by decide)
  ·exact absurd hp (by simp)
 have cc:∀ i,w.cell? ⟨f,i,none⟩=(dy num A left.length cap (idx+1:Nat) (ptr r.f) num idx c br)[i]?:=fun i=>hb.cell i
 have c3:=cc 3
 have c4:=cc 4
 have c5:=cc 5
 have c6:=cc 6
 have c7:=cc 7
 have c8:=cc 8
 have c9:=cc 9
 have c10:=cc 10
 have c11:=cc 11
 have c12:=cc 12
 have c13:=cc 13
 have c14:=cc 14
 simp [dy] at c3 c4 c5 c6 c7 c8 c9 c10 c11 c12 c13 c14
 have lf:=hb.lt
 replace hb:=Lib.hid hb
 replace hl:=Lib.hid hl
 replace kP:=Lib.hid kP
 clear hr
 clear cc
 obtain ⟨kind,key,val,size⟩:=c
 show Calls _ _ #[ptr f,.int .i64 now] w _
 go_enter Tryz.func33,Tryz.ntmps33
 go_upto_region 3 with (fail)
 obtain ⟨w1,aJ⟩:∃ w1,w1=(w.alloc (.cells (dF 0 0 dt 0 0 (0,false,⟨#[]⟩)) 46)).alloc (.cells (dF num idx ⟨kind,key,val,size⟩ br now (0,false,⟨#[]⟩)) 46):=⟨_,rfl⟩
 have d1:Below w.heap.size w w1:=by rw [aJ]; exact (below_1 _ _).trans ((below_1 _ _).mono (by simp))
 have e1:af w1 (w.heap.size+1) 46 (dF num idx ⟨kind,key,val,size⟩ br now (0,false,⟨#[]⟩)):=by
  have:=af.made (w.alloc (.cells (dF 0 0 dt 0 0 (0,false,⟨#[]⟩)) 46)) 46 (dF num idx ⟨kind,key,val,size⟩ br now (0,false,⟨#[]⟩))
  rw [<-aJ] at this
  simpa using this
 have e0:af w1 w.heap.size 46 (dF 0 0 dt 0 0 (0,false,⟨#[]⟩)):=by rw [aJ]; exact (af.made w _ _).alloc _
 have Bo:=Lib.hid (hR.out w1 d1)
 obtain ⟨p,hp⟩:∃ p,p=w.heap.size:=⟨_,rfl⟩
 change Code.wp _ _ _ _ ((w.alloc (.cells (dF 0 0 dt 0 0 (0,false,⟨#[]⟩)) 46)).alloc (.cells (dF num idx ⟨kind,key,val,size⟩ br now (0,false,⟨#[]⟩)) 46))
 rw [<-aJ,<-hp]
 rw [<-hp] at e1 e0
 have b1:=hb.out.only (ab.aA d1 (fun _=>False)) (by simp)
 have c3:=b1.cell 3
 simp [dy] at c3
 have qC:f<p:=by omega
 clear c4 c5 c6 c7 c8 c9 c10 c11 c12 c13 c14 hR aJ lf
 replace d1:=Lib.hid d1
 replace e1:=Lib.hid e1
 replace e0:=Lib.hid e0
 replace b1:=Lib.hid b1
 clear c3
 have c3:w1.cell? ⟨f,3,none⟩=some (ptr r.f):=b1.out.cell 3
 replace hp:=Lib.hid hp
 go_wp2_with fail
 refine Bo.out.mono ?_
 rintro e w2 ⟨rfl,au⟩
 have x1:=e1.out.only (ab.aA au (fun _=>False)) (by simp)
 have x0:=e0.out.only (ab.aA au (fun _=>False)) (by simp)
 have b2:=b1.out.only (ab.aA au (fun _=>False)) (by simp)
 have d2:Below w.heap.size w w2:=d1.out.trans (au.mono d1.out.size)
 generalize hx:da C=xx at*
 obtain ⟨xe,xh,xv⟩:=xx
 have hE:Hid (DU w ⟨f,A,cap,r⟩ ⟨num,idx,br,left,some (⟨kind,key,val,size⟩,C)⟩ ⟨kind,key,val,size⟩ C now (.returned (mz num idx ⟨kind,key,val,size⟩ br now (xe,xh,xv)))
  (fX (fX ((fX w2 (p+1) 8 [.int .i64 xe,.bool xh,.string xv]).setCell ⟨f,3,none⟩ (.pointer none)) f 4 (lX 0 0 dt 0)) p 0 [.int .i64 num,.int .i64 idx,.int .i64 kind,.string key,.string val,.int .i64 size,.int .i64 br,.int .i64 now,.int .i64 xe,.bool xh,.string xv])):=Lib.hid (by
  have fU:=d2.size
  have tJ:=hp.out
  have o1:ab (·=f) w (fX w2 (p+1) 8 [.int .i64 xe,.bool xh,.string xv]):=DS (ab.aA d2 _) (by omega)
  have q1:=DT (l:=[.int .i64 xe,.bool xh,.string xv]) (g:=p+1) (o:=8) b2 (by omega)
  generalize fX w2 (p+1) 8 [.int .i64 xe,.bool xh,.string xv]=w3 at*
  have o2:=o1.setCell (p:=⟨f,3,none⟩) (.inl rfl) (.pointer none)
  have q2:=q1.store 3 (.pointer none)
  rw [Vr] at q2
  generalize w3.setCell ⟨f,3,none⟩ (.pointer none)=w4 at*
  have o3:ab (·=f) w (fX w4 f 4 (lX 0 0 dt 0)):=sR o2
  have q3:af (fX w4 f 4 (lX 0 0 dt 0)) f 77 (uL _ 4 (lX 0 0 dt 0)):=DR q2
  rw [Ke] at q3
  generalize fX w4 f 4 (lX 0 0 dt 0)=w5 at*
  have o4:=DS (l:=[.int .i64 num,.int .i64 idx,.int .i64 kind,.string key,.string val,.int .i64 size,.int .i64 br,.int .i64 now,.int .i64 xe,.bool xh,.string xv]) (g:=p) (o:=0) o3 (by omega)
  have q4:=DT (l:=[.int .i64 num,.int .i64 idx,.int .i64 kind,.string key,.string val,.int .i64 size,.int .i64 br,.int .i64 now,.int .i64 xe,.bool xh,.string xv]) (g:=p) (o:=0) q3 (by omega)
  exact kP.out _ o4 q4)
 have u0:=x1.cell 0
 have u1:=x1.cell 1
 have u2:=x1.cell 2
 have u3:=x1.cell 3
 have u4:=x1.cell 4
 have u5:=x1.cell 5
 have u6:=x1.cell 6
 have u7:=x1.cell 7
 have u8:=x1.cell 8
 have u9:=x1.cell 9
 have u10:=x1.cell 10
 have v8:=x1.frozen 8
 have v9:=x1.frozen 9
 have v10:=x1.frozen 10
 have f3:=b2.cell 3
 have y3:=b2.frozen 3
 have f4:=b2.cell 4
 have y4:=b2.frozen 4
 have f5:=b2.cell 5
 have y5:=b2.frozen 5
 have f6:=b2.cell 6
 have y6:=b2.frozen 6
 have f7:=b2.cell 7
 have y7:=b2.frozen 7
 have f8:=b2.cell 8
 have y8:=b2.frozen 8
 have f9:=b2.cell 9
 have y9:=b2.frozen 9
 have f10:=b2.cell 10
 have y10:=b2.frozen 10
 have f11:=b2.cell 11
 have y11:=b2.frozen 11
 have f12:=b2.cell 12
 have y12:=b2.frozen 12
 have f13:=b2.cell 13
 have y13:=b2.frozen 13
 have f14:=b2.cell 14
 have y14:=b2.frozen 14
 have s0:=x0.cell 0
 have t0:=x0.frozen 0
 have s1:=x0.cell 1
 have t1:=x0.frozen 1
 have s2:=x0.cell 2
 have t2:=x0.frozen 2
 have s3:=x0.cell 3
 have t3:=x0.frozen 3
 have s4:=x0.cell 4
 have t4:=x0.frozen 4
 have s5:=x0.cell 5
 have t5:=x0.frozen 5
 have s6:=x0.cell 6
 have t6:=x0.frozen 6
 have s7:=x0.cell 7
 have t7:=x0.frozen 7
 have s8:=x0.cell 8
 have t8:=x0.frozen 8
 have s9:=x0.cell 9
 have t9:=x0.frozen 9
 have s10:=x0.cell 10
 have t10:=x0.frozen 10
 simp [dy,dF] at u0 u1 u2 u3 u4 u5 u6 u7 u8 u9 u10 f3 f4 f5 f6 f7 f8 f9 f10 f11 f12 f13 f14 s0 s1 s2 s3 s4 s5 s6 s7 s8 s9 s10
 have lf:=b2.lt
 have l1:=x1.lt
 have A8:f≠p+1:=by omega
 have A9:f≠p:=by omega
 clear Bo au x1 x0 b2 d2 kP hb hl d1 e1 e0 b1 c3 hp
 go_wp2_with fail
 exact bodyPost_ret (v:=.agg #[.int .i64 num,.int .i64 idx,.int .i64 kind,.string key,.string val,.int .i64 size,.int .i64 br,.int .i64 now,.int .i64 xe,.bool xh,.string xv])
  (by simp [results,Tryz.results33,go_sem, *]) rfl hE.out
end Go.Proofs.YtpanebgakndddaaGreat.Wo
