/- Walks and plain mathematics, put together in their order: LawFiveA, Made, LawSixA, LawSevenA, FrP, FrW, WalkA, WalkB, WalkC, FinishN, WalkD, GetA, GetB, GetC, Pairs. -/
import Derived.Test.YtpanebgakndddaaGreatMemNew
import Derived.Test.YtpanebgakndddaaGreatFnvWalk
import Derived.Test.YtpanebgakndddaaGreatAwakeOne
import Derived.Test.YtpanebgakndddaaGreatLawTwoA
import Derived.Test.YtpanebgakndddaaGreatAwakeThree
import Derived.Test.YtpanebgakndddaaGreatAwakeFour
import Derived.Test.YtpanebgakndddaaGreatQsbrE
import Derived.Test.YtpanebgakndddaaGreatRetE
import Derived.Test.YtpanebgakndddaaGreatRetL
import Derived.Deep.RegionHeld3
import Derived.Laws.EntriesVeiled
import Derived.Deep.QuietTactic
import Derived.BigQuiet
import Derived.StillTailTactics
import Derived.Deep.DeepCutAuto
import Derived.BigRegion
import Derived.Test.YtpanebgakndddaaGreatFinish
import Derived.Test.YtpanebgakndddaaGreatQsbrD
import Derived.Test.YtpanebgakndddaaGreatFnvMath
set_option linter.unusedVariables false
set_option linter.unusedSimpArgs false
namespace Go.Proofs.YtpanebgakndddaaGreat.yD
open Go Go.RowKit Hp K Fl Rw Hm Ar Mm Me LK
set_option maxRecDepth 100000
theorem one (w:World):Calls Tryz.prog 181 #[] w fun e w'=>e=.returned (.bool true)/\w=w':=(E2.et w).mono fun _ _ h=>⟨h.1,h.2.symm⟩
set_option maxHeartbeats 1000000 in
theorem et (w:World):Calls Tryz.prog 146 #[] w fun e w'=>e=.returned (.bool true)/\Below w.heap.size w w':=by
 have hN:=Lib.hid (Hg 4 2 w (by omega) (by omega))
 go_enter Tryz.func146,Tryz.ntmps146
 go_wp2_with fail
 refine hN.out.mono ?_
 rintro e w1 ⟨M,rfl,hM,aU,hB,h1,h2,h3,h4,h5,h6,h7⟩
 have Ka:=Lib.hid (Cl.mL hM.2.1 0 (by rw [h1]; simp))
 rw [h1,show Cl.nth (1::List.replicate (2+2) 0) 0=1 from rfl] at Ka
 obtain ⟨c0,c1,c2,_⟩:=hM.hd
 have hlen:∀ w',Below w1.heap.size w1 w'->Calls Tryz.prog 185 #[ptr M.g] w' fun e w''=>e=.returned (.int .i64 5)/\w'=w'':=fun w' hb=>by
  have:=(Cl.xW (hM.below hb).2.1)
  rw [h1] at this
  exact this.mono fun _ _ h=>⟨h.1,h.2.symm⟩
 have bU:∀ w',Below w1.heap.size w1 w'->Calls Tryz.prog 64 #[ptr M.m] w' fun e w''=>e=.returned (.agg #[.int .i64 1,.int .i64 4])/\Below w'.heap.size w' w'':=fun w' hb=>by
  have:=pj (hM.below hb) (by rw [h1]; simp)
  rw [h1,h6] at this
  exact this
 have zO:∀ w',Below w1.heap.size w1 w'->w'.cell? ⟨M.m,0,none⟩=some (ptr M.g):=fun w' hb=>(hM.below hb).hd.1
 replace hlen:=Lib.hid hlen
 replace bU:=Lib.hid bU
 replace zO:=Lib.hid zO
 replace hB:=Lib.hid hB
 clear hN hM aU h1 h2 h3 h4 h5 h6 h7
 go_wp2_with (first
  | (go_at_call 90; refine Ka.out.mono ?_; rintro e w' ⟨rfl,hw⟩; obtain rfl:w1=w':=hw.symm)
  | (go_at_call 181; refine (one _).mono ?_; rintro e w' ⟨rfl,rfl⟩))
 refine (Hh.et w1).mono ?_
 rintro e w2 ⟨rfl,ag⟩
 have ej:=zO.out w2 ag
 replace ag:=Lib.hid ag
 go_wp2_with fail
 refine (E3.et w2).mono ?_
 rintro e w3 ⟨rfl,ay⟩
 replace ay:=Lib.hid (ag.out.trans (ay.mono ag.out.size))
 clear ej
 go_wp2_with fail
 refine (E1.et w3).mono ?_
 rintro e w4 ⟨rfl,az⟩
 replace az:=Lib.hid (ay.out.trans (az.mono ay.out.size))
 have VM:=zO.out w4 az.out
 have ux:=Lib.hid (hlen.out w4 az.out)
 have sV:=Lib.hid (bU.out w4 az.out)
 clear c0 c1 c2
 go_wp2_with (first
  | (go_at_call 185; refine ux.out.mono ?_; rintro e w' ⟨rfl,rfl⟩)
  | (go_at_call 64; refine sV.out.mono ?_; rintro e w5 ⟨rfl,bI⟩
     replace bI:=Lib.hid (hB.out.trans ((az.out.trans (bI.mono az.out.size)).mono hB.out.size))))
 go_ret
 exact ⟨rfl,bI.out⟩
/-! ### names-/
end Go.Proofs.YtpanebgakndddaaGreat.yD
namespace Go.Proofs.YtpanebgakndddaaGreat.ff
open Go Go.RowKit Hp K Fl Rw Hm Ar Mm Me
set_option maxRecDepth 100000
def od (w:World) (n k:Nat) (M:Mo) (w':World):Prop:=
 ah w' M/\(∀ x,ao M x->w.heap.size<=x)/\Below w.heap.size w w'/\M.xs=1::List.replicate (k+2) 0/\M.ss=List.replicate n .zero/\M.F=false/\M.hs=List.replicate 6 (-1)/\M.k=k/\M.ds=[(1,k+2)]/\M.ws=[]
theorem mI (n k:Nat) (w:World) (hn:1<=n/\n<=1024) (hk:1<=k/\k<=8):Calls Tryz.prog 6 #[.int .i64 n,.int .i64 k] w fun e w'=>∃ M,e=.returned (ptr M.m)/\od w n k M w':=by
 have hN:=Lib.hid (Hg n k w hn hk)
 go_enter Tryz.func6,Tryz.ntmps6
 go_wp2_with fail
 refine hN.out.mono ?_
 rintro e w1 ⟨M,rfl,hM⟩
 obtain ⟨c0,c1,c2,_⟩:=hM.1.hd
 replace hM:=Lib.hid hM
 clear hN
 go_wp2_with fail
 go_ret
 exact ⟨M,rfl,hM.out⟩
end Go.Proofs.YtpanebgakndddaaGreat.ff
namespace Go.Proofs.YtpanebgakndddaaGreat.ff
open Go Go.RowKit Hp K Fl Rw Hm Ar Mm Me LK Qs
set_option maxRecDepth 100000
set_option maxHeartbeats 1000000 in
theorem et (w:World):Calls Tryz.prog 115 #[] w fun e w'=>e=.returned (.bool true)/\Below w.heap.size w w':=by
 have hN:=Lib.hid (mI 1 2 w (by omega) (by omega))
 go_enter Tryz.func115,Tryz.ntmps115
 go_wp2_with fail
 refine hN.out.mono ?_
 rintro e w1 ⟨M,rfl,hM,aU,hB,h1,h2,h3,h4,h5,h6,h7⟩
 clear hN
 have hE:=Lib.hid (Gf 1 w1)
 replace hM:=Lib.hid hM
 replace aU:=Lib.hid aU
 replace hB:=Lib.hid hB
 replace h1:=Lib.hid h1
 replace h4:=Lib.hid h4
 replace h5:=Lib.hid h5
 clear h2 h3 h6 h7
 go_wp2_with fail
 refine hE.out.mono ?_
 rintro e w2 ⟨rfl,gI,ag⟩
 have hS:=Lib.hid (yv 0 w2)
 replace hM:=Lib.hid (hM.out.below ag)
 replace gI:=Lib.hid gI
 replace ag:=Lib.hid ag
 clear hE
 go_wp2_with fail
 refine hS.out.mono ?_
 rintro e w3 ⟨rfl,dp,ay⟩
 replace hM:=Lib.hid (hM.out.below ay)
 have nY:gr w3 w1.heap.size ⟨1,0,0⟩:=gI.out.only (ab.aD ay (fun _=>False)) (by simp)
 have aH:w1.heap.size≠w2.heap.size:=by have:=gI.out.lt; omega
 have jL:=Lib.hid (hB.out.trans ((ag.out.trans (ay.mono ag.out.size)).mono hB.out.size))
 have zQ:w.heap.size<=w1.heap.size:=hB.out.size
 have zR:w.heap.size<=w2.heap.size:=by have:=ag.out.size; omega
 clear hS gI hB ag ay
 generalize w1.heap.size=fe at*
 generalize w2.heap.size=fs at*
 have eY:=Qx hM.out nY (by simp) (by rw [h1.out]; simp) (by simp) (by simp) 9 (by omega)
 have e1:fin (fun _=>true) sf (fun s=>decide (s.2.at_=1)) 9 (M.xs,(⟨1,0,0⟩:Cm))=(2,true,[1,0,0,1,0],⟨1,2,1⟩):=by rw [h1.out]; rfl
 rw [e1] at eY
 replace eY:=Lib.hid eY
 replace dp:=Lib.hid dp
 replace zQ:=Lib.hid zQ
 replace zR:=Lib.hid zR
 replace aH:=Lib.hid aH
 clear e1 nY
 go_wp2_with fail
 refine eY.out.mono ?_
 rintro e w4 ⟨rfl,dS,qU,aL⟩
 have fU:cZ w4 fs ⟨0,0,0,0⟩:=dp.out.only aL (by
  rintro (q | q)
  ·exact (dp.out.aA hM.out) q
  ·exact aH.out q.symm)
 have aP:=Hk (n:=2) dS fU h5.out ⟨by omega,by simp,by simp,by rw [h4.out]; simp,by simp,by simp,by simp⟩ 9 (by omega)
 have e2:fin tR (tS 2) sg 9 ([1,0,0,1,0],M.hs,(⟨0,0,0,0⟩:Wt))=(3,false,[2,0,0,1,0],[0, -1, -1, -1, -1, -1],⟨0,2,2,1⟩):=by rw [h4.out]; rfl
 rw [e2] at aP
 replace aP:=Lib.hid aP
 replace aL:=Lib.hid aL
 replace dS:=Lib.hid dS
 clear e2 qU fU eY
 go_wp2_with fail
 refine aP.out.mono ?_
 rintro e w5 ⟨rfl,gV,lR,bJ⟩
 have low:∀ (a b:World) (f:Nat),Below w.heap.size w a->ab (fun x=>ao M x\/x=f) a b->w.heap.size<=f->Below w.heap.size w b:=fun a b f ha ho hf=>ha.trans (ho.toBelow ha.size (fun x hx q=>by
  rcases q with q | q
  ·have:=aU.out x q; omega
  ·omega))
 replace low:=Lib.hid low
 have bI:=low.out _ _ _ (low.out _ _ _ jL.out aL.out zQ.out) bJ zR.out
 have hL:=Lib.hid (Gg 1 w5)
 replace gV:=Lib.hid gV
 replace lR:=Lib.hid lR
 replace bI:=Lib.hid bI
 clear bJ aL dS aP hM dp jL zQ aH
 go_wp2_with fail
 refine hL.out.mono ?_
 rintro e w6 ⟨rfl,ng,gG⟩
 have ja:=gV.out.below gG
 have iP:cZ w6 fs ⟨0,2,2,1⟩:=lR.out.only (ab.aD gG (fun _=>False)) (by simp)
 have zS:w.heap.size<=w5.heap.size:=bI.out.size
 have aH:w5.heap.size≠fs:=by have:=lR.out.lt; omega
 have Kd:=Lib.hid (bI.out.trans (gG.mono zS))
 generalize w5.heap.size=fl at*
 have Ke:Hid (Calls Tryz.prog 152 #[ptr M.m,.int .i64 1] w6 fun e w'=>e=.returned (.bool true)/\∃ n,w'=w6.drewN n):=Lib.hid (Hl ja 1 (by simp) (by omega))
 replace ng:=Lib.hid ng
 replace ja:=Lib.hid ja
 replace iP:=Lib.hid iP
 replace zS:=Lib.hid zS
 replace aH:=Lib.hid aH
 clear gG hL bI gV lR
 go_wp2_with fail
 refine Ke.out.mono ?_
 rintro e w7 ⟨rfl,nq,rfl⟩
 have zT:=ja.out.drewN nq
 have qf:cZ (w6.drewN nq) fs ⟨0,2,2,1⟩:=iP.out.only ((ab.refl (fun _=>False) w6).drewN nq) (by simp)
 have DW:jE (w6.drewN nq) fl 1 0:=ng.out.only ((ab.refl (fun _=>False) w6).drewN nq) (by simp)
 have m5:Below w.heap.size w (w6.drewN nq):=Kd.out.trans ⟨rfl,rfl,rfl,Nat.le_refl _,fun _ _=>rfl⟩
 have VR:=DW.aA zT
 have zU:=qf.aA zT
 generalize w6.drewN nq=w7 at*
 have eM:=Lib.hid (Qy zT DW (by simp) (by omega) 9 (by omega) (by omega))
 replace m5:=Lib.hid m5
 replace qf:=Lib.hid qf
 replace zU:=Lib.hid zU
 clear zT DW ja iP ng Ke Kd VR
 go_wp2_with fail
 refine eM.out.mono ?_
 rintro e w8 ⟨rfl,Kf,VS,DX⟩
 have Kg:cZ w8 fs ⟨0,2,2,1⟩:=qf.out.only DX (by
  rintro (q | q)
  ·exact zU.out q
  ·exact aH.out q.symm)
 have qP:=Lib.hid (low.out _ _ _ m5.out DX zS.out)
 have eO:=Hk (n:=2) Kf Kg h5.out ⟨by omega,by simp,by simp,by simp,by simp,by simp,by simp [Lo.aE]⟩ 9 (by omega)
 have e3:fin tR (tS 2) sg 9 ([2,0,0,1,0].set (2+1) 0,[0, -1, -1, -1, -1, -1],(⟨0,2,2,1⟩:Wt))=(2,true,[2,0,0,0,0],[-1, -1, -1, -1, -1, -1],⟨0,4,2,2⟩):=by rfl
 have zV:Calls Tryz.prog 58 #[ptr M.m,.iface 124 (ptr fs),.int .i64 9] w8 fun e w'=>e=.returned (.tuple #[.int .i64 2,.bool true])/\tT w8 M fs ([2,0,0,0,0],[-1, -1, -1, -1, -1, -1],⟨0,4,2,2⟩) w':=by
  simp only at eO
  rw [e3] at eO
  exact eO
 replace zV:=Lib.hid zV
 clear e3 eO qf zU m5 eM DX VS Kf Kg
 go_wp2_with fail
 refine zV.out.mono ?_
 rintro e w9 ⟨rfl,zW,VT,Kh⟩
 have kE:=Lib.hid (low.out _ _ _ qP.out Kh zR.out)
 replace zW:=Lib.hid zW
 clear zV Kh VT qP
 go_wp2_with fail
 refine (yD.et w9).mono ?_
 rintro e w10 ⟨rfl,sR⟩
 have Ki:=zW.out.below sR
 have hB:=Lib.hid (kE.out.trans (sR.mono kE.out.size))
 have hI:Hid (Calls Tryz.prog 152 #[ptr M.m,.int .i64 1] w10 fun e w'=>e=.returned (.bool false)/\∃ n,w'=w10.drewN n):=Lib.hid (Hl Ki 1 (by simp) (by omega))
 clear Ki sR kE zW
 go_wp2_with (go_at_call 152; refine hI.out.mono ?_; rintro e w' ⟨rfl,nq,rfl⟩)
 go_ret
 exact ⟨rfl,hB.out.trans ⟨rfl,rfl,rfl,Nat.le_refl _,fun _ _=>rfl⟩⟩
end Go.Proofs.YtpanebgakndddaaGreat.ff
namespace Go.Proofs.YtpanebgakndddaaGreat.vr
open Go Go.RowKit Hp K Fl Rw Hm Ar Mm Me LK Qs Re ff
set_option maxRecDepth 100000
structure S7 (W0 w:World) (M:Mo) (D:Dr):Prop where
 mem:ah w M
 dr:df w D
 below:Below W0.heap.size W0 w
 kj:∀ x,ao M x->W0.heap.size<=x
 rQ:∀ x,gC D x->W0.heap.size<=x
 apart:D.left≠[]->∀ y,In D.A y->¬ao M y
section
variable {W0 w w':World} {M M':Mo} {D:Dr}
theorem S7.aA (h:S7 W0 w M D):∀ x,gC D x->¬ao M x:=by
 rintro x (rfl | rfl | ⟨hl,hx⟩)
 ·exact (h.dr.aA h.mem).1
 ·exact (h.dr.aA h.mem).2
 ·exact h.apart hl x hx
theorem S7.down (h:S7 W0 w M D) (hb:Below w.heap.size w w'):S7 W0 w' M D:={h with mem:=h.mem.below hb,dr:=h.dr.below hb,below:=h.below.trans (hb.mono h.below.size)}
theorem S7.fW (h:S7 W0 w M D) (hM:ah w' M') (ho:ab (ao M) w w') (hf:∀ x,ao M' x->ao M x\/w.heap.size<=x):S7 W0 w' M' D:=
 ⟨hM,h.dr.only ho h.aA,h.below.trans (ho.toBelow h.below.size (fun x hx q=>by have:=h.kj x q; omega)),fun x hx=>by
  rcases hf x hx with q | q
  ·exact h.kj x q
  ·have:=h.below.size; omega,h.rQ,fun hl y hy q=>by
  rcases hf y q with q | q
  ·exact h.apart hl y hy q
  ·have:=h.dr.lt (.inr (.inr ⟨hl,hy⟩)); omega⟩
theorem S7.alloc (h:S7 W0 w M D) {ss':List Sl} {F':Bool} (hA:bS w' M.ar M.sb M.fb ss' F') (ho:ab (dM M.ar M.sb M.fb) w w'):S7 W0 w' {M with ss:=ss',F:=F'} D:=
 h.fW (h.mem.qF hA ho) (ho.mono (fun _ _ q=>iX _ q)) (fun _ q=>.inl q)
theorem S7.put (h:S7 W0 w M D) {x:Nat} (hp:cR w M x w'):∃ V' capV',S7 W0 w' {M with V:=V',capV:=capV',ws:=M.ws++[x]} D:=by
 obtain ⟨V',capV',hM,ho,hV⟩:=hp
 refine ⟨V',capV',h.fW hM (ho.mono (fun x _ q=>?_)) (fun x q=>?_)⟩
 ·rcases q with q | q
  ·exact .inl q
  ·exact .inr (.inr (.inr (.inr (.inr q))))
 ·rcases q with q | q | q | q | q | q
  ·exact .inl (.inl q)
  ·exact .inl (.inr (.inl q))
  ·exact .inl (.inr (.inr (.inl q)))
  ·exact .inl (.inr (.inr (.inr (.inl q))))
  ·exact .inl (.inr (.inr (.inr (.inr (.inl q)))))
  ·rcases hV x q with q | q
   ·exact .inl (.inr (.inr (.inr (.inr (.inr q)))))
   ·exact .inr q
theorem S7.rH {n:Nat} (h:S7 W0 w M D) (aH:D.at_≠0->D.left≠[]) (hM:ah w' (aN n M D).1) (hD:df w' (aN n M D).2) (ho:ab (b9 M D) w w'):S7 W0 w' (aN n M D).1 (aN n M D).2:=by
 have hs:=yk (n:=n) (M:=M) (D:=D)
 refine ⟨hM,hD,h.below.trans (ho.toBelow h.below.size (fun x hx q=>?_)),fun x q=>h.kj x (Qu q),fun x q=>?_,Qv h.mem h.apart aH⟩
 ·rcases q with q | q | q
  ·have:=h.kj x q; omega
  ·have:=h.rQ x (.inl q); omega
  ·have:=h.rQ x (.inr (.inl q)); omega
 ·rcases q with q | q | ⟨hl,q⟩
  ·exact h.rQ x (.inl (q.trans hs.2.1))
  ·exact h.rQ x (.inr (.inl (q.trans hs.2.2.1)))
  ·rcases Qw aH hl q with q | q
   ·exact h.kj x q
   ·exact h.rQ x (.inr (.inr q))
theorem Gd {w1:World} {k:Int} {f:Nat} (hM:ah w M) (cr:Below W0.heap.size W0 w) (aU:∀ x,ao M x->W0.heap.size<=x) (hf:w.heap.size<f) (hD:df w1 ⟨f,w.heap.size,0,⟨k,0,0,0⟩,none,0,[]⟩) (hb:Below w.heap.size w w1):
 S7 W0 w1 M ⟨f,w.heap.size,0,⟨k,0,0,0⟩,none,0,[]⟩:=by
 have h0:=cr.size
 refine ⟨hM.below hb,hD,cr.trans (hb.mono h0),aU,?_,fun q=>absurd rfl q⟩
 rintro x (q | q | ⟨q,_⟩)
 ·have q:x=f:=q
  omega
 ·have q:x=w.heap.size:=q
  omega
 ·exact absurd rfl q
end
theorem WZ {n:Nat} {M:Mo} {f fw:Nat} {k:Int} {B:Nat} (hn:1<=n/\n<=8) (hk:M.k=n) (Xm:0<=k/\k<=1000) (hl:0<M.hs.length) (hx:n+2<=M.xs.length) (hw:Wr M.ss M.ws [] B):Pd n M ⟨f,fw,0,⟨k,0,0,0⟩,none,0,[]⟩ B:=
 ⟨by simp,hk,hl,fun _=>⟨rfl,rfl⟩,fun q=>absurd rfl q,fun _=>⟨hn.2,by simp,by simp; omega,hl,hx,⟨by simp,fun _=>by show 0<n; omega⟩,fun q=>absurd rfl q⟩,fun _ _=>rfl,hw⟩
end Go.Proofs.YtpanebgakndddaaGreat.vr
namespace Go.Proofs.YtpanebgakndddaaGreat.Wf
open Go Go.RowKit Hp K Fl Rw Hm Ar Mm Me Qs ff Re vr
set_option maxRecDepth 100000
structure Fr (M:Mo) (D:Dr) (B:Nat):Prop where
 pd:Pd 2 M D B
 zero:∀ i,i<2->Cl.nth M.xs (2+i)=0
 lock:D.at_=0\/(D.at_=1/\D.W.at_=0)\/D.at_=2->Lo.aE M.hs 0= -1
 F:M.F=false
 len:M.ss.length=30
 xl:4<=M.xs.length
def jS (M:Mo) (D:Dr):Nat:=(if D.at_=0 then 0 else ia 2 M D)+(if M.ws=[] then 0 else M.ws.length+6)
section
variable {M:Mo} {D:Dr} {B:Nat}
theorem Fr.qd (h:Fr M D B) (hr:D.at_≠0\/M.ws≠[]):∃ z,Qd 2 M D z:=by
 by_cases h0:D.at_=0
 ·exact ⟨[],h.zero,h.lock,fun _=>⟨hr.resolve_left (fun q=>q h0),rfl⟩,fun q=>absurd h0 q⟩
 ·exact ⟨M.ws,h.zero,h.lock,fun q=>absurd q h0,fun _=>rfl⟩
theorem Fr.ready (h:Fr M D B):fN M D=decide (D.at_≠0\/M.ws≠[]):=by
 by_cases hr:D.at_≠0\/M.ws≠[]
 ·obtain ⟨z,hz⟩:=h.qd hr
  rw [decide_eq_true hr]
  exact (Qd.run h.pd hz).1
 ·rw [decide_eq_false hr]
  have h0:D.at_=0:=by omega
  have hw:M.ws=[]:=Decidable.not_not.1 (fun q=>hr (.inr q))
  simp [fN,h0,hw]
theorem Fr.N9 (h:Fr M D B) (hp:jS M D=0):D.at_=0/\M.ws=[]:=by
 unfold jS at hp
 have hw:M.ws=[]:=by
  by_cases q:M.ws=[]
  ·exact q
  ·rw [if_neg q] at hp; omega
 refine ⟨?_,hw⟩
 by_cases q:D.at_=0
 ·exact q
 ·obtain ⟨z,hz⟩:=h.qd (.inl q)
  have:=(Qd.run h.pd hz).2.1
  rw [if_neg q] at hp
  omega
theorem Fr.N8 (h:Fr M D B):jS M D<=72:=by
 have hc:=h.pd.wr.iB
 rw [h.len] at hc
 have hr:rem 2 D.W<=5:=by
  unfold rem
  split
  ·omega
  split
  ·omega
  split<;>omega
 unfold jS ia
 split<;>split<;>(try split)<;>omega
theorem Fr.iB (h:Fr M D B):(dC M.ss M.ss.length).length+M.ws.length+D.left.length=30:=by
 have hc:=h.pd.wr.iB
 have:=h.len
 omega
theorem Fr.step (h:Fr M D B) (hr:D.at_≠0\/M.ws≠[]) (hd:¬(D.at_=2/\D.left.tail=[])):Fr (aN 2 M D).1 (aN 2 M D).2 B/\jS (aN 2 M D).1 (aN 2 M D).2+1=jS M D/\(aN 2 M D).2.at_≠0:=by
 obtain ⟨z,hz⟩:=h.qd hr
 obtain ⟨r1,r2,r3,r4⟩:=Qd.run h.pd hz
 obtain ⟨q2,m2⟩:=r4 hd
 have hp:=h.pd.step r1 hd
 have bO:(aN 2 M D).2.at_≠0:=by
  unfold aN
  split
  ·simp
  split
  ·show (if D.W.at_=3 then 2 else 1)≠0
   split<;>omega
  ·show (if D.left.tail=[] then 3 else 2)≠0
   split<;>omega
 have hs:(aN 2 M D).1.F=M.F/\(aN 2 M D).1.ss.length=M.ss.length/\(aN 2 M D).1.xs.length=M.xs.length:=by
  unfold aN
  split
  ·exact ⟨rfl,rfl,rfl⟩
  split
  ·unfold aI
   split
   ·simp
   split
   ·simp
   split<;>simp
  ·simp [ib]
 have jb:(D.at_=0->(aN 2 M D).1.ws=[])/\(D.at_≠0->(aN 2 M D).1.ws=M.ws):=by
  constructor
  ·intro q; unfold aN; rw [if_pos q]
  ·intro q; unfold aN; rw [if_neg q]; split<;>rfl
 refine ⟨⟨hp,q2.zero,q2.lock,hs.1.trans h.F,hs.2.1.trans h.len,by rw [hs.2.2]; exact h.xl⟩,?_,bO⟩
 unfold jS
 rw [if_neg bO]
 by_cases h0:D.at_=0
 ·have hw:M.ws≠[]:=hr.resolve_left (fun q=>q h0)
  rw [if_pos h0,if_neg hw,jb.1 h0,if_pos rfl]
  have e:ia 2 M D=M.ws.length+6:=by unfold ia; rw [if_pos h0]; omega
  omega
 ·rw [if_neg h0,jb.2 h0]
  omega
theorem Fr.last (h:Fr M D B) (hd:D.at_=2/\D.left.tail=[]) (f fw:Nat):Fr (aN 2 M D).1 ⟨f,fw,0,⟨2,0,0,0⟩,none,0,[]⟩ B/\jS (aN 2 M D).1 ⟨f,fw,0,⟨2,0,0,0⟩,none,0,[]⟩+1=jS M D:=by
 obtain ⟨k,b1,b2,b3,b4,b5,b6,b7⟩:=h.pd.last hd
 have hlen:(ib M.ss k).length=30:=by simp [ib]; exact h.len
 have hl:=h.lock (.inr (.inr hd.1))
 rw [b1]
 refine ⟨⟨pd_new (by omega) h.pd.k (by omega) h.pd.hl (by show 2+2<=M.xs.length; exact h.xl) b7,h.zero,fun _=>hl,h.F,hlen,h.xl⟩,?_⟩
 unfold jS
 have hm:ia 2 M D=1:=by
  unfold ia
  have aH:=h.pd.some (by omega)
  cases hh:D.left with
  | nil=>exact absurd hh aH
  | cons x r=>
    have:=hd.2
    rw [hh] at this
    simp only [List.tail_cons] at this
    subst this
    rw [if_neg (by omega),if_neg (by omega)]
    rfl
 rw [if_pos rfl,if_neg (by omega:¬D.at_=0),hm]
 show 0+(if M.ws=[] then 0 else M.ws.length+6)+1=1+(if M.ws=[] then 0 else M.ws.length+6)
 omega
theorem Fr.up (h:Fr M D B):Fr M D (B+1):=by
 have hp:=h.pd
 exact ⟨⟨hp.at_,hp.k,hp.hl,hp.zero,hp.some,hp.wt,hp.vt,hp.wr.mono (Nat.le_succ _)⟩,h.zero,h.lock,h.F,h.len,h.xl⟩
theorem Fr.put (h:Fr M D B) {m:Nat} (hm:Least M.ss m) (n:Nd) (V:Option Addr) (c:Nat):Fr {M with ss:=M.ss.set m ⟨true,(ai M.ss m).gen,n⟩,V:=V,capV:=c,ws:=M.ws++[(ai M.ss m).gen*65536+m+1]} D (B+1):=by
 have hp:=h.pd
 refine ⟨⟨hp.at_,hp.k,hp.hl,hp.zero,hp.some,hp.wt,hp.vt,hp.wr.put hm n⟩,h.zero,h.lock,h.F,?_,h.xl⟩
 show (M.ss.set m _).length=30
 simp [h.len]
end
theorem N6 {W0 w:World} {M:Mo} (h:od W0 30 2 M w) (f fw:Nat):Fr M ⟨f,fw,0,⟨2,0,0,0⟩,none,0,[]⟩ 0:=by
 obtain ⟨_,_,_,h1,h2,h3,h4,h5,h6,h7⟩:=h
 refine ⟨pd_new (by omega) h5 (by omega) (by rw [h4]; simp) (by rw [h1]; simp) (by rw [h2,h7]; exact FQ 30 (by omega)),fun i hi=>?_,fun _=>?_,h3,by rw [h2]; simp,by rw [h1]; simp⟩
 ·rw [h1]
  have:i=0\/i=1:=by omega
  rcases this with rfl | rfl<;>rfl
 ·rw [h4]; rfl
end Go.Proofs.YtpanebgakndddaaGreat.Wf
namespace Go.Proofs.YtpanebgakndddaaGreat.Wf
open Go Go.RowKit Hp K Fl Rw Hm Ar Mm Me LK Qs ff Re vr
set_option maxRecDepth 100000
def F8 (D:Dr):Array Value:=#[.int .i64 2,ptr D.f]
structure DS (W0 w:World) (M:Mo) (f:Nat) (D:Dr):Prop where
 s:S7 W0 w M D
 an:af w f 86 (F8 D)
 lo:W0.heap.size<=f
section
variable {W0 w w':World} {M M':Mo} {f:Nat} {D:Dr} {B:Nat}
theorem DS.cells (h:DS W0 w M f D):w.cell? ⟨f,0,none⟩=some (.int .i64 2)/\w.cell? ⟨f,1,none⟩=some (ptr D.f):=⟨h.an.cell 0,h.an.cell 1⟩
theorem DS.Br (h:DS W0 w M f D):¬ao M f:=fun q=>(h.s.mem.ty q).apart (bj h.an) (by decide)
theorem DS.F9 (h:DS W0 w M f D):f≠D.f/\f≠D.fw:=⟨h.an.differ h.s.dr.an (by decide),h.an.differ h.s.dr.wt (by decide)⟩
theorem DS.down (h:DS W0 w M f D) (hb:Below w.heap.size w w'):DS W0 w' M f D:=⟨h.s.down hb,h.an.only (ab.aD hb (fun _=>False)) (by simp),h.lo⟩
theorem DS.below (h:DS W0 w M f D):Below W0.heap.size W0 w:=h.s.below
theorem DS.alloc (h:DS W0 w M f D) {m:Nat} (hm:Least M.ss m) (hg:(ai M.ss m).gen<=1000000) (n:Nd):
 Calls Tryz.prog 17 #[ptr M.ar,dU n] w fun e w'=>e=.returned (.tuple #[.int .u64 ((ai M.ss m).gen*65536+m+1:Nat),.int .i64 0])/\DS W0 w' {M with ss:=M.ss.set m ⟨true,(ai M.ss m).gen,n⟩} f D:=
 (uY h.s.mem.2.2.2.1 n m hm hg).mono fun _ _ q=>⟨q.1,h.s.alloc q.2.1 q.2.2,h.an.only q.2.2 (fun x=>h.Br (iX _ x)),h.lo⟩
theorem DS.put (h:DS W0 w M f D) {x:Nat} (hp:cR w M x w'):∃ V' capV',DS W0 w' {M with V:=V',capV:=capV',ws:=M.ws++[x]} f D:=by
 obtain ⟨V',capV',hS⟩:=h.s.put hp
 obtain ⟨V1,capV1,hM,ho,hV⟩:=hp
 refine ⟨V',capV',hS,h.an.only ho (fun q=>h.Br ?_),h.lo⟩
 rcases q with q | q
 ·exact .inl q
 ·exact .inr (.inr (.inr (.inr (.inr q))))
theorem Oa (w:World) (o:Obj):Below w.heap.size w (w.alloc o):=(Below.refl _ _).alloc (Nat.le_refl _) _
def Gb (W0 w':World) (M:Mo) (e:Ending):Prop:=∃ f fd fw,e=.returned (ptr f)/\DS W0 w' M f ⟨fd,fw,0,⟨2,0,0,0⟩,none,0,[]⟩
theorem F5 (hM:ah w M) (cr:Below W0.heap.size W0 w) (aU:∀ x,ao M x->W0.heap.size<=x):Calls Tryz.prog 16 #[.int .i64 2] w fun e w'=>Gb W0 w' M e:=by
 have hN:=Lib.hid (Gc 2 w)
 have hS:=Lib.hid (fun w1 fd (hf:w.heap.size<fd) (hD:df w1 ⟨fd,w.heap.size,0,⟨2,0,0,0⟩,none,0,[]⟩) (hb:Below w.heap.size w w1)=>Gd hM cr aU hf hD hb)
 clear hM aU
 go_enter Tryz.func16,Tryz.ntmps16
 go_wp2_with fail
 refine hN.out.mono ?_
 rintro e w1 ⟨fd,rfl,hf,hD,hb⟩
 have hE:Hid (Gb W0 (w1.alloc (.cells #[.int .i64 2,ptr fd] 86)) M (.returned (ptr w1.heap.size))):=Lib.hid
  ⟨w1.heap.size,fd,w.heap.size,rfl,(hS.out w1 fd hf hD hb).down (Oa _ _),af.made w1 _ _,Nat.le_trans cr.size hb.size⟩
 clear hf hD hb hS hN
 go_wp2_with fail
 go_ret
 exact hE.out
theorem Bq (h:DS W0 w M f D) (hF:Fr M D B):Calls Tryz.prog 19 #[ptr f,ptr M.m] w fun e w'=>e=.returned (.bool (decide (D.at_≠0\/M.ws≠[])))/\Below w.heap.size w w':=by
 have c1:=h.cells.2
 have hR:=hF.pd.ready h.s.mem h.s.dr
 rw [hF.ready] at hR
 generalize decide (D.at_≠0\/M.ws≠[])=c at*
 replace hR:=Lib.hid hR
 clear h hF
 go_enter Tryz.func19,Tryz.ntmps19
 go_wp2_with fail
 refine hR.out.mono ?_
 rintro e w' ⟨rfl,n,rfl⟩
 go_wp2_with fail
 go_ret
 exact ⟨rfl,rfl,rfl,rfl,Nat.le_refl _,fun _ _=>rfl⟩
theorem F3 (h:DS W0 w M f D) (hn:D.left.length<=1000000):Calls Tryz.prog 21 #[ptr f] w fun e w'=>∃ A cap,e=.returned (.slice A D.left.length cap)/\Below w.heap.size w w':=by
 have c1:=h.cells.2
 have hL:=Lib.hid (Oc h.s.dr hn)
 clear h
 go_enter Tryz.func21,Tryz.ntmps21
 go_wp2_with fail
 refine hL.out.mono ?_
 rintro e w' ⟨A,cap,rfl,_,hb⟩
 have hE:Hid (∃ A' cap',Ending.returned (.slice A D.left.length cap)=.returned (.slice A' D.left.length cap')/\Below w.heap.size w w'):=Lib.hid ⟨A,cap,rfl,hb⟩
 clear hb hL
 go_wp2_with fail
 go_ret
 exact hE.out
theorem F4 (h:DS W0 w M f D) (hF:Fr M D B):Calls Tryz.prog 20 #[ptr f] w fun e w'=>e=.returned (.bool (decide (D.at_=0)))/\Below w.heap.size w w':=by
 have hn:=hF.iB
 have hL:=F3 h (by omega)
 have e:decide (D.at_=0)=decide (D.left.length=0):=by
  by_cases q:D.at_=0
  ·rw [decide_eq_true q,(hF.pd.zero q).1]; rfl
  ·rw [decide_eq_false q]
   have:=hF.pd.some q
   cases hd:D.left with
   | nil=>exact absurd hd this
   | cons x r=>rfl
 rw [e]
 clear e h hF
 generalize D.left.length=n at*
 replace hL:=Lib.hid hL
 by_cases q:n=0
 ·subst q
  clear hn
  rw [decide_eq_true rfl]
  go_enter Tryz.func20,Tryz.ntmps20
  go_wp2_with fail
  refine hL.out.mono ?_
  rintro e w' ⟨A,cap,rfl,hb⟩
  replace hb:=Lib.hid hb
  clear hL
  go_wp2_with fail
  go_ret
  exact ⟨rfl,hb.out⟩
 ·rw [decide_eq_false q]
  have q1:0<n:=by omega
  have q2:((n:Int)==0)=false:=by simp; omega
  have q3:n<=30:=by omega
  clear hn q
  go_enter Tryz.func20,Tryz.ntmps20
  go_wp2_with fail
  refine hL.out.mono ?_
  rintro e w' ⟨A,cap,rfl,hb⟩
  replace hb:=Lib.hid hb
  clear hL
  go_wp2_with fail
  go_ret
  exact ⟨rfl,hb.out⟩
theorem WU (h:S7 W0 w M D) (h1:¬ao M f) (h2:¬gC D f) (h3:W0.heap.size<=f) (i:Nat) (v:Value):S7 W0 (w.setCell ⟨f,i,none⟩ v) M D:=by
 have hO:=(ab.refl (·=f) w).setCell (p:=⟨f,i,none⟩) (.inl rfl) v
 exact ⟨h.mem.only hO (fun x hx q=>h1 (q▸hx)),h.dr.only hO (fun x hx q=>h2 (q▸hx)),h.below.setCell (p:=⟨f,i,none⟩) h3 v,h.kj,h.rQ,h.apart⟩
theorem DS.Od (h:DS W0 w M f D):¬gC D f:=fun q=>by
 rcases q with q | q | ⟨hl,q⟩
 ·exact h.F9.1 q
 ·exact h.F9.2 q
 ·rcases h.s.dr.jT with e | ⟨b,o,cs,e,hb,_⟩
  ·exact hl e
  ·rw [e] at q
   have q:f=b:=by simpa [In,eq_comm] using q
   subst q
   exact h.an.differ hb (by decide) rfl
def yl (W0 w':World) (M:Mo) (f:Nat) (D:Dr) (B:Nat) (e:Ending):Prop:=e=.returned (.tuple #[])/\∃ D',DS W0 w' (aN 2 M D).1 f D'/\Fr (aN 2 M D).1 D' B/\jS (aN 2 M D).1 D'+1=jS M D
set_option maxHeartbeats 1000000 in
theorem F7 (h:DS W0 w M f D) (hF:Fr M D B) (hB:B<=1000000) (hr:D.at_≠0\/M.ws≠[]):Calls Tryz.prog 23 #[ptr f,ptr M.m] w fun e w'=>yl W0 w' M f D B e:=by
 obtain ⟨c0,c1⟩:=h.cells
 have lf:=h.an.lt
 have qM:=h.Br
 have bB:=h.Od
 have aU:=h.lo
 have kZ:=h.s
 have ax:=h.an
 have ax:af w f 86 #[.int .i64 2,ptr D.f]:=ax
 have eK:=hF.ready
 rw [decide_eq_true hr] at eK
 have hT:=Oe kZ.mem kZ.dr (hF.pd.ye hB kZ.apart) eK
 have bs:=fun w2 (q1:ah w2 (aN 2 M D).1) (q2:df w2 (aN 2 M D).2) (q3:ab (b9 M D) w w2)=>show S7 W0 w2 (aN 2 M D).1 (aN 2 M D).2/\af w2 f 86 #[.int .i64 2,ptr D.f] from
  ⟨hS1.rH hF.pd.some q1 q2 q3,ax.only q3 (fun q=>by
   rcases q with q | q | q
   ·exact qM q
   ·exact bB (.inl q)
   ·exact bB (.inr (.inl q)))⟩
 by_cases hd:D.at_=2/\D.left.tail=[]
 ·rw [decide_eq_true hd] at hT
  have bZ:=Lib.hid (fun fd fw=>hF.last hd fd fw)
  have hN:=Lib.hid (fun w2=>Gc 2 w2)
  have eL:=Lib.hid (fun w2 w3 fd (q1:S7 W0 w2 (aN 2 M D).1 (aN 2 M D).2) (q2:af w2 f 86 #[.int .i64 2,ptr D.f]) (hf:w2.heap.size<fd) (hD:df w3 ⟨fd,w2.heap.size,0,⟨2,0,0,0⟩,none,0,[]⟩) (hb:Below w2.heap.size w2 w3)=>
   show yl W0 (w3.setCell ⟨f,1,none⟩ (ptr fd)) M f D B (.returned (.tuple #[])) from by
    have cM:=Gd q1.mem q1.below q1.kj hf hD hb
    have aZ:=q2.only (ab.aD hb (fun _=>False)) (by simp)
    have e3:¬ao (aN 2 M D).1 f:=fun q=>(q1.mem.ty q).apart (bj q2) (by decide)
    have fD:=q2.lt
    have e4:¬gC ⟨fd,w2.heap.size,0,⟨2,0,0,0⟩,none,0,[]⟩ f:=fun q=>by
     rcases q with q | q | ⟨q,_⟩
     ·have q:f=fd:=q
      omega
     ·have q:f=w2.heap.size:=q
      omega
     ·exact q rfl
    obtain ⟨g1,g2⟩:=bZ.out fd w2.heap.size
    exact ⟨rfl,_,⟨s7_set cM e3 e4 aU 1 _,aZ.store 1 (ptr fd),aU⟩,g1,g2⟩)
  replace hT:=Lib.hid hT
  replace bs:=Lib.hid bs
  clear h hF kZ ax eK bB aU qM hr hd
  go_enter Tryz.func23,Tryz.ntmps23
  go_wp2_with fail
  refine hT.out.mono ?_
  rintro e w2 ⟨rfl,q1,q2,q3⟩
  obtain ⟨hS2,au⟩:=bs.out w2 q1 q2 q3
  have c0:=au.cell 0
  have iM:=Lib.hid (hN.out w2)
  have ct:=Lib.hid (fun w3 fd=>eL.out w2 w3 fd jt au)
  simp at c0
  clear hT bs hN eL c1 lf bZ q1 q2 q3 jt
  replace au:=Lib.hid au
  go_wp2_with fail
  refine iM.out.mono ?_
  rintro e w3 ⟨fd,rfl,hf,hD,hb⟩
  have b3:=au.out.only (ab.aD hb (fun _=>False)) (by simp)
  have hE:=Lib.hid (ct.out w3 fd hf hD hb)
  have c1:=b3.cell 1
  have z1:=b3.frozen 1
  simp at c1
  have lf:=b3.lt
  clear iM ct hf hD hb b3 au c0
  go_wp2_with fail
  go_end0
  exact hE.out
 ·rw [decide_eq_false hd] at hT
  obtain ⟨g1,g2,g3⟩:=hF.step hr hd
  have eL:=Lib.hid (fun w2 (q1:S7 W0 w2 (aN 2 M D).1 (aN 2 M D).2) (q2:af w2 f 86 #[.int .i64 2,ptr D.f])=>
   show yl W0 w2 M f D B (.returned (.tuple #[])) from
    ⟨rfl,_,⟨q1,by unfold F8; rw [(yk (n:=2) (M:=M) (D:=D)).2.1]; exact q2,aU⟩,g1,g2⟩)
  replace hT:=Lib.hid hT
  replace bs:=Lib.hid bs
  clear h hF kZ ax eK bB aU qM hr hd g1 g2 g3
  go_enter Tryz.func23,Tryz.ntmps23
  go_wp2_with fail
  refine hT.out.mono ?_
  rintro e w2 ⟨rfl,q1,q2,q3⟩
  obtain ⟨hS2,au⟩:=bs.out w2 q1 q2 q3
  have hE:=Lib.hid (eL.out w2 jt au)
  clear hT bs eL c0 c1 lf q1 q2 q3 jt au
  go_wp2_with fail
  go_end0
  exact hE.out
end
end Go.Proofs.YtpanebgakndddaaGreat.Wf
namespace Go.Proofs.YtpanebgakndddaaGreat.Wk
open Go Go.RowKit Hp K Fl Rw Hm Ar Mm Me
set_option maxRecDepth 100000
abbrev dV (F:Nat):Value:=.func (.func F) #[] #[]
abbrev aS (F:Nat) (v:Value):Value:=.func (.func F) #[v] #[]
structure Wa where
 f:Nat
 cell:Int
 sum:Int
 key:ByteArray
 nx:Nat
 at_:Nat
 first:Nat
 prev:Nat
 read:Nat
 found:Nat
 nd:Nd
def CY (nx f:Nat):Value:=if nx=1 then aS 189 (ptr f) else if nx=2 then aS 223 (ptr f) else dV 233
def Ut (W:Wa):Array Value:=#[.int .i64 W.cell,.int .u32 W.sum,.string W.key,CY W.nx W.f,.int .u64 W.at_,.int .u64 W.first,.int .u64 W.prev,.int .i64 W.read,.int .u64 W.found,.string W.nd.key,.string W.nd.val,.int .u32 W.nd.sum,.int .u64 W.nd.next]
def bX (w:World) (W:Wa):Prop:=af w W.f 237 (Ut W)
def word (xs:List Int) (c:Int):Nat:=if 0<=c/\c<xs.length then (Cl.nth xs c.toNat).toNat else 0
def CZ (xs:List Int) (c:Int):Int:=if 0<=c/\c<xs.length then 0 else 2
def dx (W:Wa) (h:Nat):Wa:=if h=0 then {W with nx:=3} else {W with at_:=h,nx:=2}
def new (f:Nat) (c s:Int) (k:ByteArray):Wa:=⟨f,c,s,k,1,0,0,0,0,0,.zero⟩
section
variable {w w':World} {M:Mo} {W:Wa}
theorem bX.aA (h:bX w W) (hM:ah w M):¬ao M W.f:=fun hx=>(hM.ty hx).apart (bj h) (by decide)
theorem bX.only {S:Nat->Prop} (h:bX w W) (ho:ab S w w') (hn:¬S W.f):bX w' W:=af.only h ho hn
theorem bX.below (h:bX w W) (hb:Below w.heap.size w w'):bX w' W:=h.only (ab.aD hb (fun _=>False)) (by simp)
theorem bX.drewN (h:bX w W) (n:Nat):bX (w.drewN n) W:=h.only ((ab.refl (fun _=>False) w).drewN n) (by simp)
theorem bX.hd (h:bX w W):w.cell? ⟨W.f,0,none⟩=some (.int .i64 W.cell)/\w.cell? ⟨W.f,1,none⟩=some (.int .u32 W.sum)/\w.cell? ⟨W.f,2,none⟩=some (.string W.key)/\w.cell? ⟨W.f,3,none⟩=some (CY W.nx W.f)/\
 w.cell? ⟨W.f,4,none⟩=some (.int .u64 W.at_)/\w.cell? ⟨W.f,5,none⟩=some (.int .u64 W.first)/\w.cell? ⟨W.f,6,none⟩=some (.int .u64 W.prev)/\w.cell? ⟨W.f,7,none⟩=some (.int .i64 W.read)/\w.cell? ⟨W.f,8,none⟩=some (.int .u64 W.found)/\
 w.cell? ⟨W.f,9,none⟩=some (.string W.nd.key)/\w.cell? ⟨W.f,10,none⟩=some (.string W.nd.val)/\w.cell? ⟨W.f,11,none⟩=some (.int .u32 W.nd.sum)/\w.cell? ⟨W.f,12,none⟩=some (.int .u64 W.nd.next):=
 ⟨h.cell 0,h.cell 1,h.cell 2,h.cell 3,h.cell 4,h.cell 5,h.cell 6,h.cell 7,h.cell 8,h.cell 9,h.cell 10,h.cell 11,h.cell 12⟩
theorem bX.cV (h:bX w W) (i:Nat):w.frozen? ⟨W.f,i,none⟩=false:=af.frozen h i
theorem CV (m:Value) (w:World):Calls Tryz.prog 233 #[m] w fun e w'=>e=.returned (.bool true)/\w'=w:=by
 go_enter Tryz.func233,Tryz.ntmps233
 go_wp2
 go_ret
 exact ⟨rfl,rfl⟩
theorem ox (a m:Value) (w:World):Calls Tryz.prog 175 #[a,m] w fun e w'=>e=.returned (.bool true)/\w'=w:=by
 go_enter Tryz.func175,Tryz.ntmps175
 go_wp2
 go_ret
 exact ⟨rfl,rfl⟩
theorem nA (h:bX w W):Calls Tryz.prog 222 #[ptr W.f] w fun e w'=>e=.returned (.bool true)/\bX w' {W with nx:=3}/\ab (·=W.f) w w':=by
 have c3:=h.hd.2.2.2.1
 have z3:=h.cV 3
 have hS:Hid (bX (w.setCell ⟨W.f,3,none⟩ (dV 233)) {W with nx:=3}):=Lib.hid (af.store h 3 _)
 clear h
 go_enter Tryz.func222,Tryz.ntmps222
 go_wp2
 go_ret
 exact ⟨rfl,hS.out,(ab.refl (·=W.f) w).setCell (p:=⟨W.f,3,none⟩) (.inl rfl) _⟩
theorem eg (h:bX w W) (x:Nat):Calls Tryz.prog 208 #[ptr W.f,.int .u64 x] w fun e w'=>e=.returned (.bool (decide (x=0)))/\bX w' (dx W x)/\ab (·=W.f) w w':=by
 by_cases h0:x=0
 ·subst h0
  have hE:=Lib.hid (nA h)
  have hg:dx W 0={W with nx:=3}:=rfl
  rw [hg]
  clear h hg
  go_enter Tryz.func208,Tryz.ntmps208
  go_wp2_with fail
  refine hE.out.mono ?_
  rintro e w1 ⟨rfl,h1,h2⟩
  replace h1:=Lib.hid h1
  replace h2:=Lib.hid h2
  go_wp2_with fail
  go_ret
  exact ⟨rfl,h1.out,h2.out⟩
 ·have hg:dx W x={W with at_:=x,nx:=2}:=by unfold dx; rw [if_neg h0]
  rw [hg,show decide (x=0)=false by simp [h0]]
  have c3:=h.hd.2.2.2.1
  have c4:=h.hd.2.2.2.2.1
  have z3:=h.cV 3
  have z4:=h.cV 4
  have hS:Hid (bX ((w.setCell ⟨W.f,4,none⟩ (.int .u64 x)).setCell ⟨W.f,3,none⟩ (aS 223 (ptr W.f))) {W with at_:=x,nx:=2}):=Lib.hid (af.store (af.store h 4 (.int .u64 x)) 3 (aS 223 (ptr W.f)))
  have e0:((x:Int)==0)=false:=by simp; omega
  clear h hg h0
  go_enter Tryz.func208,Tryz.ntmps208
  go_wp2_with fail
  go_ret
  exact ⟨rfl,hS.out,((ab.refl (·=W.f) w).setCell (p:=⟨W.f,4,none⟩) (.inl rfl) _).setCell (p:=⟨W.f,3,none⟩) (.inl rfl) _⟩
theorem mN (c s:Int) (k:ByteArray) (w:World):Calls Tryz.prog 153 #[.int .i64 c,.int .u32 s,.string k] w fun e w'=>e=.returned (ptr w.heap.size)/\bX w' (new w.heap.size c s k)/\Below w.heap.size w w':=by
 go_enter Tryz.func153,Tryz.ntmps153
 go_wp2
 go_ret
 exact ⟨rfl,af.made w _ _,(Below.refl _ _).alloc (Nat.le_refl _) _⟩
theorem Uu (hM:ah w M) (c:Int) (h0: -9223372036854775808<=c) (h1:c<=9223372036854775807):Calls Tryz.prog 90 #[ptr M.g,.int .i64 c] w fun e w'=>e=.returned (.tuple #[.int .u64 (word M.xs c),.int .i64 (CZ M.xs c)])/\w'=w:=by
 unfold word CZ
 split
 ·rename_i h
  obtain ⟨k,rfl⟩:=Int.eq_ofNat_of_zero_le h.1
  have hv:=Cl.eV hM.2.1.2.2.1 k
  refine (Cl.mL hM.2.1 k (by omega)).mono fun e w' q=>⟨?_,q.2⟩
  rw [q.1,Int.toNat_natCast,Int.toNat_of_nonneg hv.1]
 ·exact (Cl.LP hM.2.1 c h0 h1 (by omega)).mono fun e w' q=>⟨q.1,q.2⟩
theorem vv (hM:ah w M) (hW:bX w W) (hc: -9223372036854775808<=W.cell/\W.cell<=9223372036854775807):
 Calls Tryz.prog 189 #[ptr W.f,ptr M.m] w fun e w'=>e=.returned (.bool (decide (word M.xs W.cell=0)))/\bX w' (dx {W with first:=word M.xs W.cell} (word M.xs W.cell))/\ab (·=W.f) w w':=by
 have hL:=Lib.hid (fun nq=>Uu (hM.drewN nq) W.cell hc.1 hc.2)
 have c0:=hW.hd.1
 have c5:=hW.hd.2.2.2.2.2.1
 have z5:=hW.cV 5
 have d0:=hM.hd.1
 have HW:=Lib.hid hW
 generalize word M.xs W.cell=x at*
 generalize CZ M.xs W.cell=y at*
 clear hM hW hc
 go_enter Tryz.func189,Tryz.ntmps189
 go_wp2_with fail
 go_quiet ((go_at_call 90; exact Calls.quiet_of_same (hL.out _)))
 obtain ⟨w1,aO⟩:∃ w1,w1=w.drewN nq:=⟨_,rfl⟩
 have jx:bX w1 W:=by rw [aO]; exact HW.out.drewN nq
 have aw:ab (·=W.f) w w1:=by rw [aO]; exact (ab.refl _ _).drewN nq
 rw [<-aO]
 clear aO c0 c5 z5 d0 hL
 have c5:=jx.hd.2.2.2.2.2.1
 have z5:=jx.cV 5
 have hS:bX (w1.setCell ⟨W.f,5,none⟩ (.int .u64 x)) {W with first:=x}:=af.store jx 5 _
 have hG:=Lib.hid (eg hS x)
 have ae:=Lib.hid (aw.setCell (p:=⟨W.f,5,none⟩) (.inl rfl) (.int .u64 x))
 clear jx aw hS HW
 go_wp2_with fail
 refine hG.out.mono ?_
 rintro e w2 ⟨rfl,h2,h3⟩
 replace h2:=Lib.hid h2
 replace h3:=Lib.hid (ae.out.trans h3)
 clear ae hG c5 z5
 go_wp2_with fail
 go_ret
 exact ⟨rfl,h2.out,h3.out⟩
end
end Go.Proofs.YtpanebgakndddaaGreat.Wk
namespace Go.Proofs.YtpanebgakndddaaGreat.Wk
open Go Go.RowKit Hp K Fl Rw Hm Ar Mm Me
set_option maxRecDepth 100000
def pl (ss:List Sl) (x:Nat):Option Nat:=if x≠0/\(x-1) % 65536<ss.length/\(ai ss ((x-1) % 65536)).taken=true/\(ai ss ((x-1) % 65536)).gen=(x-1) / 65536 then some ((x-1) % 65536) else none
theorem yo {ss:List Sl} {x k:Nat} (hl:ss.length<=1024):pl ss x=some k↔IsAt ss x k:=by
 unfold pl
 constructor
 ·intro h
  split at h
  ·rename_i q
   injection h with h
   obtain ⟨k',lQ⟩:=(AF hl q.1).2 q.2
   rw [(mH hl lQ).1] at h
   subst h
   exact lQ
  ·simp at h
 ·intro h
  have h2:=mH hl h
  rw [if_pos ⟨h.pos,(AF hl h.pos).1 ⟨k,h⟩⟩,h2.1]
theorem Uv {ss:List Sl} {x:Nat} (hl:ss.length<=1024) (h:pl ss x=none):∃ c,oa ss x c:=by
 rcases EU ss x with ⟨k,hk⟩ | h'
 ·rw [(yo hl).2 hk] at h; simp at h
 ·exact h'
section
variable {w w':World} {M:Mo} {W:Wa}
theorem iX:∀ x,dM M.ar M.sb M.fb x->ao M x:=fun _ h=>.inr (.inr (.inr (.inl h)))
def yZ (w wx:World) (M':Mo) (W:Wa) (nd:Nd) (c:Int) (S:Nat->Prop) (p e:Value):Prop:=
 ∃ b,p=ptr b/\e=.int .i64 c/\w.heap.size<=b/\af wx b 67 #[.string nd.key,.string nd.val,.int .u32 nd.sum,.int .u64 nd.next]/\ah wx M'/\bX wx W/\ab S w wx
theorem I4 {w w2:World} {M':Mo} {nd:Nd} {c:Int} {S:Nat->Prop} (hM:ah w2 M') (hW:bX w2 W) (hO:ab S w w2):
 yZ w (w2.alloc (.cells #[.string nd.key,.string nd.val,.int .u32 nd.sum,.int .u64 nd.next] 67)) M' W nd c S (ptr w2.heap.size) (.int .i64 c):=
 ⟨_,rfl,rfl,hO.size,af.made w2 _ _,hM.alloc _,hW.only ((ab.refl (fun _=>False) _).alloc _) (by simp),hO.alloc _⟩
theorem I5 {w w2 w3:World} {M':Mo} {nd:Nd} {c:Int} {S:Nat->Prop} {b:Nat} {cs:Array Value} (hM:ah w2 M') (hW:bX w2 W) (hO:ab S w w2) (hb:w.heap.size<=b) (hB:af w2 b 67 cs) (bf:cs.size=4)
 (hw:w3=(((w2.setCell ⟨b,0,none⟩ (.string nd.key)).setCell ⟨b,1,none⟩ (.string nd.val)).setCell ⟨b,2,none⟩ (.int .u32 nd.sum)).setCell ⟨b,3,none⟩ (.int .u64 nd.next)):
 yZ w w3 M' W nd c S (ptr b) (.int .i64 c):=by
 have ae:ab (·=b) w2 w3:=by
  rw [hw]
  exact ((((ab.refl (·=b) w2).setCell (p:=⟨b,0,none⟩) (.inl rfl) _).setCell (p:=⟨b,1,none⟩) (.inl rfl) _).setCell (p:=⟨b,2,none⟩) (.inl rfl) _).setCell (p:=⟨b,3,none⟩) (.inl rfl) _
 refine ⟨_,rfl,rfl,hb,?_,hM.only ae (fun x hx e=>(hM.ty hx).apart (bj (e▸hB)) (by decide)),hW.only ae (fun e=>(bj hW).apart (bj (e▸hB)) (by decide)),hO.trans' ae (fun x hx e=>absurd hx (by omega))⟩
 rw [hw]
 have h4:=(((hB.store 0 (.string nd.key)).store 1 (.string nd.val)).store 2 (.int .u32 nd.sum)).store 3 (.int .u64 nd.next)
 obtain ⟨l⟩:=cs
 match l,bf with
 | [_,_,_,_],_=>exact h4
set_option maxHeartbeats 2000000 in
theorem Uw (hM:ah w M) (hW:bX w W) (hx:W.at_<=18446744073709551615) {c:Int} (hb:oa M.ss W.at_ c):
 Calls Tryz.prog 223 #[ptr W.f,ptr M.m] w fun e w'=>e=.returned (.bool true)/\ah w' {M with F:=true}/\bX w' {W with nx:=3}/\ab (fun x=>ao M x\/x=W.f) w w':=by
 have hR:=Lib.hid (fun (w1:World) (ax:Below w.heap.size w w1)=>(KY (hM.below ax).2.2.2.1 hx hb).mono fun e w2 h=>
  show e=.returned (.tuple #[.agg #[.string ⟨#[]⟩,.string ⟨#[]⟩,.int .u32 0,.int .u64 0],.int .i64 c])/\(ah w2 {M with F:=true}/\bX w2 W/\ab (ao M) w w2/\ab (ao M) w1 w2) from
   ⟨h.1,(hM.below ax).qF h.2.1 h.2.2,(hW.below ax).only h.2.2 (fun q=>hW.aA hM (iX _ q)),(ab.aD ax _).trans (h.2.2.mono fun x _ q=>iX _ q),h.2.2.mono fun x _ q=>iX _ q⟩)
 have c4:=hW.hd.2.2.2.2.1
 have d2:=hM.hd.2.2.1
 have lW:=hW.lt
 have lM:=hM.1.lt
 have WN:=Lib.hid (fun x (q:ao M x)=>hM.lt q)
 have hc:(c==0)=false/\(c != 0)=true:=by rcases hb.code with rfl | rfl<;>simp
 obtain ⟨hc1,ej⟩:=hc
 replace hb:=Lib.hid hb
 have HW:=Lib.hid hW
 have nm:=World.new_ne w ⟨M.m,2,none⟩ d2
 have nw:=World.new_ne w ⟨W.f,4,none⟩ c4
 clear hM hW hx
 go_enter Tryz.func223,Tryz.ntmps223
 go_upto_region 1 with (fail)
 go_cut [5,6] (fun p e wx=>yZ w wx {M with F:=true} W .zero c (ao M) p e)
 case first=>
  go_region_held3 (fun w'=>w'.cell? ⟨M.m,2,none⟩=some (ptr M.ar)/\w'.cell? ⟨W.f,4,none⟩=some (.int .u64 W.at_)) (go_keep)
   (first
     | (go_at_call 156
        refine (hR.out w.drew ⟨rfl,rfl,rfl,Nat.le_refl _,fun _ _=>rfl⟩).mono ?_
        rintro e w2 ⟨rfl,aB,eR,ae,_⟩
        have d2':=aB.hd.2.2.1
        have c4':=eR.hd.2.2.2.2.1
        simp only at d2'
        have fK:=ae.size
        replace aB:=Lib.hid aB
        replace eR:=Lib.hid eR
        replace ae:=Lib.hid ae)
     | (go_at_call 156
        refine (hR.out (w.alloc (.cells #[.string ⟨#[]⟩,.string ⟨#[]⟩,.int .u32 0,.int .u64 0] 67)).drew (((Below.refl w.heap.size w).alloc (Nat.le_refl _) _).trans ⟨rfl,rfl,rfl,by simp,fun _ _=>rfl⟩)).mono ?_
        rintro e w2 ⟨rfl,aB,eR,ae,aq⟩
        have ag:af w2 w.heap.size 67 #[.string ⟨#[]⟩,.string ⟨#[]⟩,.int .u32 0,.int .u64 0]:=af.only (w:=(w.alloc (.cells #[.string ⟨#[]⟩,.string ⟨#[]⟩,.int .u32 0,.int .u64 0] 67)).drew) (af.made w _ _) aq (fun q=>Nat.lt_irrefl _ (WN.out _ q))
        have d2':=aB.hd.2.2.1
        have c4':=eR.hd.2.2.2.2.1
        simp only at d2'
        have fK:=ae.size
        have k0:=ag.cell 0
        have k1:=ag.cell 1
        have k2:=ag.cell 2
        have k3:=ag.cell 3
        simp at k0 k1 k2 k3
        have y0:=ag.frozen 0
        have y1:=ag.frozen 1
        have y2:=ag.frozen 2
        have y3:=ag.frozen 3
        replace aB:=Lib.hid aB
        replace eR:=Lib.hid eR
        replace ae:=Lib.hid ae
        replace ag:=Lib.hid ag))
  all_goals
   go_wp2_with fail
   go_meet
   first
    | exact I4 (nd:=.zero) aB.out eR.out ae.out
    | exact I5 (nd:=.zero) aB.out eR.out ae.out (Nat.le_refl _) ag.out rfl rfl
 case rest=>
  obtain ⟨b,rfl,rfl,cr,hB,av,jx,aw⟩:=zx
  have hE:=Lib.hid (nA jx)
  have hK:=Lib.hid (fun (w3:World) (ho:ab (·=W.f) wc w3)=>(⟨hM1.only ho (fun x hx e=>jx.aA av (e▸hx)),(aw.mono (fun _ _ q=>.inl q)).trans' ho (fun _ _ q=>.inr q)⟩:ah w3 {M with F:=true}/\ab (fun x=>ao M x\/x=W.f) w w3))
  clear hB av jx aw cr c4 d2 hR
  go_wp2_with fail
  refine hE.out.mono ?_
  rintro e w3 ⟨rfl,dp,aq⟩
  have uU:=Lib.hid (hK.out w3 aq)
  replace dp:=Lib.hid dp
  clear hE aq hK
  go_wp2_with fail
  go_ret
  exact ⟨rfl,uU.out.1,dp.out,uU.out.2⟩
end
end Go.Proofs.YtpanebgakndddaaGreat.Wk
namespace Go.Proofs.YtpanebgakndddaaGreat.Wk
open Go Go.RowKit Hp K Fl Rw Hm Ar Mm Me
set_option maxRecDepth 100000
def ma (W:Wa) (n:Nd):Bool:=decide (n.sum=W.sum/\n.key=W.key)
def looks (W:Wa) (n:Nd):Wa:=if ma W n=true then {W with read:=W.read+1,found:=W.at_,nd:=n,nx:=3} else dx {W with read:=W.read+1,prev:=W.at_} n.next.toNat
theorem FA {a b:ByteArray} (h:a≠b):(a.toList==b.toList)=false:=by
 rw [ByteArray.toList_eq,ByteArray.toList_eq,beq_eq_false_iff_ne]
 intro e
 exact h (ByteArray.ext (Array.toList_inj.1 e))
def ny (W:Wa) (n:Nd):Bool:=ma W n||decide (n.next.toNat=0)
section
variable {w w':World} {M:Mo} {W:Wa}
set_option maxHeartbeats 4000000 in
theorem look_ok (hM:ah w M) (hW:bX w W) (hx:W.at_<=18446744073709551615) {k:Nat} (ha:aV M.ss W.at_ k) (hN:fg M.ss) (hr:W.read<=4611686018427387904):
 Calls Tryz.prog 223 #[ptr W.f,ptr M.m] w fun e w'=>e=.returned (.bool (ny W (ai M.ss k).nd))/\bX w' (looks W (ai M.ss k).nd)/\ab (·=W.f) w w':=by
 obtain ⟨n,hn⟩:∃ n,n=(ai M.ss k).nd:=⟨_,rfl⟩
 have hR:=Lib.hid (fun (w1:World) (ax:Below w.heap.size w w1)=>(xN (hM.below ax).2.2.2.1 hx ha).mono fun e w2 h=>
  show e=.returned (.tuple #[.agg #[.string n.key,.string n.val,.int .u32 n.sum,.int .u64 n.next],.int .i64 0])/\(ah w2 M/\bX w2 W/\Below w.heap.size w w2/\Below w1.heap.size w1 w2) from
   ⟨by rw [hn]; exact h.1,(hM.below ax).below h.2,(hW.below ax).below h.2,ax.trans (h.2.mono ax.size),h.2⟩)
 have c4:=hW.hd.2.2.2.2.1
 have d2:=hM.hd.2.2.1
 have lW:=hW.lt
 have lM:=hM.1.lt
 have HW:=Lib.hid hW
 have nm:=World.new_ne w ⟨M.m,2,none⟩ d2
 have nw:=World.new_ne w ⟨W.f,4,none⟩ c4
 rw [<-hn]
 have fR:=(hN.at k).1
 rw [<-hn] at fR
 have mn:=(hN.at k).2
 generalize nx M.ss k=z at*
 have hz:n.next.toNat=z:=by rw [fR]; rfl
 replace fR:=Lib.hid fR
 replace hz:=Lib.hid hz
 clear hM hW hx hn ha hN
 go_enter Tryz.func223,Tryz.ntmps223
 go_upto_region 1 with (fail)
 go_cut [5,6] (fun p e wx=>yZ w wx M W n 0 (fun _=>False) p e)
 case first=>
  go_region_held3 (fun w'=>w'.cell? ⟨M.m,2,none⟩=some (ptr M.ar)/\w'.cell? ⟨W.f,4,none⟩=some (.int .u64 W.at_)) (go_keep)
   (first
     | (go_at_call 156
        refine (hR.out w.drew ⟨rfl,rfl,rfl,Nat.le_refl _,fun _ _=>rfl⟩).mono ?_
        rintro e w2 ⟨rfl,aB,eR,ae,_⟩
        have d2':=aB.hd.2.2.1
        have c4':=eR.hd.2.2.2.2.1
        have fK:=ae.size
        replace aB:=Lib.hid aB
        replace eR:=Lib.hid eR
        replace ae:=Lib.hid (ab.aD ae (fun _=>False)))
     | (go_at_call 156
        refine (hR.out (w.alloc (.cells #[.string ⟨#[]⟩,.string ⟨#[]⟩,.int .u32 0,.int .u64 0] 67)).drew (((Below.refl w.heap.size w).alloc (Nat.le_refl _) _).trans ⟨rfl,rfl,rfl,by simp,fun _ _=>rfl⟩)).mono ?_
        rintro e w2 ⟨rfl,aB,eR,ae,aq⟩
        have ag:af w2 w.heap.size 67 #[.string ⟨#[]⟩,.string ⟨#[]⟩,.int .u32 0,.int .u64 0]:=af.only (w:=(w.alloc (.cells #[.string ⟨#[]⟩,.string ⟨#[]⟩,.int .u32 0,.int .u64 0] 67)).drew) (af.made w _ _) (ab.aD aq (fun _=>False)) (by simp)
        have d2':=aB.hd.2.2.1
        have c4':=eR.hd.2.2.2.2.1
        have fK:=ae.size
        have k0:=ag.cell 0
        have k1:=ag.cell 1
        have k2:=ag.cell 2
        have k3:=ag.cell 3
        simp at k0 k1 k2 k3
        have y0:=ag.frozen 0
        have y1:=ag.frozen 1
        have y2:=ag.frozen 2
        have y3:=ag.frozen 3
        replace aB:=Lib.hid aB
        replace eR:=Lib.hid eR
        replace ae:=Lib.hid (ab.aD ae (fun _=>False))
        replace ag:=Lib.hid ag))
  all_goals
   go_wp2_with fail
   go_meet
   first
    | exact I4 (nd:=n) aB.out eR.out ae.out
    | exact I5 (nd:=n) aB.out eR.out ae.out (Nat.le_refl _) ag.out rfl rfl
 case rest=>
  obtain ⟨b,rfl,rfl,cr,hB,av,jx,aw⟩:=zx
  clear d2 hR c4
  have dp:bX (wc.setCell ⟨W.f,7,none⟩ (.int .i64 (W.read+1:Nat))) {W with read:=W.read+1}:=af.store jx 7 (.int .i64 (W.read+1:Nat))
  have aH:b≠W.f:=by have:=lW; omega
  have ay:af (wc.setCell ⟨W.f,7,none⟩ (.int .i64 (W.read+1:Nat))) b 67 #[.string n.key,.string n.val,.int .u32 n.sum,.int .u64 n.next]:=af.aA hB (fun e=>aH e) _
  have aq:ab (·=W.f) w (wc.setCell ⟨W.f,7,none⟩ (.int .i64 (W.read+1:Nat))):=(show ab (·=W.f) w wc from aw.mono (fun _ _ q=>q.elim)).setCell (p:=⟨W.f,7,none⟩) (.inl rfl) _
  have c7:=jx.hd.2.2.2.2.2.2.2.1
  have z7:=jx.cV 7
  rw [Int.natCast_add,Int.natCast_one] at dp ay aq
  replace hB:=Lib.hid hB
  replace av:=Lib.hid av
  replace jx:=Lib.hid jx
  replace aw:=Lib.hid aw
  replace dp:=Lib.hid dp
  replace ay:=Lib.hid ay
  replace aq:=Lib.hid aq
  generalize eK:W.read=r at*
  replace eK:=Lib.hid eK
  go_upto_region 5 with (fail)
  obtain ⟨w3,dR⟩:∃ w3,w3=wc.setCell ⟨W.f,7,none⟩ (.int .i64 ((r:Int)+1)):=⟨_,rfl⟩
  rw [<-dR] at dp ay aq ⊢
  clear c7 z7 hB jx aw av dR
  obtain ⟨_,c1,c2,_,c4,_,c6,_,c8,c9,c10,c11,c12⟩:=dp.out.hd
  simp only at c1 c2 c4 c6 c8 c9 c10 c11 c12
  have z6:=dp.out.cV 6
  have z8:=dp.out.cV 8
  have z9:=dp.out.cV 9
  have z10:=dp.out.cV 10
  have z11:=dp.out.cV 11
  have z12:=dp.out.cV 12
  simp only at z6 z8 z9 z10 z11 z12
  have k0:=ay.out.cell 0
  have k1:=ay.out.cell 1
  have k2:=ay.out.cell 2
  have k3:=ay.out.cell 3
  simp at k0 k1 k2 k3
  have HK:∀ w4,ab (·=W.f) w3 w4->ab (·=W.f) w w4:=fun w4 h=>aq.out.trans h
  have HD:∀ nq,ab (·=W.f) w3 (w3.drewN nq):=fun nq=>(ab.refl _ _).drewN nq
  replace HK:=Lib.hid HK
  replace HD:=Lib.hid HD
  by_cases hs:n.sum=W.sum
  ·by_cases hk:n.key=W.key
   ·have e1:ny W n=true:=by simp [ny,ma,hs,hk]
    have e2:looks W n={W with read:=r+1,found:=W.at_,nd:=n,nx:=3}:=by simp [looks,ma,hs,hk,eK.out]
    replace e1:=Lib.hid e1
    replace e2:=Lib.hid e2
    have hE:∀ w6,bX w6 {W with read:=r+1,found:=W.at_,nd:=n}->ab (·=W.f) w3 w6->Calls Tryz.prog 222 #[ptr W.f] w6 fun e w'=>e=.returned (.bool true)/\bX w' {W with read:=r+1,found:=W.at_,nd:=n,nx:=3}/\ab (·=W.f) w w':=fun w6 h1 h2=>(nA h1).mono fun e w' q=>⟨q.1,q.2.1,aq.out.trans (h2.trans q.2.2)⟩
    replace hE:=Lib.hid hE
    have eN:{n with key:=W.key,sum:=W.sum}=n:=by rw [<-hs,<-hk]
    replace eN:=Lib.hid eN
    rw [hs] at k2
    rw [hk] at k0
    rw [hs,hk] at ay
    clear hs hk
    go_quiet (fail)
    go_upto_region 6 with (fail)
    go_region
    all_goals
     have iP:bX ((((((w3.drewN (nq+1)).setCell ⟨W.f,8,none⟩ (.int .u64 W.at_)).setCell ⟨W.f,9,none⟩ (.string W.key)).setCell ⟨W.f,10,none⟩ (.string n.val)).setCell ⟨W.f,11,none⟩ (.int .u32 W.sum)).setCell ⟨W.f,12,none⟩ (.int .u64 n.next)) {W with read:=r+1,found:=W.at_,nd:=n}:=by
      have h:=((((af.store (bX.drewN dp.out (nq+1)) 8 (.int .u64 W.at_)).store 9 (.string W.key)).store 10 (.string n.val)).store 11 (.int .u32 W.sum)).store 12 (.int .u64 n.next)
      have e:({W with read:=r+1,found:=W.at_,nd:=n}:Wa)={W with read:=r+1,found:=W.at_,nd:={n with key:=W.key,sum:=W.sum}}:=by rw [eN.out]
      rw [e]
      exact h
     have fo:=((((((HD.out (nq+1)).setCell (p:=⟨W.f,8,none⟩) (.inl rfl) (.int .u64 W.at_)).setCell (p:=⟨W.f,9,none⟩) (.inl rfl) (.string W.key)).setCell (p:=⟨W.f,10,none⟩) (.inl rfl) (.string n.val)).setCell (p:=⟨W.f,11,none⟩) (.inl rfl) (.int .u32 W.sum)).setCell (p:=⟨W.f,12,none⟩) (.inl rfl) (.int .u64 n.next))
     have sF:=Lib.hid (hE.out _ iP fo)
     clear iP fo c1 c2 c4 c6 c8 c9 c10 c11 c12 z6 z8 z9 z10 z11 z12 k0 k1 k2 k3
     go_wp2_with fail
     refine sF.out.mono ?_
     rintro e w7 ⟨rfl,qf,EE⟩
     replace qf:=Lib.hid qf
     replace EE:=Lib.hid EE
     clear sF
     go_wp2_with fail
     go_ret
     rw [e1.out,e2.out]
     exact ⟨rfl,qf.out,EE.out⟩
   ·have e1:ny W n=decide (z=0):=by simp [ny,ma,hk,hz.out]
    have e2:looks W n=dx {W with read:=r+1,prev:=W.at_} z:=by simp [looks,ma,hk,eK.out,hz.out]
    replace e1:=Lib.hid e1
    replace e2:=Lib.hid e2
    have au:(n.key.toList==W.key.toList)=false:=FA hk
    rw [hs] at k2
    rw [fR.out] at k3
    clear hs hk
    go_quiet (fail)
    have lR:bX ((w3.drewN nq).setCell ⟨W.f,6,none⟩ (.int .u64 W.at_)) {W with read:=r+1,prev:=W.at_}:=af.store (bX.drewN dp.out nq) 6 (.int .u64 W.at_)
    have bJ:=Lib.hid ((aq.out.drewN nq).setCell (p:=⟨W.f,6,none⟩) (.inl rfl) (.int .u64 W.at_))
    have hG:=Lib.hid (eg lR z)
    clear lR
    go_wp2_with fail
    refine hG.out.mono ?_
    rintro e w6 ⟨rfl,iP,fo⟩
    replace fo:=Lib.hid (bJ.out.trans fo)
    replace iP:=Lib.hid iP
    clear hG c1 c2 c4 c6 c8 c9 c10 c11 c12 z6 z8 z9 z10 z11 z12 k0 k1 k2 k3 bJ
    go_wp2_with fail
    go_ret
    rw [e1.out,e2.out]
    exact ⟨rfl,iP.out,fo.out⟩
  ·have e1:ny W n=decide (z=0):=by simp [ny,ma,hs,hz.out]
   have e2:looks W n=dx {W with read:=r+1,prev:=W.at_} z:=by simp [looks,ma,hs,eK.out,hz.out]
   replace e1:=Lib.hid e1
   replace e2:=Lib.hid e2
   have au:(n.sum==W.sum)=false:=by simpa using hs
   rw [fR.out] at k3
   clear hs
   go_quiet (fail)
   have lR:bX ((w3.drewN nq).setCell ⟨W.f,6,none⟩ (.int .u64 W.at_)) {W with read:=r+1,prev:=W.at_}:=af.store (bX.drewN dp.out nq) 6 (.int .u64 W.at_)
   have bJ:=Lib.hid ((aq.out.drewN nq).setCell (p:=⟨W.f,6,none⟩) (.inl rfl) (.int .u64 W.at_))
   have hG:=Lib.hid (eg lR z)
   clear lR
   go_wp2_with fail
   refine hG.out.mono ?_
   rintro e w6 ⟨rfl,iP,fo⟩
   replace fo:=Lib.hid (bJ.out.trans fo)
   replace iP:=Lib.hid iP
   clear hG c1 c2 c4 c6 c8 c9 c10 c11 c12 z6 z8 z9 z10 z11 z12 k0 k1 k2 k3 bJ
   go_wp2_with fail
   go_ret
   rw [e1.out,e2.out]
   exact ⟨rfl,iP.out,fo.out⟩
end
end Go.Proofs.YtpanebgakndddaaGreat.Wk
namespace Go.Proofs.YtpanebgakndddaaGreat.Me
open Go Go.RowKit Hp K Fl Rw Hm Ar Mm
set_option maxRecDepth 100000
def Bj {S:Type} (rd:S->Bool) (st:S->S) (dn:S->Bool) (Inv:S->World->Prop) (ok:Nat->S->Prop) (K:Nat) (s0:S) (i:Nat) (d:Bool) (w:World):Prop:=
 ∃ s,Inv s w/\(d=false->ok (K-i) s)/\fin rd st dn K s0=if d=true then (i,true,s) else (i+(fin rd st dn (K-i) s).1,(fin rd st dn (K-i) s).2)
set_option maxHeartbeats 1000000 in
theorem Bk {S:Type} (T:TypeId) (fr fs b:Nat) (m:Value) (Inv:S->World->Prop) (ok:Nat->S->Prop) (rd:S->Bool) (st:S->S) (dn:S->Bool)
 (mr:∀ w f,(method (f+1) T (.pointer (some ⟨b,0,none⟩)) "Ready").run Tryz.prog w=.ok (fr,.pointer (some ⟨b,0,none⟩)) w)
 (ms:∀ w f,(method (f+1) T (.pointer (some ⟨b,0,none⟩)) "Step").run Tryz.prog w=.ok (fs,.pointer (some ⟨b,0,none⟩)) w)
 (er:∀ args w,(callFunc fr args).run Tryz.prog w=.ok (.enter fr args) w) (es:∀ args w,(callFunc fs args).run Tryz.prog w=.ok (.enter fs args) w)
 (hR:∀ k s w,Inv s w->ok (k+1) s->Calls Tryz.prog fr #[ptr b,m] w fun e w'=>e=.returned (.bool (rd s))/\Inv s w')
 (hS:∀ k s w,Inv s w->ok (k+1) s->rd s=true->Calls Tryz.prog fs #[ptr b,m] w fun e w'=>e=.returned (.bool (dn s))/\Inv (st s) w')
 (fk:∀ k s,ok (k+1) s->rd s=true->dn s=false->ok k (st s)) (K:Nat) (hK:K<=1000000) (s0:S) (h0:ok K s0) (w:World) (h:Inv s0 w):
 Calls Tryz.prog 58 #[m,.iface T (ptr b),.int .i64 K] w fun e w'=>e=.returned (.tuple #[.int .i64 (fin rd st dn K s0).1,.bool (fin rd st dn K s0).2.1])/\Inv (fin rd st dn K s0).2.2 w':=by
 have hI:=Lib.hid (show Bj rd st dn Inv ok K s0 0 false w from ⟨s0,h,fun _=>h0,by simp⟩)
 replace hR:=Lib.hid hR
 replace hS:=Lib.hid hS
 clear h
 go_enter Tryz.func58,Tryz.ntmps58
 go_wp2_with fail
 go_loopw [8,9] (fun i d wr=>∃ (k:Nat) (c:Bool),k<=K/\i=.int .i64 k/\d=.bool c/\Bj rd st dn Inv ok K s0 k c wr) (fun i _ _=>K-(intOf i).toNat)
 case atStart=>exact ⟨0,false,Nat.zero_le _,rfl,rfl,hI.out⟩
 case round=>
  obtain ⟨k,c,hk,rfl,rfl,s,gv,hc,hf⟩:=lD
  clear hI
  replace hf:=Lib.hid hf
  replace fk:=Lib.hid fk
  by_cases h1:k<K
  ·cases c with
   | true=>
     have e:=hf.out
     rw [if_pos rfl] at e
     replace e:=Lib.hid e
     replace gv:=Lib.hid gv
     clear hc
     go_wp2_with fail
     go_ret2
     rw [e.out]
     exact ⟨rfl,gv.out⟩
   | false=>
     replace hc:=Lib.hid (show ok (K-k-1+1) s from by rw [show K-k-1+1=K-k by omega]; exact hc rfl)
     have jZ:=Lib.hid (hR.out _ s _ gv hc.out)
     have e:=hf.out
     rw [if_neg (by simp),show K-k=(K-k-1)+1 by omega,fin] at e
     clear hf
     by_cases h2:rd s=true
     ·rw [if_pos h2] at e
      rw [h2] at jZ
      replace gv:=Lib.hid gv
      have pS:=Lib.hid h2
      clear h2
      replace e:=Lib.hid e
      go_wp2_with fail
      refine jZ.out.mono ?_
      rintro e1 w1 ⟨rfl,mq⟩
      have db:=Lib.hid (hS.out _ s w1 mq hc.out pS.out)
      clear mq
      go_wp2_with fail
      refine db.out.mono ?_
      rintro e2 w2 ⟨rfl,nR⟩
      have hF:Bj rd st dn Inv ok K s0 (k+1) (dn s) w2:=by
       refine ⟨st s,nR,fun hd=>by rw [show K-(k+1)=K-k-1 by omega]; exact fk.out _ s hc.out pS.out hd,?_⟩
       have e:=e.out
       by_cases hd:dn s=true
       ·rw [if_pos hd] at e ⊢
        exact e
       ·rw [if_neg hd] at e ⊢
        rw [e,show K-(k+1)=K-k-1 by omega]
        simp only [Prod.mk.injEq,and_true]
        omega
      replace hF:=Lib.hid hF
      clear nR e db
      generalize dn s=c at*
      go_wp2_with fail
      go_roundw
      case rel=>exact ⟨k+1,c,h1,by go_num,rfl,hF.out⟩
      case measure=>simp [intOf]; omega
     ·have h2:rd s=false:=by simpa using h2
      rw [if_neg (by simp [h2])] at e
      rw [h2] at jZ
      clear h2
      replace e:=Lib.hid e
      clear gv
      go_wp2_with fail
      refine jZ.out.mono ?_
      rintro e1 w1 ⟨rfl,mq⟩
      replace mq:=Lib.hid mq
      go_wp2_with fail
      go_ret2
      rw [e.out]
      exact ⟨rfl,mq.out⟩
  ·obtain rfl:k=K:=by omega
   have e:=hf.out
   have e':fin rd st dn k s0=(k,c,s):=by
    cases c with
    | true=>exact e
    | false=>
      rw [if_neg (by simp),Nat.sub_self] at e
      exact e
   replace e':=Lib.hid e'
   replace gv:=Lib.hid gv
   clear e hc
   go_wp2_with fail
   go_ret2
   rw [e'.out]
   exact ⟨rfl,gv.out⟩
end Go.Proofs.YtpanebgakndddaaGreat.Me
namespace Go.Proofs.YtpanebgakndddaaGreat.Wk
open Go Go.RowKit Hp K Fl Rw Hm Ar Mm Me
set_option maxRecDepth 100000
section
variable {w:World} {W:Wa}
theorem CX (args:Array Value) (w:World):(callFunc 189 args).run Tryz.prog w=.ok (.enter 189 args) w:=by kernel_rfl
theorem I6 (args:Array Value) (w:World):(callFunc 223 args).run Tryz.prog w=.ok (.enter 223 args) w:=by kernel_rfl
theorem CW (args:Array Value) (w:World):(callFunc 233 args).run Tryz.prog w=.ok (.enter 233 args) w:=by kernel_rfl
theorem C0 {F f:Nat} {cv m:Value} {c:Bool} {P:World->Prop} (c3:w.cell? ⟨f,3,none⟩=some (aS F cv)) (eF:∀ args w,(callFunc F args).run Tryz.prog w=.ok (.enter F args) w)
 (hF:Calls Tryz.prog F #[cv,m] w fun e w'=>e=.returned (.bool c)/\P w'):Calls Tryz.prog 176 #[ptr f,m] w fun e w'=>e=.returned (.bool c)/\P w':=by
 replace hF:=Lib.hid hF
 go_enter Tryz.func176,Tryz.ntmps176
 go_wp2_with fail
 refine hF.out.mono ?_
 rintro e w' ⟨rfl,bh⟩
 replace bh:=Lib.hid bh
 clear c3
 go_wp2_with fail
 go_ret
 exact ⟨rfl,bh.out⟩
theorem Ux {F f:Nat} {m:Value} {c:Bool} {P:World->Prop} (c3:w.cell? ⟨f,3,none⟩=some (dV F)) (eF:∀ args w,(callFunc F args).run Tryz.prog w=.ok (.enter F args) w)
 (hF:Calls Tryz.prog F #[m] w fun e w'=>e=.returned (.bool c)/\P w'):Calls Tryz.prog 176 #[ptr f,m] w fun e w'=>e=.returned (.bool c)/\P w':=by
 replace hF:=Lib.hid hF
 go_enter Tryz.func176,Tryz.ntmps176
 go_wp2_with fail
 refine hF.out.mono ?_
 rintro e w' ⟨rfl,bh⟩
 replace bh:=Lib.hid bh
 clear c3
 go_wp2_with fail
 go_ret
 exact ⟨rfl,bh.out⟩
theorem Iz (h:bX w W):Calls Tryz.prog 202 #[ptr W.f] w fun e w'=>e=.returned (.int .u64 W.prev)/\w=w':=by
 have c:=h.hd.2.2.2.2.2.2.1
 clear h
 go_enter Tryz.func202,Tryz.ntmps202
 go_wp2
 go_ret
 exact ⟨rfl,rfl⟩
theorem Hj (h:bX w W):Calls Tryz.prog 154 #[ptr W.f] w fun e w'=>e=.returned (.int .u64 W.first)/\w=w':=by
 have c:=h.hd.2.2.2.2.2.1
 clear h
 go_enter Tryz.func154,Tryz.ntmps154
 go_wp2
 go_ret
 exact ⟨rfl,rfl⟩
set_option maxHeartbeats 1000000 in
theorem Bt (h:bX w W):Calls Tryz.prog 128 #[ptr W.f] w fun e w'=>e=.returned (.tuple #[.int .u64 W.found,dU W.nd,.bool (decide (W.found≠0))])/\Below w.heap.size w w':=by
 obtain ⟨_,_,_,_,_,_,_,_,c8,c9,c10,c11,c12⟩:=h.hd
 have lW:=h.lt
 have n8:=World.new_ne w ⟨W.f,8,none⟩ c8
 have hb:((W.found:Int) != 0)=decide (W.found≠0):=by rw [Bool.eq_iff_iff]; simp
 clear h
 unfold dU
 generalize hd:decide (W.found≠0)=d at*
 generalize hf:W.found=x at*
 replace hd:=Lib.hid hd
 replace hf:=Lib.hid hf
 go_enter Tryz.func128,Tryz.ntmps128
 go_wp2_with fail
 go_region
 all_goals
  go_wp2_with fail
  refine bodyPost_ret (v:=.tuple #[.int .u64 x,.agg #[.string W.nd.key,.string W.nd.val,.int .u32 W.nd.sum,.int .u64 W.nd.next],.bool d]) (by simp [results,Tryz.results128,go_sem]) rfl ⟨?_,((Below.refl _ _).alloc (Nat.le_refl _) _).trans ⟨rfl,rfl,rfl,by simp,fun _ _=>rfl⟩⟩
  rfl
end
/-! ### a step,whole-/
def aF (xs:List Int) (ss:List Sl) (s:Bool×Wa):Bool×Wa:=
 if s.2.nx=1 then (s.1,dx {s.2 with first:=word xs s.2.cell} (word xs s.2.cell))
 else if s.2.nx=2 then (match pl ss s.2.at_ with
  | some k=>(s.1,looks s.2 (ai ss k).nd)
  | none=>(true,{s.2 with nx:=3}))
 else s
def cf (xs:List Int) (ss:List Sl) (s:Bool×Wa):Bool:=decide (3<=(aF xs ss s).2.nx)
structure ey (r:Nat) (W:Wa):Prop where
 cell: -9223372036854775808<=W.cell/\W.cell<=9223372036854775807
 at_:W.at_<=18446744073709551615
 read:W.read+r<=4611686018427387904
 nx:1<=W.nx
theorem Gx {xs:List Int} (h:∀ x∈xs,0<=x/\x<=18446744073709551615) (c:Int):word xs c<=18446744073709551615:=by
 unfold word
 split
 ·have:=Cl.eV h c.toNat; omega
 ·omega
theorem yn (W:Wa) (h:Nat):decide (3<=(dx W h).nx)=decide (h=0):=by
 unfold dx
 split<;>simp [*]
theorem Bx (W:Wa) (n:Nd):decide (3<=(looks W n).nx)=ny W n:=by
 unfold looks ny
 split
 ·simp [*]
 ·rename_i h
  rw [yn]
  simp at h
  simp [h]
theorem I7 (W:Wa) (h:Nat):(dx W h).f=W.f:=by unfold dx; split<;>rfl
theorem Uy (xs:List Int) (ss:List Sl) (s:Bool×Wa):(aF xs ss s).2.f=s.2.f:=by
 unfold aF looks
 split
 ·exact I7 _ _
 split
 ·split
  ·dsimp only
   split
   ·rfl
   ·exact I7 _ _
  ·rfl
 ·rfl
section
variable {w w':World} {M:Mo} {W:Wa}
theorem ey.step {r:Nat} {s:Bool×Wa} {xs:List Int} {ss:List Sl} (hx:∀ x∈xs,0<=x/\x<=18446744073709551615) (hN:fg ss) (h:ey (r+1) s.2):ey r (aF xs ss s).2:=by
 obtain ⟨h1,h2,h3,h4⟩:=h
 have go:∀ (W:Wa) (x:Nat),x<=18446744073709551615->ey r W->ey r (dx W x):=fun W x hx h=>by
  unfold dx
  split
  ·exact ⟨h.cell,h.at_,h.read,by simp⟩
  ·exact ⟨h.cell,hx,h.read,by simp⟩
 unfold aF
 split
 ·exact go _ _ (Gx hx _) ⟨h1,h2,by simp only; omega,h4⟩
 split
 ·split
  ·rename_i k _
   unfold looks
   dsimp only
   split
   ·exact ⟨h1,h2,by simp only; omega,by simp⟩
   ·have:=(hN.at k)
    exact go _ _ (by omega) ⟨h1,h2,by simp only; omega,h4⟩
  ·exact ⟨h1,h2,by simp only; omega,by simp⟩
 ·exact ⟨h1,h2,by omega,h4⟩
theorem Bv (hM:ah w M) (hW:bX w W) (hN:fg M.ss) {r:Nat} (ok:ey (r+1) W):
 Calls Tryz.prog 176 #[ptr W.f,ptr M.m] w fun e w'=>e=.returned (.bool (cf M.xs M.ss (M.F,W)))/\ah w' {M with F:=(aF M.xs M.ss (M.F,W)).1}/\bX w' (aF M.xs M.ss (M.F,W)).2/\ab (fun x=>ao M x\/x=W.f) w w':=by
 have c3:=hW.hd.2.2.2.1
 unfold CY at c3
 have up:∀ w',ab (·=W.f) w w'->ah w' M/\ab (fun x=>ao M x\/x=W.f) w w':=fun w' ho=>⟨hM.only ho (fun x hx q=>by subst q; exact hW.aA hM hx),ho.mono (fun x _ q=>.inr q)⟩
 have hl:=hM.2.2.2.1.room.2
 have hr:=ok.read
 unfold cf
 by_cases e1:W.nx=1
 ·have hs:aF M.xs M.ss (M.F,W)=(M.F,dx {W with first:=word M.xs W.cell} (word M.xs W.cell)):=by unfold aF; rw [if_pos e1]
  rw [if_pos e1] at c3
  rw [hs,yn]
  exact C0 c3 CX ((vv hM hW ok.cell).mono fun e w' q=>⟨q.1,(up w' q.2.2).1,q.2.1,(up w' q.2.2).2⟩)
 ·rw [if_neg e1] at c3
  by_cases e2:W.nx=2
  ·rw [if_pos e2] at c3
   cases hp:pl M.ss W.at_ with
   | some k=>
     have hs:aF M.xs M.ss (M.F,W)=(M.F,looks W (ai M.ss k).nd):=by unfold aF; simp only; rw [if_neg e1,if_pos e2,hp]
     rw [hs,Bx]
     exact C0 c3 I6 ((look_ok hM hW ok.at_ ((yo hl).1 hp) hN (by omega)).mono fun e w' q=>⟨q.1,(up w' q.2.2).1,q.2.1,(up w' q.2.2).2⟩)
   | none=>
     have hs:aF M.xs M.ss (M.F,W)=(true,{W with nx:=3}):=by unfold aF; simp only; rw [if_neg e1,if_pos e2,hp]
     obtain ⟨c,hc⟩:=Uv hl hp
     rw [hs]
     exact C0 c3 I6 ((Uw hM hW ok.at_ hc).mono fun e w' q=>⟨q.1,q.2.1,q.2.2.1,q.2.2.2⟩)
  ·have hs:aF M.xs M.ss (M.F,W)=(M.F,W):=by unfold aF; simp only; rw [if_neg e1,if_neg e2]
   have:=ok.nx
   rw [if_neg e2] at c3
   rw [hs,show decide (3<=W.nx)=true by simp; omega]
   exact Ux c3 CW ((CV _ w).mono fun e w' q=>⟨q.1,by rw [q.2]; exact ⟨hM,hW,ab.refl _ _⟩⟩)
theorem Cw (a:Addr) (w:World) (f:Nat):(method (f+1) 211 (.pointer (some a)) "Ready").run Tryz.prog w=.ok (175,.pointer (some a)) w:=by kernel_rfl
theorem Cy (a:Addr) (w:World) (f:Nat):(method (f+1) 211 (.pointer (some a)) "Step").run Tryz.prog w=.ok (176,.pointer (some a)) w:=by kernel_rfl
theorem CA (args:Array Value) (w:World):(callFunc 175 args).run Tryz.prog w=.ok (.enter 175 args) w:=by kernel_rfl
theorem CB (args:Array Value) (w:World):(callFunc 176 args).run Tryz.prog w=.ok (.enter 176 args) w:=by kernel_rfl
abbrev vN (xs:List Int) (ss:List Sl) (K:Nat) (s:Bool×Wa):=fin (fun _=>true) (aF xs ss) (cf xs ss) K s
def tT (M:Mo) (f:Nat) (w0:World) (s:Bool×Wa) (w:World):Prop:=ah w {M with F:=s.1}/\bX w s.2/\s.2.f=f/\ab (fun x=>ao M x\/x=f) w0 w
theorem Qt (hM:ah w M) (hW:bX w W) (hN:fg M.ss) (K:Nat) (hK:K<=1000000) (ok:ey K W):
 Calls Tryz.prog 58 #[ptr M.m,.iface 211 (ptr W.f),.int .i64 K] w fun e w'=>e=.returned (.tuple #[.int .i64 (vN M.xs M.ss K (M.F,W)).1,.bool (vN M.xs M.ss K (M.F,W)).2.1])/\
  tT M W.f w (vN M.xs M.ss K (M.F,W)).2.2 w':=by
 refine Bk 211 175 176 W.f (ptr M.m) (tT M W.f w) (fun k s=>ey k s.2) (fun _=>true) (aF M.xs M.ss) (cf M.xs M.ss) (Cw _) (Cy _) CA CB ?_ ?_ ?_ K hK (M.F,W) ok w ⟨hM,hW,rfl,ab.refl _ _⟩
 ·rintro k s w1 h ok
  exact (ox _ _ w1).mono fun e w' q=>⟨q.1,by rw [q.2]; exact h⟩
 ·rintro k s w1 ⟨h1,h2,h3,h4⟩ ok _
  have hs:=Bv (M:={M with F:=s.1}) h1 h2 hN ok
  rw [h3] at hs
  exact hs.mono fun e w' h=>⟨h.1,h.2.1,h.2.2.1,(Uy _ _ _).trans h3,h4.trans h.2.2.2⟩
 ·intro k s ok _ _
  exact ok.step hM.2.1.2.2.1 hN
end
/-! ### along a chain that stays-/
end Go.Proofs.YtpanebgakndddaaGreat.Wk
namespace Go.Proofs.YtpanebgakndddaaGreat.Gt
open Go Go.RowKit Hp K Fl Rw Hm Ar Mm Me Qs Wk
set_option maxRecDepth 100000
structure Ge where
 key:ByteArray
 sum:Int
 nx:Nat
 C:Cm
 iT:Nat
 W:Wa
structure Ga where
 f:Nat
 c:Nat
 o:Nat
 w:Nat
def jU (a:Ga) (nx:Nat):Value:=if nx=1 then aS 126 (ptr a.f) else if nx=2 then aS 160 (ptr a.f) else if nx=3 then aS 195 (ptr a.f) else aS 213 (ptr a.o)
def Og (a:Ga) (G:Ge):Array Value:=#[.string G.key,.int .u32 G.sum,jU a G.nx,ptr a.c,ptr a.o,ptr a.w]
abbrev Ge.wa (G:Ge) (b:Nat):Wa:={G.W with f:=b}
def cY (w:World) (a:Ga) (G:Ge):Prop:=af w a.f 213 (Og a G)/\gr w a.c G.C/\jE w a.o G.C.worker G.iT/\bX w (G.wa a.w)
def bt (a:Ga) (x:Nat):Prop:=x=a.f\/x=a.c\/x=a.o\/x=a.w
abbrev Oh:List TypeId:=[213,233,235,237]
def cellOf (s:Int) (d:Nat×Nat):Int:=if d.1=0 then-1 else (d.2:Int)+FM.bucket s d.1
section
variable {w w':World} {M:Mo} {a:Ga} {G:Ge}
theorem cY.ty (h:cY w a G) {x:Nat} (hx:bt a x):Ty w x Oh:=by
 obtain ⟨h1,h2,h3,h4⟩:=h
 rcases hx with rfl | rfl | rfl | rfl
 ·exact (bj h1).mono (by simp)
 ·exact (bj h2).mono (by simp)
 ·exact (bj h3).mono (by simp)
 ·exact (bj h4).mono (by simp)
theorem cY.aA (h:cY w a G) (hM:ah w M) {x:Nat} (hx:bt a x):¬ao M x:=fun hm=>(hM.ty hm).apart (h.ty hx) (by decide)
theorem cY.only {S:Nat->Prop} (h:cY w a G) (ho:ab S w w') (hn:∀ x,bt a x->¬S x):cY w' a G:=
 ⟨h.1.only ho (hn _ (.inl rfl)),h.2.1.only ho (hn _ (.inr (.inl rfl))),h.2.2.1.only ho (hn _ (.inr (.inr (.inl rfl)))),h.2.2.2.only ho (hn _ (.inr (.inr (.inr rfl))))⟩
theorem cY.below (h:cY w a G) (hb:Below w.heap.size w w'):cY w' a G:=h.only (ab.aD hb (fun _=>False)) (by simp)
theorem cY.hd (h:cY w a G):w.cell? ⟨a.f,0,none⟩=some (.string G.key)/\w.cell? ⟨a.f,1,none⟩=some (.int .u32 G.sum)/\w.cell? ⟨a.f,2,none⟩=some (jU a G.nx)/\w.cell? ⟨a.f,3,none⟩=some (ptr a.c)/\
 w.cell? ⟨a.f,4,none⟩=some (ptr a.o)/\w.cell? ⟨a.f,5,none⟩=some (ptr a.w):=
 ⟨h.1.cell 0,h.1.cell 1,h.1.cell 2,h.1.cell 3,h.1.cell 4,h.1.cell 5⟩
theorem cY.cV (h:cY w a G) (i:Nat):w.frozen? ⟨a.f,i,none⟩=false:=h.1.frozen i
theorem cY.apart (h:cY w a G):a.f≠a.c/\a.f≠a.o/\a.f≠a.w/\a.c≠a.o/\a.c≠a.w/\a.o≠a.w:=by
 obtain ⟨h1,h2,h3,h4⟩:=h
 exact ⟨h1.differ h2 (by decide),h1.differ h3 (by decide),h1.differ h4 (by decide),af.differ h2 h3 (by decide),af.differ h2 h4 (by decide),af.differ h3 h4 (by decide)⟩
theorem cY.next (h:cY w a G) (n:Nat):cY (w.setCell ⟨a.f,2,none⟩ (jU a n)) a {G with nx:=n}:=by
 have ho:=(ab.refl (·=a.f) w).setCell (p:=⟨a.f,2,none⟩) (.inl rfl) (jU a n)
 have ha:=h.apart
 exact ⟨h.1.store 2 (jU a n),h.2.1.only ho (fun e=>ha.1 e.symm),h.2.2.1.only ho (fun e=>ha.2.1 e.symm),h.2.2.2.only ho (fun e=>ha.2.2.1 e.symm)⟩
theorem ox (x m:Value) (w:World):Calls Tryz.prog 283 #[x,m] w fun e w'=>e=.returned (.bool true)/\w=w':=by
 go_enter Tryz.func283,Tryz.ntmps283
 go_wp2
 go_ret
 exact ⟨rfl,rfl⟩
theorem Fb (h:cY w a G):Calls Tryz.prog 95 #[ptr a.f] w fun e w'=>e=.returned (.tuple #[.string G.W.nd.val,.bool (decide (G.W.found≠0))])/\Below w.heap.size w w':=by
 have c:=h.hd.2.2.2.2.2
 have hR:=Bt h.2.2.2
 unfold dU at hR
 have e1:(G.wa a.w).found=G.W.found:=rfl
 have e2:(G.wa a.w).nd=G.W.nd:=rfl
 have e3:(G.wa a.w).f=a.w:=rfl
 rw [e1,e2,e3] at hR
 clear e1 e2 e3 h
 generalize decide (G.W.found≠0)=b at*
 generalize G.W.found=x at*
 generalize G.W.nd=n at*
 obtain ⟨nk,nv,ns,nn⟩:=n
 simp only at hR ⊢
 replace hR:=Lib.hid hR
 go_enter Tryz.func95,Tryz.ntmps95
 go_wp2_with fail
 refine hR.out.mono ?_
 rintro e w1 ⟨rfl,hb⟩
 have au:=Lib.hid ((hb.alloc (o:=.cells #[.string nk,.string nv,.int .u32 ns,.int .u64 nn] 67) hb.size))
 clear c
 go_wp2_with fail
 go_ret2
 exact ⟨rfl,au.out⟩
theorem vu {f:Nat} {s:Int} {key:ByteArray} (lf:f<w.heap.size) (c0:w.cell? ⟨f,0,none⟩=some (.string key)) (c1:w.cell? ⟨f,1,none⟩=some (.int .u32 s)) (c:Int):
 Calls Tryz.prog 125 #[ptr f,.int .i64 c] w fun e w'=>e=.returned (ptr w.heap.size)/\bX w' (new w.heap.size c s key)/\Below w.heap.size w w':=by
 have hN:=Lib.hid (fun n=>Wk.mN c s key (w.drewN n))
 go_enter Tryz.func125,Tryz.ntmps125
 go_wp2_with fail
 go_region_held3 (fun w'=>w'.cell? ⟨f,0,none⟩=some (.string key)/\w'.cell? ⟨f,1,none⟩=some (.int .u32 s)) (go_keep)
  (first
    | (go_at_call 153
       refine (hN.out 1).mono ?_
       rintro e w2 ⟨rfl,h2,au⟩
       have d0:=(au.cell (p:=⟨f,0,none⟩) lf).trans c0
       have d1:=(au.cell (p:=⟨f,1,none⟩) lf).trans c1
       replace h2:=Lib.hid h2
       replace au:=Lib.hid au))
 all_goals
  go_wp2_with fail
  go_ret
  exact ⟨rfl,h2.out,(show Below w.heap.size w (w.drewN 1) from ⟨rfl,rfl,rfl,Nat.le_refl _,fun _ _=>rfl⟩).trans au.out⟩
set_option maxHeartbeats 1000000 in
theorem Oi (h:cY w a G) (d:Nat×Nat) (hd:d.1<=65536/\d.2<=4000000) (hs:0<=G.sum/\G.sum<4294967296):Calls Tryz.prog 194 #[ptr a.f,dv d] w fun e w'=>e=.returned (.int .i64 (cellOf G.sum d))/\Below w.heap.size w w':=by
 obtain ⟨c0,c1,_⟩:=h.hd
 have lf:=h.1.lt
 have hb:=qz G.sum d.1 hs.1
 unfold cellOf dv
 by_cases h0:d.1=0
 ·rw [if_pos h0,h0]
  clear h c0 c1 hb h0
  go_enter Tryz.func194,Tryz.ntmps194
  go_wp2_with fail
  go_ret
  exact ⟨rfl,(Below.refl _ _).alloc (Nat.le_refl _) _⟩
 ·rw [if_neg h0]
  have hB:=Lib.hid (fun w'=>lX.yj G.sum d.1 w' hs.1 hs.2 (by omega) (by omega))
  have e0:((d.1:Int)==0)=false:=by simp; omega
  generalize FM.bucket G.sum d.1=b at*
  generalize d.1=d1 at*
  generalize d.2=d2 at*
  have e1:IntKind.i64.wrap ((d2:Int)+b)=d2+b:=IntWalk.i64_in _ (by omega)
  have nf:=World.new_ne w ⟨a.f,1,none⟩ c1
  clear h h0
  go_enter Tryz.func194,Tryz.ntmps194
  go_wp2_with fail
  go_quiet ((go_at_call 201; exact Calls.quiet_of_same ((hB.out _).mono fun _ _ h=>⟨h.1,h.2⟩)))
  go_wp2_with fail
  go_ret
  exact ⟨rfl,((Below.refl _ _).alloc (Nat.le_refl _) _).trans ⟨rfl,rfl,rfl,by simp,fun _ _=>rfl⟩⟩
end
end Go.Proofs.YtpanebgakndddaaGreat.Gt
namespace Go.Proofs.YtpanebgakndddaaGreat.Gt
open Go Go.RowKit Hp K Fl Rw Hm Ar Mm Me Qs Wk
set_option maxRecDepth 100000
section
variable {w w':World} {M:Mo} {a:Ga} {G:Ge}
def mJ (k:Nat) (key:ByteArray):Ge:=⟨key,(FM.sum key.data.toList:Nat),1,⟨k,0,0⟩,0,new 0 (-1) (FM.sum key.data.toList:Nat) key⟩
set_option maxHeartbeats 1000000 in
theorem mN (k:Nat) (key:ByteArray) (hk:key.size<=maxLen) (w:World):
 Calls Tryz.prog 93 #[.int .i64 k,.string key] w fun e w'=>∃ a:Ga,e=.returned (ptr a.f)/\cY w' a (mJ k key)/\(∀ x,bt a x->w.heap.size<=x)/\Below w.heap.size w w':=by
 have hS:=Lib.hid (lX.xU key w hk)
 unfold mJ
 generalize hs:FM.sum key.data.toList=s at*
 replace hs:=Lib.hid hs
 go_enter Tryz.func93,Tryz.ntmps93
 go_wp2_with fail
 refine hS.out.mono ?_
 rintro e w0 ⟨rfl,hw⟩
 obtain rfl:w=w0:=hw.symm
 clear hS hw
 have hE:=Lib.hid (Gf k w)
 go_wp2_with fail
 refine hE.out.mono ?_
 rintro e w1 ⟨rfl,mY,aJ⟩
 have hL:=Lib.hid (Gg k w1)
 clear hE
 replace mY:=Lib.hid mY
 replace aJ:=Lib.hid aJ
 go_wp2_with fail
 refine hL.out.mono ?_
 rintro e w2 ⟨rfl,du,ag⟩
 have qS:gr w2 w.heap.size ⟨k,0,0⟩:=mY.out.only (ab.aD ag (fun _=>False)) (by simp)
 have fJ:=aJ.out.trans (ag.mono aJ.out.size)
 have JR:=aJ.out.size
 have Dv:=ag.size
 clear hL mY aJ ag
 obtain ⟨w3,dR⟩:∃ w3,w3=w2.alloc (.cells #[.string key,.int .u32 s,.nilFunc,ptr w.heap.size,ptr w1.heap.size,.pointer none] 213):=⟨_,rfl⟩
 have eM:af w3 w2.heap.size 213 #[.string key,.int .u32 s,.nilFunc,ptr w.heap.size,ptr w1.heap.size,.pointer none]:=by rw [dR]; exact af.made w2 _ _
 have qT:gr w3 w.heap.size ⟨k,0,0⟩:=by rw [dR]; exact af.alloc qS _
 have eX:jE w3 w1.heap.size k 0:=by rw [dR]; exact af.alloc du _
 have jL:Below w.heap.size w w3:=by rw [dR]; exact fJ.alloc fJ.size _
 have hF:=Lib.hid (vu eM.lt (eM.cell 0) (eM.cell 1) (-1))
 have mo:w3.heap.size=w2.heap.size+1:=by rw [dR]; simp
 obtain ⟨f,hf⟩:∃ f,f=w2.heap.size:=⟨_,rfl⟩
 obtain ⟨c,hc⟩:∃ c,c=w.heap.size:=⟨_,rfl⟩
 obtain ⟨o,ho⟩:∃ o,o=w1.heap.size:=⟨_,rfl⟩
 rw [<-hf] at eM hF mo Dv
 rw [<-hc] at eM qT JR
 rw [<-ho] at eM eX JR Dv
 replace eM:=Lib.hid eM
 replace qT:=Lib.hid qT
 replace eX:=Lib.hid eX
 replace jL:=Lib.hid jL
 replace mo:=Lib.hid mo
 have sW:=Lib.hid hc
 clear qS du fJ
 go_wp2_with fail
 rw [<-dR,<-hf]
 clear dR hf hc ho
 refine hF.out.mono ?_
 rintro e w4 ⟨rfl,fU,az⟩
 have eO:=eM.out.only (ab.aD az (fun _=>False)) (by simp)
 have qU:gr w4 c ⟨k,0,0⟩:=qT.out.only (ab.aD az (fun _=>False)) (by simp)
 have uw:jE w4 o k 0:=eX.out.only (ab.aD az (fun _=>False)) (by simp)
 have jc:=jL.out.trans (az.mono jL.out.size)
 have dK:=jL.out.size
 obtain ⟨b,hb⟩:∃ b,b=w3.heap.size:=⟨_,rfl⟩
 rw [<-hb] at fU dK ⊢
 have ux:=mo.out
 rw [<-hb] at ux
 have k2:=eO.cell 2
 have k5:=eO.cell 5
 have z2:=eO.frozen 2
 have z5:=eO.frozen 5
 simp at k2 k5
 have d1:=eO.differ qU (by decide)
 have d2:=eO.differ uw (by decide)
 have d3:=eO.differ fU (by decide)
 have hE:Hid (cY ((w4.setCell ⟨f,5,none⟩ (ptr b)).setCell ⟨f,2,none⟩ (aS 126 (ptr f))) ⟨f,c,o,b⟩ ⟨key,s,1,⟨k,0,0⟩,0,new 0 (-1) s key⟩):=Lib.hid
  ⟨(eO.store 5 (ptr b)).store 2 (aS 126 (ptr f)),af.aA (af.aA qU (p:=⟨f,5,none⟩) (fun e=>d1 e.symm) _) (p:=⟨f,2,none⟩) (fun e=>d1 e.symm) _,
    af.aA (af.aA uw (p:=⟨f,5,none⟩) (fun e=>d2 e.symm) _) (p:=⟨f,2,none⟩) (fun e=>d2 e.symm) _,af.aA (af.aA fU (p:=⟨f,5,none⟩) (fun e=>d3 e.symm) _) (p:=⟨f,2,none⟩) (fun e=>d3 e.symm) _⟩
 have Vo:=sW.out
 have nL:=Lib.hid ((jc.setCell (p:=⟨f,5,none⟩) (show w.heap.size<=f by omega) (ptr b)).setCell (p:=⟨f,2,none⟩) (show w.heap.size<=f by omega) (aS 126 (ptr f)))
 have fQ:Hid (∀ x,bt ⟨f,c,o,b⟩ x->w.heap.size<=x):=Lib.hid (by
  intro x hx
  rcases hx with q | q | q | q<;>simp only at q<;>omega)
 clear hF eM qT eX jL fU az eO qU uw jc hb ux mo Vo sW d1 d2 d3 dK
 go_wp2_with fail
 go_ret
 exact ⟨_,rfl,hE.out,fQ.out,nL.out⟩
theorem Oj (xs:List Int) (C:Cm):(gu xs C).2.worker=C.worker:=by
 unfold gu
 split<;>rfl
theorem cY.Ol {C:Cm} (h:cY w a G) (hM:ah w M) (hC:gr w' a.c C) (ho:ab (fun x=>ao M x\/x=a.c) w w') (hk:C.worker=G.C.worker):cY w' a {G with C:=C}:=by
 have ha:=h.apart
 refine ⟨h.1.only ho ?_,hC,?_,h.2.2.2.only ho ?_⟩
 ·rintro (q | q)
  ·exact h.aA hM (.inl rfl) q
  ·exact ha.1 q
 ·show jE w' a.o C.worker G.iT
  rw [hk]
  refine af.only h.2.2.1 ho ?_
  rintro (q | q)
  ·exact h.aA hM (.inr (.inr (.inl rfl))) q
  ·exact ha.2.2.2.1 q.symm
 ·rintro (q | q)
  ·exact h.aA hM (.inr (.inr (.inr rfl))) q
  ·exact ha.2.2.2.2.1 q.symm
set_option maxHeartbeats 1000000 in
theorem Om (hM:ah w M) (h:cY w a G) (ha:G.C.at_<=1) (hk:2+G.C.worker<M.xs.length) (hp:G.C.worker<=1000) (hv:0<=G.C.period/\G.C.period<=18446744073709551615):
 Calls Tryz.prog 126 #[ptr a.f,ptr M.m] w fun e w'=>e=.returned (.bool false)/\ah w' {M with xs:=(gu M.xs G.C).1}/\cY w' a {G with C:=(gu M.xs G.C).2,nx:=if G.C.at_=1 then 2 else G.nx}/\ab (fun x=>ao M x\/bt a x) w w':=by
 have hS:=(Gh hM h.2.1 ha hk hp hv).mono fun e w' q=>
  show e=.returned (.bool (decide (G.C.at_=1)))/\ah w' {M with xs:=(gu M.xs G.C).1}/\cY w' a {G with C:=(gu M.xs G.C).2}/\ab (fun x=>ao M x\/bt a x) w w' from
   ⟨q.1,q.2.1,h.Ol hM q.2.2.1 q.2.2.2 (Oj _ _),q.2.2.2.mono (fun x _ y=>y.imp id (fun e=>.inr (.inl e)))⟩
 have c3:=h.hd.2.2.2.1
 by_cases h1:G.C.at_=1
 ·rw [show decide (G.C.at_=1)=true by simp [h1]] at hS
  rw [if_pos h1]
  have dm:=Lib.hid (h.aA hM (.inl rfl))
  generalize (gu M.xs G.C).1=xs' at*
  generalize (gu M.xs G.C).2=C' at*
  replace hS:=Lib.hid hS
  clear h1 h hM ha hk hp hv
  go_enter Tryz.func126,Tryz.ntmps126
  go_wp2_with fail
  refine hS.out.mono ?_
  rintro e w1 ⟨rfl,av,ak,aw⟩
  have k2:=ak.hd.2.2.1
  have z2:=ak.cV 2
  have du:=Lib.hid (ak.next 2)
  have ae:=(ab.refl (·=a.f) w1).setCell (p:=⟨a.f,2,none⟩) (.inl rfl) (jU a 2)
  have aB:=Lib.hid (av.only ae (fun x hx q=>dm.out (q▸hx)))
  have aq:=Lib.hid (aw.trans' ae (fun x _ q=>.inr (.inl q)))
  clear ae av ak aw hS c3
  go_wp2_with fail
  go_ret
  exact ⟨rfl,aB.out,du.out,aq.out⟩
 ·rw [show decide (G.C.at_=1)=false by simp [h1]] at hS
  rw [if_neg h1]
  generalize (gu M.xs G.C).1=xs' at*
  generalize (gu M.xs G.C).2=C' at*
  replace hS:=Lib.hid hS
  clear h1 h hM ha hk hp hv
  go_enter Tryz.func126,Tryz.ntmps126
  go_wp2_with fail
  refine hS.out.mono ?_
  rintro e w1 ⟨rfl,av,ak,aw⟩
  replace av:=Lib.hid av
  replace ak:=Lib.hid ak
  replace aw:=Lib.hid aw
  clear hS c3
  go_wp2_with fail
  go_ret
  exact ⟨rfl,av.out,ak.out,aw.out⟩
set_option maxHeartbeats 1000000 in
theorem vv (hM:ah w M) (h:cY w a G) (hx:1<M.xs.length) (hd:(now M.xs M.ds).1<=65536/\(now M.xs M.ds).2<=4000000) (hs:0<=G.sum/\G.sum<4294967296):
 Calls Tryz.prog 160 #[ptr a.f,ptr M.m] w fun e w'=>e=.returned (.bool false)/\ah w' M/\(∃ b,w.heap.size<=b/\cY w' {a with w:=b} {G with W:=new 0 (cellOf G.sum (now M.xs M.ds)) G.sum G.key,nx:=3})/\ab (bt a) w w':=by
 have hN:=Lib.hid (pj hM hx)
 generalize now M.xs M.ds=d at*
 generalize iN:cellOf G.sum d=cc
 replace iN:=Lib.hid iN
 have HM:=Lib.hid hM
 have HG:=Lib.hid h
 clear hM h
 unfold dv at hN
 go_enter Tryz.func160,Tryz.ntmps160
 go_wp2_with fail
 refine hN.out.mono ?_
 rintro e w1 ⟨rfl,aJ⟩
 have hC:=Oi (HG.out.below aJ) d hd hs
 unfold dv at hC
 rw [iN.out] at hC
 replace hC:=Lib.hid hC
 replace aJ:=Lib.hid aJ
 clear hN
 go_wp2_with fail
 refine hC.out.mono ?_
 rintro e w2 ⟨rfl,ag⟩
 have fJ:=aJ.out.trans (ag.mono aJ.out.size)
 have du:=HG.out.below fJ
 have hF:=Lib.hid (vu du.1.lt du.hd.1 du.hd.2.1 cc)
 replace fJ:=Lib.hid fJ
 clear hC aJ ag du
 go_wp2_with fail
 refine hF.out.mono ?_
 rintro e w3 ⟨rfl,dp,ay⟩
 have dK:=fJ.out.size
 have jL:=fJ.out.trans (ay.mono dK)
 have eX:=HG.out.below jL
 have br:=HM.out.below jL
 have k2:=eX.hd.2.2.1
 have k5:=eX.hd.2.2.2.2.2
 have z2:=eX.cV 2
 have z5:=eX.cV 5
 obtain ⟨b,hb⟩:∃ b,b=w2.heap.size:=⟨_,rfl⟩
 rw [<-hb] at dp dK ⊢
 have ap:=eX.apart
 have d3:=eX.1.differ dp (by decide)
 have aA:=eX.aA br (.inl rfl)
 have hO:=(((ab.refl (·=a.f) w3).setCell (p:=⟨a.f,5,none⟩) (.inl rfl) (ptr b)).setCell (p:=⟨a.f,2,none⟩) (.inl rfl) (aS 195 (ptr a.f)))
 have hE:Hid (cY ((w3.setCell ⟨a.f,5,none⟩ (ptr b)).setCell ⟨a.f,2,none⟩ (aS 195 (ptr a.f))) {a with w:=b} {G with W:=new 0 cc G.sum G.key,nx:=3}):=Lib.hid
  ⟨(eX.1.store 5 (ptr b)).store 2 (aS 195 (ptr a.f)),eX.2.1.only hO (fun e=>ap.1 e.symm),eX.2.2.1.only hO (fun e=>ap.2.1 e.symm),dp.only hO (fun e=>d3 e.symm)⟩
 have Vp:=Lib.hid (br.only hO (fun x hx q=>aA (q▸hx)))
 have Vq:=Lib.hid ((ab.aD jL (bt a)).trans' hO (fun x _ q=>.inl q))
 replace dK:=Lib.hid dK
 clear hF dp ay fJ jL eX br ap d3 aA hO hb
 go_wp2_with fail
 go_ret
 exact ⟨rfl,Vp.out,⟨b,dK.out,hE.out⟩,Vq.out⟩
end
end Go.Proofs.YtpanebgakndddaaGreat.Gt
namespace Go.Proofs.YtpanebgakndddaaGreat.Gt
open Go Go.RowKit Hp K Fl Rw Hm Ar Mm Me Qs Wk
set_option maxRecDepth 100000
theorem Gi (W:Wa) (b h:Nat):dx {W with f:=b} h={dx W h with f:=b}:=by
 unfold dx
 split<;>rfl
theorem Bu (xs:List Int) (ss:List Sl) (F:Bool) (W:Wa) (b:Nat):Wk.aF xs ss (F,{W with f:=b})=((Wk.aF xs ss (F,W)).1,{(Wk.aF xs ss (F,W)).2 with f:=b}):=by
 unfold Wk.aF
 simp only
 split
 ·rw [<-Gi]
 split
 ·split
  ·rename_i k _
   unfold looks ma
   simp only
   split
   ·rfl
   ·rw [<-Gi]
  ·rfl
 ·rfl
theorem Gj (xs:List Int) (ss:List Sl) (F:Bool) (W:Wa) (b:Nat):Wk.cf xs ss (F,{W with f:=b})=Wk.cf xs ss (F,W):=by
 unfold Wk.cf
 rw [Bu]
abbrev Gs:=List Int×Bool×Ge
def dy (ds:List (Nat×Nat)) (ss:List Sl) (s:Gs):Gs:=
 if s.2.2.nx=1 then ((gu s.1 s.2.2.C).1,s.2.1,{s.2.2 with C:=(gu s.1 s.2.2.C).2,nx:=if s.2.2.C.at_=1 then 2 else 1})
 else if s.2.2.nx=2 then (s.1,s.2.1,{s.2.2 with W:=new 0 (cellOf s.2.2.sum (now s.1 ds)) s.2.2.sum s.2.2.key,nx:=3})
 else if s.2.2.nx=3 then (s.1,(Wk.aF s.1 ss (s.2.1,s.2.2.W)).1,{s.2.2 with W:=(Wk.aF s.1 ss (s.2.1,s.2.2.W)).2,nx:=if Wk.cf s.1 ss (s.2.1,s.2.2.W)=true then 4 else 3})
 else (s.1.set (2+s.2.2.C.worker) 0,s.2.1,{s.2.2 with iT:=1})
def eG (G:Ge):Bool:=decide (4<=G.nx)
structure l7 (r:Nat) (ds:List (Nat×Nat)) (ss:List Sl) (xs:List Int) (G:Ge):Prop where
 nx:1<=G.nx/\G.nx<=4
 at_:G.nx=1->G.C.at_<=1
 wk:2+G.C.worker<xs.length/\G.C.worker<=1000
 pd:0<=G.C.period/\G.C.period<=18446744073709551615
 sum:0<=G.sum/\G.sum<4294967296
 tb:∀ i,(aM ds i).1<=65536/\(aM ds i).2<=4000000
 cU:fg ss
 rb:r<=4000000000000000000
 wa:G.nx=3->ey r G.W
 go:G.nx=4->G.iT=0
def qA (w:World) (a a':Ga):Prop:=a'.f=a.f/\a'.c=a.c/\a'.o=a.o/\(a'.w=a.w\/w.heap.size<=a'.w)
theorem qA.refl (w:World) (a:Ga):qA w a a:=⟨rfl,rfl,rfl,.inl rfl⟩
theorem On (args:Array Value) (w:World):(callFunc 126 args).run Tryz.prog w=.ok (.enter 126 args) w:=by kernel_rfl
theorem Oo (args:Array Value) (w:World):(callFunc 160 args).run Tryz.prog w=.ok (.enter 160 args) w:=by kernel_rfl
theorem Oq (args:Array Value) (w:World):(callFunc 195 args).run Tryz.prog w=.ok (.enter 195 args) w:=by kernel_rfl
theorem Ot (args:Array Value) (w:World):(callFunc 213 args).run Tryz.prog w=.ok (.enter 213 args) w:=by kernel_rfl
section
variable {w w':World} {M:Mo} {a:Ga} {G:Ge}
theorem ll {F f:Nat} {cv m:Value} {c:Bool} {P:World->Prop} (c2:w.cell? ⟨f,2,none⟩=some (aS F cv)) (eF:∀ args w,(callFunc F args).run Tryz.prog w=.ok (.enter F args) w)
 (hF:Calls Tryz.prog F #[cv,m] w fun e w'=>e=.returned (.bool c)/\P w'):Calls Tryz.prog 284 #[ptr f,m] w fun e w'=>e=.returned (.bool c)/\P w':=by
 replace hF:=Lib.hid hF
 go_enter Tryz.func284,Tryz.ntmps284
 go_wp2_with fail
 refine hF.out.mono ?_
 rintro e w' ⟨rfl,bh⟩
 replace bh:=Lib.hid bh
 clear c2
 go_wp2_with fail
 go_ret
 exact ⟨rfl,bh.out⟩
set_option maxHeartbeats 1000000 in
theorem Ou (hM:ah w M) (h:cY w a G) (hN:fg M.ss) {r:Nat} (ok:ey (r+1) G.W) (h3:G.nx=3):
 Calls Tryz.prog 195 #[ptr a.f,ptr M.m] w fun e w'=>e=.returned (.bool false)/\ah w' {M with F:=(Wk.aF M.xs M.ss (M.F,G.W)).1}/\
  cY w' a {G with W:=(Wk.aF M.xs M.ss (M.F,G.W)).2,nx:=if Wk.cf M.xs M.ss (M.F,G.W)=true then 4 else 3}/\ab (fun x=>ao M x\/bt a x) w w':=by
 have dF:=h.apart
 have hS:=(Bv hM h.2.2.2 hN (r:=r) ⟨ok.cell,ok.at_,ok.read,ok.nx⟩).mono fun e w' q=>
  show e=.returned (.bool (Wk.cf M.xs M.ss (M.F,G.W)))/\ah w' {M with F:=(Wk.aF M.xs M.ss (M.F,G.W)).1}/\cY w' a {G with W:=(Wk.aF M.xs M.ss (M.F,G.W)).2}/\ab (fun x=>ao M x\/bt a x) w w' from by
   have q1:=q.1
   have q2:=q.2.1
   have q3:=q.2.2.1
   have q4:=q.2.2.2
   rw [Gj] at q1
   rw [Bu] at q2 q3
   have aA:∀ x,bt a x->x≠a.w->¬(ao M x\/x=(G.wa a.w).f):=fun x hx hn q=>q.elim (fun q=>h.aA hM hx q) (fun q=>hn q)
   refine ⟨q1,q2,⟨h.1.only q4 (aA _ (.inl rfl) dF.2.2.1),h.2.1.only q4 (aA _ (.inr (.inl rfl)) dF.2.2.2.2.1),h.2.2.1.only q4 (aA _ (.inr (.inr (.inl rfl))) dF.2.2.2.2.2),q3⟩,q4.mono (fun x _ y=>y.imp id (fun e=>.inr (.inr (.inr e))))⟩
 have c5:=h.hd.2.2.2.2.2
 have dm:=Lib.hid (h.aA hM (.inl rfl))
 cases cq:Wk.cf M.xs M.ss (M.F,G.W) with
 | true=>
   rw [cq] at hS
   rw [if_pos rfl]
   generalize Wk.aF M.xs M.ss (M.F,G.W)=z at*
   obtain ⟨zf,zw⟩:=z
   simp only at hS ⊢
   replace hS:=Lib.hid hS
   clear cq h hM hN ok dF h3
   go_enter Tryz.func195,Tryz.ntmps195
   go_wp2_with fail
   refine hS.out.mono ?_
   rintro e w1 ⟨rfl,av,ak,aw⟩
   have k2:=ak.hd.2.2.1
   have k4:=ak.hd.2.2.2.2.1
   have z2:=ak.cV 2
   have du:=Lib.hid (ak.next 4)
   have ae:=(ab.refl (·=a.f) w1).setCell (p:=⟨a.f,2,none⟩) (.inl rfl) (jU a 4)
   have aB:=Lib.hid (av.only ae (fun x hx q=>dm.out (q▸hx)))
   have aq:=Lib.hid (aw.trans' ae (fun x _ q=>.inr (.inl q)))
   clear ae av ak aw hS c5
   go_wp2_with fail
   go_ret
   exact ⟨rfl,aB.out,du.out,aq.out⟩
 | false=>
   rw [cq] at hS
   rw [if_neg (by simp)]
   have gS:=hS.mono fun e w' q=>show e=.returned (.bool false)/\ah w' {M with F:=(Wk.aF M.xs M.ss (M.F,G.W)).1}/\cY w' a {G with W:=(Wk.aF M.xs M.ss (M.F,G.W)).2,nx:=3}/\ab (fun x=>ao M x\/bt a x) w w' from
    ⟨q.1,q.2.1,by have:=q.2.2.1; rw [<-h3]; exact this,q.2.2.2⟩
   clear hS
   generalize Wk.aF M.xs M.ss (M.F,G.W)=z at*
   obtain ⟨zf,zw⟩:=z
   simp only at gS ⊢
   replace gS:=Lib.hid gS
   clear cq h hM hN ok dF h3
   go_enter Tryz.func195,Tryz.ntmps195
   go_wp2_with fail
   refine gS.out.mono ?_
   rintro e w1 ⟨rfl,av,ak,aw⟩
   replace av:=Lib.hid av
   replace ak:=Lib.hid ak
   replace aw:=Lib.hid aw
   clear gS c5
   go_wp2_with fail
   go_ret
   exact ⟨rfl,av.out,ak.out,aw.out⟩
theorem Gk (hM:ah w M) (h:cY w a G) {r:Nat} (ok:l7 (r+1) M.ds M.ss M.xs G):
 Calls Tryz.prog 284 #[ptr a.f,ptr M.m] w fun e w'=>e=.returned (.bool (eG G))/\∃ a',qA w a a'/\ah w' {M with xs:=(dy M.ds M.ss (M.xs,M.F,G)).1,F:=(dy M.ds M.ss (M.xs,M.F,G)).2.1}/\
  cY w' a' (dy M.ds M.ss (M.xs,M.F,G)).2.2/\ab (fun x=>ao M x\/bt a x) w w':=by
 have c2:=h.hd.2.2.1
 unfold jU at c2
 have fR:=ok.nx
 unfold eG
 by_cases e1:G.nx=1
 ·have hs:dy M.ds M.ss (M.xs,M.F,G)=((gu M.xs G.C).1,M.F,{G with C:=(gu M.xs G.C).2,nx:=if G.C.at_=1 then 2 else 1}):=by unfold dy; rw [if_pos e1]
  rw [if_pos e1] at c2
  rw [hs,show decide (4<=G.nx)=false by simp; omega]
  refine ll c2 On ((Om hM h (ok.at_ e1) ok.wk.1 ok.wk.2 ok.pd).mono fun e w' q=>⟨q.1,a,qA.refl _ _,q.2.1,?_,q.2.2.2⟩)
  have:=q.2.2.1
  rw [e1] at this
  exact this
 rw [if_neg e1] at c2
 by_cases e2:G.nx=2
 ·have hs:dy M.ds M.ss (M.xs,M.F,G)=(M.xs,M.F,{G with W:=new 0 (cellOf G.sum (now M.xs M.ds)) G.sum G.key,nx:=3}):=by unfold dy; simp only; rw [if_neg e1,if_pos e2]
  rw [if_pos e2] at c2
  rw [hs,show decide (4<=G.nx)=false by simp; omega]
  refine ll c2 Oo ((vv hM h (by have:=ok.wk; omega) (ok.tb _) ok.sum).mono fun e w' q=>?_)
  obtain ⟨b,hb,hG⟩:=q.2.2.1
  exact ⟨q.1,{a with w:=b},⟨rfl,rfl,rfl,.inr hb⟩,q.2.1,hG,q.2.2.2.mono (fun x _ y=>.inr y)⟩
 rw [if_neg e2] at c2
 by_cases e3:G.nx=3
 ·have hs:dy M.ds M.ss (M.xs,M.F,G)=(M.xs,(Wk.aF M.xs M.ss (M.F,G.W)).1,{G with W:=(Wk.aF M.xs M.ss (M.F,G.W)).2,nx:=if Wk.cf M.xs M.ss (M.F,G.W)=true then 4 else 3}):=by unfold dy; simp only; rw [if_neg e1,if_neg e2,if_pos e3]
  rw [if_pos e3] at c2
  rw [hs,show decide (4<=G.nx)=false by simp; omega]
  exact ll c2 Oq ((Ou hM h ok.cU (ok.wa e3) e3).mono fun e w' q=>⟨q.1,a,qA.refl _ _,q.2.1,q.2.2.1,q.2.2.2⟩)
 rw [if_neg e3] at c2
 have e4:G.nx=4:=by omega
 have hs:dy M.ds M.ss (M.xs,M.F,G)=(M.xs.set (2+G.C.worker) 0,M.F,{G with iT:=1}):=by unfold dy; simp only; rw [if_neg e1,if_neg e2,if_neg e3]
 rw [hs,show decide (4<=G.nx)=true by simp; omega]
 have ho:jE w a.o G.C.worker 0:=by have:=h.2.2.1; rw [ok.go e4] at this; exact this
 refine ll c2 Ot ((Gm hM ho ok.wk.1 ok.wk.2).mono fun e w' q=>⟨q.1,a,qA.refl _ _,q.2.1,?_,q.2.2.2.mono (fun x _ y=>y.imp id (fun e=>.inr (.inr (.inl e))))⟩)
 have dF:=h.apart
 have aA:∀ x,bt a x->x≠a.o->¬(ao M x\/x=a.o):=fun x hx hn q=>q.elim (fun q=>h.aA hM hx q) hn
 exact ⟨h.1.only q.2.2.2 (aA _ (.inl rfl) dF.2.1),h.2.1.only q.2.2.2 (aA _ (.inr (.inl rfl)) dF.2.2.2.1),q.2.2.1,h.2.2.2.only q.2.2.2 (aA _ (.inr (.inr (.inr rfl))) (fun e=>dF.2.2.2.2.2 e.symm))⟩
end
end Go.Proofs.YtpanebgakndddaaGreat.Gt
namespace Go.Proofs.YtpanebgakndddaaGreat.Pc
open Go Hm Ar Mm Wk
abbrev Pr:=ByteArray×ByteArray
def sm (k:ByteArray):Int:=(FM.sum k.data.toList:Nat)
theorem qC (k:ByteArray):0<=sm k/\sm k<4294967296:=by
 have:=FM.Bn k.data.toList
 unfold sm
 omega
def dN (p:Pr) (z:Nat):Nd:=⟨p.1,p.2,sm p.1,z⟩
inductive Cn (ss:List Sl):Nat->List Pr->Prop
 | nil:Cn ss 0 []
 | cons {x k z:Nat} {p:Pr} {t:List Pr}:aV ss x k->(ai ss k).nd=dN p z->Cn ss z t->Cn ss x (p::t)
section
variable {ss:List Sl} {x:Nat} {q:List Pr}
theorem Cn.pos (h:Cn ss x q):x=0↔q=[]:=by
 cases h with
 | nil=>simp
 | cons a b c=>simp [a.pos]
def lk:List Pr->ByteArray->Option ByteArray
 | [],_=>none
 | p::t,key=>if p.1=key then some p.2 else lk t key
end
theorem fH (xs:List Int) (k:Nat) (v:Int) (h:k<xs.length) (i:Nat):Cl.nth (xs.set k v) i=if i=k then v else Cl.nth xs i:=by
 unfold Cl.nth
 by_cases e:i=k
 ·subst e; simp [List.getD,h]
 ·rw [if_neg e]; simp [List.getD,List.getElem?_set_ne (Ne.symm e)]
theorem HV {k:Nat} (h:k<=16):FM.bo ((2 ^ k:Nat):Int)=true:=(FM.Bl _).2 ⟨k,h,rfl⟩
theorem Hv {n:Nat} (hp:FM.bo n=true) (s:Int) (hs:0<=s):0<=FM.bucket s n/\FM.bucket s n<n:=by
 have:=FM.eU hp
 unfold FM.bucket
 rw [hp,if_pos rfl]
 exact ⟨Int.emod_nonneg _ (by omega),Int.emod_lt_of_pos _ (by omega)⟩
/-! ### laid from the end-/
end Go.Proofs.YtpanebgakndddaaGreat.Pc
