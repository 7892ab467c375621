/- Walks and plain mathematics, put together in their order: LawFiveA, Made, LawSixA, LawSevenA, FrP, FrW, WalkA, WalkB, WalkC, FinishN, WalkD, GetA, GetB, GetC, Pairs. -/
import Derived.Test.YtpanebgakndddaaGreatMemNew
import Derived.Test.YtpanebgakndddaaGreatFnvWalk
import Derived.Test.YtpanebgakndddaaGreatAwakeOne
import Derived.Test.YtpanebgakndddaaGreatLawTwoA
import Derived.Test.YtpanebgakndddaaGreatAwakeThree
import Derived.Test.YtpanebgakndddaaGreatAwakeFour
import Derived.Test.YtpanebgakndddaaGreatQsbrE
import Derived.Test.YtpanebgakndddaaGreatRetE
import Derived.Test.YtpanebgakndddaaGreatRetL
import Derived.Deep.RegionHeld3
import Derived.Laws.EntriesVeiled
import Derived.Deep.QuietTactic
import Derived.BigQuiet
import Derived.StillTailTactics
import Derived.Deep.DeepCutAuto
import Derived.BigRegion
import Derived.Test.YtpanebgakndddaaGreatFinish
import Derived.Test.YtpanebgakndddaaGreatQsbrD
import Derived.Test.YtpanebgakndddaaGreatFnvMath
set_option linter.unusedVariables false
set_option linter.unusedSimpArgs false
namespace Go.Proofs.YtpanebgakndddaaGreat.yL
open Go Go.RowKit Hp K Fl Rw Hm Ar Mm Me LK
set_option maxRecDepth 100000
theorem one (w:World):Calls Tryz.prog 181 #[] w fun e w'=>e=.returned (.bool true)/\w=w':=(Fc.ey w).mono fun _ _ h=>⟨h.1,h.2.symm⟩
set_option maxHeartbeats 1000000 in
theorem ey (w:World):Calls Tryz.prog 146 #[] w fun e w'=>e=.returned (.bool true)/\Below w.heap.size w w':=by
 have hN:=Lib.hid (Ht 4 2 w (by omega) (by omega))
 go_enter Tryz.func146,Tryz.ntmps146
 go_wp2_with fail
 refine hN.out.mono ?_
 rintro e w1 ⟨M,rfl,hM,aW,hB,h1,h2,h3,h4,h5,h6,h7⟩
 have Kl:=Lib.hid (Cl.mM hM.2.1 0 (by rw [h1]; simp))
 rw [h1,show Cl.nth (1::List.replicate (2+2) 0) 0=1 from rfl] at Kl
 obtain ⟨c0,c1,c2,_⟩:=hM.hd
 have hlen:∀ w',Below w1.heap.size w1 w'->Calls Tryz.prog 185 #[ptr M.g] w' fun e w''=>e=.returned (.int .i64 5)/\w'=w'':=fun w' hb=>by
  have:=(Cl.ya (hM.below hb).2.1)
  rw [h1] at this
  exact this.mono fun _ _ h=>⟨h.1,h.2.symm⟩
 have bU:∀ w',Below w1.heap.size w1 w'->Calls Tryz.prog 64 #[ptr M.m] w' fun e w''=>e=.returned (.agg #[.int .i64 1,.int .i64 4])/\Below w'.heap.size w' w'':=fun w' hb=>by
  have:=py (hM.below hb) (by rw [h1]; simp)
  rw [h1,h6] at this
  exact this
 have zW:∀ w',Below w1.heap.size w1 w'->w'.cell? ⟨M.m,0,none⟩=some (ptr M.g):=fun w' hb=>(hM.below hb).hd.1
 replace hlen:=Lib.hid hlen
 replace bU:=Lib.hid bU
 replace zW:=Lib.hid zW
 replace hB:=Lib.hid hB
 clear hN hM aW h1 h2 h3 h4 h5 h6 h7
 go_wp2_with (first
  | (go_at_call 90; refine Kl.out.mono ?_; rintro e w' ⟨rfl,hw⟩; obtain rfl:w1=w':=hw.symm)
  | (go_at_call 181; refine (one _).mono ?_; rintro e w' ⟨rfl,rfl⟩))
 refine (Hu.ey w1).mono ?_
 rintro e w2 ⟨rfl,ag⟩
 have et:=zW.out w2 ag
 replace ag:=Lib.hid ag
 go_wp2_with fail
 refine (Fe.ey w2).mono ?_
 rintro e w3 ⟨rfl,ay⟩
 replace ay:=Lib.hid (ag.out.trans (ay.mono ag.out.size))
 clear et
 go_wp2_with fail
 refine (Fb.ey w3).mono ?_
 rintro e w4 ⟨rfl,az⟩
 replace az:=Lib.hid (ay.out.trans (az.mono ay.out.size))
 have V0:=zW.out w4 az.out
 have uC:=Lib.hid (hlen.out w4 az.out)
 have ta:=Lib.hid (bU.out w4 az.out)
 clear c0 c1 c2
 go_wp2_with (first
  | (go_at_call 185; refine uC.out.mono ?_; rintro e w' ⟨rfl,rfl⟩)
  | (go_at_call 64; refine ta.out.mono ?_; rintro e w5 ⟨rfl,bI⟩
     replace bI:=Lib.hid (hB.out.trans ((az.out.trans (bI.mono az.out.size)).mono hB.out.size))))
 go_ret
 exact ⟨rfl,bI.out⟩
/-! ### names-/
end Go.Proofs.YtpanebgakndddaaGreat.yL
namespace Go.Proofs.YtpanebgakndddaaGreat.fk
open Go Go.RowKit Hp K Fl Rw Hm Ar Mm Me
set_option maxRecDepth 100000
def oo (w:World) (n k:Nat) (M:Mo) (w':World):Prop:=
 ah w' M/\(∀ x,ao M x->w.heap.size<=x)/\Below w.heap.size w w'/\M.xs=1::List.replicate (k+2) 0/\M.ss=List.replicate n .zero/\M.F=false/\M.hs=List.replicate 6 (-1)/\M.k=k/\M.ds=[(1,k+2)]/\M.ws=[]
theorem mJ (n k:Nat) (w:World) (hn:1<=n/\n<=1024) (hk:1<=k/\k<=8):Calls Tryz.prog 6 #[.int .i64 n,.int .i64 k] w fun e w'=>∃ M,e=.returned (ptr M.m)/\oo w n k M w':=by
 have hN:=Lib.hid (Ht n k w hn hk)
 go_enter Tryz.func6,Tryz.ntmps6
 go_wp2_with fail
 refine hN.out.mono ?_
 rintro e w1 ⟨M,rfl,hM⟩
 obtain ⟨c0,c1,c2,_⟩:=hM.1.hd
 replace hM:=Lib.hid hM
 clear hN
 go_wp2_with fail
 go_ret
 exact ⟨M,rfl,hM.out⟩
end Go.Proofs.YtpanebgakndddaaGreat.fk
namespace Go.Proofs.YtpanebgakndddaaGreat.fk
open Go Go.RowKit Hp K Fl Rw Hm Ar Mm Me LK Qs
set_option maxRecDepth 100000
set_option maxHeartbeats 1000000 in
theorem ey (w:World):Calls Tryz.prog 115 #[] w fun e w'=>e=.returned (.bool true)/\Below w.heap.size w w':=by
 have hN:=Lib.hid (mJ 1 2 w (by omega) (by omega))
 go_enter Tryz.func115,Tryz.ntmps115
 go_wp2_with fail
 refine hN.out.mono ?_
 rintro e w1 ⟨M,rfl,hM,aW,hB,h1,h2,h3,h4,h5,h6,h7⟩
 clear hN
 have hE:=Lib.hid (Gx 1 w1)
 replace hM:=Lib.hid hM
 replace aW:=Lib.hid aW
 replace hB:=Lib.hid hB
 replace h1:=Lib.hid h1
 replace h4:=Lib.hid h4
 replace h5:=Lib.hid h5
 clear h2 h3 h6 h7
 go_wp2_with fail
 refine hE.out.mono ?_
 rintro e w2 ⟨rfl,gL,ag⟩
 have hS:=Lib.hid (yD 0 w2)
 replace hM:=Lib.hid (hM.out.below ag)
 replace gL:=Lib.hid gL
 replace ag:=Lib.hid ag
 clear hE
 go_wp2_with fail
 refine hS.out.mono ?_
 rintro e w3 ⟨rfl,dq,ay⟩
 replace hM:=Lib.hid (hM.out.below ay)
 have n7:gu w3 w1.heap.size ⟨1,0,0⟩:=gL.out.only (ab.aD ay (fun _=>False)) (by simp)
 have aH:w1.heap.size≠w2.heap.size:=by have:=gL.out.lt; omega
 have jP:=Lib.hid (hB.out.trans ((ag.out.trans (ay.mono ag.out.size)).mono hB.out.size))
 have zY:w.heap.size<=w1.heap.size:=hB.out.size
 have zZ:w.heap.size<=w2.heap.size:=by have:=ag.out.size; omega
 clear hS gL hB ag ay
 generalize w1.heap.size=fe at*
 generalize w2.heap.size=fs at*
 have ff:=QL hM.out n7 (by simp) (by rw [h1.out]; simp) (by simp) (by simp) 9 (by omega)
 have e1:fin (fun _=>true) sn (fun s=>decide (s.2.at_=1)) 9 (M.xs,(⟨1,0,0⟩:Cm))=(2,true,[1,0,0,1,0],⟨1,2,1⟩):=by rw [h1.out]; rfl
 rw [e1] at ff
 replace ff:=Lib.hid ff
 replace dq:=Lib.hid dq
 replace zY:=Lib.hid zY
 replace zZ:=Lib.hid zZ
 replace aH:=Lib.hid aH
 clear e1 n7
 go_wp2_with fail
 refine ff.out.mono ?_
 rintro e w4 ⟨rfl,dM,qZ,aM⟩
 have fV:cZ w4 fs ⟨0,0,0,0⟩:=dq.out.only aM (by
  rintro (q | q)
  ·exact (dq.out.aA hM.out) q
  ·exact aH.out q.symm)
 have aQ:=Hy (n:=2) dM fV h5.out ⟨by omega,by simp,by simp,by rw [h4.out]; simp,by simp,by simp,by simp⟩ 9 (by omega)
 have e2:fin tX (tY 2) so 9 ([1,0,0,1,0],M.hs,(⟨0,0,0,0⟩:Wt))=(3,false,[2,0,0,1,0],[0, -1, -1, -1, -1, -1],⟨0,2,2,1⟩):=by rw [h4.out]; rfl
 rw [e2] at aQ
 replace aQ:=Lib.hid aQ
 replace aM:=Lib.hid aM
 replace dM:=Lib.hid dM
 clear e2 qZ fV ff
 go_wp2_with fail
 refine aQ.out.mono ?_
 rintro e w5 ⟨rfl,ia,lS,bJ⟩
 have low:∀ (a b:World) (f:Nat),Below w.heap.size w a->ab (fun x=>ao M x\/x=f) a b->w.heap.size<=f->Below w.heap.size w b:=fun a b f ha ho hf=>ha.trans (ho.toBelow ha.size (fun x hx q=>by
  rcases q with q | q
  ·have:=aW.out x q; omega
  ·omega))
 replace low:=Lib.hid low
 have bI:=low.out _ _ _ (low.out _ _ _ jP.out aM.out zY.out) bJ zZ.out
 have hL:=Lib.hid (Gy 1 w5)
 replace ia:=Lib.hid ia
 replace lS:=Lib.hid lS
 replace bI:=Lib.hid bI
 clear bJ aM dM aQ hM dq jP zY aH
 go_wp2_with fail
 refine hL.out.mono ?_
 rintro e w6 ⟨rfl,ni,gH⟩
 have ji:=ia.out.below gH
 have iV:cZ w6 fs ⟨0,2,2,1⟩:=lS.out.only (ab.aD gH (fun _=>False)) (by simp)
 have Aa:w.heap.size<=w5.heap.size:=bI.out.size
 have aH:w5.heap.size≠fs:=by have:=lS.out.lt; omega
 have Kn:=Lib.hid (bI.out.trans (gH.mono Aa))
 generalize w5.heap.size=fl at*
 have Ko:Hid (Calls Tryz.prog 152 #[ptr M.m,.int .i64 1] w6 fun e w'=>e=.returned (.bool true)/\∃ n,w'=w6.drewN n):=Lib.hid (Hz ji 1 (by simp) (by omega))
 replace ni:=Lib.hid ni
 replace ji:=Lib.hid ji
 replace iV:=Lib.hid iV
 replace Aa:=Lib.hid Aa
 replace aH:=Lib.hid aH
 clear gH hL bI ia lS
 go_wp2_with fail
 refine Ko.out.mono ?_
 rintro e w7 ⟨rfl,nq,rfl⟩
 have Ab:=ji.out.drewN nq
 have qj:cZ (w6.drewN nq) fs ⟨0,2,2,1⟩:=iV.out.only ((ab.refl (fun _=>False) w6).drewN nq) (by simp)
 have D7:jK (w6.drewN nq) fl 1 0:=ni.out.only ((ab.refl (fun _=>False) w6).drewN nq) (by simp)
 have m7:Below w.heap.size w (w6.drewN nq):=Kn.out.trans ⟨rfl,rfl,rfl,Nat.le_refl _,fun _ _=>rfl⟩
 have V6:=D7.aA Ab
 have Ad:=qj.aA Ab
 generalize w6.drewN nq=w7 at*
 have eO:=Lib.hid (QM Ab D7 (by simp) (by omega) 9 (by omega) (by omega))
 replace m7:=Lib.hid m7
 replace qj:=Lib.hid qj
 replace Ad:=Lib.hid Ad
 clear Ab D7 ji iV ni Ko Kn V6
 go_wp2_with fail
 refine eO.out.mono ?_
 rintro e w8 ⟨rfl,Kq,V7,D8⟩
 have Kr:cZ w8 fs ⟨0,2,2,1⟩:=qj.out.only D8 (by
  rintro (q | q)
  ·exact Ad.out q
  ·exact aH.out q.symm)
 have qU:=Lib.hid (low.out _ _ _ m7.out D8 Aa.out)
 have eR:=Hy (n:=2) Kq Kr h5.out ⟨by omega,by simp,by simp,by simp,by simp,by simp,by simp [Lo.aE]⟩ 9 (by omega)
 have e3:fin tX (tY 2) so 9 ([2,0,0,1,0].set (2+1) 0,[0, -1, -1, -1, -1, -1],(⟨0,2,2,1⟩:Wt))=(2,true,[2,0,0,0,0],[-1, -1, -1, -1, -1, -1],⟨0,4,2,2⟩):=by rfl
 have Ae:Calls Tryz.prog 58 #[ptr M.m,.iface 124 (ptr fs),.int .i64 9] w8 fun e w'=>e=.returned (.tuple #[.int .i64 2,.bool true])/\tZ w8 M fs ([2,0,0,0,0],[-1, -1, -1, -1, -1, -1],⟨0,4,2,2⟩) w':=by
  simp only at eR
  rw [e3] at eR
  exact eR
 replace Ae:=Lib.hid Ae
 clear e3 eR qj Ad m7 eO D8 V7 Kq Kr
 go_wp2_with fail
 refine Ae.out.mono ?_
 rintro e w9 ⟨rfl,Af,V8,Ks⟩
 have kI:=Lib.hid (low.out _ _ _ qU.out Ks zZ.out)
 replace Af:=Lib.hid Af
 clear Ae Ks V8 qU
 go_wp2_with fail
 refine (yL.ey w9).mono ?_
 rintro e w10 ⟨rfl,sX⟩
 have Kt:=Af.out.below sX
 have hB:=Lib.hid (kI.out.trans (sX.mono kI.out.size))
 have hI:Hid (Calls Tryz.prog 152 #[ptr M.m,.int .i64 1] w10 fun e w'=>e=.returned (.bool false)/\∃ n,w'=w10.drewN n):=Lib.hid (Hz Kt 1 (by simp) (by omega))
 clear Kt sX kI Af
 go_wp2_with (go_at_call 152; refine hI.out.mono ?_; rintro e w' ⟨rfl,nq,rfl⟩)
 go_ret
 exact ⟨rfl,hB.out.trans ⟨rfl,rfl,rfl,Nat.le_refl _,fun _ _=>rfl⟩⟩
end Go.Proofs.YtpanebgakndddaaGreat.fk
namespace Go.Proofs.YtpanebgakndddaaGreat.vA
open Go Go.RowKit Hp K Fl Rw Hm Ar Mm Me LK Qs Re fk
set_option maxRecDepth 100000
structure S7 (W0 w:World) (M:Mo) (D:Dr):Prop where
 mem:ah w M
 dr:df w D
 below:Below W0.heap.size W0 w
 kt:∀ x,ao M x->W0.heap.size<=x
 rV:∀ x,gD D x->W0.heap.size<=x
 apart:D.left≠[]->∀ y,In D.A y->¬ao M y
section
variable {W0 w w':World} {M M':Mo} {D:Dr}
theorem S7.aA (h:S7 W0 w M D):∀ x,gD D x->¬ao M x:=by
 rintro x (rfl | rfl | ⟨hl,hx⟩)
 ·exact (h.dr.aA h.mem).1
 ·exact (h.dr.aA h.mem).2
 ·exact h.apart hl x hx
theorem S7.down (h:S7 W0 w M D) (hb:Below w.heap.size w w'):S7 W0 w' M D:={h with mem:=h.mem.below hb,dr:=h.dr.below hb,below:=h.below.trans (hb.mono h.below.size)}
theorem S7.eY (h:S7 W0 w M D) (hM:ah w' M') (ho:ab (ao M) w w') (hf:∀ x,ao M' x->ao M x\/w.heap.size<=x):S7 W0 w' M' D:=
 ⟨hM,h.dr.only ho h.aA,h.below.trans (ho.toBelow h.below.size (fun x hx q=>by have:=h.kt x q; omega)),fun x hx=>by
  rcases hf x hx with q | q
  ·exact h.kt x q
  ·have:=h.below.size; omega,h.rV,fun hl y hy q=>by
  rcases hf y q with q | q
  ·exact h.apart hl y hy q
  ·have:=h.dr.lt (.inr (.inr ⟨hl,hy⟩)); omega⟩
theorem S7.alloc (h:S7 W0 w M D) {ss':List Sl} {F':Bool} (hA:bS w' M.ar M.sb M.fb ss' F') (ho:ab (dN M.ar M.sb M.fb) w w'):S7 W0 w' {M with ss:=ss',F:=F'} D:=
 h.eY (h.mem.qI hA ho) (ho.mono (fun _ _ q=>jf _ q)) (fun _ q=>.inl q)
theorem S7.put (h:S7 W0 w M D) {x:Nat} (hp:cR w M x w'):∃ V' capV',S7 W0 w' {M with V:=V',capV:=capV',ws:=M.ws++[x]} D:=by
 obtain ⟨V',capV',hM,ho,hV⟩:=hp
 refine ⟨V',capV',h.eY hM (ho.mono (fun x _ q=>?_)) (fun x q=>?_)⟩
 ·rcases q with q | q
  ·exact .inl q
  ·exact .inr (.inr (.inr (.inr (.inr q))))
 ·rcases q with q | q | q | q | q | q
  ·exact .inl (.inl q)
  ·exact .inl (.inr (.inl q))
  ·exact .inl (.inr (.inr (.inl q)))
  ·exact .inl (.inr (.inr (.inr (.inl q))))
  ·exact .inl (.inr (.inr (.inr (.inr (.inl q)))))
  ·rcases hV x q with q | q
   ·exact .inl (.inr (.inr (.inr (.inr (.inr q)))))
   ·exact .inr q
theorem S7.rM {n:Nat} (h:S7 W0 w M D) (aH:D.at_≠0->D.left≠[]) (hM:ah w' (aO n M D).1) (hD:df w' (aO n M D).2) (ho:ab (cg M D) w w'):S7 W0 w' (aO n M D).1 (aO n M D).2:=by
 have hs:=yu (n:=n) (M:=M) (D:=D)
 refine ⟨hM,hD,h.below.trans (ho.toBelow h.below.size (fun x hx q=>?_)),fun x q=>h.kt x (QI q),fun x q=>?_,QJ h.mem h.apart aH⟩
 ·rcases q with q | q | q
  ·have:=h.kt x q; omega
  ·have:=h.rV x (.inl q); omega
  ·have:=h.rV x (.inr (.inl q)); omega
 ·rcases q with q | q | ⟨hl,q⟩
  ·exact h.rV x (.inl (q.trans hs.2.1))
  ·exact h.rV x (.inr (.inl (q.trans hs.2.2.1)))
  ·rcases QK aH hl q with q | q
   ·exact h.kt x q
   ·exact h.rV x (.inr (.inr q))
theorem Gu {w1:World} {k:Int} {f:Nat} (hM:ah w M) (bV:Below W0.heap.size W0 w) (aW:∀ x,ao M x->W0.heap.size<=x) (hf:w.heap.size<f) (hD:df w1 ⟨f,w.heap.size,0,⟨k,0,0,0⟩,none,0,[]⟩) (hb:Below w.heap.size w w1):
 S7 W0 w1 M ⟨f,w.heap.size,0,⟨k,0,0,0⟩,none,0,[]⟩:=by
 have h0:=bV.size
 refine ⟨hM.below hb,hD,bV.trans (hb.mono h0),aW,?_,fun q=>absurd rfl q⟩
 rintro x (q | q | ⟨q,_⟩)
 ·have q:x=f:=q
  omega
 ·have q:x=w.heap.size:=q
  omega
 ·exact absurd rfl q
end
theorem Gk {n:Nat} {M:Mo} {f fw:Nat} {k:Int} {B:Nat} (hn:1<=n/\n<=8) (hk:M.k=n) (Xr:0<=k/\k<=1000) (hl:0<M.hs.length) (hx:n+2<=M.xs.length) (hw:Wr M.ss M.ws [] B):Pd n M ⟨f,fw,0,⟨k,0,0,0⟩,none,0,[]⟩ B:=
 ⟨by simp,hk,hl,fun _=>⟨rfl,rfl⟩,fun q=>absurd rfl q,fun _=>⟨hn.2,by simp,by simp; omega,hl,hx,⟨by simp,fun _=>by show 0<n; omega⟩,fun q=>absurd rfl q⟩,fun _ _=>rfl,hw⟩
end Go.Proofs.YtpanebgakndddaaGreat.vA
namespace Go.Proofs.YtpanebgakndddaaGreat.Wf
open Go Go.RowKit Hp K Fl Rw Hm Ar Mm Me Qs fk Re vA
set_option maxRecDepth 100000
structure Fr (M:Mo) (D:Dr) (B:Nat):Prop where
 pd:Pd 2 M D B
 zero:∀ i,i<2->Cl.nth M.xs (2+i)=0
 lock:D.at_=0\/(D.at_=1/\D.W.at_=0)\/D.at_=2->Lo.aE M.hs 0= -1
 F:M.F=false
 len:M.ss.length=30
 xl:4<=M.xs.length
def jU (M:Mo) (D:Dr):Nat:=(if D.at_=0 then 0 else gP 2 M D)+(if M.ws=[] then 0 else M.ws.length+6)
section
variable {M:Mo} {D:Dr} {B:Nat}
theorem Fr.qd (h:Fr M D B) (hr:D.at_≠0\/M.ws≠[]):∃ z,Qd 2 M D z:=by
 by_cases h0:D.at_=0
 ·exact ⟨[],h.zero,h.lock,fun _=>⟨hr.resolve_left (fun q=>q h0),rfl⟩,fun q=>absurd h0 q⟩
 ·exact ⟨M.ws,h.zero,h.lock,fun q=>absurd q h0,fun _=>rfl⟩
theorem Fr.ready (h:Fr M D B):fP M D=decide (D.at_≠0\/M.ws≠[]):=by
 by_cases hr:D.at_≠0\/M.ws≠[]
 ·obtain ⟨z,hz⟩:=h.qd hr
  rw [decide_eq_true hr]
  exact (Qd.run h.pd hz).1
 ·rw [decide_eq_false hr]
  have h0:D.at_=0:=by omega
  have hw:M.ws=[]:=Decidable.not_not.1 (fun q=>hr (.inr q))
  simp [fP,h0,hw]
theorem Fr.Ol (h:Fr M D B) (hp:jU M D=0):D.at_=0/\M.ws=[]:=by
 unfold jU at hp
 have hw:M.ws=[]:=by
  by_cases q:M.ws=[]
  ·exact q
  ·rw [if_neg q] at hp; omega
 refine ⟨?_,hw⟩
 by_cases q:D.at_=0
 ·exact q
 ·obtain ⟨z,hz⟩:=h.qd (.inl q)
  have:=(Qd.run h.pd hz).2.1
  rw [if_neg q] at hp
  omega
theorem Fr.Oj (h:Fr M D B):jU M D<=72:=by
 have hc:=h.pd.wr.iF
 rw [h.len] at hc
 have hr:rem 2 D.W<=5:=by
  unfold rem
  split
  ·omega
  split
  ·omega
  split<;>omega
 unfold jU gP
 split<;>split<;>(try split)<;>omega
theorem Fr.iF (h:Fr M D B):(du M.ss M.ss.length).length+M.ws.length+D.left.length=30:=by
 have hc:=h.pd.wr.iF
 have:=h.len
 omega
theorem Fr.step (h:Fr M D B) (hr:D.at_≠0\/M.ws≠[]) (hd:¬(D.at_=2/\D.left.tail=[])):Fr (aO 2 M D).1 (aO 2 M D).2 B/\jU (aO 2 M D).1 (aO 2 M D).2+1=jU M D/\(aO 2 M D).2.at_≠0:=by
 obtain ⟨z,hz⟩:=h.qd hr
 obtain ⟨r1,r2,r3,r4⟩:=Qd.run h.pd hz
 obtain ⟨q2,m2⟩:=r4 hd
 have hp:=h.pd.step r1 hd
 have bO:(aO 2 M D).2.at_≠0:=by
  unfold aO
  split
  ·simp
  split
  ·show (if D.W.at_=3 then 2 else 1)≠0
   split<;>omega
  ·show (if D.left.tail=[] then 3 else 2)≠0
   split<;>omega
 have hs:(aO 2 M D).1.F=M.F/\(aO 2 M D).1.ss.length=M.ss.length/\(aO 2 M D).1.xs.length=M.xs.length:=by
  unfold aO
  split
  ·exact ⟨rfl,rfl,rfl⟩
  split
  ·unfold aI
   split
   ·simp
   split
   ·simp
   split<;>simp
  ·simp [ik]
 have iR:(D.at_=0->(aO 2 M D).1.ws=[])/\(D.at_≠0->(aO 2 M D).1.ws=M.ws):=by
  constructor
  ·intro q; unfold aO; rw [if_pos q]
  ·intro q; unfold aO; rw [if_neg q]; split<;>rfl
 refine ⟨⟨hp,q2.zero,q2.lock,hs.1.trans h.F,hs.2.1.trans h.len,by rw [hs.2.2]; exact h.xl⟩,?_,bO⟩
 unfold jU
 rw [if_neg bO]
 by_cases h0:D.at_=0
 ·have hw:M.ws≠[]:=hr.resolve_left (fun q=>q h0)
  rw [if_pos h0,if_neg hw,iR.1 h0,if_pos rfl]
  have e:gP 2 M D=M.ws.length+6:=by unfold gP; rw [if_pos h0]; omega
  omega
 ·rw [if_neg h0,iR.2 h0]
  omega
theorem Fr.last (h:Fr M D B) (hd:D.at_=2/\D.left.tail=[]) (f fw:Nat):Fr (aO 2 M D).1 ⟨f,fw,0,⟨2,0,0,0⟩,none,0,[]⟩ B/\jU (aO 2 M D).1 ⟨f,fw,0,⟨2,0,0,0⟩,none,0,[]⟩+1=jU M D:=by
 obtain ⟨k,b1,b2,b3,b4,b5,b6,b7⟩:=h.pd.last hd
 have hlen:(ik M.ss k).length=30:=by simp [ik]; exact h.len
 have hl:=h.lock (.inr (.inr hd.1))
 rw [b1]
 refine ⟨⟨Gk (by omega) h.pd.k (by omega) h.pd.hl (by show 2+2<=M.xs.length; exact h.xl) b7,h.zero,fun _=>hl,h.F,hlen,h.xl⟩,?_⟩
 unfold jU
 have hm:gP 2 M D=1:=by
  unfold gP
  have aH:=h.pd.some (by omega)
  cases hh:D.left with
  | nil=>exact absurd hh aH
  | cons x r=>
    have:=hd.2
    rw [hh] at this
    simp only [List.tail_cons] at this
    subst this
    rw [if_neg (by omega),if_neg (by omega)]
    rfl
 rw [if_pos rfl,if_neg (by omega:¬D.at_=0),hm]
 show 0+(if M.ws=[] then 0 else M.ws.length+6)+1=1+(if M.ws=[] then 0 else M.ws.length+6)
 omega
theorem Fr.up (h:Fr M D B):Fr M D (B+1):=by
 have hp:=h.pd
 exact ⟨⟨hp.at_,hp.k,hp.hl,hp.zero,hp.some,hp.wt,hp.vB,hp.wr.mono (Nat.le_succ _)⟩,h.zero,h.lock,h.F,h.len,h.xl⟩
theorem Fr.put (h:Fr M D B) {m:Nat} (hm:Least M.ss m) (n:Nd) (V:Option Addr) (c:Nat):Fr {M with ss:=M.ss.set m ⟨true,(ai M.ss m).gen,n⟩,V:=V,capV:=c,ws:=M.ws++[(ai M.ss m).gen*65536+m+1]} D (B+1):=by
 have hp:=h.pd
 refine ⟨⟨hp.at_,hp.k,hp.hl,hp.zero,hp.some,hp.wt,hp.vB,hp.wr.put hm n⟩,h.zero,h.lock,h.F,?_,h.xl⟩
 show (M.ss.set m _).length=30
 simp [h.len]
end
theorem Oh {W0 w:World} {M:Mo} (h:oo W0 30 2 M w) (f fw:Nat):Fr M ⟨f,fw,0,⟨2,0,0,0⟩,none,0,[]⟩ 0:=by
 obtain ⟨_,_,_,h1,h2,h3,h4,h5,h6,h7⟩:=h
 refine ⟨Gk (by omega) h5 (by omega) (by rw [h4]; simp) (by rw [h1]; simp) (by rw [h2,h7]; exact F3 30 (by omega)),fun i hi=>?_,fun _=>?_,h3,by rw [h2]; simp,by rw [h1]; simp⟩
 ·rw [h1]
  have:i=0\/i=1:=by omega
  rcases this with rfl | rfl<;>rfl
 ·rw [h4]; rfl
end Go.Proofs.YtpanebgakndddaaGreat.Wf
namespace Go.Proofs.YtpanebgakndddaaGreat.Wf
open Go Go.RowKit Hp K Fl Rw Hm Ar Mm Me LK Qs fk Re vA
set_option maxRecDepth 100000
def Gm (D:Dr):Array Value:=#[.int .i64 2,ptr D.f]
structure DS (W0 w:World) (M:Mo) (f:Nat) (D:Dr):Prop where
 s:S7 W0 w M D
 an:af w f 86 (Gm D)
 lo:W0.heap.size<=f
section
variable {W0 w w':World} {M M':Mo} {f:Nat} {D:Dr} {B:Nat}
theorem DS.cells (h:DS W0 w M f D):w.cell? ⟨f,0,none⟩=some (.int .i64 2)/\w.cell? ⟨f,1,none⟩=some (ptr D.f):=⟨h.an.cell 0,h.an.cell 1⟩
theorem DS.BC (h:DS W0 w M f D):¬ao M f:=fun q=>(h.s.mem.ty q).apart (aV h.an) (by decide)
theorem DS.Gn (h:DS W0 w M f D):f≠D.f/\f≠D.fw:=⟨h.an.differ h.s.dr.an (by decide),h.an.differ h.s.dr.wt (by decide)⟩
theorem DS.down (h:DS W0 w M f D) (hb:Below w.heap.size w w'):DS W0 w' M f D:=⟨h.s.down hb,h.an.only (ab.aD hb (fun _=>False)) (by simp),h.lo⟩
theorem DS.below (h:DS W0 w M f D):Below W0.heap.size W0 w:=h.s.below
theorem DS.alloc (h:DS W0 w M f D) {m:Nat} (hm:Least M.ss m) (hg:(ai M.ss m).gen<=1000000) (n:Nd):
 Calls Tryz.prog 17 #[ptr M.ar,dV n] w fun e w'=>e=.returned (.tuple #[.int .u64 ((ai M.ss m).gen*65536+m+1:Nat),.int .i64 0])/\DS W0 w' {M with ss:=M.ss.set m ⟨true,(ai M.ss m).gen,n⟩} f D:=
 (ve h.s.mem.2.2.2.1 n m hm hg).mono fun _ _ q=>⟨q.1,h.s.alloc q.2.1 q.2.2,h.an.only q.2.2 (fun x=>h.BC (jf _ x)),h.lo⟩
theorem DS.put (h:DS W0 w M f D) {x:Nat} (hp:cR w M x w'):∃ V' capV',DS W0 w' {M with V:=V',capV:=capV',ws:=M.ws++[x]} f D:=by
 obtain ⟨V',capV',hS⟩:=h.s.put hp
 obtain ⟨V1,capV1,hM,ho,hV⟩:=hp
 refine ⟨V',capV',hS,h.an.only ho (fun q=>h.BC ?_),h.lo⟩
 rcases q with q | q
 ·exact .inl q
 ·exact .inr (.inr (.inr (.inr (.inr q))))
theorem Om (w:World) (o:Obj):Below w.heap.size w (w.alloc o):=(Below.refl _ _).alloc (Nat.le_refl _) _
def Gp (W0 w':World) (M:Mo) (e:Ending):Prop:=∃ f fd fw,e=.returned (ptr f)/\DS W0 w' M f ⟨fd,fw,0,⟨2,0,0,0⟩,none,0,[]⟩
theorem Gh (hM:ah w M) (bV:Below W0.heap.size W0 w) (aW:∀ x,ao M x->W0.heap.size<=x):Calls Tryz.prog 16 #[.int .i64 2] w fun e w'=>Gp W0 w' M e:=by
 have hN:=Lib.hid (Gq 2 w)
 have hS:=Lib.hid (fun w1 fd (hf:w.heap.size<fd) (hD:df w1 ⟨fd,w.heap.size,0,⟨2,0,0,0⟩,none,0,[]⟩) (hb:Below w.heap.size w w1)=>Gu hM bV aW hf hD hb)
 clear hM aW
 go_enter Tryz.func16,Tryz.ntmps16
 go_wp2_with fail
 refine hN.out.mono ?_
 rintro e w1 ⟨fd,rfl,hf,hD,hb⟩
 have hE:Hid (Gp W0 (w1.alloc (.cells #[.int .i64 2,ptr fd] 86)) M (.returned (ptr w1.heap.size))):=Lib.hid
  ⟨w1.heap.size,fd,w.heap.size,rfl,(hS.out w1 fd hf hD hb).down (Om _ _),af.made w1 _ _,Nat.le_trans bV.size hb.size⟩
 clear hf hD hb hS hN
 go_wp2_with fail
 go_ret
 exact hE.out
theorem BB (h:DS W0 w M f D) (hF:Fr M D B):Calls Tryz.prog 19 #[ptr f,ptr M.m] w fun e w'=>e=.returned (.bool (decide (D.at_≠0\/M.ws≠[])))/\Below w.heap.size w w':=by
 have c1:=h.cells.2
 have hR:=hF.pd.ready h.s.mem h.s.dr
 rw [hF.ready] at hR
 generalize decide (D.at_≠0\/M.ws≠[])=c at*
 replace hR:=Lib.hid hR
 clear h hF
 go_enter Tryz.func19,Tryz.ntmps19
 go_wp2_with fail
 refine hR.out.mono ?_
 rintro e w' ⟨rfl,n,rfl⟩
 go_wp2_with fail
 go_ret
 exact ⟨rfl,rfl,rfl,rfl,Nat.le_refl _,fun _ _=>rfl⟩
theorem Gf (h:DS W0 w M f D) (hn:D.left.length<=1000000):Calls Tryz.prog 21 #[ptr f] w fun e w'=>∃ A cap,e=.returned (.slice A D.left.length cap)/\Below w.heap.size w w':=by
 have c1:=h.cells.2
 have hL:=Lib.hid (On h.s.dr hn)
 clear h
 go_enter Tryz.func21,Tryz.ntmps21
 go_wp2_with fail
 refine hL.out.mono ?_
 rintro e w' ⟨A,cap,rfl,_,hb⟩
 have hE:Hid (∃ A' cap',Ending.returned (.slice A D.left.length cap)=.returned (.slice A' D.left.length cap')/\Below w.heap.size w w'):=Lib.hid ⟨A,cap,rfl,hb⟩
 clear hb hL
 go_wp2_with fail
 go_ret
 exact hE.out
theorem Gg (h:DS W0 w M f D) (hF:Fr M D B):Calls Tryz.prog 20 #[ptr f] w fun e w'=>e=.returned (.bool (decide (D.at_=0)))/\Below w.heap.size w w':=by
 have hn:=hF.iF
 have hL:=Gf h (by omega)
 have e:decide (D.at_=0)=decide (D.left.length=0):=by
  by_cases q:D.at_=0
  ·rw [decide_eq_true q,(hF.pd.zero q).1]; rfl
  ·rw [decide_eq_false q]
   have:=hF.pd.some q
   cases hd:D.left with
   | nil=>exact absurd hd this
   | cons x r=>rfl
 rw [e]
 clear e h hF
 generalize D.left.length=n at*
 replace hL:=Lib.hid hL
 by_cases q:n=0
 ·subst q
  clear hn
  rw [decide_eq_true rfl]
  go_enter Tryz.func20,Tryz.ntmps20
  go_wp2_with fail
  refine hL.out.mono ?_
  rintro e w' ⟨A,cap,rfl,hb⟩
  replace hb:=Lib.hid hb
  clear hL
  go_wp2_with fail
  go_ret
  exact ⟨rfl,hb.out⟩
 ·rw [decide_eq_false q]
  have q1:0<n:=by omega
  have q2:((n:Int)==0)=false:=by simp; omega
  have q3:n<=30:=by omega
  clear hn q
  go_enter Tryz.func20,Tryz.ntmps20
  go_wp2_with fail
  refine hL.out.mono ?_
  rintro e w' ⟨A,cap,rfl,hb⟩
  replace hb:=Lib.hid hb
  clear hL
  go_wp2_with fail
  go_ret
  exact ⟨rfl,hb.out⟩
theorem Oo (h:S7 W0 w M D) (h1:¬ao M f) (h2:¬gD D f) (h3:W0.heap.size<=f) (i:Nat) (v:Value):S7 W0 (w.setCell ⟨f,i,none⟩ v) M D:=by
 have hO:=(ab.refl (·=f) w).setCell (p:=⟨f,i,none⟩) (.inl rfl) v
 exact ⟨h.mem.only hO (fun x hx q=>h1 (q▸hx)),h.dr.only hO (fun x hx q=>h2 (q▸hx)),h.below.setCell (p:=⟨f,i,none⟩) h3 v,h.kt,h.rV,h.apart⟩
theorem DS.Oq (h:DS W0 w M f D):¬gD D f:=fun q=>by
 rcases q with q | q | ⟨hl,q⟩
 ·exact h.Gn.1 q
 ·exact h.Gn.2 q
 ·rcases h.s.dr.jV with e | ⟨b,o,cs,e,hb,_⟩
  ·exact hl e
  ·rw [e] at q
   have q:f=b:=by simpa [In,eq_comm] using q
   subst q
   exact h.an.differ hb (by decide) rfl
def yv (W0 w':World) (M:Mo) (f:Nat) (D:Dr) (B:Nat) (e:Ending):Prop:=e=.returned (.tuple #[])/\∃ D',DS W0 w' (aO 2 M D).1 f D'/\Fr (aO 2 M D).1 D' B/\jU (aO 2 M D).1 D'+1=jU M D
set_option maxHeartbeats 1000000 in
theorem Gj (h:DS W0 w M f D) (hF:Fr M D B) (hB:B<=1000000) (hr:D.at_≠0\/M.ws≠[]):Calls Tryz.prog 23 #[ptr f,ptr M.m] w fun e w'=>yv W0 w' M f D B e:=by
 obtain ⟨c0,c1⟩:=h.cells
 have lf:=h.an.lt
 have qQ:=h.BC
 have bB:=h.Oq
 have aW:=h.lo
 have kK:=h.s
 have ax:=h.an
 have ax:af w f 86 #[.int .i64 2,ptr D.f]:=ax
 have eD:=hF.ready
 rw [decide_eq_true hr] at eD
 have hT:=Ot kK.mem kK.dr (hF.pd.yn hB kK.apart) eD
 have bt:=fun w2 (q1:ah w2 (aO 2 M D).1) (q2:df w2 (aO 2 M D).2) (q3:ab (cg M D) w w2)=>show S7 W0 w2 (aO 2 M D).1 (aO 2 M D).2/\af w2 f 86 #[.int .i64 2,ptr D.f] from
  ⟨kK.rM hF.pd.some q1 q2 q3,ax.only q3 (fun q=>by
   rcases q with q | q | q
   ·exact qQ q
   ·exact bB (.inl q)
   ·exact bB (.inr (.inl q)))⟩
 by_cases hd:D.at_=2/\D.left.tail=[]
 ·rw [decide_eq_true hd] at hT
  have bX:=Lib.hid (fun fd fw=>hF.last hd fd fw)
  have hN:=Lib.hid (fun w2=>Gq 2 w2)
  have eN:=Lib.hid (fun w2 w3 fd (q1:S7 W0 w2 (aO 2 M D).1 (aO 2 M D).2) (q2:af w2 f 86 #[.int .i64 2,ptr D.f]) (hf:w2.heap.size<fd) (hD:df w3 ⟨fd,w2.heap.size,0,⟨2,0,0,0⟩,none,0,[]⟩) (hb:Below w2.heap.size w2 w3)=>
   show yv W0 (w3.setCell ⟨f,1,none⟩ (ptr fd)) M f D B (.returned (.tuple #[])) from by
    have cK:=Gu q1.mem q1.below q1.kt hf hD hb
    have ba:=q2.only (ab.aD hb (fun _=>False)) (by simp)
    have e3:¬ao (aO 2 M D).1 f:=fun q=>(q1.mem.ty q).apart (aV q2) (by decide)
    have fG:=q2.lt
    have e4:¬gD ⟨fd,w2.heap.size,0,⟨2,0,0,0⟩,none,0,[]⟩ f:=fun q=>by
     rcases q with q | q | ⟨q,_⟩
     ·have q:f=fd:=q
      omega
     ·have q:f=w2.heap.size:=q
      omega
     ·exact q rfl
    obtain ⟨g1,g2⟩:=bX.out fd w2.heap.size
    exact ⟨rfl,_,⟨Oo cK e3 e4 aW 1 _,ba.store 1 (ptr fd),aW⟩,g1,g2⟩)
  replace hT:=Lib.hid hT
  replace bt:=Lib.hid bt
  clear h hF kK ax eD bB aW qQ hr hd
  go_enter Tryz.func23,Tryz.ntmps23
  go_wp2_with fail
  refine hT.out.mono ?_
  rintro e w2 ⟨rfl,q1,q2,q3⟩
  obtain ⟨iQ,au⟩:=bt.out w2 q1 q2 q3
  have c0:=au.cell 0
  have iS:=Lib.hid (hN.out w2)
  have cp:=Lib.hid (fun w3 fd=>eN.out w2 w3 fd iQ au)
  simp at c0
  clear hT bt hN eN c1 lf bX q1 q2 q3 iQ
  replace au:=Lib.hid au
  go_wp2_with fail
  refine iS.out.mono ?_
  rintro e w3 ⟨fd,rfl,hf,hD,hb⟩
  have b3:=au.out.only (ab.aD hb (fun _=>False)) (by simp)
  have hE:=Lib.hid (cp.out w3 fd hf hD hb)
  have c1:=b3.cell 1
  have z1:=b3.frozen 1
  simp at c1
  have lf:=b3.lt
  clear iS cp hf hD hb b3 au c0
  go_wp2_with fail
  go_end0
  exact hE.out
 ·rw [decide_eq_false hd] at hT
  obtain ⟨g1,g2,g3⟩:=hF.step hr hd
  have eN:=Lib.hid (fun w2 (q1:S7 W0 w2 (aO 2 M D).1 (aO 2 M D).2) (q2:af w2 f 86 #[.int .i64 2,ptr D.f])=>
   show yv W0 w2 M f D B (.returned (.tuple #[])) from
    ⟨rfl,_,⟨q1,by unfold Gm; rw [(yu (n:=2) (M:=M) (D:=D)).2.1]; exact q2,aW⟩,g1,g2⟩)
  replace hT:=Lib.hid hT
  replace bt:=Lib.hid bt
  clear h hF kK ax eD bB aW qQ hr hd g1 g2 g3
  go_enter Tryz.func23,Tryz.ntmps23
  go_wp2_with fail
  refine hT.out.mono ?_
  rintro e w2 ⟨rfl,q1,q2,q3⟩
  obtain ⟨iQ,au⟩:=bt.out w2 q1 q2 q3
  have hE:=Lib.hid (eN.out w2 iQ au)
  clear hT bt eN c0 c1 lf q1 q2 q3 iQ au
  go_wp2_with fail
  go_end0
  exact hE.out
end
end Go.Proofs.YtpanebgakndddaaGreat.Wf
namespace Go.Proofs.YtpanebgakndddaaGreat.Wk
open Go Go.RowKit Hp K Fl Rw Hm Ar Mm Me
set_option maxRecDepth 100000
abbrev dW (F:Nat):Value:=.func (.func F) #[] #[]
abbrev aT (F:Nat) (v:Value):Value:=.func (.func F) #[v] #[]
structure Wa where
 f:Nat
 cell:Int
 sum:Int
 key:ByteArray
 nx:Nat
 at_:Nat
 first:Nat
 prev:Nat
 read:Nat
 found:Nat
 nd:Nd
def Db (nx f:Nat):Value:=if nx=1 then aT 189 (ptr f) else if nx=2 then aT 223 (ptr f) else dW 233
def UG (W:Wa):Array Value:=#[.int .i64 W.cell,.int .u32 W.sum,.string W.key,Db W.nx W.f,.int .u64 W.at_,.int .u64 W.first,.int .u64 W.prev,.int .i64 W.read,.int .u64 W.found,.string W.nd.key,.string W.nd.val,.int .u32 W.nd.sum,.int .u64 W.nd.next]
def bZ (w:World) (W:Wa):Prop:=af w W.f 237 (UG W)
def word (xs:List Int) (c:Int):Nat:=if 0<=c/\c<xs.length then (Cl.nth xs c.toNat).toNat else 0
def Dc (xs:List Int) (c:Int):Int:=if 0<=c/\c<xs.length then 0 else 2
def dy (W:Wa) (h:Nat):Wa:=if h=0 then {W with nx:=3} else {W with at_:=h,nx:=2}
def new (f:Nat) (c s:Int) (k:ByteArray):Wa:=⟨f,c,s,k,1,0,0,0,0,0,.zero⟩
section
variable {w w':World} {M:Mo} {W:Wa}
theorem bZ.aA (h:bZ w W) (hM:ah w M):¬ao M W.f:=fun hx=>(hM.ty hx).apart (aV h) (by decide)
theorem bZ.only {S:Nat->Prop} (h:bZ w W) (ho:ab S w w') (hn:¬S W.f):bZ w' W:=af.only h ho hn
theorem bZ.below (h:bZ w W) (hb:Below w.heap.size w w'):bZ w' W:=h.only (ab.aD hb (fun _=>False)) (by simp)
theorem bZ.drewN (h:bZ w W) (n:Nat):bZ (w.drewN n) W:=h.only ((ab.refl (fun _=>False) w).drewN n) (by simp)
theorem bZ.hd (h:bZ w W):w.cell? ⟨W.f,0,none⟩=some (.int .i64 W.cell)/\w.cell? ⟨W.f,1,none⟩=some (.int .u32 W.sum)/\w.cell? ⟨W.f,2,none⟩=some (.string W.key)/\w.cell? ⟨W.f,3,none⟩=some (Db W.nx W.f)/\
 w.cell? ⟨W.f,4,none⟩=some (.int .u64 W.at_)/\w.cell? ⟨W.f,5,none⟩=some (.int .u64 W.first)/\w.cell? ⟨W.f,6,none⟩=some (.int .u64 W.prev)/\w.cell? ⟨W.f,7,none⟩=some (.int .i64 W.read)/\w.cell? ⟨W.f,8,none⟩=some (.int .u64 W.found)/\
 w.cell? ⟨W.f,9,none⟩=some (.string W.nd.key)/\w.cell? ⟨W.f,10,none⟩=some (.string W.nd.val)/\w.cell? ⟨W.f,11,none⟩=some (.int .u32 W.nd.sum)/\w.cell? ⟨W.f,12,none⟩=some (.int .u64 W.nd.next):=
 ⟨h.cell 0,h.cell 1,h.cell 2,h.cell 3,h.cell 4,h.cell 5,h.cell 6,h.cell 7,h.cell 8,h.cell 9,h.cell 10,h.cell 11,h.cell 12⟩
theorem bZ.cV (h:bZ w W) (i:Nat):w.frozen? ⟨W.f,i,none⟩=false:=af.frozen h i
theorem C8 (m:Value) (w:World):Calls Tryz.prog 233 #[m] w fun e w'=>e=.returned (.bool true)/\w'=w:=by
 go_enter Tryz.func233,Tryz.ntmps233
 go_wp2
 go_ret
 exact ⟨rfl,rfl⟩
theorem oC (a m:Value) (w:World):Calls Tryz.prog 175 #[a,m] w fun e w'=>e=.returned (.bool true)/\w'=w:=by
 go_enter Tryz.func175,Tryz.ntmps175
 go_wp2
 go_ret
 exact ⟨rfl,rfl⟩
theorem nD (h:bZ w W):Calls Tryz.prog 222 #[ptr W.f] w fun e w'=>e=.returned (.bool true)/\bZ w' {W with nx:=3}/\ab (·=W.f) w w':=by
 have c3:=h.hd.2.2.2.1
 have z3:=h.cV 3
 have hS:Hid (bZ (w.setCell ⟨W.f,3,none⟩ (dW 233)) {W with nx:=3}):=Lib.hid (af.store h 3 _)
 clear h
 go_enter Tryz.func222,Tryz.ntmps222
 go_wp2
 go_ret
 exact ⟨rfl,hS.out,(ab.refl (·=W.f) w).setCell (p:=⟨W.f,3,none⟩) (.inl rfl) _⟩
theorem ej (h:bZ w W) (x:Nat):Calls Tryz.prog 208 #[ptr W.f,.int .u64 x] w fun e w'=>e=.returned (.bool (decide (x=0)))/\bZ w' (dy W x)/\ab (·=W.f) w w':=by
 by_cases h0:x=0
 ·subst h0
  have hE:=Lib.hid (nD h)
  have hg:dy W 0={W with nx:=3}:=rfl
  rw [hg]
  clear h hg
  go_enter Tryz.func208,Tryz.ntmps208
  go_wp2_with fail
  refine hE.out.mono ?_
  rintro e w1 ⟨rfl,h1,h2⟩
  replace h1:=Lib.hid h1
  replace h2:=Lib.hid h2
  go_wp2_with fail
  go_ret
  exact ⟨rfl,h1.out,h2.out⟩
 ·have hg:dy W x={W with at_:=x,nx:=2}:=by unfold dy; rw [if_neg h0]
  rw [hg,show decide (x=0)=false by simp [h0]]
  have c3:=h.hd.2.2.2.1
  have c4:=h.hd.2.2.2.2.1
  have z3:=h.cV 3
  have z4:=h.cV 4
  have hS:Hid (bZ ((w.setCell ⟨W.f,4,none⟩ (.int .u64 x)).setCell ⟨W.f,3,none⟩ (aT 223 (ptr W.f))) {W with at_:=x,nx:=2}):=Lib.hid (af.store (af.store h 4 (.int .u64 x)) 3 (aT 223 (ptr W.f)))
  have e0:((x:Int)==0)=false:=by simp; omega
  clear h hg h0
  go_enter Tryz.func208,Tryz.ntmps208
  go_wp2_with fail
  go_ret
  exact ⟨rfl,hS.out,((ab.refl (·=W.f) w).setCell (p:=⟨W.f,4,none⟩) (.inl rfl) _).setCell (p:=⟨W.f,3,none⟩) (.inl rfl) _⟩
theorem mO (c s:Int) (k:ByteArray) (w:World):Calls Tryz.prog 153 #[.int .i64 c,.int .u32 s,.string k] w fun e w'=>e=.returned (ptr w.heap.size)/\bZ w' (new w.heap.size c s k)/\Below w.heap.size w w':=by
 go_enter Tryz.func153,Tryz.ntmps153
 go_wp2
 go_ret
 exact ⟨rfl,af.made w _ _,(Below.refl _ _).alloc (Nat.le_refl _) _⟩
theorem UH (hM:ah w M) (c:Int) (h0: -9223372036854775808<=c) (h1:c<=9223372036854775807):Calls Tryz.prog 90 #[ptr M.g,.int .i64 c] w fun e w'=>e=.returned (.tuple #[.int .u64 (word M.xs c),.int .i64 (Dc M.xs c)])/\w'=w:=by
 unfold word Dc
 split
 ·rename_i h
  obtain ⟨k,rfl⟩:=Int.eq_ofNat_of_zero_le h.1
  have hv:=Cl.eX hM.2.1.2.2.1 k
  refine (Cl.mM hM.2.1 k (by omega)).mono fun e w' q=>⟨?_,q.2⟩
  rw [q.1,Int.toNat_natCast,Int.toNat_of_nonneg hv.1]
 ·exact (Cl.L1 hM.2.1 c h0 h1 (by omega)).mono fun e w' q=>⟨q.1,q.2⟩
theorem vD (hM:ah w M) (hW:bZ w W) (hc: -9223372036854775808<=W.cell/\W.cell<=9223372036854775807):
 Calls Tryz.prog 189 #[ptr W.f,ptr M.m] w fun e w'=>e=.returned (.bool (decide (word M.xs W.cell=0)))/\bZ w' (dy {W with first:=word M.xs W.cell} (word M.xs W.cell))/\ab (·=W.f) w w':=by
 have hL:=Lib.hid (fun nq=>UH (hM.drewN nq) W.cell hc.1 hc.2)
 have c0:=hW.hd.1
 have c5:=hW.hd.2.2.2.2.2.1
 have z5:=hW.cV 5
 have d0:=hM.hd.1
 have HW:=Lib.hid hW
 generalize word M.xs W.cell=x at*
 generalize Dc M.xs W.cell=y at*
 clear hM hW hc
 go_enter Tryz.func189,Tryz.ntmps189
 go_wp2_with fail
 go_quiet ((go_at_call 90; exact Calls.quiet_of_same (hL.out _)))
 obtain ⟨w1,aP⟩:∃ w1,w1=w.drewN nq:=⟨_,rfl⟩
 have jD:bZ w1 W:=by rw [aP]; exact HW.out.drewN nq
 have aw:ab (·=W.f) w w1:=by rw [aP]; exact (ab.refl _ _).drewN nq
 rw [<-aP]
 clear aP c0 c5 z5 d0 hL
 have c5:=jD.hd.2.2.2.2.2.1
 have z5:=jD.cV 5
 have hS:bZ (w1.setCell ⟨W.f,5,none⟩ (.int .u64 x)) {W with first:=x}:=af.store jD 5 _
 have hG:=Lib.hid (ej hS x)
 have ae:=Lib.hid (aw.setCell (p:=⟨W.f,5,none⟩) (.inl rfl) (.int .u64 x))
 clear jD aw hS HW
 go_wp2_with fail
 refine hG.out.mono ?_
 rintro e w2 ⟨rfl,h2,h3⟩
 replace h2:=Lib.hid h2
 replace h3:=Lib.hid (ae.out.trans h3)
 clear ae hG c5 z5
 go_wp2_with fail
 go_ret
 exact ⟨rfl,h2.out,h3.out⟩
end
end Go.Proofs.YtpanebgakndddaaGreat.Wk
namespace Go.Proofs.YtpanebgakndddaaGreat.Wk
open Go Go.RowKit Hp K Fl Rw Hm Ar Mm Me
set_option maxRecDepth 100000
def pl (ss:List Sl) (x:Nat):Option Nat:=if x≠0/\(x-1) % 65536<ss.length/\(ai ss ((x-1) % 65536)).taken=true/\(ai ss ((x-1) % 65536)).gen=(x-1) / 65536 then some ((x-1) % 65536) else none
theorem yy {ss:List Sl} {x k:Nat} (hl:ss.length<=1024):pl ss x=some k↔aY ss x k:=by
 unfold pl
 constructor
 ·intro h
  split at h
  ·rename_i q
   injection h with h
   obtain ⟨k',lR⟩:=(AO hl q.1).2 q.2
   rw [(mI hl lR).1] at h
   subst h
   exact lR
  ·simp at h
 ·intro h
  have h2:=mI hl h
  rw [if_pos ⟨h.pos,(AO hl h.pos).1 ⟨k,h⟩⟩,h2.1]
theorem UI {ss:List Sl} {x:Nat} (hl:ss.length<=1024) (h:pl ss x=none):∃ c,og ss x c:=by
 rcases E4 ss x with ⟨k,hk⟩ | h'
 ·rw [(yy hl).2 hk] at h; simp at h
 ·exact h'
section
variable {w w':World} {M:Mo} {W:Wa}
theorem jf:∀ x,dN M.ar M.sb M.fb x->ao M x:=fun _ h=>.inr (.inr (.inr (.inl h)))
def zk (w wx:World) (M':Mo) (W:Wa) (nd:Nd) (c:Int) (S:Nat->Prop) (p e:Value):Prop:=
 ∃ b,p=ptr b/\e=.int .i64 c/\w.heap.size<=b/\af wx b 67 #[.string nd.key,.string nd.val,.int .u32 nd.sum,.int .u64 nd.next]/\ah wx M'/\bZ wx W/\ab S w wx
theorem Jg {w w2:World} {M':Mo} {nd:Nd} {c:Int} {S:Nat->Prop} (hM:ah w2 M') (hW:bZ w2 W) (hO:ab S w w2):
 zk w (w2.alloc (.cells #[.string nd.key,.string nd.val,.int .u32 nd.sum,.int .u64 nd.next] 67)) M' W nd c S (ptr w2.heap.size) (.int .i64 c):=
 ⟨_,rfl,rfl,hO.size,af.made w2 _ _,hM.alloc _,hW.only ((ab.refl (fun _=>False) _).alloc _) (by simp),hO.alloc _⟩
theorem Jh {w w2 w3:World} {M':Mo} {nd:Nd} {c:Int} {S:Nat->Prop} {b:Nat} {cs:Array Value} (hM:ah w2 M') (hW:bZ w2 W) (hO:ab S w w2) (hb:w.heap.size<=b) (hB:af w2 b 67 cs) (bg:cs.size=4)
 (hw:w3=(((w2.setCell ⟨b,0,none⟩ (.string nd.key)).setCell ⟨b,1,none⟩ (.string nd.val)).setCell ⟨b,2,none⟩ (.int .u32 nd.sum)).setCell ⟨b,3,none⟩ (.int .u64 nd.next)):
 zk w w3 M' W nd c S (ptr b) (.int .i64 c):=by
 have ae:ab (·=b) w2 w3:=by
  rw [hw]
  exact ((((ab.refl (·=b) w2).setCell (p:=⟨b,0,none⟩) (.inl rfl) _).setCell (p:=⟨b,1,none⟩) (.inl rfl) _).setCell (p:=⟨b,2,none⟩) (.inl rfl) _).setCell (p:=⟨b,3,none⟩) (.inl rfl) _
 refine ⟨_,rfl,rfl,hb,?_,hM.only ae (fun x hx e=>(hM.ty hx).apart (aV (e▸hB)) (by decide)),hW.only ae (fun e=>(aV hW).apart (aV (e▸hB)) (by decide)),hO.trans' ae (fun x hx e=>absurd hx (by omega))⟩
 rw [hw]
 have h4:=(((hB.store 0 (.string nd.key)).store 1 (.string nd.val)).store 2 (.int .u32 nd.sum)).store 3 (.int .u64 nd.next)
 obtain ⟨l⟩:=cs
 match l,bg with
 | [_,_,_,_],_=>exact h4
set_option maxHeartbeats 2000000 in
theorem UJ (hM:ah w M) (hW:bZ w W) (hx:W.at_<=18446744073709551615) {c:Int} (hb:og M.ss W.at_ c):
 Calls Tryz.prog 223 #[ptr W.f,ptr M.m] w fun e w'=>e=.returned (.bool true)/\ah w' {M with F:=true}/\bZ w' {W with nx:=3}/\ab (fun x=>ao M x\/x=W.f) w w':=by
 have hR:=Lib.hid (fun (w1:World) (ax:Below w.heap.size w w1)=>(K8 (hM.below ax).2.2.2.1 hx hb).mono fun e w2 h=>
  show e=.returned (.tuple #[.agg #[.string ⟨#[]⟩,.string ⟨#[]⟩,.int .u32 0,.int .u64 0],.int .i64 c])/\(ah w2 {M with F:=true}/\bZ w2 W/\ab (ao M) w w2/\ab (ao M) w1 w2) from
   ⟨h.1,(hM.below ax).qI h.2.1 h.2.2,(hW.below ax).only h.2.2 (fun q=>hW.aA hM (jf _ q)),(ab.aD ax _).trans (h.2.2.mono fun x _ q=>jf _ q),h.2.2.mono fun x _ q=>jf _ q⟩)
 have c4:=hW.hd.2.2.2.2.1
 have d2:=hM.hd.2.2.1
 have lW:=hW.lt
 have lM:=hM.1.lt
 have W4:=Lib.hid (fun x (q:ao M x)=>hM.lt q)
 have hc:(c==0)=false/\(c != 0)=true:=by rcases hb.code with rfl | rfl<;>simp
 obtain ⟨nM,et⟩:=hc
 replace hb:=Lib.hid hb
 have HW:=Lib.hid hW
 have nm:=World.new_ne w ⟨M.m,2,none⟩ d2
 have nw:=World.new_ne w ⟨W.f,4,none⟩ c4
 clear hM hW hx
 go_enter Tryz.func223,Tryz.ntmps223
 go_upto_region 1 with (fail)
 go_cut [5,6] (fun p e wx=>zk w wx {M with F:=true} W .zero c (ao M) p e)
 case first=>
  go_region_held3 (fun w'=>w'.cell? ⟨M.m,2,none⟩=some (ptr M.ar)/\w'.cell? ⟨W.f,4,none⟩=some (.int .u64 W.at_)) (go_keep)
   (first
     | (go_at_call 156
        refine (hR.out w.drew ⟨rfl,rfl,rfl,Nat.le_refl _,fun _ _=>rfl⟩).mono ?_
        rintro e w2 ⟨rfl,aB,eU,ae,_⟩
        have d2':=aB.hd.2.2.1
        have c4':=eU.hd.2.2.2.2.1
        simp only at d2'
        have fM:=ae.size
        replace aB:=Lib.hid aB
        replace eU:=Lib.hid eU
        replace ae:=Lib.hid ae)
     | (go_at_call 156
        refine (hR.out (w.alloc (.cells #[.string ⟨#[]⟩,.string ⟨#[]⟩,.int .u32 0,.int .u64 0] 67)).drew (((Below.refl w.heap.size w).alloc (Nat.le_refl _) _).trans ⟨rfl,rfl,rfl,by simp,fun _ _=>rfl⟩)).mono ?_
        rintro e w2 ⟨rfl,aB,eU,ae,aq⟩
        have ag:af w2 w.heap.size 67 #[.string ⟨#[]⟩,.string ⟨#[]⟩,.int .u32 0,.int .u64 0]:=af.only (w:=(w.alloc (.cells #[.string ⟨#[]⟩,.string ⟨#[]⟩,.int .u32 0,.int .u64 0] 67)).drew) (af.made w _ _) aq (fun q=>Nat.lt_irrefl _ (W4.out _ q))
        have d2':=aB.hd.2.2.1
        have c4':=eU.hd.2.2.2.2.1
        simp only at d2'
        have fM:=ae.size
        have k0:=ag.cell 0
        have k1:=ag.cell 1
        have k2:=ag.cell 2
        have k3:=ag.cell 3
        simp at k0 k1 k2 k3
        have y0:=ag.frozen 0
        have y1:=ag.frozen 1
        have y2:=ag.frozen 2
        have y3:=ag.frozen 3
        replace aB:=Lib.hid aB
        replace eU:=Lib.hid eU
        replace ae:=Lib.hid ae
        replace ag:=Lib.hid ag))
  all_goals
   go_wp2_with fail
   go_meet
   first
    | exact Jg (nd:=.zero) aB.out eU.out ae.out
    | exact Jh (nd:=.zero) aB.out eU.out ae.out (Nat.le_refl _) ag.out rfl rfl
 case rest=>
  obtain ⟨b,rfl,rfl,bV,hB,av,jD,aw⟩:=hcut
  have hE:=Lib.hid (nD jD)
  have hK:=Lib.hid (fun (w3:World) (ho:ab (·=W.f) wc w3)=>(⟨av.only ho (fun x hx e=>jD.aA av (e▸hx)),(aw.mono (fun _ _ q=>.inl q)).trans' ho (fun _ _ q=>.inr q)⟩:ah w3 {M with F:=true}/\ab (fun x=>ao M x\/x=W.f) w w3))
  clear hB av jD aw bV c4 d2 hR
  go_wp2_with fail
  refine hE.out.mono ?_
  rintro e w3 ⟨rfl,dq,aq⟩
  have va:=Lib.hid (hK.out w3 aq)
  replace dq:=Lib.hid dq
  clear hE aq hK
  go_wp2_with fail
  go_ret
  exact ⟨rfl,va.out.1,dq.out,va.out.2⟩
end
end Go.Proofs.YtpanebgakndddaaGreat.Wk
namespace Go.Proofs.YtpanebgakndddaaGreat.Wk
open Go Go.RowKit Hp K Fl Rw Hm Ar Mm Me
set_option maxRecDepth 100000
def mb (W:Wa) (n:Nd):Bool:=decide (n.sum=W.sum/\n.key=W.key)
def looks (W:Wa) (n:Nd):Wa:=if mb W n=true then {W with read:=W.read+1,found:=W.at_,nd:=n,nx:=3} else dy {W with read:=W.read+1,prev:=W.at_} n.next.toNat
theorem FK {a b:ByteArray} (h:a≠b):(a.toList==b.toList)=false:=by
 rw [ByteArray.toList_eq,ByteArray.toList_eq,beq_eq_false_iff_ne]
 intro e
 exact h (ByteArray.ext (Array.toList_inj.1 e))
def nA (W:Wa) (n:Nd):Bool:=mb W n||decide (n.next.toNat=0)
section
variable {w w':World} {M:Mo} {W:Wa}
set_option maxHeartbeats 4000000 in
theorem look_ok (hM:ah w M) (hW:bZ w W) (hx:W.at_<=18446744073709551615) {k:Nat} (ha:aY M.ss W.at_ k) (hN:fo M.ss) (hr:W.read<=4611686018427387904):
 Calls Tryz.prog 223 #[ptr W.f,ptr M.m] w fun e w'=>e=.returned (.bool (nA W (ai M.ss k).nd))/\bZ w' (looks W (ai M.ss k).nd)/\ab (·=W.f) w w':=by
 obtain ⟨n,hn⟩:∃ n,n=(ai M.ss k).nd:=⟨_,rfl⟩
 have hR:=Lib.hid (fun (w1:World) (ax:Below w.heap.size w w1)=>(xW (hM.below ax).2.2.2.1 hx ha).mono fun e w2 h=>
  show e=.returned (.tuple #[.agg #[.string n.key,.string n.val,.int .u32 n.sum,.int .u64 n.next],.int .i64 0])/\(ah w2 M/\bZ w2 W/\Below w.heap.size w w2/\Below w1.heap.size w1 w2) from
   ⟨by rw [hn]; exact h.1,(hM.below ax).below h.2,(hW.below ax).below h.2,ax.trans (h.2.mono ax.size),h.2⟩)
 have c4:=hW.hd.2.2.2.2.1
 have d2:=hM.hd.2.2.1
 have lW:=hW.lt
 have lM:=hM.1.lt
 have HW:=Lib.hid hW
 have nm:=World.new_ne w ⟨M.m,2,none⟩ d2
 have nw:=World.new_ne w ⟨W.f,4,none⟩ c4
 rw [<-hn]
 have fF:=(hN.at k).1
 rw [<-hn] at fF
 have mo:=(hN.at k).2
 generalize nx M.ss k=z at*
 have hz:n.next.toNat=z:=by rw [fF]; rfl
 replace fF:=Lib.hid fF
 replace hz:=Lib.hid hz
 clear hM hW hx hn ha hN
 go_enter Tryz.func223,Tryz.ntmps223
 go_upto_region 1 with (fail)
 go_cut [5,6] (fun p e wx=>zk w wx M W n 0 (fun _=>False) p e)
 case first=>
  go_region_held3 (fun w'=>w'.cell? ⟨M.m,2,none⟩=some (ptr M.ar)/\w'.cell? ⟨W.f,4,none⟩=some (.int .u64 W.at_)) (go_keep)
   (first
     | (go_at_call 156
        refine (hR.out w.drew ⟨rfl,rfl,rfl,Nat.le_refl _,fun _ _=>rfl⟩).mono ?_
        rintro e w2 ⟨rfl,aB,eU,ae,_⟩
        have d2':=aB.hd.2.2.1
        have c4':=eU.hd.2.2.2.2.1
        have fM:=ae.size
        replace aB:=Lib.hid aB
        replace eU:=Lib.hid eU
        replace ae:=Lib.hid (ab.aD ae (fun _=>False)))
     | (go_at_call 156
        refine (hR.out (w.alloc (.cells #[.string ⟨#[]⟩,.string ⟨#[]⟩,.int .u32 0,.int .u64 0] 67)).drew (((Below.refl w.heap.size w).alloc (Nat.le_refl _) _).trans ⟨rfl,rfl,rfl,by simp,fun _ _=>rfl⟩)).mono ?_
        rintro e w2 ⟨rfl,aB,eU,ae,aq⟩
        have ag:af w2 w.heap.size 67 #[.string ⟨#[]⟩,.string ⟨#[]⟩,.int .u32 0,.int .u64 0]:=af.only (w:=(w.alloc (.cells #[.string ⟨#[]⟩,.string ⟨#[]⟩,.int .u32 0,.int .u64 0] 67)).drew) (af.made w _ _) (ab.aD aq (fun _=>False)) (by simp)
        have d2':=aB.hd.2.2.1
        have c4':=eU.hd.2.2.2.2.1
        have fM:=ae.size
        have k0:=ag.cell 0
        have k1:=ag.cell 1
        have k2:=ag.cell 2
        have k3:=ag.cell 3
        simp at k0 k1 k2 k3
        have y0:=ag.frozen 0
        have y1:=ag.frozen 1
        have y2:=ag.frozen 2
        have y3:=ag.frozen 3
        replace aB:=Lib.hid aB
        replace eU:=Lib.hid eU
        replace ae:=Lib.hid (ab.aD ae (fun _=>False))
        replace ag:=Lib.hid ag))
  all_goals
   go_wp2_with fail
   go_meet
   first
    | exact Jg (nd:=n) aB.out eU.out ae.out
    | exact Jh (nd:=n) aB.out eU.out ae.out (Nat.le_refl _) ag.out rfl rfl
 case rest=>
  obtain ⟨b,rfl,rfl,bV,hB,av,jD,aw⟩:=hcut
  clear d2 hR c4
  have dq:bZ (wc.setCell ⟨W.f,7,none⟩ (.int .i64 (W.read+1:Nat))) {W with read:=W.read+1}:=af.store jD 7 (.int .i64 (W.read+1:Nat))
  have aH:b≠W.f:=by have:=lW; omega
  have ay:af (wc.setCell ⟨W.f,7,none⟩ (.int .i64 (W.read+1:Nat))) b 67 #[.string n.key,.string n.val,.int .u32 n.sum,.int .u64 n.next]:=af.aA hB (fun e=>aH e) _
  have aq:ab (·=W.f) w (wc.setCell ⟨W.f,7,none⟩ (.int .i64 (W.read+1:Nat))):=(show ab (·=W.f) w wc from aw.mono (fun _ _ q=>q.elim)).setCell (p:=⟨W.f,7,none⟩) (.inl rfl) _
  have c7:=jD.hd.2.2.2.2.2.2.2.1
  have z7:=jD.cV 7
  rw [Int.natCast_add,Int.natCast_one] at dq ay aq
  replace hB:=Lib.hid hB
  replace av:=Lib.hid av
  replace jD:=Lib.hid jD
  replace aw:=Lib.hid aw
  replace dq:=Lib.hid dq
  replace ay:=Lib.hid ay
  replace aq:=Lib.hid aq
  generalize eD:W.read=r at*
  replace eD:=Lib.hid eD
  go_upto_region 5 with (fail)
  obtain ⟨w3,dU⟩:∃ w3,w3=wc.setCell ⟨W.f,7,none⟩ (.int .i64 ((r:Int)+1)):=⟨_,rfl⟩
  rw [<-dU] at dq ay aq ⊢
  clear c7 z7 hB jD aw av dU
  obtain ⟨_,c1,c2,_,c4,_,c6,_,c8,c9,c10,c11,c12⟩:=dq.out.hd
  simp only at c1 c2 c4 c6 c8 c9 c10 c11 c12
  have z6:=dq.out.cV 6
  have z8:=dq.out.cV 8
  have z9:=dq.out.cV 9
  have z10:=dq.out.cV 10
  have z11:=dq.out.cV 11
  have z12:=dq.out.cV 12
  simp only at z6 z8 z9 z10 z11 z12
  have k0:=ay.out.cell 0
  have k1:=ay.out.cell 1
  have k2:=ay.out.cell 2
  have k3:=ay.out.cell 3
  simp at k0 k1 k2 k3
  have HK:∀ w4,ab (·=W.f) w3 w4->ab (·=W.f) w w4:=fun w4 h=>aq.out.trans h
  have HD:∀ nq,ab (·=W.f) w3 (w3.drewN nq):=fun nq=>(ab.refl _ _).drewN nq
  replace HK:=Lib.hid HK
  replace HD:=Lib.hid HD
  by_cases hs:n.sum=W.sum
  ·by_cases hk:n.key=W.key
   ·have e1:nA W n=true:=by simp [nA,mb,hs,hk]
    have e2:looks W n={W with read:=r+1,found:=W.at_,nd:=n,nx:=3}:=by simp [looks,mb,hs,hk,eD.out]
    replace e1:=Lib.hid e1
    replace e2:=Lib.hid e2
    have hE:∀ w6,bZ w6 {W with read:=r+1,found:=W.at_,nd:=n}->ab (·=W.f) w3 w6->Calls Tryz.prog 222 #[ptr W.f] w6 fun e w'=>e=.returned (.bool true)/\bZ w' {W with read:=r+1,found:=W.at_,nd:=n,nx:=3}/\ab (·=W.f) w w':=fun w6 h1 h2=>(nD h1).mono fun e w' q=>⟨q.1,q.2.1,aq.out.trans (h2.trans q.2.2)⟩
    replace hE:=Lib.hid hE
    have eQ:{n with key:=W.key,sum:=W.sum}=n:=by rw [<-hs,<-hk]
    replace eQ:=Lib.hid eQ
    rw [hs] at k2
    rw [hk] at k0
    rw [hs,hk] at ay
    clear hs hk
    go_quiet (fail)
    go_upto_region 6 with (fail)
    go_region
    all_goals
     have iV:bZ ((((((w3.drewN (nq+1)).setCell ⟨W.f,8,none⟩ (.int .u64 W.at_)).setCell ⟨W.f,9,none⟩ (.string W.key)).setCell ⟨W.f,10,none⟩ (.string n.val)).setCell ⟨W.f,11,none⟩ (.int .u32 W.sum)).setCell ⟨W.f,12,none⟩ (.int .u64 n.next)) {W with read:=r+1,found:=W.at_,nd:=n}:=by
      have h:=((((af.store (bZ.drewN dq.out (nq+1)) 8 (.int .u64 W.at_)).store 9 (.string W.key)).store 10 (.string n.val)).store 11 (.int .u32 W.sum)).store 12 (.int .u64 n.next)
      have e:({W with read:=r+1,found:=W.at_,nd:=n}:Wa)={W with read:=r+1,found:=W.at_,nd:={n with key:=W.key,sum:=W.sum}}:=by rw [eQ.out]
      rw [e]
      exact h
     have ft:=((((((HD.out (nq+1)).setCell (p:=⟨W.f,8,none⟩) (.inl rfl) (.int .u64 W.at_)).setCell (p:=⟨W.f,9,none⟩) (.inl rfl) (.string W.key)).setCell (p:=⟨W.f,10,none⟩) (.inl rfl) (.string n.val)).setCell (p:=⟨W.f,11,none⟩) (.inl rfl) (.int .u32 W.sum)).setCell (p:=⟨W.f,12,none⟩) (.inl rfl) (.int .u64 n.next))
     have sL:=Lib.hid (hE.out _ iV ft)
     clear iV ft c1 c2 c4 c6 c8 c9 c10 c11 c12 z6 z8 z9 z10 z11 z12 k0 k1 k2 k3
     go_wp2_with fail
     refine sL.out.mono ?_
     rintro e w7 ⟨rfl,qj,EO⟩
     replace qj:=Lib.hid qj
     replace EO:=Lib.hid EO
     clear sL
     go_wp2_with fail
     go_ret
     rw [e1.out,e2.out]
     exact ⟨rfl,qj.out,EO.out⟩
   ·have e1:nA W n=decide (z=0):=by simp [nA,mb,hk,hz.out]
    have e2:looks W n=dy {W with read:=r+1,prev:=W.at_} z:=by simp [looks,mb,hk,eD.out,hz.out]
    replace e1:=Lib.hid e1
    replace e2:=Lib.hid e2
    have au:(n.key.toList==W.key.toList)=false:=FK hk
    rw [hs] at k2
    rw [fF.out] at k3
    clear hs hk
    go_quiet (fail)
    have lS:bZ ((w3.drewN nq).setCell ⟨W.f,6,none⟩ (.int .u64 W.at_)) {W with read:=r+1,prev:=W.at_}:=af.store (bZ.drewN dq.out nq) 6 (.int .u64 W.at_)
    have bJ:=Lib.hid ((aq.out.drewN nq).setCell (p:=⟨W.f,6,none⟩) (.inl rfl) (.int .u64 W.at_))
    have hG:=Lib.hid (ej lS z)
    clear lS
    go_wp2_with fail
    refine hG.out.mono ?_
    rintro e w6 ⟨rfl,iV,ft⟩
    replace ft:=Lib.hid (bJ.out.trans ft)
    replace iV:=Lib.hid iV
    clear hG c1 c2 c4 c6 c8 c9 c10 c11 c12 z6 z8 z9 z10 z11 z12 k0 k1 k2 k3 bJ
    go_wp2_with fail
    go_ret
    rw [e1.out,e2.out]
    exact ⟨rfl,iV.out,ft.out⟩
  ·have e1:nA W n=decide (z=0):=by simp [nA,mb,hs,hz.out]
   have e2:looks W n=dy {W with read:=r+1,prev:=W.at_} z:=by simp [looks,mb,hs,eD.out,hz.out]
   replace e1:=Lib.hid e1
   replace e2:=Lib.hid e2
   have au:(n.sum==W.sum)=false:=by simpa using hs
   rw [fF.out] at k3
   clear hs
   go_quiet (fail)
   have lS:bZ ((w3.drewN nq).setCell ⟨W.f,6,none⟩ (.int .u64 W.at_)) {W with read:=r+1,prev:=W.at_}:=af.store (bZ.drewN dq.out nq) 6 (.int .u64 W.at_)
   have bJ:=Lib.hid ((aq.out.drewN nq).setCell (p:=⟨W.f,6,none⟩) (.inl rfl) (.int .u64 W.at_))
   have hG:=Lib.hid (ej lS z)
   clear lS
   go_wp2_with fail
   refine hG.out.mono ?_
   rintro e w6 ⟨rfl,iV,ft⟩
   replace ft:=Lib.hid (bJ.out.trans ft)
   replace iV:=Lib.hid iV
   clear hG c1 c2 c4 c6 c8 c9 c10 c11 c12 z6 z8 z9 z10 z11 z12 k0 k1 k2 k3 bJ
   go_wp2_with fail
   go_ret
   rw [e1.out,e2.out]
   exact ⟨rfl,iV.out,ft.out⟩
end
end Go.Proofs.YtpanebgakndddaaGreat.Wk
namespace Go.Proofs.YtpanebgakndddaaGreat.Me
open Go Go.RowKit Hp K Fl Rw Hm Ar Mm
set_option maxRecDepth 100000
def Bu {S:Type} (rd:S->Bool) (st:S->S) (dn:S->Bool) (Inv:S->World->Prop) (ok:Nat->S->Prop) (K:Nat) (s0:S) (i:Nat) (d:Bool) (w:World):Prop:=
 ∃ s,Inv s w/\(d=false->ok (K-i) s)/\fin rd st dn K s0=if d=true then (i,true,s) else (i+(fin rd st dn (K-i) s).1,(fin rd st dn (K-i) s).2)
set_option maxHeartbeats 1000000 in
theorem Bv {S:Type} (T:TypeId) (fr fs b:Nat) (m:Value) (Inv:S->World->Prop) (ok:Nat->S->Prop) (rd:S->Bool) (st:S->S) (dn:S->Bool)
 (mr:∀ w f,(method (f+1) T (.pointer (some ⟨b,0,none⟩)) "Ready").run Tryz.prog w=.ok (fr,.pointer (some ⟨b,0,none⟩)) w)
 (ms:∀ w f,(method (f+1) T (.pointer (some ⟨b,0,none⟩)) "Step").run Tryz.prog w=.ok (fs,.pointer (some ⟨b,0,none⟩)) w)
 (er:∀ args w,(callFunc fr args).run Tryz.prog w=.ok (.enter fr args) w) (es:∀ args w,(callFunc fs args).run Tryz.prog w=.ok (.enter fs args) w)
 (hR:∀ k s w,Inv s w->ok (k+1) s->Calls Tryz.prog fr #[ptr b,m] w fun e w'=>e=.returned (.bool (rd s))/\Inv s w')
 (hS:∀ k s w,Inv s w->ok (k+1) s->rd s=true->Calls Tryz.prog fs #[ptr b,m] w fun e w'=>e=.returned (.bool (dn s))/\Inv (st s) w')
 (eM:∀ k s,ok (k+1) s->rd s=true->dn s=false->ok k (st s)) (K:Nat) (hK:K<=1000000) (s0:S) (h0:ok K s0) (w:World) (h:Inv s0 w):
 Calls Tryz.prog 58 #[m,.iface T (ptr b),.int .i64 K] w fun e w'=>e=.returned (.tuple #[.int .i64 (fin rd st dn K s0).1,.bool (fin rd st dn K s0).2.1])/\Inv (fin rd st dn K s0).2.2 w':=by
 have hI:=Lib.hid (show Bu rd st dn Inv ok K s0 0 false w from ⟨s0,h,fun _=>h0,by simp⟩)
 replace hR:=Lib.hid hR
 replace hS:=Lib.hid hS
 clear h
 go_enter Tryz.func58,Tryz.ntmps58
 go_wp2_with fail
 go_loopw [8,9] (fun i d wr=>∃ (k:Nat) (c:Bool),k<=K/\i=.int .i64 k/\d=.bool c/\Bu rd st dn Inv ok K s0 k c wr) (fun i _ _=>K-(intOf i).toNat)
 case atStart=>exact ⟨0,false,Nat.zero_le _,rfl,rfl,hI.out⟩
 case round=>
  obtain ⟨k,c,hk,rfl,rfl,s,gy,hc,hf⟩:=hrel
  clear hI
  replace hf:=Lib.hid hf
  replace eM:=Lib.hid eM
  by_cases h1:k<K
  ·cases c with
   | true=>
     have e:=hf.out
     rw [if_pos rfl] at e
     replace e:=Lib.hid e
     replace gy:=Lib.hid gy
     clear hc
     go_wp2_with fail
     go_ret2
     rw [e.out]
     exact ⟨rfl,gy.out⟩
   | false=>
     replace hc:=Lib.hid (show ok (K-k-1+1) s from by rw [show K-k-1+1=K-k by omega]; exact hc rfl)
     have j9:=Lib.hid (hR.out _ s _ gy hc.out)
     have e:=hf.out
     rw [if_neg (by simp),show K-k=(K-k-1)+1 by omega,fin] at e
     clear hf
     by_cases h2:rd s=true
     ·rw [if_pos h2] at e
      rw [h2] at j9
      replace gy:=Lib.hid gy
      have pX:=Lib.hid h2
      clear h2
      replace e:=Lib.hid e
      go_wp2_with fail
      refine j9.out.mono ?_
      rintro e1 w1 ⟨rfl,mu⟩
      have db:=Lib.hid (hS.out _ s w1 mu hc.out pX.out)
      clear mu
      go_wp2_with fail
      refine db.out.mono ?_
      rintro e2 w2 ⟨rfl,nV⟩
      have hF:Bu rd st dn Inv ok K s0 (k+1) (dn s) w2:=by
       refine ⟨st s,nV,fun hd=>by rw [show K-(k+1)=K-k-1 by omega]; exact eM.out _ s hc.out pX.out hd,?_⟩
       have e:=e.out
       by_cases hd:dn s=true
       ·rw [if_pos hd] at e ⊢
        exact e
       ·rw [if_neg hd] at e ⊢
        rw [e,show K-(k+1)=K-k-1 by omega]
        simp only [Prod.mk.injEq,and_true]
        omega
      replace hF:=Lib.hid hF
      clear nV e db
      generalize dn s=c at*
      go_wp2_with fail
      go_roundw
      case rel=>exact ⟨k+1,c,h1,by go_num,rfl,hF.out⟩
      case measure=>simp [intOf]; omega
     ·have h2:rd s=false:=by simpa using h2
      rw [if_neg (by simp [h2])] at e
      rw [h2] at j9
      clear h2
      replace e:=Lib.hid e
      clear gy
      go_wp2_with fail
      refine j9.out.mono ?_
      rintro e1 w1 ⟨rfl,mu⟩
      replace mu:=Lib.hid mu
      go_wp2_with fail
      go_ret2
      rw [e.out]
      exact ⟨rfl,mu.out⟩
  ·obtain rfl:k=K:=by omega
   have e:=hf.out
   have e':fin rd st dn k s0=(k,c,s):=by
    cases c with
    | true=>exact e
    | false=>
      rw [if_neg (by simp),Nat.sub_self] at e
      exact e
   replace e':=Lib.hid e'
   replace gy:=Lib.hid gy
   clear e hc
   go_wp2_with fail
   go_ret2
   rw [e'.out]
   exact ⟨rfl,gy.out⟩
end Go.Proofs.YtpanebgakndddaaGreat.Me
namespace Go.Proofs.YtpanebgakndddaaGreat.Wk
open Go Go.RowKit Hp K Fl Rw Hm Ar Mm Me
set_option maxRecDepth 100000
section
variable {w:World} {W:Wa}
theorem Da (args:Array Value) (w:World):(callFunc 189 args).run Tryz.prog w=.ok (.enter 189 args) w:=by kernel_rfl
theorem Ji (args:Array Value) (w:World):(callFunc 223 args).run Tryz.prog w=.ok (.enter 223 args) w:=by kernel_rfl
theorem C9 (args:Array Value) (w:World):(callFunc 233 args).run Tryz.prog w=.ok (.enter 233 args) w:=by kernel_rfl
theorem Dd {F f:Nat} {cv m:Value} {c:Bool} {P:World->Prop} (c3:w.cell? ⟨f,3,none⟩=some (aT F cv)) (eF:∀ args w,(callFunc F args).run Tryz.prog w=.ok (.enter F args) w)
 (hF:Calls Tryz.prog F #[cv,m] w fun e w'=>e=.returned (.bool c)/\P w'):Calls Tryz.prog 176 #[ptr f,m] w fun e w'=>e=.returned (.bool c)/\P w':=by
 replace hF:=Lib.hid hF
 go_enter Tryz.func176,Tryz.ntmps176
 go_wp2_with fail
 refine hF.out.mono ?_
 rintro e w' ⟨rfl,bj⟩
 replace bj:=Lib.hid bj
 clear c3
 go_wp2_with fail
 go_ret
 exact ⟨rfl,bj.out⟩
theorem UK {F f:Nat} {m:Value} {c:Bool} {P:World->Prop} (c3:w.cell? ⟨f,3,none⟩=some (dW F)) (eF:∀ args w,(callFunc F args).run Tryz.prog w=.ok (.enter F args) w)
 (hF:Calls Tryz.prog F #[m] w fun e w'=>e=.returned (.bool c)/\P w'):Calls Tryz.prog 176 #[ptr f,m] w fun e w'=>e=.returned (.bool c)/\P w':=by
 replace hF:=Lib.hid hF
 go_enter Tryz.func176,Tryz.ntmps176
 go_wp2_with fail
 refine hF.out.mono ?_
 rintro e w' ⟨rfl,bj⟩
 replace bj:=Lib.hid bj
 clear c3
 go_wp2_with fail
 go_ret
 exact ⟨rfl,bj.out⟩
theorem IJ (h:bZ w W):Calls Tryz.prog 202 #[ptr W.f] w fun e w'=>e=.returned (.int .u64 W.prev)/\w=w':=by
 have c:=h.hd.2.2.2.2.2.2.1
 clear h
 go_enter Tryz.func202,Tryz.ntmps202
 go_wp2
 go_ret
 exact ⟨rfl,rfl⟩
theorem Hx (h:bZ w W):Calls Tryz.prog 154 #[ptr W.f] w fun e w'=>e=.returned (.int .u64 W.first)/\w=w':=by
 have c:=h.hd.2.2.2.2.2.1
 clear h
 go_enter Tryz.func154,Tryz.ntmps154
 go_wp2
 go_ret
 exact ⟨rfl,rfl⟩
set_option maxHeartbeats 1000000 in
theorem BD (h:bZ w W):Calls Tryz.prog 128 #[ptr W.f] w fun e w'=>e=.returned (.tuple #[.int .u64 W.found,dV W.nd,.bool (decide (W.found≠0))])/\Below w.heap.size w w':=by
 obtain ⟨_,_,_,_,_,_,_,_,c8,c9,c10,c11,c12⟩:=h.hd
 have lW:=h.lt
 have n8:=World.new_ne w ⟨W.f,8,none⟩ c8
 have hb:((W.found:Int) != 0)=decide (W.found≠0):=by rw [Bool.eq_iff_iff]; simp
 clear h
 unfold dV
 generalize hd:decide (W.found≠0)=d at*
 generalize hf:W.found=x at*
 replace hd:=Lib.hid hd
 replace hf:=Lib.hid hf
 go_enter Tryz.func128,Tryz.ntmps128
 go_wp2_with fail
 go_region
 all_goals
  go_wp2_with fail
  refine bodyPost_ret (v:=.tuple #[.int .u64 x,.agg #[.string W.nd.key,.string W.nd.val,.int .u32 W.nd.sum,.int .u64 W.nd.next],.bool d]) (by simp [results,Tryz.results128,go_sem]) rfl ⟨?_,((Below.refl _ _).alloc (Nat.le_refl _) _).trans ⟨rfl,rfl,rfl,by simp,fun _ _=>rfl⟩⟩
  rfl
end
/-! ### a step,whole-/
def aF (xs:List Int) (ss:List Sl) (s:Bool×Wa):Bool×Wa:=
 if s.2.nx=1 then (s.1,dy {s.2 with first:=word xs s.2.cell} (word xs s.2.cell))
 else if s.2.nx=2 then (match pl ss s.2.at_ with
  | some k=>(s.1,looks s.2 (ai ss k).nd)
  | none=>(true,{s.2 with nx:=3}))
 else s
def ck (xs:List Int) (ss:List Sl) (s:Bool×Wa):Bool:=decide (3<=(aF xs ss s).2.nx)
structure eB (r:Nat) (W:Wa):Prop where
 cell: -9223372036854775808<=W.cell/\W.cell<=9223372036854775807
 at_:W.at_<=18446744073709551615
 read:W.read+r<=4611686018427387904
 nx:1<=W.nx
theorem GJ {xs:List Int} (h:∀ x∈xs,0<=x/\x<=18446744073709551615) (c:Int):word xs c<=18446744073709551615:=by
 unfold word
 split
 ·have:=Cl.eX h c.toNat; omega
 ·omega
theorem yx (W:Wa) (h:Nat):decide (3<=(dy W h).nx)=decide (h=0):=by
 unfold dy
 split<;>simp [*]
theorem BH (W:Wa) (n:Nd):decide (3<=(looks W n).nx)=nA W n:=by
 unfold looks nA
 split
 ·simp [*]
 ·rename_i h
  rw [yx]
  simp at h
  simp [h]
theorem Jj (W:Wa) (h:Nat):(dy W h).f=W.f:=by unfold dy; split<;>rfl
theorem UL (xs:List Int) (ss:List Sl) (s:Bool×Wa):(aF xs ss s).2.f=s.2.f:=by
 unfold aF looks
 split
 ·exact Jj _ _
 split
 ·split
  ·dsimp only
   split
   ·rfl
   ·exact Jj _ _
  ·rfl
 ·rfl
section
variable {w w':World} {M:Mo} {W:Wa}
theorem eB.step {r:Nat} {s:Bool×Wa} {xs:List Int} {ss:List Sl} (hx:∀ x∈xs,0<=x/\x<=18446744073709551615) (hN:fo ss) (h:eB (r+1) s.2):eB r (aF xs ss s).2:=by
 obtain ⟨h1,h2,h3,h4⟩:=h
 have go:∀ (W:Wa) (x:Nat),x<=18446744073709551615->eB r W->eB r (dy W x):=fun W x hx h=>by
  unfold dy
  split
  ·exact ⟨h.cell,h.at_,h.read,by simp⟩
  ·exact ⟨h.cell,hx,h.read,by simp⟩
 unfold aF
 split
 ·exact go _ _ (GJ hx _) ⟨h1,h2,by simp only; omega,h4⟩
 split
 ·split
  ·rename_i k _
   unfold looks
   dsimp only
   split
   ·exact ⟨h1,h2,by simp only; omega,by simp⟩
   ·have:=(hN.at k)
    exact go _ _ (by omega) ⟨h1,h2,by simp only; omega,h4⟩
  ·exact ⟨h1,h2,by simp only; omega,by simp⟩
 ·exact ⟨h1,h2,by omega,h4⟩
theorem BF (hM:ah w M) (hW:bZ w W) (hN:fo M.ss) {r:Nat} (ok:eB (r+1) W):
 Calls Tryz.prog 176 #[ptr W.f,ptr M.m] w fun e w'=>e=.returned (.bool (ck M.xs M.ss (M.F,W)))/\ah w' {M with F:=(aF M.xs M.ss (M.F,W)).1}/\bZ w' (aF M.xs M.ss (M.F,W)).2/\ab (fun x=>ao M x\/x=W.f) w w':=by
 have c3:=hW.hd.2.2.2.1
 unfold Db at c3
 have up:∀ w',ab (·=W.f) w w'->ah w' M/\ab (fun x=>ao M x\/x=W.f) w w':=fun w' ho=>⟨hM.only ho (fun x hx q=>by subst q; exact hW.aA hM hx),ho.mono (fun x _ q=>.inr q)⟩
 have hl:=hM.2.2.2.1.room.2
 have hr:=ok.read
 unfold ck
 by_cases e1:W.nx=1
 ·have hs:aF M.xs M.ss (M.F,W)=(M.F,dy {W with first:=word M.xs W.cell} (word M.xs W.cell)):=by unfold aF; rw [if_pos e1]
  rw [if_pos e1] at c3
  rw [hs,yx]
  exact Dd c3 Da ((vD hM hW ok.cell).mono fun e w' q=>⟨q.1,(up w' q.2.2).1,q.2.1,(up w' q.2.2).2⟩)
 ·rw [if_neg e1] at c3
  by_cases e2:W.nx=2
  ·rw [if_pos e2] at c3
   cases hp:pl M.ss W.at_ with
   | some k=>
     have hs:aF M.xs M.ss (M.F,W)=(M.F,looks W (ai M.ss k).nd):=by unfold aF; simp only; rw [if_neg e1,if_pos e2,hp]
     rw [hs,BH]
     exact Dd c3 Ji ((look_ok hM hW ok.at_ ((yy hl).1 hp) hN (by omega)).mono fun e w' q=>⟨q.1,(up w' q.2.2).1,q.2.1,(up w' q.2.2).2⟩)
   | none=>
     have hs:aF M.xs M.ss (M.F,W)=(true,{W with nx:=3}):=by unfold aF; simp only; rw [if_neg e1,if_pos e2,hp]
     obtain ⟨c,hc⟩:=UI hl hp
     rw [hs]
     exact Dd c3 Ji ((UJ hM hW ok.at_ hc).mono fun e w' q=>⟨q.1,q.2.1,q.2.2.1,q.2.2.2⟩)
  ·have hs:aF M.xs M.ss (M.F,W)=(M.F,W):=by unfold aF; simp only; rw [if_neg e1,if_neg e2]
   have:=ok.nx
   rw [if_neg e2] at c3
   rw [hs,show decide (3<=W.nx)=true by simp; omega]
   exact UK c3 C9 ((C8 _ w).mono fun e w' q=>⟨q.1,by rw [q.2]; exact ⟨hM,hW,ab.refl _ _⟩⟩)
theorem CL (a:Addr) (w:World) (f:Nat):(method (f+1) 211 (.pointer (some a)) "Ready").run Tryz.prog w=.ok (175,.pointer (some a)) w:=by kernel_rfl
theorem CM (a:Addr) (w:World) (f:Nat):(method (f+1) 211 (.pointer (some a)) "Step").run Tryz.prog w=.ok (176,.pointer (some a)) w:=by kernel_rfl
theorem CN (args:Array Value) (w:World):(callFunc 175 args).run Tryz.prog w=.ok (.enter 175 args) w:=by kernel_rfl
theorem CO (args:Array Value) (w:World):(callFunc 176 args).run Tryz.prog w=.ok (.enter 176 args) w:=by kernel_rfl
abbrev vV (xs:List Int) (ss:List Sl) (K:Nat) (s:Bool×Wa):=fin (fun _=>true) (aF xs ss) (ck xs ss) K s
def tZ (M:Mo) (f:Nat) (w0:World) (s:Bool×Wa) (w:World):Prop:=ah w {M with F:=s.1}/\bZ w s.2/\s.2.f=f/\ab (fun x=>ao M x\/x=f) w0 w
theorem QH (hM:ah w M) (hW:bZ w W) (hN:fo M.ss) (K:Nat) (hK:K<=1000000) (ok:eB K W):
 Calls Tryz.prog 58 #[ptr M.m,.iface 211 (ptr W.f),.int .i64 K] w fun e w'=>e=.returned (.tuple #[.int .i64 (vV M.xs M.ss K (M.F,W)).1,.bool (vV M.xs M.ss K (M.F,W)).2.1])/\
  tZ M W.f w (vV M.xs M.ss K (M.F,W)).2.2 w':=by
 refine Bv 211 175 176 W.f (ptr M.m) (tZ M W.f w) (fun k s=>eB k s.2) (fun _=>true) (aF M.xs M.ss) (ck M.xs M.ss) (CL _) (CM _) CN CO ?_ ?_ ?_ K hK (M.F,W) ok w ⟨hM,hW,rfl,ab.refl _ _⟩
 ·rintro k s w1 h ok
  exact (oC _ _ w1).mono fun e w' q=>⟨q.1,by rw [q.2]; exact h⟩
 ·rintro k s w1 ⟨h1,h2,h3,h4⟩ ok _
  have hs:=BF (M:={M with F:=s.1}) h1 h2 hN ok
  rw [h3] at hs
  exact hs.mono fun e w' h=>⟨h.1,h.2.1,h.2.2.1,(UL _ _ _).trans h3,h4.trans h.2.2.2⟩
 ·intro k s ok _ _
  exact ok.step hM.2.1.2.2.1 hN
end
/-! ### along a chain that stays-/
end Go.Proofs.YtpanebgakndddaaGreat.Wk
namespace Go.Proofs.YtpanebgakndddaaGreat.Gt
open Go Go.RowKit Hp K Fl Rw Hm Ar Mm Me Qs Wk
set_option maxRecDepth 100000
structure Ge where
 key:ByteArray
 sum:Int
 nx:Nat
 C:Cm
 iZ:Nat
 W:Wa
structure Ga where
 f:Nat
 c:Nat
 o:Nat
 w:Nat
def jW (a:Ga) (nx:Nat):Value:=if nx=1 then aT 126 (ptr a.f) else if nx=2 then aT 160 (ptr a.f) else if nx=3 then aT 195 (ptr a.f) else aT 213 (ptr a.o)
def Ov (a:Ga) (G:Ge):Array Value:=#[.string G.key,.int .u32 G.sum,jW a G.nx,ptr a.c,ptr a.o,ptr a.w]
abbrev Ge.wa (G:Ge) (b:Nat):Wa:={G.W with f:=b}
def cY (w:World) (a:Ga) (G:Ge):Prop:=af w a.f 213 (Ov a G)/\gu w a.c G.C/\jK w a.o G.C.worker G.iZ/\bZ w (G.wa a.w)
def bu (a:Ga) (x:Nat):Prop:=x=a.f\/x=a.c\/x=a.o\/x=a.w
abbrev Ow:List TypeId:=[213,233,235,237]
def cellOf (s:Int) (d:Nat×Nat):Int:=if d.1=0 then-1 else (d.2:Int)+FM.bucket s d.1
section
variable {w w':World} {M:Mo} {a:Ga} {G:Ge}
theorem cY.ty (h:cY w a G) {x:Nat} (hx:bu a x):Ty w x Ow:=by
 obtain ⟨h1,h2,h3,h4⟩:=h
 rcases hx with rfl | rfl | rfl | rfl
 ·exact (aV h1).mono (by simp)
 ·exact (aV h2).mono (by simp)
 ·exact (aV h3).mono (by simp)
 ·exact (aV h4).mono (by simp)
theorem cY.aA (h:cY w a G) (hM:ah w M) {x:Nat} (hx:bu a x):¬ao M x:=fun hm=>(hM.ty hm).apart (h.ty hx) (by decide)
theorem cY.only {S:Nat->Prop} (h:cY w a G) (ho:ab S w w') (hn:∀ x,bu a x->¬S x):cY w' a G:=
 ⟨h.1.only ho (hn _ (.inl rfl)),h.2.1.only ho (hn _ (.inr (.inl rfl))),h.2.2.1.only ho (hn _ (.inr (.inr (.inl rfl)))),h.2.2.2.only ho (hn _ (.inr (.inr (.inr rfl))))⟩
theorem cY.below (h:cY w a G) (hb:Below w.heap.size w w'):cY w' a G:=h.only (ab.aD hb (fun _=>False)) (by simp)
theorem cY.hd (h:cY w a G):w.cell? ⟨a.f,0,none⟩=some (.string G.key)/\w.cell? ⟨a.f,1,none⟩=some (.int .u32 G.sum)/\w.cell? ⟨a.f,2,none⟩=some (jW a G.nx)/\w.cell? ⟨a.f,3,none⟩=some (ptr a.c)/\
 w.cell? ⟨a.f,4,none⟩=some (ptr a.o)/\w.cell? ⟨a.f,5,none⟩=some (ptr a.w):=
 ⟨h.1.cell 0,h.1.cell 1,h.1.cell 2,h.1.cell 3,h.1.cell 4,h.1.cell 5⟩
theorem cY.cV (h:cY w a G) (i:Nat):w.frozen? ⟨a.f,i,none⟩=false:=h.1.frozen i
theorem cY.apart (h:cY w a G):a.f≠a.c/\a.f≠a.o/\a.f≠a.w/\a.c≠a.o/\a.c≠a.w/\a.o≠a.w:=by
 obtain ⟨h1,h2,h3,h4⟩:=h
 exact ⟨h1.differ h2 (by decide),h1.differ h3 (by decide),h1.differ h4 (by decide),af.differ h2 h3 (by decide),af.differ h2 h4 (by decide),af.differ h3 h4 (by decide)⟩
theorem cY.next (h:cY w a G) (n:Nat):cY (w.setCell ⟨a.f,2,none⟩ (jW a n)) a {G with nx:=n}:=by
 have ho:=(ab.refl (·=a.f) w).setCell (p:=⟨a.f,2,none⟩) (.inl rfl) (jW a n)
 have ha:=h.apart
 exact ⟨h.1.store 2 (jW a n),h.2.1.only ho (fun e=>ha.1 e.symm),h.2.2.1.only ho (fun e=>ha.2.1 e.symm),h.2.2.2.only ho (fun e=>ha.2.2.1 e.symm)⟩
theorem oC (x m:Value) (w:World):Calls Tryz.prog 283 #[x,m] w fun e w'=>e=.returned (.bool true)/\w=w':=by
 go_enter Tryz.func283,Tryz.ntmps283
 go_wp2
 go_ret
 exact ⟨rfl,rfl⟩
theorem Fo (h:cY w a G):Calls Tryz.prog 95 #[ptr a.f] w fun e w'=>e=.returned (.tuple #[.string G.W.nd.val,.bool (decide (G.W.found≠0))])/\Below w.heap.size w w':=by
 have c:=h.hd.2.2.2.2.2
 have hR:=BD h.2.2.2
 unfold dV at hR
 have e1:(G.wa a.w).found=G.W.found:=rfl
 have e2:(G.wa a.w).nd=G.W.nd:=rfl
 have e3:(G.wa a.w).f=a.w:=rfl
 rw [e1,e2,e3] at hR
 clear e1 e2 e3 h
 generalize decide (G.W.found≠0)=b at*
 generalize G.W.found=x at*
 generalize G.W.nd=n at*
 obtain ⟨nk,nv,ns,nn⟩:=n
 simp only at hR ⊢
 replace hR:=Lib.hid hR
 go_enter Tryz.func95,Tryz.ntmps95
 go_wp2_with fail
 refine hR.out.mono ?_
 rintro e w1 ⟨rfl,hb⟩
 have au:=Lib.hid ((hb.alloc (o:=.cells #[.string nk,.string nv,.int .u32 ns,.int .u64 nn] 67) hb.size))
 clear c
 go_wp2_with fail
 go_ret2
 exact ⟨rfl,au.out⟩
theorem vC {f:Nat} {s:Int} {key:ByteArray} (lf:f<w.heap.size) (c0:w.cell? ⟨f,0,none⟩=some (.string key)) (c1:w.cell? ⟨f,1,none⟩=some (.int .u32 s)) (c:Int):
 Calls Tryz.prog 125 #[ptr f,.int .i64 c] w fun e w'=>e=.returned (ptr w.heap.size)/\bZ w' (new w.heap.size c s key)/\Below w.heap.size w w':=by
 have hN:=Lib.hid (fun n=>Wk.mO c s key (w.drewN n))
 go_enter Tryz.func125,Tryz.ntmps125
 go_wp2_with fail
 go_region_held3 (fun w'=>w'.cell? ⟨f,0,none⟩=some (.string key)/\w'.cell? ⟨f,1,none⟩=some (.int .u32 s)) (go_keep)
  (first
    | (go_at_call 153
       refine (hN.out 1).mono ?_
       rintro e w2 ⟨rfl,h2,au⟩
       have d0:=(au.cell (p:=⟨f,0,none⟩) lf).trans c0
       have d1:=(au.cell (p:=⟨f,1,none⟩) lf).trans c1
       replace h2:=Lib.hid h2
       replace au:=Lib.hid au))
 all_goals
  go_wp2_with fail
  go_ret
  exact ⟨rfl,h2.out,(show Below w.heap.size w (w.drewN 1) from ⟨rfl,rfl,rfl,Nat.le_refl _,fun _ _=>rfl⟩).trans au.out⟩
set_option maxHeartbeats 1000000 in
theorem Ox (h:cY w a G) (d:Nat×Nat) (hd:d.1<=65536/\d.2<=4000000) (hs:0<=G.sum/\G.sum<4294967296):Calls Tryz.prog 194 #[ptr a.f,dv d] w fun e w'=>e=.returned (.int .i64 (cellOf G.sum d))/\Below w.heap.size w w':=by
 obtain ⟨c0,c1,_⟩:=h.hd
 have lf:=h.1.lt
 have hb:=qD G.sum d.1 hs.1
 unfold cellOf dv
 by_cases h0:d.1=0
 ·rw [if_pos h0,h0]
  clear h c0 c1 hb h0
  go_enter Tryz.func194,Tryz.ntmps194
  go_wp2_with fail
  go_ret
  exact ⟨rfl,(Below.refl _ _).alloc (Nat.le_refl _) _⟩
 ·rw [if_neg h0]
  have hB:=Lib.hid (fun w'=>lZ.yt G.sum d.1 w' hs.1 hs.2 (by omega) (by omega))
  have e0:((d.1:Int)==0)=false:=by simp; omega
  generalize FM.bucket G.sum d.1=b at*
  generalize d.1=d1 at*
  generalize d.2=d2 at*
  have e1:IntKind.i64.wrap ((d2:Int)+b)=d2+b:=IntWalk.i64_in _ (by omega)
  have nf:=World.new_ne w ⟨a.f,1,none⟩ c1
  clear h h0
  go_enter Tryz.func194,Tryz.ntmps194
  go_wp2_with fail
  go_quiet ((go_at_call 201; exact Calls.quiet_of_same ((hB.out _).mono fun _ _ h=>⟨h.1,h.2⟩)))
  go_wp2_with fail
  go_ret
  exact ⟨rfl,((Below.refl _ _).alloc (Nat.le_refl _) _).trans ⟨rfl,rfl,rfl,by simp,fun _ _=>rfl⟩⟩
end
end Go.Proofs.YtpanebgakndddaaGreat.Gt
namespace Go.Proofs.YtpanebgakndddaaGreat.Gt
open Go Go.RowKit Hp K Fl Rw Hm Ar Mm Me Qs Wk
set_option maxRecDepth 100000
section
variable {w w':World} {M:Mo} {a:Ga} {G:Ge}
def mK (k:Nat) (key:ByteArray):Ge:=⟨key,(FM.sum key.data.toList:Nat),1,⟨k,0,0⟩,0,new 0 (-1) (FM.sum key.data.toList:Nat) key⟩
set_option maxHeartbeats 1000000 in
theorem mO (k:Nat) (key:ByteArray) (hk:key.size<=maxLen) (w:World):
 Calls Tryz.prog 93 #[.int .i64 k,.string key] w fun e w'=>∃ a:Ga,e=.returned (ptr a.f)/\cY w' a (mK k key)/\(∀ x,bu a x->w.heap.size<=x)/\Below w.heap.size w w':=by
 have hS:=Lib.hid (lZ.x8 key w hk)
 unfold mK
 generalize hs:FM.sum key.data.toList=s at*
 replace hs:=Lib.hid hs
 go_enter Tryz.func93,Tryz.ntmps93
 go_wp2_with fail
 refine hS.out.mono ?_
 rintro e w0 ⟨rfl,hw⟩
 obtain rfl:w=w0:=hw.symm
 clear hS hw
 have hE:=Lib.hid (Gx k w)
 go_wp2_with fail
 refine hE.out.mono ?_
 rintro e w1 ⟨rfl,m5,aJ⟩
 have hL:=Lib.hid (Gy k w1)
 clear hE
 replace m5:=Lib.hid m5
 replace aJ:=Lib.hid aJ
 go_wp2_with fail
 refine hL.out.mono ?_
 rintro e w2 ⟨rfl,dm,ag⟩
 have qX:gu w2 w.heap.size ⟨k,0,0⟩:=m5.out.only (ab.aD ag (fun _=>False)) (by simp)
 have fL:=aJ.out.trans (ag.mono aJ.out.size)
 have J2:=aJ.out.size
 have DJ:=ag.size
 clear hL m5 aJ ag
 obtain ⟨w3,dU⟩:∃ w3,w3=w2.alloc (.cells #[.string key,.int .u32 s,.nilFunc,ptr w.heap.size,ptr w1.heap.size,.pointer none] 213):=⟨_,rfl⟩
 have eO:af w3 w2.heap.size 213 #[.string key,.int .u32 s,.nilFunc,ptr w.heap.size,ptr w1.heap.size,.pointer none]:=by rw [dU]; exact af.made w2 _ _
 have qY:gu w3 w.heap.size ⟨k,0,0⟩:=by rw [dU]; exact af.alloc qX _
 have fc:jK w3 w1.heap.size k 0:=by rw [dU]; exact af.alloc dm _
 have jP:Below w.heap.size w w3:=by rw [dU]; exact fL.alloc fL.size _
 have hF:=Lib.hid (vC eO.lt (eO.cell 0) (eO.cell 1) (-1))
 have mq:w3.heap.size=w2.heap.size+1:=by rw [dU]; simp
 obtain ⟨f,hf⟩:∃ f,f=w2.heap.size:=⟨_,rfl⟩
 obtain ⟨c,hc⟩:∃ c,c=w.heap.size:=⟨_,rfl⟩
 obtain ⟨o,ho⟩:∃ o,o=w1.heap.size:=⟨_,rfl⟩
 rw [<-hf] at eO hF mq DJ
 rw [<-hc] at eO qY J2
 rw [<-ho] at eO fc J2 DJ
 replace eO:=Lib.hid eO
 replace qY:=Lib.hid qY
 replace fc:=Lib.hid fc
 replace jP:=Lib.hid jP
 replace mq:=Lib.hid mq
 have tc:=Lib.hid hc
 clear qX dm fL
 go_wp2_with fail
 rw [<-dU,<-hf]
 clear dU hf hc ho
 refine hF.out.mono ?_
 rintro e w4 ⟨rfl,fV,az⟩
 have eR:=eO.out.only (ab.aD az (fun _=>False)) (by simp)
 have qZ:gu w4 c ⟨k,0,0⟩:=qY.out.only (ab.aD az (fun _=>False)) (by simp)
 have uB:jK w4 o k 0:=fc.out.only (ab.aD az (fun _=>False)) (by simp)
 have jj:=jP.out.trans (az.mono jP.out.size)
 have dL:=jP.out.size
 obtain ⟨b,hb⟩:∃ b,b=w3.heap.size:=⟨_,rfl⟩
 rw [<-hb] at fV dL ⊢
 have uC:=mq.out
 rw [<-hb] at uC
 have k2:=eR.cell 2
 have k5:=eR.cell 5
 have z2:=eR.frozen 2
 have z5:=eR.frozen 5
 simp at k2 k5
 have d1:=eR.differ qZ (by decide)
 have d2:=eR.differ uB (by decide)
 have d3:=eR.differ fV (by decide)
 have hE:Hid (cY ((w4.setCell ⟨f,5,none⟩ (ptr b)).setCell ⟨f,2,none⟩ (aT 126 (ptr f))) ⟨f,c,o,b⟩ ⟨key,s,1,⟨k,0,0⟩,0,new 0 (-1) s key⟩):=Lib.hid
  ⟨(eR.store 5 (ptr b)).store 2 (aT 126 (ptr f)),af.aA (af.aA qZ (p:=⟨f,5,none⟩) (fun e=>d1 e.symm) _) (p:=⟨f,2,none⟩) (fun e=>d1 e.symm) _,
    af.aA (af.aA uB (p:=⟨f,5,none⟩) (fun e=>d2 e.symm) _) (p:=⟨f,2,none⟩) (fun e=>d2 e.symm) _,af.aA (af.aA fV (p:=⟨f,5,none⟩) (fun e=>d3 e.symm) _) (p:=⟨f,2,none⟩) (fun e=>d3 e.symm) _⟩
 have VC:=tc.out
 have nQ:=Lib.hid ((jj.setCell (p:=⟨f,5,none⟩) (show w.heap.size<=f by omega) (ptr b)).setCell (p:=⟨f,2,none⟩) (show w.heap.size<=f by omega) (aT 126 (ptr f)))
 have fS:Hid (∀ x,bu ⟨f,c,o,b⟩ x->w.heap.size<=x):=Lib.hid (by
  intro x hx
  rcases hx with q | q | q | q<;>simp only at q<;>omega)
 clear hF eO qY fc jP fV az eR qZ uB jj hb uC mq VC tc d1 d2 d3 dL
 go_wp2_with fail
 go_ret
 exact ⟨_,rfl,hE.out,fS.out,nQ.out⟩
theorem Oy (xs:List Int) (C:Cm):(gv xs C).2.worker=C.worker:=by
 unfold gv
 split<;>rfl
theorem cY.Oz {C:Cm} (h:cY w a G) (hM:ah w M) (hC:gu w' a.c C) (ho:ab (fun x=>ao M x\/x=a.c) w w') (hk:C.worker=G.C.worker):cY w' a {G with C:=C}:=by
 have ha:=h.apart
 refine ⟨h.1.only ho ?_,hC,?_,h.2.2.2.only ho ?_⟩
 ·rintro (q | q)
  ·exact h.aA hM (.inl rfl) q
  ·exact ha.1 q
 ·show jK w' a.o C.worker G.iZ
  rw [hk]
  refine af.only h.2.2.1 ho ?_
  rintro (q | q)
  ·exact h.aA hM (.inr (.inr (.inl rfl))) q
  ·exact ha.2.2.2.1 q.symm
 ·rintro (q | q)
  ·exact h.aA hM (.inr (.inr (.inr rfl))) q
  ·exact ha.2.2.2.2.1 q.symm
set_option maxHeartbeats 1000000 in
theorem OA (hM:ah w M) (h:cY w a G) (ha:G.C.at_<=1) (hk:2+G.C.worker<M.xs.length) (hp:G.C.worker<=1000) (hv:0<=G.C.period/\G.C.period<=18446744073709551615):
 Calls Tryz.prog 126 #[ptr a.f,ptr M.m] w fun e w'=>e=.returned (.bool false)/\ah w' {M with xs:=(gv M.xs G.C).1}/\cY w' a {G with C:=(gv M.xs G.C).2,nx:=if G.C.at_=1 then 2 else G.nx}/\ab (fun x=>ao M x\/bu a x) w w':=by
 have hS:=(Gz hM h.2.1 ha hk hp hv).mono fun e w' q=>
  show e=.returned (.bool (decide (G.C.at_=1)))/\ah w' {M with xs:=(gv M.xs G.C).1}/\cY w' a {G with C:=(gv M.xs G.C).2}/\ab (fun x=>ao M x\/bu a x) w w' from
   ⟨q.1,q.2.1,h.Oz hM q.2.2.1 q.2.2.2 (Oy _ _),q.2.2.2.mono (fun x _ y=>y.imp id (fun e=>.inr (.inl e)))⟩
 have c3:=h.hd.2.2.2.1
 by_cases h1:G.C.at_=1
 ·rw [show decide (G.C.at_=1)=true by simp [h1]] at hS
  rw [if_pos h1]
  have dp:=Lib.hid (h.aA hM (.inl rfl))
  generalize (gv M.xs G.C).1=xs' at*
  generalize (gv M.xs G.C).2=C' at*
  replace hS:=Lib.hid hS
  clear h1 h hM ha hk hp hv
  go_enter Tryz.func126,Tryz.ntmps126
  go_wp2_with fail
  refine hS.out.mono ?_
  rintro e w1 ⟨rfl,av,ak,aw⟩
  have k2:=ak.hd.2.2.1
  have z2:=ak.cV 2
  have dm:=Lib.hid (ak.next 2)
  have ae:=(ab.refl (·=a.f) w1).setCell (p:=⟨a.f,2,none⟩) (.inl rfl) (jW a 2)
  have aB:=Lib.hid (av.only ae (fun x hx q=>dp.out (q▸hx)))
  have aq:=Lib.hid (aw.trans' ae (fun x _ q=>.inr (.inl q)))
  clear ae av ak aw hS c3
  go_wp2_with fail
  go_ret
  exact ⟨rfl,aB.out,dm.out,aq.out⟩
 ·rw [show decide (G.C.at_=1)=false by simp [h1]] at hS
  rw [if_neg h1]
  generalize (gv M.xs G.C).1=xs' at*
  generalize (gv M.xs G.C).2=C' at*
  replace hS:=Lib.hid hS
  clear h1 h hM ha hk hp hv
  go_enter Tryz.func126,Tryz.ntmps126
  go_wp2_with fail
  refine hS.out.mono ?_
  rintro e w1 ⟨rfl,av,ak,aw⟩
  replace av:=Lib.hid av
  replace ak:=Lib.hid ak
  replace aw:=Lib.hid aw
  clear hS c3
  go_wp2_with fail
  go_ret
  exact ⟨rfl,av.out,ak.out,aw.out⟩
set_option maxHeartbeats 1000000 in
theorem vD (hM:ah w M) (h:cY w a G) (hx:1<M.xs.length) (hd:(now M.xs M.ds).1<=65536/\(now M.xs M.ds).2<=4000000) (hs:0<=G.sum/\G.sum<4294967296):
 Calls Tryz.prog 160 #[ptr a.f,ptr M.m] w fun e w'=>e=.returned (.bool false)/\ah w' M/\(∃ b,w.heap.size<=b/\cY w' {a with w:=b} {G with W:=new 0 (cellOf G.sum (now M.xs M.ds)) G.sum G.key,nx:=3})/\ab (bu a) w w':=by
 have hN:=Lib.hid (py hM hx)
 generalize now M.xs M.ds=d at*
 generalize iT:cellOf G.sum d=cc
 replace iT:=Lib.hid iT
 have HM:=Lib.hid hM
 have HG:=Lib.hid h
 clear hM h
 unfold dv at hN
 go_enter Tryz.func160,Tryz.ntmps160
 go_wp2_with fail
 refine hN.out.mono ?_
 rintro e w1 ⟨rfl,aJ⟩
 have hC:=Ox (HG.out.below aJ) d hd hs
 unfold dv at hC
 rw [iT.out] at hC
 replace hC:=Lib.hid hC
 replace aJ:=Lib.hid aJ
 clear hN
 go_wp2_with fail
 refine hC.out.mono ?_
 rintro e w2 ⟨rfl,ag⟩
 have fL:=aJ.out.trans (ag.mono aJ.out.size)
 have dm:=HG.out.below fL
 have hF:=Lib.hid (vC dm.1.lt dm.hd.1 dm.hd.2.1 cc)
 replace fL:=Lib.hid fL
 clear hC aJ ag dm
 go_wp2_with fail
 refine hF.out.mono ?_
 rintro e w3 ⟨rfl,dq,ay⟩
 have dL:=fL.out.size
 have jP:=fL.out.trans (ay.mono dL)
 have fc:=HG.out.below jP
 have br:=HM.out.below jP
 have k2:=fc.hd.2.2.1
 have k5:=fc.hd.2.2.2.2.2
 have z2:=fc.cV 2
 have z5:=fc.cV 5
 obtain ⟨b,hb⟩:∃ b,b=w2.heap.size:=⟨_,rfl⟩
 rw [<-hb] at dq dL ⊢
 have ap:=fc.apart
 have d3:=fc.1.differ dq (by decide)
 have aA:=fc.aA br (.inl rfl)
 have hO:=(((ab.refl (·=a.f) w3).setCell (p:=⟨a.f,5,none⟩) (.inl rfl) (ptr b)).setCell (p:=⟨a.f,2,none⟩) (.inl rfl) (aT 195 (ptr a.f)))
 have hE:Hid (cY ((w3.setCell ⟨a.f,5,none⟩ (ptr b)).setCell ⟨a.f,2,none⟩ (aT 195 (ptr a.f))) {a with w:=b} {G with W:=new 0 cc G.sum G.key,nx:=3}):=Lib.hid
  ⟨(fc.1.store 5 (ptr b)).store 2 (aT 195 (ptr a.f)),fc.2.1.only hO (fun e=>ap.1 e.symm),fc.2.2.1.only hO (fun e=>ap.2.1 e.symm),dq.only hO (fun e=>d3 e.symm)⟩
 have VD:=Lib.hid (br.only hO (fun x hx q=>aA (q▸hx)))
 have VE:=Lib.hid ((ab.aD jP (bu a)).trans' hO (fun x _ q=>.inl q))
 replace dL:=Lib.hid dL
 clear hF dq ay fL jP fc br ap d3 aA hO hb
 go_wp2_with fail
 go_ret
 exact ⟨rfl,VD.out,⟨b,dL.out,hE.out⟩,VE.out⟩
end
end Go.Proofs.YtpanebgakndddaaGreat.Gt
namespace Go.Proofs.YtpanebgakndddaaGreat.Gt
open Go Go.RowKit Hp K Fl Rw Hm Ar Mm Me Qs Wk
set_option maxRecDepth 100000
theorem GA (W:Wa) (b h:Nat):dy {W with f:=b} h={dy W h with f:=b}:=by
 unfold dy
 split<;>rfl
theorem BE (xs:List Int) (ss:List Sl) (F:Bool) (W:Wa) (b:Nat):Wk.aF xs ss (F,{W with f:=b})=((Wk.aF xs ss (F,W)).1,{(Wk.aF xs ss (F,W)).2 with f:=b}):=by
 unfold Wk.aF
 simp only
 split
 ·rw [<-GA]
 split
 ·split
  ·rename_i k _
   unfold looks mb
   simp only
   split
   ·rfl
   ·rw [<-GA]
  ·rfl
 ·rfl
theorem GB (xs:List Int) (ss:List Sl) (F:Bool) (W:Wa) (b:Nat):Wk.ck xs ss (F,{W with f:=b})=Wk.ck xs ss (F,W):=by
 unfold Wk.ck
 rw [BE]
abbrev Gs:=List Int×Bool×Ge
def dz (ds:List (Nat×Nat)) (ss:List Sl) (s:Gs):Gs:=
 if s.2.2.nx=1 then ((gv s.1 s.2.2.C).1,s.2.1,{s.2.2 with C:=(gv s.1 s.2.2.C).2,nx:=if s.2.2.C.at_=1 then 2 else 1})
 else if s.2.2.nx=2 then (s.1,s.2.1,{s.2.2 with W:=new 0 (cellOf s.2.2.sum (now s.1 ds)) s.2.2.sum s.2.2.key,nx:=3})
 else if s.2.2.nx=3 then (s.1,(Wk.aF s.1 ss (s.2.1,s.2.2.W)).1,{s.2.2 with W:=(Wk.aF s.1 ss (s.2.1,s.2.2.W)).2,nx:=if Wk.ck s.1 ss (s.2.1,s.2.2.W)=true then 4 else 3})
 else (s.1.set (2+s.2.2.C.worker) 0,s.2.1,{s.2.2 with iZ:=1})
def eJ (G:Ge):Bool:=decide (4<=G.nx)
structure l9 (r:Nat) (ds:List (Nat×Nat)) (ss:List Sl) (xs:List Int) (G:Ge):Prop where
 nx:1<=G.nx/\G.nx<=4
 at_:G.nx=1->G.C.at_<=1
 wk:2+G.C.worker<xs.length/\G.C.worker<=1000
 pd:0<=G.C.period/\G.C.period<=18446744073709551615
 sum:0<=G.sum/\G.sum<4294967296
 tb:∀ i,(aN ds i).1<=65536/\(aN ds i).2<=4000000
 cU:fo ss
 rb:r<=4000000000000000000
 wa:G.nx=3->eB r G.W
 go:G.nx=4->G.iZ=0
def qE (w:World) (a a':Ga):Prop:=a'.f=a.f/\a'.c=a.c/\a'.o=a.o/\(a'.w=a.w\/w.heap.size<=a'.w)
theorem qE.refl (w:World) (a:Ga):qE w a a:=⟨rfl,rfl,rfl,.inl rfl⟩
theorem OB (args:Array Value) (w:World):(callFunc 126 args).run Tryz.prog w=.ok (.enter 126 args) w:=by kernel_rfl
theorem OC (args:Array Value) (w:World):(callFunc 160 args).run Tryz.prog w=.ok (.enter 160 args) w:=by kernel_rfl
theorem OD (args:Array Value) (w:World):(callFunc 195 args).run Tryz.prog w=.ok (.enter 195 args) w:=by kernel_rfl
theorem OE (args:Array Value) (w:World):(callFunc 213 args).run Tryz.prog w=.ok (.enter 213 args) w:=by kernel_rfl
section
variable {w w':World} {M:Mo} {a:Ga} {G:Ge}
theorem lx {F f:Nat} {cv m:Value} {c:Bool} {P:World->Prop} (c2:w.cell? ⟨f,2,none⟩=some (aT F cv)) (eF:∀ args w,(callFunc F args).run Tryz.prog w=.ok (.enter F args) w)
 (hF:Calls Tryz.prog F #[cv,m] w fun e w'=>e=.returned (.bool c)/\P w'):Calls Tryz.prog 284 #[ptr f,m] w fun e w'=>e=.returned (.bool c)/\P w':=by
 replace hF:=Lib.hid hF
 go_enter Tryz.func284,Tryz.ntmps284
 go_wp2_with fail
 refine hF.out.mono ?_
 rintro e w' ⟨rfl,bj⟩
 replace bj:=Lib.hid bj
 clear c2
 go_wp2_with fail
 go_ret
 exact ⟨rfl,bj.out⟩
set_option maxHeartbeats 1000000 in
theorem OF (hM:ah w M) (h:cY w a G) (hN:fo M.ss) {r:Nat} (ok:eB (r+1) G.W) (h3:G.nx=3):
 Calls Tryz.prog 195 #[ptr a.f,ptr M.m] w fun e w'=>e=.returned (.bool false)/\ah w' {M with F:=(Wk.aF M.xs M.ss (M.F,G.W)).1}/\
  cY w' a {G with W:=(Wk.aF M.xs M.ss (M.F,G.W)).2,nx:=if Wk.ck M.xs M.ss (M.F,G.W)=true then 4 else 3}/\ab (fun x=>ao M x\/bu a x) w w':=by
 have dF:=h.apart
 have hS:=(BF hM h.2.2.2 hN (r:=r) ⟨ok.cell,ok.at_,ok.read,ok.nx⟩).mono fun e w' q=>
  show e=.returned (.bool (Wk.ck M.xs M.ss (M.F,G.W)))/\ah w' {M with F:=(Wk.aF M.xs M.ss (M.F,G.W)).1}/\cY w' a {G with W:=(Wk.aF M.xs M.ss (M.F,G.W)).2}/\ab (fun x=>ao M x\/bu a x) w w' from by
   have q1:=q.1
   have q2:=q.2.1
   have q3:=q.2.2.1
   have q4:=q.2.2.2
   rw [GB] at q1
   rw [BE] at q2 q3
   have aA:∀ x,bu a x->x≠a.w->¬(ao M x\/x=(G.wa a.w).f):=fun x hx hn q=>q.elim (fun q=>h.aA hM hx q) (fun q=>hn q)
   refine ⟨q1,q2,⟨h.1.only q4 (aA _ (.inl rfl) dF.2.2.1),h.2.1.only q4 (aA _ (.inr (.inl rfl)) dF.2.2.2.2.1),h.2.2.1.only q4 (aA _ (.inr (.inr (.inl rfl))) dF.2.2.2.2.2),q3⟩,q4.mono (fun x _ y=>y.imp id (fun e=>.inr (.inr (.inr e))))⟩
 have c5:=h.hd.2.2.2.2.2
 have dp:=Lib.hid (h.aA hM (.inl rfl))
 cases ct:Wk.ck M.xs M.ss (M.F,G.W) with
 | true=>
   rw [ct] at hS
   rw [if_pos rfl]
   generalize Wk.aF M.xs M.ss (M.F,G.W)=z at*
   obtain ⟨zf,zw⟩:=z
   simp only at hS ⊢
   replace hS:=Lib.hid hS
   clear ct h hM hN ok dF h3
   go_enter Tryz.func195,Tryz.ntmps195
   go_wp2_with fail
   refine hS.out.mono ?_
   rintro e w1 ⟨rfl,av,ak,aw⟩
   have k2:=ak.hd.2.2.1
   have k4:=ak.hd.2.2.2.2.1
   have z2:=ak.cV 2
   have dm:=Lib.hid (ak.next 4)
   have ae:=(ab.refl (·=a.f) w1).setCell (p:=⟨a.f,2,none⟩) (.inl rfl) (jW a 4)
   have aB:=Lib.hid (av.only ae (fun x hx q=>dp.out (q▸hx)))
   have aq:=Lib.hid (aw.trans' ae (fun x _ q=>.inr (.inl q)))
   clear ae av ak aw hS c5
   go_wp2_with fail
   go_ret
   exact ⟨rfl,aB.out,dm.out,aq.out⟩
 | false=>
   rw [ct] at hS
   rw [if_neg (by simp)]
   have gW:=hS.mono fun e w' q=>show e=.returned (.bool false)/\ah w' {M with F:=(Wk.aF M.xs M.ss (M.F,G.W)).1}/\cY w' a {G with W:=(Wk.aF M.xs M.ss (M.F,G.W)).2,nx:=3}/\ab (fun x=>ao M x\/bu a x) w w' from
    ⟨q.1,q.2.1,by have:=q.2.2.1; rw [<-h3]; exact this,q.2.2.2⟩
   clear hS
   generalize Wk.aF M.xs M.ss (M.F,G.W)=z at*
   obtain ⟨zf,zw⟩:=z
   simp only at gW ⊢
   replace gW:=Lib.hid gW
   clear ct h hM hN ok dF h3
   go_enter Tryz.func195,Tryz.ntmps195
   go_wp2_with fail
   refine gW.out.mono ?_
   rintro e w1 ⟨rfl,av,ak,aw⟩
   replace av:=Lib.hid av
   replace ak:=Lib.hid ak
   replace aw:=Lib.hid aw
   clear gW c5
   go_wp2_with fail
   go_ret
   exact ⟨rfl,av.out,ak.out,aw.out⟩
theorem GC (hM:ah w M) (h:cY w a G) {r:Nat} (ok:l9 (r+1) M.ds M.ss M.xs G):
 Calls Tryz.prog 284 #[ptr a.f,ptr M.m] w fun e w'=>e=.returned (.bool (eJ G))/\∃ a',qE w a a'/\ah w' {M with xs:=(dz M.ds M.ss (M.xs,M.F,G)).1,F:=(dz M.ds M.ss (M.xs,M.F,G)).2.1}/\
  cY w' a' (dz M.ds M.ss (M.xs,M.F,G)).2.2/\ab (fun x=>ao M x\/bu a x) w w':=by
 have c2:=h.hd.2.2.1
 unfold jW at c2
 have fF:=ok.nx
 unfold eJ
 by_cases e1:G.nx=1
 ·have hs:dz M.ds M.ss (M.xs,M.F,G)=((gv M.xs G.C).1,M.F,{G with C:=(gv M.xs G.C).2,nx:=if G.C.at_=1 then 2 else 1}):=by unfold dz; rw [if_pos e1]
  rw [if_pos e1] at c2
  rw [hs,show decide (4<=G.nx)=false by simp; omega]
  refine lx c2 OB ((OA hM h (ok.at_ e1) ok.wk.1 ok.wk.2 ok.pd).mono fun e w' q=>⟨q.1,a,qE.refl _ _,q.2.1,?_,q.2.2.2⟩)
  have:=q.2.2.1
  rw [e1] at this
  exact this
 rw [if_neg e1] at c2
 by_cases e2:G.nx=2
 ·have hs:dz M.ds M.ss (M.xs,M.F,G)=(M.xs,M.F,{G with W:=new 0 (cellOf G.sum (now M.xs M.ds)) G.sum G.key,nx:=3}):=by unfold dz; simp only; rw [if_neg e1,if_pos e2]
  rw [if_pos e2] at c2
  rw [hs,show decide (4<=G.nx)=false by simp; omega]
  refine lx c2 OC ((vD hM h (by have:=ok.wk; omega) (ok.tb _) ok.sum).mono fun e w' q=>?_)
  obtain ⟨b,hb,hG⟩:=q.2.2.1
  exact ⟨q.1,{a with w:=b},⟨rfl,rfl,rfl,.inr hb⟩,q.2.1,hG,q.2.2.2.mono (fun x _ y=>.inr y)⟩
 rw [if_neg e2] at c2
 by_cases e3:G.nx=3
 ·have hs:dz M.ds M.ss (M.xs,M.F,G)=(M.xs,(Wk.aF M.xs M.ss (M.F,G.W)).1,{G with W:=(Wk.aF M.xs M.ss (M.F,G.W)).2,nx:=if Wk.ck M.xs M.ss (M.F,G.W)=true then 4 else 3}):=by unfold dz; simp only; rw [if_neg e1,if_neg e2,if_pos e3]
  rw [if_pos e3] at c2
  rw [hs,show decide (4<=G.nx)=false by simp; omega]
  exact lx c2 OD ((OF hM h ok.cU (ok.wa e3) e3).mono fun e w' q=>⟨q.1,a,qE.refl _ _,q.2.1,q.2.2.1,q.2.2.2⟩)
 rw [if_neg e3] at c2
 have e4:G.nx=4:=by omega
 have hs:dz M.ds M.ss (M.xs,M.F,G)=(M.xs.set (2+G.C.worker) 0,M.F,{G with iZ:=1}):=by unfold dz; simp only; rw [if_neg e1,if_neg e2,if_neg e3]
 rw [hs,show decide (4<=G.nx)=true by simp; omega]
 have ho:jK w a.o G.C.worker 0:=by have:=h.2.2.1; rw [ok.go e4] at this; exact this
 refine lx c2 OE ((GD hM ho ok.wk.1 ok.wk.2).mono fun e w' q=>⟨q.1,a,qE.refl _ _,q.2.1,?_,q.2.2.2.mono (fun x _ y=>y.imp id (fun e=>.inr (.inr (.inl e))))⟩)
 have dF:=h.apart
 have aA:∀ x,bu a x->x≠a.o->¬(ao M x\/x=a.o):=fun x hx hn q=>q.elim (fun q=>h.aA hM hx q) hn
 exact ⟨h.1.only q.2.2.2 (aA _ (.inl rfl) dF.2.1),h.2.1.only q.2.2.2 (aA _ (.inr (.inl rfl)) dF.2.2.2.1),q.2.2.1,h.2.2.2.only q.2.2.2 (aA _ (.inr (.inr (.inr rfl))) (fun e=>dF.2.2.2.2.2 e.symm))⟩
end
end Go.Proofs.YtpanebgakndddaaGreat.Gt
namespace Go.Proofs.YtpanebgakndddaaGreat.Pc
open Go Hm Ar Mm Wk
abbrev Pr:=ByteArray×ByteArray
def sm (k:ByteArray):Int:=(FM.sum k.data.toList:Nat)
theorem oD (k:ByteArray):0<=sm k/\sm k<4294967296:=by
 have:=FM.By k.data.toList
 unfold sm
 omega
def dP (p:Pr) (z:Nat):Nd:=⟨p.1,p.2,sm p.1,z⟩
inductive Cn (ss:List Sl):Nat->List Pr->Prop
 | nil:Cn ss 0 []
 | cons {x k z:Nat} {p:Pr} {t:List Pr}:aY ss x k->(ai ss k).nd=dP p z->Cn ss z t->Cn ss x (p::t)
section
variable {ss:List Sl} {x:Nat} {q:List Pr}
theorem Cn.pos (h:Cn ss x q):x=0↔q=[]:=by
 cases h with
 | nil=>simp
 | cons a b c=>simp [a.pos]
def lk:List Pr->ByteArray->Option ByteArray
 | [],_=>none
 | p::t,key=>if p.1=key then some p.2 else lk t key
end
theorem fJ (xs:List Int) (k:Nat) (v:Int) (h:k<xs.length) (i:Nat):Cl.nth (xs.set k v) i=if i=k then v else Cl.nth xs i:=by
 unfold Cl.nth
 by_cases e:i=k
 ·subst e; simp [List.getD,h]
 ·rw [if_neg e]; simp [List.getD,List.getElem?_set_ne (Ne.symm e)]
theorem H8 {k:Nat} (h:k<=16):FM.bo ((2 ^ k:Nat):Int)=true:=(FM.Bw _).2 ⟨k,h,rfl⟩
theorem HO {n:Nat} (hp:FM.bo n=true) (s:Int) (hs:0<=s):0<=FM.bucket s n/\FM.bucket s n<n:=by
 have:=FM.eW hp
 unfold FM.bucket
 rw [hp,if_pos rfl]
 exact ⟨Int.emod_nonneg _ (by omega),Int.emod_lt_of_pos _ (by omega)⟩
/-! ### laid from the end-/
end Go.Proofs.YtpanebgakndddaaGreat.Pc
