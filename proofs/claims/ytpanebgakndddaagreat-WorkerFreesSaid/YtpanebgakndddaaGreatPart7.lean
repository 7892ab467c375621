/- Walks and plain mathematics, put together in their order: GroG, GroH, GroI, GroJ, GroK. -/
import Derived.Test.YtpanebgakndddaaGreatPart6
import Derived.Deep.DeepCutAuto
set_option linter.unusedVariables false
set_option linter.unusedSimpArgs false
namespace Go.Proofs.YtpanebgakndddaaGreat.Gw
open Go Go.RowKit Hp K Fl Rw Hm Ar Mm Me Qs Wk Pn
set_option maxRecDepth 100000
section
variable {w w':World} {M:Mo} {a:Gl} {G:Gr}
set_option maxHeartbeats 2000000 in
theorem vD (h:jo w a G) {x:Nat} (hx:x<=18446744073709551615) (hm:x∉G.C.met):Calls Tryz.prog 207 #[ptr a.f,.int .u64 x] w fun e w'=>e=.returned (.tuple #[])/\Left w a (dg G x) w':=by
 have c10:=h.own.cell 10
 have c11:=h.own.cell 11
 have z11:=h.own.frozen 11
 simp only [bM,List.getElem?_toArray,List.getElem?_cons_succ,List.getElem?_cons_zero,h.fy.cv] at c10 c11
 unfold dg
 by_cases h0:x=0
 ·subst h0
  rw [if_pos rfl]
  have hE:=Lib.hid (O2 h)
  clear h c10 c11 z11
  go_enter Tryz.func207,Tryz.ntmps207
  go_wp2_with fail
  refine hE.out.mono ?_
  rintro e w1 ⟨rfl,hL⟩
  replace hL:=Lib.hid hL
  go_wp2_with fail
  exact bodyPost_ret (v:=.tuple #[]) (by simp [results,Tryz.results207]) rfl ⟨rfl,hL.out⟩
 ·rw [if_neg h0]
  have wS:=ON h.fy hx
  rw [show decide (x∈G.C.met)=false by simpa using hm] at wS
  replace wS:=Lib.hid wS
  have q0:((x:Int)==0)=false:=by simp; omega
  have aJ:Own (w.setCell ⟨a.f,11,none⟩ (.int .u64 x)) a {G with at_:=x}:=af.store h.own 11 (.int .u64 x)
  have aw:=(ab.refl (·=a.f) w).setCell (p:=⟨a.f,11,none⟩) (.inl rfl) (.int .u64 x)
  have hG:=Lib.hid (eg aJ (n:=4) (by omega) rfl)
  have H:=Lib.hid h
  replace aw:=Lib.hid aw
  clear h aJ h0
  go_enter Tryz.func207,Tryz.ntmps207
  go_wp2_with fail
  refine wS.out.mono ?_
  rintro e w1 ⟨rfl,hw⟩
  obtain rfl:w=w1:=hw
  clear wS
  go_wp2_with fail
  refine hG.out.mono ?_
  rintro e w2 ⟨rfl,ag,ae⟩
  have hO:=aw.out.trans ae
  have hd:∀ x,km a x->x≠a.f->¬x=a.f:=fun x _ q=>q
  have hL:Left w a {G with at_:=x,nx:=4} w2:=by
   refine ⟨a,⟨hB2,fun _=>H.out.fy.only hO (fun e=>H.out.own.differ H.out.fy.cb (by decide) e.symm) (fun e=>H.out.fy.mt.no (by rw [e]; exact bj H.out.own)) (fun b hb e=>(cp H.out.fy.lr hb).apart (e▸blk_ty H.out.own:Ty w b [200]) (by decide)),fun q=>by simp at q,fun q=>by simp at q,
    H.out.rws.only hO (H.out.rws.self H.out.own)⟩,rfl,fun x hx=>?_,hO.mono (fun x _ q=>.inl q)⟩
   rcases hx with rfl | ⟨_,rfl⟩ | ⟨_,hx | hx⟩ | ⟨q,_⟩ | hx
   ·exact .inl (.inl rfl)
   ·exact .inl (.inr (.inl rfl))
   ·exact .inl (.inr (.inr (.inl hx)))
   ·exact .inl (.inr (.inr (.inr (.inl hx))))
   ·simp at q
   ·exact .inl (rX hx)
  replace hL:=Lib.hid hL
  clear ag ae hO hG c10 c11 z11 q0 hd
  go_wp2_with fail
  go_end0
  exact ⟨rfl,hL.out⟩
set_option maxHeartbeats 2000000 in
theorem vE (h:Own w a G):Calls Tryz.prog 243 #[ptr a.f] w fun e w'=>∃ b,e=.returned (.tuple #[])/\Own w' {a with wv:=ptr b,w:=b} {G with nx:=7}/\cZ w' b ⟨G.worker,0,0,0⟩/\w.heap.size<=b/\ab (·=a.f) w w':=by
 have c0:=h.cell 0
 have c1:=h.cell 1
 have c2:=h.cell 2
 have c13:=h.cell 13
 simp only [bM,List.getElem?_toArray,List.getElem?_cons_succ,List.getElem?_cons_zero] at c0 c1 c2 c13
 have hS:=Lib.hid (yv G.worker w)
 have H:=Lib.hid h
 clear h
 go_enter Tryz.func243,Tryz.ntmps243
 go_wp2_with fail
 refine hS.out.mono ?_
 rintro e w1 ⟨rfl,jx,aJ⟩
 obtain ⟨b,hb⟩:∃ b,b=w.heap.size:=⟨_,rfl⟩
 rw [<-hb] at jx ⊢
 have aw:=ab.aD aJ (·=a.f)
 have da:Own w1 a G:=H.out.only (ab.aD aJ (fun _=>False)) (by simp)
 have d1:=da.cell 1
 have d2:=da.cell 2
 have d13:=da.cell 13
 have y1:=da.frozen 1
 have y2:=da.frozen 2
 have y13:=da.frozen 13
 simp only [bM,List.getElem?_toArray,List.getElem?_cons_succ,List.getElem?_cons_zero] at d1 d2 d13
 have hE:Hid (Own (((w1.setCell ⟨a.f,13,none⟩ (ptr b)).setCell ⟨a.f,1,none⟩ (aS 56 (ptr b))).setCell ⟨a.f,2,none⟩ (aS 244 (ptr a.f))) {a with wv:=ptr b,w:=b} {G with nx:=7}):=Lib.hid (by
  have:=((da.store 13 (ptr b)).store 1 (aS 56 (ptr b))).store 2 (aS 244 (ptr a.f))
  exact this)
 have ae:=pz (c:=a.f) w1 13 1 2 (ptr b) (aS 56 (ptr b)) (aS 244 (ptr a.f))
 have aq:=Lib.hid (aw.trans ae)
 have aH:b≠a.f:=fun e=>by have:=H.out.lt; omega
 have eR:=Lib.hid (jx.only ae aH)
 generalize tM a G.nx=u1 at*
 generalize jU a.f G.nx=u2 at*
 generalize a.wv=u13 at*
 replace hb:=Lib.hid hb
 clear c0 c1 c2 c13 hS jx aJ aw da ae aH
 go_wp2_with fail
 go_end0
 exact ⟨b,rfl,hE.out,eR.out,Nat.le_of_eq hb.out.symm,aq.out⟩
theorem oD {S:Nat->Prop} {a':Gl} {G':Gr} (hM:ah w M) (hG:bT w' a' G') (hf:a'.f=a.f) (iw:∀ x,bt a' G' x->bt a G x\/w.heap.size<=x) (h:bT w a G) (hO:ab S w w') (hS:∀ x,S x->bt a G x):dI.ba w M a G (lm M) G' w':=
 ⟨M,a',hM.only hO (fun x hx hs=>h.aA hM (hS x hs) hx),rfl,gm.refl _ _,hG,hf,iw,hO.mono (fun x _ q=>.inr (hS x q))⟩
set_option maxHeartbeats 2000000 in
theorem vF (hM:ah w M) (h:bT w a G) (hx:1<M.xs.length) (h1:G.nx=1):Calls Tryz.prog 114 #[ptr a.f,ptr M.m] w fun e w'=>e=.returned (.bool false)/\dI.ba w M a G (aF (lm M) G).1 (aF (lm M) G).2 w':=by
 have hN:=Lib.hid (pj hM hx)
 unfold aF
 rw [if_pos h1]
 show Calls _ _ _ _ fun e w'=>_/\dI.ba w M a G (lm M) {G with el:=now M.xs M.ds,nx:=2} w'
 generalize now M.xs M.ds=d at*
 unfold dv at hN
 have HM:=Lib.hid hM
 have HG:=Lib.hid h
 clear hM h
 go_enter Tryz.func114,Tryz.ntmps114
 go_wp2_with fail
 refine hN.out.mono ?_
 rintro e w1 ⟨rfl,aJ⟩
 have ak:=HG.out.below aJ
 have c4:=ak.an.cell 4
 have c5:=ak.an.cell 5
 have z4:=ak.an.frozen 4
 have z5:=ak.an.frozen 5
 simp only [bM,List.getElem?_toArray,List.getElem?_cons_succ,List.getElem?_cons_zero] at c4 c5
 have ag:Own ((w1.setCell ⟨a.f,4,none⟩ (.int .i64 d.1)).setCell ⟨a.f,5,none⟩ (.int .i64 d.2)) a {G with el:=d}:=(ak.an.store 4 (.int .i64 d.1)).store 5 (.int .i64 d.2)
 have ae:=kr (c:=a.f) w1 4 5 (.int .i64 d.1) (.int .i64 d.2)
 have lL:=Lib.hid (eg ag (n:=2) (by omega) rfl)
 have aq:=Lib.hid ((ab.aD aJ (·=a.f)).trans ae)
 clear ag ae hN aJ
 replace ak:=Lib.hid ak
 go_wp2_with fail
 refine lL.out.mono ?_
 rintro e w3 ⟨rfl,ay,aL⟩
 have hO:=aq.out.trans aL
 have hE:Hid (dI.ba w M a G (lm M) {G with el:=d,nx:=2} w3):=Lib.hid (by
  refine oD HM.out (a':=a) ⟨hB3,fun q=>by simp at q,fun q=>by simp at q,fun q=>by simp at q,?_⟩ rfl (fun x hx=>?_) HG.out hO (fun x q=>.inl q)
  ·have:=HG.out.cO.only hO (HG.out.cO.self HG.out.an)
   rw [h1] at this
   exact this
  ·rcases hx with rfl | ⟨q,_⟩ | ⟨q,_⟩ | ⟨q,_⟩ | hx
   ·exact .inl (.inl rfl)
   ·simp at q
   ·simp at q
   ·simp at q
   ·refine .inl (.inr (.inr (.inr (.inr ?_))))
    rw [h1]
    exact hx)
 clear ay aL hO lL c4 c5 z4 z5
 go_wp2_with fail
 go_ret
 exact ⟨rfl,hE.out⟩
end
end Go.Proofs.YtpanebgakndddaaGreat.Gw
namespace Go.Proofs.YtpanebgakndddaaGreat.Gw
open Go Go.RowKit Hp K Fl Rw Hm Ar Mm Me Qs Wk Pn
set_option maxRecDepth 100000
section
variable {w w':World} {M:Mo} {a:Gl} {G:Gr}
theorem bT.plain {n:Nat} (hB:Own w' a {G with nx:=n}) (hn:n≠4/\n≠5/\n≠7) (hR:gD w' a G.pass G.later (decide (n<=6))):bT w' a {G with nx:=n}:=
 ⟨hB,fun q=>absurd q hn.1,fun q=>absurd q hn.2.1,fun q=>absurd q hn.2.2,hR⟩
theorem BD {n:Nat} {G':Gr} (hn:n≠4/\n≠5/\n≠7) (h6:decide (n<=6)=true->decide (G.nx<=6)=true) {k:Nat} (x:Nat) (hx:bt a {G' with nx:=n} x):bt a G x\/k<=x:=by
 rcases hx with rfl | ⟨q,_⟩ | ⟨q,_⟩ | ⟨q,_⟩ | hx
 ·exact .inl (.inl rfl)
 ·simp only at q; omega
 ·simp only at q; omega
 ·simp only at q; omega
 ·refine .inl (.inr (.inr (.inr (.inr ?_))))
  rcases hx with ⟨h1,h2⟩ | hx
  ·exact .inl ⟨h1.imp id h6,h2⟩
  ·exact .inr hx
theorem gD.stop {p q:List (List (Nat×Nat))} {g:Bool} (h:gD w a p q g):gD w a p q false:=
 ⟨h.ps,h.qs,fun q=>by simp at q,h.pl,h.pc,h.qr,fun b hb q=>h.pq b hb (q.imp id (fun q=>by simp at q))⟩
set_option maxHeartbeats 2000000 in
theorem BE (hM:ah w M) (h:bT w a G) (h2:G.nx=2) (he:G.el.1<=65536) (hp:¬(FM.bo ((2*G.el.1:Nat):Int)=true/\M.xs.length+2*G.el.1<=1048576)):
 Calls Tryz.prog 151 #[ptr a.f,ptr M.m] w fun e w'=>e=.returned (.bool true)/\dI.ba w M a G (lm M) {G with num:= -1,err:=if FM.bo ((2*G.el.1:Nat):Int)=true then 2 else 5,nx:=9} w':=by
 obtain ⟨c,hc,jw,hT⟩:∃ c:Int,(c != 0)=true/\c=(if FM.bo ((2*G.el.1:Nat):Int)=true then 2 else 5)/\Calls Tryz.prog 46 #[ptr M.m,.int .i64 ((2*G.el.1:Nat):Int)] w fun e w'=>e=.returned (.tuple #[.int .i64 (-1),.int .i64 c])/\w=w':=by
  cases kY:FM.bo ((2*G.el.1:Nat):Int) with
  | true=>
    refine ⟨2,rfl,by simp,GF hM _ (by omega) (by omega) kY ?_⟩
    have:¬M.xs.length+2*G.el.1<=1048576:=fun q=>hp ⟨hpw,q⟩
    omega
  | false=>exact ⟨5,rfl,by simp,GG hM _ (by omega) (by omega) kY⟩
 rw [<-jw]
 have e2:((2*G.el.1:Nat):Int)=2*(G.el.1:Int):=by omega
 rw [e2] at hT
 replace hT:=Lib.hid hT
 have c3:=h.an.cell 3
 have c4:=h.an.cell 4
 have c8:=h.an.cell 8
 have z3:=h.an.frozen 3
 have z8:=h.an.frozen 8
 simp only [bM,List.getElem?_toArray,List.getElem?_cons_succ,List.getElem?_cons_zero] at c3 c4 c8
 have ag:Own ((w.setCell ⟨a.f,8,none⟩ (.int .i64 (-1))).setCell ⟨a.f,3,none⟩ (.int .i64 c)) a {G with num:= -1,err:=c}:=(h.an.store 8 (.int .i64 (-1))).store 3 (.int .i64 c)
 have ae:=Lib.hid (kr (c:=a.f) w 8 3 (.int .i64 (-1)) (.int .i64 c))
 have hE:=Lib.hid (GB ag)
 have HM:=Lib.hid hM
 have HG:=Lib.hid h
 replace h2:=Lib.hid h2
 clear hM h ag e2 hp jw
 go_enter Tryz.func151,Tryz.ntmps151
 go_wp2_with fail
 refine hT.out.mono ?_
 rintro e w1 ⟨rfl,hw⟩
 obtain rfl:w=w1:=hw
 clear hT
 go_wp2_with fail
 refine hE.out.mono ?_
 rintro e w2 ⟨rfl,ay,aq⟩
 have hO:=ae.out.trans aq
 have hS:Hid (dI.ba w M a G (lm M) {G with num:= -1,err:=c,nx:=9} w2):=Lib.hid (by
  refine oD HM.out (a':=a) (bT.plain (G:={G with num:= -1,err:=c}) ay (by omega) ?_) rfl (BD (G':={G with num:= -1,err:=c}) (by omega) (by simp)) HG.out hO (fun x q=>.inl q)
  exact (HG.out.cO.only hO (HG.out.cO.self HG.out.an)).stop)
 clear ay aq hO hE c3 c4 c8 z3 z8
 go_wp2_with fail
 go_ret
 exact ⟨rfl,hS.out⟩
theorem BF {n:Nat} {A' T':Option Addr} {cap' capT':Nat} {xs':List Int} {ds':List (Nat×Nat)} (hA:∀ x,In A' x->In M.A x\/w.heap.size<=x) (hT:∀ x,In T' x->In M.T x\/w.heap.size<=x):gm w M {M with A:=A',cap:=cap',xs:=xs',T:=T',capT:=capT',ds:=ds'}:=by
 refine ⟨rfl,rfl,rfl,rfl,?_⟩
 rintro x (q | q | q | q | q | q)
 ·exact .inl (.inl q)
 ·rcases q with q | q
  ·exact .inl (.inr (.inl (.inl q)))
  ·rcases hA x q with q | q
   ·exact .inl (.inr (.inl (.inr q)))
   ·exact .inr q
 ·exact .inl (.inr (.inr (.inl q)))
 ·exact .inl (.inr (.inr (.inr (.inl q))))
 ·rcases hT x q with q | q
  ·exact .inl (.inr (.inr (.inr (.inr (.inl q)))))
  ·exact .inr q
 ·exact .inl (.inr (.inr (.inr (.inr (.inr q)))))
set_option maxHeartbeats 2000000 in
theorem BG (hM:ah w M) (h:bT w a G) (h2:G.nx=2) (he:G.el.1<=65536) (aT:M.ds.length<=900000) (hp:FM.bo ((2*G.el.1:Nat):Int)=true) (hx:M.xs.length+2*G.el.1<=1048576):
 Calls Tryz.prog 151 #[ptr a.f,ptr M.m] w fun e w'=>e=.returned (.bool false)/\dI.ba w M a G {lm M with xs:=M.xs++List.replicate (2*G.el.1) 0,ds:=M.ds++[(2*G.el.1,M.xs.length)]} {G with num:=M.ds.length,err:=0,nw:=(2*G.el.1,M.xs.length),nx:=3} w':=by
 have hT:=BH hM (2*G.el.1) hp hx (by omega)
 have e2:((2*G.el.1:Nat):Int)=2*(G.el.1:Int):=by omega
 rw [e2] at hT
 replace hT:=Lib.hid hT
 have c4:=h.an.cell 4
 simp only [bM,List.getElem?_toArray,List.getElem?_cons_succ,List.getElem?_cons_zero] at c4
 have HM:=Lib.hid hM
 have HG:=Lib.hid h
 replace h2:=Lib.hid h2
 obtain ⟨dn,cq⟩:∃ n,n=M.ds.length:=⟨_,rfl⟩
 obtain ⟨xn,nU⟩:∃ n,n=M.xs.length:=⟨_,rfl⟩
 obtain ⟨n2,iM⟩:∃ n,n=2*G.el.1:=⟨_,rfl⟩
 rw [<-cq] at aT
 simp only [<-cq,<-nU,<-iM] at hT ⊢
 replace cq:=Lib.hid cq
 replace nU:=Lib.hid nU
 replace iM:=Lib.hid iM
 clear hM h hp hx e2
 go_enter Tryz.func151,Tryz.ntmps151
 go_wp2_with fail
 refine hT.out.mono ?_
 rintro e w1 ⟨rfl,A',cap',T',capT',av,aw,da,wT⟩
 have ak:=HG.out.only aw (fun x hx q=>HG.out.aA HM.out hx q)
 have d3:=ak.an.cell 3
 have d8:=ak.an.cell 8
 have y3:=ak.an.frozen 3
 have y8:=ak.an.frozen 8
 simp only [bM,List.getElem?_toArray,List.getElem?_cons_succ,List.getElem?_cons_zero] at d3 d8
 have ag:Own ((w1.setCell ⟨a.f,8,none⟩ (.int .i64 dn)).setCell ⟨a.f,3,none⟩ (.int .i64 0)) a {G with num:=dn,err:=0}:=(ak.an.store 8 (.int .i64 dn)).store 3 (.int .i64 0)
 have ae:=kr (c:=a.f) w1 8 3 (.int .i64 dn) (.int .i64 0)
 have dm:=ak.aA av (x:=a.f) (.inl rfl)
 have aB:=av.only ae (fun x hx e=>dm (e▸hx))
 have hD:=BI aB dn (by rw [cq.out]; simp)
 have wU:aM (M.ds++[(n2,M.xs.length)]) dn=(n2,xn):=by unfold aM; rw [cq.out,nU.out]; simp
 rw [wU] at hD
 unfold dv at hD
 replace hD:=Lib.hid hD
 have k8:=ag.cell 8
 have k3:=ag.cell 3
 simp only [bM,List.getElem?_toArray,List.getElem?_cons_succ,List.getElem?_cons_zero] at k3 k8
 replace ag:=Lib.hid ag
 replace ae:=Lib.hid ae
 replace aB:=Lib.hid aB
 replace aw:=Lib.hid aw
 replace dm:=Lib.hid dm
 have hK:=Lib.hid (BF (w:=w) (M:=M) (n:=0) (cap':=cap') (capT':=capT') (xs':=M.xs++List.replicate n2 0) (ds':=M.ds++[(n2,M.xs.length)]) da wT)
 clear hT c4 av da wT wU ak
 go_wp2_with fail
 refine hD.out.mono ?_
 rintro e w3 ⟨rfl,aZ⟩
 have ay:=ag.out.only (ab.aD aZ (fun _=>False)) (by simp)
 have p6:=ay.cell 6
 have p7:=ay.cell 7
 have q6:=ay.frozen 6
 have q7:=ay.frozen 7
 simp only [bM,List.getElem?_toArray,List.getElem?_cons_succ,List.getElem?_cons_zero] at p6 p7
 have az:Own ((w3.setCell ⟨a.f,6,none⟩ (.int .i64 n2)).setCell ⟨a.f,7,none⟩ (.int .i64 xn)) a {G with num:=dn,err:=0,nw:=(n2,xn)}:=(ay.store 6 (.int .i64 n2)).store 7 (.int .i64 xn)
 have aL:=kr (c:=a.f) w3 6 7 (.int .i64 n2) (.int .i64 xn)
 have sY:=(ab.aD aZ (·=a.f)).trans aL
 have lL:=Lib.hid (eg az (n:=3) (by omega) rfl)
 replace sY:=Lib.hid sY
 clear aZ ay az aL hD k3 k8 d3 d8 y3 y8
 go_wp2_with fail
 refine lL.out.mono ?_
 rintro e w5 ⟨rfl,bI,bJ⟩
 have sZ:=sY.out.trans bJ
 have uD:=ae.out.trans sZ
 have hS:Hid (dI.ba w M a G {lm M with xs:=M.xs++List.replicate n2 0,ds:=M.ds++[(n2,xn)]} {G with num:=dn,err:=0,nw:=(n2,xn),nx:=3} w5):=Lib.hid (by
  have DB:ab (fun x=>ao M x\/bt a G x) w w5:=(aw.out.mono (fun x _ q=>.inl q)).trans' uD (fun x _ q=>.inr (.inl q))
  refine ⟨_,a,aB.out.only sZ (fun x hx e=>dm.out (e▸hx)),by rw [nU.out],hK.out,bT.plain (G:={G with num:=dn,err:=0,nw:=(n2,xn)}) bI (by omega) ?_,rfl,BD (G':={G with num:=dn,err:=0,nw:=(n2,xn)}) (by omega) (fun _=>by rw [h2.out]; rfl),DB⟩
  ·have iy:=HG.out.cO.only aw.out (fun x hx q=>HG.out.aA HM.out (.inr (.inr (.inr (.inr hx)))) q)
   have:=iy.only uD (HG.out.cO.self HG.out.an)
   rw [h2.out] at this
   exact this)
 clear bI bJ uD sZ lL
 go_wp2_with fail
 go_ret
 exact ⟨rfl,hS.out⟩
end
end Go.Proofs.YtpanebgakndddaaGreat.Gw
namespace Go.Proofs.YtpanebgakndddaaGreat.Gw
open Go Go.RowKit Hp K Fl Rw Hm Ar Mm Me Qs Wk Pn
set_option maxRecDepth 100000
section
variable {w w':World} {M:Mo} {a:Gl} {G:Gr}
theorem Left.pg {w1:World} {a1:Gl} {G':Gr} (h:Left w1 a1 G' w') (hM:ah w M) (hG:bT w a G) (hf:a1.f=a.f) (iw:∀ x,km a1 x->bt a G x\/w.heap.size<=x) (hO:ab (bt a G) w w1):dI.ba w M a G (lm M) G' w':=by
 obtain ⟨a',pW,Dw,wV,qR⟩:=h
 have hs:=hO.size
 have fL:ab (bt a G) w w':=hO.trans' qR (fun x hx q=>by
  rcases iw x q with q | q
  ·exact q
  ·omega)
 refine oD hM pW (Dw.trans hf) (fun x hx=>?_) hG fL (fun x q=>q)
 rcases wV x hx with q | q
 ·exact iw x q
 ·exact .inr (Nat.le_trans hs q)
theorem jo.still (h:jo w a G) (ho:ab (fun _=>False) w w'):jo w' a G:=
 ⟨h.own.only ho (by simp),h.fy.only ho (by simp) (by simp) (by simp),h.rws.only ho (by simp),h.later,h.met,h.half,h.lk,h.pass,h.bucket,h.el⟩
set_option maxHeartbeats 2000000 in
theorem O3 (hM:ah w M) (h:bT w a G) (h3:G.nx=3) (hx:G.el.2+G.bucket<M.xs.length) (he:G.el.2<=4000000) (hl:G.later=[]) (hp:G.pass.length<=100000) (hb:G.bucket<=1000000) (hn:G.el.1<=1000000):
 Calls Tryz.prog 188 #[ptr a.f,ptr M.m] w fun e w'=>e=.returned (.bool false)/\dI.ba w M a G (lm M) (dg {G with C:=.new} (Cl.nth M.xs (G.el.2+G.bucket)).toNat) w':=by
 have hL:=fun w1 (av:ah w1 M)=>Cl.mL av.2.1 (G.el.2+G.bucket) hx
 have il:=Cl.eV hM.2.1.2.2.1 (G.el.2+G.bucket)
 obtain ⟨z,hz⟩:=Int.eq_ofNat_of_zero_le il.1
 rw [hz] at hL il ⊢
 rw [Int.toNat_natCast]
 have e2:((G.el.2+G.bucket:Nat):Int)=(G.el.2:Int)+(G.bucket:Int):=by omega
 rw [e2] at hL
 replace hL:=Lib.hid hL
 have dh:=Lib.hid (show z<=18446744073709551615 by omega)
 have hN:=Lib.hid (OM w)
 have HM:=Lib.hid hM
 have HG:=Lib.hid h
 replace h3:=Lib.hid h3
 replace hl:=Lib.hid hl
 clear hM h hz il e2 hx
 go_enter Tryz.func188,Tryz.ntmps188
 go_wp2_with fail
 refine hN.out.mono ?_
 rintro e w1 ⟨c,B,rfl,oL,aJ,JU,JV,ax⟩
 have ak:=HG.out.an.only (ab.aD ax (fun _=>False)) (by simp)
 have d10:=ak.cell 10
 have y10:=ak.frozen 10
 simp only [bM,List.getElem?_toArray,List.getElem?_cons_succ,List.getElem?_cons_zero] at d10
 have du:Own (w1.setCell ⟨a.f,10,none⟩ (ptr c)) {a with cv:=ptr c,c:=c,B:=B,LA:=none,lcap:=0} {G with C:=.new}:=ak.store 10 (ptr c)
 have ae:=(ab.refl (·=a.f) w1).setCell (p:=⟨a.f,10,none⟩) (.inl rfl) (ptr c)
 have JW:=HG.out.an.lt
 have qQ:jo (w1.setCell ⟨a.f,10,none⟩ (ptr c)) {a with cv:=ptr c,c:=c,B:=B,LA:=none,lcap:=0} {G with C:=.new}:=by
  refine ⟨hG2,⟨rfl,oL.only ae (by omega),aJ.only ae (by omega),Row.nil _ _ _ _,fun x _ b hb=>by simp [In] at hb⟩,?_,hl.out,by simp [Ch.new],by simp [Ch.new],by simp [Ch.new],hp,hb,hn⟩
  have h1:=(HG.out.cO.only (ab.aD ax (fun _=>False)) (by simp)).only ae (HG.out.cO.self HG.out.an)
  rw [h3.out] at h1
  exact ⟨h1.ps,h1.qs,h1.pr,h1.pl,h1.pc,h1.qr,h1.pq⟩
 have aB:=(HM.out.below ax).only ae (fun x hx e=>HG.out.aA HM.out (.inl rfl) (e▸hx))
 have hC:=Lib.hid (fun n=>vD (qQ.still ((ab.refl (fun _=>False) _).drewN n)) dh.out (by simp [Ch.new]))
 have hO:=Lib.hid ((ab.aD ax (bt a G)).trans' ae (fun x _ q=>.inl q))
 have g4:=du.cell 5
 have g9:=du.cell 9
 simp only [bM,List.getElem?_toArray,List.getElem?_cons_succ,List.getElem?_cons_zero] at g4 g9
 have pX:=aB.hd.1
 have iw:Hid (∀ x,km {a with cv:=ptr c,c:=c,B:=B,LA:=none,lcap:=0} x->bt a G x\/w.heap.size<=x):=Lib.hid (by
  rintro x (rfl | rfl | rfl | q | q)
  ·exact .inl (.inl rfl)
  ·exact .inr JV
  ·exact .inr JU
  ·simp [In] at q
  ·refine .inl (.inr (.inr (.inr (.inr ?_))))
   rw [h3.out]
   exact q)
 have fp:=Lib.hid (fun n=>hL.out _ (aB.drewN n))
 clear oL aJ JU JV ax ak du ae JW aB hN hL
 go_wp2_with fail
 go_quiet ((go_at_call 90; exact Calls.quiet_of_same ((fp.out _).mono fun _ _ h=>⟨h.1,h.2⟩)))
 clear fp pX g4 g9 d10 y10 qQ
 go_wp2_with fail
 refine (hC.out _).mono ?_
 rintro e w4 ⟨rfl,jY⟩
 have hS:=Lib.hid (jY.pg HM.out HG.out rfl iw.out (hO.out.drewN nq))
 clear jY hC
 go_wp2_with fail
 go_ret
 exact ⟨rfl,hS.out⟩
theorem jo.added (h:jo w a G) {x y:Nat} {LA:Option Addr} {lcap:Nat} (hM:dO w' {a with LA:=LA,lcap:=lcap} (G.C.add x y)) (hO:ab (fun x=>x=a.c\/x=a.B\/In a.LA x) w w') (hx:x≠0) (hl:G.C.lk.length<=99999) (hy:y<=1):jo w' {a with LA:=LA,lcap:=lcap} {G with C:=G.C.add x y}:=by
 have hq:a.qs=[]:=by
  have:=h.rws.qs.len
  rw [h.later] at this
  exact List.eq_nil_of_length_eq_zero this
 have hr:gD w' a G.pass G.later true:=by
  refine h.rws.only hO fun x hx hs=>?_
  rcases hs with rfl | rfl | q
  ·exact h.rws.chain h.fy.cb _ hx rfl
  ·exact h.fy.mt.no (h.rws.ty hx)
  ·rcases hx with ⟨_,hx⟩ | hx | ⟨e,he,hx⟩ | ⟨e,he,hx⟩
   ·exact (cp (h.rws.pr rfl) hx).apart (cp h.fy.lr q) (by decide)
   ·exact (cp h.rws.qr hx).apart (cp h.fy.lr q) (by decide)
   ·exact h.fy.ap e he x q hx
   ·rw [hq] at he
    simp at he
 refine ⟨Blk.only h.own hO fun hs=>?_,hM,⟨hr.ps,hr.qs,hr.pr,hr.pl,hr.pc,hr.qr,hr.pq⟩,h.later,?_,hy,?_,h.pass,h.bucket,h.el⟩
 ·rcases hs with q | q | q
  ·exact h.own.differ h.fy.cb (by decide) q
  ·exact h.fy.mt.no (by rw [<-q]; exact bj h.own)
  ·exact (cp h.fy.lr q).apart (bj h.own) (by decide)
 ·show 0∉x::G.C.met
  intro q
  rcases List.mem_cons.1 q with q | q
  ·exact hx q.symm
  ·exact h.met q
 ·show (Ch.add G.C x y).lk.length<=_
  unfold Ch.add
  simp only
  split
  ·omega
  split
  ·simp; omega
  ·omega
def BJ (w wx:World) (nd:Nd) (p e:Value):Prop:=
 ∃ b,p=ptr b/\e=.int .i64 0/\w.heap.size<=b/\af wx b 67 #[.string nd.key,.string nd.val,.int .u32 nd.sum,.int .u64 nd.next]/\Below w.heap.size w wx
structure BK (L:Lm) (G:Gr):Prop where
 live:aV L.ss G.at_ ((G.at_-1) % 65536)
 at_:G.at_<=18446744073709551615
 sum:0<=(ai L.ss ((G.at_-1) % 65536)).nd.sum/\(ai L.ss ((G.at_-1) % 65536)).nd.sum<4294967296
 next:0<=(ai L.ss ((G.at_-1) % 65536)).nd.next/\(ai L.ss ((G.at_-1) % 65536)).nd.next<=18446744073709551615
 fresh:(ai L.ss ((G.at_-1) % 65536)).nd.next.toNat∉G.at_::G.C.met
 hf:kR G (ai L.ss ((G.at_-1) % 65536)).nd.sum<=1
 n:1<=G.el.1/\G.el.1<=65536/\G.nw.1<=131072
 met:0∉G.C.met/\G.C.met.length<=100000
 half:G.C.half<=1
 lk:G.C.lk.length<=99999
 pass:G.pass.length<=100000
 later:G.later=[]
 bucket:G.bucket<=1000000
set_option maxHeartbeats 4000000 in
theorem BL (hM:ah w M) (h:bT w a G) (ok:BK (lm M) G) (h4:G.nx=4):
 Calls Tryz.prog 221 #[ptr a.f,ptr M.m] w fun e w'=>e=.returned (.bool false)/\dI.ba w M a G (lm M) (dg {G with C:=G.C.add G.at_ (kR G (ai M.ss ((G.at_-1) % 65536)).nd.sum)} (ai M.ss ((G.at_-1) % 65536)).nd.next.toNat) w':=by
 have hR:=Lib.hid (fun (w1:World) (ax:Below w.heap.size w w1)=>(xN (hM.below ax).2.2.2.1 ok.at_ ok.live).mono fun e w2 q=>show e=.returned (.tuple #[dU (ai M.ss ((G.at_-1) % 65536)).nd,.int .i64 0])/\(Below w.heap.size w w2/\Below w1.heap.size w1 w2) from
  ⟨q.1,ax.trans (q.2.mono ax.size),q.2⟩)
 have JX:=h.c4 h4
 obtain ⟨hok1,DC,wW,zC,DD,DE,zD,zE,zF,wX,DF,DG,DI⟩:=ok
 generalize bB:(ai M.ss ((G.at_-1) % 65536)).nd=nd at*
 have c11:=h.an.cell 11
 simp only [bM,List.getElem?_toArray,List.getElem?_cons_succ,List.getElem?_cons_zero] at c11
 have d2:=hM.hd.2.2.1
 have lM:=hM.1.lt
 have lG:=h.an.lt
 have HM:=Lib.hid hM
 have HG:=Lib.hid h
 have HMid:=Lib.hid JX
 have nm:=World.new_ne w ⟨M.m,2,none⟩ d2
 have nw:=World.new_ne w ⟨a.f,11,none⟩ c11
 unfold dU at hR
 replace JY:=Lib.hid JY
 replace wW:=Lib.hid wW
 replace zC:=Lib.hid zC
 replace DD:=Lib.hid DD
 replace DE:=Lib.hid DE
 replace zD:=Lib.hid zD
 replace zE:=Lib.hid zE
 replace zF:=Lib.hid zF
 replace wX:=Lib.hid wX
 replace DF:=Lib.hid DF
 replace DG:=Lib.hid DG
 replace DI:=Lib.hid DI
 replace h4:=Lib.hid h4
 replace bB:=Lib.hid bB
 replace DC:=Lib.hid DC
 clear hM h JX
 go_enter Tryz.func221,Tryz.ntmps221
 go_upto_region 1 with (fail)
 go_cut [5,6] (fun p e wx=>BJ w wx nd p e)
 case first=>
  go_region_held3 (fun w'=>w'.cell? ⟨M.m,2,none⟩=some (ptr M.ar)/\w'.cell? ⟨a.f,11,none⟩=some (.int .u64 G.at_)) (go_keep)
   (first
     | (go_at_call 156
        refine (hR.out w.drew ⟨rfl,rfl,rfl,Nat.le_refl _,fun _ _=>rfl⟩).mono ?_
        rintro e w2 ⟨rfl,au,_⟩
        have d2':=(au.cell (p:=⟨M.m,2,none⟩) lM).trans d2
        have c11':=(au.cell (p:=⟨a.f,11,none⟩) lG).trans c11
        have fK:=au.size
        replace au:=Lib.hid au)
     | (go_at_call 156
        refine (hR.out (w.alloc (.cells #[.string ⟨#[]⟩,.string ⟨#[]⟩,.int .u32 0,.int .u64 0] 67)).drew (((Below.refl w.heap.size w).alloc (Nat.le_refl _) _).trans ⟨rfl,rfl,rfl,by simp,fun _ _=>rfl⟩)).mono ?_
        rintro e w2 ⟨rfl,au,aZ⟩
        have ag:af w2 w.heap.size 67 #[.string ⟨#[]⟩,.string ⟨#[]⟩,.int .u32 0,.int .u64 0]:=af.only (w:=(w.alloc (.cells #[.string ⟨#[]⟩,.string ⟨#[]⟩,.int .u32 0,.int .u64 0] 67)).drew) (af.made w _ _) (ab.aD aZ (fun _=>False)) (by simp)
        have d2':=(au.cell (p:=⟨M.m,2,none⟩) lM).trans d2
        have c11':=(au.cell (p:=⟨a.f,11,none⟩) lG).trans c11
        have fK:=au.size
        have k0:=ag.cell 0
        have k1:=ag.cell 1
        have k2:=ag.cell 2
        have k3:=ag.cell 3
        simp at k0 k1 k2 k3
        have y0:=ag.frozen 0
        have y1:=ag.frozen 1
        have y2:=ag.frozen 2
        have y3:=ag.frozen 3
        replace au:=Lib.hid au
        replace ag:=Lib.hid ag))
  all_goals
   go_wp2_with fail
   go_meet
   first
    | exact ⟨_,rfl,rfl,fK,af.made w2 _ _,au.out.alloc fK _⟩
    | exact ⟨_,rfl,rfl,Nat.le_refl _,(((ag.out.store 0 _).store 1 _).store 2 _).store 3 _,(((au.out.setCell (p:=⟨w.heap.size,0,none⟩) (Nat.le_refl _) _).setCell (p:=⟨w.heap.size,1,none⟩) (Nat.le_refl _) _).setCell (p:=⟨w.heap.size,2,none⟩) (Nat.le_refl _) _).setCell (p:=⟨w.heap.size,3,none⟩) (Nat.le_refl _) _⟩
 case rest=>
  obtain ⟨b,rfl,rfl,cr,hB,ax⟩:=zx
  clear hR c11 d2 nm nw
  have ak:=HG.out.an.only (ab.aD ax (fun _=>False)) (by simp)
  have uE:dO wc a G.C:=HMid.out.only (ab.aD ax (fun _=>False)) (by simp) (by simp) (by simp)
  have wY:=HG.out.cO.only (ab.aD ax (fun _=>False)) (by simp)
  rw [h4.out] at wY
  have c4:=ak.cell 4
  have c6:=ak.cell 6
  have c10:=ak.cell 10
  have c11:=ak.cell 11
  have k2:=hB.cell 2
  have k3:=hB.cell 3
  simp only [bM,List.getElem?_toArray,List.getElem?_cons_succ,List.getElem?_cons_zero,uE.cv] at c4 c6 c10 c11 k2 k3
  obtain ⟨v,hv⟩:∃ v,v=FM.bucket nd.sum G.nw.1:=⟨_,rfl⟩
  have wZ:=qz nd.sum G.nw.1 wW.out.1
  have oT:=fun w'=>lX.yj nd.sum G.nw.1 w' wW.out.1 wW.out.2 (by omega) (by have:=zD.out; omega)
  rw [<-hv] at oT wZ
  replace oT:=Lib.hid oT
  have eT:=zD.out
  have hx:kR G nd.sum=(v / G.el.1).toNat:=by unfold kR; rw [hv]
  have um:0<=v / (G.el.1:Int):=Int.ediv_nonneg wZ.1 (by omega)
  obtain ⟨y,hy⟩:=Int.eq_ofNat_of_zero_le um
  have sC:kR G nd.sum=y:=by rw [hx,hy]; rfl
  have pM:y<=1:=by have:=DE.out; omega
  have Xe:v.tdiv (G.el.1:Int)=y:=by rw [Int.tdiv_eq_ediv_of_nonneg wZ.1]; exact hy
  have Dk:IntKind.i64.wrap (y:Int)=y:=IntWalk.i64_in _ (by omega)
  have sH:((G.el.1:Int)==0)=false:=by simp; omega
  have iM:¬(G.el.1=0):=by omega
  have bn:∀ e∈a.ps,∀ x,In e.A x->x<wc.heap.size:=fun e he x hx=>wY.lt (.inr (.inr (.inl ⟨e,he,hx⟩)))
  have hAdd:=Lib.hid (fun n=>OY (uE.only ((ab.refl (fun _=>False) wc).drewN n) (by simp) (by simp) (by simp)) (x:=G.at_) (y:=y) DC.out (by have:=zE.out; omega) pM zF.out (by have:=wX.out; omega) bn)
  obtain ⟨z,hz⟩:=Int.eq_ofNat_of_zero_le zC.out.1
  rw [hz] at hB k3
  have oU:=Lib.hid (show z<=18446744073709551615 by have:=zC.out; omega)
  have Vw:Hid (z∉(G.C.add G.at_ y).met):=Lib.hid (by
   have:=DD.out
   rw [hz,Int.toNat_natCast] at this
   exact this)
  have cP:Hid (G.at_≠0):=Lib.hid JY.out.pos
  have jw:=Lib.hid uE.cv
  have Vx:Hid (jo wc a G):=Lib.hid ⟨hG1,uE,wY,DG.out,zE.out.1,zF.out,by have:=wX.out; omega,DF.out,DI.out,by omega⟩
  have cE:=Lib.hid wX.out
  have ta:Hid (¬(b=a.c\/b=a.B\/In a.LA b)):=Lib.hid (by
   rintro (q | q | q)
   ·have:=HMid.out.cb.lt; omega
   ·have:=HMid.out.mt.lt; omega
   ·have:=HMid.out.lr.lt q; omega)
  have uF:Hid (nd.next.toNat=z):=Lib.hid (by rw [hz]; rfl)
  replace ak:=Lib.hid ak
  replace uE:=Lib.hid uE
  replace wY:=Lib.hid wY
  replace hB:=Lib.hid hB
  replace ax:=Lib.hid ax
  replace bn:=Lib.hid bn
  replace hv:=Lib.hid hv
  replace hx:=Lib.hid hx
  replace hy:=Lib.hid hy
  replace sC:=Lib.hid sC
  go_upto_region 5 with (fail)
  go_region_held3 (fun w'=>w'.cell? ⟨a.f,4,none⟩=some (.int .i64 G.el.1)/\w'.cell? ⟨a.f,6,none⟩=some (.int .i64 G.nw.1)/\w'.cell? ⟨a.f,10,none⟩=some (ptr a.c)/\w'.cell? ⟨a.f,11,none⟩=some (.int .u64 G.at_)/\w'.cell? ⟨b,2,none⟩=some (.int .u32 nd.sum)) (go_keep)
   (first
     | (go_at_call 201
        refine (oT.out _).mono ?_
        rintro e w3 ⟨rfl,dR⟩
        obtain rfl:=dR.symm)
     | (go_at_call 232
        refine (hAdd.out 1).mono ?_
        rintro e w4 ⟨rfl,LA,lcap,JZ,J0,aL⟩
        have uG:=(Vx.out.still ((ab.refl (fun _=>False) wc).drewN 1)).added (y:=y) JZ aL cP.out cE.out pM
        have J1:=ta.out
        have uH:af w4 b 67 #[.string nd.key,.string nd.val,.int .u32 nd.sum,.int .u64 z]:=(hB.out.only ((ab.refl (fun _=>False) wc).drewN 1) (by simp)).only aL J1
        have r4:=uG.own.cell 4
        have r6:=uG.own.cell 6
        have r10:=uG.own.cell 10
        have r11:=uG.own.cell 11
        have r2:=uH.cell 2
        have k3':=uH.cell 3
        simp only [bM,List.getElem?_toArray,List.getElem?_cons_succ,List.getElem?_cons_zero,jw.out] at r4 r6 r10 r11 r2 k3'
        have qU:=Lib.hid (vD uG oU.out Vw.out)
        have bz:ab (bt a G) w w4:=((ab.aD ax.out (bt a G)).drewN 1).trans' aL (fun x _ q=>by
         rcases q with q | q | q
         ·exact .inr (.inl ⟨.inl h4.out,q⟩)
         ·exact .inr (.inr (.inl ⟨h4.out,.inl q⟩))
         ·exact .inr (.inr (.inl ⟨h4.out,.inr q⟩)))
        have DJ:∀ x,km {a with LA:=LA,lcap:=lcap} x->bt a G x\/w.heap.size<=x:=by
         rintro x (q | q | q | q | q)
         ·exact .inl (.inl q)
         ·exact .inl (.inr (.inl ⟨.inl h4.out,q⟩))
         ·exact .inl (.inr (.inr (.inl ⟨h4.out,.inl q⟩)))
         ·rcases J0 x q with q | q
          ·exact .inl (.inr (.inr (.inl ⟨h4.out,.inr q⟩)))
          ·exact .inr (Nat.le_trans ax.out.size q)
         ·refine .inl (.inr (.inr (.inr (.inr ?_))))
          rw [h4.out]
          exact q
        replace bz:=Lib.hid bz
        replace DJ:=Lib.hid DJ
        clear JZ aL J0 uG uH J1 hAdd))
  go_wp2_with fail
  refine qU.out.mono ?_
  rintro e w5 ⟨rfl,jY⟩
  have hS:=Lib.hid (jY.pg HM.out HG.out rfl DJ.out bz.out)
  clear jY qU
  go_wp2_with fail
  go_ret
  exact ⟨rfl,by rw [sC.out,uF.out]; exact hS.out⟩
end
end Go.Proofs.YtpanebgakndddaaGreat.Gw
namespace Go.Proofs.YtpanebgakndddaaGreat.Gw
open Go Go.RowKit Hp K Fl Rw Hm Ar Mm Me Qs Wk Pn
set_option maxRecDepth 100000
section
variable {w w':World} {M:Mo} {a:Gl} {G:Gr}
theorem GH (h5:G.nx=5) {k:Nat} (x:Nat) (hx:bt a (bD {G with half:=G.half+1}) x):bt a G x\/k<=x:=by
 obtain ⟨e1,e2,e3,e4⟩:=tN {G with half:=G.half+1}
 rcases hx with rfl | ⟨_,rfl⟩ | ⟨q,_⟩ | ⟨q,_⟩ | hx
 ·exact .inl (.inl rfl)
 ·exact .inl (.inr (.inl ⟨.inr h5,rfl⟩))
 ·omega
 ·omega
 ·refine .inl (.inr (.inr (.inr (.inr ?_))))
  rw [show decide ((bD {G with half:=G.half+1}).nx<=6)=true by simp; omega] at hx
  rw [h5]
  exact hx
def BM (w:World) (M:Mo) (a:Gl) (G:Gr) (k x:Nat) (w':World):Prop:=ah w' {M with xs:=M.xs.set k (x:Int)}/\bT w' a G/\ab (ao M) w w'
theorem tO (hM:ah w M) (h:bT w a G) (k:Nat) (hk:k<M.xs.length) (x:Nat) (hx:x<=18446744073709551615) (w1:World) (h0:ab (fun _=>False) w w1):
 Calls Tryz.prog 45 #[ptr M.g,.int .i64 k,.int .u64 x] w1 fun e w'=>e=.returned (.int .i64 0)/\BM w M a G k x w':=
 (Cl.vc (hM.only h0 (by simp)).2.1 k hk (x:Int) (by omega) (by omega)).mono fun e w' q=>by
   have ho:ab (ao M) w w':=(h0.mono (fun x _ q=>q.elim)).trans' q.2.2 (fun x _ q=>.inr (.inl q))
   exact ⟨q.1,(hM.only h0 (by simp)).cells q.2.1 q.2.2,h.only ho (fun x hx q=>h.aA hM hx q),ho⟩
set_option maxHeartbeats 2000000 in
theorem O4 (hM:ah w M) (h:bT w a G) (h5:G.nx=5) (hh:G.half=0) (hx:G.nw.2+G.bucket<M.xs.length) (hf:G.C.fi.1<=18446744073709551615) (hb:G.bucket<=1000000) (hn:G.el.1<=1000000) (hw:G.nw.2<=4000000):
 Calls Tryz.prog 239 #[ptr a.f,ptr M.m] w fun e w'=>e=.returned (.bool false)/\dI.ba w M a G {lm M with xs:=M.xs.set (G.nw.2+G.bucket) ((G.C.fi.1:Nat):Int)} (bD {G with half:=1}) w':=by
 obtain ⟨hcv,hF⟩:=h.c5 h5
 have f0:=hF.hd.1
 have c4:=h.an.cell 4
 have c7:=h.an.cell 7
 have c9:=h.an.cell 9
 have c10:=h.an.cell 10
 have c12:=h.an.cell 12
 simp only [bM,List.getElem?_toArray,List.getElem?_cons_succ,List.getElem?_cons_zero,jw,hh] at c4 c7 c9 c10 c12
 have d0:=hM.hd.1
 have db:=tO hM h (G.nw.2+G.bucket) hx G.C.fi.1 hf
 have e1:((G.nw.2+G.bucket:Nat):Int)=(G.nw.2:Int)+(G.bucket:Int):=by omega
 rw [e1] at db
 replace db:=Lib.hid db
 have HM:=Lib.hid hM
 have HG:=Lib.hid h
 replace hF:=Lib.hid hF
 replace jw:=Lib.hid jw
 replace hh:=Lib.hid hh
 replace h5:=Lib.hid h5
 obtain ⟨fv,kI⟩:∃ v,v=G.C.fi.1:=⟨_,rfl⟩
 rw [<-kI] at db f0 ⊢
 replace kI:=Lib.hid kI
 have ew:IntKind.i64.wrap ((G.nw.2:Int)+(G.bucket:Int))=(G.nw.2:Int)+(G.bucket:Int):=IntWalk.i64_in _ (by omega)
 clear h hM hf hx e1
 go_enter Tryz.func239,Tryz.ntmps239
 go_wp2_with fail
 go_quiet (fail)
 have hq:=Lib.hid ((ab.refl (fun _=>False) w).drewN nq)
 have g0:(w.drewN nq).cell? ⟨a.c,0,none⟩=some (.int .u64 fv):=f0
 have g7:(w.drewN nq).cell? ⟨a.f,7,none⟩=some (.int .i64 G.nw.2):=c7
 have g10:(w.drewN nq).cell? ⟨a.f,10,none⟩=some (ptr a.c):=c10
 have g12:(w.drewN nq).cell? ⟨a.f,12,none⟩=some (.int .i64 0):=c12
 have g00:(w.drewN nq).cell? ⟨M.m,0,none⟩=some (ptr M.g):=d0
 clear f0 c4 c7 c9 c10 c12 d0
 generalize w.drewN nq=wq at*
 go_upto_region 2 with (fail)
 go_region_held3 (fun w'=>w'.cell? ⟨M.m,0,none⟩=some (ptr M.g)/\w'.cell? ⟨a.f,7,none⟩=some (.int .i64 G.nw.2)/\w'.cell? ⟨a.f,10,none⟩=some (ptr a.c)/\w'.cell? ⟨a.f,12,none⟩=some (.int .i64 0)/\w'.cell? ⟨a.c,0,none⟩=some (.int .u64 fv)) (go_keep)
  (first
    | (go_at_call 45
       refine (db.out (wq.drewN 1) (hq.out.drewN 1)).mono ?_
       rintro e w1 ⟨rfl,av,ak,bz⟩
       have p7:=ak.an.cell 7
       have p10:=ak.an.cell 10
       have p12:=ak.an.cell 12
       have y12:=ak.an.frozen 12
       have p0:=(ak.c5 h5.out).2.hd.1
       have p00:=av.hd.1
       simp only [bM,List.getElem?_toArray,List.getElem?_cons_succ,List.getElem?_cons_zero,jw.out,hh.out] at p7 p10 p12
       rw [<-kI.out] at p0
       replace av:=Lib.hid av
       replace ak:=Lib.hid ak
       replace bz:=Lib.hid bz
       clear db))
 have ag:Own (w1.setCell ⟨a.f,12,none⟩ (.int .i64 (1))) a {G with half:=1}:=ak.out.an.store 12 (.int .i64 (1))
 have ae:=(ab.refl (·=a.f) w1).setCell (p:=⟨a.f,12,none⟩) (.inl rfl) (.int .i64 (1))
 have aP:=(ak.out.c5 h5.out).2.only ae ((ak.out.c5 h5.out).2.ne ak.out.an)
 have hT:=Lib.hid (oC ag jw.out aP (by simp) hb hn)
 have dm:=Lib.hid (ak.out.aA av.out (x:=a.f) (.inl rfl))
 have aB:=Lib.hid (av.out.only ae (fun x hx e=>dm.out (e▸hx)))
 have im:=Lib.hid (ak.out.cO.self ak.out.an)
 have cB:=Lib.hid (ak.out.cO.only ae im.out)
 have aq:=Lib.hid ((bz.out.mono (fun x _ q=>(.inl q:ao M x\/bt a G x))).trans' ae (fun x _ q=>.inr (.inl q)))
 replace aP:=Lib.hid aP
 replace ag:=Lib.hid ag
 clear ae p7 p10 p0 p00
 go_wp2_with fail
 refine hT.out.mono ?_
 rintro e w3 ⟨rfl,ay,aL⟩
 have hE:Hid (dI.ba w M a G {lm M with xs:=M.xs.set (G.nw.2+G.bucket) (fv:Int)} (bD {G with half:=1}) w3):=Lib.hid (by
  rw [kI.out] at*
  obtain ⟨e1,e2,e3,e4⟩:=tN {G with half:=1}
  refine ⟨_,a,aB.out.only aL (fun x hx e=>dm.out (e▸hx)),rfl,⟨rfl,rfl,rfl,rfl,fun x q=>.inl q⟩,?_,rfl,?_,aq.out.trans' aL (fun x _ q=>.inr (.inl q))⟩
  ·refine ⟨hB3,fun q=>by omega,fun _=>⟨hcv.out,by rw [e1]; exact aP.out.only aL (aP.out.ne ag.out)⟩,fun q=>by omega,?_⟩
   rw [e2,e3,show decide ((bD {G with half:=1}).nx<=6)=true by simp; omega]
   have:=cB.out.only aL im.out
   rw [h5.out] at this
   exact this
  ·have:=@GH a G h5.out w.heap.size
   rw [hh.out] at this
   exact this)
 clear ay aL hT
 go_wp2_with fail
 go_ret
 exact ⟨rfl,hE.out⟩
set_option maxHeartbeats 2000000 in
theorem O5 (hM:ah w M) (h:bT w a G) (h5:G.nx=5) (hh:G.half=1) (hx:G.nw.2+(G.bucket+G.el.1)<M.xs.length) (hf:G.C.fi.2<=18446744073709551615) (hb:G.bucket<=1000000) (hn:G.el.1<=1000000) (hw:G.nw.2<=4000000):
 Calls Tryz.prog 239 #[ptr a.f,ptr M.m] w fun e w'=>e=.returned (.bool false)/\dI.ba w M a G {lm M with xs:=M.xs.set (G.nw.2+(G.bucket+G.el.1)) ((G.C.fi.2:Nat):Int)} (bD {G with half:=2}) w':=by
 obtain ⟨hcv,hF⟩:=h.c5 h5
 have f1:=hF.hd.2
 have c4:=h.an.cell 4
 have c7:=h.an.cell 7
 have c9:=h.an.cell 9
 have c10:=h.an.cell 10
 have c12:=h.an.cell 12
 simp only [bM,List.getElem?_toArray,List.getElem?_cons_succ,List.getElem?_cons_zero,jw,hh] at c4 c7 c9 c10 c12
 have d0:=hM.hd.1
 have db:=tO hM h (G.nw.2+(G.bucket+G.el.1)) hx G.C.fi.2 hf
 have e1:((G.nw.2+(G.bucket+G.el.1):Nat):Int)=(G.nw.2:Int)+((G.bucket:Int)+(G.el.1:Int)):=by omega
 rw [e1] at db
 replace db:=Lib.hid db
 have HM:=Lib.hid hM
 have HG:=Lib.hid h
 replace hF:=Lib.hid hF
 replace jw:=Lib.hid jw
 replace hh:=Lib.hid hh
 replace h5:=Lib.hid h5
 obtain ⟨fv,kI⟩:∃ v,v=G.C.fi.2:=⟨_,rfl⟩
 rw [<-kI] at db f1 ⊢
 replace kI:=Lib.hid kI
 have ew:IntKind.i64.wrap ((G.nw.2:Int)+((G.bucket:Int)+(G.el.1:Int)))=(G.nw.2:Int)+((G.bucket:Int)+(G.el.1:Int)):=IntWalk.i64_in _ (by omega)
 clear h hM hf hx e1
 go_enter Tryz.func239,Tryz.ntmps239
 go_wp2_with fail
 go_quiet (fail)
 have hq:=Lib.hid ((ab.refl (fun _=>False) w).drewN nq)
 have g0:(w.drewN nq).cell? ⟨a.c,1,none⟩=some (.int .u64 fv):=f1
 have g7:(w.drewN nq).cell? ⟨a.f,7,none⟩=some (.int .i64 G.nw.2):=c7
 have g10:(w.drewN nq).cell? ⟨a.f,10,none⟩=some (ptr a.c):=c10
 have g12:(w.drewN nq).cell? ⟨a.f,12,none⟩=some (.int .i64 1):=c12
 have g00:(w.drewN nq).cell? ⟨M.m,0,none⟩=some (ptr M.g):=d0
 clear f1 c4 c7 c9 c10 c12 d0
 generalize w.drewN nq=wq at*
 go_upto_region 2 with (fail)
 go_region_held3 (fun w'=>w'.cell? ⟨M.m,0,none⟩=some (ptr M.g)/\w'.cell? ⟨a.f,7,none⟩=some (.int .i64 G.nw.2)/\w'.cell? ⟨a.f,10,none⟩=some (ptr a.c)/\w'.cell? ⟨a.f,12,none⟩=some (.int .i64 1)/\w'.cell? ⟨a.c,1,none⟩=some (.int .u64 fv)) (go_keep)
  (first
    | (go_at_call 45
       refine (db.out (wq.drewN 1) (hq.out.drewN 1)).mono ?_
       rintro e w1 ⟨rfl,av,ak,bz⟩
       have p7:=ak.an.cell 7
       have p10:=ak.an.cell 10
       have p12:=ak.an.cell 12
       have y12:=ak.an.frozen 12
       have p0:=(ak.c5 h5.out).2.hd.2
       have p00:=av.hd.1
       simp only [bM,List.getElem?_toArray,List.getElem?_cons_succ,List.getElem?_cons_zero,jw.out,hh.out] at p7 p10 p12
       rw [<-kI.out] at p0
       replace av:=Lib.hid av
       replace ak:=Lib.hid ak
       replace bz:=Lib.hid bz
       clear db))
 have ag:Own (w1.setCell ⟨a.f,12,none⟩ (.int .i64 (2))) a {G with half:=2}:=ak.out.an.store 12 (.int .i64 (2))
 have ae:=(ab.refl (·=a.f) w1).setCell (p:=⟨a.f,12,none⟩) (.inl rfl) (.int .i64 (2))
 have aP:=(ak.out.c5 h5.out).2.only ae ((ak.out.c5 h5.out).2.ne ak.out.an)
 have hT:=Lib.hid (oC ag jw.out aP (by simp) hb hn)
 have dm:=Lib.hid (ak.out.aA av.out (x:=a.f) (.inl rfl))
 have aB:=Lib.hid (av.out.only ae (fun x hx e=>dm.out (e▸hx)))
 have im:=Lib.hid (ak.out.cO.self ak.out.an)
 have cB:=Lib.hid (ak.out.cO.only ae im.out)
 have aq:=Lib.hid ((bz.out.mono (fun x _ q=>(.inl q:ao M x\/bt a G x))).trans' ae (fun x _ q=>.inr (.inl q)))
 replace aP:=Lib.hid aP
 replace ag:=Lib.hid ag
 clear ae p7 p10 p0 p00
 go_wp2_with fail
 refine hT.out.mono ?_
 rintro e w3 ⟨rfl,ay,aL⟩
 have hE:Hid (dI.ba w M a G {lm M with xs:=M.xs.set (G.nw.2+(G.bucket+G.el.1)) (fv:Int)} (bD {G with half:=2}) w3):=Lib.hid (by
  rw [kI.out] at*
  obtain ⟨e1,e2,e3,e4⟩:=tN {G with half:=2}
  refine ⟨_,a,aB.out.only aL (fun x hx e=>dm.out (e▸hx)),rfl,⟨rfl,rfl,rfl,rfl,fun x q=>.inl q⟩,?_,rfl,?_,aq.out.trans' aL (fun x _ q=>.inr (.inl q))⟩
  ·refine ⟨hB3,fun q=>by omega,fun _=>⟨hcv.out,by rw [e1]; exact aP.out.only aL (aP.out.ne ag.out)⟩,fun q=>by omega,?_⟩
   rw [e2,e3,show decide ((bD {G with half:=2}).nx<=6)=true by simp; omega]
   have:=cB.out.only aL im.out
   rw [h5.out] at this
   exact this
  ·have:=@GH a G h5.out w.heap.size
   rw [hh.out] at this
   exact this)
 clear ay aL hT
 go_wp2_with fail
 go_ret
 exact ⟨rfl,hE.out⟩
theorem vG (hM:ah w M) (h:bT w a G) (h5:G.nx=5) (hh:G.half<=1) (hx:G.nw.2+(G.bucket+G.half*G.el.1)<M.xs.length) (hf:cA G.C.fi G.half<=18446744073709551615) (hb:G.bucket<=1000000) (hn:G.el.1<=1000000) (hw:G.nw.2<=4000000):
 Calls Tryz.prog 239 #[ptr a.f,ptr M.m] w fun e w'=>e=.returned (.bool false)/\dI.ba w M a G {lm M with xs:=M.xs.set (G.nw.2+(G.bucket+G.half*G.el.1)) ((cA G.C.fi G.half:Nat):Int)} (bD {G with half:=G.half+1}) w':=by
 rcases (show G.half=0\/G.half=1 by omega) with oV | oV
 ·rw [oV] at hx hf ⊢
  simp only [Nat.zero_mul,Nat.add_zero] at hx ⊢
  exact O4 hM h h5 oV hx hf hb hn hw
 ·rw [oV] at hx hf ⊢
  simp only [Nat.one_mul] at hx ⊢
  exact O5 hM h h5 oV hx hf hb hn hw
end
end Go.Proofs.YtpanebgakndddaaGreat.Gw
namespace Go.Proofs.YtpanebgakndddaaGreat.Gw
open Go Go.RowKit Hp K Fl Rw Hm Ar Mm Me Qs Wk Pn
set_option maxRecDepth 100000
section
variable {w w':World} {M:Mo} {a:Gl} {G:Gr}
theorem O6 {w1 w2:World} {a1:Gl} {G1:Gr} {b:Nat} (hB:Own w2 {a1 with wv:=ptr b,w:=b} {G1 with nx:=7}) (hW:cZ w2 b ⟨G1.worker,0,0,0⟩) (hR:gD w1 a1 G1.pass G1.later false) (hO:ab (·=a1.f) w1 w2) (hS:∀ x,fx a1 false x->x≠a1.f):bT w2 {a1 with wv:=ptr b,w:=b} (dZ G1):=by
 have cB:=hR.only hO hS
 exact ⟨hB,fun q=>by simp [dZ] at q,fun q=>by simp [dZ] at q,fun _=>⟨rfl,hW⟩,⟨hR2.ps,cB.qs,fun q=>by simp [dZ] at q,cB.pl,cB.pc,cB.qr,cB.pq⟩⟩
set_option maxHeartbeats 2000000 in
theorem BN (hM:ah w M) (h:bT w a G) (h6:G.nx=6) (hx:1<M.xs.length) (hn:0<=G.num/\G.num<=1000000):
 Calls Tryz.prog 240 #[ptr a.f,ptr M.m] w fun e w'=>e=.returned (.bool false)/\dI.ba w M a G {lm M with xs:=M.xs.set 1 G.num} (dZ G) w':=by
 obtain ⟨z,hz⟩:=Int.eq_ofNat_of_zero_le hn.1
 have c8:=h.an.cell 8
 simp only [bM,List.getElem?_toArray,List.getElem?_cons_succ,List.getElem?_cons_zero] at c8
 have db:=tO hM h 1 hx z (by omega)
 rw [hz] at c8 ⊢
 have ez:IntKind.u64.wrap (z:Int)=z:=by rw [IntKind.wrap_u64]; omega
 have d0:=hM.hd.1
 replace db:=Lib.hid db
 have HM:=Lib.hid hM
 have HG:=Lib.hid h
 replace hz:=Lib.hid hz
 replace h6:=Lib.hid h6
 clear h hM hn
 go_enter Tryz.func240,Tryz.ntmps240
 go_wp2_with fail
 go_region_held3 (fun w'=>w'.cell? ⟨M.m,0,none⟩=some (ptr M.g)/\w'.cell? ⟨a.f,8,none⟩=some (.int .i64 z)) (go_keep)
  (first
    | (go_at_call 45
       refine (db.out (w.drewN 1) ((ab.refl (fun _=>False) w).drewN 1)).mono ?_
       rintro e w1 ⟨rfl,av,ak,bz⟩
       have p8:=ak.an.cell 8
       have p00:=av.hd.1
       simp only [bM,List.getElem?_toArray,List.getElem?_cons_succ,List.getElem?_cons_zero,hz.out] at p8
       have lN:=Lib.hid (vE ak.an)
       replace av:=Lib.hid av
       replace ak:=Lib.hid ak
       replace bz:=Lib.hid bz
       clear db))
 clear p8 p00
 go_wp2_with fail
 refine lN.out.mono ?_
 rintro e w2 ⟨b,rfl,ag,eR,fT,ae⟩
 have hE:Hid (dI.ba w M a G {lm M with xs:=M.xs.set 1 (z:Int)} (dZ G) w2):=Lib.hid (by
  have hR:=ak.out.cO.stop
  have im:=ak.out.cO.self ak.out.an
  refine ⟨_,{a with wv:=ptr b,w:=b},av.out.only ae (fun x hx e=>ak.out.aA av.out (x:=a.f) (.inl rfl) (e▸hx)),rfl,⟨rfl,rfl,rfl,rfl,fun x q=>.inl q⟩,O6 ag eR hR ae (fun x hx=>im x (by
   rcases hx with ⟨q,hx⟩ | hx
   ·exact .inl ⟨.inl (q.resolve_right (by simp)),hx⟩
   ·exact .inr hx)),rfl,fun x hx=>?_,(bz.out.mono (fun x _ q=>(.inl q:ao M x\/bt a G x))).trans' ae (fun x _ q=>.inr (.inl q))⟩
  have hs:=bz.out.size
  rcases hx with rfl | ⟨q,_⟩ | ⟨q,_⟩ | ⟨_,rfl⟩ | hx
  ·exact .inl (.inl rfl)
  ·simp [dZ] at q
  ·simp [dZ] at q
  ·exact .inr (Nat.le_trans hs fT)
  ·refine .inl (.inr (.inr (.inr (.inr ?_))))
   rcases hx with ⟨q,hx⟩ | hx
   ·exact .inl ⟨.inl (q.resolve_right (by simp [dZ])),hx⟩
   ·exact .inr hx)
 clear ag eR fT ae lN
 go_wp2_with fail
 go_ret
 exact ⟨rfl,hE.out⟩
theorem bT.waited {M':Mo} {W':Wt} (h:bT w a G) (hM:ah w M) (h7:G.nx=7) (hW:cZ w' a.w W') (ho:ab (fun x=>ao M x\/x=a.w) w w'):bT w' a {G with W:=W'}:=by
 have hw:=h.wt h7
 refine ⟨h.an.only ho ?_,fun q=>by simp only at q; omega,fun q=>by simp only at q; omega,fun _=>⟨hw.1,hW⟩,h.cO.only ho fun x hx q=>?_⟩
 ·rintro (q | q)
  ·exact h.aA hM (.inl rfl) q
  ·exact h.an.differ hw.2 (by decide) q
 ·rcases q with q | rfl
  ·exact h.aA hM (.inr (.inr (.inr (.inr hx)))) q
  ·exact (h.cO.ty hx).apart (bj hw.2) (by decide)
set_option maxHeartbeats 2000000 in
theorem O7 {n:Nat} (hM:ah w M) (h:bT w a G) (h7:G.nx=7) (hn:M.k=n) (ok:ey n M.xs M.hs G.W) (hr:fO M.xs M.hs G.W=true):
 Calls Tryz.prog 244 #[ptr a.f,ptr M.m] w fun e w'=>e=.returned (.bool (decide (G.W.at_=3/\G.pass=[])))/\
  dI.ba w M a G {lm M with xs:=(aI n M.xs M.hs G.W).1,hs:=(aI n M.xs M.hs G.W).2.1} {G with W:=(aI n M.xs M.hs G.W).2.2,nx:=if G.W.at_=3 then (if G.pass=[] then 9 else 8) else 7} w':=by
 obtain ⟨hwv,hW⟩:=h.wt h7
 have hS:=(yw hM hW hn ok hr).mono fun e w1 q=>
  show e=.returned (.bool (decide (G.W.at_=3)))/\ah w1 {M with xs:=(aI n M.xs M.hs G.W).1,hs:=(aI n M.xs M.hs G.W).2.1}/\bT w1 a {G with W:=(aI n M.xs M.hs G.W).2.2}/\ab (fun x=>ao M x\/bt a G x) w w1 from
   ⟨q.1,q.2.1,h.waited (M':=M) hM h7 q.2.2.1 q.2.2.2,q.2.2.2.mono (fun x _ y=>y.imp id (fun e=>.inr (.inr (.inr (.inl ⟨h7,e⟩)))))⟩
 have c13:=h.an.cell 13
 simp only [bM,List.getElem?_toArray,List.getElem?_cons_succ,List.getElem?_cons_zero,DK] at c13
 generalize (aI n M.xs M.hs G.W).1=xs' at*
 generalize (aI n M.xs M.hs G.W).2.1=hs' at*
 generalize (aI n M.xs M.hs G.W).2.2=W' at*
 have ft:=h.cO.ps.len
 have HM:=Lib.hid hM
 have HG:=Lib.hid h
 replace h7:=Lib.hid h7
 have iL:Hid (∀ w1 w2 n2,ah w1 {M with xs:=xs',hs:=hs'}->bT w1 a {G with W:=W'}->ab (fun x=>ao M x\/bt a G x) w w1->n2=8\/n2=9->Own w2 a {G with W:=W',nx:=n2}->ab (·=a.f) w1 w2->dI.ba w M a G {lm M with xs:=xs',hs:=hs'} {G with W:=W',nx:=n2} w2):=Lib.hid (by
  intro w1 w2 n2 av ak aw iM ag ae
  have hR:=(ak.cO.only ae (ak.cO.self ak.an)).stop
  refine ⟨_,a,av.only ae (fun x hx e=>ak.aA av (x:=a.f) (.inl rfl) (e▸hx)),rfl,⟨rfl,rfl,rfl,rfl,fun x q=>.inl q⟩,⟨hB2,fun q=>by simp only at q; omega,fun q=>by simp only at q; omega,fun q=>by simp only at q; omega,?_⟩,rfl,BD (G':={G with W:=W'}) (by omega) (fun q=>by simp at q; omega),aw.trans' ae (fun x _ q=>.inr (.inl q))⟩
  show gD w2 a G.pass G.later (decide (n2<=6))
  rw [show decide (n2<=6)=false by simp; omega]
  exact hR)
 by_cases h3:G.W.at_=3
 ·rw [show decide (G.W.at_=3)=true by simp [h3]] at hS
  replace hS:=Lib.hid hS
  rw [if_pos h3]
  by_cases hp:G.pass=[]
  ·rw [if_pos hp,show decide (G.W.at_=3/\G.pass=[])=true by simp [h3,hp]]
   rw [hp] at ft
   replace ft:=Lib.hid ft
   clear h hM ok hr hn h3 hp hW DK
   go_enter Tryz.func244,Tryz.ntmps244
   go_wp2_with fail
   refine hS.out.mono ?_
   rintro e w1 ⟨rfl,av,ak,aw⟩
   have p14:=ak.an.cell 14
   simp only [bM,List.getElem?_toArray,List.getElem?_cons_succ,List.getElem?_cons_zero,ft.out,List.length_nil] at p14
   have hF:=Lib.hid (GB ak.an)
   replace av:=Lib.hid av
   replace ak:=Lib.hid ak
   replace aw:=Lib.hid aw
   clear hS c13
   go_wp2_with fail
   refine hF.out.mono ?_
   rintro e w2 ⟨rfl,ag,ae⟩
   have hE:=Lib.hid (iL.out w1 w2 9 av.out ak.out aw.out (.inr rfl) ag ae)
   clear ag ae hF p14
   go_wp2_with fail
   go_ret
   exact ⟨rfl,hE.out⟩
  ·rw [if_neg hp,show decide (G.W.at_=3/\G.pass=[])=false by simp [hp]]
   have nV:0<a.ps.length:=by rw [ft]; exact List.length_pos_iff.2 hp
   have eD:=h.cO.pc
   simp only [maxLen] at eD
   generalize eQ:a.ps.length=m at*
   replace eQ:=Lib.hid eQ
   have q0:((m:Int)==0)=false:=by simp; omega
   clear h hM ok hr hn h3 hp hW DK ft
   go_enter Tryz.func244,Tryz.ntmps244
   go_wp2_with fail
   refine hS.out.mono ?_
   rintro e w1 ⟨rfl,av,ak,aw⟩
   have p14:=ak.an.cell 14
   simp only [bM,List.getElem?_toArray,List.getElem?_cons_succ,List.getElem?_cons_zero,eQ.out] at p14
   have hF:=Lib.hid (eg ak.an (n:=8) (by omega) rfl)
   replace av:=Lib.hid av
   replace ak:=Lib.hid ak
   replace aw:=Lib.hid aw
   clear hS c13
   go_wp2_with fail
   refine hF.out.mono ?_
   rintro e w2 ⟨rfl,ag,ae⟩
   have hE:=Lib.hid (iL.out w1 w2 8 av.out ak.out aw.out (.inl rfl) ag ae)
   clear ag ae hF p14
   go_wp2_with fail
   go_ret
   exact ⟨rfl,hE.out⟩
 ·rw [show decide (G.W.at_=3)=false by simp [h3]] at hS
  rw [if_neg h3,show decide (G.W.at_=3/\G.pass=[])=false by simp [h3]]
  replace hS:=Lib.hid hS
  clear h hM ok hr hn h3 hW DK ft iL
  go_enter Tryz.func244,Tryz.ntmps244
  go_wp2_with fail
  refine hS.out.mono ?_
  rintro e w1 ⟨rfl,av,ak,aw⟩
  have e7:Hid ({G with W:=W',nx:=7}=({G with W:=W'}:Gr)):=Lib.hid (by rw [<-h7.out])
  have hE:Hid (dI.ba w M a G {lm M with xs:=xs',hs:=hs'} {G with W:=W',nx:=7} w1):=Lib.hid (by
   rw [e7.out]
   exact ⟨_,a,av,rfl,⟨rfl,rfl,rfl,rfl,fun x q=>.inl q⟩,ak,rfl,fun x q=>.inl q,aw⟩)
  clear av ak aw hS c13
  go_wp2_with fail
  go_ret
  exact ⟨rfl,hE.out⟩
end
end Go.Proofs.YtpanebgakndddaaGreat.Gw
