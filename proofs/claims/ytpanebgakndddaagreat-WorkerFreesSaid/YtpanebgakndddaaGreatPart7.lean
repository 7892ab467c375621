/- Walks and plain mathematics, put together in their order: GroG, GroH, GroI, GroJ, GroK. -/
import Derived.Test.YtpanebgakndddaaGreatPart6
import Derived.Deep.DeepCutAuto
set_option linter.unusedVariables false
set_option linter.unusedSimpArgs false
namespace Go.Proofs.YtpanebgakndddaaGreat.Gw
open Go Go.RowKit Hp K Fl Rw Hm Ar Mm Me Qs Wk Pn
set_option maxRecDepth 100000
section
variable {w w':World} {M:Mo} {a:Gl} {G:Gr}
set_option maxHeartbeats 2000000 in
theorem vL (h:jw w a G) {x:Nat} (hx:x<=18446744073709551615) (hm:x∉G.C.met):Calls Tryz.prog 207 #[ptr a.f,.int .u64 x] w fun e w'=>e=.returned (.tuple #[])/\Left w a (dg G x) w':=by
 have c10:=h.own.cell 10
 have c11:=h.own.cell 11
 have z11:=h.own.frozen 11
 simp only [bM,List.getElem?_toArray,List.getElem?_cons_succ,List.getElem?_cons_zero,h.fA.cv] at c10 c11
 unfold dg
 by_cases h0:x=0
 ·subst h0
  rw [if_pos rfl]
  have hE:=Lib.hid (Pf h)
  clear h c10 c11 z11
  go_enter Tryz.func207,Tryz.ntmps207
  go_wp2_with fail
  refine hE.out.mono ?_
  rintro e w1 ⟨rfl,hL⟩
  replace hL:=Lib.hid hL
  go_wp2_with fail
  exact bodyPost_ret (v:=.tuple #[]) (by simp [results,Tryz.results207]) rfl ⟨rfl,hL.out⟩
 ·rw [if_neg h0]
  have xa:=OY h.fA hx
  rw [show decide (x∈G.C.met)=false by simpa using hm] at xa
  replace xa:=Lib.hid xa
  have q0:((x:Int)==0)=false:=by simp; omega
  have aJ:Own (w.setCell ⟨a.f,11,none⟩ (.int .u64 x)) a {G with at_:=x}:=af.store h.own 11 (.int .u64 x)
  have aw:=(ab.refl (·=a.f) w).setCell (p:=⟨a.f,11,none⟩) (.inl rfl) (.int .u64 x)
  have hG:=Lib.hid (ej aJ (n:=4) (by omega) rfl)
  have H:=Lib.hid h
  replace aw:=Lib.hid aw
  clear h aJ h0
  go_enter Tryz.func207,Tryz.ntmps207
  go_wp2_with fail
  refine xa.out.mono ?_
  rintro e w1 ⟨rfl,hw⟩
  obtain rfl:w=w1:=hw
  clear xa
  go_wp2_with fail
  refine hG.out.mono ?_
  rintro e w2 ⟨rfl,ag,ae⟩
  have hO:=aw.out.trans ae
  have hd:∀ x,kv a x->x≠a.f->¬x=a.f:=fun x _ q=>q
  have hL:Left w a {G with at_:=x,nx:=4} w2:=by
   refine ⟨a,⟨ag,fun _=>H.out.fA.only hO (fun e=>H.out.own.differ H.out.fA.cb (by decide) e.symm) (fun e=>H.out.fA.mt.no (by rw [e]; exact aV H.out.own)) (fun b hb e=>(b9 H.out.fA.lr hb).apart (e▸aV H.out.own:Ty w b [200]) (by decide)),fun q=>by simp at q,fun q=>by simp at q,
    H.out.rws.only hO (H.out.rws.self H.out.own)⟩,rfl,fun x hx=>?_,hO.mono (fun x _ q=>.inl q)⟩
   rcases hx with rfl | ⟨_,rfl⟩ | ⟨_,hx | hx⟩ | ⟨q,_⟩ | hx
   ·exact .inl (.inl rfl)
   ·exact .inl (.inr (.inl rfl))
   ·exact .inl (.inr (.inr (.inl hx)))
   ·exact .inl (.inr (.inr (.inr (.inl hx))))
   ·simp at q
   ·exact .inl (sg hx)
  replace hL:=Lib.hid hL
  clear ag ae hO hG c10 c11 z11 q0 hd
  go_wp2_with fail
  go_end0
  exact ⟨rfl,hL.out⟩
set_option maxHeartbeats 2000000 in
theorem vM (h:Own w a G):Calls Tryz.prog 243 #[ptr a.f] w fun e w'=>∃ b,e=.returned (.tuple #[])/\Own w' {a with wv:=ptr b,w:=b} {G with nx:=7}/\cZ w' b ⟨G.worker,0,0,0⟩/\w.heap.size<=b/\ab (·=a.f) w w':=by
 have c0:=h.cell 0
 have c1:=h.cell 1
 have c2:=h.cell 2
 have c13:=h.cell 13
 simp only [bM,List.getElem?_toArray,List.getElem?_cons_succ,List.getElem?_cons_zero] at c0 c1 c2 c13
 have hS:=Lib.hid (yD G.worker w)
 have H:=Lib.hid h
 clear h
 go_enter Tryz.func243,Tryz.ntmps243
 go_wp2_with fail
 refine hS.out.mono ?_
 rintro e w1 ⟨rfl,jD,aJ⟩
 obtain ⟨b,hb⟩:∃ b,b=w.heap.size:=⟨_,rfl⟩
 rw [<-hb] at jD ⊢
 have aw:=ab.aD aJ (·=a.f)
 have da:Own w1 a G:=H.out.only (ab.aD aJ (fun _=>False)) (by simp)
 have d1:=da.cell 1
 have d2:=da.cell 2
 have d13:=da.cell 13
 have y1:=da.frozen 1
 have y2:=da.frozen 2
 have y13:=da.frozen 13
 simp only [bM,List.getElem?_toArray,List.getElem?_cons_succ,List.getElem?_cons_zero] at d1 d2 d13
 have hE:Hid (Own (((w1.setCell ⟨a.f,13,none⟩ (ptr b)).setCell ⟨a.f,1,none⟩ (aT 56 (ptr b))).setCell ⟨a.f,2,none⟩ (aT 244 (ptr a.f))) {a with wv:=ptr b,w:=b} {G with nx:=7}):=Lib.hid (by
  have:=((da.store 13 (ptr b)).store 1 (aT 56 (ptr b))).store 2 (aT 244 (ptr a.f))
  exact this)
 have ae:=pE (c:=a.f) w1 13 1 2 (ptr b) (aT 56 (ptr b)) (aT 244 (ptr a.f))
 have aq:=Lib.hid (aw.trans ae)
 have aH:b≠a.f:=fun e=>by have:=H.out.lt; omega
 have eU:=Lib.hid (jD.only ae aH)
 generalize tS a G.nx=u1 at*
 generalize jW a.f G.nx=u2 at*
 generalize a.wv=u13 at*
 replace hb:=Lib.hid hb
 clear c0 c1 c2 c13 hS jD aJ aw da ae aH
 go_wp2_with fail
 go_end0
 exact ⟨b,rfl,hE.out,eU.out,Nat.le_of_eq hb.out.symm,aq.out⟩
theorem oI {S:Nat->Prop} {a':Gl} {G':Gr} (hM:ah w M) (hG:bT w' a' G') (hf:a'.f=a.f) (iC:∀ x,bu a' G' x->bu a G x\/w.heap.size<=x) (h:bT w a G) (hO:ab S w w') (hS:∀ x,S x->bu a G x):dJ.bf w M a G (lm M) G' w':=
 ⟨M,a',hM.only hO (fun x hx hs=>h.aA hM (hS x hs) hx),rfl,gn.refl _ _,hG,hf,iC,hO.mono (fun x _ q=>.inr (hS x q))⟩
set_option maxHeartbeats 2000000 in
theorem vN (hM:ah w M) (h:bT w a G) (hx:1<M.xs.length) (h1:G.nx=1):Calls Tryz.prog 114 #[ptr a.f,ptr M.m] w fun e w'=>e=.returned (.bool false)/\dJ.bf w M a G (aF (lm M) G).1 (aF (lm M) G).2 w':=by
 have hN:=Lib.hid (py hM hx)
 unfold aF
 rw [if_pos h1]
 show Calls _ _ _ _ fun e w'=>_/\dJ.bf w M a G (lm M) {G with el:=now M.xs M.ds,nx:=2} w'
 generalize now M.xs M.ds=d at*
 unfold dv at hN
 have HM:=Lib.hid hM
 have HG:=Lib.hid h
 clear hM h
 go_enter Tryz.func114,Tryz.ntmps114
 go_wp2_with fail
 refine hN.out.mono ?_
 rintro e w1 ⟨rfl,aJ⟩
 have ak:=HG.out.below aJ
 have c4:=ak.an.cell 4
 have c5:=ak.an.cell 5
 have z4:=ak.an.frozen 4
 have z5:=ak.an.frozen 5
 simp only [bM,List.getElem?_toArray,List.getElem?_cons_succ,List.getElem?_cons_zero] at c4 c5
 have ag:Own ((w1.setCell ⟨a.f,4,none⟩ (.int .i64 d.1)).setCell ⟨a.f,5,none⟩ (.int .i64 d.2)) a {G with el:=d}:=(ak.an.store 4 (.int .i64 d.1)).store 5 (.int .i64 d.2)
 have ae:=kz (c:=a.f) w1 4 5 (.int .i64 d.1) (.int .i64 d.2)
 have lN:=Lib.hid (ej ag (n:=2) (by omega) rfl)
 have aq:=Lib.hid ((ab.aD aJ (·=a.f)).trans ae)
 clear ag ae hN aJ
 replace ak:=Lib.hid ak
 go_wp2_with fail
 refine lN.out.mono ?_
 rintro e w3 ⟨rfl,ay,aM⟩
 have hO:=aq.out.trans aM
 have hE:Hid (dJ.bf w M a G (lm M) {G with el:=d,nx:=2} w3):=Lib.hid (by
  refine oI HM.out (a':=a) ⟨ay,fun q=>by simp at q,fun q=>by simp at q,fun q=>by simp at q,?_⟩ rfl (fun x hx=>?_) HG.out hO (fun x q=>.inl q)
  ·have:=HG.out.cP.only hO (HG.out.cP.self HG.out.an)
   rw [h1] at this
   exact this
  ·rcases hx with rfl | ⟨q,_⟩ | ⟨q,_⟩ | ⟨q,_⟩ | hx
   ·exact .inl (.inl rfl)
   ·simp at q
   ·simp at q
   ·simp at q
   ·refine .inl (.inr (.inr (.inr (.inr ?_))))
    rw [h1]
    exact hx)
 clear ay aM hO lN c4 c5 z4 z5
 go_wp2_with fail
 go_ret
 exact ⟨rfl,hE.out⟩
end
end Go.Proofs.YtpanebgakndddaaGreat.Gw
namespace Go.Proofs.YtpanebgakndddaaGreat.Gw
open Go Go.RowKit Hp K Fl Rw Hm Ar Mm Me Qs Wk Pn
set_option maxRecDepth 100000
section
variable {w w':World} {M:Mo} {a:Gl} {G:Gr}
theorem bT.plain {n:Nat} (hB:Own w' a {G with nx:=n}) (hn:n≠4/\n≠5/\n≠7) (hR:gE w' a G.pass G.later (decide (n<=6))):bT w' a {G with nx:=n}:=
 ⟨hB,fun q=>absurd q hn.1,fun q=>absurd q hn.2.1,fun q=>absurd q hn.2.2,hR⟩
theorem BN {n:Nat} {G':Gr} (hn:n≠4/\n≠5/\n≠7) (h6:decide (n<=6)=true->decide (G.nx<=6)=true) {k:Nat} (x:Nat) (hx:bu a {G' with nx:=n} x):bu a G x\/k<=x:=by
 rcases hx with rfl | ⟨q,_⟩ | ⟨q,_⟩ | ⟨q,_⟩ | hx
 ·exact .inl (.inl rfl)
 ·simp only at q; omega
 ·simp only at q; omega
 ·simp only at q; omega
 ·refine .inl (.inr (.inr (.inr (.inr ?_))))
  rcases hx with ⟨h1,h2⟩ | hx
  ·exact .inl ⟨h1.imp id h6,h2⟩
  ·exact .inr hx
theorem gE.stop {p q:List (List (Nat×Nat))} {g:Bool} (h:gE w a p q g):gE w a p q false:=
 ⟨h.ps,h.qs,fun q=>by simp at q,h.pl,h.pc,h.qr,fun b hb q=>h.pq b hb (q.imp id (fun q=>by simp at q))⟩
set_option maxHeartbeats 2000000 in
theorem BO (hM:ah w M) (h:bT w a G) (h2:G.nx=2) (he:G.el.1<=65536) (hp:¬(FM.bo ((2*G.el.1:Nat):Int)=true/\M.xs.length+2*G.el.1<=1048576)):
 Calls Tryz.prog 151 #[ptr a.f,ptr M.m] w fun e w'=>e=.returned (.bool true)/\dJ.bf w M a G (lm M) {G with num:= -1,err:=if FM.bo ((2*G.el.1:Nat):Int)=true then 2 else 5,nx:=9} w':=by
 obtain ⟨c,hc,ib,hT⟩:∃ c:Int,(c != 0)=true/\c=(if FM.bo ((2*G.el.1:Nat):Int)=true then 2 else 5)/\Calls Tryz.prog 46 #[ptr M.m,.int .i64 ((2*G.el.1:Nat):Int)] w fun e w'=>e=.returned (.tuple #[.int .i64 (-1),.int .i64 c])/\w=w':=by
  cases jy:FM.bo ((2*G.el.1:Nat):Int) with
  | true=>
    refine ⟨2,rfl,by simp,GQ hM _ (by omega) (by omega) jy ?_⟩
    have:¬M.xs.length+2*G.el.1<=1048576:=fun q=>hp ⟨jy,q⟩
    omega
  | false=>exact ⟨5,rfl,by simp,GR hM _ (by omega) (by omega) jy⟩
 rw [<-ib]
 have e2:((2*G.el.1:Nat):Int)=2*(G.el.1:Int):=by omega
 rw [e2] at hT
 replace hT:=Lib.hid hT
 have c3:=h.an.cell 3
 have c4:=h.an.cell 4
 have c8:=h.an.cell 8
 have z3:=h.an.frozen 3
 have z8:=h.an.frozen 8
 simp only [bM,List.getElem?_toArray,List.getElem?_cons_succ,List.getElem?_cons_zero] at c3 c4 c8
 have ag:Own ((w.setCell ⟨a.f,8,none⟩ (.int .i64 (-1))).setCell ⟨a.f,3,none⟩ (.int .i64 c)) a {G with num:= -1,err:=c}:=(h.an.store 8 (.int .i64 (-1))).store 3 (.int .i64 c)
 have ae:=Lib.hid (kz (c:=a.f) w 8 3 (.int .i64 (-1)) (.int .i64 c))
 have hE:=Lib.hid (GN ag)
 have HM:=Lib.hid hM
 have HG:=Lib.hid h
 replace h2:=Lib.hid h2
 clear hM h ag e2 hp ib
 go_enter Tryz.func151,Tryz.ntmps151
 go_wp2_with fail
 refine hT.out.mono ?_
 rintro e w1 ⟨rfl,hw⟩
 obtain rfl:w=w1:=hw
 clear hT
 go_wp2_with fail
 refine hE.out.mono ?_
 rintro e w2 ⟨rfl,ay,aq⟩
 have hO:=ae.out.trans aq
 have hS:Hid (dJ.bf w M a G (lm M) {G with num:= -1,err:=c,nx:=9} w2):=Lib.hid (by
  refine oI HM.out (a':=a) (bT.plain (G:={G with num:= -1,err:=c}) ay (by omega) ?_) rfl (BN (G':={G with num:= -1,err:=c}) (by omega) (by simp)) HG.out hO (fun x q=>.inl q)
  exact (HG.out.cP.only hO (HG.out.cP.self HG.out.an)).stop)
 clear ay aq hO hE c3 c4 c8 z3 z8
 go_wp2_with fail
 go_ret
 exact ⟨rfl,hS.out⟩
theorem BP {n:Nat} {A' T':Option Addr} {cap' capT':Nat} {xs':List Int} {ds':List (Nat×Nat)} (hA:∀ x,In A' x->In M.A x\/w.heap.size<=x) (hT:∀ x,In T' x->In M.T x\/w.heap.size<=x):gn w M {M with A:=A',cap:=cap',xs:=xs',T:=T',capT:=capT',ds:=ds'}:=by
 refine ⟨rfl,rfl,rfl,rfl,?_⟩
 rintro x (q | q | q | q | q | q)
 ·exact .inl (.inl q)
 ·rcases q with q | q
  ·exact .inl (.inr (.inl (.inl q)))
  ·rcases hA x q with q | q
   ·exact .inl (.inr (.inl (.inr q)))
   ·exact .inr q
 ·exact .inl (.inr (.inr (.inl q)))
 ·exact .inl (.inr (.inr (.inr (.inl q))))
 ·rcases hT x q with q | q
  ·exact .inl (.inr (.inr (.inr (.inr (.inl q)))))
  ·exact .inr q
 ·exact .inl (.inr (.inr (.inr (.inr (.inr q)))))
set_option maxHeartbeats 2000000 in
theorem BQ (hM:ah w M) (h:bT w a G) (h2:G.nx=2) (he:G.el.1<=65536) (aL:M.ds.length<=900000) (hp:FM.bo ((2*G.el.1:Nat):Int)=true) (hx:M.xs.length+2*G.el.1<=1048576):
 Calls Tryz.prog 151 #[ptr a.f,ptr M.m] w fun e w'=>e=.returned (.bool false)/\dJ.bf w M a G {lm M with xs:=M.xs++List.replicate (2*G.el.1) 0,ds:=M.ds++[(2*G.el.1,M.xs.length)]} {G with num:=M.ds.length,err:=0,nw:=(2*G.el.1,M.xs.length),nx:=3} w':=by
 have hT:=BR hM (2*G.el.1) hp hx (by omega)
 have e2:((2*G.el.1:Nat):Int)=2*(G.el.1:Int):=by omega
 rw [e2] at hT
 replace hT:=Lib.hid hT
 have c4:=h.an.cell 4
 simp only [bM,List.getElem?_toArray,List.getElem?_cons_succ,List.getElem?_cons_zero] at c4
 have HM:=Lib.hid hM
 have HG:=Lib.hid h
 replace h2:=Lib.hid h2
 obtain ⟨dn,ct⟩:∃ n,n=M.ds.length:=⟨_,rfl⟩
 obtain ⟨xn,nX⟩:∃ n,n=M.xs.length:=⟨_,rfl⟩
 obtain ⟨n2,iS⟩:∃ n,n=2*G.el.1:=⟨_,rfl⟩
 rw [<-ct] at aL
 simp only [<-ct,<-nX,<-iS] at hT ⊢
 replace ct:=Lib.hid ct
 replace nX:=Lib.hid nX
 replace iS:=Lib.hid iS
 clear hM h hp hx e2
 go_enter Tryz.func151,Tryz.ntmps151
 go_wp2_with fail
 refine hT.out.mono ?_
 rintro e w1 ⟨rfl,A',cap',T',capT',av,aw,da,xc⟩
 have ak:=HG.out.only aw (fun x hx q=>HG.out.aA HM.out hx q)
 have d3:=ak.an.cell 3
 have d8:=ak.an.cell 8
 have y3:=ak.an.frozen 3
 have y8:=ak.an.frozen 8
 simp only [bM,List.getElem?_toArray,List.getElem?_cons_succ,List.getElem?_cons_zero] at d3 d8
 have ag:Own ((w1.setCell ⟨a.f,8,none⟩ (.int .i64 dn)).setCell ⟨a.f,3,none⟩ (.int .i64 0)) a {G with num:=dn,err:=0}:=(ak.an.store 8 (.int .i64 dn)).store 3 (.int .i64 0)
 have ae:=kz (c:=a.f) w1 8 3 (.int .i64 dn) (.int .i64 0)
 have dp:=ak.aA av (x:=a.f) (.inl rfl)
 have aB:=av.only ae (fun x hx e=>dp (e▸hx))
 have hD:=BS aB dn (by rw [ct.out]; simp)
 have xd:aN (M.ds++[(n2,M.xs.length)]) dn=(n2,xn):=by unfold aN; rw [ct.out,nX.out]; simp
 rw [xd] at hD
 unfold dv at hD
 replace hD:=Lib.hid hD
 have k8:=ag.cell 8
 have k3:=ag.cell 3
 simp only [bM,List.getElem?_toArray,List.getElem?_cons_succ,List.getElem?_cons_zero] at k3 k8
 replace ag:=Lib.hid ag
 replace ae:=Lib.hid ae
 replace aB:=Lib.hid aB
 replace aw:=Lib.hid aw
 replace dp:=Lib.hid dp
 have hK:=Lib.hid (BP (w:=w) (M:=M) (n:=0) (cap':=cap') (capT':=capT') (xs':=M.xs++List.replicate n2 0) (ds':=M.ds++[(n2,M.xs.length)]) da xc)
 clear hT c4 av da xc xd ak
 go_wp2_with fail
 refine hD.out.mono ?_
 rintro e w3 ⟨rfl,ba⟩
 have ay:=ag.out.only (ab.aD ba (fun _=>False)) (by simp)
 have p6:=ay.cell 6
 have p7:=ay.cell 7
 have q6:=ay.frozen 6
 have q7:=ay.frozen 7
 simp only [bM,List.getElem?_toArray,List.getElem?_cons_succ,List.getElem?_cons_zero] at p6 p7
 have az:Own ((w3.setCell ⟨a.f,6,none⟩ (.int .i64 n2)).setCell ⟨a.f,7,none⟩ (.int .i64 xn)) a {G with num:=dn,err:=0,nw:=(n2,xn)}:=(ay.store 6 (.int .i64 n2)).store 7 (.int .i64 xn)
 have aM:=kz (c:=a.f) w3 6 7 (.int .i64 n2) (.int .i64 xn)
 have te:=(ab.aD ba (·=a.f)).trans aM
 have lN:=Lib.hid (ej az (n:=3) (by omega) rfl)
 replace te:=Lib.hid te
 clear ba ay az aM hD k3 k8 d3 d8 y3 y8
 go_wp2_with fail
 refine lN.out.mono ?_
 rintro e w5 ⟨rfl,bI,bJ⟩
 have tf:=te.out.trans bJ
 have uI:=ae.out.trans tf
 have hS:Hid (dJ.bf w M a G {lm M with xs:=M.xs++List.replicate n2 0,ds:=M.ds++[(n2,xn)]} {G with num:=dn,err:=0,nw:=(n2,xn),nx:=3} w5):=Lib.hid (by
  have DO:ab (fun x=>ao M x\/bu a G x) w w5:=(aw.out.mono (fun x _ q=>.inl q)).trans' uI (fun x _ q=>.inr (.inl q))
  refine ⟨_,a,aB.out.only tf (fun x hx e=>dp.out (e▸hx)),by rw [nX.out],hK.out,bT.plain (G:={G with num:=dn,err:=0,nw:=(n2,xn)}) bI (by omega) ?_,rfl,BN (G':={G with num:=dn,err:=0,nw:=(n2,xn)}) (by omega) (fun _=>by rw [h2.out]; rfl),DO⟩
  ·have iD:=HG.out.cP.only aw.out (fun x hx q=>HG.out.aA HM.out (.inr (.inr (.inr (.inr hx)))) q)
   have:=iD.only uI (HG.out.cP.self HG.out.an)
   rw [h2.out] at this
   exact this)
 clear bI bJ uI tf lN
 go_wp2_with fail
 go_ret
 exact ⟨rfl,hS.out⟩
end
end Go.Proofs.YtpanebgakndddaaGreat.Gw
namespace Go.Proofs.YtpanebgakndddaaGreat.Gw
open Go Go.RowKit Hp K Fl Rw Hm Ar Mm Me Qs Wk Pn
set_option maxRecDepth 100000
section
variable {w w':World} {M:Mo} {a:Gl} {G:Gr}
theorem Left.px {w1:World} {a1:Gl} {G':Gr} (h:Left w1 a1 G' w') (hM:ah w M) (hG:bT w a G) (hf:a1.f=a.f) (iC:∀ x,kv a1 x->bu a G x\/w.heap.size<=x) (hO:ab (bu a G) w w1):dJ.bf w M a G (lm M) G' w':=by
 obtain ⟨a',qc,DK,xf,qW⟩:=h
 have hs:=hO.size
 have fN:ab (bu a G) w w':=hO.trans' qW (fun x hx q=>by
  rcases iC x q with q | q
  ·exact q
  ·omega)
 refine oI hM qc (DK.trans hf) (fun x hx=>?_) hG fN (fun x q=>q)
 rcases xf x hx with q | q
 ·exact iC x q
 ·exact .inr (Nat.le_trans hs q)
theorem jw.still (h:jw w a G) (ho:ab (fun _=>False) w w'):jw w' a G:=
 ⟨h.own.only ho (by simp),h.fA.only ho (by simp) (by simp) (by simp),h.rws.only ho (by simp),h.later,h.met,h.half,h.lk,h.pass,h.bucket,h.el⟩
set_option maxHeartbeats 2000000 in
theorem Pg (hM:ah w M) (h:bT w a G) (h3:G.nx=3) (hx:G.el.2+G.bucket<M.xs.length) (he:G.el.2<=4000000) (hl:G.later=[]) (hp:G.pass.length<=100000) (hb:G.bucket<=1000000) (hn:G.el.1<=1000000):
 Calls Tryz.prog 188 #[ptr a.f,ptr M.m] w fun e w'=>e=.returned (.bool false)/\dJ.bf w M a G (lm M) (dg {G with C:=.new} (Cl.nth M.xs (G.el.2+G.bucket)).toNat) w':=by
 have hL:=fun w1 (av:ah w1 M)=>Cl.mM av.2.1 (G.el.2+G.bucket) hx
 have iy:=Cl.eX hM.2.1.2.2.1 (G.el.2+G.bucket)
 obtain ⟨z,hz⟩:=Int.eq_ofNat_of_zero_le iy.1
 rw [hz] at hL iy ⊢
 rw [Int.toNat_natCast]
 have e2:((G.el.2+G.bucket:Nat):Int)=(G.el.2:Int)+(G.bucket:Int):=by omega
 rw [e2] at hL
 replace hL:=Lib.hid hL
 have dh:=Lib.hid (show z<=18446744073709551615 by omega)
 have hN:=Lib.hid (OX w)
 have HM:=Lib.hid hM
 have HG:=Lib.hid h
 replace h3:=Lib.hid h3
 replace hl:=Lib.hid hl
 clear hM h hz iy e2 hx
 go_enter Tryz.func188,Tryz.ntmps188
 go_wp2_with fail
 refine hN.out.mono ?_
 rintro e w1 ⟨c,B,rfl,nM,aJ,J5,J6,ax⟩
 have ak:=HG.out.an.only (ab.aD ax (fun _=>False)) (by simp)
 have d10:=ak.cell 10
 have y10:=ak.frozen 10
 simp only [bM,List.getElem?_toArray,List.getElem?_cons_succ,List.getElem?_cons_zero] at d10
 have dm:Own (w1.setCell ⟨a.f,10,none⟩ (ptr c)) {a with cv:=ptr c,c:=c,B:=B,LA:=none,lcap:=0} {G with C:=.new}:=ak.store 10 (ptr c)
 have ae:=(ab.refl (·=a.f) w1).setCell (p:=⟨a.f,10,none⟩) (.inl rfl) (ptr c)
 have J7:=HG.out.an.lt
 have qV:jw (w1.setCell ⟨a.f,10,none⟩ (ptr c)) {a with cv:=ptr c,c:=c,B:=B,LA:=none,lcap:=0} {G with C:=.new}:=by
  refine ⟨dm,⟨rfl,nM.only ae (by omega),aJ.only ae (by omega),Row.nil _ _ _ _,fun x _ b hb=>by simp [In] at hb⟩,?_,hl.out,by simp [Ch.new],by simp [Ch.new],by simp [Ch.new],hp,hb,hn⟩
  have h1:=(HG.out.cP.only (ab.aD ax (fun _=>False)) (by simp)).only ae (HG.out.cP.self HG.out.an)
  rw [h3.out] at h1
  exact ⟨h1.ps,h1.qs,h1.pr,h1.pl,h1.pc,h1.qr,h1.pq⟩
 have aB:=(HM.out.below ax).only ae (fun x hx e=>HG.out.aA HM.out (.inl rfl) (e▸hx))
 have hC:=Lib.hid (fun n=>vL (qV.still ((ab.refl (fun _=>False) _).drewN n)) dh.out (by simp [Ch.new]))
 have hO:=Lib.hid ((ab.aD ax (bu a G)).trans' ae (fun x _ q=>.inl q))
 have g4:=dm.cell 5
 have g9:=dm.cell 9
 simp only [bM,List.getElem?_toArray,List.getElem?_cons_succ,List.getElem?_cons_zero] at g4 g9
 have qe:=aB.hd.1
 have iC:Hid (∀ x,kv {a with cv:=ptr c,c:=c,B:=B,LA:=none,lcap:=0} x->bu a G x\/w.heap.size<=x):=Lib.hid (by
  rintro x (rfl | rfl | rfl | q | q)
  ·exact .inl (.inl rfl)
  ·exact .inr J6
  ·exact .inr J5
  ·simp [In] at q
  ·refine .inl (.inr (.inr (.inr (.inr ?_))))
   rw [h3.out]
   exact q)
 have fu:=Lib.hid (fun n=>hL.out _ (aB.drewN n))
 clear nM aJ J5 J6 ax ak dm ae J7 aB hN hL
 go_wp2_with fail
 go_quiet ((go_at_call 90; exact Calls.quiet_of_same ((fu.out _).mono fun _ _ h=>⟨h.1,h.2⟩)))
 clear fu qe g4 g9 d10 y10 qV
 go_wp2_with fail
 refine (hC.out _).mono ?_
 rintro e w4 ⟨rfl,j8⟩
 have hS:=Lib.hid (j8.px HM.out HG.out rfl iC.out (hO.out.drewN nq))
 clear j8 hC
 go_wp2_with fail
 go_ret
 exact ⟨rfl,hS.out⟩
theorem jw.added (h:jw w a G) {x y:Nat} {LA:Option Addr} {lcap:Nat} (hM:dQ w' {a with LA:=LA,lcap:=lcap} (G.C.add x y)) (hO:ab (fun x=>x=a.c\/x=a.B\/In a.LA x) w w') (hx:x≠0) (hl:G.C.lk.length<=99999) (hy:y<=1):jw w' {a with LA:=LA,lcap:=lcap} {G with C:=G.C.add x y}:=by
 have hq:a.qs=[]:=by
  have:=h.rws.qs.len
  rw [h.later] at this
  exact List.eq_nil_of_length_eq_zero this
 have hr:gE w' a G.pass G.later true:=by
  refine h.rws.only hO fun x hx hs=>?_
  rcases hs with rfl | rfl | q
  ·exact h.rws.chain h.fA.cb _ hx rfl
  ·exact h.fA.mt.no (h.rws.ty hx)
  ·rcases hx with ⟨_,hx⟩ | hx | ⟨e,he,hx⟩ | ⟨e,he,hx⟩
   ·exact (b9 (h.rws.pr rfl) hx).apart (b9 h.fA.lr q) (by decide)
   ·exact (b9 h.rws.qr hx).apart (b9 h.fA.lr q) (by decide)
   ·exact h.fA.ap e he x q hx
   ·rw [hq] at he
    simp at he
 refine ⟨af.only h.own hO fun hs=>?_,hM,⟨hr.ps,hr.qs,hr.pr,hr.pl,hr.pc,hr.qr,hr.pq⟩,h.later,?_,hy,?_,h.pass,h.bucket,h.el⟩
 ·rcases hs with q | q | q
  ·exact h.own.differ h.fA.cb (by decide) q
  ·exact h.fA.mt.no (by rw [<-q]; exact aV h.own)
  ·exact (b9 h.fA.lr q).apart (aV h.own) (by decide)
 ·show 0∉x::G.C.met
  intro q
  rcases List.mem_cons.1 q with q | q
  ·exact hx q.symm
  ·exact h.met q
 ·show (Ch.add G.C x y).lk.length<=_
  unfold Ch.add
  simp only
  split
  ·omega
  split
  ·simp; omega
  ·omega
def BT (w wx:World) (nd:Nd) (p e:Value):Prop:=
 ∃ b,p=ptr b/\e=.int .i64 0/\w.heap.size<=b/\af wx b 67 #[.string nd.key,.string nd.val,.int .u32 nd.sum,.int .u64 nd.next]/\Below w.heap.size w wx
structure BU (L:Lm) (G:Gr):Prop where
 live:aY L.ss G.at_ ((G.at_-1) % 65536)
 at_:G.at_<=18446744073709551615
 sum:0<=(ai L.ss ((G.at_-1) % 65536)).nd.sum/\(ai L.ss ((G.at_-1) % 65536)).nd.sum<4294967296
 next:0<=(ai L.ss ((G.at_-1) % 65536)).nd.next/\(ai L.ss ((G.at_-1) % 65536)).nd.next<=18446744073709551615
 fresh:(ai L.ss ((G.at_-1) % 65536)).nd.next.toNat∉G.at_::G.C.met
 hf:kV G (ai L.ss ((G.at_-1) % 65536)).nd.sum<=1
 n:1<=G.el.1/\G.el.1<=65536/\G.nw.1<=131072
 met:0∉G.C.met/\G.C.met.length<=100000
 half:G.C.half<=1
 lk:G.C.lk.length<=99999
 pass:G.pass.length<=100000
 later:G.later=[]
 bucket:G.bucket<=1000000
set_option maxHeartbeats 4000000 in
theorem BV (hM:ah w M) (h:bT w a G) (ok:BU (lm M) G) (h4:G.nx=4):
 Calls Tryz.prog 221 #[ptr a.f,ptr M.m] w fun e w'=>e=.returned (.bool false)/\dJ.bf w M a G (lm M) (dg {G with C:=G.C.add G.at_ (kV G (ai M.ss ((G.at_-1) % 65536)).nd.sum)} (ai M.ss ((G.at_-1) % 65536)).nd.next.toNat) w':=by
 have hR:=Lib.hid (fun (w1:World) (ax:Below w.heap.size w w1)=>(xW (hM.below ax).2.2.2.1 ok.at_ ok.live).mono fun e w2 q=>show e=.returned (.tuple #[dV (ai M.ss ((G.at_-1) % 65536)).nd,.int .i64 0])/\(Below w.heap.size w w2/\Below w1.heap.size w1 w2) from
  ⟨q.1,ax.trans (q.2.mono ax.size),q.2⟩)
 have J8:=h.c4 h4
 obtain ⟨DP,DQ,xg,zJ,DR,DT,zK,zL,zM,xi,DU,DV,DW⟩:=ok
 generalize bB:(ai M.ss ((G.at_-1) % 65536)).nd=nd at*
 have c11:=h.an.cell 11
 simp only [bM,List.getElem?_toArray,List.getElem?_cons_succ,List.getElem?_cons_zero] at c11
 have d2:=hM.hd.2.2.1
 have lM:=hM.1.lt
 have lG:=h.an.lt
 have HM:=Lib.hid hM
 have HG:=Lib.hid h
 have HMid:=Lib.hid J8
 have nm:=World.new_ne w ⟨M.m,2,none⟩ d2
 have nw:=World.new_ne w ⟨a.f,11,none⟩ c11
 unfold dV at hR
 replace DP:=Lib.hid DP
 replace xg:=Lib.hid xg
 replace zJ:=Lib.hid zJ
 replace DR:=Lib.hid DR
 replace DT:=Lib.hid DT
 replace zK:=Lib.hid zK
 replace zL:=Lib.hid zL
 replace zM:=Lib.hid zM
 replace xi:=Lib.hid xi
 replace DU:=Lib.hid DU
 replace DV:=Lib.hid DV
 replace DW:=Lib.hid DW
 replace h4:=Lib.hid h4
 replace bB:=Lib.hid bB
 replace DQ:=Lib.hid DQ
 clear hM h J8
 go_enter Tryz.func221,Tryz.ntmps221
 go_upto_region 1 with (fail)
 go_cut [5,6] (fun p e wx=>BT w wx nd p e)
 case first=>
  go_region_held3 (fun w'=>w'.cell? ⟨M.m,2,none⟩=some (ptr M.ar)/\w'.cell? ⟨a.f,11,none⟩=some (.int .u64 G.at_)) (go_keep)
   (first
     | (go_at_call 156
        refine (hR.out w.drew ⟨rfl,rfl,rfl,Nat.le_refl _,fun _ _=>rfl⟩).mono ?_
        rintro e w2 ⟨rfl,au,_⟩
        have d2':=(au.cell (p:=⟨M.m,2,none⟩) lM).trans d2
        have c11':=(au.cell (p:=⟨a.f,11,none⟩) lG).trans c11
        have fM:=au.size
        replace au:=Lib.hid au)
     | (go_at_call 156
        refine (hR.out (w.alloc (.cells #[.string ⟨#[]⟩,.string ⟨#[]⟩,.int .u32 0,.int .u64 0] 67)).drew (((Below.refl w.heap.size w).alloc (Nat.le_refl _) _).trans ⟨rfl,rfl,rfl,by simp,fun _ _=>rfl⟩)).mono ?_
        rintro e w2 ⟨rfl,au,ba⟩
        have ag:af w2 w.heap.size 67 #[.string ⟨#[]⟩,.string ⟨#[]⟩,.int .u32 0,.int .u64 0]:=af.only (w:=(w.alloc (.cells #[.string ⟨#[]⟩,.string ⟨#[]⟩,.int .u32 0,.int .u64 0] 67)).drew) (af.made w _ _) (ab.aD ba (fun _=>False)) (by simp)
        have d2':=(au.cell (p:=⟨M.m,2,none⟩) lM).trans d2
        have c11':=(au.cell (p:=⟨a.f,11,none⟩) lG).trans c11
        have fM:=au.size
        have k0:=ag.cell 0
        have k1:=ag.cell 1
        have k2:=ag.cell 2
        have k3:=ag.cell 3
        simp at k0 k1 k2 k3
        have y0:=ag.frozen 0
        have y1:=ag.frozen 1
        have y2:=ag.frozen 2
        have y3:=ag.frozen 3
        replace au:=Lib.hid au
        replace ag:=Lib.hid ag))
  all_goals
   go_wp2_with fail
   go_meet
   first
    | exact ⟨_,rfl,rfl,fM,af.made w2 _ _,au.out.alloc fM _⟩
    | exact ⟨_,rfl,rfl,Nat.le_refl _,(((ag.out.store 0 _).store 1 _).store 2 _).store 3 _,(((au.out.setCell (p:=⟨w.heap.size,0,none⟩) (Nat.le_refl _) _).setCell (p:=⟨w.heap.size,1,none⟩) (Nat.le_refl _) _).setCell (p:=⟨w.heap.size,2,none⟩) (Nat.le_refl _) _).setCell (p:=⟨w.heap.size,3,none⟩) (Nat.le_refl _) _⟩
 case rest=>
  obtain ⟨b,rfl,rfl,bV,hB,ax⟩:=hcut
  clear hR c11 d2 nm nw
  have ak:=HG.out.an.only (ab.aD ax (fun _=>False)) (by simp)
  have uJ:dQ wc a G.C:=HMid.out.only (ab.aD ax (fun _=>False)) (by simp) (by simp) (by simp)
  have xj:=HG.out.cP.only (ab.aD ax (fun _=>False)) (by simp)
  rw [h4.out] at xj
  have c4:=ak.cell 4
  have c6:=ak.cell 6
  have c10:=ak.cell 10
  have c11:=ak.cell 11
  have k2:=hB.cell 2
  have k3:=hB.cell 3
  simp only [bM,List.getElem?_toArray,List.getElem?_cons_succ,List.getElem?_cons_zero,uJ.cv] at c4 c6 c10 c11 k2 k3
  obtain ⟨v,hv⟩:∃ v,v=FM.bucket nd.sum G.nw.1:=⟨_,rfl⟩
  have xk:=qD nd.sum G.nw.1 xg.out.1
  have oX:=fun w'=>lZ.yt nd.sum G.nw.1 w' xg.out.1 xg.out.2 (by omega) (by have:=zK.out; omega)
  rw [<-hv] at oX xk
  replace oX:=Lib.hid oX
  have eV:=zK.out
  have hx:kV G nd.sum=(v / G.el.1).toNat:=by unfold kV; rw [hv]
  have uv:0<=v / (G.el.1:Int):=Int.ediv_nonneg xk.1 (by omega)
  obtain ⟨y,hy⟩:=Int.eq_ofNat_of_zero_le uv
  have sI:kV G nd.sum=y:=by rw [hx,hy]; rfl
  have pR:y<=1:=by have:=DT.out; omega
  have Xk:v.tdiv (G.el.1:Int)=y:=by rw [Int.tdiv_eq_ediv_of_nonneg xk.1]; exact hy
  have DC:IntKind.i64.wrap (y:Int)=y:=IntWalk.i64_in _ (by omega)
  have sN:((G.el.1:Int)==0)=false:=by simp; omega
  have iS:¬(G.el.1=0):=by omega
  have bn:∀ e∈a.ps,∀ x,In e.A x->x<wc.heap.size:=fun e he x hx=>xj.lt (.inr (.inr (.inl ⟨e,he,hx⟩)))
  have hAdd:=Lib.hid (fun n=>Pa (uJ.only ((ab.refl (fun _=>False) wc).drewN n) (by simp) (by simp) (by simp)) (x:=G.at_) (y:=y) DQ.out (by have:=zL.out; omega) pR zM.out (by have:=xi.out; omega) bn)
  obtain ⟨z,hz⟩:=Int.eq_ofNat_of_zero_le zJ.out.1
  rw [hz] at hB k3
  have oY:=Lib.hid (show z<=18446744073709551615 by have:=zJ.out; omega)
  have VK:Hid (z∉(G.C.add G.at_ y).met):=Lib.hid (by
   have:=DR.out
   rw [hz,Int.toNat_natCast] at this
   exact this)
  have cQ:Hid (G.at_≠0):=Lib.hid DP.out.pos
  have ib:=Lib.hid uJ.cv
  have VL:Hid (jw wc a G):=Lib.hid ⟨ak,uJ,xj,DV.out,zL.out.1,zM.out,by have:=xi.out; omega,DU.out,DW.out,by omega⟩
  have cw:=Lib.hid xi.out
  have tg:Hid (¬(b=a.c\/b=a.B\/In a.LA b)):=Lib.hid (by
   rintro (q | q | q)
   ·have:=HMid.out.cb.lt; omega
   ·have:=HMid.out.mt.lt; omega
   ·have:=HMid.out.lr.lt q; omega)
  have uK:Hid (nd.next.toNat=z):=Lib.hid (by rw [hz]; rfl)
  replace ak:=Lib.hid ak
  replace uJ:=Lib.hid uJ
  replace xj:=Lib.hid xj
  replace hB:=Lib.hid hB
  replace ax:=Lib.hid ax
  replace bn:=Lib.hid bn
  replace hv:=Lib.hid hv
  replace hx:=Lib.hid hx
  replace hy:=Lib.hid hy
  replace sI:=Lib.hid sI
  go_upto_region 5 with (fail)
  go_region_held3 (fun w'=>w'.cell? ⟨a.f,4,none⟩=some (.int .i64 G.el.1)/\w'.cell? ⟨a.f,6,none⟩=some (.int .i64 G.nw.1)/\w'.cell? ⟨a.f,10,none⟩=some (ptr a.c)/\w'.cell? ⟨a.f,11,none⟩=some (.int .u64 G.at_)/\w'.cell? ⟨b,2,none⟩=some (.int .u32 nd.sum)) (go_keep)
   (first
     | (go_at_call 201
        refine (oX.out _).mono ?_
        rintro e w3 ⟨rfl,dU⟩
        obtain rfl:=dU.symm)
     | (go_at_call 232
        refine (hAdd.out 1).mono ?_
        rintro e w4 ⟨rfl,LA,lcap,J9,Ka,aM⟩
        have uL:=(VL.out.still ((ab.refl (fun _=>False) wc).drewN 1)).added (y:=y) J9 aM cQ.out cw.out pR
        have Kb:=tg.out
        have uM:af w4 b 67 #[.string nd.key,.string nd.val,.int .u32 nd.sum,.int .u64 z]:=(hB.out.only ((ab.refl (fun _=>False) wc).drewN 1) (by simp)).only aM Kb
        have r4:=uL.own.cell 4
        have r6:=uL.own.cell 6
        have r10:=uL.own.cell 10
        have r11:=uL.own.cell 11
        have r2:=uM.cell 2
        have k3':=uM.cell 3
        simp only [bM,List.getElem?_toArray,List.getElem?_cons_succ,List.getElem?_cons_zero,ib.out] at r4 r6 r10 r11 r2 k3'
        have qZ:=Lib.hid (vL uL oY.out VK.out)
        have bA:ab (bu a G) w w4:=((ab.aD ax.out (bu a G)).drewN 1).trans' aM (fun x _ q=>by
         rcases q with q | q | q
         ·exact .inr (.inl ⟨.inl h4.out,q⟩)
         ·exact .inr (.inr (.inl ⟨h4.out,.inl q⟩))
         ·exact .inr (.inr (.inl ⟨h4.out,.inr q⟩)))
        have DX:∀ x,kv {a with LA:=LA,lcap:=lcap} x->bu a G x\/w.heap.size<=x:=by
         rintro x (q | q | q | q | q)
         ·exact .inl (.inl q)
         ·exact .inl (.inr (.inl ⟨.inl h4.out,q⟩))
         ·exact .inl (.inr (.inr (.inl ⟨h4.out,.inl q⟩)))
         ·rcases Ka x q with q | q
          ·exact .inl (.inr (.inr (.inl ⟨h4.out,.inr q⟩)))
          ·exact .inr (Nat.le_trans ax.out.size q)
         ·refine .inl (.inr (.inr (.inr (.inr ?_))))
          rw [h4.out]
          exact q
        replace bA:=Lib.hid bA
        replace DX:=Lib.hid DX
        clear J9 aM Ka uL uM Kb hAdd))
  go_wp2_with fail
  refine qZ.out.mono ?_
  rintro e w5 ⟨rfl,j8⟩
  have hS:=Lib.hid (j8.px HM.out HG.out rfl DX.out bA.out)
  clear j8 qZ
  go_wp2_with fail
  go_ret
  exact ⟨rfl,by rw [sI.out,uK.out]; exact hS.out⟩
end
end Go.Proofs.YtpanebgakndddaaGreat.Gw
namespace Go.Proofs.YtpanebgakndddaaGreat.Gw
open Go Go.RowKit Hp K Fl Rw Hm Ar Mm Me Qs Wk Pn
set_option maxRecDepth 100000
section
variable {w w':World} {M:Mo} {a:Gl} {G:Gr}
theorem GS (h5:G.nx=5) {k:Nat} (x:Nat) (hx:bu a (bD {G with half:=G.half+1}) x):bu a G x\/k<=x:=by
 obtain ⟨e1,e2,e3,e4⟩:=tT {G with half:=G.half+1}
 rcases hx with rfl | ⟨_,rfl⟩ | ⟨q,_⟩ | ⟨q,_⟩ | hx
 ·exact .inl (.inl rfl)
 ·exact .inl (.inr (.inl ⟨.inr h5,rfl⟩))
 ·omega
 ·omega
 ·refine .inl (.inr (.inr (.inr (.inr ?_))))
  rw [show decide ((bD {G with half:=G.half+1}).nx<=6)=true by simp; omega] at hx
  rw [h5]
  exact hx
def BW (w:World) (M:Mo) (a:Gl) (G:Gr) (k x:Nat) (w':World):Prop:=ah w' {M with xs:=M.xs.set k (x:Int)}/\bT w' a G/\ab (ao M) w w'
theorem tU (hM:ah w M) (h:bT w a G) (k:Nat) (hk:k<M.xs.length) (x:Nat) (hx:x<=18446744073709551615) (w1:World) (h0:ab (fun _=>False) w w1):
 Calls Tryz.prog 45 #[ptr M.g,.int .i64 k,.int .u64 x] w1 fun e w'=>e=.returned (.int .i64 0)/\BW w M a G k x w':=
 (Cl.vj (hM.only h0 (by simp)).2.1 k hk (x:Int) (by omega) (by omega)).mono fun e w' q=>by
   have ho:ab (ao M) w w':=(h0.mono (fun x _ q=>q.elim)).trans' q.2.2 (fun x _ q=>.inr (.inl q))
   exact ⟨q.1,(hM.only h0 (by simp)).cells q.2.1 q.2.2,h.only ho (fun x hx q=>h.aA hM hx q),ho⟩
set_option maxHeartbeats 2000000 in
theorem Ph (hM:ah w M) (h:bT w a G) (h5:G.nx=5) (hh:G.half=0) (hx:G.nw.2+G.bucket<M.xs.length) (hf:G.C.fi.1<=18446744073709551615) (hb:G.bucket<=1000000) (hn:G.el.1<=1000000) (hw:G.nw.2<=4000000):
 Calls Tryz.prog 239 #[ptr a.f,ptr M.m] w fun e w'=>e=.returned (.bool false)/\dJ.bf w M a G {lm M with xs:=M.xs.set (G.nw.2+G.bucket) ((G.C.fi.1:Nat):Int)} (bD {G with half:=1}) w':=by
 obtain ⟨ib,hF⟩:=h.c5 h5
 have f0:=hF.hd.1
 have c4:=h.an.cell 4
 have c7:=h.an.cell 7
 have c9:=h.an.cell 9
 have c10:=h.an.cell 10
 have c12:=h.an.cell 12
 simp only [bM,List.getElem?_toArray,List.getElem?_cons_succ,List.getElem?_cons_zero,ib,hh] at c4 c7 c9 c10 c12
 have d0:=hM.hd.1
 have db:=tU hM h (G.nw.2+G.bucket) hx G.C.fi.1 hf
 have e1:((G.nw.2+G.bucket:Nat):Int)=(G.nw.2:Int)+(G.bucket:Int):=by omega
 rw [e1] at db
 replace db:=Lib.hid db
 have HM:=Lib.hid hM
 have HG:=Lib.hid h
 replace hF:=Lib.hid hF
 replace ib:=Lib.hid ib
 replace hh:=Lib.hid hh
 replace h5:=Lib.hid h5
 obtain ⟨fv,kM⟩:∃ v,v=G.C.fi.1:=⟨_,rfl⟩
 rw [<-kM] at db f0 ⊢
 replace kM:=Lib.hid kM
 have ew:IntKind.i64.wrap ((G.nw.2:Int)+(G.bucket:Int))=(G.nw.2:Int)+(G.bucket:Int):=IntWalk.i64_in _ (by omega)
 clear h hM hf hx e1
 go_enter Tryz.func239,Tryz.ntmps239
 go_wp2_with fail
 go_quiet (fail)
 have hq:=Lib.hid ((ab.refl (fun _=>False) w).drewN nq)
 have g0:(w.drewN nq).cell? ⟨a.c,0,none⟩=some (.int .u64 fv):=f0
 have g7:(w.drewN nq).cell? ⟨a.f,7,none⟩=some (.int .i64 G.nw.2):=c7
 have g10:(w.drewN nq).cell? ⟨a.f,10,none⟩=some (ptr a.c):=c10
 have g12:(w.drewN nq).cell? ⟨a.f,12,none⟩=some (.int .i64 0):=c12
 have g00:(w.drewN nq).cell? ⟨M.m,0,none⟩=some (ptr M.g):=d0
 clear f0 c4 c7 c9 c10 c12 d0
 generalize w.drewN nq=wq at*
 go_upto_region 2 with (fail)
 go_region_held3 (fun w'=>w'.cell? ⟨M.m,0,none⟩=some (ptr M.g)/\w'.cell? ⟨a.f,7,none⟩=some (.int .i64 G.nw.2)/\w'.cell? ⟨a.f,10,none⟩=some (ptr a.c)/\w'.cell? ⟨a.f,12,none⟩=some (.int .i64 0)/\w'.cell? ⟨a.c,0,none⟩=some (.int .u64 fv)) (go_keep)
  (first
    | (go_at_call 45
       refine (db.out (wq.drewN 1) (hq.out.drewN 1)).mono ?_
       rintro e w1 ⟨rfl,av,ak,bA⟩
       have p7:=ak.an.cell 7
       have p10:=ak.an.cell 10
       have p12:=ak.an.cell 12
       have y12:=ak.an.frozen 12
       have p0:=(ak.c5 h5.out).2.hd.1
       have p00:=av.hd.1
       simp only [bM,List.getElem?_toArray,List.getElem?_cons_succ,List.getElem?_cons_zero,ib.out,hh.out] at p7 p10 p12
       rw [<-kM.out] at p0
       replace av:=Lib.hid av
       replace ak:=Lib.hid ak
       replace bA:=Lib.hid bA
       clear db))
 have ag:Own (w1.setCell ⟨a.f,12,none⟩ (.int .i64 (1))) a {G with half:=1}:=ak.out.an.store 12 (.int .i64 (1))
 have ae:=(ab.refl (·=a.f) w1).setCell (p:=⟨a.f,12,none⟩) (.inl rfl) (.int .i64 (1))
 have aQ:=(ak.out.c5 h5.out).2.only ae ((ak.out.c5 h5.out).2.ne ak.out.an)
 have hT:=Lib.hid (oH ag ib.out aQ (by simp) hb hn)
 have dp:=Lib.hid (ak.out.aA av.out (x:=a.f) (.inl rfl))
 have aB:=Lib.hid (av.out.only ae (fun x hx e=>dp.out (e▸hx)))
 have iz:=Lib.hid (ak.out.cP.self ak.out.an)
 have cy:=Lib.hid (ak.out.cP.only ae iz.out)
 have aq:=Lib.hid ((bA.out.mono (fun x _ q=>(.inl q:ao M x\/bu a G x))).trans' ae (fun x _ q=>.inr (.inl q)))
 replace aQ:=Lib.hid aQ
 replace ag:=Lib.hid ag
 clear ae p7 p10 p0 p00
 go_wp2_with fail
 refine hT.out.mono ?_
 rintro e w3 ⟨rfl,ay,aM⟩
 have hE:Hid (dJ.bf w M a G {lm M with xs:=M.xs.set (G.nw.2+G.bucket) (fv:Int)} (bD {G with half:=1}) w3):=Lib.hid (by
  rw [kM.out] at*
  obtain ⟨e1,e2,e3,e4⟩:=tT {G with half:=1}
  refine ⟨_,a,aB.out.only aM (fun x hx e=>dp.out (e▸hx)),rfl,⟨rfl,rfl,rfl,rfl,fun x q=>.inl q⟩,?_,rfl,?_,aq.out.trans' aM (fun x _ q=>.inr (.inl q))⟩
  ·refine ⟨ay,fun q=>by omega,fun _=>⟨ib.out,by rw [e1]; exact aQ.out.only aM (aQ.out.ne ag.out)⟩,fun q=>by omega,?_⟩
   rw [e2,e3,show decide ((bD {G with half:=1}).nx<=6)=true by simp; omega]
   have:=cy.out.only aM iz.out
   rw [h5.out] at this
   exact this
  ·have:=@GS a G h5.out w.heap.size
   rw [hh.out] at this
   exact this)
 clear ay aM hT
 go_wp2_with fail
 go_ret
 exact ⟨rfl,hE.out⟩
set_option maxHeartbeats 2000000 in
theorem Pj (hM:ah w M) (h:bT w a G) (h5:G.nx=5) (hh:G.half=1) (hx:G.nw.2+(G.bucket+G.el.1)<M.xs.length) (hf:G.C.fi.2<=18446744073709551615) (hb:G.bucket<=1000000) (hn:G.el.1<=1000000) (hw:G.nw.2<=4000000):
 Calls Tryz.prog 239 #[ptr a.f,ptr M.m] w fun e w'=>e=.returned (.bool false)/\dJ.bf w M a G {lm M with xs:=M.xs.set (G.nw.2+(G.bucket+G.el.1)) ((G.C.fi.2:Nat):Int)} (bD {G with half:=2}) w':=by
 obtain ⟨ib,hF⟩:=h.c5 h5
 have f1:=hF.hd.2
 have c4:=h.an.cell 4
 have c7:=h.an.cell 7
 have c9:=h.an.cell 9
 have c10:=h.an.cell 10
 have c12:=h.an.cell 12
 simp only [bM,List.getElem?_toArray,List.getElem?_cons_succ,List.getElem?_cons_zero,ib,hh] at c4 c7 c9 c10 c12
 have d0:=hM.hd.1
 have db:=tU hM h (G.nw.2+(G.bucket+G.el.1)) hx G.C.fi.2 hf
 have e1:((G.nw.2+(G.bucket+G.el.1):Nat):Int)=(G.nw.2:Int)+((G.bucket:Int)+(G.el.1:Int)):=by omega
 rw [e1] at db
 replace db:=Lib.hid db
 have HM:=Lib.hid hM
 have HG:=Lib.hid h
 replace hF:=Lib.hid hF
 replace ib:=Lib.hid ib
 replace hh:=Lib.hid hh
 replace h5:=Lib.hid h5
 obtain ⟨fv,kM⟩:∃ v,v=G.C.fi.2:=⟨_,rfl⟩
 rw [<-kM] at db f1 ⊢
 replace kM:=Lib.hid kM
 have ew:IntKind.i64.wrap ((G.nw.2:Int)+((G.bucket:Int)+(G.el.1:Int)))=(G.nw.2:Int)+((G.bucket:Int)+(G.el.1:Int)):=IntWalk.i64_in _ (by omega)
 clear h hM hf hx e1
 go_enter Tryz.func239,Tryz.ntmps239
 go_wp2_with fail
 go_quiet (fail)
 have hq:=Lib.hid ((ab.refl (fun _=>False) w).drewN nq)
 have g0:(w.drewN nq).cell? ⟨a.c,1,none⟩=some (.int .u64 fv):=f1
 have g7:(w.drewN nq).cell? ⟨a.f,7,none⟩=some (.int .i64 G.nw.2):=c7
 have g10:(w.drewN nq).cell? ⟨a.f,10,none⟩=some (ptr a.c):=c10
 have g12:(w.drewN nq).cell? ⟨a.f,12,none⟩=some (.int .i64 1):=c12
 have g00:(w.drewN nq).cell? ⟨M.m,0,none⟩=some (ptr M.g):=d0
 clear f1 c4 c7 c9 c10 c12 d0
 generalize w.drewN nq=wq at*
 go_upto_region 2 with (fail)
 go_region_held3 (fun w'=>w'.cell? ⟨M.m,0,none⟩=some (ptr M.g)/\w'.cell? ⟨a.f,7,none⟩=some (.int .i64 G.nw.2)/\w'.cell? ⟨a.f,10,none⟩=some (ptr a.c)/\w'.cell? ⟨a.f,12,none⟩=some (.int .i64 1)/\w'.cell? ⟨a.c,1,none⟩=some (.int .u64 fv)) (go_keep)
  (first
    | (go_at_call 45
       refine (db.out (wq.drewN 1) (hq.out.drewN 1)).mono ?_
       rintro e w1 ⟨rfl,av,ak,bA⟩
       have p7:=ak.an.cell 7
       have p10:=ak.an.cell 10
       have p12:=ak.an.cell 12
       have y12:=ak.an.frozen 12
       have p0:=(ak.c5 h5.out).2.hd.2
       have p00:=av.hd.1
       simp only [bM,List.getElem?_toArray,List.getElem?_cons_succ,List.getElem?_cons_zero,ib.out,hh.out] at p7 p10 p12
       rw [<-kM.out] at p0
       replace av:=Lib.hid av
       replace ak:=Lib.hid ak
       replace bA:=Lib.hid bA
       clear db))
 have ag:Own (w1.setCell ⟨a.f,12,none⟩ (.int .i64 (2))) a {G with half:=2}:=ak.out.an.store 12 (.int .i64 (2))
 have ae:=(ab.refl (·=a.f) w1).setCell (p:=⟨a.f,12,none⟩) (.inl rfl) (.int .i64 (2))
 have aQ:=(ak.out.c5 h5.out).2.only ae ((ak.out.c5 h5.out).2.ne ak.out.an)
 have hT:=Lib.hid (oH ag ib.out aQ (by simp) hb hn)
 have dp:=Lib.hid (ak.out.aA av.out (x:=a.f) (.inl rfl))
 have aB:=Lib.hid (av.out.only ae (fun x hx e=>dp.out (e▸hx)))
 have iz:=Lib.hid (ak.out.cP.self ak.out.an)
 have cy:=Lib.hid (ak.out.cP.only ae iz.out)
 have aq:=Lib.hid ((bA.out.mono (fun x _ q=>(.inl q:ao M x\/bu a G x))).trans' ae (fun x _ q=>.inr (.inl q)))
 replace aQ:=Lib.hid aQ
 replace ag:=Lib.hid ag
 clear ae p7 p10 p0 p00
 go_wp2_with fail
 refine hT.out.mono ?_
 rintro e w3 ⟨rfl,ay,aM⟩
 have hE:Hid (dJ.bf w M a G {lm M with xs:=M.xs.set (G.nw.2+(G.bucket+G.el.1)) (fv:Int)} (bD {G with half:=2}) w3):=Lib.hid (by
  rw [kM.out] at*
  obtain ⟨e1,e2,e3,e4⟩:=tT {G with half:=2}
  refine ⟨_,a,aB.out.only aM (fun x hx e=>dp.out (e▸hx)),rfl,⟨rfl,rfl,rfl,rfl,fun x q=>.inl q⟩,?_,rfl,?_,aq.out.trans' aM (fun x _ q=>.inr (.inl q))⟩
  ·refine ⟨ay,fun q=>by omega,fun _=>⟨ib.out,by rw [e1]; exact aQ.out.only aM (aQ.out.ne ag.out)⟩,fun q=>by omega,?_⟩
   rw [e2,e3,show decide ((bD {G with half:=2}).nx<=6)=true by simp; omega]
   have:=cy.out.only aM iz.out
   rw [h5.out] at this
   exact this
  ·have:=@GS a G h5.out w.heap.size
   rw [hh.out] at this
   exact this)
 clear ay aM hT
 go_wp2_with fail
 go_ret
 exact ⟨rfl,hE.out⟩
theorem vO (hM:ah w M) (h:bT w a G) (h5:G.nx=5) (hh:G.half<=1) (hx:G.nw.2+(G.bucket+G.half*G.el.1)<M.xs.length) (hf:cC G.C.fi G.half<=18446744073709551615) (hb:G.bucket<=1000000) (hn:G.el.1<=1000000) (hw:G.nw.2<=4000000):
 Calls Tryz.prog 239 #[ptr a.f,ptr M.m] w fun e w'=>e=.returned (.bool false)/\dJ.bf w M a G {lm M with xs:=M.xs.set (G.nw.2+(G.bucket+G.half*G.el.1)) ((cC G.C.fi G.half:Nat):Int)} (bD {G with half:=G.half+1}) w':=by
 rcases (show G.half=0\/G.half=1 by omega) with oZ | oZ
 ·rw [oZ] at hx hf ⊢
  simp only [Nat.zero_mul,Nat.add_zero] at hx ⊢
  exact Ph hM h h5 oZ hx hf hb hn hw
 ·rw [oZ] at hx hf ⊢
  simp only [Nat.one_mul] at hx ⊢
  exact Pj hM h h5 oZ hx hf hb hn hw
end
end Go.Proofs.YtpanebgakndddaaGreat.Gw
namespace Go.Proofs.YtpanebgakndddaaGreat.Gw
open Go Go.RowKit Hp K Fl Rw Hm Ar Mm Me Qs Wk Pn
set_option maxRecDepth 100000
section
variable {w w':World} {M:Mo} {a:Gl} {G:Gr}
theorem Pk {w1 w2:World} {a1:Gl} {G1:Gr} {b:Nat} (hB:Own w2 {a1 with wv:=ptr b,w:=b} {G1 with nx:=7}) (hW:cZ w2 b ⟨G1.worker,0,0,0⟩) (hR:gE w1 a1 G1.pass G1.later false) (hO:ab (·=a1.f) w1 w2) (hS:∀ x,fz a1 false x->x≠a1.f):bT w2 {a1 with wv:=ptr b,w:=b} (eh G1):=by
 have cy:=hR.only hO hS
 exact ⟨hB,fun q=>by simp [eh] at q,fun q=>by simp [eh] at q,fun _=>⟨rfl,hW⟩,⟨cy.ps,cy.qs,fun q=>by simp [eh] at q,cy.pl,cy.pc,cy.qr,cy.pq⟩⟩
set_option maxHeartbeats 2000000 in
theorem BX (hM:ah w M) (h:bT w a G) (h6:G.nx=6) (hx:1<M.xs.length) (hn:0<=G.num/\G.num<=1000000):
 Calls Tryz.prog 240 #[ptr a.f,ptr M.m] w fun e w'=>e=.returned (.bool false)/\dJ.bf w M a G {lm M with xs:=M.xs.set 1 G.num} (eh G) w':=by
 obtain ⟨z,hz⟩:=Int.eq_ofNat_of_zero_le hn.1
 have c8:=h.an.cell 8
 simp only [bM,List.getElem?_toArray,List.getElem?_cons_succ,List.getElem?_cons_zero] at c8
 have db:=tU hM h 1 hx z (by omega)
 rw [hz] at c8 ⊢
 have ez:IntKind.u64.wrap (z:Int)=z:=by rw [IntKind.wrap_u64]; omega
 have d0:=hM.hd.1
 replace db:=Lib.hid db
 have HM:=Lib.hid hM
 have HG:=Lib.hid h
 replace hz:=Lib.hid hz
 replace h6:=Lib.hid h6
 clear h hM hn
 go_enter Tryz.func240,Tryz.ntmps240
 go_wp2_with fail
 go_region_held3 (fun w'=>w'.cell? ⟨M.m,0,none⟩=some (ptr M.g)/\w'.cell? ⟨a.f,8,none⟩=some (.int .i64 z)) (go_keep)
  (first
    | (go_at_call 45
       refine (db.out (w.drewN 1) ((ab.refl (fun _=>False) w).drewN 1)).mono ?_
       rintro e w1 ⟨rfl,av,ak,bA⟩
       have p8:=ak.an.cell 8
       have p00:=av.hd.1
       simp only [bM,List.getElem?_toArray,List.getElem?_cons_succ,List.getElem?_cons_zero,hz.out] at p8
       have lO:=Lib.hid (vM ak.an)
       replace av:=Lib.hid av
       replace ak:=Lib.hid ak
       replace bA:=Lib.hid bA
       clear db))
 clear p8 p00
 go_wp2_with fail
 refine lO.out.mono ?_
 rintro e w2 ⟨b,rfl,ag,eU,fU,ae⟩
 have hE:Hid (dJ.bf w M a G {lm M with xs:=M.xs.set 1 (z:Int)} (eh G) w2):=Lib.hid (by
  have hR:=ak.out.cP.stop
  have iz:=ak.out.cP.self ak.out.an
  refine ⟨_,{a with wv:=ptr b,w:=b},av.out.only ae (fun x hx e=>ak.out.aA av.out (x:=a.f) (.inl rfl) (e▸hx)),rfl,⟨rfl,rfl,rfl,rfl,fun x q=>.inl q⟩,Pk ag eU hR ae (fun x hx=>iz x (by
   rcases hx with ⟨q,hx⟩ | hx
   ·exact .inl ⟨.inl (q.resolve_right (by simp)),hx⟩
   ·exact .inr hx)),rfl,fun x hx=>?_,(bA.out.mono (fun x _ q=>(.inl q:ao M x\/bu a G x))).trans' ae (fun x _ q=>.inr (.inl q))⟩
  have hs:=bA.out.size
  rcases hx with rfl | ⟨q,_⟩ | ⟨q,_⟩ | ⟨_,rfl⟩ | hx
  ·exact .inl (.inl rfl)
  ·simp [eh] at q
  ·simp [eh] at q
  ·exact .inr (Nat.le_trans hs fU)
  ·refine .inl (.inr (.inr (.inr (.inr ?_))))
   rcases hx with ⟨q,hx⟩ | hx
   ·exact .inl ⟨.inl (q.resolve_right (by simp [eh])),hx⟩
   ·exact .inr hx)
 clear ag eU fU ae lO
 go_wp2_with fail
 go_ret
 exact ⟨rfl,hE.out⟩
theorem bT.waited {M':Mo} {W':Wt} (h:bT w a G) (hM:ah w M) (h7:G.nx=7) (hW:cZ w' a.w W') (ho:ab (fun x=>ao M x\/x=a.w) w w'):bT w' a {G with W:=W'}:=by
 have hw:=h.wt h7
 refine ⟨h.an.only ho ?_,fun q=>by simp only at q; omega,fun q=>by simp only at q; omega,fun _=>⟨hw.1,hW⟩,h.cP.only ho fun x hx q=>?_⟩
 ·rintro (q | q)
  ·exact h.aA hM (.inl rfl) q
  ·exact h.an.differ hw.2 (by decide) q
 ·rcases q with q | rfl
  ·exact h.aA hM (.inr (.inr (.inr (.inr hx)))) q
  ·exact (h.cP.ty hx).apart (aV hw.2) (by decide)
set_option maxHeartbeats 2000000 in
theorem Pm {n:Nat} (hM:ah w M) (h:bT w a G) (h7:G.nx=7) (hn:M.k=n) (ok:eB n M.xs M.hs G.W) (hr:fQ M.xs M.hs G.W=true):
 Calls Tryz.prog 244 #[ptr a.f,ptr M.m] w fun e w'=>e=.returned (.bool (decide (G.W.at_=3/\G.pass=[])))/\
  dJ.bf w M a G {lm M with xs:=(aI n M.xs M.hs G.W).1,hs:=(aI n M.xs M.hs G.W).2.1} {G with W:=(aI n M.xs M.hs G.W).2.2,nx:=if G.W.at_=3 then (if G.pass=[] then 9 else 8) else 7} w':=by
 obtain ⟨zN,hW⟩:=h.wt h7
 have hS:=(yE hM hW hn ok hr).mono fun e w1 q=>
  show e=.returned (.bool (decide (G.W.at_=3)))/\ah w1 {M with xs:=(aI n M.xs M.hs G.W).1,hs:=(aI n M.xs M.hs G.W).2.1}/\bT w1 a {G with W:=(aI n M.xs M.hs G.W).2.2}/\ab (fun x=>ao M x\/bu a G x) w w1 from
   ⟨q.1,q.2.1,h.waited (M':=M) hM h7 q.2.2.1 q.2.2.2,q.2.2.2.mono (fun x _ y=>y.imp id (fun e=>.inr (.inr (.inr (.inl ⟨h7,e⟩)))))⟩
 have c13:=h.an.cell 13
 simp only [bM,List.getElem?_toArray,List.getElem?_cons_succ,List.getElem?_cons_zero,zN] at c13
 generalize (aI n M.xs M.hs G.W).1=xs' at*
 generalize (aI n M.xs M.hs G.W).2.1=hs' at*
 generalize (aI n M.xs M.hs G.W).2.2=W' at*
 have fx:=h.cP.ps.len
 have HM:=Lib.hid hM
 have HG:=Lib.hid h
 replace h7:=Lib.hid h7
 have iP:Hid (∀ w1 w2 n2,ah w1 {M with xs:=xs',hs:=hs'}->bT w1 a {G with W:=W'}->ab (fun x=>ao M x\/bu a G x) w w1->n2=8\/n2=9->Own w2 a {G with W:=W',nx:=n2}->ab (·=a.f) w1 w2->dJ.bf w M a G {lm M with xs:=xs',hs:=hs'} {G with W:=W',nx:=n2} w2):=Lib.hid (by
  intro w1 w2 n2 av ak aw iS ag ae
  have hR:=(ak.cP.only ae (ak.cP.self ak.an)).stop
  refine ⟨_,a,av.only ae (fun x hx e=>ak.aA av (x:=a.f) (.inl rfl) (e▸hx)),rfl,⟨rfl,rfl,rfl,rfl,fun x q=>.inl q⟩,⟨ag,fun q=>by simp only at q; omega,fun q=>by simp only at q; omega,fun q=>by simp only at q; omega,?_⟩,rfl,BN (G':={G with W:=W'}) (by omega) (fun q=>by simp at q; omega),aw.trans' ae (fun x _ q=>.inr (.inl q))⟩
  show gE w2 a G.pass G.later (decide (n2<=6))
  rw [show decide (n2<=6)=false by simp; omega]
  exact hR)
 by_cases h3:G.W.at_=3
 ·rw [show decide (G.W.at_=3)=true by simp [h3]] at hS
  replace hS:=Lib.hid hS
  rw [if_pos h3]
  by_cases hp:G.pass=[]
  ·rw [if_pos hp,show decide (G.W.at_=3/\G.pass=[])=true by simp [h3,hp]]
   rw [hp] at fx
   replace fx:=Lib.hid fx
   clear h hM ok hr hn h3 hp hW zN
   go_enter Tryz.func244,Tryz.ntmps244
   go_wp2_with fail
   refine hS.out.mono ?_
   rintro e w1 ⟨rfl,av,ak,aw⟩
   have p14:=ak.an.cell 14
   simp only [bM,List.getElem?_toArray,List.getElem?_cons_succ,List.getElem?_cons_zero,fx.out,List.length_nil] at p14
   have hF:=Lib.hid (GN ak.an)
   replace av:=Lib.hid av
   replace ak:=Lib.hid ak
   replace aw:=Lib.hid aw
   clear hS c13
   go_wp2_with fail
   refine hF.out.mono ?_
   rintro e w2 ⟨rfl,ag,ae⟩
   have hE:=Lib.hid (iP.out w1 w2 9 av.out ak.out aw.out (.inr rfl) ag ae)
   clear ag ae hF p14
   go_wp2_with fail
   go_ret
   exact ⟨rfl,hE.out⟩
  ·rw [if_neg hp,show decide (G.W.at_=3/\G.pass=[])=false by simp [hp]]
   have nY:0<a.ps.length:=by rw [fx]; exact List.length_pos_iff.2 hp
   have eG:=h.cP.pc
   simp only [maxLen] at eG
   generalize eT:a.ps.length=m at*
   replace eT:=Lib.hid eT
   have q0:((m:Int)==0)=false:=by simp; omega
   clear h hM ok hr hn h3 hp hW zN fx
   go_enter Tryz.func244,Tryz.ntmps244
   go_wp2_with fail
   refine hS.out.mono ?_
   rintro e w1 ⟨rfl,av,ak,aw⟩
   have p14:=ak.an.cell 14
   simp only [bM,List.getElem?_toArray,List.getElem?_cons_succ,List.getElem?_cons_zero,eT.out] at p14
   have hF:=Lib.hid (ej ak.an (n:=8) (by omega) rfl)
   replace av:=Lib.hid av
   replace ak:=Lib.hid ak
   replace aw:=Lib.hid aw
   clear hS c13
   go_wp2_with fail
   refine hF.out.mono ?_
   rintro e w2 ⟨rfl,ag,ae⟩
   have hE:=Lib.hid (iP.out w1 w2 8 av.out ak.out aw.out (.inl rfl) ag ae)
   clear ag ae hF p14
   go_wp2_with fail
   go_ret
   exact ⟨rfl,hE.out⟩
 ·rw [show decide (G.W.at_=3)=false by simp [h3]] at hS
  rw [if_neg h3,show decide (G.W.at_=3/\G.pass=[])=false by simp [h3]]
  replace hS:=Lib.hid hS
  clear h hM ok hr hn h3 hW zN fx iP
  go_enter Tryz.func244,Tryz.ntmps244
  go_wp2_with fail
  refine hS.out.mono ?_
  rintro e w1 ⟨rfl,av,ak,aw⟩
  have e7:Hid ({G with W:=W',nx:=7}=({G with W:=W'}:Gr)):=Lib.hid (by rw [<-h7.out])
  have hE:Hid (dJ.bf w M a G {lm M with xs:=xs',hs:=hs'} {G with W:=W',nx:=7} w1):=Lib.hid (by
   rw [e7.out]
   exact ⟨_,a,av,rfl,⟨rfl,rfl,rfl,rfl,fun x q=>.inl q⟩,ak,rfl,fun x q=>.inl q,aw⟩)
  clear av ak aw hS c13
  go_wp2_with fail
  go_ret
  exact ⟨rfl,hE.out⟩
end
end Go.Proofs.YtpanebgakndddaaGreat.Gw
