/- Walks and plain mathematics, put together in their order: GroH, GroI, GroJ, GroK. -/
import Derived.Test.YtpanebgakndddaaGreatPart5
import Derived.Deep.DeepCutAuto
set_option linter.unusedVariables false
set_option linter.unusedSimpArgs false
namespace Go.Proofs.YtpanebgakndddaaGreat.Gw
open Go Go.RowKit Hp K Fl Rw Hm Ar Mm Me Qs Wk Pn
set_option maxRecDepth 100000
section
variable {w w':World} {M:Mo} {a:Gl} {G:Gr}
theorem bY.plain {n:Nat} (hB:Own w' a {G with nx:=n}) (hn:n≠4/\n≠5/\n≠7) (hR:eE w' a G.pass G.later (decide (n<=6))):bY w' a {G with nx:=n}:=
 ⟨hB,fun q=>absurd q hn.1,fun q=>absurd q hn.2.1,fun q=>absurd q hn.2.2,hR⟩
theorem CB {n:Nat} {G':Gr} (hn:n≠4/\n≠5/\n≠7) (h6:decide (n<=6)=true->decide (G.nx<=6)=true) {k:Nat} (x:Nat) (hx:bC a {G' with nx:=n} x):bC a G x\/k<=x:=by
 rcases hx with rfl | ⟨q,_⟩ | ⟨q,_⟩ | ⟨q,_⟩ | hx
 ·exact .inl (.inl rfl)
 ·simp only at q; omega
 ·simp only at q; omega
 ·simp only at q; omega
 ·refine .inl (.inr (.inr (.inr (.inr ?_))))
  rcases hx with ⟨h1,h2⟩ | hx
  ·exact .inl ⟨h1.imp id h6,h2⟩
  ·exact .inr hx
theorem eE.stop {p q:List (List (Nat×Nat))} {g:Bool} (h:eE w a p q g):eE w a p q false:=
 ⟨h.ps,h.qs,fun q=>by simp at q,h.pl,h.pc,h.qr,fun b hb q=>h.pq b hb (q.imp id (fun q=>by simp at q))⟩
set_option maxHeartbeats 2000000 in
theorem CC (hM:ah w M) (h:bY w a G) (h2:G.nx=2) (he:G.el.1<=65536) (hp:¬(FM.bl ((2*G.el.1:Nat):Int)=true/\M.xs.length+2*G.el.1<=1048576)):
 Calls Tryz.prog 151 #[ptr a.f,ptr M.m] w fun e w'=>e=.returned (.bool true)/\dL.bh w M a G (lm M) {G with num:= -1,err:=if FM.bl ((2*G.el.1:Nat):Int)=true then 2 else 5,nx:=9} w':=by
 obtain ⟨c,hc,ib,hT⟩:∃ c:Int,(c != 0)=true/\c=(if FM.bl ((2*G.el.1:Nat):Int)=true then 2 else 5)/\Calls Tryz.prog 46 #[ptr M.m,.int .i64 ((2*G.el.1:Nat):Int)] w fun e w'=>e=.returned (.tuple #[.int .i64 (-1),.int .i64 c])/\w=w':=by
  cases jr:FM.bl ((2*G.el.1:Nat):Int) with
  | true=>
    refine ⟨2,rfl,by simp,HU hM _ (by omega) (by omega) jr ?_⟩
    have:¬M.xs.length+2*G.el.1<=1048576:=fun q=>hp ⟨jr,q⟩
    omega
  | false=>exact ⟨5,rfl,by simp,HV hM _ (by omega) (by omega) jr⟩
 rw [<-ib]
 have e2:((2*G.el.1:Nat):Int)=2*(G.el.1:Int):=by omega
 rw [e2] at hT
 replace hT:=Lib.hid hT
 have c3:=h.ao.cell 3
 have c4:=h.ao.cell 4
 have c8:=h.ao.cell 8
 have z3:=h.ao.frozen 3
 have z8:=h.ao.frozen 8
 simp only [bP,List.getElem?_toArray,List.getElem?_cons_succ,List.getElem?_cons_zero] at c3 c4 c8
 have ag:Own ((w.setCell ⟨a.f,8,none⟩ (.int .i64 (-1))).setCell ⟨a.f,3,none⟩ (.int .i64 c)) a {G with num:= -1,err:=c}:=(h.ao.store 8 (.int .i64 (-1))).store 3 (.int .i64 c)
 have ae:=Lib.hid (kG (c:=a.f) w 8 3 (.int .i64 (-1)) (.int .i64 c))
 have hE:=Lib.hid (HR ag)
 have HM:=Lib.hid hM
 have HG:=Lib.hid h
 replace h2:=Lib.hid h2
 clear hM h ag e2 hp ib
 go_enter Tryz.func151,Tryz.ntmps151
 go_wp2_with fail
 refine hT.out.mono ?_
 rintro e w1 ⟨rfl,hw⟩
 obtain rfl:w=w1:=hw
 clear hT
 go_wp2_with fail
 refine hE.out.mono ?_
 rintro e w2 ⟨rfl,ay,an⟩
 have hO:=ae.out.trans an
 have hS:Hid (dL.bh w M a G (lm M) {G with num:= -1,err:=c,nx:=9} w2):=Lib.hid (by
  refine oX HM.out (a':=a) (bY.plain (G:={G with num:= -1,err:=c}) ay (by omega) ?_) rfl (CB (G':={G with num:= -1,err:=c}) (by omega) (by simp)) HG.out hO (fun x q=>.inl q)
  exact (HG.out.cV.only hO (HG.out.cV.self HG.out.ao)).stop)
 clear ay an hO hE c3 c4 c8 z3 z8
 go_wp2_with fail
 go_ret
 exact ⟨rfl,hS.out⟩
theorem CD {n:Nat} {A' T':Option Addr} {cap' capT':Nat} {xs':List Int} {ds':List (Nat×Nat)} (hA:∀ x,In A' x->In M.A x\/w.heap.size<=x) (hT:∀ x,In T' x->In M.T x\/w.heap.size<=x):gq w M {M with A:=A',cap:=cap',xs:=xs',T:=T',capT:=capT',ds:=ds'}:=by
 refine ⟨rfl,rfl,rfl,rfl,?_⟩
 rintro x (q | q | q | q | q | q)
 ·exact .inl (.inl q)
 ·rcases q with q | q
  ·exact .inl (.inr (.inl (.inl q)))
  ·rcases hA x q with q | q
   ·exact .inl (.inr (.inl (.inr q)))
   ·exact .inr q
 ·exact .inl (.inr (.inr (.inl q)))
 ·exact .inl (.inr (.inr (.inr (.inl q))))
 ·rcases hT x q with q | q
  ·exact .inl (.inr (.inr (.inr (.inr (.inl q)))))
  ·exact .inr q
 ·exact .inl (.inr (.inr (.inr (.inr (.inr q)))))
set_option maxHeartbeats 2000000 in
theorem CE (hM:ah w M) (h:bY w a G) (h2:G.nx=2) (he:G.el.1<=65536) (aM:M.ds.length<=900000) (hp:FM.bl ((2*G.el.1:Nat):Int)=true) (hx:M.xs.length+2*G.el.1<=1048576):
 Calls Tryz.prog 151 #[ptr a.f,ptr M.m] w fun e w'=>e=.returned (.bool false)/\dL.bh w M a G {lm M with xs:=M.xs++List.replicate (2*G.el.1) 0,ds:=M.ds++[(2*G.el.1,M.xs.length)]} {G with num:=M.ds.length,err:=0,nw:=(2*G.el.1,M.xs.length),nx:=3} w':=by
 have hT:=CF hM (2*G.el.1) hp hx (by omega)
 have e2:((2*G.el.1:Nat):Int)=2*(G.el.1:Int):=by omega
 rw [e2] at hT
 replace hT:=Lib.hid hT
 have c4:=h.ao.cell 4
 simp only [bP,List.getElem?_toArray,List.getElem?_cons_succ,List.getElem?_cons_zero] at c4
 have HM:=Lib.hid hM
 have HG:=Lib.hid h
 replace h2:=Lib.hid h2
 obtain ⟨dn,cB⟩:∃ n,n=M.ds.length:=⟨_,rfl⟩
 obtain ⟨xn,ot⟩:∃ n,n=M.xs.length:=⟨_,rfl⟩
 obtain ⟨n2,gV⟩:∃ n,n=2*G.el.1:=⟨_,rfl⟩
 rw [<-cB] at aM
 simp only [<-cB,<-ot,<-gV] at hT ⊢
 replace cB:=Lib.hid cB
 replace ot:=Lib.hid ot
 replace gV:=Lib.hid gV
 clear hM h hp hx e2
 go_enter Tryz.func151,Tryz.ntmps151
 go_wp2_with fail
 refine hT.out.mono ?_
 rintro e w1 ⟨rfl,A',cap',T',capT',aw,ax,cQ,xY⟩
 have ak:=HG.out.only ax (fun x hx q=>HG.out.aB HM.out hx q)
 have d3:=ak.ao.cell 3
 have d8:=ak.ao.cell 8
 have y3:=ak.ao.frozen 3
 have y8:=ak.ao.frozen 8
 simp only [bP,List.getElem?_toArray,List.getElem?_cons_succ,List.getElem?_cons_zero] at d3 d8
 have ag:Own ((w1.setCell ⟨a.f,8,none⟩ (.int .i64 dn)).setCell ⟨a.f,3,none⟩ (.int .i64 0)) a {G with num:=dn,err:=0}:=(ak.ao.store 8 (.int .i64 dn)).store 3 (.int .i64 0)
 have ae:=kG (c:=a.f) w1 8 3 (.int .i64 dn) (.int .i64 0)
 have dW:=ak.aB aw (x:=a.f) (.inl rfl)
 have aI:=aw.only ae (fun x hx e=>dW (e▸hx))
 have hD:=CG aI dn (by rw [cB.out]; simp)
 have xZ:aO (M.ds++[(n2,M.xs.length)]) dn=(n2,xn):=by unfold aO; rw [cB.out,ot.out]; simp
 rw [xZ] at hD
 unfold dv at hD
 replace hD:=Lib.hid hD
 have k8:=ag.cell 8
 have k3:=ag.cell 3
 simp only [bP,List.getElem?_toArray,List.getElem?_cons_succ,List.getElem?_cons_zero] at k3 k8
 replace ag:=Lib.hid ag
 replace ae:=Lib.hid ae
 replace aI:=Lib.hid aI
 replace ax:=Lib.hid ax
 replace dW:=Lib.hid dW
 have hK:=Lib.hid (CD (w:=w) (M:=M) (n:=0) (cap':=cap') (capT':=capT') (xs':=M.xs++List.replicate n2 0) (ds':=M.ds++[(n2,M.xs.length)]) cQ xY)
 clear hT c4 aw cQ xY xZ ak
 go_wp2_with fail
 refine hD.out.mono ?_
 rintro e w3 ⟨rfl,aR⟩
 have ay:=ag.out.only (ab.aA aR (fun _=>False)) (by simp)
 have p6:=ay.cell 6
 have p7:=ay.cell 7
 have q6:=ay.frozen 6
 have q7:=ay.frozen 7
 simp only [bP,List.getElem?_toArray,List.getElem?_cons_succ,List.getElem?_cons_zero] at p6 p7
 have az:Own ((w3.setCell ⟨a.f,6,none⟩ (.int .i64 n2)).setCell ⟨a.f,7,none⟩ (.int .i64 xn)) a {G with num:=dn,err:=0,nw:=(n2,xn)}:=(ay.store 6 (.int .i64 n2)).store 7 (.int .i64 xn)
 have aN:=kG (c:=a.f) w3 6 7 (.int .i64 n2) (.int .i64 xn)
 have tu:=(ab.aA aR (·=a.f)).trans aN
 have mg:=Lib.hid (et az (n:=3) (by omega) rfl)
 replace tu:=Lib.hid tu
 clear aR ay az aN hD k3 k8 d3 d8 y3 y8
 go_wp2_with fail
 refine mg.out.mono ?_
 rintro e w5 ⟨rfl,bM,bN⟩
 have tw:=tu.out.trans bN
 have vf:=ae.out.trans tw
 have hS:Hid (dL.bh w M a G {lm M with xs:=M.xs++List.replicate n2 0,ds:=M.ds++[(n2,xn)]} {G with num:=dn,err:=0,nw:=(n2,xn),nx:=3} w5):=Lib.hid (by
  have Eu:ab (fun x=>aq M x\/bC a G x) w w5:=(ax.out.mono (fun x _ q=>.inl q)).trans' vf (fun x _ q=>.inr (.inl q))
  refine ⟨_,a,aI.out.only tw (fun x hx e=>dW.out (e▸hx)),by rw [ot.out],hK.out,bY.plain (G:={G with num:=dn,err:=0,nw:=(n2,xn)}) bM (by omega) ?_,rfl,CB (G':={G with num:=dn,err:=0,nw:=(n2,xn)}) (by omega) (fun _=>by rw [h2.out]; rfl),Eu⟩
  ·have iD:=HG.out.cV.only ax.out (fun x hx q=>HG.out.aB HM.out (.inr (.inr (.inr (.inr hx)))) q)
   have:=iD.only vf (HG.out.cV.self HG.out.ao)
   rw [h2.out] at this
   exact this)
 clear bM bN vf tw mg
 go_wp2_with fail
 go_ret
 exact ⟨rfl,hS.out⟩
end
end Go.Proofs.YtpanebgakndddaaGreat.Gw
namespace Go.Proofs.YtpanebgakndddaaGreat.Gw
open Go Go.RowKit Hp K Fl Rw Hm Ar Mm Me Qs Wk Pn
set_option maxRecDepth 100000
section
variable {w w':World} {M:Mo} {a:Gl} {G:Gr}
theorem Left.pI {w1:World} {a1:Gl} {G':Gr} (h:Left w1 a1 G' w') (hM:ah w M) (hG:bY w a G) (hf:a1.f=a.f) (iC:∀ x,kE a1 x->bC a G x\/w.heap.size<=x) (hO:ab (bC a G) w w1):dL.bh w M a G (lm M) G' w':=by
 obtain ⟨a',qt,Eo,x5,rq⟩:=h
 have hs:=hO.size
 have fN:ab (bC a G) w w':=hO.trans' rq (fun x hx q=>by
  rcases iC x q with q | q
  ·exact q
  ·omega)
 refine oX hM qt (Eo.trans hf) (fun x hx=>?_) hG fN (fun x q=>q)
 rcases x5 x hx with q | q
 ·exact iC x q
 ·exact .inr (Nat.le_trans hs q)
theorem jl.still (h:jl w a G) (ho:ab (fun _=>False) w w'):jl w' a G:=
 ⟨h.own.only ho (by simp),h.fx.only ho (by simp) (by simp) (by simp),h.rws.only ho (by simp),h.later,h.met,h.half,h.lk,h.pass,h.bucket,h.el⟩
set_option maxHeartbeats 2000000 in
theorem Qh (hM:ah w M) (h:bY w a G) (h3:G.nx=3) (hx:G.el.2+G.bucket<M.xs.length) (he:G.el.2<=4000000) (hl:G.later=[]) (hp:G.pass.length<=100000) (hb:G.bucket<=1000000) (hn:G.el.1<=1000000):
 Calls Tryz.prog 188 #[ptr a.f,ptr M.m] w fun e w'=>e=.returned (.bool false)/\dL.bh w M a G (lm M) (dm {G with C:=.new} (Cl.nth M.xs (G.el.2+G.bucket)).toNat) w':=by
 have hL:=fun w1 (aw:ah w1 M)=>Cl.nh aw.2.1 (G.el.2+G.bucket) hx
 have gH:=Cl.eU hM.2.1.2.2.1 (G.el.2+G.bucket)
 obtain ⟨z,hz⟩:=Int.eq_ofNat_of_zero_le gH.1
 rw [hz] at hL gH ⊢
 rw [Int.toNat_natCast]
 have e2:((G.el.2+G.bucket:Nat):Int)=(G.el.2:Int)+(G.bucket:Int):=by omega
 rw [e2] at hL
 replace hL:=Lib.hid hL
 have cz:=Lib.hid (show z<=18446744073709551615 by omega)
 have hN:=Lib.hid (PX w)
 have HM:=Lib.hid hM
 have HG:=Lib.hid h
 replace h3:=Lib.hid h3
 replace hl:=Lib.hid hl
 clear hM h hz gH e2 hx
 go_enter Tryz.func188,Tryz.ntmps188
 go_wp2_with fail
 refine hN.out.mono ?_
 rintro e w1 ⟨c,B,rfl,oe,aD,KR,KS,av⟩
 have ak:=HG.out.ao.only (ab.aA av (fun _=>False)) (by simp)
 have d10:=ak.cell 10
 have y10:=ak.frozen 10
 simp only [bP,List.getElem?_toArray,List.getElem?_cons_succ,List.getElem?_cons_zero] at d10
 have du:Own (w1.setCell ⟨a.f,10,none⟩ (ptr c)) {a with cv:=ptr c,c:=c,B:=B,LA:=none,lcap:=0} {G with C:=.new}:=ak.store 10 (ptr c)
 have ae:=(ab.refl (·=a.f) w1).setCell (p:=⟨a.f,10,none⟩) (.inl rfl) (ptr c)
 have KT:=HG.out.ao.lt
 have KU:jl (w1.setCell ⟨a.f,10,none⟩ (ptr c)) {a with cv:=ptr c,c:=c,B:=B,LA:=none,lcap:=0} {G with C:=.new}:=by
  refine ⟨du,⟨rfl,oe.only ae (by omega),aD.only ae (by omega),Row.nil _ _ _ _,fun x _ b hb=>by simp [In] at hb⟩,?_,hl.out,by simp [Ch.new],by simp [Ch.new],by simp [Ch.new],hp,hb,hn⟩
  have h1:=(HG.out.cV.only (ab.aA av (fun _=>False)) (by simp)).only ae (HG.out.cV.self HG.out.ao)
  rw [h3.out] at h1
  exact ⟨h1.ps,h1.qs,h1.pr,h1.pl,h1.pc,h1.qr,h1.pq⟩
 have aI:=(HM.out.below av).only ae (fun x hx e=>HG.out.aB HM.out (.inl rfl) (e▸hx))
 have hC:=Lib.hid (fun n=>wI (KU.still ((ab.refl (fun _=>False) _).drewN n)) cz.out (by simp [Ch.new]))
 have hO:=Lib.hid ((ab.aA av (bC a G)).trans' ae (fun x _ q=>.inl q))
 have g4:=du.cell 5
 have g9:=du.cell 9
 simp only [bP,List.getElem?_toArray,List.getElem?_cons_succ,List.getElem?_cons_zero] at g4 g9
 have qu:=aI.hd.1
 have iC:Hid (∀ x,kE {a with cv:=ptr c,c:=c,B:=B,LA:=none,lcap:=0} x->bC a G x\/w.heap.size<=x):=Lib.hid (by
  rintro x (rfl | rfl | rfl | q | q)
  ·exact .inl (.inl rfl)
  ·exact .inr KS
  ·exact .inr KR
  ·simp [In] at q
  ·refine .inl (.inr (.inr (.inr (.inr ?_))))
   rw [h3.out]
   exact q)
 have gd:=Lib.hid (fun n=>hL.out _ (aI.drewN n))
 clear oe aD KR KS av ak du ae KT aI hN hL
 go_wp2_with fail
 go_quiet ((go_at_call 90; exact Calls.quiet_of_same ((gd.out _).mono fun _ _ h=>⟨h.1,h.2⟩)))
 clear gd qu g4 g9 d10 y10 KU
 go_wp2_with fail
 refine (hC.out _).mono ?_
 rintro e w4 ⟨rfl,fA⟩
 have hS:=Lib.hid (fA.pI HM.out HG.out rfl iC.out (hO.out.drewN nq))
 clear fA hC
 go_wp2_with fail
 go_ret
 exact ⟨rfl,hS.out⟩
theorem jl.added (h:jl w a G) {x y:Nat} {LA:Option Addr} {lcap:Nat} (hM:dS w' {a with LA:=LA,lcap:=lcap} (G.C.add x y)) (hO:ab (fun x=>x=a.c\/x=a.B\/In a.LA x) w w') (hx:x≠0) (hl:G.C.lk.length<=99999) (hy:y<=1):jl w' {a with LA:=LA,lcap:=lcap} {G with C:=G.C.add x y}:=by
 have hq:a.qs=[]:=by
  have:=h.rws.qs.len
  rw [h.later] at this
  exact List.eq_nil_of_length_eq_zero this
 have hr:eE w' a G.pass G.later true:=by
  refine h.rws.only hO fun x hx hs=>?_
  rcases hs with rfl | rfl | q
  ·exact h.rws.chain h.fx.cb _ hx rfl
  ·exact h.fx.mt.no (h.rws.ty hx)
  ·rcases hx with ⟨_,hx⟩ | hx | ⟨e,he,hx⟩ | ⟨e,he,hx⟩
   ·exact (cw (h.rws.pr rfl) hx).apart (cw h.fx.lr q) (by decide)
   ·exact (cw h.rws.qr hx).apart (cw h.fx.lr q) (by decide)
   ·exact h.fx.ap e he x q hx
   ·rw [hq] at he
    simp at he
 refine ⟨af.only h.own hO fun hs=>?_,hM,⟨hr.ps,hr.qs,hr.pr,hr.pl,hr.pc,hr.qr,hr.pq⟩,h.later,?_,hy,?_,h.pass,h.bucket,h.el⟩
 ·rcases hs with q | q | q
  ·exact h.own.differ h.fx.cb (by decide) q
  ·exact h.fx.mt.no (by rw [<-q]; exact bm h.own)
  ·exact (cw h.fx.lr q).apart (bm h.own) (by decide)
 ·show 0∉x::G.C.met
  intro q
  rcases List.mem_cons.1 q with q | q
  ·exact hx q.symm
  ·exact h.met q
 ·show (Ch.add G.C x y).lk.length<=_
  unfold Ch.add
  simp only
  split
  ·omega
  split
  ·simp; omega
  ·omega
def CH (w wx:World) (nd:Nd) (p e:Value):Prop:=
 ∃ b,p=ptr b/\e=.int .i64 0/\w.heap.size<=b/\af wx b 67 #[.string nd.key,.string nd.val,.int .u32 nd.sum,.int .u64 nd.next]/\Below w.heap.size w wx
structure CI (L:Lm) (G:Gr):Prop where
 live:bj L.ss G.at_ ((G.at_-1) % 65536)
 at_:G.at_<=18446744073709551615
 sum:0<=(aj L.ss ((G.at_-1) % 65536)).nd.sum/\(aj L.ss ((G.at_-1) % 65536)).nd.sum<4294967296
 next:0<=(aj L.ss ((G.at_-1) % 65536)).nd.next/\(aj L.ss ((G.at_-1) % 65536)).nd.next<=18446744073709551615
 fresh:(aj L.ss ((G.at_-1) % 65536)).nd.next.toNat∉G.at_::G.C.met
 hf:ld G (aj L.ss ((G.at_-1) % 65536)).nd.sum<=1
 n:1<=G.el.1/\G.el.1<=65536/\G.nw.1<=131072
 met:0∉G.C.met/\G.C.met.length<=100000
 half:G.C.half<=1
 lk:G.C.lk.length<=99999
 pass:G.pass.length<=100000
 later:G.later=[]
 bucket:G.bucket<=1000000
set_option maxHeartbeats 4000000 in
theorem CJ (hM:ah w M) (h:bY w a G) (ok:CI (lm M) G) (h4:G.nx=4):
 Calls Tryz.prog 221 #[ptr a.f,ptr M.m] w fun e w'=>e=.returned (.bool false)/\dL.bh w M a G (lm M) (dm {G with C:=G.C.add G.at_ (ld G (aj M.ss ((G.at_-1) % 65536)).nd.sum)} (aj M.ss ((G.at_-1) % 65536)).nd.next.toNat) w':=by
 have hR:=Lib.hid (fun (w1:World) (av:Below w.heap.size w w1)=>(yO (hM.below av).2.2.2.1 ok.at_ ok.live).mono fun e w2 q=>show e=.returned (.tuple #[eg (aj M.ss ((G.at_-1) % 65536)).nd,.int .i64 0])/\(Below w.heap.size w w2/\Below w1.heap.size w1 w2) from
  ⟨q.1,av.trans (q.2.mono av.size),q.2⟩)
 have KV:=h.c4 h4
 obtain ⟨Ew,Ex,x6,AD,Ey,Ez,AE,AF,AG,x7,EA,EB,EC⟩:=ok
 generalize bS:(aj M.ss ((G.at_-1) % 65536)).nd=nd at*
 have c11:=h.ao.cell 11
 simp only [bP,List.getElem?_toArray,List.getElem?_cons_succ,List.getElem?_cons_zero] at c11
 have d2:=hM.hd.2.2.1
 have lM:=hM.1.lt
 have lG:=h.ao.lt
 have HM:=Lib.hid hM
 have HG:=Lib.hid h
 have HMid:=Lib.hid KV
 have nm:=World.new_ne w ⟨M.m,2,none⟩ d2
 have nw:=World.new_ne w ⟨a.f,11,none⟩ c11
 unfold eg at hR
 replace Ew:=Lib.hid Ew
 replace x6:=Lib.hid x6
 replace AD:=Lib.hid AD
 replace Ey:=Lib.hid Ey
 replace Ez:=Lib.hid Ez
 replace AE:=Lib.hid AE
 replace AF:=Lib.hid AF
 replace AG:=Lib.hid AG
 replace x7:=Lib.hid x7
 replace EA:=Lib.hid EA
 replace EB:=Lib.hid EB
 replace EC:=Lib.hid EC
 replace h4:=Lib.hid h4
 replace bS:=Lib.hid bS
 replace Ex:=Lib.hid Ex
 clear hM h KV
 go_enter Tryz.func221,Tryz.ntmps221
 go_upto_region 1 with (fail)
 go_cut [5,6] (fun p e wx=>CH w wx nd p e)
 case first=>
  go_region_held3 (fun w'=>w'.cell? ⟨M.m,2,none⟩=some (ptr M.ar)/\w'.cell? ⟨a.f,11,none⟩=some (.int .u64 G.at_)) (go_keep)
   (first
     | (go_at_call 156
        refine (hR.out w.drew ⟨rfl,rfl,rfl,Nat.le_refl _,fun _ _=>rfl⟩).mono ?_
        rintro e w2 ⟨rfl,au,_⟩
        have d2':=(au.cell (p:=⟨M.m,2,none⟩) lM).trans d2
        have c11':=(au.cell (p:=⟨a.f,11,none⟩) lG).trans c11
        have fU:=au.size
        replace au:=Lib.hid au)
     | (go_at_call 156
        refine (hR.out (w.alloc (.cells #[.string ⟨#[]⟩,.string ⟨#[]⟩,.int .u32 0,.int .u64 0] 67)).drew (((Below.refl w.heap.size w).alloc (Nat.le_refl _) _).trans ⟨rfl,rfl,rfl,by simp,fun _ _=>rfl⟩)).mono ?_
        rintro e w2 ⟨rfl,au,aR⟩
        have ag:af w2 w.heap.size 67 #[.string ⟨#[]⟩,.string ⟨#[]⟩,.int .u32 0,.int .u64 0]:=af.only (w:=(w.alloc (.cells #[.string ⟨#[]⟩,.string ⟨#[]⟩,.int .u32 0,.int .u64 0] 67)).drew) (af.made w _ _) (ab.aA aR (fun _=>False)) (by simp)
        have d2':=(au.cell (p:=⟨M.m,2,none⟩) lM).trans d2
        have c11':=(au.cell (p:=⟨a.f,11,none⟩) lG).trans c11
        have fU:=au.size
        have k0:=ag.cell 0
        have k1:=ag.cell 1
        have k2:=ag.cell 2
        have k3:=ag.cell 3
        simp at k0 k1 k2 k3
        have y0:=ag.frozen 0
        have y1:=ag.frozen 1
        have y2:=ag.frozen 2
        have y3:=ag.frozen 3
        replace au:=Lib.hid au
        replace ag:=Lib.hid ag))
  all_goals
   go_wp2_with fail
   go_meet
   first
    | exact ⟨_,rfl,rfl,fU,af.made w2 _ _,au.out.alloc fU _⟩
    | exact ⟨_,rfl,rfl,Nat.le_refl _,(((ag.out.store 0 _).store 1 _).store 2 _).store 3 _,(((au.out.setCell (p:=⟨w.heap.size,0,none⟩) (Nat.le_refl _) _).setCell (p:=⟨w.heap.size,1,none⟩) (Nat.le_refl _) _).setCell (p:=⟨w.heap.size,2,none⟩) (Nat.le_refl _) _).setCell (p:=⟨w.heap.size,3,none⟩) (Nat.le_refl _) _⟩
 case rest=>
  obtain ⟨b,rfl,rfl,bW,hB,av⟩:=hcut
  clear hR c11 d2 nm nw
  have ak:=HG.out.ao.only (ab.aA av (fun _=>False)) (by simp)
  have vg:dS wc a G.C:=HMid.out.only (ab.aA av (fun _=>False)) (by simp) (by simp) (by simp)
  have x8:=HG.out.cV.only (ab.aA av (fun _=>False)) (by simp)
  rw [h4.out] at x8
  have c4:=ak.cell 4
  have c6:=ak.cell 6
  have c10:=ak.cell 10
  have c11:=ak.cell 11
  have k2:=hB.cell 2
  have k3:=hB.cell 3
  simp only [bP,List.getElem?_toArray,List.getElem?_cons_succ,List.getElem?_cons_zero,vg.cv] at c4 c6 c10 c11 k2 k3
  obtain ⟨v,hv⟩:∃ v,v=FM.bucket nd.sum G.nw.1:=⟨_,rfl⟩
  have x9:=qR nd.sum G.nw.1 x6.out.1
  have pj:=fun w'=>lO.zp nd.sum G.nw.1 w' x6.out.1 x6.out.2 (by omega) (by have:=AE.out; omega)
  rw [<-hv] at pj x9
  replace pj:=Lib.hid pj
  have eR:=AE.out
  have hx:ld G nd.sum=(v / G.el.1).toNat:=by unfold ld; rw [hv]
  have lE:0<=v / (G.el.1:Int):=Int.ediv_nonneg x9.1 (by omega)
  obtain ⟨y,hy⟩:=Int.eq_ofNat_of_zero_le lE
  have xB:ld G nd.sum=y:=by rw [hx,hy]; rfl
  have ri:y<=1:=by have:=Ez.out; omega
  have X3:v.tdiv (G.el.1:Int)=y:=by rw [Int.tdiv_eq_ediv_of_nonneg x9.1]; exact hy
  have Ej:IntKind.i64.wrap (y:Int)=y:=IntWalk.i64_in _ (by omega)
  have sZ:((G.el.1:Int)==0)=false:=by simp; omega
  have gV:¬(G.el.1=0):=by omega
  have aV:∀ e∈a.ps,∀ x,In e.A x->x<wc.heap.size:=fun e he x hx=>x8.lt (.inr (.inr (.inl ⟨e,he,hx⟩)))
  have hAdd:=Lib.hid (fun n=>Qb (vg.only ((ab.refl (fun _=>False) wc).drewN n) (by simp) (by simp) (by simp)) (x:=G.at_) (y:=y) Ex.out (by have:=AF.out; omega) ri AG.out (by have:=x7.out; omega) aV)
  obtain ⟨z,hz⟩:=Int.eq_ofNat_of_zero_le AD.out.1
  rw [hz] at hB k3
  have po:=Lib.hid (show z<=18446744073709551615 by have:=AD.out; omega)
  have Wz:Hid (z∉(G.C.add G.at_ y).met):=Lib.hid (by
   have:=Ey.out
   rw [hz,Int.toNat_natCast] at this
   exact this)
  have cy:Hid (G.at_≠0):=Lib.hid Ew.out.pos
  have ib:=Lib.hid vg.cv
  have WA:Hid (jl wc a G):=Lib.hid ⟨ak,vg,x8,EB.out,AF.out.1,AG.out,by have:=x7.out; omega,EA.out,EC.out,by omega⟩
  have b9:=Lib.hid x7.out
  have tx:Hid (¬(b=a.c\/b=a.B\/In a.LA b)):=Lib.hid (by
   rintro (q | q | q)
   ·have:=HMid.out.cb.lt; omega
   ·have:=HMid.out.mt.lt; omega
   ·have:=HMid.out.lr.lt q; omega)
  have vh:Hid (nd.next.toNat=z):=Lib.hid (by rw [hz]; rfl)
  replace ak:=Lib.hid ak
  replace vg:=Lib.hid vg
  replace x8:=Lib.hid x8
  replace hB:=Lib.hid hB
  replace av:=Lib.hid av
  replace aV:=Lib.hid aV
  replace hv:=Lib.hid hv
  replace hx:=Lib.hid hx
  replace hy:=Lib.hid hy
  replace xB:=Lib.hid xB
  go_upto_region 5 with (fail)
  go_region_held3 (fun w'=>w'.cell? ⟨a.f,4,none⟩=some (.int .i64 G.el.1)/\w'.cell? ⟨a.f,6,none⟩=some (.int .i64 G.nw.1)/\w'.cell? ⟨a.f,10,none⟩=some (ptr a.c)/\w'.cell? ⟨a.f,11,none⟩=some (.int .u64 G.at_)/\w'.cell? ⟨b,2,none⟩=some (.int .u32 nd.sum)) (go_keep)
   (first
     | (go_at_call 201
        refine (pj.out _).mono ?_
        rintro e w3 ⟨rfl,cX⟩
        obtain rfl:=cX.symm)
     | (go_at_call 232
        refine (hAdd.out 1).mono ?_
        rintro e w4 ⟨rfl,LA,lcap,KW,KX,aN⟩
        have vi:=(WA.out.still ((ab.refl (fun _=>False) wc).drewN 1)).added (y:=y) KW aN cy.out b9.out ri
        have KY:=tx.out
        have vj:af w4 b 67 #[.string nd.key,.string nd.val,.int .u32 nd.sum,.int .u64 z]:=(hB.out.only ((ab.refl (fun _=>False) wc).drewN 1) (by simp)).only aN KY
        have r4:=vi.own.cell 4
        have r6:=vi.own.cell 6
        have r10:=vi.own.cell 10
        have r11:=vi.own.cell 11
        have r2:=vj.cell 2
        have k3':=vj.cell 3
        simp only [bP,List.getElem?_toArray,List.getElem?_cons_succ,List.getElem?_cons_zero,ib.out] at r4 r6 r10 r11 r2 k3'
        have rv:=Lib.hid (wI vi po.out Wz.out)
        have bE:ab (bC a G) w w4:=((ab.aA av.out (bC a G)).drewN 1).trans' aN (fun x _ q=>by
         rcases q with q | q | q
         ·exact .inr (.inl ⟨.inl h4.out,q⟩)
         ·exact .inr (.inr (.inl ⟨h4.out,.inl q⟩))
         ·exact .inr (.inr (.inl ⟨h4.out,.inr q⟩)))
        have ED:∀ x,kE {a with LA:=LA,lcap:=lcap} x->bC a G x\/w.heap.size<=x:=by
         rintro x (q | q | q | q | q)
         ·exact .inl (.inl q)
         ·exact .inl (.inr (.inl ⟨.inl h4.out,q⟩))
         ·exact .inl (.inr (.inr (.inl ⟨h4.out,.inl q⟩)))
         ·rcases KX x q with q | q
          ·exact .inl (.inr (.inr (.inl ⟨h4.out,.inr q⟩)))
          ·exact .inr (Nat.le_trans av.out.size q)
         ·refine .inl (.inr (.inr (.inr (.inr ?_))))
          rw [h4.out]
          exact q
        replace bE:=Lib.hid bE
        replace ED:=Lib.hid ED
        clear KW aN KX vi vj KY hAdd))
  go_wp2_with fail
  refine rv.out.mono ?_
  rintro e w5 ⟨rfl,fA⟩
  have hS:=Lib.hid (fA.pI HM.out HG.out rfl ED.out bE.out)
  clear fA rv
  go_wp2_with fail
  go_ret
  exact ⟨rfl,by rw [xB.out,vh.out]; exact hS.out⟩
end
end Go.Proofs.YtpanebgakndddaaGreat.Gw
namespace Go.Proofs.YtpanebgakndddaaGreat.Gw
open Go Go.RowKit Hp K Fl Rw Hm Ar Mm Me Qs Wk Pn
set_option maxRecDepth 100000
section
variable {w w':World} {M:Mo} {a:Gl} {G:Gr}
theorem HX (h5:G.nx=5) {k:Nat} (x:Nat) (hx:bC a (bI {G with half:=G.half+1}) x):bC a G x\/k<=x:=by
 obtain ⟨e1,e2,e3,e4⟩:=uk {G with half:=G.half+1}
 rcases hx with rfl | ⟨_,rfl⟩ | ⟨q,_⟩ | ⟨q,_⟩ | hx
 ·exact .inl (.inl rfl)
 ·exact .inl (.inr (.inl ⟨.inr h5,rfl⟩))
 ·omega
 ·omega
 ·refine .inl (.inr (.inr (.inr (.inr ?_))))
  rw [show decide ((bI {G with half:=G.half+1}).nx<=6)=true by simp; omega] at hx
  rw [h5]
  exact hx
def CK (w:World) (M:Mo) (a:Gl) (G:Gr) (k x:Nat) (w':World):Prop:=ah w' {M with xs:=M.xs.set k (x:Int)}/\bY w' a G/\ab (aq M) w w'
theorem um (hM:ah w M) (h:bY w a G) (k:Nat) (hk:k<M.xs.length) (x:Nat) (hx:x<=18446744073709551615) (w1:World) (h0:ab (fun _=>False) w w1):
 Calls Tryz.prog 45 #[ptr M.g,.int .i64 k,.int .u64 x] w1 fun e w'=>e=.returned (.int .i64 0)/\CK w M a G k x w':=
 (Cl.vU (hM.only h0 (by simp)).2.1 k hk (x:Int) (by omega) (by omega)).mono fun e w' q=>by
   have ho:ab (aq M) w w':=(h0.mono (fun x _ q=>q.elim)).trans' q.2.2 (fun x _ q=>.inr (.inl q))
   exact ⟨q.1,(hM.only h0 (by simp)).cells q.2.1 q.2.2,h.only ho (fun x hx q=>h.aB hM hx q),ho⟩
set_option maxHeartbeats 2000000 in
theorem Qi (hM:ah w M) (h:bY w a G) (h5:G.nx=5) (hh:G.half=0) (hx:G.nw.2+G.bucket<M.xs.length) (hf:G.C.fi.1<=18446744073709551615) (hb:G.bucket<=1000000) (hn:G.el.1<=1000000) (hw:G.nw.2<=4000000):
 Calls Tryz.prog 239 #[ptr a.f,ptr M.m] w fun e w'=>e=.returned (.bool false)/\dL.bh w M a G {lm M with xs:=M.xs.set (G.nw.2+G.bucket) ((G.C.fi.1:Nat):Int)} (bI {G with half:=1}) w':=by
 obtain ⟨ib,hF⟩:=h.c5 h5
 have f0:=hF.hd.1
 have c4:=h.ao.cell 4
 have c7:=h.ao.cell 7
 have c9:=h.ao.cell 9
 have c10:=h.ao.cell 10
 have c12:=h.ao.cell 12
 simp only [bP,List.getElem?_toArray,List.getElem?_cons_succ,List.getElem?_cons_zero,ib,hh] at c4 c7 c9 c10 c12
 have d0:=hM.hd.1
 have cR:=um hM h (G.nw.2+G.bucket) hx G.C.fi.1 hf
 have e1:((G.nw.2+G.bucket:Nat):Int)=(G.nw.2:Int)+(G.bucket:Int):=by omega
 rw [e1] at cR
 replace cR:=Lib.hid cR
 have HM:=Lib.hid hM
 have HG:=Lib.hid h
 replace hF:=Lib.hid hF
 replace ib:=Lib.hid ib
 replace hh:=Lib.hid hh
 replace h5:=Lib.hid h5
 obtain ⟨fv,kQ⟩:∃ v,v=G.C.fi.1:=⟨_,rfl⟩
 rw [<-kQ] at cR f0 ⊢
 replace kQ:=Lib.hid kQ
 have ew:IntKind.i64.wrap ((G.nw.2:Int)+(G.bucket:Int))=(G.nw.2:Int)+(G.bucket:Int):=IntWalk.i64_in _ (by omega)
 clear h hM hf hx e1
 go_enter Tryz.func239,Tryz.ntmps239
 go_wp2_with fail
 go_quiet (fail)
 have hq:=Lib.hid ((ab.refl (fun _=>False) w).drewN nq)
 have g0:(w.drewN nq).cell? ⟨a.c,0,none⟩=some (.int .u64 fv):=f0
 have g7:(w.drewN nq).cell? ⟨a.f,7,none⟩=some (.int .i64 G.nw.2):=c7
 have g10:(w.drewN nq).cell? ⟨a.f,10,none⟩=some (ptr a.c):=c10
 have g12:(w.drewN nq).cell? ⟨a.f,12,none⟩=some (.int .i64 0):=c12
 have g00:(w.drewN nq).cell? ⟨M.m,0,none⟩=some (ptr M.g):=d0
 clear f0 c4 c7 c9 c10 c12 d0
 generalize w.drewN nq=wq at*
 go_upto_region 2 with (fail)
 go_region_held3 (fun w'=>w'.cell? ⟨M.m,0,none⟩=some (ptr M.g)/\w'.cell? ⟨a.f,7,none⟩=some (.int .i64 G.nw.2)/\w'.cell? ⟨a.f,10,none⟩=some (ptr a.c)/\w'.cell? ⟨a.f,12,none⟩=some (.int .i64 0)/\w'.cell? ⟨a.c,0,none⟩=some (.int .u64 fv)) (go_keep)
  (first
    | (go_at_call 45
       refine (cR.out (wq.drewN 1) (hq.out.drewN 1)).mono ?_
       rintro e w1 ⟨rfl,aw,ak,bE⟩
       have p7:=ak.ao.cell 7
       have p10:=ak.ao.cell 10
       have p12:=ak.ao.cell 12
       have y12:=ak.ao.frozen 12
       have p0:=(ak.c5 h5.out).2.hd.1
       have p00:=aw.hd.1
       simp only [bP,List.getElem?_toArray,List.getElem?_cons_succ,List.getElem?_cons_zero,ib.out,hh.out] at p7 p10 p12
       rw [<-kQ.out] at p0
       replace aw:=Lib.hid aw
       replace ak:=Lib.hid ak
       replace bE:=Lib.hid bE
       clear cR))
 have ag:Own (w1.setCell ⟨a.f,12,none⟩ (.int .i64 (1))) a {G with half:=1}:=ak.out.ao.store 12 (.int .i64 (1))
 have ae:=(ab.refl (·=a.f) w1).setCell (p:=⟨a.f,12,none⟩) (.inl rfl) (.int .i64 (1))
 have aP:=(ak.out.c5 h5.out).2.only ae ((ak.out.c5 h5.out).2.ne ak.out.ao)
 have hT:=Lib.hid (oW ag ib.out aP (by simp) hb hn)
 have dW:=Lib.hid (ak.out.aB aw.out (x:=a.f) (.inl rfl))
 have aI:=Lib.hid (aw.out.only ae (fun x hx e=>dW.out (e▸hx)))
 have iA:=Lib.hid (ak.out.cV.self ak.out.ao)
 have bG:=Lib.hid (ak.out.cV.only ae iA.out)
 have an:=Lib.hid ((bE.out.mono (fun x _ q=>(.inl q:aq M x\/bC a G x))).trans' ae (fun x _ q=>.inr (.inl q)))
 replace aP:=Lib.hid aP
 replace ag:=Lib.hid ag
 clear ae p7 p10 p0 p00
 go_wp2_with fail
 refine hT.out.mono ?_
 rintro e w3 ⟨rfl,ay,aN⟩
 have hE:Hid (dL.bh w M a G {lm M with xs:=M.xs.set (G.nw.2+G.bucket) (fv:Int)} (bI {G with half:=1}) w3):=Lib.hid (by
  rw [kQ.out] at*
  obtain ⟨e1,e2,e3,e4⟩:=uk {G with half:=1}
  refine ⟨_,a,aI.out.only aN (fun x hx e=>dW.out (e▸hx)),rfl,⟨rfl,rfl,rfl,rfl,fun x q=>.inl q⟩,?_,rfl,?_,an.out.trans' aN (fun x _ q=>.inr (.inl q))⟩
  ·refine ⟨ay,fun q=>by omega,fun _=>⟨ib.out,by rw [e1]; exact aP.out.only aN (aP.out.ne ag.out)⟩,fun q=>by omega,?_⟩
   rw [e2,e3,show decide ((bI {G with half:=1}).nx<=6)=true by simp; omega]
   have:=bG.out.only aN iA.out
   rw [h5.out] at this
   exact this
  ·have:=@HX a G h5.out w.heap.size
   rw [hh.out] at this
   exact this)
 clear ay aN hT
 go_wp2_with fail
 go_ret
 exact ⟨rfl,hE.out⟩
set_option maxHeartbeats 2000000 in
theorem Qj (hM:ah w M) (h:bY w a G) (h5:G.nx=5) (hh:G.half=1) (hx:G.nw.2+(G.bucket+G.el.1)<M.xs.length) (hf:G.C.fi.2<=18446744073709551615) (hb:G.bucket<=1000000) (hn:G.el.1<=1000000) (hw:G.nw.2<=4000000):
 Calls Tryz.prog 239 #[ptr a.f,ptr M.m] w fun e w'=>e=.returned (.bool false)/\dL.bh w M a G {lm M with xs:=M.xs.set (G.nw.2+(G.bucket+G.el.1)) ((G.C.fi.2:Nat):Int)} (bI {G with half:=2}) w':=by
 obtain ⟨ib,hF⟩:=h.c5 h5
 have f1:=hF.hd.2
 have c4:=h.ao.cell 4
 have c7:=h.ao.cell 7
 have c9:=h.ao.cell 9
 have c10:=h.ao.cell 10
 have c12:=h.ao.cell 12
 simp only [bP,List.getElem?_toArray,List.getElem?_cons_succ,List.getElem?_cons_zero,ib,hh] at c4 c7 c9 c10 c12
 have d0:=hM.hd.1
 have cR:=um hM h (G.nw.2+(G.bucket+G.el.1)) hx G.C.fi.2 hf
 have e1:((G.nw.2+(G.bucket+G.el.1):Nat):Int)=(G.nw.2:Int)+((G.bucket:Int)+(G.el.1:Int)):=by omega
 rw [e1] at cR
 replace cR:=Lib.hid cR
 have HM:=Lib.hid hM
 have HG:=Lib.hid h
 replace hF:=Lib.hid hF
 replace ib:=Lib.hid ib
 replace hh:=Lib.hid hh
 replace h5:=Lib.hid h5
 obtain ⟨fv,kQ⟩:∃ v,v=G.C.fi.2:=⟨_,rfl⟩
 rw [<-kQ] at cR f1 ⊢
 replace kQ:=Lib.hid kQ
 have ew:IntKind.i64.wrap ((G.nw.2:Int)+((G.bucket:Int)+(G.el.1:Int)))=(G.nw.2:Int)+((G.bucket:Int)+(G.el.1:Int)):=IntWalk.i64_in _ (by omega)
 clear h hM hf hx e1
 go_enter Tryz.func239,Tryz.ntmps239
 go_wp2_with fail
 go_quiet (fail)
 have hq:=Lib.hid ((ab.refl (fun _=>False) w).drewN nq)
 have g0:(w.drewN nq).cell? ⟨a.c,1,none⟩=some (.int .u64 fv):=f1
 have g7:(w.drewN nq).cell? ⟨a.f,7,none⟩=some (.int .i64 G.nw.2):=c7
 have g10:(w.drewN nq).cell? ⟨a.f,10,none⟩=some (ptr a.c):=c10
 have g12:(w.drewN nq).cell? ⟨a.f,12,none⟩=some (.int .i64 1):=c12
 have g00:(w.drewN nq).cell? ⟨M.m,0,none⟩=some (ptr M.g):=d0
 clear f1 c4 c7 c9 c10 c12 d0
 generalize w.drewN nq=wq at*
 go_upto_region 2 with (fail)
 go_region_held3 (fun w'=>w'.cell? ⟨M.m,0,none⟩=some (ptr M.g)/\w'.cell? ⟨a.f,7,none⟩=some (.int .i64 G.nw.2)/\w'.cell? ⟨a.f,10,none⟩=some (ptr a.c)/\w'.cell? ⟨a.f,12,none⟩=some (.int .i64 1)/\w'.cell? ⟨a.c,1,none⟩=some (.int .u64 fv)) (go_keep)
  (first
    | (go_at_call 45
       refine (cR.out (wq.drewN 1) (hq.out.drewN 1)).mono ?_
       rintro e w1 ⟨rfl,aw,ak,bE⟩
       have p7:=ak.ao.cell 7
       have p10:=ak.ao.cell 10
       have p12:=ak.ao.cell 12
       have y12:=ak.ao.frozen 12
       have p0:=(ak.c5 h5.out).2.hd.2
       have p00:=aw.hd.1
       simp only [bP,List.getElem?_toArray,List.getElem?_cons_succ,List.getElem?_cons_zero,ib.out,hh.out] at p7 p10 p12
       rw [<-kQ.out] at p0
       replace aw:=Lib.hid aw
       replace ak:=Lib.hid ak
       replace bE:=Lib.hid bE
       clear cR))
 have ag:Own (w1.setCell ⟨a.f,12,none⟩ (.int .i64 (2))) a {G with half:=2}:=ak.out.ao.store 12 (.int .i64 (2))
 have ae:=(ab.refl (·=a.f) w1).setCell (p:=⟨a.f,12,none⟩) (.inl rfl) (.int .i64 (2))
 have aP:=(ak.out.c5 h5.out).2.only ae ((ak.out.c5 h5.out).2.ne ak.out.ao)
 have hT:=Lib.hid (oW ag ib.out aP (by simp) hb hn)
 have dW:=Lib.hid (ak.out.aB aw.out (x:=a.f) (.inl rfl))
 have aI:=Lib.hid (aw.out.only ae (fun x hx e=>dW.out (e▸hx)))
 have iA:=Lib.hid (ak.out.cV.self ak.out.ao)
 have bG:=Lib.hid (ak.out.cV.only ae iA.out)
 have an:=Lib.hid ((bE.out.mono (fun x _ q=>(.inl q:aq M x\/bC a G x))).trans' ae (fun x _ q=>.inr (.inl q)))
 replace aP:=Lib.hid aP
 replace ag:=Lib.hid ag
 clear ae p7 p10 p0 p00
 go_wp2_with fail
 refine hT.out.mono ?_
 rintro e w3 ⟨rfl,ay,aN⟩
 have hE:Hid (dL.bh w M a G {lm M with xs:=M.xs.set (G.nw.2+(G.bucket+G.el.1)) (fv:Int)} (bI {G with half:=2}) w3):=Lib.hid (by
  rw [kQ.out] at*
  obtain ⟨e1,e2,e3,e4⟩:=uk {G with half:=2}
  refine ⟨_,a,aI.out.only aN (fun x hx e=>dW.out (e▸hx)),rfl,⟨rfl,rfl,rfl,rfl,fun x q=>.inl q⟩,?_,rfl,?_,an.out.trans' aN (fun x _ q=>.inr (.inl q))⟩
  ·refine ⟨ay,fun q=>by omega,fun _=>⟨ib.out,by rw [e1]; exact aP.out.only aN (aP.out.ne ag.out)⟩,fun q=>by omega,?_⟩
   rw [e2,e3,show decide ((bI {G with half:=2}).nx<=6)=true by simp; omega]
   have:=bG.out.only aN iA.out
   rw [h5.out] at this
   exact this
  ·have:=@HX a G h5.out w.heap.size
   rw [hh.out] at this
   exact this)
 clear ay aN hT
 go_wp2_with fail
 go_ret
 exact ⟨rfl,hE.out⟩
theorem wL (hM:ah w M) (h:bY w a G) (h5:G.nx=5) (hh:G.half<=1) (hx:G.nw.2+(G.bucket+G.half*G.el.1)<M.xs.length) (hf:cG G.C.fi G.half<=18446744073709551615) (hb:G.bucket<=1000000) (hn:G.el.1<=1000000) (hw:G.nw.2<=4000000):
 Calls Tryz.prog 239 #[ptr a.f,ptr M.m] w fun e w'=>e=.returned (.bool false)/\dL.bh w M a G {lm M with xs:=M.xs.set (G.nw.2+(G.bucket+G.half*G.el.1)) ((cG G.C.fi G.half:Nat):Int)} (bI {G with half:=G.half+1}) w':=by
 rcases (show G.half=0\/G.half=1 by omega) with pt | pt
 ·rw [pt] at hx hf ⊢
  simp only [Nat.zero_mul,Nat.add_zero] at hx ⊢
  exact Qi hM h h5 pt hx hf hb hn hw
 ·rw [pt] at hx hf ⊢
  simp only [Nat.one_mul] at hx ⊢
  exact Qj hM h h5 pt hx hf hb hn hw
end
end Go.Proofs.YtpanebgakndddaaGreat.Gw
namespace Go.Proofs.YtpanebgakndddaaGreat.Gw
open Go Go.RowKit Hp K Fl Rw Hm Ar Mm Me Qs Wk Pn
set_option maxRecDepth 100000
section
variable {w w':World} {M:Mo} {a:Gl} {G:Gr}
theorem Qk {w1 w2:World} {a1:Gl} {G1:Gr} {b:Nat} (hB:Own w2 {a1 with wv:=ptr b,w:=b} {G1 with nx:=7}) (hW:dr w2 b ⟨G1.worker,0,0,0⟩) (hR:eE w1 a1 G1.pass G1.later false) (hO:ab (·=a1.f) w1 w2) (hS:∀ x,fu a1 false x->x≠a1.f):bY w2 {a1 with wv:=ptr b,w:=b} (eo G1):=by
 have bG:=hR.only hO hS
 exact ⟨hB,fun q=>by simp [eo] at q,fun q=>by simp [eo] at q,fun _=>⟨rfl,hW⟩,⟨bG.ps,bG.qs,fun q=>by simp [eo] at q,bG.pl,bG.pc,bG.qr,bG.pq⟩⟩
set_option maxHeartbeats 2000000 in
theorem CL (hM:ah w M) (h:bY w a G) (h6:G.nx=6) (hx:1<M.xs.length) (hn:0<=G.num/\G.num<=1000000):
 Calls Tryz.prog 240 #[ptr a.f,ptr M.m] w fun e w'=>e=.returned (.bool false)/\dL.bh w M a G {lm M with xs:=M.xs.set 1 G.num} (eo G) w':=by
 obtain ⟨z,hz⟩:=Int.eq_ofNat_of_zero_le hn.1
 have c8:=h.ao.cell 8
 simp only [bP,List.getElem?_toArray,List.getElem?_cons_succ,List.getElem?_cons_zero] at c8
 have cR:=um hM h 1 hx z (by omega)
 rw [hz] at c8 ⊢
 have ez:IntKind.u64.wrap (z:Int)=z:=by rw [IntKind.wrap_u64]; omega
 have d0:=hM.hd.1
 replace cR:=Lib.hid cR
 have HM:=Lib.hid hM
 have HG:=Lib.hid h
 replace hz:=Lib.hid hz
 replace h6:=Lib.hid h6
 clear h hM hn
 go_enter Tryz.func240,Tryz.ntmps240
 go_wp2_with fail
 go_region_held3 (fun w'=>w'.cell? ⟨M.m,0,none⟩=some (ptr M.g)/\w'.cell? ⟨a.f,8,none⟩=some (.int .i64 z)) (go_keep)
  (first
    | (go_at_call 45
       refine (cR.out (w.drewN 1) ((ab.refl (fun _=>False) w).drewN 1)).mono ?_
       rintro e w1 ⟨rfl,aw,ak,bE⟩
       have p8:=ak.ao.cell 8
       have p00:=aw.hd.1
       simp only [bP,List.getElem?_toArray,List.getElem?_cons_succ,List.getElem?_cons_zero,hz.out] at p8
       have mh:=Lib.hid (wJ ak.ao)
       replace aw:=Lib.hid aw
       replace ak:=Lib.hid ak
       replace bE:=Lib.hid bE
       clear cR))
 clear p8 p00
 go_wp2_with fail
 refine mh.out.mono ?_
 rintro e w2 ⟨b,rfl,ag,fk,fI,ae⟩
 have hE:Hid (dL.bh w M a G {lm M with xs:=M.xs.set 1 (z:Int)} (eo G) w2):=Lib.hid (by
  have hR:=ak.out.cV.stop
  have iA:=ak.out.cV.self ak.out.ao
  refine ⟨_,{a with wv:=ptr b,w:=b},aw.out.only ae (fun x hx e=>ak.out.aB aw.out (x:=a.f) (.inl rfl) (e▸hx)),rfl,⟨rfl,rfl,rfl,rfl,fun x q=>.inl q⟩,Qk ag fk hR ae (fun x hx=>iA x (by
   rcases hx with ⟨q,hx⟩ | hx
   ·exact .inl ⟨.inl (q.resolve_right (by simp)),hx⟩
   ·exact .inr hx)),rfl,fun x hx=>?_,(bE.out.mono (fun x _ q=>(.inl q:aq M x\/bC a G x))).trans' ae (fun x _ q=>.inr (.inl q))⟩
  have hs:=bE.out.size
  rcases hx with rfl | ⟨q,_⟩ | ⟨q,_⟩ | ⟨_,rfl⟩ | hx
  ·exact .inl (.inl rfl)
  ·simp [eo] at q
  ·simp [eo] at q
  ·exact .inr (Nat.le_trans hs fI)
  ·refine .inl (.inr (.inr (.inr (.inr ?_))))
   rcases hx with ⟨q,hx⟩ | hx
   ·exact .inl ⟨.inl (q.resolve_right (by simp [eo])),hx⟩
   ·exact .inr hx)
 clear ag fk fI ae mh
 go_wp2_with fail
 go_ret
 exact ⟨rfl,hE.out⟩
theorem bY.waited {M':Mo} {W':Wt} (h:bY w a G) (hM:ah w M) (h7:G.nx=7) (hW:dr w' a.w W') (ho:ab (fun x=>aq M x\/x=a.w) w w'):bY w' a {G with W:=W'}:=by
 have hw:=h.wt h7
 refine ⟨h.ao.only ho ?_,fun q=>by simp only at q; omega,fun q=>by simp only at q; omega,fun _=>⟨hw.1,hW⟩,h.cV.only ho fun x hx q=>?_⟩
 ·rintro (q | q)
  ·exact h.aB hM (.inl rfl) q
  ·exact h.ao.differ hw.2 (by decide) q
 ·rcases q with q | rfl
  ·exact h.aB hM (.inr (.inr (.inr (.inr hx)))) q
  ·exact (h.cV.ty hx).apart (bm hw.2) (by decide)
set_option maxHeartbeats 2000000 in
theorem Ql {n:Nat} (hM:ah w M) (h:bY w a G) (h7:G.nx=7) (hn:M.k=n) (ok:eV n M.xs M.hs G.W) (hr:iI M.xs M.hs G.W=true):
 Calls Tryz.prog 244 #[ptr a.f,ptr M.m] w fun e w'=>e=.returned (.bool (decide (G.W.at_=3/\G.pass=[])))/\
  dL.bh w M a G {lm M with xs:=(aW n M.xs M.hs G.W).1,hs:=(aW n M.xs M.hs G.W).2.1} {G with W:=(aW n M.xs M.hs G.W).2.2,nx:=if G.W.at_=3 then (if G.pass=[] then 9 else 8) else 7} w':=by
 obtain ⟨AH,hW⟩:=h.wt h7
 have hS:=(CM hM hW hn ok hr).mono fun e w1 q=>
  show e=.returned (.bool (decide (G.W.at_=3)))/\ah w1 {M with xs:=(aW n M.xs M.hs G.W).1,hs:=(aW n M.xs M.hs G.W).2.1}/\bY w1 a {G with W:=(aW n M.xs M.hs G.W).2.2}/\ab (fun x=>aq M x\/bC a G x) w w1 from
   ⟨q.1,q.2.1,h.waited (M':=M) hM h7 q.2.2.1 q.2.2.2,q.2.2.2.mono (fun x _ y=>y.imp id (fun e=>.inr (.inr (.inr (.inl ⟨h7,e⟩)))))⟩
 have c13:=h.ao.cell 13
 simp only [bP,List.getElem?_toArray,List.getElem?_cons_succ,List.getElem?_cons_zero,AH] at c13
 generalize (aW n M.xs M.hs G.W).1=xs' at*
 generalize (aW n M.xs M.hs G.W).2.1=hs' at*
 generalize (aW n M.xs M.hs G.W).2.2=W' at*
 have ic:=h.cV.ps.len
 have HM:=Lib.hid hM
 have HG:=Lib.hid h
 replace h7:=Lib.hid h7
 have iO:Hid (∀ w1 w2 n2,ah w1 {M with xs:=xs',hs:=hs'}->bY w1 a {G with W:=W'}->ab (fun x=>aq M x\/bC a G x) w w1->n2=8\/n2=9->Own w2 a {G with W:=W',nx:=n2}->ab (·=a.f) w1 w2->dL.bh w M a G {lm M with xs:=xs',hs:=hs'} {G with W:=W',nx:=n2} w2):=Lib.hid (by
  intro w1 w2 n2 aw ak ax gV ag ae
  have hR:=(ak.cV.only ae (ak.cV.self ak.ao)).stop
  refine ⟨_,a,aw.only ae (fun x hx e=>ak.aB aw (x:=a.f) (.inl rfl) (e▸hx)),rfl,⟨rfl,rfl,rfl,rfl,fun x q=>.inl q⟩,⟨ag,fun q=>by simp only at q; omega,fun q=>by simp only at q; omega,fun q=>by simp only at q; omega,?_⟩,rfl,CB (G':={G with W:=W'}) (by omega) (fun q=>by simp at q; omega),ax.trans' ae (fun x _ q=>.inr (.inl q))⟩
  show eE w2 a G.pass G.later (decide (n2<=6))
  rw [show decide (n2<=6)=false by simp; omega]
  exact hR)
 by_cases h3:G.W.at_=3
 ·rw [show decide (G.W.at_=3)=true by simp [h3]] at hS
  replace hS:=Lib.hid hS
  rw [if_pos h3]
  by_cases hp:G.pass=[]
  ·rw [if_pos hp,show decide (G.W.at_=3/\G.pass=[])=true by simp [h3,hp]]
   rw [hp] at ic
   replace ic:=Lib.hid ic
   clear h hM ok hr hn h3 hp hW AH
   go_enter Tryz.func244,Tryz.ntmps244
   go_wp2_with fail
   refine hS.out.mono ?_
   rintro e w1 ⟨rfl,aw,ak,ax⟩
   have p14:=ak.ao.cell 14
   simp only [bP,List.getElem?_toArray,List.getElem?_cons_succ,List.getElem?_cons_zero,ic.out,List.length_nil] at p14
   have hF:=Lib.hid (HR ak.ao)
   replace aw:=Lib.hid aw
   replace ak:=Lib.hid ak
   replace ax:=Lib.hid ax
   clear hS c13
   go_wp2_with fail
   refine hF.out.mono ?_
   rintro e w2 ⟨rfl,ag,ae⟩
   have hE:=Lib.hid (iO.out w1 w2 9 aw.out ak.out ax.out (.inr rfl) ag ae)
   clear ag ae hF p14
   go_wp2_with fail
   go_ret
   exact ⟨rfl,hE.out⟩
  ·rw [if_neg hp,show decide (G.W.at_=3/\G.pass=[])=false by simp [hp]]
   have ou:0<a.ps.length:=by rw [ic]; exact List.length_pos_iff.2 hp
   have eD:=h.cV.pc
   simp only [maxLen] at eD
   generalize eQ:a.ps.length=m at*
   replace eQ:=Lib.hid eQ
   have q0:((m:Int)==0)=false:=by simp; omega
   clear h hM ok hr hn h3 hp hW AH ic
   go_enter Tryz.func244,Tryz.ntmps244
   go_wp2_with fail
   refine hS.out.mono ?_
   rintro e w1 ⟨rfl,aw,ak,ax⟩
   have p14:=ak.ao.cell 14
   simp only [bP,List.getElem?_toArray,List.getElem?_cons_succ,List.getElem?_cons_zero,eQ.out] at p14
   have hF:=Lib.hid (et ak.ao (n:=8) (by omega) rfl)
   replace aw:=Lib.hid aw
   replace ak:=Lib.hid ak
   replace ax:=Lib.hid ax
   clear hS c13
   go_wp2_with fail
   refine hF.out.mono ?_
   rintro e w2 ⟨rfl,ag,ae⟩
   have hE:=Lib.hid (iO.out w1 w2 8 aw.out ak.out ax.out (.inl rfl) ag ae)
   clear ag ae hF p14
   go_wp2_with fail
   go_ret
   exact ⟨rfl,hE.out⟩
 ·rw [show decide (G.W.at_=3)=false by simp [h3]] at hS
  rw [if_neg h3,show decide (G.W.at_=3/\G.pass=[])=false by simp [h3]]
  replace hS:=Lib.hid hS
  clear h hM ok hr hn h3 hW AH ic iO
  go_enter Tryz.func244,Tryz.ntmps244
  go_wp2_with fail
  refine hS.out.mono ?_
  rintro e w1 ⟨rfl,aw,ak,ax⟩
  have e7:Hid ({G with W:=W',nx:=7}=({G with W:=W'}:Gr)):=Lib.hid (by rw [<-h7.out])
  have hE:Hid (dL.bh w M a G {lm M with xs:=xs',hs:=hs'} {G with W:=W',nx:=7} w1):=Lib.hid (by
   rw [e7.out]
   exact ⟨_,a,aw,rfl,⟨rfl,rfl,rfl,rfl,fun x q=>.inl q⟩,ak,rfl,fun x q=>.inl q,ax⟩)
  clear aw ak ax hS c13
  go_wp2_with fail
  go_ret
  exact ⟨rfl,hE.out⟩
end
end Go.Proofs.YtpanebgakndddaaGreat.Gw
