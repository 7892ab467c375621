/- A part. -/
import Derived.Test.YtpanebgakndddaaGreatGetA
set_option linter.unusedVariables false
set_option linter.unusedSimpArgs false
namespace Go.Proofs.YtpanebgakndddaaGreat.Gt
open Go Go.RowKit Hp K Fl Rw Hm Ar Mm Me Qs Wk
set_option maxRecDepth 100000
section
variable {w w':World} {M:Mo} {a:Ga} {G:Ge}
def nc (k:Nat) (key:ByteArray):Ge:=⟨key,(FM.sum key.data.toList:Nat),1,⟨k,0,0⟩,0,new 0 (-1) (FM.sum key.data.toList:Nat) key⟩
set_option maxHeartbeats 1000000 in
theorem nj (k:Nat) (key:ByteArray) (hk:key.size<=maxLen) (w:World):
 Calls Tryz.prog 93 #[.int .i64 k,.string key] w fun e w'=>∃ a:Ga,e=.returned (ptr a.f)/\dh w' a (nc k key)/\(∀ x,bC a x->w.heap.size<=x)/\Below w.heap.size w w':=by
 have hS:=Lib.hid (lO.yT key w hk)
 unfold nc
 generalize hs:FM.sum key.data.toList=s at*
 replace hs:=Lib.hid hs
 go_enter Tryz.func93,Tryz.ntmps93
 go_wp2_with fail
 refine hS.out.mono ?_
 rintro e w0 ⟨rfl,hw⟩
 obtain rfl:w=w0:=hw.symm
 clear hS hw
 have hE:=Lib.hid (Hr k w)
 go_wp2_with fail
 refine hE.out.mono ?_
 rintro e w1 ⟨rfl,nE,aD⟩
 have hL:=Lib.hid (Hs k w1)
 clear hE
 replace nE:=Lib.hid nE
 replace aD:=Lib.hid aD
 go_wp2_with fail
 refine hL.out.mono ?_
 rintro e w2 ⟨rfl,du,ag⟩
 have rr:gv w2 w.heap.size ⟨k,0,0⟩:=nE.out.only (ab.aA ag (fun _=>False)) (by simp)
 have fM:=aD.out.trans (ag.mono aD.out.size)
 have KN:=aD.out.size
 have KO:=ag.size
 clear hL nE aD ag
 obtain ⟨w3,cX⟩:∃ w3,w3=w2.alloc (.cells #[.string key,.int .u32 s,.nilFunc,ptr w.heap.size,ptr w1.heap.size,.pointer none] 213):=⟨_,rfl⟩
 have fL:af w3 w2.heap.size 213 #[.string key,.int .u32 s,.nilFunc,ptr w.heap.size,ptr w1.heap.size,.pointer none]:=by rw [cX]; exact af.made w2 _ _
 have ru:gv w3 w.heap.size ⟨k,0,0⟩:=by rw [cX]; exact af.alloc rr _
 have de:jG w3 w1.heap.size k 0:=by rw [cX]; exact af.alloc du _
 have jO:Below w.heap.size w w3:=by rw [cX]; exact fM.alloc fM.size _
 have hF:=Lib.hid (wB fL.lt (fL.cell 0) (fL.cell 1) (-1))
 have mR:w3.heap.size=w2.heap.size+1:=by rw [cX]; simp
 obtain ⟨f,hf⟩:∃ f,f=w2.heap.size:=⟨_,rfl⟩
 obtain ⟨c,hc⟩:∃ c,c=w.heap.size:=⟨_,rfl⟩
 obtain ⟨o,ho⟩:∃ o,o=w1.heap.size:=⟨_,rfl⟩
 rw [<-hf] at fL hF mR KO
 rw [<-hc] at fL ru KN
 rw [<-ho] at fL de KN KO
 replace fL:=Lib.hid fL
 replace ru:=Lib.hid ru
 replace de:=Lib.hid de
 replace jO:=Lib.hid jO
 replace mR:=Lib.hid mR
 have qp:=Lib.hid hc
 clear rr du fM
 go_wp2_with fail
 rw [<-cX,<-hf]
 clear cX hf hc ho
 refine hF.out.mono ?_
 rintro e w4 ⟨rfl,fT,az⟩
 have eO:=fL.out.only (ab.aA az (fun _=>False)) (by simp)
 have rv:gv w4 c ⟨k,0,0⟩:=ru.out.only (ab.aA az (fun _=>False)) (by simp)
 have va:jG w4 o k 0:=de.out.only (ab.aA az (fun _=>False)) (by simp)
 have jf:=jO.out.trans (az.mono jO.out.size)
 have dH:=jO.out.size
 obtain ⟨b,hb⟩:∃ b,b=w3.heap.size:=⟨_,rfl⟩
 rw [<-hb] at fT dH ⊢
 have vb:=mR.out
 rw [<-hb] at vb
 have k2:=eO.cell 2
 have k5:=eO.cell 5
 have z2:=eO.frozen 2
 have z5:=eO.frozen 5
 simp at k2 k5
 have d1:=eO.differ rv (by decide)
 have d2:=eO.differ va (by decide)
 have d3:=eO.differ fT (by decide)
 have hE:Hid (dh ((w4.setCell ⟨f,5,none⟩ (ptr b)).setCell ⟨f,2,none⟩ (aU 126 (ptr f))) ⟨f,c,o,b⟩ ⟨key,s,1,⟨k,0,0⟩,0,new 0 (-1) s key⟩):=Lib.hid
  ⟨(eO.store 5 (ptr b)).store 2 (aU 126 (ptr f)),af.aB (af.aB rv (p:=⟨f,5,none⟩) (fun e=>d1 e.symm) _) (p:=⟨f,2,none⟩) (fun e=>d1 e.symm) _,
    af.aB (af.aB va (p:=⟨f,5,none⟩) (fun e=>d2 e.symm) _) (p:=⟨f,2,none⟩) (fun e=>d2 e.symm) _,af.aB (af.aB fT (p:=⟨f,5,none⟩) (fun e=>d3 e.symm) _) (p:=⟨f,2,none⟩) (fun e=>d3 e.symm) _⟩
 have Wl:=qp.out
 have jo:=Lib.hid ((jf.setCell (p:=⟨f,5,none⟩) (show w.heap.size<=f by omega) (ptr b)).setCell (p:=⟨f,2,none⟩) (show w.heap.size<=f by omega) (aU 126 (ptr f)))
 have fR:Hid (∀ x,bC ⟨f,c,o,b⟩ x->w.heap.size<=x):=Lib.hid (by
  intro x hx
  rcases hx with q | q | q | q<;>simp only at q<;>omega)
 clear hF fL ru de jO fT az eO rv va jf hb vb mR Wl qp d1 d2 d3 dH
 go_wp2_with fail
 go_ret
 exact ⟨_,rfl,hE.out,fR.out,jo.out⟩
theorem Pw (xs:List Int) (C:Cm):(gw xs C).2.worker=C.worker:=by
 unfold gw
 split<;>rfl
theorem dh.Px {C:Cm} (h:dh w a G) (hM:ah w M) (hC:gv w' a.c C) (ho:ab (fun x=>aq M x\/x=a.c) w w') (hk:C.worker=G.C.worker):dh w' a {G with C:=C}:=by
 have ha:=h.apart
 refine ⟨h.1.only ho ?_,hC,?_,h.2.2.2.only ho ?_⟩
 ·rintro (q | q)
  ·exact h.aB hM (.inl rfl) q
  ·exact ha.1 q
 ·show jG w' a.o C.worker G.iY
  rw [hk]
  refine af.only h.2.2.1 ho ?_
  rintro (q | q)
  ·exact h.aB hM (.inr (.inr (.inl rfl))) q
  ·exact ha.2.2.2.1 q.symm
 ·rintro (q | q)
  ·exact h.aB hM (.inr (.inr (.inr rfl))) q
  ·exact ha.2.2.2.2.1 q.symm
set_option maxHeartbeats 1000000 in
theorem Py (hM:ah w M) (h:dh w a G) (ha:G.C.at_<=1) (hk:2+G.C.worker<M.xs.length) (hp:G.C.worker<=1000) (hv:0<=G.C.period/\G.C.period<=18446744073709551615):
 Calls Tryz.prog 126 #[ptr a.f,ptr M.m] w fun e w'=>e=.returned (.bool false)/\ah w' {M with xs:=(gw M.xs G.C).1}/\dh w' a {G with C:=(gw M.xs G.C).2,nx:=if G.C.at_=1 then 2 else G.nx}/\ab (fun x=>aq M x\/bC a x) w w':=by
 have hS:=(Ht hM h.2.1 ha hk hp hv).mono fun e w' q=>
  show e=.returned (.bool (decide (G.C.at_=1)))/\ah w' {M with xs:=(gw M.xs G.C).1}/\dh w' a {G with C:=(gw M.xs G.C).2}/\ab (fun x=>aq M x\/bC a x) w w' from
   ⟨q.1,q.2.1,h.Px hM q.2.2.1 q.2.2.2 (Pw _ _),q.2.2.2.mono (fun x _ y=>y.imp id (fun e=>.inr (.inl e)))⟩
 have c3:=h.hd.2.2.2.1
 by_cases h1:G.C.at_=1
 ·rw [show decide (G.C.at_=1)=true by simp [h1]] at hS
  rw [if_pos h1]
  have dW:=Lib.hid (h.aB hM (.inl rfl))
  generalize (gw M.xs G.C).1=xs' at*
  generalize (gw M.xs G.C).2=C' at*
  replace hS:=Lib.hid hS
  clear h1 h hM ha hk hp hv
  go_enter Tryz.func126,Tryz.ntmps126
  go_wp2_with fail
  refine hS.out.mono ?_
  rintro e w1 ⟨rfl,aw,ak,ax⟩
  have k2:=ak.hd.2.2.1
  have z2:=ak.dc 2
  have du:=Lib.hid (ak.next 2)
  have ae:=(ab.refl (·=a.f) w1).setCell (p:=⟨a.f,2,none⟩) (.inl rfl) (jX a 2)
  have aI:=Lib.hid (aw.only ae (fun x hx q=>dW.out (q▸hx)))
  have an:=Lib.hid (ax.trans' ae (fun x _ q=>.inr (.inl q)))
  clear ae aw ak ax hS c3
  go_wp2_with fail
  go_ret
  exact ⟨rfl,aI.out,du.out,an.out⟩
 ·rw [show decide (G.C.at_=1)=false by simp [h1]] at hS
  rw [if_neg h1]
  generalize (gw M.xs G.C).1=xs' at*
  generalize (gw M.xs G.C).2=C' at*
  replace hS:=Lib.hid hS
  clear h1 h hM ha hk hp hv
  go_enter Tryz.func126,Tryz.ntmps126
  go_wp2_with fail
  refine hS.out.mono ?_
  rintro e w1 ⟨rfl,aw,ak,ax⟩
  replace aw:=Lib.hid aw
  replace ak:=Lib.hid ak
  replace ax:=Lib.hid ax
  clear hS c3
  go_wp2_with fail
  go_ret
  exact ⟨rfl,aw.out,ak.out,ax.out⟩
set_option maxHeartbeats 1000000 in
theorem wC (hM:ah w M) (h:dh w a G) (hx:1<M.xs.length) (hd:(now M.xs M.ds).1<=65536/\(now M.xs M.ds).2<=4000000) (hs:0<=G.sum/\G.sum<4294967296):
 Calls Tryz.prog 160 #[ptr a.f,ptr M.m] w fun e w'=>e=.returned (.bool false)/\ah w' M/\(∃ b,w.heap.size<=b/\dh w' {a with w:=b} {G with W:=new 0 (cellOf G.sum (now M.xs M.ds)) G.sum G.key,nx:=3})/\ab (bC a) w w':=by
 have hN:=Lib.hid (pJ hM hx)
 generalize now M.xs M.ds=d at*
 generalize fJ:cellOf G.sum d=cc
 replace fJ:=Lib.hid fJ
 have HM:=Lib.hid hM
 have HG:=Lib.hid h
 clear hM h
 unfold dv at hN
 go_enter Tryz.func160,Tryz.ntmps160
 go_wp2_with fail
 refine hN.out.mono ?_
 rintro e w1 ⟨rfl,aD⟩
 have hC:=Pv (HG.out.below aD) d hd hs
 unfold dv at hC
 rw [fJ.out] at hC
 replace hC:=Lib.hid hC
 replace aD:=Lib.hid aD
 clear hN
 go_wp2_with fail
 refine hC.out.mono ?_
 rintro e w2 ⟨rfl,ag⟩
 have fM:=aD.out.trans (ag.mono aD.out.size)
 have du:=HG.out.below fM
 have hF:=Lib.hid (wB du.1.lt du.hd.1 du.hd.2.1 cc)
 replace fM:=Lib.hid fM
 clear hC aD ag du
 go_wp2_with fail
 refine hF.out.mono ?_
 rintro e w3 ⟨rfl,dw,ay⟩
 have dH:=fM.out.size
 have jO:=fM.out.trans (ay.mono dH)
 have de:=HG.out.below jO
 have bB:=HM.out.below jO
 have k2:=de.hd.2.2.1
 have k5:=de.hd.2.2.2.2.2
 have z2:=de.dc 2
 have z5:=de.dc 5
 obtain ⟨b,hb⟩:∃ b,b=w2.heap.size:=⟨_,rfl⟩
 rw [<-hb] at dw dH ⊢
 have ap:=de.apart
 have d3:=de.1.differ dw (by decide)
 have aB:=de.aB bB (.inl rfl)
 have hO:=(((ab.refl (·=a.f) w3).setCell (p:=⟨a.f,5,none⟩) (.inl rfl) (ptr b)).setCell (p:=⟨a.f,2,none⟩) (.inl rfl) (aU 195 (ptr a.f)))
 have hE:Hid (dh ((w3.setCell ⟨a.f,5,none⟩ (ptr b)).setCell ⟨a.f,2,none⟩ (aU 195 (ptr a.f))) {a with w:=b} {G with W:=new 0 cc G.sum G.key,nx:=3}):=Lib.hid
  ⟨(de.1.store 5 (ptr b)).store 2 (aU 195 (ptr a.f)),de.2.1.only hO (fun e=>ap.1 e.symm),de.2.2.1.only hO (fun e=>ap.2.1 e.symm),dw.only hO (fun e=>d3 e.symm)⟩
 have Wm:=Lib.hid (bB.only hO (fun x hx q=>aB (q▸hx)))
 have Wn:=Lib.hid ((ab.aA jO (bC a)).trans' hO (fun x _ q=>.inl q))
 replace dH:=Lib.hid dH
 clear hF dw ay fM jO de bB ap d3 aB hO hb
 go_wp2_with fail
 go_ret
 exact ⟨rfl,Wm.out,⟨b,dH.out,hE.out⟩,Wn.out⟩
end
end Go.Proofs.YtpanebgakndddaaGreat.Gt
