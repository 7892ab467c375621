/- Walks and plain mathematics, put together in their order: DelA, MemChain, MemReach, MapA, SeekH, PutE, PutG, PutH, QsbrE, RetMath. -/
import Derived.Test.YtpanebgakndddaaGreatPart1
import Derived.Test.YtpanebgakndddaaGreatMemWalk
import Derived.ArgAppend
import Derived.Lib.AppendZeros
import Derived.Maps.Own
import Derived.Maps.OwnOps
import Derived.Maps.Views
import Derived.Test.YtpanebgakndddaaGreatPairs
import Derived.Test.YtpanebgakndddaaGreatGetD
import Derived.Test.YtpanebgakndddaaGreatQsbrD
import Derived.Test.YtpanebgakndddaaGreatFinish
import Derived.Laws.CopyOwn
import Derived.Deep.RegionHeld3
set_option linter.unusedVariables false
set_option linter.unusedSimpArgs false
namespace Go.Proofs.YtpanebgakndddaaGreat.Dl
open Go Go.RowKit Hp K Fl Rw Hm Ar Mm Me Wk Ta Pn Pc Pu
set_option maxRecDepth 100000
structure Dt extends Sk where
 nx:Nat
 bU:Nat
def kX (nx f:Nat):Value:=if nx=2 then aU 108 (ptr f) else if nx=4 then aU 145 (ptr f)
 else if nx=5 then aU 180 (ptr f) else if nx=6 then aU 144 (ptr f) else dY 178
def zg (a:Qa) (D:Dt):Array Value:=#[ptr a.s,kX D.nx a.f,.int .u64 D.bU]
def cF (w:World) (a:Qa) (D:Dt):Prop:=af w a.f 193 (zg a D)/\cW w a.sa D.toSk
def kW (a:Qa) (D:Dt) (x:Nat):Prop:=x=a.f\/dq a.sa D.toSk x
abbrev GX:List TypeId:=[193,226,243,237]
abbrev BY:iG Qa Dt:=⟨Qa.f,cF,kW⟩
section
variable {w w':World} {M:Mo} {a:Qa} {D:Dt}
theorem cF.ty (h:cF w a D) {x:Nat} (hx:kW a D x):Ty w x GX:=by
 obtain ⟨h1,h2⟩:=h
 rcases hx with rfl | hx
 ·exact (bm h1).mono (by simp)
 ·exact (h2.ty hx).mono (fun t ht=>List.mem_cons_of_mem _ ht)
theorem cF.aB (h:cF w a D) (hM:ah w M) {x:Nat} (hx:kW a D x):¬aq M x:=fun hm=>(hM.ty hm).apart (h.ty hx) (by decide)
theorem cF.only {S:Nat->Prop} (h:cF w a D) (ho:ab S w w') (hn:∀ x,kW a D x->¬S x):cF w' a D:=
 ⟨h.1.only ho (hn _ (.inl rfl)),h.2.only ho (fun x hx=>hn _ (.inr hx))⟩
theorem cF.below (h:cF w a D) (hb:Below w.heap.size w w'):cF w' a D:=h.only (ab.aA hb (fun _=>False)) (by simp)
theorem cF.hd (h:cF w a D):w.cell? ⟨a.f,0,none⟩=some (ptr a.s)/\w.cell? ⟨a.f,1,none⟩=some (kX D.nx a.f)/\w.cell? ⟨a.f,2,none⟩=some (.int .u64 D.bU):=
 ⟨h.1.cell 0,h.1.cell 1,h.1.cell 2⟩
theorem cF.dc (h:cF w a D) (i:Nat):w.frozen? ⟨a.f,i,none⟩=false:=h.1.frozen i
theorem cF.self (h:cF w a D) {x:Nat} (hx:dq a.sa D.toSk x):x≠a.f:=by
 rintro rfl
 exact (h.2.ty hx).apart (bm h.1) (by decide)
theorem cF.own (h:cF w a D) {D':Dt} (hB:af w' a.f 193 (zg a D')) (ho:ab (·=a.f) w w') (eS:D'.toSk=D.toSk):cF w' a D':=
 ⟨hB,by rw [eS]; exact h.2.only ho (fun x hx e=>h.self hx e)⟩
theorem cF.next (h:cF w a D) (n:Nat):cF (w.setCell ⟨a.f,1,none⟩ (kX n a.f)) a {D with nx:=n}:=
 h.own (h.1.store 1 (kX n a.f)) ((ab.refl (·=a.f) w).setCell (p:=⟨a.f,1,none⟩) (.inl rfl) (kX n a.f)) rfl
theorem cF.wo {S:Nat->Prop} {a':Sa} {S':Sk} (h:cF w a D) (hS:cW w' a' S') (ef:a'.f=a.s) (ho:ab S w w') (hn:¬S a.f):cF w' {a with w:=a'.w} {D with toSk:=S'}:=by
 obtain ⟨f',b'⟩:=a'
 subst ef
 refine ⟨?_,hS⟩
 have:=h.1.only ho hn
 unfold zg at this ⊢
 exact this
theorem cF.so (h:cF w a D) (x n:Nat):cF ((w.setCell ⟨a.f,2,none⟩ (.int .u64 x)).setCell ⟨a.f,1,none⟩ (kX n a.f)) a {D with bU:=x,nx:=n}/\
 ab (·=a.f) w ((w.setCell ⟨a.f,2,none⟩ (.int .u64 x)).setCell ⟨a.f,1,none⟩ (kX n a.f)):=by
 have bn:cF (w.setCell ⟨a.f,2,none⟩ (.int .u64 x)) a {D with bU:=x}:=h.own (by simpa [zg] using h.1.store 2 (.int .u64 x)) ((ab.refl (·=a.f) w).setCell (p:=⟨a.f,2,none⟩) (.inl rfl) (.int .u64 x)) rfl
 exact ⟨bn.next n,((ab.refl (·=a.f) w).setCell (p:=⟨a.f,2,none⟩) (.inl rfl) (.int .u64 x)).setCell (p:=⟨a.f,1,none⟩) (.inl rfl) (kX n a.f)⟩
abbrev oS (w:World) (M:Mo) (a:Qa) (D:Dt) (L':Lm) (D':Dt) (w':World):Prop:=BY.bh w M a D L' D' w'
theorem GY {a a':Qa} {D D':Dt} (ea:a'=a) (eS:D'.H.f=D.H.f) {n:Nat} (x:Nat) (q:kW a' D' x):kW a D x\/n<=x:=by
 subst ea
 rcases q with q | q | q | q
 ·exact .inl (.inl q)
 ·exact .inl (.inr (.inl q))
 ·exact .inl (.inr (.inr (.inl (q.trans eS))))
 ·exact .inl (.inr (.inr (.inr q)))
theorem GZ {L':Lm} {D':Dt} {w1 w2:World} (h:pH w M L' w1) (hP:cF w a D) (hM:ah w M) (bn:cF w1 a D->cF w2 a D') (eS:D'.H.f=D.H.f) (ho:ab (·=a.f) w1 w2):oS w M a D L' D' w2:=by
 obtain ⟨M1,aw,el,hK,hO⟩:=h
 have bf:=hP.only hO (fun x hx q=>hP.aB hM hx q)
 exact ⟨M1,a,aw.only ho (fun x hx q=>bf.aB aw (.inl rfl) (q▸hx)),el,hK,bn bf,rfl,GY rfl eS,(hO.mono (fun x _ q=>(.inl q:aq M x\/kW a D x))).trans' ho (fun x _ q=>.inr (.inl q))⟩
def dK (L:Lm) (D:Dt):Lm×Dt:=
 if D.nx=2 then ((aH L D.toSk).1,{D with toSk:=(aH L D.toSk).2,nx:=if b7 L D.toSk=true then (if (aH L D.toSk).2.W.found≠0 then 4 else 6) else 2})
 else if D.nx=4 then (jV L D.toSk D.W.nd.next.toNat,{D with bU:=D.W.found,nx:=5})
 else if D.nx=5 then ({L with ws:=L.ws++[D.bU]},{D with bU:=0,nx:=6})
 else ({L with hs:=L.hs.set D.H.lock (-1)},{D with H:={D.H with holds:=false},nx:=7})
def nR (L:Lm) (D:Dt):Bool:=eK L D.toSk
def ja (_:Lm) (D:Dt):Bool:=decide (6<=D.nx)
structure vY (L:Lm) (D:Dt):Prop where
 nx:D.nx=2\/D.nx=4\/D.nx=5\/D.nx=6
 ph:D.nx≠2->D.ph≠1
 sk:D.nx=2->∃ r,qP r L D.toSk
 lead:D.nx=4->0<=D.W.nd.next/\ua L D.toSk D.W.nd.next.toNat
 ret:D.nx=5->L.ws.length<=1000000
 drop:D.nx=6->ik L.xs L.ds (L.hs,D.H)/\D.H.holds=true
def BZ (w:World) (M:Mo) (a:Qa) (D:Dt) (L':Lm) (D':Dt) (w':World):Prop:=
 ∃ M' b,ah w' M'/\lm M'=L'/\gq w M M'/\cF w' {a with w:=b} D'/\(∀ x,kW {a with w:=b} D' x->kW a D x\/w.heap.size<=x)/\ab (fun x=>aq M x\/kW a D x) w w'
theorem BZ.pI {L':Lm} {D':Dt} (h:BZ w M a D L' D' w'):oS w M a D L' D' w':=by
 obtain ⟨M',b,h1,h2,h3,h4,h5,h6⟩:=h
 exact ⟨M',{a with w:=b},h1,h2,h3,h4,rfl,h5,h6⟩
theorem Og (hM:ah w M) (h:cF w a D) {r:Nat} (ok:qP r (lm M) D.toSk) (hr:eK (lm M) D.toSk=true):
 Calls Tryz.prog 143 #[ptr a.s,ptr M.m] w fun e w'=>e=.returned (.bool (b7 (lm M) D.toSk))/\BZ w M a D (aH (lm M) D.toSk).1 {D with toSk:=(aH (lm M) D.toSk).2} w':=by
 refine (G0 hM h.2 ok hr).mono fun e w' q=>⟨q.1,?_⟩
 obtain ⟨M',a',h1,h2,h3,h4,h5,h6,h7⟩:=q.2
 have hp:=h.wo h4 h5 h7 (by
  rintro (q | q)
  ·exact h.aB hM (.inl rfl) q
  ·exact h.self q rfl)
 refine ⟨M',a'.w,h1,h2,h3,hp,?_,h7.mono fun x _ q=>q.imp id .inr⟩
 rintro x (q | q)
 ·exact .inl (.inl q)
 ·have e:a'=(⟨a.s,a'.w⟩:Sa):=by
   obtain ⟨f',b'⟩:=a'
   have:f'=a.s:=h5
   rw [this]
  exact (h6 x (by rw [e]; exact q)).imp .inr id
theorem tT (h:cF w a D):Calls Tryz.prog 272 #[ptr a.f] w fun e w'=>e=.returned (.int .u64 D.bU)/\w=w':=by
 have c:=h.hd.2.2
 clear h
 go_enter Tryz.func272,Tryz.ntmps272
 go_wp2
 go_ret
 exact ⟨rfl,rfl⟩
theorem vV (h:cF w a D):Calls Tryz.prog 82 #[ptr a.f] w fun e w'=>e=.returned (.tuple #[.string D.W.nd.val,.bool (decide (D.W.found≠0))])/\Below w.heap.size w w':=by
 have c:=h.hd.1
 have hR:=ub h.2
 unfold eg at hR
 generalize decide (D.W.found≠0)=b at*
 generalize D.W.found=x at*
 generalize D.W.nd=n at*
 obtain ⟨nk,nv,ns,nn⟩:=n
 simp only at hR ⊢
 replace hR:=Lib.hid hR
 clear h
 go_enter Tryz.func82,Tryz.ntmps82
 go_wp2_with fail
 refine hR.out.mono ?_
 rintro e w1 ⟨rfl,hb⟩
 have au:=Lib.hid ((hb.alloc (o:=.cells #[.string nk,.string nv,.int .u32 ns,.int .u64 nn] 67) hb.size))
 clear c hb
 go_wp2_with fail
 go_ret2
 exact ⟨rfl,au.out⟩
set_option maxHeartbeats 1000000 in
theorem B0 (hM:ah w M) (h:cF w a D) {r:Nat} (ok:qP r (lm M) D.toSk) (hr:eK (lm M) D.toSk=true) (h2:D.nx=2):
 Calls Tryz.prog 108 #[ptr a.f,ptr M.m] w fun e w'=>e=.returned (.bool false)/\oS w M a D (dK (lm M) D).1 (dK (lm M) D).2 w':=by
 have hS:=Og hM h ok hr
 have c3:=h.hd.1
 unfold dK
 rw [if_pos h2]
 simp only
 cases cB:b7 (lm M) D.toSk with
 | false=>
   rw [cB] at hS
   rw [if_neg (by simp)]
   generalize aH (lm M) D.toSk=z at*
   have gX:=hS.mono fun e w' q=>And.intro q.1 q.2.pI
   have eP:({D with toSk:=z.2,nx:=2}:Dt)={D with toSk:=z.2}:=by rw [<-h2]
   rw [eP]
   replace hS:=Lib.hid gX
   clear cB h hM ok hr h2 eP gX
   go_enter Tryz.func108,Tryz.ntmps108
   go_wp2_with fail
   refine hS.out.mono ?_
   rintro e w1 ⟨rfl,hW⟩
   replace hW:=Lib.hid hW
   clear hS c3
   go_wp2_with fail
   go_ret
   exact ⟨rfl,hW.out⟩
 | true=>
   rw [cB] at hS
   rw [if_pos rfl]
   generalize aH (lm M) D.toSk=z at*
   obtain ⟨L',S'⟩:=z
   simp only at hS ⊢
   replace hS:=Lib.hid hS
   clear cB h hM ok hr h2
   obtain ⟨cb,kf⟩:∃ cb,cb=decide (S'.W.found≠0):=⟨_,rfl⟩
   have e6:(if S'.W.found≠0 then 4 else 6:Nat)=if cb=true then 4 else 6:=by rw [kf]; simp
   rw [e6]
   clear e6
   replace kf:=Lib.hid kf
   go_enter Tryz.func108,Tryz.ntmps108
   go_wp2_with fail
   refine hS.out.mono ?_
   rintro e w1 ⟨rfl,M1,b,aw,el,hK,bf,gY,ax⟩
   have k4:=bf.hd.2.1
   have z4:=bf.dc 1
   have nH:=bf.next 6
   have eB:=(ab.refl (·=a.f) w1).setCell (p:=⟨a.f,1,none⟩) (.inl rfl) (kX 6 a.f)
   have far1:∀ x,aq M1 x->¬x=a.f:=fun x hx q=>bf.aB aw (.inl rfl) (q▸hx)
   have je:=aw.only eB far1
   have uU:=ax.trans' eB (fun x _ q=>.inr (.inl q))
   have cM:=ub nH.2
   unfold eg at cM
   rw [<-kf.out] at cM
   obtain ⟨x,hx⟩:∃ x,x=S'.W.found:=⟨_,rfl⟩
   obtain ⟨n,hn⟩:∃ n,n=S'.W.nd:=⟨_,rfl⟩
   rw [<-hx,<-hn] at cM
   obtain ⟨nk,nv,ns,nn⟩:=n
   simp only at cM
   obtain ⟨w2,aT⟩:∃ w2,w2=w1.setCell ⟨a.f,1,none⟩ (aU 144 (ptr a.f)):=⟨_,rfl⟩
   have KB:w1.setCell ⟨a.f,1,none⟩ (kX 6 a.f)=w2:=aT.symm
   rw [KB] at cM je nH uU
   have h6:=Lib.hid (fun w3 (hb:Below w2.heap.size w2 w3)=>show oS w M a D L' {D with toSk:=S',nx:=6} w3 from
    ⟨M1,{a with w:=b},je.below hb,el,hK,nH.below hb,rfl,gY,uU.below hb⟩)
   have h4:=Lib.hid (fun w3 (hb:Below w2.heap.size w2 w3)=>show oS w M a D L' {D with toSk:=S',nx:=4} (w3.setCell ⟨a.f,1,none⟩ (kX 4 a.f)) from by
    have bB:=je.below hb
    have ba:=nH.below hb
    have an:=uU.below hb
    have aN:=(ab.refl (·=a.f) w3).setCell (p:=⟨a.f,1,none⟩) (.inl rfl) (kX 4 a.f)
    exact ⟨M1,{a with w:=b},bB.only aN (fun x hx q=>ba.aB bB (.inl rfl) (q▸hx)),el,hK,ba.next 4,rfl,gY,an.trans' aN (fun x _ q=>.inr (.inl q))⟩)
   have hq:=Lib.hid (fun w3 (hb:Below w2.heap.size w2 w3)=>show w3.cell? ⟨a.f,1,none⟩=some (kX 6 a.f)/\w3.frozen? ⟨a.f,1,none⟩=false/\a.f<w3.heap.size from
    ⟨(nH.below hb).hd.2.1,(nH.below hb).dc 1,(nH.below hb).1.lt⟩)
   have k0:=nH.hd.1
   have l0:=nH.1.lt
   replace cM:=Lib.hid cM
   clear eB aw bf ax hS c3 far1 hx hn je nH uU el hK gY KB
   go_upto_region 4 with (fail)
   rw [<-aT]
   clear aT k4 z4
   go_wp2_with fail
   refine cM.out.mono ?_
   rintro e w3 ⟨rfl,aR⟩
   have jM:=aR.alloc (o:=.cells #[.string nk,.string nv,.int .u32 ns,.int .u64 nn] 67) aR.size
   obtain ⟨w4,xK⟩:∃ w4,w4=w3.alloc (.cells #[.string nk,.string nv,.int .u32 ns,.int .u64 nn] 67):=⟨_,rfl⟩
   rw [<-xK] at jM
   obtain ⟨k4,z4,l4⟩:=hq.out w4 jM
   have VT:=Lib.hid (h6.out w4 jM)
   have VU:=Lib.hid (h4.out w4 jM)
   clear aR jM cM h6 h4 hq k0 l0
   go_upto_region 5 with (fail)
   rw [<-xK]
   clear xK
   cases cb
   all_goals
    go_wp2_with fail
    go_ret
    first
     | exact ⟨rfl,VU.out⟩
     | exact ⟨rfl,VT.out⟩
set_option maxHeartbeats 1000000 in
theorem Oh (hM:ah w M) (h:cF w a D) (hz:0<=D.W.nd.next) (ok:ua (lm M) D.toSk D.W.nd.next.toNat) (h4:D.nx=4):
 Calls Tryz.prog 145 #[ptr a.f,ptr M.m] w fun e w'=>e=.returned (.bool false)/\oS w M a D (dK (lm M) D).1 (dK (lm M) D).2 w':=by
 have cM:=ub h.2
 have hR:=fun w1 (hb:Below w.heap.size w w1)=>(G3 (hM.below hb) (h.2.below hb) ok).mono fun e w' q=>show e=.returned (.tuple #[])/\pH w M (jV (lm M) D.toSk D.W.nd.next.toNat) w'/\ab (aq M) w1 w' from
  ⟨q.1,by obtain ⟨M',h1,h2,h3,_,h5⟩:=q.2; exact ⟨⟨M',h1,h2,(gq.refl w M).trans h3 hb.size,(ab.aA hb _).trans h5⟩,h5⟩⟩
 rw [show ((D.W.nd.next.toNat:Nat):Int)=D.W.nd.next by omega] at hR
 have c0:=h.hd.1
 have HP:=Lib.hid h
 have HM:=Lib.hid hM
 have aV:=Lib.hid (fun x (q:aq M x)=>hM.lt q)
 unfold dK
 rw [if_neg (by omega),if_pos h4]
 generalize jV (lm M) D.toSk D.W.nd.next.toNat=L' at*
 obtain ⟨x,hx⟩:∃ x,x=D.W.found:=⟨_,rfl⟩
 obtain ⟨n,hn⟩:∃ n,n=D.W.nd:=⟨_,rfl⟩
 unfold eg at cM
 rw [<-hx,<-hn] at cM
 rw [<-hn] at hR
 rw [<-hx]
 obtain ⟨nk,nv,ns,nn⟩:=n
 generalize decide (x≠0)=bx at*
 simp only at cM hR
 have iO:Hid (∀ w1 w2 (D':Dt),pH w M L' w1->(cF w1 a D->cF w2 a D')->D'.H.f=D.H.f->ab (·=a.f) w1 w2->oS w M a D L' D' w2):=Lib.hid (fun w1 w2 D' hW hq eS ho=>GZ hW h hM hq eS ho)
 replace cM:=Lib.hid cM
 replace hR:=Lib.hid hR
 clear h hM h4 ok hx hn hz
 go_enter Tryz.func145,Tryz.ntmps145
 go_wp2_with fail
 refine cM.out.mono ?_
 rintro e w1 ⟨rfl,av⟩
 have au:=av.alloc (o:=.cells #[.string nk,.string nv,.int .u32 ns,.int .u64 nn] 67) av.size
 obtain ⟨w2,aT⟩:∃ w2,w2=w1.alloc (.cells #[.string nk,.string nv,.int .u32 ns,.int .u64 nn] 67):=⟨_,rfl⟩
 rw [<-aT] at au
 have mb:af w2 w1.heap.size 67 #[.string nk,.string nv,.int .u32 ns,.int .u64 nn]:=by rw [aT]; exact af.made w1 _ _
 obtain ⟨nb,ma⟩:∃ nb,nb=w1.heap.size:=⟨_,rfl⟩
 rw [<-ma] at mb
 have XZ:w.heap.size<=nb:=by rw [ma]; exact av.size
 have j0:=(HP.out.below au).hd.1
 have j3:=mb.cell 3
 simp at j3
 have bG:=Lib.hid (fun n=>hR.out (w2.drewN n) (au.trans ⟨rfl,rfl,rfl,by simp,fun _ _=>rfl⟩))
 have VV:=Lib.hid (fun n=>show af (w2.drewN n) nb 67 #[.string nk,.string nv,.int .u32 ns,.int .u64 nn] from mb.only ((ab.refl (fun _=>False) w2).drewN n) (by simp))
 clear av au hR cM c0 mb
 go_upto_region 2 with (fail)
 rw [<-aT,<-ma]
 clear aT ma
 go_region_held3 (fun w'=>w'.cell? ⟨a.f,0,none⟩=some (ptr a.s)/\w'.cell? ⟨nb,3,none⟩=some (.int .u64 nn)) (go_keep)
  (first
    | (go_at_call 179
       refine (bG.out 1).mono ?_
       rintro e w3 ⟨rfl,hW,hO⟩
       have ba:cF w3 a D:=by
        obtain ⟨M1,_,_,_,hO⟩:=hW
        exact HP.out.only hO (fun x hx q=>HP.out.aB HM.out hx q)
       have k0:=ba.hd.1
       have k1:=ba.hd.2.1
       have k2:=ba.hd.2.2
       have z1:=ba.dc 1
       have z2:=ba.dc 2
       have xL:=(VV.out 1).only hO (fun q=>by have:=aV.out _ q; omega)
       have k3:=xL.cell 3
       simp at k3
       have hE:=Lib.hid (iO.out _ _ _ hW (fun q=>(q.so x 5).1) rfl (ba.so x 5).2)
       clear ba hW hO xL bG))
 all_goals
  go_wp2_with fail
  go_ret
  exact ⟨rfl,hE.out⟩
theorem Oi (hM:ah w M) (h:cF w a D) (hn:M.ws.length<=1000000) (h5:D.nx=5):
 Calls Tryz.prog 180 #[ptr a.f,ptr M.m] w fun e w'=>e=.returned (.bool false)/\oS w M a D (dK (lm M) D).1 (dK (lm M) D).2 w':=by
 have hR:=Lib.hid (G4 hM D.bU hn)
 have c6:=h.hd.2.2
 have HP:=Lib.hid h
 have HM:=Lib.hid hM
 unfold dK
 rw [if_neg (by omega),if_neg (by omega),if_pos h5]
 clear h hM hn h5
 go_enter Tryz.func180,Tryz.ntmps180
 go_wp2_with fail
 refine hR.out.mono ?_
 rintro e w1 ⟨rfl,hW⟩
 have bf:cF w1 a D:=by
  obtain ⟨M1,_,_,_,hO⟩:=hW
  exact HP.out.only hO (fun x hx q=>HP.out.aB HM.out hx q)
 have k6:=bf.hd.2.2
 have k4:=bf.hd.2.1
 have z6:=bf.dc 2
 have z4:=bf.dc 1
 have hE:=Lib.hid (GZ hW HP.out HM.out (fun q=>(q.so 0 6).1) rfl (bf.so 0 6).2)
 clear bf hW hR c6
 go_wp2_with fail
 go_ret
 exact ⟨rfl,hE.out⟩
theorem Oj (hM:ah w M) (h:cF w a D) (hl:ik M.xs M.ds (M.hs,D.H)) (hh:D.H.holds=true) (h6:D.nx=6):
 Calls Tryz.prog 144 #[ptr a.f,ptr M.m] w fun e w'=>e=.returned (.bool true)/\oS w M a D (dK (lm M) D).1 (dK (lm M) D).2 w':=by
 have hR:=Lib.hid (G5 hM h.2 hl hh)
 have c3:=h.hd.1
 have HP:=Lib.hid h
 have HM:=Lib.hid hM
 unfold dK
 rw [if_neg (by omega),if_neg (by omega),if_neg (by omega)]
 clear h hM hl hh h6
 go_enter Tryz.func144,Tryz.ntmps144
 go_wp2_with fail
 refine hR.out.mono ?_
 rintro e w1 ⟨rfl,aw,iP,ax⟩
 have bf:=HP.out.wo iP rfl ax (by
  rintro (q | q)
  ·exact HP.out.aB HM.out (.inl rfl) q
  ·exact HP.out.self q rfl)
 have k4:=bf.hd.2.1
 have z4:=bf.dc 1
 have ba:=Lib.hid (bf.next 7)
 have an:=(ab.refl (·=a.f) w1).setCell (p:=⟨a.f,1,none⟩) (.inl rfl) (kX 7 a.f)
 have bB:=Lib.hid (aw.only an (fun x hx q=>bf.aB aw (.inl rfl) (q▸hx)))
 have xM:Hid (ab (fun x=>aq M x\/kW a D x) w _):=Lib.hid ((ax.mono (fun x _ q=>q.imp id .inr)).trans' an (fun x _ q=>.inr (.inl q)))
 clear bf an aw ax hR c3 iP
 go_wp2_with fail
 go_ret
 exact ⟨rfl,_,a,bB.out,rfl,⟨rfl,rfl,rfl,rfl,fun _ q=>.inl q⟩,ba.out,rfl,GY rfl rfl,xM.out⟩
end
end Go.Proofs.YtpanebgakndddaaGreat.Dl
namespace Go.Proofs.YtpanebgakndddaaGreat.Me
open Go Go.RowKit Hp K Fl Rw Hm Ar Mm
set_option maxRecDepth 100000
/-! ### the map-/
abbrev DH:=DataW Unit
abbrev sK (x:Nat):Lit:=.int .u64 x
abbrev uy (v:Bool):DH:=.lit (.bool v)
def Met (w:World) (B:Nat) (ms:List Nat):Prop:=∃ (n:Nat) (D:DH),w.ownsMap Tryz.prog 40 (plainElem Tryz.prog 4) B n D/\n<=ms.length/\∀ x,x<=18446744073709551615->D.atKey (sK x) (uy false)=uy (decide (x∈ms))
theorem keyed:Maps.Keyed Tryz.prog 40:=Maps.int_keyed Tryz.underlying40
theorem RX (w:World):(zeroValue 4).run Tryz.prog w=.ok (.bool false) w:=by kernel_rfl
theorem RY {x:Nat} (hx:x<=18446744073709551615):(Lit.int .u64 (x:Int)).wf=true:=by
 simp [Lit.wf,IntKind.min,IntKind.max,IntKind.signed,IntKind.bits]; omega
theorem zL {x:Nat} (hx:x<=18446744073709551615):keyOf Tryz.prog 40 (.int .u64 x)=some (sK x):=Maps.keyOf_int_mk Tryz.underlying40 (RY hx)
theorem RZ {x:Nat} (hx:x<=18446744073709551615):WideAt.IsKeyLit (sK x):=keyed.key (zL hx)
theorem Met.made (w:World):Met (w.alloc (.map #[] 0)) w.heap.size []:=
 ⟨0,.map [],World.ownsMap_made _ _ _ _,Nat.le_refl _,fun x _=>by simp [DataW.atKey]⟩
theorem Met.lt {w:World} {B:Nat} {ms:List Nat} (h:Met w B ms):B<w.heap.size:=by obtain ⟨n,D,hm,r⟩:=h; exact hm.lt
theorem Met.only {S:Nat->Prop} {w w':World} {B:Nat} {ms:List Nat} (h:Met w B ms) (ho:ab S w w') (hn:¬S B):Met w' B ms:=by
 obtain ⟨n,D,hm,r⟩:=h
 have aV:=hm.lt
 obtain ⟨es,clock,hb,F,hs,hD⟩:=hm
 exact ⟨n,D,⟨es,clock,(ho.block B aV hn).trans hb,F,hs,hD⟩,r⟩
theorem Met.no {w:World} {B:Nat} {ms:List Nat} (h:Met w B ms) {ts:List TypeId} (ht:Ty w B ts):False:=by
 obtain ⟨n,D,hm,r⟩:=h
 obtain ⟨es,clock,hb,_⟩:=hm
 obtain ⟨t,cs,cY,_⟩:=ht
 have e:=hb.symm.trans cY
 injection e with e
 injection e
theorem Met.look {w:World} {B:Nat} {ms:List Nat} (h:Met w B ms) {x:Nat} (hx:x<=18446744073709551615):(Instr.lookup 202 (.map (some B)) (.int .u64 x) false).run Tryz.prog w=.ok (.bool (decide (x∈ms))) w:=by
 obtain ⟨n,D,hm,_,cr⟩:=h
 obtain ⟨v,ps,eX,hv⟩:=hm.lookup keyed Tryz.underlying202 (RX w) (plainElem_bool Tryz.underlying4 false) (zL hx)
 rw [eX]
 rw [cr x hx] at hv
 unfold plainElem at hv
 rw [Tryz.underlying4] at hv
 cases v<;>simp at hv
 rw [hv.1]
theorem IN {w:World} {B n:Nat} {D:DH} {ms:List Nat} {x:Nat} (hx:x<=18446744073709551615) {w0:World} {n0:Nat} (qe:w0.ownsMap Tryz.prog 40 (plainElem Tryz.prog 4) B n0 D) (hm:w.ownsMap Tryz.prog 40 (plainElem Tryz.prog 4) B (n+1) (D.put (sK x) (uy true))) (hn:n<=ms.length) (cr:∀ x,x<=18446744073709551615->D.atKey (sK x) (uy false)=uy (decide (x∈ms))):Met w B (x::ms):=by
 have hD:Maps.IsMap D:=by obtain ⟨es,clock,_,_,_,hD⟩:=qe; exact ⟨_,hD⟩
 refine ⟨n+1,_,hm,by simp; omega,fun y hy=>?_⟩
 by_cases e:y=x
 ·subst e
  rw [Maps.atKey_put_same hD (RZ hx)]
  simp
 ·have aL:sK y≠sK x:=fun h=>by
   injection h with _ h
   exact e (by omega)
  rw [Maps.atKey_put_other aL,cr y hy]
  simp [e]
theorem R0 {w:World} {ops:Array Oper} {rest:List Oper} {o:Oper} {a:Act} {Q:Exit->Act->World->Prop} (qi:o.guard=none) (m x v:Operand)
 (xT:o.op=Op.mapUpdate 202 m x v) (B:Nat) (ms:List Nat) (h:Met w B ms) (hl:ms.length<=1000000) (y:Nat) (hy:y<=18446744073709551615)
 (hm:a.eval m=.map (some B)) (hx:a.eval x=.int .u64 y) (hv:a.eval v=.bool true)
 (hK:∀ w',Met w' B (y::ms)->ab (·=B) w w'->wpList Tryz.prog ops Q rest (a.put o.dst undef) w'):wpList Tryz.prog ops Q (o::rest) a w:=by
 obtain ⟨n,D,hM,hn,cr⟩:=h
 refine wpList_mapUpdate_own w qi m x v 202 xT 40 4 keyed Tryz.underlying202 _ B n D hm hM (by unfold maxLen; omega) _ _ _ hx hv (zL hy) (uy true) [] (plainElem_bool Tryz.underlying4 true) ?_
 intro w' kh hg
 exact hK w' (IN hy hM kh hn cr) ((ab.refl (·=B) w).grown hg (fun z hz=>.inl (by injection hz with hz; exact hz.symm)))
/-! ### follow-/
def IP (w wr:World) (M:Mo) (B:Nat) (A0:Option Addr) (all ms t:List Nat) (v hv:Value):Prop:=
 ∃ (A:Option Addr) (cap:Nat) (out:List Nat) (x:Nat) (rest:List Nat),v=.slice A (all.length+out.length) cap/\hv=.int .u64 x/\qZ wr A cap (all++out)/\Met wr B (out.reverse++ms)/\
   t=out++rest/\Ch M.ss (out.reverse++ms) x rest/\ab (fun x=>x=B\/In A0 x) w wr/\(∀ x,In A x->In A0 x\/w.heap.size<=x)/\x<=18446744073709551615
def Followed (w:World) (B:Nat) (A0:Option Addr) (all ms t:List Nat) (e:Ending) (w':World):Prop:=
 ∃ A cap,e=.returned (.slice A (all.length+t.length) cap)/\qZ w' A cap (all++t)/\Met w' B (t.reverse++ms)/\ab (fun x=>x=B\/In A0 x) w w'/\∀ x,In A x->In A0 x\/w.heap.size<=x
set_option maxHeartbeats 4000000 in
theorem R6 {w:World} {M:Mo} (h:ah w M) (hN:ff M.ss) (hl:M.ss.length<=1024) (c:Nat) (hc:c<M.xs.length) (A0:Option Addr) (cap0:Nat) (all:List Nat) (hA:qZ w A0 cap0 all) (gz:all.length<=100000)
 (B:Nat) (ms:List Nat) (hM:Met w B ms) (Ya:ms.length<=100000) (gB:∀ x,In A0 x->¬aq M x) (t:List Nat) (ht:Ch M.ss ms (Cl.nth M.xs c).toNat t):
 Calls Tryz.prog 117 #[ptr M.m,.slice A0 all.length cap0,.int .i64 c,.map (some B)] w (Followed w B A0 all ms t):=by
 have gH:=Cl.eU h.2.1.2.2.1 c
 have hL:=Cl.nh h.2.1 c hc
 obtain ⟨x0,kO⟩:=Int.eq_ofNat_of_zero_le gH.1
 rw [kO] at hL gH ht
 rw [Int.toNat_natCast] at ht
 replace hL:=Lib.hid hL
 have fg:=h.hd.1
 have Yb:=IQ hl ht
 have H:=Lib.hid h
 have H0:=Lib.hid (show IP w w M B A0 all ms t (.slice A0 all.length cap0) (.int .u64 x0) from ⟨A0,cap0,[],x0,t,rfl,rfl,by simpa using hA,by simpa using hM,rfl,by simpa using ht,ab.refl _ _,fun x hx=>.inl hx,by omega⟩)
 replace gB:=Lib.hid gB
 replace hN:=Lib.hid hN
 have Lj:=Lib.hid (fun x (hx:aq M x) (e:x=B)=>hM.no (by rw [<-e]; exact h.ty hx))
 have Yc:=Lib.hid (fun (hx:In A0 B)=>hM.no (cw hA hx))
 clear h hA hM ht kO gH hc
 obtain ⟨i0,cq,cy,cL,cz⟩:=info_parts IS
 generalize nL:all.length=al at*
 replace nL:=Lib.hid nL
 go_enter Tryz.func117,Tryz.ntmps117
 go_wp2_with (go_at_call 90; refine hL.out.mono ?_; rintro e w' ⟨rfl,hw⟩; obtain rfl:w=w':=hw.symm)
 clear hL fg
 go_loopw [1,11] (fun v hv wr=>IP w wr M B A0 all ms t v hv) (fun v _ _=>(match v with | .slice _ n _=>al+t.length-n | _=>0))
 case atStart=>exact H0.out
 case round=>
  obtain ⟨A,cap,out,x,rest,rfl,rfl,hA,hM,oC,dE,hO,dG,hx⟩:=hrel
  clear H0
  have m7:=H.out.only hO (fun y hy q=>by
   rcases q with q | q
   ·exact Lj.out y hy q
   ·exact gB.out y q hy)
  have m2:=m7.hd.2.2.1
  have b9:=hM.look hx
  have aF:out.length<=1024:=by have:t.length=out.length+rest.length:=by rw [oC,List.length_append]
                               omega
  replace hA:=Lib.hid hA
  replace hM:=Lib.hid hM
  replace hO:=Lib.hid hO
  replace dG:=Lib.hid dG
  replace m7:=Lib.hid m7
  rw [nL.out]
  cases dE with
  | stop hs=>
    rcases F3 M.ss x with ⟨k,hk⟩ | ⟨cd,Lk⟩
    ·have yx:=Lib.hid (F5 m7.out.2.2.2.1 hx hk)
     have jm:decide (x∈out.reverse++ms)=true:=by
      rcases hs with q | q
      ·exact absurd hk (q k)
      ·simpa using q
     rw [jm] at b9
     replace oC:=Lib.hid oC
     clear hs jm hk
     go_wp2_with (go_at_call 155; refine yx.out.mono ?_; rintro e w' ⟨rfl,rfl⟩)
     go_ret
     have e1:=oC.out
     rw [List.append_nil] at e1
     subst e1
     exact ⟨A,cap,by rw [nL.out]; rfl,hA.out,hM.out,hO.out,dG.out⟩
    ·have yx:=Lib.hid (MF m7.out.2.2.2.1 hx Lk)
     replace oC:=Lib.hid oC
     clear hs Lk b9
     go_wp2_with (go_at_call 155; refine yx.out.mono ?_; rintro e w' ⟨rfl,rfl⟩)
     go_ret
     have e1:=oC.out
     rw [List.append_nil] at e1
     subst e1
     exact ⟨A,cap,by rw [nL.out]; rfl,hA.out,hM.out,hO.out,dG.out⟩
  | @go _ _ k t' hk Ak hr=>
    have yx:=Lib.hid (F5 m7.out.2.2.2.1 hx hk)
    have jm:decide (x∈out.reverse++ms)=false:=by simpa using Ak
    rw [jm] at b9
    replace oC:=Lib.hid oC
    replace hr:=Lib.hid hr
    replace hk:=Lib.hid hk
    clear jm Ak
    go_wp2_with (first
     | (go_at_call 155; refine yx.out.mono ?_; rintro e w' ⟨rfl,rfl⟩)
     | (at_mapUpdate
        refine R0 rfl _ _ _ rfl B (out.reverse++ms) hM.out (by simp; omega) x hx rfl rfl rfl ?_
        intro w1 aw ax
        have W4:=Lib.hid (m7.out.only ax (fun y hy q=>Lj.out y hy q))
        have cQ:=Lib.hid (hA.out.only ax (fun y hy q=>by
         subst q
         exact hM.out.no (cw hA.out hy)))
        replace aw:=Lib.hid aw
        replace ax:=Lib.hid ax
        clear m2 b9)
     | (at_builtin
        refine kx w1 rfl (.tmp 38) (.tmp 40) 61 rfl 40 i0 (.int .u64 0) 1 8 Tryz.underlying61 cq cy cL cz rfl (by omega) bS (fun _=>rfl) (by intro x u hu; simp [bS] at hu; subst hu; rfl)
         A cap (al+out.length) (all++out) (by rw [List.length_append,nL.out]) x #[.int .u64 x] rfl rfl cQ.out rfl (by simp only [maxLen]; omega) (by omega) ?_
        intro A2 cap2 w2 bG ae bw
        have bp:∀ y,In A y->aq M y->False:=fun y hy hm=>by
         have h1:=H.out.lt hm
         rcases dG.out y hy with q | q
         ·exact gB.out y q hm
         ·omega
        have vA:=W4.out.only ae (fun y hm hy=>bp y hy hm)
        have aI:=Lib.hid (aw.out.only ae (fun hy=>aw.out.no (cw cQ.out hy)))
        have m2:=vA.hd.2.2.1
        have fB:=yO vA.2.2.2.1 hx hk.out
        obtain ⟨e1,e2⟩:=hN.out.at k
        have kj:=Lib.hid ((hO.out.trans' ax.out (fun y _ q=>.inl q)).trans' (S:=fun x=>x=B\/In A0 x) ae (fun y hy q=>by
         rcases dG.out y q with q | q
         ·exact .inr q
         ·omega))
        generalize (aj M.ss k).nd=dd at*
        obtain ⟨ky,vl,sm,nxt⟩:=dd
        simp only at e1
        subst e1
        generalize nx M.ss k=nk at*
        unfold eg at fB
        replace fB:=Lib.hid fB
        replace vA:=Lib.hid vA
        replace bG:=Lib.hid bG
        replace bw:=Lib.hid (fun y (hy:In A2 y)=>show In A0 y\/w.heap.size<=y from by
         rcases bw y hy with q | q
         ·exact dG.out y q
         ·exact .inr (Nat.le_trans (hO.out.trans' ax.out (fun y _ q=>.inl q)).size q))
        clear bp ae)
     | (go_at_call 156
        refine fB.out.mono ?_
        rintro e w3 ⟨rfl,ay⟩
        replace ay:=Lib.hid ay
        clear m2))
    go_roundw
    case rel=>
     have yy:=(ab.refl (fun _=>False) w2).below ay.out
     refine ⟨A2,cap2,out++[x],nk,t',by rw [nL.out,List.length_append]; rfl,rfl,?_,?_,by rw [List.append_assoc]; exact oC.out,by simpa using hr.out,?_,bw.out,e2⟩
     ·rw [<-List.append_assoc]
      exact bG.out.only (yy.alloc _) (by simp)
     ·have:(out++[x]).reverse++ms=x::(out.reverse++ms):=by simp
      rw [this]
      exact aI.out.only (yy.alloc _) (by simp)
     ·exact (kj.out.below ay.out).alloc _
    case measure=>
     have:=oC.out
     have h1:t.length=out.length+(t'.length+1):=by rw [this]; simp
     simp
     omega
end Go.Proofs.YtpanebgakndddaaGreat.Me
namespace Go.Proofs.YtpanebgakndddaaGreat.Me
open Go Go.RowKit Hp K Fl Rw Hm Ar Mm
set_option maxRecDepth 100000
def first (xs:List Int) (ds:List (Nat×Nat)) (b:Nat):Nat:=(Cl.nth xs ((now xs ds).2+b)).toNat
def Dg (xs:List Int) (ds:List (Nat×Nat)) (ss:List Sl) (t:List Nat):Prop:=Rh ss (first xs ds) (now xs ds).1 t
def Sn (w:World) (ty:TypeId) (t:List Nat) (e:Ending) (w':World):Prop:=
 ∃ A cap,e=.returned (.slice A t.length cap)/\Row w' ty 1 bS A cap t/\Below w.heap.size w w'/\∀ x,In A x->w.heap.size<=x
section
variable {w:World} {M:Mo}
def IZ (w wr:World) (M:Mo) (B q:Nat) (d:Nat×Nat) (f:Nat->Nat) (v:Value) (b:Nat):Prop:=
 ∃ (A:Option Addr) (cap:Nat) (all ms:List Nat),v=.slice A all.length cap/\Rh M.ss f b all/\qZ wr A cap all/\Met wr B ms/\(∀ x,x∈all↔x∈ms)/\ms.length<=all.length/\
   ah wr M/\af wr q 141 #[.int .i64 d.1,.int .i64 d.2]/\Below w.heap.size w wr/\(∀ x,In A x->w.heap.size<=x)/\w.heap.size<=B
set_option maxHeartbeats 1000000 in
theorem So (h:ah w M) (hT:mA M.xs M.ds) (hx:1<M.xs.length) (hN:ff M.ss) (hl:M.ss.length<=1024) (t:List Nat) (ht:Dg M.xs M.ds M.ss t):
 Calls Tryz.prog 87 #[ptr M.m] w (Sn w 40 t):=by
 have yz:=pJ h hx
 have tF:=hT.now
 have H:=Lib.hid h
 have bz:=h.2.1.2.2.2
 unfold Dg at ht
 obtain ⟨⟨d1,d2⟩,hd⟩:∃ d,now M.xs M.ds=d:=⟨_,rfl⟩
 have Lp:first M.xs M.ds=fun b=>(Cl.nth M.xs (d2+b)).toNat:=by unfold first; rw [hd]
 rw [hd] at yz tF
 rw [hd,Lp] at ht
 simp only at ht tF
 clear Lp hd h
 unfold dv at yz
 replace yz:=Lib.hid yz
 have hF:Hid (∀ w2 A cap all B ms u k,k<d1->ah w2 M->qZ w2 A cap all->all.length<=1024->Met w2 B ms->ms.length<=1024->(∀ x,In A x->¬aq M x)->Ch M.ss ms (Cl.nth M.xs (d2+k)).toNat u->Calls Tryz.prog 117 #[ptr M.m,.slice A all.length cap,.int .i64 ((d2:Int)+(k:Int)),.map (some B)] w2 (Followed w2 B A all ms u)):=Lib.hid fun w2 A cap all B ms u k hk h2 ha nL hm pz gB hu=>by
  have jN:=tF.2.1 (by omega)
  have:=R6 h2 hN hl (d2+k) (by omega) A cap all ha (by omega) B ms hm (by omega) gB u hu
  rw [Int.natCast_add] at this
  exact this
 clear hT hN hx
 have Yd:=tF.1
 have Ye:=tF.2.2
 replace tF:=Lib.hid tF
 replace ht:=Lib.hid ht
 have vc:=@run_makeMap Tryz.prog
 go_enter Tryz.func87,Tryz.ntmps87
 go_wp2_with (go_at_call 64; refine yz.out.mono ?_; rintro e w1 ⟨rfl,aD⟩
              have aw:=Lib.hid (H.out.below aD)
              replace aD:=Lib.hid aD)
 have H0:=Lib.hid (show IZ w ((w1.alloc (.cells #[.int .i64 d1,.int .i64 d2] 141)).alloc (.map #[] 0)) M (w1.heap.size+1) w1.heap.size (d1,d2) (fun b=>(Cl.nth M.xs (d2+b)).toNat) (.slice none 0 0) 0 from by
  have hs:=aD.out.size
  refine ⟨none,0,[],[],rfl,.zero,Row.nil _ _ _ _,?_,by simp,by simp,(aw.out.alloc _).alloc _,(af.made w1 _ _).alloc _,?_,by simp [In],by omega⟩
  ·have:=Met.made (w1.alloc (.cells #[.int .i64 d1,.int .i64 d2] 141))
   simpa using this
  ·exact (aD.out.alloc hs _).alloc (by simp; omega) _)
 go_wp2_with fail
 clear vc
 go_loopw [4,12] (fun v i wr=>∃ b:Nat,b<=d1/\i=.int .i64 b/\IZ w wr M (w1.heap.size+1) w1.heap.size (d1,d2) (fun b=>(Cl.nth M.xs (d2+b)).toNat) v b) (fun _ i _=>d1-(intOf i).toNat)
 case atStart=>exact ⟨0,Nat.zero_le _,rfl,H0.out⟩
 case round=>
  obtain ⟨b,hb,rfl,A,cap,all,ms,rfl,hR,hA,hM,yA,pz,m7,hQ,hB,dG,rM⟩:=hrel
  clear H0
  have Yf:=Sj hl hR
  by_cases aV:b<d1
  ·obtain ⟨u,hu⟩:=Sd M.ss hl all (Cl.nth M.xs (d2+b)).toNat
   have W6:=Lib.hid (hF.out wr A cap all (w1.heap.size+1) ms u b aV m7 hA (by omega) hM (by omega) (fun x hx hm=>by
    have h1:=dG x hx
    have h2:=H.out.lt hm
    omega) (Se hu ms yA))
   have c0:=hQ.cell 0
   have c1:=hQ.cell 1
   simp at c0 c1
   replace hA:=Lib.hid hA
   replace hM:=Lib.hid hM
   replace m7:=Lib.hid m7
   replace hQ:=Lib.hid hQ
   replace hB:=Lib.hid hB
   replace dG:=Lib.hid dG
   have ti:=Lib.hid (Rh.succ hR hu)
   have Yg:=IQ hl hu
   replace yA:=Lib.hid yA
   clear hu hR
   generalize nL:all.length=al at*
   replace nL:=Lib.hid nL
   go_wp2_with (go_at_call 117
                refine W6.out.mono ?_
                rintro e w2 ⟨A2,cap2,rfl,bw,aI,ae,xz⟩
                have W7:=Lib.hid (fun y (hy:In A2 y)=>show w.heap.size<=y from by
                 rcases xz y hy with q | q
                 ·exact dG.out y q
                 ·have:=hB.out.size
                  omega)
                have vA:=Lib.hid (m7.out.only ae (fun y hm q=>by
                 have h2:=H.out.lt hm
                 rcases q with q | q
                 ·omega
                 ·have:=dG.out y q
                  omega))
                have Ax:=Lib.hid (hQ.out.only ae (fun q=>by
                 rcases q with q | q
                 ·omega
                 ·exact (cw hA.out q).apart (bm hQ.out) (by decide)))
                have ag:=Lib.hid (hB.out.trans (ae.toBelow hB.out.size (fun y hy q=>by
                 rcases q with q | q
                 ·omega
                 ·have:=dG.out y q
                  omega)))
                replace bw:=Lib.hid bw
                replace aI:=Lib.hid aI
                clear ae xz c0 c1)
   go_roundw
   case rel=>
    refine ⟨b+1,by omega,by go_num,A2,cap2,all++u,u.reverse++ms,by rw [List.length_append],ti.out,bw.out,aI.out,fun x=>?_,?_,vA.out,Ax.out,ag.out,W7.out,rM⟩
    ·have:=yA.out x
     simp [this,or_comm]
    ·have:=nL.out
     simp
     omega
   case measure=>simp [intOf]; omega
  ·obtain rfl:b=d1:=by omega
   obtain rfl:=Sg hl ht.out _ hR
   have c0:=hQ.cell 0
   simp at c0
   replace hA:=Lib.hid hA
   replace hB:=Lib.hid hB
   replace dG:=Lib.hid dG
   clear hM m7 yA hR hQ
   go_wp2_with fail
   go_ret
   exact ⟨A,cap,rfl,hA.out,hB.out,dG.out⟩
end
end Go.Proofs.YtpanebgakndddaaGreat.Me
namespace Go.Proofs.YtpanebgakndddaaGreat.Mq
open Go Hm Ar Mm Wk Pc Me
abbrev Hp:=Nat×Pr
abbrev aM (q:List Hp):List Nat:=q.map (·.1)
abbrev bs (q:List Hp):List Pr:=q.map (·.2)
abbrev dQ (q:List Hp):List ByteArray:=q.map (·.2.1)
inductive Cx (ss:List Sl):Nat->List Hp->Prop
 | nil:Cx ss 0 []
 | cons {x k z:Nat} {p:Pr} {t:List Hp}:bj ss x k->(aj ss k).nd=dR p z->Cx ss z t->Cx ss x ((x,p)::t)
section
variable {ss ss':List Sl} {x:Nat} {q:List Hp}
theorem Cx.cn (h:Cx ss x q):Cn ss x (bs q):=by
 induction h with
 | nil=>exact .nil
 | cons a b _ ih=>exact .cons a b ih
theorem Cx.pos (h:Cx ss x q):x=0↔q=[]:=by
 cases h with
 | nil=>simp
 | cons a b c=>simp [a.pos]
theorem Cx.ch (h:Cx ss x q):∀ met,(∀ y∈aM q,y∉met)->(aM q).Nodup->Ch ss met x (aM q):=by
 induction h with
 | nil=>intro met _ _; exact .stop (.inl fun k hk=>hk.pos rfl)
 | @cons x k z p t a b c ih=>
   intro met hm hn
   have gM:x∉aM t/\(aM t).Nodup:=List.nodup_cons.1 hn
   refine .go a (hm x (by simp)) ?_
   have e:nx ss k=z:=by unfold nx; rw [b]; rfl
   rw [e]
   refine ih (x::met) (fun y hy q=>?_) gM.2
   rcases List.mem_cons.1 q with rfl | q
   ·exact gM.1 hy
   ·exact hm y (List.mem_cons_of_mem _ hy) q
theorem Cx.at (h:Cx ss x q):∀ e∈q,∃ k z,bj ss e.1 k/\(aj ss k).nd=dR e.2 z:=by
 induction h with
 | nil=>simp
 | @cons x k z p t a b c ih=>
   intro e he
   rcases List.mem_cons.1 he with rfl | he
   ·exact ⟨k,z,a,b⟩
   ·exact ih e he
theorem Cx.nA (h:Cx ss x q):(∀ y∈aM q,∀ k,bj ss y k->bj ss' y k/\(aj ss' k).nd=(aj ss k).nd)->Cx ss' x q:=by
 induction h with
 | nil=>intro _; exact .nil
 | @cons x k z p t a b c ih=>
   intro hk
   have:=hk x (by simp) k a
   exact .cons this.1 (this.2.trans b) (ih fun y hy=>hk y (List.mem_cons_of_mem _ hy))
theorem Cx.tail {p:Pr} {t:List Hp} (h:Cx ss x ((x,p)::t)):∃ k z,bj ss x k/\(aj ss k).nd=dR p z/\Cx ss z t:=by
 cases h with
 | cons a b c=>exact ⟨_,_,a,b,c⟩
theorem Cx.head {e:Hp} {t:List Hp} (h:Cx ss x (e::t)):x=e.1:=by
 cases h with
 | cons a b c=>rfl
def wX (pre:List Hp):Nat:=(aM pre).getLastD 0
theorem wY (pre:List Hp) (e:Hp):wX (pre++[e])=e.1:=by simp [wX]
theorem II {pre:List Hp} (h:Cx ss x (pre++q)) (hp:pre≠[]):wX pre≠0:=by
 obtain ⟨p0,e,rfl⟩:∃ p0 e,pre=p0++[e]:=⟨pre.dropLast,pre.getLast hp,(List.dropLast_concat_getLast hp).symm⟩
 rw [wY]
 obtain ⟨k,z,hk,_⟩:=h.at e (by simp)
 exact hk.pos
theorem Cx.swap {m h kp z:Nat} {e e':Hp} {pr:Pr} {t:List Hp} (hh:bj ss' h m) (bS:(aj ss' m).nd=dR pr z) (ht:Cx ss' z t):∀ (pre:List Hp) (x:Nat),Cx ss x (pre++e::e'::t)->
 bj ss e.1 kp->bj ss' e.1 kp->(aj ss' kp).nd=dR e.2 h->(∀ y∈aM pre,∀ k,bj ss y k->bj ss' y k/\(aj ss' k).nd=(aj ss k).nd)->Cx ss' x (pre++e::(h,pr)::t):=by
 intro pre
 induction pre with
 | nil=>
   intro x hc h1 h2 h3 _
   cases hc with
   | cons a b c=>exact .cons h2 h3 (.cons hh bS ht)
 | cons e0 r ih=>
   intro x hc h1 h2 h3 hk
   cases hc with
   | @cons _ k z0 p _ a b c=>
     have:=hk x (by simp) k a
     exact .cons this.1 (this.2.trans b) (ih _ c h1 h2 h3 fun y hy=>hk y (List.mem_cons_of_mem _ hy))
end
/-! ### what is found-/
theorem nT {q:List Pr} {key:ByteArray}:lk q key=none↔key∉q.map (·.1):=by
 induction q with
 | nil=>simp [lk]
 | cons p t ih=>
   unfold lk
   by_cases h:p.1=key
   ·rw [if_pos h]; simp [h]
   ·rw [if_neg h,ih]
    simp [show ¬key=p.1 from fun e=>h e.symm]
theorem vZ {q:List Pr} {p:Pr} (hn:(q.map (·.1)).Nodup) (hp:p∈q):lk q p.1=some p.2:=by
 induction q with
 | nil=>simp at hp
 | cons a t ih=>
   have gM:a.1∉t.map (·.1)/\(t.map (·.1)).Nodup:=List.nodup_cons.1 hn
   unfold lk
   rcases List.mem_cons.1 hp with rfl | hp
   ·rw [if_pos rfl]
   ·rw [if_neg (fun e=>gM.1 (by rw [e]; exact List.mem_map_of_mem hp)),ih gM.2 hp]
theorem RQ {q:List Pr} {key v:ByteArray} (h:lk q key=some v):(key,v)∈q:=by
 induction q with
 | nil=>simp [lk] at h
 | cons a t ih=>
   unfold lk at h
   split at h
   ·rename_i e
    injection h with h
    subst h; subst e
    exact List.mem_cons_self
   ·exact List.mem_cons_of_mem _ (ih h)
theorem IJ {q q':List Pr} (hn:(q.map (·.1)).Nodup) (hp:q.Perm q') (key:ByteArray):lk q key=lk q' key:=by
 have gM:(q'.map (·.1)).Nodup:=(hp.map _).nodup_iff.1 hn
 cases h:lk q key with
 | none=>
   rw [nT] at h
   exact ((nT.2 fun e=>h ((hp.map _).mem_iff.2 e))).symm
 | some v=>
   have:=hp.mem_iff.1 (RQ h)
   exact (vZ gM this).symm
structure uc (l l':List Pr) (key val:ByteArray):Prop where
 nd:(l'.map (·.1)).Nodup
 lk:∀ k,Pc.lk l' k=if k=key then some val else Pc.lk l k
 len:l'.length=if (Pc.lk l key).isSome then l.length else l.length+1
theorem v5 {l:List Pr} (hn:(l.map (·.1)).Nodup) (key:ByteArray):(l.filter fun p=>decide (p.1≠key)).length+(if (Pc.lk l key).isSome then 1 else 0)=l.length:=by
 induction l with
 | nil=>simp [lk]
 | cons p t ih=>
   have gM:p.1∉t.map (·.1)/\(t.map (·.1)).Nodup:=List.nodup_cons.1 hn
   have:=ih gM.2
   by_cases h:p.1=key
   ·have h0:lk t key=none:=nT.2 (by rw [<-h]; exact gM.1)
    rw [h0] at this
    simp only [Option.isSome_none,Bool.false_eq_true,if_false,Nat.add_zero] at this
    simp only [List.filter_cons,h,ne_eq,not_true_eq_false,decide_false,Bool.false_eq_true,if_false,lk,if_true,Option.isSome_some,List.length_cons]
    simp only [ne_eq] at this
    omega
   ·simp only [List.filter_cons,h,ne_eq,not_false_eq_true,decide_true,if_true,lk,if_false,List.length_cons]
    simp only [ne_eq] at this
    omega
theorem yU (l:List Pr) (key k:ByteArray):lk (l.filter fun p=>decide (p.1≠key)) k=if k=key then none else lk l k:=by
 induction l with
 | nil=>simp [lk]
 | cons p t ih=>
   by_cases h:p.1=key
   ·rw [List.filter_cons,if_neg (by simp [h]),ih]
    split
    ·rfl
    ·rename_i hk
     conv=>rhs; unfold lk
     rw [if_neg (fun e=>hk (by rw [<-e,h]))]
   ·rw [List.filter_cons,if_pos (by simp [h])]
    unfold lk
    split
    ·rename_i e
     rw [if_neg (fun q=>h (by rw [e,q]))]
    ·exact ih
theorem GL {l l':List Pr} {key val:ByteArray} (hn:(l.map (·.1)).Nodup) (hp:l'.Perm ((key,val)::l.filter fun p=>decide (p.1≠key))):uc l l' key val:=by
 have hf:((((key,val)::l.filter fun p=>decide (p.1≠key)):List Pr).map (·.1)).Nodup:=by
  rw [List.map_cons,List.nodup_cons]
  refine ⟨fun q=>?_,(List.filter_sublist.map _).nodup hn⟩
  obtain ⟨p,hp,e⟩:=List.mem_map.1 q
  have:=(List.mem_filter.1 hp).2
  simp [e] at this
 have gM:(l'.map (·.1)).Nodup:=(hp.map _).nodup_iff.2 hf
 refine ⟨gM,fun k=>?_,?_⟩
 ·rw [IJ gM hp]
  unfold lk
  by_cases e:key=k
  ·rw [if_pos e,if_pos e.symm]
  ·rw [if_neg e,if_neg (fun q=>e q.symm),yU,if_neg (fun q=>e q.symm)]
   cases l<;>rfl
 ·rw [hp.length_eq,List.length_cons]
  have:=v5 hn key
  split
  ·rename_i e; rw [if_pos e] at this; omega
  ·rename_i e; rw [if_neg e] at this; omega
def ai (key:ByteArray) (n:Nat):Nat:=(FM.bucket (sm key) n).toNat
theorem dJ {n:Nat} (hp:FM.bl n=true) (key:ByteArray):ai key n<n/\FM.bucket (sm key) n=(ai key n:Nat):=by
 have:=IK hp (sm key) (oT key).1
 unfold ai
 omega
end Go.Proofs.YtpanebgakndddaaGreat.Mq
namespace Go.Proofs.YtpanebgakndddaaGreat.Pu
open Go Go.RowKit Hp K Fl Rw Hm Ar Mm Me Wk Ta Pn Pc Mq
set_option maxRecDepth 100000
section
variable {xs:List Int} {ds:List (Nat×Nat)} {s:List Int×Ho}
theorem JC (h:s.2.nx=1):dx xs ds s=(s.1,{s.2 with nx:=2,num:=(Cl.nth xs 1).toNat}):=by unfold dx; rw [if_pos h]
theorem JE (h:s.2.nx=2):dx xs ds s=(s.1.set (fy s.2.sum (aO ds s.2.num)) s.2.worker,{s.2 with nx:=3,d:=aO ds s.2.num,lock:=fy s.2.sum (aO ds s.2.num)}):=by unfold dx; rw [if_neg (by omega),if_pos h]
theorem Un (h:s.2.nx=3) (he:Cl.nth xs 1=s.2.num):dx xs ds s=(s.1,{s.2 with nx:=5,holds:=true}):=by unfold dx; rw [if_neg (by omega),if_neg (by omega),if_pos h,if_pos he]
end
section
variable {L:Lm} {S:Sk}
theorem DE (h:S.ph=1):aH L S=({L with hs:=(dx L.xs L.ds (L.hs,S.H)).1},if iK L.xs (L.hs,S.H)=true then {S with H:=(dx L.xs L.ds (L.hs,S.H)).2,cell:=o7 S.sum (dx L.xs L.ds (L.hs,S.H)).2,W:=new 0 (o7 S.sum (dx L.xs L.ds (L.hs,S.H)).2) S.sum S.key,ph:=2} else {S with H:=(dx L.xs L.ds (L.hs,S.H)).2}):=by
 unfold aH; rw [if_pos h]
theorem JF (h:S.ph=2):aH L S=({L with F:=(Wk.aE L.xs L.ss (L.F,S.W)).1},{S with W:=(Wk.aE L.xs L.ss (L.F,S.W)).2}):=by
 unfold aH; rw [if_neg (by omega)]
theorem DF (h:S.ph=1):b7 L S=false:=by unfold b7; rw [if_pos h]
theorem JG (h:S.ph=2):b7 L S=Wk.cp L.xs L.ss (L.F,S.W):=by unfold b7; rw [if_neg (by omega)]
theorem JH (h:S.ph≠1):eK L S=true:=by unfold eK; rw [if_neg h]
end
structure Ep where
 L:Lm
 key:ByteArray
 val:ByteArray
 i:Int
 h:Nat
 d:Nat×Nat
 c:Nat
 q:List Mq.Hp
abbrev Ep.word (E:Ep):Nat:=(Cl.nth E.L.xs E.c).toNat
abbrev Ep.lock (E:Ep):Nat:=fy (sm E.key) E.d
abbrev Ep.num (E:Ep):Nat:=(Cl.nth E.L.xs 1).toNat
abbrev Ep.hs (E:Ep):List Int:=E.L.hs.set E.lock E.i
structure Ep.Ok (E:Ep):Prop where
 len:E.L.ss.length<=1024
 db:ff E.L.ss
 tb:∀ i,(aO E.L.ds i).1<=65536/\(aO E.L.ds i).2<=4000000
 wk:0<=E.i/\E.i<=1000
 xb:∀ x∈E.L.xs,0<=x/\x<=18446744073709551615
 hs:E.L.hs=List.replicate 6 (-1)
 now:Me.now E.L.xs E.L.ds=E.d
 d0:E.d.1≠0
 cell:(E.c:Int)=E.d.2+FM.bucket (sm E.key) E.d.1
 cx:E.c<E.L.xs.length
 x1:1<E.L.xs.length
 ch:Cx E.L.ss E.word E.q
 gen:∀ k,(aj E.L.ss k).gen<=1000000
 ws:E.L.ws.length<=1000000
 ql:E.q.length<=1024
abbrev Ep.H (E:Ep):Ho:=⟨E.h,E.i,sm E.key,5,E.num,E.d,E.lock,true⟩
def fF (E:Ep) (W:Wa):Prop:=(W.found=0/\E.key∉dQ E.q/\W.first=E.word)\/
 ∃ (pre:List Mq.Hp) (x:Nat) (p:Pr) (t:List Mq.Hp) (z k:Nat),E.q=pre++(x,p)::t/\p.1=E.key/\W.found=x/\bj E.L.ss x k/\(aj E.L.ss k).nd=dR p z/\W.nd=dR p z/\Cx E.L.ss z t/\W.prev=wX pre
abbrev Ep.s (E:Ep) (H:Ho) (W:Wa):Sk:=⟨E.key,sm E.key,2,H,E.c,W⟩
abbrev Ep.n (E:Ep) (H:Ho):Sk:={jk E.h E.i (sm E.key) E.key with H:=H}
inductive Rs (E:Ep):Nat->Lm×Sk->Prop
 | a1:Rs E (4+E.q.length) (E.L,jk E.h E.i (sm E.key) E.key)
 | a2:Rs E (3+E.q.length) (E.L,E.n ⟨E.h,E.i,sm E.key,2,E.num,(0,0),0,false⟩)
 | a3:Rs E (2+E.q.length) ({E.L with hs:=E.hs},E.n ⟨E.h,E.i,sm E.key,3,E.num,E.d,E.lock,false⟩)
 | w1:Rs E (1+E.q.length) ({E.L with hs:=E.hs},E.s E.H (Wk.new 0 E.c (sm E.key) E.key))
 | w2 (pre rest:List Mq.Hp) (W:Wa):E.q=pre++rest->rest≠[]->W.nx=2->Cx E.L.ss W.at_ rest->W.key=E.key->W.sum=sm E.key->W.first=E.word->W.prev=wX pre->W.found=0->W.read=pre.length->W.cell=E.c->E.key∉dQ pre->W.at_<=18446744073709551615->W.nd=.zero->
    Rs E rest.length ({E.L with hs:=E.hs},E.s E.H W)
section
variable {E:Ep} {k:Nat} {s:Lm×Sk}
theorem Ep.Ok.lk (hE:E.Ok):E.lock<6:=by
 have:=xk E.d (oT E.key).1
 show fy (sm E.key) E.d<6
 omega
theorem Ep.Ok.back (hE:E.Ok):E.hs.set E.lock (-1)=E.L.hs:=by
 show (E.L.hs.set E.lock E.i).set E.lock (-1)=_
 rw [List.set_set,hE.hs]
 apply List.ext_getElem
 ·simp
 ·intro i h1 h2
  rw [List.getElem_set,List.getElem_replicate]
  split<;>first | rfl | rw [List.getElem_replicate]
theorem Ep.Ok.aF (hE:E.Ok):Lo.aF E.hs E.lock=E.i:=by
 have:=hE.lk
 show Lo.aF (E.L.hs.set E.lock E.i) E.lock=_
 rw [uG (by rw [hE.hs]; simpa using this),if_pos rfl]
theorem Rs.pos (h:Rs E k s):1<=k:=by
 cases h with
 | w2 pre rest W h1 h2=>exact List.length_pos_iff.2 h2
 | _=>omega
theorem Ep.Ok.JI (hE:E.Ok):ik E.L.xs E.L.ds (E.L.hs,⟨E.h,E.i,sm E.key,1,0,(0,0),0,false⟩):=by
 have hw:=hE.wk
 exact ⟨oT _,⟨hw.1,by show E.i<=_; omega⟩,by show 4<E.L.hs.length; rw [hE.hs]; simp,hE.x1,by simp,Cl.eU hE.xb 1,fun i=>(hE.tb i).1,by simp,by rintro (q | q | q)<;>simp at q,fun q=>by simp at q⟩
theorem Ep.Ok.JJ (hE:E.Ok):ik E.L.xs E.L.ds (E.L.hs,⟨E.h,E.i,sm E.key,2,E.num,(0,0),0,false⟩):=by
 have:=hE.JI.step (by unfold lU; rfl) (by unfold iK; simp)
 rw [JC rfl] at this
 exact this
theorem Ep.Ok.free (hE:E.Ok):lU E.L.ds (E.L.hs,⟨E.h,E.i,sm E.key,2,E.num,(0,0),0,false⟩)=true:=by
 have hn:aO E.L.ds E.num=E.d:=hE.now
 have hl:=hE.lk
 unfold lU
 rw [if_pos rfl]
 simp only [decide_eq_true_eq]
 rw [hn,hE.hs]
 unfold Lo.aF
 rw [List.getD_eq_getElem?_getD,List.getElem?_replicate]
 split<;>rfl
theorem Ep.Ok.Uo (hE:E.Ok):ik E.L.xs E.L.ds (E.hs,⟨E.h,E.i,sm E.key,3,E.num,E.d,E.lock,false⟩):=by
 have:=hE.JJ.step hE.free (by unfold iK; simp)
 rw [JE rfl] at this
 have hn:aO E.L.ds E.num=E.d:=hE.now
 simp only [hn] at this
 exact this
theorem Ep.Ok.zi (hE:E.Ok) {xs:List Int} {ds:List (Nat×Nat)} (hx:1<xs.length) (hd:ds=E.L.ds) (h1:0<=Cl.nth xs 1/\Cl.nth xs 1<=18446744073709551615):ik xs ds (E.hs,E.H):=by
 have hw:=hE.wk
 have hl:=hE.lk
 subst hd
 refine ⟨oT _,⟨hw.1,by show E.i<=_; omega⟩,by show 4<(E.L.hs.set E.lock E.i).length; rw [hE.hs]; simp,hx,?_,h1,fun i=>(hE.tb i).1,by simp,fun _=>⟨?_,hE.aF⟩,fun _=>by simp⟩
 ·have:=Cl.eU hE.xb 1
  show E.num<=_
  show (Cl.nth E.L.xs 1).toNat<=_
  omega
 ·show E.lock<(E.L.hs.set E.lock E.i).length
  rw [hE.hs]
  simpa using hl
theorem IM {ss:List Sl} (h:ff ss) (x y:Nat) (hy:y<=18446744073709551615):ff (aS ss x y):=by
 unfold aS
 by_cases hk:(x-1) % 65536<ss.length
 ·exact h.set hk _ ⟨by simp only; omega,by simp only; omega⟩
 ·rw [List.set_eq_of_length_le (by omega)]
  exact h
theorem Ep.Ok.word (hE:E.Ok):Wk.word E.L.xs E.c=E.word:=by
 have:=hE.cx
 unfold Wk.word
 rw [if_pos (by omega),Int.toNat_natCast]
theorem Ep.Ok.Uq (hE:E.Ok):E.word<=18446744073709551615:=by
 have:=Cl.eU hE.xb E.c
 show (Cl.nth E.L.xs E.c).toNat<=_
 omega
theorem Ur (hE:E.Ok) {F:Bool}:Wk.aE E.L.xs E.L.ss (F,Wk.new 0 E.c (sm E.key) E.key)=(F,dB {Wk.new 0 E.c (sm E.key) E.key with first:=E.word} E.word)/\Wk.cp E.L.xs E.L.ss (F,Wk.new 0 E.c (sm E.key) E.key)=decide (E.word=0):=by
 have h:Wk.aE E.L.xs E.L.ss (F,Wk.new 0 E.c (sm E.key) E.key)=(F,dB {Wk.new 0 E.c (sm E.key) E.key with first:=E.word} E.word):=by
  unfold Wk.aE
  simp only
  rw [if_pos (show (Wk.new 0 (E.c:Int) (sm E.key) E.key).nx=1 from rfl),show (Wk.new 0 (E.c:Int) (sm E.key) E.key).cell=(E.c:Int) from rfl,hE.word]
 refine ⟨h,?_⟩
 unfold Wk.cp
 rw [h]
 exact zr _ _
theorem Rs.ok (hE:E.Ok) (h:Rs E k s):∃ r,qP r s.1 s.2:=by
 have ke:=oT E.key
 have kR:=qR (sm E.key) E.d.1 ke.1
 have KQ:=(hE.tb E.num).2
 have hn:aO E.L.ds E.num=E.d:=hE.now
 rw [hn] at KQ
 have hc:=hE.cell
 cases h with
 | a1=>exact ⟨0,ke,fun _=>hE.JI,fun _=>by simp [jk],fun q=>absurd rfl q,hE.db,hE.tb⟩
 | a2=>exact ⟨0,ke,fun _=>hE.JJ,fun _=>by simp,fun q=>absurd rfl q,hE.db,hE.tb⟩
 | a3=>exact ⟨0,ke,fun _=>hE.Uo,fun _=>by rw [<-hE.now]; exact hE.tb _,fun q=>absurd rfl q,hE.db,hE.tb⟩
 | w1=>exact ⟨0,ke,fun q=>by simp at q,fun q=>by simp at q,fun _=>⟨by simp [Wk.new]; omega,by simp [Wk.new],by simp [Wk.new],by simp [Wk.new]⟩,hE.db,hE.tb⟩
 | w2 pre rest W h1 h2 h3 h4 h5 h6 h7 h8 h9 nI Bh AM Lz Ff=>
   have Au:=hE.ql
   rw [h1,List.length_append] at Au
   exact ⟨0,ke,fun q=>by simp at q,fun q=>by simp at q,fun _=>⟨by simp only [Bh]; omega,Lz,by simp only [nI]; omega,by simp only [h3]; omega⟩,hE.db,hE.tb⟩
theorem Rs.step (hE:E.Ok) (h:Rs E k s):eK s.1 s.2=true/\1<=k/\(b7 s.1 s.2=true->∃ W,fF E W/\(W.found=0->W.nd=.zero)/\aH s.1 s.2=({E.L with hs:=E.hs},E.s E.H W))/\(b7 s.1 s.2=false->∃ j,j<=k-1/\Rs E j (aH s.1 s.2)):=by
 have hn:aO E.L.ds E.num=E.d:=hE.now
 cases h with
 | a1=>
   refine ⟨rfl,by omega,fun q=>by rw [DF rfl] at q; simp at q,fun _=>?_⟩
   have e:aH E.L (jk E.h E.i (sm E.key) E.key)=(E.L,E.n ⟨E.h,E.i,sm E.key,2,E.num,(0,0),0,false⟩):=by
    rw [DE rfl]
    have e1:dx E.L.xs E.L.ds (E.L.hs,(jk E.h E.i (sm E.key) E.key).H)=(E.L.hs,⟨E.h,E.i,sm E.key,2,E.num,(0,0),0,false⟩):=JC rfl
    have e2:iK E.L.xs (E.L.hs,(jk E.h E.i (sm E.key) E.key).H)=false:=by unfold iK jk; simp
    rw [e1,e2]
    rfl
   rw [e]
   exact ⟨_,by omega,.a2⟩
 | a2=>
   refine ⟨hE.free,by omega,fun q=>by rw [DF rfl] at q; simp at q,fun _=>?_⟩
   have e:aH E.L (E.n ⟨E.h,E.i,sm E.key,2,E.num,(0,0),0,false⟩)=({E.L with hs:=E.hs},E.n ⟨E.h,E.i,sm E.key,3,E.num,E.d,E.lock,false⟩):=by
    rw [DE rfl]
    have e1:dx E.L.xs E.L.ds (E.L.hs,(⟨E.h,E.i,sm E.key,2,E.num,(0,0),0,false⟩:Ho))=(E.hs,⟨E.h,E.i,sm E.key,3,E.num,E.d,E.lock,false⟩):=by
     rw [JE rfl]
     simp only [hn]
    have e2:iK E.L.xs (E.L.hs,(⟨E.h,E.i,sm E.key,2,E.num,(0,0),0,false⟩:Ho))=false:=by unfold iK; simp
    simp only [e1,e2]
    rfl
   rw [e]
   exact ⟨_,by omega,.a3⟩
 | a3=>
   refine ⟨rfl,by omega,fun q=>by rw [DF rfl] at q; simp at q,fun _=>?_⟩
   have sW:Cl.nth E.L.xs 1=((E.num:Nat):Int):=by
    have:=Cl.eU hE.xb 1
    show _=(((Cl.nth E.L.xs 1).toNat:Nat):Int)
    omega
   have hc:o7 (sm E.key) E.H=(E.c:Int):=by
    unfold o7 Gt.cellOf
    rw [if_pos rfl,if_neg hE.d0]
    exact hE.cell.symm
   have e:aH {E.L with hs:=E.hs} (E.n ⟨E.h,E.i,sm E.key,3,E.num,E.d,E.lock,false⟩)=({E.L with hs:=E.hs},E.s E.H (Wk.new 0 E.c (sm E.key) E.key)):=by
    rw [DE rfl]
    have e1:dx E.L.xs E.L.ds (E.hs,(⟨E.h,E.i,sm E.key,3,E.num,E.d,E.lock,false⟩:Ho))=(E.hs,E.H):=Un rfl sW
    have e2:iK E.L.xs (E.hs,(⟨E.h,E.i,sm E.key,3,E.num,E.d,E.lock,false⟩:Ho))=true:=by unfold iK; exact decide_eq_true (.inl ⟨rfl,sW⟩)
    simp only [e1,e2,if_true]
    show ({E.L with hs:=E.hs},({jk E.h E.i (sm E.key) E.key with H:=E.H,cell:=o7 (sm E.key) E.H,W:=Wk.new 0 (o7 (sm E.key) E.H) (sm E.key) E.key,ph:=2}:Sk))=_
    rw [hc]
    rfl
   rw [e]
   exact ⟨_,by omega,.w1⟩
 | w1=>
   obtain ⟨g1,g2⟩:=Ur hE (F:=E.L.F)
   have e:aH {E.L with hs:=E.hs} (E.s E.H (Wk.new 0 E.c (sm E.key) E.key))=({E.L with hs:=E.hs},E.s E.H (dB {Wk.new 0 E.c (sm E.key) E.key with first:=E.word} E.word)):=by
    rw [JF rfl]
    simp only [g1]
   have ed:b7 {E.L with hs:=E.hs} (E.s E.H (Wk.new 0 E.c (sm E.key) E.key))=decide (E.word=0):=by
    rw [JG rfl]
    simp only [g2]
   rw [e,ed]
   have hp:=hE.ch.pos
   refine ⟨JH (by simp),by omega,fun q=>?_,fun q=>?_⟩
   ·have h0:E.word=0:=of_decide_eq_true q
    have hq:=hp.1 h0
    have hg:dB {Wk.new 0 E.c (sm E.key) E.key with first:=E.word} E.word={Wk.new 0 E.c (sm E.key) E.key with first:=E.word,nx:=3}:=by unfold dB; rw [if_pos h0]
    rw [hg]
    exact ⟨_,.inl ⟨rfl,by rw [hq]; simp,rfl⟩,fun _=>rfl,rfl⟩
   ·have h0:¬E.word=0:=of_decide_eq_false q
    have hg:dB {Wk.new 0 E.c (sm E.key) E.key with first:=E.word} E.word={Wk.new 0 E.c (sm E.key) E.key with first:=E.word,at_:=E.word,nx:=2}:=by unfold dB; rw [if_neg h0]
    rw [hg]
    exact ⟨E.q.length,by omega,.w2 [] E.q {Wk.new 0 E.c (sm E.key) E.key with first:=E.word,at_:=E.word,nx:=2} rfl (fun q=>h0 (hp.2 q)) rfl hE.ch rfl rfl rfl rfl rfl rfl rfl (by simp) hE.Uq rfl⟩
 | w2 pre rest W h1 h2 h3 h4 h5 h6 h7 h8 h9 nI Bh AM Lz Ff=>
   obtain ⟨e0,t,rfl⟩:∃ e t,rest=e::t:=by
    cases rest with
    | nil=>exact absurd rfl h2
    | cons e t=>exact ⟨e,t,rfl⟩
   obtain ⟨x,p⟩:=e0
   have hx:W.at_=x:=h4.head
   rw [hx] at h4
   obtain ⟨kk,z,hk,bS,hc⟩:=h4.tail
   have ic:=(zt hE.len).2 hk
   have hit_iff:mG W (dR p z)=decide (p.1=E.key):=by
    unfold mG dR
    simp only [h5,h6,decide_eq_decide]
    exact ⟨fun q=>q.2,fun q=>⟨by rw [q],q⟩⟩
   have po:z<=18446744073709551615:=by
    have:=(hE.db kk).2
    rw [bS] at this
    unfold dR at this
    simp only at this
    omega
   have g1:Wk.aE E.L.xs E.L.ss (E.L.F,W)=(E.L.F,looks W (dR p z)):=by
    unfold Wk.aE
    simp only
    rw [if_neg (by omega),if_pos h3,hx,ic]
    show (E.L.F,looks W (aj E.L.ss kk).nd)=_
    rw [bS]
   have g2:Wk.cp E.L.xs E.L.ss (E.L.F,W)=(decide (p.1=E.key)||decide (z=0)):=by
    unfold Wk.cp
    rw [g1]
    show decide (3<=(looks W (dR p z)).nx)=_
    rw [Cr]
    unfold nV
    rw [hit_iff]
    rfl
   have e:aH {E.L with hs:=E.hs} (E.s E.H W)=({E.L with hs:=E.hs},E.s E.H (looks W (dR p z))):=by
    rw [JF rfl]
    simp only [g1]
   have ed:b7 {E.L with hs:=E.hs} (E.s E.H W)=(decide (p.1=E.key)||decide (z=0)):=by
    rw [JG rfl]
    simp only [g2]
   rw [e,ed]
   simp only [List.length_cons]
   refine ⟨JH (by simp),by omega,fun q=>?_,fun q=>?_⟩
   ·by_cases rS:p.1=E.key
    ·have hl:looks W (dR p z)={W with read:=W.read+1,found:=W.at_,nd:=dR p z,nx:=3}:=by
      unfold looks
      rw [hit_iff,if_pos (by simp [rS])]
     rw [hl]
     exact ⟨{W with read:=W.read+1,found:=W.at_,nd:=dR p z,nx:=3},.inr ⟨pre,x,p,t,z,kk,h1,rS,hx,hk,bS,rfl,hc,h8⟩,fun q=>absurd (hx▸q) hk.pos,rfl⟩
    ·have h0:z=0:=by simpa [rS] using q
     have hl:looks W (dR p z)=dB {W with read:=W.read+1,prev:=W.at_} z:=by
      unfold looks
      rw [hit_iff,if_neg (by simp [rS])]
      rfl
     rw [hl]
     have Fg:E.q=(pre++[(x,p)])++t:=by rw [h1]; simp
     have Fh:E.key∉dQ (pre++[(x,p)]):=by
      simp only [dQ,List.map_append,List.map_cons,List.map_nil,List.mem_append,List.mem_singleton]
      rintro (q | q)
      ·exact AM q
      ·exact rS q.symm
     have ht:=hc.pos.1 h0
     have hg:dB {W with read:=W.read+1,prev:=W.at_} z={W with read:=W.read+1,prev:=W.at_,nx:=3}:=by unfold dB; rw [if_pos h0]
     rw [hg]
     refine ⟨{W with read:=W.read+1,prev:=W.at_,nx:=3},.inl ⟨h9,?_,h7⟩,fun _=>Ff,rfl⟩
     rw [Fg,ht,List.append_nil]
     exact Fh
   ·have rS:¬p.1=E.key:=fun e=>by simp [e] at q
    have h0:¬z=0:=fun e=>by simp [e] at q
    have hl:looks W (dR p z)=dB {W with read:=W.read+1,prev:=W.at_} z:=by
     unfold looks
     rw [hit_iff,if_neg (by simp [rS])]
     rfl
    rw [hl]
    have Fg:E.q=(pre++[(x,p)])++t:=by rw [h1]; simp
    have Fh:E.key∉dQ (pre++[(x,p)]):=by
     simp only [dQ,List.map_append,List.map_cons,List.map_nil,List.mem_append,List.mem_singleton]
     rintro (q | q)
     ·exact AM q
     ·exact rS q.symm
    have hg:dB {W with read:=W.read+1,prev:=W.at_} z={W with read:=W.read+1,prev:=W.at_,at_:=z,nx:=2}:=by unfold dB; rw [if_neg h0]
    rw [hg]
    exact ⟨t.length,by omega,.w2 (pre++[(x,p)]) t {W with read:=W.read+1,prev:=W.at_,at_:=z,nx:=2} Fg (fun q=>h0 (hc.pos.2 q)) rfl hc h5 h6 h7 (by rw [wY]; exact hx) h9 (by simp [nI]) Bh Fh po Ff⟩
theorem fF.G9 {W:Wa} (hE:E.Ok) (h:fF E W) {L:Lm} {H:Ho} {y:Nat} (hy:y<=18446744073709551615) (hx:E.c<L.xs.length) (hs:∀ x j,bj E.L.ss x j->bj L.ss x j):ua L (E.s H W) y:=by
 refine ⟨hy,fun hl=>?_,fun _=>⟨by simp only; omega,by simp only; omega⟩⟩
 simp only at hl
 rcases h with ⟨h0,_⟩ | ⟨pre,x,p,t,z,kk,hq,hp,hx,hk,bS,hW,hc,ju⟩
 ·exact absurd h0 hl.1
 ·have aL:pre≠[]:=by
   rintro rfl
   exact hl.2 ju
  obtain ⟨p0,e,rfl⟩:∃ p0 e,pre=p0++[e]:=⟨pre.dropLast,pre.getLast aL,(List.dropLast_concat_getLast aL).symm⟩
  rw [wY] at ju
  have dE:=hE.ch
  rw [hq] at dE
  obtain ⟨j,_,hj,_⟩:=dE.at e (by simp)
  refine ⟨?_,j,?_⟩
  ·show W.prev<=_
   rw [ju,hj.2.2]
   have:=hE.gen j
   have:=hj.1
   have:=hE.len
   omega
  ·show bj L.ss W.prev j
   rw [ju]
   exact hs _ _ hj
end
end Go.Proofs.YtpanebgakndddaaGreat.Pu
namespace Go.Proofs.YtpanebgakndddaaGreat.Pu
open Go Go.RowKit Hp K Fl Rw Hm Ar Mm Me Wk Ta Pn Pc
set_option maxRecDepth 100000
section
variable {w w':World} {M:Mo} {a:Qa} {P:Pt}
theorem qK (h:bL w a P):Calls Tryz.prog 110 #[ptr a.f] w fun e w'=>e=.returned (.int .i64 P.err)/\w=w':=by
 have c:=h.hd.2.2.2.2.2.1
 clear h
 go_enter Tryz.func110,Tryz.ntmps110
 go_wp2
 go_ret
 exact ⟨rfl,rfl⟩
theorem tT (h:bL w a P):Calls Tryz.prog 285 #[ptr a.f] w fun e w'=>e=.returned (.int .u64 P.bU)/\w=w':=by
 have c:=h.hd.2.2.2.2.2.2
 clear h
 go_enter Tryz.func285,Tryz.ntmps285
 go_wp2
 go_ret
 exact ⟨rfl,rfl⟩
theorem vV (h:bL w a P):Calls Tryz.prog 111 #[ptr a.f] w fun e w'=>e=.returned (.bool (decide (P.W.found≠0)))/\Below w.heap.size w w':=by
 have c:=h.hd.2.2.2.1
 have hR:=ub h.2
 unfold eg at hR
 generalize decide (P.W.found≠0)=b at*
 generalize P.W.found=x at*
 generalize P.W.nd=n at*
 obtain ⟨nk,nv,ns,nn⟩:=n
 simp only at hR
 replace hR:=Lib.hid hR
 clear h
 go_enter Tryz.func111,Tryz.ntmps111
 go_wp2_with fail
 refine hR.out.mono ?_
 rintro e w1 ⟨rfl,hb⟩
 have au:=Lib.hid ((hb.alloc (o:=.cells #[.string nk,.string nv,.int .u32 ns,.int .u64 nn] 67) hb.size))
 clear c hb
 go_wp2_with fail
 go_ret
 exact ⟨rfl,au.out⟩
theorem I2 (h:bL w a P):Calls Tryz.prog 196 #[ptr a.f] w fun e w'=>e=.returned (.int .u64 (gT P.W))/\Below w.heap.size w w':=by
 have c7:=h.hd.2.2.2.1
 have hR:=ub h.2
 have HP:=Lib.hid h
 unfold eg at hR
 unfold gT
 by_cases h0:P.W.found≠0
 ·rw [if_pos h0]
  rw [decide_eq_true h0] at hR
  generalize P.W.found=x at*
  generalize P.W.nd=n at*
  obtain ⟨nk,nv,ns,nn⟩:=n
  simp only at hR ⊢
  replace hR:=Lib.hid hR
  clear h h0
  go_enter Tryz.func196,Tryz.ntmps196
  go_wp2_with fail
  refine hR.out.mono ?_
  rintro e w1 ⟨rfl,hb⟩
  have au:=Lib.hid ((hb.alloc (o:=.cells #[.string nk,.string nv,.int .u32 ns,.int .u64 nn] 67) hb.size))
  clear c7 hb
  go_wp2_with fail
  go_ret
  exact ⟨rfl,au.out⟩
 ·rw [if_neg h0]
  rw [decide_eq_false h0] at hR
  generalize P.W.found=x at*
  generalize P.W.nd=n at*
  obtain ⟨nk,nv,ns,nn⟩:=n
  simp only at hR
  replace hR:=Lib.hid hR
  clear h h0
  go_enter Tryz.func196,Tryz.ntmps196
  go_wp2_with fail
  refine hR.out.mono ?_
  rintro e w1 ⟨rfl,hb⟩
  obtain ⟨w2,aT⟩:∃ w2,w2=w1.alloc (.cells #[.string nk,.string nv,.int .u32 ns,.int .u64 nn] 67):=⟨_,rfl⟩
  have au:Below w.heap.size w w2:=by rw [aT]; exact hb.alloc hb.size _
  have bn:=HP.out.below au
  have d7:=bn.hd.2.2.2.1
  have k7:=(HP.out.below hb).hd.2.2.2.1
  have lf1:=(HP.out.below hb).1.lt
  have aP:=Lib.hid (SD bn.2)
  replace au:=Lib.hid au
  clear bn hb c7
  go_wp2_with fail
  rw [<-aT]
  clear aT
  refine aP.out.mono ?_
  rintro e w3 ⟨rfl,rfl⟩
  clear aP d7 k7
  go_wp2_with fail
  go_ret
  exact ⟨rfl,au.out⟩
theorem bL.I3 (h:bL w a P) (x:Nat) (c:Int):bL ((w.setCell ⟨a.f,6,none⟩ (.int .u64 x)).setCell ⟨a.f,5,none⟩ (.int .i64 c)) a {P with bU:=x,err:=c}/\ab (·=a.f) w ((w.setCell ⟨a.f,6,none⟩ (.int .u64 x)).setCell ⟨a.f,5,none⟩ (.int .i64 c)):=by
 have ho:=((ab.refl (·=a.f) w).setCell (p:=⟨a.f,6,none⟩) (.inl rfl) (.int .u64 x)).setCell (p:=⟨a.f,5,none⟩) (.inl rfl) (.int .i64 c)
 exact ⟨h.own (by simpa [uC] using (h.1.store 6 (.int .u64 x)).store 5 (.int .i64 c)) ho rfl,ho⟩
set_option maxHeartbeats 2000000 in
theorem SE (hM:ah w M) (h:bL w a P) {m:Nat} (hm:Least M.ss m) (hg:(aj M.ss m).gen<=1000000) (h3:P.nx=3):
 Calls Tryz.prog 161 #[ptr a.f,ptr M.m] w fun e w'=>e=.returned (.bool false)/\bh w M a P (cN (lm M) P).1 (cN (lm M) P).2 w':=by
 have e:cN (lm M) P=({lm M with ss:=M.ss.set m ⟨true,(aj M.ss m).gen,⟨P.key,P.val,P.sum,gT P.W⟩⟩},{P with bU:=(aj M.ss m).gen*65536+m+1,err:=0,nx:=4}):=by
  unfold cN
  rw [if_neg (by omega),if_pos h3]
  simp only [wU.2 hm]
 rw [e]
 simp only
 have hF:=Lib.hid (fun n=>(I2 (h.drewN n)).mono fun e w2 q=>show e=.returned (.int .u64 (gT P.W))/\Below w.heap.size w w2 from ⟨q.1,(show Below w.heap.size w (w.drewN n) from ⟨rfl,rfl,rfl,Nat.le_refl _,fun _ _=>rfl⟩).trans q.2⟩)
 have hA:=fun w1 (av:Below w.heap.size w w1)=>(yP (hM.below av).2.2.2.1 ⟨P.key,P.val,P.sum,gT P.W⟩ m hm hg).mono fun e w2 q=>
  show e=.returned (.tuple #[.int .u64 ((aj M.ss m).gen*65536+m+1:Nat),.int .i64 0])/\(ah w2 {M with ss:=M.ss.set m ⟨true,(aj M.ss m).gen,⟨P.key,P.val,P.sum,gT P.W⟩⟩}/\bL w2 a P/\ab (aq M) w w2) from
   ⟨q.1,(hM.below av).wM q.2.1 q.2.2,(h.below av).only q.2.2 (fun x hx q=>h.aB hM hx (sM _ q)),(ab.aA av _).trans (q.2.2.mono fun x _ q=>sM _ q)⟩
 unfold eg at hA
 obtain ⟨c0,c1,c2,_⟩:=h.hd
 have d2:=hM.hd.2.2.1
 have lf:=h.1.lt
 have lM:=hM.1.lt
 have bc:=Lib.hid (fun w1 (hb:Below w.heap.size w w1)=>show w1.cell? ⟨M.m,2,none⟩=some (ptr M.ar)/\w1.cell? ⟨a.f,0,none⟩=some (.string P.key)/\w1.cell? ⟨a.f,1,none⟩=some (.string P.val)/\w1.cell? ⟨a.f,2,none⟩=some (.int .u32 P.sum) from
  ⟨(hb.cell (p:=⟨M.m,2,none⟩) lM).trans d2,(hb.cell (p:=⟨a.f,0,none⟩) lf).trans c0,(hb.cell (p:=⟨a.f,1,none⟩) lf).trans c1,(hb.cell (p:=⟨a.f,2,none⟩) lf).trans c2⟩)
 generalize (aj M.ss m).gen*65536+m+1=x at*
 generalize M.ss.set m ⟨true,(aj M.ss m).gen,⟨P.key,P.val,P.sum,gT P.W⟩⟩=ss' at*
 have dW:=Lib.hid (h.aB hM (.inl rfl))
 have rm:=Lib.hid (show M.m≠a.f from fun e=>h.aB hM (.inl e) (.inl rfl))
 generalize gT P.W=fw at*
 replace hA:=Lib.hid hA
 replace h3:=Lib.hid h3
 clear hM h hm hg e
 have A8:M.m≠a.f:=rm.out
 have A9:a.f≠M.m:=fun e=>rm.out e.symm
 go_enter Tryz.func161,Tryz.ntmps161
 go_wp2_with fail
 go_region_held3 (fun w'=>w'.cell? ⟨M.m,2,none⟩=some (ptr M.ar)/\w'.cell? ⟨a.f,0,none⟩=some (.string P.key)/\w'.cell? ⟨a.f,1,none⟩=some (.string P.val)/\w'.cell? ⟨a.f,2,none⟩=some (.int .u32 P.sum)) ((go_split_ands; (refine ⟨?_,?_,?_,?_⟩<;>simp [World.cell?_setCell_other, *])))
  (first
    | (go_at_call 196
       refine (hF.out 1).mono ?_
       rintro e w2 ⟨rfl,au⟩
       have bw:=Lib.hid (hA.out w2 au)
       obtain ⟨t1,t2,t3,t4⟩:=bc.out w2 au
       clear au)
    | (go_at_call 17
       refine bw.out.mono ?_
       rintro e w3 ⟨rfl,bB,ba,an⟩
       obtain ⟨s0,s1,s2,_⟩:=ba.hd
       have s3:=bB.hd.2.2.1
       have s4:=ba.hd.2.2.2.2.1
       have s8:=ba.hd.2.2.2.2.2.1
       have s9:=ba.hd.2.2.2.2.2.2
       have y4:=ba.dc 4
       have y8:=ba.dc 5
       have y9:=ba.dc 6
       simp only at s3
       have hT:=ba.I3 x 0
       have hN:=Lib.hid (hT.1.next 4)
       have aN:=hT.2.setCell (p:=⟨a.f,4,none⟩) (.inl rfl) (iL 4 a.f)
       have dP:=Lib.hid (bB.only aN (fun x hx q=>dW.out (q▸hx)))
       have E3:Hid (ab (fun x=>aq M x\/iF a P x) w _):=Lib.hid ((an.mono (fun x _ q=>(.inl q:aq M x\/iF a P x))).trans' aN (fun x _ q=>.inr (.inl q)))
       clear bB ba an hT aN bw))
 all_goals
  clear A8 A9
  go_wp2_with fail
  go_ret
  exact ⟨rfl,_,a,dP.out,rfl,⟨rfl,rfl,rfl,rfl,fun _ q=>.inl q⟩,hN.out,rfl,zN rfl rfl,E3.out⟩
set_option maxHeartbeats 2000000 in
theorem SF (hM:ah w M) (h:bL w a P) (hm:∀ k,k<M.ss.length->(aj M.ss k).taken=true) (h3:P.nx=3):
 Calls Tryz.prog 161 #[ptr a.f,ptr M.m] w fun e w'=>e=.returned (.bool false)/\bh w M a P (cN (lm M) P).1 (cN (lm M) P).2 w':=by
 have e:cN (lm M) P=(lm M,{P with bU:=0,err:=4,nx:=6}):=by
  unfold cN
  rw [if_neg (by omega),if_pos h3]
  simp only [B8.2 hm]
 rw [e]
 simp only
 have hF:=Lib.hid (fun n=>(I2 (h.drewN n)).mono fun e w2 q=>show e=.returned (.int .u64 (gT P.W))/\Below w.heap.size w w2 from ⟨q.1,(show Below w.heap.size w (w.drewN n) from ⟨rfl,rfl,rfl,Nat.le_refl _,fun _ _=>rfl⟩).trans q.2⟩)
 have hA:=fun w1 (av:Below w.heap.size w w1)=>(Ml (hM.below av).2.2.2.1 ⟨P.key,P.val,P.sum,gT P.W⟩ hm).mono fun e w2 q=>
  show e=.returned (.tuple #[.int .u64 0,.int .i64 4])/\(ah w2 M/\bL w2 a P/\Below w.heap.size w w2) from
   ⟨q.1,(hM.below av).below q.2,(h.below av).below q.2,av.trans (q.2.mono av.size)⟩
 unfold eg at hA
 obtain ⟨c0,c1,c2,_⟩:=h.hd
 have d2:=hM.hd.2.2.1
 have lf:=h.1.lt
 have lM:=hM.1.lt
 have bc:=Lib.hid (fun w1 (hb:Below w.heap.size w w1)=>show w1.cell? ⟨M.m,2,none⟩=some (ptr M.ar)/\w1.cell? ⟨a.f,0,none⟩=some (.string P.key)/\w1.cell? ⟨a.f,1,none⟩=some (.string P.val)/\w1.cell? ⟨a.f,2,none⟩=some (.int .u32 P.sum) from
  ⟨(hb.cell (p:=⟨M.m,2,none⟩) lM).trans d2,(hb.cell (p:=⟨a.f,0,none⟩) lf).trans c0,(hb.cell (p:=⟨a.f,1,none⟩) lf).trans c1,(hb.cell (p:=⟨a.f,2,none⟩) lf).trans c2⟩)
 have dW:=Lib.hid (h.aB hM (.inl rfl))
 have rm:=Lib.hid (show M.m≠a.f from fun e=>h.aB hM (.inl e) (.inl rfl))
 generalize gT P.W=fw at*
 replace hA:=Lib.hid hA
 replace h3:=Lib.hid h3
 clear hM h hm e
 have A8:M.m≠a.f:=rm.out
 have A9:a.f≠M.m:=fun e=>rm.out e.symm
 go_enter Tryz.func161,Tryz.ntmps161
 go_wp2_with fail
 go_region_held3 (fun w'=>w'.cell? ⟨M.m,2,none⟩=some (ptr M.ar)/\w'.cell? ⟨a.f,0,none⟩=some (.string P.key)/\w'.cell? ⟨a.f,1,none⟩=some (.string P.val)/\w'.cell? ⟨a.f,2,none⟩=some (.int .u32 P.sum)) ((go_split_ands; (refine ⟨?_,?_,?_,?_⟩<;>simp [World.cell?_setCell_other, *])))
  (first
    | (go_at_call 196
       refine (hF.out 1).mono ?_
       rintro e w2 ⟨rfl,au⟩
       have bw:=Lib.hid (hA.out w2 au)
       obtain ⟨t1,t2,t3,t4⟩:=bc.out w2 au
       clear au)
    | (go_at_call 17
       refine bw.out.mono ?_
       rintro e w3 ⟨rfl,bB,ba,an⟩
       obtain ⟨s0,s1,s2,_⟩:=ba.hd
       have s3:=bB.hd.2.2.1
       have s4:=ba.hd.2.2.2.2.1
       have s8:=ba.hd.2.2.2.2.2.1
       have s9:=ba.hd.2.2.2.2.2.2
       have y4:=ba.dc 4
       have y8:=ba.dc 5
       have y9:=ba.dc 6
       have hT:=ba.I3 0 4
       have vj:=hT.1.next 4
       have hN:=Lib.hid (vj.next 6)
       have aN:=(hT.2.setCell (p:=⟨a.f,4,none⟩) (.inl rfl) (iL 4 a.f)).setCell (p:=⟨a.f,4,none⟩) (.inl rfl) (iL 6 a.f)
       have dP:=Lib.hid (bB.only aN (fun x hx q=>dW.out (q▸hx)))
       have E3:Hid (ab (fun x=>aq M x\/iF a P x) w _):=Lib.hid ((ab.aA an (fun x=>aq M x\/iF a P x)).trans' aN (fun x _ q=>.inr (.inl q)))
       clear bB ba an hT aN bw vj))
 all_goals
  clear A8 A9
  go_wp2_with fail
  go_ret
  exact ⟨rfl,_,a,dP.out,rfl,⟨rfl,rfl,rfl,rfl,fun _ q=>.inl q⟩,hN.out,rfl,zN rfl rfl,E3.out⟩
end
def jU (h:Nat) (k:Int) (key val:ByteArray):Pt:=⟨jk h k (sm key) key,val,2,0,0⟩
set_option maxHeartbeats 1000000 in
theorem nj (k:Int) (key val:ByteArray) (hk:key.size<=maxLen) (w:World):
 Calls Tryz.prog 94 #[.int .i64 k,.string key,.string val] w fun e w'=>∃ (a:Qa) (h:Nat),e=.returned (ptr a.f)/\bL w' a (jU h k key val)/\(∀ x,iF a (jU h k key val) x->w.heap.size<=x)/\Below w.heap.size w w':=by
 have hS:=Lib.hid (lO.yT key w hk)
 unfold jU sm
 generalize hs:FM.sum key.data.toList=s at*
 replace hs:=Lib.hid hs
 go_enter Tryz.func94,Tryz.ntmps94
 go_wp2_with fail
 refine hS.out.mono ?_
 rintro e w0 ⟨rfl,hw⟩
 obtain rfl:w=w0:=hw.symm
 clear hS hw
 obtain ⟨w1,aJ⟩:∃ w1,w1=w.alloc (.cells #[.string key,.string val,.int .u32 s,.pointer none,.nilFunc,.int .i64 0,.int .u64 0] 216):=⟨_,rfl⟩
 have eY:af w1 w.heap.size 216 #[.string key,.string val,.int .u32 s,.pointer none,.nilFunc,.int .i64 0,.int .u64 0]:=by rw [aJ]; exact af.made w _ _
 have aD:Below w.heap.size w w1:=by rw [aJ]; exact (Below.refl _ _).alloc (Nat.le_refl _) _
 have ym:w1.heap.size=w.heap.size+1:=by rw [aJ]; simp
 obtain ⟨f,hf⟩:∃ f,f=w.heap.size:=⟨_,rfl⟩
 rw [<-hf] at eY
 have gZ:w.heap.size<=f/\f<w1.heap.size:=by omega
 have hN:=Lib.hid (G6 k s key w1)
 have c2:=eY.cell 2
 simp at c2
 replace eY:=Lib.hid eY
 replace aD:=Lib.hid aD
 replace ym:=Lib.hid ym
 go_upto_region 2 with (fail)
 rw [<-aJ,<-hf]
 clear aJ hf
 go_wp2_with fail
 refine hN.out.mono ?_
 rintro e w2 ⟨a,h,rfl,dO,tG,ag⟩
 have aP:=eY.out.only (ab.aA ag (fun _=>False)) (by simp)
 have fM:=aD.out.trans (ag.mono aD.out.size)
 have k3:=aP.cell 3
 have k4:=aP.cell 4
 simp at k3 k4
 have z3:=aP.frozen 3
 have z4:=aP.frozen 4
 have az:=Lib.hid ((fM.setCell (p:=⟨f,3,none⟩) gZ.1 (ptr a.f)).setCell (p:=⟨f,4,none⟩) gZ.1 (aU 127 (ptr f)))
 have hO:=((ab.refl (·=f) w2).setCell (p:=⟨f,3,none⟩) (.inl rfl) (ptr a.f)).setCell (p:=⟨f,4,none⟩) (.inl rfl) (aU 127 (ptr f))
 have aL:∀ x,dq a (jk h k s key) x->¬x=f:=fun x hx e=>by have:=tG x hx; omega
 have hE:Hid (bL ((w2.setCell ⟨f,3,none⟩ (ptr a.f)).setCell ⟨f,4,none⟩ (aU 127 (ptr f))) ⟨f,a.f,a.w⟩ ⟨jk h k s key,val,2,0,0⟩):=Lib.hid
  ⟨(aP.store 3 (ptr a.f)).store 4 (aU 127 (ptr f)),dO.only hO aL⟩
 have fR:Hid (∀ x,iF ⟨f,a.f,a.w⟩ ⟨jk h k s key,val,2,0,0⟩ x->w.heap.size<=x):=Lib.hid (by
  have hz:=aD.out.size
  rintro x (q | q)
  ·simp only at q; omega
  ·exact Nat.le_trans hz (tG x q))
 clear hN eY aD ym aP fM ag hO aL dO tG c2
 go_wp2_with fail
 go_ret
 exact ⟨_,_,rfl,hE.out,fR.out,az.out⟩
end Go.Proofs.YtpanebgakndddaaGreat.Pu
namespace Go.Proofs.YtpanebgakndddaaGreat.Pu
open Go Go.RowKit Hp K Fl Rw Hm Ar Mm Me Wk Ta Pn Pc
set_option maxRecDepth 100000
theorem uD {w:World} {F f:Nat} {cv m:Value} {c:Bool} {P:World->Prop} (c4:w.cell? ⟨f,4,none⟩=some (aU F cv)) (eF:∀ args w,(callFunc F args).run Tryz.prog w=.ok (.enter F args) w)
 (hF:Calls Tryz.prog F #[cv,m] w fun e w'=>e=.returned (.bool c)/\P w'):Calls Tryz.prog 287 #[ptr f,m] w fun e w'=>e=.returned (.bool c)/\P w':=by
 replace hF:=Lib.hid hF
 go_enter Tryz.func287,Tryz.ntmps287
 go_wp2_with fail
 refine hF.out.mono ?_
 rintro e w' ⟨rfl,bq⟩
 replace bq:=Lib.hid bq
 clear c4
 go_wp2_with fail
 go_ret
 exact ⟨rfl,bq.out⟩
theorem SG (args:Array Value) (w:World):(callFunc 127 args).run Tryz.prog w=.ok (.enter 127 args) w:=by kernel_rfl
theorem I4 (args:Array Value) (w:World):(callFunc 161 args).run Tryz.prog w=.ok (.enter 161 args) w:=by kernel_rfl
theorem SH (args:Array Value) (w:World):(callFunc 197 args).run Tryz.prog w=.ok (.enter 197 args) w:=by kernel_rfl
theorem SI (args:Array Value) (w:World):(callFunc 215 args).run Tryz.prog w=.ok (.enter 215 args) w:=by kernel_rfl
theorem SJ (args:Array Value) (w:World):(callFunc 163 args).run Tryz.prog w=.ok (.enter 163 args) w:=by kernel_rfl
section
variable {w w':World} {M:Mo} {a:Qa} {P:Pt}
theorem SK (hM:ah w M) (h:bL w a P) (hl:P.ph=1->ik M.xs M.ds (M.hs,P.H)):Calls Tryz.prog 286 #[ptr a.f,ptr M.m] w fun e w'=>e=.returned (.bool (qM (lm M) P))/\Below w.heap.size w w':=by
 have c3:=h.hd.2.2.2.1
 have hR:=G7 hM h.2 hl
 unfold qM
 generalize eK (lm M) P.toSk=b at*
 replace hR:=Lib.hid hR
 clear hM h hl
 go_enter Tryz.func286,Tryz.ntmps286
 go_wp2_with fail
 refine hR.out.mono ?_
 rintro e w' ⟨rfl,hb⟩
 replace hb:=Lib.hid hb
 clear c3
 go_wp2_with fail
 go_ret
 exact ⟨rfl,hb.out⟩
theorem SL (hM:ah w M) (h:bL w a P) (ok:vW (lm M) P) (hr:qM (lm M) P=true):
 Calls Tryz.prog 287 #[ptr a.f,ptr M.m] w fun e w'=>e=.returned (.bool (jD (lm M) P))/\bh w M a P (cN (lm M) P).1 (cN (lm M) P).2 w':=by
 have c4:=h.hd.2.2.2.2.1
 unfold iL at c4
 have fC:=ok.nx
 unfold jD
 by_cases e2:P.nx=2
 ·rw [if_pos e2] at c4
  rw [show decide (6<=P.nx)=false by simp; omega]
  obtain ⟨r,o⟩:=ok.sk e2
  exact uD c4 SG (B0 hM h o hr e2)
 rw [if_neg e2] at c4
 by_cases e3:P.nx=3
 ·rw [if_pos e3] at c4
  rw [show decide (6<=P.nx)=false by simp; omega]
  cases hf:fW M.ss with
  | some m=>exact uD c4 I4 (SE hM h (wU.1 hf) (ok.gen e3 m) e3)
  | none=>exact uD c4 I4 (SF hM h (B8.1 hf) e3)
 rw [if_neg e3] at c4
 by_cases e4:P.nx=4
 ·rw [if_pos e4] at c4
  rw [show decide (6<=P.nx)=false by simp; omega]
  exact uD c4 SH (SB hM h (ok.lead e4) e4)
 rw [if_neg e4] at c4
 by_cases e5:P.nx=5
 ·rw [if_pos e5] at c4
  rw [show decide (6<=P.nx)=false by simp; omega]
  exact uD c4 SI (SA hM h (ok.ret e5) e5)
 rw [if_neg e5] at c4
 have e6:P.nx=6:=by omega
 rw [if_pos e6] at c4
 rw [show decide (6<=P.nx)=true by simp; omega]
 exact uD c4 SJ (SC hM h (ok.drop e6).1 (ok.drop e6).2 e6)
end
theorem sj:oR zm 179 286 287 vW qM cN jD where
 below h hb:=h.below hb
 mr b w f:=by kernel_rfl
 ms b w f:=by kernel_rfl
 er args w:=by kernel_rfl
 es args w:=by kernel_rfl
 ready {w M a p} hM h ok:=SK hM h (fun q=>by
  by_cases e2:p.nx=2
  ·obtain ⟨r,o⟩:=ok.sk e2
   exact o.hd q
  ·exact absurd q (ok.ph e2))
 step hM h ok hr:=SL hM h ok hr
end Go.Proofs.YtpanebgakndddaaGreat.Pu
namespace Go.Proofs.YtpanebgakndddaaGreat.Pu
open Go Go.RowKit Hp K Fl Rw Hm Ar Mm Me Wk Ta Pn Pc Mq
set_option maxRecDepth 100000
section
variable {L:Lm} {P:Pt}
theorem SM (h:P.nx=2):cN L P=((aH L P.toSk).1,{P with toSk:=(aH L P.toSk).2,nx:=if b7 L P.toSk=true then (if (aH L P.toSk).2.cell= -1 then 6 else 3) else 2}):=by
 unfold cN; rw [if_pos h]
theorem SN (h:P.nx=3) {m:Nat} (hm:Least L.ss m):cN L P=({L with ss:=L.ss.set m ⟨true,(aj L.ss m).gen,⟨P.key,P.val,P.sum,gT P.W⟩⟩},{P with bU:=(aj L.ss m).gen*65536+m+1,err:=0,nx:=4}):=by
 unfold cN; rw [if_neg (by omega),if_pos h]; simp only [wU.2 hm]
theorem SO (h:P.nx=3) (hm:fW L.ss=none):cN L P=(L,{P with bU:=0,err:=4,nx:=6}):=by
 unfold cN; rw [if_neg (by omega),if_pos h]; simp only [hm]
theorem SP (h:P.nx=4):cN L P=(jV L P.toSk P.bU,{P with bU:=P.W.found,nx:=if P.W.found≠0 then 5 else 6}):=by
 unfold cN; rw [if_neg (by omega),if_neg (by omega),if_pos h]
theorem SQ (h:P.nx=5):cN L P=({L with ws:=L.ws++[P.bU]},{P with bU:=0,nx:=6}):=by
 unfold cN; rw [if_neg (by omega),if_neg (by omega),if_neg (by omega),if_pos h]
theorem I5 (h:P.nx=6):cN L P=({L with hs:=L.hs.set P.H.lock (-1)},{P with H:={P.H with holds:=false},nx:=7}):=by
 unfold cN; rw [if_neg (by omega),if_neg (by omega),if_neg (by omega),if_neg (by omega)]
end
abbrev Ep.new (E:Ep) (m:Nat):Nat:=(aj E.L.ss m).gen*65536+m+1
abbrev Ep.ss (E:Ep) (W:Wa) (m:Nat):List Sl:=E.L.ss.set m ⟨true,(aj E.L.ss m).gen,⟨E.key,E.val,sm E.key,gT W⟩⟩
def dM (E:Ep) (W:Wa) (m:Nat):Lm:=if W.found≠0/\W.prev≠0 then {E.L with ss:=aS (E.ss W m) W.prev (E.new m)} else {E.L with ss:=E.ss W m,xs:=E.L.xs.set E.c (E.new m:Nat)}
abbrev j6 (E:Ep) (W:Wa):List Nat:=if W.found≠0 then E.L.ws++[W.found] else E.L.ws
abbrev Ep.p (E:Ep) (nx:Nat) (H:Ho) (W:Wa) (err:Int) (bU:Nat):Pt:=⟨E.s H W,E.val,nx,err,bU⟩
inductive Rp (E:Ep):Nat->Lm×Pt->Prop
 | s (k:Nat) (L:Lm) (S:Sk):Rs E k (L,S)->Rp E (4+k) (L,⟨S,E.val,2,0,0⟩)
 | t (W:Wa):fF E W->Rp E 4 ({E.L with hs:=E.hs},E.p 3 E.H W 0 0)
 | full (W:Wa):fF E W->fW E.L.ss=none->Rp E 1 ({E.L with hs:=E.hs},E.p 6 E.H W 4 0)
 | p (W:Wa) (m:Nat):fF E W->Least E.L.ss m->Rp E 3 ({E.L with hs:=E.hs,ss:=E.ss W m},E.p 4 E.H W 0 (E.new m))
 | r (W:Wa) (m:Nat):fF E W->Least E.L.ss m->W.found≠0->Rp E 2 ({dM E W m with hs:=E.hs},E.p 5 E.H W 0 W.found)
 | d (W:Wa) (m:Nat):fF E W->Least E.L.ss m->Rp E 1 ({dM E W m with hs:=E.hs,ws:=j6 E W},E.p 6 E.H W 0 0)
inductive Qp (E:Ep):Lm×Pt->Prop
 | full (W:Wa):fF E W->fW E.L.ss=none->Qp E (E.L,E.p 7 {E.H with holds:=false} W 4 0)
 | done (W:Wa) (m:Nat):fF E W->Least E.L.ss m->Qp E ({dM E W m with ws:=j6 E W},E.p 7 {E.H with holds:=false} W 0 0)
section
variable {E:Ep} {k:Nat} {s:Lm×Pt}
theorem sJ (E:Ep) (W:Wa) (m:Nat):(dM E W m).hs=E.L.hs/\(dM E W m).ds=E.L.ds/\(dM E W m).ws=E.L.ws/\(dM E W m).F=E.L.F/\(dM E W m).k=E.L.k:=by
 unfold dM
 split<;>exact ⟨rfl,rfl,rfl,rfl,rfl⟩
theorem I6 (E:Ep) (W:Wa) (m:Nat):(dM E W m).xs.length=E.L.xs.length:=by
 unfold dM
 split
 ·rfl
 ·simp
theorem Rp.pos (h:Rp E k s):1<=k:=by cases h<;>omega
theorem fF.bd (hE:E.Ok) {W:Wa} (h:fF E W):0<=gT W/\gT W<=18446744073709551615:=by
 unfold gT
 rcases h with ⟨h0,_,hf⟩ | ⟨pre,x,p,t,z,k,hq,hp,hx,hk,bS,hW,hc,ju⟩
 ·rw [if_neg (by omega),hf]
  have:=Cl.eU hE.xb E.c
  have h2:E.word=(Cl.nth E.L.xs E.c).toNat:=rfl
  generalize E.word=ew at*
  omega
 ·rw [if_pos (by rw [hx]; exact hk.pos),hW,<-bS]
  exact hE.db k
theorem Ep.Ok.SR (hE:E.Ok) (W:Wa) (m:Nat) (hm:Least E.L.ss m):0<=Cl.nth (dM E W m).xs 1/\Cl.nth (dM E W m).xs 1<=18446744073709551615:=by
 unfold dM
 split
 ·exact Cl.eU hE.xb 1
 ·refine Cl.eU (fun x hx=>?_) 1
  rcases List.mem_or_eq_of_mem_set hx with q | rfl
  ·exact hE.xb x q
  ·have:=hE.gen m
   have:=hm.1
   have:=hE.len
   show 0<=(((aj E.L.ss m).gen*65536+m+1:Nat):Int)/\(((aj E.L.ss m).gen*65536+m+1:Nat):Int)<=_
   omega
theorem Ep.Ok.IL (hE:E.Ok) {m:Nat} (hm:Least E.L.ss m):E.new m<=18446744073709551615:=by
 have:=hE.gen m
 have:=hm.1
 have:=hE.len
 show (aj E.L.ss m).gen*65536+m+1<=_
 omega
theorem Ep.Ok.RW (hE:E.Ok) {W:Wa} {m:Nat} (hf:fF E W) (hm:Least E.L.ss m):ff (E.ss W m):=hE.db.set hm.1 _ (hf.bd hE)
theorem Ep.Ok.live (_hE:E.Ok) {m:Nat} (hm:Least E.L.ss m) {W:Wa} {x j:Nat} (hj:bj E.L.ss x j):bj (E.ss W m) x j:=by
 have Xd:j≠m:=by
  rintro rfl
  have:=hj.2.1
  rw [hm.2.1] at this
  simp at this
 exact (xa hm.1 _ _ _).2 (by rw [if_neg Xd]; exact hj)
theorem Rp.ok (hE:E.Ok) (h:Rp E k s):vW s.1 s.2:=by
 cases h with
 | s k L S h=>exact ⟨by simp,fun q=>by simp at q,fun _=>h.ok hE,fun q=>by simp at q,fun q=>by simp at q,fun q=>by simp at q,fun q=>by simp at q⟩
 | t W hf=>exact ⟨by simp,fun _=>by simp,fun q=>by simp at q,fun _=>hE.gen,fun q=>by simp at q,fun q=>by simp at q,fun q=>by simp at q⟩
 | full W hf hn=>exact ⟨by simp,fun _=>by simp,fun q=>by simp at q,fun q=>by simp at q,fun q=>by simp at q,fun q=>by simp at q,fun _=>⟨hE.zi hE.x1 rfl (Cl.eU hE.xb 1),rfl⟩⟩
 | p W m hf hm=>exact ⟨by simp,fun _=>by simp,fun q=>by simp at q,fun q=>by simp at q,fun _=>hf.G9 hE (hE.IL hm) hE.cx (fun x j hj=>hE.live hm hj),fun q=>by simp at q,fun q=>by simp at q⟩
 | r W m hf hm h0=>
   have hp:=sJ E W m
   exact ⟨by simp,fun _=>by simp,fun q=>by simp at q,fun q=>by simp at q,fun q=>by simp at q,fun _=>by show (dM E W m).ws.length<=_; rw [hp.2.2.1]; exact hE.ws,fun q=>by simp at q⟩
 | d W m hf hm=>
   have hp:=sJ E W m
   exact ⟨by simp,fun _=>by simp,fun q=>by simp at q,fun q=>by simp at q,fun q=>by simp at q,fun q=>by simp at q,fun _=>⟨hE.zi (by show 1<(dM E W m).xs.length; rw [I6]; exact hE.x1) hp.2.1 (hE.SR W m hm),rfl⟩⟩
def Rq (E:Ep) (k:Nat) (s:Lm×Pt):Prop:=∃ j,j<=k/\Rp E j s
theorem Rp.q {E:Ep} {j:Nat} {s:Lm×Pt} (h:Rp E j s) {k:Nat} (hk:j<=k):Rq E k s:=⟨j,hk,h⟩
theorem Ep.Ok.c0 (_hE:E.Ok):¬((E.c:Int)= -1):=by omega
theorem Rp.step (hE:E.Ok) (h:Rp E k s):qM s.1 s.2=true/\1<=k/\(jD s.1 s.2=true->Qp E (cN s.1 s.2))/\(jD s.1 s.2=false->Rq E (k-1) (cN s.1 s.2)):=by
 cases h with
 | s k L S h=>
   obtain ⟨h1,h2,h3,h4⟩:=h.step hE
   refine ⟨h1,by omega,fun q=>by simp [jD] at q,fun _=>?_⟩
   rw [SM rfl]
   simp only at h3 h4 ⊢
   cases hd:b7 L S with
   | true=>
     obtain ⟨W,hf,_,e⟩:=h3 hd
     rw [e]
     simp only [if_true,if_neg hE.c0]
     exact (Rp.t W hf).q (by omega)
   | false=>
     obtain ⟨j,hj,hr⟩:=h4 hd
     simp only [Bool.false_eq_true,if_false]
     have:=Rp.s (E:=E) j (aH L S).1 (aH L S).2 hr
     exact this.q (by omega)
 | t W hf=>
   refine ⟨rfl,by omega,fun q=>by simp [jD] at q,fun _=>?_⟩
   cases cC:fW E.L.ss with
   | some m=>
     have hm:=wU.1 cC
     have e:cN {E.L with hs:=E.hs} (E.p 3 E.H W 0 0)=({E.L with hs:=E.hs,ss:=E.ss W m},E.p 4 E.H W 0 (E.new m)):=SN (L:={E.L with hs:=E.hs}) rfl hm
     rw [e]
     exact (Rp.p W m hf hm).q (by omega)
   | none=>
     have e:cN {E.L with hs:=E.hs} (E.p 3 E.H W 0 0)=({E.L with hs:=E.hs},E.p 6 E.H W 4 0):=SO (L:={E.L with hs:=E.hs}) rfl cC
     rw [e]
     exact (Rp.full W hf cC).q (by omega)
 | full W hf cC=>
   refine ⟨rfl,by omega,fun _=>?_,fun q=>by simp [jD] at q⟩
   have e:cN {E.L with hs:=E.hs} (E.p 6 E.H W 4 0)=(E.L,E.p 7 {E.H with holds:=false} W 4 0):=by
    rw [I5 rfl]
    show (({E.L with hs:=E.hs.set E.lock (-1)}:Lm),_)=_
    rw [hE.back]
   rw [e]
   exact .full W hf cC
 | p W m hf hm=>
   refine ⟨rfl,by omega,fun q=>by simp [jD] at q,fun _=>?_⟩
   have e:cN {E.L with hs:=E.hs,ss:=E.ss W m} (E.p 4 E.H W 0 (E.new m))=({dM E W m with hs:=E.hs},E.p (if W.found≠0 then 5 else 6) E.H W 0 W.found):=by
    rw [SP rfl]
    refine Prod.ext ?_ rfl
    unfold dM jV
    by_cases hl:W.found≠0/\W.prev≠0
    ·show (if W.found≠0/\W.prev≠0 then _ else _)=_
     rw [if_pos hl,if_pos hl]
    ·show (if W.found≠0/\W.prev≠0 then _ else _)=_
     rw [if_neg hl,if_neg hl]
     show ({E.L with hs:=E.hs,ss:=E.ss W m,xs:=E.L.xs.set ((E.c:Nat):Int).toNat (E.new m:Nat)}:Lm)=_
     rw [Int.toNat_natCast]
   rw [e]
   by_cases h0:W.found≠0
   ·rw [if_pos h0]
    exact (Rp.r W m hf hm h0).q (by omega)
   ·rw [if_neg h0]
    have Xe:W.found=0:=by omega
    have:=Rp.d W m hf hm
    have e2:({dM E W m with hs:=E.hs,ws:=j6 E W}:Lm)={dM E W m with hs:=E.hs}:=by
     unfold j6
     rw [if_neg h0,<-(sJ E W m).2.2.1]
    rw [e2] at this
    rw [Xe]
    exact this.q (by omega)
 | r W m hf hm h0=>
   refine ⟨rfl,by omega,fun q=>by simp [jD] at q,fun _=>?_⟩
   have e:cN {dM E W m with hs:=E.hs} (E.p 5 E.H W 0 W.found)=({dM E W m with hs:=E.hs,ws:=j6 E W},E.p 6 E.H W 0 0):=by
    rw [SQ rfl]
    refine Prod.ext ?_ rfl
    show ({dM E W m with hs:=E.hs,ws:=(dM E W m).ws++[W.found]}:Lm)=_
    unfold j6
    rw [if_pos h0,(sJ E W m).2.2.1]
   rw [e]
   exact (Rp.d W m hf hm).q (by omega)
 | d W m hf hm=>
   refine ⟨rfl,by omega,fun _=>?_,fun q=>by simp [jD] at q⟩
   have e:cN {dM E W m with hs:=E.hs,ws:=j6 E W} (E.p 6 E.H W 0 0)=({dM E W m with ws:=j6 E W},E.p 7 {E.H with holds:=false} W 0 0):=by
    rw [I5 rfl]
    show (({dM E W m with ws:=j6 E W,hs:=E.hs.set E.lock (-1)}:Lm),_)=_
    rw [hE.back,<-(sJ E W m).1]
   rw [e]
   exact .done W m hf hm
end
theorem OL {w:World} {M:Mo} {a:Qa} {key val:ByteArray} {i:Int} {h c:Nat} {d:Nat×Nat} {q:List Mq.Hp} (hM:ah w M) (hP:bL w a (jU h i key val)) (hE:Ep.Ok ⟨lm M,key,val,i,h,d,c,q⟩) (K:Nat) (hK:8+q.length<=K/\K<=1000000):
 Calls Tryz.prog 58 #[ptr M.m,.iface 179 (ptr a.f),.int .i64 K] w fun e w'=>∃ (n:Nat) (s:Lm×Pt),e=.returned (.tuple #[.int .i64 n,.bool true])/\(n<=8+q.length/\fin (fun s:Lm×Pt=>qM s.1 s.2) (fun s=>cN s.1 s.2) (fun s=>jD s.1 s.2) K (lm M,jU h i key val)=(n,true,s))/\Qp ⟨lm M,key,val,i,h,d,c,q⟩ s/\zm.Inv M a (jU h i key val) w s w':=by
 refine ni sj hM hP (Rq ⟨lm M,key,val,i,h,d,c,q⟩) (Qp ⟨lm M,key,val,i,h,d,c,q⟩) ?_ (8+q.length) K ?_ hK.1 hK.2
 ·rintro k s ⟨j,hj,hr⟩
  obtain ⟨h1,h2,h3,h4⟩:=hr.step hE
  refine ⟨hr.ok hE,h1,by omega,h3,fun hd=>?_⟩
  obtain ⟨j',te,oh⟩:=h4 hd
  exact ⟨j',by omega,oh⟩
 ·exact (Rp.s (E:=⟨lm M,key,val,i,h,d,c,q⟩) (4+q.length) _ _ .a1).q (by omega)
end Go.Proofs.YtpanebgakndddaaGreat.Pu
namespace Go.Proofs.YtpanebgakndddaaGreat.Qs
open Go Go.RowKit Hp K Fl Rw Hm Ar Mm Me
set_option maxRecDepth 100000
theorem Dp (a:Addr) (w:World) (f:Nat):(method (f+1) 124 (.pointer (some a)) "Ready").run Tryz.prog w=.ok (56,.pointer (some a)) w:=by kernel_rfl
theorem Dq (a:Addr) (w:World) (f:Nat):(method (f+1) 124 (.pointer (some a)) "Step").run Tryz.prog w=.ok (74,.pointer (some a)) w:=by kernel_rfl
theorem Th (a:Addr) (w:World) (f:Nat):(method (f+1) 207 (.pointer (some a)) "Ready").run Tryz.prog w=.ok (288,.pointer (some a)) w:=by kernel_rfl
theorem Ti (a:Addr) (w:World) (f:Nat):(method (f+1) 207 (.pointer (some a)) "Step").run Tryz.prog w=.ok (159,.pointer (some a)) w:=by kernel_rfl
theorem Tj (a:Addr) (w:World) (f:Nat):(method (f+1) 209 (.pointer (some a)) "Ready").run Tryz.prog w=.ok (289,.pointer (some a)) w:=by kernel_rfl
theorem Tk (a:Addr) (w:World) (f:Nat):(method (f+1) 209 (.pointer (some a)) "Step").run Tryz.prog w=.ok (213,.pointer (some a)) w:=by kernel_rfl
theorem Dr (args:Array Value) (w:World):(callFunc 56 args).run Tryz.prog w=.ok (.enter 56 args) w:=by kernel_rfl
theorem Ds (args:Array Value) (w:World):(callFunc 74 args).run Tryz.prog w=.ok (.enter 74 args) w:=by kernel_rfl
theorem Tl (args:Array Value) (w:World):(callFunc 288 args).run Tryz.prog w=.ok (.enter 288 args) w:=by kernel_rfl
theorem Tm (args:Array Value) (w:World):(callFunc 159 args).run Tryz.prog w=.ok (.enter 159 args) w:=by kernel_rfl
theorem To (args:Array Value) (w:World):(callFunc 289 args).run Tryz.prog w=.ok (.enter 289 args) w:=by kernel_rfl
theorem Tp (args:Array Value) (w:World):(callFunc 213 args).run Tryz.prog w=.ok (.enter 213 args) w:=by kernel_rfl
section
variable {w:World} {M:Mo} {f:Nat} {W:Wt} {C:Cm}
def ur (s:List Int×List Int×Wt):Bool:=iI s.1 s.2.1 s.2.2
def uu (n:Nat) (s:List Int×List Int×Wt):List Int×List Int×Wt:=aW n s.1 s.2.1 s.2.2
def sH (s:List Int×List Int×Wt):Bool:=decide (s.2.2.at_=3)
def uv (w0:World) (M:Mo) (f:Nat) (s:List Int×List Int×Wt) (w:World):Prop:=ah w {M with xs:=s.1,hs:=s.2.1}/\dr w f s.2.2/\ab (fun x=>aq M x\/x=f) w0 w
theorem IC {n:Nat} (hM:ah w M) (hf:dr w f W) (hn:M.k=n) (ok:eV n M.xs M.hs W) (K:Nat) (hK:K<=1000000):
 Calls Tryz.prog 58 #[ptr M.m,.iface 124 (ptr f),.int .i64 K] w fun e w'=>e=.returned (.tuple #[.int .i64 (fin ur (uu n) sH K (M.xs,M.hs,W)).1,.bool (fin ur (uu n) sH K (M.xs,M.hs,W)).2.1])/\
  uv w M f (fin ur (uu n) sH K (M.xs,M.hs,W)).2.2 w':=by
 refine zo 124 56 74 f (ptr M.m) (uv w M f) (fun s=>eV n s.1 s.2.1 s.2.2) ur (uu n) sH (Dp _) (Dq _) Dr Ds ?_ ?_ ?_ K hK (M.xs,M.hs,W) ok w ⟨hM,hf,ab.refl _ _⟩
 ·rintro s w1 ⟨h1,h2,h3⟩ ok
  exact (pM h1 h2 ok.hl (fun q=>by have:=ok.bF; have:=ok.xl; have:=ok.n1; exact ⟨by show 2+s.2.2.bF<s.1.length; omega,by omega⟩) (by have:=ok.at_; omega)).mono fun e w' ⟨h,nq,q⟩=>by
   subst q
   exact ⟨h,h1.drewN nq,h2.only ((ab.refl (fun _=>False) w1).drewN nq) (by simp),h3.drewN nq⟩
 ·rintro s w1 ⟨h1,h2,h3⟩ ok hr
  exact (CM (M:={M with xs:=s.1,hs:=s.2.1}) h1 h2 hn ok hr).mono fun e w' h=>⟨h.1,h.2.1,h.2.2.1,h3.trans h.2.2.2⟩
 ·intro s ok hr hd
  exact ok.step hr (by simpa [sH] using hd)
def Jd (w0:World) (M:Mo) (f:Nat) (s:List Int×Cm) (w:World):Prop:=ah w {M with xs:=s.1}/\gv w f s.2/\ab (fun x=>aq M x\/x=f) w0 w
def sG (s:List Int×Cm):List Int×Cm:=gw s.1 s.2
theorem RJ (hM:ah w M) (hf:gv w f C) (ha:C.at_<=1) (hk:2+C.worker<M.xs.length) (hp:C.worker<=1000) (hv:0<=C.period/\C.period<=18446744073709551615) (K:Nat) (hK:K<=1000000):
 Calls Tryz.prog 58 #[ptr M.m,.iface 207 (ptr f),.int .i64 K] w fun e w'=>e=.returned (.tuple #[.int .i64 (fin (fun _=>true) sG (fun s=>decide (s.2.at_=1)) K (M.xs,C)).1,.bool (fin (fun _=>true) sG (fun s=>decide (s.2.at_=1)) K (M.xs,C)).2.1])/\
  Jd w M f (fin (fun _=>true) sG (fun s=>decide (s.2.at_=1)) K (M.xs,C)).2.2 w':=by
 refine zo 207 288 159 f (ptr M.m) (Jd w M f) (fun s=>s.2.at_<=1/\s.2.worker=C.worker/\s.1.length=M.xs.length/\(0<=s.2.period/\s.2.period<=18446744073709551615)/\(∀ x∈s.1,0<=x/\x<=18446744073709551615))
  (fun _=>true) sG (fun s=>decide (s.2.at_=1)) (Th _) (Ti _) Tl Tm ?_ ?_ ?_ K hK (M.xs,C) ⟨ha,rfl,rfl,hv,hM.2.1.2.2.1⟩ w ⟨hM,hf,ab.refl _ _⟩
 ·rintro s w1 ⟨h1,h2,h3⟩ ok
  exact (Tf _ w1).mono fun e w' ⟨h,q⟩=>by
   subst q
   exact ⟨h,h1,h2,h3⟩
 ·rintro s w1 ⟨h1,h2,h3⟩ ⟨o1,o2,o3,o4,o5⟩ hr
  exact (Ht (M:={M with xs:=s.1}) h1 h2 o1 (by show 2+s.2.worker<s.1.length; omega) (by omega) o4).mono fun e w' h=>⟨h.1,h.2.1,h.2.2.1,h3.trans h.2.2.2⟩
 ·rintro s ⟨o1,o2,o3,o4,o5⟩ hr hd
  have h0:s.2.at_=0:=by
   have:¬s.2.at_=1:=by simpa using hd
   omega
  have e:sG s=(s.1,{s.2 with period:=Cl.nth s.1 0,at_:=1}):=by unfold sG gw; rw [if_pos h0]
  rw [e]
  exact ⟨by simp,o2,o3,Cl.eU o5 0,o5⟩
theorem RK {k:Nat} (hM:ah w M) (hf:jG w f k 0) (hk:2+k<M.xs.length) (hp:k<=1000) (K:Nat) (hK:K<=1000000) (Yi:1<=K):
 Calls Tryz.prog 58 #[ptr M.m,.iface 209 (ptr f),.int .i64 K] w fun e w'=>e=.returned (.tuple #[.int .i64 1,.bool true])/\
  ah w' {M with xs:=M.xs.set (2+k) 0}/\jG w' f k 1/\ab (fun x=>aq M x\/x=f) w w':=by
 have h:=zo 209 289 213 f (ptr M.m) (fun (s:Bool) w'=>ah w' {M with xs:=if s=true then M.xs.set (2+k) 0 else M.xs}/\jG w' f k (if s=true then 1 else 0)/\ab (fun x=>aq M x\/x=f) w w') (fun s=>s=false)
  (fun _=>true) (fun _=>true) (fun _=>true) (Tj _) (Tk _) To Tp (fun s w1 h _=>(Tg _ w1).mono fun e w' ⟨h',q⟩=>by
    subst q
    exact ⟨h',h⟩) (fun s w1 h o _=>by
    subst o
    exact (Hy (M:=M) h.1 h.2.1 hk hp).mono fun e w' h'=>⟨h'.1,h'.2.1,h'.2.2.1,h.2.2.trans h'.2.2.2⟩) (fun s _ _ h=>by simp at h) K hK false rfl w ⟨hM,hf,ab.refl _ _⟩
 obtain ⟨j,rfl⟩:∃ j,K=j+1:=⟨K-1,by omega⟩
 simpa [fin] using h
end
end Go.Proofs.YtpanebgakndddaaGreat.Qs
namespace Go.Proofs.YtpanebgakndddaaGreat.fp
end Go.Proofs.YtpanebgakndddaaGreat.fp
namespace Go.Proofs.YtpanebgakndddaaGreat.Re
open Go Go.RowKit Hp K Fl Rw Hm Ar Mm Me Qs fp
set_option maxRecDepth 100000
theorem XT {ss:List Sl} {k:Nat} (hk:k<ss.length) (ht:(aj ss k).taken=true) (s:Sl) (hs:s.taken=false) (n:Nat):(dX (ss.set k s) n).length=(dX ss n).length+if k<n then 1 else 0:=by
 induction n with
 | zero=>simp [dX]
 | succ n ih=>
   have h1:=at_set hk s n
   by_cases e:n=k
   ·subst e
    rw [if_pos rfl] at h1
    rw [tO (by rw [h1]; exact hs),tP ht,List.length_append,ih]
    simp
   ·rw [if_neg e] at h1
    have e2:(if k<n+1 then 1 else 0:Nat)=if k<n then 1 else 0:=by split<;>split<;>omega
    by_cases h:(aj ss n).taken=true
    ·rw [tP (by rw [h1]; exact h),tP h,ih,e2]
    ·have h:(aj ss n).taken=false:=by simpa using h
     rw [tO (by rw [h1]; exact h),tO h,List.length_append,List.length_append,ih,e2]
     simp only [List.length_cons,List.length_nil]
     omega
theorem TC {ss:List Sl} {k:Nat} (hk:k<ss.length) (ht:(aj ss k).taken=false) (s:Sl) (hs:s.taken=true) (n:Nat):(dX (ss.set k s) n).length+(if k<n then 1 else 0)=(dX ss n).length:=by
 induction n with
 | zero=>simp [dX]
 | succ n ih=>
   have h1:=at_set hk s n
   by_cases e:n=k
   ·subst e
    rw [if_pos rfl] at h1
    rw [tP (by rw [h1]; exact hs),tO ht,List.length_append,<-ih]
    simp
   ·rw [if_neg e] at h1
    have e2:(if k<n+1 then 1 else 0:Nat)=if k<n then 1 else 0:=by split<;>split<;>omega
    by_cases h:(aj ss n).taken=true
    ·rw [tP (by rw [h1]; exact h),tP h,<-ih]
     rw [e2]
    ·have h:(aj ss n).taken=false:=by simpa using h
     rw [tO (by rw [h1]; exact h),tO h,List.length_append,List.length_append,<-ih]
     rw [e2]
     simp only [List.length_cons,List.length_nil]
     omega
structure Wr (ss:List Sl) (ws left:List Nat) (B:Nat):Prop where
 room:ss.length<=1024
 nd:(ws++left).Nodup
 live:∀ x,x∈ws++left->∃ k,bj ss x k
 wZ:∀ k,(aj ss k).gen+(ws.length+left.length)<=B
 nQ:(dX ss ss.length).length+(ws.length+left.length)=ss.length
section
variable {ss:List Sl} {ws left:List Nat} {B:Nat}
theorem Wr.put {m:Nat} (h:Wr ss ws left B) (hm:Least ss m) (d:Nd):Wr (ss.set m ⟨true,(aj ss m).gen,d⟩) (ws++[(aj ss m).gen*65536+m+1]) left (B+1):=by
 have hlen:(ss.set m ⟨true,(aj ss m).gen,d⟩).length=ss.length:=by simp
 have kb:∀ y k,bj ss y k->k≠m:=by
  rintro y k hk rfl
  have:=hk.2.1
  rw [hm.2.1] at this
  simp at this
 have iM:((aj ss m).gen*65536+m+1)∉ws++left:=fun q=>by
  obtain ⟨k,hk⟩:=h.live _ q
  have:=hk.2.2
  have h1:=hk.1
  have h2:=h.room
  have h3:=hm.1
  exact kb _ _ hk (by omega)
 refine ⟨by rw [hlen]; exact h.room,?_,fun y hy=>?_,fun j=>?_,?_⟩
 ·rw [List.append_assoc]
  exact (List.perm_middle (l₁:=ws) (l₂:=left) (a:=(aj ss m).gen*65536+m+1)).nodup_iff.2 (List.nodup_cons.2 ⟨iM,h.nd⟩)
 ·have:y∈ws++left\/y=(aj ss m).gen*65536+m+1:=by
   simp only [List.mem_append,List.mem_singleton] at hy ⊢
   rcases hy with (q | q) | q
   ·exact .inl (.inl q)
   ·exact .inr q
   ·exact .inl (.inr q)
  rcases this with q | q
  ·obtain ⟨k,hk⟩:=h.live y q
   exact ⟨k,(xa hm.1 _ y k).2 (by rw [if_neg (kb y k hk)]; exact hk)⟩
  ·exact ⟨m,(xa hm.1 _ y m).2 (by rw [if_pos rfl]; exact ⟨rfl,q⟩)⟩
 ·have:=h.wZ j
  rw [at_set hm.1,List.length_append]
  simp only [List.length_cons,List.length_nil]
  split
  ·rename_i e
   subst e
   show (aj ss j).gen+_<=_
   omega
  ·omega
 ·have:=h.nQ
  have e:=TC hm.1 hm.2.1 ⟨true,(aj ss m).gen,d⟩ rfl ss.length
  rw [if_pos hm.1] at e
  rw [hlen,List.length_append]
  simp only [List.length_cons,List.length_nil]
  omega
end
theorem TD (n:Nat):(dX (List.replicate n Sl.zero) n).length=n:=by rw [FZ n n (Nat.le_refl _)]; simp
theorem at_rep (n k:Nat):aj (List.replicate n Sl.zero) k=Sl.zero:=by
 simp only [aj,List.getD,List.getElem?_replicate]
 split<;>rfl
theorem ON (n:Nat) (hn:n<=1024):Wr (List.replicate n .zero) [] [] 0:=
 ⟨by simpa using hn,by simp,fun x hx=>by simp at hx,fun k=>by rw [at_rep]; simp [Sl.zero],by simpa using TD n⟩
/-! ### a drain-/
end Go.Proofs.YtpanebgakndddaaGreat.Re
