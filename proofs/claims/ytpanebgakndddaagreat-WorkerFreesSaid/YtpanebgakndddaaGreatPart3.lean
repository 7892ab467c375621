/- Walks and plain mathematics, put together in their order: PutA, PutB, PutD, DelA, MemChain, MemReach, MapA, SeekH, PutE, PutG. -/
import Derived.Test.YtpanebgakndddaaGreatPart2
import Derived.Test.YtpanebgakndddaaGreatMemWalk
import Derived.ArgAppend
import Derived.Lib.AppendZeros
import Derived.Maps.Own
import Derived.Maps.OwnOps
import Derived.Maps.Views
set_option linter.unusedVariables false
set_option linter.unusedSimpArgs false
namespace Go.Proofs.YtpanebgakndddaaGreat.Pu
open Go Go.RowKit Hp K Fl Rw Hm Ar Mm Me Wk Ta Pn Pc
set_option maxRecDepth 100000
structure Pt extends Sk where
 val:ByteArray
 nx:Nat
 err:Int
 cr:Nat
structure Qa where
 f:Nat
 s:Nat
 w:Nat
abbrev Qa.sa (a:Qa):Sa:=⟨a.s,a.w⟩
def iL (nx f:Nat):Value:=if nx=2 then aT 127 (ptr f) else if nx=3 then aT 161 (ptr f)
 else if nx=4 then aT 197 (ptr f) else if nx=5 then aT 215 (ptr f) else if nx=6 then aT 163 (ptr f) else dW 198
def ug (a:Qa) (P:Pt):Array Value:=#[.string P.key,.string P.val,.int .u32 P.sum,ptr a.s,iL P.nx a.f,.int .i64 P.err,.int .u64 P.cr]
def bF (w:World) (a:Qa) (P:Pt):Prop:=af w a.f 216 (ug a P)/\cS w a.sa P.toSk
def iG (a:Qa) (P:Pt) (x:Nat):Prop:=x=a.f\/cg a.sa P.toSk x
abbrev Bp:List TypeId:=[216,226,243,237]
abbrev yp:iH Qa Pt:=⟨Qa.f,bF,iG⟩
section
variable {w w':World} {M:Mo} {a:Qa} {P:Pt}
theorem bF.ty (h:bF w a P) {x:Nat} (hx:iG a P x):Ty w x Bp:=by
 obtain ⟨h1,h2⟩:=h
 rcases hx with rfl | hx
 ·exact (aV h1).mono (by simp)
 ·exact (h2.ty hx).mono (fun t ht=>List.mem_cons_of_mem _ ht)
theorem bF.aA (h:bF w a P) (hM:ah w M) {x:Nat} (hx:iG a P x):¬ao M x:=fun hm=>(hM.ty hm).apart (h.ty hx) (by decide)
theorem bF.only {S:Nat->Prop} (h:bF w a P) (ho:ab S w w') (hn:∀ x,iG a P x->¬S x):bF w' a P:=
 ⟨h.1.only ho (hn _ (.inl rfl)),h.2.only ho (fun x hx=>hn _ (.inr hx))⟩
theorem bF.below (h:bF w a P) (hb:Below w.heap.size w w'):bF w' a P:=h.only (ab.aD hb (fun _=>False)) (by simp)
theorem bF.drewN (h:bF w a P) (n:Nat):bF (w.drewN n) a P:=h.only ((ab.refl (fun _=>False) w).drewN n) (by simp)
theorem bF.hd (h:bF w a P):w.cell? ⟨a.f,0,none⟩=some (.string P.key)/\w.cell? ⟨a.f,1,none⟩=some (.string P.val)/\w.cell? ⟨a.f,2,none⟩=some (.int .u32 P.sum)/\w.cell? ⟨a.f,3,none⟩=some (ptr a.s)/\
 w.cell? ⟨a.f,4,none⟩=some (iL P.nx a.f)/\w.cell? ⟨a.f,5,none⟩=some (.int .i64 P.err)/\w.cell? ⟨a.f,6,none⟩=some (.int .u64 P.cr):=
 ⟨h.1.cell 0,h.1.cell 1,h.1.cell 2,h.1.cell 3,h.1.cell 4,h.1.cell 5,h.1.cell 6⟩
theorem bF.cV (h:bF w a P) (i:Nat):w.frozen? ⟨a.f,i,none⟩=false:=h.1.frozen i
theorem bF.self (h:bF w a P) {x:Nat} (hx:cg a.sa P.toSk x):x≠a.f:=by
 rintro rfl
 exact (h.2.ty hx).apart (aV h.1) (by decide)
theorem bF.own (h:bF w a P) {P':Pt} (hB:af w' a.f 216 (ug a P')) (ho:ab (·=a.f) w w') (eS:P'.toSk=P.toSk):bF w' a P':=
 ⟨hB,by rw [eS]; exact h.2.only ho (fun x hx e=>h.self hx e)⟩
theorem bF.next (h:bF w a P) (n:Nat):bF (w.setCell ⟨a.f,4,none⟩ (iL n a.f)) a {P with nx:=n}:=
 h.own (h.1.store 4 (iL n a.f)) ((ab.refl (·=a.f) w).setCell (p:=⟨a.f,4,none⟩) (.inl rfl) (iL n a.f)) rfl
theorem bF.vz {S:Nat->Prop} {a':Sa} {S':Sk} (h:bF w a P) (hS:cS w' a' S') (ef:a'.f=a.s) (ek:S'.key=P.key) (es:S'.sum=P.sum) (ho:ab S w w') (hn:¬S a.f):bF w' {a with w:=a'.w} {P with toSk:=S'}:=by
 obtain ⟨f',b'⟩:=a'
 subst ef
 refine ⟨?_,hS⟩
 have:=h.1.only ho hn
 unfold ug at this ⊢
 simp only [ek,es]
 exact this
end
abbrev bf (w:World) (M:Mo) (a:Qa) (P:Pt) (L':Lm) (P':Pt) (w':World):Prop:=yp.bf w M a P L' P' w'
theorem yR {a a':Qa} {P P':Pt} (ea:a'=a) (eS:P'.H.f=P.H.f) {n:Nat} (x:Nat) (q:iG a' P' x):iG a P x\/n<=x:=by
 subst ea
 rcases q with q | q | q | q
 ·exact .inl (.inl q)
 ·exact .inl (.inr (.inl q))
 ·exact .inl (.inr (.inr (.inl (q.trans eS))))
 ·exact .inl (.inr (.inr (.inr q)))
end Go.Proofs.YtpanebgakndddaaGreat.Pu
namespace Go.Proofs.YtpanebgakndddaaGreat.Pu
open Go Go.RowKit Hp K Fl Rw Hm Ar Mm Me Wk Ta Pn Pc
set_option maxRecDepth 100000
def gS (W:Wa):Int:=if W.found≠0 then W.nd.next else (W.first:Int)
def cH (L:Lm) (P:Pt):Lm×Pt:=
 if P.nx=2 then ((aG L P.toSk).1,{P with toSk:=(aG L P.toSk).2,nx:=if bY L P.toSk=true then (if (aG L P.toSk).2.cell= -1 then 6 else 3) else 2})
 else if P.nx=3 then (match gm L.ss with
  | some m=>({L with ss:=L.ss.set m ⟨true,(ai L.ss m).gen,⟨P.key,P.val,P.sum,gS P.W⟩⟩},{P with cr:=(ai L.ss m).gen*65536+m+1,err:=0,nx:=4})
  | none=>(L,{P with cr:=0,err:=4,nx:=6}))
 else if P.nx=4 then (jT L P.toSk P.cr,{P with cr:=P.W.found,nx:=if P.W.found≠0 then 5 else 6})
 else if P.nx=5 then ({L with ws:=L.ws++[P.cr]},{P with cr:=0,nx:=6})
 else ({L with hs:=L.hs.set P.H.lock (-1)},{P with H:={P.H with holds:=false},nx:=7})
def qy (L:Lm) (P:Pt):Bool:=eL L P.toSk
def jI (_:Lm) (P:Pt):Bool:=decide (6<=P.nx)
structure vn (L:Lm) (P:Pt):Prop where
 nx:2<=P.nx/\P.nx<=6
 ph:P.nx≠2->P.ph≠1
 sk:P.nx=2->∃ r,qA r L P.toSk
 gen:P.nx=3->∀ k,(ai L.ss k).gen<=1000000
 lead:P.nx=4->pt L P.toSk P.cr
 ret:P.nx=5->L.ws.length<=1000000
 drop:P.nx=6->ig L.xs L.ds (L.hs,P.H)/\P.H.holds=true
theorem Rx (L:Lm) (S:Sk):(aG L S).2.key=S.key/\(aG L S).2.sum=S.sum:=by
 unfold aG
 split
 ·split<;>exact ⟨rfl,rfl⟩
 ·exact ⟨rfl,rfl⟩
section
variable {w w':World} {M:Mo} {a:Qa} {P:Pt}
def CG (w:World) (M:Mo) (a:Qa) (P:Pt) (L':Lm) (P':Pt) (w':World):Prop:=
 ∃ M' b,ah w' M'/\lm M'=L'/\gn w M M'/\bF w' {a with w:=b} P'/\(∀ x,iG {a with w:=b} P' x->iG a P x\/w.heap.size<=x)/\ab (fun x=>ao M x\/iG a P x) w w'
theorem CG.px {L':Lm} {P':Pt} (h:CG w M a P L' P' w'):bf w M a P L' P' w':=by
 obtain ⟨M',b,h1,h2,h3,h4,h5,h6⟩:=h
 exact ⟨M',{a with w:=b},h1,h2,h3,h4,rfl,h5,h6⟩
theorem Ry (hM:ah w M) (h:bF w a P) {r:Nat} (ok:qA r (lm M) P.toSk) (hr:eL (lm M) P.toSk=true):
 Calls Tryz.prog 143 #[ptr a.s,ptr M.m] w fun e w'=>e=.returned (.bool (bY (lm M) P.toSk))/\CG w M a P (aG (lm M) P.toSk).1 {P with toSk:=(aG (lm M) P.toSk).2} w':=by
 refine (FT hM h.2 ok hr).mono fun e w' q=>⟨q.1,?_⟩
 obtain ⟨M',a',h1,h2,h3,h4,h5,h6,h7⟩:=q.2
 have hk:=Rx (lm M) P.toSk
 have hp:=h.vz h4 h5 hk.1 hk.2 h7 (by
  rintro (q | q)
  ·exact h.aA hM (.inl rfl) q
  ·exact h.self q rfl)
 refine ⟨M',a'.w,h1,h2,h3,hp,?_,h7.mono fun x _ q=>q.imp id .inr⟩
 rintro x (q | q)
 ·exact .inl (.inl q)
 ·have e:a'=(⟨a.s,a'.w⟩:Sa):=by
   obtain ⟨f',b'⟩:=a'
   have:f'=a.s:=h5
   rw [this]
  exact (h6 x (by rw [e]; exact q)).imp .inr id
set_option maxHeartbeats 1000000 in
theorem Bn (hM:ah w M) (h:bF w a P) {r:Nat} (ok:qA r (lm M) P.toSk) (hr:eL (lm M) P.toSk=true) (h2:P.nx=2):
 Calls Tryz.prog 127 #[ptr a.f,ptr M.m] w fun e w'=>e=.returned (.bool false)/\bf w M a P (cH (lm M) P).1 (cH (lm M) P).2 w':=by
 have hS:=Ry hM h ok hr
 have c3:=h.hd.2.2.2.1
 unfold cH
 rw [if_pos h2]
 simp only
 cases ct:bY (lm M) P.toSk with
 | false=>
   rw [ct] at hS
   rw [if_neg (by simp)]
   generalize aG (lm M) P.toSk=z at*
   have gW:=hS.mono fun e w' q=>And.intro q.1 q.2.px
   have eP:({P with toSk:=z.2,nx:=2}:Pt)={P with toSk:=z.2}:=by rw [<-h2]
   rw [eP]
   replace hS:=Lib.hid gW
   clear ct h hM ok hr h2 eP gW
   go_enter Tryz.func127,Tryz.ntmps127
   go_wp2_with fail
   refine hS.out.mono ?_
   rintro e w1 ⟨rfl,hW⟩
   replace hW:=Lib.hid hW
   clear hS c3
   go_wp2_with fail
   go_ret
   exact ⟨rfl,hW.out⟩
 | true=>
   rw [ct] at hS
   rw [if_pos rfl]
   generalize aG (lm M) P.toSk=z at*
   obtain ⟨L',S'⟩:=z
   simp only at hS ⊢
   replace hS:=Lib.hid hS
   have dp:=Lib.hid (h.aA hM (.inl rfl))
   clear ct h hM ok hr h2
   obtain ⟨cb,gX⟩:∃ cb,cb=decide (S'.cell= -1):=⟨_,rfl⟩
   have e6:(if S'.cell= -1 then 6 else 3:Nat)=if cb=true then 6 else 3:=by rw [gX]; simp
   have aH:decide (S'.cell≠ -1)= !cb:=by rw [gX]; simp
   rw [e6]
   clear e6 gX
   cases cb
   all_goals
    replace aH:=Lib.hid aH
    first
     | rw [if_pos rfl]
     | rw [if_neg (by simp)]
    go_enter Tryz.func127,Tryz.ntmps127
    go_wp2_with fail
    refine hS.out.mono ?_
    rintro e w1 ⟨rfl,M1,b,av,el,hK,aZ,gY,aw⟩
    have k3:=aZ.hd.2.2.2.1
    have k4:=aZ.hd.2.2.2.2.1
    simp only at k3 k4
    have z4:=aZ.cV 4
    have bh:=aZ.next 3
    have nc:=Lib.hid (bh.next 6)
    have oX:=RA bh.2
    simp only at oX
    rw [aH.out] at oX
    simp only [Bool.not_true,Bool.not_false] at oX
    have aq:=(ab.refl (·=a.f) w1).setCell (p:=⟨a.f,4,none⟩) (.inl rfl) (iL 3 a.f)
    have ft:=aq.setCell (p:=⟨a.f,4,none⟩) (.inl rfl) (iL 6 a.f)
    have far1:∀ x,ao M1 x->¬x=a.f:=fun x hx q=>aZ.aA av (.inl rfl) (q▸hx)
    have br:=Lib.hid (av.only aq far1)
    have ji:=Lib.hid (av.only ft far1)
    have wQ:=Lib.hid (aw.trans' aq (fun x _ q=>.inr (.inl q)))
    have uz:=Lib.hid (aw.trans' ft (fun x _ q=>.inr (.inl q)))
    have KK:=Lib.hid oX
    replace bh:=Lib.hid bh
    replace gY:=Lib.hid gY
    replace hK:=Lib.hid hK
    replace el:=Lib.hid el
    clear aq ft av aZ aw hS c3 far1 oX
    go_wp2_with fail
    refine KK.out.mono ?_
    rintro e w' ⟨rfl,rfl⟩
    clear KK
    go_wp2_with fail
    go_ret
    first
     | exact ⟨rfl,_,_,ji.out,el.out,hK.out,nc.out,rfl,gY.out,uz.out⟩
     | exact ⟨rfl,_,_,br.out,el.out,hK.out,bh.out,rfl,gY.out,wQ.out⟩
end
end Go.Proofs.YtpanebgakndddaaGreat.Pu
namespace Go.Proofs.YtpanebgakndddaaGreat.Pu
open Go Go.RowKit Hp K Fl Rw Hm Ar Mm Me Wk Ta Pn Pc
set_option maxRecDepth 100000
theorem RB {M:Mo} {x:Nat} {V':Option Addr} {capV':Nat} {ws':List Nat} {n:Nat} (hV:∀ x,In V' x->In M.V x\/n<=x) (q:ao {M with V:=V',capV:=capV',ws:=ws'} x):ao M x\/n<=x:=by
 rcases q with q | q | q | q | q | q
 ·exact .inl (.inl q)
 ·exact .inl (.inr (.inl q))
 ·exact .inl (.inr (.inr (.inl q)))
 ·exact .inl (.inr (.inr (.inr (.inl q))))
 ·exact .inl (.inr (.inr (.inr (.inr (.inl q)))))
 ·rcases hV x q with q | q
  ·exact .inl (.inr (.inr (.inr (.inr (.inr q)))))
  ·exact .inr q
def po (w:World) (M:Mo) (L':Lm) (w':World):Prop:=∃ M',ah w' M'/\lm M'=L'/\gn w M M'/\ab (ao M) w w'
theorem FV {w:World} {M:Mo} (hM:ah w M) (x:Nat) (hn:M.ws.length<=1000000):
 Calls Tryz.prog 18 #[ptr M.m,.int .u64 x] w fun e w'=>e=.returned (.tuple #[])/\po w M {lm M with ws:=M.ws++[x]} w':=by
 refine (Gi hM x hn).mono fun e w' q=>⟨q.1,?_⟩
 obtain ⟨V',capV',av,aw,Wv⟩:=q.2
 refine ⟨_,av,rfl,⟨rfl,rfl,rfl,rfl,fun x q=>RB Wv q⟩,aw.mono (fun x _ q=>?_)⟩
 rcases q with q | q
 ·exact .inl q
 ·exact .inr (.inr (.inr (.inr (.inr q))))
section
variable {w w':World} {M:Mo} {a:Qa} {P:Pt}
theorem bF.rS (h:bF w a P) (x n:Nat):bF (((w.setCell ⟨a.f,6,none⟩ (.int .u64 x)).setCell ⟨a.f,4,none⟩ (iL 6 a.f)).setCell ⟨a.f,4,none⟩ (iL n a.f)) a {P with cr:=x,nx:=n}/\
 ab (·=a.f) w (((w.setCell ⟨a.f,6,none⟩ (.int .u64 x)).setCell ⟨a.f,4,none⟩ (iL 6 a.f)).setCell ⟨a.f,4,none⟩ (iL n a.f)):=by
 have bs:bF (w.setCell ⟨a.f,6,none⟩ (.int .u64 x)) a {P with cr:=x}:=h.own (by simpa [ug] using h.1.store 6 (.int .u64 x)) ((ab.refl (·=a.f) w).setCell (p:=⟨a.f,6,none⟩) (.inl rfl) (.int .u64 x)) rfl
 exact ⟨(bs.next 6).next n,(((ab.refl (·=a.f) w).setCell (p:=⟨a.f,6,none⟩) (.inl rfl) (.int .u64 x)).setCell (p:=⟨a.f,4,none⟩) (.inl rfl) (iL 6 a.f)).setCell (p:=⟨a.f,4,none⟩) (.inl rfl) (iL n a.f)⟩
theorem bF.yS (h:bF w a P) (x:Nat):bF ((w.setCell ⟨a.f,6,none⟩ (.int .u64 x)).setCell ⟨a.f,4,none⟩ (iL 6 a.f)) a {P with cr:=x,nx:=6}/\
 ab (·=a.f) w ((w.setCell ⟨a.f,6,none⟩ (.int .u64 x)).setCell ⟨a.f,4,none⟩ (iL 6 a.f)):=by
 have bs:bF (w.setCell ⟨a.f,6,none⟩ (.int .u64 x)) a {P with cr:=x}:=h.own (by simpa [ug] using h.1.store 6 (.int .u64 x)) ((ab.refl (·=a.f) w).setCell (p:=⟨a.f,6,none⟩) (.inl rfl) (.int .u64 x)) rfl
 exact ⟨bs.next 6,((ab.refl (·=a.f) w).setCell (p:=⟨a.f,6,none⟩) (.inl rfl) (.int .u64 x)).setCell (p:=⟨a.f,4,none⟩) (.inl rfl) (iL 6 a.f)⟩
theorem po.px {L':Lm} {P':Pt} {w1 w2:World} (h:po w M L' w1) (hP:bF w a P) (hM:ah w M) (bs:bF w1 a P->bF w2 a P') (eS:P'.H.f=P.H.f) (ho:ab (·=a.f) w1 w2):bf w M a P L' P' w2:=by
 obtain ⟨M1,av,el,hK,hO⟩:=h
 have aZ:=hP.only hO (fun x hx q=>hP.aA hM hx q)
 exact ⟨M1,a,av.only ho (fun x hx q=>aZ.aA av (.inl rfl) (q▸hx)),el,hK,bs aZ,rfl,yR rfl eS,(hO.mono (fun x _ q=>(.inl q:ao M x\/iG a P x))).trans' ho (fun x _ q=>.inr (.inl q))⟩
set_option maxHeartbeats 1000000 in
theorem RC (hM:ah w M) (h:bF w a P) (hn:M.ws.length<=1000000) (h5:P.nx=5):
 Calls Tryz.prog 215 #[ptr a.f,ptr M.m] w fun e w'=>e=.returned (.bool false)/\bf w M a P (cH (lm M) P).1 (cH (lm M) P).2 w':=by
 have hR:=Lib.hid (FV hM P.cr hn)
 have c6:=h.hd.2.2.2.2.2.2
 have HP:=Lib.hid h
 have HM:=Lib.hid hM
 unfold cH
 rw [if_neg (by omega),if_neg (by omega),if_neg (by omega),if_pos h5]
 clear h hM hn h5
 go_enter Tryz.func215,Tryz.ntmps215
 go_wp2_with fail
 refine hR.out.mono ?_
 rintro e w1 ⟨rfl,hW⟩
 have aZ:bF w1 a P:=by
  obtain ⟨M1,_,_,_,hO⟩:=hW
  exact HP.out.only hO (fun x hx q=>HP.out.aA HM.out hx q)
 have k6:=aZ.hd.2.2.2.2.2.2
 have k4:=aZ.hd.2.2.2.2.1
 have z6:=aZ.cV 6
 have z4:=aZ.cV 4
 have hE:=Lib.hid (hW.px HP.out HM.out (fun q=>(q.yS 0).1) rfl (aZ.yS 0).2)
 clear aZ hW hR c6
 go_wp2_with fail
 go_ret
 exact ⟨rfl,hE.out⟩
set_option maxHeartbeats 1000000 in
theorem RD (hM:ah w M) (h:bF w a P) (ok:pt (lm M) P.toSk P.cr) (h4:P.nx=4):
 Calls Tryz.prog 197 #[ptr a.f,ptr M.m] w fun e w'=>e=.returned (.bool false)/\bf w M a P (cH (lm M) P).1 (cH (lm M) P).2 w':=by
 have hR:=fun w1 (hb:Below w.heap.size w w1)=>(FU (hM.below hb) (h.2.below hb) ok).mono fun e w' q=>show e=.returned (.tuple #[])/\po w M (jT (lm M) P.toSk P.cr) w' from
  ⟨q.1,by obtain ⟨M',h1,h2,h3,_,h5⟩:=q.2; exact ⟨M',h1,h2,(gn.refl w M).trans h3 hb.size,(ab.aD hb _).trans h5⟩⟩
 replace hR:=fun n=>hR (w.drewN n) ⟨rfl,rfl,rfl,Nat.le_refl _,fun _ _=>rfl⟩
 have c3:=h.hd.2.2.2.1
 have c6:=h.hd.2.2.2.2.2.2
 have oT:=Lib.hid (show M.m≠a.f from fun e=>h.aA hM (.inl e) (.inl rfl))
 have HP:=Lib.hid h
 have HM:=Lib.hid hM
 unfold cH
 rw [if_neg (by omega),if_neg (by omega),if_pos h4]
 generalize Ww:jT (lm M) P.toSk P.cr=L' at*
 obtain ⟨x,rC⟩:∃ x,x=P.W.found:=⟨_,rfl⟩
 obtain ⟨n,nr⟩:∃ n,n=P.W.nd:=⟨_,rfl⟩
 obtain ⟨nk,nv,ns,nn⟩:=n
 have Wx:∃ b,decide (x≠0)=b/\(if x≠0 then 5 else 6:Nat)=if b=true then 5 else 6:=⟨_,rfl,by simp⟩
 obtain ⟨b,hb,e5⟩:=Wx
 rw [<-rC]
 simp only [e5]
 replace hR:=Lib.hid hR
 replace rC:=Lib.hid rC
 replace nr:=Lib.hid nr
 replace hb:=Lib.hid hb
 have iP:Hid (∀ w1 w2 (P':Pt),po w M L' w1->(bF w1 a P->bF w2 a P')->P'.H.f=P.H.f->ab (·=a.f) w1 w2->bf w M a P L' P' w2):=Lib.hid (fun w1 w2 P' hW hq eS ho=>hW.px h hM hq eS ho)
 clear h hM h4 Ww ok e5
 go_enter Tryz.func197,Tryz.ntmps197
 go_wp2_with fail
 go_region_held3 (fun w'=>w'.cell? ⟨a.f,3,none⟩=some (ptr a.s)/\w'.cell? ⟨a.f,6,none⟩=some (.int .u64 P.cr)) (go_keep)
  (first
    | (go_at_call 179
       refine (hR.out 1).mono ?_
       rintro e w1 ⟨rfl,hW⟩
       have aZ:bF w1 a P:=by
        obtain ⟨M1,_,_,_,hO⟩:=hW
        exact HP.out.only hO (fun x hx q=>HP.out.aA HM.out hx q)
       have k3:=aZ.hd.2.2.2.1
       have k6:=aZ.hd.2.2.2.2.2.2
       have cG:=tL aZ.2
       unfold dV at cG
       rw [<-rC.out,<-nr.out,hb.out] at cG
       simp only at cG
       replace cG:=Lib.hid cG
       replace aZ:=Lib.hid aZ
       replace hW:=Lib.hid hW
       clear hR))
 all_goals
  go_wp2_with fail
  refine cG.out.mono ?_
  rintro e w2 ⟨rfl,au⟩
  have ba:=au.alloc (o:=.cells #[.string nk,.string nv,.int .u32 ns,.int .u64 nn] 67) au.size
  obtain ⟨w3,dU⟩:∃ w3,w3=w2.alloc (.cells #[.string nk,.string nv,.int .u32 ns,.int .u64 nn] 67):=⟨_,rfl⟩
  rw [<-dU] at ba
  have bh:=aZ.out.below ba
  have k6':=bh.hd.2.2.2.2.2.2
  have k4':=bh.hd.2.2.2.2.1
  have z6':=bh.cV 6
  have z4':=bh.cV 4
  have dq:po w M L' w3:=by
   obtain ⟨M1,q1,q2,q3,q4⟩:=hW.out
   exact ⟨M1,q1.below ba,q2,q3,q4.below ba⟩
  have h5:=Lib.hid (iP.out _ _ _ dq (fun q=>(q.rS x 5).1) rfl (bh.rS x 5).2)
  have h6:=Lib.hid (iP.out _ _ _ dq (fun q=>(q.yS x).1) rfl (bh.yS x).2)
  clear dq bh ba au cG k3 k6 hW
  go_upto_region 3 with (fail)
  rw [<-dU]
  clear dU
  cases b
  all_goals
   go_wp2_with fail
   go_ret
   first
    | exact ⟨rfl,h5.out⟩
    | exact ⟨rfl,h6.out⟩
set_option maxHeartbeats 1000000 in
theorem RE (hM:ah w M) (h:bF w a P) (hl:ig M.xs M.ds (M.hs,P.H)) (hh:P.H.holds=true) (h6:P.nx=6):
 Calls Tryz.prog 163 #[ptr a.f,ptr M.m] w fun e w'=>e=.returned (.bool true)/\bf w M a P (cH (lm M) P).1 (cH (lm M) P).2 w':=by
 have hR:=Lib.hid (FW hM h.2 hl hh)
 have c3:=h.hd.2.2.2.1
 have HP:=Lib.hid h
 have HM:=Lib.hid hM
 unfold cH
 rw [if_neg (by omega),if_neg (by omega),if_neg (by omega),if_neg (by omega)]
 clear h hM hl hh h6
 go_enter Tryz.func163,Tryz.ntmps163
 go_wp2_with fail
 refine hR.out.mono ?_
 rintro e w1 ⟨rfl,av,kK,aw⟩
 have aZ:=HP.out.vz kK rfl rfl rfl aw (by
  rintro (q | q)
  ·exact HP.out.aA HM.out (.inl rfl) q
  ·exact HP.out.self q rfl)
 have k4:=aZ.hd.2.2.2.2.1
 have z4:=aZ.cV 4
 have bh:=Lib.hid (aZ.next 7)
 have aq:=(ab.refl (·=a.f) w1).setCell (p:=⟨a.f,4,none⟩) (.inl rfl) (iL 7 a.f)
 have br:=Lib.hid (av.only aq (fun x hx q=>aZ.aA av (.inl rfl) (q▸hx)))
 have wQ:Hid (ab (fun x=>ao M x\/iG a P x) w _):=Lib.hid ((aw.mono (fun x _ q=>q.imp id .inr)).trans' aq (fun x _ q=>.inr (.inl q)))
 clear aZ aq av aw hR c3 kK
 go_wp2_with fail
 go_ret
 exact ⟨rfl,_,a,br.out,rfl,⟨rfl,rfl,rfl,rfl,fun _ q=>.inl q⟩,bh.out,rfl,yR rfl rfl,wQ.out⟩
end
end Go.Proofs.YtpanebgakndddaaGreat.Pu
namespace Go.Proofs.YtpanebgakndddaaGreat.Dl
open Go Go.RowKit Hp K Fl Rw Hm Ar Mm Me Wk Ta Pn Pc Pu
set_option maxRecDepth 100000
structure Dt extends Sk where
 nx:Nat
 cr:Nat
def kS (nx f:Nat):Value:=if nx=2 then aT 108 (ptr f) else if nx=4 then aT 145 (ptr f)
 else if nx=5 then aT 180 (ptr f) else if nx=6 then aT 144 (ptr f) else dW 178
def yk (a:Qa) (D:Dt):Array Value:=#[ptr a.s,kS D.nx a.f,.int .u64 D.cr]
def cB (w:World) (a:Qa) (D:Dt):Prop:=af w a.f 193 (yk a D)/\cS w a.sa D.toSk
def gD (a:Qa) (D:Dt) (x:Nat):Prop:=x=a.f\/cg a.sa D.toSk x
abbrev FP:List TypeId:=[193,226,243,237]
abbrev Bl:iH Qa Dt:=⟨Qa.f,cB,gD⟩
section
variable {w w':World} {M:Mo} {a:Qa} {D:Dt}
theorem cB.ty (h:cB w a D) {x:Nat} (hx:gD a D x):Ty w x FP:=by
 obtain ⟨h1,h2⟩:=h
 rcases hx with rfl | hx
 ·exact (aV h1).mono (by simp)
 ·exact (h2.ty hx).mono (fun t ht=>List.mem_cons_of_mem _ ht)
theorem cB.aA (h:cB w a D) (hM:ah w M) {x:Nat} (hx:gD a D x):¬ao M x:=fun hm=>(hM.ty hm).apart (h.ty hx) (by decide)
theorem cB.only {S:Nat->Prop} (h:cB w a D) (ho:ab S w w') (hn:∀ x,gD a D x->¬S x):cB w' a D:=
 ⟨h.1.only ho (hn _ (.inl rfl)),h.2.only ho (fun x hx=>hn _ (.inr hx))⟩
theorem cB.below (h:cB w a D) (hb:Below w.heap.size w w'):cB w' a D:=h.only (ab.aD hb (fun _=>False)) (by simp)
theorem cB.hd (h:cB w a D):w.cell? ⟨a.f,0,none⟩=some (ptr a.s)/\w.cell? ⟨a.f,1,none⟩=some (kS D.nx a.f)/\w.cell? ⟨a.f,2,none⟩=some (.int .u64 D.cr):=
 ⟨h.1.cell 0,h.1.cell 1,h.1.cell 2⟩
theorem cB.cV (h:cB w a D) (i:Nat):w.frozen? ⟨a.f,i,none⟩=false:=h.1.frozen i
theorem cB.self (h:cB w a D) {x:Nat} (hx:cg a.sa D.toSk x):x≠a.f:=by
 rintro rfl
 exact (h.2.ty hx).apart (aV h.1) (by decide)
theorem cB.own (h:cB w a D) {D':Dt} (hB:af w' a.f 193 (yk a D')) (ho:ab (·=a.f) w w') (eS:D'.toSk=D.toSk):cB w' a D':=
 ⟨hB,by rw [eS]; exact h.2.only ho (fun x hx e=>h.self hx e)⟩
theorem cB.next (h:cB w a D) (n:Nat):cB (w.setCell ⟨a.f,1,none⟩ (kS n a.f)) a {D with nx:=n}:=
 h.own (h.1.store 1 (kS n a.f)) ((ab.refl (·=a.f) w).setCell (p:=⟨a.f,1,none⟩) (.inl rfl) (kS n a.f)) rfl
theorem cB.vz {S:Nat->Prop} {a':Sa} {S':Sk} (h:cB w a D) (hS:cS w' a' S') (ef:a'.f=a.s) (ho:ab S w w') (hn:¬S a.f):cB w' {a with w:=a'.w} {D with toSk:=S'}:=by
 obtain ⟨f',b'⟩:=a'
 subst ef
 refine ⟨?_,hS⟩
 have:=h.1.only ho hn
 unfold yk at this ⊢
 exact this
theorem cB.rS (h:cB w a D) (x n:Nat):cB ((w.setCell ⟨a.f,2,none⟩ (.int .u64 x)).setCell ⟨a.f,1,none⟩ (kS n a.f)) a {D with cr:=x,nx:=n}/\
 ab (·=a.f) w ((w.setCell ⟨a.f,2,none⟩ (.int .u64 x)).setCell ⟨a.f,1,none⟩ (kS n a.f)):=by
 have bs:cB (w.setCell ⟨a.f,2,none⟩ (.int .u64 x)) a {D with cr:=x}:=h.own (by simpa [yk] using h.1.store 2 (.int .u64 x)) ((ab.refl (·=a.f) w).setCell (p:=⟨a.f,2,none⟩) (.inl rfl) (.int .u64 x)) rfl
 exact ⟨bs.next n,((ab.refl (·=a.f) w).setCell (p:=⟨a.f,2,none⟩) (.inl rfl) (.int .u64 x)).setCell (p:=⟨a.f,1,none⟩) (.inl rfl) (kS n a.f)⟩
abbrev oB (w:World) (M:Mo) (a:Qa) (D:Dt) (L':Lm) (D':Dt) (w':World):Prop:=Bl.bf w M a D L' D' w'
theorem FQ {a a':Qa} {D D':Dt} (ea:a'=a) (eS:D'.H.f=D.H.f) {n:Nat} (x:Nat) (q:gD a' D' x):gD a D x\/n<=x:=by
 subst ea
 rcases q with q | q | q | q
 ·exact .inl (.inl q)
 ·exact .inl (.inr (.inl q))
 ·exact .inl (.inr (.inr (.inl (q.trans eS))))
 ·exact .inl (.inr (.inr (.inr q)))
theorem FR {L':Lm} {D':Dt} {w1 w2:World} (h:po w M L' w1) (hP:cB w a D) (hM:ah w M) (bs:cB w1 a D->cB w2 a D') (eS:D'.H.f=D.H.f) (ho:ab (·=a.f) w1 w2):oB w M a D L' D' w2:=by
 obtain ⟨M1,av,el,hK,hO⟩:=h
 have aZ:=hP.only hO (fun x hx q=>hP.aA hM hx q)
 exact ⟨M1,a,av.only ho (fun x hx q=>aZ.aA av (.inl rfl) (q▸hx)),el,hK,bs aZ,rfl,FQ rfl eS,(hO.mono (fun x _ q=>(.inl q:ao M x\/gD a D x))).trans' ho (fun x _ q=>.inr (.inl q))⟩
def aO (L:Lm) (D:Dt):Lm×Dt:=
 if D.nx=2 then ((aG L D.toSk).1,{D with toSk:=(aG L D.toSk).2,nx:=if bY L D.toSk=true then (if (aG L D.toSk).2.W.found≠0 then 4 else 6) else 2})
 else if D.nx=4 then (jT L D.toSk D.W.nd.next.toNat,{D with cr:=D.W.found,nx:=5})
 else if D.nx=5 then ({L with ws:=L.ws++[D.cr]},{D with cr:=0,nx:=6})
 else ({L with hs:=L.hs.set D.H.lock (-1)},{D with H:={D.H with holds:=false},nx:=7})
def fP (L:Lm) (D:Dt):Bool:=eL L D.toSk
def jb (_:Lm) (D:Dt):Bool:=decide (6<=D.nx)
structure vo (L:Lm) (D:Dt):Prop where
 nx:D.nx=2\/D.nx=4\/D.nx=5\/D.nx=6
 ph:D.nx≠2->D.ph≠1
 sk:D.nx=2->∃ r,qA r L D.toSk
 lead:D.nx=4->0<=D.W.nd.next/\pt L D.toSk D.W.nd.next.toNat
 ret:D.nx=5->L.ws.length<=1000000
 drop:D.nx=6->ig L.xs L.ds (L.hs,D.H)/\D.H.holds=true
def Bm (w:World) (M:Mo) (a:Qa) (D:Dt) (L':Lm) (D':Dt) (w':World):Prop:=
 ∃ M' b,ah w' M'/\lm M'=L'/\gn w M M'/\cB w' {a with w:=b} D'/\(∀ x,gD {a with w:=b} D' x->gD a D x\/w.heap.size<=x)/\ab (fun x=>ao M x\/gD a D x) w w'
theorem Bm.px {L':Lm} {D':Dt} (h:Bm w M a D L' D' w'):oB w M a D L' D' w':=by
 obtain ⟨M',b,h1,h2,h3,h4,h5,h6⟩:=h
 exact ⟨M',{a with w:=b},h1,h2,h3,h4,rfl,h5,h6⟩
theorem Nn (hM:ah w M) (h:cB w a D) {r:Nat} (ok:qA r (lm M) D.toSk) (hr:eL (lm M) D.toSk=true):
 Calls Tryz.prog 143 #[ptr a.s,ptr M.m] w fun e w'=>e=.returned (.bool (bY (lm M) D.toSk))/\Bm w M a D (aG (lm M) D.toSk).1 {D with toSk:=(aG (lm M) D.toSk).2} w':=by
 refine (FT hM h.2 ok hr).mono fun e w' q=>⟨q.1,?_⟩
 obtain ⟨M',a',h1,h2,h3,h4,h5,h6,h7⟩:=q.2
 have hp:=h.vz h4 h5 h7 (by
  rintro (q | q)
  ·exact h.aA hM (.inl rfl) q
  ·exact h.self q rfl)
 refine ⟨M',a'.w,h1,h2,h3,hp,?_,h7.mono fun x _ q=>q.imp id .inr⟩
 rintro x (q | q)
 ·exact .inl (.inl q)
 ·have e:a'=(⟨a.s,a'.w⟩:Sa):=by
   obtain ⟨f',b'⟩:=a'
   have:f'=a.s:=h5
   rw [this]
  exact (h6 x (by rw [e]; exact q)).imp .inr id
theorem vk (h:cB w a D):Calls Tryz.prog 272 #[ptr a.f] w fun e w'=>e=.returned (.int .u64 D.cr)/\w=w':=by
 have c:=h.hd.2.2
 clear h
 go_enter Tryz.func272,Tryz.ntmps272
 go_wp2
 go_ret
 exact ⟨rfl,rfl⟩
theorem vm (h:cB w a D):Calls Tryz.prog 82 #[ptr a.f] w fun e w'=>e=.returned (.tuple #[.string D.W.nd.val,.bool (decide (D.W.found≠0))])/\Below w.heap.size w w':=by
 have c:=h.hd.1
 have hR:=tL h.2
 unfold dV at hR
 generalize decide (D.W.found≠0)=b at*
 generalize D.W.found=x at*
 generalize D.W.nd=n at*
 obtain ⟨nk,nv,ns,nn⟩:=n
 simp only at hR ⊢
 replace hR:=Lib.hid hR
 clear h
 go_enter Tryz.func82,Tryz.ntmps82
 go_wp2_with fail
 refine hR.out.mono ?_
 rintro e w1 ⟨rfl,hb⟩
 have au:=Lib.hid ((hb.alloc (o:=.cells #[.string nk,.string nv,.int .u32 ns,.int .u64 nn] 67) hb.size))
 clear c hb
 go_wp2_with fail
 go_ret2
 exact ⟨rfl,au.out⟩
set_option maxHeartbeats 1000000 in
theorem Bn (hM:ah w M) (h:cB w a D) {r:Nat} (ok:qA r (lm M) D.toSk) (hr:eL (lm M) D.toSk=true) (h2:D.nx=2):
 Calls Tryz.prog 108 #[ptr a.f,ptr M.m] w fun e w'=>e=.returned (.bool false)/\oB w M a D (aO (lm M) D).1 (aO (lm M) D).2 w':=by
 have hS:=Nn hM h ok hr
 have c3:=h.hd.1
 unfold aO
 rw [if_pos h2]
 simp only
 cases ct:bY (lm M) D.toSk with
 | false=>
   rw [ct] at hS
   rw [if_neg (by simp)]
   generalize aG (lm M) D.toSk=z at*
   have gW:=hS.mono fun e w' q=>And.intro q.1 q.2.px
   have eP:({D with toSk:=z.2,nx:=2}:Dt)={D with toSk:=z.2}:=by rw [<-h2]
   rw [eP]
   replace hS:=Lib.hid gW
   clear ct h hM ok hr h2 eP gW
   go_enter Tryz.func108,Tryz.ntmps108
   go_wp2_with fail
   refine hS.out.mono ?_
   rintro e w1 ⟨rfl,hW⟩
   replace hW:=Lib.hid hW
   clear hS c3
   go_wp2_with fail
   go_ret
   exact ⟨rfl,hW.out⟩
 | true=>
   rw [ct] at hS
   rw [if_pos rfl]
   generalize aG (lm M) D.toSk=z at*
   obtain ⟨L',S'⟩:=z
   simp only at hS ⊢
   replace hS:=Lib.hid hS
   clear ct h hM ok hr h2
   obtain ⟨cb,gX⟩:∃ cb,cb=decide (S'.W.found≠0):=⟨_,rfl⟩
   have e6:(if S'.W.found≠0 then 4 else 6:Nat)=if cb=true then 4 else 6:=by rw [gX]; simp
   rw [e6]
   clear e6
   replace gX:=Lib.hid gX
   go_enter Tryz.func108,Tryz.ntmps108
   go_wp2_with fail
   refine hS.out.mono ?_
   rintro e w1 ⟨rfl,M1,b,av,el,hK,aZ,gY,aw⟩
   have k4:=aZ.hd.2.1
   have z4:=aZ.cV 1
   have nc:=aZ.next 6
   have ft:=(ab.refl (·=a.f) w1).setCell (p:=⟨a.f,1,none⟩) (.inl rfl) (kS 6 a.f)
   have far1:∀ x,ao M1 x->¬x=a.f:=fun x hx q=>aZ.aA av (.inl rfl) (q▸hx)
   have ji:=av.only ft far1
   have uz:=aw.trans' ft (fun x _ q=>.inr (.inl q))
   have cG:=tL nc.2
   unfold dV at cG
   rw [<-gX.out] at cG
   obtain ⟨x,hx⟩:∃ x,x=S'.W.found:=⟨_,rfl⟩
   obtain ⟨n,hn⟩:∃ n,n=S'.W.nd:=⟨_,rfl⟩
   rw [<-hx,<-hn] at cG
   obtain ⟨nk,nv,ns,nn⟩:=n
   simp only at cG
   obtain ⟨w2,bl⟩:∃ w2,w2=w1.setCell ⟨a.f,1,none⟩ (aT 144 (ptr a.f)):=⟨_,rfl⟩
   have JG:w1.setCell ⟨a.f,1,none⟩ (kS 6 a.f)=w2:=bl.symm
   rw [JG] at cG ji nc uz
   have h6:=Lib.hid (fun w3 (hb:Below w2.heap.size w2 w3)=>show oB w M a D L' {D with toSk:=S',nx:=6} w3 from
    ⟨M1,{a with w:=b},ji.below hb,el,hK,nc.below hb,rfl,gY,uz.below hb⟩)
   have h4:=Lib.hid (fun w3 (hb:Below w2.heap.size w2 w3)=>show oB w M a D L' {D with toSk:=S',nx:=4} (w3.setCell ⟨a.f,1,none⟩ (kS 4 a.f)) from by
    have br:=ji.below hb
    have bh:=nc.below hb
    have aq:=uz.below hb
    have aM:=(ab.refl (·=a.f) w3).setCell (p:=⟨a.f,1,none⟩) (.inl rfl) (kS 4 a.f)
    exact ⟨M1,{a with w:=b},br.only aM (fun x hx q=>bh.aA br (.inl rfl) (q▸hx)),el,hK,bh.next 4,rfl,gY,aq.trans' aM (fun x _ q=>.inr (.inl q))⟩)
   have hq:=Lib.hid (fun w3 (hb:Below w2.heap.size w2 w3)=>show w3.cell? ⟨a.f,1,none⟩=some (kS 6 a.f)/\w3.frozen? ⟨a.f,1,none⟩=false/\a.f<w3.heap.size from
    ⟨(nc.below hb).hd.2.1,(nc.below hb).cV 1,(nc.below hb).1.lt⟩)
   have k0:=nc.hd.1
   have l0:=nc.1.lt
   replace cG:=Lib.hid cG
   clear ft av aZ aw hS c3 far1 hx hn ji nc uz el hK gY JG
   go_upto_region 4 with (fail)
   rw [<-bl]
   clear bl k4 z4
   go_wp2_with fail
   refine cG.out.mono ?_
   rintro e w3 ⟨rfl,ba⟩
   have fE:=ba.alloc (o:=.cells #[.string nk,.string nv,.int .u32 ns,.int .u64 nn] 67) ba.size
   obtain ⟨w4,wO⟩:∃ w4,w4=w3.alloc (.cells #[.string nk,.string nv,.int .u32 ns,.int .u64 nn] 67):=⟨_,rfl⟩
   rw [<-wO] at fE
   obtain ⟨k4,z4,l4⟩:=hq.out w4 fE
   have Vb:=Lib.hid (h6.out w4 fE)
   have Vc:=Lib.hid (h4.out w4 fE)
   clear ba fE cG h6 h4 hq k0 l0
   go_upto_region 5 with (fail)
   rw [<-wO]
   clear wO
   cases cb
   all_goals
    go_wp2_with fail
    go_ret
    first
     | exact ⟨rfl,Vc.out⟩
     | exact ⟨rfl,Vb.out⟩
set_option maxHeartbeats 1000000 in
theorem No (hM:ah w M) (h:cB w a D) (hz:0<=D.W.nd.next) (ok:pt (lm M) D.toSk D.W.nd.next.toNat) (h4:D.nx=4):
 Calls Tryz.prog 145 #[ptr a.f,ptr M.m] w fun e w'=>e=.returned (.bool false)/\oB w M a D (aO (lm M) D).1 (aO (lm M) D).2 w':=by
 have cG:=tL h.2
 have hR:=fun w1 (hb:Below w.heap.size w w1)=>(FU (hM.below hb) (h.2.below hb) ok).mono fun e w' q=>show e=.returned (.tuple #[])/\po w M (jT (lm M) D.toSk D.W.nd.next.toNat) w'/\ab (ao M) w1 w' from
  ⟨q.1,by obtain ⟨M',h1,h2,h3,_,h5⟩:=q.2; exact ⟨⟨M',h1,h2,(gn.refl w M).trans h3 hb.size,(ab.aD hb _).trans h5⟩,h5⟩⟩
 rw [show ((D.W.nd.next.toNat:Nat):Int)=D.W.nd.next by omega] at hR
 have c0:=h.hd.1
 have HP:=Lib.hid h
 have HM:=Lib.hid hM
 have bn:=Lib.hid (fun x (q:ao M x)=>hM.lt q)
 unfold aO
 rw [if_neg (by omega),if_pos h4]
 generalize jT (lm M) D.toSk D.W.nd.next.toNat=L' at*
 obtain ⟨x,hx⟩:∃ x,x=D.W.found:=⟨_,rfl⟩
 obtain ⟨n,hn⟩:∃ n,n=D.W.nd:=⟨_,rfl⟩
 unfold dV at cG
 rw [<-hx,<-hn] at cG
 rw [<-hn] at hR
 rw [<-hx]
 obtain ⟨nk,nv,ns,nn⟩:=n
 generalize decide (x≠0)=bx at*
 simp only at cG hR
 have iP:Hid (∀ w1 w2 (D':Dt),po w M L' w1->(cB w1 a D->cB w2 a D')->D'.H.f=D.H.f->ab (·=a.f) w1 w2->oB w M a D L' D' w2):=Lib.hid (fun w1 w2 D' hW hq eS ho=>FR hW h hM hq eS ho)
 replace cG:=Lib.hid cG
 replace hR:=Lib.hid hR
 clear h hM h4 ok hx hn hz
 go_enter Tryz.func145,Tryz.ntmps145
 go_wp2_with fail
 refine cG.out.mono ?_
 rintro e w1 ⟨rfl,ax⟩
 have au:=ax.alloc (o:=.cells #[.string nk,.string nv,.int .u32 ns,.int .u64 nn] 67) ax.size
 obtain ⟨w2,bl⟩:∃ w2,w2=w1.alloc (.cells #[.string nk,.string nv,.int .u32 ns,.int .u64 nn] 67):=⟨_,rfl⟩
 rw [<-bl] at au
 have lI:af w2 w1.heap.size 67 #[.string nk,.string nv,.int .u32 ns,.int .u64 nn]:=by rw [bl]; exact af.made w1 _ _
 obtain ⟨nb,mo⟩:∃ nb,nb=w1.heap.size:=⟨_,rfl⟩
 rw [<-mo] at lI
 have Xf:w.heap.size<=nb:=by rw [mo]; exact ax.size
 have j0:=(HP.out.below au).hd.1
 have j3:=lI.cell 3
 simp at j3
 have cy:=Lib.hid (fun n=>hR.out (w2.drewN n) (au.trans ⟨rfl,rfl,rfl,by simp,fun _ _=>rfl⟩))
 have Vd:=Lib.hid (fun n=>show af (w2.drewN n) nb 67 #[.string nk,.string nv,.int .u32 ns,.int .u64 nn] from lI.only ((ab.refl (fun _=>False) w2).drewN n) (by simp))
 clear ax au hR cG c0 lI
 go_upto_region 2 with (fail)
 rw [<-bl,<-mo]
 clear bl mo
 go_region_held3 (fun w'=>w'.cell? ⟨a.f,0,none⟩=some (ptr a.s)/\w'.cell? ⟨nb,3,none⟩=some (.int .u64 nn)) (go_keep)
  (first
    | (go_at_call 179
       refine (cy.out 1).mono ?_
       rintro e w3 ⟨rfl,hW,hO⟩
       have bh:cB w3 a D:=by
        obtain ⟨M1,_,_,_,hO⟩:=hW
        exact HP.out.only hO (fun x hx q=>HP.out.aA HM.out hx q)
       have k0:=bh.hd.1
       have k1:=bh.hd.2.1
       have k2:=bh.hd.2.2
       have z1:=bh.cV 1
       have z2:=bh.cV 2
       have wP:=(Vd.out 1).only hO (fun q=>by have:=bn.out _ q; omega)
       have k3:=wP.cell 3
       simp at k3
       have hE:=Lib.hid (iP.out _ _ _ hW (fun q=>(q.rS x 5).1) rfl (bh.rS x 5).2)
       clear bh hW hO wP cy))
 all_goals
  go_wp2_with fail
  go_ret
  exact ⟨rfl,hE.out⟩
theorem Np (hM:ah w M) (h:cB w a D) (hn:M.ws.length<=1000000) (h5:D.nx=5):
 Calls Tryz.prog 180 #[ptr a.f,ptr M.m] w fun e w'=>e=.returned (.bool false)/\oB w M a D (aO (lm M) D).1 (aO (lm M) D).2 w':=by
 have hR:=Lib.hid (FV hM D.cr hn)
 have c6:=h.hd.2.2
 have HP:=Lib.hid h
 have HM:=Lib.hid hM
 unfold aO
 rw [if_neg (by omega),if_neg (by omega),if_pos h5]
 clear h hM hn h5
 go_enter Tryz.func180,Tryz.ntmps180
 go_wp2_with fail
 refine hR.out.mono ?_
 rintro e w1 ⟨rfl,hW⟩
 have aZ:cB w1 a D:=by
  obtain ⟨M1,_,_,_,hO⟩:=hW
  exact HP.out.only hO (fun x hx q=>HP.out.aA HM.out hx q)
 have k6:=aZ.hd.2.2
 have k4:=aZ.hd.2.1
 have z6:=aZ.cV 2
 have z4:=aZ.cV 1
 have hE:=Lib.hid (FR hW HP.out HM.out (fun q=>(q.rS 0 6).1) rfl (aZ.rS 0 6).2)
 clear aZ hW hR c6
 go_wp2_with fail
 go_ret
 exact ⟨rfl,hE.out⟩
theorem Nq (hM:ah w M) (h:cB w a D) (hl:ig M.xs M.ds (M.hs,D.H)) (hh:D.H.holds=true) (h6:D.nx=6):
 Calls Tryz.prog 144 #[ptr a.f,ptr M.m] w fun e w'=>e=.returned (.bool true)/\oB w M a D (aO (lm M) D).1 (aO (lm M) D).2 w':=by
 have hR:=Lib.hid (FW hM h.2 hl hh)
 have c3:=h.hd.1
 have HP:=Lib.hid h
 have HM:=Lib.hid hM
 unfold aO
 rw [if_neg (by omega),if_neg (by omega),if_neg (by omega)]
 clear h hM hl hh h6
 go_enter Tryz.func144,Tryz.ntmps144
 go_wp2_with fail
 refine hR.out.mono ?_
 rintro e w1 ⟨rfl,av,kK,aw⟩
 have aZ:=HP.out.vz kK rfl aw (by
  rintro (q | q)
  ·exact HP.out.aA HM.out (.inl rfl) q
  ·exact HP.out.self q rfl)
 have k4:=aZ.hd.2.1
 have z4:=aZ.cV 1
 have bh:=Lib.hid (aZ.next 7)
 have aq:=(ab.refl (·=a.f) w1).setCell (p:=⟨a.f,1,none⟩) (.inl rfl) (kS 7 a.f)
 have br:=Lib.hid (av.only aq (fun x hx q=>aZ.aA av (.inl rfl) (q▸hx)))
 have wQ:Hid (ab (fun x=>ao M x\/gD a D x) w _):=Lib.hid ((aw.mono (fun x _ q=>q.imp id .inr)).trans' aq (fun x _ q=>.inr (.inl q)))
 clear aZ aq av aw hR c3 kK
 go_wp2_with fail
 go_ret
 exact ⟨rfl,_,a,br.out,rfl,⟨rfl,rfl,rfl,rfl,fun _ q=>.inl q⟩,bh.out,rfl,FQ rfl rfl,wQ.out⟩
end
end Go.Proofs.YtpanebgakndddaaGreat.Dl
namespace Go.Proofs.YtpanebgakndddaaGreat.Me
open Go Go.RowKit Hp K Fl Rw Hm Ar Mm
set_option maxRecDepth 100000
/-! ### the map-/
abbrev DH:=DataW Unit
abbrev sy (x:Nat):Lit:=.int .u64 x
abbrev ud (v:Bool):DH:=.lit (.bool v)
def Met (w:World) (B:Nat) (ms:List Nat):Prop:=∃ (n:Nat) (D:DH),w.ownsMap Tryz.prog 40 (plainElem Tryz.prog 4) B n D/\n<=ms.length/\∀ x,x<=18446744073709551615->D.atKey (sy x) (ud false)=ud (decide (x∈ms))
theorem keyed:Maps.Keyed Tryz.prog 40:=Maps.int_keyed Tryz.underlying40
theorem QX (w:World):(zeroValue 4).run Tryz.prog w=.ok (.bool false) w:=by kernel_rfl
theorem QY {x:Nat} (hx:x<=18446744073709551615):(Lit.int .u64 (x:Int)).wf=true:=by
 simp [Lit.wf,IntKind.min,IntKind.max,IntKind.signed,IntKind.bits]; omega
theorem yP {x:Nat} (hx:x<=18446744073709551615):keyOf Tryz.prog 40 (.int .u64 x)=some (sy x):=Maps.keyOf_int_mk Tryz.underlying40 (QY hx)
theorem QZ {x:Nat} (hx:x<=18446744073709551615):WideAt.IsKeyLit (sy x):=keyed.key (yP hx)
theorem Met.made (w:World):Met (w.alloc (.map #[] 0)) w.heap.size []:=
 ⟨0,.map [],World.ownsMap_made _ _ _ _,Nat.le_refl _,fun x _=>by simp [DataW.atKey]⟩
theorem Met.lt {w:World} {B:Nat} {ms:List Nat} (h:Met w B ms):B<w.heap.size:=by obtain ⟨n,D,hm,r⟩:=h; exact hm.lt
theorem Met.only {S:Nat->Prop} {w w':World} {B:Nat} {ms:List Nat} (h:Met w B ms) (ho:ab S w w') (hn:¬S B):Met w' B ms:=by
 obtain ⟨n,D,hm,r⟩:=h
 have bn:=hm.lt
 obtain ⟨es,clock,hb,F,hs,hD⟩:=hm
 exact ⟨n,D,⟨es,clock,(ho.block B bn hn).trans hb,F,hs,hD⟩,r⟩
theorem Met.no {w:World} {B:Nat} {ms:List Nat} (h:Met w B ms) {ts:List TypeId} (ht:Ty w B ts):False:=by
 obtain ⟨n,D,hm,r⟩:=h
 obtain ⟨es,clock,hb,_⟩:=hm
 obtain ⟨t,cs,cN,_⟩:=ht
 have e:=hb.symm.trans cN
 injection e with e
 injection e
theorem Met.look {w:World} {B:Nat} {ms:List Nat} (h:Met w B ms) {x:Nat} (hx:x<=18446744073709551615):(Instr.lookup 202 (.map (some B)) (.int .u64 x) false).run Tryz.prog w=.ok (.bool (decide (x∈ms))) w:=by
 obtain ⟨n,D,hm,_,bO⟩:=h
 obtain ⟨v,ps,fK,hv⟩:=hm.lookup keyed Tryz.underlying202 (QX w) (plainElem_bool Tryz.underlying4 false) (yP hx)
 rw [fK]
 rw [bO x hx] at hv
 unfold plainElem at hv
 rw [Tryz.underlying4] at hv
 cases v<;>simp at hv
 rw [hv.1]
theorem HT {w:World} {B n:Nat} {D:DH} {ms:List Nat} {x:Nat} (hx:x<=18446744073709551615) {w0:World} {n0:Nat} (pQ:w0.ownsMap Tryz.prog 40 (plainElem Tryz.prog 4) B n0 D) (hm:w.ownsMap Tryz.prog 40 (plainElem Tryz.prog 4) B (n+1) (D.put (sy x) (ud true))) (hn:n<=ms.length) (bO:∀ x,x<=18446744073709551615->D.atKey (sy x) (ud false)=ud (decide (x∈ms))):Met w B (x::ms):=by
 have hD:Maps.IsMap D:=by obtain ⟨es,clock,_,_,_,hD⟩:=pQ; exact ⟨_,hD⟩
 refine ⟨n+1,_,hm,by simp; omega,fun y hy=>?_⟩
 by_cases e:y=x
 ·subst e
  rw [Maps.atKey_put_same hD (QZ hx)]
  simp
 ·have aH:sy y≠sy x:=fun h=>by
   injection h with _ h
   exact e (by omega)
  rw [Maps.atKey_put_other aH,bO y hy]
  simp [e]
theorem Q0 {w:World} {ops:Array Oper} {rest:List Oper} {o:Oper} {a:Act} {Q:Exit->Act->World->Prop} (pV:o.guard=none) (m x v:Operand)
 (wW:o.op=Op.mapUpdate 202 m x v) (B:Nat) (ms:List Nat) (h:Met w B ms) (hl:ms.length<=1000000) (y:Nat) (hy:y<=18446744073709551615)
 (hm:a.eval m=.map (some B)) (hx:a.eval x=.int .u64 y) (hv:a.eval v=.bool true)
 (hK:∀ w',Met w' B (y::ms)->ab (·=B) w w'->wpList Tryz.prog ops Q rest (a.put o.dst undef) w'):wpList Tryz.prog ops Q (o::rest) a w:=by
 obtain ⟨n,D,hM,hn,bO⟩:=h
 refine wpList_mapUpdate_own w pV m x v 202 wW 40 4 keyed Tryz.underlying202 _ B n D hm hM (by unfold maxLen; omega) _ _ _ hx hv (yP hy) (ud true) [] (plainElem_bool Tryz.underlying4 true) ?_
 intro w' ke hg
 exact hK w' (HT hy hM ke hn bO) ((ab.refl (·=B) w).grown hg (fun z hz=>.inl (by injection hz with hz; exact hz.symm)))
/-! ### follow-/
def HU (w wr:World) (M:Mo) (B:Nat) (A0:Option Addr) (all ms t:List Nat) (v hv:Value):Prop:=
 ∃ (A:Option Addr) (cap:Nat) (out:List Nat) (x:Nat) (rest:List Nat),v=.slice A (all.length+out.length) cap/\hv=.int .u64 x/\pJ wr A cap (all++out)/\Met wr B (out.reverse++ms)/\
   t=out++rest/\Ch M.ss (out.reverse++ms) x rest/\ab (fun x=>x=B\/In A0 x) w wr/\(∀ x,In A x->In A0 x\/w.heap.size<=x)/\x<=18446744073709551615
def Followed (w:World) (B:Nat) (A0:Option Addr) (all ms t:List Nat) (e:Ending) (w':World):Prop:=
 ∃ A cap,e=.returned (.slice A (all.length+t.length) cap)/\pJ w' A cap (all++t)/\Met w' B (t.reverse++ms)/\ab (fun x=>x=B\/In A0 x) w w'/\∀ x,In A x->In A0 x\/w.heap.size<=x
set_option maxHeartbeats 4000000 in
theorem Q1 {w:World} {M:Mo} (h:ah w M) (hN:fo M.ss) (hl:M.ss.length<=1024) (c:Nat) (hc:c<M.xs.length) (A0:Option Addr) (cap0:Nat) (all:List Nat) (hA:pJ w A0 cap0 all) (fZ:all.length<=100000)
 (B:Nat) (ms:List Nat) (hM:Met w B ms) (Xt:ms.length<=100000) (dF:∀ x,In A0 x->¬ao M x) (t:List Nat) (ht:Ch M.ss ms (Cl.nth M.xs c).toNat t):
 Calls Tryz.prog 117 #[ptr M.m,.slice A0 all.length cap0,.int .i64 c,.map (some B)] w (Followed w B A0 all ms t):=by
 have iy:=Cl.eX h.2.1.2.2.1 c
 have hL:=Cl.mM h.2.1 c hc
 obtain ⟨x0,lT⟩:=Int.eq_ofNat_of_zero_le iy.1
 rw [lT] at hL iy ht
 rw [Int.toNat_natCast] at ht
 replace hL:=Lib.hid hL
 have eE:=h.hd.1
 have Xu:=HV hl ht
 have H:=Lib.hid h
 have H0:=Lib.hid (show HU w w M B A0 all ms t (.slice A0 all.length cap0) (.int .u64 x0) from ⟨A0,cap0,[],x0,t,rfl,rfl,by simpa using hA,by simpa using hM,rfl,by simpa using ht,ab.refl _ _,fun x hx=>.inl hx,by omega⟩)
 replace dF:=Lib.hid dF
 replace hN:=Lib.hid hN
 have Kz:=Lib.hid (fun x (hx:ao M x) (e:x=B)=>hM.no (by rw [<-e]; exact h.ty hx))
 have Xv:=Lib.hid (fun (hx:In A0 B)=>hM.no (b9 hA hx))
 clear h hA hM ht lT iy hc
 obtain ⟨i0,cW,cQ,cT,dh⟩:=info_parts CD
 generalize np:all.length=al at*
 replace np:=Lib.hid np
 go_enter Tryz.func117,Tryz.ntmps117
 go_wp2_with (go_at_call 90; refine hL.out.mono ?_; rintro e w' ⟨rfl,hw⟩; obtain rfl:w=w':=hw.symm)
 clear hL eE
 go_loopw [1,11] (fun v hv wr=>HU w wr M B A0 all ms t v hv) (fun v _ _=>(match v with | .slice _ n _=>al+t.length-n | _=>0))
 case atStart=>exact H0.out
 case round=>
  obtain ⟨A,cap,out,x,rest,rfl,rfl,hA,hM,oa,dC,hO,dt,hx⟩:=hrel
  clear H0
  have mG:=H.out.only hO (fun y hy q=>by
   rcases q with q | q
   ·exact Kz.out y hy q
   ·exact dF.out y q hy)
  have m2:=mG.hd.2.2.1
  have cw:=hM.look hx
  have aE:out.length<=1024:=by have:t.length=out.length+rest.length:=by rw [oa,List.length_append]
                               omega
  replace hA:=Lib.hid hA
  replace hM:=Lib.hid hM
  replace hO:=Lib.hid hO
  replace dt:=Lib.hid dt
  replace mG:=Lib.hid mG
  rw [np.out]
  cases dC with
  | stop hs=>
    rcases E4 M.ss x with ⟨k,hk⟩ | ⟨cd,KA⟩
    ·have xI:=Lib.hid (E6 mG.out.2.2.2.1 hx hk)
     have qm:decide (x∈out.reverse++ms)=true:=by
      rcases hs with q | q
      ·exact absurd hk (q k)
      ·simpa using q
     rw [qm] at cw
     replace oa:=Lib.hid oa
     clear hs qm hk
     go_wp2_with (go_at_call 155; refine xI.out.mono ?_; rintro e w' ⟨rfl,rfl⟩)
     go_ret
     have e1:=oa.out
     rw [List.append_nil] at e1
     subst e1
     exact ⟨A,cap,by rw [np.out]; rfl,hA.out,hM.out,hO.out,dt.out⟩
    ·have xI:=Lib.hid (Lt mG.out.2.2.2.1 hx KA)
     replace oa:=Lib.hid oa
     clear hs KA cw
     go_wp2_with (go_at_call 155; refine xI.out.mono ?_; rintro e w' ⟨rfl,rfl⟩)
     go_ret
     have e1:=oa.out
     rw [List.append_nil] at e1
     subst e1
     exact ⟨A,cap,by rw [np.out]; rfl,hA.out,hM.out,hO.out,dt.out⟩
  | @go _ _ k t' hk qQ hr=>
    have xI:=Lib.hid (E6 mG.out.2.2.2.1 hx hk)
    have qm:decide (x∈out.reverse++ms)=false:=by simpa using qQ
    rw [qm] at cw
    replace oa:=Lib.hid oa
    replace hr:=Lib.hid hr
    replace hk:=Lib.hid hk
    clear qm qQ
    go_wp2_with (first
     | (go_at_call 155; refine xI.out.mono ?_; rintro e w' ⟨rfl,rfl⟩)
     | (at_mapUpdate
        refine Q0 rfl _ _ _ rfl B (out.reverse++ms) hM.out (by simp; omega) x hx rfl rfl rfl ?_
        intro w1 av aw
        have We:=Lib.hid (mG.out.only aw (fun y hy q=>Kz.out y hy q))
        have da:=Lib.hid (hA.out.only aw (fun y hy q=>by
         subst q
         exact hM.out.no (b9 hA.out hy)))
        replace av:=Lib.hid av
        replace aw:=Lib.hid aw
        clear m2 cw)
     | (at_builtin
        refine se w1 rfl (.tmp 38) (.tmp 40) 61 rfl 40 i0 (.int .u64 0) 1 8 Tryz.underlying61 cW cQ cT dh rfl (by omega) bB (fun _=>rfl) (by intro x u hu; simp [bB] at hu; subst hu; rfl)
         A cap (al+out.length) (all++out) (by rw [List.length_append,np.out]) x #[.int .u64 x] rfl rfl da.out rfl (by simp only [maxLen]; omega) (by omega) ?_
        intro A2 cap2 w2 cy ae bH
        have aW:∀ y,In A y->ao M y->False:=fun y hy hm=>by
         have h1:=H.out.lt hm
         rcases dt.out y hy with q | q
         ·exact dF.out y q hm
         ·omega
        have uX:=We.out.only ae (fun y hm hy=>aW y hy hm)
        have aB:=Lib.hid (av.out.only ae (fun hy=>av.out.no (b9 da.out hy)))
        have m2:=uX.hd.2.2.1
        have j9:=xW uX.2.2.2.1 hx hk.out
        obtain ⟨e1,e2⟩:=hN.out.at k
        have kf:=Lib.hid ((hO.out.trans' aw.out (fun y _ q=>.inl q)).trans' (S:=fun x=>x=B\/In A0 x) ae (fun y hy q=>by
         rcases dt.out y q with q | q
         ·exact .inr q
         ·omega))
        generalize (ai M.ss k).nd=dd at*
        obtain ⟨ky,vl,sm,nxt⟩:=dd
        simp only at e1
        subst e1
        generalize nx M.ss k=nk at*
        unfold dV at j9
        replace j9:=Lib.hid j9
        replace uX:=Lib.hid uX
        replace cy:=Lib.hid cy
        replace bH:=Lib.hid (fun y (hy:In A2 y)=>show In A0 y\/w.heap.size<=y from by
         rcases bH y hy with q | q
         ·exact dt.out y q
         ·exact .inr (Nat.le_trans (hO.out.trans' aw.out (fun y _ q=>.inl q)).size q))
        clear aW ae)
     | (go_at_call 156
        refine j9.out.mono ?_
        rintro e w3 ⟨rfl,ay⟩
        replace ay:=Lib.hid ay
        clear m2))
    go_roundw
    case rel=>
     have KB:=(ab.refl (fun _=>False) w2).below ay.out
     refine ⟨A2,cap2,out++[x],nk,t',by rw [np.out,List.length_append]; rfl,rfl,?_,?_,by rw [List.append_assoc]; exact oa.out,by simpa using hr.out,?_,bH.out,e2⟩
     ·rw [<-List.append_assoc]
      exact cy.out.only (KB.alloc _) (by simp)
     ·have:(out++[x]).reverse++ms=x::(out.reverse++ms):=by simp
      rw [this]
      exact aB.out.only (KB.alloc _) (by simp)
     ·exact (kf.out.below ay.out).alloc _
    case measure=>
     have:=oa.out
     have h1:t.length=out.length+(t'.length+1):=by rw [this]; simp
     simp
     omega
end Go.Proofs.YtpanebgakndddaaGreat.Me
namespace Go.Proofs.YtpanebgakndddaaGreat.Me
open Go Go.RowKit Hp K Fl Rw Hm Ar Mm
set_option maxRecDepth 100000
def first (xs:List Int) (ds:List (Nat×Nat)) (b:Nat):Nat:=(Cl.nth xs ((now xs ds).2+b)).toNat
def CF (xs:List Int) (ds:List (Nat×Nat)) (ss:List Sl) (t:List Nat):Prop:=Rh ss (first xs ds) (now xs ds).1 t
def Rl (w:World) (ty:TypeId) (t:List Nat) (e:Ending) (w':World):Prop:=
 ∃ A cap,e=.returned (.slice A t.length cap)/\Row w' ty 1 bB A cap t/\Below w.heap.size w w'/\∀ x,In A x->w.heap.size<=x
section
variable {w:World} {M:Mo}
def H6 (w wr:World) (M:Mo) (B q:Nat) (d:Nat×Nat) (f:Nat->Nat) (v:Value) (b:Nat):Prop:=
 ∃ (A:Option Addr) (cap:Nat) (all ms:List Nat),v=.slice A all.length cap/\Rh M.ss f b all/\pJ wr A cap all/\Met wr B ms/\(∀ x,x∈all↔x∈ms)/\ms.length<=all.length/\
   ah wr M/\af wr q 141 #[.int .i64 d.1,.int .i64 d.2]/\Below w.heap.size w wr/\(∀ x,In A x->w.heap.size<=x)/\w.heap.size<=B
set_option maxHeartbeats 1000000 in
theorem Rm (h:ah w M) (hT:l7 M.xs M.ds) (hx:1<M.xs.length) (hN:fo M.ss) (hl:M.ss.length<=1024) (t:List Nat) (ht:CF M.xs M.ds M.ss t):
 Calls Tryz.prog 87 #[ptr M.m] w (Rl w 40 t):=by
 have xJ:=py h hx
 have tp:=hT.now
 have H:=Lib.hid h
 have bz:=h.2.1.2.2.2
 unfold CF at ht
 obtain ⟨⟨d1,d2⟩,hd⟩:∃ d,now M.xs M.ds=d:=⟨_,rfl⟩
 have KF:first M.xs M.ds=fun b=>(Cl.nth M.xs (d2+b)).toNat:=by unfold first; rw [hd]
 rw [hd] at xJ tp
 rw [hd,KF] at ht
 simp only at ht tp
 clear KF hd h
 unfold dv at xJ
 replace xJ:=Lib.hid xJ
 have hF:Hid (∀ w2 A cap all B ms u k,k<d1->ah w2 M->pJ w2 A cap all->all.length<=1024->Met w2 B ms->ms.length<=1024->(∀ x,In A x->¬ao M x)->Ch M.ss ms (Cl.nth M.xs (d2+k)).toNat u->Calls Tryz.prog 117 #[ptr M.m,.slice A all.length cap,.int .i64 ((d2:Int)+(k:Int)),.map (some B)] w2 (Followed w2 B A all ms u)):=Lib.hid fun w2 A cap all B ms u k hk h2 ha np hm ry dF hu=>by
  have rn:=tp.2.1 (by omega)
  have:=Q1 h2 hN hl (d2+k) (by omega) A cap all ha (by omega) B ms hm (by omega) dF u hu
  rw [Int.natCast_add] at this
  exact this
 clear hT hN hx
 have Xw:=tp.1
 have Xx:=tp.2.2
 replace tp:=Lib.hid tp
 replace ht:=Lib.hid ht
 have uE:=@run_makeMap Tryz.prog
 go_enter Tryz.func87,Tryz.ntmps87
 go_wp2_with (go_at_call 64; refine xJ.out.mono ?_; rintro e w1 ⟨rfl,aJ⟩
              have av:=Lib.hid (H.out.below aJ)
              replace aJ:=Lib.hid aJ)
 have H0:=Lib.hid (show H6 w ((w1.alloc (.cells #[.int .i64 d1,.int .i64 d2] 141)).alloc (.map #[] 0)) M (w1.heap.size+1) w1.heap.size (d1,d2) (fun b=>(Cl.nth M.xs (d2+b)).toNat) (.slice none 0 0) 0 from by
  have hs:=aJ.out.size
  refine ⟨none,0,[],[],rfl,.zero,Row.nil _ _ _ _,?_,by simp,by simp,(av.out.alloc _).alloc _,(af.made w1 _ _).alloc _,?_,by simp [In],by omega⟩
  ·have:=Met.made (w1.alloc (.cells #[.int .i64 d1,.int .i64 d2] 141))
   simpa using this
  ·exact (aJ.out.alloc hs _).alloc (by simp; omega) _)
 go_wp2_with fail
 clear uE
 go_loopw [4,12] (fun v i wr=>∃ b:Nat,b<=d1/\i=.int .i64 b/\H6 w wr M (w1.heap.size+1) w1.heap.size (d1,d2) (fun b=>(Cl.nth M.xs (d2+b)).toNat) v b) (fun _ i _=>d1-(intOf i).toNat)
 case atStart=>exact ⟨0,Nat.zero_le _,rfl,H0.out⟩
 case round=>
  obtain ⟨b,hb,rfl,A,cap,all,ms,rfl,hR,hA,hM,xK,ry,mG,hQ,hB,dt,Wh⟩:=hrel
  clear H0
  have Xy:=Rj hl hR
  by_cases bn:b<d1
  ·obtain ⟨u,hu⟩:=Q7 M.ss hl all (Cl.nth M.xs (d2+b)).toNat
   have Wi:=Lib.hid (hF.out wr A cap all (w1.heap.size+1) ms u b bn mG hA (by omega) hM (by omega) (fun x hx hm=>by
    have h1:=dt x hx
    have h2:=H.out.lt hm
    omega) (Q8 hu ms xK))
   have c0:=hQ.cell 0
   have c1:=hQ.cell 1
   simp at c0 c1
   replace hA:=Lib.hid hA
   replace hM:=Lib.hid hM
   replace mG:=Lib.hid mG
   replace hQ:=Lib.hid hQ
   replace hB:=Lib.hid hB
   replace dt:=Lib.hid dt
   have Wj:=Lib.hid (Rh.succ hR hu)
   have Xz:=HV hl hu
   replace xK:=Lib.hid xK
   clear hu hR
   generalize np:all.length=al at*
   replace np:=Lib.hid np
   go_wp2_with (go_at_call 117
                refine Wi.out.mono ?_
                rintro e w2 ⟨A2,cap2,rfl,bH,aB,ae,KG⟩
                have Wl:=Lib.hid (fun y (hy:In A2 y)=>show w.heap.size<=y from by
                 rcases KG y hy with q | q
                 ·exact dt.out y q
                 ·have:=hB.out.size
                  omega)
                have uX:=Lib.hid (mG.out.only ae (fun y hm q=>by
                 have h2:=H.out.lt hm
                 rcases q with q | q
                 ·omega
                 ·have:=dt.out y q
                  omega))
                have zB:=Lib.hid (hQ.out.only ae (fun q=>by
                 rcases q with q | q
                 ·omega
                 ·exact (b9 hA.out q).apart (aV hQ.out) (by decide)))
                have ag:=Lib.hid (hB.out.trans (ae.toBelow hB.out.size (fun y hy q=>by
                 rcases q with q | q
                 ·omega
                 ·have:=dt.out y q
                  omega)))
                replace bH:=Lib.hid bH
                replace aB:=Lib.hid aB
                clear ae KG c0 c1)
   go_roundw
   case rel=>
    refine ⟨b+1,by omega,by go_num,A2,cap2,all++u,u.reverse++ms,by rw [List.length_append],Wj.out,bH.out,aB.out,fun x=>?_,?_,uX.out,zB.out,ag.out,Wl.out,Wh⟩
    ·have:=xK.out x
     simp [this,or_comm]
    ·have:=np.out
     simp
     omega
   case measure=>simp [intOf]; omega
  ·obtain rfl:b=d1:=by omega
   obtain rfl:=Rf hl ht.out _ hR
   have c0:=hQ.cell 0
   simp at c0
   replace hA:=Lib.hid hA
   replace hB:=Lib.hid hB
   replace dt:=Lib.hid dt
   clear hM mG xK hR hQ
   go_wp2_with fail
   go_ret
   exact ⟨A,cap,rfl,hA.out,hB.out,dt.out⟩
end
end Go.Proofs.YtpanebgakndddaaGreat.Me
namespace Go.Proofs.YtpanebgakndddaaGreat.Mq
open Go Hm Ar Mm Wk Pc Me
abbrev Hp:=Nat×Pr
abbrev aL (q:List Hp):List Nat:=q.map (·.1)
abbrev bp (q:List Hp):List Pr:=q.map (·.2)
abbrev dO (q:List Hp):List ByteArray:=q.map (·.2.1)
inductive Cx (ss:List Sl):Nat->List Hp->Prop
 | nil:Cx ss 0 []
 | cons {x k z:Nat} {p:Pr} {t:List Hp}:aY ss x k->(ai ss k).nd=dP p z->Cx ss z t->Cx ss x ((x,p)::t)
section
variable {ss ss':List Sl} {x:Nat} {q:List Hp}
theorem Cx.cn (h:Cx ss x q):Cn ss x (bp q):=by
 induction h with
 | nil=>exact .nil
 | cons a b _ ih=>exact .cons a b ih
theorem Cx.pos (h:Cx ss x q):x=0↔q=[]:=by
 cases h with
 | nil=>simp
 | cons a b c=>simp [a.pos]
theorem Cx.ch (h:Cx ss x q):∀ met,(∀ y∈aL q,y∉met)->(aL q).Nodup->Ch ss met x (aL q):=by
 induction h with
 | nil=>intro met _ _; exact .stop (.inl fun k hk=>hk.pos rfl)
 | @cons x k z p t a b c ih=>
   intro met hm hn
   have gK:x∉aL t/\(aL t).Nodup:=List.nodup_cons.1 hn
   refine .go a (hm x (by simp)) ?_
   have e:nx ss k=z:=by unfold nx; rw [b]; rfl
   rw [e]
   refine ih (x::met) (fun y hy q=>?_) gK.2
   rcases List.mem_cons.1 q with rfl | q
   ·exact gK.1 hy
   ·exact hm y (List.mem_cons_of_mem _ hy) q
theorem Cx.at (h:Cx ss x q):∀ e∈q,∃ k z,aY ss e.1 k/\(ai ss k).nd=dP e.2 z:=by
 induction h with
 | nil=>simp
 | @cons x k z p t a b c ih=>
   intro e he
   rcases List.mem_cons.1 he with rfl | he
   ·exact ⟨k,z,a,b⟩
   ·exact ih e he
theorem Cx.kD (h:Cx ss x q):(∀ y∈aL q,∀ k,aY ss y k->aY ss' y k/\(ai ss' k).nd=(ai ss k).nd)->Cx ss' x q:=by
 induction h with
 | nil=>intro _; exact .nil
 | @cons x k z p t a b c ih=>
   intro hk
   have:=hk x (by simp) k a
   exact .cons this.1 (this.2.trans b) (ih fun y hy=>hk y (List.mem_cons_of_mem _ hy))
theorem Cx.tail {p:Pr} {t:List Hp} (h:Cx ss x ((x,p)::t)):∃ k z,aY ss x k/\(ai ss k).nd=dP p z/\Cx ss z t:=by
 cases h with
 | cons a b c=>exact ⟨_,_,a,b,c⟩
theorem Cx.head {e:Hp} {t:List Hp} (h:Cx ss x (e::t)):x=e.1:=by
 cases h with
 | cons a b c=>rfl
def v5 (pre:List Hp):Nat:=(aL pre).getLastD 0
theorem v7 (pre:List Hp) (e:Hp):v5 (pre++[e])=e.1:=by simp [v5]
theorem HL {pre:List Hp} (h:Cx ss x (pre++q)) (hp:pre≠[]):v5 pre≠0:=by
 obtain ⟨p0,e,rfl⟩:∃ p0 e,pre=p0++[e]:=⟨pre.dropLast,pre.getLast hp,(List.dropLast_concat_getLast hp).symm⟩
 rw [v7]
 obtain ⟨k,z,hk,_⟩:=h.at e (by simp)
 exact hk.pos
theorem Cx.swap {m h kp z:Nat} {e e':Hp} {pr:Pr} {t:List Hp} (hh:aY ss' h m) (bB:(ai ss' m).nd=dP pr z) (ht:Cx ss' z t):∀ (pre:List Hp) (x:Nat),Cx ss x (pre++e::e'::t)->
 aY ss e.1 kp->aY ss' e.1 kp->(ai ss' kp).nd=dP e.2 h->(∀ y∈aL pre,∀ k,aY ss y k->aY ss' y k/\(ai ss' k).nd=(ai ss k).nd)->Cx ss' x (pre++e::(h,pr)::t):=by
 intro pre
 induction pre with
 | nil=>
   intro x hc h1 h2 h3 _
   cases hc with
   | cons a b c=>exact .cons h2 h3 (.cons hh bB ht)
 | cons e0 r ih=>
   intro x hc h1 h2 h3 hk
   cases hc with
   | @cons _ k z0 p _ a b c=>
     have:=hk x (by simp) k a
     exact .cons this.1 (this.2.trans b) (ih _ c h1 h2 h3 fun y hy=>hk y (List.mem_cons_of_mem _ hy))
end
/-! ### what is found-/
theorem nz {q:List Pr} {key:ByteArray}:lk q key=none↔key∉q.map (·.1):=by
 induction q with
 | nil=>simp [lk]
 | cons p t ih=>
   unfold lk
   by_cases h:p.1=key
   ·rw [if_pos h]; simp [h]
   ·rw [if_neg h,ih]
    simp [show ¬key=p.1 from fun e=>h e.symm]
theorem vp {q:List Pr} {p:Pr} (hn:(q.map (·.1)).Nodup) (hp:p∈q):lk q p.1=some p.2:=by
 induction q with
 | nil=>simp at hp
 | cons a t ih=>
   have gK:a.1∉t.map (·.1)/\(t.map (·.1)).Nodup:=List.nodup_cons.1 hn
   unfold lk
   rcases List.mem_cons.1 hp with rfl | hp
   ·rw [if_pos rfl]
   ·rw [if_neg (fun e=>gK.1 (by rw [e]; exact List.mem_map_of_mem hp)),ih gK.2 hp]
theorem QQ {q:List Pr} {key v:ByteArray} (h:lk q key=some v):(key,v)∈q:=by
 induction q with
 | nil=>simp [lk] at h
 | cons a t ih=>
   unfold lk at h
   split at h
   ·rename_i e
    injection h with h
    subst h; subst e
    exact List.mem_cons_self
   ·exact List.mem_cons_of_mem _ (ih h)
theorem HN {q q':List Pr} (hn:(q.map (·.1)).Nodup) (hp:q.Perm q') (key:ByteArray):lk q key=lk q' key:=by
 have gK:(q'.map (·.1)).Nodup:=(hp.map _).nodup_iff.1 hn
 cases h:lk q key with
 | none=>
   rw [nz] at h
   exact ((nz.2 fun e=>h ((hp.map _).mem_iff.2 e))).symm
 | some v=>
   have:=hp.mem_iff.1 (QQ h)
   exact (vp gK this).symm
structure tM (l l':List Pr) (key val:ByteArray):Prop where
 nd:(l'.map (·.1)).Nodup
 lk:∀ k,Pc.lk l' k=if k=key then some val else Pc.lk l k
 len:l'.length=if (Pc.lk l key).isSome then l.length else l.length+1
theorem vq {l:List Pr} (hn:(l.map (·.1)).Nodup) (key:ByteArray):(l.filter fun p=>decide (p.1≠key)).length+(if (Pc.lk l key).isSome then 1 else 0)=l.length:=by
 induction l with
 | nil=>simp [lk]
 | cons p t ih=>
   have gK:p.1∉t.map (·.1)/\(t.map (·.1)).Nodup:=List.nodup_cons.1 hn
   have:=ih gK.2
   by_cases h:p.1=key
   ·have h0:lk t key=none:=nz.2 (by rw [<-h]; exact gK.1)
    rw [h0] at this
    simp only [Option.isSome_none,Bool.false_eq_true,if_false,Nat.add_zero] at this
    simp only [List.filter_cons,h,ne_eq,not_true_eq_false,decide_false,Bool.false_eq_true,if_false,lk,if_true,Option.isSome_some,List.length_cons]
    simp only [ne_eq] at this
    omega
   ·simp only [List.filter_cons,h,ne_eq,not_false_eq_true,decide_true,if_true,lk,if_false,List.length_cons]
    simp only [ne_eq] at this
    omega
theorem x9 (l:List Pr) (key k:ByteArray):lk (l.filter fun p=>decide (p.1≠key)) k=if k=key then none else lk l k:=by
 induction l with
 | nil=>simp [lk]
 | cons p t ih=>
   by_cases h:p.1=key
   ·rw [List.filter_cons,if_neg (by simp [h]),ih]
    split
    ·rfl
    ·rename_i hk
     conv=>rhs; unfold lk
     rw [if_neg (fun e=>hk (by rw [<-e,h]))]
   ·rw [List.filter_cons,if_pos (by simp [h])]
    unfold lk
    split
    ·rename_i e
     rw [if_neg (fun q=>h (by rw [e,q]))]
    ·exact ih
theorem FC {l l':List Pr} {key val:ByteArray} (hn:(l.map (·.1)).Nodup) (hp:l'.Perm ((key,val)::l.filter fun p=>decide (p.1≠key))):tM l l' key val:=by
 have hf:((((key,val)::l.filter fun p=>decide (p.1≠key)):List Pr).map (·.1)).Nodup:=by
  rw [List.map_cons,List.nodup_cons]
  refine ⟨fun q=>?_,(List.filter_sublist.map _).nodup hn⟩
  obtain ⟨p,hp,e⟩:=List.mem_map.1 q
  have:=(List.mem_filter.1 hp).2
  simp [e] at this
 have gK:(l'.map (·.1)).Nodup:=(hp.map _).nodup_iff.2 hf
 refine ⟨gK,fun k=>?_,?_⟩
 ·rw [HN gK hp]
  unfold lk
  by_cases e:key=k
  ·rw [if_pos e,if_pos e.symm]
  ·rw [if_neg e,if_neg (fun q=>e q.symm),x9,if_neg (fun q=>e q.symm)]
   cases l<;>rfl
 ·rw [hp.length_eq,List.length_cons]
  have:=vq hn key
  split
  ·rename_i e; rw [if_pos e] at this; omega
  ·rename_i e; rw [if_neg e] at this; omega
def aj (key:ByteArray) (n:Nat):Nat:=(FM.bucket (sm key) n).toNat
theorem dI {n:Nat} (hp:FM.bo n=true) (key:ByteArray):aj key n<n/\FM.bucket (sm key) n=(aj key n:Nat):=by
 have:=HO hp (sm key) (oD key).1
 unfold aj
 omega
end Go.Proofs.YtpanebgakndddaaGreat.Mq
namespace Go.Proofs.YtpanebgakndddaaGreat.Pu
open Go Go.RowKit Hp K Fl Rw Hm Ar Mm Me Wk Ta Pn Pc Mq
set_option maxRecDepth 100000
section
variable {xs:List Int} {ds:List (Nat×Nat)} {s:List Int×Ho}
theorem IK (h:s.2.nx=1):dw xs ds s=(s.1,{s.2 with nx:=2,num:=(Cl.nth xs 1).toNat}):=by unfold dw; rw [if_pos h]
theorem IL (h:s.2.nx=2):dw xs ds s=(s.1.set (fB s.2.sum (aN ds s.2.num)) s.2.worker,{s.2 with nx:=3,d:=aN ds s.2.num,lock:=fB s.2.sum (aN ds s.2.num)}):=by unfold dw; rw [if_neg (by omega),if_pos h]
theorem TO (h:s.2.nx=3) (he:Cl.nth xs 1=s.2.num):dw xs ds s=(s.1,{s.2 with nx:=5,holds:=true}):=by unfold dw; rw [if_neg (by omega),if_neg (by omega),if_pos h,if_pos he]
end
section
variable {L:Lm} {S:Sk}
theorem C3 (h:S.ph=1):aG L S=({L with hs:=(dw L.xs L.ds (L.hs,S.H)).1},if iK L.xs (L.hs,S.H)=true then {S with H:=(dw L.xs L.ds (L.hs,S.H)).2,cell:=oM S.sum (dw L.xs L.ds (L.hs,S.H)).2,W:=new 0 (oM S.sum (dw L.xs L.ds (L.hs,S.H)).2) S.sum S.key,ph:=2} else {S with H:=(dw L.xs L.ds (L.hs,S.H)).2}):=by
 unfold aG; rw [if_pos h]
theorem IM (h:S.ph=2):aG L S=({L with F:=(Wk.aF L.xs L.ss (L.F,S.W)).1},{S with W:=(Wk.aF L.xs L.ss (L.F,S.W)).2}):=by
 unfold aG; rw [if_neg (by omega)]
theorem C4 (h:S.ph=1):bY L S=false:=by unfold bY; rw [if_pos h]
theorem IN (h:S.ph=2):bY L S=Wk.ck L.xs L.ss (L.F,S.W):=by unfold bY; rw [if_neg (by omega)]
theorem IP (h:S.ph≠1):eL L S=true:=by unfold eL; rw [if_neg h]
end
structure Ep where
 L:Lm
 key:ByteArray
 val:ByteArray
 i:Int
 h:Nat
 d:Nat×Nat
 c:Nat
 q:List Mq.Hp
abbrev Ep.word (E:Ep):Nat:=(Cl.nth E.L.xs E.c).toNat
abbrev Ep.lock (E:Ep):Nat:=fB (sm E.key) E.d
abbrev Ep.num (E:Ep):Nat:=(Cl.nth E.L.xs 1).toNat
abbrev Ep.hs (E:Ep):List Int:=E.L.hs.set E.lock E.i
structure Ep.Ok (E:Ep):Prop where
 len:E.L.ss.length<=1024
 cU:fo E.L.ss
 tb:∀ i,(aN E.L.ds i).1<=65536/\(aN E.L.ds i).2<=4000000
 wk:0<=E.i/\E.i<=1000
 xb:∀ x∈E.L.xs,0<=x/\x<=18446744073709551615
 hs:E.L.hs=List.replicate 6 (-1)
 now:Me.now E.L.xs E.L.ds=E.d
 d0:E.d.1≠0
 cell:(E.c:Int)=E.d.2+FM.bucket (sm E.key) E.d.1
 cx:E.c<E.L.xs.length
 x1:1<E.L.xs.length
 ch:Cx E.L.ss E.word E.q
 gen:∀ k,(ai E.L.ss k).gen<=1000000
 ws:E.L.ws.length<=1000000
 ql:E.q.length<=1024
abbrev Ep.H (E:Ep):Ho:=⟨E.h,E.i,sm E.key,5,E.num,E.d,E.lock,true⟩
def fI (E:Ep) (W:Wa):Prop:=(W.found=0/\E.key∉dO E.q/\W.first=E.word)\/
 ∃ (pre:List Mq.Hp) (x:Nat) (p:Pr) (t:List Mq.Hp) (z k:Nat),E.q=pre++(x,p)::t/\p.1=E.key/\W.found=x/\aY E.L.ss x k/\(ai E.L.ss k).nd=dP p z/\W.nd=dP p z/\Cx E.L.ss z t/\W.prev=v5 pre
abbrev Ep.s (E:Ep) (H:Ho) (W:Wa):Sk:=⟨E.key,sm E.key,2,H,E.c,W⟩
abbrev Ep.n (E:Ep) (H:Ho):Sk:={ju E.h E.i (sm E.key) E.key with H:=H}
inductive Rs (E:Ep):Nat->Lm×Sk->Prop
 | a1:Rs E (4+E.q.length) (E.L,ju E.h E.i (sm E.key) E.key)
 | a2:Rs E (3+E.q.length) (E.L,E.n ⟨E.h,E.i,sm E.key,2,E.num,(0,0),0,false⟩)
 | a3:Rs E (2+E.q.length) ({E.L with hs:=E.hs},E.n ⟨E.h,E.i,sm E.key,3,E.num,E.d,E.lock,false⟩)
 | w1:Rs E (1+E.q.length) ({E.L with hs:=E.hs},E.s E.H (Wk.new 0 E.c (sm E.key) E.key))
 | w2 (pre rest:List Mq.Hp) (W:Wa):E.q=pre++rest->rest≠[]->W.nx=2->Cx E.L.ss W.at_ rest->W.key=E.key->W.sum=sm E.key->W.first=E.word->W.prev=v5 pre->W.found=0->W.read=pre.length->W.cell=E.c->E.key∉dO pre->W.at_<=18446744073709551615->W.nd=.zero->
    Rs E rest.length ({E.L with hs:=E.hs},E.s E.H W)
section
variable {E:Ep} {k:Nat} {s:Lm×Sk}
theorem Ep.Ok.lk (hE:E.Ok):E.lock<6:=by
 have:=wm E.d (oD E.key).1
 show fB (sm E.key) E.d<6
 omega
theorem Ep.Ok.back (hE:E.Ok):E.hs.set E.lock (-1)=E.L.hs:=by
 show (E.L.hs.set E.lock E.i).set E.lock (-1)=_
 rw [List.set_set,hE.hs]
 apply List.ext_getElem
 ·simp
 ·intro i h1 h2
  rw [List.getElem_set,List.getElem_replicate]
  split<;>first | rfl | rw [List.getElem_replicate]
theorem Ep.Ok.aE (hE:E.Ok):Lo.aE E.hs E.lock=E.i:=by
 have:=hE.lk
 show Lo.aE (E.L.hs.set E.lock E.i) E.lock=_
 rw [qO (by rw [hE.hs]; simpa using this),if_pos rfl]
theorem Rs.pos (h:Rs E k s):1<=k:=by
 cases h with
 | w2 pre rest W h1 h2=>exact List.length_pos_iff.2 h2
 | _=>omega
theorem Ep.Ok.IQ (hE:E.Ok):ig E.L.xs E.L.ds (E.L.hs,⟨E.h,E.i,sm E.key,1,0,(0,0),0,false⟩):=by
 have hw:=hE.wk
 exact ⟨oD _,⟨hw.1,by show E.i<=_; omega⟩,by show 4<E.L.hs.length; rw [hE.hs]; simp,hE.x1,by simp,Cl.eX hE.xb 1,fun i=>(hE.tb i).1,by simp,by rintro (q | q | q)<;>simp at q,fun q=>by simp at q⟩
theorem Ep.Ok.IS (hE:E.Ok):ig E.L.xs E.L.ds (E.L.hs,⟨E.h,E.i,sm E.key,2,E.num,(0,0),0,false⟩):=by
 have:=hE.IQ.step (by unfold lC; rfl) (by unfold iK; simp)
 rw [IK rfl] at this
 exact this
theorem Ep.Ok.free (hE:E.Ok):lC E.L.ds (E.L.hs,⟨E.h,E.i,sm E.key,2,E.num,(0,0),0,false⟩)=true:=by
 have hn:aN E.L.ds E.num=E.d:=hE.now
 have hl:=hE.lk
 unfold lC
 rw [if_pos rfl]
 simp only [decide_eq_true_eq]
 rw [hn,hE.hs]
 unfold Lo.aE
 rw [List.getD_eq_getElem?_getD,List.getElem?_replicate]
 split<;>rfl
theorem Ep.Ok.TP (hE:E.Ok):ig E.L.xs E.L.ds (E.hs,⟨E.h,E.i,sm E.key,3,E.num,E.d,E.lock,false⟩):=by
 have:=hE.IS.step hE.free (by unfold iK; simp)
 rw [IL rfl] at this
 have hn:aN E.L.ds E.num=E.d:=hE.now
 simp only [hn] at this
 exact this
theorem Ep.Ok.ym (hE:E.Ok) {xs:List Int} {ds:List (Nat×Nat)} (hx:1<xs.length) (hd:ds=E.L.ds) (h1:0<=Cl.nth xs 1/\Cl.nth xs 1<=18446744073709551615):ig xs ds (E.hs,E.H):=by
 have hw:=hE.wk
 have hl:=hE.lk
 subst hd
 refine ⟨oD _,⟨hw.1,by show E.i<=_; omega⟩,by show 4<(E.L.hs.set E.lock E.i).length; rw [hE.hs]; simp,hx,?_,h1,fun i=>(hE.tb i).1,by simp,fun _=>⟨?_,hE.aE⟩,fun _=>by simp⟩
 ·have:=Cl.eX hE.xb 1
  show E.num<=_
  show (Cl.nth E.L.xs 1).toNat<=_
  omega
 ·show E.lock<(E.L.hs.set E.lock E.i).length
  rw [hE.hs]
  simpa using hl
theorem HS {ss:List Sl} (h:fo ss) (x y:Nat) (hy:y<=18446744073709551615):fo (aR ss x y):=by
 unfold aR
 by_cases hk:(x-1) % 65536<ss.length
 ·exact h.set hk _ ⟨by simp only; omega,by simp only; omega⟩
 ·rw [List.set_eq_of_length_le (by omega)]
  exact h
theorem Ep.Ok.word (hE:E.Ok):Wk.word E.L.xs E.c=E.word:=by
 have:=hE.cx
 unfold Wk.word
 rw [if_pos (by omega),Int.toNat_natCast]
theorem Ep.Ok.TQ (hE:E.Ok):E.word<=18446744073709551615:=by
 have:=Cl.eX hE.xb E.c
 show (Cl.nth E.L.xs E.c).toNat<=_
 omega
theorem TS (hE:E.Ok) {F:Bool}:Wk.aF E.L.xs E.L.ss (F,Wk.new 0 E.c (sm E.key) E.key)=(F,dy {Wk.new 0 E.c (sm E.key) E.key with first:=E.word} E.word)/\Wk.ck E.L.xs E.L.ss (F,Wk.new 0 E.c (sm E.key) E.key)=decide (E.word=0):=by
 have h:Wk.aF E.L.xs E.L.ss (F,Wk.new 0 E.c (sm E.key) E.key)=(F,dy {Wk.new 0 E.c (sm E.key) E.key with first:=E.word} E.word):=by
  unfold Wk.aF
  simp only
  rw [if_pos (show (Wk.new 0 (E.c:Int) (sm E.key) E.key).nx=1 from rfl),show (Wk.new 0 (E.c:Int) (sm E.key) E.key).cell=(E.c:Int) from rfl,hE.word]
 refine ⟨h,?_⟩
 unfold Wk.ck
 rw [h]
 exact yx _ _
theorem Rs.ok (hE:E.Ok) (h:Rs E k s):∃ r,qA r s.1 s.2:=by
 have kb:=oD E.key
 have iW:=qD (sm E.key) E.d.1 kb.1
 have J4:=(hE.tb E.num).2
 have hn:aN E.L.ds E.num=E.d:=hE.now
 rw [hn] at J4
 have hc:=hE.cell
 cases h with
 | a1=>exact ⟨0,kb,fun _=>hE.IQ,fun _=>by simp [ju],fun q=>absurd rfl q,hE.cU,hE.tb⟩
 | a2=>exact ⟨0,kb,fun _=>hE.IS,fun _=>by simp,fun q=>absurd rfl q,hE.cU,hE.tb⟩
 | a3=>exact ⟨0,kb,fun _=>hE.TP,fun _=>by rw [<-hE.now]; exact hE.tb _,fun q=>absurd rfl q,hE.cU,hE.tb⟩
 | w1=>exact ⟨0,kb,fun q=>by simp at q,fun q=>by simp at q,fun _=>⟨by simp [Wk.new]; omega,by simp [Wk.new],by simp [Wk.new],by simp [Wk.new]⟩,hE.cU,hE.tb⟩
 | w2 pre rest W h1 h2 h3 h4 h5 h6 h7 h8 h9 ng Az zU KW EH=>
   have zy:=hE.ql
   rw [h1,List.length_append] at zy
   exact ⟨0,kb,fun q=>by simp at q,fun q=>by simp at q,fun _=>⟨by simp only [Az]; omega,KW,by simp only [ng]; omega,by simp only [h3]; omega⟩,hE.cU,hE.tb⟩
theorem Rs.step (hE:E.Ok) (h:Rs E k s):eL s.1 s.2=true/\1<=k/\(bY s.1 s.2=true->∃ W,fI E W/\(W.found=0->W.nd=.zero)/\aG s.1 s.2=({E.L with hs:=E.hs},E.s E.H W))/\(bY s.1 s.2=false->∃ j,j<=k-1/\Rs E j (aG s.1 s.2)):=by
 have hn:aN E.L.ds E.num=E.d:=hE.now
 cases h with
 | a1=>
   refine ⟨rfl,by omega,fun q=>by rw [C4 rfl] at q; simp at q,fun _=>?_⟩
   have e:aG E.L (ju E.h E.i (sm E.key) E.key)=(E.L,E.n ⟨E.h,E.i,sm E.key,2,E.num,(0,0),0,false⟩):=by
    rw [C3 rfl]
    have e1:dw E.L.xs E.L.ds (E.L.hs,(ju E.h E.i (sm E.key) E.key).H)=(E.L.hs,⟨E.h,E.i,sm E.key,2,E.num,(0,0),0,false⟩):=IK rfl
    have e2:iK E.L.xs (E.L.hs,(ju E.h E.i (sm E.key) E.key).H)=false:=by unfold iK ju; simp
    rw [e1,e2]
    rfl
   rw [e]
   exact ⟨_,by omega,.a2⟩
 | a2=>
   refine ⟨hE.free,by omega,fun q=>by rw [C4 rfl] at q; simp at q,fun _=>?_⟩
   have e:aG E.L (E.n ⟨E.h,E.i,sm E.key,2,E.num,(0,0),0,false⟩)=({E.L with hs:=E.hs},E.n ⟨E.h,E.i,sm E.key,3,E.num,E.d,E.lock,false⟩):=by
    rw [C3 rfl]
    have e1:dw E.L.xs E.L.ds (E.L.hs,(⟨E.h,E.i,sm E.key,2,E.num,(0,0),0,false⟩:Ho))=(E.hs,⟨E.h,E.i,sm E.key,3,E.num,E.d,E.lock,false⟩):=by
     rw [IL rfl]
     simp only [hn]
    have e2:iK E.L.xs (E.L.hs,(⟨E.h,E.i,sm E.key,2,E.num,(0,0),0,false⟩:Ho))=false:=by unfold iK; simp
    simp only [e1,e2]
    rfl
   rw [e]
   exact ⟨_,by omega,.a3⟩
 | a3=>
   refine ⟨rfl,by omega,fun q=>by rw [C4 rfl] at q; simp at q,fun _=>?_⟩
   have sJ:Cl.nth E.L.xs 1=((E.num:Nat):Int):=by
    have:=Cl.eX hE.xb 1
    show _=(((Cl.nth E.L.xs 1).toNat:Nat):Int)
    omega
   have hc:oM (sm E.key) E.H=(E.c:Int):=by
    unfold oM Gt.cellOf
    rw [if_pos rfl,if_neg hE.d0]
    exact hE.cell.symm
   have e:aG {E.L with hs:=E.hs} (E.n ⟨E.h,E.i,sm E.key,3,E.num,E.d,E.lock,false⟩)=({E.L with hs:=E.hs},E.s E.H (Wk.new 0 E.c (sm E.key) E.key)):=by
    rw [C3 rfl]
    have e1:dw E.L.xs E.L.ds (E.hs,(⟨E.h,E.i,sm E.key,3,E.num,E.d,E.lock,false⟩:Ho))=(E.hs,E.H):=TO rfl sJ
    have e2:iK E.L.xs (E.hs,(⟨E.h,E.i,sm E.key,3,E.num,E.d,E.lock,false⟩:Ho))=true:=by unfold iK; exact decide_eq_true (.inl ⟨rfl,sJ⟩)
    simp only [e1,e2,if_true]
    show ({E.L with hs:=E.hs},({ju E.h E.i (sm E.key) E.key with H:=E.H,cell:=oM (sm E.key) E.H,W:=Wk.new 0 (oM (sm E.key) E.H) (sm E.key) E.key,ph:=2}:Sk))=_
    rw [hc]
    rfl
   rw [e]
   exact ⟨_,by omega,.w1⟩
 | w1=>
   obtain ⟨g1,g2⟩:=TS hE (F:=E.L.F)
   have e:aG {E.L with hs:=E.hs} (E.s E.H (Wk.new 0 E.c (sm E.key) E.key))=({E.L with hs:=E.hs},E.s E.H (dy {Wk.new 0 E.c (sm E.key) E.key with first:=E.word} E.word)):=by
    rw [IM rfl]
    simp only [g1]
   have ed:bY {E.L with hs:=E.hs} (E.s E.H (Wk.new 0 E.c (sm E.key) E.key))=decide (E.word=0):=by
    rw [IN rfl]
    simp only [g2]
   rw [e,ed]
   have hp:=hE.ch.pos
   refine ⟨IP (by simp),by omega,fun q=>?_,fun q=>?_⟩
   ·have h0:E.word=0:=of_decide_eq_true q
    have hq:=hp.1 h0
    have hg:dy {Wk.new 0 E.c (sm E.key) E.key with first:=E.word} E.word={Wk.new 0 E.c (sm E.key) E.key with first:=E.word,nx:=3}:=by unfold dy; rw [if_pos h0]
    rw [hg]
    exact ⟨_,.inl ⟨rfl,by rw [hq]; simp,rfl⟩,fun _=>rfl,rfl⟩
   ·have h0:¬E.word=0:=of_decide_eq_false q
    have hg:dy {Wk.new 0 E.c (sm E.key) E.key with first:=E.word} E.word={Wk.new 0 E.c (sm E.key) E.key with first:=E.word,at_:=E.word,nx:=2}:=by unfold dy; rw [if_neg h0]
    rw [hg]
    exact ⟨E.q.length,by omega,.w2 [] E.q {Wk.new 0 E.c (sm E.key) E.key with first:=E.word,at_:=E.word,nx:=2} rfl (fun q=>h0 (hp.2 q)) rfl hE.ch rfl rfl rfl rfl rfl rfl rfl (by simp) hE.TQ rfl⟩
 | w2 pre rest W h1 h2 h3 h4 h5 h6 h7 h8 h9 ng Az zU KW EH=>
   obtain ⟨e0,t,rfl⟩:∃ e t,rest=e::t:=by
    cases rest with
    | nil=>exact absurd rfl h2
    | cons e t=>exact ⟨e,t,rfl⟩
   obtain ⟨x,p⟩:=e0
   have hx:W.at_=x:=h4.head
   rw [hx] at h4
   obtain ⟨kk,z,hk,bB,hc⟩:=h4.tail
   have fx:=(yy hE.len).2 hk
   have hit_iff:mb W (dP p z)=decide (p.1=E.key):=by
    unfold mb dP
    simp only [h5,h6,decide_eq_decide]
    exact ⟨fun q=>q.2,fun q=>⟨by rw [q],q⟩⟩
   have oY:z<=18446744073709551615:=by
    have:=(hE.cU kk).2
    rw [bB] at this
    unfold dP at this
    simp only at this
    omega
   have g1:Wk.aF E.L.xs E.L.ss (E.L.F,W)=(E.L.F,looks W (dP p z)):=by
    unfold Wk.aF
    simp only
    rw [if_neg (by omega),if_pos h3,hx,fx]
    show (E.L.F,looks W (ai E.L.ss kk).nd)=_
    rw [bB]
   have g2:Wk.ck E.L.xs E.L.ss (E.L.F,W)=(decide (p.1=E.key)||decide (z=0)):=by
    unfold Wk.ck
    rw [g1]
    show decide (3<=(looks W (dP p z)).nx)=_
    rw [BH]
    unfold nA
    rw [hit_iff]
    rfl
   have e:aG {E.L with hs:=E.hs} (E.s E.H W)=({E.L with hs:=E.hs},E.s E.H (looks W (dP p z))):=by
    rw [IM rfl]
    simp only [g1]
   have ed:bY {E.L with hs:=E.hs} (E.s E.H W)=(decide (p.1=E.key)||decide (z=0)):=by
    rw [IN rfl]
    simp only [g2]
   rw [e,ed]
   simp only [List.length_cons]
   refine ⟨IP (by simp),by omega,fun q=>?_,fun q=>?_⟩
   ·by_cases rG:p.1=E.key
    ·have hl:looks W (dP p z)={W with read:=W.read+1,found:=W.at_,nd:=dP p z,nx:=3}:=by
      unfold looks
      rw [hit_iff,if_pos (by simp [rG])]
     rw [hl]
     exact ⟨{W with read:=W.read+1,found:=W.at_,nd:=dP p z,nx:=3},.inr ⟨pre,x,p,t,z,kk,h1,rG,hx,hk,bB,rfl,hc,h8⟩,fun q=>absurd (hx▸q) hk.pos,rfl⟩
    ·have h0:z=0:=by simpa [rG] using q
     have hl:looks W (dP p z)=dy {W with read:=W.read+1,prev:=W.at_} z:=by
      unfold looks
      rw [hit_iff,if_neg (by simp [rG])]
      rfl
     rw [hl]
     have EI:E.q=(pre++[(x,p)])++t:=by rw [h1]; simp
     have EJ:E.key∉dO (pre++[(x,p)]):=by
      simp only [dO,List.map_append,List.map_cons,List.map_nil,List.mem_append,List.mem_singleton]
      rintro (q | q)
      ·exact zU q
      ·exact rG q.symm
     have ht:=hc.pos.1 h0
     have hg:dy {W with read:=W.read+1,prev:=W.at_} z={W with read:=W.read+1,prev:=W.at_,nx:=3}:=by unfold dy; rw [if_pos h0]
     rw [hg]
     refine ⟨{W with read:=W.read+1,prev:=W.at_,nx:=3},.inl ⟨h9,?_,h7⟩,fun _=>EH,rfl⟩
     rw [EI,ht,List.append_nil]
     exact EJ
   ·have rG:¬p.1=E.key:=fun e=>by simp [e] at q
    have h0:¬z=0:=fun e=>by simp [e] at q
    have hl:looks W (dP p z)=dy {W with read:=W.read+1,prev:=W.at_} z:=by
     unfold looks
     rw [hit_iff,if_neg (by simp [rG])]
     rfl
    rw [hl]
    have EI:E.q=(pre++[(x,p)])++t:=by rw [h1]; simp
    have EJ:E.key∉dO (pre++[(x,p)]):=by
     simp only [dO,List.map_append,List.map_cons,List.map_nil,List.mem_append,List.mem_singleton]
     rintro (q | q)
     ·exact zU q
     ·exact rG q.symm
    have hg:dy {W with read:=W.read+1,prev:=W.at_} z={W with read:=W.read+1,prev:=W.at_,at_:=z,nx:=2}:=by unfold dy; rw [if_neg h0]
    rw [hg]
    exact ⟨t.length,by omega,.w2 (pre++[(x,p)]) t {W with read:=W.read+1,prev:=W.at_,at_:=z,nx:=2} EI (fun q=>h0 (hc.pos.2 q)) rfl hc h5 h6 h7 (by rw [v7]; exact hx) h9 (by simp [ng]) Az EJ oY EH⟩
theorem fI.yn {W:Wa} (hE:E.Ok) (h:fI E W) {L:Lm} {H:Ho} {y:Nat} (hy:y<=18446744073709551615) (hx:E.c<L.xs.length) (hs:∀ x j,aY E.L.ss x j->aY L.ss x j):pt L (E.s H W) y:=by
 refine ⟨hy,fun hl=>?_,fun _=>⟨by simp only; omega,by simp only; omega⟩⟩
 simp only at hl
 rcases h with ⟨h0,_⟩ | ⟨pre,x,p,t,z,kk,hq,hp,hx,hk,bB,hW,hc,jz⟩
 ·exact absurd h0 hl.1
 ·have aH:pre≠[]:=by
   rintro rfl
   exact hl.2 jz
  obtain ⟨p0,e,rfl⟩:∃ p0 e,pre=p0++[e]:=⟨pre.dropLast,pre.getLast aH,(List.dropLast_concat_getLast aH).symm⟩
  rw [v7] at jz
  have dC:=hE.ch
  rw [hq] at dC
  obtain ⟨j,_,hj,_⟩:=dC.at e (by simp)
  refine ⟨?_,j,?_⟩
  ·show W.prev<=_
   rw [jz,hj.2.2]
   have:=hE.gen j
   have:=hj.1
   have:=hE.len
   omega
  ·show aY L.ss W.prev j
   rw [jz]
   exact hs _ _ hj
end
end Go.Proofs.YtpanebgakndddaaGreat.Pu
namespace Go.Proofs.YtpanebgakndddaaGreat.Pu
open Go Go.RowKit Hp K Fl Rw Hm Ar Mm Me Wk Ta Pn Pc
set_option maxRecDepth 100000
section
variable {w w':World} {M:Mo} {a:Qa} {P:Pt}
theorem qx (h:bF w a P):Calls Tryz.prog 110 #[ptr a.f] w fun e w'=>e=.returned (.int .i64 P.err)/\w=w':=by
 have c:=h.hd.2.2.2.2.2.1
 clear h
 go_enter Tryz.func110,Tryz.ntmps110
 go_wp2
 go_ret
 exact ⟨rfl,rfl⟩
theorem vk (h:bF w a P):Calls Tryz.prog 285 #[ptr a.f] w fun e w'=>e=.returned (.int .u64 P.cr)/\w=w':=by
 have c:=h.hd.2.2.2.2.2.2
 clear h
 go_enter Tryz.func285,Tryz.ntmps285
 go_wp2
 go_ret
 exact ⟨rfl,rfl⟩
theorem vm (h:bF w a P):Calls Tryz.prog 111 #[ptr a.f] w fun e w'=>e=.returned (.bool (decide (P.W.found≠0)))/\Below w.heap.size w w':=by
 have c:=h.hd.2.2.2.1
 have hR:=tL h.2
 unfold dV at hR
 generalize decide (P.W.found≠0)=b at*
 generalize P.W.found=x at*
 generalize P.W.nd=n at*
 obtain ⟨nk,nv,ns,nn⟩:=n
 simp only at hR
 replace hR:=Lib.hid hR
 clear h
 go_enter Tryz.func111,Tryz.ntmps111
 go_wp2_with fail
 refine hR.out.mono ?_
 rintro e w1 ⟨rfl,hb⟩
 have au:=Lib.hid ((hb.alloc (o:=.cells #[.string nk,.string nv,.int .u32 ns,.int .u64 nn] 67) hb.size))
 clear c hb
 go_wp2_with fail
 go_ret
 exact ⟨rfl,au.out⟩
theorem H9 (h:bF w a P):Calls Tryz.prog 196 #[ptr a.f] w fun e w'=>e=.returned (.int .u64 (gS P.W))/\Below w.heap.size w w':=by
 have c7:=h.hd.2.2.2.1
 have hR:=tL h.2
 have HP:=Lib.hid h
 unfold dV at hR
 unfold gS
 by_cases h0:P.W.found≠0
 ·rw [if_pos h0]
  rw [decide_eq_true h0] at hR
  generalize P.W.found=x at*
  generalize P.W.nd=n at*
  obtain ⟨nk,nv,ns,nn⟩:=n
  simp only at hR ⊢
  replace hR:=Lib.hid hR
  clear h h0
  go_enter Tryz.func196,Tryz.ntmps196
  go_wp2_with fail
  refine hR.out.mono ?_
  rintro e w1 ⟨rfl,hb⟩
  have au:=Lib.hid ((hb.alloc (o:=.cells #[.string nk,.string nv,.int .u32 ns,.int .u64 nn] 67) hb.size))
  clear c7 hb
  go_wp2_with fail
  go_ret
  exact ⟨rfl,au.out⟩
 ·rw [if_neg h0]
  rw [decide_eq_false h0] at hR
  generalize P.W.found=x at*
  generalize P.W.nd=n at*
  obtain ⟨nk,nv,ns,nn⟩:=n
  simp only at hR
  replace hR:=Lib.hid hR
  clear h h0
  go_enter Tryz.func196,Tryz.ntmps196
  go_wp2_with fail
  refine hR.out.mono ?_
  rintro e w1 ⟨rfl,hb⟩
  obtain ⟨w2,bl⟩:∃ w2,w2=w1.alloc (.cells #[.string nk,.string nv,.int .u32 ns,.int .u64 nn] 67):=⟨_,rfl⟩
  have au:Below w.heap.size w w2:=by rw [bl]; exact hb.alloc hb.size _
  have bs:=HP.out.below au
  have d7:=bs.hd.2.2.2.1
  have k7:=(HP.out.below hb).hd.2.2.2.1
  have lf1:=(HP.out.below hb).1.lt
  have aQ:=Lib.hid (RF bs.2)
  replace au:=Lib.hid au
  clear bs hb c7
  go_wp2_with fail
  rw [<-bl]
  clear bl
  refine aQ.out.mono ?_
  rintro e w3 ⟨rfl,rfl⟩
  clear aQ d7 k7
  go_wp2_with fail
  go_ret
  exact ⟨rfl,au.out⟩
theorem bF.Ia (h:bF w a P) (x:Nat) (c:Int):bF ((w.setCell ⟨a.f,6,none⟩ (.int .u64 x)).setCell ⟨a.f,5,none⟩ (.int .i64 c)) a {P with cr:=x,err:=c}/\ab (·=a.f) w ((w.setCell ⟨a.f,6,none⟩ (.int .u64 x)).setCell ⟨a.f,5,none⟩ (.int .i64 c)):=by
 have ho:=((ab.refl (·=a.f) w).setCell (p:=⟨a.f,6,none⟩) (.inl rfl) (.int .u64 x)).setCell (p:=⟨a.f,5,none⟩) (.inl rfl) (.int .i64 c)
 exact ⟨h.own (by simpa [ug] using (h.1.store 6 (.int .u64 x)).store 5 (.int .i64 c)) ho rfl,ho⟩
set_option maxHeartbeats 2000000 in
theorem RG (hM:ah w M) (h:bF w a P) {m:Nat} (hm:Least M.ss m) (hg:(ai M.ss m).gen<=1000000) (h3:P.nx=3):
 Calls Tryz.prog 161 #[ptr a.f,ptr M.m] w fun e w'=>e=.returned (.bool false)/\bf w M a P (cH (lm M) P).1 (cH (lm M) P).2 w':=by
 have e:cH (lm M) P=({lm M with ss:=M.ss.set m ⟨true,(ai M.ss m).gen,⟨P.key,P.val,P.sum,gS P.W⟩⟩},{P with cr:=(ai M.ss m).gen*65536+m+1,err:=0,nx:=4}):=by
  unfold cH
  rw [if_neg (by omega),if_pos h3]
  simp only [vW.2 hm]
 rw [e]
 simp only
 have hF:=Lib.hid (fun n=>(H9 (h.drewN n)).mono fun e w2 q=>show e=.returned (.int .u64 (gS P.W))/\Below w.heap.size w w2 from ⟨q.1,(show Below w.heap.size w (w.drewN n) from ⟨rfl,rfl,rfl,Nat.le_refl _,fun _ _=>rfl⟩).trans q.2⟩)
 have hA:=fun w1 (ax:Below w.heap.size w w1)=>(ve (hM.below ax).2.2.2.1 ⟨P.key,P.val,P.sum,gS P.W⟩ m hm hg).mono fun e w2 q=>
  show e=.returned (.tuple #[.int .u64 ((ai M.ss m).gen*65536+m+1:Nat),.int .i64 0])/\(ah w2 {M with ss:=M.ss.set m ⟨true,(ai M.ss m).gen,⟨P.key,P.val,P.sum,gS P.W⟩⟩}/\bF w2 a P/\ab (ao M) w w2) from
   ⟨q.1,(hM.below ax).qI q.2.1 q.2.2,(h.below ax).only q.2.2 (fun x hx q=>h.aA hM hx (jf _ q)),(ab.aD ax _).trans (q.2.2.mono fun x _ q=>jf _ q)⟩
 unfold dV at hA
 obtain ⟨c0,c1,c2,_⟩:=h.hd
 have d2:=hM.hd.2.2.1
 have lf:=h.1.lt
 have lM:=hM.1.lt
 have bc:=Lib.hid (fun w1 (hb:Below w.heap.size w w1)=>show w1.cell? ⟨M.m,2,none⟩=some (ptr M.ar)/\w1.cell? ⟨a.f,0,none⟩=some (.string P.key)/\w1.cell? ⟨a.f,1,none⟩=some (.string P.val)/\w1.cell? ⟨a.f,2,none⟩=some (.int .u32 P.sum) from
  ⟨(hb.cell (p:=⟨M.m,2,none⟩) lM).trans d2,(hb.cell (p:=⟨a.f,0,none⟩) lf).trans c0,(hb.cell (p:=⟨a.f,1,none⟩) lf).trans c1,(hb.cell (p:=⟨a.f,2,none⟩) lf).trans c2⟩)
 generalize (ai M.ss m).gen*65536+m+1=x at*
 generalize M.ss.set m ⟨true,(ai M.ss m).gen,⟨P.key,P.val,P.sum,gS P.W⟩⟩=ss' at*
 have dp:=Lib.hid (h.aA hM (.inl rfl))
 have oT:=Lib.hid (show M.m≠a.f from fun e=>h.aA hM (.inl e) (.inl rfl))
 generalize gS P.W=fw at*
 replace hA:=Lib.hid hA
 replace h3:=Lib.hid h3
 clear hM h hm hg e
 have Al:M.m≠a.f:=oT.out
 have Ao:a.f≠M.m:=fun e=>oT.out e.symm
 go_enter Tryz.func161,Tryz.ntmps161
 go_wp2_with fail
 go_region_held3 (fun w'=>w'.cell? ⟨M.m,2,none⟩=some (ptr M.ar)/\w'.cell? ⟨a.f,0,none⟩=some (.string P.key)/\w'.cell? ⟨a.f,1,none⟩=some (.string P.val)/\w'.cell? ⟨a.f,2,none⟩=some (.int .u32 P.sum)) ((go_split_ands; (refine ⟨?_,?_,?_,?_⟩<;>simp [World.cell?_setCell_other, *])))
  (first
    | (go_at_call 196
       refine (hF.out 1).mono ?_
       rintro e w2 ⟨rfl,au⟩
       have bH:=Lib.hid (hA.out w2 au)
       obtain ⟨t1,t2,t3,t4⟩:=bc.out w2 au
       clear au)
    | (go_at_call 17
       refine bH.out.mono ?_
       rintro e w3 ⟨rfl,br,bh,aq⟩
       obtain ⟨s0,s1,s2,_⟩:=bh.hd
       have s3:=br.hd.2.2.1
       have s4:=bh.hd.2.2.2.2.1
       have s8:=bh.hd.2.2.2.2.2.1
       have s9:=bh.hd.2.2.2.2.2.2
       have y4:=bh.cV 4
       have y8:=bh.cV 5
       have y9:=bh.cV 6
       simp only at s3
       have hT:=bh.Ia x 0
       have hN:=Lib.hid (hT.1.next 4)
       have aM:=hT.2.setCell (p:=⟨a.f,4,none⟩) (.inl rfl) (iL 4 a.f)
       have dM:=Lib.hid (br.only aM (fun x hx q=>dp.out (q▸hx)))
       have Et:Hid (ab (fun x=>ao M x\/iG a P x) w _):=Lib.hid ((aq.mono (fun x _ q=>(.inl q:ao M x\/iG a P x))).trans' aM (fun x _ q=>.inr (.inl q)))
       clear br bh aq hT aM bH))
 all_goals
  clear Al Ao
  go_wp2_with fail
  go_ret
  exact ⟨rfl,_,a,dM.out,rfl,⟨rfl,rfl,rfl,rfl,fun _ q=>.inl q⟩,hN.out,rfl,yR rfl rfl,Et.out⟩
set_option maxHeartbeats 2000000 in
theorem RH (hM:ah w M) (h:bF w a P) (hm:∀ k,k<M.ss.length->(ai M.ss k).taken=true) (h3:P.nx=3):
 Calls Tryz.prog 161 #[ptr a.f,ptr M.m] w fun e w'=>e=.returned (.bool false)/\bf w M a P (cH (lm M) P).1 (cH (lm M) P).2 w':=by
 have e:cH (lm M) P=(lm M,{P with cr:=0,err:=4,nx:=6}):=by
  unfold cH
  rw [if_neg (by omega),if_pos h3]
  simp only [Bq.2 hm]
 rw [e]
 simp only
 have hF:=Lib.hid (fun n=>(H9 (h.drewN n)).mono fun e w2 q=>show e=.returned (.int .u64 (gS P.W))/\Below w.heap.size w w2 from ⟨q.1,(show Below w.heap.size w (w.drewN n) from ⟨rfl,rfl,rfl,Nat.le_refl _,fun _ _=>rfl⟩).trans q.2⟩)
 have hA:=fun w1 (ax:Below w.heap.size w w1)=>(EU (hM.below ax).2.2.2.1 ⟨P.key,P.val,P.sum,gS P.W⟩ hm).mono fun e w2 q=>
  show e=.returned (.tuple #[.int .u64 0,.int .i64 4])/\(ah w2 M/\bF w2 a P/\Below w.heap.size w w2) from
   ⟨q.1,(hM.below ax).below q.2,(h.below ax).below q.2,ax.trans (q.2.mono ax.size)⟩
 unfold dV at hA
 obtain ⟨c0,c1,c2,_⟩:=h.hd
 have d2:=hM.hd.2.2.1
 have lf:=h.1.lt
 have lM:=hM.1.lt
 have bc:=Lib.hid (fun w1 (hb:Below w.heap.size w w1)=>show w1.cell? ⟨M.m,2,none⟩=some (ptr M.ar)/\w1.cell? ⟨a.f,0,none⟩=some (.string P.key)/\w1.cell? ⟨a.f,1,none⟩=some (.string P.val)/\w1.cell? ⟨a.f,2,none⟩=some (.int .u32 P.sum) from
  ⟨(hb.cell (p:=⟨M.m,2,none⟩) lM).trans d2,(hb.cell (p:=⟨a.f,0,none⟩) lf).trans c0,(hb.cell (p:=⟨a.f,1,none⟩) lf).trans c1,(hb.cell (p:=⟨a.f,2,none⟩) lf).trans c2⟩)
 have dp:=Lib.hid (h.aA hM (.inl rfl))
 have oT:=Lib.hid (show M.m≠a.f from fun e=>h.aA hM (.inl e) (.inl rfl))
 generalize gS P.W=fw at*
 replace hA:=Lib.hid hA
 replace h3:=Lib.hid h3
 clear hM h hm e
 have Al:M.m≠a.f:=oT.out
 have Ao:a.f≠M.m:=fun e=>oT.out e.symm
 go_enter Tryz.func161,Tryz.ntmps161
 go_wp2_with fail
 go_region_held3 (fun w'=>w'.cell? ⟨M.m,2,none⟩=some (ptr M.ar)/\w'.cell? ⟨a.f,0,none⟩=some (.string P.key)/\w'.cell? ⟨a.f,1,none⟩=some (.string P.val)/\w'.cell? ⟨a.f,2,none⟩=some (.int .u32 P.sum)) ((go_split_ands; (refine ⟨?_,?_,?_,?_⟩<;>simp [World.cell?_setCell_other, *])))
  (first
    | (go_at_call 196
       refine (hF.out 1).mono ?_
       rintro e w2 ⟨rfl,au⟩
       have bH:=Lib.hid (hA.out w2 au)
       obtain ⟨t1,t2,t3,t4⟩:=bc.out w2 au
       clear au)
    | (go_at_call 17
       refine bH.out.mono ?_
       rintro e w3 ⟨rfl,br,bh,aq⟩
       obtain ⟨s0,s1,s2,_⟩:=bh.hd
       have s3:=br.hd.2.2.1
       have s4:=bh.hd.2.2.2.2.1
       have s8:=bh.hd.2.2.2.2.2.1
       have s9:=bh.hd.2.2.2.2.2.2
       have y4:=bh.cV 4
       have y8:=bh.cV 5
       have y9:=bh.cV 6
       have hT:=bh.Ia 0 4
       have uM:=hT.1.next 4
       have hN:=Lib.hid (uM.next 6)
       have aM:=(hT.2.setCell (p:=⟨a.f,4,none⟩) (.inl rfl) (iL 4 a.f)).setCell (p:=⟨a.f,4,none⟩) (.inl rfl) (iL 6 a.f)
       have dM:=Lib.hid (br.only aM (fun x hx q=>dp.out (q▸hx)))
       have Et:Hid (ab (fun x=>ao M x\/iG a P x) w _):=Lib.hid ((ab.aD aq (fun x=>ao M x\/iG a P x)).trans' aM (fun x _ q=>.inr (.inl q)))
       clear br bh aq hT aM bH uM))
 all_goals
  clear Al Ao
  go_wp2_with fail
  go_ret
  exact ⟨rfl,_,a,dM.out,rfl,⟨rfl,rfl,rfl,rfl,fun _ q=>.inl q⟩,hN.out,rfl,yR rfl rfl,Et.out⟩
end
def jS (h:Nat) (k:Int) (key val:ByteArray):Pt:=⟨ju h k (sm key) key,val,2,0,0⟩
set_option maxHeartbeats 1000000 in
theorem mO (k:Int) (key val:ByteArray) (hk:key.size<=maxLen) (w:World):
 Calls Tryz.prog 94 #[.int .i64 k,.string key,.string val] w fun e w'=>∃ (a:Qa) (h:Nat),e=.returned (ptr a.f)/\bF w' a (jS h k key val)/\(∀ x,iG a (jS h k key val) x->w.heap.size<=x)/\Below w.heap.size w w':=by
 have hS:=Lib.hid (lZ.x8 key w hk)
 unfold jS sm
 generalize hs:FM.sum key.data.toList=s at*
 replace hs:=Lib.hid hs
 go_enter Tryz.func94,Tryz.ntmps94
 go_wp2_with fail
 refine hS.out.mono ?_
 rintro e w0 ⟨rfl,hw⟩
 obtain rfl:w=w0:=hw.symm
 clear hS hw
 obtain ⟨w1,aP⟩:∃ w1,w1=w.alloc (.cells #[.string key,.string val,.int .u32 s,.pointer none,.nilFunc,.int .i64 0,.int .u64 0] 216):=⟨_,rfl⟩
 have ff:af w1 w.heap.size 216 #[.string key,.string val,.int .u32 s,.pointer none,.nilFunc,.int .i64 0,.int .u64 0]:=by rw [aP]; exact af.made w _ _
 have aJ:Below w.heap.size w w1:=by rw [aP]; exact (Below.refl _ _).alloc (Nat.le_refl _) _
 have xz:w1.heap.size=w.heap.size+1:=by rw [aP]; simp
 obtain ⟨f,hf⟩:∃ f,f=w.heap.size:=⟨_,rfl⟩
 rw [<-hf] at ff
 have gZ:w.heap.size<=f/\f<w1.heap.size:=by omega
 have hN:=Lib.hid (FX k s key w1)
 have c2:=ff.cell 2
 simp at c2
 replace ff:=Lib.hid ff
 replace aJ:=Lib.hid aJ
 replace xz:=Lib.hid xz
 go_upto_region 2 with (fail)
 rw [<-aP,<-hf]
 clear aP hf
 go_wp2_with fail
 refine hN.out.mono ?_
 rintro e w2 ⟨a,h,rfl,iQ,tq,ag⟩
 have aQ:=ff.out.only (ab.aD ag (fun _=>False)) (by simp)
 have fL:=aJ.out.trans (ag.mono aJ.out.size)
 have k3:=aQ.cell 3
 have k4:=aQ.cell 4
 simp at k3 k4
 have z3:=aQ.frozen 3
 have z4:=aQ.frozen 4
 have az:=Lib.hid ((fL.setCell (p:=⟨f,3,none⟩) gZ.1 (ptr a.f)).setCell (p:=⟨f,4,none⟩) gZ.1 (aT 127 (ptr f)))
 have hO:=((ab.refl (·=f) w2).setCell (p:=⟨f,3,none⟩) (.inl rfl) (ptr a.f)).setCell (p:=⟨f,4,none⟩) (.inl rfl) (aT 127 (ptr f))
 have aH:∀ x,cg a (ju h k s key) x->¬x=f:=fun x hx e=>by have:=tq x hx; omega
 have hE:Hid (bF ((w2.setCell ⟨f,3,none⟩ (ptr a.f)).setCell ⟨f,4,none⟩ (aT 127 (ptr f))) ⟨f,a.f,a.w⟩ ⟨ju h k s key,val,2,0,0⟩):=Lib.hid
  ⟨(aQ.store 3 (ptr a.f)).store 4 (aT 127 (ptr f)),iQ.only hO aH⟩
 have fS:Hid (∀ x,iG ⟨f,a.f,a.w⟩ ⟨ju h k s key,val,2,0,0⟩ x->w.heap.size<=x):=Lib.hid (by
  have hz:=aJ.out.size
  rintro x (q | q)
  ·simp only at q; omega
  ·exact Nat.le_trans hz (tq x q))
 clear hN ff aJ xz aQ fL ag hO aH iQ tq c2
 go_wp2_with fail
 go_ret
 exact ⟨_,_,rfl,hE.out,fS.out,az.out⟩
end Go.Proofs.YtpanebgakndddaaGreat.Pu
namespace Go.Proofs.YtpanebgakndddaaGreat.Pu
open Go Go.RowKit Hp K Fl Rw Hm Ar Mm Me Wk Ta Pn Pc
set_option maxRecDepth 100000
theorem uh {w:World} {F f:Nat} {cv m:Value} {c:Bool} {P:World->Prop} (c4:w.cell? ⟨f,4,none⟩=some (aT F cv)) (eF:∀ args w,(callFunc F args).run Tryz.prog w=.ok (.enter F args) w)
 (hF:Calls Tryz.prog F #[cv,m] w fun e w'=>e=.returned (.bool c)/\P w'):Calls Tryz.prog 287 #[ptr f,m] w fun e w'=>e=.returned (.bool c)/\P w':=by
 replace hF:=Lib.hid hF
 go_enter Tryz.func287,Tryz.ntmps287
 go_wp2_with fail
 refine hF.out.mono ?_
 rintro e w' ⟨rfl,bj⟩
 replace bj:=Lib.hid bj
 clear c4
 go_wp2_with fail
 go_ret
 exact ⟨rfl,bj.out⟩
theorem RI (args:Array Value) (w:World):(callFunc 127 args).run Tryz.prog w=.ok (.enter 127 args) w:=by kernel_rfl
theorem Ib (args:Array Value) (w:World):(callFunc 161 args).run Tryz.prog w=.ok (.enter 161 args) w:=by kernel_rfl
theorem RJ (args:Array Value) (w:World):(callFunc 197 args).run Tryz.prog w=.ok (.enter 197 args) w:=by kernel_rfl
theorem RK (args:Array Value) (w:World):(callFunc 215 args).run Tryz.prog w=.ok (.enter 215 args) w:=by kernel_rfl
theorem RL (args:Array Value) (w:World):(callFunc 163 args).run Tryz.prog w=.ok (.enter 163 args) w:=by kernel_rfl
section
variable {w w':World} {M:Mo} {a:Qa} {P:Pt}
theorem RM (hM:ah w M) (h:bF w a P) (hl:P.ph=1->ig M.xs M.ds (M.hs,P.H)):Calls Tryz.prog 286 #[ptr a.f,ptr M.m] w fun e w'=>e=.returned (.bool (qy (lm M) P))/\Below w.heap.size w w':=by
 have c3:=h.hd.2.2.2.1
 have hR:=FY hM h.2 hl
 unfold qy
 generalize eL (lm M) P.toSk=b at*
 replace hR:=Lib.hid hR
 clear hM h hl
 go_enter Tryz.func286,Tryz.ntmps286
 go_wp2_with fail
 refine hR.out.mono ?_
 rintro e w' ⟨rfl,hb⟩
 replace hb:=Lib.hid hb
 clear c3
 go_wp2_with fail
 go_ret
 exact ⟨rfl,hb.out⟩
theorem RN (hM:ah w M) (h:bF w a P) (ok:vn (lm M) P) (hr:qy (lm M) P=true):
 Calls Tryz.prog 287 #[ptr a.f,ptr M.m] w fun e w'=>e=.returned (.bool (jI (lm M) P))/\bf w M a P (cH (lm M) P).1 (cH (lm M) P).2 w':=by
 have c4:=h.hd.2.2.2.2.1
 unfold iL at c4
 have fF:=ok.nx
 unfold jI
 by_cases e2:P.nx=2
 ·rw [if_pos e2] at c4
  rw [show decide (6<=P.nx)=false by simp; omega]
  obtain ⟨r,o⟩:=ok.sk e2
  exact uh c4 RI (Bn hM h o hr e2)
 rw [if_neg e2] at c4
 by_cases e3:P.nx=3
 ·rw [if_pos e3] at c4
  rw [show decide (6<=P.nx)=false by simp; omega]
  cases hf:gm M.ss with
  | some m=>exact uh c4 Ib (RG hM h (vW.1 hf) (ok.gen e3 m) e3)
  | none=>exact uh c4 Ib (RH hM h (Bq.1 hf) e3)
 rw [if_neg e3] at c4
 by_cases e4:P.nx=4
 ·rw [if_pos e4] at c4
  rw [show decide (6<=P.nx)=false by simp; omega]
  exact uh c4 RJ (RD hM h (ok.lead e4) e4)
 rw [if_neg e4] at c4
 by_cases e5:P.nx=5
 ·rw [if_pos e5] at c4
  rw [show decide (6<=P.nx)=false by simp; omega]
  exact uh c4 RK (RC hM h (ok.ret e5) e5)
 rw [if_neg e5] at c4
 have e6:P.nx=6:=by omega
 rw [if_pos e6] at c4
 rw [show decide (6<=P.nx)=true by simp; omega]
 exact uh c4 RL (RE hM h (ok.drop e6).1 (ok.drop e6).2 e6)
end
theorem rQ:oA yp 179 286 287 vn qy cH jI where
 below h hb:=h.below hb
 mr b w f:=by kernel_rfl
 ms b w f:=by kernel_rfl
 er args w:=by kernel_rfl
 es args w:=by kernel_rfl
 ready {w M a p} hM h ok:=RM hM h (fun q=>by
  by_cases e2:p.nx=2
  ·obtain ⟨r,o⟩:=ok.sk e2
   exact o.hd q
  ·exact absurd q (ok.ph e2))
 step hM h ok hr:=RN hM h ok hr
end Go.Proofs.YtpanebgakndddaaGreat.Pu
