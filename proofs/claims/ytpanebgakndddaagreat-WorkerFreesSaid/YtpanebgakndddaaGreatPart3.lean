/- Walks and plain mathematics, put together in their order: PutA, PutB, PutD, DelA, MemChain, MemReach, MapA, SeekH, PutE, PutG. -/
import Derived.Test.YtpanebgakndddaaGreatPart2
import Derived.Test.YtpanebgakndddaaGreatMemWalk
import Derived.ArgAppend
import Derived.Lib.AppendZeros
import Derived.Maps.Own
import Derived.Maps.OwnOps
import Derived.Maps.Views
set_option linter.unusedVariables false
set_option linter.unusedSimpArgs false
namespace Go.Proofs.YtpanebgakndddaaGreat.Pu
open Go Go.RowKit Hp K Fl Rw Hm Ar Mm Me Wk Ta Pn Pc
set_option maxRecDepth 100000
structure Pt extends Sk where
 val:ByteArray
 nx:Nat
 err:Int
 cm:Nat
structure Qa where
 f:Nat
 s:Nat
 w:Nat
abbrev Qa.sa (a:Qa):Sa:=⟨a.s,a.w⟩
def iH (nx f:Nat):Value:=if nx=2 then aS 127 (ptr f) else if nx=3 then aS 161 (ptr f)
 else if nx=4 then aS 197 (ptr f) else if nx=5 then aS 215 (ptr f) else if nx=6 then aS 163 (ptr f) else dV 198
def ub (a:Qa) (P:Pt):Array Value:=#[.string P.key,.string P.val,.int .u32 P.sum,ptr a.s,iH P.nx a.f,.int .i64 P.err,.int .u64 P.cm]
def bE (w:World) (a:Qa) (P:Pt):Prop:=af w a.f 216 (ub a P)/\cS w a.sa P.bu
def iC (a:Qa) (P:Pt) (x:Nat):Prop:=x=a.f\/b9 a.sa P.bu x
abbrev Bf:List TypeId:=[216,226,243,237]
abbrev yg:iD Qa Pt:=⟨Qa.f,bE,iC⟩
section
variable {w w':World} {M:Mo} {a:Qa} {P:Pt}
theorem bE.ty (h:bE w a P) {x:Nat} (hx:iC a P x):Ty w x Bf:=by
 obtain ⟨h1,h2⟩:=h
 rcases hx with rfl | hx
 ·exact (bj h1).mono (by simp)
 ·exact (h2.ty hx).mono (fun t ht=>List.mem_cons_of_mem _ ht)
theorem bE.aA (h:bE w a P) (hM:ah w M) {x:Nat} (hx:iC a P x):¬ao M x:=fun hm=>(hM.ty hm).apart (h.ty hx) (by decide)
theorem bE.only {S:Nat->Prop} (h:bE w a P) (ho:ab S w w') (hn:∀ x,iC a P x->¬S x):bE w' a P:=
 ⟨h.1.only ho (hn _ (.inl rfl)),h.2.only ho (fun x hx=>hn _ (.inr hx))⟩
theorem bE.below (h:bE w a P) (hb:Below w.heap.size w w'):bE w' a P:=h.only (ab.aD hb (fun _=>False)) (by simp)
theorem bE.drewN (h:bE w a P) (n:Nat):bE (w.drewN n) a P:=h.only ((ab.refl (fun _=>False) w).drewN n) (by simp)
theorem bE.hd (h:bE w a P):w.cell? ⟨a.f,0,none⟩=some (.string P.key)/\w.cell? ⟨a.f,1,none⟩=some (.string P.val)/\w.cell? ⟨a.f,2,none⟩=some (.int .u32 P.sum)/\w.cell? ⟨a.f,3,none⟩=some (ptr a.s)/\
 w.cell? ⟨a.f,4,none⟩=some (iH P.nx a.f)/\w.cell? ⟨a.f,5,none⟩=some (.int .i64 P.err)/\w.cell? ⟨a.f,6,none⟩=some (.int .u64 P.cm):=
 ⟨h.1.cell 0,h.1.cell 1,h.1.cell 2,h.1.cell 3,h.1.cell 4,h.1.cell 5,h.1.cell 6⟩
theorem bE.cV (h:bE w a P) (i:Nat):w.frozen? ⟨a.f,i,none⟩=false:=h.1.frozen i
theorem bE.self (h:bE w a P) {x:Nat} (hx:b9 a.sa P.bu x):x≠a.f:=by
 rintro rfl
 exact (h.2.ty hx).apart (bj h.1) (by decide)
theorem bE.own (h:bE w a P) {P':Pt} (hB:af w' a.f 216 (ub a P')) (ho:ab (·=a.f) w w') (eS:P'.bu=P.bu):bE w' a P':=
 ⟨hB,by rw [eS]; exact h.2.only ho (fun x hx e=>h.self hx e)⟩
theorem bE.next (h:bE w a P) (n:Nat):bE (w.setCell ⟨a.f,4,none⟩ (iH n a.f)) a {P with nx:=n}:=
 h.own (h.1.store 4 (iH n a.f)) ((ab.refl (·=a.f) w).setCell (p:=⟨a.f,4,none⟩) (.inl rfl) (iH n a.f)) rfl
theorem bE.vq {S:Nat->Prop} {a':Sa} {S':Sk} (h:bE w a P) (hS:cS w' a' S') (ef:a'.f=a.s) (ek:S'.key=P.key) (es:S'.sum=P.sum) (ho:ab S w w') (hn:¬S a.f):bE w' {a with w:=a'.w} {P with bu:=S'}:=by
 obtain ⟨f',b'⟩:=a'
 subst ef
 refine ⟨?_,hS⟩
 have:=h.1.only ho hn
 unfold ub at this ⊢
 simp only [ek,es]
 exact this
end
abbrev ba (w:World) (M:Mo) (a:Qa) (P:Pt) (L':Lm) (P':Pt) (w':World):Prop:=yg.ba w M a P L' P' w'
theorem yJ {a a':Qa} {P P':Pt} (ea:a'=a) (eS:P'.H.f=P.H.f) {n:Nat} (x:Nat) (q:iC a' P' x):iC a P x\/n<=x:=by
 subst ea
 rcases q with q | q | q | q
 ·exact .inl (.inl q)
 ·exact .inl (.inr (.inl q))
 ·exact .inl (.inr (.inr (.inl (q.trans eS))))
 ·exact .inl (.inr (.inr (.inr q)))
end Go.Proofs.YtpanebgakndddaaGreat.Pu
namespace Go.Proofs.YtpanebgakndddaaGreat.Pu
open Go Go.RowKit Hp K Fl Rw Hm Ar Mm Me Wk Ta Pn Pc
set_option maxRecDepth 100000
def gP (W:Wa):Int:=if W.found≠0 then W.nd.next else (W.first:Int)
def cG (L:Lm) (P:Pt):Lm×Pt:=
 if P.nx=2 then ((aG L P.bu).1,{P with bu:=(aG L P.bu).2,nx:=if bW L P.bu=true then (if (aG L P.bu).2.cell= -1 then 6 else 3) else 2})
 else if P.nx=3 then (match gj L.ss with
  | some m=>({L with ss:=L.ss.set m ⟨true,(ai L.ss m).gen,⟨P.key,P.val,P.sum,gP P.W⟩⟩},{P with cm:=(ai L.ss m).gen*65536+m+1,err:=0,nx:=4})
  | none=>(L,{P with cm:=0,err:=4,nx:=6}))
 else if P.nx=4 then (jR L P.bu P.cm,{P with cm:=P.W.found,nx:=if P.W.found≠0 then 5 else 6})
 else if P.nx=5 then ({L with ws:=L.ws++[P.cm]},{P with cm:=0,nx:=6})
 else ({L with hs:=L.hs.set P.H.lock (-1)},{P with H:={P.H with holds:=false},nx:=7})
def qu (L:Lm) (P:Pt):Bool:=eJ L P.bu
def jC (_:Lm) (P:Pt):Bool:=decide (6<=P.nx)
structure vf (L:Lm) (P:Pt):Prop where
 nx:2<=P.nx/\P.nx<=6
 ph:P.nx≠2->P.ph≠1
 sk:P.nx=2->∃ r,qw r L P.bu
 gen:P.nx=3->∀ k,(ai L.ss k).gen<=1000000
 lead:P.nx=4->pe L P.bu P.cm
 ret:P.nx=5->L.ws.length<=1000000
 drop:P.nx=6->gY L.xs L.ds (L.hs,P.H)/\P.H.holds=true
theorem Q8 (L:Lm) (S:Sk):(aG L S).2.key=S.key/\(aG L S).2.sum=S.sum:=by
 unfold aG
 split
 ·split<;>exact ⟨rfl,rfl⟩
 ·exact ⟨rfl,rfl⟩
section
variable {w w':World} {M:Mo} {a:Qa} {P:Pt}
def Cq (w:World) (M:Mo) (a:Qa) (P:Pt) (L':Lm) (P':Pt) (w':World):Prop:=
 ∃ M' b,ah w' M'/\lm M'=L'/\gm w M M'/\bE w' {a with w:=b} P'/\(∀ x,iC {a with w:=b} P' x->iC a P x\/w.heap.size<=x)/\ab (fun x=>ao M x\/iC a P x) w w'
theorem Cq.pg {L':Lm} {P':Pt} (h:Cq w M a P L' P' w'):ba w M a P L' P' w':=by
 obtain ⟨M',b,h1,h2,h3,h4,h5,h6⟩:=h
 exact ⟨M',{a with w:=b},h1,h2,h3,h4,rfl,h5,h6⟩
theorem Q9 (hM:ah w M) (h:bE w a P) {r:Nat} (ok:qw r (lm M) P.bu) (hr:eJ (lm M) P.bu=true):
 Calls Tryz.prog 143 #[ptr a.s,ptr M.m] w fun e w'=>e=.returned (.bool (bW (lm M) P.bu))/\Cq w M a P (aG (lm M) P.bu).1 {P with bu:=(aG (lm M) P.bu).2} w':=by
 refine (FH hM h.2 ok hr).mono fun e w' q=>⟨q.1,?_⟩
 obtain ⟨M',a',h1,h2,h3,h4,h5,h6,h7⟩:=q.2
 have hk:=Q8 (lm M) P.bu
 have hp:=h.vq h4 h5 hk.1 hk.2 h7 (by
  rintro (q | q)
  ·exact h.aA hM (.inl rfl) q
  ·exact h.self q rfl)
 refine ⟨M',a'.w,h1,h2,h3,hp,?_,h7.mono fun x _ q=>q.imp id .inr⟩
 rintro x (q | q)
 ·exact .inl (.inl q)
 ·have e:a'=(⟨a.s,a'.w⟩:Sa):=by
   obtain ⟨f',b'⟩:=a'
   have:f'=a.s:=h5
   rw [this]
  exact (h6 x (by rw [e]; exact q)).imp .inr id
set_option maxHeartbeats 1000000 in
theorem Bd (hM:ah w M) (h:bE w a P) {r:Nat} (ok:qw r (lm M) P.bu) (hr:eJ (lm M) P.bu=true) (h2:P.nx=2):
 Calls Tryz.prog 127 #[ptr a.f,ptr M.m] w fun e w'=>e=.returned (.bool false)/\ba w M a P (cG (lm M) P).1 (cG (lm M) P).2 w':=by
 have hS:=Q9 hM h ok hr
 have c3:=h.hd.2.2.2.1
 unfold cG
 rw [if_pos h2]
 simp only
 cases cq:bW (lm M) P.bu with
 | false=>
   rw [cq] at hS
   rw [if_neg (by simp)]
   generalize aG (lm M) P.bu=z at*
   have gS:=hS.mono fun e w' q=>And.intro q.1 q.2.pg
   have eP:({P with bu:=z.2,nx:=2}:Pt)={P with bu:=z.2}:=by rw [<-h2]
   rw [eP]
   replace hS:=Lib.hid gS
   clear cq h hM ok hr h2 eP gS
   go_enter Tryz.func127,Tryz.ntmps127
   go_wp2_with fail
   refine hS.out.mono ?_
   rintro e w1 ⟨rfl,hW⟩
   replace hW:=Lib.hid hW
   clear hS c3
   go_wp2_with fail
   go_ret
   exact ⟨rfl,hW.out⟩
 | true=>
   rw [cq] at hS
   rw [if_pos rfl]
   generalize aG (lm M) P.bu=z at*
   obtain ⟨L',S'⟩:=z
   simp only at hS ⊢
   replace hS:=Lib.hid hS
   have dm:=Lib.hid (h.aA hM (.inl rfl))
   clear cq h hM ok hr h2
   obtain ⟨cb,gT⟩:∃ cb,cb=decide (S'.cell= -1):=⟨_,rfl⟩
   have e6:(if S'.cell= -1 then 6 else 3:Nat)=if cb=true then 6 else 3:=by rw [gT]; simp
   have aH:decide (S'.cell≠ -1)= !cb:=by rw [gT]; simp
   rw [e6]
   clear e6 gT
   cases cb
   all_goals
    replace aH:=Lib.hid aH
    first
     | rw [if_pos rfl]
     | rw [if_neg (by simp)]
    go_enter Tryz.func127,Tryz.ntmps127
    go_wp2_with fail
    refine hS.out.mono ?_
    rintro e w1 ⟨rfl,M1,b,av,el,hK,aY,iq,aw⟩
    have k3:=aY.hd.2.2.2.1
    have k4:=aY.hd.2.2.2.2.1
    simp only at k3 k4
    have z4:=aY.cV 4
    have bg:=aY.next 3
    have m9:=Lib.hid (bg.next 6)
    have oT:=Rf bg.2
    simp only at oT
    rw [aH.out] at oT
    simp only [Bool.not_true,Bool.not_false] at oT
    have aq:=(ab.refl (·=a.f) w1).setCell (p:=⟨a.f,4,none⟩) (.inl rfl) (iH 3 a.f)
    have fo:=aq.setCell (p:=⟨a.f,4,none⟩) (.inl rfl) (iH 6 a.f)
    have far1:∀ x,ao M1 x->¬x=a.f:=fun x hx q=>aY.aA av (.inl rfl) (q▸hx)
    have br:=Lib.hid (av.only aq far1)
    have ja:=Lib.hid (av.only fo far1)
    have wI:=Lib.hid (aw.trans' aq (fun x _ q=>.inr (.inl q)))
    have uu:=Lib.hid (aw.trans' fo (fun x _ q=>.inr (.inl q)))
    have KA:=Lib.hid oT
    replace bg:=Lib.hid bg
    replace iq:=Lib.hid iq
    replace hK:=Lib.hid hK
    replace el:=Lib.hid el
    clear aq fo av aY aw hS c3 far1 oT
    go_wp2_with fail
    refine KA.out.mono ?_
    rintro e w' ⟨rfl,rfl⟩
    clear KA
    go_wp2_with fail
    go_ret
    first
     | exact ⟨rfl,_,_,ja.out,el.out,hK.out,m9.out,rfl,iq.out,uu.out⟩
     | exact ⟨rfl,_,_,br.out,el.out,hK.out,bg.out,rfl,iq.out,wI.out⟩
end
end Go.Proofs.YtpanebgakndddaaGreat.Pu
namespace Go.Proofs.YtpanebgakndddaaGreat.Pu
open Go Go.RowKit Hp K Fl Rw Hm Ar Mm Me Wk Ta Pn Pc
set_option maxRecDepth 100000
theorem Ri {M:Mo} {x:Nat} {V':Option Addr} {capV':Nat} {ws':List Nat} {n:Nat} (hV:∀ x,In V' x->In M.V x\/n<=x) (q:ao {M with V:=V',capV:=capV',ws:=ws'} x):ao M x\/n<=x:=by
 rcases q with q | q | q | q | q | q
 ·exact .inl (.inl q)
 ·exact .inl (.inr (.inl q))
 ·exact .inl (.inr (.inr (.inl q)))
 ·exact .inl (.inr (.inr (.inr (.inl q))))
 ·exact .inl (.inr (.inr (.inr (.inr (.inl q)))))
 ·rcases hV x q with q | q
  ·exact .inl (.inr (.inr (.inr (.inr (.inr q)))))
  ·exact .inr q
def pb (w:World) (M:Mo) (L':Lm) (w':World):Prop:=∃ M',ah w' M'/\lm M'=L'/\gm w M M'/\ab (ao M) w w'
theorem FJ {w:World} {M:Mo} (hM:ah w M) (x:Nat) (hn:M.ws.length<=1000000):
 Calls Tryz.prog 18 #[ptr M.m,.int .u64 x] w fun e w'=>e=.returned (.tuple #[])/\pb w M {lm M with ws:=M.ws++[x]} w':=by
 refine (F6 hM x hn).mono fun e w' q=>⟨q.1,?_⟩
 obtain ⟨V',capV',av,aw,V8⟩:=q.2
 refine ⟨_,av,rfl,⟨rfl,rfl,rfl,rfl,fun x q=>Ri V8 q⟩,aw.mono (fun x _ q=>?_)⟩
 rcases q with q | q
 ·exact .inl q
 ·exact .inr (.inr (.inr (.inr (.inr q))))
section
variable {w w':World} {M:Mo} {a:Qa} {P:Pt}
theorem bE.rN (h:bE w a P) (x n:Nat):bE (((w.setCell ⟨a.f,6,none⟩ (.int .u64 x)).setCell ⟨a.f,4,none⟩ (iH 6 a.f)).setCell ⟨a.f,4,none⟩ (iH n a.f)) a {P with cm:=x,nx:=n}/\
 ab (·=a.f) w (((w.setCell ⟨a.f,6,none⟩ (.int .u64 x)).setCell ⟨a.f,4,none⟩ (iH 6 a.f)).setCell ⟨a.f,4,none⟩ (iH n a.f)):=by
 have bw:bE (w.setCell ⟨a.f,6,none⟩ (.int .u64 x)) a {P with cm:=x}:=h.own (by simpa [ub] using h.1.store 6 (.int .u64 x)) ((ab.refl (·=a.f) w).setCell (p:=⟨a.f,6,none⟩) (.inl rfl) (.int .u64 x)) rfl
 exact ⟨(bw.next 6).next n,(((ab.refl (·=a.f) w).setCell (p:=⟨a.f,6,none⟩) (.inl rfl) (.int .u64 x)).setCell (p:=⟨a.f,4,none⟩) (.inl rfl) (iH 6 a.f)).setCell (p:=⟨a.f,4,none⟩) (.inl rfl) (iH n a.f)⟩
theorem bE.yK (h:bE w a P) (x:Nat):bE ((w.setCell ⟨a.f,6,none⟩ (.int .u64 x)).setCell ⟨a.f,4,none⟩ (iH 6 a.f)) a {P with cm:=x,nx:=6}/\
 ab (·=a.f) w ((w.setCell ⟨a.f,6,none⟩ (.int .u64 x)).setCell ⟨a.f,4,none⟩ (iH 6 a.f)):=by
 have bw:bE (w.setCell ⟨a.f,6,none⟩ (.int .u64 x)) a {P with cm:=x}:=h.own (by simpa [ub] using h.1.store 6 (.int .u64 x)) ((ab.refl (·=a.f) w).setCell (p:=⟨a.f,6,none⟩) (.inl rfl) (.int .u64 x)) rfl
 exact ⟨hP2.next 6,((ab.refl (·=a.f) w).setCell (p:=⟨a.f,6,none⟩) (.inl rfl) (.int .u64 x)).setCell (p:=⟨a.f,4,none⟩) (.inl rfl) (iH 6 a.f)⟩
theorem pb.pg {L':Lm} {P':Pt} {w1 w2:World} (h:pb w M L' w1) (hP:bE w a P) (hM:ah w M) (bw:bE w1 a P->bE w2 a P') (eS:P'.H.f=P.H.f) (ho:ab (·=a.f) w1 w2):ba w M a P L' P' w2:=by
 obtain ⟨M1,av,el,hK,hO⟩:=h
 have aY:=hP.only hO (fun x hx q=>hP.aA hM hx q)
 exact ⟨M1,a,av.only ho (fun x hx q=>aY.aA av (.inl rfl) (q▸hx)),el,hK,bw aY,rfl,yJ rfl eS,(hO.mono (fun x _ q=>(.inl q:ao M x\/iC a P x))).trans' ho (fun x _ q=>.inr (.inl q))⟩
set_option maxHeartbeats 1000000 in
theorem Rj (hM:ah w M) (h:bE w a P) (hn:M.ws.length<=1000000) (h5:P.nx=5):
 Calls Tryz.prog 215 #[ptr a.f,ptr M.m] w fun e w'=>e=.returned (.bool false)/\ba w M a P (cG (lm M) P).1 (cG (lm M) P).2 w':=by
 have hR:=Lib.hid (FJ hM P.cm hn)
 have c6:=h.hd.2.2.2.2.2.2
 have HP:=Lib.hid h
 have HM:=Lib.hid hM
 unfold cG
 rw [if_neg (by omega),if_neg (by omega),if_neg (by omega),if_pos h5]
 clear h hM hn h5
 go_enter Tryz.func215,Tryz.ntmps215
 go_wp2_with fail
 refine hR.out.mono ?_
 rintro e w1 ⟨rfl,hW⟩
 have aY:bE w1 a P:=by
  obtain ⟨M1,_,_,_,hO⟩:=hW
  exact HP.out.only hO (fun x hx q=>HP.out.aA HM.out hx q)
 have k6:=aY.hd.2.2.2.2.2.2
 have k4:=aY.hd.2.2.2.2.1
 have z6:=aY.cV 6
 have z4:=aY.cV 4
 have hE:=Lib.hid (hW.pg HP.out HM.out (fun q=>(q.yK 0).1) rfl (aY.yK 0).2)
 clear aY hW hR c6
 go_wp2_with fail
 go_ret
 exact ⟨rfl,hE.out⟩
set_option maxHeartbeats 1000000 in
theorem Rk (hM:ah w M) (h:bE w a P) (ok:pe (lm M) P.bu P.cm) (h4:P.nx=4):
 Calls Tryz.prog 197 #[ptr a.f,ptr M.m] w fun e w'=>e=.returned (.bool false)/\ba w M a P (cG (lm M) P).1 (cG (lm M) P).2 w':=by
 have hR:=fun w1 (hb:Below w.heap.size w w1)=>(FI (hM.below hb) (h.2.below hb) ok).mono fun e w' q=>show e=.returned (.tuple #[])/\pb w M (jR (lm M) P.bu P.cm) w' from
  ⟨q.1,by obtain ⟨M',h1,h2,h3,_,h5⟩:=q.2; exact ⟨M',h1,h2,(gm.refl w M).trans h3 hb.size,(ab.aD hb _).trans h5⟩⟩
 replace hR:=fun n=>hR (w.drewN n) ⟨rfl,rfl,rfl,Nat.le_refl _,fun _ _=>rfl⟩
 have c3:=h.hd.2.2.2.1
 have c6:=h.hd.2.2.2.2.2.2
 have oP:=Lib.hid (show M.m≠a.f from fun e=>h.aA hM (.inl e) (.inl rfl))
 have HP:=Lib.hid h
 have HM:=Lib.hid hM
 unfold cG
 rw [if_neg (by omega),if_neg (by omega),if_pos h4]
 generalize V9:jR (lm M) P.bu P.cm=L' at*
 obtain ⟨x,ru⟩:∃ x,x=P.W.found:=⟨_,rfl⟩
 obtain ⟨n,nj⟩:∃ n,n=P.W.nd:=⟨_,rfl⟩
 obtain ⟨nk,nv,ns,nn⟩:=n
 have Wb:∃ b,decide (x≠0)=b/\(if x≠0 then 5 else 6:Nat)=if b=true then 5 else 6:=⟨_,rfl,by simp⟩
 obtain ⟨b,hb,e5⟩:=Wb
 rw [<-ru]
 simp only [e5]
 replace hR:=Lib.hid hR
 replace ru:=Lib.hid ru
 replace nj:=Lib.hid nj
 replace hb:=Lib.hid hb
 have iL:Hid (∀ w1 w2 (P':Pt),pb w M L' w1->(bE w1 a P->bE w2 a P')->P'.H.f=P.H.f->ab (·=a.f) w1 w2->ba w M a P L' P' w2):=Lib.hid (fun w1 w2 P' hW hq eS ho=>hW.pg h hM hq eS ho)
 clear h hM h4 V9 ok e5
 go_enter Tryz.func197,Tryz.ntmps197
 go_wp2_with fail
 go_region_held3 (fun w'=>w'.cell? ⟨a.f,3,none⟩=some (ptr a.s)/\w'.cell? ⟨a.f,6,none⟩=some (.int .u64 P.cm)) (go_keep)
  (first
    | (go_at_call 179
       refine (hR.out 1).mono ?_
       rintro e w1 ⟨rfl,hW⟩
       have aY:bE w1 a P:=by
        obtain ⟨M1,_,_,_,hO⟩:=hW
        exact HP.out.only hO (fun x hx q=>HP.out.aA HM.out hx q)
       have k3:=aY.hd.2.2.2.1
       have k6:=aY.hd.2.2.2.2.2.2
       have cF:=tF aY.2
       unfold dU at cF
       rw [<-ru.out,<-nj.out,hb.out] at cF
       simp only at cF
       replace cF:=Lib.hid cF
       replace aY:=Lib.hid aY
       replace hW:=Lib.hid hW
       clear hR))
 all_goals
  go_wp2_with fail
  refine cF.out.mono ?_
  rintro e w2 ⟨rfl,au⟩
  have aZ:=au.alloc (o:=.cells #[.string nk,.string nv,.int .u32 ns,.int .u64 nn] 67) au.size
  obtain ⟨w3,dR⟩:∃ w3,w3=w2.alloc (.cells #[.string nk,.string nv,.int .u32 ns,.int .u64 nn] 67):=⟨_,rfl⟩
  rw [<-dR] at aZ
  have bg:=aY.out.below aZ
  have k6':=bg.hd.2.2.2.2.2.2
  have k4':=bg.hd.2.2.2.2.1
  have z6':=bg.cV 6
  have z4':=bg.cV 4
  have dp:pb w M L' w3:=by
   obtain ⟨M1,q1,q2,q3,q4⟩:=hW.out
   exact ⟨M1,q1.below aZ,q2,q3,q4.below aZ⟩
  have h5:=Lib.hid (iL.out _ _ _ dp (fun q=>(q.rN x 5).1) rfl (bg.rN x 5).2)
  have h6:=Lib.hid (iL.out _ _ _ dp (fun q=>(q.yK x).1) rfl (bg.yK x).2)
  clear dp bg aZ au cF k3 k6 hW
  go_upto_region 3 with (fail)
  rw [<-dR]
  clear dR
  cases b
  all_goals
   go_wp2_with fail
   go_ret
   first
    | exact ⟨rfl,h5.out⟩
    | exact ⟨rfl,h6.out⟩
set_option maxHeartbeats 1000000 in
theorem Rl (hM:ah w M) (h:bE w a P) (hl:gY M.xs M.ds (M.hs,P.H)) (hh:P.H.holds=true) (h6:P.nx=6):
 Calls Tryz.prog 163 #[ptr a.f,ptr M.m] w fun e w'=>e=.returned (.bool true)/\ba w M a P (cG (lm M) P).1 (cG (lm M) P).2 w':=by
 have hR:=Lib.hid (FK hM h.2 hl hh)
 have c3:=h.hd.2.2.2.1
 have HP:=Lib.hid h
 have HM:=Lib.hid hM
 unfold cG
 rw [if_neg (by omega),if_neg (by omega),if_neg (by omega),if_neg (by omega)]
 clear h hM hl hh h6
 go_enter Tryz.func163,Tryz.ntmps163
 go_wp2_with fail
 refine hR.out.mono ?_
 rintro e w1 ⟨rfl,av,kZ,aw⟩
 have aY:=HP.out.vq kZ rfl rfl rfl aw (by
  rintro (q | q)
  ·exact HP.out.aA HM.out (.inl rfl) q
  ·exact HP.out.self q rfl)
 have k4:=aY.hd.2.2.2.2.1
 have z4:=aY.cV 4
 have bg:=Lib.hid (aY.next 7)
 have aq:=(ab.refl (·=a.f) w1).setCell (p:=⟨a.f,4,none⟩) (.inl rfl) (iH 7 a.f)
 have br:=Lib.hid (av.only aq (fun x hx q=>aY.aA av (.inl rfl) (q▸hx)))
 have wI:Hid (ab (fun x=>ao M x\/iC a P x) w _):=Lib.hid ((aw.mono (fun x _ q=>q.imp id .inr)).trans' aq (fun x _ q=>.inr (.inl q)))
 clear aY aq av aw hR c3 kZ
 go_wp2_with fail
 go_ret
 exact ⟨rfl,_,a,br.out,rfl,⟨rfl,rfl,rfl,rfl,fun _ q=>.inl q⟩,bg.out,rfl,yJ rfl rfl,wI.out⟩
end
end Go.Proofs.YtpanebgakndddaaGreat.Pu
namespace Go.Proofs.YtpanebgakndddaaGreat.Dl
open Go Go.RowKit Hp K Fl Rw Hm Ar Mm Me Wk Ta Pn Pc Pu
set_option maxRecDepth 100000
structure Dt extends Sk where
 nx:Nat
 cm:Nat
def kO (nx f:Nat):Value:=if nx=2 then aS 108 (ptr f) else if nx=4 then aS 145 (ptr f)
 else if nx=5 then aS 180 (ptr f) else if nx=6 then aS 144 (ptr f) else dV 178
def yb (a:Qa) (D:Dt):Array Value:=#[ptr a.s,kO D.nx a.f,.int .u64 D.cm]
def cz (w:World) (a:Qa) (D:Dt):Prop:=af w a.f 193 (yb a D)/\cS w a.sa D.bu
def gC (a:Qa) (D:Dt) (x:Nat):Prop:=x=a.f\/b9 a.sa D.bu x
abbrev FE:List TypeId:=[193,226,243,237]
abbrev Bb:iD Qa Dt:=⟨Qa.f,cz,gC⟩
section
variable {w w':World} {M:Mo} {a:Qa} {D:Dt}
theorem cz.ty (h:cz w a D) {x:Nat} (hx:gC a D x):Ty w x FE:=by
 obtain ⟨h1,h2⟩:=h
 rcases hx with rfl | hx
 ·exact (bj h1).mono (by simp)
 ·exact (h2.ty hx).mono (fun t ht=>List.mem_cons_of_mem _ ht)
theorem cz.aA (h:cz w a D) (hM:ah w M) {x:Nat} (hx:gC a D x):¬ao M x:=fun hm=>(hM.ty hm).apart (h.ty hx) (by decide)
theorem cz.only {S:Nat->Prop} (h:cz w a D) (ho:ab S w w') (hn:∀ x,gC a D x->¬S x):cz w' a D:=
 ⟨h.1.only ho (hn _ (.inl rfl)),h.2.only ho (fun x hx=>hn _ (.inr hx))⟩
theorem cz.below (h:cz w a D) (hb:Below w.heap.size w w'):cz w' a D:=h.only (ab.aD hb (fun _=>False)) (by simp)
theorem cz.hd (h:cz w a D):w.cell? ⟨a.f,0,none⟩=some (ptr a.s)/\w.cell? ⟨a.f,1,none⟩=some (kO D.nx a.f)/\w.cell? ⟨a.f,2,none⟩=some (.int .u64 D.cm):=
 ⟨h.1.cell 0,h.1.cell 1,h.1.cell 2⟩
theorem cz.cV (h:cz w a D) (i:Nat):w.frozen? ⟨a.f,i,none⟩=false:=h.1.frozen i
theorem cz.self (h:cz w a D) {x:Nat} (hx:b9 a.sa D.bu x):x≠a.f:=by
 rintro rfl
 exact (h.2.ty hx).apart (bj h.1) (by decide)
theorem cz.own (h:cz w a D) {D':Dt} (hB:af w' a.f 193 (yb a D')) (ho:ab (·=a.f) w w') (eS:D'.bu=D.bu):cz w' a D':=
 ⟨hB,by rw [eS]; exact h.2.only ho (fun x hx e=>h.self hx e)⟩
theorem cz.next (h:cz w a D) (n:Nat):cz (w.setCell ⟨a.f,1,none⟩ (kO n a.f)) a {D with nx:=n}:=
 h.own (h.1.store 1 (kO n a.f)) ((ab.refl (·=a.f) w).setCell (p:=⟨a.f,1,none⟩) (.inl rfl) (kO n a.f)) rfl
theorem cz.vq {S:Nat->Prop} {a':Sa} {S':Sk} (h:cz w a D) (hS:cS w' a' S') (ef:a'.f=a.s) (ho:ab S w w') (hn:¬S a.f):cz w' {a with w:=a'.w} {D with bu:=S'}:=by
 obtain ⟨f',b'⟩:=a'
 subst ef
 refine ⟨?_,hS⟩
 have:=h.1.only ho hn
 unfold yb at this ⊢
 exact this
theorem cz.rN (h:cz w a D) (x n:Nat):cz ((w.setCell ⟨a.f,2,none⟩ (.int .u64 x)).setCell ⟨a.f,1,none⟩ (kO n a.f)) a {D with cm:=x,nx:=n}/\
 ab (·=a.f) w ((w.setCell ⟨a.f,2,none⟩ (.int .u64 x)).setCell ⟨a.f,1,none⟩ (kO n a.f)):=by
 have bw:cz (w.setCell ⟨a.f,2,none⟩ (.int .u64 x)) a {D with cm:=x}:=h.own (by simpa [yb] using h.1.store 2 (.int .u64 x)) ((ab.refl (·=a.f) w).setCell (p:=⟨a.f,2,none⟩) (.inl rfl) (.int .u64 x)) rfl
 exact ⟨hP2.next n,((ab.refl (·=a.f) w).setCell (p:=⟨a.f,2,none⟩) (.inl rfl) (.int .u64 x)).setCell (p:=⟨a.f,1,none⟩) (.inl rfl) (kO n a.f)⟩
abbrev ov (w:World) (M:Mo) (a:Qa) (D:Dt) (L':Lm) (D':Dt) (w':World):Prop:=Bb.ba w M a D L' D' w'
theorem FF {a a':Qa} {D D':Dt} (ea:a'=a) (eS:D'.H.f=D.H.f) {n:Nat} (x:Nat) (q:gC a' D' x):gC a D x\/n<=x:=by
 subst ea
 rcases q with q | q | q | q
 ·exact .inl (.inl q)
 ·exact .inl (.inr (.inl q))
 ·exact .inl (.inr (.inr (.inl (q.trans eS))))
 ·exact .inl (.inr (.inr (.inr q)))
theorem FG {L':Lm} {D':Dt} {w1 w2:World} (h:pb w M L' w1) (hP:cz w a D) (hM:ah w M) (bw:cz w1 a D->cz w2 a D') (eS:D'.H.f=D.H.f) (ho:ab (·=a.f) w1 w2):ov w M a D L' D' w2:=by
 obtain ⟨M1,av,el,hK,hO⟩:=h
 have aY:=hP.only hO (fun x hx q=>hP.aA hM hx q)
 exact ⟨M1,a,av.only ho (fun x hx q=>aY.aA av (.inl rfl) (q▸hx)),el,hK,bw aY,rfl,FF rfl eS,(hO.mono (fun x _ q=>(.inl q:ao M x\/gC a D x))).trans' ho (fun x _ q=>.inr (.inl q))⟩
def aN (L:Lm) (D:Dt):Lm×Dt:=
 if D.nx=2 then ((aG L D.bu).1,{D with bu:=(aG L D.bu).2,nx:=if bW L D.bu=true then (if (aG L D.bu).2.W.found≠0 then 4 else 6) else 2})
 else if D.nx=4 then (jR L D.bu D.W.nd.next.toNat,{D with cm:=D.W.found,nx:=5})
 else if D.nx=5 then ({L with ws:=L.ws++[D.cm]},{D with cm:=0,nx:=6})
 else ({L with hs:=L.hs.set D.H.lock (-1)},{D with H:={D.H with holds:=false},nx:=7})
def fN (L:Lm) (D:Dt):Bool:=eJ L D.bu
def iV (_:Lm) (D:Dt):Bool:=decide (6<=D.nx)
structure vg (L:Lm) (D:Dt):Prop where
 nx:D.nx=2\/D.nx=4\/D.nx=5\/D.nx=6
 ph:D.nx≠2->D.ph≠1
 sk:D.nx=2->∃ r,qw r L D.bu
 lead:D.nx=4->0<=D.W.nd.next/\pe L D.bu D.W.nd.next.toNat
 ret:D.nx=5->L.ws.length<=1000000
 drop:D.nx=6->gY L.xs L.ds (L.hs,D.H)/\D.H.holds=true
def Bc (w:World) (M:Mo) (a:Qa) (D:Dt) (L':Lm) (D':Dt) (w':World):Prop:=
 ∃ M' b,ah w' M'/\lm M'=L'/\gm w M M'/\cz w' {a with w:=b} D'/\(∀ x,gC {a with w:=b} D' x->gC a D x\/w.heap.size<=x)/\ab (fun x=>ao M x\/gC a D x) w w'
theorem Bc.pg {L':Lm} {D':Dt} (h:Bc w M a D L' D' w'):ov w M a D L' D' w':=by
 obtain ⟨M',b,h1,h2,h3,h4,h5,h6⟩:=h
 exact ⟨M',{a with w:=b},h1,h2,h3,h4,rfl,h5,h6⟩
theorem Na (hM:ah w M) (h:cz w a D) {r:Nat} (ok:qw r (lm M) D.bu) (hr:eJ (lm M) D.bu=true):
 Calls Tryz.prog 143 #[ptr a.s,ptr M.m] w fun e w'=>e=.returned (.bool (bW (lm M) D.bu))/\Bc w M a D (aG (lm M) D.bu).1 {D with bu:=(aG (lm M) D.bu).2} w':=by
 refine (FH hM h.2 ok hr).mono fun e w' q=>⟨q.1,?_⟩
 obtain ⟨M',a',h1,h2,h3,h4,h5,h6,h7⟩:=q.2
 have hp:=h.vq h4 h5 h7 (by
  rintro (q | q)
  ·exact h.aA hM (.inl rfl) q
  ·exact h.self q rfl)
 refine ⟨M',a'.w,h1,h2,h3,hp,?_,h7.mono fun x _ q=>q.imp id .inr⟩
 rintro x (q | q)
 ·exact .inl (.inl q)
 ·have e:a'=(⟨a.s,a'.w⟩:Sa):=by
   obtain ⟨f',b'⟩:=a'
   have:f'=a.s:=h5
   rw [this]
  exact (h6 x (by rw [e]; exact q)).imp .inr id
theorem vd (h:cz w a D):Calls Tryz.prog 272 #[ptr a.f] w fun e w'=>e=.returned (.int .u64 D.cm)/\w=w':=by
 have c:=h.hd.2.2
 clear h
 go_enter Tryz.func272,Tryz.ntmps272
 go_wp2
 go_ret
 exact ⟨rfl,rfl⟩
theorem ve (h:cz w a D):Calls Tryz.prog 82 #[ptr a.f] w fun e w'=>e=.returned (.tuple #[.string D.W.nd.val,.bool (decide (D.W.found≠0))])/\Below w.heap.size w w':=by
 have c:=h.hd.1
 have hR:=tF h.2
 unfold dU at hR
 generalize decide (D.W.found≠0)=b at*
 generalize D.W.found=x at*
 generalize D.W.nd=n at*
 obtain ⟨nk,nv,ns,nn⟩:=n
 simp only at hR ⊢
 replace hR:=Lib.hid hR
 clear h
 go_enter Tryz.func82,Tryz.ntmps82
 go_wp2_with fail
 refine hR.out.mono ?_
 rintro e w1 ⟨rfl,hb⟩
 have au:=Lib.hid ((hb.alloc (o:=.cells #[.string nk,.string nv,.int .u32 ns,.int .u64 nn] 67) hb.size))
 clear c hb
 go_wp2_with fail
 go_ret2
 exact ⟨rfl,au.out⟩
set_option maxHeartbeats 1000000 in
theorem Bd (hM:ah w M) (h:cz w a D) {r:Nat} (ok:qw r (lm M) D.bu) (hr:eJ (lm M) D.bu=true) (h2:D.nx=2):
 Calls Tryz.prog 108 #[ptr a.f,ptr M.m] w fun e w'=>e=.returned (.bool false)/\ov w M a D (aN (lm M) D).1 (aN (lm M) D).2 w':=by
 have hS:=Na hM h ok hr
 have c3:=h.hd.1
 unfold aN
 rw [if_pos h2]
 simp only
 cases cq:bW (lm M) D.bu with
 | false=>
   rw [cq] at hS
   rw [if_neg (by simp)]
   generalize aG (lm M) D.bu=z at*
   have gS:=hS.mono fun e w' q=>And.intro q.1 q.2.pg
   have eP:({D with bu:=z.2,nx:=2}:Dt)={D with bu:=z.2}:=by rw [<-h2]
   rw [eP]
   replace hS:=Lib.hid gS
   clear cq h hM ok hr h2 eP gS
   go_enter Tryz.func108,Tryz.ntmps108
   go_wp2_with fail
   refine hS.out.mono ?_
   rintro e w1 ⟨rfl,hW⟩
   replace hW:=Lib.hid hW
   clear hS c3
   go_wp2_with fail
   go_ret
   exact ⟨rfl,hW.out⟩
 | true=>
   rw [cq] at hS
   rw [if_pos rfl]
   generalize aG (lm M) D.bu=z at*
   obtain ⟨L',S'⟩:=z
   simp only at hS ⊢
   replace hS:=Lib.hid hS
   clear cq h hM ok hr h2
   obtain ⟨cb,gT⟩:∃ cb,cb=decide (S'.W.found≠0):=⟨_,rfl⟩
   have e6:(if S'.W.found≠0 then 4 else 6:Nat)=if cb=true then 4 else 6:=by rw [gT]; simp
   rw [e6]
   clear e6
   replace gT:=Lib.hid gT
   go_enter Tryz.func108,Tryz.ntmps108
   go_wp2_with fail
   refine hS.out.mono ?_
   rintro e w1 ⟨rfl,M1,b,av,el,hK,aY,iq,aw⟩
   have k4:=aY.hd.2.1
   have z4:=aY.cV 1
   have m9:=aY.next 6
   have fo:=(ab.refl (·=a.f) w1).setCell (p:=⟨a.f,1,none⟩) (.inl rfl) (kO 6 a.f)
   have far1:∀ x,ao M1 x->¬x=a.f:=fun x hx q=>aY.aA av (.inl rfl) (q▸hx)
   have ja:=av.only fo far1
   have uu:=aw.trans' fo (fun x _ q=>.inr (.inl q))
   have cF:=tF m9.2
   unfold dU at cF
   rw [<-gT.out] at cF
   obtain ⟨x,hx⟩:∃ x,x=S'.W.found:=⟨_,rfl⟩
   obtain ⟨n,hn⟩:∃ n,n=S'.W.nd:=⟨_,rfl⟩
   rw [<-hx,<-hn] at cF
   obtain ⟨nk,nv,ns,nn⟩:=n
   simp only at cF
   obtain ⟨w2,bl⟩:∃ w2,w2=w1.setCell ⟨a.f,1,none⟩ (aS 144 (ptr a.f)):=⟨_,rfl⟩
   have Ju:w1.setCell ⟨a.f,1,none⟩ (kO 6 a.f)=w2:=bl.symm
   rw [Ju] at cF ja m9 uu
   have h6:=Lib.hid (fun w3 (hb:Below w2.heap.size w2 w3)=>show ov w M a D L' {D with bu:=S',nx:=6} w3 from
    ⟨M1,{a with w:=b},ja.below hb,el,hK,m9.below hb,rfl,iq,uu.below hb⟩)
   have h4:=Lib.hid (fun w3 (hb:Below w2.heap.size w2 w3)=>show ov w M a D L' {D with bu:=S',nx:=4} (w3.setCell ⟨a.f,1,none⟩ (kO 4 a.f)) from by
    have br:=ja.below hb
    have bg:=m9.below hb
    have aq:=uu.below hb
    have aL:=(ab.refl (·=a.f) w3).setCell (p:=⟨a.f,1,none⟩) (.inl rfl) (kO 4 a.f)
    exact ⟨M1,{a with w:=b},br.only aL (fun x hx q=>bg.aA br (.inl rfl) (q▸hx)),el,hK,bg.next 4,rfl,iq,aq.trans' aL (fun x _ q=>.inr (.inl q))⟩)
   have hq:=Lib.hid (fun w3 (hb:Below w2.heap.size w2 w3)=>show w3.cell? ⟨a.f,1,none⟩=some (kO 6 a.f)/\w3.frozen? ⟨a.f,1,none⟩=false/\a.f<w3.heap.size from
    ⟨(m9.below hb).hd.2.1,(m9.below hb).cV 1,(m9.below hb).1.lt⟩)
   have k0:=m9.hd.1
   have l0:=m9.1.lt
   replace cF:=Lib.hid cF
   clear fo av aY aw hS c3 far1 hx hn ja m9 uu el hK iq Ju
   go_upto_region 4 with (fail)
   rw [<-bl]
   clear bl k4 z4
   go_wp2_with fail
   refine cF.out.mono ?_
   rintro e w3 ⟨rfl,aZ⟩
   have fC:=aZ.alloc (o:=.cells #[.string nk,.string nv,.int .u32 ns,.int .u64 nn] 67) aZ.size
   obtain ⟨w4,wG⟩:∃ w4,w4=w3.alloc (.cells #[.string nk,.string nv,.int .u32 ns,.int .u64 nn] 67):=⟨_,rfl⟩
   rw [<-wG] at fC
   obtain ⟨k4,z4,l4⟩:=hq.out w4 fC
   have UX:=Lib.hid (h6.out w4 fC)
   have UY:=Lib.hid (h4.out w4 fC)
   clear aZ fC cF h6 h4 hq k0 l0
   go_upto_region 5 with (fail)
   rw [<-wG]
   clear wG
   cases cb
   all_goals
    go_wp2_with fail
    go_ret
    first
     | exact ⟨rfl,UY.out⟩
     | exact ⟨rfl,UX.out⟩
set_option maxHeartbeats 1000000 in
theorem Nb (hM:ah w M) (h:cz w a D) (hz:0<=D.W.nd.next) (ok:pe (lm M) D.bu D.W.nd.next.toNat) (h4:D.nx=4):
 Calls Tryz.prog 145 #[ptr a.f,ptr M.m] w fun e w'=>e=.returned (.bool false)/\ov w M a D (aN (lm M) D).1 (aN (lm M) D).2 w':=by
 have cF:=tF h.2
 have hR:=fun w1 (hb:Below w.heap.size w w1)=>(FI (hM.below hb) (h.2.below hb) ok).mono fun e w' q=>show e=.returned (.tuple #[])/\pb w M (jR (lm M) D.bu D.W.nd.next.toNat) w'/\ab (ao M) w1 w' from
  ⟨q.1,by obtain ⟨M',h1,h2,h3,_,h5⟩:=q.2; exact ⟨⟨M',h1,h2,(gm.refl w M).trans h3 hb.size,(ab.aD hb _).trans h5⟩,h5⟩⟩
 rw [show ((D.W.nd.next.toNat:Nat):Int)=D.W.nd.next by omega] at hR
 have c0:=h.hd.1
 have HP:=Lib.hid h
 have HM:=Lib.hid hM
 have bn:=Lib.hid (fun x (q:ao M x)=>hM.lt q)
 unfold aN
 rw [if_neg (by omega),if_pos h4]
 generalize jR (lm M) D.bu D.W.nd.next.toNat=L' at*
 obtain ⟨x,hx⟩:∃ x,x=D.W.found:=⟨_,rfl⟩
 obtain ⟨n,hn⟩:∃ n,n=D.W.nd:=⟨_,rfl⟩
 unfold dU at cF
 rw [<-hx,<-hn] at cF
 rw [<-hn] at hR
 rw [<-hx]
 obtain ⟨nk,nv,ns,nn⟩:=n
 generalize decide (x≠0)=bx at*
 simp only at cF hR
 have iL:Hid (∀ w1 w2 (D':Dt),pb w M L' w1->(cz w1 a D->cz w2 a D')->D'.H.f=D.H.f->ab (·=a.f) w1 w2->ov w M a D L' D' w2):=Lib.hid (fun w1 w2 D' hW hq eS ho=>FG hW h hM hq eS ho)
 replace cF:=Lib.hid cF
 replace hR:=Lib.hid hR
 clear h hM h4 ok hx hn hz
 go_enter Tryz.func145,Tryz.ntmps145
 go_wp2_with fail
 refine cF.out.mono ?_
 rintro e w1 ⟨rfl,ax⟩
 have au:=ax.alloc (o:=.cells #[.string nk,.string nv,.int .u32 ns,.int .u64 nn] 67) ax.size
 obtain ⟨w2,bl⟩:∃ w2,w2=w1.alloc (.cells #[.string nk,.string nv,.int .u32 ns,.int .u64 nn] 67):=⟨_,rfl⟩
 rw [<-bl] at au
 have lH:af w2 w1.heap.size 67 #[.string nk,.string nv,.int .u32 ns,.int .u64 nn]:=by rw [bl]; exact af.made w1 _ _
 obtain ⟨nb,mn⟩:∃ nb,nb=w1.heap.size:=⟨_,rfl⟩
 rw [<-mn] at lH
 have W9:w.heap.size<=nb:=by rw [mn]; exact ax.size
 have j0:=(HP.out.below au).hd.1
 have j3:=lH.cell 3
 simp at j3
 have cB:=Lib.hid (fun n=>hR.out (w2.drewN n) (au.trans ⟨rfl,rfl,rfl,by simp,fun _ _=>rfl⟩))
 have UZ:=Lib.hid (fun n=>show af (w2.drewN n) nb 67 #[.string nk,.string nv,.int .u32 ns,.int .u64 nn] from lH.only ((ab.refl (fun _=>False) w2).drewN n) (by simp))
 clear ax au hR cF c0 lH
 go_upto_region 2 with (fail)
 rw [<-bl,<-mn]
 clear bl mn
 go_region_held3 (fun w'=>w'.cell? ⟨a.f,0,none⟩=some (ptr a.s)/\w'.cell? ⟨nb,3,none⟩=some (.int .u64 nn)) (go_keep)
  (first
    | (go_at_call 179
       refine (cB.out 1).mono ?_
       rintro e w3 ⟨rfl,hW,hO⟩
       have bg:cz w3 a D:=by
        obtain ⟨M1,_,_,_,hO⟩:=hW
        exact HP.out.only hO (fun x hx q=>HP.out.aA HM.out hx q)
       have k0:=bg.hd.1
       have k1:=bg.hd.2.1
       have k2:=bg.hd.2.2
       have z1:=bg.cV 1
       have z2:=bg.cV 2
       have wH:=(UZ.out 1).only hO (fun q=>by have:=bn.out _ q; omega)
       have k3:=wH.cell 3
       simp at k3
       have hE:=Lib.hid (iL.out _ _ _ hW (fun q=>(q.rN x 5).1) rfl (bg.rN x 5).2)
       clear bg hW hO wH cB))
 all_goals
  go_wp2_with fail
  go_ret
  exact ⟨rfl,hE.out⟩
theorem Nc (hM:ah w M) (h:cz w a D) (hn:M.ws.length<=1000000) (h5:D.nx=5):
 Calls Tryz.prog 180 #[ptr a.f,ptr M.m] w fun e w'=>e=.returned (.bool false)/\ov w M a D (aN (lm M) D).1 (aN (lm M) D).2 w':=by
 have hR:=Lib.hid (FJ hM D.cm hn)
 have c6:=h.hd.2.2
 have HP:=Lib.hid h
 have HM:=Lib.hid hM
 unfold aN
 rw [if_neg (by omega),if_neg (by omega),if_pos h5]
 clear h hM hn h5
 go_enter Tryz.func180,Tryz.ntmps180
 go_wp2_with fail
 refine hR.out.mono ?_
 rintro e w1 ⟨rfl,hW⟩
 have aY:cz w1 a D:=by
  obtain ⟨M1,_,_,_,hO⟩:=hW
  exact HP.out.only hO (fun x hx q=>HP.out.aA HM.out hx q)
 have k6:=aY.hd.2.2
 have k4:=aY.hd.2.1
 have z6:=aY.cV 2
 have z4:=aY.cV 1
 have hE:=Lib.hid (FG hW HP.out HM.out (fun q=>(q.rN 0 6).1) rfl (aY.rN 0 6).2)
 clear aY hW hR c6
 go_wp2_with fail
 go_ret
 exact ⟨rfl,hE.out⟩
theorem Nf (hM:ah w M) (h:cz w a D) (hl:gY M.xs M.ds (M.hs,D.H)) (hh:D.H.holds=true) (h6:D.nx=6):
 Calls Tryz.prog 144 #[ptr a.f,ptr M.m] w fun e w'=>e=.returned (.bool true)/\ov w M a D (aN (lm M) D).1 (aN (lm M) D).2 w':=by
 have hR:=Lib.hid (FK hM h.2 hl hh)
 have c3:=h.hd.1
 have HP:=Lib.hid h
 have HM:=Lib.hid hM
 unfold aN
 rw [if_neg (by omega),if_neg (by omega),if_neg (by omega)]
 clear h hM hl hh h6
 go_enter Tryz.func144,Tryz.ntmps144
 go_wp2_with fail
 refine hR.out.mono ?_
 rintro e w1 ⟨rfl,av,kZ,aw⟩
 have aY:=HP.out.vq kZ rfl aw (by
  rintro (q | q)
  ·exact HP.out.aA HM.out (.inl rfl) q
  ·exact HP.out.self q rfl)
 have k4:=aY.hd.2.1
 have z4:=aY.cV 1
 have bg:=Lib.hid (aY.next 7)
 have aq:=(ab.refl (·=a.f) w1).setCell (p:=⟨a.f,1,none⟩) (.inl rfl) (kO 7 a.f)
 have br:=Lib.hid (av.only aq (fun x hx q=>aY.aA av (.inl rfl) (q▸hx)))
 have wI:Hid (ab (fun x=>ao M x\/gC a D x) w _):=Lib.hid ((aw.mono (fun x _ q=>q.imp id .inr)).trans' aq (fun x _ q=>.inr (.inl q)))
 clear aY aq av aw hR c3 kZ
 go_wp2_with fail
 go_ret
 exact ⟨rfl,_,a,br.out,rfl,⟨rfl,rfl,rfl,rfl,fun _ q=>.inl q⟩,bg.out,rfl,FF rfl rfl,wI.out⟩
end
end Go.Proofs.YtpanebgakndddaaGreat.Dl
namespace Go.Proofs.YtpanebgakndddaaGreat.Me
open Go Go.RowKit Hp K Fl Rw Hm Ar Mm
set_option maxRecDepth 100000
/-! ### the map-/
abbrev DH:=DataW Unit
abbrev tX (x:Nat):Lit:=.int .u64 x
abbrev tY (v:Bool):DH:=.lit (.bool v)
def Met (w:World) (B:Nat) (ms:List Nat):Prop:=∃ (n:Nat) (D:DH),w.ownsMap Tryz.prog 40 (plainElem Tryz.prog 4) B n D/\n<=ms.length/\∀ x,x<=18446744073709551615->D.atKey (tX x) (tY false)=tY (decide (x∈ms))
theorem keyed:Maps.Keyed Tryz.prog 40:=Maps.int_keyed Tryz.underlying40
theorem QK (w:World):(zeroValue 4).run Tryz.prog w=.ok (.bool false) w:=by kernel_rfl
theorem QL {x:Nat} (hx:x<=18446744073709551615):(Lit.int .u64 (x:Int)).wf=true:=by
 simp [Lit.wf,IntKind.min,IntKind.max,IntKind.signed,IntKind.bits]; omega
theorem yH {x:Nat} (hx:x<=18446744073709551615):keyOf Tryz.prog 40 (.int .u64 x)=some (tX x):=Maps.keyOf_int_mk Tryz.underlying40 (QL hx)
theorem QM {x:Nat} (hx:x<=18446744073709551615):WideAt.IsKeyLit (tX x):=keyed.key (yH hx)
theorem Met.made (w:World):Met (w.alloc (.map #[] 0)) w.heap.size []:=
 ⟨0,.map [],World.ownsMap_made _ _ _ _,Nat.le_refl _,fun x _=>by simp [DataW.atKey]⟩
theorem Met.lt {w:World} {B:Nat} {ms:List Nat} (h:Met w B ms):B<w.heap.size:=by obtain ⟨n,D,hm,r⟩:=h; exact hm.lt
theorem Met.only {S:Nat->Prop} {w w':World} {B:Nat} {ms:List Nat} (h:Met w B ms) (ho:ab S w w') (hn:¬S B):Met w' B ms:=by
 obtain ⟨n,D,hm,r⟩:=h
 have bn:=hm.lt
 obtain ⟨es,clock,hb,F,hs,hD⟩:=hm
 exact ⟨n,D,⟨es,clock,(ho.block B bn hn).trans hb,F,hs,hD⟩,r⟩
theorem Met.no {w:World} {B:Nat} {ms:List Nat} (h:Met w B ms) {ts:List TypeId} (ht:Ty w B ts):False:=by
 obtain ⟨n,D,hm,r⟩:=h
 obtain ⟨es,clock,hb,_⟩:=hm
 obtain ⟨t,cs,cN,_⟩:=ht
 have e:=hb.symm.trans cN
 injection e with e
 injection e
theorem Met.look {w:World} {B:Nat} {ms:List Nat} (h:Met w B ms) {x:Nat} (hx:x<=18446744073709551615):(Instr.lookup 202 (.map (some B)) (.int .u64 x) false).run Tryz.prog w=.ok (.bool (decide (x∈ms))) w:=by
 obtain ⟨n,D,hm,_,bO⟩:=h
 obtain ⟨v,ps,fI,hv⟩:=hm.lookup keyed Tryz.underlying202 (QK w) (plainElem_bool Tryz.underlying4 false) (yH hx)
 rw [fI]
 rw [bO x hx] at hv
 unfold plainElem at hv
 rw [Tryz.underlying4] at hv
 cases v<;>simp at hv
 rw [hv.1]
theorem Hz {w:World} {B n:Nat} {D:DH} {ms:List Nat} {x:Nat} (hx:x<=18446744073709551615) {w0:World} {n0:Nat} (pL:w0.ownsMap Tryz.prog 40 (plainElem Tryz.prog 4) B n0 D) (hm:w.ownsMap Tryz.prog 40 (plainElem Tryz.prog 4) B (n+1) (D.put (tX x) (tY true))) (hn:n<=ms.length) (bO:∀ x,x<=18446744073709551615->D.atKey (tX x) (tY false)=tY (decide (x∈ms))):Met w B (x::ms):=by
 have hD:Maps.IsMap D:=by obtain ⟨es,clock,_,_,_,hD⟩:=pL; exact ⟨_,hD⟩
 refine ⟨n+1,_,hm,by simp; omega,fun y hy=>?_⟩
 by_cases e:y=x
 ·subst e
  rw [Maps.atKey_put_same hD (QM hx)]
  simp
 ·have aH:tX y≠MKey x:=fun h=>by
   injection h with _ h
   exact e (by omega)
  rw [Maps.atKey_put_other aH,bO y hy]
  simp [e]
theorem QN {w:World} {ops:Array Oper} {rest:List Oper} {o:Oper} {a:Act} {Q:Exit->Act->World->Prop} (pQ:o.guard=none) (m x v:Operand)
 (wO:o.op=Op.mapUpdate 202 m x v) (B:Nat) (ms:List Nat) (h:Met w B ms) (hl:ms.length<=1000000) (y:Nat) (hy:y<=18446744073709551615)
 (hm:a.eval m=.map (some B)) (hx:a.eval x=.int .u64 y) (hv:a.eval v=.bool true)
 (hK:∀ w',Met w' B (y::ms)->ab (·=B) w w'->wpList Tryz.prog ops Q rest (a.put o.dst undef) w'):wpList Tryz.prog ops Q (o::rest) a w:=by
 obtain ⟨n,D,hM,hn,bO⟩:=h
 refine wpList_mapUpdate_own w pQ m x v 202 wO 40 4 keyed Tryz.underlying202 _ B n D hm hM (by unfold maxLen; omega) _ _ _ hx hv (yH hy) (tY true) [] (plainElem_bool Tryz.underlying4 true) ?_
 intro w' j8 hg
 exact hK w' (Hz hy hM j8 hn bO) ((ab.refl (·=B) w).grown hg (fun z hz=>.inl (by injection hz with hz; exact hz.symm)))
/-! ### follow-/
def HA (w wr:World) (M:Mo) (B:Nat) (A0:Option Addr) (all ms t:List Nat) (v hv:Value):Prop:=
 ∃ (A:Option Addr) (cap:Nat) (out:List Nat) (x:Nat) (rest:List Nat),v=.slice A (all.length+out.length) cap/\hv=.int .u64 x/\pE wr A cap (all++out)/\Met wr B (out.reverse++ms)/\
   t=out++rest/\Ch M.ss (out.reverse++ms) x rest/\ab (fun x=>x=B\/In A0 x) w wr/\(∀ x,In A x->In A0 x\/w.heap.size<=x)/\x<=18446744073709551615
def Followed (w:World) (B:Nat) (A0:Option Addr) (all ms t:List Nat) (e:Ending) (w':World):Prop:=
 ∃ A cap,e=.returned (.slice A (all.length+t.length) cap)/\pE w' A cap (all++t)/\Met w' B (t.reverse++ms)/\ab (fun x=>x=B\/In A0 x) w w'/\∀ x,In A x->In A0 x\/w.heap.size<=x
set_option maxHeartbeats 4000000 in
theorem QO {w:World} {M:Mo} (h:ah w M) (hN:fg M.ss) (hl:M.ss.length<=1024) (c:Nat) (hc:c<M.xs.length) (A0:Option Addr) (cap0:Nat) (all:List Nat) (hA:pE w A0 cap0 all) (fZ:all.length<=100000)
 (B:Nat) (ms:List Nat) (hM:Met w B ms) (Xo:ms.length<=100000) (dF:∀ x,In A0 x->¬ao M x) (t:List Nat) (ht:Ch M.ss ms (Cl.nth M.xs c).toNat t):
 Calls Tryz.prog 117 #[ptr M.m,.slice A0 all.length cap0,.int .i64 c,.map (some B)] w (Followed w B A0 all ms t):=by
 have il:=Cl.eV h.2.1.2.2.1 c
 have hL:=Cl.mL h.2.1 c hc
 obtain ⟨x0,mE⟩:=Int.eq_ofNat_of_zero_le il.1
 rw [mE] at hL il ht
 rw [Int.toNat_natCast] at ht
 replace hL:=Lib.hid hL
 have eB:=h.hd.1
 have Xp:=HC hl ht
 have H:=Lib.hid h
 have H0:=Lib.hid (show HA w w M B A0 all ms t (.slice A0 all.length cap0) (.int .u64 x0) from ⟨A0,cap0,[],x0,t,rfl,rfl,by simpa using hA,by simpa using hM,rfl,by simpa using ht,ab.refl _ _,fun x hx=>.inl hx,by omega⟩)
 replace dF:=Lib.hid dF
 replace hN:=Lib.hid hN
 have Ko:=Lib.hid (fun x (hx:ao M x) (e:x=B)=>hM.no (by rw [<-e]; exact h.ty hx))
 have Xq:=Lib.hid (fun (hx:In A0 B)=>hM.no (cp hA hx))
 clear h hA hM ht mE il hc
 obtain ⟨i0,cW,cP,cT,dh⟩:=info_parts Cj
 generalize ni:all.length=al at*
 replace ni:=Lib.hid ni
 go_enter Tryz.func117,Tryz.ntmps117
 go_wp2_with (go_at_call 90; refine hL.out.mono ?_; rintro e w' ⟨rfl,hw⟩; obtain rfl:w=w':=hw.symm)
 clear hL eB
 go_loopw [1,11] (fun v hv wr=>HA w wr M B A0 all ms t v hv) (fun v _ _=>(match v with | .slice _ n _=>al+t.length-n | _=>0))
 case atStart=>exact H0.out
 case round=>
  obtain ⟨A,cap,out,x,rest,rfl,rfl,hA,hM,nZ,dB,hO,dq,hx⟩:=lD
  clear H0
  have mF:=H.out.only hO (fun y hy q=>by
   rcases q with q | q
   ·exact Ko.out y hy q
   ·exact dF.out y q hy)
  have m2:=mF.hd.2.2.1
  have cE:=hM.look hx
  have aE:out.length<=1024:=by have:t.length=out.length+rest.length:=by rw [nZ,List.length_append]
                               omega
  replace hA:=Lib.hid hA
  replace hM:=Lib.hid hM
  replace hO:=Lib.hid hO
  replace dq:=Lib.hid dq
  replace mF:=Lib.hid mF
  rw [ni.out]
  cases dB with
  | stop hs=>
    rcases EU M.ss x with ⟨k,hk⟩ | ⟨cd,Kq⟩
    ·have xA:=Lib.hid (EW mF.out.2.2.2.1 hx hk)
     have qh:decide (x∈out.reverse++ms)=true:=by
      rcases hs with q | q
      ·exact absurd hk (q k)
      ·simpa using q
     rw [qh] at cE
     replace nZ:=Lib.hid nZ
     clear hs qh hk
     go_wp2_with (go_at_call 155; refine xA.out.mono ?_; rintro e w' ⟨rfl,rfl⟩)
     go_ret
     have e1:=nZ.out
     rw [List.append_nil] at e1
     subst e1
     exact ⟨A,cap,by rw [ni.out]; rfl,hA.out,hM.out,hO.out,dq.out⟩
    ·have xA:=Lib.hid (Lh mF.out.2.2.2.1 hx Kq)
     replace nZ:=Lib.hid nZ
     clear hs Kq cE
     go_wp2_with (go_at_call 155; refine xA.out.mono ?_; rintro e w' ⟨rfl,rfl⟩)
     go_ret
     have e1:=nZ.out
     rw [List.append_nil] at e1
     subst e1
     exact ⟨A,cap,by rw [ni.out]; rfl,hA.out,hM.out,hO.out,dq.out⟩
  | @go _ _ k t' hk qM hr=>
    have xA:=Lib.hid (EW mF.out.2.2.2.1 hx hk)
    have qh:decide (x∈out.reverse++ms)=false:=by simpa using qM
    rw [qh] at cE
    replace nZ:=Lib.hid nZ
    replace hr:=Lib.hid hr
    replace hk:=Lib.hid hk
    clear qh qM
    go_wp2_with (first
     | (go_at_call 155; refine xA.out.mono ?_; rintro e w' ⟨rfl,rfl⟩)
     | (at_mapUpdate
        refine QN rfl _ _ _ rfl B (out.reverse++ms) hM.out (by simp; omega) x hx rfl rfl rfl ?_
        intro w1 av aw
        have VY:=Lib.hid (mF.out.only aw (fun y hy q=>Ko.out y hy q))
        have da:=Lib.hid (hA.out.only aw (fun y hy q=>by
         subst q
         exact hM.out.no (cp hA.out hy)))
        replace av:=Lib.hid av
        replace aw:=Lib.hid aw
        clear m2 cE)
     | (at_builtin
        refine rV w1 rfl (.tmp 38) (.tmp 40) 61 rfl 40 i0 (.int .u64 0) 1 8 Tryz.underlying61 cW cP cT dh rfl (by omega) bB (fun _=>rfl) (by intro x u hu; simp [bB] at hu; subst hu; rfl)
         A cap (al+out.length) (all++out) (by rw [List.length_append,ni.out]) x #[.int .u64 x] rfl rfl da.out rfl (by simp only [maxLen]; omega) (by omega) ?_
        intro A2 cap2 w2 cB ae bH
        have aU:∀ y,In A y->ao M y->False:=fun y hy hm=>by
         have h1:=H.out.lt hm
         rcases dq.out y hy with q | q
         ·exact dF.out y q hm
         ·omega
        have uQ:=VY.out.only ae (fun y hm hy=>aU y hy hm)
        have aB:=Lib.hid (av.out.only ae (fun hy=>av.out.no (cp da.out hy)))
        have m2:=uQ.hd.2.2.1
        have jZ:=xN uQ.2.2.2.1 hx hk.out
        obtain ⟨e1,e2⟩:=hN.out.at k
        have j9:=Lib.hid ((hO.out.trans' aw.out (fun y _ q=>.inl q)).trans' (S:=fun x=>x=B\/In A0 x) ae (fun y hy q=>by
         rcases dq.out y q with q | q
         ·exact .inr q
         ·omega))
        generalize (ai M.ss k).nd=dd at*
        obtain ⟨ky,vl,sm,nxt⟩:=dd
        simp only at e1
        subst e1
        generalize nx M.ss k=nk at*
        unfold dU at jZ
        replace jZ:=Lib.hid jZ
        replace uQ:=Lib.hid uQ
        replace cB:=Lib.hid cB
        replace bH:=Lib.hid (fun y (hy:In A2 y)=>show In A0 y\/w.heap.size<=y from by
         rcases bH y hy with q | q
         ·exact dq.out y q
         ·exact .inr (Nat.le_trans (hO.out.trans' aw.out (fun y _ q=>.inl q)).size q))
        clear aU ae)
     | (go_at_call 156
        refine jZ.out.mono ?_
        rintro e w3 ⟨rfl,ay⟩
        replace ay:=Lib.hid ay
        clear m2))
    go_roundw
    case rel=>
     have Kr:=(ab.refl (fun _=>False) w2).below ay.out
     refine ⟨A2,cap2,out++[x],nk,t',by rw [ni.out,List.length_append]; rfl,rfl,?_,?_,by rw [List.append_assoc]; exact nZ.out,by simpa using hr.out,?_,bH.out,e2⟩
     ·rw [<-List.append_assoc]
      exact cB.out.only (Kr.alloc _) (by simp)
     ·have:(out++[x]).reverse++ms=x::(out.reverse++ms):=by simp
      rw [this]
      exact aB.out.only (Kr.alloc _) (by simp)
     ·exact (j9.out.below ay.out).alloc _
    case measure=>
     have:=nZ.out
     have h1:t.length=out.length+(t'.length+1):=by rw [this]; simp
     simp
     omega
end Go.Proofs.YtpanebgakndddaaGreat.Me
namespace Go.Proofs.YtpanebgakndddaaGreat.Me
open Go Go.RowKit Hp K Fl Rw Hm Ar Mm
set_option maxRecDepth 100000
def first (xs:List Int) (ds:List (Nat×Nat)) (b:Nat):Nat:=(Cl.nth xs ((now xs ds).2+b)).toNat
def Co (xs:List Int) (ds:List (Nat×Nat)) (ss:List Sl) (t:List Nat):Prop:=Rh ss (first xs ds) (now xs ds).1 t
def Q1 (w:World) (ty:TypeId) (t:List Nat) (e:Ending) (w':World):Prop:=
 ∃ A cap,e=.returned (.slice A t.length cap)/\Row w' ty 1 bB A cap t/\Below w.heap.size w w'/\∀ x,In A x->w.heap.size<=x
section
variable {w:World} {M:Mo}
def HT (w wr:World) (M:Mo) (B q:Nat) (d:Nat×Nat) (f:Nat->Nat) (v:Value) (b:Nat):Prop:=
 ∃ (A:Option Addr) (cap:Nat) (all ms:List Nat),v=.slice A all.length cap/\Rh M.ss f b all/\pE wr A cap all/\Met wr B ms/\(∀ x,x∈all↔x∈ms)/\ms.length<=all.length/\
   ah wr M/\af wr q 141 #[.int .i64 d.1,.int .i64 d.2]/\Below w.heap.size w wr/\(∀ x,In A x->w.heap.size<=x)/\w.heap.size<=B
set_option maxHeartbeats 1000000 in
theorem Q2 (h:ah w M) (hT:lY M.xs M.ds) (hx:1<M.xs.length) (hN:fg M.ss) (hl:M.ss.length<=1024) (t:List Nat) (ht:Co M.xs M.ds M.ss t):
 Calls Tryz.prog 87 #[ptr M.m] w (Q1 w 40 t):=by
 have xB:=pj h hx
 have th:=hT.now
 have H:=Lib.hid h
 have bA:=h.2.1.2.2.2
 unfold Co at ht
 obtain ⟨⟨d1,d2⟩,hd⟩:∃ d,now M.xs M.ds=d:=⟨_,rfl⟩
 have Kv:first M.xs M.ds=fun b=>(Cl.nth M.xs (d2+b)).toNat:=by unfold first; rw [hd]
 rw [hd] at xB th
 rw [hd,Kv] at ht
 simp only at ht th
 clear Kv hd h
 unfold dv at xB
 replace xB:=Lib.hid xB
 have hF:Hid (∀ w2 A cap all B ms u k,k<d1->ah w2 M->pE w2 A cap all->all.length<=1024->Met w2 B ms->ms.length<=1024->(∀ x,In A x->¬ao M x)->Ch M.ss ms (Cl.nth M.xs (d2+k)).toNat u->Calls Tryz.prog 117 #[ptr M.m,.slice A all.length cap,.int .i64 ((d2:Int)+(k:Int)),.map (some B)] w2 (Followed w2 B A all ms u)):=Lib.hid fun w2 A cap all B ms u k hk h2 ha ni hm rp dF hu=>by
  have ri:=th.2.1 (by omega)
  have:=QO h2 hN hl (d2+k) (by omega) A cap all ha (by omega) B ms hm (by omega) dF u hu
  rw [Int.natCast_add] at this
  exact this
 clear hT hN hx
 have Xr:=th.1
 have Xs:=th.2.2
 replace th:=Lib.hid th
 replace ht:=Lib.hid ht
 have uz:=@run_makeMap Tryz.prog
 go_enter Tryz.func87,Tryz.ntmps87
 go_wp2_with (go_at_call 64; refine xB.out.mono ?_; rintro e w1 ⟨rfl,aJ⟩
              have av:=Lib.hid (H.out.below aJ)
              replace aJ:=Lib.hid aJ)
 have H0:=Lib.hid (show HT w ((w1.alloc (.cells #[.int .i64 d1,.int .i64 d2] 141)).alloc (.map #[] 0)) M (w1.heap.size+1) w1.heap.size (d1,d2) (fun b=>(Cl.nth M.xs (d2+b)).toNat) (.slice none 0 0) 0 from by
  have hs:=aJ.out.size
  refine ⟨none,0,[],[],rfl,.zero,Row.nil _ _ _ _,?_,by simp,by simp,(av.out.alloc _).alloc _,(af.made w1 _ _).alloc _,?_,by simp [In],by omega⟩
  ·have:=Met.made (w1.alloc (.cells #[.int .i64 d1,.int .i64 d2] 141))
   simpa using this
  ·exact (aJ.out.alloc hs _).alloc (by simp; omega) _)
 go_wp2_with fail
 clear uz
 go_loopw [4,12] (fun v i wr=>∃ b:Nat,b<=d1/\i=.int .i64 b/\HT w wr M (w1.heap.size+1) w1.heap.size (d1,d2) (fun b=>(Cl.nth M.xs (d2+b)).toNat) v b) (fun _ i _=>d1-(intOf i).toNat)
 case atStart=>exact ⟨0,Nat.zero_le _,rfl,H0.out⟩
 case round=>
  obtain ⟨b,hb,rfl,A,cap,all,ms,rfl,hR,hA,hM,xC,rp,mF,hQ,hB,dq,V0⟩:=lD
  clear H0
  have Xt:=QZ hl hR
  by_cases bn:b<d1
  ·obtain ⟨u,hu⟩:=QU M.ss hl all (Cl.nth M.xs (d2+b)).toNat
   have V1:=Lib.hid (hF.out wr A cap all (w1.heap.size+1) ms u b bn mF hA (by omega) hM (by omega) (fun x hx hm=>by
    have h1:=dq x hx
    have h2:=H.out.lt hm
    omega) (QV hu ms xC))
   have c0:=hQ.cell 0
   have c1:=hQ.cell 1
   simp at c0 c1
   replace hA:=Lib.hid hA
   replace hM:=Lib.hid hM
   replace mF:=Lib.hid mF
   replace hQ:=Lib.hid hQ
   replace hB:=Lib.hid hB
   replace dq:=Lib.hid dq
   have V2:=Lib.hid (Rh.succ hR hu)
   have Xu:=HC hl hu
   replace xC:=Lib.hid xC
   clear hu hR
   generalize ni:all.length=al at*
   replace ni:=Lib.hid ni
   go_wp2_with (go_at_call 117
                refine V1.out.mono ?_
                rintro e w2 ⟨A2,cap2,rfl,bH,aB,ae,Kw⟩
                have V3:=Lib.hid (fun y (hy:In A2 y)=>show w.heap.size<=y from by
                 rcases Kw y hy with q | q
                 ·exact dq.out y q
                 ·have:=hB.out.size
                  omega)
                have uQ:=Lib.hid (mF.out.only ae (fun y hm q=>by
                 have h2:=H.out.lt hm
                 rcases q with q | q
                 ·omega
                 ·have:=dq.out y q
                  omega))
                have zq:=Lib.hid (hQ.out.only ae (fun q=>by
                 rcases q with q | q
                 ·omega
                 ·exact (cp hA.out q).apart (bj hQ.out) (by decide)))
                have ag:=Lib.hid (hB.out.trans (ae.toBelow hB.out.size (fun y hy q=>by
                 rcases q with q | q
                 ·omega
                 ·have:=dq.out y q
                  omega)))
                replace bH:=Lib.hid bH
                replace aB:=Lib.hid aB
                clear ae Kw c0 c1)
   go_roundw
   case rel=>
    refine ⟨b+1,by omega,by go_num,A2,cap2,all++u,u.reverse++ms,by rw [List.length_append],V2.out,bH.out,aB.out,fun x=>?_,?_,uQ.out,zq.out,ag.out,V3.out,V0⟩
    ·have:=xC.out x
     simp [this,or_comm]
    ·have:=ni.out
     simp
     omega
   case measure=>simp [intOf]; omega
  ·obtain rfl:b=d1:=by omega
   obtain rfl:=QX hl ht.out _ hR
   have c0:=hQ.cell 0
   simp at c0
   replace hA:=Lib.hid hA
   replace hB:=Lib.hid hB
   replace dq:=Lib.hid dq
   clear hM mF xC hR hQ
   go_wp2_with fail
   go_ret
   exact ⟨A,cap,rfl,hA.out,hB.out,dq.out⟩
end
end Go.Proofs.YtpanebgakndddaaGreat.Me
namespace Go.Proofs.YtpanebgakndddaaGreat.Mq
open Go Hm Ar Mm Wk Pc Me
abbrev Hp:=Nat×Pr
abbrev aT (q:List Hp):List Nat:=q.map (·.1)
abbrev bq (q:List Hp):List Pr:=q.map (·.2)
abbrev fE (q:List Hp):List ByteArray:=q.map (·.2.1)
inductive Cx (ss:List Sl):Nat->List Hp->Prop
 | nil:Cx ss 0 []
 | cons {x k z:Nat} {p:Pr} {t:List Hp}:aV ss x k->(ai ss k).nd=dN p z->Cx ss z t->Cx ss x ((x,p)::t)
section
variable {ss ss':List Sl} {x:Nat} {q:List Hp}
theorem Cx.cn (h:Cx ss x q):Cn ss x (bq q):=by
 induction h with
 | nil=>exact .nil
 | cons a b _ ih=>exact .cons a b ih
theorem Cx.pos (h:Cx ss x q):x=0↔q=[]:=by
 cases h with
 | nil=>simp
 | cons a b c=>simp [a.pos]
theorem Cx.ch (h:Cx ss x q):∀ met,(∀ y∈hds q,y∉met)->(aT q).Nodup->Ch ss met x (aT q):=by
 induction h with
 | nil=>intro met _ _; exact .stop (.inl fun k hk=>hk.pos rfl)
 | @cons x k z p t a b c ih=>
   intro met hm hn
   have iz:x∉hds t/\(aT t).Nodup:=List.nodup_cons.1 hn
   refine .go a (hm x (by simp)) ?_
   have e:nx ss k=z:=by unfold nx; rw [b]; rfl
   rw [e]
   refine ih (x::met) (fun y hy q=>?_) iz.2
   rcases List.mem_cons.1 q with rfl | q
   ·exact iz.1 hy
   ·exact hm y (List.mem_cons_of_mem _ hy) q
theorem Cx.at (h:Cx ss x q):∀ e∈q,∃ k z,aV ss e.1 k/\(ai ss k).nd=dN e.2 z:=by
 induction h with
 | nil=>simp
 | @cons x k z p t a b c ih=>
   intro e he
   rcases List.mem_cons.1 he with rfl | he
   ·exact ⟨k,z,a,b⟩
   ·exact ih e he
theorem Cx.ku (h:Cx ss x q):(∀ y∈hds q,∀ k,aV ss y k->aV ss' y k/\(ai ss' k).nd=(ai ss k).nd)->Cx ss' x q:=by
 induction h with
 | nil=>intro _; exact .nil
 | @cons x k z p t a b c ih=>
   intro hk
   have:=hk x (by simp) k a
   exact .cons this.1 (this.2.trans b) (ih fun y hy=>hk y (List.mem_cons_of_mem _ hy))
theorem Cx.tail {p:Pr} {t:List Hp} (h:Cx ss x ((x,p)::t)):∃ k z,aV ss x k/\(ai ss k).nd=dN p z/\Cx ss z t:=by
 cases h with
 | cons a b c=>exact ⟨_,_,a,b,c⟩
theorem Cx.head {e:Hp} {t:List Hp} (h:Cx ss x (e::t)):x=e.1:=by
 cases h with
 | cons a b c=>rfl
def vR (pre:List Hp):Nat:=(aT pre).getLastD 0
theorem vS (pre:List Hp) (e:Hp):vR (pre++[e])=e.1:=by simp [vR]
theorem Ht {pre:List Hp} (h:Cx ss x (pre++q)) (hp:pre≠[]):vR pre≠0:=by
 obtain ⟨p0,e,rfl⟩:∃ p0 e,pre=p0++[e]:=⟨pre.dropLast,pre.getLast hp,(List.dropLast_concat_getLast hp).symm⟩
 rw [vS]
 obtain ⟨k,z,hk,_⟩:=h.at e (by simp)
 exact hk.pos
theorem Cx.swap {m h kp z:Nat} {e e':Hp} {pr:Pr} {t:List Hp} (hh:aV ss' h m) (bB:(ai ss' m).nd=dN pr z) (ht:Cx ss' z t):∀ (pre:List Hp) (x:Nat),Cx ss x (pre++e::e'::t)->
 aV ss e.1 kp->aV ss' e.1 kp->(ai ss' kp).nd=dN e.2 h->(∀ y∈hds pre,∀ k,aV ss y k->aV ss' y k/\(ai ss' k).nd=(ai ss k).nd)->Cx ss' x (pre++e::(h,pr)::t):=by
 intro pre
 induction pre with
 | nil=>
   intro x hc h1 h2 h3 _
   cases hc with
   | cons a b c=>exact .cons h2 h3 (.cons hh bB ht)
 | cons e0 r ih=>
   intro x hc h1 h2 h3 hk
   cases hc with
   | @cons _ k z0 p _ a b c=>
     have:=hk x (by simp) k a
     exact .cons this.1 (this.2.trans b) (ih _ c h1 h2 h3 fun y hy=>hk y (List.mem_cons_of_mem _ hy))
end
/-! ### what is found-/
theorem nu {q:List Pr} {key:ByteArray}:lk q key=none↔key∉q.map (·.1):=by
 induction q with
 | nil=>simp [lk]
 | cons p t ih=>
   unfold lk
   by_cases h:p.1=key
   ·rw [if_pos h]; simp [h]
   ·rw [if_neg h,ih]
    simp [show ¬key=p.1 from fun e=>h e.symm]
theorem vh {q:List Pr} {p:Pr} (hn:(q.map (·.1)).Nodup) (hp:p∈q):lk q p.1=some p.2:=by
 induction q with
 | nil=>simp at hp
 | cons a t ih=>
   have iz:a.1∉t.map (·.1)/\(t.map (·.1)).Nodup:=List.nodup_cons.1 hn
   unfold lk
   rcases List.mem_cons.1 hp with rfl | hp
   ·rw [if_pos rfl]
   ·rw [if_neg (fun e=>iz.1 (by rw [e]; exact List.mem_map_of_mem hp)),ih iz.2 hp]
theorem QD {q:List Pr} {key v:ByteArray} (h:lk q key=some v):(key,v)∈q:=by
 induction q with
 | nil=>simp [lk] at h
 | cons a t ih=>
   unfold lk at h
   split at h
   ·rename_i e
    injection h with h
    subst h; subst e
    exact List.mem_cons_self
   ·exact List.mem_cons_of_mem _ (ih h)
theorem Hu {q q':List Pr} (hn:(q.map (·.1)).Nodup) (hp:q.Perm q') (key:ByteArray):lk q key=lk q' key:=by
 have iz:(q'.map (·.1)).Nodup:=(hp.map _).nodup_iff.1 hn
 cases h:lk q key with
 | none=>
   rw [nu] at h
   exact ((nu.2 fun e=>h ((hp.map _).mem_iff.2 e))).symm
 | some v=>
   have:=hp.mem_iff.1 (QD h)
   exact (vh iz this).symm
structure tG (l l':List Pr) (key val:ByteArray):Prop where
 nd:(l'.map (·.1)).Nodup
 lk:∀ k,Pc.lk l' k=if k=key then some val else Pc.lk l k
 len:l'.length=if (Pc.lk l key).isSome then l.length else l.length+1
theorem vi {l:List Pr} (hn:(l.map (·.1)).Nodup) (key:ByteArray):(l.filter fun p=>decide (p.1≠key)).length+(if (Pc.lk l key).isSome then 1 else 0)=l.length:=by
 induction l with
 | nil=>simp [lk]
 | cons p t ih=>
   have iz:p.1∉t.map (·.1)/\(t.map (·.1)).Nodup:=List.nodup_cons.1 hn
   have:=ih iz.2
   by_cases h:p.1=key
   ·have h0:lk t key=none:=nu.2 (by rw [<-h]; exact iz.1)
    rw [h0] at this
    simp only [Option.isSome_none,Bool.false_eq_true,if_false,Nat.add_zero] at this
    simp only [List.filter_cons,h,ne_eq,not_true_eq_false,decide_false,Bool.false_eq_true,if_false,lk,if_true,Option.isSome_some,List.length_cons]
    simp only [ne_eq] at this
    omega
   ·simp only [List.filter_cons,h,ne_eq,not_false_eq_true,decide_true,if_true,lk,if_false,List.length_cons]
    simp only [ne_eq] at this
    omega
theorem xV (l:List Pr) (key k:ByteArray):lk (l.filter fun p=>decide (p.1≠key)) k=if k=key then none else lk l k:=by
 induction l with
 | nil=>simp [lk]
 | cons p t ih=>
   by_cases h:p.1=key
   ·rw [List.filter_cons,if_neg (by simp [h]),ih]
    split
    ·rfl
    ·rename_i hk
     conv=>rhs; unfold lk
     rw [if_neg (fun e=>hk (by rw [<-e,h]))]
   ·rw [List.filter_cons,if_pos (by simp [h])]
    unfold lk
    split
    ·rename_i e
     rw [if_neg (fun q=>h (by rw [e,q]))]
    ·exact ih
theorem Fs {l l':List Pr} {key val:ByteArray} (hn:(l.map (·.1)).Nodup) (hp:l'.Perm ((key,val)::l.filter fun p=>decide (p.1≠key))):tG l l' key val:=by
 have hf:((((key,val)::l.filter fun p=>decide (p.1≠key)):List Pr).map (·.1)).Nodup:=by
  rw [List.map_cons,List.nodup_cons]
  refine ⟨fun q=>?_,(List.filter_sublist.map _).nodup hn⟩
  obtain ⟨p,hp,e⟩:=List.mem_map.1 q
  have:=(List.mem_filter.1 hp).2
  simp [e] at this
 have iz:(l'.map (·.1)).Nodup:=(hp.map _).nodup_iff.2 hf
 refine ⟨hn',fun k=>?_,?_⟩
 ·rw [Hu iz hp]
  unfold lk
  by_cases e:key=k
  ·rw [if_pos e,if_pos e.symm]
  ·rw [if_neg e,if_neg (fun q=>e q.symm),xV,if_neg (fun q=>e q.symm)]
   cases l<;>rfl
 ·rw [hp.length_eq,List.length_cons]
  have:=vi hn key
  split
  ·rename_i e; rw [if_pos e] at this; omega
  ·rename_i e; rw [if_neg e] at this; omega
def aj (key:ByteArray) (n:Nat):Nat:=(FM.bucket (sm key) n).toNat
theorem dH {n:Nat} (hp:FM.bo n=true) (key:ByteArray):aj key n<n/\FM.bucket (sm key) n=(aj key n:Nat):=by
 have:=Hv hp (sm key) (qC key).1
 unfold aj
 omega
end Go.Proofs.YtpanebgakndddaaGreat.Mq
namespace Go.Proofs.YtpanebgakndddaaGreat.Pu
open Go Go.RowKit Hp K Fl Rw Hm Ar Mm Me Wk Ta Pn Pc Mq
set_option maxRecDepth 100000
section
variable {xs:List Int} {ds:List (Nat×Nat)} {s:List Int×Ho}
theorem IA (h:s.2.nx=1):dt xs ds s=(s.1,{s.2 with nx:=2,num:=(Cl.nth xs 1).toNat}):=by unfold dt; rw [if_pos h]
theorem IB (h:s.2.nx=2):dt xs ds s=(s.1.set (fz s.2.sum (aM ds s.2.num)) s.2.worker,{s.2 with nx:=3,d:=aM ds s.2.num,lock:=fz s.2.sum (aM ds s.2.num)}):=by unfold dt; rw [if_neg (by omega),if_pos h]
theorem TB (h:s.2.nx=3) (he:Cl.nth xs 1=s.2.num):dt xs ds s=(s.1,{s.2 with nx:=5,holds:=true}):=by unfold dt; rw [if_neg (by omega),if_neg (by omega),if_pos h,if_pos he]
end
section
variable {L:Lm} {S:Sk}
theorem CP (h:S.ph=1):aG L S=({L with hs:=(dt L.xs L.ds (L.hs,S.H)).1},if iG L.xs (L.hs,S.H)=true then {S with H:=(dt L.xs L.ds (L.hs,S.H)).2,cell:=oH S.sum (dt L.xs L.ds (L.hs,S.H)).2,W:=new 0 (oH S.sum (dt L.xs L.ds (L.hs,S.H)).2) S.sum S.key,ph:=2} else {S with H:=(dt L.xs L.ds (L.hs,S.H)).2}):=by
 unfold aG; rw [if_pos h]
theorem IC (h:S.ph=2):aG L S=({L with F:=(Wk.aF L.xs L.ss (L.F,S.W)).1},{S with W:=(Wk.aF L.xs L.ss (L.F,S.W)).2}):=by
 unfold aG; rw [if_neg (by omega)]
theorem CQ (h:S.ph=1):bW L S=false:=by unfold bW; rw [if_pos h]
theorem ID (h:S.ph=2):bW L S=Wk.cf L.xs L.ss (L.F,S.W):=by unfold bW; rw [if_neg (by omega)]
theorem W1 (h:S.ph≠1):eJ L S=true:=by unfold eJ; rw [if_neg h]
end
structure Ep where
 L:Lm
 key:ByteArray
 val:ByteArray
 i:Int
 h:Nat
 d:Nat×Nat
 c:Nat
 q:List Mq.Hp
abbrev Ep.word (E:Ep):Nat:=(Cl.nth E.L.xs E.c).toNat
abbrev Ep.lock (E:Ep):Nat:=fz (sm E.key) E.d
abbrev Ep.num (E:Ep):Nat:=(Cl.nth E.L.xs 1).toNat
abbrev Ep.hs (E:Ep):List Int:=E.L.hs.set E.lock E.i
structure Ep.Ok (E:Ep):Prop where
 len:E.L.ss.length<=1024
 cU:fg E.L.ss
 tb:∀ i,(aM E.L.ds i).1<=65536/\(aM E.L.ds i).2<=4000000
 wk:0<=E.i/\E.i<=1000
 xb:∀ x∈E.L.xs,0<=x/\x<=18446744073709551615
 hs:E.L.hs=List.replicate 6 (-1)
 now:Me.now E.L.xs E.L.ds=E.d
 d0:E.d.1≠0
 cell:(E.c:Int)=E.d.2+FM.bucket (sm E.key) E.d.1
 cx:E.c<E.L.xs.length
 x1:1<E.L.xs.length
 ch:Cx E.L.ss E.word E.q
 gen:∀ k,(ai E.L.ss k).gen<=1000000
 ws:E.L.ws.length<=1000000
 ql:E.q.length<=1024
abbrev Ep.H (E:Ep):Ho:=⟨E.h,E.i,sm E.key,5,E.num,E.d,E.lock,true⟩
def fG (E:Ep) (W:Wa):Prop:=(W.found=0/\E.key∉kys E.q/\W.first=E.word)\/
 ∃ (pre:List Mq.Hp) (x:Nat) (p:Pr) (t:List Mq.Hp) (z k:Nat),E.q=pre++(x,p)::t/\p.1=E.key/\W.found=x/\aV E.L.ss x k/\(ai E.L.ss k).nd=dN p z/\W.nd=dN p z/\Cx E.L.ss z t/\W.prev=vR pre
abbrev Ep.s (E:Ep) (H:Ho) (W:Wa):Sk:=⟨E.key,sm E.key,2,H,E.c,W⟩
abbrev Ep.n (E:Ep) (H:Ho):Sk:={l9 E.h E.i (sm E.key) E.key with H:=H}
inductive Rs (E:Ep):Nat->Lm×Sk->Prop
 | a1:Rs E (4+E.q.length) (E.L,l9 E.h E.i (sm E.key) E.key)
 | a2:Rs E (3+E.q.length) (E.L,E.n ⟨E.h,E.i,sm E.key,2,E.num,(0,0),0,false⟩)
 | a3:Rs E (2+E.q.length) ({E.L with hs:=E.hs},E.n ⟨E.h,E.i,sm E.key,3,E.num,E.d,E.lock,false⟩)
 | w1:Rs E (1+E.q.length) ({E.L with hs:=E.hs},E.s E.H (Wk.new 0 E.c (sm E.key) E.key))
 | w2 (pre rest:List Mq.Hp) (W:Wa):E.q=pre++rest->rest≠[]->W.nx=2->Cx E.L.ss W.at_ rest->W.key=E.key->W.sum=sm E.key->W.first=E.word->W.prev=vR pre->W.found=0->W.read=pre.length->W.cell=E.c->E.key∉kys pre->W.at_<=18446744073709551615->W.nd=.zero->
    Rs E rest.length ({E.L with hs:=E.hs},E.s E.H W)
section
variable {E:Ep} {k:Nat} {s:Lm×Sk}
theorem Ep.Ok.lk (hE:E.Ok):E.lock<6:=by
 have:=v5 E.d (qC E.key).1
 show fz (sm E.key) E.d<6
 omega
theorem Ep.Ok.back (hE:E.Ok):E.hs.set E.lock (-1)=E.L.hs:=by
 show (E.L.hs.set E.lock E.i).set E.lock (-1)=_
 rw [List.set_set,hE.hs]
 apply List.ext_getElem
 ·simp
 ·intro i h1 h2
  rw [List.getElem_set,List.getElem_replicate]
  split<;>first | rfl | rw [List.getElem_replicate]
theorem Ep.Ok.aE (hE:E.Ok):Lo.aE E.hs E.lock=E.i:=by
 have:=hE.lk
 show Lo.aE (E.L.hs.set E.lock E.i) E.lock=_
 rw [qK (by rw [hE.hs]; simpa using this),if_pos rfl]
theorem Rs.pos (h:Rs E k s):1<=k:=by
 cases h with
 | w2 pre rest W h1 h2=>exact List.length_pos_iff.2 h2
 | _=>omega
theorem Ep.Ok.IE (hE:E.Ok):gY E.L.xs E.L.ds (E.L.hs,⟨E.h,E.i,sm E.key,1,0,(0,0),0,false⟩):=by
 have hw:=hE.wk
 exact ⟨sm_bd _,⟨hw.1,by show E.i<=_; omega⟩,by show 4<E.L.hs.length; rw [hE.hs]; simp,hE.x1,by simp,Cl.eV hE.xb 1,fun i=>(hE.tb i).1,by simp,by rintro (q | q | q)<;>simp at q,fun q=>by simp at q⟩
theorem Ep.Ok.IF (hE:E.Ok):gY E.L.xs E.L.ds (E.L.hs,⟨E.h,E.i,sm E.key,2,E.num,(0,0),0,false⟩):=by
 have:=hE.IE.step (by unfold lz; rfl) (by unfold iG; simp)
 rw [IA rfl] at this
 exact this
theorem Ep.Ok.free (hE:E.Ok):lz E.L.ds (E.L.hs,⟨E.h,E.i,sm E.key,2,E.num,(0,0),0,false⟩)=true:=by
 have hn:aM E.L.ds E.num=E.d:=hE.now
 have hl:=hE.lk
 unfold lz
 rw [if_pos rfl]
 simp only [decide_eq_true_eq]
 rw [hn,hE.hs]
 unfold Lo.aE
 rw [List.getD_eq_getElem?_getD,List.getElem?_replicate]
 split<;>rfl
theorem Ep.Ok.TC (hE:E.Ok):gY E.L.xs E.L.ds (E.hs,⟨E.h,E.i,sm E.key,3,E.num,E.d,E.lock,false⟩):=by
 have:=hE.IF.step hE.free (by unfold iG; simp)
 rw [IB rfl] at this
 have hn:aM E.L.ds E.num=E.d:=hE.now
 simp only [hn] at this
 exact this
theorem Ep.Ok.yd (hE:E.Ok) {xs:List Int} {ds:List (Nat×Nat)} (hx:1<xs.length) (hd:ds=E.L.ds) (h1:0<=Cl.nth xs 1/\Cl.nth xs 1<=18446744073709551615):gY xs ds (E.hs,E.H):=by
 have hw:=hE.wk
 have hl:=hE.lk
 subst hd
 refine ⟨sm_bd _,⟨hw.1,by show E.i<=_; omega⟩,by show 4<(E.L.hs.set E.lock E.i).length; rw [hE.hs]; simp,hx,?_,h1,fun i=>(hE.tb i).1,by simp,fun _=>⟨?_,hE.aE⟩,fun _=>by simp⟩
 ·have:=Cl.eV hE.xb 1
  show E.num<=_
  show (Cl.nth E.L.xs 1).toNat<=_
  omega
 ·show E.lock<(E.L.hs.set E.lock E.i).length
  rw [hE.hs]
  simpa using hl
theorem Hy {ss:List Sl} (h:fg ss) (x y:Nat) (hy:y<=18446744073709551615):fg (aQ ss x y):=by
 unfold aQ
 by_cases hk:(x-1) % 65536<ss.length
 ·exact h.set hk _ ⟨by simp only; omega,by simp only; omega⟩
 ·rw [List.set_eq_of_length_le (by omega)]
  exact h
theorem Ep.Ok.word (hE:E.Ok):Wk.word E.L.xs E.c=E.word:=by
 have:=hE.cx
 unfold Wk.word
 rw [if_pos (by omega),Int.toNat_natCast]
theorem Ep.Ok.TD (hE:E.Ok):E.word<=18446744073709551615:=by
 have:=Cl.eV hE.xb E.c
 show (Cl.nth E.L.xs E.c).toNat<=_
 omega
theorem TE (hE:E.Ok) {F:Bool}:Wk.aF E.L.xs E.L.ss (F,Wk.new 0 E.c (sm E.key) E.key)=(F,dx {Wk.new 0 E.c (sm E.key) E.key with first:=E.word} E.word)/\Wk.cf E.L.xs E.L.ss (F,Wk.new 0 E.c (sm E.key) E.key)=decide (E.word=0):=by
 have h:Wk.aF E.L.xs E.L.ss (F,Wk.new 0 E.c (sm E.key) E.key)=(F,dx {Wk.new 0 E.c (sm E.key) E.key with first:=E.word} E.word):=by
  unfold Wk.aF
  simp only
  rw [if_pos (show (Wk.new 0 (E.c:Int) (sm E.key) E.key).nx=1 from rfl),show (Wk.new 0 (E.c:Int) (sm E.key) E.key).cell=(E.c:Int) from rfl,hE.word]
 refine ⟨h,?_⟩
 unfold Wk.cf
 rw [h]
 exact yn _ _
theorem Rs.ok (hE:E.Ok) (h:Rs E k s):∃ r,qw r s.1 s.2:=by
 have kF:=qC E.key
 have iQ:=qz (sm E.key) E.d.1 kF.1
 have JT:=(hE.tb E.num).2
 have hn:aM E.L.ds E.num=E.d:=hE.now
 rw [hn] at JT
 have hc:=hE.cell
 cases h with
 | a1=>exact ⟨0,kF,fun _=>hE.IE,fun _=>by simp [l9],fun q=>absurd rfl q,hE.cU,hE.tb⟩
 | a2=>exact ⟨0,kF,fun _=>hE.IF,fun _=>by simp,fun q=>absurd rfl q,hE.cU,hE.tb⟩
 | a3=>exact ⟨0,kF,fun _=>hE.TC,fun _=>by rw [<-hE.now]; exact hE.tb _,fun q=>absurd rfl q,hE.cU,hE.tb⟩
 | w1=>exact ⟨0,kF,fun q=>by simp at q,fun q=>by simp at q,fun _=>⟨by simp [Wk.new]; omega,by simp [Wk.new],by simp [Wk.new],by simp [Wk.new]⟩,hE.cU,hE.tb⟩
 | w2 pre rest W h1 h2 h3 h4 h5 h6 h7 h8 h9 na Ao zM KM Ex=>
   have zo:=hE.ql
   rw [h1,List.length_append] at zo
   exact ⟨0,kF,fun q=>by simp at q,fun q=>by simp at q,fun _=>⟨by simp only [Ao]; omega,KM,by simp only [na]; omega,by simp only [h3]; omega⟩,hE.cU,hE.tb⟩
theorem Rs.step (hE:E.Ok) (h:Rs E k s):eJ s.1 s.2=true/\1<=k/\(bW s.1 s.2=true->∃ W,fG E W/\(W.found=0->W.nd=.zero)/\aG s.1 s.2=({E.L with hs:=E.hs},E.s E.H W))/\(bW s.1 s.2=false->∃ j,j<=k-1/\Rs E j (aG s.1 s.2)):=by
 have hn:aM E.L.ds E.num=E.d:=hE.now
 cases h with
 | a1=>
   refine ⟨rfl,by omega,fun q=>by rw [CQ rfl] at q; simp at q,fun _=>?_⟩
   have e:aG E.L (l9 E.h E.i (sm E.key) E.key)=(E.L,E.n ⟨E.h,E.i,sm E.key,2,E.num,(0,0),0,false⟩):=by
    rw [CP rfl]
    have e1:dt E.L.xs E.L.ds (E.L.hs,(l9 E.h E.i (sm E.key) E.key).H)=(E.L.hs,⟨E.h,E.i,sm E.key,2,E.num,(0,0),0,false⟩):=IA rfl
    have e2:iG E.L.xs (E.L.hs,(l9 E.h E.i (sm E.key) E.key).H)=false:=by unfold iG l9; simp
    rw [e1,e2]
    rfl
   rw [e]
   exact ⟨_,by omega,.a2⟩
 | a2=>
   refine ⟨hE.free,by omega,fun q=>by rw [CQ rfl] at q; simp at q,fun _=>?_⟩
   have e:aG E.L (E.n ⟨E.h,E.i,sm E.key,2,E.num,(0,0),0,false⟩)=({E.L with hs:=E.hs},E.n ⟨E.h,E.i,sm E.key,3,E.num,E.d,E.lock,false⟩):=by
    rw [CP rfl]
    have e1:dt E.L.xs E.L.ds (E.L.hs,(⟨E.h,E.i,sm E.key,2,E.num,(0,0),0,false⟩:Ho))=(E.hs,⟨E.h,E.i,sm E.key,3,E.num,E.d,E.lock,false⟩):=by
     rw [IB rfl]
     simp only [hn]
    have e2:iG E.L.xs (E.L.hs,(⟨E.h,E.i,sm E.key,2,E.num,(0,0),0,false⟩:Ho))=false:=by unfold iG; simp
    simp only [e1,e2]
    rfl
   rw [e]
   exact ⟨_,by omega,.a3⟩
 | a3=>
   refine ⟨rfl,by omega,fun q=>by rw [CQ rfl] at q; simp at q,fun _=>?_⟩
   have sD:Cl.nth E.L.xs 1=((E.num:Nat):Int):=by
    have:=Cl.eV hE.xb 1
    show _=(((Cl.nth E.L.xs 1).toNat:Nat):Int)
    omega
   have hc:oH (sm E.key) E.H=(E.c:Int):=by
    unfold oH Gt.cellOf
    rw [if_pos rfl,if_neg hE.d0]
    exact hE.cell.symm
   have e:aG {E.L with hs:=E.hs} (E.n ⟨E.h,E.i,sm E.key,3,E.num,E.d,E.lock,false⟩)=({E.L with hs:=E.hs},E.s E.H (Wk.new 0 E.c (sm E.key) E.key)):=by
    rw [CP rfl]
    have e1:dt E.L.xs E.L.ds (E.hs,(⟨E.h,E.i,sm E.key,3,E.num,E.d,E.lock,false⟩:Ho))=(E.hs,E.H):=TB rfl sD
    have e2:iG E.L.xs (E.hs,(⟨E.h,E.i,sm E.key,3,E.num,E.d,E.lock,false⟩:Ho))=true:=by unfold iG; exact decide_eq_true (.inl ⟨rfl,sD⟩)
    simp only [e1,e2,if_true]
    show ({E.L with hs:=E.hs},({l9 E.h E.i (sm E.key) E.key with H:=E.H,cell:=oH (sm E.key) E.H,W:=Wk.new 0 (oH (sm E.key) E.H) (sm E.key) E.key,ph:=2}:Sk))=_
    rw [hc]
    rfl
   rw [e]
   exact ⟨_,by omega,.w1⟩
 | w1=>
   obtain ⟨g1,g2⟩:=TE hE (F:=E.L.F)
   have e:aG {E.L with hs:=E.hs} (E.s E.H (Wk.new 0 E.c (sm E.key) E.key))=({E.L with hs:=E.hs},E.s E.H (dx {Wk.new 0 E.c (sm E.key) E.key with first:=E.word} E.word)):=by
    rw [IC rfl]
    simp only [g1]
   have ed:bW {E.L with hs:=E.hs} (E.s E.H (Wk.new 0 E.c (sm E.key) E.key))=decide (E.word=0):=by
    rw [ID rfl]
    simp only [g2]
   rw [e,ed]
   have hp:=hE.ch.pos
   refine ⟨sready2 (by simp),by omega,fun q=>?_,fun q=>?_⟩
   ·have h0:E.word=0:=of_decide_eq_true q
    have hq:=hp.1 h0
    have hg:dx {Wk.new 0 E.c (sm E.key) E.key with first:=E.word} E.word={Wk.new 0 E.c (sm E.key) E.key with first:=E.word,nx:=3}:=by unfold dx; rw [if_pos h0]
    rw [hg]
    exact ⟨_,.inl ⟨rfl,by rw [hq]; simp,rfl⟩,fun _=>rfl,rfl⟩
   ·have h0:¬E.word=0:=of_decide_eq_false q
    have hg:dx {Wk.new 0 E.c (sm E.key) E.key with first:=E.word} E.word={Wk.new 0 E.c (sm E.key) E.key with first:=E.word,at_:=E.word,nx:=2}:=by unfold dx; rw [if_neg h0]
    rw [hg]
    exact ⟨E.q.length,by omega,.w2 [] E.q {Wk.new 0 E.c (sm E.key) E.key with first:=E.word,at_:=E.word,nx:=2} rfl (fun q=>h0 (hp.2 q)) rfl hE.ch rfl rfl rfl rfl rfl rfl rfl (by simp) hE.TD rfl⟩
 | w2 pre rest W h1 h2 h3 h4 h5 h6 h7 h8 h9 na Ao zM KM Ex=>
   obtain ⟨e0,t,rfl⟩:∃ e t,rest=e::t:=by
    cases rest with
    | nil=>exact absurd rfl h2
    | cons e t=>exact ⟨e,t,rfl⟩
   obtain ⟨x,p⟩:=e0
   have hx:W.at_=x:=h4.head
   rw [hx] at h4
   obtain ⟨kk,z,hk,bB,hc⟩:=h4.tail
   have ft:=(yo hE.len).2 hk
   have hit_iff:ma W (dN p z)=decide (p.1=E.key):=by
    unfold ma dN
    simp only [h5,h6,decide_eq_decide]
    exact ⟨fun q=>q.2,fun q=>⟨by rw [q],q⟩⟩
   have oU:z<=18446744073709551615:=by
    have:=(hE.cU kk).2
    rw [bB] at this
    unfold dN at this
    simp only at this
    omega
   have g1:Wk.aF E.L.xs E.L.ss (E.L.F,W)=(E.L.F,looks W (dN p z)):=by
    unfold Wk.aF
    simp only
    rw [if_neg (by omega),if_pos h3,hx,ft]
    show (E.L.F,looks W (ai E.L.ss kk).nd)=_
    rw [bB]
   have g2:Wk.cf E.L.xs E.L.ss (E.L.F,W)=(decide (p.1=E.key)||decide (z=0)):=by
    unfold Wk.cf
    rw [g1]
    show decide (3<=(looks W (dN p z)).nx)=_
    rw [Bx]
    unfold ny
    rw [hit_iff]
    rfl
   have e:aG {E.L with hs:=E.hs} (E.s E.H W)=({E.L with hs:=E.hs},E.s E.H (looks W (dN p z))):=by
    rw [IC rfl]
    simp only [g1]
   have ed:bW {E.L with hs:=E.hs} (E.s E.H W)=(decide (p.1=E.key)||decide (z=0)):=by
    rw [ID rfl]
    simp only [g2]
   rw [e,ed]
   simp only [List.length_cons]
   refine ⟨sready2 (by simp),by omega,fun q=>?_,fun q=>?_⟩
   ·by_cases rB:p.1=E.key
    ·have hl:looks W (dN p z)={W with read:=W.read+1,found:=W.at_,nd:=dN p z,nx:=3}:=by
      unfold looks
      rw [hit_iff,if_pos (by simp [rB])]
     rw [hl]
     exact ⟨{W with read:=W.read+1,found:=W.at_,nd:=dN p z,nx:=3},.inr ⟨pre,x,p,t,z,kk,h1,rB,hx,hk,bB,rfl,hc,h8⟩,fun q=>absurd (hx▸q) hk.pos,rfl⟩
    ·have h0:z=0:=by simpa [rB] using q
     have hl:looks W (dN p z)=dx {W with read:=W.read+1,prev:=W.at_} z:=by
      unfold looks
      rw [hit_iff,if_neg (by simp [rB])]
      rfl
     rw [hl]
     have Ey:E.q=(pre++[(x,p)])++t:=by rw [h1]; simp
     have Ez:E.key∉kys (pre++[(x,p)]):=by
      simp only [fE,List.map_append,List.map_cons,List.map_nil,List.mem_append,List.mem_singleton]
      rintro (q | q)
      ·exact zM q
      ·exact rB q.symm
     have ht:=hc.pos.1 h0
     have hg:dx {W with read:=W.read+1,prev:=W.at_} z={W with read:=W.read+1,prev:=W.at_,nx:=3}:=by unfold dx; rw [if_pos h0]
     rw [hg]
     refine ⟨{W with read:=W.read+1,prev:=W.at_,nx:=3},.inl ⟨h9,?_,h7⟩,fun _=>Ex,rfl⟩
     rw [Ey,ht,List.append_nil]
     exact Ez
   ·have rB:¬p.1=E.key:=fun e=>by simp [e] at q
    have h0:¬z=0:=fun e=>by simp [e] at q
    have hl:looks W (dN p z)=dx {W with read:=W.read+1,prev:=W.at_} z:=by
     unfold looks
     rw [hit_iff,if_neg (by simp [rB])]
     rfl
    rw [hl]
    have Ey:E.q=(pre++[(x,p)])++t:=by rw [h1]; simp
    have Ez:E.key∉kys (pre++[(x,p)]):=by
     simp only [fE,List.map_append,List.map_cons,List.map_nil,List.mem_append,List.mem_singleton]
     rintro (q | q)
     ·exact zM q
     ·exact rB q.symm
    have hg:dx {W with read:=W.read+1,prev:=W.at_} z={W with read:=W.read+1,prev:=W.at_,at_:=z,nx:=2}:=by unfold dx; rw [if_neg h0]
    rw [hg]
    exact ⟨t.length,by omega,.w2 (pre++[(x,p)]) t {W with read:=W.read+1,prev:=W.at_,at_:=z,nx:=2} Ey (fun q=>h0 (hc.pos.2 q)) rfl hc h5 h6 h7 (by rw [vS]; exact hx) h9 (by simp [na]) Ao Ez oU Ex⟩
theorem fG.ye {W:Wa} (hE:E.Ok) (h:fG E W) {L:Lm} {H:Ho} {y:Nat} (hy:y<=18446744073709551615) (hx:E.c<L.xs.length) (hs:∀ x j,aV E.L.ss x j->aV L.ss x j):pe L (E.s H W) y:=by
 refine ⟨hy,fun hl=>?_,fun _=>⟨by simp only; omega,by simp only; omega⟩⟩
 simp only at hl
 rcases h with ⟨h0,_⟩ | ⟨pre,x,p,t,z,kk,hq,hp,hx,hk,bB,hW,hc,jq⟩
 ·exact absurd h0 hl.1
 ·have aH:pre≠[]:=by
   rintro rfl
   exact hl.2 jq
  obtain ⟨p0,e,rfl⟩:∃ p0 e,pre=p0++[e]:=⟨pre.dropLast,pre.getLast aH,(List.dropLast_concat_getLast aH).symm⟩
  rw [vS] at jq
  have dB:=hE.ch
  rw [hq] at dB
  obtain ⟨j,_,hj,_⟩:=dB.at e (by simp)
  refine ⟨?_,j,?_⟩
  ·show W.prev<=_
   rw [jq,hj.2.2]
   have:=hE.gen j
   have:=hj.1
   have:=hE.len
   omega
  ·show aV L.ss W.prev j
   rw [jq]
   exact hs _ _ hj
end
end Go.Proofs.YtpanebgakndddaaGreat.Pu
namespace Go.Proofs.YtpanebgakndddaaGreat.Pu
open Go Go.RowKit Hp K Fl Rw Hm Ar Mm Me Wk Ta Pn Pc
set_option maxRecDepth 100000
section
variable {w w':World} {M:Mo} {a:Qa} {P:Pt}
theorem qt (h:bE w a P):Calls Tryz.prog 110 #[ptr a.f] w fun e w'=>e=.returned (.int .i64 P.err)/\w=w':=by
 have c:=h.hd.2.2.2.2.2.1
 clear h
 go_enter Tryz.func110,Tryz.ntmps110
 go_wp2
 go_ret
 exact ⟨rfl,rfl⟩
theorem vd (h:bE w a P):Calls Tryz.prog 285 #[ptr a.f] w fun e w'=>e=.returned (.int .u64 P.cm)/\w=w':=by
 have c:=h.hd.2.2.2.2.2.2
 clear h
 go_enter Tryz.func285,Tryz.ntmps285
 go_wp2
 go_ret
 exact ⟨rfl,rfl⟩
theorem ve (h:bE w a P):Calls Tryz.prog 111 #[ptr a.f] w fun e w'=>e=.returned (.bool (decide (P.W.found≠0)))/\Below w.heap.size w w':=by
 have c:=h.hd.2.2.2.1
 have hR:=tF h.2
 unfold dU at hR
 generalize decide (P.W.found≠0)=b at*
 generalize P.W.found=x at*
 generalize P.W.nd=n at*
 obtain ⟨nk,nv,ns,nn⟩:=n
 simp only at hR
 replace hR:=Lib.hid hR
 clear h
 go_enter Tryz.func111,Tryz.ntmps111
 go_wp2_with fail
 refine hR.out.mono ?_
 rintro e w1 ⟨rfl,hb⟩
 have au:=Lib.hid ((hb.alloc (o:=.cells #[.string nk,.string nv,.int .u32 ns,.int .u64 nn] 67) hb.size))
 clear c hb
 go_wp2_with fail
 go_ret
 exact ⟨rfl,au.out⟩
theorem HX (h:bE w a P):Calls Tryz.prog 196 #[ptr a.f] w fun e w'=>e=.returned (.int .u64 (gP P.W))/\Below w.heap.size w w':=by
 have c7:=h.hd.2.2.2.1
 have hR:=tF h.2
 have HP:=Lib.hid h
 unfold dU at hR
 unfold gP
 by_cases h0:P.W.found≠0
 ·rw [if_pos h0]
  rw [decide_eq_true h0] at hR
  generalize P.W.found=x at*
  generalize P.W.nd=n at*
  obtain ⟨nk,nv,ns,nn⟩:=n
  simp only at hR ⊢
  replace hR:=Lib.hid hR
  clear h h0
  go_enter Tryz.func196,Tryz.ntmps196
  go_wp2_with fail
  refine hR.out.mono ?_
  rintro e w1 ⟨rfl,hb⟩
  have au:=Lib.hid ((hb.alloc (o:=.cells #[.string nk,.string nv,.int .u32 ns,.int .u64 nn] 67) hb.size))
  clear c7 hb
  go_wp2_with fail
  go_ret
  exact ⟨rfl,au.out⟩
 ·rw [if_neg h0]
  rw [decide_eq_false h0] at hR
  generalize P.W.found=x at*
  generalize P.W.nd=n at*
  obtain ⟨nk,nv,ns,nn⟩:=n
  simp only at hR
  replace hR:=Lib.hid hR
  clear h h0
  go_enter Tryz.func196,Tryz.ntmps196
  go_wp2_with fail
  refine hR.out.mono ?_
  rintro e w1 ⟨rfl,hb⟩
  obtain ⟨w2,bl⟩:∃ w2,w2=w1.alloc (.cells #[.string nk,.string nv,.int .u32 ns,.int .u64 nn] 67):=⟨_,rfl⟩
  have au:Below w.heap.size w w2:=by rw [bl]; exact hb.alloc hb.size _
  have bw:=HP.out.below au
  have d7:=bw.hd.2.2.2.1
  have k7:=(HP.out.below hb).hd.2.2.2.1
  have lf1:=(HP.out.below hb).1.lt
  have aP:=Lib.hid (Rm bw.2)
  replace au:=Lib.hid au
  clear bw hb c7
  go_wp2_with fail
  rw [<-bl]
  clear bl
  refine aP.out.mono ?_
  rintro e w3 ⟨rfl,rfl⟩
  clear aP d7 k7
  go_wp2_with fail
  go_ret
  exact ⟨rfl,au.out⟩
theorem bE.HY (h:bE w a P) (x:Nat) (c:Int):bE ((w.setCell ⟨a.f,6,none⟩ (.int .u64 x)).setCell ⟨a.f,5,none⟩ (.int .i64 c)) a {P with cm:=x,err:=c}/\ab (·=a.f) w ((w.setCell ⟨a.f,6,none⟩ (.int .u64 x)).setCell ⟨a.f,5,none⟩ (.int .i64 c)):=by
 have ho:=((ab.refl (·=a.f) w).setCell (p:=⟨a.f,6,none⟩) (.inl rfl) (.int .u64 x)).setCell (p:=⟨a.f,5,none⟩) (.inl rfl) (.int .i64 c)
 exact ⟨h.own (by simpa [ub] using (h.1.store 6 (.int .u64 x)).store 5 (.int .i64 c)) ho rfl,ho⟩
set_option maxHeartbeats 2000000 in
theorem Ro (hM:ah w M) (h:bE w a P) {m:Nat} (hm:Least M.ss m) (hg:(ai M.ss m).gen<=1000000) (h3:P.nx=3):
 Calls Tryz.prog 161 #[ptr a.f,ptr M.m] w fun e w'=>e=.returned (.bool false)/\ba w M a P (cG (lm M) P).1 (cG (lm M) P).2 w':=by
 have e:cG (lm M) P=({lm M with ss:=M.ss.set m ⟨true,(ai M.ss m).gen,⟨P.key,P.val,P.sum,gP P.W⟩⟩},{P with cm:=(ai M.ss m).gen*65536+m+1,err:=0,nx:=4}):=by
  unfold cG
  rw [if_neg (by omega),if_pos h3]
  simp only [vO.2 hm]
 rw [e]
 simp only
 have hF:=Lib.hid (fun n=>(HX (h.drewN n)).mono fun e w2 q=>show e=.returned (.int .u64 (gP P.W))/\Below w.heap.size w w2 from ⟨q.1,(show Below w.heap.size w (w.drewN n) from ⟨rfl,rfl,rfl,Nat.le_refl _,fun _ _=>rfl⟩).trans q.2⟩)
 have hA:=fun w1 (ax:Below w.heap.size w w1)=>(uY (hM.below ax).2.2.2.1 ⟨P.key,P.val,P.sum,gP P.W⟩ m hm hg).mono fun e w2 q=>
  show e=.returned (.tuple #[.int .u64 ((ai M.ss m).gen*65536+m+1:Nat),.int .i64 0])/\(ah w2 {M with ss:=M.ss.set m ⟨true,(ai M.ss m).gen,⟨P.key,P.val,P.sum,gP P.W⟩⟩}/\bE w2 a P/\ab (ao M) w w2) from
   ⟨q.1,(hM.below ax).qF q.2.1 q.2.2,(h.below ax).only q.2.2 (fun x hx q=>h.aA hM hx (iX _ q)),(ab.aD ax _).trans (q.2.2.mono fun x _ q=>iX _ q)⟩
 unfold dU at hA
 obtain ⟨c0,c1,c2,_⟩:=h.hd
 have d2:=hM.hd.2.2.1
 have lf:=h.1.lt
 have lM:=hM.1.lt
 have bc:=Lib.hid (fun w1 (hb:Below w.heap.size w w1)=>show w1.cell? ⟨M.m,2,none⟩=some (ptr M.ar)/\w1.cell? ⟨a.f,0,none⟩=some (.string P.key)/\w1.cell? ⟨a.f,1,none⟩=some (.string P.val)/\w1.cell? ⟨a.f,2,none⟩=some (.int .u32 P.sum) from
  ⟨(hb.cell (p:=⟨M.m,2,none⟩) lM).trans d2,(hb.cell (p:=⟨a.f,0,none⟩) lf).trans c0,(hb.cell (p:=⟨a.f,1,none⟩) lf).trans c1,(hb.cell (p:=⟨a.f,2,none⟩) lf).trans c2⟩)
 generalize (ai M.ss m).gen*65536+m+1=x at*
 generalize M.ss.set m ⟨true,(ai M.ss m).gen,⟨P.key,P.val,P.sum,gP P.W⟩⟩=ss' at*
 have dm:=Lib.hid (h.aA hM (.inl rfl))
 have oP:=Lib.hid (show M.m≠a.f from fun e=>h.aA hM (.inl e) (.inl rfl))
 generalize gP P.W=fw at*
 replace hA:=Lib.hid hA
 replace h3:=Lib.hid h3
 clear hM h hm hg e
 have Ad:M.m≠a.f:=oP.out
 have Ae:a.f≠M.m:=fun e=>oP.out e.symm
 go_enter Tryz.func161,Tryz.ntmps161
 go_wp2_with fail
 go_region_held3 (fun w'=>w'.cell? ⟨M.m,2,none⟩=some (ptr M.ar)/\w'.cell? ⟨a.f,0,none⟩=some (.string P.key)/\w'.cell? ⟨a.f,1,none⟩=some (.string P.val)/\w'.cell? ⟨a.f,2,none⟩=some (.int .u32 P.sum)) ((go_split_ands; (refine ⟨?_,?_,?_,?_⟩<;>simp [World.cell?_setCell_other, *])))
  (first
    | (go_at_call 196
       refine (hF.out 1).mono ?_
       rintro e w2 ⟨rfl,au⟩
       have bH:=Lib.hid (hA.out w2 au)
       obtain ⟨t1,t2,t3,t4⟩:=bc.out w2 au
       clear au)
    | (go_at_call 17
       refine bH.out.mono ?_
       rintro e w3 ⟨rfl,br,bg,aq⟩
       obtain ⟨s0,s1,s2,_⟩:=bg.hd
       have s3:=br.hd.2.2.1
       have s4:=bg.hd.2.2.2.2.1
       have s8:=bg.hd.2.2.2.2.2.1
       have s9:=bg.hd.2.2.2.2.2.2
       have y4:=bg.cV 4
       have y8:=bg.cV 5
       have y9:=bg.cV 6
       simp only at s3
       have hT:=bg.HY x 0
       have hN:=Lib.hid (hT.1.next 4)
       have aL:=hT.2.setCell (p:=⟨a.f,4,none⟩) (.inl rfl) (iH 4 a.f)
       have dS:=Lib.hid (br.only aL (fun x hx q=>dm.out (q▸hx)))
       have Ef:Hid (ab (fun x=>ao M x\/iC a P x) w _):=Lib.hid ((aq.mono (fun x _ q=>(.inl q:ao M x\/iC a P x))).trans' aL (fun x _ q=>.inr (.inl q)))
       clear br bg aq hT aL bH))
 all_goals
  clear Ad Ae
  go_wp2_with fail
  go_ret
  exact ⟨rfl,_,a,dS.out,rfl,⟨rfl,rfl,rfl,rfl,fun _ q=>.inl q⟩,hN.out,rfl,yJ rfl rfl,Ef.out⟩
set_option maxHeartbeats 2000000 in
theorem Rr (hM:ah w M) (h:bE w a P) (hm:∀ k,k<M.ss.length->(ai M.ss k).taken=true) (h3:P.nx=3):
 Calls Tryz.prog 161 #[ptr a.f,ptr M.m] w fun e w'=>e=.returned (.bool false)/\ba w M a P (cG (lm M) P).1 (cG (lm M) P).2 w':=by
 have e:cG (lm M) P=(lm M,{P with cm:=0,err:=4,nx:=6}):=by
  unfold cG
  rw [if_neg (by omega),if_pos h3]
  simp only [Bg.2 hm]
 rw [e]
 simp only
 have hF:=Lib.hid (fun n=>(HX (h.drewN n)).mono fun e w2 q=>show e=.returned (.int .u64 (gP P.W))/\Below w.heap.size w w2 from ⟨q.1,(show Below w.heap.size w (w.drewN n) from ⟨rfl,rfl,rfl,Nat.le_refl _,fun _ _=>rfl⟩).trans q.2⟩)
 have hA:=fun w1 (ax:Below w.heap.size w w1)=>(EJ (hM.below ax).2.2.2.1 ⟨P.key,P.val,P.sum,gP P.W⟩ hm).mono fun e w2 q=>
  show e=.returned (.tuple #[.int .u64 0,.int .i64 4])/\(ah w2 M/\bE w2 a P/\Below w.heap.size w w2) from
   ⟨q.1,(hM.below ax).below q.2,(h.below ax).below q.2,ax.trans (q.2.mono ax.size)⟩
 unfold dU at hA
 obtain ⟨c0,c1,c2,_⟩:=h.hd
 have d2:=hM.hd.2.2.1
 have lf:=h.1.lt
 have lM:=hM.1.lt
 have bc:=Lib.hid (fun w1 (hb:Below w.heap.size w w1)=>show w1.cell? ⟨M.m,2,none⟩=some (ptr M.ar)/\w1.cell? ⟨a.f,0,none⟩=some (.string P.key)/\w1.cell? ⟨a.f,1,none⟩=some (.string P.val)/\w1.cell? ⟨a.f,2,none⟩=some (.int .u32 P.sum) from
  ⟨(hb.cell (p:=⟨M.m,2,none⟩) lM).trans d2,(hb.cell (p:=⟨a.f,0,none⟩) lf).trans c0,(hb.cell (p:=⟨a.f,1,none⟩) lf).trans c1,(hb.cell (p:=⟨a.f,2,none⟩) lf).trans c2⟩)
 have dm:=Lib.hid (h.aA hM (.inl rfl))
 have oP:=Lib.hid (show M.m≠a.f from fun e=>h.aA hM (.inl e) (.inl rfl))
 generalize gP P.W=fw at*
 replace hA:=Lib.hid hA
 replace h3:=Lib.hid h3
 clear hM h hm e
 have Ad:M.m≠a.f:=oP.out
 have Ae:a.f≠M.m:=fun e=>oP.out e.symm
 go_enter Tryz.func161,Tryz.ntmps161
 go_wp2_with fail
 go_region_held3 (fun w'=>w'.cell? ⟨M.m,2,none⟩=some (ptr M.ar)/\w'.cell? ⟨a.f,0,none⟩=some (.string P.key)/\w'.cell? ⟨a.f,1,none⟩=some (.string P.val)/\w'.cell? ⟨a.f,2,none⟩=some (.int .u32 P.sum)) ((go_split_ands; (refine ⟨?_,?_,?_,?_⟩<;>simp [World.cell?_setCell_other, *])))
  (first
    | (go_at_call 196
       refine (hF.out 1).mono ?_
       rintro e w2 ⟨rfl,au⟩
       have bH:=Lib.hid (hA.out w2 au)
       obtain ⟨t1,t2,t3,t4⟩:=bc.out w2 au
       clear au)
    | (go_at_call 17
       refine bH.out.mono ?_
       rintro e w3 ⟨rfl,br,bg,aq⟩
       obtain ⟨s0,s1,s2,_⟩:=bg.hd
       have s3:=br.hd.2.2.1
       have s4:=bg.hd.2.2.2.2.1
       have s8:=bg.hd.2.2.2.2.2.1
       have s9:=bg.hd.2.2.2.2.2.2
       have y4:=bg.cV 4
       have y8:=bg.cV 5
       have y9:=bg.cV 6
       have hT:=bg.HY 0 4
       have uH:=hT.1.next 4
       have hN:=Lib.hid (uH.next 6)
       have aL:=(hT.2.setCell (p:=⟨a.f,4,none⟩) (.inl rfl) (iH 4 a.f)).setCell (p:=⟨a.f,4,none⟩) (.inl rfl) (iH 6 a.f)
       have dS:=Lib.hid (br.only aL (fun x hx q=>dm.out (q▸hx)))
       have Ef:Hid (ab (fun x=>ao M x\/iC a P x) w _):=Lib.hid ((ab.aD aq (fun x=>ao M x\/iC a P x)).trans' aL (fun x _ q=>.inr (.inl q)))
       clear br bg aq hT aL bH uH))
 all_goals
  clear Ad Ae
  go_wp2_with fail
  go_ret
  exact ⟨rfl,_,a,dS.out,rfl,⟨rfl,rfl,rfl,rfl,fun _ q=>.inl q⟩,hN.out,rfl,yJ rfl rfl,Ef.out⟩
end
def jQ (h:Nat) (k:Int) (key val:ByteArray):Pt:=⟨newSk h k (sm key) key,val,2,0,0⟩
set_option maxHeartbeats 1000000 in
theorem mN (k:Int) (key val:ByteArray) (hk:key.size<=maxLen) (w:World):
 Calls Tryz.prog 94 #[.int .i64 k,.string key,.string val] w fun e w'=>∃ (a:Qa) (h:Nat),e=.returned (ptr a.f)/\bE w' a (jQ h k key val)/\(∀ x,iC a (jQ h k key val) x->w.heap.size<=x)/\Below w.heap.size w w':=by
 have hS:=Lib.hid (lX.xU key w hk)
 unfold jQ sm
 generalize hs:FM.sum key.data.toList=s at*
 replace hs:=Lib.hid hs
 go_enter Tryz.func94,Tryz.ntmps94
 go_wp2_with fail
 refine hS.out.mono ?_
 rintro e w0 ⟨rfl,hw⟩
 obtain rfl:w=w0:=hw.symm
 clear hS hw
 obtain ⟨w1,aO⟩:∃ w1,w1=w.alloc (.cells #[.string key,.string val,.int .u32 s,.pointer none,.nilFunc,.int .i64 0,.int .u64 0] 216):=⟨_,rfl⟩
 have eY:af w1 w.heap.size 216 #[.string key,.string val,.int .u32 s,.pointer none,.nilFunc,.int .i64 0,.int .u64 0]:=by rw [aO]; exact af.made w _ _
 have aJ:Below w.heap.size w w1:=by rw [aO]; exact (Below.refl _ _).alloc (Nat.le_refl _) _
 have xo:w1.heap.size=w.heap.size+1:=by rw [aO]; simp
 obtain ⟨f,hf⟩:∃ f,f=w.heap.size:=⟨_,rfl⟩
 rw [<-hf] at eY
 have gU:w.heap.size<=f/\f<w1.heap.size:=by omega
 have hN:=Lib.hid (FL k s key w1)
 have c2:=eY.cell 2
 simp at c2
 replace eY:=Lib.hid eY
 replace aJ:=Lib.hid aJ
 replace xo:=Lib.hid xo
 go_upto_region 2 with (fail)
 rw [<-aO,<-hf]
 clear aO hf
 go_wp2_with fail
 refine hN.out.mono ?_
 rintro e w2 ⟨a,h,rfl,jt,ti,ag⟩
 have aP:=eY.out.only (ab.aD ag (fun _=>False)) (by simp)
 have fJ:=aJ.out.trans (ag.mono aJ.out.size)
 have k3:=aP.cell 3
 have k4:=aP.cell 4
 simp at k3 k4
 have z3:=aP.frozen 3
 have z4:=aP.frozen 4
 have az:=Lib.hid ((fJ.setCell (p:=⟨f,3,none⟩) gU.1 (ptr a.f)).setCell (p:=⟨f,4,none⟩) gU.1 (aS 127 (ptr f)))
 have hO:=((ab.refl (·=f) w2).setCell (p:=⟨f,3,none⟩) (.inl rfl) (ptr a.f)).setCell (p:=⟨f,4,none⟩) (.inl rfl) (aS 127 (ptr f))
 have aH:∀ x,b9 a (l9 h k s key) x->¬x=f:=fun x hx e=>by have:=ti x hx; omega
 have hE:Hid (bE ((w2.setCell ⟨f,3,none⟩ (ptr a.f)).setCell ⟨f,4,none⟩ (aS 127 (ptr f))) ⟨f,a.f,a.w⟩ ⟨newSk h k s key,val,2,0,0⟩):=Lib.hid
  ⟨(aP.store 3 (ptr a.f)).store 4 (aS 127 (ptr f)),jt.only hO aH⟩
 have fQ:Hid (∀ x,iC ⟨f,a.f,a.w⟩ ⟨newSk h k s key,val,2,0,0⟩ x->w.heap.size<=x):=Lib.hid (by
  have hz:=aJ.out.size
  rintro x (q | q)
  ·simp only at q; omega
  ·exact Nat.le_trans hz (ti x q))
 clear hN eY aJ xo aP fJ ag hO aH jt ti c2
 go_wp2_with fail
 go_ret
 exact ⟨_,_,rfl,hE.out,fQ.out,az.out⟩
end Go.Proofs.YtpanebgakndddaaGreat.Pu
namespace Go.Proofs.YtpanebgakndddaaGreat.Pu
open Go Go.RowKit Hp K Fl Rw Hm Ar Mm Me Wk Ta Pn Pc
set_option maxRecDepth 100000
theorem uc {w:World} {F f:Nat} {cv m:Value} {c:Bool} {P:World->Prop} (c4:w.cell? ⟨f,4,none⟩=some (aS F cv)) (eF:∀ args w,(callFunc F args).run Tryz.prog w=.ok (.enter F args) w)
 (hF:Calls Tryz.prog F #[cv,m] w fun e w'=>e=.returned (.bool c)/\P w'):Calls Tryz.prog 287 #[ptr f,m] w fun e w'=>e=.returned (.bool c)/\P w':=by
 replace hF:=Lib.hid hF
 go_enter Tryz.func287,Tryz.ntmps287
 go_wp2_with fail
 refine hF.out.mono ?_
 rintro e w' ⟨rfl,bh⟩
 replace bh:=Lib.hid bh
 clear c4
 go_wp2_with fail
 go_ret
 exact ⟨rfl,bh.out⟩
theorem Rt (args:Array Value) (w:World):(callFunc 127 args).run Tryz.prog w=.ok (.enter 127 args) w:=by kernel_rfl
theorem HZ (args:Array Value) (w:World):(callFunc 161 args).run Tryz.prog w=.ok (.enter 161 args) w:=by kernel_rfl
theorem Ru (args:Array Value) (w:World):(callFunc 197 args).run Tryz.prog w=.ok (.enter 197 args) w:=by kernel_rfl
theorem Rv (args:Array Value) (w:World):(callFunc 215 args).run Tryz.prog w=.ok (.enter 215 args) w:=by kernel_rfl
theorem Rx (args:Array Value) (w:World):(callFunc 163 args).run Tryz.prog w=.ok (.enter 163 args) w:=by kernel_rfl
section
variable {w w':World} {M:Mo} {a:Qa} {P:Pt}
theorem Ry (hM:ah w M) (h:bE w a P) (hl:P.ph=1->gY M.xs M.ds (M.hs,P.H)):Calls Tryz.prog 286 #[ptr a.f,ptr M.m] w fun e w'=>e=.returned (.bool (qu (lm M) P))/\Below w.heap.size w w':=by
 have c3:=h.hd.2.2.2.1
 have hR:=FN hM h.2 hl
 unfold qu
 generalize eJ (lm M) P.bu=b at*
 replace hR:=Lib.hid hR
 clear hM h hl
 go_enter Tryz.func286,Tryz.ntmps286
 go_wp2_with fail
 refine hR.out.mono ?_
 rintro e w' ⟨rfl,hb⟩
 replace hb:=Lib.hid hb
 clear c3
 go_wp2_with fail
 go_ret
 exact ⟨rfl,hb.out⟩
theorem RA (hM:ah w M) (h:bE w a P) (ok:vf (lm M) P) (hr:qu (lm M) P=true):
 Calls Tryz.prog 287 #[ptr a.f,ptr M.m] w fun e w'=>e=.returned (.bool (jC (lm M) P))/\ba w M a P (cG (lm M) P).1 (cG (lm M) P).2 w':=by
 have c4:=h.hd.2.2.2.2.1
 unfold iH at c4
 have fR:=ok.nx
 unfold jC
 by_cases e2:P.nx=2
 ·rw [if_pos e2] at c4
  rw [show decide (6<=P.nx)=false by simp; omega]
  obtain ⟨r,o⟩:=ok.sk e2
  exact uc c4 Rt (Bd hM h o hr e2)
 rw [if_neg e2] at c4
 by_cases e3:P.nx=3
 ·rw [if_pos e3] at c4
  rw [show decide (6<=P.nx)=false by simp; omega]
  cases hf:gj M.ss with
  | some m=>exact uc c4 HZ (Ro hM h (vO.1 hf) (ok.gen e3 m) e3)
  | none=>exact uc c4 HZ (Rr hM h (Bg.1 hf) e3)
 rw [if_neg e3] at c4
 by_cases e4:P.nx=4
 ·rw [if_pos e4] at c4
  rw [show decide (6<=P.nx)=false by simp; omega]
  exact uc c4 Ru (Rk hM h (ok.lead e4) e4)
 rw [if_neg e4] at c4
 by_cases e5:P.nx=5
 ·rw [if_pos e5] at c4
  rw [show decide (6<=P.nx)=false by simp; omega]
  exact uc c4 Rv (Rj hM h (ok.ret e5) e5)
 rw [if_neg e5] at c4
 have e6:P.nx=6:=by omega
 rw [if_pos e6] at c4
 rw [show decide (6<=P.nx)=true by simp; omega]
 exact uc c4 Rx (Rl hM h (ok.drop e6).1 (ok.drop e6).2 e6)
end
theorem rL:ou yg 179 286 287 vf qu cG jC where
 below h hb:=h.below hb
 mr b w f:=by kernel_rfl
 ms b w f:=by kernel_rfl
 er args w:=by kernel_rfl
 es args w:=by kernel_rfl
 ready {w M a p} hM h ok:=Ry hM h (fun q=>by
  by_cases e2:p.nx=2
  ·obtain ⟨r,o⟩:=ok.sk e2
   exact o.hd q
  ·exact absurd q (ok.ph e2))
 step hM h ok hr:=RA hM h ok hr
end Go.Proofs.YtpanebgakndddaaGreat.Pu
