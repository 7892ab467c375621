/- Walks and plain mathematics, put together in their order: WkD, WkE, WkF, WkG, WkH, WkI, WkW, WkQ, AnB, AwR. -/
import Derived.Test.YtpanebgakndddaaGreatPart12
import Derived.Test.DbgTool
set_option linter.unusedVariables false
set_option linter.unusedSimpArgs false
namespace Go.Proofs.YtpanebgakndddaaGreat.Wo
open Go Go.RowKit Hp K Fl Rw Hm Ar Mm Me LK Qs Wk Pc Pn Mq Pu Zp Mx cJ Bs Zr Ca
set_option maxRecDepth 100000
section
variable {w w0 w1 w2 w3:World} {M:Mo} {a a1:Wp} {s s1:Ws} {c:Ct} {C C':Cl} {L':Lm}
theorem Gb (hM:ah w M) (h:bA.At w a s) (ok:∀ p,s.run=some p->jC (lm M) p.2):Calls Tryz.prog 12 #[ptr (bA.f a),ptr M.m] w fun e w'=>e=.returned (.bool (match s.run with | none=>decide (s.left≠[]) | some p=>ij (lm M) p.2))/\Below w.heap.size w w':=by
 have hL:=vR h
 have hC:=fun p hp=>GR hM (h.run p hp) (ok p hp)
 obtain ⟨hb,hl,hz,hr⟩:=h
 obtain ⟨num,idx,br,left,run⟩:=s
 obtain ⟨f,A,cap,r⟩:=a
 have hL:Calls Tryz.prog 11 #[ptr f] w fun e w'=>e=.returned (.bool (decide (run.isSome=true\/left≠[])))/\Below w.heap.size w w':=hL
 have c3:=hb.cell 3
 cases run with
 | none=>
   simp [nB,dy] at c3
   have e:decide ((none:Option (Ct×Cl)).isSome=true\/left≠[])=decide (left≠[]):=by
    congr 1
    simp
   rw [e] at hL
   show Calls Tryz.prog 12 #[ptr f,ptr M.m] w fun e w'=>e=.returned (.bool (decide (left≠[])))/\Below w.heap.size w w'
   generalize decide (left≠[])=q at*
   replace hL:=Lib.hid hL
   clear e hb hl hr hC ok hM hz
   go_enter Tryz.func12,Tryz.ntmps12
   go_wp2_with fail
   refine hL.out.mono ?_
   rintro e w' ⟨rfl,hb⟩
   replace hb:=Lib.hid hb
   clear hL c3
   go_wp2_with fail
   go_ret
   exact ⟨rfl,hb.out⟩
 | some p=>
   simp [nB,dy] at c3
   have hC:Calls Tryz.prog 29 #[ptr r.f,ptr M.m] w fun e w'=>e=.returned (.bool (ij (lm M) p.2))/\Below w.heap.size w w':=hC p rfl
   show Calls Tryz.prog 12 #[ptr f,ptr M.m] w fun e w'=>e=.returned (.bool (ij (lm M) p.2))/\Below w.heap.size w w'
   generalize ij (lm M) p.2=q at*
   replace hC:=Lib.hid hC
   clear hL hb hl hr ok hM hz
   go_enter Tryz.func12,Tryz.ntmps12
   go_wp2_with fail
   refine hC.out.mono ?_
   rintro e w' ⟨rfl,hb⟩
   replace hb:=Lib.hid hb
   clear hC c3
   go_wp2_with fail
   go_ret
   exact ⟨rfl,hb.out⟩
theorem DV (h:bA.At w a s):Calls Tryz.prog 13 #[ptr (bA.f a)] w fun e w'=>e=.returned (.int .u64 (match s.run with | none=>0 | some p=>bU p.2))/\Below w.heap.size w w':=by
 have hC:=fun p hp=>tT (h.run p hp)
 obtain ⟨hb,hl,hz,hr⟩:=h
 obtain ⟨num,idx,br,left,run⟩:=s
 obtain ⟨f,A,cap,r⟩:=a
 have c3:=hb.cell 3
 cases run with
 | none=>
   simp [nB,dy] at c3
   clear hb hl hr hC hz
   go_enter Tryz.func13,Tryz.ntmps13
   go_wp2_with fail
   go_ret
   exact ⟨rfl,Below.refl _ _⟩
 | some p=>
   simp [nB,dy] at c3
   have hC:Calls Tryz.prog 30 #[ptr r.f] w fun e w'=>e=.returned (.int .u64 (bU p.2))/\Below w.heap.size w w':=hC p rfl
   show Calls Tryz.prog 13 #[ptr f] w fun e w'=>e=.returned (.int .u64 (bU p.2))/\Below w.heap.size w w'
   generalize bU p.2=q at*
   replace hC:=Lib.hid hC
   clear hb hl hr hz
   go_enter Tryz.func13,Tryz.ntmps13
   go_wp2_with fail
   refine hC.out.mono ?_
   rintro e w' ⟨rfl,hb⟩
   replace hb:=Lib.hid hb
   clear hC c3
   go_wp2_with fail
   go_ret
   exact ⟨rfl,hb.out⟩
theorem Vs (h:bA.At w a s) (h0:s.run=none) (h1:s.left=[]) (m:Value) (now:Int):Calls Tryz.prog 14 #[ptr (bA.f a),m,.int .i64 now] w fun e w'=>e=.returned (.tuple #[sg,.bool false])/\Below w.heap.size w w':=by
 have hL:=Lib.hid (fun w1 (hb:Below w.heap.size w w1)=>show Calls Tryz.prog 11 #[ptr a.f] w1 fun e w'=>e=.returned (.bool false)/\Below w1.heap.size w1 w' from by
  have:=vR (sQ h hb)
  rw [h0,h1] at this
  exact this)
 generalize hf:a.f=f at*
 show Calls Tryz.prog 14 #[ptr a.f,m,.int .i64 now] w fun e w'=>e=.returned (.tuple #[.agg #[.int .i64 0,.int .i64 0,.int .i64 0,.string ⟨#[]⟩,.string ⟨#[]⟩,.int .i64 0,.int .i64 0,.int .i64 0,.int .i64 0,.bool false,.string ⟨#[]⟩],.bool false])/\Below w.heap.size w w'
 rw [hf]
 clear h h0 h1 hf
 obtain ⟨w1,aJ⟩:∃ w1,w1=w.alloc (.cells (dF 0 0 dt 0 0 (0,false,⟨#[]⟩)) 46):=⟨_,rfl⟩
 have d1:Below w.heap.size w w1:=by rw [aJ]; exact below_1 _ _
 have e1:af w1 w.heap.size 46 (dF 0 0 dt 0 0 (0,false,⟨#[]⟩)):=by rw [aJ]; exact af.made _ _ _
 have gb:=Lib.hid (hL.out w1 d1)
 obtain ⟨p,hp⟩:∃ p,p=w.heap.size:=⟨_,rfl⟩
 rw [<-hp] at e1
 replace d1:=Lib.hid d1
 replace e1:=Lib.hid e1
 clear hL
 go_enter Tryz.func14,Tryz.ntmps14
 go_upto_region 1 with (fail)
 change Code.wp _ _ _ _ (w.alloc (.cells (dF 0 0 dt 0 0 (0,false,⟨#[]⟩)) 46))
 rw [<-aJ,<-hp]
 clear aJ
 go_wp2_with fail
 refine gb.out.mono ?_
 rintro e w2 ⟨rfl,hb⟩
 have x:=e1.out.only (ab.aA hb (fun _=>False)) (by simp)
 have hE:Hid (Below w.heap.size w (fX w2 p 0 [.int .i64 0,.int .i64 0,.int .i64 0,.string ⟨#[]⟩,.string ⟨#[]⟩,.int .i64 0,.int .i64 0,.int .i64 0,.int .i64 0,.bool false,.string ⟨#[]⟩])):=Lib.hid (by
  have:=d1.out.trans (hb.mono d1.out.size)
  exact Kf this (by omega))
 have s0:=x.cell 0
 have t0:=x.frozen 0
 have s1:=x.cell 1
 have t1:=x.frozen 1
 have s2:=x.cell 2
 have t2:=x.frozen 2
 have s3:=x.cell 3
 have t3:=x.frozen 3
 have s4:=x.cell 4
 have t4:=x.frozen 4
 have s5:=x.cell 5
 have t5:=x.frozen 5
 have s6:=x.cell 6
 have t6:=x.frozen 6
 have s7:=x.cell 7
 have t7:=x.frozen 7
 have s8:=x.cell 8
 have t8:=x.frozen 8
 have s9:=x.cell 9
 have t9:=x.frozen 9
 have s10:=x.cell 10
 have t10:=x.frozen 10
 simp [dF] at s0 s1 s2 s3 s4 s5 s6 s7 s8 s9 s10
 clear x e1 hb d1 hp gb
 go_wp2_with fail
 exact bodyPost_ret (v:=.tuple #[.agg #[.int .i64 0,.int .i64 0,.int .i64 0,.string ⟨#[]⟩,.string ⟨#[]⟩,.int .i64 0,.int .i64 0,.int .i64 0,.int .i64 0,.bool false,.string ⟨#[]⟩],.bool false])
  (by simp [results,Tryz.results14,go_sem, *]) rfl ⟨rfl,hE.out⟩
end
end Go.Proofs.YtpanebgakndddaaGreat.Wo
namespace Go.Proofs.YtpanebgakndddaaGreat.Wo
open Go Go.RowKit Hp K Fl Rw Hm Ar Mm Me LK Qs Wk Pc Pn Mq Pu Zp Mx cJ Bs Zr Ca
set_option maxRecDepth 100000
section
variable {w w0 w1 w2 w3:World} {M:Mo} {a a1:Wp} {s s1 s2:Ws} {c:Ct} {C C':Cl} {L':Lm} {e:Ending} {now:Int}
theorem Vt (hM:ah w M) (h:bA.At w a s) (hO:ab (·=a.f) w w1) (h1:bA.At w1 a1 s1) (hf:a1.f=a.f) (tK:∀ x,bA.aQ a1 s1 x->bA.aQ a s x\/w.heap.size<=x) (hr:s1.run=some (c,C)) (hs:cE.bh w1 M a1.r C L' C' w2):
 bA.bh w M a s L' {s1 with run:=some (c,C')} w2:=by
 obtain ⟨M',r',q1,q2,q3,q4,q5,q6,q7⟩:=hs
 have aw:ah w1 M:=hM.only hO (fun x hx e=>xu h hM (.inl e) hx)
 have nE:=h1.run _ hr
 have cA:=hO.size
 have av:=h1.ao
 have Fj:¬(aq M a1.f\/cE.aQ a1.r C a1.f):=fun q=>by
  rcases q with q | q
  ·exact xu h1 aw (.inl rfl) q
  ·exact Kb av (by decide) nE q rfl
 refine ⟨M',{a1 with r:=r'},q1,q2,?_,⟨?_,?_,?_,?_⟩,hf,?_,?_⟩
 ·exact ⟨q3.m,q3.g,q3.lg,q3.ar,fun x hx=>(q3.aQ x hx).imp id (fun q=>Nat.le_trans cA q)⟩
 ·have:=av.only q7 Fj
  have e:nB {a1 with r:=r'} {s1 with run:=some (c,C')}=nB a1 s1:=by
   unfold nB
   rw [hr]
   show dy _ _ _ _ _ (ptr r'.f) _ _ _ _=dy _ _ _ _ _ (ptr a1.r.f) _ _ _ _
   rw [show r'.f=a1.r.f from q5]
  rw [<-e] at this
  exact this
 ·refine h1.uK.only q7 (fun x hl hx q=>?_)
  rcases q with q | q
  ·exact xu h1 aw (.inr (.inl ⟨hl,hx⟩)) q
  ·exact xt nE q (h1.uK.ty hl hx) (by decide)
 ·have:=h1.sz
  rw [hr] at this
  exact this
 ·intro p hp
  have hp:some (c,C')=some p:=hp
  simp only [Option.some.injEq] at hp
  subst hp
  exact q4
 ·intro x hx
  rcases hx with hx | ⟨hl,hx⟩ | ⟨p,hp,hx⟩
  ·exact .inl (.inl (hx.trans hf))
  ·exact tK x (.inr (.inl ⟨hl,hx⟩))
  ·have hp:some (c,C')=some p:=hp
   simp only [Option.some.injEq] at hp
   subst hp
   rcases q6 x hx with q | q
   ·exact tK x (.inr (.inr ⟨_,hr,q⟩))
   ·exact .inr (Nat.le_trans cA q)
 ·refine (hO.mono (fun x _ q=>.inr (.inl q))).trans' q7 (fun x hx q=>?_)
  rcases q with q | q
  ·exact .inl q
  ·rcases tK x (.inr (.inr ⟨_,hr,q⟩)) with q | q
   ·exact .inr q
   ·omega
theorem Ae (hs:bA.bh w M a s L' s2 w2) {p:Nat} (hp:w.heap.size<=p) {cs:Array Value} (hb:af w2 p 46 cs) (hO:ab (·=p) w2 w3):bA.bh w M a s L' s2 w3:=by
 obtain ⟨M',a',q1,q2,q3,q4,q5,q6,q7⟩:=hs
 refine ⟨M',a',q1.only hO (fun x hx e=>?_),q2,q3,sf q4 hO (fun x hx e=>?_),q5,q6,q7.trans' hO (fun x hx e=>?_)⟩
 ·subst e
  exact (q1.ty hx).apart (bm hb) (by decide)
 ·subst e
  rcases hx with hx | ⟨hl,hx⟩ | ⟨p',tJ,hx⟩
  ·rw [hx] at hb
   exact (bm hb).apart (bm q4.ao) (by decide)
  ·exact (q4.uK.ty hl hx).apart (bm hb) (by decide)
  ·exact xt (q4.run _ tJ) hx (bm hb) (by decide)
 ·subst e
  omega
theorem Vu {r:Cp} (hM:ah w1 M) (hC:cE.At w1 r C) (hs:cE.bh w1 M r C L' C' w2) {p:Nat} {cs:Array Value} (hb:af w1 p 46 cs):af w2 p 46 cs:=by
 obtain ⟨M',r',q1,q2,q3,q4,q5,q6,q7⟩:=hs
 refine hb.only q7 (fun q=>?_)
 rcases q with q | q
 ·exact (hM.ty q).apart (bm hb) (by decide)
 ·exact xt hC q (bm hb) (by decide)
end
end Go.Proofs.YtpanebgakndddaaGreat.Wo
namespace Go.Proofs.YtpanebgakndddaaGreat.Wo
open Go Go.RowKit Hp K Fl Rw Hm Ar Mm Me LK Qs Wk Pc Pn Mq Pu Zp Mx cJ Bs Zr Ca
set_option maxRecDepth 100000
def xy (w:World) (M:Mo) (a:Wp) (s:Ws) (c:Ct) (C:Cl) (now br:Int) (left:List Ct) (e:Ending) (w':World):Prop:=
 e=.returned (lN s now (lm M) c C br)/\bA.bh w M a s (bJ (lm M) C).1 (iE s now (lm M) c C br left) w'
def DW (w:World) (M:Mo) (a:Wp) (s:Ws) (L':Lm) (s2:Ws) (c:Ct) (C':Cl) (now:Int) (w2:World) (e:Ending) (w3:World):Prop:=
 e=.returned (mz s2.num s2.idx c s2.br now (da C'))/\bA.bh w M a s L' ⟨s2.num,s2.idx+1,s2.br,s2.left,none⟩ w3/\ab (·=a.f) w2 w3
section
variable {w w1 w2 w3:World} {M:Mo} {a a1:Wp} {s s1 s2:Ws} {c:Ct} {C C':Cl} {L':Lm} {now:Int} {f:Nat} {p:Nat}
theorem Kg (hs:bA.bh w M a s L' s2 w2) (hr:s2.run=some (c,C')) (now:Int):Calls Tryz.prog 33 #[ptr a.f,.int .i64 now] w2 (DW w M a s L' s2 c C' now w2):=by
 have hs':=hs
 obtain ⟨M',a',q1,q2,q3,q4,q5,q6,q7⟩:=hs
 have:=nY q4 hr now
 rw [show a'.f=a.f from q5] at this
 refine this.mono fun e w3 r=>?_
 obtain ⟨r1,r2,r3⟩:=r
 rw [show a'.f=a.f from q5] at r3
 refine ⟨r1,⟨M',a',q1.only r3 (fun x hx e=>xu q4 q1 (.inl (e.trans q5.symm)) hx),q2,q3,r2,q5,fun x hx=>?_,?_⟩,r3⟩
 ·rcases hx with hx | ⟨hl,hx⟩ | ⟨p,hp,hx⟩
  ·exact q6 x (.inl hx)
  ·exact q6 x (.inr (.inl ⟨hl,hx⟩))
  ·exact absurd hp (by simp)
 ·exact q7.trans (r3.mono (fun x _ e=>.inr (.inl e)))
theorem Kh {L:Lm} {br:Int} {left:List Ct} (h:dI L C=true):iE s now L c C br left=⟨s.num,s.idx+1,br,left,none⟩:=by unfold iE; rw [if_pos h]
theorem Ki {L:Lm} {br:Int} {left:List Ct} (h:dI L C=false):iE s now L c C br left=⟨s.num,s.idx,br,left,some (c,(bJ L C).2)⟩:=by unfold iE; rw [if_neg (by rw [h]; simp)]
structure dS (w:World) (M:Mo) (a:Wp) (s s1:Ws) (c:Ct) (C:Cl) (f p r:Nat) (w1:World):Prop where
 fa:f=a.f
 res:af w1 p 46 (dF 0 0 dt 0 0 (0,false,⟨#[]⟩))
 pn:w.heap.size<=p
 pf:p≠f
 run:w1.cell? ⟨f,3,none⟩=some (ptr r)
 lt:f<w1.heap.size
 step:Calls Tryz.prog 32 #[ptr r,ptr M.m] w1 fun e w2=>e=.returned (.bool (dI (lm M) C))/\(bA.bh w M a s (bJ (lm M) C).1 {s1 with run:=some (c,(bJ (lm M) C).2)} w2/\af w2 p 46 (dF 0 0 dt 0 0 (0,false,⟨#[]⟩)))
theorem DX (hM:ah w M) (h:bA.At w a s) (hO:ab (·=a.f) w w1) (h1:bA.At w1 a1 s1) (hf:a1.f=a.f) (tK:∀ x,bA.aQ a1 s1 x->bA.aQ a s x\/w.heap.size<=x) (hr:s1.run=some (c,C)) (hp:af w1 p 46 (dF 0 0 dt 0 0 (0,false,⟨#[]⟩))) (eQ:w.heap.size<=p)
 (ok:jC (lm M) C) (rd:ij (lm M) C=true):dS w M a s s1 c C a.f p a1.r.f w1:=by
 have aw:ah w1 M:=hM.only hO (fun x hx e=>xu h hM (.inl e) hx)
 have hb:=h1.ao
 rw [hf] at hb
 refine ⟨rfl,hp,eQ,hp.differ hb (by decide),?_,hb.lt,?_⟩
 ·rw [hb.cell]
  unfold nB
  rw [hr]
  rfl
 ·refine (GS aw (h1.run _ hr) ok rd).mono fun e w2 q=>⟨q.1,Vt hM h hO h1 hf tK hr q.2,Vu aw (h1.run _ hr) q.2 hp⟩
end
end Go.Proofs.YtpanebgakndddaaGreat.Wo
namespace Go.Proofs.YtpanebgakndddaaGreat.Wo
open Go Go.RowKit Hp K Fl Rw Hm Ar Mm Me LK Qs Wk Pc Pn Mq Pu Zp Mx cJ Bs Zr Ca
set_option maxRecDepth 100000
section
variable {w:World} {M:Mo} {a:Wp} {s:Ws} {c:Ct} {C:Cl}
theorem DY (h:bA.At w a s) (hl:s.run.isSome=true\/s.left≠[]) {w1:World} (hb:Below w.heap.size w w1):Calls Tryz.prog 11 #[ptr a.f] w1 fun e w'=>e=.returned (.bool true)/\Below w1.heap.size w1 w':=by
 have:=vR (sQ h hb)
 rw [decide_eq_true hl] at this
 exact this
set_option maxHeartbeats 2000000 in
theorem Vv (hM:ah w M) (h:bA.At w a s) (h0:s.run=some (c,C)) (ok:jC (lm M) C) (rd:ij (lm M) C=true) (hd:dI (lm M) C=false) (now:Int):
 Calls Tryz.prog 14 #[ptr a.f,ptr M.m,.int .i64 now] w (xy w M a s c C now s.br s.left):=by
 have hL:=Lib.hid (fun w1 (hb:Below w.heap.size w w1)=>DY h (.inl (by rw [h0]; rfl)) hb)
 have hD:=Lib.hid (fun w1 p (hb:Below w.heap.size w w1) (hp:af w1 p 46 (dF 0 0 dt 0 0 (0,false,⟨#[]⟩))) (eQ:w.heap.size<=p)=>DX hM h (ab.aA hb _) (sQ h hb) rfl (fun x q=>.inl q) h0 hp eQ ok rd)
 have hE:=Lib.hid (fun w3 p (eQ:w.heap.size<=p) (q:bA.bh w M a s (bJ (lm M) C).1 {s with run:=some (c,(bJ (lm M) C).2)} w3) (q2:af w3 p 46 (dF 0 0 dt 0 0 (0,false,⟨#[]⟩)))=>
  show xy w M a s c C now s.br s.left (.returned (.tuple #[.agg #[.int .i64 0,.int .i64 0,.int .i64 0,.string ⟨#[]⟩,.string ⟨#[]⟩,.int .i64 0,.int .i64 0,.int .i64 0,.int .i64 0,.bool false,.string ⟨#[]⟩],.bool false])) (fX w3 p 0 [.int .i64 0,.int .i64 0,.int .i64 0,.string ⟨#[]⟩,.string ⟨#[]⟩,.int .i64 0,.int .i64 0,.int .i64 0,.int .i64 0,.bool false,.string ⟨#[]⟩]) from by
   refine ⟨?_,?_⟩
   ·unfold lN
    rw [hd]
    rfl
   ·rw [Ki hd]
    exact Ae q eQ q2 (sR (ab.refl _ _)))
 generalize hf:a.f=f at*
 generalize yK:a.r.f=rf at*
 clear h hM ok rd h0
 replace hd:=Lib.hid hd
 replace hf:=Lib.hid hf
 replace yK:=Lib.hid yK
 obtain ⟨w1,aJ⟩:∃ w1,w1=w.alloc (.cells (dF 0 0 dt 0 0 (0,false,⟨#[]⟩)) 46):=⟨_,rfl⟩
 have d1:Below w.heap.size w w1:=by rw [aJ]; exact below_1 _ _
 have e1:af w1 w.heap.size 46 (dF 0 0 dt 0 0 (0,false,⟨#[]⟩)):=by rw [aJ]; exact af.made _ _ _
 have gb:=Lib.hid (hL.out w1 d1)
 obtain ⟨p,hp⟩:∃ p,p=w.heap.size:=⟨_,rfl⟩
 rw [<-hp] at e1
 replace d1:=Lib.hid d1
 replace e1:=Lib.hid e1
 clear hL
 go_enter Tryz.func14,Tryz.ntmps14
 go_upto_region 1 with (fail)
 change Code.wp _ _ _ _ (w.alloc (.cells (dF 0 0 dt 0 0 (0,false,⟨#[]⟩)) 46))
 rw [<-aJ,<-hp]
 clear aJ
 go_wp2_with fail
 refine gb.out.mono ?_
 rintro e w2 ⟨rfl,hb⟩
 have x:=e1.out.only (ab.aA hb (fun _=>False)) (by simp)
 have fh:=hD.out w2 p (d1.out.trans (hb.mono d1.out.size)) x (by omega)
 have c3:=fh.run
 have lf:=fh.lt
 have bR:=fh.step
 have gN:=Lib.hid (hE.out · p (by omega))
 rw [hd.out] at bR
 replace bR:=Lib.hid bR
 clear x e1 hb d1 gb fh hD hE hp
 go_wp2_with fail
 refine bR.out.mono ?_
 rintro e w3 ⟨rfl,hS,ct⟩
 have hF:=Lib.hid (gN.out w3 hS ct)
 have s0:=ct.cell 0
 have t0:=ct.frozen 0
 have s1:=ct.cell 1
 have t1:=ct.frozen 1
 have s2:=ct.cell 2
 have t2:=ct.frozen 2
 have s3:=ct.cell 3
 have t3:=ct.frozen 3
 have s4:=ct.cell 4
 have t4:=ct.frozen 4
 have s5:=ct.cell 5
 have t5:=ct.frozen 5
 have s6:=ct.cell 6
 have t6:=ct.frozen 6
 have s7:=ct.cell 7
 have t7:=ct.frozen 7
 have s8:=ct.cell 8
 have t8:=ct.frozen 8
 have s9:=ct.cell 9
 have t9:=ct.frozen 9
 have s10:=ct.cell 10
 have t10:=ct.frozen 10
 simp [dF] at s0 s1 s2 s3 s4 s5 s6 s7 s8 s9 s10
 clear hS ct bR gN c3 lf
 go_wp2_with fail
 exact bodyPost_ret (v:=.tuple #[.agg #[.int .i64 0,.int .i64 0,.int .i64 0,.string ⟨#[]⟩,.string ⟨#[]⟩,.int .i64 0,.int .i64 0,.int .i64 0,.int .i64 0,.bool false,.string ⟨#[]⟩],.bool false])
  (by simp [results,Tryz.results14,go_sem, *]) rfl hF.out
set_option maxHeartbeats 2000000 in
theorem Vw (hM:ah w M) (h:bA.At w a s) (h0:s.run=some (c,C)) (ok:jC (lm M) C) (rd:ij (lm M) C=true) (hd:dI (lm M) C=true) (now:Int):
 Calls Tryz.prog 14 #[ptr a.f,ptr M.m,.int .i64 now] w (xy w M a s c C now s.br s.left):=by
 have hL:=Lib.hid (fun w1 (hb:Below w.heap.size w w1)=>DY h (.inl (by rw [h0]; rfl)) hb)
 have hD:=Lib.hid (fun w1 p (hb:Below w.heap.size w w1) (hp:af w1 p 46 (dF 0 0 dt 0 0 (0,false,⟨#[]⟩))) (eQ:w.heap.size<=p)=>DX hM h (ab.aA hb _) (sQ h hb) rfl (fun x q=>.inl q) h0 hp eQ ok rd)
 have hN:=Lib.hid (fun w3 (q:bA.bh w M a s (bJ (lm M) C).1 {s with run:=some (c,(bJ (lm M) C).2)} w3)=>Kg q rfl now)
 have hE:=Lib.hid (fun w3 w4 p e (eQ:w.heap.size<=p) (qC:p≠a.f) (q:DW w M a s (bJ (lm M) C).1 {s with run:=some (c,(bJ (lm M) C).2)} c (bJ (lm M) C).2 now w3 e w4) (q2:af w3 p 46 (dF 0 0 dt 0 0 (0,false,⟨#[]⟩)))=>
  show e=.returned (.agg #[.int .i64 s.num,.int .i64 s.idx,.int .i64 c.kind,.string c.key,.string c.val,.int .i64 c.size,.int .i64 s.br,.int .i64 now,.int .i64 (da (bJ (lm M) C).2).1,.bool (da (bJ (lm M) C).2).2.1,.string (da (bJ (lm M) C).2).2.2])/\af w4 p 46 (dF 0 0 dt 0 0 (0,false,⟨#[]⟩))/\
   xy w M a s c C now s.br s.left (.returned (.tuple #[.agg #[.int .i64 s.num,.int .i64 s.idx,.int .i64 c.kind,.string c.key,.string c.val,.int .i64 c.size,.int .i64 s.br,.int .i64 now,.int .i64 (da (bJ (lm M) C).2).1,.bool (da (bJ (lm M) C).2).2.1,.string (da (bJ (lm M) C).2).2.2],.bool true])) (fX w4 p 0 [.int .i64 s.num,.int .i64 s.idx,.int .i64 c.kind,.string c.key,.string c.val,.int .i64 c.size,.int .i64 s.br,.int .i64 now,.int .i64 (da (bJ (lm M) C).2).1,.bool (da (bJ (lm M) C).2).2.1,.string (da (bJ (lm M) C).2).2.2]) from by
   obtain ⟨q1,q3,q4⟩:=q
   have hb:=q2.only q4 qC
   refine ⟨q1,hb,?_,?_⟩
   ·unfold lN
    rw [hd]
    rfl
   ·rw [Kh hd]
    exact Ae q3 eQ hb (sR (ab.refl _ _)))
 obtain ⟨kind,key,val,size⟩:=c
 obtain ⟨num,idx,br,left,run⟩:=s
 generalize hx:da (bJ (lm M) C).2=xx at*
 obtain ⟨xe,xh,xv⟩:=xx
 simp only at hE hN
 generalize hf:a.f=f at*
 generalize yK:a.r.f=rf at*
 clear h hM ok rd h0
 replace hd:=Lib.hid hd
 replace hx:=Lib.hid hx
 replace hf:=Lib.hid hf
 replace yK:=Lib.hid yK
 obtain ⟨w1,aJ⟩:∃ w1,w1=w.alloc (.cells (dF 0 0 dt 0 0 (0,false,⟨#[]⟩)) 46):=⟨_,rfl⟩
 have d1:Below w.heap.size w w1:=by rw [aJ]; exact below_1 _ _
 have e1:af w1 w.heap.size 46 (dF 0 0 dt 0 0 (0,false,⟨#[]⟩)):=by rw [aJ]; exact af.made _ _ _
 have gb:=Lib.hid (hL.out w1 d1)
 obtain ⟨p,hp⟩:∃ p,p=w.heap.size:=⟨_,rfl⟩
 rw [<-hp] at e1
 replace d1:=Lib.hid d1
 replace e1:=Lib.hid e1
 clear hL
 go_enter Tryz.func14,Tryz.ntmps14
 go_upto_region 1 with (fail)
 change Code.wp _ _ _ _ (w.alloc (.cells (dF 0 0 dt 0 0 (0,false,⟨#[]⟩)) 46))
 rw [<-aJ,<-hp]
 clear aJ
 go_wp2_with fail
 refine gb.out.mono ?_
 rintro e w2 ⟨rfl,hb⟩
 have x:=e1.out.only (ab.aA hb (fun _=>False)) (by simp)
 have fh:=hD.out w2 p (d1.out.trans (hb.mono d1.out.size)) x (by omega)
 have c3:=fh.run
 have lf:=fh.lt
 have bR:=fh.step
 have qC:=fh.pf
 have gN:=Lib.hid (fun w3 w4 e=>hE.out w3 w4 p e (by omega) qC)
 rw [hd.out] at bR
 replace bR:=Lib.hid bR
 clear x e1 hb d1 gb fh hD hE hp
 go_wp2_with fail
 refine bR.out.mono ?_
 rintro e w3 ⟨rfl,hS,ct⟩
 have gC:=Lib.hid (hN.out w3 hS)
 have oB:=Lib.hid (fun w4 e q=>gN.out w3 w4 e q ct)
 clear hS ct bR gN c3 lf hN
 go_wp2_with fail
 refine gC.out.mono ?_
 rintro e w4 q
 obtain ⟨rfl,az,hF⟩:=oB.out w4 e q
 have s0:=az.cell 0
 have t0:=az.frozen 0
 have s1:=az.cell 1
 have t1:=az.frozen 1
 have s2:=az.cell 2
 have t2:=az.frozen 2
 have s3:=az.cell 3
 have t3:=az.frozen 3
 have s4:=az.cell 4
 have t4:=az.frozen 4
 have s5:=az.cell 5
 have t5:=az.frozen 5
 have s6:=az.cell 6
 have t6:=az.frozen 6
 have s7:=az.cell 7
 have t7:=az.frozen 7
 have s8:=az.cell 8
 have t8:=az.frozen 8
 have s9:=az.cell 9
 have t9:=az.frozen 9
 have s10:=az.cell 10
 have t10:=az.frozen 10
 simp [dF] at s0 s1 s2 s3 s4 s5 s6 s7 s8 s9 s10
 replace hF:=Lib.hid hF
 clear q az oB gC
 go_wp2_with fail
 exact bodyPost_ret (v:=.tuple #[.agg #[.int .i64 num,.int .i64 idx,.int .i64 kind,.string key,.string val,.int .i64 size,.int .i64 br,.int .i64 now,.int .i64 xe,.bool xh,.string xv],.bool true])
  (by simp [results,Tryz.results14,go_sem, *]) rfl hF.out
end
end Go.Proofs.YtpanebgakndddaaGreat.Wo
namespace Go.Proofs.YtpanebgakndddaaGreat.Wo
open Go Go.RowKit Hp K Fl Rw Hm Ar Mm Me LK Qs Wk Pc Pn Mq Pu Zp Mx cJ Bs Zr Ca
set_option maxRecDepth 100000
def DZ (w:World) (M:Mo) (a:Wp) (s:Ws) (c:Ct) (t:List Ct) (now:Int) (e:Ending) (w':World):Prop:=∃ C,iV s.num c C/\xy w M a s c C now now t e w'
section
variable {w w2 w3:World} {M:Mo} {a:Wp} {s:Ws} {c:Ct} {C:Cl} {t:List Ct} {p:Nat} {now:Int} {e:Ending}
theorem Vx (hM:ah w M) (h:bA.At w a s) (h0:s.run=none) (h1:s.left=c::t) (hb:Below w.heap.size w w2) (hB:xw w2 a s c t now e w3) (ok:∀ C,iV s.num c C->jC (lm M) C/\ij (lm M) C=true)
 (hp:af w2 p 46 (dF 0 0 dt 0 0 (0,false,⟨#[]⟩))) (eQ:w.heap.size<=p):e=.returned (.tuple #[])/\∃ C r,iV s.num c C/\dS w M a s ⟨s.num,s.idx,now,t,some (c,C)⟩ c C a.f p r w3:=by
 obtain ⟨q0,r,C,q1,q2,q3,q4⟩:=hB
 have hO:ab (·=a.f) w w3:=(ab.aA hb _).trans q4
 have cI:=(sQ h hb).ao
 refine ⟨q0,C,r.f,q1,DX (a1:=⟨a.f,o9 a.A a.cap,a.cap-1,r⟩) hM h hO q2 rfl (fun x hx=>?_) rfl (hp.only q4 (fun q=>hp.differ cI (by decide) q)) eQ (ok C q1).1 (ok C q1).2⟩
 rcases hx with hx | ⟨hl,hx⟩ | ⟨p',tJ,hx⟩
 ·exact .inl (.inl hx)
 ·exact .inl (.inr (.inl ⟨by rw [h1]; simp,Kd.1 hx⟩))
 ·have tJ:some (c,C)=some p':=tJ
  simp only [Option.some.injEq] at tJ
  subst tJ
  exact .inr (Nat.le_trans hb.size (q3 x hx))
set_option maxHeartbeats 2000000 in
theorem Vy (hM:ah w M) (h:bA.At w a s) (h0:s.run=none) (h1:s.left=c::t) (hk:c.key.size<=maxLen) (ok:∀ C,iV s.num c C->jC (lm M) C/\ij (lm M) C=true) (now:Int):
 Calls Tryz.prog 14 #[ptr a.f,ptr M.m,.int .i64 now] w (DZ w M a s c t now):=by
 have hL:=Lib.hid (fun w1 (hb:Below w.heap.size w w1)=>DY h (.inr (by rw [h1]; simp)) hb)
 have ru:=Lib.hid (fun w1 (hb:Below w.heap.size w w1)=>show w1.cell? ⟨a.f,3,none⟩=some (.pointer none) from by
  have av:=(sQ h hb).ao
  rw [av.cell]
  unfold nB
  rw [h0]
  rfl)
 have hG:=Lib.hid (fun w1 (hb:Below w.heap.size w w1)=>zU (sQ h hb) h0 h1 hk now)
 have hD:=Lib.hid (fun w2 w3 p e (hb:Below w.heap.size w w2) (hB:xw w2 a s c t now e w3) (hp:af w2 p 46 (dF 0 0 dt 0 0 (0,false,⟨#[]⟩))) (eQ:w.heap.size<=p)=>Vx hM h h0 h1 hb hB ok hp eQ)
 have hE:=Lib.hid (fun w3 p C (hI:iV s.num c C) (hd:dI (lm M) C=false) (eQ:w.heap.size<=p) (q:bA.bh w M a s (bJ (lm M) C).1 ⟨s.num,s.idx,now,t,some (c,(bJ (lm M) C).2)⟩ w3) (q2:af w3 p 46 (dF 0 0 dt 0 0 (0,false,⟨#[]⟩)))=>
  show DZ w M a s c t now (.returned (.tuple #[.agg #[.int .i64 0,.int .i64 0,.int .i64 0,.string ⟨#[]⟩,.string ⟨#[]⟩,.int .i64 0,.int .i64 0,.int .i64 0,.int .i64 0,.bool false,.string ⟨#[]⟩],.bool false])) (fX w3 p 0 [.int .i64 0,.int .i64 0,.int .i64 0,.string ⟨#[]⟩,.string ⟨#[]⟩,.int .i64 0,.int .i64 0,.int .i64 0,.int .i64 0,.bool false,.string ⟨#[]⟩]) from by
   refine ⟨C,hI,?_,?_⟩
   ·unfold lN
    rw [hd]
    rfl
   ·rw [Ki hd]
    exact Ae q eQ q2 (sR (ab.refl _ _)))
 have hN:=Lib.hid (fun w3 C (q:bA.bh w M a s (bJ (lm M) C).1 ⟨s.num,s.idx,now,t,some (c,(bJ (lm M) C).2)⟩ w3)=>Kg q rfl now)
 have hY:=Lib.hid (fun w3 w4 p e C (hI:iV s.num c C) (hd:dI (lm M) C=true) (eQ:w.heap.size<=p) (qC:p≠a.f) (q:DW w M a s (bJ (lm M) C).1 ⟨s.num,s.idx,now,t,some (c,(bJ (lm M) C).2)⟩ c (bJ (lm M) C).2 now w3 e w4) (q2:af w3 p 46 (dF 0 0 dt 0 0 (0,false,⟨#[]⟩)))=>
  show e=.returned (.agg #[.int .i64 s.num,.int .i64 s.idx,.int .i64 c.kind,.string c.key,.string c.val,.int .i64 c.size,.int .i64 now,.int .i64 now,.int .i64 (da (bJ (lm M) C).2).1,.bool (da (bJ (lm M) C).2).2.1,.string (da (bJ (lm M) C).2).2.2])/\af w4 p 46 (dF 0 0 dt 0 0 (0,false,⟨#[]⟩))/\
   DZ w M a s c t now (.returned (.tuple #[.agg #[.int .i64 s.num,.int .i64 s.idx,.int .i64 c.kind,.string c.key,.string c.val,.int .i64 c.size,.int .i64 now,.int .i64 now,.int .i64 (da (bJ (lm M) C).2).1,.bool (da (bJ (lm M) C).2).2.1,.string (da (bJ (lm M) C).2).2.2],.bool true])) (fX w4 p 0 [.int .i64 s.num,.int .i64 s.idx,.int .i64 c.kind,.string c.key,.string c.val,.int .i64 c.size,.int .i64 now,.int .i64 now,.int .i64 (da (bJ (lm M) C).2).1,.bool (da (bJ (lm M) C).2).2.1,.string (da (bJ (lm M) C).2).2.2]) from by
   obtain ⟨q1,q3,q4⟩:=q
   have hb:=q2.only q4 qC
   refine ⟨q1,hb,C,hI,?_,?_⟩
   ·unfold lN
    rw [hd]
    rfl
   ·rw [Kh hd]
    exact Ae q3 eQ hb (sR (ab.refl _ _)))
 obtain ⟨kind,key,val,size⟩:=c
 obtain ⟨num,idx,br,left,run⟩:=s
 simp only at hE hN hY hD
 generalize hf:a.f=f at*
 clear h hM ok h0 h1 hk
 replace hf:=Lib.hid hf
 obtain ⟨w1,aJ⟩:∃ w1,w1=w.alloc (.cells (dF 0 0 dt 0 0 (0,false,⟨#[]⟩)) 46):=⟨_,rfl⟩
 have d1:Below w.heap.size w w1:=by rw [aJ]; exact below_1 _ _
 have e1:af w1 w.heap.size 46 (dF 0 0 dt 0 0 (0,false,⟨#[]⟩)):=by rw [aJ]; exact af.made _ _ _
 have gb:=Lib.hid (hL.out w1 d1)
 obtain ⟨p,hp⟩:∃ p,p=w.heap.size:=⟨_,rfl⟩
 rw [<-hp] at e1
 replace d1:=Lib.hid d1
 replace e1:=Lib.hid e1
 clear hL
 go_enter Tryz.func14,Tryz.ntmps14
 go_upto_region 1 with (fail)
 change Code.wp _ _ _ _ (w.alloc (.cells (dF 0 0 dt 0 0 (0,false,⟨#[]⟩)) 46))
 rw [<-aJ,<-hp]
 have eQ:w.heap.size<=p:=by omega
 clear aJ hp
 go_wp2_with fail
 refine gb.out.mono ?_
 rintro e w2 ⟨rfl,hb⟩
 have d2:=d1.out.trans (hb.mono d1.out.size)
 have x:=e1.out.only (ab.aA hb (fun _=>False)) (by simp)
 have du:=Lib.hid (hG.out w2 d2)
 have pA:=Lib.hid (fun w3 e q=>hD.out w2 w3 p e d2 q x eQ)
 have c3:=ru.out w2 d2
 clear x e1 hb d1 gb hD ru hG d2
 go_wp2_with fail
 refine du.out.mono ?_
 intro e w3 q
 obtain ⟨rfl,C,rf,hI,fh⟩:=pA.out w3 e q
 clear c3 q du pA
 have c3:=fh.run
 have lf:=fh.lt
 have bR:=fh.step
 have qC:=fh.pf
 have gN:=Lib.hid (fun w3 hd=>hE.out w3 p C hI hd eQ)
 have di:=Lib.hid (fun w3 w4 e hd=>hY.out w3 w4 p e C hI hd eQ qC)
 have mb:=Lib.hid (fun w3=>hN.out w3 C)
 clear fh hE hY hN eQ hI qC
 cases hd:dI (lm M) C with
 | false=>
   rw [hd] at bR
   have oB:=Lib.hid (fun w3=>gN.out w3 hd)
   replace bR:=Lib.hid bR
   clear gN di mb hd
   go_wp2_with fail
   refine bR.out.mono ?_
   rintro e w4 ⟨rfl,hS,ct⟩
   have hF:=Lib.hid (oB.out w4 hS ct)
   have s0:=ct.cell 0
   have t0:=ct.frozen 0
   have s1:=ct.cell 1
   have t1:=ct.frozen 1
   have s2:=ct.cell 2
   have t2:=ct.frozen 2
   have s3:=ct.cell 3
   have t3:=ct.frozen 3
   have s4:=ct.cell 4
   have t4:=ct.frozen 4
   have s5:=ct.cell 5
   have t5:=ct.frozen 5
   have s6:=ct.cell 6
   have t6:=ct.frozen 6
   have s7:=ct.cell 7
   have t7:=ct.frozen 7
   have s8:=ct.cell 8
   have t8:=ct.frozen 8
   have s9:=ct.cell 9
   have t9:=ct.frozen 9
   have s10:=ct.cell 10
   have t10:=ct.frozen 10
   simp [dF] at s0 s1 s2 s3 s4 s5 s6 s7 s8 s9 s10
   clear hS ct bR oB c3 lf
   go_wp2_with fail
   exact bodyPost_ret (v:=.tuple #[.agg #[.int .i64 0,.int .i64 0,.int .i64 0,.string ⟨#[]⟩,.string ⟨#[]⟩,.int .i64 0,.int .i64 0,.int .i64 0,.int .i64 0,.bool false,.string ⟨#[]⟩],.bool false])
    (by simp [results,Tryz.results14,go_sem, *]) rfl hF.out
 | true=>
   rw [hd] at bR
   have gU:=Lib.hid (fun w3 w4 e=>di.out w3 w4 e hd)
   replace bR:=Lib.hid bR
   clear gN di hd
   generalize hx:da (bJ (lm M) C).2=xx at*
   obtain ⟨xe,xh,xv⟩:=xx
   simp only at gU
   replace hx:=Lib.hid hx
   go_wp2_with fail
   refine bR.out.mono ?_
   rintro e w4 ⟨rfl,hS,ct⟩
   have gC:=Lib.hid (mb.out w4 hS)
   have oB:=Lib.hid (fun w5 e q=>gU.out w4 w5 e q ct)
   clear hS ct bR gU c3 lf mb
   go_wp2_with fail
   refine gC.out.mono ?_
   rintro e w5 q
   obtain ⟨rfl,az,hF⟩:=oB.out w5 e q
   have s0:=az.cell 0
   have t0:=az.frozen 0
   have s1:=az.cell 1
   have t1:=az.frozen 1
   have s2:=az.cell 2
   have t2:=az.frozen 2
   have s3:=az.cell 3
   have t3:=az.frozen 3
   have s4:=az.cell 4
   have t4:=az.frozen 4
   have s5:=az.cell 5
   have t5:=az.frozen 5
   have s6:=az.cell 6
   have t6:=az.frozen 6
   have s7:=az.cell 7
   have t7:=az.frozen 7
   have s8:=az.cell 8
   have t8:=az.frozen 8
   have s9:=az.cell 9
   have t9:=az.frozen 9
   have s10:=az.cell 10
   have t10:=az.frozen 10
   simp [dF] at s0 s1 s2 s3 s4 s5 s6 s7 s8 s9 s10
   replace hF:=Lib.hid hF
   clear q az oB gC
   go_wp2_with fail
   exact bodyPost_ret (v:=.tuple #[.agg #[.int .i64 num,.int .i64 idx,.int .i64 kind,.string key,.string val,.int .i64 size,.int .i64 now,.int .i64 now,.int .i64 xe,.bool xh,.string xv],.bool true])
    (by simp [results,Tryz.results14,go_sem, *]) rfl hF.out
end
end Go.Proofs.YtpanebgakndddaaGreat.Wo
namespace Go.Proofs.YtpanebgakndddaaGreat.Wo
open Go Go.RowKit Hp K Fl Rw Hm Ar Mm Me LK Qs Wk Pc Pn Mq Pu Zp Mx cJ Bs Zr Ca
set_option maxRecDepth 100000
theorem Vz:(Tryz.prog.info? 31).map (fun i=>(i.zero,i.size,i.bytes))=some (some (.agg #[.int .i64 0,.string ⟨#[]⟩,.string ⟨#[]⟩,.int .i64 0]),4,48):=by kernel_rfl
def mM (c:Ct):List Value:=[.int .i64 c.kind,.string c.key,.string c.val,.int .i64 c.size]
theorem Af (c:Ct):(mM c).length=4:=rfl
theorem VA (l:List Ct):∀ v∈l.flatMap mM,v.oneCell'=true:=by
 intro v hv
 obtain ⟨c,_,hc⟩:=List.mem_flatMap.1 hv
 simp [mM] at hc
 rcases hc with rfl | rfl | rfl | rfl<;>rfl
theorem VB {w:World} {A:Option Addr} {l:List Ct} (h:vT w A l) (hl:l.length≠0):∃ a,A=some a/\∀ j v,(l.flatMap mM)[j]?=some v->w.cell? (a.add j)=some v:=by
 obtain ⟨b,o,hA,hb,_⟩:=h 0 (by omega)
 refine ⟨⟨b,o,none⟩,hA,fun j v hv=>?_⟩
 have hj:j<(l.flatMap mM).length:=(List.getElem?_eq_some_iff.1 hv).1
 rw [mx Af] at hj
 have e:j=j / 4*4+j % 4:=by omega
 have hm:j % 4<4:=by omega
 have hi:j / 4<l.length:=by omega
 rw [e,oI Af _ _ _ hm] at hv
 rw [Addr.add_lit]
 obtain ⟨b',o',dG,cY,k0,k1,k2,k3,_⟩:=h (j / 4) hi
 rw [hA] at dG
 simp only [Option.some.injEq,Addr.mk.injEq] at dG
 obtain ⟨rfl,rfl,_⟩:=dG
 have hx:l[j / 4]?=some (cat l (j / 4)):=by simp [cat,List.getD,hi]
 rw [hx] at hv
 simp only [Option.bind_some] at hv
 generalize j / 4=i at*
 generalize j % 4=m at*
 subst e
 rw [show o+(i*4+m)=o+i*4+m by omega]
 have:m=0\/m=1\/m=2\/m=3:=by omega
 rcases this with rfl | rfl | rfl | rfl
 ·rw [show o+i*4+0=o+i*4 by omega,k0]; exact hv
 ·rw [k1]; exact hv
 ·rw [k2]; exact hv
 ·rw [k3]; exact hv
def D0 (W:World) (i:Nat) (l:List Ct) (e:Ending) (w':World):Prop:=∃ a,e=.returned (ptr (bA.f a))/\bA.At w' a ⟨i,0,0,l,none⟩/\(∀ x,bA.aQ a ⟨i,0,0,l,none⟩ x->W.heap.size<=x)/\Below W.heap.size W w'
set_option maxHeartbeats 2000000 in
theorem VC (i:Nat) (l:List Ct) (A:Option Addr) (cap:Nat) (W:World) (hl:l.length<=1000) (hA:vT W A l):Calls Tryz.prog 7 #[.int .i64 i,.slice A l.length cap] W (D0 W i l):=by
 obtain ⟨i0,cq,cy,cL,cz⟩:=info_parts Vz
 have cA:(Tryz.prog.info? 31).map (·.size)=some 4:=by rw [cq]; simp [cL]
 have uT:=Lib.hid (fun w1 (hb:Below W.heap.size W w1)=>fun h0=>VB (w:=w1) (A:=A) (l:=l) (fun i hi=>by
  obtain ⟨b,o,k0,k1,k2,k3,k4,k5,k6⟩:=hA i hi
  have hc:∀ o,w1.cell? ⟨b,o,none⟩=W.cell? ⟨b,o,none⟩:=fun o=>hb.cell (p:=⟨b,o,none⟩) k1
  exact ⟨b,o,k0,Nat.lt_of_lt_of_le k1 hb.size,by rw [hc]; exact k2,by rw [hc]; exact k3,by rw [hc]; exact k4,by rw [hc]; exact k5,k6⟩) h0)
 have mQ:(l.flatMap mM).length=l.length*4:=mx Af l
 have lH:=Lib.hid (VA l)
 have kP:∀ w3 b f cs,W.heap.size<=b->W.heap.size<=f->Below W.heap.size W w3->af w3 b 31 (l.flatMap mM++cs).toArray->af w3 f 77 (dy i (some ⟨b,0,none⟩) l.length l.length 0 (.pointer none) 0 0 dt 0)->D0 W i l (.returned (ptr f)) w3:=by
  intro w3 b f cs h1 h2 h3 h4 h5
  refine ⟨⟨f,some ⟨b,0,none⟩,l.length,⟨0,.nilIface,wj,ze,wm⟩⟩,rfl,⟨h5,.inr ⟨b,0,_,rfl,h4,fun j c hj=>?_⟩,⟨Nat.le_refl _,by show 0+l.length+0<=1000; omega⟩,fun p hp=>by simp at hp⟩,fun x hx=>?_,h3⟩
  ·have mn:j<l.length:=(List.getElem?_eq_some_iff.1 hj).1
   have hk:∀ k,k<4->(l.flatMap mM++cs).toArray[0+j*4+k]?=(mM c)[k]?:=fun k hk=>by
    rw [Nat.zero_add,List.getElem?_toArray,List.getElem?_append_left (by rw [mQ]; omega),oI Af _ _ _ hk,hj]
    rfl
   exact ⟨hk 0 (by omega),hk 1 (by omega),hk 2 (by omega),hk 3 (by omega)⟩
  ·rcases hx with rfl | ⟨_,hx⟩ | ⟨p,hp,_⟩
   ·exact h2
   ·obtain rfl:b=x:=by simpa [In] using hx
    exact h1
   ·simp at hp
 replace kP:=Lib.hid kP
 generalize hn:l.length=n at*
 replace hn:=Lib.hid hn
 replace mQ:=Lib.hid mQ
 clear hA
 go_enter Tryz.func7,Tryz.ntmps7
 go_upto_region 2 with (at_make
                        refine wpList_make_full _ rfl (.tmp 8) (.tmp 8) 22 rfl W.heap.size 31 i0 _ 4 Tryz.underlying22 cq cy cL .i64 .i64 n n n rfl rfl rfl rfl (by rw [cz]; omega) (by simp only [maxLen]; omega) (Nat.le_refl _) ?_
                        intro w2 eT hg
                        have kR:=(Ig eT).1
                        have au:Below W.heap.size W w2:=((ab.refl (fun _=>False) W).grown hg (by simp)).toBelow (Nat.le_refl _) (by simp)
                        obtain ⟨zs,tH⟩:∃ zs,zs=(madeCells (Value.agg #[.int .i64 0,.string ⟨#[]⟩,.string ⟨#[]⟩,.int .i64 0]).cells (n*4)).toList:=⟨_,rfl⟩
                        have Ft:zs.length=n*4:=by rw [tH]; simp [madeCells]
                        rw [<-tH] at kR
                        replace Ft:=Lib.hid Ft
                        replace au:=Lib.hid au
                        replace kR:=Lib.hid kR
                        clear eT hg tH)
 obtain ⟨w3,cX⟩:∃ w3,w3=w2.alloc (.cells (dy i (some ⟨W.heap.size,0,none⟩) n n 0 (.pointer none) 0 0 dt 0) 77):=⟨_,rfl⟩
 have vI:=kR.out.alloc (.cells (dy i (some ⟨W.heap.size,0,none⟩) n n 0 (.pointer none) 0 0 dt 0) 77)
 have gi:=af.made w2 77 (dy i (some ⟨W.heap.size,0,none⟩) n n 0 (.pointer none) 0 0 dt 0)
 have aR:Below W.heap.size W w3:=by rw [cX]; exact au.out.trans ((below_1 _ _).mono au.out.size)
 rw [<-cX] at vI gi
 change Code.wp _ _ _ _ (w2.alloc (.cells (dy i (some ⟨W.heap.size,0,none⟩) n n 0 (.pointer none) 0 0 dt 0) 77))
 rw [<-cX]
 have hle:W.heap.size<=w2.heap.size:=au.out.size
 obtain ⟨f,hf⟩:∃ f,f=w2.heap.size:=⟨_,rfl⟩
 obtain ⟨b,hb⟩:∃ b,b=W.heap.size:=⟨_,rfl⟩
 rw [<-hf] at gi hle ⊢
 rw [<-hb] at gi vI ⊢
 have c1:=gi.cell 1
 simp [dy] at c1
 have lf:=gi.lt
 have aL:f≠b:=gi.differ vI (by decide)
 have Ec:=Lib.hid (uT.out w3 aR)
 have XG:Hid (Nat.min n n=n):=Lib.hid (Nat.min_self n)
 have tK:Hid ((l.flatMap mM).length<=zs.length):=Lib.hid (by rw [mQ.out,Ft.out]; exact Nat.le_refl _)
 replace vI:Hid (w3.heap[b]?=some (.cells zs.toArray 31 (0,0))):=Lib.hid vI
 have hG:Hid (∀ w',af w' b 31 (l.flatMap mM++zs.drop (l.flatMap mM).length).toArray->ab (·=b) w3 w'->D0 W i l (.returned (ptr f)) w'):=Lib.hid (fun w' q1 q2=>by
  refine kP.out w' b f _ (by omega) (by omega) (aR.trans (q2.toBelow (by have:=aR.size; omega) (fun x hx e=>?_))) q1 (gi.only q2 (fun e=>aL e))
  omega)
 replace hb:=Lib.hid hb
 replace hf:=Lib.hid hf
 clear cX gi aR kR au kP uT aL hle
 go_wp2_with (with_reducible refine GW.Of rfl (.tmp 15) (.tmp 16) 22 22 rfl 31 Tryz.underlying22 4 cA b n n A n cap n rfl rfl zs 31 vI.out (l.flatMap mM) XG.out mQ.out Ec.out tK.out lH.out ?_
              intro w4 XH aN)
 go_ret
 exact hG.out _ XH.out aN.out
end Go.Proofs.YtpanebgakndddaaGreat.Wo
namespace Go.Proofs.YtpanebgakndddaaGreat.Wo
open Go Go.RowKit Hp K Fl Rw Hm Ar Mm Me LK Qs Wk Pc Pn Mq Pu Zp Mx cJ Bs Zr Ca
section
variable {w:World} {M:Mo} {a:Wp} {s:Ws} {c:Ct} {t:List Ct} {C:Cl}
theorem Gf (i:Nat) (l:List Ct) (A:Option Addr) (cap:Nat) (W:World) (hl:l.length<=20) (hA:vT W A l):Calls Tryz.prog 7 #[.int .i64 i,.slice A l.length cap] W fun e w'=>∃ a,e=.returned (ptr (bA.f a))/\bA.At w' a ⟨i,0,0,l,none⟩/\(∀ x,bA.aQ a ⟨i,0,0,l,none⟩ x->W.heap.size<=x)/\Below W.heap.size W w':=VC i l A cap W (by omega) hA
theorem Gc (hM:ah w M) (h:bA.At w a s) (h0:s.run=none) (h1:s.left=c::t) (hk:c.key.size<=maxLen) (ok:∀ C,iV s.num c C->jC (lm M) C/\ij (lm M) C=true) (now:Int):
 Calls Tryz.prog 14 #[ptr (bA.f a),ptr M.m,.int .i64 now] w fun e w'=>∃ C,iV s.num c C/\e=.returned (lN s now (lm M) c C now)/\bA.bh w M a s (bJ (lm M) C).1 (iE s now (lm M) c C now t) w':=Vy hM h h0 h1 hk ok now
theorem Gd (hM:ah w M) (h:bA.At w a s) (h0:s.run=some (c,C)) (ok:jC (lm M) C) (rd:ij (lm M) C=true) (now:Int):
 Calls Tryz.prog 14 #[ptr (bA.f a),ptr M.m,.int .i64 now] w fun e w'=>e=.returned (lN s now (lm M) c C s.br)/\bA.bh w M a s (bJ (lm M) C).1 (iE s now (lm M) c C s.br s.left) w':=by
 cases hd:dI (lm M) C with
 | true=>exact Vw hM h h0 ok rd hd now
 | false=>exact Vv hM h h0 ok rd hd now
end
end Go.Proofs.YtpanebgakndddaaGreat.Wo
namespace Go.Proofs.YtpanebgakndddaaGreat.Wo
open Go Go.RowKit Hp K Fl Rw Hm Ar Mm Me LK Qs Wk Re fp Pc Pn Mq Pu Zp Mx cJ Bs Dl Zr gj gm iT kC Ca
set_option maxRecDepth 100000
def Kl (l:List Ct):Prop:=∀ n,n<l.length->((cat l n).key.size<=200/\(cat l n).val.size<=200)/\((cat l n).size<=64\/65536<(cat l n).size)
def WS (W0 w:World) (m f:Nat) (l:List Ct) (ls:Nat->List Pr) (Bw:Option Addr) (capW:Nat) (d st n:Nat) (last now:Int):Prop:=
 ∃ (M:Mo) (a:Wp) (s:Ws),M.m=m/\eh W0 w M none 0 []/\bA.At w a s/\bA.f a=f/\(∀ x,bA.aQ a s x->W0.heap.size<=x)/\Wv l ls d st n last now (lm M) s/\eE w Bw capW (answers l ls l.length)/\(∀ x,In Bw x->W0.heap.size<=x)
section
variable {W0 w w':World} {m f:Nat} {l:List Ct} {ls:Nat->List Pr} {Bw:Option Addr} {capW d st n:Nat} {last now:Int}
theorem WS.down (h:WS W0 w m f l ls Bw capW d st n last now) (hb:Below w.heap.size w w'):WS W0 w' m f l ls Bw capW d st n last now:=by
 obtain ⟨M,a,s,h1,h2,h3,h4,h5,h6,h7,h8⟩:=h
 exact ⟨M,a,s,h1,h2.down hb,sf h3 (ab.aA hb (fun _=>False)) (by simp),h4,h5,h6,h7.only (ab.aA hb (fun _=>False)) (by simp),h8⟩
theorem WS.below (h:WS W0 w m f l ls Bw capW d st n last now):Below W0.heap.size W0 w:=by
 obtain ⟨M,a,s,h1,h2,h3⟩:=h
 exact h2.below
theorem WS.VH (h:WS W0 w m f l ls Bw capW d st n last now) (hl:l.length<=20) (hd:d<=4):0<=now/\now<=100000/\last<now/\n<=l.length:=by
 obtain ⟨M,a,s,h1,h2,h3,h4,h5,⟨e1,e2,e3,e4,e5,e6⟩,h7,h8⟩:=h
 have bR:st<=25000:=by
  cases hr:s.run with
  | none=>
    rw [hr] at e6
    have:=Kk (l:=l) (n:=n) (by omega)
    have:=e6.2.1
    omega
  | some p=>
    rw [hr] at e6
    obtain ⟨q1,_,_,_,_,L0,nb,G,R,k,_,_,_,q2⟩:=e6
    have:=Kk (l:=l) (n:=n+1) (by omega)
    omega
 have:d*st<=4*25000:=Nat.mul_le_mul hd bR
 exact ⟨by omega,by omega,e5,e3⟩
theorem WS.left (h:WS W0 w m f l ls Bw capW d st n last now):Calls Tryz.prog 11 #[ptr f] w fun e w'=>e=.returned (.bool (decide (n<l.length)))/\Below w.heap.size w w':=by
 obtain ⟨M,a,s,h1,h2,h3,rfl,h5,⟨e1,e2,e3,e4,e5,e6⟩,h7,h8⟩:=h
 refine (vR h3).mono fun e w' q=>⟨?_,q.2⟩
 rw [q.1]
 congr 2
 cases hr:s.run with
 | none=>
   rw [hr] at e6
   rw [e6.1]
   by_cases q:n<l.length
   ·rw [decide_eq_true q,decide_eq_true (.inr (fun q'=>by have:=congrArg List.length q'; simp at this; omega))]
   ·rw [decide_eq_false q,decide_eq_false (fun q'=>by
     rcases q' with q' | q'
     ·simp at q'
     ·exact q' (List.drop_eq_nil_of_le (by omega)))]
 | some p=>
   rw [hr] at e6
   rw [decide_eq_true (show (some p).isSome=true\/_ from .inl rfl),decide_eq_true e6.1]
theorem WS.ready (h:WS W0 w m f l ls Bw capW d st n last now):Calls Tryz.prog 12 #[ptr f,ptr m] w fun e w'=>e=.returned (.bool (decide (n<l.length)))/\Below w.heap.size w w':=by
 obtain ⟨M,a,s,rfl,h2,h3,rfl,h5,⟨e1,e2,e3,e4,e5,e6⟩,h7,h8⟩:=h
 refine (Gb h2.mem h3 (fun p hp=>?_)).mono fun e w' q=>⟨?_,q.2⟩
 ·rw [hp] at e6
  obtain ⟨_,_,_,_,_,L0,nb,G,R,k,_,q1,q2,_⟩:=e6
  exact (q2 k _ q1).1
 ·rw [q.1]
  cases hr:s.run with
  | none=>
    rw [hr] at e6
    simp only
    rw [e6.1]
    by_cases q:n<l.length
    ·have aL:l.drop n≠[]:=fun q'=>by have:=congrArg List.length q'; simp at this; omega
     rw [decide_eq_true q,decide_eq_true aL]
    ·rw [decide_eq_false q,List.drop_eq_nil_of_le (by omega)]; rfl
  | some p=>
    rw [hr] at e6
    obtain ⟨q0,_,_,_,_,L0,nb,G,R,k,_,q1,q2,_⟩:=e6
    rw [decide_eq_true q0]
    show Ending.returned (.bool (ij (lm M) p.2))=_
    rw [(q2 k _ q1).2.1]
theorem WS.bU (h:WS W0 w m f l ls Bw capW d st n last now):∃ x:Int,Calls Tryz.prog 13 #[ptr f] w fun e w'=>e=.returned (.int .u64 x)/\Below w.heap.size w w':=by
 obtain ⟨M,a,s,h1,h2,h3,rfl,h5,h6⟩:=h
 exact ⟨_,DV h3⟩
theorem WS.cK (h:WS W0 w m f l ls Bw capW d st n last now) (hn:¬n<l.length) (v:Value) (x:Int):Calls Tryz.prog 14 #[ptr f,v,.int .i64 x] w fun e w'=>e=.returned (.tuple #[.agg #[.int .i64 0,.int .i64 0,.int .i64 0,.string ⟨#[]⟩,.string ⟨#[]⟩,.int .i64 0,.int .i64 0,.int .i64 0,.int .i64 0,.bool false,.string ⟨#[]⟩],.bool false])/\Below w.heap.size w w':=by
 obtain ⟨M,a,s,h1,h2,h3,rfl,h5,⟨e1,e2,e3,e4,e5,e6⟩,h7,h8⟩:=h
 cases hr:s.run with
 | none=>
   rw [hr] at e6
   exact Vs h3 hr (by rw [e6.1]; exact List.drop_eq_nil_of_le (by omega)) v x
 | some p=>
   rw [hr] at e6
   exact absurd e6.1 hn
theorem WS.want (h:WS W0 w m f l ls Bw capW d st n last now) {i:Nat} (hi:i<l.length):∃ b:Nat,Bw=some ⟨b,0,none⟩/\b<w.heap.size/\w.cell? ⟨b,i*3,none⟩=some (.int .i64 (dg (ls i) (cat l i)).1)/\w.cell? ⟨b,i*3+1,none⟩=some (.bool (dg (ls i) (cat l i)).2.1)/\w.cell? ⟨b,i*3+2,none⟩=some (.string (dg (ls i) (cat l i)).2.2):=by
 obtain ⟨M,a,s,h1,h2,h3,h4,h5,h6,h7,h8⟩:=h
 have hlen:=FO l ls l.length
 obtain ⟨b,e,hb,hc⟩:=h7.cells LY i (by rw [hlen]; exact hi)
 have hx:(answers l ls l.length)[i]'(by rw [hlen]; exact hi)=dg (ls i) (cat l i):=by simp [answers]
 refine ⟨b,e,hb,?_,?_,?_⟩
 ·have:=(hc 0 (by omega)).1
  rw [hx] at this
  simpa [rW] using this
 ·have:=(hc 1 (by omega)).1
  rw [hx] at this
  simpa [rW] using this
 ·have:=(hc 2 (by omega)).1
  rw [hx] at this
  simpa [rW] using this
def VI (W0 w':World) (m f:Nat) (l:List Ct) (ls:Nat->List Pr) (Bw:Option Addr) (capW d st n:Nat) (last now:Int) (e:Ending):Prop:=
 (∃ br:Int,last<br/\br<=now/\n<l.length/\e=.returned (.tuple #[mz 1 n (cat l n) br now (dg (ls n) (cat l n)),.bool true])/\WS W0 w' m f l ls Bw capW d (st+1) (n+1) now (now+d)/\∀ wx,Below w'.heap.size w' wx->Calls Tryz.prog 13 #[ptr f] wx fun e wy=>e=.returned (.int .u64 0)/\Below wx.heap.size wx wy)\/
 (e=.returned (.tuple #[sg,.bool false])/\WS W0 w' m f l ls Bw capW d (st+1) n last (now+d))
theorem WS.oL {M:Mo} {a:Wp} {s s':Ws} {L':Lm} (hM:ah w M) (h2:eh W0 w M none 0 []) (h3:bA.At w a s) (h5:∀ x,bA.aQ a s x->W0.heap.size<=x) (h7:eE w Bw capW (answers l ls l.length)) (h8:∀ x,In Bw x->W0.heap.size<=x) (hs:bA.bh w M a s L' s' w') {st n:Nat} {last now:Int} (hW:Wv l ls d st n last now L' s'):
 WS W0 w' M.m (bA.f a) l ls Bw capW d st n last now/\∃ a',bA.At w' a' s'/\bA.f a'=bA.f a:=by
 obtain ⟨M',a',r1,r2,r3,r4,r5,r6,r7⟩:=hs
 have lZ:=h2.iW (M':=M') (w':=w') r1 r3.aQ r7 (fun x q=>?_) (fun x hx q=>by simp [In] at hx)
 ·refine ⟨⟨M',a',s',r3.m,lZ,r4,r5,fun x hx=>?_,r2.symm▸hW,h7.only r7 (fun x hx q=>?_),h8⟩,a',r4,r5⟩
  ·rcases r6 x hx with q | q
   ·exact h5 x q
   ·have:=h2.below.size; omega
  ·rcases q with q | q
   ·exact (hM.ty q).apart (cw h7 hx) (by decide)
   ·exact Vm h3 q ((cw h7 hx).mono (by decide))
 ·rcases q with q | q
  ·exact h2.pF x q
  ·exact h5 x q
theorem WS.step (h:WS W0 w m f l ls Bw capW d st n last now) (hn:n<l.length) (hM:Maps l ls l.length) (hl:l.length<=20) (hd:1<=d) (hS:Kl l):
 Calls Tryz.prog 14 #[ptr f,ptr m,.int .i64 now] w fun e w'=>VI W0 w' m f l ls Bw capW d st n last now e:=by
 obtain ⟨M,a,s,rfl,h2,h3,rfl,h5,⟨e1,e2,e3,e4,e5,e6⟩,h7,h8⟩:=h
 obtain ⟨⟨k1,k2⟩,k3⟩:=hS n hn
 obtain ⟨num,idx,br,left,run⟩:=s
 simp only at e1 e2
 subst e1; subst e2
 cases run with
 | none=>
   obtain ⟨f1,f2,nb,G,f3⟩:=e6
   have f1:left=l.drop idx:=f1
   have pV:left=cat l idx::l.drop (idx+1):=by
    rw [f1,List.drop_eq_getElem_cons hn]
    simp [cat,List.getD,hn]
   have hB:=fun C (hC:iV 1 (cat l idx) C)=>f3.VG hM hn hl k3 hC
   refine (Gc h2.mem h3 rfl pV (by unfold maxLen; omega) (fun C hC=>by
    obtain ⟨R,k,r1,r2,r3⟩:=hB C hC
    exact ⟨(r3 k _ r2).1,(r3 k _ r2).2.1⟩) now).mono fun e w' q=>?_
   obtain ⟨C,hC,q1,q2⟩:=q
   obtain ⟨R,k,r1,r2,r3⟩:=hB C hC
   have hg:=Wv.oZ (s:=⟨1,idx,br,left,none⟩) hd hM hl k3 rfl rfl hn e4 e5 (Int.le_refl now) rfl f3 r2 r3 (st:=st) (by omega)
   cases hc:dI (lm M) C with
   | true=>
     obtain ⟨g1,g2,g3,g4⟩:=hg.1 hc
     obtain ⟨p1,a',p2,p3⟩:=WS.oL h2.mem h2 h3 h5 h7 h8 q2 g4
     refine .inl ⟨now,e5,Int.le_refl _,hn,?_,p1,fun wx hx=>?_⟩
     ·rw [q1]
      unfold lN
      rw [hc,if_pos rfl,g1]
      rfl
     ·have:=DV (sf p2 (ab.aA hx (fun _=>False)) (by simp))
      rw [p3] at this
      unfold iE at this
      rw [if_pos hc] at this
      exact this
   | false=>
     obtain ⟨p1,_⟩:=WS.oL h2.mem h2 h3 h5 h7 h8 q2 (hg.2 hc)
     refine .inr ⟨?_,p1⟩
     rw [q1]
     unfold lN
     rw [hc]
     rfl
 | some p=>
   obtain ⟨c,C⟩:=p
   obtain ⟨f1,f2,f3,f4,f5,L0,nb,G,R,k,f6,f7,f8,f9⟩:=e6
   have f2:c=cat l idx:=f2
   subst f2
   have f8:mE R (nU L0 (ls idx) nb G idx (cat l idx)):=f8
   obtain ⟨r1,r2,_⟩:=f8 k _ f7
   have f5:br<now:=f5
   refine (Gd h2.mem h3 rfl r1 r2 now).mono fun e w' q=>?_
   obtain ⟨q1,q2⟩:=q
   have hg:=Wv.oZ (s:=⟨1,idx,br,left,some (cat l idx,C)⟩) hd hM hl k3 rfl rfl hn e4 f4 (show br<=now by omega) f3 f6 f7 f8 f9
   cases hc:dI (lm M) C with
   | true=>
     obtain ⟨g1,g2,g3,g4⟩:=hg.1 hc
     obtain ⟨p1,a',p2,p3⟩:=WS.oL h2.mem h2 h3 h5 h7 h8 q2 g4
     refine .inl ⟨br,f4,by omega,hn,?_,p1,fun wx hx=>?_⟩
     ·rw [q1]
      unfold lN
      rw [hc,if_pos rfl,g1]
      rfl
     ·have:=DV (sf p2 (ab.aA hx (fun _=>False)) (by simp))
      rw [p3] at this
      unfold iE at this
      rw [if_pos hc] at this
      exact this
   | false=>
     obtain ⟨p1,_⟩:=WS.oL h2.mem h2 h3 h5 h7 h8 q2 (hg.2 hc)
     refine .inr ⟨?_,p1⟩
     rw [q1]
     unfold lN
     rw [hc]
     rfl
end
end Go.Proofs.YtpanebgakndddaaGreat.Wo
namespace Go.Proofs.YtpanebgakndddaaGreat.Wo
open Go Go.RowKit Hp K Fl Rw Hm Ar Mm Me Wk Pc Mq LK gj gm iT Ca
set_option maxRecDepth 100000
def m9 (W wr:World) (l:List Ct) (lv ov:Value) (k:Nat):Prop:=
 ∃ (A1:Option Addr) (cap1:Nat) (B:Option Addr) (capB:Nat) (ls:Nat->List Pr),lv=.slice A1 (ls k).length cap1/\ov=.slice B k capB/\Maps l ls k/\lL wr A1 cap1 (ls k)/\vM (ls k)/\(∀ x,In A1 x->W.heap.size<=x)/\eE wr B capB (answers l ls k)/\(∀ x,In B x->W.heap.size<=x)/\Below W.heap.size W wr/\(ls k).length<=k
def Bu (W:World) (l:List Ct) (e:Ending) (w':World):Prop:=
 ∃ (B:Option Addr) (capB:Nat) (ls:Nat->List Pr),e=.returned (.slice B l.length capB)/\Maps l ls l.length/\eE w' B capB (answers l ls l.length)/\(∀ x,In B x->W.heap.size<=x)/\Below W.heap.size W w'
set_option maxHeartbeats 2000000 in
theorem Mb (W:World) (l:List Ct) (A:Option Addr) (cap:Nat) (hl:l.length<=100) (hC:Bt W A cap l) (hs:FN l):Calls Tryz.prog 10 #[.slice none 0 0,.slice A l.length cap] W (Bu W l):=by
 have hI:=Lib.hid (show m9 W W l (.slice none 0 0) (.slice none 0 0) 0 from ⟨none,0,none,0,fun _=>[],rfl,rfl,⟨rfl,fun i hi=>by omega⟩,Row.nil _ _ _ _,fun p hp=>by simp at hp,by simp [In],Row.nil _ _ _ _,by simp [In],Below.refl _ _,by simp⟩)
 obtain ⟨i0,cq,cy,cL,cz⟩:=info_parts L3
 replace hC:=Lib.hid hC
 replace hs:=Lib.hid hs
 generalize bu:l.length=len at*
 replace bu:=Lib.hid bu
 go_enter Tryz.func10,Tryz.ntmps10
 go_wp2_with fail
 go_loopw [0,5,6] (fun lv ov i wr=>∃ k:Nat,k<=len/\i=.int .i64 k/\m9 W wr l lv ov k) (fun _ _ i _=>len-(intOf i).toNat)
 case atStart=>exact ⟨0,Nat.zero_le _,rfl,hI.out⟩
 case round=>
  obtain ⟨k,hk,rfl,A1,cap1,B,capB,ls,rfl,rfl,hM,hP,uM,cQ,hR,aD,hb,b9⟩:=hrel
  clear hI
  rename_i wr
  by_cases aV:k<len
  case neg=>
   obtain rfl:k=len:=by omega
   have hE:Hid (Bu W l (.returned (.slice B k capB)) wr):=Lib.hid ⟨B,capB,ls,by rw [bu.out],by rw [bu.out]; exact hM,by rw [bu.out]; exact hR,aD,hb⟩
   generalize (ls k).length=n1 at*
   clear hM hP uM cQ hR aD hb hC hs
   go_wp2_with fail
   go_ret
   exact hE.out
  obtain ⟨bb,e,fI,bo⟩:=(hC.out.only (ab.aA hb (fun _=>False)) (by simp)).cells LZ k (by rw [bu.out]; exact aV)
  have uN:l[k]'(by rw [bu.out]; exact aV)=cat l k:=by have:=bu.out; simp [cat,List.getD,show k<l.length by omega]
  have c0:wr.cell? ⟨bb,k*4,none⟩=some (.int .i64 (cat l k).kind):=by have:=(bo 0 (by omega)).1; rw [uN] at this; simpa [pE] using this
  have c1:wr.cell? ⟨bb,k*4+1,none⟩=some (.string (cat l k).key):=by have:=(bo 1 (by omega)).1; rw [uN] at this; simpa [pE] using this
  have c2:wr.cell? ⟨bb,k*4+2,none⟩=some (.string (cat l k).val):=by have:=(bo 2 (by omega)).1; rw [uN] at this; simpa [pE] using this
  have c3:wr.cell? ⟨bb,k*4+3,none⟩=some (.int .i64 (cat l k).size):=by have:=(bo 3 (by omega)).1; rw [uN] at this; simpa [pE] using this
  have Kr:=hs.out (cat l k) (by rw [<-uN]; exact List.getElem_mem _)
  subst e
  obtain ⟨⟨k1,k2⟩,k3⟩:=Kr
  have uO:=Mc wr A1 cap1 (ls k) hP uM (by omega) (cat l k) k3
  obtain ⟨⟨ye,yh,yv⟩,hy⟩:∃ y,y=dg (ls k) (cat l k):=⟨_,rfl⟩
  generalize fJ:cat l k=c at*
  obtain ⟨n1,fz⟩:∃ n,n=(ls k).length:=⟨_,rfl⟩
  replace uO:Calls Tryz.prog 28 #[.slice A1 n1 cap1,iU c] wr (fun e w'=>∃ (A':Option Addr) (cap':Nat) (l':List Pr),e=.returned (.tuple #[.slice A' l'.length cap',.agg #[.int .i64 ye,.bool yh,.string yv]])/\dz (ls k) l' c/\lL w' A' cap' l'/\(∀ x,In A' x->In A1 x\/wr.heap.size<=x)/\Below wr.heap.size wr w'):=by
   rw [fz]
   exact uO.mono (fun e w' q=>by
    unfold Bv at q
    rw [<-hy] at q
    exact q)
  rw [<-fz]
  replace uO:=Lib.hid uO
  replace hM:=Lib.hid hM
  replace hR:=Lib.hid hR
  replace aD:=Lib.hid aD
  replace cQ:=Lib.hid cQ
  replace uM:=Lib.hid uM
  replace hb:=Lib.hid hb
  replace hy:=Lib.hid hy
  replace fJ:=Lib.hid fJ
  replace fz:=Lib.hid fz
  clear hP bo uN
  go_wp2_with fail
  refine uO.out.mono ?_
  rintro e w2 ⟨A2,cap2,l2,rfl,hD,qb,xz,au⟩
  obtain ⟨w3,cX⟩:∃ w3,w3=w2.alloc (.cells #[.int .i64 ye,.bool yh,.string yv] 50):=⟨_,rfl⟩
  have gU:af w3 w2.heap.size 50 #[.int .i64 ye,.bool yh,.string yv]:=by rw [cX]; exact af.made w2 _ _
  have aR:Below w2.heap.size w2 w3:=by rw [cX]; exact below_1 _ _
  obtain ⟨q,hq⟩:∃ q,q=w2.heap.size:=⟨_,rfl⟩
  rw [<-hq] at gU
  have y0:=gU.cell 0
  have y1:=gU.cell 1
  have y2:=gU.cell 2
  simp at y0 y1 y2
  have ql:=gU.lt
  have sS:=au.trans (aR.mono au.size)
  have gG:=hR.out.only (ab.aA sS (fun _=>False)) (by simp)
  have uP:=qb.only (ab.aA aR (fun _=>False)) (by simp)
  obtain ⟨ls',m1,m2,m3,m4⟩:=Ma (m:=l2) hM.out (by rw [fJ.out]; exact hD)
  have cA:=hb.out.size
  have Ag:=hb.out.trans (sS.mono hb.out.size)
  have cf:Hid (dg (ls' k) (cat l k)=(ye,yh,yv)):=Lib.hid (by rw [m3,fJ.out]; exact hy.out.symm)
  have VM:=Md uM.out hD ⟨k1,k2⟩
  have D3:=FP hD
  have VN:l2.length<=k+1:=by have:=fz.out; split at D3<;>omega
  replace gG:=Lib.hid (m4▸gG)
  replace uP:=Lib.hid uP
  replace Ag:=Lib.hid Ag
  have VO:=Lib.hid (fun x hx=>(xz x hx).elim (fun q=>cQ.out x q) (fun q=>Nat.le_trans cA q))
  have VP:Hid ((answers l ls' k).length=k):=Lib.hid (FO _ _ _)
  replace m1:=Lib.hid m1
  replace m2:=Lib.hid m2
  have Ks:Hid (W.heap.size<=w3.heap.size):=Lib.hid Ag.out.size
  clear uO hD qb xz au aR sS gU hR hM uM cQ m3 m4 hy fJ c0 c1 c2 c3 cA
  generalize gV:l2.length=n2 at*
  replace gV:=Lib.hid gV
  go_upto_region 6 with (fail)
  rw [<-cX,<-hq]
  clear cX hq
  go_wp2_with
   (at_builtin
    refine kx w3 rfl (.tmp 25) (.tmp 27) 36 rfl 50 i0 (.agg #[.int .i64 0,.bool false,.string ⟨#[]⟩]) 3 32 Tryz.underlying36 cq cy cL cz rfl (by omega) rW (fun _=>rfl) (by intro x u hu; simp [rW] at hu; rcases hu with rfl | rfl | rfl<;>rfl)
     B capB k (answers l ls' k) VP.out (ye,yh,yv) #[.int .i64 ye,.bool yh,.string yv] rfl rfl gG.out rfl (by simp only [maxLen]; omega) (by omega) ?_
    intro A4 cap4 w4 ka aN iz
    have HP:=Lib.hid (show m9 W w4 l (.slice A2 n2 cap2) (.slice A4 (k+1) cap4) (k+1) from ⟨A2,cap2,A4,cap4,ls',by rw [m2.out,gV.out],rfl,m1.out,by rw [m2.out]; exact uP.out.only aN (fun b jm hx=>uP.out.apart gG.out (by decide) jm hx),by rw [m2.out]; exact VM,VO.out,by
     rw [L9,cf.out]; exact ka,fun x hx=>(iz x hx).elim (fun q=>aD.out x q) (fun q=>by have:=Ks.out; omega),Ag.out.trans (aN.toBelow Ks.out (fun x hx q=>by have:=aD.out x q; omega)),by rw [m2.out,gV.out]; exact VN⟩)
    clear ka aN iz)
  go_roundw
  case rel=>exact ⟨k+1,by omega,by go_num,HP.out⟩
  case measure=>simp [intOf]; omega
end Go.Proofs.YtpanebgakndddaaGreat.Wo
namespace Go.Proofs.YtpanebgakndddaaGreat.Wo
open Go Go.RowKit Hp K Fl Rw Hm Ar Mm Me LK Qs Wk Re fp Pc Pn Mq Pu Zp Mx cJ Bs Dl Zr gj gm iT kC Ca
set_option maxRecDepth 100000
abbrev c1:Ct:=⟨0,aK,⟨#[]⟩,0⟩
def C1:Cl:=⟨.get (Gt.nc 0 aK),0,false⟩
def it:Nat->Lm×Cl
 | 0=>(iT.L0,C1)
 | n+1=>bJ (it n).1 (it n).2
theorem vQ:dI (it 0).1 (it 0).2=false/\dI (it 1).1 (it 1).2=false/\dI (it 2).1 (it 2).2=false/\dI (it 3).1 (it 3).2=false/\dI (it 4).1 (it 4).2=true:=
 ⟨by kernel_rfl,by kernel_rfl,by kernel_rfl,by kernel_rfl,by kernel_rfl⟩
theorem BF {n:Nat} (h:n<4):dI (it n).1 (it n).2=false:=by
 have:n=0\/n=1\/n=2\/n=3:=by omega
 rcases this with rfl | rfl | rfl | rfl
 ·exact vQ.1
 ·exact vQ.2.1
 ·exact vQ.2.2.1
 ·exact vQ.2.2.2.1
theorem F7 {C:Cl} (h:iV 0 c1 C):C=C1:=by
 obtain ⟨h1,h2,h3,h4⟩:=h
 have hc:cU c1=0:=by kernel_rfl
 have hf:=(h4 hc).1 rfl
 cases C
 simp only at h1 h2 hf
 rw [h1,h2,hf,hc]
 rfl
theorem F8 {W0 w:World} {M:Mo} (h:oK W0 1 1 M w):lm M=iT.L0:=by
 obtain ⟨_,_,_,h1,h2,h3,h4,h5,h6,h7⟩:=h
 show (⟨M.xs,M.hs,M.ss,M.F,M.k,M.ds,M.ws⟩:Lm)=_
 rw [h1,h2,h3,h4,h5,h6,h7]
 rfl
theorem BG {W0 w:World} {M:Mo} (h:oK W0 1 1 M w):∀ n,n<=4->jC (it n).1 (it n).2/\ij (it n).1 (it n).2=true:=by
 have hm:=tQ h (by omega) (by omega)
 have eW:=yS h (by omega)
 have oe:iV 0 c1 C1:=by
  have hc:cU c1=0:=by kernel_rfl
  exact ⟨rfl,hc.symm,fun q=>absurd hc q,fun _=>⟨fun _=>rfl,fun q=>by simp at q,fun q=>by simp at q,fun q=>by simp at q⟩⟩
 rw [F8 h] at hm eW
 obtain ⟨R,k,_,r2,r3⟩:=F9 hm (by omega) (by simp) eW (by omega) (by omega) (c:=c1) (.inl (by decide)) (i:=0) (by decide) oe (by decide)
 have hR:∀ n,n<=4->∃ k,R k (it n):=by
  intro n
  induction n with
  | zero=>intro _; exact ⟨k,r2⟩
  | succ n ih=>
    intro hn
    obtain ⟨k,hk⟩:=ih (by omega)
    obtain ⟨_,_,_,_,q5⟩:=r3 k _ hk
    exact ⟨k-1,q5 (BF (by omega))⟩
 intro n hn
 obtain ⟨k,hk⟩:=hR n hn
 obtain ⟨q1,q2,_⟩:=r3 k _ hk
 exact ⟨q1,q2⟩
def my (n:Nat):Ws:=if n=0 then ⟨0,0,0,[c1],none⟩ else if n<=4 then ⟨0,0,0,[],some (c1,(it n).2)⟩ else ⟨0,1,0,[],none⟩
def AS (W0 w:World) (m f n:Nat):Prop:=∃ (M:Mo) (a:Wp),M.m=m/\eh W0 w M none 0 []/\bA.At w a (my n)/\bA.f a=f/\(∀ x,bA.aQ a (my n) x->W0.heap.size<=x)/\(n<=4->lm M=(it n).1)
section
variable {W0 w w':World} {m f n:Nat}
theorem AS.down (h:AS W0 w m f n) (hb:Below w.heap.size w w'):AS W0 w' m f n:=by
 obtain ⟨M,a,h1,h2,h3,h4,h5,h6⟩:=h
 exact ⟨M,a,h1,h2.down hb,sf h3 (ab.aA hb (fun _=>False)) (by simp),h4,h5,h6⟩
theorem AS.below (h:AS W0 w m f n):Below W0.heap.size W0 w:=by
 obtain ⟨M,a,h1,h2,h3⟩:=h
 exact h2.below
theorem AS.left (h:AS W0 w m f n) (hn:n<=5):Calls Tryz.prog 11 #[ptr f] w fun e w'=>e=.returned (.bool (decide (n<=4)))/\Below w.heap.size w w':=by
 obtain ⟨M,a,h1,h2,h3,rfl,h5⟩:=h
 refine (vR h3).mono fun e w' q=>⟨?_,q.2⟩
 rw [q.1]
 congr 2
 unfold my
 by_cases q0:n=0
 ·subst q0; simp
 ·by_cases q4:n<=4
  ·simp [q0,q4]
  ·simp [q0,q4]
theorem AS.ready (h:AS W0 w m f 5):Calls Tryz.prog 12 #[ptr f,ptr m] w fun e w'=>e=.returned (.bool false)/\Below w.heap.size w w':=by
 obtain ⟨M,a,rfl,h2,h3,rfl,h5⟩:=h
 refine (Gb h2.mem h3 (fun p hp=>by simp [my] at hp)).mono fun e w' q=>⟨?_,q.2⟩
 rw [q.1]
 simp [my]
theorem AS.oL {M:Mo} {a:Wp} {s:Ws} {L':Lm} (h2:eh W0 w M none 0 []) (h5:∀ x,bA.aQ a s x->W0.heap.size<=x) (hs:bA.bh w M a s L' (my n) w') (hL:n<=4->L'=(it n).1):AS W0 w' M.m (bA.f a) n:=by
 obtain ⟨M',a',r1,r2,r3,r4,r5,r6,r7⟩:=hs
 have lZ:=h2.iW (M':=M') (w':=w') r1 r3.aQ r7 (fun x q=>?_) (fun x hx q=>by simp [In] at hx)
 ·refine ⟨M',a',r3.m,lZ,r4,r5,fun x hx=>?_,fun q=>r2.trans (hL q)⟩
  rcases r6 x hx with q | q
  ·exact h5 x q
  ·have:=h2.below.size; omega
 ·rcases q with q | q
  ·exact h2.pF x q
  ·exact h5 x q
theorem AS.step (h:AS W0 w m f n) (eL:∀ n,n<=4->jC (it n).1 (it n).2/\ij (it n).1 (it n).2=true) (hn:n<=4):Calls Tryz.prog 14 #[ptr f,ptr m,.int .i64 n] w fun e w'=>
 AS W0 w' m f (n+1)/\(n<4->e=.returned (.tuple #[sg,.bool false]))/\(n=4->e=.returned (.tuple #[mz 0 0 c1 0 4 (da (it 5).2),.bool true])):=by
 obtain ⟨M,a,rfl,h2,h3,rfl,h5,h6⟩:=h
 have hL:=h6 hn
 obtain ⟨o1,o2⟩:=eL n hn
 by_cases h0:n=0
 ·subst h0
  have hL:lm M=iT.L0:=hL
  refine (Gc h2.mem h3 rfl (c:=c1) (t:=[]) rfl (by unfold maxLen; decide) (fun C hC=>by rw [F7 hC,hL]; exact ⟨o1,o2⟩) (((0:Nat):Int))).mono fun e w' q=>?_
  obtain ⟨C,hC,q1,q2⟩:=q
  have nE:=F7 hC
  subst nE
  rw [hL] at q1 q2
  have hd:dI iT.L0 C1=false:=BF (n:=0) (by omega)
  have e1:iE (my 0) ((0:Nat):Int) iT.L0 c1 C1 ((0:Nat):Int) []=my 1:=by
   unfold iE
   rw [hd]
   rfl
  rw [e1] at q2
  refine ⟨AS.oL h2 h5 q2 (fun _=>rfl),fun _=>?_,fun q=>by omega⟩
  rw [q1]
  unfold lN
  rw [hd]
  rfl
 ·have hs:my n=⟨0,0,0,[],some (c1,(it n).2)⟩:=by unfold my; rw [if_neg h0,if_pos hn]
  rw [hs] at h3 h5
  rw [<-hL] at o1 o2
  refine (Gd h2.mem h3 rfl o1 o2 (n:Int)).mono fun e w' q=>?_
  obtain ⟨q1,q2⟩:=q
  rw [hL] at q1 q2
  by_cases h4:n<4
  ·have hd:=BF h4
   have e1:iE (⟨0,0,0,[],some (c1,(it n).2)⟩:Ws) (n:Int) (it n).1 c1 (it n).2 0 []=my (n+1):=by
    unfold iE my
    rw [hd,if_neg (by simp),if_neg (by omega),if_pos (by omega)]
    rfl
   have q2:bA.bh w M a (⟨0,0,0,[],some (c1,(it n).2)⟩:Ws) (bJ (it n).1 (it n).2).1 (iE (⟨0,0,0,[],some (c1,(it n).2)⟩:Ws) (n:Int) (it n).1 c1 (it n).2 0 []) w':=q2
   rw [e1] at q2
   refine ⟨AS.oL h2 h5 q2 (fun _=>rfl),fun _=>?_,fun q=>by omega⟩
   rw [q1]
   unfold lN
   rw [hd]
   rfl
  ·obtain rfl:n=4:=by omega
   have hd:=vQ.2.2.2.2
   have e1:iE (⟨0,0,0,[],some (c1,(it 4).2)⟩:Ws) ((4:Nat):Int) (it 4).1 c1 (it 4).2 0 []=my 5:=by
    unfold iE
    rw [hd]
    rfl
   have q2:bA.bh w M a (⟨0,0,0,[],some (c1,(it 4).2)⟩:Ws) (bJ (it 4).1 (it 4).2).1 (iE (⟨0,0,0,[],some (c1,(it 4).2)⟩:Ws) ((4:Nat):Int) (it 4).1 c1 (it 4).2 0 []) w':=q2
   rw [e1] at q2
   refine ⟨AS.oL h2 h5 q2 (fun q=>by omega),fun q=>by omega,fun _=>?_⟩
   rw [q1]
   unfold lN
   rw [hd]
   rfl
end
theorem MN {W0 w1 w2:World} {M:Mo} {a:Wp} (h:oK W0 1 1 M w1) (hb:Below w1.heap.size w1 w2) (hA:bA.At w2 a ⟨0,0,0,[c1],none⟩) (hl:∀ x,bA.aQ a ⟨0,0,0,[c1],none⟩ x->w1.heap.size<=x):AS W0 w2 M.m (bA.f a) 0:=
 ⟨M,a,rfl,(vO h).down hb,hA,rfl,fun x hx=>Nat.le_trans (vO h).below.size (hl x hx),fun _=>F8 h⟩
set_option maxHeartbeats 4000000 in
theorem MO (W0:World):Calls Tryz.prog 5 #[] W0 fun e w'=>e=.returned (.bool true)/\Below W0.heap.size W0 w':=by
 have hN:=Lib.hid (na 1 1 W0 (by omega) (by omega))
 have hA:=Lib.hid (fun w=>Ca.eA w)
 go_enter Tryz.func5,Tryz.ntmps5
 go_wp2_with fail
 refine hN.out.mono ?_
 rintro e w1 ⟨M,rfl,hM⟩
 have eL:=Lib.hid (BG hM)
 replace hM:=Lib.hid hM
 clear hN
 go_wp2_with fail
 obtain ⟨w2,aT⟩:∃ w2,w2=w1.alloc (.cells #[.int .i64 0,.string ⟨#[97]⟩,.string ⟨#[]⟩,.int .i64 0] 31):=⟨_,rfl⟩
 have b2:af w2 w1.heap.size 31 #[.int .i64 0,.string ⟨#[97]⟩,.string ⟨#[]⟩,.int .i64 0]:=by rw [aT]; exact af.made w1 _ _
 have d2:Below w1.heap.size w1 w2:=by rw [aT]; exact below_1 _ _
 obtain ⟨p,hp⟩:∃ p,p=w1.heap.size:=⟨_,rfl⟩
 rw [<-aT,<-hp]
 rw [<-hp] at b2
 have eM:=Gf 0 [c1] (some ⟨p,0,none⟩) 1 w2 (by simp) (fun i hi=>by
  obtain rfl:i=0:=by simpa using hi
  exact ⟨p,0,rfl,b2.lt,b2.cell 0,b2.cell 1,b2.cell 2,b2.cell 3,⟨by decide,by decide⟩,by decide⟩)
 have Kx:=eM.mono (fun e w' q=>show ∃ f,e=.returned (ptr f)/\AS W0 w' M.m f 0 from by
  obtain ⟨a,q1,q2,q3,q4⟩:=q
  exact ⟨_,q1,MN hM.out (d2.trans (q4.mono d2.size)) q2 (fun x hx=>Nat.le_trans d2.size (q3 x hx))⟩)
 clear eM b2 d2 hM hp aT
 refine Kx.mono ?_
 rintro e w3 ⟨f,rfl,eN⟩
 replace eN:=Lib.hid eN
 generalize M.m=m at*
 clear Kx
 go_wp2_with fail
 go_loopw [18] (fun jv wx=>∃ n:Nat,n<=4/\jv=.int .i64 n/\AS W0 wx m f n) (fun jv _=>4-(intOf jv).toNat)
 case atStart=>exact ⟨0,by omega,rfl,eN.out⟩
 case round=>
  obtain ⟨n,hn,rfl,hS⟩:=hrel
  clear eN
  by_cases aV:n<4
  case pos=>
   have cR:=Lib.hid ((hS.step eL.out hn).mono fun e w' q=>show e=.returned (.tuple #[sg,.bool false])/\AS W0 w' m f (n+1) from ⟨q.2.1 aV,q.1⟩)
   clear hS
   go_wp2_with fail
   refine cR.out.mono ?_
   rintro e w4 ⟨rfl,mO⟩
   obtain ⟨w5,rj⟩:∃ w5,w5=w4.alloc (.cells #[.int .i64 0,.int .i64 0,.int .i64 0,.string ⟨#[]⟩,.string ⟨#[]⟩,.int .i64 0,.int .i64 0,.int .i64 0,.int .i64 0,.bool false,.string ⟨#[]⟩] 46):=⟨_,rfl⟩
   have fY:AS W0 w5 m f (n+1):=mO.down (by rw [rj]; exact below_1 _ _)
   obtain ⟨eb,jL⟩:∃ eb,eb=w4.heap.size:=⟨_,rfl⟩
   have fA:=fY.left (by omega)
   rw [decide_eq_true (show n+1<=4 by omega)] at fA
   replace fA:=Lib.hid fA
   replace fY:=Lib.hid fY
   clear cR mO
   unfold sg mz
   go_upto_region 9 with (fail)
   rw [<-rj,<-jL]
   clear rj jL
   go_wp2_with fail
   refine fA.out.mono ?_
   rintro e w6 ⟨rfl,lC⟩
   have kM:=Lib.hid (fY.out.down lC)
   clear fA fY lC
   go_wp2_with fail
   go_roundw
   case rel=>exact ⟨n+1,by omega,by go_num,kM.out⟩
   case measure=>simp [intOf]; omega
  case neg=>
   obtain rfl:n=4:=by omega
   obtain ⟨⟨xe,xh,xv⟩,hx⟩:∃ x,x=da (it 5).2:=⟨_,rfl⟩
   have cR:=Lib.hid ((hS.step eL.out hn).mono fun e w' q=>show e=.returned (.tuple #[mz 0 0 c1 0 4 (xe,xh,xv),.bool true])/\AS W0 w' m f 5 from ⟨by rw [hx]; exact q.2.2 rfl,q.1⟩)
   clear hS hx
   go_wp2_with fail
   refine cR.out.mono ?_
   rintro e w4 ⟨rfl,mO⟩
   obtain ⟨w5,rj⟩:∃ w5,w5=w4.alloc (.cells #[.int .i64 0,.int .i64 0,.int .i64 0,.string ⟨#[97]⟩,.string ⟨#[]⟩,.int .i64 0,.int .i64 0,.int .i64 4,.int .i64 xe,.bool xh,.string xv] 46):=⟨_,rfl⟩
   have fY:AS W0 w5 m f 5:=mO.down (by rw [rj]; exact below_1 _ _)
   have xD:af w5 w4.heap.size 46 #[.int .i64 0,.int .i64 0,.int .i64 0,.string ⟨#[97]⟩,.string ⟨#[]⟩,.int .i64 0,.int .i64 0,.int .i64 4,.int .i64 xe,.bool xh,.string xv]:=by rw [rj]; exact af.made w4 _ _
   obtain ⟨eb,jL⟩:∃ eb,eb=w4.heap.size:=⟨_,rfl⟩
   rw [<-jL] at xD
   replace fY:=Lib.hid fY
   replace xD:=Lib.hid xD
   clear cR mO
   unfold mz
   simp only [c1,aK]
   go_upto_region 13 with (fail)
   rw [<-rj,<-jL]
   clear rj jL
   go_wp2_with fail
   refine (hA.out _).mono ?_
   rintro e w6 ⟨rfl,lC⟩
   have kM:=fY.out.down lC
   have sX:=xD.out.only (ab.aA lC (fun _=>False)) (by simp)
   have g6:=sX.cell 6
   have g7:=sX.cell 7
   simp at g6 g7
   have gl:=sX.lt
   have fA:=kM.left (by omega)
   rw [decide_eq_false (show ¬5<=4 by omega)] at fA
   replace fA:=Lib.hid fA
   replace kM:=Lib.hid kM
   clear sX xD fY lC hA
   go_wp2_with fail
   refine fA.out.mono ?_
   rintro e w7 ⟨rfl,lD⟩
   have qf:=kM.out.down lD
   have fB:=Lib.hid qf.ready
   have nF:=Lib.hid qf.below
   clear fA kM lD qf g6 g7 gl
   go_wp2_with fail
   refine fB.out.mono ?_
   rintro e w8 ⟨rfl,l7⟩
   have hE:=Lib.hid (nF.out.trans (l7.mono nF.out.size))
   clear fB l7 nF
   go_wp2_with fail
   go_ret
   exact ⟨rfl,hE.out⟩
end Go.Proofs.YtpanebgakndddaaGreat.Wo
