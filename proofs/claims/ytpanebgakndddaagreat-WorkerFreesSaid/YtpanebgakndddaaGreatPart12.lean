/- Walks and plain mathematics, put together in their order: ClU, ClV, ClX, ClZ, ClM, ClS, One, ThE, FoA, LocksHeld, FnC. -/
import Derived.Test.YtpanebgakndddaaGreatPart11
import Derived.Stop.Asserts
import Derived.Test.YtpanebgakndddaaGreatLocksWalk
import Derived.Test.YtpanebgakndddaaGreatRowKit
set_option linter.unusedVariables false
set_option linter.unusedSimpArgs false
namespace Go.Proofs.YtpanebgakndddaaGreat.Ca
open Go Go.RowKit Hp K Fl Rw Hm Ar Mm Me LK Qs Wk Pc Pn Mq Pu Zp Mx cL Bs Zr
set_option maxRecDepth 100000
structure Cp where
 f:Nat
 tv:Value
 ga:Gt.Ga
 qa:Pu.Qa
 ra:Zr.Ra
def ll (tv:Value) (d:Bool):Array Value:=#[tv,.bool d]
abbrev ja (e:Int):Value:=.agg #[.int .i64 e]
def ma (w:World) (a:Cp) (e:Int):Fr->Prop
 | .ref=>a.tv=.iface 176 (ja e)
 | .get G=>a.tv=.iface 177 (ptr a.ga.f)/\Gt.cY w a.ga G
 | .put P=>a.tv=.iface 179 (ptr a.qa.f)/\Pu.bF w a.qa P
 | .del D=>a.tv=.iface 164 (ptr a.qa.f)/\Dl.cB w a.qa D
 | .rz R=>a.tv=.iface 137 (ptr a.ra.f)/\Zr.fy w a.ra R
def oy (a:Cp) (F:Fr) (x:Nat):Prop:=match F with
 | .ref=>False
 | .get _=>Gt.bu a.ga x
 | .put P=>Pu.iG a.qa P x
 | .del D=>Dl.gD a.qa D x
 | .rz R=>Zr.fz a.ra R x
structure FF (w:World) (a:Cp) (C:Cl):Prop where
 an:af w a.f 118 (ll a.tv C.done)
 inn:ma w a C.err C.fr
 MG:C.fr≠.ref->C.err=0
def kv (a:Cp) (C:Cl) (x:Nat):Prop:=x=a.f\/oy a C.fr x
abbrev cA:iH Cp Cl:=⟨Cp.f,FF,kv⟩
abbrev vr:List TypeId:=[213,233,235,237,216,226,243,193,
 162,200,262,270,260,157,205]
section
variable {w w':World} {M:Mo} {a:Cp} {C:Cl} {F:Fr} {tv:Value} {e:Int} {d:Bool} {f:Nat}
theorem MH {a:Zr.Ra} {R:Rz} (h:fy w a R) {x:Nat} (hx:Zr.fz a R x):Ty w x vr\/(∃ ms,Gw.iI w x ms)\/∃ ms,Me.Met w x ms:=by
 rcases hx with rfl | ⟨G,q1,q2,q3⟩ | ⟨G,q1,q2,q3⟩
 ·exact .inl ((aV h.an).mono (by decide))
 ·rcases (h.cf G q1 q2).2.ty q3 with q | q
  ·exact .inl (q.mono (by decide))
  ·exact .inr (.inl q)
 ·rcases (h.shr G q1 q2).2.ty q3 with q | q
  ·exact .inl (q.mono (by decide))
  ·exact .inr (.inr q)
theorem MI (h:ma w a e F) {x:Nat} (hx:oy a F x):Ty w x vr\/(∃ ms,Gw.iI w x ms)\/∃ ms,Me.Met w x ms:=by
 cases F with
 | ref=>exact absurd hx (fun q=>q)
 | get G=>exact .inl ((h.2.ty hx).mono (by decide))
 | put P=>exact .inl ((h.2.ty hx).mono (by decide))
 | del D=>exact .inl ((h.2.ty hx).mono (by decide))
 | rz R=>exact MH h.2 hx
theorem yg (h:ma w a e F) {x:Nat} (hx:oy a F x) {ts:List TypeId} (ht:Ty w x ts) (hd:∀ t∈ts,t∉vr):False:=by
 rcases MI h hx with q | ⟨_,q⟩ | ⟨_,q⟩
 ·exact ht.apart q hd
 ·exact q.no ht
 ·exact q.no ht
theorem Bg {S:Nat->Prop} (h:ma w a e F) (ho:ab S w w') (hn:∀ x,oy a F x->¬S x):ma w' a e F:=by
 cases F with
 | ref=>exact h
 | get G=>exact ⟨h.1,h.2.only ho hn⟩
 | put P=>exact ⟨h.1,h.2.only ho hn⟩
 | del D=>exact ⟨h.1,h.2.only ho hn⟩
 | rz R=>exact ⟨h.1,vt h.2 ho hn⟩
theorem FG (hb:af w f 118 (ll tv d)) (h:ma w a e F) {x:Nat} (hx:oy a F x):x≠f:=by
 rintro rfl
 exact yg h hx (aV hb) (by decide)
theorem Bh {S:Nat->Prop} (h:cA.At w a C) (ho:ab S w w') (hn:∀ x,cA.aS a C x->¬S x):cA.At w' a C:=
 ⟨h.an.only ho (hn _ (.inl rfl)),Bg h.inn ho (fun x hx=>hn x (.inr hx)),h.MG⟩
theorem FH (h:cA.At w a C) (hb:Below w.heap.size w w'):cA.At w' a C:=Bh h (ab.aD hb (fun _=>False)) (by simp)
theorem Bi {x:Nat} (h:cA.At w a C) (hM:ah w M) (hx:cA.aS a C x):¬ao M x:=fun hm=>by
 rcases hx with rfl | hx
 ·exact (hM.ty hm).apart (aV h.an) (by decide)
 ·exact yg h.inn hx (hM.ty hm) (by decide)
theorem MB {x:Nat} (h:cA.At w a C) (hx:cA.aS a C x):¬Ty w x [153]:=fun q=>by
 rcases hx with rfl | hx
 ·exact q.apart (aV h.an) (by decide)
 ·exact yg h.inn hx q (by decide)
theorem qw (hb:af w f 118 (ll tv d)):w.cell? ⟨f,0,none⟩=some tv/\w.cell? ⟨f,1,none⟩=some (.bool d):=⟨hb.cell 0,hb.cell 1⟩
theorem vu {T:TypeId} {fr:Nat} {v m:Value} {c:Bool} (hb:af w f 118 (ll (.iface T v) d)) (mr:∀ (w:World) (f:Nat),(method (f+1) T v "Ready").run Tryz.prog w=.ok (fr,v) w)
 (er:∀ args w,(callFunc fr args).run Tryz.prog w=.ok (.enter fr args) w) (hF:Calls Tryz.prog fr #[v,m] w fun e w'=>e=.returned (.bool c)/\Below w.heap.size w w'):Calls Tryz.prog 29 #[ptr f,m] w fun e w'=>e=.returned (.bool c)/\Below w.heap.size w w':=by
 have c0:=(qw hb).1
 replace hF:=Lib.hid hF
 clear hb
 go_enter Tryz.func29,Tryz.ntmps29
 go_wp2_with fail
 refine hF.out.mono ?_
 rintro e w' ⟨rfl,hb⟩
 replace hb:=Lib.hid hb
 clear c0
 go_wp2_with fail
 go_ret
 exact ⟨rfl,hb.out⟩
theorem vv {T:TypeId} {fs:Nat} {v m:Value} {c:Bool} {P:World->Prop} (hb:af w f 118 (ll (.iface T v) d)) (ms:∀ (w:World) (f:Nat),(method (f+1) T v "Step").run Tryz.prog w=.ok (fs,v) w)
 (es:∀ args w,(callFunc fs args).run Tryz.prog w=.ok (.enter fs args) w) (hF:Calls Tryz.prog fs #[v,m] w fun e' w'=>e'=.returned (.bool c)/\af w' f 118 (ll (.iface T v) d)/\P w'):
 Calls Tryz.prog 32 #[ptr f,m] w fun e' w'=>e'=.returned (.bool c)/\∃ w1,P w1/\w'=w1.setCell ⟨f,1,none⟩ (.bool c)/\af w1 f 118 (ll (.iface T v) d):=by
 have c0:=(qw hb).1
 replace hF:=Lib.hid hF
 clear hb
 go_enter Tryz.func32,Tryz.ntmps32
 go_wp2_with fail
 refine hF.out.mono ?_
 rintro e w1 ⟨rfl,hb,hP⟩
 have c2:=(qw hb).2
 have z2:=hb.frozen 1
 have hE:Hid (∃ w0,P w0/\w1.setCell ⟨f,1,none⟩ (.bool c)=w0.setCell ⟨f,1,none⟩ (.bool c)/\af w0 f 118 (ll (.iface T v) _)):=Lib.hid ⟨w1,hP,rfl,hb⟩
 clear c0 hF hb hP
 go_wp2_with fail
 go_ret
 exact ⟨rfl,hE.out⟩
theorem MJ (e:Int) (w:World) (f:Nat):(method (f+1) 176 (ja e) "Ready").run Tryz.prog w=.ok (280,ja e) w:=by kernel_rfl
theorem MK (e:Int) (w:World) (f:Nat):(method (f+1) 176 (ja e) "Step").run Tryz.prog w=.ok (281,ja e) w:=by kernel_rfl
theorem ML (args:Array Value) (w:World):(callFunc 280 args).run Tryz.prog w=.ok (.enter 280 args) w:=by kernel_rfl
theorem MM (args:Array Value) (w:World):(callFunc 281 args).run Tryz.prog w=.ok (.enter 281 args) w:=by kernel_rfl
theorem MN (e:Int) (m:Value) (w:World):Calls Tryz.prog 280 #[ja e,m] w fun e w'=>e=.returned (.bool true)/\Below w.heap.size w w':=by
 have hB:=Lib.hid (below_1 w (.cells #[.int .i64 e] 176))
 go_enter Tryz.func280,Tryz.ntmps280
 go_wp2_with fail
 go_ret
 exact ⟨rfl,hB.out⟩
theorem MO (e:Int) (m:Value) (w:World):Calls Tryz.prog 281 #[ja e,m] w fun e w'=>e=.returned (.bool true)/\Below w.heap.size w w':=by
 have hB:=Lib.hid (below_1 w (.cells #[.int .i64 e] 176))
 go_enter Tryz.func281,Tryz.ntmps281
 go_wp2_with fail
 go_ret
 exact ⟨rfl,hB.out⟩
end
end Go.Proofs.YtpanebgakndddaaGreat.Ca
namespace Go.Proofs.YtpanebgakndddaaGreat.Ca
open Go Go.RowKit Hp K Fl Rw Hm Ar Mm Me LK Qs Wk Pc Pn Mq Pu Zp Mx cL Bs Zr
set_option maxRecDepth 100000
section
variable {w w':World} {M:Mo} {a:Cp} {C:Cl}
theorem FI (hM:ah w M) (h:cA.At w a C) (ok:jH (lm M) C):Calls Tryz.prog 29 #[ptr a.f,ptr M.m] w fun e w'=>e=.returned (.bool (iE (lm M) C))/\Below w.heap.size w w':=by
 obtain ⟨hb,hI,wL⟩:=h
 obtain ⟨F,er,d⟩:=C
 cases F with
 | ref=>
   rw [show a.tv=.iface 176 (ja er) from hI] at hb
   exact vu hb (MJ er) ML (MN er _ w)
 | get G=>
   rw [show a.tv=.iface 177 (ptr a.ga.f) from hI.1] at hb
   exact vu hb (Gt.tJ.mr _) Gt.tJ.er (Gt.tJ.ready hM hI.2 ok)
 | put P=>
   rw [show a.tv=.iface 179 (ptr a.qa.f) from hI.1] at hb
   exact vu hb (Pu.rQ.mr _) Pu.rQ.er (Pu.rQ.ready hM hI.2 ok)
 | del D=>
   rw [show a.tv=.iface 164 (ptr a.qa.f) from hI.1] at hb
   exact vu hb (Dl.rR.mr _) Dl.rR.er (Dl.rR.ready hM hI.2 ok)
 | rz R=>
   rw [show a.tv=.iface 137 (ptr a.ra.f) from hI.1] at hb
   exact vu hb (Zr.oz.mr _) Zr.oz.er (Zr.oz.ready hM hI.2 ok)
theorem yh {A P:Type} {X:iH A P} {b:A} {p p':P} {L':Lm} {F:Fr} {tv:Value} {f:Nat} {er:Int} {d c:Bool} {w1:World} (hs:X.bf w M b p L' p' w1)
 (wM:∀ b',X.f b'=X.f b->X.At w1 b' p'->∃ a':Cp,a'.f=f/\a'.tv=tv/\ma w1 a' er F/\∀ x,oy a' F x->X.aS b' p' x) (h1:af w1 f 118 (ll tv d)) (hp:∀ x,X.aS b p x->kv a C x) (ea:a.f=f) (U9:F≠.ref->er=0):
 cA.bf w M a C L' ⟨F,er,c⟩ (w1.setCell ⟨f,1,none⟩ (.bool c)):=by
 obtain ⟨M',b',r1,r2,r3,r4,r5,r6,r7⟩:=hs
 obtain ⟨a',s1,s2,s3,s4⟩:=wM b' r5 r4
 have hO:=(ab.refl (·=f) w1).setCell (p:=⟨f,1,none⟩) (.inl rfl) (.bool c)
 have oT:¬ao M' f:=fun hm=>(r1.ty hm).apart (aV h1) (by decide)
 refine ⟨M',a',r1.only hO (fun x hx q=>oT (q▸hx)),r2,r3,⟨?_,?_,U9⟩,s1.trans ea.symm,?_,?_⟩
 ·have:=h1.store 1 (.bool c)
  rw [<-s1] at this ⊢
  rw [s2]
  exact this
 ·exact Bg s3 hO (fun x hx q=>FG h1 s3 hx q)
 ·intro x hx
  rcases hx with q | q
  ·exact .inl (.inl (q.trans (s1.trans ea.symm)))
  ·exact (r6 x (s4 x q)).imp (hp x) id
 ·exact (r7.mono (fun x _ q=>q.imp id (hp x))).trans (hO.mono (fun x _ q=>.inr (.inl (q.trans ea.symm))))
theorem yi {A P:Type} {X:iH A P} {b:A} {p p':P} {L':Lm} {w1:World} (hM:ah w M) (h:FF w a C) (hs:X.bf w M b p L' p' w1) (hp:∀ x,X.aS b p x->oy a C.fr x):af w1 a.f 118 (ll a.tv C.done):=by
 obtain ⟨M',b',r1,r2,r3,r4,r5,r6,r7⟩:=hs
 refine h.an.only r7 (fun q=>?_)
 rcases q with q | q
 ·exact Bi h hM (.inl rfl) q
 ·exact FG h.an h.inn (hp _ q) rfl
theorem FJ (hM:ah w M) (h:cA.At w a C) (ok:jH (lm M) C) (hr:iE (lm M) C=true):Calls Tryz.prog 32 #[ptr a.f,ptr M.m] w fun e w'=>e=.returned (.bool (eA (lm M) C))/\cA.bf w M a C (bL (lm M) C).1 (bL (lm M) C).2 w':=by
 have h0:=h
 obtain ⟨hb,hI,wL⟩:=h
 obtain ⟨F,er,d⟩:=C
 cases F with
 | ref=>
   have ax:=hb
   rw [show a.tv=.iface 176 (ja er) from hI] at ax
   refine (vv (P:=fun w1=>Below w.heap.size w w1) ax (MK er) MM ((MO er _ w).mono fun e w1 q=>⟨q.1,ax.only (ab.aD q.2 (fun _=>False)) (by simp),q.2⟩)).mono fun e w' q=>⟨q.1,?_⟩
   obtain ⟨w1,q1,q2,q3⟩:=q.2
   rw [q2]
   have hO:=(ab.aD q1 (·=a.f)).setCell (p:=⟨a.f,1,none⟩) (.inl rfl) (.bool true)
   refine ⟨M,a,hM.only hO (fun x hx q=>Bi h0 hM (.inl rfl) (q▸hx)),rfl,gn.refl _ _,⟨?_,hI,fun q=>absurd rfl q⟩,rfl,fun x q=>.inl q,hO.mono (fun x _ q=>.inr (.inl q))⟩
   have:=q3.store 1 (.bool true)
   rw [show a.tv=.iface 176 (ja er) from hI]
   exact this
 | get G=>
   have ht:a.tv=.iface 177 (ptr a.ga.f):=hI.1
   have hs:=Gt.tJ.step hM hI.2 ok hr
   have cN:=hb
   rw [ht] at cN
   refine (vv cN (Gt.tJ.ms _) Gt.tJ.es (hs.mono fun e w1 q=>⟨q.1,by have:=yi hM h0 q.2 (fun x hx=>hx); rw [ht] at this; exact this,q.2⟩)).mono fun e w' q=>⟨q.1,?_⟩
   obtain ⟨w1,q1,q2,q3⟩:=q.2
   rw [q2]
   refine yh (tv:=a.tv) (er:=er) (d:=d) q1 (fun b' r1 r2=>⟨{a with ga:=b'},rfl,rfl,⟨by show a.tv=.iface _ (ptr b'.f); rw [ht,show b'.f=a.ga.f from r1],r2⟩,fun x hx=>hx⟩) (by rw [ht]; exact q3) (fun x hx=>.inr hx) rfl (fun _=>wL (by simp))
 | put P=>
   have ht:a.tv=.iface 179 (ptr a.qa.f):=hI.1
   have hs:=Pu.rQ.step hM hI.2 ok hr
   have cN:=hb
   rw [ht] at cN
   refine (vv cN (Pu.rQ.ms _) Pu.rQ.es (hs.mono fun e w1 q=>⟨q.1,by have:=yi hM h0 q.2 (fun x hx=>hx); rw [ht] at this; exact this,q.2⟩)).mono fun e w' q=>⟨q.1,?_⟩
   obtain ⟨w1,q1,q2,q3⟩:=q.2
   rw [q2]
   refine yh (tv:=a.tv) (er:=er) (d:=d) q1 (fun b' r1 r2=>⟨{a with qa:=b'},rfl,rfl,⟨by show a.tv=.iface _ (ptr b'.f); rw [ht,show b'.f=a.qa.f from r1],r2⟩,fun x hx=>hx⟩) (by rw [ht]; exact q3) (fun x hx=>.inr hx) rfl (fun _=>wL (by simp))
 | del D=>
   have ht:a.tv=.iface 164 (ptr a.qa.f):=hI.1
   have hs:=Dl.rR.step hM hI.2 ok hr
   have cN:=hb
   rw [ht] at cN
   refine (vv cN (Dl.rR.ms _) Dl.rR.es (hs.mono fun e w1 q=>⟨q.1,by have:=yi hM h0 q.2 (fun x hx=>hx); rw [ht] at this; exact this,q.2⟩)).mono fun e w' q=>⟨q.1,?_⟩
   obtain ⟨w1,q1,q2,q3⟩:=q.2
   rw [q2]
   refine yh (tv:=a.tv) (er:=er) (d:=d) q1 (fun b' r1 r2=>⟨{a with qa:=b'},rfl,rfl,⟨by show a.tv=.iface _ (ptr b'.f); rw [ht,show b'.f=a.qa.f from r1],r2⟩,fun x hx=>hx⟩) (by rw [ht]; exact q3) (fun x hx=>.inr hx) rfl (fun _=>wL (by simp))
 | rz R=>
   have ht:a.tv=.iface 137 (ptr a.ra.f):=hI.1
   have hs:=Zr.oz.step hM hI.2 ok hr
   have cN:=hb
   rw [ht] at cN
   refine (vv cN (Zr.oz.ms _) Zr.oz.es (hs.mono fun e w1 q=>⟨q.1,by have:=yi hM h0 q.2 (fun x hx=>hx); rw [ht] at this; exact this,q.2⟩)).mono fun e w' q=>⟨q.1,?_⟩
   obtain ⟨w1,q1,q2,q3⟩:=q.2
   rw [q2]
   refine yh (tv:=a.tv) (er:=er) (d:=d) q1 (fun b' r1 r2=>⟨{a with ra:=b'},rfl,rfl,⟨by show a.tv=.iface _ (ptr b'.f); rw [ht,show b'.f=a.ra.f from r1],r2⟩,fun x hx=>hx⟩) (by rw [ht]; exact q3) (fun x hx=>.inr hx) rfl (fun _=>wL (by simp))
end
theorem qz:oA cA 75 29 32 jH iE bL eA where
 below h hb:=FH h hb
 mr b w f:=by kernel_rfl
 ms b w f:=by kernel_rfl
 er args w:=by kernel_rfl
 es args w:=by kernel_rfl
 ready hM h ok:=FI hM h ok
 step hM h ok hr:=FJ hM h ok hr
end Go.Proofs.YtpanebgakndddaaGreat.Ca
namespace Go.Proofs.YtpanebgakndddaaGreat.Ca
open Go Go.RowKit Hp K Fl Rw Hm Ar Mm Me LK Qs Wk Pc Pn Mq Pu Zp Mx cL Bs Zr
set_option maxRecDepth 100000
theorem MP (k:Int) (w:World):Calls Tryz.prog 120 #[.int .i64 k] w fun e w'=>e=.returned (.bool (decide (0<=k/\k<=3)))/\w'=w:=by
 by_cases h1:0<=k
 ·by_cases h2:k<4
  ·rw [decide_eq_true ⟨h1,by omega⟩]
   go_enter Tryz.func120,Tryz.ntmps120
   go_wp2_with fail
   go_ret
   exact ⟨rfl,rfl⟩
  ·rw [decide_eq_false (fun q=>h2 (by omega))]
   go_enter Tryz.func120,Tryz.ntmps120
   go_wp2_with fail
   go_ret
   exact ⟨rfl,rfl⟩
 ·rw [decide_eq_false (fun q=>h1 q.1)]
  go_enter Tryz.func120,Tryz.ntmps120
  go_wp2_with fail
  go_ret
  exact ⟨rfl,rfl⟩
theorem MQ (key:ByteArray) (w:World):Calls Tryz.prog 121 #[.string key] w fun e w'=>e=.returned (.bool (decide (1<=key.size/\key.size<=32)))/\w'=w:=by
 by_cases h1:key=⟨#[]⟩
 ·subst h1
  rw [decide_eq_false (by decide)]
  go_enter Tryz.func121,Tryz.ntmps121
  go_wp2_with fail
  go_ret
  exact ⟨rfl,rfl⟩
 ·have bV:=FK h1
  have hb:key.toList.isEmpty=false:=by
   cases hq:key.toList with
   | nil=>rw [hq] at bV; simp [ByteArray.toList_eq] at bV
   | cons x r=>rfl
  clear bV
  have hs:1<=key.size:=by
   rcases Nat.eq_zero_or_pos key.size with q | q
   ·exact absurd (ByteArray.ext (Array.eq_empty_of_size_eq_zero q)) h1
   ·exact q
  generalize sS:key.size=ks at*
  have Va:(key.size:Int)=(ks:Int):=by rw [sS]
  clear h1
  by_cases h2:(ks:Int)<=32
  ·rw [decide_eq_true ⟨hs,by omega⟩]
   clear sS hs
   go_enter Tryz.func121,Tryz.ntmps121
   go_wp2_with fail
   go_ret
   exact ⟨rfl,rfl⟩
  ·rw [decide_eq_false (fun q=>h2 (by omega))]
   clear sS hs
   go_enter Tryz.func121,Tryz.ntmps121
   go_wp2_with fail
   go_ret
   exact ⟨rfl,rfl⟩
theorem MR (val:ByteArray) (w:World):Calls Tryz.prog 122 #[.string val] w fun e w'=>e=.returned (.bool (decide (val.size<=32)))/\w'=w:=by
 generalize sS:val.size=ks at*
 have Va:(val.size:Int)=(ks:Int):=by rw [sS]
 by_cases h2:(ks:Int)<=32
 ·rw [decide_eq_true (by omega)]
  clear sS
  go_enter Tryz.func122,Tryz.ntmps122
  go_wp2_with fail
  go_ret
  exact ⟨rfl,rfl⟩
 ·rw [decide_eq_false (by omega)]
  clear sS
  go_enter Tryz.func122,Tryz.ntmps122
  go_wp2_with fail
  go_ret
  exact ⟨rfl,rfl⟩
set_option maxHeartbeats 1000000 in
theorem MS (c:Ct) (w:World):Calls Tryz.prog 92 #[pg c] w fun e w'=>e=.returned (.int .i64 (di c))/\Below w.heap.size w w':=by
 obtain ⟨k,key,val,z⟩:=c
 unfold pg di
 simp only
 have hB:=Lib.hid (below_1 w (.cells #[.int .i64 k,.string key,.string val,.int .i64 z] 31))
 have hK:=fun w=>MP k w
 have hI:=fun w=>MQ key w
 have hV:=fun w=>MR val w
 generalize key.size=ks at*
 generalize val.size=vs at*
 by_cases h1:0<=k/\k<=3
 case neg=>
  rw [if_pos (by omega)]
  simp only [decide_eq_false h1] at hK
  replace hK:=Lib.hid hK
  replace hI:=Lib.hid hI
  replace hV:=Lib.hid hV
  go_enter Tryz.func92,Tryz.ntmps92
  go_wp2_with (first | (go_at_call 120; refine (hK.out _).mono ?_; rintro e w' ⟨rfl,rfl⟩) | (go_at_call 121; refine (hI.out _).mono ?_; rintro e w' ⟨rfl,rfl⟩) | (go_at_call 122; refine (hV.out _).mono ?_; rintro e w' ⟨rfl,rfl⟩))
  go_ret
  exact ⟨rfl,hB.out⟩
 simp only [decide_eq_true h1] at hK
 replace hK:=Lib.hid hK
 rw [if_neg (by omega)]
 by_cases h3:k=3
 ·rw [if_neg (by omega)]
  subst h3
  replace hI:=Lib.hid hI
  replace hV:=Lib.hid hV
  clear h1
  go_enter Tryz.func92,Tryz.ntmps92
  go_wp2_with (first | (go_at_call 120; refine (hK.out _).mono ?_; rintro e w' ⟨rfl,rfl⟩) | (go_at_call 121; refine (hI.out _).mono ?_; rintro e w' ⟨rfl,rfl⟩) | (go_at_call 122; refine (hV.out _).mono ?_; rintro e w' ⟨rfl,rfl⟩))
  go_ret
  exact ⟨rfl,hB.out⟩
 have pU:k<3:=by omega
 clear h1
 by_cases h4:1<=ks/\ks<=32
 case neg=>
  rw [if_pos ⟨pU,by omega⟩]
  simp only [decide_eq_false h4] at hI
  replace hI:=Lib.hid hI
  replace hV:=Lib.hid hV
  clear pU h4
  go_enter Tryz.func92,Tryz.ntmps92
  go_wp2_with (first | (go_at_call 120; refine (hK.out _).mono ?_; rintro e w' ⟨rfl,rfl⟩) | (go_at_call 121; refine (hI.out _).mono ?_; rintro e w' ⟨rfl,rfl⟩) | (go_at_call 122; refine (hV.out _).mono ?_; rintro e w' ⟨rfl,rfl⟩))
  go_ret
  exact ⟨rfl,hB.out⟩
 simp only [decide_eq_true h4] at hI
 replace hI:=Lib.hid hI
 by_cases h6:k=1
 ·subst h6
  by_cases h7:vs<=32
  ·rw [if_neg (by omega)]
   simp only [decide_eq_true h7] at hV
   replace hV:=Lib.hid hV
   clear pU h3 h4 h7
   go_enter Tryz.func92,Tryz.ntmps92
   go_wp2_with (first | (go_at_call 120; refine (hK.out _).mono ?_; rintro e w' ⟨rfl,rfl⟩) | (go_at_call 121; refine (hI.out _).mono ?_; rintro e w' ⟨rfl,rfl⟩) | (go_at_call 122; refine (hV.out _).mono ?_; rintro e w' ⟨rfl,rfl⟩))
   go_ret
   exact ⟨rfl,hB.out⟩
  ·rw [if_pos ⟨pU,.inr (.inr ⟨rfl,by omega⟩)⟩]
   simp only [decide_eq_false h7] at hV
   replace hV:=Lib.hid hV
   clear pU h3 h4 h7
   go_enter Tryz.func92,Tryz.ntmps92
   go_wp2_with (first | (go_at_call 120; refine (hK.out _).mono ?_; rintro e w' ⟨rfl,rfl⟩) | (go_at_call 121; refine (hI.out _).mono ?_; rintro e w' ⟨rfl,rfl⟩) | (go_at_call 122; refine (hV.out _).mono ?_; rintro e w' ⟨rfl,rfl⟩))
   go_ret
   exact ⟨rfl,hB.out⟩
 ·rw [if_neg (by omega)]
  replace hV:=Lib.hid hV
  clear pU h4
  go_enter Tryz.func92,Tryz.ntmps92
  go_wp2_with (first | (go_at_call 120; refine (hK.out _).mono ?_; rintro e w' ⟨rfl,rfl⟩) | (go_at_call 121; refine (hI.out _).mono ?_; rintro e w' ⟨rfl,rfl⟩) | (go_at_call 122; refine (hV.out _).mono ?_; rintro e w' ⟨rfl,rfl⟩))
  go_ret
  exact ⟨rfl,hB.out⟩
section
variable {w w' w3 w4:World} {a:Cp} {C:Cl} {F:Fr} {f:Nat} {e:Int}
abbrev vw:Gt.Ga:=⟨0,0,0,0⟩
abbrev yj:Pu.Qa:=⟨0,0,0⟩
abbrev vy:Zr.Ra:=⟨0,.nilIface,⟨0,.nilIface,.nilIface,0,0,none,0,0,none,0,[],none,0,[]⟩,⟨0,.nilIface,0,0⟩⟩
theorem MT {c:Ct} (h:di c=0):0<=c.kind/\c.kind<=3:=by
 unfold di at h
 by_cases q:c.kind<0\/3<c.kind
 ·rw [if_pos q] at h; simp at h
 ·omega
theorem MU {f:Nat} (h:ma w a e F):ma w {a with f:=f} e F:=by cases F<;>exact h
theorem MV {f x:Nat} (h:oy {a with f:=f} F x):oy a F x:=by cases F<;>exact h
theorem MW (h:ma w a e F):∃ T v,a.tv=.iface T v:=by
 cases F with
 | ref=>exact ⟨_,_,h⟩
 | get G=>exact ⟨_,_,h.1⟩
 | put P=>exact ⟨_,_,h.1⟩
 | del D=>exact ⟨_,_,h.1⟩
 | rz R=>exact ⟨_,_,h.1⟩
def MX (i:Nat) (c:Ct) (F:Fr):Prop:=(di c≠0->F=.ref)/\
 (di c=0->F≠.ref/\(c.kind=0->F=.get (Gt.mK i c.key))/\(c.kind=1->∃ h,F=.put (Pu.jS h i c.key c.val))/\(c.kind=2->∃ h,F=.del (Dl.ku h i c.key))/\(c.kind=3->F=.rz (Zr.bR i c.size)))
def tK (w:World) (i:Nat) (c:Ct) (e:Ending) (w':World):Prop:=∃ (a:Cp) (F:Fr),e=.returned a.tv/\MX i c F/\ma w' a (di c) F/\(∀ x,oy a F x->w.heap.size<=x)/\Below w.heap.size w w'
end
set_option maxHeartbeats 2000000 in
theorem MY (i:Nat) (c:Ct) (hk:c.key.size<=maxLen) (w:World):Calls Tryz.prog 69 #[.int .i64 i,.agg #[.int .i64 c.kind,.string c.key,.string c.val,.int .i64 c.size]] w (tK w i c):=by
 have hC:=Lib.hid (fun w=>show Calls Tryz.prog 92 #[.agg #[.int .i64 c.kind,.string c.key,.string c.val,.int .i64 c.size]] w (fun e w'=>e=.returned (.int .i64 (di c))/\Below w.heap.size w w') from MS c w)
 have uy:=Lib.hid (fun h=>MT (c:=c) h)
 obtain ⟨w1,aP⟩:∃ w1,w1=w.alloc (.cells #[.int .i64 c.kind,.string c.key,.string c.val,.int .i64 c.size] 31):=⟨_,rfl⟩
 have b1:af w1 w.heap.size 31 #[.int .i64 c.kind,.string c.key,.string c.val,.int .i64 c.size]:=by rw [aP]; exact af.made w _ _
 have d1:Below w.heap.size w w1:=by rw [aP]; exact below_1 _ _
 obtain ⟨p,hp⟩:∃ p,p=w.heap.size:=⟨_,rfl⟩
 rw [<-hp] at b1
 have p0:=b1.cell 0
 have p1:=b1.cell 1
 have p2:=b1.cell 2
 have p3:=b1.cell 3
 simp at p0 p1 p2 p3
 have lp:=b1.lt
 go_enter Tryz.func69,Tryz.ntmps69
 go_upto_region 1 with (fail)
 rw [<-aP,<-hp]
 clear aP hp
 go_upto_region 2 with (go_at_call 92; refine (hC.out _).mono ?_; rintro e w2 ⟨rfl,au⟩)
 have d2:=Lib.hid (d1.trans (au.mono d1.size))
 have b4:=b1.only (ab.aD au (fun _=>False)) (by simp)
 have p0:=b4.cell 0
 have p1:=b4.cell 1
 have p2:=b4.cell 2
 have p3:=b4.cell 3
 simp at p0 p1 p2 p3
 have lp:=b4.lt
 clear b1 d1 hC au b4
 by_cases h0:di c=0
 case neg=>
  have hE:Hid (tK w i c (.returned (.iface 176 (.agg #[.int .i64 (di c)]))) w2):=Lib.hid ⟨⟨0,.iface 176 (ja (di c)),vw,yj,vy⟩,.ref,rfl,⟨fun _=>rfl,fun q=>absurd q h0⟩,rfl,fun x hx=>absurd hx (fun q=>q),d2.out⟩
  clear uy d2
  go_wp2_with fail
  go_ret
  exact hE.out
 obtain ⟨k1,k2⟩:=uy.out h0
 have dC:=Lib.hid h0
 clear uy
 have cm:c.kind=0\/c.kind=1\/c.kind=2\/c.kind=3:=by omega
 clear k1 k2
 rcases cm with cm | cm | cm | cm
 ·have hN:=Lib.hid (Gt.mO i c.key hk w2)
  have nT:=Lib.hid cm
  rw [cm] at p0
  clear cm
  go_wp2_with fail
  refine hN.out.mono ?_
  rintro e w4 ⟨a,rfl,hG,hl,hb⟩
  have hE:Hid (tK w i c (.returned (.iface 177 (ptr a.f))) w4):=Lib.hid (by
   have cm:=nT.out
   have h0:=dC.out
   refine ⟨⟨0,.iface 177 (ptr a.f),a,yj,vy⟩,.get (Gt.mK i c.key),rfl,⟨fun q=>absurd h0 q,fun _=>⟨by simp,fun _=>rfl,fun q=>by omega,fun q=>by omega,fun q=>by omega⟩⟩,⟨rfl,hG⟩,fun x hx=>Nat.le_trans d2.out.size (hl x hx),d2.out.trans (hb.mono d2.out.size)⟩)
  clear hN hG hl hb d2 hk p0 p1 p2 p3 lp nT h0 dC
  go_wp2_with fail
  go_ret
  exact hE.out
 ·have hN:=Lib.hid (Pu.mO i c.key c.val hk w2)
  have nT:=Lib.hid cm
  rw [cm] at p0
  clear cm
  go_wp2_with fail
  refine hN.out.mono ?_
  rintro e w4 ⟨a,h,rfl,hG,hl,hb⟩
  have hE:Hid (tK w i c (.returned (.iface 179 (ptr a.f))) w4):=Lib.hid (by
   have cm:=nT.out
   have h0:=dC.out
   refine ⟨⟨0,.iface 179 (ptr a.f),vw,a,vy⟩,.put (Pu.jS h i c.key c.val),rfl,⟨fun q=>absurd h0 q,fun _=>⟨by simp,fun q=>by omega,fun _=>⟨h,rfl⟩,fun q=>by omega,fun q=>by omega⟩⟩,⟨rfl,hG⟩,fun x hx=>Nat.le_trans d2.out.size (hl x hx),d2.out.trans (hb.mono d2.out.size)⟩)
  clear hN hG hl hb d2 hk p0 p1 p2 p3 lp nT h0 dC
  go_wp2_with fail
  go_ret
  exact hE.out
 ·have hN:=Lib.hid (Dl.mO i c.key hk w2)
  have nT:=Lib.hid cm
  rw [cm] at p0
  clear cm
  go_wp2_with fail
  refine hN.out.mono ?_
  rintro e w4 ⟨a,h,rfl,hG,hl,hb⟩
  have hE:Hid (tK w i c (.returned (.iface 164 (ptr a.f))) w4):=Lib.hid (by
   have cm:=nT.out
   have h0:=dC.out
   refine ⟨⟨0,.iface 164 (ptr a.f),vw,a,vy⟩,.del (Dl.ku h i c.key),rfl,⟨fun q=>absurd h0 q,fun _=>⟨by simp,fun q=>by omega,fun q=>by omega,fun _=>⟨h,rfl⟩,fun q=>by omega⟩⟩,⟨rfl,hG⟩,fun x hx=>Nat.le_trans d2.out.size (hl x hx),d2.out.trans (hb.mono d2.out.size)⟩)
  clear hN hG hl hb d2 hk p0 p1 p2 p3 lp nT h0 dC
  go_wp2_with fail
  go_ret
  exact hE.out
 ·have hN:=Lib.hid (FL i c.size w2)
  have nT:=Lib.hid cm
  rw [cm] at p0
  clear cm
  go_wp2_with fail
  refine hN.out.mono ?_
  rintro e w4 ⟨a,rfl,hG,hl,hb⟩
  have hE:Hid (tK w i c (.returned (.iface 137 (ptr (dk.f a)))) w4):=Lib.hid (by
   have cm:=nT.out
   have h0:=dC.out
   refine ⟨⟨0,.iface 137 (ptr (dk.f a)),vw,yj,a⟩,.rz (Zr.bR i c.size),rfl,⟨fun q=>absurd h0 q,fun _=>⟨by simp,fun q=>by omega,fun q=>by omega,fun q=>by omega,fun _=>rfl⟩⟩,⟨rfl,hG⟩,fun x hx=>Nat.le_trans d2.out.size (hl x hx),d2.out.trans (hb.mono d2.out.size)⟩)
  clear hN hG hl hb d2 hk p0 p1 p2 p3 lp nT h0 dC
  go_wp2_with fail
  go_ret
  exact hE.out
def Bj (w:World) (i:Nat) (c:Ct) (e:Ending) (w':World):Prop:=∃ (a:Cp) (C:Cl),e=.returned (ptr (cA.f a))/\jG i c C/\cA.At w' a C/\(∀ x,cA.aS a C x->w.heap.size<=x)/\Below w.heap.size w w'
set_option maxHeartbeats 2000000 in
theorem FN (i:Nat) (c:Ct) (hk:c.key.size<=maxLen) (w:World):Calls Tryz.prog 52 #[.int .i64 i,pg c] w fun e w'=>∃ (a:Cp) (C:Cl),e=.returned (ptr (cA.f a))/\jG i c C/\cA.At w' a C/\(∀ x,cA.aS a C x->w.heap.size<=x)/\Below w.heap.size w w':=by
 have hF:=Lib.hid (fun w=>MY i c hk w)
 show Calls Tryz.prog 52 #[.int .i64 i,.agg #[.int .i64 c.kind,.string c.key,.string c.val,.int .i64 c.size]] w (Bj w i c)
 obtain ⟨w1,aP⟩:∃ w1,w1=w.alloc (.cells #[.int .i64 c.kind,.string c.key,.string c.val,.int .i64 c.size] 31):=⟨_,rfl⟩
 have b1:af w1 w.heap.size 31 #[.int .i64 c.kind,.string c.key,.string c.val,.int .i64 c.size]:=by rw [aP]; exact af.made w _ _
 have d1:Below w.heap.size w w1:=by rw [aP]; exact below_1 _ _
 obtain ⟨p,hp⟩:∃ p,p=w.heap.size:=⟨_,rfl⟩
 rw [<-hp] at b1
 have p0:=b1.cell 0
 have p1:=b1.cell 1
 have p2:=b1.cell 2
 have p3:=b1.cell 3
 simp at p0 p1 p2 p3
 have lp:=b1.lt
 go_enter Tryz.func52,Tryz.ntmps52
 go_upto_region 1 with (fail)
 rw [<-aP,<-hp]
 clear aP hp
 go_wp2_with (go_at_call 69; refine (hF.out _).mono ?_; rintro e w2 ⟨a,F,rfl,hI,hIn,hl,hb⟩; obtain ⟨T,v,Dx⟩:=MW hIn; rw [Dx])
 have hE:Hid (Bj w i c (.returned (ptr w2.heap.size)) (w2.alloc (.cells #[.iface T v,.bool false] 118))):=Lib.hid (by
  have d2:=d1.trans (hb.mono d1.size)
  rw [<-Dx]
  have h3:=below_1 w2 (.cells #[a.tv,.bool false] 118)
  refine ⟨{a with f:=w2.heap.size},⟨F,di c,false⟩,rfl,⟨rfl,rfl,hI.1,fun q=>(hI.2 q).2⟩,⟨af.made w2 _ _,?_,fun q=>?_⟩,fun x hx=>?_,d2.trans (h3.mono d2.size)⟩
  ·exact Bg (MU hIn) (ab.aD h3 (fun _=>False)) (by simp)
  ·by_cases h0:di c=0
   ·exact h0
   ·exact absurd (hI.1 h0) q
  ·rcases hx with rfl | hx
   ·exact d2.size
   ·exact Nat.le_trans d1.size (hl x (MV hx)))
 clear hF b1 d1 hI hIn hl hb p0 p1 p2 p3 lp Dx
 go_wp2_with fail
 go_ret
 exact hE.out
end Go.Proofs.YtpanebgakndddaaGreat.Ca
namespace Go.Proofs.YtpanebgakndddaaGreat.Ca
open Go Go.RowKit Hp K Fl Rw Hm Ar Mm Me LK Qs Wk Pc Pn Mq Pu Zp Mx cL Bs Zr
set_option maxRecDepth 100000
theorem MZ (b:Nat) (w:World):(Instr.typeAssert (.iface 177 (ptr b)) 116 177 true).run Tryz.prog w=.ok (.tuple #[ptr b,.bool true]) w:=by kernel_rfl
theorem M6 (b:Nat) (w:World):(Instr.typeAssert (.iface 179 (ptr b)) 116 177 true).run Tryz.prog w=.ok (.tuple #[.pointer none,.bool false]) w:=by kernel_rfl
theorem M7 (b:Nat) (w:World):(Instr.typeAssert (.iface 179 (ptr b)) 116 179 true).run Tryz.prog w=.ok (.tuple #[ptr b,.bool true]) w:=by kernel_rfl
theorem M8 (b:Nat) (w:World):(Instr.typeAssert (.iface 164 (ptr b)) 116 177 true).run Tryz.prog w=.ok (.tuple #[.pointer none,.bool false]) w:=by kernel_rfl
theorem M9 (b:Nat) (w:World):(Instr.typeAssert (.iface 164 (ptr b)) 116 179 true).run Tryz.prog w=.ok (.tuple #[.pointer none,.bool false]) w:=by kernel_rfl
theorem Na (b:Nat) (w:World):(Instr.typeAssert (.iface 164 (ptr b)) 116 164 true).run Tryz.prog w=.ok (.tuple #[ptr b,.bool true]) w:=by kernel_rfl
theorem Nb (b:Nat) (w:World):(Instr.typeAssert (.iface 137 (ptr b)) 116 177 true).run Tryz.prog w=.ok (.tuple #[.pointer none,.bool false]) w:=by kernel_rfl
theorem Nc (b:Nat) (w:World):(Instr.typeAssert (.iface 137 (ptr b)) 116 179 true).run Tryz.prog w=.ok (.tuple #[.pointer none,.bool false]) w:=by kernel_rfl
theorem Nf (b:Nat) (w:World):(Instr.typeAssert (.iface 137 (ptr b)) 116 164 true).run Tryz.prog w=.ok (.tuple #[.pointer none,.bool false]) w:=by kernel_rfl
theorem Ng (b:Nat) (w:World):(Instr.typeAssert (.iface 137 (ptr b)) 116 137 true).run Tryz.prog w=.ok (.tuple #[ptr b,.bool true]) w:=by kernel_rfl
theorem Nh (e:Int) (w:World):(Instr.typeAssert (.iface 176 (ja e)) 116 177 true).run Tryz.prog w=.ok (.tuple #[.pointer none,.bool false]) w:=by kernel_rfl
theorem Ni (e:Int) (w:World):(Instr.typeAssert (.iface 176 (ja e)) 116 179 true).run Tryz.prog w=.ok (.tuple #[.pointer none,.bool false]) w:=by kernel_rfl
theorem Nj (e:Int) (w:World):(Instr.typeAssert (.iface 176 (ja e)) 116 164 true).run Tryz.prog w=.ok (.tuple #[.pointer none,.bool false]) w:=by kernel_rfl
theorem Nk (e:Int) (w:World):(Instr.typeAssert (.iface 176 (ja e)) 116 137 true).run Tryz.prog w=.ok (.tuple #[.pointer none,.bool false]) w:=by kernel_rfl
theorem Nl (e:Int) (w:World):(Instr.typeAssert (.iface 176 (ja e)) 116 176 true).run Tryz.prog w=.ok (.tuple #[ja e,.bool true]) w:=by kernel_rfl
section
variable {w w':World} {a:Cp} {C:Cl} {f b:Nat} {tv:Value} {e:Int}
theorem Mn (hb:af w f 118 (ll tv false)):Calls Tryz.prog 53 #[ptr f] w fun e w'=>e=.returned (.tuple #[.agg #[.int .i64 0,.bool false,.string ⟨#[]⟩],.bool false])/\Below w.heap.size w w':=by
 obtain ⟨w1,aP⟩:∃ w1,w1=w.alloc (.cells #[.int .i64 0,.bool false,.string ⟨#[]⟩] 44):=⟨_,rfl⟩
 have b1:af w1 w.heap.size 44 #[.int .i64 0,.bool false,.string ⟨#[]⟩]:=by rw [aP]; exact af.made w _ _
 have d1:Below w.heap.size w w1:=by rw [aP]; exact below_1 _ _
 have ax:=hb.only (ab.aD d1 (fun _=>False)) (by simp)
 have c2:=(qw ax).2
 have lf:=ax.lt
 have aH:f≠w.heap.size:=fun q=>by have:=hb.lt; omega
 obtain ⟨q,hq⟩:∃ q,q=w.heap.size:=⟨_,rfl⟩
 have iN:w.heap.size<=q:=by omega
 rw [<-hq] at b1 aH
 have g0:=b1.cell 0
 have g1:=b1.cell 1
 have g2:=b1.cell 2
 have z0:=b1.frozen 0
 have z1:=b1.frozen 1
 have z2:=b1.frozen 2
 simp at g0 g1 g2
 have lq:=b1.lt
 have hB:=Lib.hid (((d1.setCell (p:=⟨q,0,none⟩) iN (.int .i64 0)).setCell (p:=⟨q,1,none⟩) iN (.bool false)).setCell (p:=⟨q,2,none⟩) iN (.string ⟨#[]⟩))
 clear hb ax b1 d1 iN
 go_enter Tryz.func53,Tryz.ntmps53
 go_upto_region 1 with (fail)
 rw [<-aP,<-hq]
 clear aP hq
 go_wp2_with fail
 exact bodyPost_ret (v:=.tuple #[.agg #[.int .i64 0,.bool false,.string ⟨#[]⟩],.bool false]) (by simp [results,Tryz.results53,go_sem,g0,g1,g2]) rfl ⟨rfl,hB.out⟩
theorem Mr {e1:Int} {h:Bool} {v:ByteArray} (hb:af w f 118 (ll tv true)) (hA:∀ wx,Below w.heap.size w wx->Calls Tryz.prog 70 #[tv] wx fun e' w'=>e'=.returned (.agg #[.int .i64 e1,.bool h,.string v])/\Below wx.heap.size wx w'):
 Calls Tryz.prog 53 #[ptr f] w fun e' w'=>e'=.returned (.tuple #[.agg #[.int .i64 e1,.bool h,.string v],.bool true])/\Below w.heap.size w w':=by
 obtain ⟨w1,aP⟩:∃ w1,w1=w.alloc (.cells #[.int .i64 0,.bool false,.string ⟨#[]⟩] 44):=⟨_,rfl⟩
 have b1:af w1 w.heap.size 44 #[.int .i64 0,.bool false,.string ⟨#[]⟩]:=by rw [aP]; exact af.made w _ _
 have d1:Below w.heap.size w w1:=by rw [aP]; exact below_1 _ _
 have bH:=Lib.hid (hA w1 d1)
 have ax:=hb.only (ab.aD d1 (fun _=>False)) (by simp)
 have c0:=(qw ax).1
 have c2:=(qw ax).2
 have lf:=ax.lt
 obtain ⟨q,hq⟩:∃ q,q=w.heap.size:=⟨_,rfl⟩
 have iN:w.heap.size<=q:=by omega
 rw [<-hq] at b1
 clear hb ax hA
 go_enter Tryz.func53,Tryz.ntmps53
 go_upto_region 1 with (fail)
 rw [<-aP,<-hq]
 clear aP hq
 go_wp2_with fail
 refine bH.out.mono ?_
 rintro e w3 ⟨rfl,ba⟩
 have b3:=b1.only (ab.aD ba (fun _=>False)) (by simp)
 have hB:=Lib.hid (d1.trans (ba.mono d1.size))
 clear bH ba b1 d1
 clear c0 c2 lf
 have g0:=b3.cell 0
 have g1:=b3.cell 1
 have g2:=b3.cell 2
 have z0:=b3.frozen 0
 have z1:=b3.frozen 1
 have z2:=b3.frozen 2
 simp at g0 g1 g2
 have lq:=b3.lt
 clear b3
 go_wp2_with fail
 refine bodyPost_ret (v:=.tuple #[.agg #[.int .i64 e1,.bool h,.string v],.bool true]) (by simp [results,Tryz.results53,go_sem,g0,g1,g2]) rfl ⟨rfl,?_⟩
 repeat' first | exact hB.out | (refine Below.setCell ?_ ?_ _) | exact iN
set_option maxHeartbeats 1000000 in
theorem Mt {v:ByteArray} {h:Bool} (hF:∀ wx,Below w.heap.size w wx->Calls Tryz.prog 95 #[ptr b] wx fun e' w'=>e'=.returned (.tuple #[.string v,.bool h])/\Below wx.heap.size wx w'):
 Calls Tryz.prog 70 #[.iface 177 (ptr b)] w fun e' w'=>e'=.returned (.agg #[.int .i64 0,.bool h,.string v])/\Below w.heap.size w w':=by
 obtain ⟨w1,aP⟩:∃ w1,w1=w.alloc (.cells #[.int .i64 0,.bool false,.string ⟨#[]⟩] 44):=⟨_,rfl⟩
 have b1:af w1 w.heap.size 44 #[.int .i64 0,.bool false,.string ⟨#[]⟩]:=by rw [aP]; exact af.made w _ _
 have d1:Below w.heap.size w w1:=by rw [aP]; exact below_1 _ _
 have aQ:=Lib.hid (hF w1 d1)
 obtain ⟨q,hq⟩:∃ q,q=w.heap.size:=⟨_,rfl⟩
 have iN:w.heap.size<=q:=by omega
 rw [<-hq] at b1
 have ta0:=MZ b
 clear hF
 go_enter Tryz.func70,Tryz.ntmps70
 go_upto_region 1 with (fail)
 rw [<-aP,<-hq]
 clear aP hq
 go_wp2_with fail
 refine aQ.out.mono ?_
 rintro e w3 ⟨rfl,ba⟩
 have b3:=b1.only (ab.aD ba (fun _=>False)) (by simp)
 have hB:=Lib.hid (d1.trans (ba.mono d1.size))
 clear aQ ba b1 d1
 have g0:=b3.cell 0
 have g1:=b3.cell 1
 have g2:=b3.cell 2
 have z0:=b3.frozen 0
 have z1:=b3.frozen 1
 have z2:=b3.frozen 2
 simp at g0 g1 g2
 have lq:=b3.lt
 clear b3
 go_wp2_with fail
 refine bodyPost_ret (v:=.agg #[.int .i64 0,.bool h,.string v]) (by simp [results,Tryz.results70,go_sem,g0,g1,g2]) rfl ⟨rfl,?_⟩
 repeat' first | exact hB.out | (refine Below.setCell ?_ ?_ _) | exact iN
set_option maxHeartbeats 1000000 in
theorem Fq {h:Bool} (hF:∀ wx,Below w.heap.size w wx->Calls Tryz.prog 96 #[ptr b] wx fun e' w'=>e'=.returned (.agg #[.int .i64 e,.bool h,.string ⟨#[]⟩])/\Below wx.heap.size wx w'):
 Calls Tryz.prog 70 #[.iface 179 (ptr b)] w fun e' w'=>e'=.returned (.agg #[.int .i64 e,.bool h,.string ⟨#[]⟩])/\Below w.heap.size w w':=by
 obtain ⟨w1,aP⟩:∃ w1,w1=w.alloc (.cells #[.int .i64 0,.bool false,.string ⟨#[]⟩] 44):=⟨_,rfl⟩
 have b1:af w1 w.heap.size 44 #[.int .i64 0,.bool false,.string ⟨#[]⟩]:=by rw [aP]; exact af.made w _ _
 have d1:Below w.heap.size w w1:=by rw [aP]; exact below_1 _ _
 have aQ:=Lib.hid (hF w1 d1)
 obtain ⟨q,hq⟩:∃ q,q=w.heap.size:=⟨_,rfl⟩
 have iN:w.heap.size<=q:=by omega
 rw [<-hq] at b1
 have ta0:=M6 b
 have ta1:=M7 b
 clear hF
 go_enter Tryz.func70,Tryz.ntmps70
 go_upto_region 1 with (fail)
 rw [<-aP,<-hq]
 clear aP hq
 go_wp2_with fail
 refine aQ.out.mono ?_
 rintro e w3 ⟨rfl,ba⟩
 have b3:=b1.only (ab.aD ba (fun _=>False)) (by simp)
 have hB:=Lib.hid (d1.trans (ba.mono d1.size))
 clear aQ ba b1 d1
 have g0:=b3.cell 0
 have g1:=b3.cell 1
 have g2:=b3.cell 2
 have z0:=b3.frozen 0
 have z1:=b3.frozen 1
 have z2:=b3.frozen 2
 simp at g0 g1 g2
 have lq:=b3.lt
 clear b3
 go_wp2_with fail
 refine bodyPost_ret (v:=.agg #[.int .i64 e,.bool h,.string ⟨#[]⟩]) (by simp [results,Tryz.results70,go_sem,g0,g1,g2]) rfl ⟨rfl,?_⟩
 repeat' first | exact hB.out | (refine Below.setCell ?_ ?_ _) | exact iN
set_option maxHeartbeats 1000000 in
theorem Mu {v:ByteArray} {h:Bool} (hF:∀ wx,Below w.heap.size w wx->Calls Tryz.prog 82 #[ptr b] wx fun e' w'=>e'=.returned (.tuple #[.string v,.bool h])/\Below wx.heap.size wx w'):
 Calls Tryz.prog 70 #[.iface 164 (ptr b)] w fun e' w'=>e'=.returned (.agg #[.int .i64 0,.bool h,.string v])/\Below w.heap.size w w':=by
 obtain ⟨w1,aP⟩:∃ w1,w1=w.alloc (.cells #[.int .i64 0,.bool false,.string ⟨#[]⟩] 44):=⟨_,rfl⟩
 have b1:af w1 w.heap.size 44 #[.int .i64 0,.bool false,.string ⟨#[]⟩]:=by rw [aP]; exact af.made w _ _
 have d1:Below w.heap.size w w1:=by rw [aP]; exact below_1 _ _
 have aQ:=Lib.hid (hF w1 d1)
 obtain ⟨q,hq⟩:∃ q,q=w.heap.size:=⟨_,rfl⟩
 have iN:w.heap.size<=q:=by omega
 rw [<-hq] at b1
 have ta0:=M8 b
 have ta1:=M9 b
 have ta2:=Na b
 clear hF
 go_enter Tryz.func70,Tryz.ntmps70
 go_upto_region 1 with (fail)
 rw [<-aP,<-hq]
 clear aP hq
 go_wp2_with fail
 refine aQ.out.mono ?_
 rintro e w3 ⟨rfl,ba⟩
 have b3:=b1.only (ab.aD ba (fun _=>False)) (by simp)
 have hB:=Lib.hid (d1.trans (ba.mono d1.size))
 clear aQ ba b1 d1
 have g0:=b3.cell 0
 have g1:=b3.cell 1
 have g2:=b3.cell 2
 have z0:=b3.frozen 0
 have z1:=b3.frozen 1
 have z2:=b3.frozen 2
 simp at g0 g1 g2
 have lq:=b3.lt
 clear b3
 go_wp2_with fail
 refine bodyPost_ret (v:=.agg #[.int .i64 0,.bool h,.string v]) (by simp [results,Tryz.results70,go_sem,g0,g1,g2]) rfl ⟨rfl,?_⟩
 repeat' first | exact hB.out | (refine Below.setCell ?_ ?_ _) | exact iN
set_option maxHeartbeats 1000000 in
theorem Mv (hF:∀ wx,Below w.heap.size w wx->Calls Tryz.prog 63 #[ptr b] wx fun e' w'=>e'=.returned (.int .i64 e)/\Below wx.heap.size wx w'):
 Calls Tryz.prog 70 #[.iface 137 (ptr b)] w fun e' w'=>e'=.returned (.agg #[.int .i64 e,.bool false,.string ⟨#[]⟩])/\Below w.heap.size w w':=by
 obtain ⟨w1,aP⟩:∃ w1,w1=w.alloc (.cells #[.int .i64 0,.bool false,.string ⟨#[]⟩] 44):=⟨_,rfl⟩
 have b1:af w1 w.heap.size 44 #[.int .i64 0,.bool false,.string ⟨#[]⟩]:=by rw [aP]; exact af.made w _ _
 have d1:Below w.heap.size w w1:=by rw [aP]; exact below_1 _ _
 have aQ:=Lib.hid (hF w1 d1)
 obtain ⟨q,hq⟩:∃ q,q=w.heap.size:=⟨_,rfl⟩
 have iN:w.heap.size<=q:=by omega
 rw [<-hq] at b1
 have ta0:=Nb b
 have ta1:=Nc b
 have ta2:=Nf b
 have ta3:=Ng b
 clear hF
 go_enter Tryz.func70,Tryz.ntmps70
 go_upto_region 1 with (fail)
 rw [<-aP,<-hq]
 clear aP hq
 go_wp2_with fail
 refine aQ.out.mono ?_
 rintro e w3 ⟨rfl,ba⟩
 have b3:=b1.only (ab.aD ba (fun _=>False)) (by simp)
 have hB:=Lib.hid (d1.trans (ba.mono d1.size))
 clear aQ ba b1 d1
 have g0:=b3.cell 0
 have g1:=b3.cell 1
 have g2:=b3.cell 2
 have z0:=b3.frozen 0
 have z1:=b3.frozen 1
 have z2:=b3.frozen 2
 simp at g0 g1 g2
 have lq:=b3.lt
 clear b3
 go_wp2_with fail
 refine bodyPost_ret (v:=.agg #[.int .i64 e,.bool false,.string ⟨#[]⟩]) (by simp [results,Tryz.results70,go_sem,g0,g1,g2]) rfl ⟨rfl,?_⟩
 repeat' first | exact hB.out | (refine Below.setCell ?_ ?_ _) | exact iN
set_option maxHeartbeats 1000000 in
theorem Ms:
 Calls Tryz.prog 70 #[.iface 176 (ja e)] w fun e' w'=>e'=.returned (.agg #[.int .i64 e,.bool false,.string ⟨#[]⟩])/\Below w.heap.size w w':=by
 obtain ⟨w1,aP⟩:∃ w1,w1=w.alloc (.cells #[.int .i64 0,.bool false,.string ⟨#[]⟩] 44):=⟨_,rfl⟩
 have b1:af w1 w.heap.size 44 #[.int .i64 0,.bool false,.string ⟨#[]⟩]:=by rw [aP]; exact af.made w _ _
 have d1:Below w.heap.size w w1:=by rw [aP]; exact below_1 _ _
 obtain ⟨q,hq⟩:∃ q,q=w.heap.size:=⟨_,rfl⟩
 have iN:w.heap.size<=q:=by omega
 rw [<-hq] at b1
 have ta0:=Nh e
 have ta1:=Ni e
 have ta2:=Nj e
 have ta3:=Nk e
 have ta4:=Nl e
 obtain ⟨w2,bl⟩:∃ w2,w2=w1.alloc (.cells #[.int .i64 e] 176):=⟨_,rfl⟩
 have b2:af w2 w1.heap.size 176 #[.int .i64 e]:=by rw [bl]; exact af.made w1 _ _
 have d2:Below w1.heap.size w1 w2:=by rw [bl]; exact below_1 _ _
 have b3:=b1.only (ab.aD d2 (fun _=>False)) (by simp)
 have hB:=Lib.hid (d1.trans (d2.mono d1.size))
 have r0:=b2.cell 0
 simp at r0
 have lr:=b2.lt
 clear b1 b2 d1 d2
 go_enter Tryz.func70,Tryz.ntmps70
 go_upto_region 1 with (fail)
 rw [<-aP,<-hq]
 clear aP hq
 go_upto_region 18 with (fail)
 rw [<-bl]
 obtain ⟨rb,JF⟩:∃ rb,rb=w1.heap.size:=⟨_,rfl⟩
 rw [<-JF] at r0 lr ⊢
 clear bl JF ta0 ta1 ta2 ta3 ta4
 have g0:=b3.cell 0
 have g1:=b3.cell 1
 have g2:=b3.cell 2
 have z0:=b3.frozen 0
 have z1:=b3.frozen 1
 have z2:=b3.frozen 2
 simp at g0 g1 g2
 have lq:=b3.lt
 clear b3
 go_wp2_with fail
 refine bodyPost_ret (v:=.agg #[.int .i64 e,.bool false,.string ⟨#[]⟩]) (by simp [results,Tryz.results70,go_sem,g0,g1,g2]) rfl ⟨rfl,?_⟩
 repeat' first | exact hB.out | (refine Below.setCell ?_ ?_ _) | exact iN
set_option maxHeartbeats 1000000 in
theorem My (he:e≠0) (hF:∀ wx,Below w.heap.size w wx->Calls Tryz.prog 110 #[ptr b] wx fun e' w'=>e'=.returned (.int .i64 e)/\Below wx.heap.size wx w')
 :
 Calls Tryz.prog 96 #[ptr b] w fun e' w'=>e'=.returned (.agg #[.int .i64 e,.bool false,.string ⟨#[]⟩])/\Below w.heap.size w w':=by
 obtain ⟨w1,aP⟩:∃ w1,w1=w.alloc (.cells #[.int .i64 0,.bool false,.string ⟨#[]⟩] 44):=⟨_,rfl⟩
 have b1:af w1 w.heap.size 44 #[.int .i64 0,.bool false,.string ⟨#[]⟩]:=by rw [aP]; exact af.made w _ _
 have d1:Below w.heap.size w w1:=by rw [aP]; exact below_1 _ _
 have aQ:=Lib.hid (hF w1 d1)
 obtain ⟨q,hq⟩:∃ q,q=w.heap.size:=⟨_,rfl⟩
 have iN:w.heap.size<=q:=by omega
 rw [<-hq] at b1
 clear hF
 go_enter Tryz.func96,Tryz.ntmps96
 go_upto_region 1 with (fail)
 rw [<-aP,<-hq]
 clear aP hq
 go_wp2_with fail
 refine aQ.out.mono ?_
 rintro e w3 ⟨rfl,ba⟩
 have b3:=b1.only (ab.aD ba (fun _=>False)) (by simp)
 have hB:=Lib.hid (d1.trans (ba.mono d1.size))
 clear aQ ba b1 d1
 have g0:=b3.cell 0
 have g1:=b3.cell 1
 have g2:=b3.cell 2
 have z0:=b3.frozen 0
 have z1:=b3.frozen 1
 have z2:=b3.frozen 2
 simp at g0 g1 g2
 have lq:=b3.lt
 clear b3
 go_wp2_with fail
 refine bodyPost_ret (v:=.agg #[.int .i64 e,.bool false,.string ⟨#[]⟩]) (by simp [results,Tryz.results96,go_sem,g0,g1,g2]) rfl ⟨rfl,?_⟩
 repeat' first | exact hB.out | (refine Below.setCell ?_ ?_ _) | exact iN
set_option maxHeartbeats 1000000 in
theorem Mw {h:Bool} (hF:∀ wx,Below w.heap.size w wx->Calls Tryz.prog 110 #[ptr b] wx fun e' w'=>e'=.returned (.int .i64 0)/\Below wx.heap.size wx w')
 (hH:∀ wx,Below w.heap.size w wx->Calls Tryz.prog 111 #[ptr b] wx fun e w'=>e=.returned (.bool h)/\Below wx.heap.size wx w'):
 Calls Tryz.prog 96 #[ptr b] w fun e' w'=>e'=.returned (.agg #[.int .i64 0,.bool h,.string ⟨#[]⟩])/\Below w.heap.size w w':=by
 obtain ⟨w1,aP⟩:∃ w1,w1=w.alloc (.cells #[.int .i64 0,.bool false,.string ⟨#[]⟩] 44):=⟨_,rfl⟩
 have b1:af w1 w.heap.size 44 #[.int .i64 0,.bool false,.string ⟨#[]⟩]:=by rw [aP]; exact af.made w _ _
 have d1:Below w.heap.size w w1:=by rw [aP]; exact below_1 _ _
 have aQ:=Lib.hid (hF w1 d1)
 obtain ⟨q,hq⟩:∃ q,q=w.heap.size:=⟨_,rfl⟩
 have iN:w.heap.size<=q:=by omega
 rw [<-hq] at b1
 clear hF
 replace hH:=Lib.hid hH
 go_enter Tryz.func96,Tryz.ntmps96
 go_upto_region 1 with (fail)
 rw [<-aP,<-hq]
 clear aP hq
 go_wp2_with fail
 refine aQ.out.mono ?_
 rintro e w2 ⟨rfl,au⟩
 have b1:=b1.only (ab.aD au (fun _=>False)) (by simp)
 have d1:=d1.trans (au.mono d1.size)
 have iO:=Lib.hid (hH.out w2 d1)
 clear aQ au hH
 go_wp2_with fail
 refine iO.out.mono ?_
 rintro e w3 ⟨rfl,ba⟩
 have b3:=b1.only (ab.aD ba (fun _=>False)) (by simp)
 have hB:=Lib.hid (d1.trans (ba.mono d1.size))
 clear iO ba b1 d1
 have g0:=b3.cell 0
 have g1:=b3.cell 1
 have g2:=b3.cell 2
 have z0:=b3.frozen 0
 have z1:=b3.frozen 1
 have z2:=b3.frozen 2
 simp at g0 g1 g2
 have lq:=b3.lt
 clear b3
 go_wp2_with fail
 refine bodyPost_ret (v:=.agg #[.int .i64 0,.bool h,.string ⟨#[]⟩]) (by simp [results,Tryz.results96,go_sem,g0,g1,g2]) rfl ⟨rfl,?_⟩
 repeat' first | exact hB.out | (refine Below.setCell ?_ ?_ _) | exact iN
end
end Go.Proofs.YtpanebgakndddaaGreat.Ca
namespace Go.Proofs.YtpanebgakndddaaGreat.Ca
open Go Go.RowKit Hp K Fl Rw Hm Ar Mm Me LK Qs Wk Pc Pn Mq Pu Zp Mx cL Bs Zr
set_option maxRecDepth 100000
theorem Mc (v:Value) (x:TypeId) (w:World):(Instr.typeAssert (.iface 177 v) x 120 true).run Tryz.prog w=.ok (.tuple #[.nilIface,.bool false]) w:=run_typeAssert_lacksB Tryz.underlying120 (by kernel_rfl) (by kernel_rfl) v x w
theorem Md (v:Value) (x:TypeId) (w:World):(Instr.typeAssert (.iface 137 v) x 120 true).run Tryz.prog w=.ok (.tuple #[.nilIface,.bool false]) w:=run_typeAssert_lacksB Tryz.underlying120 (by kernel_rfl) (by kernel_rfl) v x w
theorem Mf (v:Value) (x:TypeId) (w:World):(Instr.typeAssert (.iface 179 v) x 120 true).run Tryz.prog w=.ok (.tuple #[.iface 179 v,.bool true]) w:=run_typeAssert_hasB Tryz.underlying120 (by kernel_rfl) v x w
theorem Mg (v:Value) (x:TypeId) (w:World):(Instr.typeAssert (.iface 164 v) x 120 true).run Tryz.prog w=.ok (.tuple #[.iface 164 v,.bool true]) w:=run_typeAssert_hasB Tryz.underlying120 (by kernel_rfl) v x w
theorem Mh (v:Value) (x:TypeId) (w:World):(Instr.typeAssert (.iface 176 v) x 120 true).run Tryz.prog w=.ok (.tuple #[.nilIface,.bool false]) w:=run_typeAssert_lacksB Tryz.underlying120 (by kernel_rfl) (by kernel_rfl) v x w
theorem Mi (b:Nat) (w:World) (f:Nat):(method (f+1) 179 (.pointer (some ⟨b,0,none⟩)) "Mine").run Tryz.prog w=.ok (285,.pointer (some ⟨b,0,none⟩)) w:=by kernel_rfl
theorem Mj (b:Nat) (w:World) (f:Nat):(method (f+1) 164 (.pointer (some ⟨b,0,none⟩)) "Mine").run Tryz.prog w=.ok (272,.pointer (some ⟨b,0,none⟩)) w:=by kernel_rfl
theorem Mk (args:Array Value) (w:World):(callFunc 285 args).run Tryz.prog w=.ok (.enter 285 args) w:=by kernel_rfl
theorem Ml (args:Array Value) (w:World):(callFunc 272 args).run Tryz.prog w=.ok (.enter 272 args) w:=by kernel_rfl
section
variable {w w':World} {a:Cp} {C:Cl} {f b:Nat} {tv:Value} {e:Int} {d:Bool}
theorem A8 (hb:af w f 118 (ll tv d)) (ht:∀ w,(Instr.typeAssert tv 116 120 true).run Tryz.prog w=.ok (.tuple #[.nilIface,.bool false]) w):
 Calls Tryz.prog 30 #[ptr f] w fun e w'=>e=.returned (.int .u64 0)/\Below w.heap.size w w':=by
 have c0:=(qw hb).1
 have lf:=hb.lt
 clear hb
 go_enter Tryz.func30,Tryz.ntmps30
 go_wp2_with fail
 go_ret
 exact ⟨rfl,Below.refl _ _⟩
theorem Fm {T:TypeId} {fm:Nat} {n:Nat} (hb:af w f 118 (ll (.iface T (ptr b)) d)) (ht:∀ w,(Instr.typeAssert (.iface T (ptr b)) 116 120 true).run Tryz.prog w=.ok (.tuple #[.iface T (ptr b),.bool true]) w)
 (mm:∀ (w:World) (f:Nat),(method (f+1) T (.pointer (some ⟨b,0,none⟩)) "Mine").run Tryz.prog w=.ok (fm,.pointer (some ⟨b,0,none⟩)) w) (em:∀ args w,(callFunc fm args).run Tryz.prog w=.ok (.enter fm args) w) (hF:Calls Tryz.prog fm #[ptr b] w fun e w'=>e=.returned (.int .u64 n)/\w=w'):
 Calls Tryz.prog 30 #[ptr f] w fun e w'=>e=.returned (.int .u64 n)/\Below w.heap.size w w':=by
 have c0:=(qw hb).1
 have lf:=hb.lt
 replace hF:=Lib.hid hF
 clear hb
 go_enter Tryz.func30,Tryz.ntmps30
 go_wp2_with fail
 refine hF.out.mono ?_
 rintro e w' ⟨rfl,rfl⟩
 go_wp2_with fail
 go_ret
 exact ⟨rfl,Below.refl _ _⟩
theorem vk (h:cA.At w a C):Calls Tryz.prog 30 #[ptr (cA.f a)] w fun e w'=>e=.returned (.int .u64 (cr C))/\Below w.heap.size w w':=by
 obtain ⟨hb,hI,h0⟩:=h
 obtain ⟨F,er,d⟩:=C
 cases F with
 | ref=>exact A8 hb (fun w=>by rw [show a.tv=.iface 176 (ja er) from hI]; exact Mh _ _ w)
 | get G=>exact A8 hb (fun w=>by rw [hI.1]; exact Mc _ _ w)
 | rz R=>exact A8 hb (fun w=>by rw [hI.1]; exact Md _ _ w)
 | put P=>
   rw [hI.1] at hb
   exact Fm hb (fun w=>Mf _ _ w) (Mi _) Mk (Pu.vk hI.2)
 | del D=>
   rw [hI.1] at hb
   exact Fm hb (fun w=>Mg _ _ w) (Mj _) Ml (Dl.vk hI.2)
theorem A9 (h:cA.At w a C):Calls Tryz.prog 53 #[ptr (cA.f a)] w fun e w'=>e=.returned (.tuple #[.agg #[.int .i64 (de C).1,.bool (de C).2.1,.string (de C).2.2],.bool C.done])/\Below w.heap.size w w':=by
 obtain ⟨hb,hI,h0⟩:=h
 obtain ⟨F,er,d⟩:=C
 cases d with
 | false=>exact Mn hb
 | true=>
   refine Mr hb (fun wx hx=>?_)
   cases F with
   | ref=>
     rw [show a.tv=.iface 176 (ja er) from hI]
     exact Ms
   | get G=>
     rw [hI.1]
     exact Mt (fun wy hy=>Gt.Fo (hI.2.below (hx.trans (hy.mono hx.size))))
   | del D=>
     rw [hI.1]
     exact Mu (fun wy hy=>Dl.vm (hI.2.below (hx.trans (hy.mono hx.size))))
   | rz R=>
     rw [hI.1]
     exact Mv (fun wy hy=>(Ba (Fp hI.2 (hx.trans (hy.mono hx.size)))).mono fun e w' q=>⟨q.1,by rw [q.2]; exact Below.refl _ _⟩)
   | put P=>
     rw [hI.1]
     by_cases hp:P.err=0
     ·have:de ⟨.put P,er,true⟩=(0,decide (P.W.found≠0),⟨#[]⟩):=by show (if P.err=0 then _ else _)=_; rw [if_pos hp]
      rw [this]
      refine Fq (fun wy hy=>?_)
      have hP:=hI.2.below (hx.trans (hy.mono hx.size))
      exact Mw (fun wz hz=>(Pu.qx (hP.below hz)).mono (fun e w' q=>⟨by rw [q.1,hp],by rw [<-q.2]; exact Below.refl _ _⟩)) (fun wz hz=>Pu.vm (hP.below hz))
     ·have:de ⟨.put P,er,true⟩=(P.err,false,⟨#[]⟩):=by show (if P.err=0 then _ else _)=_; rw [if_neg hp]
      rw [this]
      refine Fq (fun wy hy=>?_)
      have hP:=hI.2.below (hx.trans (hy.mono hx.size))
      exact My hp (fun wz hz=>(Pu.qx (hP.below hz)).mono (fun e w' q=>⟨q.1,by rw [<-q.2]; exact Below.refl _ _⟩))
end
end Go.Proofs.YtpanebgakndddaaGreat.Ca
namespace Go.Proofs.YtpanebgakndddaaGreat.Ca
open Go Go.RowKit Hp K Fl Rw Hm Ar Mm Me LK Qs Wk Re fk Pc Pn Mq Pu Zp Mx cL Bs Dl Zr jq jr lj
section
variable {W0 w w':World} {M:Mo} {A:Option Addr} {cap:Nat} {l lr:List Pr} {n B G t:Nat} {cs:Nat->List Mq.Hp} {c:Ct} {i:Nat} {a:Cp} {C:Cl}
theorem tI {s:Lm×Cl} (h:eI W0 w M A cap lr) (hP:cA.At w a C) (fS:∀ x,cA.aS a C x->W0.heap.size<=x) (hI:cA.Inv M a C w s w'):∃ M' a',eI W0 w' M' A cap lr/\M'.m=M.m/\lm M'=s.1/\cA.At w' a' s.2/\cA.f a'=cA.f a/\ab (fun x=>ao M x\/cA.aS a C x) w w':=by
 obtain ⟨M',a',r1,r2,r3,r4,r5,r7,r8⟩:=hI
 refine ⟨M',a',h.jt r1 r3.aS r8 (fun x q=>?_) (fun x hx q=>?_),r3.m,r2,r4,r5,r8⟩
 ·rcases q with q | q
  ·exact h.kt x q
  ·exact fS x q
 ·rcases q with q | q
  ·exact h.Bf hx q
  ·exact MB hP q (b9 h.row hx)
def MC (W0 w':World) (M:Mo) (A:Option Addr) (cap:Nat) (lr l:List Pr) (G t:Nat) (c:Ct) (a:Cp):Prop:=
 ∃ (M':Mo) (a':Cp) (C':Cl) (n' B' G':Nat) (cs':Nat->List Mq.Hp),eI W0 w' M' A cap lr/\M'.m=M.m/\cA.At w' a' C'/\cA.f a'=cA.f a/\C'.done=true/\cr C'=0/\M'.ss.length=M.ss.length/\M'.k=M.k/\kr (lm M') (t+1)/\n'<=256/\G'<=G+1/\
   ((di c=0/\c.kind=1/\gm M.ss=none/\de C'=(4,false,⟨#[]⟩)/\Mp (lm M') n' B' cs' l G')\/(¬(di c=0/\c.kind=1/\gm M.ss=none)/\de C'=gz l c/\∀ l',gA l l' c->Mp (lm M') n' B' cs' l' G'))
theorem MD (h:eI W0 w M A cap lr) (hm:Mp (lm M) n B cs l G) (hG:G<=900000) (hl:l.length<=30) (fX:kr (lm M) t) (ht:t<=200) (jA:n<=256) (oS:c.size<=256\/65536<c.size) (hi:(i:Int)<M.k) (hC:jG i c C) (hP:cA.At w a C) (fS:∀ x,cA.aS a C x->W0.heap.size<=x):
 Calls Tryz.prog 58 #[ptr M.m,.iface 75 (ptr (cA.f a)),.int .i64 30000] w fun e w'=>((∃ k:Nat,e=.returned (.tuple #[.int .i64 k,.bool true]))/\ab (fun x=>ao M x\/cA.aS a C x) w w')/\MC W0 w' M A cap lr l G t c a:=by
 have Dw:1<=M.k/\M.k<=8:=hm.k
 have mn:0<=(i:Int)/\(i:Int)<=1000:=by omega
 have pT:kr (lm M) (t+1):=by obtain ⟨u1,u2,u3,u4⟩:=fX; exact ⟨by omega,by omega,u3,by omega⟩
 have eo:2+M.k<=B:=hm.kB
 have hlen:M.ss.length<=1024:=hm.small.2
 have kJ:∀ b,b<n->(cs b).length<=1024:=fun b hb=>by have:=(Mp.x6 hm).1 b hb; have e:(lm M).ss.length=M.ss.length:=rfl; omega
 obtain ⟨c1,c2,c3,c4⟩:=hC
 by_cases h0:di c=0
 case neg=>
  have bX:=c3 h0
  have eC:C=⟨.ref,di c,false⟩:=by cases C; simp only at c1 c2 bX; rw [c1,c2,bX]
  subst eC
  refine (mN qz h.mem hP (fun k s=>k=1/\s=(lm M,(⟨.ref,di c,false⟩:Cl))) (fun s=>s=(lm M,(⟨.ref,di c,true⟩:Cl))) (fun k s hs=>by
   obtain ⟨rfl,rfl⟩:=hs
   exact ⟨trivial,rfl,Nat.le_refl _,fun _=>rfl,fun q=>by simp [eA] at q⟩) 1 30000 ⟨rfl,rfl⟩ (by omega) (by omega)).mono fun e w' q=>?_
  obtain ⟨k,s,q1,_,q4,hI⟩:=q
  obtain ⟨M',a',g1,g2,g3,g4,g5,g6⟩:=tI h hP fS hI
  rw [q4] at g3 g4
  have e1:M'.ss=M.ss:=congrArg Lm.ss g3
  have e2:M'.k=M.k:=congrArg Lm.k g3
  refine ⟨⟨⟨k,q1⟩,g6⟩,M',a',_,n,B,G,cs,g1,g2,g4,g5,rfl,rfl,by rw [e1],e2,by rw [g3]; exact pT,jA,by omega,.inr ⟨fun q=>h0 q.1,?_,fun l' cE=>?_⟩⟩
  ·unfold gz; rw [if_pos h0]; rfl
  ·unfold gA at cE
   rw [if_neg (fun q=>h0 q.1),if_neg (fun q=>h0 q.1)] at cE
   rw [cE,g3]; exact hm
 obtain ⟨k0,k1,k2,k3⟩:=c4 h0
 have wG:c.kind=0\/c.kind=1\/c.kind=2\/c.kind=3:=by
  unfold di at h0
  split at h0
  ·omega
  ·omega
 rcases wG with hk | hk | hk | hk
 ·
  have bX:=k0 hk
  have eC:C=⟨.get (Gt.mK i c.key),0,false⟩:=by cases C; simp only at c1 c2 bX; rw [c1,c2,bX,h0]
  subst eC
  obtain ⟨hE,cw⟩:=ME hm c.key hi
  have hq:=kJ (aj c.key n) (dI hm.pw c.key).1
  refine (mN qz h.mem hP (fun k s=>∃ P d,s.2=(⟨.get P,0,d⟩:Cl)/\Gt.Rg ⟨M.ds,M.ss,M.xs,M.F,c.key,i,bp (cs (aj c.key n)),(cs (aj c.key n)).length⟩ (lm M) k (s.1,P)) (fun s=>∃ P,s.2=(⟨.get P,0,true⟩:Cl)/\Gt.Qg ⟨M.ds,M.ss,M.xs,M.F,c.key,i,bp (cs (aj c.key n)),(cs (aj c.key n)).length⟩ (lm M) (s.1,P))
   (Fu (fun k s hs=>Gt.Rg.step hE ⟨rfl,rfl,rfl,rfl⟩ hs) 0) (5+(cs (aj c.key n)).length) 30000 ⟨_,_,rfl,0,Gt.Gv.begin hE,by simp only; omega,rfl,rfl,rfl,rfl,rfl⟩ (by omega) (by omega)).mono fun e w' q=>?_
  obtain ⟨k,s,q1,_,⟨P,q4,q5,q6⟩,hI⟩:=q
  obtain ⟨M',a',g1,g2,g3,g4,g5,g6⟩:=tI h hP fS hI
  have g3:lm M'=lm M:=g3.trans q5
  rw [q4] at g4
  have e1:M'.ss=M.ss:=congrArg Lm.ss g3
  have e2:M'.k=M.k:=congrArg Lm.k g3
  have q6:Gt.Fits (Pc.lk (bp (cs (aj c.key n))) c.key) P.W:=q6
  rw [cw] at q6
  refine ⟨⟨⟨k,q1⟩,g6⟩,M',a',_,n,B,G,cs,g1,g2,g4,g5,rfl,rfl,by rw [e1],e2,by rw [g3]; exact pT,jA,by omega,.inr ⟨fun q=>by omega,?_,fun l' cE=>?_⟩⟩
  ·unfold gz
   rw [if_neg (by omega),if_pos hk]
   show ((0:Int),decide (P.W.found≠0),P.W.nd.val)=_
   rw [q6.1,q6.2]
  ·unfold gA at cE
   rw [if_neg (fun q=>by omega),if_neg (fun q=>by omega)] at cE
   rw [cE,g3]; exact hm
 ·
  obtain ⟨hh,bX⟩:=k1 hk
  have eC:C=⟨.put (Pu.jS hh i c.key c.val),0,false⟩:=by cases C; simp only at c1 c2 bX; rw [c1,c2,bX,h0]
  subst eC
  have hE:=hm.rP (key:=c.key) (val:=c.val) (i:=i) (hb:=hh) (by omega) mn
  have hq:=kJ (aj c.key n) (dI hm.pw c.key).1
  refine (mN qz h.mem hP (fun k s=>∃ P d,s.2=(⟨.put P,0,d⟩:Cl)/\Rq (Mp.ep (lm M) n B cs c.key c.val i hh) k (s.1,P)) (fun s=>∃ P,s.2=(⟨.put P,0,true⟩:Cl)/\Qp (Mp.ep (lm M) n B cs c.key c.val i hh) (s.1,P))
   (Fs (fun k s hs=>by
     obtain ⟨j,hj,hr⟩:=hs
     obtain ⟨h1,h2,h3,h4⟩:=hr.step hE
     refine ⟨hr.ok hE,h1,by omega,h3,fun hd=>?_⟩
     obtain ⟨j',sR,nS⟩:=h4 hd
     exact ⟨j',by omega,nS⟩) 0) (8+(cs (aj c.key n)).length) 30000 ⟨_,_,rfl,(Rp.s (E:=Mp.ep (lm M) n B cs c.key c.val i hh) (4+(cs (aj c.key n)).length) _ _ .a1).q (by omega)⟩ (by omega) (by omega)).mono fun e w' q=>?_
  obtain ⟨k,s,q1,_,⟨P,q4,q5⟩,hI⟩:=q
  obtain ⟨M',a',g1,g2,g3,g4,g5,g6⟩:=tI h hP fS hI
  obtain ⟨m1,m2,m3⟩:=Bd hm (by omega) mn q5
  have qT:=FB (by show B+aj c.key n≠0; omega) q5
  have qT:Cz (lm M) s.1:=qT
  rw [q4] at g4
  rw [<-g3] at qT
  simp only at m1 m2 m3
  rcases m3 with ⟨p1,p2,p3⟩ | ⟨p1,p2,p3,p4,p5,cs',p6⟩
  ·have g3:lm M'=lm M:=g3.trans p2
   have e1:M'.ss=M.ss:=congrArg Lm.ss g3
   have e2:M'.k=M.k:=congrArg Lm.k g3
   refine ⟨⟨⟨k,q1⟩,g6⟩,M',a',_,n,B,G,cs,g1,g2,g4,g5,rfl,m2,by rw [e1],e2,by rw [g3]; exact pT,jA,by omega,.inl ⟨h0,hk,p1,?_,by rw [g3]; exact hm⟩⟩
   show (if P.err=0 then ((0:Int),decide (P.W.found≠0),(⟨#[]⟩:ByteArray)) else (P.err,false,⟨#[]⟩))=_
   rw [p3,if_neg (by omega)]
  ·have e1:M'.ss=s.1.ss:=by rw [<-g3]
   have e2:M'.k=s.1.k:=by rw [<-g3]
   refine ⟨⟨⟨k,q1⟩,g6⟩,M',a',_,n,B,G+1,cs',g1,g2,g4,g5,rfl,m2,by rw [e1]; exact p4,by rw [e2]; exact p5,ye fX qT,jA,by omega,.inr ⟨fun q=>?_,?_,fun l' cE=>?_⟩⟩
   ·have q3:gm (lm M).ss=none:=q.2.2
    rw [q3] at p1
    simp at p1
   ·unfold gz
    rw [if_neg (by omega),if_neg (by omega),if_pos hk]
    show (if P.err=0 then ((0:Int),decide (P.W.found≠0),(⟨#[]⟩:ByteArray)) else (P.err,false,⟨#[]⟩))=_
    rw [if_pos p2,m1]
   ·unfold gA at cE
    rw [if_pos ⟨h0,hk⟩] at cE
    rw [g3]
    exact p6 l' (FC hm.ln cE)
 ·
  obtain ⟨hh,bX⟩:=k2 hk
  have eC:C=⟨.del (Dl.ku hh i c.key),0,false⟩:=by cases C; simp only at c1 c2 bX; rw [c1,c2,bX,h0]
  subst eC
  have hE:=hm.rP (key:=c.key) (val:=⟨#[]⟩) (i:=i) (hb:=hh) (by omega) mn
  have hq:=kJ (aj c.key n) (dI hm.pw c.key).1
  refine (mN qz h.mem hP (fun k s=>∃ P d,s.2=(⟨.del P,0,d⟩:Cl)/\Dl.tG (Mp.ep (lm M) n B cs c.key ⟨#[]⟩ i hh) k (s.1,P)) (fun s=>∃ P,s.2=(⟨.del P,0,true⟩:Cl)/\Dl.Qd (Mp.ep (lm M) n B cs c.key ⟨#[]⟩ i hh) (s.1,P))
   (Ft (fun k s hs=>by
     obtain ⟨j,hj,hr⟩:=hs
     obtain ⟨h1,h2,h3,h4⟩:=Dl.Rd.step hE hr
     refine ⟨Dl.Rd.ok hE hr,h1,by omega,h3,fun hd=>?_⟩
     obtain ⟨j',sR,nS⟩:=h4 hd
     exact ⟨j',by omega,nS⟩) 0) (7+(cs (aj c.key n)).length) 30000 ⟨_,_,rfl,(Dl.Rd.s (E:=Mp.ep (lm M) n B cs c.key ⟨#[]⟩ i hh) (4+(cs (aj c.key n)).length) _ _ .a1).q (by omega)⟩ (by omega) (by omega)).mono fun e w' q=>?_
  obtain ⟨k,s,q1,_,⟨P,q4,W,hf,hz,q5⟩,hI⟩:=q
  obtain ⟨M',a',g1,g2,g3,g4,g5,g6⟩:=tI h hP fS hI
  obtain ⟨m1,m2,m3,cs',m4⟩:=Be hm hf
  injection q5 with q5 q6
  have hd:lm M'=gO (lm M) (B+aj c.key n) W:=g3.trans q5
  have cw:=tH hm hf
  have ux:=yd hm hf hz
  rw [q4] at g4
  have q6:P=Dl.Ep.t (Mp.ep (lm M) n B cs c.key ⟨#[]⟩ i hh) 7 {Ep.H (Mp.ep (lm M) n B cs c.key ⟨#[]⟩ i hh) with holds:=false} W 0:=q6
  have e1:M'.ss=(lm M').ss:=rfl
  have e2:M'.k=(lm M').k:=rfl
  refine ⟨⟨⟨k,q1⟩,g6⟩,M',a',_,n,B,G,cs',g1,g2,g4,g5,rfl,by rw [q6]; rfl,by rw [e1,hd,m2],by rw [e2,hd,m3],ye fX (by rw [hd]; exact FD (by omega)),jA,by omega,.inr ⟨fun q=>by omega,?_,fun l' cE=>?_⟩⟩
  ·unfold gz
   rw [if_neg (by omega),if_neg (by omega),if_neg (by omega),if_pos hk]
   show ((0:Int),decide (P.W.found≠0),P.W.nd.val)=_
   rw [q6]
   show ((0:Int),decide (W.found≠0),W.nd.val)=_
   rw [cw,ux]
  ·unfold gA at cE
   rw [if_neg (fun q=>by omega),if_pos ⟨h0,hk⟩] at cE
   rw [hd]
   exact m4 l' (FE hm.ln cE)
 ·
  have bX:=k3 hk
  have eC:C=⟨.rz (Zr.bR i c.size),0,false⟩:=by cases C; simp only at c1 c2 bX; rw [c1,c2,bX,h0]
  subst eC
  cases hp:FM.bo c.size with
  | false=>
    refine (mN qz h.mem hP (fun k s=>∃ P d,s.2=(⟨.rz P,0,d⟩:Cl)/\k=1/\(s.1,P)=(lm M,Zr.bR i c.size)) (fun s=>∃ P,s.2=(⟨.rz P,0,true⟩:Cl)/\(s.1,P)=(lm M,{Zr.bR i c.size with err:=5,nx:=12}))
     (yc (R:=fun k s=>k=1/\s=(lm M,Zr.bR i c.size)) (Q:=fun s=>s=(lm M,{Zr.bR i c.size with err:=5,nx:=12})) (fun k s hs=>Fz hm hp k s hs) 0) 1 30000 ⟨_,_,rfl,rfl,rfl⟩ (by omega) (by omega)).mono fun e w' q=>?_
    obtain ⟨k,s,q1,_,⟨P,q4,q5⟩,hI⟩:=q
    obtain ⟨M',a',g1,g2,g3,g4,g5,g6⟩:=tI h hP fS hI
    injection q5 with q5 q6
    have g3:lm M'=lm M:=g3.trans q5
    rw [q4] at g4
    have e1:M'.ss=M.ss:=congrArg Lm.ss g3
    have e2:M'.k=M.k:=congrArg Lm.k g3
    refine ⟨⟨⟨k,q1⟩,g6⟩,M',a',_,n,B,G,cs,g1,g2,g4,g5,rfl,rfl,by rw [e1],e2,by rw [g3]; exact pT,jA,by omega,.inr ⟨fun q=>by omega,?_,fun l' cE=>?_⟩⟩
    ·unfold gz
     rw [if_neg (by omega),if_neg (by omega),if_neg (by omega),if_neg (by omega),if_neg (by rw [hp]; simp)]
     show (P.err,false,(⟨#[]⟩:ByteArray))=_
     rw [q6]
    ·unfold gA at cE
     rw [if_neg (fun q=>by omega),if_neg (fun q=>by omega)] at cE
     rw [cE,g3]; exact hm
  | true=>
    have cO:=FM.eW hp
    obtain ⟨z,hz⟩:=Int.eq_ofNat_of_zero_le (show 0<=c.size by omega)
    have zA:z<=256:=by omega
    rw [hz] at hp hP fS
    obtain ⟨cc,x,tt,ca,hw,hc,hx,wJ,sP⟩:=MF l.length n z hl hm.pw hp jA zA
    have na:=Fv hm (by omega) hl fX ht hp hw hc hx wJ sP mn
    refine (mN qz h.mem hP (fun k s=>∃ P d,s.2=(⟨.rz P,0,d⟩:Cl)/\Lone (lm M) (bE n cs) ⟨10+512*(t+1),1+8*(t+1),1+20000*((t:Int)+1)⟩ z l k (s.1,P)) (fun s=>∃ P,s.2=(⟨.rz P,0,true⟩:Cl)/\Qr (lm M) (bE n cs) ⟨10+512*(t+1),1+8*(t+1),1+20000*((t:Int)+1)⟩ z l s.1 P/\∀ i:Nat,(i:Int)<s.1.k->Cl.nth s.1.xs (2+i)=0)
     (yc (R:=Lone (lm M) (bE n cs) ⟨10+512*(t+1),1+8*(t+1),1+20000*((t:Int)+1)⟩ z l) (Q:=fun s=>Qr (lm M) (bE n cs) ⟨10+512*(t+1),1+8*(t+1),1+20000*((t:Int)+1)⟩ z l s.1 s.2/\∀ i:Nat,(i:Int)<s.1.k->Cl.nth s.1.xs (2+i)=0) (fun k s hs=>hs.step) 0) (cc+10) 30000 ⟨_,_,rfl,na⟩ (by omega) (by omega)).mono fun e w' q=>?_
    obtain ⟨k,s,q1,_,⟨P,q4,q5,q6⟩,hI⟩:=q
    obtain ⟨M',a',g1,g2,g3,g4,g5,g6⟩:=tI h hP fS hI
    obtain ⟨p1,⟨B',cs',p2⟩,p3,p4,p5,p6⟩:=Fx hm q5 q6
    rw [q4] at g4
    rw [<-g3] at p2 p3 p4 p6
    refine ⟨⟨⟨k,q1⟩,by rw [hz]; exact g6⟩,M',a',_,z,B',G,cs',g1,g2,g4,g5,rfl,rfl,p3,p4,p6,zA,by omega,.inr ⟨fun q=>by omega,?_,fun l' cE=>?_⟩⟩
    ·unfold gz
     rw [if_neg (by omega),if_neg (by omega),if_neg (by omega),if_neg (by omega),hz,if_pos hp]
     show (P.err,false,(⟨#[]⟩:ByteArray))=_
     rw [p1]
    ·unfold gA at cE
     rw [if_neg (fun q=>by omega),if_neg (fun q=>by omega)] at cE
     rw [cE]; exact p2
end
end Go.Proofs.YtpanebgakndddaaGreat.Ca
namespace Go.Proofs.YtpanebgakndddaaGreat.Ca
open Go Go.RowKit Hp K Fl Rw Hm Ar Mm Me LK Qs Wk Re fk Pc Pn Mq Pu Zp Mx cL Bs Dl Zr jq jr lj
set_option maxRecDepth 100000
theorem Rv {i:Nat} {c:Ct} {C:Cl} (h:jG i c C):C.done=false/\de C=(0,false,⟨#[]⟩):=⟨h.1,by unfold de; rw [h.1]; rfl⟩
def H7 (W0 w':World) (M:Mo) (A:Option Addr) (cap:Nat) (lr l:List Pr) (G t:Nat) (c:Ct) (x:Int×Bool×ByteArray):Prop:=
 ∃ (M':Mo) (n' B' G':Nat) (cs':Nat->List Mq.Hp),eI W0 w' M' A cap lr/\M'.m=M.m/\M'.ss.length=M.ss.length/\M'.k=M.k/\kr (lm M') (t+1)/\n'<=256/\G'<=G+1/\
   ((di c=0/\c.kind=1/\gm M.ss=none/\x=(4,false,⟨#[]⟩)/\Mp (lm M') n' B' cs' l G')\/(¬(di c=0/\c.kind=1/\gm M.ss=none)/\x=gz l c/\∀ l',gA l l' c->Mp (lm M') n' B' cs' l' G'))
set_option maxHeartbeats 4000000 in
theorem E7 {W0 w:World} {M:Mo} {A:Option Addr} {cap:Nat} {l lr:List Pr} {n B G t:Nat} {cs:Nat->List Mq.Hp} {c:Ct} {i:Nat} (h:eI W0 w M A cap lr) (hm:Mp (lm M) n B cs l G) (hG:G<=900000) (hl:l.length<=30) (fX:kr (lm M) t) (ht:t<=200) (jA:n<=256) (oS:c.size<=256\/65536<c.size) (hi:(i:Int)<M.k) (hk:c.key.size<=maxLen):
 Calls Tryz.prog 39 #[ptr M.m,.int .i64 i,pg c] w fun e w'=>∃ x,e=.returned (.tuple #[xZ x,.bool true])/\H7 W0 w' M A cap lr l G t c x/\ab (ao M) w w':=by
 obtain ⟨w1,aP⟩:∃ w1,w1=w.alloc (.cells #[.int .i64 c.kind,.string c.key,.string c.val,.int .i64 c.size] 31):=⟨_,rfl⟩
 obtain ⟨w2,bl⟩:∃ w2,w2=w1.alloc (.cells #[.int .i64 0,.bool false,.string ⟨#[]⟩] 44):=⟨_,rfl⟩
 have b1:af w1 w.heap.size 31 #[.int .i64 c.kind,.string c.key,.string c.val,.int .i64 c.size]:=by rw [aP]; exact af.made w _ _
 have d1:Below w.heap.size w w1:=by rw [aP]; exact below_1 _ _
 have b2:af w2 w1.heap.size 44 #[.int .i64 0,.bool false,.string ⟨#[]⟩]:=by rw [bl]; exact af.made w1 _ _
 have d2:Below w1.heap.size w1 w2:=by rw [bl]; exact below_1 _ _
 have b12:=b1.only (ab.aD d2 (fun _=>False)) (by simp)
 have Ak:w.heap.size<=w1.heap.size:=d1.size
 have hd:=d1.trans (d2.mono d1.size)
 obtain ⟨p,hp⟩:∃ p,p=w.heap.size:=⟨_,rfl⟩
 have oV:w1.heap.size=w.heap.size+1:=by rw [aP]; exact Array.size_push _
 obtain ⟨q,uv⟩:∃ q,q=w1.heap.size:=⟨_,rfl⟩
 have hq:q=p+1:=by omega
 rw [<-hp] at b12
 rw [<-uv] at b2
 have p0:=b12.cell 0
 have p1:=b12.cell 1
 have p2:=b12.cell 2
 have p3:=b12.cell 3
 simp at p0 p1 p2 p3
 have lp:=b12.lt
 have S2:=h.down hd
 have iA:=Lib.hid S2.below.size
 have En:=Lib.hid hd
 have iN:w.heap.size<=q:=by omega
 have HM:=Lib.hid S2.mem
 have Wm:W0.heap.size<=q:=by have:=h.below.size; omega
 have fC:=Lib.hid (fun w=>FN i c hk w)
 have zX:=Lib.hid (fun w3 a C (hb:Below w2.heap.size w2 w3) (hI:jG i c C) (hP:cA.At w3 a C) (aW:∀ x,cA.aS a C x->w2.heap.size<=x)=>MD (S2.down hb) hm hG hl fX ht jA oS hi hI hP (fun x hx=>Nat.le_trans S2.below.size (aW x hx)))
 replace b2:=Lib.hid b2
 unfold pg
 unfold pg at fC
 clear h hm fX hd S2 b1 d1 d2 b12 Ak hk oS
 go_enter Tryz.func39,Tryz.ntmps39
 go_upto_region 1 with (fail)
 rw [<-aP,<-bl,<-hp,<-hq]
 clear aP bl hp hq uv oV
 go_wp2_with fail
 refine (fC.out _).mono ?_
 rintro e w3 ⟨a,C,rfl,hI,hP,aW,ba⟩
 have eO:=Lib.hid (fun w4 (hb:Below w3.heap.size w3 w4)=>zX.out w4 a C (ba.trans (hb.mono ba.size)) hI (qz.below hP hb) aW)
 obtain ⟨i1,i2⟩:=Rv hI
 have hR:=A9 hP
 rw [i1,i2] at hR
 have Wn:=b2.out.only (ab.aD ba (fun _=>False)) (by simp)
 replace hR:=Lib.hid hR
 go_wp2_with fail
 refine hR.out.mono ?_
 rintro e w4 ⟨rfl,fE⟩
 go_wp2_with fail
 have gb:Below w3.heap.size w3 (w4.alloc (.cells #[.int .i64 0,.bool false,.string ⟨#[]⟩] 44)):=fE.alloc fE.size _
 have KH:=eO.out _ gb
 have Eo:=b2.out.only (ab.aD (ba.trans (gb.mono ba.size)) (fun _=>False)) (by simp)
 generalize w4.alloc (.cells #[.int .i64 0,.bool false,.string ⟨#[]⟩] 44)=w5 at*
 refine KH.mono ?_
 rintro e w6 ⟨⟨⟨k,rfl⟩,hO⟩,M',a',C',n',B',G',cs',s1,s2,s3,s4,s5,s6,s7,s8,s9,s10,s11,s12⟩
 have pW:q<w2.heap.size:=b2.out.lt
 have Er:=Eo.only hO (fun g=>by
  rcases g with g | g
  ·exact (HM.out.below (ba.trans (gb.mono ba.size))).ty g |>.apart (aV Eo) (by decide)
  ·have:=aW q g; omega)
 have Wq:ab (ao M) w w6:=(ab.aD (En.out.trans ((ba.trans (gb.mono ba.size)).mono En.out.size)) (ao M)).trans' hO (fun x hx g=>g.elim id (fun g=>by have:=aW x g; have:=En.out.size; omega))
 have xL:=vk s3
 rw [s6,s4] at xL
 have uH:=Lib.hid (fun wx (hb:Below w6.heap.size w6 wx)=>by
  have:=A9 (qz.below s3 hb)
  rw [s4,s5] at this
  exact this)
 have iP:=Lib.hid (fun wx (hb:Below w6.heap.size w6 wx) u1 u2 u3=>show H7 W0 (((wx.setCell ⟨q,0,none⟩ u1).setCell ⟨q,1,none⟩ u2).setCell ⟨q,2,none⟩ u3) M A cap lr l G t c (de C')/\ab (ao M) w (((wx.setCell ⟨q,0,none⟩ u1).setCell ⟨q,1,none⟩ u2).setCell ⟨q,2,none⟩ u3) from by
  have KI:=Er.only (ab.aD hb (fun _=>False)) (by simp)
  have aq:=(((ab.refl (·=q) wx).setCell (p:=⟨q,0,none⟩) (.inl rfl) u1).setCell (p:=⟨q,1,none⟩) (.inl rfl) u2).setCell (p:=⟨q,2,none⟩) (.inl rfl) u3
  have sx:=s1.down hb
  refine ⟨⟨M',n',B',G',cs',sx.jt (sx.mem.only aq (fun x hx e=>by subst e; exact (sx.mem.ty hx).apart (aV KI) (by decide))) (fun x hx=>.inl hx) aq (fun x e=>by subst e; exact Wm) (fun x hx e=>by subst e; exact sx.apart hx (by decide) (aV KI)),s2,s7,s8,s9,s10,s11,s12⟩,(Wq.below hb).trans' aq (fun x hx e=>by subst e; omega)⟩)
 have hQ:=Lib.hid (fun wx (hb:Below w6.heap.size w6 wx)=>Er.only (ab.aD hb (fun _=>False)) (by simp))
 generalize de C'=x at*
 replace xL:=Lib.hid xL
 clear KH eO Eo Er s1 s2 s3 s4 s5 s6 s7 s8 s9 s10 s11 s12 hO aW ba fE gb Wn hI hP hR fC zX p0 p1 p2 p3 lp HM i1 i2
 go_wp2_with fail
 refine xL.out.mono ?_
 rintro e w7 ⟨rfl,m6⟩
 have KJ:=Lib.hid (uH.out w7 m6)
 replace m6:=Lib.hid m6
 clear xL uH
 go_wp2_with fail
 refine KJ.out.mono ?_
 rintro e w8 ⟨rfl,oR⟩
 have Es:=m6.out.trans (oR.mono m6.out.size)
 have rB:=hQ.out w8 Es
 have f0:=rB.cell 0
 have f1:=rB.cell 1
 have f2:=rB.cell 2
 have z0:=rB.frozen 0
 have z1:=rB.frozen 1
 have z2:=rB.frozen 2
 simp at f0 f1 f2
 have lq:=rB.lt
 have Wu:=Lib.hid (iP.out w8 Es (.int .i64 x.1) (.bool x.2.1) (.string x.2.2))
 clear KJ iP hQ m6 oR Es rB b2
 go_wp2_with fail
 refine bodyPost_ret (v:=.tuple #[.agg #[.int .i64 x.1,.bool x.2.1,.string x.2.2],.bool true]) (by simp [results,Tryz.results39,go_sem,f0,f1,f2]) rfl ⟨x,rfl,Wu.out⟩
end Go.Proofs.YtpanebgakndddaaGreat.Ca
namespace Go.Proofs.YtpanebgakndddaaGreat.cL
open Go Go.RowKit Hp K Fl Rw Hm Ar Mm Me LK Qs Wk Pc Pn Mq Zp Mx Gw fk
set_option maxRecDepth 100000
theorem qx {w:World} {a:Gl} {G:Gr} (h:bT w a G):Calls Tryz.prog 86 #[ptr a.f] w fun e w'=>e=.returned (.int .i64 G.err)/\w=w':=by
 have c:=(rY h.an).2.2.2.1
 clear h
 go_enter Tryz.func86,Tryz.ntmps86
 go_wp2_with fail
 go_ret
 exact ⟨rfl,rfl⟩
/-! ### the example's steps are eight-/
def L0:Lm:=⟨[1,0,0,0],List.replicate 6 (-1),[.zero],false,1,[(1,3)],[]⟩
def it:Nat->Lm×Gr
 | 0=>(L0,iJ 0)
 | n+1=>aF (it n).1 (it n).2
def g1:Gr:={iJ 0 with el:=(1,3),nx:=2}
def L2:Lm:={L0 with xs:=[1,0,0,0,0,0],ds:=[(1,3),(2,4)]}
def g2:Gr:={g1 with num:=1,err:=0,nw:=(2,4),nx:=3}
def g3:Gr:={g2 with half:=2,bucket:=1,nx:=6}
def L4:Lm:={L2 with xs:=[1,1,0,0,0,0]}
def g4:Gr:={g3 with W:=⟨0,0,0,0⟩,nx:=7}
def L5:Lm:={L4 with hs:=0::List.replicate 5 (-1)}
def g5:Gr:={g4 with W:=⟨0,1,0,0⟩}
def L6:Lm:={L5 with xs:=[2,1,0,0,0,0]}
def g6:Gr:={g5 with W:=⟨0,2,2,0⟩}
def g7:Gr:={g6 with W:=⟨0,3,2,1⟩}
def L8:Lm:={L6 with hs:=List.replicate 6 (-1)}
def g8:Gr:={g7 with W:=⟨0,4,2,1⟩,nx:=9}
theorem I7:it 1=(L0,g1):=by kernel_rfl
theorem I8:it 2=(L2,g2):=by
 show aF (it 1).1 (it 1).2=_
 rw [I7]; kernel_rfl
theorem I9:it 3=(L2,g3):=by
 show aF (it 2).1 (it 2).2=_
 rw [I8]; kernel_rfl
theorem Ja:it 4=(L4,g4):=by
 show aF (it 3).1 (it 3).2=_
 rw [I9]; kernel_rfl
theorem Jb:it 5=(L5,g5):=by
 show aF (it 4).1 (it 4).2=_
 rw [Ja]; kernel_rfl
theorem Jd:it 6=(L6,g6):=by
 show aF (it 5).1 (it 5).2=_
 rw [Jb]; kernel_rfl
theorem Je:it 7=(L6,g7):=by
 show aF (it 6).1 (it 6).2=_
 rw [Jd]; kernel_rfl
theorem UC:it 8=(L8,g8):=by
 show aF (it 7).1 (it 7).2=_
 rw [Je]; kernel_rfl
theorem qP {L:Lm} {G:Gr} (h1:1<=G.nx/\G.nx<=8) (h2:1<L.xs.length/\0<L.hs.length/\L.ds.length<=900000) (h3:G.nx≠1->G.el.1<=65536/\G.el.2<=4000000) (h4:G.bucket<=1000000) (h5:G.pass.length<=100000/\G.later.length<=100000) (h6:G.later=[])
 (h7:G.nx=3->G.el.2+G.bucket<L.xs.length) (h8:G.nx=6->0<=G.num/\G.num<=1000000) (h9:G.nx=7->0<=L.k/\Qs.eB L.k.toNat L.xs L.hs G.W) (n4:G.nx≠4) (n5:G.nx≠5) (n8:G.nx≠8):pF L G:=
 ⟨h1,h2.1,h2.2.1,h2.2.2,h3,h4,h5,fun _=>h6,h7,fun q=>absurd q n4,fun q=>absurd q n5,h8,h9,fun q=>absurd q n8⟩
theorem zi {L:Lm} {W:Wt} (hk:L.k=1) (h1:W.at_<=3) (h2:W.worker=0) (h3:0<L.hs.length) (h4:3<=L.xs.length) (h5:W.bm<=1000/\(W.at_<=2->W.bm<1)) (h6:W.at_≠0->Lo.aE L.hs 0=0):0<=L.k/\Qs.eB L.k.toNat L.xs L.hs W:=by
 rw [hk]
 exact ⟨by omega,⟨by decide,h1,by omega,h3,h4,h5,by rw [h2]; exact h6⟩⟩
theorem AT (j:Nat) (hj:j<=7):pF (it j).1 (it j).2/\kW (it j).1 (it j).2=true/\ck (it j).1 (it j).2=decide (j=7):=by
 have:j=0\/j=1\/j=2\/j=3\/j=4\/j=5\/j=6\/j=7:=by omega
 rcases this with rfl | rfl | rfl | rfl | rfl | rfl | rfl | rfl
 ·exact ⟨qP (by decide) (by decide) (by decide) (by decide) (by decide) rfl (by decide) (by decide) (fun q=>absurd q (by decide)) (by decide) (by decide) (by decide),by kernel_rfl,by kernel_rfl⟩
 ·rw [I7]; exact ⟨qP (by decide) (by decide) (by decide) (by decide) (by decide) rfl (by decide) (by decide) (fun q=>absurd q (by decide)) (by decide) (by decide) (by decide),by kernel_rfl,by kernel_rfl⟩
 ·rw [I8]; exact ⟨qP (by decide) (by decide) (by decide) (by decide) (by decide) rfl (by decide) (by decide) (fun q=>absurd q (by decide)) (by decide) (by decide) (by decide),by kernel_rfl,by kernel_rfl⟩
 ·rw [I9]; exact ⟨qP (by decide) (by decide) (by decide) (by decide) (by decide) rfl (by decide) (by decide) (fun q=>absurd q (by decide)) (by decide) (by decide) (by decide),by kernel_rfl,by kernel_rfl⟩
 ·rw [Ja]; exact ⟨qP (by decide) (by decide) (by decide) (by decide) (by decide) rfl (by decide) (by decide) (fun _=>zi rfl (by decide) rfl (by decide) (by decide) (by decide) (by decide)) (by decide) (by decide) (by decide),by kernel_rfl,by kernel_rfl⟩
 ·rw [Jb]; exact ⟨qP (by decide) (by decide) (by decide) (by decide) (by decide) rfl (by decide) (by decide) (fun _=>zi rfl (by decide) rfl (by decide) (by decide) (by decide) (by decide)) (by decide) (by decide) (by decide),by kernel_rfl,by kernel_rfl⟩
 ·rw [Jd]; exact ⟨qP (by decide) (by decide) (by decide) (by decide) (by decide) rfl (by decide) (by decide) (fun _=>zi rfl (by decide) rfl (by decide) (by decide) (by decide) (by decide)) (by decide) (by decide) (by decide),by kernel_rfl,by kernel_rfl⟩
 ·rw [Je]; exact ⟨qP (by decide) (by decide) (by decide) (by decide) (by decide) rfl (by decide) (by decide) (fun _=>zi rfl (by decide) rfl (by decide) (by decide) (by decide) (by decide)) (by decide) (by decide) (by decide),by kernel_rfl,by kernel_rfl⟩
theorem UD {W0 a b:World} {M:Mo} {g:Gl} {G:Gr} (ha:Below W0.heap.size W0 a) (aW:∀ x,ao M x->W0.heap.size<=x) (hg:∀ x,bu g G x->W0.heap.size<=x) (ho:ab (fun x=>ao M x\/bu g G x) a b):Below W0.heap.size W0 b:=
 ha.trans (ho.toBelow ha.size (fun x hx q=>by
  rcases q with q | q
  ·have:=aW x q; omega
  ·have:=hg x q; omega))
set_option maxHeartbeats 2000000 in
theorem ey (w:World):Calls Tryz.prog 61 #[] w fun e w'=>e=.returned (.bool true)/\Below w.heap.size w w':=by
 have hN:=Lib.hid (mJ 1 1 w (by omega) (by omega))
 have hA:=Lib.hid (fun w=>jq.ey w)
 have pY:=Lib.hid (fun w=>GU 0 w)
 go_enter Tryz.func61,Tryz.ntmps61
 go_wp2_with fail
 refine hN.out.mono ?_
 rintro e w1 ⟨M,rfl,hM,aW,hB,h1,h2,h3,h4,h5,h6,h7⟩
 have hL:lm M=L0:=by
  unfold lm L0
  rw [h1,h2,h3,h4,h5,h6,h7]
  rfl
 replace hL:=Lib.hid hL
 replace hM:=Lib.hid hM
 replace aW:=Lib.hid aW
 replace hB:=Lib.hid hB
 clear hN h1 h2 h3 h4 h5 h6 h7
 go_wp2_with fail
 refine (pY.out _).mono ?_
 rintro e w2 ⟨a,rfl,dm,wU,ag⟩
 have aB:=hM.out.below ag
 have fL:=Lib.hid (hB.out.trans (ag.mono hB.out.size))
 have sY:=Lib.hid (fun x hx=>Nat.le_trans hB.out.size (wU x hx))
 have mx:=mN pG aB (show dJ.At w2 a (iJ 0) from dm) (fun k s=>∃ j,j+k=8/\j<=7/\s=it j) (fun s=>s=it 8) (fun k s hs=>by
  obtain ⟨j,h1,h2,rfl⟩:=hs
  obtain ⟨a1,a2,a3⟩:=AT j h2
  refine ⟨a1,a2,by omega,fun hd=>?_,fun hd=>⟨j+1,by omega,?_,rfl⟩⟩
  ·rw [a3] at hd
   have:j=7:=of_decide_eq_true hd
   subst this
   rfl
  ·rw [a3] at hd
   have:¬j=7:=of_decide_eq_false hd
   omega) 8 100 ⟨0,by omega,by omega,by rw [hL.out]; rfl⟩ (by omega) (by omega)
 have aQ:Hid (Calls Tryz.prog 58 #[ptr M.m,.iface 167 (ptr a.f),.int .i64 100] w2 fun e w'=>∃ (n:Nat) (M':Mo) (a':Gl),e=.returned (.tuple #[.int .i64 n,.bool true])/\ah w' M'/\lm M'=L8/\M'.m=M.m/\bT w' a' g8/\a'.f=a.f/\Below w.heap.size w w'):=Lib.hid (mx.mono fun e w' q=>by
  obtain ⟨n,s,q1,_,q2,M',a',r1,r2,r3,r4,r5,r6,r7⟩:=q
  rw [q2,UC] at r2 r4
  exact ⟨n,M',a',q1,r1,r2,r3.m,r4,r5,UD fL.out aW.out sY.out r7⟩)
 clear mx pY dm wU ag aB hM hB hL
 go_wp2_with fail
 refine aQ.out.mono ?_
 rintro e w3 ⟨n,M',a',rfl,br,jk,em,fc,ea,ay⟩
 have x3:M'.xs=[2,1,0,0,0,0]:=congrArg Lm.xs jk
 have d3:M'.ds=[(1,3),(2,4)]:=congrArg Lm.ds jk
 have s3:M'.ss=[.zero]:=congrArg Lm.ss jk
 have hE:=fun wx (hb:Below w3.heap.size w3 wx)=>qx (fc.below hb)
 rw [ea] at hE
 have fC:=fun wx (hb:Below w3.heap.size w3 wx)=>py (br.below hb) (by rw [x3]; simp)
 have xT:=fun wx (hb:Below w3.heap.size w3 wx)=>Rm (br.below hb) (by
  rw [x3,d3]
  intro i hi
  have:i=0\/i=1:=by simp at hi; omega
  rcases this with rfl | rfl<;>decide) (by rw [x3]; simp) (by
  rw [s3]
  intro k
  rcases k with _ | k
  ·decide
  ·simp [ai,List.getD]; decide) (by rw [s3]; simp) [] (by
  rw [x3,d3,s3]
  unfold CF
  have h0:∀ b,b<2->first [2,1,0,0,0,0] [(1,3),(2,4)] b=0:=fun b hb=>by
   have:b=0\/b=1:=by omega
   rcases this with rfl | rfl<;>rfl
  have bt:∀ met,Ch [Sl.zero] met 0 []:=fun met=>.stop (.inl fun k hk=>by
   have:=hk.2.2
   omega)
  show Rh [Sl.zero] (first [2,1,0,0,0,0] [(1,3),(2,4)]) 2 []
  exact .succ (all:=[]) (t:=[]) (.succ (all:=[]) (t:=[]) .zero (by rw [h0 0 (by omega)]; exact bt _)) (by rw [h0 1 (by omega)]; exact bt _))
 have bK:Me.now M'.xs M'.ds=(2,4):=by rw [x3,d3]; rfl
 have dL:g8.err=0:=rfl
 rw [bK,em] at fC
 rw [em] at xT
 rw [dL] at hE
 unfold dv at fC
 have uA:∀ w,(Instr.field 141 (.agg #[.int .i64 2,.int .i64 4]) 0).run Tryz.prog w=.ok (.int .i64 2) w:=fun w=>rfl
 replace hE:=Lib.hid hE
 replace fC:=Lib.hid fC
 replace xT:=Lib.hid xT
 replace ay:=Lib.hid ay
 clear aQ br jk em fc ea x3 d3 s3 bK dL aW sY fL
 go_wp2_with fail
 refine (hA.out _).mono ?_
 rintro e w4 ⟨rfl,az⟩
 replace az:=Lib.hid az
 clear hA
 go_wp2_with fail
 refine (hE.out _ az.out).mono ?_
 rintro e w' ⟨rfl,rfl⟩
 clear hE
 go_wp2_with fail
 refine (fC.out _ az.out).mono ?_
 rintro e w5 ⟨rfl,bI⟩
 have rI:=Lib.hid (az.out.trans (bI.mono az.out.size))
 clear bI az fC
 go_wp2_with fail
 refine (xT.out _ rI.out).mono ?_
 rintro e w6 ⟨Ac,capc,rfl,AH,gH,qm⟩
 have nQ:=Lib.hid (ay.out.trans ((rI.out.trans (gH.mono rI.out.size)).mono ay.out.size))
 clear AH qm gH rI ay xT
 go_wp2_with fail
 go_ret
 exact ⟨rfl,nQ.out⟩
end Go.Proofs.YtpanebgakndddaaGreat.cL
namespace Go.Proofs.YtpanebgakndddaaGreat.Gb
open Go Go.RowKit Hp K Fl Rw Hm Ar Mm Me LK Qs Wk Pc Pn Mx Sw fk
set_option maxRecDepth 100000
abbrev L0:Lm:=⟨[1,0,0,0],[-1, -1, -1, -1, -1, -1],[.zero],false,1,[(1,3)],[]⟩
abbrev s1:Sh:=⟨0,2,0,(1,3),(0,0),0,0,0,0,0,0,[],⟨0,0,0,0⟩⟩
abbrev s2:Sh:=⟨0,10,5,(1,3),(0,0), -1,0,0,0,0,0,[],⟨0,0,0,0⟩⟩
theorem Oc:aG L0 (ij 0)=(L0,s1):=by kernel_rfl
theorem Od:aG L0 s1=(L0,s2):=by kernel_rfl
theorem Oe:pz L0 (ij 0)/\eL L0 (ij 0)=true/\bY L0 (ij 0)=false:=
 ⟨⟨by decide,by decide,by decide,by decide,by decide,by decide,by decide,by decide,by decide,by decide,fun q=>absurd q (by decide),fun q=>absurd q (by decide),by decide,by decide,fun q=>absurd q (by decide)⟩,by kernel_rfl,by kernel_rfl⟩
theorem okB:pz L0 s1/\eL L0 s1=true/\bY L0 s1=true:=
 ⟨⟨by decide,by decide,by decide,by decide,by decide,by decide,by decide,by decide,by decide,by decide,fun q=>absurd q (by decide),fun q=>absurd q (by decide),by decide,by decide,fun q=>absurd q (by decide)⟩,by kernel_rfl,by kernel_rfl⟩
theorem Of {W0 a b:World} {M:Mo} {g:Sc} {G:Sh} (ha:Below W0.heap.size W0 a) (aW:∀ x,ao M x->W0.heap.size<=x) (hg:∀ x,cg g G x->W0.heap.size<=x) (ho:ab (fun x=>ao M x\/cg g G x) a b):Below W0.heap.size W0 b:=
 ha.trans (ho.toBelow ha.size (fun x hx q=>by
  rcases q with q | q
  ·have:=aW x q; omega
  ·have:=hg x q; omega))
set_option maxHeartbeats 2000000 in
theorem ey (w:World):Calls Tryz.prog 62 #[] w fun e w'=>e=.returned (.bool true)/\Below w.heap.size w w':=by
 have hN:=Lib.hid (mJ 1 1 w (by omega) (by omega))
 have hA:=Lib.hid (fun w=>cL.ey w)
 have pY:=Lib.hid (fun w=>Gd 0 w)
 go_enter Tryz.func62,Tryz.ntmps62
 go_wp2_with fail
 refine hN.out.mono ?_
 rintro e w1 ⟨M,rfl,hM,aW,hB,h1,h2,h3,h4,h5,h6,h7⟩
 have hL:lm M=L0:=by
  unfold lm L0
  rw [h1,h2,h3,h4,h5,h6,h7]
  rfl
 replace hL:=Lib.hid hL
 replace hM:=Lib.hid hM
 replace aW:=Lib.hid aW
 replace hB:=Lib.hid hB
 clear hN h1 h2 h3 h4 h5 h6 h7
 go_wp2_with fail
 refine (pY.out _).mono ?_
 rintro e w2 ⟨a,rfl,dm,wU,ag⟩
 have aB:=hM.out.below ag
 have fL:=Lib.hid (hB.out.trans (ag.mono hB.out.size))
 have sY:=Lib.hid (fun x hx=>Nat.le_trans hB.out.size (wU x hx))
 have mx:=mN pA aB (show gr.At w2 a (ij 0) from dm) (fun k s=>(k=2/\s=(L0,ij 0))\/(k=1/\s=(L0,s1))) (fun s=>s=(L0,s2)) (fun k s hs=>by
  rcases hs with ⟨rfl,rfl⟩ | ⟨rfl,rfl⟩
  ·obtain ⟨a1,a2,a3⟩:=Oe
   exact ⟨a1,a2,by omega,fun hd=>by rw [a3] at hd; simp at hd,fun _=>.inr ⟨rfl,Oc⟩⟩
  ·obtain ⟨a1,a2,a3⟩:=okB
   exact ⟨a1,a2,by omega,fun _=>Od,fun hd=>by rw [a3] at hd; simp at hd⟩) 2 100 (.inl ⟨rfl,by rw [hL.out]⟩) (by omega) (by omega)
 have aQ:Hid (Calls Tryz.prog 58 #[ptr M.m,.iface 169 (ptr a.f),.int .i64 100] w2 fun e w'=>∃ (n:Nat) (M':Mo) (a':Sc),e=.returned (.tuple #[.int .i64 n,.bool true])/\ah w' M'/\lm M'=L0/\M'.m=M.m/\cI w' a' s2/\a'.f=a.f/\Below w.heap.size w w'):=Lib.hid (mx.mono fun e w' q=>by
  obtain ⟨n,s,q1,_,q2,M',a',r1,r2,r3,r4,r5,r6,r7⟩:=q
  rw [q2] at r2 r4
  exact ⟨n,M',a',q1,r1,r2,r3.m,r4,r5,Of fL.out aW.out sY.out r7⟩)
 clear mx pY dm wU ag aB hM hB hL
 go_wp2_with fail
 refine aQ.out.mono ?_
 rintro e w3 ⟨n,M',a',rfl,br,jk,em,fc,ea,ay⟩
 have x3:M'.xs=[1,0,0,0]:=congrArg Lm.xs jk
 have d3:M'.ds=[(1,3)]:=congrArg Lm.ds jk
 have hE:=fun wx (hb:Below w3.heap.size w3 wx)=>qx (fc.below hb)
 rw [ea] at hE
 have fC:=fun wx (hb:Below w3.heap.size w3 wx)=>py (br.below hb) (by rw [x3]; simp)
 have bK:Me.now M'.xs M'.ds=(1,3):=by rw [x3,d3]; rfl
 have dL:s2.err=5:=rfl
 rw [bK,em] at fC
 rw [dL] at hE
 unfold dv at fC
 have uA:∀ w,(Instr.field 141 (.agg #[.int .i64 1,.int .i64 3]) 0).run Tryz.prog w=.ok (.int .i64 1) w:=fun w=>rfl
 replace hE:=Lib.hid hE
 replace fC:=Lib.hid fC
 replace ay:=Lib.hid ay
 clear aQ br jk em fc ea x3 d3 bK dL aW sY fL
 go_wp2_with fail
 refine (hA.out _).mono ?_
 rintro e w4 ⟨rfl,az⟩
 replace az:=Lib.hid az
 clear hA
 go_wp2_with fail
 refine (hE.out _ az.out).mono ?_
 rintro e w' ⟨rfl,rfl⟩
 clear hE
 go_wp2_with fail
 refine (fC.out _ az.out).mono ?_
 rintro e w5 ⟨rfl,bI⟩
 have nQ:=Lib.hid (ay.out.trans ((az.out.trans (bI.mono az.out.size)).mono ay.out.size))
 clear bI az fC
 go_wp2_with fail
 go_ret
 exact ⟨rfl,nQ.out⟩
end Go.Proofs.YtpanebgakndddaaGreat.Gb
namespace Go.Proofs.YtpanebgakndddaaGreat.Lo
open Go Go.RowKit Hp K Fl Rw
def jJ (hs:List Int) (n:Int) (k:Nat):List Nat:=(List.range k).filter fun i=>decide (0<=n/\aE hs i=n)
def Cy (x:Nat):List Value:=[.int .i64 (x:Int)]
abbrev HA (w:World) (A:Option Addr) (cap:Nat) (xs:List Nat):Prop:=Row w 3 1 Cy A cap xs
theorem HC {hs:List Int} {n:Int} {k:Nat} (h:0<=n/\aE hs k=n):jJ hs n (k+1)=jJ hs n k++[k]:=by
 unfold jJ
 rw [List.range_succ,List.filter_append]
 simp only [h,and_self,decide_true,List.filter_cons_of_pos,List.filter_nil]
theorem HE {hs:List Int} {n:Int} {k:Nat} (h:¬(0<=n/\aE hs k=n)):jJ hs n (k+1)=jJ hs n k:=by
 unfold jJ
 rw [List.range_succ,List.filter_append]
 rw [List.filter_cons_of_neg (by simpa using h)]
 simp
theorem QN (hs:List Int) (n:Int) (k:Nat):(jJ hs n k).length<=k:=by
 unfold jJ
 exact Nat.le_trans (List.length_filter_le _ _) (by simp)
def HJ (W w:World) (g b:Nat) (hs:List Int) (n:Int) (v:Value) (k:Nat):Prop:=
 Below W.heap.size W w/\gF w g b hs/\∃ A cap,v=.slice A (jJ hs n k).length cap/\HA w A cap (jJ hs n k)/\∀ x,In A x->W.heap.size<=x
theorem N0 {W:World} {g b:Nat} {hs:List Int} (h:gF W g b hs) (n:Int):
 Calls Tryz.prog 65 #[.pointer (some ⟨g,0,none⟩),.int .i64 n] W fun e w'=>
  ∃ A cap,e=.returned (.slice A (jJ hs n hs.length).length cap)/\HA w' A cap (jJ hs n hs.length)/\(∀ x,In A x->W.heap.size<=x)/\Below W.heap.size W w':=by
 have hc:W.cell? ⟨g,0,none⟩=some (.slice (some ⟨b,0,none⟩) hs.length hs.length):=h.1.cell 0
 have hl:=h.2.2.2
 have hI:=Lib.hid (show HJ W W g b hs n (.slice none 0 0) 0 from ⟨Below.refl _ _,h,none,0,rfl,Row.nil _ _ _ _,by simp [In]⟩)
 obtain ⟨i0,cW,cQ,cT,dh⟩:=info_parts AM
 clear h
 go_enter Tryz.func65,Tryz.ntmps65
 go_wp2_with fail
 go_loopw [5,12] (fun v i wr=>∃ k:Nat,k<=hs.length/\i=.int .i64 k/\HJ W wr g b hs n v k) (fun _ i _=>hs.length-(intOf i).toNat)
 case atStart=>exact ⟨0,Nat.zero_le _,rfl,hI.out⟩
 case round=>
  rename_i v i wr
  obtain ⟨k,hk,rfl,hB,hL,A,cap,rfl,hR,hA⟩:=hrel
  by_cases bn:k<hs.length
  ·have c0:=sq hL k bn
   have c1:=ua hL k bn
   have hc:wr.cell? ⟨g,0,none⟩=some (.slice (some ⟨b,0,none⟩) hs.length hs.length):=hL.1.cell 0
   have hs':=Lib.hid (CA (aE hs k) n)
   have Xs:=QN hs n k
   replace hL:=Lib.hid hL
   replace hR:=Lib.hid hR
   replace hA:=Lib.hid hA
   replace hB:=Lib.hid hB
   have hlen:=Lib.hid (rfl:(jJ hs n k).length=(jJ hs n k).length)
   generalize decide (0<=aE hs k)=p at*
   generalize (if 0<=aE hs k then aE hs k else 0)=q at*
   generalize hm:(jJ hs n k).length=m at*
   replace hm:=Lib.hid hm
   by_cases hh:0<=n/\aE hs k=n
   ·have hd:=Lib.hid (show decide (0<=n/\aE hs k=n)=true from decide_eq_true hh)
    replace hh:=Lib.hid hh
    go_wp2_with (first
     | (go_at_call 91; refine (yM _ _ _ _).mono ?_; rintro e w1 ⟨rfl,ax⟩; rw [hs'.out,hd.out]
        have iD:=hR.out.only (ab.aD ax (fun _=>False)) (by simp)
        replace ax:=Lib.hid ax)
     | (at_builtin
        refine se w1 rfl (.tmp 24) (.tmp 26) 88 rfl 3 i0 (.int .i64 0) 1 8 Tryz.underlying88 cW cQ cT dh rfl (by omega) Cy (fun _=>rfl) (by intro x u hu; simp [Cy] at hu; subst hu; rfl)
         A cap m (jJ hs n k) hm.out k #[.int .i64 k] rfl rfl iD rfl (by simp only [maxLen]; omega) (by omega) ?_
        intro A1 cap1 w2 cy ae bH))
    go_roundw
    case rel=>
     have hO:=(ab.aD ax.out (In A)).trans ae
     refine ⟨k+1,by omega,by go_num,hB.out.trans (hO.toBelow hB.out.size (fun x hx hi=>by have:=hA.out x hi; omega)),hL.out.only hO ?_,A1,cap1,?_,?_,fun x hi=>?_⟩
     ·rintro x (rfl | rfl)
      ·exact hR.out.differ hL.out.1 (by decide)
      ·exact hR.out.differ hL.out.2.1 (by decide)
     ·rw [HC hh.out,List.length_append,hm.out]
      rfl
     ·rw [HC hh.out]
      exact cy
     ·rcases bH x hi with q | q
      ·exact hA.out x q
      ·have h1:=ax.out.size
       have h2:=hB.out.size
       omega
    case measure=>simp [intOf]; omega
   ·have hd:=Lib.hid (show decide (0<=n/\aE hs k=n)=false from decide_eq_false hh)
    replace hh:=Lib.hid hh
    go_wp2_with (first
     | (go_at_call 91; refine (yM _ _ _ _).mono ?_; rintro e w1 ⟨rfl,ax⟩; rw [hs'.out,hd.out]; replace ax:=Lib.hid ax))
    go_roundw
    case rel=>
     have hO:=ab.aD ax.out (fun _=>False)
     refine ⟨k+1,by omega,by go_num,hB.out.trans (ax.out.mono hB.out.size),hL.out.only hO (by simp),A,cap,?_,?_,hA.out⟩
     ·rw [HE hh.out,hm.out]
     ·rw [HE hh.out]
      exact hR.out.only hO (by simp)
    case measure=>simp [intOf]; omega
  ·obtain rfl:k=hs.length:=by omega
   replace hL:=Lib.hid hL
   replace hR:=Lib.hid hR
   replace hA:=Lib.hid hA
   replace hB:=Lib.hid hB
   go_wp2_with fail
   go_ret
   exact ⟨A,cap,rfl,hR.out,hA.out,hB.out⟩
end Go.Proofs.YtpanebgakndddaaGreat.Lo
namespace Go.Proofs.YtpanebgakndddaaGreat.lj
open Go Go.RowKit Hp K Fl Rw Hm Ar Mm Me LK Qs Wk Re fk Pn Pc Mq Pu jq jr mH Dl Zr
set_option maxRecDepth 100000
theorem AQ {w w1:World} {n k:Nat} {M:Mo} (h:oo w n k M w1) (hk:k<=6):kr (lm M) 0:=by
 obtain ⟨hM,aW,hB,h1,h2,h3,h4,h5,h6,h7⟩:=h
 refine ⟨?_,?_,?_,?_⟩
 ·show M.xs.length<=_; rw [h1]; simp; omega
 ·show M.ds.length<=_; rw [h6]; simp
 ·show 1<=Cl.nth M.xs 0; rw [h1]; exact Int.le_refl _
 ·show Cl.nth M.xs 0<=_; rw [h1]; exact Int.le_refl _
theorem x5 {w w1:World} {n k:Nat} {M:Mo} (h:oo w n k M w1):eI w w1 M none 0 []:=by
 obtain ⟨hM,aW,hB,_⟩:=h
 exact ⟨hM,Row.nil _ _ _ _,hB,aW,by simp [In]⟩
theorem NX {hs:List Int} (h:hs=List.replicate 6 (-1)) (i:Nat):(Lo.jJ hs (i:Int) hs.length).length=0:=by
 subst h
 rw [List.length_eq_zero_iff]
 unfold Lo.jJ
 rw [List.filter_eq_nil_iff]
 intro j _
 simp only [decide_eq_true_eq]
 intro q
 have h2:=q.2
 unfold Lo.aE at h2
 rw [List.getD_eq_getElem?_getD,List.getElem?_replicate] at h2
 split at h2<;>simp at h2<;>omega
section
variable {W0 w wx:World} {M:Mo} {n B G:Nat} {cs:Nat->List Mq.Hp} {l:List Pr}
theorem NY (h:eI W0 w M none 0 []) (hm:Mp (lm M) n B cs l G) (hb:Below w.heap.size w wx):Calls Tryz.prog 64 #[ptr M.m] wx fun e w'=>e=.returned (.agg #[.int .i64 n,.int .i64 B])/\Below wx.heap.size wx w':=by
 have eo:2+M.k<=B:=hm.kB
 have hk:1<=M.k/\M.k<=8:=hm.k
 have bz:B+n<=M.xs.length:=hm.xl
 have bK:Me.now M.xs M.ds=(n,B):=hm.now
 have:=py (h.mem.below hb) (by omega)
 rw [bK] at this
 exact this
theorem NZ (h:eI W0 w M none 0 []) (hm:Mp (lm M) n B cs l G) (hb:Below w.heap.size w wx):wx.cell? ⟨M.m,1,none⟩=some (ptr M.lg)/\∀ i:Nat,Calls Tryz.prog 65 #[ptr M.lg,.int .i64 i] wx fun e w'=>∃ A cap,e=.returned (.slice A (0:Nat) cap)/\Below wx.heap.size wx w':=by
 have hM:=h.mem.below hb
 have sQ:M.hs=List.replicate 6 (-1):=hm.hs
 refine ⟨hM.hd.2.1,fun i=>(Lo.N0 hM.2.2.1 (i:Int)).mono fun e w' q=>?_⟩
 obtain ⟨A,cap,q1,_,_,q4⟩:=q
 rw [NX sQ i] at q1
 exact ⟨A,cap,q1,q4⟩
end
theorem N1:∃ c x t a,ny ([]:List Pr).length 8 1 c x t a/\c<=100/\x<=512/\t<=8/\a<=30*256:=by
 obtain ⟨c,x,hu⟩:=Bc 0 3 (by omega) 3 0 (by omega)
 obtain ⟨e1,e2,e3⟩:=hu.eqs
 exact ⟨c,x,3,0,.inl hu,by omega,by omega,by omega,by omega⟩
set_option maxHeartbeats 2000000 in
theorem ey (w:World):Calls Tryz.prog 40 #[] w fun e w'=>e=.returned (.bool true)/\Below w.heap.size w w':=by
 have hN:=Lib.hid (mJ 1 1 w (by omega) (by omega))
 have bH:=Lib.hid (fun w=>mH.ey w)
 have jg:=Lib.hid (fun w=>cL.ey w)
 have fY:=Lib.hid (fun w=>Gb.ey w)
 have pY:=Lib.hid (fun z w=>FL 0 z w)
 go_enter Tryz.func40,Tryz.ntmps40
 go_wp2_with fail
 refine hN.out.mono ?_
 rintro e w1 ⟨M,rfl,fT⟩
 have k9:=vg fT (by omega) (by omega)
 have fX:=AQ fT (by omega)
 have hS:=x5 fT
 replace k9:=Lib.hid k9
 replace fX:=Lib.hid fX
 replace hS:=Lib.hid hS
 clear hN fT
 go_wp2_with fail
 refine (pY.out 8 _).mono ?_
 rintro e w2 ⟨a,rfl,cy,fG,ag⟩
 have iQ:=Lib.hid (hS.out.down ag)
 have JJ:=Lib.hid (fun x hx=>Nat.le_trans hS.out.below.size (fG x hx))
 replace cy:=Lib.hid cy
 clear fG ag hS
 go_wp2_with fail
 refine (pY.out 3 _).mono ?_
 rintro e w3 ⟨b,rfl,kH,mq,ay⟩
 have cK:=iQ.out.down ay
 have JK:=vt cy.out (ab.aD ay (fun _=>False)) (by simp)
 have fU:=Lib.hid (fun x hx=>Nat.le_trans iQ.out.below.size (mq x hx))
 have wF:=Lib.hid (fun x (hx:dk.aS b (bR 0 3) x)=>show ¬(ao M x\/dk.aS a (bR 0 8) x) from fun q=>by
  rcases q with q | q
  ·exact Gc kH cK.mem hx q
  ·have:=Bx cy.out q
   have:=mq x hx
   omega)
 obtain ⟨c,x,t,ca,DC,hc,hx,ht,sP⟩:=N1
 have mx:=NU cK k9.out (by omega) (by simp) fX.out (by omega) (s:=8) (by decide) DC (by omega) hx ht sP 500 ⟨by omega,by omega⟩ (i:=0) (by omega) JK JJ.out
 have sW:=Lib.hid (fun x hx=>Bx (a:=a) (R:=bR 0 8) (x:=x) cy.out hx)
 have JL:=Lib.hid mq
 replace kH:=Lib.hid kH
 replace mx:=Lib.hid mx
 clear pY mq ay cK JK iQ cy JJ DC k9 fX
 go_wp2_with fail
 refine mx.out.mono ?_
 rintro e w4 ⟨k,rfl,M4,a4,R4,B4,cs4,jh,em4,DD,ea4,JM,DE,Vn,Vo,Vp,Vq, -,aM,DF⟩
 have JN:=vt kH.out aM wF.out
 have aQ:=NW jh DE (z:=3) (by decide) JN fU.out 500 ⟨by omega,by omega⟩
 rw [em4] at aQ
 have eO:Hid (Calls Tryz.prog 58 #[ptr M.m,.iface 137 (ptr (dk.f b)),.int .i64 500] w4 fun e w'=>e=.returned (.tuple #[.int .i64 1,.bool true])/\Below w.heap.size w w'/\(∀ wx,Below w'.heap.size w' wx->Calls Tryz.prog 63 #[ptr (dk.f a)] wx fun e w''=>e=.returned (.int .i64 0)/\w''=wx)/\(∀ wx,Below w'.heap.size w' wx->Calls Tryz.prog 63 #[ptr (dk.f b)] wx fun e w''=>e=.returned (.int .i64 5)/\w''=wx)/\(∀ wx,Below w'.heap.size w' wx->Calls Tryz.prog 64 #[ptr M.m] wx fun e w''=>e=.returned (.agg #[.int .i64 8,.int .i64 B4])/\Below wx.heap.size wx w'')/\∃ lk,∀ wx,Below w'.heap.size w' wx->wx.cell? ⟨M.m,1,none⟩=some (ptr lk)/\Calls Tryz.prog 65 #[ptr lk,.int .i64 0] wx fun e w''=>∃ A cap,e=.returned (.slice A 0 cap)/\Below wx.heap.size wx w''):=Lib.hid (aQ.mono fun e w' q=>by
  obtain ⟨q1,M5,a5,R5,gV,em5,Vr,eb5,Vs,wR,bJ⟩:=q
  have Vt:=vt DD bJ (fun x hx q=>by
   rcases q with q | q
   ·exact Gc DD jh.mem hx q
   ·have h1:=Bx kH.out q
    have h2:=JL.out x q
    rcases DF x hx with q | q
    ·have h3:=sW.out x q; omega
    ·omega)
  have JO:Mp (lm M5) 8 B4 cs4 [] 0:=by rw [wR]; exact DE
  refine ⟨q1,gV.below,fun wx hb=>?_,fun wx hb=>?_,fun wx hb=>?_,M5.lg,fun wx hb=>?_⟩
  ·have:=Ba (oz.below Vt hb)
   rw [ea4,JM] at this
   exact this
  ·have:=Ba (oz.below Vr hb)
   rw [eb5,Vs] at this
   exact this
  ·have:=NY gV JO hb
   rw [em5,em4] at this
   exact this
  ·have:=NZ gV JO hb
   rw [em5,em4] at this
   exact ⟨this.1,this.2 0⟩)
 have jj:=Lib.hid jh.below
 clear aQ JN mx jh em4 DD ea4 JM DE Vn Vo Vp Vq aM DF kH fU wF sW JL
 go_wp2_with fail
 refine eO.out.mono ?_
 rintro e w5 ⟨rfl,bI,zD,zE,fC,lk,wS⟩
 replace bI:=Lib.hid bI
 replace zD:=Lib.hid zD
 replace zE:=Lib.hid zE
 replace fC:=Lib.hid fC
 replace wS:=Lib.hid wS
 have uA:∀ w,(Instr.field 141 (.agg #[.int .i64 8,.int .i64 B4]) 0).run Tryz.prog w=.ok (.int .i64 8) w:=fun w=>rfl
 clear eO jj
 go_wp2_with fail
 refine (bH.out _).mono ?_
 rintro e w6 ⟨rfl,ld⟩
 have gH:=Lib.hid ld
 clear ld bH
 go_wp2_with fail
 refine (jg.out _).mono ?_
 rintro e w7 ⟨rfl,m6⟩
 have m7:=Lib.hid (gH.out.trans (m6.mono gH.out.size))
 clear m6 gH jg
 go_wp2_with fail
 refine (fY.out _).mono ?_
 rintro e w8 ⟨rfl,oR⟩
 have qU:=Lib.hid (m7.out.trans (oR.mono m7.out.size))
 clear oR m7 fY
 go_wp2_with fail
 refine (zD.out _ qU.out).mono ?_
 rintro e w' ⟨rfl,rfl⟩
 clear zD
 go_wp2_with fail
 refine (fC.out _ qU.out).mono ?_
 rintro e w9 ⟨rfl,JP⟩
 have kI:=Lib.hid (qU.out.trans (JP.mono qU.out.size))
 have Vu:=(wS.out _ kI.out).1
 have JQ:=Lib.hid (wS.out _ kI.out).2
 clear JP qU fC wS
 go_wp2_with fail
 refine JQ.out.mono ?_
 rintro e w10 ⟨A,cap,rfl,JR⟩
 have sX:=Lib.hid (kI.out.trans (JR.mono kI.out.size))
 clear JR kI JQ Vu
 go_wp2_with fail
 refine (zE.out _ sX.out).mono ?_
 rintro e w' ⟨rfl,rfl⟩
 have nQ:=Lib.hid (bI.out.trans (sX.out.mono bI.out.size))
 clear zE bI sX
 go_wp2_with fail
 go_ret
 exact ⟨rfl,nQ.out⟩
end Go.Proofs.YtpanebgakndddaaGreat.lj
