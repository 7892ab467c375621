/- Walks and plain mathematics, put together in their order: ClU, ClV, ClX, ClZ, ClM, ClS, One, ThE, FoA, LocksHeld, FnC. -/
import Derived.Test.YtpanebgakndddaaGreatPart11
import Derived.Stop.Asserts
import Derived.Test.YtpanebgakndddaaGreatLocksWalk
import Derived.Test.YtpanebgakndddaaGreatRowKit
set_option linter.unusedVariables false
set_option linter.unusedSimpArgs false
namespace Go.Proofs.YtpanebgakndddaaGreat.Ca
open Go Go.RowKit Hp K Fl Rw Hm Ar Mm Me LK Qs Wk Pc Pn Mq Pu Zp Mx cK Bs Zr
set_option maxRecDepth 100000
structure Cp where
 f:Nat
 tv:Value
 ga:Gt.Ga
 qa:Pu.Qa
 ra:Zr.Ra
def lh (tv:Value) (d:Bool):Array Value:=#[tv,.bool d]
abbrev iU (e:Int):Value:=.agg #[.int .i64 e]
def l8 (w:World) (a:Cp) (e:Int):Fr->Prop
 | .ref=>a.tv=.iface 176 (iU e)
 | .get G=>a.tv=.iface 177 (ptr a.ga.f)/\Gt.cY w a.ga G
 | .put P=>a.tv=.iface 179 (ptr a.qa.f)/\Pu.bE w a.qa P
 | .del D=>a.tv=.iface 164 (ptr a.qa.f)/\Dl.cz w a.qa D
 | .rz R=>a.tv=.iface 137 (ptr a.ra.f)/\Zr.fu w a.ra R
def oq (a:Cp) (F:Fr) (x:Nat):Prop:=match F with
 | .ref=>False
 | .get _=>Gt.bt a.ga x
 | .put P=>Pu.iC a.qa P x
 | .del D=>Dl.gC a.qa D x
 | .rz R=>Zr.fx a.ra R x
structure Fv (w:World) (a:Cp) (C:Cl):Prop where
 an:af w a.f 118 (lh a.tv C.done)
 inn:l8 w a C.err C.fr
 Mv:C.fr≠.ref->C.err=0
def km (a:Cp) (C:Cl) (x:Nat):Prop:=x=a.f\/oq a C.fr x
abbrev cy:iD Cp Cl:=⟨Cp.f,Fv,km⟩
abbrev x6:List TypeId:=[213,233,235,237,216,226,243,193,
 162,200,262,270,260,157,205]
section
variable {w w':World} {M:Mo} {a:Cp} {C:Cl} {F:Fr} {tv:Value} {e:Int} {d:Bool} {f:Nat}
theorem Mw {a:Zr.Ra} {R:Rz} (h:fu w a R) {x:Nat} (hx:Zr.fx a R x):Ty w x x6\/(∃ ms,Gw.iE w x ms)\/∃ ms,Me.Met w x ms:=by
 rcases hx with rfl | ⟨G,q1,q2,q3⟩ | ⟨G,q1,q2,q3⟩
 ·exact .inl ((bj h.an).mono (by decide))
 ·rcases (h.b8 G q1 q2).2.ty q3 with q | q
  ·exact .inl (q.mono (by decide))
  ·exact .inr (.inl q)
 ·rcases (h.shr G q1 q2).2.ty q3 with q | q
  ·exact .inl (q.mono (by decide))
  ·exact .inr (.inr q)
theorem My (h:l8 w a e F) {x:Nat} (hx:oq a F x):Ty w x x6\/(∃ ms,Gw.iE w x ms)\/∃ ms,Me.Met w x ms:=by
 cases F with
 | ref=>exact absurd hx (fun q=>q)
 | get G=>exact .inl ((h.2.ty hx).mono (by decide))
 | put P=>exact .inl ((h.2.ty hx).mono (by decide))
 | del D=>exact .inl ((h.2.ty hx).mono (by decide))
 | rz R=>exact Mw h.2 hx
theorem x7 (h:l8 w a e F) {x:Nat} (hx:oq a F x) {ts:List TypeId} (ht:Ty w x ts) (hd:∀ t∈ts,t∉frTypes):False:=by
 rcases My h hx with q | ⟨_,q⟩ | ⟨_,q⟩
 ·exact ht.apart q hd
 ·exact q.no ht
 ·exact q.no ht
theorem A5 {S:Nat->Prop} (h:l8 w a e F) (ho:ab S w w') (hn:∀ x,oq a F x->¬S x):l8 w' a e F:=by
 cases F with
 | ref=>exact h
 | get G=>exact ⟨h.1,h.2.only ho hn⟩
 | put P=>exact ⟨h.1,h.2.only ho hn⟩
 | del D=>exact ⟨h.1,h.2.only ho hn⟩
 | rz R=>exact ⟨h.1,vk h.2 ho hn⟩
theorem Fw (hb:af w f 118 (lh tv d)) (h:l8 w a e F) {x:Nat} (hx:oq a F x):x≠f:=by
 rintro rfl
 exact x7 h hx (bj hb) (by decide)
theorem A7 {S:Nat->Prop} (h:cy.At w a C) (ho:ab S w w') (hn:∀ x,cy.aR a C x->¬S x):cy.At w' a C:=
 ⟨h.an.only ho (hn _ (.inl rfl)),A5 h.inn ho (fun x hx=>hn x (.inr hx)),h.Mv⟩
theorem Fx (h:cy.At w a C) (hb:Below w.heap.size w w'):cy.At w' a C:=A7 h (ab.aD hb (fun _=>False)) (by simp)
theorem A8 {x:Nat} (h:cy.At w a C) (hM:ah w M) (hx:cy.aR a C x):¬ao M x:=fun hm=>by
 rcases hx with rfl | hx
 ·exact (hM.ty hm).apart (bj h.an) (by decide)
 ·exact x7 h.inn hx (hM.ty hm) (by decide)
theorem Mn {x:Nat} (h:cy.At w a C) (hx:cy.aR a C x):¬Ty w x [153]:=fun q=>by
 rcases hx with rfl | hx
 ·exact q.apart (bj h.an) (by decide)
 ·exact x7 h.inn hx q (by decide)
theorem qq (hb:af w f 118 (lh tv d)):w.cell? ⟨f,0,none⟩=some tv/\w.cell? ⟨f,1,none⟩=some (.bool d):=⟨hb.cell 0,hb.cell 1⟩
theorem vm {T:TypeId} {fr:Nat} {v m:Value} {c:Bool} (hb:af w f 118 (lh (.iface T v) d)) (mr:∀ (w:World) (f:Nat),(method (f+1) T v "Ready").run Tryz.prog w=.ok (fr,v) w)
 (er:∀ args w,(callFunc fr args).run Tryz.prog w=.ok (.enter fr args) w) (hF:Calls Tryz.prog fr #[v,m] w fun e w'=>e=.returned (.bool c)/\Below w.heap.size w w'):Calls Tryz.prog 29 #[ptr f,m] w fun e w'=>e=.returned (.bool c)/\Below w.heap.size w w':=by
 have c0:=(qq hb).1
 replace hF:=Lib.hid hF
 clear hb
 go_enter Tryz.func29,Tryz.ntmps29
 go_wp2_with fail
 refine hF.out.mono ?_
 rintro e w' ⟨rfl,hb⟩
 replace hb:=Lib.hid hb
 clear c0
 go_wp2_with fail
 go_ret
 exact ⟨rfl,hb.out⟩
theorem vn {T:TypeId} {fs:Nat} {v m:Value} {c:Bool} {P:World->Prop} (hb:af w f 118 (lh (.iface T v) d)) (ms:∀ (w:World) (f:Nat),(method (f+1) T v "Step").run Tryz.prog w=.ok (fs,v) w)
 (es:∀ args w,(callFunc fs args).run Tryz.prog w=.ok (.enter fs args) w) (hF:Calls Tryz.prog fs #[v,m] w fun e' w'=>e'=.returned (.bool c)/\af w' f 118 (lh (.iface T v) d)/\P w'):
 Calls Tryz.prog 32 #[ptr f,m] w fun e' w'=>e'=.returned (.bool c)/\∃ w1,P w1/\w'=w1.setCell ⟨f,1,none⟩ (.bool c)/\af w1 f 118 (lh (.iface T v) d):=by
 have c0:=(qq hb).1
 replace hF:=Lib.hid hF
 clear hb
 go_enter Tryz.func32,Tryz.ntmps32
 go_wp2_with fail
 refine hF.out.mono ?_
 rintro e w1 ⟨rfl,hb,hP⟩
 have c2:=(qq hb).2
 have z2:=hb.frozen 1
 have hE:Hid (∃ w0,P w0/\w1.setCell ⟨f,1,none⟩ (.bool c)=w0.setCell ⟨f,1,none⟩ (.bool c)/\af w0 f 118 (lh (.iface T v) _)):=Lib.hid ⟨w1,hP,rfl,hb⟩
 clear c0 hF hb hP
 go_wp2_with fail
 go_ret
 exact ⟨rfl,hE.out⟩
theorem Mz (e:Int) (w:World) (f:Nat):(method (f+1) 176 (iU e) "Ready").run Tryz.prog w=.ok (280,iU e) w:=by kernel_rfl
theorem MA (e:Int) (w:World) (f:Nat):(method (f+1) 176 (iU e) "Step").run Tryz.prog w=.ok (281,iU e) w:=by kernel_rfl
theorem MB (args:Array Value) (w:World):(callFunc 280 args).run Tryz.prog w=.ok (.enter 280 args) w:=by kernel_rfl
theorem MC (args:Array Value) (w:World):(callFunc 281 args).run Tryz.prog w=.ok (.enter 281 args) w:=by kernel_rfl
theorem MD (e:Int) (m:Value) (w:World):Calls Tryz.prog 280 #[iU e,m] w fun e w'=>e=.returned (.bool true)/\Below w.heap.size w w':=by
 have hB:=Lib.hid (below_1 w (.cells #[.int .i64 e] 176))
 go_enter Tryz.func280,Tryz.ntmps280
 go_wp2_with fail
 go_ret
 exact ⟨rfl,hB.out⟩
theorem ME (e:Int) (m:Value) (w:World):Calls Tryz.prog 281 #[iU e,m] w fun e w'=>e=.returned (.bool true)/\Below w.heap.size w w':=by
 have hB:=Lib.hid (below_1 w (.cells #[.int .i64 e] 176))
 go_enter Tryz.func281,Tryz.ntmps281
 go_wp2_with fail
 go_ret
 exact ⟨rfl,hB.out⟩
end
end Go.Proofs.YtpanebgakndddaaGreat.Ca
namespace Go.Proofs.YtpanebgakndddaaGreat.Ca
open Go Go.RowKit Hp K Fl Rw Hm Ar Mm Me LK Qs Wk Pc Pn Mq Pu Zp Mx cK Bs Zr
set_option maxRecDepth 100000
section
variable {w w':World} {M:Mo} {a:Cp} {C:Cl}
theorem Fy (hM:ah w M) (h:cy.At w a C) (ok:jB (lm M) C):Calls Tryz.prog 29 #[ptr a.f,ptr M.m] w fun e w'=>e=.returned (.bool (iA (lm M) C))/\Below w.heap.size w w':=by
 obtain ⟨hb,hI,wD⟩:=h
 obtain ⟨F,er,d⟩:=C
 cases F with
 | ref=>
   rw [show a.tv=.iface 176 (iU er) from hI] at hb
   exact vm hb (Mz er) MB (MD er _ w)
 | get G=>
   rw [show a.tv=.iface 177 (ptr a.ga.f) from hI.1] at hb
   exact vm hb (Gt.tD.mr _) Gt.tD.er (Gt.tD.ready hM hI.2 ok)
 | put P=>
   rw [show a.tv=.iface 179 (ptr a.qa.f) from hI.1] at hb
   exact vm hb (Pu.rL.mr _) Pu.rL.er (Pu.rL.ready hM hI.2 ok)
 | del D=>
   rw [show a.tv=.iface 164 (ptr a.qa.f) from hI.1] at hb
   exact vm hb (Dl.rM.mr _) Dl.rM.er (Dl.rM.ready hM hI.2 ok)
 | rz R=>
   rw [show a.tv=.iface 137 (ptr a.ra.f) from hI.1] at hb
   exact vm hb (Zr.ot.mr _) Zr.ot.er (Zr.ot.ready hM hI.2 ok)
theorem x8 {A P:Type} {X:iD A P} {b:A} {p p':P} {L':Lm} {F:Fr} {tv:Value} {f:Nat} {er:Int} {d c:Bool} {w1:World} (hs:X.ba w M b p L' p' w1)
 (wE:∀ b',X.f b'=X.f b->X.At w1 b' p'->∃ a':Cp,a'.f=f/\a'.tv=tv/\l8 w1 a' er F/\∀ x,oq a' F x->X.aR b' p' x) (h1:af w1 f 118 (lh tv d)) (hp:∀ x,X.aR b p x->km a C x) (ea:a.f=f) (UU:F≠.ref->er=0):
 cy.ba w M a C L' ⟨F,er,c⟩ (w1.setCell ⟨f,1,none⟩ (.bool c)):=by
 obtain ⟨M',b',r1,r2,r3,r4,r5,r6,r7⟩:=hs
 obtain ⟨a',s1,s2,s3,s4⟩:=wE b' r5 r4
 have hO:=(ab.refl (·=f) w1).setCell (p:=⟨f,1,none⟩) (.inl rfl) (.bool c)
 have oP:¬ao M' f:=fun hm=>(r1.ty hm).apart (bj h1) (by decide)
 refine ⟨M',a',r1.only hO (fun x hx q=>oP (q▸hx)),r2,r3,⟨?_,?_,UU⟩,s1.trans ea.symm,?_,?_⟩
 ·have:=h1.store 1 (.bool c)
  rw [<-s1] at this ⊢
  rw [s2]
  exact this
 ·exact A5 s3 hO (fun x hx q=>Fw h1 s3 hx q)
 ·intro x hx
  rcases hx with q | q
  ·exact .inl (.inl (q.trans (s1.trans ea.symm)))
  ·exact (r6 x (s4 x q)).imp (hp x) id
 ·exact (r7.mono (fun x _ q=>q.imp id (hp x))).trans (hO.mono (fun x _ q=>.inr (.inl (q.trans ea.symm))))
theorem x9 {A P:Type} {X:iD A P} {b:A} {p p':P} {L':Lm} {w1:World} (hM:ah w M) (h:Fv w a C) (hs:X.ba w M b p L' p' w1) (hp:∀ x,X.aR b p x->oq a C.fr x):af w1 a.f 118 (lh a.tv C.done):=by
 obtain ⟨M',b',r1,r2,r3,r4,r5,r6,r7⟩:=hs
 refine h.an.only r7 (fun q=>?_)
 rcases q with q | q
 ·exact A8 h hM (.inl rfl) q
 ·exact Fw h.an h.inn (hp _ q) rfl
theorem Fz (hM:ah w M) (h:cy.At w a C) (ok:jB (lm M) C) (hr:iA (lm M) C=true):Calls Tryz.prog 32 #[ptr a.f,ptr M.m] w fun e w'=>e=.returned (.bool (eu (lm M) C))/\cy.ba w M a C (bK (lm M) C).1 (bK (lm M) C).2 w':=by
 have h0:=h
 obtain ⟨hb,hI,wD⟩:=h
 obtain ⟨F,er,d⟩:=C
 cases F with
 | ref=>
   have ax:=hb
   rw [show a.tv=.iface 176 (iU er) from hI] at ax
   refine (vn (P:=fun w1=>Below w.heap.size w w1) ax (MA er) MC ((ME er _ w).mono fun e w1 q=>⟨q.1,ax.only (ab.aD q.2 (fun _=>False)) (by simp),q.2⟩)).mono fun e w' q=>⟨q.1,?_⟩
   obtain ⟨w1,q1,q2,q3⟩:=q.2
   rw [q2]
   have hO:=(ab.aD q1 (·=a.f)).setCell (p:=⟨a.f,1,none⟩) (.inl rfl) (.bool true)
   refine ⟨M,a,hM.only hO (fun x hx q=>A8 h0 hM (.inl rfl) (q▸hx)),rfl,gm.refl _ _,⟨?_,hI,fun q=>absurd rfl q⟩,rfl,fun x q=>.inl q,hO.mono (fun x _ q=>.inr (.inl q))⟩
   have:=q3.store 1 (.bool true)
   rw [show a.tv=.iface 176 (iU er) from hI]
   exact this
 | get G=>
   have ht:a.tv=.iface 177 (ptr a.ga.f):=hI.1
   have hs:=Gt.tD.step hM hI.2 ok hr
   have cN:=hb
   rw [ht] at cN
   refine (vn cN (Gt.tD.ms _) Gt.tD.es (hs.mono fun e w1 q=>⟨q.1,by have:=x9 hM h0 q.2 (fun x hx=>hx); rw [ht] at this; exact this,q.2⟩)).mono fun e w' q=>⟨q.1,?_⟩
   obtain ⟨w1,q1,q2,q3⟩:=q.2
   rw [q2]
   refine x8 (tv:=a.tv) (er:=er) (d:=d) q1 (fun b' r1 r2=>⟨{a with ga:=b'},rfl,rfl,⟨by show a.tv=.iface _ (ptr b'.f); rw [ht,show b'.f=a.ga.f from r1],r2⟩,fun x hx=>hx⟩) (by rw [ht]; exact q3) (fun x hx=>.inr hx) rfl (fun _=>wD (by simp))
 | put P=>
   have ht:a.tv=.iface 179 (ptr a.qa.f):=hI.1
   have hs:=Pu.rL.step hM hI.2 ok hr
   have cN:=hb
   rw [ht] at cN
   refine (vn cN (Pu.rL.ms _) Pu.rL.es (hs.mono fun e w1 q=>⟨q.1,by have:=x9 hM h0 q.2 (fun x hx=>hx); rw [ht] at this; exact this,q.2⟩)).mono fun e w' q=>⟨q.1,?_⟩
   obtain ⟨w1,q1,q2,q3⟩:=q.2
   rw [q2]
   refine x8 (tv:=a.tv) (er:=er) (d:=d) q1 (fun b' r1 r2=>⟨{a with qa:=b'},rfl,rfl,⟨by show a.tv=.iface _ (ptr b'.f); rw [ht,show b'.f=a.qa.f from r1],r2⟩,fun x hx=>hx⟩) (by rw [ht]; exact q3) (fun x hx=>.inr hx) rfl (fun _=>wD (by simp))
 | del D=>
   have ht:a.tv=.iface 164 (ptr a.qa.f):=hI.1
   have hs:=Dl.rM.step hM hI.2 ok hr
   have cN:=hb
   rw [ht] at cN
   refine (vn cN (Dl.rM.ms _) Dl.rM.es (hs.mono fun e w1 q=>⟨q.1,by have:=x9 hM h0 q.2 (fun x hx=>hx); rw [ht] at this; exact this,q.2⟩)).mono fun e w' q=>⟨q.1,?_⟩
   obtain ⟨w1,q1,q2,q3⟩:=q.2
   rw [q2]
   refine x8 (tv:=a.tv) (er:=er) (d:=d) q1 (fun b' r1 r2=>⟨{a with qa:=b'},rfl,rfl,⟨by show a.tv=.iface _ (ptr b'.f); rw [ht,show b'.f=a.qa.f from r1],r2⟩,fun x hx=>hx⟩) (by rw [ht]; exact q3) (fun x hx=>.inr hx) rfl (fun _=>wD (by simp))
 | rz R=>
   have ht:a.tv=.iface 137 (ptr a.ra.f):=hI.1
   have hs:=Zr.ot.step hM hI.2 ok hr
   have cN:=hb
   rw [ht] at cN
   refine (vn cN (Zr.ot.ms _) Zr.ot.es (hs.mono fun e w1 q=>⟨q.1,by have:=x9 hM h0 q.2 (fun x hx=>hx); rw [ht] at this; exact this,q.2⟩)).mono fun e w' q=>⟨q.1,?_⟩
   obtain ⟨w1,q1,q2,q3⟩:=q.2
   rw [q2]
   refine x8 (tv:=a.tv) (er:=er) (d:=d) q1 (fun b' r1 r2=>⟨{a with ra:=b'},rfl,rfl,⟨by show a.tv=.iface _ (ptr b'.f); rw [ht,show b'.f=a.ra.f from r1],r2⟩,fun x hx=>hx⟩) (by rw [ht]; exact q3) (fun x hx=>.inr hx) rfl (fun _=>wD (by simp))
end
theorem qv:ou cy 75 29 32 jB iA bK eu where
 below h hb:=Fx h hb
 mr b w f:=by kernel_rfl
 ms b w f:=by kernel_rfl
 er args w:=by kernel_rfl
 es args w:=by kernel_rfl
 ready hM h ok:=Fy hM h ok
 step hM h ok hr:=Fz hM h ok hr
end Go.Proofs.YtpanebgakndddaaGreat.Ca
namespace Go.Proofs.YtpanebgakndddaaGreat.Ca
open Go Go.RowKit Hp K Fl Rw Hm Ar Mm Me LK Qs Wk Pc Pn Mq Pu Zp Mx cK Bs Zr
set_option maxRecDepth 100000
theorem MF (k:Int) (w:World):Calls Tryz.prog 120 #[.int .i64 k] w fun e w'=>e=.returned (.bool (decide (0<=k/\k<=3)))/\w'=w:=by
 by_cases h1:0<=k
 ·by_cases h2:k<4
  ·rw [decide_eq_true ⟨h1,by omega⟩]
   go_enter Tryz.func120,Tryz.ntmps120
   go_wp2_with fail
   go_ret
   exact ⟨rfl,rfl⟩
  ·rw [decide_eq_false (fun q=>h2 (by omega))]
   go_enter Tryz.func120,Tryz.ntmps120
   go_wp2_with fail
   go_ret
   exact ⟨rfl,rfl⟩
 ·rw [decide_eq_false (fun q=>h1 q.1)]
  go_enter Tryz.func120,Tryz.ntmps120
  go_wp2_with fail
  go_ret
  exact ⟨rfl,rfl⟩
theorem MG (key:ByteArray) (w:World):Calls Tryz.prog 121 #[.string key] w fun e w'=>e=.returned (.bool (decide (1<=key.size/\key.size<=32)))/\w'=w:=by
 by_cases h1:key=⟨#[]⟩
 ·subst h1
  rw [decide_eq_false (by decide)]
  go_enter Tryz.func121,Tryz.ntmps121
  go_wp2_with fail
  go_ret
  exact ⟨rfl,rfl⟩
 ·have cr:=FA h1
  have hb:key.toList.isEmpty=false:=by
   cases hq:key.toList with
   | nil=>rw [hq] at cr; simp [ByteArray.toList_eq] at cr
   | cons x r=>rfl
  clear cr
  have hs:1<=key.size:=by
   rcases Nat.eq_zero_or_pos key.size with q | q
   ·exact absurd (ByteArray.ext (Array.eq_empty_of_size_eq_zero q)) h1
   ·exact q
  generalize sM:key.size=ks at*
  have UW:(key.size:Int)=(ks:Int):=by rw [sM]
  clear h1
  by_cases h2:(ks:Int)<=32
  ·rw [decide_eq_true ⟨hs,by omega⟩]
   clear sM hs
   go_enter Tryz.func121,Tryz.ntmps121
   go_wp2_with fail
   go_ret
   exact ⟨rfl,rfl⟩
  ·rw [decide_eq_false (fun q=>h2 (by omega))]
   clear sM hs
   go_enter Tryz.func121,Tryz.ntmps121
   go_wp2_with fail
   go_ret
   exact ⟨rfl,rfl⟩
theorem MH (val:ByteArray) (w:World):Calls Tryz.prog 122 #[.string val] w fun e w'=>e=.returned (.bool (decide (val.size<=32)))/\w'=w:=by
 generalize sM:val.size=ks at*
 have UW:(val.size:Int)=(ks:Int):=by rw [sM]
 by_cases h2:(ks:Int)<=32
 ·rw [decide_eq_true (by omega)]
  clear sM
  go_enter Tryz.func122,Tryz.ntmps122
  go_wp2_with fail
  go_ret
  exact ⟨rfl,rfl⟩
 ·rw [decide_eq_false (by omega)]
  clear sM
  go_enter Tryz.func122,Tryz.ntmps122
  go_wp2_with fail
  go_ret
  exact ⟨rfl,rfl⟩
set_option maxHeartbeats 1000000 in
theorem MI (c:Ct) (w:World):Calls Tryz.prog 92 #[o8 c] w fun e w'=>e=.returned (.int .i64 (di c))/\Below w.heap.size w w':=by
 obtain ⟨k,key,val,z⟩:=c
 unfold o8 di
 simp only
 have hB:=Lib.hid (below_1 w (.cells #[.int .i64 k,.string key,.string val,.int .i64 z] 31))
 have hK:=fun w=>MF k w
 have hI:=fun w=>MG key w
 have hV:=fun w=>MH val w
 generalize key.size=ks at*
 generalize val.size=vs at*
 by_cases h1:0<=k/\k<=3
 case neg=>
  rw [if_pos (by omega)]
  simp only [decide_eq_false h1] at hK
  replace hK:=Lib.hid hK
  replace hI:=Lib.hid hI
  replace hV:=Lib.hid hV
  go_enter Tryz.func92,Tryz.ntmps92
  go_wp2_with (first | (go_at_call 120; refine (hK.out _).mono ?_; rintro e w' ⟨rfl,rfl⟩) | (go_at_call 121; refine (hI.out _).mono ?_; rintro e w' ⟨rfl,rfl⟩) | (go_at_call 122; refine (hV.out _).mono ?_; rintro e w' ⟨rfl,rfl⟩))
  go_ret
  exact ⟨rfl,hB.out⟩
 simp only [decide_eq_true h1] at hK
 replace hK:=Lib.hid hK
 rw [if_neg (by omega)]
 by_cases h3:k=3
 ·rw [if_neg (by omega)]
  subst h3
  replace hI:=Lib.hid hI
  replace hV:=Lib.hid hV
  clear h1
  go_enter Tryz.func92,Tryz.ntmps92
  go_wp2_with (first | (go_at_call 120; refine (hK.out _).mono ?_; rintro e w' ⟨rfl,rfl⟩) | (go_at_call 121; refine (hI.out _).mono ?_; rintro e w' ⟨rfl,rfl⟩) | (go_at_call 122; refine (hV.out _).mono ?_; rintro e w' ⟨rfl,rfl⟩))
  go_ret
  exact ⟨rfl,hB.out⟩
 have sN:k<3:=by omega
 clear h1
 by_cases h4:1<=ks/\ks<=32
 case neg=>
  rw [if_pos ⟨h3',by omega⟩]
  simp only [decide_eq_false h4] at hI
  replace hI:=Lib.hid hI
  replace hV:=Lib.hid hV
  clear sN h4
  go_enter Tryz.func92,Tryz.ntmps92
  go_wp2_with (first | (go_at_call 120; refine (hK.out _).mono ?_; rintro e w' ⟨rfl,rfl⟩) | (go_at_call 121; refine (hI.out _).mono ?_; rintro e w' ⟨rfl,rfl⟩) | (go_at_call 122; refine (hV.out _).mono ?_; rintro e w' ⟨rfl,rfl⟩))
  go_ret
  exact ⟨rfl,hB.out⟩
 simp only [decide_eq_true h4] at hI
 replace hI:=Lib.hid hI
 by_cases h6:k=1
 ·subst h6
  by_cases h7:vs<=32
  ·rw [if_neg (by omega)]
   simp only [decide_eq_true h7] at hV
   replace hV:=Lib.hid hV
   clear sN h3 h4 h7
   go_enter Tryz.func92,Tryz.ntmps92
   go_wp2_with (first | (go_at_call 120; refine (hK.out _).mono ?_; rintro e w' ⟨rfl,rfl⟩) | (go_at_call 121; refine (hI.out _).mono ?_; rintro e w' ⟨rfl,rfl⟩) | (go_at_call 122; refine (hV.out _).mono ?_; rintro e w' ⟨rfl,rfl⟩))
   go_ret
   exact ⟨rfl,hB.out⟩
  ·rw [if_pos ⟨h3',.inr (.inr ⟨rfl,by omega⟩)⟩]
   simp only [decide_eq_false h7] at hV
   replace hV:=Lib.hid hV
   clear sN h3 h4 h7
   go_enter Tryz.func92,Tryz.ntmps92
   go_wp2_with (first | (go_at_call 120; refine (hK.out _).mono ?_; rintro e w' ⟨rfl,rfl⟩) | (go_at_call 121; refine (hI.out _).mono ?_; rintro e w' ⟨rfl,rfl⟩) | (go_at_call 122; refine (hV.out _).mono ?_; rintro e w' ⟨rfl,rfl⟩))
   go_ret
   exact ⟨rfl,hB.out⟩
 ·rw [if_neg (by omega)]
  replace hV:=Lib.hid hV
  clear sN h4
  go_enter Tryz.func92,Tryz.ntmps92
  go_wp2_with (first | (go_at_call 120; refine (hK.out _).mono ?_; rintro e w' ⟨rfl,rfl⟩) | (go_at_call 121; refine (hI.out _).mono ?_; rintro e w' ⟨rfl,rfl⟩) | (go_at_call 122; refine (hV.out _).mono ?_; rintro e w' ⟨rfl,rfl⟩))
  go_ret
  exact ⟨rfl,hB.out⟩
section
variable {w w' w3 w4:World} {a:Cp} {C:Cl} {F:Fr} {f:Nat} {e:Int}
abbrev vo:Gt.Ga:=⟨0,0,0,0⟩
abbrev ya:Pu.Qa:=⟨0,0,0⟩
abbrev vp:Zr.Ra:=⟨0,.nilIface,⟨0,.nilIface,.nilIface,0,0,none,0,0,none,0,[],none,0,[]⟩,⟨0,.nilIface,0,0⟩⟩
theorem MJ {c:Ct} (h:di c=0):0<=c.kind/\c.kind<=3:=by
 unfold di at h
 by_cases q:c.kind<0\/3<c.kind
 ·rw [if_pos q] at h; simp at h
 ·omega
theorem MK {f:Nat} (h:l8 w a e F):l8 w {a with f:=f} e F:=by cases F<;>exact h
theorem ML {f x:Nat} (h:oq {a with f:=f} F x):oq a F x:=by cases F<;>exact h
theorem MM (h:l8 w a e F):∃ T v,a.tv=.iface T v:=by
 cases F with
 | ref=>exact ⟨_,_,h⟩
 | get G=>exact ⟨_,_,h.1⟩
 | put P=>exact ⟨_,_,h.1⟩
 | del D=>exact ⟨_,_,h.1⟩
 | rz R=>exact ⟨_,_,h.1⟩
def MN (i:Nat) (c:Ct) (F:Fr):Prop:=(di c≠0->F=.ref)/\
 (di c=0->F≠.ref/\(c.kind=0->F=.get (Gt.mJ i c.key))/\(c.kind=1->∃ h,F=.put (Pu.jQ h i c.key c.val))/\(c.kind=2->∃ h,F=.del (Dl.kl h i c.key))/\(c.kind=3->F=.rz (Zr.bR i c.size)))
def tE (w:World) (i:Nat) (c:Ct) (e:Ending) (w':World):Prop:=∃ (a:Cp) (F:Fr),e=.returned a.tv/\MN i c F/\l8 w' a (di c) F/\(∀ x,oq a F x->w.heap.size<=x)/\Below w.heap.size w w'
end
set_option maxHeartbeats 2000000 in
theorem MO (i:Nat) (c:Ct) (hk:c.key.size<=maxLen) (w:World):Calls Tryz.prog 69 #[.int .i64 i,.agg #[.int .i64 c.kind,.string c.key,.string c.val,.int .i64 c.size]] w (tE w i c):=by
 have hC:=Lib.hid (fun w=>show Calls Tryz.prog 92 #[.agg #[.int .i64 c.kind,.string c.key,.string c.val,.int .i64 c.size]] w (fun e w'=>e=.returned (.int .i64 (di c))/\Below w.heap.size w w') from MI c w)
 have ur:=Lib.hid (fun h=>MJ (c:=c) h)
 obtain ⟨w1,aO⟩:∃ w1,w1=w.alloc (.cells #[.int .i64 c.kind,.string c.key,.string c.val,.int .i64 c.size] 31):=⟨_,rfl⟩
 have b1:af w1 w.heap.size 31 #[.int .i64 c.kind,.string c.key,.string c.val,.int .i64 c.size]:=by rw [aO]; exact af.made w _ _
 have d1:Below w.heap.size w w1:=by rw [aO]; exact below_1 _ _
 obtain ⟨p,hp⟩:∃ p,p=w.heap.size:=⟨_,rfl⟩
 rw [<-hp] at b1
 have p0:=b1.cell 0
 have p1:=b1.cell 1
 have p2:=b1.cell 2
 have p3:=b1.cell 3
 simp at p0 p1 p2 p3
 have lp:=b1.lt
 go_enter Tryz.func69,Tryz.ntmps69
 go_upto_region 1 with (fail)
 rw [<-aO,<-hp]
 clear aO hp
 go_upto_region 2 with (go_at_call 92; refine (hC.out _).mono ?_; rintro e w2 ⟨rfl,au⟩)
 have d2:=Lib.hid (d1.trans (au.mono d1.size))
 have b4:=b1.only (ab.aD au (fun _=>False)) (by simp)
 have p0:=b4.cell 0
 have p1:=b4.cell 1
 have p2:=b4.cell 2
 have p3:=b4.cell 3
 simp at p0 p1 p2 p3
 have lp:=b4.lt
 clear b1 d1 hC au b4
 by_cases h0:di c=0
 case neg=>
  have hE:Hid (tE w i c (.returned (.iface 176 (.agg #[.int .i64 (di c)]))) w2):=Lib.hid ⟨⟨0,.iface 176 (iU (di c)),vo,ya,vp⟩,.ref,rfl,⟨fun _=>rfl,fun q=>absurd q h0⟩,rfl,fun x hx=>absurd hx (fun q=>q),d2.out⟩
  clear ur d2
  go_wp2_with fail
  go_ret
  exact hE.out
 obtain ⟨k1,k2⟩:=ur.out h0
 have dB:=Lib.hid h0
 clear ur
 have cg:c.kind=0\/c.kind=1\/c.kind=2\/c.kind=3:=by omega
 clear k1 k2
 rcases cg with cg | cg | cg | cg
 ·have hN:=Lib.hid (Gt.mN i c.key hk w2)
  have nP:=Lib.hid cg
  rw [cg] at p0
  clear cg
  go_wp2_with fail
  refine hN.out.mono ?_
  rintro e w4 ⟨a,rfl,hG,hl,hb⟩
  have hE:Hid (tE w i c (.returned (.iface 177 (ptr a.f))) w4):=Lib.hid (by
   have cg:=nP.out
   have h0:=dB.out
   refine ⟨⟨0,.iface 177 (ptr a.f),a,ya,vp⟩,.get (Gt.mJ i c.key),rfl,⟨fun q=>absurd h0 q,fun _=>⟨by simp,fun _=>rfl,fun q=>by omega,fun q=>by omega,fun q=>by omega⟩⟩,⟨rfl,hG⟩,fun x hx=>Nat.le_trans d2.out.size (hl x hx),d2.out.trans (hb.mono d2.out.size)⟩)
  clear hN hG hl hb d2 hk p0 p1 p2 p3 lp nP h0 dB
  go_wp2_with fail
  go_ret
  exact hE.out
 ·have hN:=Lib.hid (Pu.mN i c.key c.val hk w2)
  have nP:=Lib.hid cg
  rw [cg] at p0
  clear cg
  go_wp2_with fail
  refine hN.out.mono ?_
  rintro e w4 ⟨a,h,rfl,hG,hl,hb⟩
  have hE:Hid (tE w i c (.returned (.iface 179 (ptr a.f))) w4):=Lib.hid (by
   have cg:=nP.out
   have h0:=dB.out
   refine ⟨⟨0,.iface 179 (ptr a.f),vo,a,vp⟩,.put (Pu.jQ h i c.key c.val),rfl,⟨fun q=>absurd h0 q,fun _=>⟨by simp,fun q=>by omega,fun _=>⟨h,rfl⟩,fun q=>by omega,fun q=>by omega⟩⟩,⟨rfl,hG⟩,fun x hx=>Nat.le_trans d2.out.size (hl x hx),d2.out.trans (hb.mono d2.out.size)⟩)
  clear hN hG hl hb d2 hk p0 p1 p2 p3 lp nP h0 dB
  go_wp2_with fail
  go_ret
  exact hE.out
 ·have hN:=Lib.hid (Dl.mN i c.key hk w2)
  have nP:=Lib.hid cg
  rw [cg] at p0
  clear cg
  go_wp2_with fail
  refine hN.out.mono ?_
  rintro e w4 ⟨a,h,rfl,hG,hl,hb⟩
  have hE:Hid (tE w i c (.returned (.iface 164 (ptr a.f))) w4):=Lib.hid (by
   have cg:=nP.out
   have h0:=dB.out
   refine ⟨⟨0,.iface 164 (ptr a.f),vo,a,vp⟩,.del (Dl.kl h i c.key),rfl,⟨fun q=>absurd h0 q,fun _=>⟨by simp,fun q=>by omega,fun q=>by omega,fun _=>⟨h,rfl⟩,fun q=>by omega⟩⟩,⟨rfl,hG⟩,fun x hx=>Nat.le_trans d2.out.size (hl x hx),d2.out.trans (hb.mono d2.out.size)⟩)
  clear hN hG hl hb d2 hk p0 p1 p2 p3 lp nP h0 dB
  go_wp2_with fail
  go_ret
  exact hE.out
 ·have hN:=Lib.hid (FB i c.size w2)
  have nP:=Lib.hid cg
  rw [cg] at p0
  clear cg
  go_wp2_with fail
  refine hN.out.mono ?_
  rintro e w4 ⟨a,rfl,hG,hl,hb⟩
  have hE:Hid (tE w i c (.returned (.iface 137 (ptr (dk.f a)))) w4):=Lib.hid (by
   have cg:=nP.out
   have h0:=dB.out
   refine ⟨⟨0,.iface 137 (ptr (dk.f a)),vo,ya,a⟩,.rz (Zr.bR i c.size),rfl,⟨fun q=>absurd h0 q,fun _=>⟨by simp,fun q=>by omega,fun q=>by omega,fun q=>by omega,fun _=>rfl⟩⟩,⟨rfl,hG⟩,fun x hx=>Nat.le_trans d2.out.size (hl x hx),d2.out.trans (hb.mono d2.out.size)⟩)
  clear hN hG hl hb d2 hk p0 p1 p2 p3 lp nP h0 dB
  go_wp2_with fail
  go_ret
  exact hE.out
def A9 (w:World) (i:Nat) (c:Ct) (e:Ending) (w':World):Prop:=∃ (a:Cp) (C:Cl),e=.returned (ptr (cy.f a))/\jA i c C/\cy.At w' a C/\(∀ x,cy.aR a C x->w.heap.size<=x)/\Below w.heap.size w w'
set_option maxHeartbeats 2000000 in
theorem FC (i:Nat) (c:Ct) (hk:c.key.size<=maxLen) (w:World):Calls Tryz.prog 52 #[.int .i64 i,o8 c] w fun e w'=>∃ (a:Cp) (C:Cl),e=.returned (ptr (cy.f a))/\jA i c C/\cy.At w' a C/\(∀ x,cy.aR a C x->w.heap.size<=x)/\Below w.heap.size w w':=by
 have hF:=Lib.hid (fun w=>MO i c hk w)
 show Calls Tryz.prog 52 #[.int .i64 i,.agg #[.int .i64 c.kind,.string c.key,.string c.val,.int .i64 c.size]] w (A9 w i c)
 obtain ⟨w1,aO⟩:∃ w1,w1=w.alloc (.cells #[.int .i64 c.kind,.string c.key,.string c.val,.int .i64 c.size] 31):=⟨_,rfl⟩
 have b1:af w1 w.heap.size 31 #[.int .i64 c.kind,.string c.key,.string c.val,.int .i64 c.size]:=by rw [aO]; exact af.made w _ _
 have d1:Below w.heap.size w w1:=by rw [aO]; exact below_1 _ _
 obtain ⟨p,hp⟩:∃ p,p=w.heap.size:=⟨_,rfl⟩
 rw [<-hp] at b1
 have p0:=b1.cell 0
 have p1:=b1.cell 1
 have p2:=b1.cell 2
 have p3:=b1.cell 3
 simp at p0 p1 p2 p3
 have lp:=b1.lt
 go_enter Tryz.func52,Tryz.ntmps52
 go_upto_region 1 with (fail)
 rw [<-aO,<-hp]
 clear aO hp
 go_wp2_with (go_at_call 69; refine (hF.out _).mono ?_; rintro e w2 ⟨a,F,rfl,hI,hIn,hl,hb⟩; obtain ⟨T,v,Dg⟩:=MM hIn; rw [Dg])
 have hE:Hid (A9 w i c (.returned (ptr w2.heap.size)) (w2.alloc (.cells #[.iface T v,.bool false] 118))):=Lib.hid (by
  have d2:=d1.trans (hb.mono d1.size)
  rw [<-Dg]
  have h3:=below_1 w2 (.cells #[a.tv,.bool false] 118)
  refine ⟨{a with f:=w2.heap.size},⟨F,di c,false⟩,rfl,⟨rfl,rfl,hI.1,fun q=>(hI.2 q).2⟩,⟨Blk.made w2 _ _,?_,fun q=>?_⟩,fun x hx=>?_,d2.trans (h3.mono d2.size)⟩
  ·exact A5 (MK hIn) (ab.aD h3 (fun _=>False)) (by simp)
  ·by_cases h0:di c=0
   ·exact h0
   ·exact absurd (hI.1 h0) q
  ·rcases hx with rfl | hx
   ·exact d2.size
   ·exact Nat.le_trans d1.size (hl x (ML hx)))
 clear hF b1 d1 hI hIn hl hb p0 p1 p2 p3 lp Dg
 go_wp2_with fail
 go_ret
 exact hE.out
end Go.Proofs.YtpanebgakndddaaGreat.Ca
namespace Go.Proofs.YtpanebgakndddaaGreat.Ca
open Go Go.RowKit Hp K Fl Rw Hm Ar Mm Me LK Qs Wk Pc Pn Mq Pu Zp Mx cK Bs Zr
set_option maxRecDepth 100000
theorem MP (b:Nat) (w:World):(Instr.typeAssert (.iface 177 (ptr b)) 116 177 true).run Tryz.prog w=.ok (.tuple #[ptr b,.bool true]) w:=by kernel_rfl
theorem MQ (b:Nat) (w:World):(Instr.typeAssert (.iface 179 (ptr b)) 116 177 true).run Tryz.prog w=.ok (.tuple #[.pointer none,.bool false]) w:=by kernel_rfl
theorem MR (b:Nat) (w:World):(Instr.typeAssert (.iface 179 (ptr b)) 116 179 true).run Tryz.prog w=.ok (.tuple #[ptr b,.bool true]) w:=by kernel_rfl
theorem MS (b:Nat) (w:World):(Instr.typeAssert (.iface 164 (ptr b)) 116 177 true).run Tryz.prog w=.ok (.tuple #[.pointer none,.bool false]) w:=by kernel_rfl
theorem MT (b:Nat) (w:World):(Instr.typeAssert (.iface 164 (ptr b)) 116 179 true).run Tryz.prog w=.ok (.tuple #[.pointer none,.bool false]) w:=by kernel_rfl
theorem MU (b:Nat) (w:World):(Instr.typeAssert (.iface 164 (ptr b)) 116 164 true).run Tryz.prog w=.ok (.tuple #[ptr b,.bool true]) w:=by kernel_rfl
theorem MV (b:Nat) (w:World):(Instr.typeAssert (.iface 137 (ptr b)) 116 177 true).run Tryz.prog w=.ok (.tuple #[.pointer none,.bool false]) w:=by kernel_rfl
theorem MW (b:Nat) (w:World):(Instr.typeAssert (.iface 137 (ptr b)) 116 179 true).run Tryz.prog w=.ok (.tuple #[.pointer none,.bool false]) w:=by kernel_rfl
theorem MX (b:Nat) (w:World):(Instr.typeAssert (.iface 137 (ptr b)) 116 164 true).run Tryz.prog w=.ok (.tuple #[.pointer none,.bool false]) w:=by kernel_rfl
theorem MY (b:Nat) (w:World):(Instr.typeAssert (.iface 137 (ptr b)) 116 137 true).run Tryz.prog w=.ok (.tuple #[ptr b,.bool true]) w:=by kernel_rfl
theorem MZ (e:Int) (w:World):(Instr.typeAssert (.iface 176 (iU e)) 116 177 true).run Tryz.prog w=.ok (.tuple #[.pointer none,.bool false]) w:=by kernel_rfl
theorem M3 (e:Int) (w:World):(Instr.typeAssert (.iface 176 (iU e)) 116 179 true).run Tryz.prog w=.ok (.tuple #[.pointer none,.bool false]) w:=by kernel_rfl
theorem M6 (e:Int) (w:World):(Instr.typeAssert (.iface 176 (iU e)) 116 164 true).run Tryz.prog w=.ok (.tuple #[.pointer none,.bool false]) w:=by kernel_rfl
theorem M7 (e:Int) (w:World):(Instr.typeAssert (.iface 176 (iU e)) 116 137 true).run Tryz.prog w=.ok (.tuple #[.pointer none,.bool false]) w:=by kernel_rfl
theorem M8 (e:Int) (w:World):(Instr.typeAssert (.iface 176 (iU e)) 116 176 true).run Tryz.prog w=.ok (.tuple #[iU e,.bool true]) w:=by kernel_rfl
section
variable {w w':World} {a:Cp} {C:Cl} {f b:Nat} {tv:Value} {e:Int}
theorem Mb (hb:af w f 118 (lh tv false)):Calls Tryz.prog 53 #[ptr f] w fun e w'=>e=.returned (.tuple #[.agg #[.int .i64 0,.bool false,.string ⟨#[]⟩],.bool false])/\Below w.heap.size w w':=by
 obtain ⟨w1,aO⟩:∃ w1,w1=w.alloc (.cells #[.int .i64 0,.bool false,.string ⟨#[]⟩] 44):=⟨_,rfl⟩
 have b1:af w1 w.heap.size 44 #[.int .i64 0,.bool false,.string ⟨#[]⟩]:=by rw [aO]; exact af.made w _ _
 have d1:Below w.heap.size w w1:=by rw [aO]; exact below_1 _ _
 have ax:=hb.only (ab.aD d1 (fun _=>False)) (by simp)
 have c2:=(qq ax).2
 have lf:=ax.lt
 have aH:f≠w.heap.size:=fun q=>by have:=hb.lt; omega
 obtain ⟨q,hq⟩:∃ q,q=w.heap.size:=⟨_,rfl⟩
 have iJ:w.heap.size<=q:=by omega
 rw [<-hq] at b1 aH
 have g0:=b1.cell 0
 have g1:=b1.cell 1
 have g2:=b1.cell 2
 have z0:=b1.frozen 0
 have z1:=b1.frozen 1
 have z2:=b1.frozen 2
 simp at g0 g1 g2
 have lq:=b1.lt
 have hB:=Lib.hid (((d1.setCell (p:=⟨q,0,none⟩) iJ (.int .i64 0)).setCell (p:=⟨q,1,none⟩) iJ (.bool false)).setCell (p:=⟨q,2,none⟩) iJ (.string ⟨#[]⟩))
 clear hb ax b1 d1 iJ
 go_enter Tryz.func53,Tryz.ntmps53
 go_upto_region 1 with (fail)
 rw [<-aO,<-hq]
 clear aO hq
 go_wp2_with fail
 exact bodyPost_ret (v:=.tuple #[.agg #[.int .i64 0,.bool false,.string ⟨#[]⟩],.bool false]) (by simp [results,Tryz.results53,go_sem,g0,g1,g2]) rfl ⟨rfl,hB.out⟩
theorem Mc {e1:Int} {h:Bool} {v:ByteArray} (hb:af w f 118 (lh tv true)) (hA:∀ wx,Below w.heap.size w wx->Calls Tryz.prog 70 #[tv] wx fun e' w'=>e'=.returned (.agg #[.int .i64 e1,.bool h,.string v])/\Below wx.heap.size wx w'):
 Calls Tryz.prog 53 #[ptr f] w fun e' w'=>e'=.returned (.tuple #[.agg #[.int .i64 e1,.bool h,.string v],.bool true])/\Below w.heap.size w w':=by
 obtain ⟨w1,aO⟩:∃ w1,w1=w.alloc (.cells #[.int .i64 0,.bool false,.string ⟨#[]⟩] 44):=⟨_,rfl⟩
 have b1:af w1 w.heap.size 44 #[.int .i64 0,.bool false,.string ⟨#[]⟩]:=by rw [aO]; exact af.made w _ _
 have d1:Below w.heap.size w w1:=by rw [aO]; exact below_1 _ _
 have bH:=Lib.hid (hA w1 d1)
 have ax:=hb.only (ab.aD d1 (fun _=>False)) (by simp)
 have c0:=(qq ax).1
 have c2:=(qq ax).2
 have lf:=ax.lt
 obtain ⟨q,hq⟩:∃ q,q=w.heap.size:=⟨_,rfl⟩
 have iJ:w.heap.size<=q:=by omega
 rw [<-hq] at b1
 clear hb ax hA
 go_enter Tryz.func53,Tryz.ntmps53
 go_upto_region 1 with (fail)
 rw [<-aO,<-hq]
 clear aO hq
 go_wp2_with fail
 refine bH.out.mono ?_
 rintro e w3 ⟨rfl,aZ⟩
 have b3:=b1.only (ab.aD aZ (fun _=>False)) (by simp)
 have hB:=Lib.hid (d1.trans (aZ.mono d1.size))
 clear bH aZ b1 d1
 clear c0 c2 lf
 have g0:=b3.cell 0
 have g1:=b3.cell 1
 have g2:=b3.cell 2
 have z0:=b3.frozen 0
 have z1:=b3.frozen 1
 have z2:=b3.frozen 2
 simp at g0 g1 g2
 have lq:=b3.lt
 clear b3
 go_wp2_with fail
 refine bodyPost_ret (v:=.tuple #[.agg #[.int .i64 e1,.bool h,.string v],.bool true]) (by simp [results,Tryz.results53,go_sem,g0,g1,g2]) rfl ⟨rfl,?_⟩
 repeat' first | exact hB.out | (refine Below.setCell ?_ ?_ _) | exact iJ
set_option maxHeartbeats 1000000 in
theorem Mf {v:ByteArray} {h:Bool} (hF:∀ wx,Below w.heap.size w wx->Calls Tryz.prog 95 #[ptr b] wx fun e' w'=>e'=.returned (.tuple #[.string v,.bool h])/\Below wx.heap.size wx w'):
 Calls Tryz.prog 70 #[.iface 177 (ptr b)] w fun e' w'=>e'=.returned (.agg #[.int .i64 0,.bool h,.string v])/\Below w.heap.size w w':=by
 obtain ⟨w1,aO⟩:∃ w1,w1=w.alloc (.cells #[.int .i64 0,.bool false,.string ⟨#[]⟩] 44):=⟨_,rfl⟩
 have b1:af w1 w.heap.size 44 #[.int .i64 0,.bool false,.string ⟨#[]⟩]:=by rw [aO]; exact af.made w _ _
 have d1:Below w.heap.size w w1:=by rw [aO]; exact below_1 _ _
 have aP:=Lib.hid (hF w1 d1)
 obtain ⟨q,hq⟩:∃ q,q=w.heap.size:=⟨_,rfl⟩
 have iJ:w.heap.size<=q:=by omega
 rw [<-hq] at b1
 have ta0:=MP b
 clear hF
 go_enter Tryz.func70,Tryz.ntmps70
 go_upto_region 1 with (fail)
 rw [<-aO,<-hq]
 clear aO hq
 go_wp2_with fail
 refine aP.out.mono ?_
 rintro e w3 ⟨rfl,aZ⟩
 have b3:=b1.only (ab.aD aZ (fun _=>False)) (by simp)
 have hB:=Lib.hid (d1.trans (aZ.mono d1.size))
 clear aP aZ b1 d1
 have g0:=b3.cell 0
 have g1:=b3.cell 1
 have g2:=b3.cell 2
 have z0:=b3.frozen 0
 have z1:=b3.frozen 1
 have z2:=b3.frozen 2
 simp at g0 g1 g2
 have lq:=b3.lt
 clear b3
 go_wp2_with fail
 refine bodyPost_ret (v:=.agg #[.int .i64 0,.bool h,.string v]) (by simp [results,Tryz.results70,go_sem,g0,g1,g2]) rfl ⟨rfl,?_⟩
 repeat' first | exact hB.out | (refine Below.setCell ?_ ?_ _) | exact iJ
set_option maxHeartbeats 1000000 in
theorem Fe {h:Bool} (hF:∀ wx,Below w.heap.size w wx->Calls Tryz.prog 96 #[ptr b] wx fun e' w'=>e'=.returned (.agg #[.int .i64 e,.bool h,.string ⟨#[]⟩])/\Below wx.heap.size wx w'):
 Calls Tryz.prog 70 #[.iface 179 (ptr b)] w fun e' w'=>e'=.returned (.agg #[.int .i64 e,.bool h,.string ⟨#[]⟩])/\Below w.heap.size w w':=by
 obtain ⟨w1,aO⟩:∃ w1,w1=w.alloc (.cells #[.int .i64 0,.bool false,.string ⟨#[]⟩] 44):=⟨_,rfl⟩
 have b1:af w1 w.heap.size 44 #[.int .i64 0,.bool false,.string ⟨#[]⟩]:=by rw [aO]; exact af.made w _ _
 have d1:Below w.heap.size w w1:=by rw [aO]; exact below_1 _ _
 have aP:=Lib.hid (hF w1 d1)
 obtain ⟨q,hq⟩:∃ q,q=w.heap.size:=⟨_,rfl⟩
 have iJ:w.heap.size<=q:=by omega
 rw [<-hq] at b1
 have ta0:=MQ b
 have ta1:=MR b
 clear hF
 go_enter Tryz.func70,Tryz.ntmps70
 go_upto_region 1 with (fail)
 rw [<-aO,<-hq]
 clear aO hq
 go_wp2_with fail
 refine aP.out.mono ?_
 rintro e w3 ⟨rfl,aZ⟩
 have b3:=b1.only (ab.aD aZ (fun _=>False)) (by simp)
 have hB:=Lib.hid (d1.trans (aZ.mono d1.size))
 clear aP aZ b1 d1
 have g0:=b3.cell 0
 have g1:=b3.cell 1
 have g2:=b3.cell 2
 have z0:=b3.frozen 0
 have z1:=b3.frozen 1
 have z2:=b3.frozen 2
 simp at g0 g1 g2
 have lq:=b3.lt
 clear b3
 go_wp2_with fail
 refine bodyPost_ret (v:=.agg #[.int .i64 e,.bool h,.string ⟨#[]⟩]) (by simp [results,Tryz.results70,go_sem,g0,g1,g2]) rfl ⟨rfl,?_⟩
 repeat' first | exact hB.out | (refine Below.setCell ?_ ?_ _) | exact iJ
set_option maxHeartbeats 1000000 in
theorem Mg {v:ByteArray} {h:Bool} (hF:∀ wx,Below w.heap.size w wx->Calls Tryz.prog 82 #[ptr b] wx fun e' w'=>e'=.returned (.tuple #[.string v,.bool h])/\Below wx.heap.size wx w'):
 Calls Tryz.prog 70 #[.iface 164 (ptr b)] w fun e' w'=>e'=.returned (.agg #[.int .i64 0,.bool h,.string v])/\Below w.heap.size w w':=by
 obtain ⟨w1,aO⟩:∃ w1,w1=w.alloc (.cells #[.int .i64 0,.bool false,.string ⟨#[]⟩] 44):=⟨_,rfl⟩
 have b1:af w1 w.heap.size 44 #[.int .i64 0,.bool false,.string ⟨#[]⟩]:=by rw [aO]; exact af.made w _ _
 have d1:Below w.heap.size w w1:=by rw [aO]; exact below_1 _ _
 have aP:=Lib.hid (hF w1 d1)
 obtain ⟨q,hq⟩:∃ q,q=w.heap.size:=⟨_,rfl⟩
 have iJ:w.heap.size<=q:=by omega
 rw [<-hq] at b1
 have ta0:=MS b
 have ta1:=MT b
 have ta2:=MU b
 clear hF
 go_enter Tryz.func70,Tryz.ntmps70
 go_upto_region 1 with (fail)
 rw [<-aO,<-hq]
 clear aO hq
 go_wp2_with fail
 refine aP.out.mono ?_
 rintro e w3 ⟨rfl,aZ⟩
 have b3:=b1.only (ab.aD aZ (fun _=>False)) (by simp)
 have hB:=Lib.hid (d1.trans (aZ.mono d1.size))
 clear aP aZ b1 d1
 have g0:=b3.cell 0
 have g1:=b3.cell 1
 have g2:=b3.cell 2
 have z0:=b3.frozen 0
 have z1:=b3.frozen 1
 have z2:=b3.frozen 2
 simp at g0 g1 g2
 have lq:=b3.lt
 clear b3
 go_wp2_with fail
 refine bodyPost_ret (v:=.agg #[.int .i64 0,.bool h,.string v]) (by simp [results,Tryz.results70,go_sem,g0,g1,g2]) rfl ⟨rfl,?_⟩
 repeat' first | exact hB.out | (refine Below.setCell ?_ ?_ _) | exact iJ
set_option maxHeartbeats 1000000 in
theorem Mh (hF:∀ wx,Below w.heap.size w wx->Calls Tryz.prog 63 #[ptr b] wx fun e' w'=>e'=.returned (.int .i64 e)/\Below wx.heap.size wx w'):
 Calls Tryz.prog 70 #[.iface 137 (ptr b)] w fun e' w'=>e'=.returned (.agg #[.int .i64 e,.bool false,.string ⟨#[]⟩])/\Below w.heap.size w w':=by
 obtain ⟨w1,aO⟩:∃ w1,w1=w.alloc (.cells #[.int .i64 0,.bool false,.string ⟨#[]⟩] 44):=⟨_,rfl⟩
 have b1:af w1 w.heap.size 44 #[.int .i64 0,.bool false,.string ⟨#[]⟩]:=by rw [aO]; exact af.made w _ _
 have d1:Below w.heap.size w w1:=by rw [aO]; exact below_1 _ _
 have aP:=Lib.hid (hF w1 d1)
 obtain ⟨q,hq⟩:∃ q,q=w.heap.size:=⟨_,rfl⟩
 have iJ:w.heap.size<=q:=by omega
 rw [<-hq] at b1
 have ta0:=MV b
 have ta1:=MW b
 have ta2:=MX b
 have ta3:=MY b
 clear hF
 go_enter Tryz.func70,Tryz.ntmps70
 go_upto_region 1 with (fail)
 rw [<-aO,<-hq]
 clear aO hq
 go_wp2_with fail
 refine aP.out.mono ?_
 rintro e w3 ⟨rfl,aZ⟩
 have b3:=b1.only (ab.aD aZ (fun _=>False)) (by simp)
 have hB:=Lib.hid (d1.trans (aZ.mono d1.size))
 clear aP aZ b1 d1
 have g0:=b3.cell 0
 have g1:=b3.cell 1
 have g2:=b3.cell 2
 have z0:=b3.frozen 0
 have z1:=b3.frozen 1
 have z2:=b3.frozen 2
 simp at g0 g1 g2
 have lq:=b3.lt
 clear b3
 go_wp2_with fail
 refine bodyPost_ret (v:=.agg #[.int .i64 e,.bool false,.string ⟨#[]⟩]) (by simp [results,Tryz.results70,go_sem,g0,g1,g2]) rfl ⟨rfl,?_⟩
 repeat' first | exact hB.out | (refine Below.setCell ?_ ?_ _) | exact iJ
set_option maxHeartbeats 1000000 in
theorem Md:
 Calls Tryz.prog 70 #[.iface 176 (iU e)] w fun e' w'=>e'=.returned (.agg #[.int .i64 e,.bool false,.string ⟨#[]⟩])/\Below w.heap.size w w':=by
 obtain ⟨w1,aO⟩:∃ w1,w1=w.alloc (.cells #[.int .i64 0,.bool false,.string ⟨#[]⟩] 44):=⟨_,rfl⟩
 have b1:af w1 w.heap.size 44 #[.int .i64 0,.bool false,.string ⟨#[]⟩]:=by rw [aO]; exact af.made w _ _
 have d1:Below w.heap.size w w1:=by rw [aO]; exact below_1 _ _
 obtain ⟨q,hq⟩:∃ q,q=w.heap.size:=⟨_,rfl⟩
 have iJ:w.heap.size<=q:=by omega
 rw [<-hq] at b1
 have ta0:=MZ e
 have ta1:=M3 e
 have ta2:=M6 e
 have ta3:=M7 e
 have ta4:=M8 e
 obtain ⟨w2,bl⟩:∃ w2,w2=w1.alloc (.cells #[.int .i64 e] 176):=⟨_,rfl⟩
 have b2:af w2 w1.heap.size 176 #[.int .i64 e]:=by rw [bl]; exact af.made w1 _ _
 have d2:Below w1.heap.size w1 w2:=by rw [bl]; exact below_1 _ _
 have b3:=b1.only (ab.aD d2 (fun _=>False)) (by simp)
 have hB:=Lib.hid (d1.trans (d2.mono d1.size))
 have r0:=b2.cell 0
 simp at r0
 have lr:=b2.lt
 clear b1 b2 d1 d2
 go_enter Tryz.func70,Tryz.ntmps70
 go_upto_region 1 with (fail)
 rw [<-aO,<-hq]
 clear aO hq
 go_upto_region 18 with (fail)
 rw [<-bl]
 obtain ⟨rb,Jt⟩:∃ rb,rb=w1.heap.size:=⟨_,rfl⟩
 rw [<-Jt] at r0 lr ⊢
 clear bl Jt ta0 ta1 ta2 ta3 ta4
 have g0:=b3.cell 0
 have g1:=b3.cell 1
 have g2:=b3.cell 2
 have z0:=b3.frozen 0
 have z1:=b3.frozen 1
 have z2:=b3.frozen 2
 simp at g0 g1 g2
 have lq:=b3.lt
 clear b3
 go_wp2_with fail
 refine bodyPost_ret (v:=.agg #[.int .i64 e,.bool false,.string ⟨#[]⟩]) (by simp [results,Tryz.results70,go_sem,g0,g1,g2]) rfl ⟨rfl,?_⟩
 repeat' first | exact hB.out | (refine Below.setCell ?_ ?_ _) | exact iJ
set_option maxHeartbeats 1000000 in
theorem Mj (he:e≠0) (hF:∀ wx,Below w.heap.size w wx->Calls Tryz.prog 110 #[ptr b] wx fun e' w'=>e'=.returned (.int .i64 e)/\Below wx.heap.size wx w')
 :
 Calls Tryz.prog 96 #[ptr b] w fun e' w'=>e'=.returned (.agg #[.int .i64 e,.bool false,.string ⟨#[]⟩])/\Below w.heap.size w w':=by
 obtain ⟨w1,aO⟩:∃ w1,w1=w.alloc (.cells #[.int .i64 0,.bool false,.string ⟨#[]⟩] 44):=⟨_,rfl⟩
 have b1:af w1 w.heap.size 44 #[.int .i64 0,.bool false,.string ⟨#[]⟩]:=by rw [aO]; exact af.made w _ _
 have d1:Below w.heap.size w w1:=by rw [aO]; exact below_1 _ _
 have aP:=Lib.hid (hF w1 d1)
 obtain ⟨q,hq⟩:∃ q,q=w.heap.size:=⟨_,rfl⟩
 have iJ:w.heap.size<=q:=by omega
 rw [<-hq] at b1
 clear hF
 go_enter Tryz.func96,Tryz.ntmps96
 go_upto_region 1 with (fail)
 rw [<-aO,<-hq]
 clear aO hq
 go_wp2_with fail
 refine aP.out.mono ?_
 rintro e w3 ⟨rfl,aZ⟩
 have b3:=b1.only (ab.aD aZ (fun _=>False)) (by simp)
 have hB:=Lib.hid (d1.trans (aZ.mono d1.size))
 clear aP aZ b1 d1
 have g0:=b3.cell 0
 have g1:=b3.cell 1
 have g2:=b3.cell 2
 have z0:=b3.frozen 0
 have z1:=b3.frozen 1
 have z2:=b3.frozen 2
 simp at g0 g1 g2
 have lq:=b3.lt
 clear b3
 go_wp2_with fail
 refine bodyPost_ret (v:=.agg #[.int .i64 e,.bool false,.string ⟨#[]⟩]) (by simp [results,Tryz.results96,go_sem,g0,g1,g2]) rfl ⟨rfl,?_⟩
 repeat' first | exact hB.out | (refine Below.setCell ?_ ?_ _) | exact iJ
set_option maxHeartbeats 1000000 in
theorem Mi {h:Bool} (hF:∀ wx,Below w.heap.size w wx->Calls Tryz.prog 110 #[ptr b] wx fun e' w'=>e'=.returned (.int .i64 0)/\Below wx.heap.size wx w')
 (hH:∀ wx,Below w.heap.size w wx->Calls Tryz.prog 111 #[ptr b] wx fun e w'=>e=.returned (.bool h)/\Below wx.heap.size wx w'):
 Calls Tryz.prog 96 #[ptr b] w fun e' w'=>e'=.returned (.agg #[.int .i64 0,.bool h,.string ⟨#[]⟩])/\Below w.heap.size w w':=by
 obtain ⟨w1,aO⟩:∃ w1,w1=w.alloc (.cells #[.int .i64 0,.bool false,.string ⟨#[]⟩] 44):=⟨_,rfl⟩
 have b1:af w1 w.heap.size 44 #[.int .i64 0,.bool false,.string ⟨#[]⟩]:=by rw [aO]; exact af.made w _ _
 have d1:Below w.heap.size w w1:=by rw [aO]; exact below_1 _ _
 have aP:=Lib.hid (hF w1 d1)
 obtain ⟨q,hq⟩:∃ q,q=w.heap.size:=⟨_,rfl⟩
 have iJ:w.heap.size<=q:=by omega
 rw [<-hq] at b1
 clear hF
 replace hH:=Lib.hid hH
 go_enter Tryz.func96,Tryz.ntmps96
 go_upto_region 1 with (fail)
 rw [<-aO,<-hq]
 clear aO hq
 go_wp2_with fail
 refine aP.out.mono ?_
 rintro e w2 ⟨rfl,au⟩
 have b1:=b1.only (ab.aD au (fun _=>False)) (by simp)
 have d1:=d1.trans (au.mono d1.size)
 have iK:=Lib.hid (hH.out w2 d1)
 clear aP au hH
 go_wp2_with fail
 refine iK.out.mono ?_
 rintro e w3 ⟨rfl,aZ⟩
 have b3:=b1.only (ab.aD aZ (fun _=>False)) (by simp)
 have hB:=Lib.hid (d1.trans (aZ.mono d1.size))
 clear iK aZ b1 d1
 have g0:=b3.cell 0
 have g1:=b3.cell 1
 have g2:=b3.cell 2
 have z0:=b3.frozen 0
 have z1:=b3.frozen 1
 have z2:=b3.frozen 2
 simp at g0 g1 g2
 have lq:=b3.lt
 clear b3
 go_wp2_with fail
 refine bodyPost_ret (v:=.agg #[.int .i64 0,.bool h,.string ⟨#[]⟩]) (by simp [results,Tryz.results96,go_sem,g0,g1,g2]) rfl ⟨rfl,?_⟩
 repeat' first | exact hB.out | (refine Below.setCell ?_ ?_ _) | exact iJ
end
end Go.Proofs.YtpanebgakndddaaGreat.Ca
namespace Go.Proofs.YtpanebgakndddaaGreat.Ca
open Go Go.RowKit Hp K Fl Rw Hm Ar Mm Me LK Qs Wk Pc Pn Mq Pu Zp Mx cK Bs Zr
set_option maxRecDepth 100000
theorem LW (v:Value) (x:TypeId) (w:World):(Instr.typeAssert (.iface 177 v) x 120 true).run Tryz.prog w=.ok (.tuple #[.nilIface,.bool false]) w:=run_typeAssert_lacksB Tryz.underlying120 (by kernel_rfl) (by kernel_rfl) v x w
theorem LX (v:Value) (x:TypeId) (w:World):(Instr.typeAssert (.iface 137 v) x 120 true).run Tryz.prog w=.ok (.tuple #[.nilIface,.bool false]) w:=run_typeAssert_lacksB Tryz.underlying120 (by kernel_rfl) (by kernel_rfl) v x w
theorem LY (v:Value) (x:TypeId) (w:World):(Instr.typeAssert (.iface 179 v) x 120 true).run Tryz.prog w=.ok (.tuple #[.iface 179 v,.bool true]) w:=run_typeAssert_hasB Tryz.underlying120 (by kernel_rfl) v x w
theorem LZ (v:Value) (x:TypeId) (w:World):(Instr.typeAssert (.iface 164 v) x 120 true).run Tryz.prog w=.ok (.tuple #[.iface 164 v,.bool true]) w:=run_typeAssert_hasB Tryz.underlying120 (by kernel_rfl) v x w
theorem L1 (v:Value) (x:TypeId) (w:World):(Instr.typeAssert (.iface 176 v) x 120 true).run Tryz.prog w=.ok (.tuple #[.nilIface,.bool false]) w:=run_typeAssert_lacksB Tryz.underlying120 (by kernel_rfl) (by kernel_rfl) v x w
theorem L3 (b:Nat) (w:World) (f:Nat):(method (f+1) 179 (.pointer (some ⟨b,0,none⟩)) "Mine").run Tryz.prog w=.ok (285,.pointer (some ⟨b,0,none⟩)) w:=by kernel_rfl
theorem L7 (b:Nat) (w:World) (f:Nat):(method (f+1) 164 (.pointer (some ⟨b,0,none⟩)) "Mine").run Tryz.prog w=.ok (272,.pointer (some ⟨b,0,none⟩)) w:=by kernel_rfl
theorem L9 (args:Array Value) (w:World):(callFunc 285 args).run Tryz.prog w=.ok (.enter 285 args) w:=by kernel_rfl
theorem Ma (args:Array Value) (w:World):(callFunc 272 args).run Tryz.prog w=.ok (.enter 272 args) w:=by kernel_rfl
section
variable {w w':World} {a:Cp} {C:Cl} {f b:Nat} {tv:Value} {e:Int} {d:Bool}
theorem AR (hb:af w f 118 (lh tv d)) (ht:∀ w,(Instr.typeAssert tv 116 120 true).run Tryz.prog w=.ok (.tuple #[.nilIface,.bool false]) w):
 Calls Tryz.prog 30 #[ptr f] w fun e w'=>e=.returned (.int .u64 0)/\Below w.heap.size w w':=by
 have c0:=(qq hb).1
 have lf:=hb.lt
 clear hb
 go_enter Tryz.func30,Tryz.ntmps30
 go_wp2_with fail
 go_ret
 exact ⟨rfl,Below.refl _ _⟩
theorem Fa {T:TypeId} {fm:Nat} {n:Nat} (hb:af w f 118 (lh (.iface T (ptr b)) d)) (ht:∀ w,(Instr.typeAssert (.iface T (ptr b)) 116 120 true).run Tryz.prog w=.ok (.tuple #[.iface T (ptr b),.bool true]) w)
 (mm:∀ (w:World) (f:Nat),(method (f+1) T (.pointer (some ⟨b,0,none⟩)) "Mine").run Tryz.prog w=.ok (fm,.pointer (some ⟨b,0,none⟩)) w) (em:∀ args w,(callFunc fm args).run Tryz.prog w=.ok (.enter fm args) w) (hF:Calls Tryz.prog fm #[ptr b] w fun e w'=>e=.returned (.int .u64 n)/\w=w'):
 Calls Tryz.prog 30 #[ptr f] w fun e w'=>e=.returned (.int .u64 n)/\Below w.heap.size w w':=by
 have c0:=(qq hb).1
 have lf:=hb.lt
 replace hF:=Lib.hid hF
 clear hb
 go_enter Tryz.func30,Tryz.ntmps30
 go_wp2_with fail
 refine hF.out.mono ?_
 rintro e w' ⟨rfl,rfl⟩
 go_wp2_with fail
 go_ret
 exact ⟨rfl,Below.refl _ _⟩
theorem vd (h:cy.At w a C):Calls Tryz.prog 30 #[ptr (cy.f a)] w fun e w'=>e=.returned (.int .u64 (cm C))/\Below w.heap.size w w':=by
 obtain ⟨hb,hI,h0⟩:=h
 obtain ⟨F,er,d⟩:=C
 cases F with
 | ref=>exact AR hb (fun w=>by rw [show a.tv=.iface 176 (iU er) from hI]; exact L1 _ _ w)
 | get G=>exact AR hb (fun w=>by rw [hI.1]; exact LW _ _ w)
 | rz R=>exact AR hb (fun w=>by rw [hI.1]; exact LX _ _ w)
 | put P=>
   rw [hI.1] at hb
   exact Fa hb (fun w=>LY _ _ w) (L3 _) L9 (Pu.vd hI.2)
 | del D=>
   rw [hI.1] at hb
   exact Fa hb (fun w=>LZ _ _ w) (L7 _) Ma (Dl.vd hI.2)
theorem AT (h:cy.At w a C):Calls Tryz.prog 53 #[ptr (cy.f a)] w fun e w'=>e=.returned (.tuple #[.agg #[.int .i64 (de C).1,.bool (de C).2.1,.string (de C).2.2],.bool C.done])/\Below w.heap.size w w':=by
 obtain ⟨hb,hI,h0⟩:=h
 obtain ⟨F,er,d⟩:=C
 cases d with
 | false=>exact Mb hb
 | true=>
   refine Mc hb (fun wx hx=>?_)
   cases F with
   | ref=>
     rw [show a.tv=.iface 176 (iU er) from hI]
     exact Md
   | get G=>
     rw [hI.1]
     exact Mf (fun wy hy=>Gt.Fb (hI.2.below (hx.trans (hy.mono hx.size))))
   | del D=>
     rw [hI.1]
     exact Mg (fun wy hy=>Dl.ve (hI.2.below (hx.trans (hy.mono hx.size))))
   | rz R=>
     rw [hI.1]
     exact Mh (fun wy hy=>(AU (Fc hI.2 (hx.trans (hy.mono hx.size)))).mono fun e w' q=>⟨q.1,by rw [q.2]; exact Below.refl _ _⟩)
   | put P=>
     rw [hI.1]
     by_cases hp:P.err=0
     ·have:de ⟨.put P,er,true⟩=(0,decide (P.W.found≠0),⟨#[]⟩):=by show (if P.err=0 then _ else _)=_; rw [if_pos hp]
      rw [this]
      refine Fe (fun wy hy=>?_)
      have hP:=hI.2.below (hx.trans (hy.mono hx.size))
      exact Mi (fun wz hz=>(Pu.qt (hP.below hz)).mono (fun e w' q=>⟨by rw [q.1,hp],by rw [<-q.2]; exact Below.refl _ _⟩)) (fun wz hz=>Pu.ve (hP.below hz))
     ·have:de ⟨.put P,er,true⟩=(P.err,false,⟨#[]⟩):=by show (if P.err=0 then _ else _)=_; rw [if_neg hp]
      rw [this]
      refine Fe (fun wy hy=>?_)
      have hP:=hI.2.below (hx.trans (hy.mono hx.size))
      exact Mj hp (fun wz hz=>(Pu.qt (hP.below hz)).mono (fun e w' q=>⟨q.1,by rw [<-q.2]; exact Below.refl _ _⟩))
end
end Go.Proofs.YtpanebgakndddaaGreat.Ca
namespace Go.Proofs.YtpanebgakndddaaGreat.Ca
open Go Go.RowKit Hp K Fl Rw Hm Ar Mm Me LK Qs Wk Re ff Pc Pn Mq Pu Zp Mx cK Bs Dl Zr jj jk ld
section
variable {W0 w w':World} {M:Mo} {A:Option Addr} {cap:Nat} {l lr:List Pr} {n B G t:Nat} {cs:Nat->List Mq.Hp} {c:Ct} {i:Nat} {a:Cp} {C:Cl}
theorem tC {s:Lm×Cl} (h:eE W0 w M A cap lr) (hP:cy.At w a C) (fQ:∀ x,cy.aR a C x->W0.heap.size<=x) (hI:cy.Inv M a C w s w'):∃ M' a',eE W0 w' M' A cap lr/\M'.m=M.m/\lm M'=s.1/\cy.At w' a' s.2/\cy.f a'=cy.f a/\ab (fun x=>ao M x\/cy.aR a C x) w w':=by
 obtain ⟨M',a',r1,r2,r3,r4,r5,r7,r8⟩:=hI
 refine ⟨M',a',h.jl r1 r3.aR r8 (fun x q=>?_) (fun x hx q=>?_),r3.m,r2,r4,r5,r8⟩
 ·rcases q with q | q
  ·exact h.kj x q
  ·exact fQ x q
 ·rcases q with q | q
  ·exact h.AZ hx q
  ·exact Mn hP q (cp h.row hx)
def Mr (W0 w':World) (M:Mo) (A:Option Addr) (cap:Nat) (lr l:List Pr) (G t:Nat) (c:Ct) (a:Cp):Prop:=
 ∃ (M':Mo) (a':Cp) (C':Cl) (n' B' G':Nat) (cs':Nat->List Mq.Hp),eE W0 w' M' A cap lr/\M'.m=M.m/\cy.At w' a' C'/\cy.f a'=cy.f a/\C'.done=true/\cm C'=0/\M'.ss.length=M.ss.length/\M'.k=M.k/\ki (lm M') (t+1)/\n'<=256/\G'<=G+1/\
   ((di c=0/\c.kind=1/\gj M.ss=none/\de C'=(4,false,⟨#[]⟩)/\Mp (lm M') n' B' cs' l G')\/(¬(di c=0/\c.kind=1/\gj M.ss=none)/\de C'=gy l c/\∀ l',gz l l' c->Mp (lm M') n' B' cs' l' G'))
theorem Ms (h:eE W0 w M A cap lr) (hm:Mp (lm M) n B cs l G) (hG:G<=900000) (hl:l.length<=30) (fX:ki (lm M) t) (ht:t<=200) (jr:n<=256) (oO:c.size<=256\/65536<c.size) (hi:(i:Int)<M.k) (hC:jA i c C) (hP:cy.At w a C) (fQ:∀ x,cy.aR a C x->W0.heap.size<=x):
 Calls Tryz.prog 58 #[ptr M.m,.iface 75 (ptr (cy.f a)),.int .i64 30000] w fun e w'=>((∃ k:Nat,e=.returned (.tuple #[.int .i64 k,.bool true]))/\ab (fun x=>ao M x\/cy.aR a C x) w w')/\Mr W0 w' M A cap lr l G t c a:=by
 have Df:1<=M.k/\M.k<=8:=hm.k
 have ml:0<=(i:Int)/\(i:Int)<=1000:=by omega
 have pP:ki (lm M) (t+1):=by obtain ⟨u1,u2,u3,u4⟩:=fX; exact ⟨by omega,by omega,u3,by omega⟩
 have eh:2+M.k<=B:=hm.kB
 have hlen:M.ss.length<=1024:=hm.small.2
 have kG:∀ b,b<n->(cs b).length<=1024:=fun b hb=>by have:=(Mp.xS hm).1 b hb; have e:(lm M).ss.length=M.ss.length:=rfl; omega
 obtain ⟨c1,c2,c3,c4⟩:=hC
 by_cases h0:di c=0
 case neg=>
  have bZ:=c3 h0
  have eC:C=⟨.ref,di c,false⟩:=by cases C; simp only at c1 c2 bZ; rw [c1,c2,bZ]
  subst eC
  refine (mM qv h.mem hP (fun k s=>k=1/\s=(lm M,(⟨.ref,di c,false⟩:Cl))) (fun s=>s=(lm M,(⟨.ref,di c,true⟩:Cl))) (fun k s hs=>by
   obtain ⟨rfl,rfl⟩:=hs
   exact ⟨trivial,rfl,Nat.le_refl _,fun _=>rfl,fun q=>by simp [eu] at q⟩) 1 30000 ⟨rfl,rfl⟩ (by omega) (by omega)).mono fun e w' q=>?_
  obtain ⟨k,s,q1,_,q4,hI⟩:=q
  obtain ⟨M',a',g1,g2,g3,g4,g5,g6⟩:=tC h hP fQ hI
  rw [q4] at g3 g4
  have e1:M'.ss=M.ss:=congrArg Lm.ss g3
  have e2:M'.k=M.k:=congrArg Lm.k g3
  refine ⟨⟨⟨k,q1⟩,g6⟩,M',a',_,n,B,G,cs,g1,g2,g4,g5,rfl,rfl,by rw [e1],e2,by rw [g3]; exact pP,jr,by omega,.inr ⟨fun q=>h0 q.1,?_,fun l' cD=>?_⟩⟩
  ·unfold gy; rw [if_pos h0]; rfl
  ·unfold gz at cD
   rw [if_neg (fun q=>h0 q.1),if_neg (fun q=>h0 q.1)] at cD
   rw [cD,g3]; exact hm
 obtain ⟨k0,k1,k2,k3⟩:=c4 h0
 have wm:c.kind=0\/c.kind=1\/c.kind=2\/c.kind=3:=by
  unfold di at h0
  split at h0
  ·omega
  ·omega
 rcases wm with hk | hk | hk | hk
 ·
  have bZ:=k0 hk
  have eC:C=⟨.get (Gt.mJ i c.key),0,false⟩:=by cases C; simp only at c1 c2 bZ; rw [c1,c2,bZ,h0]
  subst eC
  obtain ⟨hE,cE⟩:=Mt hm c.key hi
  have hq:=kG (aj c.key n) (dH hm.pw c.key).1
  refine (mM qv h.mem hP (fun k s=>∃ P d,s.2=(⟨.get P,0,d⟩:Cl)/\Gt.Rg ⟨M.ds,M.ss,M.xs,M.F,c.key,i,bq (cs (aj c.key n)),(cs (aj c.key n)).length⟩ (lm M) k (s.1,P)) (fun s=>∃ P,s.2=(⟨.get P,0,true⟩:Cl)/\Gt.Qg ⟨M.ds,M.ss,M.xs,M.F,c.key,i,bq (cs (aj c.key n)),(cs (aj c.key n)).length⟩ (lm M) (s.1,P))
   (Fh (fun k s hs=>Gt.Rg.step hE ⟨rfl,rfl,rfl,rfl⟩ hs) 0) (5+(cs (aj c.key n)).length) 30000 ⟨_,_,rfl,0,Gt.Gv.begin hE,by simp only; omega,rfl,rfl,rfl,rfl,rfl⟩ (by omega) (by omega)).mono fun e w' q=>?_
  obtain ⟨k,s,q1,_,⟨P,q4,q5,q6⟩,hI⟩:=q
  obtain ⟨M',a',g1,g2,g3,g4,g5,g6⟩:=tC h hP fQ hI
  have g3:lm M'=lm M:=g3.trans q5
  rw [q4] at g4
  have e1:M'.ss=M.ss:=congrArg Lm.ss g3
  have e2:M'.k=M.k:=congrArg Lm.k g3
  have q6:Gt.Fits (Pc.lk (bq (cs (aj c.key n))) c.key) P.W:=q6
  rw [cE] at q6
  refine ⟨⟨⟨k,q1⟩,g6⟩,M',a',_,n,B,G,cs,g1,g2,g4,g5,rfl,rfl,by rw [e1],e2,by rw [g3]; exact pP,jr,by omega,.inr ⟨fun q=>by omega,?_,fun l' cD=>?_⟩⟩
  ·unfold gy
   rw [if_neg (by omega),if_pos hk]
   show ((0:Int),decide (P.W.found≠0),P.W.nd.val)=_
   rw [q6.1,q6.2]
  ·unfold gz at cD
   rw [if_neg (fun q=>by omega),if_neg (fun q=>by omega)] at cD
   rw [cD,g3]; exact hm
 ·
  obtain ⟨hh,bZ⟩:=k1 hk
  have eC:C=⟨.put (Pu.jQ hh i c.key c.val),0,false⟩:=by cases C; simp only at c1 c2 bZ; rw [c1,c2,bZ,h0]
  subst eC
  have hE:=hm.rK (key:=c.key) (val:=c.val) (i:=i) (hb:=hh) (by omega) ml
  have hq:=kG (aj c.key n) (dH hm.pw c.key).1
  refine (mM qv h.mem hP (fun k s=>∃ P d,s.2=(⟨.put P,0,d⟩:Cl)/\Rq (Mp.ep (lm M) n B cs c.key c.val i hh) k (s.1,P)) (fun s=>∃ P,s.2=(⟨.put P,0,true⟩:Cl)/\Qp (Mp.ep (lm M) n B cs c.key c.val i hh) (s.1,P))
   (Ff (fun k s hs=>by
     obtain ⟨j,hj,hr⟩:=hs
     obtain ⟨h1,h2,h3,h4⟩:=hr.step hE
     refine ⟨hr.ok hE,h1,by omega,h3,fun hd=>?_⟩
     obtain ⟨j',sL,nO⟩:=h4 hd
     exact ⟨j',by omega,nO⟩) 0) (8+(cs (aj c.key n)).length) 30000 ⟨_,_,rfl,(Rp.s (E:=Mp.ep (lm M) n B cs c.key c.val i hh) (4+(cs (aj c.key n)).length) _ _ .a1).q (by omega)⟩ (by omega) (by omega)).mono fun e w' q=>?_
  obtain ⟨k,s,q1,_,⟨P,q4,q5⟩,hI⟩:=q
  obtain ⟨M',a',g1,g2,g3,g4,g5,g6⟩:=tC h hP fQ hI
  obtain ⟨m1,m2,m3⟩:=AX hm (by omega) ml q5
  have qO:=Fq (by show B+aj c.key n≠0; omega) q5
  have qO:Cz (lm M) s.1:=qO
  rw [q4] at g4
  rw [<-g3] at qO
  simp only at m1 m2 m3
  rcases m3 with ⟨p1,p2,p3⟩ | ⟨p1,p2,p3,p4,p5,cs',p6⟩
  ·have g3:lm M'=lm M:=g3.trans p2
   have e1:M'.ss=M.ss:=congrArg Lm.ss g3
   have e2:M'.k=M.k:=congrArg Lm.k g3
   refine ⟨⟨⟨k,q1⟩,g6⟩,M',a',_,n,B,G,cs,g1,g2,g4,g5,rfl,m2,by rw [e1],e2,by rw [g3]; exact pP,jr,by omega,.inl ⟨h0,hk,p1,?_,by rw [g3]; exact hm⟩⟩
   show (if P.err=0 then ((0:Int),decide (P.W.found≠0),(⟨#[]⟩:ByteArray)) else (P.err,false,⟨#[]⟩))=_
   rw [p3,if_neg (by omega)]
  ·have e1:M'.ss=s.1.ss:=by rw [<-g3]
   have e2:M'.k=s.1.k:=by rw [<-g3]
   refine ⟨⟨⟨k,q1⟩,g6⟩,M',a',_,n,B,G+1,cs',g1,g2,g4,g5,rfl,m2,by rw [e1]; exact p4,by rw [e2]; exact p5,x4 fX qO,jr,by omega,.inr ⟨fun q=>?_,?_,fun l' cD=>?_⟩⟩
   ·have q3:gj (lm M).ss=none:=q.2.2
    rw [q3] at p1
    simp at p1
   ·unfold gy
    rw [if_neg (by omega),if_neg (by omega),if_pos hk]
    show (if P.err=0 then ((0:Int),decide (P.W.found≠0),(⟨#[]⟩:ByteArray)) else (P.err,false,⟨#[]⟩))=_
    rw [if_pos p2,m1]
   ·unfold gz at cD
    rw [if_pos ⟨h0,hk⟩] at cD
    rw [g3]
    exact p6 l' (Fs hm.ln cD)
 ·
  obtain ⟨hh,bZ⟩:=k2 hk
  have eC:C=⟨.del (Dl.kl hh i c.key),0,false⟩:=by cases C; simp only at c1 c2 bZ; rw [c1,c2,bZ,h0]
  subst eC
  have hE:=hm.rK (key:=c.key) (val:=⟨#[]⟩) (i:=i) (hb:=hh) (by omega) ml
  have hq:=kG (aj c.key n) (dH hm.pw c.key).1
  refine (mM qv h.mem hP (fun k s=>∃ P d,s.2=(⟨.del P,0,d⟩:Cl)/\Dl.tB (Mp.ep (lm M) n B cs c.key ⟨#[]⟩ i hh) k (s.1,P)) (fun s=>∃ P,s.2=(⟨.del P,0,true⟩:Cl)/\Dl.Qd (Mp.ep (lm M) n B cs c.key ⟨#[]⟩ i hh) (s.1,P))
   (Fg (fun k s hs=>by
     obtain ⟨j,hj,hr⟩:=hs
     obtain ⟨h1,h2,h3,h4⟩:=Dl.Rd.step hE hr
     refine ⟨Dl.Rd.ok hE hr,h1,by omega,h3,fun hd=>?_⟩
     obtain ⟨j',sL,nO⟩:=h4 hd
     exact ⟨j',by omega,nO⟩) 0) (7+(cs (aj c.key n)).length) 30000 ⟨_,_,rfl,(Dl.Rd.s (E:=Mp.ep (lm M) n B cs c.key ⟨#[]⟩ i hh) (4+(cs (aj c.key n)).length) _ _ .a1).q (by omega)⟩ (by omega) (by omega)).mono fun e w' q=>?_
  obtain ⟨k,s,q1,_,⟨P,q4,W,hf,hz,q5⟩,hI⟩:=q
  obtain ⟨M',a',g1,g2,g3,g4,g5,g6⟩:=tC h hP fQ hI
  obtain ⟨m1,m2,m3,cs',m4⟩:=AY hm hf
  injection q5 with q5 q6
  have hd:lm M'=gL (lm M) (B+aj c.key n) W:=g3.trans q5
  have cE:=vj hm hf
  have uq:=xZ hm hf hz
  rw [q4] at g4
  have q6:P=Dl.Ep.t (Mp.ep (lm M) n B cs c.key ⟨#[]⟩ i hh) 7 {Ep.H (Mp.ep (lm M) n B cs c.key ⟨#[]⟩ i hh) with holds:=false} W 0:=q6
  have e1:M'.ss=(lm M').ss:=rfl
  have e2:M'.k=(lm M').k:=rfl
  refine ⟨⟨⟨k,q1⟩,g6⟩,M',a',_,n,B,G,cs',g1,g2,g4,g5,rfl,by rw [q6]; rfl,by rw [e1,hd,m2],by rw [e2,hd,m3],x4 fX (by rw [hd]; exact Ft (by omega)),jr,by omega,.inr ⟨fun q=>by omega,?_,fun l' cD=>?_⟩⟩
  ·unfold gy
   rw [if_neg (by omega),if_neg (by omega),if_neg (by omega),if_pos hk]
   show ((0:Int),decide (P.W.found≠0),P.W.nd.val)=_
   rw [q6]
   show ((0:Int),decide (W.found≠0),W.nd.val)=_
   rw [cE,uq]
  ·unfold gz at cD
   rw [if_neg (fun q=>by omega),if_pos ⟨h0,hk⟩] at cD
   rw [hd]
   exact m4 l' (Fu hm.ln cD)
 ·
  have bZ:=k3 hk
  have eC:C=⟨.rz (Zr.bR i c.size),0,false⟩:=by cases C; simp only at c1 c2 bZ; rw [c1,c2,bZ,h0]
  subst eC
  cases hp:FM.bo c.size with
  | false=>
    refine (mM qv h.mem hP (fun k s=>∃ P d,s.2=(⟨.rz P,0,d⟩:Cl)/\k=1/\(s.1,P)=(lm M,Zr.bR i c.size)) (fun s=>∃ P,s.2=(⟨.rz P,0,true⟩:Cl)/\(s.1,P)=(lm M,{Zr.bR i c.size with err:=5,nx:=12}))
     (xY (R:=fun k s=>k=1/\s=(lm M,Zr.bR i c.size)) (Q:=fun s=>s=(lm M,{Zr.bR i c.size with err:=5,nx:=12})) (fun k s hs=>Fo hm hp k s hs) 0) 1 30000 ⟨_,_,rfl,rfl,rfl⟩ (by omega) (by omega)).mono fun e w' q=>?_
    obtain ⟨k,s,q1,_,⟨P,q4,q5⟩,hI⟩:=q
    obtain ⟨M',a',g1,g2,g3,g4,g5,g6⟩:=tC h hP fQ hI
    injection q5 with q5 q6
    have g3:lm M'=lm M:=g3.trans q5
    rw [q4] at g4
    have e1:M'.ss=M.ss:=congrArg Lm.ss g3
    have e2:M'.k=M.k:=congrArg Lm.k g3
    refine ⟨⟨⟨k,q1⟩,g6⟩,M',a',_,n,B,G,cs,g1,g2,g4,g5,rfl,rfl,by rw [e1],e2,by rw [g3]; exact pP,jr,by omega,.inr ⟨fun q=>by omega,?_,fun l' cD=>?_⟩⟩
    ·unfold gy
     rw [if_neg (by omega),if_neg (by omega),if_neg (by omega),if_neg (by omega),if_neg (by rw [hp]; simp)]
     show (P.err,false,(⟨#[]⟩:ByteArray))=_
     rw [q6]
    ·unfold gz at cD
     rw [if_neg (fun q=>by omega),if_neg (fun q=>by omega)] at cD
     rw [cD,g3]; exact hm
  | true=>
    have cQ:=FM.eU hp
    obtain ⟨z,hz⟩:=Int.eq_ofNat_of_zero_le (show 0<=c.size by omega)
    have zp:z<=256:=by omega
    rw [hz] at hp hP fQ
    obtain ⟨cc,x,tt,ca,hw,hc,hx,wA,sJ⟩:=Mu l.length n z hl hm.pw hp jr zp
    have m8:=Fi hm (by omega) hl fX ht hp hw hc hx wA sJ ml
    refine (mM qv h.mem hP (fun k s=>∃ P d,s.2=(⟨.rz P,0,d⟩:Cl)/\Lone (lm M) (bG n cs) ⟨10+512*(t+1),1+8*(t+1),1+20000*((t:Int)+1)⟩ z l k (s.1,P)) (fun s=>∃ P,s.2=(⟨.rz P,0,true⟩:Cl)/\Qr (lm M) (bG n cs) ⟨10+512*(t+1),1+8*(t+1),1+20000*((t:Int)+1)⟩ z l s.1 P/\∀ i:Nat,(i:Int)<s.1.k->Cl.nth s.1.xs (2+i)=0)
     (xY (R:=Lone (lm M) (bG n cs) ⟨10+512*(t+1),1+8*(t+1),1+20000*((t:Int)+1)⟩ z l) (Q:=fun s=>Qr (lm M) (bG n cs) ⟨10+512*(t+1),1+8*(t+1),1+20000*((t:Int)+1)⟩ z l s.1 s.2/\∀ i:Nat,(i:Int)<s.1.k->Cl.nth s.1.xs (2+i)=0) (fun k s hs=>hs.step) 0) (cc+10) 30000 ⟨_,_,rfl,m8⟩ (by omega) (by omega)).mono fun e w' q=>?_
    obtain ⟨k,s,q1,_,⟨P,q4,q5,q6⟩,hI⟩:=q
    obtain ⟨M',a',g1,g2,g3,g4,g5,g6⟩:=tC h hP fQ hI
    obtain ⟨p1,⟨B',cs',p2⟩,p3,p4,p5,p6⟩:=Fk hm q5 q6
    rw [q4] at g4
    rw [<-g3] at p2 p3 p4 p6
    refine ⟨⟨⟨k,q1⟩,by rw [hz]; exact g6⟩,M',a',_,z,B',G,cs',g1,g2,g4,g5,rfl,rfl,p3,p4,p6,zp,by omega,.inr ⟨fun q=>by omega,?_,fun l' cD=>?_⟩⟩
    ·unfold gy
     rw [if_neg (by omega),if_neg (by omega),if_neg (by omega),if_neg (by omega),hz,if_pos hp]
     show (P.err,false,(⟨#[]⟩:ByteArray))=_
     rw [p1]
    ·unfold gz at cD
     rw [if_neg (fun q=>by omega),if_neg (fun q=>by omega)] at cD
     rw [cD]; exact p2
end
end Go.Proofs.YtpanebgakndddaaGreat.Ca
namespace Go.Proofs.YtpanebgakndddaaGreat.Ca
open Go Go.RowKit Hp K Fl Rw Hm Ar Mm Me LK Qs Wk Re ff Pc Pn Mq Pu Zp Mx cK Bs Dl Zr jj jk ld
set_option maxRecDepth 100000
theorem Q7 {i:Nat} {c:Ct} {C:Cl} (h:jA i c C):C.done=false/\de C=(0,false,⟨#[]⟩):=⟨h.1,by unfold de; rw [h.1]; rfl⟩
def HU (W0 w':World) (M:Mo) (A:Option Addr) (cap:Nat) (lr l:List Pr) (G t:Nat) (c:Ct) (x:Int×Bool×ByteArray):Prop:=
 ∃ (M':Mo) (n' B' G':Nat) (cs':Nat->List Mq.Hp),eE W0 w' M' A cap lr/\M'.m=M.m/\M'.ss.length=M.ss.length/\M'.k=M.k/\ki (lm M') (t+1)/\n'<=256/\G'<=G+1/\
   ((di c=0/\c.kind=1/\gj M.ss=none/\x=(4,false,⟨#[]⟩)/\Mp (lm M') n' B' cs' l G')\/(¬(di c=0/\c.kind=1/\gj M.ss=none)/\x=gy l c/\∀ l',gz l l' c->Mp (lm M') n' B' cs' l' G'))
set_option maxHeartbeats 4000000 in
theorem EX {W0 w:World} {M:Mo} {A:Option Addr} {cap:Nat} {l lr:List Pr} {n B G t:Nat} {cs:Nat->List Mq.Hp} {c:Ct} {i:Nat} (h:eE W0 w M A cap lr) (hm:Mp (lm M) n B cs l G) (hG:G<=900000) (hl:l.length<=30) (fX:ki (lm M) t) (ht:t<=200) (jr:n<=256) (oO:c.size<=256\/65536<c.size) (hi:(i:Int)<M.k) (hk:c.key.size<=maxLen):
 Calls Tryz.prog 39 #[ptr M.m,.int .i64 i,o8 c] w fun e w'=>∃ x,e=.returned (.tuple #[xQ x,.bool true])/\HU W0 w' M A cap lr l G t c x/\ab (ao M) w w':=by
 obtain ⟨w1,aO⟩:∃ w1,w1=w.alloc (.cells #[.int .i64 c.kind,.string c.key,.string c.val,.int .i64 c.size] 31):=⟨_,rfl⟩
 obtain ⟨w2,bl⟩:∃ w2,w2=w1.alloc (.cells #[.int .i64 0,.bool false,.string ⟨#[]⟩] 44):=⟨_,rfl⟩
 have b1:af w1 w.heap.size 31 #[.int .i64 c.kind,.string c.key,.string c.val,.int .i64 c.size]:=by rw [aO]; exact af.made w _ _
 have d1:Below w.heap.size w w1:=by rw [aO]; exact below_1 _ _
 have b2:af w2 w1.heap.size 44 #[.int .i64 0,.bool false,.string ⟨#[]⟩]:=by rw [bl]; exact af.made w1 _ _
 have d2:Below w1.heap.size w1 w2:=by rw [bl]; exact below_1 _ _
 have b12:=b1.only (ab.aD d2 (fun _=>False)) (by simp)
 have Ac:w.heap.size<=w1.heap.size:=d1.size
 have hd:=d1.trans (d2.mono d1.size)
 obtain ⟨p,hp⟩:∃ p,p=w.heap.size:=⟨_,rfl⟩
 have oR:w1.heap.size=w.heap.size+1:=by rw [aO]; exact Array.size_push _
 obtain ⟨q,um⟩:∃ q,q=w1.heap.size:=⟨_,rfl⟩
 have hq:q=p+1:=by omega
 rw [<-hp] at b12
 rw [<-um] at b2
 have p0:=b12.cell 0
 have p1:=b12.cell 1
 have p2:=b12.cell 2
 have p3:=b12.cell 3
 simp at p0 p1 p2 p3
 have lp:=b12.lt
 have S2:=h.down hd
 have iu:=Lib.hid S2.below.size
 have Eb:=Lib.hid hd
 have iJ:w.heap.size<=q:=by omega
 have HM:=Lib.hid S2.mem
 have V4:W0.heap.size<=q:=by have:=h.below.size; omega
 have fA:=Lib.hid (fun w=>FC i c hk w)
 have zP:=Lib.hid (fun w3 a C (hb:Below w2.heap.size w2 w3) (hI:jA i c C) (hP:cy.At w3 a C) (aU:∀ x,cy.aR a C x->w2.heap.size<=x)=>Ms (S2.down hb) hm hG hl fX ht jr oO hi hI hP (fun x hx=>Nat.le_trans S2.below.size (aU x hx)))
 replace b2:=Lib.hid b2
 unfold o8
 unfold o8 at fA
 clear h hm fX hd S2 b1 d1 d2 b12 Ac hk oO
 go_enter Tryz.func39,Tryz.ntmps39
 go_upto_region 1 with (fail)
 rw [<-aO,<-bl,<-hp,<-hq]
 clear aO bl hp hq um oR
 go_wp2_with fail
 refine (fA.out _).mono ?_
 rintro e w3 ⟨a,C,rfl,hI,hP,aU,aZ⟩
 have eM:=Lib.hid (fun w4 (hb:Below w3.heap.size w3 w4)=>zP.out w4 a C (aZ.trans (hb.mono aZ.size)) hI (qv.below hP hb) aU)
 obtain ⟨i1,i2⟩:=Q7 hI
 have hR:=AT hP
 rw [i1,i2] at hR
 have V5:=b2.out.only (ab.aD aZ (fun _=>False)) (by simp)
 replace hR:=Lib.hid hR
 go_wp2_with fail
 refine hR.out.mono ?_
 rintro e w4 ⟨rfl,fC⟩
 go_wp2_with fail
 have gb:Below w3.heap.size w3 (w4.alloc (.cells #[.int .i64 0,.bool false,.string ⟨#[]⟩] 44)):=fC.alloc fC.size _
 have Kx:=eM.out _ gb
 have Ec:=b2.out.only (ab.aD (aZ.trans (gb.mono aZ.size)) (fun _=>False)) (by simp)
 generalize w4.alloc (.cells #[.int .i64 0,.bool false,.string ⟨#[]⟩] 44)=w5 at*
 refine Kx.mono ?_
 rintro e w6 ⟨⟨⟨k,rfl⟩,hO⟩,M',a',C',n',B',G',cs',s1,s2,s3,s4,s5,s6,s7,s8,s9,s10,s11,s12⟩
 have pR:q<w2.heap.size:=b2.out.lt
 have Ed:=Ec.only hO (fun g=>by
  rcases g with g | g
  ·exact (HM.out.below (aZ.trans (gb.mono aZ.size))).ty g |>.apart (bj Ec) (by decide)
  ·have:=aU q g; omega)
 have V6:ab (ao M) w w6:=(ab.aD (Eb.out.trans ((aZ.trans (gb.mono aZ.size)).mono Eb.out.size)) (ao M)).trans' hO (fun x hx g=>g.elim id (fun g=>by have:=aU x g; have:=Eb.out.size; omega))
 have xD:=vd s3
 rw [s6,s4] at xD
 have uC:=Lib.hid (fun wx (hb:Below w6.heap.size w6 wx)=>by
  have:=AT (qv.below s3 hb)
  rw [s4,s5] at this
  exact this)
 have iL:=Lib.hid (fun wx (hb:Below w6.heap.size w6 wx) u1 u2 u3=>show HU W0 (((wx.setCell ⟨q,0,none⟩ u1).setCell ⟨q,1,none⟩ u2).setCell ⟨q,2,none⟩ u3) M A cap lr l G t c (de C')/\ab (ao M) w (((wx.setCell ⟨q,0,none⟩ u1).setCell ⟨q,1,none⟩ u2).setCell ⟨q,2,none⟩ u3) from by
  have Ky:=Ed.only (ab.aD hb (fun _=>False)) (by simp)
  have aq:=(((ab.refl (·=q) wx).setCell (p:=⟨q,0,none⟩) (.inl rfl) u1).setCell (p:=⟨q,1,none⟩) (.inl rfl) u2).setCell (p:=⟨q,2,none⟩) (.inl rfl) u3
  have sx:=s1.down hb
  refine ⟨⟨M',n',B',G',cs',sx.jl (sx.mem.only aq (fun x hx e=>by subst e; exact (sx.mem.ty hx).apart (bj Ky) (by decide))) (fun x hx=>.inl hx) aq (fun x e=>by subst e; exact V4) (fun x hx e=>by subst e; exact sx.apart hx (by decide) (bj Ky)),s2,s7,s8,s9,s10,s11,s12⟩,(V6.below hb).trans' aq (fun x hx e=>by subst e; omega)⟩)
 have hQ:=Lib.hid (fun wx (hb:Below w6.heap.size w6 wx)=>Ed.only (ab.aD hb (fun _=>False)) (by simp))
 generalize de C'=x at*
 replace xD:=Lib.hid xD
 clear Kx eM Ec Ed s1 s2 s3 s4 s5 s6 s7 s8 s9 s10 s11 s12 hO aU aZ fC gb V5 hI hP hR fA zP p0 p1 p2 p3 lp HM i1 i2
 go_wp2_with fail
 refine xD.out.mono ?_
 rintro e w7 ⟨rfl,mZ⟩
 have Kz:=Lib.hid (uC.out w7 mZ)
 replace mZ:=Lib.hid mZ
 clear xD uC
 go_wp2_with fail
 refine Kz.out.mono ?_
 rintro e w8 ⟨rfl,oN⟩
 have Ee:=mZ.out.trans (oN.mono mZ.out.size)
 have rr:=hQ.out w8 Ee
 have f0:=rr.cell 0
 have f1:=rr.cell 1
 have f2:=rr.cell 2
 have z0:=rr.frozen 0
 have z1:=rr.frozen 1
 have z2:=rr.frozen 2
 simp at f0 f1 f2
 have lq:=rr.lt
 have V7:=Lib.hid (iL.out w8 Ee (.int .i64 x.1) (.bool x.2.1) (.string x.2.2))
 clear Kz iL hQ mZ oN Ee rr b2
 go_wp2_with fail
 refine bodyPost_ret (v:=.tuple #[.agg #[.int .i64 x.1,.bool x.2.1,.string x.2.2],.bool true]) (by simp [results,Tryz.results39,go_sem,f0,f1,f2]) rfl ⟨x,rfl,V7.out⟩
end Go.Proofs.YtpanebgakndddaaGreat.Ca
namespace Go.Proofs.YtpanebgakndddaaGreat.cK
open Go Go.RowKit Hp K Fl Rw Hm Ar Mm Me LK Qs Wk Pc Pn Mq Zp Mx Gw ff
set_option maxRecDepth 100000
theorem qt {w:World} {a:Gl} {G:Gr} (h:bT w a G):Calls Tryz.prog 86 #[ptr a.f] w fun e w'=>e=.returned (.int .i64 G.err)/\w=w':=by
 have c:=(rT h.an).2.2.2.1
 clear h
 go_enter Tryz.func86,Tryz.ntmps86
 go_wp2_with fail
 go_ret
 exact ⟨rfl,rfl⟩
/-! ### the example's steps are eight-/
def L0:Lm:=⟨[1,0,0,0],List.replicate 6 (-1),[.zero],false,1,[(1,3)],[]⟩
def it:Nat->Lm×Gr
 | 0=>(L0,iF 0)
 | n+1=>aF (it n).1 (it n).2
def g1:Gr:={iF 0 with el:=(1,3),nx:=2}
def L2:Lm:={L0 with xs:=[1,0,0,0,0,0],ds:=[(1,3),(2,4)]}
def g2:Gr:={g1 with num:=1,err:=0,nw:=(2,4),nx:=3}
def g3:Gr:={g2 with half:=2,bucket:=1,nx:=6}
def L4:Lm:={L2 with xs:=[1,1,0,0,0,0]}
def g4:Gr:={g3 with W:=⟨0,0,0,0⟩,nx:=7}
def L5:Lm:={L4 with hs:=0::List.replicate 5 (-1)}
def g5:Gr:={g4 with W:=⟨0,1,0,0⟩}
def L6:Lm:={L5 with xs:=[2,1,0,0,0,0]}
def g6:Gr:={g5 with W:=⟨0,2,2,0⟩}
def g7:Gr:={g6 with W:=⟨0,3,2,1⟩}
def L8:Lm:={L6 with hs:=List.replicate 6 (-1)}
def g8:Gr:={g7 with W:=⟨0,4,2,1⟩,nx:=9}
theorem IW:it 1=(L0,g1):=by kernel_rfl
theorem IX:it 2=(L2,g2):=by
 show aF (it 1).1 (it 1).2=_
 rw [IW]; kernel_rfl
theorem IY:it 3=(L2,g3):=by
 show aF (it 2).1 (it 2).2=_
 rw [IX]; kernel_rfl
theorem IZ:it 4=(L4,g4):=by
 show aF (it 3).1 (it 3).2=_
 rw [IY]; kernel_rfl
theorem I0:it 5=(L5,g5):=by
 show aF (it 4).1 (it 4).2=_
 rw [IZ]; kernel_rfl
theorem I1:it 6=(L6,g6):=by
 show aF (it 5).1 (it 5).2=_
 rw [I0]; kernel_rfl
theorem I2:it 7=(L6,g7):=by
 show aF (it 6).1 (it 6).2=_
 rw [I1]; kernel_rfl
theorem Uo:it 8=(L8,g8):=by
 show aF (it 7).1 (it 7).2=_
 rw [I2]; kernel_rfl
theorem W3 {L:Lm} {G:Gr} (h1:1<=G.nx/\G.nx<=8) (h2:1<L.xs.length/\0<L.hs.length/\L.ds.length<=900000) (h3:G.nx≠1->G.el.1<=65536/\G.el.2<=4000000) (h4:G.bucket<=1000000) (h5:G.pass.length<=100000/\G.later.length<=100000) (h6:G.later=[])
 (h7:G.nx=3->G.el.2+G.bucket<L.xs.length) (h8:G.nx=6->0<=G.num/\G.num<=1000000) (h9:G.nx=7->0<=L.k/\Qs.ey L.k.toNat L.xs L.hs G.W) (n4:G.nx≠4) (n5:G.nx≠5) (n8:G.nx≠8):pA L G:=
 ⟨h1,h2.1,h2.2.1,h2.2.2,h3,h4,h5,fun _=>h6,h7,fun q=>absurd q n4,fun q=>absurd q n5,h8,h9,fun q=>absurd q n8⟩
theorem yY {L:Lm} {W:Wt} (hk:L.k=1) (h1:W.at_<=3) (h2:W.worker=0) (h3:0<L.hs.length) (h4:3<=L.xs.length) (h5:W.bm<=1000/\(W.at_<=2->W.bm<1)) (h6:W.at_≠0->Lo.aE L.hs 0=0):0<=L.k/\Qs.ey L.k.toNat L.xs L.hs W:=by
 rw [hk]
 exact ⟨by omega,⟨by decide,h1,by omega,h3,h4,h5,by rw [h2]; exact h6⟩⟩
theorem AJ (j:Nat) (hj:j<=7):pA (it j).1 (it j).2/\kS (it j).1 (it j).2=true/\cf (it j).1 (it j).2=decide (j=7):=by
 have:j=0\/j=1\/j=2\/j=3\/j=4\/j=5\/j=6\/j=7:=by omega
 rcases this with rfl | rfl | rfl | rfl | rfl | rfl | rfl | rfl
 ·exact ⟨okg_of (by decide) (by decide) (by decide) (by decide) (by decide) rfl (by decide) (by decide) (fun q=>absurd q (by decide)) (by decide) (by decide) (by decide),by kernel_rfl,by kernel_rfl⟩
 ·rw [IW]; exact ⟨okg_of (by decide) (by decide) (by decide) (by decide) (by decide) rfl (by decide) (by decide) (fun q=>absurd q (by decide)) (by decide) (by decide) (by decide),by kernel_rfl,by kernel_rfl⟩
 ·rw [IX]; exact ⟨okg_of (by decide) (by decide) (by decide) (by decide) (by decide) rfl (by decide) (by decide) (fun q=>absurd q (by decide)) (by decide) (by decide) (by decide),by kernel_rfl,by kernel_rfl⟩
 ·rw [IY]; exact ⟨okg_of (by decide) (by decide) (by decide) (by decide) (by decide) rfl (by decide) (by decide) (fun q=>absurd q (by decide)) (by decide) (by decide) (by decide),by kernel_rfl,by kernel_rfl⟩
 ·rw [IZ]; exact ⟨okg_of (by decide) (by decide) (by decide) (by decide) (by decide) rfl (by decide) (by decide) (fun _=>yY rfl (by decide) rfl (by decide) (by decide) (by decide) (by decide)) (by decide) (by decide) (by decide),by kernel_rfl,by kernel_rfl⟩
 ·rw [I0]; exact ⟨okg_of (by decide) (by decide) (by decide) (by decide) (by decide) rfl (by decide) (by decide) (fun _=>yY rfl (by decide) rfl (by decide) (by decide) (by decide) (by decide)) (by decide) (by decide) (by decide),by kernel_rfl,by kernel_rfl⟩
 ·rw [I1]; exact ⟨okg_of (by decide) (by decide) (by decide) (by decide) (by decide) rfl (by decide) (by decide) (fun _=>yY rfl (by decide) rfl (by decide) (by decide) (by decide) (by decide)) (by decide) (by decide) (by decide),by kernel_rfl,by kernel_rfl⟩
 ·rw [I2]; exact ⟨okg_of (by decide) (by decide) (by decide) (by decide) (by decide) rfl (by decide) (by decide) (fun _=>yY rfl (by decide) rfl (by decide) (by decide) (by decide) (by decide)) (by decide) (by decide) (by decide),by kernel_rfl,by kernel_rfl⟩
theorem Uq {W0 a b:World} {M:Mo} {g:Gl} {G:Gr} (ha:Below W0.heap.size W0 a) (aU:∀ x,ao M x->W0.heap.size<=x) (hg:∀ x,bt g G x->W0.heap.size<=x) (ho:ab (fun x=>ao M x\/bt g G x) a b):Below W0.heap.size W0 b:=
 ha.trans (ho.toBelow ha.size (fun x hx q=>by
  rcases q with q | q
  ·have:=aU x q; omega
  ·have:=hg x q; omega))
set_option maxHeartbeats 2000000 in
theorem et (w:World):Calls Tryz.prog 61 #[] w fun e w'=>e=.returned (.bool true)/\Below w.heap.size w w':=by
 have hN:=Lib.hid (mI 1 1 w (by omega) (by omega))
 have hA:=Lib.hid (fun w=>jj.et w)
 have pT:=Lib.hid (fun w=>GI 0 w)
 go_enter Tryz.func61,Tryz.ntmps61
 go_wp2_with fail
 refine hN.out.mono ?_
 rintro e w1 ⟨M,rfl,hM,aU,hB,h1,h2,h3,h4,h5,h6,h7⟩
 have hL:lm M=L0:=by
  unfold lm L0
  rw [h1,h2,h3,h4,h5,h6,h7]
  rfl
 replace hL:=Lib.hid hL
 replace hM:=Lib.hid hM
 replace aU:=Lib.hid aU
 replace hB:=Lib.hid hB
 clear hN h1 h2 h3 h4 h5 h6 h7
 go_wp2_with fail
 refine (pT.out _).mono ?_
 rintro e w2 ⟨a,rfl,du,wM,ag⟩
 have aB:=hM.out.below ag
 have fJ:=Lib.hid (hB.out.trans (ag.mono hB.out.size))
 have sS:=Lib.hid (fun x hx=>Nat.le_trans hB.out.size (wM x hx))
 have mu:=mM pB aB (show dI.At w2 a (iF 0) from du) (fun k s=>∃ j,j+k=8/\j<=7/\s=it j) (fun s=>s=it 8) (fun k s hs=>by
  obtain ⟨j,h1,h2,rfl⟩:=hs
  obtain ⟨a1,a2,a3⟩:=AJ j h2
  refine ⟨a1,a2,by omega,fun hd=>?_,fun hd=>⟨j+1,by omega,?_,rfl⟩⟩
  ·rw [a3] at hd
   have:j=7:=of_decide_eq_true hd
   subst this
   rfl
  ·rw [a3] at hd
   have:¬j=7:=of_decide_eq_false hd
   omega) 8 100 ⟨0,by omega,by omega,by rw [hL.out]; rfl⟩ (by omega) (by omega)
 have aP:Hid (Calls Tryz.prog 58 #[ptr M.m,.iface 167 (ptr a.f),.int .i64 100] w2 fun e w'=>∃ (n:Nat) (M':Mo) (a':Gl),e=.returned (.tuple #[.int .i64 n,.bool true])/\ah w' M'/\lm M'=L8/\M'.m=M.m/\bT w' a' g8/\a'.f=a.f/\Below w.heap.size w w'):=Lib.hid (mu.mono fun e w' q=>by
  obtain ⟨n,s,q1,_,q2,M',a',r1,r2,r3,r4,r5,r6,r7⟩:=q
  rw [q2,Uo] at r2 r4
  exact ⟨n,M',a',q1,r1,r2,r3.m,r4,r5,Uq fJ.out aU.out sS.out r7⟩)
 clear mu pT du wM ag aB hM hB hL
 go_wp2_with fail
 refine aP.out.mono ?_
 rintro e w3 ⟨n,M',a',rfl,br,je,em,eX,ea,ay⟩
 have x3:M'.xs=[2,1,0,0,0,0]:=congrArg Lm.xs je
 have d3:M'.ds=[(1,3),(2,4)]:=congrArg Lm.ds je
 have s3:M'.ss=[.zero]:=congrArg Lm.ss je
 have hE:=fun wx (hb:Below w3.heap.size w3 wx)=>qt (eX.below hb)
 rw [ea] at hE
 have fA:=fun wx (hb:Below w3.heap.size w3 wx)=>pj (br.below hb) (by rw [x3]; simp)
 have xK:=fun wx (hb:Below w3.heap.size w3 wx)=>Q2 (br.below hb) (by
  rw [x3,d3]
  intro i hi
  have:i=0\/i=1:=by simp at hi; omega
  rcases this with rfl | rfl<;>decide) (by rw [x3]; simp) (by
  rw [s3]
  intro k
  rcases k with _ | k
  ·decide
  ·simp [ai,List.getD]; decide) (by rw [s3]; simp) [] (by
  rw [x3,d3,s3]
  unfold Co
  have h0:∀ b,b<2->first [2,1,0,0,0,0] [(1,3),(2,4)] b=0:=fun b hb=>by
   have:b=0\/b=1:=by omega
   rcases this with rfl | rfl<;>rfl
  have bs:∀ met,Ch [Sl.zero] met 0 []:=fun met=>.stop (.inl fun k hk=>by
   have:=hk.2.2
   omega)
  show Rh [Sl.zero] (first [2,1,0,0,0,0] [(1,3),(2,4)]) 2 []
  exact .succ (all:=[]) (t:=[]) (.succ (all:=[]) (t:=[]) .zero (by rw [h0 0 (by omega)]; exact bs _)) (by rw [h0 1 (by omega)]; exact bs _))
 have bL:Me.now M'.xs M'.ds=(2,4):=by rw [x3,d3]; rfl
 have dK:g8.err=0:=rfl
 rw [bL,em] at fA
 rw [em] at xK
 rw [dK] at hE
 unfold dv at fA
 have uv:∀ w,(Instr.field 141 (.agg #[.int .i64 2,.int .i64 4]) 0).run Tryz.prog w=.ok (.int .i64 2) w:=fun w=>rfl
 replace hE:=Lib.hid hE
 replace fA:=Lib.hid fA
 replace xK:=Lib.hid xK
 replace ay:=Lib.hid ay
 clear aP br je em eX ea x3 d3 s3 bL dK aU sS fJ
 go_wp2_with fail
 refine (hA.out _).mono ?_
 rintro e w4 ⟨rfl,az⟩
 replace az:=Lib.hid az
 clear hA
 go_wp2_with fail
 refine (hE.out _ az.out).mono ?_
 rintro e w' ⟨rfl,rfl⟩
 clear hE
 go_wp2_with fail
 refine (fA.out _ az.out).mono ?_
 rintro e w5 ⟨rfl,bI⟩
 have rD:=Lib.hid (az.out.trans (bI.mono az.out.size))
 clear bI az fA
 go_wp2_with fail
 refine (xK.out _ rD.out).mono ?_
 rintro e w6 ⟨Ac,capc,rfl,Ax,gG,qh⟩
 have nL:=Lib.hid (ay.out.trans ((rD.out.trans (gG.mono rD.out.size)).mono ay.out.size))
 clear Ax qh gG rD ay xK
 go_wp2_with fail
 go_ret
 exact ⟨rfl,nL.out⟩
end Go.Proofs.YtpanebgakndddaaGreat.cK
namespace Go.Proofs.YtpanebgakndddaaGreat.FY
open Go Go.RowKit Hp K Fl Rw Hm Ar Mm Me LK Qs Wk Pc Pn Mx Sw ff
set_option maxRecDepth 100000
abbrev L0:Lm:=⟨[1,0,0,0],[-1, -1, -1, -1, -1, -1],[.zero],false,1,[(1,3)],[]⟩
abbrev s1:Sh:=⟨0,2,0,(1,3),(0,0),0,0,0,0,0,0,[],⟨0,0,0,0⟩⟩
abbrev s2:Sh:=⟨0,10,5,(1,3),(0,0), -1,0,0,0,0,0,[],⟨0,0,0,0⟩⟩
theorem N1:aG L0 (gZ 0)=(L0,s1):=by kernel_rfl
theorem N2:aG L0 s1=(L0,s2):=by kernel_rfl
theorem N3:pk L0 (gZ 0)/\eJ L0 (gZ 0)=true/\bW L0 (gZ 0)=false:=
 ⟨⟨by decide,by decide,by decide,by decide,by decide,by decide,by decide,by decide,by decide,by decide,fun q=>absurd q (by decide),fun q=>absurd q (by decide),by decide,by decide,fun q=>absurd q (by decide)⟩,by kernel_rfl,by kernel_rfl⟩
theorem okB:pk L0 s1/\eJ L0 s1=true/\bW L0 s1=true:=
 ⟨⟨by decide,by decide,by decide,by decide,by decide,by decide,by decide,by decide,by decide,by decide,fun q=>absurd q (by decide),fun q=>absurd q (by decide),by decide,by decide,fun q=>absurd q (by decide)⟩,by kernel_rfl,by kernel_rfl⟩
theorem N4 {W0 a b:World} {M:Mo} {g:Sc} {G:Sh} (ha:Below W0.heap.size W0 a) (aU:∀ x,ao M x->W0.heap.size<=x) (hg:∀ x,b9 g G x->W0.heap.size<=x) (ho:ab (fun x=>ao M x\/b9 g G x) a b):Below W0.heap.size W0 b:=
 ha.trans (ho.toBelow ha.size (fun x hx q=>by
  rcases q with q | q
  ·have:=aU x q; omega
  ·have:=hg x q; omega))
set_option maxHeartbeats 2000000 in
theorem et (w:World):Calls Tryz.prog 62 #[] w fun e w'=>e=.returned (.bool true)/\Below w.heap.size w w':=by
 have hN:=Lib.hid (mI 1 1 w (by omega) (by omega))
 have hA:=Lib.hid (fun w=>cK.et w)
 have pT:=Lib.hid (fun w=>F0 0 w)
 go_enter Tryz.func62,Tryz.ntmps62
 go_wp2_with fail
 refine hN.out.mono ?_
 rintro e w1 ⟨M,rfl,hM,aU,hB,h1,h2,h3,h4,h5,h6,h7⟩
 have hL:lm M=L0:=by
  unfold lm L0
  rw [h1,h2,h3,h4,h5,h6,h7]
  rfl
 replace hL:=Lib.hid hL
 replace hM:=Lib.hid hM
 replace aU:=Lib.hid aU
 replace hB:=Lib.hid hB
 clear hN h1 h2 h3 h4 h5 h6 h7
 go_wp2_with fail
 refine (pT.out _).mono ?_
 rintro e w2 ⟨a,rfl,du,wM,ag⟩
 have aB:=hM.out.below ag
 have fJ:=Lib.hid (hB.out.trans (ag.mono hB.out.size))
 have sS:=Lib.hid (fun x hx=>Nat.le_trans hB.out.size (wM x hx))
 have mu:=mM po aB (show gq.At w2 a (gZ 0) from du) (fun k s=>(k=2/\s=(L0,gZ 0))\/(k=1/\s=(L0,s1))) (fun s=>s=(L0,s2)) (fun k s hs=>by
  rcases hs with ⟨rfl,rfl⟩ | ⟨rfl,rfl⟩
  ·obtain ⟨a1,a2,a3⟩:=N3
   exact ⟨a1,a2,by omega,fun hd=>by rw [a3] at hd; simp at hd,fun _=>.inr ⟨rfl,N1⟩⟩
  ·obtain ⟨a1,a2,a3⟩:=okB
   exact ⟨a1,a2,by omega,fun _=>N2,fun hd=>by rw [a3] at hd; simp at hd⟩) 2 100 (.inl ⟨rfl,by rw [hL.out]⟩) (by omega) (by omega)
 have aP:Hid (Calls Tryz.prog 58 #[ptr M.m,.iface 169 (ptr a.f),.int .i64 100] w2 fun e w'=>∃ (n:Nat) (M':Mo) (a':Sc),e=.returned (.tuple #[.int .i64 n,.bool true])/\ah w' M'/\lm M'=L0/\M'.m=M.m/\cH w' a' s2/\a'.f=a.f/\Below w.heap.size w w'):=Lib.hid (mu.mono fun e w' q=>by
  obtain ⟨n,s,q1,_,q2,M',a',r1,r2,r3,r4,r5,r6,r7⟩:=q
  rw [q2] at r2 r4
  exact ⟨n,M',a',q1,r1,r2,r3.m,r4,r5,N4 fJ.out aU.out sS.out r7⟩)
 clear mu pT du wM ag aB hM hB hL
 go_wp2_with fail
 refine aP.out.mono ?_
 rintro e w3 ⟨n,M',a',rfl,br,je,em,eX,ea,ay⟩
 have x3:M'.xs=[1,0,0,0]:=congrArg Lm.xs je
 have d3:M'.ds=[(1,3)]:=congrArg Lm.ds je
 have hE:=fun wx (hb:Below w3.heap.size w3 wx)=>qt (eX.below hb)
 rw [ea] at hE
 have fA:=fun wx (hb:Below w3.heap.size w3 wx)=>pj (br.below hb) (by rw [x3]; simp)
 have bL:Me.now M'.xs M'.ds=(1,3):=by rw [x3,d3]; rfl
 have dK:s2.err=5:=rfl
 rw [bL,em] at fA
 rw [dK] at hE
 unfold dv at fA
 have uv:∀ w,(Instr.field 141 (.agg #[.int .i64 1,.int .i64 3]) 0).run Tryz.prog w=.ok (.int .i64 1) w:=fun w=>rfl
 replace hE:=Lib.hid hE
 replace fA:=Lib.hid fA
 replace ay:=Lib.hid ay
 clear aP br je em eX ea x3 d3 bL dK aU sS fJ
 go_wp2_with fail
 refine (hA.out _).mono ?_
 rintro e w4 ⟨rfl,az⟩
 replace az:=Lib.hid az
 clear hA
 go_wp2_with fail
 refine (hE.out _ az.out).mono ?_
 rintro e w' ⟨rfl,rfl⟩
 clear hE
 go_wp2_with fail
 refine (fA.out _ az.out).mono ?_
 rintro e w5 ⟨rfl,bI⟩
 have nL:=Lib.hid (ay.out.trans ((az.out.trans (bI.mono az.out.size)).mono ay.out.size))
 clear bI az fA
 go_wp2_with fail
 go_ret
 exact ⟨rfl,nL.out⟩
end Go.Proofs.YtpanebgakndddaaGreat.FY
namespace Go.Proofs.YtpanebgakndddaaGreat.Lo
open Go Go.RowKit Hp K Fl Rw
def jD (hs:List Int) (n:Int) (k:Nat):List Nat:=(List.range k).filter fun i=>decide (0<=n/\aE hs i=n)
def Ce (x:Nat):List Value:=[.int .i64 (x:Int)]
abbrev Hn (w:World) (A:Option Addr) (cap:Nat) (xs:List Nat):Prop:=Row w 3 1 Ce A cap xs
theorem Hq {hs:List Int} {n:Int} {k:Nat} (h:0<=n/\aE hs k=n):jD hs n (k+1)=jD hs n k++[k]:=by
 unfold jD
 rw [List.range_succ,List.filter_append]
 simp only [h,and_self,decide_true,List.filter_cons_of_pos,List.filter_nil]
theorem Hr {hs:List Int} {n:Int} {k:Nat} (h:¬(0<=n/\aE hs k=n)):jD hs n (k+1)=jD hs n k:=by
 unfold jD
 rw [List.range_succ,List.filter_append]
 rw [List.filter_cons_of_neg (by simpa using h)]
 simp
theorem Qz (hs:List Int) (n:Int) (k:Nat):(jD hs n k).length<=k:=by
 unfold jD
 exact Nat.le_trans (List.length_filter_le _ _) (by simp)
def Hs (W w:World) (g b:Nat) (hs:List Int) (n:Int) (v:Value) (k:Nat):Prop:=
 Below W.heap.size W w/\gE w g b hs/\∃ A cap,v=.slice A (jD hs n k).length cap/\Hn w A cap (jD hs n k)/\∀ x,In A x->W.heap.size<=x
theorem NP {W:World} {g b:Nat} {hs:List Int} (h:gE W g b hs) (n:Int):
 Calls Tryz.prog 65 #[.pointer (some ⟨g,0,none⟩),.int .i64 n] W fun e w'=>
  ∃ A cap,e=.returned (.slice A (jD hs n hs.length).length cap)/\Hn w' A cap (jD hs n hs.length)/\(∀ x,In A x->W.heap.size<=x)/\Below W.heap.size W w':=by
 have hc:W.cell? ⟨g,0,none⟩=some (.slice (some ⟨b,0,none⟩) hs.length hs.length):=h.1.cell 0
 have hl:=h.2.2.2
 have hI:=Lib.hid (show Hs W W g b hs n (.slice none 0 0) 0 from ⟨Below.refl _ _,h,none,0,rfl,Row.nil _ _ _ _,by simp [In]⟩)
 obtain ⟨i0,cW,cP,cT,dh⟩:=info_parts AD
 clear h
 go_enter Tryz.func65,Tryz.ntmps65
 go_wp2_with fail
 go_loopw [5,12] (fun v i wr=>∃ k:Nat,k<=hs.length/\i=.int .i64 k/\Hs W wr g b hs n v k) (fun _ i _=>hs.length-(intOf i).toNat)
 case atStart=>exact ⟨0,Nat.zero_le _,rfl,hI.out⟩
 case round=>
  rename_i v i wr
  obtain ⟨k,hk,rfl,hB,hL,A,cap,rfl,hR,hA⟩:=lD
  by_cases bn:k<hs.length
  ·have c0:=sh hL k bn
   have c1:=tU hL k bn
   have hc:wr.cell? ⟨g,0,none⟩=some (.slice (some ⟨b,0,none⟩) hs.length hs.length):=hL.1.cell 0
   have hs':=Lib.hid (Cf (aE hs k) n)
   have Xn:=Qz hs n k
   replace hL:=Lib.hid hL
   replace hR:=Lib.hid hR
   replace hA:=Lib.hid hA
   replace hB:=Lib.hid hB
   have hlen:=Lib.hid (rfl:(jD hs n k).length=(jD hs n k).length)
   generalize decide (0<=aE hs k)=p at*
   generalize (if 0<=aE hs k then aE hs k else 0)=q at*
   generalize hm:(jD hs n k).length=m at*
   replace hm:=Lib.hid hm
   by_cases hh:0<=n/\aE hs k=n
   ·have hd:=Lib.hid (show decide (0<=n/\aE hs k=n)=true from decide_eq_true hh)
    replace hh:=Lib.hid hh
    go_wp2_with (first
     | (go_at_call 91; refine (yE _ _ _ _).mono ?_; rintro e w1 ⟨rfl,ax⟩; rw [hs'.out,hd.out]
        have iy:=hR.out.only (ab.aD ax (fun _=>False)) (by simp)
        replace ax:=Lib.hid ax)
     | (at_builtin
        refine rV w1 rfl (.tmp 24) (.tmp 26) 88 rfl 3 i0 (.int .i64 0) 1 8 Tryz.underlying88 cW cP cT dh rfl (by omega) Ce (fun _=>rfl) (by intro x u hu; simp [Ce] at hu; subst hu; rfl)
         A cap m (jD hs n k) hm.out k #[.int .i64 k] rfl rfl iy rfl (by simp only [maxLen]; omega) (by omega) ?_
        intro A1 cap1 w2 cB ae bH))
    go_roundw
    case rel=>
     have hO:=(ab.aD ax.out (In A)).trans ae
     refine ⟨k+1,by omega,by go_num,hB.out.trans (hO.toBelow hB.out.size (fun x hx hi=>by have:=hA.out x hi; omega)),hL.out.only hO ?_,A1,cap1,?_,?_,fun x hi=>?_⟩
     ·rintro x (rfl | rfl)
      ·exact hR.out.differ hL.out.1 (by decide)
      ·exact hR.out.differ hL.out.2.1 (by decide)
     ·rw [Hq hh.out,List.length_append,hm.out]
      rfl
     ·rw [Hq hh.out]
      exact cB
     ·rcases bH x hi with q | q
      ·exact hA.out x q
      ·have h1:=ax.out.size
       have h2:=hB.out.size
       omega
    case measure=>simp [intOf]; omega
   ·have hd:=Lib.hid (show decide (0<=n/\aE hs k=n)=false from decide_eq_false hh)
    replace hh:=Lib.hid hh
    go_wp2_with (first
     | (go_at_call 91; refine (yE _ _ _ _).mono ?_; rintro e w1 ⟨rfl,ax⟩; rw [hs'.out,hd.out]; replace ax:=Lib.hid ax))
    go_roundw
    case rel=>
     have hO:=ab.aD ax.out (fun _=>False)
     refine ⟨k+1,by omega,by go_num,hB.out.trans (ax.out.mono hB.out.size),hL.out.only hO (by simp),A,cap,?_,?_,hA.out⟩
     ·rw [Hr hh.out,hm.out]
     ·rw [Hr hh.out]
      exact hR.out.only hO (by simp)
    case measure=>simp [intOf]; omega
  ·obtain rfl:k=hs.length:=by omega
   replace hL:=Lib.hid hL
   replace hR:=Lib.hid hR
   replace hA:=Lib.hid hA
   replace hB:=Lib.hid hB
   go_wp2_with fail
   go_ret
   exact ⟨A,cap,rfl,hR.out,hA.out,hB.out⟩
end Go.Proofs.YtpanebgakndddaaGreat.Lo
namespace Go.Proofs.YtpanebgakndddaaGreat.ld
open Go Go.RowKit Hp K Fl Rw Hm Ar Mm Me LK Qs Wk Re ff Pn Pc Mq Pu jj jk mG Dl Zr
set_option maxRecDepth 100000
theorem AH {w w1:World} {n k:Nat} {M:Mo} (h:od w n k M w1) (hk:k<=6):ki (lm M) 0:=by
 obtain ⟨hM,aU,hB,h1,h2,h3,h4,h5,h6,h7⟩:=h
 refine ⟨?_,?_,?_,?_⟩
 ·show M.xs.length<=_; rw [h1]; simp; omega
 ·show M.ds.length<=_; rw [h6]; simp
 ·show 1<=Cl.nth M.xs 0; rw [h1]; exact Int.le_refl _
 ·show Cl.nth M.xs 0<=_; rw [h1]; exact Int.le_refl _
theorem xR {w w1:World} {n k:Nat} {M:Mo} (h:od w n k M w1):eE w w1 M none 0 []:=by
 obtain ⟨hM,aU,hB,_⟩:=h
 exact ⟨hM,Row.nil _ _ _ _,hB,aU,by simp [In]⟩
theorem NM {hs:List Int} (h:hs=List.replicate 6 (-1)) (i:Nat):(Lo.jD hs (i:Int) hs.length).length=0:=by
 subst h
 rw [List.length_eq_zero_iff]
 unfold Lo.jD
 rw [List.filter_eq_nil_iff]
 intro j _
 simp only [decide_eq_true_eq]
 intro q
 have h2:=q.2
 unfold Lo.aE at h2
 rw [List.getD_eq_getElem?_getD,List.getElem?_replicate] at h2
 split at h2<;>simp at h2<;>omega
section
variable {W0 w wx:World} {M:Mo} {n B G:Nat} {cs:Nat->List Mq.Hp} {l:List Pr}
theorem NN (h:eE W0 w M none 0 []) (hm:Mp (lm M) n B cs l G) (hb:Below w.heap.size w wx):Calls Tryz.prog 64 #[ptr M.m] wx fun e w'=>e=.returned (.agg #[.int .i64 n,.int .i64 B])/\Below wx.heap.size wx w':=by
 have eh:2+M.k<=B:=hm.kB
 have hk:1<=M.k/\M.k<=8:=hm.k
 have bA:B+n<=M.xs.length:=hm.xl
 have bL:Me.now M.xs M.ds=(n,B):=hm.now
 have:=pj (h.mem.below hb) (by omega)
 rw [bL] at this
 exact this
theorem NO (h:eE W0 w M none 0 []) (hm:Mp (lm M) n B cs l G) (hb:Below w.heap.size w wx):wx.cell? ⟨M.m,1,none⟩=some (ptr M.lg)/\∀ i:Nat,Calls Tryz.prog 65 #[ptr M.lg,.int .i64 i] wx fun e w'=>∃ A cap,e=.returned (.slice A (0:Nat) cap)/\Below wx.heap.size wx w':=by
 have hM:=h.mem.below hb
 have sK:M.hs=List.replicate 6 (-1):=hm.hs
 refine ⟨hM.hd.2.1,fun i=>(Lo.NP hM.2.2.1 (i:Int)).mono fun e w' q=>?_⟩
 obtain ⟨A,cap,q1,_,_,q4⟩:=q
 rw [NM sK i] at q1
 exact ⟨A,cap,q1,q4⟩
end
theorem NQ:∃ c x t a,nt ([]:List Pr).length 8 1 c x t a/\c<=100/\x<=512/\t<=8/\a<=30*256:=by
 obtain ⟨c,x,hu⟩:=AW 0 3 (by omega) 3 0 (by omega)
 obtain ⟨e1,e2,e3⟩:=hu.eqs
 exact ⟨c,x,3,0,.inl hu,by omega,by omega,by omega,by omega⟩
set_option maxHeartbeats 2000000 in
theorem et (w:World):Calls Tryz.prog 40 #[] w fun e w'=>e=.returned (.bool true)/\Below w.heap.size w w':=by
 have hN:=Lib.hid (mI 1 1 w (by omega) (by omega))
 have bH:=Lib.hid (fun w=>mG.et w)
 have iZ:=Lib.hid (fun w=>cK.et w)
 have fY:=Lib.hid (fun w=>FY.et w)
 have pT:=Lib.hid (fun z w=>FB 0 z w)
 go_enter Tryz.func40,Tryz.ntmps40
 go_wp2_with fail
 refine hN.out.mono ?_
 rintro e w1 ⟨M,rfl,fS⟩
 have kW:=uZ fS (by omega) (by omega)
 have fX:=AH fS (by omega)
 have hS:=xR fS
 replace kW:=Lib.hid kW
 replace fX:=Lib.hid fX
 replace hS:=Lib.hid hS
 clear hN fS
 go_wp2_with fail
 refine (pT.out 8 _).mono ?_
 rintro e w2 ⟨a,rfl,cB,fD,ag⟩
 have jt:=Lib.hid (hS.out.down ag)
 have Jx:=Lib.hid (fun x hx=>Nat.le_trans hS.out.below.size (fD x hx))
 replace cB:=Lib.hid cB
 clear fD ag hS
 go_wp2_with fail
 refine (pT.out 3 _).mono ?_
 rintro e w3 ⟨b,rfl,kD,mo,ay⟩
 have cM:=jt.out.down ay
 have Jy:=vk cB.out (ab.aD ay (fun _=>False)) (by simp)
 have fT:=Lib.hid (fun x hx=>Nat.le_trans jt.out.below.size (mo x hx))
 have ze:=Lib.hid (fun x (hx:dk.aR b (bR 0 3) x)=>show ¬(ao M x\/dk.aR a (bR 0 8) x) from fun q=>by
  rcases q with q | q
  ·exact FZ kD cM.mem hx q
  ·have:=Bm cB.out q
   have:=mo x hx
   omega)
 obtain ⟨c,x,t,ca,Dk,hc,hx,ht,sJ⟩:=NQ
 have mu:=NJ cM kW.out (by omega) (by simp) fX.out (by omega) (s:=8) (by decide) Dk (by omega) hx ht sJ 500 ⟨by omega,by omega⟩ (i:=0) (by omega) Jy Jx.out
 have sQ:=Lib.hid (fun x hx=>Bm (a:=a) (R:=bR 0 8) (x:=x) cB.out hx)
 have Jz:=Lib.hid mo
 replace kD:=Lib.hid kD
 replace mu:=Lib.hid mu
 clear pT mo ay cM Jy jt cB Jx Dk kW fX
 go_wp2_with fail
 refine mu.out.mono ?_
 rintro e w4 ⟨k,rfl,M4,a4,R4,B4,cs4,jJ,em4,Dm,ea4,JA,Dp,U9,Va,Vb,Vc, -,aL,Dq⟩
 have JB:=vk kD.out aL ze.out
 have aP:=NL jJ Dp (z:=3) (by decide) JB fT.out 500 ⟨by omega,by omega⟩
 rw [em4] at aP
 have eM:Hid (Calls Tryz.prog 58 #[ptr M.m,.iface 137 (ptr (dk.f b)),.int .i64 500] w4 fun e w'=>e=.returned (.tuple #[.int .i64 1,.bool true])/\Below w.heap.size w w'/\(∀ wx,Below w'.heap.size w' wx->Calls Tryz.prog 63 #[ptr (dk.f a)] wx fun e w''=>e=.returned (.int .i64 0)/\w''=wx)/\(∀ wx,Below w'.heap.size w' wx->Calls Tryz.prog 63 #[ptr (dk.f b)] wx fun e w''=>e=.returned (.int .i64 5)/\w''=wx)/\(∀ wx,Below w'.heap.size w' wx->Calls Tryz.prog 64 #[ptr M.m] wx fun e w''=>e=.returned (.agg #[.int .i64 8,.int .i64 B4])/\Below wx.heap.size wx w'')/\∃ lk,∀ wx,Below w'.heap.size w' wx->wx.cell? ⟨M.m,1,none⟩=some (ptr lk)/\Calls Tryz.prog 65 #[ptr lk,.int .i64 0] wx fun e w''=>∃ A cap,e=.returned (.slice A 0 cap)/\Below wx.heap.size wx w''):=Lib.hid (aP.mono fun e w' q=>by
  obtain ⟨q1,M5,a5,R5,iI,em5,Vd,eb5,Ve,wJ,bJ⟩:=q
  have Vf:=vk Dm bJ (fun x hx q=>by
   rcases q with q | q
   ·exact FZ Dm jJ.mem hx q
   ·have h1:=Bm kD.out q
    have h2:=Jz.out x q
    rcases Dq x hx with q | q
    ·have h3:=sQ.out x q; omega
    ·omega)
  have JC:Mp (lm M5) 8 B4 cs4 [] 0:=by rw [wJ]; exact Dp
  refine ⟨q1,iI.below,fun wx hb=>?_,fun wx hb=>?_,fun wx hb=>?_,M5.lg,fun wx hb=>?_⟩
  ·have:=AU (ot.below Vf hb)
   rw [ea4,JA] at this
   exact this
  ·have:=AU (ot.below Vd hb)
   rw [eb5,Ve] at this
   exact this
  ·have:=NN iI JC hb
   rw [em5,em4] at this
   exact this
  ·have:=NO iI JC hb
   rw [em5,em4] at this
   exact ⟨this.1,this.2 0⟩)
 have jc:=Lib.hid jJ.below
 clear aP JB mu jJ em4 Dm ea4 JA Dp U9 Va Vb Vc aL Dq kD fT ze sQ Jz
 go_wp2_with fail
 refine eM.out.mono ?_
 rintro e w5 ⟨rfl,bI,zt,zu,fA,lk,wK⟩
 replace bI:=Lib.hid bI
 replace zt:=Lib.hid zt
 replace zu:=Lib.hid zu
 replace fA:=Lib.hid fA
 replace wK:=Lib.hid wK
 have uv:∀ w,(Instr.field 141 (.agg #[.int .i64 8,.int .i64 B4]) 0).run Tryz.prog w=.ok (.int .i64 8) w:=fun w=>rfl
 clear eM jc
 go_wp2_with fail
 refine (bH.out _).mono ?_
 rintro e w6 ⟨rfl,kX⟩
 have gG:=Lib.hid kX
 clear kX bH
 go_wp2_with fail
 refine (iZ.out _).mono ?_
 rintro e w7 ⟨rfl,mZ⟩
 have m5:=Lib.hid (gG.out.trans (mZ.mono gG.out.size))
 clear mZ gG iZ
 go_wp2_with fail
 refine (fY.out _).mono ?_
 rintro e w8 ⟨rfl,oN⟩
 have qP:=Lib.hid (m5.out.trans (oN.mono m5.out.size))
 clear oN m5 fY
 go_wp2_with fail
 refine (zt.out _ qP.out).mono ?_
 rintro e w' ⟨rfl,rfl⟩
 clear zt
 go_wp2_with fail
 refine (fA.out _ qP.out).mono ?_
 rintro e w9 ⟨rfl,JE⟩
 have kE:=Lib.hid (qP.out.trans (JE.mono qP.out.size))
 have Vg:=(wK.out _ kE.out).1
 have JF:=Lib.hid (wK.out _ kE.out).2
 clear JE qP fA wK
 go_wp2_with fail
 refine JF.out.mono ?_
 rintro e w10 ⟨A,cap,rfl,JG⟩
 have sR:=Lib.hid (kE.out.trans (JG.mono kE.out.size))
 clear JG kE JF Vg
 go_wp2_with fail
 refine (zu.out _ sR.out).mono ?_
 rintro e w' ⟨rfl,rfl⟩
 have nL:=Lib.hid (bI.out.trans (sR.out.mono bI.out.size))
 clear zu bI sR
 go_wp2_with fail
 go_ret
 exact ⟨rfl,nL.out⟩
end Go.Proofs.YtpanebgakndddaaGreat.ld
