/- A part. -/
import Derived.Test.YtpanebgakndddaaGreatQsbrC
set_option linter.unusedVariables false
set_option linter.unusedSimpArgs false
namespace Go.Proofs.YtpanebgakndddaaGreat.Qs
open Go Go.RowKit Hp K Fl Rw Hm Ar Mm Me
set_option maxRecDepth 100000
def aI (n:Nat) (xs hs:List Int) (W:Wt):List Int×List Int×Wt:=
 if W.at_=0 then (xs,hs.set 0 W.worker,{W with at_:=1})
 else if W.at_=1 then (xs.set 0 (Cl.fp (Cl.nth xs 0) 1),hs,{W with period:=Cl.fp (Cl.nth xs 0) 1,at_:=2})
 else if W.at_=2 then (xs,hs,{W with bm:=W.bm+1,at_:=if n<=W.bm+1 then 3 else 2})
 else (xs,hs.set 0 (-1),{W with at_:=4})
structure eB (n:Nat) (xs hs:List Int) (W:Wt):Prop where
 n1:n<=8
 at_:W.at_<=3
 wk:0<=W.worker/\W.worker<=9223372036854775807
 hl:0<hs.length
 xl:n+2<=xs.length
 bm:W.bm<=1000/\(W.at_<=2->W.bm<n)
 own:W.at_≠0->Lo.aE hs 0=W.worker
theorem eB.step {n:Nat} {xs hs:List Int} {W:Wt} (h:eB n xs hs W) (hr:fQ xs hs W=true) (h3:W.at_≠3):eB n (aI n xs hs W).1 (aI n xs hs W).2.1 (aI n xs hs W).2.2:=by
 have hp:=h.hl
 have bO:=h.at_
 have cF:=h.bm
 unfold aI
 by_cases h0:W.at_=0
 ·rw [if_pos h0]
  exact ⟨h.n1,by simp,h.wk,by simpa using h.hl,h.xl,⟨cF.1,fun _=>cF.2 (by omega)⟩,fun _=>by simp [Lo.aE,List.getD,hp]⟩
 rw [if_neg h0]
 by_cases h1:W.at_=1
 ·rw [if_pos h1]
  exact ⟨h.n1,by simp,h.wk,h.hl,by simpa using h.xl,⟨cF.1,fun _=>cF.2 (by omega)⟩,fun _=>h.own h0⟩
 rw [if_neg h1]
 by_cases h2:W.at_=2
 ·rw [if_pos h2]
  have bn:=cF.2 (by omega)
  have jm:=h.n1
  refine ⟨h.n1,?_,h.wk,h.hl,h.xl,⟨by show W.bm+1<=1000; omega,fun q=>?_⟩,fun _=>h.own h0⟩
  ·show (if _ then _ else _)<=3
   split<;>omega
  ·show W.bm+1<n
   by_cases hc:n<=W.bm+1
   ·have q:(if n<=W.bm+1 then 3 else 2)<=2:=q
    rw [if_pos hc] at q
    omega
   ·omega
 ·omega
section
variable {w:World} {M:Mo} {f:Nat} {W:Wt} {C:Cm}
theorem yU {M':Mo} {W':Wt} {at_:Nat} {c:Bool} {w':World} (iC:ao M'=ao M) (eZ:¬ao M f) (e:W'.at_=at_)
 (h:Stepped (fun w'=>ah w' M'/\cZ w' f W'/\ab (fun x=>ao M x\/x=f) w w') f at_ c w'):ah w' M'/\cZ w' f {W' with at_:=if c=true then at_+1 else at_}/\ab (fun x=>ao M x\/x=f) w w':=by
 obtain ⟨w1,⟨h1,h2,h3⟩,rfl⟩:=h
 cases c with
 | true=>
   refine ⟨h1.only ((ab.refl (·=f) w1).setCell (p:=⟨f,1,none⟩) (.inl rfl) _) (fun x hx q=>eZ (by rw [<-q,<-iC]; exact hx)),af.store h2 1 (.int .i64 ((at_+1:Nat):Int)),h3.setCell (p:=⟨f,1,none⟩) (.inl (.inr rfl)) _⟩
 | false=>
   simp only [Bool.false_eq_true,if_false,<-e]
   exact ⟨h1,h2,h3⟩
theorem yE {n:Nat} (hM:ah w M) (hf:cZ w f W) (hn:M.k=n) (ok:eB n M.xs M.hs W) (hr:fQ M.xs M.hs W=true):
 Calls Tryz.prog 74 #[ptr f,ptr M.m] w fun e w'=>e=.returned (.bool (decide (W.at_=3)))/\
  ah w' {M with xs:=(aI n M.xs M.hs W).1,hs:=(aI n M.xs M.hs W).2.1}/\cZ w' f (aI n M.xs M.hs W).2.2/\ab (fun x=>ao M x\/x=f) w w':=by
 have eZ:=hf.aA hM
 have bO:=ok.at_
 have cF:=ok.bm
 have nU:=ok.xl
 have jm:=ok.n1
 by_cases h0:W.at_=0
 ·have hh:pH M.hs W=true:=by simpa [fQ,h0] using hr
  have hh:0<=W.worker/\Lo.aE M.hs 0= -1:=by simpa [pH] using hh
  have e:aI n M.xs M.hs W=(M.xs,M.hs.set 0 W.worker,{W with at_:=1}):=by unfold aI; rw [if_pos h0]
  rw [e]
  refine (yT (W:=W) (F:=130) (m:=ptr M.m) (c:=true) (P:=fun w'=>ah w' {M with hs:=M.hs.set 0 W.worker}/\cZ w' f W/\ab (fun x=>ao M x\/x=f) w w') hf (by omega) (by rw [h0]; rfl) R6 (fun w2 hb=>?_) (fun w' h=>⟨h.2.1.hd.2.1,h.2.1.frozen 1⟩)).mono ?_
  ·have hO:=ab.aD hb (fun x=>ao M x\/x=f)
   have cp:cZ w2 f W:=hf.only (ab.aD hb (fun _=>False)) (by simp)
   exact (CH (hM.below hb) cp ok.hl ok.wk (by omega)).mono fun e w' h=>⟨h.1,h.2.1,pK cp eZ h.2.2 iq,hO.trans' h.2.2 (fun x _ q=>.inl (iq x q))⟩
  ·rintro e w' ⟨rfl,h⟩
   have:=yU (M':={M with hs:=M.hs.set 0 W.worker}) rfl eZ rfl h
   rw [h0] at this
   exact ⟨by simp [h0],this⟩
 by_cases h1:W.at_=1
 ·have e:aI n M.xs M.hs W=(M.xs.set 0 (Cl.fp (Cl.nth M.xs 0) 1),M.hs,{W with period:=Cl.fp (Cl.nth M.xs 0) 1,at_:=2}):=by unfold aI; rw [if_neg h0,if_pos h1]
  rw [e]
  refine (yT (W:=W) (F:=131) (m:=ptr M.m) (c:=true) (P:=fun w'=>ah w' {M with xs:=M.xs.set 0 (Cl.fp (Cl.nth M.xs 0) 1)}/\cZ w' f {W with period:=Cl.fp (Cl.nth M.xs 0) 1}/\ab (fun x=>ao M x\/x=f) w w') hf (by omega) (by rw [h1]; rfl) R7 (fun w2 hb=>?_) (fun w' h=>⟨h.2.1.hd.2.1,h.2.1.frozen 1⟩)).mono ?_
  ·have hO:=ab.aD hb (fun x=>ao M x\/x=f)
   have cp:cZ w2 f W:=hf.only (ab.aD hb (fun _=>False)) (by simp)
   exact (RX (hM.below hb) cp (by omega)).mono fun e w' h=>⟨h.1,h.2.1,h.2.2.1,hO.trans h.2.2.2⟩
  ·rintro e w' ⟨rfl,h⟩
   have:=yU (M':={M with xs:=M.xs.set 0 (Cl.fp (Cl.nth M.xs 0) 1)}) rfl eZ rfl h
   rw [h1] at this
   exact ⟨by simp [h1],this⟩
 by_cases h2:W.at_=2
 ·have hh:oK M.xs W=true:=by simpa [fQ,h2] using hr
  have e:aI n M.xs M.hs W=(M.xs,M.hs,{W with bm:=W.bm+1,at_:=if n<=W.bm+1 then 3 else 2}):=by unfold aI; rw [if_neg h0,if_neg h1,if_pos h2]
  rw [e]
  have bn:=cF.2 (by omega)
  refine (yT (W:=W) (F:=132) (m:=ptr M.m) (c:=decide (n<=W.bm+1)) (P:=fun w'=>ah w' M/\cZ w' f {W with bm:=W.bm+1}/\ab (fun x=>ao M x\/x=f) w w') hf (by omega) (by rw [h2]; rfl) R8 (fun w2 hb=>?_) (fun w' h=>⟨h.2.1.hd.2.1,h.2.1.frozen 1⟩)).mono ?_
  ·have hO:=ab.aD hb (fun x=>ao M x\/x=f)
   have cp:cZ w2 f W:=hf.only (ab.aD hb (fun _=>False)) (by simp)
   exact (RY (hM.below hb) cp (by omega) cF.1 hh hn).mono fun e w' h=>⟨h.1,h.2.1,h.2.2.1,hO.trans h.2.2.2⟩
  ·rintro e w' ⟨rfl,h⟩
   have:=yU (M':=M) rfl eZ rfl h
   rw [h2] at this ⊢
   refine ⟨?_,this.1,?_,this.2.2⟩
   ·by_cases hc:n<=W.bm+1<;>simp [hc]
   ·have:=this.2.1
    by_cases hc:n<=W.bm+1
    ·simpa [hc] using this
    ·simpa [hc] using this
 ·have h3:W.at_=3:=by omega
  have e:aI n M.xs M.hs W=(M.xs,M.hs.set 0 (-1),{W with at_:=4}):=by unfold aI; rw [if_neg h0,if_neg h1,if_neg h2]
  rw [e]
  refine (yT (W:=W) (F:=133) (m:=ptr M.m) (c:=true) (P:=fun w'=>ah w' {M with hs:=M.hs.set 0 (-1)}/\cZ w' f W/\ab (fun x=>ao M x\/x=f) w w') hf (by omega) (by rw [h3]; rfl) R9 (fun w2 hb=>?_) (fun w' h=>⟨h.2.1.hd.2.1,h.2.1.frozen 1⟩)).mono ?_
  ·have hO:=ab.aD hb (fun x=>ao M x\/x=f)
   have cp:cZ w2 f W:=hf.only (ab.aD hb (fun _=>False)) (by simp)
   exact (RZ (hM.below hb) cp ok.hl ok.wk (ok.own h0)).mono fun e w' h=>⟨h.1,h.2.1,pK cp eZ h.2.2 iq,hO.trans' h.2.2 (fun x _ q=>.inl (iq x q))⟩
  ·rintro e w' ⟨rfl,h⟩
   have:=yU (M':={M with hs:=M.hs.set 0 (-1)}) rfl eZ rfl h
   rw [h3] at this
   exact ⟨by simp [h3],this⟩
/-! ### Oz in,going out-/
def gv (xs:List Int) (C:Cm):List Int×Cm:=
 if C.at_=0 then (xs,{C with period:=Cl.nth xs 0,at_:=1}) else (xs.set (2+C.worker) C.period,{C with at_:=2})
theorem Sm (m:Value) (w:World):Calls Tryz.prog 288 #[ptr f,m] w fun e w'=>e=.returned (.bool true)/\w=w':=by
 go_enter Tryz.func288,Tryz.ntmps288
 go_wp2
 go_ret
 exact ⟨rfl,rfl⟩
theorem Sn (m:Value) (w:World):Calls Tryz.prog 289 #[ptr f,m] w fun e w'=>e=.returned (.bool true)/\w=w':=by
 go_enter Tryz.func289,Tryz.ntmps289
 go_wp2
 go_ret
 exact ⟨rfl,rfl⟩
theorem Gz (hM:ah w M) (hf:gu w f C) (ha:C.at_<=1) (hk:2+C.worker<M.xs.length) (hp:C.worker<=1000) (hv:0<=C.period/\C.period<=18446744073709551615):
 Calls Tryz.prog 159 #[ptr f,ptr M.m] w fun e w'=>e=.returned (.bool (decide (C.at_=1)))/\ah w' {M with xs:=(gv M.xs C).1}/\gu w' f (gv M.xs C).2/\ab (fun x=>ao M x\/x=f) w w':=by
 have eZ:=hf.aA hM
 by_cases h0:C.at_=0
 ·have e:gv M.xs C=(M.xs,{C with period:=Cl.nth M.xs 0,at_:=1}):=by unfold gv; rw [if_pos h0]
  rw [e]
  refine (Ik (C:=C) (F:=211) (m:=ptr M.m) (c:=true) (P:=fun w'=>ah w' M/\gu w' f {C with period:=Cl.nth M.xs 0}/\ab (fun x=>ao M x\/x=f) w w') hf (by omega) (by rw [h0]; rfl) Sb (fun w2 hb=>?_) (fun w' h=>⟨h.2.1.hd.2.1,h.2.1.frozen 1⟩)).mono ?_
  ·have hO:=ab.aD hb (fun x=>ao M x\/x=f)
   have cp:gu w2 f C:=hf.only (ab.aD hb (fun _=>False)) (by simp)
   exact (vN (hM.below hb) cp (by omega)).mono fun e w' h=>⟨h.1,h.2.1,h.2.2.1,hO.trans' h.2.2.2 (fun x _ q=>.inr q)⟩
  ·rintro e w' ⟨rfl,w1,⟨h1,h2,h3⟩,rfl⟩
   refine ⟨by simp [h0],h1.only ((ab.refl (·=f) w1).setCell (p:=⟨f,1,none⟩) (.inl rfl) _) (fun x hx q=>eZ (q▸hx)),?_,h3.setCell (p:=⟨f,1,none⟩) (.inl (.inr rfl)) _⟩
   rw [h0]
   exact af.store h2 1 (.int .i64 1)
 ·have h1:C.at_=1:=by omega
  have e:gv M.xs C=(M.xs.set (2+C.worker) C.period,{C with at_:=2}):=by unfold gv; rw [if_neg h0]
  rw [e]
  refine (Ik (C:=C) (F:=212) (m:=ptr M.m) (c:=true) (P:=fun w'=>ah w' {M with xs:=M.xs.set (2+C.worker) C.period}/\gu w' f C/\ab (fun x=>ao M x\/x=f) w w') hf (by omega) (by rw [h1]; rfl) Sd (fun w2 hb=>?_) (fun w' h=>⟨h.2.1.hd.2.1,h.2.1.frozen 1⟩)).mono ?_
  ·have hO:=ab.aD hb (fun x=>ao M x\/x=f)
   have cp:gu w2 f C:=hf.only (ab.aD hb (fun _=>False)) (by simp)
   exact (vO (hM.below hb) cp hk hp hv).mono fun e w' h=>⟨h.1,h.2.1,pK cp eZ h.2.2 nG,hO.trans' h.2.2 (fun x _ q=>.inl (nG x q))⟩
  ·rintro e w' ⟨rfl,w1,⟨nO,h2,h3⟩,rfl⟩
   refine ⟨by simp [h1],nO.only ((ab.refl (·=f) w1).setCell (p:=⟨f,1,none⟩) (.inl rfl) _) (fun x hx q=>eZ (q▸hx)),?_,h3.setCell (p:=⟨f,1,none⟩) (.inl (.inr rfl)) _⟩
   rw [h1]
   exact af.store h2 1 (.int .i64 2)
theorem GD {k:Nat} (hM:ah w M) (hf:jK w f k 0) (hk:2+k<M.xs.length) (hp:k<=1000):
 Calls Tryz.prog 213 #[ptr f,ptr M.m] w fun e w'=>e=.returned (.bool true)/\ah w' {M with xs:=M.xs.set (2+k) 0}/\jK w' f k 1/\ab (fun x=>ao M x\/x=f) w w':=by
 have eZ:=hf.aA hM
 refine (Sj (k:=k) (g:=0) (F:=238) (m:=ptr M.m) (c:=true) (P:=fun w'=>ah w' {M with xs:=M.xs.set (2+k) 0}/\jK w' f k 0/\ab (fun x=>ao M x\/x=f) w w') hf (by omega) rfl Se (fun w2 hb=>?_) (fun w' h=>⟨h.2.1.cell 1,h.2.1.frozen 1⟩)).mono ?_
 ·have hO:=ab.aD hb (fun x=>ao M x\/x=f)
  have cp:jK w2 f k 0:=hf.only (ab.aD hb (fun _=>False)) (by simp)
  exact (R0 (hM.below hb) cp hk hp).mono fun e w' h=>⟨h.1,h.2.1,pK cp eZ h.2.2 nG,hO.trans' h.2.2 (fun x _ q=>.inl (nG x q))⟩
 ·rintro e w' ⟨rfl,w1,⟨nO,h2,h3⟩,rfl⟩
  exact ⟨by simp,nO.only ((ab.refl (·=f) w1).setCell (p:=⟨f,1,none⟩) (.inl rfl) _) (fun x hx q=>eZ (q▸hx)),af.store h2 1 (.int .i64 1),h3.setCell (p:=⟨f,1,none⟩) (.inl (.inr rfl)) _⟩
end
end Go.Proofs.YtpanebgakndddaaGreat.Qs
