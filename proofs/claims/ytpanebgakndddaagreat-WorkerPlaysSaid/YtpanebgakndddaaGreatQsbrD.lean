/- A part. -/
import Derived.Test.YtpanebgakndddaaGreatQsbrC
set_option linter.unusedVariables false
set_option linter.unusedSimpArgs false
namespace Go.Proofs.YtpanebgakndddaaGreat.Qs
open Go Go.RowKit Hp K Fl Rw Hm Ar Mm Me
set_option maxRecDepth 100000
def aW (n:Nat) (xs hs:List Int) (W:Wt):List Int×List Int×Wt:=
 if W.at_=0 then (xs,hs.set 0 W.worker,{W with at_:=1})
 else if W.at_=1 then (xs.set 0 (Cl.fE (Cl.nth xs 0) 1),hs,{W with period:=Cl.fE (Cl.nth xs 0) 1,at_:=2})
 else if W.at_=2 then (xs,hs,{W with bF:=W.bF+1,at_:=if n<=W.bF+1 then 3 else 2})
 else (xs,hs.set 0 (-1),{W with at_:=4})
structure eV (n:Nat) (xs hs:List Int) (W:Wt):Prop where
 n1:n<=8
 at_:W.at_<=3
 wk:0<=W.worker/\W.worker<=9223372036854775807
 hl:0<hs.length
 xl:n+2<=xs.length
 bF:W.bF<=1000/\(W.at_<=2->W.bF<n)
 own:W.at_≠0->Lo.aF hs 0=W.worker
theorem eV.step {n:Nat} {xs hs:List Int} {W:Wt} (h:eV n xs hs W) (hr:iI xs hs W=true) (h3:W.at_≠3):eV n (aW n xs hs W).1 (aW n xs hs W).2.1 (aW n xs hs W).2.2:=by
 have hp:=h.hl
 have cr:=h.at_
 have cT:=h.bF
 unfold aW
 by_cases h0:W.at_=0
 ·rw [if_pos h0]
  exact ⟨h.n1,by simp,h.wk,by simpa using h.hl,h.xl,⟨cT.1,fun _=>cT.2 (by omega)⟩,fun _=>by simp [Lo.aF,List.getD,hp]⟩
 rw [if_neg h0]
 by_cases h1:W.at_=1
 ·rw [if_pos h1]
  exact ⟨h.n1,by simp,h.wk,h.hl,by simpa using h.xl,⟨cT.1,fun _=>cT.2 (by omega)⟩,fun _=>h.own h0⟩
 rw [if_neg h1]
 by_cases h2:W.at_=2
 ·rw [if_pos h2]
  have aV:=cT.2 (by omega)
  have fz:=h.n1
  refine ⟨h.n1,?_,h.wk,h.hl,h.xl,⟨by show W.bF+1<=1000; omega,fun q=>?_⟩,fun _=>h.own h0⟩
  ·show (if _ then _ else _)<=3
   split<;>omega
  ·show W.bF+1<n
   by_cases hc:n<=W.bF+1
   ·have q:(if n<=W.bF+1 then 3 else 2)<=2:=q
    rw [if_pos hc] at q
    omega
   ·omega
 ·omega
section
variable {w:World} {M:Mo} {f:Nat} {W:Wt} {C:Cm}
theorem zQ {M':Mo} {W':Wt} {at_:Nat} {c:Bool} {w':World} (iC:aq M'=aq M) (fS:¬aq M f) (e:W'.at_=at_)
 (h:Stepped (fun w'=>ah w' M'/\dr w' f W'/\ab (fun x=>aq M x\/x=f) w w') f at_ c w'):ah w' M'/\dr w' f {W' with at_:=if c=true then at_+1 else at_}/\ab (fun x=>aq M x\/x=f) w w':=by
 obtain ⟨w1,⟨h1,h2,h3⟩,rfl⟩:=h
 cases c with
 | true=>
   refine ⟨h1.only ((ab.refl (·=f) w1).setCell (p:=⟨f,1,none⟩) (.inl rfl) _) (fun x hx q=>fS (by rw [<-q,<-iC]; exact hx)),af.store h2 1 (.int .i64 ((at_+1:Nat):Int)),h3.setCell (p:=⟨f,1,none⟩) (.inl (.inr rfl)) _⟩
 | false=>
   simp only [Bool.false_eq_true,if_false,<-e]
   exact ⟨h1,h2,h3⟩
theorem CM {n:Nat} (hM:ah w M) (hf:dr w f W) (hn:M.k=n) (ok:eV n M.xs M.hs W) (hr:iI M.xs M.hs W=true):
 Calls Tryz.prog 74 #[ptr f,ptr M.m] w fun e w'=>e=.returned (.bool (decide (W.at_=3)))/\
  ah w' {M with xs:=(aW n M.xs M.hs W).1,hs:=(aW n M.xs M.hs W).2.1}/\dr w' f (aW n M.xs M.hs W).2.2/\ab (fun x=>aq M x\/x=f) w w':=by
 have fS:=hf.aB hM
 have cr:=ok.at_
 have cT:=ok.bF
 have oo:=ok.xl
 have fz:=ok.n1
 by_cases h0:W.at_=0
 ·have hh:qX M.hs W=true:=by simpa [iI,h0] using hr
  have hh:0<=W.worker/\Lo.aF M.hs 0= -1:=by simpa [qX] using hh
  have e:aW n M.xs M.hs W=(M.xs,M.hs.set 0 W.worker,{W with at_:=1}):=by unfold aW; rw [if_pos h0]
  rw [e]
  refine (zP (W:=W) (F:=130) (m:=ptr M.m) (c:=true) (P:=fun w'=>ah w' {M with hs:=M.hs.set 0 W.worker}/\dr w' f W/\ab (fun x=>aq M x\/x=f) w w') hf (by omega) (by rw [h0]; rfl) S1 (fun w2 hb=>?_) (fun w' h=>⟨h.2.1.hd.2.1,h.2.1.frozen 1⟩)).mono ?_
  ·have hO:=ab.aA hb (fun x=>aq M x\/x=f)
   have cI:dr w2 f W:=hf.only (ab.aA hb (fun _=>False)) (by simp)
   exact (Di (hM.below hb) cI ok.hl ok.wk (by omega)).mono fun e w' h=>⟨h.1,h.2.1,pW cI fS h.2.2 iu,hO.trans' h.2.2 (fun x _ q=>.inl (iu x q))⟩
  ·rintro e w' ⟨rfl,h⟩
   have:=zQ (M':={M with hs:=M.hs.set 0 W.worker}) rfl fS rfl h
   rw [h0] at this
   exact ⟨by simp [h0],this⟩
 by_cases h1:W.at_=1
 ·have e:aW n M.xs M.hs W=(M.xs.set 0 (Cl.fE (Cl.nth M.xs 0) 1),M.hs,{W with period:=Cl.fE (Cl.nth M.xs 0) 1,at_:=2}):=by unfold aW; rw [if_neg h0,if_pos h1]
  rw [e]
  refine (zP (W:=W) (F:=131) (m:=ptr M.m) (c:=true) (P:=fun w'=>ah w' {M with xs:=M.xs.set 0 (Cl.fE (Cl.nth M.xs 0) 1)}/\dr w' f {W with period:=Cl.fE (Cl.nth M.xs 0) 1}/\ab (fun x=>aq M x\/x=f) w w') hf (by omega) (by rw [h1]; rfl) S3 (fun w2 hb=>?_) (fun w' h=>⟨h.2.1.hd.2.1,h.2.1.frozen 1⟩)).mono ?_
  ·have hO:=ab.aA hb (fun x=>aq M x\/x=f)
   have cI:dr w2 f W:=hf.only (ab.aA hb (fun _=>False)) (by simp)
   exact (SW (hM.below hb) cI (by omega)).mono fun e w' h=>⟨h.1,h.2.1,h.2.2.1,hO.trans h.2.2.2⟩
  ·rintro e w' ⟨rfl,h⟩
   have:=zQ (M':={M with xs:=M.xs.set 0 (Cl.fE (Cl.nth M.xs 0) 1)}) rfl fS rfl h
   rw [h1] at this
   exact ⟨by simp [h1],this⟩
 by_cases h2:W.at_=2
 ·have hh:pT M.xs W=true:=by simpa [iI,h2] using hr
  have e:aW n M.xs M.hs W=(M.xs,M.hs,{W with bF:=W.bF+1,at_:=if n<=W.bF+1 then 3 else 2}):=by unfold aW; rw [if_neg h0,if_neg h1,if_pos h2]
  rw [e]
  have aV:=cT.2 (by omega)
  refine (zP (W:=W) (F:=132) (m:=ptr M.m) (c:=decide (n<=W.bF+1)) (P:=fun w'=>ah w' M/\dr w' f {W with bF:=W.bF+1}/\ab (fun x=>aq M x\/x=f) w w') hf (by omega) (by rw [h2]; rfl) S4 (fun w2 hb=>?_) (fun w' h=>⟨h.2.1.hd.2.1,h.2.1.frozen 1⟩)).mono ?_
  ·have hO:=ab.aA hb (fun x=>aq M x\/x=f)
   have cI:dr w2 f W:=hf.only (ab.aA hb (fun _=>False)) (by simp)
   exact (SX (hM.below hb) cI (by omega) cT.1 hh hn).mono fun e w' h=>⟨h.1,h.2.1,h.2.2.1,hO.trans h.2.2.2⟩
  ·rintro e w' ⟨rfl,h⟩
   have:=zQ (M':=M) rfl fS rfl h
   rw [h2] at this ⊢
   refine ⟨?_,this.1,?_,this.2.2⟩
   ·by_cases hc:n<=W.bF+1<;>simp [hc]
   ·have:=this.2.1
    by_cases hc:n<=W.bF+1
    ·simpa [hc] using this
    ·simpa [hc] using this
 ·have h3:W.at_=3:=by omega
  have e:aW n M.xs M.hs W=(M.xs,M.hs.set 0 (-1),{W with at_:=4}):=by unfold aW; rw [if_neg h0,if_neg h1,if_neg h2]
  rw [e]
  refine (zP (W:=W) (F:=133) (m:=ptr M.m) (c:=true) (P:=fun w'=>ah w' {M with hs:=M.hs.set 0 (-1)}/\dr w' f W/\ab (fun x=>aq M x\/x=f) w w') hf (by omega) (by rw [h3]; rfl) S5 (fun w2 hb=>?_) (fun w' h=>⟨h.2.1.hd.2.1,h.2.1.frozen 1⟩)).mono ?_
  ·have hO:=ab.aA hb (fun x=>aq M x\/x=f)
   have cI:dr w2 f W:=hf.only (ab.aA hb (fun _=>False)) (by simp)
   exact (SY (hM.below hb) cI ok.hl ok.wk (ok.own h0)).mono fun e w' h=>⟨h.1,h.2.1,pW cI fS h.2.2 iu,hO.trans' h.2.2 (fun x _ q=>.inl (iu x q))⟩
  ·rintro e w' ⟨rfl,h⟩
   have:=zQ (M':={M with hs:=M.hs.set 0 (-1)}) rfl fS rfl h
   rw [h3] at this
   exact ⟨by simp [h3],this⟩
/-! ### Px in,going out-/
def gw (xs:List Int) (C:Cm):List Int×Cm:=
 if C.at_=0 then (xs,{C with period:=Cl.nth xs 0,at_:=1}) else (xs.set (2+C.worker) C.period,{C with at_:=2})
theorem Tf (m:Value) (w:World):Calls Tryz.prog 288 #[ptr f,m] w fun e w'=>e=.returned (.bool true)/\w=w':=by
 go_enter Tryz.func288,Tryz.ntmps288
 go_wp2
 go_ret
 exact ⟨rfl,rfl⟩
theorem Tg (m:Value) (w:World):Calls Tryz.prog 289 #[ptr f,m] w fun e w'=>e=.returned (.bool true)/\w=w':=by
 go_enter Tryz.func289,Tryz.ntmps289
 go_wp2
 go_ret
 exact ⟨rfl,rfl⟩
theorem Ht (hM:ah w M) (hf:gv w f C) (ha:C.at_<=1) (hk:2+C.worker<M.xs.length) (hp:C.worker<=1000) (hv:0<=C.period/\C.period<=18446744073709551615):
 Calls Tryz.prog 159 #[ptr f,ptr M.m] w fun e w'=>e=.returned (.bool (decide (C.at_=1)))/\ah w' {M with xs:=(gw M.xs C).1}/\gv w' f (gw M.xs C).2/\ab (fun x=>aq M x\/x=f) w w':=by
 have fS:=hf.aB hM
 by_cases h0:C.at_=0
 ·have e:gw M.xs C=(M.xs,{C with period:=Cl.nth M.xs 0,at_:=1}):=by unfold gw; rw [if_pos h0]
  rw [e]
  refine (Jb (C:=C) (F:=211) (m:=ptr M.m) (c:=true) (P:=fun w'=>ah w' M/\gv w' f {C with period:=Cl.nth M.xs 0}/\ab (fun x=>aq M x\/x=f) w w') hf (by omega) (by rw [h0]; rfl) S6 (fun w2 hb=>?_) (fun w' h=>⟨h.2.1.hd.2.1,h.2.1.frozen 1⟩)).mono ?_
  ·have hO:=ab.aA hb (fun x=>aq M x\/x=f)
   have cI:gv w2 f C:=hf.only (ab.aA hb (fun _=>False)) (by simp)
   exact (wK (hM.below hb) cI (by omega)).mono fun e w' h=>⟨h.1,h.2.1,h.2.2.1,hO.trans' h.2.2.2 (fun x _ q=>.inr q)⟩
  ·rintro e w' ⟨rfl,w1,⟨h1,h2,h3⟩,rfl⟩
   refine ⟨by simp [h0],h1.only ((ab.refl (·=f) w1).setCell (p:=⟨f,1,none⟩) (.inl rfl) _) (fun x hx q=>fS (q▸hx)),?_,h3.setCell (p:=⟨f,1,none⟩) (.inl (.inr rfl)) _⟩
   rw [h0]
   exact af.store h2 1 (.int .i64 1)
 ·have h1:C.at_=1:=by omega
  have e:gw M.xs C=(M.xs.set (2+C.worker) C.period,{C with at_:=2}):=by unfold gw; rw [if_neg h0]
  rw [e]
  refine (Jb (C:=C) (F:=212) (m:=ptr M.m) (c:=true) (P:=fun w'=>ah w' {M with xs:=M.xs.set (2+C.worker) C.period}/\gv w' f C/\ab (fun x=>aq M x\/x=f) w w') hf (by omega) (by rw [h1]; rfl) S7 (fun w2 hb=>?_) (fun w' h=>⟨h.2.1.hd.2.1,h.2.1.frozen 1⟩)).mono ?_
  ·have hO:=ab.aA hb (fun x=>aq M x\/x=f)
   have cI:gv w2 f C:=hf.only (ab.aA hb (fun _=>False)) (by simp)
   exact (wL (hM.below hb) cI hk hp hv).mono fun e w' h=>⟨h.1,h.2.1,pW cI fS h.2.2 n7,hO.trans' h.2.2 (fun x _ q=>.inl (n7 x q))⟩
  ·rintro e w' ⟨rfl,w1,⟨og,h2,h3⟩,rfl⟩
   refine ⟨by simp [h1],og.only ((ab.refl (·=f) w1).setCell (p:=⟨f,1,none⟩) (.inl rfl) _) (fun x hx q=>fS (q▸hx)),?_,h3.setCell (p:=⟨f,1,none⟩) (.inl (.inr rfl)) _⟩
   rw [h1]
   exact af.store h2 1 (.int .i64 2)
theorem Hy {k:Nat} (hM:ah w M) (hf:jG w f k 0) (hk:2+k<M.xs.length) (hp:k<=1000):
 Calls Tryz.prog 213 #[ptr f,ptr M.m] w fun e w'=>e=.returned (.bool true)/\ah w' {M with xs:=M.xs.set (2+k) 0}/\jG w' f k 1/\ab (fun x=>aq M x\/x=f) w w':=by
 have fS:=hf.aB hM
 refine (Te (k:=k) (g:=0) (F:=238) (m:=ptr M.m) (c:=true) (P:=fun w'=>ah w' {M with xs:=M.xs.set (2+k) 0}/\jG w' f k 0/\ab (fun x=>aq M x\/x=f) w w') hf (by omega) rfl S8 (fun w2 hb=>?_) (fun w' h=>⟨h.2.1.cell 1,h.2.1.frozen 1⟩)).mono ?_
 ·have hO:=ab.aA hb (fun x=>aq M x\/x=f)
  have cI:jG w2 f k 0:=hf.only (ab.aA hb (fun _=>False)) (by simp)
  exact (SZ (hM.below hb) cI hk hp).mono fun e w' h=>⟨h.1,h.2.1,pW cI fS h.2.2 n7,hO.trans' h.2.2 (fun x _ q=>.inl (n7 x q))⟩
 ·rintro e w' ⟨rfl,w1,⟨og,h2,h3⟩,rfl⟩
  exact ⟨by simp,og.only ((ab.refl (·=f) w1).setCell (p:=⟨f,1,none⟩) (.inl rfl) _) (fun x hx q=>fS (q▸hx)),af.store h2 1 (.int .i64 1),h3.setCell (p:=⟨f,1,none⟩) (.inl (.inr rfl)) _⟩
end
end Go.Proofs.YtpanebgakndddaaGreat.Qs
