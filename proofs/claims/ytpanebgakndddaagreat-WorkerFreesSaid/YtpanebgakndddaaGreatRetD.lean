/- A part. -/
import Derived.Test.YtpanebgakndddaaGreatRetC
import Derived.Test.YtpanebgakndddaaGreatFinish
set_option linter.unusedVariables false
set_option linter.unusedSimpArgs false
namespace Go.Proofs.YtpanebgakndddaaGreat.Re
open Go Go.RowKit Hp K Fl Rw Hm Ar Mm Me Qs
set_option maxRecDepth 100000
def place (x:Nat):Nat:=(x-1) % 65536
theorem CS {ss:List Sl} {x k:Nat} (hl:ss.length<=1024) (h:aY ss x k):place x=k:=(mI hl h).1
def aO (n:Nat) (M:Mo) (D:Dr):Mo×Dr:=
 if D.at_=0 then ({M with V:=none,capV:=0,ws:=[]},{D with A:=M.V,cap:=M.capV,left:=M.ws,at_:=1})
 else if D.at_=1 then ({M with xs:=(aI n M.xs M.hs D.W).1,hs:=(aI n M.xs M.hs D.W).2.1},{D with W:=(aI n M.xs M.hs D.W).2.2,at_:=if D.W.at_=3 then 2 else 1})
 else ({M with ss:=ik M.ss (place (D.left.headD 0))},{D with A:=gT D.A D.cap,cap:=D.cap-1,left:=D.left.tail,at_:=if D.left.tail=[] then 3 else 2})
structure pt (n:Nat) (M:Mo) (D:Dr):Prop where
 at_:D.at_<=2
 k:M.k=n
 hl:0<M.hs.length
 zero:D.at_=0->D.left=[]
 wt:D.at_<=1->eB n M.xs M.hs D.W
 some:D.at_≠0->D.left≠[]
 live:∀ x,x∈D.left->x<=18446744073709551615/\∃ k,aY M.ss x k/\(ai M.ss k).gen<=1000000
 apart:D.left≠[]->∀ y,In D.A y->¬ao M y
section
variable {w:World} {M:Mo} {D:Dr}
def cg (M:Mo) (D:Dr) (x:Nat):Prop:=ao M x\/x=D.f\/x=D.fw
theorem Ot {n:Nat} (hM:ah w M) (hD:df w D) (ok:pt n M D) (hr:fP M D=true):
 Calls Tryz.prog 38 #[ptr D.f,ptr M.m] w fun e w'=>e=.returned (.bool (decide (D.at_=2/\D.left.tail=[])))/\ah w' (aO n M D).1/\df w' (aO n M D).2/\ab (cg M D) w w':=by
 have eZ:=hD.aA hM
 have aH:=hD.ne
 have bO:=ok.at_
 have kD:∀ (w1:World) (M':Mo) (D':Dr) (v:Value),D'.f=D.f->D'.fw=D.fw->¬ao M' D.f->(D'.left≠[]->¬In D'.A D.f)->ah w1 M'->df w1 D'->ab (cg M D) w w1->∀ at_:Nat,v=.int .i64 at_->
  ah (w1.setCell ⟨D.f,0,none⟩ v) M'/\df (w1.setCell ⟨D.f,0,none⟩ v) {D' with at_:=at_}/\ab (cg M D) w (w1.setCell ⟨D.f,0,none⟩ v):=by
  rintro w1 M' D' v e1 e2 h1 h2 av pa aw at_ rfl
  have hO:=(ab.refl (·=D.f) w1).setCell (p:=⟨D.f,0,none⟩) (.inl rfl) (.int .i64 at_)
  refine ⟨av.only hO (fun x hx e=>h1 (e▸hx)),⟨?_,pa.wt.only hO (fun e=>aH (by rw [<-e2]; exact e.symm)),pa.jV.only hO (fun x hl hx e=>h2 hl (e▸hx)),pa.sz⟩,aw.setCell (p:=⟨D.f,0,none⟩) (.inl (.inr (.inl rfl))) _⟩
  have:=pa.an.store 0 (.int .i64 at_)
  rw [e1] at this
  show af _ D'.f _ _
  rw [e1]
  exact this
 have sub_d:∀ x,x=D.f->cg M D x:=fun x q=>.inr (.inl q)
 by_cases h0:D.at_=0
 ·have iR:M.ws≠[]:=by
   have:0<M.ws.length:=by simpa [fP,h0] using hr
   intro q; rw [q] at this; simp at this
  have e:aO n M D=({M with V:=none,capV:=0,ws:=[]},{D with A:=M.V,cap:=M.capV,left:=M.ws,at_:=1}):=by unfold aO; rw [if_pos h0]
  rw [e]
  refine (CQ (F:=73) (cv:=ptr D.f) (m:=ptr M.m) (c:=true) (P:=fun w'=>ah w' {M with V:=none,capV:=0,ws:=[]}/\df w' {D with A:=M.V,cap:=M.capV,left:=M.ws}/\ab (cg M D) w w') hD (by omega) (by rw [h0]; rfl) SJ (fun w2 hb=>?_) (fun w' h=>⟨h.2.1.hd.1,h.2.1.an.frozen 0⟩)).mono ?_
  ·have hO:=ab.aD hb (cg M D)
   exact (SP (hM.below hb) (hD.below hb) iR (ok.zero h0)).mono fun e w' h=>⟨h.1,h.2.1,h.2.2.1,hO.trans' h.2.2.2 (fun x _ q=>by
    rcases q with q | q
    ·exact .inl (.inl q)
    ·exact .inr (.inl q))⟩
  ·rintro e w' ⟨rfl,w1,⟨h1,h2,h3⟩,hw⟩
   rw [if_pos rfl,h0] at hw
   have:=kD w1 {M with V:=none,capV:=0,ws:=[]} {D with A:=M.V,cap:=M.capV,left:=M.ws} (.int .i64 (1:Nat)) rfl rfl (fun hx=>eZ.1 (by
    rcases hx with q | q | q | q | q | q
    ·exact .inl q
    ·exact .inr (.inl q)
    ·exact .inr (.inr (.inl q))
    ·exact .inr (.inr (.inr (.inl q)))
    ·exact .inr (.inr (.inr (.inr (.inl q))))
    ·simp [In] at q)) (fun _ hx=>eZ.1 (.inr (.inr (.inr (.inr (.inr hx)))))) h1 h2 h3 1 rfl
   rw [hw]
   exact ⟨by simp [h0],this⟩
 by_cases h1:D.at_=1
 ·have okw:=ok.wt (by omega)
  have eD:fQ M.xs M.hs D.W=true:=by simpa [fP,h1] using hr
  have e:aO n M D=({M with xs:=(aI n M.xs M.hs D.W).1,hs:=(aI n M.xs M.hs D.W).2.1},{D with W:=(aI n M.xs M.hs D.W).2.2,at_:=if D.W.at_=3 then 2 else 1}):=by unfold aO; rw [if_neg h0,if_pos h1]
  rw [e]
  have dF:=ok.apart (ok.some h0)
  refine (CQ (F:=74) (cv:=ptr D.fw) (m:=ptr M.m) (c:=decide (D.W.at_=3)) (P:=fun w'=>ah w' {M with xs:=(aI n M.xs M.hs D.W).1,hs:=(aI n M.xs M.hs D.W).2.1}/\df w' {D with W:=(aI n M.xs M.hs D.W).2.2}/\ab (cg M D) w w') hD (by omega) (by rw [h1]; rfl) SK (fun w2 hb=>?_) (fun w' h=>⟨h.2.1.hd.1,h.2.1.an.frozen 0⟩)).mono ?_
  ·have hO:=ab.aD hb (cg M D)
   have dH:=hD.below hb
   exact (yE (hM.below hb) dH.wt ok.k okw eD).mono fun e w' h=>⟨h.1,h.2.1,⟨dH.an.only h.2.2.2 (fun q=>by
    rcases q with q | q
    ·exact eZ.1 q
    ·exact aH q),h.2.2.1,dH.jV.only h.2.2.2 (fun x hl hx q=>by
    rcases q with q | q
    ·exact dF x hx q
    ·exact (dH.ty (.inr (.inr ⟨hl,hx⟩))).apart (by
      rcases dH.jV with z | ⟨b,o,cs,hA,cN,_⟩
      ·exact absurd z hl
      ·rw [hA] at hx
       have hx:b=x:=by simpa [In] using hx
       exact absurd q (by rw [<-hx]; exact cN.differ dH.wt (by decide))) (by decide:∀ t∈[127,157,40],t∉([]:List TypeId))),dH.sz⟩,hO.trans' h.2.2.2 (fun x _ q=>by
    rcases q with q | q
    ·exact .inl q
    ·exact .inr (.inr q))⟩
  ·rintro e w' ⟨rfl,w1,⟨g1,g2,g3⟩,hw⟩
   have k1:¬ao {M with xs:=(aI n M.xs M.hs D.W).1,hs:=(aI n M.xs M.hs D.W).2.1} D.f:=eZ.1
   have k2:({D with W:=(aI n M.xs M.hs D.W).2.2}:Dr).left≠[]->¬In ({D with W:=(aI n M.xs M.hs D.W).2.2}:Dr).A D.f:=fun hl hx=>by
    rcases hD.jV with z | ⟨b,o,cs,hA,cN,_⟩
    ·exact absurd z hl
    ·have hx:In D.A D.f:=hx
     rw [hA] at hx
     have hx:b=D.f:=by simpa [In] using hx
     exact absurd hx (cN.differ hD.an (by decide))
   by_cases h3:D.W.at_=3
   ·rw [decide_eq_true h3,if_pos rfl,h1] at hw
    have:=kD w1 {M with xs:=(aI n M.xs M.hs D.W).1,hs:=(aI n M.xs M.hs D.W).2.1} {D with W:=(aI n M.xs M.hs D.W).2.2} (.int .i64 (2:Nat)) rfl rfl k1 k2 g1 g2 g3 2 rfl
    rw [hw]
    refine ⟨by simp [h1,h3],this.1,?_,this.2.2⟩
    rw [if_pos h3]
    exact this.2.1
   ·rw [decide_eq_false h3] at hw
    simp only [Bool.false_eq_true,if_false] at hw
    rw [hw]
    refine ⟨by simp [h1,h3],g1,?_,g3⟩
    rw [if_neg h3]
    have e1:({D with W:=(aI n M.xs M.hs D.W).2.2,at_:=1}:Dr)={D with W:=(aI n M.xs M.hs D.W).2.2}:=by rw [<-h1]
    rw [e1]
    exact g2
 ·have h2:D.at_=2:=by omega
  have KP:=ok.some h0
  have dF:=ok.apart KP
  obtain ⟨x,r,hl⟩:∃ x r,D.left=x::r:=by
   cases hh:D.left with
   | nil=>exact absurd hh KP
   | cons x r=>exact ⟨x,r,rfl⟩
  obtain ⟨hx,k,ha,hg⟩:=ok.live x (by rw [hl]; simp)
  have qh:=hM.2.2.2.1.room
  have fx:place x=k:=CS qh.2 ha
  have e:aO n M D=({M with ss:=ik M.ss k},{D with A:=gT D.A D.cap,cap:=D.cap-1,left:=r,at_:=if r=[] then 3 else 2}):=by
   unfold aO; rw [if_neg h0,if_neg h1,hl]; simp only [List.headD_cons,List.tail_cons,fx]; by_cases lU:r=[]<;>simp [lU]
  rw [e]
  refine (CQ (F:=75) (cv:=ptr D.f) (m:=ptr M.m) (c:=decide (r=[])) (P:=fun w'=>ah w' {M with ss:=ik M.ss k}/\df w' {D with A:=gT D.A D.cap,cap:=D.cap-1,left:=r}/\ab (cg M D) w w') hD (by omega) (by rw [h2]; rfl) SL (fun w2 hb=>?_) (fun w' h=>⟨h.2.1.hd.1,h.2.1.an.frozen 0⟩)).mono ?_
  ·have hO:=ab.aD hb (cg M D)
   exact (SR (hM.below hb) (hD.below hb) hl hx ha hg dF).mono fun e w' h=>⟨h.1,h.2.1,h.2.2.1,hO.trans' h.2.2.2 (fun x _ q=>by
    rcases q with q | q
    ·exact .inl (jf x q)
    ·exact .inr (.inl q))⟩
  ·rintro e w' ⟨rfl,w1,⟨g1,g2,g3⟩,hw⟩
   by_cases lU:r=[]
   ·rw [decide_eq_true lU,if_pos rfl,h2] at hw
    have:=kD w1 {M with ss:=ik M.ss k} {D with A:=gT D.A D.cap,cap:=D.cap-1,left:=r} (.int .i64 (3:Nat)) rfl rfl eZ.1 (fun cE=>absurd lU cE) g1 g2 g3 3 rfl
    rw [hw]
    refine ⟨by simp [h2,lU,hl],this.1,?_,this.2.2⟩
    rw [if_pos lU]
    exact this.2.1
   ·rw [decide_eq_false lU] at hw
    simp only [Bool.false_eq_true,if_false] at hw
    rw [hw]
    refine ⟨by simp [h2,lU,hl],g1,?_,g3⟩
    rw [if_neg lU]
    have e1:({D with A:=gT D.A D.cap,cap:=D.cap-1,left:=r,at_:=2}:Dr)={D with A:=gT D.A D.cap,cap:=D.cap-1,left:=r}:=by rw [<-h2]
    rw [e1]
    exact g2
end
end Go.Proofs.YtpanebgakndddaaGreat.Re
