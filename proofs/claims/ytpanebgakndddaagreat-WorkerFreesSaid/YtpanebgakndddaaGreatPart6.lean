/- Walks and plain mathematics, put together in their order: JoinB, GroA, GroB, GroC, GroD, GroE, GroF. -/
import Derived.Test.YtpanebgakndddaaGreatPart5
import Derived.Test.YtpanebgakndddaaGreatQsbrE
import Derived.Laws.EntriesVeiled
import Derived.Maps.Own
import Derived.Maps.OwnOps
import Derived.Maps.OwnSet
import Derived.Maps.Views
import Derived.Deep.RegionHeld3
import Derived.StillTailTactics
import Derived.Deep.QuietTactic
set_option linter.unusedVariables false
set_option linter.unusedSimpArgs false
namespace Go.Proofs.YtpanebgakndddaaGreat.Zp
open Go Hm Ar Mm Wk Pc Me Mq Pu Pn Gt Qs Mx
section
variable {J:Js} {L L':Lm} {l:List Pr} {old old':Nat->Int->Nat->Prop} {w k e n:Nat} {W:Wt} {R:Rn}
theorem Js.Ok.cells (hJ:J.Ok L l) {xs' hs':List Int} {ds':List (Nat×Nat)} {ws':List Nat} (h1:∀ i,J.B<=i->i<J.B+2*J.n->Cl.nth xs' i=Cl.nth L.xs i) (h2:J.bq=true->∀ b,b<J.n->Cl.nth xs' (J.B2+b)=Cl.nth L.xs (J.B2+b)) (hl:L.xs.length<=xs'.length)
 (lh:∀ x∈xs',0<=x/\x<=18446744073709551615) (bU:Me.now xs' ds'=Me.now L.xs L.ds) (m8:∀ i,(aN ds' i).1<=65536/\(aN ds' i).2<=4000000) (nL:1<=Cl.nth xs' 0):J.Ok {L with xs:=xs',ds:=ds',hs:=hs',ws:=ws'} l:=
 {hJ with now:=by show Me.now xs' ds'=_; rw [bU]; exact hJ.now,tb:=m8,xl:=by have:=hJ.xl; exact ⟨Nat.le_trans this.1 hl,this.2.1,fun p=>Nat.le_trans (this.2.2 p) hl⟩,xb:=lh,elder:=fun i hi=>by show Cl.nth xs' _=_; rw [h1 _ (by omega) (by omega)]; exact hJ.elder i hi,newer:=fun p b hb=>by show Cl.nth xs' _=_; rw [h2 p b hb]; exact hJ.newer p b hb,p1:=nL}
theorem Js.Ok.vU (hJ:J.Ok L l) (_hp:J.bq=false) (fZ:∀ e,e<J.n->J.jn e=true) {xs':List Int} (h1:∀ i,i≠1->Cl.nth xs' i=Cl.nth L.xs i) (hl:xs'.length=L.xs.length) (lh:∀ x∈xs',0<=x/\x<=18446744073709551615) (bU:Me.now xs' L.ds=(J.n,J.B2)) (h2:J.B2+J.n<=L.xs.length) (iM:∀ e,e<J.n->Cl.nth L.xs (J.B2+e)=((aC (J.two e):Nat):Int)):Js.Ok {J with bq:=true} {L with xs:=xs'} l:=by
 have eo:=hJ.kB
 have hk:=hJ.k
 have bz:=hJ.xl
 have jy:=FM.eW hJ.pw
 exact {hJ with now:=bU,xl:=⟨by show _<=xs'.length; rw [hl]; exact bz.1,bz.2.1,fun _=>by show _<=xs'.length; rw [hl]; exact h2⟩,xb:=lh,elder:=fun i hi=>by show Cl.nth xs' (J.B+i)=_; rw [h1 _ (by omega)]; exact hJ.elder i hi,newer:=fun _ b hb=>by show Cl.nth xs' (J.B2+b)=_; rw [h1 _ (by omega)]; exact iM b hb,all:=fun _=>fZ,p1:=by show 1<=Cl.nth xs' 0; rw [h1 _ (by omega)]; exact hJ.p1}
theorem Js.Ok.waits (hJ:J.Ok L l) (hb:Cl.nth L.xs 0<=4611686018427387904):J.Ok {L with xs:=(aI n L.xs L.hs W).1,hs:=(aI n L.xs L.hs W).2.1} l:=by
 have eo:=hJ.kB
 have hk:=hJ.k
 have bz:=hJ.xl
 have jy:=FM.eW hJ.pw
 have h0:=Cl.eX hJ.xb 0
 have hs:=yI h0.1 hb
 unfold aI
 split
 ·exact hJ.cells (fun _ _ _=>rfl) (fun _ _ _=>rfl) (Nat.le_refl _) hJ.xb rfl hJ.tb hJ.p1
 split
 ·have hn:∀ i,i≠0->Cl.nth (L.xs.set 0 (Cl.fp (Cl.nth L.xs 0) 1)) i=Cl.nth L.xs i:=fun i hi=>by
   rw [fJ _ _ _ (by omega),if_neg hi]
  refine hJ.cells (fun i h1 _=>hn i (by omega)) (fun _ b _=>hn _ (by omega)) (by simp) (fun x hx=>?_) ?_ hJ.tb ?_
  ·rcases List.mem_or_eq_of_mem_set hx with q | rfl
   ·exact hJ.xb x q
   ·rw [hs]; omega
  ·unfold Me.now
   rw [hn 1 (by omega)]
  ·rw [fJ _ _ _ (by omega),if_pos rfl,hs]
   have:=hJ.p1
   omega
 split
 ·exact hJ.cells (fun _ _ _=>rfl) (fun _ _ _=>rfl) (Nat.le_refl _) hJ.xb rfl hJ.tb hJ.p1
 ·exact hJ.cells (fun _ _ _=>rfl) (fun _ _ _=>rfl) (Nat.le_refl _) hJ.xb rfl hJ.tb hJ.p1
theorem bW.Cv (hJ:J.Ok L l) (hp:J.bq=false) (he:e<J.n) (xy:J.jn e=false) {c0:List Mq.Hp} {a:Mq.Hp} (hc:J.C e=c0++[a]) (h:bW J.wy L l old R k):
 ∃ k',k'<=k+(J.C (e+J.n)).length/\bW (J.linked e).wy {L with ss:=aR L.ss a.1 (aC (J.C (e+J.n)))} l old R k':=by
 unfold bW at h ⊢
 split
 ·rename_i q
  rw [q] at h
  exact ⟨k,Nat.le_add_right _ _,h⟩
 ·rename_i G q
  rw [q] at h
  exact fH.Cv hJ hp he xy hc h
theorem bW.Qy (hp:J.bq=false) (ho:∀ p,old' R.w p 0) (h:bW J.wy L l old R k):bW (Js.wy {J with bq:=true}) L l old' R k:=
 h.to rfl (Int.le_refl _) rfl rfl (Nat.le_refl _) (fun key c p hq=>by
  rcases hq with ⟨hq,_⟩ | ⟨_,hq⟩
  ·exact .inl ⟨hq,.inr (ho p)⟩
  ·rw [hp] at hq; simp at hq) (fun key q p hq=>by
  rcases hq with hq | ⟨hq,_⟩
  ·exact .inl hq
  ·rw [hp] at hq; simp at hq)
end
end Go.Proofs.YtpanebgakndddaaGreat.Zp
namespace Go.Proofs.YtpanebgakndddaaGreat.Gw
open Go Hm Ar Mm Wk Pc Me Mq Pu Pn Gt Qs Zp
def cC (p:Nat×Nat) (h:Nat):Nat:=if h=0 then p.1 else p.2
def put (p:Nat×Nat) (h x:Nat):Nat×Nat:=if h=0 then (x,p.2) else (p.1,x)
theorem kx (p:Nat×Nat) (h x i:Nat) (hh:h<=1) (hi:i<=1):cC (put p h x) i=if i=h then x else cC p i:=by
 unfold cC put
 have:h=0\/h=1:=by omega
 have:i=0\/i=1:=by omega
 rcases ‹h=0\/h=1› with rfl | rfl<;>rcases ‹i=0\/i=1› with rfl | rfl<;>simp
structure Ch where
 fi:Nat×Nat
 la:Nat×Nat
 half:Nat
 met:List Nat
 lk:List (Nat×Nat)
def Ch.new:Ch:=⟨(0,0),(0,0),0,[],[]⟩
def Ch.add (C:Ch) (x h:Nat):Ch:=
 ⟨if cC C.fi h=0 then put C.fi h x else C.fi,put C.la h x,h,x::C.met,if cC C.fi h=0 then C.lk else if h≠C.half then C.lk++[(cC C.la h,x)] else C.lk⟩
def Ch.cM (C:Ch):List (Nat×Nat):=if cC C.la (1-C.half)≠0 then C.lk++[(cC C.la (1-C.half),0)] else C.lk
def hf (b:Bool):Nat:=if b=true then 1 else 0
theorem eg (b:Bool):hf b<=1:=by cases b<;>simp [hf]
theorem GK (b:Bool):1-hf b=hf (!b):=by cases b<;>rfl
theorem pB {a b:Bool}:hf a=hf b↔a=b:=by cases a<;>cases b<;>simp [hf]
def jL (σ:ByteArray->Bool) (q:List Mq.Hp):Ch:=q.foldl (fun C a=>C.add a.1 (hf (σ a.2.1))) .new
theorem BI (σ:ByteArray->Bool) (q:List Mq.Hp) (a:Mq.Hp):jL σ (q++[a])=(jL σ q).add a.1 (hf (σ a.2.1)):=by
 unfold jL
 rw [List.foldl_append]
 rfl
inductive kU (σ:ByteArray->Bool):List Mq.Hp->List Mq.Hp->List (Nat×Nat)->Prop
 | nil {r:List Mq.Hp}:kU σ r [] []
 | cons {r0 d t:List Mq.Hp} {a:Mq.Hp} {s:Bool} {ls:List (Nat×Nat)}:d≠[]->(∀ b∈d,σ b.2.1= !s)->(∀ b t',t=b::t'->σ b.2.1=s)->kU σ d t ls->kU σ (r0++[a]) (d++t) ((a.1,aC t)::ls)
structure OM (σ:ByteArray->Bool) (p:List Mq.Hp) (C:Ch):Prop where
 fi:∀ b,cC C.fi (hf b)=aC (p.filter fun e=>σ e.2.1==b)
 met:C.met=(aL p).reverse
theorem BJ (p q:List Mq.Hp):aC (p++q)=if p=[] then aC q else aC p:=by
 cases p<;>simp [aC]
theorem GL {p:List Mq.Hp} (hp:∀ e∈p,e.1≠0):aC p=0↔p=[]:=by
 cases p with
 | nil=>simp [aC]
 | cons e t=>simp [aC,hp e (by simp)]
theorem ON (σ:ByteArray->Bool):∀ (n:Nat) (p:List Mq.Hp),p.length=n->(∀ e∈p,e.1≠0)->OM σ p (jL σ p):=by
 intro n
 induction n with
 | zero=>
   intro p hl _
   have:p=[]:=List.eq_nil_of_length_eq_zero hl
   subst this
   exact ⟨fun b=>by cases b<;>rfl,rfl⟩
 | succ n ih=>
   intro p hl hp
   obtain ⟨q,a,rfl⟩:∃ q a,p=q++[a]:=⟨p.dropLast,p.getLast (by rintro rfl; simp at hl),(List.dropLast_concat_getLast _).symm⟩
   have hq:=ih q (by simp at hl; omega) (fun e he=>hp e (by simp [he]))
   rw [BI]
   generalize jL σ q=C at*
   have ha:=hp a (by simp)
   refine ⟨fun b=>?_,?_⟩
   ·have h1:=hq.fi b
    have h2:=hq.fi (σ a.2.1)
    have hz:=GL (p:=q.filter fun e=>σ e.2.1==b) (fun e he=>hp e (by have:=(List.mem_filter.1 he).1; simp [this]))
    have dh:=GL (p:=q.filter fun e=>σ e.2.1==σ a.2.1) (fun e he=>hp e (by have:=(List.mem_filter.1 he).1; simp [this]))
    rw [List.filter_append,BJ]
    show cC (if cC C.fi (hf (σ a.2.1))=0 then put C.fi (hf (σ a.2.1)) a.1 else C.fi) (hf b)=_
    by_cases hb:b=σ a.2.1
    ·subst hb
     by_cases h0:cC C.fi (hf (σ a.2.1))=0
     ·rw [if_pos h0,kx _ _ _ _ (eg _) (eg _),if_pos rfl,if_pos (dh.1 (by rw [<-h2]; exact h0))]
      simp [aC]
     ·rw [if_neg h0,if_neg (fun e=>h0 (by rw [h2]; exact dh.2 e))]
      exact h1
    ·have e1:cC (if cC C.fi (hf (σ a.2.1))=0 then put C.fi (hf (σ a.2.1)) a.1 else C.fi) (hf b)=cC C.fi (hf b):=by
      split
      ·rw [kx _ _ _ _ (eg _) (eg _),if_neg (fun e=>hb (pB.1 e))]
      ·rfl
     rw [e1,h1]
     have e2:[a].filter (fun e=>σ e.2.1==b)=[]:=by
      rw [List.filter_cons,if_neg (by simpa using fun e=>hb e.symm)]; rfl
     rw [e2]
     split
     ·rename_i q; rw [q]
     ·rfl
   ·show a.1::C.met=_
    rw [hq.met]
    simp [aL]
def more (σ:ByteArray->Bool) (C:Ch) (q:List Mq.Hp) (l:List (Nat×Nat)):Prop:=(q.foldl (fun C a=>C.add a.1 (hf (σ a.2.1))) C).cM=C.lk++l
theorem OO (σ:ByteArray->Bool):∀ (q:List Mq.Hp) (C:Ch) (r0 d:List Mq.Hp) (a:Mq.Hp) (s:Bool),C.half=hf s->a.1≠0->cC C.la (hf (!s))=a.1->cC C.fi (hf s)≠0->cC C.fi (hf (!s))≠0->(∃ d0 z,d=d0++[z]/\cC C.la (hf s)=z.1/\z.1≠0)->
 (∀ b∈d,σ b.2.1=s)->(∀ e∈q,e.1≠0)->∃ l,more σ C q l/\kU σ (r0++[a]) (d++q) l:=by
 intro q
 induction q with
 | nil=>
   intro C r0 d a s hh ha hl gY cp hd jC hq
   obtain ⟨d0,z,rfl,hz,cQ⟩:=hd
   refine ⟨[(a.1,0)],?_,?_⟩
   ·show C.cM=_
    unfold Ch.cM
    rw [hh,GK,hl,if_pos ha]
   ·have:=kU.cons (σ:=σ) (r0:=r0) (d:=d0++[z]) (t:=[]) (a:=a) (s:= !s) (ls:=[]) (by simp) (by simpa using jC) (by simp) .nil
    simpa [aC] using this
 | cons e q ih=>
   intro C r0 d a s hh ha hl gY cp hd jC hq
   obtain ⟨d0,z,J3,hz,cQ⟩:=hd
   have he:=hq e (by simp)
   by_cases hs:σ e.2.1=s
   ·have nW:(C.add e.1 (hf (σ e.2.1)))=⟨C.fi,put C.la (hf s) e.1,hf s,e.1::C.met,C.lk⟩:=by
     unfold Ch.add
     rw [hs,if_neg gY,if_neg gY,if_neg (by rw [hh]; simp)]
    have h1:s≠ !s:=by cases s<;>simp
    obtain ⟨l,h2,h3⟩:=ih ⟨C.fi,put C.la (hf s) e.1,hf s,e.1::C.met,C.lk⟩ r0 (d++[e]) a s rfl ha
     (by rw [kx _ _ _ _ (eg _) (eg _),if_neg (fun q=>h1 (pB.1 q).symm)]; exact hl) gY cp ⟨d,e,rfl,by rw [kx _ _ _ _ (eg _) (eg _),if_pos rfl],he⟩
     (fun b hb=>by
       rcases List.mem_append.1 hb with q | q
       ·exact jC b q
       ·have:b=e:=by simpa using q
        rw [this]; exact hs) (fun b hb=>hq b (List.mem_cons_of_mem _ hb))
    refine ⟨l,?_,by simpa using h3⟩
    unfold more at h2 ⊢
    rw [List.foldl_cons,nW]
    exact h2
   ·have hs':σ e.2.1= !s:=by revert hs; cases σ e.2.1<;>cases s<;>simp
    have h1:s≠ !s:=by cases s<;>simp
    have nW:(C.add e.1 (hf (σ e.2.1)))=⟨C.fi,put C.la (hf (!s)) e.1,hf (!s),e.1::C.met,C.lk++[(a.1,e.1)]⟩:=by
     unfold Ch.add
     rw [hs',if_neg cp,if_neg cp,if_pos (by rw [hh]; exact fun q=>h1 (pB.1 q).symm),hl]
    obtain ⟨l,h2,h3⟩:=ih ⟨C.fi,put C.la (hf (!s)) e.1,hf (!s),e.1::C.met,C.lk++[(a.1,e.1)]⟩ d0 [e] z (!s) rfl cQ
     (by rw [Bool.not_not,kx _ _ _ _ (eg _) (eg _),if_neg (fun q=>h1 (pB.1 q))]; exact hz) cp (by rw [Bool.not_not]; exact gY) ⟨[],e,rfl,by rw [kx _ _ _ _ (eg _) (eg _),if_pos rfl],he⟩
     (fun b hb=>by have:b=e:=by simpa using hb
                   rw [this]; exact hs') (fun b hb=>hq b (List.mem_cons_of_mem _ hb))
    refine ⟨(a.1,e.1)::l,?_,?_⟩
    ·unfold more at h2 ⊢
     rw [List.foldl_cons,nW,h2]
     simp
    ·rw [<-J3] at h3
     exact kU.cons (σ:=σ) (r0:=r0) (d:=d) (t:=e::q) (a:=a) (s:= !s) (by rw [J3]; simp) (by rw [Bool.not_not]; exact jC) (fun b t' q=>by
      injection q with q1 _
      rw [<-q1]; exact hs') h3
theorem OP (σ:ByteArray->Bool):∀ (q:List Mq.Hp) (C:Ch) (r0:List Mq.Hp) (z:Mq.Hp) (s:Bool),C.half=hf s->cC C.la (hf (!s))=0->cC C.fi (hf s)≠0->cC C.fi (hf (!s))=0->cC C.la (hf s)=z.1->z.1≠0->
 (∀ b∈r0++[z],σ b.2.1=s)->(∀ e∈q,e.1≠0)->∀ r rest,(r0++[z])++q=r++rest->(∀ b∈r,σ b.2.1=s)->(∀ b t',rest=b::t'->σ b.2.1= !s)->∃ l,more σ C q l/\kU σ r rest l:=by
 intro q
 induction q with
 | nil=>
   intro C r0 z s hh hl gY cp hz cQ hr hq r rest he mY uD
   have:rest=[]:=by
    cases rest with
    | nil=>rfl
    | cons b t=>
      exfalso
      have h1:=uD b t rfl
      have h2:=hr b (by rw [List.append_nil] at he; rw [he]; simp)
      rw [h2] at h1
      revert h1
      cases s<;>simp
   subst this
   refine ⟨[],?_,.nil⟩
   show C.cM=_
   unfold Ch.cM
   rw [hh,GK,hl,if_neg (by simp),List.append_nil]
 | cons e q ih=>
   intro C r0 z s hh hl gY cp hz cQ hr hq r rest hx mY uD
   have he:=hq e (by simp)
   have h1:s≠ !s:=by cases s<;>simp
   by_cases hs:σ e.2.1=s
   ·have nW:(C.add e.1 (hf (σ e.2.1)))=⟨C.fi,put C.la (hf s) e.1,hf s,e.1::C.met,C.lk⟩:=by
     unfold Ch.add
     rw [hs,if_neg gY,if_neg gY,if_neg (by rw [hh]; simp)]
    obtain ⟨l,h2,h3⟩:=ih ⟨C.fi,put C.la (hf s) e.1,hf s,e.1::C.met,C.lk⟩ (r0++[z]) e s rfl
     (by rw [kx _ _ _ _ (eg _) (eg _),if_neg (fun q=>h1 (pB.1 q).symm)]; exact hl) gY cp (by rw [kx _ _ _ _ (eg _) (eg _),if_pos rfl]) he
     (fun b hb=>by
       rcases List.mem_append.1 hb with q | q
       ·exact hr b q
       ·have:b=e:=by simpa using q
        rw [this]; exact hs) (fun b hb=>hq b (List.mem_cons_of_mem _ hb)) r rest (by simpa using hx) mY uD
    refine ⟨l,?_,h3⟩
    unfold more at h2 ⊢
    rw [List.foldl_cons,nW]
    exact h2
   ·have hs':σ e.2.1= !s:=by revert hs; cases σ e.2.1<;>cases s<;>simp
    have VG:r=r0++[z]/\rest=e::q:=by
     rcases List.append_eq_append_iff.1 hx with ⟨c,p1,p2⟩ | ⟨c,p1,p2⟩
     ·cases c with
      | nil=>exact ⟨by simpa using p1,by simpa using p2.symm⟩
      | cons b c=>
        exfalso
        injection p2 with p2 _
        have:=mY b (by rw [p1]; simp)
        rw [<-p2,hs'] at this
        exact h1 this.symm
     ·cases c with
      | nil=>exact ⟨by simpa using p1.symm,by simpa using p2⟩
      | cons b c=>
        exfalso
        have h2:=uD b (c++e::q) (by rw [p2]; simp)
        have h3:=hr b (by rw [p1]; simp)
        rw [h3] at h2
        exact h1 h2
    obtain ⟨rfl,rfl⟩:=VG
    have nW:(C.add e.1 (hf (σ e.2.1)))=⟨put C.fi (hf (!s)) e.1,put C.la (hf (!s)) e.1,hf (!s),e.1::C.met,C.lk⟩:=by
     unfold Ch.add
     rw [hs',if_pos cp,if_pos cp]
    obtain ⟨l,h2,h3⟩:=OO σ q ⟨put C.fi (hf (!s)) e.1,put C.la (hf (!s)) e.1,hf (!s),e.1::C.met,C.lk⟩ r0 [e] z (!s) rfl cQ
     (by rw [Bool.not_not,kx _ _ _ _ (eg _) (eg _),if_neg (fun q=>h1 (pB.1 q))]; exact hz) (by rw [kx _ _ _ _ (eg _) (eg _),if_pos rfl]; exact he)
     (by rw [Bool.not_not,kx _ _ _ _ (eg _) (eg _),if_neg (fun q=>h1 (pB.1 q))]; exact gY) ⟨[],e,rfl,by rw [kx _ _ _ _ (eg _) (eg _),if_pos rfl],he⟩
     (fun b hb=>by have:b=e:=by simpa using hb
                   rw [this]; exact hs') (fun b hb=>hq b (List.mem_cons_of_mem _ hb))
    refine ⟨l,?_,h3⟩
    unfold more at h2 ⊢
    rw [List.foldl_cons,nW]
    exact h2
theorem OQ (σ:ByteArray->Bool) {ss:List Sl} {aU:List Mq.Hp} {s:Bool} {x y:Nat} {r rest:List Mq.Hp} (h:Zip ss σ aU s x y [] r [] rest) (hA:aU=r++rest) (h0:∀ e∈aU,e.1≠0):kU σ r rest (jL σ aU).cM:=by
 cases hq:aU with
 | nil=>
   have h1:=hA
   rw [hq] at h1
   have h2:=List.append_eq_nil_iff.1 h1.symm
   rw [h2.1,h2.2]
   exact .nil
 | cons e t=>
   have VH:r≠[]:=by
    intro e0
    have h1:rest=[]:=by
     cases rest with
     | nil=>rfl
     | cons b t'=>exact absurd e0 (h.ne (by simp))
    rw [e0,h1,hq] at hA
    simp at hA
   obtain ⟨b,r',rfl⟩:∃ b r',r=b::r':=by
    cases r with
    | nil=>exact absurd rfl VH
    | cons b r'=>exact ⟨b,r',rfl⟩
   rw [hq,List.cons_append] at hA
   injection hA with hb ht
   subst hb
   have hs:σ e.2.1=s:=h.su e (by simp)
   have he:e.1≠0:=h0 e (by rw [hq]; simp)
   obtain ⟨l,h2,h3⟩:=OP σ t ⟨put (0,0) (hf s) e.1,put (0,0) (hf s) e.1,hf s,[e.1],[]⟩ [] e s rfl
    (by rw [kx _ _ _ _ (eg _) (eg _),if_neg (fun q=>by have:=pB.1 q; revert this; cases s<;>simp)]; unfold cC; split<;>rfl)
    (by rw [kx _ _ _ _ (eg _) (eg _),if_pos rfl]; exact he)
    (by rw [kx _ _ _ _ (eg _) (eg _),if_neg (fun q=>by have:=pB.1 q; revert this; cases s<;>simp)]; unfold cC; split<;>rfl)
    (by rw [kx _ _ _ _ (eg _) (eg _),if_pos rfl]) he (by simpa using hs) (fun b hb=>h0 b (by rw [hq]; exact List.mem_cons_of_mem _ hb)) (e::r') rest (by simpa using ht) (by simpa using h.su) h.hd
   unfold more at h2
   have e1:(jL σ (e::t)).cM=(t.foldl (fun (C:Ch) (a:Mq.Hp)=>C.add a.1 (hf (σ a.2.1))) ⟨put (0,0) (hf s) e.1,put (0,0) (hf s) e.1,hf s,[e.1],[]⟩).cM:=by
    unfold jL
    rw [List.foldl_cons,hs]
    have:Ch.new.add e.1 (hf s)=⟨put (0,0) (hf s) e.1,put (0,0) (hf s) e.1,hf s,[e.1],[]⟩:=by
     have hz:cC Ch.new.fi (hf s)=0:=by unfold cC Ch.new; split<;>rfl
     unfold Ch.add
     rw [if_pos hz,if_pos hz]
     rfl
    rw [this]
   rw [e1,h2]
   simpa using h3
theorem kU.le {σ:ByteArray->Bool} {r rest:List Mq.Hp} {l:List (Nat×Nat)} (h:kU σ r rest l):l.length<=rest.length:=by
 induction h with
 | nil=>simp
 | @cons r0 d t a s ls h1 _ _ _ ih=>
   have:1<=d.length:=List.length_pos_iff.2 h1
   simp only [List.length_cons,List.length_append]
   omega
theorem kU.none {σ:ByteArray->Bool} {r rest:List Mq.Hp} (h:kU σ r rest []):rest=[]:=by cases h; rfl
end Go.Proofs.YtpanebgakndddaaGreat.Gw
namespace Go.Proofs.YtpanebgakndddaaGreat.Gw
open Go Go.RowKit Hp K Fl Rw Hm Ar Mm Me Qs Wk Pn
set_option maxRecDepth 100000
/-! ### a map of handles to halves-/
abbrev GM:=DataW Unit
abbrev vE (x:Nat):Lit:=.int .u64 x
abbrev OR (v:Int):GM:=.lit (.int .i64 v)
def iI (w:World) (B:Nat) (ms:List Nat):Prop:=∃ (n:Nat) (D:GM),w.ownsMap Tryz.prog 40 (plainElem Tryz.prog 3) B n D/\n<=ms.length/\∀ x,x<=18446744073709551615->Maps.has D (vE x)=decide (x∈ms)
theorem BK:Maps.Keyed Tryz.prog 40:=Maps.int_keyed Tryz.underlying40
theorem OS (w:World):(zeroValue 3).run Tryz.prog w=.ok (.int .i64 0) w:=by kernel_rfl
theorem OT {x:Nat} (hx:x<=18446744073709551615):(Lit.int .u64 (x:Int)).wf=true:=by
 simp [Lit.wf,IntKind.min,IntKind.max,IntKind.signed,IntKind.bits]; omega
theorem OU {x:Nat} (hx:x<=1):(Lit.int .i64 (x:Int)).wf=true:=by
 simp [Lit.wf,IntKind.min,IntKind.max,IntKind.signed,IntKind.bits]; omega
theorem BL {x:Nat} (hx:x<=18446744073709551615):keyOf Tryz.prog 40 (.int .u64 x)=some (vE x):=Maps.keyOf_int_mk Tryz.underlying40 (OT hx)
theorem OV {x:Nat} (hx:x<=18446744073709551615):WideAt.IsKeyLit (vE x):=BK.key (BL hx)
section
variable {w w':World} {B:Nat} {ms:List Nat}
theorem iI.made (w:World):iI (w.alloc (.map #[] 0)) w.heap.size []:=⟨0,.map [],World.ownsMap_made _ _ _ _,Nat.le_refl _,fun x _=>by simp [Maps.has_eq]⟩
theorem iI.lt (h:iI w B ms):B<w.heap.size:=by obtain ⟨n,D,hm,r⟩:=h; exact hm.lt
theorem iI.only {S:Nat->Prop} (h:iI w B ms) (ho:ab S w w') (hn:¬S B):iI w' B ms:=by
 obtain ⟨n,D,hm,r⟩:=h
 have bn:=hm.lt
 obtain ⟨es,clock,hb,F,hs,hD⟩:=hm
 exact ⟨n,D,⟨es,clock,(ho.block B bn hn).trans hb,F,hs,hD⟩,r⟩
theorem iI.no (h:iI w B ms) {ts:List TypeId} (ht:Ty w B ts):False:=by
 obtain ⟨n,D,hm,r⟩:=h
 obtain ⟨es,clock,hb,_⟩:=hm
 obtain ⟨t,cs,cN,_⟩:=ht
 have e:=hb.symm.trans cN
 injection e with e
 injection e
theorem iI.look (h:iI w B ms) {x:Nat} (hx:x<=18446744073709551615):∃ c:Int,(Instr.lookup 258 (.map (some B)) (.int .u64 x) true).run Tryz.prog w=.ok (.tuple #[.int .i64 c,.bool (decide (x∈ms))]) w:=by
 obtain ⟨n,D,hm,_,bO⟩:=h
 obtain ⟨v,ps,fK,hv⟩:=hm.look_ok BK Tryz.underlying258 (OS w) (plainElem_int Tryz.underlying3 (by decide)) (BL hx)
 obtain ⟨c,rfl,_,_⟩:=plainElem_int_inv Tryz.underlying3 hv
 exact ⟨c,by rw [fK,bO x hx]⟩
theorem tP {ops:Array Oper} {rest:List Oper} {o:Oper} {a:Act} {Q:Exit->Act->World->Prop} (pV:o.guard=none) (m x v:Operand)
 (wW:o.op=Op.mapUpdate 258 m x v) (h:iI w B ms) (hl:ms.length<=1000000) (y:Nat) (hy:y<=18446744073709551615) (z:Nat) (hz:z<=1)
 (hm:a.eval m=.map (some B)) (hx:a.eval x=.int .u64 y) (hv:a.eval v=.int .i64 z)
 (hK:∀ w',iI w' B (y::ms)->ab (·=B) w w'->wpList Tryz.prog ops Q rest (a.put o.dst undef) w'):wpList Tryz.prog ops Q (o::rest) a w:=by
 obtain ⟨n,D,hM,hn,bO⟩:=h
 refine wpList_mapUpdate_own w pV m x v 258 wW 40 3 BK Tryz.underlying258 _ B n D hm hM (by unfold maxLen; omega) _ _ _ hx hv (BL hy) (OR z) [] (plainElem_int Tryz.underlying3 (OU hz)) ?_
 intro w' ke hg
 refine hK w' ⟨n+1,_,ke,by simp; omega,fun u hu=>?_⟩ ((ab.refl (·=B) w).grown hg (fun z hz=>.inl (by injection hz with hz; exact hz.symm)))
 by_cases e:u=y
 ·subst e
  rw [Maps.has_put_same hM.isMap (OV hu)]
  simp
 ·have aH:vE u≠vE y:=fun h=>by
   injection h with _ h
   exact e (by omega)
  rw [Maps.has_put_other aH,bO u hu]
  simp [e]
end
/-! ### rows of links,rows of such rows-/
structure El where
 A:Option Addr
 n:Nat
 cap:Nat
def ly (x:El):List Value:=[.slice x.A x.n x.cap]
theorem tQ (x:El):(ly x).length=1:=rfl
def lz (p:Nat×Nat):List Value:=[.int .u64 p.1,.int .u64 p.2]
theorem tR (p:Nat×Nat):(lz p).length=2:=rfl
def mc (l:List (Nat×Nat)) (i:Nat):Nat×Nat:=l.getD i (0,0)
def nB (l:List El) (i:Nat):El:=l.getD i ⟨none,0,0⟩
structure jM (w:World) (x:El) (l:List (Nat×Nat)):Prop where
 n:x.n=l.length
 ne:l≠[]
 cap:x.n<=x.cap/\x.cap<=maxLen
 at_:∃ b o cs,x.A=some ⟨b,o,none⟩/\af w b 270 cs/\∀ i,i<l.length->cs[o+i*2]?=some (.int .u64 (mc l i).1)/\cs[o+i*2+1]?=some (.int .u64 (mc l i).2)
def pC (w:World) (A:Option Addr) (l:List El):Prop:=l=[]\/∃ b o cs,A=some ⟨b,o,none⟩/\af w b 260 cs/\∀ i,i<l.length->cs[o+i]?=some (.slice (nB l i).A (nB l i).n (nB l i).cap)
abbrev rW (w:World) (A:Option Addr) (cap:Nat) (l:List El):Prop:=Row w 260 1 ly A cap l
abbrev qG (w:World) (A:Option Addr) (cap:Nat) (l:List (Nat×Nat)):Prop:=Row w 270 2 lz A cap l
section
variable {w w':World} {x:El} {l:List (Nat×Nat)} {A:Option Addr} {cap:Nat} {es:List El}
theorem jM.only {S:Nat->Prop} (h:jM w x l) (ho:ab S w w') (hn:∀ b,In x.A b->¬S b):jM w' x l:=by
 obtain ⟨h1,h2,h3,b,o,cs,h4,h5,h6⟩:=h
 exact ⟨h1,h2,h3,b,o,cs,h4,h5.only ho (hn b (by rw [h4]; rfl)),h6⟩
theorem jM.ty (h:jM w x l) {b:Nat} (hb:In x.A b):Ty w b [270]:=by
 obtain ⟨h1,h2,h3,b',o,cs,h4,h5,h6⟩:=h
 rw [h4] at hb
 have:b'=b:=by simpa [In] using hb
 subst this
 exact ⟨_,cs,h5,by simp⟩
theorem pC.only {S:Nat->Prop} (h:pC w A es) (ho:ab S w w') (hn:∀ b,In A b->¬S b):pC w' A es:=by
 rcases h with h | ⟨b,o,cs,h1,h2,h3⟩
 ·exact .inl h
 ·exact .inr ⟨b,o,cs,h1,h2.only ho (hn b (by rw [h1]; rfl)),h3⟩
theorem rW.pl (h:rW w A cap es):pC w A es:=by
 by_cases h0:es=[]
 ·exact .inl h0
 ·obtain ⟨b,e,hb,hc⟩:=h.cells tQ 0 (List.length_pos_iff.2 h0)
  obtain ⟨cs,hB⟩:=vF h (x:=b) (by rw [e]; rfl)
  refine .inr ⟨b,0,cs,e,hB,fun i hi=>?_⟩
  obtain ⟨b',e',_,tc⟩:=h.cells tQ i hi
  have:b'=b:=by rw [e] at e'; simpa using e'.symm
  subst this
  have:=(tc 0 (by omega)).1
  rw [hB.cell] at this
  rw [Nat.zero_add,show i=i*1+0 by omega,this]
  simp [ly,nB,List.getD,hi]
theorem qG.at (h:qG w A cap l) (hl:l≠[]):jM w ⟨A,l.length,cap⟩ l:=by
 obtain ⟨b,e,hb,hc⟩:=h.cells tR 0 (List.length_pos_iff.2 hl)
 obtain ⟨cs,hB⟩:=vF h (x:=b) (by rw [e]; rfl)
 refine ⟨rfl,hl,h.rX,b,0,cs,e,hB,fun i hi=>?_⟩
 obtain ⟨b',e',_,tc⟩:=h.cells tR i hi
 have:b'=b:=by rw [e] at e'; simpa using e'.symm
 subst this
 have h0:=(tc 0 (by omega)).1
 have h1:=(tc 1 (by omega)).1
 rw [hB.cell] at h0 h1
 rw [Nat.zero_add]
 exact ⟨h0.trans (by simp [lz,mc,List.getD,hi]),h1.trans (by simp [lz,mc,List.getD,hi])⟩
end
inductive jX (w:World):List El->List (List (Nat×Nat))->Prop
 | nil:jX w [] []
 | cons {x:El} {l:List (Nat×Nat)} {es:List El} {ls:List (List (Nat×Nat))}:jM w x l->jX w es ls->jX w (x::es) (l::ls)
section
variable {w w':World} {es:List El} {ls:List (List (Nat×Nat))}
theorem jX.len (h:jX w es ls):es.length=ls.length:=by
 induction h with
 | nil=>rfl
 | cons _ _ ih=>simp [ih]
theorem jX.only {S:Nat->Prop} (h:jX w es ls) (ho:ab S w w') (hn:∀ e∈es,∀ b,In e.A b->¬S b):jX w' es ls:=by
 induction h with
 | nil=>exact .nil
 | cons a _ ih=>exact .cons (a.only ho (hn _ (by simp))) (ih fun e he=>hn e (List.mem_cons_of_mem _ he))
theorem jX.ty (h:jX w es ls):∀ e∈es,∀ b,In e.A b->Ty w b [270]:=by
 induction h with
 | nil=>simp
 | cons a _ ih=>
   intro e he b hb
   rcases List.mem_cons.1 he with rfl | he
   ·exact a.ty hb
   ·exact ih e he b hb
theorem jX.snoc (h:jX w es ls) {x:El} {l:List (Nat×Nat)} (hx:jM w x l):jX w (es++[x]) (ls++[l]):=by
 induction h with
 | nil=>exact .cons hx .nil
 | cons a _ ih=>exact .cons a ih
end
/-! ### a grow-/
structure Gr where
 worker:Int
 nx:Nat
 err:Int
 el:Nat×Nat
 nw:Nat×Nat
 num:Int
 bucket:Nat
 C:Ch
 at_:Nat
 half:Nat
 W:Wt
 pass:List (List (Nat×Nat))
 later:List (List (Nat×Nat))
structure Gl where
 f:Nat
 cv:Value
 wv:Value
 c:Nat
 B:Nat
 LA:Option Addr
 lcap:Nat
 w:Nat
 PA:Option Addr
 pcap:Nat
 ps:List El
 QA:Option Addr
 qcap:Nat
 qs:List El
def tS (a:Gl) (nx:Nat):Value:=if nx=7 then aT 56 (ptr a.w) else dW 150
def jW (f nx:Nat):Value:=if nx=1 then aT 114 (ptr f) else if nx=2 then aT 151 (ptr f) else if nx=3 then aT 188 (ptr f)
 else if nx=4 then aT 221 (ptr f) else if nx=5 then aT 239 (ptr f) else if nx=6 then aT 240 (ptr f)
 else if nx=7 then aT 244 (ptr f) else if nx=8 then aT 245 (ptr f) else dW 205
def bM (a:Gl) (G:Gr):Array Value:=#[.int .i64 G.worker,tS a G.nx,jW a.f G.nx,.int .i64 G.err,.int .i64 G.el.1,.int .i64 G.el.2,.int .i64 G.nw.1,.int .i64 G.nw.2,.int .i64 G.num,.int .i64 G.bucket,a.cv,.int .u64 G.at_,.int .i64 G.half,a.wv,
 .slice a.PA a.ps.length a.pcap,.slice a.QA a.qs.length a.qcap]
def jN (a:Gl) (C:Ch):Array Value:=#[.int .u64 C.fi.1,.int .u64 C.fi.2,.int .u64 C.la.1,.int .u64 C.la.2,.int .i64 C.half,.map (some a.B),.slice a.LA C.lk.length a.lcap]
abbrev Own (w:World) (a:Gl) (G:Gr):Prop:=af w a.f 200 (bM a G)
def mR (w:World) (c:Nat) (fi:Nat×Nat):Prop:=∃ cs,af w c 262 cs/\cs[0]?=some (.int .u64 fi.1)/\cs[1]?=some (.int .u64 fi.2)
structure dQ (w:World) (a:Gl) (C:Ch):Prop where
 cv:a.cv=ptr a.c
 cb:af w a.c 262 (jN a C)
 mt:iI w a.B C.met
 lr:qG w a.LA a.lcap C.lk
 ap:∀ x∈a.ps,∀ b,In a.LA b->¬In x.A b
structure gE (w:World) (a:Gl) (p q:List (List (Nat×Nat))) (yz:Bool):Prop where
 ps:jX w a.ps p
 qs:jX w a.qs q
 pr:yz=true->rW w a.PA a.pcap a.ps
 pl:pC w a.PA a.ps
 pc:a.ps.length<=a.pcap/\a.pcap<=maxLen
 qr:rW w a.QA a.qcap a.qs
 pq:∀ b,In a.PA b->(a.ps≠[]\/yz=true)->¬In a.QA b
structure bT (w:World) (a:Gl) (G:Gr):Prop where
 an:Own w a G
 c4:G.nx=4->dQ w a G.C
 c5:G.nx=5->a.cv=ptr a.c/\mR w a.c G.C.fi
 wt:G.nx=7->a.wv=ptr a.w/\cZ w a.w G.W
 cP:gE w a G.pass G.later (decide (G.nx<=6))
def fz (a:Gl) (g:Bool) (x:Nat):Prop:=((a.ps≠[]\/g=true)/\In a.PA x)\/In a.QA x\/(∃ e∈a.ps,In e.A x)\/∃ e∈a.qs,In e.A x
def bu (a:Gl) (G:Gr) (x:Nat):Prop:=x=a.f\/((G.nx=4\/G.nx=5)/\x=a.c)\/(G.nx=4/\(x=a.B\/In a.LA x))\/(G.nx=7/\x=a.w)\/fz a (decide (G.nx<=6)) x
abbrev dJ:iH Gl Gr:=⟨Gl.f,bT,bu⟩
section
variable {w w':World} {M:Mo} {a:Gl} {G:Gr} {p q:List (List (Nat×Nat))} {g:Bool} {C:Ch}
abbrev OW:List TypeId:=[200,262,270,260,157]
theorem gE.ty (h:gE w a p q g) {x:Nat} (hx:fz a g x):Ty w x [270,260]:=by
 rcases hx with ⟨hg,hx⟩ | hx | ⟨e,he,hx⟩ | ⟨e,he,hx⟩
 ·rcases hg with hg | hg
  ·rcases h.pl with h1 | ⟨b,o,cs,h1,h2,_⟩
   ·exact absurd h1 hg
   ·rw [h1] at hx
    have:b=x:=by simpa [In] using hx
    subst this
    exact ⟨_,cs,h2,by simp⟩
  ·exact (b9 (h.pr hg) hx).mono (by simp)
 ·exact (b9 h.qr hx).mono (by simp)
 ·exact (h.ps.ty e he x hx).mono (by simp)
 ·exact (h.qs.ty e he x hx).mono (by simp)
theorem gE.only {S:Nat->Prop} (h:gE w a p q g) (ho:ab S w w') (hn:∀ x,fz a g x->¬S x):gE w' a p q g where
 ps:=h.ps.only ho fun e he b hb=>hn b (.inr (.inr (.inl ⟨e,he,hb⟩)))
 qs:=h.qs.only ho fun e he b hb=>hn b (.inr (.inr (.inr ⟨e,he,hb⟩)))
 pr hg:=(h.pr hg).only ho fun b hb=>hn b (.inl ⟨.inr hg,hb⟩)
 pl:=by
  by_cases h0:a.ps=[]
  ·exact .inl h0
  ·exact h.pl.only ho fun b hb=>hn b (.inl ⟨.inl h0,hb⟩)
 pc:=h.pc
 qr:=h.qr.only ho fun b hb=>hn b (.inr (.inl hb))
 pq:=h.pq
theorem dQ.only {S:Nat->Prop} (h:dQ w a C) (ho:ab S w w') (h1:¬S a.c) (h2:¬S a.B) (h3:∀ b,In a.LA b->¬S b):dQ w' a C:=
 ⟨h.cv,h.cb.only ho h1,h.mt.only ho h2,h.lr.only ho h3,h.ap⟩
theorem bT.ty (h:bT w a G) {x:Nat} (hx:bu a G x):Ty w x OW\/∃ ms,iI w x ms:=by
 rcases hx with rfl | ⟨hn,rfl⟩ | ⟨hn,hx⟩ | ⟨hn,rfl⟩ | hx
 ·exact .inl ((aV h.an).mono (by simp))
 ·rcases hn with hn | hn
  ·exact .inl ((aV (h.c4 hn).cb).mono (by simp))
  ·obtain ⟨cs,hb,_⟩:=(h.c5 hn).2
   exact .inl ((aV hb).mono (by simp))
 ·rcases hx with rfl | hx
  ·exact .inr ⟨_,(h.c4 hn).mt⟩
  ·exact .inl ((b9 (h.c4 hn).lr hx).mono (by simp))
 ·exact .inl ((aV (h.wt hn).2).mono (by simp))
 ·exact .inl ((h.cP.ty hx).mono (by simp))
theorem bT.lt (h:bT w a G) {x:Nat} (hx:bu a G x):x<w.heap.size:=by
 rcases h.ty hx with q | ⟨ms,q⟩
 ·exact q.lt
 ·exact q.lt
theorem bT.aA (h:bT w a G) (hM:ah w M) {x:Nat} (hx:bu a G x):¬ao M x:=fun hm=>by
 rcases h.ty hx with q | ⟨ms,q⟩
 ·exact (hM.ty hm).apart q (by decide)
 ·exact q.no (hM.ty hm)
theorem bT.only {S:Nat->Prop} (h:bT w a G) (ho:ab S w w') (hn:∀ x,bu a G x->¬S x):bT w' a G where
 an:=h.an.only ho (hn _ (.inl rfl))
 c4 q:=(h.c4 q).only ho (hn _ (.inr (.inl ⟨.inl q,rfl⟩))) (hn _ (.inr (.inr (.inl ⟨q,.inl rfl⟩)))) (fun b hb=>hn _ (.inr (.inr (.inl ⟨q,.inr hb⟩))))
 c5 q:=by
  obtain ⟨h1,cs,h2,h3⟩:=h.c5 q
  exact ⟨h1,cs,h2.only ho (hn _ (.inr (.inl ⟨.inr q,rfl⟩))),h3⟩
 wt q:=⟨(h.wt q).1,(h.wt q).2.only ho (hn _ (.inr (.inr (.inr (.inl ⟨q,rfl⟩)))))⟩
 cP:=h.cP.only ho fun x hx=>hn x (.inr (.inr (.inr (.inr hx))))
theorem bT.below (h:bT w a G) (hb:Below w.heap.size w w'):bT w' a G:=h.only (ab.aD hb (fun _=>False)) (by simp)
theorem rY (h:Own w a G):w.cell? ⟨a.f,0,none⟩=some (.int .i64 G.worker)/\w.cell? ⟨a.f,1,none⟩=some (tS a G.nx)/\w.cell? ⟨a.f,2,none⟩=some (jW a.f G.nx)/\w.cell? ⟨a.f,3,none⟩=some (.int .i64 G.err)/\
 w.cell? ⟨a.f,4,none⟩=some (.int .i64 G.el.1)/\w.cell? ⟨a.f,5,none⟩=some (.int .i64 G.el.2)/\w.cell? ⟨a.f,6,none⟩=some (.int .i64 G.nw.1)/\w.cell? ⟨a.f,7,none⟩=some (.int .i64 G.nw.2)/\
 w.cell? ⟨a.f,8,none⟩=some (.int .i64 G.num)/\w.cell? ⟨a.f,9,none⟩=some (.int .i64 G.bucket)/\w.cell? ⟨a.f,10,none⟩=some a.cv/\w.cell? ⟨a.f,11,none⟩=some (.int .u64 G.at_)/\
 w.cell? ⟨a.f,12,none⟩=some (.int .i64 G.half)/\w.cell? ⟨a.f,13,none⟩=some a.wv/\w.cell? ⟨a.f,14,none⟩=some (.slice a.PA a.ps.length a.pcap)/\w.cell? ⟨a.f,15,none⟩=some (.slice a.QA a.qs.length a.qcap):=
 ⟨h.cell 0,h.cell 1,h.cell 2,h.cell 3,h.cell 4,h.cell 5,h.cell 6,h.cell 7,h.cell 8,h.cell 9,h.cell 10,h.cell 11,h.cell 12,h.cell 13,h.cell 14,h.cell 15⟩
theorem gE.self (h:gE w a p q g) (hf:Own w a G):∀ x,fz a g x->x≠a.f:=by
 rintro x hx rfl
 exact (h.ty hx).apart (aV hf) (by decide)
theorem gE.chain (h:gE w a p q g) {c:Nat} {cs:Array Value} (hc:af w c 262 cs):∀ x,fz a g x->x≠c:=by
 rintro x hx rfl
 exact (h.ty hx).apart (aV hc) (by decide)
end
theorem yA:(Tryz.prog.info? 270).map (fun i=>(i.zero,i.size,i.bytes))=some (some (.agg #[.int .u64 0,.int .u64 0]),2,16):=by kernel_rfl
theorem yB:(Tryz.prog.info? 260).map (fun i=>(i.zero,i.size,i.bytes))=some (some (.slice none 0 0),1,24):=by kernel_rfl
/-! ### its steps as plain data-/
def jY (h:Nat) (fi:Nat×Nat):Nat:=if h=0/\fi.1=0 then 1 else h
def dA (h:Nat) (fi:Nat×Nat):Nat:=if jY h fi=1/\fi.2=0 then 2 else jY h fi
def bD (G:Gr):Gr:=
 if dA G.half G.C.fi<2 then {G with half:=dA G.half G.C.fi,nx:=5} else {G with half:=dA G.half G.C.fi,bucket:=G.bucket+1,nx:=if G.bucket+1=G.el.1 then 6 else 3}
def vG (G:Gr):Gr:=bD {G with pass:=if G.C.cM=[] then G.pass else G.pass++[G.C.cM],half:=0}
def dg (G:Gr) (x:Nat):Gr:=if x=0 then vG G else {G with at_:=x,nx:=4}
def eh (G:Gr):Gr:={G with W:=⟨G.worker,0,0,0⟩,nx:=7}
def kV (G:Gr) (s:Int):Nat:=(FM.bucket s G.nw.1 / G.el.1).toNat
def aF (L:Lm) (G:Gr):Lm×Gr:=
 if G.nx=1 then (L,{G with el:=now L.xs L.ds,nx:=2})
 else if G.nx=2 then
  (if FM.bo ((2*G.el.1:Nat):Int)=true/\L.xs.length+2*G.el.1<=1048576 then
    ({L with xs:=L.xs++List.replicate (2*G.el.1) 0,ds:=L.ds++[(2*G.el.1,L.xs.length)]},{G with num:=L.ds.length,err:=0,nw:=(2*G.el.1,L.xs.length),nx:=3})
  else (L,{G with num:= -1,err:=if FM.bo ((2*G.el.1:Nat):Int)=true then 2 else 5,nx:=9}))
 else if G.nx=3 then (L,dg {G with C:=.new} (Cl.nth L.xs (G.el.2+G.bucket)).toNat)
 else if G.nx=4 then
  (L,dg {G with C:=G.C.add G.at_ (kV G (ai L.ss ((G.at_-1) % 65536)).nd.sum)} (ai L.ss ((G.at_-1) % 65536)).nd.next.toNat)
 else if G.nx=5 then ({L with xs:=L.xs.set (G.nw.2+(G.bucket+G.half*G.el.1)) ((cC G.C.fi G.half:Nat):Int)},bD {G with half:=G.half+1})
 else if G.nx=6 then ({L with xs:=L.xs.set 1 G.num},eh G)
 else if G.nx=7 then ({L with xs:=(aI L.k.toNat L.xs L.hs G.W).1,hs:=(aI L.k.toNat L.xs L.hs G.W).2.1},
  {G with W:=(aI L.k.toNat L.xs L.hs G.W).2.2,nx:=if G.W.at_=3 then (if G.pass=[] then 9 else 8) else 7})
 else match G.pass with
  | []=>(L,G)
  | l::t=>
    ({L with ss:=Pu.aR L.ss (mc l 0).1 (mc l 0).2},
      if t=[] then eh {G with pass:=if 1<l.length then G.later++[l.drop 1] else G.later,later:=[]} else {G with pass:=t,later:=if 1<l.length then G.later++[l.drop 1] else G.later})
def kW (L:Lm) (G:Gr):Bool:=if G.nx=7 then fQ L.xs L.hs G.W else true
def ck (L:Lm) (G:Gr):Bool:=
 if G.nx=2 then !decide (FM.bo ((2*G.el.1:Nat):Int)=true/\L.xs.length+2*G.el.1<=1048576) else if G.nx=7 then decide (G.W.at_=3/\G.pass=[]) else decide (9<=G.nx)
end Go.Proofs.YtpanebgakndddaaGreat.Gw
namespace Go.Proofs.YtpanebgakndddaaGreat.Gw
open Go Go.RowKit Hp K Fl Rw Hm Ar Mm Me Qs Wk Pn
set_option maxRecDepth 100000
section
variable {w w':World} {a:Gl} {C:Ch}
theorem OX (w:World):Calls Tryz.prog 206 #[] w fun e w'=>∃ c B,e=.returned (ptr c)/\af w' c 262 #[.int .u64 0,.int .u64 0,.int .u64 0,.int .u64 0,.int .i64 0,.map (some B),.slice none 0 0]/\iI w' B []/\
 w.heap.size<=B/\w.heap.size<=c/\Below w.heap.size w w':=by
 have uE:=@run_makeMap Tryz.prog
 go_enter Tryz.func206,Tryz.ntmps206
 go_wp2_with fail
 go_ret
 refine ⟨_,_,rfl,by simpa using af.made (w.alloc (.map #[] 0)) _ _,?_,Nat.le_refl _,by simp,((Below.refl _ _).alloc (Nat.le_refl _) _).alloc (by simp) _⟩
 exact (iI.made w).only ((ab.refl (fun _=>False) _).alloc _) (by simp)
theorem OY (h:dQ w a C) {x:Nat} (hx:x<=18446744073709551615):Calls Tryz.prog 219 #[ptr a.c,.int .u64 x] w fun e w'=>e=.returned (.bool (decide (x∈C.met)))/\w=w':=by
 obtain ⟨z,hl⟩:=h.mt.look hx
 have c5:w.cell? ⟨a.c,5,none⟩=some (.map (some a.B)):=h.cb.cell 5
 generalize decide (x∈C.met)=b at*
 clear h
 go_enter Tryz.func219,Tryz.ntmps219
 go_wp2
 go_ret
 exact ⟨rfl,rfl⟩
def pD (w:World) (a:Gl) (C':Ch) (w':World):Prop:=∃ LA lcap,dQ w' {a with LA:=LA,lcap:=lcap} C'/\(∀ b,In LA b->In a.LA b\/w.heap.size<=b)/\ab (fun x=>x=a.c\/x=a.B\/In a.LA x) w w'
theorem mS (h:af w a.c 262 (jN a C)):w.cell? ⟨a.c,0,none⟩=some (.int .u64 C.fi.1)/\w.cell? ⟨a.c,1,none⟩=some (.int .u64 C.fi.2)/\w.cell? ⟨a.c,2,none⟩=some (.int .u64 C.la.1)/\w.cell? ⟨a.c,3,none⟩=some (.int .u64 C.la.2)/\
 w.cell? ⟨a.c,4,none⟩=some (.int .i64 C.half)/\w.cell? ⟨a.c,5,none⟩=some (.map (some a.B))/\w.cell? ⟨a.c,6,none⟩=some (.slice a.LA C.lk.length a.lcap):=
 ⟨h.cell 0,h.cell 1,h.cell 2,h.cell 3,h.cell 4,h.cell 5,h.cell 6⟩
theorem dQ.oE (h:dQ w a C):a.B≠a.c:=fun e=>h.mt.no (by rw [e]; exact aV h.cb)
theorem dQ.mT (h:dQ w a C) {b:Nat} (hb:In a.LA b):b≠a.c/\b≠a.B:=by
 refine ⟨fun e=>?_,fun e=>h.mt.no (by rw [<-e]; exact b9 h.lr hb)⟩
 subst e
 exact (b9 h.lr hb).apart (aV h.cb) (by decide)
theorem dQ.nC {w1:World} {C1:Ch} {y:Nat} (h:dQ w a C) (hb:af w1 a.c 262 (jN a C1)) (ho:ab (·=a.c) w w1) (em:C1.met=y::C.met) (el:C1.lk=C.lk):∀ w2,iI w2 a.B (y::C.met)->ab (·=a.B) w1 w2->pD w a C1 w2:=by
 intro w2 hm qb
 refine ⟨a.LA,a.lcap,⟨h.cv,hb.only qb h.oE.symm,by rw [em]; exact hm,?_,h.ap⟩,fun b hb=>.inl hb,(ho.mono (fun x _ q=>.inl q)).trans' qb (fun x _ q=>.inr (.inl q))⟩
 rw [el]
 exact (h.lr.only ho (fun b hb=>(h.mT hb).1)).only qb (fun b hb=>(h.mT hb).2)
theorem dQ.linked {w2 w3:World} {C1:Ch} {y:Nat} {A2:Option Addr} {cap2:Nat} (h:dQ w a C) (bn:∀ e∈a.ps,∀ b,In e.A b->b<w.heap.size) (hR:qG w2 A2 cap2 C1.lk) (hO:ab (In a.LA) w w2) (hA:∀ b,In A2 b->In a.LA b\/w.heap.size<=b)
 (hb:af w3 a.c 262 (jN {a with LA:=A2,lcap:=cap2} C1)) (ho:ab (·=a.c) w2 w3) (em:C1.met=y::C.met):∀ w4,iI w4 a.B (y::C.met)->ab (·=a.B) w3 w4->pD w a C1 w4:=by
 intro w4 hm DM
 have et:=h.cb.only hO (fun q=>(h.mT q).1 rfl)
 have oW:=h.mt.only hO (fun q=>(h.mT q).2 rfl)
 have h1:∀ b,In A2 b->b≠a.c/\b≠a.B:=fun b hb=>⟨fun e=>(b9 hR hb).apart (e▸aV et:Ty w2 b [262]) (by decide),fun e=>oW.no (e▸b9 hR hb:Ty w2 a.B [270])⟩
 refine ⟨A2,cap2,⟨h.cv,hb.only DM h.oE.symm,by rw [em]; exact hm,(hR.only ho (fun b hb=>(h1 b hb).1)).only DM (fun b hb=>(h1 b hb).2),fun e he b hb hx=>?_⟩,hA,?_⟩
 ·rcases hA b hb with q | q
  ·exact h.ap e he b q hx
  ·have:=bn e he b hx
   omega
 ·exact ((hO.mono (fun x _ q=>(.inr (.inr q):x=a.c\/x=a.B\/In a.LA x))).trans' ho (fun x _ q=>.inl q)).trans' DM (fun x _ q=>.inr (.inl q))
theorem pE {c:Nat} (w:World) (i j k:Nat) (u v y:Value):ab (·=c) w (((w.setCell ⟨c,i,none⟩ u).setCell ⟨c,j,none⟩ v).setCell ⟨c,k,none⟩ y):=
 (((ab.refl (·=c) w).setCell (p:=⟨c,i,none⟩) (.inl rfl) _).setCell (p:=⟨c,j,none⟩) (.inl rfl) _).setCell (p:=⟨c,k,none⟩) (.inl rfl) _
theorem kz {c:Nat} (w:World) (i j:Nat) (u v:Value):ab (·=c) w ((w.setCell ⟨c,i,none⟩ u).setCell ⟨c,j,none⟩ v):=
 ((ab.refl (·=c) w).setCell (p:=⟨c,i,none⟩) (.inl rfl) _).setCell (p:=⟨c,j,none⟩) (.inl rfl) _
set_option maxHeartbeats 2000000 in
theorem OZ (h:dQ w a C) {x:Nat} (hx:x<=18446744073709551615) (hm:C.met.length<=1000000) (h0:C.fi.1=0):Calls Tryz.prog 232 #[ptr a.c,.int .u64 x,.int .i64 0] w fun e w'=>e=.returned (.tuple #[])/\pD w a (C.add x 0) w':=by
 obtain ⟨k0,k1,k2,k3,k4,k5,k6⟩:=mS h.cb
 have z0:=h.cb.frozen 0
 have z2:=h.cb.frozen 2
 have z4:=h.cb.frozen 4
 have hO:=Lib.hid (fun u v y=>pE (c:=a.c) w 0 2 4 u v y)
 have e:C.add x 0=⟨(x,C.fi.2),(x,C.la.2),0,x::C.met,C.lk⟩:=by
  unfold Ch.add cC put
  simp [h0]
 rw [e]
 have hE:=Lib.hid (h.nC (C1:=⟨(x,C.fi.2),(x,C.la.2),0,x::C.met,C.lk⟩) (y:=x) (((h.cb.store 0 (.int .u64 x)).store 2 (.int .u64 x)).store 4 (.int .i64 0)) (hO.out _ _ _) rfl rfl)
 rw [h0] at k0
 have ag:=Lib.hid h.oE
 have H:=Lib.hid h.mt
 clear h e
 go_enter Tryz.func232,Tryz.ntmps232
 go_wp2_with (at_mapUpdate
              refine tP (B:=a.B) (ms:=C.met) rfl (.tmp 57) (.tmp 58) (.tmp 59) rfl (H.out.only (hO.out _ _ _) ag.out) hm x hx 0 (by omega) rfl rfl rfl ?_
              intro w2 aB ae)
 go_end0
 exact ⟨rfl,hE.out w2 aB ae⟩
set_option maxHeartbeats 2000000 in
theorem O0 (h:dQ w a C) {x:Nat} (hx:x<=18446744073709551615) (hm:C.met.length<=1000000) (h0:C.fi.1≠0) (hh:C.half=0):Calls Tryz.prog 232 #[ptr a.c,.int .u64 x,.int .i64 0] w fun e w'=>e=.returned (.tuple #[])/\pD w a (C.add x 0) w':=by
 obtain ⟨k0,k1,k2,k3,k4,k5,k6⟩:=mS h.cb
 have z2:=h.cb.frozen 2
 have z4:=h.cb.frozen 4
 have hO:=Lib.hid (fun u v=>kz (c:=a.c) w 2 4 u v)
 have e:C.add x 0=⟨C.fi,(x,C.la.2),0,x::C.met,C.lk⟩:=by
  unfold Ch.add cC put
  simp [h0,hh]
 rw [e]
 have hE:=Lib.hid (h.nC (C1:=⟨C.fi,(x,C.la.2),0,x::C.met,C.lk⟩) (y:=x) ((h.cb.store 2 (.int .u64 x)).store 4 (.int .i64 0)) (hO.out _ _) rfl rfl)
 rw [hh] at k4
 have q0:((C.fi.1:Int)==0)=false:=by simp; omega
 have ag:=Lib.hid h.oE
 have H:=Lib.hid h.mt
 clear h e hh h0
 generalize C.fi.1=fi0 at*
 go_enter Tryz.func232,Tryz.ntmps232
 go_wp2_with (at_mapUpdate
              refine tP (B:=a.B) (ms:=C.met) rfl (.tmp 57) (.tmp 58) (.tmp 59) rfl (H.out.only (hO.out _ _) ag.out) hm x hx 0 (by omega) rfl rfl rfl ?_
              intro w2 aB ae)
 go_end0
 exact ⟨rfl,hE.out w2 aB ae⟩
set_option maxHeartbeats 2000000 in
theorem O2 (h:dQ w a C) {x:Nat} (hx:x<=18446744073709551615) (hm:C.met.length<=1000000) (h0:C.fi.1≠0) (hh:C.half=1) (hl:C.lk.length<=100000) (bn:∀ e∈a.ps,∀ b,In e.A b->b<w.heap.size):Calls Tryz.prog 232 #[ptr a.c,.int .u64 x,.int .i64 0] w fun e w'=>e=.returned (.tuple #[])/\pD w a (C.add x 0) w':=by
 obtain ⟨k0,k1,k2,k3,k4,k5,k6⟩:=mS h.cb
 have z2:=h.cb.frozen 2
 have z4:=h.cb.frozen 4
 have z6:=h.cb.frozen 6
 have e:C.add x 0=⟨C.fi,(x,C.la.2),0,x::C.met,C.lk++[(C.la.1,x)]⟩:=by
  unfold Ch.add cC put
  simp [h0,hh]
 rw [e]
 rw [hh] at k4
 have q0:((C.fi.1:Int)==0)=false:=by simp; omega
 have H:=Lib.hid h
 have lc:a.c<w.drew.heap.size:=h.cb.lt
 obtain ⟨i0,cW,cQ,cT,dh⟩:=info_parts yA
 generalize dG:C.lk.length=n at*
 replace dG:=Lib.hid dG
 generalize bP:C.la.1=l0 at*
 replace bP:=Lib.hid bP
 clear h e hh h0
 generalize C.fi.1=fi0 at*
 go_enter Tryz.func232,Tryz.ntmps232
 go_upto_region 3 with (fail)
 have r0:w.drew.cell? ⟨a.c,6,none⟩=some (.slice a.LA n a.lcap)/\w.drew.cell? ⟨a.c,2,none⟩=some (.int .u64 l0):=⟨k6,k2⟩
 refine wp_region_noPanic ?_
 refine Rn.vH (fun w'=>w'.cell? ⟨a.c,6,none⟩=some (.slice a.LA n a.lcap)/\w'.cell? ⟨a.c,2,none⟩=some (.int .u64 l0)) (fun j=>j==15) (by kernel_rfl) ?_
 refine Rn.dB (i:=0) (oi:=⟨some 27,_,_,_,_,_⟩) (v:=ptr a.c) (by rfl) (by kernel_rfl) (by kernel_rfl) (by kernel_rfl) rfl (fun _ _ _ h=>h.elim) (Or.inl ⟨by rfl,by intro w' _; go_simp⟩) r0 ?_
 try simp only [Act.put,List.setIfInBounds_toArray,List.set_cons_zero,List.set_cons_succ]
 refine Rn.dB (i:=1) (oi:=⟨some 28,_,_,_,_,_⟩) (v:=ptr a.c) (by rfl) (by kernel_rfl) (by kernel_rfl) (by kernel_rfl) rfl (fun _ _ _ h=>h.elim) (Or.inl ⟨by rfl,by intro w' _; go_simp⟩) r0 ?_
 try simp only [Act.put,List.setIfInBounds_toArray,List.set_cons_zero,List.set_cons_succ]
 refine Rn.dB (i:=2) (oi:=⟨some 29,_,_,_,_,_⟩) (v:=.pointer (some ⟨a.c,0,none⟩)) (by rfl) (by kernel_rfl) (by kernel_rfl) (by kernel_rfl) rfl (fun _ _ _ h=>h.elim) (Or.inl ⟨by rfl,by intro w' _; go_simp⟩) r0 ?_
 try simp only [Act.put,List.setIfInBounds_toArray,List.set_cons_zero,List.set_cons_succ]
 refine Rn.dB (i:=3) (oi:=⟨some 30,_,_,_,_,_⟩) (v:=.pointer (some ⟨a.c,6,none⟩)) (by rfl) (by kernel_rfl) (by kernel_rfl) (by kernel_rfl) rfl (fun _ _ _ h=>h.elim) (Or.inl ⟨by rfl,by intro w' _; go_simp⟩) r0 ?_
 try simp only [Act.put,List.setIfInBounds_toArray,List.set_cons_zero,List.set_cons_succ]
 refine Rn.rZ (i:=4) (oi:=⟨some 31,_,_,_,_,_⟩) (v:=.slice a.LA n a.lcap) (by rfl) (by kernel_rfl) (by kernel_rfl) (by kernel_rfl) rfl (by intro j hj; rw [show j=15 from by simpa using hj]; kernel_rfl) (fun _ _ _ h=>h.elim) (Or.inl ⟨by rfl,by intro w' uF; go_simp⟩) r0 ?_
 try simp only [Act.put,List.setIfInBounds_toArray,List.set_cons_zero,List.set_cons_succ]
 refine Rn.dB (i:=5) (oi:=⟨some 32,_,_,_,_,_⟩) (v:=ptr a.c) (by rfl) (by kernel_rfl) (by kernel_rfl) (by kernel_rfl) rfl (fun _ _ _ h=>h.elim) (Or.inl ⟨by rfl,by intro w' _; go_simp⟩) r0 ?_
 try simp only [Act.put,List.setIfInBounds_toArray,List.set_cons_zero,List.set_cons_succ]
 refine Rn.dB (i:=6) (oi:=⟨some 33,_,_,_,_,_⟩) (v:=.int .i64 0) (by rfl) (by kernel_rfl) (by kernel_rfl) (by kernel_rfl) rfl (fun _ _ _ h=>h.elim) (Or.inl ⟨by rfl,by intro w' _; go_simp⟩) r0 ?_
 try simp only [Act.put,List.setIfInBounds_toArray,List.set_cons_zero,List.set_cons_succ]
 refine Rn.dB (i:=7) (oi:=⟨some 34,_,_,_,_,_⟩) (v:=.pointer (some ⟨a.c,0,none⟩)) (by rfl) (by kernel_rfl) (by kernel_rfl) (by kernel_rfl) rfl (fun _ _ _ h=>h.elim) (Or.inl ⟨by rfl,by intro w' _; go_simp⟩) r0 ?_
 try simp only [Act.put,List.setIfInBounds_toArray,List.set_cons_zero,List.set_cons_succ]
 refine Rn.dB (i:=8) (oi:=⟨some 35,_,_,_,_,_⟩) (v:=.pointer (some ⟨a.c,2,none⟩)) (by rfl) (by kernel_rfl) (by kernel_rfl) (by kernel_rfl) rfl (fun _ _ _ h=>h.elim) (Or.inl ⟨by rfl,by intro w' _; go_simp⟩) r0 ?_
 try simp only [Act.put,List.setIfInBounds_toArray,List.set_cons_zero,List.set_cons_succ]
 refine Rn.dB (i:=9) (oi:=⟨some 36,_,_,_,_,_⟩) (v:=.pointer (some ⟨a.c,2,none⟩)) (by rfl) (by kernel_rfl) (by kernel_rfl) (by kernel_rfl) rfl (fun _ _ _ h=>h.elim) (Or.inl ⟨by rfl,by intro w' _; go_simp⟩) r0 ?_
 try simp only [Act.put,List.setIfInBounds_toArray,List.set_cons_zero,List.set_cons_succ]
 refine Rn.rZ (i:=10) (oi:=⟨some 37,_,_,_,_,_⟩) (v:=.int .u64 l0) (by rfl) (by kernel_rfl) (by kernel_rfl) (by kernel_rfl) rfl (by intro j hj; rw [show j=15 from by simpa using hj]; kernel_rfl) (fun _ _ _ h=>h.elim) (Or.inl ⟨by rfl,by intro w' uF; go_simp⟩) r0 ?_
 try simp only [Act.put,List.setIfInBounds_toArray,List.set_cons_zero,List.set_cons_succ]
 refine Rn.dB (i:=11) (oi:=⟨some 38,_,_,_,_,_⟩) (v:=.int .u64 x) (by rfl) (by kernel_rfl) (by kernel_rfl) (by kernel_rfl) rfl (fun _ _ _ h=>h.elim) (Or.inl ⟨by rfl,by intro w' _; go_simp⟩) r0 ?_
 try simp only [Act.put,List.setIfInBounds_toArray,List.set_cons_zero,List.set_cons_succ]
 refine Rn.dB (i:=12) (oi:=⟨some 39,_,_,_,_,_⟩) (v:=.agg #[.int .u64 l0,.int .u64 x]) (by rfl) (by kernel_rfl) (by kernel_rfl) (by kernel_rfl) rfl (fun _ _ _ h=>h.elim) (Or.inl ⟨by rfl,by intro w' _; go_simp⟩) r0 ?_
 try simp only [Act.put,List.setIfInBounds_toArray,List.set_cons_zero,List.set_cons_succ]
 refine Rn.oF (i:=13) (o:=⟨some 40,_,_,_,_,_⟩) (by kernel_rfl) (by rfl) rfl ?_
 intro K hK
 go_simp
 have r1:(w.drew.alloc (.cells #[.int .u64 l0,.int .u64 x] 270)).cell? ⟨a.c,6,none⟩=some (.slice a.LA n a.lcap)/\(w.drew.alloc (.cells #[.int .u64 l0,.int .u64 x] 270)).cell? ⟨a.c,2,none⟩=some (.int .u64 l0):=
  ⟨(ab.cell ((ab.refl (fun _=>False) w.drew).alloc _) (p:=⟨a.c,6,none⟩) lc (by simp)).trans k6,(ab.cell ((ab.refl (fun _=>False) w.drew).alloc _) (p:=⟨a.c,2,none⟩) lc (by simp)).trans k2⟩
 refine hK _ _ r1 ?_
 clear hK
 try simp only [Act.put,List.setIfInBounds_toArray,List.set_cons_zero,List.set_cons_succ]
 have gd:qG (w.drew.alloc (.cells #[.int .u64 l0,.int .u64 x] 270)) a.LA a.lcap C.lk:=H.out.lr.only (((ab.refl (fun _=>False) w).drew).alloc _) (by simp)
 have lL:=af.made w.drew 270 #[.int .u64 l0,.int .u64 x]
 obtain ⟨A2,cap2,w2,fK,cy,ae,bH⟩:=vI (P:=Tryz.prog) (w.drew.alloc (.cells #[.int .u64 l0,.int .u64 x] 270)) 260 260 270 i0 _ 2 16 Tryz.underlying260 cW cQ cT dh rfl (by omega) lz tR
  (by intro x u hu; simp [lz] at hu; rcases hu with rfl | rfl<;>rfl) dG.out gd (l0,x) ⟨w.drew.heap.size,0,none⟩ 1 (by
    intro j u hu
    rw [Addr.add_lit,Nat.zero_add,lL.cell]
    simpa [lz] using hu) (by simp only [maxLen]; omega) (by omega)
 refine Rn.oF (i:=14) (o:=⟨some 41,_,_,_,_,_⟩) (by kernel_rfl) (by rfl) rfl ?_
 intro K hK
 refine vJ rfl (.tmp 31) (.tmp 40) 260 rfl (.slice a.LA n a.lcap) (.slice (some ⟨w.drew.heap.size,0,none⟩) 1 1) rfl rfl fK ?_
 have et:af w2 a.c 262 (jN a C):=(H.out.cb.only (((ab.refl (fun _=>False) w).drew).alloc _) (by simp)).only ae (fun q=>(H.out.mT q).1 rfl)
 have p6:=et.cell 6
 have p2:=et.cell 2
 have p4:=et.cell 4
 have p5:=et.cell 5
 have iT:jN a C=#[.int .u64 C.fi.1,.int .u64 C.fi.2,.int .u64 C.la.1,.int .u64 C.la.2,.int .i64 C.half,.map (some a.B),.slice a.LA n a.lcap]:=by unfold jN; rw [dG.out]
 rw [iT] at p6 p2 p4 p5
 simp only [List.getElem?_toArray,List.getElem?_cons_succ,List.getElem?_cons_zero,bP.out] at p6 p2 p4 p5
 refine hK _ _ ⟨p6,p2⟩ ?_
 clear hK
 try simp only [Act.put,List.setIfInBounds_toArray,List.set_cons_zero,List.set_cons_succ]
 refine Rn.vK 15 (by rfl) (by kernel_rfl) (by rfl) ?_
 dsimp only [List.drop]
 have td:ab (In a.LA) w w2:=(((ab.refl (In a.LA) w).drew).alloc _).trans' ae (fun x _ q=>q)
 have y6:=et.frozen 6
 have y2:=et.frozen 2
 have y4:=et.frozen 4
 have aq:=Lib.hid (fun u v y=>pE (c:=a.c) w2 6 2 4 u v y)
 have hE:=Lib.hid (H.out.linked (C1:=⟨C.fi,(x,C.la.2),0,x::C.met,C.lk++[(l0,x)]⟩) (y:=x) bn cy td (fun b hb=>by
  rcases bH b hb with q | q
  ·exact .inl q
  ·refine .inr (Nat.le_trans ?_ q)
   simp) (by
  have hb:=((et.store 6 (.slice A2 ((n+1:Nat)) cap2)).store 2 (.int .u64 x)).store 4 (.int .i64 0)
  rw [iT] at hb
  simp only [jN,List.length_append,List.length_singleton,dG.out]
  exact hb) (aq.out _ _ _) rfl)
 have oW:=Lib.hid (H.out.mt.only td (fun q=>(H.out.mT q).2 rfl))
 have ag:=Lib.hid H.out.oE
 clear k0 k1 k2 k3 k4 k5 k6 z2 z4 z6 r0 r1 gd lL fK cy ae bH iT td et bn
 go_wp2_with fail
 refine NoPanic.normal ?_
 go_wp2_with (at_mapUpdate
              refine tP (B:=a.B) (ms:=C.met) rfl (.tmp 57) (.tmp 58) (.tmp 59) rfl (oW.out.only (aq.out _ _ _) ag.out) hm x hx 0 (by omega) rfl rfl rfl ?_
              intro w5 ia bJ)
 go_end0
 exact ⟨rfl,hE.out w5 ia bJ⟩
set_option maxHeartbeats 2000000 in
theorem O3 (h:dQ w a C) {x:Nat} (hx:x<=18446744073709551615) (hm:C.met.length<=1000000) (h0:C.fi.2=0):Calls Tryz.prog 232 #[ptr a.c,.int .u64 x,.int .i64 1] w fun e w'=>e=.returned (.tuple #[])/\pD w a (C.add x 1) w':=by
 obtain ⟨k0,k1,k2,k3,k4,k5,k6⟩:=mS h.cb
 have z0:=h.cb.frozen 1
 have z2:=h.cb.frozen 3
 have z4:=h.cb.frozen 4
 have hO:=Lib.hid (fun u v y=>pE (c:=a.c) w 1 3 4 u v y)
 have e:C.add x 1=⟨(C.fi.1,x),(C.la.1,x),1,x::C.met,C.lk⟩:=by
  unfold Ch.add cC put
  simp [h0]
 rw [e]
 have hE:=Lib.hid (h.nC (C1:=⟨(C.fi.1,x),(C.la.1,x),1,x::C.met,C.lk⟩) (y:=x) (((h.cb.store 1 (.int .u64 x)).store 3 (.int .u64 x)).store 4 (.int .i64 1)) (hO.out _ _ _) rfl rfl)
 rw [h0] at k1
 have ag:=Lib.hid h.oE
 have H:=Lib.hid h.mt
 clear h e
 go_enter Tryz.func232,Tryz.ntmps232
 go_wp2_with (at_mapUpdate
              refine tP (B:=a.B) (ms:=C.met) rfl (.tmp 57) (.tmp 58) (.tmp 59) rfl (H.out.only (hO.out _ _ _) ag.out) hm x hx 1 (by omega) rfl rfl rfl ?_
              intro w2 aB ae)
 go_end0
 exact ⟨rfl,hE.out w2 aB ae⟩
set_option maxHeartbeats 2000000 in
theorem O4 (h:dQ w a C) {x:Nat} (hx:x<=18446744073709551615) (hm:C.met.length<=1000000) (h0:C.fi.2≠0) (hh:C.half=1):Calls Tryz.prog 232 #[ptr a.c,.int .u64 x,.int .i64 1] w fun e w'=>e=.returned (.tuple #[])/\pD w a (C.add x 1) w':=by
 obtain ⟨k0,k1,k2,k3,k4,k5,k6⟩:=mS h.cb
 have z2:=h.cb.frozen 3
 have z4:=h.cb.frozen 4
 have hO:=Lib.hid (fun u v=>kz (c:=a.c) w 3 4 u v)
 have e:C.add x 1=⟨C.fi,(C.la.1,x),1,x::C.met,C.lk⟩:=by
  unfold Ch.add cC put
  simp [h0,hh]
 rw [e]
 have hE:=Lib.hid (h.nC (C1:=⟨C.fi,(C.la.1,x),1,x::C.met,C.lk⟩) (y:=x) ((h.cb.store 3 (.int .u64 x)).store 4 (.int .i64 1)) (hO.out _ _) rfl rfl)
 rw [hh] at k4
 have q0:((C.fi.2:Int)==0)=false:=by simp; omega
 have ag:=Lib.hid h.oE
 have H:=Lib.hid h.mt
 clear h e hh h0
 generalize C.fi.2=fi0 at*
 go_enter Tryz.func232,Tryz.ntmps232
 go_wp2_with (at_mapUpdate
              refine tP (B:=a.B) (ms:=C.met) rfl (.tmp 57) (.tmp 58) (.tmp 59) rfl (H.out.only (hO.out _ _) ag.out) hm x hx 1 (by omega) rfl rfl rfl ?_
              intro w2 aB ae)
 go_end0
 exact ⟨rfl,hE.out w2 aB ae⟩
set_option maxHeartbeats 2000000 in
theorem O5 (h:dQ w a C) {x:Nat} (hx:x<=18446744073709551615) (hm:C.met.length<=1000000) (h0:C.fi.2≠0) (hh:C.half=0) (hl:C.lk.length<=100000) (bn:∀ e∈a.ps,∀ b,In e.A b->b<w.heap.size):Calls Tryz.prog 232 #[ptr a.c,.int .u64 x,.int .i64 1] w fun e w'=>e=.returned (.tuple #[])/\pD w a (C.add x 1) w':=by
 obtain ⟨k0,k1,k2,k3,k4,k5,k6⟩:=mS h.cb
 have z2:=h.cb.frozen 3
 have z4:=h.cb.frozen 4
 have z6:=h.cb.frozen 6
 have e:C.add x 1=⟨C.fi,(C.la.1,x),1,x::C.met,C.lk++[(C.la.2,x)]⟩:=by
  unfold Ch.add cC put
  simp [h0,hh]
 rw [e]
 rw [hh] at k4
 have q0:((C.fi.2:Int)==0)=false:=by simp; omega
 have H:=Lib.hid h
 have lc:a.c<w.drew.heap.size:=h.cb.lt
 obtain ⟨i0,cW,cQ,cT,dh⟩:=info_parts yA
 generalize dG:C.lk.length=n at*
 replace dG:=Lib.hid dG
 generalize bP:C.la.2=l0 at*
 replace bP:=Lib.hid bP
 clear h e hh h0
 generalize C.fi.2=fi0 at*
 go_enter Tryz.func232,Tryz.ntmps232
 go_upto_region 3 with (fail)
 have r0:w.drew.cell? ⟨a.c,6,none⟩=some (.slice a.LA n a.lcap)/\w.drew.cell? ⟨a.c,3,none⟩=some (.int .u64 l0):=⟨k6,k3⟩
 refine wp_region_noPanic ?_
 refine Rn.vH (fun w'=>w'.cell? ⟨a.c,6,none⟩=some (.slice a.LA n a.lcap)/\w'.cell? ⟨a.c,3,none⟩=some (.int .u64 l0)) (fun j=>j==15) (by kernel_rfl) ?_
 refine Rn.dB (i:=0) (oi:=⟨some 27,_,_,_,_,_⟩) (v:=ptr a.c) (by rfl) (by kernel_rfl) (by kernel_rfl) (by kernel_rfl) rfl (fun _ _ _ h=>h.elim) (Or.inl ⟨by rfl,by intro w' _; go_simp⟩) r0 ?_
 try simp only [Act.put,List.setIfInBounds_toArray,List.set_cons_zero,List.set_cons_succ]
 refine Rn.dB (i:=1) (oi:=⟨some 28,_,_,_,_,_⟩) (v:=ptr a.c) (by rfl) (by kernel_rfl) (by kernel_rfl) (by kernel_rfl) rfl (fun _ _ _ h=>h.elim) (Or.inl ⟨by rfl,by intro w' _; go_simp⟩) r0 ?_
 try simp only [Act.put,List.setIfInBounds_toArray,List.set_cons_zero,List.set_cons_succ]
 refine Rn.dB (i:=2) (oi:=⟨some 29,_,_,_,_,_⟩) (v:=.pointer (some ⟨a.c,0,none⟩)) (by rfl) (by kernel_rfl) (by kernel_rfl) (by kernel_rfl) rfl (fun _ _ _ h=>h.elim) (Or.inl ⟨by rfl,by intro w' _; go_simp⟩) r0 ?_
 try simp only [Act.put,List.setIfInBounds_toArray,List.set_cons_zero,List.set_cons_succ]
 refine Rn.dB (i:=3) (oi:=⟨some 30,_,_,_,_,_⟩) (v:=.pointer (some ⟨a.c,6,none⟩)) (by rfl) (by kernel_rfl) (by kernel_rfl) (by kernel_rfl) rfl (fun _ _ _ h=>h.elim) (Or.inl ⟨by rfl,by intro w' _; go_simp⟩) r0 ?_
 try simp only [Act.put,List.setIfInBounds_toArray,List.set_cons_zero,List.set_cons_succ]
 refine Rn.rZ (i:=4) (oi:=⟨some 31,_,_,_,_,_⟩) (v:=.slice a.LA n a.lcap) (by rfl) (by kernel_rfl) (by kernel_rfl) (by kernel_rfl) rfl (by intro j hj; rw [show j=15 from by simpa using hj]; kernel_rfl) (fun _ _ _ h=>h.elim) (Or.inl ⟨by rfl,by intro w' uF; go_simp⟩) r0 ?_
 try simp only [Act.put,List.setIfInBounds_toArray,List.set_cons_zero,List.set_cons_succ]
 refine Rn.dB (i:=5) (oi:=⟨some 32,_,_,_,_,_⟩) (v:=ptr a.c) (by rfl) (by kernel_rfl) (by kernel_rfl) (by kernel_rfl) rfl (fun _ _ _ h=>h.elim) (Or.inl ⟨by rfl,by intro w' _; go_simp⟩) r0 ?_
 try simp only [Act.put,List.setIfInBounds_toArray,List.set_cons_zero,List.set_cons_succ]
 refine Rn.dB (i:=6) (oi:=⟨some 33,_,_,_,_,_⟩) (v:=.int .i64 1) (by rfl) (by kernel_rfl) (by kernel_rfl) (by kernel_rfl) rfl (fun _ _ _ h=>h.elim) (Or.inl ⟨by rfl,by intro w' _; go_simp⟩) r0 ?_
 try simp only [Act.put,List.setIfInBounds_toArray,List.set_cons_zero,List.set_cons_succ]
 refine Rn.dB (i:=7) (oi:=⟨some 34,_,_,_,_,_⟩) (v:=.pointer (some ⟨a.c,0,none⟩)) (by rfl) (by kernel_rfl) (by kernel_rfl) (by kernel_rfl) rfl (fun _ _ _ h=>h.elim) (Or.inl ⟨by rfl,by intro w' _; go_simp⟩) r0 ?_
 try simp only [Act.put,List.setIfInBounds_toArray,List.set_cons_zero,List.set_cons_succ]
 refine Rn.dB (i:=8) (oi:=⟨some 35,_,_,_,_,_⟩) (v:=.pointer (some ⟨a.c,2,none⟩)) (by rfl) (by kernel_rfl) (by kernel_rfl) (by kernel_rfl) rfl (fun _ _ _ h=>h.elim) (Or.inl ⟨by rfl,by intro w' _; go_simp⟩) r0 ?_
 try simp only [Act.put,List.setIfInBounds_toArray,List.set_cons_zero,List.set_cons_succ]
 refine Rn.dB (i:=9) (oi:=⟨some 36,_,_,_,_,_⟩) (v:=.pointer (some ⟨a.c,3,none⟩)) (by rfl) (by kernel_rfl) (by kernel_rfl) (by kernel_rfl) rfl (fun _ _ _ h=>h.elim) (Or.inl ⟨by rfl,by intro w' _; go_simp⟩) r0 ?_
 try simp only [Act.put,List.setIfInBounds_toArray,List.set_cons_zero,List.set_cons_succ]
 refine Rn.rZ (i:=10) (oi:=⟨some 37,_,_,_,_,_⟩) (v:=.int .u64 l0) (by rfl) (by kernel_rfl) (by kernel_rfl) (by kernel_rfl) rfl (by intro j hj; rw [show j=15 from by simpa using hj]; kernel_rfl) (fun _ _ _ h=>h.elim) (Or.inl ⟨by rfl,by intro w' uF; go_simp⟩) r0 ?_
 try simp only [Act.put,List.setIfInBounds_toArray,List.set_cons_zero,List.set_cons_succ]
 refine Rn.dB (i:=11) (oi:=⟨some 38,_,_,_,_,_⟩) (v:=.int .u64 x) (by rfl) (by kernel_rfl) (by kernel_rfl) (by kernel_rfl) rfl (fun _ _ _ h=>h.elim) (Or.inl ⟨by rfl,by intro w' _; go_simp⟩) r0 ?_
 try simp only [Act.put,List.setIfInBounds_toArray,List.set_cons_zero,List.set_cons_succ]
 refine Rn.dB (i:=12) (oi:=⟨some 39,_,_,_,_,_⟩) (v:=.agg #[.int .u64 l0,.int .u64 x]) (by rfl) (by kernel_rfl) (by kernel_rfl) (by kernel_rfl) rfl (fun _ _ _ h=>h.elim) (Or.inl ⟨by rfl,by intro w' _; go_simp⟩) r0 ?_
 try simp only [Act.put,List.setIfInBounds_toArray,List.set_cons_zero,List.set_cons_succ]
 refine Rn.oF (i:=13) (o:=⟨some 40,_,_,_,_,_⟩) (by kernel_rfl) (by rfl) rfl ?_
 intro K hK
 go_simp
 have r1:(w.drew.alloc (.cells #[.int .u64 l0,.int .u64 x] 270)).cell? ⟨a.c,6,none⟩=some (.slice a.LA n a.lcap)/\(w.drew.alloc (.cells #[.int .u64 l0,.int .u64 x] 270)).cell? ⟨a.c,3,none⟩=some (.int .u64 l0):=
  ⟨(ab.cell ((ab.refl (fun _=>False) w.drew).alloc _) (p:=⟨a.c,6,none⟩) lc (by simp)).trans k6,(ab.cell ((ab.refl (fun _=>False) w.drew).alloc _) (p:=⟨a.c,3,none⟩) lc (by simp)).trans k3⟩
 refine hK _ _ r1 ?_
 clear hK
 try simp only [Act.put,List.setIfInBounds_toArray,List.set_cons_zero,List.set_cons_succ]
 have gd:qG (w.drew.alloc (.cells #[.int .u64 l0,.int .u64 x] 270)) a.LA a.lcap C.lk:=H.out.lr.only (((ab.refl (fun _=>False) w).drew).alloc _) (by simp)
 have lL:=af.made w.drew 270 #[.int .u64 l0,.int .u64 x]
 obtain ⟨A2,cap2,w2,fK,cy,ae,bH⟩:=vI (P:=Tryz.prog) (w.drew.alloc (.cells #[.int .u64 l0,.int .u64 x] 270)) 260 260 270 i0 _ 2 16 Tryz.underlying260 cW cQ cT dh rfl (by omega) lz tR
  (by intro x u hu; simp [lz] at hu; rcases hu with rfl | rfl<;>rfl) dG.out gd (l0,x) ⟨w.drew.heap.size,0,none⟩ 1 (by
    intro j u hu
    rw [Addr.add_lit,Nat.zero_add,lL.cell]
    simpa [lz] using hu) (by simp only [maxLen]; omega) (by omega)
 refine Rn.oF (i:=14) (o:=⟨some 41,_,_,_,_,_⟩) (by kernel_rfl) (by rfl) rfl ?_
 intro K hK
 refine vJ rfl (.tmp 31) (.tmp 40) 260 rfl (.slice a.LA n a.lcap) (.slice (some ⟨w.drew.heap.size,0,none⟩) 1 1) rfl rfl fK ?_
 have et:af w2 a.c 262 (jN a C):=(H.out.cb.only (((ab.refl (fun _=>False) w).drew).alloc _) (by simp)).only ae (fun q=>(H.out.mT q).1 rfl)
 have p6:=et.cell 6
 have p3:=et.cell 3
 have p4:=et.cell 4
 have p5:=et.cell 5
 have iT:jN a C=#[.int .u64 C.fi.1,.int .u64 C.fi.2,.int .u64 C.la.1,.int .u64 C.la.2,.int .i64 C.half,.map (some a.B),.slice a.LA n a.lcap]:=by unfold jN; rw [dG.out]
 rw [iT] at p6 p3 p4 p5
 simp only [List.getElem?_toArray,List.getElem?_cons_succ,List.getElem?_cons_zero,bP.out] at p6 p3 p4 p5
 refine hK _ _ ⟨p6,p3⟩ ?_
 clear hK
 try simp only [Act.put,List.setIfInBounds_toArray,List.set_cons_zero,List.set_cons_succ]
 refine Rn.vK 15 (by rfl) (by kernel_rfl) (by rfl) ?_
 dsimp only [List.drop]
 have td:ab (In a.LA) w w2:=(((ab.refl (In a.LA) w).drew).alloc _).trans' ae (fun x _ q=>q)
 have y6:=et.frozen 6
 have y3:=et.frozen 3
 have y4:=et.frozen 4
 have aq:=Lib.hid (fun u v y=>pE (c:=a.c) w2 6 3 4 u v y)
 have hE:=Lib.hid (H.out.linked (C1:=⟨C.fi,(C.la.1,x),1,x::C.met,C.lk++[(l0,x)]⟩) (y:=x) bn cy td (fun b hb=>by
  rcases bH b hb with q | q
  ·exact .inl q
  ·refine .inr (Nat.le_trans ?_ q)
   simp) (by
  have hb:=((et.store 6 (.slice A2 ((n+1:Nat)) cap2)).store 3 (.int .u64 x)).store 4 (.int .i64 1)
  rw [iT] at hb
  simp only [jN,List.length_append,List.length_singleton,dG.out]
  exact hb) (aq.out _ _ _) rfl)
 have oW:=Lib.hid (H.out.mt.only td (fun q=>(H.out.mT q).2 rfl))
 have ag:=Lib.hid H.out.oE
 clear k0 k1 k2 k3 k4 k5 k6 z2 z4 z6 r0 r1 gd lL fK cy ae bH iT td et bn
 go_wp2_with fail
 refine NoPanic.normal ?_
 go_wp2_with (at_mapUpdate
              refine tP (B:=a.B) (ms:=C.met) rfl (.tmp 57) (.tmp 58) (.tmp 59) rfl (oW.out.only (aq.out _ _ _) ag.out) hm x hx 1 (by omega) rfl rfl rfl ?_
              intro w5 ia bJ)
 go_end0
 exact ⟨rfl,hE.out w5 ia bJ⟩
end
end Go.Proofs.YtpanebgakndddaaGreat.Gw
namespace Go.Proofs.YtpanebgakndddaaGreat.Gw
open Go Go.RowKit Hp K Fl Rw Hm Ar Mm Me Qs Wk Pn
set_option maxRecDepth 100000
section
variable {w w':World} {a:Gl} {C:Ch}
def oG (w:World) (a:Gl) (C:Ch) (l:List (Nat×Nat)) (e:Ending) (w':World):Prop:=
 ∃ A2 cap2,e=.returned (.slice A2 l.length cap2)/\qG w' A2 cap2 l/\(∀ b,In A2 b->In a.LA b\/w.heap.size<=b)/\mR w' a.c C.fi/\ab (fun x=>x=a.c\/In a.LA x) w w'
theorem dQ.fst (h:dQ w a C):mR w a.c C.fi:=⟨_,h.cb,rfl,rfl⟩
set_option maxHeartbeats 2000000 in
theorem O6 (h:dQ w a C) (h0:0∉C.met) (hh:C.half=0) (hl:C.la.2=0):Calls Tryz.prog 230 #[ptr a.c,.int .u64 0] w (oG w a C C.cM):=by
 have e:C.cM=C.lk:=by unfold Ch.cM cC; simp [hh,hl]
 rw [e]
 obtain ⟨k0,k1,k2,k3,k4,k5,k6⟩:=mS h.cb
 rw [hh] at k4
 rw [hl] at k3
 have hL:=fun n=>(h.mt.only ((ab.refl (fun _=>False) w).drewN n) (by simp)).look (x:=0) (by omega)
 replace hL:Hid (∀ n,∃ c:Int,(Instr.lookup 258 (.map (some a.B)) (.int .u64 0) true).run Tryz.prog (w.drewN n)=.ok (.tuple #[.int .i64 c,.bool (decide (0∈C.met))]) (w.drewN n)):=Lib.hid hL
 have hE:=Lib.hid (fun n=>show oG w a C C.lk (.returned (.slice a.LA C.lk.length a.lcap)) (w.drewN n) from ⟨a.LA,a.lcap,rfl,h.lr.only ((ab.refl (fun _=>False) w).drewN n) (by simp),fun b hb=>.inl hb,by
  obtain ⟨cs,h1,h2⟩:=h.fst
  exact ⟨cs,h1.only ((ab.refl (fun _=>False) w).drewN n) (by simp),h2⟩,(ab.refl _ w).drewN n⟩)
 rw [show decide (0∈C.met)=false by simpa using h0] at hL
 clear h h0 e
 go_enter Tryz.func230,Tryz.ntmps230
 go_wp2_with fail
 go_quiet (fail)
 obtain ⟨z,cw⟩:=hL.out nq
 go_wp2_with fail
 go_ret
 exact hE.out _
set_option maxHeartbeats 2000000 in
theorem O7 (h:dQ w a C) (h0:0∉C.met) (hh:C.half=1) (hl:C.la.1=0):Calls Tryz.prog 230 #[ptr a.c,.int .u64 0] w (oG w a C C.cM):=by
 have e:C.cM=C.lk:=by unfold Ch.cM cC; simp [hh,hl]
 rw [e]
 obtain ⟨k0,k1,k2,k3,k4,k5,k6⟩:=mS h.cb
 rw [hh] at k4
 rw [hl] at k2
 have hL:=fun n=>(h.mt.only ((ab.refl (fun _=>False) w).drewN n) (by simp)).look (x:=0) (by omega)
 replace hL:Hid (∀ n,∃ c:Int,(Instr.lookup 258 (.map (some a.B)) (.int .u64 0) true).run Tryz.prog (w.drewN n)=.ok (.tuple #[.int .i64 c,.bool (decide (0∈C.met))]) (w.drewN n)):=Lib.hid hL
 have hE:=Lib.hid (fun n=>show oG w a C C.lk (.returned (.slice a.LA C.lk.length a.lcap)) (w.drewN n) from ⟨a.LA,a.lcap,rfl,h.lr.only ((ab.refl (fun _=>False) w).drewN n) (by simp),fun b hb=>.inl hb,by
  obtain ⟨cs,h1,h2⟩:=h.fst
  exact ⟨cs,h1.only ((ab.refl (fun _=>False) w).drewN n) (by simp),h2⟩,(ab.refl _ w).drewN n⟩)
 rw [show decide (0∈C.met)=false by simpa using h0] at hL
 clear h h0 e
 go_enter Tryz.func230,Tryz.ntmps230
 go_wp2_with fail
 go_quiet (fail)
 obtain ⟨z,cw⟩:=hL.out nq
 go_wp2_with fail
 go_ret
 exact hE.out _
set_option maxHeartbeats 2000000 in
theorem O8 (h:dQ w a C) (h0:0∉C.met) (hh:C.half=0) (hl:C.la.2≠0) (hn:C.lk.length<=100000):Calls Tryz.prog 230 #[ptr a.c,.int .u64 0] w (oG w a C C.cM):=by
 have e:C.cM=C.lk++[(C.la.2,0)]:=by unfold Ch.cM cC; simp [hh,hl]
 rw [e]
 obtain ⟨k0,k1,k2,k3,k4,k5,k6⟩:=mS h.cb
 rw [hh] at k4
 have q0:((C.la.2:Int) != 0)=true:=by simp; omega
 obtain ⟨i0,cW,cQ,cT,dh⟩:=info_parts yA
 generalize dG:C.lk.length=n at*
 replace dG:=Lib.hid dG
 have H:=Lib.hid h
 have H0:=Lib.hid h0
 have z6:=h.cb.frozen 6
 clear h h0 e hl hh
 generalize bP:C.la.2=l0 at*
 replace bP:=Lib.hid bP
 go_enter Tryz.func230,Tryz.ntmps230
 go_wp2_with fail
 go_quiet (fail)
 have H1:dQ (w.drewN nq) a C:=H.out.only ((ab.refl (fun _=>False) w).drewN nq) (by simp) (by simp) (by simp)
 have aw:=Lib.hid ((ab.refl (fun x=>x=a.c\/In a.LA x) w).drewN nq)
 have cO:(w.drewN nq).heap.size=w.heap.size:=rfl
 replace cO:=Lib.hid cO
 replace H1:=Lib.hid H1
 clear k0 k1 k2 k3 k4 k5 k6 z6
 generalize w.drewN nq=w1 at*
 obtain ⟨k0,k1,k2,k3,k4,k5,k6⟩:=mS H1.out.cb
 rw [dG.out] at k6
 have z6:=H1.out.cb.frozen 6
 go_wp2_with (at_builtin
              refine se w1 rfl (.tmp 24) (.tmp 27) 260 rfl 270 i0 _ 2 16 Tryz.underlying260 cW cQ cT dh rfl (by omega) lz tR (by intro x u hu; simp [lz] at hu; rcases hu with rfl | rfl<;>rfl)
               a.LA a.lcap n C.lk dG.out (l0,0) #[.int .u64 l0,.int .u64 0] rfl rfl H1.out.lr rfl (by simp only [maxLen]; omega) (by omega) ?_
              intro A2 cap2 w2 cy ae bH
              have ag:=H1.out.cb.only ae (fun q=>(H1.out.mT q).1 rfl)
              have p6:=ag.cell 6
              have p5:=ag.cell 5
              have y6:=ag.frozen 6
              simp only [jN,List.getElem?_toArray,List.getElem?_cons_succ,List.getElem?_cons_zero] at p5 p6
              obtain ⟨z,cw⟩:=((H1.out.mt.only ae (fun q=>(H1.out.mT q).2 rfl)).only ((ab.refl (·=a.c) w2).setCell (p:=⟨a.c,6,none⟩) (.inl rfl) (.slice A2 (n+1:Nat) cap2)) H1.out.oE).look (x:=0) (by omega)
              rw [show decide (0∈C.met)=false by simpa using H0.out] at cw
              replace cw:(Instr.lookup 258 (.map (some a.B)) (.int .u64 0) true).run Tryz.prog (w2.setCell ⟨a.c,6,none⟩ (.slice A2 (n+1) cap2))=.ok (.tuple #[.int .i64 z,.bool false]) (w2.setCell ⟨a.c,6,none⟩ (.slice A2 (n+1) cap2)):=cw
              replace cy:=Lib.hid cy
              replace ae:=Lib.hid ae
              replace bH:=Lib.hid bH
              replace ag:=Lib.hid ag)
 go_ret
 have pO:=(ab.refl (·=a.c) w2).setCell (p:=⟨a.c,6,none⟩) (.inl rfl) (.slice A2 (n+1) cap2)
 refine ⟨A2,cap2,by simp [dG.out],cy.out.only pO (fun b hb e=>(b9 cy.out hb).apart (e▸aV ag.out:Ty w2 b [262]) (by decide)),fun b hb=>?_,⟨_,ag.out.store 6 (.slice A2 (n+1) cap2),by simp [jN],by simp [jN]⟩,?_⟩
 ·have:=bH.out b hb
  rw [cO.out] at this
  exact this
 ·exact (aw.out.trans' ae.out (fun x _ q=>.inr q)).trans' pO (fun x _ q=>.inl q)
set_option maxHeartbeats 2000000 in
theorem O9 (h:dQ w a C) (h0:0∉C.met) (hh:C.half=1) (hl:C.la.1≠0) (hn:C.lk.length<=100000):Calls Tryz.prog 230 #[ptr a.c,.int .u64 0] w (oG w a C C.cM):=by
 have e:C.cM=C.lk++[(C.la.1,0)]:=by unfold Ch.cM cC; simp [hh,hl]
 rw [e]
 obtain ⟨k0,k1,k2,k3,k4,k5,k6⟩:=mS h.cb
 rw [hh] at k4
 have q0:((C.la.1:Int) != 0)=true:=by simp; omega
 obtain ⟨i0,cW,cQ,cT,dh⟩:=info_parts yA
 generalize dG:C.lk.length=n at*
 replace dG:=Lib.hid dG
 have H:=Lib.hid h
 have H0:=Lib.hid h0
 have z6:=h.cb.frozen 6
 clear h h0 e hl hh
 generalize bP:C.la.1=l0 at*
 replace bP:=Lib.hid bP
 go_enter Tryz.func230,Tryz.ntmps230
 go_wp2_with fail
 go_quiet (fail)
 have H1:dQ (w.drewN nq) a C:=H.out.only ((ab.refl (fun _=>False) w).drewN nq) (by simp) (by simp) (by simp)
 have aw:=Lib.hid ((ab.refl (fun x=>x=a.c\/In a.LA x) w).drewN nq)
 have cO:(w.drewN nq).heap.size=w.heap.size:=rfl
 replace cO:=Lib.hid cO
 replace H1:=Lib.hid H1
 clear k0 k1 k2 k3 k4 k5 k6 z6
 generalize w.drewN nq=w1 at*
 obtain ⟨k0,k1,k2,k3,k4,k5,k6⟩:=mS H1.out.cb
 rw [dG.out] at k6
 have z6:=H1.out.cb.frozen 6
 go_wp2_with (at_builtin
              refine se w1 rfl (.tmp 24) (.tmp 27) 260 rfl 270 i0 _ 2 16 Tryz.underlying260 cW cQ cT dh rfl (by omega) lz tR (by intro x u hu; simp [lz] at hu; rcases hu with rfl | rfl<;>rfl)
               a.LA a.lcap n C.lk dG.out (l0,0) #[.int .u64 l0,.int .u64 0] rfl rfl H1.out.lr rfl (by simp only [maxLen]; omega) (by omega) ?_
              intro A2 cap2 w2 cy ae bH
              have ag:=H1.out.cb.only ae (fun q=>(H1.out.mT q).1 rfl)
              have p6:=ag.cell 6
              have p5:=ag.cell 5
              have y6:=ag.frozen 6
              simp only [jN,List.getElem?_toArray,List.getElem?_cons_succ,List.getElem?_cons_zero] at p5 p6
              obtain ⟨z,cw⟩:=((H1.out.mt.only ae (fun q=>(H1.out.mT q).2 rfl)).only ((ab.refl (·=a.c) w2).setCell (p:=⟨a.c,6,none⟩) (.inl rfl) (.slice A2 (n+1:Nat) cap2)) H1.out.oE).look (x:=0) (by omega)
              rw [show decide (0∈C.met)=false by simpa using H0.out] at cw
              replace cw:(Instr.lookup 258 (.map (some a.B)) (.int .u64 0) true).run Tryz.prog (w2.setCell ⟨a.c,6,none⟩ (.slice A2 (n+1) cap2))=.ok (.tuple #[.int .i64 z,.bool false]) (w2.setCell ⟨a.c,6,none⟩ (.slice A2 (n+1) cap2)):=cw
              replace cy:=Lib.hid cy
              replace ae:=Lib.hid ae
              replace bH:=Lib.hid bH
              replace ag:=Lib.hid ag)
 go_ret
 have pO:=(ab.refl (·=a.c) w2).setCell (p:=⟨a.c,6,none⟩) (.inl rfl) (.slice A2 (n+1) cap2)
 refine ⟨A2,cap2,by simp [dG.out],cy.out.only pO (fun b hb e=>(b9 cy.out hb).apart (e▸aV ag.out:Ty w2 b [262]) (by decide)),fun b hb=>?_,⟨_,ag.out.store 6 (.slice A2 (n+1) cap2),by simp [jN],by simp [jN]⟩,?_⟩
 ·have:=bH.out b hb
  rw [cO.out] at this
  exact this
 ·exact (aw.out.trans' ae.out (fun x _ q=>.inr q)).trans' pO (fun x _ q=>.inl q)
theorem nD (h:dQ w a C) (h0:0∉C.met) (hh:C.half<=1) (hn:C.lk.length<=100000):Calls Tryz.prog 230 #[ptr a.c,.int .u64 0] w (oG w a C C.cM):=by
 have:C.half=0\/C.half=1:=by omega
 rcases this with q | q
 ·by_cases hl:C.la.2=0
  ·exact O6 h h0 q hl
  ·exact O8 h h0 q hl hn
 ·by_cases hl:C.la.1=0
  ·exact O7 h h0 q hl
  ·exact O9 h h0 q hl hn
theorem Pa (h:dQ w a C) {x y:Nat} (hx:x<=18446744073709551615) (hm:C.met.length<=1000000) (hy:y<=1) (hh:C.half<=1) (hl:C.lk.length<=100000) (bn:∀ e∈a.ps,∀ b,In e.A b->b<w.heap.size):
 Calls Tryz.prog 232 #[ptr a.c,.int .u64 x,.int .i64 y] w fun e w'=>e=.returned (.tuple #[])/\pD w a (C.add x y) w':=by
 have:C.half=0\/C.half=1:=by omega
 have my:y=0\/y=1:=by omega
 rcases my with rfl | rfl
 ·by_cases h0:C.fi.1=0
  ·exact OZ h hx hm h0
  ·rcases this with q | q
   ·exact O0 h hx hm h0 q
   ·exact O2 h hx hm h0 q hl bn
 ·by_cases h0:C.fi.2=0
  ·exact O3 h hx hm h0
  ·rcases this with q | q
   ·exact O5 h hx hm h0 q hl bn
   ·exact O4 h hx hm h0 q
end
end Go.Proofs.YtpanebgakndddaaGreat.Gw
namespace Go.Proofs.YtpanebgakndddaaGreat.Gw
open Go Go.RowKit Hp K Fl Rw Hm Ar Mm Me Qs Wk Pn
set_option maxRecDepth 100000
theorem sf (m:Value) (w:World):Calls Tryz.prog 150 #[m] w fun e w'=>e=.returned (.bool true)/\w'=w:=by
 go_enter Tryz.func150,Tryz.ntmps150
 go_wp2
 go_ret
 exact ⟨rfl,rfl⟩
section
variable {w w':World} {M:Mo} {a:Gl} {G:Gr}
theorem BM (h:Own w a G) {n:Nat} (hn:n≠7):Own ((w.setCell ⟨a.f,1,none⟩ (dW 150)).setCell ⟨a.f,2,none⟩ (jW a.f n)) a {G with nx:=n}:=by
 have e:bM a {G with nx:=n}=((bM a G).setIfInBounds 1 (dW 150)).setIfInBounds 2 (jW a.f n):=by
  unfold bM tS
  rw [if_neg hn]
  rfl
 unfold Own
 rw [e]
 exact (af.store h 1 _).store 2 _
theorem ej (h:Own w a G) {n F:Nat} {b:Array Value} (hn:n≠7) (e:jW a.f n=.func (.func F) b #[]):
 Calls Tryz.prog 113 #[ptr a.f,.func (.func F) b #[]] w fun e w'=>e=.returned (.tuple #[])/\Own w' a {G with nx:=n}/\ab (·=a.f) w w':=by
 have c1:=h.cell 1
 have c2:=h.cell 2
 have z1:=h.frozen 1
 have z2:=h.frozen 2
 simp only [bM,List.getElem?_toArray,List.getElem?_cons_succ,List.getElem?_cons_zero] at c1 c2
 have hE:=Lib.hid (BM h hn)
 rw [e] at hE
 have hO:=Lib.hid (kz (c:=a.f) w 1 2 (dW 150) (.func (.func F) b #[]))
 generalize tS a G.nx=u1 at*
 generalize jW a.f G.nx=u2 at*
 clear h e
 go_enter Tryz.func113,Tryz.ntmps113
 go_wp2
 go_end0
 exact ⟨rfl,hE.out,hO.out⟩
theorem GN (h:Own w a G):Calls Tryz.prog 186 #[ptr a.f] w fun e w'=>e=.returned (.bool true)/\Own w' a {G with nx:=9}/\ab (·=a.f) w w':=by
 have hG:=Lib.hid (ej h (n:=9) (by omega) rfl)
 go_enter Tryz.func186,Tryz.ntmps186
 go_wp2_with fail
 refine hG.out.mono ?_
 rintro e w1 ⟨rfl,h1,hO⟩
 replace h1:=Lib.hid h1
 replace hO:=Lib.hid hO
 go_wp2_with fail
 go_ret
 exact ⟨rfl,h1.out,hO.out⟩
theorem mR.hd {c:Nat} {fi:Nat×Nat} (h:mR w c fi):w.cell? ⟨c,0,none⟩=some (.int .u64 fi.1)/\w.cell? ⟨c,1,none⟩=some (.int .u64 fi.2):=by
 obtain ⟨cs,hb,h0,h1⟩:=h
 exact ⟨(hb.cell 0).trans h0,(hb.cell 1).trans h1⟩
theorem mR.only {S:Nat->Prop} {c:Nat} {fi:Nat×Nat} (h:mR w c fi) (ho:ab S w w') (hn:¬S c):mR w' c fi:=by
 obtain ⟨cs,hb,h0⟩:=h
 exact ⟨cs,hb.only ho hn,h0⟩
theorem mR.ne {c:Nat} {fi:Nat×Nat} (h:mR w c fi) (hO:Own w a G):c≠a.f:=by
 rintro rfl
 obtain ⟨cs,hb,h0⟩:=h
 exact (aV hb).apart (aV hO) (by decide)
def yC (w:World) (a:Gl) (G:Gr) (wr:World) (h:Nat):Prop:=Own wr a {G with half:=h}/\ab (·=a.f) w wr/\dA h G.C.fi=dA G.half G.C.fi
set_option maxHeartbeats 4000000 in
theorem oH (h:Own w a G) (hc:a.cv=ptr a.c) (hf:mR w a.c G.C.fi) (hh:G.half<=2) (hb:G.bucket<=1000000) (hn:G.el.1<=1000000):
 Calls Tryz.prog 231 #[ptr a.f] w fun e w'=>e=.returned (.tuple #[])/\Own w' a (bD G)/\ab (·=a.f) w w':=by
 have H0:Hid (yC w a G w G.half):=Lib.hid ⟨h,ab.refl _ _,rfl⟩
 have aH:=Lib.hid (hf.ne h)
 replace hf:=Lib.hid hf
 replace hh:=Lib.hid hh
 clear h
 go_enter Tryz.func231,Tryz.ntmps231
 go_wp2_with fail
 go_loopw [2] (fun _ wr=>∃ h:Nat,h<=2/\yC w a G wr h) (fun _ wr=>match wr.cell? ⟨a.f,12,none⟩ with | some v=>2-(intOf v).toNat | none=>0)
 case atStart=>exact ⟨_,hh.out,H0.out⟩
 case round=>
  obtain ⟨h,pP,hI⟩:=hrel
  obtain ⟨hO,kf,nh⟩:=hI
  have bX:=hf.out.only kf aH.out
  obtain ⟨f0,f1⟩:=bX.hd
  have c10:=hO.cell 10
  have c12:=hO.cell 12
  have c4:=hO.cell 4
  have c9:=hO.cell 9
  have z12:=hO.frozen 12
  have z9:=hO.frozen 9
  simp only [bM,List.getElem?_toArray,List.getElem?_cons_succ,List.getElem?_cons_zero,hc] at c4 c9 c10 c12
  replace hO:=Lib.hid hO
  replace kf:=Lib.hid kf
  replace nh:=Lib.hid nh
  clear H0 hh
  rcases (show h=0\/h=1\/h=2 by omega) with rfl | rfl | rfl
  ·by_cases h1:G.C.fi.1=0
   ·rw [h1] at f0
    go_wp2_with fail
    go_quiet (fail)
    have hS:=Lib.hid (show yC w a G ((wr.drewN nq).setCell ⟨a.f,12,none⟩ (.int .i64 1)) 1 from ⟨af.store (af.only hO.out ((ab.refl (fun _=>False) wr).drewN nq) (by simp)) 12 (.int .i64 1),(kf.out.drewN nq).setCell (p:=⟨a.f,12,none⟩) (.inl rfl) _,by rw [<-nh.out]; unfold dA jY; simp [h1]⟩)
    clear hO kf nh bX
    go_wp2_with fail
    go_roundw
    case rel=>exact ⟨1,by omega,hS.out⟩
    case measure=>
     have k12:=hS.out.1.cell 12
     simp only [bM,List.getElem?_toArray,List.getElem?_cons_succ,List.getElem?_cons_zero] at k12
     rw [k12,c12]
     simp [intOf]
   ·skip
    have q0:((G.C.fi.1:Int)==0)=false:=by simp; omega
    go_wp2_with fail
    go_quiet (fail)
    have hX:Own (wr.drewN nq) a {G with half:=0}:=af.only hO.out ((ab.refl (fun _=>False) wr).drewN nq) (by simp)
    have hY:=Lib.hid (kf.out.drewN nq)
    have hG:=Lib.hid (ej hX (n:=5) (by omega) rfl)
    have e5:Hid (bD G={G with half:=0,nx:=5}):=Lib.hid (by
     have e:dA G.half G.C.fi=0:=by rw [<-nh.out]; unfold dA jY; simp [h1]
     unfold bD
     rw [e,if_pos (by omega)])
    clear hO kf nh bX hX
    go_wp2_with fail
    refine hG.out.mono ?_
    rintro e w2 ⟨rfl,ae,dc⟩
    replace ae:=Lib.hid ae
    replace dc:=Lib.hid dc
    clear c4 c9 c10 c12 z12 z9 f0 f1 q0
    go_wp2_with fail
    exact bodyPost_ret (v:=.tuple #[]) (by simp [results,Tryz.results231]) rfl ⟨rfl,by rw [e5.out]; exact ae.out,hY.out.trans dc.out⟩
  ·by_cases h1:G.C.fi.2=0
   ·rw [h1] at f1
    go_wp2_with fail
    go_quiet (fail)
    have hS:=Lib.hid (show yC w a G ((wr.drewN nq).setCell ⟨a.f,12,none⟩ (.int .i64 2)) 2 from ⟨af.store (af.only hO.out ((ab.refl (fun _=>False) wr).drewN nq) (by simp)) 12 (.int .i64 2),(kf.out.drewN nq).setCell (p:=⟨a.f,12,none⟩) (.inl rfl) _,by rw [<-nh.out]; unfold dA jY; simp [h1]⟩)
    clear hO kf nh bX
    go_wp2_with fail
    go_roundw
    case rel=>exact ⟨2,by omega,hS.out⟩
    case measure=>
     have k12:=hS.out.1.cell 12
     simp only [bM,List.getElem?_toArray,List.getElem?_cons_succ,List.getElem?_cons_zero] at k12
     rw [k12,c12]
     simp [intOf]
   ·skip
    have q0:((G.C.fi.2:Int)==0)=false:=by simp; omega
    go_wp2_with fail
    go_quiet (fail)
    have hX:Own (wr.drewN nq) a {G with half:=1}:=af.only hO.out ((ab.refl (fun _=>False) wr).drewN nq) (by simp)
    have hY:=Lib.hid (kf.out.drewN nq)
    have hG:=Lib.hid (ej hX (n:=5) (by omega) rfl)
    have e5:Hid (bD G={G with half:=1,nx:=5}):=Lib.hid (by
     have e:dA G.half G.C.fi=1:=by rw [<-nh.out]; unfold dA jY; simp [h1]
     unfold bD
     rw [e,if_pos (by omega)])
    clear hO kf nh bX hX
    go_wp2_with fail
    refine hG.out.mono ?_
    rintro e w2 ⟨rfl,ae,dc⟩
    replace ae:=Lib.hid ae
    replace dc:=Lib.hid dc
    clear c4 c9 c10 c12 z12 z9 f0 f1 q0
    go_wp2_with fail
    exact bodyPost_ret (v:=.tuple #[]) (by simp [results,Tryz.results231]) rfl ⟨rfl,by rw [e5.out]; exact ae.out,hY.out.trans dc.out⟩
  ·have J4:decide ((2:Int)<2)=false:=rfl
   go_wp2_with fail
   go_quiet (fail)
   have hX:Own (wr.drewN nq) a {G with half:=2}:=af.only hO.out ((ab.refl (fun _=>False) wr).drewN nq) (by simp)
   have hY:=Lib.hid (kf.out.drewN nq)
   have wX:Own ((wr.drewN nq).setCell ⟨a.f,9,none⟩ (.int .i64 ((G.bucket:Int)+1))) a {G with half:=2,bucket:=G.bucket+1}:=af.store hX 9 (.int .i64 (G.bucket+1))
   have aq:=(ab.refl (·=a.f) (wr.drewN nq)).setCell (p:=⟨a.f,9,none⟩) (.inl rfl) (.int .i64 (G.bucket+1))
   have kL:=Lib.hid (hY.out.trans aq)
   have hG:=Lib.hid (ej wX (n:=3) (by omega) rfl)
   have e2:Hid (dA G.half G.C.fi=2):=Lib.hid (by rw [<-nh.out]; unfold dA jY; simp)
   clear hO kf nh bX hX wX aq hY
   go_wp2_with fail
   refine hG.out.mono ?_
   rintro e w2 ⟨rfl,ae,dc⟩
   have p9:=ae.cell 9
   have p4:=ae.cell 4
   simp only [bM,List.getElem?_toArray,List.getElem?_cons_succ,List.getElem?_cons_zero] at p4 p9
   have wY:=Lib.hid (kL.out.trans dc)
   have ni:=Lib.hid (fun n=>ej (G:={G with half:=2,bucket:=G.bucket+1,nx:=3}) (af.only ae ((ab.refl (fun _=>False) w2).drewN n) (by simp):Own (w2.drewN n) a {G with half:=2,bucket:=G.bucket+1,nx:=3}) (n:=6) (by omega) rfl)
   replace ae:=Lib.hid ae
   clear dc kL c4 c9 c10 c12 z12 z9 f0 f1 hG
   by_cases hq:G.bucket+1=G.el.1
   ·have q1:(((G.bucket+1:Nat):Int)==(G.el.1:Int))=true:=by simp; omega
    have e6:Hid (bD G={G with half:=2,bucket:=G.bucket+1,nx:=6}):=Lib.hid (by
     unfold bD
     rw [e2.out,if_neg (by omega),if_pos hq])
    clear hq
    go_wp2_with fail
    go_quiet (fail)
    clear p4 p9
    go_wp2_with fail
    refine (ni.out _).mono ?_
    rintro e w3 ⟨rfl,bJ,wZ⟩
    have kg:=Lib.hid ((wY.out.drewN nq).trans wZ)
    replace bJ:=Lib.hid bJ
    clear wZ ni
    go_wp2_with fail
    go_end0
    exact ⟨rfl,by rw [e6.out]; exact bJ.out,kg.out⟩
   ·have q1:(((G.bucket+1:Nat):Int)==(G.el.1:Int))=false:=by simp; omega
    have e6:Hid (bD G={G with half:=2,bucket:=G.bucket+1,nx:=3}):=Lib.hid (by
     unfold bD
     rw [e2.out,if_neg (by omega),if_neg hq])
    clear hq
    go_wp2_with fail
    go_quiet (fail)
    have bJ:=Lib.hid (af.only ae.out ((ab.refl (fun _=>False) w2).drewN nq) (by simp))
    have kg:=Lib.hid (wY.out.drewN nq)
    clear p4 p9 ni
    go_wp2_with fail
    go_end0
    exact ⟨rfl,by rw [e6.out]; exact bJ.out,kg.out⟩
end
end Go.Proofs.YtpanebgakndddaaGreat.Gw
namespace Go.Proofs.YtpanebgakndddaaGreat.Gw
open Go Go.RowKit Hp K Fl Rw Hm Ar Mm Me Qs Wk Pn
set_option maxRecDepth 100000
def kv (a:Gl) (x:Nat):Prop:=x=a.f\/x=a.c\/x=a.B\/In a.LA x\/fz a true x
def Left (w:World) (a:Gl) (G':Gr) (w':World):Prop:=∃ a',bT w' a' G'/\a'.f=a.f/\(∀ x,bu a' G' x->kv a x\/w.heap.size<=x)/\ab (kv a) w w'
structure jw (w:World) (a:Gl) (G:Gr):Prop where
 own:Own w a G
 fA:dQ w a G.C
 rws:gE w a G.pass G.later true
 later:G.later=[]
 met:0∉G.C.met
 half:G.C.half<=1
 lk:G.C.lk.length<=100000
 pass:G.pass.length<=100000
 bucket:G.bucket<=1000000
 el:G.el.1<=1000000
section
variable {w w':World} {M:Mo} {a:Gl} {G:Gr}
theorem tT (G:Gr):(bD G).C=G.C/\(bD G).pass=G.pass/\(bD G).later=G.later/\((bD G).nx=5\/(bD G).nx=6\/(bD G).nx=3):=by
 unfold bD
 split
 ·exact ⟨rfl,rfl,rfl,.inl rfl⟩
 ·refine ⟨rfl,rfl,rfl,.inr ?_⟩
  simp only
  split
  ·exact .inl rfl
  ·exact .inr rfl
theorem jw.ended {w3:World} {a2:Gl} {G2:Gr} (hf:a2.f=a.f) (hc:a2.c=a.c) (ib:a2.cv=a.cv) (cv:a.cv=ptr a.c) (hO:Own w3 a2 (bD G2)) (hX:mR w3 a.c G2.C.fi) (hR:gE w3 a2 G2.pass G2.later true)
 (iC:∀ x,fz a2 true x->kv a x\/w.heap.size<=x) (kf:ab (kv a) w w3):Left w a (bD G2) w3:=by
 obtain ⟨e1,e2,e3,e4⟩:=tT G2
 refine ⟨a2,⟨hO,fun q=>by omega,fun _=>⟨by rw [ib,cv,hc],by rw [hc,e1]; exact hX⟩,fun q=>by omega,?_⟩,hf,fun x hx=>?_,kf⟩
 ·rw [e2,e3,show decide ((bD G2).nx<=6)=true by simp; omega]
  exact hR
 ·rcases hx with rfl | ⟨_,rfl⟩ | ⟨q,_⟩ | ⟨q,_⟩ | hx
  ·exact .inl (.inl hf)
  ·exact .inl (.inr (.inl hc))
  ·omega
  ·omega
  ·rw [show decide ((bD G2).nx<=6)=true by simp; omega] at hx
   exact iC x hx
theorem sg {x:Nat} (h:fz a true x):kv a x:=.inr (.inr (.inr (.inr h)))
theorem gE.lt {p q:List (List (Nat×Nat))} {g:Bool} (h:gE w a p q g) {x:Nat} (hx:fz a g x):x<w.heap.size:=(h.ty hx).lt
theorem jw.GO {S:Nat->Prop} (h:jw w a G) (ho:ab S w w') (hS:∀ x,S x->x=a.c\/In a.LA x):gE w' a G.pass G.later true:=by
 refine h.rws.only ho fun x hx hs=>?_
 have hq:a.qs=[]:=by
  have:=h.rws.qs.len
  rw [h.later] at this
  exact List.eq_nil_of_length_eq_zero this
 rcases hS x hs with rfl | q
 ·exact h.rws.chain h.fA.cb _ hx rfl
 ·rcases hx with ⟨_,hx⟩ | hx | ⟨e,he,hx⟩ | ⟨e,he,hx⟩
  ·exact (b9 (h.rws.pr rfl) hx).apart (b9 h.fA.lr q) (by decide)
  ·exact (b9 h.rws.qr hx).apart (b9 h.fA.lr q) (by decide)
  ·exact h.fA.ap e he x q hx
  ·rw [hq] at he
   simp at he
theorem jw.GP {S:Nat->Prop} (h:jw w a G) (ho:ab S w w') (hS:∀ x,S x->x=a.c\/In a.LA x):Own w' a G:=by
 refine af.only h.own ho fun hs=>?_
 rcases hS _ hs with q | q
 ·exact h.own.differ h.fA.cb (by decide) q
 ·exact (b9 h.fA.lr q).apart (aV h.own) (by decide)
set_option maxHeartbeats 4000000 in
theorem Pb (h:jw w a G) (iU:G.C.cM=[]):Calls Tryz.prog 220 #[ptr a.f,.int .u64 0] w fun e w'=>e=.returned (.tuple #[])/\Left w a (bD {G with half:=0}) w':=by
 have c10:=h.own.cell 10
 simp only [bM,List.getElem?_toArray,List.getElem?_cons_succ,List.getElem?_cons_zero,h.fA.cv] at c10
 have hE:=nD h.fA h.met h.half h.lk
 rw [iU] at hE
 replace hE:=Lib.hid hE
 replace iU:=Lib.hid iU
 have H:=Lib.hid h
 clear h
 go_enter Tryz.func220,Tryz.ntmps220
 go_wp2_with fail
 refine hE.out.mono ?_
 rintro e w1 ⟨A2,cap2,rfl,gd,da,ff,aw⟩
 have iD:=H.out.GO aw (fun x q=>q)
 have aJ:=H.out.GP aw (fun x q=>q)
 have c12:=aJ.cell 12
 have c14:=aJ.cell 14
 have z12:=aJ.frozen 12
 have z14:=aJ.frozen 14
 simp only [bM,List.getElem?_toArray,List.getElem?_cons_succ,List.getElem?_cons_zero] at c12 c14
 replace iD:=Lib.hid iD
 replace aJ:=Lib.hid aJ
 replace gd:=Lib.hid gd
 replace da:=Lib.hid da
 replace ff:=Lib.hid ff
 have zI:=Lib.hid (aw.mono (fun x _ q=>(q.elim (fun e=>.inr (.inl e)) (fun e=>.inr (.inr (.inr (.inl e)))):kv a x)))
 clear c10 hE aw
 dsimp only [List.length_nil]
 have ag:Own (w1.setCell ⟨a.f,12,none⟩ (.int .i64 0)) a {G with half:=0}:=af.store aJ.out 12 (.int .i64 0)
 have ae:=(ab.refl (·=a.f) w1).setCell (p:=⟨a.f,12,none⟩) (.inl rfl) (.int .i64 0)
 have aQ:=ff.out.only ae (ff.out.ne aJ.out)
 have cy:=Lib.hid (iD.out.only ae (iD.out.self aJ.out))
 have hT:=Lib.hid (oH ag H.out.fA.cv aQ (by simp) H.out.bucket H.out.el)
 replace aQ:=Lib.hid aQ
 have aq:=Lib.hid (zI.out.trans' ae (fun x _ q=>.inl q))
 replace ag:=Lib.hid ag
 clear ae
 go_wp2_with fail
 refine hT.out.mono ?_
 rintro e w3 ⟨rfl,ay,aM⟩
 have eO:=aQ.out.only aM (aQ.out.ne ag.out)
 have kH:=cy.out.only aM (cy.out.self ag.out)
 have iP:=Lib.hid (jw.ended (w:=w) (a2:=a) (G2:={G with half:=0}) rfl rfl rfl H.out.fA.cv ay eO kH (fun x hx=>.inl (sg hx)) (aq.out.trans' aM (fun x _ q=>.inl q)))
 clear ay aM eO kH hT c12 c14 z12 z14
 go_wp2_with fail
 go_end0
 exact ⟨rfl,iP.out⟩
set_option maxHeartbeats 4000000 in
theorem Pe (h:jw w a G) {l:List (Nat×Nat)} (iU:G.C.cM=l) (kh:l≠[]):Calls Tryz.prog 220 #[ptr a.f,.int .u64 0] w fun e w'=>e=.returned (.tuple #[])/\Left w a (bD {G with pass:=G.pass++[l],half:=0}) w':=by
 have c10:=h.own.cell 10
 simp only [bM,List.getElem?_toArray,List.getElem?_cons_succ,List.getElem?_cons_zero,h.fA.cv] at c10
 have hE:=nD h.fA h.met h.half h.lk
 rw [iU] at hE
 replace hE:=Lib.hid hE
 replace iU:=Lib.hid iU
 have H:=Lib.hid h
 clear h
 have VI:0<l.length:=List.length_pos_iff.2 kh
 replace kh:=Lib.hid kh
 generalize dG:l.length=n at*
 replace dG:=Lib.hid dG
 go_enter Tryz.func220,Tryz.ntmps220
 go_wp2_with fail
 refine hE.out.mono ?_
 rintro e w1 ⟨A2,cap2,rfl,gd,da,ff,aw⟩
 have iD:=H.out.GO aw (fun x q=>q)
 have aJ:=H.out.GP aw (fun x q=>q)
 have c12:=aJ.cell 12
 have c14:=aJ.cell 14
 have z12:=aJ.frozen 12
 have z14:=aJ.frozen 14
 simp only [bM,List.getElem?_toArray,List.getElem?_cons_succ,List.getElem?_cons_zero] at c12 c14
 replace iD:=Lib.hid iD
 replace aJ:=Lib.hid aJ
 replace gd:=Lib.hid gd
 replace da:=Lib.hid da
 replace ff:=Lib.hid ff
 have zI:=Lib.hid (aw.mono (fun x _ q=>(q.elim (fun e=>.inr (.inl e)) (fun e=>.inr (.inr (.inr (.inl e)))):kv a x)))
 clear c10 hE aw
 rw [dG.out]
 generalize eT:a.ps.length=m at*
 replace eT:=Lib.hid eT
 have cF:=Lib.hid (show m<=100000 by
  have:=H.out.rws.ps.len
  have:=H.out.pass
  have:=eT.out
  omega)
 have hlen:=gd.out.rX
 rw [dG.out] at hlen
 simp only [maxLen] at hlen
 obtain ⟨i0,cW,cQ,cT,dh⟩:=info_parts yB
 go_wp2_with (at_builtin
              refine se w1 rfl (.tmp 18) (.tmp 20) 198 rfl 260 i0 _ 1 24 Tryz.underlying198 cW cQ cT dh rfl (by omega) ly tQ (by intro x u hu; simp [ly] at hu; subst hu; rfl)
               a.PA a.pcap m a.ps eT.out ⟨A2,n,cap2⟩ #[.slice A2 n cap2] rfl rfl (iD.out.pr rfl) rfl (by have:=cF.out; simp only [maxLen]; omega) (by have:=cF.out; omega) ?_
              intro P2 pcap2 w2 cy ae bH
              have uG:∀ x,In a.PA x->fz a true x:=fun x q=>.inl ⟨.inr rfl,q⟩
              have DN:¬In a.PA a.f:=fun q=>iD.out.self aJ.out _ (uG _ q) rfl
              have re:¬In a.PA a.c:=fun q=>by
               obtain ⟨cs,hb,_⟩:=ff.out
               exact iD.out.chain hb _ (uG _ q) rfl
              have ag:=af.only aJ.out ae DN
              have d12:=ag.cell 12
              have d14:=ag.cell 14
              have y12:=ag.frozen 12
              have y14:=ag.frozen 14
              simp only [bM,List.getElem?_toArray,List.getElem?_cons_succ,List.getElem?_cons_zero] at d12 d14
              replace cy:=Lib.hid cy
              replace ae:=Lib.hid ae
              replace bH:=Lib.hid bH
              replace ag:=Lib.hid ag
              replace uG:=Lib.hid uG
              replace DN:=Lib.hid DN
              replace re:=Lib.hid re
              clear c12 c14 z12 z14)
 have ay:Own ((w2.setCell ⟨a.f,14,none⟩ (.slice P2 (m+1) pcap2)).setCell ⟨a.f,12,none⟩ (.int .i64 0)) {a with PA:=P2,pcap:=pcap2,ps:=a.ps++[⟨A2,n,cap2⟩]} {G with pass:=G.pass++[l],half:=0}:=by
  have:=(ag.out.store 14 (.slice P2 (m+1) pcap2)).store 12 (.int .i64 0)
  unfold Own bM
  simp only [List.length_append,List.length_singleton,eT.out]
  exact this
 have aq:=kz (c:=a.f) w2 14 12 (.slice P2 (m+1) pcap2) (.int .i64 0)
 have eO:=(ff.out.only ae.out re.out).only aq (ff.out.ne aJ.out)
 have uH:gE w2 {a with PA:=P2,pcap:=pcap2,ps:=a.ps++[⟨A2,n,cap2⟩]} (G.pass++[l]) G.later true:=by
  have hP:=iD.out.pr rfl
  have VJ:∀ b,In A2 b->¬In a.PA b:=fun b q1 q2=>(b9 gd.out q1).apart (b9 hP q2) (by decide)
  have nE:=iD.out.qr
  refine ⟨(iD.out.ps.only ae.out fun e he b hb q=>(iD.out.ps.ty e he b hb).apart (b9 hP q) (by decide)).snoc ?_,iD.out.qs.only ae.out fun e he b hb q=>(iD.out.qs.ty e he b hb).apart (b9 hP q) (by decide),fun _=>cy.out,rW.pl cy.out,Row.rX cy.out,
   nE.only ae.out fun b hb q=>iD.out.pq b q (.inr rfl) hb,fun b hb _ hq=>?_⟩
  ·have:=qG.at (gd.out.only ae.out VJ) kh.out
   rw [dG.out] at this
   exact this
  ·rcases bH.out b hb with q | q
   ·exact iD.out.pq b q (.inr rfl) hq
   ·have:=nE.lt hq
    omega
 have aP:w.heap.size<=w1.heap.size:=zI.out.size
 have wM:∀ x,fz {a with PA:=P2,pcap:=pcap2,ps:=a.ps++[⟨A2,n,cap2⟩]} true x->kv a x\/w.heap.size<=x:=by
  rintro x (⟨_,hx⟩ | hx | ⟨e,he,hx⟩ | hx)
  ·rcases bH.out x hx with q | q
   ·exact .inl (sg (uG.out x q))
   ·exact .inr (Nat.le_trans aP q)
  ·exact .inl (sg (.inr (.inl hx)))
  ·rcases List.mem_append.1 he with he | he
   ·exact .inl (sg (.inr (.inr (.inl ⟨e,he,hx⟩))))
   ·have:e=⟨A2,n,cap2⟩:=by simpa using he
    subst this
    rcases da.out x hx with q | q
    ·exact .inl (.inr (.inr (.inr (.inl q))))
    ·exact .inr q
  ·exact .inl (sg (.inr (.inr (.inr hx))))
 have aM:ab (kv a) w ((w2.setCell ⟨a.f,14,none⟩ (.slice P2 (m+1) pcap2)).setCell ⟨a.f,12,none⟩ (.int .i64 0)):=(zI.out.trans' ae.out (fun x _ q=>sg (uG.out x q))).trans' aq (fun x _ q=>.inl q)
 have iz:∀ x,fz {a with PA:=P2,pcap:=pcap2,ps:=a.ps++[⟨A2,n,cap2⟩]} true x->¬x=a.f:=fun x hx e=>(uH.ty hx).apart (e▸aV ag.out:Ty w2 x [200]) (by decide)
 have hT:=Lib.hid (oH ay H.out.fA.cv eO (by simp) H.out.bucket H.out.el)
 have kH:=uH.only aq iz
 replace eO:=Lib.hid eO
 replace kH:=Lib.hid kH
 replace wM:=Lib.hid wM
 replace iz:=Lib.hid iz
 replace aM:=Lib.hid aM
 replace ay:=Lib.hid ay
 clear aq uH aP d12 d14 y12 y14
 refine hT.out.mono ?_
 rintro e w5 ⟨rfl,bI,bJ⟩
 have iP:=Lib.hid (jw.ended (w:=w) (a:=a) (G2:={G with pass:=G.pass++[l],half:=0}) (a2:={a with PA:=P2,pcap:=pcap2,ps:=a.ps++[⟨A2,n,cap2⟩]}) rfl rfl rfl H.out.fA.cv bI (eO.out.only bJ (eO.out.ne ay.out)) (kH.out.only bJ iz.out) wM.out (aM.out.trans' bJ (fun x _ q=>.inl q)))
 clear bI bJ hT
 go_wp2_with fail
 go_end0
 exact ⟨rfl,iP.out⟩
theorem Pf (h:jw w a G):Calls Tryz.prog 220 #[ptr a.f,.int .u64 0] w fun e w'=>e=.returned (.tuple #[])/\Left w a (vG G) w':=by
 unfold vG
 by_cases iU:G.C.cM=[]
 ·rw [if_pos iU]
  exact Pb h iU
 ·rw [if_neg iU]
  exact Pe h rfl iU
end
end Go.Proofs.YtpanebgakndddaaGreat.Gw
