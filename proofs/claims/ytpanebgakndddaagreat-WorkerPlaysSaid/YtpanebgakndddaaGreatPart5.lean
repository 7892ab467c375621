/- Walks and plain mathematics, put together in their order: GroA, GroB, GroC, GroD, GroE, GroF, GroG. -/
import Derived.Test.YtpanebgakndddaaGreatPart4
import Derived.Test.YtpanebgakndddaaGreatLm
import Derived.Test.YtpanebgakndddaaGreatFrm
import Derived.Laws.EntriesVeiled
import Derived.Maps.Own
import Derived.Maps.OwnOps
import Derived.Maps.OwnSet
import Derived.Maps.Views
import Derived.Deep.RegionHeld3
import Derived.StillTailTactics
import Derived.Deep.QuietTactic
set_option linter.unusedVariables false
set_option linter.unusedSimpArgs false
namespace Go.Proofs.YtpanebgakndddaaGreat.Gw
open Go Hm Ar Mm Wk Pc Me Mq Pu Pn Gt Qs Zp
def cG (p:Nat×Nat) (h:Nat):Nat:=if h=0 then p.1 else p.2
def put (p:Nat×Nat) (h x:Nat):Nat×Nat:=if h=0 then (x,p.2) else (p.1,x)
theorem kF (p:Nat×Nat) (h x i:Nat) (hh:h<=1) (hi:i<=1):cG (put p h x) i=if i=h then x else cG p i:=by
 unfold cG put
 have:h=0\/h=1:=by omega
 have:i=0\/i=1:=by omega
 rcases ‹h=0\/h=1› with rfl | rfl<;>rcases ‹i=0\/i=1› with rfl | rfl<;>simp
structure Ch where
 fi:Nat×Nat
 la:Nat×Nat
 half:Nat
 met:List Nat
 lk:List (Nat×Nat)
def Ch.new:Ch:=⟨(0,0),(0,0),0,[],[]⟩
def Ch.add (C:Ch) (x h:Nat):Ch:=
 ⟨if cG C.fi h=0 then put C.fi h x else C.fi,put C.la h x,h,x::C.met,if cG C.fi h=0 then C.lk else if h≠C.half then C.lk++[(cG C.la h,x)] else C.lk⟩
def Ch.cK (C:Ch):List (Nat×Nat):=if cG C.la (1-C.half)≠0 then C.lk++[(cG C.la (1-C.half),0)] else C.lk
def hf (b:Bool):Nat:=if b=true then 1 else 0
theorem ej (b:Bool):hf b<=1:=by cases b<;>simp [hf]
theorem HL (b:Bool):1-hf b=hf (!b):=by cases b<;>rfl
theorem pN {a b:Bool}:hf a=hf b↔a=b:=by cases a<;>cases b<;>simp [hf]
def jH (σ:ByteArray->Bool) (q:List Mq.Hp):Ch:=q.foldl (fun C a=>C.add a.1 (hf (σ a.2.1))) .new
theorem Cs (σ:ByteArray->Bool) (q:List Mq.Hp) (a:Mq.Hp):jH σ (q++[a])=(jH σ q).add a.1 (hf (σ a.2.1)):=by
 unfold jH
 rw [List.foldl_append]
 rfl
inductive k9 (σ:ByteArray->Bool):List Mq.Hp->List Mq.Hp->List (Nat×Nat)->Prop
 | nil {r:List Mq.Hp}:k9 σ r [] []
 | cons {r0 d t:List Mq.Hp} {a:Mq.Hp} {s:Bool} {ls:List (Nat×Nat)}:d≠[]->(∀ b∈d,σ b.2.1= !s)->(∀ b t',t=b::t'->σ b.2.1=s)->k9 σ d t ls->k9 σ (r0++[a]) (d++t) ((a.1,aC t)::ls)
structure PL (σ:ByteArray->Bool) (p:List Mq.Hp) (C:Ch):Prop where
 fi:∀ b,cG C.fi (hf b)=aC (p.filter fun e=>σ e.2.1==b)
 met:C.met=(aM p).reverse
theorem Cu (p q:List Mq.Hp):aC (p++q)=if p=[] then aC q else aC p:=by
 cases p<;>simp [aC]
theorem HN {p:List Mq.Hp} (hp:∀ e∈p,e.1≠0):aC p=0↔p=[]:=by
 cases p with
 | nil=>simp [aC]
 | cons e t=>simp [aC,hp e (by simp)]
theorem PM (σ:ByteArray->Bool):∀ (n:Nat) (p:List Mq.Hp),p.length=n->(∀ e∈p,e.1≠0)->PL σ p (jH σ p):=by
 intro n
 induction n with
 | zero=>
   intro p hl _
   have:p=[]:=List.eq_nil_of_length_eq_zero hl
   subst this
   exact ⟨fun b=>by cases b<;>rfl,rfl⟩
 | succ n ih=>
   intro p hl hp
   obtain ⟨q,a,rfl⟩:∃ q a,p=q++[a]:=⟨p.dropLast,p.getLast (by rintro rfl; simp at hl),(List.dropLast_concat_getLast _).symm⟩
   have hq:=ih q (by simp at hl; omega) (fun e he=>hp e (by simp [he]))
   rw [Cs]
   generalize jH σ q=C at*
   have ha:=hp a (by simp)
   refine ⟨fun b=>?_,?_⟩
   ·have h1:=hq.fi b
    have h2:=hq.fi (σ a.2.1)
    have hz:=HN (p:=q.filter fun e=>σ e.2.1==b) (fun e he=>hp e (by have:=(List.mem_filter.1 he).1; simp [this]))
    have cz:=HN (p:=q.filter fun e=>σ e.2.1==σ a.2.1) (fun e he=>hp e (by have:=(List.mem_filter.1 he).1; simp [this]))
    rw [List.filter_append,Cu]
    show cG (if cG C.fi (hf (σ a.2.1))=0 then put C.fi (hf (σ a.2.1)) a.1 else C.fi) (hf b)=_
    by_cases hb:b=σ a.2.1
    ·subst hb
     by_cases h0:cG C.fi (hf (σ a.2.1))=0
     ·rw [if_pos h0,kF _ _ _ _ (ej _) (ej _),if_pos rfl,if_pos (cz.1 (by rw [<-h2]; exact h0))]
      simp [aC]
     ·rw [if_neg h0,if_neg (fun e=>h0 (by rw [h2]; exact cz.2 e))]
      exact h1
    ·have e1:cG (if cG C.fi (hf (σ a.2.1))=0 then put C.fi (hf (σ a.2.1)) a.1 else C.fi) (hf b)=cG C.fi (hf b):=by
      split
      ·rw [kF _ _ _ _ (ej _) (ej _),if_neg (fun e=>hb (pN.1 e))]
      ·rfl
     rw [e1,h1]
     have e2:[a].filter (fun e=>σ e.2.1==b)=[]:=by
      rw [List.filter_cons,if_neg (by simpa using fun e=>hb e.symm)]; rfl
     rw [e2]
     split
     ·rename_i q; rw [q]
     ·rfl
   ·show a.1::C.met=_
    rw [hq.met]
    simp [aM]
def more (σ:ByteArray->Bool) (C:Ch) (q:List Mq.Hp) (l:List (Nat×Nat)):Prop:=(q.foldl (fun C a=>C.add a.1 (hf (σ a.2.1))) C).cK=C.lk++l
theorem PN (σ:ByteArray->Bool):∀ (q:List Mq.Hp) (C:Ch) (r0 d:List Mq.Hp) (a:Mq.Hp) (s:Bool),C.half=hf s->a.1≠0->cG C.la (hf (!s))=a.1->cG C.fi (hf s)≠0->cG C.fi (hf (!s))≠0->(∃ d0 z,d=d0++[z]/\cG C.la (hf s)=z.1/\z.1≠0)->
 (∀ b∈d,σ b.2.1=s)->(∀ e∈q,e.1≠0)->∃ l,more σ C q l/\k9 σ (r0++[a]) (d++q) l:=by
 intro q
 induction q with
 | nil=>
   intro C r0 d a s hh ha hl gY cI hd jy hq
   obtain ⟨d0,z,rfl,hz,cy⟩:=hd
   refine ⟨[(a.1,0)],?_,?_⟩
   ·show C.cK=_
    unfold Ch.cK
    rw [hh,HL,hl,if_pos ha]
   ·have:=k9.cons (σ:=σ) (r0:=r0) (d:=d0++[z]) (t:=[]) (a:=a) (s:= !s) (ls:=[]) (by simp) (by simpa using jy) (by simp) .nil
    simpa [aC] using this
 | cons e q ih=>
   intro C r0 d a s hh ha hl gY cI hd jy hq
   obtain ⟨d0,z,KP,hz,cy⟩:=hd
   have he:=hq e (by simp)
   by_cases hs:σ e.2.1=s
   ·have oq:(C.add e.1 (hf (σ e.2.1)))=⟨C.fi,put C.la (hf s) e.1,hf s,e.1::C.met,C.lk⟩:=by
     unfold Ch.add
     rw [hs,if_neg gY,if_neg gY,if_neg (by rw [hh]; simp)]
    have h1:s≠ !s:=by cases s<;>simp
    obtain ⟨l,h2,h3⟩:=ih ⟨C.fi,put C.la (hf s) e.1,hf s,e.1::C.met,C.lk⟩ r0 (d++[e]) a s rfl ha
     (by rw [kF _ _ _ _ (ej _) (ej _),if_neg (fun q=>h1 (pN.1 q).symm)]; exact hl) gY cI ⟨d,e,rfl,by rw [kF _ _ _ _ (ej _) (ej _),if_pos rfl],he⟩
     (fun b hb=>by
       rcases List.mem_append.1 hb with q | q
       ·exact jy b q
       ·have:b=e:=by simpa using q
        rw [this]; exact hs) (fun b hb=>hq b (List.mem_cons_of_mem _ hb))
    refine ⟨l,?_,by simpa using h3⟩
    unfold more at h2 ⊢
    rw [List.foldl_cons,oq]
    exact h2
   ·have hs':σ e.2.1= !s:=by revert hs; cases σ e.2.1<;>cases s<;>simp
    have h1:s≠ !s:=by cases s<;>simp
    have oq:(C.add e.1 (hf (σ e.2.1)))=⟨C.fi,put C.la (hf (!s)) e.1,hf (!s),e.1::C.met,C.lk++[(a.1,e.1)]⟩:=by
     unfold Ch.add
     rw [hs',if_neg cI,if_neg cI,if_pos (by rw [hh]; exact fun q=>h1 (pN.1 q).symm),hl]
    obtain ⟨l,h2,h3⟩:=ih ⟨C.fi,put C.la (hf (!s)) e.1,hf (!s),e.1::C.met,C.lk++[(a.1,e.1)]⟩ d0 [e] z (!s) rfl cy
     (by rw [Bool.not_not,kF _ _ _ _ (ej _) (ej _),if_neg (fun q=>h1 (pN.1 q))]; exact hz) cI (by rw [Bool.not_not]; exact gY) ⟨[],e,rfl,by rw [kF _ _ _ _ (ej _) (ej _),if_pos rfl],he⟩
     (fun b hb=>by have:b=e:=by simpa using hb
                   rw [this]; exact hs') (fun b hb=>hq b (List.mem_cons_of_mem _ hb))
    refine ⟨(a.1,e.1)::l,?_,?_⟩
    ·unfold more at h2 ⊢
     rw [List.foldl_cons,oq,h2]
     simp
    ·rw [<-KP] at h3
     exact k9.cons (σ:=σ) (r0:=r0) (d:=d) (t:=e::q) (a:=a) (s:= !s) (by rw [KP]; simp) (by rw [Bool.not_not]; exact jy) (fun b t' q=>by
      injection q with q1 _
      rw [<-q1]; exact hs') h3
theorem PO (σ:ByteArray->Bool):∀ (q:List Mq.Hp) (C:Ch) (r0:List Mq.Hp) (z:Mq.Hp) (s:Bool),C.half=hf s->cG C.la (hf (!s))=0->cG C.fi (hf s)≠0->cG C.fi (hf (!s))=0->cG C.la (hf s)=z.1->z.1≠0->
 (∀ b∈r0++[z],σ b.2.1=s)->(∀ e∈q,e.1≠0)->∀ r rest,(r0++[z])++q=r++rest->(∀ b∈r,σ b.2.1=s)->(∀ b t',rest=b::t'->σ b.2.1= !s)->∃ l,more σ C q l/\k9 σ r rest l:=by
 intro q
 induction q with
 | nil=>
   intro C r0 z s hh hl gY cI hz cy hr hq r rest he nD qb
   have:rest=[]:=by
    cases rest with
    | nil=>rfl
    | cons b t=>
      exfalso
      have h1:=qb b t rfl
      have h2:=hr b (by rw [List.append_nil] at he; rw [he]; simp)
      rw [h2] at h1
      revert h1
      cases s<;>simp
   subst this
   refine ⟨[],?_,.nil⟩
   show C.cK=_
   unfold Ch.cK
   rw [hh,HL,hl,if_neg (by simp),List.append_nil]
 | cons e q ih=>
   intro C r0 z s hh hl gY cI hz cy hr hq r rest hx nD qb
   have he:=hq e (by simp)
   have h1:s≠ !s:=by cases s<;>simp
   by_cases hs:σ e.2.1=s
   ·have oq:(C.add e.1 (hf (σ e.2.1)))=⟨C.fi,put C.la (hf s) e.1,hf s,e.1::C.met,C.lk⟩:=by
     unfold Ch.add
     rw [hs,if_neg gY,if_neg gY,if_neg (by rw [hh]; simp)]
    obtain ⟨l,h2,h3⟩:=ih ⟨C.fi,put C.la (hf s) e.1,hf s,e.1::C.met,C.lk⟩ (r0++[z]) e s rfl
     (by rw [kF _ _ _ _ (ej _) (ej _),if_neg (fun q=>h1 (pN.1 q).symm)]; exact hl) gY cI (by rw [kF _ _ _ _ (ej _) (ej _),if_pos rfl]) he
     (fun b hb=>by
       rcases List.mem_append.1 hb with q | q
       ·exact hr b q
       ·have:b=e:=by simpa using q
        rw [this]; exact hs) (fun b hb=>hq b (List.mem_cons_of_mem _ hb)) r rest (by simpa using hx) nD qb
    refine ⟨l,?_,h3⟩
    unfold more at h2 ⊢
    rw [List.foldl_cons,oq]
    exact h2
   ·have hs':σ e.2.1= !s:=by revert hs; cases σ e.2.1<;>cases s<;>simp
    have Wu:r=r0++[z]/\rest=e::q:=by
     rcases List.append_eq_append_iff.1 hx with ⟨c,p1,p2⟩ | ⟨c,p1,p2⟩
     ·cases c with
      | nil=>exact ⟨by simpa using p1,by simpa using p2.symm⟩
      | cons b c=>
        exfalso
        injection p2 with p2 _
        have:=nD b (by rw [p1]; simp)
        rw [<-p2,hs'] at this
        exact h1 this.symm
     ·cases c with
      | nil=>exact ⟨by simpa using p1.symm,by simpa using p2⟩
      | cons b c=>
        exfalso
        have h2:=qb b (c++e::q) (by rw [p2]; simp)
        have h3:=hr b (by rw [p1]; simp)
        rw [h3] at h2
        exact h1 h2
    obtain ⟨rfl,rfl⟩:=Wu
    have oq:(C.add e.1 (hf (σ e.2.1)))=⟨put C.fi (hf (!s)) e.1,put C.la (hf (!s)) e.1,hf (!s),e.1::C.met,C.lk⟩:=by
     unfold Ch.add
     rw [hs',if_pos cI,if_pos cI]
    obtain ⟨l,h2,h3⟩:=PN σ q ⟨put C.fi (hf (!s)) e.1,put C.la (hf (!s)) e.1,hf (!s),e.1::C.met,C.lk⟩ r0 [e] z (!s) rfl cy
     (by rw [Bool.not_not,kF _ _ _ _ (ej _) (ej _),if_neg (fun q=>h1 (pN.1 q))]; exact hz) (by rw [kF _ _ _ _ (ej _) (ej _),if_pos rfl]; exact he)
     (by rw [Bool.not_not,kF _ _ _ _ (ej _) (ej _),if_neg (fun q=>h1 (pN.1 q))]; exact gY) ⟨[],e,rfl,by rw [kF _ _ _ _ (ej _) (ej _),if_pos rfl],he⟩
     (fun b hb=>by have:b=e:=by simpa using hb
                   rw [this]; exact hs') (fun b hb=>hq b (List.mem_cons_of_mem _ hb))
    refine ⟨l,?_,h3⟩
    unfold more at h2 ⊢
    rw [List.foldl_cons,oq]
    exact h2
theorem PQ (σ:ByteArray->Bool) {ss:List Sl} {aY:List Mq.Hp} {s:Bool} {x y:Nat} {r rest:List Mq.Hp} (h:Zip ss σ aY s x y [] r [] rest) (hA:aY=r++rest) (h0:∀ e∈aY,e.1≠0):k9 σ r rest (jH σ aY).cK:=by
 cases hq:aY with
 | nil=>
   have h1:=hA
   rw [hq] at h1
   have h2:=List.append_eq_nil_iff.1 h1.symm
   rw [h2.1,h2.2]
   exact .nil
 | cons e t=>
   have Ww:r≠[]:=by
    intro e0
    have h1:rest=[]:=by
     cases rest with
     | nil=>rfl
     | cons b t'=>exact absurd e0 (h.ne (by simp))
    rw [e0,h1,hq] at hA
    simp at hA
   obtain ⟨b,r',rfl⟩:∃ b r',r=b::r':=by
    cases r with
    | nil=>exact absurd rfl Ww
    | cons b r'=>exact ⟨b,r',rfl⟩
   rw [hq,List.cons_append] at hA
   injection hA with hb ht
   subst hb
   have hs:σ e.2.1=s:=h.su e (by simp)
   have he:e.1≠0:=h0 e (by rw [hq]; simp)
   obtain ⟨l,h2,h3⟩:=PO σ t ⟨put (0,0) (hf s) e.1,put (0,0) (hf s) e.1,hf s,[e.1],[]⟩ [] e s rfl
    (by rw [kF _ _ _ _ (ej _) (ej _),if_neg (fun q=>by have:=pN.1 q; revert this; cases s<;>simp)]; unfold cG; split<;>rfl)
    (by rw [kF _ _ _ _ (ej _) (ej _),if_pos rfl]; exact he)
    (by rw [kF _ _ _ _ (ej _) (ej _),if_neg (fun q=>by have:=pN.1 q; revert this; cases s<;>simp)]; unfold cG; split<;>rfl)
    (by rw [kF _ _ _ _ (ej _) (ej _),if_pos rfl]) he (by simpa using hs) (fun b hb=>h0 b (by rw [hq]; exact List.mem_cons_of_mem _ hb)) (e::r') rest (by simpa using ht) (by simpa using h.su) h.hd
   unfold more at h2
   have e1:(jH σ (e::t)).cK=(t.foldl (fun (C:Ch) (a:Mq.Hp)=>C.add a.1 (hf (σ a.2.1))) ⟨put (0,0) (hf s) e.1,put (0,0) (hf s) e.1,hf s,[e.1],[]⟩).cK:=by
    unfold jH
    rw [List.foldl_cons,hs]
    have:Ch.new.add e.1 (hf s)=⟨put (0,0) (hf s) e.1,put (0,0) (hf s) e.1,hf s,[e.1],[]⟩:=by
     have hz:cG Ch.new.fi (hf s)=0:=by unfold cG Ch.new; split<;>rfl
     unfold Ch.add
     rw [if_pos hz,if_pos hz]
     rfl
    rw [this]
   rw [e1,h2]
   simpa using h3
theorem k9.le {σ:ByteArray->Bool} {r rest:List Mq.Hp} {l:List (Nat×Nat)} (h:k9 σ r rest l):l.length<=rest.length:=by
 induction h with
 | nil=>simp
 | @cons r0 d t a s ls h1 _ _ _ ih=>
   have:1<=d.length:=List.length_pos_iff.2 h1
   simp only [List.length_cons,List.length_append]
   omega
theorem k9.none {σ:ByteArray->Bool} {r rest:List Mq.Hp} (h:k9 σ r rest []):rest=[]:=by cases h; rfl
end Go.Proofs.YtpanebgakndddaaGreat.Gw
namespace Go.Proofs.YtpanebgakndddaaGreat.Gw
open Go Go.RowKit Hp K Fl Rw Hm Ar Mm Me Qs Wk Pn
set_option maxRecDepth 100000
/-! ### a map of handles to halves-/
abbrev HO:=DataW Unit
abbrev wD (x:Nat):Lit:=.int .u64 x
abbrev PR (v:Int):HO:=.lit (.int .i64 v)
def iH (w:World) (B:Nat) (ms:List Nat):Prop:=∃ (n:Nat) (D:HO),w.ownsMap Tryz.prog 40 (plainElem Tryz.prog 3) B n D/\n<=ms.length/\∀ x,x<=18446744073709551615->Maps.has D (wD x)=decide (x∈ms)
theorem Cv:Maps.Keyed Tryz.prog 40:=Maps.int_keyed Tryz.underlying40
theorem PS (w:World):(zeroValue 3).run Tryz.prog w=.ok (.int .i64 0) w:=by kernel_rfl
theorem PT {x:Nat} (hx:x<=18446744073709551615):(Lit.int .u64 (x:Int)).wf=true:=by
 simp [Lit.wf,IntKind.min,IntKind.max,IntKind.signed,IntKind.bits]; omega
theorem PU {x:Nat} (hx:x<=1):(Lit.int .i64 (x:Int)).wf=true:=by
 simp [Lit.wf,IntKind.min,IntKind.max,IntKind.signed,IntKind.bits]; omega
theorem Cw {x:Nat} (hx:x<=18446744073709551615):keyOf Tryz.prog 40 (.int .u64 x)=some (wD x):=Maps.keyOf_int_mk Tryz.underlying40 (PT hx)
theorem PV {x:Nat} (hx:x<=18446744073709551615):WideAt.IsKeyLit (wD x):=Cv.key (Cw hx)
section
variable {w w':World} {B:Nat} {ms:List Nat}
theorem iH.made (w:World):iH (w.alloc (.map #[] 0)) w.heap.size []:=⟨0,.map [],World.ownsMap_made _ _ _ _,Nat.le_refl _,fun x _=>by simp [Maps.has_eq]⟩
theorem iH.lt (h:iH w B ms):B<w.heap.size:=by obtain ⟨n,D,hm,r⟩:=h; exact hm.lt
theorem iH.only {S:Nat->Prop} (h:iH w B ms) (ho:ab S w w') (hn:¬S B):iH w' B ms:=by
 obtain ⟨n,D,hm,r⟩:=h
 have aV:=hm.lt
 obtain ⟨es,clock,hb,F,hs,hD⟩:=hm
 exact ⟨n,D,⟨es,clock,(ho.block B aV hn).trans hb,F,hs,hD⟩,r⟩
theorem iH.no (h:iH w B ms) {ts:List TypeId} (ht:Ty w B ts):False:=by
 obtain ⟨n,D,hm,r⟩:=h
 obtain ⟨es,clock,hb,_⟩:=hm
 obtain ⟨t,cs,cY,_⟩:=ht
 have e:=hb.symm.trans cY
 injection e with e
 injection e
theorem iH.look (h:iH w B ms) {x:Nat} (hx:x<=18446744073709551615):∃ c:Int,(Instr.lookup 258 (.map (some B)) (.int .u64 x) true).run Tryz.prog w=.ok (.tuple #[.int .i64 c,.bool (decide (x∈ms))]) w:=by
 obtain ⟨n,D,hm,_,cr⟩:=h
 obtain ⟨v,ps,eX,hv⟩:=hm.look_ok Cv Tryz.underlying258 (PS w) (plainElem_int Tryz.underlying3 (by decide)) (Cw hx)
 obtain ⟨c,rfl,_,_⟩:=plainElem_int_inv Tryz.underlying3 hv
 exact ⟨c,by rw [eX,cr x hx]⟩
theorem uf {ops:Array Oper} {rest:List Oper} {o:Oper} {a:Act} {Q:Exit->Act->World->Prop} (qi:o.guard=none) (m x v:Operand)
 (xT:o.op=Op.mapUpdate 258 m x v) (h:iH w B ms) (hl:ms.length<=1000000) (y:Nat) (hy:y<=18446744073709551615) (z:Nat) (hz:z<=1)
 (hm:a.eval m=.map (some B)) (hx:a.eval x=.int .u64 y) (hv:a.eval v=.int .i64 z)
 (hK:∀ w',iH w' B (y::ms)->ab (·=B) w w'->wpList Tryz.prog ops Q rest (a.put o.dst undef) w'):wpList Tryz.prog ops Q (o::rest) a w:=by
 obtain ⟨n,D,hM,hn,cr⟩:=h
 refine wpList_mapUpdate_own w qi m x v 258 xT 40 3 Cv Tryz.underlying258 _ B n D hm hM (by unfold maxLen; omega) _ _ _ hx hv (Cw hy) (PR z) [] (plainElem_int Tryz.underlying3 (PU hz)) ?_
 intro w' kh hg
 refine hK w' ⟨n+1,_,kh,by simp; omega,fun u hu=>?_⟩ ((ab.refl (·=B) w).grown hg (fun z hz=>.inl (by injection hz with hz; exact hz.symm)))
 by_cases e:u=y
 ·subst e
  rw [Maps.has_put_same hM.isMap (PV hu)]
  simp
 ·have aL:wD u≠wD y:=fun h=>by
   injection h with _ h
   exact e (by omega)
  rw [Maps.has_put_other aL,cr u hu]
  simp [e]
end
/-! ### rows of links,rows of such rows-/
structure El where
 A:Option Addr
 n:Nat
 cap:Nat
def lS (x:El):List Value:=[.slice x.A x.n x.cap]
theorem ug (x:El):(lS x).length=1:=rfl
def jW (p:Nat×Nat):List Value:=[.int .u64 p.1,.int .u64 p.2]
theorem uh (p:Nat×Nat):(jW p).length=2:=rfl
def mH (l:List (Nat×Nat)) (i:Nat):Nat×Nat:=l.getD i (0,0)
def nW (l:List El) (i:Nat):El:=l.getD i ⟨none,0,0⟩
structure jI (w:World) (x:El) (l:List (Nat×Nat)):Prop where
 n:x.n=l.length
 ne:l≠[]
 cap:x.n<=x.cap/\x.cap<=maxLen
 at_:∃ b o cs,x.A=some ⟨b,o,none⟩/\af w b 270 cs/\∀ i,i<l.length->cs[o+i*2]?=some (.int .u64 (mH l i).1)/\cs[o+i*2+1]?=some (.int .u64 (mH l i).2)
def pO (w:World) (A:Option Addr) (l:List El):Prop:=l=[]\/∃ b o cs,A=some ⟨b,o,none⟩/\af w b 260 cs/\∀ i,i<l.length->cs[o+i]?=some (.slice (nW l i).A (nW l i).n (nW l i).cap)
abbrev sy (w:World) (A:Option Addr) (cap:Nat) (l:List El):Prop:=Row w 260 1 lS A cap l
abbrev qU (w:World) (A:Option Addr) (cap:Nat) (l:List (Nat×Nat)):Prop:=Row w 270 2 jW A cap l
section
variable {w w':World} {x:El} {l:List (Nat×Nat)} {A:Option Addr} {cap:Nat} {es:List El}
theorem jI.only {S:Nat->Prop} (h:jI w x l) (ho:ab S w w') (hn:∀ b,In x.A b->¬S b):jI w' x l:=by
 obtain ⟨h1,h2,h3,b,o,cs,h4,h5,h6⟩:=h
 exact ⟨h1,h2,h3,b,o,cs,h4,h5.only ho (hn b (by rw [h4]; rfl)),h6⟩
theorem jI.ty (h:jI w x l) {b:Nat} (hb:In x.A b):Ty w b [270]:=by
 obtain ⟨h1,h2,h3,b',o,cs,h4,h5,h6⟩:=h
 rw [h4] at hb
 have:b'=b:=by simpa [In] using hb
 subst this
 exact ⟨_,cs,h5,by simp⟩
theorem pO.only {S:Nat->Prop} (h:pO w A es) (ho:ab S w w') (hn:∀ b,In A b->¬S b):pO w' A es:=by
 rcases h with h | ⟨b,o,cs,h1,h2,h3⟩
 ·exact .inl h
 ·exact .inr ⟨b,o,cs,h1,h2.only ho (hn b (by rw [h1]; rfl)),h3⟩
theorem sy.pl (h:sy w A cap es):pO w A es:=by
 by_cases h0:es=[]
 ·exact .inl h0
 ·obtain ⟨b,e,hb,hc⟩:=h.cells ug 0 (List.length_pos_iff.2 h0)
  obtain ⟨cs,hB⟩:=zu h (x:=b) (by rw [e]; rfl)
  refine .inr ⟨b,0,cs,e,hB,fun i hi=>?_⟩
  obtain ⟨b',e',_,qp⟩:=h.cells ug i hi
  have:b'=b:=by rw [e] at e'; simpa using e'.symm
  subst this
  have:=(qp 0 (by omega)).1
  rw [hB.cell] at this
  rw [Nat.zero_add,show i=i*1+0 by omega,this]
  simp [lS,nW,List.getD,hi]
theorem qU.at (h:qU w A cap l) (hl:l≠[]):jI w ⟨A,l.length,cap⟩ l:=by
 obtain ⟨b,e,hb,hc⟩:=h.cells uh 0 (List.length_pos_iff.2 hl)
 obtain ⟨cs,hB⟩:=zu h (x:=b) (by rw [e]; rfl)
 refine ⟨rfl,hl,h.ui,b,0,cs,e,hB,fun i hi=>?_⟩
 obtain ⟨b',e',_,qp⟩:=h.cells uh i hi
 have:b'=b:=by rw [e] at e'; simpa using e'.symm
 subst this
 have h0:=(qp 0 (by omega)).1
 have h1:=(qp 1 (by omega)).1
 rw [hB.cell] at h0 h1
 rw [Nat.zero_add]
 exact ⟨h0.trans (by simp [jW,mH,List.getD,hi]),h1.trans (by simp [jW,mH,List.getD,hi])⟩
end
inductive jY (w:World):List El->List (List (Nat×Nat))->Prop
 | nil:jY w [] []
 | cons {x:El} {l:List (Nat×Nat)} {es:List El} {ls:List (List (Nat×Nat))}:jI w x l->jY w es ls->jY w (x::es) (l::ls)
section
variable {w w':World} {es:List El} {ls:List (List (Nat×Nat))}
theorem jY.len (h:jY w es ls):es.length=ls.length:=by
 induction h with
 | nil=>rfl
 | cons _ _ ih=>simp [ih]
theorem jY.only {S:Nat->Prop} (h:jY w es ls) (ho:ab S w w') (hn:∀ e∈es,∀ b,In e.A b->¬S b):jY w' es ls:=by
 induction h with
 | nil=>exact .nil
 | cons a _ ih=>exact .cons (a.only ho (hn _ (by simp))) (ih fun e he=>hn e (List.mem_cons_of_mem _ he))
theorem jY.ty (h:jY w es ls):∀ e∈es,∀ b,In e.A b->Ty w b [270]:=by
 induction h with
 | nil=>simp
 | cons a _ ih=>
   intro e he b hb
   rcases List.mem_cons.1 he with rfl | he
   ·exact a.ty hb
   ·exact ih e he b hb
theorem jY.snoc (h:jY w es ls) {x:El} {l:List (Nat×Nat)} (hx:jI w x l):jY w (es++[x]) (ls++[l]):=by
 induction h with
 | nil=>exact .cons hx .nil
 | cons a _ ih=>exact .cons a ih
end
/-! ### a grow-/
structure Gr where
 worker:Int
 nx:Nat
 err:Int
 el:Nat×Nat
 nw:Nat×Nat
 num:Int
 bucket:Nat
 C:Ch
 at_:Nat
 half:Nat
 W:Wt
 pass:List (List (Nat×Nat))
 later:List (List (Nat×Nat))
structure Gl where
 f:Nat
 cv:Value
 wv:Value
 c:Nat
 B:Nat
 LA:Option Addr
 lcap:Nat
 w:Nat
 PA:Option Addr
 pcap:Nat
 ps:List El
 QA:Option Addr
 qcap:Nat
 qs:List El
def uj (a:Gl) (nx:Nat):Value:=if nx=7 then aU 56 (ptr a.w) else dY 150
def jX (f nx:Nat):Value:=if nx=1 then aU 114 (ptr f) else if nx=2 then aU 151 (ptr f) else if nx=3 then aU 188 (ptr f)
 else if nx=4 then aU 221 (ptr f) else if nx=5 then aU 239 (ptr f) else if nx=6 then aU 240 (ptr f)
 else if nx=7 then aU 244 (ptr f) else if nx=8 then aU 245 (ptr f) else dY 205
def bP (a:Gl) (G:Gr):Array Value:=#[.int .i64 G.worker,uj a G.nx,jX a.f G.nx,.int .i64 G.err,.int .i64 G.el.1,.int .i64 G.el.2,.int .i64 G.nw.1,.int .i64 G.nw.2,.int .i64 G.num,.int .i64 G.bucket,a.cv,.int .u64 G.at_,.int .i64 G.half,a.wv,
 .slice a.PA a.ps.length a.pcap,.slice a.QA a.qs.length a.qcap]
def jJ (a:Gl) (C:Ch):Array Value:=#[.int .u64 C.fi.1,.int .u64 C.fi.2,.int .u64 C.la.1,.int .u64 C.la.2,.int .i64 C.half,.map (some a.B),.slice a.LA C.lk.length a.lcap]
abbrev Own (w:World) (a:Gl) (G:Gr):Prop:=af w a.f 200 (bP a G)
def nr (w:World) (c:Nat) (fi:Nat×Nat):Prop:=∃ cs,af w c 262 cs/\cs[0]?=some (.int .u64 fi.1)/\cs[1]?=some (.int .u64 fi.2)
structure dS (w:World) (a:Gl) (C:Ch):Prop where
 cv:a.cv=ptr a.c
 cb:af w a.c 262 (jJ a C)
 mt:iH w a.B C.met
 lr:qU w a.LA a.lcap C.lk
 ap:∀ x∈a.ps,∀ b,In a.LA b->¬In x.A b
structure eE (w:World) (a:Gl) (p q:List (List (Nat×Nat))) (zv:Bool):Prop where
 ps:jY w a.ps p
 qs:jY w a.qs q
 pr:zv=true->sy w a.PA a.pcap a.ps
 pl:pO w a.PA a.ps
 pc:a.ps.length<=a.pcap/\a.pcap<=maxLen
 qr:sy w a.QA a.qcap a.qs
 pq:∀ b,In a.PA b->(a.ps≠[]\/zv=true)->¬In a.QA b
structure bY (w:World) (a:Gl) (G:Gr):Prop where
 ao:Own w a G
 c4:G.nx=4->dS w a G.C
 c5:G.nx=5->a.cv=ptr a.c/\nr w a.c G.C.fi
 wt:G.nx=7->a.wv=ptr a.w/\dr w a.w G.W
 cV:eE w a G.pass G.later (decide (G.nx<=6))
def fu (a:Gl) (g:Bool) (x:Nat):Prop:=((a.ps≠[]\/g=true)/\In a.PA x)\/In a.QA x\/(∃ e∈a.ps,In e.A x)\/∃ e∈a.qs,In e.A x
def bC (a:Gl) (G:Gr) (x:Nat):Prop:=x=a.f\/((G.nx=4\/G.nx=5)/\x=a.c)\/(G.nx=4/\(x=a.B\/In a.LA x))\/(G.nx=7/\x=a.w)\/fu a (decide (G.nx<=6)) x
abbrev dL:iG Gl Gr:=⟨Gl.f,bY,bC⟩
section
variable {w w':World} {M:Mo} {a:Gl} {G:Gr} {p q:List (List (Nat×Nat))} {g:Bool} {C:Ch}
abbrev PW:List TypeId:=[200,262,270,260,157]
theorem eE.ty (h:eE w a p q g) {x:Nat} (hx:fu a g x):Ty w x [270,260]:=by
 rcases hx with ⟨hg,hx⟩ | hx | ⟨e,he,hx⟩ | ⟨e,he,hx⟩
 ·rcases hg with hg | hg
  ·rcases h.pl with h1 | ⟨b,o,cs,h1,h2,_⟩
   ·exact absurd h1 hg
   ·rw [h1] at hx
    have:b=x:=by simpa [In] using hx
    subst this
    exact ⟨_,cs,h2,by simp⟩
  ·exact (cw (h.pr hg) hx).mono (by simp)
 ·exact (cw h.qr hx).mono (by simp)
 ·exact (h.ps.ty e he x hx).mono (by simp)
 ·exact (h.qs.ty e he x hx).mono (by simp)
theorem eE.only {S:Nat->Prop} (h:eE w a p q g) (ho:ab S w w') (hn:∀ x,fu a g x->¬S x):eE w' a p q g where
 ps:=h.ps.only ho fun e he b hb=>hn b (.inr (.inr (.inl ⟨e,he,hb⟩)))
 qs:=h.qs.only ho fun e he b hb=>hn b (.inr (.inr (.inr ⟨e,he,hb⟩)))
 pr hg:=(h.pr hg).only ho fun b hb=>hn b (.inl ⟨.inr hg,hb⟩)
 pl:=by
  by_cases h0:a.ps=[]
  ·exact .inl h0
  ·exact h.pl.only ho fun b hb=>hn b (.inl ⟨.inl h0,hb⟩)
 pc:=h.pc
 qr:=h.qr.only ho fun b hb=>hn b (.inr (.inl hb))
 pq:=h.pq
theorem dS.only {S:Nat->Prop} (h:dS w a C) (ho:ab S w w') (h1:¬S a.c) (h2:¬S a.B) (h3:∀ b,In a.LA b->¬S b):dS w' a C:=
 ⟨h.cv,h.cb.only ho h1,h.mt.only ho h2,h.lr.only ho h3,h.ap⟩
theorem bY.ty (h:bY w a G) {x:Nat} (hx:bC a G x):Ty w x PW\/∃ ms,iH w x ms:=by
 rcases hx with rfl | ⟨hn,rfl⟩ | ⟨hn,hx⟩ | ⟨hn,rfl⟩ | hx
 ·exact .inl ((bm h.ao).mono (by simp))
 ·rcases hn with hn | hn
  ·exact .inl ((bm (h.c4 hn).cb).mono (by simp))
  ·obtain ⟨cs,hb,_⟩:=(h.c5 hn).2
   exact .inl ((bm hb).mono (by simp))
 ·rcases hx with rfl | hx
  ·exact .inr ⟨_,(h.c4 hn).mt⟩
  ·exact .inl ((cw (h.c4 hn).lr hx).mono (by simp))
 ·exact .inl ((bm (h.wt hn).2).mono (by simp))
 ·exact .inl ((h.cV.ty hx).mono (by simp))
theorem bY.lt (h:bY w a G) {x:Nat} (hx:bC a G x):x<w.heap.size:=by
 rcases h.ty hx with q | ⟨ms,q⟩
 ·exact q.lt
 ·exact q.lt
theorem bY.aB (h:bY w a G) (hM:ah w M) {x:Nat} (hx:bC a G x):¬aq M x:=fun hm=>by
 rcases h.ty hx with q | ⟨ms,q⟩
 ·exact (hM.ty hm).apart q (by decide)
 ·exact q.no (hM.ty hm)
theorem bY.only {S:Nat->Prop} (h:bY w a G) (ho:ab S w w') (hn:∀ x,bC a G x->¬S x):bY w' a G where
 ao:=h.ao.only ho (hn _ (.inl rfl))
 c4 q:=(h.c4 q).only ho (hn _ (.inr (.inl ⟨.inl q,rfl⟩))) (hn _ (.inr (.inr (.inl ⟨q,.inl rfl⟩)))) (fun b hb=>hn _ (.inr (.inr (.inl ⟨q,.inr hb⟩))))
 c5 q:=by
  obtain ⟨h1,cs,h2,h3⟩:=h.c5 q
  exact ⟨h1,cs,h2.only ho (hn _ (.inr (.inl ⟨.inr q,rfl⟩))),h3⟩
 wt q:=⟨(h.wt q).1,(h.wt q).2.only ho (hn _ (.inr (.inr (.inr (.inl ⟨q,rfl⟩)))))⟩
 cV:=h.cV.only ho fun x hx=>hn x (.inr (.inr (.inr (.inr hx))))
theorem bY.below (h:bY w a G) (hb:Below w.heap.size w w'):bY w' a G:=h.only (ab.aA hb (fun _=>False)) (by simp)
theorem sA (h:Own w a G):w.cell? ⟨a.f,0,none⟩=some (.int .i64 G.worker)/\w.cell? ⟨a.f,1,none⟩=some (uj a G.nx)/\w.cell? ⟨a.f,2,none⟩=some (jX a.f G.nx)/\w.cell? ⟨a.f,3,none⟩=some (.int .i64 G.err)/\
 w.cell? ⟨a.f,4,none⟩=some (.int .i64 G.el.1)/\w.cell? ⟨a.f,5,none⟩=some (.int .i64 G.el.2)/\w.cell? ⟨a.f,6,none⟩=some (.int .i64 G.nw.1)/\w.cell? ⟨a.f,7,none⟩=some (.int .i64 G.nw.2)/\
 w.cell? ⟨a.f,8,none⟩=some (.int .i64 G.num)/\w.cell? ⟨a.f,9,none⟩=some (.int .i64 G.bucket)/\w.cell? ⟨a.f,10,none⟩=some a.cv/\w.cell? ⟨a.f,11,none⟩=some (.int .u64 G.at_)/\
 w.cell? ⟨a.f,12,none⟩=some (.int .i64 G.half)/\w.cell? ⟨a.f,13,none⟩=some a.wv/\w.cell? ⟨a.f,14,none⟩=some (.slice a.PA a.ps.length a.pcap)/\w.cell? ⟨a.f,15,none⟩=some (.slice a.QA a.qs.length a.qcap):=
 ⟨h.cell 0,h.cell 1,h.cell 2,h.cell 3,h.cell 4,h.cell 5,h.cell 6,h.cell 7,h.cell 8,h.cell 9,h.cell 10,h.cell 11,h.cell 12,h.cell 13,h.cell 14,h.cell 15⟩
theorem eE.self (h:eE w a p q g) (hf:Own w a G):∀ x,fu a g x->x≠a.f:=by
 rintro x hx rfl
 exact (h.ty hx).apart (bm hf) (by decide)
theorem eE.chain (h:eE w a p q g) {c:Nat} {cs:Array Value} (hc:af w c 262 cs):∀ x,fu a g x->x≠c:=by
 rintro x hx rfl
 exact (h.ty hx).apart (bm hc) (by decide)
end
theorem zx:(Tryz.prog.info? 270).map (fun i=>(i.zero,i.size,i.bytes))=some (some (.agg #[.int .u64 0,.int .u64 0]),2,16):=by kernel_rfl
theorem zy:(Tryz.prog.info? 260).map (fun i=>(i.zero,i.size,i.bytes))=some (some (.slice none 0 0),1,24):=by kernel_rfl
/-! ### its steps as plain data-/
def jZ (h:Nat) (fi:Nat×Nat):Nat:=if h=0/\fi.1=0 then 1 else h
def dD (h:Nat) (fi:Nat×Nat):Nat:=if jZ h fi=1/\fi.2=0 then 2 else jZ h fi
def bI (G:Gr):Gr:=
 if dD G.half G.C.fi<2 then {G with half:=dD G.half G.C.fi,nx:=5} else {G with half:=dD G.half G.C.fi,bucket:=G.bucket+1,nx:=if G.bucket+1=G.el.1 then 6 else 3}
def wE (G:Gr):Gr:=bI {G with pass:=if G.C.cK=[] then G.pass else G.pass++[G.C.cK],half:=0}
def dm (G:Gr) (x:Nat):Gr:=if x=0 then wE G else {G with at_:=x,nx:=4}
def eo (G:Gr):Gr:={G with W:=⟨G.worker,0,0,0⟩,nx:=7}
def ld (G:Gr) (s:Int):Nat:=(FM.bucket s G.nw.1 / G.el.1).toNat
def aE (L:Lm) (G:Gr):Lm×Gr:=
 if G.nx=1 then (L,{G with el:=now L.xs L.ds,nx:=2})
 else if G.nx=2 then
  (if FM.bl ((2*G.el.1:Nat):Int)=true/\L.xs.length+2*G.el.1<=1048576 then
    ({L with xs:=L.xs++List.replicate (2*G.el.1) 0,ds:=L.ds++[(2*G.el.1,L.xs.length)]},{G with num:=L.ds.length,err:=0,nw:=(2*G.el.1,L.xs.length),nx:=3})
  else (L,{G with num:= -1,err:=if FM.bl ((2*G.el.1:Nat):Int)=true then 2 else 5,nx:=9}))
 else if G.nx=3 then (L,dm {G with C:=.new} (Cl.nth L.xs (G.el.2+G.bucket)).toNat)
 else if G.nx=4 then
  (L,dm {G with C:=G.C.add G.at_ (ld G (aj L.ss ((G.at_-1) % 65536)).nd.sum)} (aj L.ss ((G.at_-1) % 65536)).nd.next.toNat)
 else if G.nx=5 then ({L with xs:=L.xs.set (G.nw.2+(G.bucket+G.half*G.el.1)) ((cG G.C.fi G.half:Nat):Int)},bI {G with half:=G.half+1})
 else if G.nx=6 then ({L with xs:=L.xs.set 1 G.num},eo G)
 else if G.nx=7 then ({L with xs:=(aW L.k.toNat L.xs L.hs G.W).1,hs:=(aW L.k.toNat L.xs L.hs G.W).2.1},
  {G with W:=(aW L.k.toNat L.xs L.hs G.W).2.2,nx:=if G.W.at_=3 then (if G.pass=[] then 9 else 8) else 7})
 else match G.pass with
  | []=>(L,G)
  | l::t=>
    ({L with ss:=Pu.aS L.ss (mH l 0).1 (mH l 0).2},
      if t=[] then eo {G with pass:=if 1<l.length then G.later++[l.drop 1] else G.later,later:=[]} else {G with pass:=t,later:=if 1<l.length then G.later++[l.drop 1] else G.later})
def lh (L:Lm) (G:Gr):Bool:=if G.nx=7 then iI L.xs L.hs G.W else true
def cp (L:Lm) (G:Gr):Bool:=
 if G.nx=2 then !decide (FM.bl ((2*G.el.1:Nat):Int)=true/\L.xs.length+2*G.el.1<=1048576) else if G.nx=7 then decide (G.W.at_=3/\G.pass=[]) else decide (9<=G.nx)
end Go.Proofs.YtpanebgakndddaaGreat.Gw
namespace Go.Proofs.YtpanebgakndddaaGreat.Gw
open Go Go.RowKit Hp K Fl Rw Hm Ar Mm Me Qs Wk Pn
set_option maxRecDepth 100000
section
variable {w w':World} {a:Gl} {C:Ch}
theorem PX (w:World):Calls Tryz.prog 206 #[] w fun e w'=>∃ c B,e=.returned (ptr c)/\af w' c 262 #[.int .u64 0,.int .u64 0,.int .u64 0,.int .u64 0,.int .i64 0,.map (some B),.slice none 0 0]/\iH w' B []/\
 w.heap.size<=B/\w.heap.size<=c/\Below w.heap.size w w':=by
 have vc:=@run_makeMap Tryz.prog
 go_enter Tryz.func206,Tryz.ntmps206
 go_wp2_with fail
 go_ret
 refine ⟨_,_,rfl,by simpa using af.made (w.alloc (.map #[] 0)) _ _,?_,Nat.le_refl _,by simp,((Below.refl _ _).alloc (Nat.le_refl _) _).alloc (by simp) _⟩
 exact (iH.made w).only ((ab.refl (fun _=>False) _).alloc _) (by simp)
theorem PY (h:dS w a C) {x:Nat} (hx:x<=18446744073709551615):Calls Tryz.prog 219 #[ptr a.c,.int .u64 x] w fun e w'=>e=.returned (.bool (decide (x∈C.met)))/\w=w':=by
 obtain ⟨z,hl⟩:=h.mt.look hx
 have c5:w.cell? ⟨a.c,5,none⟩=some (.map (some a.B)):=h.cb.cell 5
 generalize decide (x∈C.met)=b at*
 clear h
 go_enter Tryz.func219,Tryz.ntmps219
 go_wp2
 go_ret
 exact ⟨rfl,rfl⟩
def pP (w:World) (a:Gl) (C':Ch) (w':World):Prop:=∃ LA lcap,dS w' {a with LA:=LA,lcap:=lcap} C'/\(∀ b,In LA b->In a.LA b\/w.heap.size<=b)/\ab (fun x=>x=a.c\/x=a.B\/In a.LA x) w w'
theorem nt (h:af w a.c 262 (jJ a C)):w.cell? ⟨a.c,0,none⟩=some (.int .u64 C.fi.1)/\w.cell? ⟨a.c,1,none⟩=some (.int .u64 C.fi.2)/\w.cell? ⟨a.c,2,none⟩=some (.int .u64 C.la.1)/\w.cell? ⟨a.c,3,none⟩=some (.int .u64 C.la.2)/\
 w.cell? ⟨a.c,4,none⟩=some (.int .i64 C.half)/\w.cell? ⟨a.c,5,none⟩=some (.map (some a.B))/\w.cell? ⟨a.c,6,none⟩=some (.slice a.LA C.lk.length a.lcap):=
 ⟨h.cell 0,h.cell 1,h.cell 2,h.cell 3,h.cell 4,h.cell 5,h.cell 6⟩
theorem dS.oU (h:dS w a C):a.B≠a.c:=fun e=>h.mt.no (by rw [e]; exact bm h.cb)
theorem dS.nu (h:dS w a C) {b:Nat} (hb:In a.LA b):b≠a.c/\b≠a.B:=by
 refine ⟨fun e=>?_,fun e=>h.mt.no (by rw [<-e]; exact cw h.lr hb)⟩
 subst e
 exact (cw h.lr hb).apart (bm h.cb) (by decide)
theorem dS.nX {w1:World} {C1:Ch} {y:Nat} (h:dS w a C) (hb:af w1 a.c 262 (jJ a C1)) (ho:ab (·=a.c) w w1) (em:C1.met=y::C.met) (el:C1.lk=C.lk):∀ w2,iH w2 a.B (y::C.met)->ab (·=a.B) w1 w2->pP w a C1 w2:=by
 intro w2 hm qq
 refine ⟨a.LA,a.lcap,⟨h.cv,hb.only qq h.oU.symm,by rw [em]; exact hm,?_,h.ap⟩,fun b hb=>.inl hb,(ho.mono (fun x _ q=>.inl q)).trans' qq (fun x _ q=>.inr (.inl q))⟩
 rw [el]
 exact (h.lr.only ho (fun b hb=>(h.nu hb).1)).only qq (fun b hb=>(h.nu hb).2)
theorem dS.linked {w2 w3:World} {C1:Ch} {y:Nat} {A2:Option Addr} {cap2:Nat} (h:dS w a C) (aV:∀ e∈a.ps,∀ b,In e.A b->b<w.heap.size) (hR:qU w2 A2 cap2 C1.lk) (hO:ab (In a.LA) w w2) (hA:∀ b,In A2 b->In a.LA b\/w.heap.size<=b)
 (hb:af w3 a.c 262 (jJ {a with LA:=A2,lcap:=cap2} C1)) (ho:ab (·=a.c) w2 w3) (em:C1.met=y::C.met):∀ w4,iH w4 a.B (y::C.met)->ab (·=a.B) w3 w4->pP w a C1 w4:=by
 intro w4 hm Es
 have ev:=h.cb.only hO (fun q=>(h.nu q).1 rfl)
 have pg:=h.mt.only hO (fun q=>(h.nu q).2 rfl)
 have h1:∀ b,In A2 b->b≠a.c/\b≠a.B:=fun b hb=>⟨fun e=>(cw hR hb).apart (e▸bm ev:Ty w2 b [262]) (by decide),fun e=>pg.no (e▸cw hR hb:Ty w2 a.B [270])⟩
 refine ⟨A2,cap2,⟨h.cv,hb.only Es h.oU.symm,by rw [em]; exact hm,(hR.only ho (fun b hb=>(h1 b hb).1)).only Es (fun b hb=>(h1 b hb).2),fun e he b hb hx=>?_⟩,hA,?_⟩
 ·rcases hA b hb with q | q
  ·exact h.ap e he b q hx
  ·have:=aV e he b hx
   omega
 ·exact ((hO.mono (fun x _ q=>(.inr (.inr q):x=a.c\/x=a.B\/In a.LA x))).trans' ho (fun x _ q=>.inl q)).trans' Es (fun x _ q=>.inr (.inl q))
theorem pQ {c:Nat} (w:World) (i j k:Nat) (u v y:Value):ab (·=c) w (((w.setCell ⟨c,i,none⟩ u).setCell ⟨c,j,none⟩ v).setCell ⟨c,k,none⟩ y):=
 (((ab.refl (·=c) w).setCell (p:=⟨c,i,none⟩) (.inl rfl) _).setCell (p:=⟨c,j,none⟩) (.inl rfl) _).setCell (p:=⟨c,k,none⟩) (.inl rfl) _
theorem kG {c:Nat} (w:World) (i j:Nat) (u v:Value):ab (·=c) w ((w.setCell ⟨c,i,none⟩ u).setCell ⟨c,j,none⟩ v):=
 ((ab.refl (·=c) w).setCell (p:=⟨c,i,none⟩) (.inl rfl) _).setCell (p:=⟨c,j,none⟩) (.inl rfl) _
set_option maxHeartbeats 2000000 in
theorem PZ (h:dS w a C) {x:Nat} (hx:x<=18446744073709551615) (hm:C.met.length<=1000000) (h0:C.fi.1=0):Calls Tryz.prog 232 #[ptr a.c,.int .u64 x,.int .i64 0] w fun e w'=>e=.returned (.tuple #[])/\pP w a (C.add x 0) w':=by
 obtain ⟨k0,k1,k2,k3,k4,k5,k6⟩:=nt h.cb
 have z0:=h.cb.frozen 0
 have z2:=h.cb.frozen 2
 have z4:=h.cb.frozen 4
 have hO:=Lib.hid (fun u v y=>pQ (c:=a.c) w 0 2 4 u v y)
 have e:C.add x 0=⟨(x,C.fi.2),(x,C.la.2),0,x::C.met,C.lk⟩:=by
  unfold Ch.add cG put
  simp [h0]
 rw [e]
 have hE:=Lib.hid (h.nX (C1:=⟨(x,C.fi.2),(x,C.la.2),0,x::C.met,C.lk⟩) (y:=x) (((h.cb.store 0 (.int .u64 x)).store 2 (.int .u64 x)).store 4 (.int .i64 0)) (hO.out _ _ _) rfl rfl)
 rw [h0] at k0
 have ag:=Lib.hid h.oU
 have H:=Lib.hid h.mt
 clear h e
 go_enter Tryz.func232,Tryz.ntmps232
 go_wp2_with (at_mapUpdate
              refine uf (B:=a.B) (ms:=C.met) rfl (.tmp 57) (.tmp 58) (.tmp 59) rfl (H.out.only (hO.out _ _ _) ag.out) hm x hx 0 (by omega) rfl rfl rfl ?_
              intro w2 aI ae)
 go_end0
 exact ⟨rfl,hE.out w2 aI ae⟩
set_option maxHeartbeats 2000000 in
theorem P0 (h:dS w a C) {x:Nat} (hx:x<=18446744073709551615) (hm:C.met.length<=1000000) (h0:C.fi.1≠0) (hh:C.half=0):Calls Tryz.prog 232 #[ptr a.c,.int .u64 x,.int .i64 0] w fun e w'=>e=.returned (.tuple #[])/\pP w a (C.add x 0) w':=by
 obtain ⟨k0,k1,k2,k3,k4,k5,k6⟩:=nt h.cb
 have z2:=h.cb.frozen 2
 have z4:=h.cb.frozen 4
 have hO:=Lib.hid (fun u v=>kG (c:=a.c) w 2 4 u v)
 have e:C.add x 0=⟨C.fi,(x,C.la.2),0,x::C.met,C.lk⟩:=by
  unfold Ch.add cG put
  simp [h0,hh]
 rw [e]
 have hE:=Lib.hid (h.nX (C1:=⟨C.fi,(x,C.la.2),0,x::C.met,C.lk⟩) (y:=x) ((h.cb.store 2 (.int .u64 x)).store 4 (.int .i64 0)) (hO.out _ _) rfl rfl)
 rw [hh] at k4
 have q0:((C.fi.1:Int)==0)=false:=by simp; omega
 have ag:=Lib.hid h.oU
 have H:=Lib.hid h.mt
 clear h e hh h0
 generalize C.fi.1=fi0 at*
 go_enter Tryz.func232,Tryz.ntmps232
 go_wp2_with (at_mapUpdate
              refine uf (B:=a.B) (ms:=C.met) rfl (.tmp 57) (.tmp 58) (.tmp 59) rfl (H.out.only (hO.out _ _) ag.out) hm x hx 0 (by omega) rfl rfl rfl ?_
              intro w2 aI ae)
 go_end0
 exact ⟨rfl,hE.out w2 aI ae⟩
set_option maxHeartbeats 2000000 in
theorem P1 (h:dS w a C) {x:Nat} (hx:x<=18446744073709551615) (hm:C.met.length<=1000000) (h0:C.fi.1≠0) (hh:C.half=1) (hl:C.lk.length<=100000) (aV:∀ e∈a.ps,∀ b,In e.A b->b<w.heap.size):Calls Tryz.prog 232 #[ptr a.c,.int .u64 x,.int .i64 0] w fun e w'=>e=.returned (.tuple #[])/\pP w a (C.add x 0) w':=by
 obtain ⟨k0,k1,k2,k3,k4,k5,k6⟩:=nt h.cb
 have z2:=h.cb.frozen 2
 have z4:=h.cb.frozen 4
 have z6:=h.cb.frozen 6
 have e:C.add x 0=⟨C.fi,(x,C.la.2),0,x::C.met,C.lk++[(C.la.1,x)]⟩:=by
  unfold Ch.add cG put
  simp [h0,hh]
 rw [e]
 rw [hh] at k4
 have q0:((C.fi.1:Int)==0)=false:=by simp; omega
 have H:=Lib.hid h
 have lc:a.c<w.drew.heap.size:=h.cb.lt
 obtain ⟨i0,cq,cy,cL,cz⟩:=info_parts zx
 generalize bu:C.lk.length=n at*
 replace bu:=Lib.hid bu
 generalize bQ:C.la.1=l0 at*
 replace bQ:=Lib.hid bQ
 clear h e hh h0
 generalize C.fi.1=fi0 at*
 go_enter Tryz.func232,Tryz.ntmps232
 go_upto_region 3 with (fail)
 have r0:w.drew.cell? ⟨a.c,6,none⟩=some (.slice a.LA n a.lcap)/\w.drew.cell? ⟨a.c,2,none⟩=some (.int .u64 l0):=⟨k6,k2⟩
 refine wp_region_noPanic ?_
 refine Rn.sB (fun w'=>w'.cell? ⟨a.c,6,none⟩=some (.slice a.LA n a.lcap)/\w'.cell? ⟨a.c,2,none⟩=some (.int .u64 l0)) (fun j=>j==15) (by kernel_rfl) ?_
 refine Rn.aG (i:=0) (oi:=⟨some 27,_,_,_,_,_⟩) (v:=ptr a.c) (by rfl) (by kernel_rfl) (by kernel_rfl) (by kernel_rfl) rfl (fun _ _ _ h=>h.elim) (Or.inl ⟨by rfl,by intro w' _; go_simp⟩) r0 ?_
 try simp only [Act.put,List.setIfInBounds_toArray,List.set_cons_zero,List.set_cons_succ]
 refine Rn.aG (i:=1) (oi:=⟨some 28,_,_,_,_,_⟩) (v:=ptr a.c) (by rfl) (by kernel_rfl) (by kernel_rfl) (by kernel_rfl) rfl (fun _ _ _ h=>h.elim) (Or.inl ⟨by rfl,by intro w' _; go_simp⟩) r0 ?_
 try simp only [Act.put,List.setIfInBounds_toArray,List.set_cons_zero,List.set_cons_succ]
 refine Rn.aG (i:=2) (oi:=⟨some 29,_,_,_,_,_⟩) (v:=.pointer (some ⟨a.c,0,none⟩)) (by rfl) (by kernel_rfl) (by kernel_rfl) (by kernel_rfl) rfl (fun _ _ _ h=>h.elim) (Or.inl ⟨by rfl,by intro w' _; go_simp⟩) r0 ?_
 try simp only [Act.put,List.setIfInBounds_toArray,List.set_cons_zero,List.set_cons_succ]
 refine Rn.aG (i:=3) (oi:=⟨some 30,_,_,_,_,_⟩) (v:=.pointer (some ⟨a.c,6,none⟩)) (by rfl) (by kernel_rfl) (by kernel_rfl) (by kernel_rfl) rfl (fun _ _ _ h=>h.elim) (Or.inl ⟨by rfl,by intro w' _; go_simp⟩) r0 ?_
 try simp only [Act.put,List.setIfInBounds_toArray,List.set_cons_zero,List.set_cons_succ]
 refine Rn.fP (i:=4) (oi:=⟨some 31,_,_,_,_,_⟩) (v:=.slice a.LA n a.lcap) (by rfl) (by kernel_rfl) (by kernel_rfl) (by kernel_rfl) rfl (by intro j hj; rw [show j=15 from by simpa using hj]; kernel_rfl) (fun _ _ _ h=>h.elim) (Or.inl ⟨by rfl,by intro w' cZ; go_simp⟩) r0 ?_
 try simp only [Act.put,List.setIfInBounds_toArray,List.set_cons_zero,List.set_cons_succ]
 refine Rn.aG (i:=5) (oi:=⟨some 32,_,_,_,_,_⟩) (v:=ptr a.c) (by rfl) (by kernel_rfl) (by kernel_rfl) (by kernel_rfl) rfl (fun _ _ _ h=>h.elim) (Or.inl ⟨by rfl,by intro w' _; go_simp⟩) r0 ?_
 try simp only [Act.put,List.setIfInBounds_toArray,List.set_cons_zero,List.set_cons_succ]
 refine Rn.aG (i:=6) (oi:=⟨some 33,_,_,_,_,_⟩) (v:=.int .i64 0) (by rfl) (by kernel_rfl) (by kernel_rfl) (by kernel_rfl) rfl (fun _ _ _ h=>h.elim) (Or.inl ⟨by rfl,by intro w' _; go_simp⟩) r0 ?_
 try simp only [Act.put,List.setIfInBounds_toArray,List.set_cons_zero,List.set_cons_succ]
 refine Rn.aG (i:=7) (oi:=⟨some 34,_,_,_,_,_⟩) (v:=.pointer (some ⟨a.c,0,none⟩)) (by rfl) (by kernel_rfl) (by kernel_rfl) (by kernel_rfl) rfl (fun _ _ _ h=>h.elim) (Or.inl ⟨by rfl,by intro w' _; go_simp⟩) r0 ?_
 try simp only [Act.put,List.setIfInBounds_toArray,List.set_cons_zero,List.set_cons_succ]
 refine Rn.aG (i:=8) (oi:=⟨some 35,_,_,_,_,_⟩) (v:=.pointer (some ⟨a.c,2,none⟩)) (by rfl) (by kernel_rfl) (by kernel_rfl) (by kernel_rfl) rfl (fun _ _ _ h=>h.elim) (Or.inl ⟨by rfl,by intro w' _; go_simp⟩) r0 ?_
 try simp only [Act.put,List.setIfInBounds_toArray,List.set_cons_zero,List.set_cons_succ]
 refine Rn.aG (i:=9) (oi:=⟨some 36,_,_,_,_,_⟩) (v:=.pointer (some ⟨a.c,2,none⟩)) (by rfl) (by kernel_rfl) (by kernel_rfl) (by kernel_rfl) rfl (fun _ _ _ h=>h.elim) (Or.inl ⟨by rfl,by intro w' _; go_simp⟩) r0 ?_
 try simp only [Act.put,List.setIfInBounds_toArray,List.set_cons_zero,List.set_cons_succ]
 refine Rn.fP (i:=10) (oi:=⟨some 37,_,_,_,_,_⟩) (v:=.int .u64 l0) (by rfl) (by kernel_rfl) (by kernel_rfl) (by kernel_rfl) rfl (by intro j hj; rw [show j=15 from by simpa using hj]; kernel_rfl) (fun _ _ _ h=>h.elim) (Or.inl ⟨by rfl,by intro w' cZ; go_simp⟩) r0 ?_
 try simp only [Act.put,List.setIfInBounds_toArray,List.set_cons_zero,List.set_cons_succ]
 refine Rn.aG (i:=11) (oi:=⟨some 38,_,_,_,_,_⟩) (v:=.int .u64 x) (by rfl) (by kernel_rfl) (by kernel_rfl) (by kernel_rfl) rfl (fun _ _ _ h=>h.elim) (Or.inl ⟨by rfl,by intro w' _; go_simp⟩) r0 ?_
 try simp only [Act.put,List.setIfInBounds_toArray,List.set_cons_zero,List.set_cons_succ]
 refine Rn.aG (i:=12) (oi:=⟨some 39,_,_,_,_,_⟩) (v:=.agg #[.int .u64 l0,.int .u64 x]) (by rfl) (by kernel_rfl) (by kernel_rfl) (by kernel_rfl) rfl (fun _ _ _ h=>h.elim) (Or.inl ⟨by rfl,by intro w' _; go_simp⟩) r0 ?_
 try simp only [Act.put,List.setIfInBounds_toArray,List.set_cons_zero,List.set_cons_succ]
 refine Rn.lj (i:=13) (o:=⟨some 40,_,_,_,_,_⟩) (by kernel_rfl) (by rfl) rfl ?_
 intro K hK
 go_simp
 have r1:(w.drew.alloc (.cells #[.int .u64 l0,.int .u64 x] 270)).cell? ⟨a.c,6,none⟩=some (.slice a.LA n a.lcap)/\(w.drew.alloc (.cells #[.int .u64 l0,.int .u64 x] 270)).cell? ⟨a.c,2,none⟩=some (.int .u64 l0):=
  ⟨(ab.cell ((ab.refl (fun _=>False) w.drew).alloc _) (p:=⟨a.c,6,none⟩) lc (by simp)).trans k6,(ab.cell ((ab.refl (fun _=>False) w.drew).alloc _) (p:=⟨a.c,2,none⟩) lc (by simp)).trans k2⟩
 refine hK _ _ r1 ?_
 clear hK
 try simp only [Act.put,List.setIfInBounds_toArray,List.set_cons_zero,List.set_cons_succ]
 have gb:qU (w.drew.alloc (.cells #[.int .u64 l0,.int .u64 x] 270)) a.LA a.lcap C.lk:=H.out.lr.only (((ab.refl (fun _=>False) w).drew).alloc _) (by simp)
 have ki:=af.made w.drew 270 #[.int .u64 l0,.int .u64 x]
 obtain ⟨A2,cap2,w2,eX,bG,ae,bw⟩:=wF (P:=Tryz.prog) (w.drew.alloc (.cells #[.int .u64 l0,.int .u64 x] 270)) 260 260 270 i0 _ 2 16 Tryz.underlying260 cq cy cL cz rfl (by omega) jW uh
  (by intro x u hu; simp [jW] at hu; rcases hu with rfl | rfl<;>rfl) bu.out gb (l0,x) ⟨w.drew.heap.size,0,none⟩ 1 (by
    intro j u hu
    rw [Addr.add_lit,Nat.zero_add,ki.cell]
    simpa [jW] using hu) (by simp only [maxLen]; omega) (by omega)
 refine Rn.lj (i:=14) (o:=⟨some 41,_,_,_,_,_⟩) (by kernel_rfl) (by rfl) rfl ?_
 intro K hK
 refine wG rfl (.tmp 31) (.tmp 40) 260 rfl (.slice a.LA n a.lcap) (.slice (some ⟨w.drew.heap.size,0,none⟩) 1 1) rfl rfl eX ?_
 have ev:af w2 a.c 262 (jJ a C):=(H.out.cb.only (((ab.refl (fun _=>False) w).drew).alloc _) (by simp)).only ae (fun q=>(H.out.nu q).1 rfl)
 have p6:=ev.cell 6
 have p2:=ev.cell 2
 have p4:=ev.cell 4
 have p5:=ev.cell 5
 have fJ:jJ a C=#[.int .u64 C.fi.1,.int .u64 C.fi.2,.int .u64 C.la.1,.int .u64 C.la.2,.int .i64 C.half,.map (some a.B),.slice a.LA n a.lcap]:=by unfold jJ; rw [bu.out]
 rw [fJ] at p6 p2 p4 p5
 simp only [List.getElem?_toArray,List.getElem?_cons_succ,List.getElem?_cons_zero,bQ.out] at p6 p2 p4 p5
 refine hK _ _ ⟨p6,p2⟩ ?_
 clear hK
 try simp only [Act.put,List.setIfInBounds_toArray,List.set_cons_zero,List.set_cons_succ]
 refine Rn.wH 15 (by rfl) (by kernel_rfl) (by rfl) ?_
 dsimp only [List.drop]
 have tr:ab (In a.LA) w w2:=(((ab.refl (In a.LA) w).drew).alloc _).trans' ae (fun x _ q=>q)
 have y6:=ev.frozen 6
 have y2:=ev.frozen 2
 have y4:=ev.frozen 4
 have an:=Lib.hid (fun u v y=>pQ (c:=a.c) w2 6 2 4 u v y)
 have hE:=Lib.hid (H.out.linked (C1:=⟨C.fi,(x,C.la.2),0,x::C.met,C.lk++[(l0,x)]⟩) (y:=x) aV bG tr (fun b hb=>by
  rcases bw b hb with q | q
  ·exact .inl q
  ·refine .inr (Nat.le_trans ?_ q)
   simp) (by
  have hb:=((ev.store 6 (.slice A2 ((n+1:Nat)) cap2)).store 2 (.int .u64 x)).store 4 (.int .i64 0)
  rw [fJ] at hb
  simp only [jJ,List.length_append,List.length_singleton,bu.out]
  exact hb) (an.out _ _ _) rfl)
 have pg:=Lib.hid (H.out.mt.only tr (fun q=>(H.out.nu q).2 rfl))
 have ag:=Lib.hid H.out.oU
 clear k0 k1 k2 k3 k4 k5 k6 z2 z4 z6 r0 r1 gb ki eX bG ae bw fJ tr ev aV
 go_wp2_with fail
 refine NoPanic.normal ?_
 go_wp2_with (at_mapUpdate
              refine uf (B:=a.B) (ms:=C.met) rfl (.tmp 57) (.tmp 58) (.tmp 59) rfl (pg.out.only (an.out _ _ _) ag.out) hm x hx 0 (by omega) rfl rfl rfl ?_
              intro w5 ia bN)
 go_end0
 exact ⟨rfl,hE.out w5 ia bN⟩
set_option maxHeartbeats 2000000 in
theorem P3 (h:dS w a C) {x:Nat} (hx:x<=18446744073709551615) (hm:C.met.length<=1000000) (h0:C.fi.2=0):Calls Tryz.prog 232 #[ptr a.c,.int .u64 x,.int .i64 1] w fun e w'=>e=.returned (.tuple #[])/\pP w a (C.add x 1) w':=by
 obtain ⟨k0,k1,k2,k3,k4,k5,k6⟩:=nt h.cb
 have z0:=h.cb.frozen 1
 have z2:=h.cb.frozen 3
 have z4:=h.cb.frozen 4
 have hO:=Lib.hid (fun u v y=>pQ (c:=a.c) w 1 3 4 u v y)
 have e:C.add x 1=⟨(C.fi.1,x),(C.la.1,x),1,x::C.met,C.lk⟩:=by
  unfold Ch.add cG put
  simp [h0]
 rw [e]
 have hE:=Lib.hid (h.nX (C1:=⟨(C.fi.1,x),(C.la.1,x),1,x::C.met,C.lk⟩) (y:=x) (((h.cb.store 1 (.int .u64 x)).store 3 (.int .u64 x)).store 4 (.int .i64 1)) (hO.out _ _ _) rfl rfl)
 rw [h0] at k1
 have ag:=Lib.hid h.oU
 have H:=Lib.hid h.mt
 clear h e
 go_enter Tryz.func232,Tryz.ntmps232
 go_wp2_with (at_mapUpdate
              refine uf (B:=a.B) (ms:=C.met) rfl (.tmp 57) (.tmp 58) (.tmp 59) rfl (H.out.only (hO.out _ _ _) ag.out) hm x hx 1 (by omega) rfl rfl rfl ?_
              intro w2 aI ae)
 go_end0
 exact ⟨rfl,hE.out w2 aI ae⟩
set_option maxHeartbeats 2000000 in
theorem P4 (h:dS w a C) {x:Nat} (hx:x<=18446744073709551615) (hm:C.met.length<=1000000) (h0:C.fi.2≠0) (hh:C.half=1):Calls Tryz.prog 232 #[ptr a.c,.int .u64 x,.int .i64 1] w fun e w'=>e=.returned (.tuple #[])/\pP w a (C.add x 1) w':=by
 obtain ⟨k0,k1,k2,k3,k4,k5,k6⟩:=nt h.cb
 have z2:=h.cb.frozen 3
 have z4:=h.cb.frozen 4
 have hO:=Lib.hid (fun u v=>kG (c:=a.c) w 3 4 u v)
 have e:C.add x 1=⟨C.fi,(C.la.1,x),1,x::C.met,C.lk⟩:=by
  unfold Ch.add cG put
  simp [h0,hh]
 rw [e]
 have hE:=Lib.hid (h.nX (C1:=⟨C.fi,(C.la.1,x),1,x::C.met,C.lk⟩) (y:=x) ((h.cb.store 3 (.int .u64 x)).store 4 (.int .i64 1)) (hO.out _ _) rfl rfl)
 rw [hh] at k4
 have q0:((C.fi.2:Int)==0)=false:=by simp; omega
 have ag:=Lib.hid h.oU
 have H:=Lib.hid h.mt
 clear h e hh h0
 generalize C.fi.2=fi0 at*
 go_enter Tryz.func232,Tryz.ntmps232
 go_wp2_with (at_mapUpdate
              refine uf (B:=a.B) (ms:=C.met) rfl (.tmp 57) (.tmp 58) (.tmp 59) rfl (H.out.only (hO.out _ _) ag.out) hm x hx 1 (by omega) rfl rfl rfl ?_
              intro w2 aI ae)
 go_end0
 exact ⟨rfl,hE.out w2 aI ae⟩
set_option maxHeartbeats 2000000 in
theorem P5 (h:dS w a C) {x:Nat} (hx:x<=18446744073709551615) (hm:C.met.length<=1000000) (h0:C.fi.2≠0) (hh:C.half=0) (hl:C.lk.length<=100000) (aV:∀ e∈a.ps,∀ b,In e.A b->b<w.heap.size):Calls Tryz.prog 232 #[ptr a.c,.int .u64 x,.int .i64 1] w fun e w'=>e=.returned (.tuple #[])/\pP w a (C.add x 1) w':=by
 obtain ⟨k0,k1,k2,k3,k4,k5,k6⟩:=nt h.cb
 have z2:=h.cb.frozen 3
 have z4:=h.cb.frozen 4
 have z6:=h.cb.frozen 6
 have e:C.add x 1=⟨C.fi,(C.la.1,x),1,x::C.met,C.lk++[(C.la.2,x)]⟩:=by
  unfold Ch.add cG put
  simp [h0,hh]
 rw [e]
 rw [hh] at k4
 have q0:((C.fi.2:Int)==0)=false:=by simp; omega
 have H:=Lib.hid h
 have lc:a.c<w.drew.heap.size:=h.cb.lt
 obtain ⟨i0,cq,cy,cL,cz⟩:=info_parts zx
 generalize bu:C.lk.length=n at*
 replace bu:=Lib.hid bu
 generalize bQ:C.la.2=l0 at*
 replace bQ:=Lib.hid bQ
 clear h e hh h0
 generalize C.fi.2=fi0 at*
 go_enter Tryz.func232,Tryz.ntmps232
 go_upto_region 3 with (fail)
 have r0:w.drew.cell? ⟨a.c,6,none⟩=some (.slice a.LA n a.lcap)/\w.drew.cell? ⟨a.c,3,none⟩=some (.int .u64 l0):=⟨k6,k3⟩
 refine wp_region_noPanic ?_
 refine Rn.sB (fun w'=>w'.cell? ⟨a.c,6,none⟩=some (.slice a.LA n a.lcap)/\w'.cell? ⟨a.c,3,none⟩=some (.int .u64 l0)) (fun j=>j==15) (by kernel_rfl) ?_
 refine Rn.aG (i:=0) (oi:=⟨some 27,_,_,_,_,_⟩) (v:=ptr a.c) (by rfl) (by kernel_rfl) (by kernel_rfl) (by kernel_rfl) rfl (fun _ _ _ h=>h.elim) (Or.inl ⟨by rfl,by intro w' _; go_simp⟩) r0 ?_
 try simp only [Act.put,List.setIfInBounds_toArray,List.set_cons_zero,List.set_cons_succ]
 refine Rn.aG (i:=1) (oi:=⟨some 28,_,_,_,_,_⟩) (v:=ptr a.c) (by rfl) (by kernel_rfl) (by kernel_rfl) (by kernel_rfl) rfl (fun _ _ _ h=>h.elim) (Or.inl ⟨by rfl,by intro w' _; go_simp⟩) r0 ?_
 try simp only [Act.put,List.setIfInBounds_toArray,List.set_cons_zero,List.set_cons_succ]
 refine Rn.aG (i:=2) (oi:=⟨some 29,_,_,_,_,_⟩) (v:=.pointer (some ⟨a.c,0,none⟩)) (by rfl) (by kernel_rfl) (by kernel_rfl) (by kernel_rfl) rfl (fun _ _ _ h=>h.elim) (Or.inl ⟨by rfl,by intro w' _; go_simp⟩) r0 ?_
 try simp only [Act.put,List.setIfInBounds_toArray,List.set_cons_zero,List.set_cons_succ]
 refine Rn.aG (i:=3) (oi:=⟨some 30,_,_,_,_,_⟩) (v:=.pointer (some ⟨a.c,6,none⟩)) (by rfl) (by kernel_rfl) (by kernel_rfl) (by kernel_rfl) rfl (fun _ _ _ h=>h.elim) (Or.inl ⟨by rfl,by intro w' _; go_simp⟩) r0 ?_
 try simp only [Act.put,List.setIfInBounds_toArray,List.set_cons_zero,List.set_cons_succ]
 refine Rn.fP (i:=4) (oi:=⟨some 31,_,_,_,_,_⟩) (v:=.slice a.LA n a.lcap) (by rfl) (by kernel_rfl) (by kernel_rfl) (by kernel_rfl) rfl (by intro j hj; rw [show j=15 from by simpa using hj]; kernel_rfl) (fun _ _ _ h=>h.elim) (Or.inl ⟨by rfl,by intro w' cZ; go_simp⟩) r0 ?_
 try simp only [Act.put,List.setIfInBounds_toArray,List.set_cons_zero,List.set_cons_succ]
 refine Rn.aG (i:=5) (oi:=⟨some 32,_,_,_,_,_⟩) (v:=ptr a.c) (by rfl) (by kernel_rfl) (by kernel_rfl) (by kernel_rfl) rfl (fun _ _ _ h=>h.elim) (Or.inl ⟨by rfl,by intro w' _; go_simp⟩) r0 ?_
 try simp only [Act.put,List.setIfInBounds_toArray,List.set_cons_zero,List.set_cons_succ]
 refine Rn.aG (i:=6) (oi:=⟨some 33,_,_,_,_,_⟩) (v:=.int .i64 1) (by rfl) (by kernel_rfl) (by kernel_rfl) (by kernel_rfl) rfl (fun _ _ _ h=>h.elim) (Or.inl ⟨by rfl,by intro w' _; go_simp⟩) r0 ?_
 try simp only [Act.put,List.setIfInBounds_toArray,List.set_cons_zero,List.set_cons_succ]
 refine Rn.aG (i:=7) (oi:=⟨some 34,_,_,_,_,_⟩) (v:=.pointer (some ⟨a.c,0,none⟩)) (by rfl) (by kernel_rfl) (by kernel_rfl) (by kernel_rfl) rfl (fun _ _ _ h=>h.elim) (Or.inl ⟨by rfl,by intro w' _; go_simp⟩) r0 ?_
 try simp only [Act.put,List.setIfInBounds_toArray,List.set_cons_zero,List.set_cons_succ]
 refine Rn.aG (i:=8) (oi:=⟨some 35,_,_,_,_,_⟩) (v:=.pointer (some ⟨a.c,2,none⟩)) (by rfl) (by kernel_rfl) (by kernel_rfl) (by kernel_rfl) rfl (fun _ _ _ h=>h.elim) (Or.inl ⟨by rfl,by intro w' _; go_simp⟩) r0 ?_
 try simp only [Act.put,List.setIfInBounds_toArray,List.set_cons_zero,List.set_cons_succ]
 refine Rn.aG (i:=9) (oi:=⟨some 36,_,_,_,_,_⟩) (v:=.pointer (some ⟨a.c,3,none⟩)) (by rfl) (by kernel_rfl) (by kernel_rfl) (by kernel_rfl) rfl (fun _ _ _ h=>h.elim) (Or.inl ⟨by rfl,by intro w' _; go_simp⟩) r0 ?_
 try simp only [Act.put,List.setIfInBounds_toArray,List.set_cons_zero,List.set_cons_succ]
 refine Rn.fP (i:=10) (oi:=⟨some 37,_,_,_,_,_⟩) (v:=.int .u64 l0) (by rfl) (by kernel_rfl) (by kernel_rfl) (by kernel_rfl) rfl (by intro j hj; rw [show j=15 from by simpa using hj]; kernel_rfl) (fun _ _ _ h=>h.elim) (Or.inl ⟨by rfl,by intro w' cZ; go_simp⟩) r0 ?_
 try simp only [Act.put,List.setIfInBounds_toArray,List.set_cons_zero,List.set_cons_succ]
 refine Rn.aG (i:=11) (oi:=⟨some 38,_,_,_,_,_⟩) (v:=.int .u64 x) (by rfl) (by kernel_rfl) (by kernel_rfl) (by kernel_rfl) rfl (fun _ _ _ h=>h.elim) (Or.inl ⟨by rfl,by intro w' _; go_simp⟩) r0 ?_
 try simp only [Act.put,List.setIfInBounds_toArray,List.set_cons_zero,List.set_cons_succ]
 refine Rn.aG (i:=12) (oi:=⟨some 39,_,_,_,_,_⟩) (v:=.agg #[.int .u64 l0,.int .u64 x]) (by rfl) (by kernel_rfl) (by kernel_rfl) (by kernel_rfl) rfl (fun _ _ _ h=>h.elim) (Or.inl ⟨by rfl,by intro w' _; go_simp⟩) r0 ?_
 try simp only [Act.put,List.setIfInBounds_toArray,List.set_cons_zero,List.set_cons_succ]
 refine Rn.lj (i:=13) (o:=⟨some 40,_,_,_,_,_⟩) (by kernel_rfl) (by rfl) rfl ?_
 intro K hK
 go_simp
 have r1:(w.drew.alloc (.cells #[.int .u64 l0,.int .u64 x] 270)).cell? ⟨a.c,6,none⟩=some (.slice a.LA n a.lcap)/\(w.drew.alloc (.cells #[.int .u64 l0,.int .u64 x] 270)).cell? ⟨a.c,3,none⟩=some (.int .u64 l0):=
  ⟨(ab.cell ((ab.refl (fun _=>False) w.drew).alloc _) (p:=⟨a.c,6,none⟩) lc (by simp)).trans k6,(ab.cell ((ab.refl (fun _=>False) w.drew).alloc _) (p:=⟨a.c,3,none⟩) lc (by simp)).trans k3⟩
 refine hK _ _ r1 ?_
 clear hK
 try simp only [Act.put,List.setIfInBounds_toArray,List.set_cons_zero,List.set_cons_succ]
 have gb:qU (w.drew.alloc (.cells #[.int .u64 l0,.int .u64 x] 270)) a.LA a.lcap C.lk:=H.out.lr.only (((ab.refl (fun _=>False) w).drew).alloc _) (by simp)
 have ki:=af.made w.drew 270 #[.int .u64 l0,.int .u64 x]
 obtain ⟨A2,cap2,w2,eX,bG,ae,bw⟩:=wF (P:=Tryz.prog) (w.drew.alloc (.cells #[.int .u64 l0,.int .u64 x] 270)) 260 260 270 i0 _ 2 16 Tryz.underlying260 cq cy cL cz rfl (by omega) jW uh
  (by intro x u hu; simp [jW] at hu; rcases hu with rfl | rfl<;>rfl) bu.out gb (l0,x) ⟨w.drew.heap.size,0,none⟩ 1 (by
    intro j u hu
    rw [Addr.add_lit,Nat.zero_add,ki.cell]
    simpa [jW] using hu) (by simp only [maxLen]; omega) (by omega)
 refine Rn.lj (i:=14) (o:=⟨some 41,_,_,_,_,_⟩) (by kernel_rfl) (by rfl) rfl ?_
 intro K hK
 refine wG rfl (.tmp 31) (.tmp 40) 260 rfl (.slice a.LA n a.lcap) (.slice (some ⟨w.drew.heap.size,0,none⟩) 1 1) rfl rfl eX ?_
 have ev:af w2 a.c 262 (jJ a C):=(H.out.cb.only (((ab.refl (fun _=>False) w).drew).alloc _) (by simp)).only ae (fun q=>(H.out.nu q).1 rfl)
 have p6:=ev.cell 6
 have p3:=ev.cell 3
 have p4:=ev.cell 4
 have p5:=ev.cell 5
 have fJ:jJ a C=#[.int .u64 C.fi.1,.int .u64 C.fi.2,.int .u64 C.la.1,.int .u64 C.la.2,.int .i64 C.half,.map (some a.B),.slice a.LA n a.lcap]:=by unfold jJ; rw [bu.out]
 rw [fJ] at p6 p3 p4 p5
 simp only [List.getElem?_toArray,List.getElem?_cons_succ,List.getElem?_cons_zero,bQ.out] at p6 p3 p4 p5
 refine hK _ _ ⟨p6,p3⟩ ?_
 clear hK
 try simp only [Act.put,List.setIfInBounds_toArray,List.set_cons_zero,List.set_cons_succ]
 refine Rn.wH 15 (by rfl) (by kernel_rfl) (by rfl) ?_
 dsimp only [List.drop]
 have tr:ab (In a.LA) w w2:=(((ab.refl (In a.LA) w).drew).alloc _).trans' ae (fun x _ q=>q)
 have y6:=ev.frozen 6
 have y3:=ev.frozen 3
 have y4:=ev.frozen 4
 have an:=Lib.hid (fun u v y=>pQ (c:=a.c) w2 6 3 4 u v y)
 have hE:=Lib.hid (H.out.linked (C1:=⟨C.fi,(C.la.1,x),1,x::C.met,C.lk++[(l0,x)]⟩) (y:=x) aV bG tr (fun b hb=>by
  rcases bw b hb with q | q
  ·exact .inl q
  ·refine .inr (Nat.le_trans ?_ q)
   simp) (by
  have hb:=((ev.store 6 (.slice A2 ((n+1:Nat)) cap2)).store 3 (.int .u64 x)).store 4 (.int .i64 1)
  rw [fJ] at hb
  simp only [jJ,List.length_append,List.length_singleton,bu.out]
  exact hb) (an.out _ _ _) rfl)
 have pg:=Lib.hid (H.out.mt.only tr (fun q=>(H.out.nu q).2 rfl))
 have ag:=Lib.hid H.out.oU
 clear k0 k1 k2 k3 k4 k5 k6 z2 z4 z6 r0 r1 gb ki eX bG ae bw fJ tr ev aV
 go_wp2_with fail
 refine NoPanic.normal ?_
 go_wp2_with (at_mapUpdate
              refine uf (B:=a.B) (ms:=C.met) rfl (.tmp 57) (.tmp 58) (.tmp 59) rfl (pg.out.only (an.out _ _ _) ag.out) hm x hx 1 (by omega) rfl rfl rfl ?_
              intro w5 ia bN)
 go_end0
 exact ⟨rfl,hE.out w5 ia bN⟩
end
end Go.Proofs.YtpanebgakndddaaGreat.Gw
namespace Go.Proofs.YtpanebgakndddaaGreat.Gw
open Go Go.RowKit Hp K Fl Rw Hm Ar Mm Me Qs Wk Pn
set_option maxRecDepth 100000
section
variable {w w':World} {a:Gl} {C:Ch}
def oV (w:World) (a:Gl) (C:Ch) (l:List (Nat×Nat)) (e:Ending) (w':World):Prop:=
 ∃ A2 cap2,e=.returned (.slice A2 l.length cap2)/\qU w' A2 cap2 l/\(∀ b,In A2 b->In a.LA b\/w.heap.size<=b)/\nr w' a.c C.fi/\ab (fun x=>x=a.c\/In a.LA x) w w'
theorem dS.fst (h:dS w a C):nr w a.c C.fi:=⟨_,h.cb,rfl,rfl⟩
set_option maxHeartbeats 2000000 in
theorem P6 (h:dS w a C) (h0:0∉C.met) (hh:C.half=0) (hl:C.la.2=0):Calls Tryz.prog 230 #[ptr a.c,.int .u64 0] w (oV w a C C.cK):=by
 have e:C.cK=C.lk:=by unfold Ch.cK cG; simp [hh,hl]
 rw [e]
 obtain ⟨k0,k1,k2,k3,k4,k5,k6⟩:=nt h.cb
 rw [hh] at k4
 rw [hl] at k3
 have hL:=fun n=>(h.mt.only ((ab.refl (fun _=>False) w).drewN n) (by simp)).look (x:=0) (by omega)
 replace hL:Hid (∀ n,∃ c:Int,(Instr.lookup 258 (.map (some a.B)) (.int .u64 0) true).run Tryz.prog (w.drewN n)=.ok (.tuple #[.int .i64 c,.bool (decide (0∈C.met))]) (w.drewN n)):=Lib.hid hL
 have hE:=Lib.hid (fun n=>show oV w a C C.lk (.returned (.slice a.LA C.lk.length a.lcap)) (w.drewN n) from ⟨a.LA,a.lcap,rfl,h.lr.only ((ab.refl (fun _=>False) w).drewN n) (by simp),fun b hb=>.inl hb,by
  obtain ⟨cs,h1,h2⟩:=h.fst
  exact ⟨cs,h1.only ((ab.refl (fun _=>False) w).drewN n) (by simp),h2⟩,(ab.refl _ w).drewN n⟩)
 rw [show decide (0∈C.met)=false by simpa using h0] at hL
 clear h h0 e
 go_enter Tryz.func230,Tryz.ntmps230
 go_wp2_with fail
 go_quiet (fail)
 obtain ⟨z,b9⟩:=hL.out nq
 go_wp2_with fail
 go_ret
 exact hE.out _
set_option maxHeartbeats 2000000 in
theorem P7 (h:dS w a C) (h0:0∉C.met) (hh:C.half=1) (hl:C.la.1=0):Calls Tryz.prog 230 #[ptr a.c,.int .u64 0] w (oV w a C C.cK):=by
 have e:C.cK=C.lk:=by unfold Ch.cK cG; simp [hh,hl]
 rw [e]
 obtain ⟨k0,k1,k2,k3,k4,k5,k6⟩:=nt h.cb
 rw [hh] at k4
 rw [hl] at k2
 have hL:=fun n=>(h.mt.only ((ab.refl (fun _=>False) w).drewN n) (by simp)).look (x:=0) (by omega)
 replace hL:Hid (∀ n,∃ c:Int,(Instr.lookup 258 (.map (some a.B)) (.int .u64 0) true).run Tryz.prog (w.drewN n)=.ok (.tuple #[.int .i64 c,.bool (decide (0∈C.met))]) (w.drewN n)):=Lib.hid hL
 have hE:=Lib.hid (fun n=>show oV w a C C.lk (.returned (.slice a.LA C.lk.length a.lcap)) (w.drewN n) from ⟨a.LA,a.lcap,rfl,h.lr.only ((ab.refl (fun _=>False) w).drewN n) (by simp),fun b hb=>.inl hb,by
  obtain ⟨cs,h1,h2⟩:=h.fst
  exact ⟨cs,h1.only ((ab.refl (fun _=>False) w).drewN n) (by simp),h2⟩,(ab.refl _ w).drewN n⟩)
 rw [show decide (0∈C.met)=false by simpa using h0] at hL
 clear h h0 e
 go_enter Tryz.func230,Tryz.ntmps230
 go_wp2_with fail
 go_quiet (fail)
 obtain ⟨z,b9⟩:=hL.out nq
 go_wp2_with fail
 go_ret
 exact hE.out _
set_option maxHeartbeats 2000000 in
theorem P8 (h:dS w a C) (h0:0∉C.met) (hh:C.half=0) (hl:C.la.2≠0) (hn:C.lk.length<=100000):Calls Tryz.prog 230 #[ptr a.c,.int .u64 0] w (oV w a C C.cK):=by
 have e:C.cK=C.lk++[(C.la.2,0)]:=by unfold Ch.cK cG; simp [hh,hl]
 rw [e]
 obtain ⟨k0,k1,k2,k3,k4,k5,k6⟩:=nt h.cb
 rw [hh] at k4
 have q0:((C.la.2:Int) != 0)=true:=by simp; omega
 obtain ⟨i0,cq,cy,cL,cz⟩:=info_parts zx
 generalize bu:C.lk.length=n at*
 replace bu:=Lib.hid bu
 have H:=Lib.hid h
 have H0:=Lib.hid h0
 have z6:=h.cb.frozen 6
 clear h h0 e hl hh
 generalize bQ:C.la.2=l0 at*
 replace bQ:=Lib.hid bQ
 go_enter Tryz.func230,Tryz.ntmps230
 go_wp2_with fail
 go_quiet (fail)
 have H1:dS (w.drewN nq) a C:=H.out.only ((ab.refl (fun _=>False) w).drewN nq) (by simp) (by simp) (by simp)
 have ax:=Lib.hid ((ab.refl (fun x=>x=a.c\/In a.LA x) w).drewN nq)
 have cA:(w.drewN nq).heap.size=w.heap.size:=rfl
 replace cA:=Lib.hid cA
 replace H1:=Lib.hid H1
 clear k0 k1 k2 k3 k4 k5 k6 z6
 generalize w.drewN nq=w1 at*
 obtain ⟨k0,k1,k2,k3,k4,k5,k6⟩:=nt H1.out.cb
 rw [bu.out] at k6
 have z6:=H1.out.cb.frozen 6
 go_wp2_with (at_builtin
              refine kx w1 rfl (.tmp 24) (.tmp 27) 260 rfl 270 i0 _ 2 16 Tryz.underlying260 cq cy cL cz rfl (by omega) jW uh (by intro x u hu; simp [jW] at hu; rcases hu with rfl | rfl<;>rfl)
               a.LA a.lcap n C.lk bu.out (l0,0) #[.int .u64 l0,.int .u64 0] rfl rfl H1.out.lr rfl (by simp only [maxLen]; omega) (by omega) ?_
              intro A2 cap2 w2 bG ae bw
              have ag:=H1.out.cb.only ae (fun q=>(H1.out.nu q).1 rfl)
              have p6:=ag.cell 6
              have p5:=ag.cell 5
              have y6:=ag.frozen 6
              simp only [jJ,List.getElem?_toArray,List.getElem?_cons_succ,List.getElem?_cons_zero] at p5 p6
              obtain ⟨z,b9⟩:=((H1.out.mt.only ae (fun q=>(H1.out.nu q).2 rfl)).only ((ab.refl (·=a.c) w2).setCell (p:=⟨a.c,6,none⟩) (.inl rfl) (.slice A2 (n+1:Nat) cap2)) H1.out.oU).look (x:=0) (by omega)
              rw [show decide (0∈C.met)=false by simpa using H0.out] at b9
              replace b9:(Instr.lookup 258 (.map (some a.B)) (.int .u64 0) true).run Tryz.prog (w2.setCell ⟨a.c,6,none⟩ (.slice A2 (n+1) cap2))=.ok (.tuple #[.int .i64 z,.bool false]) (w2.setCell ⟨a.c,6,none⟩ (.slice A2 (n+1) cap2)):=b9
              replace bG:=Lib.hid bG
              replace ae:=Lib.hid ae
              replace bw:=Lib.hid bw
              replace ag:=Lib.hid ag)
 go_ret
 have qc:=(ab.refl (·=a.c) w2).setCell (p:=⟨a.c,6,none⟩) (.inl rfl) (.slice A2 (n+1) cap2)
 refine ⟨A2,cap2,by simp [bu.out],bG.out.only qc (fun b hb e=>(cw bG.out hb).apart (e▸bm ag.out:Ty w2 b [262]) (by decide)),fun b hb=>?_,⟨_,ag.out.store 6 (.slice A2 (n+1) cap2),by simp [jJ],by simp [jJ]⟩,?_⟩
 ·have:=bw.out b hb
  rw [cA.out] at this
  exact this
 ·exact (ax.out.trans' ae.out (fun x _ q=>.inr q)).trans' qc (fun x _ q=>.inl q)
set_option maxHeartbeats 2000000 in
theorem P9 (h:dS w a C) (h0:0∉C.met) (hh:C.half=1) (hl:C.la.1≠0) (hn:C.lk.length<=100000):Calls Tryz.prog 230 #[ptr a.c,.int .u64 0] w (oV w a C C.cK):=by
 have e:C.cK=C.lk++[(C.la.1,0)]:=by unfold Ch.cK cG; simp [hh,hl]
 rw [e]
 obtain ⟨k0,k1,k2,k3,k4,k5,k6⟩:=nt h.cb
 rw [hh] at k4
 have q0:((C.la.1:Int) != 0)=true:=by simp; omega
 obtain ⟨i0,cq,cy,cL,cz⟩:=info_parts zx
 generalize bu:C.lk.length=n at*
 replace bu:=Lib.hid bu
 have H:=Lib.hid h
 have H0:=Lib.hid h0
 have z6:=h.cb.frozen 6
 clear h h0 e hl hh
 generalize bQ:C.la.1=l0 at*
 replace bQ:=Lib.hid bQ
 go_enter Tryz.func230,Tryz.ntmps230
 go_wp2_with fail
 go_quiet (fail)
 have H1:dS (w.drewN nq) a C:=H.out.only ((ab.refl (fun _=>False) w).drewN nq) (by simp) (by simp) (by simp)
 have ax:=Lib.hid ((ab.refl (fun x=>x=a.c\/In a.LA x) w).drewN nq)
 have cA:(w.drewN nq).heap.size=w.heap.size:=rfl
 replace cA:=Lib.hid cA
 replace H1:=Lib.hid H1
 clear k0 k1 k2 k3 k4 k5 k6 z6
 generalize w.drewN nq=w1 at*
 obtain ⟨k0,k1,k2,k3,k4,k5,k6⟩:=nt H1.out.cb
 rw [bu.out] at k6
 have z6:=H1.out.cb.frozen 6
 go_wp2_with (at_builtin
              refine kx w1 rfl (.tmp 24) (.tmp 27) 260 rfl 270 i0 _ 2 16 Tryz.underlying260 cq cy cL cz rfl (by omega) jW uh (by intro x u hu; simp [jW] at hu; rcases hu with rfl | rfl<;>rfl)
               a.LA a.lcap n C.lk bu.out (l0,0) #[.int .u64 l0,.int .u64 0] rfl rfl H1.out.lr rfl (by simp only [maxLen]; omega) (by omega) ?_
              intro A2 cap2 w2 bG ae bw
              have ag:=H1.out.cb.only ae (fun q=>(H1.out.nu q).1 rfl)
              have p6:=ag.cell 6
              have p5:=ag.cell 5
              have y6:=ag.frozen 6
              simp only [jJ,List.getElem?_toArray,List.getElem?_cons_succ,List.getElem?_cons_zero] at p5 p6
              obtain ⟨z,b9⟩:=((H1.out.mt.only ae (fun q=>(H1.out.nu q).2 rfl)).only ((ab.refl (·=a.c) w2).setCell (p:=⟨a.c,6,none⟩) (.inl rfl) (.slice A2 (n+1:Nat) cap2)) H1.out.oU).look (x:=0) (by omega)
              rw [show decide (0∈C.met)=false by simpa using H0.out] at b9
              replace b9:(Instr.lookup 258 (.map (some a.B)) (.int .u64 0) true).run Tryz.prog (w2.setCell ⟨a.c,6,none⟩ (.slice A2 (n+1) cap2))=.ok (.tuple #[.int .i64 z,.bool false]) (w2.setCell ⟨a.c,6,none⟩ (.slice A2 (n+1) cap2)):=b9
              replace bG:=Lib.hid bG
              replace ae:=Lib.hid ae
              replace bw:=Lib.hid bw
              replace ag:=Lib.hid ag)
 go_ret
 have qc:=(ab.refl (·=a.c) w2).setCell (p:=⟨a.c,6,none⟩) (.inl rfl) (.slice A2 (n+1) cap2)
 refine ⟨A2,cap2,by simp [bu.out],bG.out.only qc (fun b hb e=>(cw bG.out hb).apart (e▸bm ag.out:Ty w2 b [262]) (by decide)),fun b hb=>?_,⟨_,ag.out.store 6 (.slice A2 (n+1) cap2),by simp [jJ],by simp [jJ]⟩,?_⟩
 ·have:=bw.out b hb
  rw [cA.out] at this
  exact this
 ·exact (ax.out.trans' ae.out (fun x _ q=>.inr q)).trans' qc (fun x _ q=>.inl q)
theorem nY (h:dS w a C) (h0:0∉C.met) (hh:C.half<=1) (hn:C.lk.length<=100000):Calls Tryz.prog 230 #[ptr a.c,.int .u64 0] w (oV w a C C.cK):=by
 have:C.half=0\/C.half=1:=by omega
 rcases this with q | q
 ·by_cases hl:C.la.2=0
  ·exact P6 h h0 q hl
  ·exact P8 h h0 q hl hn
 ·by_cases hl:C.la.1=0
  ·exact P7 h h0 q hl
  ·exact P9 h h0 q hl hn
theorem Qb (h:dS w a C) {x y:Nat} (hx:x<=18446744073709551615) (hm:C.met.length<=1000000) (hy:y<=1) (hh:C.half<=1) (hl:C.lk.length<=100000) (aV:∀ e∈a.ps,∀ b,In e.A b->b<w.heap.size):
 Calls Tryz.prog 232 #[ptr a.c,.int .u64 x,.int .i64 y] w fun e w'=>e=.returned (.tuple #[])/\pP w a (C.add x y) w':=by
 have:C.half=0\/C.half=1:=by omega
 have mU:y=0\/y=1:=by omega
 rcases mU with rfl | rfl
 ·by_cases h0:C.fi.1=0
  ·exact PZ h hx hm h0
  ·rcases this with q | q
   ·exact P0 h hx hm h0 q
   ·exact P1 h hx hm h0 q hl aV
 ·by_cases h0:C.fi.2=0
  ·exact P3 h hx hm h0
  ·rcases this with q | q
   ·exact P5 h hx hm h0 q hl aV
   ·exact P4 h hx hm h0 q
end
end Go.Proofs.YtpanebgakndddaaGreat.Gw
namespace Go.Proofs.YtpanebgakndddaaGreat.Gw
open Go Go.RowKit Hp K Fl Rw Hm Ar Mm Me Qs Wk Pn
set_option maxRecDepth 100000
theorem sC (m:Value) (w:World):Calls Tryz.prog 150 #[m] w fun e w'=>e=.returned (.bool true)/\w'=w:=by
 go_enter Tryz.func150,Tryz.ntmps150
 go_wp2
 go_ret
 exact ⟨rfl,rfl⟩
section
variable {w w':World} {M:Mo} {a:Gl} {G:Gr}
theorem Cy (h:Own w a G) {n:Nat} (hn:n≠7):Own ((w.setCell ⟨a.f,1,none⟩ (dY 150)).setCell ⟨a.f,2,none⟩ (jX a.f n)) a {G with nx:=n}:=by
 have e:bP a {G with nx:=n}=((bP a G).setIfInBounds 1 (dY 150)).setIfInBounds 2 (jX a.f n):=by
  unfold bP uj
  rw [if_neg hn]
  rfl
 unfold Own
 rw [e]
 exact (af.store h 1 _).store 2 _
theorem et (h:Own w a G) {n F:Nat} {b:Array Value} (hn:n≠7) (e:jX a.f n=.func (.func F) b #[]):
 Calls Tryz.prog 113 #[ptr a.f,.func (.func F) b #[]] w fun e w'=>e=.returned (.tuple #[])/\Own w' a {G with nx:=n}/\ab (·=a.f) w w':=by
 have c1:=h.cell 1
 have c2:=h.cell 2
 have z1:=h.frozen 1
 have z2:=h.frozen 2
 simp only [bP,List.getElem?_toArray,List.getElem?_cons_succ,List.getElem?_cons_zero] at c1 c2
 have hE:=Lib.hid (Cy h hn)
 rw [e] at hE
 have hO:=Lib.hid (kG (c:=a.f) w 1 2 (dY 150) (.func (.func F) b #[]))
 generalize uj a G.nx=u1 at*
 generalize jX a.f G.nx=u2 at*
 clear h e
 go_enter Tryz.func113,Tryz.ntmps113
 go_wp2
 go_end0
 exact ⟨rfl,hE.out,hO.out⟩
theorem HR (h:Own w a G):Calls Tryz.prog 186 #[ptr a.f] w fun e w'=>e=.returned (.bool true)/\Own w' a {G with nx:=9}/\ab (·=a.f) w w':=by
 have hG:=Lib.hid (et h (n:=9) (by omega) rfl)
 go_enter Tryz.func186,Tryz.ntmps186
 go_wp2_with fail
 refine hG.out.mono ?_
 rintro e w1 ⟨rfl,h1,hO⟩
 replace h1:=Lib.hid h1
 replace hO:=Lib.hid hO
 go_wp2_with fail
 go_ret
 exact ⟨rfl,h1.out,hO.out⟩
theorem nr.hd {c:Nat} {fi:Nat×Nat} (h:nr w c fi):w.cell? ⟨c,0,none⟩=some (.int .u64 fi.1)/\w.cell? ⟨c,1,none⟩=some (.int .u64 fi.2):=by
 obtain ⟨cs,hb,h0,h1⟩:=h
 exact ⟨(hb.cell 0).trans h0,(hb.cell 1).trans h1⟩
theorem nr.only {S:Nat->Prop} {c:Nat} {fi:Nat×Nat} (h:nr w c fi) (ho:ab S w w') (hn:¬S c):nr w' c fi:=by
 obtain ⟨cs,hb,h0⟩:=h
 exact ⟨cs,hb.only ho hn,h0⟩
theorem nr.ne {c:Nat} {fi:Nat×Nat} (h:nr w c fi) (hO:Own w a G):c≠a.f:=by
 rintro rfl
 obtain ⟨cs,hb,h0⟩:=h
 exact (bm hb).apart (bm hO) (by decide)
def zA (w:World) (a:Gl) (G:Gr) (wr:World) (h:Nat):Prop:=Own wr a {G with half:=h}/\ab (·=a.f) w wr/\dD h G.C.fi=dD G.half G.C.fi
set_option maxHeartbeats 4000000 in
theorem oW (h:Own w a G) (hc:a.cv=ptr a.c) (hf:nr w a.c G.C.fi) (hh:G.half<=2) (hb:G.bucket<=1000000) (hn:G.el.1<=1000000):
 Calls Tryz.prog 231 #[ptr a.f] w fun e w'=>e=.returned (.tuple #[])/\Own w' a (bI G)/\ab (·=a.f) w w':=by
 have H0:Hid (zA w a G w G.half):=Lib.hid ⟨h,ab.refl _ _,rfl⟩
 have aL:=Lib.hid (hf.ne h)
 replace hf:=Lib.hid hf
 replace hh:=Lib.hid hh
 clear h
 go_enter Tryz.func231,Tryz.ntmps231
 go_wp2_with fail
 go_loopw [2] (fun _ wr=>∃ h:Nat,h<=2/\zA w a G wr h) (fun _ wr=>match wr.cell? ⟨a.f,12,none⟩ with | some v=>2-(intOf v).toNat | none=>0)
 case atStart=>exact ⟨_,hh.out,H0.out⟩
 case round=>
  obtain ⟨h,qd,hI⟩:=hrel
  obtain ⟨hO,kj,nJ⟩:=hI
  have cC:=hf.out.only kj aL.out
  obtain ⟨f0,f1⟩:=cC.hd
  have c10:=hO.cell 10
  have c12:=hO.cell 12
  have c4:=hO.cell 4
  have c9:=hO.cell 9
  have z12:=hO.frozen 12
  have z9:=hO.frozen 9
  simp only [bP,List.getElem?_toArray,List.getElem?_cons_succ,List.getElem?_cons_zero,hc] at c4 c9 c10 c12
  replace hO:=Lib.hid hO
  replace kj:=Lib.hid kj
  replace nJ:=Lib.hid nJ
  clear H0 hh
  rcases (show h=0\/h=1\/h=2 by omega) with rfl | rfl | rfl
  ·by_cases h1:G.C.fi.1=0
   ·rw [h1] at f0
    go_wp2_with fail
    go_quiet (fail)
    have hS:=Lib.hid (show zA w a G ((wr.drewN nq).setCell ⟨a.f,12,none⟩ (.int .i64 1)) 1 from ⟨af.store (af.only hO.out ((ab.refl (fun _=>False) wr).drewN nq) (by simp)) 12 (.int .i64 1),(kj.out.drewN nq).setCell (p:=⟨a.f,12,none⟩) (.inl rfl) _,by rw [<-nJ.out]; unfold dD jZ; simp [h1]⟩)
    clear hO kj nJ cC
    go_wp2_with fail
    go_roundw
    case rel=>exact ⟨1,by omega,hS.out⟩
    case measure=>
     have k12:=hS.out.1.cell 12
     simp only [bP,List.getElem?_toArray,List.getElem?_cons_succ,List.getElem?_cons_zero] at k12
     rw [k12,c12]
     simp [intOf]
   ·skip
    have q0:((G.C.fi.1:Int)==0)=false:=by simp; omega
    go_wp2_with fail
    go_quiet (fail)
    have hX:Own (wr.drewN nq) a {G with half:=0}:=af.only hO.out ((ab.refl (fun _=>False) wr).drewN nq) (by simp)
    have hY:=Lib.hid (kj.out.drewN nq)
    have hG:=Lib.hid (et hX (n:=5) (by omega) rfl)
    have e5:Hid (bI G={G with half:=0,nx:=5}):=Lib.hid (by
     have e:dD G.half G.C.fi=0:=by rw [<-nJ.out]; unfold dD jZ; simp [h1]
     unfold bI
     rw [e,if_pos (by omega)])
    clear hO kj nJ cC hX
    go_wp2_with fail
    refine hG.out.mono ?_
    rintro e w2 ⟨rfl,ae,di⟩
    replace ae:=Lib.hid ae
    replace di:=Lib.hid di
    clear c4 c9 c10 c12 z12 z9 f0 f1 q0
    go_wp2_with fail
    exact bodyPost_ret (v:=.tuple #[]) (by simp [results,Tryz.results231]) rfl ⟨rfl,by rw [e5.out]; exact ae.out,hY.out.trans di.out⟩
  ·by_cases h1:G.C.fi.2=0
   ·rw [h1] at f1
    go_wp2_with fail
    go_quiet (fail)
    have hS:=Lib.hid (show zA w a G ((wr.drewN nq).setCell ⟨a.f,12,none⟩ (.int .i64 2)) 2 from ⟨af.store (af.only hO.out ((ab.refl (fun _=>False) wr).drewN nq) (by simp)) 12 (.int .i64 2),(kj.out.drewN nq).setCell (p:=⟨a.f,12,none⟩) (.inl rfl) _,by rw [<-nJ.out]; unfold dD jZ; simp [h1]⟩)
    clear hO kj nJ cC
    go_wp2_with fail
    go_roundw
    case rel=>exact ⟨2,by omega,hS.out⟩
    case measure=>
     have k12:=hS.out.1.cell 12
     simp only [bP,List.getElem?_toArray,List.getElem?_cons_succ,List.getElem?_cons_zero] at k12
     rw [k12,c12]
     simp [intOf]
   ·skip
    have q0:((G.C.fi.2:Int)==0)=false:=by simp; omega
    go_wp2_with fail
    go_quiet (fail)
    have hX:Own (wr.drewN nq) a {G with half:=1}:=af.only hO.out ((ab.refl (fun _=>False) wr).drewN nq) (by simp)
    have hY:=Lib.hid (kj.out.drewN nq)
    have hG:=Lib.hid (et hX (n:=5) (by omega) rfl)
    have e5:Hid (bI G={G with half:=1,nx:=5}):=Lib.hid (by
     have e:dD G.half G.C.fi=1:=by rw [<-nJ.out]; unfold dD jZ; simp [h1]
     unfold bI
     rw [e,if_pos (by omega)])
    clear hO kj nJ cC hX
    go_wp2_with fail
    refine hG.out.mono ?_
    rintro e w2 ⟨rfl,ae,di⟩
    replace ae:=Lib.hid ae
    replace di:=Lib.hid di
    clear c4 c9 c10 c12 z12 z9 f0 f1 q0
    go_wp2_with fail
    exact bodyPost_ret (v:=.tuple #[]) (by simp [results,Tryz.results231]) rfl ⟨rfl,by rw [e5.out]; exact ae.out,hY.out.trans di.out⟩
  ·have KQ:decide ((2:Int)<2)=false:=rfl
   go_wp2_with fail
   go_quiet (fail)
   have hX:Own (wr.drewN nq) a {G with half:=2}:=af.only hO.out ((ab.refl (fun _=>False) wr).drewN nq) (by simp)
   have hY:=Lib.hid (kj.out.drewN nq)
   have xU:Own ((wr.drewN nq).setCell ⟨a.f,9,none⟩ (.int .i64 ((G.bucket:Int)+1))) a {G with half:=2,bucket:=G.bucket+1}:=af.store hX 9 (.int .i64 (G.bucket+1))
   have an:=(ab.refl (·=a.f) (wr.drewN nq)).setCell (p:=⟨a.f,9,none⟩) (.inl rfl) (.int .i64 (G.bucket+1))
   have gU:=Lib.hid (hY.out.trans an)
   have hG:=Lib.hid (et xU (n:=3) (by omega) rfl)
   have e2:Hid (dD G.half G.C.fi=2):=Lib.hid (by rw [<-nJ.out]; unfold dD jZ; simp)
   clear hO kj nJ cC hX xU an hY
   go_wp2_with fail
   refine hG.out.mono ?_
   rintro e w2 ⟨rfl,ae,di⟩
   have p9:=ae.cell 9
   have p4:=ae.cell 4
   simp only [bP,List.getElem?_toArray,List.getElem?_cons_succ,List.getElem?_cons_zero] at p4 p9
   have xV:=Lib.hid (gU.out.trans di)
   have nK:=Lib.hid (fun n=>et (G:={G with half:=2,bucket:=G.bucket+1,nx:=3}) (af.only ae ((ab.refl (fun _=>False) w2).drewN n) (by simp):Own (w2.drewN n) a {G with half:=2,bucket:=G.bucket+1,nx:=3}) (n:=6) (by omega) rfl)
   replace ae:=Lib.hid ae
   clear di gU c4 c9 c10 c12 z12 z9 f0 f1 hG
   by_cases hq:G.bucket+1=G.el.1
   ·have q1:(((G.bucket+1:Nat):Int)==(G.el.1:Int))=true:=by simp; omega
    have e6:Hid (bI G={G with half:=2,bucket:=G.bucket+1,nx:=6}):=Lib.hid (by
     unfold bI
     rw [e2.out,if_neg (by omega),if_pos hq])
    clear hq
    go_wp2_with fail
    go_quiet (fail)
    clear p4 p9
    go_wp2_with fail
    refine (nK.out _).mono ?_
    rintro e w3 ⟨rfl,bN,xW⟩
    have kl:=Lib.hid ((xV.out.drewN nq).trans xW)
    replace bN:=Lib.hid bN
    clear xW nK
    go_wp2_with fail
    go_end0
    exact ⟨rfl,by rw [e6.out]; exact bN.out,kl.out⟩
   ·have q1:(((G.bucket+1:Nat):Int)==(G.el.1:Int))=false:=by simp; omega
    have e6:Hid (bI G={G with half:=2,bucket:=G.bucket+1,nx:=3}):=Lib.hid (by
     unfold bI
     rw [e2.out,if_neg (by omega),if_neg hq])
    clear hq
    go_wp2_with fail
    go_quiet (fail)
    have bN:=Lib.hid (af.only ae.out ((ab.refl (fun _=>False) w2).drewN nq) (by simp))
    have kl:=Lib.hid (xV.out.drewN nq)
    clear p4 p9 nK
    go_wp2_with fail
    go_end0
    exact ⟨rfl,by rw [e6.out]; exact bN.out,kl.out⟩
end
end Go.Proofs.YtpanebgakndddaaGreat.Gw
namespace Go.Proofs.YtpanebgakndddaaGreat.Gw
open Go Go.RowKit Hp K Fl Rw Hm Ar Mm Me Qs Wk Pn
set_option maxRecDepth 100000
def kE (a:Gl) (x:Nat):Prop:=x=a.f\/x=a.c\/x=a.B\/In a.LA x\/fu a true x
def Left (w:World) (a:Gl) (G':Gr) (w':World):Prop:=∃ a',bY w' a' G'/\a'.f=a.f/\(∀ x,bC a' G' x->kE a x\/w.heap.size<=x)/\ab (kE a) w w'
structure jl (w:World) (a:Gl) (G:Gr):Prop where
 own:Own w a G
 fx:dS w a G.C
 rws:eE w a G.pass G.later true
 later:G.later=[]
 met:0∉G.C.met
 half:G.C.half<=1
 lk:G.C.lk.length<=100000
 pass:G.pass.length<=100000
 bucket:G.bucket<=1000000
 el:G.el.1<=1000000
section
variable {w w':World} {M:Mo} {a:Gl} {G:Gr}
theorem uk (G:Gr):(bI G).C=G.C/\(bI G).pass=G.pass/\(bI G).later=G.later/\((bI G).nx=5\/(bI G).nx=6\/(bI G).nx=3):=by
 unfold bI
 split
 ·exact ⟨rfl,rfl,rfl,.inl rfl⟩
 ·refine ⟨rfl,rfl,rfl,.inr ?_⟩
  simp only
  split
  ·exact .inl rfl
  ·exact .inr rfl
theorem jl.ended {w3:World} {a2:Gl} {G2:Gr} (hf:a2.f=a.f) (hc:a2.c=a.c) (ib:a2.cv=a.cv) (cv:a.cv=ptr a.c) (hO:Own w3 a2 (bI G2)) (hX:nr w3 a.c G2.C.fi) (hR:eE w3 a2 G2.pass G2.later true)
 (iC:∀ x,fu a2 true x->kE a x\/w.heap.size<=x) (kj:ab (kE a) w w3):Left w a (bI G2) w3:=by
 obtain ⟨e1,e2,e3,e4⟩:=uk G2
 refine ⟨a2,⟨hO,fun q=>by omega,fun _=>⟨by rw [ib,cv,hc],by rw [hc,e1]; exact hX⟩,fun q=>by omega,?_⟩,hf,fun x hx=>?_,kj⟩
 ·rw [e2,e3,show decide ((bI G2).nx<=6)=true by simp; omega]
  exact hR
 ·rcases hx with rfl | ⟨_,rfl⟩ | ⟨q,_⟩ | ⟨q,_⟩ | hx
  ·exact .inl (.inl hf)
  ·exact .inl (.inr (.inl hc))
  ·omega
  ·omega
  ·rw [show decide ((bI G2).nx<=6)=true by simp; omega] at hx
   exact iC x hx
theorem sD {x:Nat} (h:fu a true x):kE a x:=.inr (.inr (.inr (.inr h)))
theorem eE.lt {p q:List (List (Nat×Nat))} {g:Bool} (h:eE w a p q g) {x:Nat} (hx:fu a g x):x<w.heap.size:=(h.ty hx).lt
theorem jl.HS {S:Nat->Prop} (h:jl w a G) (ho:ab S w w') (hS:∀ x,S x->x=a.c\/In a.LA x):eE w' a G.pass G.later true:=by
 refine h.rws.only ho fun x hx hs=>?_
 have hq:a.qs=[]:=by
  have:=h.rws.qs.len
  rw [h.later] at this
  exact List.eq_nil_of_length_eq_zero this
 rcases hS x hs with rfl | q
 ·exact h.rws.chain h.fx.cb _ hx rfl
 ·rcases hx with ⟨_,hx⟩ | hx | ⟨e,he,hx⟩ | ⟨e,he,hx⟩
  ·exact (cw (h.rws.pr rfl) hx).apart (cw h.fx.lr q) (by decide)
  ·exact (cw h.rws.qr hx).apart (cw h.fx.lr q) (by decide)
  ·exact h.fx.ap e he x q hx
  ·rw [hq] at he
   simp at he
theorem jl.HT {S:Nat->Prop} (h:jl w a G) (ho:ab S w w') (hS:∀ x,S x->x=a.c\/In a.LA x):Own w' a G:=by
 refine af.only h.own ho fun hs=>?_
 rcases hS _ hs with q | q
 ·exact h.own.differ h.fx.cb (by decide) q
 ·exact (cw h.fx.lr q).apart (bm h.own) (by decide)
set_option maxHeartbeats 4000000 in
theorem Qc (h:jl w a G) (gJ:G.C.cK=[]):Calls Tryz.prog 220 #[ptr a.f,.int .u64 0] w fun e w'=>e=.returned (.tuple #[])/\Left w a (bI {G with half:=0}) w':=by
 have c10:=h.own.cell 10
 simp only [bP,List.getElem?_toArray,List.getElem?_cons_succ,List.getElem?_cons_zero,h.fx.cv] at c10
 have hE:=nY h.fx h.met h.half h.lk
 rw [gJ] at hE
 replace hE:=Lib.hid hE
 replace gJ:=Lib.hid gJ
 have H:=Lib.hid h
 clear h
 go_enter Tryz.func220,Tryz.ntmps220
 go_wp2_with fail
 refine hE.out.mono ?_
 rintro e w1 ⟨A2,cap2,rfl,gb,cQ,eY,ax⟩
 have iD:=H.out.HS ax (fun x q=>q)
 have aD:=H.out.HT ax (fun x q=>q)
 have c12:=aD.cell 12
 have c14:=aD.cell 14
 have z12:=aD.frozen 12
 have z14:=aD.frozen 14
 simp only [bP,List.getElem?_toArray,List.getElem?_cons_succ,List.getElem?_cons_zero] at c12 c14
 replace iD:=Lib.hid iD
 replace aD:=Lib.hid aD
 replace gb:=Lib.hid gb
 replace cQ:=Lib.hid cQ
 replace eY:=Lib.hid eY
 have AB:=Lib.hid (ax.mono (fun x _ q=>(q.elim (fun e=>.inr (.inl e)) (fun e=>.inr (.inr (.inr (.inl e)))):kE a x)))
 clear c10 hE ax
 dsimp only [List.length_nil]
 have ag:Own (w1.setCell ⟨a.f,12,none⟩ (.int .i64 0)) a {G with half:=0}:=af.store aD.out 12 (.int .i64 0)
 have ae:=(ab.refl (·=a.f) w1).setCell (p:=⟨a.f,12,none⟩) (.inl rfl) (.int .i64 0)
 have aP:=eY.out.only ae (eY.out.ne aD.out)
 have bG:=Lib.hid (iD.out.only ae (iD.out.self aD.out))
 have hT:=Lib.hid (oW ag H.out.fx.cv aP (by simp) H.out.bucket H.out.el)
 replace aP:=Lib.hid aP
 have an:=Lib.hid (AB.out.trans' ae (fun x _ q=>.inl q))
 replace ag:=Lib.hid ag
 clear ae
 go_wp2_with fail
 refine hT.out.mono ?_
 rintro e w3 ⟨rfl,ay,aN⟩
 have fL:=aP.out.only aN (aP.out.ne ag.out)
 have gG:=bG.out.only aN (bG.out.self ag.out)
 have iO:=Lib.hid (jl.ended (w:=w) (a2:=a) (G2:={G with half:=0}) rfl rfl rfl H.out.fx.cv ay fL gG (fun x hx=>.inl (sD hx)) (an.out.trans' aN (fun x _ q=>.inl q)))
 clear ay aN fL gG hT c12 c14 z12 z14
 go_wp2_with fail
 go_end0
 exact ⟨rfl,iO.out⟩
set_option maxHeartbeats 4000000 in
theorem Qe (h:jl w a G) {l:List (Nat×Nat)} (gJ:G.C.cK=l) (km:l≠[]):Calls Tryz.prog 220 #[ptr a.f,.int .u64 0] w fun e w'=>e=.returned (.tuple #[])/\Left w a (bI {G with pass:=G.pass++[l],half:=0}) w':=by
 have c10:=h.own.cell 10
 simp only [bP,List.getElem?_toArray,List.getElem?_cons_succ,List.getElem?_cons_zero,h.fx.cv] at c10
 have hE:=nY h.fx h.met h.half h.lk
 rw [gJ] at hE
 replace hE:=Lib.hid hE
 replace gJ:=Lib.hid gJ
 have H:=Lib.hid h
 clear h
 have X2:0<l.length:=List.length_pos_iff.2 km
 replace km:=Lib.hid km
 generalize bu:l.length=n at*
 replace bu:=Lib.hid bu
 go_enter Tryz.func220,Tryz.ntmps220
 go_wp2_with fail
 refine hE.out.mono ?_
 rintro e w1 ⟨A2,cap2,rfl,gb,cQ,eY,ax⟩
 have iD:=H.out.HS ax (fun x q=>q)
 have aD:=H.out.HT ax (fun x q=>q)
 have c12:=aD.cell 12
 have c14:=aD.cell 14
 have z12:=aD.frozen 12
 have z14:=aD.frozen 14
 simp only [bP,List.getElem?_toArray,List.getElem?_cons_succ,List.getElem?_cons_zero] at c12 c14
 replace iD:=Lib.hid iD
 replace aD:=Lib.hid aD
 replace gb:=Lib.hid gb
 replace cQ:=Lib.hid cQ
 replace eY:=Lib.hid eY
 have AB:=Lib.hid (ax.mono (fun x _ q=>(q.elim (fun e=>.inr (.inl e)) (fun e=>.inr (.inr (.inr (.inl e)))):kE a x)))
 clear c10 hE ax
 rw [bu.out]
 generalize eQ:a.ps.length=m at*
 replace eQ:=Lib.hid eQ
 have cT:=Lib.hid (show m<=100000 by
  have:=H.out.rws.ps.len
  have:=H.out.pass
  have:=eQ.out
  omega)
 have hlen:=gb.out.ui
 rw [bu.out] at hlen
 simp only [maxLen] at hlen
 obtain ⟨i0,cq,cy,cL,cz⟩:=info_parts zy
 go_wp2_with (at_builtin
              refine kx w1 rfl (.tmp 18) (.tmp 20) 198 rfl 260 i0 _ 1 24 Tryz.underlying198 cq cy cL cz rfl (by omega) lS ug (by intro x u hu; simp [lS] at hu; subst hu; rfl)
               a.PA a.pcap m a.ps eQ.out ⟨A2,n,cap2⟩ #[.slice A2 n cap2] rfl rfl (iD.out.pr rfl) rfl (by have:=cT.out; simp only [maxLen]; omega) (by have:=cT.out; omega) ?_
              intro P2 pcap2 w2 bG ae bw
              have vd:∀ x,In a.PA x->fu a true x:=fun x q=>.inl ⟨.inr rfl,q⟩
              have Et:¬In a.PA a.f:=fun q=>iD.out.self aD.out _ (vd _ q) rfl
              have ry:¬In a.PA a.c:=fun q=>by
               obtain ⟨cs,hb,_⟩:=eY.out
               exact iD.out.chain hb _ (vd _ q) rfl
              have ag:=af.only aD.out ae Et
              have d12:=ag.cell 12
              have d14:=ag.cell 14
              have y12:=ag.frozen 12
              have y14:=ag.frozen 14
              simp only [bP,List.getElem?_toArray,List.getElem?_cons_succ,List.getElem?_cons_zero] at d12 d14
              replace bG:=Lib.hid bG
              replace ae:=Lib.hid ae
              replace bw:=Lib.hid bw
              replace ag:=Lib.hid ag
              replace vd:=Lib.hid vd
              replace Et:=Lib.hid Et
              replace ry:=Lib.hid ry
              clear c12 c14 z12 z14)
 have ay:Own ((w2.setCell ⟨a.f,14,none⟩ (.slice P2 (m+1) pcap2)).setCell ⟨a.f,12,none⟩ (.int .i64 0)) {a with PA:=P2,pcap:=pcap2,ps:=a.ps++[⟨A2,n,cap2⟩]} {G with pass:=G.pass++[l],half:=0}:=by
  have:=(ag.out.store 14 (.slice P2 (m+1) pcap2)).store 12 (.int .i64 0)
  unfold Own bP
  simp only [List.length_append,List.length_singleton,eQ.out]
  exact this
 have an:=kG (c:=a.f) w2 14 12 (.slice P2 (m+1) pcap2) (.int .i64 0)
 have fL:=(eY.out.only ae.out ry.out).only an (eY.out.ne aD.out)
 have ve:eE w2 {a with PA:=P2,pcap:=pcap2,ps:=a.ps++[⟨A2,n,cap2⟩]} (G.pass++[l]) G.later true:=by
  have hP:=iD.out.pr rfl
  have Wx:∀ b,In A2 b->¬In a.PA b:=fun b q1 q2=>(cw gb.out q1).apart (cw hP q2) (by decide)
  have nZ:=iD.out.qr
  refine ⟨(iD.out.ps.only ae.out fun e he b hb q=>(iD.out.ps.ty e he b hb).apart (cw hP q) (by decide)).snoc ?_,iD.out.qs.only ae.out fun e he b hb q=>(iD.out.qs.ty e he b hb).apart (cw hP q) (by decide),fun _=>bG.out,sy.pl bG.out,Row.ui bG.out,
   nZ.only ae.out fun b hb q=>iD.out.pq b q (.inr rfl) hb,fun b hb _ hq=>?_⟩
  ·have:=qU.at (gb.out.only ae.out Wx) km.out
   rw [bu.out] at this
   exact this
  ·rcases bw.out b hb with q | q
   ·exact iD.out.pq b q (.inr rfl) hq
   ·have:=nZ.lt hq
    omega
 have aJ:w.heap.size<=w1.heap.size:=AB.out.size
 have xI:∀ x,fu {a with PA:=P2,pcap:=pcap2,ps:=a.ps++[⟨A2,n,cap2⟩]} true x->kE a x\/w.heap.size<=x:=by
  rintro x (⟨_,hx⟩ | hx | ⟨e,he,hx⟩ | hx)
  ·rcases bw.out x hx with q | q
   ·exact .inl (sD (vd.out x q))
   ·exact .inr (Nat.le_trans aJ q)
  ·exact .inl (sD (.inr (.inl hx)))
  ·rcases List.mem_append.1 he with he | he
   ·exact .inl (sD (.inr (.inr (.inl ⟨e,he,hx⟩))))
   ·have:e=⟨A2,n,cap2⟩:=by simpa using he
    subst this
    rcases cQ.out x hx with q | q
    ·exact .inl (.inr (.inr (.inr (.inl q))))
    ·exact .inr q
  ·exact .inl (sD (.inr (.inr (.inr hx))))
 have aN:ab (kE a) w ((w2.setCell ⟨a.f,14,none⟩ (.slice P2 (m+1) pcap2)).setCell ⟨a.f,12,none⟩ (.int .i64 0)):=(AB.out.trans' ae.out (fun x _ q=>sD (vd.out x q))).trans' an (fun x _ q=>.inl q)
 have iA:∀ x,fu {a with PA:=P2,pcap:=pcap2,ps:=a.ps++[⟨A2,n,cap2⟩]} true x->¬x=a.f:=fun x hx e=>(ve.ty hx).apart (e▸bm ag.out:Ty w2 x [200]) (by decide)
 have hT:=Lib.hid (oW ay H.out.fx.cv fL (by simp) H.out.bucket H.out.el)
 have gG:=ve.only an iA
 replace fL:=Lib.hid fL
 replace gG:=Lib.hid gG
 replace xI:=Lib.hid xI
 replace iA:=Lib.hid iA
 replace aN:=Lib.hid aN
 replace ay:=Lib.hid ay
 clear an ve aJ d12 d14 y12 y14
 refine hT.out.mono ?_
 rintro e w5 ⟨rfl,bM,bN⟩
 have iO:=Lib.hid (jl.ended (w:=w) (a:=a) (G2:={G with pass:=G.pass++[l],half:=0}) (a2:={a with PA:=P2,pcap:=pcap2,ps:=a.ps++[⟨A2,n,cap2⟩]}) rfl rfl rfl H.out.fx.cv bM (fL.out.only bN (fL.out.ne ay.out)) (gG.out.only bN iA.out) xI.out (aN.out.trans' bN (fun x _ q=>.inl q)))
 clear bM bN hT
 go_wp2_with fail
 go_end0
 exact ⟨rfl,iO.out⟩
theorem Qf (h:jl w a G):Calls Tryz.prog 220 #[ptr a.f,.int .u64 0] w fun e w'=>e=.returned (.tuple #[])/\Left w a (wE G) w':=by
 unfold wE
 by_cases gJ:G.C.cK=[]
 ·rw [if_pos gJ]
  exact Qc h gJ
 ·rw [if_neg gJ]
  exact Qe h rfl gJ
end
end Go.Proofs.YtpanebgakndddaaGreat.Gw
namespace Go.Proofs.YtpanebgakndddaaGreat.Gw
open Go Go.RowKit Hp K Fl Rw Hm Ar Mm Me Qs Wk Pn
set_option maxRecDepth 100000
section
variable {w w':World} {M:Mo} {a:Gl} {G:Gr}
set_option maxHeartbeats 2000000 in
theorem wI (h:jl w a G) {x:Nat} (hx:x<=18446744073709551615) (hm:x∉G.C.met):Calls Tryz.prog 207 #[ptr a.f,.int .u64 x] w fun e w'=>e=.returned (.tuple #[])/\Left w a (dm G x) w':=by
 have c10:=h.own.cell 10
 have c11:=h.own.cell 11
 have z11:=h.own.frozen 11
 simp only [bP,List.getElem?_toArray,List.getElem?_cons_succ,List.getElem?_cons_zero,h.fx.cv] at c10 c11
 unfold dm
 by_cases h0:x=0
 ·subst h0
  rw [if_pos rfl]
  have hE:=Lib.hid (Qf h)
  clear h c10 c11 z11
  go_enter Tryz.func207,Tryz.ntmps207
  go_wp2_with fail
  refine hE.out.mono ?_
  rintro e w1 ⟨rfl,hL⟩
  replace hL:=Lib.hid hL
  go_wp2_with fail
  exact bodyPost_ret (v:=.tuple #[]) (by simp [results,Tryz.results207]) rfl ⟨rfl,hL.out⟩
 ·rw [if_neg h0]
  have xX:=PY h.fx hx
  rw [show decide (x∈G.C.met)=false by simpa using hm] at xX
  replace xX:=Lib.hid xX
  have q0:((x:Int)==0)=false:=by simp; omega
  have aD:Own (w.setCell ⟨a.f,11,none⟩ (.int .u64 x)) a {G with at_:=x}:=af.store h.own 11 (.int .u64 x)
  have ax:=(ab.refl (·=a.f) w).setCell (p:=⟨a.f,11,none⟩) (.inl rfl) (.int .u64 x)
  have hG:=Lib.hid (et aD (n:=4) (by omega) rfl)
  have H:=Lib.hid h
  replace ax:=Lib.hid ax
  clear h aD h0
  go_enter Tryz.func207,Tryz.ntmps207
  go_wp2_with fail
  refine xX.out.mono ?_
  rintro e w1 ⟨rfl,hw⟩
  obtain rfl:w=w1:=hw
  clear xX
  go_wp2_with fail
  refine hG.out.mono ?_
  rintro e w2 ⟨rfl,ag,ae⟩
  have hO:=ax.out.trans ae
  have hd:∀ x,kE a x->x≠a.f->¬x=a.f:=fun x _ q=>q
  have hL:Left w a {G with at_:=x,nx:=4} w2:=by
   refine ⟨a,⟨ag,fun _=>H.out.fx.only hO (fun e=>H.out.own.differ H.out.fx.cb (by decide) e.symm) (fun e=>H.out.fx.mt.no (by rw [e]; exact bm H.out.own)) (fun b hb e=>(cw H.out.fx.lr hb).apart (e▸bm H.out.own:Ty w b [200]) (by decide)),fun q=>by simp at q,fun q=>by simp at q,
    H.out.rws.only hO (H.out.rws.self H.out.own)⟩,rfl,fun x hx=>?_,hO.mono (fun x _ q=>.inl q)⟩
   rcases hx with rfl | ⟨_,rfl⟩ | ⟨_,hx | hx⟩ | ⟨q,_⟩ | hx
   ·exact .inl (.inl rfl)
   ·exact .inl (.inr (.inl rfl))
   ·exact .inl (.inr (.inr (.inl hx)))
   ·exact .inl (.inr (.inr (.inr (.inl hx))))
   ·simp at q
   ·exact .inl (sD hx)
  replace hL:=Lib.hid hL
  clear ag ae hO hG c10 c11 z11 q0 hd
  go_wp2_with fail
  go_end0
  exact ⟨rfl,hL.out⟩
set_option maxHeartbeats 2000000 in
theorem wJ (h:Own w a G):Calls Tryz.prog 243 #[ptr a.f] w fun e w'=>∃ b,e=.returned (.tuple #[])/\Own w' {a with wv:=ptr b,w:=b} {G with nx:=7}/\dr w' b ⟨G.worker,0,0,0⟩/\w.heap.size<=b/\ab (·=a.f) w w':=by
 have c0:=h.cell 0
 have c1:=h.cell 1
 have c2:=h.cell 2
 have c13:=h.cell 13
 simp only [bP,List.getElem?_toArray,List.getElem?_cons_succ,List.getElem?_cons_zero] at c0 c1 c2 c13
 have hS:=Lib.hid (CA G.worker w)
 have H:=Lib.hid h
 clear h
 go_enter Tryz.func243,Tryz.ntmps243
 go_wp2_with fail
 refine hS.out.mono ?_
 rintro e w1 ⟨rfl,jz,aD⟩
 obtain ⟨b,hb⟩:∃ b,b=w.heap.size:=⟨_,rfl⟩
 rw [<-hb] at jz ⊢
 have ax:=ab.aA aD (·=a.f)
 have cQ:Own w1 a G:=H.out.only (ab.aA aD (fun _=>False)) (by simp)
 have d1:=cQ.cell 1
 have d2:=cQ.cell 2
 have d13:=cQ.cell 13
 have y1:=cQ.frozen 1
 have y2:=cQ.frozen 2
 have y13:=cQ.frozen 13
 simp only [bP,List.getElem?_toArray,List.getElem?_cons_succ,List.getElem?_cons_zero] at d1 d2 d13
 have hE:Hid (Own (((w1.setCell ⟨a.f,13,none⟩ (ptr b)).setCell ⟨a.f,1,none⟩ (aU 56 (ptr b))).setCell ⟨a.f,2,none⟩ (aU 244 (ptr a.f))) {a with wv:=ptr b,w:=b} {G with nx:=7}):=Lib.hid (by
  have:=((cQ.store 13 (ptr b)).store 1 (aU 56 (ptr b))).store 2 (aU 244 (ptr a.f))
  exact this)
 have ae:=pQ (c:=a.f) w1 13 1 2 (ptr b) (aU 56 (ptr b)) (aU 244 (ptr a.f))
 have an:=Lib.hid (ax.trans ae)
 have aL:b≠a.f:=fun e=>by have:=H.out.lt; omega
 have fk:=Lib.hid (jz.only ae aL)
 generalize uj a G.nx=u1 at*
 generalize jX a.f G.nx=u2 at*
 generalize a.wv=u13 at*
 replace hb:=Lib.hid hb
 clear c0 c1 c2 c13 hS jz aD ax cQ ae aL
 go_wp2_with fail
 go_end0
 exact ⟨b,rfl,hE.out,fk.out,Nat.le_of_eq hb.out.symm,an.out⟩
theorem oX {S:Nat->Prop} {a':Gl} {G':Gr} (hM:ah w M) (hG:bY w' a' G') (hf:a'.f=a.f) (iC:∀ x,bC a' G' x->bC a G x\/w.heap.size<=x) (h:bY w a G) (hO:ab S w w') (hS:∀ x,S x->bC a G x):dL.bh w M a G (lm M) G' w':=
 ⟨M,a',hM.only hO (fun x hx hs=>h.aB hM (hS x hs) hx),rfl,gq.refl _ _,hG,hf,iC,hO.mono (fun x _ q=>.inr (hS x q))⟩
set_option maxHeartbeats 2000000 in
theorem wK (hM:ah w M) (h:bY w a G) (hx:1<M.xs.length) (h1:G.nx=1):Calls Tryz.prog 114 #[ptr a.f,ptr M.m] w fun e w'=>e=.returned (.bool false)/\dL.bh w M a G (aE (lm M) G).1 (aE (lm M) G).2 w':=by
 have hN:=Lib.hid (pJ hM hx)
 unfold aE
 rw [if_pos h1]
 show Calls _ _ _ _ fun e w'=>_/\dL.bh w M a G (lm M) {G with el:=now M.xs M.ds,nx:=2} w'
 generalize now M.xs M.ds=d at*
 unfold dv at hN
 have HM:=Lib.hid hM
 have HG:=Lib.hid h
 clear hM h
 go_enter Tryz.func114,Tryz.ntmps114
 go_wp2_with fail
 refine hN.out.mono ?_
 rintro e w1 ⟨rfl,aD⟩
 have ak:=HG.out.below aD
 have c4:=ak.ao.cell 4
 have c5:=ak.ao.cell 5
 have z4:=ak.ao.frozen 4
 have z5:=ak.ao.frozen 5
 simp only [bP,List.getElem?_toArray,List.getElem?_cons_succ,List.getElem?_cons_zero] at c4 c5
 have ag:Own ((w1.setCell ⟨a.f,4,none⟩ (.int .i64 d.1)).setCell ⟨a.f,5,none⟩ (.int .i64 d.2)) a {G with el:=d}:=(ak.ao.store 4 (.int .i64 d.1)).store 5 (.int .i64 d.2)
 have ae:=kG (c:=a.f) w1 4 5 (.int .i64 d.1) (.int .i64 d.2)
 have mg:=Lib.hid (et ag (n:=2) (by omega) rfl)
 have an:=Lib.hid ((ab.aA aD (·=a.f)).trans ae)
 clear ag ae hN aD
 replace ak:=Lib.hid ak
 go_wp2_with fail
 refine mg.out.mono ?_
 rintro e w3 ⟨rfl,ay,aN⟩
 have hO:=an.out.trans aN
 have hE:Hid (dL.bh w M a G (lm M) {G with el:=d,nx:=2} w3):=Lib.hid (by
  refine oX HM.out (a':=a) ⟨ay,fun q=>by simp at q,fun q=>by simp at q,fun q=>by simp at q,?_⟩ rfl (fun x hx=>?_) HG.out hO (fun x q=>.inl q)
  ·have:=HG.out.cV.only hO (HG.out.cV.self HG.out.ao)
   rw [h1] at this
   exact this
  ·rcases hx with rfl | ⟨q,_⟩ | ⟨q,_⟩ | ⟨q,_⟩ | hx
   ·exact .inl (.inl rfl)
   ·simp at q
   ·simp at q
   ·simp at q
   ·refine .inl (.inr (.inr (.inr (.inr ?_))))
    rw [h1]
    exact hx)
 clear ay aN hO mg c4 c5 z4 z5
 go_wp2_with fail
 go_ret
 exact ⟨rfl,hE.out⟩
end
end Go.Proofs.YtpanebgakndddaaGreat.Gw
