/- A part. -/
import Derived.Test.YtpanebgakndddaaGreatArenaMath
set_option linter.unusedVariables false
set_option linter.unusedSimpArgs false
namespace Go.Proofs.YtpanebgakndddaaGreat.Mm
open Hm Ar
def nx (ss:List Sl) (k:Nat):Nat:=(aj ss k).nd.next.toNat
def lT (ss:List Sl) (k:Nat):Nat:=(aj ss k).gen*65536+k+1
inductive Ch (ss:List Sl):List Nat->Nat->List Nat->Prop
 | stop {met:List Nat} {h:Nat}:((∀ k,¬bj ss h k)\/h∈met)->Ch ss met h []
 | go {met:List Nat} {h k:Nat} {t:List Nat}:bj ss h k->h∉met->Ch ss (h::met) (nx ss k) t->Ch ss met h (h::t)
def left (ss:List Sl) (met:List Nat):List Nat:=(List.range ss.length).filter fun k=>(aj ss k).taken&& !decide (lT ss k∈met)
theorem R9 (ss:List Sl) (met:List Nat):(left ss met).Nodup:=List.filter_sublist.nodup List.nodup_range
theorem IW (ss:List Sl) (met:List Nat):(left ss met).length<=ss.length:=Nat.le_trans (List.length_filter_le _ _) (by simp)
theorem Sb {ss:List Sl} {met met':List Nat} (h:∀ x,x∈met↔x∈met'):left ss met=left ss met':=by
 unfold left
 apply List.filter_congr
 intro k _
 simp [h]
theorem Df {ss:List Sl} {met:List Nat} {x k:Nat} (hl:ss.length<=1024) (h:bj ss x k) (hx:x∉met):(left ss (x::met)).length+1=(left ss met).length:=by
 have e0:lT ss k=x:=h.2.2.symm
 have hk:k∈left ss met:=by
  simp only [left,List.mem_filter,List.mem_range,h.1,h.2.1,e0,hx,decide_false,true_and]
  rfl
 have e:left ss (x::met)=(left ss met).erase k:=by
  rw [(R9 ss met).erase_eq_filter,left,left,List.filter_filter]
  apply List.filter_congr
  intro a ha
  have ha:a<ss.length:=by simpa using ha
  have KA:=h.1
  have:lT ss a=x↔a=k:=by
   constructor
   ·intro ea
    rw [<-e0] at ea
    unfold lT at ea
    omega
   ·rintro rfl; exact e0
  rw [Bool.eq_iff_iff]
  simp [this]
  constructor
  ·rintro ⟨h1,h2,h3⟩; exact ⟨h2,h1,h3⟩
  ·rintro ⟨h1,h2,h3⟩; exact ⟨h2,h1,h3⟩
 have hp:0<(left ss met).length:=List.length_pos_of_mem hk
 rw [e,List.length_erase_of_mem hk]
 omega
theorem Sd (ss:List Sl) (hl:ss.length<=1024) (met:List Nat) (h:Nat):∃ t,Ch ss met h t:=by
 have:∀ n met h,(left ss met).length<=n->∃ t,Ch ss met h t:=by
  intro n
  induction n with
  | zero=>
    intro met h hn
    by_cases hk:∃ k,bj ss h k
    ·obtain ⟨k,hk⟩:=hk
     by_cases hm:h∈met
     ·exact ⟨[],.stop (.inr hm)⟩
     ·have:=Df hl hk hm
      omega
    ·exact ⟨[],.stop (.inl fun k mo=>hk ⟨k,mo⟩)⟩
  | succ n ih=>
    intro met h hn
    by_cases hk:∃ k,bj ss h k
    ·obtain ⟨k,hk⟩:=hk
     by_cases hm:h∈met
     ·exact ⟨[],.stop (.inr hm)⟩
     ·have:=Df hl hk hm
      obtain ⟨t,ht⟩:=ih (h::met) (nx ss k) (by omega)
      exact ⟨h::t,.go hk hm ht⟩
    ·exact ⟨[],.stop (.inl fun k mo=>hk ⟨k,mo⟩)⟩
 exact this _ met h (Nat.le_refl _)
theorem IX {ss:List Sl} (hl:ss.length<=1024) {met:List Nat} {h:Nat} {t:List Nat} (c:Ch ss met h t):t.length+(left ss (t.reverse++met)).length=(left ss met).length:=by
 induction c with
 | stop _=>simp
 | go h1 h2 _ ih=>
   have:=Df hl h1 h2
   simp only [List.reverse_cons,List.append_assoc,List.singleton_append,List.length_cons]
   omega
theorem IQ {ss:List Sl} (hl:ss.length<=1024) {met:List Nat} {h:Nat} {t:List Nat} (c:Ch ss met h t):t.length<=ss.length:=by
 have h1:=IX hl c
 have h2:=IW ss met
 omega
theorem Se {ss:List Sl} {met:List Nat} {h:Nat} {t:List Nat} (c:Ch ss met h t):∀ met',(∀ x,x∈met↔x∈met')->Ch ss met' h t:=by
 induction c with
 | stop hs=>
   intro met' hm
   rcases hs with q | q
   ·exact .stop (.inl q)
   ·exact .stop (.inr ((hm _).1 q))
 | go h1 h2 _ ih=>
   intro met' hm
   exact .go h1 (fun q=>h2 ((hm _).2 q)) (ih _ fun x=>by simp [hm])
theorem Sf {ss:List Sl} (hl:ss.length<=1024) {met:List Nat} {h:Nat} {t:List Nat} (c:Ch ss met h t):∀ t',Ch ss met h t'->t=t':=by
 induction c with
 | stop hs=>
   intro t' c'
   cases c' with
   | stop _=>rfl
   | go h1 h2 _=>
     rcases hs with q | q
     ·exact absurd h1 (q _)
     ·exact absurd q h2
 | go h1 h2 _ ih=>
   intro t' c'
   cases c' with
   | stop hs=>
     rcases hs with q | q
     ·exact absurd h1 (q _)
     ·exact absurd q h2
   | go og _ c1=>
     have:=h1.uniq hl og
     subst this
     rw [ih _ c1]
inductive Rh (ss:List Sl) (f:Nat->Nat):Nat->List Nat->Prop
 | zero:Rh ss f 0 []
 | succ {b:Nat} {all t:List Nat}:Rh ss f b all->Ch ss all (f b) t->Rh ss f (b+1) (all++t)
theorem Sg {ss:List Sl} (hl:ss.length<=1024) {f:Nat->Nat} {b:Nat} {l:List Nat} (c:Rh ss f b l):∀ l',Rh ss f b l'->l=l':=by
 induction c with
 | zero=>intro l' c'; cases c'; rfl
 | succ h1 h2 ih=>
   intro l' c'
   cases c' with
   | succ og qm=>
     have:=ih _ og
     subst this
     rw [Sf hl h2 _ qm]
theorem Si {ss:List Sl} (hl:ss.length<=1024) {f:Nat->Nat} {b:Nat} {l:List Nat} (c:Rh ss f b l):l.length+(left ss l).length=(left ss []).length:=by
 induction c with
 | zero=>simp
 | @succ b all t h1 h2 ih=>
   have h3:=IX hl h2
   rw [Sb (met:=t.reverse++all) (met':=all++t) (fun x=>by simp [or_comm])] at h3
   rw [List.length_append]
   omega
theorem Sj {ss:List Sl} (hl:ss.length<=1024) {f:Nat->Nat} {b:Nat} {l:List Nat} (c:Rh ss f b l):l.length<=ss.length:=by
 have h1:=Si hl c
 have h2:=IW ss []
 omega
/-! ### the document's lists-/
def ff (ss:List Sl):Prop:=∀ k,0<=(aj ss k).nd.next/\(aj ss k).nd.next<=18446744073709551615
theorem ff.set {ss:List Sl} (h:ff ss) {j:Nat} (hj:j<ss.length) (s:Sl) (hs:0<=s.nd.next/\s.nd.next<=18446744073709551615):ff (ss.set j s):=fun k=>by
 rw [at_set hj]
 by_cases e:k=j
 ·rw [if_pos e]; exact hs
 ·rw [if_neg e]; exact h k
theorem ff.at {ss:List Sl} (h:ff ss) (k:Nat):(aj ss k).nd.next=(nx ss k:Nat)/\nx ss k<=18446744073709551615:=by
 have:=h k
 unfold nx
 omega
theorem xa {ss:List Sl} {m:Nat} (hm:m<ss.length) (s:Sl) (x k:Nat):bj (ss.set m s) x k↔if k=m then s.taken=true/\x=s.gen*65536+m+1 else bj ss x k:=by
 unfold bj
 rw [List.length_set,at_set hm]
 by_cases e:k=m
 ·subst e
  rw [if_pos rfl,if_pos rfl]
  exact ⟨fun h=>h.2,fun h=>⟨hm,h⟩⟩
 ·rw [if_neg e,if_neg e]
end Go.Proofs.YtpanebgakndddaaGreat.Mm
