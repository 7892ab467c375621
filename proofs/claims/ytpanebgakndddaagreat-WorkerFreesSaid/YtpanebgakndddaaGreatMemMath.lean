/- A part. -/
import Derived.Test.YtpanebgakndddaaGreatArenaMath
set_option linter.unusedVariables false
set_option linter.unusedSimpArgs false
namespace Go.Proofs.YtpanebgakndddaaGreat.Mm
open Hm Ar
def nx (ss:List Sl) (k:Nat):Nat:=(ai ss k).nd.next.toNat
def lB (ss:List Sl) (k:Nat):Nat:=(ai ss k).gen*65536+k+1
inductive Ch (ss:List Sl):List Nat->Nat->List Nat->Prop
 | stop {met:List Nat} {h:Nat}:((∀ k,¬aY ss h k)\/h∈met)->Ch ss met h []
 | go {met:List Nat} {h k:Nat} {t:List Nat}:aY ss h k->h∉met->Ch ss (h::met) (nx ss k) t->Ch ss met h (h::t)
def left (ss:List Sl) (met:List Nat):List Nat:=(List.range ss.length).filter fun k=>(ai ss k).taken&& !decide (lB ss k∈met)
theorem Q5 (ss:List Sl) (met:List Nat):(left ss met).Nodup:=List.filter_sublist.nodup List.nodup_range
theorem H3 (ss:List Sl) (met:List Nat):(left ss met).length<=ss.length:=Nat.le_trans (List.length_filter_le _ _) (by simp)
theorem Q6 {ss:List Sl} {met met':List Nat} (h:∀ x,x∈met↔x∈met'):left ss met=left ss met':=by
 unfold left
 apply List.filter_congr
 intro k _
 simp [h]
theorem CE {ss:List Sl} {met:List Nat} {x k:Nat} (hl:ss.length<=1024) (h:aY ss x k) (hx:x∉met):(left ss (x::met)).length+1=(left ss met).length:=by
 have e0:lB ss k=x:=h.2.2.symm
 have hk:k∈left ss met:=by
  simp only [left,List.mem_filter,List.mem_range,h.1,h.2.1,e0,hx,decide_false,true_and]
  rfl
 have e:left ss (x::met)=(left ss met).erase k:=by
  rw [(Q5 ss met).erase_eq_filter,left,left,List.filter_filter]
  apply List.filter_congr
  intro a ha
  have ha:a<ss.length:=by simpa using ha
  have JE:=h.1
  have:lB ss a=x↔a=k:=by
   constructor
   ·intro ea
    rw [<-e0] at ea
    unfold lB at ea
    omega
   ·rintro rfl; exact e0
  rw [Bool.eq_iff_iff]
  simp [this]
  constructor
  ·rintro ⟨h1,h2,h3⟩; exact ⟨h2,h1,h3⟩
  ·rintro ⟨h1,h2,h3⟩; exact ⟨h2,h1,h3⟩
 have hp:0<(left ss met).length:=List.length_pos_of_mem hk
 rw [e,List.length_erase_of_mem hk]
 omega
theorem Q7 (ss:List Sl) (hl:ss.length<=1024) (met:List Nat) (h:Nat):∃ t,Ch ss met h t:=by
 have:∀ n met h,(left ss met).length<=n->∃ t,Ch ss met h t:=by
  intro n
  induction n with
  | zero=>
    intro met h hn
    by_cases hk:∃ k,aY ss h k
    ·obtain ⟨k,hk⟩:=hk
     by_cases hm:h∈met
     ·exact ⟨[],.stop (.inr hm)⟩
     ·have:=CE hl hk hm
      omega
    ·exact ⟨[],.stop (.inl fun k lR=>hk ⟨k,lR⟩)⟩
  | succ n ih=>
    intro met h hn
    by_cases hk:∃ k,aY ss h k
    ·obtain ⟨k,hk⟩:=hk
     by_cases hm:h∈met
     ·exact ⟨[],.stop (.inr hm)⟩
     ·have:=CE hl hk hm
      obtain ⟨t,ht⟩:=ih (h::met) (nx ss k) (by omega)
      exact ⟨h::t,.go hk hm ht⟩
    ·exact ⟨[],.stop (.inl fun k lR=>hk ⟨k,lR⟩)⟩
 exact this _ met h (Nat.le_refl _)
theorem H4 {ss:List Sl} (hl:ss.length<=1024) {met:List Nat} {h:Nat} {t:List Nat} (c:Ch ss met h t):t.length+(left ss (t.reverse++met)).length=(left ss met).length:=by
 induction c with
 | stop _=>simp
 | go h1 h2 _ ih=>
   have:=CE hl h1 h2
   simp only [List.reverse_cons,List.append_assoc,List.singleton_append,List.length_cons]
   omega
theorem HV {ss:List Sl} (hl:ss.length<=1024) {met:List Nat} {h:Nat} {t:List Nat} (c:Ch ss met h t):t.length<=ss.length:=by
 have h1:=H4 hl c
 have h2:=H3 ss met
 omega
theorem Q8 {ss:List Sl} {met:List Nat} {h:Nat} {t:List Nat} (c:Ch ss met h t):∀ met',(∀ x,x∈met↔x∈met')->Ch ss met' h t:=by
 induction c with
 | stop hs=>
   intro met' hm
   rcases hs with q | q
   ·exact .stop (.inl q)
   ·exact .stop (.inr ((hm _).1 q))
 | go h1 h2 _ ih=>
   intro met' hm
   exact .go h1 (fun q=>h2 ((hm _).2 q)) (ih _ fun x=>by simp [hm])
theorem Q9 {ss:List Sl} (hl:ss.length<=1024) {met:List Nat} {h:Nat} {t:List Nat} (c:Ch ss met h t):∀ t',Ch ss met h t'->t=t':=by
 induction c with
 | stop hs=>
   intro t' c'
   cases c' with
   | stop _=>rfl
   | go h1 h2 _=>
     rcases hs with q | q
     ·exact absurd h1 (q _)
     ·exact absurd q h2
 | go h1 h2 _ ih=>
   intro t' c'
   cases c' with
   | stop hs=>
     rcases hs with q | q
     ·exact absurd h1 (q _)
     ·exact absurd q h2
   | go nO _ c1=>
     have:=h1.uniq hl nO
     subst this
     rw [ih _ c1]
inductive Rh (ss:List Sl) (f:Nat->Nat):Nat->List Nat->Prop
 | zero:Rh ss f 0 []
 | succ {b:Nat} {all t:List Nat}:Rh ss f b all->Ch ss all (f b) t->Rh ss f (b+1) (all++t)
theorem Rf {ss:List Sl} (hl:ss.length<=1024) {f:Nat->Nat} {b:Nat} {l:List Nat} (c:Rh ss f b l):∀ l',Rh ss f b l'->l=l':=by
 induction c with
 | zero=>intro l' c'; cases c'; rfl
 | succ h1 h2 ih=>
   intro l' c'
   cases c' with
   | succ nO pX=>
     have:=ih _ nO
     subst this
     rw [Q9 hl h2 _ pX]
theorem Ri {ss:List Sl} (hl:ss.length<=1024) {f:Nat->Nat} {b:Nat} {l:List Nat} (c:Rh ss f b l):l.length+(left ss l).length=(left ss []).length:=by
 induction c with
 | zero=>simp
 | @succ b all t h1 h2 ih=>
   have h3:=H4 hl h2
   rw [Q6 (met:=t.reverse++all) (met':=all++t) (fun x=>by simp [or_comm])] at h3
   rw [List.length_append]
   omega
theorem Rj {ss:List Sl} (hl:ss.length<=1024) {f:Nat->Nat} {b:Nat} {l:List Nat} (c:Rh ss f b l):l.length<=ss.length:=by
 have h1:=Ri hl c
 have h2:=H3 ss []
 omega
/-! ### the document's lists-/
def fo (ss:List Sl):Prop:=∀ k,0<=(ai ss k).nd.next/\(ai ss k).nd.next<=18446744073709551615
theorem fo.set {ss:List Sl} (h:fo ss) {j:Nat} (hj:j<ss.length) (s:Sl) (hs:0<=s.nd.next/\s.nd.next<=18446744073709551615):fo (ss.set j s):=fun k=>by
 rw [at_set hj]
 by_cases e:k=j
 ·rw [if_pos e]; exact hs
 ·rw [if_neg e]; exact h k
theorem fo.at {ss:List Sl} (h:fo ss) (k:Nat):(ai ss k).nd.next=(nx ss k:Nat)/\nx ss k<=18446744073709551615:=by
 have:=h k
 unfold nx
 omega
theorem ub {ss:List Sl} {m:Nat} (hm:m<ss.length) (s:Sl) (x k:Nat):aY (ss.set m s) x k↔if k=m then s.taken=true/\x=s.gen*65536+m+1 else aY ss x k:=by
 unfold aY
 rw [List.length_set,at_set hm]
 by_cases e:k=m
 ·subst e
  rw [if_pos rfl,if_pos rfl]
  exact ⟨fun h=>h.2,fun h=>⟨hm,h⟩⟩
 ·rw [if_neg e,if_neg e]
end Go.Proofs.YtpanebgakndddaaGreat.Mm
