/- Plain lists: chains with their handles; a node put in the place of one, or ahead of all. -/
import Derived.Test.YtkogifmjbmnpgaaGreatPairs
import Derived.Test.YtkogifmjbmnpgaaGreatMemReach
set_option linter.unusedVariables false
set_option linter.unusedSimpArgs false
namespace Go.Proofs.YtkogifmjbmnpgaaGreat.Mq
open Go Hm Ar Mm Wk Pc Me
abbrev Hp:=Nat×Pr
abbrev hds (q:List Hp):List Nat:=q.map (·.1)
abbrev prs (q:List Hp):List Pr:=q.map (·.2)
abbrev kys (q:List Hp):List ByteArray:=q.map (·.2.1)
inductive Cx (ss:List Sl):Nat→List Hp→Prop
 | nil:Cx ss 0 []
 | cons {x k z:Nat} {p:Pr} {t:List Hp}:IsAt ss x k→(at' ss k).nd=ndp p z→Cx ss z t→Cx ss x ((x,p)::t)
section
variable {ss ss':List Sl} {x:Nat} {q:List Hp}
theorem Cx.pos (h:Cx ss x q):x=0↔q=[]:=by
 cases h with
 | nil=>simp
 | cons a b c=>simp [a.pos]
theorem Cx.ch (h:Cx ss x q):∀ met,(∀ y∈hds q,y∉met)→(hds q).Nodup→Ch ss met x (hds q):=by
 induction h with
 | nil=>intro met _ _; exact .stop (.inl fun k hk=>hk.pos rfl)
 | @cons x k z p t a b c ih=>
   intro met hm hn
   have hn':x∉hds t∧(hds t).Nodup:=List.nodup_cons.1 hn
   refine .go a (hm x (by simp)) ?_
   have e:nx ss k=z:=by unfold nx; rw [b]; rfl
   rw [e]
   refine ih (x::met) (fun y hy q=>?_) hn'.2
   rcases List.mem_cons.1 q with rfl | q
   · exact hn'.1 hy
   · exact hm y (List.mem_cons_of_mem _ hy) q
theorem Cx.at (h:Cx ss x q):∀ e∈q,∃ k z,IsAt ss e.1 k∧(at' ss k).nd=ndp e.2 z:=by
 induction h with
 | nil=>simp
 | @cons x k z p t a b c ih=>
   intro e he
   rcases List.mem_cons.1 he with rfl | he
   · exact ⟨k,z,a,b⟩
   · exact ih e he
theorem Cx.keep (h:Cx ss x q):(∀ y∈hds q,∀ k,IsAt ss y k→IsAt ss' y k∧(at' ss' k).nd=(at' ss k).nd)→Cx ss' x q:=by
 induction h with
 | nil=>intro _; exact .nil
 | @cons x k z p t a b c ih=>
   intro hk
   have:=hk x (by simp) k a
   exact .cons this.1 (this.2.trans b) (ih fun y hy=>hk y (List.mem_cons_of_mem _ hy))
theorem Cx.tail {p:Pr} {t:List Hp} (h:Cx ss x ((x,p)::t)):∃ k z,IsAt ss x k∧(at' ss k).nd=ndp p z∧Cx ss z t:=by
 cases h with
 | cons a b c=>exact ⟨_,_,a,b,c⟩
theorem Cx.head {e:Hp} {t:List Hp} (h:Cx ss x (e::t)):x=e.1:=by
 cases h with
 | cons a b c=>rfl
def lastH (pre:List Hp):Nat:=(hds pre).getLastD 0
theorem lastH_snoc (pre:List Hp) (e:Hp):lastH (pre++[e])=e.1:=by simp [lastH]
theorem lastH_ne {pre:List Hp} (h:Cx ss x (pre++q)) (hp:pre≠[]):lastH pre≠0:=by
 obtain ⟨p0,e,rfl⟩:∃ p0 e,pre=p0++[e]:=⟨pre.dropLast,pre.getLast hp,(List.dropLast_concat_getLast hp).symm⟩
 rw [lastH_snoc]
 obtain ⟨k,z,hk,_⟩:=h.at e (by simp)
 exact hk.pos
theorem Cx.swap {m h kp z:Nat} {e e':Hp} {pr:Pr} {t:List Hp} (hh:IsAt ss' h m) (hnd:(at' ss' m).nd=ndp pr z) (ht:Cx ss' z t):∀ (pre:List Hp) (x:Nat),Cx ss x (pre++e::e'::t)→
 IsAt ss e.1 kp→IsAt ss' e.1 kp→(at' ss' kp).nd=ndp e.2 h→(∀ y∈hds pre,∀ k,IsAt ss y k→IsAt ss' y k∧(at' ss' k).nd=(at' ss k).nd)→Cx ss' x (pre++e::(h,pr)::t):=by
 intro pre
 induction pre with
 | nil=>
   intro x hc h1 h2 h3 _
   cases hc with
   | cons a b c=>exact .cons h2 h3 (.cons hh hnd ht)
 | cons e0 r ih=>
   intro x hc h1 h2 h3 hk
   cases hc with
   | @cons _ k z0 p _ a b c=>
     have:=hk x (by simp) k a
     exact .cons this.1 (this.2.trans b) (ih _ c h1 h2 h3 fun y hy=>hk y (List.mem_cons_of_mem _ hy))
end
/-! ### what is found-/
theorem lk_none {q:List Pr} {key:ByteArray}:lk q key=none↔key∉q.map (·.1):=by
 induction q with
 | nil=>simp [lk]
 | cons p t ih=>
   unfold lk
   by_cases h:p.1=key
   · rw [if_pos h]; simp [h]
   · rw [if_neg h,ih]
     simp [show ¬key=p.1 from fun e=>h e.symm]
theorem lk_mem {q:List Pr} {p:Pr} (hn:(q.map (·.1)).Nodup) (hp:p∈q):lk q p.1=some p.2:=by
 induction q with
 | nil=>simp at hp
 | cons a t ih=>
   have hn':a.1∉t.map (·.1)∧(t.map (·.1)).Nodup:=List.nodup_cons.1 hn
   unfold lk
   rcases List.mem_cons.1 hp with rfl | hp
   · rw [if_pos rfl]
   · rw [if_neg (fun e=>hn'.1 (by rw [e]; exact List.mem_map_of_mem hp)),ih hn'.2 hp]
structure Upd (l l':List Pr) (key val:ByteArray):Prop where
 nd:(l'.map (·.1)).Nodup
 lk:∀ k,Pc.lk l' k=if k=key then some val else Pc.lk l k
 len:l'.length=if (Pc.lk l key).isSome then l.length else l.length+1
def bkt (key:ByteArray) (n:Nat):Nat:=(FM.bucket (sm key) n).toNat
theorem bkt_lt {n:Nat} (hp:FM.power n=true) (key:ByteArray):bkt key n<n∧FM.bucket (sm key) n=(bkt key n:Nat):=by
 have:=bucket_lt hp (sm key) (sm_bd key).1
 unfold bkt
 omega
end Go.Proofs.YtkogifmjbmnpgaaGreat.Mq
