/- A part. -/
namespace Go.Proofs.YtpanebgakndddaaGreat.Hm
def nth (l:List Nat) (i:Nat):Nat:=l.getD i 0
theorem qu {l:List Nat} {i:Nat} (h:i<l.length):nth l i=l[i]:=by simp [nth,List.getD,h]
theorem PZ {l:List Nat} {i:Nat} (h:i<l.length):l[i]?=some (nth l i):=by simp [nth,List.getD,h]
theorem Ll {l:List Nat} {i:Nat} (h:i<l.length):nth l i∈l:=by rw [qu h]; exact List.getElem_mem h
def sw (l:List Nat) (i j:Nat):List Nat:=(l.set i (nth l j)).set j (nth l i)
theorem Hb (l:List Nat) (i j:Nat):(sw l i j).length=l.length:=by simp [sw]
theorem mV (l:List Nat) (i j k:Nat) (hi:i<l.length) (hj:j<l.length):nth (sw l i j) k=if k=j then nth l i else if k=i then nth l j else nth l k:=by
 unfold sw nth
 simp only [List.getD_eq_getElem?_getD,List.getElem?_set]
 by_cases h1:k=j
 ·subst h1; simp [hj]
 ·have nO:¬j=k:=fun e=>h1 e.symm
  simp only [h1,nO,if_false]
  by_cases h2:k=i
  ·subst h2; simp [hi]
  ·have pX:¬i=k:=fun e=>h2 e.symm
   simp only [h2,pX,if_false]
theorem vP (l:List Nat) (i j:Nat) (hi:i<l.length) (hj:j<l.length):(sw l i j).Perm l:=by
 unfold sw
 rw [qu hi,qu hj]
 exact List.set_set_perm hi hj
def gM (l:List Nat) (n:Nat):Prop:=∀ k,1<=k->k<n->nth l ((k-1) / 2)<=nth l k
theorem Ln {l:List Nat} {n:Nat} (h:gM l n):∀ k,k<n->nth l 0<=nth l k:=by
 intro k
 induction k using Nat.strongRecOn with
 | ind k ih=>
   intro hk
   by_cases h0:k=0
   ·subst h0; exact Nat.le_refl _
   ·exact Nat.le_trans (ih ((k-1) / 2) (by omega) (by omega)) (h k (by omega) hk)
def Down (l:List Nat) (i n:Nat):Prop:=(∀ k,1<=k->k<n->(k-1) / 2≠i->nth l ((k-1) / 2)<=nth l k)/\∀ k,1<=k->k<n->(k-1) / 2=i->1<=i->nth l ((i-1) / 2)<=nth l k
def Up (l:List Nat) (j n:Nat):Prop:=(∀ k,1<=k->k<n->k≠j->nth l ((k-1) / 2)<=nth l k)/\∀ k,1<=k->k<n->(k-1) / 2=j->1<=j->nth l ((j-1) / 2)<=nth l k
theorem P0 {l:List Nat} {n:Nat} (h:gM l (n+1)) (hl:n<l.length):Down (sw l 0 n) 0 n:=by
 refine ⟨fun k h1 h2 h3=>?_,fun k _ _ _ h=>by omega⟩
 rw [mV l 0 n _ (by omega) hl,mV l 0 n _ (by omega) hl,if_neg (by omega),if_neg h3,if_neg (by omega),if_neg (by omega)]
 exact h k h1 (by omega)
def sj (l:List Nat) (i j n:Nat):Prop:=(j-1) / 2=i/\1<=j/\j<n/\∀ k,1<=k->k<n->(k-1) / 2=i->nth l j<=nth l k
theorem Cj {l:List Nat} {i j n:Nat} (h:Down l i n) (hj:sj l i j n) (hl:n<=l.length) (bn:nth l j<nth l i):Down (sw l i j) j n:=by
 obtain ⟨e,j1,j2,hm⟩:=hj
 have hi:i<l.length:=by omega
 have nj:j<l.length:=by omega
 refine ⟨fun k h1 h2 h3=>?_,fun k h1 h2 h3 h4=>?_⟩
 ·rw [mV l i j _ hi nj,mV l i j _ hi nj]
  rw [if_neg h3]
  by_cases hk:k=j
  ·subst hk; rw [if_pos rfl,if_pos e]; omega
  ·rw [if_neg hk]
   by_cases hp:(k-1) / 2=i
   ·rw [if_pos hp]
    have:=hm k h1 h2 hp
    by_cases rv:k=i
    ·omega
    ·rw [if_neg rv]; exact this
   ·rw [if_neg hp]
    by_cases rv:k=i
    ·subst rv
     rw [if_pos rfl]
     exact h.2 j j1 j2 e (by omega)
    ·rw [if_neg rv]; exact h.1 k h1 h2 hp
 ·rw [mV l i j _ hi nj,mV l i j _ hi nj,e,if_neg (by omega),if_pos rfl,if_neg (by omega),if_neg (by omega)]
  have:=h.1 k h1 h2 (by omega)
  rw [h3] at this
  exact this
theorem P1 {l:List Nat} {i n:Nat} (h:Down l i n) (hi:n<=2*i+1):gM l n:=fun k h1 h2=>h.1 k h1 h2 (by omega)
theorem Ck {l:List Nat} {i j n:Nat} (h:Down l i n) (hj:sj l i j n) (bn:¬nth l j<nth l i):gM l n:=fun k h1 h2=>by
 by_cases hp:(k-1) / 2=i
 ·rw [hp]; have:=hj.2.2.2 k h1 h2 hp; omega
 ·exact h.1 k h1 h2 hp
theorem Hc {l:List Nat} {i n:Nat} (h1:2*i+1<n) (h2:2*i+2<n->¬nth l (2*i+2)<nth l (2*i+1)):sj l i (2*i+1) n:=by
 refine ⟨by omega,by omega,h1,fun k k1 k2 k3=>?_⟩
 rcases (show k=2*i+1\/k=2*i+2 by omega) with rfl | rfl
 ·exact Nat.le_refl _
 ·have:=h2 k2; omega
theorem P3 {l:List Nat} {i n:Nat} (h1:2*i+2<n) (h2:nth l (2*i+2)<nth l (2*i+1)):sj l i (2*i+2) n:=by
 refine ⟨by omega,by omega,h1,fun k k1 k2 k3=>?_⟩
 rcases (show k=2*i+1\/k=2*i+2 by omega) with rfl | rfl
 ·omega
 ·exact Nat.le_refl _
theorem Hd (l:List Nat) (x k:Nat):nth (l++[x]) k=if k=l.length then x else nth l k:=by
 unfold nth
 simp only [List.getD_eq_getElem?_getD]
 by_cases h:k=l.length
 ·subst h; simp
 ·rw [if_neg h]
  by_cases hk:k<l.length
  ·rw [List.getElem?_append_left hk]
  ·rw [List.getElem?_eq_none (by simp; omega),List.getElem?_eq_none (by omega)]
theorem P4 {l:List Nat} (h:gM l l.length) (x:Nat):Up (l++[x]) l.length (l.length+1):=by
 refine ⟨fun k h1 h2 h3=>?_,fun k h1 h2 h3 h4=>by omega⟩
 rw [Hd,Hd,if_neg (by omega),if_neg h3]
 exact h k h1 (by omega)
theorem P5 {l:List Nat} {j n:Nat} (h:Up l j n) (hj:1<=j) (hn:j<n) (hl:n<=l.length) (bn:nth l j<nth l ((j-1) / 2)):Up (sw l ((j-1) / 2) j) ((j-1) / 2) n:=by
 have hi:(j-1) / 2<l.length:=by omega
 have nj:j<l.length:=by omega
 refine ⟨fun k h1 h2 h3=>?_,fun k h1 h2 h3 h4=>?_⟩
 ·rw [mV l _ j _ hi nj,mV l _ j _ hi nj,if_neg h3]
  by_cases hk:k=j
  ·subst hk; rw [if_pos rfl,if_neg (by omega),if_pos rfl]; omega
  ·rw [if_neg hk]
   by_cases hp:(k-1) / 2=j
   ·rw [if_pos hp]
    exact h.2 k h1 h2 hp hj
   ·rw [if_neg hp]
    by_cases hq:(k-1) / 2=(j-1) / 2
    ·rw [if_pos hq]
     have:=h.1 k h1 h2 hk
     rw [hq] at this
     omega
    ·rw [if_neg hq]; exact h.1 k h1 h2 hk
 ·rw [mV l _ j _ hi nj,mV l _ j _ hi nj,if_neg (by omega),if_neg (by omega)]
  have DZ:=h.1 ((j-1) / 2) (by omega) (by omega) (by omega)
  by_cases hk:k=j
  ·rw [if_pos hk]; exact DZ
  ·rw [if_neg hk]
   have:=h.1 k h1 h2 hk
   rw [h3] at this
   by_cases VS:k=(j-1) / 2
   ·omega
   ·rw [if_neg VS]; omega
theorem P6 {l:List Nat} {n:Nat} (h:Up l 0 n):gM l n:=fun k h1 h2=>h.1 k h1 h2 (by omega)
theorem P7 {l:List Nat} {j n:Nat} (h:Up l j n) (bn:¬nth l j<nth l ((j-1) / 2)):gM l n:=fun k h1 h2=>by
 by_cases hk:k=j
 ·subst hk; omega
 ·exact h.1 k h1 h2 hk
theorem P8 {l:List Nat} {n:Nat} (h:gM l n):gM (l.take n) n:=fun k h1 h2=>by
 have e:∀ i,i<n->nth (l.take n) i=nth l i:=fun i hi=>by
  unfold nth
  simp only [List.getD_eq_getElem?_getD,List.getElem?_take,hi,if_true]
 rw [e _ (by omega),e _ h2]
 exact h k h1 h2
theorem Lp (n:Nat):gM (List.range n) n:=fun k h1 h2=>by
 rw [qu (by simp; omega),qu (by simp; omega)]
 simp
 omega
theorem P9 {l l0:List Nat} {n:Nat} (hl:l.length=n+1) (hp:l.Perm l0):l=l.take n++[nth l n]/\(l.take n++[nth l n]).Perm l0:=by
 have e:l=l.take n++[nth l n]:=by
  have h1:l.take (n+1)=l:=List.take_of_length_le (by omega)
  have h2:=List.take_add_one (l:=l) (i:=n)
  rw [h1,PZ (by omega)] at h2
  simpa using h2
 exact ⟨e,e▸hp⟩
end Go.Proofs.YtpanebgakndddaaGreat.Hm
