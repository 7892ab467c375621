/- A part. -/
import Derived.Test.YtpanebgakndddaaGreatHeapMath
import GoSem.Core.Lib
set_option linter.unusedVariables false
set_option linter.unusedSimpArgs false
namespace Go.Proofs.YtpanebgakndddaaGreat.Ar
open Hm
structure Nd where
 key:ByteArray
 val:ByteArray
 sum:Int
 next:Int
structure Sl where
 taken:Bool
 gen:Nat
 nd:Nd
def Nd.zero:Nd:=⟨⟨#[]⟩,⟨#[]⟩,0,0⟩
def Sl.zero:Sl:=⟨false,0,.zero⟩
def ai (ss:List Sl) (k:Nat):Sl:=ss.getD k .zero
theorem at_some {ss:List Sl} {k:Nat} (h:k<ss.length):ss[k]?=some (ai ss k):=by simp [ai,List.getD,h]
theorem at_set {ss:List Sl} {j:Nat} (hj:j<ss.length) (s:Sl) (k:Nat):ai (ss.set j s) k=if k=j then s else ai ss k:=by
 unfold ai
 simp only [List.getD_eq_getElem?_getD,List.getElem?_set]
 by_cases h:k=j
 ·subst h; simp [hj]
 ·have h':¬j=k:=fun e=>h e.symm
  simp [h,h']
def du (ss:List Sl) (k:Nat):List Nat:=(List.range k).filter fun i=> !(ai ss i).taken
theorem om {ss:List Sl} {k a:Nat}:a∈du ss k↔a<k/\(ai ss a).taken=false:=by simp [du]
theorem xX (ss:List Sl) (k:Nat):(du ss k).Nodup:=List.filter_sublist.nodup List.nodup_range
theorem tA {ss:List Sl} {k:Nat} (h:(ai ss k).taken=false):du ss (k+1)=du ss k++[k]:=by simp [du,List.range_succ,h]
theorem tB {ss:List Sl} {k:Nat} (h:(ai ss k).taken=true):du ss (k+1)=du ss k:=by simp [du,List.range_succ,h]
theorem Lk (ss:List Sl) (k:Nat):(du ss k).length<=k:=Nat.le_trans (List.length_filter_le _ _) (by simp)
def gj (ss:List Sl) (fr:List Nat):Prop:=gM fr fr.length/\fr.Perm (du ss ss.length)
theorem gj.len {ss:List Sl} {fr:List Nat} (h:gj ss fr):fr.length=(du ss ss.length).length:=h.2.length_eq
theorem gj.le {ss:List Sl} {fr:List Nat} (h:gj ss fr):fr.length<=ss.length:=by rw [h.len]; exact Lk _ _
theorem gj.lt {ss:List Sl} {fr:List Nat} (h:gj ss fr) {k:Nat} (hk:k<ss.length) (ht:(ai ss k).taken=true):fr.length<ss.length:=by
 rw [h.len]
 have:(du ss ss.length).length<(List.range ss.length).length:=List.length_filter_lt_length_iff_exists.2 ⟨k,by simpa using hk,by simp [ht]⟩
 simpa using this
def Least (ss:List Sl) (m:Nat):Prop:=m<ss.length/\(ai ss m).taken=false/\∀ j,j<m->(ai ss j).taken=true
theorem gj.least {ss:List Sl} {fr:List Nat} (h:gj ss fr) (h0:0<fr.length):Least ss (nth fr 0):=by
 have hm:=om.1 (h.2.mem_iff.1 (Ll h0))
 refine ⟨hm.1,hm.2,fun j hj=>?_⟩
 by_cases ht:(ai ss j).taken=true
 ·exact ht
 ·exfalso
  have zq:j∈fr:=h.2.mem_iff.2 (om.2 ⟨by omega,by simpa using ht⟩)
  obtain ⟨i,hi,e⟩:=List.getElem_of_mem zq
  have:=Ln h.1 i hi
  rw [qu hi,e] at this
  omega
theorem gj.full {ss:List Sl} {fr:List Nat} (h:gj ss fr) (h0:fr.length=0) (j:Nat) (hj:j<ss.length):(ai ss j).taken=true:=by
 by_cases ht:(ai ss j).taken=true
 ·exact ht
 ·exfalso
  have zq:j∈fr:=h.2.mem_iff.2 (om.2 ⟨by omega,by simpa using ht⟩)
  rw [List.eq_nil_of_length_eq_zero h0] at zq
  simp at zq
theorem gj.pop {ss:List Sl} {fr r:List Nat} (h:gj ss fr) (h0:0<fr.length) (hp:(r++[nth fr 0]).Perm fr) (hr:gM r r.length) (s:Sl) (hs:s.taken=true):gj (ss.set (nth fr 0) s) r:=by
 have hm:=(h.least h0).1
 refine ⟨hr,?_⟩
 have gU:=hp.trans h.2
 have bB:(r++[nth fr 0]).Nodup:=gU.nodup_iff.2 (xX _ _)
 rw [List.nodup_append] at bB
 refine (List.perm_ext_iff_of_nodup bB.1 (xX _ _)).2 fun a=>?_
 have Ds:=gU.mem_iff (a:=a)
 rw [om] at Ds
 rw [om,List.length_set,at_set hm]
 constructor
 ·intro ha
  have h1:=Ds.1 (List.mem_append_left _ ha)
  have aH:a≠nth fr 0:=bB.2.2 a ha (nth fr 0) (by simp)
  rw [if_neg aH]
  exact h1
 ·intro ha
  by_cases he:a=nth fr 0
  ·rw [if_pos he,hs] at ha; simp at ha
  ·rw [if_neg he] at ha
   rcases List.mem_append.1 (Ds.2 ha) with q | q
   ·exact q
   ·exact absurd (by simpa using q) he
theorem gj.push {ss:List Sl} {fr r:List Nat} {k:Nat} (h:gj ss fr) (hk:k<ss.length) (ht:(ai ss k).taken=true) (hp:r.Perm (fr++[k])) (hr:gM r r.length) (s:Sl) (hs:s.taken=false):gj (ss.set k s) r:=by
 refine ⟨hr,hp.trans ?_⟩
 have qQ:k∉fr:=fun hm=>by
  have:=(om.1 (h.2.mem_iff.1 hm)).2
  rw [ht] at this; simp at this
 have bB:(fr++[k]).Nodup:=by
  rw [List.nodup_append]
  refine ⟨h.2.nodup_iff.2 (xX _ _),by simp,fun a ha b hb e=>?_⟩
  have:b=k:=by simpa using hb
  subst this; subst e
  exact qQ ha
 refine (List.perm_ext_iff_of_nodup bB (xX _ _)).2 fun a=>?_
 rw [List.mem_append,h.2.mem_iff,om,om,List.length_set,at_set hk]
 by_cases he:a=k
 ·subst he; simp [hk,hs]
 ·simp [he]
theorem gj.same {ss:List Sl} {fr:List Nat} {k:Nat} (h:gj ss fr) (hk:k<ss.length) (s:Sl) (hs:s.taken=(ai ss k).taken):gj (ss.set k s) fr:=by
 refine ⟨h.1,?_⟩
 have:du (ss.set k s) (ss.set k s).length=du ss ss.length:=by
  unfold du
  rw [List.length_set]
  apply List.filter_congr
  intro i _
  rw [at_set hk]
  by_cases he:i=k
  ·subst he; simp [hs]
  ·simp [he]
 rw [this]
 exact h.2
theorem E1 (n k:Nat) (hk:k<=n):du (List.replicate n Sl.zero) k=List.range k:=by
 unfold du
 refine List.filter_eq_self.2 fun i hi=>?_
 have hi:i<k:=by simpa using hi
 have:i<n:=by omega
 simp [ai,List.getD,Sl.zero,this]
theorem E0 (n:Nat):gj (List.replicate n .zero) (List.range n):=
 ⟨by have:=Lp n; simpa using this,by rw [List.length_replicate,E1 n n (Nat.le_refl _)]⟩
def aY (ss:List Sl) (h k:Nat):Prop:=k<ss.length/\(ai ss k).taken=true/\h=(ai ss k).gen*65536+k+1
theorem aY.uniq {ss:List Sl} {h k j:Nat} (hl:ss.length<=1024) (a:aY ss h k) (b:aY ss h j):k=j:=by
 obtain ⟨a1,_,a3⟩:=a
 obtain ⟨b1,_,b3⟩:=b
 omega
theorem aY.pos {ss:List Sl} {h k:Nat} (a:aY ss h k):h≠0:=by
 obtain ⟨_,_,a3⟩:=a; omega
theorem AO {ss:List Sl} {h:Nat} (hl:ss.length<=1024) (h0:h≠0):(∃ k,aY ss h k)↔(h-1) % 65536<ss.length/\(ai ss ((h-1) % 65536)).taken=true/\(ai ss ((h-1) % 65536)).gen=(h-1) / 65536:=by
 constructor
 ·rintro ⟨k,h1,h2,h3⟩
  have:(h-1) % 65536=k:=by omega
  rw [this]
  exact ⟨h1,h2,by omega⟩
 ·rintro ⟨h1,h2,h3⟩
  exact ⟨_,h1,h2,by omega⟩
theorem mI {ss:List Sl} {h k:Nat} (hl:ss.length<=1024) (a:aY ss h k):(h-1) % 65536=k/\(h-1) / 65536=(ai ss k).gen:=by
 obtain ⟨h1,h2,h3⟩:=a
 omega
end Go.Proofs.YtpanebgakndddaaGreat.Ar
