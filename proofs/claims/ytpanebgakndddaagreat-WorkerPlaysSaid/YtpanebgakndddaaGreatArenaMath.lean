/- A part. -/
import Derived.Test.YtpanebgakndddaaGreatHeapMath
import GoSem.Core.Lib
set_option linter.unusedVariables false
set_option linter.unusedSimpArgs false
namespace Go.Proofs.YtpanebgakndddaaGreat.Ar
open Hm
structure Nd where
 key:ByteArray
 val:ByteArray
 sum:Int
 next:Int
structure Sl where
 taken:Bool
 gen:Nat
 nd:Nd
def Nd.zero:Nd:=⟨⟨#[]⟩,⟨#[]⟩,0,0⟩
def Sl.zero:Sl:=⟨false,0,.zero⟩
def aj (ss:List Sl) (k:Nat):Sl:=ss.getD k .zero
theorem at_some {ss:List Sl} {k:Nat} (h:k<ss.length):ss[k]?=some (aj ss k):=by simp [aj,List.getD,h]
theorem at_set {ss:List Sl} {j:Nat} (hj:j<ss.length) (s:Sl) (k:Nat):aj (ss.set j s) k=if k=j then s else aj ss k:=by
 unfold aj
 simp only [List.getD_eq_getElem?_getD,List.getElem?_set]
 by_cases h:k=j
 ·subst h; simp [hj]
 ·have h':¬j=k:=fun e=>h e.symm
  simp [h,h']
def dX (ss:List Sl) (k:Nat):List Nat:=(List.range k).filter fun i=> !(aj ss i).taken
theorem oJ {ss:List Sl} {k a:Nat}:a∈dX ss k↔a<k/\(aj ss a).taken=false:=by simp [dX]
theorem yQ (ss:List Sl) (k:Nat):(dX ss k).Nodup:=List.filter_sublist.nodup List.nodup_range
theorem tO {ss:List Sl} {k:Nat} (h:(aj ss k).taken=false):dX ss (k+1)=dX ss k++[k]:=by simp [dX,List.range_succ,h]
theorem tP {ss:List Sl} {k:Nat} (h:(aj ss k).taken=true):dX ss (k+1)=dX ss k:=by simp [dX,List.range_succ,h]
theorem My (ss:List Sl) (k:Nat):(dX ss k).length<=k:=Nat.le_trans (List.length_filter_le _ _) (by simp)
def gn (ss:List Sl) (fr:List Nat):Prop:=gO fr fr.length/\fr.Perm (dX ss ss.length)
theorem gn.len {ss:List Sl} {fr:List Nat} (h:gn ss fr):fr.length=(dX ss ss.length).length:=h.2.length_eq
theorem gn.le {ss:List Sl} {fr:List Nat} (h:gn ss fr):fr.length<=ss.length:=by rw [h.len]; exact My _ _
theorem gn.lt {ss:List Sl} {fr:List Nat} (h:gn ss fr) {k:Nat} (hk:k<ss.length) (ht:(aj ss k).taken=true):fr.length<ss.length:=by
 rw [h.len]
 have:(dX ss ss.length).length<(List.range ss.length).length:=List.length_filter_lt_length_iff_exists.2 ⟨k,by simpa using hk,by simp [ht]⟩
 simpa using this
def Least (ss:List Sl) (m:Nat):Prop:=m<ss.length/\(aj ss m).taken=false/\∀ j,j<m->(aj ss j).taken=true
theorem gn.least {ss:List Sl} {fr:List Nat} (h:gn ss fr) (h0:0<fr.length):Least ss (nth fr 0):=by
 have hm:=oJ.1 (h.2.mem_iff.1 (Mz h0))
 refine ⟨hm.1,hm.2,fun j hj=>?_⟩
 by_cases ht:(aj ss j).taken=true
 ·exact ht
 ·exfalso
  have Aj:j∈fr:=h.2.mem_iff.2 (oJ.2 ⟨by omega,by simpa using ht⟩)
  obtain ⟨i,hi,e⟩:=List.getElem_of_mem Aj
  have:=MA h.1 i hi
  rw [rY hi,e] at this
  omega
theorem gn.full {ss:List Sl} {fr:List Nat} (h:gn ss fr) (h0:fr.length=0) (j:Nat) (hj:j<ss.length):(aj ss j).taken=true:=by
 by_cases ht:(aj ss j).taken=true
 ·exact ht
 ·exfalso
  have Aj:j∈fr:=h.2.mem_iff.2 (oJ.2 ⟨by omega,by simpa using ht⟩)
  rw [List.eq_nil_of_length_eq_zero h0] at Aj
  simp at Aj
theorem gn.pop {ss:List Sl} {fr r:List Nat} (h:gn ss fr) (h0:0<fr.length) (hp:(r++[nth fr 0]).Perm fr) (hr:gO r r.length) (s:Sl) (hs:s.taken=true):gn (ss.set (nth fr 0) s) r:=by
 have hm:=(h.least h0).1
 refine ⟨hr,?_⟩
 have gW:=hp.trans h.2
 have bS:(r++[nth fr 0]).Nodup:=gW.nodup_iff.2 (yQ _ _)
 rw [List.nodup_append] at bS
 refine (List.perm_ext_iff_of_nodup bS.1 (yQ _ _)).2 fun a=>?_
 have D5:=gW.mem_iff (a:=a)
 rw [oJ] at D5
 rw [oJ,List.length_set,at_set hm]
 constructor
 ·intro ha
  have h1:=D5.1 (List.mem_append_left _ ha)
  have aL:a≠nth fr 0:=bS.2.2 a ha (nth fr 0) (by simp)
  rw [if_neg aL]
  exact h1
 ·intro ha
  by_cases he:a=nth fr 0
  ·rw [if_pos he,hs] at ha; simp at ha
  ·rw [if_neg he] at ha
   rcases List.mem_append.1 (D5.2 ha) with q | q
   ·exact q
   ·exact absurd (by simpa using q) he
theorem gn.push {ss:List Sl} {fr r:List Nat} {k:Nat} (h:gn ss fr) (hk:k<ss.length) (ht:(aj ss k).taken=true) (hp:r.Perm (fr++[k])) (hr:gO r r.length) (s:Sl) (hs:s.taken=false):gn (ss.set k s) r:=by
 refine ⟨hr,hp.trans ?_⟩
 have Ak:k∉fr:=fun hm=>by
  have:=(oJ.1 (h.2.mem_iff.1 hm)).2
  rw [ht] at this; simp at this
 have bS:(fr++[k]).Nodup:=by
  rw [List.nodup_append]
  refine ⟨h.2.nodup_iff.2 (yQ _ _),by simp,fun a ha b hb e=>?_⟩
  have:b=k:=by simpa using hb
  subst this; subst e
  exact Ak ha
 refine (List.perm_ext_iff_of_nodup bS (yQ _ _)).2 fun a=>?_
 rw [List.mem_append,h.2.mem_iff,oJ,oJ,List.length_set,at_set hk]
 by_cases he:a=k
 ·subst he; simp [hk,hs]
 ·simp [he]
theorem gn.same {ss:List Sl} {fr:List Nat} {k:Nat} (h:gn ss fr) (hk:k<ss.length) (s:Sl) (hs:s.taken=(aj ss k).taken):gn (ss.set k s) fr:=by
 refine ⟨h.1,?_⟩
 have:dX (ss.set k s) (ss.set k s).length=dX ss ss.length:=by
  unfold dX
  rw [List.length_set]
  apply List.filter_congr
  intro i _
  rw [at_set hk]
  by_cases he:i=k
  ·subst he; simp [hs]
  ·simp [he]
 rw [this]
 exact h.2
theorem FZ (n k:Nat) (hk:k<=n):dX (List.replicate n Sl.zero) k=List.range k:=by
 unfold dX
 refine List.filter_eq_self.2 fun i hi=>?_
 have hi:i<k:=by simpa using hi
 have:i<n:=by omega
 simp [aj,List.getD,Sl.zero,this]
theorem FY (n:Nat):gn (List.replicate n .zero) (List.range n):=
 ⟨by have:=MB n; simpa using this,by rw [List.length_replicate,FZ n n (Nat.le_refl _)]⟩
def bj (ss:List Sl) (h k:Nat):Prop:=k<ss.length/\(aj ss k).taken=true/\h=(aj ss k).gen*65536+k+1
theorem bj.uniq {ss:List Sl} {h k j:Nat} (hl:ss.length<=1024) (a:bj ss h k) (b:bj ss h j):k=j:=by
 obtain ⟨a1,_,a3⟩:=a
 obtain ⟨b1,_,b3⟩:=b
 omega
theorem bj.pos {ss:List Sl} {h k:Nat} (a:bj ss h k):h≠0:=by
 obtain ⟨_,_,a3⟩:=a; omega
theorem BC {ss:List Sl} {h:Nat} (hl:ss.length<=1024) (h0:h≠0):(∃ k,bj ss h k)↔(h-1) % 65536<ss.length/\(aj ss ((h-1) % 65536)).taken=true/\(aj ss ((h-1) % 65536)).gen=(h-1) / 65536:=by
 constructor
 ·rintro ⟨k,h1,h2,h3⟩
  have:(h-1) % 65536=k:=by omega
  rw [this]
  exact ⟨h1,h2,by omega⟩
 ·rintro ⟨h1,h2,h3⟩
  exact ⟨_,h1,h2,by omega⟩
theorem nO {ss:List Sl} {h k:Nat} (hl:ss.length<=1024) (a:bj ss h k):(h-1) % 65536=k/\(h-1) / 65536=(aj ss k).gen:=by
 obtain ⟨h1,h2,h3⟩:=a
 omega
end Go.Proofs.YtpanebgakndddaaGreat.Ar
