/- Plain lists: the places of an arena, which of them are free, which handle tells one. -/
import Derived.Test.YtpobbnllcoabhaaGreatDoorHeapMath
import GoSem.Core.Lib
set_option linter.unusedVariables false
set_option linter.unusedSimpArgs false
namespace Go.Proofs.YtpobbnllcoabhaaGreatDoor.Ar
open Hm
structure Nd where
 key:ByteArray
 val:ByteArray
 sum:Int
 next:Int
structure Sl where
 taken:Bool
 gen:Nat
 nd:Nd
def Nd.zero:Nd:=⟨⟨#[]⟩,⟨#[]⟩,0,0⟩
def Sl.zero:Sl:=⟨false,0,.zero⟩
def at' (ss:List Sl) (k:Nat):Sl:=ss.getD k .zero
theorem at_some {ss:List Sl} {k:Nat} (h:k<ss.length):ss[k]?=some (at' ss k):=by simp [at',List.getD,h]
theorem at_set {ss:List Sl} {j:Nat} (hj:j<ss.length) (s:Sl) (k:Nat):at' (ss.set j s) k=if k=j then s else at' ss k:=by
 unfold at'
 simp only [List.getD_eq_getElem?_getD,List.getElem?_set]
 by_cases h:k=j
 · subst h; simp [hj]
 · have h':¬j=k:=fun e=>h e.symm
   simp [h,h']
def frees (ss:List Sl) (k:Nat):List Nat:=(List.range k).filter fun i=> !(at' ss i).taken
theorem mem_frees {ss:List Sl} {k a:Nat}:a∈frees ss k↔a<k∧(at' ss a).taken=false:=by simp [frees]
theorem frees_nodup (ss:List Sl) (k:Nat):(frees ss k).Nodup:=List.filter_sublist.nodup List.nodup_range
theorem frees_yes {ss:List Sl} {k:Nat} (h:(at' ss k).taken=false):frees ss (k+1)=frees ss k++[k]:=by simp [frees,List.range_succ,h]
theorem frees_no {ss:List Sl} {k:Nat} (h:(at' ss k).taken=true):frees ss (k+1)=frees ss k:=by simp [frees,List.range_succ,h]
theorem frees_le (ss:List Sl) (k:Nat):(frees ss k).length≤k:=Nat.le_trans (List.length_filter_le _ _) (by simp)
def FreeOk (ss:List Sl) (fr:List Nat):Prop:=Heap fr fr.length∧fr.Perm (frees ss ss.length)
theorem FreeOk.len {ss:List Sl} {fr:List Nat} (h:FreeOk ss fr):fr.length=(frees ss ss.length).length:=h.2.length_eq
theorem FreeOk.le {ss:List Sl} {fr:List Nat} (h:FreeOk ss fr):fr.length≤ss.length:=by rw [h.len]; exact frees_le _ _
theorem FreeOk.lt {ss:List Sl} {fr:List Nat} (h:FreeOk ss fr) {k:Nat} (hk:k<ss.length) (ht:(at' ss k).taken=true):fr.length<ss.length:=by
 rw [h.len]
 have:(frees ss ss.length).length<(List.range ss.length).length:=List.length_filter_lt_length_iff_exists.2 ⟨k,by simpa using hk,by simp [ht]⟩
 simpa using this
def Least (ss:List Sl) (m:Nat):Prop:=m<ss.length∧(at' ss m).taken=false∧∀ j,j<m→(at' ss j).taken=true
theorem FreeOk.least {ss:List Sl} {fr:List Nat} (h:FreeOk ss fr) (h0:0<fr.length):Least ss (nth fr 0):=by
 have hm:=mem_frees.1 (h.2.mem_iff.1 (nth_mem h0))
 refine ⟨hm.1,hm.2,fun j hj=>?_⟩
 by_cases ht:(at' ss j).taken=true
 · exact ht
 · exfalso
   have hj2:j∈fr:=h.2.mem_iff.2 (mem_frees.2 ⟨by omega,by simpa using ht⟩)
   obtain ⟨i,hi,e⟩:=List.getElem_of_mem hj2
   have:=heap_min h.1 i hi
   rw [nth_get hi,e] at this
   omega
theorem FreeOk.full {ss:List Sl} {fr:List Nat} (h:FreeOk ss fr) (h0:fr.length=0) (j:Nat) (hj:j<ss.length):(at' ss j).taken=true:=by
 by_cases ht:(at' ss j).taken=true
 · exact ht
 · exfalso
   have hj2:j∈fr:=h.2.mem_iff.2 (mem_frees.2 ⟨by omega,by simpa using ht⟩)
   rw [List.eq_nil_of_length_eq_zero h0] at hj2
   simp at hj2
theorem FreeOk.pop {ss:List Sl} {fr r:List Nat} (h:FreeOk ss fr) (h0:0<fr.length) (hp:(r++[nth fr 0]).Perm fr) (hr:Heap r r.length) (s:Sl) (hs:s.taken=true):FreeOk (ss.set (nth fr 0) s) r:=by
 have hm:=(h.least h0).1
 refine ⟨hr,?_⟩
 have hp2:=hp.trans h.2
 have hnd:(r++[nth fr 0]).Nodup:=hp2.nodup_iff.2 (frees_nodup _ _)
 rw [List.nodup_append] at hnd
 refine (List.perm_ext_iff_of_nodup hnd.1 (frees_nodup _ _)).2 fun a=>?_
 have hma:=hp2.mem_iff (a:=a)
 rw [mem_frees] at hma
 rw [mem_frees,List.length_set,at_set hm]
 constructor
 · intro ha
   have h1:=hma.1 (List.mem_append_left _ ha)
   have hne:a≠nth fr 0:=hnd.2.2 a ha (nth fr 0) (by simp)
   rw [if_neg hne]
   exact h1
 · intro ha
   by_cases he:a=nth fr 0
   · rw [if_pos he,hs] at ha; simp at ha
   · rw [if_neg he] at ha
     rcases List.mem_append.1 (hma.2 ha) with q | q
     · exact q
     · exact absurd (by simpa using q) he
theorem FreeOk.push {ss:List Sl} {fr r:List Nat} {k:Nat} (h:FreeOk ss fr) (hk:k<ss.length) (ht:(at' ss k).taken=true) (hp:r.Perm (fr++[k])) (hr:Heap r r.length) (s:Sl) (hs:s.taken=false):FreeOk (ss.set k s) r:=by
 refine ⟨hr,hp.trans ?_⟩
 have hnm:k∉fr:=fun hm=>by
  have:=(mem_frees.1 (h.2.mem_iff.1 hm)).2
  rw [ht] at this; simp at this
 have hnd:(fr++[k]).Nodup:=by
  rw [List.nodup_append]
  refine ⟨h.2.nodup_iff.2 (frees_nodup _ _),by simp,fun a ha b hb e=>?_⟩
  have:b=k:=by simpa using hb
  subst this; subst e
  exact hnm ha
 refine (List.perm_ext_iff_of_nodup hnd (frees_nodup _ _)).2 fun a=>?_
 rw [List.mem_append,h.2.mem_iff,mem_frees,mem_frees,List.length_set,at_set hk]
 by_cases he:a=k
 · subst he; simp [hk,hs]
 · simp [he]
theorem FreeOk.same {ss:List Sl} {fr:List Nat} {k:Nat} (h:FreeOk ss fr) (hk:k<ss.length) (s:Sl) (hs:s.taken=(at' ss k).taken):FreeOk (ss.set k s) fr:=by
 refine ⟨h.1,?_⟩
 have:frees (ss.set k s) (ss.set k s).length=frees ss ss.length:=by
  unfold frees
  rw [List.length_set]
  apply List.filter_congr
  intro i _
  rw [at_set hk]
  by_cases he:i=k
  · subst he; simp [hs]
  · simp [he]
 rw [this]
 exact h.2
theorem frees_zero (n k:Nat) (hk:k≤n):frees (List.replicate n Sl.zero) k=List.range k:=by
 unfold frees
 refine List.filter_eq_self.2 fun i hi=>?_
 have hi:i<k:=by simpa using hi
 have:i<n:=by omega
 simp [at',List.getD,Sl.zero,this]
theorem free_new (n:Nat):FreeOk (List.replicate n .zero) (List.range n):=
 ⟨by have:=heap_range n; simpa using this,by rw [List.length_replicate,frees_zero n n (Nat.le_refl _)]⟩
def IsAt (ss:List Sl) (h k:Nat):Prop:=k<ss.length∧(at' ss k).taken=true∧h=(at' ss k).gen*65536+k+1
theorem IsAt.uniq {ss:List Sl} {h k j:Nat} (hl:ss.length≤1024) (a:IsAt ss h k) (b:IsAt ss h j):k=j:=by
 obtain ⟨a1,_,a3⟩:=a
 obtain ⟨b1,_,b3⟩:=b
 omega
theorem IsAt.pos {ss:List Sl} {h k:Nat} (a:IsAt ss h k):h≠0:=by
 obtain ⟨_,_,a3⟩:=a; omega
theorem isAt_iff {ss:List Sl} {h:Nat} (hl:ss.length≤1024) (h0:h≠0):(∃ k,IsAt ss h k)↔(h-1) % 65536<ss.length∧(at' ss ((h-1) % 65536)).taken=true∧(at' ss ((h-1) % 65536)).gen=(h-1) / 65536:=by
 constructor
 · rintro ⟨k,h1,h2,h3⟩
   have:(h-1) % 65536=k:=by omega
   rw [this]
   exact ⟨h1,h2,by omega⟩
 · rintro ⟨h1,h2,h3⟩
   exact ⟨_,h1,h2,by omega⟩
theorem isAt_parts {ss:List Sl} {h k:Nat} (hl:ss.length≤1024) (a:IsAt ss h k):(h-1) % 65536=k∧(h-1) / 65536=(at' ss k).gen:=by
 obtain ⟨h1,h2,h3⟩:=a
 omega
end Go.Proofs.YtpobbnllcoabhaaGreatDoor.Ar
