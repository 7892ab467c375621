/- Plain lists: chains of pairs; what is found of a key; the pairs of a bucket. -/
import Derived.Test.YtkogifmjbmnpgaaGreatWalkD
import Derived.Test.YtkogifmjbmnpgaaGreatFnvMath
set_option linter.unusedVariables false
set_option linter.unusedSimpArgs false
namespace Go.Proofs.YtkogifmjbmnpgaaGreat.Pc
open Go Hm Ar Mm Wk
abbrev Pr:=ByteArray×ByteArray
def sm (k:ByteArray):Int:=(FM.sum k.data.toList:Nat)
theorem sm_bd (k:ByteArray):0≤sm k∧sm k<4294967296:=by
 have:=FM.sum_lt k.data.toList
 unfold sm
 omega
def ndp (p:Pr) (z:Nat):Nd:=⟨p.1,p.2,sm p.1,z⟩
inductive Cn (ss:List Sl):Nat→List Pr→Prop
 | nil:Cn ss 0 []
 | cons {x k z:Nat} {p:Pr} {t:List Pr}:IsAt ss x k→(at' ss k).nd=ndp p z→Cn ss z t→Cn ss x (p::t)
section
variable {ss:List Sl} {x:Nat} {q:List Pr}
theorem Cn.pos (h:Cn ss x q):x=0↔q=[]:=by
 cases h with
 | nil=>simp
 | cons a b c=>simp [a.pos]
theorem Cn.set (h:Cn ss x q) {j:Nat} (hj:j<ss.length) (hf:(at' ss j).taken=false) (s:Sl):Cn (ss.set j s) x q:=by
 induction h with
 | nil=>exact .nil
 | @cons x k z p t a b c ih=>
   have hk:k≠j:=by rintro rfl; rw [a.2.1] at hf; simp at hf
   refine .cons (k:=k) ?_ ?_ ih
   · rw [isAt_turn hj,if_neg hk]; exact a
   · rw [at_set hj,if_neg hk]; exact b
def lk:List Pr→ByteArray→Option ByteArray
 | [],_=>none
 | p::t,key=>if p.1=key then some p.2 else lk t key
def bk (n b:Int) (l:List Pr):List Pr:=l.filter fun p=>decide (FM.bucket (sm p.1) n=b)
theorem bk_cons (n b:Int) (p:Pr) (l:List Pr):bk n b (p::l)=if FM.bucket (sm p.1) n=b then p::bk n b l else bk n b l:=by
 unfold bk
 rw [List.filter_cons]
 by_cases h:FM.bucket (sm p.1) n=b<;>simp [h]
theorem lk_bk (n:Int) (l:List Pr) (key:ByteArray):lk (bk n (FM.bucket (sm key) n) l) key=lk l key:=by
 induction l with
 | nil=>rfl
 | cons p t ih=>
   rw [bk_cons]
   by_cases h:p.1=key
   · rw [if_pos (by rw [h])]
     simp [lk,h]
   · have e:lk (p::t) key=lk t key:=by simp [lk,h]
     rw [e]
     split
     · rw [show lk (p::bk n (FM.bucket (sm key) n) t) key=lk (bk n (FM.bucket (sm key) n) t) key by simp [lk,h]]
       exact ih
     · exact ih
end
theorem nth_set (xs:List Int) (k:Nat) (v:Int) (h:k<xs.length) (i:Nat):Cl.nth (xs.set k v) i=if i=k then v else Cl.nth xs i:=by
 unfold Cl.nth
 by_cases e:i=k
 · subst e; simp [List.getD,h]
 · rw [if_neg e]; simp [List.getD,List.getElem?_set_ne (Ne.symm e)]
theorem power_pow {k:Nat} (h:k≤16):FM.power ((2 ^ k:Nat):Int)=true:=(FM.power_iff _).2 ⟨k,h,rfl⟩
theorem bucket_lt {n:Nat} (hp:FM.power n=true) (s:Int) (hs:0≤s):0≤FM.bucket s n∧FM.bucket s n<n:=by
 have:=FM.power_bd hp
 unfold FM.bucket
 rw [hp,if_pos rfl]
 exact ⟨Int.emod_nonneg _ (by omega),Int.emod_lt_of_pos _ (by omega)⟩
/-! ### laid from the end-/
def pat (l:List Pr) (i:Nat):Pr:=l.getD i default
structure La (l:List Pr) (B n:Nat) (xs:List Int) (ss:List Sl) (j:Nat):Prop where
 len:ss.length=max l.length 1
 le:j≤l.length∧l.length≤60
 pw:FM.power n=true
 B2:3≤B
 xl:xs.length=B+n
 xb:∀ x∈xs,0≤x∧x≤18446744073709551615
 had:∀ k,k<j→(at' ss k).taken=true
 free:∀ k,j≤k→(at' ss k).taken=false
 gen:∀ k,(at' ss k).gen=0
 nexts:Nexts ss
 low:xs.take B=1::1::List.replicate (B-2) 0
 ch:∀ b:Nat,b<n→Cn ss (Cl.nth xs (B+b)).toNat (bk n b (l.drop (l.length-j)))
section
variable {l:List Pr} {B n:Nat} {xs:List Int} {ss:List Sl} {j:Nat}
theorem at_rep (n k:Nat):at' (List.replicate n .zero) k=.zero:=by
 simp only [at',List.getD,List.getElem?_replicate]
 split<;>rfl
theorem la_new (hl:l.length≤60) (hp:FM.power n=true) (hB:3≤B):La l B n (1::1::List.replicate (B-2+n) 0) (List.replicate (max l.length 1) .zero) 0:=by
 refine ⟨by simp,⟨Nat.zero_le _,hl⟩,hp,hB,by simp; omega,?_,fun k hk=>by omega,fun k _=>by rw [at_rep]; rfl,fun k=>by rw [at_rep]; rfl,fun k=>by rw [at_rep]; simp [Sl.zero,Nd.zero],?_,fun b hb=>?_⟩
 · intro x hx
   simp only [List.mem_cons,List.mem_replicate] at hx
   omega
 · obtain ⟨B,rfl⟩:∃ b,B=b+2:=⟨B-2,by omega⟩
   simp [List.take_replicate]
 · have e:Cl.nth (1::1::List.replicate (B-2+n) 0) (B+b)=0:=by
    obtain ⟨B,rfl⟩:∃ b,B=b+2:=⟨B-2,by omega⟩
    rw [show B+2+b=B+b+1+1 by omega]
    simp only [Cl.nth,List.getD,List.getElem?_cons_succ,List.getElem?_replicate]
    split<;>rfl
   rw [e,Nat.sub_zero,List.drop_length]
   exact .nil
theorem La.least (h:La l B n xs ss j) (hj:j<l.length):Least ss j:=
 ⟨by have:=h.len; omega,h.free j (Nat.le_refl _),fun k hk=>h.had k hk⟩
theorem La.cell (h:La l B n xs ss j) (s:Int) (hs:0≤s):B+(FM.bucket s n).toNat<xs.length:=by
 have:=bucket_lt h.pw s hs
 have:=h.xl
 omega
theorem drop_pat {l:List Pr} {j:Nat} (hj:j<l.length):l.drop (l.length-(j+1))=pat l (l.length-1-j)::l.drop (l.length-j):=by
 have e:l.length-(j+1)=l.length-1-j:=by omega
 rw [e,List.drop_eq_getElem_cons (by omega),show l.length-1-j+1=l.length-j by omega]
 congr 1
 simp [pat,List.getD,show l.length-1-j<l.length by omega]
theorem La.step (h:La l B n xs ss j) (hj:j<l.length) {p:Pr} (hp:pat l (l.length-1-j)=p):
 La l B n (xs.set (B+(FM.bucket (sm p.1) n).toNat) (j+1:Nat)) (ss.set j ⟨true,0,⟨p.1,p.2,sm p.1,Cl.nth xs (B+(FM.bucket (sm p.1) n).toNat)⟩⟩) (j+1):=by
 have hjs:=(h.least hj).1
 have hle:=h.le
 have hbd:=bucket_lt h.pw (sm p.1) (sm_bd p.1).1
 have hc:=h.cell (sm p.1) (sm_bd p.1).1
 obtain ⟨c,hce⟩:∃ c,c=(FM.bucket (sm p.1) n).toNat:=⟨_,rfl⟩
 have hci:FM.bucket (sm p.1) n=(c:Int):=by omega
 rw [← hce] at hc ⊢
 have hv:=Cl.getD_bd h.xb (B+c)
 refine ⟨by simp [h.len],by omega,h.pw,h.B2,by simp [h.xl],?_,fun k hk=>?_,fun k hk=>?_,fun k=>?_,?_,?_,fun b hb=>?_⟩
 · intro x hx
   rcases List.mem_or_eq_of_mem_set hx with q | rfl
   · exact h.xb x q
   · omega
 · rw [at_set hjs]
   split
   · rfl
   · exact h.had k (by omega)
 · rw [at_set hjs,if_neg (by omega)]
   exact h.free k (by omega)
 · rw [at_set hjs]
   split
   · rfl
   · exact h.gen k
 · exact h.nexts.set hjs _ hv
 · have:=h.low
   rw [List.take_set,List.set_eq_of_length_le (by simp; omega)]
   exact this
 · rw [drop_pat hj,hp,bk_cons,nth_set xs _ _ hc]
   have hold:=(h.ch b hb).set hjs (h.free j (Nat.le_refl _)) ⟨true,0,⟨p.1,p.2,sm p.1,Cl.nth xs (B+c)⟩⟩
   by_cases e:b=c
   · subst e
     rw [if_pos rfl,if_pos hci,Int.toNat_natCast]
     refine .cons (k:=j) (z:=(Cl.nth xs (B+b)).toNat) ?_ ?_ hold
     · rw [isAt_turn hjs,if_pos rfl]; exact ⟨rfl,by simp⟩
     · rw [at_set hjs,if_pos rfl]
       unfold ndp
       rw [Int.toNat_of_nonneg hv.1]
   · rw [if_neg (by omega),if_neg (by rw [hci]; omega)]
     exact hold
end
end Go.Proofs.YtkogifmjbmnpgaaGreat.Pc
