/- A part. -/
import Derived.Test.YtpanebgakndddaaGreatRetD
import Derived.Test.YtpanebgakndddaaGreatWaitMath
set_option linter.unusedVariables false
set_option linter.unusedSimpArgs false
namespace Go.Proofs.YtpanebgakndddaaGreat.Re
open Go Go.RowKit Hp K Fl Rw Hm Ar Mm Me Qs fk
set_option maxRecDepth 100000
theorem SY {ss:List Sl} {k:Nat} (hk:k<ss.length) (ht:(ai ss k).taken=true) (s:Sl) (hs:s.taken=false) (n:Nat):(du (ss.set k s) n).length=(du ss n).length+if k<n then 1 else 0:=by
 induction n with
 | zero=>simp [du]
 | succ n ih=>
   have h1:=at_set hk s n
   by_cases e:n=k
   ·subst e
    rw [if_pos rfl] at h1
    rw [tA (by rw [h1]; exact hs),tB ht,List.length_append,ih]
    simp
   ·rw [if_neg e] at h1
    have e2:(if k<n+1 then 1 else 0:Nat)=if k<n then 1 else 0:=by split<;>split<;>omega
    by_cases h:(ai ss n).taken=true
    ·rw [tB (by rw [h1]; exact h),tB h,ih,e2]
    ·have h:(ai ss n).taken=false:=by simpa using h
     rw [tA (by rw [h1]; exact h),tA h,List.length_append,List.length_append,ih,e2]
     simp only [List.length_cons,List.length_nil]
     omega
theorem SZ {ss:List Sl} {k:Nat} (hk:k<ss.length) (ht:(ai ss k).taken=false) (s:Sl) (hs:s.taken=true) (n:Nat):(du (ss.set k s) n).length+(if k<n then 1 else 0)=(du ss n).length:=by
 induction n with
 | zero=>simp [du]
 | succ n ih=>
   have h1:=at_set hk s n
   by_cases e:n=k
   ·subst e
    rw [if_pos rfl] at h1
    rw [tB (by rw [h1]; exact hs),tA ht,List.length_append,<-ih]
    simp
   ·rw [if_neg e] at h1
    have e2:(if k<n+1 then 1 else 0:Nat)=if k<n then 1 else 0:=by split<;>split<;>omega
    by_cases h:(ai ss n).taken=true
    ·rw [tB (by rw [h1]; exact h),tB h,<-ih]
     rw [e2]
    ·have h:(ai ss n).taken=false:=by simpa using h
     rw [tA (by rw [h1]; exact h),tA h,List.length_append,List.length_append,<-ih]
     rw [e2]
     simp only [List.length_cons,List.length_nil]
     omega
structure Wr (ss:List Sl) (ws left:List Nat) (B:Nat):Prop where
 room:ss.length<=1024
 nd:(ws++left).Nodup
 live:∀ x,x∈ws++left->∃ k,aY ss x k
 mQ:∀ k,(ai ss k).gen+(ws.length+left.length)<=B
 iF:(du ss ss.length).length+(ws.length+left.length)=ss.length
section
variable {ss:List Sl} {ws left:List Nat} {B:Nat}
theorem Wr.mono {B':Nat} (h:Wr ss ws left B) (hB:B<=B'):Wr ss ws left B':={h with mQ:=fun k=>Nat.le_trans (h.mQ k) hB}
theorem Wr.small (h:Wr ss ws left B) (hB:B<=1000000) {x:Nat} (hx:x∈ws++left):x<=18446744073709551615/\∃ k,aY ss x k/\(ai ss k).gen<=1000000:=by
 obtain ⟨k,hk⟩:=h.live x hx
 have h1:=h.mQ k
 have h2:=hk.1
 have h3:=hk.2.2
 have h4:=h.room
 exact ⟨by omega,k,hk,by omega⟩
theorem Wr.take (h:Wr ss ws [] B):Wr ss [] ws B:=⟨h.room,by simpa using h.nd,fun x hx=>h.live x (by simpa using hx),fun k=>by simpa using h.mQ k,by simpa using h.iF⟩
theorem Wr.free {x k:Nat} {r:List Nat} (h:Wr ss ws (x::r) B) (hk:aY ss x k):Wr (ik ss k) ws r B:=by
 have hlen:(ik ss k).length=ss.length:=by simp [ik]
 have bB:(x::(ws++r)).Nodup:=(List.perm_middle.nodup_iff).1 h.nd
 rw [List.nodup_cons] at bB
 refine ⟨by rw [hlen]; exact h.room,bB.2,fun y hy=>?_,fun j=>?_,?_⟩
 ·obtain ⟨j,hj⟩:=h.live y (by
   rcases List.mem_append.1 hy with q | q
   ·exact List.mem_append_left _ q
   ·exact List.mem_append_right _ (List.mem_cons_of_mem _ q))
  have tr:j≠k:=by
   rintro rfl
   have:y=x:=by rw [hj.2.2,hk.2.2]
   subst this
   exact bB.1 hy
  refine ⟨j,?_⟩
  unfold ik
  rw [ub hk.1,if_neg tr]
  exact hj
 ·have:=h.mQ j
  have h0:=h.mQ k
  simp only [List.length_cons] at this h0
  unfold ik
  rw [at_set hk.1]
  split
  ·show (ai ss k).gen+1+(ws.length+r.length)<=B; omega
  ·omega
 ·have:=h.iF
  simp only [List.length_cons] at this
  have e:(du (ik ss k) ss.length).length=(du ss ss.length).length+1:=by
   unfold ik
   rw [SY hk.1 hk.2.1 ⟨false,(ai ss k).gen+1,.zero⟩ rfl]
   rw [if_pos hk.1]
  rw [hlen,e]
  omega
theorem Wr.put {m:Nat} (h:Wr ss ws left B) (hm:Least ss m) (d:Nd):Wr (ss.set m ⟨true,(ai ss m).gen,d⟩) (ws++[(ai ss m).gen*65536+m+1]) left (B+1):=by
 have hlen:(ss.set m ⟨true,(ai ss m).gen,d⟩).length=ss.length:=by simp
 have nN:∀ y k,aY ss y k->k≠m:=by
  rintro y k hk rfl
  have:=hk.2.1
  rw [hm.2.1] at this
  simp at this
 have iM:((ai ss m).gen*65536+m+1)∉ws++left:=fun q=>by
  obtain ⟨k,hk⟩:=h.live _ q
  have:=hk.2.2
  have h1:=hk.1
  have h2:=h.room
  have h3:=hm.1
  exact nN _ _ hk (by omega)
 refine ⟨by rw [hlen]; exact h.room,?_,fun y hy=>?_,fun j=>?_,?_⟩
 ·rw [List.append_assoc]
  exact (List.perm_middle (l₁:=ws) (l₂:=left) (a:=(ai ss m).gen*65536+m+1)).nodup_iff.2 (List.nodup_cons.2 ⟨iM,h.nd⟩)
 ·have:y∈ws++left\/y=(ai ss m).gen*65536+m+1:=by
   simp only [List.mem_append,List.mem_singleton] at hy ⊢
   rcases hy with (q | q) | q
   ·exact .inl (.inl q)
   ·exact .inr q
   ·exact .inl (.inr q)
  rcases this with q | q
  ·obtain ⟨k,hk⟩:=h.live y q
   exact ⟨k,(ub hm.1 _ y k).2 (by rw [if_neg (nN y k hk)]; exact hk)⟩
  ·exact ⟨m,(ub hm.1 _ y m).2 (by rw [if_pos rfl]; exact ⟨rfl,q⟩)⟩
 ·have:=h.mQ j
  rw [at_set hm.1,List.length_append]
  simp only [List.length_cons,List.length_nil]
  split
  ·rename_i e
   subst e
   show (ai ss j).gen+_<=_
   omega
  ·omega
 ·have:=h.iF
  have e:=SZ hm.1 hm.2.1 ⟨true,(ai ss m).gen,d⟩ rfl ss.length
  rw [if_pos hm.1] at e
  rw [hlen,List.length_append]
  simp only [List.length_cons,List.length_nil]
  omega
end
theorem S1 (n:Nat):(du (List.replicate n Sl.zero) n).length=n:=by rw [E1 n n (Nat.le_refl _)]; simp
theorem at_rep (n k:Nat):ai (List.replicate n Sl.zero) k=Sl.zero:=by
 simp only [ai,List.getD,List.getElem?_replicate]
 split<;>rfl
theorem F3 (n:Nat) (hn:n<=1024):Wr (List.replicate n .zero) [] [] 0:=
 ⟨by simpa using hn,by simp,fun x hx=>by simp at hx,fun k=>by rw [at_rep]; simp [Sl.zero],by simpa using S1 n⟩
/-! ### a drain-/
structure Pd (n:Nat) (M:Mo) (D:Dr) (B:Nat):Prop where
 at_:D.at_<=2
 k:M.k=n
 hl:0<M.hs.length
 zero:D.at_=0->D.left=[]/\D.W.at_=0
 some:D.at_≠0->D.left≠[]
 wt:D.at_<=1->eB n M.xs M.hs D.W
 vB:D.at_<=1->D.W.at_<=1->D.W.bm=0
 wr:Wr M.ss M.ws D.left B
theorem Pd.yn {n:Nat} {M:Mo} {D:Dr} {B:Nat} (h:Pd n M D B) (hB:B<=1000000) (ha:D.left≠[]->∀ y,In D.A y->¬ao M y):pt n M D:=
 ⟨h.at_,h.k,h.hl,fun q=>(h.zero q).1,h.wt,h.some,fun x hx=>h.wr.small hB (List.mem_append_right _ hx),ha⟩
theorem Pd.step {n:Nat} {M:Mo} {D:Dr} {B:Nat} (h:Pd n M D B) (hr:fP M D=true) (hd:¬(D.at_=2/\D.left.tail=[])):Pd n (aO n M D).1 (aO n M D).2 B:=by
 have bO:=h.at_
 by_cases h0:D.at_=0
 ·have iR:M.ws≠[]:=by
   have:0<M.ws.length:=by simpa [fP,h0] using hr
   intro q; rw [q] at this; simp at this
  have e:aO n M D=({M with V:=none,capV:=0,ws:=[]},{D with A:=M.V,cap:=M.capV,left:=M.ws,at_:=1}):=by unfold aO; rw [if_pos h0]
  rw [e]
  have hw:=h.wr
  rw [(h.zero h0).1] at hw
  exact ⟨by simp,h.k,h.hl,fun q=>by simp at q,fun _=>iR,fun _=>h.wt (by omega),fun _=>h.vB (by omega),hw.take⟩
 by_cases h1:D.at_=1
 ·have okw:=h.wt (by omega)
  have eD:fQ M.xs M.hs D.W=true:=by simpa [fP,h1] using hr
  have e:aO n M D=({M with xs:=(aI n M.xs M.hs D.W).1,hs:=(aI n M.xs M.hs D.W).2.1},{D with W:=(aI n M.xs M.hs D.W).2.2,at_:=if D.W.at_=3 then 2 else 1}):=by unfold aO; rw [if_neg h0,if_pos h1]
  rw [e]
  have KQ:0<(aI n M.xs M.hs D.W).2.1.length:=by
   have:=h.hl
   unfold aI
   split
   ·simpa using this
   split
   ·exact this
   split
   ·exact this
   ·simpa using this
  by_cases h3:D.W.at_=3
  ·rw [if_pos h3]
   exact ⟨by simp,h.k,KQ,fun q=>by simp at q,fun _=>h.some h0,fun q=>by simp at q,fun q=>by simp at q,h.wr⟩
  ·rw [if_neg h3]
   refine ⟨by simp,h.k,KQ,fun q=>by simp at q,fun _=>h.some h0,fun _=>okw.step eD h3,fun _ q=>?_,h.wr⟩
   have hp:=h.vB (by omega)
   have dU:=okw.at_
   show (aI n M.xs M.hs D.W).2.2.bm=0
   have q:(aI n M.xs M.hs D.W).2.2.at_<=1:=q
   unfold aI at q ⊢
   split
   ·exact hp (by omega)
   ·rename_i g0
    rw [if_neg g0] at q
    split
    ·rename_i g1
     rw [if_pos g1] at q
     simp at q
    ·rename_i g1
     rw [if_neg g1] at q
     split
     ·rename_i g2
      rw [if_pos g2] at q
      have q:(if n<=D.W.bm+1 then 3 else 2)<=1:=q
      split at q<;>omega
     ·omega
 ·have h2:D.at_=2:=by omega
  obtain ⟨x,r,hl⟩:∃ x r,D.left=x::r:=by
   cases hh:D.left with
   | nil=>exact absurd hh (h.some h0)
   | cons x r=>exact ⟨x,r,rfl⟩
  have lU:r≠[]:=fun q=>hd ⟨h2,by rw [hl]; exact q⟩
  have hw:=h.wr
  rw [hl] at hw
  obtain ⟨k,hk⟩:=hw.live x (by simp)
  have fx:=CS hw.room hk
  have e:aO n M D=({M with ss:=ik M.ss k},{D with A:=gT D.A D.cap,cap:=D.cap-1,left:=r,at_:=2}):=by
   unfold aO; rw [if_neg h0,if_neg h1,hl]; simp [fx,lU]
  rw [e]
  exact ⟨by simp,h.k,h.hl,fun q=>by simp at q,fun _=>lU,fun q=>by simp at q,fun q=>by simp at q,hw.free hk⟩
theorem Pd.last {n:Nat} {M:Mo} {D:Dr} {B:Nat} (h:Pd n M D B) (hd:D.at_=2/\D.left.tail=[]):
 ∃ k,(aO n M D).1={M with ss:=ik M.ss k}/\(aO n M D).2.left=[]/\(aO n M D).2.at_=3/\(aO n M D).2.f=D.f/\(aO n M D).2.fw=D.fw/\(aO n M D).2.W=D.W/\Wr (ik M.ss k) M.ws [] B:=by
 obtain ⟨h2,ht⟩:=hd
 obtain ⟨x,r,hl⟩:∃ x r,D.left=x::r:=by
  cases hh:D.left with
  | nil=>exact absurd hh (h.some (by omega))
  | cons x r=>exact ⟨x,r,rfl⟩
 rw [hl] at ht
 simp only [List.tail_cons] at ht
 subst ht
 have hw:=h.wr
 rw [hl] at hw
 obtain ⟨k,hk⟩:=hw.live x (by simp)
 have fx:=CS hw.room hk
 have e:aO n M D=({M with ss:=ik M.ss k},{D with A:=gT D.A D.cap,cap:=D.cap-1,left:=[],at_:=3}):=by
  unfold aO; rw [if_neg (by omega),if_neg (by omega),hl]; simp [fx]
 rw [e]
 exact ⟨k,rfl,rfl,rfl,rfl,rfl,rfl,hw.free hk⟩
end Go.Proofs.YtpanebgakndddaaGreat.Re
