/- Those who get keys again and again in a memory whose chains others turn; one who waits for them (plain). -/
import Derived.Test.YtkogifmjbmnpgaaGreatWayB
import Derived.Test.YtkogifmjbmnpgaaGreatQsbrD
set_option linter.unusedVariables false
set_option linter.unusedSimpArgs false
namespace Go.Proofs.YtkogifmjbmnpgaaGreat.Zp
open Go Hm Ar Mm Wk Pc Me Mq Pn Gt Qs
def oldW (W:Wt) (w:Nat) (p:Int) (_:Nat):Prop:=W.at_≤1∨(W.at_=2∧W.passed≤w∧p<W.period)
theorem oldW_over {W:Wt} (h:3≤W.at_) (w:Nat) (p:Int) (e:Nat):¬oldW W w p e:=by
 rintro (q | q)<;>omega
section
variable {Y:Wy} {L:Lm} {l:List Pr} {w k n:Nat} {key:ByteArray} {G:Gt.Ge} {W:Wt}
theorem sum64_in {x:Int} (h0:0≤x) (h1:x≤4611686018427387904):Cl.sum64 x 1=x+1:=by
 unfold Cl.sum64
 omega
theorem Rok.waits (hY:Y.Ok L l) (hb:Cl.nth L.xs 0≤4611686018427387904) (hr:readyB L.xs L.hs W=true) (hp0:W.at_≤1→W.passed=0) (h3:W.at_≤3) (hw:w<n) (hn:(n:Int)≤L.k) (h:Rok Y L l (oldW W w) w key G k):
 Rok Y {L with xs:=(wstep n L.xs L.hs W).1,hs:=(wstep n L.xs L.hs W).2.1} l (oldW (wstep n L.xs L.hs W).2.2 w) w key G k:=by
 have hk:=hY.k
 have hxl:=hY.wl 0 (by omega)
 have h0:=Cl.getD_bd hY.xb 0
 have hs:=sum64_in h0.1 hb
 unfold wstep
 split
 · have ho:2≤G.nx→∀ e,oldW W w G.C.period e→oldW {W with at_:=1} w G.C.period e:=fun _ _ _=>.inl (by simp)
   exact h.to (L':={L with hs:=L.hs.set 0 W.worker}) rfl (Int.le_refl _) rfl rfl (Nat.le_refl _) (fun _ hx=>hY.celm (ho hx)) (fun _ hx=>hY.mono (ho hx))
 split
 · rename_i h1
   have hn:∀ i,i≠0→Cl.nth (L.xs.set 0 (Cl.sum64 (Cl.nth L.xs 0) 1)) i=Cl.nth L.xs i:=fun i hi=>by
    rw [nth_set _ _ _ (by omega),if_neg hi]
   have ho:2≤G.nx→∀ e,oldW W w G.C.period e→oldW {W with period:=Cl.sum64 (Cl.nth L.xs 0) 1,at_:=2} w G.C.period e:=fun hx _ _=>by
    refine .inr ⟨rfl,?_,?_⟩
    · show W.passed≤w
      rw [hp0 (by omega)]
      exact Nat.zero_le _
    · show G.C.period<Cl.sum64 (Cl.nth L.xs 0) 1
      rw [hs]
      have:=h.pr.resolve_left (fun q=>by omega)
      omega
   refine h.to (L':={L with xs:=L.xs.set 0 (Cl.sum64 (Cl.nth L.xs 0) 1)}) (hn _ (by omega)) ?_ rfl rfl (Nat.le_refl _) (fun _ hx=>hY.celm (ho hx)) (fun _ hx=>hY.mono (ho hx))
   show _≤Cl.nth (L.xs.set 0 (Cl.sum64 (Cl.nth L.xs 0) 1)) 0
   rw [nth_set _ _ _ (by omega),if_pos rfl,hs]
   omega
 split
 · rename_i h2
   refine h.mono hY fun hx _ ho=>?_
   have hc:=h.cnt
   rw [if_pos hx] at hc
   have hp:=h.pr.resolve_left (fun q=>by omega)
   rcases ho with q | ⟨_,q1,q2⟩
   · omega
   unfold readyB passB at hr
   rw [if_neg (by omega),if_pos h2] at hr
   have hr:=of_decide_eq_true hr
   have hne:W.passed≠w:=by
    intro e
    rw [e,hc] at hr
    omega
   refine .inr ⟨?_,?_,q2⟩
   · show (if n≤W.passed+1 then 3 else 2)=2
     rw [if_neg (by omega)]
   · show W.passed+1≤w
     omega
 · have ho:2≤G.nx→∀ e,oldW W w G.C.period e→oldW {W with at_:=4} w G.C.period e:=fun _ _ ho=>by
    rcases ho with q | q<;>omega
   exact h.to (L':={L with hs:=L.hs.set 0 (-1)}) rfl (Int.le_refl _) rfl rfl (Nat.le_refl _) (fun _ hx=>hY.celm (ho hx)) (fun _ hx=>hY.mono (ho hx))
end
structure Rn where
 w:Nat
 keys:List ByteArray
 g:Option Gt.Ge
 n:Nat
def Rn.key (R:Rn):ByteArray:=R.keys.getD (R.n % R.keys.length) ⟨#[]⟩
def Rn.get (R:Rn):Gt.Ge:=R.g.getD (Gt.newGet R.w R.key)
def Rn.st (R:Rn) (L:Lm):Gt.Gs:=Gt.ggst L.ds L.ss (L.xs,L.F,R.get)
def Rn.next (R:Rn) (L:Lm):Rn:=if Gt.ggdn R.get=true then {R with g:=none,n:=R.n+1} else {R with g:=some (R.st L).2.2}
def Rn.mem (R:Rn) (L:Lm):Lm:={L with xs:=(R.st L).1,F:=(R.st L).2.1}
def RnOk (Y:Wy) (L:Lm) (l:List Pr) (old:Nat→Int→Nat→Prop) (R:Rn) (k:Nat):Prop:=
 match R.g with
 | none=>Cl.nth L.xs (2+R.w)=0∧k=0
 | some G=>Rok Y L l (old R.w) R.w R.key G k
section
variable {Y Y':Wy} {L L':Lm} {l:List Pr} {old old':Nat→Int→Nat→Prop} {R O:Rn} {k k':Nat}
theorem RnOk.busy (h:RnOk Y L l old R k) (hg:R.g.isSome=true):1≤k:=by
 unfold RnOk at h
 split at h
 · rename_i q; rw [q] at hg; simp at hg
 · exact h.ph.pos
theorem RnOk.get (h:RnOk Y L l old R k):∃ j,Rok Y L l (old R.w) R.w R.key R.get j∧(R.g.isSome=true→j=k)∧j≤k+Y.few+5:=by
 unfold RnOk at h
 unfold Rn.get
 split at h
 · rename_i q
   rw [q]
   exact ⟨_,Rok.begin h.1,fun q=>by simp at q,by omega⟩
 · rename_i G q
   rw [q]
   exact ⟨k,h,fun _=>rfl,by omega⟩
theorem RnOk.counter (h:RnOk Y L l old O k) {i:Nat} {p:Int} (hi:i≠O.w):RnOk Y {L with xs:=L.xs.set (2+i) p} l old O k:=by
 unfold RnOk at h ⊢
 split
 · rename_i q
   rw [q] at h
   refine ⟨?_,h.2⟩
   show Cl.nth (L.xs.set (2+i) p) _=_
   by_cases hl:2+i<L.xs.length
   · rw [nth_set _ _ _ hl,if_neg (by omega)]
     exact h.1
   · rw [List.set_eq_of_length_le (by omega)]
     exact h.1
 · rename_i G q
   rw [q] at h
   exact h.other hi
theorem RnOk.moved (h:RnOk Y L l old R k) (hc:Cl.nth L'.xs (2+R.w)=Cl.nth L.xs (2+R.w)) (h0:Cl.nth L.xs 0≤Cl.nth L'.xs 0) (hs:L'.ss=L.ss):RnOk Y L' l old R k:=by
 unfold RnOk at h ⊢
 split
 · rename_i q
   rw [q] at h
   exact ⟨hc.trans h.1,h.2⟩
 · rename_i G q
   rw [q] at h
   exact h.moved hc h0 hs
theorem RnOk.to {L':Lm} (h:RnOk Y L l old R k) (hc:Cl.nth L'.xs (2+R.w)=Cl.nth L.xs (2+R.w)) (h0:Cl.nth L.xs 0≤Cl.nth L'.xs 0) (hs:L'.ss=L.ss) (hf:Y'.few=Y.few) (hcp:Y.cap≤Y'.cap)
 (hC:∀ key c p,Y.Cel (old R.w p) key c→Y'.Cel (old' R.w p) key c) (hP:∀ key q p,Y.Pos (old R.w p) key q→Y'.Pos (old' R.w p) key q):RnOk Y' L' l old' R k:=by
 unfold RnOk at h ⊢
 split
 · rename_i q
   rw [q] at h
   exact ⟨hc.trans h.1,h.2⟩
 · rename_i G q
   rw [q] at h
   exact h.to hc h0 hs hf hcp (fun _ _=>hC _ _ _) (fun _ _=>hP _ _ _)
theorem RnOk.waits {n:Nat} {W:Wt} (hY:Y.Ok L l) (hb:Cl.nth L.xs 0≤4611686018427387904) (hr:readyB L.xs L.hs W=true) (hp0:W.at_≤1→W.passed=0) (h3:W.at_≤3) (hw:R.w<n) (hn:(n:Int)≤L.k) (h:RnOk Y L l (oldW W) R k):
 RnOk Y {L with xs:=(wstep n L.xs L.hs W).1,hs:=(wstep n L.xs L.hs W).2.1} l (oldW (wstep n L.xs L.hs W).2.2) R k:=by
 unfold RnOk at h ⊢
 split
 · rename_i q
   rw [q] at h
   refine ⟨?_,h.2⟩
   show Cl.nth (wstep n L.xs L.hs W).1 _=_
   unfold wstep
   split
   · exact h.1
   split
   · have hxl:=hY.wl R.w (by omega)
     show Cl.nth (L.xs.set 0 _) _=_
     rw [nth_set _ _ _ (by omega),if_neg (by omega)]
     exact h.1
   split<;>exact h.1
 · rename_i G q
   rw [q] at h
   exact Rok.waits hY hb hr hp0 h3 hw hn h
theorem RnOk.step (hY:Y.Ok L l) (hpub:Y.pub=false→∀ w p e,old w p e) (hw:(R.w:Int)<L.k) (hne:R.w≠O.w) (h:RnOk Y L l old R k) (hO:RnOk Y L l old O k'):
 (∀ r,r≤4000000000000000000→Okg r L.ds L.ss L.xs R.get)∧(Gt.ggdn R.get=true→Gt.Fits (Pc.lk l R.key) (R.st L).2.2.W)∧(R.mem L).F=false∧((∃ p,0≤p∧p≤18446744073709551615∧R.mem L={L with xs:=L.xs.set (2+R.w) p})∨R.mem L=L)∧RnOk Y (R.mem L) l old O k'∧
   ∃ j,RnOk Y (R.mem L) l old (R.next L) j∧(R.g.isSome=true→j+1≤k)∧j≤k+Y.few+5∧((R.next L).g.isSome=false→j=0):=by
 obtain ⟨j,hj,hj1,hj2⟩:=h.get
 have hs:=hj.step hY (fun q=>hpub q _) hw
 have hokg:=fun r hr=>hj.okg hY hw r hr
 have hwl:=hY.wl _ hw
 obtain ⟨s1,s2,s3,s4⟩:=hs
 have hF:(R.st L).2.1=L.F:=s1
 have hFm:(R.mem L).F=L.F:=hF
 have hmem:∀ p,(R.st L).1=L.xs.set (2+R.w) p→R.mem L={L with xs:=L.xs.set (2+R.w) p}:=fun p e=>by
  unfold Rn.mem
  rw [e,hF]
 have hsame:(R.st L).1=L.xs→R.mem L=L:=fun e=>by
  unfold Rn.mem
  rw [e,hF]
 refine ⟨hokg,fun q=>(s3 q).1,hFm.trans hY.F,?_⟩
 cases hd:Gt.ggdn R.get with
 | true=>
   have e:=(s3 hd).2
   have em:=hmem 0 e
   have hnx:R.next L={R with g:=none,n:=R.n+1}:=by unfold Rn.next; rw [if_pos hd]
   rw [em,hnx]
   refine ⟨.inl ⟨0,by omega,by omega,rfl⟩,hO.counter hne,0,⟨?_,rfl⟩,fun q=>?_,by omega,fun _=>rfl⟩
   · show Cl.nth (L.xs.set (2+R.w) 0) (2+R.w)=0
     rw [nth_set _ _ _ hwl,if_pos rfl]
   · have:=h.busy q
     omega
 | false=>
   obtain ⟨⟨i,hi,hR⟩,hx⟩:=s4 hd
   have hnx:R.next L={R with g:=some (R.st L).2.2}:=by unfold Rn.next; rw [if_neg (by simp [hd])]
   rw [hnx]
   have hmx:R.mem L={L with xs:=(R.st L).1}:=by unfold Rn.mem; rw [hF]
   have hOk:((∃ p,0≤p∧p≤18446744073709551615∧R.mem L={L with xs:=L.xs.set (2+R.w) p})∨R.mem L=L)∧RnOk Y (R.mem L) l old O k':=by
    rcases hx with e | e
    · rw [hsame e]
      exact ⟨.inr rfl,hO⟩
    · rw [hmem _ e]
      exact ⟨.inl ⟨_,hj.pd.1,hj.pd.2,rfl⟩,hO.counter hne⟩
   refine ⟨hOk.1,hOk.2,i,?_,fun q=>by have:=hj1 q; omega,by omega,fun q=>by simp at q⟩
   rw [hmx]
   exact hR
end
end Go.Proofs.YtkogifmjbmnpgaaGreat.Zp
