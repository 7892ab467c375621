/- Readers in a memory whose chains others turn: a get's own step (plain). -/
import Derived.Test.YtkogifmjbmnpgaaGreatWayA
set_option linter.unusedVariables false
set_option linter.unusedSimpArgs false
namespace Go.Proofs.YtkogifmjbmnpgaaGreat.Zp
open Go Hm Ar Mm Wk Pc Me Mq Pn Gt Qs
section
variable {Y:Wy} {L:Lm} {l:List Pr} {old:Int→Nat→Prop} {w k:Nat} {key:ByteArray} {G:Gt.Ge}
structure Stepped (Y:Wy) (L:Lm) (l:List Pr) (old:Int→Nat→Prop) (w:Nat) (key:ByteArray) (G:Gt.Ge) (k:Nat) (s:Gt.Gs):Prop where
 F:s.2.1=L.F
 pos:1≤k
 over:Gt.ggdn G=true→Gt.Fits (Pc.lk l key) s.2.2.W∧s.1=L.xs.set (2+w) 0
 go:Gt.ggdn G=false→(∃ k',k'+1≤k∧Rok Y {L with xs:=s.1} l old w key s.2.2 k')∧(s.1=L.xs∨s.1=L.xs.set (2+w) G.C.period)
theorem Rok.goes (hY:Y.Ok L l) (h:Rok Y L l old w key G k) (h3:G.nx=3) {W:Wa} {x:Nat} {q:List Mq.Hp} (hW:W.key=key∧W.sum=sm key∧W.found=0∧W.nd.val=⟨#[]⟩) (hc:Cx L.ss x q) (hst:Y.Pos (old G.C.period) key q)
 (hlk:Pc.lk (prs q) key=Pc.lk l key) (hr:W.read+q.length≤Y.cap) (hx:x≤18446744073709551615) (hcell: -9223372036854775808≤W.cell∧W.cell≤9223372036854775807):
 ∃ k',k'≤q.length+1∧Rok Y L l old w key {G with W:=goTo W x,nx:=if x=0 then 4 else 3} k':=by
 obtain ⟨w1,w2,w3,w4⟩:=hW
 have hcnt:=h.cnt
 have hpr:=h.pr.resolve_left (fun q=>by omega)
 rw [if_pos (by omega)] at hcnt
 by_cases h0:x=0
 · rw [if_pos h0]
   have hq:=hc.pos.1 h0
   refine ⟨1,by omega,⟨h.ky,h.sum,h.wk,h.gat,h.pd,by rw [if_pos (by simp)]; exact hcnt,.inr hpr,?_⟩⟩
   unfold goTo
   rw [if_pos h0]
   refine .leave (G:={G with W:={W with nx:=3},nx:=4}) rfl ?_
   rw [← hlk,hq]
   exact ⟨w4,by simp [w3,Pc.lk]⟩
 · rw [if_neg h0]
   refine ⟨q.length+1,Nat.le_refl _,⟨h.ky,h.sum,h.wk,h.gat,h.pd,by rw [if_pos (by simp)]; exact hcnt,.inr hpr,?_⟩⟩
   unfold goTo
   rw [if_neg h0]
   exact .look (G:={G with W:={W with at_:=x,nx:=2},nx:=3}) q rfl rfl w1 w2 w3 w4 (fun e=>h0 (hc.pos.2 e)) hc hst hlk hr hx hcell
theorem Rok.step (hY:Y.Ok L l) (hpub:Y.pub=false→∀ p e,old p e) (hw:(w:Int)<L.k) (h:Rok Y L l old w key G k):Stepped Y L l old w key G k (Gt.ggst L.ds L.ss (L.xs,L.F,G)):=by
 have hwl:=hY.wl w hw
 have hcnt:=h.cnt
 have hky:=h.ky
 have hsum:=h.sum
 have hwk:=h.wk
 have hgat:=h.gat
 have hpd:=h.pd
 have hfew:=hY.few
 have hph:=h.ph
 cases hph with
 | come a b=>
   have e:Gt.ggst L.ds L.ss (L.xs,L.F,G)=(L.xs,L.F,{G with C:={G.C with period:=Cl.nth L.xs 0,at_:=1}}):=by
    unfold Gt.ggst cstep
    simp only
    rw [if_pos a,if_pos b,if_neg (by omega)]
    cases G; simp only at a; subst a; rfl
   rw [e]
   refine ⟨rfl,by omega,fun q=>by unfold Gt.ggdn at q; simp at q; omega,fun _=>⟨⟨Y.few+4,by omega,⟨hky,hsum,hwk,hgat,Cl.getD_bd hY.xb 0,?_,.inr ⟨hY.p1,Int.le_refl _⟩,.put a rfl⟩⟩,.inl rfl⟩⟩
   rw [if_neg (by omega)] at hcnt
   show Cl.nth L.xs (2+w)=_
   rw [if_neg (by simp only; omega)]
   exact hcnt
 | put a b=>
   have e:Gt.ggst L.ds L.ss (L.xs,L.F,G)=(L.xs.set (2+w) G.C.period,L.F,{G with C:={G.C with at_:=2},nx:=2}):=by
    unfold Gt.ggst cstep
    simp only
    rw [if_pos a,if_neg (by omega),if_pos b,hwk]
   rw [e]
   refine ⟨rfl,by omega,fun q=>by unfold Gt.ggdn at q; simp at q; omega,fun _=>⟨⟨Y.few+3,by omega,⟨hky,hsum,hwk,hgat,hpd,?_,?_,.load rfl⟩⟩,.inr rfl⟩⟩
   case refine_2=>
    refine .inr ?_
    show 1≤G.C.period∧G.C.period≤Cl.nth (L.xs.set (2+w) G.C.period) 0
    rw [nth_set _ _ _ hwl,if_neg (by omega)]
    exact h.pr.resolve_left (fun q=>by omega)
   show Cl.nth (L.xs.set (2+w) G.C.period) (2+w)=_
   rw [nth_set _ _ _ hwl,if_pos rfl,if_pos (by simp)]
 | load a=>
   have e:Gt.ggst L.ds L.ss (L.xs,L.F,G)=(L.xs,L.F,{G with W:=new 0 (Gt.cellOf G.sum (now L.xs L.ds)) G.sum G.key,nx:=3}):=by
    unfold Gt.ggst
    simp only
    rw [if_neg (by omega),if_pos a]
   rw [e]
   rw [if_pos (by omega)] at hcnt
   obtain ⟨c,hc1,hc2⟩:=hY.now (old G.C.period) key (fun q=>hpub q _)
   refine ⟨rfl,by omega,fun q=>by unfold Gt.ggdn at q; simp at q; omega,fun _=>⟨⟨Y.few+2,by omega,⟨hky,hsum,hwk,hgat,hpd,by rw [if_pos (by simp)]; exact hcnt,.inr (h.pr.resolve_left (fun q=>by omega)),?_⟩⟩,.inl rfl⟩⟩
   exact .first c rfl (by simp only; rw [hsum,hky,hc1]) (hY.cel hc2).1 hc2
 | first c a b hcb hc=>
   have e:Gt.ggst L.ds L.ss (L.xs,L.F,G)=(L.xs,L.F,{G with W:=goTo {new 0 (c:Int) (sm key) key with first:=word L.xs c} (word L.xs c),nx:=if word L.xs c=0 then 4 else 3}):=by
    unfold Gt.ggst
    simp only
    rw [if_neg (by omega),if_neg (by omega),if_pos a]
    have hg:Wk.gstep L.xs L.ss (L.F,G.W)=(L.F,goTo {new 0 (c:Int) (sm key) key with first:=word L.xs c} (word L.xs c)):=by
     unfold Wk.gstep
     simp only
     rw [b,if_pos (show (new 0 (c:Int) (sm key) key).nx=1 from rfl),show (new 0 (c:Int) (sm key) key).cell=(c:Int) from rfl]
    have hdn:Wk.gdone L.xs L.ss (L.F,G.W)=decide (word L.xs c=0):=by
     unfold Wk.gdone
     rw [hg]
     exact goTo_nx _ _
    rw [hg,hdn]
    simp
   rw [e]
   have hwb:=word_bd hY.xb (c:Int)
   obtain ⟨_,q,q1,q2,q3,q4⟩:=hY.cel hc
   obtain ⟨k',hk',hR⟩:=Rok.goes hY h a (W:={new 0 (c:Int) (sm key) key with first:=word L.xs c}) (x:=word L.xs c) ⟨rfl,rfl,rfl,rfl⟩ q1 q2 q3 (by simp only [new]; omega) hwb (by simp only [new]; omega)
   exact ⟨rfl,by omega,fun q=>by unfold Gt.ggdn at q; simp at q; omega,fun _=>⟨⟨k',by omega,hR⟩,.inl rfl⟩⟩
 | look q a1 a2 a3 a4 a5 a6 a7 a8 a9 a10 a11 a12 a13=>
   generalize hat:G.W.at_=wat at a8
   cases a8 with
   | nil=>exact absurd rfl a7
   | @cons _ j z p t c1 c2 c3=>
     rw [← hat] at c1
     have hp:=(pl_some hY.len).2 c1
     have hst:Wk.gstep L.xs L.ss (L.F,G.W)=(L.F,looks G.W (ndp p z)):=by
      unfold Wk.gstep
      simp only
      rw [if_neg (by omega),if_pos a2,hp]
      show (L.F,looks G.W (at' L.ss j).nd)=_
      rw [c2]
     have hit_iff:hit G.W (ndp p z)=decide (p.1=key):=by
      unfold hit ndp
      simp only [a3,a4,decide_eq_decide]
      exact ⟨fun q=>q.2,fun q=>⟨by rw [q],q⟩⟩
     have hz:z≤18446744073709551615:=by
      have:=(hY.nexts j).2
      rw [c2] at this
      unfold ndp at this
      simp only at this
      omega
     have hdn:Wk.gdone L.xs L.ss (L.F,G.W)=(decide (p.1=key)||decide (z=0)):=by
      unfold Wk.gdone
      rw [hst]
      show decide (3≤(looks G.W (ndp p z)).nx)=_
      rw [looks_nx]
      unfold lookD
      rw [hit_iff]
      rfl
     have e:Gt.ggst L.ds L.ss (L.xs,L.F,G)=(L.xs,L.F,{G with W:=looks G.W (ndp p z),nx:=if (decide (p.1=key)||decide (z=0))=true then 4 else 3}):=by
      unfold Gt.ggst
      simp only
      rw [if_neg (by omega),if_neg (by omega),if_pos a1,hst,hdn]
     rw [e]
     have hc0:G.W.at_≠0:=fun e=>by have:=c1.pos; omega
     simp only [List.length_cons] at a11
     rw [if_pos (by omega)] at hcnt
     by_cases hk:p.1=key
     · rw [if_pos (by simp [hk])]
       have hl:looks G.W (ndp p z)={G.W with read:=G.W.read+1,found:=G.W.at_,nd:=ndp p z,nx:=3}:=by
        unfold looks
        rw [hit_iff,if_pos (by simp [hk])]
       rw [hl]
       refine ⟨rfl,by simp,fun q=>by unfold Gt.ggdn at q; simp at q; omega,fun _=>⟨⟨1,by simp,⟨hky,hsum,hwk,hgat,hpd,by rw [if_pos (by simp)]; exact hcnt,.inr (h.pr.resolve_left (fun q=>by omega)),?_⟩⟩,.inl rfl⟩⟩
       refine .leave (G:={G with W:={G.W with read:=G.W.read+1,found:=G.W.at_,nd:=ndp p z,nx:=3},nx:=4}) rfl ?_
       rw [← a10]
       simp only [prs,List.map_cons,Pc.lk]
       rw [if_pos hk]
       exact ⟨rfl,by simp [hc0]⟩
     · have hl:looks G.W (ndp p z)=goTo {G.W with read:=G.W.read+1,prev:=G.W.at_} z:=by
        unfold looks
        rw [hit_iff,if_neg (by simp [hk])]
        rfl
       rw [hl]
       have hnx:(if (decide (p.1=key)||decide (z=0))=true then 4 else 3:Nat)=if z=0 then 4 else 3:=by simp [hk]
       rw [hnx]
       have a10':Pc.lk (prs t) key=Pc.lk l key:=by
        rw [← a10]
        simp only [prs,List.map_cons,Pc.lk]
        rw [if_neg hk]
       obtain ⟨k',hk',hR⟩:=Rok.goes hY h a1 (W:={G.W with read:=G.W.read+1,prev:=G.W.at_}) (x:=z) ⟨a3,a4,a5,a6⟩ c3 (hY.next a9) a10' (by simp only; omega) hz a13
       exact ⟨rfl,by simp,fun q=>by unfold Gt.ggdn at q; simp at q; omega,fun _=>⟨⟨k',by simp only [List.length_cons]; omega,hR⟩,.inl rfl⟩⟩
 | leave a b=>
   have e:Gt.ggst L.ds L.ss (L.xs,L.F,G)=(L.xs.set (2+w) 0,L.F,{G with gat:=1}):=by
    unfold Gt.ggst
    simp only
    rw [if_neg (by omega),if_neg (by omega),if_neg (by omega),hwk]
   rw [e]
   exact ⟨rfl,by omega,fun _=>⟨b,rfl⟩,fun q=>by unfold Gt.ggdn at q; simp at q; omega⟩
end
end Go.Proofs.YtkogifmjbmnpgaaGreat.Zp
