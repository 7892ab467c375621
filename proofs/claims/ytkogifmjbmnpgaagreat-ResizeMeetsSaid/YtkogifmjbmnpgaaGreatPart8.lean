/- Walks and plain mathematics, put together in their order: RzD, RzE, TenB, RzH, RzU, RzV, RzW, RzX. -/
import Derived.Test.YtkogifmjbmnpgaaGreatPart7
import Derived.Deep.DeepCutAuto
import Derived.Deep.CutBlock
import Derived.StillTailTactics
import Derived.BigRegion
import Derived.Test.YtkogifmjbmnpgaaGreatFnvWalk
set_option linter.unusedVariables false
set_option linter.unusedSimpArgs false
namespace Go.Proofs.YtkogifmjbmnpgaaGreat.Zr
open Go Hm Ar Mm Wk Pc Me Mq Pu Pn Gt Qs Zp Mx LawTh Bs
theorem allh_add (C:Nat→List Mq.Hp) (m:Nat):∀ k,allh (m+k) C=allh m C++allh k fun e=>C (e+m):=by
 intro k
 induction k with
 | zero=>simp [allh]
 | succ k ih=>
   rw [← Nat.add_assoc,allh_succ,allh_succ,ih,Nat.add_comm m k,List.append_assoc]
theorem allh_zip (A B:Nat→List Mq.Hp):∀ k,(allh k A++allh k B).Perm (allh k fun e=>A e++B e):=by
 intro k
 induction k with
 | zero=>simp [allh]
 | succ k ih=>
   rw [allh_succ,allh_succ,allh_succ]
   have e:hds (A k++B k)=hds (A k)++hds (B k):=by simp [hds]
   simp only [e]
   have h1:(allh k A++hds (A k)++(allh k B++hds (B k))).Perm (allh k A++allh k B++(hds (A k)++hds (B k))):=by
    rw [List.append_assoc,List.append_assoc,← List.append_assoc (hds (A k)),← List.append_assoc (allh k B)]
    exact List.Perm.append_left _ (List.Perm.append_right _ List.perm_append_comm)
   exact h1.trans (List.Perm.append_right _ ih)
theorem allh_perm {A B:Nat→List Mq.Hp} (k:Nat) (h:∀ e,e<k→(hds (A e)).Perm (hds (B e))):(allh k A).Perm (allh k B):=by
 induction k with
 | zero=>exact List.Perm.refl _
 | succ k ih=>
   rw [allh_succ,allh_succ]
   exact (ih fun e he=>h e (by omega)).append (h k (by omega))
theorem perm_grown (n:Nat) (hn:0<n) (All:Nat→List Mq.Hp):(allh (2*n) fun b=>(All (b % n)).filter fun a=>sd n a.2.1==decide (n≤b)).Perm (allh n All):=by
 rw [show 2*n=n+n by omega,allh_add]
 refine (allh_zip _ _ n).trans (allh_perm n fun e he=>?_)
 simp only [Nat.add_mod_right,Nat.mod_eq_of_lt he]
 rw [show decide (n≤e)=false by simp; omega,show decide (n≤e+n)=true by simp]
 refine List.Perm.map _ ?_
 have:=List.filter_append_perm (fun a:Mq.Hp=>sd n a.2.1==false) (All e)
 have e1:(fun a:Mq.Hp=> !(sd n a.2.1==false))=fun a=>sd n a.2.1==true:=funext fun a=>by cases sd n a.2.1<;>rfl
 rw [e1] at this
 exact this
theorem perm_shrunk (n:Nat) (C:Nat→List Mq.Hp):(allh n fun e=>C e++C (e+n)).Perm (allh (2*n) C):=by
 rw [show 2*n=n+n by omega,allh_add]
 exact (allh_zip _ _ n).symm
section
variable {L0:Lm} {H:List Nat} {N:Num} {s:Nat} {l:List Pr} {D D':Dz} {L L':Lm} {R R':Rz} {m m' c c':Nat} {old old':Nat→Int→Nat→Prop} {Y:Rs}
theorem Goes.of {j:Nat} (e:rstep L R=(L',R')) (hm:m'+1≤m) (hcj:c'+j≤c) (hJ:J L0 H N s l D' old' L' R' m' c') (hD:D'.Ok l L') (hB:Bside l D L old D' L' old' j) (h3:∀ i:Nat,(i:Int)<L.k→Cl.nth L'.xs (2+i)=Cl.nth L.xs (2+i)) (hk:L'.k=L.k):Goes L0 H N s l D old L R m c:=by
 refine ⟨D',old',m',c',j,hm,hcj,?_⟩
 rw [e]
 exact ⟨hJ,hD,hB,h3,hk⟩
theorem hol0 {hs:List Int} (h:Lo.hol hs 0= -1) (hl:hs.length=6) (i:Nat) (v:Int) (hi:1≤i∧i≤5):Lo.hol (hs.set i v) 0= -1∧(hs.set i v).length=6:=by
 refine ⟨?_,by simpa using hl⟩
 rw [hol_set _ _ _ (by omega),if_neg (by omega)]
 exact h
theorem J.take (h:J L0 H N s l D old L R m c) (hD:D.Ok l L) (hx:1≤R.nx∧R.nx≤5):Goes L0 H N s l D old L R m c:=by
 obtain ⟨hc,hp⟩:=h
 have hpd:=hc.pd
 cases hp with
 | take Y cst x t a q hw hm hac hcap hcx hct=>
   have hD:Bs.Rest l Y L:=hD
   obtain ⟨i,hi⟩:∃ i,i=lockOf R.nx:=⟨_,rfl⟩
   have hi5:1≤i∧i≤5:=by rw [hi]; unfold lockOf; split<;>omega
   obtain ⟨l0,l6⟩:=hol0 hD.hol.1 hc.hl i R.worker hi5
   have hD2:=Rest.locks hD l0 (by rw [l6]; omega)
   have hF:hsF (R.nx+1) R.worker i=R.worker:=by
    rw [hi]
    unfold hsF lockOf
    by_cases q1:R.nx=1
    · rw [if_pos q1,if_pos rfl,if_pos (by omega)]
    · rw [if_neg q1,if_neg (by omega),if_pos (by omega)]
   have hF2:∀ j,1≤j→j≤5→j≠i→hsF (R.nx+1) R.worker j=hsF R.nx R.worker j:=fun j a b e=>by
    have e:j≠lockOf R.nx:=by rw [← hi]; exact e
    unfold lockOf at e
    unfold hsF
    by_cases q5:j=5
    · rw [if_pos q5,if_pos q5]
      by_cases q1:R.nx=1
      · rw [if_pos q1] at e; omega
      · rw [if_pos (by omega),if_pos (by omega)]
    · rw [if_neg q5,if_neg q5]
      by_cases q1:R.nx=1
      · rw [if_neg (by omega),if_neg (by omega)]
      · rw [if_neg q1] at e
        by_cases q2:j+2≤R.nx
        · rw [if_pos (by omega),if_pos (by omega)]
        · rw [if_neg (by omega),if_neg (by omega)]
   have hset:=hsF_set hc.hl hc.hs hi5 hF hF2
   have hkp:Kp L0 {L with hs:=L.hs.set i R.worker}:=hc.kp.more rfl rfl rfl rfl
   have hside:Bside l (.rest Y) L old (.rest Y) {L with hs:=L.hs.set i R.worker} old 0:=fun R k _ hR=>⟨k,Nat.le_refl _,hR.moved rfl (Int.le_refl _) rfl⟩
   by_cases h5:R.nx=5
   · have hi4:i=4:=by rw [hi]; unfold lockOf; rw [if_neg (by omega)]; omega
     have es:rstep L R=({L with hs:=L.hs.set i R.worker},look {L with hs:=L.hs.set i R.worker} R):=by
      unfold rstep
      rw [if_neg (by omega),if_neg (by omega),if_neg (by omega),if_pos h5,hi4]
      rfl
     have hc2:Rc L0 H N s (.rest Y) {L with hs:=L.hs.set i R.worker} {R with nx:=6} (m-1):=hc.to (R':={R with nx:=6}) ⟨rfl,rfl⟩ hc.err (by show Cl.nth L.xs 0+_≤_; omega) hkp l6 (fun j a b=>by rw [hset j a b,h5]) (List.Perm.refl _)
     obtain ⟨D',old',g1,g2,g3⟩:=looked (c:=c) hc2 hD2 hw hcx hct hcap (by omega) hac rfl
     have hlk:look {L with hs:=L.hs.set i R.worker} {R with nx:=6}=look {L with hs:=L.hs.set i R.worker} R:=by unfold look; rfl
     rw [hlk] at g1
     exact Goes.of (m':=m-1) (c':=c) (j:=0) es (by omega) (by omega) g1 g2 (fun R k hk hR=>by
      obtain ⟨k1,a1,a2⟩:=hside R k hk hR
      obtain ⟨k2,b1,b2⟩:=g3 R k1 hk a2
      exact ⟨k2,by omega,b2⟩) (fun _ _=>rfl) rfl
   · have es:rstep L R=({L with hs:=L.hs.set i R.worker},{R with nx:=R.nx+1}):=by
      unfold rstep
      rw [if_neg (by omega)]
      by_cases q1:R.nx=1
      · rw [if_pos q1,hi,q1]; rfl
      · rw [if_neg q1,if_pos (by omega),hi]
        unfold lockOf
        rw [if_neg q1]
     exact Goes.of (m':=m-1) (c':=c) (j:=0) es (by omega) (by omega) ⟨hc.to (R':={R with nx:=R.nx+1}) ⟨rfl,rfl⟩ hc.err (by show Cl.nth L.xs 0+_≤_; omega) hkp l6 hset (List.Perm.refl _),.take Y cst x t a ⟨by simp only; omega,by simp only; omega⟩ hw (by simp only; omega) hac hcap hcx hct⟩ hD2 hside (fun _ _=>rfl) rfl
 | gro Z G ls mi ci cst x t d e1 _ _ _ _ _ _ _ _ _ _ _=>omega
 | shr Z G ls mi ci cst x t a d e1 _ _ _ _ _ _ _ _ _ _ _ _=>omega
 | free Y q _ _ _=>omega
theorem J.free (h:J L0 H N s l D old L R m c) (hD:D.Ok l L) (hx:7≤R.nx∧R.nx≤10):Goes L0 H N s l D old L R m c:=by
 obtain ⟨hc,hp⟩:=h
 have hpd:=hc.pd
 cases hp with
 | free Y q hn hm hxd=>
   have hD:Bs.Rest l Y L:=hD
   obtain ⟨l0,l6⟩:=hol0 hD.hol.1 hc.hl (11-R.nx) (-1) (by omega)
   have hD2:=Rest.locks hD l0 (by rw [l6]; omega)
   have hF:hsF (R.nx+1) R.worker (11-R.nx)= -1:=by
    unfold hsF
    rw [if_neg (by omega),if_neg (by omega)]
   have hF2:∀ j,1≤j→j≤5→j≠11-R.nx→hsF (R.nx+1) R.worker j=hsF R.nx R.worker j:=fun j a b e=>by
    unfold hsF
    by_cases q5:j=5
    · rw [if_pos q5,if_pos q5,if_pos (by omega),if_pos (by omega)]
    · rw [if_neg q5,if_neg q5]
      by_cases q2:R.nx+1+j≤11
      · rw [if_pos (by omega),if_pos (by omega)]
      · rw [if_neg (by omega),if_neg (by omega)]
   have hset:=hsF_set hc.hl hc.hs (by omega) hF hF2
   have es:rstep L R=({L with hs:=L.hs.set (11-R.nx) (-1)},{R with nx:=R.nx+1}):=by
    unfold rstep
    rw [if_neg (by omega),if_neg (by omega),if_neg (by omega),if_neg (by omega),if_neg (by omega),if_pos (by omega)]
   exact Goes.of (m':=m-1) (c':=c) (j:=0) (old':=old) es (by omega) (by omega) ⟨hc.to (R':={R with nx:=R.nx+1}) ⟨rfl,rfl⟩ hc.err (by show Cl.nth L.xs 0+_≤_; omega) (hc.kp.more rfl rfl rfl rfl) l6 hset (List.Perm.refl _),.free Y ⟨by simp only; omega,by simp only; omega⟩ hn (by simp only; omega) hxd⟩ hD2
    (fun R k _ hR=>⟨k,Nat.le_refl _,hR.moved rfl (Int.le_refl _) rfl⟩) (fun _ _=>rfl) rfl
 | take Y cst x t a q _ _ _ _ _ _=>omega
 | gro Z G ls mi ci cst x t d e1 _ _ _ _ _ _ _ _ _ _ _=>omega
 | shr Z G ls mi ci cst x t a d e1 _ _ _ _ _ _ _ _ _ _ _ _=>omega
theorem J.over (h:J L0 H N s l D old L R m c) (hD:D.Ok l L) (hd:rdone L R=true):∃ Y,D=.rest Y∧Bs.Rest l Y (rstep L R).1∧Y.n=s∧(rstep L R).2.err=0∧(rstep L R).1={L with hs:=L.hs.set 5 (-1)}∧(∀ i,i≤5→Lo.hol (rstep L R).1.hs i= -1)∧(rstep L R).1.hs.length=6∧Kp L0 (rstep L R).1∧(allh Y.n Y.cs).Perm H∧Cl.nth (rstep L R).1.xs 0≤N.P∧(rstep L R).1.xs.length≤N.X∧(rstep L R).1.ds.length≤N.D:=by
 obtain ⟨hc,hp⟩:=h
 have hpd:=hc.pd
 unfold rdone at hd
 have hd:=of_decide_eq_true hd
 cases hp with
 | free Y q hn hm hxd=>
   have h11:R.nx=11:=by omega
   have hD:Bs.Rest l Y L:=hD
   obtain ⟨l0,l6⟩:=hol0 hD.hol.1 hc.hl 5 (-1) (by omega)
   have es:rstep L R=({L with hs:=L.hs.set 5 (-1)},{R with nx:=12}):=by
    unfold rstep
    rw [if_neg (by omega),if_neg (by omega),if_neg (by omega),if_neg (by omega),if_neg (by omega),if_neg (by omega)]
   rw [es]
   refine ⟨Y,rfl,Rest.locks hD l0 (by rw [l6]; omega),hn,hc.err,rfl,fun i hi=>?_,l6,hc.kp.more rfl rfl rfl rfl,hc.perm,by show Cl.nth L.xs 0≤_; omega,hxd.1,hxd.2⟩
   show Lo.hol (L.hs.set 5 (-1)) i= -1
   rcases Nat.eq_zero_or_pos i with q | q
   · rw [q]; exact l0
   · rw [hol_set _ _ _ (by have:=hc.hl; omega)]
     split
     · rfl
     · rw [hc.hs i q hi]
       unfold hsF
       rw [if_neg (by omega),if_neg (by omega)]
 | take Y cst x t a q _ _ _ _ _ _=>omega
 | gro Z G ls mi ci cst x t d e1 _ _ _ _ _ _ _ _ _ _ _=>omega
 | shr Z G ls mi ci cst x t a d e1 _ _ _ _ _ _ _ _ _ _ _ _=>omega
end
end Go.Proofs.YtkogifmjbmnpgaaGreat.Zr
namespace Go.Proofs.YtkogifmjbmnpgaaGreat.Zr
open Go Hm Ar Mm Wk Pc Me Mq Pu Pn Gt Qs Zp Mx LawTh Bs
section
variable {L0:Lm} {H:List Nat} {N:Num} {s:Nat} {l:List Pr} {D D':Dz} {L L':Lm} {R R':Rz} {m m' c c':Nat} {old old':Nat→Int→Nat→Prop} {Y:Rs}
theorem holk {L L':Lm} (h:Gw.Keep L L') (i:Nat) (hi:i≠0):Lo.hol L'.hs i=Lo.hol L.hs i:=by
 unfold Lo.hol
 simp only [List.getD_eq_getElem?_getD]
 rw [h.hs i hi]
theorem J.gro (h:J L0 H N s l D old L R m c) (hD:D.Ok l L) (h6:R.nx=6) {G:Gw.Gr} (hG:R.inn=.gro G) (hr:Gw.gready L G=true):Goes L0 H N s l D old L R m c:=by
 obtain ⟨hc,hp⟩:=h
 have hpd:=hc.pd
 have hnb:=hc.nb
 have es0:rstep L R=((Gw.gstep L G).1,if Gw.gdone L G=true then after (Gw.gstep L G).1 {R with inn:=.gro (Gw.gstep L G).2} (Gw.gstep L G).2.err else {R with inn:=.gro (Gw.gstep L G).2}):=by
  unfold rstep
  rw [if_neg (by omega),if_neg (by omega),if_neg (by omega),if_neg (by omega),if_pos h6,hG]
 have hkeep:=Gw.gstep_keep L G
 have hs':∀ i,1≤i→i≤5→Lo.hol (Gw.gstep L G).1.hs i=hsF R.nx R.worker i:=fun i a b=>by rw [holk hkeep i (by omega)]; exact hc.hs i a b
 have hl6:(Gw.gstep L G).1.hs.length=6:=hkeep.hl.trans hc.hl
 have hkp:=hc.kp.of hkeep
 cases hp with
 | gro Z G' ls mi ci cst x t d e1 e2 hJ hlike hnd hfew hup hm hcc hx hd hdt=>
   rw [hG] at e2
   injection e2 with e2
   subst e2
   have hZ:ZD ls Z L:=ZD.like hlike.symm hD
   have hper:=hJ.per hZ
   have hds:=Gw.gstep_ds L G d hd
   have hnx:=hJ.2.nx
   have hmi:=hJ.2.pos
   cases hdn:Gw.gdone L G with
   | true=>
     obtain ⟨g1,g2,g3,g4,_⟩:=hJ.last hZ hdn
     obtain ⟨r1,r2⟩:=grown (old:=old) (old':=old) (l:=l) g1 g2 g3 hnd hlike hfew
     have hxs:(Gw.gstep L G).1.xs=L.xs:=by rw [g4]
     have hkk:(Gw.gstep L G).1.k=L.k:=by rw [g4]
     rw [hdn,if_pos rfl] at es0
     unfold after at es0
     rw [g2.err,if_pos rfl] at es0
     have hbd:=FM.power_bd hZ.1.pw
     have hc2:Rc L0 H N s (.rest ⟨2*Z.n,Z.B2,Z.few,Z.cap,fun b=>(Z.All (b % Z.n)).filter fun a=>sd Z.n a.2.1==decide (Z.n≤b),ls⟩) (Gw.gstep L G).1 {R with inn:=.gro (Gw.gstep L G).2,err:=0} (m-1):=
      hc.to (R':={R with inn:=.gro (Gw.gstep L G).2,err:=0}) ⟨rfl,rfl⟩ rfl (by omega) hkp hl6 hs' (perm_grown Z.n (by omega) Z.All)
     have hz:=hZ.1.few
     obtain ⟨D',old',b1,b2,b3⟩:=looked (c:=c) (cst:=cst) (x:=x) (t:=t) (a:=0) hc2 r1 (.inl hup) (by have:=g2.xl; omega) (by omega) (by show Z.cap+0≤_; omega) (by omega) (by omega) (by show hsF 6 R.worker=hsF R.nx R.worker; rw [h6])
     refine Goes.of (m':=m-1) (c':=c) (j:=0) es0 (by omega) (by omega) b1 b2 (fun Rn k hk hR=>?_) (fun i _=>by rw [hxs]) hkk
     have hmv:RnOk Z.wy (Gw.gstep L G).1 l old Rn k:=hR.moved (by rw [hxs]) (by rw [hxs]; exact Int.le_refl _) (by rw [g4])
     obtain ⟨k2,q1,q2⟩:=b3 Rn k (by rw [hkk]; exact hk) (r2 Rn k hmv)
     exact ⟨k2,q1,q2⟩
   | false=>
     obtain ⟨Z',old',m1,c1,j,q1,q2,q3,q4,q5,q6,q7,q8,q9,q10,q11⟩:=hJ.goes hZ hr hdn
     rw [hdn,if_neg (by simp)] at es0
     have hZn:Z'.n=Z.n:=q3.1.nn
     refine Goes.of (m':=m-1) (c':=c-j) (j:=j) (D':=.gro Z') (old':=old') es0 (by omega) (by omega) ⟨hc.to (R':={R with inn:=.gro (Gw.gstep L G).2}) ⟨rfl,rfl⟩ hc.err (by omega) hkp hl6 hs' (by show (allh Z'.n Z'.All).Perm (allh Z.n Z.All); rw [hZn,q8]),
      .gro Z' (Gw.gstep L G).2 ls m1 c1 cst x t d h6 rfl (by rw [hZn]; exact q3) hlike hnd (by rw [q9]; exact hfew) (by rw [q9,hZn]; exact hup) (by omega) (by omega) (by omega) ⟨hds.1,fun q=>hds.2 q (by omega)⟩ hdt⟩ (ZD.like hlike q4) (fun Rn k hk hR=>?_) q6 q7
     obtain ⟨k2,a1,a2⟩:=q5 Rn k hk (RnOk.like hlike.symm hR)
     exact ⟨k2,a1,RnOk.like hlike a2⟩
 | take Y cst x t a q _ _ _ _ _ _=>omega
 | shr Z G' ls mi ci cst x t a d e1 e2 _ _ _ _ _ _ _ _ _ _ _=>rw [hG] at e2; injection e2
 | free Y q _ _ _=>omega
theorem J.shr (h:J L0 H N s l D old L R m c) (hD:D.Ok l L) (h6:R.nx=6) {G:Sw.Sh} (hG:R.inn=.shr G) (hr:Sw.sready L G=true):Goes L0 H N s l D old L R m c:=by
 obtain ⟨hc,hp⟩:=h
 have hpd:=hc.pd
 have hnb:=hc.nb
 have es0:rstep L R=((Sw.sstep L G).1,if Sw.sdone L G=true then after (Sw.sstep L G).1 {R with inn:=.shr (Sw.sstep L G).2} (Sw.sstep L G).2.err else {R with inn:=.shr (Sw.sstep L G).2}):=by
  unfold rstep
  rw [if_neg (by omega),if_neg (by omega),if_neg (by omega),if_neg (by omega),if_pos h6,hG]
 have hkeep:=Sw.sstep_keep L G
 have hs':∀ i,1≤i→i≤5→Lo.hol (Sw.sstep L G).1.hs i=hsF R.nx R.worker i:=fun i a b=>by rw [holk hkeep i (by omega)]; exact hc.hs i a b
 have hl6:(Sw.sstep L G).1.hs.length=6:=hkeep.hl.trans hc.hl
 have hkp:=hc.kp.of hkeep
 cases hp with
 | shr Z G' ls mi ci cst x t a d e1 e2 hJ hown hnd hfew hdn hm hac hcap hx hd hdt=>
   rw [hG] at e2
   injection e2 with e2
   subst e2
   have hZ:Sw.JD l Z L:=hD
   have hper:=hJ.per hZ
   have hds:=Sw.sstep_ds L G d hd
   have hnx:=hJ.2.nx
   have hmi:=hJ.2.pos
   cases hdo:Sw.sdone L G with
   | true=>
     obtain ⟨g1,g2,g3,g4,_⟩:=hJ.over hZ hdo
     obtain ⟨r1,r2⟩:=shrunk (old:=old) (old':=old) (l:=l) g1 g2 g3 hown hnd hfew
     have hxs:(Sw.sstep L G).1.xs=L.xs:=by rw [g4]
     have hkk:(Sw.sstep L G).1.k=L.k:=by rw [g4]
     rw [hdo,if_pos rfl] at es0
     unfold after at es0
     rw [g2.err,if_pos rfl] at es0
     have hc2:Rc L0 H N s (.rest ⟨Z.n,Z.B2,Z.few,Z.cap,Z.two,flat Z.n Z.two⟩) (Sw.sstep L G).1 {R with inn:=.shr (Sw.sstep L G).2,err:=0} (m-1):=
      hc.to (R':={R with inn:=.shr (Sw.sstep L G).2,err:=0}) ⟨rfl,rfl⟩ rfl (by omega) hkp hl6 hs' (perm_shrunk Z.n Z.C)
     obtain ⟨D',old',b1,b2,b3⟩:=looked (c:=c) (cst:=cst) (x:=x) (t:=t) (a:=a) hc2 r1 (.inr hdn) (by have:=g2.xl; omega) (by omega) (by show Z.cap+a≤_; omega) (by omega) (by omega) (by show hsF 6 R.worker=hsF R.nx R.worker; rw [h6])
     refine Goes.of (m':=m-1) (c':=c) (j:=0) es0 (by omega) (by omega) b1 b2 (fun Rn k hk hR=>?_) (fun i _=>by rw [hxs]) hkk
     have hmv:RnOk Z.wy (Sw.sstep L G).1 l old Rn k:=hR.moved (by rw [hxs]) (by rw [hxs]; exact Int.le_refl _) (by rw [g4])
     obtain ⟨k2,q1,q2⟩:=b3 Rn k (by rw [hkk]; exact hk) (r2 Rn k hmv)
     exact ⟨k2,q1,q2⟩
   | false=>
     obtain ⟨Z',old',m1,c1,j,q1,q2,q3,q4,q5,q6,q7,q8,q9,q10,q11⟩:=hJ.goes hZ hr hdo
     rw [hdo,if_neg (by simp)] at es0
     have hZn:Z'.n=Z.n:=q3.1.nn
     exact Goes.of (m':=m-1) (c':=c-j) (j:=j) (D':=.shr Z') (old':=old') es0 (by omega) (by omega) ⟨hc.to (R':={R with inn:=.shr (Sw.sstep L G).2}) ⟨rfl,rfl⟩ hc.err (by omega) hkp hl6 hs' (by show (allh (2*Z'.n) Z'.C).Perm (allh (2*Z.n) Z.C); rw [hZn,q9]),
      .shr Z' (Sw.sstep L G).2 ls m1 c1 cst x t a d h6 rfl (by rw [hZn]; exact q3) (by rw [hZn,q9]; exact hown) hnd (by rw [q8]; exact hfew) (by rw [q8,hZn]; exact hdn) (by omega) (by omega) (by omega) (by omega) ⟨hds.1,fun q=>hds.2 q (by omega)⟩ hdt⟩ q4 q5 q6 q7
 | take Y cst x t a q _ _ _ _ _ _=>omega
 | gro Z G' ls mi ci cst x t d e1 e2 _ _ _ _ _ _ _ _ _ _=>rw [hG] at e2; injection e2
 | free Y q _ _ _=>omega
theorem J.goes (h:J L0 H N s l D old L R m c) (hD:D.Ok l L) (hr:rready L R=true) (hd:rdone L R=false):Goes L0 H N s l D old L R m c:=by
 have hnd:¬(R.nx=0∨11≤R.nx):=of_decide_eq_false hd
 by_cases h1:R.nx≤5
 · exact h.take hD ⟨by omega,h1⟩
 by_cases h6:R.nx=6
 · unfold rready at hr
   rw [if_neg (by omega),if_pos h6] at hr
   have hh:=h
   cases h.2 with
   | gro Z G ls mi ci cst x t d e1 e2 _ _ _ _ _ _ _ _ _ _=>
     rw [e2] at hr
     exact hh.gro hD h6 e2 hr
   | shr Z G ls mi ci cst x t a d e1 e2 _ _ _ _ _ _ _ _ _ _ _=>
     rw [e2] at hr
     exact hh.shr hD h6 e2 hr
   | take Y cst x t a q _ _ _ _ _ _=>omega
   | free Y q _ _ _=>omega
 · exact h.free hD ⟨by omega,by omega⟩
theorem J.wait (h:J L0 H N s l D old L R m c) (hr:rready L R=false):∃ i:Nat,(i:Int)<L.k∧Cl.nth L.xs (2+i)≠0:=by
 obtain ⟨hc,hp⟩:=h
 have hwk:=hc.wk
 unfold rready at hr
 cases hp with
 | take Y cst x t a q _ _ _ _ _ _=>
   exfalso
   rw [if_pos q] at hr
   have hr:=of_decide_eq_false hr
   refine hr ⟨hwk.1,?_⟩
   have hlk:1≤lockOf R.nx∧lockOf R.nx≤5:=by unfold lockOf; split<;>omega
   rw [hc.hs _ hlk.1 hlk.2]
   unfold hsF lockOf
   by_cases q1:R.nx=1
   · rw [if_pos q1,if_pos rfl,if_neg (by omega)]
   · rw [if_neg q1,if_neg (by omega),if_neg (by omega)]
 | gro Z G ls mi ci cst x t d e1 e2 hJ _ _ _ _ _ _ _ _ _=>
   rw [if_neg (by omega),if_pos e1,e2] at hr
   exact hJ.wait hr
 | shr Z G ls mi ci cst x t a d e1 e2 hJ _ _ _ _ _ _ _ _ _ _=>
   rw [if_neg (by omega),if_pos e1,e2] at hr
   exact hJ.wait hr
 | free Y q _ _ _=>
   rw [if_neg (by omega),if_neg (by omega)] at hr
   simp at hr
theorem J.stays (h:J L0 H N s l D old L R m c) (hD:D.Ok l L) (w:Nat) (p':Int) (hw:(w:Int)<L.k):J L0 H N s l D old {L with xs:=L.xs.set (2+w) p'} R m c:=by
 obtain ⟨hc,hp⟩:=h
 have h0:Cl.nth (L.xs.set (2+w) p') 0=Cl.nth L.xs 0:=by
  by_cases hl:2+w<L.xs.length
  · rw [nth_set _ _ _ hl,if_neg (by omega)]
  · rw [List.set_eq_of_length_le (by omega)]
 refine ⟨{hc with pd:=by show Cl.nth (L.xs.set _ _) 0+_≤_; rw [h0]; exact hc.pd,kp:=hc.kp.more rfl rfl rfl rfl},?_⟩
 cases hp with
 | take Y cst x t a q q1 q2 q3 q4 q5 q6=>exact .take Y cst x t a q q1 q2 q3 q4 (by show (L.xs.set _ _).length+_≤_; simpa using q5) q6
 | gro Z G ls mi ci cst x t d e1 e2 hJ a1 a2 a3 a4 a5 a6 a7 a8 a9=>exact .gro Z G ls mi ci cst x t d e1 e2 (hJ.stays (ZD.like a1.symm hD) w p' hw) a1 a2 a3 a4 a5 a6 a7 a8 a9
 | shr Z G ls mi ci cst x t a d e1 e2 hJ a1 a2 a3 a4 a5 a6 a7 a8 a9 a10=>exact .shr Z G ls mi ci cst x t a d e1 e2 (hJ.stays hD w p' hw) a1 a2 a3 a4 a5 a6 a7 a8 a9 a10
 | free Y q q1 q2 q3=>exact .free Y q q1 q2 ⟨by show (L.xs.set _ _).length≤_; simpa using q3.1,q3.2⟩
end
/-! ### beside two who get keys-/
def Dz3 (l:List Pr) (D:Dz) (L:Lm):Prop:=D.Ok l L∧3≤L.k
def J3 (L0:Lm) (H:List Nat) (N:Num) (s:Nat) (l:List Pr) (D:Dz) (old:Nat→Int→Nat→Prop) (L:Lm) (R:Rz) (m c:Nat):Prop:=J L0 H N s l D old L R m c∧∀ i:Nat,(i:Int)<L.k→i≠1→i≠2→Cl.nth L.xs (2+i)=0
def Qr (L0:Lm) (H:List Nat) (N:Num) (s:Nat) (l:List Pr) (L:Lm) (R:Rz):Prop:=∃ Y,Bs.Rest l Y L∧Y.n=s∧R.err=0∧(∀ i,i≤5→Lo.hol L.hs i= -1)∧L.hs.length=6∧Kp L0 L∧(allh Y.n Y.cs).Perm H∧Cl.nth L.xs 0≤N.P∧L.xs.length≤N.X∧L.ds.length≤N.D
theorem rz_law (L0:Lm) (H:List Nat) (N:Num) (s:Nat) (l:List Pr):GLaw Dz.wy (Dz3 l) Okrz rready rstep rdone l (J3 L0 H N s l) (Qr L0 H N s l) where
 ways h:=h.1.ways
 few h:=h.1.few
 k3 h:=h.2
 ctr h w p hw h0 h1:=⟨h.1.counter (by have:=h.2; rcases hw with rfl | rfl<;>omega) ⟨h0,h1⟩,h.2⟩
 ok h hZ:=h.1.ok hZ.1
 pub {D old L R m c} h hp:=by
  cases D with
  | rest Y=>exact absurd hp (by simp [Dz.wy,Rs.wy])
  | shr Z=>exact absurd hp (by simp [Dz.wy,Js.wy])
  | gro Z=>
    cases h.1.2 with
    | gro _ G ls mi ci cst x t d e1 e2 hJ _ _ _ _ _ _ _ _ _=>exact hJ.2.pub hp
 pos h _:=h.1.pos
 wait h _ hr:=by
  obtain ⟨i,h1,h2⟩:=h.1.wait hr
  by_cases q1:i=1
  · rw [q1] at h2; exact .inl h2
  · by_cases q2:i=2
    · rw [q2] at h2; exact .inr h2
    · exact absurd (h.2 i h1 q1 q2) h2
 over h hZ _ hd:=by
  obtain ⟨Y,_,q1,q2,q3,_,q4,q5,q6,q7,q8⟩:=h.1.over hZ.1 hd
  exact ⟨Y,q1,q2,q3,q4,q5,q6,q7,q8⟩
 go h hZ hr hd:=by
  have hk3:=hZ.2
  obtain ⟨D',old',m',c',j,q1,q2,q3,q4,q5,q6,q7⟩:=h.1.goes hZ.1 hr hd
  exact ⟨D',old',m',c',j,q1,q2,⟨q3,fun i hi a b=>by rw [q7] at hi; rw [q6 i hi]; exact h.2 i hi a b⟩,⟨q4,by rw [q7]; exact hZ.2⟩,fun R k hw=>q5 R k (by omega),q6 1 (by omega),q6 2 (by omega)⟩
 stays {D old L p m c} h hZ w p' hw:=by
  have hk3:=hZ.2
  have hwl:=hZ.1.ways.wl w (by omega)
  refine ⟨h.1.stays hZ.1 w p' (by omega),fun i hi a b=>?_⟩
  show Cl.nth (L.xs.set (2+w) p') (2+i)=0
  rw [nth_set _ _ _ hwl,if_neg (by omega)]
  exact h.2 i hi a b
/-! ### alone-/
def Lone (L0:Lm) (H:List Nat) (N:Num) (s:Nat) (l:List Pr) (k:Nat) (S:Lm×Rz):Prop:=∃ D old m c,m≤k∧D.Ok l S.1∧J L0 H N s l D old S.1 S.2 m c∧∀ i:Nat,(i:Int)<S.1.k→Cl.nth S.1.xs (2+i)=0
theorem Lone.step {L0:Lm} {H:List Nat} {N:Num} {s:Nat} {l:List Pr} {k:Nat} {S:Lm×Rz} (h:Lone L0 H N s l k S):Okrz S.1 S.2∧rready S.1 S.2=true∧1≤k∧(rdone S.1 S.2=true→Qr L0 H N s l (rstep S.1 S.2).1 (rstep S.1 S.2).2∧∀ i:Nat,(i:Int)<(rstep S.1 S.2).1.k→Cl.nth (rstep S.1 S.2).1.xs (2+i)=0)∧(rdone S.1 S.2=false→Lone L0 H N s l (k-1) (rstep S.1 S.2)):=by
 obtain ⟨D,old,m,c,hm,hD,hJ,h0⟩:=h
 have hr:rready S.1 S.2=true:=by
  cases hr:rready S.1 S.2 with
  | true=>rfl
  | false=>
    obtain ⟨i,a,b⟩:=hJ.wait hr
    exact absurd (h0 i a) b
 have hp:=hJ.pos
 refine ⟨hJ.ok hD,hr,by omega,fun hd=>?_,fun hd=>?_⟩
 · obtain ⟨Y,_,q1,q2,q3,q9,q4,q5,q6,q7,q8⟩:=hJ.over hD hd
   refine ⟨⟨Y,q1,q2,q3,q4,q5,q6,q7,q8⟩,fun i hi=>?_⟩
   rw [q9] at hi ⊢
   exact h0 i hi
 · obtain ⟨D',old',m',c',j,q1,q2,q3,q4,q5,q6,q7⟩:=hJ.goes hD hr hd
   exact ⟨D',old',m',c',by omega,q4,q3,fun i hi=>by rw [q7] at hi; rw [q6 i hi]; exact h0 i hi⟩
end Go.Proofs.YtkogifmjbmnpgaaGreat.Zr
namespace Go.Proofs.YtkogifmjbmnpgaaGreat.LawTen
open Go Go.RowKit Hp K Fl Rw Hm Ar Mm Me LK Qs Wk Gt Pc LawSix LawFnv
set_option maxRecDepth 100000
def nbk (k:Int):Nat:=2 ^ (k % 6).toNat
theorem nbk_pw {k:Int} (hk:0≤k):FM.power (nbk k)=true:=power_pow (by omega)
theorem nbk_bd {k:Int} (hk:0≤k):1≤nbk k∧nbk k≤32:=by
 have h:nbk k≤2 ^ 5:=Nat.pow_le_pow_right (by omega) (by omega)
 exact ⟨Nat.two_pow_pos _,by omega⟩
def LaidAt (W0:World) (k:Int) (wn:Nat) (l:List Pr) (M:Mo) (w:World):Prop:=
 MemAt w M∧(∀ x,mfoot M x→W0.heap.size≤x)∧Below W0.heap.size W0 w∧La l (wn+3) (nbk k) M.xs M.ss l.length∧M.F=false∧M.hs=List.replicate 6 (-1)∧M.k=wn∧M.ds=[(1,wn+2),(nbk k,wn+3)]∧M.ws=[]
theorem xs_new (wn n:Nat):(1::List.replicate (wn+2) (0:Int)++List.replicate n 0).set 1 1=1::1::List.replicate (wn+1+n) 0:=by
 rw [List.cons_append,List.replicate_append_replicate,show wn+2+n=wn+1+n+1 by omega,List.replicate_succ]
 rfl
def LInv (W0 w:World) (M:Mo) (db n B:Nat) (l:List Pr) (j:Nat):Prop:=
 ∃ xs ss,MemAt w {M with xs:=xs,ss:=ss}∧La l B n xs ss j∧Blk w db 51 #[.int .i64 n,.int .i64 B]∧Below W0.heap.size W0 w
set_option maxHeartbeats 4000000 in
theorem laid_any (W0:World) (k:Int) (hk:0≤k∧k≤255) (wn:Nat) (hw:1≤wn∧wn≤8) (l:List Pr) (A:Option Addr) (cap:Nat) (hl:l.length≤60) (hP:PairsAt W0 A l):
 Calls Tryz.prog 22 #[.int .u8 k,.int .i64 wn,.slice A l.length cap] W0 fun e w'=>∃ M,e=.returned (ptr M.m)∧LaidAt W0 k wn l M w':=by
 have hN:=Lib.hid (made_yes (max l.length 1) wn W0 (by omega) hw)
 replace hP:=Lib.hid hP
 generalize hln:l.length=len at*
 replace hln:=Lib.hid hln
 go_enter Tryz.func22,Tryz.ntmps22
 go_upto_region 1 with (fail)
 go_cut [7] (fun p wx=>∃ M,p=ptr M.m∧MadeP W0 (max len 1) wn M wx)
 case first=>
  go_wp2_with fail
  all_goals
   have hN2:=hN.out
   first
    | (rw [show ((max len 1:Nat):Int)=1 by omega] at hN2; refine hN2.mono ?_)
    | (rw [show ((max len 1:Nat):Int)=len by omega] at hN2; refine hN2.mono ?_)
   rintro e w1 ⟨M,rfl,hM⟩
   replace hM:=Lib.hid hM
   clear hN hN2
   go_wp2_with fail
   go_meet
   exact ⟨M,rfl,hM.out⟩
 case rest=>
  obtain ⟨M,rfl,hM,hlo,hB,h1,h2,h3,h4,h5,h6,h7⟩:=hcut
  clear hN
  generalize wc=w1 at*
  have c0:=hM.hd.1
  replace hM:=Lib.hid hM
  replace hB:=Lib.hid hB
  replace hlo:=Lib.hid hlo
  replace h1:=Lib.hid h1
  replace h2:=Lib.hid h2
  replace h3:=Lib.hid h3
  replace h4:=Lib.hid h4
  replace h5:=Lib.hid h5
  replace h6:=Lib.hid h6
  replace h7:=Lib.hid h7
  go_wp2_with fail
  have hbd:=nbk_bd hk.1
  have hpw:=nbk_pw hk.1
  have e2:wrap64 ((2:Int) ^ (k % 6).toNat)=(nbk k:Nat):=by
   have e:(2:Int) ^ (k % 6).toNat=((nbk k:Nat):Int):=by unfold nbk; simp
   rw [e]
   unfold wrap64
   omega
  rw [e2]
  clear e2
  have hxl:M.xs.length=wn+3:=by rw [h1.out]; simp
  have hdl:M.ds.length=1:=by rw [h6.out]; rfl
  have hT:=table_ok hM.out (nbk k) hpw (by omega) (by omega)
  generalize hnk:nbk k=n at*
  replace hnk:=Lib.hid hnk
  rw [hdl] at hT
  unfold Tabled at hT
  rw [hxl,h6.out,h1.out] at hT
  replace hT:=Lib.hid hT
  replace hpw:=Lib.hid hpw
  clear hxl hdl
  refine hT.out.mono ?_
  rintro e w2 ⟨rfl,A2,cap2,T2,capT2,hM2,hO2,hA2,hT2⟩
  have hlo2:∀ x,mfoot {M with A:=A2,cap:=cap2,T:=T2,capT:=capT2} x→W0.heap.size≤x:=by
   have hsz:=hB.out.size
   rintro x (q | (q | q) | q | q | q | q)
   · exact hlo.out x (.inl q)
   · exact hlo.out x (.inr (.inl (.inl q)))
   · rcases hA2 x q with q | q
     · exact hlo.out x (.inr (.inl (.inr q)))
     · omega
   · exact hlo.out x (.inr (.inr (.inl q)))
   · exact hlo.out x (.inr (.inr (.inr (.inl q))))
   · rcases hT2 x q with q | q
     · exact hlo.out x (.inr (.inr (.inr (.inr (.inl q)))))
     · omega
   · exact hlo.out x (.inr (.inr (.inr (.inr (.inr q)))))
  have hB2:=hB.out.trans (hO2.toBelow hB.out.size (fun x hx q=>by have:=hlo.out x q; omega))
  have hD:Calls Tryz.prog 51 #[ptr M.m,.int .i64 1] w2 fun e w'=>e=.returned (.tuple #[.agg #[.int .i64 n,.int .i64 (wn+3:Nat)],.bool true])∧Below w2.heap.size w2 w':=desc_in hM2 1 (by simp)
  have c2:=hM2.hd.1
  simp only at c2
  obtain ⟨B,hBe⟩:∃ B,B=wn+3:=⟨_,rfl⟩
  have hSt:∀ w3 (_:Below w2.heap.size w2 w3),Calls Tryz.prog 52 #[ptr M.g,.int .i64 1,.int .u64 1] w3 fun e w'=>e=.returned (.int .i64 0)∧MemAt w' {M with A:=A2,cap:=cap2,xs:=1::1::List.replicate (B-2+n) 0,T:=T2,capT:=capT2,ds:=[(1,wn+2),(n,B)]}∧Only (Cl.foot M.g A2) w3 w':=fun w3 hb=>(Cl.store_in (hM2.below hb).2.1 1 (by simp; omega) 1 (by omega) (by omega)).mono fun e w' q=>
   ⟨q.1,by
    have:=(hM2.below hb).cells q.2.1 q.2.2
    simp only [xs_new] at this
    rw [show B-2+n=wn+1+n by omega,hBe]
    exact this,q.2.2⟩
  have lm:=hM2.1.lt
  simp only at lm
  rw [← hBe] at hD
  have hfar:∀ x,Cl.foot M.g A2 x→x<w2.heap.size:=fun x hx=>(cells_ty hM2.2.1 hx).lt
  replace hlo2:∀ x,mfoot {M with A:=A2,cap:=cap2,xs:=1::1::List.replicate (B-2+n) 0,T:=T2,capT:=capT2,ds:=[(1,wn+2),(n,B)]} x→W0.heap.size≤x:=hlo2
  obtain ⟨M3,hM3e⟩:∃ M3:Mo,M3={M with A:=A2,cap:=cap2,xs:=1::1::List.replicate (B-2+n) 0,T:=T2,capT:=capT2,ds:=[(1,wn+2),(n,B)]}:=⟨_,rfl⟩
  simp only [← hM3e] at hSt hlo2
  have em:M.m=M3.m:=by rw [hM3e]
  have eg:M.g=M3.g:=by rw [hM3e]
  have eA:A2=M3.A:=by rw [hM3e]
  have f1:M3.xs=1::1::List.replicate (B-2+n) 0:=by rw [hM3e]
  have f2:M3.ss=List.replicate (max len 1) .zero:=by rw [hM3e]; exact h2.out
  have f3:M3.F=false:=by rw [hM3e]; exact h3.out
  have f4:M3.hs=List.replicate 6 (-1):=by rw [hM3e]; exact h4.out
  have f5:M3.k=wn:=by rw [hM3e]; exact h5.out
  have f6:M3.ds=[(1,wn+2),(n,B)]:=by rw [hM3e]
  have f7:M3.ws=[]:=by rw [hM3e]; exact h7.out
  have FF:=Lib.hid (And.intro f3 (And.intro f4 (And.intro f5 (And.intro f6 f7))))
  rw [em,eg] at c2
  rw [em] at lm
  rw [em] at hD
  rw [eg,eA] at hSt
  rw [eg,eA] at hfar
  rw [em]
  replace hD:=Lib.hid hD
  replace hSt:=Lib.hid hSt
  replace hlo2:=Lib.hid hlo2
  replace hB2:=Lib.hid hB2
  replace f1:=Lib.hid f1
  replace f2:=Lib.hid f2
  replace hfar:=Lib.hid hfar
  have hBw:B≤11:=by omega
  replace hBe:=Lib.hid hBe
  clear hM2 hO2 hA2 hT2 hM3e em eg eA f3 f4 f5 f6 f7 hT c0 hM hB hlo h1 h2 h3 h4 h5 h6 h7
  go_wp2_with fail
  refine hD.out.mono ?_
  rintro e w3 ⟨rfl,hB3⟩
  obtain ⟨w4,hw4⟩:∃ w4,w4=w3.alloc (.cells #[.int .i64 n,.int .i64 B] 51):=⟨_,rfl⟩
  have hD4:Blk w4 w3.heap.size 51 #[.int .i64 n,.int .i64 B]:=by rw [hw4]; exact Blk.made w3 _ _
  have hB4:Below w2.heap.size w2 w4:=by rw [hw4]; exact hB3.alloc hB3.size _
  have hSx:=Lib.hid (hSt.out w4 hB4)
  have c4:=(hB4.cell (p:=⟨M3.m,0,none⟩) lm).trans c2
  have hge:=hB3.size
  have hB04:=Lib.hid (hB2.out.trans (hB4.mono hB2.out.size))
  replace hD4:=Lib.hid hD4
  replace hB4:=Lib.hid hB4
  clear hB3 hD c2
  go_upto_region 7 with (fail)
  rw [← hw4]
  clear hw4
  go_wp2_with fail
  refine hSx.out.mono ?_
  rintro e w5 ⟨rfl,hM5,hO5⟩
  generalize w3.heap.size=db at*
  have hge0:=hB2.out.size
  have hdb:W0.heap.size≤db:=by omega
  have H0:Hid (LInv W0 w5 M3 db n B l 0):=Lib.hid ⟨M3.xs,M3.ss,hM5,by rw [f1.out,f2.out,← hln.out]; exact la_new (by rw [hln.out]; exact hl) hpw.out (by have:=hBe.out; omega),hD4.out.only hO5 (fun q=>by have:=hfar.out _ q; omega),
   hB04.out.trans (hO5.toBelow hB04.out.size (fun x hx q=>by have:=hlo2.out x (.inr (.inl q)); omega))⟩
  clear hM5 hO5 hSx hSt hD4 hB4 hB04 c4 hge hge0 hfar f1 f2 hpw lm hB2
  replace hdb:=Lib.hid hdb
  go_wp2_with fail
  go_loopw [13] (fun i wr=>∃ (j:Nat) (e:Int),j≤len∧i=.int .i64 e∧Hid (e=len-1-j)∧LInv W0 wr M3 db n B l j) (fun i _=>((intOf i)+1).toNat)
  case atStart=>exact ⟨0,_,Nat.zero_le _,rfl,Lib.hid (by simp),H0.out⟩
  case round=>
   obtain ⟨j,e,hj,rfl,he,xs,ss,hM,hL,hD,hB⟩:=hrel
   clear H0
   by_cases hlt:0≤e
   · obtain ⟨t,rfl⟩:=Int.eq_ofNat_of_zero_le hlt
     have het:=he.out
     have htl:t<len:=by omega
     have hjt:j<len:=by omega
     have htj:l.length-1-j=t:=by have:=hln.out; omega
     replace htj:=Lib.hid htj
     clear het he
     obtain ⟨b,o,rfl,hb,c0,c1,hs0,hs1⟩:=hP.out t (by rw [hln.out]; exact htl)
     rw [← hB.cell (p:=⟨b,_,none⟩) hb] at c0 c1
     have hbr:b<wr.heap.size:=by have:=hB.size; omega
     generalize hp:pat l t=p at*
     obtain ⟨pk,pv⟩:=p
     simp only at c0 c1 hs0 hs1
     have hpl:pat l (l.length-1-j)=(pk,pv):=by rw [htj.out]; exact hp
     have hle:=hL.least (by rw [hln.out]; exact hjt)
     have hgz:=hL.gen j
     have hcx:=hL.cell (sm pk) (sm_bd pk).1
     have hbk:=bucket_lt hL.pw (sm pk) (sm_bd pk).1
     have hst:=hL.step (by rw [hln.out]; exact hjt) hpl
     simp only at hst
     obtain ⟨c,hc⟩:∃ c,c=(FM.bucket (sm pk) n).toNat:=⟨_,rfl⟩
     have hci:FM.bucket (sm pk) n=(c:Int):=by omega
     rw [← hc] at hcx hst
     have hSm:=refsum_any pk wr (by simp only [maxLen]; omega)
     have hBk:=fun w=>refbucket_any (sm pk) n w (sm_bd pk).1 (sm_bd pk).2 (by omega) (by omega)
     rw [hci] at hBk
     have hsm:((FM.sum pk.data.toList:Nat):Int)=sm pk:=rfl
     rw [hsm] at hSm
     have hsb:=sm_bd pk
     generalize sm pk=s at*
     obtain ⟨x,hx⟩:∃ x,x=B+c:=⟨_,rfl⟩
     rw [← hx] at hcx hst
     have hv:=Cl.getD_bd hL.xb x
     generalize hvv:Cl.nth xs x=v at*
     have hxl:xs.length≤50:=by have:=hL.xl; omega
     have hLd:=fun nq=>Cl.load_in (hM.drewN nq).2.1 x hcx
     simp only [hvv] at hLd
     have eBc:IntKind.i64.wrap ((B:Int)+(c:Int))=(x:Int):=by rw [IntWalk.i64_in _ (by omega)]; omega
     have hA:=fun w1 (hb1:Below wr.heap.size wr w1)=>(alloc_ok (hM.below hb1).2.2.2.1 ⟨pk,pv,s,v⟩ j hle (show (at' ss j).gen≤1000000 by omega)).mono fun e w2 q=>
      show e=.returned (.tuple #[.int .u64 ((at' ss j).gen*65536+j+1:Nat),.int .i64 0])∧MemAt w2 {M3 with xs:=xs,ss:=ss.set j ⟨true,(at' ss j).gen,⟨pk,pv,s,v⟩⟩}∧Only (afoot M3.ar M3.sb M3.fb) wr w2 from ⟨q.1,(hM.below hb1).arena q.2.1 q.2.2,(Only.ofBelow hb1 _).trans' q.2.2 (fun _ _ q=>q)⟩
     simp only [hgz,Nat.zero_mul,Nat.zero_add] at hA
     unfold ndv at hA
     simp only [Int.natCast_add,Int.natCast_one] at hA
     rw [Int.natCast_add,Int.natCast_one] at hst
     have m0:=hM.hd.1
     have m2:=hM.hd.2.2.1
     simp only at m0 m2
     have d1:=hD.cell 1
     simp at d1
     replace hSm:=Lib.hid hSm
     replace hBk:=Lib.hid hBk
     replace hLd:=Lib.hid hLd
     replace hM:=Lib.hid hM
     replace hD:=Lib.hid hD
     replace hB:=Lib.hid hB
     replace hL:=Lib.hid hL
     replace hst:=Lib.hid hst
     replace hp:=Lib.hid hp
     replace hA:=Lib.hid hA
     replace hcx:=Lib.hid hcx
     replace hvv:=Lib.hid hvv
     clear hpl hbk hc hci hsm hx hle hgz
     go_wp2_with fail
     refine hSm.out.mono ?_
     rintro e1 w' ⟨rfl,hw⟩
     obtain rfl:wr=w':=hw.symm
     clear hSm
     go_wp2_with fail
     go_quiet ((go_at_call 48; exact Calls.quiet_of_same ((hBk.out _).mono fun _ _ h=>⟨h.1,h.2⟩)))
     clear eBc hBk hw
     go_wp2_with fail
     have hL2:=hLd.out nq
     clear hLd
     have hx0:=hA.out
     replace hA:∀ w1,Below (wr.drewN nq).heap.size (wr.drewN nq) w1→Calls Tryz.prog 53 #[ptr M3.ar,.agg #[.string pk,.string pv,.int .u32 s,.int .u64 v]] w1 fun e w2=>
      e=.returned (.tuple #[.int .u64 ((j:Int)+1),.int .i64 0])∧MemAt w2 {M3 with xs:=xs,ss:=ss.set j ⟨true,0,⟨pk,pv,s,v⟩⟩}∧Only (afoot M3.ar M3.sb M3.fb) (wr.drewN nq) w2:=fun w1 hb1=>
      (hx0 w1 ((show Below wr.heap.size wr (wr.drewN nq) from ⟨rfl,rfl,rfl,by simp,fun _ _=>rfl⟩).trans hb1)).mono fun e w2 q=>⟨q.1,q.2.1,q.2.2.os,q.2.2.tape,q.2.2.output,q.2.2.size,q.2.2.block⟩
     replace hM:=hM.out.drewN nq
     replace hD:Blk (wr.drewN nq) db 51 #[.int .i64 n,.int .i64 B]:=hD.out.only ((Only.refl (fun _=>False) wr).drewN nq) (by simp)
     replace hB:Below W0.heap.size W0 (wr.drewN nq):=hB.out.trans ⟨rfl,rfl,rfl,by simp,fun _ _=>rfl⟩
     replace c0:(wr.drewN nq).cell? ⟨b,o+t*2,none⟩=some (.string pk):=c0
     replace c1:(wr.drewN nq).cell? ⟨b,o+t*2+1,none⟩=some (.string pv):=c1
     replace m0:(wr.drewN nq).cell? ⟨M3.m,0,none⟩=some (ptr M3.g):=m0
     replace m2:(wr.drewN nq).cell? ⟨M3.m,2,none⟩=some (ptr M3.ar):=m2
     replace hbr:b<(wr.drewN nq).heap.size:=hbr
     clear d1 hx0
     generalize wr.drewN nq=w6 at*
     replace hM:=Lib.hid hM
     replace hD:=Lib.hid hD
     replace hB:=Lib.hid hB
     replace hA:=Lib.hid hA
     refine hL2.mono ?_
     rintro e1 w' ⟨rfl,hw⟩
     obtain rfl:w6=w':=hw.symm
     clear hL2 hw
     go_upto_region 15 with (fail)
     go_region_held3 (fun w'=>w'.cell? ⟨M3.m,2,none⟩=some (ptr M3.ar)∧w'.cell? ⟨b,o+t*2,none⟩=some (.string pk)∧w'.cell? ⟨b,o+t*2+1,none⟩=some (.string pv)) (go_keep)
      (first
        | (go_at_call 53
           refine (hA.out w6.drew ⟨rfl,rfl,rfl,Nat.le_refl _,fun _ _=>rfl⟩).mono ?_
           rintro e w2 ⟨rfl,hM2,hO2⟩
           have hge2:=hB.out.size
           have nb1:¬afoot M3.ar M3.sb M3.fb b:=fun q=>by have:=hlo2.out _ (foot_arena _ q); omega
           have d0:=(hO2.cell (p:=⟨b,o+t*2,none⟩) (by show b<w6.heap.size; omega) nb1).trans c0
           have d1:=(hO2.cell (p:=⟨b,o+t*2+1,none⟩) (by show b<w6.heap.size; omega) nb1).trans c1
           have n0:=hM2.hd.1
           have n2:=hM2.hd.2.2.1
           simp only at n0 n2
           have hD2:=Lib.hid (hD.out.only hO2 (fun q=>(arena_ty hM.out.2.2.2.1 q).apart (blk_ty hD.out) (by decide)))
           have hB2:=Lib.hid (hB.out.trans (hO2.toBelow hge2 (fun x hx q=>by have:=hlo2.out x (foot_arena _ q); omega)))
           have hSt:=Lib.hid (Cl.store_in hM2.2.1 x hcx.out ((j:Int)+1) (by omega) (by omega))
           replace hM2:=Lib.hid hM2
           clear hO2))
     clear c0 c1 m0 m2 hA hM hB hD hL d0 d1 nb1 hge2
     go_wp2_with fail
     refine hSt.out.mono ?_
     rintro e1 w3 ⟨rfl,hC3,hO3⟩
     have hF3:Hid (LInv W0 w3 M3 db n B l (j+1)):=Lib.hid ⟨_,_,hM2.out.cells hC3 hO3,hst.out,hD2.out.only hO3 (fun q=>(cells_ty hM2.out.2.1 q).apart (blk_ty hD2.out) (by decide)),
      hB2.out.trans (hO3.toBelow hB2.out.size (fun x hx q=>by have:=hlo2.out x (.inr (.inl q)); omega))⟩
     clear hC3 hO3 hM2 hD2 hB2 hSt n0 n2 hst
     go_wp2_with fail
     go_roundw
     case rel=>exact ⟨j+1,(t:Int)-1,hjt,by go_num,Lib.hid (by have:=htj.out; have:=hln.out; omega),hF3.out⟩
     case measure=>simp [intOf]<;>omega
   · have hjl:j=len:=by have:=he.out; omega
     subst hjl
     have hF3:Hid (LaidAt W0 k wn l {M3 with xs:=xs,ss:=ss} wr):=Lib.hid ⟨hM,hlo2.out,hB,by rw [hnk.out,← hBe.out,hln.out]; exact hL,FF.out.1,FF.out.2.1,FF.out.2.2.1,
      by rw [hnk.out,← hBe.out]; exact FF.out.2.2.2.1,FF.out.2.2.2.2⟩
     clear hM hL hD hB he hj hl FF
     go_wp2_with fail
     go_ret
     exact ⟨{M3 with xs:=xs,ss:=ss},rfl,hF3.out⟩
end Go.Proofs.YtkogifmjbmnpgaaGreat.LawTen
namespace Go.Proofs.YtkogifmjbmnpgaaGreat.Zr
open Go Go.RowKit Hp K Fl Rw Hm Ar Mm Me LK Qs Wk Pc Pn Mq Gt Pu Zp Mx LawTh Bs LawTen
theorem rest_laid {W0 w:World} {k:Int} {l:List Pr} {M:Mo} (hk:0≤k) (h:LaidAt W0 k 3 l M w) (hl:l.length≤30) (hn:(l.map (·.1)).Nodup):
 ∃ Y,Bs.Rest l Y (lm M)∧Y.n=nbk k∧Y.few=l.length∧Y.cap=1000∧(allh Y.n Y.cs).length=l.length∧(∀ i:Nat,(i:Int)<(lm M).k→Cl.nth (lm M).xs (2+i)=0)∧Cl.nth M.xs 0=1∧M.xs.length=6+nbk k∧M.ds.length=2∧Me.now M.xs M.ds=(nbk k,6):=by
 obtain ⟨_,_,_,hL,hF,hhs,hkk,hd,_⟩:=h
 have hbd:=nbk_bd hk
 have hx:=hL.xl
 have hlow:∀ i,i<6→Cl.nth M.xs i=if i≤1 then 1 else 0:=by
  intro i hi
  have e:Cl.nth M.xs i=Cl.nth (M.xs.take 6) i:=by
   simp only [Cl.nth,List.getD,List.getElem?_take,if_pos hi]
  rw [e,hL.low]
  rcases i with _ | _ | i
  · rfl
  · rfl
  · rw [if_neg (by omega)]
    simp only [Cl.nth,List.getD,List.getElem?_cons_succ,List.getElem?_replicate]
    split<;>rfl
 have hnow:Me.now M.xs M.ds=(nbk k,6):=by
  unfold Me.now
  rw [hlow 1 (by omega),if_pos (by omega),hd]
  rfl
 have hpw2:FM.power ((2*nbk k:Nat):Int)=true:=by
  have:2*nbk k=2 ^ ((k % 6).toNat+1):=by unfold nbk; rw [Nat.pow_succ]; omega
  rw [this]
  exact power_pow (by omega)
 have htb:∀ i,(tab (lm M).ds i).1≤65536∧(tab (lm M).ds i).2≤4000000:=fun i=>by
  show (tab M.ds i).1≤_∧(tab M.ds i).2≤_
  simp only [tab,hd,List.getD]
  rcases i with _ | _ | i
  · simp
  · simp; omega
  · simp
 have hp1:1≤Cl.nth (lm M).xs 0:=by show 1≤Cl.nth M.xs 0; rw [hlow 0 (by omega),if_pos (by omega)]; omega
 have hlen:M.ss.length≤1024:=by have:=hL.len; omega
 obtain ⟨Z,hZ,z1,z2,z3,z4,z5,z6,z7⟩:=zs_laid (L:=lm M) (l:=l) (n:=nbk k) (B:=6) (nbk_pw hk) hpw2 (by omega) hn hL.xb hx (by omega) hL.nexts hlen hF (by show 1≤M.k∧M.k≤8; omega) (by show 2+M.k≤6; omega) hnow htb hp1
  (fun b hb=>by have:=hL.ch b hb; rw [Nat.sub_self,List.drop_zero] at this; exact this)
 have hZD:ZD l Z (lm M):=⟨hZ,by omega⟩
 have hcx:∀ b,b<nbk k→Cx (lm M).ss (Cl.nth (lm M).xs (6+b)).toNat (Z.All b):=fun b hb=>by
  have h1:=(Gw.fresh_cx hZD z4 (e:=b) (by omega)).1
  have h2:=hZ.elder b (by omega)
  rw [z2] at h2
  rw [h2,Int.toNat_natCast]
  exact h1
 have hown:∀ b,b<nbk k→prs (Z.All b)=own l (nbk k) b:=fun b hb=>z7 b hb
 have htabs:Tabs (lm M).xs (lm M).ds:=by
  intro i hi
  have hi:i<M.ds.length:=hi
  show 1≤(tab M.ds i).1∧(tab M.ds i).1≤65536∧(tab M.ds i).2+(tab M.ds i).1≤M.xs.length
  rw [hd] at hi ⊢
  rcases i with _ | _ | i
  · simp [tab]; omega
  · simp [tab]; omega
  · simp only [List.length_cons,List.length_nil] at hi; omega
 have hall:(allh (nbk k) Z.All).length=l.length:=by
  rw [allh_len l hown _ (Nat.le_refl _)]
  have:(l.filter fun p=>decide (bkt p.1 (nbk k)<nbk k))=l:=List.filter_eq_self.2 fun p _=>decide_eq_true (bkt_lt (nbk_pw hk) p.1).1
  rw [this]
 refine ⟨⟨nbk k,6,l.length,1000,Z.All,l⟩,⟨⟨nbk_pw hk,hnow,htabs,htb,by show 1≤M.k∧M.k≤8; omega,by show 2+M.k≤6; omega,by show 6+nbk k≤M.xs.length; omega,by show M.xs.length≤_; omega,hL.xb,hL.nexts,hlen,hF,hp1,hcx,hown,hn,by show l.length≤_; omega⟩,Like.refl l,⟨rfl,by show l.length≤35; omega⟩,⟨by show l.length≤1000; omega,by show 1000≤1000000; omega⟩,⟨by show Lo.hol M.hs 0= -1; rw [hhs]; rfl,by show 0<M.hs.length; rw [hhs]; simp⟩,fun b hb a ha=>?_⟩,rfl,rfl,rfl,hall,fun i hi=>?_,by rw [hlow 0 (by omega)]; rfl,hx,by rw [hd]; rfl,hnow⟩
 · obtain ⟨j,z,hj,_⟩:=(hcx b hb).at a ha
   have hg:=hL.gen j
   have h3:=hj.2.2
   have h1:=hj.1
   have h1':j<M.ss.length:=h1
   have h3':a.1=(at' M.ss j).gen*65536+j+1:=h3
   rw [hg] at h3'
   omega
 · show Cl.nth M.xs (2+i)=0
   have hi:(i:Int)<M.k:=hi
   rw [hlow (2+i) (by omega),if_neg (by omega)]
end Go.Proofs.YtkogifmjbmnpgaaGreat.Zr
namespace Go.Proofs.YtkogifmjbmnpgaaGreat.Zr
open Go Go.RowKit Hp K Fl Rw Hm Ar Mm Wk Pc Me Mq Pu Pn Gt Qs Zp Mx LawTh Bs
set_option maxRecDepth 100000
structure Ra where
 f:Nat
 tv:Value
 ga:Gw.Gl
 sa:Sw.Sc
def hld (nx:Nat):Nat:=if nx=0 then 0 else if nx≤5 then nx-1 else if nx=6 then 5 else 12-nx
def rrv (f nx:Nat) (tv:Value):Value:=if 1≤nx∧nx≤5 then wfm 31 (ptr f) else if nx=6 then .func (.method "Ready") #[tv] #[] else wf0 33
def rnv (f nx:Nat):Value:=if nx=0 then wfm 34 (ptr f) else if nx≤5 then wfm 32 (ptr f) else if nx=6 then wfm 137 (ptr f) else if nx≤11 then wfm 103 (ptr f) else wf0 104
def rcs (k z:Int) (u2 u3:Value) (e:Int) (h:Nat) (tv:Value):Array Value:=#[.int .i64 k,.int .i64 z,u2,u3,.int .i64 e,.int .i64 h,tv]
def rzc (a:Ra) (R:Rz):Array Value:=rcs R.worker R.size (rrv a.f R.nx a.tv) (rnv a.f R.nx) R.err (hld R.nx) a.tv
abbrev Rb (w:World) (f:Nat) (k z:Int) (u2 u3:Value) (e:Int) (h:Nat) (tv:Value):Prop:=Blk w f 77 (rcs k z u2 u3 e h tv)
structure RzAt (w:World) (a:Ra) (R:Rz):Prop where
 blk:Blk w a.f 77 (rzc a R)
 gro:∀ G,R.nx=6→R.inn=.gro G→a.tv=.iface 124 (ptr a.ga.f)∧Gw.GrAt w a.ga G
 shr:∀ G,R.nx=6→R.inn=.shr G→a.tv=.iface 126 (ptr a.sa.f)∧Sw.ShAt w a.sa G
def rfoot (a:Ra) (R:Rz) (x:Nat):Prop:=x=a.f∨(∃ G,R.nx=6∧R.inn=.gro G∧Gw.gfoot a.ga G x)∨∃ G,R.nx=6∧R.inn=.shr G∧Sw.sfoot a.sa G x
abbrev rzL:Lay Ra Rz:=⟨Ra.f,RzAt,rfoot⟩
section
variable {w w':World} {M:Mo} {a:Ra} {R:Rz} {f h:Nat} {k z e:Int} {u2 u3 tv:Value}
theorem rz_lt (h:rzL.At w a R) {x:Nat} (hx:rzL.foot a R x):x<w.heap.size:=by
 rcases hx with rfl | ⟨G,q1,q2,q3⟩ | ⟨G,q1,q2,q3⟩
 · exact h.blk.lt
 · exact (h.gro G q1 q2).2.lt q3
 · exact (h.shr G q1 q2).2.lt q3
theorem rz_far (h:rzL.At w a R) (hM:MemAt w M) {x:Nat} (hx:rzL.foot a R x):¬mfoot M x:=by
 rcases hx with rfl | ⟨G,q1,q2,q3⟩ | ⟨G,q1,q2,q3⟩
 · exact fun hm=>(hM.ty hm).apart (blk_ty h.blk) (by decide)
 · exact (h.gro G q1 q2).2.far hM q3
 · exact (h.shr G q1 q2).2.far hM q3
theorem rz_only {S:Nat→Prop} (h:rzL.At w a R) (ho:Only S w w') (hn:∀ x,rzL.foot a R x→¬S x):rzL.At w' a R where
 blk:=h.blk.only ho (hn _ (.inl rfl))
 gro G q1 q2:=⟨(h.gro G q1 q2).1,(h.gro G q1 q2).2.only ho (fun x hx=>hn x (.inr (.inl ⟨G,q1,q2,hx⟩)))⟩
 shr G q1 q2:=⟨(h.shr G q1 q2).1,(h.shr G q1 q2).2.only ho (fun x hx=>hn x (.inr (.inr ⟨G,q1,q2,hx⟩)))⟩
theorem rz_below (h:rzL.At w a R) (hb:Below w.heap.size w w'):rzL.At w' a R:=rz_only h (Only.ofBelow hb (fun _=>False)) (by simp)
theorem RzAt.plain (h:Blk w a.f 77 (rzc a R)) (hn:R.nx≠6):RzAt w a R:=⟨h,fun _ q=>absurd q hn,fun _ q=>absurd q hn⟩
theorem rfoot_plain (hn:R.nx≠6) {x:Nat} (hx:rfoot a R x):x=a.f:=by
 rcases hx with q | ⟨_,q,_⟩ | ⟨_,q,_⟩
 · exact q
 · exact absurd q hn
 · exact absurd q hn
theorem rb_cells (hb:Rb w f k z u2 u3 e h tv):w.cell? ⟨f,0,none⟩=some (.int .i64 k)∧w.cell? ⟨f,1,none⟩=some (.int .i64 z)∧w.cell? ⟨f,2,none⟩=some u2∧w.cell? ⟨f,3,none⟩=some u3∧w.cell? ⟨f,4,none⟩=some (.int .i64 e)∧w.cell? ⟨f,5,none⟩=some (.int .i64 h)∧w.cell? ⟨f,6,none⟩=some tv:=
 ⟨hb.cell 0,hb.cell 1,hb.cell 2,hb.cell 3,hb.cell 4,hb.cell 5,hb.cell 6⟩
theorem rb_far {h:Nat} (hb:Rb w f k z u2 u3 e h tv) (hM:MemAt w M):¬mfoot M f:=fun hm=>(hM.ty hm).apart (blk_ty hb) (by decide)
theorem power_all (n:Int) (w:World):Calls Tryz.prog 29 #[.int .i64 n] w fun e w'=>e=.returned (.bool (FM.power n))∧w'=w:=by
 by_cases h1:n≤9223372036854775807
 · by_cases h0: -9223372036854775808≤n
   · exact Fnv.power_any n w h0 h1
   · have hp:FM.power n=false:=by
      cases h:FM.power n with
      | false=>rfl
      | true=>have:=FM.power_bd h; omega
     have a:¬1≤n:=by omega
     rw [hp]
     clear h0 h1
     go_enter Tryz.func29,Tryz.ntmps29
     go_wp2
     go_ret
     exact ⟨rfl,rfl⟩
 · have hp:FM.power n=false:=by
    cases h:FM.power n with
    | false=>rfl
    | true=>have:=FM.power_bd h; omega
   have a:1≤n:=by omega
   have b:¬n≤65536:=by omega
   rw [hp]
   clear h1
   go_enter Tryz.func29,Tryz.ntmps29
   go_wp2
   go_ret
   exact ⟨rfl,rfl⟩
theorem always_any (m:Value) (w:World):Calls Tryz.prog 33 #[m] w fun e w'=>e=.returned (.bool true)∧w'=w:=by
 go_enter Tryz.func33,Tryz.ntmps33
 go_wp2
 go_ret
 exact ⟨rfl,rfl⟩
theorem goOn_any {F1 F2:Fn} {b1 b2:Array Value} {h:Nat} (hb:Rb w f k z u2 u3 e h tv):
 Calls Tryz.prog 30 #[ptr f,.func F1 b1 #[],.func F2 b2 #[]] w fun x w'=>x=.returned (.tuple #[])∧Rb w' f k z (.func F1 b1 #[]) (.func F2 b2 #[]) e h tv∧Only (·=f) w w':=by
 have c2:=hb.cell 2
 have c3:=hb.cell 3
 have z2:=hb.frozen 2
 have z3:=hb.frozen 3
 simp only [rcs,List.getElem?_toArray,List.getElem?_cons_succ,List.getElem?_cons_zero] at c2 c3
 have hE:Hid (Rb ((w.setCell ⟨f,2,none⟩ (.func F1 b1 #[])).setCell ⟨f,3,none⟩ (.func F2 b2 #[])) f k z (.func F1 b1 #[]) (.func F2 b2 #[]) e h tv):=Lib.hid ((hb.store 2 _).store 3 _)
 have hO:Hid (Only (·=f) w ((w.setCell ⟨f,2,none⟩ (.func F1 b1 #[])).setCell ⟨f,3,none⟩ (.func F2 b2 #[]))):=Lib.hid (((Only.refl (·=f) w).setCell (p:=⟨f,2,none⟩) (.inl rfl) _).setCell (p:=⟨f,3,none⟩) (.inl rfl) _)
 clear hb
 go_enter Tryz.func30,Tryz.ntmps30
 go_wp2
 go_end0
 exact ⟨rfl,hE.out,hO.out⟩
theorem end_any {h:Nat} (hb:Rb w f k z u2 u3 e h tv):
 Calls Tryz.prog 72 #[ptr f] w fun x w'=>x=.returned (.bool true)∧Rb w' f k z (wf0 33) (wf0 104) e h tv∧Only (·=f) w w':=by
 have hG:=Lib.hid (goOn_any (F1:=.func 33) (F2:=.func 104) (b1:=#[]) (b2:=#[]) hb)
 clear hb
 go_enter Tryz.func72,Tryz.ntmps72
 go_wp2_with fail
 refine hG.out.mono ?_
 rintro e w' ⟨rfl,hB,hO⟩
 replace hB:=Lib.hid hB
 replace hO:=Lib.hid hO
 clear hG
 go_wp2_with fail
 go_ret
 exact ⟨rfl,hB.out,hO.out⟩
def newRz (k z:Int):Rz:=⟨k,z,if FM.power z=true then 1 else 0,0,.none⟩
theorem new_resize (k z:Int) (w:World):Calls Tryz.prog 8 #[.int .i64 k,.int .i64 z] w fun e w'=>∃ a:Ra,e=.returned (ptr (rzL.f a))∧rzL.At w' a (newRz k z)∧(∀ x,rzL.foot a (newRz k z) x→w.heap.size≤x)∧Below w.heap.size w w':=by
 obtain ⟨w2,hw2⟩:∃ w2,w2=w.alloc (.cells #[.int .i64 k,.int .i64 z,.nilFunc,.nilFunc,.int .i64 0,.int .i64 0,.nilIface] 77):=⟨_,rfl⟩
 have hF2:Rb w2 w.heap.size k z .nilFunc .nilFunc 0 0 .nilIface:=by rw [hw2]; exact Blk.made w _ _
 have hB2:Below w.heap.size w w2:=by rw [hw2]; exact (Below.refl _ _).alloc (Nat.le_refl _) _
 obtain ⟨f,hf⟩:∃ f,f=w.heap.size:=⟨_,rfl⟩
 rw [← hf] at hF2
 have hfw:w.heap.size≤f:=by omega
 have hP:=Lib.hid (power_all z)
 have hb2:∀ w1,Only (·=f) w2 w1→Below w.heap.size w w1:=fun w1 hO=>hB2.trans (hO.toBelow hB2.size (fun x hx q=>by omega))
 replace hb2:=Lib.hid hb2
 cases hp:FM.power z with
 | true=>
   have hgo:=Lib.hid (goOn_any (F1:=.func 31) (F2:=.func 32) (b1:=#[ptr f]) (b2:=#[ptr f]) hF2)
   have hn:newRz k z=⟨k,z,1,0,.none⟩:=by unfold newRz; rw [hp]; rfl
   rw [hn]
   rw [hp] at hP
   clear hF2 hB2 hn hp
   go_enter Tryz.func8,Tryz.ntmps8
   go_upto_region 2 with (fail)
   rw [← hw2,← hf]
   clear hw2 hf
   go_wp2_with fail
   refine (hP.out _).mono ?_
   rintro e w' ⟨rfl,rfl⟩
   clear hP
   go_wp2_with fail
   refine hgo.out.mono ?_
   rintro e w1 ⟨rfl,hB,hO⟩
   have hE:Hid (RzAt w1 ⟨f,.nilIface,⟨0,.nilIface,.nilIface,0,0,none,0,0,none,0,[],none,0,[]⟩,⟨0,.nilIface,0,0⟩⟩ ⟨k,z,1,0,.none⟩):=Lib.hid (RzAt.plain hB (by simp))
   have hBl:=Lib.hid (hb2.out _ hO)
   clear hgo hB hO hb2
   go_wp2_with fail
   go_ret
   exact ⟨_,rfl,hE.out,fun x hx=>by rw [rfoot_plain (by simp) hx]; exact hfw,hBl.out⟩
 | false=>
   have hgo:=Lib.hid (goOn_any (F1:=.func 33) (F2:=.func 34) (b1:=#[]) (b2:=#[ptr f]) hF2)
   have hn:newRz k z=⟨k,z,0,0,.none⟩:=by unfold newRz; rw [hp]; rfl
   rw [hn]
   rw [hp] at hP
   clear hF2 hB2 hn hp
   go_enter Tryz.func8,Tryz.ntmps8
   go_upto_region 2 with (fail)
   rw [← hw2,← hf]
   clear hw2 hf
   go_wp2_with fail
   refine (hP.out _).mono ?_
   rintro e w' ⟨rfl,rfl⟩
   clear hP
   go_wp2_with fail
   refine hgo.out.mono ?_
   rintro e w1 ⟨rfl,hB,hO⟩
   have hE:Hid (RzAt w1 ⟨f,.nilIface,⟨0,.nilIface,.nilIface,0,0,none,0,0,none,0,[],none,0,[]⟩,⟨0,.nilIface,0,0⟩⟩ ⟨k,z,0,0,.none⟩):=Lib.hid (RzAt.plain hB (by simp))
   have hBl:=Lib.hid (hb2.out _ hO)
   clear hgo hB hO hb2
   go_wp2_with fail
   go_ret
   exact ⟨_,rfl,hE.out,fun x hx=>by rw [rfoot_plain (by simp) hx]; exact hfw,hBl.out⟩
theorem rz_err (h:rzL.At w a R):Calls Tryz.prog 11 #[ptr (rzL.f a)] w fun e w'=>e=.returned (.int .i64 R.err)∧w'=w:=by
 have c4:=(rb_cells h.blk).2.2.2.2.1
 show Calls _ _ #[ptr a.f] _ _
 clear h
 go_enter Tryz.func11,Tryz.ntmps11
 go_wp2_with fail
 go_ret
 exact ⟨rfl,rfl⟩
theorem step_fm {F:Nat} {cv m:Value} {c:Bool} {P:World→Prop} (c3:w.cell? ⟨f,3,none⟩=some (wfm F cv)) (eF:∀ args w,(callFunc F args).run Tryz.prog w=.ok (.enter F args) w)
 (hF:Calls Tryz.prog F #[cv,m] w fun e w'=>e=.returned (.bool c)∧P w'):Calls Tryz.prog 235 #[ptr f,m] w fun e w'=>e=.returned (.bool c)∧P w':=by
 replace hF:=Lib.hid hF
 go_enter Tryz.func235,Tryz.ntmps235
 go_wp2_with fail
 refine hF.out.mono ?_
 rintro e w' ⟨rfl,hPw⟩
 replace hPw:=Lib.hid hPw
 clear c3
 go_wp2_with fail
 go_ret
 exact ⟨rfl,hPw.out⟩
theorem ready_f0 {m:Value} (c2:w.cell? ⟨f,2,none⟩=some (wf0 33)):Calls Tryz.prog 234 #[ptr f,m] w fun e w'=>e=.returned (.bool true)∧Below w.heap.size w w':=by
 have eF:∀ args w,(callFunc 33 args).run Tryz.prog w=.ok (.enter 33 args) w:=fun _ _=>by kernel_rfl
 have hA:=Lib.hid (always_any m w)
 go_enter Tryz.func234,Tryz.ntmps234
 go_wp2_with fail
 refine hA.out.mono ?_
 rintro e w' ⟨rfl,hw⟩
 obtain rfl:w=w':=hw.symm
 clear hA c2
 go_wp2_with fail
 go_ret
 exact ⟨rfl,Below.refl _ _⟩
theorem ready_fm {F:Nat} {cv m:Value} {c:Bool} (c2:w.cell? ⟨f,2,none⟩=some (wfm F cv)) (eF:∀ args w,(callFunc F args).run Tryz.prog w=.ok (.enter F args) w)
 (hF:Calls Tryz.prog F #[cv,m] w fun e w'=>e=.returned (.bool c)∧Below w.heap.size w w'):Calls Tryz.prog 234 #[ptr f,m] w fun e w'=>e=.returned (.bool c)∧Below w.heap.size w w':=by
 replace hF:=Lib.hid hF
 go_enter Tryz.func234,Tryz.ntmps234
 go_wp2_with fail
 refine hF.out.mono ?_
 rintro e w' ⟨rfl,hb⟩
 replace hb:=Lib.hid hb
 clear c2
 go_wp2_with fail
 go_ret
 exact ⟨rfl,hb.out⟩
theorem ready_by {T:TypeId} {fr b:Nat} {m:Value} {c:Bool} (c2:w.cell? ⟨f,2,none⟩=some (.func (.method "Ready") #[.iface T (ptr b)] #[])) (mr:∀ (w:World) (f:Nat),(method (f+1) T (.pointer (some ⟨b,0,none⟩)) "Ready").run Tryz.prog w=.ok (fr,.pointer (some ⟨b,0,none⟩)) w)
 (er:∀ args w,(callFunc fr args).run Tryz.prog w=.ok (.enter fr args) w) (hF:Calls Tryz.prog fr #[ptr b,m] w fun e w'=>e=.returned (.bool c)∧Below w.heap.size w w'):Calls Tryz.prog 234 #[ptr f,m] w fun e w'=>e=.returned (.bool c)∧Below w.heap.size w w':=by
 replace hF:=Lib.hid hF
 go_enter Tryz.func234,Tryz.ntmps234
 go_wp2_with fail
 refine hF.out.mono ?_
 rintro e w' ⟨rfl,hb⟩
 replace hb:=Lib.hid hb
 clear c2
 go_wp2_with fail
 go_ret
 exact ⟨rfl,hb.out⟩
end
end Go.Proofs.YtkogifmjbmnpgaaGreat.Zr
namespace Go.Proofs.YtkogifmjbmnpgaaGreat.Zr
open Go Go.RowKit Hp K Fl Rw Hm Ar Mm Wk Pc Me Mq Pu Pn Gt Qs Zp Mx LawTh Bs
set_option maxRecDepth 100000
def lkB (h:Nat):Nat:=if h=0 then 5 else h
section
variable {w w':World} {M:Mo} {a:Ra} {R:Rz} {f h b:Nat} {k z e:Int} {u2 u3 tv:Value}
theorem lock_behind (h:Nat) (w:World):Calls Tryz.prog 69 #[.int .i64 h] w fun e w'=>e=.returned (.int .i64 (lkB h))∧w'=w:=by
 unfold lkB
 by_cases h0:h=0
 · subst h0
   go_enter Tryz.func69,Tryz.ntmps69
   go_wp2
   go_ret
   exact ⟨rfl,rfl⟩
 · rw [if_neg h0]
   have hz:¬((h:Int)=0):=by omega
   go_enter Tryz.func69,Tryz.ntmps69
   go_wp2
   go_ret
   exact ⟨rfl,rfl⟩
theorem lkB_lt (hh:h≤4):lkB h<6:=by unfold lkB; split<;>omega
set_option maxHeartbeats 1000000 in
theorem mayTake_any (hM:MemAt w M) (hb:Rb w f k z u2 u3 e h tv) (hk:0≤k) (hh:h≤4) (hl:M.hs.length=6):
 Calls Tryz.prog 31 #[ptr f,ptr M.m] w fun x w'=>x=.returned (.bool (decide (Lo.hol M.hs (lkB h)= -1)))∧Below w.heap.size w w':=by
 obtain ⟨c0,c1,c2,c3,c4,c5,c6⟩:=rb_cells hb
 have d1:=hM.hd.2.1
 have hLB:=Lib.hid (fun w=>lock_behind h w)
 have hk':decide (0≤k)=true:=by simpa using hk
 have hO:=Lib.hid (fun nq=>Lo.holder_in (hM.drewN nq).2.2.1 (lkB h) (by rw [hl]; exact lkB_lt hh))
 have hbd:=Lo.hol_bd hM.2.2.1.2.2.1 (lkB h)
 clear hM hb c1 c2 c3 c4 c6 hl
 generalize Lo.hol M.hs (lkB h)=v at*
 generalize lkB h=j at*
 go_enter Tryz.func31,Tryz.ntmps31
 go_wp2_with fail
 go_quiet (first
  | (go_at_call 69; exact Calls.quiet_of_same (hLB.out _))
  | (go_at_call 68; exact Calls.quiet_of_same (hO.out _)))
 go_wp2_with fail
 go_ret
 exact ⟨K.ret_bool (by simp [BEq.beq]),rfl,rfl,rfl,Nat.le_refl _,fun _ _=>rfl⟩
theorem refuse_step (hb:Rb w f k z u2 u3 e h tv) (m:Value):
 Calls Tryz.prog 34 #[ptr f,m] w fun x w'=>x=.returned (.bool true)∧Rb w' f k z (wf0 33) (wf0 104) 5 h tv∧Only (·=f) w w':=by
 have c4:=(rb_cells hb).2.2.2.2.1
 have z4:=hb.frozen 4
 have hS:Rb (w.setCell ⟨f,4,none⟩ (.int .i64 5)) f k z u2 u3 5 h tv:=hb.store 4 _
 have hO:=Lib.hid ((Only.refl (·=f) w).setCell (p:=⟨f,4,none⟩) (.inl rfl) (.int .i64 5))
 have hE:=Lib.hid (end_any hS)
 clear hb hS
 go_enter Tryz.func34,Tryz.ntmps34
 go_wp2_with fail
 refine hE.out.mono ?_
 rintro e w' ⟨rfl,hB,hO2⟩
 replace hB:=Lib.hid hB
 have hO3:=Lib.hid (hO.out.trans hO2)
 clear hE hO hO2 c4 z4
 go_wp2_with fail
 go_ret
 exact ⟨rfl,hB.out,hO3.out⟩
theorem goOnBy_any {T:TypeId} (hb:Rb w f k z u2 u3 e h tv):
 Calls Tryz.prog 102 #[ptr f,.iface T (ptr b)] w fun x w'=>x=.returned (.tuple #[])∧Rb w' f k z (.func (.method "Ready") #[.iface T (ptr b)] #[]) (wfm 137 (ptr f)) e h (.iface T (ptr b))∧Only (·=f) w w':=by
 have c6:=(rb_cells hb).2.2.2.2.2.2
 have z6:=hb.frozen 6
 have hS:Rb (w.setCell ⟨f,6,none⟩ (.iface T (ptr b))) f k z u2 u3 e h (.iface T (ptr b)):=hb.store 6 _
 have hO:=Lib.hid ((Only.refl (·=f) w).setCell (p:=⟨f,6,none⟩) (.inl rfl) (.iface T (ptr b)))
 have hE:=Lib.hid (goOn_any (F1:=.method "Ready") (F2:=.func 137) (b1:=#[.iface T (ptr b)]) (b2:=#[ptr f]) hS)
 clear hb hS
 go_enter Tryz.func102,Tryz.ntmps102
 go_wp2_with fail
 refine hE.out.mono ?_
 rintro e w' ⟨rfl,hB,hO2⟩
 replace hB:=Lib.hid hB
 have hO3:=Lib.hid (hO.out.trans hO2)
 clear hE hO hO2 c6 z6
 go_wp2_with fail
 go_end0
 exact ⟨rfl,hB.out,hO3.out⟩
set_option maxHeartbeats 1000000 in
theorem choose_any (hM:MemAt w M) (hx:1<M.xs.length) (ga:Gw.Gl) (sa:Sw.Sc) (R:Rz) (hb:Rb w f R.worker R.size u2 u3 R.err 5 tv):
 Calls Tryz.prog 71 #[ptr f,ptr M.m] w fun x w'=>x=.returned (.tuple #[])∧∃ a':Ra,a'.f=f∧RzAt w' a' (look (lm M) R)∧(∀ x,rfoot a' (look (lm M) R) x→x=f∨w.heap.size≤x)∧Only (·=f) w w':=by
 obtain ⟨c0,c1,c2,c3,c4,c5,c6⟩:=rb_cells hb
 have hN:=now_any hM hx
 unfold look
 unfold dv at hN
 have lf:=hb.lt
 have HB:=Lib.hid hb
 replace hN:=Lib.hid hN
 show Calls _ _ _ _ (fun x w'=>x=_∧∃ a':Ra,a'.f=f∧RzAt w' a' (if ((now M.xs M.ds).1:Int)=R.size then {R with nx:=7} else if ((now M.xs M.ds).1:Int)<R.size then {R with nx:=6,inn:=.gro (Gw.newGro R.worker)} else {R with nx:=6,inn:=.shr (Sw.newShr R.worker)})∧(∀ x,rfoot a' (if ((now M.xs M.ds).1:Int)=R.size then {R with nx:=7} else if ((now M.xs M.ds).1:Int)<R.size then {R with nx:=6,inn:=.gro (Gw.newGro R.worker)} else {R with nx:=6,inn:=.shr (Sw.newShr R.worker)}) x→x=f∨w.heap.size≤x)∧Only (·=f) w w')
 obtain ⟨n,hn⟩:∃ n,n=(now M.xs M.ds).1:=⟨_,rfl⟩
 obtain ⟨B,hB⟩:∃ B,B=(now M.xs M.ds).2:=⟨_,rfl⟩
 rw [← hn]
 rw [← hn,← hB] at hN
 have hfd:∀ w,(Instr.field 51 (.agg #[.int .i64 n,.int .i64 B]) 0).run Tryz.prog w=.ok (.int .i64 n) w:=fun w=>rfl
 have hg:=Lib.hid (fun w=>Gw.new_grow R.worker w)
 have hs:=Lib.hid (fun w=>Sw.new_shrink R.worker w)
 have lM:=hM.1.lt
 clear hM hb hn hB c2 c3 c4 c5 c6 hx
 by_cases q1:(n:Int)<R.size
 · rw [if_neg (by omega),if_pos q1]
   clear hs
   go_enter Tryz.func71,Tryz.ntmps71
   go_wp2_with fail
   refine hN.out.mono ?_
   rintro e1 w1 ⟨rfl,hb1⟩
   have hB1:Rb w1 f R.worker R.size u2 u3 R.err 5 tv:=HB.out.only (Only.ofBelow hb1 (fun _=>False)) (by simp)
   have k0:=(rb_cells hB1).1
   have k1:=(rb_cells hB1).2.1
   replace hB1:=Lib.hid hB1
   have hO1:=Lib.hid (Only.ofBelow hb1 (·=f))
   clear hN hb1 c0 c1 HB
   go_wp2_with fail
   refine (hg.out _).mono ?_
   rintro e2 w2 ⟨ga,rfl,hG,hlo,hb2⟩
   have hB2:=Lib.hid (hB1.out.only (Only.ofBelow hb2 (fun _=>False)) (by simp))
   have hO2:=Lib.hid (hO1.out.trans (Only.ofBelow hb2 (·=f)))
   have hlo2:=Lib.hid (fun x hx=>Nat.le_trans hO1.out.size (hlo x hx))
   have hf2:=Lib.hid (fun x hx=>show ¬x=f from fun e=>by have h1:=hlo x hx; have h2:=hB1.out.lt; omega)
   replace hG:=Lib.hid hG
   have hby:=Lib.hid (goOnBy_any (T:=124) (b:=ga.f) hB2.out)
   clear hlo hb2 hg k0 k1 hB1 hO1
   go_wp2_with fail
   refine hby.out.mono ?_
   rintro e3 w3 ⟨rfl,hB3,hO3⟩
   have hR:Hid (RzAt w3 ⟨f,.iface 124 (ptr ga.f),ga,sa⟩ {R with nx:=6,inn:=.gro (Gw.newGro R.worker)}):=Lib.hid ⟨hB3,fun G _ hG'=>⟨rfl,by
    injection hG' with hG'
    rw [← hG']
    exact hG.out.only hO3 hf2.out⟩,fun G _ q=>by simp at q⟩
   have hO4:=Lib.hid (hO2.out.trans hO3)
   clear hby hB3 hO3 hO2
   go_wp2_with fail
   go_end0
   refine ⟨rfl,_,rfl,hR.out,fun x hx=>?_,hO4.out⟩
   rcases hx with q | ⟨G,_,q2,q3⟩ | ⟨G,_,q2,_⟩
   · exact .inl q
   · injection q2 with q2
     subst q2
     exact .inr (hlo2.out x q3)
   · simp at q2
 · by_cases q2:(n:Int) > R.size
   · rw [if_neg (by omega),if_neg q1]
     clear hg
     go_enter Tryz.func71,Tryz.ntmps71
     go_wp2_with fail
     refine hN.out.mono ?_
     rintro e1 w1 ⟨rfl,hb1⟩
     have hB1:Rb w1 f R.worker R.size u2 u3 R.err 5 tv:=HB.out.only (Only.ofBelow hb1 (fun _=>False)) (by simp)
     have k0:=(rb_cells hB1).1
     have k1:=(rb_cells hB1).2.1
     replace hB1:=Lib.hid hB1
     have hO1:=Lib.hid (Only.ofBelow hb1 (·=f))
     clear hN hb1 c0 c1 HB
     go_wp2_with fail
     refine (hs.out _).mono ?_
     rintro e2 w2 ⟨sa,rfl,hG,hlo,hb2⟩
     have hB2:=Lib.hid (hB1.out.only (Only.ofBelow hb2 (fun _=>False)) (by simp))
     have hO2:=Lib.hid (hO1.out.trans (Only.ofBelow hb2 (·=f)))
     have hlo2:=Lib.hid (fun x hx=>Nat.le_trans hO1.out.size (hlo x hx))
     have hf2:=Lib.hid (fun x hx=>show ¬x=f from fun e=>by have h1:=hlo x hx; have h2:=hB1.out.lt; omega)
     replace hG:=Lib.hid hG
     have hby:=Lib.hid (goOnBy_any (T:=126) (b:=sa.f) hB2.out)
     clear hlo hb2 hs k0 k1 hB1 hO1
     go_wp2_with fail
     refine hby.out.mono ?_
     rintro e3 w3 ⟨rfl,hB3,hO3⟩
     have hR:Hid (RzAt w3 ⟨f,.iface 126 (ptr sa.f),ga,sa⟩ {R with nx:=6,inn:=.shr (Sw.newShr R.worker)}):=Lib.hid ⟨hB3,fun G _ q=>by simp at q,fun G _ hG'=>⟨rfl,by
      injection hG' with hG'
      rw [← hG']
      exact hG.out.only hO3 hf2.out⟩⟩
     have hO4:=Lib.hid (hO2.out.trans hO3)
     clear hby hB3 hO3 hO2
     go_wp2_with fail
     go_end0
     refine ⟨rfl,_,rfl,hR.out,fun x hx=>?_,hO4.out⟩
     rcases hx with q | ⟨G,_,q2,_⟩ | ⟨G,_,q2,q3⟩
     · exact .inl q
     · simp at q2
     · injection q2 with q2
       subst q2
       exact .inr (hlo2.out x q3)
   · rw [if_pos (by omega)]
     clear hg hs
     go_enter Tryz.func71,Tryz.ntmps71
     go_wp2_with fail
     refine hN.out.mono ?_
     rintro e1 w1 ⟨rfl,hb1⟩
     have hB1:Rb w1 f R.worker R.size u2 u3 R.err 5 tv:=HB.out.only (Only.ofBelow hb1 (fun _=>False)) (by simp)
     have k1:=(rb_cells hB1).2.1
     replace hB1:=Lib.hid hB1
     have hO1:=Lib.hid (Only.ofBelow hb1 (·=f))
     have hgo:=Lib.hid (goOn_any (F1:=.func 33) (F2:=.func 103) (b1:=#[]) (b2:=#[ptr f]) hB1.out)
     clear hN hb1 c0 c1 HB
     go_wp2_with fail
     refine hgo.out.mono ?_
     rintro e3 w3 ⟨rfl,hB3,hO3⟩
     have hR:Hid (RzAt w3 ⟨f,tv,ga,sa⟩ {R with nx:=7}):=Lib.hid (RzAt.plain hB3 (by simp))
     have hO4:=Lib.hid (hO1.out.trans hO3)
     clear hgo hB3 hO3 hO1 hB1 k1
     go_wp2_with fail
     go_end0
     exact ⟨rfl,_,rfl,hR.out,fun x hx=>.inl (rfoot_plain (by simp) hx),hO4.out⟩
end
end Go.Proofs.YtkogifmjbmnpgaaGreat.Zr
namespace Go.Proofs.YtkogifmjbmnpgaaGreat.Zr
open Go Go.RowKit Hp K Fl Rw Hm Ar Mm Wk Pc Me Mq Pu Pn Gt Qs Zp Mx LawTh Bs
set_option maxRecDepth 100000
section
variable {w w':World} {M:Mo} {a:Ra} {R:Rz} {f h b:Nat} {k z e:Int} {u2 u3 tv:Value}
theorem foot_locks:∀ x,Lo.foot M.lg M.lb x→mfoot M x:=fun _ h=>.inr (.inr (.inl h))
theorem mem_store (hM:MemAt w M) (hb:Rb w f k z u2 u3 e h tv) (hO:Only (·=f) w w'):MemAt w' M:=hM.only hO (fun x hx q=>by subst q; exact rb_far hb hM hx)
set_option maxHeartbeats 2000000 in
theorem take_more (hM:MemAt w M) (hb:Rb w f k z u2 u3 e h tv) (hk:0≤k∧k≤1000) (hh:h<4) (hl:M.hs.length=6) (hf:Lo.hol M.hs (lkB h)<0):
 Calls Tryz.prog 32 #[ptr f,ptr M.m] w fun x w'=>x=.returned (.bool false)∧MemAt w' {M with hs:=M.hs.set (lkB h) k}∧Rb w' f k z u2 u3 e (h+1) tv∧Only (fun x=>mfoot M x∨x=f) w w':=by
 have d1:=hM.hd.2.1
 have c0:=(rb_cells hb).1
 have c5:=(rb_cells hb).2.2.2.2.2.1
 have hLB:=Lib.hid (fun w=>lock_behind h w)
 have hT:=Lib.hid (fun nq=>Lo.try_free (hM.drewN nq).2.2.1 (lkB h) (by rw [hl]; exact lkB_lt (by omega)) k hk.1 (by omega) hf)
 have HM:=Lib.hid hM
 have HB:=Lib.hid hb
 have lM:=hM.1.lt
 have lf:=hb.lt
 have hh5:¬((h:Int)+1=5):=by omega
 clear hM hb hl hf
 generalize lkB h=j at*
 go_enter Tryz.func32,Tryz.ntmps32
 go_wp2_with fail
 go_region_held3 (fun w'=>w'.cell? ⟨M.m,1,none⟩=some (ptr M.lg)∧w'.cell? ⟨f,0,none⟩=some (.int .i64 k)∧w'.cell? ⟨f,5,none⟩=some (.int .i64 h)) (go_keep)
  (first
    | (go_at_call 69
       refine (hLB.out _).mono ?_
       rintro e w3 ⟨rfl,rfl⟩)
    | (go_at_call 70
       refine (hT.out 1).mono ?_
       rintro e w2 ⟨rfl,hL2,hO2⟩
       have hO2':=((Only.refl (Lo.foot M.lg M.lb) w).drewN 1).trans hO2
       have hM2:=HM.out.locks hL2 hO2'
       have hB2:=HB.out.only hO2' (fun hx=>rb_far HB.out HM.out (foot_locks _ hx))
       have s1:=hM2.hd.2.1
       have s2:=(rb_cells hB2).1
       have s3:=(rb_cells hB2).2.2.2.2.2.1
       have z5:=hB2.frozen 5
       simp at s1
       replace hO2':=Lib.hid hO2'
       replace hM2:=Lib.hid hM2
       replace hB2:=Lib.hid hB2
       clear hL2 hO2))
 all_goals
  go_wp2_with fail
  have hS:Rb (w2.setCell ⟨f,5,none⟩ (.int .i64 ((h:Int)+1))) f k z u2 u3 e (h+1) tv:=hB2.out.store 5 _
  have hOS:=(Only.refl (·=f) w2).setCell (p:=⟨f,5,none⟩) (.inl rfl) (.int .i64 ((h:Int)+1))
  have hMS:=mem_store hM2.out hB2.out hOS
  have hOO:=(hO2'.out.mono (fun x _ q=>(.inl (foot_locks _ q):mfoot M x∨x=f))).trans (hOS.mono (fun x _ q=>.inr q))
  go_ret
  exact ⟨rfl,hMS,hS,hOO⟩
set_option maxHeartbeats 2000000 in
theorem take_last (hM:MemAt w M) (ga:Gw.Gl) (sa:Sw.Sc) (R:Rz) (hb:Rb w f R.worker R.size u2 u3 R.err 4 tv) (hk:0≤R.worker∧R.worker≤1000) (hl:M.hs.length=6) (hx:1<M.xs.length) (hf:Lo.hol M.hs 4<0):
 Calls Tryz.prog 32 #[ptr f,ptr M.m] w fun x w'=>x=.returned (.bool false)∧MemAt w' {M with hs:=M.hs.set 4 R.worker}∧Only (fun x=>mfoot M x∨x=f) w w'∧∃ a':Ra,a'.f=f∧RzAt w' a' (look (lm M) R)∧∀ x,rfoot a' (look (lm M) R) x→x=f∨w.heap.size≤x:=by
 have d1:=hM.hd.2.1
 have c0:=(rb_cells hb).1
 have c5:=(rb_cells hb).2.2.2.2.2.1
 have hLB:=Lib.hid (fun w=>lock_behind 4 w)
 have hT:=Lib.hid (fun nq=>Lo.try_free (hM.drewN nq).2.2.1 4 (by rw [hl]; omega) R.worker hk.1 (by omega) hf)
 have hlk:lkB 4=4:=rfl
 rw [hlk] at hLB
 have HM:=Lib.hid hM
 have HB:=Lib.hid hb
 have lM:=hM.1.lt
 have lf:=hb.lt
 clear hM hb hl hf hlk
 go_enter Tryz.func32,Tryz.ntmps32
 go_wp2_with fail
 go_region_held3 (fun w'=>w'.cell? ⟨M.m,1,none⟩=some (ptr M.lg)∧w'.cell? ⟨f,0,none⟩=some (.int .i64 R.worker)∧w'.cell? ⟨f,5,none⟩=some (.int .i64 4)) (go_keep)
  (first
    | (go_at_call 69
       refine (hLB.out _).mono ?_
       rintro e w3 ⟨rfl,rfl⟩)
    | (go_at_call 70
       refine (hT.out 1).mono ?_
       rintro e w2 ⟨rfl,hL2,hO2⟩
       have hO2':=((Only.refl (Lo.foot M.lg M.lb) w).drewN 1).trans hO2
       have hM2:=HM.out.locks hL2 hO2'
       have hB2:=HB.out.only hO2' (fun hx=>rb_far HB.out HM.out (foot_locks _ hx))
       have s1:=hM2.hd.2.1
       have s2:=(rb_cells hB2).1
       have s3:=(rb_cells hB2).2.2.2.2.2.1
       have z5:=hB2.frozen 5
       simp at s1
       replace hO2':=Lib.hid hO2'
       replace hM2:=Lib.hid hM2
       replace hB2:=Lib.hid hB2
       clear hL2 hO2))
 all_goals
  go_wp2_with fail
  have hS:Rb (w2.setCell ⟨f,5,none⟩ (.int .i64 5)) f R.worker R.size u2 u3 R.err 5 tv:=hB2.out.store 5 _
  have hOS:=(Only.refl (·=f) w2).setCell (p:=⟨f,5,none⟩) (.inl rfl) (.int .i64 5)
  have hMS:=mem_store hM2.out hB2.out hOS
  have hOO:=(hO2'.out.mono (fun x _ q=>(.inl (foot_locks _ q):mfoot M x∨x=f))).trans (hOS.mono (fun x _ q=>.inr q))
  have hC:=Lib.hid (choose_any hMS hx ga sa R hS)
  replace hMS:=Lib.hid hMS
  replace hOO:=Lib.hid hOO
  replace hS:=Lib.hid hS
  clear hOS s1 s2 s3 z5
  refine hC.out.mono ?_
  rintro e1 w3 ⟨rfl,a',ha,hR,hfo,hO3⟩
  have hM3:=Lib.hid (mem_store hMS.out hS.out hO3)
  have hO4:=Lib.hid (hOO.out.trans (hO3.mono (fun x _ q=>.inr q)))
  have hfo':=Lib.hid (fun x hx=>(hfo x hx).imp id (fun q=>Nat.le_trans hOO.out.size q))
  replace hR:=Lib.hid hR
  clear hC hO3 hfo hS
  go_wp2_with fail
  go_ret
  exact ⟨rfl,hM3.out,hO4.out,a',ha,hR.out,hfo'.out⟩
set_option maxHeartbeats 2000000 in
theorem free_more (hM:MemAt w M) (hb:Rb w f k z u2 u3 e (h+1) tv) (hk:0≤k) (h1:1≤h) (hh:h≤4) (hl:M.hs.length=6) (hf:Lo.hol M.hs h=k):
 Calls Tryz.prog 103 #[ptr f,ptr M.m] w fun x w'=>x=.returned (.bool false)∧MemAt w' {M with hs:=M.hs.set h (-1)}∧Rb w' f k z u2 u3 e h tv∧Only (fun x=>mfoot M x∨x=f) w w':=by
 have c5:=(rb_cells hb).2.2.2.2.2.1
 have z5:=hb.frozen 5
 have hS:Rb (w.setCell ⟨f,5,none⟩ (.int .i64 h)) f k z u2 u3 e h tv:=hb.store 5 _
 have hOS:=(Only.refl (·=f) w).setCell (p:=⟨f,5,none⟩) (.inl rfl) (.int .i64 h)
 have hMS:=mem_store hM hb hOS
 have hLB:=Lib.hid (fun w=>lock_behind h w)
 have hT:=Lib.hid (fun nq=>Lo.free_own (hMS.drewN nq).2.2.1 h (by rw [hl]; omega) k hk hf)
 have hlk:lkB h=h:=if_neg (by omega)
 rw [hlk] at hLB
 have e5:((h+1:Nat):Int)-1=h:=by omega
 have hne:M.m≠f:=fun e=>rb_far hb hM (.inl e.symm)
 have d1:=hM.hd.2.1
 replace hMS:=Lib.hid hMS
 replace hS:=Lib.hid hS
 replace hOS:=Lib.hid hOS
 clear hM hb hl hf hlk
 go_enter Tryz.func103,Tryz.ntmps103
 go_upto_region 2 with (fail)
 have hpos:(0:Int)<(h:Int):=by omega
 clear c5 z5 hne d1
 generalize w.setCell ⟨f,5,none⟩ (.int .i64 h)=w1 at*
 have c0:=(rb_cells hS.out).1
 have c5:=(rb_cells hS.out).2.2.2.2.2.1
 have d1:=hMS.out.hd.2.1
 have lM:=hMS.out.1.lt
 have lf:=hS.out.lt
 go_wp2_with fail
 go_region_held3 (fun w'=>w'.cell? ⟨M.m,1,none⟩=some (ptr M.lg)∧w'.cell? ⟨f,0,none⟩=some (.int .i64 k)∧w'.cell? ⟨f,5,none⟩=some (.int .i64 h)) (go_keep)
  (first
    | (go_at_call 69
       refine (hLB.out _).mono ?_
       rintro e w3 ⟨rfl,rfl⟩)
    | (go_at_call 138
       refine (hT.out 1).mono ?_
       rintro e w2 ⟨rfl,hL2,hO2⟩
       have hO2':=((Only.refl (Lo.foot M.lg M.lb) w1).drewN 1).trans hO2
       have hM2:=hMS.out.locks hL2 hO2'
       have hB2:=hS.out.only hO2' (fun hx=>rb_far hS.out hMS.out (foot_locks _ hx))
       have s1:=hM2.hd.2.1
       have s2:=(rb_cells hB2).1
       have s3:=(rb_cells hB2).2.2.2.2.2.1
       simp at s1
       have hO4:=Lib.hid ((hOS.out.mono (fun x _ q=>(.inr q:mfoot M x∨x=f))).trans (hO2'.mono (fun x _ q=>.inl (foot_locks _ q))))
       replace hO2':=Lib.hid hO2'
       replace hM2:=Lib.hid hM2
       replace hB2:=Lib.hid hB2
       clear hL2 hO2))
 all_goals
  go_wp2_with fail
  go_ret
  exact ⟨rfl,hM2.out,hB2.out,hO4.out⟩
set_option maxHeartbeats 2000000 in
theorem free_last (hM:MemAt w M) (hb:Rb w f k z u2 u3 e 1 tv) (hk:0≤k) (hl:M.hs.length=6) (hf:Lo.hol M.hs 5=k):
 Calls Tryz.prog 103 #[ptr f,ptr M.m] w fun x w'=>x=.returned (.bool true)∧MemAt w' {M with hs:=M.hs.set 5 (-1)}∧Rb w' f k z (wf0 33) (wf0 104) e 0 tv∧Only (fun x=>mfoot M x∨x=f) w w':=by
 have c5:=(rb_cells hb).2.2.2.2.2.1
 have z5:=hb.frozen 5
 have hS:Rb (w.setCell ⟨f,5,none⟩ (.int .i64 0)) f k z u2 u3 e 0 tv:=hb.store 5 _
 have hOS:=(Only.refl (·=f) w).setCell (p:=⟨f,5,none⟩) (.inl rfl) (.int .i64 0)
 have hMS:=mem_store hM hb hOS
 have hLB:=Lib.hid (fun w=>lock_behind 0 w)
 have hT:=Lib.hid (fun nq=>Lo.free_own (hMS.drewN nq).2.2.1 5 (by rw [hl]; omega) k hk hf)
 have hlk:lkB 0=5:=rfl
 rw [hlk] at hLB
 have hne:M.m≠f:=fun e=>rb_far hb hM (.inl e.symm)
 have d1:=hM.hd.2.1
 replace hMS:=Lib.hid hMS
 replace hS:=Lib.hid hS
 replace hOS:=Lib.hid hOS
 clear hM hb hl hf hlk
 go_enter Tryz.func103,Tryz.ntmps103
 go_upto_region 2 with (fail)
 clear c5 z5 hne d1
 generalize w.setCell ⟨f,5,none⟩ (.int .i64 0)=w1 at*
 have c0:=(rb_cells hS.out).1
 have c5:=(rb_cells hS.out).2.2.2.2.2.1
 have d1:=hMS.out.hd.2.1
 have lM:=hMS.out.1.lt
 have lf:=hS.out.lt
 go_wp2_with fail
 go_region_held3 (fun w'=>w'.cell? ⟨M.m,1,none⟩=some (ptr M.lg)∧w'.cell? ⟨f,0,none⟩=some (.int .i64 k)∧w'.cell? ⟨f,5,none⟩=some (.int .i64 0)) (go_keep)
  (first
    | (go_at_call 69
       refine (hLB.out _).mono ?_
       rintro e w3 ⟨rfl,rfl⟩)
    | (go_at_call 138
       refine (hT.out 1).mono ?_
       rintro e w2 ⟨rfl,hL2,hO2⟩
       have hO2':=((Only.refl (Lo.foot M.lg M.lb) w1).drewN 1).trans hO2
       have hM2:=hMS.out.locks hL2 hO2'
       have hB2:=hS.out.only hO2' (fun hx=>rb_far hS.out hMS.out (foot_locks _ hx))
       have s1:=hM2.hd.2.1
       have s2:=(rb_cells hB2).1
       have s3:=(rb_cells hB2).2.2.2.2.2.1
       simp at s1
       have hO4:=Lib.hid ((hOS.out.mono (fun x _ q=>(.inr q:mfoot M x∨x=f))).trans (hO2'.mono (fun x _ q=>.inl (foot_locks _ q))))
       replace hO2':=Lib.hid hO2'
       replace hM2:=Lib.hid hM2
       replace hB2:=Lib.hid hB2
       clear hL2 hO2))
 all_goals
  have hE:=Lib.hid (end_any hB2.out)
  go_wp2_with fail
  refine hE.out.mono ?_
  rintro e1 w3 ⟨rfl,hB3,hO3⟩
  have hM3:=Lib.hid (mem_store hM2.out hB2.out hO3)
  have hO5:=Lib.hid (hO4.out.trans (hO3.mono (fun x _ q=>.inr q)))
  replace hB3:=Lib.hid hB3
  clear hE hO3 hB2
  go_wp2_with fail
  go_ret
  exact ⟨rfl,hM3.out,hB3.out,hO5.out⟩
end
end Go.Proofs.YtkogifmjbmnpgaaGreat.Zr
namespace Go.Proofs.YtkogifmjbmnpgaaGreat.Zr
open Go Go.RowKit Hp K Fl Rw Hm Ar Mm Wk Pc Me Mq Pu Pn Gt Qs Zp Mx LawTh Bs
set_option maxRecDepth 100000
section
variable {w w':World} {M:Mo} {a:Ra} {R:Rz} {f h b:Nat} {k z e:Int} {u2 u3 tv:Value}
theorem turn_go {T:TypeId} {fs:Nat} {m:Value} {P:World→Prop} (hb:Rb w f k z u2 u3 e h (.iface T (ptr b))) (ms:∀ (w:World) (f:Nat),(method (f+1) T (.pointer (some ⟨b,0,none⟩)) "Step").run Tryz.prog w=.ok (fs,.pointer (some ⟨b,0,none⟩)) w)
 (es:∀ args w,(callFunc fs args).run Tryz.prog w=.ok (.enter fs args) w) (hF:Calls Tryz.prog fs #[ptr b,m] w fun e w'=>e=.returned (.bool false)∧P w'):Calls Tryz.prog 137 #[ptr f,m] w fun e w'=>e=.returned (.bool false)∧P w':=by
 have c6:=(rb_cells hb).2.2.2.2.2.2
 replace hF:=Lib.hid hF
 clear hb
 go_enter Tryz.func137,Tryz.ntmps137
 go_wp2_with fail
 refine hF.out.mono ?_
 rintro e w' ⟨rfl,hP⟩
 replace hP:=Lib.hid hP
 clear c6
 go_wp2_with fail
 go_ret
 exact ⟨rfl,hP.out⟩
def Tn (w:World) (M:Mo) (f b:Nat) (k z e:Int) (u2 u3 tv:Value) (fe:Nat) (er:Int) (L':Lm) (S:Nat→Prop) (w':World):Prop:=
 ∃ M',MemAt w' M'∧M'.m=M.m∧lm M'=L'∧Kin w M M'∧Rb w' f k z u2 u3 e 5 tv∧Calls Tryz.prog fe #[ptr b] w' (fun x w''=>x=.returned (.int .i64 er)∧w''=w')∧Only S w w'
set_option maxHeartbeats 1000000 in
theorem turn_over {T:TypeId} {fs fe:Nat} {er:Int} {L':Lm} {S:Nat→Prop} (ga:Gw.Gl) (sa:Sw.Sc) (R:Rz) (hb:Rb w f R.worker R.size u2 u3 R.err 5 (.iface T (ptr b))) (ms:∀ (w:World) (f:Nat),(method (f+1) T (.pointer (some ⟨b,0,none⟩)) "Step").run Tryz.prog w=.ok (fs,.pointer (some ⟨b,0,none⟩)) w)
 (es:∀ args w,(callFunc fs args).run Tryz.prog w=.ok (.enter fs args) w) (me:∀ (w:World) (f:Nat),(method (f+1) T (.pointer (some ⟨b,0,none⟩)) "Err").run Tryz.prog w=.ok (fe,.pointer (some ⟨b,0,none⟩)) w) (ee:∀ args w,(callFunc fe args).run Tryz.prog w=.ok (.enter fe args) w)
 (hx:1<L'.xs.length) (hF:Calls Tryz.prog fs #[ptr b,ptr M.m] w fun e w'=>e=.returned (.bool true)∧Tn w M f b R.worker R.size R.err u2 u3 (.iface T (ptr b)) fe er L' S w'):
 Calls Tryz.prog 137 #[ptr f,ptr M.m] w fun e w'=>e=.returned (.bool false)∧∃ M',MemAt w' M'∧lm M'=L'∧Kin w M M'∧Only (fun x=>S x∨x=f) w w'∧∃ a':Ra,a'.f=f∧RzAt w' a' (after L' R er)∧∀ x,rfoot a' (after L' R er) x→x=f∨w.heap.size≤x:=by
 have c6:=(rb_cells hb).2.2.2.2.2.2
 replace hF:=Lib.hid hF
 clear hb
 unfold after
 by_cases h0:er=0
 · rw [if_pos h0]
   subst h0
   go_enter Tryz.func137,Tryz.ntmps137
   go_wp2_with fail
   refine hF.out.mono ?_
   rintro e w1 ⟨rfl,M',hM,hm,hL,hK,hb,hE,hO⟩
   have c6:=(rb_cells hb).2.2.2.2.2.2
   have c4:=(rb_cells hb).2.2.2.2.1
   have z4:=hb.frozen 4
   replace hE:=Lib.hid hE
   clear hF
   go_wp2_with fail
   refine hE.out.mono ?_
   rintro e w2 ⟨rfl,hw2⟩
   obtain rfl:w1=w2:=hw2.symm
   have hS:Rb (w1.setCell ⟨f,4,none⟩ (.int .i64 0)) f R.worker R.size u2 u3 0 5 (.iface T (ptr b)):=hb.store 4 _
   have hOS:=(Only.refl (·=f) w1).setCell (p:=⟨f,4,none⟩) (.inl rfl) (.int .i64 0)
   have hMS:=mem_store hM hb hOS
   have hC:=Lib.hid (choose_any hMS (by have:(lm M').xs=L'.xs:=by rw [hL]
                                        have e:M'.xs=L'.xs:=this
                                        rw [e]; exact hx) ga sa {R with err:=0} hS)
   rw [hm,hL] at hC
   have hO2:=Lib.hid ((hO.mono (fun x _ q=>(.inl q:S x∨x=f))).trans (hOS.mono (fun x _ q=>.inr q)))
   replace hMS:=Lib.hid hMS
   replace hS:=Lib.hid hS
   replace hK:=Lib.hid hK
   replace hL:=Lib.hid hL
   clear hE hM hm hb hO hOS
   go_wp2_with fail
   refine hC.out.mono ?_
   rintro e1 w3 ⟨rfl,a',ha,hR,hfo,hO3⟩
   have hM3:=Lib.hid (mem_store hMS.out hS.out hO3)
   have hO4:=Lib.hid (hO2.out.trans (hO3.mono (fun x _ q=>.inr q)))
   have hfo':=Lib.hid (fun x hx=>(hfo x hx).imp id (fun q=>Nat.le_trans hO2.out.size q))
   replace hR:=Lib.hid hR
   clear hC hO3 hfo hS hMS hO2 c4 c6 z4
   go_wp2_with fail
   go_ret
   exact ⟨rfl,M',hM3.out,hL.out,hK.out,hO4.out,a',ha,hR.out,hfo'.out⟩
 · rw [if_neg h0]
   go_enter Tryz.func137,Tryz.ntmps137
   go_wp2_with fail
   refine hF.out.mono ?_
   rintro e w1 ⟨rfl,M',hM,hm,hL,hK,hb,hE,hO⟩
   have c6:=(rb_cells hb).2.2.2.2.2.2
   have c4:=(rb_cells hb).2.2.2.2.1
   have z4:=hb.frozen 4
   replace hE:=Lib.hid hE
   clear hF
   go_wp2_with fail
   refine hE.out.mono ?_
   rintro e w2 ⟨rfl,hw2⟩
   obtain rfl:w1=w2:=hw2.symm
   have hS:Rb (w1.setCell ⟨f,4,none⟩ (.int .i64 er)) f R.worker R.size u2 u3 er 5 (.iface T (ptr b)):=hb.store 4 _
   have hOS:=(Only.refl (·=f) w1).setCell (p:=⟨f,4,none⟩) (.inl rfl) (.int .i64 er)
   have hMS:=mem_store hM hb hOS
   have hC:=Lib.hid (goOn_any (F1:=.func 33) (F2:=.func 103) (b1:=#[]) (b2:=#[ptr f]) hS)
   have hO2:=Lib.hid ((hO.mono (fun x _ q=>(.inl q:S x∨x=f))).trans (hOS.mono (fun x _ q=>.inr q)))
   replace hMS:=Lib.hid hMS
   replace hS:=Lib.hid hS
   replace hK:=Lib.hid hK
   replace hL:=Lib.hid hL
   clear hE hM hm hb hO hOS
   go_wp2_with fail
   refine hC.out.mono ?_
   rintro e1 w3 ⟨rfl,hB3,hO3⟩
   have hR:Hid (RzAt w3 ⟨f,.iface T (ptr b),ga,sa⟩ {R with err:=er,nx:=7}):=Lib.hid (RzAt.plain hB3 (by simp))
   have hM3:=Lib.hid (mem_store hMS.out hS.out hO3)
   have hO4:=Lib.hid (hO2.out.trans (hO3.mono (fun x _ q=>.inr q)))
   clear hC hO3 hS hMS hO2 c4 c6 z4 hB3
   go_wp2_with fail
   go_ret
   exact ⟨rfl,M',hM3.out,hL.out,hK.out,hO4.out,_,rfl,hR.out,fun x hx=>.inl (rfoot_plain (by simp) hx)⟩
end
end Go.Proofs.YtkogifmjbmnpgaaGreat.Zr
