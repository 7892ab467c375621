/- A part. -/
import Derived.Test.YtpanebgakndddaaGreatRetB
import Derived.Deep.RegionHeld3
set_option linter.unusedVariables false
set_option linter.unusedSimpArgs false
namespace Go.Proofs.YtpanebgakndddaaGreat.Re
open Go Go.RowKit Hp K Fl Rw Hm Ar Mm Me Qs
set_option maxRecDepth 100000
def gQ (A:Option Addr) (cap:Nat):Option Addr:=if cap=1 then A else A.map (·.add 1)
theorem CE {A:Option Addr} {cap x:Nat}:In (gQ A cap) x↔In A x:=by
 unfold gQ In
 split
 ·rfl
 ·cases A<;>simp [Addr.add]
theorem iX {M:Mo}:∀ x,dM M.ar M.sb M.fb x->ao M x:=fun _ h=>.inr (.inr (.inr (.inl h)))
theorem SD {w:World} {A:Option Addr} {cap x:Nat} {r:List Nat} (h:nE w A (x::r)) (hc:cap=1->r=[]):nE w (gQ A cap) r:=by
 by_cases e:r=[]
 ·exact .inl e
 ·rcases h with h | ⟨b,o,cs,rfl,hb,bf⟩
  ·simp at h
  ·refine .inr ⟨b,o+1,cs,?_,hb,fun i hi=>?_⟩
   ·unfold gQ
    rw [if_neg (fun q=>e (hc q))]
    rfl
   ·have:=bf (i+1) (by simp; omega)
    rw [show o+1+i=o+(i+1) by omega,this]
    simp [nth,List.getD]
def ib (ss:List Sl) (k:Nat):List Sl:=ss.set k ⟨false,(ai ss k).gen+1,.zero⟩
section
variable {w:World} {M:Mo} {D:Dr}
set_option maxHeartbeats 1000000 in
theorem SE (hM:ah w M) (hD:df w D) {x k:Nat} {r:List Nat} (hl:D.left=x::r) (hx:x<=18446744073709551615) (ha:aV M.ss x k) (hg:(ai M.ss k).gen<=1000000) (dF:∀ y,In D.A y->¬ao M y):
 Calls Tryz.prog 75 #[ptr D.f,ptr M.m] w fun e w'=>e=.returned (.bool (decide (r=[])))/\ah w' {M with ss:=ib M.ss k}/\
  df w' {D with A:=gQ D.A D.cap,cap:=D.cap-1,left:=r}/\ab (fun x=>dM M.ar M.sb M.fb x\/x=D.f) w w':=by
 have hF:=Lib.hid (fun nq=>EI (hM.drewN nq).2.2.2.1 hx ha hg)
 obtain ⟨c0,c1,c2⟩:=hD.hd
 have d2:=hM.hd.2.2.1
 have HM:=Lib.hid hM
 have HD:=Lib.hid hD
 have lM:=hM.1.lt
 have lf:=hD.an.lt
 have cQ:=hD.sz
 have dm:=hD.aA hM
 have aH:=hD.ne
 obtain ⟨b,o,cs,hA,hb,bf⟩:∃ b o cs,D.A=some ⟨b,o,none⟩/\af w b 40 cs/\∀ i,i<D.left.length->cs[o+i]?=some (.int .u64 (nth D.left i:Nat)):=by
  rcases hD.jT with q | q
  ·rw [hl] at q; simp at q
  ·exact q
 have gT:cs[o]?=some (.int .u64 (x:Nat)):=by
  have:=bf 0 (by rw [hl]; simp)
  rw [hl] at this
  simpa [nth] using this
 have tc:w.cell? ⟨b,o,none⟩=some (.int .u64 (x:Nat)):=by
  rw [hb.cell]
  exact gT
 replace gT:=Lib.hid gT
 have lb:=hb.lt
 have qi:¬ao M b:=dF b (by rw [hA]; rfl)
 rw [hl] at c2 cQ
 rw [hA] at c2
 simp only [List.length_cons] at c2 cQ
 obtain ⟨hsz,Wl⟩:=cQ
 have zJ:decide (r=[])=decide (r.length=0):=by cases r<;>simp
 rw [zJ]
 have KC:gQ D.A D.cap=gQ (some ⟨b,o,none⟩) D.cap:=by rw [hA]
 rw [KC]
 have KD:=Lib.hid (fun w' (h:nE w' D.A (x::r))=>SD (cap:=D.cap) h (fun q=>by
  cases r with
  | nil=>rfl
  | cons _ _=>simp at cQ; omega))
 rw [hA] at KD
 have KE:Hid (nE w (some ⟨b,o,none⟩) (x::r)):=Lib.hid (by have:=hD.jT; rw [hA,hl] at this; exact this)
 have bf:=hb.cell
 clear hM hD bf KC zJ c0 c1
 replace hl:=Lib.hid hl
 replace hA:=Lib.hid hA
 replace dF:=Lib.hid dF
 replace qi:=Lib.hid qi
 replace hb:=Lib.hid hb
 generalize hn:r.length=n at*
 replace hn:=Lib.hid hn
 generalize fB:D.cap=cap at*
 replace fB:=Lib.hid fB
 have eL:∀ w2 A2,df w2 D->ah w2 {M with ss:=ib M.ss k}->ab (dM M.ar M.sb M.fb) w w2->A2=gQ (some ⟨b,o,none⟩) cap->
  ah (w2.setCell ⟨D.f,2,none⟩ (.slice A2 n (cap-1))) {M with ss:=ib M.ss k}/\df (w2.setCell ⟨D.f,2,none⟩ (.slice A2 n (cap-1))) {D with A:=gQ (some ⟨b,o,none⟩) cap,cap:=cap-1,left:=r}/\
   ab (fun x=>dM M.ar M.sb M.fb x\/x=D.f) w (w2.setCell ⟨D.f,2,none⟩ (.slice A2 n (cap-1))):=by
  intro w2 A2 dL aB ae bH
  have hO:=(ab.refl (·=D.f) w2).setCell (p:=⟨D.f,2,none⟩) (.inl rfl) (.slice A2 n (cap-1))
  have au:=hb.out.only ae (fun q=>qi.out (iX _ q))
  refine ⟨hM2.only hO (fun x hx e=>dm.1 (e▸hx)),⟨?_,dL.wt.only hO (fun e=>aH e.symm),?_,?_⟩,(ae.mono (fun x _ q=>.inl q)).setCell (p:=⟨D.f,2,none⟩) (.inl (.inr rfl)) _⟩
  ·have:=dL.an.store 2 (.slice A2 n (cap-1))
   rw [bH] at this ⊢
   have e:(yN D).setIfInBounds 2 (.slice (gQ (some ⟨b,o,none⟩) cap) n (cap-1))=yN {D with A:=gQ (some ⟨b,o,none⟩) cap,cap:=cap-1,left:=r}:=by
    simp [yN,hn.out]
   rw [e] at this
   exact this
  ·refine (KD.out w2 ?_).only hO (fun x _ hx e=>?_)
   ·have:=dL.jT; rw [hA.out,hl.out] at this; exact this
   ·rw [CE] at hx
    have hx:b=x:=by simpa [In] using hx
    subst hx
    exact au.differ dL.an (by decide) e
  ·have:=hn.out
   show r.length<=cap-1/\cap-1<=maxLen
   omega
 replace eL:=Lib.hid eL
 unfold maxLen at Wl
 have hlen:n+1<=9223372036854775807:=by omega
 have iZ:Hid (if cap=1 then gQ (some ⟨b,o,none⟩) cap=some ⟨b,o,none⟩ else gQ (some ⟨b,o,none⟩) cap=some ⟨b,o+1,none⟩):=Lib.hid (by unfold gQ; split<;>rfl)
 have Kb:=Lib.hid bf
 clear bf
 by_cases h1:cap=1
 ·obtain rfl:n=0:=by omega
  subst h1
  simp only [Nat.zero_add] at c2
  go_enter Tryz.func75,Tryz.ntmps75
  go_wp2_with fail
  go_region_held3 (fun w'=>w'.cell? ⟨M.m,2,none⟩=some (ptr M.ar)/\w'.cell? ⟨D.f,2,none⟩=some (.slice (some ⟨b,o,none⟩) 1 1)/\w'.cell? ⟨b,o,none⟩=some (.int .u64 (x:Nat))) (go_keep)
   (first
     | (go_at_call 101
        refine (hF.out 1).mono ?_
        rintro e w2 ⟨rfl,bH,ae⟩
        have bF:=((ab.refl (dM M.ar M.sb M.fb) w).drewN 1).trans ae
        have aB:=HM.out.qF bH bF
        have s1:=aB.hd.2.2.1
        have dL:=HD.out.only bF (fun y hy q=>by
         rcases hy with rfl | rfl | ⟨_,hy⟩
         ·exact dm.1 (iX _ q)
         ·exact dm.2 (iX _ q)
         ·exact dF.out y hy (iX _ q))
        have s2:=dL.hd.2.2
        rw [hl.out,hA.out,fB.out,List.length_cons,hn.out] at s2
        simp only [Nat.zero_add] at s2
        have z2:=dL.an.frozen 2
        have s3:=(hb.out.only bF (fun q=>qi.out (iX _ q))).cell o
        rw [gT.out] at s3
        replace dL:=Lib.hid dL
        replace bF:=Lib.hid bF
        replace aB:=Lib.hid aB
        clear bH ae))
  all_goals
   go_wp2_with fail
   go_ret
   exact ⟨K.jm (by simp),eL.out _ _ dL.out aB.out bF.out (by rfl)⟩
 ·go_enter Tryz.func75,Tryz.ntmps75
  go_wp2_with fail
  go_region_held3 (fun w'=>w'.cell? ⟨M.m,2,none⟩=some (ptr M.ar)/\w'.cell? ⟨D.f,2,none⟩=some (.slice (some ⟨b,o,none⟩) (n+1) cap)/\w'.cell? ⟨b,o,none⟩=some (.int .u64 (x:Nat))) (go_keep)
   (first
     | (go_at_call 101
        refine (hF.out 1).mono ?_
        rintro e w2 ⟨rfl,bH,ae⟩
        have bF:=((ab.refl (dM M.ar M.sb M.fb) w).drewN 1).trans ae
        have aB:=HM.out.qF bH bF
        have s1:=aB.hd.2.2.1
        have dL:=HD.out.only bF (fun y hy q=>by
         rcases hy with rfl | rfl | ⟨_,hy⟩
         ·exact dm.1 (iX _ q)
         ·exact dm.2 (iX _ q)
         ·exact dF.out y hy (iX _ q))
        have s2:=dL.hd.2.2
        rw [hl.out,hA.out,fB.out,List.length_cons,hn.out] at s2
        have z2:=dL.an.frozen 2
        have s3:=(hb.out.only bF (fun q=>qi.out (iX _ q))).cell o
        rw [gT.out] at s3
        replace dL:=Lib.hid dL
        replace bF:=Lib.hid bF
        replace aB:=Lib.hid aB
        clear bH ae))
  all_goals
   go_wp2_with fail
   go_ret
   exact ⟨K.jm (by apply Bool.eq_iff_iff.2; simp),eL.out _ _ dL.out aB.out bF.out (by rw [if_neg h1] at iZ; exact iZ.out.symm)⟩
end
end Go.Proofs.YtpanebgakndddaaGreat.Re
