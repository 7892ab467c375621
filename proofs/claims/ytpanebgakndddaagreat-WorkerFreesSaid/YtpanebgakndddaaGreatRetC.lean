/- A part. -/
import Derived.Test.YtpanebgakndddaaGreatRetB
import Derived.Deep.RegionHeld3
set_option linter.unusedVariables false
set_option linter.unusedSimpArgs false
namespace Go.Proofs.YtpanebgakndddaaGreat.Re
open Go Go.RowKit Hp K Fl Rw Hm Ar Mm Me Qs
set_option maxRecDepth 100000
def gT (A:Option Addr) (cap:Nat):Option Addr:=if cap=1 then A else A.map (·.add 1)
theorem CR {A:Option Addr} {cap x:Nat}:In (gT A cap) x↔In A x:=by
 unfold gT In
 split
 ·rfl
 ·cases A<;>simp [Addr.add]
theorem jf {M:Mo}:∀ x,dN M.ar M.sb M.fb x->ao M x:=fun _ h=>.inr (.inr (.inr (.inl h)))
theorem SQ {w:World} {A:Option Addr} {cap x:Nat} {r:List Nat} (h:nH w A (x::r)) (hc:cap=1->r=[]):nH w (gT A cap) r:=by
 by_cases e:r=[]
 ·exact .inl e
 ·rcases h with h | ⟨b,o,cs,rfl,hb,bg⟩
  ·simp at h
  ·refine .inr ⟨b,o+1,cs,?_,hb,fun i hi=>?_⟩
   ·unfold gT
    rw [if_neg (fun q=>e (hc q))]
    rfl
   ·have:=bg (i+1) (by simp; omega)
    rw [show o+1+i=o+(i+1) by omega,this]
    simp [nth,List.getD]
def ik (ss:List Sl) (k:Nat):List Sl:=ss.set k ⟨false,(ai ss k).gen+1,.zero⟩
section
variable {w:World} {M:Mo} {D:Dr}
set_option maxHeartbeats 1000000 in
theorem SR (hM:ah w M) (hD:df w D) {x k:Nat} {r:List Nat} (hl:D.left=x::r) (hx:x<=18446744073709551615) (ha:aY M.ss x k) (hg:(ai M.ss k).gen<=1000000) (dF:∀ y,In D.A y->¬ao M y):
 Calls Tryz.prog 75 #[ptr D.f,ptr M.m] w fun e w'=>e=.returned (.bool (decide (r=[])))/\ah w' {M with ss:=ik M.ss k}/\
  df w' {D with A:=gT D.A D.cap,cap:=D.cap-1,left:=r}/\ab (fun x=>dN M.ar M.sb M.fb x\/x=D.f) w w':=by
 have hF:=Lib.hid (fun nq=>ET (hM.drewN nq).2.2.2.1 hx ha hg)
 obtain ⟨c0,c1,c2⟩:=hD.hd
 have d2:=hM.hd.2.2.1
 have HM:=Lib.hid hM
 have HD:=Lib.hid hD
 have lM:=hM.1.lt
 have lf:=hD.an.lt
 have cO:=hD.sz
 have dp:=hD.aA hM
 have aH:=hD.ne
 obtain ⟨b,o,cs,hA,hb,bg⟩:∃ b o cs,D.A=some ⟨b,o,none⟩/\af w b 40 cs/\∀ i,i<D.left.length->cs[o+i]?=some (.int .u64 (nth D.left i:Nat)):=by
  rcases hD.jV with q | q
  ·rw [hl] at q; simp at q
  ·exact q
 have gX:cs[o]?=some (.int .u64 (x:Nat)):=by
  have:=bg 0 (by rw [hl]; simp)
  rw [hl] at this
  simpa [nth] using this
 have th:w.cell? ⟨b,o,none⟩=some (.int .u64 (x:Nat)):=by
  rw [hb.cell]
  exact gX
 replace gX:=Lib.hid gX
 have lb:=hb.lt
 have qo:¬ao M b:=dF b (by rw [hA]; rfl)
 rw [hl] at c2 cO
 rw [hA] at c2
 simp only [List.length_cons] at c2 cO
 obtain ⟨cO,WH⟩:=cO
 have zR:decide (r=[])=decide (r.length=0):=by cases r<;>simp
 rw [zR]
 have KM:gT D.A D.cap=gT (some ⟨b,o,none⟩) D.cap:=by rw [hA]
 rw [KM]
 have KN:=Lib.hid (fun w' (h:nH w' D.A (x::r))=>SQ (cap:=D.cap) h (fun q=>by
  cases r with
  | nil=>rfl
  | cons _ _=>simp at cO; omega))
 rw [hA] at KN
 have KO:Hid (nH w (some ⟨b,o,none⟩) (x::r)):=Lib.hid (by have:=hD.jV; rw [hA,hl] at this; exact this)
 have bg:=hb.cell
 clear hM hD bg KM zR c0 c1
 replace hl:=Lib.hid hl
 replace hA:=Lib.hid hA
 replace dF:=Lib.hid dF
 replace qo:=Lib.hid qo
 replace hb:=Lib.hid hb
 generalize hn:r.length=n at*
 replace hn:=Lib.hid hn
 generalize fD:D.cap=cap at*
 replace fD:=Lib.hid fD
 have eN:∀ w2 A2,df w2 D->ah w2 {M with ss:=ik M.ss k}->ab (dN M.ar M.sb M.fb) w w2->A2=gT (some ⟨b,o,none⟩) cap->
  ah (w2.setCell ⟨D.f,2,none⟩ (.slice A2 n (cap-1))) {M with ss:=ik M.ss k}/\df (w2.setCell ⟨D.f,2,none⟩ (.slice A2 n (cap-1))) {D with A:=gT (some ⟨b,o,none⟩) cap,cap:=cap-1,left:=r}/\
   ab (fun x=>dN M.ar M.sb M.fb x\/x=D.f) w (w2.setCell ⟨D.f,2,none⟩ (.slice A2 n (cap-1))):=by
  intro w2 A2 dH aB ae bH
  have hO:=(ab.refl (·=D.f) w2).setCell (p:=⟨D.f,2,none⟩) (.inl rfl) (.slice A2 n (cap-1))
  have au:=hb.out.only ae (fun q=>qo.out (jf _ q))
  refine ⟨aB.only hO (fun x hx e=>dp.1 (e▸hx)),⟨?_,dH.wt.only hO (fun e=>aH e.symm),?_,?_⟩,(ae.mono (fun x _ q=>.inl q)).setCell (p:=⟨D.f,2,none⟩) (.inl (.inr rfl)) _⟩
  ·have:=dH.an.store 2 (.slice A2 n (cap-1))
   rw [bH] at this ⊢
   have e:(yV D).setIfInBounds 2 (.slice (gT (some ⟨b,o,none⟩) cap) n (cap-1))=yV {D with A:=gT (some ⟨b,o,none⟩) cap,cap:=cap-1,left:=r}:=by
    simp [yV,hn.out]
   rw [e] at this
   exact this
  ·refine (KN.out w2 ?_).only hO (fun x _ hx e=>?_)
   ·have:=dH.jV; rw [hA.out,hl.out] at this; exact this
   ·rw [CR] at hx
    have hx:b=x:=by simpa [In] using hx
    subst hx
    exact au.differ dH.an (by decide) e
  ·have:=hn.out
   show r.length<=cap-1/\cap-1<=maxLen
   omega
 replace eN:=Lib.hid eN
 unfold maxLen at WH
 have hlen:n+1<=9223372036854775807:=by omega
 have jg:Hid (if cap=1 then gT (some ⟨b,o,none⟩) cap=some ⟨b,o,none⟩ else gT (some ⟨b,o,none⟩) cap=some ⟨b,o+1,none⟩):=Lib.hid (by unfold gT; split<;>rfl)
 have Km:=Lib.hid bg
 clear bg
 by_cases h1:cap=1
 ·obtain rfl:n=0:=by omega
  subst h1
  simp only [Nat.zero_add] at c2
  go_enter Tryz.func75,Tryz.ntmps75
  go_wp2_with fail
  go_region_held3 (fun w'=>w'.cell? ⟨M.m,2,none⟩=some (ptr M.ar)/\w'.cell? ⟨D.f,2,none⟩=some (.slice (some ⟨b,o,none⟩) 1 1)/\w'.cell? ⟨b,o,none⟩=some (.int .u64 (x:Nat))) (go_keep)
   (first
     | (go_at_call 101
        refine (hF.out 1).mono ?_
        rintro e w2 ⟨rfl,bH,ae⟩
        have bG:=((ab.refl (dN M.ar M.sb M.fb) w).drewN 1).trans ae
        have aB:=HM.out.qI bH bG
        have s1:=aB.hd.2.2.1
        have dH:=HD.out.only bG (fun y hy q=>by
         rcases hy with rfl | rfl | ⟨_,hy⟩
         ·exact dp.1 (jf _ q)
         ·exact dp.2 (jf _ q)
         ·exact dF.out y hy (jf _ q))
        have s2:=dH.hd.2.2
        rw [hl.out,hA.out,fD.out,List.length_cons,hn.out] at s2
        simp only [Nat.zero_add] at s2
        have z2:=dH.an.frozen 2
        have s3:=(hb.out.only bG (fun q=>qo.out (jf _ q))).cell o
        rw [gX.out] at s3
        replace dH:=Lib.hid dH
        replace bG:=Lib.hid bG
        replace aB:=Lib.hid aB
        clear bH ae))
  all_goals
   go_wp2_with fail
   go_ret
   exact ⟨K.je (by simp),eN.out _ _ dH.out aB.out bG.out (by rfl)⟩
 ·go_enter Tryz.func75,Tryz.ntmps75
  go_wp2_with fail
  go_region_held3 (fun w'=>w'.cell? ⟨M.m,2,none⟩=some (ptr M.ar)/\w'.cell? ⟨D.f,2,none⟩=some (.slice (some ⟨b,o,none⟩) (n+1) cap)/\w'.cell? ⟨b,o,none⟩=some (.int .u64 (x:Nat))) (go_keep)
   (first
     | (go_at_call 101
        refine (hF.out 1).mono ?_
        rintro e w2 ⟨rfl,bH,ae⟩
        have bG:=((ab.refl (dN M.ar M.sb M.fb) w).drewN 1).trans ae
        have aB:=HM.out.qI bH bG
        have s1:=aB.hd.2.2.1
        have dH:=HD.out.only bG (fun y hy q=>by
         rcases hy with rfl | rfl | ⟨_,hy⟩
         ·exact dp.1 (jf _ q)
         ·exact dp.2 (jf _ q)
         ·exact dF.out y hy (jf _ q))
        have s2:=dH.hd.2.2
        rw [hl.out,hA.out,fD.out,List.length_cons,hn.out] at s2
        have z2:=dH.an.frozen 2
        have s3:=(hb.out.only bG (fun q=>qo.out (jf _ q))).cell o
        rw [gX.out] at s3
        replace dH:=Lib.hid dH
        replace bG:=Lib.hid bG
        replace aB:=Lib.hid aB
        clear bH ae))
  all_goals
   go_wp2_with fail
   go_ret
   exact ⟨K.je (by apply Bool.eq_iff_iff.2; simp),eN.out _ _ dH.out aB.out bG.out (by rw [if_neg h1] at jg; exact jg.out.symm)⟩
end
end Go.Proofs.YtpanebgakndddaaGreat.Re
