/- Walks and plain mathematics, put together in their order: RetC, RetD, WaitMath, RetMath, MapB, MapC, MapD, DelB, ShrA, ShrB. -/
import Derived.Test.YtpobbnllcoabhaaGreatPart2
import Derived.Deep.RegionHeld3
import Derived.Test.YtpobbnllcoabhaaGreatFinish
import Derived.Test.YtpobbnllcoabhaaGreatMemWalk
import Derived.Test.YtpobbnllcoabhaaGreatLm
import Derived.Test.YtpobbnllcoabhaaGreatFrm
import Derived.Laws.EntriesVeiled
import Derived.Deep.QuietTactic
set_option linter.unusedVariables false
set_option linter.unusedSimpArgs false
namespace Go.Proofs.YtpobbnllcoabhaaGreat.Re
open Go Go.RowKit Hp K Fl Rw Hm Ar Mm Me Qs
set_option maxRecDepth 100000
def nextA (A:Option Addr) (cap:Nat):Option Addr:=if cap=1 then A else A.map (·.add 1)
theorem nextA_in {A:Option Addr} {cap x:Nat}:In (nextA A cap) x↔In A x:=by
 unfold nextA In
 split
 · rfl
 · cases A<;>simp [Addr.add]
theorem foot_arena {M:Mo}:∀ x,afoot M.ar M.sb M.fb x→mfoot M x:=fun _ h=>.inr (.inr (.inr (.inl h)))
theorem lft_tail {w:World} {A:Option Addr} {cap x:Nat} {r:List Nat} (h:Lft w A (x::r)) (hc:cap=1→r=[]):Lft w (nextA A cap) r:=by
 by_cases e:r=[]
 · exact .inl e
 · rcases h with h | ⟨b,o,cs,rfl,hb,hcs⟩
   · simp at h
   · refine .inr ⟨b,o+1,cs,?_,hb,fun i hi=>?_⟩
     · unfold nextA
       rw [if_neg (fun q=>e (hc q))]
       rfl
     · have:=hcs (i+1) (by simp; omega)
       rw [show o+1+i=o+(i+1) by omega,this]
       simp [nth,List.getD]
def freed (ss:List Sl) (k:Nat):List Sl:=ss.set k ⟨false,(at' ss k).gen+1,.zero⟩
section
variable {w:World} {M:Mo} {D:Dr}
set_option maxHeartbeats 1000000 in
theorem free_fn (hM:MemAt w M) (hD:DrAt w D) {x k:Nat} {r:List Nat} (hl:D.left=x::r) (hx:x≤18446744073709551615) (ha:IsAt M.ss x k) (hg:(at' M.ss k).gen≤1000000) (hap:∀ y,In D.A y→¬mfoot M y):
 Calls Tryz.prog 251 #[ptr D.f,ptr M.m] w fun e w'=>e=.returned (.bool (decide (r=[])))∧MemAt w' {M with ss:=freed M.ss k}∧
  DrAt w' {D with A:=nextA D.A D.cap,cap:=D.cap-1,left:=r}∧Only (fun x=>afoot M.ar M.sb M.fb x∨x=D.f) w w':=by
 have hF:=Lib.hid (fun nq=>free_ok (hM.drewN nq).2.2.2.1 hx ha hg)
 obtain ⟨c0,c1,c2⟩:=hD.hd
 have d2:=hM.hd.2.2.1
 have HM:=Lib.hid hM
 have HD:=Lib.hid hD
 have lM:=hM.1.lt
 have lf:=hD.blk.lt
 have hsz:=hD.sz
 have hfar:=hD.far hM
 have hne:=hD.ne
 obtain ⟨b,o,cs,hA,hb,hcs⟩:∃ b o cs,D.A=some ⟨b,o,none⟩∧Blk w b 73 cs∧∀ i,i<D.left.length→cs[o+i]?=some (.int .u64 (nth D.left i:Nat)):=by
  rcases hD.lft with q | q
  · rw [hl] at q; simp at q
  · exact q
 have hcb:cs[o]?=some (.int .u64 (x:Nat)):=by
  have:=hcs 0 (by rw [hl]; simp)
  rw [hl] at this
  simpa [nth] using this
 have hcx:w.cell? ⟨b,o,none⟩=some (.int .u64 (x:Nat)):=by
  rw [hb.cell]
  exact hcb
 replace hcb:=Lib.hid hcb
 have lb:=hb.lt
 have hbf:¬mfoot M b:=hap b (by rw [hA]; rfl)
 rw [hl] at c2 hsz
 rw [hA] at c2
 simp only [List.length_cons] at c2 hsz
 obtain ⟨hsz,hszm⟩:=hsz
 have hrl:decide (r=[])=decide (r.length=0):=by cases r<;>simp
 rw [hrl]
 have hnA:nextA D.A D.cap=nextA (some ⟨b,o,none⟩) D.cap:=by rw [hA]
 rw [hnA]
 have hLt:=Lib.hid (fun w' (h:Lft w' D.A (x::r))=>lft_tail (cap:=D.cap) h (fun q=>by
  cases r with
  | nil=>rfl
  | cons _ _=>simp at hsz; omega))
 rw [hA] at hLt
 have hLw:Hid (Lft w (some ⟨b,o,none⟩) (x::r)):=Lib.hid (by have:=hD.lft; rw [hA,hl] at this; exact this)
 have hcs:=hb.cell
 clear hM hD hcs hnA hrl c0 c1
 replace hl:=Lib.hid hl
 replace hA:=Lib.hid hA
 replace hap:=Lib.hid hap
 replace hbf:=Lib.hid hbf
 replace hb:=Lib.hid hb
 generalize hn:r.length=n at*
 replace hn:=Lib.hid hn
 generalize hcap:D.cap=cap at*
 replace hcap:=Lib.hid hcap
 have hfin:∀ w2 A2,DrAt w2 D→MemAt w2 {M with ss:=freed M.ss k}→Only (afoot M.ar M.sb M.fb) w w2→A2=nextA (some ⟨b,o,none⟩) cap→
  MemAt (w2.setCell ⟨D.f,2,none⟩ (.slice A2 n (cap-1))) {M with ss:=freed M.ss k}∧DrAt (w2.setCell ⟨D.f,2,none⟩ (.slice A2 n (cap-1))) {D with A:=nextA (some ⟨b,o,none⟩) cap,cap:=cap-1,left:=r}∧
   Only (fun x=>afoot M.ar M.sb M.fb x∨x=D.f) w (w2.setCell ⟨D.f,2,none⟩ (.slice A2 n (cap-1))):=by
  intro w2 A2 hD2 hM2 hO2 hA2
  have hO:=(Only.refl (·=D.f) w2).setCell (p:=⟨D.f,2,none⟩) (.inl rfl) (.slice A2 n (cap-1))
  have hb2:=hb.out.only hO2 (fun q=>hbf.out (foot_arena _ q))
  refine ⟨hM2.only hO (fun x hx e=>hfar.1 (e▸hx)),⟨?_,hD2.wt.only hO (fun e=>hne e.symm),?_,?_⟩,(hO2.mono (fun x _ q=>.inl q)).setCell (p:=⟨D.f,2,none⟩) (.inl (.inr rfl)) _⟩
  · have:=hD2.blk.store 2 (.slice A2 n (cap-1))
    rw [hA2] at this ⊢
    have e:(drc D).setIfInBounds 2 (.slice (nextA (some ⟨b,o,none⟩) cap) n (cap-1))=drc {D with A:=nextA (some ⟨b,o,none⟩) cap,cap:=cap-1,left:=r}:=by
     simp [drc,hn.out]
    rw [e] at this
    exact this
  · refine (hLt.out w2 ?_).only hO (fun x _ hx e=>?_)
    · have:=hD2.lft; rw [hA.out,hl.out] at this; exact this
    · rw [nextA_in] at hx
      have hx:b=x:=by simpa [In] using hx
      subst hx
      exact hb2.differ hD2.blk (by decide) e
  · have:=hn.out
    show r.length≤cap-1∧cap-1≤maxLen
    omega
 replace hfin:=Lib.hid hfin
 unfold maxLen at hszm
 have hlen:n+1≤9223372036854775807:=by omega
 have hA3:Hid (if cap=1 then nextA (some ⟨b,o,none⟩) cap=some ⟨b,o,none⟩ else nextA (some ⟨b,o,none⟩) cap=some ⟨b,o+1,none⟩):=Lib.hid (by unfold nextA; split<;>rfl)
 have hcs':=Lib.hid hcs
 clear hcs
 by_cases h1:cap=1
 · obtain rfl:n=0:=by omega
   subst h1
   simp only [Nat.zero_add] at c2
   go_enter Tryz.func251,Tryz.ntmps251
   go_wp2_with fail
   go_region_held3 (fun w'=>w'.cell? ⟨M.m,2,none⟩=some (ptr M.ar)∧w'.cell? ⟨D.f,2,none⟩=some (.slice (some ⟨b,o,none⟩) 1 1)∧w'.cell? ⟨b,o,none⟩=some (.int .u64 (x:Nat))) (go_keep)
    (first
      | (go_at_call 170
         refine (hF.out 1).mono ?_
         rintro e w2 ⟨rfl,hA2,hO2⟩
         have hO2':=((Only.refl (afoot M.ar M.sb M.fb) w).drewN 1).trans hO2
         have hM2:=HM.out.arena hA2 hO2'
         have s1:=hM2.hd.2.2.1
         have hD2:=HD.out.only hO2' (fun y hy q=>by
          rcases hy with rfl | rfl | ⟨_,hy⟩
          · exact hfar.1 (foot_arena _ q)
          · exact hfar.2 (foot_arena _ q)
          · exact hap.out y hy (foot_arena _ q))
         have s2:=hD2.hd.2.2
         rw [hl.out,hA.out,hcap.out,List.length_cons,hn.out] at s2
         simp only [Nat.zero_add] at s2
         have z2:=hD2.blk.frozen 2
         have s3:=(hb.out.only hO2' (fun q=>hbf.out (foot_arena _ q))).cell o
         rw [hcb.out] at s3
         replace hD2:=Lib.hid hD2
         replace hO2':=Lib.hid hO2'
         replace hM2:=Lib.hid hM2
         clear hA2 hO2))
   all_goals
    go_wp2_with fail
    go_ret
    exact ⟨K.ret_bool (by simp),hfin.out _ _ hD2.out hM2.out hO2'.out (by rfl)⟩
 · go_enter Tryz.func251,Tryz.ntmps251
   go_wp2_with fail
   go_region_held3 (fun w'=>w'.cell? ⟨M.m,2,none⟩=some (ptr M.ar)∧w'.cell? ⟨D.f,2,none⟩=some (.slice (some ⟨b,o,none⟩) (n+1) cap)∧w'.cell? ⟨b,o,none⟩=some (.int .u64 (x:Nat))) (go_keep)
    (first
      | (go_at_call 170
         refine (hF.out 1).mono ?_
         rintro e w2 ⟨rfl,hA2,hO2⟩
         have hO2':=((Only.refl (afoot M.ar M.sb M.fb) w).drewN 1).trans hO2
         have hM2:=HM.out.arena hA2 hO2'
         have s1:=hM2.hd.2.2.1
         have hD2:=HD.out.only hO2' (fun y hy q=>by
          rcases hy with rfl | rfl | ⟨_,hy⟩
          · exact hfar.1 (foot_arena _ q)
          · exact hfar.2 (foot_arena _ q)
          · exact hap.out y hy (foot_arena _ q))
         have s2:=hD2.hd.2.2
         rw [hl.out,hA.out,hcap.out,List.length_cons,hn.out] at s2
         have z2:=hD2.blk.frozen 2
         have s3:=(hb.out.only hO2' (fun q=>hbf.out (foot_arena _ q))).cell o
         rw [hcb.out] at s3
         replace hD2:=Lib.hid hD2
         replace hO2':=Lib.hid hO2'
         replace hM2:=Lib.hid hM2
         clear hA2 hO2))
   all_goals
    go_wp2_with fail
    go_ret
    exact ⟨K.ret_bool (by apply Bool.eq_iff_iff.2; simp),hfin.out _ _ hD2.out hM2.out hO2'.out (by rw [if_neg h1] at hA3; exact hA3.out.symm)⟩
end
end Go.Proofs.YtpobbnllcoabhaaGreat.Re
namespace Go.Proofs.YtpobbnllcoabhaaGreat.Re
open Go Go.RowKit Hp K Fl Rw Hm Ar Mm Me Qs
set_option maxRecDepth 100000
def place (x:Nat):Nat:=(x-1) % 65536
theorem place_at {ss:List Sl} {x k:Nat} (hl:ss.length≤1024) (h:IsAt ss x k):place x=k:=(isAt_parts hl h).1
def dstep (n:Nat) (M:Mo) (D:Dr):Mo×Dr:=
 if D.at_=0 then ({M with V:=none,capV:=0,ws:=[]},{D with A:=M.V,cap:=M.capV,left:=M.ws,at_:=1})
 else if D.at_=1 then ({M with xs:=(wstep n M.xs M.hs D.W).1,hs:=(wstep n M.xs M.hs D.W).2.1},{D with W:=(wstep n M.xs M.hs D.W).2.2,at_:=if D.W.at_=3 then 2 else 1})
 else ({M with ss:=freed M.ss (place (D.left.headD 0))},{D with A:=nextA D.A D.cap,cap:=D.cap-1,left:=D.left.tail,at_:=if D.left.tail=[] then 3 else 2})
structure Okd (n:Nat) (M:Mo) (D:Dr):Prop where
 at_:D.at_≤2
 k:M.k=n
 hl:0<M.hs.length
 zero:D.at_=0→D.left=[]
 wt:D.at_≤1→Okw n M.xs M.hs D.W
 some:D.at_≠0→D.left≠[]
 live:∀ x,x∈D.left→x≤18446744073709551615∧∃ k,IsAt M.ss x k∧(at' M.ss k).gen≤1000000
 apart:D.left≠[]→∀ y,In D.A y→¬mfoot M y
section
variable {w:World} {M:Mo} {D:Dr}
def sfoot (M:Mo) (D:Dr) (x:Nat):Prop:=mfoot M x∨x=D.f∨x=D.fw
theorem drain_step {n:Nat} (hM:MemAt w M) (hD:DrAt w D) (ok:Okd n M D) (hr:dready M D=true):
 Calls Tryz.prog 248 #[ptr D.f,ptr M.m] w fun e w'=>e=.returned (.bool (decide (D.at_=2∧D.left.tail=[])))∧MemAt w' (dstep n M D).1∧DrAt w' (dstep n M D).2∧Only (sfoot M D) w w':=by
 have hff:=hD.far hM
 have hne:=hD.ne
 have hat:=ok.at_
 have keep:∀ (w1:World) (M':Mo) (D':Dr) (v:Value),D'.f=D.f→D'.fw=D.fw→¬mfoot M' D.f→(D'.left≠[]→¬In D'.A D.f)→MemAt w1 M'→DrAt w1 D'→Only (sfoot M D) w w1→∀ at_:Nat,v=.int .i64 at_→
  MemAt (w1.setCell ⟨D.f,0,none⟩ v) M'∧DrAt (w1.setCell ⟨D.f,0,none⟩ v) {D' with at_:=at_}∧Only (sfoot M D) w (w1.setCell ⟨D.f,0,none⟩ v):=by
  rintro w1 M' D' v e1 e2 h1 h2 hM1 hD1 hO1 at_ rfl
  have hO:=(Only.refl (·=D.f) w1).setCell (p:=⟨D.f,0,none⟩) (.inl rfl) (.int .i64 at_)
  refine ⟨hM1.only hO (fun x hx e=>h1 (e▸hx)),⟨?_,hD1.wt.only hO (fun e=>hne (by rw [← e2]; exact e.symm)),hD1.lft.only hO (fun x hl hx e=>h2 hl (e▸hx)),hD1.sz⟩,hO1.setCell (p:=⟨D.f,0,none⟩) (.inl (.inr (.inl rfl))) _⟩
  have:=hD1.blk.store 0 (.int .i64 at_)
  rw [e1] at this
  show Blk _ D'.f _ _
  rw [e1]
  exact this
 have sub_d:∀ x,x=D.f→sfoot M D x:=fun x q=>.inr (.inl q)
 by_cases h0:D.at_=0
 · have hws:M.ws≠[]:=by
    have:0<M.ws.length:=by simpa [dready,h0] using hr
    intro q; rw [q] at this; simp at this
   have e:dstep n M D=({M with V:=none,capV:=0,ws:=[]},{D with A:=M.V,cap:=M.capV,left:=M.ws,at_:=1}):=by unfold dstep; rw [if_pos h0]
   rw [e]
   refine (step_Drain (F:=250) (cv:=ptr D.f) (m:=ptr M.m) (c:=true) (P:=fun w'=>MemAt w' {M with V:=none,capV:=0,ws:=[]}∧DrAt w' {D with A:=M.V,cap:=M.capV,left:=M.ws}∧Only (sfoot M D) w w') hD (by omega) (by rw [h0]; rfl) enters_dtake (fun w2 hb=>?_) (fun w' h=>⟨h.2.1.hd.1,h.2.1.blk.frozen 0⟩)).mono ?_
   · have hO:=Only.ofBelow hb (sfoot M D)
     exact (take_fn (hM.below hb) (hD.below hb) hws (ok.zero h0)).mono fun e w' h=>⟨h.1,h.2.1,h.2.2.1,hO.trans' h.2.2.2 (fun x _ q=>by
      rcases q with q | q
      · exact .inl (.inl q)
      · exact .inr (.inl q))⟩
   · rintro e w' ⟨rfl,w1,⟨h1,h2,h3⟩,hw⟩
     rw [if_pos rfl,h0] at hw
     have:=keep w1 {M with V:=none,capV:=0,ws:=[]} {D with A:=M.V,cap:=M.capV,left:=M.ws} (.int .i64 (1:Nat)) rfl rfl (fun hx=>hff.1 (by
      rcases hx with q | q | q | q | q | q
      · exact .inl q
      · exact .inr (.inl q)
      · exact .inr (.inr (.inl q))
      · exact .inr (.inr (.inr (.inl q)))
      · exact .inr (.inr (.inr (.inr (.inl q))))
      · simp [In] at q)) (fun _ hx=>hff.1 (.inr (.inr (.inr (.inr (.inr hx)))))) h1 h2 h3 1 rfl
     rw [hw]
     exact ⟨by simp [h0],this⟩
 by_cases h1:D.at_=1
 · have okw:=ok.wt (by omega)
   have hrd:readyB M.xs M.hs D.W=true:=by simpa [dready,h1] using hr
   have e:dstep n M D=({M with xs:=(wstep n M.xs M.hs D.W).1,hs:=(wstep n M.xs M.hs D.W).2.1},{D with W:=(wstep n M.xs M.hs D.W).2.2,at_:=if D.W.at_=3 then 2 else 1}):=by unfold dstep; rw [if_neg h0,if_pos h1]
   rw [e]
   have hap:=ok.apart (ok.some h0)
   refine (step_Drain (F:=215) (cv:=ptr D.fw) (m:=ptr M.m) (c:=decide (D.W.at_=3)) (P:=fun w'=>MemAt w' {M with xs:=(wstep n M.xs M.hs D.W).1,hs:=(wstep n M.xs M.hs D.W).2.1}∧DrAt w' {D with W:=(wstep n M.xs M.hs D.W).2.2}∧Only (sfoot M D) w w') hD (by omega) (by rw [h1]; rfl) enters_dstep (fun w2 hb=>?_) (fun w' h=>⟨h.2.1.hd.1,h.2.1.blk.frozen 0⟩)).mono ?_
   · have hO:=Only.ofBelow hb (sfoot M D)
     have hD2:=hD.below hb
     exact (wait_step (hM.below hb) hD2.wt ok.k okw hrd).mono fun e w' h=>⟨h.1,h.2.1,⟨hD2.blk.only h.2.2.2 (fun q=>by
      rcases q with q | q
      · exact hff.1 q
      · exact hne q),h.2.2.1,hD2.lft.only h.2.2.2 (fun x hl hx q=>by
      rcases q with q | q
      · exact hap x hx q
      · exact (hD2.ty (.inr (.inr ⟨hl,hx⟩))).apart (by
         rcases hD2.lft with z | ⟨b,o,cs,hA,hb',_⟩
         · exact absurd z hl
         · rw [hA] at hx
           have hx:b=x:=by simpa [In] using hx
           exact absurd q (by rw [← hx]; exact hb'.differ hD2.wt (by decide))) (by decide:∀ t∈[110,153,73],t∉([]:List TypeId))),hD2.sz⟩,hO.trans' h.2.2.2 (fun x _ q=>by
      rcases q with q | q
      · exact .inl q
      · exact .inr (.inr q))⟩
   · rintro e w' ⟨rfl,w1,⟨g1,g2,g3⟩,hw⟩
     have k1:¬mfoot {M with xs:=(wstep n M.xs M.hs D.W).1,hs:=(wstep n M.xs M.hs D.W).2.1} D.f:=hff.1
     have k2:({D with W:=(wstep n M.xs M.hs D.W).2.2}:Dr).left≠[]→¬In ({D with W:=(wstep n M.xs M.hs D.W).2.2}:Dr).A D.f:=fun hl hx=>by
      rcases hD.lft with z | ⟨b,o,cs,hA,hb',_⟩
      · exact absurd z hl
      · have hx:In D.A D.f:=hx
        rw [hA] at hx
        have hx:b=D.f:=by simpa [In] using hx
        exact absurd hx (hb'.differ hD.blk (by decide))
     by_cases h3:D.W.at_=3
     · rw [decide_eq_true h3,if_pos rfl,h1] at hw
       have:=keep w1 {M with xs:=(wstep n M.xs M.hs D.W).1,hs:=(wstep n M.xs M.hs D.W).2.1} {D with W:=(wstep n M.xs M.hs D.W).2.2} (.int .i64 (2:Nat)) rfl rfl k1 k2 g1 g2 g3 2 rfl
       rw [hw]
       refine ⟨by simp [h1,h3],this.1,?_,this.2.2⟩
       rw [if_pos h3]
       exact this.2.1
     · rw [decide_eq_false h3] at hw
       simp only [Bool.false_eq_true,if_false] at hw
       rw [hw]
       refine ⟨by simp [h1,h3],g1,?_,g3⟩
       rw [if_neg h3]
       have e1:({D with W:=(wstep n M.xs M.hs D.W).2.2,at_:=1}:Dr)={D with W:=(wstep n M.xs M.hs D.W).2.2}:=by rw [← h1]
       rw [e1]
       exact g2
 · have h2:D.at_=2:=by omega
   have hlz:=ok.some h0
   have hap:=ok.apart hlz
   obtain ⟨x,r,hl⟩:∃ x r,D.left=x::r:=by
    cases hh:D.left with
    | nil=>exact absurd hh hlz
    | cons x r=>exact ⟨x,r,rfl⟩
   obtain ⟨hx,k,ha,hg⟩:=ok.live x (by rw [hl]; simp)
   have hroom:=hM.2.2.2.1.room
   have hpl:place x=k:=place_at hroom.2 ha
   have e:dstep n M D=({M with ss:=freed M.ss k},{D with A:=nextA D.A D.cap,cap:=D.cap-1,left:=r,at_:=if r=[] then 3 else 2}):=by
    unfold dstep; rw [if_neg h0,if_neg h1,hl]; simp only [List.headD_cons,List.tail_cons,hpl]; by_cases hr0:r=[]<;>simp [hr0]
   rw [e]
   refine (step_Drain (F:=251) (cv:=ptr D.f) (m:=ptr M.m) (c:=decide (r=[])) (P:=fun w'=>MemAt w' {M with ss:=freed M.ss k}∧DrAt w' {D with A:=nextA D.A D.cap,cap:=D.cap-1,left:=r}∧Only (sfoot M D) w w') hD (by omega) (by rw [h2]; rfl) enters_dfree (fun w2 hb=>?_) (fun w' h=>⟨h.2.1.hd.1,h.2.1.blk.frozen 0⟩)).mono ?_
   · have hO:=Only.ofBelow hb (sfoot M D)
     exact (free_fn (hM.below hb) (hD.below hb) hl hx ha hg hap).mono fun e w' h=>⟨h.1,h.2.1,h.2.2.1,hO.trans' h.2.2.2 (fun x _ q=>by
      rcases q with q | q
      · exact .inl (foot_arena x q)
      · exact .inr (.inl q))⟩
   · rintro e w' ⟨rfl,w1,⟨g1,g2,g3⟩,hw⟩
     by_cases hr0:r=[]
     · rw [decide_eq_true hr0,if_pos rfl,h2] at hw
       have:=keep w1 {M with ss:=freed M.ss k} {D with A:=nextA D.A D.cap,cap:=D.cap-1,left:=r} (.int .i64 (3:Nat)) rfl rfl hff.1 (fun hl'=>absurd hr0 hl') g1 g2 g3 3 rfl
       rw [hw]
       refine ⟨by simp [h2,hr0,hl],this.1,?_,this.2.2⟩
       rw [if_pos hr0]
       exact this.2.1
     · rw [decide_eq_false hr0] at hw
       simp only [Bool.false_eq_true,if_false] at hw
       rw [hw]
       refine ⟨by simp [h2,hr0,hl],g1,?_,g3⟩
       rw [if_neg hr0]
       have e1:({D with A:=nextA D.A D.cap,cap:=D.cap-1,left:=r,at_:=2}:Dr)={D with A:=nextA D.A D.cap,cap:=D.cap-1,left:=r}:=by rw [← h2]
       rw [e1]
       exact g2
end
end Go.Proofs.YtpobbnllcoabhaaGreat.Re
namespace Go.Proofs.YtpobbnllcoabhaaGreat.Ob
end Go.Proofs.YtpobbnllcoabhaaGreat.Ob
namespace Go.Proofs.YtpobbnllcoabhaaGreat.LawSix
open Go Go.RowKit Hp K Fl Rw Hm Ar Mm Me Qs Ob
set_option maxRecDepth 100000
theorem cnth_set {xs:List Int} {j:Nat} (hj:j<xs.length) (v:Int) (i:Nat):Cl.nth (xs.set j v) i=if i=j then v else Cl.nth xs i:=by
 unfold Cl.nth
 simp only [List.getD_eq_getElem?_getD,List.getElem?_set]
 by_cases e:j=i
 · subst e; simp [hj]
 · have e':¬i=j:=fun q=>e q.symm
   simp [e,e']
theorem hol_set {hs:List Int} (h:0<hs.length) (v:Int):Lo.hol (hs.set 0 v) 0=v:=by simp [Lo.hol,List.getD,h]
/-! ### once all are out-/
def rem (n:Nat) (W:Wt):Nat:=if W.at_=0 then n+3 else if W.at_=1 then n+2 else if W.at_=2 then n-W.passed+1 else 1
end Go.Proofs.YtpobbnllcoabhaaGreat.LawSix
namespace Go.Proofs.YtpobbnllcoabhaaGreat.Re
open Go Go.RowKit Hp K Fl Rw Hm Ar Mm Me Qs LawSix
set_option maxRecDepth 100000
theorem frees_len_free {ss:List Sl} {k:Nat} (hk:k<ss.length) (ht:(at' ss k).taken=true) (s:Sl) (hs:s.taken=false) (n:Nat):(frees (ss.set k s) n).length=(frees ss n).length+if k<n then 1 else 0:=by
 induction n with
 | zero=>simp [frees]
 | succ n ih=>
   have h1:=at_set hk s n
   by_cases e:n=k
   · subst e
     rw [if_pos rfl] at h1
     rw [frees_yes (by rw [h1]; exact hs),frees_no ht,List.length_append,ih]
     simp
   · rw [if_neg e] at h1
     have e2:(if k<n+1 then 1 else 0:Nat)=if k<n then 1 else 0:=by split<;>split<;>omega
     by_cases h:(at' ss n).taken=true
     · rw [frees_no (by rw [h1]; exact h),frees_no h,ih,e2]
     · have h:(at' ss n).taken=false:=by simpa using h
       rw [frees_yes (by rw [h1]; exact h),frees_yes h,List.length_append,List.length_append,ih,e2]
       simp only [List.length_cons,List.length_nil]
       omega
theorem frees_len_take {ss:List Sl} {k:Nat} (hk:k<ss.length) (ht:(at' ss k).taken=false) (s:Sl) (hs:s.taken=true) (n:Nat):(frees (ss.set k s) n).length+(if k<n then 1 else 0)=(frees ss n).length:=by
 induction n with
 | zero=>simp [frees]
 | succ n ih=>
   have h1:=at_set hk s n
   by_cases e:n=k
   · subst e
     rw [if_pos rfl] at h1
     rw [frees_no (by rw [h1]; exact hs),frees_yes ht,List.length_append,← ih]
     simp
   · rw [if_neg e] at h1
     have e2:(if k<n+1 then 1 else 0:Nat)=if k<n then 1 else 0:=by split<;>split<;>omega
     by_cases h:(at' ss n).taken=true
     · rw [frees_no (by rw [h1]; exact h),frees_no h,← ih]
       rw [e2]
     · have h:(at' ss n).taken=false:=by simpa using h
       rw [frees_yes (by rw [h1]; exact h),frees_yes h,List.length_append,List.length_append,← ih]
       rw [e2]
       simp only [List.length_cons,List.length_nil]
       omega
structure Wr (ss:List Sl) (ws left:List Nat) (B:Nat):Prop where
 room:ss.length≤1024
 nd:(ws++left).Nodup
 live:∀ x,x∈ws++left→∃ k,IsAt ss x k
 gens:∀ k,(at' ss k).gen+(ws.length+left.length)≤B
 cnt:(frees ss ss.length).length+(ws.length+left.length)=ss.length
section
variable {ss:List Sl} {ws left:List Nat} {B:Nat}
theorem Wr.small (h:Wr ss ws left B) (hB:B≤1000000) {x:Nat} (hx:x∈ws++left):x≤18446744073709551615∧∃ k,IsAt ss x k∧(at' ss k).gen≤1000000:=by
 obtain ⟨k,hk⟩:=h.live x hx
 have h1:=h.gens k
 have h2:=hk.1
 have h3:=hk.2.2
 have h4:=h.room
 exact ⟨by omega,k,hk,by omega⟩
theorem Wr.free {x k:Nat} {r:List Nat} (h:Wr ss ws (x::r) B) (hk:IsAt ss x k):Wr (freed ss k) ws r B:=by
 have hlen:(freed ss k).length=ss.length:=by simp [freed]
 have hnd:(x::(ws++r)).Nodup:=(List.perm_middle.nodup_iff).1 h.nd
 rw [List.nodup_cons] at hnd
 refine ⟨by rw [hlen]; exact h.room,hnd.2,fun y hy=>?_,fun j=>?_,?_⟩
 · obtain ⟨j,hj⟩:=h.live y (by
    rcases List.mem_append.1 hy with q | q
    · exact List.mem_append_left _ q
    · exact List.mem_append_right _ (List.mem_cons_of_mem _ q))
   have hjk:j≠k:=by
    rintro rfl
    have:y=x:=by rw [hj.2.2,hk.2.2]
    subst this
    exact hnd.1 hy
   refine ⟨j,?_⟩
   unfold freed
   rw [isAt_turn hk.1,if_neg hjk]
   exact hj
 · have:=h.gens j
   have h0:=h.gens k
   simp only [List.length_cons] at this h0
   unfold freed
   rw [at_set hk.1]
   split
   · show (at' ss k).gen+1+(ws.length+r.length)≤B; omega
   · omega
 · have:=h.cnt
   simp only [List.length_cons] at this
   have e:(frees (freed ss k) ss.length).length=(frees ss ss.length).length+1:=by
    unfold freed
    rw [frees_len_free hk.1 hk.2.1 ⟨false,(at' ss k).gen+1,.zero⟩ rfl]
    rw [if_pos hk.1]
   rw [hlen,e]
   omega
theorem Wr.put {m:Nat} (h:Wr ss ws left B) (hm:Least ss m) (d:Nd):Wr (ss.set m ⟨true,(at' ss m).gen,d⟩) (ws++[(at' ss m).gen*65536+m+1]) left (B+1):=by
 have hlen:(ss.set m ⟨true,(at' ss m).gen,d⟩).length=ss.length:=by simp
 have hno:∀ y k,IsAt ss y k→k≠m:=by
  rintro y k hk rfl
  have:=hk.2.1
  rw [hm.2.1] at this
  simp at this
 have hnew:((at' ss m).gen*65536+m+1)∉ws++left:=fun q=>by
  obtain ⟨k,hk⟩:=h.live _ q
  have:=hk.2.2
  have h1:=hk.1
  have h2:=h.room
  have h3:=hm.1
  exact hno _ _ hk (by omega)
 refine ⟨by rw [hlen]; exact h.room,?_,fun y hy=>?_,fun j=>?_,?_⟩
 · rw [List.append_assoc]
   exact (List.perm_middle (l₁:=ws) (l₂:=left) (a:=(at' ss m).gen*65536+m+1)).nodup_iff.2 (List.nodup_cons.2 ⟨hnew,h.nd⟩)
 · have:y∈ws++left∨y=(at' ss m).gen*65536+m+1:=by
    simp only [List.mem_append,List.mem_singleton] at hy ⊢
    rcases hy with (q | q) | q
    · exact .inl (.inl q)
    · exact .inr q
    · exact .inl (.inr q)
   rcases this with q | q
   · obtain ⟨k,hk⟩:=h.live y q
     exact ⟨k,(isAt_turn hm.1 _ y k).2 (by rw [if_neg (hno y k hk)]; exact hk)⟩
   · exact ⟨m,(isAt_turn hm.1 _ y m).2 (by rw [if_pos rfl]; exact ⟨rfl,q⟩)⟩
 · have:=h.gens j
   rw [at_set hm.1,List.length_append]
   simp only [List.length_cons,List.length_nil]
   split
   · rename_i e
     subst e
     show (at' ss j).gen+_≤_
     omega
   · omega
 · have:=h.cnt
   have e:=frees_len_take hm.1 hm.2.1 ⟨true,(at' ss m).gen,d⟩ rfl ss.length
   rw [if_pos hm.1] at e
   rw [hlen,List.length_append]
   simp only [List.length_cons,List.length_nil]
   omega
end
theorem frees_rep (n:Nat):(frees (List.replicate n Sl.zero) n).length=n:=by rw [frees_zero n n (Nat.le_refl _)]; simp
theorem at_rep (n k:Nat):at' (List.replicate n Sl.zero) k=Sl.zero:=by
 simp only [at',List.getD,List.getElem?_replicate]
 split<;>rfl
theorem wr_new (n:Nat) (hn:n≤1024):Wr (List.replicate n .zero) [] [] 0:=
 ⟨by simpa using hn,by simp,fun x hx=>by simp at hx,fun k=>by rw [at_rep]; simp [Sl.zero],by simpa using frees_rep n⟩
/-! ### a drain-/
end Go.Proofs.YtpobbnllcoabhaaGreat.Re
namespace Go.Proofs.YtpobbnllcoabhaaGreat.Mq
open Go Hm Ar Mm Wk Pc Me Re Pn
def alls (n:Nat) (cs:Nat→List Hp):List Nat:=(List.range n).flatMap fun b=>hds (cs b)
def turn (cs:Nat→List Hp) (b0:Nat) (q:List Hp) (b:Nat):List Hp:=if b=b0 then q else cs b
theorem flatMap_same {α β:Type} {l:List α} {f g:α→List β} (h:∀ a∈l,f a=g a):l.flatMap f=l.flatMap g:=by
 induction l with
 | nil=>rfl
 | cons a t ih=>rw [List.flatMap_cons,List.flatMap_cons,h a (by simp),ih fun b hb=>h b (List.mem_cons_of_mem _ hb)]
theorem alls_perm {n b0:Nat} (h:b0<n) (cs:Nat→List Hp) (q:List Hp):(alls n (turn cs b0 q)).Perm (hds q++((List.range n).erase b0).flatMap fun b=>hds (cs b)):=by
 have h1:(List.range n).Perm (b0::(List.range n).erase b0):=List.perm_cons_erase (by simpa using h)
 have h2:=h1.flatMap_right (fun b=>hds (turn cs b0 q b))
 refine h2.trans ?_
 rw [List.flatMap_cons]
 have e1:hds (turn cs b0 q b0)=hds q:=by unfold turn; rw [if_pos rfl]
 have e2:(((List.range n).erase b0).flatMap fun b=>hds (turn cs b0 q b))=((List.range n).erase b0).flatMap fun b=>hds (cs b):=by
  apply flatMap_same
  intro b hb
  have hne:b≠b0:=(List.Nodup.mem_erase_iff List.nodup_range).1 hb |>.1
  unfold turn
  rw [if_neg hne]
 rw [e1,e2]
theorem turn_self (cs:Nat→List Hp) (b0:Nat):turn cs b0 (cs b0)=cs:=by
 funext b
 unfold turn
 split
 · rename_i e; rw [e]
 · rfl
theorem alls_self {n b0:Nat} (h:b0<n) (cs:Nat→List Hp):(alls n cs).Perm (hds (cs b0)++((List.range n).erase b0).flatMap fun b=>hds (cs b)):=by
 have:=alls_perm h cs (cs b0)
 rw [turn_self] at this
 exact this
theorem alls_mem {n b:Nat} (h:b<n) (cs:Nat→List Hp) {y:Nat} (hy:y∈hds (cs b)):y∈alls n cs:=List.mem_flatMap.2 ⟨b,by simpa using h,hy⟩
theorem _root_.Go.Proofs.YtpobbnllcoabhaaGreat.Re.Wr.perm {ss:List Sl} {ws left ws' left':List Nat} {G:Nat} (h:Wr ss ws left G) (hp:(ws'++left').Perm (ws++left)):Wr ss ws' left' G:=by
 have hl:=hp.length_eq
 simp only [List.length_append] at hl
 exact ⟨h.room,hp.nodup_iff.2 h.nd,fun x hx=>h.live x (hp.mem_iff.1 hx),fun k=>by have:=h.gens k; omega,by have:=h.cnt; omega⟩
theorem frees_same {ss ss':List Sl} (ht:∀ k,(at' ss' k).taken=(at' ss k).taken) (n:Nat):frees ss' n=frees ss n:=by
 unfold frees
 apply List.filter_congr
 intro k _
 rw [ht]
theorem _root_.Go.Proofs.YtpobbnllcoabhaaGreat.Re.Wr.nodes {ss ss':List Sl} {ws left:List Nat} {G:Nat} (h:Wr ss ws left G) (hl:ss'.length=ss.length) (ht:∀ k,(at' ss' k).taken=(at' ss k).taken∧(at' ss' k).gen=(at' ss k).gen):Wr ss' ws left G:=
 ⟨by rw [hl]; exact h.room,h.nd,fun x hx=>by
  obtain ⟨k,h1,h2,h3⟩:=h.live x hx
  exact ⟨k,by rw [hl]; exact h1,by rw [(ht k).1]; exact h2,by rw [(ht k).2]; exact h3⟩,fun k=>by rw [(ht k).2]; exact h.gens k,by rw [hl,frees_same fun k=>(ht k).1]; exact h.cnt⟩
structure Mp (L:Lm) (n B:Nat) (cs:Nat→List Hp) (l:List Pr) (G:Nat):Prop where
 pw:FM.power n=true
 now:Me.now L.xs L.ds=(n,B)
 tabs:Tabs L.xs L.ds
 tb:∀ i,(tab L.ds i).1≤65536∧(tab L.ds i).2≤4000000
 k:1≤L.k∧L.k≤8
 kB:2+L.k≤B
 xl:B+n≤L.xs.length
 xb:∀ x∈L.xs,0≤x∧x≤18446744073709551615
 nexts:Nexts L.ss
 ch:∀ b,b<n→Cx L.ss (Cl.nth L.xs (B+b)).toNat (cs b)
 bk:∀ b,b<n→∀ e∈cs b,FM.bucket (sm e.2.1) n=(b:Nat)
 kd:∀ b,b<n→(kys (cs b)).Nodup
 wr:Wr L.ss L.ws (alls n cs) G
 ln:(l.map (·.1)).Nodup
 lk:∀ key,Pc.lk l key=Pc.lk (prs (cs (bkt key n))) key
 len:l.length=(alls n cs).length
 zero:∀ i:Nat,(i:Int)<L.k→Cl.nth L.xs (2+i)=0
 hs:L.hs=List.replicate 6 (-1)
 F:L.F=false
section
variable {L:Lm} {n B:Nat} {cs:Nat→List Hp} {l:List Pr} {G:Nat}
theorem Mp.ad (h:Mp L n B cs l G):(alls n cs).Nodup:=(List.nodup_append.1 h.wr.nd).2.1
theorem Mp.hd (h:Mp L n B cs l G) {b:Nat} (hb:b<n):(hds (cs b)).Nodup:=by
 have:=(alls_self hb cs).nodup_iff.1 h.ad
 exact (List.nodup_append.1 this).1
theorem Mp.n_bd (h:Mp L n B cs l G):1≤n∧n≤65536:=by
 have:=FM.power_bd h.pw
 omega
theorem Mp.first (h:Mp L n B cs l G) (b:Nat):Me.first L.xs L.ds b=(Cl.nth L.xs (B+b)).toNat:=by
 unfold Me.first
 rw [h.now]
theorem Mp.chain (h:Mp L n B cs l G) {b:Nat} (hb:b<n):Chn L.xs L.ds L.ss (b:Nat) (hds (cs b)):=by
 unfold Chn
 rw [h.now,if_pos ⟨by omega,by simp only; omega⟩,Int.toNat_natCast,h.first]
 exact (h.ch b hb).ch [] (by simp) (h.hd hb)
theorem rh_alls {ss:List Sl} {f:Nat→Nat} {cs:Nat→List Hp} {n:Nat} (hc:∀ b,b<n→Cx ss (f b) (cs b)) (hn:(alls n cs).Nodup):∀ m,m≤n→Rh ss f m (alls m cs):=by
 intro m
 induction m with
 | zero=>intro _; exact .zero
 | succ m ih=>
   intro hm
   have e:alls (m+1) cs=alls m cs++hds (cs m):=by simp [alls,List.range_succ]
   have hn':(alls (m+1) cs).Nodup:=by
    have:(alls (m+1) cs).Sublist (alls n cs):=by
     obtain ⟨d,rfl⟩:=Nat.exists_eq_add_of_le hm
     unfold alls
     rw [show List.range (m+1+d)=List.range (m+1)++(List.range d).map (m+1+·) from List.range_add,List.flatMap_append]
     exact List.sublist_append_left _ _
    exact this.nodup hn
   rw [e] at hn' ⊢
   obtain ⟨h1,h2,h3⟩:=List.nodup_append.1 hn'
   exact .succ (ih (by omega)) ((hc m (by omega)).ch _ (fun y hy q=>h3 y q y hy rfl) h2)
theorem Mp.reach (h:Mp L n B cs l G):Rch L.xs L.ds L.ss (alls n cs):=by
 unfold Rch
 rw [h.now]
 refine rh_alls (n:=n) (fun b hb=>?_) h.ad n (Nat.le_refl _)
 rw [h.first]
 exact h.ch b hb
theorem Mp.turned (h:Mp L n B cs l G) {b0 G':Nat} (hb:b0<n) {q:List Hp} {ss':List Sl} {xs':List Int} {ws':List Nat} {l':List Pr}
 (hxl:xs'.length=L.xs.length) (hx:∀ j,j≠B+b0→Cl.nth xs' j=Cl.nth L.xs j) (hxb:∀ x∈xs',0≤x∧x≤18446744073709551615) (hN:Nexts ss')
 (hc:Cx ss' (Cl.nth xs' (B+b0)).toNat q) (ho:∀ b,b<n→b≠b0→Cx ss' (Cl.nth L.xs (B+b)).toNat (cs b)) (hbk:∀ e∈q,FM.bucket (sm e.2.1) n=(b0:Nat)) (hkd:(kys q).Nodup)
 (hw:Wr ss' ws' (alls n (turn cs b0 q)) G') (hln:(l'.map (·.1)).Nodup) (hl1:∀ key,bkt key n≠b0→Pc.lk l' key=Pc.lk l key) (hl2:∀ key,bkt key n=b0→Pc.lk l' key=Pc.lk (prs q) key) (hll:l'.length=(alls n (turn cs b0 q)).length):
 Mp {L with xs:=xs',ss:=ss',ws:=ws'} n B (turn cs b0 q) l' G':=by
 have hk:=h.kB
 have hk1:=h.k
 refine ⟨h.pw,?_,?_,h.tb,h.k,h.kB,by show B+n≤xs'.length; rw [hxl]; exact h.xl,hxb,hN,fun b hb'=>?_,fun b hb' e he=>?_,fun b hb'=>?_,hw,hln,fun key=>?_,hll,fun i hi=>?_,h.hs,h.F⟩
 · have:=h.now
   unfold Me.now at this ⊢
   show tab L.ds (Cl.nth xs' 1).toNat=_
   rw [hx 1 (by omega)]
   exact this
 · intro i hi
   have:=h.tabs i hi
   show _∧_∧_≤xs'.length
   rw [hxl]
   exact this
 · show Cx ss' (Cl.nth xs' (B+b)).toNat (turn cs b0 q b)
   unfold turn
   split
   · rename_i e; rw [e]; exact hc
   · rename_i e
     rw [hx _ (by omega)]
     exact ho b hb' e
 · unfold turn at he
   split at he
   · rename_i e'; rw [e']; exact hbk e he
   · exact h.bk b hb' e he
 · unfold turn
   split
   · exact hkd
   · exact h.kd b hb'
 · unfold turn
   split
   · rename_i e; exact hl2 key e
   · rename_i e
     rw [hl1 key e]
     exact h.lk key
 · have hi:(i:Int)<L.k:=hi
   show Cl.nth xs' (2+i)=0
   rw [hx _ (by omega)]
   exact h.zero i hi
end
theorem lk_swap {a t:List Pr} {p p':Pr} {k:ByteArray} (h:p.1≠k) (h':p'.1≠k):lk (a++p::t) k=lk (a++p'::t) k:=by
 induction a with
 | nil=>simp [lk,h,h']
 | cons e r ih=>
   rw [List.cons_append,List.cons_append]
   simp only [lk]
   rw [ih]
theorem keep_set {ss:List Sl} {m:Nat} (hm:Least ss m) (s:Sl) {y k:Nat} (hk:IsAt ss y k):IsAt (ss.set m s) y k∧at' (ss.set m s) k=at' ss k∧k≠m:=by
 have hne:k≠m:=by
  rintro rfl
  have:=hk.2.1
  rw [hm.2.1] at this
  simp at this
 refine ⟨(isAt_turn hm.1 _ _ _).2 (by rw [if_neg hne]; exact hk),?_,hne⟩
 rw [at_set hm.1,if_neg hne]
end Go.Proofs.YtpobbnllcoabhaaGreat.Mq
namespace Go.Proofs.YtpobbnllcoabhaaGreat.Mq
open Go Go.RowKit Hp K Fl Rw Hm Ar Mm Me Wk Ta Pn Pc Pu Re
theorem kys_prs (q:List Mq.Hp):(prs q).map (·.1)=kys q:=by rw [List.map_map]; rfl
section
variable {L:Lm} {n B:Nat} {cs:Nat→List Mq.Hp} {l:List Pr} {G:Nat} {key val:ByteArray} {i:Int} {hb:Nat}
theorem Mp.small (h:Mp L n B cs l G):L.ws.length+(alls n cs).length≤1024∧L.ss.length≤1024:=by
 have:=h.wr.cnt
 have:=h.wr.room
 omega
theorem Mp.ql (h:Mp L n B cs l G) {b:Nat} (hb:b<n):(cs b).length≤(alls n cs).length:=by
 have:=(alls_self hb cs).length_eq
 simp only [List.length_append,List.length_map] at this
 omega
abbrev Mp.ep (L:Lm) (n B:Nat) (cs:Nat→List Mq.Hp) (key val:ByteArray) (i:Int) (hb:Nat):Ep:=⟨L,key,val,i,hb,(n,B),B+bkt key n,cs (bkt key n)⟩
theorem Mp.eok (h:Mp L n B cs l G) (hG:G≤1000000) (hi:0≤i∧i≤1000):(Mp.ep L n B cs key val i hb).Ok:=by
 have hsm:=h.small
 obtain ⟨hb1,hb2⟩:=bkt_lt h.pw key
 have hql:=h.ql hb1
 have hnb:=h.n_bd
 have hkB:=h.kB
 have hk:=h.k
 have hxl:=h.xl
 refine ⟨hsm.2,h.nexts,h.tb,hi,h.xb,h.hs,h.now,by show n≠0; omega,?_,by show B+bkt key n<L.xs.length; omega,by show 1<L.xs.length; omega,h.ch _ hb1,fun k=>by have:=h.wr.gens k; show (at' L.ss k).gen≤_; omega,by show L.ws.length≤_; omega,by show (cs _).length≤_; omega⟩
 show ((B+bkt key n:Nat):Int)=(B:Int)+FM.bucket (sm key) n
 rw [hb2]
 omega
theorem fnd_lk (h:Mp L n B cs l G) {W:Wa} (hf:Fnd (Mp.ep L n B cs key val i hb) W):decide (W.found≠0)=(Pc.lk l key).isSome:=by
 rw [h.lk]
 rcases hf with ⟨h0,hk,_⟩ | ⟨pre,x,p,t,z,k,hq,hp,hx,hk,hnd,hW,hc,hpv⟩
 · have:Pc.lk (prs (cs (bkt key n))) key=none:=lk_none.2 (by simpa using hk)
   rw [this,h0]
   rfl
 · have hm:p∈prs (cs (bkt key n)):=by
    have hq:cs (bkt key n)=_:=hq
    rw [hq]
    simp
   have hp:p.1=key:=hp
   have hn:((prs (cs (bkt key n))).map (·.1)).Nodup:=by
    rw [kys_prs]
    exact h.kd _ (bkt_lt h.pw key).1
   have:=lk_mem hn hm
   rw [hp] at this
   rw [this,hx]
   simp [hk.pos]
theorem put_map (h:Mp L n B cs l G) (hG:G≤1000000) (hi:0≤i∧i≤1000) {s:Lm×Pt} (hq:Qp (Mp.ep L n B cs key val i hb) s):
 decide (s.2.W.found≠0)=(Pc.lk l key).isSome∧s.2.mine=0∧
  ((freePl L.ss=none∧s.1=L∧s.2.err=4)∨((freePl L.ss).isSome∧s.2.err=0∧s.1.ws.length=L.ws.length+(if (Pc.lk l key).isSome then 1 else 0)∧s.1.ss.length=L.ss.length∧s.1.k=L.k∧∃ cs',∀ l',Upd l l' key val→Mp s.1 n B cs' l' (G+1))):=by
 have hE:=h.eok (key:=key) (val:=val) (i:=i) (hb:=hb) hG hi
 cases hq with
 | full W hf hfr=>exact ⟨fnd_lk h hf,rfl,.inl ⟨hfr,rfl,rfl⟩⟩
 | done W m hf hm=>
   have hlk:=fnd_lk h hf
   refine ⟨hlk,rfl,.inr ⟨by show (freePl L.ss).isSome; rw [freePl_some.2 hm]; rfl,rfl,?_,?_,(putL_hs _ W m).2.2.2.2,?_⟩⟩
   · show (putW (Mp.ep L n B cs key val i hb) W).length=_
     unfold putW
     rw [← hlk]
     by_cases h0:W.found≠0
     · rw [if_pos h0,if_pos (by simpa using h0)]; simp
     · rw [if_neg h0,if_neg (by simpa using h0)]
       rfl
   · show (putL _ W m).ss.length=_
     unfold putL lnk Ep.ss
     split<;>simp
   obtain ⟨hb1,hb2⟩:=bkt_lt h.pw key
   obtain ⟨b0,hb0⟩:∃ b0,b0=bkt key n:=⟨_,rfl⟩
   have hml:m<L.ss.length:=hm.1
   have hxl:=h.xl
   have hN:=hE.nexts_ss hf hm
   have hnb:=hE.new_bd hm
   have hs:∀ (y k:Nat),IsAt L.ss y k→IsAt (Ep.ss (Mp.ep L n B cs key val i hb) W m) y k∧at' (Ep.ss (Mp.ep L n B cs key val i hb) W m) k=at' L.ss k∧k≠m:=fun y k hk=>keep_set hm _ hk
   have hnew:IsAt (Ep.ss (Mp.ep L n B cs key val i hb) W m) (Ep.new (Mp.ep L n B cs key val i hb) m) m:=(isAt_turn hml _ _ _).2 (by rw [if_pos rfl]; exact ⟨rfl,rfl⟩)
   have hnd:(at' (Ep.ss (Mp.ep L n B cs key val i hb) W m) m).nd=⟨key,val,sm key,fol W⟩:=by
    show (at' (L.ss.set m _) m).nd=_
    rw [at_set hml,if_pos rfl]
   have hwr:=h.wr.put hm ⟨key,val,sm key,fol W⟩
   have hupd1:∀ {l':List Pr},Upd l l' key val→∀ key',bkt key' n≠b0→Pc.lk l' key'=Pc.lk l key':=fun hu key' hne=>by
    rw [hu.lk,if_neg (by rintro rfl; exact hne hb0.symm)]
   have hch:=h.ch b0 (by rw [hb0]; exact hb1)
   have hxb':∀ x∈L.xs.set (B+b0) ((Ep.new (Mp.ep L n B cs key val i hb) m:Nat):Int),0≤x∧x≤18446744073709551615:=by
    intro x hx
    rcases List.mem_or_eq_of_mem_set hx with q | rfl
    · exact h.xb x q
    · exact ⟨by omega,by omega⟩
   have hxset:Cl.nth (L.xs.set (B+b0) ((Ep.new (Mp.ep L n B cs key val i hb) m:Nat):Int)) (B+b0)=((Ep.new (Mp.ep L n B cs key val i hb) m:Nat):Int):=by
    rw [nth_set _ _ _ (by omega),if_pos rfl]
   have hkeep:∀ b,b<n→b≠b0→Cx (Ep.ss (Mp.ep L n B cs key val i hb) W m) (Cl.nth L.xs (B+b)).toNat (cs b):=fun b hb' _=>(h.ch b hb').keep fun y _ k hk=>⟨(hs y k hk).1,by rw [(hs y k hk).2.1]⟩
   have hap:=alls_self (n:=n) (b0:=b0) (by omega) cs
   have hkq:=h.kd b0 (by omega)
   have hbq:=h.bk b0 (by omega)
   have hlq:∀ key',bkt key' n=b0→Pc.lk l key'=Pc.lk (prs (cs b0)) key':=fun key' e=>by rw [h.lk,e]
   rcases hf with ⟨h0,hk,hfw⟩ | ⟨pre,x,p,t,z,k,hq,hp,hx,hk,hndx,hW,hc,hpv⟩
   ·
    have hk:key∉kys (cs b0):=by rw [hb0]; exact hk
    have hfol:fol W=(((Cl.nth L.xs (B+b0)).toNat:Nat):Int):=by
     unfold fol
     rw [if_neg (by omega),hfw,hb0]
    have e:({putL (Mp.ep L n B cs key val i hb) W m with ws:=putW (Mp.ep L n B cs key val i hb) W}:Lm)={L with xs:=L.xs.set (B+b0) ((Ep.new (Mp.ep L n B cs key val i hb) m:Nat):Int),ss:=Ep.ss (Mp.ep L n B cs key val i hb) W m,ws:=L.ws}:=by
     unfold putL putW
     rw [if_neg (by omega),if_neg (by omega),hb0]
    simp only [e]
    refine ⟨turn cs b0 ((Ep.new (Mp.ep L n B cs key val i hb) m,(key,val))::cs b0),fun l' hu=>?_⟩
    have hpa:=alls_perm (n:=n) (b0:=b0) (by omega) cs ((Ep.new (Mp.ep L n B cs key val i hb) m,(key,val))::cs b0)
    have hpb:(alls n (turn cs b0 ((Ep.new (Mp.ep L n B cs key val i hb) m,(key,val))::cs b0))).Perm (Ep.new (Mp.ep L n B cs key val i hb) m::alls n cs):=hpa.trans (List.Perm.cons _ hap.symm)
    have hl0:Pc.lk l key=none:=by
     rw [hlq key hb0.symm]
     exact lk_none.2 (by simpa using hk)
    refine h.turned (by omega) (by simp) (fun j hj=>?_) hxb' hN ?_ hkeep ?_ ?_ ?_ hu.nd (hupd1 hu) (fun key' e'=>?_) ?_
    · rw [nth_set _ _ _ (by omega),if_neg hj]
    · rw [hxset,Int.toNat_natCast]
      refine .cons hnew (z:=(Cl.nth L.xs (B+b0)).toNat) ?_ (hch.keep fun y _ k hk=>⟨(hs y k hk).1,by rw [(hs y k hk).2.1]⟩)
      rw [hnd,hfol]
      rfl
    · intro e he
      rcases List.mem_cons.1 he with rfl | he
      · rw [hb0]; exact hb2
      · exact hbq e he
    · exact List.nodup_cons.2 ⟨hk,hkq⟩
    · refine hwr.perm ?_
      refine (List.Perm.append_left L.ws hpb).trans ?_
      rw [List.append_assoc]
      exact List.Perm.refl _
    · rw [hu.lk]
      show _=Pc.lk ((key,val)::prs (cs b0)) key'
      simp only [Pc.lk]
      by_cases hkk:key'=key
      · rw [if_pos hkk,if_pos hkk.symm]
      · rw [if_neg hkk,if_neg (fun q=>hkk q.symm)]
        exact hlq key' e'
    · rw [hu.len,hl0,hpb.length_eq,List.length_cons,h.len]
      rfl
   ·
    have hq:cs b0=pre++(x,p)::t:=by rw [hb0]; exact hq
    have hp:p.1=key:=hp
    have hx0:W.found≠0:=by rw [hx]; exact hk.pos
    have hfol:fol W=((z:Nat):Int):=by
     unfold fol
     rw [if_pos hx0,hW]
     rfl
    have hl0:(Pc.lk l key).isSome=true:=by rw [← hlk]; simpa using hx0
    have hkys:kys (pre++((Ep.new (Mp.ep L n B cs key val i hb) m,(key,val)):Mq.Hp)::t)=kys (cs b0):=by rw [hq]; simp [hp]
    have hpa:=alls_perm (n:=n) (b0:=b0) (by omega) cs (pre++((Ep.new (Mp.ep L n B cs key val i hb) m,(key,val)):Mq.Hp)::t)
    have hpb:(x::alls n (turn cs b0 (pre++((Ep.new (Mp.ep L n B cs key val i hb) m,(key,val)):Mq.Hp)::t))).Perm (Ep.new (Mp.ep L n B cs key val i hb) m::alls n cs):=by
     refine (List.Perm.cons x hpa).trans ?_
     refine List.Perm.trans ?_ (List.Perm.cons _ hap.symm)
     rw [hq]
     simp only [hds,List.map_append,List.map_cons,List.append_assoc,List.cons_append]
     refine (List.Perm.cons x List.perm_middle).trans ?_
     refine (List.Perm.swap _ _ _).trans ?_
     exact List.Perm.cons _ List.perm_middle.symm
    have hacc:∀ {ss':List Sl},Wr ss' (L.ws++[Ep.new (Mp.ep L n B cs key val i hb) m]) (alls n cs) (G+1)→Wr ss' (L.ws++[W.found]) (alls n (turn cs b0 (pre++((Ep.new (Mp.ep L n B cs key val i hb) m,(key,val)):Mq.Hp)::t))) (G+1):=fun hw=>by
     refine hw.perm ?_
     rw [hx,List.append_assoc,List.append_assoc]
     exact List.Perm.append_left _ hpb
    have hlen:∀ {l':List Pr},Upd l l' key val→l'.length=(alls n (turn cs b0 (pre++((Ep.new (Mp.ep L n B cs key val i hb) m,(key,val)):Mq.Hp)::t))).length:=fun hu=>by
     have:=hpb.length_eq
     simp only [List.length_cons] at this
     rw [hu.len,if_pos hl0,h.len]
     omega
    have hlk2:∀ {l':List Pr},Upd l l' key val→∀ key',bkt key' n=b0→Pc.lk l' key'=Pc.lk (prs (pre++((Ep.new (Mp.ep L n B cs key val i hb) m,(key,val)):Mq.Hp)::t)) key':=fun hu key' e'=>by
     rw [hu.lk]
     by_cases hkk:key'=key
     · rw [if_pos hkk,hkk]
       refine (lk_mem (p:=(key,val)) ?_ ?_).symm
       · rw [kys_prs,hkys]; exact hkq
       · simp
     · rw [if_neg hkk,hlq key' e',hq]
       simp only [prs,List.map_append,List.map_cons]
       exact lk_swap (by rw [hp]; exact fun q=>hkk q.symm) (fun q=>hkk q.symm)
    have hbk':∀ e∈pre++((Ep.new (Mp.ep L n B cs key val i hb) m,(key,val)):Mq.Hp)::t,FM.bucket (sm e.2.1) n=(b0:Nat):=by
     intro e he
     rcases List.mem_append.1 he with he | he
     · exact hbq e (by rw [hq]; exact List.mem_append_left _ he)
     · rcases List.mem_cons.1 he with rfl | he
       · rw [hb0]; exact hb2
       · exact hbq e (by rw [hq]; exact List.mem_append_right _ (List.mem_cons_of_mem _ he))
    have hct:Cx (Ep.ss (Mp.ep L n B cs key val i hb) W m) z t:=hc.keep fun y _ k hk=>⟨(hs y k hk).1,by rw [(hs y k hk).2.1]⟩
    have hndz:(at' (Ep.ss (Mp.ep L n B cs key val i hb) W m) m).nd=ndp (key,val) z:=by rw [hnd,hfol]; rfl
    by_cases hpre:pre=[]
    ·
     subst hpre
     have hpv0:W.prev=0:=hpv
     have e:({putL (Mp.ep L n B cs key val i hb) W m with ws:=putW (Mp.ep L n B cs key val i hb) W}:Lm)={L with xs:=L.xs.set (B+b0) ((Ep.new (Mp.ep L n B cs key val i hb) m:Nat):Int),ss:=Ep.ss (Mp.ep L n B cs key val i hb) W m,ws:=L.ws++[W.found]}:=by
      unfold putL putW
      rw [if_neg (by omega),if_pos hx0,hb0]
     simp only [e]
     refine ⟨turn cs b0 ([]++((Ep.new (Mp.ep L n B cs key val i hb) m,(key,val)):Mq.Hp)::t),fun l' hu=>?_⟩
     refine h.turned (by omega) (by simp) (fun j hj=>?_) hxb' hN ?_ hkeep hbk' (by rw [hkys]; exact hkq) (hacc hwr) hu.nd (hupd1 hu) (hlk2 hu) (hlen hu)
     · rw [nth_set _ _ _ (by omega),if_neg hj]
     · rw [hxset,Int.toNat_natCast]
       exact .cons hnew hndz hct
    ·
     have hpv0:W.prev≠0:=by
      rw [hpv]
      exact lastH_ne (ss:=L.ss) (by have:=hch; rw [hq] at this; exact this) hpre
     obtain ⟨p0,e0,rfl⟩:∃ p0 e,pre=p0++[e]:=⟨pre.dropLast,pre.getLast hpre,(List.dropLast_concat_getLast hpre).symm⟩
     rw [lastH_snoc] at hpv
     rw [hq] at hch
     obtain ⟨j,zj,hj,hndj⟩:=hch.at e0 (by simp)
     have hjs:=hs _ _ hj
     have hroom:=h.small.2
     have hjp:(W.prev-1) % 65536=j:=by rw [hpv]; exact (isAt_parts hroom hj).1
     have hjl:j<(Ep.ss (Mp.ep L n B cs key val i hb) W m).length:=hjs.1.1
     have e:({putL (Mp.ep L n B cs key val i hb) W m with ws:=putW (Mp.ep L n B cs key val i hb) W}:Lm)={L with xs:=L.xs,ss:=lnk (Ep.ss (Mp.ep L n B cs key val i hb) W m) W.prev (Ep.new (Mp.ep L n B cs key val i hb) m),ws:=L.ws++[W.found]}:=by
      unfold putL putW
      rw [if_pos ⟨hx0,hpv0⟩,if_pos hx0]
     simp only [e]
     have hat:∀ kk,at' (lnk (Ep.ss (Mp.ep L n B cs key val i hb) W m) W.prev (Ep.new (Mp.ep L n B cs key val i hb) m)) kk=if kk=j then {at' (Ep.ss (Mp.ep L n B cs key val i hb) W m) j with nd:={(at' (Ep.ss (Mp.ep L n B cs key val i hb) W m) j).nd with next:=((Ep.new (Mp.ep L n B cs key val i hb) m:Nat):Int)}} else at' (Ep.ss (Mp.ep L n B cs key val i hb) W m) kk:=fun kk=>by
      unfold lnk
      rw [hjp,at_set hjl]
     have hat2:∀ kk,(at' (lnk (Ep.ss (Mp.ep L n B cs key val i hb) W m) W.prev (Ep.new (Mp.ep L n B cs key val i hb) m)) kk).taken=(at' (Ep.ss (Mp.ep L n B cs key val i hb) W m) kk).taken∧(at' (lnk (Ep.ss (Mp.ep L n B cs key val i hb) W m) W.prev (Ep.new (Mp.ep L n B cs key val i hb) m)) kk).gen=(at' (Ep.ss (Mp.ep L n B cs key val i hb) W m) kk).gen:=fun kk=>by
      rw [hat]
      split
      · rename_i e; subst e; exact ⟨rfl,rfl⟩
      · exact ⟨rfl,rfl⟩
     have hll:(lnk (Ep.ss (Mp.ep L n B cs key val i hb) W m) W.prev (Ep.new (Mp.ep L n B cs key val i hb) m)).length=(Ep.ss (Mp.ep L n B cs key val i hb) W m).length:=by unfold lnk; simp
     have hlive:∀ {y kk:Nat},IsAt (Ep.ss (Mp.ep L n B cs key val i hb) W m) y kk→IsAt (lnk (Ep.ss (Mp.ep L n B cs key val i hb) W m) W.prev (Ep.new (Mp.ep L n B cs key val i hb) m)) y kk:=fun {y kk} q=>⟨by rw [hll]; exact q.1,by rw [(hat2 kk).1]; exact q.2.1,by rw [(hat2 kk).2]; exact q.2.2⟩
     have hadn:=h.ad
     have hperm:=hap
     rw [hq] at hperm
     have hnodup:=hperm.nodup_iff.1 hadn
     have hne:∀ y kk,IsAt L.ss y kk→y≠e0.1→kk≠j:=by
      rintro y kk q1 q2 rfl
      exact q2 (by rw [q1.2.2,hj.2.2])
     have hkp:∀ y kk,IsAt L.ss y kk→y≠e0.1→IsAt (lnk (Ep.ss (Mp.ep L n B cs key val i hb) W m) W.prev (Ep.new (Mp.ep L n B cs key val i hb) m)) y kk∧(at' (lnk (Ep.ss (Mp.ep L n B cs key val i hb) W m) W.prev (Ep.new (Mp.ep L n B cs key val i hb) m)) kk).nd=(at' L.ss kk).nd:=fun y kk q1 q2=>by
      have h1:=hs y kk q1
      refine ⟨hlive h1.1,?_⟩
      rw [hat,if_neg (hne y kk q1 q2),h1.2.1]
     have hN2:Nexts (lnk (Ep.ss (Mp.ep L n B cs key val i hb) W m) W.prev (Ep.new (Mp.ep L n B cs key val i hb) m)):=nexts_lnk hN _ _ hnb
     refine ⟨turn cs b0 (p0++[e0]++((Ep.new (Mp.ep L n B cs key val i hb) m,(key,val)):Mq.Hp)::t),fun l' hu=>?_⟩
     have hn1:(hds (p0++[e0]++(x,p)::t)).Nodup:=(List.nodup_append.1 hnodup).1
     have hn2:∀ y∈hds p0,y≠e0.1:=by
      intro y hy q
      have:(hds p0++(e0.1::hds ((x,p)::t))).Nodup:=by simpa using hn1
      exact (List.nodup_append.1 this).2.2 y hy e0.1 (by simp) q
     have hn3:∀ y∈hds t,y≠e0.1:=by
      intro y hy q
      have:(hds p0++(e0.1::hds ((x,p)::t))).Nodup:=by simpa using hn1
      have:=(List.nodup_cons.1 (List.nodup_append.1 this).2.1).1
      exact this (by rw [← q]; exact List.mem_cons_of_mem _ hy)
     refine h.turned (by omega) rfl (fun j hj=>rfl) h.xb hN2 ?_ ?_ hbk' (by rw [hkys]; exact hkq) (hacc (hwr.nodes hll hat2)) hu.nd (hupd1 hu) (hlk2 hu) (hlen hu)
     · have hsw:Cx (lnk (Ep.ss (Mp.ep L n B cs key val i hb) W m) W.prev (Ep.new (Mp.ep L n B cs key val i hb) m)) (Cl.nth L.xs (B+b0)).toNat (p0++e0::(Ep.new (Mp.ep L n B cs key val i hb) m,(key,val))::t):=by
        refine Cx.swap (ss:=L.ss) (m:=m) (kp:=j) (z:=z) (e:=e0) (e':=(x,p)) (hlive hnew) ?_ ?_ p0 _ (by simpa using hch) hj (hlive hjs.1) ?_ (fun y hy kk q=>hkp y kk q (hn2 y hy))
        · rw [hat,if_neg (by have:=hjs.2.2; omega)]
          exact hndz
        · exact hc.keep fun y hy kk q=>hkp y kk q (hn3 y hy)
        · rw [hat,if_pos rfl]
          have hndj':(at' (Ep.ss (Mp.ep L n B cs key val i hb) W m) j).nd=ndp e0.2 zj:=by rw [hjs.2.1]; exact hndj
          simp only [hndj']
          rfl
       simpa using hsw
     · intro b hb' hbb
       refine (h.ch b hb').keep fun y hy kk q=>hkp y kk q ?_
       rintro rfl
       have hy2:e0.1∈((List.range n).erase b0).flatMap fun b=>hds (cs b):=List.mem_flatMap.2 ⟨b,(List.mem_erase_of_ne hbb).2 (by simpa using hb'),hy⟩
       exact (List.nodup_append.1 hnodup).2.2 e0.1 (by simp) e0.1 hy2 rfl
end
end Go.Proofs.YtpobbnllcoabhaaGreat.Mq
namespace Go.Proofs.YtpobbnllcoabhaaGreat.Mq
open Go Go.RowKit Hp K Fl Rw Hm Ar Mm Me Wk Ta Pn Pc Pu Re
structure Del (l l':List Pr) (key:ByteArray):Prop where
 nd:(l'.map (·.1)).Nodup
 lk:∀ k,Pc.lk l' k=if k=key then none else Pc.lk l k
 len:l'.length+(if (Pc.lk l key).isSome then 1 else 0)=l.length
theorem del_of {l l':List Pr} {key:ByteArray} (hn:(l.map (·.1)).Nodup) (hp:l'.Perm (l.filter fun p=>decide (p.1≠key))):Del l l' key:=by
 have hf:((l.filter fun p=>decide (p.1≠key)).map (·.1)).Nodup:=(List.filter_sublist.map _).nodup hn
 have hn':(l'.map (·.1)).Nodup:=(hp.map _).nodup_iff.2 hf
 refine ⟨hn',fun k=>?_,?_⟩
 · rw [lk_perm hn' hp,lk_filter]
 · rw [hp.length_eq]
   exact filter_len hn key
def delL (L:Lm) (c:Nat) (W:Wa):Lm:=
 if W.found=0 then L else if W.prev≠0 then {L with ss:=lnk L.ss W.prev W.nd.next.toNat,ws:=L.ws++[W.found]} else {L with xs:=L.xs.set c W.nd.next,ws:=L.ws++[W.found]}
section
variable {L:Lm} {n B:Nat} {cs:Nat→List Mq.Hp} {l:List Pr} {G:Nat} {key val:ByteArray} {i:Int} {hb:Nat}
theorem del_map (h:Mp L n B cs l G) {W:Wa} (hf:Fnd (Mp.ep L n B cs key val i hb) W):
 (delL L (B+bkt key n) W).ws.length=L.ws.length+(if (Pc.lk l key).isSome then 1 else 0)∧(delL L (B+bkt key n) W).ss.length=L.ss.length∧(delL L (B+bkt key n) W).k=L.k∧
   ∃ cs',∀ l',Del l l' key→Mp (delL L (B+bkt key n) W) n B cs' l' G:=by
 have hlk:=fnd_lk h hf
 refine ⟨?_,?_,?_,?_⟩
 · unfold delL
   rw [← hlk]
   by_cases h0:W.found=0
   · rw [if_pos h0,if_neg (by simp [h0])]; rfl
   · rw [if_neg h0,if_pos (show decide (W.found≠0)=true by simp [h0])]
     split<;>simp
 · unfold delL lnk
   split
   · rfl
   · split<;>simp
 · unfold delL
   split
   · rfl
   · split<;>rfl
 obtain ⟨hb1,hb2⟩:=bkt_lt h.pw key
 obtain ⟨b0,hb0⟩:∃ b0,b0=bkt key n:=⟨_,rfl⟩
 have hxl:=h.xl
 have hupd1:∀ {l':List Pr},Del l l' key→∀ key',bkt key' n≠b0→Pc.lk l' key'=Pc.lk l key':=fun hu key' hne=>by
  rw [hu.lk,if_neg (by rintro rfl; exact hne hb0.symm)]
 have hch:=h.ch b0 (by rw [hb0]; exact hb1)
 have hap:=alls_self (n:=n) (b0:=b0) (by omega) cs
 have hkq:=h.kd b0 (by omega)
 have hbq:=h.bk b0 (by omega)
 have hlq:∀ key',bkt key' n=b0→Pc.lk l key'=Pc.lk (prs (cs b0)) key':=fun key' e=>by rw [h.lk,e]
 rcases hf with ⟨h0,hk,hfw⟩ | ⟨pre,x,p,t,z,k,hq,hp,hx,hk,hndx,hW,hc,hpv⟩
 ·
  have hk:key∉kys (cs b0):=by rw [hb0]; exact hk
  have hl0:Pc.lk l key=none:=by
   rw [hlq key hb0.symm]
   exact lk_none.2 (by rw [kys_prs]; exact hk)
  have e:delL L (B+bkt key n) W=L:=by unfold delL; rw [if_pos h0]
  rw [e]
  refine ⟨cs,fun l' hu=>{h with ln:=hu.nd,lk:=fun key'=>?_,len:=?_}⟩
  · rw [hu.lk,← h.lk]
    split
    · rename_i e; rw [e,hl0]
    · rfl
  · have:=hu.len
    rw [hl0] at this
    simp only [Option.isSome_none,Bool.false_eq_true,if_false,Nat.add_zero] at this
    rw [this,h.len]
 · have hq:cs b0=pre++(x,p)::t:=by rw [hb0]; exact hq
   have hp:p.1=key:=hp
   have hx0:W.found≠0:=by rw [hx]; exact hk.pos
   have hnz:W.nd.next=((z:Nat):Int):=by rw [hW]; rfl
   have hl0:(Pc.lk l key).isSome=true:=by rw [← hlk]; simpa using hx0
   have hpa:=alls_perm (n:=n) (b0:=b0) (by omega) cs (pre++t)
   have hpb:(x::alls n (turn cs b0 (pre++t))).Perm (alls n cs):=by
    refine (List.Perm.cons x hpa).trans ?_
    refine List.Perm.trans ?_ hap.symm
    rw [hq]
    simp only [hds,List.map_append,List.map_cons,List.append_assoc,List.cons_append]
    exact List.perm_middle.symm
   have hacc:∀ {ss':List Sl},Wr ss' L.ws (alls n cs) G→Wr ss' (L.ws++[W.found]) (alls n (turn cs b0 (pre++t))) G:=fun hw=>by
    refine hw.perm ?_
    rw [hx,List.append_assoc]
    exact List.Perm.append_left _ hpb
   have hkn:(kys (pre++t)).Nodup:=by
    have:(kys (pre++t)).Sublist (kys (cs b0)):=by
     rw [hq]
     exact (List.Sublist.append_left (List.sublist_cons_self _ _) _).map _
    exact this.nodup hkq
   have hkni:key∉kys (pre++t):=by
    have h1:(kys (pre++(x,p)::t)).Nodup:=by rw [← hq]; exact hkq
    have h2:(kys (pre++(x,p)::t)).Perm (p.1::kys (pre++t)):=by
     simp only [kys,List.map_append,List.map_cons]
     exact List.perm_middle
    have:=(List.nodup_cons.1 (h2.nodup_iff.1 h1)).1
    rw [hp] at this
    exact this
   have hlen:∀ {l':List Pr},Del l l' key→l'.length=(alls n (turn cs b0 (pre++t))).length:=fun hu=>by
    have h1:=hpb.length_eq
    have h2:=hu.len
    rw [if_pos hl0,h.len] at h2
    simp only [List.length_cons] at h1
    omega
   have hlk2:∀ {l':List Pr},Del l l' key→∀ key',bkt key' n=b0→Pc.lk l' key'=Pc.lk (prs (pre++t)) key':=fun hu key' e'=>by
    rw [hu.lk]
    by_cases hkk:key'=key
    · rw [if_pos hkk,hkk]
      exact (lk_none.2 (by rw [kys_prs]; exact hkni)).symm
    · rw [if_neg hkk,hlq key' e',hq]
      simp only [prs,List.map_append,List.map_cons]
      have hpk:¬p.1=key':=by rw [hp]; exact fun q=>hkk q.symm
      have:∀ a:List Pr,lk (a++p::t.map (·.2)) key'=lk (a++t.map (·.2)) key':=by
       intro a
       induction a with
       | nil=>simp [lk,hpk]
       | cons e r ih=>rw [List.cons_append,List.cons_append]; simp only [lk]; rw [ih]
      exact this _
   have hbk':∀ e∈pre++t,FM.bucket (sm e.2.1) n=(b0:Nat):=by
    intro e he
    rcases List.mem_append.1 he with he | he
    · exact hbq e (by rw [hq]; exact List.mem_append_left _ he)
    · exact hbq e (by rw [hq]; exact List.mem_append_right _ (List.mem_cons_of_mem _ he))
   have hzb:z≤18446744073709551615:=by
    have:=(h.nexts k).2
    have e:(at' L.ss k).nd=ndp p z:=hndx
    rw [e] at this
    unfold ndp at this
    simp only at this
    omega
   by_cases hpre:pre=[]
   ·
    subst hpre
    have hpv0:W.prev=0:=hpv
    have e:delL L (B+bkt key n) W={L with xs:=L.xs.set (B+b0) ((z:Nat):Int),ss:=L.ss,ws:=L.ws++[W.found]}:=by
     unfold delL
     rw [if_neg hx0,if_neg (by omega),hb0,hnz]
    rw [e]
    refine ⟨turn cs b0 ([]++t),fun l' hu=>?_⟩
    have hxset:Cl.nth (L.xs.set (B+b0) ((z:Nat):Int)) (B+b0)=((z:Nat):Int):=by
     rw [nth_set _ _ _ (by omega),if_pos rfl]
    refine h.turned (by omega) (by simp) (fun j hj=>?_) (fun x hx=>?_) h.nexts ?_ (fun b hb _=>h.ch b hb) hbk' hkn (hacc h.wr) hu.nd (hupd1 hu) (hlk2 hu) (hlen hu)
    · rw [nth_set _ _ _ (by omega),if_neg hj]
    · rcases List.mem_or_eq_of_mem_set hx with q | rfl
      · exact h.xb x q
      · omega
    · rw [hxset,Int.toNat_natCast]
      exact hc
   ·
    have hpv0:W.prev≠0:=by
     rw [hpv]
     exact lastH_ne (ss:=L.ss) (by have:=hch; rw [hq] at this; exact this) hpre
    obtain ⟨p0,e0,rfl⟩:∃ p0 e,pre=p0++[e]:=⟨pre.dropLast,pre.getLast hpre,(List.dropLast_concat_getLast hpre).symm⟩
    rw [lastH_snoc] at hpv
    rw [hq] at hch
    obtain ⟨j,zj,hj,hndj⟩:=hch.at e0 (by simp)
    have hroom:=h.small.2
    have hjp:(W.prev-1) % 65536=j:=by rw [hpv]; exact (isAt_parts hroom hj).1
    have e:delL L (B+bkt key n) W={L with xs:=L.xs,ss:=lnk L.ss W.prev z,ws:=L.ws++[W.found]}:=by
     unfold delL
     rw [if_neg hx0,if_pos hpv0,hnz,Int.toNat_natCast]
    rw [e]
    have hat:∀ kk,at' (lnk L.ss W.prev z) kk=if kk=j then {at' L.ss j with nd:={(at' L.ss j).nd with next:=((z:Nat):Int)}} else at' L.ss kk:=fun kk=>by
     unfold lnk
     rw [hjp,at_set hj.1]
    have hat2:∀ kk,(at' (lnk L.ss W.prev z) kk).taken=(at' L.ss kk).taken∧(at' (lnk L.ss W.prev z) kk).gen=(at' L.ss kk).gen:=fun kk=>by
     rw [hat]
     split
     · rename_i e; subst e; exact ⟨rfl,rfl⟩
     · exact ⟨rfl,rfl⟩
    have hll:(lnk L.ss W.prev z).length=L.ss.length:=by unfold lnk; simp
    have hlive:∀ {y kk:Nat},IsAt L.ss y kk→IsAt (lnk L.ss W.prev z) y kk:=fun {y kk} q=>⟨by rw [hll]; exact q.1,by rw [(hat2 kk).1]; exact q.2.1,by rw [(hat2 kk).2]; exact q.2.2⟩
    have hadn:=h.ad
    have hperm:=hap
    rw [hq] at hperm
    have hnodup:=hperm.nodup_iff.1 hadn
    have hne:∀ y kk,IsAt L.ss y kk→y≠e0.1→kk≠j:=by
     rintro y kk q1 q2 rfl
     exact q2 (by rw [q1.2.2,hj.2.2])
    have hkp:∀ y kk,IsAt L.ss y kk→y≠e0.1→IsAt (lnk L.ss W.prev z) y kk∧(at' (lnk L.ss W.prev z) kk).nd=(at' L.ss kk).nd:=fun y kk q1 q2=>by
     refine ⟨hlive q1,?_⟩
     rw [hat,if_neg (hne y kk q1 q2)]
    refine ⟨turn cs b0 (p0++[e0]++t),fun l' hu=>?_⟩
    have hn1:(hds (p0++[e0]++(x,p)::t)).Nodup:=(List.nodup_append.1 hnodup).1
    have hn1':(hds p0++(e0.1::hds ((x,p)::t))).Nodup:=by simpa using hn1
    have hn2:∀ y∈hds p0,y≠e0.1:=fun y hy q=>(List.nodup_append.1 hn1').2.2 y hy e0.1 (by simp) q
    have hn3:∀ y∈hds t,y≠e0.1:=fun y hy q=>(List.nodup_cons.1 (List.nodup_append.1 hn1').2.1).1 (by rw [← q]; exact List.mem_cons_of_mem _ hy)
    refine h.turned (by omega) rfl (fun j hj=>rfl) h.xb (nexts_lnk h.nexts _ _ hzb) ?_ ?_ hbk' hkn (hacc (h.wr.nodes hll hat2)) hu.nd (hupd1 hu) (hlk2 hu) (hlen hu)
    · have hpass:∀ (q:List Mq.Hp) (y:Nat),Cx L.ss y (q++e0::(x,p)::t)→(∀ u∈hds q,u≠e0.1)→Cx (lnk L.ss W.prev z) y (q++e0::t):=by
       intro q
       induction q with
       | nil=>
         intro y hy _
         cases hy with
         | @cons _ kk zz pp _ a b c=>
           have hkj:kk=j:=by
            have h1:=a.2.2
            have h2:=hj.2.2
            exact a.uniq hroom hj
           subst hkj
           refine .cons (hlive a) (z:=z) ?_ (hc.keep fun y hy kk q=>hkp y kk q (hn3 y hy))
           rw [hat,if_pos rfl]
           simp only [b]
           rfl
       | cons e1 r ih=>
         intro y hy hu
         cases hy with
         | @cons _ kk zz pp _ a b c=>
           have:=hkp _ kk a (hu _ (by simp))
           exact .cons this.1 (this.2.trans b) (ih _ c fun u hu'=>hu u (List.mem_cons_of_mem _ hu'))
      have:=hpass p0 _ (by simpa using hch) hn2
      simpa using this
    · intro b hb' hbb
      refine (h.ch b hb').keep fun y hy kk q=>hkp y kk q ?_
      rintro rfl
      have hy2:e0.1∈((List.range n).erase b0).flatMap fun b=>hds (cs b):=List.mem_flatMap.2 ⟨b,(List.mem_erase_of_ne hbb).2 (by simpa using hb'),hy⟩
      exact (List.nodup_append.1 hnodup).2.2 e0.1 (by simp) e0.1 hy2 rfl
end
end Go.Proofs.YtpobbnllcoabhaaGreat.Mq
namespace Go.Proofs.YtpobbnllcoabhaaGreat.Dl
open Go Go.RowKit Hp K Fl Rw Hm Ar Mm Me Wk Ta Pn Pc Pu Mq
set_option maxRecDepth 100000
def newDel (h:Nat) (k:Int) (key:ByteArray):Dt:=⟨newSk h k (sm key) key,2,0⟩
set_option maxHeartbeats 1000000 in
theorem new_any (k:Int) (key:ByteArray) (hk:key.size≤maxLen) (w:World):
 Calls Tryz.prog 64 #[.int .i64 k,.string key] w fun e w'=>∃ (a:Qa) (h:Nat),e=.returned (ptr a.f)∧DeAt w' a (newDel h k key)∧(∀ x,dfoot a (newDel h k key) x→w.heap.size≤x)∧Below w.heap.size w w':=by
 have hS:=Lib.hid (Fnv.sum_any key w hk)
 unfold newDel sm
 generalize hs:FM.sum key.data.toList=s at*
 replace hs:=Lib.hid hs
 have hN:=Lib.hid (new_seek k s key w)
 go_enter Tryz.func64,Tryz.ntmps64
 go_wp2_with fail
 refine hS.out.mono ?_
 rintro e w0 ⟨rfl,hw⟩
 obtain rfl:w=w0:=hw.symm
 clear hS hw
 go_wp2_with fail
 refine hN.out.mono ?_
 rintro e w1 ⟨a,h,rfl,hS1,hlo1,hB1⟩
 obtain ⟨w2,hw2⟩:∃ w2,w2=w1.alloc (.cells #[ptr a.f,.nilFunc,.int .u64 0] 168):=⟨_,rfl⟩
 have hF2:Blk w2 w1.heap.size 168 #[ptr a.f,.nilFunc,.int .u64 0]:=by rw [hw2]; exact Blk.made w1 _ _
 have hB12:Below w1.heap.size w1 w2:=by rw [hw2]; exact (Below.refl _ _).alloc (Nat.le_refl _) _
 obtain ⟨f,hf⟩:∃ f,f=w1.heap.size:=⟨_,rfl⟩
 rw [← hf] at hF2
 have hfw:w.heap.size≤f:=by rw [hf]; exact hB1.size
 have hB2:=hB1.trans (hB12.mono hB1.size)
 have hS2:=hS1.below hB12
 have k1:=hF2.cell 1
 simp at k1
 have z1:=hF2.frozen 1
 have hB4:=Lib.hid (hB2.setCell (p:=⟨f,1,none⟩) hfw (wfm 86 (ptr f)))
 have hO:=(Only.refl (·=f) w2).setCell (p:=⟨f,1,none⟩) (.inl rfl) (wfm 86 (ptr f))
 have hne:∀ x,sfoot a (newSk h k s key) x→¬x=f:=fun x hx e=>by have:=hS1.lt hx; omega
 have hE:Hid (DeAt (w2.setCell ⟨f,1,none⟩ (wfm 86 (ptr f))) ⟨f,a.f,a.w⟩ ⟨newSk h k s key,2,0⟩):=Lib.hid
  ⟨hF2.store 1 (wfm 86 (ptr f)),hS2.only hO hne⟩
 have hlow:Hid (∀ x,dfoot ⟨f,a.f,a.w⟩ ⟨newSk h k s key,2,0⟩ x→w.heap.size≤x):=Lib.hid (by
  rintro x (q | q)
  · simp only at q; omega
  · exact hlo1 x q)
 clear hN hS1 hlo1 hB1 hB12 hF2 hB2 hO hne hS2
 go_upto_region 2 with (fail)
 rw [← hw2,← hf]
 clear hw2 hf
 go_wp2_with fail
 go_ret
 exact ⟨_,_,rfl,hE.out,hlow.out,hB4.out⟩
theorem dstep_fm {w:World} {F f:Nat} {cv m:Value} {c:Bool} {P:World→Prop} (c4:w.cell? ⟨f,1,none⟩=some (wfm F cv)) (eF:∀ args w,(callFunc F args).run Tryz.prog w=.ok (.enter F args) w)
 (hF:Calls Tryz.prog F #[cv,m] w fun e w'=>e=.returned (.bool c)∧P w'):Calls Tryz.prog 262 #[ptr f,m] w fun e w'=>e=.returned (.bool c)∧P w':=by
 replace hF:=Lib.hid hF
 go_enter Tryz.func262,Tryz.ntmps262
 go_wp2_with fail
 refine hF.out.mono ?_
 rintro e w' ⟨rfl,hPw⟩
 replace hPw:=Lib.hid hPw
 clear c4
 go_wp2_with fail
 go_ret
 exact ⟨rfl,hPw.out⟩
theorem enters_d2 (args:Array Value) (w:World):(callFunc 86 args).run Tryz.prog w=.ok (.enter 86 args) w:=by kernel_rfl
theorem enters_d4 (args:Array Value) (w:World):(callFunc 113 args).run Tryz.prog w=.ok (.enter 113 args) w:=by kernel_rfl
theorem enters_d5 (args:Array Value) (w:World):(callFunc 142 args).run Tryz.prog w=.ok (.enter 142 args) w:=by kernel_rfl
theorem enters_d6 (args:Array Value) (w:World):(callFunc 112 args).run Tryz.prog w=.ok (.enter 112 args) w:=by kernel_rfl
section
variable {w w':World} {M:Mo} {a:Qa} {D:Dt}
theorem del_ready (hM:MemAt w M) (h:DeAt w a D) (hl:D.ph=1→Okl M.xs M.ds (M.hs,D.H)):Calls Tryz.prog 261 #[ptr a.f,ptr M.m] w fun e w'=>e=.returned (.bool (dready (lm M) D))∧Below w.heap.size w w':=by
 have c3:=h.hd.1
 have hR:=sk_ready hM h.2 hl
 unfold dready
 generalize sready (lm M) D.toSk=b at*
 replace hR:=Lib.hid hR
 clear hM h hl
 go_enter Tryz.func261,Tryz.ntmps261
 go_wp2_with fail
 refine hR.out.mono ?_
 rintro e w' ⟨rfl,hb⟩
 replace hb:=Lib.hid hb
 clear c3
 go_wp2_with fail
 go_ret
 exact ⟨rfl,hb.out⟩
theorem del_step (hM:MemAt w M) (h:DeAt w a D) (ok:Okdl (lm M) D) (hr:dready (lm M) D=true):
 Calls Tryz.prog 262 #[ptr a.f,ptr M.m] w fun e w'=>e=.returned (.bool (ddone (lm M) D))∧DStp w M a D (dstep (lm M) D).1 (dstep (lm M) D).2 w':=by
 have c4:=h.hd.2.1
 unfold dnv at c4
 have hnx:=ok.nx
 unfold ddone
 by_cases e2:D.nx=2
 · rw [if_pos e2] at c4
   rw [show decide (6≤D.nx)=false by simp; omega]
   obtain ⟨r,o⟩:=ok.sk e2
   exact dstep_fm c4 enters_d2 (goTo_any hM h o hr e2)
 rw [if_neg e2] at c4
 by_cases e4:D.nx=4
 · rw [if_pos e4] at c4
   rw [show decide (6≤D.nx)=false by simp; omega]
   exact dstep_fm c4 enters_d4 (passOver_step hM h (ok.lead e4).1 (ok.lead e4).2 e4)
 rw [if_neg e4] at c4
 by_cases e5:D.nx=5
 · rw [if_pos e5] at c4
   rw [show decide (6≤D.nx)=false by simp; omega]
   exact dstep_fm c4 enters_d5 (dretire_step hM h (ok.ret e5) e5)
 rw [if_neg e5] at c4
 have e6:D.nx=6:=by omega
 rw [if_pos e6] at c4
 rw [show decide (6≤D.nx)=true by simp; omega]
 exact dstep_fm c4 enters_d6 (ddrop_step hM h (ok.drop e6).1 (ok.drop e6).2 e6)
end
theorem del_frm:Frm dlL 135 261 262 Okdl dready dstep ddone where
 below h hb:=h.below hb
 mr b w f:=by kernel_rfl
 ms b w f:=by kernel_rfl
 er args w:=by kernel_rfl
 es args w:=by kernel_rfl
 ready {w M a p} hM h ok:=del_ready hM h (fun q=>by
  by_cases e2:p.nx=2
  · obtain ⟨r,o⟩:=ok.sk e2
    exact o.hd q
  · exact absurd q (ok.ph e2))
 step hM h ok hr:=del_step hM h ok hr
section
variable {L:Lm} {D:Dt}
theorem dstep2 (h:D.nx=2):dstep L D=((sstep L D.toSk).1,{D with toSk:=(sstep L D.toSk).2,nx:=if sdone L D.toSk=true then (if (sstep L D.toSk).2.W.found≠0 then 4 else 6) else 2}):=by
 unfold dstep; rw [if_pos h]
theorem dstep4 (h:D.nx=4):dstep L D=(slead L D.toSk D.W.nd.next.toNat,{D with mine:=D.W.found,nx:=5}):=by
 unfold dstep; rw [if_neg (by omega),if_pos h]
theorem dstep5 (h:D.nx=5):dstep L D=({L with ws:=L.ws++[D.mine]},{D with mine:=0,nx:=6}):=by
 unfold dstep; rw [if_neg (by omega),if_neg (by omega),if_pos h]
theorem dstep6 (h:D.nx=6):dstep L D=({L with hs:=L.hs.set D.H.lock (-1)},{D with H:={D.H with holds:=false},nx:=7}):=by
 unfold dstep; rw [if_neg (by omega),if_neg (by omega),if_neg (by omega)]
end
abbrev Ep.t (E:Ep) (nx:Nat) (H:Ho) (W:Wa) (mine:Nat):Dt:=⟨E.s H W,nx,mine⟩
def passL (E:Ep) (W:Wa):Lm:=if W.prev≠0 then {E.L with ss:=lnk E.L.ss W.prev W.nd.next.toNat} else {E.L with xs:=E.L.xs.set E.c W.nd.next}
inductive Rd (E:Ep):Nat→Lm×Dt→Prop
 | s (k:Nat) (L:Lm) (S:Sk):Rs E k (L,S)→Rd E (3+k) (L,⟨S,2,0⟩)
 | none (W:Wa):Fnd E W→W.found=0→W.nd=.zero→Rd E 1 ({E.L with hs:=E.hs},Ep.t E 6 E.H W 0)
 | p (W:Wa):Fnd E W→W.found≠0→Rd E 3 ({E.L with hs:=E.hs},Ep.t E 4 E.H W 0)
 | r (W:Wa):Fnd E W→W.found≠0→Rd E 2 ({passL E W with hs:=E.hs},Ep.t E 5 E.H W W.found)
 | d (W:Wa):Fnd E W→W.found≠0→Rd E 1 ({passL E W with hs:=E.hs,ws:=E.L.ws++[W.found]},Ep.t E 6 E.H W 0)
def Qd (E:Ep) (s:Lm×Dt):Prop:=∃ W,Fnd E W∧(W.found=0→W.nd=.zero)∧s=(delL E.L E.c W,Ep.t E 7 {E.H with holds:=false} W 0)
section
variable {E:Ep} {k:Nat} {s:Lm×Dt}
theorem passL_hs (E:Ep) (W:Wa):(passL E W).hs=E.L.hs∧(passL E W).ds=E.L.ds∧(passL E W).ws=E.L.ws∧(passL E W).xs.length=E.L.xs.length:=by
 unfold passL
 split
 · exact ⟨rfl,rfl,rfl,rfl⟩
 · exact ⟨rfl,rfl,rfl,by simp⟩
theorem Fnd.next (hE:E.Ok) {W:Wa} (h:Fnd E W) (h0:W.found≠0):0≤W.nd.next∧W.nd.next≤18446744073709551615:=by
 rcases h with ⟨h1,_⟩ | ⟨pre,x,p,t,z,kk,hq,hp,hx,hk,hnd,hW,hc,hpv⟩
 · exact absurd h1 h0
 · rw [hW,← hnd]
   exact hE.nexts kk
theorem Ep.Ok.x1d (hE:E.Ok) {W:Wa} (hf:Fnd E W) (h0:W.found≠0):0≤Cl.nth (passL E W).xs 1∧Cl.nth (passL E W).xs 1≤18446744073709551615:=by
 unfold passL
 split
 · exact Cl.getD_bd hE.xb 1
 · refine Cl.getD_bd (fun x hx=>?_) 1
   rcases List.mem_or_eq_of_mem_set hx with q | rfl
   · exact hE.xb x q
   · exact Fnd.next hE hf h0
theorem Rd.ok (hE:E.Ok) (h:Rd E k s):Okdl s.1 s.2:=by
 cases h with
 | s k L S h=>exact ⟨.inl rfl,fun q=>by simp at q,fun _=>h.ok hE,fun q=>by simp at q,fun q=>by simp at q,fun q=>by simp at q⟩
 | none W hf h0 hz=>exact ⟨by simp,fun _=>by simp,fun q=>by simp at q,fun q=>by simp at q,fun q=>by simp at q,fun _=>⟨hE.okl5 hE.x1 rfl (Cl.getD_bd hE.xb 1),rfl⟩⟩
 | p W hf h0=>
   have hn:=Fnd.next hE hf h0
   exact ⟨by simp,fun _=>by simp,fun q=>by simp at q,fun _=>⟨hn.1,hf.okd hE (by simp only; omega) hE.cx (fun x j hj=>hj)⟩,fun q=>by simp at q,fun q=>by simp at q⟩
 | r W hf h0=>
   have hp:=passL_hs E W
   exact ⟨by simp,fun _=>by simp,fun q=>by simp at q,fun q=>by simp at q,fun _=>by show (passL E W).ws.length≤_; rw [hp.2.2.1]; exact hE.ws,fun q=>by simp at q⟩
 | d W hf h0=>
   have hp:=passL_hs E W
   exact ⟨by simp,fun _=>by simp,fun q=>by simp at q,fun q=>by simp at q,fun q=>by simp at q,fun _=>⟨hE.okl5 (by show 1<(passL E W).xs.length; rw [hp.2.2.2]; exact hE.x1) hp.2.1 (Ep.Ok.x1d hE hf h0),rfl⟩⟩
def Rdq (E:Ep) (k:Nat) (s:Lm×Dt):Prop:=∃ j,j≤k∧Rd E j s
theorem Rd.q {E:Ep} {j:Nat} {s:Lm×Dt} (h:Rd E j s) {k:Nat} (hk:j≤k):Rdq E k s:=⟨j,hk,h⟩
theorem Rd.step (hE:E.Ok) (h:Rd E k s):dready s.1 s.2=true∧1≤k∧(ddone s.1 s.2=true→Qd E (dstep s.1 s.2))∧(ddone s.1 s.2=false→Rdq E (k-1) (dstep s.1 s.2)):=by
 cases h with
 | s k L S h=>
   obtain ⟨h1,h2,h3,h4⟩:=h.step hE
   refine ⟨h1,by omega,fun q=>by simp [ddone] at q,fun _=>?_⟩
   rw [dstep2 rfl]
   simp only at h3 h4 ⊢
   cases hd:sdone L S with
   | true=>
     obtain ⟨W,hf,hz,e⟩:=h3 hd
     rw [e]
     simp only [if_true]
     by_cases h0:W.found≠0
     · rw [if_pos h0]
       exact (Rd.p W hf h0).q (by omega)
     · rw [if_neg h0]
       exact (Rd.none W hf (by omega) (hz (by omega))).q (by omega)
   | false=>
     obtain ⟨j,hj,hr⟩:=h4 hd
     simp only [Bool.false_eq_true,if_false]
     have:=Rd.s (E:=E) j (sstep L S).1 (sstep L S).2 hr
     exact this.q (by omega)
 | none W hf h0 hz=>
   refine ⟨rfl,by omega,fun _=>⟨W,hf,fun _=>hz,?_⟩,fun q=>by simp [ddone] at q⟩
   rw [dstep6 rfl]
   unfold delL
   rw [if_pos h0]
   show (({E.L with hs:=E.hs.set E.lock (-1)}:Lm),_)=_
   rw [hE.back]
 | p W hf h0=>
   refine ⟨rfl,by omega,fun q=>by simp [ddone] at q,fun _=>?_⟩
   have hn:=Fnd.next hE hf h0
   have e:dstep {E.L with hs:=E.hs} (Ep.t E 4 E.H W 0)=({passL E W with hs:=E.hs},Ep.t E 5 E.H W W.found):=by
    rw [dstep4 rfl]
    refine Prod.ext ?_ rfl
    unfold passL slead
    by_cases hl:W.prev≠0
    · show (if W.found≠0∧W.prev≠0 then _ else _)=_
      rw [if_pos ⟨h0,hl⟩,if_pos hl]
    · show (if W.found≠0∧W.prev≠0 then _ else _)=_
      rw [if_neg (fun q=>hl q.2),if_neg hl]
      show ({E.L with hs:=E.hs,xs:=E.L.xs.set ((E.c:Nat):Int).toNat ((W.nd.next.toNat:Nat):Int)}:Lm)=_
      rw [Int.toNat_natCast,show ((W.nd.next.toNat:Nat):Int)=W.nd.next by omega]
   rw [e]
   exact (Rd.r W hf h0).q (by omega)
 | r W hf h0=>
   refine ⟨rfl,by omega,fun q=>by simp [ddone] at q,fun _=>?_⟩
   have e:dstep {passL E W with hs:=E.hs} (Ep.t E 5 E.H W W.found)=({passL E W with hs:=E.hs,ws:=E.L.ws++[W.found]},Ep.t E 6 E.H W 0):=by
    rw [dstep5 rfl]
    refine Prod.ext ?_ rfl
    show ({passL E W with hs:=E.hs,ws:=(passL E W).ws++[W.found]}:Lm)=_
    rw [(passL_hs E W).2.2.1]
   rw [e]
   exact (Rd.d W hf h0).q (by omega)
 | d W hf h0=>
   refine ⟨rfl,by omega,fun _=>⟨W,hf,fun q=>absurd q h0,?_⟩,fun q=>by simp [ddone] at q⟩
   rw [dstep6 rfl]
   refine Prod.ext ?_ rfl
   show ({passL E W with ws:=E.L.ws++[W.found],hs:=E.hs.set E.lock (-1)}:Lm)=delL E.L E.c W
   rw [hE.back]
   unfold delL passL
   rw [if_neg h0]
   by_cases hl:W.prev≠0
   · rw [if_pos hl,if_pos hl]
   · rw [if_neg hl,if_neg hl]
end
theorem del_ends {w:World} {M:Mo} {a:Qa} {key val:ByteArray} {i:Int} {h c:Nat} {d:Nat×Nat} {q:List Mq.Hp} (hM:MemAt w M) (hP:DeAt w a (newDel h i key)) (hE:Ep.Ok ⟨lm M,key,val,i,h,d,c,q⟩) (K:Nat) (hK:7+q.length≤K∧K≤1000000):
 Calls Tryz.prog 21 #[ptr M.m,.iface 135 (ptr a.f),.int .i64 K] w fun e w'=>∃ (n:Nat) (s:Lm×Dt),e=.returned (.tuple #[.int .i64 n,.bool true])∧(n≤7+q.length∧fin (fun s:Lm×Dt=>dready s.1 s.2) (fun s=>dstep s.1 s.2) (fun s=>ddone s.1 s.2) K (lm M,newDel h i key)=(n,true,s))∧Qd ⟨lm M,key,val,i,h,d,c,q⟩ s∧dlL.Inv M a (newDel h i key) w s w':=by
 refine finish_frm del_frm hM hP (Rdq ⟨lm M,key,val,i,h,d,c,q⟩) (Qd ⟨lm M,key,val,i,h,d,c,q⟩) ?_ (7+q.length) K ?_ hK.1 hK.2
 · rintro k s ⟨j,hj,hr⟩
   obtain ⟨h1,h2,h3,h4⟩:=hr.step hE
   refine ⟨hr.ok hE,h1,by omega,h3,fun hd=>?_⟩
   obtain ⟨j',hj',hr'⟩:=h4 hd
   exact ⟨j',by omega,hr'⟩
 · exact (Rd.s (E:=⟨lm M,key,val,i,h,d,c,q⟩) (4+q.length) _ _ .a1).q (by omega)
end Go.Proofs.YtpobbnllcoabhaaGreat.Dl
namespace Go.Proofs.YtpobbnllcoabhaaGreat.Sw
open Go Go.RowKit Hp K Fl Rw Hm Ar Mm Me Qs Wk Pn
set_option maxRecDepth 100000
structure Sh where
 worker:Int
 nx:Nat
 err:Int
 el:Nat×Nat
 nw:Nat×Nat
 num:Int
 bucket:Nat
 fi:Nat
 sec:Nat
 at_:Nat
 la:Nat
 met:List Nat
 W:Wt
structure Sc where
 f:Nat
 mv:Value
 B:Nat
 w:Nat
def srv (a:Sc) (nx:Nat):Value:=if nx=9 then wfm 214 (ptr a.w) else wf0 123
def snv (a:Sc) (nx:Nat):Value:=if nx=1 then wfm 96 (ptr a.f) else if nx=2 then wfm 124 (ptr a.f) else if nx=3 then wfm 153 (ptr a.f)
 else if nx=4 then wfm 176 (ptr a.f) else if nx=5 then wfm 207 (ptr a.f) else if nx=6 then wfm 212 (ptr a.f)
 else if nx=7 then wfm 205 (ptr a.f) else if nx=8 then wfm 211 (ptr a.f) else if nx=9 then wfm 215 (ptr a.w) else wf0 152
def shc (a:Sc) (G:Sh):Array Value:=#[.int .i64 G.worker,srv a G.nx,snv a G.nx,.int .i64 G.err,.int .i64 G.el.1,.int .i64 G.el.2,.int .i64 G.nw.1,.int .i64 G.nw.2,.int .i64 G.num,.int .i64 G.bucket,.int .u64 G.fi,.int .u64 G.sec,.int .u64 G.at_,.int .u64 G.la,a.mv]
abbrev Own (w:World) (a:Sc) (G:Sh):Prop:=Blk w a.f 178 (shc a G)
structure ShAt (w:World) (a:Sc) (G:Sh):Prop where
 blk:Own w a G
 c5:G.nx=5→a.mv=.map (some a.B)∧Me.Met w a.B G.met
 wt:G.nx=9→WtAt w a.w G.W
def sfoot (a:Sc) (G:Sh) (x:Nat):Prop:=x=a.f∨(G.nx=5∧x=a.B)∨(G.nx=9∧x=a.w)
abbrev shL:Lay Sc Sh:=⟨Sc.f,ShAt,sfoot⟩
section
variable {w w':World} {M:Mo} {a:Sc} {G:Sh}
theorem ShAt.ty (h:ShAt w a G) {x:Nat} (hx:sfoot a G x):Ty w x [178,153]∨∃ ms,Me.Met w x ms:=by
 rcases hx with rfl | ⟨hn,rfl⟩ | ⟨hn,rfl⟩
 · exact .inl ((blk_ty h.blk).mono (by simp))
 · exact .inr ⟨_,(h.c5 hn).2⟩
 · exact .inl ((blk_ty (h.wt hn)).mono (by simp))
theorem ShAt.lt (h:ShAt w a G) {x:Nat} (hx:sfoot a G x):x<w.heap.size:=by
 rcases h.ty hx with q | ⟨ms,q⟩
 · exact q.lt
 · exact q.lt
theorem ShAt.far (h:ShAt w a G) (hM:MemAt w M) {x:Nat} (hx:sfoot a G x):¬mfoot M x:=fun hm=>by
 rcases h.ty hx with q | ⟨ms,q⟩
 · exact (hM.ty hm).apart q (by decide)
 · exact q.no (hM.ty hm)
theorem ShAt.only {S:Nat→Prop} (h:ShAt w a G) (ho:Only S w w') (hn:∀ x,sfoot a G x→¬S x):ShAt w' a G where
 blk:=h.blk.only ho (hn _ (.inl rfl))
 c5 q:=⟨(h.c5 q).1,(h.c5 q).2.only ho (hn _ (.inr (.inl ⟨q,rfl⟩)))⟩
 wt q:=(h.wt q).only ho (hn _ (.inr (.inr ⟨q,rfl⟩)))
theorem ShAt.below (h:ShAt w a G) (hb:Below w.heap.size w w'):ShAt w' a G:=h.only (Only.ofBelow hb (fun _=>False)) (by simp)
theorem ShAt.drewN (h:ShAt w a G) (n:Nat):ShAt (w.drewN n) a G:=h.only ((Only.refl (fun _=>False) w).drewN n) (by simp)
theorem own_hd (h:Own w a G):w.cell? ⟨a.f,0,none⟩=some (.int .i64 G.worker)∧w.cell? ⟨a.f,1,none⟩=some (srv a G.nx)∧w.cell? ⟨a.f,2,none⟩=some (snv a G.nx)∧w.cell? ⟨a.f,3,none⟩=some (.int .i64 G.err)∧
 w.cell? ⟨a.f,4,none⟩=some (.int .i64 G.el.1)∧w.cell? ⟨a.f,5,none⟩=some (.int .i64 G.el.2)∧w.cell? ⟨a.f,6,none⟩=some (.int .i64 G.nw.1)∧w.cell? ⟨a.f,7,none⟩=some (.int .i64 G.nw.2)∧
 w.cell? ⟨a.f,8,none⟩=some (.int .i64 G.num)∧w.cell? ⟨a.f,9,none⟩=some (.int .i64 G.bucket)∧w.cell? ⟨a.f,10,none⟩=some (.int .u64 G.fi)∧w.cell? ⟨a.f,11,none⟩=some (.int .u64 G.sec)∧
 w.cell? ⟨a.f,12,none⟩=some (.int .u64 G.at_)∧w.cell? ⟨a.f,13,none⟩=some (.int .u64 G.la)∧w.cell? ⟨a.f,14,none⟩=some a.mv:=
 ⟨h.cell 0,h.cell 1,h.cell 2,h.cell 3,h.cell 4,h.cell 5,h.cell 6,h.cell 7,h.cell 8,h.cell 9,h.cell 10,h.cell 11,h.cell 12,h.cell 13,h.cell 14⟩
theorem own_B (h:Own w a G) {B:Nat} {ms:List Nat} (hm:Me.Met w B ms):B≠a.f:=fun e=>hm.no (by rw [e]; exact blk_ty h)
end
/-! ### its steps as plain data-/
def toNext (G:Sh):Sh:={G with bucket:=G.bucket+1,nx:=if G.bucket+1=G.nw.1 then 8 else 3}
def toStore (G:Sh):Sh:=if G.fi=0 then (if G.sec=0 then toNext G else {G with fi:=G.sec,nx:=7}) else {G with nx:=7}
def endFirst (G:Sh):Sh:=if G.la=0 then toStore {G with fi:=0} else if G.sec∈G.met then toStore G else {G with nx:=6}
def comeTo (G:Sh) (x:Nat):Sh:=if x=0∨x∈G.met then endFirst G else {G with at_:=x,nx:=5}
def begun (G:Sh):Sh:=if G.fi=0∨G.sec=0 then toStore G else comeTo {G with la:=0,met:=[]} G.fi
def sstep (L:Lm) (G:Sh):Lm×Sh:=
 if G.nx=1 then (L,{G with el:=now L.xs L.ds,nx:=2})
 else if G.nx=2 then
  (if FM.power ((G.el.1 / 2:Nat):Int)=true∧L.xs.length+G.el.1 / 2≤1048576 then
    ({L with xs:=L.xs++List.replicate (G.el.1 / 2) 0,ds:=L.ds++[(G.el.1 / 2,L.xs.length)]},{G with num:=L.ds.length,err:=0,nw:=(G.el.1 / 2,L.xs.length),nx:=3})
  else (L,{G with num:= -1,err:=if FM.power ((G.el.1 / 2:Nat):Int)=true then 2 else 5,nx:=10}))
 else if G.nx=3 then (L,{G with fi:=(Cl.nth L.xs (G.el.2+G.bucket)).toNat,nx:=4})
 else if G.nx=4 then (L,begun {G with sec:=(Cl.nth L.xs (G.el.2+(G.bucket+G.nw.1))).toNat})
 else if G.nx=5 then (L,comeTo {G with la:=G.at_,met:=G.at_::G.met} (at' L.ss ((G.at_-1) % 65536)).nd.next.toNat)
 else if G.nx=6 then ({L with ss:=Pu.lnk L.ss G.la G.sec},toStore G)
 else if G.nx=7 then ({L with xs:=L.xs.set (G.nw.2+G.bucket) ((G.fi:Nat):Int)},toNext G)
 else if G.nx=8 then ({L with xs:=L.xs.set 1 G.num},{G with W:=⟨G.worker,0,0,0⟩,nx:=9})
 else ({L with xs:=(wstep L.k.toNat L.xs L.hs G.W).1,hs:=(wstep L.k.toNat L.xs L.hs G.W).2.1},{G with W:=(wstep L.k.toNat L.xs L.hs G.W).2.2})
def sready (L:Lm) (G:Sh):Bool:=if G.nx=9 then readyB L.xs L.hs G.W else true
def sdone (L:Lm) (G:Sh):Bool:=
 if G.nx=2 then !decide (FM.power ((G.el.1 / 2:Nat):Int)=true∧L.xs.length+G.el.1 / 2≤1048576) else if G.nx=9 then decide (G.W.at_=3) else decide (10≤G.nx)
structure Oksh (L:Lm) (G:Sh):Prop where
 nx:1≤G.nx∧G.nx≤9
 x1:1<L.xs.length
 hl:0<L.hs.length
 ds:L.ds.length≤900000
 el:G.nx≠1→G.el.1≤65536∧G.el.2≤4000000
 nw:G.nw.1≤65536∧G.nw.2≤4000000
 bk:G.bucket≤1000000
 hb:G.fi≤18446744073709551615∧G.sec≤18446744073709551615
 c3:G.nx=3→G.el.2+G.bucket<L.xs.length
 c4:G.nx=4→G.el.2+(G.bucket+G.nw.1)<L.xs.length
 c5:G.nx=5→IsAt L.ss G.at_ ((G.at_-1) % 65536)∧G.at_≤18446744073709551615∧(0≤(at' L.ss ((G.at_-1) % 65536)).nd.next∧(at' L.ss ((G.at_-1) % 65536)).nd.next≤18446744073709551615)∧G.met.length≤100000
 c6:G.nx=6→G.la≤18446744073709551615∧∃ k,IsAt L.ss G.la k
 c7:G.nx=7→G.nw.2+G.bucket<L.xs.length
 c8:G.nx=8→0≤G.num∧G.num≤1000000
 c9:G.nx=9→0≤L.k∧Qs.Okw L.k.toNat L.xs L.hs G.W
end Go.Proofs.YtpobbnllcoabhaaGreat.Sw
namespace Go.Proofs.YtpobbnllcoabhaaGreat.Sw
open Go Go.RowKit Hp K Fl Rw Hm Ar Mm Me Qs Wk Pn
set_option maxRecDepth 100000
theorem always_any (m:Value) (w:World):Calls Tryz.prog 123 #[m] w fun e w'=>e=.returned (.bool true)∧w'=w:=by
 go_enter Tryz.func123,Tryz.ntmps123
 go_wp2
 go_ret
 exact ⟨rfl,rfl⟩
section
variable {w w':World} {M:Mo} {a:Sc} {G:Sh}
theorem only2 {c:Nat} (w:World) (i j:Nat) (u v:Value):Only (·=c) w ((w.setCell ⟨c,i,none⟩ u).setCell ⟨c,j,none⟩ v):=
 ((Only.refl (·=c) w).setCell (p:=⟨c,i,none⟩) (.inl rfl) _).setCell (p:=⟨c,j,none⟩) (.inl rfl) _
theorem only1 {c:Nat} (w:World) (i:Nat) (u:Value):Only (·=c) w (w.setCell ⟨c,i,none⟩ u):=(Only.refl (·=c) w).setCell (p:=⟨c,i,none⟩) (.inl rfl) _
theorem own_next (h:Own w a G) {n:Nat} (hn:n≠9):Own ((w.setCell ⟨a.f,1,none⟩ (wf0 123)).setCell ⟨a.f,2,none⟩ (snv a n)) a {G with nx:=n}:=by
 have e:shc a {G with nx:=n}=((shc a G).setIfInBounds 1 (wf0 123)).setIfInBounds 2 (snv a n):=by
  unfold shc srv
  rw [if_neg hn]
  rfl
 unfold Own
 rw [e]
 exact (Blk.store h 1 _).store 2 _
theorem goOn_any (h:Own w a G) {n F:Nat} {b:Array Value} (hn:n≠9) (e:snv a n=.func (.func F) b #[]):
 Calls Tryz.prog 95 #[ptr a.f,.func (.func F) b #[]] w fun e w'=>e=.returned (.tuple #[])∧Own w' a {G with nx:=n}∧Only (·=a.f) w w':=by
 have c1:=h.cell 1
 have c2:=h.cell 2
 have z1:=h.frozen 1
 have z2:=h.frozen 2
 simp only [shc,List.getElem?_toArray,List.getElem?_cons_succ,List.getElem?_cons_zero] at c1 c2
 have hE:=Lib.hid (own_next h hn)
 rw [e] at hE
 have hO:=Lib.hid (only2 (c:=a.f) w 1 2 (wf0 123) (.func (.func F) b #[]))
 generalize srv a G.nx=u1 at*
 generalize snv a G.nx=u2 at*
 clear h e
 go_enter Tryz.func95,Tryz.ntmps95
 go_wp2
 go_end0
 exact ⟨rfl,hE.out,hO.out⟩
set_option maxHeartbeats 2000000 in
theorem toNext_any (h:Own w a G) (hb:G.bucket≤1000000) (hn:G.nw.1≤1000000):
 Calls Tryz.prog 204 #[ptr a.f] w fun e w'=>e=.returned (.tuple #[])∧Own w' a (toNext G)∧Only (·=a.f) w w':=by
 have c9:=h.cell 9
 have z9:=h.frozen 9
 simp only [shc,List.getElem?_toArray,List.getElem?_cons_succ,List.getElem?_cons_zero] at c9
 have hX2:Own (w.setCell ⟨a.f,9,none⟩ (.int .i64 ((G.bucket:Int)+1))) a {G with bucket:=G.bucket+1}:=Blk.store h 9 (.int .i64 (G.bucket+1))
 have hO3:=Lib.hid (only1 (c:=a.f) w 9 (.int .i64 (G.bucket+1)))
 have hG:=Lib.hid (goOn_any hX2 (n:=3) (by omega) rfl)
 clear h hX2
 go_enter Tryz.func204,Tryz.ntmps204
 go_wp2_with fail
 refine hG.out.mono ?_
 rintro e w2 ⟨rfl,hO2,hY2⟩
 have p9:=hO2.cell 9
 have p6:=hO2.cell 6
 simp only [shc,List.getElem?_toArray,List.getElem?_cons_succ,List.getElem?_cons_zero] at p6 p9
 have hY4:=Lib.hid (hO3.out.trans hY2)
 have hG6:=Lib.hid (fun n=>goOn_any (G:={G with bucket:=G.bucket+1,nx:=3}) (Blk.only hO2 ((Only.refl (fun _=>False) w2).drewN n) (by simp):Own (w2.drewN n) a {G with bucket:=G.bucket+1,nx:=3}) (n:=8) (by omega) rfl)
 replace hO2:=Lib.hid hO2
 clear hY2 hO3 c9 z9 hG
 by_cases hq:G.bucket+1=G.nw.1
 · have q1:(((G.bucket+1:Nat):Int)==(G.nw.1:Int))=true:=by simp; omega
   have e6:Hid (toNext G={G with bucket:=G.bucket+1,nx:=8}):=Lib.hid (by
    unfold toNext
    rw [if_pos hq])
   clear hq
   go_wp2_with fail
   go_quiet (fail)
   clear p6 p9
   go_wp2_with fail
   refine (hG6.out _).mono ?_
   rintro e w3 ⟨rfl,hO5,hY5⟩
   have hYY:=Lib.hid ((hY4.out.drewN nq).trans hY5)
   replace hO5:=Lib.hid hO5
   clear hY5 hG6
   go_wp2_with fail
   go_end0
   exact ⟨rfl,by rw [e6.out]; exact hO5.out,hYY.out⟩
 · have q1:(((G.bucket+1:Nat):Int)==(G.nw.1:Int))=false:=by simp; omega
   have e6:Hid (toNext G={G with bucket:=G.bucket+1,nx:=3}):=Lib.hid (by
    unfold toNext
    rw [if_neg hq])
   clear hq
   go_wp2_with fail
   go_quiet (fail)
   have hO5:=Lib.hid (Blk.only hO2.out ((Only.refl (fun _=>False) w2).drewN nq) (by simp))
   have hYY:=Lib.hid (hY4.out.drewN nq)
   clear p6 p9 hG6
   go_wp2_with fail
   go_end0
   exact ⟨rfl,by rw [e6.out]; exact hO5.out,hYY.out⟩
set_option maxHeartbeats 2000000 in
theorem toStore_any (h:Own w a G) (hb:G.bucket≤1000000) (hn:G.nw.1≤1000000):
 Calls Tryz.prog 192 #[ptr a.f] w fun e w'=>e=.returned (.tuple #[])∧Own w' a (toStore G)∧Only (·=a.f) w w':=by
 have c10:=h.cell 10
 have c11:=h.cell 11
 have z10:=h.frozen 10
 simp only [shc,List.getElem?_toArray,List.getElem?_cons_succ,List.getElem?_cons_zero] at c10 c11
 by_cases h0:G.fi=0
 · have hX:Own (w.setCell ⟨a.f,10,none⟩ (.int .u64 G.sec)) a {G with fi:=G.sec}:=Blk.store h 10 (.int .u64 G.sec)
   have hO:=Lib.hid (only1 (c:=a.f) w 10 (.int .u64 G.sec))
   rw [h0] at c10
   by_cases h1:G.sec=0
   · have e:Hid (toStore G=toNext {G with fi:=G.sec}):=Lib.hid (by
      unfold toStore
      rw [if_pos h0,if_pos h1]
      unfold toNext
      rw [h0,h1])
     rw [h1] at c11
     have hN:=toNext_any hX hb hn
     rw [h1] at hN hO e
     replace hN:=Lib.hid hN
     clear h hX h0
     go_enter Tryz.func192,Tryz.ntmps192
     go_wp2_with fail
     refine hN.out.mono ?_
     rintro e w2 ⟨rfl,hO2,hY2⟩
     have hYY:=Lib.hid (hO.out.trans hY2)
     replace hO2:=Lib.hid hO2
     clear hY2 hN hO c10 c11 z10
     go_wp2_with fail
     exact bodyPost_ret (v:=.tuple #[]) (by simp [results,Tryz.results192]) rfl ⟨rfl,by rw [e.out]; exact hO2.out,hYY.out⟩
   · have e:Hid (toStore G={G with fi:=G.sec,nx:=7}):=Lib.hid (by
      unfold toStore
      rw [if_pos h0,if_neg h1])
     have q1:((G.sec:Int)==0)=false:=by simp; omega
     have hN:=Lib.hid (goOn_any hX (n:=7) (by omega) rfl)
     clear h hX h0 h1
     go_enter Tryz.func192,Tryz.ntmps192
     go_wp2_with fail
     refine hN.out.mono ?_
     rintro e w2 ⟨rfl,hO2,hY2⟩
     have hYY:=Lib.hid (hO.out.trans hY2)
     replace hO2:=Lib.hid hO2
     clear hY2 hN hO c10 c11 z10
     go_wp2_with fail
     go_end0
     exact ⟨rfl,by rw [e.out]; exact hO2.out,hYY.out⟩
 · have e:Hid (toStore G={G with nx:=7}):=Lib.hid (by
    unfold toStore
    rw [if_neg h0])
   have q1:((G.fi:Int)==0)=false:=by simp; omega
   have hN:=Lib.hid (goOn_any h (n:=7) (by omega) rfl)
   clear h h0
   go_enter Tryz.func192,Tryz.ntmps192
   go_wp2_with fail
   refine hN.out.mono ?_
   rintro e w2 ⟨rfl,hO2,hY2⟩
   replace hY2:=Lib.hid hY2
   replace hO2:=Lib.hid hO2
   clear hN c10 c11 z10
   go_wp2_with fail
   go_end0
   exact ⟨rfl,by rw [e.out]; exact hO2.out,hY2.out⟩
set_option maxHeartbeats 2000000 in
theorem endFirst_any (h:Own w a G) (hm:a.mv=.map (some a.B)) (hM:Me.Met w a.B G.met) (hs:G.sec≤18446744073709551615) (hb:G.bucket≤1000000) (hn:G.nw.1≤1000000):
 Calls Tryz.prog 206 #[ptr a.f] w fun e w'=>e=.returned (.tuple #[])∧Own w' a (endFirst G)∧Only (·=a.f) w w':=by
 have c10:=h.cell 10
 have c11:=h.cell 11
 have c13:=h.cell 13
 have c14:=h.cell 14
 have z10:=h.frozen 10
 simp only [shc,List.getElem?_toArray,List.getElem?_cons_succ,List.getElem?_cons_zero,hm] at c10 c11 c13 c14
 by_cases h0:G.la=0
 · have hX:Own (w.setCell ⟨a.f,10,none⟩ (.int .u64 0)) a {G with fi:=0}:=Blk.store h 10 (.int .u64 0)
   have hO:=Lib.hid (only1 (c:=a.f) w 10 (.int .u64 0))
   rw [h0] at c13
   have e:Hid (endFirst G=toStore {G with fi:=0}):=Lib.hid (by
    unfold endFirst
    rw [if_pos h0])
   have hN:=Lib.hid (toStore_any hX hb hn)
   clear h hX h0 hM
   go_enter Tryz.func206,Tryz.ntmps206
   go_wp2_with fail
   refine hN.out.mono ?_
   rintro e w2 ⟨rfl,hO2,hY2⟩
   have hYY:=Lib.hid (hO.out.trans hY2)
   replace hO2:=Lib.hid hO2
   clear hY2 hN hO c10 c11 c13 c14 z10
   go_wp2_with fail
   go_end0
   exact ⟨rfl,by rw [e.out]; exact hO2.out,hYY.out⟩
 · have q1:((G.la:Int)==0)=false:=by simp; omega
   have hL:=fun n=>(hM.only ((Only.refl (fun _=>False) w).drewN n) (by simp)).look hs
   by_cases h1:G.sec∈G.met
   · rw [show decide (G.sec∈G.met)=true by simpa using h1] at hL
     have e:Hid (endFirst G=toStore G):=Lib.hid (by
      unfold endFirst
      rw [if_neg h0,if_pos h1])
     have hN:=Lib.hid (fun n=>toStore_any (Blk.only h ((Only.refl (fun _=>False) w).drewN n) (by simp):Own (w.drewN n) a G) hb hn)
     have hO:=Lib.hid (fun n=>(Only.refl (·=a.f) w).drewN n)
     clear h h0 h1 hM
     go_enter Tryz.func206,Tryz.ntmps206
     go_wp2_with fail
     go_quiet (fail)
     go_wp2_with fail
     refine (hN.out nq).mono ?_
     rintro e w2 ⟨rfl,hO2,hY2⟩
     have hYY:=Lib.hid ((hO.out nq).trans hY2)
     replace hO2:=Lib.hid hO2
     clear hY2 hN hO hL c10 c11 c13 c14 z10
     go_wp2_with fail
     go_end0
     exact ⟨rfl,by rw [e.out]; exact hO2.out,hYY.out⟩
   · rw [show decide (G.sec∈G.met)=false by simpa using h1] at hL
     have e:Hid (endFirst G={G with nx:=6}):=Lib.hid (by
      unfold endFirst
      rw [if_neg h0,if_neg h1])
     have hN:=Lib.hid (fun n=>goOn_any (Blk.only h ((Only.refl (fun _=>False) w).drewN n) (by simp):Own (w.drewN n) a G) (n:=6) (by omega) rfl)
     have hO:=Lib.hid (fun n=>(Only.refl (·=a.f) w).drewN n)
     clear h h0 h1 hM
     go_enter Tryz.func206,Tryz.ntmps206
     go_wp2_with fail
     go_quiet (fail)
     go_wp2_with fail
     refine (hN.out nq).mono ?_
     rintro e w2 ⟨rfl,hO2,hY2⟩
     have hYY:=Lib.hid ((hO.out nq).trans hY2)
     replace hO2:=Lib.hid hO2
     clear hY2 hN hO hL c10 c11 c13 c14 z10
     go_wp2_with fail
     go_end0
     exact ⟨rfl,by rw [e.out]; exact hO2.out,hYY.out⟩
set_option maxHeartbeats 2000000 in
theorem comeTo_any (h:Own w a G) (hm:a.mv=.map (some a.B)) (hM:Me.Met w a.B G.met) (hs:G.sec≤18446744073709551615) (hb:G.bucket≤1000000) (hn:G.nw.1≤1000000) {x:Nat} (hx:x≤18446744073709551615):
 Calls Tryz.prog 193 #[ptr a.f,.int .u64 x] w fun e w'=>e=.returned (.tuple #[])∧Own w' a (comeTo G x)∧Only (·=a.f) w w':=by
 have c12:=h.cell 12
 have c14:=h.cell 14
 have z12:=h.frozen 12
 simp only [shc,List.getElem?_toArray,List.getElem?_cons_succ,List.getElem?_cons_zero,hm] at c12 c14
 have hE:=Lib.hid (endFirst_any h hm hM hs hb hn)
 by_cases h0:x=0
 · subst h0
   have e:Hid (comeTo G 0=endFirst G):=Lib.hid (by unfold comeTo; rw [if_pos (.inl rfl)])
   clear h hM
   go_enter Tryz.func193,Tryz.ntmps193
   go_wp2_with fail
   refine hE.out.mono ?_
   rintro e w1 ⟨rfl,hO2,hY2⟩
   replace hY2:=Lib.hid hY2
   replace hO2:=Lib.hid hO2
   clear hE c12 c14 z12
   go_wp2_with fail
   exact bodyPost_ret (v:=.tuple #[]) (by simp [results,Tryz.results193]) rfl ⟨rfl,by rw [e.out]; exact hO2.out,hY2.out⟩
 · have q1:((x:Int)==0)=false:=by simp; omega
   have hL:=hM.look hx
   by_cases h1:x∈G.met
   · rw [show decide (x∈G.met)=true by simpa using h1] at hL
     have e:Hid (comeTo G x=endFirst G):=Lib.hid (by unfold comeTo; rw [if_pos (.inr h1)])
     clear h hM h1 h0
     go_enter Tryz.func193,Tryz.ntmps193
     go_wp2_with fail
     refine hE.out.mono ?_
     rintro e w1 ⟨rfl,hO2,hY2⟩
     replace hY2:=Lib.hid hY2
     replace hO2:=Lib.hid hO2
     clear hE c12 c14 z12 hL
     go_wp2_with fail
     exact bodyPost_ret (v:=.tuple #[]) (by simp [results,Tryz.results193]) rfl ⟨rfl,by rw [e.out]; exact hO2.out,hY2.out⟩
   · rw [show decide (x∈G.met)=false by simpa using h1] at hL
     have e:Hid (comeTo G x={G with at_:=x,nx:=5}):=Lib.hid (by unfold comeTo; rw [if_neg (by simp [h0,h1])])
     have hB1:Own (w.setCell ⟨a.f,12,none⟩ (.int .u64 x)) a {G with at_:=x}:=Blk.store h 12 (.int .u64 x)
     have hO1:=Lib.hid (only1 (c:=a.f) w 12 (.int .u64 x))
     have hG:=Lib.hid (goOn_any hB1 (n:=5) (by omega) rfl)
     clear h hM h1 h0 hE hB1
     go_enter Tryz.func193,Tryz.ntmps193
     go_wp2_with fail
     refine hG.out.mono ?_
     rintro e w2 ⟨rfl,hB2,hO2⟩
     have hO:=Lib.hid (hO1.out.trans hO2)
     replace hB2:=Lib.hid hB2
     clear hO2 hO1 hG c12 c14 z12 hL
     go_wp2_with fail
     go_end0
     exact ⟨rfl,by rw [e.out]; exact hB2.out,hO.out⟩
end
end Go.Proofs.YtpobbnllcoabhaaGreat.Sw
