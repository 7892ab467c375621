/- Walks and plain mathematics, put together in their order: TabD, AwakeOne, LawKit, LawTwoA, AwakeThree, AwakeFour, LawFiveA, Made, TabE, SeekA, SeekB, Lnk, SeekC, PutA, PutB, PutD. -/
import Derived.Test.YtpobbnllcoabhaaGreatDoorTabC
import Derived.Test.YtpobbnllcoabhaaGreatDoorFnvWalk
import Derived.Test.YtpobbnllcoabhaaGreatDoorKit
import Derived.Carry
import Derived.ProofKit
import Derived.OpenShut
import Derived.Below
import Derived.Deep.Slices
import Derived.Deep.Fields
import Derived.Test.YtpobbnllcoabhaaGreatDoorRows
import Derived.Test.YtpobbnllcoabhaaGreatDoorCellsWalk
import Derived.Test.YtpobbnllcoabhaaGreatDoorLocksWalk
import Derived.Test.YtpobbnllcoabhaaGreatDoorRowKit
import Derived.Test.YtpobbnllcoabhaaGreatDoorArenaMake
import Derived.Test.YtpobbnllcoabhaaGreatDoorMemNew
import Derived.Test.YtpobbnllcoabhaaGreatDoorFinish
import Derived.Test.YtpobbnllcoabhaaGreatDoorFrm
import Derived.Test.YtpobbnllcoabhaaGreatDoorGetC
import Derived.Test.YtpobbnllcoabhaaGreatDoorLm
set_option linter.unusedVariables false
set_option linter.unusedSimpArgs false
namespace Go.Proofs.YtpobbnllcoabhaaGreatDoor.Ta
open Go Go.RowKit Hp K Fl Rw Hm Ar Mm Me
set_option maxRecDepth 100000
section
variable {w w':World} {M:Mo} {H:Ho}
theorem again_same (hM:MemAt w M) (hH:HoAt w H) (hx:1<M.xs.length) (he:Cl.nth M.xs 1=H.num):
 Calls Tryz.prog 175 #[ptr H.f,ptr M.m] w fun e w'=>e=.returned (.bool true)∧HoAt w' {H with nx:=5,holds:=true}∧Only (·=H.f) w w':=by
 have hL:=Lib.hid (Cl.load_in hM.2.1 1 hx)
 rw [he] at hL
 have c4:=hH.hd.2.2.2.2.1
 have c8:=hH.hd.2.2.2.2.2.2.2.2
 have z8:=hH.frz.2.2.2.2.2.2
 have d0:=hM.hd.1
 have HH:=Lib.hid hH
 clear hM hH he
 go_enter Tryz.func175,Tryz.ntmps175
 go_wp2_with (go_at_call 54; refine hL.out.mono ?_; rintro e w' ⟨rfl,hw⟩; obtain rfl:w=w':=hw.symm)
 have hS:HoAt (w.setCell ⟨H.f,8,none⟩ (.bool true)) {H with holds:=true}:=Blk.store HH.out 8 _
 have hS2:=Lib.hid (((Only.refl (·=H.f) w).setCell (p:=⟨H.f,8,none⟩) (.inl rfl) (.bool true)))
 refine (goOn_goes hS (n:=5) rfl rfl).mono ?_
 rintro e w2 ⟨rfl,hB2,hO2⟩
 replace hB2:=Lib.hid hB2
 replace hO2:=Lib.hid hO2
 clear hS
 go_wp2_with fail
 go_ret
 exact ⟨rfl,hB2.out,hS2.out.trans hO2.out⟩
theorem again_other (hM:MemAt w M) (hH:HoAt w H) (hx:1<M.xs.length) (he:Cl.nth M.xs 1≠H.num):
 Calls Tryz.prog 175 #[ptr H.f,ptr M.m] w fun e w'=>e=.returned (.bool false)∧HoAt w' {H with nx:=4}∧Only (·=H.f) w w':=by
 have hL:=Lib.hid (Cl.load_in hM.2.1 1 hx)
 have c4:=hH.hd.2.2.2.2.1
 have d0:=hM.hd.1
 have HH:=Lib.hid hH
 have hne:(Cl.nth M.xs 1 != (H.num:Int))=true:=by simpa using he
 clear hM hH he
 generalize Cl.nth M.xs 1=z at*
 go_enter Tryz.func175,Tryz.ntmps175
 go_wp2_with (go_at_call 54; refine hL.out.mono ?_; rintro e w' ⟨rfl,hw⟩; obtain rfl:w=w':=hw.symm)
 refine (goOn_goes HH.out (n:=4) rfl rfl).mono ?_
 rintro e w2 ⟨rfl,hB2,hO2⟩
 replace hB2:=Lib.hid hB2
 replace hO2:=Lib.hid hO2
 go_wp2_with fail
 go_ret
 exact ⟨rfl,hB2.out,hO2.out⟩
set_option maxHeartbeats 1000000 in
theorem free_any (hM:MemAt w M) (hH:HoAt w H) (ok:Okh M H) (hl:H.lock<M.hs.length) (hh:Lo.hol M.hs H.lock=H.worker):
 Calls Tryz.prog 185 #[ptr H.f,ptr M.m] w fun e w'=>e=.returned (.bool false)∧MemAt w' {M with hs:=M.hs.set H.lock (-1)}∧HoAt w' {H with nx:=1}∧Only (fun x=>mfoot M x∨x=H.f) w w':=by
 have hT:=Lib.hid (fun nq=>Lo.free_own (hM.drewN nq).2.2.1 H.lock hl H.worker ok.wk.1 hh)
 have c0:=hH.hd.1
 have c7:=hH.hd.2.2.2.2.2.2.2.1
 have d1:=hM.hd.2.1
 have HM:=Lib.hid hM
 have HH:=Lib.hid hH
 have lM:=hM.1.lt
 have lf:=hH.lt
 clear hM hH ok hl hh
 go_enter Tryz.func185,Tryz.ntmps185
 go_wp2_with fail
 go_region_held3 (fun w'=>w'.cell? ⟨M.m,1,none⟩=some (ptr M.lg)∧w'.cell? ⟨H.f,0,none⟩=some (.int .i64 H.worker)∧w'.cell? ⟨H.f,7,none⟩=some (.int .i64 H.lock)) (go_keep)
  (first
    | (go_at_call 134
       refine (hT.out 1).mono ?_
       rintro e w2 ⟨rfl,hL2,hO2⟩
       have hO2':=((Only.refl (Lo.foot M.lg M.lb) w).drewN 1).trans hO2
       have hM2:=HM.out.locks hL2 hO2'
       have hH2:=HH.out.keep HM.out hO2' foot_locks
       have s1:=hM2.hd.2.1
       have s2:=hH2.hd.1
       have s3:=hH2.hd.2.2.2.2.2.2.2.1
       simp at s1
       replace hO2':=Lib.hid hO2'
       replace hM2:=Lib.hid hM2
       replace hH2:=Lib.hid hH2
       clear hL2 hO2))
 all_goals
  go_wp2_with fail
  refine (goOn_goes hH2.out (n:=1) rfl rfl).mono ?_
  rintro e w3 ⟨rfl,hB3,hO3⟩
  have hM3:=Lib.hid (hM2.out.only hO3 (fun x hx q=>by subst q; exact hH2.out.far hM2.out hx))
  have hOO:=Lib.hid ((hO2'.out.mono (fun x _ q=>(.inl (foot_locks _ q):mfoot M x∨x=H.f))).trans (hO3.mono (fun x _ q=>.inr q)))
  replace hB3:=Lib.hid hB3
  clear hO3 s1 s2 s3
  go_wp2_with fail
  go_ret
  exact ⟨rfl,hM3.out,hB3.out,hOO.out⟩
set_option maxHeartbeats 1000000 in
theorem drop_yes (hM:MemAt w M) (hH:HoAt w H) (ok:Okh M H) (hl:H.lock<M.hs.length) (hh:Lo.hol M.hs H.lock=H.worker) (hs:H.holds=true):
 Calls Tryz.prog 103 #[ptr H.f,ptr M.m] w fun e w'=>e=.returned (.bool true)∧MemAt w' {M with hs:=M.hs.set H.lock (-1)}∧HoAt w' {H with holds:=false}∧Only (fun x=>mfoot M x∨x=H.f) w w':=by
 have c0:=hH.hd.1
 have c7:=hH.hd.2.2.2.2.2.2.2.1
 have c8:=hH.hd.2.2.2.2.2.2.2.2
 rw [hs] at c8
 have z8:=hH.frz.2.2.2.2.2.2
 have d1:=hM.hd.2.1
 have lM:=hM.1.lt
 have lf:=hH.lt
 have hS:HoAt (w.setCell ⟨H.f,8,none⟩ (.bool false)) {H with holds:=false}:=Blk.store hH 8 _
 have hOS:=(Only.refl (·=H.f) w).setCell (p:=⟨H.f,8,none⟩) (.inl rfl) (.bool false)
 have hMS:=hM.only hOS (fun x hx q=>by subst q; exact hH.far hM hx)
 replace hOS:=Lib.hid hOS
 have hT:=Lib.hid (fun nq=>Lo.free_own (hMS.drewN nq).2.2.1 H.lock hl H.worker ok.wk.1 hh)
 have hne:M.m≠H.f:=fun e=>hH.far hM (.inl e.symm)
 replace hMS:=Lib.hid hMS
 replace hS:=Lib.hid hS
 clear hM hH ok hl hh hs
 go_enter Tryz.func103,Tryz.ntmps103
 go_upto_region 4 with (fail)
 clear c0 c7 c8 z8 d1 hne
 generalize w.setCell ⟨H.f,8,none⟩ (.bool false)=w1 at*
 have c0:=hS.out.hd.1
 have c7:=hS.out.hd.2.2.2.2.2.2.2.1
 have d1:=hMS.out.hd.2.1
 simp only at c0 c7
 have hlm:=hMS.out.1.lt
 have hlf:H.f<w1.heap.size:=hS.out.lt
 go_wp2_with fail
 go_region_held3 (fun w'=>w'.cell? ⟨M.m,1,none⟩=some (ptr M.lg)∧w'.cell? ⟨H.f,0,none⟩=some (.int .i64 H.worker)∧w'.cell? ⟨H.f,7,none⟩=some (.int .i64 H.lock)) (go_keep)
  (first
    | (go_at_call 134
       refine (hT.out 1).mono ?_
       rintro e w2 ⟨rfl,hL2,hO2⟩
       have hO2':=((Only.refl (Lo.foot M.lg M.lb) w1).drewN 1).trans hO2
       have hM2:=hMS.out.locks hL2 hO2'
       have hH2:=hS.out.keep hMS.out hO2' foot_locks
       have s1:=hM2.hd.2.1
       have s2:=hH2.hd.1
       have s3:=hH2.hd.2.2.2.2.2.2.2.1
       simp at s1 s2 s3
       replace hO2':=Lib.hid hO2'
       replace hM2:=Lib.hid hM2
       replace hH2:=Lib.hid hH2
       clear hL2 hO2))
 all_goals
  have hOO:=Lib.hid ((hOS.out.mono (fun x _ q=>(.inr q:mfoot M x∨x=H.f))).trans (hO2'.out.mono (fun x _ q=>.inl (foot_locks _ q))))
  go_wp2_with fail
  go_ret
  exact ⟨rfl,hM2.out,hH2.out,hOO.out⟩
theorem lock_of (hH:HoAt w H):Calls Tryz.prog 101 #[ptr H.f] w fun e w'=>e=.returned (.int .i64 (if H.holds=true then (H.lock:Int) else-1))∧w'=w:=by
 have c7:=hH.hd.2.2.2.2.2.2.2.1
 have c8:=hH.hd.2.2.2.2.2.2.2.2
 clear hH
 generalize H.lock=k at*
 cases hs:H.holds with
 | true=>
   rw [hs] at c8
   go_enter Tryz.func101,Tryz.ntmps101
   go_wp2
   go_ret
   exact ⟨rfl,rfl⟩
 | false=>
   rw [hs] at c8
   go_enter Tryz.func101,Tryz.ntmps101
   go_wp2
   go_ret
   exact ⟨rfl,rfl⟩
theorem desc_of (hH:HoAt w H):Calls Tryz.prog 102 #[ptr H.f] w fun e w'=>e=.returned (dv (if H.holds=true then H.d else (0,0)))∧Below w.heap.size w w':=by
 have c5:=hH.hd.2.2.2.2.2.1
 have c6:=hH.hd.2.2.2.2.2.2.1
 have c8:=hH.hd.2.2.2.2.2.2.2.2
 have lf:=hH.lt
 clear hH
 generalize H.d=d at*
 cases hs:H.holds with
 | true=>
   rw [hs] at c8
   go_enter Tryz.func102,Tryz.ntmps102
   go_wp2
   exact bodyPost_ret (v:=dv d) (by simp [results,Tryz.results102,go_sem,dv]) rfl ⟨rfl,by first | exact ((Below.refl _ _).alloc (Nat.le_refl _) _) | exact (((Below.refl _ _).alloc (Nat.le_refl _) _).setCell (by simp) _).setCell (by simp) _⟩
 | false=>
   rw [hs] at c8
   go_enter Tryz.func102,Tryz.ntmps102
   go_wp2
   exact bodyPost_ret (v:=dv (0,0)) (by simp [results,Tryz.results102,go_sem,dv]) rfl ⟨rfl,by first | exact ((Below.refl _ _).alloc (Nat.le_refl _) _) | exact (((Below.refl _ _).alloc (Nat.le_refl _) _).setCell (by simp) _).setCell (by simp) _⟩
/-! ### what comes next-/
theorem enters_mt (args:Array Value) (w:World):(callFunc 152 args).run Tryz.prog w=.ok (.enter 152 args) w:=by kernel_rfl
theorem enters_al (args:Array Value) (w:World):(callFunc 119 args).run Tryz.prog w=.ok (.enter 119 args) w:=by kernel_rfl
theorem enters_do (args:Array Value) (w:World):(callFunc 186 args).run Tryz.prog w=.ok (.enter 186 args) w:=by kernel_rfl
theorem enters_lo (args:Array Value) (w:World):(callFunc 120 args).run Tryz.prog w=.ok (.enter 120 args) w:=by kernel_rfl
theorem enters_ta (args:Array Value) (w:World):(callFunc 153 args).run Tryz.prog w=.ok (.enter 153 args) w:=by kernel_rfl
theorem enters_la (args:Array Value) (w:World):(callFunc 175 args).run Tryz.prog w=.ok (.enter 175 args) w:=by kernel_rfl
theorem enters_fr (args:Array Value) (w:World):(callFunc 185 args).run Tryz.prog w=.ok (.enter 185 args) w:=by kernel_rfl
theorem step_fm {F f:Nat} {cv m:Value} {c:Bool} {P:World→Prop} (c3:w.cell? ⟨f,3,none⟩=some (fnm F cv)) (eF:∀ args w,(callFunc F args).run Tryz.prog w=.ok (.enter F args) w)
 (hF:Calls Tryz.prog F #[cv,m] w fun e w'=>e=.returned (.bool c)∧P w'):Calls Tryz.prog 121 #[ptr f,m] w fun e w'=>e=.returned (.bool c)∧P w':=by
 replace hF:=Lib.hid hF
 go_enter Tryz.func121,Tryz.ntmps121
 go_wp2_with fail
 refine hF.out.mono ?_
 rintro e w' ⟨rfl,hPw⟩
 replace hPw:=Lib.hid hPw
 clear c3
 go_wp2_with fail
 go_ret
 exact ⟨rfl,hPw.out⟩
theorem step_f0 {F f:Nat} {m:Value} {c:Bool} {P:World→Prop} (c3:w.cell? ⟨f,3,none⟩=some (fn0 F)) (eF:∀ args w,(callFunc F args).run Tryz.prog w=.ok (.enter F args) w)
 (hF:Calls Tryz.prog F #[m] w fun e w'=>e=.returned (.bool c)∧P w'):Calls Tryz.prog 121 #[ptr f,m] w fun e w'=>e=.returned (.bool c)∧P w':=by
 replace hF:=Lib.hid hF
 go_enter Tryz.func121,Tryz.ntmps121
 go_wp2_with fail
 refine hF.out.mono ?_
 rintro e w' ⟨rfl,hPw⟩
 replace hPw:=Lib.hid hPw
 clear c3
 go_wp2_with fail
 go_ret
 exact ⟨rfl,hPw.out⟩
theorem ready_fm {F f:Nat} {cv m:Value} {c:Bool} {P:World→Prop} (c3:w.cell? ⟨f,2,none⟩=some (fnm F cv)) (eF:∀ args w,(callFunc F args).run Tryz.prog w=.ok (.enter F args) w)
 (hF:Calls Tryz.prog F #[cv,m] w fun e w'=>e=.returned (.bool c)∧P w'):Calls Tryz.prog 88 #[ptr f,m] w fun e w'=>e=.returned (.bool c)∧P w':=by
 replace hF:=Lib.hid hF
 go_enter Tryz.func88,Tryz.ntmps88
 go_wp2_with fail
 refine hF.out.mono ?_
 rintro e w' ⟨rfl,hPw⟩
 replace hPw:=Lib.hid hPw
 clear c3
 go_wp2_with fail
 go_ret
 exact ⟨rfl,hPw.out⟩
theorem ready_f0 {F f:Nat} {m:Value} {c:Bool} {P:World→Prop} (c3:w.cell? ⟨f,2,none⟩=some (fn0 F)) (eF:∀ args w,(callFunc F args).run Tryz.prog w=.ok (.enter F args) w)
 (hF:Calls Tryz.prog F #[m] w fun e w'=>e=.returned (.bool c)∧P w'):Calls Tryz.prog 88 #[ptr f,m] w fun e w'=>e=.returned (.bool c)∧P w':=by
 replace hF:=Lib.hid hF
 go_enter Tryz.func88,Tryz.ntmps88
 go_wp2_with fail
 refine hF.out.mono ?_
 rintro e w' ⟨rfl,hPw⟩
 replace hPw:=Lib.hid hPw
 clear c3
 go_wp2_with fail
 go_ret
 exact ⟨rfl,hPw.out⟩
/-! ### a step,whole-/
def hready (M:Mo) (H:Ho):Bool:=if H.nx=2 then freeB M H else true
def hstep (M:Mo) (H:Ho):Mo×Ho:=
 if H.nx=1 then (M,{H with nx:=2,num:=(Cl.nth M.xs 1).toNat})
 else if H.nx=2 then ({M with hs:=M.hs.set (lkn H.sum (tab M.ds H.num)) H.worker},{H with nx:=3,d:=tab M.ds H.num,lock:=lkn H.sum (tab M.ds H.num)})
 else if H.nx=3 then (if Cl.nth M.xs 1=H.num then (M,{H with nx:=5,holds:=true}) else (M,{H with nx:=4}))
 else if H.nx=4 then ({M with hs:=M.hs.set H.lock (-1)},{H with nx:=1})
 else (M,H)
def hdone (M:Mo) (H:Ho):Bool:=decide (H.nx=3∧Cl.nth M.xs 1=H.num∨5≤H.nx)
def Own (M:Mo) (H:Ho):Prop:=(H.nx=3∨H.nx=4∨H.holds=true)→H.lock<M.hs.length∧Lo.hol M.hs H.lock=H.worker
theorem hold_ready (hM:MemAt w M) (hH:HoAt w H) (ok:Okh M H):
 Calls Tryz.prog 88 #[ptr H.f,ptr M.m] w fun e w'=>e=.returned (.bool (hready M H))∧Below w.heap.size w w':=by
 have c2:=hH.hd.2.2.1
 unfold rdv at c2
 unfold hready
 split
 · rename_i h
   rw [if_pos h] at c2
   exact ready_fm c2 enters_mt (mayTake_any hM hH ok)
 · rename_i h
   rw [if_neg h] at c2
   exact ready_f0 c2 enters_al ((always_any _ w).mono fun e w' q=>⟨q.1,q.2▸Below.refl _ _⟩)
theorem hold_step (hM:MemAt w M) (hH:HoAt w H) (ok:Okh M H) (ow:Own M H) (h1:1≤H.nx) (hr:hready M H=true):
 Calls Tryz.prog 121 #[ptr H.f,ptr M.m] w fun e w'=>e=.returned (.bool (hdone M H))∧MemAt w' (hstep M H).1∧HoAt w' (hstep M H).2∧Only (fun x=>mfoot M x∨x=H.f) w w':=by
 have c3:=hH.hd.2.2.2.1
 unfold nxv at c3
 have up:∀ w',Only (·=H.f) w w'→MemAt w' M∧Only (fun x=>mfoot M x∨x=H.f) w w':=fun w' ho=>⟨hM.only ho (fun x hx q=>by subst q; exact hH.far hM hx),ho.mono (fun x _ q=>.inr q)⟩
 by_cases e1:H.nx=1
 · have hd:hdone M H=false:=by unfold hdone; simp; omega
   have hs:hstep M H=(M,{H with nx:=2,num:=(Cl.nth M.xs 1).toNat}):=by unfold hstep; rw [if_pos e1]
   rw [if_pos e1] at c3
   rw [hd,hs]
   exact step_fm c3 enters_lo ((load_any hM hH ok.xl).mono fun e w' q=>⟨q.1,(up w' q.2.2).1,q.2.1,(up w' q.2.2).2⟩)
 · rw [if_neg e1] at c3
   by_cases e2:H.nx=2
   · have hd:hdone M H=false:=by unfold hdone; simp; omega
     have hs:hstep M H=({M with hs:=M.hs.set (lkn H.sum (tab M.ds H.num)) H.worker},{H with nx:=3,d:=tab M.ds H.num,lock:=lkn H.sum (tab M.ds H.num)}):=by unfold hstep; rw [if_neg e1,if_pos e2]
     rw [if_pos e2] at c3
     rw [hd,hs]
     refine step_fm c3 enters_ta (take_free hM hH ok ?_)
     unfold hready at hr
     rw [if_pos e2] at hr
     unfold freeB at hr
     have:=of_decide_eq_true hr
     omega
   · rw [if_neg e2] at c3
     by_cases e3:H.nx=3
     · rw [if_pos e3] at c3
       by_cases he:Cl.nth M.xs 1=H.num
       · have hd:hdone M H=true:=by unfold hdone; simp [e3,he]
         have hs:hstep M H=(M,{H with nx:=5,holds:=true}):=by unfold hstep; rw [if_neg e1,if_neg e2,if_pos e3,if_pos he]
         rw [hd,hs]
         exact step_fm c3 enters_la ((again_same hM hH ok.xl he).mono fun e w' q=>⟨q.1,(up w' q.2.2).1,q.2.1,(up w' q.2.2).2⟩)
       · have hd:hdone M H=false:=by unfold hdone; simp [e3,he]
         have hs:hstep M H=(M,{H with nx:=4}):=by unfold hstep; rw [if_neg e1,if_neg e2,if_pos e3,if_neg he]
         rw [hd,hs]
         exact step_fm c3 enters_la ((again_other hM hH ok.xl he).mono fun e w' q=>⟨q.1,(up w' q.2.2).1,q.2.1,(up w' q.2.2).2⟩)
     · rw [if_neg e3] at c3
       by_cases e4:H.nx=4
       · have hd:hdone M H=false:=by unfold hdone; simp; omega
         have hs:hstep M H=({M with hs:=M.hs.set H.lock (-1)},{H with nx:=1}):=by unfold hstep; rw [if_neg e1,if_neg e2,if_neg e3,if_pos e4]
         rw [if_pos e4] at c3
         rw [hd,hs]
         obtain ⟨o1,o2⟩:=ow (.inr (.inl e4))
         exact step_fm c3 enters_fr (free_any hM hH ok o1 o2)
       · have hd:hdone M H=true:=by unfold hdone; simp; omega
         have hs:hstep M H=(M,H):=by unfold hstep; rw [if_neg e1,if_neg e2,if_neg e3,if_neg e4]
         rw [if_neg e4] at c3
         rw [hd,hs]
         exact step_f0 c3 enters_do ((done_any _ w).mono fun e w' q=>⟨q.1,by rw [q.2]; exact ⟨hM,hH,Only.refl _ _⟩⟩)
end
end Go.Proofs.YtpobbnllcoabhaaGreatDoor.Ta
namespace Go.Proofs.YtpobbnllcoabhaaGreatDoor.AwOne
open Go.RowKit Fnv
theorem sum_a:FM.sum [97]=3826002220:=by decide+kernel
set_option maxHeartbeats 400000 in
theorem awake (w:World):Calls Tryz.prog 135 #[] w fun e w'=>e=.returned (.bool true)∧w'=w:=by
 go_enter Tryz.func135,Tryz.ntmps135
 go_wp2_with fail
 refine (sum_any ⟨#[97]⟩ _ (by decide)).mono ?_
 rintro e w' ⟨rfl,rfl⟩
 rw [show FM.sum (ByteArray.mk #[97]).data.toList=3826002220 from sum_a]
 go_wp2_with fail
 refine (power_any 8 _ (by omega) (by omega)).mono ?_
 rintro e w' ⟨rfl,rfl⟩
 rw [show FM.power 8=true from by decide]
 go_wp2_with fail
 refine (power_any 0 _ (by omega) (by omega)).mono ?_
 rintro e w' ⟨rfl,rfl⟩
 rw [show FM.power 0=false from by decide]
 go_wp2
 go_ret
 exact ⟨rfl,rfl⟩
end Go.Proofs.YtpobbnllcoabhaaGreatDoor.AwOne
namespace Go.Proofs.YtpobbnllcoabhaaGreatDoor.LK
open Go.RowKit Go.WideShapes Go.ChangeShapes
theorem own:ownKnob Tryz.prog.godebug=none:=by kernel_rfl
theorem all_stay {H:Type} {enc:TypeId×Value→H} {P:Program} {W W':World} (hl:laidOutB P=true) (hB:Below W.heap.size W W'):
 ∀ (ts:List TypeId) (vs:List Value) (ds:List (DataW H)) (ps:List MemPlace),(∀ t∈ts,P.readableRec t=true∧t<P.types.size)→(∀ p∈ps,p.block<W.heap.size)→
   DataW.TrodAll enc P W 0 (fun _=>true) true ts vs ds ps→DataW.TrodAll enc P W' 0 (fun b=>decide (b<W.heap.size)) true ts vs ds ps
 | [],[],[],_,_,_,h=>h
 | t::ts,v::vs,d::ds,ps,ht,hp,h=>by
   obtain ⟨p,q,h1,h2,rfl⟩:=h
   have hp1:∀ x∈p,x.block<W.heap.size:=fun x hx=>hp x (List.mem_append_left _ hx)
   have hp2:∀ x∈q,x.block<W.heap.size:=fun x hx=>hp x (List.mem_append_right _ hx)
   exact ⟨p,q,Below.trod hl (ht t (List.mem_cons_self ..)).1 (ht t (List.mem_cons_self ..)).2 h1 hB hp1,all_stay hl hB ts vs ds q (fun x hx=>ht x (List.mem_cons_of_mem _ hx)) hp2 h2,rfl⟩
 | [],[],_::_,_,_,_,h=>h.elim
 | [],_::_,_,_,_,_,h=>h.elim
 | _::_,[],_,_,_,_,h=>h.elim
 | _::_,_::_,[],_,_,_,h=>h.elim
theorem post_true {H:Type} {enc:TypeId×Value→H} {P:Program} {f:Func} {s:ChangeSpec} {apart fresh handsOn:Bool} {W W':World} {args:Array Value} {ds:List (DataW H)} {before:List MemPlace} {tb:TypeId}
 (hl:laidOutB P=true) (hts:(f.params.toList.all fun t=>P.readableRec t&&decide (t<P.types.size))=true) (hv:s.vars=[]) (hr:f.resultTypes=#[tb]) (hb:P.underlying tb=some .bool)
 (hs1:(s.fn H (ds++[])).results=[.lit (.bool true)]) (hs2:(s.fn H (ds++[])).args=ds) (hs3:(s.fn H (ds++[])).vars=[])
 (hW:DataW.Whole enc P f.params.toList s.vars apart W args.toList ds [] before) (hB:Below W.heap.size W W'):
 s.post enc P f apart fresh handsOn false W args (.bool true) W':=by
 have hW':=hW
 obtain ⟨p,q,hA,hV,rfl,hz,hn⟩:=hW
 rw [hv] at hV
 have hq:q=[]:=hV
 subst hq
 have hlt:∀ x∈p++[],x.block<W.heap.size:=fun x hx=>hW'.lt x hx
 simp only [List.append_nil] at hlt
 refine ⟨ds,[],_,[],p,[],hW',?_,?_,?_,?_,fun h=>by cases h⟩
 · rw [hr,hs1]
   exact trodAll_mk1 (shut_bool hb _)
 · rw [hs2]
   exact all_stay hl hB _ _ _ _ (fun t ht=>by simpa using List.all_eq_true.1 hts t ht) hlt hA
 · rw [hv,hs3]
   exact rfl
 · refine World.keptBut_mono (fun x hx=>?_) (hB.frame (·∈p))
   exact ⟨by simpa using hx,Or.inr (Or.inl hx)⟩
end Go.Proofs.YtpobbnllcoabhaaGreatDoor.LK
namespace Go.Proofs.YtpobbnllcoabhaaGreatDoor.LawTwo
open Go Go.RowKit Hp K Cl LK
set_option maxRecDepth 100000
theorem foot_new {B g:Nat} {A:Option Addr} (hg:B≤g) (hA:∀ b,A.map (·.block)=some b→B≤b):∀ x,x<B→¬foot g A x:=by
 rintro x hx (h | h)
 · omega
 · have:=hA x h; omega
theorem awake (w:World):Calls Tryz.prog 136 #[] w fun e w'=>e=.returned (.bool true)∧Below w.heap.size w w':=by
 go_enter Tryz.func136,Tryz.ntmps136
 go_wp2_with fail
 refine (new_yes w 1 (by omega)).mono ?_
 rintro e w1 ⟨rfl,hb,A,cap,hC,hA⟩
 have hF:=foot_new (Nat.le_refl w.heap.size) (fun b hb=>Nat.le_of_lt (hA b hb))
 have hb1:=Lib.hid hb
 have hF1:=Lib.hid hF
 clear hb hA hF
 have hadd:=Lib.hid (add_in hC 0 (by simp) 3)
 rw [show sum64 (nth (List.replicate 1 0) 0) 3=3 from by decide,show (List.replicate 1 (0:Int)).set 0 3=[3] from rfl] at hadd
 clear hC
 go_wp2_with fail
 refine hadd.out.mono ?_
 rintro e w2 ⟨rfl,hC,hO⟩
 have hb2:=Lib.hid (hb1.out.trans (hO.toBelow hb1.out.size hF1.out))
 clear hadd hO hb1
 have hsw:=Lib.hid (swap_yes hC 0 (by simp) 3 9 rfl (by omega) (by omega))
 rw [show ([3]:List Int).set 0 9=[9] from rfl] at hsw
 clear hC
 go_wp2_with fail
 refine hsw.out.mono ?_
 rintro e w3 ⟨rfl,hC,hO⟩
 have hb3:=Lib.hid (hb2.out.trans (hO.toBelow hb2.out.size hF1.out))
 clear hsw hO hb2
 have hlo:=Lib.hid (load_in hC 0 (by simp))
 rw [show nth [9] 0=9 from rfl] at hlo
 clear hC
 go_wp2_with (go_at_call 54; refine hlo.out.mono ?_; rintro e w' ⟨rfl,rfl⟩)
 go_ret
 exact ⟨rfl,hb3.out⟩
end Go.Proofs.YtpobbnllcoabhaaGreatDoor.LawTwo
namespace Go.Proofs.YtpobbnllcoabhaaGreatDoor.AwThree
open Go Go.RowKit Hp K Fl Rw Lo LK
set_option maxRecDepth 100000
theorem foot_new {B g b:Nat} (hg:B≤g) (hb:B≤b):∀ x,x<B→¬foot g b x:=by
 rintro x hx (h | h)<;>omega
theorem awake (w:World):Calls Tryz.prog 137 #[] w fun e w'=>e=.returned (.bool true)∧Below w.heap.size w w':=by
 go_enter Tryz.func137,Tryz.ntmps137
 go_wp2_with fail
 refine (new_yes w 1 (by omega)).mono ?_
 rintro e w1 ⟨g,b,rfl,hL,hg,hb,hB⟩
 have hF:=Lib.hid (foot_new hg hb)
 have t1:=Lib.hid (try_free hL 0 (by simp) 5 (by omega) (by omega) (by decide))
 replace hB:=Lib.hid hB
 clear hL hg hb
 go_wp2_with fail
 refine t1.out.mono ?_
 rintro e w2 ⟨rfl,hL,hO⟩
 rw [show (List.replicate 1 (-1:Int)).set 0 5=[5] from rfl] at hL
 have hB2:=Lib.hid (hB.out.trans (hO.toBelow hB.out.size hF.out))
 have t2:=Lib.hid (try_held hL 0 (by simp) 6 (by omega) (by decide))
 have t3:=Lib.hid (free_other hL 0 (by simp) 6 (by omega) (by decide))
 replace hL:=Lib.hid hL
 clear t1 hO hB
 go_wp2_with fail
 refine t2.out.mono ?_
 rintro e w' ⟨rfl,rfl⟩
 go_wp2_with fail
 refine t3.out.mono ?_
 rintro e w3 ⟨rfl,hb3⟩
 have hB3:=Lib.hid (hB2.out.trans (hb3.mono hB2.out.size))
 have t4:=Lib.hid (holder_in (hL.out.only (Only.ofBelow hb3 (fun _=>False)) (by simp)) 0 (by simp))
 rw [show hol [5] 0=5 from rfl] at t4
 clear t2 t3 hb3 hB2 hL
 go_wp2_with (go_at_call 70; refine t4.out.mono ?_; rintro e w' ⟨rfl,rfl⟩)
 go_ret
 exact ⟨rfl,hB3.out⟩
end Go.Proofs.YtpobbnllcoabhaaGreatDoor.AwThree
namespace Go.Proofs.YtpobbnllcoabhaaGreatDoor.AwFour
open Go Go.RowKit Hp K Fl Rw Hm Hw Ar LK
def n0:Nd:=.zero
def s1:List Sl:=(List.replicate 2 Sl.zero).set 0 ⟨true,0,n0⟩
def s2:List Sl:=s1.set 1 ⟨true,0,n0⟩
def s3:List Sl:=s2.set 0 ⟨false,1,.zero⟩
theorem afoot_new {B g sb fb:Nat} (h:∀ x,afoot g sb fb x→B≤x):∀ x,x<B→¬afoot g sb fb x:=fun x hx hf=>by have:=h x hf; omega
theorem l1:Least (List.replicate 2 Sl.zero) 0:=⟨by simp,rfl,fun j hj=>by omega⟩
theorem l2:Least s1 1:=⟨by simp [s1],rfl,fun j hj=>by
 have:j=0:=by omega
 subst this
 rfl⟩
theorem i3:IsAt s2 1 0:=⟨by simp [s2,s1],rfl,rfl⟩
theorem l4:Least s3 0:=⟨by simp [s3,s2,s1],rfl,fun j hj=>by omega⟩
set_option maxRecDepth 100000 in
theorem awake (w:World):Calls Tryz.prog 138 #[] w fun e w'=>e=.returned (.bool true)∧Below w.heap.size w w':=by
 have hN:=Lib.hid (new_yes w 2 (by omega))
 go_enter Tryz.func138,Tryz.ntmps138
 go_wp2_with fail
 refine hN.out.mono ?_
 rintro e w1 ⟨g,sb,fb,rfl,hA1,hlo,hB1⟩
 replace hlo:=Lib.hid (afoot_new hlo)
 have a1:Hid (Calls Tryz.prog 125 #[.pointer (some ⟨g,0,none⟩),ndv n0] w1 fun e w'=>e=.returned (.tuple #[.int .u64 1,.int .i64 0])∧ArenaAt w' g sb fb s1 false∧Only (afoot g sb fb) w1 w'):=
  Lib.hid ((alloc_ok hA1 n0 0 l1 (Nat.zero_le _)).mono fun _ _ h=>h)
 replace hB1:=Lib.hid hB1
 clear hA1 hN
 go_wp2_with fail
 refine a1.out.mono ?_
 rintro e w2 ⟨rfl,hA2,hO2⟩
 have hB2:=Lib.hid (hB1.out.trans (hO2.toBelow hB1.out.size hlo.out))
 have a2:Hid (Calls Tryz.prog 125 #[.pointer (some ⟨g,0,none⟩),ndv n0] w2 fun e w'=>e=.returned (.tuple #[.int .u64 2,.int .i64 0])∧ArenaAt w' g sb fb s2 false∧Only (afoot g sb fb) w2 w'):=
  Lib.hid ((alloc_ok hA2 n0 1 l2 (Nat.zero_le _)).mono fun _ _ h=>h)
 clear hA2 hO2 hB1 a1
 go_wp2_with fail
 refine a2.out.mono ?_
 rintro e w3 ⟨rfl,hA3,hO3⟩
 have hB3:=Lib.hid (hB2.out.trans (hO3.toBelow hB2.out.size hlo.out))
 have a3:Hid (Calls Tryz.prog 162 #[.pointer (some ⟨g,0,none⟩),.int .u64 1] w3 fun e w'=>e=.returned (.int .i64 0)∧ArenaAt w' g sb fb s3 false∧Only (afoot g sb fb) w3 w'):=
  Lib.hid ((free_ok hA3 (x:=1) (k:=0) (by omega) i3 (Nat.zero_le _)).mono fun _ _ h=>h)
 clear hA3 hO3 hB2 a2
 go_wp2_with fail
 refine a3.out.mono ?_
 rintro e w4 ⟨rfl,hA4,hO4⟩
 have hB4:=Lib.hid (hB3.out.trans (hO4.toBelow hB3.out.size hlo.out))
 have a4:Hid (Calls Tryz.prog 125 #[.pointer (some ⟨g,0,none⟩),ndv n0] w4 fun e w'=>e=.returned (.tuple #[.int .u64 65537,.int .i64 0])∧ArenaAt w' g sb fb (s3.set 0 ⟨true,1,n0⟩) false∧Only (afoot g sb fb) w4 w'):=
  Lib.hid ((alloc_ok hA4 n0 0 l4 (by show 1≤1000000; omega)).mono fun _ _ h=>h)
 clear hA4 hO4 hB3 a3
 go_wp2_with fail
 refine a4.out.mono ?_
 rintro e w5 ⟨rfl,hA5,hO5⟩
 have hB5:=Lib.hid (hB4.out.trans (hO5.toBelow hB4.out.size hlo.out))
 have a5:=Lib.hid (fault_any hA5)
 clear hA5 hO5 hB4 a4
 go_wp2_with fail
 refine a5.out.mono ?_
 rintro e w6 ⟨rfl,rfl⟩
 go_wp2_with fail
 go_ret
 exact ⟨rfl,hB5.out⟩
end Go.Proofs.YtpobbnllcoabhaaGreatDoor.AwFour
namespace Go.Proofs.YtpobbnllcoabhaaGreatDoor.LawFive
open Go Go.RowKit Hp K Fl Rw Hm Ar Mm Me LK
set_option maxRecDepth 100000
theorem one (w:World):Calls Tryz.prog 135 #[] w fun e w'=>e=.returned (.bool true)∧w=w':=(AwOne.awake w).mono fun _ _ h=>⟨h.1,h.2.symm⟩
set_option maxHeartbeats 1000000 in
theorem awake (w:World):Calls Tryz.prog 100 #[] w fun e w'=>e=.returned (.bool true)∧Below w.heap.size w w':=by
 have hN:=Lib.hid (mem_yes 4 2 w (by omega) (by omega))
 go_enter Tryz.func100,Tryz.ntmps100
 go_wp2_with fail
 refine hN.out.mono ?_
 rintro e w1 ⟨M,rfl,hM,hlo,hB,h1,h2,h3,h4,h5,h6,h7⟩
 have hLd:=Lib.hid (Cl.load_in hM.2.1 0 (by rw [h1]; simp))
 rw [h1,show Cl.nth (1::List.replicate (2+2) 0) 0=1 from rfl] at hLd
 obtain ⟨c0,c1,c2,_⟩:=hM.hd
 have hlen:∀ w',Below w1.heap.size w1 w'→Calls Tryz.prog 139 #[ptr M.g] w' fun e w''=>e=.returned (.int .i64 5)∧w'=w'':=fun w' hb=>by
  have:=(Cl.len_any (hM.below hb).2.1)
  rw [h1] at this
  exact this.mono fun _ _ h=>⟨h.1,h.2.symm⟩
 have hnow:∀ w',Below w1.heap.size w1 w'→Calls Tryz.prog 29 #[ptr M.m] w' fun e w''=>e=.returned (.agg #[.int .i64 1,.int .i64 4])∧Below w'.heap.size w' w'':=fun w' hb=>by
  have:=now_any (hM.below hb) (by rw [h1]; simp)
  rw [h1,h6] at this
  exact this
 have hcell:∀ w',Below w1.heap.size w1 w'→w'.cell? ⟨M.m,0,none⟩=some (ptr M.g):=fun w' hb=>(hM.below hb).hd.1
 replace hlen:=Lib.hid hlen
 replace hnow:=Lib.hid hnow
 replace hcell:=Lib.hid hcell
 replace hB:=Lib.hid hB
 clear hN hM hlo h1 h2 h3 h4 h5 h6 h7
 go_wp2_with (first
  | (go_at_call 54; refine hLd.out.mono ?_; rintro e w' ⟨rfl,hw⟩; obtain rfl:w1=w':=hw.symm)
  | (go_at_call 135; refine (one _).mono ?_; rintro e w' ⟨rfl,rfl⟩))
 refine (LawTwo.awake w1).mono ?_
 rintro e w2 ⟨rfl,hB2⟩
 have hc2:=hcell.out w2 hB2
 replace hB2:=Lib.hid hB2
 go_wp2_with fail
 refine (AwThree.awake w2).mono ?_
 rintro e w3 ⟨rfl,hB3⟩
 replace hB3:=Lib.hid (hB2.out.trans (hB3.mono hB2.out.size))
 clear hc2
 go_wp2_with fail
 refine (AwFour.awake w3).mono ?_
 rintro e w4 ⟨rfl,hB4⟩
 replace hB4:=Lib.hid (hB3.out.trans (hB4.mono hB3.out.size))
 have hc4:=hcell.out w4 hB4.out
 have hl4:=Lib.hid (hlen.out w4 hB4.out)
 have hn4:=Lib.hid (hnow.out w4 hB4.out)
 clear c0 c1 c2
 go_wp2_with (first
  | (go_at_call 139; refine hl4.out.mono ?_; rintro e w' ⟨rfl,rfl⟩)
  | (go_at_call 29; refine hn4.out.mono ?_; rintro e w5 ⟨rfl,hB5⟩
     replace hB5:=Lib.hid (hB.out.trans ((hB4.out.trans (hB5.mono hB4.out.size)).mono hB.out.size))))
 go_ret
 exact ⟨rfl,hB5.out⟩
/-! ### names-/
end Go.Proofs.YtpobbnllcoabhaaGreatDoor.LawFive
namespace Go.Proofs.YtpobbnllcoabhaaGreatDoor.LawSix
open Go Go.RowKit Hp K Fl Rw Hm Ar Mm Me
set_option maxRecDepth 100000
def MadeP (w:World) (n k:Nat) (M:Mo) (w':World):Prop:=
 MemAt w' M∧(∀ x,mfoot M x→w.heap.size≤x)∧Below w.heap.size w w'∧M.xs=1::List.replicate (k+2) 0∧M.ss=List.replicate n .zero∧M.F=false∧M.hs=List.replicate 6 (-1)∧M.k=k∧M.ds=[(1,k+2)]∧M.ws=[]
theorem made_yes (n k:Nat) (w:World) (hn:1≤n∧n≤1024) (hk:1≤k∧k≤8):Calls Tryz.prog 4 #[.int .i64 n,.int .i64 k] w fun e w'=>∃ M,e=.returned (ptr M.m)∧MadeP w n k M w':=by
 have hN:=Lib.hid (mem_yes n k w hn hk)
 go_enter Tryz.func4,Tryz.ntmps4
 go_wp2_with fail
 refine hN.out.mono ?_
 rintro e w1 ⟨M,rfl,hM⟩
 obtain ⟨c0,c1,c2,_⟩:=hM.1.hd
 replace hM:=Lib.hid hM
 clear hN
 go_wp2_with fail
 go_ret
 exact ⟨M,rfl,hM.out⟩
end Go.Proofs.YtpobbnllcoabhaaGreatDoor.LawSix
namespace Go.Proofs.YtpobbnllcoabhaaGreatDoor.Ta
open Go Go.RowKit Hp K Fl Rw Hm Ar Mm Me
set_option maxRecDepth 100000
theorem mrH (a:Addr) (w:World) (f:Nat):(method (f+1) 160 (.pointer (some a)) "Ready").run Tryz.prog w=.ok (88,.pointer (some a)) w:=by kernel_rfl
theorem msH (a:Addr) (w:World) (f:Nat):(method (f+1) 160 (.pointer (some a)) "Step").run Tryz.prog w=.ok (121,.pointer (some a)) w:=by kernel_rfl
theorem erH (args:Array Value) (w:World):(callFunc 88 args).run Tryz.prog w=.ok (.enter 88 args) w:=by kernel_rfl
theorem esH (args:Array Value) (w:World):(callFunc 121 args).run Tryz.prog w=.ok (.enter 121 args) w:=by kernel_rfl
def lready (ds:List (Nat×Nat)) (s:List Int×Ho):Bool:=if s.2.nx=2 then decide (Lo.hol s.1 (lkn s.2.sum (tab ds s.2.num))= -1) else true
def lstep (xs:List Int) (ds:List (Nat×Nat)) (s:List Int×Ho):List Int×Ho:=
 if s.2.nx=1 then (s.1,{s.2 with nx:=2,num:=(Cl.nth xs 1).toNat})
 else if s.2.nx=2 then (s.1.set (lkn s.2.sum (tab ds s.2.num)) s.2.worker,{s.2 with nx:=3,d:=tab ds s.2.num,lock:=lkn s.2.sum (tab ds s.2.num)})
 else if s.2.nx=3 then (if Cl.nth xs 1=s.2.num then (s.1,{s.2 with nx:=5,holds:=true}) else (s.1,{s.2 with nx:=4}))
 else if s.2.nx=4 then (s.1.set s.2.lock (-1),{s.2 with nx:=1})
 else s
def ldone (xs:List Int) (s:List Int×Ho):Bool:=decide (s.2.nx=3∧Cl.nth xs 1=s.2.num∨5≤s.2.nx)
theorem hready_eq (M:Mo) (H:Ho):hready M H=lready M.ds (M.hs,H):=rfl
theorem hdone_eq (M:Mo) (H:Ho):hdone M H=ldone M.xs (M.hs,H):=rfl
theorem hstep_eq (M:Mo) (H:Ho):hstep M H=({M with hs:=(lstep M.xs M.ds (M.hs,H)).1},(lstep M.xs M.ds (M.hs,H)).2):=by
 unfold hstep lstep
 by_cases e1:H.nx=1
 · simp [e1]
 · by_cases e2:H.nx=2
   · simp [e2]
   · by_cases e3:H.nx=3
     · by_cases he:Cl.nth M.xs 1=H.num<;>simp [e3,he]
     · by_cases e4:H.nx=4
       · simp [e4]
       · simp [e1,e2,e3,e4]
theorem hol_set {hs:List Int} {j:Nat} (hj:j<hs.length) (v:Int) (i:Nat):Lo.hol (hs.set j v) i=if i=j then v else Lo.hol hs i:=by
 unfold Lo.hol List.getD
 rw [List.getElem?_set]
 by_cases e:j=i
 · subst e; simp [hj]
 · rw [if_neg e,if_neg (fun q=>e q.symm)]
structure Okl (xs:List Int) (ds:List (Nat×Nat)) (s:List Int×Ho):Prop where
 sum:0≤s.2.sum∧s.2.sum<4294967296
 wk:0≤s.2.worker∧s.2.worker≤9223372036854775807
 hl:4<s.1.length
 xl:1<xs.length
 num:s.2.num≤18446744073709551615
 x1:0≤Cl.nth xs 1∧Cl.nth xs 1≤18446744073709551615
 dn:∀ i,(tab ds i).1≤65536
 nx:1≤s.2.nx
 own:(s.2.nx=3∨s.2.nx=4∨s.2.holds=true)→s.2.lock<s.1.length∧Lo.hol s.1 s.2.lock=s.2.worker
 hol:s.2.holds=true→5≤s.2.nx
section
variable {w w':World} {M:Mo} {H:Ho}
theorem Okl.step {xs:List Int} {ds:List (Nat×Nat)} {s:List Int×Ho} (h:Okl xs ds s) (hr:lready ds s=true) (hd:ldone xs s=false):Okl xs ds (lstep xs ds s):=by
 obtain ⟨hs,H⟩:=s
 obtain ⟨h1,h2,h3,h4,h5,h6,h7,h8,h9,h10⟩:=h
 simp only at h1 h2 h3 h4 h5 h6 h7 h8 h9 h10
 unfold lstep
 unfold ldone at hd
 simp only at hd ⊢
 by_cases e1:H.nx=1
 · rw [if_pos e1]
   exact ⟨h1,h2,h3,h4,by simp only; omega,h6,h7,by simp,by
    rintro (q | q | q)
    · simp at q
    · simp at q
    · have:=h10 q; omega,fun q=>by have:=h10 q; omega⟩
 · by_cases e2:H.nx=2
   · rw [if_neg e1,if_pos e2]
     have hk:=lkn_bd (tab ds H.num) h1.1
     refine ⟨h1,h2,by simpa using h3,h4,h5,h6,h7,by simp,fun _=>⟨by simp; omega,?_⟩,fun q=>by have:=h10 q; omega⟩
     rw [hol_set (by omega),if_pos rfl]
   · by_cases e3:H.nx=3
     · by_cases he:Cl.nth xs 1=H.num
       · simp [e3,he] at hd
       · rw [if_neg e1,if_neg e2,if_pos e3,if_neg he]
         refine ⟨h1,h2,h3,h4,h5,h6,h7,by simp,fun _=>h9 (.inl e3),fun q=>by have:=h10 q; omega⟩
     · by_cases e4:H.nx=4
       · rw [if_neg e1,if_neg e2,if_neg e3,if_pos e4]
         refine ⟨h1,h2,by simpa using h3,h4,h5,h6,h7,by simp,?_,fun q=>by have:=h10 q; omega⟩
         rintro (q | q | q)
         · simp at q
         · simp at q
         · have:=h10 q; omega
       · simp at hd; omega
theorem Okl.okh {s:List Int×Ho} (h:Okl M.xs M.ds s):Okh {M with hs:=s.1} s.2:=⟨h.sum,h.wk,h.hl,h.xl,h.num,h.dn _⟩
def InvT (w0:World) (M:Mo) (s:List Int×Ho) (w:World):Prop:=MemAt w {M with hs:=s.1}∧HoAt w s.2∧s.2.f=H.f∧Only (fun x=>mfoot M x∨x=H.f) w0 w
theorem lstep_f {xs:List Int} {ds:List (Nat×Nat)} (s:List Int×Ho):(lstep xs ds s).2.f=s.2.f:=by
 unfold lstep
 split
 · rfl
 split
 · rfl
 split
 · split<;>rfl
 split<;>rfl
theorem finish_hold (hM:MemAt w M) (hH:HoAt w H) (ok:Okl M.xs M.ds (M.hs,H)) (K:Nat) (hK:K≤1000000):
 Calls Tryz.prog 9 #[ptr M.m,.iface 160 (ptr H.f),.int .i64 K] w fun e w'=>e=.returned (.tuple #[.int .i64 (fin (lready M.ds) (lstep M.xs M.ds) (ldone M.xs) K (M.hs,H)).1,.bool (fin (lready M.ds) (lstep M.xs M.ds) (ldone M.xs) K (M.hs,H)).2.1])∧
  InvT (H:=H) w M (fin (lready M.ds) (lstep M.xs M.ds) (ldone M.xs) K (M.hs,H)).2.2 w':=by
 refine finish_gen 160 88 121 H.f (ptr M.m) (InvT (H:=H) w M) (fun s=>Okl M.xs M.ds s) (lready M.ds) (lstep M.xs M.ds) (ldone M.xs) (mrH _) (msH _) erH esH ?_ ?_ ?_ K hK (M.hs,H) ok w ⟨hM,hH,rfl,Only.refl _ _⟩
 · rintro s w1 ⟨h1,h2,h3,h4⟩ ok
   rw [← h3]
   exact (hold_ready h1 h2 ok.okh).mono fun e w' h=>⟨h.1,h1.below h.2,h2.below h.2,h3,h4.below h.2⟩
 · rintro s w1 ⟨h1,h2,h3,h4⟩ ok hr
   rw [← h3]
   refine (hold_step h1 h2 ok.okh ok.own ok.nx hr).mono fun e w' h=>⟨h.1,?_⟩
   obtain ⟨q1,q2,q3⟩:=h.2
   rw [hstep_eq] at q1 q2
   exact ⟨q1,q2,(lstep_f s).trans h3,h4.trans (h3▸q3)⟩
 · intro s ok hr hd
   exact ok.step hr hd
end
end Go.Proofs.YtpobbnllcoabhaaGreatDoor.Ta
namespace Go.Proofs.YtpobbnllcoabhaaGreatDoor.Pu
open Go Go.RowKit Hp K Fl Rw Hm Ar Mm Me Wk Ta Pn Pc
set_option maxRecDepth 100000
structure Sk where
 key:ByteArray
 sum:Int
 ph:Nat
 H:Ho
 cell:Int
 W:Wa
structure Sa where
 f:Nat
 w:Nat
def srv (ph h b:Nat):Value:=if ph=1 then wfm 88 (ptr h) else wfm 123 (ptr b)
def snv (ph f b:Nat):Value:=if ph=1 then wfm 89 (ptr f) else wfm 124 (ptr b)
def skc (a:Sa) (S:Sk):Array Value:=#[.int .u32 S.sum,.string S.key,srv S.ph S.H.f a.w,snv S.ph a.f a.w,ptr S.H.f,.int .i64 S.cell,ptr a.w]
abbrev Sk.wa (S:Sk) (b:Nat):Wa:={S.W with f:=b}
def SkAt (w:World) (a:Sa) (S:Sk):Prop:=Blk w a.f 163 (skc a S)∧HoAt w S.H∧WaAt w (S.wa a.w)
def sfoot (a:Sa) (S:Sk) (x:Nat):Prop:=x=a.f∨x=S.H.f∨x=a.w
abbrev skTypes:List TypeId:=[163,181,166]
abbrev skL:Lay Sa Sk:=⟨Sa.f,SkAt,sfoot⟩
section
variable {w w':World} {M:Mo} {a:Sa} {S:Sk}
theorem SkAt.ty (h:SkAt w a S) {x:Nat} (hx:sfoot a S x):Ty w x skTypes:=by
 obtain ⟨h1,h2,h3⟩:=h
 rcases hx with rfl | rfl | rfl
 · exact (blk_ty h1).mono (by simp)
 · exact (blk_ty h2).mono (by simp)
 · exact (blk_ty h3).mono (by simp)
theorem SkAt.lt (h:SkAt w a S) {x:Nat} (hx:sfoot a S x):x<w.heap.size:=(h.ty hx).lt
theorem SkAt.far (h:SkAt w a S) (hM:MemAt w M) {x:Nat} (hx:sfoot a S x):¬mfoot M x:=fun hm=>(hM.ty hm).apart (h.ty hx) (by decide)
theorem SkAt.only {T:Nat→Prop} (h:SkAt w a S) (ho:Only T w w') (hn:∀ x,sfoot a S x→¬T x):SkAt w' a S:=
 ⟨h.1.only ho (hn _ (.inl rfl)),h.2.1.only ho (hn _ (.inr (.inl rfl))),h.2.2.only ho (hn _ (.inr (.inr rfl)))⟩
theorem SkAt.below (h:SkAt w a S) (hb:Below w.heap.size w w'):SkAt w' a S:=h.only (Only.ofBelow hb (fun _=>False)) (by simp)
theorem SkAt.hd (h:SkAt w a S):w.cell? ⟨a.f,0,none⟩=some (.int .u32 S.sum)∧w.cell? ⟨a.f,1,none⟩=some (.string S.key)∧w.cell? ⟨a.f,2,none⟩=some (srv S.ph S.H.f a.w)∧w.cell? ⟨a.f,3,none⟩=some (snv S.ph a.f a.w)∧
 w.cell? ⟨a.f,4,none⟩=some (ptr S.H.f)∧w.cell? ⟨a.f,5,none⟩=some (.int .i64 S.cell)∧w.cell? ⟨a.f,6,none⟩=some (ptr a.w):=
 ⟨h.1.cell 0,h.1.cell 1,h.1.cell 2,h.1.cell 3,h.1.cell 4,h.1.cell 5,h.1.cell 6⟩
theorem SkAt.apart (h:SkAt w a S):a.f≠S.H.f∧a.f≠a.w∧S.H.f≠a.w:=by
 obtain ⟨h1,h2,h3⟩:=h
 exact ⟨h1.differ h2 (by decide),h1.differ h3 (by decide),Blk.differ h2 h3 (by decide)⟩
theorem SkAt.held {H':Ho} (h:SkAt w a S) (hM:MemAt w M) (hH:HoAt w' H') (hf:H'.f=S.H.f) (ho:Only (fun x=>mfoot M x∨x=S.H.f) w w'):SkAt w' a {S with H:=H'}:=by
 have ha:=h.apart
 refine ⟨?_,hH,h.2.2.only ho ?_⟩
 · have:=h.1.only ho (by
    rintro (q | q)
    · exact h.far hM (.inl rfl) q
    · exact ha.1 q)
   unfold skc at this ⊢
   simp only [hf]
   exact this
 · rintro (q | q)
   · exact h.far hM (.inr (.inr rfl)) q
   · exact ha.2.2 q.symm
theorem SkAt.walked {W':Wa} (h:SkAt w a S) (hM:MemAt w M) (hW:WaAt w' {W' with f:=a.w}) (ho:Only (fun x=>mfoot M x∨x=a.w) w w'):SkAt w' a {S with W:=W'}:=by
 have ha:=h.apart
 refine ⟨h.1.only ho ?_,h.2.1.only ho ?_,hW⟩
 · rintro (q | q)
   · exact h.far hM (.inl rfl) q
   · exact ha.2.1 q
 · rintro (q | q)
   · exact h.far hM (.inr (.inl rfl)) q
   · exact ha.2.2 q
theorem bucketed_any (h:SkAt w a S):Calls Tryz.prog 92 #[ptr a.f] w fun e w'=>e=.returned (.bool (decide (S.cell≠ -1)))∧w=w':=by
 have c:=h.hd.2.2.2.2.2.1
 have ec:(S.cell != -1)=decide (S.cell≠ -1):=by rw [Bool.eq_iff_iff]; simp
 clear h
 generalize decide (S.cell≠ -1)=b at*
 replace ec:=Lib.hid ec
 go_enter Tryz.func92,Tryz.ntmps92
 go_wp2
 go_ret
 exact ⟨by rw [ec.out]; rfl,rfl⟩
theorem found_walk (h:SkAt w a S):Calls Tryz.prog 66 #[ptr a.w] w fun e w'=>e=.returned (.tuple #[.int .u64 S.W.found,ndv S.W.nd,.bool (decide (S.W.found≠0))])∧Below w.heap.size w w':=by
 have q:=found_any h.2.2
 have e1:(S.wa a.w).found=S.W.found:=rfl
 have e2:(S.wa a.w).nd=S.W.nd:=rfl
 have e3:(S.wa a.w).f=a.w:=rfl
 rw [e1,e2,e3] at q
 exact q
theorem found_sk (h:SkAt w a S):Calls Tryz.prog 69 #[ptr a.f] w fun e w'=>e=.returned (.tuple #[.int .u64 S.W.found,ndv S.W.nd,.bool (decide (S.W.found≠0))])∧Below w.heap.size w w':=by
 have c:=h.hd.2.2.2.2.2.2
 have nf:=World.new_ne w ⟨a.f,6,none⟩ c
 obtain ⟨w1,hw1⟩:∃ w1,w1=w.alloc (.cells #[.string ⟨#[]⟩,.string ⟨#[]⟩,.int .u32 0,.int .u64 0] 139):=⟨_,rfl⟩
 have hF1:Blk w1 w.heap.size 139 #[.string ⟨#[]⟩,.string ⟨#[]⟩,.int .u32 0,.int .u64 0]:=by rw [hw1]; exact Blk.made w _ _
 have hb1:Below w.heap.size w w1:=by rw [hw1]; exact (Below.refl _ _).alloc (Nat.le_refl _) _
 have h1:=h.below hb1
 have c1:=h1.hd.2.2.2.2.2.2
 have hR:=found_walk h1
 unfold ndv at hR ⊢
 generalize decide (S.W.found≠0)=b at*
 generalize S.W.found=x at*
 generalize S.W.nd=n at*
 obtain ⟨nk,nv,ns,nn⟩:=n
 simp only at hR ⊢
 obtain ⟨hb0,hh0⟩:∃ hb0,hb0=w.heap.size:=⟨_,rfl⟩
 rw [← hh0] at hF1
 have hge:=Lib.hid (Nat.le_of_eq hh0.symm)
 have hsz:=Lib.hid hb1.size
 replace hR:=Lib.hid hR
 replace hF1:=Lib.hid hF1
 replace hb1:=Lib.hid hb1
 clear h h1
 go_enter Tryz.func69,Tryz.ntmps69
 go_upto_region 1 with (fail)
 rw [← hw1,← hh0]
 clear c nf hw1 hh0
 go_wp2_with fail
 refine hR.out.mono ?_
 rintro e w2 ⟨rfl,hb2⟩
 have hF2:=hF1.out.only (Only.ofBelow hb2 (fun _=>False)) (by simp)
 have f0:=hF2.cell 0
 have f1:=hF2.cell 1
 have f2:=hF2.cell 2
 have f3:=hF2.cell 3
 simp at f0 f1 f2 f3
 have z0:=hF2.frozen 0
 have z1:=hF2.frozen 1
 have z2:=hF2.frozen 2
 have z3:=hF2.frozen 3
 have lb:=hF2.lt
 have hB4:=Lib.hid (((((hb1.out.trans (hb2.mono hsz.out)).setCell (p:=⟨hb0,0,none⟩) hge.out (.string nk)).setCell (p:=⟨hb0,1,none⟩) hge.out (.string nv)).setCell (p:=⟨hb0,2,none⟩) hge.out (.int .u32 ns)).setCell (p:=⟨hb0,3,none⟩) hge.out (.int .u64 nn))
 clear hR c1 hb2
 go_wp2_with fail
 exact bodyPost_ret (v:=.tuple #[.int .u64 x,.agg #[.string nk,.string nv,.int .u32 ns,.int .u64 nn],.bool b]) (by simp [results,Tryz.results69,go_sem,f0,f1,f2,f3]) rfl ⟨rfl,hB4.out⟩
theorem first_sk (h:SkAt w a S):Calls Tryz.prog 155 #[ptr a.f] w fun e w'=>e=.returned (.int .u64 S.W.first)∧w=w':=by
 have c:=h.hd.2.2.2.2.2.2
 have hR:=Lib.hid (first_any h.2.2)
 clear h
 go_enter Tryz.func155,Tryz.ntmps155
 go_wp2_with fail
 refine hR.out.mono ?_
 rintro e w' ⟨rfl,rfl⟩
 go_wp2_with fail
 go_ret
 exact ⟨rfl,rfl⟩
end
set_option maxHeartbeats 1000000 in
theorem walkFrom_any {w:World} {f:Nat} {s:Int} {key:ByteArray} {cs:Array Value} (hB:Blk w f 163 cs) (c0:cs[0]?=some (.int .u32 s)) (c1:cs[1]?=some (.string key)) (hz:cs.size=7) (c:Int):
 Calls Tryz.prog 87 #[ptr f,.int .i64 c] w fun e w'=>e=.returned (.tuple #[])∧∃ b,w.heap.size≤b∧Blk w' f 163 ((cs.setIfInBounds 5 (.int .i64 c)).setIfInBounds 6 (ptr b))∧WaAt w' (new b c s key)∧Only (·=f) w w':=by
 have hN:=Lib.hid (fun n=>Wk.new_any c s key (w.drewN n))
 have d0:=(hB.cell 0).trans c0
 have d2:=(hB.cell 1).trans c1
 have lf:=hB.lt
 have d6:=hB.cell 5
 have d7:=hB.cell 6
 rw [Array.getElem?_eq_getElem (by omega)] at d6 d7
 generalize cs[5]'(by omega)=u6 at*
 generalize cs[6]'(by omega)=u7 at*
 have HB:=Lib.hid hB
 clear hB c0 c1
 go_enter Tryz.func87,Tryz.ntmps87
 go_wp2_with fail
 go_region_held3 (fun w'=>w'.cell? ⟨f,0,none⟩=some (.int .u32 s)∧w'.cell? ⟨f,1,none⟩=some (.string key)) ((go_split_ands; (refine ⟨?_,?_⟩<;>simp [World.cell?_setCell_other, *])))
  (first
    | (go_at_call 83
       refine (hN.out 1).mono ?_
       rintro e w2 ⟨rfl,h2,hb2⟩
       have hbx:Below w.heap.size w w2:=(show Below w.heap.size w (w.drewN 1) from ⟨rfl,rfl,rfl,Nat.le_refl _,fun _ _=>rfl⟩).trans hb2
       have e0:=(hbx.cell (p:=⟨f,0,none⟩) lf).trans d0
       have e2:=(hbx.cell (p:=⟨f,1,none⟩) lf).trans d2
       have e6:=(hbx.cell (p:=⟨f,5,none⟩) lf).trans d6
       have e7:=(hbx.cell (p:=⟨f,6,none⟩) lf).trans d7
       have hB2:=HB.out.only (Only.ofBelow hbx (fun _=>False)) (by simp)
       have y6:=hB2.frozen 5
       have y7:=hB2.frozen 6
       have hS2:=Lib.hid ((hB2.store 5 (.int .i64 c)).store 6 (ptr w.heap.size))
       have hd:=hB2.differ h2 (by decide)
       have hO2:=(((Only.ofBelow hbx (·=f)).setCell (p:=⟨f,5,none⟩) (.inl rfl) (.int .i64 c)).setCell (p:=⟨f,6,none⟩) (.inl rfl) (ptr w.heap.size))
       have hW2:Hid (WaAt ((w2.setCell ⟨f,5,none⟩ (.int .i64 c)).setCell ⟨f,6,none⟩ (ptr w.heap.size)) (new w.heap.size c s key)):=Lib.hid (Blk.far (Blk.far h2 (p:=⟨f,5,none⟩) (fun e=>hd e.symm) _) (p:=⟨f,6,none⟩) (fun e=>hd e.symm) _)
       replace hO2:=Lib.hid hO2
       clear h2 hb2 hB2 hbx hd))
 all_goals
  go_wp2_with fail
  go_end0
  exact ⟨rfl,_,Nat.le_refl _,hS2.out,hW2.out,hO2.out⟩
end Go.Proofs.YtpobbnllcoabhaaGreatDoor.Pu
namespace Go.Proofs.YtpobbnllcoabhaaGreatDoor.Pu
open Go Go.RowKit Hp K Fl Rw Hm Ar Mm Me Wk Ta Pn Pc
set_option maxRecDepth 100000
def pcell (s:Int) (H:Ho):Int:=Gt.cellOf s (if H.holds=true then H.d else (0,0))
def sstep (L:Lm) (S:Sk):Lm×Sk:=
 if S.ph=1 then ({L with hs:=(lstep L.xs L.ds (L.hs,S.H)).1},if ldone L.xs (L.hs,S.H)=true then {S with H:=(lstep L.xs L.ds (L.hs,S.H)).2,cell:=pcell S.sum (lstep L.xs L.ds (L.hs,S.H)).2,W:=new 0 (pcell S.sum (lstep L.xs L.ds (L.hs,S.H)).2) S.sum S.key,ph:=2} else {S with H:=(lstep L.xs L.ds (L.hs,S.H)).2})
 else ({L with F:=(Wk.gstep L.xs L.ss (L.F,S.W)).1},{S with W:=(Wk.gstep L.xs L.ss (L.F,S.W)).2})
def sready (L:Lm) (S:Sk):Bool:=if S.ph=1 then lready L.ds (L.hs,S.H) else true
def sdone (L:Lm) (S:Sk):Bool:=if S.ph=1 then false else Wk.gdone L.xs L.ss (L.F,S.W)
structure Oks (r:Nat) (L:Lm) (S:Sk):Prop where
 sum:0≤S.sum∧S.sum<4294967296
 hd:S.ph=1→Okl L.xs L.ds (L.hs,S.H)
 desc:S.ph=1→S.H.d.1≤65536∧S.H.d.2≤4000000
 wa:S.ph≠1→Okw (r+1) S.W
 nexts:Nexts L.ss
 tb:∀ i,(tab L.ds i).1≤65536∧(tab L.ds i).2≤4000000
abbrev SStp (w:World) (M:Mo) (a:Sa) (S:Sk) (L':Lm) (S':Sk) (w':World):Prop:=skL.Stp w M a S L' S' w'
def newSk (h:Nat) (k s:Int) (key:ByteArray):Sk:=⟨key,s,1,⟨h,k,s,1,0,(0,0),0,false⟩, -1,new 0 (-1) s key⟩
section
variable {w w':World} {M:Mo} {a:Sa} {S:Sk}
set_option maxHeartbeats 1000000 in
theorem cellIn_any {f:Nat} {s:Int} (lf:f<w.heap.size) (c2:w.cell? ⟨f,0,none⟩=some (.int .u32 s)) (d:Nat×Nat) (hd:d.1≤65536∧d.2≤4000000) (hs:0≤s∧s<4294967296):
 Calls Tryz.prog 122 #[ptr f,dv d] w fun e w'=>e=.returned (.int .i64 (Gt.cellOf s d))∧Below w.heap.size w w':=by
 have hb:=bucket_bd s d.1 hs.1
 unfold Gt.cellOf dv
 by_cases h0:d.1=0
 · rw [if_pos h0,h0]
   clear c2 hb h0
   go_enter Tryz.func122,Tryz.ntmps122
   go_wp2_with fail
   go_ret
   exact ⟨rfl,(Below.refl _ _).alloc (Nat.le_refl _) _⟩
 · rw [if_neg h0]
   have hB:=Lib.hid (fun w'=>Fnv.bucket_any s d.1 w' hs.1 hs.2 (by omega) (by omega))
   have e0:((d.1:Int)==0)=false:=by simp; omega
   generalize FM.bucket s d.1=b at*
   generalize d.1=d1 at*
   generalize d.2=d2 at*
   have e1:IntKind.i64.wrap ((d2:Int)+b)=d2+b:=IntWalk.i64_in _ (by omega)
   have nf:=World.new_ne w ⟨f,0,none⟩ c2
   clear h0
   go_enter Tryz.func122,Tryz.ntmps122
   go_wp2_with fail
   go_quiet ((go_at_call 150; exact Calls.quiet_of_same ((hB.out _).mono fun _ _ h=>⟨h.1,h.2⟩)))
   go_wp2_with fail
   go_ret
   exact ⟨rfl,((Below.refl _ _).alloc (Nat.le_refl _) _).trans ⟨rfl,rfl,rfl,by simp,fun _ _=>rfl⟩⟩
theorem hold_lists (hM:MemAt w M) (h:SkAt w a S) (hl:Okl M.xs M.ds (M.hs,S.H)) (hr:lready M.ds (M.hs,S.H)=true):
 Calls Tryz.prog 121 #[ptr S.H.f,ptr M.m] w fun e w'=>e=.returned (.bool (ldone M.xs (M.hs,S.H)))∧MemAt w' {M with hs:=(lstep M.xs M.ds (M.hs,S.H)).1}∧SkAt w' a {S with H:=(lstep M.xs M.ds (M.hs,S.H)).2}∧Only (fun x=>mfoot M x∨sfoot a S x) w w':=by
 have q:=hold_step hM h.2.1 hl.okh hl.own hl.nx hr
 rw [hstep_eq,hdone_eq] at q
 exact q.mono fun e w' q=>⟨q.1,q.2.1,h.held hM q.2.2.1 (lstep_f _) q.2.2.2,q.2.2.2.mono fun x _ y=>y.imp id fun e=>.inr (.inl e)⟩
theorem sfoot_to {S':Sk} {a':Sa} (ef:a'.f=a.f) (eH:S'.H.f=S.H.f) {n:Nat} (ew:a'.w=a.w∨n≤a'.w) (x:Nat) (q:sfoot a' S' x):sfoot a S x∨n≤x:=by
 rcases q with q | q | q
 · exact .inl (.inl (q.trans ef))
 · exact .inl (.inr (.inl (q.trans eH)))
 · rcases ew with ew | ew
   · exact .inl (.inr (.inr (q.trans ew)))
   · exact .inr (by omega)
set_option maxHeartbeats 1000000 in
theorem holdBucket_any (hM:MemAt w M) (h:SkAt w a S) (hl:Okl M.xs M.ds (M.hs,S.H)) (hd:(lstep M.xs M.ds (M.hs,S.H)).2.d.1≤65536∧(lstep M.xs M.ds (M.hs,S.H)).2.d.2≤4000000) (hs:0≤S.sum∧S.sum<4294967296) (hr:lready M.ds (M.hs,S.H)=true) (h1:S.ph=1):
 Calls Tryz.prog 89 #[ptr a.f,ptr M.m] w fun e w'=>e=.returned (.bool false)∧SStp w M a S (sstep (lm M) S).1 (sstep (lm M) S).2 w':=by
 have hS:=hold_lists hM h hl hr
 have hf:=lstep_f (xs:=M.xs) (ds:=M.ds) (M.hs,S.H)
 have c5:=h.hd.2.2.2.2.1
 unfold sstep
 rw [if_pos h1]
 simp only
 cases hdn:ldone M.xs (M.hs,S.H) with
 | false=>
   rw [hdn] at hS
   rw [if_neg (by simp)]
   generalize lstep M.xs M.ds (M.hs,S.H)=z at*
   obtain ⟨hs',H'⟩:=z
   simp only at hS hf ⊢
   replace hS:=Lib.hid hS
   replace hf:=Lib.hid hf
   clear hdn h hM hl hr h1 hs hd
   go_enter Tryz.func89,Tryz.ntmps89
   go_wp2_with fail
   refine hS.out.mono ?_
   rintro e w1 ⟨rfl,hM1,hP1,hO1⟩
   replace hM1:=Lib.hid hM1
   replace hP1:=Lib.hid hP1
   replace hO1:=Lib.hid hO1
   clear hS c5
   go_wp2_with fail
   go_ret
   exact ⟨rfl,_,a,hM1.out,rfl,⟨rfl,rfl,rfl,rfl,fun _ q=>.inl q⟩,hP1.out,rfl,sfoot_to rfl hf.out (.inl rfl),hO1.out⟩
 | true=>
   rw [hdn] at hS
   rw [if_pos rfl]
   generalize lstep M.xs M.ds (M.hs,S.H)=z at*
   obtain ⟨hs',H'⟩:=z
   simp only at hS hf hd ⊢
   have hdd:(if H'.holds=true then H'.d else (0,0)).1≤65536∧(if H'.holds=true then H'.d else (0,0)).2≤4000000:=by
    split
    · exact hd
    · simp
   obtain ⟨d,hde⟩:∃ d,d=if H'.holds=true then H'.d else (0,0):=⟨_,rfl⟩
   rw [← hde] at hdd
   have hc:pcell S.sum H'=Gt.cellOf S.sum d:=by unfold pcell; rw [hde]
   rw [hc]
   obtain ⟨c,hce⟩:∃ c,c=Gt.cellOf S.sum d:=⟨_,rfl⟩
   rw [← hce]
   replace hS:=Lib.hid hS
   replace hf:=Lib.hid hf
   replace hce:=Lib.hid hce
   replace hde:=Lib.hid hde
   clear hdn h hM hl hr hd hc
   replace h1:=Lib.hid h1
   go_enter Tryz.func89,Tryz.ntmps89
   go_wp2_with fail
   refine hS.out.mono ?_
   rintro e w1 ⟨rfl,hM1,hP1,hO1⟩
   have k5:=hP1.hd.2.2.2.2.1
   simp only at k5
   have hD:=desc_of hP1.2.1
   simp only at hD
   rw [← hde.out] at hD
   unfold dv at hD
   replace hD:=Lib.hid hD
   replace hM1:=Lib.hid hM1
   replace hP1:=Lib.hid hP1
   replace hO1:=Lib.hid hO1
   clear hS c5
   go_wp2_with fail
   refine hD.out.mono ?_
   rintro e w2 ⟨rfl,hB2⟩
   have hP2:=hP1.out.below hB2
   have hM2:=hM1.out.below hB2
   have hC:=cellIn_any hP2.1.lt hP2.hd.1 d hdd hs
   rw [← hce.out] at hC
   unfold dv at hC
   have hO2:=hO1.out.below hB2
   replace hC:=Lib.hid hC
   replace hM2:=Lib.hid hM2
   replace hP2:=Lib.hid hP2
   replace hO2:=Lib.hid hO2
   clear hD hM1 hP1 hO1 hB2 k5
   go_wp2_with fail
   refine hC.out.mono ?_
   rintro e w3 ⟨rfl,hB3⟩
   have hP3:=hP2.out.below hB3
   have hM3:=hM2.out.below hB3
   have hO3:=hO2.out.below hB3
   have hW:=Lib.hid (walkFrom_any hP3.1 rfl rfl rfl c)
   replace hM3:=Lib.hid hM3
   replace hP3:=Lib.hid hP3
   replace hO3:=Lib.hid hO3
   clear hC hM2 hP2 hO2 hB3
   go_wp2_with fail
   refine hW.out.mono ?_
   rintro e w4 ⟨rfl,b,hb,hF4,hW4,hO4⟩
   have k3:=hF4.cell 2
   have k4:=hF4.cell 3
   have k6:=hF4.cell 6
   simp [skc] at k3 k4 k6
   have z3:=hF4.frozen 2
   have z4:=hF4.frozen 3
   have hS4:=(hF4.store 2 (wfm 123 (ptr b))).store 3 (wfm 124 (ptr b))
   have ap3:=hP3.out.apart
   have hO5:=(((Only.refl (·=a.f) w4).setCell (p:=⟨a.f,2,none⟩) (.inl rfl) (wfm 123 (ptr b))).setCell (p:=⟨a.f,3,none⟩) (.inl rfl) (wfm 124 (ptr b)))
   have hO45:=hO4.trans hO5
   have hd4:=hF4.differ hW4 (by decide)
   have far3:=hP3.out.far hM3.out (.inl rfl)
   have hE:SkAt ((w4.setCell ⟨a.f,2,none⟩ (wfm 123 (ptr b))).setCell ⟨a.f,3,none⟩ (wfm 124 (ptr b))) {a with w:=b} {S with H:=H',cell:=c,W:=new 0 c S.sum S.key,ph:=2}:=
    ⟨by simpa [skc,srv,snv] using hS4,hP3.out.2.1.only hO45 (fun e=>ap3.1 e.symm),hW4.only hO5 (fun e=>hd4 e.symm)⟩
   have hM5:=hM3.out.only hO45 (fun x hx q=>far3 (q▸hx))
   have hsz:=hO3.out.size
   have hO05:Only (fun x=>mfoot M x∨sfoot a S x) w _:=hO3.out.trans' hO45 (fun x _ q=>.inr (.inl q))
   have hbw:=Nat.le_trans hsz hb
   replace hE:=Lib.hid hE
   replace hM5:=Lib.hid hM5
   replace hO05:=Lib.hid hO05
   replace hbw:=Lib.hid hbw
   clear hW hM3 hP3 hO3 hF4 hW4 hO4 hS4 hO5 hO45 hd4 far3 ap3 hb hsz
   go_wp2_with fail
   go_region
   all_goals
    go_wp2_with fail
    go_ret
    have hdr:∀ w:World,Below w.heap.size w w.drew:=fun w=>⟨rfl,rfl,rfl,Nat.le_refl _,fun _ _=>rfl⟩
    exact ⟨rfl,_,_,hM5.out.below (hdr _),rfl,⟨rfl,rfl,rfl,rfl,fun _ q=>.inl q⟩,hE.out.below (hdr _),rfl,sfoot_to (a:=a) (a':={a with w:=b}) (S:=S) rfl hf.out (.inr hbw.out),hO05.out.below (hdr _)⟩
end
end Go.Proofs.YtpobbnllcoabhaaGreatDoor.Pu
namespace Go.Proofs.YtpobbnllcoabhaaGreatDoor.Pu
open Go Hm Ar Mm Me
def lnk (ss:List Sl) (x y:Nat):List Sl:=ss.set ((x-1) % 65536) {at' ss ((x-1) % 65536) with nd:={(at' ss ((x-1) % 65536)).nd with next:=(y:Int)}}
end Go.Proofs.YtpobbnllcoabhaaGreatDoor.Pu
namespace Go.Proofs.YtpobbnllcoabhaaGreatDoor.Pu
open Go Go.RowKit Hp K Fl Rw Hm Ar Mm Me Wk Ta Pn Pc
set_option maxRecDepth 100000
theorem lstep_desc {xs:List Int} {ds:List (Nat×Nat)} {s:List Int×Ho} (h:s.2.d.1≤65536∧s.2.d.2≤4000000) (ht:∀ i,(tab ds i).1≤65536∧(tab ds i).2≤4000000):(lstep xs ds s).2.d.1≤65536∧(lstep xs ds s).2.d.2≤4000000:=by
 unfold lstep
 split
 · exact h
 split
 · exact ht _
 split
 · split<;>exact h
 split<;>exact h
theorem sstep_fm {w:World} {F f:Nat} {cv m:Value} {c:Bool} {P:World→Prop} (c4:w.cell? ⟨f,3,none⟩=some (wfm F cv)) (eF:∀ args w,(callFunc F args).run Tryz.prog w=.ok (.enter F args) w)
 (hF:Calls Tryz.prog F #[cv,m] w fun e w'=>e=.returned (.bool c)∧P w'):Calls Tryz.prog 90 #[ptr f,m] w fun e w'=>e=.returned (.bool c)∧P w':=by
 replace hF:=Lib.hid hF
 go_enter Tryz.func90,Tryz.ntmps90
 go_wp2_with fail
 refine hF.out.mono ?_
 rintro e w' ⟨rfl,hPw⟩
 replace hPw:=Lib.hid hPw
 clear c4
 go_wp2_with fail
 go_ret
 exact ⟨rfl,hPw.out⟩
theorem sready_fm {w:World} {F f:Nat} {cv m:Value} {c:Bool} {P:World→Prop} (c3:w.cell? ⟨f,2,none⟩=some (wfm F cv)) (eF:∀ args w,(callFunc F args).run Tryz.prog w=.ok (.enter F args) w)
 (hF:Calls Tryz.prog F #[cv,m] w fun e w'=>e=.returned (.bool c)∧P w'):Calls Tryz.prog 243 #[ptr f,m] w fun e w'=>e=.returned (.bool c)∧P w':=by
 replace hF:=Lib.hid hF
 go_enter Tryz.func243,Tryz.ntmps243
 go_wp2_with fail
 refine hF.out.mono ?_
 rintro e w' ⟨rfl,hPw⟩
 replace hPw:=Lib.hid hPw
 clear c3
 go_wp2_with fail
 go_ret
 exact ⟨rfl,hPw.out⟩
theorem enters_hr (args:Array Value) (w:World):(callFunc 88 args).run Tryz.prog w=.ok (.enter 88 args) w:=by kernel_rfl
theorem enters_wr (args:Array Value) (w:World):(callFunc 123 args).run Tryz.prog w=.ok (.enter 123 args) w:=by kernel_rfl
theorem enters_ws (args:Array Value) (w:World):(callFunc 124 args).run Tryz.prog w=.ok (.enter 124 args) w:=by kernel_rfl
theorem enters_hb (args:Array Value) (w:World):(callFunc 89 args).run Tryz.prog w=.ok (.enter 89 args) w:=by kernel_rfl
section
variable {w w':World} {M:Mo} {a:Sa} {S:Sk}
theorem sk_ready (hM:MemAt w M) (h:SkAt w a S) (hl:S.ph=1→Okl M.xs M.ds (M.hs,S.H)):Calls Tryz.prog 243 #[ptr a.f,ptr M.m] w fun e w'=>e=.returned (.bool (sready (lm M) S))∧Below w.heap.size w w':=by
 have c3:=h.hd.2.2.1
 unfold srv at c3
 unfold sready
 split
 · rename_i h1
   rw [if_pos h1] at c3
   have:=hold_ready hM h.2.1 (hl h1).okh
   rw [hready_eq] at this
   exact sready_fm c3 enters_hr this
 · rename_i h1
   rw [if_neg h1] at c3
   exact sready_fm c3 enters_wr ((Wk.ready_any _ _ w).mono fun e w' q=>⟨q.1,q.2▸Below.refl _ _⟩)
theorem sk_step (hM:MemAt w M) (h:SkAt w a S) {r:Nat} (ok:Oks r (lm M) S) (hr:sready (lm M) S=true):
 Calls Tryz.prog 90 #[ptr a.f,ptr M.m] w fun e w'=>e=.returned (.bool (sdone (lm M) S))∧SStp w M a S (sstep (lm M) S).1 (sstep (lm M) S).2 w':=by
 have c4:=h.hd.2.2.2.1
 unfold snv at c4
 by_cases e1:S.ph=1
 · rw [if_pos e1] at c4
   have ed:sdone (lm M) S=false:=by unfold sdone; rw [if_pos e1]
   rw [ed]
   unfold sready at hr
   rw [if_pos e1] at hr
   exact sstep_fm c4 enters_hb (holdBucket_any hM h (ok.hd e1) (lstep_desc (ok.desc e1) ok.tb) ok.sum hr e1)
 · rw [if_neg e1] at c4
   have ed:sdone (lm M) S=Wk.gdone M.xs M.ss (M.F,S.W):=by unfold sdone; rw [if_neg e1]
   have es:sstep (lm M) S=({lm M with F:=(Wk.gstep M.xs M.ss (M.F,S.W)).1},{S with W:=(Wk.gstep M.xs M.ss (M.F,S.W)).2}):=by unfold sstep; rw [if_neg e1]
   rw [ed,es]
   have okw:=ok.wa e1
   have hS:=(walk_step hM h.2.2 ok.nexts (r:=r) ⟨okw.cell,okw.at_,okw.read,okw.nx⟩)
   rw [Gt.gdone_at,Gt.gstep_at] at hS
   refine sstep_fm c4 enters_ws (hS.mono fun e w' q=>⟨q.1,?_⟩)
   exact ⟨{M with F:=(Wk.gstep M.xs M.ss (M.F,S.W)).1},a,q.2.1,rfl,⟨rfl,rfl,rfl,rfl,fun _ y=>.inl y⟩,h.walked hM q.2.2.1 q.2.2.2,rfl,sfoot_to rfl rfl (.inl rfl),q.2.2.2.mono (fun x _ y=>y.imp id (fun e=>.inr (.inr e)))⟩
def slead (L:Lm) (S:Sk) (y:Nat):Lm:=if S.W.found≠0∧S.W.prev≠0 then {L with ss:=lnk L.ss S.W.prev y} else {L with xs:=L.xs.set S.cell.toNat y}
structure Okd (L:Lm) (S:Sk) (y:Nat):Prop where
 y:y≤18446744073709551615
 link:S.W.found≠0∧S.W.prev≠0→S.W.prev≤18446744073709551615∧∃ k,IsAt L.ss S.W.prev k
 cell:¬(S.W.found≠0∧S.W.prev≠0)→0≤S.cell∧S.cell<L.xs.length
def Led (w:World) (M:Mo) (a:Sa) (S:Sk) (L':Lm) (w':World):Prop:=∃ M',MemAt w' M'∧lm M'=L'∧Kin w M M'∧SkAt w' a S∧Only (mfoot M) w w'
set_option maxHeartbeats 2000000 in
theorem lead_link (hM:MemAt w M) (h:SkAt w a S) (hf:S.W.found≠0) (hp:S.W.prev≠0) (hb:S.W.prev≤18446744073709551615) {k:Nat} (hk:IsAt M.ss S.W.prev k) (y:Nat):
 Calls Tryz.prog 131 #[ptr a.f,ptr M.m,.int .u64 y] w fun e w'=>e=.returned (.tuple #[])∧Led w M a S (slead (lm M) S y) w':=by
 have hkk:(S.W.prev-1) % 65536=k:=(isAt_parts hM.2.2.2.1.room.2 hk).1
 have e:slead (lm M) S y={lm M with ss:=M.ss.set k {at' M.ss k with nd:={(at' M.ss k).nd with next:=(y:Int)}}}:=by
  unfold slead lnk
  rw [if_pos ⟨hf,hp⟩,hkk]
 rw [e]
 have hFd:=found_walk h
 rw [decide_eq_true hf] at hFd
 have hPv:∀ w1,Below w.heap.size w w1→Calls Tryz.prog 157 #[ptr a.w] w1 fun e w'=>e=.returned (.int .u64 S.W.prev)∧w1=w':=fun w1 hb1=>prev_any (h.below hb1).2.2
 have hA:=fun w1 (hb1:Below w.heap.size w w1)=>(link_ok (hM.below hb1).2.2.2.1 hb hk (y:Int)).mono fun e w2 q=>
  show e=.returned (.int .i64 0)∧Led w M a S {lm M with ss:=M.ss.set k {at' M.ss k with nd:={(at' M.ss k).nd with next:=(y:Int)}}} w2 from
   ⟨q.1,{M with ss:=M.ss.set k {at' M.ss k with nd:={(at' M.ss k).nd with next:=(y:Int)}}},(hM.below hb1).arena q.2.1 q.2.2,rfl,⟨rfl,rfl,rfl,rfl,fun _ y=>.inl y⟩,(h.below hb1).only q.2.2 (fun x hx q=>h.far hM hx (foot_arena _ q)),(Only.ofBelow hb1 _).trans (q.2.2.mono fun x _ q=>foot_arena _ q)⟩
 have bc:=Lib.hid (fun w1 (hb1:Below w.heap.size w w1)=>show w1.cell? ⟨a.f,6,none⟩=some (ptr a.w)∧w1.cell? ⟨M.m,2,none⟩=some (ptr M.ar) from
  ⟨(h.below hb1).hd.2.2.2.2.2.2,(hM.below hb1).hd.2.2.1⟩)
 have c7:=h.hd.2.2.2.2.2.2
 have e0:((S.W.prev:Int) != 0)=true:=by simp; omega
 have lf:=Lib.hid (fun w1 (hb1:Below w.heap.size w w1)=>(h.below hb1).1.lt)
 unfold ndv at hFd
 generalize {lm M with ss:=M.ss.set k {at' M.ss k with nd:={(at' M.ss k).nd with next:=(y:Int)}}}=L' at*
 generalize hxx:S.W.found=x at*
 generalize hyy:S.W.prev=pv at*
 generalize S.W.nd=n at*
 obtain ⟨nk,nv,ns,nn⟩:=n
 simp only at hFd
 replace hFd:=Lib.hid hFd
 replace hPv:=Lib.hid hPv
 replace hA:=Lib.hid hA
 clear hM h hf hp hb hk hkk e hxx hyy
 go_enter Tryz.func131,Tryz.ntmps131
 go_wp2_with fail
 refine hFd.out.mono ?_
 rintro e w1 ⟨rfl,hb1⟩
 obtain ⟨w2,hw2⟩:∃ w2,w2=w1.alloc (.cells #[.string nk,.string nv,.int .u32 ns,.int .u64 nn] 139):=⟨_,rfl⟩
 have hb2:Below w.heap.size w w2:=by rw [hw2]; exact hb1.alloc hb1.size _
 have k7:=(bc.out w1 hb1).1
 have lf1:=lf.out w1 hb1
 obtain ⟨j7,j2⟩:=bc.out w2 hb2
 have hP2:=Lib.hid (hPv.out w2 hb2)
 have hA2:=Lib.hid (hA.out w2 hb2)
 clear hb1 hb2 hFd hPv hA c7
 go_wp2_with fail
 rw [← hw2]
 clear hw2 k7
 refine hP2.out.mono ?_
 rintro e w3 ⟨rfl,rfl⟩
 clear hP2
 go_wp2_with fail
 refine hA2.out.mono ?_
 rintro e w3 ⟨rfl,hL⟩
 replace hL:=Lib.hid hL
 clear hA2
 go_wp2_with fail
 exact bodyPost_ret (v:=.tuple #[]) (by simp [results,Tryz.results131]) rfl ⟨rfl,hL.out⟩
set_option maxHeartbeats 2000000 in
theorem lead_store (hM:MemAt w M) (h:SkAt w a S) (hn:¬(S.W.found≠0∧S.W.prev≠0)) (hc:0≤S.cell∧S.cell<M.xs.length) (y:Nat) (hy:y≤18446744073709551615):
 Calls Tryz.prog 131 #[ptr a.f,ptr M.m,.int .u64 y] w fun e w'=>e=.returned (.tuple #[])∧Led w M a S (slead (lm M) S y) w':=by
 have e:slead (lm M) S y={lm M with xs:=M.xs.set S.cell.toNat (y:Int)}:=by
  unfold slead
  rw [if_neg hn]
 rw [e]
 obtain ⟨c,hcc⟩:=Int.eq_ofNat_of_zero_le hc.1
 have hFd:=found_walk h
 have hPv:∀ w1,Below w.heap.size w w1→Calls Tryz.prog 157 #[ptr a.w] w1 fun e w'=>e=.returned (.int .u64 S.W.prev)∧w1=w':=fun w1 hb1=>prev_any (h.below hb1).2.2
 have hA:=fun w1 (hb1:Below w.heap.size w w1)=>(Cl.store_in (hM.below hb1).2.1 c (by omega) (y:Int) (by omega) (by omega)).mono fun e w2 q=>
  show e=.returned (.int .i64 0)∧Led w M a S {lm M with xs:=M.xs.set c (y:Int)} w2 from
   ⟨q.1,{M with xs:=M.xs.set c (y:Int)},(hM.below hb1).cells q.2.1 q.2.2,rfl,⟨rfl,rfl,rfl,rfl,fun _ y=>.inl y⟩,(h.below hb1).only q.2.2 (fun x hx q=>h.far hM hx (foot_cells _ q)),(Only.ofBelow hb1 _).trans (q.2.2.mono fun x _ q=>foot_cells _ q)⟩
 have bc:=Lib.hid (fun w1 (hb1:Below w.heap.size w w1)=>show w1.cell? ⟨a.f,6,none⟩=some (ptr a.w)∧w1.cell? ⟨M.m,0,none⟩=some (ptr M.g)∧w1.cell? ⟨a.f,5,none⟩=some (.int .i64 (c:Int)) from
  ⟨(h.below hb1).hd.2.2.2.2.2.2,(hM.below hb1).hd.1,by rw [← hcc]; exact (h.below hb1).hd.2.2.2.2.2.1⟩)
 have c7:=h.hd.2.2.2.2.2.2
 have lf:=Lib.hid (fun w1 (hb1:Below w.heap.size w w1)=>(h.below hb1).1.lt)
 rw [hcc,Int.toNat_natCast]
 generalize {lm M with xs:=M.xs.set c (y:Int)}=L' at*
 unfold ndv at hFd
 have hfp:(S.W.found≠0∧S.W.prev=0)∨S.W.found=0:=by
  by_cases q:S.W.found=0
  · exact .inr q
  · exact .inl ⟨q,by by_cases q2:S.W.prev=0; exact q2; exact absurd ⟨q,q2⟩ hn⟩
 clear e hn hc
 rcases hfp with ⟨hf,hp⟩ | hf
 all_goals
  first
   | (rw [decide_eq_true hf] at hFd; rw [hp] at hPv)
   | rw [decide_eq_false (by simpa using hf)] at hFd
  generalize hxx:S.W.found=x at*
  generalize hyy:S.W.prev=pv at*
  generalize S.W.nd=n at*
  obtain ⟨nk,nv,ns,nn⟩:=n
  simp only at hFd
  replace hFd:=Lib.hid hFd
  replace hPv:=Lib.hid hPv
  replace hA:=Lib.hid hA
  replace hy:=Lib.hid hy
  replace hcc:=Lib.hid hcc
  try clear hp
  clear hM h hf hxx hyy
  go_enter Tryz.func131,Tryz.ntmps131
  go_wp2_with fail
  refine hFd.out.mono ?_
  rintro e w1 ⟨rfl,hb1⟩
  obtain ⟨w2,hw2⟩:∃ w2,w2=w1.alloc (.cells #[.string nk,.string nv,.int .u32 ns,.int .u64 nn] 139):=⟨_,rfl⟩
  have hb2:Below w.heap.size w w2:=by rw [hw2]; exact hb1.alloc hb1.size _
  have k7:=(bc.out w1 hb1).1
  have lf1:=lf.out w1 hb1
  obtain ⟨j7,j2,j5⟩:=bc.out w2 hb2
  have hP2:=Lib.hid (hPv.out w2 hb2)
  have hA2:=Lib.hid (fun n=>hA.out (w2.drewN n) (hb2.trans ⟨rfl,rfl,rfl,by simp,fun _ _=>rfl⟩))
  clear hb1 hb2 hFd hPv hA c7
  go_wp2_with fail
  rw [← hw2]
  clear hw2 k7
  refine hP2.out.mono ?_
  rintro e w3 ⟨rfl,rfl⟩
  clear hP2
  go_wp2_with fail
  go_region_held3 (fun w'=>w'.cell? ⟨M.m,0,none⟩=some (ptr M.g)∧w'.cell? ⟨a.f,5,none⟩=some (.int .i64 (c:Int))) (go_keep)
   (first
     | (go_at_call 21
        refine (hA2.out 1).mono ?_
        rintro e w3 ⟨rfl,hL⟩
        have hL':=Lib.hid hL
        obtain ⟨M3,hM3,e3,hK3,hS3,hO3⟩:=hL
        have s3:=hM3.hd.1
        have s5:=hS3.hd.2.2.2.2.2.1
        rw [hK3.m,hK3.g] at s3
        rw [hcc.out] at s5
        clear hM3 e3 hK3 hS3 hO3 hA2))
  all_goals
   go_wp2_with fail
   go_end0
   exact ⟨rfl,hL'.out⟩
theorem lead_any (hM:MemAt w M) (h:SkAt w a S) {y:Nat} (ok:Okd (lm M) S y):
 Calls Tryz.prog 131 #[ptr a.f,ptr M.m,.int .u64 y] w fun e w'=>e=.returned (.tuple #[])∧Led w M a S (slead (lm M) S y) w':=by
 by_cases hl:S.W.found≠0∧S.W.prev≠0
 · obtain ⟨hb,k,hk⟩:=ok.link hl
   exact lead_link hM h hl.1 hl.2 hb hk y
 · exact lead_store hM h hl (ok.cell hl) y ok.y
set_option maxHeartbeats 1000000 in
theorem drop_sk (hM:MemAt w M) (h:SkAt w a S) (hl:Okl M.xs M.ds (M.hs,S.H)) (hh:S.H.holds=true):
 Calls Tryz.prog 128 #[ptr a.f,ptr M.m] w fun e w'=>e=.returned (.tuple #[])∧MemAt w' {M with hs:=M.hs.set S.H.lock (-1)}∧SkAt w' a {S with H:={S.H with holds:=false}}∧Only (fun x=>mfoot M x∨sfoot a S x) w w':=by
 have ho:=hl.own (.inr (.inr hh))
 have hR:=(drop_yes hM h.2.1 hl.okh ho.1 ho.2 hh).mono fun e w' q=>show e=.returned (.bool true)∧(MemAt w' {M with hs:=M.hs.set S.H.lock (-1)}∧SkAt w' a {S with H:={S.H with holds:=false}}∧Only (fun x=>mfoot M x∨sfoot a S x) w w') from
  ⟨q.1,q.2.1,h.held hM q.2.2.1 rfl q.2.2.2,q.2.2.2.mono fun x _ y=>y.imp id fun e=>.inr (.inl e)⟩
 have c5:=h.hd.2.2.2.2.1
 replace hR:=Lib.hid hR
 clear h hM hl hh ho
 go_enter Tryz.func128,Tryz.ntmps128
 go_wp2_with fail
 refine hR.out.mono ?_
 rintro e w1 ⟨rfl,hD⟩
 replace hD:=Lib.hid hD
 clear hR c5
 go_wp2_with fail
 go_end0
 exact ⟨rfl,hD.out⟩
set_option maxHeartbeats 1000000 in
theorem new_seek (k s:Int) (key:ByteArray) (w:World):
 Calls Tryz.prog 63 #[.int .i64 k,.int .u32 s,.string key] w fun e w'=>∃ (a:Sa) (h:Nat),e=.returned (ptr a.f)∧SkAt w' a (newSk h k s key)∧(∀ x,sfoot a (newSk h k s key) x→w.heap.size≤x)∧Below w.heap.size w w':=by
 unfold newSk
 have hN:=Lib.hid (new_hold k s w)
 go_enter Tryz.func63,Tryz.ntmps63
 go_wp2_with fail
 refine hN.out.mono ?_
 rintro e w1 ⟨rfl,hH1,hB1⟩
 obtain ⟨h,hh⟩:∃ h,h=w.heap.size:=⟨_,rfl⟩
 rw [← hh] at hH1 ⊢
 obtain ⟨w2,hw2⟩:∃ w2,w2=w1.alloc (.cells #[.int .u32 s,.string key,.nilFunc,.nilFunc,ptr h,.int .i64 0,.pointer none] 163):=⟨_,rfl⟩
 have hF2:Blk w2 w1.heap.size 163 #[.int .u32 s,.string key,.nilFunc,.nilFunc,ptr h,.int .i64 0,.pointer none]:=by rw [hw2]; exact Blk.made w1 _ _
 have hB12:Below w1.heap.size w1 w2:=by rw [hw2]; exact (Below.refl _ _).alloc (Nat.le_refl _) _
 obtain ⟨f,hf⟩:∃ f,f=w1.heap.size:=⟨_,rfl⟩
 rw [← hf] at hF2
 have hfw:w.heap.size≤f:=by rw [hf]; exact hB1.size
 have hhw:w.heap.size≤h:=by omega
 have hB2:=hB1.trans (hB12.mono hB1.size)
 have hH2:=hH1.below hB12
 have hd:=hF2.differ hH2 (by decide)
 have hW:=Lib.hid (walkFrom_any hF2 rfl rfl rfl (-1))
 replace hH2:=Lib.hid hH2
 replace hB2:=Lib.hid hB2
 replace hd:=Lib.hid hd
 clear hN hH1 hB1 hB12 hF2 hh
 go_upto_region 2 with (fail)
 rw [← hw2,← hf]
 clear hw2 hf
 go_wp2_with fail
 refine hW.out.mono ?_
 rintro e w4 ⟨rfl,b,hb,hF4,hW4,hO4⟩
 have k3:=hF4.cell 2
 have k4:=hF4.cell 3
 have j5:=hF4.cell 4
 simp at k3 k4 j5
 have z3:=hF4.frozen 2
 have z4:=hF4.frozen 3
 have hH4:=hH2.out.only hO4 (fun e=>hd.out e.symm)
 have hB4:=hB2.out.trans (hO4.toBelow hB2.out.size (fun x hx e=>by subst e; omega))
 have hbw:w.heap.size≤b:=Nat.le_trans hB2.out.size hb
 have hd4:=hF4.differ hW4 (by decide)
 have hE:Hid (SkAt ((w4.setCell ⟨f,2,none⟩ (wfm 88 (ptr h))).setCell ⟨f,3,none⟩ (wfm 89 (ptr f))) ⟨f,b⟩ ⟨key,s,1,⟨h,k,s,1,0,(0,0),0,false⟩, -1,new 0 (-1) s key⟩):=Lib.hid
  ⟨(hF4.store 2 (wfm 88 (ptr h))).store 3 (wfm 89 (ptr f)),Blk.far (Blk.far hH4 (p:=⟨f,2,none⟩) (fun e=>hd.out e.symm) _) (p:=⟨f,3,none⟩) (fun e=>hd.out e.symm) _,
    Blk.far (Blk.far hW4 (p:=⟨f,2,none⟩) (fun e=>hd4 e.symm) _) (p:=⟨f,3,none⟩) (fun e=>hd4 e.symm) _⟩
 have hBx:=Lib.hid ((hB4.setCell (p:=⟨f,2,none⟩) hfw (wfm 88 (ptr h))).setCell (p:=⟨f,3,none⟩) hfw (wfm 89 (ptr f)))
 have hlow:Hid (∀ x,sfoot ⟨f,b⟩ ⟨key,s,1,⟨h,k,s,1,0,(0,0),0,false⟩, -1,new 0 (-1) s key⟩ x→w.heap.size≤x):=Lib.hid (by
  rintro x (q | q | q)<;>simp only at q<;>omega)
 clear hW hH2 hB2 hF4 hW4 hO4 hH4 hB4 hbw hd4 hb hd
 go_wp2_with fail
 go_ret
 exact ⟨_,_,rfl,hE.out,hlow.out,hBx.out⟩
end
end Go.Proofs.YtpobbnllcoabhaaGreatDoor.Pu
namespace Go.Proofs.YtpobbnllcoabhaaGreatDoor.Pu
open Go Go.RowKit Hp K Fl Rw Hm Ar Mm Me Wk Ta Pn Pc
set_option maxRecDepth 100000
structure Pt extends Sk where
 val:ByteArray
 nx:Nat
 err:Int
 mine:Nat
structure Qa where
 f:Nat
 s:Nat
 w:Nat
abbrev Qa.sa (a:Qa):Sa:=⟨a.s,a.w⟩
def pnv (nx f:Nat):Value:=if nx=2 then wfm 64 (ptr f) else if nx=3 then wfm 91 (ptr f)
 else if nx=4 then wfm 127 (ptr f) else if nx=5 then wfm 156 (ptr f) else if nx=6 then wfm 93 (ptr f) else wf0 129
def puc (a:Qa) (P:Pt):Array Value:=#[.string P.key,.string P.val,.int .u32 P.sum,ptr a.s,pnv P.nx a.f,.int .i64 P.err,.int .u64 P.mine]
def PuAt (w:World) (a:Qa) (P:Pt):Prop:=Blk w a.f 134 (puc a P)∧SkAt w a.sa P.toSk
def pfoot (a:Qa) (P:Pt) (x:Nat):Prop:=x=a.f∨sfoot a.sa P.toSk x
abbrev putTypes:List TypeId:=[134,163,181,166]
abbrev puL:Lay Qa Pt:=⟨Qa.f,PuAt,pfoot⟩
section
variable {w w':World} {M:Mo} {a:Qa} {P:Pt}
theorem PuAt.ty (h:PuAt w a P) {x:Nat} (hx:pfoot a P x):Ty w x putTypes:=by
 obtain ⟨h1,h2⟩:=h
 rcases hx with rfl | hx
 · exact (blk_ty h1).mono (by simp)
 · exact (h2.ty hx).mono (fun t ht=>List.mem_cons_of_mem _ ht)
theorem PuAt.far (h:PuAt w a P) (hM:MemAt w M) {x:Nat} (hx:pfoot a P x):¬mfoot M x:=fun hm=>(hM.ty hm).apart (h.ty hx) (by decide)
theorem PuAt.only {S:Nat→Prop} (h:PuAt w a P) (ho:Only S w w') (hn:∀ x,pfoot a P x→¬S x):PuAt w' a P:=
 ⟨h.1.only ho (hn _ (.inl rfl)),h.2.only ho (fun x hx=>hn _ (.inr hx))⟩
theorem PuAt.below (h:PuAt w a P) (hb:Below w.heap.size w w'):PuAt w' a P:=h.only (Only.ofBelow hb (fun _=>False)) (by simp)
theorem PuAt.drewN (h:PuAt w a P) (n:Nat):PuAt (w.drewN n) a P:=h.only ((Only.refl (fun _=>False) w).drewN n) (by simp)
theorem PuAt.hd (h:PuAt w a P):w.cell? ⟨a.f,0,none⟩=some (.string P.key)∧w.cell? ⟨a.f,1,none⟩=some (.string P.val)∧w.cell? ⟨a.f,2,none⟩=some (.int .u32 P.sum)∧w.cell? ⟨a.f,3,none⟩=some (ptr a.s)∧
 w.cell? ⟨a.f,4,none⟩=some (pnv P.nx a.f)∧w.cell? ⟨a.f,5,none⟩=some (.int .i64 P.err)∧w.cell? ⟨a.f,6,none⟩=some (.int .u64 P.mine):=
 ⟨h.1.cell 0,h.1.cell 1,h.1.cell 2,h.1.cell 3,h.1.cell 4,h.1.cell 5,h.1.cell 6⟩
theorem PuAt.frz (h:PuAt w a P) (i:Nat):w.frozen? ⟨a.f,i,none⟩=false:=h.1.frozen i
theorem PuAt.self (h:PuAt w a P) {x:Nat} (hx:sfoot a.sa P.toSk x):x≠a.f:=by
 rintro rfl
 exact (h.2.ty hx).apart (blk_ty h.1) (by decide)
theorem PuAt.own (h:PuAt w a P) {P':Pt} (hB:Blk w' a.f 134 (puc a P')) (ho:Only (·=a.f) w w') (eS:P'.toSk=P.toSk):PuAt w' a P':=
 ⟨hB,by rw [eS]; exact h.2.only ho (fun x hx e=>h.self hx e)⟩
theorem PuAt.next (h:PuAt w a P) (n:Nat):PuAt (w.setCell ⟨a.f,4,none⟩ (pnv n a.f)) a {P with nx:=n}:=
 h.own (h.1.store 4 (pnv n a.f)) ((Only.refl (·=a.f) w).setCell (p:=⟨a.f,4,none⟩) (.inl rfl) (pnv n a.f)) rfl
theorem PuAt.sought {S:Nat→Prop} {a':Sa} {S':Sk} (h:PuAt w a P) (hS:SkAt w' a' S') (ef:a'.f=a.s) (ek:S'.key=P.key) (es:S'.sum=P.sum) (ho:Only S w w') (hn:¬S a.f):PuAt w' {a with w:=a'.w} {P with toSk:=S'}:=by
 obtain ⟨f',b'⟩:=a'
 subst ef
 refine ⟨?_,hS⟩
 have:=h.1.only ho hn
 unfold puc at this ⊢
 simp only [ek,es]
 exact this
end
abbrev Stp (w:World) (M:Mo) (a:Qa) (P:Pt) (L':Lm) (P':Pt) (w':World):Prop:=puL.Stp w M a P L' P' w'
theorem pfoot_eq {a a':Qa} {P P':Pt} (ea:a'=a) (eS:P'.H.f=P.H.f) {n:Nat} (x:Nat) (q:pfoot a' P' x):pfoot a P x∨n≤x:=by
 subst ea
 rcases q with q | q | q | q
 · exact .inl (.inl q)
 · exact .inl (.inr (.inl q))
 · exact .inl (.inr (.inr (.inl (q.trans eS))))
 · exact .inl (.inr (.inr (.inr q)))
end Go.Proofs.YtpobbnllcoabhaaGreatDoor.Pu
namespace Go.Proofs.YtpobbnllcoabhaaGreatDoor.Pu
open Go Go.RowKit Hp K Fl Rw Hm Ar Mm Me Wk Ta Pn Pc
set_option maxRecDepth 100000
def fol (W:Wa):Int:=if W.found≠0 then W.nd.next else (W.first:Int)
def pstep (L:Lm) (P:Pt):Lm×Pt:=
 if P.nx=2 then ((sstep L P.toSk).1,{P with toSk:=(sstep L P.toSk).2,nx:=if sdone L P.toSk=true then (if (sstep L P.toSk).2.cell= -1 then 6 else 3) else 2})
 else if P.nx=3 then (match freePl L.ss with
  | some m=>({L with ss:=L.ss.set m ⟨true,(at' L.ss m).gen,⟨P.key,P.val,P.sum,fol P.W⟩⟩},{P with mine:=(at' L.ss m).gen*65536+m+1,err:=0,nx:=4})
  | none=>(L,{P with mine:=0,err:=4,nx:=6}))
 else if P.nx=4 then (slead L P.toSk P.mine,{P with mine:=P.W.found,nx:=if P.W.found≠0 then 5 else 6})
 else if P.nx=5 then ({L with ws:=L.ws++[P.mine]},{P with mine:=0,nx:=6})
 else ({L with hs:=L.hs.set P.H.lock (-1)},{P with H:={P.H with holds:=false},nx:=7})
def pready (L:Lm) (P:Pt):Bool:=sready L P.toSk
def pdone (_:Lm) (P:Pt):Bool:=decide (6≤P.nx)
structure Okp (L:Lm) (P:Pt):Prop where
 nx:2≤P.nx∧P.nx≤6
 ph:P.nx≠2→P.ph≠1
 sk:P.nx=2→∃ r,Oks r L P.toSk
 gen:P.nx=3→∀ k,(at' L.ss k).gen≤1000000
 lead:P.nx=4→Okd L P.toSk P.mine
 ret:P.nx=5→L.ws.length≤1000000
 drop:P.nx=6→Okl L.xs L.ds (L.hs,P.H)∧P.H.holds=true
theorem sstep_key (L:Lm) (S:Sk):(sstep L S).2.key=S.key∧(sstep L S).2.sum=S.sum:=by
 unfold sstep
 split
 · split<;>exact ⟨rfl,rfl⟩
 · exact ⟨rfl,rfl⟩
section
variable {w w':World} {M:Mo} {a:Qa} {P:Pt}
def Went (w:World) (M:Mo) (a:Qa) (P:Pt) (L':Lm) (P':Pt) (w':World):Prop:=
 ∃ M' b,MemAt w' M'∧lm M'=L'∧Kin w M M'∧PuAt w' {a with w:=b} P'∧(∀ x,pfoot {a with w:=b} P' x→pfoot a P x∨w.heap.size≤x)∧Only (fun x=>mfoot M x∨pfoot a P x) w w'
theorem Went.stp {L':Lm} {P':Pt} (h:Went w M a P L' P' w'):Stp w M a P L' P' w':=by
 obtain ⟨M',b,h1,h2,h3,h4,h5,h6⟩:=h
 exact ⟨M',{a with w:=b},h1,h2,h3,h4,rfl,h5,h6⟩
theorem sought_any (hM:MemAt w M) (h:PuAt w a P) {r:Nat} (ok:Oks r (lm M) P.toSk) (hr:sready (lm M) P.toSk=true):
 Calls Tryz.prog 90 #[ptr a.s,ptr M.m] w fun e w'=>e=.returned (.bool (sdone (lm M) P.toSk))∧Went w M a P (sstep (lm M) P.toSk).1 {P with toSk:=(sstep (lm M) P.toSk).2} w':=by
 refine (sk_step hM h.2 ok hr).mono fun e w' q=>⟨q.1,?_⟩
 obtain ⟨M',a',h1,h2,h3,h4,h5,h6,h7⟩:=q.2
 have hk:=sstep_key (lm M) P.toSk
 have hp:=h.sought h4 h5 hk.1 hk.2 h7 (by
  rintro (q | q)
  · exact h.far hM (.inl rfl) q
  · exact h.self q rfl)
 refine ⟨M',a'.w,h1,h2,h3,hp,?_,h7.mono fun x _ q=>q.imp id .inr⟩
 rintro x (q | q)
 · exact .inl (.inl q)
 · have e:a'=(⟨a.s,a'.w⟩:Sa):=by
    obtain ⟨f',b'⟩:=a'
    have:f'=a.s:=h5
    rw [this]
   exact (h6 x (by rw [e]; exact q)).imp .inr id
set_option maxHeartbeats 1000000 in
theorem goTo_any (hM:MemAt w M) (h:PuAt w a P) {r:Nat} (ok:Oks r (lm M) P.toSk) (hr:sready (lm M) P.toSk=true) (h2:P.nx=2):
 Calls Tryz.prog 64 #[ptr a.f,ptr M.m] w fun e w'=>e=.returned (.bool false)∧Stp w M a P (pstep (lm M) P).1 (pstep (lm M) P).2 w':=by
 have hS:=sought_any hM h ok hr
 have c3:=h.hd.2.2.2.1
 unfold pstep
 rw [if_pos h2]
 simp only
 cases hdn:sdone (lm M) P.toSk with
 | false=>
   rw [hdn] at hS
   rw [if_neg (by simp)]
   generalize sstep (lm M) P.toSk=z at*
   have hS':=hS.mono fun e w' q=>And.intro q.1 q.2.stp
   have eP:({P with toSk:=z.2,nx:=2}:Pt)={P with toSk:=z.2}:=by rw [← h2]
   rw [eP]
   replace hS:=Lib.hid hS'
   clear hdn h hM ok hr h2 eP hS'
   go_enter Tryz.func64,Tryz.ntmps64
   go_wp2_with fail
   refine hS.out.mono ?_
   rintro e w1 ⟨rfl,hW⟩
   replace hW:=Lib.hid hW
   clear hS c3
   go_wp2_with fail
   go_ret
   exact ⟨rfl,hW.out⟩
 | true=>
   rw [hdn] at hS
   rw [if_pos rfl]
   generalize sstep (lm M) P.toSk=z at*
   obtain ⟨L',S'⟩:=z
   simp only at hS ⊢
   replace hS:=Lib.hid hS
   have hfar:=Lib.hid (h.far hM (.inl rfl))
   clear hdn h hM ok hr h2
   obtain ⟨cb,hcb⟩:∃ cb,cb=decide (S'.cell= -1):=⟨_,rfl⟩
   have e6:(if S'.cell= -1 then 6 else 3:Nat)=if cb=true then 6 else 3:=by rw [hcb]; simp
   have hne:decide (S'.cell≠ -1)= !cb:=by rw [hcb]; simp
   rw [e6]
   clear e6 hcb
   cases cb
   all_goals
    replace hne:=Lib.hid hne
    first
     | rw [if_pos rfl]
     | rw [if_neg (by simp)]
    go_enter Tryz.func64,Tryz.ntmps64
    go_wp2_with fail
    refine hS.out.mono ?_
    rintro e w1 ⟨rfl,M1,b,hM1,el,hK,hP1,hf1,hO1⟩
    have k3:=hP1.hd.2.2.2.1
    have k4:=hP1.hd.2.2.2.2.1
    simp only at k3 k4
    have z4:=hP1.frz 4
    have hP3:=hP1.next 3
    have hP6:=Lib.hid (hP3.next 6)
    have hBk:=bucketed_any hP3.2
    simp only at hBk
    rw [hne.out] at hBk
    simp only [Bool.not_true,Bool.not_false] at hBk
    have hO3:=(Only.refl (·=a.f) w1).setCell (p:=⟨a.f,4,none⟩) (.inl rfl) (pnv 3 a.f)
    have hO6:=hO3.setCell (p:=⟨a.f,4,none⟩) (.inl rfl) (pnv 6 a.f)
    have far1:∀ x,mfoot M1 x→¬x=a.f:=fun x hx q=>hP1.far hM1 (.inl rfl) (q▸hx)
    have hM3:=Lib.hid (hM1.only hO3 far1)
    have hM6:=Lib.hid (hM1.only hO6 far1)
    have hO03:=Lib.hid (hO1.trans' hO3 (fun x _ q=>.inr (.inl q)))
    have hO06:=Lib.hid (hO1.trans' hO6 (fun x _ q=>.inr (.inl q)))
    have hBk3:=Lib.hid hBk
    replace hP3:=Lib.hid hP3
    replace hf1:=Lib.hid hf1
    replace hK:=Lib.hid hK
    replace el:=Lib.hid el
    clear hO3 hO6 hM1 hP1 hO1 hS c3 far1 hBk
    go_wp2_with fail
    refine hBk3.out.mono ?_
    rintro e w' ⟨rfl,rfl⟩
    clear hBk3
    go_wp2_with fail
    go_ret
    first
     | exact ⟨rfl,_,_,hM6.out,el.out,hK.out,hP6.out,rfl,hf1.out,hO06.out⟩
     | exact ⟨rfl,_,_,hM3.out,el.out,hK.out,hP3.out,rfl,hf1.out,hO03.out⟩
end
end Go.Proofs.YtpobbnllcoabhaaGreatDoor.Pu
namespace Go.Proofs.YtpobbnllcoabhaaGreatDoor.Pu
open Go Go.RowKit Hp K Fl Rw Hm Ar Mm Me Wk Ta Pn Pc
set_option maxRecDepth 100000
theorem put_foot {M:Mo} {x:Nat} {V':Option Addr} {capV':Nat} {ws':List Nat} {n:Nat} (hV:∀ x,In V' x→In M.V x∨n≤x) (q:mfoot {M with V:=V',capV:=capV',ws:=ws'} x):mfoot M x∨n≤x:=by
 rcases q with q | q | q | q | q | q
 · exact .inl (.inl q)
 · exact .inl (.inr (.inl q))
 · exact .inl (.inr (.inr (.inl q)))
 · exact .inl (.inr (.inr (.inr (.inl q))))
 · exact .inl (.inr (.inr (.inr (.inr (.inl q)))))
 · rcases hV x q with q | q
   · exact .inl (.inr (.inr (.inr (.inr (.inr q)))))
   · exact .inr q
def Waits (w:World) (M:Mo) (L':Lm) (w':World):Prop:=∃ M',MemAt w' M'∧lm M'=L'∧Kin w M M'∧Only (mfoot M) w w'
theorem waits_any {w:World} {M:Mo} (hM:MemAt w M) (x:Nat) (hn:M.ws.length≤1000000):
 Calls Tryz.prog 159 #[ptr M.m,.int .u64 x] w fun e w'=>e=.returned (.tuple #[])∧Waits w M {lm M with ws:=M.ws++[x]} w':=by
 refine (retire_any hM x hn).mono fun e w' q=>⟨q.1,?_⟩
 obtain ⟨V',capV',hM1,hO1,hV1⟩:=q.2
 refine ⟨_,hM1,rfl,⟨rfl,rfl,rfl,rfl,fun x q=>put_foot hV1 q⟩,hO1.mono (fun x _ q=>?_)⟩
 rcases q with q | q
 · exact .inl q
 · exact .inr (.inr (.inr (.inr (.inr q))))
section
variable {w w':World} {M:Mo} {a:Qa} {P:Pt}
theorem PuAt.went (h:PuAt w a P) (x n:Nat):PuAt (((w.setCell ⟨a.f,6,none⟩ (.int .u64 x)).setCell ⟨a.f,4,none⟩ (pnv 6 a.f)).setCell ⟨a.f,4,none⟩ (pnv n a.f)) a {P with mine:=x,nx:=n}∧
 Only (·=a.f) w (((w.setCell ⟨a.f,6,none⟩ (.int .u64 x)).setCell ⟨a.f,4,none⟩ (pnv 6 a.f)).setCell ⟨a.f,4,none⟩ (pnv n a.f)):=by
 have hP2:PuAt (w.setCell ⟨a.f,6,none⟩ (.int .u64 x)) a {P with mine:=x}:=h.own (by simpa [puc] using h.1.store 6 (.int .u64 x)) ((Only.refl (·=a.f) w).setCell (p:=⟨a.f,6,none⟩) (.inl rfl) (.int .u64 x)) rfl
 exact ⟨(hP2.next 6).next n,(((Only.refl (·=a.f) w).setCell (p:=⟨a.f,6,none⟩) (.inl rfl) (.int .u64 x)).setCell (p:=⟨a.f,4,none⟩) (.inl rfl) (pnv 6 a.f)).setCell (p:=⟨a.f,4,none⟩) (.inl rfl) (pnv n a.f)⟩
theorem PuAt.went6 (h:PuAt w a P) (x:Nat):PuAt ((w.setCell ⟨a.f,6,none⟩ (.int .u64 x)).setCell ⟨a.f,4,none⟩ (pnv 6 a.f)) a {P with mine:=x,nx:=6}∧
 Only (·=a.f) w ((w.setCell ⟨a.f,6,none⟩ (.int .u64 x)).setCell ⟨a.f,4,none⟩ (pnv 6 a.f)):=by
 have hP2:PuAt (w.setCell ⟨a.f,6,none⟩ (.int .u64 x)) a {P with mine:=x}:=h.own (by simpa [puc] using h.1.store 6 (.int .u64 x)) ((Only.refl (·=a.f) w).setCell (p:=⟨a.f,6,none⟩) (.inl rfl) (.int .u64 x)) rfl
 exact ⟨hP2.next 6,((Only.refl (·=a.f) w).setCell (p:=⟨a.f,6,none⟩) (.inl rfl) (.int .u64 x)).setCell (p:=⟨a.f,4,none⟩) (.inl rfl) (pnv 6 a.f)⟩
theorem Waits.stp {L':Lm} {P':Pt} {w1 w2:World} (h:Waits w M L' w1) (hP:PuAt w a P) (hM:MemAt w M) (hP2:PuAt w1 a P→PuAt w2 a P') (eS:P'.H.f=P.H.f) (ho:Only (·=a.f) w1 w2):Stp w M a P L' P' w2:=by
 obtain ⟨M1,hM1,el,hK,hO⟩:=h
 have hP1:=hP.only hO (fun x hx q=>hP.far hM hx q)
 exact ⟨M1,a,hM1.only ho (fun x hx q=>hP1.far hM1 (.inl rfl) (q▸hx)),el,hK,hP2 hP1,rfl,pfoot_eq rfl eS,(hO.mono (fun x _ q=>(.inl q:mfoot M x∨pfoot a P x))).trans' ho (fun x _ q=>.inr (.inl q))⟩
set_option maxHeartbeats 1000000 in
theorem retire_step (hM:MemAt w M) (h:PuAt w a P) (hn:M.ws.length≤1000000) (h5:P.nx=5):
 Calls Tryz.prog 156 #[ptr a.f,ptr M.m] w fun e w'=>e=.returned (.bool false)∧Stp w M a P (pstep (lm M) P).1 (pstep (lm M) P).2 w':=by
 have hR:=Lib.hid (waits_any hM P.mine hn)
 have c6:=h.hd.2.2.2.2.2.2
 have HP:=Lib.hid h
 have HM:=Lib.hid hM
 unfold pstep
 rw [if_neg (by omega),if_neg (by omega),if_neg (by omega),if_pos h5]
 clear h hM hn h5
 go_enter Tryz.func156,Tryz.ntmps156
 go_wp2_with fail
 refine hR.out.mono ?_
 rintro e w1 ⟨rfl,hW⟩
 have hP1:PuAt w1 a P:=by
  obtain ⟨M1,_,_,_,hO⟩:=hW
  exact HP.out.only hO (fun x hx q=>HP.out.far HM.out hx q)
 have k6:=hP1.hd.2.2.2.2.2.2
 have k4:=hP1.hd.2.2.2.2.1
 have z6:=hP1.frz 6
 have z4:=hP1.frz 4
 have hE:=Lib.hid (hW.stp HP.out HM.out (fun q=>(q.went6 0).1) rfl (hP1.went6 0).2)
 clear hP1 hW hR c6
 go_wp2_with fail
 go_ret
 exact ⟨rfl,hE.out⟩
set_option maxHeartbeats 1000000 in
theorem putIn_step (hM:MemAt w M) (h:PuAt w a P) (ok:Okd (lm M) P.toSk P.mine) (h4:P.nx=4):
 Calls Tryz.prog 127 #[ptr a.f,ptr M.m] w fun e w'=>e=.returned (.bool false)∧Stp w M a P (pstep (lm M) P).1 (pstep (lm M) P).2 w':=by
 have hR:=fun w1 (hb:Below w.heap.size w w1)=>(lead_any (hM.below hb) (h.2.below hb) ok).mono fun e w' q=>show e=.returned (.tuple #[])∧Waits w M (slead (lm M) P.toSk P.mine) w' from
  ⟨q.1,by obtain ⟨M',h1,h2,h3,_,h5⟩:=q.2; exact ⟨M',h1,h2,(Kin.refl w M).trans h3 hb.size,(Only.ofBelow hb _).trans h5⟩⟩
 replace hR:=fun n=>hR (w.drewN n) ⟨rfl,rfl,rfl,Nat.le_refl _,fun _ _=>rfl⟩
 have c3:=h.hd.2.2.2.1
 have c6:=h.hd.2.2.2.2.2.2
 have hfm:=Lib.hid (show M.m≠a.f from fun e=>h.far hM (.inl e) (.inl rfl))
 have HP:=Lib.hid h
 have HM:=Lib.hid hM
 unfold pstep
 rw [if_neg (by omega),if_neg (by omega),if_pos h4]
 generalize hLL:slead (lm M) P.toSk P.mine=L' at*
 obtain ⟨x,hxx⟩:∃ x,x=P.W.found:=⟨_,rfl⟩
 obtain ⟨n,hnn⟩:∃ n,n=P.W.nd:=⟨_,rfl⟩
 obtain ⟨nk,nv,ns,nn⟩:=n
 have hdx:∃ b,decide (x≠0)=b∧(if x≠0 then 5 else 6:Nat)=if b=true then 5 else 6:=⟨_,rfl,by simp⟩
 obtain ⟨b,hb,e5⟩:=hdx
 rw [← hxx]
 simp only [e5]
 replace hR:=Lib.hid hR
 replace hxx:=Lib.hid hxx
 replace hnn:=Lib.hid hnn
 replace hb:=Lib.hid hb
 have hEnd:Hid (∀ w1 w2 (P':Pt),Waits w M L' w1→(PuAt w1 a P→PuAt w2 a P')→P'.H.f=P.H.f→Only (·=a.f) w1 w2→Stp w M a P L' P' w2):=Lib.hid (fun w1 w2 P' hW hq eS ho=>hW.stp h hM hq eS ho)
 clear h hM h4 hLL ok e5
 go_enter Tryz.func127,Tryz.ntmps127
 go_wp2_with fail
 go_region_held3 (fun w'=>w'.cell? ⟨a.f,3,none⟩=some (ptr a.s)∧w'.cell? ⟨a.f,6,none⟩=some (.int .u64 P.mine)) (go_keep)
  (first
    | (go_at_call 131
       refine (hR.out 1).mono ?_
       rintro e w1 ⟨rfl,hW⟩
       have hP1:PuAt w1 a P:=by
        obtain ⟨M1,_,_,_,hO⟩:=hW
        exact HP.out.only hO (fun x hx q=>HP.out.far HM.out hx q)
       have k3:=hP1.hd.2.2.2.1
       have k6:=hP1.hd.2.2.2.2.2.2
       have hFd:=found_sk hP1.2
       unfold ndv at hFd
       rw [← hxx.out,← hnn.out,hb.out] at hFd
       simp only at hFd
       replace hFd:=Lib.hid hFd
       replace hP1:=Lib.hid hP1
       replace hW:=Lib.hid hW
       clear hR))
 all_goals
  go_wp2_with fail
  refine hFd.out.mono ?_
  rintro e w2 ⟨rfl,hb2⟩
  have hb3:=hb2.alloc (o:=.cells #[.string nk,.string nv,.int .u32 ns,.int .u64 nn] 139) hb2.size
  obtain ⟨w3,hw3⟩:∃ w3,w3=w2.alloc (.cells #[.string nk,.string nv,.int .u32 ns,.int .u64 nn] 139):=⟨_,rfl⟩
  rw [← hw3] at hb3
  have hP3:=hP1.out.below hb3
  have k6':=hP3.hd.2.2.2.2.2.2
  have k4':=hP3.hd.2.2.2.2.1
  have z6':=hP3.frz 6
  have z4':=hP3.frz 4
  have hW3:Waits w M L' w3:=by
   obtain ⟨M1,q1,q2,q3,q4⟩:=hW.out
   exact ⟨M1,q1.below hb3,q2,q3,q4.below hb3⟩
  have h5:=Lib.hid (hEnd.out _ _ _ hW3 (fun q=>(q.went x 5).1) rfl (hP3.went x 5).2)
  have h6:=Lib.hid (hEnd.out _ _ _ hW3 (fun q=>(q.went6 x).1) rfl (hP3.went6 x).2)
  clear hW3 hP3 hb3 hb2 hFd k3 k6 hW
  go_upto_region 3 with (fail)
  rw [← hw3]
  clear hw3
  cases b
  all_goals
   go_wp2_with fail
   go_ret
   first
    | exact ⟨rfl,h5.out⟩
    | exact ⟨rfl,h6.out⟩
set_option maxHeartbeats 1000000 in
theorem drop_step (hM:MemAt w M) (h:PuAt w a P) (hl:Okl M.xs M.ds (M.hs,P.H)) (hh:P.H.holds=true) (h6:P.nx=6):
 Calls Tryz.prog 93 #[ptr a.f,ptr M.m] w fun e w'=>e=.returned (.bool true)∧Stp w M a P (pstep (lm M) P).1 (pstep (lm M) P).2 w':=by
 have hR:=Lib.hid (drop_sk hM h.2 hl hh)
 have c3:=h.hd.2.2.2.1
 have HP:=Lib.hid h
 have HM:=Lib.hid hM
 unfold pstep
 rw [if_neg (by omega),if_neg (by omega),if_neg (by omega),if_neg (by omega)]
 clear h hM hl hh h6
 go_enter Tryz.func93,Tryz.ntmps93
 go_wp2_with fail
 refine hR.out.mono ?_
 rintro e w1 ⟨rfl,hM1,hS1,hO1⟩
 have hP1:=HP.out.sought hS1 rfl rfl rfl hO1 (by
  rintro (q | q)
  · exact HP.out.far HM.out (.inl rfl) q
  · exact HP.out.self q rfl)
 have k4:=hP1.hd.2.2.2.2.1
 have z4:=hP1.frz 4
 have hP3:=Lib.hid (hP1.next 7)
 have hO3:=(Only.refl (·=a.f) w1).setCell (p:=⟨a.f,4,none⟩) (.inl rfl) (pnv 7 a.f)
 have hM3:=Lib.hid (hM1.only hO3 (fun x hx q=>hP1.far hM1 (.inl rfl) (q▸hx)))
 have hO03:Hid (Only (fun x=>mfoot M x∨pfoot a P x) w _):=Lib.hid ((hO1.mono (fun x _ q=>q.imp id .inr)).trans' hO3 (fun x _ q=>.inr (.inl q)))
 clear hP1 hO3 hM1 hO1 hR c3 hS1
 go_wp2_with fail
 go_ret
 exact ⟨rfl,_,a,hM3.out,rfl,⟨rfl,rfl,rfl,rfl,fun _ q=>.inl q⟩,hP3.out,rfl,pfoot_eq rfl rfl,hO03.out⟩
end
end Go.Proofs.YtpobbnllcoabhaaGreatDoor.Pu
