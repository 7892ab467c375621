/- Walks over layer 8 (table): a hold's other steps; Ready, Step, Desc, Lock, Drop. -/
import Derived.Test.YtpobbnllcoabhaaGreatTabC
set_option linter.unusedVariables false
set_option linter.unusedSimpArgs false
namespace Go.Proofs.YtpobbnllcoabhaaGreat.Ta
open Go Go.RowKit Hp K Fl Rw Hm Ar Mm Me
set_option maxRecDepth 100000
section
variable {w w':World} {M:Mo} {H:Ho}
theorem again_same (hM:MemAt w M) (hH:HoAt w H) (hx:1<M.xs.length) (he:Cl.nth M.xs 1=H.num):
 Calls Tryz.prog 185 #[ptr H.f,ptr M.m] w fun e w'=>e=.returned (.bool true)∧HoAt w' {H with nx:=5,holds:=true}∧Only (·=H.f) w w':=by
 have hL:=Lib.hid (Cl.load_in hM.2.1 1 hx)
 rw [he] at hL
 have c4:=hH.hd.2.2.2.2.1
 have c8:=hH.hd.2.2.2.2.2.2.2.2
 have z8:=hH.frz.2.2.2.2.2.2
 have d0:=hM.hd.1
 have HH:=Lib.hid hH
 clear hM hH he
 go_enter Tryz.func185,Tryz.ntmps185
 go_wp2_with (go_at_call 54; refine hL.out.mono ?_; rintro e w' ⟨rfl,hw⟩; obtain rfl:w=w':=hw.symm)
 have hS:HoAt (w.setCell ⟨H.f,8,none⟩ (.bool true)) {H with holds:=true}:=Blk.store HH.out 8 _
 have hS2:=Lib.hid (((Only.refl (·=H.f) w).setCell (p:=⟨H.f,8,none⟩) (.inl rfl) (.bool true)))
 refine (goOn_goes hS (n:=5) rfl rfl).mono ?_
 rintro e w2 ⟨rfl,hB2,hO2⟩
 replace hB2:=Lib.hid hB2
 replace hO2:=Lib.hid hO2
 clear hS
 go_wp2_with fail
 go_ret
 exact ⟨rfl,hB2.out,hS2.out.trans hO2.out⟩
theorem again_other (hM:MemAt w M) (hH:HoAt w H) (hx:1<M.xs.length) (he:Cl.nth M.xs 1≠H.num):
 Calls Tryz.prog 185 #[ptr H.f,ptr M.m] w fun e w'=>e=.returned (.bool false)∧HoAt w' {H with nx:=4}∧Only (·=H.f) w w':=by
 have hL:=Lib.hid (Cl.load_in hM.2.1 1 hx)
 have c4:=hH.hd.2.2.2.2.1
 have d0:=hM.hd.1
 have HH:=Lib.hid hH
 have hne:(Cl.nth M.xs 1 != (H.num:Int))=true:=by simpa using he
 clear hM hH he
 generalize Cl.nth M.xs 1=z at*
 go_enter Tryz.func185,Tryz.ntmps185
 go_wp2_with (go_at_call 54; refine hL.out.mono ?_; rintro e w' ⟨rfl,hw⟩; obtain rfl:w=w':=hw.symm)
 refine (goOn_goes HH.out (n:=4) rfl rfl).mono ?_
 rintro e w2 ⟨rfl,hB2,hO2⟩
 replace hB2:=Lib.hid hB2
 replace hO2:=Lib.hid hO2
 go_wp2_with fail
 go_ret
 exact ⟨rfl,hB2.out,hO2.out⟩
set_option maxHeartbeats 1000000 in
theorem free_any (hM:MemAt w M) (hH:HoAt w H) (ok:Okh M H) (hl:H.lock<M.hs.length) (hh:Lo.hol M.hs H.lock=H.worker):
 Calls Tryz.prog 197 #[ptr H.f,ptr M.m] w fun e w'=>e=.returned (.bool false)∧MemAt w' {M with hs:=M.hs.set H.lock (-1)}∧HoAt w' {H with nx:=1}∧Only (fun x=>mfoot M x∨x=H.f) w w':=by
 have hT:=Lib.hid (fun nq=>Lo.free_own (hM.drewN nq).2.2.1 H.lock hl H.worker ok.wk.1 hh)
 have c0:=hH.hd.1
 have c7:=hH.hd.2.2.2.2.2.2.2.1
 have d1:=hM.hd.2.1
 have HM:=Lib.hid hM
 have HH:=Lib.hid hH
 have lM:=hM.1.lt
 have lf:=hH.lt
 clear hM hH ok hl hh
 go_enter Tryz.func197,Tryz.ntmps197
 go_wp2_with fail
 go_region_held3 (fun w'=>w'.cell? ⟨M.m,1,none⟩=some (ptr M.lg)∧w'.cell? ⟨H.f,0,none⟩=some (.int .i64 H.worker)∧w'.cell? ⟨H.f,7,none⟩=some (.int .i64 H.lock)) (go_keep)
  (first
    | (go_at_call 131
       refine (hT.out 1).mono ?_
       rintro e w2 ⟨rfl,hL2,hO2⟩
       have hO2':=((Only.refl (Lo.foot M.lg M.lb) w).drewN 1).trans hO2
       have hM2:=HM.out.locks hL2 hO2'
       have hH2:=HH.out.keep HM.out hO2' foot_locks
       have s1:=hM2.hd.2.1
       have s2:=hH2.hd.1
       have s3:=hH2.hd.2.2.2.2.2.2.2.1
       simp at s1
       replace hO2':=Lib.hid hO2'
       replace hM2:=Lib.hid hM2
       replace hH2:=Lib.hid hH2
       clear hL2 hO2))
 all_goals
  go_wp2_with fail
  refine (goOn_goes hH2.out (n:=1) rfl rfl).mono ?_
  rintro e w3 ⟨rfl,hB3,hO3⟩
  have hM3:=Lib.hid (hM2.out.only hO3 (fun x hx q=>by subst q; exact hH2.out.far hM2.out hx))
  have hOO:=Lib.hid ((hO2'.out.mono (fun x _ q=>(.inl (foot_locks _ q):mfoot M x∨x=H.f))).trans (hO3.mono (fun x _ q=>.inr q)))
  replace hB3:=Lib.hid hB3
  clear hO3 s1 s2 s3
  go_wp2_with fail
  go_ret
  exact ⟨rfl,hM3.out,hB3.out,hOO.out⟩
set_option maxHeartbeats 1000000 in
theorem drop_yes (hM:MemAt w M) (hH:HoAt w H) (ok:Okh M H) (hl:H.lock<M.hs.length) (hh:Lo.hol M.hs H.lock=H.worker) (hs:H.holds=true):
 Calls Tryz.prog 117 #[ptr H.f,ptr M.m] w fun e w'=>e=.returned (.bool true)∧MemAt w' {M with hs:=M.hs.set H.lock (-1)}∧HoAt w' {H with holds:=false}∧Only (fun x=>mfoot M x∨x=H.f) w w':=by
 have c0:=hH.hd.1
 have c7:=hH.hd.2.2.2.2.2.2.2.1
 have c8:=hH.hd.2.2.2.2.2.2.2.2
 rw [hs] at c8
 have z8:=hH.frz.2.2.2.2.2.2
 have d1:=hM.hd.2.1
 have lM:=hM.1.lt
 have lf:=hH.lt
 have hS:HoAt (w.setCell ⟨H.f,8,none⟩ (.bool false)) {H with holds:=false}:=Blk.store hH 8 _
 have hOS:=(Only.refl (·=H.f) w).setCell (p:=⟨H.f,8,none⟩) (.inl rfl) (.bool false)
 have hMS:=hM.only hOS (fun x hx q=>by subst q; exact hH.far hM hx)
 replace hOS:=Lib.hid hOS
 have hT:=Lib.hid (fun nq=>Lo.free_own (hMS.drewN nq).2.2.1 H.lock hl H.worker ok.wk.1 hh)
 have hne:M.m≠H.f:=fun e=>hH.far hM (.inl e.symm)
 replace hMS:=Lib.hid hMS
 replace hS:=Lib.hid hS
 clear hM hH ok hl hh hs
 go_enter Tryz.func117,Tryz.ntmps117
 go_upto_region 4 with (fail)
 clear c0 c7 c8 z8 d1 hne
 generalize w.setCell ⟨H.f,8,none⟩ (.bool false)=w1 at*
 have c0:=hS.out.hd.1
 have c7:=hS.out.hd.2.2.2.2.2.2.2.1
 have d1:=hMS.out.hd.2.1
 simp only at c0 c7
 have hlm:=hMS.out.1.lt
 have hlf:H.f<w1.heap.size:=hS.out.lt
 go_wp2_with fail
 go_region_held3 (fun w'=>w'.cell? ⟨M.m,1,none⟩=some (ptr M.lg)∧w'.cell? ⟨H.f,0,none⟩=some (.int .i64 H.worker)∧w'.cell? ⟨H.f,7,none⟩=some (.int .i64 H.lock)) (go_keep)
  (first
    | (go_at_call 131
       refine (hT.out 1).mono ?_
       rintro e w2 ⟨rfl,hL2,hO2⟩
       have hO2':=((Only.refl (Lo.foot M.lg M.lb) w1).drewN 1).trans hO2
       have hM2:=hMS.out.locks hL2 hO2'
       have hH2:=hS.out.keep hMS.out hO2' foot_locks
       have s1:=hM2.hd.2.1
       have s2:=hH2.hd.1
       have s3:=hH2.hd.2.2.2.2.2.2.2.1
       simp at s1 s2 s3
       replace hO2':=Lib.hid hO2'
       replace hM2:=Lib.hid hM2
       replace hH2:=Lib.hid hH2
       clear hL2 hO2))
 all_goals
  have hOO:=Lib.hid ((hOS.out.mono (fun x _ q=>(.inr q:mfoot M x∨x=H.f))).trans (hO2'.out.mono (fun x _ q=>.inl (foot_locks _ q))))
  go_wp2_with fail
  go_ret
  exact ⟨rfl,hM2.out,hH2.out,hOO.out⟩
theorem lock_of (hH:HoAt w H):Calls Tryz.prog 115 #[ptr H.f] w fun e w'=>e=.returned (.int .i64 (if H.holds=true then (H.lock:Int) else-1))∧w'=w:=by
 have c7:=hH.hd.2.2.2.2.2.2.2.1
 have c8:=hH.hd.2.2.2.2.2.2.2.2
 clear hH
 generalize H.lock=k at*
 cases hs:H.holds with
 | true=>
   rw [hs] at c8
   go_enter Tryz.func115,Tryz.ntmps115
   go_wp2
   go_ret
   exact ⟨rfl,rfl⟩
 | false=>
   rw [hs] at c8
   go_enter Tryz.func115,Tryz.ntmps115
   go_wp2
   go_ret
   exact ⟨rfl,rfl⟩
theorem desc_of (hH:HoAt w H):Calls Tryz.prog 116 #[ptr H.f] w fun e w'=>e=.returned (dv (if H.holds=true then H.d else (0,0)))∧Below w.heap.size w w':=by
 have c5:=hH.hd.2.2.2.2.2.1
 have c6:=hH.hd.2.2.2.2.2.2.1
 have c8:=hH.hd.2.2.2.2.2.2.2.2
 have lf:=hH.lt
 clear hH
 generalize H.d=d at*
 cases hs:H.holds with
 | true=>
   rw [hs] at c8
   go_enter Tryz.func116,Tryz.ntmps116
   go_wp2
   exact bodyPost_ret (v:=dv d) (by simp [results,Tryz.results116,go_sem,dv]) rfl ⟨rfl,by first | exact ((Below.refl _ _).alloc (Nat.le_refl _) _) | exact (((Below.refl _ _).alloc (Nat.le_refl _) _).setCell (by simp) _).setCell (by simp) _⟩
 | false=>
   rw [hs] at c8
   go_enter Tryz.func116,Tryz.ntmps116
   go_wp2
   exact bodyPost_ret (v:=dv (0,0)) (by simp [results,Tryz.results116,go_sem,dv]) rfl ⟨rfl,by first | exact ((Below.refl _ _).alloc (Nat.le_refl _) _) | exact (((Below.refl _ _).alloc (Nat.le_refl _) _).setCell (by simp) _).setCell (by simp) _⟩
/-! ### what comes next-/
theorem enters_mt (args:Array Value) (w:World):(callFunc 162 args).run Tryz.prog w=.ok (.enter 162 args) w:=by kernel_rfl
theorem enters_al (args:Array Value) (w:World):(callFunc 133 args).run Tryz.prog w=.ok (.enter 133 args) w:=by kernel_rfl
theorem enters_do (args:Array Value) (w:World):(callFunc 198 args).run Tryz.prog w=.ok (.enter 198 args) w:=by kernel_rfl
theorem enters_lo (args:Array Value) (w:World):(callFunc 134 args).run Tryz.prog w=.ok (.enter 134 args) w:=by kernel_rfl
theorem enters_ta (args:Array Value) (w:World):(callFunc 163 args).run Tryz.prog w=.ok (.enter 163 args) w:=by kernel_rfl
theorem enters_la (args:Array Value) (w:World):(callFunc 185 args).run Tryz.prog w=.ok (.enter 185 args) w:=by kernel_rfl
theorem enters_fr (args:Array Value) (w:World):(callFunc 197 args).run Tryz.prog w=.ok (.enter 197 args) w:=by kernel_rfl
theorem step_fm {F f:Nat} {cv m:Value} {c:Bool} {P:World→Prop} (c3:w.cell? ⟨f,3,none⟩=some (fnm F cv)) (eF:∀ args w,(callFunc F args).run Tryz.prog w=.ok (.enter F args) w)
 (hF:Calls Tryz.prog F #[cv,m] w fun e w'=>e=.returned (.bool c)∧P w'):Calls Tryz.prog 135 #[ptr f,m] w fun e w'=>e=.returned (.bool c)∧P w':=by
 replace hF:=Lib.hid hF
 go_enter Tryz.func135,Tryz.ntmps135
 go_wp2_with fail
 refine hF.out.mono ?_
 rintro e w' ⟨rfl,hPw⟩
 replace hPw:=Lib.hid hPw
 clear c3
 go_wp2_with fail
 go_ret
 exact ⟨rfl,hPw.out⟩
theorem step_f0 {F f:Nat} {m:Value} {c:Bool} {P:World→Prop} (c3:w.cell? ⟨f,3,none⟩=some (fn0 F)) (eF:∀ args w,(callFunc F args).run Tryz.prog w=.ok (.enter F args) w)
 (hF:Calls Tryz.prog F #[m] w fun e w'=>e=.returned (.bool c)∧P w'):Calls Tryz.prog 135 #[ptr f,m] w fun e w'=>e=.returned (.bool c)∧P w':=by
 replace hF:=Lib.hid hF
 go_enter Tryz.func135,Tryz.ntmps135
 go_wp2_with fail
 refine hF.out.mono ?_
 rintro e w' ⟨rfl,hPw⟩
 replace hPw:=Lib.hid hPw
 clear c3
 go_wp2_with fail
 go_ret
 exact ⟨rfl,hPw.out⟩
theorem ready_fm {F f:Nat} {cv m:Value} {c:Bool} {P:World→Prop} (c3:w.cell? ⟨f,2,none⟩=some (fnm F cv)) (eF:∀ args w,(callFunc F args).run Tryz.prog w=.ok (.enter F args) w)
 (hF:Calls Tryz.prog F #[cv,m] w fun e w'=>e=.returned (.bool c)∧P w'):Calls Tryz.prog 109 #[ptr f,m] w fun e w'=>e=.returned (.bool c)∧P w':=by
 replace hF:=Lib.hid hF
 go_enter Tryz.func109,Tryz.ntmps109
 go_wp2_with fail
 refine hF.out.mono ?_
 rintro e w' ⟨rfl,hPw⟩
 replace hPw:=Lib.hid hPw
 clear c3
 go_wp2_with fail
 go_ret
 exact ⟨rfl,hPw.out⟩
theorem ready_f0 {F f:Nat} {m:Value} {c:Bool} {P:World→Prop} (c3:w.cell? ⟨f,2,none⟩=some (fn0 F)) (eF:∀ args w,(callFunc F args).run Tryz.prog w=.ok (.enter F args) w)
 (hF:Calls Tryz.prog F #[m] w fun e w'=>e=.returned (.bool c)∧P w'):Calls Tryz.prog 109 #[ptr f,m] w fun e w'=>e=.returned (.bool c)∧P w':=by
 replace hF:=Lib.hid hF
 go_enter Tryz.func109,Tryz.ntmps109
 go_wp2_with fail
 refine hF.out.mono ?_
 rintro e w' ⟨rfl,hPw⟩
 replace hPw:=Lib.hid hPw
 clear c3
 go_wp2_with fail
 go_ret
 exact ⟨rfl,hPw.out⟩
/-! ### a step,whole-/
def hready (M:Mo) (H:Ho):Bool:=if H.nx=2 then freeB M H else true
def hstep (M:Mo) (H:Ho):Mo×Ho:=
 if H.nx=1 then (M,{H with nx:=2,num:=(Cl.nth M.xs 1).toNat})
 else if H.nx=2 then ({M with hs:=M.hs.set (lkn H.sum (tab M.ds H.num)) H.worker},{H with nx:=3,d:=tab M.ds H.num,lock:=lkn H.sum (tab M.ds H.num)})
 else if H.nx=3 then (if Cl.nth M.xs 1=H.num then (M,{H with nx:=5,holds:=true}) else (M,{H with nx:=4}))
 else if H.nx=4 then ({M with hs:=M.hs.set H.lock (-1)},{H with nx:=1})
 else (M,H)
def hdone (M:Mo) (H:Ho):Bool:=decide (H.nx=3∧Cl.nth M.xs 1=H.num∨5≤H.nx)
def Own (M:Mo) (H:Ho):Prop:=(H.nx=3∨H.nx=4∨H.holds=true)→H.lock<M.hs.length∧Lo.hol M.hs H.lock=H.worker
theorem hold_ready (hM:MemAt w M) (hH:HoAt w H) (ok:Okh M H):
 Calls Tryz.prog 109 #[ptr H.f,ptr M.m] w fun e w'=>e=.returned (.bool (hready M H))∧Below w.heap.size w w':=by
 have c2:=hH.hd.2.2.1
 unfold rdv at c2
 unfold hready
 split
 · rename_i h
   rw [if_pos h] at c2
   exact ready_fm c2 enters_mt (mayTake_any hM hH ok)
 · rename_i h
   rw [if_neg h] at c2
   exact ready_f0 c2 enters_al ((always_any _ w).mono fun e w' q=>⟨q.1,q.2▸Below.refl _ _⟩)
theorem hold_step (hM:MemAt w M) (hH:HoAt w H) (ok:Okh M H) (ow:Own M H) (h1:1≤H.nx) (hr:hready M H=true):
 Calls Tryz.prog 135 #[ptr H.f,ptr M.m] w fun e w'=>e=.returned (.bool (hdone M H))∧MemAt w' (hstep M H).1∧HoAt w' (hstep M H).2∧Only (fun x=>mfoot M x∨x=H.f) w w':=by
 have c3:=hH.hd.2.2.2.1
 unfold nxv at c3
 have up:∀ w',Only (·=H.f) w w'→MemAt w' M∧Only (fun x=>mfoot M x∨x=H.f) w w':=fun w' ho=>⟨hM.only ho (fun x hx q=>by subst q; exact hH.far hM hx),ho.mono (fun x _ q=>.inr q)⟩
 by_cases e1:H.nx=1
 · have hd:hdone M H=false:=by unfold hdone; simp; omega
   have hs:hstep M H=(M,{H with nx:=2,num:=(Cl.nth M.xs 1).toNat}):=by unfold hstep; rw [if_pos e1]
   rw [if_pos e1] at c3
   rw [hd,hs]
   exact step_fm c3 enters_lo ((load_any hM hH ok.xl).mono fun e w' q=>⟨q.1,(up w' q.2.2).1,q.2.1,(up w' q.2.2).2⟩)
 · rw [if_neg e1] at c3
   by_cases e2:H.nx=2
   · have hd:hdone M H=false:=by unfold hdone; simp; omega
     have hs:hstep M H=({M with hs:=M.hs.set (lkn H.sum (tab M.ds H.num)) H.worker},{H with nx:=3,d:=tab M.ds H.num,lock:=lkn H.sum (tab M.ds H.num)}):=by unfold hstep; rw [if_neg e1,if_pos e2]
     rw [if_pos e2] at c3
     rw [hd,hs]
     refine step_fm c3 enters_ta (take_free hM hH ok ?_)
     unfold hready at hr
     rw [if_pos e2] at hr
     unfold freeB at hr
     have:=of_decide_eq_true hr
     omega
   · rw [if_neg e2] at c3
     by_cases e3:H.nx=3
     · rw [if_pos e3] at c3
       by_cases he:Cl.nth M.xs 1=H.num
       · have hd:hdone M H=true:=by unfold hdone; simp [e3,he]
         have hs:hstep M H=(M,{H with nx:=5,holds:=true}):=by unfold hstep; rw [if_neg e1,if_neg e2,if_pos e3,if_pos he]
         rw [hd,hs]
         exact step_fm c3 enters_la ((again_same hM hH ok.xl he).mono fun e w' q=>⟨q.1,(up w' q.2.2).1,q.2.1,(up w' q.2.2).2⟩)
       · have hd:hdone M H=false:=by unfold hdone; simp [e3,he]
         have hs:hstep M H=(M,{H with nx:=4}):=by unfold hstep; rw [if_neg e1,if_neg e2,if_pos e3,if_neg he]
         rw [hd,hs]
         exact step_fm c3 enters_la ((again_other hM hH ok.xl he).mono fun e w' q=>⟨q.1,(up w' q.2.2).1,q.2.1,(up w' q.2.2).2⟩)
     · rw [if_neg e3] at c3
       by_cases e4:H.nx=4
       · have hd:hdone M H=false:=by unfold hdone; simp; omega
         have hs:hstep M H=({M with hs:=M.hs.set H.lock (-1)},{H with nx:=1}):=by unfold hstep; rw [if_neg e1,if_neg e2,if_neg e3,if_pos e4]
         rw [if_pos e4] at c3
         rw [hd,hs]
         obtain ⟨o1,o2⟩:=ow (.inr (.inl e4))
         exact step_fm c3 enters_fr (free_any hM hH ok o1 o2)
       · have hd:hdone M H=true:=by unfold hdone; simp; omega
         have hs:hstep M H=(M,H):=by unfold hstep; rw [if_neg e1,if_neg e2,if_neg e3,if_neg e4]
         rw [if_neg e4] at c3
         rw [hd,hs]
         exact step_f0 c3 enters_do ((done_any _ w).mono fun e w' q=>⟨q.1,by rw [q.2]; exact ⟨hM,hH,Only.refl _ _⟩⟩)
end
end Go.Proofs.YtpobbnllcoabhaaGreat.Ta
