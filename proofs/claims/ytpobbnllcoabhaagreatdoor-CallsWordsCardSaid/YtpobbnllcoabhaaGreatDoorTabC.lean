/- Walks over layer 8 (table): a hold takes the lock. -/
import Derived.Test.YtpobbnllcoabhaaGreatDoorTabB
set_option linter.unusedVariables false
set_option linter.unusedSimpArgs false
namespace Go.Proofs.YtpobbnllcoabhaaGreatDoor.Ta
open Go Go.RowKit Hp K Fl Rw Hm Ar Mm Me
set_option maxRecDepth 100000
section
variable {w w':World} {M:Mo} {H:Ho}
set_option maxHeartbeats 2000000 in
theorem take_free (hM:MemAt w M) (hH:HoAt w H) (ok:Okh M H) (hf:Lo.hol M.hs (lkn H.sum (tab M.ds H.num))<0):
 Calls Tryz.prog 153 #[ptr H.f,ptr M.m] w fun e w'=>e=.returned (.bool false)∧MemAt w' {M with hs:=M.hs.set (lkn H.sum (tab M.ds H.num)) H.worker}∧
  HoAt w' {H with nx:=3,d:=tab M.ds H.num,lock:=lkn H.sum (tab M.ds H.num)}∧Only (fun x=>mfoot M x∨x=H.f) w w':=by
 obtain ⟨c0,c1,c2,c3,c4,c5,c6,c7,c8⟩:=hH.hd
 have d1:=hM.hd.2.1
 have lM:=hM.1.lt
 have lf:=hH.lt
 have hL:=Lib.hid (loaded_any hM hH ok.num)
 have hW:=Lib.hid (fun w=>writer_lk (d:=tab M.ds H.num) ok.sum ok.dn w)
 have hk:=lkn_bd (tab M.ds H.num) ok.sum.1
 have hT:=Lib.hid (fun w' (hb:Below w.heap.size w w') nq=>Lo.try_free ((hM.below hb).drewN nq).2.2.1 _ ok.lb H.worker ok.wk.1 ok.wk.2 hf)
 have HM:=Lib.hid hM
 have HH:=Lib.hid hH
 have bc:∀ w',Below w.heap.size w w'→w'.cell? ⟨M.m,1,none⟩=some (ptr M.lg)∧w'.cell? ⟨H.f,0,none⟩=some (.int .i64 H.worker)∧w'.cell? ⟨H.f,1,none⟩=some (.int .u32 H.sum):=fun w' hb=>by
  have h:=bcell hb
  exact ⟨(h.1 _ 1 lM).trans d1,(h.1 _ 0 lf).trans c0,(h.1 _ 1 lf).trans c1⟩
 replace bc:=Lib.hid bc
 unfold dv at hL
 clear hM hH ok hf c0 c1 c2 c3 c4 c5 c6 c7 c8 d1
 generalize hkk:lkn H.sum (tab M.ds H.num)=k at*
 generalize hdd:tab M.ds H.num=d at*
 replace hkk:=Lib.hid hkk
 replace hdd:=Lib.hid hdd
 go_enter Tryz.func153,Tryz.ntmps153
 go_wp2_with fail
 refine hL.out.mono ?_
 rintro e w1 ⟨rfl,hb1⟩
 have hsz:=hb1.size
 obtain ⟨s1,s2,s3⟩:=bc.out w1 hb1
 replace hb1:=Lib.hid hb1
 have lM1:M.m<w1.heap.size:=by omega
 have lf1:H.f<w1.heap.size:=by omega
 clear hL
 go_wp2_with fail
 obtain ⟨b,hbb⟩:∃ b,b=w1.heap.size:=⟨_,rfl⟩
 rw [← hbb]
 have hB:Blk (w1.alloc (.cells #[.int .i64 d.1,.int .i64 d.2] 76)) b 76 #[.int .i64 d.1,.int .i64 d.2]:=by rw [hbb]; exact Blk.made w1 _ _
 have hb2:=hb1.out.alloc (o:=.cells #[.int .i64 d.1,.int .i64 d.2] 76) hsz
 generalize w1.alloc (.cells #[.int .i64 d.1,.int .i64 d.2] 76)=w2 at*
 replace hbb:=Lib.hid hbb
 clear s1 s2 s3
 obtain ⟨s1,s2,s3⟩:=bc.out w2 hb2
 have k0:=hB.cell 0
 have k1:=hB.cell 1
 simp at k0 k1
 have hsz2:=hb2.size
 have lb:=hB.lt
 replace hB:=Lib.hid hB
 replace hb2:=Lib.hid hb2
 have dn:=desc_n
 go_quiet ((go_at_call 173; exact Calls.quiet_of_same ((hW.out _).mono fun _ _ h=>⟨h.1,h.2.symm⟩)))
 obtain ⟨w3,hw3⟩:∃ w3,w3=w2.drewN nq:=⟨_,rfl⟩
 have hB3:Blk w3 b 76 #[.int .i64 d.1,.int .i64 d.2]:=by rw [hw3]; exact hB.out
 have hb3:Below w.heap.size w w3:=by rw [hw3]; exact hb2.out.trans ⟨rfl,rfl,rfl,Nat.le_refl _,fun _ _=>rfl⟩
 rw [← hw3]
 replace hw3:=Lib.hid hw3
 clear s1 s2 s3 k0 k1
 obtain ⟨s1,s2,s3⟩:=bc.out w3 hb3
 have hT3:=Lib.hid (hT.out w3 hb3 1)
 have hX3:=Lib.hid (fun w4 (hL:Lo.LocksAt w4 M.lg M.lb (M.hs.set k H.worker)) (hO:Only (Lo.foot M.lg M.lb) (w3.drewN 1) w4)=>by
  have hO':Only (Lo.foot M.lg M.lb) w3 w4:=((Only.refl (Lo.foot M.lg M.lb) w3).drewN 1).trans hO
  have hM3:=HM.out.below hb3
  have hH3:=HH.out.below hb3
  exact (⟨hM3.locks hL hO',hH3.keep hM3 hO' foot_locks,Blk.only hB3 hO' (fun hx=>(locks_ty hM3.2.2.1 hx).apart (blk_ty hB3) (by decide)),(Only.ofBelow hb3 (fun x=>mfoot M x∨x=H.f)).trans (hO'.mono (fun x _ q=>.inl (foot_locks _ q)))⟩:
   MemAt w4 {M with hs:=M.hs.set k H.worker}∧HoAt w4 H∧Blk w4 b 76 #[.int .i64 d.1,.int .i64 d.2]∧Only (fun x=>mfoot M x∨x=H.f) w w4))
 replace hB3:=Lib.hid hB3
 replace hb3:=Lib.hid hb3
 clear hB hb2 hT hW
 go_wp2_with fail
 go_region_held3 (fun w'=>w'.cell? ⟨M.m,1,none⟩=some (ptr M.lg)∧w'.cell? ⟨H.f,0,none⟩=some (.int .i64 H.worker)) (go_keep)
  (first
    | (go_at_call 72
       refine hT3.out.mono ?_
       rintro e w4 ⟨rfl,hL4,hO4⟩
       obtain ⟨hM4,hH4,hB4,hO4'⟩:=hX3.out w4 hL4 hO4
       have t1:=hM4.hd.2.1
       have t2:=hH4.hd.1
       have t5:=hH4.hd.2.2.2.2.2.1
       have t6:=hH4.hd.2.2.2.2.2.2.1
       have t7:=hH4.hd.2.2.2.2.2.2.2.1
       obtain ⟨_,_,_,y5,y6,y7,_⟩:=hH4.frz
       have k0:=hB4.cell 0
       have k1:=hB4.cell 1
       simp at t1 k0 k1
       replace hM4:=Lib.hid hM4
       replace hH4:=Lib.hid hH4
       replace hB4:=Lib.hid hB4
       replace hO4':=Lib.hid hO4'
       clear hL4 hO4))
 all_goals
  go_wp2_with fail
  have hS:HoAt (((w4.setCell ⟨H.f,5,none⟩ (.int .i64 d.1)).setCell ⟨H.f,6,none⟩ (.int .i64 d.2)).setCell ⟨H.f,7,none⟩ (.int .i64 k)) {H with d:=d,lock:=k}:=((hH4.out.store 5 _).store 6 _).store 7 _
  have hOS:=Lib.hid ((((hO4'.out.setCell (p:=⟨H.f,5,none⟩) (.inl (.inr rfl)) (.int .i64 d.1)).setCell (p:=⟨H.f,6,none⟩) (.inl (.inr rfl)) (.int .i64 d.2))).setCell (p:=⟨H.f,7,none⟩) (.inl (.inr rfl)) (.int .i64 k))
  have hMS:=hM4.out.only (((((Only.refl (·=H.f) w4).setCell (p:=⟨H.f,5,none⟩) (.inl rfl) (.int .i64 d.1)).setCell (p:=⟨H.f,6,none⟩) (.inl rfl) (.int .i64 d.2))).setCell (p:=⟨H.f,7,none⟩) (.inl rfl) (.int .i64 k)) (fun x hx q=>by subst q; exact hH4.out.far hM4.out hx)
  refine (goOn_goes hS (n:=3) rfl rfl).mono ?_
  rintro e w5 ⟨rfl,hH5,hO5⟩
  have hM5:=Lib.hid (hMS.only hO5 (fun x hx q=>by subst q; exact hS.far hMS hx))
  replace hH5:=Lib.hid hH5
  have hO5':=Lib.hid (hOS.out.trans (hO5.mono (fun x _ q=>.inr q)))
  clear hS hMS hO5 t1 t2 t5 t6 t7 y5 y6 y7 k0 k1 s1 s2 s3
  go_wp2_with fail
  go_ret
  exact ⟨rfl,hM5.out,hH5.out,hO5'.out⟩
end
end Go.Proofs.YtpobbnllcoabhaaGreatDoor.Ta
