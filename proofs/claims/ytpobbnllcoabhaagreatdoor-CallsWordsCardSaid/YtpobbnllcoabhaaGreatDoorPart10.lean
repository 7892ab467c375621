/- Walks and plain mathematics, put together in their order: RzV, RzW, RzX, RzY, LawSixA, LawNineA, ElA, TenC, ElD, FnA, LawEightA, ElE. -/
import Derived.Test.YtpobbnllcoabhaaGreatDoorPart9
import Derived.Test.YtpobbnllcoabhaaGreatDoorWalkD
import Derived.Test.YtpobbnllcoabhaaGreatDoorPairs
import Derived.Test.YtpobbnllcoabhaaGreatDoorGetC
import Derived.Test.YtpobbnllcoabhaaGreatDoorFnvWalk
import Derived.Test.YtpobbnllcoabhaaGreatDoorRowKit
import Derived.Laws.Cover1
import Derived.Test.YtpobbnllcoabhaaGreatDoorGetD
import Derived.Laws.CopyOwn
import Derived.Deep.DeepCutAuto
import Derived.Deep.CutBlock
set_option linter.unusedVariables false
set_option linter.unusedSimpArgs false
namespace Go.Proofs.YtpobbnllcoabhaaGreatDoor.Zr
open Go Go.RowKit Hp K Fl Rw Hm Ar Mm Wk Pc Me Mq Pu Pn Gt Qs Zp Mx LawTh Bs
set_option maxRecDepth 100000
def lkB (h:Nat):Nat:=if h=0 then 5 else h
section
variable {w w':World} {M:Mo} {a:Ra} {R:Rz} {f h b:Nat} {k z e:Int} {u2 u3 tv:Value}
theorem lock_behind (h:Nat) (w:World):Calls Tryz.prog 71 #[.int .i64 h] w fun e w'=>e=.returned (.int .i64 (lkB h))∧w'=w:=by
 unfold lkB
 by_cases h0:h=0
 · subst h0
   go_enter Tryz.func71,Tryz.ntmps71
   go_wp2
   go_ret
   exact ⟨rfl,rfl⟩
 · rw [if_neg h0]
   have hz:¬((h:Int)=0):=by omega
   go_enter Tryz.func71,Tryz.ntmps71
   go_wp2
   go_ret
   exact ⟨rfl,rfl⟩
theorem lkB_lt (hh:h≤4):lkB h<6:=by unfold lkB; split<;>omega
set_option maxHeartbeats 1000000 in
theorem mayTake_any (hM:MemAt w M) (hb:Rb w f k z u2 u3 e h tv) (hk:0≤k) (hh:h≤4) (hl:M.hs.length=6):
 Calls Tryz.prog 42 #[ptr f,ptr M.m] w fun x w'=>x=.returned (.bool (decide (Lo.hol M.hs (lkB h)= -1)))∧Below w.heap.size w w':=by
 obtain ⟨c0,c1,c2,c3,c4,c5,c6⟩:=rb_cells hb
 have d1:=hM.hd.2.1
 have hLB:=Lib.hid (fun w=>lock_behind h w)
 have hk':decide (0≤k)=true:=by simpa using hk
 have hO:=Lib.hid (fun nq=>Lo.holder_in (hM.drewN nq).2.2.1 (lkB h) (by rw [hl]; exact lkB_lt hh))
 have hbd:=Lo.hol_bd hM.2.2.1.2.2.1 (lkB h)
 clear hM hb c1 c2 c3 c4 c6 hl
 generalize Lo.hol M.hs (lkB h)=v at*
 generalize lkB h=j at*
 go_enter Tryz.func42,Tryz.ntmps42
 go_wp2_with fail
 go_quiet (first
  | (go_at_call 71; exact Calls.quiet_of_same (hLB.out _))
  | (go_at_call 70; exact Calls.quiet_of_same (hO.out _)))
 go_wp2_with fail
 go_ret
 exact ⟨K.ret_bool (by simp [BEq.beq]),rfl,rfl,rfl,Nat.le_refl _,fun _ _=>rfl⟩
theorem refuse_step (hb:Rb w f k z u2 u3 e h tv) (m:Value):
 Calls Tryz.prog 45 #[ptr f,m] w fun x w'=>x=.returned (.bool true)∧Rb w' f k z (wf0 44) (wf0 99) 5 h tv∧Only (·=f) w w':=by
 have c4:=(rb_cells hb).2.2.2.2.1
 have z4:=hb.frozen 4
 have hS:Rb (w.setCell ⟨f,4,none⟩ (.int .i64 5)) f k z u2 u3 5 h tv:=hb.store 4 _
 have hO:=Lib.hid ((Only.refl (·=f) w).setCell (p:=⟨f,4,none⟩) (.inl rfl) (.int .i64 5))
 have hE:=Lib.hid (end_any hS)
 clear hb hS
 go_enter Tryz.func45,Tryz.ntmps45
 go_wp2_with fail
 refine hE.out.mono ?_
 rintro e w' ⟨rfl,hB,hO2⟩
 replace hB:=Lib.hid hB
 have hO3:=Lib.hid (hO.out.trans hO2)
 clear hE hO hO2 c4 z4
 go_wp2_with fail
 go_ret
 exact ⟨rfl,hB.out,hO3.out⟩
theorem goOnBy_any {T:TypeId} (hb:Rb w f k z u2 u3 e h tv):
 Calls Tryz.prog 97 #[ptr f,.iface T (ptr b)] w fun x w'=>x=.returned (.tuple #[])∧Rb w' f k z (.func (.method "Ready") #[.iface T (ptr b)] #[]) (wfm 133 (ptr f)) e h (.iface T (ptr b))∧Only (·=f) w w':=by
 have c6:=(rb_cells hb).2.2.2.2.2.2
 have z6:=hb.frozen 6
 have hS:Rb (w.setCell ⟨f,6,none⟩ (.iface T (ptr b))) f k z u2 u3 e h (.iface T (ptr b)):=hb.store 6 _
 have hO:=Lib.hid ((Only.refl (·=f) w).setCell (p:=⟨f,6,none⟩) (.inl rfl) (.iface T (ptr b)))
 have hE:=Lib.hid (goOn_any (F1:=.method "Ready") (F2:=.func 133) (b1:=#[.iface T (ptr b)]) (b2:=#[ptr f]) hS)
 clear hb hS
 go_enter Tryz.func97,Tryz.ntmps97
 go_wp2_with fail
 refine hE.out.mono ?_
 rintro e w' ⟨rfl,hB,hO2⟩
 replace hB:=Lib.hid hB
 have hO3:=Lib.hid (hO.out.trans hO2)
 clear hE hO hO2 c6 z6
 go_wp2_with fail
 go_end0
 exact ⟨rfl,hB.out,hO3.out⟩
set_option maxHeartbeats 1000000 in
theorem choose_any (hM:MemAt w M) (hx:1<M.xs.length) (ga:Gw.Gl) (sa:Sw.Sc) (R:Rz) (hb:Rb w f R.worker R.size u2 u3 R.err 5 tv):
 Calls Tryz.prog 73 #[ptr f,ptr M.m] w fun x w'=>x=.returned (.tuple #[])∧∃ a':Ra,a'.f=f∧RzAt w' a' (look (lm M) R)∧(∀ x,rfoot a' (look (lm M) R) x→x=f∨w.heap.size≤x)∧Only (·=f) w w':=by
 obtain ⟨c0,c1,c2,c3,c4,c5,c6⟩:=rb_cells hb
 have hN:=now_any hM hx
 unfold look
 unfold dv at hN
 have lf:=hb.lt
 have HB:=Lib.hid hb
 replace hN:=Lib.hid hN
 show Calls _ _ _ _ (fun x w'=>x=_∧∃ a':Ra,a'.f=f∧RzAt w' a' (if ((now M.xs M.ds).1:Int)=R.size then {R with nx:=7} else if ((now M.xs M.ds).1:Int)<R.size then {R with nx:=6,inn:=.gro (Gw.newGro R.worker)} else {R with nx:=6,inn:=.shr (Sw.newShr R.worker)})∧(∀ x,rfoot a' (if ((now M.xs M.ds).1:Int)=R.size then {R with nx:=7} else if ((now M.xs M.ds).1:Int)<R.size then {R with nx:=6,inn:=.gro (Gw.newGro R.worker)} else {R with nx:=6,inn:=.shr (Sw.newShr R.worker)}) x→x=f∨w.heap.size≤x)∧Only (·=f) w w')
 obtain ⟨n,hn⟩:∃ n,n=(now M.xs M.ds).1:=⟨_,rfl⟩
 obtain ⟨B,hB⟩:∃ B,B=(now M.xs M.ds).2:=⟨_,rfl⟩
 rw [← hn]
 rw [← hn,← hB] at hN
 have hfd:∀ w,(Instr.field 76 (.agg #[.int .i64 n,.int .i64 B]) 0).run Tryz.prog w=.ok (.int .i64 n) w:=fun w=>rfl
 have hg:=Lib.hid (fun w=>Gw.new_grow R.worker w)
 have hs:=Lib.hid (fun w=>Sw.new_shrink R.worker w)
 have lM:=hM.1.lt
 clear hM hb hn hB c2 c3 c4 c5 c6 hx
 by_cases q1:(n:Int)<R.size
 · rw [if_neg (by omega),if_pos q1]
   clear hs
   go_enter Tryz.func73,Tryz.ntmps73
   go_wp2_with fail
   refine hN.out.mono ?_
   rintro e1 w1 ⟨rfl,hb1⟩
   have hB1:Rb w1 f R.worker R.size u2 u3 R.err 5 tv:=HB.out.only (Only.ofBelow hb1 (fun _=>False)) (by simp)
   have k0:=(rb_cells hB1).1
   have k1:=(rb_cells hB1).2.1
   replace hB1:=Lib.hid hB1
   have hO1:=Lib.hid (Only.ofBelow hb1 (·=f))
   clear hN hb1 c0 c1 HB
   go_wp2_with fail
   refine (hg.out _).mono ?_
   rintro e2 w2 ⟨ga,rfl,hG,hlo,hb2⟩
   have hB2:=Lib.hid (hB1.out.only (Only.ofBelow hb2 (fun _=>False)) (by simp))
   have hO2:=Lib.hid (hO1.out.trans (Only.ofBelow hb2 (·=f)))
   have hlo2:=Lib.hid (fun x hx=>Nat.le_trans hO1.out.size (hlo x hx))
   have hf2:=Lib.hid (fun x hx=>show ¬x=f from fun e=>by have h1:=hlo x hx; have h2:=hB1.out.lt; omega)
   replace hG:=Lib.hid hG
   have hby:=Lib.hid (goOnBy_any (T:=112) (b:=ga.f) hB2.out)
   clear hlo hb2 hg k0 k1 hB1 hO1
   go_wp2_with fail
   refine hby.out.mono ?_
   rintro e3 w3 ⟨rfl,hB3,hO3⟩
   have hR:Hid (RzAt w3 ⟨f,.iface 112 (ptr ga.f),ga,sa⟩ {R with nx:=6,inn:=.gro (Gw.newGro R.worker)}):=Lib.hid ⟨hB3,fun G _ hG'=>⟨rfl,by
    injection hG' with hG'
    rw [← hG']
    exact hG.out.only hO3 hf2.out⟩,fun G _ q=>by simp at q⟩
   have hO4:=Lib.hid (hO2.out.trans hO3)
   clear hby hB3 hO3 hO2
   go_wp2_with fail
   go_end0
   refine ⟨rfl,_,rfl,hR.out,fun x hx=>?_,hO4.out⟩
   rcases hx with q | ⟨G,_,q2,q3⟩ | ⟨G,_,q2,_⟩
   · exact .inl q
   · injection q2 with q2
     subst q2
     exact .inr (hlo2.out x q3)
   · simp at q2
 · by_cases q2:(n:Int) > R.size
   · rw [if_neg (by omega),if_neg q1]
     clear hg
     go_enter Tryz.func73,Tryz.ntmps73
     go_wp2_with fail
     refine hN.out.mono ?_
     rintro e1 w1 ⟨rfl,hb1⟩
     have hB1:Rb w1 f R.worker R.size u2 u3 R.err 5 tv:=HB.out.only (Only.ofBelow hb1 (fun _=>False)) (by simp)
     have k0:=(rb_cells hB1).1
     have k1:=(rb_cells hB1).2.1
     replace hB1:=Lib.hid hB1
     have hO1:=Lib.hid (Only.ofBelow hb1 (·=f))
     clear hN hb1 c0 c1 HB
     go_wp2_with fail
     refine (hs.out _).mono ?_
     rintro e2 w2 ⟨sa,rfl,hG,hlo,hb2⟩
     have hB2:=Lib.hid (hB1.out.only (Only.ofBelow hb2 (fun _=>False)) (by simp))
     have hO2:=Lib.hid (hO1.out.trans (Only.ofBelow hb2 (·=f)))
     have hlo2:=Lib.hid (fun x hx=>Nat.le_trans hO1.out.size (hlo x hx))
     have hf2:=Lib.hid (fun x hx=>show ¬x=f from fun e=>by have h1:=hlo x hx; have h2:=hB1.out.lt; omega)
     replace hG:=Lib.hid hG
     have hby:=Lib.hid (goOnBy_any (T:=115) (b:=sa.f) hB2.out)
     clear hlo hb2 hs k0 k1 hB1 hO1
     go_wp2_with fail
     refine hby.out.mono ?_
     rintro e3 w3 ⟨rfl,hB3,hO3⟩
     have hR:Hid (RzAt w3 ⟨f,.iface 115 (ptr sa.f),ga,sa⟩ {R with nx:=6,inn:=.shr (Sw.newShr R.worker)}):=Lib.hid ⟨hB3,fun G _ q=>by simp at q,fun G _ hG'=>⟨rfl,by
      injection hG' with hG'
      rw [← hG']
      exact hG.out.only hO3 hf2.out⟩⟩
     have hO4:=Lib.hid (hO2.out.trans hO3)
     clear hby hB3 hO3 hO2
     go_wp2_with fail
     go_end0
     refine ⟨rfl,_,rfl,hR.out,fun x hx=>?_,hO4.out⟩
     rcases hx with q | ⟨G,_,q2,_⟩ | ⟨G,_,q2,q3⟩
     · exact .inl q
     · simp at q2
     · injection q2 with q2
       subst q2
       exact .inr (hlo2.out x q3)
   · rw [if_pos (by omega)]
     clear hg hs
     go_enter Tryz.func73,Tryz.ntmps73
     go_wp2_with fail
     refine hN.out.mono ?_
     rintro e1 w1 ⟨rfl,hb1⟩
     have hB1:Rb w1 f R.worker R.size u2 u3 R.err 5 tv:=HB.out.only (Only.ofBelow hb1 (fun _=>False)) (by simp)
     have k1:=(rb_cells hB1).2.1
     replace hB1:=Lib.hid hB1
     have hO1:=Lib.hid (Only.ofBelow hb1 (·=f))
     have hgo:=Lib.hid (goOn_any (F1:=.func 44) (F2:=.func 98) (b1:=#[]) (b2:=#[ptr f]) hB1.out)
     clear hN hb1 c0 c1 HB
     go_wp2_with fail
     refine hgo.out.mono ?_
     rintro e3 w3 ⟨rfl,hB3,hO3⟩
     have hR:Hid (RzAt w3 ⟨f,tv,ga,sa⟩ {R with nx:=7}):=Lib.hid (RzAt.plain hB3 (by simp))
     have hO4:=Lib.hid (hO1.out.trans hO3)
     clear hgo hB3 hO3 hO1 hB1 k1
     go_wp2_with fail
     go_end0
     exact ⟨rfl,_,rfl,hR.out,fun x hx=>.inl (rfoot_plain (by simp) hx),hO4.out⟩
end
end Go.Proofs.YtpobbnllcoabhaaGreatDoor.Zr
namespace Go.Proofs.YtpobbnllcoabhaaGreatDoor.Zr
open Go Go.RowKit Hp K Fl Rw Hm Ar Mm Wk Pc Me Mq Pu Pn Gt Qs Zp Mx LawTh Bs
set_option maxRecDepth 100000
section
variable {w w':World} {M:Mo} {a:Ra} {R:Rz} {f h b:Nat} {k z e:Int} {u2 u3 tv:Value}
theorem foot_locks:∀ x,Lo.foot M.lg M.lb x→mfoot M x:=fun _ h=>.inr (.inr (.inl h))
theorem mem_store (hM:MemAt w M) (hb:Rb w f k z u2 u3 e h tv) (hO:Only (·=f) w w'):MemAt w' M:=hM.only hO (fun x hx q=>by subst q; exact rb_far hb hM hx)
set_option maxHeartbeats 2000000 in
theorem take_more (hM:MemAt w M) (hb:Rb w f k z u2 u3 e h tv) (hk:0≤k∧k≤1000) (hh:h<4) (hl:M.hs.length=6) (hf:Lo.hol M.hs (lkB h)<0):
 Calls Tryz.prog 43 #[ptr f,ptr M.m] w fun x w'=>x=.returned (.bool false)∧MemAt w' {M with hs:=M.hs.set (lkB h) k}∧Rb w' f k z u2 u3 e (h+1) tv∧Only (fun x=>mfoot M x∨x=f) w w':=by
 have d1:=hM.hd.2.1
 have c0:=(rb_cells hb).1
 have c5:=(rb_cells hb).2.2.2.2.2.1
 have hLB:=Lib.hid (fun w=>lock_behind h w)
 have hT:=Lib.hid (fun nq=>Lo.try_free (hM.drewN nq).2.2.1 (lkB h) (by rw [hl]; exact lkB_lt (by omega)) k hk.1 (by omega) hf)
 have HM:=Lib.hid hM
 have HB:=Lib.hid hb
 have lM:=hM.1.lt
 have lf:=hb.lt
 have hh5:¬((h:Int)+1=5):=by omega
 clear hM hb hl hf
 generalize lkB h=j at*
 go_enter Tryz.func43,Tryz.ntmps43
 go_wp2_with fail
 go_region_held3 (fun w'=>w'.cell? ⟨M.m,1,none⟩=some (ptr M.lg)∧w'.cell? ⟨f,0,none⟩=some (.int .i64 k)∧w'.cell? ⟨f,5,none⟩=some (.int .i64 h)) (go_keep)
  (first
    | (go_at_call 71
       refine (hLB.out _).mono ?_
       rintro e w3 ⟨rfl,rfl⟩)
    | (go_at_call 72
       refine (hT.out 1).mono ?_
       rintro e w2 ⟨rfl,hL2,hO2⟩
       have hO2':=((Only.refl (Lo.foot M.lg M.lb) w).drewN 1).trans hO2
       have hM2:=HM.out.locks hL2 hO2'
       have hB2:=HB.out.only hO2' (fun hx=>rb_far HB.out HM.out (foot_locks _ hx))
       have s1:=hM2.hd.2.1
       have s2:=(rb_cells hB2).1
       have s3:=(rb_cells hB2).2.2.2.2.2.1
       have z5:=hB2.frozen 5
       simp at s1
       replace hO2':=Lib.hid hO2'
       replace hM2:=Lib.hid hM2
       replace hB2:=Lib.hid hB2
       clear hL2 hO2))
 all_goals
  go_wp2_with fail
  have hS:Rb (w2.setCell ⟨f,5,none⟩ (.int .i64 ((h:Int)+1))) f k z u2 u3 e (h+1) tv:=hB2.out.store 5 _
  have hOS:=(Only.refl (·=f) w2).setCell (p:=⟨f,5,none⟩) (.inl rfl) (.int .i64 ((h:Int)+1))
  have hMS:=mem_store hM2.out hB2.out hOS
  have hOO:=(hO2'.out.mono (fun x _ q=>(.inl (foot_locks _ q):mfoot M x∨x=f))).trans (hOS.mono (fun x _ q=>.inr q))
  go_ret
  exact ⟨rfl,hMS,hS,hOO⟩
set_option maxHeartbeats 2000000 in
theorem take_last (hM:MemAt w M) (ga:Gw.Gl) (sa:Sw.Sc) (R:Rz) (hb:Rb w f R.worker R.size u2 u3 R.err 4 tv) (hk:0≤R.worker∧R.worker≤1000) (hl:M.hs.length=6) (hx:1<M.xs.length) (hf:Lo.hol M.hs 4<0):
 Calls Tryz.prog 43 #[ptr f,ptr M.m] w fun x w'=>x=.returned (.bool false)∧MemAt w' {M with hs:=M.hs.set 4 R.worker}∧Only (fun x=>mfoot M x∨x=f) w w'∧∃ a':Ra,a'.f=f∧RzAt w' a' (look (lm M) R)∧∀ x,rfoot a' (look (lm M) R) x→x=f∨w.heap.size≤x:=by
 have d1:=hM.hd.2.1
 have c0:=(rb_cells hb).1
 have c5:=(rb_cells hb).2.2.2.2.2.1
 have hLB:=Lib.hid (fun w=>lock_behind 4 w)
 have hT:=Lib.hid (fun nq=>Lo.try_free (hM.drewN nq).2.2.1 4 (by rw [hl]; omega) R.worker hk.1 (by omega) hf)
 have hlk:lkB 4=4:=rfl
 rw [hlk] at hLB
 have HM:=Lib.hid hM
 have HB:=Lib.hid hb
 have lM:=hM.1.lt
 have lf:=hb.lt
 clear hM hb hl hf hlk
 go_enter Tryz.func43,Tryz.ntmps43
 go_wp2_with fail
 go_region_held3 (fun w'=>w'.cell? ⟨M.m,1,none⟩=some (ptr M.lg)∧w'.cell? ⟨f,0,none⟩=some (.int .i64 R.worker)∧w'.cell? ⟨f,5,none⟩=some (.int .i64 4)) (go_keep)
  (first
    | (go_at_call 71
       refine (hLB.out _).mono ?_
       rintro e w3 ⟨rfl,rfl⟩)
    | (go_at_call 72
       refine (hT.out 1).mono ?_
       rintro e w2 ⟨rfl,hL2,hO2⟩
       have hO2':=((Only.refl (Lo.foot M.lg M.lb) w).drewN 1).trans hO2
       have hM2:=HM.out.locks hL2 hO2'
       have hB2:=HB.out.only hO2' (fun hx=>rb_far HB.out HM.out (foot_locks _ hx))
       have s1:=hM2.hd.2.1
       have s2:=(rb_cells hB2).1
       have s3:=(rb_cells hB2).2.2.2.2.2.1
       have z5:=hB2.frozen 5
       simp at s1
       replace hO2':=Lib.hid hO2'
       replace hM2:=Lib.hid hM2
       replace hB2:=Lib.hid hB2
       clear hL2 hO2))
 all_goals
  go_wp2_with fail
  have hS:Rb (w2.setCell ⟨f,5,none⟩ (.int .i64 5)) f R.worker R.size u2 u3 R.err 5 tv:=hB2.out.store 5 _
  have hOS:=(Only.refl (·=f) w2).setCell (p:=⟨f,5,none⟩) (.inl rfl) (.int .i64 5)
  have hMS:=mem_store hM2.out hB2.out hOS
  have hOO:=(hO2'.out.mono (fun x _ q=>(.inl (foot_locks _ q):mfoot M x∨x=f))).trans (hOS.mono (fun x _ q=>.inr q))
  have hC:=Lib.hid (choose_any hMS hx ga sa R hS)
  replace hMS:=Lib.hid hMS
  replace hOO:=Lib.hid hOO
  replace hS:=Lib.hid hS
  clear hOS s1 s2 s3 z5
  refine hC.out.mono ?_
  rintro e1 w3 ⟨rfl,a',ha,hR,hfo,hO3⟩
  have hM3:=Lib.hid (mem_store hMS.out hS.out hO3)
  have hO4:=Lib.hid (hOO.out.trans (hO3.mono (fun x _ q=>.inr q)))
  have hfo':=Lib.hid (fun x hx=>(hfo x hx).imp id (fun q=>Nat.le_trans hOO.out.size q))
  replace hR:=Lib.hid hR
  clear hC hO3 hfo hS
  go_wp2_with fail
  go_ret
  exact ⟨rfl,hM3.out,hO4.out,a',ha,hR.out,hfo'.out⟩
set_option maxHeartbeats 2000000 in
theorem free_more (hM:MemAt w M) (hb:Rb w f k z u2 u3 e (h+1) tv) (hk:0≤k) (h1:1≤h) (hh:h≤4) (hl:M.hs.length=6) (hf:Lo.hol M.hs h=k):
 Calls Tryz.prog 98 #[ptr f,ptr M.m] w fun x w'=>x=.returned (.bool false)∧MemAt w' {M with hs:=M.hs.set h (-1)}∧Rb w' f k z u2 u3 e h tv∧Only (fun x=>mfoot M x∨x=f) w w':=by
 have c5:=(rb_cells hb).2.2.2.2.2.1
 have z5:=hb.frozen 5
 have hS:Rb (w.setCell ⟨f,5,none⟩ (.int .i64 h)) f k z u2 u3 e h tv:=hb.store 5 _
 have hOS:=(Only.refl (·=f) w).setCell (p:=⟨f,5,none⟩) (.inl rfl) (.int .i64 h)
 have hMS:=mem_store hM hb hOS
 have hLB:=Lib.hid (fun w=>lock_behind h w)
 have hT:=Lib.hid (fun nq=>Lo.free_own (hMS.drewN nq).2.2.1 h (by rw [hl]; omega) k hk hf)
 have hlk:lkB h=h:=if_neg (by omega)
 rw [hlk] at hLB
 have e5:((h+1:Nat):Int)-1=h:=by omega
 have hne:M.m≠f:=fun e=>rb_far hb hM (.inl e.symm)
 have d1:=hM.hd.2.1
 replace hMS:=Lib.hid hMS
 replace hS:=Lib.hid hS
 replace hOS:=Lib.hid hOS
 clear hM hb hl hf hlk
 go_enter Tryz.func98,Tryz.ntmps98
 go_upto_region 2 with (fail)
 have hpos:(0:Int)<(h:Int):=by omega
 clear c5 z5 hne d1
 generalize w.setCell ⟨f,5,none⟩ (.int .i64 h)=w1 at*
 have c0:=(rb_cells hS.out).1
 have c5:=(rb_cells hS.out).2.2.2.2.2.1
 have d1:=hMS.out.hd.2.1
 have lM:=hMS.out.1.lt
 have lf:=hS.out.lt
 go_wp2_with fail
 go_region_held3 (fun w'=>w'.cell? ⟨M.m,1,none⟩=some (ptr M.lg)∧w'.cell? ⟨f,0,none⟩=some (.int .i64 k)∧w'.cell? ⟨f,5,none⟩=some (.int .i64 h)) (go_keep)
  (first
    | (go_at_call 71
       refine (hLB.out _).mono ?_
       rintro e w3 ⟨rfl,rfl⟩)
    | (go_at_call 134
       refine (hT.out 1).mono ?_
       rintro e w2 ⟨rfl,hL2,hO2⟩
       have hO2':=((Only.refl (Lo.foot M.lg M.lb) w1).drewN 1).trans hO2
       have hM2:=hMS.out.locks hL2 hO2'
       have hB2:=hS.out.only hO2' (fun hx=>rb_far hS.out hMS.out (foot_locks _ hx))
       have s1:=hM2.hd.2.1
       have s2:=(rb_cells hB2).1
       have s3:=(rb_cells hB2).2.2.2.2.2.1
       simp at s1
       have hO4:=Lib.hid ((hOS.out.mono (fun x _ q=>(.inr q:mfoot M x∨x=f))).trans (hO2'.mono (fun x _ q=>.inl (foot_locks _ q))))
       replace hO2':=Lib.hid hO2'
       replace hM2:=Lib.hid hM2
       replace hB2:=Lib.hid hB2
       clear hL2 hO2))
 all_goals
  go_wp2_with fail
  go_ret
  exact ⟨rfl,hM2.out,hB2.out,hO4.out⟩
set_option maxHeartbeats 2000000 in
theorem free_last (hM:MemAt w M) (hb:Rb w f k z u2 u3 e 1 tv) (hk:0≤k) (hl:M.hs.length=6) (hf:Lo.hol M.hs 5=k):
 Calls Tryz.prog 98 #[ptr f,ptr M.m] w fun x w'=>x=.returned (.bool true)∧MemAt w' {M with hs:=M.hs.set 5 (-1)}∧Rb w' f k z (wf0 44) (wf0 99) e 0 tv∧Only (fun x=>mfoot M x∨x=f) w w':=by
 have c5:=(rb_cells hb).2.2.2.2.2.1
 have z5:=hb.frozen 5
 have hS:Rb (w.setCell ⟨f,5,none⟩ (.int .i64 0)) f k z u2 u3 e 0 tv:=hb.store 5 _
 have hOS:=(Only.refl (·=f) w).setCell (p:=⟨f,5,none⟩) (.inl rfl) (.int .i64 0)
 have hMS:=mem_store hM hb hOS
 have hLB:=Lib.hid (fun w=>lock_behind 0 w)
 have hT:=Lib.hid (fun nq=>Lo.free_own (hMS.drewN nq).2.2.1 5 (by rw [hl]; omega) k hk hf)
 have hlk:lkB 0=5:=rfl
 rw [hlk] at hLB
 have hne:M.m≠f:=fun e=>rb_far hb hM (.inl e.symm)
 have d1:=hM.hd.2.1
 replace hMS:=Lib.hid hMS
 replace hS:=Lib.hid hS
 replace hOS:=Lib.hid hOS
 clear hM hb hl hf hlk
 go_enter Tryz.func98,Tryz.ntmps98
 go_upto_region 2 with (fail)
 clear c5 z5 hne d1
 generalize w.setCell ⟨f,5,none⟩ (.int .i64 0)=w1 at*
 have c0:=(rb_cells hS.out).1
 have c5:=(rb_cells hS.out).2.2.2.2.2.1
 have d1:=hMS.out.hd.2.1
 have lM:=hMS.out.1.lt
 have lf:=hS.out.lt
 go_wp2_with fail
 go_region_held3 (fun w'=>w'.cell? ⟨M.m,1,none⟩=some (ptr M.lg)∧w'.cell? ⟨f,0,none⟩=some (.int .i64 k)∧w'.cell? ⟨f,5,none⟩=some (.int .i64 0)) (go_keep)
  (first
    | (go_at_call 71
       refine (hLB.out _).mono ?_
       rintro e w3 ⟨rfl,rfl⟩)
    | (go_at_call 134
       refine (hT.out 1).mono ?_
       rintro e w2 ⟨rfl,hL2,hO2⟩
       have hO2':=((Only.refl (Lo.foot M.lg M.lb) w1).drewN 1).trans hO2
       have hM2:=hMS.out.locks hL2 hO2'
       have hB2:=hS.out.only hO2' (fun hx=>rb_far hS.out hMS.out (foot_locks _ hx))
       have s1:=hM2.hd.2.1
       have s2:=(rb_cells hB2).1
       have s3:=(rb_cells hB2).2.2.2.2.2.1
       simp at s1
       have hO4:=Lib.hid ((hOS.out.mono (fun x _ q=>(.inr q:mfoot M x∨x=f))).trans (hO2'.mono (fun x _ q=>.inl (foot_locks _ q))))
       replace hO2':=Lib.hid hO2'
       replace hM2:=Lib.hid hM2
       replace hB2:=Lib.hid hB2
       clear hL2 hO2))
 all_goals
  have hE:=Lib.hid (end_any hB2.out)
  go_wp2_with fail
  refine hE.out.mono ?_
  rintro e1 w3 ⟨rfl,hB3,hO3⟩
  have hM3:=Lib.hid (mem_store hM2.out hB2.out hO3)
  have hO5:=Lib.hid (hO4.out.trans (hO3.mono (fun x _ q=>.inr q)))
  replace hB3:=Lib.hid hB3
  clear hE hO3 hB2
  go_wp2_with fail
  go_ret
  exact ⟨rfl,hM3.out,hB3.out,hO5.out⟩
end
end Go.Proofs.YtpobbnllcoabhaaGreatDoor.Zr
namespace Go.Proofs.YtpobbnllcoabhaaGreatDoor.Zr
open Go Go.RowKit Hp K Fl Rw Hm Ar Mm Wk Pc Me Mq Pu Pn Gt Qs Zp Mx LawTh Bs
set_option maxRecDepth 100000
section
variable {w w':World} {M:Mo} {a:Ra} {R:Rz} {f h b:Nat} {k z e:Int} {u2 u3 tv:Value}
theorem turn_go {T:TypeId} {fs:Nat} {m:Value} {P:World→Prop} (hb:Rb w f k z u2 u3 e h (.iface T (ptr b))) (ms:∀ (w:World) (f:Nat),(method (f+1) T (.pointer (some ⟨b,0,none⟩)) "Step").run Tryz.prog w=.ok (fs,.pointer (some ⟨b,0,none⟩)) w)
 (es:∀ args w,(callFunc fs args).run Tryz.prog w=.ok (.enter fs args) w) (hF:Calls Tryz.prog fs #[ptr b,m] w fun e w'=>e=.returned (.bool false)∧P w'):Calls Tryz.prog 133 #[ptr f,m] w fun e w'=>e=.returned (.bool false)∧P w':=by
 have c6:=(rb_cells hb).2.2.2.2.2.2
 replace hF:=Lib.hid hF
 clear hb
 go_enter Tryz.func133,Tryz.ntmps133
 go_wp2_with fail
 refine hF.out.mono ?_
 rintro e w' ⟨rfl,hP⟩
 replace hP:=Lib.hid hP
 clear c6
 go_wp2_with fail
 go_ret
 exact ⟨rfl,hP.out⟩
def Tn (w:World) (M:Mo) (f b:Nat) (k z e:Int) (u2 u3 tv:Value) (fe:Nat) (er:Int) (L':Lm) (S:Nat→Prop) (w':World):Prop:=
 ∃ M',MemAt w' M'∧M'.m=M.m∧lm M'=L'∧Kin w M M'∧Rb w' f k z u2 u3 e 5 tv∧Calls Tryz.prog fe #[ptr b] w' (fun x w''=>x=.returned (.int .i64 er)∧w''=w')∧Only S w w'
set_option maxHeartbeats 1000000 in
theorem turn_over {T:TypeId} {fs fe:Nat} {er:Int} {L':Lm} {S:Nat→Prop} (ga:Gw.Gl) (sa:Sw.Sc) (R:Rz) (hb:Rb w f R.worker R.size u2 u3 R.err 5 (.iface T (ptr b))) (ms:∀ (w:World) (f:Nat),(method (f+1) T (.pointer (some ⟨b,0,none⟩)) "Step").run Tryz.prog w=.ok (fs,.pointer (some ⟨b,0,none⟩)) w)
 (es:∀ args w,(callFunc fs args).run Tryz.prog w=.ok (.enter fs args) w) (me:∀ (w:World) (f:Nat),(method (f+1) T (.pointer (some ⟨b,0,none⟩)) "Err").run Tryz.prog w=.ok (fe,.pointer (some ⟨b,0,none⟩)) w) (ee:∀ args w,(callFunc fe args).run Tryz.prog w=.ok (.enter fe args) w)
 (hx:1<L'.xs.length) (hF:Calls Tryz.prog fs #[ptr b,ptr M.m] w fun e w'=>e=.returned (.bool true)∧Tn w M f b R.worker R.size R.err u2 u3 (.iface T (ptr b)) fe er L' S w'):
 Calls Tryz.prog 133 #[ptr f,ptr M.m] w fun e w'=>e=.returned (.bool false)∧∃ M',MemAt w' M'∧lm M'=L'∧Kin w M M'∧Only (fun x=>S x∨x=f) w w'∧∃ a':Ra,a'.f=f∧RzAt w' a' (after L' R er)∧∀ x,rfoot a' (after L' R er) x→x=f∨w.heap.size≤x:=by
 have c6:=(rb_cells hb).2.2.2.2.2.2
 replace hF:=Lib.hid hF
 clear hb
 unfold after
 by_cases h0:er=0
 · rw [if_pos h0]
   subst h0
   go_enter Tryz.func133,Tryz.ntmps133
   go_wp2_with fail
   refine hF.out.mono ?_
   rintro e w1 ⟨rfl,M',hM,hm,hL,hK,hb,hE,hO⟩
   have c6:=(rb_cells hb).2.2.2.2.2.2
   have c4:=(rb_cells hb).2.2.2.2.1
   have z4:=hb.frozen 4
   replace hE:=Lib.hid hE
   clear hF
   go_wp2_with fail
   refine hE.out.mono ?_
   rintro e w2 ⟨rfl,hw2⟩
   obtain rfl:w1=w2:=hw2.symm
   have hS:Rb (w1.setCell ⟨f,4,none⟩ (.int .i64 0)) f R.worker R.size u2 u3 0 5 (.iface T (ptr b)):=hb.store 4 _
   have hOS:=(Only.refl (·=f) w1).setCell (p:=⟨f,4,none⟩) (.inl rfl) (.int .i64 0)
   have hMS:=mem_store hM hb hOS
   have hC:=Lib.hid (choose_any hMS (by have:(lm M').xs=L'.xs:=by rw [hL]
                                        have e:M'.xs=L'.xs:=this
                                        rw [e]; exact hx) ga sa {R with err:=0} hS)
   rw [hm,hL] at hC
   have hO2:=Lib.hid ((hO.mono (fun x _ q=>(.inl q:S x∨x=f))).trans (hOS.mono (fun x _ q=>.inr q)))
   replace hMS:=Lib.hid hMS
   replace hS:=Lib.hid hS
   replace hK:=Lib.hid hK
   replace hL:=Lib.hid hL
   clear hE hM hm hb hO hOS
   go_wp2_with fail
   refine hC.out.mono ?_
   rintro e1 w3 ⟨rfl,a',ha,hR,hfo,hO3⟩
   have hM3:=Lib.hid (mem_store hMS.out hS.out hO3)
   have hO4:=Lib.hid (hO2.out.trans (hO3.mono (fun x _ q=>.inr q)))
   have hfo':=Lib.hid (fun x hx=>(hfo x hx).imp id (fun q=>Nat.le_trans hO2.out.size q))
   replace hR:=Lib.hid hR
   clear hC hO3 hfo hS hMS hO2 c4 c6 z4
   go_wp2_with fail
   go_ret
   exact ⟨rfl,M',hM3.out,hL.out,hK.out,hO4.out,a',ha,hR.out,hfo'.out⟩
 · rw [if_neg h0]
   go_enter Tryz.func133,Tryz.ntmps133
   go_wp2_with fail
   refine hF.out.mono ?_
   rintro e w1 ⟨rfl,M',hM,hm,hL,hK,hb,hE,hO⟩
   have c6:=(rb_cells hb).2.2.2.2.2.2
   have c4:=(rb_cells hb).2.2.2.2.1
   have z4:=hb.frozen 4
   replace hE:=Lib.hid hE
   clear hF
   go_wp2_with fail
   refine hE.out.mono ?_
   rintro e w2 ⟨rfl,hw2⟩
   obtain rfl:w1=w2:=hw2.symm
   have hS:Rb (w1.setCell ⟨f,4,none⟩ (.int .i64 er)) f R.worker R.size u2 u3 er 5 (.iface T (ptr b)):=hb.store 4 _
   have hOS:=(Only.refl (·=f) w1).setCell (p:=⟨f,4,none⟩) (.inl rfl) (.int .i64 er)
   have hMS:=mem_store hM hb hOS
   have hC:=Lib.hid (goOn_any (F1:=.func 44) (F2:=.func 98) (b1:=#[]) (b2:=#[ptr f]) hS)
   have hO2:=Lib.hid ((hO.mono (fun x _ q=>(.inl q:S x∨x=f))).trans (hOS.mono (fun x _ q=>.inr q)))
   replace hMS:=Lib.hid hMS
   replace hS:=Lib.hid hS
   replace hK:=Lib.hid hK
   replace hL:=Lib.hid hL
   clear hE hM hm hb hO hOS
   go_wp2_with fail
   refine hC.out.mono ?_
   rintro e1 w3 ⟨rfl,hB3,hO3⟩
   have hR:Hid (RzAt w3 ⟨f,.iface T (ptr b),ga,sa⟩ {R with err:=er,nx:=7}):=Lib.hid (RzAt.plain hB3 (by simp))
   have hM3:=Lib.hid (mem_store hMS.out hS.out hO3)
   have hO4:=Lib.hid (hO2.out.trans (hO3.mono (fun x _ q=>.inr q)))
   clear hC hO3 hS hMS hO2 c4 c6 z4 hB3
   go_wp2_with fail
   go_ret
   exact ⟨rfl,M',hM3.out,hL.out,hK.out,hO4.out,_,rfl,hR.out,fun x hx=>.inl (rfoot_plain (by simp) hx)⟩
end
end Go.Proofs.YtpobbnllcoabhaaGreatDoor.Zr
namespace Go.Proofs.YtpobbnllcoabhaaGreatDoor.Zr
open Go Go.RowKit Hp K Fl Rw Hm Ar Mm Wk Pc Me Mq Pu Pn Gt Qs Zp Mx LawTh Bs
set_option maxRecDepth 100000
theorem wstep_xl (n:Nat) (xs hs:List Int) (W:Wt):xs.length≤(wstep n xs hs W).1.length:=by
 unfold wstep
 split
 · exact Nat.le_refl _
 split
 · simp
 split
 · exact Nat.le_refl _
 · exact Nat.le_refl _
theorem gstep_xl (L:Lm) (G:Gw.Gr):L.xs.length≤(Gw.gstep L G).1.xs.length:=by
 unfold Gw.gstep
 split
 · exact Nat.le_refl _
 split
 · split
   · simp
   · exact Nat.le_refl _
 split
 · exact Nat.le_refl _
 split
 · exact Nat.le_refl _
 split
 · simp
 split
 · simp
 split
 · exact wstep_xl _ _ _ _
 · split
   · exact Nat.le_refl _
   · exact Nat.le_refl _
theorem sstep_xl (L:Lm) (G:Sw.Sh):L.xs.length≤(Sw.sstep L G).1.xs.length:=by
 unfold Sw.sstep
 split
 · exact Nat.le_refl _
 split
 · split
   · simp
   · exact Nat.le_refl _
 split
 · exact Nat.le_refl _
 split
 · exact Nat.le_refl _
 split
 · exact Nat.le_refl _
 split
 · exact Nat.le_refl _
 split
 · simp
 split
 · simp
 · exact wstep_xl _ _ _ _
theorem gro_err {w:World} {a:Gw.Gl} {G:Gw.Gr} (h:Gw.GrAt w a G):Calls Tryz.prog 50 #[ptr a.f] w fun e w'=>e=.returned (.int .i64 G.err)∧w'=w:=by
 have c3:=(Gw.own_hd h.blk).2.2.2.1
 clear h
 go_enter Tryz.func50,Tryz.ntmps50
 go_wp2_with fail
 go_ret
 exact ⟨rfl,rfl⟩
theorem me_gro (b:Nat) (w:World) (f:Nat):(method (f+1) 112 (.pointer (some ⟨b,0,none⟩)) "Err").run Tryz.prog w=.ok (50,.pointer (some ⟨b,0,none⟩)) w:=by kernel_rfl
theorem me_shr (b:Nat) (w:World) (f:Nat):(method (f+1) 115 (.pointer (some ⟨b,0,none⟩)) "Err").run Tryz.prog w=.ok (53,.pointer (some ⟨b,0,none⟩)) w:=by kernel_rfl
theorem ee_gro (args:Array Value) (w:World):(callFunc 50 args).run Tryz.prog w=.ok (.enter 50 args) w:=by kernel_rfl
theorem ee_shr (args:Array Value) (w:World):(callFunc 53 args).run Tryz.prog w=.ok (.enter 53 args) w:=by kernel_rfl
theorem er_mt (args:Array Value) (w:World):(callFunc 42 args).run Tryz.prog w=.ok (.enter 42 args) w:=by kernel_rfl
theorem es_rf (args:Array Value) (w:World):(callFunc 45 args).run Tryz.prog w=.ok (.enter 45 args) w:=by kernel_rfl
theorem es_tk (args:Array Value) (w:World):(callFunc 43 args).run Tryz.prog w=.ok (.enter 43 args) w:=by kernel_rfl
theorem es_tn (args:Array Value) (w:World):(callFunc 133 args).run Tryz.prog w=.ok (.enter 133 args) w:=by kernel_rfl
theorem es_fr (args:Array Value) (w:World):(callFunc 98 args).run Tryz.prog w=.ok (.enter 98 args) w:=by kernel_rfl
section
variable {w w':World} {M:Mo} {a:Ra} {R:Rz}
theorem lkB_of {nx:Nat} (h:1≤nx∧nx≤5):lkB (hld nx)=lockOf nx:=by
 have e:hld nx=nx-1:=by unfold hld; rw [if_neg (by omega),if_pos h.2]
 rw [e]
 unfold lkB lockOf
 by_cases q:nx=1
 · rw [if_pos q,if_pos (by omega)]
 · rw [if_neg q,if_neg (by omega)]
theorem rz_ready (hM:MemAt w M) (h:RzAt w a R) (ok:Okrz (lm M) R):Calls Tryz.prog 233 #[ptr a.f,ptr M.m] w fun e w'=>e=.returned (.bool (rready (lm M) R))∧Below w.heap.size w w':=by
 have c2:=(rb_cells h.blk).2.2.1
 unfold rrv at c2
 unfold rready
 by_cases q1:1≤R.nx∧R.nx≤5
 · rw [if_pos q1] at c2 ⊢
   have hwk:=ok.wk (by omega)
   have h4:hld R.nx≤4:=by unfold hld; rw [if_neg (by omega),if_pos q1.2]; omega
   have hm:=mayTake_any hM h.blk hwk.1 h4 ok.hl
   rw [lkB_of q1] at hm
   rw [show decide (0≤R.worker∧Lo.hol (lm M).hs (lockOf R.nx)= -1)=decide (Lo.hol M.hs (lockOf R.nx)= -1) by
    by_cases e:Lo.hol M.hs (lockOf R.nx)= -1
    · rw [decide_eq_true e,decide_eq_true ⟨hwk.1,e⟩]
    · rw [decide_eq_false e,decide_eq_false (fun q=>e q.2)]]
   exact ready_fm c2 er_mt hm
 rw [if_neg q1] at c2 ⊢
 by_cases q6:R.nx=6
 · rw [if_pos q6] at c2 ⊢
   rcases ok.inn q6 with ⟨G,e,hG⟩ | ⟨G,e,hG⟩
   · obtain ⟨t1,t2⟩:=h.gro G q6 e
     rw [t1] at c2
     rw [e]
     exact ready_by c2 (Gw.gro_frm.mr _) Gw.gro_frm.er (Gw.gro_frm.ready hM t2 hG)
   · obtain ⟨t1,t2⟩:=h.shr G q6 e
     rw [t1] at c2
     rw [e]
     exact ready_by c2 (Sw.shr_frm.mr _) Sw.shr_frm.er (Sw.shr_frm.ready hM t2 hG)
 · rw [if_neg q6] at c2 ⊢
   exact ready_f0 c2
theorem stp_lock {i:Nat} {v:Int} {R':Rz} (hn:R'.nx≠6) (hw:R'.worker=R.worker∧R'.size=R.size∧R'.err=R.err) (hM':MemAt w' {M with hs:=M.hs.set i v}) (hB:Rb w' a.f R.worker R.size (rrv a.f R'.nx a.tv) (rnv a.f R'.nx) R.err (hld R'.nx) a.tv) (hO:Only (fun x=>mfoot M x∨x=a.f) w w'):
 rzL.Stp w M a R {lm M with hs:=M.hs.set i v} R' w':=by
 have hB':RzAt w' a R':=RzAt.plain (by unfold rzc; rw [hw.1,hw.2.1,hw.2.2]; exact hB) hn
 exact ⟨_,a,hM',rfl,⟨rfl,rfl,rfl,rfl,fun x q=>.inl q⟩,hB',rfl,fun x hx=>.inl (.inl (rfoot_plain hn hx)),hO.mono (fun x _ q=>q.imp id .inl)⟩
theorem own_gro (h:RzAt w a R) {G:Gw.Gr} (hG:Gw.GrAt w a.ga G):¬Gw.gfoot a.ga G a.f:=fun hx=>by
 rcases hG.ty hx with q | ⟨ms,q⟩
 · exact q.apart (blk_ty h.blk) (by decide)
 · exact q.no (blk_ty h.blk)
theorem own_shr (h:RzAt w a R) {G:Sw.Sh} (hG:Sw.ShAt w a.sa G):¬Sw.sfoot a.sa G a.f:=fun hx=>by
 rcases hG.ty hx with q | ⟨ms,q⟩
 · exact q.apart (blk_ty h.blk) (by decide)
 · exact q.no (blk_ty h.blk)
theorem turn_gro (hM:MemAt w M) (h:RzAt w a R) (h6:R.nx=6) {G:Gw.Gr} (e:R.inn=.gro G) (ok:Gw.Okgr (lm M) G) (hx:1<M.xs.length) (hr:Gw.gready (lm M) G=true):
 Calls Tryz.prog 133 #[ptr a.f,ptr M.m] w fun x w'=>x=.returned (.bool false)∧rzL.Stp w M a R (Gw.gstep (lm M) G).1 (if Gw.gdone (lm M) G=true then after (Gw.gstep (lm M) G).1 {R with inn:=.gro (Gw.gstep (lm M) G).2} (Gw.gstep (lm M) G).2.err else {R with inn:=.gro (Gw.gstep (lm M) G).2}) w':=by
 obtain ⟨t1,t2⟩:=h.gro G h6 e
 have hst:=Gw.gro_frm.step hM t2 ok hr
 have hself:=own_gro h t2
 have hfar:¬mfoot M a.f:=rb_far h.blk hM
 have hblk:Rb w a.f R.worker R.size (rrv a.f R.nx a.tv) (rnv a.f R.nx) R.err (hld R.nx) a.tv:=h.blk
 have hh:hld R.nx=5:=by rw [h6]; rfl
 cases hd:Gw.gdone (lm M) G with
 | false=>
   rw [if_neg (by simp)]
   rw [t1] at hblk
   rw [hd] at hst
   refine (turn_go hblk (Gw.gro_frm.ms _) Gw.gro_frm.es hst).mono ?_
   rintro x w' ⟨rfl,M',ga',r1,r2,r3,r4,r5,r6,r7⟩
   refine ⟨rfl,M',{a with ga:=ga'},r1,r2,r3,⟨?_,fun G' _ q=>?_,fun G' _ q=>by simp at q⟩,rfl,fun x hx=>?_,r7.mono (fun x _ q=>q.imp id (fun q=>.inr (.inl ⟨G,h6,e,q⟩)))⟩
   · exact h.blk.only r7 (fun q=>q.elim hfar hself)
   · injection q with q
     subst q
     exact ⟨by rw [show ga'.f=a.ga.f from r5]; exact t1,r4⟩
   · rcases hx with q | ⟨G',_,q2,q3⟩ | ⟨G',_,q2,_⟩
     · exact .inl (.inl q)
     · injection q2 with q2
       subst q2
       exact (r6 x q3).imp (fun q=>.inr (.inl ⟨G,h6,e,q⟩)) id
     · simp at q2
 | true=>
   rw [if_pos rfl]
   rw [hh,t1] at hblk
   rw [hd] at hst
   have hxl:1<(Gw.gstep (lm M) G).1.xs.length:=by
    have:=gstep_xl (lm M) G
    have e:1<(lm M).xs.length:=hx
    omega
   refine (turn_over (fe:=50) (er:=(Gw.gstep (lm M) G).2.err) (L':=(Gw.gstep (lm M) G).1) (S:=fun x=>mfoot M x∨Gw.gfoot a.ga G x) a.ga a.sa {R with inn:=.gro (Gw.gstep (lm M) G).2} hblk (Gw.gro_frm.ms _) Gw.gro_frm.es (me_gro _) ee_gro hxl (hst.mono ?_)).mono ?_
   · rintro x w' ⟨rfl,M',ga',r1,r2,r3,r4,r5,r6,r7⟩
     have hE:=gro_err r4
     rw [show ga'.f=a.ga.f from r5] at hE
     exact ⟨rfl,M',r1,r3.m,r2,r3,hblk.only r7 (fun q=>q.elim hfar hself),hE,r7⟩
   · rintro x w' ⟨rfl,M',r1,r2,r3,r4,a',r5,r6,r7⟩
     refine ⟨rfl,M',a',r1,r2,r3,r6,r5,fun x hx=>(r7 x hx).imp .inl id,r4.mono (fun x _ q=>?_)⟩
     rcases q with (q | q) | q
     · exact .inl q
     · exact .inr (.inr (.inl ⟨G,h6,e,q⟩))
     · exact .inr (.inl q)
theorem turn_shr (hM:MemAt w M) (h:RzAt w a R) (h6:R.nx=6) {G:Sw.Sh} (e:R.inn=.shr G) (ok:Sw.Oksh (lm M) G) (hx:1<M.xs.length) (hr:Sw.sready (lm M) G=true):
 Calls Tryz.prog 133 #[ptr a.f,ptr M.m] w fun x w'=>x=.returned (.bool false)∧rzL.Stp w M a R (Sw.sstep (lm M) G).1 (if Sw.sdone (lm M) G=true then after (Sw.sstep (lm M) G).1 {R with inn:=.shr (Sw.sstep (lm M) G).2} (Sw.sstep (lm M) G).2.err else {R with inn:=.shr (Sw.sstep (lm M) G).2}) w':=by
 obtain ⟨t1,t2⟩:=h.shr G h6 e
 have hst:=Sw.shr_frm.step hM t2 ok hr
 have hself:=own_shr h t2
 have hfar:¬mfoot M a.f:=rb_far h.blk hM
 have hblk:Rb w a.f R.worker R.size (rrv a.f R.nx a.tv) (rnv a.f R.nx) R.err (hld R.nx) a.tv:=h.blk
 have hh:hld R.nx=5:=by rw [h6]; rfl
 cases hd:Sw.sdone (lm M) G with
 | false=>
   rw [if_neg (by simp)]
   rw [t1] at hblk
   rw [hd] at hst
   refine (turn_go hblk (Sw.shr_frm.ms _) Sw.shr_frm.es hst).mono ?_
   rintro x w' ⟨rfl,M',sa',r1,r2,r3,r4,r5,r6,r7⟩
   refine ⟨rfl,M',{a with sa:=sa'},r1,r2,r3,⟨?_,fun G' _ q=>by simp at q,fun G' _ q=>?_⟩,rfl,fun x hx=>?_,r7.mono (fun x _ q=>q.imp id (fun q=>.inr (.inr ⟨G,h6,e,q⟩)))⟩
   · exact h.blk.only r7 (fun q=>q.elim hfar hself)
   · injection q with q
     subst q
     exact ⟨by rw [show sa'.f=a.sa.f from r5]; exact t1,r4⟩
   · rcases hx with q | ⟨G',_,q2,_⟩ | ⟨G',_,q2,q3⟩
     · exact .inl (.inl q)
     · simp at q2
     · injection q2 with q2
       subst q2
       exact (r6 x q3).imp (fun q=>.inr (.inr ⟨G,h6,e,q⟩)) id
 | true=>
   rw [if_pos rfl]
   rw [hh,t1] at hblk
   rw [hd] at hst
   have hxl:1<(Sw.sstep (lm M) G).1.xs.length:=by
    have:=sstep_xl (lm M) G
    have e:1<(lm M).xs.length:=hx
    omega
   refine (turn_over (fe:=53) (er:=(Sw.sstep (lm M) G).2.err) (L':=(Sw.sstep (lm M) G).1) (S:=fun x=>mfoot M x∨Sw.sfoot a.sa G x) a.ga a.sa {R with inn:=.shr (Sw.sstep (lm M) G).2} hblk (Sw.shr_frm.ms _) Sw.shr_frm.es (me_shr _) ee_shr hxl (hst.mono ?_)).mono ?_
   · rintro x w' ⟨rfl,M',sa',r1,r2,r3,r4,r5,r6,r7⟩
     have hE:=Sw.err_any r4
     rw [show sa'.f=a.sa.f from r5] at hE
     exact ⟨rfl,M',r1,r3.m,r2,r3,hblk.only r7 (fun q=>q.elim hfar hself),hE,r7⟩
   · rintro x w' ⟨rfl,M',r1,r2,r3,r4,a',r5,r6,r7⟩
     refine ⟨rfl,M',a',r1,r2,r3,r6,r5,fun x hx=>(r7 x hx).imp .inl id,r4.mono (fun x _ q=>?_)⟩
     rcases q with (q | q) | q
     · exact .inl q
     · exact .inr (.inr (.inr ⟨G,h6,e,q⟩))
     · exact .inr (.inl q)
theorem rz_step (hM:MemAt w M) (h:RzAt w a R) (ok:Okrz (lm M) R) (hr:rready (lm M) R=true):
 Calls Tryz.prog 234 #[ptr a.f,ptr M.m] w fun e w'=>e=.returned (.bool (rdone (lm M) R))∧rzL.Stp w M a R (rstep (lm M) R).1 (rstep (lm M) R).2 w':=by
 have c3:=(rb_cells h.blk).2.2.2.1
 unfold rnv at c3
 have hnx:=ok.nx
 have hB:Rb w a.f R.worker R.size (rrv a.f R.nx a.tv) (rnv a.f R.nx) R.err (hld R.nx) a.tv:=h.blk
 by_cases e0:R.nx=0
 · rw [if_pos e0] at c3
   rw [show rdone (lm M) R=true from decide_eq_true (.inl e0)]
   have es:rstep (lm M) R=(lm M,{R with err:=5,nx:=12}):=by unfold rstep; rw [if_pos e0]
   rw [es]
   refine step_fm c3 es_rf ((refuse_step hB (ptr M.m)).mono ?_)
   rintro x w' ⟨rfl,hB',hO⟩
   have hR:RzAt w' a {R with err:=5,nx:=12}:=RzAt.plain (by rw [e0] at hB'; exact hB') (by simp)
   exact ⟨rfl,M,a,mem_store hM hB hO,rfl,Kin.refl _ _,hR,rfl,fun x hx=>.inl (.inl (rfoot_plain (by simp) hx)),hO.mono (fun x _ q=>.inr (.inl q))⟩
 rw [if_neg e0] at c3
 have hwk:=ok.wk e0
 by_cases e5:R.nx≤5
 · rw [if_pos e5] at c3
   have hh:hld R.nx=R.nx-1:=by unfold hld; rw [if_neg e0,if_pos e5]
   have hq:1≤R.nx∧R.nx≤5:=⟨by omega,e5⟩
   rw [show rdone (lm M) R=false from decide_eq_false (by omega)]
   unfold rready at hr
   rw [if_pos hq] at hr
   have hfree:=(of_decide_eq_true hr).2
   rw [← lkB_of hq,hh] at hfree
   have hfree:Lo.hol M.hs (lkB (R.nx-1))<0:=by
    have:Lo.hol M.hs (lkB (R.nx-1))= -1:=hfree
    omega
   by_cases e4:R.nx=5
   · have es:rstep (lm M) R=({lm M with hs:=M.hs.set 4 R.worker},look (lm M) R):=by
      unfold rstep; rw [if_neg e0,if_neg (by omega),if_neg (by omega),if_pos e4]
     rw [es]
     rw [hh,e4] at hB
     rw [e4] at hfree
     refine step_fm c3 es_tk ((take_last hM a.ga a.sa R hB hwk ok.hl ok.x1 hfree).mono ?_)
     rintro x w' ⟨rfl,hM',hO,a',ha,hR,hfo⟩
     exact ⟨rfl,_,a',hM',rfl,⟨rfl,rfl,rfl,rfl,fun x q=>.inl q⟩,hR,ha,fun x hx=>(hfo x hx).imp .inl id,hO.mono (fun x _ q=>q.imp id .inl)⟩
   · have hl4:R.nx-1<4:=by omega
     have es:rstep (lm M) R=({lm M with hs:=M.hs.set (lkB (R.nx-1)) R.worker},{R with nx:=R.nx+1}):=by
      unfold rstep lkB
      rw [if_neg e0]
      by_cases e1:R.nx=1
      · rw [if_pos e1,if_pos (by omega),e1]
      · rw [if_neg e1,if_pos (by omega),if_neg (by omega)]
     rw [es]
     rw [hh] at hB
     refine step_fm c3 es_tk ((take_more hM hB hwk hl4 ok.hl hfree).mono ?_)
     rintro x w' ⟨rfl,hM',hB',hO⟩
     refine ⟨rfl,stp_lock (by show R.nx+1≠6; omega) ⟨rfl,rfl,rfl⟩ hM' ?_ hO⟩
     have h1:rrv a.f (R.nx+1) a.tv=rrv a.f R.nx a.tv:=by unfold rrv; rw [if_pos (by omega),if_pos hq]
     have h2:rnv a.f (R.nx+1)=rnv a.f R.nx:=by unfold rnv; rw [if_neg (by omega),if_pos (by omega),if_neg e0,if_pos e5]
     have h3:hld (R.nx+1)=R.nx-1+1:=by unfold hld; rw [if_neg (by omega),if_pos (by omega)]; omega
     show Rb w' a.f R.worker R.size (rrv a.f (R.nx+1) a.tv) (rnv a.f (R.nx+1)) R.err (hld (R.nx+1)) a.tv
     rw [h1,h2,h3]
     exact hB'
 rw [if_neg e5] at c3
 by_cases e6:R.nx=6
 · rw [if_pos e6] at c3
   rw [show rdone (lm M) R=false from decide_eq_false (by omega)]
   unfold rready at hr
   rw [if_neg (by omega),if_pos e6] at hr
   rcases ok.inn e6 with ⟨G,e,hG⟩ | ⟨G,e,hG⟩
   · rw [e] at hr
     have es:rstep (lm M) R=((Gw.gstep (lm M) G).1,if Gw.gdone (lm M) G=true then after (Gw.gstep (lm M) G).1 {R with inn:=.gro (Gw.gstep (lm M) G).2} (Gw.gstep (lm M) G).2.err else {R with inn:=.gro (Gw.gstep (lm M) G).2}):=by
      unfold rstep; rw [if_neg e0,if_neg (by omega),if_neg (by omega),if_neg (by omega),if_pos e6,e]
     rw [es]
     exact step_fm c3 es_tn (turn_gro hM h e6 e hG ok.x1 hr)
   · rw [e] at hr
     have es:rstep (lm M) R=((Sw.sstep (lm M) G).1,if Sw.sdone (lm M) G=true then after (Sw.sstep (lm M) G).1 {R with inn:=.shr (Sw.sstep (lm M) G).2} (Sw.sstep (lm M) G).2.err else {R with inn:=.shr (Sw.sstep (lm M) G).2}):=by
      unfold rstep; rw [if_neg e0,if_neg (by omega),if_neg (by omega),if_neg (by omega),if_pos e6,e]
     rw [es]
     exact step_fm c3 es_tn (turn_shr hM h e6 e hG ok.x1 hr)
 rw [if_neg e6,if_pos hnx] at c3
 have hh:hld R.nx=12-R.nx:=by unfold hld; rw [if_neg e0,if_neg e5,if_neg e6]
 have hrv:rrv a.f R.nx a.tv=wf0 44:=by unfold rrv; rw [if_neg (by omega),if_neg e6]
 have hnv:rnv a.f R.nx=wfm 98 (ptr a.f):=by unfold rnv; rw [if_neg e0,if_neg e5,if_neg e6,if_pos hnx]
 by_cases e10:R.nx≤10
 · rw [show rdone (lm M) R=false from decide_eq_false (by omega)]
   have es:rstep (lm M) R=({lm M with hs:=M.hs.set (11-R.nx) (-1)},{R with nx:=R.nx+1}):=by
    unfold rstep; rw [if_neg e0,if_neg (by omega),if_neg (by omega),if_neg (by omega),if_neg e6,if_pos e10]
   rw [es]
   have hld':=ok.held (by omega) e10
   rw [hh,show 12-R.nx=11-R.nx+1 by omega] at hB
   refine step_fm c3 es_fr ((free_more hM hB hwk.1 (by omega) (by omega) ok.hl hld').mono ?_)
   rintro x w' ⟨rfl,hM',hB',hO⟩
   refine ⟨rfl,stp_lock (by show R.nx+1≠6; omega) ⟨rfl,rfl,rfl⟩ hM' ?_ hO⟩
   have h1:rrv a.f (R.nx+1) a.tv=rrv a.f R.nx a.tv:=by rw [hrv]; unfold rrv; rw [if_neg (by omega),if_neg (by omega)]
   have h2:rnv a.f (R.nx+1)=rnv a.f R.nx:=by rw [hnv]; unfold rnv; rw [if_neg (by omega),if_neg (by omega),if_neg (by omega),if_pos (by omega)]
   have h3:hld (R.nx+1)=11-R.nx:=by unfold hld; rw [if_neg (by omega),if_neg (by omega),if_neg (by omega)]; omega
   show Rb w' a.f R.worker R.size (rrv a.f (R.nx+1) a.tv) (rnv a.f (R.nx+1)) R.err (hld (R.nx+1)) a.tv
   rw [h1,h2,h3]
   exact hB'
 · have e11:R.nx=11:=by omega
   rw [show rdone (lm M) R=true from decide_eq_true (.inr (by omega))]
   have es:rstep (lm M) R=({lm M with hs:=M.hs.set 5 (-1)},{R with nx:=12}):=by
    unfold rstep; rw [if_neg e0,if_neg (by omega),if_neg (by omega),if_neg (by omega),if_neg e6,if_neg e10]
   rw [es]
   rw [hh,e11] at hB
   refine step_fm c3 es_fr ((free_last hM hB hwk.1 ok.hl (ok.last e11)).mono ?_)
   rintro x w' ⟨rfl,hM',hB',hO⟩
   exact ⟨rfl,stp_lock (by show 12≠6; omega) ⟨rfl,rfl,rfl⟩ hM' hB' hO⟩
end
theorem rz_frm:Frm rzL 72 233 234 Okrz rready rstep rdone where
 below h hb:=rz_below h hb
 mr b w f:=by kernel_rfl
 ms b w f:=by kernel_rfl
 er args w:=by kernel_rfl
 es args w:=by kernel_rfl
 ready hM h ok:=rz_ready hM h ok
 step hM h ok hr:=rz_step hM h ok hr
end Go.Proofs.YtpobbnllcoabhaaGreatDoor.Zr
namespace Go.Proofs.YtpobbnllcoabhaaGreatDoor.LawSix
open Go Go.RowKit Hp K Fl Rw Hm Ar Mm Me LK Qs
set_option maxRecDepth 100000
set_option maxHeartbeats 1000000 in
theorem awake (w:World):Calls Tryz.prog 78 #[] w fun e w'=>e=.returned (.bool true)∧Below w.heap.size w w':=by
 have hN:=Lib.hid (made_yes 1 2 w (by omega) (by omega))
 go_enter Tryz.func78,Tryz.ntmps78
 go_wp2_with fail
 refine hN.out.mono ?_
 rintro e w1 ⟨M,rfl,hM,hlo,hB,h1,h2,h3,h4,h5,h6,h7⟩
 clear hN
 have hE:=Lib.hid (enter_any 1 w1)
 replace hM:=Lib.hid hM
 replace hlo:=Lib.hid hlo
 replace hB:=Lib.hid hB
 replace h1:=Lib.hid h1
 replace h4:=Lib.hid h4
 replace h5:=Lib.hid h5
 clear h2 h3 h6 h7
 go_wp2_with fail
 refine hE.out.mono ?_
 rintro e w2 ⟨rfl,hE2,hB2⟩
 have hS:=Lib.hid (sync_any 0 w2)
 replace hM:=Lib.hid (hM.out.below hB2)
 replace hE2:=Lib.hid hE2
 replace hB2:=Lib.hid hB2
 clear hE
 go_wp2_with fail
 refine hS.out.mono ?_
 rintro e w3 ⟨rfl,hW3,hB3⟩
 replace hM:=Lib.hid (hM.out.below hB3)
 have hE3:CmAt w3 w1.heap.size ⟨1,0,0⟩:=hE2.out.only (Only.ofBelow hB3 (fun _=>False)) (by simp)
 have hne:w1.heap.size≠w2.heap.size:=by have:=hE2.out.lt; omega
 have hB03:=Lib.hid (hB.out.trans ((hB2.out.trans (hB3.mono hB2.out.size)).mono hB.out.size))
 have hge1:w.heap.size≤w1.heap.size:=hB.out.size
 have hge2:w.heap.size≤w2.heap.size:=by have:=hB2.out.size; omega
 clear hS hE2 hB hB2 hB3
 generalize w1.heap.size=fe at*
 generalize w2.heap.size=fs at*
 have hF1:=finish_coming hM.out hE3 (by simp) (by rw [h1.out]; simp) (by simp) (by simp) 9 (by omega)
 have e1:fin (fun _=>true) stC (fun s=>decide (s.2.at_=1)) 9 (M.xs,(⟨1,0,0⟩:Cm))=(2,true,[1,0,0,1,0],⟨1,2,1⟩):=by rw [h1.out]; rfl
 rw [e1] at hF1
 replace hF1:=Lib.hid hF1
 replace hW3:=Lib.hid hW3
 replace hge1:=Lib.hid hge1
 replace hge2:=Lib.hid hge2
 replace hne:=Lib.hid hne
 clear e1 hE3
 go_wp2_with fail
 refine hF1.out.mono ?_
 rintro e w4 ⟨rfl,hM4,hC4,hO4⟩
 have hW4:WtAt w4 fs ⟨0,0,0,0⟩:=hW3.out.only hO4 (by
  rintro (q | q)
  · exact (hW3.out.far hM.out) q
  · exact hne.out q.symm)
 have hF2:=finish_wait (n:=2) hM4 hW4 h5.out ⟨by omega,by simp,by simp,by rw [h4.out]; simp,by simp,by simp,by simp⟩ 9 (by omega)
 have e2:fin rdW (stW 2) dnW 9 ([1,0,0,1,0],M.hs,(⟨0,0,0,0⟩:Wt))=(3,false,[2,0,0,1,0],[0, -1, -1, -1, -1, -1],⟨0,2,2,1⟩):=by rw [h4.out]; rfl
 rw [e2] at hF2
 replace hF2:=Lib.hid hF2
 replace hO4:=Lib.hid hO4
 replace hM4:=Lib.hid hM4
 clear e2 hC4 hW4 hF1
 go_wp2_with fail
 refine hF2.out.mono ?_
 rintro e w5 ⟨rfl,hM5,hW5,hO5⟩
 have low:∀ (a b:World) (f:Nat),Below w.heap.size w a→Only (fun x=>mfoot M x∨x=f) a b→w.heap.size≤f→Below w.heap.size w b:=fun a b f ha ho hf=>ha.trans (ho.toBelow ha.size (fun x hx q=>by
  rcases q with q | q
  · have:=hlo.out x q; omega
  · omega))
 replace low:=Lib.hid low
 have hB5:=low.out _ _ _ (low.out _ _ _ hB03.out hO4.out hge1.out) hO5 hge2.out
 have hL:=Lib.hid (leave_any 1 w5)
 replace hM5:=Lib.hid hM5
 replace hW5:=Lib.hid hW5
 replace hB5:=Lib.hid hB5
 clear hO5 hO4 hM4 hF2 hM hW3 hB03 hge1 hne
 go_wp2_with fail
 refine hL.out.mono ?_
 rintro e w6 ⟨rfl,hG6,hB6⟩
 have hM6:=hM5.out.below hB6
 have hW6:WtAt w6 fs ⟨0,2,2,1⟩:=hW5.out.only (Only.ofBelow hB6 (fun _=>False)) (by simp)
 have hge3:w.heap.size≤w5.heap.size:=hB5.out.size
 have hne:w5.heap.size≠fs:=by have:=hW5.out.lt; omega
 have hB6':=Lib.hid (hB5.out.trans (hB6.mono hge3))
 generalize w5.heap.size=fl at*
 have hI6:Hid (Calls Tryz.prog 107 #[ptr M.m,.int .i64 1] w6 fun e w'=>e=.returned (.bool true)∧∃ n,w'=w6.drewN n):=Lib.hid (in_any hM6 1 (by simp) (by omega))
 replace hG6:=Lib.hid hG6
 replace hM6:=Lib.hid hM6
 replace hW6:=Lib.hid hW6
 replace hge3:=Lib.hid hge3
 replace hne:=Lib.hid hne
 clear hB6 hL hB5 hM5 hW5
 go_wp2_with fail
 refine hI6.out.mono ?_
 rintro e w7 ⟨rfl,nq,rfl⟩
 have hM7:=hM6.out.drewN nq
 have hW7:WtAt (w6.drewN nq) fs ⟨0,2,2,1⟩:=hW6.out.only ((Only.refl (fun _=>False) w6).drewN nq) (by simp)
 have hG7:GgAt (w6.drewN nq) fl 1 0:=hG6.out.only ((Only.refl (fun _=>False) w6).drewN nq) (by simp)
 have hB7:Below w.heap.size w (w6.drewN nq):=hB6'.out.trans ⟨rfl,rfl,rfl,Nat.le_refl _,fun _ _=>rfl⟩
 have hGf:=hG7.far hM7
 have hWf:=hW7.far hM7
 generalize w6.drewN nq=w7 at*
 have hF3:=Lib.hid (finish_going hM7 hG7 (by simp) (by omega) 9 (by omega) (by omega))
 replace hB7:=Lib.hid hB7
 replace hW7:=Lib.hid hW7
 replace hWf:=Lib.hid hWf
 clear hM7 hG7 hM6 hW6 hG6 hI6 hB6' hGf
 go_wp2_with fail
 refine hF3.out.mono ?_
 rintro e w8 ⟨rfl,hM8,hG8,hO8⟩
 have hW8:WtAt w8 fs ⟨0,2,2,1⟩:=hW7.out.only hO8 (by
  rintro (q | q)
  · exact hWf.out q
  · exact hne.out q.symm)
 have hB8:=Lib.hid (low.out _ _ _ hB7.out hO8 hge3.out)
 have hF4:=finish_wait (n:=2) hM8 hW8 h5.out ⟨by omega,by simp,by simp,by simp,by simp,by simp,by simp [Lo.hol]⟩ 9 (by omega)
 have e3:fin rdW (stW 2) dnW 9 ([2,0,0,1,0].set (2+1) 0,[0, -1, -1, -1, -1, -1],(⟨0,2,2,1⟩:Wt))=(2,true,[2,0,0,0,0],[-1, -1, -1, -1, -1, -1],⟨0,4,2,2⟩):=by rfl
 have hF4':Calls Tryz.prog 9 #[ptr M.m,.iface 146 (ptr fs),.int .i64 9] w8 fun e w'=>e=.returned (.tuple #[.int .i64 2,.bool true])∧InvW w8 M fs ([2,0,0,0,0],[-1, -1, -1, -1, -1, -1],⟨0,4,2,2⟩) w':=by
  simp only at hF4
  rw [e3] at hF4
  exact hF4
 replace hF4':=Lib.hid hF4'
 clear e3 hF4 hW7 hWf hB7 hF3 hO8 hG8 hM8 hW8
 go_wp2_with fail
 refine hF4'.out.mono ?_
 rintro e w9 ⟨rfl,hM9,hW9,hO9⟩
 have hB9:=Lib.hid (low.out _ _ _ hB8.out hO9 hge2.out)
 replace hM9:=Lib.hid hM9
 clear hF4' hO9 hW9 hB8
 go_wp2_with fail
 refine (LawFive.awake w9).mono ?_
 rintro e w10 ⟨rfl,hB10⟩
 have hM10:=hM9.out.below hB10
 have hB:=Lib.hid (hB9.out.trans (hB10.mono hB9.out.size))
 have hI:Hid (Calls Tryz.prog 107 #[ptr M.m,.int .i64 1] w10 fun e w'=>e=.returned (.bool false)∧∃ n,w'=w10.drewN n):=Lib.hid (in_any hM10 1 (by simp) (by omega))
 clear hM10 hB10 hB9 hM9
 go_wp2_with (go_at_call 107; refine hI.out.mono ?_; rintro e w' ⟨rfl,nq,rfl⟩)
 go_ret
 exact ⟨rfl,hB.out.trans ⟨rfl,rfl,rfl,Nat.le_refl _,fun _ _=>rfl⟩⟩
end Go.Proofs.YtpobbnllcoabhaaGreatDoor.LawSix
namespace Go.Proofs.YtpobbnllcoabhaaGreatDoor.LawNine
open Go Go.RowKit Hp K Fl Rw Hm Ar Mm Me LK Wk LawSix
set_option maxRecDepth 100000
theorem nexts_zero (n:Nat):Nexts (List.replicate n .zero):=fun k=>by
 simp only [at',List.getD,List.getElem?_replicate]
 split<;>simp [Sl.zero,Nd.zero]
theorem low_only {W0 a b:World} {M:Mo} {f:Nat} (ha:Below W0.heap.size W0 a) (hlo:∀ x,mfoot M x→W0.heap.size≤x) (hf:W0.heap.size≤f) (ho:Only (fun x=>mfoot M x∨x=f) a b):Below W0.heap.size W0 b:=
 ha.trans (ho.toBelow ha.size (fun x hx q=>by
  rcases q with q | q
  · have:=hlo x q; omega
  · omega))
theorem fin_empty (f:Nat) (k:ByteArray) (ss:List Sl) (F:Bool):wfin [1,0,0,0] ss 5 (F,new f 3 0 k)=(1,true,(F,{new f 3 0 k with nx:=3})):=by
 simp [wfin,fin,gstep,gdone,goTo,word,new,Cl.nth]
set_option maxHeartbeats 1000000 in
theorem awake (w:World):Calls Tryz.prog 79 #[] w fun e w'=>e=.returned (.bool true)∧Below w.heap.size w w':=by
 have hN:=Lib.hid (made_yes 1 1 w (by omega) (by omega))
 go_enter Tryz.func79,Tryz.ntmps79
 go_wp2_with fail
 refine hN.out.mono ?_
 rintro e w1 ⟨M,rfl,hM,hlo,hB,h1,h2,h3,h4,h5,h6,h7⟩
 clear hN
 have hE:=Lib.hid (new_any 3 0 ⟨#[97]⟩ w1)
 replace hM:=Lib.hid hM
 replace hlo:=Lib.hid hlo
 replace hB:=Lib.hid hB
 replace h1:=Lib.hid h1
 replace h2:=Lib.hid h2
 clear h3 h7 h5 h4 h6
 go_wp2_with fail
 refine hE.out.mono ?_
 rintro e w2 ⟨rfl,hE2,hB2⟩
 have hM2:=hM.out.below hB2
 have hge:w.heap.size≤w1.heap.size:=hB.out.size
 have hB02:=Lib.hid (hB.out.trans (hB2.mono hge))
 have hF:=finish_walk hM2 hE2 (by rw [h2.out]; exact nexts_zero 1) 5 (by omega) ⟨by simp [new],by simp [new],by simp [new],by simp [new]⟩
 rw [h1.out,show (1:Int)::List.replicate (1+2) 0=[1,0,0,0] from rfl,fin_empty] at hF
 replace hF:=Lib.hid hF
 clear hM hE hB2 hE2 hM2 hB
 generalize w1.heap.size=f at*
 replace hge:=Lib.hid hge
 go_wp2_with fail
 refine hF.out.mono ?_
 rintro e w3 ⟨rfl,hM3,hW3,_,hO3⟩
 have hB3:=Lib.hid (low_only hB02.out hlo.out hge.out hO3)
 have hFd:Hid (Calls Tryz.prog 66 #[ptr f] w3 fun e w'=>e=.returned (.tuple #[.int .u64 0,.agg #[.string ⟨#[]⟩,.string ⟨#[]⟩,.int .u32 0,.int .u64 0],.bool false])∧Below w3.heap.size w3 w'):=Lib.hid (found_any hW3)
 replace hM3:=Lib.hid hM3
 replace hW3:=Lib.hid hW3
 clear hF hO3 hB02
 go_wp2_with fail
 refine hFd.out.mono ?_
 rintro e w4 ⟨rfl,hB4⟩
 have hW4:=hW3.out.below hB4
 have hB04:=Lib.hid (hB3.out.trans (hB4.mono hB3.out.size))
 have lf:=hW4.lt
 replace hW4:=Lib.hid hW4
 clear hM3 hW3 hB3 hB4 hFd
 go_wp2_with fail
 refine (LawFive.awake _).mono ?_
 rintro e w5 ⟨rfl,hB5⟩
 have hB45:Below w4.heap.size w4 w5:=((Below.refl _ _).alloc (Nat.le_refl _) _).trans (hB5.mono (by simp))
 have hB05:=Lib.hid (hB04.out.trans (hB45.mono hB04.out.size))
 have hFi:Hid (Calls Tryz.prog 108 #[ptr f] w5 fun e w'=>e=.returned (.int .u64 0)∧w5=w'):=Lib.hid (first_any (hW4.out.below hB45))
 clear hB5 hB45 hB04 hW4
 go_wp2_with (go_at_call 108; refine hFi.out.mono ?_; rintro e w' ⟨rfl,rfl⟩)
 go_ret
 exact ⟨rfl,hB05.out⟩
end Go.Proofs.YtpobbnllcoabhaaGreatDoor.LawNine
namespace Go.Proofs.YtpobbnllcoabhaaGreatDoor.LawTen
end Go.Proofs.YtpobbnllcoabhaaGreatDoor.LawTen
namespace Go.Proofs.YtpobbnllcoabhaaGreatDoor.LawEl
open Go Go.RowKit Hp K Fl Rw Hm Ar Mm Me LK Wk Pc LawTen
set_option maxRecDepth 100000
def prc (p:Pr):List Value:=[.string p.1,.string p.2]
abbrev Prs (w:World) (A:Option Addr) (cap:Nat) (l:List Pr):Prop:=Row w 1000000 2 prc A cap l
end Go.Proofs.YtpobbnllcoabhaaGreatDoor.LawEl
namespace Go.Proofs.YtpobbnllcoabhaaGreatDoor.LawTen
open Go Go.RowKit Hp K Fl Rw Hm Ar Mm Me LK Qs Wk Gt Pc LawSix
set_option maxRecDepth 100000
theorem low_get {W0 a b:World} {M:Mo} {g:Ga} (ha:Below W0.heap.size W0 a) (hlo:∀ x,mfoot M x→W0.heap.size≤x) (hg:∀ x,gfoot g x→W0.heap.size≤x) (ho:Only (fun x=>mfoot M x∨gfoot g x) a b):Below W0.heap.size W0 b:=
 ha.trans (ho.toBelow ha.size (fun x hx q=>by
  rcases q with q | q
  · have:=hlo x q; omega
  · have:=hg x q; omega))
theorem ev_made {n k j:Nat} (hn:n≤1024) (hk:k≤8) (hj:j<k) (key:ByteArray) (F:Bool):Ev.Ok ⟨[(1,k+2)],List.replicate n .zero,1::List.replicate (k+2) 0,F,key,j,[],0⟩:=by
 have hb:=bucket_lt (n:=1) (by decide) (sm key) (sm_bd key).1
 have hz:∀ i,i≠0→Cl.nth (1::List.replicate (k+2) 0) i=0:=by
  intro i hi
  obtain ⟨i,rfl⟩:∃ i',i=i'+1:=⟨i-1,by omega⟩
  simp only [Cl.nth,List.getD,List.getElem?_cons_succ,List.getElem?_replicate]
  split<;>rfl
 have hnow:now (1::List.replicate (k+2) 0) [(1,k+2)]=(1,k+2):=by
  unfold now
  rw [hz 1 (by omega)]
  rfl
 have hc:Ev.cell ⟨[(1,k+2)],List.replicate n .zero,1::List.replicate (k+2) 0,F,key,j,[],0⟩=((k+2:Nat):Int):=by
  unfold Ev.cell cellOf
  simp only
  rw [hnow]
  simp only
  rw [if_neg (by omega)]
  omega
 refine ⟨by simp; omega,LawNine.nexts_zero n,?_,⟨by simp; omega,by simp only; omega⟩,?_,hz _ (by simp only; omega),?_,?_,Nat.le_refl _,by simp only; omega⟩
 · intro i
   simp only [tab,List.getD]
   rcases i with _ | i
   · simp; omega
   · simp
 · intro x hx
   simp only [List.mem_cons,List.mem_replicate] at hx
   omega
 · rw [hc]; simp only; omega
 · rw [hc]
   have:word (1::List.replicate (k+2) 0) ((k+2:Nat):Int)=0:=by
    unfold word
    split
    · rw [Int.toNat_natCast,hz _ (by omega)]; rfl
    · rfl
   simp only
   rw [this]
   exact .nil
set_option maxHeartbeats 1000000 in
theorem awake (w:World):Calls Tryz.prog 49 #[] w fun e w'=>e=.returned (.bool true)∧Below w.heap.size w w':=by
 have hN:=Lib.hid (made_yes 1 1 w (by omega) (by omega))
 go_enter Tryz.func49,Tryz.ntmps49
 go_wp2_with fail
 refine hN.out.mono ?_
 rintro e w1 ⟨M,rfl,hM,hlo,hB,h1,h2,h3,h4,h5,h6,h7⟩
 clear hN
 have hE:=Lib.hid (Gt.new_any 0 ⟨#[97]⟩ (by simp [maxLen]; decide) w1)
 have hv:Ev.Ok ⟨M.ds,M.ss,M.xs,M.F,⟨#[97]⟩,0,[],0⟩:=by
  rw [h1,h2,h6]
  exact ev_made (by omega) (by omega) (by omega) _ _
 replace hv:=Lib.hid hv
 replace hM:=Lib.hid hM
 replace hlo:=Lib.hid hlo
 replace hB:=Lib.hid hB
 clear h1 h2 h3 h7 h5 h4 h6
 go_wp2_with fail
 refine hE.out.mono ?_
 rintro e w2 ⟨a,rfl,hE2,hA2,hB2⟩
 have hM2:=hM.out.below hB2
 have hge:w.heap.size≤w1.heap.size:=hB.out.size
 have hB02:=Lib.hid (hB.out.trans (hB2.mono hge))
 have hF:=Lib.hid (get_ends hM2 hE2 hv.out 20 (by omega))
 have hA:=Lib.hid (fun x hx=>Nat.le_trans hge (hA2 x hx))
 clear hM hE hB2 hE2 hM2 hB hA2 hv hge
 go_wp2_with fail
 refine hF.out.mono ?_
 rintro e w3 ⟨n,G,a',rfl,hn,hr,hf,hM3,hG3,ea,_,hO3⟩
 obtain rfl:n=5:=by omega
 have hB3:=Lib.hid (low_get hB02.out hlo.out hA.out hO3)
 have hFd:=val_any hG3
 rw [hf.1,hf.2,ea] at hFd
 replace hFd:Hid (Calls Tryz.prog 35 #[ptr a.f] w3 fun e w'=>e=.returned (.tuple #[.string ⟨#[]⟩,.bool false])∧Below w3.heap.size w3 w'):=Lib.hid hFd
 clear hF hO3 hB02 hM3 hG3 hn hr hf ea hA hlo
 go_wp2_with fail
 refine hFd.out.mono ?_
 rintro e w4 ⟨rfl,hB4⟩
 have hB04:=Lib.hid (hB3.out.trans (hB4.mono hB3.out.size))
 clear hB3 hB4 hFd
 go_wp2_with fail
 refine (LawSix.awake _).mono ?_
 rintro e w5 ⟨rfl,hB5⟩
 have hB05:=Lib.hid (hB04.out.trans (hB5.mono hB04.out.size))
 clear hB5 hB04
 go_wp2_with fail
 refine (LawNine.awake _).mono ?_
 rintro e w6 ⟨rfl,hB6⟩
 have hB06:=Lib.hid (hB05.out.trans (hB6.mono hB05.out.size))
 clear hB6 hB05
 go_wp2_with fail
 go_ret
 exact ⟨rfl,hB06.out⟩
end Go.Proofs.YtpobbnllcoabhaaGreatDoor.LawTen
namespace Go.Proofs.YtpobbnllcoabhaaGreatDoor.LawEl
open Go Go.RowKit Hp K Fl Rw Hm Ar Mm Me LK Qs Wk Re LawSix Pn Pc Mq Pu LawTen
set_option maxRecDepth 100000
def Still (us:List TypeId) (w w':World):Prop:=∀ x t cs,t∉us→Blk w x t cs→Blk w' x t cs
theorem still_only {S:Nat→Prop} {us:List TypeId} {w w':World} (ho:Only S w w') (hS:∀ x,S x→Ty w x us):Still us w w':=fun x t cs ht hb=>hb.only ho (fun q=>(hS x q).apart (blk_ty hb) (fun t' h1 h2=>by
 have:t'=t:=by simpa using h2
 subst this
 exact ht h1))
structure S11 (W0 w:World) (M:Mo) (A:Option Addr) (cap:Nat) (l:List Pr):Prop where
 mem:MemAt w M
 row:Prs w A cap l
 below:Below W0.heap.size W0 w
 lom:∀ x,mfoot M x→W0.heap.size≤x
 low:∀ x,In A x→W0.heap.size≤x
section
variable {W0 w w':World} {M:Mo} {A:Option Addr} {cap:Nat} {l:List Pr} {n B:Nat} {cs:Nat→List Mq.Hp} {G:Nat}
theorem S11.down (h:S11 W0 w M A cap l) (hb:Below w.heap.size w w'):S11 W0 w' M A cap l:=
 ⟨h.mem.below hb,h.row.only (Only.ofBelow hb (fun _=>False)) (by simp),h.below.trans (hb.mono h.below.size),h.lom,h.low⟩
theorem S11.moved {M':Mo} {S:Nat→Prop} (h:S11 W0 w M A cap l) (hM:MemAt w' M') (hf:∀ x,mfoot M' x→mfoot M x∨w.heap.size≤x) (ho:Only S w w') (hS:∀ x,S x→W0.heap.size≤x) (hA:∀ x,In A x→¬S x):S11 W0 w' M' A cap l:=
 ⟨hM,h.row.only ho hA,h.below.trans (ho.toBelow h.below.size (fun x hx q=>by have:=hS x q; omega)),fun x hx=>by
  rcases hf x hx with q | q
  · exact h.lom x q
  · have:=h.below.size; omega,h.low⟩
theorem S11.apart (h:S11 W0 w M A cap l) {x:Nat} (hx:In A x) {us:List TypeId} (hd:1000000∉us):¬Ty w x us:=fun q=>q.apart (row_ty h.row hx) (by
 intro t ht ht2
 have:t=1000000:=by simpa using ht2
 subst this
 exact hd ht)
theorem S11.ap_mem (h:S11 W0 w M A cap l) {x:Nat} (hx:In A x):¬mfoot M x:=fun q=>h.apart hx (by decide) (h.mem.ty q)
def PutS (W0 w w':World) (M:Mo) (A:Option Addr) (cap:Nat) (lr l:List Pr) (n B G:Nat) (key val:ByteArray) (a:Qa):Prop:=
 ∃ (M':Mo) (a':Qa) (P':Pt),S11 W0 w' M' A cap lr∧M'.m=M.m∧PuAt w' a' P'∧a'.f=a.f∧P'.mine=0∧decide (P'.W.found≠0)=(Pc.lk l key).isSome∧M'.ss.length=M.ss.length∧M'.k=M.k∧Still (memTypes++putTypes) w w'∧
   ((freePl M.ss=none∧P'.err=4∧lm M'=lm M)∨((freePl M.ss).isSome∧P'.err=0∧M'.ws.length=M.ws.length+(if (Pc.lk l key).isSome then 1 else 0)∧∃ cs',∀ l',Upd l l' key val→Mp (lm M') n B cs' l' (G+1)))
theorem put_s {lr:List Pr} (h:S11 W0 w M A cap lr) (hm:Mp (lm M) n B cs l G) (hG:G≤1000000) {a:Qa} {hh:Nat} {i:Int} {key val:ByteArray} (hi:0≤i∧i≤1000) (hP:PuAt w a (newPut hh i key val)) (hlow:∀ x,pfoot a (newPut hh i key val) x→W0.heap.size≤x) (K:Nat) (hc:∀ b,b<n→(cs b).length+8≤K) (hK:K≤1000000):
 Calls Tryz.prog 9 #[ptr M.m,.iface 84 (ptr a.f),.int .i64 K] w fun e w'=>(∃ k:Nat,e=.returned (.tuple #[.int .i64 k,.bool true]))∧PutS W0 w w' M A cap lr l n B G key val a:=by
 have hE:=hm.eok (key:=key) (val:=val) (i:=i) (hb:=hh) hG hi
 have hcl:=hc (bkt key n) (bkt_lt hm.pw key).1
 refine (put_ends h.mem hP hE K ⟨by omega,hK⟩).mono fun e w' q=>?_
 obtain ⟨k,s,q1,_,q3,M',a',r1,r2,r3,r4,r5,r7,r8⟩:=q
 obtain ⟨m1,m2,m3⟩:=put_map hm hG hi q3
 have hff:∀ x,puL.foot a (newPut hh i key val) x→pfoot a (newPut hh i key val) x:=fun x q=>q
 refine ⟨⟨k,q1⟩,M',a',s.2,h.moved r1 r3.foot r8 (fun x q=>?_) (fun x hx q=>?_),r3.m,r4,r5,m2,m1,?_,?_,still_only r8 (fun x q=>?_),?_⟩
 · rcases q with q | q
   · exact h.lom x q
   · exact hlow x (hff x q)
 · rcases q with q | q
   · exact h.ap_mem hx q
   · exact h.apart hx (by decide) (hP.ty (hff x q))
 · have e:M'.ss=s.1.ss:=by rw [← r2]
   rcases m3 with ⟨_,q2,_⟩ | ⟨_,_,_,q4,_⟩
   · rw [e,q2]
   · rw [e,q4]
 · have e:M'.k=s.1.k:=by rw [← r2]
   rcases m3 with ⟨_,q2,_⟩ | ⟨_,_,_,_,q5,_⟩
   · rw [e,q2]
   · rw [e,q5]
 · rcases q with q | q
   · exact (h.mem.ty q).mono (fun t ht=>List.mem_append_left _ ht)
   · exact (hP.ty (hff x q)).mono (fun t ht=>List.mem_append_right _ ht)
 · rcases m3 with ⟨q1,q2,q3⟩ | ⟨q1,q2,q3,_,_,q6⟩
   · exact .inl ⟨q1,q3,r2.trans q2⟩
   · refine .inr ⟨q1,q2,?_,?_⟩
     · have e:M'.ws=s.1.ws:=by rw [← r2]
       rw [e,q3]
     · rw [r2]; exact q6
theorem ev_map (hm:Mp (lm M) n B cs l G) (key:ByteArray) {j:Nat} (hj:(j:Int)<M.k):Gt.Ev.Ok ⟨M.ds,M.ss,M.xs,M.F,key,j,prs (cs (bkt key n)),(cs (bkt key n)).length⟩∧lk (prs (cs (bkt key n))) key=lk l key:=by
 have hsm:=hm.small
 obtain ⟨hb1,hb2⟩:=bkt_lt hm.pw key
 have hql:=hm.ql hb1
 have hnb:=hm.n_bd
 have hkB:2+M.k≤B:=hm.kB
 have hk:1≤M.k∧M.k≤8:=hm.k
 have hxl:B+n≤M.xs.length:=hm.xl
 have hc:Gt.cellOf (sm key) (Me.now M.xs M.ds)=((B+bkt key n:Nat):Int):=by
  have hnow:Me.now M.xs M.ds=(n,B):=hm.now
  unfold Gt.cellOf
  rw [hnow]
  simp only
  rw [if_neg (by omega),hb2]
  omega
 refine ⟨⟨hsm.2,hm.nexts,hm.tb,⟨by simp only; omega,by simp only; omega⟩,hm.xb,hm.zero j hj,?_,?_,by simp only [prs,List.length_map]; omega,by simp only; omega⟩,(hm.lk key).symm⟩
 · unfold Gt.Ev.cell
   simp only
   rw [hc]
   omega
 · unfold Gt.Ev.cell
   simp only
   rw [hc]
   have e:word M.xs ((B+bkt key n:Nat):Int)=(Cl.nth M.xs (B+bkt key n)).toNat:=by
    unfold word
    rw [if_pos (by omega),Int.toNat_natCast]
   rw [e]
   exact (hm.ch _ hb1).cn
end
theorem Mp.ql2 {L:Lm} {n B:Nat} {cs:Nat→List Mq.Hp} {l:List Pr} {G:Nat} (h:Mp L n B cs l G):(∀ b,b<n→(cs b).length≤L.ss.length)∧(frees L.ss L.ss.length).length+L.ws.length+l.length=L.ss.length:=by
 have:=h.wr.cnt
 have hl:=h.len
 refine ⟨fun b hb=>?_,by omega⟩
 have:=h.ql hb
 omega
theorem freePl_frees (ss:List Sl):freePl ss=none↔(frees ss ss.length).length=0:=by
 rw [freePl_none]
 constructor
 · intro h
   rw [List.length_eq_zero_iff]
   apply List.eq_nil_iff_forall_not_mem.2
   intro a ha
   obtain ⟨h1,h2⟩:=mem_frees.1 ha
   rw [h a h1] at h2
   simp at h2
 · intro h k hk
   by_cases ht:(at' ss k).taken=true
   · exact ht
   · have hm:k∈frees ss ss.length:=mem_frees.2 ⟨hk,by simpa using ht⟩
     have:=List.length_pos_of_mem hm
     omega
theorem mp_new {L:Lm} {n B N:Nat} (hpw:FM.power n=true) (hn:n≤32) (hN:N≤1024) (hk:1≤L.k∧L.k≤8) (hkB:2+L.k≤B) (hB:B≤20) (hxs:∀ i,i≠0→i≠1→Cl.nth L.xs i=0) (hxl:L.xs.length=B+n) (hxb:∀ x∈L.xs,0≤x∧x≤18446744073709551615) (hnow:Me.now L.xs L.ds=(n,B)) (hds:∀ i,i<L.ds.length→1≤(tab L.ds i).1∧(tab L.ds i).1≤32∧(tab L.ds i).2+(tab L.ds i).1≤B+n)
 (hss:L.ss=List.replicate N .zero) (hhs:L.hs=List.replicate 6 (-1)) (hF:L.F=false) (hws:L.ws=[]):Mp L n B (fun _=>[]) [] 0:=by
 have ha:alls n (fun _=>([]:List Mq.Hp))=[]:=by simp [alls]
 refine ⟨hpw,hnow,fun i hi=>?_,fun i=>?_,hk,hkB,by omega,hxb,by rw [hss]; exact LawNine.nexts_zero N,fun b hb=>?_,fun b _ e he=>by simp at he,fun b _=>by simp,?_,by simp,fun key=>rfl,by rw [ha]; rfl,fun i hi=>hxs _ (by omega) (by omega),hhs,hF⟩
 · have:=hds i hi
   rw [hxl]
   omega
 · by_cases hi:i<L.ds.length
   · have:=hds i hi
     omega
   · rw [tab_none (by omega)]
     simp
 · rw [hxs _ (by omega) (by omega)]
   exact .nil
 · rw [ha,hss,hws]
   exact wr_new N hN
theorem nth_made (k i:Nat) (h:i≠0):Cl.nth (1::List.replicate k 0) i=0:=by
 obtain ⟨i,rfl⟩:∃ i',i=i'+1:=⟨i-1,by omega⟩
 simp only [Cl.nth,List.getD,List.getElem?_cons_succ,List.getElem?_replicate]
 split<;>rfl
theorem mp_made {w w':World} {n k:Nat} {M:Mo} (h:MadeP w n k M w') (hn:n≤1024) (hk:1≤k∧k≤8):Mp (lm M) 1 (k+2) (fun _=>[]) [] 0:=by
 obtain ⟨hM,hlo,hB,h1,h2,h3,h4,h5,h6,h7⟩:=h
 refine mp_new (N:=n) (by decide) (by omega) hn (by show 1≤M.k∧M.k≤8; omega) (by show 2+M.k≤_; omega) (by omega) (fun i h0 _=>by show Cl.nth M.xs i=0; rw [h1]; exact nth_made _ _ h0) (by show M.xs.length=_; rw [h1]; simp) hM.2.1.2.2.1 ?_ ?_ h2 h4 h3 h7
 · show Me.now M.xs M.ds=_
   unfold Me.now
   rw [h1,nth_made _ _ (by omega),h6]
   rfl
 · intro i hi
   have hi:i<M.ds.length:=hi
   show 1≤(tab M.ds i).1∧(tab M.ds i).1≤32∧(tab M.ds i).2+(tab M.ds i).1≤k+2+1
   rw [h6] at hi ⊢
   have:i=0:=by simpa using hi
   subst this
   exact ⟨by simp [tab],by simp [tab],by simp [tab]⟩
end Go.Proofs.YtpobbnllcoabhaaGreatDoor.LawEl
namespace Go.Proofs.YtpobbnllcoabhaaGreatDoor.LawFn
open Go Go.RowKit Hp K Fl Rw Hm Ar Mm Me LK Qs Wk Pc Pn Mq Pu Zp Mx LawTh Bs Zr LawEl
theorem fin_just {S:Type} {rd:S→Bool} {st:S→S} {dn:S→Bool} (R:Nat→S→Prop) (h:∀ k s,R k s→rd s=true∧1≤k∧(dn s=true→k=1)∧(dn s=false→R (k-1) (st s))):
 ∀ K k s,R k s→k≤K→∃ s',fin rd st dn K s=(k,true,s'):=by
 intro K
 induction K with
 | zero=>
   intro k s hR hk
   have:=(h k s hR).2.1
   omega
 | succ K ih=>
   intro k s hR hk
   obtain ⟨h1,h2,h3,h4⟩:=h k s hR
   unfold fin
   rw [if_pos h1]
   cases hd:dn s with
   | true=>
     rw [if_pos rfl,h3 hd]
     exact ⟨_,rfl⟩
   | false=>
     obtain ⟨s',e⟩:=ih (k-1) (st s) (h4 hd) (by omega)
     rw [if_neg (by simp),e]
     exact ⟨s',by simp only; rw [show k-1+1=k by omega]⟩
def left (nx:Nat):Nat:=if nx≤5 then 11-nx else 12-nx
def Idle (L0:Lm) (H:List Nat) (N:Num) (s:Nat) (l:List Pr) (xs:List Int) (ds:List (Nat×Nat)) (k:Nat) (S:Lm×Rz):Prop:=
 (∃ k0,Lone L0 H N s l k0 S)∧S.1.xs=xs∧S.1.ds=ds∧S.2.size=((now xs ds).1:Int)∧1≤S.2.nx∧S.2.nx≠6∧S.2.nx≤11∧k=left S.2.nx
theorem idle_step {L0:Lm} {H:List Nat} {N:Num} {s:Nat} {l:List Pr} {xs:List Int} {ds:List (Nat×Nat)} {k:Nat} {S:Lm×Rz} (h:Idle L0 H N s l xs ds k S):rready S.1 S.2=true∧1≤k∧(rdone S.1 S.2=true→k=1)∧(rdone S.1 S.2=false→Idle L0 H N s l xs ds (k-1) (rstep S.1 S.2))∧(rstep S.1 S.2).1.xs=xs∧(rstep S.1 S.2).1.ds=ds:=by
 obtain ⟨⟨k0,hL⟩,h1,h2,h3,h4,h5,h6,rfl⟩:=h
 obtain ⟨a1,a2,a3,a4,a5⟩:=hL.step
 have hlk:1≤left S.2.nx:=by unfold left; split<;>omega
 have hx:(rstep S.1 S.2).1.xs=xs∧(rstep S.1 S.2).1.ds=ds∧(rdone S.1 S.2=false→(rstep S.1 S.2).2.size=S.2.size∧(rstep S.1 S.2).2.nx=if S.2.nx=5 then 7 else S.2.nx+1):=by
  unfold rstep rdone
  rw [if_neg (by omega)]
  by_cases q1:S.2.nx=1
  · rw [if_pos q1]; exact ⟨h1,h2,fun _=>⟨rfl,by rw [q1]; rfl⟩⟩
  rw [if_neg q1]
  by_cases q2:S.2.nx≤4
  · rw [if_pos q2]; exact ⟨h1,h2,fun _=>⟨rfl,by rw [if_neg (by omega)]⟩⟩
  rw [if_neg q2]
  by_cases q3:S.2.nx=5
  · rw [if_pos q3]
    have e:Zr.look S.1 S.2={S.2 with nx:=7}:=by unfold Zr.look; rw [h1,h2,if_pos h3.symm]
    exact ⟨h1,h2,fun _=>by rw [e]; exact ⟨rfl,by rw [if_pos q3]⟩⟩
  rw [if_neg q3,if_neg h5]
  by_cases q4:S.2.nx≤10
  · rw [if_pos q4]; exact ⟨h1,h2,fun _=>⟨rfl,by rw [if_neg (by omega)]⟩⟩
  · rw [if_neg q4]; exact ⟨h1,h2,fun q=>by have:=of_decide_eq_false q; omega⟩
 refine ⟨a2,hlk,fun hd=>?_,fun hd=>?_,hx.1,hx.2.1⟩
 · unfold rdone at hd
   have:=of_decide_eq_true hd
   unfold left
   rw [if_neg (by omega)]
   omega
 · obtain ⟨b1,b2,b3⟩:=hx
   obtain ⟨b4,b5⟩:=b3 hd
   have hn:¬(S.2.nx=0∨11≤S.2.nx):=of_decide_eq_false hd
   refine ⟨⟨_,a5 hd⟩,b1,b2,by rw [b4]; exact h3,?_,?_,?_,?_⟩
   · rw [b5]; split<;>omega
   · rw [b5]; split<;>omega
   · rw [b5]; split<;>omega
   · rw [b5]
     unfold left
     by_cases q:S.2.nx=5
     · rw [if_pos q,q]; rfl
     · rw [if_neg q]
       split<;>split<;>omega
def Num1 (L:Lm) (t:Nat):Prop:=L.xs.length≤10+512*t∧L.ds.length≤1+8*t∧1≤Cl.nth L.xs 0∧Cl.nth L.xs 0≤1+20000*t
theorem pow_le {a b:Nat} (h:2 ^ a≤2 ^ b):a≤b:=by
 rcases Nat.lt_or_ge b a with q | q
 · have:=Nat.pow_lt_pow_right (show 1<2 by omega) q
   omega
 · exact q
theorem pow2 {n:Nat} (h:FM.power (n:Int)=true):∃ b,b≤16∧n=2 ^ b:=by
 obtain ⟨b,hb,e⟩:=(FM.power_iff _).1 h
 exact ⟨b,hb,by exact_mod_cast e⟩
theorem pow8 {b:Nat} (h:2 ^ b≤256):b≤8:=pow_le (b:=8) h
theorem ways_to (few n s:Nat) (hf:few≤30) (hn:FM.power (n:Int)=true) (hs:FM.power (s:Int)=true) (hn8:n≤256) (hs8:s≤256):∃ c x t a,Ways few s n c x t a∧c≤19900∧x≤512∧t≤8∧a≤30*256:=by
 obtain ⟨b,hb,rfl⟩:=pow2 hn
 obtain ⟨k,hk,rfl⟩:=pow2 hs
 have hb8:=pow8 hn8
 have hk8:=pow8 hs8
 by_cases h:b≤k
 · obtain ⟨c,x,hu⟩:=up_to few k hk (k-b) b (by omega)
   obtain ⟨e1,e2,e3⟩:=hu.eqs
   have m1:(k-b)*(15+12*few)≤8*375:=Nat.mul_le_mul (by omega) (by omega)
   have m2:(2*few+4)*2 ^ k≤64*256:=Nat.mul_le_mul (by omega) hs8
   exact ⟨c,x,k-b,0,.inl hu,by omega,by omega,by omega,by omega⟩
 · obtain ⟨c,x,a,hu⟩:=dn_to few k (b-k) b (by omega) hb
   obtain ⟨e1,e2,e3,e4⟩:=hu.eqs
   have m1:(b-k)*14≤8*14:=Nat.mul_le_mul_right _ (by omega)
   have m2:(few+4)*2 ^ b≤34*256:=Nat.mul_le_mul (by omega) hn8
   have m3:few*2 ^ b≤30*256:=Nat.mul_le_mul hf hn8
   have m4:x≤2 ^ b:=Nat.le.intro e2
   exact ⟨c,x,b-k,a,.inr hu,by omega,by omega,by omega,by omega⟩
section
variable {W0 w:World} {M:Mo} {n B:Nat} {cs:Nat→List Mq.Hp} {l:List Pr} {G:Nat}
def RzS (W0 w w':World) (M:Mo) (l:List Pr) (s G t:Nat) (i:Int) (a:Zr.Ra) (k n:Nat):Prop:=
 ∃ (M':Mo) (a':Zr.Ra) (R':Rz) (B':Nat) (cs':Nat→List Mq.Hp),S11 W0 w' M' none 0 []∧M'.m=M.m∧rzL.At w' a' R'∧rzL.f a'=rzL.f a∧R'.err=0∧Mp (lm M') s B' cs' l G∧M'.ss.length=M.ss.length∧M'.k=M.k∧M'.ws=M.ws∧Num1 (lm M') (t+1)∧(n=s→k=10∧M'.xs.length=M.xs.length)∧Only (fun x=>mfoot M x∨rzL.foot a (newRz i s) x) w w'∧∀ x,rzL.foot a' R' x→rzL.foot a (newRz i s) x∨w.heap.size≤x
theorem resize_w {t:Nat} (h:S11 W0 w M none 0 []) (hm:Mp (lm M) n B cs l G) (hG:G≤1000000) (hl:l.length≤30) (hnum:Num1 (lm M) t) (ht:t≤11) {s:Nat} (hs:FM.power (s:Int)=true) {c x tt ca:Nat} (hw:Ways l.length s n c x tt ca) (hc:c≤19900) (hx:x≤512) (htt:tt≤8) (hca:ca≤30*256) (K:Nat) (hK:c+10≤K∧K≤1000000) {a:Zr.Ra} {i:Int} (hi:0≤i∧i≤1000) (hP:rzL.At w a (newRz i s)) (hlow:∀ x,rzL.foot a (newRz i s) x→W0.heap.size≤x):
 Calls Tryz.prog 9 #[ptr M.m,.iface 72 (ptr (rzL.f a)),.int .i64 K] w fun e w'=>∃ k:Nat,e=.returned (.tuple #[.int .i64 k,.bool true])∧RzS W0 w w' M l s G t i a k n:=by
 obtain ⟨u1,u2,u3,u4⟩:=hnum
 have v1:M.xs.length≤10+512*t:=u1
 have v2:M.ds.length≤1+8*t:=u2
 have hrest:=rest_of hm hG u3 (by omega) (by omega) (cap:=1000) ⟨by omega,by omega⟩
 have hfl:=Zr.Mp.flat_len hm
 have hwa:Ways (rsOf n B 1000 cs).few s (rsOf n B 1000 cs).n c x tt ca:=by
  show Ways (flat n cs).length s n c x tt ca
  rw [hfl]
  exact hw
 have hnw:newRz i s=⟨i,s,1,0,.none⟩:=by unfold newRz; rw [if_pos hs]
 have hone:Lone (lm M) (allh n cs) ⟨10+512*(t+1),1+8*(t+1),1+20000*((t:Int)+1)⟩ s l (c+10) (lm M,newRz i s):=by
  refine ⟨.rest (rsOf n B 1000 cs),fun _ _ _=>True,c+10,ca,Nat.le_refl _,hrest,⟨⟨by rw [hnw]; exact hi,by rw [hnw],by rw [hnw],Zr.Kp.refl _,by show M.hs.length=6; have:M.hs=List.replicate 6 (-1):=hm.hs; rw [this]; simp,fun j a b=>?_,?_,⟨by simp only; omega,by simp only; omega,by simp only; omega⟩,List.Perm.refl _⟩,.take (rsOf n B 1000 cs) c x tt ca (by rw [hnw]; exact ⟨Nat.le_refl _,by simp⟩) hwa (by rw [hnw]; simp only; omega) (Nat.le_refl _) (by show 1000+ca≤_; omega) (by simp only; omega) (by simp only; omega)⟩,hm.zero⟩
  · have:M.hs=List.replicate 6 (-1):=hm.hs
    show Lo.hol M.hs j=hsF (newRz i s).nx (newRz i s).worker j
    rw [hnw,this]
    unfold hsF Lo.hol
    simp only [List.getD_eq_getElem?_getD,List.getElem?_replicate]
    rw [if_pos (by omega)]
    by_cases q:j=5
    · rw [if_pos q]; rfl
    · rw [if_neg q,if_neg (by omega)]; rfl
  · show Cl.nth (lm M).xs 0+_≤1+20000*((t:Int)+1)
    omega
 have hfin:=finish_frm rz_frm h.mem hP (Lone (lm M) (allh n cs) ⟨10+512*(t+1),1+8*(t+1),1+20000*((t:Int)+1)⟩ s l) (fun S=>Qr (lm M) (allh n cs) ⟨10+512*(t+1),1+8*(t+1),1+20000*((t:Int)+1)⟩ s l S.1 S.2∧∀ i:Nat,(i:Int)<S.1.k→Cl.nth S.1.xs (2+i)=0) (fun k S hS=>hS.step) (c+10) K hone hK.1 hK.2
 refine hfin.mono fun e w' q=>?_
 obtain ⟨k,S,q1,⟨q2,q3⟩,⟨⟨Y,r1,r2,r3,r4,r5,r6,r7,r8,r9,r10⟩,r11⟩,M',a',g1,g2,g3,g4,g5,g6,g7⟩:=q
 refine ⟨k,q1,M',a',S.2,Y.B,Y.cs,h.moved g1 g3.foot g7 (fun x q=>?_) (fun x hx=>by simp [In] at hx),g3.m,g4,g5,r3,?_,?_,?_,?_,?_,fun hns=>?_,g7,g6⟩
 · rcases q with q | q
   · exact h.lom x q
   · exact hlow x q
 · have:=Zr.mp_of hm r1 r7 r6 r11 r5 r4
   rw [r2] at this
   rw [g2]
   exact this
 · have:(lm M').ss=S.1.ss:=by rw [g2]
   have e:M'.ss=S.1.ss:=this
   rw [e]; exact r6.ss
 · have:(lm M').k=S.1.k:=by rw [g2]
   have e:M'.k=S.1.k:=this
   rw [e]; exact r6.k
 · have:(lm M').ws=S.1.ws:=by rw [g2]
   have e:M'.ws=S.1.ws:=this
   rw [e]; exact r6.ws
 · rw [g2]
   refine ⟨r9,r10,r1.base.p1,?_⟩
   have:((t+1:Nat):Int)=(t:Int)+1:=by omega
   rw [this]
   exact r8
 · subst hns
   have hidle:Idle (lm M) (allh n cs) ⟨10+512*(t+1),1+8*(t+1),1+20000*((t:Int)+1)⟩ n l M.xs M.ds 10 (lm M,newRz i n):=by
    have hnow:Me.now M.xs M.ds=(n,B):=hm.now
    exact ⟨⟨_,hone⟩,rfl,rfl,by rw [hnw,hnow],by rw [hnw]; simp,by rw [hnw]; simp,by rw [hnw]; simp,by rw [hnw]; rfl⟩
   obtain ⟨S',hS'⟩:=fin_just (rd:=fun s:Lm×Rz=>rready s.1 s.2) (st:=fun s=>rstep s.1 s.2) (dn:=fun s=>rdone s.1 s.2) (Idle (lm M) (allh n cs) ⟨10+512*(t+1),1+8*(t+1),1+20000*((t:Int)+1)⟩ n l M.xs M.ds) (fun k S hS=>by obtain ⟨a1,a2,a3,a4,_,_⟩:=idle_step hS; exact ⟨a1,a2,a3,a4⟩) K 10 _ hidle (by omega)
   obtain ⟨n9,S9,e9,_,hx9⟩:=fin_steps (rd:=fun s:Lm×Rz=>rready s.1 s.2) (st:=fun s=>rstep s.1 s.2) (dn:=fun s=>rdone s.1 s.2) (Idle (lm M) (allh n cs) ⟨10+512*(t+1),1+8*(t+1),1+20000*((t:Int)+1)⟩ n l M.xs M.ds) (fun S=>S.1.xs=M.xs) (fun k S hS=>by obtain ⟨a1,a2,a3,a4,a5,_⟩:=idle_step hS; exact ⟨a1,a2,fun _=>a5,a4⟩) K 10 _ hidle (by omega)
   rw [q3] at hS' e9
   injection hS' with e1 e2
   injection e9 with e3 e4
   injection e4 with _ e5
   refine ⟨e1,?_⟩
   have:(lm M').xs=S.1.xs:=by rw [g2]
   have e:M'.xs=S.1.xs:=this
   rw [e,e5,hx9]
def RfS (W0 w w':World) (M:Mo) (a:Zr.Ra) (i z:Int):Prop:=
 ∃ (M':Mo) (a':Zr.Ra) (R':Rz),S11 W0 w' M' none 0 []∧M'.m=M.m∧rzL.At w' a' R'∧rzL.f a'=rzL.f a∧R'.err=5∧lm M'=lm M∧Only (fun x=>mfoot M x∨rzL.foot a (newRz i z) x) w w'
theorem refuse_s (h:S11 W0 w M none 0 []) (hm:Mp (lm M) n B cs l G) {z:Int} (hz:FM.power z=false) {a:Zr.Ra} {i:Int} (hP:rzL.At w a (newRz i z)) (hlow:∀ x,rzL.foot a (newRz i z) x→W0.heap.size≤x) (K:Nat) (hK:1≤K∧K≤1000000):
 Calls Tryz.prog 9 #[ptr M.m,.iface 72 (ptr (rzL.f a)),.int .i64 K] w fun e w'=>e=.returned (.tuple #[.int .i64 1,.bool true])∧RfS W0 w w' M a i z:=by
 have hnw:newRz i z=⟨i,z,0,0,.none⟩:=by unfold newRz; rw [if_neg (by rw [hz]; simp)]
 have hkB:2+M.k≤B:=hm.kB
 have hk:1≤M.k∧M.k≤8:=hm.k
 have hxl:B+n≤M.xs.length:=hm.xl
 have hhs:M.hs=List.replicate 6 (-1):=hm.hs
 have hok:Okrz (lm M) (newRz i z):=⟨by rw [hnw]; simp,by show 1<M.xs.length; omega,by show M.hs.length=6; rw [hhs]; simp,fun q=>absurd (by rw [hnw]) q,fun j=>(hm.tb j).1,fun q=>by rw [hnw] at q; simp at q,fun q=>by rw [hnw] at q; simp at q,fun q=>by rw [hnw] at q; simp at q⟩
 have hst:rstep (lm M) (newRz i z)=(lm M,{newRz i z with err:=5,nx:=12}):=by unfold rstep; rw [if_pos (by rw [hnw])]
 have hrd:rready (lm M) (newRz i z)=true:=by unfold rready; rw [hnw]; simp
 have hdn:rdone (lm M) (newRz i z)=true:=by unfold rdone; rw [hnw]; simp
 refine (finish_frm rz_frm h.mem hP (fun k S=>k=1∧S=(lm M,newRz i z)) (fun S=>S=(lm M,{newRz i z with err:=5,nx:=12})) (fun k S hS=>by
  obtain ⟨rfl,rfl⟩:=hS
  exact ⟨hok,hrd,Nat.le_refl _,fun _=>hst,fun q=>by rw [hdn] at q; simp at q⟩) 1 K ⟨rfl,rfl⟩ hK.1 hK.2).mono fun e w' q=>?_
 obtain ⟨k,S,q1,⟨q2,q3⟩,q4,M',a',g1,g2,g3,g4,g5,g6,g7⟩:=q
 obtain ⟨S',hS'⟩:=fin_just (rd:=fun s:Lm×Rz=>rready s.1 s.2) (st:=fun s=>rstep s.1 s.2) (dn:=fun s=>rdone s.1 s.2) (fun k S=>k=1∧S=(lm M,newRz i z)) (fun k S hS=>by
  obtain ⟨rfl,rfl⟩:=hS
  exact ⟨hrd,Nat.le_refl _,fun _=>rfl,fun q=>by rw [hdn] at q; simp at q⟩) K 1 (lm M,newRz i z) ⟨rfl,rfl⟩ hK.1
 rw [q3] at hS'
 injection hS' with e1 _
 rw [e1] at q1
 rw [q4] at g2 g4
 refine ⟨q1,M',a',_,h.moved g1 g3.foot g7 (fun x q=>?_) (fun x hx=>by simp [In] at hx),g3.m,g4,g5,rfl,g2,g7⟩
 rcases q with q | q
 · exact h.lom x q
 · exact hlow x q
end
end Go.Proofs.YtpobbnllcoabhaaGreatDoor.LawFn
namespace Go.Proofs.YtpobbnllcoabhaaGreatDoor.LawEight
open Go Go.RowKit Hp K Fl Rw Hm Ar Mm Me LK Ta LawSix
set_option maxRecDepth 100000
theorem low_only {W0 a b:World} {M:Mo} {f:Nat} (ha:Below W0.heap.size W0 a) (hlo:∀ x,mfoot M x→W0.heap.size≤x) (hf:W0.heap.size≤f) (ho:Only (fun x=>mfoot M x∨x=f) a b):Below W0.heap.size W0 b:=
 ha.trans (ho.toBelow ha.size (fun x hx q=>by
  rcases q with q | q
  · have:=hlo x q; omega
  · omega))
theorem fin_alone (f:Nat):fin (lready [(1,3)]) (lstep [1,0,0,0] [(1,3)]) (ldone [1,0,0,0]) 9 (List.replicate 6 (-1),(⟨f,0,7,1,0,(0,0),0,false⟩:Ho))=(3,true,[-1,0, -1, -1, -1, -1],⟨f,0,7,5,0,(1,3),1,true⟩):=by
 have e:lkn 7 (1,3)=1:=by simp [lkn,FM.bucket,FM.power]
 simp [fin,lready,lstep,ldone,tab,e,Cl.nth,Lo.hol,List.replicate]
set_option maxHeartbeats 1000000 in
theorem awake (w:World):Calls Tryz.prog 75 #[] w fun e w'=>e=.returned (.bool true)∧Below w.heap.size w w':=by
 have hN:=Lib.hid (made_yes 1 1 w (by omega) (by omega))
 go_enter Tryz.func75,Tryz.ntmps75
 go_wp2_with fail
 refine hN.out.mono ?_
 rintro e w1 ⟨M,rfl,hM,hlo,hB,h1,h2,h3,h4,h5,h6,h7⟩
 clear hN
 have hE:=Lib.hid (new_hold 0 7 w1)
 replace hM:=Lib.hid hM
 replace hlo:=Lib.hid hlo
 replace hB:=Lib.hid hB
 replace h1:=Lib.hid h1
 replace h4:=Lib.hid h4
 replace h6:=Lib.hid h6
 clear h2 h3 h7 h5
 go_wp2_with fail
 refine hE.out.mono ?_
 rintro e w2 ⟨rfl,hE2,hB2⟩
 have hM2:=hM.out.below hB2
 have hge:w.heap.size≤w1.heap.size:=hB.out.size
 have hB02:=Lib.hid (hB.out.trans (hB2.mono hge))
 have hF:=finish_hold hM2 hE2 (by rw [h1.out,h4.out,h6.out]; exact ⟨by simp,by simp,by simp,by simp,by simp,by decide,fun i=>by cases i<;>simp [tab],by simp,by simp,by simp⟩) 9 (by omega)
 rw [h1.out,h4.out,h6.out,show (1:Int)::List.replicate (1+2) 0=[1,0,0,0] from rfl,show (1:Nat)+2=3 from rfl,fin_alone] at hF
 replace hF:=Lib.hid hF
 clear hM hE hB2 hE2 hM2 hB
 generalize w1.heap.size=f at*
 replace hge:=Lib.hid hge
 go_wp2_with fail
 refine hF.out.mono ?_
 rintro e w3 ⟨rfl,hM3,hH3,_,hO3⟩
 simp only at hM3 hH3
 have hB3:=Lib.hid (low_only hB02.out hlo.out hge.out hO3)
 replace hM3:=Lib.hid hM3
 replace hH3:=Lib.hid hH3
 clear hF hO3 hB02
 go_wp2_with fail
 refine (LawFive.awake w3).mono ?_
 rintro e w4 ⟨rfl,hB4⟩
 have hM4:=hM3.out.below hB4
 have hH4:=hH3.out.below hB4
 have hB04:=hB3.out.trans (hB4.mono hB3.out.size)
 have hDe:=desc_of hH4
 have hLk:=Lib.hid (lock_of hH4)
 simp only [if_true] at hDe
 unfold dv at hDe
 replace hDe:=Lib.hid hDe
 have dn:=desc_n
 replace hM4:=Lib.hid hM4
 replace hH4:=Lib.hid hH4
 replace hB04:=Lib.hid hB04
 clear hM3 hH3 hB3 hB4
 go_wp2_with (first
  | (go_at_call 101; refine hLk.out.mono ?_; rintro e w' ⟨rfl,hw⟩; obtain rfl:w4=w':=hw.symm))
 refine hDe.out.mono ?_
 rintro e w5 ⟨rfl,hB5⟩
 have hM5:=hM4.out.below hB5
 have hH5:=hH4.out.below hB5
 have hB05:=hB04.out.trans (hB5.mono hB04.out.size)
 have d1:=hM5.hd.2.1
 simp only at d1
 have hHo:=Lib.hid (Lo.holder_in hM5.2.2.1 1 (by simp))
 have hDr:=Lib.hid (drop_yes hM5 hH5 ⟨by simp,by simp,by simp,by show 1<M.xs.length; rw [h1.out]; simp,by simp,by show (tab M.ds 0).1≤65536; rw [h6.out]; simp [tab]⟩ (by simp) (by simp [Lo.hol]) rfl)
 have hge':w.heap.size≤f:=hge.out
 replace hge':=Lib.hid hge'
 replace hM5:=Lib.hid hM5
 replace hB05:=Lib.hid hB05
 clear hM4 hH4 hB04 hB5 hDe hLk hH5
 go_wp2_with (go_at_call 70; refine hHo.out.mono ?_; rintro e w' ⟨rfl,hw⟩; obtain rfl:w5=w':=hw.symm)
 refine hDr.out.mono ?_
 rintro e w6 ⟨rfl,hM6,hH6,hO6⟩
 have hB6:=Lib.hid (low_only hB05.out hlo.out hge'.out hO6)
 have d2:=hM6.hd.2.1
 simp only at d2
 have hHo2:=Lib.hid (Lo.holder_in hM6.2.2.1 1 (by simp))
 clear hM6 hH6 hO6 hDr d1 hHo
 go_wp2_with (go_at_call 70; refine hHo2.out.mono ?_; rintro e w' ⟨rfl,hw⟩; obtain rfl:w6=w':=hw.symm)
 go_ret
 exact ⟨rfl,hB6.out⟩
end Go.Proofs.YtpobbnllcoabhaaGreatDoor.LawEight
namespace Go.Proofs.YtpobbnllcoabhaaGreatDoor.LawEl
open Go Go.RowKit Hp K Fl Rw Hm Ar Mm Me LK Qs Wk Re LawSix Pn Pc Mq Pu LawTen
set_option maxRecDepth 100000
abbrev kA:ByteArray:=⟨#[97]⟩
abbrev kB:ByteArray:=⟨#[98]⟩
abbrev vX:ByteArray:=⟨#[120]⟩
def kAt (j:Nat):ByteArray:=if j=1 then kB else kA
def mAt (j:Nat):List Pr:=if j=0 then [] else [(kA,vX)]
def AInv (W0 w:World) (m j:Nat):Prop:=∃ (M:Mo) (cs:Nat→List Mq.Hp) (G:Nat),S11 W0 w M none 0 []∧M.m=m∧Mp (lm M) 1 3 cs (mAt j) G∧G≤j∧M.ss.length=1∧M.ws.length=0
theorem kab:kA≠kB:=by
 intro e
 have:=congrArg ByteArray.data e
 simp at this
theorem AInv.down {W0 w w':World} {m j:Nat} (h:AInv W0 w m j) (hb:Below w.heap.size w w'):AInv W0 w' m j:=by
 obtain ⟨M1,cs,G,hS,r⟩:=h
 exact ⟨M1,cs,G,hS.down hb,r⟩
def errJ (j:Nat):Int:=if j=0 then 0 else 4
def hadJ (j:Nat):Bool:=decide (j=2)
theorem eJ0:errJ 0=0:=rfl
theorem eJ1:errJ 1=4:=rfl
theorem eJ2:errJ 2=4:=rfl
theorem hJ0:hadJ 0=false:=rfl
theorem hJ1:hadJ 1=false:=rfl
theorem hJ2:hadJ 2=true:=rfl
def AGot (W0 w0 w:World) (a:Qa) (m j:Nat):Prop:=∃ (a':Qa) (P:Pt),Still (memTypes++putTypes) w0 w∧AInv W0 w m (j+1)∧PuAt w a' P∧a'.f=a.f∧P.err=errJ j∧decide (P.W.found≠0)=hadJ j
theorem aput {W0 w:World} {m j:Nat} (hj:j<3) (h:AInv W0 w m j) {a:Qa} {hh:Nat} (hP:PuAt w a (newPut hh 0 (kAt j) vX)) (hlow:∀ x,pfoot a (newPut hh 0 (kAt j) vX) x→W0.heap.size≤x):
 Calls Tryz.prog 9 #[ptr m,.iface 84 (ptr a.f),.int .i64 50] w fun e w'=>(∃ k:Nat,e=.returned (.tuple #[.int .i64 k,.bool true]))∧AGot W0 w w' a m j:=by
 obtain ⟨M,cs,G,hS,rfl,hm,hG,hl,hw0⟩:=h
 have hq:=Mp.ql2 hm
 have hl':(lm M).ss.length=1:=hl
 refine (put_s hS hm (by omega) (by omega) hP hlow 50 (fun b hb=>by have:=hq.1 b hb; omega) (by omega)).mono fun e w' q=>⟨q.1,?_⟩
 obtain ⟨M',a',P',h1,h2,h3,h4,h5,h6,h7,h8,hst,h9⟩:=q.2
 have hfr:=freePl_frees M.ss
 have hcnt:(frees M.ss M.ss.length).length+M.ws.length+(mAt j).length=M.ss.length:=hq.2
 by_cases j0:j=0
 · subst j0
   rcases h9 with ⟨q1,_⟩ | ⟨q1,q2,q3,cs',q4⟩
   · exfalso
     have:=hfr.1 q1
     simp only [mAt,if_true,List.length_nil] at hcnt
     omega
   · refine ⟨a',P',hst,⟨M',cs',G+1,h1,h2,?_,by omega,by omega,by rw [q3,hw0]; simp [mAt,Pc.lk]⟩,h3,h4,by simpa [errJ] using q2,?_⟩
     · refine q4 _ ⟨by simp [mAt],fun k=>?_,by simp [mAt,Pc.lk]⟩
       simp only [mAt,kAt,Pc.lk]
       by_cases e:k=kA
       · simp [e,Pc.lk]
       · have e':¬kA=k:=fun q=>e q.symm
         simp [e,e',Pc.lk]
     · rw [h6]
       simp [mAt,Pc.lk,hadJ]
 · have hfree:freePl M.ss=none:=by
    rw [hfr]
    have:(mAt j).length=1:=by simp [mAt,j0]
    omega
   rcases h9 with ⟨_,q2,q3⟩ | ⟨q1,_⟩
   · refine ⟨a',P',hst,⟨M',cs,G,h1,h2,?_,by omega,by omega,by have e:M'.ws=M.ws:=congrArg Lm.ws q3; rw [e]; exact hw0⟩,h3,h4,by unfold errJ; rw [if_neg j0]; exact q2,?_⟩
     · rw [q3]
       have:mAt (j+1)=mAt j:=by simp [mAt,j0]
       rw [this]
       exact hm
     · rw [h6]
       have hj12:j=1∨j=2:=by omega
       rcases hj12 with rfl | rfl
       · simp [mAt,kAt,Pc.lk,kab,hadJ]
       · simp [mAt,kAt,Pc.lk,hadJ]
   · rw [hfree] at q1
     simp at q1
set_option maxHeartbeats 2000000 in
theorem awake (w:World):Calls Tryz.prog 46 #[] w fun e w'=>e=.returned (.bool true)∧Below w.heap.size w w':=by
 have hN:=Lib.hid (made_yes 1 1 w (by omega) (by omega))
 go_enter Tryz.func46,Tryz.ntmps46
 go_wp2_with fail
 refine hN.out.mono ?_
 rintro e w1 ⟨M,rfl,hMd⟩
 have hmp:=mp_made hMd (by omega) (by omega)
 obtain ⟨hM,hlo,hB,h1,h2,h3,h4,h5,h6,h7⟩:=hMd
 have hI:AInv w w1 M.m 0:=⟨M,_,0,⟨hM,Row.nil _ _ _ _,hB,hlo,by simp [In]⟩,rfl,hmp,by omega,by rw [h2]; simp,by rw [h7]; rfl⟩
 obtain ⟨w2,hw2⟩:∃ w2,w2=w1.alloc (.cells #[.string kA,.string kB,.string kA] 9):=⟨_,rfl⟩
 have hQ2:Blk w2 w1.heap.size 9 #[.string kA,.string kB,.string kA]:=by rw [hw2]; exact Blk.made w1 _ _
 have hI2:AInv w w2 M.m 0:=by
  obtain ⟨M1,cs,G,hS,r⟩:=hI
  exact ⟨M1,cs,G,hS.down (by rw [hw2]; exact (Below.refl _ _).alloc (Nat.le_refl _) _),r⟩
 have hge:=hB.size
 generalize M.m=m at*
 clear hN hM hlo hB h1 h2 h3 h4 h5 h6 h7 hmp hI
 go_upto_region 5 with (fail)
 rw [← hw2]
 clear hw2
 generalize w1.heap.size=sb at*
 have H0:=Lib.hid (And.intro hI2 hQ2)
 clear hI2 hQ2
 go_wp2_with fail
 go_loopw [12] (fun c wr=>∃ j:Nat,j≤3∧c=.int .i64 j∧AInv w wr m j∧Blk wr sb 9 #[.string kA,.string kB,.string kA]) (fun c _=>3-(intOf c).toNat)
 case atStart=>exact ⟨0,by omega,rfl,H0.out.1,H0.out.2⟩
 case round=>
  obtain ⟨j,hj,rfl,hI,hQ⟩:=hrel
  clear H0
  have l1:(kAt j).size≤maxLen:=by unfold kAt; split<;>(simp only [maxLen]; decide)
  have hNw:=Lib.hid (Pu.new_any 0 (kAt j) vX l1 wr)
  have hlo:w.heap.size≤wr.heap.size:=by
   obtain ⟨_,_,_,hS,_⟩:=hI
   exact hS.below.size
  have HI:=Lib.hid hI
  have HQ:=Lib.hid hQ
  have c0:=hQ.cell 0
  have c1:=hQ.cell 1
  have c2:=hQ.cell 2
  have hlq:=hQ.lt
  simp at c0 c1 c2
  clear hI hQ l1
  have hj':j=0∨j=1∨j=2∨j=3:=by omega
  rcases hj' with rfl | rfl | rfl | rfl
  case' inr.inr.inr=>
   have hB:=Lib.hid (show Below w.heap.size w wr from by obtain ⟨_,_,_,hS,_⟩:=HI.out; exact hS.below)
   have hA8:=Lib.hid (fun w=>LawEight.awake w)
   have hA10:=Lib.hid (fun w=>LawTen.awake w)
   clear HI HQ c0 c1 c2 hNw hlq
   go_wp2_with fail
   refine (hA8.out _).mono ?_
   rintro e w3 ⟨rfl,hB3⟩
   have hB03:=Lib.hid (hB.out.trans (hB3.mono hB.out.size))
   clear hB hB3
   go_wp2_with fail
   refine (hA10.out _).mono ?_
   rintro e w4 ⟨rfl,hB4⟩
   have hB04:=Lib.hid (hB03.out.trans (hB4.mono hB03.out.size))
   clear hB03 hB4
   go_wp2_with fail
   go_ret
   exact ⟨rfl,hB04.out⟩
  all_goals
   go_wp2_with fail
   refine hNw.out.mono ?_
   rintro e w3 ⟨a,hh,rfl,hP3,hl3,hB3⟩
   have hQ3:=HQ.out.only (Only.ofBelow hB3 (fun _=>False)) (by simp)
   have hF:=Lib.hid (aput (by omega) (HI.out.down hB3) hP3 (fun x hx=>Nat.le_trans hlo (hl3 x hx)))
   replace hQ3:=Lib.hid hQ3
   clear hNw HI HQ hP3 hl3 c0 c1 c2
   go_wp2_with fail
   refine hF.out.mono ?_
   rintro e w4 ⟨⟨k4,rfl⟩,a',P,hst,hI4,hP4,ea,he,hd⟩
   have hQ4:=Lib.hid (hst sb _ _ (by decide) hQ3.out)
   clear hst
   have hE:=err_any hP4
   rw [he,ea] at hE
   have hH:=had_any hP4
   rw [hd,ea] at hH
   simp only [eJ0,eJ1,eJ2,hJ0,hJ1,hJ2] at hE hH
   replace hE:=Lib.hid hE
   replace hH:=Lib.hid hH
   replace hI4:=Lib.hid hI4
   clear hF hP4 he hd ea
   go_wp2_with fail
   refine hE.out.mono ?_
   rintro e w' ⟨rfl,rfl⟩
   go_wp2_with fail
   refine hE.out.mono ?_
   rintro e w' ⟨rfl,rfl⟩
   go_wp2_with fail
   refine hH.out.mono ?_
   rintro e w5 ⟨rfl,hB5⟩
   have hI5:=Lib.hid (hI4.out.down hB5)
   have hQ5:=Lib.hid (hQ4.out.only (Only.ofBelow hB5 (fun _=>False)) (by simp))
   clear hE hH hI4 hB5
   go_wp2_with fail
   go_roundw
   case rel=>exact ⟨_,by omega,by go_num,hI5.out,hQ5.out⟩
   case measure=>simp [intOf]; try omega
end Go.Proofs.YtpobbnllcoabhaaGreatDoor.LawEl
