/- Walks and plain mathematics, put together in their order: RzV, RzW, RzX, RzY, LawSixA, LawNineA, LawFnv, TenA, ElA, RetE, Drk. -/
import Derived.Test.YtpobbnllcoabhaaGreatPart9
import Derived.Test.YtpobbnllcoabhaaGreatWalkD
import Derived.Test.YtpobbnllcoabhaaGreatFnvWalk
import Derived.Test.YtpobbnllcoabhaaGreatPairs
import Derived.Test.YtpobbnllcoabhaaGreatGetC
import Derived.Test.YtpobbnllcoabhaaGreatRowKit
import Derived.Laws.Cover1
set_option linter.unusedVariables false
set_option linter.unusedSimpArgs false
namespace Go.Proofs.YtpobbnllcoabhaaGreat.Zr
open Go Go.RowKit Hp K Fl Rw Hm Ar Mm Wk Pc Me Mq Pu Pn Gt Qs Zp Mx LawTh Bs
set_option maxRecDepth 100000
def lkB (h:Nat):Nat:=if h=0 then 5 else h
section
variable {w w':World} {M:Mo} {a:Ra} {R:Rz} {f h b:Nat} {k z e:Int} {u2 u3 tv:Value}
theorem lock_behind (h:Nat) (w:World):Calls Tryz.prog 80 #[.int .i64 h] w fun e w'=>e=.returned (.int .i64 (lkB h))∧w'=w:=by
 unfold lkB
 by_cases h0:h=0
 · subst h0
   go_enter Tryz.func80,Tryz.ntmps80
   go_wp2
   go_ret
   exact ⟨rfl,rfl⟩
 · rw [if_neg h0]
   have hz:¬((h:Int)=0):=by omega
   go_enter Tryz.func80,Tryz.ntmps80
   go_wp2
   go_ret
   exact ⟨rfl,rfl⟩
theorem lkB_lt (hh:h≤4):lkB h<6:=by unfold lkB; split<;>omega
set_option maxHeartbeats 1000000 in
theorem mayTake_any (hM:MemAt w M) (hb:Rb w f k z u2 u3 e h tv) (hk:0≤k) (hh:h≤4) (hl:M.hs.length=6):
 Calls Tryz.prog 60 #[ptr f,ptr M.m] w fun x w'=>x=.returned (.bool (decide (Lo.hol M.hs (lkB h)= -1)))∧Below w.heap.size w w':=by
 obtain ⟨c0,c1,c2,c3,c4,c5,c6⟩:=rb_cells hb
 have d1:=hM.hd.2.1
 have hLB:=Lib.hid (fun w=>lock_behind h w)
 have hk':decide (0≤k)=true:=by simpa using hk
 have hO:=Lib.hid (fun nq=>Lo.holder_in (hM.drewN nq).2.2.1 (lkB h) (by rw [hl]; exact lkB_lt hh))
 have hbd:=Lo.hol_bd hM.2.2.1.2.2.1 (lkB h)
 clear hM hb c1 c2 c3 c4 c6 hl
 generalize Lo.hol M.hs (lkB h)=v at*
 generalize lkB h=j at*
 go_enter Tryz.func60,Tryz.ntmps60
 go_wp2_with fail
 go_quiet (first
  | (go_at_call 80; exact Calls.quiet_of_same (hLB.out _))
  | (go_at_call 79; exact Calls.quiet_of_same (hO.out _)))
 go_wp2_with fail
 go_ret
 exact ⟨K.ret_bool (by simp [BEq.beq]),rfl,rfl,rfl,Nat.le_refl _,fun _ _=>rfl⟩
theorem refuse_step (hb:Rb w f k z u2 u3 e h tv) (m:Value):
 Calls Tryz.prog 63 #[ptr f,m] w fun x w'=>x=.returned (.bool true)∧Rb w' f k z (wf0 62) (wf0 106) 5 h tv∧Only (·=f) w w':=by
 have c4:=(rb_cells hb).2.2.2.2.1
 have z4:=hb.frozen 4
 have hS:Rb (w.setCell ⟨f,4,none⟩ (.int .i64 5)) f k z u2 u3 5 h tv:=hb.store 4 _
 have hO:=Lib.hid ((Only.refl (·=f) w).setCell (p:=⟨f,4,none⟩) (.inl rfl) (.int .i64 5))
 have hE:=Lib.hid (end_any hS)
 clear hb hS
 go_enter Tryz.func63,Tryz.ntmps63
 go_wp2_with fail
 refine hE.out.mono ?_
 rintro e w' ⟨rfl,hB,hO2⟩
 replace hB:=Lib.hid hB
 have hO3:=Lib.hid (hO.out.trans hO2)
 clear hE hO hO2 c4 z4
 go_wp2_with fail
 go_ret
 exact ⟨rfl,hB.out,hO3.out⟩
theorem goOnBy_any {T:TypeId} (hb:Rb w f k z u2 u3 e h tv):
 Calls Tryz.prog 104 #[ptr f,.iface T (ptr b)] w fun x w'=>x=.returned (.tuple #[])∧Rb w' f k z (.func (.method "Ready") #[.iface T (ptr b)] #[]) (wfm 130 (ptr f)) e h (.iface T (ptr b))∧Only (·=f) w w':=by
 have c6:=(rb_cells hb).2.2.2.2.2.2
 have z6:=hb.frozen 6
 have hS:Rb (w.setCell ⟨f,6,none⟩ (.iface T (ptr b))) f k z u2 u3 e h (.iface T (ptr b)):=hb.store 6 _
 have hO:=Lib.hid ((Only.refl (·=f) w).setCell (p:=⟨f,6,none⟩) (.inl rfl) (.iface T (ptr b)))
 have hE:=Lib.hid (goOn_any (F1:=.method "Ready") (F2:=.func 130) (b1:=#[.iface T (ptr b)]) (b2:=#[ptr f]) hS)
 clear hb hS
 go_enter Tryz.func104,Tryz.ntmps104
 go_wp2_with fail
 refine hE.out.mono ?_
 rintro e w' ⟨rfl,hB,hO2⟩
 replace hB:=Lib.hid hB
 have hO3:=Lib.hid (hO.out.trans hO2)
 clear hE hO hO2 c6 z6
 go_wp2_with fail
 go_end0
 exact ⟨rfl,hB.out,hO3.out⟩
set_option maxHeartbeats 1000000 in
theorem choose_any (hM:MemAt w M) (hx:1<M.xs.length) (ga:Gw.Gl) (sa:Sw.Sc) (R:Rz) (hb:Rb w f R.worker R.size u2 u3 R.err 5 tv):
 Calls Tryz.prog 82 #[ptr f,ptr M.m] w fun x w'=>x=.returned (.tuple #[])∧∃ a':Ra,a'.f=f∧RzAt w' a' (look (lm M) R)∧(∀ x,rfoot a' (look (lm M) R) x→x=f∨w.heap.size≤x)∧Only (·=f) w w':=by
 obtain ⟨c0,c1,c2,c3,c4,c5,c6⟩:=rb_cells hb
 have hN:=now_any hM hx
 unfold look
 unfold dv at hN
 have lf:=hb.lt
 have HB:=Lib.hid hb
 replace hN:=Lib.hid hN
 show Calls _ _ _ _ (fun x w'=>x=_∧∃ a':Ra,a'.f=f∧RzAt w' a' (if ((now M.xs M.ds).1:Int)=R.size then {R with nx:=7} else if ((now M.xs M.ds).1:Int)<R.size then {R with nx:=6,inn:=.gro (Gw.newGro R.worker)} else {R with nx:=6,inn:=.shr (Sw.newShr R.worker)})∧(∀ x,rfoot a' (if ((now M.xs M.ds).1:Int)=R.size then {R with nx:=7} else if ((now M.xs M.ds).1:Int)<R.size then {R with nx:=6,inn:=.gro (Gw.newGro R.worker)} else {R with nx:=6,inn:=.shr (Sw.newShr R.worker)}) x→x=f∨w.heap.size≤x)∧Only (·=f) w w')
 obtain ⟨n,hn⟩:∃ n,n=(now M.xs M.ds).1:=⟨_,rfl⟩
 obtain ⟨B,hB⟩:∃ B,B=(now M.xs M.ds).2:=⟨_,rfl⟩
 rw [← hn]
 rw [← hn,← hB] at hN
 have hfd:∀ w,(Instr.field 82 (.agg #[.int .i64 n,.int .i64 B]) 0).run Tryz.prog w=.ok (.int .i64 n) w:=fun w=>rfl
 have hg:=Lib.hid (fun w=>Gw.new_grow R.worker w)
 have hs:=Lib.hid (fun w=>Sw.new_shrink R.worker w)
 have lM:=hM.1.lt
 clear hM hb hn hB c2 c3 c4 c5 c6 hx
 by_cases q1:(n:Int)<R.size
 · rw [if_neg (by omega),if_pos q1]
   clear hs
   go_enter Tryz.func82,Tryz.ntmps82
   go_wp2_with fail
   refine hN.out.mono ?_
   rintro e1 w1 ⟨rfl,hb1⟩
   have hB1:Rb w1 f R.worker R.size u2 u3 R.err 5 tv:=HB.out.only (Only.ofBelow hb1 (fun _=>False)) (by simp)
   have k0:=(rb_cells hB1).1
   have k1:=(rb_cells hB1).2.1
   replace hB1:=Lib.hid hB1
   have hO1:=Lib.hid (Only.ofBelow hb1 (·=f))
   clear hN hb1 c0 c1 HB
   go_wp2_with fail
   refine (hg.out _).mono ?_
   rintro e2 w2 ⟨ga,rfl,hG,hlo,hb2⟩
   have hB2:=Lib.hid (hB1.out.only (Only.ofBelow hb2 (fun _=>False)) (by simp))
   have hO2:=Lib.hid (hO1.out.trans (Only.ofBelow hb2 (·=f)))
   have hlo2:=Lib.hid (fun x hx=>Nat.le_trans hO1.out.size (hlo x hx))
   have hf2:=Lib.hid (fun x hx=>show ¬x=f from fun e=>by have h1:=hlo x hx; have h2:=hB1.out.lt; omega)
   replace hG:=Lib.hid hG
   have hby:=Lib.hid (goOnBy_any (T:=138) (b:=ga.f) hB2.out)
   clear hlo hb2 hg k0 k1 hB1 hO1
   go_wp2_with fail
   refine hby.out.mono ?_
   rintro e3 w3 ⟨rfl,hB3,hO3⟩
   have hR:Hid (RzAt w3 ⟨f,.iface 138 (ptr ga.f),ga,sa⟩ {R with nx:=6,inn:=.gro (Gw.newGro R.worker)}):=Lib.hid ⟨hB3,fun G _ hG'=>⟨rfl,by
    injection hG' with hG'
    rw [← hG']
    exact hG.out.only hO3 hf2.out⟩,fun G _ q=>by simp at q⟩
   have hO4:=Lib.hid (hO2.out.trans hO3)
   clear hby hB3 hO3 hO2
   go_wp2_with fail
   go_end0
   refine ⟨rfl,_,rfl,hR.out,fun x hx=>?_,hO4.out⟩
   rcases hx with q | ⟨G,_,q2,q3⟩ | ⟨G,_,q2,_⟩
   · exact .inl q
   · injection q2 with q2
     subst q2
     exact .inr (hlo2.out x q3)
   · simp at q2
 · by_cases q2:(n:Int) > R.size
   · rw [if_neg (by omega),if_neg q1]
     clear hg
     go_enter Tryz.func82,Tryz.ntmps82
     go_wp2_with fail
     refine hN.out.mono ?_
     rintro e1 w1 ⟨rfl,hb1⟩
     have hB1:Rb w1 f R.worker R.size u2 u3 R.err 5 tv:=HB.out.only (Only.ofBelow hb1 (fun _=>False)) (by simp)
     have k0:=(rb_cells hB1).1
     have k1:=(rb_cells hB1).2.1
     replace hB1:=Lib.hid hB1
     have hO1:=Lib.hid (Only.ofBelow hb1 (·=f))
     clear hN hb1 c0 c1 HB
     go_wp2_with fail
     refine (hs.out _).mono ?_
     rintro e2 w2 ⟨sa,rfl,hG,hlo,hb2⟩
     have hB2:=Lib.hid (hB1.out.only (Only.ofBelow hb2 (fun _=>False)) (by simp))
     have hO2:=Lib.hid (hO1.out.trans (Only.ofBelow hb2 (·=f)))
     have hlo2:=Lib.hid (fun x hx=>Nat.le_trans hO1.out.size (hlo x hx))
     have hf2:=Lib.hid (fun x hx=>show ¬x=f from fun e=>by have h1:=hlo x hx; have h2:=hB1.out.lt; omega)
     replace hG:=Lib.hid hG
     have hby:=Lib.hid (goOnBy_any (T:=140) (b:=sa.f) hB2.out)
     clear hlo hb2 hs k0 k1 hB1 hO1
     go_wp2_with fail
     refine hby.out.mono ?_
     rintro e3 w3 ⟨rfl,hB3,hO3⟩
     have hR:Hid (RzAt w3 ⟨f,.iface 140 (ptr sa.f),ga,sa⟩ {R with nx:=6,inn:=.shr (Sw.newShr R.worker)}):=Lib.hid ⟨hB3,fun G _ q=>by simp at q,fun G _ hG'=>⟨rfl,by
      injection hG' with hG'
      rw [← hG']
      exact hG.out.only hO3 hf2.out⟩⟩
     have hO4:=Lib.hid (hO2.out.trans hO3)
     clear hby hB3 hO3 hO2
     go_wp2_with fail
     go_end0
     refine ⟨rfl,_,rfl,hR.out,fun x hx=>?_,hO4.out⟩
     rcases hx with q | ⟨G,_,q2,_⟩ | ⟨G,_,q2,q3⟩
     · exact .inl q
     · simp at q2
     · injection q2 with q2
       subst q2
       exact .inr (hlo2.out x q3)
   · rw [if_pos (by omega)]
     clear hg hs
     go_enter Tryz.func82,Tryz.ntmps82
     go_wp2_with fail
     refine hN.out.mono ?_
     rintro e1 w1 ⟨rfl,hb1⟩
     have hB1:Rb w1 f R.worker R.size u2 u3 R.err 5 tv:=HB.out.only (Only.ofBelow hb1 (fun _=>False)) (by simp)
     have k1:=(rb_cells hB1).2.1
     replace hB1:=Lib.hid hB1
     have hO1:=Lib.hid (Only.ofBelow hb1 (·=f))
     have hgo:=Lib.hid (goOn_any (F1:=.func 62) (F2:=.func 105) (b1:=#[]) (b2:=#[ptr f]) hB1.out)
     clear hN hb1 c0 c1 HB
     go_wp2_with fail
     refine hgo.out.mono ?_
     rintro e3 w3 ⟨rfl,hB3,hO3⟩
     have hR:Hid (RzAt w3 ⟨f,tv,ga,sa⟩ {R with nx:=7}):=Lib.hid (RzAt.plain hB3 (by simp))
     have hO4:=Lib.hid (hO1.out.trans hO3)
     clear hgo hB3 hO3 hO1 hB1 k1
     go_wp2_with fail
     go_end0
     exact ⟨rfl,_,rfl,hR.out,fun x hx=>.inl (rfoot_plain (by simp) hx),hO4.out⟩
end
end Go.Proofs.YtpobbnllcoabhaaGreat.Zr
namespace Go.Proofs.YtpobbnllcoabhaaGreat.Zr
open Go Go.RowKit Hp K Fl Rw Hm Ar Mm Wk Pc Me Mq Pu Pn Gt Qs Zp Mx LawTh Bs
set_option maxRecDepth 100000
section
variable {w w':World} {M:Mo} {a:Ra} {R:Rz} {f h b:Nat} {k z e:Int} {u2 u3 tv:Value}
theorem foot_locks:∀ x,Lo.foot M.lg M.lb x→mfoot M x:=fun _ h=>.inr (.inr (.inl h))
theorem mem_store (hM:MemAt w M) (hb:Rb w f k z u2 u3 e h tv) (hO:Only (·=f) w w'):MemAt w' M:=hM.only hO (fun x hx q=>by subst q; exact rb_far hb hM hx)
set_option maxHeartbeats 2000000 in
theorem take_more (hM:MemAt w M) (hb:Rb w f k z u2 u3 e h tv) (hk:0≤k∧k≤1000) (hh:h<4) (hl:M.hs.length=6) (hf:Lo.hol M.hs (lkB h)<0):
 Calls Tryz.prog 61 #[ptr f,ptr M.m] w fun x w'=>x=.returned (.bool false)∧MemAt w' {M with hs:=M.hs.set (lkB h) k}∧Rb w' f k z u2 u3 e (h+1) tv∧Only (fun x=>mfoot M x∨x=f) w w':=by
 have d1:=hM.hd.2.1
 have c0:=(rb_cells hb).1
 have c5:=(rb_cells hb).2.2.2.2.2.1
 have hLB:=Lib.hid (fun w=>lock_behind h w)
 have hT:=Lib.hid (fun nq=>Lo.try_free (hM.drewN nq).2.2.1 (lkB h) (by rw [hl]; exact lkB_lt (by omega)) k hk.1 (by omega) hf)
 have HM:=Lib.hid hM
 have HB:=Lib.hid hb
 have lM:=hM.1.lt
 have lf:=hb.lt
 have hh5:¬((h:Int)+1=5):=by omega
 clear hM hb hl hf
 generalize lkB h=j at*
 go_enter Tryz.func61,Tryz.ntmps61
 go_wp2_with fail
 go_region_held3 (fun w'=>w'.cell? ⟨M.m,1,none⟩=some (ptr M.lg)∧w'.cell? ⟨f,0,none⟩=some (.int .i64 k)∧w'.cell? ⟨f,5,none⟩=some (.int .i64 h)) (go_keep)
  (first
    | (go_at_call 80
       refine (hLB.out _).mono ?_
       rintro e w3 ⟨rfl,rfl⟩)
    | (go_at_call 81
       refine (hT.out 1).mono ?_
       rintro e w2 ⟨rfl,hL2,hO2⟩
       have hO2':=((Only.refl (Lo.foot M.lg M.lb) w).drewN 1).trans hO2
       have hM2:=HM.out.locks hL2 hO2'
       have hB2:=HB.out.only hO2' (fun hx=>rb_far HB.out HM.out (foot_locks _ hx))
       have s1:=hM2.hd.2.1
       have s2:=(rb_cells hB2).1
       have s3:=(rb_cells hB2).2.2.2.2.2.1
       have z5:=hB2.frozen 5
       simp at s1
       replace hO2':=Lib.hid hO2'
       replace hM2:=Lib.hid hM2
       replace hB2:=Lib.hid hB2
       clear hL2 hO2))
 all_goals
  go_wp2_with fail
  have hS:Rb (w2.setCell ⟨f,5,none⟩ (.int .i64 ((h:Int)+1))) f k z u2 u3 e (h+1) tv:=hB2.out.store 5 _
  have hOS:=(Only.refl (·=f) w2).setCell (p:=⟨f,5,none⟩) (.inl rfl) (.int .i64 ((h:Int)+1))
  have hMS:=mem_store hM2.out hB2.out hOS
  have hOO:=(hO2'.out.mono (fun x _ q=>(.inl (foot_locks _ q):mfoot M x∨x=f))).trans (hOS.mono (fun x _ q=>.inr q))
  go_ret
  exact ⟨rfl,hMS,hS,hOO⟩
set_option maxHeartbeats 2000000 in
theorem take_last (hM:MemAt w M) (ga:Gw.Gl) (sa:Sw.Sc) (R:Rz) (hb:Rb w f R.worker R.size u2 u3 R.err 4 tv) (hk:0≤R.worker∧R.worker≤1000) (hl:M.hs.length=6) (hx:1<M.xs.length) (hf:Lo.hol M.hs 4<0):
 Calls Tryz.prog 61 #[ptr f,ptr M.m] w fun x w'=>x=.returned (.bool false)∧MemAt w' {M with hs:=M.hs.set 4 R.worker}∧Only (fun x=>mfoot M x∨x=f) w w'∧∃ a':Ra,a'.f=f∧RzAt w' a' (look (lm M) R)∧∀ x,rfoot a' (look (lm M) R) x→x=f∨w.heap.size≤x:=by
 have d1:=hM.hd.2.1
 have c0:=(rb_cells hb).1
 have c5:=(rb_cells hb).2.2.2.2.2.1
 have hLB:=Lib.hid (fun w=>lock_behind 4 w)
 have hT:=Lib.hid (fun nq=>Lo.try_free (hM.drewN nq).2.2.1 4 (by rw [hl]; omega) R.worker hk.1 (by omega) hf)
 have hlk:lkB 4=4:=rfl
 rw [hlk] at hLB
 have HM:=Lib.hid hM
 have HB:=Lib.hid hb
 have lM:=hM.1.lt
 have lf:=hb.lt
 clear hM hb hl hf hlk
 go_enter Tryz.func61,Tryz.ntmps61
 go_wp2_with fail
 go_region_held3 (fun w'=>w'.cell? ⟨M.m,1,none⟩=some (ptr M.lg)∧w'.cell? ⟨f,0,none⟩=some (.int .i64 R.worker)∧w'.cell? ⟨f,5,none⟩=some (.int .i64 4)) (go_keep)
  (first
    | (go_at_call 80
       refine (hLB.out _).mono ?_
       rintro e w3 ⟨rfl,rfl⟩)
    | (go_at_call 81
       refine (hT.out 1).mono ?_
       rintro e w2 ⟨rfl,hL2,hO2⟩
       have hO2':=((Only.refl (Lo.foot M.lg M.lb) w).drewN 1).trans hO2
       have hM2:=HM.out.locks hL2 hO2'
       have hB2:=HB.out.only hO2' (fun hx=>rb_far HB.out HM.out (foot_locks _ hx))
       have s1:=hM2.hd.2.1
       have s2:=(rb_cells hB2).1
       have s3:=(rb_cells hB2).2.2.2.2.2.1
       have z5:=hB2.frozen 5
       simp at s1
       replace hO2':=Lib.hid hO2'
       replace hM2:=Lib.hid hM2
       replace hB2:=Lib.hid hB2
       clear hL2 hO2))
 all_goals
  go_wp2_with fail
  have hS:Rb (w2.setCell ⟨f,5,none⟩ (.int .i64 5)) f R.worker R.size u2 u3 R.err 5 tv:=hB2.out.store 5 _
  have hOS:=(Only.refl (·=f) w2).setCell (p:=⟨f,5,none⟩) (.inl rfl) (.int .i64 5)
  have hMS:=mem_store hM2.out hB2.out hOS
  have hOO:=(hO2'.out.mono (fun x _ q=>(.inl (foot_locks _ q):mfoot M x∨x=f))).trans (hOS.mono (fun x _ q=>.inr q))
  have hC:=Lib.hid (choose_any hMS hx ga sa R hS)
  replace hMS:=Lib.hid hMS
  replace hOO:=Lib.hid hOO
  replace hS:=Lib.hid hS
  clear hOS s1 s2 s3 z5
  refine hC.out.mono ?_
  rintro e1 w3 ⟨rfl,a',ha,hR,hfo,hO3⟩
  have hM3:=Lib.hid (mem_store hMS.out hS.out hO3)
  have hO4:=Lib.hid (hOO.out.trans (hO3.mono (fun x _ q=>.inr q)))
  have hfo':=Lib.hid (fun x hx=>(hfo x hx).imp id (fun q=>Nat.le_trans hOO.out.size q))
  replace hR:=Lib.hid hR
  clear hC hO3 hfo hS
  go_wp2_with fail
  go_ret
  exact ⟨rfl,hM3.out,hO4.out,a',ha,hR.out,hfo'.out⟩
set_option maxHeartbeats 2000000 in
theorem free_more (hM:MemAt w M) (hb:Rb w f k z u2 u3 e (h+1) tv) (hk:0≤k) (h1:1≤h) (hh:h≤4) (hl:M.hs.length=6) (hf:Lo.hol M.hs h=k):
 Calls Tryz.prog 105 #[ptr f,ptr M.m] w fun x w'=>x=.returned (.bool false)∧MemAt w' {M with hs:=M.hs.set h (-1)}∧Rb w' f k z u2 u3 e h tv∧Only (fun x=>mfoot M x∨x=f) w w':=by
 have c5:=(rb_cells hb).2.2.2.2.2.1
 have z5:=hb.frozen 5
 have hS:Rb (w.setCell ⟨f,5,none⟩ (.int .i64 h)) f k z u2 u3 e h tv:=hb.store 5 _
 have hOS:=(Only.refl (·=f) w).setCell (p:=⟨f,5,none⟩) (.inl rfl) (.int .i64 h)
 have hMS:=mem_store hM hb hOS
 have hLB:=Lib.hid (fun w=>lock_behind h w)
 have hT:=Lib.hid (fun nq=>Lo.free_own (hMS.drewN nq).2.2.1 h (by rw [hl]; omega) k hk hf)
 have hlk:lkB h=h:=if_neg (by omega)
 rw [hlk] at hLB
 have e5:((h+1:Nat):Int)-1=h:=by omega
 have hne:M.m≠f:=fun e=>rb_far hb hM (.inl e.symm)
 have d1:=hM.hd.2.1
 replace hMS:=Lib.hid hMS
 replace hS:=Lib.hid hS
 replace hOS:=Lib.hid hOS
 clear hM hb hl hf hlk
 go_enter Tryz.func105,Tryz.ntmps105
 go_upto_region 2 with (fail)
 have hpos:(0:Int)<(h:Int):=by omega
 clear c5 z5 hne d1
 generalize w.setCell ⟨f,5,none⟩ (.int .i64 h)=w1 at*
 have c0:=(rb_cells hS.out).1
 have c5:=(rb_cells hS.out).2.2.2.2.2.1
 have d1:=hMS.out.hd.2.1
 have lM:=hMS.out.1.lt
 have lf:=hS.out.lt
 go_wp2_with fail
 go_region_held3 (fun w'=>w'.cell? ⟨M.m,1,none⟩=some (ptr M.lg)∧w'.cell? ⟨f,0,none⟩=some (.int .i64 k)∧w'.cell? ⟨f,5,none⟩=some (.int .i64 h)) (go_keep)
  (first
    | (go_at_call 80
       refine (hLB.out _).mono ?_
       rintro e w3 ⟨rfl,rfl⟩)
    | (go_at_call 131
       refine (hT.out 1).mono ?_
       rintro e w2 ⟨rfl,hL2,hO2⟩
       have hO2':=((Only.refl (Lo.foot M.lg M.lb) w1).drewN 1).trans hO2
       have hM2:=hMS.out.locks hL2 hO2'
       have hB2:=hS.out.only hO2' (fun hx=>rb_far hS.out hMS.out (foot_locks _ hx))
       have s1:=hM2.hd.2.1
       have s2:=(rb_cells hB2).1
       have s3:=(rb_cells hB2).2.2.2.2.2.1
       simp at s1
       have hO4:=Lib.hid ((hOS.out.mono (fun x _ q=>(.inr q:mfoot M x∨x=f))).trans (hO2'.mono (fun x _ q=>.inl (foot_locks _ q))))
       replace hO2':=Lib.hid hO2'
       replace hM2:=Lib.hid hM2
       replace hB2:=Lib.hid hB2
       clear hL2 hO2))
 all_goals
  go_wp2_with fail
  go_ret
  exact ⟨rfl,hM2.out,hB2.out,hO4.out⟩
set_option maxHeartbeats 2000000 in
theorem free_last (hM:MemAt w M) (hb:Rb w f k z u2 u3 e 1 tv) (hk:0≤k) (hl:M.hs.length=6) (hf:Lo.hol M.hs 5=k):
 Calls Tryz.prog 105 #[ptr f,ptr M.m] w fun x w'=>x=.returned (.bool true)∧MemAt w' {M with hs:=M.hs.set 5 (-1)}∧Rb w' f k z (wf0 62) (wf0 106) e 0 tv∧Only (fun x=>mfoot M x∨x=f) w w':=by
 have c5:=(rb_cells hb).2.2.2.2.2.1
 have z5:=hb.frozen 5
 have hS:Rb (w.setCell ⟨f,5,none⟩ (.int .i64 0)) f k z u2 u3 e 0 tv:=hb.store 5 _
 have hOS:=(Only.refl (·=f) w).setCell (p:=⟨f,5,none⟩) (.inl rfl) (.int .i64 0)
 have hMS:=mem_store hM hb hOS
 have hLB:=Lib.hid (fun w=>lock_behind 0 w)
 have hT:=Lib.hid (fun nq=>Lo.free_own (hMS.drewN nq).2.2.1 5 (by rw [hl]; omega) k hk hf)
 have hlk:lkB 0=5:=rfl
 rw [hlk] at hLB
 have hne:M.m≠f:=fun e=>rb_far hb hM (.inl e.symm)
 have d1:=hM.hd.2.1
 replace hMS:=Lib.hid hMS
 replace hS:=Lib.hid hS
 replace hOS:=Lib.hid hOS
 clear hM hb hl hf hlk
 go_enter Tryz.func105,Tryz.ntmps105
 go_upto_region 2 with (fail)
 clear c5 z5 hne d1
 generalize w.setCell ⟨f,5,none⟩ (.int .i64 0)=w1 at*
 have c0:=(rb_cells hS.out).1
 have c5:=(rb_cells hS.out).2.2.2.2.2.1
 have d1:=hMS.out.hd.2.1
 have lM:=hMS.out.1.lt
 have lf:=hS.out.lt
 go_wp2_with fail
 go_region_held3 (fun w'=>w'.cell? ⟨M.m,1,none⟩=some (ptr M.lg)∧w'.cell? ⟨f,0,none⟩=some (.int .i64 k)∧w'.cell? ⟨f,5,none⟩=some (.int .i64 0)) (go_keep)
  (first
    | (go_at_call 80
       refine (hLB.out _).mono ?_
       rintro e w3 ⟨rfl,rfl⟩)
    | (go_at_call 131
       refine (hT.out 1).mono ?_
       rintro e w2 ⟨rfl,hL2,hO2⟩
       have hO2':=((Only.refl (Lo.foot M.lg M.lb) w1).drewN 1).trans hO2
       have hM2:=hMS.out.locks hL2 hO2'
       have hB2:=hS.out.only hO2' (fun hx=>rb_far hS.out hMS.out (foot_locks _ hx))
       have s1:=hM2.hd.2.1
       have s2:=(rb_cells hB2).1
       have s3:=(rb_cells hB2).2.2.2.2.2.1
       simp at s1
       have hO4:=Lib.hid ((hOS.out.mono (fun x _ q=>(.inr q:mfoot M x∨x=f))).trans (hO2'.mono (fun x _ q=>.inl (foot_locks _ q))))
       replace hO2':=Lib.hid hO2'
       replace hM2:=Lib.hid hM2
       replace hB2:=Lib.hid hB2
       clear hL2 hO2))
 all_goals
  have hE:=Lib.hid (end_any hB2.out)
  go_wp2_with fail
  refine hE.out.mono ?_
  rintro e1 w3 ⟨rfl,hB3,hO3⟩
  have hM3:=Lib.hid (mem_store hM2.out hB2.out hO3)
  have hO5:=Lib.hid (hO4.out.trans (hO3.mono (fun x _ q=>.inr q)))
  replace hB3:=Lib.hid hB3
  clear hE hO3 hB2
  go_wp2_with fail
  go_ret
  exact ⟨rfl,hM3.out,hB3.out,hO5.out⟩
end
end Go.Proofs.YtpobbnllcoabhaaGreat.Zr
namespace Go.Proofs.YtpobbnllcoabhaaGreat.Zr
open Go Go.RowKit Hp K Fl Rw Hm Ar Mm Wk Pc Me Mq Pu Pn Gt Qs Zp Mx LawTh Bs
set_option maxRecDepth 100000
section
variable {w w':World} {M:Mo} {a:Ra} {R:Rz} {f h b:Nat} {k z e:Int} {u2 u3 tv:Value}
theorem turn_go {T:TypeId} {fs:Nat} {m:Value} {P:World→Prop} (hb:Rb w f k z u2 u3 e h (.iface T (ptr b))) (ms:∀ (w:World) (f:Nat),(method (f+1) T (.pointer (some ⟨b,0,none⟩)) "Step").run Tryz.prog w=.ok (fs,.pointer (some ⟨b,0,none⟩)) w)
 (es:∀ args w,(callFunc fs args).run Tryz.prog w=.ok (.enter fs args) w) (hF:Calls Tryz.prog fs #[ptr b,m] w fun e w'=>e=.returned (.bool false)∧P w'):Calls Tryz.prog 130 #[ptr f,m] w fun e w'=>e=.returned (.bool false)∧P w':=by
 have c6:=(rb_cells hb).2.2.2.2.2.2
 replace hF:=Lib.hid hF
 clear hb
 go_enter Tryz.func130,Tryz.ntmps130
 go_wp2_with fail
 refine hF.out.mono ?_
 rintro e w' ⟨rfl,hP⟩
 replace hP:=Lib.hid hP
 clear c6
 go_wp2_with fail
 go_ret
 exact ⟨rfl,hP.out⟩
def Tn (w:World) (M:Mo) (f b:Nat) (k z e:Int) (u2 u3 tv:Value) (fe:Nat) (er:Int) (L':Lm) (S:Nat→Prop) (w':World):Prop:=
 ∃ M',MemAt w' M'∧M'.m=M.m∧lm M'=L'∧Kin w M M'∧Rb w' f k z u2 u3 e 5 tv∧Calls Tryz.prog fe #[ptr b] w' (fun x w''=>x=.returned (.int .i64 er)∧w''=w')∧Only S w w'
set_option maxHeartbeats 1000000 in
theorem turn_over {T:TypeId} {fs fe:Nat} {er:Int} {L':Lm} {S:Nat→Prop} (ga:Gw.Gl) (sa:Sw.Sc) (R:Rz) (hb:Rb w f R.worker R.size u2 u3 R.err 5 (.iface T (ptr b))) (ms:∀ (w:World) (f:Nat),(method (f+1) T (.pointer (some ⟨b,0,none⟩)) "Step").run Tryz.prog w=.ok (fs,.pointer (some ⟨b,0,none⟩)) w)
 (es:∀ args w,(callFunc fs args).run Tryz.prog w=.ok (.enter fs args) w) (me:∀ (w:World) (f:Nat),(method (f+1) T (.pointer (some ⟨b,0,none⟩)) "Err").run Tryz.prog w=.ok (fe,.pointer (some ⟨b,0,none⟩)) w) (ee:∀ args w,(callFunc fe args).run Tryz.prog w=.ok (.enter fe args) w)
 (hx:1<L'.xs.length) (hF:Calls Tryz.prog fs #[ptr b,ptr M.m] w fun e w'=>e=.returned (.bool true)∧Tn w M f b R.worker R.size R.err u2 u3 (.iface T (ptr b)) fe er L' S w'):
 Calls Tryz.prog 130 #[ptr f,ptr M.m] w fun e w'=>e=.returned (.bool false)∧∃ M',MemAt w' M'∧lm M'=L'∧Kin w M M'∧Only (fun x=>S x∨x=f) w w'∧∃ a':Ra,a'.f=f∧RzAt w' a' (after L' R er)∧∀ x,rfoot a' (after L' R er) x→x=f∨w.heap.size≤x:=by
 have c6:=(rb_cells hb).2.2.2.2.2.2
 replace hF:=Lib.hid hF
 clear hb
 unfold after
 by_cases h0:er=0
 · rw [if_pos h0]
   subst h0
   go_enter Tryz.func130,Tryz.ntmps130
   go_wp2_with fail
   refine hF.out.mono ?_
   rintro e w1 ⟨rfl,M',hM,hm,hL,hK,hb,hE,hO⟩
   have c6:=(rb_cells hb).2.2.2.2.2.2
   have c4:=(rb_cells hb).2.2.2.2.1
   have z4:=hb.frozen 4
   replace hE:=Lib.hid hE
   clear hF
   go_wp2_with fail
   refine hE.out.mono ?_
   rintro e w2 ⟨rfl,hw2⟩
   obtain rfl:w1=w2:=hw2.symm
   have hS:Rb (w1.setCell ⟨f,4,none⟩ (.int .i64 0)) f R.worker R.size u2 u3 0 5 (.iface T (ptr b)):=hb.store 4 _
   have hOS:=(Only.refl (·=f) w1).setCell (p:=⟨f,4,none⟩) (.inl rfl) (.int .i64 0)
   have hMS:=mem_store hM hb hOS
   have hC:=Lib.hid (choose_any hMS (by have:(lm M').xs=L'.xs:=by rw [hL]
                                        have e:M'.xs=L'.xs:=this
                                        rw [e]; exact hx) ga sa {R with err:=0} hS)
   rw [hm,hL] at hC
   have hO2:=Lib.hid ((hO.mono (fun x _ q=>(.inl q:S x∨x=f))).trans (hOS.mono (fun x _ q=>.inr q)))
   replace hMS:=Lib.hid hMS
   replace hS:=Lib.hid hS
   replace hK:=Lib.hid hK
   replace hL:=Lib.hid hL
   clear hE hM hm hb hO hOS
   go_wp2_with fail
   refine hC.out.mono ?_
   rintro e1 w3 ⟨rfl,a',ha,hR,hfo,hO3⟩
   have hM3:=Lib.hid (mem_store hMS.out hS.out hO3)
   have hO4:=Lib.hid (hO2.out.trans (hO3.mono (fun x _ q=>.inr q)))
   have hfo':=Lib.hid (fun x hx=>(hfo x hx).imp id (fun q=>Nat.le_trans hO2.out.size q))
   replace hR:=Lib.hid hR
   clear hC hO3 hfo hS hMS hO2 c4 c6 z4
   go_wp2_with fail
   go_ret
   exact ⟨rfl,M',hM3.out,hL.out,hK.out,hO4.out,a',ha,hR.out,hfo'.out⟩
 · rw [if_neg h0]
   go_enter Tryz.func130,Tryz.ntmps130
   go_wp2_with fail
   refine hF.out.mono ?_
   rintro e w1 ⟨rfl,M',hM,hm,hL,hK,hb,hE,hO⟩
   have c6:=(rb_cells hb).2.2.2.2.2.2
   have c4:=(rb_cells hb).2.2.2.2.1
   have z4:=hb.frozen 4
   replace hE:=Lib.hid hE
   clear hF
   go_wp2_with fail
   refine hE.out.mono ?_
   rintro e w2 ⟨rfl,hw2⟩
   obtain rfl:w1=w2:=hw2.symm
   have hS:Rb (w1.setCell ⟨f,4,none⟩ (.int .i64 er)) f R.worker R.size u2 u3 er 5 (.iface T (ptr b)):=hb.store 4 _
   have hOS:=(Only.refl (·=f) w1).setCell (p:=⟨f,4,none⟩) (.inl rfl) (.int .i64 er)
   have hMS:=mem_store hM hb hOS
   have hC:=Lib.hid (goOn_any (F1:=.func 62) (F2:=.func 105) (b1:=#[]) (b2:=#[ptr f]) hS)
   have hO2:=Lib.hid ((hO.mono (fun x _ q=>(.inl q:S x∨x=f))).trans (hOS.mono (fun x _ q=>.inr q)))
   replace hMS:=Lib.hid hMS
   replace hS:=Lib.hid hS
   replace hK:=Lib.hid hK
   replace hL:=Lib.hid hL
   clear hE hM hm hb hO hOS
   go_wp2_with fail
   refine hC.out.mono ?_
   rintro e1 w3 ⟨rfl,hB3,hO3⟩
   have hR:Hid (RzAt w3 ⟨f,.iface T (ptr b),ga,sa⟩ {R with err:=er,nx:=7}):=Lib.hid (RzAt.plain hB3 (by simp))
   have hM3:=Lib.hid (mem_store hMS.out hS.out hO3)
   have hO4:=Lib.hid (hO2.out.trans (hO3.mono (fun x _ q=>.inr q)))
   clear hC hO3 hS hMS hO2 c4 c6 z4 hB3
   go_wp2_with fail
   go_ret
   exact ⟨rfl,M',hM3.out,hL.out,hK.out,hO4.out,_,rfl,hR.out,fun x hx=>.inl (rfoot_plain (by simp) hx)⟩
end
end Go.Proofs.YtpobbnllcoabhaaGreat.Zr
namespace Go.Proofs.YtpobbnllcoabhaaGreat.Zr
open Go Go.RowKit Hp K Fl Rw Hm Ar Mm Wk Pc Me Mq Pu Pn Gt Qs Zp Mx LawTh Bs
set_option maxRecDepth 100000
theorem wstep_xl (n:Nat) (xs hs:List Int) (W:Wt):xs.length≤(wstep n xs hs W).1.length:=by
 unfold wstep
 split
 · exact Nat.le_refl _
 split
 · simp
 split
 · exact Nat.le_refl _
 · exact Nat.le_refl _
theorem gstep_xl (L:Lm) (G:Gw.Gr):L.xs.length≤(Gw.gstep L G).1.xs.length:=by
 unfold Gw.gstep
 split
 · exact Nat.le_refl _
 split
 · split
   · simp
   · exact Nat.le_refl _
 split
 · exact Nat.le_refl _
 split
 · exact Nat.le_refl _
 split
 · simp
 split
 · simp
 split
 · exact wstep_xl _ _ _ _
 · split
   · exact Nat.le_refl _
   · exact Nat.le_refl _
theorem sstep_xl (L:Lm) (G:Sw.Sh):L.xs.length≤(Sw.sstep L G).1.xs.length:=by
 unfold Sw.sstep
 split
 · exact Nat.le_refl _
 split
 · split
   · simp
   · exact Nat.le_refl _
 split
 · exact Nat.le_refl _
 split
 · exact Nat.le_refl _
 split
 · exact Nat.le_refl _
 split
 · exact Nat.le_refl _
 split
 · simp
 split
 · simp
 · exact wstep_xl _ _ _ _
theorem gro_err {w:World} {a:Gw.Gl} {G:Gw.Gr} (h:Gw.GrAt w a G):Calls Tryz.prog 69 #[ptr a.f] w fun e w'=>e=.returned (.int .i64 G.err)∧w'=w:=by
 have c3:=(Gw.own_hd h.blk).2.2.2.1
 clear h
 go_enter Tryz.func69,Tryz.ntmps69
 go_wp2_with fail
 go_ret
 exact ⟨rfl,rfl⟩
theorem me_gro (b:Nat) (w:World) (f:Nat):(method (f+1) 138 (.pointer (some ⟨b,0,none⟩)) "Err").run Tryz.prog w=.ok (69,.pointer (some ⟨b,0,none⟩)) w:=by kernel_rfl
theorem me_shr (b:Nat) (w:World) (f:Nat):(method (f+1) 140 (.pointer (some ⟨b,0,none⟩)) "Err").run Tryz.prog w=.ok (71,.pointer (some ⟨b,0,none⟩)) w:=by kernel_rfl
theorem ee_gro (args:Array Value) (w:World):(callFunc 69 args).run Tryz.prog w=.ok (.enter 69 args) w:=by kernel_rfl
theorem ee_shr (args:Array Value) (w:World):(callFunc 71 args).run Tryz.prog w=.ok (.enter 71 args) w:=by kernel_rfl
theorem er_mt (args:Array Value) (w:World):(callFunc 60 args).run Tryz.prog w=.ok (.enter 60 args) w:=by kernel_rfl
theorem es_rf (args:Array Value) (w:World):(callFunc 63 args).run Tryz.prog w=.ok (.enter 63 args) w:=by kernel_rfl
theorem es_tk (args:Array Value) (w:World):(callFunc 61 args).run Tryz.prog w=.ok (.enter 61 args) w:=by kernel_rfl
theorem es_tn (args:Array Value) (w:World):(callFunc 130 args).run Tryz.prog w=.ok (.enter 130 args) w:=by kernel_rfl
theorem es_fr (args:Array Value) (w:World):(callFunc 105 args).run Tryz.prog w=.ok (.enter 105 args) w:=by kernel_rfl
section
variable {w w':World} {M:Mo} {a:Ra} {R:Rz}
theorem lkB_of {nx:Nat} (h:1≤nx∧nx≤5):lkB (hld nx)=lockOf nx:=by
 have e:hld nx=nx-1:=by unfold hld; rw [if_neg (by omega),if_pos h.2]
 rw [e]
 unfold lkB lockOf
 by_cases q:nx=1
 · rw [if_pos q,if_pos (by omega)]
 · rw [if_neg q,if_neg (by omega)]
theorem rz_ready (hM:MemAt w M) (h:RzAt w a R) (ok:Okrz (lm M) R):Calls Tryz.prog 258 #[ptr a.f,ptr M.m] w fun e w'=>e=.returned (.bool (rready (lm M) R))∧Below w.heap.size w w':=by
 have c2:=(rb_cells h.blk).2.2.1
 unfold rrv at c2
 unfold rready
 by_cases q1:1≤R.nx∧R.nx≤5
 · rw [if_pos q1] at c2 ⊢
   have hwk:=ok.wk (by omega)
   have h4:hld R.nx≤4:=by unfold hld; rw [if_neg (by omega),if_pos q1.2]; omega
   have hm:=mayTake_any hM h.blk hwk.1 h4 ok.hl
   rw [lkB_of q1] at hm
   rw [show decide (0≤R.worker∧Lo.hol (lm M).hs (lockOf R.nx)= -1)=decide (Lo.hol M.hs (lockOf R.nx)= -1) by
    by_cases e:Lo.hol M.hs (lockOf R.nx)= -1
    · rw [decide_eq_true e,decide_eq_true ⟨hwk.1,e⟩]
    · rw [decide_eq_false e,decide_eq_false (fun q=>e q.2)]]
   exact ready_fm c2 er_mt hm
 rw [if_neg q1] at c2 ⊢
 by_cases q6:R.nx=6
 · rw [if_pos q6] at c2 ⊢
   rcases ok.inn q6 with ⟨G,e,hG⟩ | ⟨G,e,hG⟩
   · obtain ⟨t1,t2⟩:=h.gro G q6 e
     rw [t1] at c2
     rw [e]
     exact ready_by c2 (Gw.gro_frm.mr _) Gw.gro_frm.er (Gw.gro_frm.ready hM t2 hG)
   · obtain ⟨t1,t2⟩:=h.shr G q6 e
     rw [t1] at c2
     rw [e]
     exact ready_by c2 (Sw.shr_frm.mr _) Sw.shr_frm.er (Sw.shr_frm.ready hM t2 hG)
 · rw [if_neg q6] at c2 ⊢
   exact ready_f0 c2
theorem stp_lock {i:Nat} {v:Int} {R':Rz} (hn:R'.nx≠6) (hw:R'.worker=R.worker∧R'.size=R.size∧R'.err=R.err) (hM':MemAt w' {M with hs:=M.hs.set i v}) (hB:Rb w' a.f R.worker R.size (rrv a.f R'.nx a.tv) (rnv a.f R'.nx) R.err (hld R'.nx) a.tv) (hO:Only (fun x=>mfoot M x∨x=a.f) w w'):
 rzL.Stp w M a R {lm M with hs:=M.hs.set i v} R' w':=by
 have hB':RzAt w' a R':=RzAt.plain (by unfold rzc; rw [hw.1,hw.2.1,hw.2.2]; exact hB) hn
 exact ⟨_,a,hM',rfl,⟨rfl,rfl,rfl,rfl,fun x q=>.inl q⟩,hB',rfl,fun x hx=>.inl (.inl (rfoot_plain hn hx)),hO.mono (fun x _ q=>q.imp id .inl)⟩
theorem own_gro (h:RzAt w a R) {G:Gw.Gr} (hG:Gw.GrAt w a.ga G):¬Gw.gfoot a.ga G a.f:=fun hx=>by
 rcases hG.ty hx with q | ⟨ms,q⟩
 · exact q.apart (blk_ty h.blk) (by decide)
 · exact q.no (blk_ty h.blk)
theorem own_shr (h:RzAt w a R) {G:Sw.Sh} (hG:Sw.ShAt w a.sa G):¬Sw.sfoot a.sa G a.f:=fun hx=>by
 rcases hG.ty hx with q | ⟨ms,q⟩
 · exact q.apart (blk_ty h.blk) (by decide)
 · exact q.no (blk_ty h.blk)
theorem turn_gro (hM:MemAt w M) (h:RzAt w a R) (h6:R.nx=6) {G:Gw.Gr} (e:R.inn=.gro G) (ok:Gw.Okgr (lm M) G) (hx:1<M.xs.length) (hr:Gw.gready (lm M) G=true):
 Calls Tryz.prog 130 #[ptr a.f,ptr M.m] w fun x w'=>x=.returned (.bool false)∧rzL.Stp w M a R (Gw.gstep (lm M) G).1 (if Gw.gdone (lm M) G=true then after (Gw.gstep (lm M) G).1 {R with inn:=.gro (Gw.gstep (lm M) G).2} (Gw.gstep (lm M) G).2.err else {R with inn:=.gro (Gw.gstep (lm M) G).2}) w':=by
 obtain ⟨t1,t2⟩:=h.gro G h6 e
 have hst:=Gw.gro_frm.step hM t2 ok hr
 have hself:=own_gro h t2
 have hfar:¬mfoot M a.f:=rb_far h.blk hM
 have hblk:Rb w a.f R.worker R.size (rrv a.f R.nx a.tv) (rnv a.f R.nx) R.err (hld R.nx) a.tv:=h.blk
 have hh:hld R.nx=5:=by rw [h6]; rfl
 cases hd:Gw.gdone (lm M) G with
 | false=>
   rw [if_neg (by simp)]
   rw [t1] at hblk
   rw [hd] at hst
   refine (turn_go hblk (Gw.gro_frm.ms _) Gw.gro_frm.es hst).mono ?_
   rintro x w' ⟨rfl,M',ga',r1,r2,r3,r4,r5,r6,r7⟩
   refine ⟨rfl,M',{a with ga:=ga'},r1,r2,r3,⟨?_,fun G' _ q=>?_,fun G' _ q=>by simp at q⟩,rfl,fun x hx=>?_,r7.mono (fun x _ q=>q.imp id (fun q=>.inr (.inl ⟨G,h6,e,q⟩)))⟩
   · exact h.blk.only r7 (fun q=>q.elim hfar hself)
   · injection q with q
     subst q
     exact ⟨by rw [show ga'.f=a.ga.f from r5]; exact t1,r4⟩
   · rcases hx with q | ⟨G',_,q2,q3⟩ | ⟨G',_,q2,_⟩
     · exact .inl (.inl q)
     · injection q2 with q2
       subst q2
       exact (r6 x q3).imp (fun q=>.inr (.inl ⟨G,h6,e,q⟩)) id
     · simp at q2
 | true=>
   rw [if_pos rfl]
   rw [hh,t1] at hblk
   rw [hd] at hst
   have hxl:1<(Gw.gstep (lm M) G).1.xs.length:=by
    have:=gstep_xl (lm M) G
    have e:1<(lm M).xs.length:=hx
    omega
   refine (turn_over (fe:=69) (er:=(Gw.gstep (lm M) G).2.err) (L':=(Gw.gstep (lm M) G).1) (S:=fun x=>mfoot M x∨Gw.gfoot a.ga G x) a.ga a.sa {R with inn:=.gro (Gw.gstep (lm M) G).2} hblk (Gw.gro_frm.ms _) Gw.gro_frm.es (me_gro _) ee_gro hxl (hst.mono ?_)).mono ?_
   · rintro x w' ⟨rfl,M',ga',r1,r2,r3,r4,r5,r6,r7⟩
     have hE:=gro_err r4
     rw [show ga'.f=a.ga.f from r5] at hE
     exact ⟨rfl,M',r1,r3.m,r2,r3,hblk.only r7 (fun q=>q.elim hfar hself),hE,r7⟩
   · rintro x w' ⟨rfl,M',r1,r2,r3,r4,a',r5,r6,r7⟩
     refine ⟨rfl,M',a',r1,r2,r3,r6,r5,fun x hx=>(r7 x hx).imp .inl id,r4.mono (fun x _ q=>?_)⟩
     rcases q with (q | q) | q
     · exact .inl q
     · exact .inr (.inr (.inl ⟨G,h6,e,q⟩))
     · exact .inr (.inl q)
theorem turn_shr (hM:MemAt w M) (h:RzAt w a R) (h6:R.nx=6) {G:Sw.Sh} (e:R.inn=.shr G) (ok:Sw.Oksh (lm M) G) (hx:1<M.xs.length) (hr:Sw.sready (lm M) G=true):
 Calls Tryz.prog 130 #[ptr a.f,ptr M.m] w fun x w'=>x=.returned (.bool false)∧rzL.Stp w M a R (Sw.sstep (lm M) G).1 (if Sw.sdone (lm M) G=true then after (Sw.sstep (lm M) G).1 {R with inn:=.shr (Sw.sstep (lm M) G).2} (Sw.sstep (lm M) G).2.err else {R with inn:=.shr (Sw.sstep (lm M) G).2}) w':=by
 obtain ⟨t1,t2⟩:=h.shr G h6 e
 have hst:=Sw.shr_frm.step hM t2 ok hr
 have hself:=own_shr h t2
 have hfar:¬mfoot M a.f:=rb_far h.blk hM
 have hblk:Rb w a.f R.worker R.size (rrv a.f R.nx a.tv) (rnv a.f R.nx) R.err (hld R.nx) a.tv:=h.blk
 have hh:hld R.nx=5:=by rw [h6]; rfl
 cases hd:Sw.sdone (lm M) G with
 | false=>
   rw [if_neg (by simp)]
   rw [t1] at hblk
   rw [hd] at hst
   refine (turn_go hblk (Sw.shr_frm.ms _) Sw.shr_frm.es hst).mono ?_
   rintro x w' ⟨rfl,M',sa',r1,r2,r3,r4,r5,r6,r7⟩
   refine ⟨rfl,M',{a with sa:=sa'},r1,r2,r3,⟨?_,fun G' _ q=>by simp at q,fun G' _ q=>?_⟩,rfl,fun x hx=>?_,r7.mono (fun x _ q=>q.imp id (fun q=>.inr (.inr ⟨G,h6,e,q⟩)))⟩
   · exact h.blk.only r7 (fun q=>q.elim hfar hself)
   · injection q with q
     subst q
     exact ⟨by rw [show sa'.f=a.sa.f from r5]; exact t1,r4⟩
   · rcases hx with q | ⟨G',_,q2,_⟩ | ⟨G',_,q2,q3⟩
     · exact .inl (.inl q)
     · simp at q2
     · injection q2 with q2
       subst q2
       exact (r6 x q3).imp (fun q=>.inr (.inr ⟨G,h6,e,q⟩)) id
 | true=>
   rw [if_pos rfl]
   rw [hh,t1] at hblk
   rw [hd] at hst
   have hxl:1<(Sw.sstep (lm M) G).1.xs.length:=by
    have:=sstep_xl (lm M) G
    have e:1<(lm M).xs.length:=hx
    omega
   refine (turn_over (fe:=71) (er:=(Sw.sstep (lm M) G).2.err) (L':=(Sw.sstep (lm M) G).1) (S:=fun x=>mfoot M x∨Sw.sfoot a.sa G x) a.ga a.sa {R with inn:=.shr (Sw.sstep (lm M) G).2} hblk (Sw.shr_frm.ms _) Sw.shr_frm.es (me_shr _) ee_shr hxl (hst.mono ?_)).mono ?_
   · rintro x w' ⟨rfl,M',sa',r1,r2,r3,r4,r5,r6,r7⟩
     have hE:=Sw.err_any r4
     rw [show sa'.f=a.sa.f from r5] at hE
     exact ⟨rfl,M',r1,r3.m,r2,r3,hblk.only r7 (fun q=>q.elim hfar hself),hE,r7⟩
   · rintro x w' ⟨rfl,M',r1,r2,r3,r4,a',r5,r6,r7⟩
     refine ⟨rfl,M',a',r1,r2,r3,r6,r5,fun x hx=>(r7 x hx).imp .inl id,r4.mono (fun x _ q=>?_)⟩
     rcases q with (q | q) | q
     · exact .inl q
     · exact .inr (.inr (.inr ⟨G,h6,e,q⟩))
     · exact .inr (.inl q)
theorem rz_step (hM:MemAt w M) (h:RzAt w a R) (ok:Okrz (lm M) R) (hr:rready (lm M) R=true):
 Calls Tryz.prog 259 #[ptr a.f,ptr M.m] w fun e w'=>e=.returned (.bool (rdone (lm M) R))∧rzL.Stp w M a R (rstep (lm M) R).1 (rstep (lm M) R).2 w':=by
 have c3:=(rb_cells h.blk).2.2.2.1
 unfold rnv at c3
 have hnx:=ok.nx
 have hB:Rb w a.f R.worker R.size (rrv a.f R.nx a.tv) (rnv a.f R.nx) R.err (hld R.nx) a.tv:=h.blk
 by_cases e0:R.nx=0
 · rw [if_pos e0] at c3
   rw [show rdone (lm M) R=true from decide_eq_true (.inl e0)]
   have es:rstep (lm M) R=(lm M,{R with err:=5,nx:=12}):=by unfold rstep; rw [if_pos e0]
   rw [es]
   refine step_fm c3 es_rf ((refuse_step hB (ptr M.m)).mono ?_)
   rintro x w' ⟨rfl,hB',hO⟩
   have hR:RzAt w' a {R with err:=5,nx:=12}:=RzAt.plain (by rw [e0] at hB'; exact hB') (by simp)
   exact ⟨rfl,M,a,mem_store hM hB hO,rfl,Kin.refl _ _,hR,rfl,fun x hx=>.inl (.inl (rfoot_plain (by simp) hx)),hO.mono (fun x _ q=>.inr (.inl q))⟩
 rw [if_neg e0] at c3
 have hwk:=ok.wk e0
 by_cases e5:R.nx≤5
 · rw [if_pos e5] at c3
   have hh:hld R.nx=R.nx-1:=by unfold hld; rw [if_neg e0,if_pos e5]
   have hq:1≤R.nx∧R.nx≤5:=⟨by omega,e5⟩
   rw [show rdone (lm M) R=false from decide_eq_false (by omega)]
   unfold rready at hr
   rw [if_pos hq] at hr
   have hfree:=(of_decide_eq_true hr).2
   rw [← lkB_of hq,hh] at hfree
   have hfree:Lo.hol M.hs (lkB (R.nx-1))<0:=by
    have:Lo.hol M.hs (lkB (R.nx-1))= -1:=hfree
    omega
   by_cases e4:R.nx=5
   · have es:rstep (lm M) R=({lm M with hs:=M.hs.set 4 R.worker},look (lm M) R):=by
      unfold rstep; rw [if_neg e0,if_neg (by omega),if_neg (by omega),if_pos e4]
     rw [es]
     rw [hh,e4] at hB
     rw [e4] at hfree
     refine step_fm c3 es_tk ((take_last hM a.ga a.sa R hB hwk ok.hl ok.x1 hfree).mono ?_)
     rintro x w' ⟨rfl,hM',hO,a',ha,hR,hfo⟩
     exact ⟨rfl,_,a',hM',rfl,⟨rfl,rfl,rfl,rfl,fun x q=>.inl q⟩,hR,ha,fun x hx=>(hfo x hx).imp .inl id,hO.mono (fun x _ q=>q.imp id .inl)⟩
   · have hl4:R.nx-1<4:=by omega
     have es:rstep (lm M) R=({lm M with hs:=M.hs.set (lkB (R.nx-1)) R.worker},{R with nx:=R.nx+1}):=by
      unfold rstep lkB
      rw [if_neg e0]
      by_cases e1:R.nx=1
      · rw [if_pos e1,if_pos (by omega),e1]
      · rw [if_neg e1,if_pos (by omega),if_neg (by omega)]
     rw [es]
     rw [hh] at hB
     refine step_fm c3 es_tk ((take_more hM hB hwk hl4 ok.hl hfree).mono ?_)
     rintro x w' ⟨rfl,hM',hB',hO⟩
     refine ⟨rfl,stp_lock (by show R.nx+1≠6; omega) ⟨rfl,rfl,rfl⟩ hM' ?_ hO⟩
     have h1:rrv a.f (R.nx+1) a.tv=rrv a.f R.nx a.tv:=by unfold rrv; rw [if_pos (by omega),if_pos hq]
     have h2:rnv a.f (R.nx+1)=rnv a.f R.nx:=by unfold rnv; rw [if_neg (by omega),if_pos (by omega),if_neg e0,if_pos e5]
     have h3:hld (R.nx+1)=R.nx-1+1:=by unfold hld; rw [if_neg (by omega),if_pos (by omega)]; omega
     show Rb w' a.f R.worker R.size (rrv a.f (R.nx+1) a.tv) (rnv a.f (R.nx+1)) R.err (hld (R.nx+1)) a.tv
     rw [h1,h2,h3]
     exact hB'
 rw [if_neg e5] at c3
 by_cases e6:R.nx=6
 · rw [if_pos e6] at c3
   rw [show rdone (lm M) R=false from decide_eq_false (by omega)]
   unfold rready at hr
   rw [if_neg (by omega),if_pos e6] at hr
   rcases ok.inn e6 with ⟨G,e,hG⟩ | ⟨G,e,hG⟩
   · rw [e] at hr
     have es:rstep (lm M) R=((Gw.gstep (lm M) G).1,if Gw.gdone (lm M) G=true then after (Gw.gstep (lm M) G).1 {R with inn:=.gro (Gw.gstep (lm M) G).2} (Gw.gstep (lm M) G).2.err else {R with inn:=.gro (Gw.gstep (lm M) G).2}):=by
      unfold rstep; rw [if_neg e0,if_neg (by omega),if_neg (by omega),if_neg (by omega),if_pos e6,e]
     rw [es]
     exact step_fm c3 es_tn (turn_gro hM h e6 e hG ok.x1 hr)
   · rw [e] at hr
     have es:rstep (lm M) R=((Sw.sstep (lm M) G).1,if Sw.sdone (lm M) G=true then after (Sw.sstep (lm M) G).1 {R with inn:=.shr (Sw.sstep (lm M) G).2} (Sw.sstep (lm M) G).2.err else {R with inn:=.shr (Sw.sstep (lm M) G).2}):=by
      unfold rstep; rw [if_neg e0,if_neg (by omega),if_neg (by omega),if_neg (by omega),if_pos e6,e]
     rw [es]
     exact step_fm c3 es_tn (turn_shr hM h e6 e hG ok.x1 hr)
 rw [if_neg e6,if_pos hnx] at c3
 have hh:hld R.nx=12-R.nx:=by unfold hld; rw [if_neg e0,if_neg e5,if_neg e6]
 have hrv:rrv a.f R.nx a.tv=wf0 62:=by unfold rrv; rw [if_neg (by omega),if_neg e6]
 have hnv:rnv a.f R.nx=wfm 105 (ptr a.f):=by unfold rnv; rw [if_neg e0,if_neg e5,if_neg e6,if_pos hnx]
 by_cases e10:R.nx≤10
 · rw [show rdone (lm M) R=false from decide_eq_false (by omega)]
   have es:rstep (lm M) R=({lm M with hs:=M.hs.set (11-R.nx) (-1)},{R with nx:=R.nx+1}):=by
    unfold rstep; rw [if_neg e0,if_neg (by omega),if_neg (by omega),if_neg (by omega),if_neg e6,if_pos e10]
   rw [es]
   have hld':=ok.held (by omega) e10
   rw [hh,show 12-R.nx=11-R.nx+1 by omega] at hB
   refine step_fm c3 es_fr ((free_more hM hB hwk.1 (by omega) (by omega) ok.hl hld').mono ?_)
   rintro x w' ⟨rfl,hM',hB',hO⟩
   refine ⟨rfl,stp_lock (by show R.nx+1≠6; omega) ⟨rfl,rfl,rfl⟩ hM' ?_ hO⟩
   have h1:rrv a.f (R.nx+1) a.tv=rrv a.f R.nx a.tv:=by rw [hrv]; unfold rrv; rw [if_neg (by omega),if_neg (by omega)]
   have h2:rnv a.f (R.nx+1)=rnv a.f R.nx:=by rw [hnv]; unfold rnv; rw [if_neg (by omega),if_neg (by omega),if_neg (by omega),if_pos (by omega)]
   have h3:hld (R.nx+1)=11-R.nx:=by unfold hld; rw [if_neg (by omega),if_neg (by omega),if_neg (by omega)]; omega
   show Rb w' a.f R.worker R.size (rrv a.f (R.nx+1) a.tv) (rnv a.f (R.nx+1)) R.err (hld (R.nx+1)) a.tv
   rw [h1,h2,h3]
   exact hB'
 · have e11:R.nx=11:=by omega
   rw [show rdone (lm M) R=true from decide_eq_true (.inr (by omega))]
   have es:rstep (lm M) R=({lm M with hs:=M.hs.set 5 (-1)},{R with nx:=12}):=by
    unfold rstep; rw [if_neg e0,if_neg (by omega),if_neg (by omega),if_neg (by omega),if_neg e6,if_neg e10]
   rw [es]
   rw [hh,e11] at hB
   refine step_fm c3 es_fr ((free_last hM hB hwk.1 ok.hl (ok.last e11)).mono ?_)
   rintro x w' ⟨rfl,hM',hB',hO⟩
   exact ⟨rfl,stp_lock (by show 12≠6; omega) ⟨rfl,rfl,rfl⟩ hM' hB' hO⟩
end
theorem rz_frm:Frm rzL 94 258 259 Okrz rready rstep rdone where
 below h hb:=rz_below h hb
 mr b w f:=by kernel_rfl
 ms b w f:=by kernel_rfl
 er args w:=by kernel_rfl
 es args w:=by kernel_rfl
 ready hM h ok:=rz_ready hM h ok
 step hM h ok hr:=rz_step hM h ok hr
end Go.Proofs.YtpobbnllcoabhaaGreat.Zr
namespace Go.Proofs.YtpobbnllcoabhaaGreat.LawSix
open Go Go.RowKit Hp K Fl Rw Hm Ar Mm Me LK Qs
set_option maxRecDepth 100000
set_option maxHeartbeats 1000000 in
theorem awake (w:World):Calls Tryz.prog 93 #[] w fun e w'=>e=.returned (.bool true)∧Below w.heap.size w w':=by
 have hN:=Lib.hid (made_yes 1 2 w (by omega) (by omega))
 go_enter Tryz.func93,Tryz.ntmps93
 go_wp2_with fail
 refine hN.out.mono ?_
 rintro e w1 ⟨M,rfl,hM,hlo,hB,h1,h2,h3,h4,h5,h6,h7⟩
 clear hN
 have hE:=Lib.hid (enter_any 1 w1)
 replace hM:=Lib.hid hM
 replace hlo:=Lib.hid hlo
 replace hB:=Lib.hid hB
 replace h1:=Lib.hid h1
 replace h4:=Lib.hid h4
 replace h5:=Lib.hid h5
 clear h2 h3 h6 h7
 go_wp2_with fail
 refine hE.out.mono ?_
 rintro e w2 ⟨rfl,hE2,hB2⟩
 have hS:=Lib.hid (sync_any 0 w2)
 replace hM:=Lib.hid (hM.out.below hB2)
 replace hE2:=Lib.hid hE2
 replace hB2:=Lib.hid hB2
 clear hE
 go_wp2_with fail
 refine hS.out.mono ?_
 rintro e w3 ⟨rfl,hW3,hB3⟩
 replace hM:=Lib.hid (hM.out.below hB3)
 have hE3:CmAt w3 w1.heap.size ⟨1,0,0⟩:=hE2.out.only (Only.ofBelow hB3 (fun _=>False)) (by simp)
 have hne:w1.heap.size≠w2.heap.size:=by have:=hE2.out.lt; omega
 have hB03:=Lib.hid (hB.out.trans ((hB2.out.trans (hB3.mono hB2.out.size)).mono hB.out.size))
 have hge1:w.heap.size≤w1.heap.size:=hB.out.size
 have hge2:w.heap.size≤w2.heap.size:=by have:=hB2.out.size; omega
 clear hS hE2 hB hB2 hB3
 generalize w1.heap.size=fe at*
 generalize w2.heap.size=fs at*
 have hF1:=finish_coming hM.out hE3 (by simp) (by rw [h1.out]; simp) (by simp) (by simp) 9 (by omega)
 have e1:fin (fun _=>true) stC (fun s=>decide (s.2.at_=1)) 9 (M.xs,(⟨1,0,0⟩:Cm))=(2,true,[1,0,0,1,0],⟨1,2,1⟩):=by rw [h1.out]; rfl
 rw [e1] at hF1
 replace hF1:=Lib.hid hF1
 replace hW3:=Lib.hid hW3
 replace hge1:=Lib.hid hge1
 replace hge2:=Lib.hid hge2
 replace hne:=Lib.hid hne
 clear e1 hE3
 go_wp2_with fail
 refine hF1.out.mono ?_
 rintro e w4 ⟨rfl,hM4,hC4,hO4⟩
 have hW4:WtAt w4 fs ⟨0,0,0,0⟩:=hW3.out.only hO4 (by
  rintro (q | q)
  · exact (hW3.out.far hM.out) q
  · exact hne.out q.symm)
 have hF2:=finish_wait (n:=2) hM4 hW4 h5.out ⟨by omega,by simp,by simp,by rw [h4.out]; simp,by simp,by simp,by simp⟩ 9 (by omega)
 have e2:fin rdW (stW 2) dnW 9 ([1,0,0,1,0],M.hs,(⟨0,0,0,0⟩:Wt))=(3,false,[2,0,0,1,0],[0, -1, -1, -1, -1, -1],⟨0,2,2,1⟩):=by rw [h4.out]; rfl
 rw [e2] at hF2
 replace hF2:=Lib.hid hF2
 replace hO4:=Lib.hid hO4
 replace hM4:=Lib.hid hM4
 clear e2 hC4 hW4 hF1
 go_wp2_with fail
 refine hF2.out.mono ?_
 rintro e w5 ⟨rfl,hM5,hW5,hO5⟩
 have low:∀ (a b:World) (f:Nat),Below w.heap.size w a→Only (fun x=>mfoot M x∨x=f) a b→w.heap.size≤f→Below w.heap.size w b:=fun a b f ha ho hf=>ha.trans (ho.toBelow ha.size (fun x hx q=>by
  rcases q with q | q
  · have:=hlo.out x q; omega
  · omega))
 replace low:=Lib.hid low
 have hB5:=low.out _ _ _ (low.out _ _ _ hB03.out hO4.out hge1.out) hO5 hge2.out
 have hL:=Lib.hid (leave_any 1 w5)
 replace hM5:=Lib.hid hM5
 replace hW5:=Lib.hid hW5
 replace hB5:=Lib.hid hB5
 clear hO5 hO4 hM4 hF2 hM hW3 hB03 hge1 hne
 go_wp2_with fail
 refine hL.out.mono ?_
 rintro e w6 ⟨rfl,hG6,hB6⟩
 have hM6:=hM5.out.below hB6
 have hW6:WtAt w6 fs ⟨0,2,2,1⟩:=hW5.out.only (Only.ofBelow hB6 (fun _=>False)) (by simp)
 have hge3:w.heap.size≤w5.heap.size:=hB5.out.size
 have hne:w5.heap.size≠fs:=by have:=hW5.out.lt; omega
 have hB6':=Lib.hid (hB5.out.trans (hB6.mono hge3))
 generalize w5.heap.size=fl at*
 have hI6:Hid (Calls Tryz.prog 120 #[ptr M.m,.int .i64 1] w6 fun e w'=>e=.returned (.bool true)∧∃ n,w'=w6.drewN n):=Lib.hid (in_any hM6 1 (by simp) (by omega))
 replace hG6:=Lib.hid hG6
 replace hM6:=Lib.hid hM6
 replace hW6:=Lib.hid hW6
 replace hge3:=Lib.hid hge3
 replace hne:=Lib.hid hne
 clear hB6 hL hB5 hM5 hW5
 go_wp2_with fail
 refine hI6.out.mono ?_
 rintro e w7 ⟨rfl,nq,rfl⟩
 have hM7:=hM6.out.drewN nq
 have hW7:WtAt (w6.drewN nq) fs ⟨0,2,2,1⟩:=hW6.out.only ((Only.refl (fun _=>False) w6).drewN nq) (by simp)
 have hG7:GgAt (w6.drewN nq) fl 1 0:=hG6.out.only ((Only.refl (fun _=>False) w6).drewN nq) (by simp)
 have hB7:Below w.heap.size w (w6.drewN nq):=hB6'.out.trans ⟨rfl,rfl,rfl,Nat.le_refl _,fun _ _=>rfl⟩
 have hGf:=hG7.far hM7
 have hWf:=hW7.far hM7
 generalize w6.drewN nq=w7 at*
 have hF3:=Lib.hid (finish_going hM7 hG7 (by simp) (by omega) 9 (by omega) (by omega))
 replace hB7:=Lib.hid hB7
 replace hW7:=Lib.hid hW7
 replace hWf:=Lib.hid hWf
 clear hM7 hG7 hM6 hW6 hG6 hI6 hB6' hGf
 go_wp2_with fail
 refine hF3.out.mono ?_
 rintro e w8 ⟨rfl,hM8,hG8,hO8⟩
 have hW8:WtAt w8 fs ⟨0,2,2,1⟩:=hW7.out.only hO8 (by
  rintro (q | q)
  · exact hWf.out q
  · exact hne.out q.symm)
 have hB8:=Lib.hid (low.out _ _ _ hB7.out hO8 hge3.out)
 have hF4:=finish_wait (n:=2) hM8 hW8 h5.out ⟨by omega,by simp,by simp,by simp,by simp,by simp,by simp [Lo.hol]⟩ 9 (by omega)
 have e3:fin rdW (stW 2) dnW 9 ([2,0,0,1,0].set (2+1) 0,[0, -1, -1, -1, -1, -1],(⟨0,2,2,1⟩:Wt))=(2,true,[2,0,0,0,0],[-1, -1, -1, -1, -1, -1],⟨0,4,2,2⟩):=by rfl
 have hF4':Calls Tryz.prog 21 #[ptr M.m,.iface 107 (ptr fs),.int .i64 9] w8 fun e w'=>e=.returned (.tuple #[.int .i64 2,.bool true])∧InvW w8 M fs ([2,0,0,0,0],[-1, -1, -1, -1, -1, -1],⟨0,4,2,2⟩) w':=by
  simp only at hF4
  rw [e3] at hF4
  exact hF4
 replace hF4':=Lib.hid hF4'
 clear e3 hF4 hW7 hWf hB7 hF3 hO8 hG8 hM8 hW8
 go_wp2_with fail
 refine hF4'.out.mono ?_
 rintro e w9 ⟨rfl,hM9,hW9,hO9⟩
 have hB9:=Lib.hid (low.out _ _ _ hB8.out hO9 hge2.out)
 replace hM9:=Lib.hid hM9
 clear hF4' hO9 hW9 hB8
 go_wp2_with fail
 refine (LawFive.awake w9).mono ?_
 rintro e w10 ⟨rfl,hB10⟩
 have hM10:=hM9.out.below hB10
 have hB:=Lib.hid (hB9.out.trans (hB10.mono hB9.out.size))
 have hI:Hid (Calls Tryz.prog 120 #[ptr M.m,.int .i64 1] w10 fun e w'=>e=.returned (.bool false)∧∃ n,w'=w10.drewN n):=Lib.hid (in_any hM10 1 (by simp) (by omega))
 clear hM10 hB10 hB9 hM9
 go_wp2_with (go_at_call 120; refine hI.out.mono ?_; rintro e w' ⟨rfl,nq,rfl⟩)
 go_ret
 exact ⟨rfl,hB.out.trans ⟨rfl,rfl,rfl,Nat.le_refl _,fun _ _=>rfl⟩⟩
end Go.Proofs.YtpobbnllcoabhaaGreat.LawSix
namespace Go.Proofs.YtpobbnllcoabhaaGreat.LawNine
open Go Go.RowKit Hp K Fl Rw Hm Ar Mm Me LK Wk LawSix
set_option maxRecDepth 100000
theorem nexts_zero (n:Nat):Nexts (List.replicate n .zero):=fun k=>by
 simp only [at',List.getD,List.getElem?_replicate]
 split<;>simp [Sl.zero,Nd.zero]
theorem low_only {W0 a b:World} {M:Mo} {f:Nat} (ha:Below W0.heap.size W0 a) (hlo:∀ x,mfoot M x→W0.heap.size≤x) (hf:W0.heap.size≤f) (ho:Only (fun x=>mfoot M x∨x=f) a b):Below W0.heap.size W0 b:=
 ha.trans (ho.toBelow ha.size (fun x hx q=>by
  rcases q with q | q
  · have:=hlo x q; omega
  · omega))
theorem fin_empty (f:Nat) (k:ByteArray) (ss:List Sl) (F:Bool):wfin [1,0,0,0] ss 5 (F,new f 3 0 k)=(1,true,(F,{new f 3 0 k with nx:=3})):=by
 simp [wfin,fin,gstep,gdone,goTo,word,new,Cl.nth]
set_option maxHeartbeats 1000000 in
theorem awake (w:World):Calls Tryz.prog 94 #[] w fun e w'=>e=.returned (.bool true)∧Below w.heap.size w w':=by
 have hN:=Lib.hid (made_yes 1 1 w (by omega) (by omega))
 go_enter Tryz.func94,Tryz.ntmps94
 go_wp2_with fail
 refine hN.out.mono ?_
 rintro e w1 ⟨M,rfl,hM,hlo,hB,h1,h2,h3,h4,h5,h6,h7⟩
 clear hN
 have hE:=Lib.hid (new_any 3 0 ⟨#[97]⟩ w1)
 replace hM:=Lib.hid hM
 replace hlo:=Lib.hid hlo
 replace hB:=Lib.hid hB
 replace h1:=Lib.hid h1
 replace h2:=Lib.hid h2
 clear h3 h7 h5 h4 h6
 go_wp2_with fail
 refine hE.out.mono ?_
 rintro e w2 ⟨rfl,hE2,hB2⟩
 have hM2:=hM.out.below hB2
 have hge:w.heap.size≤w1.heap.size:=hB.out.size
 have hB02:=Lib.hid (hB.out.trans (hB2.mono hge))
 have hF:=finish_walk hM2 hE2 (by rw [h2.out]; exact nexts_zero 1) 5 (by omega) ⟨by simp [new],by simp [new],by simp [new],by simp [new]⟩
 rw [h1.out,show (1:Int)::List.replicate (1+2) 0=[1,0,0,0] from rfl,fin_empty] at hF
 replace hF:=Lib.hid hF
 clear hM hE hB2 hE2 hM2 hB
 generalize w1.heap.size=f at*
 replace hge:=Lib.hid hge
 go_wp2_with fail
 refine hF.out.mono ?_
 rintro e w3 ⟨rfl,hM3,hW3,_,hO3⟩
 have hB3:=Lib.hid (low_only hB02.out hlo.out hge.out hO3)
 have hFd:Hid (Calls Tryz.prog 102 #[ptr f] w3 fun e w'=>e=.returned (.tuple #[.int .u64 0,.agg #[.string ⟨#[]⟩,.string ⟨#[]⟩,.int .u32 0,.int .u64 0],.bool false])∧Below w3.heap.size w3 w'):=Lib.hid (found_any hW3)
 replace hM3:=Lib.hid hM3
 replace hW3:=Lib.hid hW3
 clear hF hO3 hB02
 go_wp2_with fail
 refine hFd.out.mono ?_
 rintro e w4 ⟨rfl,hB4⟩
 have hW4:=hW3.out.below hB4
 have hB04:=Lib.hid (hB3.out.trans (hB4.mono hB3.out.size))
 have lf:=hW4.lt
 replace hW4:=Lib.hid hW4
 clear hM3 hW3 hB3 hB4 hFd
 go_wp2_with fail
 refine (LawFive.awake _).mono ?_
 rintro e w5 ⟨rfl,hB5⟩
 have hB45:Below w4.heap.size w4 w5:=((Below.refl _ _).alloc (Nat.le_refl _) _).trans (hB5.mono (by simp))
 have hB05:=Lib.hid (hB04.out.trans (hB45.mono hB04.out.size))
 have hFi:Hid (Calls Tryz.prog 122 #[ptr f] w5 fun e w'=>e=.returned (.int .u64 0)∧w5=w'):=Lib.hid (first_any (hW4.out.below hB45))
 clear hB5 hB45 hB04 hW4
 go_wp2_with (go_at_call 122; refine hFi.out.mono ?_; rintro e w' ⟨rfl,rfl⟩)
 go_ret
 exact ⟨rfl,hB05.out⟩
end Go.Proofs.YtpobbnllcoabhaaGreat.LawNine
namespace Go.Proofs.YtpobbnllcoabhaaGreat.LawFnv
open Go.RowKit Fnv
set_option maxHeartbeats 400000 in
theorem refpower_any (n:Int) (w:World) (h0: -9223372036854775808≤n) (h1:n≤9223372036854775807):
 Calls Tryz.prog 28 #[.int .i64 n] w fun e w'=>e=.returned (.bool (FM.power n))∧w'=w:=by
 go_enter Tryz.func28,Tryz.ntmps28
 go_wp2
 go_loop [3] (fun i=>∃ k:Nat,k≤17∧i=.int .i64 ((2 ^ k:Nat):Int)∧∀ j:Nat,j<k→n≠((2 ^ j:Nat):Int)) (fun i=>(200000-intOf i).toNat)
 case atStart=>exact ⟨0,by omega,rfl,fun j hj=>absurd hj (by omega)⟩
 case round=>
  obtain ⟨k,hk,rfl,hno⟩:=hrel
  have hno:=Lib.hid hno
  have hpos:0<2 ^ k:=Nat.two_pow_pos k
  by_cases hk16:k≤16
  · have hle:2 ^ k≤2 ^ 16:=Nat.pow_le_pow_right (by omega) hk16
    have hd:=Lib.hid (Nat.pow_succ 2 k)
    generalize hq:2 ^ k=q at*
    have hq:=Lib.hid hq
    by_cases he:n=(q:Int)
    · have hp:FM.power n=true:=(FM.power_iff n).2 ⟨k,hk16,by rw [hq.out]; exact he⟩
      have hle':(q:Int)≤65536:=by omega
      obtain rfl:=he
      go_wp2
      go_ret
      exact ⟨rfl,rfl⟩
    · have hle':(q:Int)≤65536:=by omega
      have he':(((q:Nat):Int)==n)=false:=by rw [beq_eq_false_iff_ne]; omega
      go_wp2
      go_round
      case rel=>exact ⟨k+1,by omega,by rw [hd.out]; go_num,fun j hj=>by
       by_cases hjk:j=k
       · subst hjk; rw [hq.out]; exact he
       · exact hno.out j (by omega)⟩
      case measure=>simp [intOf]; omega
  · obtain rfl:k=17:=by omega
    have hp:FM.power n=false:=by
     cases h:FM.power n with
     | false=>rfl
     | true=>
       obtain ⟨j,hj,hn⟩:=(FM.power_iff n).1 h
       exact absurd hn (hno.out j (by omega))
    clear hno
    go_wp2
    go_ret
    exact ⟨rfl,rfl⟩
set_option maxHeartbeats 400000 in
theorem refbucket_any (s n:Int) (w:World) (hs0:0≤s) (hs1:s<4294967296) (h0: -9223372036854775808≤n) (h1:n≤9223372036854775807):
 Calls Tryz.prog 37 #[.int .u32 s,.int .i64 n] w fun e w'=>e=.returned (.int .i64 (FM.bucket s n))∧w'=w:=by
 cases hp:FM.power n with
 | false=>
   have hb:FM.bucket s n=0:=by unfold FM.bucket; rw [hp]; rfl
   have hb:=Lib.hid hb
   go_enter Tryz.func37,Tryz.ntmps37
   go_wp2_with (go_at_call 28; refine (refpower_any n _ h0 h1).mono ?_; rintro e w' ⟨rfl,rfl⟩)
   go_ret
   exact ⟨ret_int hb.out.symm,rfl⟩
 | true=>
   have hb:FM.bucket s n=s % n:=by unfold FM.bucket; rw [hp]; rfl
   have hb:=Lib.hid hb
   have hbd:=FM.power_bd hp
   have hr:0≤s % n∧s % n<65536:=⟨Int.emod_nonneg _ (by omega),by have:=Int.emod_lt_of_pos s (show 0<n by omega); omega⟩
   go_enter Tryz.func37,Tryz.ntmps37
   go_wp2_with (go_at_call 28; refine (refpower_any n _ h0 h1).mono ?_; rintro e w' ⟨rfl,rfl⟩)
   go_ret
   exact ⟨ret_int hb.out.symm,rfl⟩
set_option maxHeartbeats 400000 in
theorem refsum_any (s:ByteArray) (w:World) (hs:s.size≤maxLen):
 Calls Tryz.prog 36 #[.string s] w fun e w'=>e=.returned (.int .u32 (FM.sum s.data.toList))∧w'=w:=by
 unfold maxLen at hs
 go_enter Tryz.func36,Tryz.ntmps36
 go_wp2
 go_loop [3,4] (fun n i=>∃ k:Nat,k≤s.size∧i=.int .i64 k∧n=.int .u64 (FM.sum (s.data.toList.take k))) (fun _ i=>s.size-(intOf i).toNat)
 case atStart=>exact ⟨0,Nat.zero_le _,rfl,rfl⟩
 case round=>
  obtain ⟨k,hk,rfl,rfl⟩:=hrel
  have hl:=FM.sum_lt (s.data.toList.take k)
  by_cases hlt:k<s.size
  · have hx:=Lib.hid (FM.ref_step_i (s.data.toList.take k) s[k])
    have ht:=Lib.hid (FM.take_snoc s k hlt)
    go_wp2
    go_round
    case rel=>exact ⟨k+1,by omega,by go_num,by rw [ht.out,hx.out]⟩
    case measure=>simp [intOf]; omega
  · go_wp2
    go_ret
    exact ⟨ret_int (by rw [List.take_of_length_le (by simp; omega)]),rfl⟩
end Go.Proofs.YtpobbnllcoabhaaGreat.LawFnv
namespace Go.Proofs.YtpobbnllcoabhaaGreat.LawTen
open Go Go.RowKit Hp K Fl Rw Hm Ar Mm Me LK Qs Wk Gt Pc LawSix
set_option maxRecDepth 100000
def PairsAt (w:World) (A:Option Addr) (l:List Pr):Prop:=∀ i,i<l.length→∃ b o:Nat,A=some ⟨b,o,none⟩∧b<w.heap.size∧
 w.cell? ⟨b,o+i*2,none⟩=some (.string (pat l i).1)∧w.cell? ⟨b,o+i*2+1,none⟩=some (.string (pat l i).2)∧(pat l i).1.size≤140737488355328∧(pat l i).2.size≤140737488355328
theorem PairsAt.below {w w':World} {A:Option Addr} {l:List Pr} (h:PairsAt w A l) (hb:Below w.heap.size w w'):PairsAt w' A l:=fun i hi=>by
 obtain ⟨b,o,h1,h2,h3,h4,h5⟩:=h i hi
 exact ⟨b,o,h1,by have:=hb.size; omega,(hb.cell (p:=⟨b,_,none⟩) h2).trans h3,(hb.cell (p:=⟨b,_,none⟩) h2).trans h4,h5⟩
def lkv (o:Option ByteArray):Value:=.tuple #[.string (o.getD ⟨#[]⟩),.bool o.isSome]
set_option maxHeartbeats 1000000 in
theorem ref_any (w:World) (l:List Pr) (A:Option Addr) (cap:Nat) (hl:l.length≤maxLen) (hP:PairsAt w A l) (key:ByteArray):
 Calls Tryz.prog 25 #[.slice A l.length cap,.string key] w fun e w'=>e=.returned (lkv (lk l key))∧w=w':=by
 unfold maxLen at hl
 replace hP:=Lib.hid hP
 have h0:Hid (lk (l.drop 0) key=lk l key):=Lib.hid rfl
 generalize hz:lk l key=z at*
 replace hz:=Lib.hid hz
 generalize hln:l.length=len at*
 replace hln:=Lib.hid hln
 go_enter Tryz.func25,Tryz.ntmps25
 go_wp2_with fail
 go_loop [6] (fun i=>∃ n:Nat,n≤len∧i=.int .i64 n∧Hid (lk (l.drop n) key=z)) (fun i=>len-(intOf i).toNat)
 case atStart=>exact ⟨0,Nat.zero_le _,rfl,h0⟩
 case round=>
  obtain ⟨n,hn,rfl,hf⟩:=hrel
  clear h0
  by_cases hlt:n<len
  · obtain ⟨b,o,rfl,hb,c0,c1,s0,s1⟩:=hP.out n (by rw [hln.out]; exact hlt)
    have e1:=hf.out
    have hd:l.drop n=pat l n::l.drop (n+1):=by
     have:=hln.out
     rw [List.drop_eq_getElem_cons (by omega)]
     congr 1
     simp [pat,List.getD,show n<l.length by omega]
    rw [hd] at e1
    generalize hp:pat l n=p at*
    obtain ⟨pk,pv⟩:=p
    simp only at c0 c1 s0 s1 e1
    replace hp:=Lib.hid hp
    clear hf hd
    by_cases h2:pk=key
    · subst h2
      have e2:some pv=z:=by rw [← e1]; simp [lk]
      replace e2:=Lib.hid e2
      clear e1
      go_wp2_with fail
      go_ret2
      rw [← e2.out]
      exact ⟨rfl,rfl⟩
    · have e2:lk (l.drop (n+1)) key=z:=by rw [← e1]; simp [lk,h2]
      replace e2:=Lib.hid e2
      have b2:=bytes_ne h2
      clear h2 e1
      go_wp2_with fail
      go_round
      case rel=>exact ⟨n+1,by omega,by go_num,e2⟩
      case measure=>simp [intOf]; omega
  · obtain rfl:n=len:=by omega
    have e1:=hf.out
    have hnl:=hln.out
    rw [← hnl,List.drop_length] at e1
    have e2:z=none:=by rw [← e1]; rfl
    subst e2
    clear hf e1 hnl
    go_wp2_with fail
    go_ret2
    exact ⟨rfl,rfl⟩
end Go.Proofs.YtpobbnllcoabhaaGreat.LawTen
namespace Go.Proofs.YtpobbnllcoabhaaGreat.LawEl
open Go Go.RowKit Hp K Fl Rw Hm Ar Mm Me LK Wk Pc LawTen
set_option maxRecDepth 100000
def prc (p:Pr):List Value:=[.string p.1,.string p.2]
theorem prc_len (p:Pr):(prc p).length=2:=rfl
abbrev Prs (w:World) (A:Option Addr) (cap:Nat) (l:List Pr):Prop:=Row w 122 2 prc A cap l
def Short (l:List Pr):Prop:=∀ p∈l,p.1.size≤200∧p.2.size≤200
theorem prs_pairs {w:World} {A:Option Addr} {cap:Nat} {l:List Pr} (h:Prs w A cap l) (hs:Short l):PairsAt w A l:=by
 intro i hi
 obtain ⟨b,e,hb,hc⟩:=h.cells prc_len i hi
 have c0:=(hc 0 (by omega)).1
 have c1:=(hc 1 (by omega)).1
 have hp:pat l i=l[i]:=by simp [pat,List.getD,hi]
 have hsz:=hs _ (List.getElem_mem hi)
 refine ⟨b,0,e,hb,?_,?_,by rw [hp]; omega,by rw [hp]; omega⟩
 · rw [hp]; simpa [prc] using c0
 · rw [hp]; simpa [prc] using c1
theorem info_pair:(Tryz.prog.info? 122).map (fun i=>(i.zero,i.size,i.bytes))=some (some (.agg #[.string ⟨#[]⟩,.string ⟨#[]⟩]),2,32):=by kernel_rfl
def PInv (W w:World) (l:List Pr) (key val:ByteArray) (v:Value) (d:Bool) (k:Nat):Prop:=
 ∃ (A:Option Addr) (cap:Nat) (o:List Pr),v=.slice A o.length cap∧Prs w A cap o∧(∀ x,In A x→W.heap.size≤x)∧Below W.heap.size W w∧o.length≤k+1∧
   o.Perm ((if d=true then [(key,val)] else [])++(l.take k).filter fun p=>decide (p.1≠key))
def PutR (W:World) (l:List Pr) (key val:ByteArray) (e:Ending) (w:World):Prop:=
 ∃ (A:Option Addr) (cap:Nat) (o:List Pr),e=.returned (.slice A o.length cap)∧Prs w A cap o∧(∀ x,In A x→W.heap.size≤x)∧Below W.heap.size W w∧o.Perm ((key,val)::l.filter fun p=>decide (p.1≠key))
theorem take_yes {l:List Pr} {k:Nat} {key:ByteArray} (hk:k<l.length) (h:(pat l k).1≠key):((l.take (k+1)).filter fun p=>decide (p.1≠key))=((l.take k).filter fun p=>decide (p.1≠key))++[pat l k]:=by
 have e:l[k]?=some (pat l k):=by simp [pat,List.getD,hk]
 rw [List.take_add_one,e,List.filter_append]
 simp [h]
theorem take_no {l:List Pr} {k:Nat} {key:ByteArray} (hk:k<l.length) (h:(pat l k).1=key):((l.take (k+1)).filter fun p=>decide (p.1≠key))=(l.take k).filter fun p=>decide (p.1≠key):=by
 have e:l[k]?=some (pat l k):=by simp [pat,List.getD,hk]
 rw [List.take_add_one,e,List.filter_append]
 simp [h]
set_option maxHeartbeats 1000000 in
theorem refput_any (W:World) (l:List Pr) (A:Option Addr) (cap:Nat) (hl:l.length≤1000000) (hP:PairsAt W A l) (key val:ByteArray):
 Calls Tryz.prog 26 #[.slice A l.length cap,.string key,.string val] W (PutR W l key val):=by
 have hI:=Lib.hid (show PInv W W l key val (.slice none 0 0) false 0 from ⟨none,0,[],rfl,Row.nil _ _ _ _,by simp [In],Below.refl _ _,by simp,by simp⟩)
 obtain ⟨i0,hi0,hz0,hz1,hz2⟩:=info_parts info_pair
 replace hP:=Lib.hid hP
 generalize hln:l.length=len at*
 replace hln:=Lib.hid hln
 go_enter Tryz.func26,Tryz.ntmps26
 go_wp2_with fail
 go_loopw [7,8,9] (fun v d i wr=>∃ (k:Nat) (c:Bool),k≤len∧i=.int .i64 k∧d=.bool c∧PInv W wr l key val v c k) (fun _ _ i _=>len-(intOf i).toNat)
 case atStart=>exact ⟨0,false,Nat.zero_le _,rfl,rfl,hI.out⟩
 case round=>
  obtain ⟨k,c,hk,rfl,rfl,A1,cap1,o,rfl,hR,hA,hB,hol,hp⟩:=hrel
  clear hI
  generalize hom:o.length=m at*
  replace hom:=Lib.hid hom
  replace hR:=Lib.hid hR
  replace hA:=Lib.hid hA
  replace hp:=Lib.hid hp
  by_cases hlt:k<len
  · obtain ⟨b,of,rfl,hb,c0,c1,s0,s1⟩:=hP.out k (by rw [hln.out]; exact hlt)
    rw [← hB.cell (p:=⟨b,_,none⟩) hb] at c0 c1
    have hbr:b<wr.heap.size:=by have:=hB.size; omega
    replace hB:=Lib.hid hB
    have hty:=fun q=>take_yes (l:=l) (k:=k) (key:=key) (by rw [hln.out]; exact hlt) q
    have htn:=fun q=>take_no (l:=l) (k:=k) (key:=key) (by rw [hln.out]; exact hlt) q
    generalize hpp:pat l k=p at*
    obtain ⟨pk,pv⟩:=p
    simp only at c0 c1 s0 s1 hty htn
    replace hty:=Lib.hid hty
    replace htn:=Lib.hid htn
    replace hpp:=Lib.hid hpp
    have hsz:=hB.out.size
    have tf:(true=true)=True:=by simp
    by_cases hk2:pk=key
    · have hn:=htn.out hk2
      subst hk2
      cases c with
      | true=>
        go_wp2_with fail
        go_roundw
        case rel=>exact ⟨k+1,true,by omega,by go_num,rfl,A1,cap1,o,by rw [hom.out],hR.out,hA.out,hB.out,by have:=hom.out; omega,by rw [hn]; exact hp.out⟩
        case measure=>simp [intOf]; omega
      | false=>
        cases hbl:Op.bytesLess pk.toList pk.toList with
        | true=>
          go_wp2_with fail
          go_roundw
          case rel=>exact ⟨k+1,false,by omega,by go_num,rfl,A1,cap1,o,by rw [hom.out],hR.out,hA.out,hB.out,by have:=hom.out; omega,by rw [hn]; exact hp.out⟩
          case measure=>simp [intOf]; omega
        | false=>
          go_wp2_with
           (at_builtin
            refine wpList_append_one wr rfl (.tmp 27) (.tmp 31) 27 rfl 122 i0 (.agg #[.string ⟨#[]⟩,.string ⟨#[]⟩]) 2 32 Tryz.underlying27 hi0 hz0 hz1 hz2 rfl (by omega) prc (fun _=>rfl) (by intro x u hu; simp [prc] at hu; rcases hu with rfl | rfl<;>rfl)
             A1 cap1 m o hom.out (pk,val) #[.string pk,.string val] rfl rfl hR.out rfl (by simp only [maxLen]; omega) (by omega) ?_
            intro A2 cap2 w2 hR2 hO2 hA2
            have hcc0:w2.cell? ⟨b,of+k*2,none⟩=some (.string pk):=by
             rw [hO2.cell (p:=⟨b,_,none⟩) hbr (fun q=>by have:=hA.out b q; omega)]; exact c0
            have HP:=Lib.hid (show PInv W w2 l pk val (.slice A2 (m+1) cap2) true (k+1) from ⟨A2,cap2,o++[(pk,val)],by rw [List.length_append,hom.out]; rfl,hR2,fun x hx=>by
             rcases hA2 x hx with q | q
             · exact hA.out x q
             · omega,hB.out.trans (hO2.toBelow hsz (fun x hx q=>by have:=hA.out x q; omega)),by rw [List.length_append,hom.out]; simp; omega,by
             rw [hn]
             refine (List.perm_append_comm).trans ?_
             have:=hp.out
             simp only [if_true]
             exact List.Perm.cons _ (by simpa using this)⟩)
            clear c0 hR2 hO2 hA2)
          go_roundw
          case rel=>exact ⟨k+1,true,by omega,by go_num,rfl,HP.out⟩
          case measure=>simp [intOf]; omega
    · have hy:=hty.out hk2
      have hb2:=bytes_ne hk2
      replace hk2:=Lib.hid hk2
      have hone:∀ (w2:World) (A2:Option Addr) (cap2:Nat) (c:Bool),Hid (o.Perm ((if c=true then [(key,val)] else [])++List.filter (fun p=>decide (p.1≠key)) (List.take k l)))→Prs w2 A2 cap2 (o++[(pk,pv)])→Only (In A1) wr w2→(∀ x,In A2 x→In A1 x∨wr.heap.size≤x)→PInv W w2 l key val (.slice A2 (m+1) cap2) c (k+1):=fun w2 A2 cap2 c hp hR2 hO2 hA2=>
       ⟨A2,cap2,o++[(pk,pv)],by rw [List.length_append,hom.out]; rfl,hR2,fun x hx=>by
        rcases hA2 x hx with q | q
        · exact hA.out x q
        · omega,hB.out.trans (hO2.toBelow hsz (fun x hx q=>by have:=hA.out x q; omega)),by rw [List.length_append,hom.out]; simp; omega,by
        rw [hy,← List.append_assoc]
        exact List.Perm.append_right _ hp.out⟩
      replace hone:=Lib.hid hone
      cases c with
      | true=>
        go_wp2_with
         (at_builtin
          refine wpList_append_one wr rfl (.tmp 40) (.tmp 45) 27 rfl 122 i0 (.agg #[.string ⟨#[]⟩,.string ⟨#[]⟩]) 2 32 Tryz.underlying27 hi0 hz0 hz1 hz2 rfl (by omega) prc (fun _=>rfl) (by intro x u hu; simp [prc] at hu; rcases hu with rfl | rfl<;>rfl)
           A1 cap1 m o hom.out (pk,pv) #[.string pk,.string pv] rfl rfl hR.out rfl (by simp only [maxLen]; omega) (by omega) ?_
          intro A2 cap2 w2 hR2 hO2 hA2)
        have HP:=Lib.hid (hone.out w2 A2 cap2 true hp hR2 hO2 hA2)
        clear hR2 hO2 hA2
        go_wp2_with fail
        go_roundw
        case rel=>exact ⟨k+1,true,by omega,by go_num,rfl,HP.out⟩
        case measure=>simp [intOf]; omega
      | false=>
        cases hbl:Op.bytesLess pk.toList key.toList with
        | true=>
          go_wp2_with
           (at_builtin
            refine wpList_append_one wr rfl (.tmp 40) (.tmp 45) 27 rfl 122 i0 (.agg #[.string ⟨#[]⟩,.string ⟨#[]⟩]) 2 32 Tryz.underlying27 hi0 hz0 hz1 hz2 rfl (by omega) prc (fun _=>rfl) (by intro x u hu; simp [prc] at hu; rcases hu with rfl | rfl<;>rfl)
             A1 cap1 m o hom.out (pk,pv) #[.string pk,.string pv] rfl rfl hR.out rfl (by simp only [maxLen]; omega) (by omega) ?_
            intro A2 cap2 w2 hR2 hO2 hA2)
          have HP:=Lib.hid (hone.out w2 A2 cap2 false hp hR2 hO2 hA2)
          clear hR2 hO2 hA2
          go_wp2_with fail
          go_roundw
          case rel=>exact ⟨k+1,false,by omega,by go_num,rfl,HP.out⟩
          case measure=>simp [intOf]; omega
        | false=>
          go_wp2_with (first
           | (at_builtin
              refine wpList_append_one wr rfl (.tmp 27) (.tmp 31) 27 rfl 122 i0 (.agg #[.string ⟨#[]⟩,.string ⟨#[]⟩]) 2 32 Tryz.underlying27 hi0 hz0 hz1 hz2 rfl (by omega) prc (fun _=>rfl) (by intro x u hu; simp [prc] at hu; rcases hu with rfl | rfl<;>rfl)
               A1 cap1 m o hom.out (key,val) #[.string key,.string val] rfl rfl hR.out rfl (by simp only [maxLen]; omega) (by omega) ?_
              intro A2 cap2 w2 hR2 hO2 hA2
              have hcc0:w2.cell? ⟨b,of+k*2,none⟩=some (.string pk):=by
               rw [hO2.cell (p:=⟨b,_,none⟩) hbr (fun q=>by have:=hA.out b q; omega)]; exact c0
              have hcc1:w2.cell? ⟨b,of+k*2+1,none⟩=some (.string pv):=by
               rw [hO2.cell (p:=⟨b,_,none⟩) hbr (fun q=>by have:=hA.out b q; omega)]; exact c1
              have hsz2:=hO2.size
              have hB2:=Lib.hid (hB.out.trans (hO2.toBelow hsz (fun x hx q=>by have:=hA.out x q; omega)))
              have hA2':=Lib.hid (fun x (hx:In A2 x)=>show W.heap.size≤x from by
               rcases hA2 x hx with q | q
               · exact hA.out x q
               · omega)
              replace hR2:=Lib.hid hR2
              have hom2:=Lib.hid (show (o++[(key,val)]).length=m+1 by rw [List.length_append,hom.out]; rfl)
              clear c0 c1 hO2 hA2)
           | (at_builtin
              refine wpList_append_one w2 rfl (.tmp 40) (.tmp 45) 27 rfl 122 i0 (.agg #[.string ⟨#[]⟩,.string ⟨#[]⟩]) 2 32 Tryz.underlying27 hi0 hz0 hz1 hz2 rfl (by omega) prc (fun _=>rfl) (by intro x u hu; simp [prc] at hu; rcases hu with rfl | rfl<;>rfl)
               A2 cap2 (m+1) (o++[(key,val)]) hom2.out (pk,pv) #[.string pk,.string pv] rfl rfl hR2.out rfl (by simp only [maxLen]; omega) (by omega) ?_
              intro A3 cap3 w3 hR3 hO3 hA3
              have HP:=Lib.hid (show PInv W w3 l key val (.slice A3 (m+1+1) cap3) true (k+1) from ⟨A3,cap3,o++[(key,val)]++[(pk,pv)],by rw [List.length_append,hom2.out]; rfl,hR3,fun x hx=>by
               rcases hA3 x hx with q | q
               · exact hA2'.out x q
               · omega,hB2.out.trans (hO3.toBelow hB2.out.size (fun x hx q=>by have:=hA2'.out x q; omega)),by rw [List.length_append,hom2.out]; simp; have:=hom.out; have:=hp.out.length_eq; have:=List.length_filter_le (fun p:Pr=>decide (p.1≠key)) (List.take k l); simp at*; omega,by
               rw [hy]
               have:=hp.out
               simp only [if_true]
               simp only [Bool.false_eq_true,if_false,List.nil_append] at this
               rw [List.append_assoc]
               refine (List.Perm.append_right _ this).trans ?_
               rw [← List.append_assoc,← List.append_assoc]
               exact List.Perm.append_right _ List.perm_append_comm⟩)
              clear hR3 hO3 hA3))
          go_roundw
          case rel=>exact ⟨k+1,true,by omega,by go_num,rfl,HP.out⟩
          case measure=>simp [intOf]; omega
  · obtain rfl:k=len:=by omega
    have hpe:=hp.out
    have e1:List.take k l=l:=by rw [← hln.out]; exact List.take_length
    rw [e1] at hpe
    cases c with
    | true=>
      replace hpe:=Lib.hid hpe
      replace hB:=Lib.hid hB
      clear e1 hp
      go_wp2_with fail
      go_ret
      exact ⟨A1,cap1,o,by rw [hom.out]; rfl,hR.out,hA.out,hB.out,by simpa using hpe.out⟩
    | false=>
      replace hpe:=Lib.hid hpe
      replace hB:=Lib.hid hB
      clear e1 hp
      go_wp2_with
       (at_builtin
        refine wpList_append_one wr rfl (.tmp 49) (.tmp 53) 27 rfl 122 i0 (.agg #[.string ⟨#[]⟩,.string ⟨#[]⟩]) 2 32 Tryz.underlying27 hi0 hz0 hz1 hz2 rfl (by omega) prc (fun _=>rfl) (by intro x u hu; simp [prc] at hu; rcases hu with rfl | rfl<;>rfl)
         A1 cap1 m o hom.out (key,val) #[.string key,.string val] rfl rfl hR.out rfl (by simp only [maxLen]; omega) (by omega) ?_
        intro A2 cap2 w2 hR2 hO2 hA2)
      have hsz:=hB.out.size
      have HP:=Lib.hid (show Prs w2 A2 cap2 (o++[(key,val)])∧(∀ x,In A2 x→W.heap.size≤x)∧Below W.heap.size W w2 from ⟨hR2,fun x hx=>by
       rcases hA2 x hx with q | q
       · exact hA.out x q
       · omega,hB.out.trans (hO2.toBelow hsz (fun x hx q=>by have:=hA.out x q; omega))⟩)
      clear hR2 hO2 hA2
      go_wp2_with fail
      go_ret
      refine ⟨A2,cap2,o++[(key,val)],by rw [List.length_append,hom.out]; rfl,HP.out.1,HP.out.2.1,HP.out.2.2,?_⟩
      have:=hpe.out
      simp only [Bool.false_eq_true,if_false,List.nil_append] at this
      exact List.perm_append_comm.trans (List.Perm.cons _ this)
end Go.Proofs.YtpobbnllcoabhaaGreat.LawEl
namespace Go.Proofs.YtpobbnllcoabhaaGreat.Re
open Go Go.RowKit Hp K Fl Rw Hm Ar Mm Me Qs LawSix
set_option maxRecDepth 100000
section
variable {w w':World} {M:Mo} {D:Dr} {n:Nat}
theorem dstep_same:(dstep n M D).1.m=M.m∧(dstep n M D).2.f=D.f∧(dstep n M D).2.fw=D.fw∧(dstep n M D).1.k=M.k∧(dstep n M D).1.F=M.F:=by
 unfold dstep
 split
 · exact ⟨rfl,rfl,rfl,rfl,rfl⟩
 · split<;>exact ⟨rfl,rfl,rfl,rfl,rfl⟩
theorem dstep_foot {x:Nat} (h:mfoot (dstep n M D).1 x):mfoot M x:=by
 unfold dstep at h
 split at h
 · rcases h with q | q | q | q | q | q
   · exact .inl q
   · exact .inr (.inl q)
   · exact .inr (.inr (.inl q))
   · exact .inr (.inr (.inr (.inl q)))
   · exact .inr (.inr (.inr (.inr (.inl q))))
   · simp [In] at q
 · split at h<;>exact h
theorem dstep_apart (hM:MemAt w M) (hap:D.left≠[]→∀ y,In D.A y→¬mfoot M y) (hne:D.at_≠0→D.left≠[]):(dstep n M D).2.left≠[]→∀ y,In (dstep n M D).2.A y→¬mfoot (dstep n M D).1 y:=by
 unfold dstep
 split
 · intro _ y hy hx
   have hy:In M.V y:=hy
   have ht:=row_ty hM.2.2.2.2.2 hy
   rcases hx with q | q | q | q | q | q
   · exact ht.apart (by subst q; exact blk_ty hM.1) (by decide)
   · exact ht.apart (cells_ty hM.2.1 q) (by decide)
   · exact ht.apart (locks_ty hM.2.2.1 q) (by decide)
   · exact ht.apart (arena_ty hM.2.2.2.1 q) (by decide)
   · exact ht.apart (row_ty hM.2.2.2.2.1 q) (by decide)
   · simp [In] at q
 · rename_i h0
   split
   · exact hap
   · intro hl y hy
     exact hap (hne h0) y (nextA_in.1 hy)
theorem dstep_in (hne:D.at_≠0→D.left≠[]) (hl:(dstep n M D).2.left≠[]) {y:Nat} (hy:In (dstep n M D).2.A y):mfoot M y∨(D.left≠[]∧In D.A y):=by
 unfold dstep at hy
 split at hy
 · exact .inl (.inr (.inr (.inr (.inr (.inr hy)))))
 · rename_i h0
   split at hy
   · exact .inr ⟨hne h0,hy⟩
   · exact .inr ⟨hne h0,nextA_in.1 hy⟩
theorem mrD (a:Addr) (w:World) (f:Nat):(method (f+1) 60 (.pointer (some a)) "Ready").run Tryz.prog w=.ok (247,.pointer (some a)) w:=by kernel_rfl
theorem msD (a:Addr) (w:World) (f:Nat):(method (f+1) 60 (.pointer (some a)) "Step").run Tryz.prog w=.ok (248,.pointer (some a)) w:=by kernel_rfl
theorem erD (args:Array Value) (w:World):(callFunc 247 args).run Tryz.prog w=.ok (.enter 247 args) w:=by kernel_rfl
theorem esD (args:Array Value) (w:World):(callFunc 248 args).run Tryz.prog w=.ok (.enter 248 args) w:=by kernel_rfl
def rdD (s:Mo×Dr):Bool:=dready s.1 s.2
def stD (n:Nat) (s:Mo×Dr):Mo×Dr:=dstep n s.1 s.2
def dnD (s:Mo×Dr):Bool:=decide (s.2.at_=2∧s.2.left.tail=[])
structure InvD (w0:World) (M0:Mo) (D0:Dr) (s:Mo×Dr) (w:World):Prop where
 mem:MemAt w s.1
 dr:DrAt w s.2
 only:Only (sfoot M0 D0) w0 w
 foot:∀ x,mfoot s.1 x→mfoot M0 x
 apart:s.2.left≠[]→∀ y,In s.2.A y→¬mfoot s.1 y
 inA:s.2.left≠[]→∀ y,In s.2.A y→mfoot M0 y∨(D0.left≠[]∧In D0.A y)
 m:s.1.m=M0.m
 f:s.2.f=D0.f
 fw:s.2.fw=D0.fw
end
/-! ### where nobody is in-/
structure Qd (n:Nat) (M:Mo) (D:Dr) (z:List Nat):Prop where
 zero:∀ i,i<n→Cl.nth M.xs (2+i)=0
 lock:D.at_=0∨(D.at_=1∧D.W.at_=0)∨D.at_=2→Lo.hol M.hs 0= -1
 ws0:D.at_=0→M.ws≠[]∧z=[]
 ws1:D.at_≠0→M.ws=z
def dmu (n:Nat) (M:Mo) (D:Dr):Nat:=if D.at_=0 then M.ws.length+(n+4)-0 else if D.at_=1 then rem n D.W+D.left.length else D.left.length
theorem rem_pos (n:Nat) (W:Wt):0<rem n W:=by unfold rem; split; omega; split; omega; split<;>omega
end Go.Proofs.YtpobbnllcoabhaaGreat.Re
namespace Go.Proofs.YtpobbnllcoabhaaGreat.Rk
open Go Go.RowKit Hp K Fl Rw Hm Ar Mm Me Qs LawSix Re
set_option maxRecDepth 100000
structure Rok (R:List Sl→List Nat→List Nat→Prop):Prop where
 room:∀ {ss ws left},R ss ws left→ss.length≤1024
 small:∀ {ss ws left x},R ss ws left→x∈left→x≤18446744073709551615∧∃ k,IsAt ss x k∧(at' ss k).gen≤1000000
 take:∀ {ss ws},R ss ws []→R ss [] ws
 free:∀ {ss ws x r k},R ss ws (x::r)→IsAt ss x k→R (freed ss k) ws r
section
variable {R:List Sl→List Nat→List Nat→Prop}
/-! ### a drain-/
structure Pk (R:List Sl→List Nat→List Nat→Prop) (n:Nat) (M:Mo) (D:Dr):Prop where
 at_:D.at_≤2
 k:M.k=n
 hl:0<M.hs.length
 zero:D.at_=0→D.left=[]∧D.W.at_=0
 some:D.at_≠0→D.left≠[]
 wt:D.at_≤1→Okw n M.xs M.hs D.W
 w01:D.at_≤1→D.W.at_≤1→D.W.passed=0
 wr:R M.ss M.ws D.left
theorem Pk.okd {n:Nat} {M:Mo} {D:Dr} (o:Rok R) (h:Pk R n M D) (ha:D.left≠[]→∀ y,In D.A y→¬mfoot M y):Okd n M D:=
 ⟨h.at_,h.k,h.hl,fun q=>(h.zero q).1,h.wt,h.some,fun x hx=>o.small h.wr hx,ha⟩
theorem Pk.step {n:Nat} {M:Mo} {D:Dr} (o:Rok R) (h:Pk R n M D) (hr:dready M D=true) (hd:¬(D.at_=2∧D.left.tail=[])):Pk R n (dstep n M D).1 (dstep n M D).2:=by
 have hat:=h.at_
 by_cases h0:D.at_=0
 · have hws:M.ws≠[]:=by
    have:0<M.ws.length:=by simpa [dready,h0] using hr
    intro q; rw [q] at this; simp at this
   have e:dstep n M D=({M with V:=none,capV:=0,ws:=[]},{D with A:=M.V,cap:=M.capV,left:=M.ws,at_:=1}):=by unfold dstep; rw [if_pos h0]
   rw [e]
   have hw:=h.wr
   rw [(h.zero h0).1] at hw
   exact ⟨by simp,h.k,h.hl,fun q=>by simp at q,fun _=>hws,fun _=>h.wt (by omega),fun _=>h.w01 (by omega),o.take hw⟩
 by_cases h1:D.at_=1
 · have okw:=h.wt (by omega)
   have hrd:readyB M.xs M.hs D.W=true:=by simpa [dready,h1] using hr
   have e:dstep n M D=({M with xs:=(wstep n M.xs M.hs D.W).1,hs:=(wstep n M.xs M.hs D.W).2.1},{D with W:=(wstep n M.xs M.hs D.W).2.2,at_:=if D.W.at_=3 then 2 else 1}):=by unfold dstep; rw [if_neg h0,if_pos h1]
   rw [e]
   have hhl:0<(wstep n M.xs M.hs D.W).2.1.length:=by
    have:=h.hl
    unfold wstep
    split
    · simpa using this
    split
    · exact this
    split
    · exact this
    · simpa using this
   by_cases h3:D.W.at_=3
   · rw [if_pos h3]
     exact ⟨by simp,h.k,hhl,fun q=>by simp at q,fun _=>h.some h0,fun q=>by simp at q,fun q=>by simp at q,h.wr⟩
   · rw [if_neg h3]
     refine ⟨by simp,h.k,hhl,fun q=>by simp at q,fun _=>h.some h0,fun _=>okw.step hrd h3,fun _ q=>?_,h.wr⟩
     have hp:=h.w01 (by omega)
     have hw3:=okw.at_
     show (wstep n M.xs M.hs D.W).2.2.passed=0
     have q:(wstep n M.xs M.hs D.W).2.2.at_≤1:=q
     unfold wstep at q ⊢
     split
     · exact hp (by omega)
     · rename_i g0
       rw [if_neg g0] at q
       split
       · rename_i g1
         rw [if_pos g1] at q
         simp at q
       · rename_i g1
         rw [if_neg g1] at q
         split
         · rename_i g2
           rw [if_pos g2] at q
           have q:(if n≤D.W.passed+1 then 3 else 2)≤1:=q
           split at q<;>omega
         · omega
 · have h2:D.at_=2:=by omega
   obtain ⟨x,r,hl⟩:∃ x r,D.left=x::r:=by
    cases hh:D.left with
    | nil=>exact absurd hh (h.some h0)
    | cons x r=>exact ⟨x,r,rfl⟩
   have hr0:r≠[]:=fun q=>hd ⟨h2,by rw [hl]; exact q⟩
   have hw:=h.wr
   rw [hl] at hw
   obtain ⟨_,k,hk,_⟩:=o.small hw List.mem_cons_self
   have hpl:=place_at (o.room hw) hk
   have e:dstep n M D=({M with ss:=freed M.ss k},{D with A:=nextA D.A D.cap,cap:=D.cap-1,left:=r,at_:=2}):=by
    unfold dstep; rw [if_neg h0,if_neg h1,hl]; simp [hpl,hr0]
   rw [e]
   exact ⟨by simp,h.k,h.hl,fun q=>by simp at q,fun _=>hr0,fun q=>by simp at q,fun q=>by simp at q,o.free hw hk⟩
theorem Pk.last {n:Nat} {M:Mo} {D:Dr} (o:Rok R) (h:Pk R n M D) (hd:D.at_=2∧D.left.tail=[]):
 ∃ k,(dstep n M D).1={M with ss:=freed M.ss k}∧(dstep n M D).2.left=[]∧(dstep n M D).2.at_=3∧(dstep n M D).2.f=D.f∧(dstep n M D).2.fw=D.fw∧(dstep n M D).2.W=D.W∧R (freed M.ss k) M.ws []:=by
 obtain ⟨h2,ht⟩:=hd
 obtain ⟨x,r,hl⟩:∃ x r,D.left=x::r:=by
  cases hh:D.left with
  | nil=>exact absurd hh (h.some (by omega))
  | cons x r=>exact ⟨x,r,rfl⟩
 rw [hl] at ht
 simp only [List.tail_cons] at ht
 subst ht
 have hw:=h.wr
 rw [hl] at hw
 obtain ⟨_,k,hk,_⟩:=o.small hw List.mem_cons_self
 have hpl:=place_at (o.room hw) hk
 have e:dstep n M D=({M with ss:=freed M.ss k},{D with A:=nextA D.A D.cap,cap:=D.cap-1,left:=[],at_:=3}):=by
  unfold dstep; rw [if_neg (by omega),if_neg (by omega),hl]; simp [hpl]
 rw [e]
 exact ⟨k,rfl,rfl,rfl,rfl,rfl,rfl,o.free hw hk⟩
section
variable {w w':World} {M:Mo} {D:Dr} {n:Nat}
theorem Pk.ready (h:Pk R n M D) (hM:MemAt w M) (hD:DrAt w D):Calls Tryz.prog 247 #[ptr D.f,ptr M.m] w fun e w'=>e=.returned (.bool (dready M D))∧∃ n,w'=w.drewN n:=
 ready_drain hM hD h.hl (fun q=>by
  have ok:=h.wt (by omega)
  have:=ok.at_
  have:=ok.passed
  have:=ok.xl
  have:=ok.n1
  exact ⟨by omega,fun q=>⟨by omega,by omega⟩⟩) (by have:=h.at_; omega)
theorem finish_drain (o:Rok R) (hM:MemAt w M) (hD:DrAt w D) (h:Pk R n M D) (hap:D.left≠[]→∀ y,In D.A y→¬mfoot M y) (K:Nat) (hK:K≤1000000):
 Calls Tryz.prog 21 #[ptr M.m,.iface 60 (ptr D.f),.int .i64 K] w fun e w'=>e=.returned (.tuple #[.int .i64 (fin rdD (stD n) dnD K (M,D)).1,.bool (fin rdD (stD n) dnD K (M,D)).2.1])∧
  InvD w M D (fin rdD (stD n) dnD K (M,D)).2.2 w':=by
 refine finish_gen 60 247 248 D.f (ptr M.m) (InvD w M D) (fun s=>Pk R n s.1 s.2) rdD (stD n) dnD (mrD _) (msD _) erD esD ?_ ?_ ?_ K hK (M,D) h w ⟨hM,hD,Only.refl _ _,fun _ q=>q,hap,fun hl y hy=>.inr ⟨hl,hy⟩,rfl,rfl,rfl⟩
 · rintro s w1 hI ok
   have:=ok.ready hI.mem hI.dr
   rw [hI.m,hI.f] at this
   exact this.mono fun e w' ⟨h,nq,q⟩=>by
    subst q
    exact ⟨h,{hI with mem:=hI.mem.drewN nq,dr:=hI.dr.drewN nq,only:=hI.only.drewN nq}⟩
 · rintro s w1 hI ok hr
   have:=drain_step hI.mem hI.dr (ok.okd o hI.apart) hr
   rw [hI.m,hI.f] at this
   have hs:=dstep_same (n:=n) (M:=s.1) (D:=s.2)
   exact this.mono fun e w' h=>⟨h.1,h.2.1,h.2.2.1,hI.only.trans' h.2.2.2 (fun x _ q=>by
    rcases q with q | q | q
    · exact .inl (hI.foot x q)
    · exact .inr (.inl (by rw [← hI.f]; exact q))
    · exact .inr (.inr (by rw [← hI.fw]; exact q))),fun x q=>hI.foot x (dstep_foot q),dstep_apart hI.mem hI.apart ok.some,fun hl y hy=>(by
    rcases dstep_in ok.some hl hy with q | ⟨q1,q2⟩
    · exact .inl (hI.foot y q)
    · exact hI.inA q1 y q2),hs.1.trans hI.m,hs.2.1.trans hI.f,hs.2.2.1.trans hI.fw⟩
 · intro s ok hr hd
   exact ok.step o hr (by simpa [dnD] using hd)
end
/-! ### where nobody is in-/
theorem runk {n:Nat} {M:Mo} {D:Dr} {z:List Nat} (h:Pk R n M D) (q:Qd n M D z):
 dready M D=true∧0<dmu n M D∧(dnD (M,D)=true↔dmu n M D=1)∧(¬(D.at_=2∧D.left.tail=[])→Qd n (dstep n M D).1 (dstep n M D).2 z∧dmu n (dstep n M D).1 (dstep n M D).2+1=dmu n M D):=by
 have hat:=h.at_
 by_cases h0:D.at_=0
 · obtain ⟨hws,hz⟩:=q.ws0 h0
   have hp:0<M.ws.length:=List.length_pos_iff.2 hws
   have e:dstep n M D=({M with V:=none,capV:=0,ws:=[]},{D with A:=M.V,cap:=M.capV,left:=M.ws,at_:=1}):=by unfold dstep; rw [if_pos h0]
   refine ⟨by simpa [dready,h0] using hp,by simp [dmu,h0]; omega,by simp [dnD,dmu,h0]; omega,fun _=>?_⟩
   rw [e]
   refine ⟨⟨q.zero,fun _=>q.lock (.inl h0),fun q=>by simp at q,fun _=>hz.symm⟩,?_⟩
   have hr:rem n D.W=n+3:=by simp [rem,(h.zero h0).2]
   simp [dmu,h0,hr]
   omega
 by_cases h1:D.at_=1
 · have ok:=h.wt (by omega)
   have hlp:0<D.left.length:=List.length_pos_iff.2 (h.some h0)
   have hrp:=rem_pos n D.W
   have hrd:readyB M.xs M.hs D.W=true:=by
    unfold readyB
    by_cases g0:D.W.at_=0
    · rw [if_pos g0]
      have:=q.lock (.inr (.inl ⟨h1,g0⟩))
      have:=ok.wk
      simp [takeB, *]
    rw [if_neg g0]
    by_cases g2:D.W.at_=2
    · rw [if_pos g2]
      have:=q.zero D.W.passed (ok.passed.2 (by omega))
      simp [passB,this]
    · rw [if_neg g2]
   have e:dstep n M D=({M with xs:=(wstep n M.xs M.hs D.W).1,hs:=(wstep n M.xs M.hs D.W).2.1},{D with W:=(wstep n M.xs M.hs D.W).2.2,at_:=if D.W.at_=3 then 2 else 1}):=by unfold dstep; rw [if_neg h0,if_pos h1]
   have hx0:0<M.xs.length:=by have:=ok.xl; omega
   refine ⟨by simpa [dready,h1] using hrd,by simp [dmu,h1]; omega,by simp [dnD,dmu,h1]; omega,fun _=>?_⟩
   rw [e]
   have hw3:=ok.at_
   have hz1:=q.ws1 h0
   have hps:=ok.passed
   by_cases g0:D.W.at_=0
   · have e':wstep n M.xs M.hs D.W=(M.xs,M.hs.set 0 D.W.worker,{D.W with at_:=1}):=by unfold wstep; rw [if_pos g0]
     rw [e',if_neg (show ¬D.W.at_=3 by omega)]
     refine ⟨⟨q.zero,fun r=>?_,fun r=>by simp at r,fun _=>hz1⟩,?_⟩
     · rcases r with r | r | r
       · simp at r
       · exact absurd r.2 (by simp)
       · simp at r
     · simp [dmu,h1,rem,g0]; omega
   by_cases g1:D.W.at_=1
   · have e':wstep n M.xs M.hs D.W=(M.xs.set 0 (Cl.sum64 (Cl.nth M.xs 0) 1),M.hs,{D.W with period:=Cl.sum64 (Cl.nth M.xs 0) 1,at_:=2}):=by unfold wstep; rw [if_neg g0,if_pos g1]
     rw [e',if_neg (show ¬D.W.at_=3 by omega)]
     refine ⟨⟨fun i hi=>?_,fun r=>?_,fun r=>by simp at r,fun _=>hz1⟩,?_⟩
     · show Cl.nth (M.xs.set 0 _) (2+i)=0
       rw [cnth_set hx0,if_neg (by omega)]; exact q.zero i hi
     · rcases r with r | r | r
       · simp at r
       · exact absurd r.2 (by simp)
       · simp at r
     · have:=h.w01 (by omega) (by omega)
       simp [dmu,h1,rem,g1,this]; omega
   by_cases g2:D.W.at_=2
   · have hlt:=hps.2 (by omega)
     have e':wstep n M.xs M.hs D.W=(M.xs,M.hs,{D.W with passed:=D.W.passed+1,at_:=if n≤D.W.passed+1 then 3 else 2}):=by unfold wstep; rw [if_neg g0,if_neg g1,if_pos g2]
     rw [e',if_neg (show ¬D.W.at_=3 by omega)]
     refine ⟨⟨q.zero,fun r=>?_,fun r=>by simp at r,fun _=>hz1⟩,?_⟩
     · rcases r with r | r | r
       · simp at r
       · have r2:(if n≤D.W.passed+1 then 3 else 2)=0:=r.2
         split at r2<;>omega
       · simp at r
     · by_cases hc:n≤D.W.passed+1
       · simp [dmu,h1,rem,g2,hc]; omega
       · simp [dmu,h1,rem,g2,hc]; omega
   · have g3:D.W.at_=3:=by omega
     have e':wstep n M.xs M.hs D.W=(M.xs,M.hs.set 0 (-1),{D.W with at_:=4}):=by unfold wstep; rw [if_neg g0,if_neg g1,if_neg g2]
     rw [e',if_pos g3]
     refine ⟨⟨q.zero,fun _=>hol_set h.hl _,fun r=>by simp at r,fun _=>hz1⟩,?_⟩
     simp [dmu,h1,rem,g3]; omega
 · have h2:D.at_=2:=by omega
   obtain ⟨x,r,hl⟩:∃ x r,D.left=x::r:=by
    cases hh:D.left with
    | nil=>exact absurd hh (h.some h0)
    | cons x r=>exact ⟨x,r,rfl⟩
   refine ⟨by simp [dready,h2],by simp [dmu,h2,hl],by simp [dnD,dmu,h2,hl],fun hd=>?_⟩
   have hr0:r≠[]:=fun q=>hd ⟨h2,by rw [hl]; exact q⟩
   have e:dstep n M D=({M with ss:=freed M.ss (place x)},{D with A:=nextA D.A D.cap,cap:=D.cap-1,left:=r,at_:=2}):=by
    unfold dstep; rw [if_neg h0,if_neg h1,hl]; simp [hr0]
   rw [e]
   exact ⟨⟨q.zero,fun _=>q.lock (.inr (.inr h2)),fun r=>by simp at r,fun _=>q.ws1 h0⟩,by simp [dmu,h2,hl]⟩
theorem hol_same {hs:List Int} {v:Int} {i:Nat} (hi:1≤i):Lo.hol (hs.set 0 v) i=Lo.hol hs i:=by
 unfold Lo.hol List.getD
 rw [List.getElem?_set_ne (by omega)]
theorem nth_same {xs:List Int} {v:Int} {i:Nat} (hi:1≤i):Cl.nth (xs.set 0 v) i=Cl.nth xs i:=by
 unfold Cl.nth List.getD
 rw [List.getElem?_set_ne (by omega)]
theorem dstep_zero {n:Nat} {M:Mo} {D:Dr}:(dstep n M D).1.ds=M.ds∧(∀ i,1≤i→Cl.nth (dstep n M D).1.xs i=Cl.nth M.xs i)∧∀ i,1≤i→Lo.hol (dstep n M D).1.hs i=Lo.hol M.hs i:=by
 unfold dstep
 split
 · exact ⟨rfl,fun _ _=>rfl,fun _ _=>rfl⟩
 split
 · unfold wstep
   split
   · exact ⟨rfl,fun _ _=>rfl,fun i hi=>hol_same hi⟩
   split
   · exact ⟨rfl,fun i hi=>nth_same hi,fun _ _=>rfl⟩
   split
   · exact ⟨rfl,fun _ _=>rfl,fun _ _=>rfl⟩
   · exact ⟨rfl,fun _ _=>rfl,fun i hi=>hol_same hi⟩
 · exact ⟨rfl,fun _ _=>rfl,fun _ _=>rfl⟩
theorem fin_run {n:Nat} {z:List Nat} (o:Rok R):∀ (K:Nat) (s:Mo×Dr),Pk R n s.1 s.2→Qd n s.1 s.2 z→dmu n s.1 s.2≤K→
 ∃ s',fin rdD (stD n) dnD K s=(dmu n s.1 s.2,true,stD n s')∧Pk R n s'.1 s'.2∧Qd n s'.1 s'.2 z∧(s'.2.at_=2∧s'.2.left.tail=[])∧s'.1.F=s.1.F∧s'.1.ss.length=s.1.ss.length∧s'.1.xs.length=s.1.xs.length∧s'.1.hs.length=s.1.hs.length∧s'.1.k=s.1.k∧s'.2.W.worker=s.2.W.worker∧s'.1.ds=s.1.ds∧(∀ i,1≤i→Cl.nth s'.1.xs i=Cl.nth s.1.xs i)∧∀ i,1≤i→Lo.hol s'.1.hs i=Lo.hol s.1.hs i:=by
 intro K
 induction K with
 | zero=>
   intro s h q hm
   have:=(runk h q).2.1
   omega
 | succ K ih=>
   intro s h q hm
   obtain ⟨r1,r2,r3,r4⟩:=runk h q
   unfold fin
   rw [if_pos (show rdD s=true from r1)]
   by_cases hd:s.2.at_=2∧s.2.left.tail=[]
   · have e:dnD s=true:=by simp [dnD,hd]
     rw [if_pos e,(r3.1 e)]
     exact ⟨s,rfl,h,q,hd,rfl,rfl,rfl,rfl,rfl,rfl,rfl,fun _ _=>rfl,fun _ _=>rfl⟩
   · have e:¬dnD s=true:=by simpa [dnD] using hd
     obtain ⟨q2,m2⟩:=r4 hd
     rw [if_neg e]
     obtain ⟨s',e',a1,a2,a3,a4,a5,a6,a7,a8,a9,b1,b2,b3⟩:=ih (stD n s) (h.step o r1 hd) q2 (by show dmu n (dstep n s.1 s.2).1 (dstep n s.1 s.2).2≤K; omega)
     have e':fin rdD (stD n) dnD K (stD n s)=(dmu n (dstep n s.1 s.2).1 (dstep n s.1 s.2).2,true,stD n s'):=e'
     refine ⟨s',by rw [e']; simp only [Prod.mk.injEq,and_true]; exact m2,a1,a2,a3,?_⟩
     have hs:(stD n s).1.F=s.1.F∧(stD n s).1.ss.length=s.1.ss.length∧(stD n s).1.xs.length=s.1.xs.length∧(stD n s).1.hs.length=s.1.hs.length∧(stD n s).1.k=s.1.k∧(stD n s).2.W.worker=s.2.W.worker:=by
      unfold stD dstep
      split
      · exact ⟨rfl,rfl,rfl,rfl,rfl,rfl⟩
      split
      · unfold wstep
        split
        · simp
        split
        · simp
        split<;>simp
      · simp [freed]
     have hx:=dstep_zero (n:=n) (M:=s.1) (D:=s.2)
     exact ⟨a4.trans hs.1,a5.trans hs.2.1,a6.trans hs.2.2.1,a7.trans hs.2.2.2.1,a8.trans hs.2.2.2.2.1,a9.trans hs.2.2.2.2.2,b1.trans hx.1,fun i hi=>(b2 i hi).trans (hx.2.1 i hi),fun i hi=>(b3 i hi).trans (hx.2.2 i hi)⟩
end
end Go.Proofs.YtpobbnllcoabhaaGreat.Rk
