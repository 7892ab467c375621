/- Walks over layer 6 (qsbr): the steps of a wait, of one who comes in, of one who goes out. -/
import Derived.Test.YtpobbnllcoabhaaGreatDoorQsbrA
set_option linter.unusedVariables false
set_option linter.unusedSimpArgs false
namespace Go.Proofs.YtpobbnllcoabhaaGreatDoor.Qs
open Go Go.RowKit Hp K Fl Rw Hm Ar Mm Me
set_option maxRecDepth 100000
structure Cm where
 worker:Nat
 at_:Nat
 period:Int
def cmc (C:Cm):Array Value:=#[.int .i64 C.worker,.int .i64 C.at_,.int .u64 C.period]
def CmAt (w:World) (f:Nat) (C:Cm):Prop:=Blk w f 156 (cmc C)
def GgAt (w:World) (f:Nat) (k at_:Nat):Prop:=Blk w f 158 #[.int .i64 k,.int .i64 at_]
theorem enter_any (k:Nat) (w:World):Calls Tryz.prog 59 #[.int .i64 k] w fun e w'=>e=.returned (ptr w.heap.size)∧CmAt w' w.heap.size ⟨k,0,0⟩∧Below w.heap.size w w':=by
 go_enter Tryz.func59,Tryz.ntmps59
 go_wp2
 go_ret
 exact ⟨rfl,Blk.made w _ _,(Below.refl _ _).alloc (Nat.le_refl _) _⟩
theorem leave_any (k:Nat) (w:World):Calls Tryz.prog 60 #[.int .i64 k] w fun e w'=>e=.returned (ptr w.heap.size)∧GgAt w' w.heap.size k 0∧Below w.heap.size w w':=by
 go_enter Tryz.func60,Tryz.ntmps60
 go_wp2
 go_ret
 exact ⟨rfl,Blk.made w _ _,(Below.refl _ _).alloc (Nat.le_refl _) _⟩
section
variable {w:World} {M:Mo} {f:Nat} {W:Wt} {C:Cm}
theorem CmAt.hd (h:CmAt w f C):w.cell? ⟨f,0,none⟩=some (.int .i64 C.worker)∧w.cell? ⟨f,1,none⟩=some (.int .i64 C.at_)∧w.cell? ⟨f,2,none⟩=some (.int .u64 C.period):=⟨h.cell 0,h.cell 1,h.cell 2⟩
theorem CmAt.far (h:CmAt w f C) (hM:MemAt w M):¬mfoot M f:=fun hx=>(hM.ty hx).apart (blk_ty h) (by decide)
theorem GgAt.far {k n:Nat} (h:GgAt w f k n) (hM:MemAt w M):¬mfoot M f:=fun hx=>(hM.ty hx).apart (blk_ty h) (by decide)
/-! ### a wait's four-/
theorem blk_keep {w':World} {x:Nat} {t:TypeId} {cs:Array Value} {S:Nat→Prop} (h:Blk w x t cs) (hx:¬mfoot M x) (ho:Only S w w') (hS:∀ x,S x→mfoot M x):Blk w' x t cs:=h.only ho (fun hs=>hx (hS _ hs))
theorem foot_cells:∀ x,Cl.foot M.g M.A x→mfoot M x:=fun _ h=>.inr (.inl h)
theorem foot_locks:∀ x,Lo.foot M.lg M.lb x→mfoot M x:=fun _ h=>.inr (.inr (.inl h))
theorem take_free (hM:MemAt w M) (hf:WtAt w f W) (hk:0<M.hs.length) (hw:0≤W.worker∧W.worker≤9223372036854775807) (hh:Lo.hol M.hs 0<0):
 Calls Tryz.prog 208 #[ptr f,ptr M.m] w fun e w'=>e=.returned (.bool true)∧MemAt w' {M with hs:=M.hs.set 0 W.worker}∧Only (Lo.foot M.lg M.lb) w w':=by
 have hT:=Lib.hid (fun nq=>Lo.try_free (hM.drewN nq).2.2.1 0 hk W.worker hw.1 hw.2 hh)
 obtain ⟨c0,c1,c2,c3⟩:=hf.hd
 have d1:=hM.hd.2.1
 have HM:=Lib.hid hM
 have HF:=Lib.hid hf
 have lM:=hM.1.lt
 have lf:=hf.lt
 clear hM hf
 go_enter Tryz.func208,Tryz.ntmps208
 go_wp2_with fail
 go_region_held3 (fun w'=>w'.cell? ⟨M.m,1,none⟩=some (ptr M.lg)∧w'.cell? ⟨f,0,none⟩=some (.int .i64 W.worker)) (go_keep)
  (first
    | (go_at_call 72
       refine (hT.out 1).mono ?_
       rintro e w2 ⟨rfl,hL2,hO2⟩
       have hO2':=((Only.refl (Lo.foot M.lg M.lb) w).drewN 1).trans hO2
       have hM2:=HM.out.locks hL2 hO2'
       have s1:=hM2.hd.2.1
       have s2:=(blk_keep HF.out (HF.out.far HM.out) hO2' foot_locks).cell 0
       simp [wtc] at s2
       replace hO2':=Lib.hid hO2'
       replace hM2:=Lib.hid hM2
       clear hL2 hO2))
 all_goals
  go_wp2_with fail
  go_ret
  exact ⟨rfl,hM2.out,hO2'.out⟩
theorem raise_any (hM:MemAt w M) (hf:WtAt w f W) (hk:0<M.xs.length):
 Calls Tryz.prog 209 #[ptr f,ptr M.m] w fun e w'=>e=.returned (.bool true)∧MemAt w' {M with xs:=M.xs.set 0 (Cl.sum64 (Cl.nth M.xs 0) 1)}∧WtAt w' f {W with period:=Cl.sum64 (Cl.nth M.xs 0) 1}∧Only (fun x=>mfoot M x∨x=f) w w':=by
 have hT:=Lib.hid (Cl.add_in hM.2.1 0 hk 1)
 have d0:=hM.hd.1
 have HM:=Lib.hid hM
 have HF:=Lib.hid hf
 generalize Cl.sum64 (Cl.nth M.xs 0) 1=z at*
 clear hM hf
 go_enter Tryz.func209,Tryz.ntmps209
 go_wp2_with fail
 refine hT.out.mono ?_
 rintro e w2 ⟨rfl,hC2,hO2⟩
 have hM2:=HM.out.cells hC2 hO2
 have hf2:=blk_keep HF.out (HF.out.far HM.out) hO2 foot_cells
 have s2:=hf2.cell 2
 have z2:=hf2.frozen 2
 simp [wtc] at s2
 have hff:¬mfoot M f:=HF.out.far HM.out
 have hM3:=Lib.hid (hM2.only ((Only.refl (·=f) w2).setCell (p:=⟨f,2,none⟩) (.inl rfl) (.int .u64 z)) (fun x hx e=>hff (e▸hx)))
 have hf3:=Lib.hid (hf2.store 2 (.int .u64 z))
 have hO3:=Lib.hid ((hO2.mono (S':=fun x=>mfoot M x∨x=f) (fun x _ h=>.inl (foot_cells x h))).setCell (p:=⟨f,2,none⟩) (.inl (.inr rfl)) (.int .u64 z))
 clear hM2 hf2 hC2 hO2
 go_wp2_with fail
 go_ret
 exact ⟨rfl,hM3.out,hf3.out,hO3.out⟩
theorem look_any (hM:MemAt w M) (hf:WtAt w f W) (hk:2+W.passed<M.xs.length) (hp:W.passed≤1000) (hb:passB M.xs W=true) {n:Nat} (hn:M.k=n):
 Calls Tryz.prog 210 #[ptr f,ptr M.m] w fun e w'=>e=.returned (.bool (decide (n≤W.passed+1)))∧MemAt w' M∧WtAt w' f {W with passed:=W.passed+1}∧Only (fun x=>mfoot M x∨x=f) w w':=by
 have hT:=Lib.hid (pass_any hM hf hk hp)
 rw [hb] at hT
 have HM:=Lib.hid hM
 have HF:=Lib.hid hf
 clear hM hf hb
 go_enter Tryz.func210,Tryz.ntmps210
 go_wp2_with fail
 refine hT.out.mono ?_
 rintro e w2 ⟨rfl,nq,rfl⟩
 have hM2:=HM.out.drewN nq
 have hf2:WtAt (w.drewN nq) f W:=HF.out.only ((Only.refl (fun _=>False) w).drewN nq) (by simp)
 have s3:=hf2.cell 3
 have z3:=hf2.frozen 3
 simp [wtc] at s3
 have hff:¬mfoot M f:=HF.out.far HM.out
 have hM3:=hM2.only ((Only.refl (·=f) (w.drewN nq)).setCell (p:=⟨f,3,none⟩) (.inl rfl) (.int .i64 ((W.passed:Int)+1))) (fun x hx e=>hff (e▸hx))
 have hf3:WtAt ((w.drewN nq).setCell ⟨f,3,none⟩ (.int .i64 ((W.passed:Int)+1))) f {W with passed:=W.passed+1}:=by
  have:=Blk.store hf2 3 (.int .i64 ((W.passed:Int)+1))
  exact this
 have hO3:=Lib.hid ((((Only.refl (fun _=>False) w).drewN nq).mono (S':=fun x=>mfoot M x∨x=f) (fun x _ h=>h.elim)).setCell (p:=⟨f,3,none⟩) (.inl (.inr rfl)) (.int .i64 ((W.passed:Int)+1)))
 have hW:=Lib.hid (fun q=>(workers_any (hM3.drewN q)).mono fun e w' h=>(⟨h.1,h.2.symm⟩:e=.returned (.int .i64 M.k)∧w'=_))
 rw [hn] at hW
 replace hM3:=Lib.hid hM3
 replace hf3:=Lib.hid hf3
 clear hM2 hf2
 generalize hw3:(w.drewN nq).setCell ⟨f,3,none⟩ (.int .i64 ((W.passed:Int)+1))=w3 at*
 have t3:=hf3.out.cell 3
 simp [wtc] at t3
 replace hw3:=Lib.hid hw3
 go_wp2_with fail
 rw [hw3.out]
 go_quiet ((go_at_call 212; exact Calls.quiet_of_same (hW.out _)))
 go_wp2_with fail
 go_ret
 refine ⟨K.ret_bool ?_,hM3.out.drewN _,?_,?_⟩
 · apply Bool.eq_iff_iff.2
   simp
   omega
 · exact hf3.out.only ((Only.refl (fun _=>False) w3).drewN _) (by simp)
 · exact hO3.out.drewN _
theorem free_step (hM:MemAt w M) (hf:WtAt w f W) (hk:0<M.hs.length) (hw:0≤W.worker∧W.worker≤9223372036854775807) (hh:Lo.hol M.hs 0=W.worker):
 Calls Tryz.prog 211 #[ptr f,ptr M.m] w fun e w'=>e=.returned (.bool true)∧MemAt w' {M with hs:=M.hs.set 0 (-1)}∧Only (Lo.foot M.lg M.lb) w w':=by
 have hT:=Lib.hid (fun nq=>Lo.free_own (hM.drewN nq).2.2.1 0 hk W.worker hw.1 hh)
 obtain ⟨c0,c1,c2,c3⟩:=hf.hd
 have d1:=hM.hd.2.1
 have HM:=Lib.hid hM
 have HF:=Lib.hid hf
 have lM:=hM.1.lt
 have lf:=hf.lt
 clear hM hf
 go_enter Tryz.func211,Tryz.ntmps211
 go_wp2_with fail
 go_region_held3 (fun w'=>w'.cell? ⟨M.m,1,none⟩=some (ptr M.lg)∧w'.cell? ⟨f,0,none⟩=some (.int .i64 W.worker)) (go_keep)
  (first
    | (go_at_call 134
       refine (hT.out 1).mono ?_
       rintro e w2 ⟨rfl,hL2,hO2⟩
       have hO2':=((Only.refl (Lo.foot M.lg M.lb) w).drewN 1).trans hO2
       have hM2:=HM.out.locks hL2 hO2'
       have s1:=hM2.hd.2.1
       have s2:=(blk_keep HF.out (HF.out.far HM.out) hO2' foot_locks).cell 0
       simp [wtc] at s2
       replace hO2':=Lib.hid hO2'
       replace hM2:=Lib.hid hM2
       clear hL2 hO2))
 all_goals
  go_wp2_with fail
  go_ret
  exact ⟨rfl,hM2.out,hO2'.out⟩
/-! ### one who comes in-/
theorem load_step (hM:MemAt w M) (hf:CmAt w f C) (hk:0<M.xs.length):
 Calls Tryz.prog 148 #[ptr f,ptr M.m] w fun e w'=>e=.returned (.bool true)∧MemAt w' M∧CmAt w' f {C with period:=Cl.nth M.xs 0}∧Only (·=f) w w':=by
 have hT:=Lib.hid (Cl.load_in hM.2.1 0 hk)
 have d0:=hM.hd.1
 have s2:=hf.hd.2.2
 have z2:=hf.frozen 2
 have hff:¬mfoot M f:=hf.far hM
 generalize Cl.nth M.xs 0=z at*
 have hO:=(Only.refl (·=f) w).setCell (p:=⟨f,2,none⟩) (.inl rfl) (.int .u64 z)
 have hM3:=Lib.hid (hM.only hO (fun x hx e=>hff (e▸hx)))
 have hf3:Hid (CmAt _ f {C with period:=z}):=Lib.hid (hf.store 2 (.int .u64 z))
 replace hO:=Lib.hid hO
 clear hM hf
 go_enter Tryz.func148,Tryz.ntmps148
 go_wp2_with (go_at_call 54; refine hT.out.mono ?_; rintro e w' ⟨rfl,rfl⟩)
 go_ret
 exact ⟨rfl,hM3.out,hf3.out,hO.out⟩
theorem store_at (hM:MemAt w M) (k:Nat) (hk:2+k<M.xs.length) (v:Int) (h0:0≤v) (h1:v≤18446744073709551615):
 Calls Tryz.prog 21 #[ptr M.g,.int .i64 (2+(k:Int)),.int .u64 v] w fun e w'=>e=.returned (.int .i64 0)∧MemAt w' {M with xs:=M.xs.set (2+k) v}∧Only (Cl.foot M.g M.A) w w':=by
 have:=Cl.store_in hM.2.1 (2+k) hk v h0 h1
 rw [Int.natCast_add] at this
 exact this.mono fun e w' h=>⟨h.1,hM.cells h.2.1 h.2.2,h.2.2⟩
theorem store_step (hM:MemAt w M) (hf:CmAt w f C) (hk:2+C.worker<M.xs.length) (hp:C.worker≤1000) (hv:0≤C.period∧C.period≤18446744073709551615):
 Calls Tryz.prog 149 #[ptr f,ptr M.m] w fun e w'=>e=.returned (.bool true)∧MemAt w' {M with xs:=M.xs.set (2+C.worker) C.period}∧Only (Cl.foot M.g M.A) w w':=by
 have hT:=Lib.hid (fun nq=>store_at (hM.drewN nq) C.worker hk C.period hv.1 hv.2)
 obtain ⟨c0,c1,c2⟩:=hf.hd
 have d0:=hM.hd.1
 have HM:=Lib.hid hM
 have HF:=Lib.hid hf
 have lM:=hM.1.lt
 have lf:=hf.lt
 clear hM hf
 go_enter Tryz.func149,Tryz.ntmps149
 go_wp2_with fail
 go_region_held3 (fun w'=>w'.cell? ⟨M.m,0,none⟩=some (ptr M.g)∧w'.cell? ⟨f,0,none⟩=some (.int .i64 C.worker)∧w'.cell? ⟨f,2,none⟩=some (.int .u64 C.period)) (go_keep)
  (first
    | (go_at_call 19
       refine (counter_any _ _ (by omega) (by omega)).mono ?_
       rintro e w2 ⟨rfl,rfl⟩)
    | (go_at_call 21
       refine (hT.out 1).mono ?_
       rintro e w2 ⟨rfl,hM2,hO2⟩
       have hO2':=((Only.refl (Cl.foot M.g M.A) w).drewN 1).trans hO2
       have s1:=hM2.hd.1
       have hf2:=blk_keep HF.out (HF.out.far HM.out) hO2' foot_cells
       have s2:=hf2.cell 0
       have s3:=hf2.cell 2
       simp [cmc] at s2 s3
       replace hO2':=Lib.hid hO2'
       replace hM2:=Lib.hid hM2
       clear hO2 hf2))
 all_goals
  go_wp2_with fail
  go_ret
  exact ⟨rfl,hM2.out,hO2'.out⟩
/-! ### one who goes out-/
theorem out_step {k n:Nat} (hM:MemAt w M) (hf:GgAt w f k n) (hk:2+k<M.xs.length) (hp:k≤1000):
 Calls Tryz.prog 184 #[ptr f,ptr M.m] w fun e w'=>e=.returned (.bool true)∧MemAt w' {M with xs:=M.xs.set (2+k) 0}∧Only (Cl.foot M.g M.A) w w':=by
 have hT:=Lib.hid (fun nq=>store_at (hM.drewN nq) k hk 0 (by omega) (by omega))
 have c0:=hf.cell 0
 have d0:=hM.hd.1
 have HM:=Lib.hid hM
 have HF:=Lib.hid hf
 have lM:=hM.1.lt
 have lf:=hf.lt
 simp at c0
 clear hM hf
 go_enter Tryz.func184,Tryz.ntmps184
 go_wp2_with fail
 go_region_held3 (fun w'=>w'.cell? ⟨M.m,0,none⟩=some (ptr M.g)∧w'.cell? ⟨f,0,none⟩=some (.int .i64 k)) (go_keep)
  (first
    | (go_at_call 19
       refine (counter_any _ _ (by omega) (by omega)).mono ?_
       rintro e w2 ⟨rfl,rfl⟩)
    | (go_at_call 21
       refine (hT.out 1).mono ?_
       rintro e w2 ⟨rfl,hM2,hO2⟩
       have hO2':=((Only.refl (Cl.foot M.g M.A) w).drewN 1).trans hO2
       have s1:=hM2.hd.1
       have s2:=(blk_keep HF.out (HF.out.far HM.out) hO2' foot_cells).cell 0
       simp at s2
       replace hO2':=Lib.hid hO2'
       replace hM2:=Lib.hid hM2
       clear hO2))
 all_goals
  go_wp2_with fail
  go_ret
  exact ⟨rfl,hM2.out,hO2'.out⟩
end
end Go.Proofs.YtpobbnllcoabhaaGreatDoor.Qs
