/- A part. -/
import Derived.Test.YtpanebgakndddaaGreatQsbrA
set_option linter.unusedVariables false
set_option linter.unusedSimpArgs false
namespace Go.Proofs.YtpanebgakndddaaGreat.Qs
open Go Go.RowKit Hp K Fl Rw Hm Ar Mm Me
set_option maxRecDepth 100000
structure Cm where
 worker:Nat
 at_:Nat
 period:Int
def I9 (C:Cm):Array Value:=#[.int .i64 C.worker,.int .i64 C.at_,.int .u64 C.period]
def gv (w:World) (f:Nat) (C:Cm):Prop:=af w f 233 (I9 C)
def jG (w:World) (f:Nat) (k at_:Nat):Prop:=af w f 235 #[.int .i64 k,.int .i64 at_]
theorem Hr (k:Nat) (w:World):Calls Tryz.prog 123 #[.int .i64 k] w fun e w'=>e=.returned (ptr w.heap.size)/\gv w' w.heap.size ⟨k,0,0⟩/\Below w.heap.size w w':=by
 go_enter Tryz.func123,Tryz.ntmps123
 go_wp2
 go_ret
 exact ⟨rfl,af.made w _ _,(Below.refl _ _).alloc (Nat.le_refl _) _⟩
theorem Hs (k:Nat) (w:World):Calls Tryz.prog 124 #[.int .i64 k] w fun e w'=>e=.returned (ptr w.heap.size)/\jG w' w.heap.size k 0/\Below w.heap.size w w':=by
 go_enter Tryz.func124,Tryz.ntmps124
 go_wp2
 go_ret
 exact ⟨rfl,af.made w _ _,(Below.refl _ _).alloc (Nat.le_refl _) _⟩
section
variable {w:World} {M:Mo} {f:Nat} {W:Wt} {C:Cm}
theorem gv.hd (h:gv w f C):w.cell? ⟨f,0,none⟩=some (.int .i64 C.worker)/\w.cell? ⟨f,1,none⟩=some (.int .i64 C.at_)/\w.cell? ⟨f,2,none⟩=some (.int .u64 C.period):=⟨h.cell 0,h.cell 1,h.cell 2⟩
theorem gv.aB (h:gv w f C) (hM:ah w M):¬aq M f:=fun hx=>(hM.ty hx).apart (bm h) (by decide)
theorem jG.aB {k n:Nat} (h:jG w f k n) (hM:ah w M):¬aq M f:=fun hx=>(hM.ty hx).apart (bm h) (by decide)
/-! ### a wait's four-/
theorem pW {w':World} {x:Nat} {t:TypeId} {cs:Array Value} {S:Nat->Prop} (h:af w x t cs) (hx:¬aq M x) (ho:ab S w w') (hS:∀ x,S x->aq M x):af w' x t cs:=h.only ho (fun hs=>hx (hS _ hs))
theorem n7:∀ x,Cl.aQ M.g M.A x->aq M x:=fun _ h=>.inr (.inl h)
theorem iu:∀ x,Lo.aQ M.lg M.lb x->aq M x:=fun _ h=>.inr (.inr (.inl h))
theorem Di (hM:ah w M) (hf:dr w f W) (hk:0<M.hs.length) (hw:0<=W.worker/\W.worker<=9223372036854775807) (hh:Lo.aF M.hs 0<0):
 Calls Tryz.prog 130 #[ptr f,ptr M.m] w fun e w'=>e=.returned (.bool true)/\ah w' {M with hs:=M.hs.set 0 W.worker}/\ab (Lo.aQ M.lg M.lb) w w':=by
 have hT:=Lib.hid (fun nq=>Lo.vS (hM.drewN nq).2.2.1 0 hk W.worker hw.1 hw.2 hh)
 obtain ⟨c0,c1,c2,c3⟩:=hf.hd
 have d1:=hM.hd.2.1
 have HM:=Lib.hid hM
 have HF:=Lib.hid hf
 have lM:=hM.1.lt
 have lf:=hf.lt
 clear hM hf
 go_enter Tryz.func130,Tryz.ntmps130
 go_wp2_with fail
 go_region_held3 (fun w'=>w'.cell? ⟨M.m,1,none⟩=some (ptr M.lg)/\w'.cell? ⟨f,0,none⟩=some (.int .i64 W.worker)) (go_keep)
  (first
    | (go_at_call 103
       refine (hT.out 1).mono ?_
       rintro e w2 ⟨rfl,gd,ae⟩
       have cg:=((ab.refl (Lo.aQ M.lg M.lb) w).drewN 1).trans ae
       have aI:=HM.out.mI gd cg
       have s1:=aI.hd.2.1
       have s2:=(pW HF.out (HF.out.aB HM.out) cg iu).cell 0
       simp [uE] at s2
       replace cg:=Lib.hid cg
       replace aI:=Lib.hid aI
       clear gd ae))
 all_goals
  go_wp2_with fail
  go_ret
  exact ⟨rfl,aI.out,cg.out⟩
theorem SW (hM:ah w M) (hf:dr w f W) (hk:0<M.xs.length):
 Calls Tryz.prog 131 #[ptr f,ptr M.m] w fun e w'=>e=.returned (.bool true)/\ah w' {M with xs:=M.xs.set 0 (Cl.fE (Cl.nth M.xs 0) 1)}/\dr w' f {W with period:=Cl.fE (Cl.nth M.xs 0) 1}/\ab (fun x=>aq M x\/x=f) w w':=by
 have hT:=Lib.hid (Cl.Gp hM.2.1 0 hk 1)
 have d0:=hM.hd.1
 have HM:=Lib.hid hM
 have HF:=Lib.hid hf
 generalize Cl.fE (Cl.nth M.xs 0) 1=z at*
 clear hM hf
 go_enter Tryz.func131,Tryz.ntmps131
 go_wp2_with fail
 refine hT.out.mono ?_
 rintro e w2 ⟨rfl,rr,ae⟩
 have aI:=HM.out.cells rr ae
 have cI:=pW HF.out (HF.out.aB HM.out) ae n7
 have s2:=cI.cell 2
 have z2:=cI.frozen 2
 simp [uE] at s2
 have fS:¬aq M f:=HF.out.aB HM.out
 have bB:=Lib.hid (aI.only ((ab.refl (·=f) w2).setCell (p:=⟨f,2,none⟩) (.inl rfl) (.int .u64 z)) (fun x hx e=>fS (e▸hx)))
 have gi:=Lib.hid (cI.store 2 (.int .u64 z))
 have an:=Lib.hid ((ae.mono (S':=fun x=>aq M x\/x=f) (fun x _ h=>.inl (n7 x h))).setCell (p:=⟨f,2,none⟩) (.inl (.inr rfl)) (.int .u64 z))
 clear aI cI rr ae
 go_wp2_with fail
 go_ret
 exact ⟨rfl,bB.out,gi.out,an.out⟩
theorem SX (hM:ah w M) (hf:dr w f W) (hk:2+W.bF<M.xs.length) (hp:W.bF<=1000) (hb:pT M.xs W=true) {n:Nat} (hn:M.k=n):
 Calls Tryz.prog 132 #[ptr f,ptr M.m] w fun e w'=>e=.returned (.bool (decide (n<=W.bF+1)))/\ah w' M/\dr w' f {W with bF:=W.bF+1}/\ab (fun x=>aq M x\/x=f) w w':=by
 have hT:=Lib.hid (I8 hM hf hk hp)
 rw [hb] at hT
 have HM:=Lib.hid hM
 have HF:=Lib.hid hf
 clear hM hf hb
 go_enter Tryz.func132,Tryz.ntmps132
 go_wp2_with fail
 refine hT.out.mono ?_
 rintro e w2 ⟨rfl,nq,rfl⟩
 have aI:=HM.out.drewN nq
 have cI:dr (w.drewN nq) f W:=HF.out.only ((ab.refl (fun _=>False) w).drewN nq) (by simp)
 have s3:=cI.cell 3
 have z3:=cI.frozen 3
 simp [uE] at s3
 have fS:¬aq M f:=HF.out.aB HM.out
 have bB:=aI.only ((ab.refl (·=f) (w.drewN nq)).setCell (p:=⟨f,3,none⟩) (.inl rfl) (.int .i64 ((W.bF:Int)+1))) (fun x hx e=>fS (e▸hx))
 have gi:dr ((w.drewN nq).setCell ⟨f,3,none⟩ (.int .i64 ((W.bF:Int)+1))) f {W with bF:=W.bF+1}:=by
  have:=af.store cI 3 (.int .i64 ((W.bF:Int)+1))
  exact this
 have an:=Lib.hid ((((ab.refl (fun _=>False) w).drewN nq).mono (S':=fun x=>aq M x\/x=f) (fun x _ h=>h.elim)).setCell (p:=⟨f,3,none⟩) (.inl (.inr rfl)) (.int .i64 ((W.bF:Int)+1)))
 have hW:=Lib.hid (fun q=>(Sp (bB.drewN q)).mono fun e w' h=>(⟨h.1,h.2.symm⟩:e=.returned (.int .i64 M.k)/\w'=_))
 rw [hn] at hW
 replace bB:=Lib.hid bB
 replace gi:=Lib.hid gi
 clear aI cI
 generalize cX:(w.drewN nq).setCell ⟨f,3,none⟩ (.int .i64 ((W.bF:Int)+1))=w3 at*
 have t3:=gi.out.cell 3
 simp [uE] at t3
 replace cX:=Lib.hid cX
 go_wp2_with fail
 rw [cX.out]
 go_quiet ((go_at_call 165; exact Calls.quiet_of_same (hW.out _)))
 go_wp2_with fail
 go_ret
 refine ⟨K.kZ ?_,bB.out.drewN _,?_,?_⟩
 ·apply Bool.eq_iff_iff.2
  simp
  omega
 ·exact gi.out.only ((ab.refl (fun _=>False) w3).drewN _) (by simp)
 ·exact an.out.drewN _
theorem SY (hM:ah w M) (hf:dr w f W) (hk:0<M.hs.length) (hw:0<=W.worker/\W.worker<=9223372036854775807) (hh:Lo.aF M.hs 0=W.worker):
 Calls Tryz.prog 133 #[ptr f,ptr M.m] w fun e w'=>e=.returned (.bool true)/\ah w' {M with hs:=M.hs.set 0 (-1)}/\ab (Lo.aQ M.lg M.lb) w w':=by
 have hT:=Lib.hid (fun nq=>Lo.wW (hM.drewN nq).2.2.1 0 hk W.worker hw.1 hh)
 obtain ⟨c0,c1,c2,c3⟩:=hf.hd
 have d1:=hM.hd.2.1
 have HM:=Lib.hid hM
 have HF:=Lib.hid hf
 have lM:=hM.1.lt
 have lf:=hf.lt
 clear hM hf
 go_enter Tryz.func133,Tryz.ntmps133
 go_wp2_with fail
 go_region_held3 (fun w'=>w'.cell? ⟨M.m,1,none⟩=some (ptr M.lg)/\w'.cell? ⟨f,0,none⟩=some (.int .i64 W.worker)) (go_keep)
  (first
    | (go_at_call 166
       refine (hT.out 1).mono ?_
       rintro e w2 ⟨rfl,gd,ae⟩
       have cg:=((ab.refl (Lo.aQ M.lg M.lb) w).drewN 1).trans ae
       have aI:=HM.out.mI gd cg
       have s1:=aI.hd.2.1
       have s2:=(pW HF.out (HF.out.aB HM.out) cg iu).cell 0
       simp [uE] at s2
       replace cg:=Lib.hid cg
       replace aI:=Lib.hid aI
       clear gd ae))
 all_goals
  go_wp2_with fail
  go_ret
  exact ⟨rfl,aI.out,cg.out⟩
/-! ### one who comes in-/
theorem wK (hM:ah w M) (hf:gv w f C) (hk:0<M.xs.length):
 Calls Tryz.prog 211 #[ptr f,ptr M.m] w fun e w'=>e=.returned (.bool true)/\ah w' M/\gv w' f {C with period:=Cl.nth M.xs 0}/\ab (·=f) w w':=by
 have hT:=Lib.hid (Cl.nh hM.2.1 0 hk)
 have d0:=hM.hd.1
 have s2:=hf.hd.2.2
 have z2:=hf.frozen 2
 have fS:¬aq M f:=hf.aB hM
 generalize Cl.nth M.xs 0=z at*
 have hO:=(ab.refl (·=f) w).setCell (p:=⟨f,2,none⟩) (.inl rfl) (.int .u64 z)
 have bB:=Lib.hid (hM.only hO (fun x hx e=>fS (e▸hx)))
 have gi:Hid (gv _ f {C with period:=z}):=Lib.hid (hf.store 2 (.int .u64 z))
 replace hO:=Lib.hid hO
 clear hM hf
 go_enter Tryz.func211,Tryz.ntmps211
 go_wp2_with (go_at_call 90; refine hT.out.mono ?_; rintro e w' ⟨rfl,rfl⟩)
 go_ret
 exact ⟨rfl,bB.out,gi.out,hO.out⟩
theorem Ja (hM:ah w M) (k:Nat) (hk:2+k<M.xs.length) (v:Int) (h0:0<=v) (h1:v<=18446744073709551615):
 Calls Tryz.prog 45 #[ptr M.g,.int .i64 (2+(k:Int)),.int .u64 v] w fun e w'=>e=.returned (.int .i64 0)/\ah w' {M with xs:=M.xs.set (2+k) v}/\ab (Cl.aQ M.g M.A) w w':=by
 have:=Cl.vU hM.2.1 (2+k) hk v h0 h1
 rw [Int.natCast_add] at this
 exact this.mono fun e w' h=>⟨h.1,hM.cells h.2.1 h.2.2,h.2.2⟩
theorem wL (hM:ah w M) (hf:gv w f C) (hk:2+C.worker<M.xs.length) (hp:C.worker<=1000) (hv:0<=C.period/\C.period<=18446744073709551615):
 Calls Tryz.prog 212 #[ptr f,ptr M.m] w fun e w'=>e=.returned (.bool true)/\ah w' {M with xs:=M.xs.set (2+C.worker) C.period}/\ab (Cl.aQ M.g M.A) w w':=by
 have hT:=Lib.hid (fun nq=>Ja (hM.drewN nq) C.worker hk C.period hv.1 hv.2)
 obtain ⟨c0,c1,c2⟩:=hf.hd
 have d0:=hM.hd.1
 have HM:=Lib.hid hM
 have HF:=Lib.hid hf
 have lM:=hM.1.lt
 have lf:=hf.lt
 clear hM hf
 go_enter Tryz.func212,Tryz.ntmps212
 go_wp2_with fail
 go_region_held3 (fun w'=>w'.cell? ⟨M.m,0,none⟩=some (ptr M.g)/\w'.cell? ⟨f,0,none⟩=some (.int .i64 C.worker)/\w'.cell? ⟨f,2,none⟩=some (.int .u64 C.period)) (go_keep)
  (first
    | (go_at_call 43
       refine (xc _ _ (by omega) (by omega)).mono ?_
       rintro e w2 ⟨rfl,rfl⟩)
    | (go_at_call 45
       refine (hT.out 1).mono ?_
       rintro e w2 ⟨rfl,aI,ae⟩
       have cg:=((ab.refl (Cl.aQ M.g M.A) w).drewN 1).trans ae
       have s1:=aI.hd.1
       have cI:=pW HF.out (HF.out.aB HM.out) cg n7
       have s2:=cI.cell 0
       have s3:=cI.cell 2
       simp [I9] at s2 s3
       replace cg:=Lib.hid cg
       replace aI:=Lib.hid aI
       clear ae cI))
 all_goals
  go_wp2_with fail
  go_ret
  exact ⟨rfl,aI.out,cg.out⟩
/-! ### one who oZ out-/
theorem SZ {k n:Nat} (hM:ah w M) (hf:jG w f k n) (hk:2+k<M.xs.length) (hp:k<=1000):
 Calls Tryz.prog 238 #[ptr f,ptr M.m] w fun e w'=>e=.returned (.bool true)/\ah w' {M with xs:=M.xs.set (2+k) 0}/\ab (Cl.aQ M.g M.A) w w':=by
 have hT:=Lib.hid (fun nq=>Ja (hM.drewN nq) k hk 0 (by omega) (by omega))
 have c0:=hf.cell 0
 have d0:=hM.hd.1
 have HM:=Lib.hid hM
 have HF:=Lib.hid hf
 have lM:=hM.1.lt
 have lf:=hf.lt
 simp at c0
 clear hM hf
 go_enter Tryz.func238,Tryz.ntmps238
 go_wp2_with fail
 go_region_held3 (fun w'=>w'.cell? ⟨M.m,0,none⟩=some (ptr M.g)/\w'.cell? ⟨f,0,none⟩=some (.int .i64 k)) (go_keep)
  (first
    | (go_at_call 43
       refine (xc _ _ (by omega) (by omega)).mono ?_
       rintro e w2 ⟨rfl,rfl⟩)
    | (go_at_call 45
       refine (hT.out 1).mono ?_
       rintro e w2 ⟨rfl,aI,ae⟩
       have cg:=((ab.refl (Cl.aQ M.g M.A) w).drewN 1).trans ae
       have s1:=aI.hd.1
       have s2:=(pW HF.out (HF.out.aB HM.out) cg n7).cell 0
       simp at s2
       replace cg:=Lib.hid cg
       replace aI:=Lib.hid aI
       clear ae))
 all_goals
  go_wp2_with fail
  go_ret
  exact ⟨rfl,aI.out,cg.out⟩
end
end Go.Proofs.YtpanebgakndddaaGreat.Qs
