/- A part. -/
import Derived.Test.YtpanebgakndddaaGreatQsbrA
set_option linter.unusedVariables false
set_option linter.unusedSimpArgs false
namespace Go.Proofs.YtpanebgakndddaaGreat.Qs
open Go Go.RowKit Hp K Fl Rw Hm Ar Mm Me
set_option maxRecDepth 100000
structure Cm where
 worker:Nat
 at_:Nat
 period:Int
def Ii (C:Cm):Array Value:=#[.int .i64 C.worker,.int .i64 C.at_,.int .u64 C.period]
def gu (w:World) (f:Nat) (C:Cm):Prop:=af w f 233 (Ii C)
def jK (w:World) (f:Nat) (k at_:Nat):Prop:=af w f 235 #[.int .i64 k,.int .i64 at_]
theorem Gx (k:Nat) (w:World):Calls Tryz.prog 123 #[.int .i64 k] w fun e w'=>e=.returned (ptr w.heap.size)/\gu w' w.heap.size ⟨k,0,0⟩/\Below w.heap.size w w':=by
 go_enter Tryz.func123,Tryz.ntmps123
 go_wp2
 go_ret
 exact ⟨rfl,af.made w _ _,(Below.refl _ _).alloc (Nat.le_refl _) _⟩
theorem Gy (k:Nat) (w:World):Calls Tryz.prog 124 #[.int .i64 k] w fun e w'=>e=.returned (ptr w.heap.size)/\jK w' w.heap.size k 0/\Below w.heap.size w w':=by
 go_enter Tryz.func124,Tryz.ntmps124
 go_wp2
 go_ret
 exact ⟨rfl,af.made w _ _,(Below.refl _ _).alloc (Nat.le_refl _) _⟩
section
variable {w:World} {M:Mo} {f:Nat} {W:Wt} {C:Cm}
theorem gu.hd (h:gu w f C):w.cell? ⟨f,0,none⟩=some (.int .i64 C.worker)/\w.cell? ⟨f,1,none⟩=some (.int .i64 C.at_)/\w.cell? ⟨f,2,none⟩=some (.int .u64 C.period):=⟨h.cell 0,h.cell 1,h.cell 2⟩
theorem gu.aA (h:gu w f C) (hM:ah w M):¬ao M f:=fun hx=>(hM.ty hx).apart (aV h) (by decide)
theorem jK.aA {k n:Nat} (h:jK w f k n) (hM:ah w M):¬ao M f:=fun hx=>(hM.ty hx).apart (aV h) (by decide)
/-! ### a wait's four-/
theorem pK {w':World} {x:Nat} {t:TypeId} {cs:Array Value} {S:Nat->Prop} (h:af w x t cs) (hx:¬ao M x) (ho:ab S w w') (hS:∀ x,S x->ao M x):af w' x t cs:=h.only ho (fun hs=>hx (hS _ hs))
theorem nG:∀ x,Cl.aS M.g M.A x->ao M x:=fun _ h=>.inr (.inl h)
theorem iq:∀ x,Lo.aS M.lg M.lb x->ao M x:=fun _ h=>.inr (.inr (.inl h))
theorem CH (hM:ah w M) (hf:cZ w f W) (hk:0<M.hs.length) (hw:0<=W.worker/\W.worker<=9223372036854775807) (hh:Lo.aE M.hs 0<0):
 Calls Tryz.prog 130 #[ptr f,ptr M.m] w fun e w'=>e=.returned (.bool true)/\ah w' {M with hs:=M.hs.set 0 W.worker}/\ab (Lo.aS M.lg M.lb) w w':=by
 have hT:=Lib.hid (fun nq=>Lo.vi (hM.drewN nq).2.2.1 0 hk W.worker hw.1 hw.2 hh)
 obtain ⟨c0,c1,c2,c3⟩:=hf.hd
 have d1:=hM.hd.2.1
 have HM:=Lib.hid hM
 have HF:=Lib.hid hf
 have lM:=hM.1.lt
 have lf:=hf.lt
 clear hM hf
 go_enter Tryz.func130,Tryz.ntmps130
 go_wp2_with fail
 go_region_held3 (fun w'=>w'.cell? ⟨M.m,1,none⟩=some (ptr M.lg)/\w'.cell? ⟨f,0,none⟩=some (.int .i64 W.worker)) (go_keep)
  (first
    | (go_at_call 103
       refine (hT.out 1).mono ?_
       rintro e w2 ⟨rfl,fu,ae⟩
       have bG:=((ab.refl (Lo.aS M.lg M.lb) w).drewN 1).trans ae
       have aB:=HM.out.mf fu bG
       have s1:=aB.hd.2.1
       have s2:=(pK HF.out (HF.out.aA HM.out) bG iq).cell 0
       simp [ui] at s2
       replace bG:=Lib.hid bG
       replace aB:=Lib.hid aB
       clear fu ae))
 all_goals
  go_wp2_with fail
  go_ret
  exact ⟨rfl,aB.out,bG.out⟩
theorem RX (hM:ah w M) (hf:cZ w f W) (hk:0<M.xs.length):
 Calls Tryz.prog 131 #[ptr f,ptr M.m] w fun e w'=>e=.returned (.bool true)/\ah w' {M with xs:=M.xs.set 0 (Cl.fp (Cl.nth M.xs 0) 1)}/\cZ w' f {W with period:=Cl.fp (Cl.nth M.xs 0) 1}/\ab (fun x=>ao M x\/x=f) w w':=by
 have hT:=Lib.hid (Cl.Fj hM.2.1 0 hk 1)
 have d0:=hM.hd.1
 have HM:=Lib.hid hM
 have HF:=Lib.hid hf
 generalize Cl.fp (Cl.nth M.xs 0) 1=z at*
 clear hM hf
 go_enter Tryz.func131,Tryz.ntmps131
 go_wp2_with fail
 refine hT.out.mono ?_
 rintro e w2 ⟨rfl,qX,ae⟩
 have aB:=HM.out.cells qX ae
 have cp:=pK HF.out (HF.out.aA HM.out) ae nG
 have s2:=cp.cell 2
 have z2:=cp.frozen 2
 simp [ui] at s2
 have eZ:¬ao M f:=HF.out.aA HM.out
 have br:=Lib.hid (aB.only ((ab.refl (·=f) w2).setCell (p:=⟨f,2,none⟩) (.inl rfl) (.int .u64 z)) (fun x hx e=>eZ (e▸hx)))
 have gi:=Lib.hid (cp.store 2 (.int .u64 z))
 have aq:=Lib.hid ((ae.mono (S':=fun x=>ao M x\/x=f) (fun x _ h=>.inl (nG x h))).setCell (p:=⟨f,2,none⟩) (.inl (.inr rfl)) (.int .u64 z))
 clear aB cp qX ae
 go_wp2_with fail
 go_ret
 exact ⟨rfl,br.out,gi.out,aq.out⟩
theorem RY (hM:ah w M) (hf:cZ w f W) (hk:2+W.bm<M.xs.length) (hp:W.bm<=1000) (hb:oK M.xs W=true) {n:Nat} (hn:M.k=n):
 Calls Tryz.prog 132 #[ptr f,ptr M.m] w fun e w'=>e=.returned (.bool (decide (n<=W.bm+1)))/\ah w' M/\cZ w' f {W with bm:=W.bm+1}/\ab (fun x=>ao M x\/x=f) w w':=by
 have hT:=Lib.hid (Ih hM hf hk hp)
 rw [hb] at hT
 have HM:=Lib.hid hM
 have HF:=Lib.hid hf
 clear hM hf hb
 go_enter Tryz.func132,Tryz.ntmps132
 go_wp2_with fail
 refine hT.out.mono ?_
 rintro e w2 ⟨rfl,nq,rfl⟩
 have aB:=HM.out.drewN nq
 have cp:cZ (w.drewN nq) f W:=HF.out.only ((ab.refl (fun _=>False) w).drewN nq) (by simp)
 have s3:=cp.cell 3
 have z3:=cp.frozen 3
 simp [ui] at s3
 have eZ:¬ao M f:=HF.out.aA HM.out
 have br:=aB.only ((ab.refl (·=f) (w.drewN nq)).setCell (p:=⟨f,3,none⟩) (.inl rfl) (.int .i64 ((W.bm:Int)+1))) (fun x hx e=>eZ (e▸hx))
 have gi:cZ ((w.drewN nq).setCell ⟨f,3,none⟩ (.int .i64 ((W.bm:Int)+1))) f {W with bm:=W.bm+1}:=by
  have:=af.store cp 3 (.int .i64 ((W.bm:Int)+1))
  exact this
 have aq:=Lib.hid ((((ab.refl (fun _=>False) w).drewN nq).mono (S':=fun x=>ao M x\/x=f) (fun x _ h=>h.elim)).setCell (p:=⟨f,3,none⟩) (.inl (.inr rfl)) (.int .i64 ((W.bm:Int)+1)))
 have hW:=Lib.hid (fun q=>(Ro (br.drewN q)).mono fun e w' h=>(⟨h.1,h.2.symm⟩:e=.returned (.int .i64 M.k)/\w'=_))
 rw [hn] at hW
 replace br:=Lib.hid br
 replace gi:=Lib.hid gi
 clear aB cp
 generalize dU:(w.drewN nq).setCell ⟨f,3,none⟩ (.int .i64 ((W.bm:Int)+1))=w3 at*
 have t3:=gi.out.cell 3
 simp [ui] at t3
 replace dU:=Lib.hid dU
 go_wp2_with fail
 rw [dU.out]
 go_quiet ((go_at_call 165; exact Calls.quiet_of_same (hW.out _)))
 go_wp2_with fail
 go_ret
 refine ⟨K.je ?_,br.out.drewN _,?_,?_⟩
 ·apply Bool.eq_iff_iff.2
  simp
  omega
 ·exact gi.out.only ((ab.refl (fun _=>False) w3).drewN _) (by simp)
 ·exact aq.out.drewN _
theorem RZ (hM:ah w M) (hf:cZ w f W) (hk:0<M.hs.length) (hw:0<=W.worker/\W.worker<=9223372036854775807) (hh:Lo.aE M.hs 0=W.worker):
 Calls Tryz.prog 133 #[ptr f,ptr M.m] w fun e w'=>e=.returned (.bool true)/\ah w' {M with hs:=M.hs.set 0 (-1)}/\ab (Lo.aS M.lg M.lb) w w':=by
 have hT:=Lib.hid (fun nq=>Lo.vZ (hM.drewN nq).2.2.1 0 hk W.worker hw.1 hh)
 obtain ⟨c0,c1,c2,c3⟩:=hf.hd
 have d1:=hM.hd.2.1
 have HM:=Lib.hid hM
 have HF:=Lib.hid hf
 have lM:=hM.1.lt
 have lf:=hf.lt
 clear hM hf
 go_enter Tryz.func133,Tryz.ntmps133
 go_wp2_with fail
 go_region_held3 (fun w'=>w'.cell? ⟨M.m,1,none⟩=some (ptr M.lg)/\w'.cell? ⟨f,0,none⟩=some (.int .i64 W.worker)) (go_keep)
  (first
    | (go_at_call 166
       refine (hT.out 1).mono ?_
       rintro e w2 ⟨rfl,fu,ae⟩
       have bG:=((ab.refl (Lo.aS M.lg M.lb) w).drewN 1).trans ae
       have aB:=HM.out.mf fu bG
       have s1:=aB.hd.2.1
       have s2:=(pK HF.out (HF.out.aA HM.out) bG iq).cell 0
       simp [ui] at s2
       replace bG:=Lib.hid bG
       replace aB:=Lib.hid aB
       clear fu ae))
 all_goals
  go_wp2_with fail
  go_ret
  exact ⟨rfl,aB.out,bG.out⟩
/-! ### one who comes in-/
theorem vN (hM:ah w M) (hf:gu w f C) (hk:0<M.xs.length):
 Calls Tryz.prog 211 #[ptr f,ptr M.m] w fun e w'=>e=.returned (.bool true)/\ah w' M/\gu w' f {C with period:=Cl.nth M.xs 0}/\ab (·=f) w w':=by
 have hT:=Lib.hid (Cl.mM hM.2.1 0 hk)
 have d0:=hM.hd.1
 have s2:=hf.hd.2.2
 have z2:=hf.frozen 2
 have eZ:¬ao M f:=hf.aA hM
 generalize Cl.nth M.xs 0=z at*
 have hO:=(ab.refl (·=f) w).setCell (p:=⟨f,2,none⟩) (.inl rfl) (.int .u64 z)
 have br:=Lib.hid (hM.only hO (fun x hx e=>eZ (e▸hx)))
 have gi:Hid (gu _ f {C with period:=z}):=Lib.hid (hf.store 2 (.int .u64 z))
 replace hO:=Lib.hid hO
 clear hM hf
 go_enter Tryz.func211,Tryz.ntmps211
 go_wp2_with (go_at_call 90; refine hT.out.mono ?_; rintro e w' ⟨rfl,rfl⟩)
 go_ret
 exact ⟨rfl,br.out,gi.out,hO.out⟩
theorem Ij (hM:ah w M) (k:Nat) (hk:2+k<M.xs.length) (v:Int) (h0:0<=v) (h1:v<=18446744073709551615):
 Calls Tryz.prog 45 #[ptr M.g,.int .i64 (2+(k:Int)),.int .u64 v] w fun e w'=>e=.returned (.int .i64 0)/\ah w' {M with xs:=M.xs.set (2+k) v}/\ab (Cl.aS M.g M.A) w w':=by
 have:=Cl.vj hM.2.1 (2+k) hk v h0 h1
 rw [Int.natCast_add] at this
 exact this.mono fun e w' h=>⟨h.1,hM.cells h.2.1 h.2.2,h.2.2⟩
theorem vO (hM:ah w M) (hf:gu w f C) (hk:2+C.worker<M.xs.length) (hp:C.worker<=1000) (hv:0<=C.period/\C.period<=18446744073709551615):
 Calls Tryz.prog 212 #[ptr f,ptr M.m] w fun e w'=>e=.returned (.bool true)/\ah w' {M with xs:=M.xs.set (2+C.worker) C.period}/\ab (Cl.aS M.g M.A) w w':=by
 have hT:=Lib.hid (fun nq=>Ij (hM.drewN nq) C.worker hk C.period hv.1 hv.2)
 obtain ⟨c0,c1,c2⟩:=hf.hd
 have d0:=hM.hd.1
 have HM:=Lib.hid hM
 have HF:=Lib.hid hf
 have lM:=hM.1.lt
 have lf:=hf.lt
 clear hM hf
 go_enter Tryz.func212,Tryz.ntmps212
 go_wp2_with fail
 go_region_held3 (fun w'=>w'.cell? ⟨M.m,0,none⟩=some (ptr M.g)/\w'.cell? ⟨f,0,none⟩=some (.int .i64 C.worker)/\w'.cell? ⟨f,2,none⟩=some (.int .u64 C.period)) (go_keep)
  (first
    | (go_at_call 43
       refine (wb _ _ (by omega) (by omega)).mono ?_
       rintro e w2 ⟨rfl,rfl⟩)
    | (go_at_call 45
       refine (hT.out 1).mono ?_
       rintro e w2 ⟨rfl,aB,ae⟩
       have bG:=((ab.refl (Cl.aS M.g M.A) w).drewN 1).trans ae
       have s1:=aB.hd.1
       have cp:=pK HF.out (HF.out.aA HM.out) bG nG
       have s2:=cp.cell 0
       have s3:=cp.cell 2
       simp [Ii] at s2 s3
       replace bG:=Lib.hid bG
       replace aB:=Lib.hid aB
       clear ae cp))
 all_goals
  go_wp2_with fail
  go_ret
  exact ⟨rfl,aB.out,bG.out⟩
/-! ### one who si out-/
theorem R0 {k n:Nat} (hM:ah w M) (hf:jK w f k n) (hk:2+k<M.xs.length) (hp:k<=1000):
 Calls Tryz.prog 238 #[ptr f,ptr M.m] w fun e w'=>e=.returned (.bool true)/\ah w' {M with xs:=M.xs.set (2+k) 0}/\ab (Cl.aS M.g M.A) w w':=by
 have hT:=Lib.hid (fun nq=>Ij (hM.drewN nq) k hk 0 (by omega) (by omega))
 have c0:=hf.cell 0
 have d0:=hM.hd.1
 have HM:=Lib.hid hM
 have HF:=Lib.hid hf
 have lM:=hM.1.lt
 have lf:=hf.lt
 simp at c0
 clear hM hf
 go_enter Tryz.func238,Tryz.ntmps238
 go_wp2_with fail
 go_region_held3 (fun w'=>w'.cell? ⟨M.m,0,none⟩=some (ptr M.g)/\w'.cell? ⟨f,0,none⟩=some (.int .i64 k)) (go_keep)
  (first
    | (go_at_call 43
       refine (wb _ _ (by omega) (by omega)).mono ?_
       rintro e w2 ⟨rfl,rfl⟩)
    | (go_at_call 45
       refine (hT.out 1).mono ?_
       rintro e w2 ⟨rfl,aB,ae⟩
       have bG:=((ab.refl (Cl.aS M.g M.A) w).drewN 1).trans ae
       have s1:=aB.hd.1
       have s2:=(pK HF.out (HF.out.aA HM.out) bG nG).cell 0
       simp at s2
       replace bG:=Lib.hid bG
       replace aB:=Lib.hid aB
       clear ae))
 all_goals
  go_wp2_with fail
  go_ret
  exact ⟨rfl,aB.out,bG.out⟩
end
end Go.Proofs.YtpanebgakndddaaGreat.Qs
