/- Walks over layer 8 (table): a hold's four steps, and what comes next. -/
import Derived.Test.YtpobbnllcoabhaaGreatDoorTabA
set_option linter.unusedVariables false
set_option linter.unusedSimpArgs false
namespace Go.Proofs.YtpobbnllcoabhaaGreatDoor.Ta
open Go Go.RowKit Hp K Fl Rw Hm Ar Mm Me
set_option maxRecDepth 100000
theorem desc_n (a b:Int) (w:World):(Instr.field 76 (.agg #[.int .i64 a,.int .i64 b]) 0).run Tryz.prog w=.ok (.int .i64 a) w:=by kernel_rfl
section
variable {w w':World} {M:Mo} {H:Ho}
theorem foot_cells:∀ x,Cl.foot M.g M.A x→mfoot M x:=fun _ h=>.inr (.inl h)
theorem foot_locks:∀ x,Lo.foot M.lg M.lb x→mfoot M x:=fun _ h=>.inr (.inr (.inl h))
theorem HoAt.keep {S:Nat→Prop} (h:HoAt w H) (hM:MemAt w M) (ho:Only S w w') (hS:∀ x,S x→mfoot M x):HoAt w' H:=h.only ho (fun hs=>h.far hM (hS _ hs))
theorem writer_lk {s:Int} {d:Nat×Nat} (hs:0≤s∧s<4294967296) (hd:d.1≤65536) (w:World):Calls Tryz.prog 173 #[.int .u32 s,.int .i64 d.1] w fun e w'=>e=.returned (.int .i64 (lkn s d))∧w=w':=by
 have h:=writer_any s d.1 w hs.1 hs.2 (by omega) (by omega)
 rw [lkn_eq d hs.1] at h
 exact h
def freeB (M:Mo) (H:Ho):Bool:=decide (Lo.hol M.hs (lkn H.sum (tab M.ds H.num))= -1)
set_option maxHeartbeats 1000000 in
theorem mayTake_any (hM:MemAt w M) (hH:HoAt w H) (ok:Okh M H):
 Calls Tryz.prog 152 #[ptr H.f,ptr M.m] w fun e w'=>e=.returned (.bool (freeB M H))∧Below w.heap.size w w':=by
 obtain ⟨c0,c1,c2,c3,c4,c5,c6,c7,c8⟩:=hH.hd
 have d1:=hM.hd.2.1
 have lM:=hM.1.lt
 have lf:=hH.lt
 have hL:=Lib.hid (fun nq=>(loaded_any (hM.drewN nq) (hH.drewN nq) ok.num).mono fun e w2 h=>And.intro h.1 (show Below w.heap.size w w2 from (show Below w.heap.size w (w.drewN nq) from ⟨rfl,rfl,rfl,Nat.le_refl _,fun _ _=>rfl⟩).trans h.2))
 have hW:=Lib.hid (fun w=>writer_lk (d:=tab M.ds H.num) ok.sum ok.dn w)
 have hO:=Lib.hid (fun w' (hb:Below w.heap.size w w')=>Lo.holder_in (hM.below hb).2.2.1 _ ok.lb)
 have hk:=lkn_bd (tab M.ds H.num) ok.sum.1
 have hb:=Lo.hol_bd hM.2.2.1.2.2.1 (lkn H.sum (tab M.ds H.num))
 have hw:=ok.wk.1
 have hw':decide (0≤H.worker)=true:=by simpa using hw
 have hFB:freeB M H=decide (Lo.hol M.hs (lkn H.sum (tab M.ds H.num))= -1):=rfl
 rw [hFB]
 unfold dv at hL
 clear hFB hM hH ok c2 c3 c4 c5 c6 c7 c8
 generalize Lo.hol M.hs (lkn H.sum (tab M.ds H.num))=z at*
 generalize lkn H.sum (tab M.ds H.num)=k at*
 generalize tab M.ds H.num=d at*
 generalize H.f=f at*
 have bc:∀ w',Below w.heap.size w w'→w'.cell? ⟨M.m,1,none⟩=some (ptr M.lg)∧w'.cell? ⟨f,0,none⟩=some (.int .i64 H.worker)∧w'.cell? ⟨f,1,none⟩=some (.int .u32 H.sum):=fun w' hb=>by
  have h:=bcell hb
  exact ⟨(h.1 _ 1 lM).trans d1,(h.1 _ 0 lf).trans c0,(h.1 _ 1 lf).trans c1⟩
 replace bc:=Lib.hid bc
 have dn:=desc_n
 go_enter Tryz.func152,Tryz.ntmps152
 go_wp2_with fail
 go_region_held3 (fun w'=>w'.cell? ⟨M.m,1,none⟩=some (ptr M.lg)∧w'.cell? ⟨f,0,none⟩=some (.int .i64 H.worker)∧w'.cell? ⟨f,1,none⟩=some (.int .u32 H.sum)) (go_keep)
  (first
    | (go_at_call 174
       refine (hL.out 1).mono ?_
       rintro e w2 ⟨rfl,hb2⟩
       obtain ⟨s1,s2,s3⟩:=bc.out w2 hb2
       have hO2:=Lib.hid (hO.out w2 hb2)
       replace hb2:=Lib.hid hb2)
    | (go_at_call 173
       refine (hW.out _).mono ?_
       rintro e w3 ⟨rfl,rfl⟩)
    | (go_at_call 70
       refine hO2.out.mono ?_
       rintro e w4 ⟨rfl,hw4⟩
       obtain rfl:w2=w4:=hw4.symm))
 all_goals
  go_wp2_with fail
  go_ret
  exact ⟨K.ret_bool (by simp [BEq.beq]),hb2.out⟩
theorem HoAt.goes (h:Blk w H.f 181 (hoc H)) (n:Nat):Blk ((w.setCell ⟨H.f,2,none⟩ (rdv n H.f)).setCell ⟨H.f,3,none⟩ (nxv n H.f)) H.f 181 (hoc {H with nx:=n}):=(h.store 2 _).store 3 _
theorem HoAt.frz (h:HoAt w H):w.frozen? ⟨H.f,2,none⟩=false∧w.frozen? ⟨H.f,3,none⟩=false∧w.frozen? ⟨H.f,4,none⟩=false∧w.frozen? ⟨H.f,5,none⟩=false∧w.frozen? ⟨H.f,6,none⟩=false∧w.frozen? ⟨H.f,7,none⟩=false∧w.frozen? ⟨H.f,8,none⟩=false:=
 ⟨h.frozen 2,h.frozen 3,h.frozen 4,h.frozen 5,h.frozen 6,h.frozen 7,h.frozen 8⟩
theorem goOn_goes (h:HoAt w H) {F G n:Nat} {a b:Array Value} (e1:rdv n H.f=.func (.func F) a #[]) (e2:nxv n H.f=.func (.func G) b #[]):
 Calls Tryz.prog 118 #[ptr H.f,.func (.func F) a #[],.func (.func G) b #[]] w fun e w'=>e=.returned (.tuple #[])∧HoAt w' {H with nx:=n}∧Only (·=H.f) w w':=by
 refine (goOn_any h.hd.2.2.1 h.hd.2.2.2.1 h.frz.1 h.frz.2.1).mono ?_
 rintro e w' ⟨rfl,rfl⟩
 refine ⟨rfl,?_,((Only.refl (·=H.f) w).setCell (.inl rfl) _).setCell (.inl rfl) _⟩
 have:=HoAt.goes h n
 rw [e1,e2] at this
 exact this
theorem load_any (hM:MemAt w M) (hH:HoAt w H) (hx:1<M.xs.length):
 Calls Tryz.prog 120 #[ptr H.f,ptr M.m] w fun e w'=>e=.returned (.bool false)∧HoAt w' {H with nx:=2,num:=(Cl.nth M.xs 1).toNat}∧Only (·=H.f) w w':=by
 have hL:=Lib.hid (Cl.load_in hM.2.1 1 hx)
 have c4:=hH.hd.2.2.2.2.1
 have z4:=hH.frz.2.2.1
 have d0:=hM.hd.1
 have hv:=Cl.getD_bd hM.2.1.2.2.1 1
 obtain ⟨z,hz⟩:=Int.eq_ofNat_of_zero_le hv.1
 rw [hz] at hL ⊢
 rw [Int.toNat_natCast]
 have HH:=Lib.hid hH
 clear hM hH hv hz
 go_enter Tryz.func120,Tryz.ntmps120
 go_wp2_with (go_at_call 54; refine hL.out.mono ?_; rintro e w' ⟨rfl,hw⟩; obtain rfl:w=w':=hw.symm)
 have hS:HoAt (w.setCell ⟨H.f,4,none⟩ (.int .u64 z)) {H with num:=z}:=Blk.store HH.out 4 _
 have hS2:=Lib.hid (((Only.refl (·=H.f) w).setCell (p:=⟨H.f,4,none⟩) (.inl rfl) (.int .u64 z)))
 refine (goOn_goes hS (n:=2) rfl rfl).mono ?_
 rintro e w2 ⟨rfl,hB2,hO2⟩
 replace hB2:=Lib.hid hB2
 replace hO2:=Lib.hid hO2
 clear hS
 go_wp2_with fail
 go_ret
 exact ⟨rfl,hB2.out,hS2.out.trans hO2.out⟩
end
end Go.Proofs.YtpobbnllcoabhaaGreatDoor.Ta
