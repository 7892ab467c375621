/- TableHolds: a round in which the lock is freed. -/
import Derived.Test.YtfknleligabgcaaHoK
import Derived.Test.YtfknleligabgcaaRegN
namespace Go.Proofs.Ytfknleligabgcaa.HoLaw
open Go Go.RowKit Hp K Fl Rw Hm Ar Mm Me LK Ta Ob Ct LawSix LawEight Rn
set_option maxRecDepth 100000

set_option maxHeartbeats 4000000 in
theorem c_four {Q : Exit → Act → World → Prop} {W0 w : World} {a : Act} {s : Int} {wb sb caps cur : Nat} {A : Option Addr} {len cap k b o x : Nat} {M : Mo} {H : Ho}
    (hp : Pre W0 w a s wb sb caps cur A len cap k b o x M H) (hx1 : 120 ≤ x) (e1 : H.nx = 4)
    (hQ : ∀ a' w', RdP W0 s H.f M.m wb sb caps A len cap k a' w' → Q .normal a' w') : Code.wp Try.prog blk3 Q a w := by
  obtain ⟨hF, hS, hL, rfl, c0, hx, hlt, hl⟩ := hp
  obtain ⟨f, rfl, hf⟩ := open_act a hF.defers hF.size
  have h0 := hf 0 _ hF.s0
  have h5 := hf 5 _ hF.s5
  have h6 := hf 6 _ hF.s6
  have h7 := hf 7 _ hF.s7
  have h12 := hf 12 _ hF.s12
  have h13 := hf 13 _ hF.s13
  have h65 := hf 65 _ hF.s65
  have h66 := hf 66 _ hF.s66
  have h67 := hf 67 _ hF.s67
  clear hF hf
  unfold FR
  rw [h0, h5, h6, h7, h12, h13, h65, h66, h67]
  clear h0 h5 h6 h7 h12 h13 h65 h66 h67
  conv => arg 2; whnf
  obtain ⟨r0, r1, z0, z1⟩ := hS.rw
  have rs := hS.rs hL.num
  obtain ⟨kl, hkl⟩ : ∃ kl, kl = lkn s (tab M.ds H.num) := ⟨_, rfl⟩
  have hk4 := hL.lb (tab M.ds H.num)
  have hLk := fun w => lock_lk (d := tab M.ds H.num) hL.sb hL.okh.dn w
  have hzs : (tab M.ds H.num).1 = szs.getD H.num 0 := by rw [hL.ds]; exact szs_dss _
  have hzb := hL.okh.dn
  rw [← hkl, hzs] at hLk
  rw [← hkl] at hk4
  rw [hzs] at hzb
  have hnum := hL.num
  have hnx := hL.nx
  have hcb := hL.cb
  obtain ⟨d0, d1, _⟩ := hS.mem.hd
  have lts := hS.lts
  replace hLk := Lib.hid hLk
  replace hkl := Lib.hid hkl
  replace hzs := Lib.hid hzs
  have HS := Lib.hid hS
  have HL := Lib.hid hL
  replace hQ := Lib.hid hQ
  clear hS hL
  generalize hzz : szs.getD H.num 0 = z at *
  replace hzz := Lib.hid hzz
  have hrd : hready M H = true := by unfold hready; rw [if_neg (by omega)]
  rw [e1] at r0
  replace r0 : w.cell? ⟨wb, 0, none⟩ = some (.int .i64 4) := r0
  have hnx := Lib.hid e1
  clear e1
  have hHo := Lo.holder_in HS.out.mem.2.2.1 kl (by rw [HL.out.li.len]; omega)
  have hvb := HL.out.li.bd kl
  generalize hv : Lo.hol M.hs kl = v at *
  replace hv := Lib.hid hv
  have hRd : ∀ w1, T8 W0 w1 wb sb M H H.nx H.num → Calls Try.prog 13 #[ptr H.f, ptr M.m] w1 fun e w' => e = .returned (.bool true) ∧ T8 W0 w' wb sb M H H.nx H.num := fun w1 h => (hold_ready h.mem h.hold HL.out.okh).mono fun e w' q => ⟨by rw [q.1, hrd], h.down q.2⟩
  replace hHo := Lib.hid hHo
  replace hRd := Lib.hid hRd
  replace hrd := Lib.hid hrd
  go_wp2_with (first
    | (go_at_call 8; refine (hLk.out _).mono ?_; rintro e w' ⟨rfl, rfl⟩)
    | (go_at_call 12; refine hHo.out.mono ?_; rintro e w' ⟨rfl, hw⟩; obtain rfl : w = w' := hw.symm))
  refine wp_region_noPanic ?_
  refine wp_region_N (fun w' => w'.cell? ⟨wb, 0, none⟩ = some (.int .i64 4)) (fun _ => false) (by kernel_rfl) ?_
  have r2 : w.drew.cell? ⟨wb, 0, none⟩ = some (.int .i64 4) := r0
  have hRd1 : Hid (Calls Try.prog 13 #[ptr H.f, ptr M.m] w.drew fun e w' => e = .returned (.bool true) ∧ T8 W0 w' wb sb M H H.nx H.num) := Lib.hid (hRd.out _ (HS.out.drewN 1))
  refine wpN_take0 (i := 0) (oi := ⟨some 85, _, _, _, _, _⟩) (v := ptr H.f) (by rfl) (by kernel_rfl) (by kernel_rfl) (by kernel_rfl) rfl (fun _ _ _ h => h.elim) (Or.inl ⟨by rfl, by intro w' _; go_simp⟩) r2 ?_
  try simp only [Act.put, List.setIfInBounds_toArray, List.set_cons_zero, List.set_cons_succ]
  refine wpN_take0 (i := 1) (oi := ⟨some 86, _, _, _, _, _⟩) (v := ptr M.m) (by rfl) (by kernel_rfl) (by kernel_rfl) (by kernel_rfl) rfl (fun _ _ _ h => h.elim) (Or.inl ⟨by rfl, by intro w' _; go_simp⟩) r2 ?_
  try simp only [Act.put, List.setIfInBounds_toArray, List.set_cons_zero, List.set_cons_succ]
  refine wpN_take0 (i := 3) (oi := ⟨some 88, _, _, _, _, _⟩) (v := .pointer (some ⟨wb, 0, none⟩)) (by rfl) (by kernel_rfl) (by kernel_rfl) (by kernel_rfl) rfl (fun _ _ _ h => h.elim) (Or.inl ⟨by rfl, by intro w' _; go_simp⟩) r2 ?_
  try simp only [Act.put, List.setIfInBounds_toArray, List.set_cons_zero, List.set_cons_succ]
  refine wpN_take (i := 4) (oi := ⟨some 89, _, _, _, _, _⟩) (v := .int .i64 4) (by rfl) (by kernel_rfl) (by kernel_rfl) (by kernel_rfl) rfl (by intro j hj; simp at hj) (fun _ _ _ h => h.elim) (Or.inl ⟨by rfl, by intro w' hSw; go_simp⟩) r2 ?_
  try simp only [Act.put, List.setIfInBounds_toArray, List.set_cons_zero, List.set_cons_succ]
  refine wpN_take0 (i := 5) (oi := ⟨some 90, _, _, _, _, _⟩) (v := .bool true) (by rfl) (by kernel_rfl) (by kernel_rfl) (by kernel_rfl) rfl (fun _ _ _ h => h.elim) (Or.inl ⟨by rfl, by intro w' _; go_simp⟩) r2 ?_
  try simp only [Act.put, List.setIfInBounds_toArray, List.set_cons_zero, List.set_cons_succ]
  refine wpN_one (i := 2) (o := ⟨some 87, _, _, _, _, _⟩) (by kernel_rfl) (by rfl) rfl ?_
  intro K hK
  go_simp
  refine hRd1.out.mono ?_
  rintro e w2 ⟨rfl, hS2⟩
  obtain ⟨p0, p1, y0, y1⟩ := hS2.rw
  rw [hnx.out] at p0
  replace p0 : w2.cell? ⟨wb, 0, none⟩ = some (.int .i64 4) := p0
  refine hK _ _ p0 ?_
  clear hK
  try simp only [Act.put, List.setIfInBounds_toArray, List.set_cons_zero, List.set_cons_succ]
  refine wpN_take0 (i := 6) (oi := ⟨some 91, _, _, _, _, _⟩) (v := .bool true) (by rfl) (by kernel_rfl) (by kernel_rfl) (by kernel_rfl) rfl (fun _ _ _ h => h.elim) (Or.inl ⟨by rfl, by intro w' _; go_simp⟩) p0 ?_
  try simp only [Act.put, List.setIfInBounds_toArray, List.set_cons_zero, List.set_cons_succ]
  refine wpN_take0 (i := 7) (oi := ⟨some 92, _, _, _, _, _⟩) (v := undef) (by rfl) (by kernel_rfl) (by kernel_rfl) (by kernel_rfl) rfl (fun _ _ _ h => h.elim) (Or.inr ⟨by rfl, rfl⟩) p0 ?_
  try simp only [Act.put, List.setIfInBounds_toArray, List.set_cons_zero, List.set_cons_succ]
  refine wpN_take0 (i := 8) (oi := ⟨some 93, _, _, _, _, _⟩) (v := .bool true) (by rfl) (by kernel_rfl) (by kernel_rfl) (by kernel_rfl) rfl (fun _ _ _ h => h.elim) (Or.inl ⟨by rfl, by intro w' _; go_simp⟩) p0 ?_
  try simp only [Act.put, List.setIfInBounds_toArray, List.set_cons_zero, List.set_cons_succ]
  refine wpN_take0 (i := 9) (oi := ⟨some 94, _, _, _, _, _⟩) (v := .bool false) (by rfl) (by kernel_rfl) (by kernel_rfl) (by kernel_rfl) rfl (fun _ _ _ h => h.elim) (Or.inl ⟨by rfl, by intro w' _; go_simp⟩) p0 ?_
  try simp only [Act.put, List.setIfInBounds_toArray, List.set_cons_zero, List.set_cons_succ]
  refine ⟨by kernel_rfl, ?_⟩
  refine NoPanic.normal ?_
  have ls2 := hS2.lts
  have hRd2 := Lib.hid (hRd.out _ hS2)
  replace hS2 := Lib.hid hS2
  clear hRd1 r2
  clear r0 r1 rs c0 d0 d1 lts hHo z0 z1
  go_wp2_with fail
  refine hRd2.out.mono ?_
  rintro e w3 ⟨rfl, hS3⟩
  have hStp := hold_step hS3.mem hS3.hold HL.out.okh HL.out.own (by rw [hnx.out]; omega) hrd.out
  have hFr := ref_step 4 H.num (decide (v < 0)) cur
  rw [show rst 4 H.num (decide (v < 0)) cur = (1, H.num) from rfl] at hFr
  rw [show hstep M H = ({ M with hs := M.hs.set H.lock (-1) }, { H with nx := 1 }) by unfold hstep; rw [if_neg (by rw [hnx.out]; decide), if_neg (by rw [hnx.out]; decide), if_neg (by rw [hnx.out]; decide), if_pos hnx.out], show hdone M H = false by unfold hdone; rw [hnx.out]; simp] at hStp
  clear p0 p1 y0 y1
  obtain ⟨p0, p1, y0, y1⟩ := hS3.rw
  rw [hnx.out] at p0
  replace p0 : w3.cell? ⟨wb, 0, none⟩ = some (.int .i64 4) := p0
  have ls3 := hS3.lts
  replace hStp := Lib.hid hStp
  replace hFr := Lib.hid hFr
  clear hRd hRd2 hS2 ls2
  replace hS3 := Lib.hid hS3
  go_wp2_with fail
  refine hStp.out.mono ?_
  rintro e w4 ⟨rfl, hM4, hH4, hO4⟩
  have hS4 := hS3.out.stepped hM4 hH4 hO4 rfl rfl
  clear hM4 hH4 hO4 hStp p0 p1 y0 y1 ls3 hS3
  obtain ⟨p0, p1, y0, y1⟩ := hS4.rw
  rw [hnx.out] at p0
  replace p0 : w4.cell? ⟨wb, 0, none⟩ = some (.int .i64 4) := p0
  have ls4 := hS4.lts
  replace hS4 := Lib.hid hS4
  go_wp2_with fail
  refine (hFr.out _ (by omega) hnum hcb).mono ?_
  rintro e w5 ⟨rfl, hb5⟩
  have hS5 := hS4.out.down hb5
  clear p0 p1 y0 y1 ls4 hS4 hFr hb5
  obtain ⟨p0, p1, y0, y1⟩ := hS5.rw
  have hS6 : T8 W0 ((w5.setCell ⟨wb, 0, none⟩ (.int .i64 1)).setCell ⟨wb, 1, none⟩ (.int .i64 H.num)) wb sb { M with hs := M.hs.set H.lock (-1) } { H with nx := 1 } 1 H.num := hS5.refd 1 H.num
  have ls5 := hS5.lts
  clear hS5
  obtain ⟨q0, q1, x0, x1⟩ := hS6.rw
  have rs6 := hS6.rs (i := H.num) (by omega)
  have ls6 := hS6.lts
  have dd6 := hS6.mem.hd.2.1
  have hL2 : Hid (LH { M with hs := M.hs.set H.lock (-1) } { H with nx := 1 } s cur) := Lib.hid (HL.out.s4 hnx.out)
  have hHo2 : ({ H with nx := 1 } : Ho).holds = false := hL2.out.holds
  have hHe := held_none hS6 hL2.out.li
  rw [hzz.out] at rs6
  replace hHe := Lib.hid hHe
  replace hS6 := Lib.hid hS6
  clear hHo2
  go_wp2_with (go_at_call 8; refine (hLk.out _).mono ?_; rintro e w' ⟨rfl, rfl⟩)
  refine hHe.out.mono ?_
  rintro e w7 ⟨A1, cap1, rfl, hS7⟩
  clear q0 q1 x0 x1 ls6 dd6 hS6 hHe rs6 p0 p1 y0 y1 ls5
  obtain ⟨q0, q1, x0, x1⟩ := hS7.rw
  have ls7 := hS7.lts
  replace q0 : w7.cell? ⟨wb, 0, none⟩ = some (.int .i64 1) := q0
  have hLo : Calls Try.prog 17 #[ptr H.f] w7 fun e w' => e = .returned (.int .i64 (-1)) ∧ w7 = w' := lock_none (H := { H with nx := 1 }) hS7 hL2.out.holds
  have hDe : Calls Try.prog 18 #[ptr H.f] w7 fun e w' => e = .returned (.agg #[.int .i64 0, .int .i64 0]) ∧ T8 W0 w' wb sb { M with hs := M.hs.set H.lock (-1) } { H with nx := 1 } 1 H.num := desc_none (H := { H with nx := 1 }) hS7 hL2.out.holds
  have hDr : ∀ w1, T8 W0 w1 wb sb { M with hs := M.hs.set H.lock (-1) } { H with nx := 1 } 1 H.num → Calls Try.prog 20 #[ptr H.f, ptr M.m] w1 fun e w' => e = .returned (.bool false) ∧ w1 = w' := fun w1 h => drop_none (H := { H with nx := 1 }) h hL2.out.holds _
  replace hLo := Lib.hid hLo
  replace hDe := Lib.hid hDe
  replace hDr := Lib.hid hDr
  replace hS7 := Lib.hid hS7
  go_wp2_with (go_at_call 17; refine hLo.out.mono ?_; rintro e w' ⟨rfl, rfl⟩)
  refine hDe.out.mono ?_
  rintro e w8 ⟨rfl, hS8⟩
  have hDr8 := Lib.hid (hDr.out w8 hS8)
  replace hS8 := Lib.hid hS8
  clear q0 q1 x0 x1 ls7 hDr hDe hLo hS7
  go_wp2_with (go_at_call 20; refine hDr8.out.mono ?_; rintro e w' ⟨rfl, rfl⟩)
  exact hQ.out _ _ ⟨cur, ⟨rfl, rfl, rfl, rfl, rfl, rfl, rfl, rfl, rfl, rfl, rfl⟩, { M with hs := M.hs.set H.lock (-1) }, { H with nx := 1 }, rfl, rfl, hS8.out, hL2.out⟩
end Go.Proofs.Ytfknleligabgcaa.HoLaw
