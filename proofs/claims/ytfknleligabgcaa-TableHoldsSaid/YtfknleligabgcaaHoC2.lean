/- TableHolds: a round in which the hold has to wait. -/
import Derived.Test.YtfknleligabgcaaHoK
namespace Go.Proofs.Ytfknleligabgcaa.HoLaw
open Go Go.RowKit Hp K Fl Rw Hm Ar Mm Me LK Ta Ob Ct LawSix LawEight
set_option maxRecDepth 100000

set_option maxHeartbeats 4000000 in
theorem c_wait {Q : Exit → Act → World → Prop} {W0 w : World} {a : Act} {s : Int} {wb sb caps cur : Nat} {A : Option Addr} {len cap k b o x : Nat} {M : Mo} {H : Ho}
    (hp : Pre W0 w a s wb sb caps cur A len cap k b o x M H) (hx1 : 120 ≤ x) (e2 : H.nx = 2) (hrd : hready M H = false) (hvn : 0 ≤ Lo.hol M.hs (lkn s (tab M.ds H.num)))
    (hQ : ∀ a' w', RdP W0 s H.f M.m wb sb caps A len cap k a' w' → Q .normal a' w') : Code.wp Try.prog blk3 Q a w := by
  obtain ⟨hF, hS, hL, rfl, c0, hx, hlt, hl⟩ := hp
  obtain ⟨f, rfl, hf⟩ := open_act a hF.defers hF.size
  have h0 := hf 0 _ hF.s0
  have h5 := hf 5 _ hF.s5
  have h6 := hf 6 _ hF.s6
  have h7 := hf 7 _ hF.s7
  have h12 := hf 12 _ hF.s12
  have h13 := hf 13 _ hF.s13
  have h65 := hf 65 _ hF.s65
  have h66 := hf 66 _ hF.s66
  have h67 := hf 67 _ hF.s67
  clear hF hf
  unfold FR
  rw [h0, h5, h6, h7, h12, h13, h65, h66, h67]
  clear h0 h5 h6 h7 h12 h13 h65 h66 h67
  conv => arg 2; whnf
  obtain ⟨r0, r1, z0, z1⟩ := hS.rw
  have rs := hS.rs hL.num
  obtain ⟨kl, hkl⟩ : ∃ kl, kl = lkn s (tab M.ds H.num) := ⟨_, rfl⟩
  have hk4 := hL.lb (tab M.ds H.num)
  have hLk := fun w => lock_lk (d := tab M.ds H.num) hL.sb hL.okh.dn w
  have hzs : (tab M.ds H.num).1 = szs.getD H.num 0 := by rw [hL.ds]; exact szs_dss _
  have hzb := hL.okh.dn
  rw [← hkl, hzs] at hLk
  rw [← hkl] at hk4
  rw [hzs] at hzb
  have hnum := hL.num
  have hnx := hL.nx
  have hcb := hL.cb
  obtain ⟨d0, d1, _⟩ := hS.mem.hd
  have lts := hS.lts
  replace hLk := Lib.hid hLk
  replace hkl := Lib.hid hkl
  replace hzs := Lib.hid hzs
  have HS := Lib.hid hS
  have HL := Lib.hid hL
  replace hQ := Lib.hid hQ
  clear hS hL
  generalize hzz : szs.getD H.num 0 = z at *
  replace hzz := Lib.hid hzz
  rw [← hkl.out] at hvn
  rw [e2] at r0
  replace r0 : w.cell? ⟨wb, 0, none⟩ = some (.int .i64 2) := r0
  have hnx := Lib.hid e2
  clear e2
  have hHo := Lo.holder_in HS.out.mem.2.2.1 kl (by rw [HL.out.li.len]; omega)
  have hvb := HL.out.li.bd kl
  generalize hv : Lo.hol M.hs kl = v at *
  replace hv := Lib.hid hv
  have hRd : ∀ w1, T8 W0 w1 wb sb M H H.nx H.num → Calls Try.prog 13 #[ptr H.f, ptr M.m] w1 fun e w' => e = .returned (.bool false) ∧ T8 W0 w' wb sb M H H.nx H.num := fun w1 h => (hold_ready h.mem h.hold HL.out.okh).mono fun e w' q => ⟨by rw [q.1, hrd], h.down q.2⟩
  replace hHo := Lib.hid hHo
  replace hRd := Lib.hid hRd
  replace hrd := Lib.hid hrd
  go_wp2_with (first
    | (go_at_call 8; refine (hLk.out _).mono ?_; rintro e w' ⟨rfl, rfl⟩)
    | (go_at_call 12; refine hHo.out.mono ?_; rintro e w' ⟨rfl, hw⟩; obtain rfl : w = w' := hw.symm))
  go_region_held3 (fun w' => w'.cell? ⟨wb, 0, none⟩ = some (.int .i64 2)) (go_keep)
    (first
      | (go_at_call 13
         refine (hRd.out _ (HS.out.drewN 1)).mono ?_
         rintro e w2 ⟨rfl, hS2⟩
         obtain ⟨p0, p1, y0, y1⟩ := hS2.rw
         rw [hnx.out] at p0
         replace p0 : w2.cell? ⟨wb, 0, none⟩ = some (.int .i64 2) := p0
         have ls2 := hS2.lts
         have hRd2 := Lib.hid (hRd.out _ hS2)
         replace hS2 := Lib.hid hS2))
  clear r0 r1 rs c0 d0 d1 lts hHo z0 z1
  go_wp2_with fail
  refine hRd2.out.mono ?_
  rintro e w3 ⟨rfl, hS3⟩
  replace hS3 := Lib.hid hS3
  clear p0 p1 y0 y1 ls2 hS2 hRd hRd2
  go_wp2_with fail
  exact hQ.out _ _ ⟨cur, ⟨rfl, rfl, rfl, rfl, rfl, rfl, rfl, rfl, rfl, rfl, rfl⟩, M, H, rfl, rfl, hS3.out, HL.out⟩
end Go.Proofs.Ytfknleligabgcaa.HoLaw
