/- TableHolds: rounds in which others do something. -/
import Derived.Test.YtfknleligabgcaaHoK
namespace Go.Proofs.Ytfknleligabgcaa.HoLaw
open Go Go.RowKit Hp K Fl Rw Hm Ar Mm Me LK Ta Ob Ct LawSix LawEight
set_option maxRecDepth 100000

set_option maxHeartbeats 4000000 in
theorem c_cur {Q : Exit → Act → World → Prop} {W0 w : World} {a : Act} {s : Int} {wb sb caps cur : Nat} {A : Option Addr} {len cap k b o x : Nat} {M : Mo} {H : Ho}
    (hp : Pre W0 w a s wb sb caps cur A len cap k b o x M H) (hx1 : x < 40)
    (hQ : ∀ a' w', RdP W0 s H.f M.m wb sb caps A len cap k a' w' → Q .normal a' w') : Code.wp Try.prog blk3 Q a w := by
  obtain ⟨hF, hS, hL, rfl, c0, hx, hlt, hl⟩ := hp
  obtain ⟨f, rfl, hf⟩ := open_act a hF.defers hF.size
  have h0 := hf 0 _ hF.s0
  have h5 := hf 5 _ hF.s5
  have h6 := hf 6 _ hF.s6
  have h7 := hf 7 _ hF.s7
  have h12 := hf 12 _ hF.s12
  have h13 := hf 13 _ hF.s13
  have h65 := hf 65 _ hF.s65
  have h66 := hf 66 _ hF.s66
  have h67 := hf 67 _ hF.s67
  clear hF hf
  unfold FR
  rw [h0, h5, h6, h7, h12, h13, h65, h66, h67]
  clear h0 h5 h6 h7 h12 h13 h65 h66 h67
  conv => arg 2; whnf
  obtain ⟨r0, r1, z0, z1⟩ := hS.rw
  have rs := hS.rs hL.num
  obtain ⟨kl, hkl⟩ : ∃ kl, kl = lkn s (tab M.ds H.num) := ⟨_, rfl⟩
  have hk4 := hL.lb (tab M.ds H.num)
  have hLk := fun w => lock_lk (d := tab M.ds H.num) hL.sb hL.okh.dn w
  have hzs : (tab M.ds H.num).1 = szs.getD H.num 0 := by rw [hL.ds]; exact szs_dss _
  have hzb := hL.okh.dn
  rw [← hkl, hzs] at hLk
  rw [← hkl] at hk4
  rw [hzs] at hzb
  have hnum := hL.num
  have hnx := hL.nx
  have hcb := hL.cb
  obtain ⟨d0, d1, _⟩ := hS.mem.hd
  have lts := hS.lts
  replace hLk := Lib.hid hLk
  replace hkl := Lib.hid hkl
  replace hzs := Lib.hid hzs
  have HS := Lib.hid hS
  have HL := Lib.hid hL
  replace hQ := Lib.hid hQ
  clear hS hL
  generalize hzz : szs.getD H.num 0 = z at *
  replace hzz := Lib.hid hzz
  obtain ⟨cc, hcc⟩ : ∃ cc : Nat, cc = x % 5 := ⟨_, rfl⟩
  have hc5 : cc < 5 := by omega
  have m1 : (x : Int) % 5 = (cc : Int) := by omega
  have hSt := Lib.hid (Cl.store_in HS.out.mem.2.1 1 (by rw [HL.out.xl]; omega) (cc : Int) (by omega) (by omega))
  replace hcc := Lib.hid hcc
  go_wp2_with (go_at_call 8; refine (hLk.out _).mono ?_; rintro e w' ⟨rfl, rfl⟩)
  refine hSt.out.mono ?_
  rintro e w2 ⟨rfl, hC2, hO2⟩
  have hS2 := Lib.hid (HS.out.cells hC2 hO2)
  clear hC2 hO2 r0 r1 rs c0 d0 d1
  go_wp2_with fail
  exact hQ.out _ _ ⟨cc, ⟨rfl, rfl, rfl, rfl, rfl, rfl, rfl, rfl, rfl, rfl, rfl⟩, { M with xs := M.xs.set 1 cc }, H, rfl, rfl, hS2.out, HL.out.counts hc5⟩
set_option maxHeartbeats 4000000 in
theorem c_try {Q : Exit → Act → World → Prop} {W0 w : World} {a : Act} {s : Int} {wb sb caps cur : Nat} {A : Option Addr} {len cap k b o x : Nat} {M : Mo} {H : Ho}
    (hp : Pre W0 w a s wb sb caps cur A len cap k b o x M H) (hx1 : 40 ≤ x) (hx2 : x < 80)
    (hQ : ∀ a' w', RdP W0 s H.f M.m wb sb caps A len cap k a' w' → Q .normal a' w') : Code.wp Try.prog blk3 Q a w := by
  obtain ⟨hF, hS, hL, rfl, c0, hx, hlt, hl⟩ := hp
  obtain ⟨f, rfl, hf⟩ := open_act a hF.defers hF.size
  have h0 := hf 0 _ hF.s0
  have h5 := hf 5 _ hF.s5
  have h6 := hf 6 _ hF.s6
  have h7 := hf 7 _ hF.s7
  have h12 := hf 12 _ hF.s12
  have h13 := hf 13 _ hF.s13
  have h65 := hf 65 _ hF.s65
  have h66 := hf 66 _ hF.s66
  have h67 := hf 67 _ hF.s67
  clear hF hf
  unfold FR
  rw [h0, h5, h6, h7, h12, h13, h65, h66, h67]
  clear h0 h5 h6 h7 h12 h13 h65 h66 h67
  conv => arg 2; whnf
  obtain ⟨r0, r1, z0, z1⟩ := hS.rw
  have rs := hS.rs hL.num
  obtain ⟨kl, hkl⟩ : ∃ kl, kl = lkn s (tab M.ds H.num) := ⟨_, rfl⟩
  have hk4 := hL.lb (tab M.ds H.num)
  have hLk := fun w => lock_lk (d := tab M.ds H.num) hL.sb hL.okh.dn w
  have hzs : (tab M.ds H.num).1 = szs.getD H.num 0 := by rw [hL.ds]; exact szs_dss _
  have hzb := hL.okh.dn
  rw [← hkl, hzs] at hLk
  rw [← hkl] at hk4
  rw [hzs] at hzb
  have hnum := hL.num
  have hnx := hL.nx
  have hcb := hL.cb
  obtain ⟨d0, d1, _⟩ := hS.mem.hd
  have lts := hS.lts
  replace hLk := Lib.hid hLk
  replace hkl := Lib.hid hkl
  replace hzs := Lib.hid hzs
  have HS := Lib.hid hS
  have HL := Lib.hid hL
  replace hQ := Lib.hid hQ
  clear hS hL
  generalize hzz : szs.getD H.num 0 = z at *
  replace hzz := Lib.hid hzz
  obtain ⟨j, hj⟩ : ∃ j : Nat, j = x % 4 := ⟨_, rfl⟩
  have hj4 : j < 4 := by omega
  have m1 : (x : Int) % 4 = (j : Int) := by omega
  have hT := try_one HS.out HL.out (1 + j) (by omega)
  rw [Int.natCast_add, Int.natCast_one] at hT
  replace hT := Lib.hid hT
  replace hj := Lib.hid hj
  go_wp2_with (go_at_call 8; refine (hLk.out _).mono ?_; rintro e w' ⟨rfl, rfl⟩)
  refine hT.out.mono ?_
  rintro e w2 ⟨bb, nn, hs', rfl, hS2, hL2⟩
  replace hS2 := Lib.hid hS2
  replace hL2 := Lib.hid hL2
  clear r0 r1 rs c0 d0 d1
  go_wp2_with fail
  exact hQ.out _ _ ⟨cur, ⟨rfl, rfl, rfl, rfl, rfl, rfl, rfl, rfl, rfl, rfl, rfl⟩, { M with hs := hs' }, H, rfl, rfl, hS2.out, hL2.out⟩
set_option maxHeartbeats 4000000 in
theorem c_free {Q : Exit → Act → World → Prop} {W0 w : World} {a : Act} {s : Int} {wb sb caps cur : Nat} {A : Option Addr} {len cap k b o x : Nat} {M : Mo} {H : Ho}
    (hp : Pre W0 w a s wb sb caps cur A len cap k b o x M H) (hx1 : 80 ≤ x) (hx2 : x < 120)
    (hQ : ∀ a' w', RdP W0 s H.f M.m wb sb caps A len cap k a' w' → Q .normal a' w') : Code.wp Try.prog blk3 Q a w := by
  obtain ⟨hF, hS, hL, rfl, c0, hx, hlt, hl⟩ := hp
  obtain ⟨f, rfl, hf⟩ := open_act a hF.defers hF.size
  have h0 := hf 0 _ hF.s0
  have h5 := hf 5 _ hF.s5
  have h6 := hf 6 _ hF.s6
  have h7 := hf 7 _ hF.s7
  have h12 := hf 12 _ hF.s12
  have h13 := hf 13 _ hF.s13
  have h65 := hf 65 _ hF.s65
  have h66 := hf 66 _ hF.s66
  have h67 := hf 67 _ hF.s67
  clear hF hf
  unfold FR
  rw [h0, h5, h6, h7, h12, h13, h65, h66, h67]
  clear h0 h5 h6 h7 h12 h13 h65 h66 h67
  conv => arg 2; whnf
  obtain ⟨r0, r1, z0, z1⟩ := hS.rw
  have rs := hS.rs hL.num
  obtain ⟨kl, hkl⟩ : ∃ kl, kl = lkn s (tab M.ds H.num) := ⟨_, rfl⟩
  have hk4 := hL.lb (tab M.ds H.num)
  have hLk := fun w => lock_lk (d := tab M.ds H.num) hL.sb hL.okh.dn w
  have hzs : (tab M.ds H.num).1 = szs.getD H.num 0 := by rw [hL.ds]; exact szs_dss _
  have hzb := hL.okh.dn
  rw [← hkl, hzs] at hLk
  rw [← hkl] at hk4
  rw [hzs] at hzb
  have hnum := hL.num
  have hnx := hL.nx
  have hcb := hL.cb
  obtain ⟨d0, d1, _⟩ := hS.mem.hd
  have lts := hS.lts
  replace hLk := Lib.hid hLk
  replace hkl := Lib.hid hkl
  replace hzs := Lib.hid hzs
  have HS := Lib.hid hS
  have HL := Lib.hid hL
  replace hQ := Lib.hid hQ
  clear hS hL
  generalize hzz : szs.getD H.num 0 = z at *
  replace hzz := Lib.hid hzz
  obtain ⟨j, hj⟩ : ∃ j : Nat, j = x % 4 := ⟨_, rfl⟩
  have hj4 : j < 4 := by omega
  have m1 : (x : Int) % 4 = (j : Int) := by omega
  have hT := free_one HS.out HL.out (1 + j) (by omega)
  rw [Int.natCast_add, Int.natCast_one] at hT
  replace hT := Lib.hid hT
  replace hj := Lib.hid hj
  go_wp2_with (go_at_call 8; refine (hLk.out _).mono ?_; rintro e w' ⟨rfl, rfl⟩)
  refine hT.out.mono ?_
  rintro e w2 ⟨nn, hs', rfl, hS2, hL2⟩
  replace hS2 := Lib.hid hS2
  replace hL2 := Lib.hid hL2
  clear r0 r1 rs c0 d0 d1
  go_wp2_with fail
  exact hQ.out _ _ ⟨cur, ⟨rfl, rfl, rfl, rfl, rfl, rfl, rfl, rfl, rfl, rfl, rfl⟩, { M with hs := hs' }, H, rfl, rfl, hS2.out, hL2.out⟩
end Go.Proofs.Ytfknleligabgcaa.HoLaw
