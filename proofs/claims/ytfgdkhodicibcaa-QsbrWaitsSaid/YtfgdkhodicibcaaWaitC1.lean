/- A round in which a worker takes the first step of coming in. -/
import Derived.Test.YtfgdkhodicibcaaWaitK
namespace Go.Proofs.Ytfgdkhodicibcaa.WaitLaw
open Go Go.RowKit Hp K Fl Rw Hm Ar Mm Me LK Qs Ob Ct LawSix
set_option maxRecDepth 100000

set_option maxHeartbeats 4000000 in
theorem c_enter {Q : Exit → Act → World → Prop} {W0 w : World} {a : Act} {n m fb vb sb gb : Nat} {A : Option Addr} {len cap k b o x : Nat} {M : Mo} {fs : List Fr} {ss : List Nat} {wb : Nat → Option Nat} {Wk : Nat → Wt} {bg : Nat → Option (Nat × List Nat)}
    (hp : Pre W0 w a n m fb vb sb gb A len cap k b o x M fs ss wb Wk bg) {i : Nat} (hki : x % (n + 2) = i + 2) (hi2 : 2 ≤ i) (hfi : fs[i]? = some .nil) (hci : Cl.nth M.xs (2 + i) = 0)
    (hQ : ∀ a' w', RdP W0 n m fb vb sb gb A len cap k a' w' → Q .normal a' w') : Code.wp Try.prog blk1 Q a w := by
  obtain ⟨hF, hmm, hmk, hS, hG, hall, rfl, c0, hx, hlt, hl⟩ := hp
  subst hmm
  obtain ⟨f, rfl, hf⟩ := open_act a hF.defers hF.size
  have h5 := hf 5 _ hF.s5
  have h6 := hf 6 _ hF.s6
  have h7 := hf 7 _ hF.s7
  have h8 := hf 8 _ hF.s8
  have h9 := hf 9 _ hF.s9
  have h10 := hf 10 _ hF.s10
  have h59 := hf 59 _ hF.s59
  have h60 := hf 60 _ hF.s60
  have h61 := hf 61 _ hF.s61
  clear hF hf
  unfold FR
  rw [h5, h6, h7, h8, h9, h10, h59, h60, h61]
  clear h5 h6 h7 h8 h9 h10 h59 h60 h61
  conv => arg 2; whnf
  have hn2 := hG.n2
  replace hS := Lib.hid hS
  replace hG := Lib.hid hG
  replace hQ := Lib.hid hQ
  replace hall := Lib.hid hall
  obtain ⟨kk, hkk⟩ : ∃ kk : Nat, kk = x % (n + 2) := ⟨_, rfl⟩
  have hkb : kk < n + 2 := by rw [hkk]; exact Nat.mod_lt _ (by omega)
  obtain ⟨n2, hn3⟩ : ∃ n2 : Nat, n2 = n + 2 := ⟨_, rfl⟩
  have m0 : (n : Int) + 2 = (n2 : Int) := by omega
  have m1 : (x : Int) % (n2 : Int) = (kk : Int) := by rw [hkk, hn3]; omega
  have m2 : 0 < n2 := by omega
  replace hn3 := Lib.hid hn3
  rw [← hkk] at hki
  have hin : i < n := by omega
  have m3 : (kk : Int) - 2 = (i : Int) := by omega
  have hxl : M.xs.length = n + 3 := hG.out.lx
  have hper := hG.out.per
  have hcnt := hG.out.cnt i hin
  replace hkk := Lib.hid hkk
  replace hki := Lib.hid hki
  have k2 : (2 : Int) ≤ (kk : Int) := by have := hki.out; omega
  obtain ⟨r1, r2⟩ := hS.out.rf hfi
  have lts := hS.out.lts
  unfold frv at r1
  have hE := Lib.hid (enter_any i w)
  go_wp2_with fail
  refine hE.out.mono ?_
  rintro e w1 ⟨rfl, hC1, hb1⟩
  obtain ⟨s1, s2⟩ := (hS.out.down hb1).rf hfi
  unfold frv at s1
  have hS2 := Lib.hid (hS.out.enter hb1 (Nat.le_refl _) hC1)
  have hl1 : fb < w1.heap.size := by have := hb1.size; omega
  clear hE hb1 hC1 hS
  generalize w.heap.size = g at *
  clear r1 r2
  go_wp2_with fail
  unfold frv at hS2
  generalize w1.setCell ⟨fb, i, none⟩ (.iface 53 (ptr g)) = w2 at *
  have hfl : i < fs.length := (List.getElem?_eq_some_iff.1 hfi).1
  have hf2 : (fs.set i (.com g 0 0))[i]? = some (.com g 0 0) := by rw [List.getElem?_set, if_pos rfl, if_pos hfl]
  have hI := in_any hS2.out.mem i (by omega) (by omega)
  rw [show decide (Cl.nth M.xs (2 + i) ≠ 0) = false by simp [hci]] at hI
  replace hI := Lib.hid hI
  clear s1 s2 lts hl1
  refine hI.out.mono ?_
  rintro e w3 ⟨rfl, nq, rfl⟩
  have hS3 := hS2.out.drewN nq
  generalize w2.drewN nq = w3 at *
  obtain ⟨s1, s2⟩ := hS3.rf hf2
  unfold frv at s1
  have hC3 := hS3.com hf2
  have hI2 := in_any hS3.mem i (by omega) (by omega)
  rw [show decide (Cl.nth M.xs (2 + i) ≠ 0) = false by simp [hci]] at hI2
  replace hI2 := Lib.hid hI2
  have hRd := Lib.hid (coming_ready (f := g) (ptr M.m) w3)
  have mr := mrC ⟨g, 0, none⟩
  have ms := msC ⟨g, 0, none⟩
  replace hS3 := Lib.hid hS3
  clear hS2 hI hC3
  go_wp2_with (first
    | (go_at_call 82; refine hRd.out.mono ?_; rintro e w' ⟨rfl, hw⟩; obtain rfl : w3 = w' := hw))
  refine hI2.out.mono ?_
  rintro e w4 ⟨rfl, nq', rfl⟩
  have hS4 := hS3.out.drewN nq'
  generalize w3.drewN nq' = w4 at *
  clear s1 s2
  obtain ⟨s1, s2⟩ := hS4.rf hf2
  unfold frv at s1
  have hSt : Calls Try.prog 83 #[ptr g, ptr M.m] w4 fun e w' => e = .returned (.bool false) ∧ MemAt w' M ∧ CmAt w' g ⟨i, 1, Cl.nth M.xs 0⟩ ∧ Only (fun x => mfoot M x ∨ x = g) w4 w' :=
    coming_step hS4.mem (hS4.com hf2) (by simp) (by show 2 + i < M.xs.length; omega) (by show i ≤ 1000; omega) (by simp)
  replace hSt := Lib.hid hSt
  replace hS4 := Lib.hid hS4
  clear hS3 hI2 hRd
  go_wp2_with fail
  refine hSt.out.mono ?_
  rintro e w5 ⟨rfl, hM5, hC5, hO5⟩
  have hS5 := hS4.out.comed hf2 hM5 hC5 hO5 rfl
  rw [List.set_set] at hS5
  replace hS5 := Lib.hid hS5
  clear hM5 hC5 hO5 hS4 hSt s1 s2
  go_wp2_with fail
  exact hQ.out _ _ ⟨⟨rfl, rfl, rfl, rfl, rfl, rfl, rfl, rfl, rfl, rfl, rfl⟩, M, _, ss, wb, Wk, bg, rfl, hmk, hS5.out, (hG.out.frame ⟨by omega, Int.le_refl _⟩ hci).more (by omega), hall.out⟩
set_option maxHeartbeats 4000000 in
theorem c_in {Q : Exit → Act → World → Prop} {W0 w : World} {a : Act} {n m fb vb sb gb : Nat} {A : Option Addr} {len cap k b o x : Nat} {M : Mo} {fs : List Fr} {ss : List Nat} {wb : Nat → Option Nat} {Wk : Nat → Wt} {bg : Nat → Option (Nat × List Nat)}
    (hp : Pre W0 w a n m fb vb sb gb A len cap k b o x M fs ss wb Wk bg) {i g : Nat} {p : Int} (hki : x % (n + 2) = i + 2) (hi2 : 2 ≤ i) (hfi : fs[i]? = some (.com g 1 p))
    (hQ : ∀ a' w', RdP W0 n m fb vb sb gb A len cap k a' w' → Q .normal a' w') : Code.wp Try.prog blk1 Q a w := by
  obtain ⟨hF, hmm, hmk, hS, hG, hall, rfl, c0, hx, hlt, hl⟩ := hp
  subst hmm
  obtain ⟨f, rfl, hf⟩ := open_act a hF.defers hF.size
  have h5 := hf 5 _ hF.s5
  have h6 := hf 6 _ hF.s6
  have h7 := hf 7 _ hF.s7
  have h8 := hf 8 _ hF.s8
  have h9 := hf 9 _ hF.s9
  have h10 := hf 10 _ hF.s10
  have h59 := hf 59 _ hF.s59
  have h60 := hf 60 _ hF.s60
  have h61 := hf 61 _ hF.s61
  clear hF hf
  unfold FR
  rw [h5, h6, h7, h8, h9, h10, h59, h60, h61]
  clear h5 h6 h7 h8 h9 h10 h59 h60 h61
  conv => arg 2; whnf
  have hn2 := hG.n2
  replace hS := Lib.hid hS
  replace hG := Lib.hid hG
  replace hQ := Lib.hid hQ
  replace hall := Lib.hid hall
  obtain ⟨kk, hkk⟩ : ∃ kk : Nat, kk = x % (n + 2) := ⟨_, rfl⟩
  have hkb : kk < n + 2 := by rw [hkk]; exact Nat.mod_lt _ (by omega)
  obtain ⟨n2, hn3⟩ : ∃ n2 : Nat, n2 = n + 2 := ⟨_, rfl⟩
  have m0 : (n : Int) + 2 = (n2 : Int) := by omega
  have m1 : (x : Int) % (n2 : Int) = (kk : Int) := by rw [hkk, hn3]; omega
  have m2 : 0 < n2 := by omega
  replace hn3 := Lib.hid hn3
  rw [← hkk] at hki
  have hin : i < n := by omega
  have m3 : (kk : Int) - 2 = (i : Int) := by omega
  have hxl : M.xs.length = n + 3 := hG.out.lx
  have hper := hG.out.per
  have hcnt := hG.out.cnt i hin
  replace hkk := Lib.hid hkk
  replace hki := Lib.hid hki
  have k2 : (2 : Int) ≤ (kk : Int) := by have := hki.out; omega
  obtain ⟨r1, r2⟩ := hS.out.rf hfi
  have lts := hS.out.lts
  unfold frv at r1
  have hfr := hG.out.fr i _ hfi
  have hfr : 1 ≤ p ∧ p ≤ Cl.nth M.xs 0 ∧ Cl.nth M.xs (2 + i) = 0 := by
    rcases hfr with q | ⟨b', p', q, q2⟩
    · simp at q
    · injection q with q3 q4 q5
      subst q5
      exact q2
  have hRd := Lib.hid (coming_ready (f := g) (ptr M.m) w)
  have mr := mrC ⟨g, 0, none⟩
  have ms := msC ⟨g, 0, none⟩
  have hI := in_any hS.out.mem i (by omega) (by omega)
  rw [show decide (Cl.nth M.xs (2 + i) ≠ 0) = false by simp [hfr.2.2]] at hI
  replace hI := Lib.hid hI
  replace hfr := Lib.hid hfr
  go_wp2_with (first
    | (go_at_call 82; refine hRd.out.mono ?_; rintro e w' ⟨rfl, hw⟩; obtain rfl : w = w' := hw))
  refine hI.out.mono ?_
  rintro e w3 ⟨rfl, nq, rfl⟩
  have hS3 := hS.out.drewN nq
  generalize w.drewN nq = w3 at *
  clear r1 r2 hI hRd hS lts
  obtain ⟨s1, s2⟩ := hS3.rf hfi
  unfold frv at s1
  have hSt : Calls Try.prog 83 #[ptr g, ptr M.m] w3 fun e w' => e = .returned (.bool true) ∧ MemAt w' { M with xs := M.xs.set (2 + i) p } ∧ CmAt w' g ⟨i, 2, p⟩ ∧ Only (fun x => mfoot M x ∨ x = g) w3 w' :=
    coming_step hS3.mem (hS3.com hfi) (by simp) (by show 2 + i < M.xs.length; omega) (by show i ≤ 1000; omega) (by have := hfr.out; show 0 ≤ p ∧ p ≤ 18446744073709551615; omega)
  replace hSt := Lib.hid hSt
  replace hS3 := Lib.hid hS3
  go_wp2_with fail
  refine hSt.out.mono ?_
  rintro e w4 ⟨rfl, hM4, hC4, hO4⟩
  have hS4 := hS3.out.comed hfi hM4 hC4 hO4 rfl
  have hfl : i < fs.length := (List.getElem?_eq_some_iff.1 hfi).1
  have hf4 : (fs.set i (.com g 2 p))[i]? = some (.com g 2 p) := by rw [List.getElem?_set, if_pos rfl, if_pos hfl]
  clear s1 s2
  obtain ⟨s1, s2⟩ := hS4.rf hf4
  have lts := hS4.lts
  unfold frv at s1
  have hS5 := hS4.nilF i
  rw [List.set_set] at hS5
  have hI := in_any hS5.mem i (by show 2 + i < (M.xs.set (2 + i) p).length; simp; omega) (by omega)
  have hcn : Cl.nth (M.xs.set (2 + i) p) (2 + i) = p := by rw [cnth_set (by omega), if_pos rfl]
  rw [show decide (Cl.nth (M.xs.set (2 + i) p) (2 + i) ≠ 0) = true by rw [hcn]; have := hfr.out; simp; omega] at hI
  replace hI := Lib.hid hI
  replace hS5 := Lib.hid hS5
  replace hcn := Lib.hid hcn
  clear hM4 hC4 hO4 hS3 hSt hS4
  generalize hw5 : w4.setCell ⟨fb, i, none⟩ .nilIface = w5 at *
  go_wp2_with fail
  refine hI.out.mono ?_
  rintro e w6 ⟨rfl, nq', rfl⟩
  have hS6 := hS5.out.drewN nq'
  generalize w5.drewN nq' = w6 at *
  clear s1 s2 lts hw5 hI
  have hls := hG.out.ls
  obtain ⟨s1, s2⟩ := hS6.rs (i := i) (by omega)
  have lts := hS6.lts
  have hsb : Hm.nth ss i ≤ 300 := by have := hG.out.stb i hin; omega
  have hS7 := Lib.hid (hS6.bump i (Hm.nth ss i + 1))
  have hns := nnth_set (xs := ss) (j := i) (by omega) (Hm.nth ss i + 1)
  rw [Int.natCast_add, Int.natCast_one] at hS7
  generalize hz : Hm.nth ss i = z at *
  have hG7 : Hid (LG n (k + 1) (M.xs.set (2 + i) p) M.hs (fs.set i .nil) (ss.set i (z + 1)) Wk bg) := Lib.hid (by
    have q := hfr.out
    refine hG.out.cell ⟨hi2, hin⟩ ⟨by omega, q.2.1⟩ (by simpa using hG.out.lf) (by simpa using hls) (fun x hx => ?_) (fun j hj => ?_) (fun _ => ?_) (fun q' => by omega) (fun j hj => ?_) (by omega)
    · rw [List.getElem?_set, if_pos rfl, if_pos hfl] at hx
      injection hx with hx
      exact hx.symm
    · rw [List.getElem?_set, if_neg (fun e => hj e.symm)]
    · rw [hns, if_pos rfl, hz]
    · rw [hns, if_neg hj])
  clear hS6 hS5 hns hz hls
  go_wp2_with fail
  exact hQ.out _ _ ⟨⟨rfl, rfl, rfl, rfl, rfl, rfl, rfl, rfl, rfl, rfl, rfl⟩, { M with xs := M.xs.set (2 + i) p }, _, _, wb, Wk, bg, rfl, hmk, hS7.out, hG7.out, hall.out⟩
set_option maxHeartbeats 4000000 in
theorem c_leave {Q : Exit → Act → World → Prop} {W0 w : World} {a : Act} {n m fb vb sb gb : Nat} {A : Option Addr} {len cap k b o x : Nat} {M : Mo} {fs : List Fr} {ss : List Nat} {wb : Nat → Option Nat} {Wk : Nat → Wt} {bg : Nat → Option (Nat × List Nat)}
    (hp : Pre W0 w a n m fb vb sb gb A len cap k b o x M fs ss wb Wk bg) {i : Nat} (hki : x % (n + 2) = i + 2) (hi2 : 2 ≤ i) (hfi : fs[i]? = some .nil) (hci : Cl.nth M.xs (2 + i) ≠ 0)
    (hQ : ∀ a' w', RdP W0 n m fb vb sb gb A len cap k a' w' → Q .normal a' w') : Code.wp Try.prog blk1 Q a w := by
  obtain ⟨hF, hmm, hmk, hS, hG, hall, rfl, c0, hx, hlt, hl⟩ := hp
  subst hmm
  obtain ⟨f, rfl, hf⟩ := open_act a hF.defers hF.size
  have h5 := hf 5 _ hF.s5
  have h6 := hf 6 _ hF.s6
  have h7 := hf 7 _ hF.s7
  have h8 := hf 8 _ hF.s8
  have h9 := hf 9 _ hF.s9
  have h10 := hf 10 _ hF.s10
  have h59 := hf 59 _ hF.s59
  have h60 := hf 60 _ hF.s60
  have h61 := hf 61 _ hF.s61
  clear hF hf
  unfold FR
  rw [h5, h6, h7, h8, h9, h10, h59, h60, h61]
  clear h5 h6 h7 h8 h9 h10 h59 h60 h61
  conv => arg 2; whnf
  have hn2 := hG.n2
  replace hS := Lib.hid hS
  replace hG := Lib.hid hG
  replace hQ := Lib.hid hQ
  replace hall := Lib.hid hall
  obtain ⟨kk, hkk⟩ : ∃ kk : Nat, kk = x % (n + 2) := ⟨_, rfl⟩
  have hkb : kk < n + 2 := by rw [hkk]; exact Nat.mod_lt _ (by omega)
  obtain ⟨n2, hn3⟩ : ∃ n2 : Nat, n2 = n + 2 := ⟨_, rfl⟩
  have m0 : (n : Int) + 2 = (n2 : Int) := by omega
  have m1 : (x : Int) % (n2 : Int) = (kk : Int) := by rw [hkk, hn3]; omega
  have m2 : 0 < n2 := by omega
  replace hn3 := Lib.hid hn3
  rw [← hkk] at hki
  have hin : i < n := by omega
  have m3 : (kk : Int) - 2 = (i : Int) := by omega
  have hxl : M.xs.length = n + 3 := hG.out.lx
  have hper := hG.out.per
  have hcnt := hG.out.cnt i hin
  replace hkk := Lib.hid hkk
  replace hki := Lib.hid hki
  have k2 : (2 : Int) ≤ (kk : Int) := by have := hki.out; omega
  obtain ⟨r1, r2⟩ := hS.out.rf hfi
  have lts := hS.out.lts
  unfold frv at r1
  have hE := Lib.hid (enter_any i w)
  go_wp2_with fail
  refine hE.out.mono ?_
  rintro e w1 ⟨rfl, hC1, hb1⟩
  obtain ⟨s1, s2⟩ := (hS.out.down hb1).rf hfi
  unfold frv at s1
  have hS2 := Lib.hid (hS.out.enter hb1 (Nat.le_refl _) hC1)
  have hl1 : fb < w1.heap.size := by have := hb1.size; omega
  clear hE hb1 hC1 hS
  generalize w.heap.size = g at *
  clear r1 r2
  go_wp2_with fail
  unfold frv at hS2
  generalize w1.setCell ⟨fb, i, none⟩ (.iface 53 (ptr g)) = w2 at *
  have hfl : i < fs.length := (List.getElem?_eq_some_iff.1 hfi).1
  have hf2 : (fs.set i (.com g 0 0))[i]? = some (.com g 0 0) := by rw [List.getElem?_set, if_pos rfl, if_pos hfl]
  have hI := in_any hS2.out.mem i (by omega) (by omega)
  rw [show decide (Cl.nth M.xs (2 + i) ≠ 0) = true by simp [hci]] at hI
  replace hI := Lib.hid hI
  clear s1 s2 lts hl1
  refine hI.out.mono ?_
  rintro e w3 ⟨rfl, nq, rfl⟩
  have hS3 := Lib.hid (hS2.out.drewN nq)
  generalize w2.drewN nq = w3 at *
  have hL := Lib.hid (leave_any i w3)
  clear hS2 hI
  go_wp2_with fail
  refine hL.out.mono ?_
  rintro e w4 ⟨rfl, hC4, hb4⟩
  obtain ⟨s1, s2⟩ := (hS3.out.down hb4).rf hf2
  unfold frv at s1
  have hS5 := hS3.out.leave hb4 (Nat.le_refl _) hC4
  rw [List.set_set] at hS5
  replace hS5 := Lib.hid hS5
  have hl4 : fb < w4.heap.size := by have := hb4.size; have := hS3.out.lts; omega
  clear hL hb4 hC4 hS3
  generalize w3.heap.size = g' at *
  have mr := mrG ⟨g', 0, none⟩
  have ms := msG ⟨g', 0, none⟩
  unfold frv at hS5
  have hf5 : (fs.set i (.goi g' 0))[i]? = some (.goi g' 0) := by rw [List.getElem?_set, if_pos rfl, if_pos hfl]
  generalize hw5 : w4.setCell ⟨fb, i, none⟩ (.iface 55 (ptr g')) = w5 at *
  obtain ⟨t1, t2⟩ := hS5.out.rf hf5
  unfold frv at t1
  have hRd := Lib.hid (going_ready (f := g') (ptr M.m) w5)
  have hI2 := in_any hS5.out.mem i (by omega) (by omega)
  rw [show decide (Cl.nth M.xs (2 + i) ≠ 0) = true by simp [hci]] at hI2
  replace hI2 := Lib.hid hI2
  go_wp2_with (first
    | (go_at_call 88; refine hRd.out.mono ?_; rintro e w' ⟨rfl, hw⟩; obtain rfl : w5 = w' := hw))
  refine hI2.out.mono ?_
  rintro e w6 ⟨rfl, nq', rfl⟩
  have hS6 := hS5.out.drewN nq'
  generalize w5.drewN nq' = w6 at *
  clear s1 s2 t1 t2 hw5 hl4 hI2 hRd
  obtain ⟨s1, s2⟩ := hS6.rf hf5
  unfold frv at s1
  have hSt := Lib.hid (going_step hS6.mem (hS6.goi hf5) (by omega) (by omega))
  replace hS6 := Lib.hid hS6
  clear hS5
  go_wp2_with fail
  refine hSt.out.mono ?_
  rintro e w7 ⟨rfl, hM7, hC7, hO7⟩
  have hS7 := hS6.out.goned hf5 hM7 hC7 hO7 rfl
  rw [List.set_set] at hS7
  have hf7 : (fs.set i (.goi g' 1))[i]? = some (.goi g' 1) := by rw [List.getElem?_set, if_pos rfl, if_pos hfl]
  clear s1 s2
  obtain ⟨s1, s2⟩ := hS7.rf hf7
  have lts := hS7.lts
  unfold frv at s1
  have hS8 := hS7.nilF i
  rw [List.set_set] at hS8
  have hI := in_any hS8.mem i (by show 2 + i < (M.xs.set (2 + i) 0).length; simp; omega) (by omega)
  have hcn : Cl.nth (M.xs.set (2 + i) 0) (2 + i) = 0 := by rw [cnth_set (by omega), if_pos rfl]
  rw [show decide (Cl.nth (M.xs.set (2 + i) 0) (2 + i) ≠ 0) = false by rw [hcn]; simp] at hI
  replace hI := Lib.hid hI
  replace hS8 := Lib.hid hS8
  clear hcn hM7 hC7 hO7 hS6 hSt hS7
  generalize hw8 : w7.setCell ⟨fb, i, none⟩ .nilIface = w8 at *
  go_wp2_with fail
  refine hI.out.mono ?_
  rintro e w9 ⟨rfl, nq2, rfl⟩
  have hS9 := Lib.hid (hS8.out.drewN nq2)
  generalize w8.drewN nq2 = w9 at *
  have hG9 : Hid (LG n (k + 1) (M.xs.set (2 + i) 0) M.hs (fs.set i .nil) ss Wk bg) := Lib.hid (by
    refine hG.out.cell ⟨hi2, hin⟩ ⟨by omega, by omega⟩ (by simpa using hG.out.lf) hG.out.ls (fun x hx => ?_) (fun j hj => ?_) (fun q' => absurd rfl q') (fun _ => rfl) (fun j hj => rfl) (by omega)
    · rw [List.getElem?_set, if_pos rfl, if_pos hfl] at hx
      injection hx with hx
      exact hx.symm
    · rw [List.getElem?_set, if_neg (fun e => hj e.symm)])
  clear s1 s2 lts hw8 hI hS8
  go_wp2_with fail
  exact hQ.out _ _ ⟨⟨rfl, rfl, rfl, rfl, rfl, rfl, rfl, rfl, rfl, rfl, rfl⟩, { M with xs := M.xs.set (2 + i) 0 }, _, _, wb, Wk, bg, rfl, hmk, hS9.out, hG9.out, hall.out⟩
end Go.Proofs.Ytfgdkhodicibcaa.WaitLaw
