/- RetireSteps answers true, whatever it is handed: any number of workers, any number that waits. -/
import Derived.Test.YtnmneofmflkilaaLawSevenA
import Derived.ProofKit
import Derived.OpenShut
import Derived.Laws.Cover1
namespace Go.Proofs.Ytnmneofmflkilaa.LawSeven
open Go Go.RowKit Go.WideShapes Go.ChangeShapes Hp K Fl Rw Hm Ar Mm Me LK Qs Re LawSix
set_option maxRecDepth 100000

/-- What a round keeps: so many wait. -/
def RS (W0 w : World) (m : Nat) (xs hs : List Int) (kk : Int) (D : Dr) (k : Nat) : Prop :=
  ∃ M, S7 W0 w M D ∧ M.m = m ∧ M.xs = xs ∧ M.hs = hs ∧ M.k = kk ∧ M.F = false ∧ Wr M.ss M.ws [] k ∧ M.ws.length = k ∧ M.ss.length = 12
theorem steps_doc (a b : Nat) (w : World) (ha : a ≤ 1000) (hb : b ≤ 1000) : Calls Try.prog 15 #[.int .i64 a, .int .i64 b] w fun e w' => e = .returned (.int .i64 (4 + (b : Int) + a)) ∧ w = w' := by
  go_enter Try.func15, Try.ntmps15
  go_wp2
  go_ret
  exact ⟨rfl, rfl⟩

set_option maxHeartbeats 4000000 in
theorem rsteps (wk nk : Nat) (W0 : World) (hwk : wk ≤ 255) (hnk : nk ≤ 255) :
    Calls Try.prog 3 #[.int .u8 wk, .int .u8 nk] W0 fun e w' => e = .returned (.bool true) ∧ Below W0.heap.size W0 w' := by
  obtain ⟨n, hn⟩ : ∃ n : Nat, (wk : Int) % 8 + 1 = (n : Int) := ⟨wk % 8 + 1, by omega⟩
  obtain ⟨z, hz⟩ : ∃ z : Nat, (nk : Int) % 12 = (z : Int) := ⟨nk % 12, by omega⟩
  have hn8 : 1 ≤ n ∧ n ≤ 8 := by omega
  have hz12 : z ≤ 11 := by omega
  have hN := Lib.hid (made_yes 12 n W0 (by omega) (by omega))
  go_enter Try.func3, Try.ntmps3
  go_wp2_with fail
  refine hN.out.mono ?_
  rintro e w1 ⟨M, rfl, hM⟩
  obtain ⟨hM, hlo, hB, h1, h2, h3, h4, h5, h6, h7⟩ := hM
  have hD := Lib.hid (new_drain n w1)
  replace hM := Lib.hid hM
  replace hlo := Lib.hid hlo
  replace hB := Lib.hid hB
  replace h1 := Lib.hid h1
  replace h2 := Lib.hid h2
  replace h3 := Lib.hid h3
  replace h4 := Lib.hid h4
  replace h5 := Lib.hid h5
  replace h7 := Lib.hid h7
  clear h6 hN
  go_wp2_with fail
  refine hD.out.mono ?_
  rintro e w2 ⟨f, rfl, hf, hD2, hB2⟩
  have hS2 := s7_new hM.out hB.out hlo.out hf hD2 hB2
  have hpd := pd_new (f := f) (fw := w1.heap.size) (k := n) (n := n) (M := M) (B := 0) (by omega) h5.out (by omega) (by rw [h4.out]; simp) (by rw [h1.out]; simp) (by
    rw [h7.out, h2.out]
    exact wr_new 12 (by omega))
  have hR2 := hpd.ready hS2.mem hS2.dr
  rw [show dready M ⟨f, w1.heap.size, 0, ⟨n, 0, 0, 0⟩, none, 0, []⟩ = false by simp [dready, h7.out]] at hR2
  have hR2' := Lib.hid hR2
  have hL2 := Lib.hid (fun nq => left_any (hS2.drewN nq).dr (by simp))
  have hS2' := Lib.hid hS2
  clear hS2 hD2 hB2 hD hM hB hlo hpd


  clear hR2
  go_wp2_with fail
  refine hR2'.out.mono ?_
  rintro e w3 ⟨rfl, nq, rfl⟩
  replace hL2 := Lib.hid (hL2.out nq)
  have hS3 := Lib.hid (hS2'.out.drewN nq)
  generalize w2.drewN nq = w3 at *
  clear hR2' hS2'
  go_wp2_with fail
  refine hL2.out.mono ?_
  rintro e w4 ⟨A4, cap4, rfl, hA4, hB4⟩
  have hS4 := Lib.hid (hS3.out.down hB4)
  clear hA4 hB4 hS3 hL2
  go_wp2_with fail
  have lf := hS4.out.dr.blk.lt
  have hI : Hid (RS W0 w4 M.m M.xs M.hs M.k ⟨f, w1.heap.size, 0, ⟨n, 0, 0, 0⟩, none, 0, []⟩ 0) := Lib.hid ⟨M, hS4.out, rfl, rfl, rfl, rfl, h3.out, by rw [h7.out, h2.out]; exact wr_new 12 (by omega), by rw [h7.out]; rfl, by rw [h2.out]; simp⟩
  clear hS4 h3 h7 h2
  generalize hfw : w1.heap.size = fw at *
  clear hfw
  generalize M.m = m at *
  go_loopw [40] (fun j wr => ∃ k : Nat, k ≤ z ∧ j = .int .i64 k ∧ RS W0 wr m M.xs M.hs M.k ⟨f, fw, 0, ⟨n, 0, 0, 0⟩, none, 0, []⟩ k) (fun j _ => z - (intOf j).toNat)
  case atStart => exact ⟨0, Nat.zero_le _, rfl, hI.out⟩
  case round =>
    obtain ⟨k, hk, rfl, M1, hS, rfl, e2, e3, e4, e5, hw, hwl, hsl⟩ := hrel
    clear hI lf
    by_cases hlt : k < z
    · obtain ⟨j, hj⟩ := hw.least (by rw [hwl, hsl]; simp; omega)
      have hg : (at' M1.ss j).gen ≤ 1000000 := by have := hw.gens j; simp at this; omega
      have hA := hS.allocs hj hg Nd.zero
      have hw2 := hw.put hj Nd.zero
      have c2 := hS.mem.hd.2.2.1
      generalize hx : (at' M1.ss j).gen * 65536 + j + 1 = x at *
      replace hA := Lib.hid hA
      replace hS := Lib.hid hS
      replace e2 := Lib.hid e2
      replace e3 := Lib.hid e3
      replace e4 := Lib.hid e4
      replace e5 := Lib.hid e5
      replace hw := Lib.hid hw
      replace hw2 := Lib.hid hw2
      replace hwl := Lib.hid hwl
      replace hsl := Lib.hid hsl
      replace hx := Lib.hid hx
      clear hj hg
      go_wp2_with fail
      refine hA.out.mono ?_
      rintro e w5 ⟨rfl, hS5⟩
      have hR := retire_any hS5.mem x (by show M1.ws.length ≤ 1000000; rw [hwl.out]; omega)
      replace hR := Lib.hid hR
      replace hS5 := Lib.hid hS5
      clear hA c2 hS
      go_wp2_with fail
      refine hR.out.mono ?_
      rintro e w6 ⟨rfl, hP⟩
      obtain ⟨V', cap', hS6⟩ := hS5.out.put hP
      replace hS6 := Lib.hid hS6
      clear hP hR hS5
      go_wp2_with fail
      go_roundw
      case rel => exact ⟨k + 1, hlt, by go_num, _, hS6.out, rfl, e2.out, e3.out, e4.out, e5.out, hw2.out, by show (M1.ws ++ [x]).length = k + 1; simp [hwl.out], by show (M1.ss.set j _).length = 12; simpa using hsl.out⟩
      case measure => simp [intOf]; omega
    · obtain rfl : k = z := by omega
      by_cases hk0 : k = 0
      · subst hk0
        replace hS := Lib.hid hS
        replace hw := Lib.hid hw
        replace hwl := Lib.hid hwl
        replace hsl := Lib.hid hsl
        go_wp2_with fail
        refine (awake _).mono ?_
        rintro e w5 ⟨rfl, hb5⟩
        have hB := Lib.hid (hS.out.down hb5).below
        go_wp2_with fail
        go_ret
        exact ⟨rfl, hB.out⟩
      · have hpd := pd_new (f := f) (fw := fw) (k := n) (n := n) (M := M1) (B := k) (by omega) (e4.trans h5.out) (by omega) (by rw [e3, h4.out]; simp) (by rw [e2, h1.out]; simp) hw
        have hqd : Qd n M1 ⟨f, fw, 0, ⟨n, 0, 0, 0⟩, none, 0, []⟩ [] := by
          refine ⟨fun i hi => ?_, fun _ => ?_, fun _ => ⟨fun q => by rw [q] at hwl; simp at hwl; omega, rfl⟩, fun q => absurd rfl q⟩
          · rw [e2, h1.out, Nat.add_comm 2 i]
            have : i + 1 < n + 2 := by omega
            simp [Cl.nth, List.getD, List.getElem?_replicate, this]
          · rw [e3, h4.out]; rfl
        have hdn : ¬ ((⟨f, fw, 0, ⟨n, 0, 0, 0⟩, none, 0, []⟩ : Dr).at_ = 2 ∧ (⟨f, fw, 0, ⟨n, 0, 0, 0⟩, none, 0, []⟩ : Dr).left.tail = []) := by simp
        obtain ⟨r1, r2, r3, r4⟩ := hqd.run hpd
        obtain ⟨q2, m2⟩ := r4 hdn
        have p2 := hpd.step r1 hdn
        have hSt := drain_step hS.mem hS.dr (hpd.okd (by omega) hS.apart) r1
        rw [show decide ((⟨f, fw, 0, ⟨n, 0, 0, 0⟩, none, 0, []⟩ : Dr).at_ = 2 ∧ (⟨f, fw, 0, ⟨n, 0, 0, 0⟩, none, 0, []⟩ : Dr).left.tail = []) = false by simp] at hSt
        have hSt' : Calls Try.prog 12 #[ptr f, ptr M1.m] wr fun e w' => e = .returned (.bool false) ∧ S7 W0 w' (dstep n M1 ⟨f, fw, 0, ⟨n, 0, 0, 0⟩, none, 0, []⟩).1 (dstep n M1 ⟨f, fw, 0, ⟨n, 0, 0, 0⟩, none, 0, []⟩).2 :=
          hSt.mono fun e w' h => ⟨h.1, hS.stepped hpd.some h.2.1 h.2.2.1 h.2.2.2⟩
        have ed : dstep n M1 ⟨f, fw, 0, ⟨n, 0, 0, 0⟩, none, 0, []⟩ = ({ M1 with V := none, capV := 0, ws := [] }, ⟨f, fw, 1, ⟨n, 0, 0, 0⟩, M1.V, M1.capV, M1.ws⟩) := rfl
        have hm0 : dmu n M1 ⟨f, fw, 0, ⟨n, 0, 0, 0⟩, none, 0, []⟩ = k + (n + 4) := by simp [dmu, hwl]
        rw [hm0] at m2
        rw [ed] at p2 q2 m2 hSt'
        simp only at p2 q2 m2 hSt'
        replace hSt' := Lib.hid hSt'
        replace p2 := Lib.hid p2
        replace q2 := Lib.hid q2
        replace m2 := Lib.hid m2
        replace hwl := Lib.hid hwl
        replace hsl := Lib.hid hsl
        replace e5 := Lib.hid e5
        clear hS hw hpd hqd hdn r1 r2 r3 r4 hSt ed hm0 e2 e3 e4
        go_wp2_with fail
        refine hSt'.out.mono ?_
        rintro e w5 ⟨rfl, hS5⟩
        have hL5 := left_any hS5.dr (by show M1.ws.length ≤ 1000000; rw [hwl.out]; omega)
        unfold Copied at hL5
        rw [show (⟨f, fw, 1, ⟨n, 0, 0, 0⟩, M1.V, M1.capV, M1.ws⟩ : Dr).left.length = k from hwl.out] at hL5
        replace hL5 := Lib.hid hL5
        replace hS5 := Lib.hid hS5
        clear hSt'
        go_wp2_with fail
        refine hL5.out.mono ?_
        rintro e w6 ⟨A6, cap6, rfl, hA6, hb6⟩
        have hS6 := Lib.hid (hS5.out.down hb6)
        have hW6 := Lib.hid (waiting_any hS6.out.mem)
        clear hA6 hb6 hS5 hL5
        go_wp2_with (go_at_call 13; refine hW6.out.mono ?_; rintro e w' ⟨rfl, hw⟩; obtain rfl : w6 = w' := hw)
        have hFn := finish_over (K := 100) hS6.out p2.out (by omega) q2.out (by have := m2.out; omega) (by omega)
        rw [show dmu n { M1 with V := none, capV := 0, ws := [] } ⟨f, fw, 1, ⟨n, 0, 0, 0⟩, M1.V, M1.capV, M1.ws⟩ = k + n + 3 by have := m2.out; omega] at hFn
        simp only [Int.natCast_add] at hFn
        replace hFn := Lib.hid hFn
        clear hS6 hW6 p2 q2 m2
        refine hFn.out.mono ?_
        rintro e w7 ⟨rfl, M7, D7, hO⟩
        have em : M7.m = M1.m := hO.m
        have ef : D7.f = f := hO.f
        have eF : M7.F = false := hO.F.trans e5.out
        have el : D7.left = [] := hO.left
        have es : M7.ss.length = 12 := hO.ssl.trans hsl.out
        have efr : (frees M7.ss M7.ss.length).length = 12 := by have := hO.wr.cnt; simp at this; omega
        have hS7 := Lib.hid hO.s
        replace em := Lib.hid em
        replace ef := Lib.hid ef
        replace eF := Lib.hid eF
        replace el := Lib.hid el
        replace efr := Lib.hid efr
        clear hO es hFn e5 hsl hwl h1 h4 h5
        go_wp2_with fail
        refine (awake w7).mono ?_
        rintro e w8 ⟨rfl, hb8⟩
        have hS8 := hS7.out.down hb8
        have c2 := hS8.mem.hd.2.2.1
        have hSp := spare_any hS8.mem.2.2.2.1
        have hFa := fault_any hS8.mem.2.2.2.1
        have hLe := left_any hS8.dr (by rw [el.out]; simp)
        unfold Copied at hLe
        rw [em.out] at c2
        rw [efr.out] at hSp
        rw [eF.out] at hFa
        rw [el.out, ef.out, List.length_nil] at hLe
        replace hSp := Lib.hid hSp
        replace hFa := Lib.hid hFa
        replace hLe := Lib.hid hLe
        have hB8 := Lib.hid hS8.below
        clear hb8 hS8 hS7
        go_wp2_with (first
          | (go_at_call 15; refine (steps_doc k n w8 (by omega) (by omega)).mono ?_; rintro e w' ⟨rfl, hw⟩; obtain rfl : w8 = w' := hw)
          | (go_at_call 16; refine hSp.out.mono ?_; rintro e w' ⟨rfl, hw⟩; obtain rfl : w8 = w' := hw)
          | (go_at_call 17; refine hFa.out.mono ?_; rintro e w' ⟨rfl, hw⟩; obtain rfl : w8 = w' := hw))
        refine hLe.out.mono ?_
        rintro e w9 ⟨A9, cap9, rfl, hA9, hb9⟩
        replace hB8 := Lib.hid (hB8.out.trans (hb9.mono hB8.out.size))
        clear hA9 hb9 hLe hSp hFa
        go_wp2_with fail
        go_ret
        exact ⟨rfl, hB8.out⟩

theorem rsteps_lifted (os : Os) (started : os.Started) (H : Type) (enc : TypeId × Value → H) :
    ReturnsInHanded {} Try.checked os 3 .any (Rows.retireStepsSpec.pre6 enc Try.prog Try.f3 Rows.retireStepsRow.domain false) (Rows.retireStepsSpec.post enc Try.prog Try.f3 false true false false) := by
  refine returnsInHanded_of_change (C := Try.checked) LK.own started (by kernel_rfl) Try.func3
    (ChangeSpec.witness6 (enc := enc) (C := Try.checked) false ⟨#[], #[.int .u8 0, .int .u8 0], []⟩ 8 (by kernel_rfl) (by kernel_rfl) (by kernel_rfl) (by kernel_rfl)) ?_
  intro W base args ds gs before hval0 hW hcnd hreach
  have hval : ∀ (j : Nat) t v, Try.f3.params[j]? = some t → args[j]? = some v → Value.okWide Try.prog W .any base t v := hval0
  have hW' := hW
  obtain ⟨p, q, hA0, hV, rfl, hfz, hnd⟩ := hW
  have hA : DataW.TrodAll enc Try.prog W 0 (fun _ => true) true Try.f3.params.toList args.toList ds p := hA0
  rw [Try.params3] at hA hval
  obtain ⟨v0, v1, d0, d1, p0, p1, rfl, rfl, rfl, h0, h1⟩ := trodAll_two hA
  obtain ⟨rfl, rfl⟩ := trodVars_none hV
  obtain ⟨a0, rfl, rfl, rfl, w0⟩ := open_int Try.underlying5 (hval 0 5 v0 rfl rfl) h0
  obtain ⟨a1, rfl, rfl, rfl, w1⟩ := open_int Try.underlying5 (hval 1 5 v1 rfl rfl) h1
  have b0 := K.wf_u8 w0
  have b1 := K.wf_u8 w1
  obtain ⟨n0, rfl⟩ := Int.eq_ofNat_of_zero_le b0.1
  obtain ⟨n1, rfl⟩ := Int.eq_ofNat_of_zero_le b1.1
  refine (rsteps n0 n1 W (by omega) (by omega)).mono fun e W' ⟨he, hb⟩ => ?_
  subst he
  exact ⟨_, rfl, post_true (tb := 4) (by kernel_rfl) (by kernel_rfl) rfl rfl Try.underlying4 rfl rfl rfl hW' hb⟩
theorem rsteps_holds : Rows.RetireStepsSaid :=
  OpenClaim.holds_of_wide 3 Try.f3 rfl rfl rfl rfl rfl rfl rfl ⟨rfl, rfl, rfl, rfl, rfl⟩ rfl rfl rfl rfl rfl (by kernel_rfl) Try.func3 (by kernel_rfl)
    (of_decide_eq_true (by kernel_rfl)) (by unfold Func.isWrapper; first | (rw [if_pos (by decide +kernel)]; kernel_rfl) | (rw [if_neg (by decide +kernel)]; exact ⟨rfl, rfl⟩))
    (fun os started H enc _ => rsteps_lifted os started H enc)
end Go.Proofs.Ytnmneofmflkilaa.LawSeven
