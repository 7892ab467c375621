/- MemNames and MemFinishes answer true, whatever they are handed. -/
import Derived.Test.YtgagemejcdbgcaaLawFiveA
import Derived.ProofKit
import Derived.OpenShut
import Derived.Laws.Cover1
namespace Go.Proofs.Ytgagemejcdbgcaa.LawFive
open Go Go.RowKit Go.WideShapes Go.ChangeShapes Hp K Fl Rw Hm Ar Mm Me LK
set_option maxRecDepth 100000

/-! ### a frame -/
theorem meth_ready (a : Addr) (w : World) (f : Nat) : (method (f + 1) 76 (.pointer (some a)) "Ready").run Try.prog w = .ok (86, .pointer (some a)) w := by kernel_rfl
theorem meth_step (a : Addr) (w : World) (f : Nat) : (method (f + 1) 76 (.pointer (some a)) "Step").run Try.prog w = .ok (87, .pointer (some a)) w := by kernel_rfl
/-- A frame with so many steps left, ready for so many. -/
def Cnt (w : World) (c : Nat) (l r : Int) : Prop := Blk w c 78 #[.int .i64 l, .int .i64 r]
section
variable {w : World} {c : Nat} {l r : Int}
theorem ready_any (h : Cnt w c l r) (m : Value) : Calls Try.prog 86 #[ptr c, m] w fun e w' => e = .returned (.bool (decide (0 < r))) ∧ w = w' := by
  have c1 := h.cell 1
  simp at c1
  clear h
  go_enter Try.func86, Try.ntmps86
  go_wp2
  go_ret
  exact ⟨rfl, rfl⟩
theorem step_any (h : Cnt w c l r) (hl : -1000 ≤ l ∧ l ≤ 1000) (hr : -1000 ≤ r ∧ r ≤ 1000) (m : Value) : Calls Try.prog 87 #[ptr c, m] w fun e w' => e = .returned (.bool (decide (l - 1 ≤ 0))) ∧ Cnt w' c (l - 1) (r - 1) ∧ Only (· = c) w w' := by
  have c0 := h.cell 0
  have c1 := h.cell 1
  have f0 := h.frozen 0
  have f1 := h.frozen 1
  simp at c0 c1
  have hS := Lib.hid ((h.store 1 (.int .i64 (r - 1))).store 0 (.int .i64 (l - 1)))
  have hO := Lib.hid (((Only.refl (· = c) w).setCell (p := ⟨c, 1, none⟩) (.inl rfl) (.int .i64 (r - 1))).setCell (p := ⟨c, 0, none⟩) (.inl rfl) (.int .i64 (l - 1)))
  clear h
  go_enter Try.func87, Try.ntmps87
  go_wp2
  go_ret
  exact ⟨rfl, by simpa [Cnt] using hS.out, hO.out⟩
end
theorem ret_fin {s : Int} {a b : Bool} (h : a = b) : Ending.returned (.tuple #[.int .i64 s, .bool a]) = .returned (.tuple #[.int .i64 s, .bool b]) := by rw [h]
/-- How many steps. -/
def want (L R K : Nat) : Nat := min (min (max L 1) R) K
set_option maxHeartbeats 1000000 in
theorem finish_any (L R K c : Nat) (m : Value) (w : World) (h : Cnt w c L R) (hL : L ≤ 255) (hR : R ≤ 255) :
    Calls Try.prog 36 #[m, .iface 76 (ptr c), .int .i64 K] w fun e w' => e = .returned (.tuple #[.int .i64 (want L R K : Nat), .bool (decide (max L 1 ≤ want L R K))]) ∧ Cnt w' c ((L : Int) - (want L R K : Nat)) ((R : Int) - (want L R K : Nat)) ∧ Only (· = c) w w' := by
  have hw1 : want L R K ≤ max L 1 := by unfold want; omega
  have hw2 : want L R K ≤ R := by unfold want; omega
  have hw3 : want L R K ≤ K := by unfold want; omega
  have hw4 : want L R K = max L 1 ∨ want L R K = R ∨ want L R K = K := by unfold want; omega
  generalize want L R K = W at *
  have mr := meth_ready ⟨c, 0, none⟩
  have ms := meth_step ⟨c, 0, none⟩
  replace hw4 := Lib.hid hw4
  have H0 := Lib.hid h
  clear h
  go_enter Try.func36, Try.ntmps36
  go_wp2_with fail
  go_loopw [8, 9] (fun i d wr => ∃ s : Nat, s ≤ W ∧ i = .int .i64 s ∧ d = .bool (decide (max L 1 ≤ s)) ∧ Cnt wr c ((L : Int) - (s : Nat)) ((R : Int) - (s : Nat)) ∧ Only (· = c) w wr) (fun i _ _ => W - (intOf i).toNat)
  case atStart => exact ⟨0, Nat.zero_le _, rfl, by rw [decide_eq_false (by omega)], by simpa using H0.out, Only.refl _ _⟩
  case round =>
    obtain ⟨s, hs, rfl, rfl, hC, hO⟩ := hrel
    clear H0
    have hRd := ready_any hC m
    have hSt := Lib.hid (step_any hC (by omega) (by omega) m)
    replace hC := Lib.hid hC
    replace hO := Lib.hid hO
    by_cases h1 : s < K
    · by_cases h2 : max L 1 ≤ s
      · obtain rfl : s = W := by omega
        rw [decide_eq_true h2]
        have h2' := Lib.hid h2
        clear hw4 hRd hSt h2
        go_wp2_with fail
        go_ret2
        exact ⟨ret_fin (decide_eq_true h2'.out).symm, hC.out, hO.out⟩
      · rw [decide_eq_false h2]
        by_cases h3 : s < R
        · have d3 : decide ((0 : Int) < (R : Int) - (s : Nat)) = true := by simp; omega
          rw [d3] at hRd
          replace hRd := Lib.hid hRd
          have hlt : s < W := by have := hw4.out; omega
          have d4 : decide ((L : Int) - (s : Nat) - 1 ≤ 0) = decide (max L 1 ≤ s + 1) := by
            apply Bool.eq_iff_iff.2
            simp only [decide_eq_true_eq]
            omega
          rw [d4] at hSt
          have h2' := Lib.hid h2
          clear d3 d4 h2
          go_wp2_with (first
            | (go_at_call 86; refine hRd.out.mono ?_; rintro e w' ⟨rfl, rfl⟩)
            | (go_at_call 87; refine hSt.out.mono ?_; rintro e w2 ⟨rfl, hC2, hO2⟩
               replace hC2 := Lib.hid hC2
               replace hO2 := Lib.hid hO2))
          go_roundw
          case rel =>
            refine ⟨s + 1, hlt, by go_num, rfl, ?_, hO.out.trans hO2.out⟩
            have := hC2.out
            rw [show (L : Int) - (s : Nat) - 1 = (L : Int) - ((s + 1 : Nat) : Int) by omega, show (R : Int) - (s : Nat) - 1 = (R : Int) - ((s + 1 : Nat) : Int) by omega] at this
            exact this
          case measure => simp [intOf]; omega
        · obtain rfl : s = W := by omega
          have d3 : decide ((0 : Int) < (R : Int) - (s : Nat)) = false := by simp; omega
          rw [d3] at hRd
          replace hRd := Lib.hid hRd
          replace h2 := Lib.hid h2
          clear hw4 d3 hSt
          go_wp2_with (go_at_call 86; refine hRd.out.mono ?_; rintro e w' ⟨rfl, rfl⟩)
          go_ret2
          exact ⟨ret_fin (decide_eq_false h2.out).symm, hC.out, hO.out⟩
    · obtain rfl : s = W := by omega
      have d1 : decide ((s : Int) < (K : Int)) = false := by simp; omega
      clear hw4 hRd hSt
      obtain ⟨dn, hdn⟩ : ∃ dn, decide (max L 1 ≤ s) = dn := ⟨_, rfl⟩
      rw [hdn]
      replace hdn := Lib.hid hdn
      go_wp2_with fail
      go_ret2
      exact ⟨ret_fin hdn.out.symm, hC.out, hO.out⟩

theorem made_any (w : World) : Calls Try.prog 35 #[.int .i64 1, .int .i64 1] w fun e w' => ∃ m, e = .returned (ptr m) ∧ Below w.heap.size w w' := by
  have hN := Lib.hid (mem_yes 1 1 w (by omega) (by omega))
  go_enter Try.func35, Try.ntmps35
  go_wp2_with fail
  refine hN.out.mono ?_
  rintro e w1 ⟨M, rfl, hM, hlo, hB, _⟩
  obtain ⟨c0, c1, c2, _⟩ := hM.hd
  replace hB := Lib.hid hB
  clear hM hlo hN
  go_wp2_with fail
  go_ret
  exact ⟨_, rfl, hB.out⟩

set_option maxHeartbeats 1000000 in
theorem finishes (L R K : Nat) (w : World) (hL : L ≤ 255) (hR : R ≤ 255) (hK : K ≤ 255) :
    Calls Try.prog 5 #[.int .u8 L, .int .u8 R, .int .u8 K] w fun e w' => e = .returned (.bool true) ∧ Below w.heap.size w w' := by
  have hM := Lib.hid (made_any w)
  go_enter Try.func5, Try.ntmps5
  go_wp2_with fail
  refine hM.out.mono ?_
  rintro e w1 ⟨m, rfl, hB1⟩
  replace hB1 := Lib.hid hB1
  clear hM
  have hF := finish_any L R K w1.heap.size (ptr m) (w1.alloc (.cells #[.int .i64 L, .int .i64 R] 78)) (Blk.made w1 _ _) hL hR
  have hwd : want L R K = min (min (max L 1) R) K := rfl
  generalize want L R K = W at *
  have hWb : W ≤ 255 ∧ W ≤ R := by omega
  obtain ⟨dn, hdn⟩ : ∃ dn, decide (max L 1 ≤ W) = dn := ⟨_, rfl⟩
  rw [hdn] at hF
  replace hF := Lib.hid hF
  have hmin : ∀ (N : Nat), max L 1 = N → ∀ (ts : Array TypeId) (t : TypeId) (w : World), (Builtin.min_ ts t #[.int .i64 N, .int .i64 R, .int .i64 K]).run Try.prog w = .ok (.int .i64 W) w := fun N hN ts t w => by
    rw [run_min_int3, show (if (K : Int) < (if (R : Int) < (N : Int) then (R : Int) else (N : Int)) then (K : Int) else (if (R : Int) < (N : Int) then (R : Int) else (N : Int))) = (W : Nat) from by
      split <;> split at * <;> omega]
  have hneed : ∀ N : Nat, max L 1 = N → ((W : Int) == (N : Int)) = dn := fun N hN => by
    rw [← hdn]
    apply Bool.eq_iff_iff.2
    simp only [beq_iff_eq, decide_eq_true_eq]
    omega
  by_cases hz : L = 0
  · subst hz
    have hm1 := hmin 1 (by simp)
    have hn1 := hneed 1 (by simp)
    simp only [Int.natCast_one] at hm1 hn1
    clear hmin hneed hdn hwd
    go_wp2_with fail
    refine hF.out.mono ?_
    rintro e w2 ⟨rfl, hC2, hO2⟩
    have hB2 := Lib.hid ((hB1.out.alloc (o := .cells #[.int .i64 (0 : Nat), .int .i64 R] 78) hB1.out.size).trans (hO2.toBelow (by have := hB1.out.size; simp; omega) (fun x hx e => by have := hB1.out.size; omega)))
    replace hC2 := Lib.hid (show Cnt w2 w1.heap.size _ _ from hC2)
    generalize w1.heap.size = c at *
    clear hO2 hF
    go_wp2_with fail
    refine (awake w2).mono ?_
    rintro e w3 ⟨rfl, hB3⟩
    have hC3 : Cnt w3 c _ _ := Blk.only hC2.out (Only.ofBelow hB3 (fun _ => False)) (by simp)
    have c1 := hC3.cell 1
    simp at c1
    replace hB3 := Lib.hid (hB2.out.trans (hB3.mono hB2.out.size))
    clear hC3
    go_wp2_with fail
    go_ret
    exact ⟨rfl, hB3.out⟩
  · have h1L : (1 : Int) ≤ L := by omega
    have hm1 := hmin L (by omega)
    have hn1 := hneed L (by omega)
    clear hmin hneed hdn hwd hz
    go_wp2_with fail
    refine hF.out.mono ?_
    rintro e w2 ⟨rfl, hC2, hO2⟩
    have hB2 := Lib.hid ((hB1.out.alloc (o := .cells #[.int .i64 L, .int .i64 R] 78) hB1.out.size).trans (hO2.toBelow (by have := hB1.out.size; simp; omega) (fun x hx e => by have := hB1.out.size; omega)))
    replace hC2 := Lib.hid (show Cnt w2 w1.heap.size _ _ from hC2)
    generalize w1.heap.size = c at *
    clear hO2 hF
    go_wp2_with fail
    refine (awake w2).mono ?_
    rintro e w3 ⟨rfl, hB3⟩
    have hC3 : Cnt w3 c _ _ := Blk.only hC2.out (Only.ofBelow hB3 (fun _ => False)) (by simp)
    have c1 := hC3.cell 1
    simp at c1
    replace hB3 := Lib.hid (hB2.out.trans (hB3.mono hB2.out.size))
    clear hC3
    go_wp2_with fail
    go_ret
    exact ⟨rfl, hB3.out⟩

/-! ### the statements -/
theorem own : ownKnob Try.prog.godebug = none := by kernel_rfl
theorem names_lifted (os : Os) (started : os.Started) (H : Type) (enc : TypeId × Value → H) :
    ReturnsInHanded {} Try.checked os 4 .any (Rows.memNamesSpec.pre6 enc Try.prog Try.f4 Rows.memNamesRow.domain false) (Rows.memNamesSpec.post enc Try.prog Try.f4 false true false false) := by
  refine returnsInHanded_of_change (C := Try.checked) own started (by kernel_rfl) Try.func4
    (ChangeSpec.witness6 (enc := enc) (C := Try.checked) false ⟨#[], #[.int .u8 0, .int .u32 0, .int .i64 0], []⟩ 8 (by kernel_rfl) (by kernel_rfl) (by kernel_rfl) (by kernel_rfl)) ?_
  intro W base args ds gs before hval0 hW hcnd hreach
  have hval : ∀ (j : Nat) t v, Try.f4.params[j]? = some t → args[j]? = some v → Value.okWide Try.prog W .any base t v := hval0
  have hW' := hW
  obtain ⟨p, q, hA0, hV, rfl, hfz, hnd⟩ := hW
  have hA : DataW.TrodAll enc Try.prog W 0 (fun _ => true) true Try.f4.params.toList args.toList ds p := hA0
  rw [Try.params4] at hA hval
  obtain ⟨v0, v1, v2, d0, d1, d2, p0, p1, p2, rfl, rfl, rfl, h0, h1, h2⟩ := trodAll_three hA
  obtain ⟨rfl, rfl⟩ := trodVars_none hV
  obtain ⟨a0, rfl, rfl, rfl, w0⟩ := open_int Try.underlying5 (hval 0 5 v0 rfl rfl) h0
  obtain ⟨a1, rfl, rfl, rfl, w1⟩ := open_int Try.underlying52 (hval 1 52 v1 rfl rfl) h1
  obtain ⟨a2, rfl, rfl, rfl, w2⟩ := open_int Try.underlying3 (hval 2 3 v2 rfl rfl) h2
  refine (names a0 a1 a2 W (K.wf_u8 w0) (K.wf_u32 w1).1 (K.wf_u32 w1).2 (K.wf_i64 w2).1 (K.wf_i64 w2).2).mono fun e W' ⟨he, hb⟩ => ?_
  subst he
  exact ⟨_, rfl, post_true (tb := 4) (by kernel_rfl) (by kernel_rfl) rfl rfl Try.underlying4 rfl rfl rfl hW' hb⟩
theorem names_holds : Rows.MemNamesSaid :=
  OpenClaim.holds_of_wide 4 Try.f4 rfl rfl rfl rfl rfl rfl rfl ⟨rfl, rfl, rfl, rfl, rfl⟩ rfl rfl rfl rfl rfl (by kernel_rfl) Try.func4 (by kernel_rfl)
    (of_decide_eq_true (by kernel_rfl)) (by unfold Func.isWrapper; first | (rw [if_pos (by decide +kernel)]; kernel_rfl) | (rw [if_neg (by decide +kernel)]; exact ⟨rfl, rfl⟩))
    (fun os started H enc _ => names_lifted os started H enc)
theorem finishes_lifted (os : Os) (started : os.Started) (H : Type) (enc : TypeId × Value → H) :
    ReturnsInHanded {} Try.checked os 5 .any (Rows.memFinishesSpec.pre6 enc Try.prog Try.f5 Rows.memFinishesRow.domain false) (Rows.memFinishesSpec.post enc Try.prog Try.f5 false true false false) := by
  refine returnsInHanded_of_change (C := Try.checked) own started (by kernel_rfl) Try.func5
    (ChangeSpec.witness6 (enc := enc) (C := Try.checked) false ⟨#[], #[.int .u8 0, .int .u8 0, .int .u8 0], []⟩ 8 (by kernel_rfl) (by kernel_rfl) (by kernel_rfl) (by kernel_rfl)) ?_
  intro W base args ds gs before hval0 hW hcnd hreach
  have hval : ∀ (j : Nat) t v, Try.f5.params[j]? = some t → args[j]? = some v → Value.okWide Try.prog W .any base t v := hval0
  have hW' := hW
  obtain ⟨p, q, hA0, hV, rfl, hfz, hnd⟩ := hW
  have hA : DataW.TrodAll enc Try.prog W 0 (fun _ => true) true Try.f5.params.toList args.toList ds p := hA0
  rw [Try.params5] at hA hval
  obtain ⟨v0, v1, v2, d0, d1, d2, p0, p1, p2, rfl, rfl, rfl, h0, h1, h2⟩ := trodAll_three hA
  obtain ⟨rfl, rfl⟩ := trodVars_none hV
  obtain ⟨a0, rfl, rfl, rfl, w0⟩ := open_int Try.underlying5 (hval 0 5 v0 rfl rfl) h0
  obtain ⟨a1, rfl, rfl, rfl, w1⟩ := open_int Try.underlying5 (hval 1 5 v1 rfl rfl) h1
  obtain ⟨a2, rfl, rfl, rfl, w2⟩ := open_int Try.underlying5 (hval 2 5 v2 rfl rfl) h2
  have b0 := K.wf_u8 w0
  have b1 := K.wf_u8 w1
  have b2 := K.wf_u8 w2
  obtain ⟨n0, rfl⟩ := Int.eq_ofNat_of_zero_le b0.1
  obtain ⟨n1, rfl⟩ := Int.eq_ofNat_of_zero_le b1.1
  obtain ⟨n2, rfl⟩ := Int.eq_ofNat_of_zero_le b2.1
  refine (finishes n0 n1 n2 W (by omega) (by omega) (by omega)).mono fun e W' ⟨he, hb⟩ => ?_
  subst he
  exact ⟨_, rfl, post_true (tb := 4) (by kernel_rfl) (by kernel_rfl) rfl rfl Try.underlying4 rfl rfl rfl hW' hb⟩
theorem finishes_holds : Rows.MemFinishesSaid :=
  OpenClaim.holds_of_wide 5 Try.f5 rfl rfl rfl rfl rfl rfl rfl ⟨rfl, rfl, rfl, rfl, rfl⟩ rfl rfl rfl rfl rfl (by kernel_rfl) Try.func5 (by kernel_rfl)
    (of_decide_eq_true (by kernel_rfl)) (by unfold Func.isWrapper; first | (rw [if_pos (by decide +kernel)]; kernel_rfl) | (rw [if_neg (by decide +kernel)]; exact ⟨rfl, rfl⟩))
    (fun os started H enc _ => finishes_lifted os started H enc)
end Go.Proofs.Ytgagemejcdbgcaa.LawFive
