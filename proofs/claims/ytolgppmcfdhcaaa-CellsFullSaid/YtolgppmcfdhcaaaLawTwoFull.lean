/- CellsFull answers true, whatever number it is handed. -/
import Derived.Test.YtolgppmcfdhcaaaLawTwoA
namespace Go.Proofs.Ytolgppmcfdhcaaa.LawTwoFull
open Go Go.RowKit Go.WideShapes Go.ChangeShapes Hp K Cl LK LawTwo

theorem new_full (W : World) : Calls Try.prog 6 #[.int .i64 1048574] W fun e w' => e = .returned (.tuple #[.pointer (some ⟨W.heap.size, 0, none⟩), .int .i64 0]) ∧ Below W.heap.size W w' ∧
    ∃ A cap xs, CellsAt w' W.heap.size A cap xs ∧ xs.length = 1048574 ∧ From A W.heap.size := by
  refine (new_yes W 1048574 (by omega)).mono ?_
  rintro e w' ⟨rfl, hb, A, cap, hC, hA⟩
  exact ⟨rfl, hb, A, cap, _, hC, List.length_replicate, fun b h => Nat.le_of_lt (hA b h)⟩

theorem grow_full {w : World} {g : Nat} {A : Option Addr} {cap m : Nat} {xs : List Int} (h : CellsAt w g A cap xs) (hm : xs.length = m) (n : Nat) (hn : m + n ≤ 1048576) :
    Calls Try.prog 13 #[.pointer (some ⟨g, 0, none⟩), .int .i64 n] w fun e w' => e = .returned (.tuple #[.int .i64 m, .int .i64 0]) ∧ Only (foot g A) w w' ∧ ∃ A' cap' xs', CellsAt w' g A' cap' xs' ∧ xs'.length = m + n := by
  refine (grow_yes h n (by omega)).mono ?_
  rintro e w' ⟨rfl, A', cap', hC, hO, hA⟩
  exact ⟨by rw [hm], hO, A', cap', _, hC, by rw [List.length_append, List.length_replicate, hm]⟩

theorem full_any (n : Int) (W : World) (h0 : 0 ≤ n) (h1 : n ≤ 255) : Calls Try.prog 4 #[.int .u8 n] W fun e w' => e = .returned (.bool true) ∧ Below W.heap.size W w' := by
  have hr : 0 ≤ n % 5 ∧ n % 5 < 5 := by omega
  by_cases h2 : 2 < n % 5
  · have hd : decide (2 < n % 5) = true := by simpa using h2
    go_enter Try.func4, Try.ntmps4
    go_wp2_with fail
    refine (new_full W).mono ?_
    rintro e w1 ⟨rfl, hb1, A, cap, xs, hC, hl, hA⟩
    have hb1 := Lib.hid hb1
    have hG := Lib.hid (grow_no hC (n % 5) (by omega) (by omega) (by omega))
    have hF := Lib.hid (foot_new (Nat.le_refl _) hA)
    have hC := Lib.hid hC
    have hl := Lib.hid hl
    go_wp2_with fail
    refine hG.out.mono ?_
    rintro e w' ⟨rfl, rfl⟩
    go_wp2_with fail
    refine (awake _).mono ?_
    rintro e w2 ⟨rfl, hb2⟩
    have hL := Lib.hid (len_is (cells_below hC.out hb2) hl.out)
    have hb2 := Lib.hid (hb1.out.trans (hb2.mono hb1.out.size))
    go_wp2_with (go_at_call 14; refine hL.out.mono ?_; rintro e w3 ⟨rfl, rfl⟩)
    go_ret
    exact ⟨rfl, hb2.out⟩
  · obtain ⟨j, hj⟩ := Int.eq_ofNat_of_zero_le hr.1
    have hj2 : j ≤ 2 := by omega
    have hj := Lib.hid hj
    clear h2 hr
    go_enter Try.func4, Try.ntmps4
    go_wp2_with fail
    refine (new_full W).mono ?_
    rintro e w1 ⟨rfl, hb1, A, cap, xs, hC, hl, hA⟩
    have hF := Lib.hid (foot_new (Nat.le_refl _) hA)
    have hG := Lib.hid (grow_full hC hl j (by omega))
    replace hb1 := Lib.hid hb1
    clear hC hl hA
    go_wp2_with fail
    rw [hj.out]
    refine hG.out.mono ?_
    rintro e w2 ⟨rfl, hO, A', cap', xs', hC, hl⟩
    replace hb2 := Lib.hid (hb1.out.trans (hO.toBelow hb1.out.size hF.out))
    replace hC := Lib.hid hC
    replace hl := Lib.hid hl
    clear hO hG hb1
    have hd : decide (2 < (j : Int)) = false := by simp; omega
    go_wp2_with fail
    refine (awake _).mono ?_
    rintro e w3 ⟨rfl, hb3⟩
    have hL := Lib.hid (len_is (cells_below hC.out hb3) hl.out)
    replace hb3 := Lib.hid (hb2.out.trans (hb3.mono hb2.out.size))
    go_wp2_with (go_at_call 14; refine hL.out.mono ?_; rintro e w3 ⟨rfl, rfl⟩)
    go_ret
    exact ⟨rfl, hb3.out⟩

theorem full_lifted (os : Os) (started : os.Started) (H : Type) (enc : TypeId × Value → H) :
    ReturnsInHanded {} Try.checked os 4 .any (Rows.cellsFullSpec.pre6 enc Try.prog Try.f4 Rows.cellsFullRow.domain false) (Rows.cellsFullSpec.post enc Try.prog Try.f4 false true false false) := by
  refine returnsInHanded_of_change (C := Try.checked) own started (by kernel_rfl) Try.func4
    (ChangeSpec.witness6 (enc := enc) (C := Try.checked) false ⟨#[], #[.int .u8 0], []⟩ 8 (by kernel_rfl) (by kernel_rfl) (by kernel_rfl) (by kernel_rfl)) ?_
  intro W base args ds gs before hval0 hW hcnd hreach
  have hval : ∀ (j : Nat) t v, Try.f4.params[j]? = some t → args[j]? = some v → Value.okWide Try.prog W .any base t v := hval0
  have hW' := hW
  obtain ⟨p, q, hA0, hV, rfl, hfz, hnd⟩ := hW
  have hA : DataW.TrodAll enc Try.prog W 0 (fun _ => true) true Try.f4.params.toList args.toList ds p := hA0
  rw [Try.params4] at hA hval
  obtain ⟨v0, d0, rfl, rfl, h0⟩ := trodAll_one hA
  obtain ⟨rfl, rfl⟩ := trodVars_none hV
  obtain ⟨a0, rfl, rfl, rfl, w0⟩ := open_int Try.underlying5 (hval 0 5 v0 rfl rfl) h0
  have b0 := wf_u8 w0
  refine (full_any a0 W b0.1 b0.2).mono fun e W' ⟨he, hb⟩ => ?_
  subst he
  exact ⟨_, rfl, post_true (tb := 4) (by kernel_rfl) (by kernel_rfl) rfl rfl Try.underlying4 rfl rfl rfl hW' hb⟩

theorem full_holds : Rows.CellsFullSaid :=
  OpenClaim.holds_of_wide 4 Try.f4 rfl rfl rfl rfl rfl rfl rfl ⟨rfl, rfl, rfl, rfl, rfl⟩ rfl rfl rfl rfl rfl (by kernel_rfl) Try.func4 (by kernel_rfl)
    (of_decide_eq_true (by kernel_rfl)) (by unfold Func.isWrapper; first | (rw [if_pos (by decide +kernel)]; kernel_rfl) | (rw [if_neg (by decide +kernel)]; exact ⟨rfl, rfl⟩))
    (fun os started H enc _ => full_lifted os started H enc)
end Go.Proofs.Ytolgppmcfdhcaaa.LawTwoFull
