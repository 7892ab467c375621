/- The statements of layer 1 answer true, whatever they are handed (for every input; no condition). -/
import Derived.Test.YtnidjoimgmiccaaLawFnv
import Derived.ProofKit
import Derived.OpenShut
import Derived.Test.YtnidjoimgmiccaaKit
namespace Go.Proofs.Ytnidjoimgmiccaa.LawOne
open Go.RowKit Fnv LawFnv

theorem sum_a : FM.sum [97] = 3826002220 := by decide +kernel

set_option maxHeartbeats 400000 in
theorem awake (w : World) : Calls Try.prog 5 #[] w fun e w' => e = .returned (.bool true) ∧ w' = w := by
  go_enter Try.func5, Try.ntmps5
  go_wp2_with fail
  refine (sum_any ⟨#[97]⟩ _ (by decide)).mono ?_
  rintro e w' ⟨rfl, rfl⟩
  rw [show FM.sum (ByteArray.mk #[97]).data.toList = 3826002220 from sum_a]
  go_wp2_with fail
  refine (power_any 8 _ (by omega) (by omega)).mono ?_
  rintro e w' ⟨rfl, rfl⟩
  rw [show FM.power 8 = true from by decide]
  go_wp2_with fail
  refine (power_any 0 _ (by omega) (by omega)).mono ?_
  rintro e w' ⟨rfl, rfl⟩
  rw [show FM.power 0 = false from by decide]
  go_wp2
  go_ret
  exact ⟨rfl, rfl⟩

set_option maxHeartbeats 400000 in
theorem tells (s : ByteArray) (u n : Int) (w : World) (hs : s.size ≤ maxLen) (hs0 : 0 ≤ u) (hs1 : u < 4294967296) (h0 : -9223372036854775808 ≤ n) (h1 : n ≤ 9223372036854775807) :
    Calls Try.prog 3 #[.string s, .int .u32 u, .int .i64 n] w fun e w' => e = .returned (.bool true) ∧ w' = w := by
  have hm := hs
  unfold maxLen at hs
  by_cases hlen : 2000 < s.size
  · go_enter Try.func3, Try.ntmps3
    go_wp2_with (go_at_call 5; refine (awake _).mono ?_; rintro e w' ⟨rfl, rfl⟩)
    go_ret
    exact ⟨rfl, rfl⟩
  · go_enter Try.func3, Try.ntmps3
    go_wp2_with (first
      | (go_at_call 5; refine (awake _).mono ?_; rintro e w' ⟨rfl, rfl⟩)
      | (go_at_call 6; refine (sum_any s _ hm).mono ?_; rintro e w' ⟨rfl, rfl⟩)
      | (go_at_call 7; refine (refsum_any s _ hm).mono ?_; rintro e w' ⟨rfl, rfl⟩)
      | (go_at_call 8; refine (power_any n _ h0 h1).mono ?_; rintro e w' ⟨rfl, rfl⟩)
      | (go_at_call 9; refine (refpower_any n _ h0 h1).mono ?_; rintro e w' ⟨rfl, rfl⟩)
      | (go_at_call 10; refine (bucket_any u n _ hs0 hs1 h0 h1).mono ?_; rintro e w' ⟨rfl, rfl⟩)
      | (go_at_call 11; refine (refbucket_any u n _ hs0 hs1 h0 h1).mono ?_; rintro e w' ⟨rfl, rfl⟩))
    go_ret
    exact ⟨rfl, rfl⟩

theorem shl_pow (k : Int) (h0 : 0 ≤ k) (h1 : k < 16) : ∃ p : Nat, p < 16 ∧ k = p := ⟨k.toNat, by omega, by omega⟩

/-- A sum's bucket of n and of twice as many. -/
theorem split (s : Int) (p : Nat) (hp : p < 16) :
    0 ≤ FM.bucket s ((2 ^ p : Nat) : Int) ∧ FM.bucket s ((2 ^ p : Nat) : Int) < ((2 ^ p : Nat) : Int) ∧
    (FM.bucket s (2 * ((2 ^ p : Nat) : Int)) = FM.bucket s ((2 ^ p : Nat) : Int) ∨ FM.bucket s (2 * ((2 ^ p : Nat) : Int)) = FM.bucket s ((2 ^ p : Nat) : Int) + ((2 ^ p : Nat) : Int)) := by
  have e1 : FM.power ((2 ^ p : Nat) : Int) = true := (FM.power_iff _).2 ⟨p, by omega, rfl⟩
  have e2 : FM.power (2 * ((2 ^ p : Nat) : Int)) = true := (FM.power_iff _).2 ⟨p + 1, by omega, by rw [Nat.pow_succ]; omega⟩
  have hpos : 0 < 2 ^ p := Nat.two_pow_pos p
  unfold FM.bucket
  rw [if_pos e1, if_pos e2]
  generalize 2 ^ p = q at *
  have a0 := Int.emod_nonneg s (show (q : Int) ≠ 0 by omega)
  have a1 := Int.emod_lt_of_pos s (show 0 < (q : Int) by omega)
  have b0 := Int.emod_nonneg s (show 2 * (q : Int) ≠ 0 by omega)
  have b1 := Int.emod_lt_of_pos s (show 0 < 2 * (q : Int) by omega)
  have c1 := Int.mul_ediv_add_emod s q
  have d : s % (2 * q) % q = s % q := Int.emod_emod_of_dvd s (Int.dvd_mul_left 2 q)
  refine ⟨a0, a1, ?_⟩
  generalize s % (2 * (q : Int)) = x at *
  by_cases hx : x < q
  · left; rw [← d, Int.emod_eq_of_lt b0 hx]
  · right
    have : (x - q) % q = s % q := by rw [Int.sub_emod_right, d]
    rw [Int.emod_eq_of_lt (by omega) (by omega)] at this
    omega

set_option maxHeartbeats 400000 in
theorem splits (u k : Int) (w : World) (hs0 : 0 ≤ u) (hs1 : u < 4294967296) (h0 : 0 ≤ k) (h1 : k ≤ 255) :
    Calls Try.prog 4 #[.int .u32 u, .int .u8 k] w fun e w' => e = .returned (.bool true) ∧ w' = w := by
  go_enter Try.func4, Try.ntmps4
  go_wp2_with fail
  obtain ⟨p, hp, hk⟩ : ∃ p : Nat, p < 16 ∧ k % 16 = p := ⟨(k % 16).toNat, by omega, by omega⟩
  have hle : 2 ^ p ≤ 2 ^ 15 := Nat.pow_le_pow_right (by omega) (by omega)
  have hpos : 0 < 2 ^ p := Nat.two_pow_pos p
  have hw : wrap64 (2 ^ (k % 16).toNat) = ((2 ^ p : Nat) : Int) := by
    rw [hk, Int.toNat_natCast, show ((2 : Int) ^ p) = ((2 ^ p : Nat) : Int) by simp, IntWalk.wrap64_in _ (by omega)]
  obtain ⟨g0, g1, g2⟩ := split u p hp
  rw [hw]
  clear hw hk
  generalize 2 ^ p = q at *
  have hq1 : (1 : Int) ≤ q := by omega
  have hq2 : (q : Int) ≤ 32768 := by omega
  clear hle hpos
  refine (bucket_any u q _ hs0 hs1 (by omega) (by omega)).mono ?_
  rintro e w' ⟨rfl, rfl⟩
  generalize FM.bucket u q = b1 at *
  have G2 := Lib.hid g2
  clear g2
  go_wp2_with fail
  refine (bucket_any u _ _ hs0 hs1 (by omega) (by omega)).mono ?_
  rintro e w' ⟨rfl, rfl⟩
  have g2 := G2.out
  clear G2
  generalize FM.bucket u (2 * (q : Int)) = b2 at *
  rcases g2 with rfl | rfl
  · go_wp2_with (go_at_call 5; refine (awake _).mono ?_; rintro e w' ⟨rfl, rfl⟩)
    go_ret
    exact ⟨rfl, rfl⟩
  · have hne : (b1 + (q : Int) == b1) = false := by rw [beq_eq_false_iff_ne]; omega
    go_wp2_with (go_at_call 5; refine (awake _).mono ?_; rintro e w' ⟨rfl, rfl⟩)
    go_ret
    exact ⟨rfl, rfl⟩

/-! The rows. -/
open Go.ChangeShapes Go.WideShapes Go.ChangeAt
open Go.ChangeMaps (open_string shut_string)
theorem own : ownKnob Try.prog.godebug = none := by kernel_rfl

set_option maxRecDepth 100000 in
theorem splits_lifted (os : Os) (started : os.Started) (H : Type) (enc : TypeId × Value → H) :
    ReturnsInHanded {} Try.checked os 4 .any (Rows.fnvSplitsSpec.pre6 enc Try.prog Try.f4 Rows.fnvSplitsRow.domain false) (Rows.fnvSplitsSpec.post enc Try.prog Try.f4 false true false false) := by
  refine returnsInHanded_of_change (C := Try.checked) own started (by kernel_rfl) Try.func4
    (ChangeSpec.witness6 (enc := enc) (C := Try.checked) false ⟨#[], #[.int .u32 0, .int .u8 0], []⟩ 8 (by kernel_rfl) (by kernel_rfl) (by kernel_rfl) (by kernel_rfl)) ?_
  intro W base args ds gs before hval0 hW hcnd _
  have hval : ∀ (j : Nat) t v, Try.f4.params[j]? = some t → args[j]? = some v → Value.okWide Try.prog W .any base t v := hval0
  have hW' := hW
  obtain ⟨p, q, hA0, hV, rfl, hfz, hnd⟩ := hW
  have hA : DataW.TrodAll enc Try.prog W 0 (fun _ => true) true Try.f4.params.toList args.toList ds p := hA0
  rw [Try.params4] at hA hval
  obtain ⟨v0, v1, d0, d1, p0, p1, rfl, rfl, rfl, h0, h1⟩ := trodAll_two hA
  obtain ⟨rfl, rfl⟩ := trodVars_none hV
  obtain ⟨a0, rfl, rfl, rfl, w0⟩ := open_int Try.underlying22 (hval 0 22 v0 rfl rfl) h0
  obtain ⟨a1, rfl, rfl, rfl, w1⟩ := open_int Try.underlying5 (hval 1 5 v1 rfl rfl) h1
  clear hA0 hval0
  simp only [List.append_nil] at hW'
  have b0 := K.wf_u32 w0
  have b1 := K.wf_u8 w1
  refine (splits a0 a1 W b0.1 b0.2 b1.1 b1.2).mono fun e W' ⟨he, hw⟩ => ?_
  subst he; subst hw
  exact ⟨_, rfl, post_of_same (pa := []) (pv := []) hW' (fun _ _ _ => trodAll_mk1 (shut_bool Try.underlying4 _)) (fun sp _ => trodAll_mk2 (shut_int Try.underlying22 w0) (shut_int Try.underlying5 w1)) (fun _ _ => rfl) rfl
    (World.keptBut_refl _ _) (fun _ => rfl) (ok_one (by kernel_rfl) rfl (okWide_bool_mk Try.underlying4 _))⟩

theorem splits_holds : Rows.FnvSplitsSaid :=
  OpenClaim.holds_of_wide 4 Try.f4 rfl rfl rfl rfl rfl rfl rfl ⟨rfl, rfl, rfl, rfl, rfl⟩ rfl rfl rfl rfl rfl (by kernel_rfl) Try.func4 (by kernel_rfl)
    (of_decide_eq_true (by kernel_rfl)) (by unfold Func.isWrapper; first | (rw [if_pos (by decide +kernel)]; kernel_rfl) | (rw [if_neg (by decide +kernel)]; exact ⟨rfl, rfl⟩))
    (fun os started H enc _ => splits_lifted os started H enc)

set_option maxRecDepth 100000 in
theorem tells_lifted (os : Os) (started : os.Started) (H : Type) (enc : TypeId × Value → H) :
    ReturnsInHanded {} Try.checked os 3 .any (Rows.fnvTellsSpec.pre6 enc Try.prog Try.f3 Rows.fnvTellsRow.domain false) (Rows.fnvTellsSpec.post enc Try.prog Try.f3 false true false false) := by
  refine returnsInHanded_of_change (C := Try.checked) own started (by kernel_rfl) Try.func3
    (ChangeSpec.witness6 (enc := enc) (C := Try.checked) false ⟨#[], #[.string ⟨#[]⟩, .int .u32 0, .int .i64 0], []⟩ 8 (by kernel_rfl) (by kernel_rfl) (by kernel_rfl) (by kernel_rfl)) ?_
  intro W base args ds gs before hval0 hW hcnd hreach
  have hval : ∀ (j : Nat) t v, Try.f3.params[j]? = some t → args[j]? = some v → Value.okWide Try.prog W .any base t v := hval0
  have hW' := hW
  obtain ⟨p, q, hA0, hV, rfl, hfz, hnd⟩ := hW
  have hA : DataW.TrodAll enc Try.prog W 0 (fun _ => true) true Try.f3.params.toList args.toList ds p := hA0
  rw [Try.params3] at hA hval
  obtain ⟨v0, v1, v2, d0, d1, d2, p0, p1, p2, rfl, rfl, rfl, h0, h1, h2⟩ := trodAll_three hA
  obtain ⟨rfl, rfl⟩ := trodVars_none hV
  obtain ⟨s, rfl, rfl, rfl, ws⟩ := open_string Try.underlying9 (hval 0 9 v0 rfl rfl) h0
  obtain ⟨a0, rfl, rfl, rfl, w0⟩ := open_int Try.underlying22 (hval 1 22 v1 rfl rfl) h1
  obtain ⟨a1, rfl, rfl, rfl, w1⟩ := open_int Try.underlying3 (hval 2 3 v2 rfl rfl) h2
  clear hA0 hval0
  simp only [List.append_nil] at hW'
  have b0 := K.wf_u32 w0
  have b1 := K.wf_i64 w1
  refine (tells s a0 a1 W ws b0.1 b0.2 b1.1 b1.2).mono fun e W' ⟨he, hw⟩ => ?_
  subst he; subst hw
  exact ⟨_, rfl, post_of_same (pa := []) (pv := []) hW' (fun _ _ _ => trodAll_mk1 (shut_bool Try.underlying4 _)) (fun sp _ => trodAll_mk3 (shut_string Try.underlying9 ws) (shut_int Try.underlying22 w0) (shut_int Try.underlying3 w1)) (fun _ _ => rfl) rfl
    (World.keptBut_refl _ _) (fun _ => rfl) (ok_one (by kernel_rfl) rfl (okWide_bool_mk Try.underlying4 _))⟩

theorem tells_holds : Rows.FnvTellsSaid :=
  OpenClaim.holds_of_wide 3 Try.f3 rfl rfl rfl rfl rfl rfl rfl ⟨rfl, rfl, rfl, rfl, rfl⟩ rfl rfl rfl rfl rfl (by kernel_rfl) Try.func3 (by kernel_rfl)
    (of_decide_eq_true (by kernel_rfl)) (by unfold Func.isWrapper; first | (rw [if_pos (by decide +kernel)]; kernel_rfl) | (rw [if_neg (by decide +kernel)]; exact ⟨rfl, rfl⟩))
    (fun os started H enc _ => tells_lifted os started H enc)
end Go.Proofs.Ytnidjoimgmiccaa.LawOne
