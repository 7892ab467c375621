/- The document's own answers for layer 1: Power and Bucket. -/
import Derived.Test.YtpfpanfpjopcjaaGreatFnvWalk
namespace Go.Proofs.YtpfpanfpjopcjaaGreat.RefFnv
open Go.RowKit Fnv

theorem dbl_le {p : Nat} (h : p < 16) : (2 : Int) ^ p ≤ 32768 := by
  have : 2 ^ p ≤ 2 ^ 15 := Nat.pow_le_pow_right (by omega) (by omega)
  have e : ((2 ^ p : Nat) : Int) = (2 : Int) ^ p := by simp
  omega

set_option maxHeartbeats 400000 in
theorem refpower_any (n : Int) (w : World) (h0 : -9223372036854775808 ≤ n) (h1 : n ≤ 9223372036854775807) :
    Calls Tryz.prog 79 #[.int .i64 n] w fun e w' => e = .returned (.bool (FM.power n)) ∧ w' = w := by
  go_enter Tryz.func79, Tryz.ntmps79
  go_wp2
  go_loop [3] (fun i => ∃ k : Nat, k ≤ 17 ∧ i = .int .i64 ((2 ^ k : Nat) : Int) ∧ ∀ j : Nat, j < k → n ≠ ((2 ^ j : Nat) : Int)) (fun i => (200000 - intOf i).toNat)
  case atStart => exact ⟨0, by omega, rfl, fun j hj => absurd hj (by omega)⟩
  case round =>
    obtain ⟨k, hk, rfl, hno⟩ := hrel
    have hno := Lib.hid hno
    have hpos : 0 < 2 ^ k := Nat.two_pow_pos k
    by_cases hk16 : k ≤ 16
    · have hle : 2 ^ k ≤ 2 ^ 16 := Nat.pow_le_pow_right (by omega) hk16
      have hd := Lib.hid (Nat.pow_succ 2 k)
      generalize hq : 2 ^ k = q at *
      have hq := Lib.hid hq
      by_cases he : n = (q : Int)
      · have hp : FM.power n = true := (FM.power_iff n).2 ⟨k, hk16, by rw [hq.out]; exact he⟩
        have hle' : (q : Int) ≤ 65536 := by omega
        obtain rfl := he
        go_wp2
        go_ret
        exact ⟨rfl, rfl⟩
      · have hle' : (q : Int) ≤ 65536 := by omega
        have he' : (((q : Nat) : Int) == n) = false := by rw [beq_eq_false_iff_ne]; omega
        go_wp2
        go_round
        case rel => exact ⟨k + 1, by omega, by rw [hd.out]; go_num, fun j hj => by
          by_cases hjk : j = k
          · subst hjk; rw [hq.out]; exact he
          · exact hno.out j (by omega)⟩
        case measure => simp [intOf]; omega
    · obtain rfl : k = 17 := by omega
      have hp : FM.power n = false := by
        cases h : FM.power n with
        | false => rfl
        | true =>
          obtain ⟨j, hj, hn⟩ := (FM.power_iff n).1 h
          exact absurd hn (hno.out j (by omega))
      clear hno
      go_wp2
      go_ret
      exact ⟨rfl, rfl⟩

set_option maxHeartbeats 400000 in
theorem refbucket_any (s n : Int) (w : World) (hs0 : 0 ≤ s) (hs1 : s < 4294967296) (h0 : -9223372036854775808 ≤ n) (h1 : n ≤ 9223372036854775807) :
    Calls Tryz.prog 45 #[.int .u32 s, .int .i64 n] w fun e w' => e = .returned (.int .i64 (FM.bucket s n)) ∧ w' = w := by
  cases hp : FM.power n with
  | false =>
    have hb : FM.bucket s n = 0 := by unfold FM.bucket; rw [hp]; rfl
    have hb := Lib.hid hb
    go_enter Tryz.func45, Tryz.ntmps45
    go_wp2_with (go_at_call 79; refine (refpower_any n _ h0 h1).mono ?_; rintro e w' ⟨rfl, rfl⟩)
    go_ret
    exact ⟨ret_int hb.out.symm, rfl⟩
  | true =>
    have hb : FM.bucket s n = s % n := by unfold FM.bucket; rw [hp]; rfl
    have hb := Lib.hid hb
    have hbd := FM.power_bd hp
    have hr : 0 ≤ s % n ∧ s % n < 65536 := ⟨Int.emod_nonneg _ (by omega), by have := Int.emod_lt_of_pos s (show 0 < n by omega); omega⟩
    go_enter Tryz.func45, Tryz.ntmps45
    go_wp2_with (go_at_call 79; refine (refpower_any n _ h0 h1).mono ?_; rintro e w' ⟨rfl, rfl⟩)
    go_ret
    exact ⟨ret_int hb.out.symm, rfl⟩

end Go.Proofs.YtpfpanfpjopcjaaGreat.RefFnv
