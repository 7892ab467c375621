/- Which locks a worker holds: Held. -/
import Derived.Test.YtfknleligabgcaaLocksWalk
import Derived.Test.YtfknleligabgcaaRowKit
namespace Go.Proofs.Ytfknleligabgcaa.Lo
open Go Go.RowKit Hp K Fl Rw

/-- The locks below k that a worker holds. -/
def heldTo (hs : List Int) (n : Int) (k : Nat) : List Nat := (List.range k).filter fun i => decide (0 ≤ n ∧ hol hs i = n)
def int1 (x : Nat) : List Value := [.int .i64 (x : Int)]
/-- A row of numbers of the call's own. -/
abbrev Ints (w : World) (A : Option Addr) (cap : Nat) (xs : List Nat) : Prop := Row w 3 1 int1 A cap xs

theorem heldTo_yes {hs : List Int} {n : Int} {k : Nat} (h : 0 ≤ n ∧ hol hs k = n) : heldTo hs n (k + 1) = heldTo hs n k ++ [k] := by
  unfold heldTo
  rw [List.range_succ, List.filter_append]
  simp only [h, and_self, decide_true, List.filter_cons_of_pos, List.filter_nil]
theorem heldTo_no {hs : List Int} {n : Int} {k : Nat} (h : ¬ (0 ≤ n ∧ hol hs k = n)) : heldTo hs n (k + 1) = heldTo hs n k := by
  unfold heldTo
  rw [List.range_succ, List.filter_append]
  rw [List.filter_cons_of_neg (by simpa using h)]
  simp
theorem heldTo_le (hs : List Int) (n : Int) (k : Nat) : (heldTo hs n k).length ≤ k := by
  unfold heldTo
  exact Nat.le_trans (List.length_filter_le _ _) (by simp)

/-- What a round of Held keeps. -/
def HeldInv (W w : World) (g b : Nat) (hs : List Int) (n : Int) (v : Value) (k : Nat) : Prop :=
  Below W.heap.size W w ∧ LocksAt w g b hs ∧ ∃ A cap, v = .slice A (heldTo hs n k).length cap ∧ Ints w A cap (heldTo hs n k) ∧ ∀ x, In A x → W.heap.size ≤ x

theorem held_any {W : World} {g b : Nat} {hs : List Int} (h : LocksAt W g b hs) (n : Int) :
    Calls Try.prog 16 #[.pointer (some ⟨g, 0, none⟩), .int .i64 n] W fun e w' =>
      ∃ A cap, e = .returned (.slice A (heldTo hs n hs.length).length cap) ∧ Ints w' A cap (heldTo hs n hs.length) ∧ (∀ x, In A x → W.heap.size ≤ x) ∧ Below W.heap.size W w' := by
  have hc : W.cell? ⟨g, 0, none⟩ = some (.slice (some ⟨b, 0, none⟩) hs.length hs.length) := h.1.cell 0
  have hl := h.2.2.2
  have hI := Lib.hid (show HeldInv W W g b hs n (.slice none 0 0) 0 from ⟨Below.refl _ _, h, none, 0, rfl, Row.nil _ _ _ _, by simp [In]⟩)
  obtain ⟨i0, hi0, hz0, hz1, hz2⟩ := info_parts info_int
  clear h
  go_enter Try.func16, Try.ntmps16
  go_wp2_with fail
  go_loopw [5, 12] (fun v i wr => ∃ k : Nat, k ≤ hs.length ∧ i = .int .i64 k ∧ HeldInv W wr g b hs n v k) (fun _ i _ => hs.length - (intOf i).toNat)
  case atStart => exact ⟨0, Nat.zero_le _, rfl, hI.out⟩
  case round =>
    rename_i v i wr
    obtain ⟨k, hk, rfl, hB, hL, A, cap, rfl, hR, hA⟩ := hrel
    by_cases hlt : k < hs.length
    · have c0 := at0 hL k hlt
      have c1 := at1 hL k hlt
      have hc : wr.cell? ⟨g, 0, none⟩ = some (.slice (some ⟨b, 0, none⟩) hs.length hs.length) := hL.1.cell 0
      have hs' := Lib.hid (held_says (hol hs k) n)
      have hkl := heldTo_le hs n k
      replace hL := Lib.hid hL
      replace hR := Lib.hid hR
      replace hA := Lib.hid hA
      replace hB := Lib.hid hB
      have hlen := Lib.hid (rfl : (heldTo hs n k).length = (heldTo hs n k).length)
      generalize decide (0 ≤ hol hs k) = p at *
      generalize (if 0 ≤ hol hs k then hol hs k else 0) = q at *
      generalize hm : (heldTo hs n k).length = m at *
      replace hm := Lib.hid hm
      by_cases hh : 0 ≤ n ∧ hol hs k = n
      · have hd := Lib.hid (show decide (0 ≤ n ∧ hol hs k = n) = true from decide_eq_true hh)
        replace hh := Lib.hid hh
        go_wp2_with (first
          | (go_at_call 32; refine (held_by _ _ _ _).mono ?_; rintro e w1 ⟨rfl, hb1⟩; rw [hs'.out, hd.out]
             have hR1 := hR.out.only (Only.ofBelow hb1 (fun _ => False)) (by simp)
             replace hb1 := Lib.hid hb1)
          | (at_builtin
             refine wpList_append_one w1 rfl (.tmp 24) (.tmp 26) 29 rfl 3 i0 (.int .i64 0) 1 8 Try.underlying29 hi0 hz0 hz1 hz2 rfl (by omega) int1 (fun _ => rfl) (by intro x u hu; simp [int1] at hu; subst hu; rfl)
                 A cap m (heldTo hs n k) hm.out k #[.int .i64 k] rfl rfl hR1 rfl (by simp only [maxLen]; omega) (by omega) ?_
             intro A1 cap1 w2 hR2 hO2 hA2))
        go_roundw
        case rel =>
          have hO := (Only.ofBelow hb1.out (In A)).trans hO2
          refine ⟨k + 1, by omega, by go_num, hB.out.trans (hO.toBelow hB.out.size (fun x hx hi => by have := hA.out x hi; omega)), hL.out.only hO ?_, A1, cap1, ?_, ?_, fun x hi => ?_⟩
          · rintro x (rfl | rfl)
            · exact hR.out.differ hL.out.1 (by decide)
            · exact hR.out.differ hL.out.2.1 (by decide)
          · rw [heldTo_yes hh.out, List.length_append, hm.out]
            rfl
          · rw [heldTo_yes hh.out]
            exact hR2
          · rcases hA2 x hi with q | q
            · exact hA.out x q
            · have h1 := hb1.out.size
              have h2 := hB.out.size
              omega
        case measure => simp [intOf]; omega
      · have hd := Lib.hid (show decide (0 ≤ n ∧ hol hs k = n) = false from decide_eq_false hh)
        replace hh := Lib.hid hh
        go_wp2_with (first
          | (go_at_call 32; refine (held_by _ _ _ _).mono ?_; rintro e w1 ⟨rfl, hb1⟩; rw [hs'.out, hd.out]; replace hb1 := Lib.hid hb1))
        go_roundw
        case rel =>
          have hO := Only.ofBelow hb1.out (fun _ => False)
          refine ⟨k + 1, by omega, by go_num, hB.out.trans (hb1.out.mono hB.out.size), hL.out.only hO (by simp), A, cap, ?_, ?_, hA.out⟩
          · rw [heldTo_no hh.out, hm.out]
          · rw [heldTo_no hh.out]
            exact hR.out.only hO (by simp)
        case measure => simp [intOf]; omega
    · obtain rfl : k = hs.length := by omega
      replace hL := Lib.hid hL
      replace hR := Lib.hid hR
      replace hA := Lib.hid hA
      replace hB := Lib.hid hB
      go_wp2_with fail
      go_ret
      exact ⟨A, cap, rfl, hR.out, hA.out, hB.out⟩
end Go.Proofs.Ytfknleligabgcaa.Lo
