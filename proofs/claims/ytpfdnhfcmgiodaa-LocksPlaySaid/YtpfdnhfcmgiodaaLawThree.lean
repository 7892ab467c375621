/- LocksPlay answers true, whatever it is handed. -/
import Derived.Test.YtpfdnhfcmgiodaaLawThreeA
import Derived.Deep.QuietTactic
import Derived.BigQuiet
import Derived.Deep.DeepCutAuto
import Derived.StillTailTactics
import Derived.Deep.RegionHeld3
namespace Go.Proofs.Ytpfdnhfcmgiodaa.LawThree
open Go Go.RowKit Go.WideShapes Go.ChangeShapes Hp K Fl Rw Lo LK

/-- What was handed in: where each act lies, and what it holds. -/
def ActsAt (w : World) (A : Option Addr) (len : Nat) : Prop := ∀ i, i < len → ∃ (b o : Nat) (out : Bool) (n x : Int), A = some ⟨b, o, none⟩ ∧ b < w.heap.size ∧
  w.cell? ⟨b, o + i * 3, none⟩ = some (.bool out) ∧ w.cell? ⟨b, o + i * 3 + 1, none⟩ = some (.int .i64 n) ∧ w.cell? ⟨b, o + i * 3 + 2, none⟩ = some (.int .i64 x) ∧
  (-9223372036854775808 ≤ n ∧ n ≤ 9223372036854775807) ∧ (-9223372036854775808 ≤ x ∧ x ≤ 9223372036854775807)

/-- The state: locks that are held by hs, pairs ps that say the same, in blocks of the call's own. -/
def St (W w : World) (g b : Nat) (A : Option Addr) (cap : Nat) (hs : List Int) (ps : List (Int × Int)) : Prop :=
  LocksAt w g b hs ∧ Prs w A cap ps ∧ Below W.heap.size W w ∧ W.heap.size ≤ g ∧ W.heap.size ≤ b ∧ (∀ x, In A x → W.heap.size ≤ x) ∧ (∀ i : Nat, i < hs.length → hOf ps i = hol hs i) ∧ (∀ p ∈ ps, 0 ≤ p.2)

section
variable {W w w' : World} {g b : Nat} {A A' : Option Addr} {cap cap' : Nat} {hs : List Int} {ps : List (Int × Int)}
theorem St.below (h : St W w g b A cap hs ps) (hb : Below w.heap.size w w') : St W w' g b A cap hs ps := by
  obtain ⟨hL, hP, hB, h1, h2, h3, h4⟩ := h
  have ho := Only.ofBelow hb (fun _ => False)
  exact ⟨hL.only ho (by simp), hP.only ho (by simp), hB.trans (hb.mono hB.size), h1, h2, h3, h4⟩
theorem St.drewN (h : St W w g b A cap hs ps) (n : Nat) : St W (w.drewN n) g b A cap hs ps :=
  h.below (((Only.refl (fun _ => False) w).drewN n).toBelow (Nat.le_refl _) (by simp))
theorem St.alloc (h : St W w g b A cap hs ps) (o : Obj) : St W (w.alloc o) g b A cap hs ps := h.below ((Below.refl _ _).alloc (Nat.le_refl _) _)
/-- A row of numbers beside it turned. -/
theorem St.ints {B : Option Addr} {c : Nat} {l : List Nat} (h : St W w g b A cap hs ps) (hI : Ints w B c l) (ho : Only (In B) w w') (hB : ∀ x, In B x → W.heap.size ≤ x) : St W w' g b A cap hs ps := by
  obtain ⟨hL, hP, hW, h1, h2, h3, h4⟩ := h
  refine ⟨hL.only ho ?_, hP.only ho (fun x hx => hP.apart hI (by decide) hx), hW.trans (ho.toBelow hW.size (fun x hx hi => by have := hB x hi; omega)), h1, h2, h3, h4⟩
  rintro x (rfl | rfl)
  · exact hI.differ hL.1 (by decide)
  · exact hI.differ hL.2.1 (by decide)
/-- A lock taken or freed; pairs that say so. -/
theorem St.locks {hs' : List Int} (h : St W w g b A cap hs ps) (hL' : LocksAt w' g b hs') (ho : Only (foot g b) w w') (hl : hs'.length = hs.length)
    {w2 : World} {ps' : List (Int × Int)} (hP' : Prs w2 A' cap' ps') (ho2 : Only (In A) w' w2) (hA' : ∀ x, In A' x → In A x ∨ W.heap.size ≤ x) (hr : ∀ i : Nat, i < hs.length → hOf ps' i = hol hs' i) (hp : ∀ p ∈ ps', 0 ≤ p.2) : St W w2 g b A' cap' hs' ps' := by
  obtain ⟨hL, hP, hW, h1, h2, h3, h4⟩ := h
  have hn : ∀ x, foot g b x → ¬ In A x := by
    rintro x (rfl | rfl)
    · exact hP.differ hL.1 (by decide)
    · exact hP.differ hL.2.1 (by decide)
  have hW1 := hW.trans (ho.toBelow hW.size (foot_new h1 h2))
  refine ⟨hL'.only ho2 hn, hP', hW1.trans (ho2.toBelow hW1.size (fun x hx hi => by have := h3 x hi; omega)), h1, h2, fun x hx => ?_, by rw [hl]; exact hr, hp⟩
  rcases hA' x hx with q | q
  · exact h3 x q
  · exact q
end

theorem foot_act {w : World} {g b : Nat} {hs : List Int} {q : Nat} {cs : Array Value} (hL : LocksAt w g b hs) (hK : Blk w q 31 cs) : ¬ foot g b q := by
  rintro (h | h)
  · exact hK.differ hL.1 (by decide) h
  · exact hK.differ hL.2.1 (by decide) h
theorem hol_set {hs : List Int} {j : Nat} (hj : j < hs.length) (v : Int) (i : Nat) : hol (hs.set j v) i = if i = j then v else hol hs i := by
  unfold hol
  by_cases h : i = j
  · subst h; simp [List.getD, hj]
  · have h' : j ≠ i := fun e => h e.symm
    simp [List.getD, h, h']

/-- What holds ahead of each act. -/
def Inv (W w : World) (g b n : Nat) (v : Value) (k : Nat) : Prop := ∃ (A : Option Addr) (cap : Nat) (hs : List Int) (ps : List (Int × Int)),
  v = .slice A ps.length cap ∧ St W w g b A cap hs ps ∧ hs.length = n ∧ ps.length ≤ k

/-- What holds behind the call: the state, and the act's own block. -/
def Mid (W w : World) (g b n q : Nat) (cs : Array Value) (v : Value) (k : Nat) : Prop := Inv W w g b n v k ∧ Blk w q 31 cs

/-- What a round of the second loop keeps: the locks held by x, as found so far. -/
def TInv (W w : World) (g b : Nat) (A : Option Addr) (cap : Nat) (hs : List Int) (ps : List (Int × Int)) (q : Nat) (cs : Array Value) (x : Int) (v : Value) (j : Nat) : Prop :=
  St W w g b A cap hs ps ∧ Blk w q 31 cs ∧ ∃ B c, v = .slice B (heldTo hs x j).length c ∧ Ints w B c (heldTo hs x j) ∧ ∀ z, In B z → W.heap.size ≤ z

/-- What a round of the third loop keeps. -/
def T2 (W w : World) (g b : Nat) (A : Option Addr) (cap : Nat) (hs : List Int) (ps : List (Int × Int)) (B : Option Addr) (c : Nat) (B' : Option Addr) (c' : Nat) (l : List Nat) : Prop :=
  St W w g b A cap hs ps ∧ Ints w B c l ∧ Ints w B' c' l
theorem ints_at {w : World} {A : Option Addr} {cap : Nat} {xs : List Nat} (h : Ints w A cap xs) (t : Nat) (ht : t < xs.length) : ∃ b, A = some ⟨b, 0, none⟩ ∧ w.cell? ⟨b, t, none⟩ = some (.int .i64 (xs.getD t 0 : Nat)) := by
  obtain ⟨b, rfl, _, hc⟩ := h.cells (fun _ => rfl) t ht
  refine ⟨b, rfl, ?_⟩
  have := (hc 0 (by omega)).1
  simpa [int1, List.getD, ht] using this

/-- Whether a call may be: the lock, the worker. -/
def mayB (n : Nat) (i x : Int) : Bool := decide (0 ≤ i ∧ i < n ∧ 0 ≤ x)

set_option maxRecDepth 100000 in
theorem plays_out (n : Int) (A : Option Addr) (len cap : Nat) (W : World) (hl : len ≤ maxLen) (hc : 100 < len ∨ n < 0 ∨ 64 < n) :
    Calls Try.prog 3 #[.int .i64 n, .slice A len cap] W fun e w' => e = .returned (.bool true) ∧ Below W.heap.size W w' := by
  unfold maxLen at hl
  by_cases ha : 100 < len
  · clear hc
    go_enter Try.func3, Try.ntmps3
    go_wp2_with (go_at_call 4; refine (awake _).mono ?_; rintro e w' ⟨rfl, hb⟩)
    go_ret
    exact ⟨rfl, hb⟩
  · have hN := Lib.hid (new_no (w := W) n (by omega))
    rcases (show n < 0 ∨ 64 < n by omega) with q | q
    all_goals
      clear hc
      go_enter Try.func3, Try.ntmps3
      go_wp2_with (first
        | (go_at_call 4; refine (awake _).mono ?_; rintro e w2 ⟨rfl, hb2⟩)
        | (go_at_call 5; refine hN.out.mono ?_; rintro e w1 ⟨rfl, rfl⟩; clear hN))
      go_ret
      exact ⟨rfl, hb2⟩

set_option maxRecDepth 100000 in
set_option maxHeartbeats 2000000 in
theorem plays_in (n : Nat) (A : Option Addr) (len cap : Nat) (W : World) (hn : n ≤ 64) (hl : len ≤ 100) (hacts : ActsAt W A len) :
    Calls Try.prog 3 #[.int .i64 n, .slice A len cap] W fun e w' => e = .returned (.bool true) ∧ Below W.heap.size W w' := by
  have hN := Lib.hid (new_yes W n (by omega))
  have Hacts := Lib.hid hacts
  have d1 : decide (100 < (len : Int)) = false := by simp; omega
  have d3 : decide ((n : Int) < 0) = false := by simp
  have d4 : decide (64 < (n : Int)) = false := by simp; omega
  clear hacts
  go_enter Try.func3, Try.ntmps3
  go_wp2_with fail
  refine hN.out.mono ?_
  rintro e w1 ⟨g, b, rfl, hL, hg, hb, hB⟩
  have hLen := Lib.hid (len_any hL)
  have H0 := Lib.hid (show Inv W w1 g b n (.slice none 0 0) 0 from ⟨none, 0, List.replicate n (-1), [], rfl, ⟨hL, Row.nil _ _ _ _, hB, hg, hb, by simp [In], fun i hi => by simp [hOf, hol, List.getD, List.getElem?_replicate]; split <;> rfl, by simp⟩, by simp, by simp⟩)
  simp only [List.length_replicate] at hLen
  clear hL hg hb hB hN
  go_wp2_with (go_at_call 6; refine hLen.out.mono ?_; rintro e w' ⟨rfl, rfl⟩)
  clear hLen d1 d3 d4
  go_loopw [7, 57] (fun v i wr => ∃ k : Nat, k ≤ len ∧ i = .int .i64 k ∧ Inv W wr g b n v k) (fun _ i _ => len - (intOf i).toNat)
  case atStart => exact ⟨0, Nat.zero_le _, rfl, H0.out⟩
  case round =>
    rename_i v i wr
    obtain ⟨k, hk, rfl, hInv⟩ := hrel
    clear H0
    by_cases hlt : k < len
    · obtain ⟨b', o, out, ii, x, rfl, hb, c0, c1, c2, k1, k2⟩ := Hacts.out k hlt
      obtain ⟨A1, cap1, hs, ps, rfl, hS, hlen, hpl⟩ := hInv
      have hB := hS.2.2.1
      rw [← hB.cell (p := ⟨b', _, none⟩) hb] at c0 c1 c2
      have hS0 := Lib.hid (hS.alloc (.cells #[.bool out, .int .i64 ii, .int .i64 x] 31))
      have hK0 := Lib.hid (Blk.made wr 31 #[.bool out, .int .i64 ii, .int .i64 x])
      clear hS hB
      go_upto_region 12 with (fail)
      generalize wr.alloc (.cells #[.bool out, .int .i64 ii, .int .i64 x] 31) = w0 at *
      generalize wr.heap.size = q at *
      have m0 := hK0.out.cell 0
      have m1 := hK0.out.cell 1
      have m2 := hK0.out.cell 2
      simp at m0 m1 m2
      clear c0 c1 c2
      go_cut [10] (fun s wx => s = .bool (mayB n ii x) ∧ wx = w0)
      case first =>
        by_cases h1 : 0 ≤ ii
        · by_cases h2 : ii < n
          · by_cases h3 : 0 ≤ x
            · skip
              as_aux_lemma =>
                have hm := Lib.hid (show mayB n ii x = true from decide_eq_true ⟨h1, h2, h3⟩)
                go_wp2_with fail
                go_meet
                exact ⟨by rw [hm.out], rfl⟩
            · skip
              as_aux_lemma =>
                have hm := Lib.hid (show mayB n ii x = false from decide_eq_false fun h => h3 h.2.2)
                have hd : decide (0 ≤ x) = false := by simpa using h3
                go_wp2_with fail
                go_meet
                exact ⟨by rw [hm.out], rfl⟩
          · skip
            as_aux_lemma =>
              have hm := Lib.hid (show mayB n ii x = false from decide_eq_false fun h => h2 h.2.1)
              have hd : decide (ii < (n : Int)) = false := by simpa using h2
              go_wp2_with fail
              go_meet
              exact ⟨by rw [hm.out], rfl⟩
        · skip
          as_aux_lemma =>
            have hm := Lib.hid (show mayB n ii x = false from decide_eq_false fun h => h1 h.1)
            have hd : decide (0 ≤ ii) = false := by simpa using h1
            go_wp2_with fail
            go_meet
            exact ⟨by rw [hm.out], rfl⟩
      case rest =>
        obtain ⟨rfl, rfl⟩ := hcut
        have hH := Lib.hid (holder_any hS0.out.2.1 (by omega) ii)
        have hmy := Lib.hid (rfl : mayB n ii x = mayB n ii x)
        generalize hmy' : mayB n ii x = my at *
        replace hmy := Lib.hid hmy'
        clear hmy'
        go_upto_if 80 with (go_at_call 7; refine hH.out.mono ?_; rintro e w' ⟨rfl, rfl⟩)
        go_cut [7, 11] (fun s _ wx => Mid W wx g b n q #[.bool out, .int .i64 ii, .int .i64 x] s (k + 1))
        case first =>
          cases my with
          | true =>
            obtain ⟨h1, h2, h3⟩ := of_decide_eq_true hmy.out
            obtain ⟨j, rfl⟩ := Int.eq_ofNat_of_zero_le h1
            have hj : j < hs.length := by omega
            have hy := Lib.hid (hS0.out.2.2.2.2.2.2.1 j hj)
            have hyb := hol_bd hS0.out.1.2.2.1 j
            cases out with
            | true =>
              by_cases he : hol hs j = x
              · skip
                as_aux_lemma =>
                  have hw0 := hS0.out.2.2.1.size
                  have hW := Lib.hid (without_any hS0.out.2.1 (by omega) (j : Int))
                  rw [hy.out, he]
                  replace he := Lib.hid he
                  go_wp2_with fail
                  refine hW.out.mono ?_
                  rintro e w1 ⟨A2, cap2, rfl, hP2, hA2, hB2⟩
                  have hS1 := Lib.hid (hS0.out.below hB2)
                  have hK1 := Lib.hid (hK0.out.only (Only.ofBelow hB2 (fun _ => False)) (by simp))
                  have hF := Lib.hid (free_own hS1.out.1 j hj x h3 he.out)
                  have n1 := hK1.out.cell 1
                  have n2 := hK1.out.cell 2
                  simp at n1 n2
                  replace hP2 := Lib.hid hP2
                  replace hA2 := Lib.hid hA2
                  clear hW hB2 hS0 hK0 m0 m1 m2 hH
                  go_wp2_with (go_at_call 9; refine hF.out.mono ?_; rintro e w2 ⟨rfl, hL3, hO3⟩; replace hL3 := Lib.hid hL3; replace hO3 := Lib.hid hO3)
                  go_meet
                  refine ⟨⟨A2, cap2, hs.set j (-1), wOut ps j, rfl, ?_, by simpa using hlen, Nat.le_trans (wOut_len _ _) (by omega)⟩, hK1.out.only hO3.out (foot_act hS1.out.1 hK1.out)⟩
                  refine hS1.out.locks hL3.out hO3.out (by simp) (hP2.out.only hO3.out ?_) (Only.refl _ _) (fun z hz => .inr (Nat.le_trans hw0 (hA2.out z hz))) ?_ ?_
                  · rintro z hz (h | h)
                    · exact hP2.out.differ hS1.out.1.1 (by decide) (h ▸ hz)
                    · exact hP2.out.differ hS1.out.1.2.1 (by decide) (h ▸ hz)
                  · intro z hz
                    rw [hOf_wOut, hol_set hj]
                    by_cases hzj : z = j
                    · simp [hzj]
                    · have : (z : Int) ≠ j := by omega
                      rw [if_neg this, if_neg hzj]
                      exact hS1.out.2.2.2.2.2.2.1 z hz
                  · intro p hp
                    exact hS1.out.2.2.2.2.2.2.2 p (List.mem_filter.1 hp).1
              · skip
                as_aux_lemma =>
                  have hF := Lib.hid (free_other hS0.out.1 j hj x h3 he)
                  have hne : (hol hs j != x) = true := by simpa using he
                  rw [hy.out]
                  clear he
                  generalize hol hs j = y at *
                  go_wp2_with (go_at_call 9; refine hF.out.mono ?_; rintro e w2 ⟨rfl, hB2⟩; replace hB2 := Lib.hid hB2)
                  go_meet
                  exact ⟨⟨A1, cap1, hs, ps, rfl, hS0.out.below hB2.out, hlen, by omega⟩, hK0.out.only (Only.ofBelow hB2.out (fun _ => False)) (by simp)⟩
            | false =>
              by_cases hh : 0 ≤ hol hs j
              · skip
                as_aux_lemma =>
                  have hF := Lib.hid (try_held hS0.out.1 j hj x h3 hh)
                  rw [hy.out]
                  generalize hol hs j = y at *
                  go_wp2_with (go_at_call 10; refine hF.out.mono ?_; rintro e w' ⟨rfl, rfl⟩)
                  go_meet
                  exact ⟨⟨A1, cap1, hs, ps, rfl, hS0.out, hlen, by omega⟩, hK0.out⟩
              · skip
                as_aux_lemma =>
                  have hm1 : hol hs j = -1 := by omega
                  have hF := Lib.hid (try_free hS0.out.1 j hj x h3 (by omega) (by omega))
                  rw [hy.out, hm1]
                  have hi := Lib.hid (hy.out.trans hm1)
                  obtain ⟨i0, hi0, hz0, hz1, hz2⟩ := info_parts info_held
                  clear hh hm1 hyb hH
                  go_wp2_with (first
                    | (go_at_call 10; refine hF.out.mono ?_; rintro e w2 ⟨rfl, hL3, hO3⟩
                       have hP3 := Lib.hid (hS0.out.2.1.only hO3 (fun z hz h => by
                         rcases h with h | h
                         · exact hS0.out.2.1.differ hS0.out.1.1 (by decide) (h ▸ hz)
                         · exact hS0.out.2.1.differ hS0.out.1.2.1 (by decide) (h ▸ hz)))
                       have hK3 := Lib.hid (hK0.out.only hO3 (foot_act hS0.out.1 hK0.out))
                       have n1 := hK3.out.cell 1
                       have n2 := hK3.out.cell 2
                       simp at n1 n2
                       replace hL3 := Lib.hid hL3
                       replace hO3 := Lib.hid hO3
                       clear m0 m1 m2 hK0)
                    | (at_builtin
                       refine wpList_append_one w2 rfl (.tmp 132) (.tmp 138) 29 rfl 38 i0 (.agg #[.int .i64 0, .int .i64 0]) 2 16 Try.underlying29 hi0 hz0 hz1 hz2 rfl (by omega) pr2 (fun _ => rfl) (by intro x u hu; simp [pr2] at hu; rcases hu with rfl | rfl <;> rfl)
                         A1 cap1 ps.length ps rfl (j, x) #[.int .i64 j, .int .i64 x] rfl rfl hP3.out rfl (by simp only [maxLen]; omega) (by omega) ?_
                       intro A4 cap4 w4 hR4 hO4 hA4
                       replace hR4 := Lib.hid hR4
                       replace hO4 := Lib.hid hO4
                       replace hA4 := Lib.hid hA4))
                  go_meet
                  refine ⟨⟨A4, cap4, hs.set j x, ps ++ [((j : Int), x)], by simp, ?_, by simpa using hlen, by simp; omega⟩, hK3.out.only hO4.out (hP3.out.differ hK3.out (by decide))⟩
                  have hw2 := (hS0.out.2.2.1.trans (hO3.out.toBelow hS0.out.2.2.1.size (foot_new hS0.out.2.2.2.1 hS0.out.2.2.2.2.1))).size
                  refine hS0.out.locks hL3.out hO3.out (by simp) hR4.out hO4.out (fun z hz => (hA4.out z hz).imp id (Nat.le_trans hw2)) ?_ ?_
                  · intro z hz
                    rw [hOf_snoc ps hS0.out.2.2.2.2.2.2.2 j x z hi.out, hol_set hj]
                    by_cases hzj : z = j
                    · simp [hzj]
                    · have : (z : Int) ≠ j := by omega
                      rw [if_neg this, if_neg hzj]
                      exact hS0.out.2.2.2.2.2.2.1 z hz
                  · intro p hp
                    rcases List.mem_append.1 hp with hp | hp
                    · exact hS0.out.2.2.2.2.2.2.2 p hp
                    · simp at hp
                      subst hp
                      exact h3
          | false =>
            have hno : ¬ (0 ≤ ii ∧ ii < n ∧ 0 ≤ x) := of_decide_eq_false hmy.out
            cases out with
            | true =>
              as_aux_lemma =>
                have hF : Calls Try.prog 9 #[.pointer (some ⟨g, 0, none⟩), .int .i64 ii, .int .i64 x] w' fun e w2 => e = .returned (.int .i64 2) ∧ w2 = w' := by
                  by_cases h : ii < 0 ∨ (hs.length : Int) ≤ ii
                  · exact free_out hS0.out.1 ii x k1.1 k1.2 h
                  · obtain ⟨j, rfl⟩ := Int.eq_ofNat_of_zero_le (show 0 ≤ ii by omega)
                    exact free_neg hS0.out.1 j (by omega) x (by omega)
                clear hno
                replace hF := Lib.hid hF
                go_wp2_with (go_at_call 9; refine hF.out.mono ?_; rintro e w' ⟨rfl, rfl⟩)
                go_meet
                exact ⟨⟨A1, cap1, hs, ps, rfl, hS0.out, hlen, by omega⟩, hK0.out⟩
            | false =>
              as_aux_lemma =>
                have hF : Calls Try.prog 10 #[.pointer (some ⟨g, 0, none⟩), .int .i64 ii, .int .i64 x] w' fun e w2 => e = .returned (.tuple #[.bool false, .int .i64 2]) ∧ w2 = w' := by
                  by_cases h : ii < 0 ∨ (hs.length : Int) ≤ ii
                  · exact try_out hS0.out.1 ii x k1.1 k1.2 h
                  · obtain ⟨j, rfl⟩ := Int.eq_ofNat_of_zero_le (show 0 ≤ ii by omega)
                    exact try_neg hS0.out.1 j (by omega) x (by omega)
                clear hno
                replace hF := Lib.hid hF
                go_wp2_with (go_at_call 10; refine hF.out.mono ?_; rintro e w' ⟨rfl, rfl⟩)
                go_meet
                exact ⟨⟨A1, cap1, hs, ps, rfl, hS0.out, hlen, by omega⟩, hK0.out⟩
        case rest =>
          obtain ⟨⟨A2, cap2, hs2, ps2, rfl, hS, hlen2, hpl2⟩, hK⟩ := hcut
          have H0 := Lib.hid (show TInv W wc g b A2 cap2 hs2 ps2 q #[.bool out, .int .i64 ii, .int .i64 x] x (.slice none 0 0) 0 from ⟨hS, hK, none, 0, rfl, Row.nil _ _ _ _, by simp [In]⟩)
          obtain ⟨i0, hi0, hz0, hz1, hz2⟩ := info_parts info_int
          clear hS hK hS0 hK0 m0 m1 m2 hH hlen hpl
          go_wp2_with fail
          go_loopw [15, 141] (fun v i wr => ∃ j : Nat, j ≤ n ∧ i = .int .i64 j ∧ TInv W wr g b A2 cap2 hs2 ps2 q #[.bool out, .int .i64 ii, .int .i64 x] x v j) (fun _ i _ => n - (intOf i).toNat)
          case atStart => exact ⟨0, Nat.zero_le _, rfl, H0.out⟩
          case round =>
            rename_i vv cc wr
            obtain ⟨j, hj, rfl, hS, hK, B, c, rfl, hR, hRB⟩ := hrel
            have hjl := heldTo_le hs2 x j
            have hRm := Lib.hid hR
            replace hRB := Lib.hid hRB
            clear hR
            by_cases hjn : j < n
            · have hH := Lib.hid (holder_in hS.1 j (by omega))
              have hH2 := Lib.hid (holder_any hS.2.1 (by omega) (j : Int))
              have hE := Lib.hid (hS.2.2.2.2.2.2.1 j (by omega))
              have m2 := hK.cell 2
              simp at m2
              replace hS := Lib.hid hS
              replace hK := Lib.hid hK
              rw [hE.out] at hH2
              have hH3 : Hid (∀ nq, Calls Try.prog 7 #[.slice A2 ps2.length cap2, .int .i64 j] (wr.drewN nq) fun e w' => e = .returned (.int .i64 (hol hs2 j)) ∧ w' = wr.drewN nq) := by
                refine Lib.hid fun nq => ?_
                rw [← hE.out]
                exact holder_any (hS.out.drewN nq).2.1 (by omega) (j : Int)
              generalize hm : (heldTo hs2 x j).length = m at *
              replace hm := Lib.hid hm
              go_upto_region 34 with (first
                | (go_at_call 11; refine hH.out.mono ?_; rintro e w' ⟨rfl, rfl⟩)
                | (go_at_call 7; refine hH2.out.mono ?_; rintro e w' ⟨rfl, rfl⟩))
              by_cases h0 : 0 ≤ x
              · by_cases he : hol hs2 j = x
                · skip
                  as_aux_lemma =>
                    have hy := Lib.hid (heldTo_yes (hs := hs2) (n := x) (k := j) ⟨h0, he⟩)
                    rw [he] at hH3
                    go_quiet ((go_at_call 7; exact Calls.quiet_of_same (hH3.out _)))
                    have ho : Only (fun _ => False) w' (w'.drewN nq) := (Only.refl _ _).drewN nq
                    have hR2 := Lib.hid (hRm.out.only ho (by simp))
                    have hS2 := Lib.hid (hS.out.drewN nq)
                    have hK2 := Lib.hid (hK.out.only ho (by simp))
                    clear ho m2 hH hH2 hH3 he
                    go_wp2_with (at_builtin
                                 refine wpList_append_one (w'.drewN nq) rfl (.tmp 162) (.tmp 164) 39 rfl 3 i0 (.int .i64 0) 1 8 Try.underlying39 hi0 hz0 hz1 hz2 rfl (by omega) int1 (fun _ => rfl) (by intro x u hu; simp [int1] at hu; subst hu; rfl)
                                   B c m (heldTo hs2 x j) hm.out j #[.int .i64 j] rfl rfl hR2.out rfl (by simp only [maxLen]; omega) (by omega) ?_
                                 intro B3 c3 w3 hR3 hO3 hB3)
                    go_roundw
                    case rel =>
                      have hw := hS2.out.2.2.1.size
                      refine ⟨j + 1, by omega, by go_num, hS2.out.ints hR2.out hO3 hRB.out, hK2.out.only hO3 (hR2.out.differ hK2.out (by decide)), B3, c3, ?_, ?_, fun z hz => ?_⟩
                      · rw [hy.out, List.length_append, hm.out]; rfl
                      · rw [hy.out]; exact hR3
                      · rcases hB3 z hz with q | q
                        · exact hRB.out z q
                        · exact Nat.le_trans hw q
                    case measure => simp [intOf]; omega
                · skip
                  as_aux_lemma =>
                    have hy := Lib.hid (heldTo_no (hs := hs2) (n := x) (k := j) (fun h => he h.2))
                    have hb : (hol hs2 j == x) = false := by simpa using he
                    clear he
                    generalize hol hs2 j = y at *
                    go_quiet ((go_at_call 7; exact Calls.quiet_of_same (hH3.out _)))
                    have ho : Only (fun _ => False) w' (w'.drewN nq) := (Only.refl _ _).drewN nq
                    have hR2 := Lib.hid (hRm.out.only ho (by simp))
                    have hS2 := Lib.hid (hS.out.drewN nq)
                    have hK2 := Lib.hid (hK.out.only ho (by simp))
                    clear ho m2 hH hH2 hH3
                    go_wp2_with fail
                    go_roundw
                    case rel =>
                      refine ⟨j + 1, by omega, by go_num, hS2.out, hK2.out, B, c, ?_, ?_, hRB.out⟩
                      · rw [hy.out, hm.out]
                      · rw [hy.out]; exact hR2.out
                    case measure => simp [intOf]; omega
              · skip
                as_aux_lemma =>
                  have hy := Lib.hid (heldTo_no (hs := hs2) (n := x) (k := j) (fun h => h0 h.1))
                  have hd : decide (0 ≤ x) = false := by simpa using h0
                  go_quiet (fail)
                  have ho : Only (fun _ => False) w' (w'.drewN nq) := (Only.refl _ _).drewN nq
                  have hR2 := Lib.hid (hRm.out.only ho (by simp))
                  have hS2 := Lib.hid (hS.out.drewN nq)
                  have hK2 := Lib.hid (hK.out.only ho (by simp))
                  clear ho m2 hH hH2 hH3
                  go_wp2_with fail
                  go_roundw
                  case rel =>
                    refine ⟨j + 1, by omega, by go_num, hS2.out, hK2.out, B, c, ?_, ?_, hRB.out⟩
                    · rw [hy.out, hm.out]
                    · rw [hy.out]; exact hR2.out
                  case measure => simp [intOf]; omega
            · skip
              as_aux_lemma =>
                obtain rfl : j = n := by omega
                have hG := Lib.hid (held_any hS.1 x)
                rw [hlen2] at hG
                have m2 := hK.cell 2
                simp at m2
                replace hS := Lib.hid hS
                replace hK := Lib.hid hK
                generalize hm : (heldTo hs2 x j).length = m at *
                replace hm := Lib.hid hm
                go_wp2_with (go_at_call 12; refine hG.out.mono ?_
                             rintro e w2 ⟨B3, c3, rfl, hR3, hF3, hB3⟩
                             have hS2 := Lib.hid (hS.out.below hB3)
                             have hR2 := Lib.hid (hRm.out.only (Only.ofBelow hB3 (fun _ => False)) (by simp))
                             replace hR3 := Lib.hid hR3
                             clear hF3 hB3 m2 hG hRm hS)
                have H2 := Lib.hid (show T2 W w2 g b A2 cap2 hs2 ps2 B c B3 c3 (heldTo hs2 x j) from ⟨hS2.out, hR2.out, hR3.out⟩)
                clear hS2 hR2 hR3 H0
                go_loopw [178] (fun i wr => ∃ t : Nat, t ≤ m ∧ i = .int .i64 t ∧ T2 W wr g b A2 cap2 hs2 ps2 B c B3 c3 (heldTo hs2 x j)) (fun i _ => m - (intOf i).toNat)
                case atStart => exact ⟨0, Nat.zero_le _, rfl, H2.out⟩
                case round =>
                  skip
                  obtain ⟨t, ht, rfl, hS, hR, hR'⟩ := hrel
                  by_cases htm : t < m
                  · obtain ⟨b1, rfl, e1⟩ := ints_at hR t (by rw [hm.out]; exact htm)
                    obtain ⟨b2, rfl, e2⟩ := ints_at hR' t (by rw [hm.out]; exact htm)
                    generalize (heldTo hs2 x j).getD t 0 = z at e1 e2
                    replace hS := Lib.hid hS
                    replace hR := Lib.hid hR
                    replace hR' := Lib.hid hR'
                    clear H2
                    go_upto_region 43 with (fail)
                    go_quiet (fail)
                    have ho : Only (fun _ => False) wr (wr.drewN nq) := (Only.refl _ _).drewN nq
                    have H3 := Lib.hid (show T2 W (wr.drewN nq) g b A2 cap2 hs2 ps2 _ c _ c3 (heldTo hs2 x j) from ⟨hS.out.drewN nq, hR.out.only ho (by simp), hR'.out.only ho (by simp)⟩)
                    clear ho hS hR hR' e1 e2
                    go_wp2_with fail
                    go_roundw
                    case rel => exact ⟨t + 1, by omega, by go_num, H3.out⟩
                    case measure => simp [intOf]; omega
                  · obtain rfl : t = m := by omega
                    replace hS := Lib.hid hS
                    clear H2 hR hR'
                    go_wp2_with fail
                    go_roundw
                    case rel => exact ⟨k + 1, by omega, by go_num, A2, cap2, hs2, ps2, rfl, hS.out, hlen2, hpl2⟩
                    case measure => simp [intOf]; omega
    · skip
      as_aux_lemma =>
        obtain rfl : k = len := by omega
        obtain ⟨A1, cap1, hs, ps, rfl, hS, hlen, hpl⟩ := hInv
        replace hS := Lib.hid hS
        have hH1 : ∀ w', Below wr.heap.size wr w' → Calls Try.prog 11 #[.pointer (some ⟨g, 0, none⟩), .int .i64 (-1)] w' fun e w2 => e = .returned (.int .i64 (-1)) ∧ w2 = w' := fun w' h =>
          holder_out (hS.out.below h).1 (-1) (by omega) (by omega) (by omega)
        have hH2 : ∀ w', Below wr.heap.size wr w' → Calls Try.prog 11 #[.pointer (some ⟨g, 0, none⟩), .int .i64 n] w' fun e w2 => e = .returned (.int .i64 (-1)) ∧ w2 = w' := fun w' h =>
          holder_out (hS.out.below h).1 n (by omega) (by omega) (by omega)
        replace hH1 := Lib.hid hH1
        replace hH2 := Lib.hid hH2
        go_wp2_with (go_at_call 4; refine (awake _).mono ?_; rintro e w3 ⟨rfl, hb3⟩; replace hb3 := Lib.hid hb3)
        refine (hH1.out _ hb3.out).mono ?_
        rintro e w4 ⟨rfl, rfl⟩
        go_wp2_with fail
        refine (hH2.out _ hb3.out).mono ?_
        rintro e w5 ⟨rfl, rfl⟩
        go_wp2_with fail
        go_ret
        exact ⟨rfl, hS.out.2.2.1.trans (hb3.out.mono hS.out.2.2.1.size)⟩

/-- What is handed in, opened. -/
theorem acts_of {H : Type} {enc : TypeId × Value → H} {w : World} {base : Nat} {spare : Nat → Bool} {held : Bool} {r : Reach} {b0 : Nat} {v : Value} {d : DataW H} {p : List MemPlace}
    (hv : Value.okWide Try.prog w r b0 22 v) (h : DataW.Trod enc Try.prog w base spare held 22 v d p) :
    ∃ (A : Option Addr) (len cap : Nat), v = .slice A len cap ∧ len ≤ maxLen ∧ ActsAt w A len := by
  obtain ⟨A, len, cap, rfl, hl, hrow⟩ := rows_plain Try.underlying22 Try.underlying31 (by kernel_rfl) (by kernel_rfl) (by decide) hv h
  refine ⟨A, len, cap, rfl, hl, fun i hi => ?_⟩
  obtain ⟨b, o, rfl, hb, hf⟩ := hrow i hi
  obtain ⟨u0, n0, y0, c0, t0⟩ := hf 0 _ rfl
  obtain ⟨u1, n1, y1, c1, t1⟩ := hf 1 _ rfl
  obtain ⟨u2, n2, y2, c2, t2⟩ := hf 2 _ rfl
  obtain ⟨k, e0, _⟩ := DataW.trod_bool Try.underlying4 t0
  obtain ⟨m, e1, _, w1⟩ := DataW.trod_int Try.underlying3 t1
  obtain ⟨x, e2, _, w2⟩ := DataW.trod_int Try.underlying3 t2
  injection e0 with e0; injection e1 with e1; injection e2 with e2
  subst e0; subst e1; subst e2
  exact ⟨b, o, k, m, x, rfl, hb, by simpa using c0, by simpa [Nat.add_assoc] using c1, by simpa [Nat.add_assoc] using c2, wf_i64 w1, wf_i64 w2⟩

theorem plays (n : Int) (A : Option Addr) (len cap : Nat) (W : World) (hl : len ≤ maxLen) (hacts : ActsAt W A len) :
    Calls Try.prog 3 #[.int .i64 n, .slice A len cap] W fun e w' => e = .returned (.bool true) ∧ Below W.heap.size W w' := by
  by_cases h : 100 < len ∨ n < 0 ∨ 64 < n
  · exact plays_out n A len cap W hl h
  · obtain ⟨m, rfl⟩ := Int.eq_ofNat_of_zero_le (show 0 ≤ n by omega)
    exact plays_in m A len cap W (by omega) (by omega) hacts

set_option maxRecDepth 100000 in
theorem plays_lifted (os : Os) (started : os.Started) (H : Type) (enc : TypeId × Value → H) :
    ReturnsInHanded {} Try.checked os 3 .any (Rows.locksPlaySpec.pre6 enc Try.prog Try.f3 Rows.locksPlayRow.domain false) (Rows.locksPlaySpec.post enc Try.prog Try.f3 false true false false) := by
  refine returnsInHanded_of_change (C := Try.checked) own started (by kernel_rfl) Try.func3
    (ChangeSpec.witness6 (enc := enc) (C := Try.checked) false ⟨#[], #[.int .i64 0, .slice none 0 0], []⟩ 8 (by kernel_rfl) (by kernel_rfl) (by kernel_rfl) (by kernel_rfl)) ?_
  intro W base args ds gs before hval0 hW hcnd hreach
  have hval : ∀ (j : Nat) t v, Try.f3.params[j]? = some t → args[j]? = some v → Value.okWide Try.prog W .any base t v := hval0
  have hW' := hW
  obtain ⟨p, q, hA0, hV, rfl, hfz, hnd⟩ := hW
  have hA : DataW.TrodAll enc Try.prog W 0 (fun _ => true) true Try.f3.params.toList args.toList ds p := hA0
  rw [Try.params3] at hA hval
  obtain ⟨v0, v1, d0, d1, p0, p1, rfl, rfl, rfl, h0, h1⟩ := trodAll_two hA
  obtain ⟨rfl, rfl⟩ := trodVars_none hV
  obtain ⟨a0, rfl, rfl, rfl, w0⟩ := open_int Try.underlying3 (hval 0 3 v0 rfl rfl) h0
  obtain ⟨A, len, cap, rfl, hl, hacts⟩ := acts_of (hval 1 22 v1 rfl rfl) h1
  refine (plays a0 A len cap W hl hacts).mono fun e W' ⟨he, hb⟩ => ?_
  subst he
  exact ⟨_, rfl, post_true (tb := 4) (by kernel_rfl) (by kernel_rfl) rfl rfl Try.underlying4 rfl rfl rfl hW' hb⟩

theorem plays_holds : Rows.LocksPlaySaid :=
  OpenClaim.holds_of_wide 3 Try.f3 rfl rfl rfl rfl rfl rfl rfl ⟨rfl, rfl, rfl, rfl, rfl⟩ rfl rfl rfl rfl rfl (by kernel_rfl) Try.func3 (by kernel_rfl)
    (of_decide_eq_true (by kernel_rfl)) (by unfold Func.isWrapper; first | (rw [if_pos (by decide +kernel)]; kernel_rfl) | (rw [if_neg (by decide +kernel)]; exact ⟨rfl, rfl⟩))
    (fun os started H enc _ => plays_lifted os started H enc)
end Go.Proofs.Ytpfdnhfcmgiodaa.LawThree
