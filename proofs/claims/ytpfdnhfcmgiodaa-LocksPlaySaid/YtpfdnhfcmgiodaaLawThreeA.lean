/- What the statement of layer 3 uses: the document's pairs, the document's example. -/
import Derived.Test.YtpfdnhfcmgiodaaLocksHeld
import Derived.Test.YtpfdnhfcmgiodaaLawKit
namespace Go.Proofs.Ytpfdnhfcmgiodaa.LawThree
open Go Go.RowKit Hp K Fl Rw Lo LK

/-- A pair's cells: a lock, who holds it. -/
def pr2 (p : Int × Int) : List Value := [.int .i64 p.1, .int .i64 p.2]
theorem pr2_len (p : Int × Int) : (pr2 p).length = 2 := rfl
abbrev Prs (w : World) (A : Option Addr) (cap : Nat) (ps : List (Int × Int)) : Prop := Row w 38 2 pr2 A cap ps
/-- Who holds a lock, by pairs. -/
def hOf : List (Int × Int) → Int → Int
  | [], _ => -1
  | p :: r, i => if p.1 = i then p.2 else hOf r i
def wOut (ps : List (Int × Int)) (i : Int) : List (Int × Int) := ps.filter fun p => decide (p.1 ≠ i)

theorem hOf_wOut (ps : List (Int × Int)) (i j : Int) : hOf (wOut ps i) j = if j = i then -1 else hOf ps j := by
  induction ps with
  | nil => simp [wOut, hOf]
  | cons p r ih =>
    unfold wOut at ih ⊢
    by_cases h : p.1 = i
    · rw [List.filter_cons_of_neg (by simpa using h), ih]
      by_cases hj : j = i
      · simp [hj]
      · have : p.1 ≠ j := by rw [h]; exact fun e => hj e.symm
        simp [hj, hOf, this]
    · rw [List.filter_cons_of_pos (by simpa using h)]
      simp only [hOf, ih]
      by_cases hj : p.1 = j
      · have : j ≠ i := by rw [← hj]; exact h
        simp [hj, this]
      · simp [hj]
theorem hOf_snoc (ps : List (Int × Int)) (hp : ∀ p ∈ ps, 0 ≤ p.2) (i n j : Int) (hi : hOf ps i = -1) : hOf (ps ++ [(i, n)]) j = if j = i then n else hOf ps j := by
  induction ps with
  | nil =>
    by_cases h : j = i
    · simp [hOf, h]
    · have : i ≠ j := fun e => h e.symm
      simp [hOf, h, this]
  | cons p r ih =>
    have hp0 := hp p (List.mem_cons_self ..)
    by_cases h : p.1 = i
    · exfalso
      simp [hOf, h] at hi
      omega
    · simp only [hOf, h, if_false] at hi
      have := ih (fun q hq => hp q (List.mem_cons_of_mem _ hq)) hi
      simp only [List.cons_append, hOf, this]
      by_cases hj : p.1 = j
      · have : j ≠ i := by rw [← hj]; exact h
        simp [hj, this]
      · simp [hj]

theorem prs_at {w : World} {A : Option Addr} {cap : Nat} {ps : List (Int × Int)} (h : Prs w A cap ps) (k : Nat) (hk : k < ps.length) :
    ∃ b x y, A = some ⟨b, 0, none⟩ ∧ ps[k]? = some (x, y) ∧ w.cell? ⟨b, k * 2, none⟩ = some (.int .i64 x) ∧ w.cell? ⟨b, k * 2 + 1, none⟩ = some (.int .i64 y) := by
  obtain ⟨b, rfl, _, hc⟩ := h.cells pr2_len k hk
  exact ⟨b, ps[k].1, ps[k].2, rfl, by simp [hk], (hc 0 (by omega)).1, (hc 1 (by omega)).1⟩

theorem drop_at {ps : List (Int × Int)} {k : Nat} {x y : Int} (h : ps[k]? = some (x, y)) (i : Int) : hOf (ps.drop k) i = if x = i then y else hOf (ps.drop (k + 1)) i := by
  obtain ⟨hk, he⟩ := List.getElem?_eq_some_iff.1 h
  rw [List.drop_eq_getElem_cons hk, he]
  rfl

theorem holder_any {w : World} {A : Option Addr} {cap : Nat} {ps : List (Int × Int)} (h : Prs w A cap ps) (hl : ps.length ≤ 1000000) (i : Int) :
    Calls Try.prog 7 #[.slice A ps.length cap, .int .i64 i] w fun e w' => e = .returned (.int .i64 (hOf ps i)) ∧ w' = w := by
  have hP := Lib.hid h
  clear h
  go_enter Try.func7, Try.ntmps7
  go_wp2_with fail
  go_loop [5] (fun c => ∃ k : Nat, k ≤ ps.length ∧ c = .int .i64 k ∧ Hid (hOf (ps.drop k) i = hOf ps i)) (fun c => ps.length - (intOf c).toNat)
  case atStart => exact ⟨0, Nat.zero_le _, rfl, Lib.hid rfl⟩
  case round =>
    obtain ⟨k, hk, rfl, hd⟩ := hrel
    by_cases hlt : k < ps.length
    · obtain ⟨b, x, y, rfl, hat, c0, c1⟩ := prs_at hP.out k hlt
      have hs := drop_at hat i
      replace hat := Lib.hid hat
      by_cases he : x = i
      · subst he
        rw [if_pos rfl] at hs
        have hr := Lib.hid (hs.symm.trans hd.out)
        clear hs
        go_wp2_with fail
        go_ret
        exact ⟨ret_int hr.out, rfl⟩
      · rw [if_neg he] at hs
        replace hs := Lib.hid (hs.symm.trans hd.out)
        have hb : (x == i) = false := by simpa using he
        clear he
        go_wp2_with fail
        go_round
        case rel => exact ⟨k + 1, by omega, by go_num, hs⟩
        case measure => simp [intOf]; omega
    · obtain rfl : k = ps.length := by omega
      have hd' := Lib.hid (show hOf ps i = -1 from by rw [← hd.out, List.drop_length]; rfl)
      go_wp2_with fail
      go_ret
      exact ⟨ret_int hd'.out.symm, rfl⟩

theorem wOut_len (ps : List (Int × Int)) (i : Int) : (wOut ps i).length ≤ ps.length := List.length_filter_le _ _
theorem wOut_yes {ps : List (Int × Int)} {k : Nat} {x y i : Int} (h : ps[k]? = some (x, y)) (hx : x ≠ i) : wOut (ps.take (k + 1)) i = wOut (ps.take k) i ++ [(x, y)] := by
  unfold wOut
  rw [List.take_add_one, h, List.filter_append]
  simp [hx]
theorem wOut_no {ps : List (Int × Int)} {k : Nat} {x y i : Int} (h : ps[k]? = some (x, y)) (hx : x = i) : wOut (ps.take (k + 1)) i = wOut (ps.take k) i := by
  unfold wOut
  rw [List.take_add_one, h, List.filter_append]
  simp [hx]

def WInv (W w : World) (A : Option Addr) (cap : Nat) (ps : List (Int × Int)) (v : Value) (qs : List (Int × Int)) : Prop :=
  Below W.heap.size W w ∧ Prs w A cap ps ∧ ∃ A' cap', v = .slice A' qs.length cap' ∧ Prs w A' cap' qs ∧ ∀ x, In A' x → W.heap.size ≤ x

theorem info_held : (Try.prog.info? 38).map (fun i => (i.zero, i.size, i.bytes)) = some (some (.agg #[.int .i64 0, .int .i64 0]), 2, 16) := by kernel_rfl

theorem without_any {W : World} {A : Option Addr} {cap : Nat} {ps : List (Int × Int)} (h : Prs W A cap ps) (hl : ps.length ≤ 1000000) (i : Int) :
    Calls Try.prog 8 #[.slice A ps.length cap, .int .i64 i] W fun e w' =>
      ∃ A' cap', e = .returned (.slice A' (wOut ps i).length cap') ∧ Prs w' A' cap' (wOut ps i) ∧ (∀ x, In A' x → W.heap.size ≤ x) ∧ Below W.heap.size W w' := by
  have hI := Lib.hid (show WInv W W A cap ps (.slice none 0 0) (wOut (ps.take 0) i) from ⟨Below.refl _ _, h, none, 0, rfl, Row.nil _ _ _ _, by simp [In]⟩)
  have hlt := Lib.hid (fun b (hb : In A b) => h.lt hb)
  obtain ⟨i0, hi0, hz0, hz1, hz2⟩ := info_parts info_held
  clear h
  go_enter Try.func8, Try.ntmps8
  go_wp2_with fail
  go_loopw [5, 6] (fun v c wr => ∃ k : Nat, k ≤ ps.length ∧ c = .int .i64 k ∧ WInv W wr A cap ps v (wOut (ps.take k) i)) (fun _ c _ => ps.length - (intOf c).toNat)
  case atStart => exact ⟨0, Nat.zero_le _, rfl, hI.out⟩
  case round =>
    rename_i v c wr
    obtain ⟨k, hk, rfl, hB, hP, A1, cap1, rfl, hR, hA⟩ := hrel
    have hq := wOut_len (ps.take k) i
    rw [List.length_take, Nat.min_eq_left hk] at hq
    replace hA := Lib.hid hA
    replace hB := Lib.hid hB
    replace hR := Lib.hid hR
    by_cases hlt' : k < ps.length
    · obtain ⟨b, x, y, rfl, hat, c0, c1⟩ := prs_at hP k hlt'
      replace hP := Lib.hid hP
      generalize hm : (wOut (ps.take k) i).length = m at *
      replace hm := Lib.hid hm
      by_cases he : x = i
      · have hn := Lib.hid (wOut_no hat he)
        subst he
        replace hat := Lib.hid hat
        go_wp2_with fail
        go_roundw
        case rel =>
          refine ⟨k + 1, by omega, by go_num, hB.out, hP.out, A1, cap1, ?_, ?_, hA.out⟩
          · rw [hn.out, hm.out]
          · rw [hn.out]; exact hR.out
        case measure => simp [intOf]; omega
      · have hy := Lib.hid (wOut_yes hat he)
        have hb : (x != i) = true := by simpa using he
        replace hat := Lib.hid hat
        clear he
        go_wp2_with (at_builtin
                     refine wpList_append_one wr rfl (.tmp 20) (.tmp 25) 29 rfl 38 i0 (.agg #[.int .i64 0, .int .i64 0]) 2 16 Try.underlying29 hi0 hz0 hz1 hz2 rfl (by omega) pr2 (fun _ => rfl) (by intro x u hu; simp [pr2] at hu; rcases hu with rfl | rfl <;> rfl)
                         A1 cap1 m (wOut (ps.take k) i) hm.out (x, y) #[.int .i64 x, .int .i64 y] rfl rfl hR.out rfl (by simp only [maxLen]; omega) (by omega) ?_
                     intro A2 cap2 w2 hR2 hO2 hA2)
        go_roundw
        case rel =>
          refine ⟨k + 1, by omega, by go_num, hB.out.trans (hO2.toBelow hB.out.size (fun x hx hi => by have := hA.out x hi; omega)), hP.out.only hO2 ?_, A2, cap2, ?_, ?_, fun x hi => ?_⟩
          · intro z hz hz1
            have h1 := hlt.out z hz
            have h2 := hA.out z hz1
            omega
          · rw [hy.out, List.length_append, hm.out]
            rfl
          · rw [hy.out]
            exact hR2
          · rcases hA2 x hi with q | q
            · exact hA.out x q
            · have h2 := hB.out.size
              omega
        case measure => simp [intOf]; omega
    · obtain rfl : k = ps.length := by omega
      replace hP := Lib.hid hP
      rw [List.take_length] at *
      go_wp2_with fail
      go_ret
      exact ⟨A1, cap1, rfl, hR.out, hA.out, hB.out⟩

theorem foot_new {B g b : Nat} (hg : B ≤ g) (hb : B ≤ b) : ∀ x, x < B → ¬ foot g b x := by
  rintro x hx (h | h) <;> omega

theorem awake (w : World) : Calls Try.prog 4 #[] w fun e w' => e = .returned (.bool true) ∧ Below w.heap.size w w' := by
  go_enter Try.func4, Try.ntmps4
  go_wp2_with fail
  refine (new_yes w 1 (by omega)).mono ?_
  rintro e w1 ⟨g, b, rfl, hL, hg, hb, hB⟩
  have hF := Lib.hid (foot_new hg hb)
  have t1 := Lib.hid (try_free hL 0 (by simp) 5 (by omega) (by omega) (by decide))
  replace hB := Lib.hid hB
  clear hL hg hb
  go_wp2_with fail
  refine t1.out.mono ?_
  rintro e w2 ⟨rfl, hL, hO⟩
  rw [show (List.replicate 1 (-1 : Int)).set 0 5 = [5] from rfl] at hL
  have hB2 := Lib.hid (hB.out.trans (hO.toBelow hB.out.size hF.out))
  have t2 := Lib.hid (try_held hL 0 (by simp) 6 (by omega) (by decide))
  have t3 := Lib.hid (free_other hL 0 (by simp) 6 (by omega) (by decide))
  replace hL := Lib.hid hL
  clear t1 hO hB
  go_wp2_with fail
  refine t2.out.mono ?_
  rintro e w' ⟨rfl, rfl⟩
  go_wp2_with fail
  refine t3.out.mono ?_
  rintro e w3 ⟨rfl, hb3⟩
  have hB3 := Lib.hid (hB2.out.trans (hb3.mono hB2.out.size))
  have t4 := Lib.hid (holder_in (hL.out.only (Only.ofBelow hb3 (fun _ => False)) (by simp)) 0 (by simp))
  rw [show hol [5] 0 = 5 from rfl] at t4
  clear t2 t3 hb3 hB2 hL
  go_wp2_with (go_at_call 11; refine t4.out.mono ?_; rintro e w' ⟨rfl, rfl⟩)
  go_ret
  exact ⟨rfl, hB3.out⟩
end Go.Proofs.Ytpfdnhfcmgiodaa.LawThree
