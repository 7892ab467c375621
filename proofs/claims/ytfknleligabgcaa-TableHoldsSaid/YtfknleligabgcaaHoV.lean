/- TableHolds answers true, whatever it is handed: its beginning, its end. -/
import Derived.Test.YtfknleligabgcaaHoU
import Derived.Test.YtfknleligabgcaaHoB
namespace Go.Proofs.Ytfknleligabgcaa.HoLaw
open Go Go.RowKit Hp K Fl Rw Hm Ar Mm Me LK Ta Ob Ct LawSix LawEight
set_option maxRecDepth 100000

set_option maxHeartbeats 1000000 in
theorem holds_out (s : Int) (A : Option Addr) (len cap : Nat) (W0 : World) (hl : 80 < len) (hlm : len ≤ maxLen) :
    Calls Try.prog 3 #[.int .u32 s, .slice A len cap] W0 fun e w' => e = .returned (.bool true) ∧ Below W0.heap.size W0 w' := by
  unfold maxLen at hlm
  have hN := Lib.hid (made_yes 1 2 W0 (by omega) (by omega))
  have d1 : decide (80 < (len : Int)) = true := by simp; omega
  go_enter Try.func3, Try.ntmps3
  go_wp2_with fail
  refine hN.out.mono ?_
  rintro e w1 ⟨M, rfl, hM⟩
  have hB := hM.2.2.1
  have hE := Lib.hid (new_hold 0 s w1)
  replace hB := Lib.hid hB
  clear hM hN
  go_wp2_with fail
  refine hE.out.mono ?_
  rintro e w2 ⟨rfl, _, hB2⟩
  have hB02 := Lib.hid (hB.out.trans (hB2.mono hB.out.size))
  clear hB2 hE
  generalize w1.heap.size = f at *
  go_wp2_with fail
  refine (awake _).mono ?_
  rintro e w5 ⟨rfl, hb5⟩
  replace hb5 := Lib.hid hb5
  go_wp2_with fail
  go_ret
  exact ⟨rfl, hB02.out.trans (hb5.out.mono hB02.out.size)⟩

set_option maxHeartbeats 8000000 in
theorem holds_in (s : Int) (A : Option Addr) (len cap : Nat) (W0 : World) (hs : 0 ≤ s ∧ s < 4294967296) (hl : len ≤ 80) (hacts : BytesAt W0 A len) :
    Calls Try.prog 3 #[.int .u32 s, .slice A len cap] W0 fun e w' => e = .returned (.bool true) ∧ Below W0.heap.size W0 w' := by
  have hN := Lib.hid (made_yes 1 2 W0 (by omega) (by omega))
  have Hacts := Lib.hid hacts
  have d1 : decide (80 < (len : Int)) = false := by simp; omega
  obtain ⟨i0, hi0, hi1, hi2, hi3⟩ := info_parts Lo.info_int
  replace hs := Lib.hid hs
  clear hacts
  go_enter Try.func3, Try.ntmps3
  go_wp2_with fail
  refine hN.out.mono ?_
  rintro e w1 ⟨M, rfl, hM⟩
  have hE := Lib.hid (new_hold 0 s w1)
  replace hM := Lib.hid hM
  clear hN
  go_wp2_with fail
  refine hE.out.mono ?_
  rintro e w2 ⟨rfl, hH2, hB2⟩
  obtain ⟨f, hf⟩ : ∃ f, f = w1.heap.size := ⟨_, rfl⟩
  rw [← hf] at hH2 ⊢
  have hZ : ∀ b w3, Below w2.heap.size w2 w3 → w2.heap.size ≤ b → Blk w3 b 3 #[.int .i64 1] → SZ W0 w3 M ⟨f, 0, s, 1, 0, (0, 0), 0, false⟩ 1 1 (some ⟨b, 0, none⟩) 1 := fun b w3 hb3 hbl hk => by
    obtain ⟨g1, g2, g3, g4, _, _, g7, _, g9, _⟩ := hM.out
    have hM3 := (g1.below hB2).below hb3
    have hlo : W0.heap.size ≤ w2.heap.size := Nat.le_trans g3.size hB2.size
    refine { mem := hM3, hold := hH2.below hb3, row := ?_, far := fun x hx q => ?_, lowA := fun x hx => ?_, lowf := by rw [hf]; exact g3.size, lowM := g2, below := (g3.trans (hB2.mono g3.size)).trans (hb3.mono hlo), xs := g4, ds := g9, hs := g7 }
    · exact ⟨rfl, .inr ⟨b, 1, _, rfl, Nat.zero_le _, hk, Nat.le_refl _, by simp [maxLen], rfl, rfl⟩⟩
    · have hx : b = x := by simpa [In] using hx
      have := (g1.below hB2).lt q
      omega
    · have hx : b = x := by simpa [In] using hx
      omega
  replace hZ := Lib.hid hZ
  replace hf := Lib.hid hf
  have lf := hH2.lt
  have lm : M.m < w2.heap.size := Nat.lt_of_lt_of_le hM.out.1.1.lt hB2.size
  clear hH2 hB2 hE
  go_wp2_with fail
  have hZ0 := Lib.hid (hZ.out _ _ ((Below.refl _ _).alloc (Nat.le_refl _) _) (Nat.le_refl _) (Blk.made w2 3 #[.int .i64 1]))
  clear hZ
  generalize w2.heap.size = b0 at *
  generalize w2.alloc (.cells #[.int .i64 1] 3) = w3 at *
  obtain ⟨m, hm⟩ : ∃ m, m = M.m := ⟨_, rfl⟩
  rw [← hm]
  replace hm := Lib.hid hm
  clear hM lm
  go_loopw [7, 8] (fun v i wr => ∃ (k : Nat) (M : Mo) (A1 : Option Addr) (cap1 : Nat), 1 ≤ k ∧ k ≤ 5 ∧ i = .int .i64 k ∧ v = .slice A1 k cap1 ∧ M.m = m ∧ SZ W0 wr M ⟨f, 0, s, 1, 0, (0, 0), 0, false⟩ k k A1 cap1) (fun _ i _ => 5 - (intOf i).toNat)
  case atStart => exact ⟨1, M, _, _, by omega, by omega, rfl, rfl, hm.out.symm, hZ0.out⟩
  case round =>
    rename_i v i wr
    obtain ⟨k, M, A1, cap1, hk1, hk5, rfl, rfl, hmm, hZ⟩ := hrel
    clear hZ0
    by_cases hlt : k < 5
    · have hT := table_ok hZ.mem (2 ^ (k + 1)) (by rcases (by omega : k = 1 ∨ k = 2 ∨ k = 3 ∨ k = 4) with e | e | e | e <;> subst e <;> rfl) (by rw [hZ.xs]; rcases (by omega : k = 1 ∨ k = 2 ∨ k = 3 ∨ k = 4) with e | e | e | e <;> subst e <;> simp) (by rw [hZ.ds]; simp [dss]; omega)
      have hT2 : Calls Try.prog 7 #[ptr m, .int .i64 ((2 ^ (k + 1) : Nat) : Int)] wr fun e w' => e = .returned (.tuple #[.int .i64 k, .int .i64 0]) ∧ ∃ M', M'.m = m ∧ SZ W0 w' M' ⟨f, 0, s, 1, 0, (0, 0), 0, false⟩ (k + 1) k A1 cap1 := by
        rw [← hmm]
        refine hT.mono ?_
        rintro e w' ⟨rfl, hT⟩
        refine ⟨?_, hZ.tabled ⟨hk1, by omega⟩ hT⟩
        rw [hZ.ds]
        rcases (by omega : k = 1 ∨ k = 2 ∨ k = 3 ∨ k = 4) with e | e | e | e <;> subst e <;> rfl
      clear hT hZ hmm
      rcases (by omega : k = 1 ∨ k = 2 ∨ k = 3 ∨ k = 4) with e | e | e | e
      · subst e
        clear hk1 hk5 hlt
        simp only [Nat.reduceAdd, Nat.reducePow] at hT2
        replace hT2 := Lib.hid hT2
        go_wp2_with fail
        refine hT2.out.mono ?_
        rintro e w4 ⟨rfl, M', hmm, hZ⟩
        have hR := hZ.row
        have hP := Lib.hid (fun A' cap' w' (hr : Lo.Ints w' A' cap' (szs.take (1 + 1))) (ho : Only (In A1) w4 w') hn => hZ.pushed hr ho hn)
        clear hZ
        replace hmm := Lib.hid hmm
        go_wp2_with (at_builtin
                     refine wpList_append_one w4 rfl (.tmp 60) (.tmp 62) 29 rfl 3 i0 (.int .i64 0) 1 8 Try.underlying29 hi0 hi1 hi2 hi3 rfl (by omega) Lo.int1 (fun _ => rfl) (by intro x u hu; simp [Lo.int1] at hu; subst hu; rfl)
                       A1 cap1 1 (szs.take 1) rfl 4 #[.int .i64 4] rfl rfl hR rfl (by simp only [maxLen]; omega) (by omega) ?_
                     intro A2 cap2 w5 hR5 hO5 hA5
                     have hZ5 := Lib.hid (hP.out A2 cap2 w5 hR5 hO5 hA5)
                     clear hR5 hO5 hA5 hP hR)
        go_roundw
        case rel => exact ⟨2, M', A2, cap2, by omega, by omega, rfl, rfl, hmm.out, hZ5.out⟩
        case measure => simp [intOf]
      · subst e
        clear hk1 hk5 hlt
        simp only [Nat.reduceAdd, Nat.reducePow] at hT2
        replace hT2 := Lib.hid hT2
        go_wp2_with fail
        refine hT2.out.mono ?_
        rintro e w4 ⟨rfl, M', hmm, hZ⟩
        have hR := hZ.row
        have hP := Lib.hid (fun A' cap' w' (hr : Lo.Ints w' A' cap' (szs.take (2 + 1))) (ho : Only (In A1) w4 w') hn => hZ.pushed hr ho hn)
        clear hZ
        replace hmm := Lib.hid hmm
        go_wp2_with (at_builtin
                     refine wpList_append_one w4 rfl (.tmp 60) (.tmp 62) 29 rfl 3 i0 (.int .i64 0) 1 8 Try.underlying29 hi0 hi1 hi2 hi3 rfl (by omega) Lo.int1 (fun _ => rfl) (by intro x u hu; simp [Lo.int1] at hu; subst hu; rfl)
                       A1 cap1 2 (szs.take 2) rfl 8 #[.int .i64 8] rfl rfl hR rfl (by simp only [maxLen]; omega) (by omega) ?_
                     intro A2 cap2 w5 hR5 hO5 hA5
                     have hZ5 := Lib.hid (hP.out A2 cap2 w5 hR5 hO5 hA5)
                     clear hR5 hO5 hA5 hP hR)
        go_roundw
        case rel => exact ⟨3, M', A2, cap2, by omega, by omega, rfl, rfl, hmm.out, hZ5.out⟩
        case measure => simp [intOf]
      · subst e
        clear hk1 hk5 hlt
        simp only [Nat.reduceAdd, Nat.reducePow] at hT2
        replace hT2 := Lib.hid hT2
        go_wp2_with fail
        refine hT2.out.mono ?_
        rintro e w4 ⟨rfl, M', hmm, hZ⟩
        have hR := hZ.row
        have hP := Lib.hid (fun A' cap' w' (hr : Lo.Ints w' A' cap' (szs.take (3 + 1))) (ho : Only (In A1) w4 w') hn => hZ.pushed hr ho hn)
        clear hZ
        replace hmm := Lib.hid hmm
        go_wp2_with (at_builtin
                     refine wpList_append_one w4 rfl (.tmp 60) (.tmp 62) 29 rfl 3 i0 (.int .i64 0) 1 8 Try.underlying29 hi0 hi1 hi2 hi3 rfl (by omega) Lo.int1 (fun _ => rfl) (by intro x u hu; simp [Lo.int1] at hu; subst hu; rfl)
                       A1 cap1 3 (szs.take 3) rfl 16 #[.int .i64 16] rfl rfl hR rfl (by simp only [maxLen]; omega) (by omega) ?_
                     intro A2 cap2 w5 hR5 hO5 hA5
                     have hZ5 := Lib.hid (hP.out A2 cap2 w5 hR5 hO5 hA5)
                     clear hR5 hO5 hA5 hP hR)
        go_roundw
        case rel => exact ⟨4, M', A2, cap2, by omega, by omega, rfl, rfl, hmm.out, hZ5.out⟩
        case measure => simp [intOf]
      · subst e
        clear hk1 hk5 hlt
        simp only [Nat.reduceAdd, Nat.reducePow] at hT2
        replace hT2 := Lib.hid hT2
        go_wp2_with fail
        refine hT2.out.mono ?_
        rintro e w4 ⟨rfl, M', hmm, hZ⟩
        have hR := hZ.row
        have hP := Lib.hid (fun A' cap' w' (hr : Lo.Ints w' A' cap' (szs.take (4 + 1))) (ho : Only (In A1) w4 w') hn => hZ.pushed hr ho hn)
        clear hZ
        replace hmm := Lib.hid hmm
        go_wp2_with (at_builtin
                     refine wpList_append_one w4 rfl (.tmp 60) (.tmp 62) 29 rfl 3 i0 (.int .i64 0) 1 8 Try.underlying29 hi0 hi1 hi2 hi3 rfl (by omega) Lo.int1 (fun _ => rfl) (by intro x u hu; simp [Lo.int1] at hu; subst hu; rfl)
                       A1 cap1 4 (szs.take 4) rfl 32 #[.int .i64 32] rfl rfl hR rfl (by simp only [maxLen]; omega) (by omega) ?_
                     intro A2 cap2 w5 hR5 hO5 hA5
                     have hZ5 := Lib.hid (hP.out A2 cap2 w5 hR5 hO5 hA5)
                     clear hR5 hO5 hA5 hP hR)
        go_roundw
        case rel => exact ⟨5, M', A2, cap2, by omega, by omega, rfl, rfl, hmm.out, hZ5.out⟩
        case measure => simp [intOf]
    · obtain rfl : k = 5 := by omega
      replace hZ := Lib.hid hZ
      clear hk1 hk5 hlt
      go_wp2_with fail
      obtain ⟨sb, hA1, hT⟩ := hZ.out.begin 1 0
      have hLh := hZ.out.lh hs.out
      have hW := Lib.hid (show Inv8 W0 (wr.alloc (.cells #[.int .i64 1, .int .i64 0] 34)) s f m wr.heap.size sb 0 from ⟨M, _, hmm, rfl, hT, hLh⟩)
      subst hA1
      clear hZ hT hLh hmm
      generalize wr.alloc (.cells #[.int .i64 1, .int .i64 0] 34) = w9 at *
      generalize wr.heap.size = wb at *
      refine loop_any (Q := _) (W0 := W0) (s := s) (f := f) (m := m) (wb := wb) (sb := sb) (caps := cap1) (A := A) (len := len) (cap := cap) ?_ Hacts.out hl ?_ ?_
      · exact ⟨0, ⟨rfl, rfl, rfl, rfl, rfl, rfl, rfl, rfl, rfl, rfl, rfl⟩, hW.out⟩
      · rintro a' w' ⟨h1, h2, h3, h4⟩
        clear hW
        obtain ⟨g, rfl, hg⟩ := open_act a' h1 h2
        have h5 := hg 4 _ h3
        clear h1 h2 h3 hg
        unfold FR
        rw [h5]
        clear h5
        go_ret
        exact ⟨rfl, h4⟩
      · rintro a' w' ⟨cur, hF, hI⟩
        clear hW
        obtain ⟨M', H', _, _, hT, _⟩ := hI
        have h4 := hT.below
        obtain ⟨g, rfl, hg⟩ := open_act a' hF.defers hF.size
        clear hF hg hT
        unfold FR
        replace h4 := Lib.hid h4
        go_wp2_with (go_at_call 6; refine (awake _).mono ?_; rintro e w3 ⟨rfl, hb3⟩; replace hb3 := Lib.hid hb3)
        go_ret
        exact ⟨rfl, h4.out.trans (hb3.out.mono h4.out.size)⟩
end Go.Proofs.Ytfknleligabgcaa.HoLaw
