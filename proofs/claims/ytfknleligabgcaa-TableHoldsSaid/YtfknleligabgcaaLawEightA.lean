/- What the statement of layer 8 uses: the document's example. -/
import Derived.Test.YtfknleligabgcaaTabE
namespace Go.Proofs.Ytfknleligabgcaa.LawEight
open Go Go.RowKit Hp K Fl Rw Hm Ar Mm Me LK Ta LawSix
set_option maxRecDepth 100000

theorem below_drewN (w : World) (n : Nat) : Below w.heap.size w (w.drewN n) := ⟨rfl, rfl, rfl, Nat.le_refl _, fun _ _ => rfl⟩
theorem low_only {W0 a b : World} {M : Mo} {f : Nat} (ha : Below W0.heap.size W0 a) (hlo : ∀ x, mfoot M x → W0.heap.size ≤ x) (hf : W0.heap.size ≤ f) (ho : Only (fun x => mfoot M x ∨ x = f) a b) : Below W0.heap.size W0 b :=
  ha.trans (ho.toBelow ha.size (fun x hx q => by
    rcases q with q | q
    · have := hlo x q; omega
    · omega))
theorem fin_alone (f : Nat) : fin (lready [(1, 3)]) (lstep [1, 0, 0, 0] [(1, 3)]) (ldone [1, 0, 0, 0]) 9 (List.replicate 6 (-1), (⟨f, 0, 7, 1, 0, (0, 0), 0, false⟩ : Ho)) = (3, true, [-1, 0, -1, -1, -1, -1], ⟨f, 0, 7, 5, 0, (1, 3), 1, true⟩) := by
  have e : lkn 7 (1, 3) = 1 := by simp [lkn, FM.bucket, FM.power]
  simp [fin, lready, lstep, ldone, tab, e, Cl.nth, Lo.hol, List.replicate]
set_option maxHeartbeats 1000000 in
theorem awake (w : World) : Calls Try.prog 6 #[] w fun e w' => e = .returned (.bool true) ∧ Below w.heap.size w w' := by
  have hN := Lib.hid (made_yes 1 1 w (by omega) (by omega))
  go_enter Try.func6, Try.ntmps6
  go_wp2_with fail
  refine hN.out.mono ?_
  rintro e w1 ⟨M, rfl, hM, hlo, hB, h1, h2, h3, h4, h5, h6, h7⟩
  clear hN
  have hE := Lib.hid (new_hold 0 7 w1)
  replace hM := Lib.hid hM
  replace hlo := Lib.hid hlo
  replace hB := Lib.hid hB
  replace h1 := Lib.hid h1
  replace h4 := Lib.hid h4
  replace h6 := Lib.hid h6
  clear h2 h3 h7 h5
  go_wp2_with fail
  refine hE.out.mono ?_
  rintro e w2 ⟨rfl, hE2, hB2⟩
  have hM2 := hM.out.below hB2
  have hge : w.heap.size ≤ w1.heap.size := hB.out.size
  have hB02 := Lib.hid (hB.out.trans (hB2.mono hge))
  have hF := finish_hold hM2 hE2 (by rw [h1.out, h4.out, h6.out]; exact ⟨by simp, by simp, by simp, by simp, by simp, by decide, fun i => by cases i <;> simp [tab], by simp, by simp, by simp⟩) 9 (by omega)
  rw [h1.out, h4.out, h6.out, show (1 : Int) :: List.replicate (1 + 2) 0 = [1, 0, 0, 0] from rfl, show (1 : Nat) + 2 = 3 from rfl, fin_alone] at hF
  replace hF := Lib.hid hF
  clear hM hE hB2 hE2 hM2 hB
  generalize w1.heap.size = f at *
  replace hge := Lib.hid hge
  go_wp2_with fail
  refine hF.out.mono ?_
  rintro e w3 ⟨rfl, hM3, hH3, _, hO3⟩
  simp only at hM3 hH3
  have hB3 := Lib.hid (low_only hB02.out hlo.out hge.out hO3)
  replace hM3 := Lib.hid hM3
  replace hH3 := Lib.hid hH3
  clear hF hO3 hB02
  go_wp2_with fail
  refine (LawFive.awake w3).mono ?_
  rintro e w4 ⟨rfl, hB4⟩
  have hM4 := hM3.out.below hB4
  have hH4 := hH3.out.below hB4
  have hB04 := hB3.out.trans (hB4.mono hB3.out.size)
  have hDe := desc_of hH4
  have hLk := Lib.hid (lock_of hH4)
  simp only [if_true] at hDe
  unfold dv at hDe
  replace hDe := Lib.hid hDe
  have dn := desc_n
  replace hM4 := Lib.hid hM4
  replace hH4 := Lib.hid hH4
  replace hB04 := Lib.hid hB04
  clear hM3 hH3 hB3 hB4
  go_wp2_with (first
    | (go_at_call 17; refine hLk.out.mono ?_; rintro e w' ⟨rfl, hw⟩; obtain rfl : w4 = w' := hw.symm))
  refine hDe.out.mono ?_
  rintro e w5 ⟨rfl, hB5⟩
  have hM5 := hM4.out.below hB5
  have hH5 := hH4.out.below hB5
  have hB05 := hB04.out.trans (hB5.mono hB04.out.size)
  have d1 := hM5.hd.2.1
  simp only at d1
  have hHo := Lib.hid (Lo.holder_in hM5.2.2.1 1 (by simp))
  have hDr := Lib.hid (drop_yes hM5 hH5 ⟨by simp, by simp, by simp, by show 1 < M.xs.length; rw [h1.out]; simp, by simp, by show (tab M.ds 0).1 ≤ 65536; rw [h6.out]; simp [tab]⟩ (by simp) (by simp [Lo.hol]) rfl)
  have hge' : w.heap.size ≤ f := hge.out
  replace hge' := Lib.hid hge'
  replace hM5 := Lib.hid hM5
  replace hB05 := Lib.hid hB05
  clear hM4 hH4 hB04 hB5 hDe hLk hH5
  go_wp2_with (go_at_call 12; refine hHo.out.mono ?_; rintro e w' ⟨rfl, hw⟩; obtain rfl : w5 = w' := hw.symm)
  refine hDr.out.mono ?_
  rintro e w6 ⟨rfl, hM6, hH6, hO6⟩
  have hB6 := Lib.hid (low_only hB05.out hlo.out hge'.out hO6)
  have d2 := hM6.hd.2.1
  simp only at d2
  have hHo2 := Lib.hid (Lo.holder_in hM6.2.2.1 1 (by simp))
  clear hM6 hH6 hO6 hDr d1 hHo
  go_wp2_with (go_at_call 12; refine hHo2.out.mono ?_; rintro e w' ⟨rfl, hw⟩; obtain rfl : w6 = w' := hw.symm)
  go_ret
  exact ⟨rfl, hB6.out⟩
end Go.Proofs.Ytfknleligabgcaa.LawEight
