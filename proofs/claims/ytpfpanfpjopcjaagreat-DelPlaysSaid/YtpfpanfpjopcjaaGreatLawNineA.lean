/- What the statements of layer 9 use: the document's example. -/
import Derived.Test.YtpfpanfpjopcjaaGreatWalkD
import Derived.Test.YtpfpanfpjopcjaaGreatLawFiveA
import Derived.Test.YtpfpanfpjopcjaaGreatMade
namespace Go.Proofs.YtpfpanfpjopcjaaGreat.LawNine
open Go Go.RowKit Hp K Fl Rw Hm Ar Mm Me LK Wk LawSix
set_option maxRecDepth 100000

theorem nexts_zero (n : Nat) : Nexts (List.replicate n .zero) := fun k => by
  simp only [at', List.getD, List.getElem?_replicate]
  split <;> simp [Sl.zero, Nd.zero]
theorem low_only {W0 a b : World} {M : Mo} {f : Nat} (ha : Below W0.heap.size W0 a) (hlo : ∀ x, mfoot M x → W0.heap.size ≤ x) (hf : W0.heap.size ≤ f) (ho : Only (fun x => mfoot M x ∨ x = f) a b) : Below W0.heap.size W0 b :=
  ha.trans (ho.toBelow ha.size (fun x hx q => by
    rcases q with q | q
    · have := hlo x q; omega
    · omega))
theorem fin_empty (f : Nat) (k : ByteArray) (ss : List Sl) (F : Bool) : wfin [1, 0, 0, 0] ss 5 (F, new f 3 0 k) = (1, true, (F, { new f 3 0 k with nx := 3 })) := by
  simp [wfin, fin, gstep, gdone, goTo, word, new, Cl.nth]
set_option maxHeartbeats 1000000 in
theorem awake (w : World) : Calls Tryz.prog 62 #[] w fun e w' => e = .returned (.bool true) ∧ Below w.heap.size w w' := by
  have hN := Lib.hid (made_yes 1 1 w (by omega) (by omega))
  go_enter Tryz.func62, Tryz.ntmps62
  go_wp2_with fail
  refine hN.out.mono ?_
  rintro e w1 ⟨M, rfl, hM, hlo, hB, h1, h2, h3, h4, h5, h6, h7⟩
  clear hN
  have hE := Lib.hid (new_any 3 0 ⟨#[97]⟩ w1)
  replace hM := Lib.hid hM
  replace hlo := Lib.hid hlo
  replace hB := Lib.hid hB
  replace h1 := Lib.hid h1
  replace h2 := Lib.hid h2
  clear h3 h7 h5 h4 h6
  go_wp2_with fail
  refine hE.out.mono ?_
  rintro e w2 ⟨rfl, hE2, hB2⟩
  have hM2 := hM.out.below hB2
  have hge : w.heap.size ≤ w1.heap.size := hB.out.size
  have hB02 := Lib.hid (hB.out.trans (hB2.mono hge))
  have hF := finish_walk hM2 hE2 (by rw [h2.out]; exact nexts_zero 1) 5 (by omega) ⟨by simp [new], by simp [new], by simp [new], by simp [new]⟩
  rw [h1.out, show (1 : Int) :: List.replicate (1 + 2) 0 = [1, 0, 0, 0] from rfl, fin_empty] at hF
  replace hF := Lib.hid hF
  clear hM hE hB2 hE2 hM2 hB
  generalize w1.heap.size = f at *
  replace hge := Lib.hid hge
  go_wp2_with fail
  refine hF.out.mono ?_
  rintro e w3 ⟨rfl, hM3, hW3, _, hO3⟩
  have hB3 := Lib.hid (low_only hB02.out hlo.out hge.out hO3)
  have hFd : Hid (Calls Tryz.prog 52 #[ptr f] w3 fun e w' => e = .returned (.tuple #[.int .u64 0, .agg #[.string ⟨#[]⟩, .string ⟨#[]⟩, .int .u32 0, .int .u64 0], .bool false]) ∧ Below w3.heap.size w3 w') := Lib.hid (found_any hW3)
  replace hM3 := Lib.hid hM3
  replace hW3 := Lib.hid hW3
  clear hF hO3 hB02
  go_wp2_with fail
  refine hFd.out.mono ?_
  rintro e w4 ⟨rfl, hB4⟩
  have hW4 := hW3.out.below hB4
  have hB04 := Lib.hid (hB3.out.trans (hB4.mono hB3.out.size))
  have lf := hW4.lt
  replace hW4 := Lib.hid hW4
  clear hM3 hW3 hB3 hB4 hFd
  go_wp2_with fail
  refine (LawFive.awake _).mono ?_
  rintro e w5 ⟨rfl, hB5⟩
  have hB45 : Below w4.heap.size w4 w5 := ((Below.refl _ _).alloc (Nat.le_refl _) _).trans (hB5.mono (by simp))
  have hB05 := Lib.hid (hB04.out.trans (hB45.mono hB04.out.size))
  have hFi : Hid (Calls Tryz.prog 96 #[ptr f] w5 fun e w' => e = .returned (.int .u64 0) ∧ w5 = w') := Lib.hid (first_any (hW4.out.below hB45))
  clear hB5 hB45 hB04 hW4
  go_wp2_with (go_at_call 96; refine hFi.out.mono ?_; rintro e w' ⟨rfl, rfl⟩)
  go_ret
  exact ⟨rfl, hB05.out⟩
end Go.Proofs.YtpfpanfpjopcjaaGreat.LawNine
