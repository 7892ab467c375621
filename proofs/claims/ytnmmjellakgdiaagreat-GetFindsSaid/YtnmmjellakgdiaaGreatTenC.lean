/- The statements of layer 10: the document's example. -/
import Derived.Test.YtnmmjellakgdiaaGreatGetD
import Derived.Test.YtnmmjellakgdiaaGreatLawSixA
import Derived.Test.YtnmmjellakgdiaaGreatLawNineA
namespace Go.Proofs.YtnmmjellakgdiaaGreat.LawTen
open Go Go.RowKit Hp K Fl Rw Hm Ar Mm Me LK Qs Wk Gt Pc LawSix
set_option maxRecDepth 100000

theorem low_get {W0 a b : World} {M : Mo} {g : Ga} (ha : Below W0.heap.size W0 a) (hlo : ∀ x, mfoot M x → W0.heap.size ≤ x) (hg : ∀ x, gfoot g x → W0.heap.size ≤ x) (ho : Only (fun x => mfoot M x ∨ gfoot g x) a b) : Below W0.heap.size W0 b :=
  ha.trans (ho.toBelow ha.size (fun x hx q => by
    rcases q with q | q
    · have := hlo x q; omega
    · have := hg x q; omega))
/-- A get in a memory just made. -/
theorem ev_made {n k j : Nat} (hn : n ≤ 1024) (hk : k ≤ 8) (hj : j < k) (key : ByteArray) (F : Bool) : Ev.Ok ⟨[(1, k + 2)], List.replicate n .zero, 1 :: List.replicate (k + 2) 0, F, key, j, [], 0⟩ := by
  have hb := bucket_lt (n := 1) (by decide) (sm key) (sm_bd key).1
  have hz : ∀ i, i ≠ 0 → Cl.nth (1 :: List.replicate (k + 2) 0) i = 0 := by
    intro i hi
    obtain ⟨i, rfl⟩ : ∃ i', i = i' + 1 := ⟨i - 1, by omega⟩
    simp only [Cl.nth, List.getD, List.getElem?_cons_succ, List.getElem?_replicate]
    split <;> rfl
  have hnow : now (1 :: List.replicate (k + 2) 0) [(1, k + 2)] = (1, k + 2) := by
    unfold now
    rw [hz 1 (by omega)]
    rfl
  have hc : Ev.cell ⟨[(1, k + 2)], List.replicate n .zero, 1 :: List.replicate (k + 2) 0, F, key, j, [], 0⟩ = ((k + 2 : Nat) : Int) := by
    unfold Ev.cell cellOf
    simp only
    rw [hnow]
    simp only
    rw [if_neg (by omega)]
    omega
  refine ⟨by simp; omega, LawNine.nexts_zero n, ?_, ⟨by simp; omega, by simp only; omega⟩, ?_, hz _ (by simp only; omega), ?_, ?_, Nat.le_refl _, by simp only; omega⟩
  · intro i
    simp only [tab, List.getD]
    rcases i with _ | i
    · simp; omega
    · simp
  · intro x hx
    simp only [List.mem_cons, List.mem_replicate] at hx
    omega
  · rw [hc]; simp only; omega
  · rw [hc]
    have : word (1 :: List.replicate (k + 2) 0) ((k + 2 : Nat) : Int) = 0 := by
      unfold word
      split
      · rw [Int.toNat_natCast, hz _ (by omega)]; rfl
      · rfl
    simp only
    rw [this]
    exact .nil
set_option maxHeartbeats 1000000 in
theorem awake (w : World) : Calls Tryz.prog 5 #[] w fun e w' => e = .returned (.bool true) ∧ Below w.heap.size w w' := by
  have hN := Lib.hid (made_yes 1 1 w (by omega) (by omega))
  go_enter Tryz.func5, Tryz.ntmps5
  go_wp2_with fail
  refine hN.out.mono ?_
  rintro e w1 ⟨M, rfl, hM, hlo, hB, h1, h2, h3, h4, h5, h6, h7⟩
  clear hN
  have hE := Lib.hid (Gt.new_any 0 ⟨#[97]⟩ (by simp [maxLen]; decide) w1)
  have hv : Ev.Ok ⟨M.ds, M.ss, M.xs, M.F, ⟨#[97]⟩, 0, [], 0⟩ := by
    rw [h1, h2, h6]
    exact ev_made (by omega) (by omega) (by omega) _ _
  replace hv := Lib.hid hv
  replace hM := Lib.hid hM
  replace hlo := Lib.hid hlo
  replace hB := Lib.hid hB
  clear h1 h2 h3 h7 h5 h4 h6
  go_wp2_with fail
  refine hE.out.mono ?_
  rintro e w2 ⟨a, rfl, hE2, hA2, hB2⟩
  have hM2 := hM.out.below hB2
  have hge : w.heap.size ≤ w1.heap.size := hB.out.size
  have hB02 := Lib.hid (hB.out.trans (hB2.mono hge))
  have hF := Lib.hid (get_ends hM2 hE2 hv.out 20 (by omega))
  have hA := Lib.hid (fun x hx => Nat.le_trans hge (hA2 x hx))
  clear hM hE hB2 hE2 hM2 hB hA2 hv hge
  go_wp2_with fail
  refine hF.out.mono ?_
  rintro e w3 ⟨n, G, a', rfl, hn, hr, hf, hM3, hG3, ea, _, hO3⟩
  obtain rfl : n = 5 := by omega
  have hB3 := Lib.hid (low_get hB02.out hlo.out hA.out hO3)
  have hFd := val_any hG3
  rw [hf.1, hf.2, ea] at hFd
  replace hFd : Hid (Calls Tryz.prog 8 #[ptr a.f] w3 fun e w' => e = .returned (.tuple #[.string ⟨#[]⟩, .bool false]) ∧ Below w3.heap.size w3 w') := Lib.hid hFd
  clear hF hO3 hB02 hM3 hG3 hn hr hf ea hA hlo
  go_wp2_with fail
  refine hFd.out.mono ?_
  rintro e w4 ⟨rfl, hB4⟩
  have hB04 := Lib.hid (hB3.out.trans (hB4.mono hB3.out.size))
  clear hB3 hB4 hFd
  go_wp2_with fail
  refine (LawSix.awake _).mono ?_
  rintro e w5 ⟨rfl, hB5⟩
  have hB05 := Lib.hid (hB04.out.trans (hB5.mono hB04.out.size))
  clear hB5 hB04
  go_wp2_with fail
  refine (LawNine.awake _).mono ?_
  rintro e w6 ⟨rfl, hB6⟩
  have hB06 := Lib.hid (hB05.out.trans (hB6.mono hB05.out.size))
  clear hB6 hB05
  go_wp2_with fail
  go_ret
  exact ⟨rfl, hB06.out⟩
end Go.Proofs.YtnmmjellakgdiaaGreat.LawTen
