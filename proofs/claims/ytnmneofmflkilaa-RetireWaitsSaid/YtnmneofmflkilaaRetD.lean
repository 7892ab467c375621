/- Layer 7 (retire): a whole step of a drain, in the words of plain lists; behind mem.Finish. -/
import Derived.Test.YtnmneofmflkilaaRetC
import Derived.Test.YtnmneofmflkilaaFinish
namespace Go.Proofs.Ytnmneofmflkilaa.Re
open Go Go.RowKit Hp K Fl Rw Hm Ar Mm Me Qs
set_option maxRecDepth 100000

/-- The place of a live handle. -/
def place (x : Nat) : Nat := (x - 1) % 65536
theorem place_at {ss : List Sl} {x k : Nat} (hl : ss.length ≤ 1024) (h : IsAt ss x k) : place x = k := (isAt_parts hl h).1
/-- A drain's step: the memory, the drain. -/
def dstep (n : Nat) (M : Mo) (D : Dr) : Mo × Dr :=
  if D.at_ = 0 then ({ M with V := none, capV := 0, ws := [] }, { D with A := M.V, cap := M.capV, left := M.ws, at_ := 1 })
  else if D.at_ = 1 then ({ M with xs := (wstep n M.xs M.hs D.W).1, hs := (wstep n M.xs M.hs D.W).2.1 }, { D with W := (wstep n M.xs M.hs D.W).2.2, at_ := if D.W.at_ = 3 then 2 else 1 })
  else ({ M with ss := freed M.ss (place (D.left.headD 0)) }, { D with A := nextA D.A D.cap, cap := D.cap - 1, left := D.left.tail, at_ := if D.left.tail = [] then 3 else 2 })
/-- Where a drain may stand. -/
structure Okd (n : Nat) (M : Mo) (D : Dr) : Prop where
  at_ : D.at_ ≤ 2
  k : M.k = n
  hl : 0 < M.hs.length
  zero : D.at_ = 0 → D.left = []
  wt : D.at_ ≤ 1 → Okw n M.xs M.hs D.W
  some : D.at_ ≠ 0 → D.left ≠ []
  live : ∀ x, x ∈ D.left → x ≤ 18446744073709551615 ∧ ∃ k, IsAt M.ss x k ∧ (at' M.ss k).gen ≤ 1000000
  apart : D.left ≠ [] → ∀ y, In D.A y → ¬ mfoot M y

section
variable {w : World} {M : Mo} {D : Dr}
/-- The blocks that a step may write. -/
def sfoot (M : Mo) (D : Dr) (x : Nat) : Prop := mfoot M x ∨ x = D.f ∨ x = D.fw
theorem drain_step {n : Nat} (hM : MemAt w M) (hD : DrAt w D) (ok : Okd n M D) (hr : dready M D = true) :
    Calls Try.prog 12 #[ptr D.f, ptr M.m] w fun e w' => e = .returned (.bool (decide (D.at_ = 2 ∧ D.left.tail = []))) ∧ MemAt w' (dstep n M D).1 ∧ DrAt w' (dstep n M D).2 ∧ Only (sfoot M D) w w' := by
  have hff := hD.far hM
  have hne := hD.ne
  have hat := ok.at_
  have keep : ∀ (w1 : World) (M' : Mo) (D' : Dr) (v : Value), D'.f = D.f → D'.fw = D.fw → ¬ mfoot M' D.f → (D'.left ≠ [] → ¬ In D'.A D.f) → MemAt w1 M' → DrAt w1 D' → Only (sfoot M D) w w1 → ∀ at_ : Nat, v = .int .i64 at_ →
      MemAt (w1.setCell ⟨D.f, 0, none⟩ v) M' ∧ DrAt (w1.setCell ⟨D.f, 0, none⟩ v) { D' with at_ := at_ } ∧ Only (sfoot M D) w (w1.setCell ⟨D.f, 0, none⟩ v) := by
    rintro w1 M' D' v e1 e2 h1 h2 hM1 hD1 hO1 at_ rfl
    have hO := (Only.refl (· = D.f) w1).setCell (p := ⟨D.f, 0, none⟩) (.inl rfl) (.int .i64 at_)
    refine ⟨hM1.only hO (fun x hx e => h1 (e ▸ hx)), ⟨?_, hD1.wt.only hO (fun e => hne (by rw [← e2]; exact e.symm)), hD1.lft.only hO (fun x hl hx e => h2 hl (e ▸ hx)), hD1.sz⟩, hO1.setCell (p := ⟨D.f, 0, none⟩) (.inl (.inr (.inl rfl))) _⟩
    have := hD1.blk.store 0 (.int .i64 at_)
    rw [e1] at this
    show Blk _ D'.f _ _
    rw [e1]
    exact this
  have sub_d : ∀ x, x = D.f → sfoot M D x := fun x q => .inr (.inl q)
  by_cases h0 : D.at_ = 0
  · have hws : M.ws ≠ [] := by
      have : 0 < M.ws.length := by simpa [dready, h0] using hr
      intro q; rw [q] at this; simp at this
    have e : dstep n M D = ({ M with V := none, capV := 0, ws := [] }, { D with A := M.V, cap := M.capV, left := M.ws, at_ := 1 }) := by unfold dstep; rw [if_pos h0]
    rw [e]
    refine (step_Drain (F := 43) (cv := ptr D.f) (m := ptr M.m) (c := true) (P := fun w' => MemAt w' { M with V := none, capV := 0, ws := [] } ∧ DrAt w' { D with A := M.V, cap := M.capV, left := M.ws } ∧ Only (sfoot M D) w w') hD (by omega) (by rw [h0]; rfl) enters_dtake (fun w2 hb => ?_) (fun w' h => ⟨h.2.1.hd.1, h.2.1.blk.frozen 0⟩)).mono ?_
    · have hO := Only.ofBelow hb (sfoot M D)
      exact (take_fn (hM.below hb) (hD.below hb) hws (ok.zero h0)).mono fun e w' h => ⟨h.1, h.2.1, h.2.2.1, hO.trans' h.2.2.2 (fun x _ q => by
        rcases q with q | q
        · exact .inl (.inl q)
        · exact .inr (.inl q))⟩
    · rintro e w' ⟨rfl, w1, ⟨h1, h2, h3⟩, hw⟩
      rw [if_pos rfl, h0] at hw
      have := keep w1 { M with V := none, capV := 0, ws := [] } { D with A := M.V, cap := M.capV, left := M.ws } (.int .i64 (1 : Nat)) rfl rfl (fun hx => hff.1 (by
        rcases hx with q | q | q | q | q | q
        · exact .inl q
        · exact .inr (.inl q)
        · exact .inr (.inr (.inl q))
        · exact .inr (.inr (.inr (.inl q)))
        · exact .inr (.inr (.inr (.inr (.inl q))))
        · simp [In] at q)) (fun _ hx => hff.1 (.inr (.inr (.inr (.inr (.inr hx)))))) h1 h2 h3 1 rfl
      rw [hw]
      exact ⟨by simp [h0], this⟩
  by_cases h1 : D.at_ = 1
  · have okw := ok.wt (by omega)
    have hrd : readyB M.xs M.hs D.W = true := by simpa [dready, h1] using hr
    have e : dstep n M D = ({ M with xs := (wstep n M.xs M.hs D.W).1, hs := (wstep n M.xs M.hs D.W).2.1 }, { D with W := (wstep n M.xs M.hs D.W).2.2, at_ := if D.W.at_ = 3 then 2 else 1 }) := by unfold dstep; rw [if_neg h0, if_pos h1]
    rw [e]
    have hap := ok.apart (ok.some h0)
    refine (step_Drain (F := 44) (cv := ptr D.fw) (m := ptr M.m) (c := decide (D.W.at_ = 3)) (P := fun w' => MemAt w' { M with xs := (wstep n M.xs M.hs D.W).1, hs := (wstep n M.xs M.hs D.W).2.1 } ∧ DrAt w' { D with W := (wstep n M.xs M.hs D.W).2.2 } ∧ Only (sfoot M D) w w') hD (by omega) (by rw [h1]; rfl) enters_dstep (fun w2 hb => ?_) (fun w' h => ⟨h.2.1.hd.1, h.2.1.blk.frozen 0⟩)).mono ?_
    · have hO := Only.ofBelow hb (sfoot M D)
      have hD2 := hD.below hb
      exact (wait_step (hM.below hb) hD2.wt ok.k okw hrd).mono fun e w' h => ⟨h.1, h.2.1, ⟨hD2.blk.only h.2.2.2 (fun q => by
        rcases q with q | q
        · exact hff.1 q
        · exact hne q), h.2.2.1, hD2.lft.only h.2.2.2 (fun x hl hx q => by
        rcases q with q | q
        · exact hap x hx q
        · exact (hD2.ty (.inr (.inr ⟨hl, hx⟩))).apart (by
            rcases hD2.lft with z | ⟨b, o, cs, hA, hb', _⟩
            · exact absurd z hl
            · rw [hA] at hx
              have hx : b = x := by simpa [In] using hx
              exact absurd q (by rw [← hx]; exact hb'.differ hD2.wt (by decide))) (by decide : ∀ t ∈ [66, 100, 30], t ∉ ([] : List TypeId))), hD2.sz⟩, hO.trans' h.2.2.2 (fun x _ q => by
        rcases q with q | q
        · exact .inl q
        · exact .inr (.inr q))⟩
    · rintro e w' ⟨rfl, w1, ⟨g1, g2, g3⟩, hw⟩
      have k1 : ¬ mfoot { M with xs := (wstep n M.xs M.hs D.W).1, hs := (wstep n M.xs M.hs D.W).2.1 } D.f := hff.1
      have k2 : ({ D with W := (wstep n M.xs M.hs D.W).2.2 } : Dr).left ≠ [] → ¬ In ({ D with W := (wstep n M.xs M.hs D.W).2.2 } : Dr).A D.f := fun hl hx => by
        rcases hD.lft with z | ⟨b, o, cs, hA, hb', _⟩
        · exact absurd z hl
        · have hx : In D.A D.f := hx
          rw [hA] at hx
          have hx : b = D.f := by simpa [In] using hx
          exact absurd hx (hb'.differ hD.blk (by decide))
      by_cases h3 : D.W.at_ = 3
      · rw [decide_eq_true h3, if_pos rfl, h1] at hw
        have := keep w1 { M with xs := (wstep n M.xs M.hs D.W).1, hs := (wstep n M.xs M.hs D.W).2.1 } { D with W := (wstep n M.xs M.hs D.W).2.2 } (.int .i64 (2 : Nat)) rfl rfl k1 k2 g1 g2 g3 2 rfl
        rw [hw]
        refine ⟨by simp [h1, h3], this.1, ?_, this.2.2⟩
        rw [if_pos h3]
        exact this.2.1
      · rw [decide_eq_false h3] at hw
        simp only [Bool.false_eq_true, if_false] at hw
        rw [hw]
        refine ⟨by simp [h1, h3], g1, ?_, g3⟩
        rw [if_neg h3]
        have e1 : ({ D with W := (wstep n M.xs M.hs D.W).2.2, at_ := 1 } : Dr) = { D with W := (wstep n M.xs M.hs D.W).2.2 } := by rw [← h1]
        rw [e1]
        exact g2
  · have h2 : D.at_ = 2 := by omega
    have hlz := ok.some h0
    have hap := ok.apart hlz
    obtain ⟨x, r, hl⟩ : ∃ x r, D.left = x :: r := by
      cases hh : D.left with
      | nil => exact absurd hh hlz
      | cons x r => exact ⟨x, r, rfl⟩
    obtain ⟨hx, k, ha, hg⟩ := ok.live x (by rw [hl]; simp)
    have hroom := hM.2.2.2.1.room
    have hpl : place x = k := place_at hroom.2 ha
    have e : dstep n M D = ({ M with ss := freed M.ss k }, { D with A := nextA D.A D.cap, cap := D.cap - 1, left := r, at_ := if r = [] then 3 else 2 }) := by
      unfold dstep; rw [if_neg h0, if_neg h1, hl]; simp only [List.headD_cons, List.tail_cons, hpl]; by_cases hr0 : r = [] <;> simp [hr0]
    rw [e]
    refine (step_Drain (F := 45) (cv := ptr D.f) (m := ptr M.m) (c := decide (r = [])) (P := fun w' => MemAt w' { M with ss := freed M.ss k } ∧ DrAt w' { D with A := nextA D.A D.cap, cap := D.cap - 1, left := r } ∧ Only (sfoot M D) w w') hD (by omega) (by rw [h2]; rfl) enters_dfree (fun w2 hb => ?_) (fun w' h => ⟨h.2.1.hd.1, h.2.1.blk.frozen 0⟩)).mono ?_
    · have hO := Only.ofBelow hb (sfoot M D)
      exact (free_fn (hM.below hb) (hD.below hb) hl hx ha hg hap).mono fun e w' h => ⟨h.1, h.2.1, h.2.2.1, hO.trans' h.2.2.2 (fun x _ q => by
        rcases q with q | q
        · exact .inl (foot_arena x q)
        · exact .inr (.inl q))⟩
    · rintro e w' ⟨rfl, w1, ⟨g1, g2, g3⟩, hw⟩
      by_cases hr0 : r = []
      · rw [decide_eq_true hr0, if_pos rfl, h2] at hw
        have := keep w1 { M with ss := freed M.ss k } { D with A := nextA D.A D.cap, cap := D.cap - 1, left := r } (.int .i64 (3 : Nat)) rfl rfl hff.1 (fun hl' => absurd hr0 hl') g1 g2 g3 3 rfl
        rw [hw]
        refine ⟨by simp [h2, hr0, hl], this.1, ?_, this.2.2⟩
        rw [if_pos hr0]
        exact this.2.1
      · rw [decide_eq_false hr0] at hw
        simp only [Bool.false_eq_true, if_false] at hw
        rw [hw]
        refine ⟨by simp [h2, hr0, hl], g1, ?_, g3⟩
        rw [if_neg hr0]
        have e1 : ({ D with A := nextA D.A D.cap, cap := D.cap - 1, left := r, at_ := 2 } : Dr) = { D with A := nextA D.A D.cap, cap := D.cap - 1, left := r } := by rw [← h2]
        rw [e1]
        exact g2
end
end Go.Proofs.Ytnmneofmflkilaa.Re
