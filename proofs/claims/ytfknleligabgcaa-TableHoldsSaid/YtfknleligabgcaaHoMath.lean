/- TableHolds: who has which lock; the document's steps. -/
import Derived.Test.YtfknleligabgcaaTabE
import Derived.Test.YtfknleligabgcaaLocksHeld
namespace Go.Proofs.Ytfknleligabgcaa.LawEight
open Go Go.RowKit Hp K Fl Rw Hm Ar Mm Me Ta
set_option maxRecDepth 100000

/-- The holders of six locks: worker 0 has just this one, nobody but it and worker 1 has any. -/
structure LI (hs : List Int) (o : Option Nat) : Prop where
  len : hs.length = 6
  own : ∀ j, Lo.hol hs j = 0 ↔ o = some j
  bd : ∀ j, -1 ≤ Lo.hol hs j ∧ Lo.hol hs j ≤ 1
theorem li_new : LI (List.replicate 6 (-1)) none := by
  have h : ∀ j, Lo.hol (List.replicate 6 (-1)) j = -1 := fun j => by
    unfold Lo.hol
    rw [List.getD_eq_getElem?_getD, List.getElem?_replicate]
    split <;> rfl
  exact ⟨by simp, fun j => by rw [h]; simp, fun j => by rw [h]; omega⟩
section
variable {hs : List Int} {o : Option Nat}
theorem LI.set (h : LI hs o) {j : Nat} {v : Int} (hj : j < 6) (hv : v = -1 ∨ v = 1) (ho : o ≠ some j) : LI (hs.set j v) o := by
  have hl := h.len
  refine ⟨by simpa using hl, fun i => ?_, fun i => ?_⟩
  · rw [hol_set (by omega)]
    split
    · rename_i e
      subst e
      exact ⟨fun q => by omega, fun q => absurd q ho⟩
    · exact h.own i
  · rw [hol_set (by omega)]
    split
    · omega
    · exact h.bd i
theorem LI.take (h : LI hs none) {j : Nat} (hj : j < 6) : LI (hs.set j 0) (some j) := by
  have hl := h.len
  refine ⟨by simpa using hl, fun i => ?_, fun i => ?_⟩
  · rw [hol_set (by omega)]
    split
    · rename_i e; subst e; simp
    · rename_i e
      have := h.own i
      refine ⟨fun q => ?_, fun q => ?_⟩
      · have := this.1 q; simp at this
      · injection q with q; exact absurd q.symm e
  · rw [hol_set (by omega)]
    split
    · omega
    · exact h.bd i
theorem LI.free {j : Nat} (h : LI hs (some j)) (hj : j < 6) : LI (hs.set j (-1)) none := by
  have hl := h.len
  refine ⟨by simpa using hl, fun i => ?_, fun i => ?_⟩
  · rw [hol_set (by omega)]
    split
    · simp
    · rename_i e
      have := h.own i
      refine ⟨fun q => ?_, fun q => by simp at q⟩
      have := this.1 q
      injection this with this
      exact absurd this.symm e
  · rw [hol_set (by omega)]
    split
    · omega
    · exact h.bd i
theorem LI.held (h : LI hs o) (ho : ∀ j, o = some j → j < 6) : Lo.heldTo hs 0 hs.length = o.toList := by
  have e : Lo.heldTo hs 0 6 = (List.range 6).filter fun i => decide (o = some i) := by
    unfold Lo.heldTo
    apply List.filter_congr
    intro i _
    have := h.own i
    by_cases q : o = some i
    · simp [q, this.2 q]
    · have : ¬ Lo.hol hs i = 0 := fun e => q (this.1 e)
      simp [q, this]
  rw [h.len, e]
  cases o with
  | none => rfl
  | some j =>
    have := ho j rfl
    rcases (by omega : j = 0 ∨ j = 1 ∨ j = 2 ∨ j = 3 ∨ j = 4 ∨ j = 5) with q | q | q | q | q | q <;> subst q <;> rfl
/-- The lock that a hold has. -/
def has (H : Ho) : Option Nat := if 3 ≤ H.nx then some H.lock else none
end
/-- The sizes of the law's five tables. -/
def szs : List Nat := [1, 4, 8, 16, 32]
/-- The law's tables. -/
def dss : List (Nat × Nat) := [(1, 4), (4, 5), (8, 9), (16, 17), (32, 33)]
theorem szs_dss (i : Nat) : (tab dss i).1 = szs.getD i 0 := by
  rcases (by omega : i = 0 ∨ i = 1 ∨ i = 2 ∨ i = 3 ∨ i = 4 ∨ 5 ≤ i) with q | q | q | q | q | q
  · subst q; rfl
  · subst q; rfl
  · subst q; rfl
  · subst q; rfl
  · subst q; rfl
  · rw [tab_none (by simpa [dss] using q), List.getD_eq_getElem?_getD, List.getElem?_eq_none (by simpa [szs] using q)]
    rfl
theorem dss_bd (i : Nat) : (tab dss i).1 ≤ 65536 := by
  rcases (by omega : i = 0 ∨ i = 1 ∨ i = 2 ∨ i = 3 ∨ i = 4 ∨ 5 ≤ i) with q | q | q | q | q | q
  · subst q; decide
  · subst q; decide
  · subst q; decide
  · subst q; decide
  · subst q; decide
  · rw [tab_none (by simpa [dss] using q)]; simp
/-- What holds between the law's rounds. -/
structure LH (M : Mo) (H : Ho) (s : Int) (cur : Nat) : Prop where
  sb : 0 ≤ s ∧ s < 4294967296
  hsum : H.sum = s
  wk : H.worker = 0
  ds : M.ds = dss
  xl : M.xs.length = 65
  ce : Cl.nth M.xs 1 = (cur : Int)
  cb : cur < 5
  num : H.num < 5
  nx : 1 ≤ H.nx ∧ H.nx ≤ 4
  li : LI M.hs (has H)
  lock : 3 ≤ H.nx → H.d = tab M.ds H.num ∧ H.lock = lkn s (tab M.ds H.num)
  holds : H.holds = false
section
variable {M : Mo} {H : Ho} {s : Int} {cur : Nat}
theorem LH.okh (h : LH M H s cur) : Okh M H := ⟨by rw [h.hsum]; exact h.sb, by rw [h.wk]; omega, by rw [h.li.len]; omega, by rw [h.xl]; omega, by have := h.num; omega, by rw [h.ds]; exact dss_bd _⟩
theorem LH.lb (h : LH M H s cur) (d : Nat × Nat) : 1 ≤ lkn s d ∧ lkn s d ≤ 4 := lkn_bd d h.sb.1
theorem LH.own (h : LH M H s cur) : Own M H := fun q => by
  have h3 : 3 ≤ H.nx := by
    rcases q with q | q | q
    · omega
    · omega
    · rw [h.holds] at q; simp at q
  have hl := (h.lock h3).2
  have := h.lb (tab M.ds H.num)
  refine ⟨by rw [h.li.len]; omega, ?_⟩
  rw [h.wk]
  exact (h.li.own _).2 (by unfold has; rw [if_pos h3])
theorem LH.hasb (h : LH M H s cur) : ∀ j, has H = some j → j < 6 := fun j q => by
  unfold has at q
  split at q
  · rename_i h3
    injection q with q
    have := h.lb (tab M.ds H.num)
    have := (h.lock h3).2
    omega
  · simp at q
theorem LH.more (h : LH M H s cur) {hs' : List Int} (hl : LI hs' (has H)) : LH { M with hs := hs' } H s cur := { h with li := hl }
theorem LH.counts (h : LH M H s cur) {c : Nat} (hc : c < 5) : LH { M with xs := M.xs.set 1 c } H s c :=
  have q : Cl.nth (M.xs.set 1 (c : Int)) 1 = c := by
    have := h.xl
    unfold Cl.nth List.getD
    rw [List.getElem?_set, if_pos rfl, if_pos (by omega)]
    rfl
  { h with xl := by simpa using h.xl, ce := q, cb := hc }
/-- The state after each kind of step. -/
theorem LH.s1 (h : LH M H s cur) (e : H.nx = 1) : LH M { H with nx := 2, num := cur } s cur :=
  { h with num := h.cb, nx := by simp, li := by have := h.li; unfold has at this ⊢; rw [e] at this; exact this, lock := fun q => by simp at q }
theorem LH.s2 (h : LH M H s cur) (e : H.nx = 2) : LH { M with hs := M.hs.set (lkn s (tab M.ds H.num)) 0 } { H with nx := 3, d := tab M.ds H.num, lock := lkn s (tab M.ds H.num) } s cur :=
  have q : LI (M.hs.set (lkn s (tab M.ds H.num)) 0) (some (lkn s (tab M.ds H.num))) := by
    have h1 := h.li
    have h2 := h.lb (tab M.ds H.num)
    unfold has at h1
    rw [e] at h1
    exact h1.take (by omega)
  { h with nx := by simp, li := q, lock := fun _ => ⟨rfl, rfl⟩ }
theorem LH.s3 (h : LH M H s cur) (e : H.nx = 3) : LH M { H with nx := 4 } s cur :=
  { h with nx := by simp, li := by have := h.li; unfold has at this ⊢; rw [e] at this; exact this, lock := fun _ => h.lock (by omega) }
theorem LH.s4 (h : LH M H s cur) (e : H.nx = 4) : LH { M with hs := M.hs.set H.lock (-1) } { H with nx := 1 } s cur :=
  have q : LI (M.hs.set H.lock (-1)) none := by
    have h1 := h.li
    have h2 := h.hasb
    unfold has at h1 h2
    rw [e] at h1 h2
    exact h1.free (h2 _ rfl)
  { h with nx := by simp, li := q, lock := fun q => by simp at q }
end
end Go.Proofs.Ytfknleligabgcaa.LawEight
