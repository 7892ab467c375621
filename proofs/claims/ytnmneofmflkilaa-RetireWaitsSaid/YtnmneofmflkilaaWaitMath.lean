/- QsbrWaits: what holds of the cells, the locks, the waits, and of what the law itself keeps, without any memory. -/
import Derived.Test.YtnmneofmflkilaaQsbrE
import Derived.Test.YtnmneofmflkilaaObjs
namespace Go.Proofs.Ytnmneofmflkilaa.LawSix
open Go Go.RowKit Hp K Fl Rw Hm Ar Mm Me Qs Ob
set_option maxRecDepth 100000

/-- A frame of one who comes in or goes out: none, or where it lies and how it stands. -/
inductive Fr
  | nil
  | com (b at_ : Nat) (p : Int)
  | goi (b at_ : Nat)
/-- One who has stayed in since. -/
def Stay (xs : List Int) (ss l : List Nat) (i : Nat) : Prop := Cl.nth xs (2 + i) ≠ 0 ∧ Hm.nth l i = Hm.nth ss i
/-- What is known of a wait that began when what is in l was. -/
structure Bg (n : Nat) (xs : List Int) (ss : List Nat) (W : Wt) (l : List Nat) : Prop where
  len : l.length = n
  le : ∀ i, i < n → Hm.nth l i ≤ Hm.nth ss i
  per : 2 ≤ W.at_ → W.period ≤ Cl.nth xs 0
  two : W.at_ = 2 → (∀ i, i < W.passed → ¬ Stay xs ss l i) ∧ ∀ i, i < n → Stay xs ss l i → Cl.nth xs (2 + i) < W.period
  three : W.at_ = 3 → ∀ i, i < n → ¬ Stay xs ss l i
structure LG (n r : Nat) (xs hs : List Int) (fs : List Fr) (ss : List Nat) (Wk : Nat → Wt) (bg : Nat → Option (Nat × List Nat)) : Prop where
  n2 : 2 ≤ n ∧ n ≤ 7
  r2 : r ≤ 300
  lx : xs.length = n + 3
  lh : hs.length = 6
  lf : fs.length = n
  ls : ss.length = n
  per : 1 ≤ Cl.nth xs 0 ∧ Cl.nth xs 0 ≤ 1 + r
  cnt : ∀ i, i < n → 0 ≤ Cl.nth xs (2 + i) ∧ Cl.nth xs (2 + i) ≤ Cl.nth xs 0
  fr : ∀ i x, fs[i]? = some x → x = .nil ∨ ∃ b p, x = .com b 1 p ∧ 1 ≤ p ∧ p ≤ Cl.nth xs 0 ∧ Cl.nth xs (2 + i) = 0
  c01 : Cl.nth xs 2 = 0 ∧ Cl.nth xs 3 = 0
  stn : ∀ i, i < n → Cl.nth xs (2 + i) ≠ 0 → 0 < Hm.nth ss i
  stb : ∀ i, i < n → Hm.nth ss i ≤ r
  wk : ∀ k, k < 2 → (Wk k).worker = k ∧ Okw n xs hs (Wk k) ∧ ((Wk k).at_ ≤ 1 → (Wk k).passed = 0)
  bgn : ∀ k, k < 2 → (bg k = none ↔ (Wk k).at_ = 0)
  bgl : ∀ k b l, k < 2 → bg k = some (b, l) → Bg n xs ss (Wk k) l
  lock : Lo.hol hs 0 = -1 ∨ ∃ k : Nat, k < 2 ∧ Lo.hol hs 0 = (k : Int) ∧ (Wk k).at_ ≠ 0

theorem cnth_set {xs : List Int} {j : Nat} (hj : j < xs.length) (v : Int) (i : Nat) : Cl.nth (xs.set j v) i = if i = j then v else Cl.nth xs i := by
  unfold Cl.nth
  simp only [List.getD_eq_getElem?_getD, List.getElem?_set]
  by_cases e : j = i
  · subst e; simp [hj]
  · have e' : ¬ i = j := fun q => e q.symm
    simp [e, e']
theorem nnth_set {xs : List Nat} {j : Nat} (hj : j < xs.length) (v : Nat) (i : Nat) : Hm.nth (xs.set j v) i = if i = j then v else Hm.nth xs i := by
  unfold Hm.nth
  simp only [List.getD_eq_getElem?_getD, List.getElem?_set]
  by_cases e : j = i
  · subst e; simp [hj]
  · have e' : ¬ i = j := fun q => e q.symm
    simp [e, e']
theorem hol_set {hs : List Int} (h : 0 < hs.length) (v : Int) : Lo.hol (hs.set 0 v) 0 = v := by simp [Lo.hol, List.getD, h]
theorem sum1 {x : Int} (h0 : 0 ≤ x) (h1 : x ≤ 1000) : Cl.sum64 x 1 = x + 1 := by unfold Cl.sum64; omega

section
variable {n r : Nat} {xs hs : List Int} {fs : List Fr} {ss : List Nat} {Wk : Nat → Wt} {bg : Nat → Option (Nat × List Nat)}
theorem LG.more (h : LG n r xs hs fs ss Wk bg) (hr : r < 300) : LG n (r + 1) xs hs fs ss Wk bg :=
  { h with r2 := hr, per := ⟨h.per.1, by have := h.per.2; omega⟩, stb := fun i hi => by have := h.stb i hi; omega }
/-- No other one has the lock. -/
theorem LG.alone (h : LG n r xs hs fs ss Wk bg) {k j : Nat} (hk : k < 2) (hj : j < 2) (hne : j ≠ k) (ha : (Wk k).at_ ≠ 0) : (Wk j).at_ = 0 := by
  have h1 := (h.wk k hk).2.1.own ha
  rw [(h.wk k hk).1] at h1
  by_cases e : (Wk j).at_ = 0
  · exact e
  · have h2 := (h.wk j hj).2.1.own e
    rw [(h.wk j hj).1] at h2
    omega
theorem two_cases {k j : Nat} (hk : k < 2) (hj : j < 2) (hne : j ≠ k) : (k = 0 ∧ j = 1) ∨ (k = 1 ∧ j = 0) := by omega
/-- The first step: the lock is taken. -/
theorem LG.take (h : LG n r xs hs fs ss Wk bg) {k : Nat} (hk : k < 2) (ha : (Wk k).at_ = 0) (hr : readyB xs hs (Wk k) = true) {b : Nat} {l : List Nat} (hl : l.length = n) (hb : ∀ i, i < n → Hm.nth l i = if Cl.nth xs (2 + i) ≠ 0 then Hm.nth ss i else 0) :
    LG n r xs (hs.set 0 k) fs ss (upd Wk k { Wk k with at_ := 1 }) (upd bg k (some (b, l))) := by
  obtain ⟨hw, ok, hz⟩ := h.wk k hk
  have hh : takeB hs (Wk k) = true := by simpa [readyB, ha] using hr
  have hh : 0 ≤ (Wk k).worker ∧ Lo.hol hs 0 = -1 := by simpa [takeB] using hh
  have hoth : ∀ j, j < 2 → j ≠ k → (Wk j).at_ = 0 := fun j hj hne => by
    by_cases e : (Wk j).at_ = 0
    · exact e
    · have := (h.wk j hj).2.1.own e
      rw [(h.wk j hj).1] at this
      omega
  have hl0 : 0 < hs.length := by rw [h.lh]; omega
  refine { h with lh := by simpa using h.lh, wk := fun j hj => ?_, bgn := fun j hj => ?_, bgl := fun j b' l' hj hbj => ?_, lock := .inr ⟨k, hk, hol_set hl0 _, by simp [upd]⟩ }
  · by_cases e : j = k
    · subst e
      rw [upd_same]
      exact ⟨hw, ⟨ok.n1, by simp, ok.wk, by simpa using ok.hl, ok.xl, ⟨ok.passed.1, fun _ => ok.passed.2 (by omega)⟩, fun _ => by rw [hol_set hl0]; exact hw.symm⟩, fun _ => hz (by omega)⟩
    · rw [upd_far e]
      obtain ⟨hw', ok', hz'⟩ := h.wk j hj
      have h0 := hoth j hj e
      exact ⟨hw', ⟨ok'.n1, ok'.at_, ok'.wk, by simpa using ok'.hl, ok'.xl, ok'.passed, fun q => absurd h0 q⟩, hz'⟩
  · by_cases e : j = k
    · subst e; simp [upd]
    · rw [upd_far e, upd_far e]; exact h.bgn j hj
  · by_cases e : j = k
    · subst e
      rw [upd_same] at hbj ⊢
      injection hbj with hbj
      injection hbj with _ hbj
      subst hbj
      exact ⟨hl, fun i hi => by rw [hb i hi]; split <;> omega, fun q => by simp at q, fun q => by simp at q, fun q => by simp at q⟩
    · rw [upd_far e] at hbj ⊢
      exact h.bgl j b' l' hj hbj
/-- The second one: the period rises. -/
theorem LG.raise (h : LG n r xs hs fs ss Wk bg) (hr : r < 300) {k : Nat} (hk : k < 2) (ha : (Wk k).at_ = 1) :
    LG n (r + 1) (xs.set 0 (Cl.sum64 (Cl.nth xs 0) 1)) hs fs ss (upd Wk k { Wk k with period := Cl.sum64 (Cl.nth xs 0) 1, at_ := 2 }) bg := by
  obtain ⟨hw, ok, hz⟩ := h.wk k hk
  have hp := h.per
  have hr2 := h.r2
  rw [sum1 (by omega) (by omega)]
  have hx0 : 0 < xs.length := by rw [h.lx]; omega
  have hst : ∀ i, Cl.nth (xs.set 0 (Cl.nth xs 0 + 1)) (2 + i) = Cl.nth xs (2 + i) := fun i => by rw [cnth_set hx0, if_neg (by omega)]
  have h00 : Cl.nth (xs.set 0 (Cl.nth xs 0 + 1)) 0 = Cl.nth xs 0 + 1 := by rw [cnth_set hx0, if_pos rfl]
  have hpass := ok.passed.2 (by omega)
  refine { h with r2 := hr, lx := by simpa using h.lx, per := by rw [h00]; omega, cnt := fun i hi => by have := h.cnt i hi; rw [hst, h00]; omega, fr := fun i x hx => ?_, c01 := ?_, stn := fun i hi q => h.stn i hi (by rwa [hst] at q), stb := fun i hi => by have := h.stb i hi; omega, wk := fun j hj => ?_, bgn := fun j hj => ?_, bgl := fun j b' l' hj hbj => ?_, lock := ?_ }
  · rcases h.fr i x hx with q | ⟨b, p, q1, q2, q3, q4⟩
    · exact .inl q
    · exact .inr ⟨b, p, q1, q2, by rw [h00]; omega, by rw [hst]; exact q4⟩
  · have h2 := hst 0
    have h3 := hst 1
    simp only [Nat.add_zero] at h2
    exact ⟨h2.trans h.c01.1, h3.trans h.c01.2⟩
  · by_cases e : j = k
    · subst e
      rw [upd_same]
      exact ⟨hw, ⟨ok.n1, by simp, ok.wk, ok.hl, by simpa using ok.xl, ⟨ok.passed.1, fun _ => hpass⟩, fun _ => ok.own (by omega)⟩, fun q => by simp at q⟩
    · rw [upd_far e]
      obtain ⟨hw', ok', hz'⟩ := h.wk j hj
      exact ⟨hw', ⟨ok'.n1, ok'.at_, ok'.wk, ok'.hl, by simpa using ok'.xl, ok'.passed, ok'.own⟩, hz'⟩
  · by_cases e : j = k
    · subst e
      rw [upd_same, h.bgn j hj, ha]
      simp
    · rw [upd_far e]; exact h.bgn j hj
  · have hB := h.bgl j b' l' hj hbj
    have hs' : ∀ i, Stay (xs.set 0 (Cl.nth xs 0 + 1)) ss l' i ↔ Stay xs ss l' i := fun i => by unfold Stay; rw [hst]
    by_cases e : j = k
    · subst e
      rw [upd_same]
      have hps : (Wk j).passed ≤ 1000 := ok.passed.1
      refine ⟨hB.len, hB.le, fun _ => by rw [h00]; exact Int.le_refl _, fun _ => ⟨fun i hi q => ?_, fun i hi q => ?_⟩, fun q => by simp at q⟩
      · have h0 := hz (by omega)
        have hi : i < (Wk j).passed := hi
        omega
      · rw [hst]
        have := h.cnt i hi
        show _ < Cl.nth xs 0 + 1
        omega
    · rw [upd_far e]
      have h0 := h.alone hk hj e (by omega)
      exact ⟨hB.len, hB.le, fun q => by omega, fun q => by omega, fun q => by omega⟩
  · rcases h.lock with q | ⟨j, q1, q2, q3⟩
    · exact .inl q
    · refine .inr ⟨j, q1, q2, ?_⟩
      by_cases e : j = k
      · subst e; simp [upd]
      · rw [upd_far e]; exact q3
/-- A worker is passed. -/
theorem LG.look (h : LG n r xs hs fs ss Wk bg) {k : Nat} (hk : k < 2) (ha : (Wk k).at_ = 2) (hrd : readyB xs hs (Wk k) = true) :
    LG n r xs hs fs ss (upd Wk k { Wk k with passed := (Wk k).passed + 1, at_ := if n ≤ (Wk k).passed + 1 then 3 else 2 }) bg := by
  obtain ⟨hw, ok, hz⟩ := h.wk k hk
  have hp : passB xs (Wk k) = true := by simpa [readyB, ha] using hrd
  have hp : Cl.nth xs (2 + (Wk k).passed) = 0 ∨ (Wk k).period ≤ Cl.nth xs (2 + (Wk k).passed) := by simpa [passB] using hp
  have hpn := ok.passed.2 (by omega)
  have hn := h.n2
  have okS := ok.step hrd (by omega)
  have e : wstep n xs hs (Wk k) = (xs, hs, { Wk k with passed := (Wk k).passed + 1, at_ := if n ≤ (Wk k).passed + 1 then 3 else 2 }) := by unfold wstep; rw [if_neg (by omega), if_neg (by omega), if_pos ha]
  rw [e] at okS
  refine { h with wk := fun j hj => ?_, bgn := fun j hj => ?_, bgl := fun j b' l' hj hbj => ?_, lock := ?_ }
  · by_cases e : j = k
    · subst e
      rw [upd_same]
      exact ⟨hw, okS, fun q => by
        have q : (if n ≤ (Wk j).passed + 1 then 3 else 2) ≤ 1 := q
        split at q <;> omega⟩
    · rw [upd_far e]; exact h.wk j hj
  · by_cases e : j = k
    · subst e
      rw [upd_same, h.bgn j hj, ha]
      constructor
      · intro q; omega
      · intro q
        have q : (if n ≤ (Wk j).passed + 1 then 3 else 2) = 0 := q
        split at q <;> omega
    · rw [upd_far e]; exact h.bgn j hj
  · have hB := h.bgl j b' l' hj hbj
    by_cases e : j = k
    · subst e
      rw [upd_same]
      obtain ⟨t1, t2⟩ := hB.two ha
      have hall : ∀ i, i < (Wk j).passed + 1 → i < n → ¬ Stay xs ss l' i := fun i hi hin q => by
        by_cases hii : i < (Wk j).passed
        · exact t1 i hii q
        · have : i = (Wk j).passed := by omega
          subst this
          have := t2 _ hin q
          rcases hp with hp | hp
          · exact q.1 hp
          · omega
      refine ⟨hB.len, hB.le, fun _ => hB.per (by omega), fun q => ⟨fun i hi => hall i hi (by
        have hi : i < (Wk j).passed + 1 := hi
        omega), t2⟩, fun q i hi => hall i ?_ hi⟩
      have q : (if n ≤ (Wk j).passed + 1 then 3 else 2) = 3 := q
      split at q <;> omega
    · rw [upd_far e]; exact hB
  · rcases h.lock with q | ⟨j, q1, q2, q3⟩
    · exact .inl q
    · refine .inr ⟨j, q1, q2, ?_⟩
      by_cases e : j = k
      · subst e
        rw [upd_same]
        show (if n ≤ (Wk j).passed + 1 then 3 else 2) ≠ 0
        split <;> omega
      · rw [upd_far e]; exact q3
/-- The last one: the lock is freed; a new wait stands in its place. -/
theorem LG.done (h : LG n r xs hs fs ss Wk bg) {k : Nat} (hk : k < 2) (ha : (Wk k).at_ = 3) :
    LG n r xs (hs.set 0 (-1)) fs ss (upd Wk k ⟨k, 0, 0, 0⟩) (upd bg k none) := by
  obtain ⟨hw, ok, hz⟩ := h.wk k hk
  have hl0 : 0 < hs.length := by rw [h.lh]; omega
  have hn := h.n2
  refine { h with lh := by simpa using h.lh, wk := fun j hj => ?_, bgn := fun j hj => ?_, bgl := fun j b' l' hj hbj => ?_, lock := .inl (hol_set hl0 _) }
  · by_cases e : j = k
    · subst e
      rw [upd_same]
      exact ⟨rfl, ⟨ok.n1, by simp, by simp; omega, by simpa using hl0, ok.xl, ⟨by simp, fun _ => by show 0 < n; omega⟩, fun q => absurd rfl q⟩, fun _ => rfl⟩
    · rw [upd_far e]
      obtain ⟨hw', ok', hz'⟩ := h.wk j hj
      have h0 := h.alone hk hj e (by omega)
      exact ⟨hw', ⟨ok'.n1, ok'.at_, ok'.wk, by simpa using ok'.hl, ok'.xl, ok'.passed, fun q => absurd h0 q⟩, hz'⟩
  · by_cases e : j = k
    · subst e; simp [upd]
    · rw [upd_far e, upd_far e]; exact h.bgn j hj
  · by_cases e : j = k
    · subst e; rw [upd_same] at hbj; simp at hbj
    · rw [upd_far e] at hbj ⊢; exact h.bgl j b' l' hj hbj

/-- A cell of a worker turned: what the others' invariants become. -/
theorem LG.cell (h : LG n r xs hs fs ss Wk bg) {i : Nat} (hi : 2 ≤ i ∧ i < n) {v : Int} (hv : 0 ≤ v ∧ v ≤ Cl.nth xs 0) {fs' : List Fr} {ss' : List Nat} (hlf : fs'.length = n) (hls : ss'.length = n)
    (hfi : ∀ x, fs'[i]? = some x → x = .nil) (hfj : ∀ j, j ≠ i → fs'[j]? = fs[j]?) (hs1 : v ≠ 0 → Hm.nth ss' i = Hm.nth ss i + 1) (hs2 : v = 0 → Hm.nth ss' i = Hm.nth ss i) (hsj : ∀ j, j ≠ i → Hm.nth ss' j = Hm.nth ss j) (hr : r < 300) :
    LG n (r + 1) (xs.set (2 + i) v) hs fs' ss' Wk bg := by
  have hxl : 2 + i < xs.length := by rw [h.lx]; omega
  have c := cnth_set hxl v
  have c0 : Cl.nth (xs.set (2 + i) v) 0 = Cl.nth xs 0 := by rw [c, if_neg (by omega)]
  have ci : Cl.nth (xs.set (2 + i) v) (2 + i) = v := by rw [c, if_pos rfl]
  have cj : ∀ j, j ≠ i → Cl.nth (xs.set (2 + i) v) (2 + j) = Cl.nth xs (2 + j) := fun j hj => by rw [c, if_neg (by omega)]
  have hp := h.per
  have hsle : ∀ j, j < n → Hm.nth ss j ≤ Hm.nth ss' j := fun j hj => by
    by_cases e : j = i
    · subst e
      by_cases hv0 : v = 0
      · rw [hs2 hv0]; omega
      · rw [hs1 hv0]; omega
    · rw [hsj j e]; omega
  have hst : ∀ l' j, j < n → (∀ j, j < n → Hm.nth l' j ≤ Hm.nth ss j) → Stay (xs.set (2 + i) v) ss' l' j → j ≠ i ∧ Stay xs ss l' j := fun l' j hj hle q => by
    by_cases e : j = i
    · subst e
      exfalso
      have q1 := q.1
      rw [ci] at q1
      have := hs1 q1
      have := q.2
      have := hle j hj
      omega
    · refine ⟨e, ?_⟩
      have q1 := q.1
      have q2 := q.2
      rw [cj j e] at q1
      rw [hsj j e] at q2
      exact ⟨q1, q2⟩
  refine { h with r2 := hr, lx := by simpa using h.lx, lf := hlf, ls := hls, per := by rw [c0]; omega, cnt := fun j hj => ?_, fr := fun j x hx => ?_, c01 := ?_, stn := fun j hj q => ?_, stb := fun j hj => ?_, wk := fun j hj => ?_, bgl := fun j b' l' hj hbj => ?_ }
  · rw [c0]
    by_cases e : j = i
    · subst e; rw [ci]; exact hv
    · rw [cj j e]; exact h.cnt j hj
  · rw [c0]
    by_cases e : j = i
    · subst e; exact .inl (hfi x hx)
    · rw [hfj j e] at hx
      rw [cj j e]
      exact h.fr j x hx
  · have h0 := cj 0 (by omega)
    have h1 := cj 1 (by omega)
    exact ⟨h0.trans h.c01.1, h1.trans h.c01.2⟩
  · by_cases e : j = i
    · subst e
      rw [ci] at q
      rw [hs1 q]; omega
    · rw [cj j e] at q
      rw [hsj j e]
      exact h.stn j hj q
  · have hb := h.stb j hj
    by_cases e : j = i
    · subst e
      by_cases hv0 : v = 0
      · rw [hs2 hv0]; omega
      · rw [hs1 hv0]; omega
    · rw [hsj j e]; omega
  · obtain ⟨hw', ok', hz'⟩ := h.wk j hj
    exact ⟨hw', ⟨ok'.n1, ok'.at_, ok'.wk, ok'.hl, by simpa using ok'.xl, ok'.passed, ok'.own⟩, hz'⟩
  · have hB := h.bgl j b' l' hj hbj
    obtain ⟨hw', ok', hz'⟩ := h.wk j hj
    refine ⟨hB.len, fun j hj => Nat.le_trans (hB.le j hj) (hsle j hj), fun q => by rw [c0]; exact hB.per q, fun q => ⟨fun x hx q' => ?_, fun x hx q' => ?_⟩, fun q x hx q' => ?_⟩
    · have hxn : x < n := by have := ok'.passed.2 (by omega); omega
      exact (hB.two q).1 x hx (hst l' x hxn hB.le q').2
    · obtain ⟨e, q''⟩ := hst l' x hx hB.le q'
      rw [cj x e]
      exact (hB.two q).2 x hx q''
    · exact hB.three q x hx (hst l' x hx hB.le q').2
/-- A frame loads the period. -/
theorem LG.frame (h : LG n r xs hs fs ss Wk bg) {i : Nat} {b : Nat} {p : Int} (hp : 1 ≤ p ∧ p ≤ Cl.nth xs 0) (hc : Cl.nth xs (2 + i) = 0) : LG n r xs hs (fs.set i (.com b 1 p)) ss Wk bg := by
  refine { h with lf := by simpa using h.lf, fr := fun j x hx => ?_ }
  rw [List.getElem?_set] at hx
  split at hx
  · rename_i e
    subst e
    split at hx
    · injection hx with hx
      subst hx
      exact .inr ⟨b, p, rfl, hp.1, hp.2, hc⟩
    · simp at hx
  · exact h.fr j x hx
end

/-! ### once all are out -/
def rem (n : Nat) (W : Wt) : Nat := if W.at_ = 0 then n + 3 else if W.at_ = 1 then n + 2 else if W.at_ = 2 then n - W.passed + 1 else 1
def mu1 (n : Nat) (wb : Nat → Option Nat) (Wk : Nat → Wt) (k : Nat) : Nat := if wb k = none then 0 else rem n (Wk k)
def mu (n : Nat) (wb : Nat → Option Nat) (Wk : Nat → Wt) : Nat := mu1 n wb Wk 0 + mu1 n wb Wk 1
structure LE (n : Nat) (xs hs : List Int) (wb : Nat → Option Nat) (Wk : Nat → Wt) (r : Nat) : Prop where
  n2 : 2 ≤ n ∧ n ≤ 7
  lx : xs.length = n + 3
  lh : hs.length = 6
  zero : ∀ i, i < n → Cl.nth xs (2 + i) = 0
  wk : ∀ k, k < 2 → wb k ≠ none → (Wk k).worker = k ∧ Okw n xs hs (Wk k)
  lock : Lo.hol hs 0 = -1 ∨ ∃ k : Nat, k < 2 ∧ Lo.hol hs 0 = (k : Int) ∧ (Wk k).at_ ≠ 0 ∧ wb k ≠ none
  due : mu n wb Wk ≤ r
section
variable {n r : Nat} {xs hs : List Int} {wb : Nat → Option Nat} {Wk : Nat → Wt}
theorem rem_le {W : Wt} (n : Nat) : rem n W ≤ n + 3 := by unfold rem; split; omega; split; omega; split <;> omega
theorem LE.ready (h : LE n xs hs wb Wk r) {k : Nat} (hk : k < 2) (hw : wb k ≠ none) (ha : (Wk k).at_ ≠ 0 ∨ Lo.hol hs 0 = -1) : readyB xs hs (Wk k) = true := by
  obtain ⟨h1, h2⟩ := h.wk k hk hw
  unfold readyB
  by_cases h0 : (Wk k).at_ = 0
  · rw [if_pos h0]
    have : Lo.hol hs 0 = -1 := by
      rcases ha with q | q
      · exact absurd h0 q
      · exact q
    simp [takeB, this, h1]
  rw [if_neg h0]
  by_cases ht : (Wk k).at_ = 2
  · rw [if_pos ht]
    have := h.zero (Wk k).passed (h2.passed.2 (by omega))
    simp [passB, this]
  · rw [if_neg ht]
theorem LE.step (h : LE n xs hs wb Wk r) {k : Nat} (hk : k < 2) (hw : wb k ≠ none) (hr : readyB xs hs (Wk k) = true) :
    LE n (wstep n xs hs (Wk k)).1 (wstep n xs hs (Wk k)).2.1 (if (Wk k).at_ = 3 then upd wb k none else wb) (upd Wk k (wstep n xs hs (Wk k)).2.2) (r - 1) := by
  obtain ⟨h1, ok⟩ := h.wk k hk hw
  have hat := ok.at_
  have hl0 : 0 < hs.length := by rw [h.lh]; omega
  have hx0 : 0 < xs.length := by rw [h.lx]; omega
  have alone : ∀ j, j < 2 → j ≠ k → wb j ≠ none → (Wk k).at_ ≠ 0 ∨ Lo.hol hs 0 = -1 → (Wk j).at_ = 0 := fun j hj hne hwj ha => by
    by_cases e : (Wk j).at_ = 0
    · exact e
    · have h2 := (h.wk j hj hwj).2.own e
      rw [(h.wk j hj hwj).1] at h2
      rcases ha with q | q
      · have h3 := ok.own q
        rw [h1] at h3
        omega
      · omega
  have hmu : ∀ W', rem n W' + 1 ≤ rem n (Wk k) → mu n wb (upd Wk k W') ≤ r - 1 := fun W' e => by
    have hm := h.due
    have h2 : k = 0 ∨ k = 1 := by omega
    unfold mu mu1 at hm ⊢
    rcases h2 with rfl | rfl
    · rw [if_neg hw] at hm ⊢
      rw [upd_same, upd_far (by omega)]
      omega
    · rw [if_neg hw] at hm ⊢
      rw [upd_same, upd_far (by omega)]
      omega
  by_cases h0 : (Wk k).at_ = 0
  · have e : wstep n xs hs (Wk k) = (xs, hs.set 0 (Wk k).worker, { Wk k with at_ := 1 }) := by unfold wstep; rw [if_pos h0]
    have okS := ok.step hr (by omega)
    have hh : takeB hs (Wk k) = true := by simpa [readyB, h0] using hr
    have hh : 0 ≤ (Wk k).worker ∧ Lo.hol hs 0 = -1 := by simpa [takeB] using hh
    rw [e] at okS ⊢
    rw [if_neg (show ¬ (Wk k).at_ = 3 by omega)]
    refine ⟨h.n2, h.lx, by simpa using h.lh, h.zero, fun j hj hwj => ?_, .inr ⟨k, hk, by rw [hol_set hl0]; exact h1, by rw [upd_same]; simp, hw⟩, hmu _ (by simp [rem, h0])⟩
    by_cases e : j = k
    · subst e; rw [upd_same]; exact ⟨h1, okS⟩
    · rw [upd_far e]
      obtain ⟨q1, q2⟩ := h.wk j hj hwj
      have z := alone j hj e hwj (.inr hh.2)
      exact ⟨q1, q2.n1, q2.at_, q2.wk, by simpa using q2.hl, q2.xl, q2.passed, fun q => absurd z q⟩
  by_cases h1' : (Wk k).at_ = 1
  · have e : wstep n xs hs (Wk k) = (xs.set 0 (Cl.sum64 (Cl.nth xs 0) 1), hs, { Wk k with period := Cl.sum64 (Cl.nth xs 0) 1, at_ := 2 }) := by unfold wstep; rw [if_neg h0, if_pos h1']
    have okS := ok.step hr (by omega)
    rw [e] at okS ⊢
    rw [if_neg (show ¬ (Wk k).at_ = 3 by omega)]
    refine ⟨h.n2, by simpa using h.lx, h.lh, fun i hi => ?_, fun j hj hwj => ?_, ?_, hmu _ ?_⟩
    · rw [cnth_set hx0, if_neg (by omega)]; exact h.zero i hi
    · by_cases e : j = k
      · subst e; rw [upd_same]; exact ⟨h1, okS⟩
      · rw [upd_far e]
        obtain ⟨q1, q2⟩ := h.wk j hj hwj
        exact ⟨q1, q2.n1, q2.at_, q2.wk, q2.hl, by simpa using q2.xl, q2.passed, q2.own⟩
    · exact .inr ⟨k, hk, by rw [ok.own h0]; exact h1, by rw [upd_same]; simp, hw⟩
    · simp [rem, h1']
  by_cases h2 : (Wk k).at_ = 2
  · have e : wstep n xs hs (Wk k) = (xs, hs, { Wk k with passed := (Wk k).passed + 1, at_ := if n ≤ (Wk k).passed + 1 then 3 else 2 }) := by unfold wstep; rw [if_neg h0, if_neg h1', if_pos h2]
    have okS := ok.step hr (by omega)
    have hps := ok.passed.2 (by omega)
    rw [e] at okS ⊢
    rw [if_neg (show ¬ (Wk k).at_ = 3 by omega)]
    refine ⟨h.n2, h.lx, h.lh, h.zero, fun j hj hwj => ?_, ?_, hmu _ ?_⟩
    · by_cases e : j = k
      · subst e; rw [upd_same]; exact ⟨h1, okS⟩
      · rw [upd_far e]
        exact h.wk j hj hwj
    · exact .inr ⟨k, hk, by rw [ok.own h0]; exact h1, by rw [upd_same]; show (if n ≤ (Wk k).passed + 1 then 3 else 2) ≠ 0; split <;> omega, hw⟩
    · by_cases hc : n ≤ (Wk k).passed + 1
      · simp [rem, h2, hc]; omega
      · simp [rem, h2, hc]; omega
  · have h3 : (Wk k).at_ = 3 := by omega
    have e : wstep n xs hs (Wk k) = (xs, hs.set 0 (-1), { Wk k with at_ := 4 }) := by unfold wstep; rw [if_neg h0, if_neg h1', if_neg h2]
    rw [e, if_pos h3]
    refine ⟨h.n2, h.lx, by simpa using h.lh, h.zero, fun j hj hwj => ?_, .inl (hol_set hl0 _), ?_⟩
    · by_cases e : j = k
      · subst e; rw [upd_same] at hwj; simp at hwj
      · rw [upd_far e] at hwj ⊢
        obtain ⟨q1, q2⟩ := h.wk j hj hwj
        have z := alone j hj e hwj (.inl h0)
        exact ⟨q1, q2.n1, q2.at_, q2.wk, by simpa using q2.hl, q2.xl, q2.passed, fun q => absurd z q⟩
    · have hm := h.due
      have hr3 : rem n (Wk k) = 1 := by simp [rem, h3]
      have h2 : k = 0 ∨ k = 1 := by omega
      unfold mu mu1 at hm ⊢
      rcases h2 with rfl | rfl
      · rw [if_neg hw] at hm
        rw [upd_same, if_pos rfl, upd_far (f := wb) (by omega), upd_far (f := Wk) (by omega)]
        omega
      · rw [if_neg hw] at hm
        rw [upd_same, if_pos rfl, upd_far (f := wb) (by omega), upd_far (f := Wk) (by omega)]
        omega
/-- Where no wait is ready, none is left. -/
theorem LE.nobody (h : LE n xs hs wb Wk r) (h0 : ∀ k, k < 2 → wb k ≠ none → readyB xs hs (Wk k) = false) : ∀ k, k < 2 → wb k = none := by
  intro k hk
  by_cases hw : wb k = none
  · exact hw
  · exfalso
    rcases h.lock with q | ⟨j, hj, _, q2, q3⟩
    · have := h.ready hk hw (.inr q)
      rw [h0 k hk hw] at this
      simp at this
    · have := h.ready hj q3 (.inl q2)
      rw [h0 j hj q3] at this
      simp at this
theorem LE.over (h : LE n xs hs wb Wk 0) : wb 0 = .none ∧ wb 1 = .none := by
  have hm := h.due
  have hp : ∀ W, 0 < rem n W := fun W => by unfold rem; split; omega; split; omega; split <;> omega
  unfold mu mu1 at hm
  constructor
  · by_cases e : wb 0 = .none
    · exact e
    · rw [if_neg e] at hm; have := hp (Wk 0); omega
  · by_cases e : wb 1 = .none
    · exact e
    · rw [if_neg e] at hm; have := hp (Wk 1); omega
theorem LE.mono {r' : Nat} (h : LE n xs hs wb Wk r) (hr : r ≤ r') : LE n xs hs wb Wk r' := { h with due := Nat.le_trans h.due hr }
theorem LE.empty (h : LE n xs hs wb Wk r) (h0 : ∀ k, k < 2 → wb k = .none) : LE n xs hs wb Wk 0 := { h with due := by unfold mu mu1; rw [if_pos (h0 0 (by omega)), if_pos (h0 1 (by omega))]; omega }
/-- All workers have gone out. -/
theorem LG.out {xs' : List Int} {fs : List Fr} {ss : List Nat} {bg : Nat → Option (Nat × List Nat)} {q : Nat} (h : LG n q xs hs fs ss Wk bg) (hall : ∀ k, k < 2 → ∃ b, wb k = some b) (hl : xs'.length = n + 3) (hz : ∀ i, i < n → Cl.nth xs' (2 + i) = 0) : LE n xs' hs wb Wk 20 := by
  refine ⟨h.n2, hl, h.lh, hz, fun k hk _ => ?_, ?_, ?_⟩
  · obtain ⟨h1, h2, _⟩ := h.wk k hk
    exact ⟨h1, h2.n1, h2.at_, h2.wk, h2.hl, by omega, h2.passed, h2.own⟩
  · rcases h.lock with e | ⟨k, h1, h2, h3⟩
    · exact .inl e
    · obtain ⟨b, hb⟩ := hall k h1
      exact .inr ⟨k, h1, h2, h3, by rw [hb]; simp⟩
  · have r0 := rem_le (W := Wk 0) n
    have r1 := rem_le (W := Wk 1) n
    have := h.n2
    unfold mu mu1
    split <;> split <;> omega
end
end Go.Proofs.Ytnmneofmflkilaa.LawSix
