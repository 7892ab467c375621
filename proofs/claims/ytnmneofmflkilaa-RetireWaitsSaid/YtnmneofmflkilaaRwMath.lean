/- RetireWaits: what holds of the cells, the locks, the drain, and of what the law itself keeps, without any memory. -/
import Derived.Test.YtnmneofmflkilaaLawSevenA
namespace Go.Proofs.Ytnmneofmflkilaa.LawSeven
open Go Go.RowKit Hp K Fl Rw Hm Ar Mm Me Qs Ob Re LawSix
set_option maxRecDepth 100000

/-- What is known of a drain that took what waited when what is in l was. -/
structure BgD (n : Nat) (xs : List Int) (st : List Nat) (D : Dr) (l : List Nat) : Prop where
  len : l.length = n
  le : ∀ i, i < n → Hm.nth l i ≤ Hm.nth st i
  two : D.at_ = 1 → D.W.at_ = 2 → (∀ i, i < D.W.passed → ¬ Stay xs st l i) ∧ ∀ i, i < n → Stay xs st l i → Cl.nth xs (2 + i) < D.W.period
  three : (D.at_ = 1 ∧ D.W.at_ = 3) ∨ D.at_ = 2 → ∀ i, i < n → ¬ Stay xs st l i
structure LR (n r : Nat) (xs hs : List Int) (fs : List Fr) (st : List Nat) (D : Dr) (bg : Option (Nat × List Nat)) : Prop where
  n4 : 1 ≤ n ∧ n ≤ 4
  r2 : r ≤ 300
  lx : xs.length = n + 3
  lh : hs.length = 6
  lf : fs.length = n
  ls : st.length = n
  per : 1 ≤ Cl.nth xs 0 ∧ Cl.nth xs 0 ≤ 1 + r
  cnt : ∀ i, i < n → 0 ≤ Cl.nth xs (2 + i) ∧ Cl.nth xs (2 + i) ≤ Cl.nth xs 0
  fr : ∀ i x, fs[i]? = some x → x = .nil ∨ ∃ b p, x = .com b 1 p ∧ 1 ≤ p ∧ p ≤ Cl.nth xs 0 ∧ Cl.nth xs (2 + i) = 0
  stn : ∀ i, i < n → Cl.nth xs (2 + i) ≠ 0 → 0 < Hm.nth st i
  stb : ∀ i, i < n → Hm.nth st i ≤ r
  wk : D.W.worker = n
  bgn : bg = none ↔ D.at_ = 0
  bgl : ∀ b l, bg = some (b, l) → BgD n xs st D l
  lock : Lo.hol hs 0 = -1 ∨ (Lo.hol hs 0 = n ∧ D.at_ = 1 ∧ D.W.at_ ≠ 0)
  own : D.at_ = 0 ∨ (D.at_ = 1 ∧ D.W.at_ = 0) ∨ D.at_ = 2 → Lo.hol hs 0 = -1

section
variable {n r : Nat} {fs : List Fr} {st : List Nat} {M : Mo} {D : Dr} {bg : Option (Nat × List Nat)} {xs hs : List Int} {B : Nat}
theorem LR.more (h : LR n r xs hs fs st D bg) (hr : r < 300) : LR n (r + 1) xs hs fs st D bg :=
  { h with r2 := hr, per := ⟨h.per.1, by have := h.per.2; omega⟩, stb := fun i hi => by have := h.stb i hi; omega }
/-- A cell of a worker turned. -/
theorem LR.cell (h : LR n r xs hs fs st D bg) {i : Nat} (hi : i < n) {v : Int} (hv : 0 ≤ v ∧ v ≤ Cl.nth xs 0) {fs' : List Fr} {st' : List Nat} (hlf : fs'.length = n) (hls : st'.length = n)
    (hfi : ∀ x, fs'[i]? = some x → x = .nil) (hfj : ∀ j, j ≠ i → fs'[j]? = fs[j]?) (hs1 : v ≠ 0 → Hm.nth st' i = Hm.nth st i + 1) (hs2 : v = 0 → Hm.nth st' i = Hm.nth st i) (hsj : ∀ j, j ≠ i → Hm.nth st' j = Hm.nth st j) (hr : r < 300) (hp : D.at_ = 1 → D.W.at_ = 2 → D.W.passed < n) :
    LR n (r + 1) (xs.set (2 + i) v) hs fs' st' D bg := by
  have hxl : 2 + i < xs.length := by rw [h.lx]; omega
  have c := cnth_set hxl v
  have c0 : Cl.nth (xs.set (2 + i) v) 0 = Cl.nth xs 0 := by rw [c, if_neg (by omega)]
  have ci : Cl.nth (xs.set (2 + i) v) (2 + i) = v := by rw [c, if_pos rfl]
  have cj : ∀ j, j ≠ i → Cl.nth (xs.set (2 + i) v) (2 + j) = Cl.nth xs (2 + j) := fun j hj => by rw [c, if_neg (by omega)]
  have hper := h.per
  have hsle : ∀ j, j < n → Hm.nth st j ≤ Hm.nth st' j := fun j hj => by
    by_cases e : j = i
    · subst e
      by_cases hv0 : v = 0
      · rw [hs2 hv0]; omega
      · rw [hs1 hv0]; omega
    · rw [hsj j e]; omega
  have hst : ∀ l' j, j < n → (∀ j, j < n → Hm.nth l' j ≤ Hm.nth st j) → Stay (xs.set (2 + i) v) st' l' j → j ≠ i ∧ Stay xs st l' j := fun l' j hj hle q => by
    by_cases e : j = i
    · subst e
      exfalso
      have q1 := q.1
      rw [ci] at q1
      have := hs1 q1
      have := q.2
      have := hle j hj
      omega
    · refine ⟨e, ?_⟩
      have q1 := q.1
      have q2 := q.2
      rw [cj j e] at q1
      rw [hsj j e] at q2
      exact ⟨q1, q2⟩
  refine { h with r2 := hr, lx := by simpa using h.lx, lf := hlf, ls := hls, per := by rw [c0]; omega, cnt := fun j hj => ?_, fr := fun j x hx => ?_, stn := fun j hj q => ?_, stb := fun j hj => ?_, bgl := fun b' l' hbj => ?_ }
  · rw [c0]
    by_cases e : j = i
    · subst e; rw [ci]; exact hv
    · rw [cj j e]; exact h.cnt j hj
  · rw [c0]
    by_cases e : j = i
    · subst e; exact .inl (hfi x hx)
    · rw [hfj j e] at hx
      rw [cj j e]
      exact h.fr j x hx
  · by_cases e : j = i
    · subst e
      rw [ci] at q
      rw [hs1 q]; omega
    · rw [cj j e] at q
      rw [hsj j e]
      exact h.stn j hj q
  · have hb := h.stb j hj
    by_cases e : j = i
    · subst e
      by_cases hv0 : v = 0
      · rw [hs2 hv0]; omega
      · rw [hs1 hv0]; omega
    · rw [hsj j e]; omega
  · have hB := h.bgl b' l' hbj
    refine ⟨hB.len, fun j hj => Nat.le_trans (hB.le j hj) (hsle j hj), fun q1 q2 => ⟨fun x hx q' => ?_, fun x hx q' => ?_⟩, fun q x hx q' => ?_⟩
    · have hxn : x < n := by have := hp q1 q2; omega
      exact (hB.two q1 q2).1 x hx (hst l' x hxn hB.le q').2
    · obtain ⟨e, q''⟩ := hst l' x hx hB.le q'
      rw [cj x e]
      exact (hB.two q1 q2).2 x hx q''
    · exact hB.three q x hx (hst l' x hx hB.le q').2
/-- A frame loads the period. -/
theorem LR.frame (h : LR n r xs hs fs st D bg) {i : Nat} {b : Nat} {p : Int} (hp : 1 ≤ p ∧ p ≤ Cl.nth xs 0) (hc : Cl.nth xs (2 + i) = 0) : LR n r xs hs (fs.set i (.com b 1 p)) st D bg := by
  refine { h with lf := by simpa using h.lf, fr := fun j x hx => ?_ }
  rw [List.getElem?_set] at hx
  split at hx
  · rename_i e
    subst e
    split at hx
    · injection hx with hx
      subst hx
      exact .inr ⟨b, p, rfl, hp.1, hp.2, hc⟩
    · simp at hx
  · exact h.fr j x hx
/-- All that wait are taken. -/
theorem LR.take (h : LR n r M.xs M.hs fs st D bg) (h0 : D.at_ = 0) {b : Nat} {l : List Nat} (hl : l.length = n) (hb : ∀ i, i < n → Hm.nth l i = if Cl.nth M.xs (2 + i) ≠ 0 then Hm.nth st i else 0) (hw : D.W.at_ = 0) :
    LR n r (dstep n M D).1.xs (dstep n M D).1.hs fs st (dstep n M D).2 (some (b, l)) := by
  have e : dstep n M D = ({ M with V := none, capV := 0, ws := [] }, { D with A := M.V, cap := M.capV, left := M.ws, at_ := 1 }) := by unfold dstep; rw [if_pos h0]
  rw [e]
  have hlk := h.own (.inl h0)
  refine { h with bgn := by simp, bgl := fun b' l' hbj => ?_, lock := .inl hlk, own := fun _ => hlk }
  injection hbj with hbj
  injection hbj with _ hbj
  subst hbj
  exact ⟨hl, fun i hi => by rw [hb i hi]; split <;> omega, fun _ q => by have q : D.W.at_ = 2 := q; omega, fun q => by
    rcases q with ⟨_, q⟩ | q
    · have q : D.W.at_ = 3 := q; omega
    · simp at q⟩
/-- A step of its wait. -/
theorem LR.wait (h : LR n r M.xs M.hs fs st D bg) (hr : r < 300) (h1 : D.at_ = 1) (ok : Okw n M.xs M.hs D.W) (w01 : D.W.at_ ≤ 1 → D.W.passed = 0) (hrd : readyB M.xs M.hs D.W = true) :
    LR n (r + 1) (dstep n M D).1.xs (dstep n M D).1.hs fs st (dstep n M D).2 bg := by
  have e : dstep n M D = ({ M with xs := (wstep n M.xs M.hs D.W).1, hs := (wstep n M.xs M.hs D.W).2.1 }, { D with W := (wstep n M.xs M.hs D.W).2.2, at_ := if D.W.at_ = 3 then 2 else 1 }) := by unfold dstep; rw [if_neg (by omega), if_pos h1]
  rw [e]
  have hat := ok.at_
  have hl0 : 0 < M.hs.length := by rw [h.lh]; omega
  have hx0 : 0 < M.xs.length := by rw [h.lx]; omega
  have hn := h.n4
  have hp := h.per
  have hr2 := h.r2
  have hbn : bg ≠ none := fun q => by have := h.bgn.1 q; omega
  have hwk := h.wk
  have hoh : D.W.at_ ≠ 0 → Lo.hol M.hs 0 = n := fun q => by rw [ok.own q, hwk]
  by_cases g0 : D.W.at_ = 0
  · have e' : wstep n M.xs M.hs D.W = (M.xs, M.hs.set 0 D.W.worker, { D.W with at_ := 1 }) := by unfold wstep; rw [if_pos g0]
    rw [e', if_neg (show ¬ D.W.at_ = 3 by omega)]
    have hm := h.more hr
    refine { hm with lh := by simpa using h.lh, wk := hwk, bgn := ⟨fun q => absurd q hbn, fun q => by simp at q⟩, bgl := fun b l hbj => ?_, lock := .inr ⟨by rw [hol_set hl0]; exact hwk, rfl, by simp⟩, own := ?_ }
    · have hB := h.bgl b l hbj
      refine ⟨hB.len, hB.le, fun _ q => by simp at q, fun q => ?_⟩
      rcases q with ⟨_, q⟩ | q
      · simp at q
      · simp at q
    · intro q
      rcases q with q | ⟨_, q⟩ | q
      · simp at q
      · simp at q
      · simp at q
  by_cases g1 : D.W.at_ = 1
  · have e' : wstep n M.xs M.hs D.W = (M.xs.set 0 (Cl.sum64 (Cl.nth M.xs 0) 1), M.hs, { D.W with period := Cl.sum64 (Cl.nth M.xs 0) 1, at_ := 2 }) := by unfold wstep; rw [if_neg g0, if_pos g1]
    rw [e', if_neg (show ¬ D.W.at_ = 3 by omega), sum1 (by omega) (by omega)]
    have hst : ∀ i, Cl.nth (M.xs.set 0 (Cl.nth M.xs 0 + 1)) (2 + i) = Cl.nth M.xs (2 + i) := fun i => by rw [cnth_set hx0, if_neg (by omega)]
    have h00 : Cl.nth (M.xs.set 0 (Cl.nth M.xs 0 + 1)) 0 = Cl.nth M.xs 0 + 1 := by rw [cnth_set hx0, if_pos rfl]
    refine { h with r2 := hr, lx := by simpa using h.lx, per := by rw [h00]; omega, cnt := fun i hi => by have := h.cnt i hi; rw [hst, h00]; omega, fr := fun i x hx => ?_, stn := fun i hi q => h.stn i hi (by rwa [hst] at q), stb := fun i hi => by have := h.stb i hi; omega, wk := hwk, bgn := ⟨fun q => absurd q hbn, fun q => by simp at q⟩, bgl := fun b l hbj => ?_, lock := .inr ⟨hoh (by omega), rfl, by simp⟩, own := ?_ }
    · rcases h.fr i x hx with q | ⟨b, p, q1, q2, q3, q4⟩
      · exact .inl q
      · exact .inr ⟨b, p, q1, q2, by rw [h00]; omega, by rw [hst]; exact q4⟩
    · have hB := h.bgl b l hbj
      refine ⟨hB.len, hB.le, fun _ _ => ⟨fun i hi q => ?_, fun i hi q => ?_⟩, fun q => ?_⟩
      · have h0 := w01 (by omega)
        have hi : i < D.W.passed := hi
        omega
      · rw [hst]
        have := h.cnt i hi
        show _ < Cl.nth M.xs 0 + 1
        omega
      · rcases q with ⟨_, q⟩ | q
        · simp at q
        · simp at q
    · intro q
      rcases q with q | ⟨_, q⟩ | q
      · simp at q
      · simp at q
      · simp at q
  by_cases g2 : D.W.at_ = 2
  · have hpn := ok.passed.2 (by omega)
    have e' : wstep n M.xs M.hs D.W = (M.xs, M.hs, { D.W with passed := D.W.passed + 1, at_ := if n ≤ D.W.passed + 1 then 3 else 2 }) := by unfold wstep; rw [if_neg g0, if_neg g1, if_pos g2]
    rw [e', if_neg (show ¬ D.W.at_ = 3 by omega)]
    have hm := h.more hr
    have hps : passB M.xs D.W = true := by simpa [readyB, g2] using hrd
    have hps : Cl.nth M.xs (2 + D.W.passed) = 0 ∨ D.W.period ≤ Cl.nth M.xs (2 + D.W.passed) := by simpa [passB] using hps
    refine { hm with wk := hwk, bgn := ⟨fun q => absurd q hbn, fun q => by simp at q⟩, bgl := fun b l hbj => ?_, lock := .inr ⟨hoh (by omega), rfl, by show (if n ≤ D.W.passed + 1 then 3 else 2) ≠ 0; split <;> omega⟩, own := ?_ }
    · have hB := h.bgl b l hbj
      obtain ⟨t1, t2⟩ := hB.two h1 g2
      have hall : ∀ i, i < D.W.passed + 1 → i < n → ¬ Stay M.xs st l i := fun i hi hin q => by
        by_cases hii : i < D.W.passed
        · exact t1 i hii q
        · have : i = D.W.passed := by omega
          subst this
          have := t2 _ hin q
          rcases hps with hps | hps
          · exact q.1 hps
          · omega
      refine ⟨hB.len, hB.le, fun _ q => ⟨fun i hi => hall i hi (by
        have hi : i < D.W.passed + 1 := hi
        omega), t2⟩, fun q i hi => ?_⟩
      rcases q with ⟨_, q⟩ | q
      · have q : (if n ≤ D.W.passed + 1 then 3 else 2) = 3 := q
        refine hall i ?_ hi
        split at q <;> omega
      · simp at q
    · intro q
      rcases q with q | ⟨_, q⟩ | q
      · simp at q
      · have q : (if n ≤ D.W.passed + 1 then 3 else 2) = 0 := q
        split at q <;> omega
      · simp at q
  · have g3 : D.W.at_ = 3 := by omega
    have e' : wstep n M.xs M.hs D.W = (M.xs, M.hs.set 0 (-1), { D.W with at_ := 4 }) := by unfold wstep; rw [if_neg g0, if_neg g1, if_neg g2]
    rw [e', if_pos g3]
    have hm := h.more hr
    refine { hm with lh := by simpa using h.lh, wk := hwk, bgn := ⟨fun q => absurd q hbn, fun q => by simp at q⟩, bgl := fun b l hbj => ?_, lock := .inl (hol_set hl0 _), own := fun _ => hol_set hl0 _ }
    have hB := h.bgl b l hbj
    exact ⟨hB.len, hB.le, fun q => by simp at q, fun _ => hB.three (.inl ⟨h1, g3⟩)⟩
/-- One is freed, and others are left. -/
theorem LR.free (h : LR n r M.xs M.hs fs st D bg) (h2 : D.at_ = 2) (hl : D.left.tail ≠ []) : LR n r (dstep n M D).1.xs (dstep n M D).1.hs fs st (dstep n M D).2 bg := by
  have e : dstep n M D = ({ M with ss := freed M.ss (place (D.left.headD 0)) }, { D with A := nextA D.A D.cap, cap := D.cap - 1, left := D.left.tail, at_ := 2 }) := by
    unfold dstep; rw [if_neg (by omega), if_neg (by omega), if_neg hl]
  rw [e]
  have hlk := h.own (.inr (.inr h2))
  refine { h with wk := h.wk, bgn := ⟨fun q => by have := h.bgn.1 q; omega, fun q => by simp at q⟩, bgl := fun b l hbj => ?_, lock := .inl hlk, own := fun _ => hlk }
  have hB := h.bgl b l hbj
  exact ⟨hB.len, hB.le, fun q => by simp at q, fun _ => hB.three (.inr h2)⟩
/-- The last one is freed; a new drain stands in its place. -/
theorem LR.last (h : LR n r M.xs M.hs fs st D bg) (h2 : D.at_ = 2) (hl : D.left.tail = []) (f fw : Nat) : LR n r (dstep n M D).1.xs (dstep n M D).1.hs fs st ⟨f, fw, 0, ⟨n, 0, 0, 0⟩, none, 0, []⟩ none := by
  have e : dstep n M D = ({ M with ss := freed M.ss (place (D.left.headD 0)) }, { D with A := nextA D.A D.cap, cap := D.cap - 1, left := D.left.tail, at_ := 3 }) := by
    unfold dstep; rw [if_neg (by omega), if_neg (by omega), if_pos hl]
  rw [e]
  have hlk := h.own (.inr (.inr h2))
  exact { h with wk := rfl, bgn := by simp, bgl := fun b l q => by simp at q, lock := .inl hlk, own := fun _ => hlk }
/-- A worker's cell turned, as the drain sees it. -/
theorem _root_.Go.Proofs.Ytnmneofmflkilaa.Re.Pd.cells (h : Pd n M D B) (xs : List Int) (hx : xs.length = M.xs.length) : Pd n { M with xs := xs } D B :=
  { h with wt := fun q => ⟨(h.wt q).n1, (h.wt q).at_, (h.wt q).wk, (h.wt q).hl, by rw [hx]; exact (h.wt q).xl, (h.wt q).passed, (h.wt q).own⟩ }
theorem _root_.Go.Proofs.Ytnmneofmflkilaa.Re.Pd.mono {B' : Nat} (h : Pd n M D B) (hB : B ≤ B') : Pd n M D B' := { h with wr := h.wr.mono hB }
/-- A handle more waits. -/
theorem _root_.Go.Proofs.Ytnmneofmflkilaa.Re.Pd.put {m : Nat} (h : Pd n M D B) (hm : Least M.ss m) (d : Nd) (V : Option Addr) (cap : Nat) : Pd n { M with ss := M.ss.set m ⟨true, (at' M.ss m).gen, d⟩, V := V, capV := cap, ws := M.ws ++ [(at' M.ss m).gen * 65536 + m + 1] } D (B + 1) :=
  { h with wr := h.wr.put hm d }
/-- A new drain in the place of one that is done. -/
theorem _root_.Go.Proofs.Ytnmneofmflkilaa.Re.Pd.again (h : Pd n M D B) (hd : D.at_ = 2 ∧ D.left.tail = []) (hn : 1 ≤ n ∧ n ≤ 8) (hx : n + 2 ≤ M.xs.length) (f fw : Nat) : Pd n (dstep n M D).1 ⟨f, fw, 0, ⟨n, 0, 0, 0⟩, none, 0, []⟩ B := by
  obtain ⟨k, e, _, _, _, _, _, hw⟩ := h.last hd
  rw [e]
  exact pd_new hn h.k (by omega) h.hl hx hw
theorem dstep_len : (dstep n M D).1.ss.length = M.ss.length := by
  unfold dstep
  split
  · rfl
  · split
    · rfl
    · simp [freed]
theorem _root_.Go.Proofs.Ytnmneofmflkilaa.Re.Pd.spare (h : Pd n M D B) : (frees (dstep n M D).1.ss (dstep n M D).1.ss.length).length = (frees M.ss M.ss.length).length + if D.at_ = 2 then 1 else 0 := by
  have hat := h.at_
  by_cases h2 : D.at_ = 2
  · obtain ⟨x, r, hl⟩ : ∃ x r, D.left = x :: r := by
      cases hh : D.left with
      | nil => exact absurd hh (h.some (by omega))
      | cons x r => exact ⟨x, r, rfl⟩
    have hw := h.wr
    rw [hl] at hw
    obtain ⟨k, hk⟩ := hw.live x (by simp)
    have hpl := place_at hw.room hk
    have e : (dstep n M D).1.ss = freed M.ss k := by unfold dstep; rw [if_neg (by omega), if_neg (by omega), hl]; simp [hpl]
    have c1 := hw.cnt
    have c2 := (hw.free hk).cnt
    have e2 : (freed M.ss k).length = M.ss.length := by simp [freed]
    rw [e, if_pos h2]
    simp only [List.length_cons] at c1
    omega
  · rw [if_neg h2]
    have e : (dstep n M D).1.ss = M.ss := by
      unfold dstep
      split
      · rfl
      · rw [if_pos (by omega)]
    rw [e, Nat.add_zero]
end
end Go.Proofs.Ytnmneofmflkilaa.LawSeven
