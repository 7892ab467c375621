/- Layer 7 (retire): what a drain's step leaves of blocks; a drain behind mem.Finish; how it runs where nobody is in. -/
import Derived.Test.YtnmneofmflkilaaRetMath
namespace Go.Proofs.Ytnmneofmflkilaa.Re
open Go Go.RowKit Hp K Fl Rw Hm Ar Mm Me Qs LawSix
set_option maxRecDepth 100000

theorem least_or (ss : List Sl) : (∀ k, k < ss.length → (at' ss k).taken = true) ∨ ∃ m, Least ss m := by
  have : ∀ n, n ≤ ss.length → (∀ k, k < n → (at' ss k).taken = true) ∨ ∃ m, Least ss m := by
    intro n
    induction n with
    | zero => intro _; exact .inl (fun k hk => by omega)
    | succ n ih =>
      intro hn
      rcases ih (by omega) with h | h
      · by_cases ht : (at' ss n).taken = true
        · refine .inl fun k hk => ?_
          by_cases e : k = n
          · subst e; exact ht
          · exact h k (by omega)
        · exact .inr ⟨n, by omega, by simpa using ht, h⟩
      · exact .inr h
  exact this _ (Nat.le_refl _)
theorem Wr.least {ss : List Sl} {ws left : List Nat} {B : Nat} (h : Wr ss ws left B) (hlt : ws.length + left.length < ss.length) : ∃ m, Least ss m := by
  rcases least_or ss with q | q
  · exfalso
    have : frees ss ss.length = [] := by
      apply List.eq_nil_iff_forall_not_mem.2
      intro a ha
      obtain ⟨h1, h2⟩ := mem_frees.1 ha
      rw [q a h1] at h2
      simp at h2
    have := h.cnt
    simp_all
  · exact q
theorem Wr.full {ss : List Sl} {ws left : List Nat} {B : Nat} (h : Wr ss ws left B) (hge : ss.length ≤ ws.length + left.length) : ∀ k, k < ss.length → (at' ss k).taken = true := by
  intro k hk
  by_cases ht : (at' ss k).taken = true
  · exact ht
  · exfalso
    have hm : k ∈ frees ss ss.length := mem_frees.2 ⟨hk, by simpa using ht⟩
    have := List.length_pos_of_mem hm
    have := h.cnt
    omega

section
variable {w w' : World} {M : Mo} {D : Dr} {n : Nat}
theorem dstep_same : (dstep n M D).1.m = M.m ∧ (dstep n M D).2.f = D.f ∧ (dstep n M D).2.fw = D.fw ∧ (dstep n M D).1.k = M.k ∧ (dstep n M D).1.F = M.F := by
  unfold dstep
  split
  · exact ⟨rfl, rfl, rfl, rfl, rfl⟩
  · split <;> exact ⟨rfl, rfl, rfl, rfl, rfl⟩
theorem dstep_foot {x : Nat} (h : mfoot (dstep n M D).1 x) : mfoot M x := by
  unfold dstep at h
  split at h
  · rcases h with q | q | q | q | q | q
    · exact .inl q
    · exact .inr (.inl q)
    · exact .inr (.inr (.inl q))
    · exact .inr (.inr (.inr (.inl q)))
    · exact .inr (.inr (.inr (.inr (.inl q))))
    · simp [In] at q
  · split at h <;> exact h
theorem dstep_apart (hM : MemAt w M) (hap : D.left ≠ [] → ∀ y, In D.A y → ¬ mfoot M y) (hne : D.at_ ≠ 0 → D.left ≠ []) : (dstep n M D).2.left ≠ [] → ∀ y, In (dstep n M D).2.A y → ¬ mfoot (dstep n M D).1 y := by
  unfold dstep
  split
  · intro _ y hy hx
    have hy : In M.V y := hy
    have ht := row_ty hM.2.2.2.2.2 hy
    rcases hx with q | q | q | q | q | q
    · exact ht.apart (by subst q; exact blk_ty hM.1) (by decide)
    · exact ht.apart (cells_ty hM.2.1 q) (by decide)
    · exact ht.apart (locks_ty hM.2.2.1 q) (by decide)
    · exact ht.apart (arena_ty hM.2.2.2.1 q) (by decide)
    · exact ht.apart (row_ty hM.2.2.2.2.1 q) (by decide)
    · simp [In] at q
  · rename_i h0
    split
    · exact hap
    · intro hl y hy
      exact hap (hne h0) y (nextA_in.1 hy)

theorem dstep_in (hne : D.at_ ≠ 0 → D.left ≠ []) (hl : (dstep n M D).2.left ≠ []) {y : Nat} (hy : In (dstep n M D).2.A y) : mfoot M y ∨ (D.left ≠ [] ∧ In D.A y) := by
  unfold dstep at hy
  split at hy
  · exact .inl (.inr (.inr (.inr (.inr (.inr hy)))))
  · rename_i h0
    split at hy
    · exact .inr ⟨hne h0, hy⟩
    · exact .inr ⟨hne h0, nextA_in.1 hy⟩
theorem mrD (a : Addr) (w : World) (f : Nat) : (method (f + 1) 24 (.pointer (some a)) "Ready").run Try.prog w = .ok (7, .pointer (some a)) w := by kernel_rfl
theorem msD (a : Addr) (w : World) (f : Nat) : (method (f + 1) 24 (.pointer (some a)) "Step").run Try.prog w = .ok (12, .pointer (some a)) w := by kernel_rfl
theorem erD (args : Array Value) (w : World) : (callFunc 7 args).run Try.prog w = .ok (.enter 7 args) w := by kernel_rfl
theorem esD (args : Array Value) (w : World) : (callFunc 12 args).run Try.prog w = .ok (.enter 12 args) w := by kernel_rfl

def rdD (s : Mo × Dr) : Bool := dready s.1 s.2
def stD (n : Nat) (s : Mo × Dr) : Mo × Dr := dstep n s.1 s.2
def dnD (s : Mo × Dr) : Bool := decide (s.2.at_ = 2 ∧ s.2.left.tail = [])
structure InvD (w0 : World) (M0 : Mo) (D0 : Dr) (s : Mo × Dr) (w : World) : Prop where
  mem : MemAt w s.1
  dr : DrAt w s.2
  only : Only (sfoot M0 D0) w0 w
  foot : ∀ x, mfoot s.1 x → mfoot M0 x
  apart : s.2.left ≠ [] → ∀ y, In s.2.A y → ¬ mfoot s.1 y
  inA : s.2.left ≠ [] → ∀ y, In s.2.A y → mfoot M0 y ∨ (D0.left ≠ [] ∧ In D0.A y)
  m : s.1.m = M0.m
  f : s.2.f = D0.f
  fw : s.2.fw = D0.fw
theorem Pd.ready {B : Nat} (h : Pd n M D B) (hM : MemAt w M) (hD : DrAt w D) : Calls Try.prog 7 #[ptr D.f, ptr M.m] w fun e w' => e = .returned (.bool (dready M D)) ∧ ∃ n, w' = w.drewN n :=
  ready_drain hM hD h.hl (fun q => by
    have ok := h.wt (by omega)
    have := ok.at_
    have := ok.passed
    have := ok.xl
    have := ok.n1
    exact ⟨by omega, fun q => ⟨by omega, by omega⟩⟩) (by have := h.at_; omega)
theorem finish_drain (hM : MemAt w M) (hD : DrAt w D) {B : Nat} (h : Pd n M D B) (hB : B ≤ 1000000) (hap : D.left ≠ [] → ∀ y, In D.A y → ¬ mfoot M y) (K : Nat) (hK : K ≤ 1000000) :
    Calls Try.prog 14 #[ptr M.m, .iface 24 (ptr D.f), .int .i64 K] w fun e w' => e = .returned (.tuple #[.int .i64 (fin rdD (stD n) dnD K (M, D)).1, .bool (fin rdD (stD n) dnD K (M, D)).2.1]) ∧
      InvD w M D (fin rdD (stD n) dnD K (M, D)).2.2 w' := by
  refine finish_gen 24 7 12 D.f (ptr M.m) (InvD w M D) (fun s => Pd n s.1 s.2 B) rdD (stD n) dnD (mrD _) (msD _) erD esD ?_ ?_ ?_ K hK (M, D) h w ⟨hM, hD, Only.refl _ _, fun _ q => q, hap, fun hl y hy => .inr ⟨hl, hy⟩, rfl, rfl, rfl⟩
  · rintro s w1 hI ok
    have := ok.ready hI.mem hI.dr
    rw [hI.m, hI.f] at this
    exact this.mono fun e w' ⟨h, nq, q⟩ => by
      subst q
      exact ⟨h, { hI with mem := hI.mem.drewN nq, dr := hI.dr.drewN nq, only := hI.only.drewN nq }⟩
  · rintro s w1 hI ok hr
    have := drain_step hI.mem hI.dr (ok.okd hB hI.apart) hr
    rw [hI.m, hI.f] at this
    have hs := dstep_same (n := n) (M := s.1) (D := s.2)
    exact this.mono fun e w' h => ⟨h.1, h.2.1, h.2.2.1, hI.only.trans' h.2.2.2 (fun x _ q => by
      rcases q with q | q | q
      · exact .inl (hI.foot x q)
      · exact .inr (.inl (by rw [← hI.f]; exact q))
      · exact .inr (.inr (by rw [← hI.fw]; exact q))), fun x q => hI.foot x (dstep_foot q), dstep_apart hI.mem hI.apart ok.some, fun hl y hy => (by
      rcases dstep_in ok.some hl hy with q | ⟨q1, q2⟩
      · exact .inl (hI.foot y q)
      · exact hI.inA q1 y q2), hs.1.trans hI.m, hs.2.1.trans hI.f, hs.2.2.1.trans hI.fw⟩
  · intro s ok hr hd
    exact ok.step hr (by simpa [dnD] using hd)
end

/-! ### where nobody is in -/
structure Qd (n : Nat) (M : Mo) (D : Dr) (z : List Nat) : Prop where
  zero : ∀ i, i < n → Cl.nth M.xs (2 + i) = 0
  lock : D.at_ = 0 ∨ (D.at_ = 1 ∧ D.W.at_ = 0) ∨ D.at_ = 2 → Lo.hol M.hs 0 = -1
  ws0 : D.at_ = 0 → M.ws ≠ [] ∧ z = []
  ws1 : D.at_ ≠ 0 → M.ws = z
def dmu (n : Nat) (M : Mo) (D : Dr) : Nat := if D.at_ = 0 then M.ws.length + (n + 4) - 0 else if D.at_ = 1 then rem n D.W + D.left.length else D.left.length
theorem rem_pos (n : Nat) (W : Wt) : 0 < rem n W := by unfold rem; split; omega; split; omega; split <;> omega
theorem Qd.run {n : Nat} {M : Mo} {D : Dr} {B : Nat} {z : List Nat} (h : Pd n M D B) (q : Qd n M D z) :
    dready M D = true ∧ 0 < dmu n M D ∧ (dnD (M, D) = true ↔ dmu n M D = 1) ∧ (¬ (D.at_ = 2 ∧ D.left.tail = []) → Qd n (dstep n M D).1 (dstep n M D).2 z ∧ dmu n (dstep n M D).1 (dstep n M D).2 + 1 = dmu n M D) := by
  have hat := h.at_
  by_cases h0 : D.at_ = 0
  · obtain ⟨hws, hz⟩ := q.ws0 h0
    have hp : 0 < M.ws.length := List.length_pos_iff.2 hws
    have e : dstep n M D = ({ M with V := none, capV := 0, ws := [] }, { D with A := M.V, cap := M.capV, left := M.ws, at_ := 1 }) := by unfold dstep; rw [if_pos h0]
    refine ⟨by simpa [dready, h0] using hp, by simp [dmu, h0]; omega, by simp [dnD, dmu, h0]; omega, fun _ => ?_⟩
    rw [e]
    refine ⟨⟨q.zero, fun _ => q.lock (.inl h0), fun q => by simp at q, fun _ => hz.symm⟩, ?_⟩
    have hr : rem n D.W = n + 3 := by simp [rem, (h.zero h0).2]
    simp [dmu, h0, hr]
    omega
  by_cases h1 : D.at_ = 1
  · have ok := h.wt (by omega)
    have hlp : 0 < D.left.length := List.length_pos_iff.2 (h.some h0)
    have hrp := rem_pos n D.W
    have hrd : readyB M.xs M.hs D.W = true := by
      unfold readyB
      by_cases g0 : D.W.at_ = 0
      · rw [if_pos g0]
        have := q.lock (.inr (.inl ⟨h1, g0⟩))
        have := ok.wk
        simp [takeB, *]
      rw [if_neg g0]
      by_cases g2 : D.W.at_ = 2
      · rw [if_pos g2]
        have := q.zero D.W.passed (ok.passed.2 (by omega))
        simp [passB, this]
      · rw [if_neg g2]
    have e : dstep n M D = ({ M with xs := (wstep n M.xs M.hs D.W).1, hs := (wstep n M.xs M.hs D.W).2.1 }, { D with W := (wstep n M.xs M.hs D.W).2.2, at_ := if D.W.at_ = 3 then 2 else 1 }) := by unfold dstep; rw [if_neg h0, if_pos h1]
    have hx0 : 0 < M.xs.length := by have := ok.xl; omega
    refine ⟨by simpa [dready, h1] using hrd, by simp [dmu, h1]; omega, by simp [dnD, dmu, h1]; omega, fun _ => ?_⟩
    rw [e]
    have hw3 := ok.at_
    have hz1 := q.ws1 h0
    have hps := ok.passed
    by_cases g0 : D.W.at_ = 0
    · have e' : wstep n M.xs M.hs D.W = (M.xs, M.hs.set 0 D.W.worker, { D.W with at_ := 1 }) := by unfold wstep; rw [if_pos g0]
      rw [e', if_neg (show ¬ D.W.at_ = 3 by omega)]
      refine ⟨⟨q.zero, fun r => ?_, fun r => by simp at r, fun _ => hz1⟩, ?_⟩
      · rcases r with r | r | r
        · simp at r
        · exact absurd r.2 (by simp)
        · simp at r
      · simp [dmu, h1, rem, g0]; omega
    by_cases g1 : D.W.at_ = 1
    · have e' : wstep n M.xs M.hs D.W = (M.xs.set 0 (Cl.sum64 (Cl.nth M.xs 0) 1), M.hs, { D.W with period := Cl.sum64 (Cl.nth M.xs 0) 1, at_ := 2 }) := by unfold wstep; rw [if_neg g0, if_pos g1]
      rw [e', if_neg (show ¬ D.W.at_ = 3 by omega)]
      refine ⟨⟨fun i hi => ?_, fun r => ?_, fun r => by simp at r, fun _ => hz1⟩, ?_⟩
      · show Cl.nth (M.xs.set 0 _) (2 + i) = 0
        rw [cnth_set hx0, if_neg (by omega)]; exact q.zero i hi
      · rcases r with r | r | r
        · simp at r
        · exact absurd r.2 (by simp)
        · simp at r
      · have := h.w01 (by omega) (by omega)
        simp [dmu, h1, rem, g1, this]; omega
    by_cases g2 : D.W.at_ = 2
    · have hlt := hps.2 (by omega)
      have e' : wstep n M.xs M.hs D.W = (M.xs, M.hs, { D.W with passed := D.W.passed + 1, at_ := if n ≤ D.W.passed + 1 then 3 else 2 }) := by unfold wstep; rw [if_neg g0, if_neg g1, if_pos g2]
      rw [e', if_neg (show ¬ D.W.at_ = 3 by omega)]
      refine ⟨⟨q.zero, fun r => ?_, fun r => by simp at r, fun _ => hz1⟩, ?_⟩
      · rcases r with r | r | r
        · simp at r
        · have r2 : (if n ≤ D.W.passed + 1 then 3 else 2) = 0 := r.2
          split at r2 <;> omega
        · simp at r
      · by_cases hc : n ≤ D.W.passed + 1
        · simp [dmu, h1, rem, g2, hc]; omega
        · simp [dmu, h1, rem, g2, hc]; omega
    · have g3 : D.W.at_ = 3 := by omega
      have e' : wstep n M.xs M.hs D.W = (M.xs, M.hs.set 0 (-1), { D.W with at_ := 4 }) := by unfold wstep; rw [if_neg g0, if_neg g1, if_neg g2]
      rw [e', if_pos g3]
      refine ⟨⟨q.zero, fun _ => hol_set h.hl _, fun r => by simp at r, fun _ => hz1⟩, ?_⟩
      simp [dmu, h1, rem, g3]; omega
  · have h2 : D.at_ = 2 := by omega
    obtain ⟨x, r, hl⟩ : ∃ x r, D.left = x :: r := by
      cases hh : D.left with
      | nil => exact absurd hh (h.some h0)
      | cons x r => exact ⟨x, r, rfl⟩
    refine ⟨by simp [dready, h2], by simp [dmu, h2, hl], by simp [dnD, dmu, h2, hl], fun hd => ?_⟩
    have hr0 : r ≠ [] := fun q => hd ⟨h2, by rw [hl]; exact q⟩
    have e : dstep n M D = ({ M with ss := freed M.ss (place x) }, { D with A := nextA D.A D.cap, cap := D.cap - 1, left := r, at_ := 2 }) := by
      unfold dstep; rw [if_neg h0, if_neg h1, hl]; simp [hr0]
    rw [e]
    exact ⟨⟨q.zero, fun _ => q.lock (.inr (.inr h2)), fun r => by simp at r, fun _ => q.ws1 h0⟩, by simp [dmu, h2, hl]⟩
/-- What a drain comes to where nobody is in. -/
theorem fin_run {n : Nat} {B : Nat} {z : List Nat} : ∀ (K : Nat) (s : Mo × Dr), Pd n s.1 s.2 B → Qd n s.1 s.2 z → dmu n s.1 s.2 ≤ K →
    ∃ s', fin rdD (stD n) dnD K s = (dmu n s.1 s.2, true, stD n s') ∧ Pd n s'.1 s'.2 B ∧ Qd n s'.1 s'.2 z ∧ (s'.2.at_ = 2 ∧ s'.2.left.tail = []) ∧ s'.1.F = s.1.F ∧ s'.1.ss.length = s.1.ss.length ∧ s'.1.xs.length = s.1.xs.length ∧ s'.1.hs.length = s.1.hs.length ∧ s'.1.k = s.1.k ∧ s'.2.W.worker = s.2.W.worker := by
  intro K
  induction K with
  | zero =>
    intro s h q hm
    have := (Qd.run h q).2.1
    omega
  | succ K ih =>
    intro s h q hm
    obtain ⟨r1, r2, r3, r4⟩ := Qd.run h q
    unfold fin
    rw [if_pos (show rdD s = true from r1)]
    by_cases hd : s.2.at_ = 2 ∧ s.2.left.tail = []
    · have e : dnD s = true := by simp [dnD, hd]
      rw [if_pos e, (r3.1 e)]
      exact ⟨s, rfl, h, q, hd, rfl, rfl, rfl, rfl, rfl, rfl⟩
    · have e : ¬ dnD s = true := by simpa [dnD] using hd
      obtain ⟨q2, m2⟩ := r4 hd
      rw [if_neg e]
      obtain ⟨s', e', a1, a2, a3, a4, a5, a6, a7, a8, a9⟩ := ih (stD n s) (h.step r1 hd) q2 (by show dmu n (dstep n s.1 s.2).1 (dstep n s.1 s.2).2 ≤ K; omega)
      have e' : fin rdD (stD n) dnD K (stD n s) = (dmu n (dstep n s.1 s.2).1 (dstep n s.1 s.2).2, true, stD n s') := e'
      refine ⟨s', by rw [e']; simp only [Prod.mk.injEq, and_true]; exact m2, a1, a2, a3, ?_⟩
      have hs : (stD n s).1.F = s.1.F ∧ (stD n s).1.ss.length = s.1.ss.length ∧ (stD n s).1.xs.length = s.1.xs.length ∧ (stD n s).1.hs.length = s.1.hs.length ∧ (stD n s).1.k = s.1.k ∧ (stD n s).2.W.worker = s.2.W.worker := by
        unfold stD dstep
        split
        · exact ⟨rfl, rfl, rfl, rfl, rfl, rfl⟩
        split
        · unfold wstep
          split
          · simp
          split
          · simp
          split <;> simp
        · simp [freed]
      rw [a4, a5, a6, a7, a8, a9]
      exact hs
end Go.Proofs.Ytnmneofmflkilaa.Re
