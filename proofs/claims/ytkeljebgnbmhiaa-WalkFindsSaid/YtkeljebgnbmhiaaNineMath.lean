/- Plain lists: the chain of a list of pairs, laid from its end; what a walk along it comes to. -/
import Derived.Test.YtkeljebgnbmhiaaWalkD
namespace Go.Proofs.Ytkeljebgnbmhiaa.LawNine
open Go Hm Ar Mm Wk

/-- A pair: a key, its sum. -/
abbrev Pr := ByteArray × Int
def pat (l : List Pr) (i : Nat) : Pr := l.getD i default
def vee (k : ByteArray) : ByteArray := (⟨#[118]⟩ : ByteArray) ++ k
/-- The node that the k-th place gets. -/
def nof (l : List Pr) (k : Nat) : Nd := ⟨(pat l (l.length - 1 - k)).1, vee (pat l (l.length - 1 - k)).1, (pat l (l.length - 1 - k)).2, k⟩
/-- The last j pairs have their nodes. -/
structure Fw (l : List Pr) (ss : List Sl) (j : Nat) : Prop where
  len : ss.length = 60
  le : j ≤ l.length ∧ l.length ≤ 50
  had : ∀ k, k < j → at' ss k = ⟨true, 0, nof l k⟩
  free : ∀ k, j ≤ k → at' ss k = .zero
section
variable {l : List Pr} {ss : List Sl} {j : Nat}
theorem fw_new (hl : l.length ≤ 50) : Fw l (List.replicate 60 .zero) 0 :=
  ⟨by simp, ⟨Nat.zero_le _, hl⟩, fun k hk => by omega, fun k _ => by simp only [at', List.getD, List.getElem?_replicate]; split <;> rfl⟩
theorem Fw.least (h : Fw l ss j) : Least ss j ∧ (at' ss j).gen = 0 := by
  have := h.le
  have := h.len
  refine ⟨⟨by omega, by rw [h.free j (Nat.le_refl _)]; rfl, fun k hk => by rw [h.had k hk]⟩, by rw [h.free j (Nat.le_refl _)]; rfl⟩
theorem Fw.step (h : Fw l ss j) (hj : j < l.length) : Fw l (ss.set j ⟨true, (at' ss j).gen, nof l j⟩) (j + 1) := by
  have h1 := h.le
  have h2 := h.len
  rw [h.least.2]
  refine ⟨by simp [h2], by omega, fun k hk => ?_, fun k hk => ?_⟩
  · rw [at_set (by omega)]
    split
    · rename_i e; subst e; rfl
    · exact h.had k (by omega)
  · rw [at_set (by omega), if_neg (by omega)]
    exact h.free k (by omega)
theorem Fw.nexts (h : Fw l ss j) : Nexts ss := fun k => by
  by_cases hk : k < j
  · rw [h.had k hk]
    have := h.le
    simp only [nof]
    omega
  · rw [h.free k (by omega)]
    simp [Sl.zero, Nd.zero]
theorem Fw.isAt (h : Fw l ss j) {k : Nat} (hk : k < j) : IsAt ss (k + 1) k := by
  have := h.le
  have := h.len
  exact ⟨by omega, by rw [h.had k hk], by rw [h.had k hk]; show k + 1 = 0 * 65536 + k + 1; omega⟩
/-- n, n - 1, .., 1. -/
def hs : Nat → List Nat
  | 0 => []
  | n + 1 => (n + 1) :: hs n
theorem hs_len (n : Nat) : (hs n).length = n := by
  induction n with
  | zero => rfl
  | succ n ih => simp [hs, ih]
theorem Fw.path (h : Fw l ss j) : ∀ n, n ≤ j → Pa ss n (hs n) := by
  intro n
  induction n with
  | zero => intro _; exact .nil
  | succ n ih =>
    intro hn
    refine .cons (h.isAt (by omega)) ?_
    have : nx ss n = n := by unfold nx; rw [h.had n (by omega)]; rfl
    rw [this]
    exact ih (by omega)
theorem Fw.node (h : Fw l ss j) {n : Nat} (hn : n < j) : Wk.node ss (n + 1) = nof l n := by
  have := h.le
  unfold Wk.node
  rw [show (n + 1 - 1) % 65536 = n by omega, h.had n hn]

/-- The place of the first pair of a sum and a key, from the i-th on. -/
def fx (l : List Pr) (s : Int) (k : ByteArray) (i : Nat) : Nat → Option Nat
  | 0 => none
  | n + 1 => if (pat l i).2 = s ∧ (pat l i).1 = k then some i else fx l s k (i + 1) n
/-- Of all. -/
def ix (l : List Pr) (s : Int) (k : ByteArray) : Option Nat := fx l s k 0 l.length
theorem fx_bd {l : List Pr} {s : Int} {k : ByteArray} : ∀ (n i r : Nat), fx l s k i n = some r → i ≤ r ∧ r < i + n ∧ (pat l r).2 = s ∧ (pat l r).1 = k := by
  intro n
  induction n with
  | zero => intro i r h; simp [fx] at h
  | succ n ih =>
    intro i r h
    unfold fx at h
    split at h
    · injection h with h
      subst h
      rename_i q
      exact ⟨Nat.le_refl _, by omega, q.1, q.2⟩
    · obtain ⟨h1, h2, h3⟩ := ih _ _ h
      exact ⟨by omega, by omega, h3⟩
/-- What a walk along the chain comes to, where something is found, and where nothing is. -/
theorem along_hs (h : Fw l ss l.length) (s : Int) (k : ByteArray) : ∀ (n : Nat) (W : Wa), n ≤ l.length → W.sum = s → W.key = k → W.found = 0 → W.nd = .zero →
    (∀ r, fx l s k (l.length - n) n = some r → (along ss W (hs n)).1 = r + 1 - (l.length - n) ∧ (along ss W (hs n)).2.read = W.read + (r + 1 - (l.length - n)) ∧ (along ss W (hs n)).2.found = l.length - r ∧
      (along ss W (hs n)).2.prev = (if r = l.length - n then W.prev else l.length - r + 1) ∧ (along ss W (hs n)).2.nd = nof l (l.length - r - 1) ∧ (along ss W (hs n)).2.first = W.first ∧ (along ss W (hs n)).2.f = W.f) ∧
    (fx l s k (l.length - n) n = none → (along ss W (hs n)).1 = n ∧ (along ss W (hs n)).2.read = W.read + n ∧ (along ss W (hs n)).2.found = 0 ∧
      (along ss W (hs n)).2.prev = (if n = 0 then W.prev else 1) ∧ (along ss W (hs n)).2.nd = .zero ∧ (along ss W (hs n)).2.first = W.first ∧ (along ss W (hs n)).2.f = W.f) := by
  intro n
  induction n with
  | zero =>
    intro W _ e1 e2 e3 e4
    refine ⟨fun r hr => by simp [fx] at hr, fun _ => ?_⟩
    simp [hs, along, e3, e4]
  | succ n ih =>
    intro W hn e1 e2 e3 e4
    have hnode := h.node (n := n) (by omega)
    have hidx : l.length - 1 - n = l.length - (n + 1) := by omega
    have hhit : hit W (nof l n) = decide ((pat l (l.length - (n + 1))).2 = s ∧ (pat l (l.length - (n + 1))).1 = k) := by
      unfold hit nof
      rw [e1, e2, hidx]
    unfold hs along
    rw [hnode, hhit]
    by_cases hc : (pat l (l.length - (n + 1))).2 = s ∧ (pat l (l.length - (n + 1))).1 = k
    · have hf : fx l s k (l.length - (n + 1)) (n + 1) = some (l.length - (n + 1)) := by unfold fx; rw [if_pos hc]
      rw [if_pos (by simp [hc]), hf]
      refine ⟨fun r hr => ?_, fun hr => by simp at hr⟩
      injection hr with hr
      subst hr
      refine ⟨?_, ?_, ?_, ?_, ?_, rfl, rfl⟩
      · simp only; omega
      · simp only; omega
      · simp only; omega
      · simp
      · simp only; congr 1; omega
    · have hf : fx l s k (l.length - (n + 1)) (n + 1) = fx l s k (l.length - n) n := by
        conv => lhs; unfold fx
        rw [if_neg hc, show l.length - (n + 1) + 1 = l.length - n by omega]
      rw [if_neg (by simpa using hc), hf]
      have := ih { W with at_ := n + 1, read := W.read + 1, prev := n + 1 } (by omega) e1 e2 e3 e4
      simp only at this
      refine ⟨fun r hr => ?_, fun hr => ?_⟩
      · have hb := fx_bd _ _ _ hr
        obtain ⟨q1, q2, q3, q4, q5, q6, q7⟩ := this.1 r hr
        have q5' := q5
        obtain ⟨b1, b2, _⟩ := hb
        refine ⟨by rw [q1]; omega, by rw [q2]; omega, q3, ?_, q5', q6, q7⟩
        rw [q4, if_neg (show ¬ r = l.length - (n + 1) by omega)]
        split
        · omega
        · rfl
      · obtain ⟨q1, q2, q3, q4, q5, q6, q7⟩ := this.2 hr
        refine ⟨by rw [q1], by rw [q2]; omega, q3, ?_, q5, q6, q7⟩
        rw [q4, if_neg (show ¬ n + 1 = 0 by omega)]
        split
        · omega
        · rfl
end
end Go.Proofs.Ytkeljebgnbmhiaa.LawNine
