/- Plain lists: a chain of keys a, b, ..; a walk that stands in it. -/
import Derived.Test.YtkeljebgnbmhiaaLawNineA
namespace Go.Proofs.Ytkeljebgnbmhiaa.LawNine
open Go Hm Ar Mm Wk

def bkey (i : Nat) : ByteArray := ⟨#[UInt8.ofNat (97 + i)]⟩
theorem bkey_ne {i j : Nat} (hi : i < 100) (hj : j < 100) (h : i ≠ j) : bkey i ≠ bkey j := by
  intro e
  unfold bkey at e
  injection e with e
  have e2 : UInt8.ofNat (97 + i) = UInt8.ofNat (97 + j) := by simpa using e
  have e3 := congrArg UInt8.toNat e2
  simp at e3
  omega
/-- j nodes, the first c of them linked. -/
structure Mw (ss : List Sl) (j c : Nat) : Prop where
  len : ss.length = 20
  le : j ≤ 9
  had : ∀ k, k < j → at' ss k = ⟨true, 0, ⟨bkey k, ⟨#[]⟩, 0, if k < c then (k + 2 : Nat) else 0⟩⟩
  free : ∀ k, j ≤ k → at' ss k = .zero
/-- The handles of j nodes. -/
def hl (j : Nat) : List Nat := (List.range j).map (· + 1)
theorem hl_len (j : Nat) : (hl j).length = j := by simp [hl]
theorem hl_snoc (j : Nat) : hl j ++ [j + 1] = hl (j + 1) := by simp [hl, List.range_succ]
theorem hl_nth {j i : Nat} (h : i < j) : nth (hl j) i = i + 1 := by
  unfold nth hl
  simp [List.getD, h]
section
variable {ss : List Sl} {j c : Nat}
theorem mw_new : Mw (List.replicate 20 .zero) 0 0 :=
  ⟨by simp, by omega, fun k hk => by omega, fun k _ => by simp only [at', List.getD, List.getElem?_replicate]; split <;> rfl⟩
theorem Mw.least (h : Mw ss j 0) : Least ss j ∧ (at' ss j).gen = 0 := by
  have := h.le
  have := h.len
  refine ⟨⟨by omega, by rw [h.free j (Nat.le_refl _)]; rfl, fun k hk => by rw [h.had k hk]⟩, by rw [h.free j (Nat.le_refl _)]; rfl⟩
theorem Mw.step (h : Mw ss j 0) (hj : j < 9) : Mw (ss.set j ⟨true, 0, ⟨bkey j, ⟨#[]⟩, 0, 0⟩⟩) (j + 1) 0 := by
  have h1 := h.le
  have h2 := h.len
  refine ⟨by simp [h2], by omega, fun k hk => ?_, fun k hk => ?_⟩
  · rw [at_set (by omega)]
    split
    · rename_i e; subst e; simp
    · exact h.had k (by omega)
  · rw [at_set (by omega), if_neg (by omega)]
    exact h.free k (by omega)
theorem Mw.link (h : Mw ss j c) (hc : c + 1 < j) : Mw (ss.set c { at' ss c with nd := { (at' ss c).nd with next := ((c : Int) + 2) } }) j (c + 1) := by
  have h1 := h.le
  have h2 := h.len
  refine ⟨by simp [h2], h1, fun k hk => ?_, fun k hk => ?_⟩
  · rw [at_set (by omega)]
    split
    · rename_i e
      subst e
      rw [h.had k (by omega)]
      simp
    · rw [h.had k hk]
      by_cases hkc : k < c
      · rw [if_pos hkc, if_pos (by omega)]
      · rw [if_neg hkc, if_neg (by omega)]
  · rw [at_set (by omega), if_neg (by omega)]
    exact h.free k hk
theorem Mw.nexts (h : Mw ss j c) : Nexts ss := fun k => by
  by_cases hk : k < j
  · rw [h.had k hk]
    have := h.le
    simp only
    split <;> omega
  · rw [h.free k (by omega)]
    simp [Sl.zero, Nd.zero]
theorem Mw.isAt (h : Mw ss j c) {k : Nat} (hk : k < j) : IsAt ss (k + 1) k := by
  have := h.le
  have := h.len
  exact ⟨by omega, by rw [h.had k hk], by rw [h.had k hk]; show k + 1 = 0 * 65536 + k + 1; omega⟩
end
/-- A walk that read t nodes and stands ahead of the next one. -/
def wt (f : Nat) (key : ByteArray) (t : Nat) : Wa := ⟨f, 3, 0, key, 2, t + 1, 1, t, t, 0, .zero⟩
section
variable {ss : List Sl} {j many : Nat}
theorem pl_live (hl : ss.length ≤ 1024) {x k : Nat} (h : IsAt ss x k) : pl ss x = some k := (pl_some hl).2 h
theorem first_step (f : Nat) (key : ByteArray) (F : Bool) (ss : List Sl) : gstep [1, 0, 0, 1] ss (F, new f 3 0 key) = (F, wt f key 0) ∧ gdone [1, 0, 0, 1] ss (F, new f 3 0 key) = false := by
  simp [gstep, gdone, goTo, word, new, wt, Cl.nth]
theorem Mw.look (h : Mw ss j (j - 1)) {t : Nat} (ht : t + 1 < j) (f : Nat) (F : Bool) : gstep [1, 0, 0, 1] ss (F, wt f (bkey (j - 1)) t) = (F, wt f (bkey (j - 1)) (t + 1)) ∧ gdone [1, 0, 0, 1] ss (F, wt f (bkey (j - 1)) t) = false := by
  have hp := pl_live (by have := h.len; omega) (h.isAt (k := t) (by omega))
  have hle := h.le
  have hs : gstep [1, 0, 0, 1] ss (F, wt f (bkey (j - 1)) t) = (F, wt f (bkey (j - 1)) (t + 1)) := by
    unfold gstep
    simp only [wt]
    rw [if_neg (by omega), if_pos trivial, hp]
    simp only [h.had t (by omega)]
    unfold looks hit
    simp only
    rw [if_neg (by simp only [decide_eq_true_eq, true_and]; exact bkey_ne (by omega) (by omega) (by omega)), if_pos (by omega)]
    unfold goTo
    rw [Int.toNat_natCast, if_neg (by omega)]
  refine ⟨hs, ?_⟩
  unfold gdone
  rw [hs]
  rfl
/-- A walk behind so many steps. -/
def wsi (f : Nat) (key : ByteArray) (i : Nat) : Wa := if i = 0 then new f 3 0 key else wt f key (i - 1)
theorem wsi_f (f : Nat) (key : ByteArray) (i : Nat) : (wsi f key i).f = f := by unfold wsi; split <;> rfl
theorem wsi_ok (f : Nat) (key : ByteArray) (i r : Nat) (hi : i ≤ 100) (hr : r ≤ 1000000) : Okw r (wsi f key i) := by
  unfold wsi
  split
  · exact ⟨by simp [new], by simp [new], by simp only [new]; omega, by simp [new]⟩
  · exact ⟨by simp [wt], by simp only [wt]; omega, by simp only [wt]; omega, by simp [wt]⟩
theorem Mw.steps (h : Mw ss j (j - 1)) {i : Nat} (hi : i < j) (f : Nat) (F : Bool) : gstep [1, 0, 0, 1] ss (F, wsi f (bkey (j - 1)) i) = (F, wsi f (bkey (j - 1)) (i + 1)) ∧ gdone [1, 0, 0, 1] ss (F, wsi f (bkey (j - 1)) i) = false := by
  by_cases h0 : i = 0
  · subst h0
    exact first_step f (bkey (j - 1)) F ss
  · obtain ⟨t, rfl⟩ : ∃ t, i = t + 1 := ⟨i - 1, by omega⟩
    exact h.look hi f F
/-- x, x + 1, .. -/
def up (x : Nat) : Nat → List Nat
  | 0 => []
  | n + 1 => x :: up (x + 1) n
theorem up_len (n : Nat) : ∀ x, (up x n).length = n := by
  induction n with
  | zero => intro x; rfl
  | succ n ih => intro x; simp [up, ih]
/-- Of such a chain the last one is found. -/
theorem up_path {ss : List Sl} (hl : many ≤ ss.length ∧ ss.length ≤ 1024) (hm : many ≤ 9) (n : Nat) : ∀ (x : Nat), x + n = many + 1 → 1 ≤ x →
    (∀ k, x ≤ k + 1 → k < many → at' ss k = ⟨true, 0, ⟨bkey k, ⟨#[]⟩, 0, if k < many - 1 then (k + 2 : Nat) else 0⟩⟩) →
    Pa ss (if n = 0 then 0 else x) (up x n) ∧ ∀ W : Wa, W.sum = 0 → W.key = bkey (many - 1) → 0 < n → (along ss W (up x n)).2.found = many ∧ (along ss W (up x n)).2.f = W.f := by
  induction n with
  | zero => intro x _ _ _; exact ⟨.nil, fun _ _ _ h => by omega⟩
  | succ n ih =>
    intro x hx h1 hk
    obtain ⟨k, rfl⟩ : ∃ k, x = k + 1 := ⟨x - 1, by omega⟩
    have h0 := hk k (by omega) (by omega)
    have hat : IsAt ss (k + 1) k := ⟨by omega, by rw [h0], by rw [h0]; show k + 1 = 0 * 65536 + k + 1; omega⟩
    have hn : node ss (k + 1) = ⟨bkey k, ⟨#[]⟩, 0, if k < many - 1 then (k + 2 : Nat) else 0⟩ := by
      unfold node
      rw [show (k + 1 - 1) % 65536 = k by omega, h0]
    have hx2 : nx ss k = if n = 0 then 0 else k + 1 + 1 := by
      unfold nx
      rw [h0]
      simp only
      by_cases e : n = 0
      · rw [if_pos e, if_neg (by omega)]; rfl
      · rw [if_neg e, if_pos (by omega)]; rfl
    obtain ⟨q1, q2⟩ := ih (k + 1 + 1) (by omega) (by omega) (fun k' a b => hk k' (by omega) b)
    refine ⟨?_, fun W e1 e2 _ => ?_⟩
    · rw [if_neg (by omega)]
      refine .cons hat ?_
      rw [hx2]
      exact q1
    · unfold up along
      rw [hn]
      by_cases e : n = 0
      · have : hit W ⟨bkey k, ⟨#[]⟩, 0, if k < many - 1 then (k + 2 : Nat) else 0⟩ = true := by
          unfold hit
          rw [e1, e2, show k = many - 1 by omega]
          simp
        rw [if_pos this]
        exact ⟨by simp only; omega, rfl⟩
      · have : ¬ hit W ⟨bkey k, ⟨#[]⟩, 0, if k < many - 1 then (k + 2 : Nat) else 0⟩ = true := by
          unfold hit
          rw [e1, e2]
          simp only [decide_eq_true_eq, true_and]
          exact bkey_ne (by omega) (by omega) (by omega)
        rw [if_neg this]
        exact q2 { W with at_ := k + 1, read := W.read + 1, prev := k + 1 } e1 e2 (by omega)
/-- The node ahead of the t-th one linked past it. -/
def lnk (ss : List Sl) (t : Nat) : List Sl := if t = 0 then ss else ss.set (t - 1) { at' ss (t - 1) with nd := { (at' ss (t - 1)).nd with next := ((t : Int) + 2) } }
theorem lnk_len (ss : List Sl) (t : Nat) : (lnk ss t).length = ss.length := by unfold lnk; split <;> simp
theorem Mw.lnk_at (h : Mw ss j (j - 1)) {t : Nat} (ht : t < j) {k : Nat} (hk : t ≤ k) : at' (lnk ss t) k = at' ss k := by
  have := h.len
  have := h.le
  unfold lnk
  split
  · rfl
  · rw [at_set (by omega), if_neg (by omega)]
theorem Mw.lnk_nexts (h : Mw ss j (j - 1)) {t : Nat} (ht : t < j) : Nexts (lnk ss t) := by
  have := h.len
  have := h.le
  unfold lnk
  split
  · exact h.nexts
  · exact h.nexts.set (by omega) _ (by simp only; omega)
theorem Mw.lnk_isAt (h : Mw ss j (j - 1)) {t : Nat} (ht : t < j) : IsAt (lnk ss t) (t + 1) t := by
  have := h.isAt ht
  unfold IsAt
  rw [lnk_len, h.lnk_at ht (Nat.le_refl _)]
  exact this
/-- What the walk comes to where the node stays. -/
theorem Mw.fin_stays (h : Mw ss j (j - 1)) {t : Nat} (ht : t < j) (f : Nat) (F : Bool) : ∃ (n : Nat) (V : Wa), n ≤ 50 ∧ wfin [1, 0, 0, 1] (lnk ss t) 50 (F, wt f (bkey (j - 1)) t) = (n, true, (F, V)) ∧ V.found = j ∧ V.f = f := by
  have h1 := h.len
  have h2 := h.le
  obtain ⟨n, hn⟩ : ∃ n, j - t = n + 1 := ⟨j - t - 1, by omega⟩
  have hu := up_path (ss := lnk ss t) (many := j) (by rw [lnk_len]; omega) h2 (n + 1) (t + 1) (by omega) (by omega) (fun k a b => by rw [h.lnk_at ht (by omega)]; exact h.had k b)
  rw [if_neg (by omega)] at hu
  have hp := along_path (xs := [1, 0, 0, 1]) (ss := lnk ss t) (by rw [lnk_len]; omega) (F := F) (up (t + 1 + 1) n) (t + 1) (wt f (bkey (j - 1)) t) 50 hu.1 rfl rfl (by rw [up_len]; omega)
  obtain ⟨q1, q2⟩ := hu.2 (wt f (bkey (j - 1)) t) rfl rfl (by omega)
  refine ⟨_, _, ?_, hp, q1, q2⟩
  have := Me.fin_le (fun _ => true) (gstep [1, 0, 0, 1] (lnk ss t)) (gdone [1, 0, 0, 1] (lnk ss t)) 50 (F, wt f (bkey (j - 1)) t)
  have hp' := hp
  unfold wfin at hp'
  rw [hp'] at this
  exact this
/-- Where it was freed. -/
theorem Mw.fin_freed (h : Mw ss j (j - 1)) {t : Nat} (ht : t < j) (f : Nat) (F : Bool) : wfin [1, 0, 0, 1] ((lnk ss t).set t ⟨false, 1, .zero⟩) 50 (F, wt f (bkey (j - 1)) t) = (1, true, (true, { wt f (bkey (j - 1)) t with nx := 3 })) := by
  have h1 := h.len
  have h2 := h.le
  have hp : pl ((lnk ss t).set t ⟨false, 1, .zero⟩) (t + 1) = none := by
    unfold pl
    rw [if_neg]
    rintro ⟨_, _, q, _⟩
    rw [show (t + 1 - 1) % 65536 = t by omega, at_set (by rw [lnk_len]; omega), if_pos rfl] at q
    simp at q
  have hs : gstep [1, 0, 0, 1] ((lnk ss t).set t ⟨false, 1, .zero⟩) (F, wt f (bkey (j - 1)) t) = (true, { wt f (bkey (j - 1)) t with nx := 3 }) := by
    unfold gstep
    simp only [wt]
    rw [if_neg (by omega), if_pos trivial, hp]
  unfold wfin Me.fin
  rw [if_pos rfl, if_pos (by unfold gdone; rw [hs]; rfl), hs]
theorem Mw.freed_nexts (h : Mw ss j (j - 1)) {t : Nat} (ht : t < j) : Nexts ((lnk ss t).set t ⟨false, 1, .zero⟩) :=
  (h.lnk_nexts ht).set (by rw [lnk_len]; have := h.len; have := h.le; omega) _ (by simp [Nd.zero])
end
end Go.Proofs.Ytkeljebgnbmhiaa.LawNine
