/- A region that draws its order: loads taken first though a later store hits what they read. A condition on the world is asked only until an operation of a chosen kind (till: the stores) comes up; each of those waits for every load that is taken first. -/
import Derived.OrdersHeld
import Derived.StillTail
import Derived.Deep.RegionHeld3
namespace Go.Proofs.Ytkeljebgnbmhiaa.Rn
open Go

/-- Whatever order is picked; S is asked behind each operation until one of till has come up. -/
def wpN (P : Program) (md : Region.Mode) (ops : Array Oper) (Q : Exit → Act → World → Prop) (S : World → Prop) (till : Nat → Bool) : Nat → Array Bool → Act → World → Prop
  | 0, listed, a, w => Region.ready md ops listed = [] ∧ Q .normal a w
  | f + 1, listed, a, w => (Region.ready md ops listed = [] → Q .normal a w) ∧
      ∀ i ∈ Region.ready md ops listed, wpOp P ops Q i (fun a' w' => (till i = true ∧ wpAny P md ops Q f (listed.setIfInBounds i true) a' w') ∨ (till i = false ∧ S w' ∧ wpN P md ops Q S till f (listed.setIfInBounds i true) a' w')) a w

section
variable {P : Program} {ops : Array Oper} {Q : Exit → Act → World → Prop} {md : Region.Mode} {S : World → Prop} {till : Nat → Bool}
theorem wpN_any : ∀ (f : Nat) (listed : Array Bool) (a : Act) (w : World), wpN P md ops Q S till f listed a w → wpAny P md ops Q f listed a w
  | 0, _, _, _, h => h
  | f + 1, _, _, _, h => ⟨h.1, fun i hi => wpOp_mono (fun a' w' h' => by
      rcases h' with ⟨_, h'⟩ | ⟨_, _, h'⟩
      · exact h'
      · exact wpN_any f _ a' w' h') (h.2 i hi)⟩

theorem wpN_first {i : Nat} {oi : Oper} {v : Value} (hi : ops[i]? = some oi) (hsel : ∀ (j : Nat) (o : Oper) cs b, ops[j]? = some o → o.op ≠ .select cs b)
    (hQ : ∀ c a w, Q (.panic c) (a.put oi.dst v) w → Q (.panic c) a w) (hti : till i = false) (htw : ∀ j, till j = true → Region.waitsFor md ops j i = true) :
    ∀ (f : Nat) (listed : Array Bool) (a : Act) (w : World),
      (∀ j oj, ops[j]? = some oj → j ≠ i → listed.getD j true = false → (∀ e ∈ oj.after, Region.binds md e = true → e.on ≠ i) → oi.apart ops oj = true) →
      i ∈ Region.ready md ops listed → YieldsIf P ops S oi v a → S w →
      wpN P md ops Q S till f (listed.setIfInBounds i true) (a.put oi.dst v) w → wpN P md ops Q S till (f + 1) listed a w := by
  intro f
  induction f with
  | zero =>
    intro listed a w _ hr hy hS H
    refine ⟨fun h => absurd hr (by rw [h]; simp), fun j hj => ?_⟩
    by_cases hji : j = i
    · rw [hji]
      exact hy.wpOp hi hS (.inr ⟨hti, hS, H⟩)
    · have h0 := ready_mono hj hji
      rw [H.1] at h0
      simp at h0
  | succ f ih =>
    intro listed a w hfree hr hy hS H
    refine ⟨fun h => absurd hr (by rw [h]; simp), fun j hj => ?_⟩
    by_cases hji : j = i
    · rw [hji]
      exact hy.wpOp hi hS (.inr ⟨hti, hS, H⟩)
    · obtain ⟨hun, oj, hoj, hall⟩ := mem_ready.1 hj
      have hnot : ∀ e ∈ oj.after, Region.binds md e = true → e.on ≠ i := fun e he hb heq => by
        have h1 := hall e he hb
        have h0 := (mem_ready.1 hr).1
        rw [heq, getD_both h0] at h1
        simp at h1
      have htj : till j = false := by
        cases ht : till j with
        | false => rfl
        | true =>
          obtain ⟨o', ho', e, he, hb, hon⟩ := Region.waitsFor_spec (htw j ht)
          rw [hoj] at ho'
          injection ho' with ho'
          subst ho'
          exact absurd hon (hnot e he hb)
      have h1 := H.2 j (ready_mono hj hji)
      refine wpOp_mono (fun a' w' h3 => ?_) (wpOp_putIf hoj (hfree j oj hoj hji hun hnot) (fun cs b => hsel i oi cs b hi) (fun cs b => hsel j oj cs b hoj) hQ hy h1)
      obtain ⟨hy', h3⟩ := h3
      rcases h3 with ⟨ht, _⟩ | ⟨_, hS', h3⟩
      · rw [htj] at ht
        simp at ht
      · refine .inr ⟨htj, hS', ih _ _ _ ?_ (ready_mono hr (Ne.symm hji)) hy' hS' (by rw [Array.setIfInBounds_comm _ _ hji]; exact h3)⟩
        intro k ok hk hki hku hno
        refine hfree k ok hk hki ?_ hno
        by_cases hjk : j = k
        · rw [← hjk]; exact hun
        · rwa [getD_set_ne true hjk] at hku

/-- Number i is taken first. -/
theorem wpN_take {i : Nat} {oi : Oper} {v : Value} {f : Nat} {listed : Array Bool} {a : Act} {w : World} (hi : ops[i]? = some oi)
    (hs : Region.noSelect ops = true) (hf : Region.free md ops listed i = true) (hr : (Region.ready md ops listed).contains i = true) (hti : till i = false)
    (htw : ∀ j, till j = true → Region.waitsFor md ops j i = true)
    (hQ : ∀ c a w, Q (.panic c) (a.put oi.dst v) w → Q (.panic c) a w) (hy : YieldsIf P ops S oi v a) (hS : S w)
    (h : wpN P md ops Q S till f (listed.setIfInBounds i true) (a.put oi.dst v) w) : wpN P md ops Q S till (f + 1) listed a w :=
  wpN_first hi (Region.noSelect_spec hs) hQ hti htw f listed a w (Region.free_spec hi hf) (by simpa using hr) hy hS h
theorem wpOp_of {i : Nat} {o : Oper} {a : Act} {w : World} {K : Act → World → Prop} (hi : ops[i]? = some o) (h : if Region.wanted o (yielded ops a.tmps) = true then Oper.wp P o a w K Q else K (a.put o.dst undef) w) : wpOp P ops Q i K a w := by
  unfold wpOp
  simp only [hi]
  split
  · rename_i hw
    rw [if_pos hw] at h
    exact .inl h
  · rename_i hw
    rw [if_neg hw] at h
    exact h
/-- An operation that looks at no world is taken first, whatever waits for it. -/
theorem wpN_first0 {i : Nat} {oi : Oper} {v : Value} (hi : ops[i]? = some oi) (hsel : ∀ (j : Nat) (o : Oper) cs b, ops[j]? = some o → o.op ≠ .select cs b)
    (hQ : ∀ c a w, Q (.panic c) (a.put oi.dst v) w → Q (.panic c) a w) (hti : till i = false) :
    ∀ (f : Nat) (listed : Array Bool) (a : Act) (w : World),
      (∀ j oj, ops[j]? = some oj → j ≠ i → listed.getD j true = false → (∀ e ∈ oj.after, Region.binds md e = true → e.on ≠ i) → oi.apart ops oj = true) →
      i ∈ Region.ready md ops listed → YieldsIf P ops (fun _ => True) oi v a → S w →
      wpN P md ops Q S till f (listed.setIfInBounds i true) (a.put oi.dst v) w → wpN P md ops Q S till (f + 1) listed a w := by
  intro f
  induction f with
  | zero =>
    intro listed a w _ hr hy hS H
    refine ⟨fun h => absurd hr (by rw [h]; simp), fun j hj => ?_⟩
    by_cases hji : j = i
    · rw [hji]
      exact hy.wpOp hi trivial (.inr ⟨hti, hS, H⟩)
    · have h0 := ready_mono hj hji
      rw [H.1] at h0
      simp at h0
  | succ f ih =>
    intro listed a w hfree hr hy hS H
    refine ⟨fun h => absurd hr (by rw [h]; simp), fun j hj => ?_⟩
    by_cases hji : j = i
    · rw [hji]
      exact hy.wpOp hi trivial (.inr ⟨hti, hS, H⟩)
    · obtain ⟨hun, oj, hoj, hall⟩ := mem_ready.1 hj
      have hnot : ∀ e ∈ oj.after, Region.binds md e = true → e.on ≠ i := fun e he hb heq => by
        have h1 := hall e he hb
        have h0 := (mem_ready.1 hr).1
        rw [heq, getD_both h0] at h1
        simp at h1
      have hfr : ∀ k ok, ops[k]? = some ok → k ≠ i → (listed.setIfInBounds j true).getD k true = false → (∀ e ∈ ok.after, Region.binds md e = true → e.on ≠ i) → oi.apart ops ok = true := fun k ok hk hki hku hno => by
        refine hfree k ok hk hki ?_ hno
        by_cases hjk : j = k
        · rw [← hjk]; exact hun
        · rwa [getD_set_ne true hjk] at hku
      have h1 := H.2 j (ready_mono hj hji)
      refine wpOp_mono (fun a' w' h3 => ?_) (wpOp_putIf hoj (hfree j oj hoj hji hun hnot) (fun cs b => hsel i oi cs b hi) (fun cs b => hsel j oj cs b hoj) hQ hy h1)
      obtain ⟨hy', h3⟩ := h3
      rcases h3 with ⟨ht, h3⟩ | ⟨htj, hS', h3⟩
      · refine .inl ⟨ht, wpAny_first hi hsel hQ f _ _ _ hfr (ready_mono hr (Ne.symm hji)) ?_ (by rw [Array.setIfInBounds_comm _ _ hji]; exact h3)⟩
        rcases hy' with ⟨h1, h2⟩ | h1
        · exact .inl ⟨h1, fun w => h2 w trivial⟩
        · exact .inr h1
      · exact .inr ⟨htj, hS', ih _ _ _ hfr (ready_mono hr (Ne.symm hji)) hy' hS' (by rw [Array.setIfInBounds_comm _ _ hji]; exact h3)⟩
theorem wpN_take0 {i : Nat} {oi : Oper} {v : Value} {f : Nat} {listed : Array Bool} {a : Act} {w : World} (hi : ops[i]? = some oi)
    (hs : Region.noSelect ops = true) (hf : Region.free md ops listed i = true) (hr : (Region.ready md ops listed).contains i = true) (hti : till i = false)
    (hQ : ∀ c a w, Q (.panic c) (a.put oi.dst v) w → Q (.panic c) a w) (hy : YieldsIf P ops (fun _ => True) oi v a) (hS : S w)
    (h : wpN P md ops Q S till f (listed.setIfInBounds i true) (a.put oi.dst v) w) : wpN P md ops Q S till (f + 1) listed a w :=
  wpN_first0 hi (Region.noSelect_spec hs) hQ hti f listed a w (Region.free_spec hi hf) (by simpa using hr) hy hS h
/-- One alone may come up, none of till. -/
theorem wpN_one {i : Nat} {o : Oper} {f : Nat} {listed : Array Bool} {a : Act} {w : World} (hr : Region.ready md ops listed = [i]) (hi : ops[i]? = some o) (hti : till i = false)
    (h : ∀ K : Act → World → Prop, (∀ a' w', S w' → wpN P md ops Q S till f (listed.setIfInBounds i true) a' w' → K a' w') → if Region.wanted o (yielded ops a.tmps) = true then Oper.wp P o a w K Q else K (a.put o.dst undef) w) :
    wpN P md ops Q S till (f + 1) listed a w := by
  refine ⟨fun h => absurd (hr.symm.trans h) (by simp), fun j hj => ?_⟩
  rw [hr] at hj
  have hji : j = i := by simpa using hj
  subst hji
  exact wpOp_of hi (h _ fun a' w' hS hw => Or.inr ⟨hti, hS, hw⟩)
/-- Two may come up, none of till. -/
theorem wpN_two {i j : Nat} {o o' : Oper} {f : Nat} {listed : Array Bool} {a : Act} {w : World} (hr : Region.ready md ops listed = [i, j]) (hi : ops[i]? = some o) (hti : till i = false) (hj : ops[j]? = some o') (htj : till j = false)
    (h : ∀ K : Act → World → Prop, (∀ a' w', S w' → wpN P md ops Q S till f (listed.setIfInBounds i true) a' w' → K a' w') → if Region.wanted o (yielded ops a.tmps) = true then Oper.wp P o a w K Q else K (a.put o.dst undef) w)
    (h' : ∀ K : Act → World → Prop, (∀ a' w', S w' → wpN P md ops Q S till f (listed.setIfInBounds j true) a' w' → K a' w') → if Region.wanted o' (yielded ops a.tmps) = true then Oper.wp P o' a w K Q else K (a.put o'.dst undef) w) :
    wpN P md ops Q S till (f + 1) listed a w := by
  refine ⟨fun h => absurd (hr.symm.trans h) (by simp), fun k hk => ?_⟩
  rw [hr] at hk
  have hk : k = i ∨ k = j := by simpa using hk
  rcases hk with rfl | rfl
  · exact wpOp_of hi (h _ fun a' w' hS hw => Or.inr ⟨hti, hS, hw⟩)
  · exact wpOp_of hj (h' _ fun a' w' hS hw => Or.inr ⟨htj, hS, hw⟩)
/-- From here on one may come up at a time, in the order of the text. -/
theorem wpN_seq (l : List Oper) (k : Nat) {listed : Array Bool} {a : Act} {w : World} (hl : ∀ j, l[j]? = ops[k + j]?) (hB : Region.seqB md ops l.length k listed = true) (h : wpList P ops Q l a w)
    (hk : till k = true ∨ l = []) : wpN P md ops Q S till l.length listed a w := by
  have hA := wpAny_of_seq l k listed a w hl hB h
  cases l with
  | nil => exact hA
  | cons o l =>
    refine ⟨hA.1, fun i hi => ?_⟩
    have hr : Region.ready md ops listed = [k] := by
      simp only [List.length_cons, Region.seqB, Bool.and_eq_true, decide_eq_true_eq] at hB
      exact hB.1
    rw [hr] at hi
    have hik : i = k := by simpa using hi
    subst hik
    have htk : till i = true := by
      rcases hk with h | h
      · exact h
      · cases h
    exact wpOp_mono (fun a' w' h' => .inl ⟨htk, h'⟩) (hA.2 i (by rw [hr]; simp))
theorem wpN_tail {f : Nat} (k : Nat) {listed : Array Bool} {a : Act} {w : World} (hf : (ops.toList.drop k).length = f) (hB : Region.seqB md ops f k listed = true) (hk : till k = true) (h : wpList P ops Q (ops.toList.drop k) a w) :
    wpN P md ops Q S till f listed a w := by
  subst hf
  exact wpN_seq _ k (fun j => by rw [List.getElem?_drop, Array.getElem?_toList]) hB h (.inl hk)
/-- The region, from its beginning on. -/
theorem wp_region_N {id : Nat} {a : Act} {w : World} (S : World → Prop) (till : Nat → Bool) (hm : P.follows .mixedOrders = true) (h : wpN P .any ops Q S till ops.size (Array.replicate ops.size false) a w.drew) :
    (Code.region id ops true).wp P Q a w := wp_region_any hm (wpN_any _ _ _ _ h)
end
end Go.Proofs.Ytkeljebgnbmhiaa.Rn
