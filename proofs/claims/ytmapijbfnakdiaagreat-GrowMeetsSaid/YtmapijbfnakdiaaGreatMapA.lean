/- Plain lists: chains with their handles; a node put in the place of one, or ahead of all. -/
import Derived.Test.YtmapijbfnakdiaaGreatPairs
import Derived.Test.YtmapijbfnakdiaaGreatMemReach
namespace Go.Proofs.YtmapijbfnakdiaaGreat.Mq
open Go Hm Ar Mm Wk Pc Me

/-- A handle, the pair of its node. -/
abbrev Hp := Nat × Pr
abbrev hds (q : List Hp) : List Nat := q.map (·.1)
abbrev prs (q : List Hp) : List Pr := q.map (·.2)
abbrev kys (q : List Hp) : List ByteArray := q.map (·.2.1)
/-- A chain, with its handles. -/
inductive Cx (ss : List Sl) : Nat → List Hp → Prop
  | nil : Cx ss 0 []
  | cons {x k z : Nat} {p : Pr} {t : List Hp} : IsAt ss x k → (at' ss k).nd = ndp p z → Cx ss z t → Cx ss x ((x, p) :: t)
section
variable {ss ss' : List Sl} {x : Nat} {q : List Hp}
theorem Cx.cn (h : Cx ss x q) : Cn ss x (prs q) := by
  induction h with
  | nil => exact .nil
  | cons a b _ ih => exact .cons a b ih
theorem Cx.pos (h : Cx ss x q) : x = 0 ↔ q = [] := by
  cases h with
  | nil => simp
  | cons a b c => simp [a.pos]
theorem Cx.ch (h : Cx ss x q) : ∀ met, (∀ y ∈ hds q, y ∉ met) → (hds q).Nodup → Ch ss met x (hds q) := by
  induction h with
  | nil => intro met _ _; exact .stop (.inl fun k hk => hk.pos rfl)
  | @cons x k z p t a b c ih =>
    intro met hm hn
    have hn' : x ∉ hds t ∧ (hds t).Nodup := List.nodup_cons.1 hn
    refine .go a (hm x (by simp)) ?_
    have e : nx ss k = z := by unfold nx; rw [b]; rfl
    rw [e]
    refine ih (x :: met) (fun y hy q => ?_) hn'.2
    rcases List.mem_cons.1 q with rfl | q
    · exact hn'.1 hy
    · exact hm y (List.mem_cons_of_mem _ hy) q
theorem Cx.at (h : Cx ss x q) : ∀ e ∈ q, ∃ k z, IsAt ss e.1 k ∧ (at' ss k).nd = ndp e.2 z := by
  induction h with
  | nil => simp
  | @cons x k z p t a b c ih =>
    intro e he
    rcases List.mem_cons.1 he with rfl | he
    · exact ⟨k, z, a, b⟩
    · exact ih e he
theorem Cx.live (h : Cx ss x q) : ∀ y ∈ hds q, ∃ k, IsAt ss y k := by
  intro y hy
  obtain ⟨e, he, rfl⟩ := List.mem_map.1 hy
  obtain ⟨k, _, hk, _⟩ := h.at e he
  exact ⟨k, hk⟩
/-- All its nodes stay. -/
theorem Cx.keep (h : Cx ss x q) : (∀ y ∈ hds q, ∀ k, IsAt ss y k → IsAt ss' y k ∧ (at' ss' k).nd = (at' ss k).nd) → Cx ss' x q := by
  induction h with
  | nil => intro _; exact .nil
  | @cons x k z p t a b c ih =>
    intro hk
    have := hk x (by simp) k a
    exact .cons this.1 (this.2.trans b) (ih fun y hy => hk y (List.mem_cons_of_mem _ hy))
theorem Cx.tail {p : Pr} {t : List Hp} (h : Cx ss x ((x, p) :: t)) : ∃ k z, IsAt ss x k ∧ (at' ss k).nd = ndp p z ∧ Cx ss z t := by
  cases h with
  | cons a b c => exact ⟨_, _, a, b, c⟩
theorem Cx.head {e : Hp} {t : List Hp} (h : Cx ss x (e :: t)) : x = e.1 := by
  cases h with
  | cons a b c => rfl
/-- The last handle of what was passed; none: 0. -/
def lastH (pre : List Hp) : Nat := (hds pre).getLastD 0
theorem lastH_snoc (pre : List Hp) (e : Hp) : lastH (pre ++ [e]) = e.1 := by simp [lastH]
theorem lastH_nil : lastH [] = 0 := rfl
theorem lastH_ne {pre : List Hp} (h : Cx ss x (pre ++ q)) (hp : pre ≠ []) : lastH pre ≠ 0 := by
  obtain ⟨p0, e, rfl⟩ : ∃ p0 e, pre = p0 ++ [e] := ⟨pre.dropLast, pre.getLast hp, (List.dropLast_concat_getLast hp).symm⟩
  rw [lastH_snoc]
  obtain ⟨k, z, hk, _⟩ := h.at e (by simp)
  exact hk.pos
/-- Where a chain goes on. -/
theorem Cx.suffix : ∀ (pre : List Hp) (x : Nat), Cx ss x (pre ++ q) → ∃ y, Cx ss y q := by
  intro pre
  induction pre with
  | nil => intro x h; exact ⟨x, h⟩
  | cons e t ih =>
    intro x h
    cases h with
    | cons a b c => exact ih _ c
/-- One node in the place of another. -/
theorem Cx.swap {m h kp z : Nat} {e e' : Hp} {pr : Pr} {t : List Hp} (hh : IsAt ss' h m) (hnd : (at' ss' m).nd = ndp pr z) (ht : Cx ss' z t) : ∀ (pre : List Hp) (x : Nat), Cx ss x (pre ++ e :: e' :: t) →
    IsAt ss e.1 kp → IsAt ss' e.1 kp → (at' ss' kp).nd = ndp e.2 h → (∀ y ∈ hds pre, ∀ k, IsAt ss y k → IsAt ss' y k ∧ (at' ss' k).nd = (at' ss k).nd) → Cx ss' x (pre ++ e :: (h, pr) :: t) := by
  intro pre
  induction pre with
  | nil =>
    intro x hc h1 h2 h3 _
    cases hc with
    | cons a b c => exact .cons h2 h3 (.cons hh hnd ht)
  | cons e0 r ih =>
    intro x hc h1 h2 h3 hk
    cases hc with
    | @cons _ k z0 p _ a b c =>
      have := hk x (by simp) k a
      exact .cons this.1 (this.2.trans b) (ih _ c h1 h2 h3 fun y hy => hk y (List.mem_cons_of_mem _ hy))
end

/-! ### what is found -/
theorem lk_none {q : List Pr} {key : ByteArray} : lk q key = none ↔ key ∉ q.map (·.1) := by
  induction q with
  | nil => simp [lk]
  | cons p t ih =>
    unfold lk
    by_cases h : p.1 = key
    · rw [if_pos h]; simp [h]
    · rw [if_neg h, ih]
      simp [show ¬ key = p.1 from fun e => h e.symm]
theorem lk_mem {q : List Pr} {p : Pr} (hn : (q.map (·.1)).Nodup) (hp : p ∈ q) : lk q p.1 = some p.2 := by
  induction q with
  | nil => simp at hp
  | cons a t ih =>
    have hn' : a.1 ∉ t.map (·.1) ∧ (t.map (·.1)).Nodup := List.nodup_cons.1 hn
    unfold lk
    rcases List.mem_cons.1 hp with rfl | hp
    · rw [if_pos rfl]
    · rw [if_neg (fun e => hn'.1 (by rw [e]; exact List.mem_map_of_mem hp)), ih hn'.2 hp]
theorem lk_some_mem {q : List Pr} {key v : ByteArray} (h : lk q key = some v) : (key, v) ∈ q := by
  induction q with
  | nil => simp [lk] at h
  | cons a t ih =>
    unfold lk at h
    split at h
    · rename_i e
      injection h with h
      subst h; subst e
      exact List.mem_cons_self
    · exact List.mem_cons_of_mem _ (ih h)
theorem lk_perm {q q' : List Pr} (hn : (q.map (·.1)).Nodup) (hp : q.Perm q') (key : ByteArray) : lk q key = lk q' key := by
  have hn' : (q'.map (·.1)).Nodup := (hp.map _).nodup_iff.1 hn
  cases h : lk q key with
  | none =>
    rw [lk_none] at h
    exact ((lk_none.2 fun e => h ((hp.map _).mem_iff.2 e))).symm
  | some v =>
    have := hp.mem_iff.1 (lk_some_mem h)
    exact (lk_mem hn' this).symm
theorem lk_append (a b : List Pr) (key : ByteArray) : lk (a ++ b) key = if (lk a key).isSome then lk a key else lk b key := by
  induction a with
  | nil => simp [lk]
  | cons p t ih =>
    rw [List.cons_append]
    by_cases h : p.1 = key
    · simp [lk, h]
    · simp only [lk, if_neg h]
      exact ih
/-- A list that has the key's value now, and all else as ahead. -/
structure Upd (l l' : List Pr) (key val : ByteArray) : Prop where
  nd : (l'.map (·.1)).Nodup
  lk : ∀ k, Pc.lk l' k = if k = key then some val else Pc.lk l k
  len : l'.length = if (Pc.lk l key).isSome then l.length else l.length + 1
theorem filter_len {l : List Pr} (hn : (l.map (·.1)).Nodup) (key : ByteArray) : (l.filter fun p => decide (p.1 ≠ key)).length + (if (Pc.lk l key).isSome then 1 else 0) = l.length := by
  induction l with
  | nil => simp [lk]
  | cons p t ih =>
    have hn' : p.1 ∉ t.map (·.1) ∧ (t.map (·.1)).Nodup := List.nodup_cons.1 hn
    have := ih hn'.2
    by_cases h : p.1 = key
    · have h0 : lk t key = none := lk_none.2 (by rw [← h]; exact hn'.1)
      rw [h0] at this
      simp only [Option.isSome_none, Bool.false_eq_true, if_false, Nat.add_zero] at this
      simp only [List.filter_cons, h, ne_eq, not_true_eq_false, decide_false, Bool.false_eq_true, if_false, lk, if_true, Option.isSome_some, List.length_cons]
      simp only [ne_eq] at this
      omega
    · simp only [List.filter_cons, h, ne_eq, not_false_eq_true, decide_true, if_true, lk, if_false, List.length_cons]
      simp only [ne_eq] at this
      omega
theorem lk_filter (l : List Pr) (key k : ByteArray) : lk (l.filter fun p => decide (p.1 ≠ key)) k = if k = key then none else lk l k := by
  induction l with
  | nil => simp [lk]
  | cons p t ih =>
    by_cases h : p.1 = key
    · rw [List.filter_cons, if_neg (by simp [h]), ih]
      split
      · rfl
      · rename_i hk
        conv => rhs; unfold lk
        rw [if_neg (fun e => hk (by rw [← e, h]))]
    · rw [List.filter_cons, if_pos (by simp [h])]
      unfold lk
      split
      · rename_i e
        rw [if_neg (fun q => h (by rw [e, q]))]
      · exact ih
theorem upd_of {l l' : List Pr} {key val : ByteArray} (hn : (l.map (·.1)).Nodup) (hp : l'.Perm ((key, val) :: l.filter fun p => decide (p.1 ≠ key))) : Upd l l' key val := by
  have hf : ((((key, val) :: l.filter fun p => decide (p.1 ≠ key)) : List Pr).map (·.1)).Nodup := by
    rw [List.map_cons, List.nodup_cons]
    refine ⟨fun q => ?_, (List.filter_sublist.map _).nodup hn⟩
    obtain ⟨p, hp, e⟩ := List.mem_map.1 q
    have := (List.mem_filter.1 hp).2
    simp [e] at this
  have hn' : (l'.map (·.1)).Nodup := (hp.map _).nodup_iff.2 hf
  refine ⟨hn', fun k => ?_, ?_⟩
  · rw [lk_perm hn' hp]
    unfold lk
    by_cases e : key = k
    · rw [if_pos e, if_pos e.symm]
    · rw [if_neg e, if_neg (fun q => e q.symm), lk_filter, if_neg (fun q => e q.symm)]
      cases l <;> rfl
  · rw [hp.length_eq, List.length_cons]
    have := filter_len hn key
    split
    · rename_i e; rw [if_pos e] at this; omega
    · rename_i e; rw [if_neg e] at this; omega
/-- A key's bucket. -/
def bkt (key : ByteArray) (n : Nat) : Nat := (FM.bucket (sm key) n).toNat
theorem bkt_lt {n : Nat} (hp : FM.power n = true) (key : ByteArray) : bkt key n < n ∧ FM.bucket (sm key) n = (bkt key n : Nat) := by
  have := bucket_lt hp (sm key) (sm_bd key).1
  unfold bkt
  omega
end Go.Proofs.YtmapijbfnakdiaaGreat.Mq
