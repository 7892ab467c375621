/- Plain lists: chains of handles; what the document's lists of nodes and of their nexts tell. -/
import Derived.Test.YtmapijbfnakdiaaGreatArenaMath
namespace Go.Proofs.YtmapijbfnakdiaaGreat.Mm
open Hm Ar

/-- The next of the place k. -/
def nx (ss : List Sl) (k : Nat) : Nat := (at' ss k).nd.next.toNat
def hdl (ss : List Sl) (k : Nat) : Nat := (at' ss k).gen * 65536 + k + 1
/-- From h on, without those that were met: t. -/
inductive Ch (ss : List Sl) : List Nat → Nat → List Nat → Prop
  | stop {met : List Nat} {h : Nat} : ((∀ k, ¬ IsAt ss h k) ∨ h ∈ met) → Ch ss met h []
  | go {met : List Nat} {h k : Nat} {t : List Nat} : IsAt ss h k → h ∉ met → Ch ss (h :: met) (nx ss k) t → Ch ss met h (h :: t)

/-- The places taken that were not met. -/
def left (ss : List Sl) (met : List Nat) : List Nat := (List.range ss.length).filter fun k => (at' ss k).taken && !decide (hdl ss k ∈ met)
theorem left_nodup (ss : List Sl) (met : List Nat) : (left ss met).Nodup := List.filter_sublist.nodup List.nodup_range
theorem left_le (ss : List Sl) (met : List Nat) : (left ss met).length ≤ ss.length := Nat.le_trans (List.length_filter_le _ _) (by simp)
theorem left_congr {ss : List Sl} {met met' : List Nat} (h : ∀ x, x ∈ met ↔ x ∈ met') : left ss met = left ss met' := by
  unfold left
  apply List.filter_congr
  intro k _
  simp [h]
theorem left_go {ss : List Sl} {met : List Nat} {x k : Nat} (hl : ss.length ≤ 1024) (h : IsAt ss x k) (hx : x ∉ met) : (left ss (x :: met)).length + 1 = (left ss met).length := by
  have e0 : hdl ss k = x := h.2.2.symm
  have hk : k ∈ left ss met := by
    simp only [left, List.mem_filter, List.mem_range, h.1, h.2.1, e0, hx, decide_false, true_and]
    rfl
  have e : left ss (x :: met) = (left ss met).erase k := by
    rw [(left_nodup ss met).erase_eq_filter, left, left, List.filter_filter]
    apply List.filter_congr
    intro a ha
    have ha : a < ss.length := by simpa using ha
    have hk1 := h.1
    have : hdl ss a = x ↔ a = k := by
      constructor
      · intro ea
        rw [← e0] at ea
        unfold hdl at ea
        omega
      · rintro rfl; exact e0
    rw [Bool.eq_iff_iff]
    simp [this]
    constructor
    · rintro ⟨h1, h2, h3⟩; exact ⟨h2, h1, h3⟩
    · rintro ⟨h1, h2, h3⟩; exact ⟨h2, h1, h3⟩
  have hp : 0 < (left ss met).length := List.length_pos_of_mem hk
  rw [e, List.length_erase_of_mem hk]
  omega
theorem ch_any (ss : List Sl) (hl : ss.length ≤ 1024) (met : List Nat) (h : Nat) : ∃ t, Ch ss met h t := by
  have : ∀ n met h, (left ss met).length ≤ n → ∃ t, Ch ss met h t := by
    intro n
    induction n with
    | zero =>
      intro met h hn
      by_cases hk : ∃ k, IsAt ss h k
      · obtain ⟨k, hk⟩ := hk
        by_cases hm : h ∈ met
        · exact ⟨[], .stop (.inr hm)⟩
        · have := left_go hl hk hm
          omega
      · exact ⟨[], .stop (.inl fun k hk' => hk ⟨k, hk'⟩)⟩
    | succ n ih =>
      intro met h hn
      by_cases hk : ∃ k, IsAt ss h k
      · obtain ⟨k, hk⟩ := hk
        by_cases hm : h ∈ met
        · exact ⟨[], .stop (.inr hm)⟩
        · have := left_go hl hk hm
          obtain ⟨t, ht⟩ := ih (h :: met) (nx ss k) (by omega)
          exact ⟨h :: t, .go hk hm ht⟩
      · exact ⟨[], .stop (.inl fun k hk' => hk ⟨k, hk'⟩)⟩
  exact this _ met h (Nat.le_refl _)
theorem ch_len {ss : List Sl} (hl : ss.length ≤ 1024) {met : List Nat} {h : Nat} {t : List Nat} (c : Ch ss met h t) : t.length + (left ss (t.reverse ++ met)).length = (left ss met).length := by
  induction c with
  | stop _ => simp
  | go h1 h2 _ ih =>
    have := left_go hl h1 h2
    simp only [List.reverse_cons, List.append_assoc, List.singleton_append, List.length_cons]
    omega
theorem ch_le {ss : List Sl} (hl : ss.length ≤ 1024) {met : List Nat} {h : Nat} {t : List Nat} (c : Ch ss met h t) : t.length ≤ ss.length := by
  have h1 := ch_len hl c
  have h2 := left_le ss met
  omega
theorem ch_congr {ss : List Sl} {met : List Nat} {h : Nat} {t : List Nat} (c : Ch ss met h t) : ∀ met', (∀ x, x ∈ met ↔ x ∈ met') → Ch ss met' h t := by
  induction c with
  | stop hs =>
    intro met' hm
    rcases hs with q | q
    · exact .stop (.inl q)
    · exact .stop (.inr ((hm _).1 q))
  | go h1 h2 _ ih =>
    intro met' hm
    exact .go h1 (fun q => h2 ((hm _).2 q)) (ih _ fun x => by simp [hm])
theorem ch_det {ss : List Sl} (hl : ss.length ≤ 1024) {met : List Nat} {h : Nat} {t : List Nat} (c : Ch ss met h t) : ∀ t', Ch ss met h t' → t = t' := by
  induction c with
  | stop hs =>
    intro t' c'
    cases c' with
    | stop _ => rfl
    | go h1 h2 _ =>
      rcases hs with q | q
      · exact absurd h1 (q _)
      · exact absurd q h2
  | go h1 h2 _ ih =>
    intro t' c'
    cases c' with
    | stop hs =>
      rcases hs with q | q
      · exact absurd h1 (q _)
      · exact absurd q h2
    | go h1' _ c1 =>
      have := h1.uniq hl h1'
      subst this
      rw [ih _ c1]
theorem ch_live {ss : List Sl} {met : List Nat} {h : Nat} {t : List Nat} (c : Ch ss met h t) : ∀ x ∈ t, ∃ k, IsAt ss x k := by
  induction c with
  | stop _ => simp
  | go h1 _ _ ih =>
    intro x hx
    rcases List.mem_cons.1 hx with rfl | q
    · exact ⟨_, h1⟩
    · exact ih x q

/-- All chains of the buckets below b, one behind the other; f tells where each begins. -/
inductive Rh (ss : List Sl) (f : Nat → Nat) : Nat → List Nat → Prop
  | zero : Rh ss f 0 []
  | succ {b : Nat} {all t : List Nat} : Rh ss f b all → Ch ss all (f b) t → Rh ss f (b + 1) (all ++ t)
theorem rh_det {ss : List Sl} (hl : ss.length ≤ 1024) {f : Nat → Nat} {b : Nat} {l : List Nat} (c : Rh ss f b l) : ∀ l', Rh ss f b l' → l = l' := by
  induction c with
  | zero => intro l' c'; cases c'; rfl
  | succ h1 h2 ih =>
    intro l' c'
    cases c' with
    | succ h1' h2' =>
      have := ih _ h1'
      subst this
      rw [ch_det hl h2 _ h2']
theorem rh_len {ss : List Sl} (hl : ss.length ≤ 1024) {f : Nat → Nat} {b : Nat} {l : List Nat} (c : Rh ss f b l) : l.length + (left ss l).length = (left ss []).length := by
  induction c with
  | zero => simp
  | @succ b all t h1 h2 ih =>
    have h3 := ch_len hl h2
    rw [left_congr (met := t.reverse ++ all) (met' := all ++ t) (fun x => by simp [or_comm])] at h3
    rw [List.length_append]
    omega
theorem rh_le {ss : List Sl} (hl : ss.length ≤ 1024) {f : Nat → Nat} {b : Nat} {l : List Nat} (c : Rh ss f b l) : l.length ≤ ss.length := by
  have h1 := rh_len hl c
  have h2 := left_le ss []
  omega

/-! ### the document's lists -/
/-- One struck out of a list. -/
def strike (l : List Nat) (k : Nat) : List Nat := l.take k ++ l.drop (k + 1)
theorem strike_len {l : List Nat} {k : Nat} (hk : k < l.length) : (strike l k).length = l.length - 1 := by simp [strike]; omega
theorem strike_perm {l : List Nat} {k : Nat} (hk : k < l.length) : (nth l k :: strike l k).Perm l := by
  have e : l = l.take k ++ nth l k :: l.drop (k + 1) := by
    rw [nth_get hk, ← List.drop_eq_getElem_cons hk, List.take_append_drop]
  have h2 : (l.take k ++ nth l k :: l.drop (k + 1)).Perm (nth l k :: (l.take k ++ l.drop (k + 1))) := List.perm_middle
  rw [← e] at h2
  exact h2.symm
theorem nth_strike {l : List Nat} {k : Nat} (hk : k < l.length) (i : Nat) : nth (strike l k) i = if i < k then nth l i else nth l (i + 1) := by
  unfold strike nth
  simp only [List.getD_eq_getElem?_getD]
  by_cases h : i < k
  · rw [if_pos h, List.getElem?_append_left (by simp; omega), List.getElem?_take, if_pos h]
  · rw [if_neg h, List.getElem?_append_right (by simp; omega), List.getElem?_drop]
    simp only [List.length_take]
    rw [show k + 1 + (i - min k l.length) = i + 1 by omega]
theorem nth_inj {l : List Nat} (h : l.Nodup) {i j : Nat} (hi : i < l.length) (hj : j < l.length) (e : nth l i = nth l j) : i = j := by
  rw [nth_get hi, nth_get hj] at e
  exact (List.getElem_inj h).1 e
theorem nth_of {l : List Nat} {x : Nat} (h : x ∈ l) : ∃ i, i < l.length ∧ nth l i = x := by
  obtain ⟨i, hi, e⟩ := List.getElem_of_mem h
  exact ⟨i, hi, by rw [nth_get hi, e]⟩
/-- A slot's next is a word. -/
def Nexts (ss : List Sl) : Prop := ∀ k, 0 ≤ (at' ss k).nd.next ∧ (at' ss k).nd.next ≤ 18446744073709551615
theorem Nexts.set {ss : List Sl} (h : Nexts ss) {j : Nat} (hj : j < ss.length) (s : Sl) (hs : 0 ≤ s.nd.next ∧ s.nd.next ≤ 18446744073709551615) : Nexts (ss.set j s) := fun k => by
  rw [at_set hj]
  by_cases e : k = j
  · rw [if_pos e]; exact hs
  · rw [if_neg e]; exact h k
theorem Nexts.at {ss : List Sl} (h : Nexts ss) (k : Nat) : (at' ss k).nd.next = (nx ss k : Nat) ∧ nx ss k ≤ 18446744073709551615 := by
  have := h k
  unfold nx
  omega
/-- The document's nodes and their nexts are the arena's. -/
structure Docs (ss : List Sl) (nodes next : List Nat) : Prop where
  len : next.length = nodes.length
  nodup : nodes.Nodup
  live : ∀ h, h ∈ nodes ↔ ∃ k, IsAt ss h k
  nexts : ∀ i, i < nodes.length → ∀ k, IsAt ss (nth nodes i) k → nth next i = nx ss k
theorem isAt_zero {n x k : Nat} : ¬ IsAt (List.replicate n .zero) x k := by
  rintro ⟨h1, h2, _⟩
  simp only [at', List.getD, List.getElem?_replicate] at h2
  split at h2 <;> simp [Sl.zero] at h2
theorem docs_new (n : Nat) : Docs (List.replicate n .zero) [] [] :=
  ⟨rfl, List.nodup_nil, fun h => ⟨fun q => by simp at q, fun ⟨k, hk⟩ => absurd hk isAt_zero⟩, fun i hi => by simp at hi⟩
/-- A place set to what is taken: who is live then. -/
theorem isAt_turn {ss : List Sl} {m : Nat} (hm : m < ss.length) (s : Sl) (x k : Nat) : IsAt (ss.set m s) x k ↔ if k = m then s.taken = true ∧ x = s.gen * 65536 + m + 1 else IsAt ss x k := by
  unfold IsAt
  rw [List.length_set, at_set hm]
  by_cases e : k = m
  · subst e
    rw [if_pos rfl, if_pos rfl]
    exact ⟨fun h => h.2, fun h => ⟨hm, h⟩⟩
  · rw [if_neg e, if_neg e]
theorem docs_alloc {ss : List Sl} {nodes next : List Nat} {m : Nat} (h : Docs ss nodes next) (hl : ss.length ≤ 1024) (hm : Least ss m) (d : Nd) :
    Docs (ss.set m ⟨true, (at' ss m).gen, d⟩) (nodes ++ [(at' ss m).gen * 65536 + m + 1]) (next ++ [d.next.toNat]) := by
  have hnew : ∀ k, ¬ IsAt ss ((at' ss m).gen * 65536 + m + 1) k := by
    rintro k ⟨h1, h2, h3⟩
    have := hm.1
    have : k = m := by omega
    subst this
    rw [hm.2.1] at h2
    simp at h2
  have hno : ∀ x, ¬ IsAt ss x m := by
    rintro x ⟨_, h2, _⟩
    rw [hm.2.1] at h2
    simp at h2
  refine ⟨by simp [h.len], ?_, ?_, ?_⟩
  · rw [List.nodup_append]
    refine ⟨h.nodup, by simp, fun a ha b hb e => ?_⟩
    have : b = (at' ss m).gen * 65536 + m + 1 := by simpa using hb
    subst this; subst e
    obtain ⟨k, hk⟩ := (h.live _).1 ha
    exact hnew k hk
  · intro x
    rw [List.mem_append, h.live]
    constructor
    · rintro (⟨k, hk⟩ | q)
      · refine ⟨k, (isAt_turn hm.1 _ x k).2 ?_⟩
        by_cases e : k = m
        · subst e; exact absurd hk (hno x)
        · rw [if_neg e]; exact hk
      · exact ⟨m, (isAt_turn hm.1 _ x m).2 (by rw [if_pos rfl]; exact ⟨rfl, by simpa using q⟩)⟩
    · rintro ⟨k, hk⟩
      have hk := (isAt_turn hm.1 _ x k).1 hk
      by_cases e : k = m
      · rw [if_pos e] at hk
        exact .inr (by simpa using hk.2)
      · rw [if_neg e] at hk
        exact .inl ⟨k, hk⟩
  · intro i hi k hk
    have hk := (isAt_turn hm.1 _ _ k).1 hk
    have hsame : ∀ k, nx (ss.set m ⟨true, (at' ss m).gen, d⟩) k = if k = m then d.next.toNat else nx ss k := fun k => by
      unfold nx
      rw [at_set hm.1]
      by_cases e : k = m
      · rw [if_pos e, if_pos e]
      · rw [if_neg e, if_neg e]
    rw [hsame]
    rw [List.length_append] at hi
    simp only [List.length_cons, List.length_nil] at hi
    by_cases hi2 : i < nodes.length
    · have e1 : nth (nodes ++ [(at' ss m).gen * 65536 + m + 1]) i = nth nodes i := by rw [nth_snoc, if_neg (by omega)]
      have e2 : nth (next ++ [d.next.toNat]) i = nth next i := by rw [nth_snoc, if_neg (by rw [h.len]; omega)]
      rw [e1] at hk
      rw [e2]
      by_cases e : k = m
      · rw [if_pos e] at hk
        obtain ⟨k', hk'⟩ := (h.live _).1 (nth_mem hi2)
        rw [hk.2] at hk'
        exact absurd hk' (hnew k')
      · rw [if_neg e] at hk
        rw [if_neg e]
        exact h.nexts i hi2 k hk
    · have hi3 : i = nodes.length := by omega
      subst hi3
      have e1 : nth (nodes ++ [(at' ss m).gen * 65536 + m + 1]) nodes.length = (at' ss m).gen * 65536 + m + 1 := by rw [nth_snoc, if_pos rfl]
      have e2 : nth (next ++ [d.next.toNat]) nodes.length = d.next.toNat := by rw [nth_snoc, if_pos h.len.symm]
      rw [e1] at hk
      rw [e2]
      by_cases e : k = m
      · rw [if_pos e]
      · rw [if_neg e] at hk
        exact absurd hk (hnew k)
theorem docs_link {ss : List Sl} {nodes next : List Nat} {x k i : Nat} (h : Docs ss nodes next) (hl : ss.length ≤ 1024) (hk : IsAt ss x k) (hi : i < nodes.length) (hx : nth nodes i = x) (y : Nat) :
    Docs (ss.set k { at' ss k with nd := { (at' ss k).nd with next := y } }) nodes (next.set i y) := by
  have hsame : ∀ x j, IsAt (ss.set k { at' ss k with nd := { (at' ss k).nd with next := (y : Int) } }) x j ↔ IsAt ss x j := fun x j => by
    rw [isAt_turn hk.1]
    by_cases e : j = k
    · subst e
      rw [if_pos rfl]
      exact ⟨fun q => ⟨hk.1, q⟩, fun q => q.2⟩
    · rw [if_neg e]
  refine ⟨by rw [List.length_set]; exact h.len, h.nodup, fun z => ?_, fun j hj k' hk' => ?_⟩
  · rw [h.live]
    exact ⟨fun ⟨j, q⟩ => ⟨j, (hsame z j).2 q⟩, fun ⟨j, q⟩ => ⟨j, (hsame z j).1 q⟩⟩
  · replace hk' := (hsame _ k').1 hk'
    have e1 : nx (ss.set k { at' ss k with nd := { (at' ss k).nd with next := (y : Int) } }) k' = if k' = k then y else nx ss k' := by
      unfold nx
      rw [at_set hk.1]
      by_cases e : k' = k
      · rw [if_pos e, if_pos e]; exact Int.toNat_natCast y
      · rw [if_neg e, if_neg e]
    have e2 : nth (next.set i y) j = if j = i then y else nth next j := by
      unfold nth
      simp only [List.getD_eq_getElem?_getD, List.getElem?_set]
      by_cases e : j = i
      · subst e; simp [h.len, hj]
      · have e' : ¬ i = j := fun q => e q.symm
        simp [e, e']
    rw [e1, e2]
    by_cases e : j = i
    · subst e
      rw [hx] at hk'
      rw [if_pos rfl, if_pos (hk'.uniq hl hk)]
    · rw [if_neg e, if_neg]
      · exact h.nexts j hj k' hk'
      · rintro rfl
        have : nth nodes j = x := by rw [hk'.2.2, hk.2.2]
        exact e (nth_inj h.nodup hj hi (by rw [this, hx]))
theorem docs_free {ss : List Sl} {nodes next : List Nat} {x k i : Nat} (h : Docs ss nodes next) (hl : ss.length ≤ 1024) (hk : IsAt ss x k) (hi : i < nodes.length) (hx : nth nodes i = x) :
    Docs (ss.set k ⟨false, (at' ss k).gen + 1, .zero⟩) (strike nodes i) (strike next i) := by
  have hp := strike_perm hi
  have hnd := hp.nodup_iff.2 h.nodup
  rw [List.nodup_cons, hx] at hnd
  have hturn : ∀ z j, IsAt (ss.set k ⟨false, (at' ss k).gen + 1, .zero⟩) z j ↔ j ≠ k ∧ IsAt ss z j := fun z j => by
    rw [isAt_turn hk.1]
    by_cases e : j = k
    · subst e; simp
    · rw [if_neg e]; simp [e]
  have hi' : i < next.length := by rw [h.len]; exact hi
  refine ⟨by rw [strike_len hi, strike_len hi', h.len], hnd.2, fun z => ?_, fun j hj k' hk' => ?_⟩
  · have hm : z ∈ nodes ↔ z = x ∨ z ∈ strike nodes i := by rw [← hp.mem_iff, List.mem_cons, hx]
    constructor
    · intro hz
      obtain ⟨j, hj⟩ := (h.live z).1 (hm.2 (.inr hz))
      refine ⟨j, (hturn z j).2 ⟨?_, hj⟩⟩
      rintro rfl
      have : z = x := by rw [hj.2.2, hk.2.2]
      subst this
      exact hnd.1 hz
    · rintro ⟨j, hj⟩
      obtain ⟨hne, hj⟩ := (hturn z j).1 hj
      rcases hm.1 ((h.live z).2 ⟨j, hj⟩) with rfl | q
      · exfalso
        exact hne (hj.uniq hl hk)
      · exact q
  · obtain ⟨hne, hk'⟩ := (hturn _ k').1 hk'
    rw [strike_len hi] at hj
    have e1 : nx (ss.set k ⟨false, (at' ss k).gen + 1, .zero⟩) k' = nx ss k' := by unfold nx; rw [at_set hk.1, if_neg hne]
    rw [e1]
    rw [nth_strike hi] at hk'
    rw [nth_strike hi']
    by_cases hji : j < i
    · rw [if_pos hji] at hk' ⊢
      exact h.nexts j (by omega) k' hk'
    · rw [if_neg hji] at hk' ⊢
      exact h.nexts (j + 1) (by omega) k' hk'
end Go.Proofs.YtmapijbfnakdiaaGreat.Mm
