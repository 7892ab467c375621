/- Plain chains of which two buckets have nodes: how they are parted, node by node, while readers go along them. -/
import Derived.Test.YtmapijbfnakdiaaGreatMapA
import Derived.Test.YtmapijbfnakdiaaGreatLnk
namespace Go.Proofs.YtmapijbfnakdiaaGreat.Zp
open Go Hm Ar Mm Wk Pc Me Mq Pu Pn

/-- The first handle; none: 0. -/
def hdH (q : List Mq.Hp) : Nat := match q with
  | [] => 0
  | e :: _ => e.1
theorem Cx.hd {ss : List Sl} {x : Nat} {q : List Mq.Hp} (h : Cx ss x q) : x = hdH q := by
  cases h with
  | nil => rfl
  | cons a b c => rfl
theorem Cx.back {ss : List Sl} : ∀ (pre : List Mq.Hp) {q : List Mq.Hp} {x : Nat}, Cx ss x (pre ++ q) → Cx ss (hdH q) q := by
  intro pre
  induction pre with
  | nil =>
    intro q x h
    have h' : Cx ss x q := h
    rw [← Cx.hd h']
    exact h'
  | cons e t ih =>
    intro q x h
    cases h with
    | cons a b c => exact ih c
/-- What a link turns, and what it leaves. -/
theorem lnk_at {ss : List Sl} {x y j : Nat} (hl : ss.length ≤ 1024) (hj : IsAt ss x j) (k : Nat) : at' (lnk ss x y) k = if k = j then { at' ss j with nd := { (at' ss j).nd with next := (y : Int) } } else at' ss k := by
  have hjp : (x - 1) % 65536 = j := (isAt_parts hl hj).1
  unfold lnk
  rw [hjp, at_set hj.1]
theorem lnk_len (ss : List Sl) (x y : Nat) : (lnk ss x y).length = ss.length := by unfold lnk; simp
theorem lnk_live {ss : List Sl} {x y j : Nat} (hl : ss.length ≤ 1024) (hj : IsAt ss x j) {u k : Nat} (hk : IsAt ss u k) : IsAt (lnk ss x y) u k := by
  have h := lnk_at (y := y) hl hj k
  refine ⟨by rw [lnk_len]; exact hk.1, ?_, ?_⟩
  · rw [h]; split
    · rename_i e; subst e; exact hk.2.1
    · exact hk.2.1
  · rw [h]; split
    · rename_i e; subst e; exact hk.2.2
    · exact hk.2.2
theorem lnk_keep {ss : List Sl} {x y j : Nat} (hl : ss.length ≤ 1024) (hj : IsAt ss x j) {u k : Nat} (hk : IsAt ss u k) (hu : u ≠ x) : IsAt (lnk ss x y) u k ∧ (at' (lnk ss x y) k).nd = (at' ss k).nd := by
  refine ⟨lnk_live hl hj hk, ?_⟩
  rw [lnk_at hl hj, if_neg]
  rintro rfl
  exact hu (by rw [hk.2.2, hj.2.2])
/-- A chain without the node that is linked stays. -/
theorem Cx.aside {ss : List Sl} {x y j p : Nat} {q : List Mq.Hp} (hl : ss.length ≤ 1024) (hj : IsAt ss x j) (h : Cx ss p q) (hx : x ∉ hds q) : Cx (lnk ss x y) p q :=
  h.keep fun u hu k hk => lnk_keep hl hj hk (fun e => hx (e ▸ hu))
/-- A chain with it: what stood between is passed over. -/
theorem Cx.relink {ss : List Sl} {j : Nat} {e : Mq.Hp} {d t : List Mq.Hp} (hl : ss.length ≤ 1024) (hj : IsAt ss e.1 j) : ∀ (pre : List Mq.Hp) (p : Nat), Cx ss p (pre ++ e :: (d ++ t)) → (hds (pre ++ e :: (d ++ t))).Nodup → Cx (lnk ss e.1 (hdH t)) p (pre ++ e :: t) := by
  intro pre
  induction pre with
  | nil =>
    intro p h hn
    have hn' : e.1 ∉ hds (d ++ t) := (List.nodup_cons.1 hn).1
    cases h with
    | @cons _ k z pp _ a b c =>
      have hkj : k = j := a.uniq hl hj
      subst hkj
      have ht : Cx (lnk ss p (hdH t)) (hdH t) t := Cx.aside hl a (Cx.back d c) (fun q => hn' (by
        simp only [hds, List.map_append, List.mem_append]
        exact .inr q))
      refine .cons (lnk_live hl a a) (z := hdH t) ?_ ht
      rw [lnk_at hl a, if_pos rfl]
      simp only [b]
      rfl
  | cons e0 r ih =>
    intro p h hn
    have hn' := List.nodup_cons.1 hn
    cases h with
    | @cons _ k z pp _ a b c =>
      have hne : p ≠ e.1 := by
        rintro rfl
        exact hn'.1 (by simp [hds])
      have := lnk_keep (y := hdH t) hl hj a hne
      exact .cons this.1 (this.2.trans b) (ih _ c hn'.2)

/-- Two buckets' chains with a rest in common: x leads along u, r, the rest; y along v, the rest; u and r are of the side s, v of the other one; the rest begins with one of the other side. All: what there is. -/
structure Zip (ss : List Sl) (σ : ByteArray → Bool) (All : List Mq.Hp) (s : Bool) (x y : Nat) (u r v rest : List Mq.Hp) : Prop where
  own : Cx ss x (u ++ r ++ rest)
  oth : Cx ss y (v ++ rest)
  su : ∀ e ∈ u ++ r, σ e.2.1 = s
  sv : ∀ e ∈ v, σ e.2.1 = !s
  hd : ∀ e t, rest = e :: t → σ e.2.1 = !s
  ne : rest ≠ [] → r ≠ []
  nd : (hds (u ++ r ++ v ++ rest)).Nodup
  fs : All.filter (fun e => σ e.2.1 == s) = u ++ r ++ rest.filter (fun e => σ e.2.1 == s)
  fv : All.filter (fun e => σ e.2.1 == !s) = v ++ rest.filter (fun e => σ e.2.1 == !s)
section
variable {ss : List Sl} {σ : ByteArray → Bool} {All : List Mq.Hp} {s : Bool} {x y : Nat} {u r v rest : List Mq.Hp}
theorem filter_all {q : List Mq.Hp} {b : Bool} (h : ∀ e ∈ q, σ e.2.1 = b) : q.filter (fun e => σ e.2.1 == b) = q := List.filter_eq_self.2 fun e he => by simp [h e he]
theorem filter_none {q : List Mq.Hp} {b : Bool} (h : ∀ e ∈ q, σ e.2.1 = !b) : q.filter (fun e => σ e.2.1 == b) = [] := List.filter_eq_nil_iff.2 fun e he => by simp [h e he]
/-- A chain that is not parted yet. -/
theorem zip_new (h : Cx ss x All) (hn : (hds All).Nodup) : ∃ s r rest, All = r ++ rest ∧ Zip ss σ All s x (hdH rest) [] r [] rest := by
  cases All with
  | nil =>
    refine ⟨true, [], [], rfl, ⟨h, .nil, by simp, by simp, by simp, by simp, by simp, by simp, by simp⟩⟩
  | cons e t =>
    have hsp : (e :: t) = (e :: t).takeWhile (fun a => σ a.2.1 == σ e.2.1) ++ (e :: t).dropWhile (fun a => σ a.2.1 == σ e.2.1) := (List.takeWhile_append_dropWhile).symm
    obtain ⟨r, hr⟩ : ∃ r, r = (e :: t).takeWhile (fun a => σ a.2.1 == σ e.2.1) := ⟨_, rfl⟩
    obtain ⟨rest, hrest⟩ : ∃ q, q = (e :: t).dropWhile (fun a => σ a.2.1 == σ e.2.1) := ⟨_, rfl⟩
    rw [← hr, ← hrest] at hsp
    have hr1 : ∀ a ∈ r, σ a.2.1 = σ e.2.1 := fun a ha => by
      rw [hr] at ha
      have : ∀ (l : List Mq.Hp), a ∈ l.takeWhile (fun a => σ a.2.1 == σ e.2.1) → σ a.2.1 = σ e.2.1 := by
        intro l
        induction l with
        | nil => intro q; simp at q
        | cons b l ih =>
          intro q
          rw [List.takeWhile_cons] at q
          split at q
          · rename_i hb
            rcases List.mem_cons.1 q with rfl | q
            · simpa using hb
            · exact ih q
          · simp at q
      exact this _ ha
    have hr2 : ∀ a t', rest = a :: t' → σ a.2.1 = !(σ e.2.1) := fun a t' q => by
      have : ∀ (l : List Mq.Hp), l.dropWhile (fun a => σ a.2.1 == σ e.2.1) = a :: t' → σ a.2.1 = !(σ e.2.1) := by
        intro l
        induction l with
        | nil => intro q; simp at q
        | cons b l ih =>
          intro q
          rw [List.dropWhile_cons] at q
          split at q
          · exact ih q
          · rename_i hb
            injection q with q1 _
            subst q1
            revert hb
            cases σ b.2.1 <;> cases σ e.2.1 <;> simp
      exact this _ (hrest ▸ q)
    have hr3 : r ≠ [] := by
      rw [hr, List.takeWhile_cons, if_pos (by simp)]
      simp
    refine ⟨σ e.2.1, r, rest, hsp, ⟨by rw [List.nil_append, ← hsp]; exact h, ?_, by simpa using hr1, by simp, hr2, fun _ => hr3, by rw [List.nil_append, List.append_nil, ← hsp]; exact hn, ?_, ?_⟩⟩
    · rw [hsp] at h
      exact Cx.back r h
    · rw [hsp, List.filter_append, filter_all hr1, List.nil_append]
    · rw [hsp, List.filter_append]
      have := filter_none (σ := σ) (b := !(σ e.2.1)) (q := r) (by simpa using hr1)
      rw [this]
theorem not_r {a : Nat} (h : Zip ss σ All s x y u r v rest) (ha : a ∈ hds (u ++ r)) : a ∉ hds (v ++ rest) := by
  have := h.nd
  rw [show u ++ r ++ v ++ rest = (u ++ r) ++ (v ++ rest) by simp] at this
  simp only [hds, List.map_append] at this ha ⊢
  intro q
  rw [show List.map (fun x => x.1) u ++ List.map (fun x => x.1) r ++ (List.map (fun x => x.1) v ++ List.map (fun x => x.1) rest) = (List.map (fun x => x.1) u ++ List.map (fun x => x.1) r) ++ (List.map (fun x => x.1) v ++ List.map (fun x => x.1) rest) by simp] at this
  exact (List.nodup_append.1 this).2.2 a (by simpa using ha) a (by simpa using q) rfl
/-- The next link: of the last of r to what is of its side behind; the other side's turn then. -/
theorem Zip.link (h : Zip ss σ All s x y u r v rest) (hl : ss.length ≤ 1024) {r0 d t : List Mq.Hp} {e : Mq.Hp} (hr : r = r0 ++ [e]) (hd : rest = d ++ t) (hd0 : d ≠ []) (hds' : ∀ a ∈ d, σ a.2.1 = !s) (ht : ∀ a t', t = a :: t' → σ a.2.1 = s) :
    Zip (lnk ss e.1 (hdH t)) σ All (!s) y x v d (u ++ r) t := by
  subst hr hd
  have hown := h.own
  rw [show u ++ (r0 ++ [e]) ++ (d ++ t) = (u ++ r0) ++ e :: (d ++ t) by simp] at hown
  obtain ⟨j, _, hj, _⟩ := hown.at e (by simp)
  have hnd := h.nd
  have hn1 : (hds ((u ++ r0) ++ e :: (d ++ t))).Nodup := by
    have : (hds ((u ++ r0) ++ e :: (d ++ t))).Sublist (hds (u ++ (r0 ++ [e]) ++ v ++ (d ++ t))) := by
      apply List.Sublist.map
      rw [show u ++ r0 ++ e :: (d ++ t) = (u ++ (r0 ++ [e])) ++ (d ++ t) by simp, show u ++ (r0 ++ [e]) ++ v ++ (d ++ t) = (u ++ (r0 ++ [e])) ++ (v ++ (d ++ t)) by simp]
      exact List.Sublist.append_left (List.sublist_append_right _ _) _
    exact this.nodup hnd
  refine ⟨?_, ?_, ?_, ?_, ?_, fun _ => hd0, ?_, ?_, ?_⟩
  · have := Cx.aside (y := hdH t) hl hj h.oth (not_r h (by simp [hds]))
    simpa using this
  · have := Cx.relink hl hj (u ++ r0) x hown hn1
    simpa using this
  · intro a ha
    rcases List.mem_append.1 ha with q | q
    · exact h.sv a q
    · exact hds' a q
  · intro a ha
    rw [Bool.not_not]
    exact h.su a ha
  · intro a t' q
    rw [Bool.not_not]
    exact ht a t' q
  · have hp : (hds (v ++ d ++ (u ++ (r0 ++ [e])) ++ t)).Perm (hds (u ++ (r0 ++ [e]) ++ v ++ (d ++ t))) := by
      apply List.Perm.map
      rw [show u ++ (r0 ++ [e]) ++ v ++ (d ++ t) = (u ++ (r0 ++ [e]) ++ (v ++ d)) ++ t by simp]
      exact List.Perm.append_right t List.perm_append_comm
    exact hp.nodup_iff.2 hnd
  · have hfv := h.fv
    rw [hfv, List.filter_append, filter_all hds', List.append_assoc]
  · have hfs := h.fs
    rw [Bool.not_not, hfs, List.filter_append, filter_none hds', List.nil_append]
/-- Nothing in common any more. -/
theorem Zip.parted (h : Zip ss σ All s x y u r v []) : Cx ss x (All.filter fun e => σ e.2.1 == s) ∧ Cx ss y (All.filter fun e => σ e.2.1 == !s) := by
  have h1 := h.own
  have h2 := h.oth
  have h3 := h.fs
  have h4 := h.fv
  simp only [List.filter_nil, List.append_nil] at h1 h2 h3 h4
  rw [h3, h4]
  exact ⟨h1, h2⟩
end

/-! ### readers -/
/-- A reader of a key stands ahead of q: it may go on along one of the two chains; or, if it came in long enough ago, along the one of the other side. -/
def Std (σ : ByteArray → Bool) (s : Bool) (u r v rest : List Mq.Hp) (old : Prop) (key : ByteArray) (q : List Mq.Hp) : Prop :=
  (σ key = s ∧ q <:+ u ++ r ++ rest) ∨ (σ key = !s ∧ q <:+ v ++ rest) ∨ (old ∧ σ key = !s ∧ q <:+ r ++ rest)
section
variable {ss : List Sl} {σ : ByteArray → Bool} {All : List Mq.Hp} {s : Bool} {x y : Nat} {u r v rest q : List Mq.Hp} {old : Prop} {key : ByteArray}
/-- It goes on to the next one. -/
theorem Std.next {e : Mq.Hp} (h : Std σ s u r v rest old key (e :: q)) : Std σ s u r v rest old key q := by
  have hq : q <:+ e :: q := List.suffix_cons _ _
  rcases h with ⟨a, b⟩ | ⟨a, b⟩ | ⟨o, a, b⟩
  · exact .inl ⟨a, hq.trans b⟩
  · exact .inr (.inl ⟨a, hq.trans b⟩)
  · exact .inr (.inr ⟨o, a, hq.trans b⟩)
theorem Std.mono {old' : Prop} (h : Std σ s u r v rest old key q) (ho : old → old') : Std σ s u r v rest old' key q := by
  rcases h with h | h | ⟨o, h⟩
  · exact .inl h
  · exact .inr (.inl h)
  · exact .inr (.inr ⟨ho o, h⟩)
theorem lk_skip {a d t : List Mq.Hp} {key : ByteArray} (hk : ∀ e ∈ d, e.2.1 ≠ key) : lk (prs (a ++ (d ++ t))) key = lk (prs (a ++ t)) key := by
  induction a with
  | cons e a ih =>
    simp only [List.cons_append, prs, List.map_cons, lk]
    simp only [prs] at ih
    rw [ih]
  | nil =>
    simp only [List.nil_append]
    induction d with
    | nil => rfl
    | cons e d ih =>
      simp only [List.cons_append, prs, List.map_cons, lk]
      rw [if_neg (hk e (by simp))]
      exact ih fun e he => hk e (List.mem_cons_of_mem _ he)
theorem suffix_split {a b q : List Mq.Hp} (h : q <:+ a ++ b) : q <:+ b ∨ ∃ a', a' ≠ [] ∧ a' <:+ a ∧ q = a' ++ b := by
  obtain ⟨p, hp⟩ := h
  rcases List.append_eq_append_iff.1 hp with ⟨c, h1, h2⟩ | ⟨c, h1, h2⟩
  · by_cases hc : c = []
    · subst hc
      exact .inl ⟨[], by simpa using h2⟩
    · exact .inr ⟨c, hc, ⟨p, h1.symm⟩, h2⟩
  · exact .inl ⟨c, h2.symm⟩
theorem suffix_last {a : List Mq.Hp} {c : List Mq.Hp} {e : Mq.Hp} (h : c <:+ a ++ [e]) (hc : c ≠ []) : ∃ c0, c = c0 ++ [e] := by
  obtain ⟨p, hp⟩ := h
  have h1 : c = c.dropLast ++ [c.getLast hc] := (List.dropLast_concat_getLast hc).symm
  rw [h1, ← List.append_assoc] at hp
  have := List.append_inj' hp rfl
  have h2 : c.getLast hc = e := by simpa using this.2
  exact ⟨c.dropLast, by rw [← h2]; exact h1⟩
/-- A link ahead of a reader that didn't come in long ago: it finds what it would have found. -/
theorem Std.link (h : Zip ss σ All s x y u r v rest) (hl : ss.length ≤ 1024) {r0 d t : List Mq.Hp} {e : Mq.Hp} (hr : r = r0 ++ [e]) (hd : rest = d ++ t) (hds' : ∀ a ∈ d, σ a.2.1 = !s) {p : Nat} (hq : Cx ss p q) (hst : Std σ s u r v rest False key q) :
    ∃ q', Cx (lnk ss e.1 (hdH t)) p q' ∧ lk (prs q') key = lk (prs q) key ∧ q'.length ≤ q.length ∧ Std σ (!s) v d (u ++ r) t True key q' := by
  subst hr hd
  have hown := h.own
  obtain ⟨j, _, hj, _⟩ := hown.at e (by simp)
  have hnn : ∀ {q : List Mq.Hp}, q <:+ v ++ (d ++ t) → e.1 ∉ hds q := fun hs hm => not_r h (a := e.1) (by simp [hds]) ((hs.map (·.1)).subset hm)
  rcases hst with ⟨hk, hs⟩ | ⟨hk, hs⟩ | ⟨hf, _⟩
  · have hkd : ∀ a ∈ d, a.2.1 ≠ key := fun a ha q => by
      have := hds' a ha
      rw [q, hk] at this
      revert this
      cases s <;> simp
    rcases suffix_split hs with hs1 | ⟨c, hc, hcs, rfl⟩
    · -- behind it
      refine ⟨q, Cx.aside hl hj hq (hnn (hs1.trans (List.suffix_append _ _))), rfl, Nat.le_refl _, ?_⟩
      rcases suffix_split hs1 with hs2 | ⟨c, hc, hcs, rfl⟩
      · exact .inr (.inl ⟨by rw [Bool.not_not]; exact hk, hs2.trans (List.suffix_append _ _)⟩)
      · exact .inr (.inr ⟨trivial, by rw [Bool.not_not]; exact hk, by
          obtain ⟨a, ha⟩ := hcs
          exact ⟨a, by rw [← List.append_assoc, ha]⟩⟩)
    · -- ahead of it
      rw [← List.append_assoc] at hcs
      obtain ⟨c0, rfl⟩ := suffix_last hcs hc
      have hn1 : (hds (c0 ++ e :: (d ++ t))).Nodup := by
        have h1 : (c0 ++ [e] ++ (d ++ t)).Sublist (u ++ (r0 ++ [e]) ++ v ++ (d ++ t)) := by
          rw [show u ++ (r0 ++ [e]) ++ v ++ (d ++ t) = (u ++ r0 ++ [e]) ++ (v ++ (d ++ t)) by simp]
          exact List.Sublist.append hcs.sublist (List.sublist_append_right _ _)
        rw [show c0 ++ e :: (d ++ t) = c0 ++ [e] ++ (d ++ t) by simp]
        exact (h1.map _).nodup h.nd
      rw [show c0 ++ [e] ++ (d ++ t) = c0 ++ e :: (d ++ t) by simp] at hq
      refine ⟨c0 ++ e :: t, Cx.relink hl hj c0 p hq hn1, ?_, by simp, ?_⟩
      · rw [show c0 ++ e :: t = (c0 ++ [e]) ++ t by simp, lk_skip hkd]
      · refine .inr (.inl ⟨by rw [Bool.not_not]; exact hk, ?_⟩)
        obtain ⟨a, ha⟩ := hcs
        exact ⟨a, by rw [show u ++ (r0 ++ [e]) ++ t = (u ++ r0 ++ [e]) ++ t by simp, ← ha]; simp⟩
  · refine ⟨q, Cx.aside hl hj hq (hnn hs), rfl, Nat.le_refl _, .inl ⟨hk, ?_⟩⟩
    rw [List.append_assoc]
    exact hs
  · exact absurd hf id
end
end Go.Proofs.YtmapijbfnakdiaaGreat.Zp
