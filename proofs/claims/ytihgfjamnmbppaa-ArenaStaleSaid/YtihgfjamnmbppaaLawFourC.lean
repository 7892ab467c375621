/- What the second statement of layer 4 keeps: handles that are live, handles that were freed, a map that counts them. -/
import Derived.Test.YtihgfjamnmbppaaLawFourB
import Derived.ArgAppend
import Derived.Lib.AppendZeros
import Derived.Maps.Own
import Derived.Maps.OwnOps
import Derived.Maps.Views
namespace Go.Proofs.Ytihgfjamnmbppaa.LawFour
open Go Go.RowKit Hp K Fl Rw Hm Hw Ar Rf LK

/-- A slice without room: so many of a block's cells. -/
def Full (w : World) (A : Option Addr) (cap : Nat) (l : List Nat) : Prop :=
  ∃ b cs, A = some ⟨b, 0, none⟩ ∧ cap = l.length ∧ Blk w b 33 cs ∧ ∀ j, j < l.length → cs[j]? = some (.int .u64 (nth l j : Nat))
/-- A slice of handles, with room of its own or without. -/
def Lst (w : World) (A : Option Addr) (cap : Nat) (l : List Nat) : Prop := Hnds w A cap l ∨ Full w A cap l

section
variable {w w' : World} {A : Option Addr} {cap : Nat} {l : List Nat}
theorem Lst.blk (h : Lst w A cap l) {x : Nat} (hx : In A x) : ∃ cs, Blk w x 33 cs := by
  rcases h with h | ⟨b, cs, rfl, _, hb, _⟩
  · exact row_blk h hx
  · have : b = x := by simpa [In] using hx
    subst this
    exact ⟨cs, hb⟩
theorem Lst.only {S : Nat → Prop} (h : Lst w A cap l) (ho : Only S w w') (hn : ∀ b, In A b → ¬ S b) : Lst w' A cap l := by
  rcases h with h | ⟨b, cs, rfl, hc, hb, hj⟩
  · exact .inl (h.only ho hn)
  · exact .inr ⟨b, cs, rfl, hc, hb.only ho (hn b rfl), hj⟩
theorem Lst.at (h : Lst w A cap l) (k : Nat) (hk : k < l.length) : ∃ b, A = some ⟨b, 0, none⟩ ∧ (∀ j, j < l.length → w.cell? ⟨b, j, none⟩ = some (.int .u64 (nth l j : Nat))) ∧ l.length ≤ cap := by
  rcases h with h | ⟨b, cs, rfl, hc, hb, hj⟩
  · obtain ⟨b, e, _⟩ := hnds_at h k hk
    refine ⟨b, e, fun j hj => ?_, h.capLe.1⟩
    obtain ⟨b', e', hc⟩ := hnds_at h j hj
    have : b' = b := by rw [e] at e'; simpa using e'.symm
    subst this
    exact hc
  · exact ⟨b, rfl, fun j hj' => by rw [hb.cell]; exact hj j hj', by omega⟩
theorem lst_cap (h : Lst w A cap l) : l.length ≤ cap := by
  rcases h with h | ⟨b, cs, _, hc, _⟩
  · exact h.capLe.1
  · omega
theorem flat_nth (l : List Nat) (j : Nat) (u : Value) (h : (l.flatMap hnd)[j]? = some u) : j < l.length ∧ u = .int .u64 (nth l j : Nat) := by
  have e := flat_at hnd_len l j 0 (by omega)
  rw [Nat.mul_one, Nat.add_zero] at e
  rw [e] at h
  by_cases hj : j < l.length
  · rw [nth_some hj] at h
    simp [hnd] at h
    exact ⟨hj, h.symm⟩
  · rw [List.getElem?_eq_none (by omega)] at h
    simp at h
theorem hnd_flat (l : List Nat) : (l.flatMap hnd).length = l.length := by have := flat_len hnd_len l; simpa using this
end

section
variable {P : Program}
/-- append(v, x), whether there is room or not. -/
theorem wpList_append_lst (w : World) {ops : Array Oper} {rest : List Oper} {o : Oper} {a : Act} {Q : Exit → Act → World → Prop} (hgd : o.guard = none) (s x : Operand) (t : TypeId)
    (ho : o.op = .call { callee := .builtin .append, args := #[s, x], argTypes := #[t, t] })
    (i : TypeInfo) (ht : P.underlying t = some (.slice 33)) (hi : P.info? 33 = some i) (hz : i.zero = some (.int .u64 0)) (hsize : i.size = 1) (hby : i.bytes = 8)
    (A : Option Addr) (cap n : Nat) (xs : List Nat) (hn : xs.length = n) (y : Nat)
    (hs : a.eval s = .slice A n cap) (hown : Lst w A cap xs) (hx : a.eval x = .slice (some ⟨w.heap.size, 0, none⟩) 1 1) (hle : n ≤ 100000)
    (h : ∀ A' cap' w', Hnds w' A' cap' (xs ++ [y]) → Only (In A) w w' → (∀ b, In A' b → In A b ∨ w.heap.size ≤ b) → wpList P ops Q rest (a.put o.dst (.slice A' (n + 1) cap')) w') :
    wpList P ops Q (o :: rest) a (w.alloc (.cells #[.int .u64 y] 33)) := by
  rcases hown with hR | ⟨b, cs, rfl, hc, hb, hj⟩
  · exact wpList_append_one w hgd s x t ho 33 i (.int .u64 0) 1 8 ht hi hz hsize hby rfl (by omega) hnd (fun _ => rfl) (by intro x u hu; simp [hnd] at hu; subst hu; rfl)
      A cap n xs hn y #[.int .u64 y] rfl hs hR hx (by simp only [maxLen]; omega) (by omega) h
  · subst hn
    subst hc
    have hb' := hb.alloc (.cells #[.int .u64 y] 33)
    refine wpList_append_grows (w.alloc (.cells #[.int .u64 y] 33)) hgd s x t ho 33 i (.int .u64 0) 1 8 ht hi hz hsize hby rfl (by omega)
      (some ⟨b, 0, none⟩) xs.length xs.length (xs.flatMap hnd) hs (by simp) (by rw [hnd_flat]; omega) ?_ ⟨w.heap.size, 0, none⟩ 1 1 (hnd y) hx rfl (cell_one_new _ _ _) (by intro u hu; simp [hnd] at hu; subst hu; rfl) (by omega) (by simp only [maxLen]; omega) (by omega) ?_
    · intro b1 e j u hu
      injection e with e
      subst e
      obtain ⟨h1, rfl⟩ := flat_nth xs j u hu
      rw [Addr.add_lit, Nat.zero_add, hb'.cell]
      exact hj j h1
    · intro v' w' hown' hg
      obtain ⟨A', cap', rfl⟩ := own_slice hown'
      have hlt := hown'.lt
      refine h A' cap' w' ?_ ?_ ?_
      · have e1 : (xs ++ [y]).flatMap hnd = xs.flatMap hnd ++ hnd y := by simp
        show World.ownsRow _ 0 _ 1 (.slice A' (xs ++ [y]).length cap') (xs ++ [y]).length ((xs ++ [y]).flatMap hnd)
        rw [e1, List.length_append]
        exact own_base hown' (fun _ _ => Nat.zero_le _)
      · exact ((Only.refl (In (some ⟨b, 0, none⟩)) w).alloc _).grown hg (fun _ h => by cases h)
      · intro z hz'
        have := (hlt z (by rw [own_block]; exact hz')).1
        simp at this
        exact .inr (by omega)
end

section
variable {P : Program}
/-- append(v, x...) of nothing. -/
theorem wpList_append_nothing (w : World) {ops : Array Oper} {rest : List Oper} {o : Oper} {a : Act} {Q : Exit → Act → World → Prop} (hgd : o.guard = none) (s x : Operand) (t : TypeId)
    (ho : o.op = .call { callee := .builtin .append, args := #[s, x], argTypes := #[t, t] })
    (e : TypeId) (i : TypeInfo) (ht : P.underlying t = some (.slice e)) (hi : P.info? e = some i)
    (b off n cap : Nat) (ad : Addr) (m c : Nat) (hm : m = 0) (hs : a.eval s = .slice (some ⟨b, off, none⟩) n cap) (hx : a.eval x = .slice (some ad) m c) (hle : n ≤ cap)
    (h : wpList P ops Q rest (a.put o.dst (.slice (some ⟨b, off, none⟩) n cap)) w) : wpList P ops Q (o :: rest) a w := by
  subst hm
  have hr := run_append_room_cells (P := P) w t o.type e i ht hi b off n cap ad 0 c [] (by simp) (by simp) (by simp) hle (by simp) (by simp)
  exact Lib.wpList_append_run w hgd s x t t ho _ _ hs hx _ _ (by simpa [World.setCells] using hr) h
/-- append(v, x...) where there is no room: a row of the call's own. -/
theorem wpList_append_two (w : World) {ops : Array Oper} {rest : List Oper} {o : Oper} {a : Act} {Q : Exit → Act → World → Prop} (hgd : o.guard = none) (s x : Operand) (t : TypeId)
    (ho : o.op = .call { callee := .builtin .append, args := #[s, x], argTypes := #[t, t] })
    (i : TypeInfo) (ht : P.underlying t = some (.slice 33)) (hi : P.info? 33 = some i) (hz : i.zero = some (.int .u64 0)) (hsize : i.size = 1) (hby : i.bytes = 8)
    (b1 b2 o2 n m c : Nat) (xs ys : List Nat) (hn : xs.length = n) (hm : ys.length = m) (hm0 : 0 < m)
    (hs : a.eval s = .slice (some ⟨b1, 0, none⟩) n n) (hx : a.eval x = .slice (some ⟨b2, o2, none⟩) m c) (hc1 : ∀ j, j < n → w.cell? ⟨b1, j, none⟩ = some (.int .u64 (nth xs j : Nat))) (hc2 : ∀ j, j < m → w.cell? ⟨b2, o2 + j, none⟩ = some (.int .u64 (nth ys j : Nat))) (hle : n + m ≤ 100000)
    (h : ∀ A' cap' w', Hnds w' A' cap' (xs ++ ys) → Below w.heap.size w w' → (∀ b, In A' b → w.heap.size ≤ b) → wpList P ops Q rest (a.put o.dst (.slice A' (n + m) cap')) w') :
    wpList P ops Q (o :: rest) a w := by
  subst hn
  subst hm
  refine wpList_append_grows w hgd s x t ho 33 i (.int .u64 0) 1 8 ht hi hz hsize hby rfl (by omega)
    (some ⟨b1, 0, none⟩) xs.length xs.length (xs.flatMap hnd) hs (by simp) (by rw [hnd_flat]; omega) ?_ ⟨b2, o2, none⟩ ys.length c (ys.flatMap hnd) hx (by rw [hnd_flat]; omega) ?_ ?_ (by omega) (by simp only [maxLen]; omega) (by omega) ?_
  · intro b e j u hu
    injection e with e
    subst e
    obtain ⟨h1, rfl⟩ := flat_nth xs j u hu
    rw [Addr.add_lit, Nat.zero_add]
    exact hc1 j h1
  · intro j u hu
    obtain ⟨h1, rfl⟩ := flat_nth ys j u hu
    rw [Addr.add_lit]
    exact hc2 j h1
  · intro u hu
    obtain ⟨j, hj⟩ := List.getElem?_of_mem hu
    obtain ⟨_, rfl⟩ := flat_nth ys j u hj
    rfl
  · intro v' w' hown' hg
    obtain ⟨A', cap', rfl⟩ := own_slice hown'
    have hlt := hown'.lt
    refine h A' cap' w' ?_ ?_ ?_
    · show World.ownsRow _ 0 _ 1 (.slice A' (xs ++ ys).length cap') (xs ++ ys).length ((xs ++ ys).flatMap hnd)
      rw [List.flatMap_append, List.length_append]
      exact own_base hown' (fun _ _ => Nat.zero_le _)
    · exact ((Only.refl (fun _ => False) w).grown hg (fun _ h => by cases h)).toBelow (Nat.le_refl _) (by simp)
    · intro z hz'
      exact (hlt z (by rw [own_block]; exact hz')).1
end

/-- One struck out of a list. -/
def strike (l : List Nat) (k : Nat) : List Nat := l.take k ++ l.drop (k + 1)
theorem strike_len (l : List Nat) (k : Nat) (hk : k < l.length) : (strike l k).length = l.length - 1 := by simp [strike]; omega
theorem strike_perm (l : List Nat) (k : Nat) (hk : k < l.length) : (nth l k :: strike l k).Perm l := by
  have e : l = l.take k ++ nth l k :: l.drop (k + 1) := by
    rw [nth_get hk, ← List.drop_eq_getElem_cons hk, List.take_append_drop]
  have h2 : (l.take k ++ nth l k :: l.drop (k + 1)).Perm (nth l k :: (l.take k ++ l.drop (k + 1))) := List.perm_middle
  rw [← e] at h2
  exact h2.symm
/-- What is left of a slice whose room was cut. -/
theorem lst_cut {w : World} {A : Option Addr} {cap : Nat} {l : List Nat} (h : Lst w A cap l) (k : Nat) (hk : k + 1 = l.length) : Lst w A k (strike l k) := by
  have hkl : k < l.length := by omega
  obtain ⟨b, rfl, hc, _⟩ := h.at k hkl
  obtain ⟨cs, hb⟩ := h.blk (x := b) rfl
  have hst : strike l k = l.take k := by
    unfold strike
    rw [hk, List.drop_length, List.append_nil]
  rw [hst]
  have hl : (l.take k).length = k := by simp; omega
  refine .inr ⟨b, cs, rfl, hl.symm, hb, fun j hj => ?_⟩
  rw [hl] at hj
  rw [← hb.cell, hc j (by omega)]
  congr 3
  unfold nth
  simp [List.getD, List.getElem?_take, hj]

/-! ### the map -/
abbrev DH := DataW Unit
abbrev MKey (x : Nat) : Lit := .int .u64 x
abbrev MVal (v : Int) : DH := .lit (.int .i64 v)
/-- The map in the block B counts just the handles ms, each once. -/
def Met (w : World) (B : Nat) (ms : List Nat) : Prop := ∃ (n : Nat) (D : DH), w.ownsMap Try.prog 33 (plainElem Try.prog 3) B n D ∧ n ≤ ms.length ∧ ∀ x, x ≤ 18446744073709551615 → D.atKey (MKey x) (MVal 0) = MVal (if x ∈ ms then 1 else 0)
theorem keyed : Maps.Keyed Try.prog 33 := Maps.int_keyed Try.underlying33
theorem zeroE (w : World) : (zeroValue 3).run Try.prog w = .ok (.int .i64 0) w := by kernel_rfl
theorem wf_u64 {x : Nat} (hx : x ≤ 18446744073709551615) : (Lit.int .u64 (x : Int)).wf = true := by
  simp [Lit.wf, IntKind.min, IntKind.max, IntKind.signed, IntKind.bits]; omega
theorem mkey {x : Nat} (hx : x ≤ 18446744073709551615) : keyOf Try.prog 33 (.int .u64 x) = some (MKey x) := Maps.keyOf_int_mk Try.underlying33 (wf_u64 hx)
theorem key_lit {x : Nat} (hx : x ≤ 18446744073709551615) : WideAt.IsKeyLit (MKey x) := keyed.key (mkey hx)
theorem Met.made (w : World) : Met (w.alloc (.map #[] 0)) w.heap.size [] :=
  ⟨0, .map [], World.ownsMap_made _ _ _ _, Nat.le_refl _, fun x _ => by simp [DataW.atKey]⟩
theorem Met.only {S : Nat → Prop} {w w' : World} {B : Nat} {ms : List Nat} (h : Met w B ms) (ho : Only S w w') (hn : ¬ S B) : Met w' B ms := by
  obtain ⟨n, D, hm, r⟩ := h
  have hlt := hm.lt
  obtain ⟨es, clock, hb, F, hs, hD⟩ := hm
  exact ⟨n, D, ⟨es, clock, (ho.block B hlt hn).trans hb, F, hs, hD⟩, r⟩
theorem met_put {w : World} {B n : Nat} {D : DH} {ms : List Nat} {x : Nat} (hx : x ≤ 18446744073709551615) {w0 : World} {n0 : Nat} (hm0 : w0.ownsMap Try.prog 33 (plainElem Try.prog 3) B n0 D) (hm : w.ownsMap Try.prog 33 (plainElem Try.prog 3) B (n + 1) (D.put (MKey x) (MVal 1))) (hn : n ≤ ms.length) (hat : ∀ x, x ≤ 18446744073709551615 → D.atKey (MKey x) (MVal 0) = MVal (if x ∈ ms then 1 else 0)) : Met w B (x :: ms) := by
  have hD : Maps.IsMap D := by obtain ⟨es, clock, _, _, _, hD⟩ := hm0; exact ⟨_, hD⟩
  refine ⟨n + 1, _, hm, by simp; omega, fun y hy => ?_⟩
  by_cases e : y = x
  · subst e
    rw [Maps.atKey_put_same hD (key_lit hx)]
    simp
  · have hne : MKey y ≠ MKey x := fun h => by
      injection h with _ h
      exact e (by omega)
    rw [Maps.atKey_put_other hne, hat y hy]
    simp [e]

/-! ### which handles are live -/
theorem frees_take {ss : List Sl} {m : Nat} (hm : m < ss.length) (ht : (at' ss m).taken = false) (s : Sl) (hs : s.taken = true) : (frees ss ss.length).length = (frees (ss.set m s) ss.length).length + 1 := by
  have hp : (frees ss ss.length).Perm (m :: frees (ss.set m s) ss.length) := by
    have hnm : m ∉ frees (ss.set m s) ss.length := fun h => by
      have := (mem_frees.1 h).2
      rw [at_set hm, if_pos rfl, hs] at this
      simp at this
    refine (List.perm_ext_iff_of_nodup (frees_nodup _ _) (List.nodup_cons.2 ⟨hnm, frees_nodup _ _⟩)).2 fun a => ?_
    rw [List.mem_cons, mem_frees, mem_frees, at_set hm]
    by_cases e : a = m
    · subst e; simp [hm, ht]
    · simp [e]
  simpa using hp.length_eq
theorem frees_give {ss : List Sl} {m : Nat} (hm : m < ss.length) (ht : (at' ss m).taken = true) (s : Sl) (hs : s.taken = false) : (frees (ss.set m s) ss.length).length = (frees ss ss.length).length + 1 := by
  have h1 : (at' (ss.set m s) m).taken = false := by rw [at_set hm, if_pos rfl]; exact hs
  have h2 := frees_take (ss := ss.set m s) (m := m) (by simpa using hm) h1 (at' ss m) ht
  rw [List.length_set, List.set_set] at h2
  have h3 : ss.set m (at' ss m) = ss := by
    apply List.ext_getElem?
    intro i
    rw [List.getElem?_set]
    by_cases e : m = i
    · subst e; rw [if_pos rfl, if_pos hm, at_some hm]
    · rw [if_neg e]
  rw [h3] at h2
  exact h2
theorem frees_none {ss : List Sl} (h : ∀ k, k < ss.length → (at' ss k).taken = true) : (frees ss ss.length).length = 0 := by
  rw [List.length_eq_zero_iff, frees, List.filter_eq_nil_iff]
  intro a ha
  have ha : a < ss.length := by simpa using ha
  simp [h a ha]

/-- A handle that was answered: of an elder generation, or live. -/
def Past (ss : List Sl) (x : Nat) : Prop := ∃ p q, p < ss.length ∧ x = q * 65536 + p + 1 ∧ q < (at' ss p).gen
def Old (ss : List Sl) (x : Nat) : Prop := Past ss x ∨ ∃ p, IsAt ss x p
theorem Past.no {ss : List Sl} {x : Nat} (hl : ss.length ≤ 1024) (h : Past ss x) : ∀ k, ¬ IsAt ss x k := by
  obtain ⟨p, q, hp, hx, hq⟩ := h
  rintro k ⟨h1, h2, h3⟩
  have : p = k := by omega
  subst this
  omega
theorem Past.pos {ss : List Sl} {x : Nat} (h : Past ss x) : x ≠ 0 := by obtain ⟨p, q, hp, hx, hq⟩ := h; omega
theorem Past.set {ss : List Sl} {x m : Nat} (h : Past ss x) (hm : m < ss.length) (s : Sl) (hs : (at' ss m).gen ≤ s.gen) : Past (ss.set m s) x := by
  obtain ⟨p, q, hp, hx, hq⟩ := h
  refine ⟨p, q, by simpa using hp, hx, ?_⟩
  rw [at_set hm]
  by_cases e : p = m
  · subst e; rw [if_pos rfl]; omega
  · rw [if_neg e]; exact hq
theorem isAt_set {ss : List Sl} {x k m : Nat} (h : IsAt ss x k) (hm : m < ss.length) (hne : k ≠ m) (s : Sl) : IsAt (ss.set m s) x k := by
  obtain ⟨h1, h2, h3⟩ := h
  refine ⟨by simpa using h1, ?_, ?_⟩ <;> rw [at_set hm, if_neg hne] <;> assumption
/-- A place taken: its handle is new. -/
theorem take_new {ss : List Sl} {m : Nat} (hl : ss.length ≤ 1024) (hm : Least ss m) (x : Nat) (hx : Old ss x) : x ≠ (at' ss m).gen * 65536 + m + 1 := by
  intro e
  rcases hx with ⟨p, q, hp, hx, hq⟩ | ⟨p, h1, h2, h3⟩
  · have h4 := hm.1
    have : p = m := by omega
    subst this
    omega
  · have h4 := hm.1
    have : p = m := by omega
    subst this
    rw [hm.2.1] at h2
    simp at h2
theorem take_at {ss : List Sl} {m : Nat} (hm : m < ss.length) (d : Nd) : IsAt (ss.set m ⟨true, (at' ss m).gen, d⟩) ((at' ss m).gen * 65536 + m + 1) m :=
  ⟨by simpa using hm, by rw [at_set hm, if_pos rfl], by rw [at_set hm, if_pos rfl]⟩
theorem old_take {ss : List Sl} {m x : Nat} (hm : Least ss m) (d : Nd) (hx : Old ss x) : Old (ss.set m ⟨true, (at' ss m).gen, d⟩) x := by
  rcases hx with h | ⟨p, h⟩
  · exact .inl (h.set hm.1 _ (Nat.le_refl _))
  · refine .inr ⟨p, isAt_set h hm.1 (fun e => ?_) _⟩
    subst e
    have := h.2.1
    rw [hm.2.1] at this
    simp at this
theorem old_give {ss : List Sl} {m x y : Nat} (hm : IsAt ss y m) (hx : Old ss x) : Old (ss.set m ⟨false, (at' ss m).gen + 1, .zero⟩) x := by
  rcases hx with h | ⟨p, h⟩
  · exact .inl (h.set hm.1 _ (Nat.le_succ _))
  · by_cases e : p = m
    · subst e
      refine .inl ⟨p, (at' ss p).gen, by simpa using h.1, h.2.2, ?_⟩
      rw [at_set h.1, if_pos rfl]
      exact Nat.lt_succ_self _
    · exact .inr ⟨p, isAt_set h hm.1 e _⟩
theorem past_give {ss : List Sl} {m y : Nat} (hm : IsAt ss y m) : Past (ss.set m ⟨false, (at' ss m).gen + 1, .zero⟩) y := by
  refine ⟨m, (at' ss m).gen, by simpa using hm.1, hm.2.2, ?_⟩
  rw [at_set hm.1, if_pos rfl]
  exact Nat.lt_succ_self _

/-- What is known of the handles: the live ones, the dead ones, all that were answered. -/
def Logic (ss : List Sl) (live dead ms : List Nat) : Prop :=
  live.Nodup ∧ (∀ x ∈ live, ∃ p, IsAt ss x p) ∧ (∀ x ∈ dead, Past ss x) ∧ (∀ x ∈ ms, Old ss x) ∧ live.length + (frees ss ss.length).length = ss.length
theorem logic_new (n : Nat) : Logic (List.replicate n .zero) [] [] [] := by
  refine ⟨List.nodup_nil, by simp, by simp, by simp, ?_⟩
  rw [List.length_replicate, frees_zero n n (Nat.le_refl _)]
  simp
theorem logic_take {ss : List Sl} {live dead ms : List Nat} (h : Logic ss live dead ms) (hl : ss.length ≤ 1024) {m : Nat} (hm : Least ss m) (d : Nd) :
    Logic (ss.set m ⟨true, (at' ss m).gen, d⟩) (live ++ [(at' ss m).gen * 65536 + m + 1]) dead (((at' ss m).gen * 65536 + m + 1) :: ms) := by
  obtain ⟨h1, h2, h3, h4, h5⟩ := h
  refine ⟨?_, ?_, fun x hx => (h3 x hx).set hm.1 _ (Nat.le_refl _), ?_, ?_⟩
  · rw [List.nodup_append]
    refine ⟨h1, by simp, fun a ha b hb e => ?_⟩
    have : b = (at' ss m).gen * 65536 + m + 1 := by simpa using hb
    subst this
    exact take_new hl hm a (.inr (h2 a ha)) e
  · intro x hx
    rcases List.mem_append.1 hx with q | q
    · obtain ⟨p, hp⟩ := h2 x q
      refine ⟨p, isAt_set hp hm.1 (fun e => ?_) _⟩
      subst e
      have := hp.2.1
      rw [hm.2.1] at this
      simp at this
    · have : x = (at' ss m).gen * 65536 + m + 1 := by simpa using q
      subst this
      exact ⟨m, take_at hm.1 d⟩
  · intro x hx
    rcases List.mem_cons.1 hx with rfl | q
    · exact .inr ⟨m, take_at hm.1 d⟩
    · exact old_take hm d (h4 x q)
  · have := frees_take hm.1 hm.2.1 ⟨true, (at' ss m).gen, d⟩ rfl
    rw [List.length_append, List.length_set]
    simp
    omega
theorem logic_give {ss : List Sl} {live dead ms : List Nat} (h : Logic ss live dead ms) (hl : ss.length ≤ 1024) {k p : Nat} (hk : k < live.length) (hp : IsAt ss (nth live k) p) :
    Logic (ss.set p ⟨false, (at' ss p).gen + 1, .zero⟩) (strike live k) (dead ++ [nth live k]) ms := by
  obtain ⟨h1, h2, h3, h4, h5⟩ := h
  have hpm := strike_perm live k hk
  have hnd := hpm.nodup_iff.2 h1
  rw [List.nodup_cons] at hnd
  refine ⟨hnd.2, ?_, ?_, fun x hx => old_give hp (h4 x hx), ?_⟩
  · intro x hx
    obtain ⟨p', hp'⟩ := h2 x (hpm.mem_iff.1 (List.mem_cons_of_mem _ hx))
    refine ⟨p', isAt_set hp' hp.1 (fun e => ?_) _⟩
    subst e
    have : x = nth live k := by rw [hp.2.2, hp'.2.2]
    subst this
    exact hnd.1 hx
  · intro x hx
    rcases List.mem_append.1 hx with q | q
    · exact (h3 x q).set hp.1 _ (Nat.le_succ _)
    · have : x = nth live k := by simpa using q
      subst this
      exact past_give hp
  · have := frees_give hp.1 hp.2.1 ⟨false, (at' ss p).gen + 1, .zero⟩ rfl
    rw [strike_len live k hk, List.length_set]
    omega
end Go.Proofs.Ytihgfjamnmbppaa.LawFour
