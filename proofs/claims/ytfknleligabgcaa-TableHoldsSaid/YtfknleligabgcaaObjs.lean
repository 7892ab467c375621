/- A law's own objects beside a memory: each behind a name, each in a block of its own, none in the memory's. -/
import Derived.Test.YtfknleligabgcaaMemWalk
namespace Go.Proofs.Ytfknleligabgcaa.Ob
open Go Go.RowKit Hp K Fl Rw Hm Ar Mm Me
set_option maxRecDepth 100000

/-- A block and what it holds. -/
abbrev Thing := Nat × Obj
abbrev box (t : TypeId) (cs : Array Value) : Obj := .cells cs t (0, 0)
/-- A function turned at one place. -/
def upd {κ α : Type} [DecidableEq κ] (f : κ → α) (k : κ) (v : α) : κ → α := fun i => if i = k then v else f i
section
variable {κ α : Type} [DecidableEq κ] {f : κ → α} {k i : κ} {v : α}
theorem upd_same : upd f k v k = v := by simp [upd]
theorem upd_far (h : i ≠ k) : upd f k v i = f i := by simp [upd, h]
end

structure Objs {κ : Type} (W0 w : World) (M : Mo) (obj : κ → Option Thing) : Prop where
  mem : MemAt w M
  at_ : ∀ k b o, obj k = some (b, o) → w.heap[b]? = some o
  inj : ∀ k k' o o', obj k = some o → obj k' = some o' → k ≠ k' → o.1 ≠ o'.1
  far : ∀ k o, obj k = some o → ¬ mfoot M o.1
  low : ∀ k o, obj k = some o → W0.heap.size ≤ o.1
  lom : ∀ x, mfoot M x → W0.heap.size ≤ x
  below : Below W0.heap.size W0 w

section
variable {κ : Type} [DecidableEq κ] {W0 w w' : World} {M M' : Mo} {obj : κ → Option Thing} {k : κ} {b : Nat} {o : Obj}
omit [DecidableEq κ] in
theorem Objs.lt (h : Objs W0 w M obj) (hk : obj k = some (b, o)) : b < w.heap.size := (Array.getElem?_eq_some_iff.1 (h.at_ k b o hk)).1
omit [DecidableEq κ] in
theorem Objs.blk {t : TypeId} {cs : Array Value} (h : Objs W0 w M obj) (hk : obj k = some (b, box t cs)) : Blk w b t cs := h.at_ k b _ hk
omit [DecidableEq κ] in
theorem Objs.down (h : Objs W0 w M obj) (hb : Below w.heap.size w w') : Objs W0 w' M obj :=
  ⟨h.mem.below hb, fun k b o hk => (hb.block b (h.lt hk)).trans (h.at_ k b o hk), h.inj, h.far, h.low, h.lom, h.below.trans (hb.mono h.below.size)⟩
omit [DecidableEq κ] in
theorem Objs.drewN (h : Objs W0 w M obj) (n : Nat) : Objs W0 (w.drewN n) M obj := h.down ⟨rfl, rfl, rfl, Nat.le_refl _, fun _ _ => rfl⟩
omit [DecidableEq κ] in
theorem Objs.alloc (h : Objs W0 w M obj) (o : Obj) : Objs W0 (w.alloc o) M obj := h.down ((Below.refl _ _).alloc (Nat.le_refl _) _)
omit [DecidableEq κ] in
/-- The memory turned. -/
theorem Objs.memory (h : Objs W0 w M obj) (hM : MemAt w' M') (ho : Only (mfoot M) w w') (hf : ∀ x, mfoot M' x → mfoot M x ∨ w.heap.size ≤ x) : Objs W0 w' M' obj :=
  ⟨hM, fun k b o hk => (ho.block b (h.lt hk) (h.far k _ hk)).trans (h.at_ k b o hk), h.inj, fun k o hk hx => by
    rcases hf _ hx with q | q
    · exact h.far k o hk q
    · have := h.lt hk; omega, h.low, fun x hx => by
    rcases hf x hx with q | q
    · exact h.lom x q
    · have := h.below.size; omega, h.below.trans (ho.toBelow h.below.size (fun x hx q => by have := h.lom x q; omega))⟩
/-- The memory and one thing turned. -/
theorem Objs.turn (h : Objs W0 w M obj) (hk : obj k = some (b, o)) {o' : Obj} (hM : MemAt w' M') (ho : Only (fun x => mfoot M x ∨ x = b) w w') (hf : ∀ x, mfoot M' x → mfoot M x ∨ w.heap.size ≤ x) (hb : w'.heap[b]? = some o') :
    Objs W0 w' M' (upd obj k (some (b, o'))) := by
  refine ⟨hM, fun k1 b1 o1 h1 => ?_, fun k1 k2 o1 o2 h1 h2 hne => ?_, fun k1 o1 h1 hx => ?_, fun k1 o1 h1 => ?_, fun x hx => ?_, h.below.trans (ho.toBelow h.below.size (fun x hx q => ?_))⟩
  · unfold upd at h1
    split at h1
    · rename_i e
      injection h1 with h1
      injection h1 with e1 e2
      subst e1; subst e2
      exact hb
    · rename_i e
      refine (ho.block b1 (h.lt h1) ?_).trans (h.at_ k1 b1 o1 h1)
      rintro (q | q)
      · exact h.far k1 _ h1 q
      · exact h.inj k1 k _ _ h1 hk e q
  · have old : ∀ k1 o1, upd obj k (some (b, o')) k1 = some o1 → ∃ o2, obj k1 = some o2 ∧ o2.1 = o1.1 := fun k1 o1 h1 => by
      unfold upd at h1
      split at h1
      · rename_i e
        injection h1 with h1
        subst h1; subst e
        exact ⟨_, hk, rfl⟩
      · exact ⟨_, h1, rfl⟩
    obtain ⟨p1, q1, e1⟩ := old k1 o1 h1
    obtain ⟨p2, q2, e2⟩ := old k2 o2 h2
    rw [← e1, ← e2]
    exact h.inj _ _ _ _ q1 q2 hne
  · have : ¬ mfoot M o1.1 ∧ o1.1 < w.heap.size := by
      unfold upd at h1
      split at h1
      · injection h1 with h1
        subst h1
        exact ⟨h.far k (b, o) hk, h.lt hk⟩
      · exact ⟨h.far k1 _ h1, h.lt (o := o1.2) h1⟩
    rcases hf _ hx with q | q
    · exact this.1 q
    · omega
  · unfold upd at h1
    split at h1
    · injection h1 with h1
      subst h1
      exact h.low k (b, o) hk
    · exact h.low k1 _ h1
  · rcases hf x hx with q | q
    · exact h.lom x q
    · have := h.below.size; omega
  · rcases q with q | q
    · have := h.lom x q; omega
    · have := h.low k _ hk
      subst q
      simp only at this
      omega
/-- One thing turned. -/
theorem Objs.turn1 (h : Objs W0 w M obj) (hk : obj k = some (b, o)) {o' : Obj} (ho : Only (· = b) w w') (hb : w'.heap[b]? = some o') : Objs W0 w' M (upd obj k (some (b, o'))) :=
  h.turn hk (h.mem.only ho (fun x hx e => by subst e; exact h.far k _ hk hx)) (ho.mono (fun _ _ q => .inr q)) (fun _ q => .inl q) hb
theorem Objs.store {t : TypeId} {cs : Array Value} (h : Objs W0 w M obj) (hk : obj k = some (b, box t cs)) (j : Nat) (v : Value) : Objs W0 (w.setCell ⟨b, j, none⟩ v) M (upd obj k (some (b, box t (cs.setIfInBounds j v)))) :=
  h.turn1 hk ((Only.refl (· = b) w).setCell (p := ⟨b, j, none⟩) (.inl rfl) v) ((h.blk hk).store j v)
/-- A new thing. -/
theorem Objs.fresh (h : Objs W0 w M obj) (hb : Below w.heap.size w w') {g : Nat} (hg : w.heap.size ≤ g) (ho : w'.heap[g]? = some o) : Objs W0 w' M (upd obj k (some (g, o))) := by
  have h' := h.down hb
  refine ⟨h'.mem, fun k1 b1 o1 h1 => ?_, fun k1 k2 o1 o2 h1 h2 hne => ?_, fun k1 o1 h1 hx => ?_, fun k1 o1 h1 => ?_, h'.lom, h'.below⟩
  · unfold upd at h1
    split at h1
    · injection h1 with h1
      injection h1 with e1 e2
      subst e1; subst e2
      exact ho
    · exact h'.at_ k1 b1 o1 h1
  · unfold upd at h1 h2
    split at h1
    · rename_i e
      rw [if_neg (fun e' => hne (e.trans e'.symm))] at h2
      injection h1 with h1
      subst h1
      have := h.lt (o := o2.2) h2
      simp only
      omega
    · split at h2
      · injection h2 with h2
        subst h2
        have := h.lt (o := o1.2) h1
        simp only
        omega
      · exact h.inj _ _ _ _ h1 h2 hne
  · unfold upd at h1
    split at h1
    · injection h1 with h1
      subst h1
      have := h.mem.lt hx
      simp only at this
      omega
    · exact h.far k1 _ h1 hx
  · unfold upd at h1
    split at h1
    · injection h1 with h1
      subst h1
      have := h.below.size
      simp only
      omega
    · exact h.low k1 _ h1
theorem Objs.made (h : Objs W0 w M obj) (t : TypeId) (cs : Array Value) : Objs W0 (w.alloc (box t cs)) M (upd obj k (some (w.heap.size, box t cs))) :=
  h.fresh ((Below.refl _ _).alloc (Nat.le_refl _) _) (Nat.le_refl _) (Blk.made w t cs)
/-- A thing that nobody uses any more. -/
theorem Objs.drop (h : Objs W0 w M obj) (k : κ) : Objs W0 w M (upd obj k none) := by
  have old : ∀ k1 o1, upd obj k none k1 = some o1 → obj k1 = some o1 := fun k1 o1 h1 => by
    unfold upd at h1
    split at h1
    · simp at h1
    · exact h1
  exact ⟨h.mem, fun k1 b1 o1 h1 => h.at_ k1 b1 o1 (old _ _ h1), fun k1 k2 o1 o2 h1 h2 => h.inj _ _ _ _ (old _ _ h1) (old _ _ h2), fun k1 o1 h1 => h.far k1 o1 (old _ _ h1), fun k1 o1 h1 => h.low k1 o1 (old _ _ h1), h.lom, h.below⟩
omit [DecidableEq κ] in
/-- A memory alone. -/
theorem Objs.start (hM : MemAt w M) (hl : ∀ x, mfoot M x → W0.heap.size ≤ x) (hb : Below W0.heap.size W0 w) : Objs W0 w M (fun _ : κ => none) :=
  ⟨hM, fun _ _ _ h => by simp at h, fun _ _ _ _ h => by simp at h, fun _ _ h => by simp at h, fun _ _ h => by simp at h, hl, hb⟩
end
end Go.Proofs.Ytfknleligabgcaa.Ob
