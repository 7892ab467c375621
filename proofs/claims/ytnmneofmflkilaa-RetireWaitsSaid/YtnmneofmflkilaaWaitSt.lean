/- QsbrWaits: the law's own rows and frames, beside the memory. -/
import Derived.Test.YtnmneofmflkilaaWaitMath
namespace Go.Proofs.Ytnmneofmflkilaa.LawSix
open Go Go.RowKit Hp K Fl Rw Hm Ar Mm Me Qs Ob
set_option maxRecDepth 100000

def frv : Fr → Value
  | .nil => .nilIface
  | .com b _ _ => .iface 55 (ptr b)
  | .goi b _ => .iface 58 (ptr b)
def wv : Option Nat → Value
  | none => .nilIface
  | some b => .iface 63 (ptr b)
def iv (x : Nat) : Value := .int .i64 x
def bv (n : Nat) : Option (Nat × List Nat) → Value
  | none => .slice none 0 0
  | some (b, _) => .slice (some ⟨b, 0, none⟩) n n
def ints (l : List Nat) : Obj := box 3 (l.map iv).toArray
/-- Where a frame lies. -/
def frAt (obj : Nat × Nat → Option Thing) (i : Nat) : Fr → Prop
  | .nil => True
  | .com b a p => obj (6, i) = some (b, box 80 (cmc ⟨i, a, p⟩))
  | .goi b a => obj (6, i) = some (b, box 85 #[.int .i64 i, .int .i64 a])
structure SO (W0 w : World) (n fb vb sb gb : Nat) (M : Mo) (fs : List Fr) (ss : List Nat) (wb : Nat → Option Nat) (Wk : Nat → Wt) (bg : Nat → Option (Nat × List Nat)) (obj : Nat × Nat → Option Thing) : Prop where
  ob : Objs W0 w M obj
  o0 : obj (0, 0) = some (fb, box 54 (fs.map frv).toArray)
  o1 : obj (1, 0) = some (vb, box 54 #[wv (wb 0), wv (wb 1)])
  o2 : obj (2, 0) = some (sb, ints ss)
  o3 : obj (3, 0) = some (gb, box 51 #[bv n (bg 0), bv n (bg 1)])
  o4 : ∀ k b, k < 2 → wb k = some b → obj (4, k) = some (b, box 100 (wtc (Wk k)))
  o5 : ∀ k b l, k < 2 → bg k = some (b, l) → obj (5, k) = some (b, ints l)
  o6 : ∀ i x, fs[i]? = some x → frAt obj i x
def SW (W0 w : World) (n fb vb sb gb : Nat) (M : Mo) (fs : List Fr) (ss : List Nat) (wb : Nat → Option Nat) (Wk : Nat → Wt) (bg : Nat → Option (Nat × List Nat)) : Prop :=
  ∃ obj, SO W0 w n fb vb sb gb M fs ss wb Wk bg obj

theorem two_upd {α : Type} (g : α → Value) (f : Nat → α) {k : Nat} (hk : k < 2) (v : α) : (#[g (f 0), g (f 1)] : Array Value).setIfInBounds k (g v) = #[g (upd f k v 0), g (upd f k v 1)] := by
  have : k = 0 ∨ k = 1 := by omega
  rcases this with rfl | rfl <;> simp [upd]
theorem two_at {α : Type} (g : α → Value) (f : Nat → α) {k : Nat} (hk : k < 2) : (#[g (f 0), g (f 1)] : Array Value)[k]? = some (g (f k)) := by
  have : k = 0 ∨ k = 1 := by omega
  rcases this with rfl | rfl <;> rfl
theorem map_set {α : Type} (g : α → Value) (l : List α) (i : Nat) (v : α) : ((l.map g).toArray).setIfInBounds i (g v) = ((l.set i v).map g).toArray := by simp [List.map_set]
theorem iv_at (l : List Nat) {i : Nat} (hi : i < l.length) : (l.map iv).toArray[i]? = some (iv (Hm.nth l i)) := by simp [Hm.nth, List.getD, hi]
theorem frAt_far {obj : Nat × Nat → Option Thing} {i : Nat} {x : Fr} {k : Nat × Nat} {o : Option Thing} (h : frAt obj i x) (hk : k ≠ (6, i)) : frAt (upd obj k o) i x := by
  cases x with
  | nil => trivial
  | com b a p => unfold frAt at h ⊢; rw [upd_far (Ne.symm hk)]; exact h
  | goi b a => unfold frAt at h ⊢; rw [upd_far (Ne.symm hk)]; exact h

section
variable {W0 w w' w1 : World} {n fb vb sb gb : Nat} {M M' : Mo} {fs : List Fr} {ss : List Nat} {wb : Nat → Option Nat} {Wk : Nat → Wt} {bg : Nat → Option (Nat × List Nat)}
theorem SW.down (h : SW W0 w n fb vb sb gb M fs ss wb Wk bg) (hb : Below w.heap.size w w') : SW W0 w' n fb vb sb gb M fs ss wb Wk bg := by
  obtain ⟨obj, h⟩ := h
  exact ⟨obj, { h with ob := h.ob.down hb }⟩
theorem SW.drewN (h : SW W0 w n fb vb sb gb M fs ss wb Wk bg) (q : Nat) : SW W0 (w.drewN q) n fb vb sb gb M fs ss wb Wk bg := h.down ⟨rfl, rfl, rfl, Nat.le_refl _, fun _ _ => rfl⟩
theorem SW.mem (h : SW W0 w n fb vb sb gb M fs ss wb Wk bg) : MemAt w M := by obtain ⟨obj, h⟩ := h; exact h.ob.mem
theorem SW.below (h : SW W0 w n fb vb sb gb M fs ss wb Wk bg) : Below W0.heap.size W0 w := by obtain ⟨obj, h⟩ := h; exact h.ob.below
theorem SW.wait (h : SW W0 w n fb vb sb gb M fs ss wb Wk bg) {k b : Nat} (hk : k < 2) (hb : wb k = some b) : WtAt w b (Wk k) := by obtain ⟨obj, h⟩ := h; exact h.ob.blk (h.o4 k b hk hb)
theorem SW.com (h : SW W0 w n fb vb sb gb M fs ss wb Wk bg) {i b a : Nat} {p : Int} (hx : fs[i]? = some (.com b a p)) : CmAt w b ⟨i, a, p⟩ := by obtain ⟨obj, h⟩ := h; exact h.ob.blk (h.o6 i _ hx)
theorem SW.goi (h : SW W0 w n fb vb sb gb M fs ss wb Wk bg) {i b a : Nat} (hx : fs[i]? = some (.goi b a)) : GgAt w b i a := by obtain ⟨obj, h⟩ := h; exact h.ob.blk (h.o6 i _ hx)
/-! ### what is read -/
theorem SW.rf (h : SW W0 w n fb vb sb gb M fs ss wb Wk bg) {i : Nat} {x : Fr} (hx : fs[i]? = some x) : w.cell? ⟨fb, i, none⟩ = some (frv x) ∧ w.frozen? ⟨fb, i, none⟩ = false := by
  obtain ⟨obj, h⟩ := h
  have hb := h.ob.blk h.o0
  refine ⟨?_, hb.frozen i⟩
  rw [hb.cell, List.getElem?_toArray, List.getElem?_map, hx]
  rfl
theorem SW.rv (h : SW W0 w n fb vb sb gb M fs ss wb Wk bg) {k : Nat} (hk : k < 2) : w.cell? ⟨vb, k, none⟩ = some (wv (wb k)) ∧ w.frozen? ⟨vb, k, none⟩ = false := by
  obtain ⟨obj, h⟩ := h
  have hb := h.ob.blk h.o1
  exact ⟨by rw [hb.cell]; exact two_at wv wb hk, hb.frozen k⟩
theorem SW.rs (h : SW W0 w n fb vb sb gb M fs ss wb Wk bg) {i : Nat} (hi : i < ss.length) : w.cell? ⟨sb, i, none⟩ = some (.int .i64 (Hm.nth ss i : Nat)) ∧ w.frozen? ⟨sb, i, none⟩ = false := by
  obtain ⟨obj, h⟩ := h
  have hb := h.ob.blk h.o2
  exact ⟨by rw [hb.cell]; exact iv_at ss hi, hb.frozen i⟩
theorem SW.rg (h : SW W0 w n fb vb sb gb M fs ss wb Wk bg) {k : Nat} (hk : k < 2) : w.cell? ⟨gb, k, none⟩ = some (bv n (bg k)) ∧ w.frozen? ⟨gb, k, none⟩ = false := by
  obtain ⟨obj, h⟩ := h
  have hb := h.ob.blk h.o3
  exact ⟨by rw [hb.cell]; exact two_at (bv n) bg hk, hb.frozen k⟩
theorem SW.rb (h : SW W0 w n fb vb sb gb M fs ss wb Wk bg) {k b : Nat} {l : List Nat} (hk : k < 2) (hb : bg k = some (b, l)) {i : Nat} (hi : i < l.length) : w.cell? ⟨b, i, none⟩ = some (.int .i64 (Hm.nth l i : Nat)) ∧ w.frozen? ⟨b, i, none⟩ = false := by
  obtain ⟨obj, h⟩ := h
  have hb := h.ob.blk (h.o5 k b l hk hb)
  exact ⟨by rw [hb.cell]; exact iv_at l hi, hb.frozen i⟩
theorem SW.lts (h : SW W0 w n fb vb sb gb M fs ss wb Wk bg) : fb < w.heap.size ∧ vb < w.heap.size ∧ sb < w.heap.size ∧ gb < w.heap.size ∧ M.m < w.heap.size := by
  obtain ⟨obj, h⟩ := h
  exact ⟨h.ob.lt h.o0, h.ob.lt h.o1, h.ob.lt h.o2, h.ob.lt h.o3, h.ob.mem.1.lt⟩
theorem SW.gv (h : SW W0 w n fb vb sb gb M fs ss wb Wk bg) : gb ≠ vb := by
  obtain ⟨obj, h⟩ := h
  exact h.ob.inj _ _ _ _ h.o3 h.o1 (by simp)
/-! ### what is turned -/
theorem SW.memory (h : SW W0 w n fb vb sb gb M fs ss wb Wk bg) (hM : MemAt w' M') (ho : Only (mfoot M) w w') (hfo : mfoot M' = mfoot M) : SW W0 w' n fb vb sb gb M' fs ss wb Wk bg := by
  obtain ⟨obj, h⟩ := h
  exact ⟨obj, { h with ob := h.ob.memory hM ho (fun x q => .inl (by rwa [hfo] at q)) }⟩
theorem SW.waited (h : SW W0 w n fb vb sb gb M fs ss wb Wk bg) {k b : Nat} (hk : k < 2) (hb : wb k = some b) {W' : Wt} (hM : MemAt w' M') (hW : WtAt w' b W') (ho : Only (fun x => mfoot M x ∨ x = b) w w') (hfo : mfoot M' = mfoot M) :
    SW W0 w' n fb vb sb gb M' fs ss wb (upd Wk k W') bg := by
  obtain ⟨obj, h⟩ := h
  refine ⟨_, { ob := h.ob.turn (h.o4 k b hk hb) hM ho (fun x q => .inl (by rwa [hfo] at q)) hW, o0 := h.o0, o1 := h.o1, o2 := h.o2, o3 := h.o3, o4 := fun j b' hj hb' => ?_, o5 := h.o5, o6 := fun i x hx => frAt_far (h.o6 i x hx) (by simp) }⟩
  by_cases e : j = k
  · subst e
    rw [hb] at hb'
    injection hb' with hb'
    subst hb'
    rw [upd_same, upd_same]
  · rw [upd_far (by simpa using e), upd_far e]
    exact h.o4 j b' hj hb'
theorem frames_set {obj : Nat × Nat → Option Thing} {i : Nat} {y : Fr} {o : Option Thing} (h : ∀ j x, fs[j]? = some x → frAt obj j x) (hy : frAt (upd obj (6, i) o) i y) : ∀ j x, (fs.set i y)[j]? = some x → frAt (upd obj (6, i) o) j x := by
  intro j x hx
  rw [List.getElem?_set] at hx
  split at hx
  · rename_i e
    subst e
    split at hx
    · injection hx with hx
      subst hx
      exact hy
    · simp at hx
  · rename_i e
    exact frAt_far (h j x hx) (by simpa using e)
theorem SW.comed (h : SW W0 w n fb vb sb gb M fs ss wb Wk bg) {i b a a' : Nat} {p p' : Int} (hx : fs[i]? = some (.com b a p)) (hM : MemAt w' M') (hC : CmAt w' b ⟨i, a', p'⟩) (ho : Only (fun x => mfoot M x ∨ x = b) w w') (hfo : mfoot M' = mfoot M) :
    SW W0 w' n fb vb sb gb M' (fs.set i (.com b a' p')) ss wb Wk bg := by
  obtain ⟨obj, h⟩ := h
  have hi := (List.getElem?_eq_some_iff.1 hx).1
  refine ⟨_, { ob := h.ob.turn (h.o6 i _ hx) hM ho (fun x q => .inl (by rwa [hfo] at q)) hC, o0 := ?_, o1 := h.o1, o2 := h.o2, o3 := h.o3, o4 := fun j b' hj hb' => by rw [upd_far (by simp)]; exact h.o4 j b' hj hb', o5 := h.o5, o6 := frames_set h.o6 (by unfold frAt; exact upd_same) }⟩
  rw [upd_far (by simp), h.o0]
  have : (fs.set i (.com b a' p')).map frv = fs.map frv := by
    rw [List.map_set]
    apply List.ext_getElem?
    intro j
    rw [List.getElem?_set]
    split
    · rename_i e
      subst e
      rw [List.getElem?_map, hx]
      simp [hi, frv]
    · rfl
  rw [this]
theorem SW.goned (h : SW W0 w n fb vb sb gb M fs ss wb Wk bg) {i b a a' : Nat} (hx : fs[i]? = some (.goi b a)) (hM : MemAt w' M') (hC : GgAt w' b i a') (ho : Only (fun x => mfoot M x ∨ x = b) w w') (hfo : mfoot M' = mfoot M) :
    SW W0 w' n fb vb sb gb M' (fs.set i (.goi b a')) ss wb Wk bg := by
  obtain ⟨obj, h⟩ := h
  have hi := (List.getElem?_eq_some_iff.1 hx).1
  refine ⟨_, { ob := h.ob.turn (h.o6 i _ hx) hM ho (fun x q => .inl (by rwa [hfo] at q)) hC, o0 := ?_, o1 := h.o1, o2 := h.o2, o3 := h.o3, o4 := fun j b' hj hb' => by rw [upd_far (by simp)]; exact h.o4 j b' hj hb', o5 := h.o5, o6 := frames_set h.o6 (by unfold frAt; exact upd_same) }⟩
  rw [upd_far (by simp), h.o0]
  have : (fs.set i (.goi b a')).map frv = fs.map frv := by
    rw [List.map_set]
    apply List.ext_getElem?
    intro j
    rw [List.getElem?_set]
    split
    · rename_i e
      subst e
      rw [List.getElem?_map, hx]
      simp [hi, frv]
    · rfl
  rw [this]
/-- A row's cell written: a frame that was just made. -/
theorem SW.enter (h : SW W0 w n fb vb sb gb M fs ss wb Wk bg) {i g : Nat} (hb : Below w.heap.size w w1) (hg : w.heap.size ≤ g) (hC : CmAt w1 g ⟨i, 0, 0⟩) : SW W0 (w1.setCell ⟨fb, i, none⟩ (frv (.com g 0 0))) n fb vb sb gb M (fs.set i (.com g 0 0)) ss wb Wk bg := by
  obtain ⟨obj, h⟩ := h
  have h1 := h.ob.fresh (k := (6, i)) hb hg hC
  have e0 : upd obj (6, i) (some (g, box 80 (cmc ⟨i, 0, 0⟩))) (0, 0) = some (fb, box 54 (fs.map frv).toArray) := by rw [upd_far (by simp)]; exact h.o0
  have h2 := h1.store e0 i (frv (.com g 0 0))
  rw [map_set] at h2
  exact ⟨_, { ob := h2, o0 := upd_same, o1 := h.o1, o2 := h.o2, o3 := h.o3, o4 := fun j b' hj hb' => by rw [upd_far (by simp), upd_far (by simp)]; exact h.o4 j b' hj hb', o5 := h.o5, o6 := fun j x hx => frAt_far (frames_set h.o6 (by unfold frAt; exact upd_same) j x hx) (by simp) }⟩
theorem SW.leave (h : SW W0 w n fb vb sb gb M fs ss wb Wk bg) {i g : Nat} (hb : Below w.heap.size w w1) (hg : w.heap.size ≤ g) (hC : GgAt w1 g i 0) : SW W0 (w1.setCell ⟨fb, i, none⟩ (frv (.goi g 0))) n fb vb sb gb M (fs.set i (.goi g 0)) ss wb Wk bg := by
  obtain ⟨obj, h⟩ := h
  have h1 := h.ob.fresh (k := (6, i)) hb hg hC
  have e0 : upd obj (6, i) (some (g, box 85 #[.int .i64 i, .int .i64 (0 : Nat)])) (0, 0) = some (fb, box 54 (fs.map frv).toArray) := by rw [upd_far (by simp)]; exact h.o0
  have h2 := h1.store e0 i (frv (.goi g 0))
  rw [map_set] at h2
  exact ⟨_, { ob := h2, o0 := upd_same, o1 := h.o1, o2 := h.o2, o3 := h.o3, o4 := fun j b' hj hb' => by rw [upd_far (by simp), upd_far (by simp)]; exact h.o4 j b' hj hb', o5 := h.o5, o6 := fun j x hx => frAt_far (frames_set h.o6 (by unfold frAt; exact upd_same) j x hx) (by simp) }⟩
theorem SW.nilF (h : SW W0 w n fb vb sb gb M fs ss wb Wk bg) (i : Nat) : SW W0 (w.setCell ⟨fb, i, none⟩ .nilIface) n fb vb sb gb M (fs.set i .nil) ss wb Wk bg := by
  obtain ⟨obj, h⟩ := h
  have h2 := h.ob.store h.o0 i (frv .nil)
  rw [map_set] at h2
  refine ⟨_, { ob := h2, o0 := upd_same, o1 := h.o1, o2 := h.o2, o3 := h.o3, o4 := fun j b' hj hb' => by rw [upd_far (by simp)]; exact h.o4 j b' hj hb', o5 := h.o5, o6 := fun j x hx => frAt_far ?_ (by simp) }⟩
  rw [List.getElem?_set] at hx
  split at hx
  · split at hx
    · injection hx with hx; subst hx; trivial
    · simp at hx
  · exact h.o6 j x hx
theorem SW.bump (h : SW W0 w n fb vb sb gb M fs ss wb Wk bg) (i v : Nat) : SW W0 (w.setCell ⟨sb, i, none⟩ (.int .i64 v)) n fb vb sb gb M fs (ss.set i v) wb Wk bg := by
  obtain ⟨obj, h⟩ := h
  have h2 := h.ob.store h.o2 i (iv v)
  rw [map_set] at h2
  exact ⟨_, { ob := h2, o0 := h.o0, o1 := h.o1, o2 := upd_same, o3 := h.o3, o4 := fun j b' hj hb' => by rw [upd_far (by simp)]; exact h.o4 j b' hj hb', o5 := h.o5, o6 := fun j x hx => frAt_far (h.o6 j x hx) (by simp) }⟩
theorem SW.begin (h : SW W0 w n fb vb sb gb M fs ss wb Wk bg) {k g : Nat} (hk : k < 2) {l : List Nat} (hb : Below w.heap.size w w1) (hg : w.heap.size ≤ g) (hC : Blk w1 g 3 (l.map iv).toArray) :
    SW W0 (w1.setCell ⟨gb, k, none⟩ (.slice (some ⟨g, 0, none⟩) n n)) n fb vb sb gb M fs ss wb Wk (upd bg k (some (g, l))) := by
  obtain ⟨obj, h⟩ := h
  have h1 := h.ob.fresh (k := (5, k)) hb hg (o := ints l) hC
  have e0 : upd obj (5, k) (some (g, ints l)) (3, 0) = some (gb, box 51 #[bv n (bg 0), bv n (bg 1)]) := by rw [upd_far (by simp)]; exact h.o3
  have h2 := h1.store e0 k (bv n (some (g, l)))
  rw [two_upd (bv n) bg hk] at h2
  refine ⟨_, { ob := h2, o0 := h.o0, o1 := h.o1, o2 := h.o2, o3 := upd_same, o4 := fun j b' hj hb' => by rw [upd_far (by simp), upd_far (by simp)]; exact h.o4 j b' hj hb', o5 := fun j b' l' hj hb' => ?_, o6 := fun j x hx => frAt_far (frAt_far (h.o6 j x hx) (by simp)) (by simp) }⟩
  rw [upd_far (by simp)]
  by_cases e : j = k
  · subst e
    rw [upd_same] at hb' ⊢
    injection hb' with hb'
    injection hb' with q1 q2
    subst q1; subst q2
    rfl
  · rw [upd_far e] at hb'
    rw [upd_far (by simpa using e)]
    exact h.o5 j b' l' hj hb'
theorem SW.mark (h : SW W0 w n fb vb sb gb M fs ss wb Wk bg) {k b : Nat} (hk : k < 2) {l : List Nat} (hb : bg k = some (b, l)) (i v : Nat) :
    SW W0 (w.setCell ⟨b, i, none⟩ (.int .i64 v)) n fb vb sb gb M fs ss wb Wk (upd bg k (some (b, l.set i v))) := by
  obtain ⟨obj, h⟩ := h
  have h2 := h.ob.store (h.o5 k b l hk hb) i (iv v)
  rw [map_set] at h2
  refine ⟨_, { ob := h2, o0 := h.o0, o1 := h.o1, o2 := h.o2, o3 := ?_, o4 := fun j b' hj hb' => by rw [upd_far (by simp)]; exact h.o4 j b' hj hb', o5 := fun j b' l' hj hb' => ?_, o6 := fun j x hx => frAt_far (h.o6 j x hx) (by simp) }⟩
  · rw [upd_far (by simp), h.o3]
    have : ∀ j, bv n (upd bg k (some (b, l.set i v)) j) = bv n (bg j) := fun j => by
      by_cases e : j = k
      · subst e; rw [upd_same, hb]; rfl
      · rw [upd_far e]
    rw [this, this]
  · by_cases e : j = k
    · subst e
      rw [upd_same] at hb' ⊢
      injection hb' with hb'
      injection hb' with q1 q2
      subst q1; subst q2
      rfl
    · rw [upd_far e] at hb'
      rw [upd_far (by simpa using e)]
      exact h.o5 j b' l' hj hb'
theorem SW.again (h : SW W0 w n fb vb sb gb M fs ss wb Wk bg) {k g : Nat} (hk : k < 2) {W' : Wt} (hb : Below w.heap.size w w1) (hg : w.heap.size ≤ g) (hC : WtAt w1 g W') :
    SW W0 ((w1.setCell ⟨vb, k, none⟩ (.iface 63 (ptr g))).setCell ⟨gb, k, none⟩ (.slice none 0 0)) n fb vb sb gb M fs ss (upd wb k (some g)) (upd Wk k W') (upd bg k none) := by
  obtain ⟨obj, h⟩ := h
  have h1 := h.ob.fresh (k := (4, k)) hb hg hC
  have e0 : upd obj (4, k) (some (g, box 100 (wtc W'))) (1, 0) = some (vb, box 54 #[wv (wb 0), wv (wb 1)]) := by rw [upd_far (by simp)]; exact h.o1
  have h2 := h1.store e0 k (wv (some g))
  rw [two_upd wv wb hk] at h2
  have e1 : upd (upd obj (4, k) (some (g, box 100 (wtc W')))) (1, 0) (some (vb, box 54 #[wv (upd wb k (some g) 0), wv (upd wb k (some g) 1)])) (3, 0) = some (gb, box 51 #[bv n (bg 0), bv n (bg 1)]) := by
    rw [upd_far (by simp), upd_far (by simp)]; exact h.o3
  have h3 := h2.store e1 k (bv n none)
  rw [two_upd (bv n) bg hk] at h3
  refine ⟨_, { ob := h3, o0 := h.o0, o1 := by rw [upd_far (by simp)]; exact upd_same, o2 := h.o2, o3 := upd_same, o4 := fun j b' hj hb' => ?_, o5 := fun j b' l' hj hb' => ?_, o6 := fun j x hx => frAt_far (frAt_far (frAt_far (h.o6 j x hx) (by simp)) (by simp)) (by simp) }⟩
  · rw [upd_far (by simp), upd_far (by simp)]
    by_cases e : j = k
    · subst e
      rw [upd_same] at hb' ⊢
      injection hb' with hb'
      subst hb'
      rw [upd_same]
    · rw [upd_far e] at hb'
      rw [upd_far (by simpa using e), upd_far e]
      exact h.o4 j b' hj hb'
  · rw [upd_far (by simp), upd_far (by simp), upd_far (by simp)]
    by_cases e : j = k
    · subst e
      rw [upd_same] at hb'
      simp at hb'
    · rw [upd_far e] at hb'
      exact h.o5 j b' l' hj hb'
theorem SW.nilW (h : SW W0 w n fb vb sb gb M fs ss wb Wk bg) {k : Nat} (hk : k < 2) : SW W0 (w.setCell ⟨vb, k, none⟩ .nilIface) n fb vb sb gb M fs ss (upd wb k none) Wk bg := by
  obtain ⟨obj, h⟩ := h
  have h2 := h.ob.store h.o1 k (wv none)
  rw [two_upd wv wb hk] at h2
  refine ⟨_, { ob := h2, o0 := h.o0, o1 := upd_same, o2 := h.o2, o3 := h.o3, o4 := fun j b' hj hb' => ?_, o5 := h.o5, o6 := fun j x hx => frAt_far (h.o6 j x hx) (by simp) }⟩
  rw [upd_far (by simp)]
  by_cases e : j = k
  · subst e
    rw [upd_same] at hb'
    simp at hb'
  · rw [upd_far e] at hb'
    exact h.o4 j b' hj hb'
end
end Go.Proofs.Ytnmneofmflkilaa.LawSix
