/- RetireWaits: the law's own rows and frames, and the drain, beside the memory. -/
import Derived.Test.YtnmneofmflkilaaRwMath
import Derived.Test.YtnmneofmflkilaaWaitSt
namespace Go.Proofs.Ytnmneofmflkilaa.LawSeven
open Go Go.RowKit Hp K Fl Rw Hm Ar Mm Me Qs Ob Re LawSix
set_option maxRecDepth 100000

def bvR (n : Nat) : Option (Nat × List Nat) → Value
  | none => .slice none 0 0
  | some (b, _) => .slice (some ⟨b, 0, none⟩) n n
section
variable {κ : Type} [DecidableEq κ] {W0 w w' : World} {M M' : Mo} {obj : κ → Option Thing} {S : Nat → Prop}
omit [DecidableEq κ] in
/-- What touches no thing. -/
theorem objs_only (h : Objs W0 w M obj) (hM : MemAt w' M') (ho : Only S w w') (hS : ∀ k o, obj k = some o → ¬ S o.1) (hl : ∀ x, S x → W0.heap.size ≤ x) (hf : ∀ x, mfoot M' x → mfoot M x ∨ w.heap.size ≤ x) : Objs W0 w' M' obj :=
  ⟨hM, fun k b o hk => (ho.block b (h.lt hk) (hS k _ hk)).trans (h.at_ k b o hk), h.inj, fun k o hk hx => by
    rcases hf _ hx with q | q
    · exact h.far k o hk q
    · have := h.lt hk; omega, h.low, fun x hx => by
    rcases hf x hx with q | q
    · exact h.lom x q
    · have := h.below.size; omega, h.below.trans (ho.toBelow h.below.size (fun x hx q => by have := hl x q; omega))⟩
end
structure SR (W0 w : World) (n fb sb : Nat) (M : Mo) (fs : List Fr) (st : List Nat) (D : Dr) (bg : Option (Nat × List Nat)) (obj : Nat × Nat → Option Thing) : Prop where
  ob : Objs W0 w M obj
  o0 : obj (0, 0) = some (fb, box 54 (fs.map frv).toArray)
  o2 : obj (2, 0) = some (sb, ints st)
  o5 : ∀ b l, bg = some (b, l) → obj (5, 0) = some (b, ints l)
  o6 : ∀ i x, fs[i]? = some x → frAt obj i x
  dr : DrAt w D
  dfar : ∀ k o, obj k = some o → ¬ dfoot D o.1
  dlow : ∀ x, dfoot D x → W0.heap.size ≤ x
  dap : ∀ x, dfoot D x → ¬ mfoot M x
def SQ (W0 w : World) (n fb sb : Nat) (M : Mo) (fs : List Fr) (st : List Nat) (D : Dr) (bg : Option (Nat × List Nat)) : Prop := ∃ obj, SR W0 w n fb sb M fs st D bg obj

section
variable {W0 w w' w1 : World} {n fb sb : Nat} {M M' : Mo} {fs : List Fr} {st : List Nat} {D : Dr} {bg : Option (Nat × List Nat)}
theorem SQ.down (h : SQ W0 w n fb sb M fs st D bg) (hb : Below w.heap.size w w') : SQ W0 w' n fb sb M fs st D bg := by
  obtain ⟨obj, h⟩ := h
  exact ⟨obj, { h with ob := h.ob.down hb, dr := h.dr.below hb }⟩
theorem SQ.drewN (h : SQ W0 w n fb sb M fs st D bg) (q : Nat) : SQ W0 (w.drewN q) n fb sb M fs st D bg := h.down ⟨rfl, rfl, rfl, Nat.le_refl _, fun _ _ => rfl⟩
theorem SQ.mem (h : SQ W0 w n fb sb M fs st D bg) : MemAt w M := by obtain ⟨obj, h⟩ := h; exact h.ob.mem
theorem SQ.below (h : SQ W0 w n fb sb M fs st D bg) : Below W0.heap.size W0 w := by obtain ⟨obj, h⟩ := h; exact h.ob.below
theorem SQ.drain (h : SQ W0 w n fb sb M fs st D bg) : DrAt w D := by obtain ⟨obj, h⟩ := h; exact h.dr
theorem SQ.apart (h : SQ W0 w n fb sb M fs st D bg) (hl : D.left ≠ []) : ∀ y, In D.A y → ¬ mfoot M y := by obtain ⟨obj, h⟩ := h; exact fun y hy => h.dap y (.inr (.inr ⟨hl, hy⟩))
theorem SQ.com (h : SQ W0 w n fb sb M fs st D bg) {i b a : Nat} {p : Int} (hx : fs[i]? = some (.com b a p)) : CmAt w b ⟨i, a, p⟩ := by obtain ⟨obj, h⟩ := h; exact h.ob.blk (h.o6 i _ hx)
theorem SQ.goi (h : SQ W0 w n fb sb M fs st D bg) {i b a : Nat} (hx : fs[i]? = some (.goi b a)) : GgAt w b i a := by obtain ⟨obj, h⟩ := h; exact h.ob.blk (h.o6 i _ hx)
/-- The drain beside the memory, without the law's things. -/
theorem SQ.seven (h : SQ W0 w n fb sb M fs st D bg) : S7 W0 w M D := by
  obtain ⟨obj, h⟩ := h
  exact ⟨h.ob.mem, h.dr, h.ob.below, h.ob.lom, h.dlow, fun hl y hy => h.dap y (.inr (.inr ⟨hl, hy⟩))⟩
/-! ### what is read -/
theorem SQ.rf (h : SQ W0 w n fb sb M fs st D bg) {i : Nat} {x : Fr} (hx : fs[i]? = some x) : w.cell? ⟨fb, i, none⟩ = some (frv x) ∧ w.frozen? ⟨fb, i, none⟩ = false := by
  obtain ⟨obj, h⟩ := h
  have hb := h.ob.blk h.o0
  refine ⟨?_, hb.frozen i⟩
  rw [hb.cell, List.getElem?_toArray, List.getElem?_map, hx]
  rfl
theorem SQ.rs (h : SQ W0 w n fb sb M fs st D bg) {i : Nat} (hi : i < st.length) : w.cell? ⟨sb, i, none⟩ = some (.int .i64 (Hm.nth st i : Nat)) ∧ w.frozen? ⟨sb, i, none⟩ = false := by
  obtain ⟨obj, h⟩ := h
  have hb := h.ob.blk h.o2
  exact ⟨by rw [hb.cell]; exact iv_at st hi, hb.frozen i⟩
theorem SQ.rb (h : SQ W0 w n fb sb M fs st D bg) {b : Nat} {l : List Nat} (hb : bg = some (b, l)) {i : Nat} (hi : i < l.length) : w.cell? ⟨b, i, none⟩ = some (.int .i64 (Hm.nth l i : Nat)) ∧ w.frozen? ⟨b, i, none⟩ = false := by
  obtain ⟨obj, h⟩ := h
  have hb := h.ob.blk (h.o5 b l hb)
  exact ⟨by rw [hb.cell]; exact iv_at l hi, hb.frozen i⟩
theorem SQ.lts (h : SQ W0 w n fb sb M fs st D bg) : fb < w.heap.size ∧ sb < w.heap.size ∧ M.m < w.heap.size ∧ D.f < w.heap.size := by
  obtain ⟨obj, h⟩ := h
  exact ⟨h.ob.lt h.o0, h.ob.lt h.o2, h.ob.mem.1.lt, h.dr.blk.lt⟩
/-! ### what is turned -/
theorem SQ.memory (h : SQ W0 w n fb sb M fs st D bg) (hM : MemAt w' M') (ho : Only (mfoot M) w w') (hf : ∀ x, mfoot M' x → mfoot M x ∨ w.heap.size ≤ x) : SQ W0 w' n fb sb M' fs st D bg := by
  obtain ⟨obj, h⟩ := h
  refine ⟨obj, { h with ob := h.ob.memory hM ho hf, dr := h.dr.only ho h.dap, dap := fun x hx q => ?_ }⟩
  rcases hf x q with q | q
  · exact h.dap x hx q
  · have := h.dr.lt hx; omega
theorem SQ.alloc (h : SQ W0 w n fb sb M fs st D bg) {ss' : List Sl} {F' : Bool} (hA : ArenaAt w' M.ar M.sb M.fb ss' F') (ho : Only (afoot M.ar M.sb M.fb) w w') : SQ W0 w' n fb sb { M with ss := ss', F := F' } fs st D bg :=
  h.memory (h.mem.arena hA ho) (ho.mono (fun _ _ q => foot_arena _ q)) (fun _ q => .inl q)
theorem SQ.put (h : SQ W0 w n fb sb M fs st D bg) {x : Nat} (hp : Put w M x w') : ∃ V' capV', SQ W0 w' n fb sb { M with V := V', capV := capV', ws := M.ws ++ [x] } fs st D bg := by
  obtain ⟨V', capV', hM, ho, hV⟩ := hp
  refine ⟨V', capV', h.memory hM (ho.mono (fun x _ q => ?_)) (fun x q => ?_)⟩
  · rcases q with q | q
    · exact .inl q
    · exact .inr (.inr (.inr (.inr (.inr q))))
  · rcases q with q | q | q | q | q | q
    · exact .inl (.inl q)
    · exact .inl (.inr (.inl q))
    · exact .inl (.inr (.inr (.inl q)))
    · exact .inl (.inr (.inr (.inr (.inl q))))
    · exact .inl (.inr (.inr (.inr (.inr (.inl q)))))
    · rcases hV x q with q | q
      · exact .inl (.inr (.inr (.inr (.inr (.inr q)))))
      · exact .inr q
/-- The drain took a step. -/
theorem SQ.stepped (h : SQ W0 w n fb sb M fs st D bg) (hne : D.at_ ≠ 0 → D.left ≠ []) (hM : MemAt w' (dstep n M D).1) (hD : DrAt w' (dstep n M D).2) (ho : Only (sfoot M D) w w') : SQ W0 w' n fb sb (dstep n M D).1 fs st (dstep n M D).2 bg := by
  have h7 := h.seven.stepped hne hM hD ho
  obtain ⟨obj, h⟩ := h
  have hs := dstep_same (n := n) (M := M) (D := D)
  refine ⟨obj, { h with ob := objs_only h.ob hM ho (fun k o hk q => ?_) (fun x q => ?_) (fun x q => .inl (dstep_foot q)), dr := hD, dfar := fun k o hk q => ?_, dlow := h7.lod, dap := h7.far }⟩
  · rcases q with q | q | q
    · exact h.ob.far k o hk q
    · exact h.dfar k o hk (.inl q)
    · exact h.dfar k o hk (.inr (.inl q))
  · rcases q with q | q | q
    · exact h.ob.lom x q
    · exact h.dlow x (.inl q)
    · exact h.dlow x (.inr (.inl q))
  · rcases q with q | q | ⟨hl, q⟩
    · exact h.dfar k o hk (.inl (q.trans hs.2.1))
    · exact h.dfar k o hk (.inr (.inl (q.trans hs.2.2.1)))
    · rcases dstep_in hne hl q with q | q
      · exact h.ob.far k o hk q
      · exact h.dfar k o hk (.inr (.inr q))
theorem SQ.step {B : Nat} (h : SQ W0 w n fb sb M fs st D bg) (hp : Pd n M D B) (hB : B ≤ 1000000) (hrd : dready M D = true) :
    Calls Try.prog 12 #[ptr D.f, ptr M.m] w fun e w' => e = .returned (.bool (decide (D.at_ = 2 ∧ D.left.tail = []))) ∧ SQ W0 w' n fb sb (dstep n M D).1 fs st (dstep n M D).2 bg :=
  (drain_step h.mem h.drain (hp.okd hB h.apart) hrd).mono fun _ _ q => ⟨q.1, h.stepped hp.some q.2.1 q.2.2.1 q.2.2.2⟩
/-- A new drain. -/
theorem SQ.renew (h : SQ W0 w n fb sb M fs st D bg) {f : Nat} {k : Int} (hf : w.heap.size < f) (hD : DrAt w1 ⟨f, w.heap.size, 0, ⟨k, 0, 0, 0⟩, none, 0, []⟩) (hb : Below w.heap.size w w1) :
    SQ W0 w1 n fb sb M fs st ⟨f, w.heap.size, 0, ⟨k, 0, 0, 0⟩, none, 0, []⟩ none := by
  have h7 := s7_new h.mem h.below h.seven.lom hf hD hb
  obtain ⟨obj, h⟩ := h
  refine ⟨obj, { h with ob := h.ob.down hb, dr := hD, o5 := fun b l q => by simp at q, dfar := fun k o hk q => ?_, dlow := h7.lod, dap := h7.far }⟩
  have hlt := h.ob.lt (o := o.2) hk
  rcases q with q | q | ⟨q, _⟩
  · have q : o.1 = f := q
    omega
  · have q : o.1 = w.heap.size := q
    omega
  · exact q rfl
theorem fresh_far {obj : Nat × Nat → Option Thing} (hd : DrAt w D) (h : ∀ k o, obj k = some o → ¬ dfoot D o.1) {k : Nat × Nat} {g : Nat} {o : Obj} (hg : w.heap.size ≤ g) : ∀ k' o', upd obj k (some (g, o)) k' = some o' → ¬ dfoot D o'.1 := fun k' o' hk q => by
  unfold upd at hk
  split at hk
  · injection hk with hk
    subst hk
    have := hd.lt q
    simp only at this
    omega
  · exact h k' o' hk q
theorem same_far {obj : Nat × Nat → Option Thing} (h : ∀ k o, obj k = some o → ¬ dfoot D o.1) {k : Nat × Nat} {b : Nat} {o o1 : Obj} (h1 : obj k = some (b, o1)) : ∀ k' o', upd obj k (some (b, o)) k' = some o' → ¬ dfoot D o'.1 := fun k' o' hk q => by
  unfold upd at hk
  split at hk
  · injection hk with hk
    subst hk
    exact h k (b, o1) h1 q
  · exact h k' o' hk q
theorem SQ.comed (h : SQ W0 w n fb sb M fs st D bg) {i b a a' : Nat} {p p' : Int} (hx : fs[i]? = some (.com b a p)) (hM : MemAt w' M') (hC : CmAt w' b ⟨i, a', p'⟩) (ho : Only (fun x => mfoot M x ∨ x = b) w w') (hfo : mfoot M' = mfoot M) :
    SQ W0 w' n fb sb M' (fs.set i (.com b a' p')) st D bg := by
  obtain ⟨obj, h⟩ := h
  have hi := (List.getElem?_eq_some_iff.1 hx).1
  refine ⟨_, { ob := h.ob.turn (h.o6 i _ hx) hM ho (fun x q => .inl (by rwa [hfo] at q)) hC, o0 := ?_, o2 := h.o2, o5 := fun b l hb => by rw [upd_far (by simp)]; exact h.o5 b l hb, o6 := frames_set h.o6 (by unfold frAt; exact upd_same), dr := h.dr.only ho (fun x hx' q => ?_), dfar := same_far h.dfar (h.o6 i _ hx), dlow := h.dlow, dap := by rw [hfo]; exact h.dap }⟩
  · rw [upd_far (by simp), h.o0]
    have : (fs.set i (.com b a' p')).map frv = fs.map frv := by
      rw [List.map_set]
      apply List.ext_getElem?
      intro j
      rw [List.getElem?_set]
      split
      · rename_i e
        subst e
        rw [List.getElem?_map, hx]
        simp [hi, frv]
      · rfl
    rw [this]
  · rcases q with q | q
    · exact h.dap x hx' q
    · exact h.dfar _ _ (h.o6 i _ hx) (q ▸ hx')
theorem SQ.goned (h : SQ W0 w n fb sb M fs st D bg) {i b a a' : Nat} (hx : fs[i]? = some (.goi b a)) (hM : MemAt w' M') (hC : GgAt w' b i a') (ho : Only (fun x => mfoot M x ∨ x = b) w w') (hfo : mfoot M' = mfoot M) :
    SQ W0 w' n fb sb M' (fs.set i (.goi b a')) st D bg := by
  obtain ⟨obj, h⟩ := h
  have hi := (List.getElem?_eq_some_iff.1 hx).1
  refine ⟨_, { ob := h.ob.turn (h.o6 i _ hx) hM ho (fun x q => .inl (by rwa [hfo] at q)) hC, o0 := ?_, o2 := h.o2, o5 := fun b l hb => by rw [upd_far (by simp)]; exact h.o5 b l hb, o6 := frames_set h.o6 (by unfold frAt; exact upd_same), dr := h.dr.only ho (fun x hx' q => ?_), dfar := same_far h.dfar (h.o6 i _ hx), dlow := h.dlow, dap := by rw [hfo]; exact h.dap }⟩
  · rw [upd_far (by simp), h.o0]
    have : (fs.set i (.goi b a')).map frv = fs.map frv := by
      rw [List.map_set]
      apply List.ext_getElem?
      intro j
      rw [List.getElem?_set]
      split
      · rename_i e
        subst e
        rw [List.getElem?_map, hx]
        simp [hi, frv]
      · rfl
    rw [this]
  · rcases q with q | q
    · exact h.dap x hx' q
    · exact h.dfar _ _ (h.o6 i _ hx) (q ▸ hx')
theorem SQ.enter (h : SQ W0 w n fb sb M fs st D bg) {i g : Nat} (hb : Below w.heap.size w w1) (hg : w.heap.size ≤ g) (hC : CmAt w1 g ⟨i, 0, 0⟩) : SQ W0 (w1.setCell ⟨fb, i, none⟩ (frv (.com g 0 0))) n fb sb M (fs.set i (.com g 0 0)) st D bg := by
  obtain ⟨obj, h⟩ := h
  have h1 := h.ob.fresh (k := (6, i)) hb hg hC
  have e0 : upd obj (6, i) (some (g, box 80 (cmc ⟨i, 0, 0⟩))) (0, 0) = some (fb, box 54 (fs.map frv).toArray) := by rw [upd_far (by simp)]; exact h.o0
  have h2 := h1.store e0 i (frv (.com g 0 0))
  rw [map_set] at h2
  have hfb := h.dfar _ _ h.o0
  exact ⟨_, { ob := h2, o0 := upd_same, o2 := h.o2, o5 := fun b l hb => by rw [upd_far (by simp), upd_far (by simp)]; exact h.o5 b l hb, o6 := fun j x hx => frAt_far (frames_set h.o6 (by unfold frAt; exact upd_same) j x hx) (by simp), dr := (h.dr.below hb).only ((Only.refl (· = fb) w1).setCell (p := ⟨fb, i, none⟩) (.inl rfl) _) (fun x hx q => hfb (q ▸ hx)), dfar := same_far (fresh_far h.dr h.dfar hg) e0, dlow := h.dlow, dap := h.dap }⟩
theorem SQ.leave (h : SQ W0 w n fb sb M fs st D bg) {i g : Nat} (hb : Below w.heap.size w w1) (hg : w.heap.size ≤ g) (hC : GgAt w1 g i 0) : SQ W0 (w1.setCell ⟨fb, i, none⟩ (frv (.goi g 0))) n fb sb M (fs.set i (.goi g 0)) st D bg := by
  obtain ⟨obj, h⟩ := h
  have h1 := h.ob.fresh (k := (6, i)) hb hg hC
  have e0 : upd obj (6, i) (some (g, box 85 #[.int .i64 i, .int .i64 (0 : Nat)])) (0, 0) = some (fb, box 54 (fs.map frv).toArray) := by rw [upd_far (by simp)]; exact h.o0
  have h2 := h1.store e0 i (frv (.goi g 0))
  rw [map_set] at h2
  have hfb := h.dfar _ _ h.o0
  exact ⟨_, { ob := h2, o0 := upd_same, o2 := h.o2, o5 := fun b l hb => by rw [upd_far (by simp), upd_far (by simp)]; exact h.o5 b l hb, o6 := fun j x hx => frAt_far (frames_set h.o6 (by unfold frAt; exact upd_same) j x hx) (by simp), dr := (h.dr.below hb).only ((Only.refl (· = fb) w1).setCell (p := ⟨fb, i, none⟩) (.inl rfl) _) (fun x hx q => hfb (q ▸ hx)), dfar := same_far (fresh_far h.dr h.dfar hg) e0, dlow := h.dlow, dap := h.dap }⟩
theorem SQ.nilF (h : SQ W0 w n fb sb M fs st D bg) (i : Nat) : SQ W0 (w.setCell ⟨fb, i, none⟩ .nilIface) n fb sb M (fs.set i .nil) st D bg := by
  obtain ⟨obj, h⟩ := h
  have h2 := h.ob.store h.o0 i (frv .nil)
  rw [map_set] at h2
  have hfb := h.dfar _ _ h.o0
  refine ⟨_, { ob := h2, o0 := upd_same, o2 := h.o2, o5 := fun b l hb => by rw [upd_far (by simp)]; exact h.o5 b l hb, o6 := fun j x hx => frAt_far ?_ (by simp), dr := h.dr.only ((Only.refl (· = fb) w).setCell (p := ⟨fb, i, none⟩) (.inl rfl) _) (fun x hx q => hfb (q ▸ hx)), dfar := same_far h.dfar h.o0, dlow := h.dlow, dap := h.dap }⟩
  rw [List.getElem?_set] at hx
  split at hx
  · split at hx
    · injection hx with hx; subst hx; trivial
    · simp at hx
  · exact h.o6 j x hx
theorem SQ.bump (h : SQ W0 w n fb sb M fs st D bg) (i v : Nat) : SQ W0 (w.setCell ⟨sb, i, none⟩ (.int .i64 v)) n fb sb M fs (st.set i v) D bg := by
  obtain ⟨obj, h⟩ := h
  have h2 := h.ob.store h.o2 i (iv v)
  rw [map_set] at h2
  have hfb := h.dfar _ _ h.o2
  exact ⟨_, { ob := h2, o0 := h.o0, o2 := upd_same, o5 := fun b l hb => by rw [upd_far (by simp)]; exact h.o5 b l hb, o6 := fun j x hx => frAt_far (h.o6 j x hx) (by simp), dr := h.dr.only ((Only.refl (· = sb) w).setCell (p := ⟨sb, i, none⟩) (.inl rfl) _) (fun x hx q => hfb (q ▸ hx)), dfar := same_far h.dfar h.o2, dlow := h.dlow, dap := h.dap }⟩
theorem SQ.begin (h : SQ W0 w n fb sb M fs st D bg) {g : Nat} {l : List Nat} (hb : Below w.heap.size w w1) (hg : w.heap.size ≤ g) (hC : Blk w1 g 3 (l.map iv).toArray) : SQ W0 w1 n fb sb M fs st D (some (g, l)) := by
  obtain ⟨obj, h⟩ := h
  have h1 := h.ob.fresh (k := (5, 0)) hb hg (o := ints l) hC
  refine ⟨_, { ob := h1, o0 := h.o0, o2 := h.o2, o5 := fun b' l' hb' => ?_, o6 := fun j x hx => frAt_far (h.o6 j x hx) (by simp), dr := h.dr.below hb, dfar := fresh_far h.dr h.dfar hg, dlow := h.dlow, dap := h.dap }⟩
  injection hb' with hb'
  injection hb' with q1 q2
  subst q1; subst q2
  exact upd_same
theorem SQ.mark (h : SQ W0 w n fb sb M fs st D bg) {b : Nat} {l : List Nat} (hb : bg = some (b, l)) (i v : Nat) : SQ W0 (w.setCell ⟨b, i, none⟩ (.int .i64 v)) n fb sb M fs st D (some (b, l.set i v)) := by
  obtain ⟨obj, h⟩ := h
  have h2 := h.ob.store (h.o5 b l hb) i (iv v)
  rw [map_set] at h2
  have hfb := h.dfar _ _ (h.o5 b l hb)
  refine ⟨_, { ob := h2, o0 := h.o0, o2 := h.o2, o5 := fun b' l' hb' => ?_, o6 := fun j x hx => frAt_far (h.o6 j x hx) (by simp), dr := h.dr.only ((Only.refl (· = b) w).setCell (p := ⟨b, i, none⟩) (.inl rfl) _) (fun x hx q => hfb (q ▸ hx)), dfar := same_far h.dfar (h.o5 b l hb), dlow := h.dlow, dap := h.dap }⟩
  injection hb' with hb'
  injection hb' with q1 q2
  subst q1; subst q2
  exact upd_same
end
end Go.Proofs.Ytnmneofmflkilaa.LawSeven
