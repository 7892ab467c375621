/- QsbrSteps: the document's waiter; the law's state. -/
import Derived.Test.YtfgdkhodicibcaaLawSixA
import Derived.Test.YtfgdkhodicibcaaBytes
import Derived.Deep.DeepCutAuto
import Derived.Deep.CutBlock
namespace Go.Proofs.Ytfgdkhodicibcaa.LawSix
open Go Go.RowKit Hp K Fl Rw Hm Ar Mm Me LK Qs
set_option maxRecDepth 100000

/-- The document's answer. -/
def docB (a p : Nat) (r : Int) (xs : List Int) (h : Int) : Bool := if a = 0 then decide (h < 0) else if a = 2 then decide (Cl.nth xs (2 + p) = 0 ∨ r ≤ Cl.nth xs (2 + p)) else true
theorem docB_eq {n : Nat} {xs hs : List Int} {W : Wt} (hk : W.worker = 0) (hh : ∀ x ∈ hs, -1 ≤ x ∧ x ≤ 9223372036854775807) : docB W.at_ W.passed W.period xs (Lo.hol hs 0) = readyB xs hs W := by
  unfold docB readyB takeB passB
  by_cases h0 : W.at_ = 0
  · rw [if_pos h0, if_pos h0]
    have := Lo.hol_bd hh 0
    apply Bool.eq_iff_iff.2
    simp
    omega
  · rw [if_neg h0, if_neg h0]
theorem refready {w : World} {cb : Nat} {xs : List Int} (hC : Blk w cb 27 (Cl.vals xs).toArray) (a p : Nat) (r h : Int) (hp : a = 2 → 2 + p < xs.length) (hx : xs.length ≤ 1048576) (hpb : p ≤ 1000) :
    Calls Try.prog 8 #[.agg #[.int .i64 a, .int .i64 p, .int .u64 r], .slice (some ⟨cb, 0, none⟩) xs.length xs.length, .int .i64 h] w fun e w' => e = .returned (.bool (docB a p r xs h)) ∧ Below w.heap.size w w' := by
  have hlt := hC.lt
  unfold docB
  by_cases h0 : a = 0
  · subst h0
    rw [if_pos rfl]
    clear hC hp
    go_enter Try.func8, Try.ntmps8
    go_wp2_with fail
    go_ret
    exact ⟨rfl, (Below.refl _ _).alloc (Nat.le_refl _) _⟩
  · rw [if_neg h0]
    have e0 : ((a : Int) == 0) = false := by rw [beq_eq_false_iff_ne]; omega
    by_cases h2 : a = 2
    · subst h2
      rw [if_pos rfl]
      have hc : w.cell? ⟨cb, 2 + p, none⟩ = some (.int .u64 (Cl.nth xs (2 + p))) := by
        rw [hC.cell, List.getElem?_toArray]
        exact Cl.vals_at xs (2 + p) (hp rfl)
      have hp' := hp rfl
      have i0 : (0 : Int) ≤ 2 + (p : Int) := by omega
      have i1 : 2 + (p : Int) < (xs.length : Int) := by omega
      have i2 : (2 + (p : Int)).toNat = 2 + p := by omega
      generalize Cl.nth xs (2 + p) = z at *
      clear hC hp e0 h0
      by_cases hz : z = 0
      · subst hz
        go_enter Try.func8, Try.ntmps8
        go_wp2_with fail
        go_ret
        exact ⟨rfl, (Below.refl _ _).alloc (Nat.le_refl _) _⟩
      · have hz' : (z == 0) = false := by simpa using hz
        go_enter Try.func8, Try.ntmps8
        go_wp2_with fail
        go_ret
        exact ⟨K.ret_bool (by simp [hz]), (Below.refl _ _).alloc (Nat.le_refl _) _⟩
    · rw [if_neg h2]
      have e2 : ((a : Int) == 2) = false := by rw [beq_eq_false_iff_ne]; omega
      clear hC hp h0 h2
      go_enter Try.func8, Try.ntmps8
      go_wp2_with fail
      go_ret
      exact ⟨rfl, (Below.refl _ _).alloc (Nat.le_refl _) _⟩

def dcs (a p : Nat) (r : Int) : Array Value := #[.int .i64 a, .int .i64 p, .int .u64 r]
/-- The law's state: xs, a, p, r are the document's cells and waiter. -/
structure St (W0 w : World) (s cb q n : Nat) (M : Mo) (W : Wt) (xs : List Int) (a p : Nat) (r : Int) : Prop where
  mem : MemAt w M
  k : M.k = n
  wt : WtAt w s W
  wk : W.worker = 0
  len : M.xs.length = n + 3
  lenx : xs.length = n + 3
  cells : Blk w cb 27 (Cl.vals xs).toArray
  doc : Blk w q 31 (dcs a p r)
  below : Below W0.heap.size W0 w
  lo : ∀ x, mfoot M x → W0.heap.size ≤ x
  los : W0.heap.size ≤ s ∧ W0.heap.size ≤ cb ∧ W0.heap.size ≤ q
  cbm : ¬ mfoot M cb
section
variable {W0 w w' : World} {s cb q n : Nat} {M : Mo} {W : Wt} {xs : List Int} {a p : Nat} {r : Int}
theorem St.down (h : St W0 w s cb q n M W xs a p r) (hb : Below w.heap.size w w') : St W0 w' s cb q n M W xs a p r :=
  have ho := Only.ofBelow hb (fun _ => False)
  ⟨h.mem.below hb, h.k, h.wt.only ho (by simp), h.wk, h.len, h.lenx, h.cells.only ho (by simp), h.doc.only ho (by simp), h.below.trans (hb.mono h.below.size), h.lo, h.los, h.cbm⟩
theorem St.sq (h : St W0 w s cb q n M W xs a p r) : s ≠ cb ∧ s ≠ q ∧ cb ≠ q ∧ ¬ mfoot M q ∧ ¬ mfoot M s :=
  ⟨h.wt.differ h.cells (by decide), h.wt.differ h.doc (by decide), h.cells.differ h.doc (by decide), fun hx => (h.mem.ty hx).apart (blk_ty h.doc) (by decide), h.wt.far h.mem⟩
/-- The memory and the wait turned. -/
theorem St.stepped {M' : Mo} {W' : Wt} (h : St W0 w s cb q n M W xs a p r) (hM : MemAt w' M') (hW : WtAt w' s W') (ho : Only (fun x => mfoot M x ∨ x = s) w w') (hfo : mfoot M' = mfoot M) (hk : M'.k = M.k) (hwk : W'.worker = W.worker) (hlen : M'.xs.length = M.xs.length) :
    St W0 w' s cb q n M' W' xs a p r := by
  obtain ⟨h1, h2, h3, h4, h5⟩ := h.sq
  refine ⟨hM, hk.trans h.k, hW, hwk.trans h.wk, hlen.trans h.len, h.lenx, h.cells.only ho ?_, h.doc.only ho ?_, h.below.trans (ho.toBelow h.below.size (fun x hx q => ?_)), by rw [hfo]; exact h.lo, h.los, by rw [hfo]; exact h.cbm⟩
  · rintro (q | q)
    · exact h.cbm q
    · exact h1 q.symm
  · rintro (q | q)
    · exact h4 q
    · exact h2 q.symm
  · rcases q with q | q
    · have := h.lo x q; omega
    · have := h.los.1; omega
theorem St.putC (h : St W0 w s cb q n M W xs a p r) (k : Nat) (hk : k < n + 3) (v : Int) : St W0 (w.setCell ⟨cb, k, none⟩ (.int .u64 v)) s cb q n M W (xs.set k v) a p r := by
  obtain ⟨h1, h2, h3, h4, h5⟩ := h.sq
  have ho := (Only.refl (· = cb) w).setCell (p := ⟨cb, k, none⟩) (.inl rfl) (.int .u64 v)
  have e : Cl.vals (xs.set k v) = (Cl.vals xs).set k (.int .u64 v) := by simp [Cl.vals, List.map_set]
  refine ⟨h.mem.only ho (fun x hx e => h.cbm (e ▸ hx)), h.k, h.wt.only ho h1, h.wk, h.len, by simpa using h.lenx, ?_, h.doc.only ho (fun e => h3 e.symm), h.below.trans (ho.toBelow h.below.size (fun x hx e => by have := h.los.2.1; omega)), h.lo, h.los, h.cbm⟩
  rw [e]
  simpa using h.cells.store k (.int .u64 v)
theorem St.putD {a' p' : Nat} {r' : Int} (h : St W0 w s cb q n M W xs a p r) (i : Nat) (v : Value) (e : (dcs a p r).setIfInBounds i v = dcs a' p' r') : St W0 (w.setCell ⟨q, i, none⟩ v) s cb q n M W xs a' p' r' := by
  obtain ⟨h1, h2, h3, h4, h5⟩ := h.sq
  have ho := (Only.refl (· = q) w).setCell (p := ⟨q, i, none⟩) (.inl rfl) v
  refine ⟨h.mem.only ho (fun x hx e => h4 (e ▸ hx)), h.k, h.wt.only ho h2, h.wk, h.len, h.lenx, h.cells.only ho h3, by rw [← e]; exact h.doc.store i v, h.below.trans (ho.toBelow h.below.size (fun x hx e => by have := h.los.2.2; omega)), h.lo, h.los, h.cbm⟩
theorem St.cell (h : St W0 w s cb q n M W xs a p r) (k : Nat) (hk : k < n + 3) : w.cell? ⟨cb, k, none⟩ = some (.int .u64 (Cl.nth xs k)) := by
  rw [h.cells.cell, List.getElem?_toArray]
  exact Cl.vals_at xs k (by rw [h.lenx]; exact hk)
theorem St.hd (h : St W0 w s cb q n M W xs a p r) : w.cell? ⟨q, 0, none⟩ = some (.int .i64 a) ∧ w.cell? ⟨q, 1, none⟩ = some (.int .i64 p) ∧ w.cell? ⟨q, 2, none⟩ = some (.int .u64 r) := ⟨h.doc.cell 0, h.doc.cell 1, h.doc.cell 2⟩
end
end Go.Proofs.Ytfgdkhodicibcaa.LawSix
