/- How the state of the great statement of layer 5 stands when one row of the document's memory turns. -/
import Derived.Test.YtgagemejcdbgcaaFiveK
namespace Go.Proofs.Ytgagemejcdbgcaa.LawFive
open Go Go.RowKit Go.WideShapes Go.ChangeShapes Hp K Fl Rw Hm Ar Mm Me LK Dc Rn
set_option maxRecDepth 100000

section
variable {W w w1 : World} {M : Mo} {D : Do} {nb : Nat} {H : Option Addr} {capH : Nat} {hs : List Nat}
/-- What stays known while rows of the document's turn: the others stay. -/
theorem only_nb (v : Value) (j : Nat) {S : Nat → Prop} (ho : Only S w w1) : Only (fun x => x = nb ∨ S x) w (w1.setCell ⟨nb, j, none⟩ v) :=
  (ho.mono (fun _ _ q => .inr q)).setCell (p := ⟨nb, j, none⟩) (.inl (.inl rfl)) v
/-- The row of C turned, and where it lies written down. -/
theorem St.setC (h : St W w M D nb H capH hs) {A : Option Addr} {cap : Nat} {l : List Int} (hR : Row w1 43 1 w64 A cap l) (ho : Only (In D.C) w w1) (hA : ∀ x, In A x → In D.C x ∨ w.heap.size ≤ x) :
    St W (w1.setCell ⟨nb, 0, none⟩ (.slice A l.length cap)) M { D with C := A, capC := cap, xs := l } nb H capH hs := by
  have hb1 := h.box.only ho (fun q => h.dn (.inl q))
  have ho2 := (Only.refl (· = nb) w1).setCell (p := ⟨nb, 0, none⟩) (.inl rfl) (.slice A l.length cap)
  have hall := only_nb (nb := nb) (.slice A l.length cap) 0 ho
  refine h.document ⟨hR.only ho2 (fun x hx e => by subst e; exact (row_ty hR hx).apart (blk_ty hb1) (by decide)), h.doc.2.1.only hall (fun x hx q => by
      rcases q with q | q
      · subst q; exact h.dn (.inr (.inl hx))
      · exact (row_ty h.doc.2.1 hx).apart (row_ty h.doc.1 q) (by decide)), h.doc.2.2.1.only hall (fun x hx q => by
      rcases q with q | q
      · subst q; exact h.dn (.inr (.inr (.inl hx)))
      · exact h.six 2 1 (by decide) x hx q), h.doc.2.2.2.1.only hall (fun x hx q => by
      rcases q with q | q
      · subst q; exact h.dn (.inr (.inr (.inr (.inl hx))))
      · exact h.six 3 1 (by decide) x hx q), h.doc.2.2.2.2.only hall (fun x hx q => by
      rcases q with q | q
      · subst q; exact h.dn (.inr (.inr (.inr (.inr hx))))
      · exact h.six 4 1 (by decide) x hx q)⟩ (by simpa [docc] using hb1.store 0 (.slice A l.length cap)) (hall.mono (fun x _ q => ?_)) hA (fun _ h => .inl h) (fun _ h => .inl h) (fun _ h => .inl h) (fun _ h => .inl h) (h.six.set 1 h.lt hA)
  rcases q with q | q
  · exact .inl q
  · exact .inr (.inl q)
/-- The row of V turned, and where it lies written down. -/
theorem St.setV (h : St W w M D nb H capH hs) {A : Option Addr} {cap : Nat} {l : List Nat} (hR : Lst w1 43 A cap l) (ho : Only (In D.V) w w1) (hA : ∀ x, In A x → In D.V x ∨ w.heap.size ≤ x) :
    St W (w1.setCell ⟨nb, 4, none⟩ (.slice A l.length cap)) M { D with V := A, capV := cap, ws := l } nb H capH hs := by
  have hb1 := h.box.only ho (fun q => h.dn (.inr (.inr (.inr (.inr q)))))
  have ho2 := (Only.refl (· = nb) w1).setCell (p := ⟨nb, 4, none⟩) (.inl rfl) (.slice A l.length cap)
  have hall := only_nb (nb := nb) (.slice A l.length cap) 4 ho
  refine h.document ⟨h.doc.1.only hall (fun x hx q => by
      rcases q with q | q
      · subst q; exact h.dn (.inl hx)
      · exact h.six 1 4 (by decide) x hx q), h.doc.2.1.only hall (fun x hx q => by
      rcases q with q | q
      · subst q; exact h.dn (.inr (.inl hx))
      · exact (row_ty h.doc.2.1 hx).apart (h.doc.2.2.2.2.ty q) (by decide)), h.doc.2.2.1.only hall (fun x hx q => by
      rcases q with q | q
      · subst q; exact h.dn (.inr (.inr (.inl hx)))
      · exact h.six 2 4 (by decide) x hx q), h.doc.2.2.2.1.only hall (fun x hx q => by
      rcases q with q | q
      · subst q; exact h.dn (.inr (.inr (.inr (.inl hx))))
      · exact h.six 3 4 (by decide) x hx q), hR.only ho2 (fun x hx e => by subst e; exact (hR.ty hx).apart (blk_ty hb1) (by decide))⟩ (by simpa [docc] using hb1.store 4 (.slice A l.length cap)) (hall.mono (fun x _ q => ?_)) (fun _ h => .inl h) (fun _ h => .inl h) (fun _ h => .inl h) (fun _ h => .inl h) hA (h.six.set 4 h.lt hA)
  rcases q with q | q
  · exact .inl q
  · exact .inr (.inr (.inr (.inr (.inr q))))
/-- A cell of the document's set. -/
theorem St.putC (h : St W w M D nb H capH hs) {b : Nat} (hb : D.C = some ⟨b, 0, none⟩) (k : Nat) (hk : k < D.xs.length) (v : Int) : St W (w.setCell ⟨b, k, none⟩ (.int .u64 v)) M { D with xs := D.xs.set k v } nb H capH hs := by
  have hin : In D.C b := by rw [hb]; rfl
  have ho := (Only.refl (In D.C) w).setCell (p := ⟨b, k, none⟩) (.inl hin) (.int .u64 v)
  have hs := World.ownsRow.stored (hb ▸ h.doc.1) k (.int .u64 v)
  have e1 := flat_set w64_len D.xs k 0 (by omega) (D.xs[k]) v (.int .u64 v) (List.getElem?_eq_getElem hk) rfl
  rw [Nat.mul_one, Nat.add_zero] at e1
  have hR : Row (w.setCell ⟨b, k, none⟩ (.int .u64 v)) 43 1 w64 D.C D.capC (D.xs.set k v) := by
    rw [hb]
    show World.ownsRow _ 0 _ 1 (.slice _ (D.xs.set k v).length D.capC) (D.xs.set k v).length ((D.xs.set k v).flatMap w64)
    rw [e1, List.length_set]
    exact hs.1
  refine h.document ⟨hR, h.doc.2.1.only ho (fun x hx q => (row_ty h.doc.2.1 hx).apart (row_ty h.doc.1 q) (by decide)), h.doc.2.2.1.only ho (fun x hx q => h.six 1 2 (by decide) x q hx), h.doc.2.2.2.1.only ho (fun x hx q => h.six 1 3 (by decide) x q hx), h.doc.2.2.2.2.only ho (fun x hx q => h.six 1 4 (by decide) x q hx)⟩
    (by simpa [docc] using h.box.only ho (fun q => h.dn (.inl q))) (ho.mono (fun x _ q => .inr (.inl q))) (fun _ h => .inl h) (fun _ h => .inl h) (fun _ h => .inl h) (fun _ h => .inl h) (fun _ h => .inl h) h.six
/-- A next of the document's set. -/
theorem St.putX (h : St W w M D nb H capH hs) {b : Nat} (hb : D.X = some ⟨b, 0, none⟩) (k : Nat) (hk : k < D.next.length) (v : Nat) : St W (w.setCell ⟨b, k, none⟩ (.int .u64 v)) M { D with next := D.next.set k v } nb H capH hs := by
  have hin : In D.X b := by rw [hb]; rfl
  have ho := (Only.refl (In D.X) w).setCell (p := ⟨b, k, none⟩) (.inl hin) (.int .u64 v)
  refine h.document ⟨h.doc.1.only ho (fun x hx q => h.six 1 3 (by decide) x hx q), h.doc.2.1.only ho (fun x hx q => (row_ty h.doc.2.1 hx).apart (h.doc.2.2.2.1.ty q) (by decide)), h.doc.2.2.1.only ho (fun x hx q => h.six 2 3 (by decide) x hx q), h.doc.2.2.2.1.store hb k hk v, h.doc.2.2.2.2.only ho (fun x hx q => h.six 4 3 (by decide) x hx q)⟩
    (by simpa [docc] using h.box.only ho (fun q => h.dn (.inr (.inr (.inr (.inl q)))))) (ho.mono (fun x _ q => .inr (.inr (.inr (.inr (.inl q)))))) (fun _ h => .inl h) (fun _ h => .inl h) (fun _ h => .inl h) (fun _ h => .inl h) (fun _ h => .inl h) h.six
/-- The rows of nodes and of their nexts turned, and where they lie written down. -/
theorem St.setNX (h : St W w M D nb H capH hs) {A B : Option Addr} {cap cap' : Nat} {l l' : List Nat} (hR : Lst w1 43 A cap l) (hR' : Lst w1 43 B cap' l') (ho : Only (fun x => In D.N x ∨ In D.X x) w w1)
    (hA : ∀ x, In A x → In D.N x ∨ w.heap.size ≤ x) (hB : ∀ x, In B x → In D.X x ∨ w.heap.size ≤ x) (hAB : ∀ x, In A x → ¬ In B x) :
    St W ((w1.setCell ⟨nb, 2, none⟩ (.slice A l.length cap)).setCell ⟨nb, 3, none⟩ (.slice B l'.length cap')) M { D with N := A, capN := cap, nodes := l, X := B, capX := cap', next := l' } nb H capH hs := by
  have hb1 := h.box.only ho (fun q => by
    rcases q with q | q
    · exact h.dn (.inr (.inr (.inl q)))
    · exact h.dn (.inr (.inr (.inr (.inl q)))))
  have ho2 := ((Only.refl (· = nb) w1).setCell (p := ⟨nb, 2, none⟩) (.inl rfl) (.slice A l.length cap)).setCell (p := ⟨nb, 3, none⟩) (.inl rfl) (.slice B l'.length cap')
  have hall : Only (fun x => x = nb ∨ In D.N x ∨ In D.X x) w ((w1.setCell ⟨nb, 2, none⟩ (.slice A l.length cap)).setCell ⟨nb, 3, none⟩ (.slice B l'.length cap')) := ((ho.mono (fun _ _ q => .inr q)).setCell (p := ⟨nb, 2, none⟩) (.inl (.inl rfl)) _).setCell (p := ⟨nb, 3, none⟩) (.inl (.inl rfl)) _
  have far : ∀ (i : Nat) (x : Nat), i ≠ 2 → i ≠ 3 → In ([M.A, D.C, D.N, D.X, D.V, H].getD i none) x → ¬ (In D.N x ∨ In D.X x) := fun i x h2 h3 hx q => by
    rcases q with q | q
    · exact h.six i 2 h2 x hx q
    · exact h.six i 3 h3 x hx q
  refine h.document ⟨h.doc.1.only hall (fun x hx q => ?_), h.doc.2.1.only hall (fun x hx q => ?_), hR.only ho2 (fun x hx e => by subst e; exact (hR.ty hx).apart (blk_ty hb1) (by decide)), hR'.only ho2 (fun x hx e => by subst e; exact (hR'.ty hx).apart (blk_ty hb1) (by decide)), h.doc.2.2.2.2.only hall (fun x hx q => ?_)⟩
    (by simpa [docc] using (hb1.store 2 (.slice A l.length cap)).store 3 (.slice B l'.length cap')) (hall.mono (fun x _ q => ?_)) (fun _ h => .inl h) (fun _ h => .inl h) hA hB (fun _ h => .inl h) ?_
  · rcases q with q | q
    · subst q; exact h.dn (.inl hx)
    · exact far 1 x (by decide) (by decide) hx q
  · rcases q with q | q | q
    · subst q; exact h.dn (.inr (.inl hx))
    · exact (row_ty h.doc.2.1 hx).apart (h.doc.2.2.1.ty q) (by decide)
    · exact (row_ty h.doc.2.1 hx).apart (h.doc.2.2.2.1.ty q) (by decide)
  · rcases q with q | q
    · subst q; exact h.dn (.inr (.inr (.inr (.inr hx))))
    · exact far 4 x (by decide) (by decide) hx q
  · rcases q with q | q | q
    · exact .inl q
    · exact .inr (.inr (.inr (.inl q)))
    · exact .inr (.inr (.inr (.inr (.inl q))))
  · -- the two new rows stand apart from the others and from each other
    intro i j hij x hi hj
    have lt := h.lt
    have old : ∀ i, i ≠ 2 → i ≠ 3 → ([M.A, D.C, A, B, D.V, H] : List (Option Addr)).getD i none = [M.A, D.C, D.N, D.X, D.V, H].getD i none := fun i h2 h3 => by
      match i with
      | 0 => rfl
      | 1 => rfl
      | 2 => exact absurd rfl h2
      | 3 => exact absurd rfl h3
      | 4 => rfl
      | 5 => rfl
      | n + 6 => rfl
    have one : ∀ i, i ≠ 2 → i ≠ 3 → In ([M.A, D.C, A, B, D.V, H].getD i none) x → ¬ In A x ∧ ¬ In B x := fun i h2 h3 hx => by
      rw [old i h2 h3] at hx
      have := lt i x hx
      refine ⟨fun q => ?_, fun q => ?_⟩
      · rcases hA x q with r | r
        · exact h.six i 2 h2 x hx r
        · omega
      · rcases hB x q with r | r
        · exact h.six i 3 h3 x hx r
        · omega
    by_cases i2 : i = 2
    · subst i2
      by_cases j3 : j = 3
      · subst j3; exact hAB x hi hj
      · exact (one j (Ne.symm hij) j3 hj).1 hi
    · by_cases i3 : i = 3
      · subst i3
        by_cases j2 : j = 2
        · subst j2; exact hAB x hj hi
        · exact (one j j2 (Ne.symm hij) hj).2 hi
      · have hi' := one i i2 i3 hi
        by_cases j2 : j = 2
        · subst j2; exact hi'.1 hj
        · by_cases j3 : j = 3
          · subst j3; exact hi'.2 hj
          · rw [old i i2 i3] at hi
            rw [old j j2 j3] at hj
            exact h.six i j hij x hi hj
/-- The act's own block stays. -/
theorem St.actM (h : St W w M D nb H capH hs) {q : Nat} {cs : Array Value} (hK : Blk w q 42 cs) (ho : Only (mfoot M) w w1) : Blk w1 q 42 cs := hK.only ho (fun hx => (h.mem.ty hx).apart (blk_ty hK) (by decide))
theorem St.actD (h : St W w M D nb H capH hs) {q : Nat} {cs : Array Value} (hK : Blk w q 42 cs) (ho : Only (fun x => x = nb ∨ dfoot D x) w w1) : Blk w1 q 42 cs := hK.only ho (fun hx => by
  rcases hx with hx | hx
  · subst hx; exact (blk_ty h.box).apart (blk_ty hK) (by decide)
  · exact (h.doc.ty hx).apart (blk_ty hK) (by decide))
end
theorem tabs_more {xs : List Int} {ds : List (Nat × Nat)} {n : Nat} (h : Tabs xs ds) (h1 : 1 ≤ n) (h2 : n ≤ 65536) : Tabs (xs ++ List.replicate n 0) (ds ++ [(n, xs.length)]) := by
  intro i hi
  rw [List.length_append] at hi
  simp only [List.length_cons, List.length_nil] at hi
  by_cases e : i < ds.length
  · have e1 : tab (ds ++ [(n, xs.length)]) i = tab ds i := by simp [tab, List.getD, List.getElem?_append_left e]
    rw [e1]
    have := h i e
    simp
    omega
  · have e0 : i = ds.length := by omega
    subst e0
    have e1 : tab (ds ++ [(n, xs.length)]) ds.length = (n, xs.length) := by simp [tab, List.getD]
    rw [e1]
    simp
    omega
/-- A row of uint64 or of handles is no act. -/
theorem act_u64 {w w1 : World} {q : Nat} {cs : Array Value} {A : Option Addr} {cap : Nat} {l : List Nat} (hK : Blk w q 42 cs) (hR : Lst w 43 A cap l) (ho : Only (In A) w w1) : Blk w1 q 42 cs :=
  hK.only ho (fun hx => (hR.ty hx).apart (blk_ty hK) (by decide))
end Go.Proofs.Ytgagemejcdbgcaa.LawFive
