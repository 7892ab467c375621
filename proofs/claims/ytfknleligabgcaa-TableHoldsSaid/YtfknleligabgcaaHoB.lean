/- TableHolds: its beginning: five tables, and their sizes. -/
import Derived.Test.YtfknleligabgcaaHoSt
namespace Go.Proofs.Ytfknleligabgcaa.LawEight
open Go Go.RowKit Hp K Fl Rw Hm Ar Mm Me Ta Ob LawSix
set_option maxRecDepth 100000

/-- k tables, the sizes of r of them. -/
structure SZ (W0 w : World) (M : Mo) (H : Ho) (k r : Nat) (A : Option Addr) (cap : Nat) : Prop where
  mem : MemAt w M
  hold : HoAt w H
  row : Lo.Ints w A cap (szs.take r)
  far : ∀ x, In A x → ¬ mfoot M x
  lowA : ∀ x, In A x → W0.heap.size ≤ x
  lowf : W0.heap.size ≤ H.f
  lowM : ∀ x, mfoot M x → W0.heap.size ≤ x
  below : Below W0.heap.size W0 w
  xs : M.xs = 1 :: List.replicate (2 ^ (k + 1)) 0
  ds : M.ds = dss.take k
  hs : M.hs = List.replicate 6 (-1)
section
variable {W0 w w' : World} {M : Mo} {H : Ho} {k r cap : Nat} {A : Option Addr}
theorem SZ.tabled (h : SZ W0 w M H k r A cap) (hk : 1 ≤ k ∧ k ≤ 4) (hT : Tabled w M (2 ^ (k + 1)) w') : ∃ M', M'.m = M.m ∧ SZ W0 w' M' H (k + 1) r A cap := by
  obtain ⟨A', cap', T', capT', hM, hO, hA, hT⟩ := hT
  have hfoot : ∀ x, mfoot { M with A := A', cap := cap', xs := M.xs ++ List.replicate (2 ^ (k + 1)) 0, T := T', capT := capT', ds := M.ds ++ [(2 ^ (k + 1), M.xs.length)] } x → mfoot M x ∨ w.heap.size ≤ x := fun x q => by
    rcases q with q | q | q | q | q | q
    · exact .inl (.inl q)
    · rcases q with q | q
      · exact .inl (.inr (.inl (.inl q)))
      · rcases hA x q with q | q
        · exact .inl (.inr (.inl (.inr q)))
        · exact .inr q
    · exact .inl (.inr (.inr (.inl q)))
    · exact .inl (.inr (.inr (.inr (.inl q))))
    · rcases hT x q with q | q
      · exact .inl (.inr (.inr (.inr (.inr (.inl q)))))
      · exact .inr q
    · exact .inl (.inr (.inr (.inr (.inr (.inr q)))))
  refine ⟨{ M with A := A', cap := cap', xs := M.xs ++ List.replicate (2 ^ (k + 1)) 0, T := T', capT := capT', ds := M.ds ++ [(2 ^ (k + 1), M.xs.length)] }, rfl, { mem := hM, hold := h.hold.only hO (h.hold.far h.mem), row := h.row.only hO (fun x hx q => h.far x hx q), far := fun x hx q => ?_, lowA := h.lowA, lowf := h.lowf, lowM := fun x q => ?_, below := h.below.trans (hO.toBelow h.below.size (fun x hx q => by have := h.lowM x q; omega)), xs := ?_, ds := ?_, hs := h.hs }⟩
  · rcases hfoot x q with q | q
    · exact h.far x hx q
    · have := h.row.lt hx; omega
  · rcases hfoot x q with q | q
    · exact h.lowM x q
    · have := h.below.size; omega
  · show M.xs ++ List.replicate (2 ^ (k + 1)) 0 = _
    rw [h.xs, List.cons_append, List.replicate_append_replicate, Nat.pow_succ 2 (k + 1), Nat.mul_two]
  · show M.ds ++ [(2 ^ (k + 1), M.xs.length)] = _
    rw [h.ds, h.xs]
    rcases (by omega : k = 1 ∨ k = 2 ∨ k = 3 ∨ k = 4) with e | e | e | e <;> subst e <;> rfl
theorem SZ.pushed {A' : Option Addr} {cap' : Nat} (h : SZ W0 w M H k r A cap) (hr : Lo.Ints w' A' cap' (szs.take (r + 1))) (ho : Only (In A) w w') (hn : ∀ x, In A' x → In A x ∨ w.heap.size ≤ x) : SZ W0 w' M H k (r + 1) A' cap' := by
  have hf : ¬ In A H.f := fun q => h.row.differ h.hold (by decide) q
  refine { mem := h.mem.only ho (fun x hx q => h.far x q hx), hold := h.hold.only ho hf, row := hr, far := fun x hx q => ?_, lowA := fun x hx => ?_, lowf := h.lowf, lowM := h.lowM, below := h.below.trans (ho.toBelow h.below.size (fun x hx q => by have := h.lowA x q; omega)), xs := h.xs, ds := h.ds, hs := h.hs }
  · rcases hn x hx with q2 | q2
    · exact h.far x q2 q
    · have := h.mem.lt q; omega
  · rcases hn x hx with q2 | q2
    · exact h.lowA x q2
    · have := h.below.size; omega
theorem SZ.down (h : SZ W0 w M H k r A cap) (hb : Below w.heap.size w w') : SZ W0 w' M H k r A cap :=
  { h with mem := h.mem.below hb, hold := h.hold.below hb, row := h.row.only (Only.ofBelow hb (fun _ => False)) (by simp), below := h.below.trans (hb.mono h.below.size) }
/-- The law's state at the beginning. -/
theorem SZ.begin (h : SZ W0 w M H 5 5 A cap) (p q : Nat) : ∃ sb, A = some ⟨sb, 0, none⟩ ∧ T8 W0 (w.alloc (.cells #[.int .i64 p, .int .i64 q] 34)) w.heap.size sb M H p q := by
  have hlen : (szs.take 5).length = 5 := rfl
  obtain ⟨sb, rfl, hsb, _⟩ := h.row.cells (fun _ => rfl) 0 (by rw [hlen]; omega)
  obtain ⟨cs, hcs⟩ := row_blk h.row (x := sb) rfl
  have hcell : ∀ i, i < 5 → cs[i]? = some (.int .i64 (szs.getD i 0 : Nat)) := fun i hi => by
    obtain ⟨b, e, _, hc⟩ := h.row.cells (fun _ => rfl) i (by rw [hlen]; omega)
    injection e with e
    injection e with e
    subst e
    have h0 := (hc 0 (by omega)).1
    rw [Nat.mul_one, Nat.add_zero, hcs.cell i] at h0
    rw [h0]
    simp only [Lo.int1, List.getElem?_cons_zero]
    rcases (by omega : i = 0 ∨ i = 1 ∨ i = 2 ∨ i = 3 ∨ i = 4) with e | e | e | e | e <;> subst e <;> rfl
  have o1 : Objs W0 w M (fun _ : Nat => none) := Objs.start h.mem h.lowM h.below
  have hfs : H.f ≠ sb := hcs.differ h.hold (by decide) |>.symm
  let ob : Nat → Option Thing := fun i => if i = 0 then some (H.f, box 60 (hoc H)) else if i = 2 then some (sb, box 3 cs) else none
  have hob : ∀ i o, ob i = some o → (i = 0 ∧ o = (H.f, box 60 (hoc H))) ∨ (i = 2 ∧ o = (sb, box 3 cs)) := fun i o e => by
    simp only [ob] at e
    split at e
    · injection e with e; exact .inl ⟨by assumption, e.symm⟩
    · split at e
      · injection e with e; exact .inr ⟨by assumption, e.symm⟩
      · simp at e
  have o2 : Objs W0 w M ob := ⟨h.mem, fun i b o e => by
      rcases hob i _ e with ⟨_, q⟩ | ⟨_, q⟩
      · injection q with q1 q2; subst q1; subst q2; exact h.hold
      · injection q with q1 q2; subst q1; subst q2; exact hcs, fun i j o o' e e' hne => by
      rcases hob i _ e with ⟨q1, q2⟩ | ⟨q1, q2⟩ <;> rcases hob j _ e' with ⟨r1, r2⟩ | ⟨r1, r2⟩
      · omega
      · subst q2; subst r2; exact hfs
      · subst q2; subst r2; exact hfs.symm
      · omega, fun i o e => by
      rcases hob i _ e with ⟨_, q⟩ | ⟨_, q⟩
      · subst q; exact h.hold.far h.mem
      · subst q; exact h.far sb rfl, fun i o e => by
      rcases hob i _ e with ⟨_, q⟩ | ⟨_, q⟩
      · subst q; exact h.lowf
      · subst q; exact h.lowA sb rfl, h.lowM, h.below⟩
  have o3 := o2.made (k := 1) 34 #[.int .i64 p, .int .i64 q]
  refine ⟨sb, rfl, _, { ob := o3, o0 := by rw [upd_far (by simp)]; rfl, o1 := upd_same, o2 := ⟨cs, by rw [upd_far (by simp)]; rfl, hcell⟩ }⟩
theorem SZ.lh {s : Int} {f : Nat} (h : SZ W0 w M ⟨f, 0, s, 1, 0, (0, 0), 0, false⟩ 5 5 A cap) (hs : 0 ≤ s ∧ s < 4294967296) : LH M ⟨f, 0, s, 1, 0, (0, 0), 0, false⟩ s 0 :=
  ⟨hs, rfl, rfl, h.ds, by rw [h.xs]; simp, by rw [h.xs]; rfl, by omega, by simp, by simp, by rw [h.hs]; exact li_new, fun q => by simp at q, rfl⟩
end
end Go.Proofs.Ytfknleligabgcaa.LawEight
