/- Walks over layer 5's document: New, Table; the comparison of handles. -/
import Derived.Test.YtgagemejcdbgcaaDocReach
import Derived.Test.YtgagemejcdbgcaaRegN
import Derived.Deep.DeepCutAuto
namespace Go.Proofs.Ytgagemejcdbgcaa.Dc
open Go Go.RowKit Hp K Fl Rw Hm Ar Mm Me Rn
set_option maxRecDepth 100000

theorem handles_any {w : World} {A B : Option Addr} {capA capB : Nat} {t : List Nat} (hA : Hnds w A capA t) (hB : Lst w 43 B capB t) :
    Calls Try.prog 21 #[.slice A t.length capA, .slice B t.length capB] w fun e w' => e = .returned (.bool true) ∧ Below w.heap.size w w' := by
  have hle := hA.capLe
  simp only [maxLen] at hle
  have HA := Lib.hid hA
  have HB := Lib.hid hB
  clear hA hB
  go_enter Try.func21, Try.ntmps21
  go_wp2_with fail
  go_loopw [13] (fun i wr => ∃ k : Nat, k ≤ t.length ∧ i = .int .i64 k ∧ Below w.heap.size w wr) (fun i _ => t.length - (intOf i).toNat)
  case atStart => exact ⟨0, Nat.zero_le _, rfl, Below.refl _ _⟩
  case round =>
    obtain ⟨k, hk, rfl, hW⟩ := hrel
    by_cases hlt : k < t.length
    · obtain ⟨a, rfl, _, ha, _⟩ := hnds_at (HA.out.only (Only.ofBelow hW (fun _ => False)) (by simp)) k hlt
      obtain ⟨b, rfl, _, hb, _⟩ := (HB.out.only (Only.ofBelow hW (fun _ => False)) (by simp)).at k hlt
      have hW' := Lib.hid hW
      have k0 : (0 : Int) ≤ (k : Int) := by omega
      have k1 : (k : Int) < (t.length : Int) := by omega
      clear hW
      generalize nth t k = y at *
      go_wp2_with fail
      go_quiet (fail)
      go_wp2_with fail
      go_roundw
      case rel => exact ⟨k + 1, by omega, by go_num, below_drewN hW'.out _⟩
      case measure => simp [intOf]; omega
    · have hW' := Lib.hid hW
      clear hW
      go_wp2_with fail
      go_ret
      exact ⟨rfl, hW'.out⟩

/-- append(v, x), x a record in a block of its own. -/
theorem run_one {P : Program} {α : Type} (w : World) (t ty e : TypeId) (i : TypeInfo) (z : Value) (c bytes : Nat) (ht : P.underlying t = some (.slice e)) (hi : P.info? e = some i) (hz : i.zero = some z) (hsize : i.size = c) (hby : i.bytes = bytes) (hzs : z.cells.size = c) (hsz : 0 < c)
    (f : α → List Value) (hf : ∀ x, (f x).length = c) (h1 : ∀ x, ∀ u ∈ f x, u.oneCell' = true) {A : Option Addr} {cap : Nat} {xs : List α} (h : Row w e c f A cap xs) (hle : xs.length ≤ 2000000) (hb : bytes ≤ 1000) (b : Nat) (cs : Array Value) (hB : Blk w b e cs) (y : α) (hcs : f y = cs.toList) :
    ∃ A' cap' w', (Builtin.append_ #[t, t] ty #[.slice A xs.length cap, .slice (some ⟨b, 0, none⟩) 1 1]).run P w = .ok (.slice A' (xs.length + 1) cap') w' ∧ Row w' e c f A' cap' (xs ++ [y]) ∧ Only (In A) w w' ∧ ∀ x, In A' x → In A x ∨ w.heap.size ≤ x := by
  have hbb : (xs.length + 1) * bytes ≤ 140737488355328 := Nat.le_trans (Nat.mul_le_mul (show xs.length + 1 ≤ 2000001 by omega) hb) (by omega)
  obtain ⟨v', w', hrun, hown, hg, _, hat⟩ := run_append_own_at (P := P) w 0 t ty e i z c bytes ht hi hz hsize hby hzs hsz (.slice A xs.length cap) xs.length (xs.flatMap f) h ⟨b, 0, none⟩ 1 1 (f y) (by rw [hf, Nat.one_mul])
    (fun j u hu => by
      rw [Addr.add_lit, Nat.zero_add, hB.cell, ← hu, hcs, Array.getElem?_toList]) (h1 y) (by simp only [maxLen]; omega) hbb (Nat.zero_le _)
  obtain ⟨A', cap', rfl⟩ := own_slice hown
  refine ⟨A', cap', w', hrun, ?_, (Only.refl (In A) w).grown hg (fun b hb => .inl (by rw [own_block] at hb; exact hb)), fun b hb => ?_⟩
  · show World.ownsRow _ 0 _ c (.slice A' (xs ++ [y]).length cap') (xs ++ [y]).length ((xs ++ [y]).flatMap f)
    have e1 : (xs ++ [y]).flatMap f = xs.flatMap f ++ f y := by simp
    rw [e1, List.length_append]
    exact hown
  · rw [own_block, own_block] at hat
    rcases hat with q | q
    · exact .inl (by rw [In, ← q]; exact hb)
    · refine .inr ?_
      rw [In, q] at hb
      injection hb with hb
      omega

/-- A document's memory after a table. -/
def Tabled (w : World) (D : Do) (n : Nat) (e : Ending) (w' : World) : Prop :=
  ∃ C' capC' T' capT', e = .returned (docv { D with C := C', capC := capC', xs := D.xs ++ List.replicate n 0, T := T', capT := capT', ds := D.ds ++ [(n, D.xs.length)] }) ∧
    DocAt w' { D with C := C', capC := capC', xs := D.xs ++ List.replicate n 0, T := T', capT := capT', ds := D.ds ++ [(n, D.xs.length)] } ∧ Below w.heap.size w w' ∧ (∀ x, In C' x → w.heap.size ≤ x) ∧ ∀ x, In T' x → w.heap.size ≤ x
/-- In the midst of Table: the memory boxed behind q, the result behind q + 1. -/
def TS (w : World) (D D0 : Do) (q : Nat) (W : World) : Prop :=
  w.heap.size = q ∧ Below q w W ∧ Blk W q 39 (docc D) ∧ Blk W (q + 1) 39 #[.slice none 0 0, .slice none 0 0, .slice none 0 0, .slice none 0 0, .slice none 0 0] ∧ DocAt W D0 ∧ ∀ x, dfoot D0 x → x ≠ q ∧ x ≠ q + 1
theorem TS.only {w W W' : World} {D D0 : Do} {q : Nat} {S : Nat → Prop} (h : TS w D D0 q W) (ho : Only S W W') (hS : ∀ x, S x → q + 2 ≤ x ∧ ¬ dfoot D0 x) : TS w D D0 q W' := by
  obtain ⟨h0, h1, h2, h3, h4, h5⟩ := h
  exact ⟨h0, h1.trans (ho.toBelow (by rw [← h0]; have := h1.size; omega) (fun x hx hs => by have := (hS x hs).1; omega)), h2.only ho (fun hs => by have := (hS _ hs).1; omega), h3.only ho (fun hs => by have := (hS _ hs).1; omega), h4.only ho (fun x hx hs => (hS x hs).2 hx), h5⟩
theorem TS.alloc {w W : World} {D D0 : Do} {q : Nat} (h : TS w D D0 q W) (o : Obj) : TS w D D0 q (W.alloc o) := h.only ((Only.refl (fun _ => False) _).alloc o) (by simp)
theorem TS.size {w W : World} {D D0 : Do} {q : Nat} (h : TS w D D0 q W) : q + 2 ≤ W.heap.size := h.2.2.2.1.lt
theorem ts_start {w : World} {D : Do} (h : DocAt w D) : TS w D D w.heap.size ((w.alloc (.cells (docc D) 39)).alloc (.cells #[.slice none 0 0, .slice none 0 0, .slice none 0 0, .slice none 0 0, .slice none 0 0] 39)) := by
  refine ⟨rfl, ((Below.refl _ _).alloc (Nat.le_refl _) _).alloc (by simp) _, (Blk.made w _ _).alloc _, ?_, (h.alloc _).alloc _, fun x hx => ?_⟩
  · have := Blk.made (w.alloc (.cells (docc D) 39)) 39 #[.slice none 0 0, .slice none 0 0, .slice none 0 0, .slice none 0 0, .slice none 0 0]
    rwa [World.size_alloc] at this
  · have := h.lt hx
    omega
/-- The new row of tables written down. -/
def TRel (w : World) (D : Do) (n q : Nat) (W : World) : Prop :=
  ∃ T' capT', TS w { D with T := T', capT := capT', ds := D.ds ++ [(n, D.xs.length)] } { D with T := T', capT := capT', ds := D.ds ++ [(n, D.xs.length)] } q W ∧ (∀ x, In T' x → q ≤ x)
theorem table_end {w W : World} {D : Do} {n q : Nat} (h : TS w D D q W) {T' : Option Addr} {cap' : Nat} (hT : Row W 65 2 dsc T' cap' (D.ds ++ [(n, D.xs.length)])) (hq : ∀ x, In T' x → q + 2 ≤ x) :
    TRel w D n q (W.setCell ⟨q, 1, none⟩ (.slice T' (D.ds.length + 1) cap')) := by
  obtain ⟨h0, h1, h2, h3, h4, h5⟩ := h
  have ho := (Only.refl (· = q) W).setCell (p := ⟨q, 1, none⟩) (.inl rfl) (.slice T' (D.ds.length + 1) cap')
  refine ⟨T', cap', ⟨h0, h1.setCell (p := ⟨q, 1, none⟩) (by simp) _, by simpa [docc] using h2.store 1 (.slice T' (D.ds.length + 1) cap'), h3.only ho (by omega), ⟨h4.1.only ho (fun x hx => (h5 x (.inl hx)).1), hT.only ho (fun x hx e => by have := hq x hx; omega), h4.2.2.1.only ho (fun x hx => (h5 x (.inr (.inr (.inl hx)))).1), h4.2.2.2.1.only ho (fun x hx => (h5 x (.inr (.inr (.inr (.inl hx))))).1), h4.2.2.2.2.only ho (fun x hx => (h5 x (.inr (.inr (.inr (.inr hx))))).1)⟩, ?_⟩, fun x hx => by have := hq x hx; omega⟩
  rintro x (hx | hx | hx | hx | hx)
  · exact h5 x (.inl hx)
  · have := hq x hx
    omega
  · exact h5 x (.inr (.inr (.inl hx)))
  · exact h5 x (.inr (.inr (.inr (.inl hx))))
  · exact h5 x (.inr (.inr (.inr (.inr hx))))

theorem w64_zeros (xs : List Int) (n : Nat) : (xs ++ List.replicate n 0).flatMap w64 = xs.flatMap w64 ++ List.replicate n (Value.int .u64 0) := by
  rw [List.flatMap_append]
  congr 1
  induction n with
  | zero => rfl
  | succ m ih => rw [List.replicate_succ, List.replicate_succ, List.flatMap_cons, ih]; rfl
/-- The new row of cells written down. -/
theorem table_cells {w W : World} {D : Do} {q : Nat} (h : TS w D D q W) {C' : Option Addr} {cap' : Nat} {xs' : List Int} (hC : Row W 43 1 w64 C' cap' xs') (hq : ∀ x, In C' x → q + 2 ≤ x) :
    DocAt (W.setCell ⟨q, 0, none⟩ (.slice C' xs'.length cap')) { D with C := C', capC := cap', xs := xs' } ∧ Below q w (W.setCell ⟨q, 0, none⟩ (.slice C' xs'.length cap')) := by
  obtain ⟨h0, h1, h2, h3, h4, h5⟩ := h
  have ho := (Only.refl (· = q) W).setCell (p := ⟨q, 0, none⟩) (.inl rfl) (.slice C' xs'.length cap')
  exact ⟨⟨hC.only ho (fun x hx e => by have := hq x hx; omega), h4.2.1.only ho (fun x hx => (h5 x (.inr (.inl hx))).1), h4.2.2.1.only ho (fun x hx => (h5 x (.inr (.inr (.inl hx)))).1), h4.2.2.2.1.only ho (fun x hx => (h5 x (.inr (.inr (.inr (.inl hx))))).1), h4.2.2.2.2.only ho (fun x hx => (h5 x (.inr (.inr (.inr (.inr hx))))).1)⟩,
    h1.setCell (p := ⟨q, 0, none⟩) (by simp) _⟩

set_option maxHeartbeats 8000000 in
theorem Table_doc {w : World} {D : Do} (h : DocAt w D) (n : Nat) (hn : n ≤ 65536) (hx : 0 < D.xs.length) (hd : 0 < D.ds.length) (hxl : D.xs.length ≤ 1048576) (hdl : D.ds.length ≤ 1048576) :
    Calls Try.prog 14 #[docv D, .int .i64 n] w (Tabled w D n) := by
  have HS := Lib.hid (ts_start h)
  obtain ⟨i0, hi0, hz0, hz1, hz2⟩ := info_parts info_u64
  obtain ⟨i1, hi1, hy0, hy1, hy2⟩ := info_parts info_rdesc
  obtain ⟨C, capC, xs, T, capT, ds, N, capN, nodes, X, capX, next, V, capV, ws⟩ := D
  simp only at hx hd hxl hdl
  clear h
  unfold docv docc
  go_enter Try.func14, Try.ntmps14
  go_upto_region 1 with (fail)
  change Code.wp _ _ _ _ ((w.alloc (.cells (docc ⟨C, capC, xs, T, capT, ds, N, capN, nodes, X, capX, next, V, capV, ws⟩) 39)).alloc (.cells #[.slice none 0 0, .slice none 0 0, .slice none 0 0, .slice none 0 0, .slice none 0 0] 39))
  generalize (w.alloc (.cells (docc ⟨C, capC, xs, T, capT, ds, N, capN, nodes, X, capX, next, V, capV, ws⟩) 39)).alloc (.cells #[.slice none 0 0, .slice none 0 0, .slice none 0 0, .slice none 0 0, .slice none 0 0] 39) = W at *
  obtain ⟨q, hq⟩ : ∃ q, w.heap.size = q := ⟨_, rfl⟩
  rw [hq] at HS
  rw [hq]
  replace hq := Lib.hid hq
  go_cut [15] (fun _ wx => TRel w ⟨C, capC, xs, T, capT, ds, N, capN, nodes, X, capX, next, V, capV, ws⟩ n q wx)
  case first =>
    have hSo : Hid (∀ w', TS w ⟨C, capC, xs, T, capT, ds, N, capN, nodes, X, capX, next, V, capV, ws⟩ ⟨C, capC, xs, T, capT, ds, N, capN, nodes, X, capX, next, V, capV, ws⟩ q w' → w'.cell? ⟨q, 0, none⟩ = some (.slice C xs.length capC) ∧ w'.cell? ⟨q, 1, none⟩ = some (.slice T ds.length capT)) :=
      Lib.hid fun w' h => ⟨h.2.2.1.cell 0, h.2.2.1.cell 1⟩
    refine wp_region_N (fun w' => w'.cell? ⟨q, 0, none⟩ = some (.slice C xs.length capC) ∧ w'.cell? ⟨q, 1, none⟩ = some (.slice T ds.length capT)) (fun j => j == 11 || j == 12) (by kernel_rfl) ?_
    have hTS := Lib.hid (HS.out.only ((Only.refl (fun _ => False) W).drewN 1) (by simp))
    change Hid (TS w _ _ q W.drew) at hTS
    generalize W.drew = W at *
    clear HS
    refine wpN_take (i := 1) (oi := ⟨some 6, _, _, _, _, _⟩) (v := .pointer (some ⟨q, 1, none⟩)) (by rfl) (by kernel_rfl) (by kernel_rfl) (by kernel_rfl) rfl (by intro j hj; rcases (show j = 11 ∨ j = 12 from by simpa using hj) with rfl | rfl <;> kernel_rfl) (fun _ _ _ h => h) (Or.inl ⟨by rfl, by intro w' hSw; obtain ⟨s0, s1⟩ := hSw; go_simp⟩) (hSo.out _ hTS.out) ?_
    simp only [Act.put, List.setIfInBounds_toArray, List.set_cons_zero, List.set_cons_succ]
    refine wpN_take (i := 2) (oi := ⟨some 7, _, _, _, _, _⟩) (v := .slice T ds.length capT) (by rfl) (by kernel_rfl) (by kernel_rfl) (by kernel_rfl) rfl (by intro j hj; rcases (show j = 11 ∨ j = 12 from by simpa using hj) with rfl | rfl <;> kernel_rfl) (fun _ _ _ h => h) (Or.inl ⟨by rfl, by intro w' hSw; obtain ⟨s0, s1⟩ := hSw; go_simp⟩) (hSo.out _ hTS.out) ?_
    simp only [Act.put, List.setIfInBounds_toArray, List.set_cons_zero, List.set_cons_succ]
    refine wpN_take (i := 4) (oi := ⟨some 9, _, _, _, _, _⟩) (v := .int .i64 n) (by rfl) (by kernel_rfl) (by kernel_rfl) (by kernel_rfl) rfl (by intro j hj; rcases (show j = 11 ∨ j = 12 from by simpa using hj) with rfl | rfl <;> kernel_rfl) (fun _ _ _ h => h) (Or.inl ⟨by rfl, by intro w' hSw; obtain ⟨s0, s1⟩ := hSw; go_simp⟩) (hSo.out _ hTS.out) ?_
    simp only [Act.put, List.setIfInBounds_toArray, List.set_cons_zero, List.set_cons_succ]
    refine wpN_take (i := 5) (oi := ⟨some 10, _, _, _, _, _⟩) (v := .pointer (some ⟨q, 0, none⟩)) (by rfl) (by kernel_rfl) (by kernel_rfl) (by kernel_rfl) rfl (by intro j hj; rcases (show j = 11 ∨ j = 12 from by simpa using hj) with rfl | rfl <;> kernel_rfl) (fun _ _ _ h => h) (Or.inl ⟨by rfl, by intro w' hSw; obtain ⟨s0, s1⟩ := hSw; go_simp⟩) (hSo.out _ hTS.out) ?_
    simp only [Act.put, List.setIfInBounds_toArray, List.set_cons_zero, List.set_cons_succ]
    refine wpN_take (i := 6) (oi := ⟨some 11, _, _, _, _, _⟩) (v := .slice C xs.length capC) (by rfl) (by kernel_rfl) (by kernel_rfl) (by kernel_rfl) rfl (by intro j hj; rcases (show j = 11 ∨ j = 12 from by simpa using hj) with rfl | rfl <;> kernel_rfl) (fun _ _ _ h => h) (Or.inl ⟨by rfl, by intro w' hSw; obtain ⟨s0, s1⟩ := hSw; go_simp⟩) (hSo.out _ hTS.out) ?_
    simp only [Act.put, List.setIfInBounds_toArray, List.set_cons_zero, List.set_cons_succ]
    refine wpN_take (i := 7) (oi := ⟨some 12, _, _, _, _, _⟩) (v := .int .i64 xs.length) (by rfl) (by kernel_rfl) (by kernel_rfl) (by kernel_rfl) rfl (by intro j hj; rcases (show j = 11 ∨ j = 12 from by simpa using hj) with rfl | rfl <;> kernel_rfl) (fun _ _ _ h => h) (Or.inl ⟨by rfl, by intro w' hSw; obtain ⟨s0, s1⟩ := hSw; go_simp⟩) (hSo.out _ hTS.out) ?_
    simp only [Act.put, List.setIfInBounds_toArray, List.set_cons_zero, List.set_cons_succ]
    refine wpN_take (i := 8) (oi := ⟨some 13, _, _, _, _, _⟩) (v := .agg #[.int .i64 n, .int .i64 xs.length]) (by rfl) (by kernel_rfl) (by kernel_rfl) (by kernel_rfl) rfl (by intro j hj; rcases (show j = 11 ∨ j = 12 from by simpa using hj) with rfl | rfl <;> kernel_rfl) (fun _ _ _ h => h) (Or.inl ⟨by rfl, by intro w' hSw; obtain ⟨s0, s1⟩ := hSw; go_simp⟩) (hSo.out _ hTS.out) ?_
    simp only [Act.put, List.setIfInBounds_toArray, List.set_cons_zero, List.set_cons_succ]
    refine wpN_two (i := 0) (j := 9) (o := ⟨some 5, _, _, _, _, _⟩) (o' := ⟨some 14, _, _, _, _, _⟩) (by kernel_rfl) (by rfl) rfl (by rfl) rfl ?_ ?_
    · skip
      intro K hK
      go_simp
      refine hK _ _ (hSo.out _ (hTS.out.alloc _)) ?_
      clear hK
      try simp only [Act.put, List.setIfInBounds_toArray, List.set_cons_zero, List.set_cons_succ]
      replace hTS := Lib.hid (hTS.out.alloc (.cells #[] 65))
      generalize hb0 : W.heap.size = b0 at *
      replace hb0 := Lib.hid hb0
      generalize W.alloc (.cells #[] 65) = W1 at *
      refine wpN_two (i := 3) (j := 9) (o := ⟨some 8, _, _, _, _, _⟩) (o' := ⟨some 14, _, _, _, _, _⟩) (by kernel_rfl) (by rfl) rfl (by rfl) rfl ?_ ?_
      · skip
        intro K hK
        obtain ⟨T1, capT1, W9, hrun, hT1, hO1, hN1⟩ := run_anew (P := Try.prog) (xs := ds) W1 37 37 65 i1 _ 2 16 Try.underlying37 hi1 hy0 hy1 hy2 rfl (by omega) dsc dsc_len hTS.out.2.2.2.2.1.2.1 hd (by omega) (by omega) b0
        refine step_run rfl (.tmp 5) (.tmp 7) 37 rfl _ _ rfl rfl hrun ?_
        have hq1 := Lib.hid (fun x (hx : In T1 x) => show q + 2 ≤ x ∧ ¬ dfoot ⟨C, capC, xs, T, capT, ds, N, capN, nodes, X, capX, next, V, capV, ws⟩ x from ⟨Nat.le_trans hTS.out.size (hN1 x hx), fun hf => by have h1 := hTS.out.2.2.2.2.1.lt hf; have h2 := hN1 x hx; omega⟩)
        replace hTS := Lib.hid (hTS.out.only hO1 (by simp))
        refine hK _ _ (hSo.out _ hTS.out) ?_
        clear hK
        try simp only [Act.put, List.setIfInBounds_toArray, List.set_cons_zero, List.set_cons_succ]
        replace hT1 := Lib.hid hT1
        clear hrun hO1 hN1
        refine wpN_one (i := 9) (o := ⟨some 14, _, _, _, _, _⟩) (by kernel_rfl) (by rfl) rfl ?_
        intro K hK
        go_simp
        refine hK _ _ (hSo.out _ (hTS.out.alloc _)) ?_
        clear hK
        try simp only [Act.put, List.setIfInBounds_toArray, List.set_cons_zero, List.set_cons_succ]
        have hRc := Lib.hid (Blk.made W9 65 #[.int .i64 n, .int .i64 xs.length])
        replace hTS := Lib.hid (hTS.out.alloc (.cells #[.int .i64 n, .int .i64 xs.length] 65))
        replace hT1 := Lib.hid (hT1.out.only ((Only.refl (fun _ => False) W9).alloc (.cells #[.int .i64 n, .int .i64 xs.length] 65)) (by simp))
        generalize W9.heap.size = rb at *
        generalize W9.alloc (.cells #[.int .i64 n, .int .i64 xs.length] 65) = W7 at *
        refine wpN_one (i := 10) (o := ⟨some 15, _, _, _, _, _⟩) (by kernel_rfl) (by rfl) rfl ?_
        intro K hK
        obtain ⟨T2, capT2, W8, hrun, hT2, hO2, hN2⟩ := run_one (P := Try.prog) (xs := ds) W7 37 37 65 i1 _ 2 16 Try.underlying37 hi1 hy0 hy1 hy2 rfl (by omega) dsc dsc_len (by intro x u hu; simp [dsc] at hu; rcases hu with rfl | rfl <;> rfl) hT1.out (by omega) (by omega) rb _ hRc.out (n, xs.length) rfl
        refine step_run rfl (.tmp 8) (.tmp 14) 37 rfl _ _ rfl rfl hrun ?_
        have hq2 := Lib.hid (fun x (hx : In T2 x) => show q + 2 ≤ x from by
          rcases hN2 x hx with r | r
          · exact (hq1.out x r).1
          · exact Nat.le_trans hTS.out.size r)
        replace hTS := Lib.hid (hTS.out.only hO2 (fun x hx => hq1.out x hx))
        refine hK _ _ (hSo.out _ hTS.out) ?_
        clear hK
        try simp only [Act.put, List.setIfInBounds_toArray, List.set_cons_zero, List.set_cons_succ]
        replace hT2 := Lib.hid hT2
        clear hrun hO2 hN2
        refine wpN_tail 11 (by rfl) (by kernel_rfl) rfl ?_
        change wpList _ _ _ [_, _] _ _
        have c1 := hTS.out.2.2.1.cell 1
        have f1 := hTS.out.2.2.1.frozen 1
        simp only [docc, List.getElem?_toArray, List.getElem?_cons_zero, List.getElem?_cons_succ] at c1
        go_wp2_with fail
        go_meet
        exact table_end hTS.out hT2.out hq2.out
      · skip
        intro K hK
        go_simp
        refine hK _ _ (hSo.out _ (hTS.out.alloc _)) ?_
        clear hK
        try simp only [Act.put, List.setIfInBounds_toArray, List.set_cons_zero, List.set_cons_succ]
        have hRc := Lib.hid (Blk.made W1 65 #[.int .i64 n, .int .i64 xs.length])
        replace hTS := Lib.hid (hTS.out.alloc (.cells #[.int .i64 n, .int .i64 xs.length] 65))
        generalize W1.heap.size = rb at *
        generalize W1.alloc (.cells #[.int .i64 n, .int .i64 xs.length] 65) = W7 at *
        refine wpN_one (i := 3) (o := ⟨some 8, _, _, _, _, _⟩) (by kernel_rfl) (by rfl) rfl ?_
        intro K hK
        obtain ⟨T1, capT1, W9, hrun, hT1, hO1, hN1⟩ := run_anew (P := Try.prog) (xs := ds) W7 37 37 65 i1 _ 2 16 Try.underlying37 hi1 hy0 hy1 hy2 rfl (by omega) dsc dsc_len hTS.out.2.2.2.2.1.2.1 hd (by omega) (by omega) b0
        refine step_run rfl (.tmp 5) (.tmp 7) 37 rfl _ _ rfl rfl hrun ?_
        have hq1 := Lib.hid (fun x (hx : In T1 x) => show q + 2 ≤ x ∧ ¬ dfoot ⟨C, capC, xs, T, capT, ds, N, capN, nodes, X, capX, next, V, capV, ws⟩ x from ⟨Nat.le_trans hTS.out.size (hN1 x hx), fun hf => by have h1 := hTS.out.2.2.2.2.1.lt hf; have h2 := hN1 x hx; omega⟩)
        replace hTS := Lib.hid (hTS.out.only hO1 (by simp))
        replace hRc := Lib.hid (hRc.out.only hO1 (by simp))
        refine hK _ _ (hSo.out _ hTS.out) ?_
        clear hK
        try simp only [Act.put, List.setIfInBounds_toArray, List.set_cons_zero, List.set_cons_succ]
        replace hT1 := Lib.hid hT1
        clear hrun hO1 hN1
        refine wpN_one (i := 10) (o := ⟨some 15, _, _, _, _, _⟩) (by kernel_rfl) (by rfl) rfl ?_
        intro K hK
        obtain ⟨T2, capT2, W8, hrun, hT2, hO2, hN2⟩ := run_one (P := Try.prog) (xs := ds) W9 37 37 65 i1 _ 2 16 Try.underlying37 hi1 hy0 hy1 hy2 rfl (by omega) dsc dsc_len (by intro x u hu; simp [dsc] at hu; rcases hu with rfl | rfl <;> rfl) hT1.out (by omega) (by omega) rb _ hRc.out (n, xs.length) rfl
        refine step_run rfl (.tmp 8) (.tmp 14) 37 rfl _ _ rfl rfl hrun ?_
        have hq2 := Lib.hid (fun x (hx : In T2 x) => show q + 2 ≤ x from by
          rcases hN2 x hx with r | r
          · exact (hq1.out x r).1
          · exact Nat.le_trans hTS.out.size r)
        replace hTS := Lib.hid (hTS.out.only hO2 (fun x hx => hq1.out x hx))
        refine hK _ _ (hSo.out _ hTS.out) ?_
        clear hK
        try simp only [Act.put, List.setIfInBounds_toArray, List.set_cons_zero, List.set_cons_succ]
        replace hT2 := Lib.hid hT2
        clear hrun hO2 hN2
        refine wpN_tail 11 (by rfl) (by kernel_rfl) rfl ?_
        change wpList _ _ _ [_, _] _ _
        have c1 := hTS.out.2.2.1.cell 1
        have f1 := hTS.out.2.2.1.frozen 1
        simp only [docc, List.getElem?_toArray, List.getElem?_cons_zero, List.getElem?_cons_succ] at c1
        go_wp2_with fail
        go_meet
        exact table_end hTS.out hT2.out hq2.out
    · skip
      intro K hK
      go_simp
      refine hK _ _ (hSo.out _ (hTS.out.alloc _)) ?_
      clear hK
      try simp only [Act.put, List.setIfInBounds_toArray, List.set_cons_zero, List.set_cons_succ]
      have hRc := Lib.hid (Blk.made W 65 #[.int .i64 n, .int .i64 xs.length])
      replace hTS := Lib.hid (hTS.out.alloc (.cells #[.int .i64 n, .int .i64 xs.length] 65))
      generalize W.heap.size = rb at *
      generalize W.alloc (.cells #[.int .i64 n, .int .i64 xs.length] 65) = W1 at *
      refine wpN_one (i := 0) (o := ⟨some 5, _, _, _, _, _⟩) (by kernel_rfl) (by rfl) rfl ?_
      intro K hK
      go_simp
      refine hK _ _ (hSo.out _ (hTS.out.alloc _)) ?_
      clear hK
      try simp only [Act.put, List.setIfInBounds_toArray, List.set_cons_zero, List.set_cons_succ]
      replace hTS := Lib.hid (hTS.out.alloc (.cells #[] 65))
      replace hRc := Lib.hid (hRc.out.only ((Only.refl (fun _ => False) W1).alloc (.cells #[] 65)) (by simp))
      generalize W1.heap.size = b0 at *
      generalize W1.alloc (.cells #[] 65) = W7 at *
      refine wpN_one (i := 3) (o := ⟨some 8, _, _, _, _, _⟩) (by kernel_rfl) (by rfl) rfl ?_
      intro K hK
      obtain ⟨T1, capT1, W9, hrun, hT1, hO1, hN1⟩ := run_anew (P := Try.prog) (xs := ds) W7 37 37 65 i1 _ 2 16 Try.underlying37 hi1 hy0 hy1 hy2 rfl (by omega) dsc dsc_len hTS.out.2.2.2.2.1.2.1 hd (by omega) (by omega) b0
      refine step_run rfl (.tmp 5) (.tmp 7) 37 rfl _ _ rfl rfl hrun ?_
      have hq1 := Lib.hid (fun x (hx : In T1 x) => show q + 2 ≤ x ∧ ¬ dfoot ⟨C, capC, xs, T, capT, ds, N, capN, nodes, X, capX, next, V, capV, ws⟩ x from ⟨Nat.le_trans hTS.out.size (hN1 x hx), fun hf => by have h1 := hTS.out.2.2.2.2.1.lt hf; have h2 := hN1 x hx; omega⟩)
      replace hTS := Lib.hid (hTS.out.only hO1 (by simp))
      replace hRc := Lib.hid (hRc.out.only hO1 (by simp))
      refine hK _ _ (hSo.out _ hTS.out) ?_
      clear hK
      try simp only [Act.put, List.setIfInBounds_toArray, List.set_cons_zero, List.set_cons_succ]
      replace hT1 := Lib.hid hT1
      clear hrun hO1 hN1
      refine wpN_one (i := 10) (o := ⟨some 15, _, _, _, _, _⟩) (by kernel_rfl) (by rfl) rfl ?_
      intro K hK
      obtain ⟨T2, capT2, W8, hrun, hT2, hO2, hN2⟩ := run_one (P := Try.prog) (xs := ds) W9 37 37 65 i1 _ 2 16 Try.underlying37 hi1 hy0 hy1 hy2 rfl (by omega) dsc dsc_len (by intro x u hu; simp [dsc] at hu; rcases hu with rfl | rfl <;> rfl) hT1.out (by omega) (by omega) rb _ hRc.out (n, xs.length) rfl
      refine step_run rfl (.tmp 8) (.tmp 14) 37 rfl _ _ rfl rfl hrun ?_
      have hq2 := Lib.hid (fun x (hx : In T2 x) => show q + 2 ≤ x from by
        rcases hN2 x hx with r | r
        · exact (hq1.out x r).1
        · exact Nat.le_trans hTS.out.size r)
      replace hTS := Lib.hid (hTS.out.only hO2 (fun x hx => hq1.out x hx))
      refine hK _ _ (hSo.out _ hTS.out) ?_
      clear hK
      try simp only [Act.put, List.setIfInBounds_toArray, List.set_cons_zero, List.set_cons_succ]
      replace hT2 := Lib.hid hT2
      clear hrun hO2 hN2
      refine wpN_tail 11 (by rfl) (by kernel_rfl) rfl ?_
      change wpList _ _ _ [_, _] _ _
      have c1 := hTS.out.2.2.1.cell 1
      have f1 := hTS.out.2.2.1.frozen 1
      simp only [docc, List.getElem?_toArray, List.getElem?_cons_zero, List.getElem?_cons_succ] at c1
      go_wp2_with fail
      go_meet
      exact table_end hTS.out hT2.out hq2.out
  case rest =>
    obtain ⟨T2, capT2, hTS, hT2⟩ := hcut
    replace hTS : Hid (TS w ⟨C, capC, xs, T2, capT2, ds ++ [(n, xs.length)], N, capN, nodes, X, capX, next, V, capV, ws⟩ ⟨C, capC, xs, T2, capT2, ds ++ [(n, xs.length)], N, capN, nodes, X, capX, next, V, capV, ws⟩ q wc) := Lib.hid hTS
    replace hT2 := Lib.hid hT2
    clear HS
    have hTS2 := Lib.hid (hTS.out.alloc (.cells #[] 43))
    obtain ⟨C1, capC1, W2, hrun, hC1, hO1, hN1⟩ := run_anew (P := Try.prog) (xs := xs) (wc.alloc (.cells #[] 43)) 36 36 43 i0 _ 1 8 Try.underlying36 hi0 hz0 hz1 hz2 rfl (by omega) w64 w64_len hTS2.out.2.2.2.2.1.1 hx (by omega) (by omega) wc.heap.size
    have hTS3 := Lib.hid (hTS2.out.only hO1 (by simp))
    have hq1 := Lib.hid (fun x (hx : In C1 x) => show q + 2 ≤ x ∧ ¬ dfoot ⟨C, capC, xs, T2, capT2, ds ++ [(n, xs.length)], N, capN, nodes, X, capX, next, V, capV, ws⟩ x from ⟨Nat.le_trans hTS2.out.size (hN1 x hx), fun hf => by have h1 := hTS2.out.2.2.2.2.1.lt hf; have h2 := hN1 x hx; omega⟩)
    have k0 := hTS.out.2.2.1.cell 0
    have hql := hTS.out.2.2.1.lt
    simp only [docc, List.getElem?_toArray, List.getElem?_cons_zero, List.getElem?_cons_succ] at k0
    have hzl : (xs ++ List.replicate n 0).length = xs.length + n := by simp
    have hzf := w64_zeros xs n
    replace hzl := Lib.hid hzl
    replace hzf := Lib.hid hzf
    replace hrun := Lib.hid hrun
    replace hC1 := Lib.hid hC1
    clear hO1 hN1
    go_upto_region 3 with (first
      | (at_builtin
         refine Lib.wpList_append_run _ rfl (.tmp 17) (.tmp 19) 36 36 rfl (.slice (some ⟨wc.heap.size, 0, none⟩) 0 0) (.slice C xs.length capC) rfl rfl (.slice C1 xs.length capC1) W2 hrun.out ?_)
      | (at_builtin
         refine wpList_append_zeros _ rfl (.tmp 20) (.tmp 21) 36 3 rfl 0 43 i0 (.int .u64 0) .i64 .i64 8 Try.underlying36 Try.underlying3 hi0 hz0 hz1 hz2 rfl rfl
           (.slice C1 xs.length capC1) xs.length (xs.flatMap w64) rfl hC1.out n rfl (by simp only [maxLen]; omega) (by omega) (Nat.zero_le _) ?_
         intro v1 W3 hown1 hg1 hat1
         obtain ⟨C2, capC2, rfl⟩ := own_slice hown1
         rw [← hzf.out, ← hzl.out] at hown1
         have hO3 : Only (In C1) W2 W3 := (Only.refl _ _).grown hg1 (fun b hb => .inl (by rw [own_block] at hb; exact hb))
         have hq3 : ∀ x, In C2 x → q + 2 ≤ x := fun x hx => by
           have hx' : (Value.slice C2 (xs.length + n) capC2).ownBlock = some x := by rw [own_block]; exact hx
           rcases hat1 with r | r
           · rw [r, own_block] at hx'
             exact (hq1.out x hx').1
           · rw [r] at hx'
             injection hx' with hx'
             rw [← hx']
             exact hTS3.out.size
         have hTS4 := hTS3.out.only hO3 (fun x hx => hq1.out x hx)
         have hQ4 := hTS4.2.2.1
         have hR4 := hTS4.2.2.2.1
         have hOq := (Only.refl (· = q) W3).setCell (p := ⟨q, 0, none⟩) (.inl rfl) (.slice C2 (xs.length + n) capC2)
         have hQ5 := hQ4.store 0 (.slice C2 (xs.length + n) capC2)
         have hR5 := hR4.only hOq (by omega)
         have hD5 := table_cells hTS4 (show Row W3 43 1 w64 C2 capC2 (xs ++ List.replicate n 0) from hown1) hq3
         have k1 := hQ4.cell 0
         have k2 := hQ4.frozen 0
         simp only [docc, List.getElem?_toArray, List.getElem?_cons_zero, List.getElem?_cons_succ] at k1
         have hB4 := hTS4.2.1
         rw [hzl.out] at hD5
         replace hQ5 := Lib.hid hQ5
         replace hR5 := Lib.hid hR5
         replace hD5 := Lib.hid hD5
         replace hB4 := Lib.hid hB4
         replace hq3 := Lib.hid hq3
         clear hQ4 hR4 hOq hTS4 hO3 hat1 hg1 hown1 k0))
    change Code.wp _ _ _ _ (W3.setCell ⟨q, 0, none⟩ (.slice C2 (xs.length + n) capC2))
    generalize W3.setCell ⟨q, 0, none⟩ (.slice C2 (xs.length + n) capC2) = W5 at *
    have m0 := hQ5.out.cell 0
    have m1 := hQ5.out.cell 1
    have m2 := hQ5.out.cell 2
    have m3 := hQ5.out.cell 3
    have m4 := hQ5.out.cell 4
    simp [docc] at m0 m1 m2 m3 m4
    have r0 := (hR5.out).cell 0
    have f0 := (hR5.out).frozen 0
    have r1 := ((hR5.out).store 0 (.slice C2 (xs.length + n) capC2)).cell 1
    have f1 := ((hR5.out).store 0 (.slice C2 (xs.length + n) capC2)).frozen 1
    have r2 := (((hR5.out).store 0 (.slice C2 (xs.length + n) capC2)).store 1 (.slice T2 (ds.length + 1) capT2)).cell 2
    have f2 := (((hR5.out).store 0 (.slice C2 (xs.length + n) capC2)).store 1 (.slice T2 (ds.length + 1) capT2)).frozen 2
    have r3 := ((((hR5.out).store 0 (.slice C2 (xs.length + n) capC2)).store 1 (.slice T2 (ds.length + 1) capT2)).store 2 (.slice N nodes.length capN)).cell 3
    have f3 := ((((hR5.out).store 0 (.slice C2 (xs.length + n) capC2)).store 1 (.slice T2 (ds.length + 1) capT2)).store 2 (.slice N nodes.length capN)).frozen 3
    have r4 := (((((hR5.out).store 0 (.slice C2 (xs.length + n) capC2)).store 1 (.slice T2 (ds.length + 1) capT2)).store 2 (.slice N nodes.length capN)).store 3 (.slice X next.length capX)).cell 4
    have f4 := (((((hR5.out).store 0 (.slice C2 (xs.length + n) capC2)).store 1 (.slice T2 (ds.length + 1) capT2)).store 2 (.slice N nodes.length capN)).store 3 (.slice X next.length capX)).frozen 4
    simp at r0 r1 r2 r3 r4
    have e0 := ((((((hR5.out).store 0 (.slice C2 (xs.length + n) capC2)).store 1 (.slice T2 (ds.length + 1) capT2)).store 2 (.slice N nodes.length capN)).store 3 (.slice X next.length capX)).store 4 (.slice V ws.length capV)).cell 0
    have e1 := ((((((hR5.out).store 0 (.slice C2 (xs.length + n) capC2)).store 1 (.slice T2 (ds.length + 1) capT2)).store 2 (.slice N nodes.length capN)).store 3 (.slice X next.length capX)).store 4 (.slice V ws.length capV)).cell 1
    have e2 := ((((((hR5.out).store 0 (.slice C2 (xs.length + n) capC2)).store 1 (.slice T2 (ds.length + 1) capT2)).store 2 (.slice N nodes.length capN)).store 3 (.slice X next.length capX)).store 4 (.slice V ws.length capV)).cell 2
    have e3 := ((((((hR5.out).store 0 (.slice C2 (xs.length + n) capC2)).store 1 (.slice T2 (ds.length + 1) capT2)).store 2 (.slice N nodes.length capN)).store 3 (.slice X next.length capX)).store 4 (.slice V ws.length capV)).cell 3
    have e4 := ((((((hR5.out).store 0 (.slice C2 (xs.length + n) capC2)).store 1 (.slice T2 (ds.length + 1) capT2)).store 2 (.slice N nodes.length capN)).store 3 (.slice X next.length capX)).store 4 (.slice V ws.length capV)).cell 4
    simp at e0 e1 e2 e3 e4
    go_wp2_with fail
    have hO6 := Lib.hid ((((((Only.refl (· = q + 1) W5).setCell (p := ⟨q + 1, 0, none⟩) (.inl rfl) (.slice C2 (xs.length + n) capC2)).setCell (p := ⟨q + 1, 1, none⟩) (.inl rfl) (.slice T2 (ds.length + 1) capT2)).setCell (p := ⟨q + 1, 2, none⟩) (.inl rfl) (.slice N nodes.length capN)).setCell (p := ⟨q + 1, 3, none⟩) (.inl rfl) (.slice X next.length capX)).setCell (p := ⟨q + 1, 4, none⟩) (.inl rfl) (.slice V ws.length capV))
    have hB6 := Lib.hid (((((hD5.out.2.setCell (p := ⟨q + 1, 0, none⟩) (by simp) (.slice C2 (xs.length + n) capC2)).setCell (p := ⟨q + 1, 1, none⟩) (by simp) (.slice T2 (ds.length + 1) capT2)).setCell (p := ⟨q + 1, 2, none⟩) (by simp) (.slice N nodes.length capN)).setCell (p := ⟨q + 1, 3, none⟩) (by simp) (.slice X next.length capX)).setCell (p := ⟨q + 1, 4, none⟩) (by simp) (.slice V ws.length capV))
    refine bodyPost_ret (v := .agg #[.slice C2 (xs.length + n) capC2, .slice T2 (ds.length + 1) capT2, .slice N nodes.length capN, .slice X next.length capX, .slice V ws.length capV]) (by simp [results, Try.results14, go_sem, e0, e1, e2, e3, e4]) rfl ⟨C2, capC2, T2, capT2, by simp [docv, docc], hD5.out.1.only hO6.out ?_, by rw [hq.out]; exact hB6.out, fun x hx => by rw [hq.out]; have := hq3.out x hx; omega, fun x hx => by rw [hq.out]; exact hT2.out x hx⟩
    have h5 := hTS.out.2.2.2.2.2
    rintro x (hx | hx | hx | hx | hx) e
    · have := hq3.out x hx
      omega
    · exact (h5 x (.inr (.inl hx))).2 e
    · exact (h5 x (.inr (.inr (.inl hx)))).2 e
    · exact (h5 x (.inr (.inr (.inr (.inl hx))))).2 e
    · exact (h5 x (.inr (.inr (.inr (.inr hx))))).2 e
end Go.Proofs.Ytgagemejcdbgcaa.Dc
