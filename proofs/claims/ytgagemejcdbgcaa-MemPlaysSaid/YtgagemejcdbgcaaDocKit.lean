/- Layer 5's document: rows of numbers, with room of their own or without; appends to them, as runs; what a memory of the document reads. -/
import Derived.Test.YtgagemejcdbgcaaMemReach
import Derived.ArgAppend
import Derived.Maps.AppendAt
import Derived.Deep.RegionLaw
import Derived.Lib.AppendZeros
namespace Go.Proofs.Ytgagemejcdbgcaa.Dc
open Go Go.RowKit Hp K Fl Rw Hm Ar Mm Me
set_option maxRecDepth 100000

/-! ### rows of numbers -/
/-- A slice without room: so many of a block's cells. -/
def Full (w : World) (e : TypeId) (A : Option Addr) (cap : Nat) (l : List Nat) : Prop :=
  ∃ b cs, A = some ⟨b, 0, none⟩ ∧ cap = l.length ∧ cap ≤ maxLen ∧ Blk w b e cs ∧ ∀ j, j < l.length → cs[j]? = some (.int .u64 (nth l j : Nat))
/-- A slice of numbers, with room of its own or without. -/
def Lst (w : World) (e : TypeId) (A : Option Addr) (cap : Nat) (l : List Nat) : Prop := Row w e 1 hnd A cap l ∨ Full w e A cap l
theorem nth_set (l : List Nat) (k y j : Nat) (hk : k < l.length) : nth (l.set k y) j = if j = k then y else nth l j := by
  unfold nth
  simp only [List.getD_eq_getElem?_getD, List.getElem?_set]
  by_cases h : j = k
  · subst h; simp [hk]
  · have h' : ¬ k = j := fun e => h e.symm
    simp [h, h']
theorem flat_nth (l : List Nat) (j : Nat) (u : Value) (h : (l.flatMap hnd)[j]? = some u) : j < l.length ∧ u = .int .u64 (nth l j : Nat) := by
  have e := flat_at hnd_len l j 0 (by omega)
  rw [Nat.mul_one, Nat.add_zero] at e
  rw [e] at h
  by_cases hj : j < l.length
  · rw [nth_some hj] at h
    simp [hnd] at h
    exact ⟨hj, h.symm⟩
  · rw [List.getElem?_eq_none (by omega)] at h
    simp at h
theorem hnd_flat (l : List Nat) : (l.flatMap hnd).length = l.length := by have := flat_len hnd_len l; simpa using this
section
variable {w w' : World} {e : TypeId} {A : Option Addr} {cap : Nat} {l : List Nat}
theorem Lst.ty (h : Lst w e A cap l) {x : Nat} (hx : In A x) : Ty w x [e] := by
  rcases h with h | ⟨b, cs, rfl, _, _, hb, _⟩
  · exact row_ty h hx
  · have : b = x := by simpa [In] using hx
    subst this
    exact blk_ty hb
theorem Lst.lt (h : Lst w e A cap l) {x : Nat} (hx : In A x) : x < w.heap.size := (h.ty hx).lt
theorem Lst.only {S : Nat → Prop} (h : Lst w e A cap l) (ho : Only S w w') (hn : ∀ b, In A b → ¬ S b) : Lst w' e A cap l := by
  rcases h with h | ⟨b, cs, rfl, hc, hm, hb, hj⟩
  · exact .inl (h.only ho hn)
  · exact .inr ⟨b, cs, rfl, hc, hm, hb.only ho (hn b rfl), hj⟩
theorem Lst.at (h : Lst w e A cap l) (k : Nat) (hk : k < l.length) : ∃ b, A = some ⟨b, 0, none⟩ ∧ b < w.heap.size ∧ w.cell? ⟨b, k, none⟩ = some (.int .u64 (nth l k : Nat)) ∧ w.frozen? ⟨b, k, none⟩ = false := by
  rcases h with h | ⟨b, cs, rfl, hc, hm, hb, hj⟩
  · exact hnds_at h k hk
  · exact ⟨b, rfl, hb.lt, by rw [hb.cell]; exact hj k hk, hb.frozen k⟩
theorem Lst.capLe (h : Lst w e A cap l) : l.length ≤ cap ∧ cap ≤ 9223372036854775807 := by
  rcases h with h | ⟨b, cs, _, hc, hm, _⟩
  · have := h.capLe
    simp only [maxLen] at this
    omega
  · simp only [maxLen] at hm
    omega
theorem Lst.store (h : Lst w e A cap l) {b : Nat} (hA : A = some ⟨b, 0, none⟩) (k : Nat) (hk : k < l.length) (y : Nat) : Lst (w.setCell ⟨b, k, none⟩ (.int .u64 y)) e A cap (l.set k y) := by
  subst hA
  rcases h with h | ⟨b', cs, hb', hc, hm, hb, hj⟩
  · refine .inl ?_
    have hs := World.ownsRow.stored h k (.int .u64 y)
    have e1 := flat_set hnd_len l k 0 (by omega) (nth l k) y (.int .u64 y) (nth_some hk) rfl
    rw [Nat.mul_one, Nat.add_zero] at e1
    show World.ownsRow _ 0 e 1 (.slice _ (l.set k y).length cap) (l.set k y).length ((l.set k y).flatMap hnd)
    rw [e1, List.length_set]
    exact hs.1
  · obtain rfl : b = b' := by simpa using hb'
    refine .inr ⟨b, _, rfl, by rw [List.length_set]; exact hc, hm, hb.store k _, fun j hjl => ?_⟩
    rw [List.length_set] at hjl
    rw [nth_set l k y j hk]
    have := hj j hjl
    by_cases e : j = k
    · subst e
      rw [if_pos rfl, Array.getElem?_setIfInBounds_self_of_lt]
      exact (Array.getElem?_eq_some_iff.1 this).1
    · rw [if_neg e, Array.getElem?_setIfInBounds_ne (fun q => e q.symm)]
      exact this
end

/-! ### appends -/
section
variable {P : Program}
/-- A run of append, as a step of a region that draws. -/
theorem step_run {ops : Array Oper} {o : Oper} {a : Act} {w : World} {K : Act → World → Prop} {Q : Exit → Act → World → Prop} {E : Prop}
    (hg : o.guard = none) (s x : Operand) (t : TypeId) (hop : o.op = Op.call { callee := Callee.builtin Builtin.append, args := #[s, x], argTypes := #[t, t] })
    (vs vx : Value) (hs : a.eval s = vs) (hx : a.eval x = vx) {v : Value} {w' : World} (hrun : (Builtin.append_ #[t, t] o.type #[vs, vx]).run P w = .ok v w')
    (hK : K (a.put o.dst v) w') : if Region.wanted o (yielded ops a.tmps) = true then Oper.wp P o a w K Q else E := by
  have hw : Region.wanted o (yielded ops a.tmps) = true := by simp [Region.wanted, hg]
  rw [if_pos hw]
  unfold Oper.wp
  simp [execOp, hop, resolve, invoke, builtin, hs, hx, hrun, Result.andThen]
  exact hK

/-- append(v, y). -/
theorem run_lst (w : World) (t ty e : TypeId) (i : TypeInfo) (ht : P.underlying t = some (.slice e)) (hi : P.info? e = some i) (hz : i.zero = some (.int .u64 0)) (hsize : i.size = 1) (hby : i.bytes = 8)
    {A : Option Addr} {cap : Nat} {xs : List Nat} (h : Lst w e A cap xs) (hle : xs.length ≤ 100000) (ad : Addr) (c y : Nat) (hc : w.cell? ad = some (.int .u64 y)) :
    ∃ A' cap' w', (Builtin.append_ #[t, t] ty #[.slice A xs.length cap, .slice (some ad) 1 c]).run P w = .ok (.slice A' (xs.length + 1) cap') w' ∧ Row w' e 1 hnd A' cap' (xs ++ [y]) ∧ Only (In A) w w' ∧ ∀ b, In A' b → In A b ∨ w.heap.size ≤ b := by
  have hnews : ∀ (j : Nat) (u : Value), [Value.int .u64 (y : Int)][j]? = some u → w.cell? (ad.add j) = some u := fun j u hu => by
    cases j with
    | zero =>
      simp at hu
      subst hu
      simpa [Addr.add] using hc
    | succ j => simp at hu
  have e1 : (xs ++ [y]).flatMap hnd = xs.flatMap hnd ++ [.int .u64 (y : Int)] := by simp [hnd]
  rcases h with hR | ⟨b, cs, rfl, hcap, hm, hb, hj⟩
  · obtain ⟨v', w', hrun, hown, hg, _, hat⟩ := run_append_own_at (P := P) w 0 t ty e i (.int .u64 0) 1 8 ht hi hz hsize hby rfl (by omega) (.slice A xs.length cap) xs.length (xs.flatMap hnd) hR ad 1 c [.int .u64 (y : Int)] rfl hnews
      (by intro u hu; simp at hu; subst hu; rfl) (by simp only [maxLen]; omega) (by omega) (Nat.zero_le _)
    obtain ⟨A', cap', rfl⟩ := own_slice hown
    refine ⟨A', cap', w', hrun, ?_, (Only.refl (In A) w).grown hg (fun b hb => .inl (by rw [own_block] at hb; exact hb)), fun b hb => ?_⟩
    · show World.ownsRow _ 0 _ 1 (.slice A' (xs ++ [y]).length cap') (xs ++ [y]).length ((xs ++ [y]).flatMap hnd)
      rw [e1, List.length_append]
      exact hown
    · rw [own_block, own_block] at hat
      rcases hat with q | q
      · exact .inl (by rw [In, ← q]; exact hb)
      · refine .inr ?_
        rw [In, q] at hb
        injection hb with hb
        omega
  · subst hcap
    obtain ⟨v', w', hrun, hown, hg⟩ := run_append_arg_grows (P := P) w t ty e i (.int .u64 0) 1 8 ht hi hz hsize hby rfl (by omega) ⟨b, 0, none⟩ xs.length xs.length (xs.flatMap hnd) (by rw [hnd_flat]; omega)
      (fun j u hu => by
        obtain ⟨h1, rfl⟩ := flat_nth xs j u hu
        rw [Addr.add_lit, Nat.zero_add, hb.cell]
        exact hj j h1) ad 1 c [.int .u64 (y : Int)] rfl hnews (by omega) (by simp only [maxLen]; omega) (by omega)
    obtain ⟨A', cap', rfl⟩ := own_slice hown
    have hlt := hown.lt
    refine ⟨A', cap', w', hrun, ?_, (Only.refl (In (some ⟨b, 0, none⟩)) w).grown hg (fun _ h => by cases h), fun z hz' => ?_⟩
    · show World.ownsRow _ 0 _ 1 (.slice A' (xs ++ [y]).length cap') (xs ++ [y]).length ((xs ++ [y]).flatMap hnd)
      rw [e1, List.length_append]
      exact own_base hown (fun _ _ => Nat.zero_le _)
    · exact .inr (hlt z (by rw [own_block]; exact hz')).1

/-- append(v[:k:k], v[k+1:]...). -/
theorem run_strike (w : World) (t ty e : TypeId) (i : TypeInfo) (ht : P.underlying t = some (.slice e)) (hi : P.info? e = some i) (hz : i.zero = some (.int .u64 0)) (hsize : i.size = 1) (hby : i.bytes = 8)
    {A : Option Addr} {cap : Nat} {xs : List Nat} (h : Lst w e A cap xs) (hle : xs.length ≤ 100000) (k : Nat) (hk : k < xs.length) {b : Nat} (hA : A = some ⟨b, 0, none⟩) (o2 c : Nat) (ho2 : xs.length = k + 1 ∨ o2 = k + 1) :
    ∃ A' cap' w', (Builtin.append_ #[t, t] ty #[.slice (some ⟨b, 0, none⟩) k k, .slice (some ⟨b, o2, none⟩) (xs.length - (k + 1)) c]).run P w = .ok (.slice A' (xs.length - 1) cap') w' ∧ Lst w' e A' cap' (strike xs k) ∧ Only (fun _ => False) w w' ∧ ∀ x, In A' x → In A x ∨ w.heap.size ≤ x := by
  subst hA
  have hcells : ∀ j, j < xs.length → w.cell? ⟨b, j, none⟩ = some (.int .u64 (nth xs j : Nat)) := fun j hj => by
    obtain ⟨b', e', _, hc, _⟩ := h.at j hj
    obtain rfl : b = b' := by simpa using e'
    exact hc
  obtain ⟨cs, hb⟩ : ∃ cs, Blk w b e cs := by
    obtain ⟨t, cs, hb, ht⟩ := h.ty (x := b) rfl
    have : t = e := by simpa using ht
    subst this
    exact ⟨cs, hb⟩
  by_cases hend : xs.length = k + 1
  · have hst : strike xs k = xs.take k := by
      unfold strike
      rw [← hend, List.drop_length, List.append_nil]
    have hl : (xs.take k).length = k := by simp; omega
    have hr := run_append_room_cells (P := P) w t ty e i ht hi b 0 k k ⟨b, o2, none⟩ (xs.length - (k + 1)) c [] (by rw [hend]; simp) (by simp) (by simp) (by omega) (by simp) (by simp)
    have e0 : xs.length - (k + 1) = 0 := by omega
    have e1 : xs.length - 1 = k := by omega
    rw [e0] at hr
    refine ⟨some ⟨b, 0, none⟩, k, w, by rw [e0, e1]; simpa [World.setCells] using hr, ?_, Only.refl _ _, fun x hx => .inl hx⟩
    rw [hst]
    refine .inr ⟨b, cs, rfl, hl.symm, by simp only [maxLen]; omega, hb, fun j hj => ?_⟩
    rw [hl] at hj
    rw [← hb.cell, hcells j (by omega)]
    congr 3
    unfold nth
    simp [List.getD, hj]
  · obtain rfl : o2 = k + 1 := by omega
    have hn1 : ∀ j, j < k → nth (xs.take k) j = nth xs j := fun j hj => by unfold nth; simp [List.getD, hj]
    have hn2 : ∀ j, nth (xs.drop (k + 1)) j = nth xs (k + 1 + j) := fun j => by unfold nth; simp [List.getD, List.getElem?_drop]
    obtain ⟨v', w', hrun, hown, hg⟩ := run_append_arg_grows (P := P) w t ty e i (.int .u64 0) 1 8 ht hi hz hsize hby rfl (by omega) ⟨b, 0, none⟩ k k ((xs.take k).flatMap hnd) (by rw [hnd_flat]; simp; omega)
      (fun j u hu => by
        obtain ⟨h1, rfl⟩ := flat_nth _ j u hu
        have h1 : j < k := by simp at h1; omega
        rw [Addr.add_lit, Nat.zero_add, hn1 j h1]
        exact hcells j (by omega)) ⟨b, k + 1, none⟩ (xs.length - (k + 1)) c ((xs.drop (k + 1)).flatMap hnd) (by rw [hnd_flat]; simp)
      (fun j u hu => by
        obtain ⟨h1, rfl⟩ := flat_nth _ j u hu
        rw [List.length_drop] at h1
        rw [Addr.add_lit, hn2]
        exact hcells _ (by omega)) (by omega) (by simp only [maxLen]; omega) (by omega)
    obtain ⟨A', cap', rfl⟩ := own_slice hown
    have hlt := hown.lt
    have e1 : k + (xs.length - (k + 1)) = xs.length - 1 := by omega
    rw [e1] at hrun hown
    refine ⟨A', cap', w', hrun, .inl ?_, (Only.refl (fun _ => False) w).grown hg (fun _ h => by cases h), fun z hz' => ?_⟩
    · show World.ownsRow _ 0 _ 1 (.slice A' (strike xs k).length cap') (strike xs k).length ((xs.take k ++ xs.drop (k + 1)).flatMap hnd)
      rw [strike_len hk, List.flatMap_append]
      exact own_base hown (fun _ _ => Nat.zero_le _)
    · exact .inr (hlt z (by rw [own_block]; exact hz')).1

/-- append([]T{}, v...): a row anew. -/
theorem run_anew {α : Type} (w : World) (t ty e : TypeId) (i : TypeInfo) (z : Value) (c bytes : Nat) (ht : P.underlying t = some (.slice e)) (hi : P.info? e = some i) (hz : i.zero = some z) (hsize : i.size = c) (hby : i.bytes = bytes) (hzs : z.cells.size = c) (hsz : 0 < c)
    (f : α → List Value) (hf : ∀ x, (f x).length = c) {A : Option Addr} {cap : Nat} {xs : List α} (h : Row w e c f A cap xs) (h0 : 0 < xs.length) (hle : xs.length ≤ 2000000) (hb : bytes ≤ 1000) (b0 : Nat) :
    ∃ A' cap' w', (Builtin.append_ #[t, t] ty #[.slice (some ⟨b0, 0, none⟩) 0 0, .slice A xs.length cap]).run P w = .ok (.slice A' xs.length cap') w' ∧ Row w' e c f A' cap' xs ∧ Only (fun _ => False) w w' ∧ ∀ x, In A' x → w.heap.size ≤ x := by
  obtain ⟨g, rfl, _, _⟩ := own_form h h0
  have hbb : xs.length * bytes ≤ 140737488355328 := Nat.le_trans (Nat.mul_le_mul hle hb) (by omega)
  obtain ⟨v', w', hrun, hown, hg⟩ := run_append_arg_grows (P := P) w t ty e i z c bytes ht hi hz hsize hby hzs hsz ⟨b0, 0, none⟩ 0 0 [] (by simp) (by simp) ⟨g, 0, none⟩ xs.length cap (xs.flatMap f) (by rw [flat_len hf])
    (fun j u hu => by
      rw [Addr.add_lit, Nat.zero_add]
      have hj : j < (xs.flatMap f).length := (List.getElem?_eq_some_iff.1 hu).1
      rw [flat_len hf] at hj
      rw [World.ownsRow.cellAt h j hj]
      exact hu) (by omega) (by simp only [maxLen]; omega) (by simpa using hbb)
  obtain ⟨A', cap', rfl⟩ := own_slice hown
  have hlt := hown.lt
  rw [Nat.zero_add] at hrun hown
  refine ⟨A', cap', w', hrun, own_base hown (fun _ _ => Nat.zero_le _), (Only.refl (fun _ => False) w).grown hg (fun _ h => by cases h), fun z hz' => (hlt z (by rw [own_block]; exact hz')).1⟩
end

/-! ### a memory of the document -/
def w64 (x : Int) : List Value := [.int .u64 x]
theorem w64_len (x : Int) : (w64 x).length = 1 := rfl
structure Do where
  C : Option Addr
  capC : Nat
  xs : List Int
  T : Option Addr
  capT : Nat
  ds : List (Nat × Nat)
  N : Option Addr
  capN : Nat
  nodes : List Nat
  X : Option Addr
  capX : Nat
  next : List Nat
  V : Option Addr
  capV : Nat
  ws : List Nat
def docc (D : Do) : Array Value := #[.slice D.C D.xs.length D.capC, .slice D.T D.ds.length D.capT, .slice D.N D.nodes.length D.capN, .slice D.X D.next.length D.capX, .slice D.V D.ws.length D.capV]
def docv (D : Do) : Value := .agg (docc D)
def DocAt (w : World) (D : Do) : Prop :=
  Row w 43 1 w64 D.C D.capC D.xs ∧ Row w 65 2 dsc D.T D.capT D.ds ∧ Lst w 43 D.N D.capN D.nodes ∧ Lst w 43 D.X D.capX D.next ∧ Lst w 43 D.V D.capV D.ws
def dfoot (D : Do) (x : Nat) : Prop := In D.C x ∨ In D.T x ∨ In D.N x ∨ In D.X x ∨ In D.V x
section
variable {w w' : World} {D : Do}
theorem DocAt.only {S : Nat → Prop} (h : DocAt w D) (ho : Only S w w') (hn : ∀ x, dfoot D x → ¬ S x) : DocAt w' D :=
  ⟨h.1.only ho (fun x hx => hn x (.inl hx)), h.2.1.only ho (fun x hx => hn x (.inr (.inl hx))), h.2.2.1.only ho (fun x hx => hn x (.inr (.inr (.inl hx)))), h.2.2.2.1.only ho (fun x hx => hn x (.inr (.inr (.inr (.inl hx))))),
    h.2.2.2.2.only ho (fun x hx => hn x (.inr (.inr (.inr (.inr hx)))))⟩
theorem DocAt.below (h : DocAt w D) (hb : Below w.heap.size w w') : DocAt w' D := h.only (S := fun _ => False) (Only.ofBelow hb _) (by simp)
theorem DocAt.alloc (h : DocAt w D) (o : Obj) : DocAt (w.alloc o) D := h.only (S := fun _ => False) ((Only.refl _ _).alloc o) (by simp)
theorem DocAt.drewN (h : DocAt w D) (n : Nat) : DocAt (w.drewN n) D := h.only (S := fun _ => False) ((Only.refl _ _).drewN n) (by simp)
theorem DocAt.ty (h : DocAt w D) {x : Nat} (hx : dfoot D x) : Ty w x [43, 65] := by
  obtain ⟨h1, h2, h3, h4, h5⟩ := h
  rcases hx with hx | hx | hx | hx | hx
  · exact (row_ty h1 hx).mono (by simp)
  · exact (row_ty h2 hx).mono (by simp)
  · exact (h3.ty hx).mono (by simp)
  · exact (h4.ty hx).mono (by simp)
  · exact (h5.ty hx).mono (by simp)
theorem DocAt.lt (h : DocAt w D) {x : Nat} (hx : dfoot D x) : x < w.heap.size := (h.ty hx).lt
theorem words_at (h : DocAt w D) (k : Nat) (hk : k < D.xs.length) : ∃ b, D.C = some ⟨b, 0, none⟩ ∧ b < w.heap.size ∧ w.cell? ⟨b, k, none⟩ = some (.int .u64 (Cl.nth D.xs k)) ∧ w.frozen? ⟨b, k, none⟩ = false := by
  obtain ⟨b, e, hb, hc⟩ := h.1.cells w64_len k hk
  refine ⟨b, e, hb, ?_⟩
  have h0 := hc 0 (by omega)
  simp [w64] at h0
  have e1 : Cl.nth D.xs k = D.xs[k] := by simp [Cl.nth, List.getD, hk]
  rw [e1]
  exact h0
end
theorem info_u64 : (Try.prog.info? 43).map (fun i => (i.zero, i.size, i.bytes)) = some (some (.int .u64 0), 1, 8) := by kernel_rfl
theorem info_rdesc : (Try.prog.info? 65).map (fun i => (i.zero, i.size, i.bytes)) = some (some (.agg #[.int .i64 0, .int .i64 0]), 2, 16) := by kernel_rfl
end Go.Proofs.Ytgagemejcdbgcaa.Dc
