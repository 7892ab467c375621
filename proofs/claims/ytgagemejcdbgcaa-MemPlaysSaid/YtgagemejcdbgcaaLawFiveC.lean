/- What the great statement of layer 5 keeps: the memory, the document's memory, the handles that were made; which blocks they lie in, apart from each other; what is known of what they hold. -/
import Derived.Test.YtgagemejcdbgcaaLawFiveA
import Derived.Test.YtgagemejcdbgcaaDocNew
namespace Go.Proofs.Ytgagemejcdbgcaa.LawFive
open Go Go.RowKit Hp K Fl Rw Hm Ar Mm Me LK Dc
set_option maxRecDepth 100000

/-- Rows of one type: no block in two of them. -/
def Six (l : List (Option Addr)) : Prop := ∀ i j, i ≠ j → ∀ x, In (l.getD i none) x → ¬ In (l.getD j none) x
theorem set_getD (l : List (Option Addr)) (i : Nat) (A : Option Addr) (j : Nat) : (l.set i A).getD j none = if j = i ∧ i < l.length then A else l.getD j none := by
  simp only [List.getD_eq_getElem?_getD, List.getElem?_set]
  by_cases h : j = i
  · subst h
    by_cases hl : j < l.length
    · simp [hl]
    · simp [hl, List.getElem?_eq_none (Nat.le_of_not_lt hl)]
  · have h' : ¬ i = j := fun e => h e.symm
    simp [h, h']
theorem Six.set {l : List (Option Addr)} (h : Six l) (i : Nat) {A : Option Addr} {n : Nat} (hlt : ∀ j x, In (l.getD j none) x → x < n) (hA : ∀ x, In A x → In (l.getD i none) x ∨ n ≤ x) : Six (l.set i A) := by
  intro a b hab x ha hb
  rw [set_getD] at ha hb
  by_cases h1 : a = i ∧ i < l.length
  · rw [if_pos h1] at ha
    by_cases h2 : b = i ∧ i < l.length
    · exact hab (h1.1.trans h2.1.symm)
    · rw [if_neg h2] at hb
      rcases hA x ha with q | q
      · exact h i b (by rw [← h1.1]; exact hab) x q hb
      · have := hlt b x hb
        omega
  · rw [if_neg h1] at ha
    by_cases h2 : b = i ∧ i < l.length
    · rw [if_pos h2] at hb
      rcases hA x hb with q | q
      · exact h a i (by rw [← h2.1]; exact hab) x ha q
      · have := hlt a x ha
        omega
    · rw [if_neg h2] at hb
      exact h a b hab x ha hb

structure St (W w : World) (M : Mo) (D : Do) (nb : Nat) (H : Option Addr) (capH : Nat) (hs : List Nat) : Prop where
  mem : MemAt w M
  doc : DocAt w D
  box : Blk w nb 39 (docc D)
  hnds : Row w 43 1 hnd H capH hs
  below : Below W.heap.size W w
  mlo : ∀ x, mfoot M x → W.heap.size ≤ x
  dlo : ∀ x, dfoot D x → W.heap.size ≤ x
  nlo : W.heap.size ≤ nb
  hlo : ∀ x, In H x → W.heap.size ≤ x
  six : Six [M.A, D.C, D.N, D.X, D.V, H]

section
variable {W w w' : World} {M M' : Mo} {D D' : Do} {nb : Nat} {H H' : Option Addr} {capH capH' : Nat} {hs hs' : List Nat}
theorem mem_u64 (h : MemAt w M) {x : Nat} (hx : mfoot M x) (hu : Ty w x [43]) : In M.A x := by
  obtain ⟨h1, h2, h3, h4, h5, h6⟩ := h
  rcases hx with rfl | (rfl | hx) | hx | hx | hx | hx
  · exact ((blk_ty h1).apart hu (by decide)).elim
  · exact ((blk_ty h2.1).apart hu (by decide)).elim
  · exact hx
  · exact ((locks_ty h3 hx).apart hu (by decide)).elim
  · exact ((arena_ty h4 hx).apart hu (by decide)).elim
  · exact ((row_ty h5 hx).apart hu (by decide)).elim
  · exact ((row_ty h6 hx).apart hu (by decide)).elim
theorem St.lt (h : St W w M D nb H capH hs) : ∀ j x, In ([M.A, D.C, D.N, D.X, D.V, H].getD j none) x → x < w.heap.size := by
  intro j x hx
  match j with
  | 0 => exact h.mem.lt (.inr (.inl (.inr hx)))
  | 1 => exact h.doc.lt (.inl hx)
  | 2 => exact h.doc.lt (.inr (.inr (.inl hx)))
  | 3 => exact h.doc.lt (.inr (.inr (.inr (.inl hx))))
  | 4 => exact h.doc.lt (.inr (.inr (.inr (.inr hx))))
  | 5 => exact h.hnds.lt hx
  | n + 6 => simp [In] at hx
theorem St.md (h : St W w M D nb H capH hs) {x : Nat} (hx : mfoot M x) : ¬ dfoot D x := by
  intro hd
  have hd' := hd
  obtain ⟨h1, h2, h3, h4, h5⟩ := h.doc
  rcases hd with hd | hd | hd | hd | hd
  · exact h.six 0 1 (by decide) x (mem_u64 h.mem hx (row_ty h1 hd)) hd
  · exact (h.mem.ty hx).apart (row_ty h2 hd) (by decide)
  · exact h.six 0 2 (by decide) x (mem_u64 h.mem hx (h3.ty hd)) hd
  · exact h.six 0 3 (by decide) x (mem_u64 h.mem hx (h4.ty hd)) hd
  · exact h.six 0 4 (by decide) x (mem_u64 h.mem hx (h5.ty hd)) hd
theorem St.mn (h : St W w M D nb H capH hs) : ¬ mfoot M nb := fun hx => (h.mem.ty hx).apart (blk_ty h.box) (by decide)
theorem St.mh (h : St W w M D nb H capH hs) {x : Nat} (hx : mfoot M x) : ¬ In H x := fun hh => h.six 0 5 (by decide) x (mem_u64 h.mem hx (row_ty h.hnds hh)) hh
theorem St.dn (h : St W w M D nb H capH hs) : ¬ dfoot D nb := fun hx => (h.doc.ty hx).apart (blk_ty h.box) (by decide)
theorem St.dh (h : St W w M D nb H capH hs) {x : Nat} (hx : dfoot D x) : ¬ In H x := by
  intro hh
  rcases hx with hx | hx | hx | hx | hx
  · exact h.six 1 5 (by decide) x hx hh
  · exact (row_ty h.doc.2.1 hx).apart (row_ty h.hnds hh) (by decide)
  · exact h.six 2 5 (by decide) x hx hh
  · exact h.six 3 5 (by decide) x hx hh
  · exact h.six 4 5 (by decide) x hx hh
theorem St.nh (h : St W w M D nb H capH hs) : ¬ In H nb := fun hh => (row_ty h.hnds hh).apart (blk_ty h.box) (by decide)
theorem St.down (h : St W w M D nb H capH hs) (hb : Below w.heap.size w w') : St W w' M D nb H capH hs := by
  have ho := Only.ofBelow hb (fun _ => False)
  exact ⟨h.mem.below hb, h.doc.below hb, h.box.only ho (by simp), h.hnds.only ho (by simp), h.below.trans (hb.mono h.below.size), h.mlo, h.dlo, h.nlo, h.hlo, h.six⟩
theorem St.drewN (h : St W w M D nb H capH hs) (n : Nat) : St W (w.drewN n) M D nb H capH hs := h.down (below_drewN (Below.refl _ _) n)
theorem St.alloc (h : St W w M D nb H capH hs) (o : Obj) : St W (w.alloc o) M D nb H capH hs := h.down ((Below.refl _ _).alloc (Nat.le_refl _) _)
/-- The memory turned. -/
theorem St.memory (h : St W w M D nb H capH hs) (hM : MemAt w' M') (ho : Only (mfoot M) w w') (hf : ∀ x, mfoot M' x → mfoot M x ∨ w.heap.size ≤ x) (hA : ∀ x, In M'.A x → In M.A x ∨ w.heap.size ≤ x) : St W w' M' D nb H capH hs :=
  ⟨hM, h.doc.only ho (fun x hx hm => h.md hm hx), h.box.only ho h.mn, h.hnds.only ho (fun x hx hm => h.mh hm hx), h.below.trans (ho.toBelow h.below.size (fun x hx hm => by have := h.mlo x hm; omega)),
    fun x hx => by
      rcases hf x hx with q | q
      · exact h.mlo x q
      · exact Nat.le_trans h.below.size q,
    h.dlo, h.nlo, h.hlo, h.six.set 0 h.lt hA⟩
/-- The document's memory turned. -/
theorem St.document (h : St W w M D nb H capH hs) (hD : DocAt w' D') (hB : Blk w' nb 39 (docc D')) (ho : Only (fun x => x = nb ∨ dfoot D x) w w')
    (hC : ∀ x, In D'.C x → In D.C x ∨ w.heap.size ≤ x) (hT : ∀ x, In D'.T x → In D.T x ∨ w.heap.size ≤ x) (hN : ∀ x, In D'.N x → In D.N x ∨ w.heap.size ≤ x) (hX : ∀ x, In D'.X x → In D.X x ∨ w.heap.size ≤ x) (hV : ∀ x, In D'.V x → In D.V x ∨ w.heap.size ≤ x) (h6 : Six [M.A, D'.C, D'.N, D'.X, D'.V, H]) : St W w' M D' nb H capH hs := by
  refine ⟨h.mem.only ho (fun x hx q => ?_), hD, hB, h.hnds.only ho (fun x hx q => ?_), h.below.trans (ho.toBelow h.below.size (fun x hx q => ?_)), h.mlo, fun x hx => ?_, h.nlo, h.hlo, h6⟩
  · rcases q with q | q
    · subst q; exact h.mn hx
    · exact h.md hx q
  · rcases q with q | q
    · subst q; exact h.nh hx
    · exact h.dh q hx
  · rcases q with q | q
    · have := h.nlo; omega
    · have := h.dlo x q; omega
  · have hs := h.below.size
    have hd := h.dlo x
    rcases hx with hx | hx | hx | hx | hx
    · rcases hC x hx with q | q
      · exact hd (.inl q)
      · omega
    · rcases hT x hx with q | q
      · exact hd (.inr (.inl q))
      · omega
    · rcases hN x hx with q | q
      · exact hd (.inr (.inr (.inl q)))
      · omega
    · rcases hX x hx with q | q
      · exact hd (.inr (.inr (.inr (.inl q))))
      · omega
    · rcases hV x hx with q | q
      · exact hd (.inr (.inr (.inr (.inr q))))
      · omega
/-- The handles turned. -/
theorem St.hands (h : St W w M D nb H capH hs) (hH : Row w' 43 1 hnd H' capH' hs') (ho : Only (In H) w w') (hA : ∀ x, In H' x → In H x ∨ w.heap.size ≤ x) : St W w' M D nb H' capH' hs' :=
  ⟨h.mem.only ho (fun x hx q => h.mh hx q), h.doc.only ho (fun x hx q => h.dh hx q), h.box.only ho h.nh, hH, h.below.trans (ho.toBelow h.below.size (fun x hx q => by have := h.hlo x q; omega)), h.mlo, h.dlo, h.nlo,
    fun x hx => by
      rcases hA x hx with q | q
      · exact h.hlo x q
      · exact Nat.le_trans h.below.size q,
    h.six.set 5 h.lt hA⟩
end

/-! ### what is known of what they hold -/
def Gens (ss : List Sl) (B : Nat) : Prop := ∀ k, (at' ss k).gen ≤ B
theorem gens_set {ss : List Sl} {B : Nat} (h : Gens ss B) {j : Nat} (hj : j < ss.length) (s : Sl) (hs : s.gen ≤ B) : Gens (ss.set j s) B := fun k => by
  rw [at_set hj]
  by_cases e : k = j
  · rw [if_pos e]; exact hs
  · rw [if_neg e]; exact h k
theorem gens_mono {ss : List Sl} {B B' : Nat} (h : Gens ss B) (hB : B ≤ B') : Gens ss B' := fun k => Nat.le_trans (h k) hB
theorem least_or (ss : List Sl) : (∀ k, k < ss.length → (at' ss k).taken = true) ∨ ∃ m, Least ss m := by
  have : ∀ n, n ≤ ss.length → (∀ k, k < n → (at' ss k).taken = true) ∨ ∃ m, Least ss m := by
    intro n
    induction n with
    | zero => intro _; exact .inl (fun k hk => by omega)
    | succ n ih =>
      intro hn
      rcases ih (by omega) with h | h
      · by_cases ht : (at' ss n).taken = true
        · refine .inl fun k hk => ?_
          by_cases e : k = n
          · subst e; exact ht
          · exact h k (by omega)
        · exact .inr ⟨n, by omega, by simpa using ht, h⟩
      · exact .inr h
  exact this _ (Nat.le_refl _)

structure Lg (k : Nat) (M : Mo) (D : Do) (hs : List Nat) : Prop where
  xs : D.xs = M.xs
  ds : D.ds = M.ds
  ws : D.ws = M.ws
  docs : Docs M.ss D.nodes D.next
  nexts : Nexts M.ss
  room : M.ss.length = 16
  gens : Gens M.ss k
  flag : M.F = false
  tabs : Tabs M.xs M.ds
  len0 : 4 ≤ M.xs.length
  len1 : M.xs.length ≤ 11 + 64 * k
  dlen : 1 ≤ M.ds.length ∧ M.ds.length ≤ k + 1
  hle : ∀ x ∈ hs, x ≤ 18446744073709551615
  hlen : hs.length ≤ k
  wlen : M.ws.length ≤ k
  nlen : D.nodes.length ≤ k
theorem Lg.next {k : Nat} {M : Mo} {D : Do} {hs : List Nat} (h : Lg k M D hs) : Lg (k + 1) M D hs :=
  { h with gens := gens_mono h.gens (Nat.le_succ _), len1 := by have := h.len1; omega, dlen := by have := h.dlen; omega, hlen := by have := h.hlen; omega, wlen := by have := h.wlen; omega, nlen := by have := h.nlen; omega }
/-- What holds ahead of each act. -/
def Inv (W w : World) (m nb : Nat) (v : Value) (k : Nat) : Prop := ∃ (M : Mo) (D : Do) (H : Option Addr) (capH : Nat) (hs : List Nat), v = .slice H hs.length capH ∧ M.m = m ∧ St W w M D nb H capH hs ∧ Lg k M D hs
/-- What was made new is what holds ahead of the first act. -/
theorem inv_start {W w w1 w2 : World} {n : Nat} (hn : 1 ≤ n ∧ n ≤ 8) {M : Mo} (hM : MemAt w M) (hml : ∀ x, mfoot M x → W.heap.size ≤ x) (hB : Below W.heap.size W w) (m1 : M.xs = 1 :: List.replicate (n + 2) 0) (m2 : M.ss = List.replicate 16 .zero) (m3 : M.F = false) (m4 : M.ds = [(1, n + 2)]) (m5 : M.ws = [])
    {D : Do} (hD : DocAt w1 D) (hB1 : Below w.heap.size w w1) (hdl : ∀ x, dfoot D x → w.heap.size ≤ x) (d1 : D.xs = 1 :: List.replicate (n + 2) 0) (d2 : D.ds = [(1, n + 2)]) (d3 : D.N = none) (d4 : D.X = none) (d5 : D.V = none) (d6 : D.nodes = []) (d7 : D.next = []) (d8 : D.ws = [])
    (hw : w2 = w1.alloc (.cells (docc D) 39)) : Inv W w2 M.m w1.heap.size (.slice none 0 0) 0 := by
  subst hw
  refine ⟨M, D, none, 0, [], rfl, rfl, ⟨(hM.below hB1).alloc _, hD.alloc _, Blk.made _ _ _, Row.nil _ _ _ _, (hB.trans (hB1.mono hB.size)).alloc (Nat.le_trans hB.size hB1.size) _, hml, fun x hx => Nat.le_trans hB.size (hdl x hx), Nat.le_trans hB.size hB1.size, by simp [In], ?_⟩, ?_⟩
  · have hC : ∀ x, In M.A x → ¬ In D.C x := fun x hx hc => by
      have h1 := hM.lt (.inr (.inl (.inr hx)))
      have h2 := hdl x (.inl hc)
      omega
    intro i j hij x hi hj
    match i, j with
    | 0, 0 => exact hij rfl
    | 0, 1 => exact hC x hi hj
    | 1, 0 => exact hC x hj hi
    | 1, 1 => exact hij rfl
    | 2, _ => simp [d3, In] at hi
    | 3, _ => simp [d4, In] at hi
    | 4, _ => simp [d5, In] at hi
    | 5, _ => simp [In] at hi
    | _ + 6, _ => simp [In] at hi
    | _, 2 => simp [d3, In] at hj
    | _, 3 => simp [d4, In] at hj
    | _, 4 => simp [d5, In] at hj
    | _, 5 => simp [In] at hj
    | _, _ + 6 => simp [In] at hj
  · have hz : ∀ k, at' (List.replicate 16 Sl.zero) k = .zero := fun k => by
      simp only [at', List.getD, List.getElem?_replicate]
      split <;> rfl
    refine ⟨by rw [m1, d1], by rw [m4, d2], by rw [m5, d8], by rw [m2, d6, d7]; exact docs_new 16, fun k => by rw [m2, hz]; exact ⟨by decide, by decide⟩, by rw [m2]; simp, fun k => by rw [m2, hz]; exact Nat.le_refl _, m3, ?_, by rw [m1]; simp; omega, by rw [m1]; simp; omega, by rw [m4]; simp, by simp, by simp, by rw [m5]; simp, by rw [d6]; simp⟩
    intro i hi
    rw [m4] at hi ⊢
    have : i = 0 := by simpa using hi
    subst this
    rw [m1]
    exact ⟨by show 1 ≤ 1; omega, by show 1 ≤ 65536; omega, by show n + 2 + 1 ≤ _; simp⟩

/-- An act's cells. -/
def actc (kd i k l : Int) : Array Value := #[.int .u8 kd, .int .i64 i, .int .u8 k, .int .u8 l]
/-- What was handed in: where each act lies, and what it holds. -/
def ActsAt (w : World) (A : Option Addr) (len : Nat) : Prop := ∀ i, i < len → ∃ (b o : Nat) (kd ii k l : Int), A = some ⟨b, o, none⟩ ∧ b < w.heap.size ∧
  (∀ j, j < 4 → w.cell? ⟨b, o + i * 4 + j, none⟩ = (actc kd ii k l)[j]?) ∧ (0 ≤ kd ∧ kd ≤ 255) ∧ (-9223372036854775808 ≤ ii ∧ ii ≤ 9223372036854775807) ∧ (0 ≤ k ∧ k ≤ 255) ∧ (0 ≤ l ∧ l ≤ 255)
theorem acts_of {H : Type} {enc : TypeId × Value → H} {w : World} {base : Nat} {spare : Nat → Bool} {held : Bool} {r : Reach} {b0 : Nat} {v : Value} {d : DataW H} {p : List MemPlace}
    (hv : Value.okWide Try.prog w r b0 22 v) (h : DataW.Trod enc Try.prog w base spare held 22 v d p) :
    ∃ (A : Option Addr) (len cap : Nat), v = .slice A len cap ∧ len ≤ maxLen ∧ ActsAt w A len := by
  obtain ⟨A, len, cap, rfl, hl, hrow⟩ := rows_raw (C := 4) Try.underlying22 (by kernel_rfl) (by decide) hv h
  refine ⟨A, len, cap, rfl, hl, fun i hi => ?_⟩
  obtain ⟨b, o, cs, rfl, hb, hcl, hat, n, y, ht⟩ := hrow i hi
  obtain ⟨_, _, f0⟩ := struct_field Try.underlying42 ht 0 5 0 1 rfl (by kernel_rfl)
  obtain ⟨_, _, f1⟩ := struct_field Try.underlying42 ht 1 3 1 1 rfl (by kernel_rfl)
  obtain ⟨_, _, f2⟩ := struct_field Try.underlying42 ht 2 5 2 1 rfl (by kernel_rfl)
  obtain ⟨_, _, f3⟩ := struct_field Try.underlying42 ht 3 5 3 1 rfl (by kernel_rfl)
  match cs, hcl with
  | [a0, a1, a2, a3], _ =>
    obtain ⟨k0, e0, _, w0⟩ := DataW.trod_int Try.underlying5 f0
    obtain ⟨k1, e1, _, w1⟩ := DataW.trod_int Try.underlying3 f1
    obtain ⟨k2, e2, _, w2⟩ := DataW.trod_int Try.underlying5 f2
    obtain ⟨k3, e3, _, w3⟩ := DataW.trod_int Try.underlying5 f3
    simp at e0 e1 e2 e3
    subst e0; subst e1; subst e2; subst e3
    refine ⟨b, o, k0, k1, k2, k3, rfl, hb, fun j hj => ?_, wf_u8 w0, wf_i64 w1, wf_u8 w2, wf_u8 w3⟩
    rw [Nat.add_assoc, hat j hj, actc, List.getElem?_toArray]
end Go.Proofs.Ytgagemejcdbgcaa.LawFive
