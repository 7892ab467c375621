/- From a walk that ends in true and leaves what was there as it was, to the last step of a statement's row: for whatever parameters. -/
import Derived.Carry
import Derived.ProofKit
import Derived.OpenShut
import Derived.Below
import Derived.Deep.Slices
import Derived.Deep.Fields
import Derived.Test.YtpfpanfpjopcjaaGreatRows
namespace Go.Proofs.YtpfpanfpjopcjaaGreat.LK
open Go.RowKit Go.WideShapes Go.ChangeShapes

theorem own : ownKnob Tryz.prog.godebug = none := by kernel_rfl

/-- All arguments read behind the call as they did ahead of it. -/
theorem all_stay {H : Type} {enc : TypeId × Value → H} {P : Program} {W W' : World} (hl : laidOutB P = true) (hB : Below W.heap.size W W') :
    ∀ (ts : List TypeId) (vs : List Value) (ds : List (DataW H)) (ps : List MemPlace), (∀ t ∈ ts, P.readableRec t = true ∧ t < P.types.size) → (∀ p ∈ ps, p.block < W.heap.size) →
      DataW.TrodAll enc P W 0 (fun _ => true) true ts vs ds ps → DataW.TrodAll enc P W' 0 (fun b => decide (b < W.heap.size)) true ts vs ds ps
  | [], [], [], _, _, _, h => h
  | t :: ts, v :: vs, d :: ds, ps, ht, hp, h => by
    obtain ⟨p, q, h1, h2, rfl⟩ := h
    have hp1 : ∀ x ∈ p, x.block < W.heap.size := fun x hx => hp x (List.mem_append_left _ hx)
    have hp2 : ∀ x ∈ q, x.block < W.heap.size := fun x hx => hp x (List.mem_append_right _ hx)
    exact ⟨p, q, Below.trod hl (ht t (List.mem_cons_self ..)).1 (ht t (List.mem_cons_self ..)).2 h1 hB hp1, all_stay hl hB ts vs ds q (fun x hx => ht x (List.mem_cons_of_mem _ hx)) hp2 h2, rfl⟩
  | [], [], _ :: _, _, _, _, h => h.elim
  | [], _ :: _, _, _, _, _, h => h.elim
  | _ :: _, [], _, _, _, _, h => h.elim
  | _ :: _, _ :: _, [], _, _, _, h => h.elim

/-- A slice of structs whose fields are of one cell each: where each field of each element lies, and that it reads. -/
theorem open_rows {H : Type} {enc : TypeId × Value → H} {P : Program} {w : World} {base : Nat} {spare : Nat → Bool} {held : Bool} {r : Reach} {b0 : Nat} {t e : TypeId} {fs : Array Field} {v : Value} {d : DataW H} {p : List MemPlace}
    (ht : P.underlying t = some (.slice e)) (he : P.underlying e = some (.struct fs)) (hone : Go.Deep.oneCellFields P fs = true) (hC : P.cellsOf e = fs.size)
    (hv : Value.okWide P w r b0 t v) (h : DataW.Trod enc P w base spare held t v d p) :
    ∃ (A : Option Addr) (len cap : Nat), v = .slice A len cap ∧ len ≤ maxLen ∧ ∀ i, i < len → ∃ a : Addr, A = some a ∧
      ∀ (j : Nat) (f : Field), fs[j]? = some f → ∃ (u : Value) (n : Nat) (y : DataW H × List MemPlace), w.cell? (a.add (i * fs.size + j)) = some u ∧ DataW.trod enc P w base spare held n f.type [u] = some y := by
  obtain ⟨A, len, cap, rfl⟩ := okWide_slice ht hv
  obtain ⟨fuel, hf⟩ := h
  have hcs : (Value.slice A len cap).cells.toList = [.slice A len cap] := rfl
  rw [hcs] at hf
  rcases Go.Deep.open_slice ht hf with ⟨h0, _⟩ | ⟨a, len', cap', m, n, D, Pl, hcs', _, hl, hm, hmm, _, hi⟩
  · injection h0 with h0 _
    injection h0 with h1 h2 h3
    subst h1; subst h2; subst h3
    exact ⟨_, _, _, rfl, by simp [maxLen], fun i hi => by omega⟩
  · injection hcs' with h0 _
    injection h0 with h1 h2 h3
    subst h1; subst h2; subst h3
    have hlm : len ≤ m := by rw [hmm]; split <;> omega
    refine ⟨_, _, _, rfl, Nat.le_trans hl hm, fun i hlt => ⟨a, rfl, fun j f hj => ?_⟩⟩
    obtain ⟨cs', hc, ht'⟩ := hi i (by omega)
    rw [hC] at hc
    obtain ⟨ys, n', _, _, hlen, hyl, hff⟩ := DataW.trod_struct he ht'
    obtain ⟨_, hcl, hat⟩ := World.cells?_some hc
    obtain ⟨ho, hk⟩ := Go.Deep.hone_of hone j f hj
    have hjl : j < fs.size := (Array.getElem?_eq_some_iff.1 hj).1
    have hcell := hat j hjl
    have hv : cs'[j]? = some (cs'[j]'(by omega)) := List.getElem?_eq_getElem (by omega)
    have h1 := hff j f hj
    rw [ho, hk] at h1
    have hone' : (cs'.drop j).take 1 = [cs'[j]'(by omega)] := by
      rw [List.drop_eq_getElem_cons (by omega)]
      rfl
    rw [hone'] at h1
    have hys : ys[j]? = some (ys[j]'(by omega)) := List.getElem?_eq_getElem (by omega)
    refine ⟨_, _, _, ?_, h1.trans hys⟩
    rw [← Go.Deep.add_add, hcell, hv]

/-- A cell that holds something is at a plain address. -/
theorem plain_of {w : World} {a : Addr} {u : Value} (h : w.cell? a = some u) : ∃ b o, a = ⟨b, o, none⟩ ∧ b < w.heap.size := by
  have hlt := World.block_lt_of_cell? w a h
  obtain ⟨b, o, sp⟩ := a
  unfold World.cell? at h
  cases sp with
  | none => exact ⟨b, o, rfl, hlt⟩
  | some s =>
    exfalso
    revert h
    simp only [Option.isSome_some, if_true]
    split <;> simp

/-- The same, at plain addresses. -/
theorem rows_plain {H : Type} {enc : TypeId × Value → H} {P : Program} {w : World} {base : Nat} {spare : Nat → Bool} {held : Bool} {r : Reach} {b0 : Nat} {t e : TypeId} {fs : Array Field} {v : Value} {d : DataW H} {p : List MemPlace}
    (ht : P.underlying t = some (.slice e)) (he : P.underlying e = some (.struct fs)) (hone : Go.Deep.oneCellFields P fs = true) (hC : P.cellsOf e = fs.size) (h0 : 0 < fs.size)
    (hv : Value.okWide P w r b0 t v) (h : DataW.Trod enc P w base spare held t v d p) :
    ∃ (A : Option Addr) (len cap : Nat), v = .slice A len cap ∧ len ≤ maxLen ∧ ∀ i, i < len → ∃ b o : Nat, A = some ⟨b, o, none⟩ ∧ b < w.heap.size ∧
      ∀ (j : Nat) (f : Field), fs[j]? = some f → ∃ (u : Value) (n : Nat) (y : DataW H × List MemPlace), w.cell? ⟨b, o + (i * fs.size + j), none⟩ = some u ∧ DataW.trod enc P w base spare held n f.type [u] = some y := by
  obtain ⟨A, len, cap, rfl, hl, hrow⟩ := open_rows ht he hone hC hv h
  refine ⟨A, len, cap, rfl, hl, fun i hi => ?_⟩
  obtain ⟨a, ha, hf⟩ := hrow 0 (by omega)
  obtain ⟨u, _, _, hc, _⟩ := hf 0 _ (Array.getElem?_eq_getElem h0)
  rw [show a.add (0 * fs.size + 0) = a from by simp [Addr.add]] at hc
  obtain ⟨b, o, rfl, hb⟩ := plain_of hc
  refine ⟨b, o, ha, hb, fun j f hj => ?_⟩
  obtain ⟨a', ha', hf'⟩ := hrow i hi
  rw [ha] at ha'
  injection ha' with ha'
  subst ha'
  obtain ⟨u', n', y', hc', ht'⟩ := hf' j f hj
  exact ⟨u', n', y', by rw [← Addr.add_lit]; exact hc', ht'⟩

/-- A slice of structs of whatever fields: where the cells of each element lie, and that the element reads. -/
theorem rows_raw {H : Type} {enc : TypeId × Value → H} {P : Program} {w : World} {base : Nat} {spare : Nat → Bool} {held : Bool} {r : Reach} {b0 : Nat} {t e : TypeId} {v : Value} {d : DataW H} {p : List MemPlace} {C : Nat}
    (ht : P.underlying t = some (.slice e)) (hC : P.cellsOf e = C) (h0 : 0 < C)
    (hv : Value.okWide P w r b0 t v) (h : DataW.Trod enc P w base spare held t v d p) :
    ∃ (A : Option Addr) (len cap : Nat), v = .slice A len cap ∧ len ≤ maxLen ∧ ∀ i, i < len → ∃ (b o : Nat) (cs : List Value), A = some ⟨b, o, none⟩ ∧ b < w.heap.size ∧ cs.length = C ∧
      (∀ j, j < C → w.cell? ⟨b, o + (i * C + j), none⟩ = cs[j]?) ∧ ∃ (n : Nat) (y : DataW H × List MemPlace), DataW.trod enc P w base spare held n e cs = some y := by
  obtain ⟨A, len, cap, rfl⟩ := okWide_slice ht hv
  obtain ⟨fuel, hf⟩ := h
  have hcs : (Value.slice A len cap).cells.toList = [.slice A len cap] := rfl
  rw [hcs] at hf
  rcases Go.Deep.open_slice ht hf with ⟨h0, _⟩ | ⟨a, len', cap', m, n, D, Pl, hcs', _, hl, hm, hmm, _, hi⟩
  · injection h0 with h0 _
    injection h0 with h1 h2 h3
    subst h1; subst h2; subst h3
    exact ⟨_, _, _, rfl, by simp [maxLen], fun i hi => by omega⟩
  · injection hcs' with h0 _
    injection h0 with h1 h2 h3
    subst h1; subst h2; subst h3
    have hlm : len ≤ m := by rw [hmm]; split <;> omega
    refine ⟨_, _, _, rfl, Nat.le_trans hl hm, fun i hlt => ?_⟩
    obtain ⟨cs', hc, ht'⟩ := hi i (by omega)
    rw [hC] at hc
    obtain ⟨_, hcl, hat⟩ := World.cells?_some hc
    have hpl : ∃ b o, a = ⟨b, o, none⟩ ∧ b < w.heap.size := by
      obtain ⟨cs0, hc0, _⟩ := hi 0 (by omega)
      rw [hC] at hc0
      obtain ⟨_, hcl0, hat0⟩ := World.cells?_some hc0
      have h1 := hat0 0 h0
      rw [List.getElem?_eq_getElem (by omega)] at h1
      refine plain_of (a := a) (w := w) (by simpa [Addr.add] using h1)
    obtain ⟨b, o, rfl, hb⟩ := hpl
    exact ⟨b, o, cs', rfl, hb, hcl, fun j hj => by rw [← hat j hj, Addr.add_lit, Addr.add_lit, Nat.add_assoc], n, _, ht'⟩

/-- A field of a struct that reads: it reads. -/
theorem struct_field {H : Type} {enc : TypeId × Value → H} {P : Program} {w : World} {base : Nat} {spare : Nat → Bool} {held : Bool} {fuel : Nat} {t : TypeId} {cs : List Value} {x : DataW H × List MemPlace} {fs : Array Field}
    (ht : P.underlying t = some (.struct fs)) (h : DataW.trod enc P w base spare held fuel t cs = some x) (i T off sz : Nat) (hfi : (fs[i]?).map (fun f => (f.type, f.offset)) = some (T, off)) (hs : P.cellsOf T = sz) :
    ∃ (n : Nat) (z : DataW H × List MemPlace), DataW.trod enc P w base spare held n T ((cs.drop off).take sz) = some z := by
  obtain ⟨ys, n', _, _, _, hyl, hff⟩ := DataW.trod_struct ht h
  cases hf : fs[i]? with
  | none => rw [hf] at hfi; simp at hfi
  | some f =>
    rw [hf] at hfi
    simp at hfi
    have h1 := hff i f hf
    rw [hfi.1, hfi.2, hs] at h1
    have hi : i < fs.size := (Array.getElem?_eq_some_iff.1 hf).1
    rw [List.getElem?_eq_getElem (by omega)] at h1
    exact ⟨_, _, h1⟩

/-- A statement's last step. -/
theorem post_true {H : Type} {enc : TypeId × Value → H} {P : Program} {f : Func} {s : ChangeSpec} {apart fresh handsOn : Bool} {W W' : World} {args : Array Value} {ds : List (DataW H)} {before : List MemPlace} {tb : TypeId}
    (hl : laidOutB P = true) (hts : (f.params.toList.all fun t => P.readableRec t && decide (t < P.types.size)) = true) (hv : s.vars = []) (hr : f.resultTypes = #[tb]) (hb : P.underlying tb = some .bool)
    (hs1 : (s.fn H (ds ++ [])).results = [.lit (.bool true)]) (hs2 : (s.fn H (ds ++ [])).args = ds) (hs3 : (s.fn H (ds ++ [])).vars = [])
    (hW : DataW.Whole enc P f.params.toList s.vars apart W args.toList ds [] before) (hB : Below W.heap.size W W') :
    s.post enc P f apart fresh handsOn false W args (.bool true) W' := by
  have hW' := hW
  obtain ⟨p, q, hA, hV, rfl, hz, hn⟩ := hW
  rw [hv] at hV
  have hq : q = [] := hV
  subst hq
  have hlt : ∀ x ∈ p ++ [], x.block < W.heap.size := fun x hx => hW'.lt x hx
  simp only [List.append_nil] at hlt
  refine ⟨ds, [], _, [], p, [], hW', ?_, ?_, ?_, ?_, fun h => by cases h⟩
  · rw [hr, hs1]
    exact trodAll_mk1 (shut_bool hb _)
  · rw [hs2]
    exact all_stay hl hB _ _ _ _ (fun t ht => by simpa using List.all_eq_true.1 hts t ht) hlt hA
  · rw [hv, hs3]
    exact rfl
  · refine World.keptBut_mono (fun x hx => ?_) (hB.frame (· ∈ p))
    exact ⟨by simpa using hx, Or.inr (Or.inl hx)⟩

end Go.Proofs.YtpfpanfpjopcjaaGreat.LK
