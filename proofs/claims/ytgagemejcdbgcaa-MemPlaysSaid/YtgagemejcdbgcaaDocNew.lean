/- Walks over layer 5's document: New. -/
import Derived.Test.YtgagemejcdbgcaaDocMake
namespace Go.Proofs.Ytgagemejcdbgcaa.Dc
open Go Go.RowKit Hp K Fl Rw Hm Ar Mm Me Rn
set_option maxRecDepth 100000

/-- A document's memory just made. -/
def Newed (w : World) (k : Nat) (e : Ending) (w' : World) : Prop :=
  ∃ D : Do, e = .returned (docv D) ∧ DocAt w' D ∧ Below w.heap.size w w' ∧ (∀ x, dfoot D x → w.heap.size ≤ x) ∧ D.xs = 1 :: List.replicate (k + 2) 0 ∧ D.ds = [(1, k + 2)] ∧ D.N = none ∧ D.X = none ∧ D.V = none ∧ D.nodes = [] ∧ D.next = [] ∧ D.ws = []
theorem row_lit {α : Type} (w : World) (e : TypeId) (c : Nat) (f : α → List Value) (cs : Array Value) (n b : Nat) (xs : List α) (hb : w.heap.size = b) (hn : xs.length = n) (hm : n ≤ maxLen) (hs : cs.size = n * c) (hcs : cs.toList = xs.flatMap f) : Row (w.alloc (.cells cs e)) e c f (some ⟨b, 0, none⟩) n xs := by
  subst hb
  subst hn
  have h1 := World.ownsRow_lit (base := 0) (e := e) (size := c) w cs xs.length (Nat.zero_le _) hm hs
  rw [hcs] at h1
  exact h1
theorem w64_made (n : Nat) : (List.replicate n (0 : Int)).flatMap w64 = (madeCells #[.int .u64 0] n).toList := by
  rw [toList_madeCells_one]
  induction n with
  | zero => rfl
  | succ k ih => simp [List.replicate_succ, List.flatMap_cons, ih, w64]
set_option maxHeartbeats 1000000 in
theorem New_doc (w : World) (k : Nat) (hk : k ≤ 8) : Calls Try.prog 11 #[.int .i64 k] w (Newed w k) := by
  obtain ⟨i0, hi0, hz0, hz1, hz2⟩ := info_parts info_u64
  have r0 : ∀ w, (Instr.makeSlice 36 (.int .i64 ((k : Int) + 3)) (.int .i64 ((k : Int) + 3))).run Try.prog w = _ := fun w => run_make (P := Try.prog) w 36 43 i0 _ Try.underlying36 hi0 hz0 .i64 .i64 ((k : Int) + 3) ((k : Int) + 3) (by omega) (Int.le_refl _) (by rw [hz2]; omega) (by omega)
  have e3 : ((k : Int) + 3).toNat = k + 3 := by omega
  simp only [e3, hz1] at r0
  clear e3 hz0
  go_enter Try.func11, Try.ntmps11
  have hm0 : (madeCells #[Value.int .u64 0] (k + 3))[0]? = some (.int .u64 0) := by
    have e : (madeCells #[Value.int .u64 0] (k + 3)).toList[0]? = some (.int .u64 0) := by rw [toList_madeCells_one]; simp
    simpa using e
  go_wp2_with fail
  have hl : ((madeCells #[Value.int .u64 0] (k + 3)).setIfInBounds 0 (.int .u64 1)).toList = (1 :: List.replicate (k + 2) (0 : Int)).flatMap w64 := by
    rw [Array.toList_setIfInBounds, ← w64_made, List.replicate_succ, List.flatMap_cons, List.flatMap_cons]
    rfl
  have hsz : ((madeCells #[Value.int .u64 0] (k + 3)).setIfInBounds 0 (.int .u64 1)).size = k + 3 := by simp [madeCells]
  refine bodyPost_ret (v := .agg #[.slice (some ⟨w.heap.size + 1, 0, none⟩) (k + 3) (k + 3), .slice (some ⟨w.heap.size + 1 + 1, 0, none⟩) 1 1, .slice none 0 0, .slice none 0 0, .slice none 0 0]) (by simp [results, Try.results11, go_sem]) rfl
    ⟨⟨some ⟨w.heap.size + 1, 0, none⟩, k + 3, 1 :: List.replicate (k + 2) 0, some ⟨w.heap.size + 1 + 1, 0, none⟩, 1, [(1, k + 2)], none, 0, [], none, 0, [], none, 0, []⟩, by simp [docv, docc], ⟨?_, ?_, .inl (Row.nil _ _ _ _), .inl (Row.nil _ _ _ _), .inl (Row.nil _ _ _ _)⟩, ?_, ?_, rfl, rfl, rfl, rfl, rfl, rfl, rfl, rfl⟩
  · refine (Row.only ?_ ((Only.refl (fun _ => False) _).alloc _) (by simp)).only ((Only.refl (fun _ => False) _).alloc _) (by simp)
    exact row_lit _ _ 1 w64 _ (k + 3) _ _ (by simp) (by simp) (by simp only [maxLen]; omega) (by rw [hsz, Nat.mul_one]) hl
  · refine Row.only ?_ ((Only.refl (fun _ => False) _).alloc _) (by simp)
    exact row_lit _ _ 2 dsc _ 1 _ _ (by simp) rfl (by simp only [maxLen]; omega) rfl (by simp [dsc])
  · exact ((((Below.refl _ _).alloc (Nat.le_refl _) _).alloc (by simp) _).alloc (by simp; omega) _).alloc (by simp; omega) _
  · rintro x (h | h | h | h | h)
    · simp [In] at h
      omega
    · simp [In] at h
      omega
    · simp [In] at h
    · simp [In] at h
    · simp [In] at h
end Go.Proofs.Ytgagemejcdbgcaa.Dc
