/- GetFinds answers true, whatever it is handed: any number of buckets, any list of pairs, any key, whatever world it is called in (that the list lies in it; that each string is at most as long as the form's own reach says). -/
import Derived.Test.YtnmmjellakgdiaaGreatTenD
import Derived.Test.YtnmmjellakgdiaaGreatSized
import Derived.ProofKit
import Derived.OpenShut
import Derived.Laws.Cover1
namespace Go.Proofs.YtnmmjellakgdiaaGreat.LawTen
open Go Go.RowKit Go.WideShapes Go.ChangeShapes Hp K Fl Rw Hm Ar Mm Me LK Wk Pc LawSix
set_option maxRecDepth 100000

/-- What is handed in, opened. -/
theorem pairs_of {H : Type} {enc : TypeId × Value → H} {w : World} {base : Nat} {spare : Nat → Bool} {held : Bool} {r : Reach} {b0 : Nat} {v : Value} {d : DataW H} {p : List MemPlace}
    (hv : Value.okWide Tryz.prog w r b0 22 v) (h : DataW.Trod enc Tryz.prog w base spare held 22 v d p) (hsz : ∀ k ∈ d.weights Tryz.prog 22, k ≤ reachBytes) :
    ∃ (A : Option Addr) (l : List Pr) (cap : Nat), v = .slice A l.length cap ∧ l.length ≤ maxLen ∧ PairsAt w A l := by
  obtain ⟨A, len, cap, rfl, hl, hrow⟩ := rows_sized Tryz.underlying22 Tryz.underlying44 (by kernel_rfl) (by kernel_rfl) (by decide) hv h
  have hall : ∀ i, i < len → ∃ x : Pr, ∃ b o : Nat, A = some ⟨b, o, none⟩ ∧ b < w.heap.size ∧ w.cell? ⟨b, o + i * 2, none⟩ = some (.string x.1) ∧ w.cell? ⟨b, o + i * 2 + 1, none⟩ = some (.string x.2) ∧ x.1.size ≤ 140737488355328 ∧ x.2.size ≤ 140737488355328 := by
    intro i hi
    obtain ⟨b, o, rfl, hb, hf⟩ := hrow i hi
    obtain ⟨u0, n0, y0, c0, t0, z0⟩ := hf 0 _ rfl
    obtain ⟨u1, n1, y1, c1, t1, z1⟩ := hf 1 _ rfl
    obtain ⟨k, e0, d0, _⟩ := DataW.trod_string Tryz.underlying9 t0
    obtain ⟨m, e1, d1, _⟩ := DataW.trod_string Tryz.underlying9 t1
    injection e0 with e0; injection e1 with e1
    subst e0; subst e1
    refine ⟨(k, m), b, o, rfl, hb, by simpa using c0, by simpa [Nat.add_assoc] using c1, ?_, ?_⟩
    · have := hsz _ (z0 k.data.toList.length (by rw [d0]; simp [DataW.weights]))
      have h3 : k.size = k.data.toList.length := (Array.length_toList).symm
      show k.size ≤ _
      rw [h3]
      exact Nat.le_trans this reach_le
    · have := hsz _ (z1 m.data.toList.length (by rw [d1]; simp [DataW.weights]))
      have h3 : m.size = m.data.toList.length := (Array.length_toList).symm
      show m.size ≤ _
      rw [h3]
      exact Nat.le_trans this reach_le
  obtain ⟨l, hll, hp⟩ := list_of hall
  subst hll
  exact ⟨A, l, cap, rfl, hl, fun i hi => hp i hi⟩
theorem finds_lifted (os : Os) (started : os.Started) (H : Type) (enc : TypeId × Value → H) :
    ReturnsInHanded {} Tryz.checked os 3 .any (Rows.getFindsSpec.pre6 enc Tryz.prog Tryz.f3 Rows.getFindsRow.domain false) (Rows.getFindsSpec.post enc Tryz.prog Tryz.f3 false true false false) := by
  refine returnsInHanded_of_change_sized (C := Tryz.checked) LK.own started (by kernel_rfl) Tryz.func3
    (ChangeSpec.witness6 (enc := enc) (C := Tryz.checked) false ⟨#[], #[.int .u8 0, .slice none 0 0, .string ⟨#[]⟩], []⟩ 8 (by kernel_rfl) (by kernel_rfl) (by kernel_rfl) (by kernel_rfl)) ?_
  intro W base args ds gs before hval0 hW hcnd hsz0 hreach
  have hval : ∀ (j : Nat) t v, Tryz.f3.params[j]? = some t → args[j]? = some v → Value.okWide Tryz.prog W .any base t v := hval0
  have hsz : (DataW.weightsEach Tryz.prog (Tryz.f3.params.toList ++ Rows.getFindsSpec.plain.varTypes Tryz.prog) (ds ++ gs)).all (· ≤ reachBytes) = true := hsz0
  have hW' := hW
  obtain ⟨p, q, hA0, hV, rfl, hfz, hnd⟩ := hW
  have hA : DataW.TrodAll enc Tryz.prog W 0 (fun _ => true) true Tryz.f3.params.toList args.toList ds p := hA0
  rw [Tryz.params3] at hA hval hsz
  obtain ⟨v0, v1, v2, d0, d1, d2, p0, p1, p2, rfl, rfl, rfl, h0, h1, h2⟩ := trodAll_three hA
  obtain ⟨rfl, rfl⟩ := trodVars_none hV
  obtain ⟨a1, rfl, rfl, rfl, w1⟩ := open_int Tryz.underlying5 (hval 0 5 v0 rfl rfl) h0
  obtain ⟨A, l, cap, rfl, hl, hP⟩ := pairs_of (hval 1 22 v1 rfl rfl) h1 (fun k hk => of_decide_eq_true (List.all_eq_true.1 hsz k (DataW.weights_mem_each (j := 1) rfl rfl k hk)))
  obtain ⟨s2, rfl, rfl, rfl, ws⟩ := Go.ChangeMaps.open_string Tryz.underlying9 (hval 2 9 v2 rfl rfl) h2
  have hs2 : s2.size ≤ 140737488355328 := by
    have := sized_string hsz (j := 2) rfl rfl
    have h3 : s2.size = s2.data.toList.length := (Array.length_toList).symm
    rw [h3]
    exact Nat.le_trans this reach_le
  refine (finds a1 (by have := K.wf_u8 w1; omega) l A cap s2 W hl (by simp only [maxLen]; omega) hP).mono fun e W' ⟨he, hb⟩ => ?_
  subst he
  exact ⟨_, rfl, post_true (tb := 4) (by kernel_rfl) (by kernel_rfl) rfl rfl Tryz.underlying4 rfl rfl rfl hW' hb⟩

theorem finds_holds : Rows.GetFindsSaid :=
  OpenClaim.holds_of_wide 3 Tryz.f3 rfl rfl rfl rfl rfl rfl rfl ⟨rfl, rfl, rfl, rfl, rfl⟩ rfl rfl rfl rfl rfl (by kernel_rfl) Tryz.func3 (by kernel_rfl)
    (of_decide_eq_true (by kernel_rfl)) (by unfold Func.isWrapper; first | (rw [if_pos (by decide +kernel)]; kernel_rfl) | (rw [if_neg (by decide +kernel)]; exact ⟨rfl, rfl⟩))
    (fun os started H enc _ => finds_lifted os started H enc)
end Go.Proofs.YtnmmjellakgdiaaGreat.LawTen
