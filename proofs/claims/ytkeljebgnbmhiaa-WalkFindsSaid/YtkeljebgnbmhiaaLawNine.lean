/- WalkFinds answers true, whatever it is handed: any list of pairs, any sum, any key, whatever world it is called in (that the list lies in it; that each string is at most as long as the form's own reach says). -/
import Derived.Test.YtkeljebgnbmhiaaNineB
import Derived.Test.YtkeljebgnbmhiaaSized
import Derived.ProofKit
import Derived.OpenShut
import Derived.Laws.Cover1
namespace Go.Proofs.Ytkeljebgnbmhiaa.LawNine
open Go Go.RowKit Go.WideShapes Go.ChangeShapes Hp K Fl Rw Hm Ar Mm Me LK Wk LawSix
set_option maxRecDepth 100000

set_option maxHeartbeats 1000000 in
theorem finds_out (A : Option Addr) (len cap : Nat) (s : Int) (key : ByteArray) (W0 : World) (hl : 50 < len) (hm : len ≤ maxLen) :
    Calls Try.prog 3 #[.slice A len cap, .int .u32 s, .string key] W0 fun e w' => e = .returned (.bool true) ∧ Below W0.heap.size W0 w' := by
  have hN := Lib.hid (made_yes 60 1 W0 (by omega) (by omega))
  unfold maxLen at hm
  go_enter Try.func3, Try.ntmps3
  go_wp2_with fail
  refine hN.out.mono ?_
  rintro e w1 ⟨M, rfl, hM, hlo, hB, _⟩
  replace hB := Lib.hid hB
  clear hN hM hlo
  go_wp2_with fail
  refine (awake w1).mono ?_
  rintro e w2 ⟨rfl, hB2⟩
  replace hB2 := Lib.hid (hB.out.trans (hB2.mono hB.out.size))
  go_wp2_with fail
  go_ret
  exact ⟨rfl, hB2.out⟩
/-- What is handed in, opened. -/
theorem pairs_of {H : Type} {enc : TypeId × Value → H} {w : World} {base : Nat} {spare : Nat → Bool} {held : Bool} {r : Reach} {b0 : Nat} {v : Value} {d : DataW H} {p : List MemPlace}
    (hv : Value.okWide Try.prog w r b0 22 v) (h : DataW.Trod enc Try.prog w base spare held 22 v d p) (hsz : ∀ k ∈ d.weights Try.prog 22, k ≤ reachBytes) :
    ∃ (A : Option Addr) (l : List Pr) (cap : Nat), v = .slice A l.length cap ∧ l.length ≤ maxLen ∧ PairsAt w A l := by
  obtain ⟨A, len, cap, rfl, hl, hrow⟩ := rows_sized Try.underlying22 Try.underlying41 (by kernel_rfl) (by kernel_rfl) (by decide) hv h
  have hall : ∀ i, i < len → ∃ x : Pr, ∃ b o : Nat, A = some ⟨b, o, none⟩ ∧ b < w.heap.size ∧ w.cell? ⟨b, o + i * 2, none⟩ = some (.string x.1) ∧ w.cell? ⟨b, o + i * 2 + 1, none⟩ = some (.int .u32 x.2) ∧ (0 ≤ x.2 ∧ x.2 < 4294967296) ∧ x.1.size ≤ 140737488355328 := by
    intro i hi
    obtain ⟨b, o, rfl, hb, hf⟩ := hrow i hi
    obtain ⟨u0, n0, y0, c0, t0, z0⟩ := hf 0 _ rfl
    obtain ⟨u1, n1, y1, c1, t1, _⟩ := hf 1 _ rfl
    obtain ⟨k, e0, d0, _⟩ := DataW.trod_string Try.underlying9 t0
    obtain ⟨m, e1, _, w1⟩ := DataW.trod_int Try.underlying23 t1
    injection e0 with e0; injection e1 with e1
    subst e0; subst e1
    refine ⟨(k, m), b, o, rfl, hb, by simpa using c0, by simpa [Nat.add_assoc] using c1, wf_u32 w1, ?_⟩
    have := hsz _ (z0 k.data.toList.length (by rw [d0]; simp [DataW.weights]))
    have h3 : k.size = k.data.toList.length := (Array.length_toList).symm
    show k.size ≤ _
    rw [h3]
    exact Nat.le_trans this reach_le
  obtain ⟨l, hll, hp⟩ := list_of hall
  subst hll
  exact ⟨A, l, cap, rfl, hl, fun i hi => hp i hi⟩
theorem finds (l : List Pr) (A : Option Addr) (cap : Nat) (s : Int) (key : ByteArray) (W0 : World) (hm : l.length ≤ maxLen) (hsb : 0 ≤ s ∧ s < 4294967296) (hk : key.size ≤ 140737488355328) (hP : PairsAt W0 A l) :
    Calls Try.prog 3 #[.slice A l.length cap, .int .u32 s, .string key] W0 fun e w' => e = .returned (.bool true) ∧ Below W0.heap.size W0 w' := by
  by_cases h : 50 < l.length
  · exact finds_out A l.length cap s key W0 h hm
  · exact finds_in l A cap s key W0 hsb hk (by omega) hP

theorem finds_lifted (os : Os) (started : os.Started) (H : Type) (enc : TypeId × Value → H) :
    ReturnsInHanded {} Try.checked os 3 .any (Rows.walkFindsSpec.pre6 enc Try.prog Try.f3 Rows.walkFindsRow.domain false) (Rows.walkFindsSpec.post enc Try.prog Try.f3 false true false false) := by
  refine returnsInHanded_of_change_sized (C := Try.checked) LK.own started (by kernel_rfl) Try.func3
    (ChangeSpec.witness6 (enc := enc) (C := Try.checked) false ⟨#[], #[.slice none 0 0, .int .u32 0, .string ⟨#[]⟩], []⟩ 8 (by kernel_rfl) (by kernel_rfl) (by kernel_rfl) (by kernel_rfl)) ?_
  intro W base args ds gs before hval0 hW hcnd hsz0 hreach
  have hval : ∀ (j : Nat) t v, Try.f3.params[j]? = some t → args[j]? = some v → Value.okWide Try.prog W .any base t v := hval0
  have hsz : (DataW.weightsEach Try.prog (Try.f3.params.toList ++ Rows.walkFindsSpec.plain.varTypes Try.prog) (ds ++ gs)).all (· ≤ reachBytes) = true := hsz0
  have hW' := hW
  obtain ⟨p, q, hA0, hV, rfl, hfz, hnd⟩ := hW
  have hA : DataW.TrodAll enc Try.prog W 0 (fun _ => true) true Try.f3.params.toList args.toList ds p := hA0
  rw [Try.params3] at hA hval hsz
  obtain ⟨v0, v1, v2, d0, d1, d2, p0, p1, p2, rfl, rfl, rfl, h0, h1, h2⟩ := trodAll_three hA
  obtain ⟨rfl, rfl⟩ := trodVars_none hV
  obtain ⟨A, l, cap, rfl, hl, hP⟩ := pairs_of (hval 0 22 v0 rfl rfl) h0 (fun k hk => of_decide_eq_true (List.all_eq_true.1 hsz k (DataW.weights_mem_each (j := 0) rfl rfl k hk)))
  obtain ⟨a1, rfl, rfl, rfl, w1⟩ := open_int Try.underlying23 (hval 1 23 v1 rfl rfl) h1
  obtain ⟨s2, rfl, rfl, rfl, ws⟩ := Go.ChangeMaps.open_string Try.underlying9 (hval 2 9 v2 rfl rfl) h2
  have hs2 : s2.size ≤ 140737488355328 := by
    have := sized_string hsz (j := 2) rfl rfl
    have h3 : s2.size = s2.data.toList.length := (Array.length_toList).symm
    rw [h3]
    exact Nat.le_trans this reach_le
  refine (finds l A cap a1 s2 W hl (K.wf_u32 w1) hs2 hP).mono fun e W' ⟨he, hb⟩ => ?_
  subst he
  exact ⟨_, rfl, post_true (tb := 4) (by kernel_rfl) (by kernel_rfl) rfl rfl Try.underlying4 rfl rfl rfl hW' hb⟩

theorem finds_holds : Rows.WalkFindsSaid :=
  OpenClaim.holds_of_wide 3 Try.f3 rfl rfl rfl rfl rfl rfl rfl ⟨rfl, rfl, rfl, rfl, rfl⟩ rfl rfl rfl rfl rfl (by kernel_rfl) Try.func3 (by kernel_rfl)
    (of_decide_eq_true (by kernel_rfl)) (by unfold Func.isWrapper; first | (rw [if_pos (by decide +kernel)]; kernel_rfl) | (rw [if_neg (by decide +kernel)]; exact ⟨rfl, rfl⟩))
    (fun os started H enc _ => finds_lifted os started H enc)
end Go.Proofs.Ytkeljebgnbmhiaa.LawNine
