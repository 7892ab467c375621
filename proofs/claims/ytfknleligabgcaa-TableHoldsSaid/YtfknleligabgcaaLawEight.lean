/- TableHolds answers true, whatever it is handed: any sum, any list of acts, whatever world it is called in (that the list lies in it). -/
import Derived.Test.YtfknleligabgcaaHoV
import Derived.ProofKit
import Derived.OpenShut
import Derived.Laws.Cover1
namespace Go.Proofs.Ytfknleligabgcaa.HoLaw
open Go Go.RowKit Go.WideShapes Go.ChangeShapes Hp K Fl Rw Hm Ar Mm Me LK Ta Ob Ct LawSix LawEight
set_option maxRecDepth 100000

theorem tholds (s : Int) (A : Option Addr) (len cap : Nat) (W0 : World) (hs : 0 ≤ s ∧ s < 4294967296) (hlm : len ≤ maxLen) (hacts : BytesAt W0 A len) :
    Calls Try.prog 3 #[.int .u32 s, .slice A len cap] W0 fun e w' => e = .returned (.bool true) ∧ Below W0.heap.size W0 w' := by
  by_cases h : 80 < len
  · exact holds_out s A len cap W0 h hlm
  · exact holds_in s A len cap W0 hs (by omega) hacts

theorem tholds_lifted (os : Os) (started : os.Started) (H : Type) (enc : TypeId × Value → H) :
    ReturnsInHanded {} Try.checked os 3 .any (Rows.tableHoldsSpec.pre6 enc Try.prog Try.f3 Rows.tableHoldsRow.domain false) (Rows.tableHoldsSpec.post enc Try.prog Try.f3 false true false false) := by
  refine returnsInHanded_of_change (C := Try.checked) LK.own started (by kernel_rfl) Try.func3
    (ChangeSpec.witness6 (enc := enc) (C := Try.checked) false ⟨#[], #[.int .u32 0, .slice none 0 0], []⟩ 8 (by kernel_rfl) (by kernel_rfl) (by kernel_rfl) (by kernel_rfl)) ?_
  intro W base args ds gs before hval0 hW hcnd hreach
  have hval : ∀ (j : Nat) t v, Try.f3.params[j]? = some t → args[j]? = some v → Value.okWide Try.prog W .any base t v := hval0
  have hW' := hW
  obtain ⟨p, q, hA0, hV, rfl, hfz, hnd⟩ := hW
  have hA : DataW.TrodAll enc Try.prog W 0 (fun _ => true) true Try.f3.params.toList args.toList ds p := hA0
  rw [Try.params3] at hA hval
  obtain ⟨v0, v1, d0, d1, p0, p1, rfl, rfl, rfl, h0, h1⟩ := trodAll_two hA
  obtain ⟨rfl, rfl⟩ := trodVars_none hV
  obtain ⟨a0, rfl, rfl, rfl, w0⟩ := open_int Try.underlying22 (hval 0 22 v0 rfl rfl) h0
  obtain ⟨A, len, cap, rfl, hl, hacts⟩ := bytes_of (hval 1 23 v1 rfl rfl) h1
  refine (tholds a0 A len cap W (K.wf_u32 w0) hl hacts).mono fun e W' ⟨he, hb⟩ => ?_
  subst he
  exact ⟨_, rfl, post_true (tb := 4) (by kernel_rfl) (by kernel_rfl) rfl rfl Try.underlying4 rfl rfl rfl hW' hb⟩

theorem tholds_holds : Rows.TableHoldsSaid :=
  OpenClaim.holds_of_wide 3 Try.f3 rfl rfl rfl rfl rfl rfl rfl ⟨rfl, rfl, rfl, rfl, rfl⟩ rfl rfl rfl rfl rfl (by kernel_rfl) Try.func3 (by kernel_rfl)
    (of_decide_eq_true (by kernel_rfl)) (by unfold Func.isWrapper; first | (rw [if_pos (by decide +kernel)]; kernel_rfl) | (rw [if_neg (by decide +kernel)]; exact ⟨rfl, rfl⟩))
    (fun os started H enc _ => tholds_lifted os started H enc)
end Go.Proofs.Ytfknleligabgcaa.HoLaw
