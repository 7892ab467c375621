/- RetireWaits answers true, whatever it is handed: any number of workers, any list of acts, whatever world it is called in (that the list lies in it). -/
import Derived.Test.YtnmneofmflkilaaPart1
import Derived.ProofKit
import Derived.OpenShut
import Derived.Laws.Cover1
namespace Go.Proofs.Ytnmneofmflkilaa.RwLaw
open Go Go.RowKit Go.WideShapes Go.ChangeShapes Hp K Fl Rw Hm Ar Mm Me LK Qs Ob Ct Re LawSix LawSeven
set_option maxRecDepth 100000

set_option maxHeartbeats 1000000 in
theorem rwaits_out (wk : Nat) (A : Option Addr) (len cap : Nat) (W0 : World) (hwk : wk ≤ 255) (hl : 150 < len) (hlm : len ≤ maxLen) :
    Calls Try.prog 4 #[.int .u8 wk, .slice A len cap] W0 fun e w' => e = .returned (.bool true) ∧ Below W0.heap.size W0 w' := by
  unfold maxLen at hlm
  obtain ⟨n, hn⟩ : ∃ n : Nat, (wk : Int) % 4 + 1 = (n : Int) := ⟨wk % 4 + 1, by omega⟩
  have hN := Lib.hid (made_yes 40 n W0 (by omega) (by omega))
  have d1 : decide (150 < (len : Int)) = true := by simp; omega
  go_enter Try.func4, Try.ntmps4
  go_wp2_with fail
  refine hN.out.mono ?_
  rintro e w1 ⟨M, rfl, hM⟩
  have hB := Lib.hid hM.2.2.1
  clear hM
  go_wp2_with fail
  refine (LawSeven.awake _).mono ?_
  rintro e w5 ⟨rfl, hb5⟩
  replace hb5 := Lib.hid hb5
  go_wp2_with fail
  go_ret
  exact ⟨rfl, hB.out.trans (hb5.out.mono hB.out.size)⟩

theorem rwaits (wk : Nat) (A : Option Addr) (len cap : Nat) (W0 : World) (hwk : wk ≤ 255) (hlm : len ≤ maxLen) (hacts : BytesAt W0 A len) :
    Calls Try.prog 4 #[.int .u8 wk, .slice A len cap] W0 fun e w' => e = .returned (.bool true) ∧ Below W0.heap.size W0 w' := by
  by_cases h : 150 < len
  · exact rwaits_out wk A len cap W0 hwk h hlm
  · exact rwaits_in wk A len cap W0 hwk (by omega) hacts

theorem rwaits_lifted (os : Os) (started : os.Started) (H : Type) (enc : TypeId × Value → H) :
    ReturnsInHanded {} Try.checked os 4 .any (Rows.retireWaitsSpec.pre6 enc Try.prog Try.f4 Rows.retireWaitsRow.domain false) (Rows.retireWaitsSpec.post enc Try.prog Try.f4 false true false false) := by
  refine returnsInHanded_of_change (C := Try.checked) LK.own started (by kernel_rfl) Try.func4
    (ChangeSpec.witness6 (enc := enc) (C := Try.checked) false ⟨#[], #[.int .u8 0, .slice none 0 0], []⟩ 8 (by kernel_rfl) (by kernel_rfl) (by kernel_rfl) (by kernel_rfl)) ?_
  intro W base args ds gs before hval0 hW hcnd hreach
  have hval : ∀ (j : Nat) t v, Try.f4.params[j]? = some t → args[j]? = some v → Value.okWide Try.prog W .any base t v := hval0
  have hW' := hW
  obtain ⟨p, q, hA0, hV, rfl, hfz, hnd⟩ := hW
  have hA : DataW.TrodAll enc Try.prog W 0 (fun _ => true) true Try.f4.params.toList args.toList ds p := hA0
  rw [Try.params4] at hA hval
  obtain ⟨v0, v1, d0, d1, p0, p1, rfl, rfl, rfl, h0, h1⟩ := trodAll_two hA
  obtain ⟨rfl, rfl⟩ := trodVars_none hV
  obtain ⟨a0, rfl, rfl, rfl, w0⟩ := open_int Try.underlying5 (hval 0 5 v0 rfl rfl) h0
  obtain ⟨A, len, cap, rfl, hl, hacts⟩ := bytes_of (hval 1 50 v1 rfl rfl) h1
  have b0 := K.wf_u8 w0
  obtain ⟨n0, rfl⟩ := Int.eq_ofNat_of_zero_le b0.1
  refine (rwaits n0 A len cap W (by omega) hl hacts).mono fun e W' ⟨he, hb⟩ => ?_
  subst he
  exact ⟨_, rfl, post_true (tb := 4) (by kernel_rfl) (by kernel_rfl) rfl rfl Try.underlying4 rfl rfl rfl hW' hb⟩

theorem rwaits_holds : Rows.RetireWaitsSaid :=
  OpenClaim.holds_of_wide 4 Try.f4 rfl rfl rfl rfl rfl rfl rfl ⟨rfl, rfl, rfl, rfl, rfl⟩ rfl rfl rfl rfl rfl (by kernel_rfl) Try.func4 (by kernel_rfl)
    (of_decide_eq_true (by kernel_rfl)) (by unfold Func.isWrapper; first | (rw [if_pos (by decide +kernel)]; kernel_rfl) | (rw [if_neg (by decide +kernel)]; exact ⟨rfl, rfl⟩))
    (fun os started H enc _ => rwaits_lifted os started H enc)
end Go.Proofs.Ytnmneofmflkilaa.RwLaw
