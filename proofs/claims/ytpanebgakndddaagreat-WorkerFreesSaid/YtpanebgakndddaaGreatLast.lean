/- WorkerFrees answers true, whatever list of acts it is handed, whatever world it is called in (that the list lies in it). -/
import Derived.Test.YtpanebgakndddaaGreatPart14
import Derived.ProofKit
import Derived.OpenShut
import Derived.Laws.Cover1
set_option linter.unusedVariables false
set_option linter.unusedSimpArgs false
namespace Go.Proofs.YtpanebgakndddaaGreat.Wf
open Go Go.RowKit Go.WideShapes Go.ChangeShapes Hp K Fl Rw Hm Ar Mm Me LK Qs fk vA
set_option maxRecDepth 100000
theorem QD (os:Os) (started:os.Started) (H:Type) (enc:TypeId×Value->H):
 ReturnsInHanded {} Tryz.checked os 4 .any (Rows.workerFreesSpec.pre6 enc Tryz.prog Tryz.f4 Rows.workerFreesRow.domain false) (Rows.workerFreesSpec.post enc Tryz.prog Tryz.f4 false true false false):=by
 refine returnsInHanded_of_change (C:=Tryz.checked) LK.own started (by kernel_rfl) Tryz.func4
  (ChangeSpec.witness6 (enc:=enc) (C:=Tryz.checked) false ⟨#[],#[.slice none 0 0],[]⟩ 8 (by kernel_rfl) (by kernel_rfl) (by kernel_rfl) (by kernel_rfl)) ?_
 intro W base args ds gs before V2 hW hcnd Xo
 have ux:∀ (j:Nat) t v,Tryz.f4.params[j]?=some t->args[j]?=some v->Value.okWide Tryz.prog W .any base t v:=V2
 have rm:=hW
 obtain ⟨p,q,V3,hV,rfl,Xp,bB⟩:=hW
 have hA:DataW.TrodAll enc Tryz.prog W 0 (fun _=>true) true Tryz.f4.params.toList args.toList ds p:=V3
 rw [Tryz.params4] at hA ux
 obtain ⟨v0,d0,rfl,rfl,h0⟩:=trodAll_one hA
 obtain ⟨rfl,rfl⟩:=trodVars_none hV
 obtain ⟨A,len,cap,rfl,hl,pZ⟩:=LX (ux 0 53 v0 rfl rfl) h0
 refine (Og A len cap W hl pZ).mono fun e W' ⟨he,hb⟩=>?_
 subst he
 exact ⟨_,rfl,QE (tb:=4) (by kernel_rfl) (by kernel_rfl) rfl rfl Tryz.underlying4 rfl rfl rfl rm hb⟩
theorem frees_holds:Rows.WorkerFreesSaid:=
 OpenClaim.holds_of_wide 4 Tryz.f4 rfl rfl rfl rfl rfl rfl rfl ⟨rfl,rfl,rfl,rfl,rfl⟩ rfl rfl rfl rfl rfl (by kernel_rfl) Tryz.func4 (by kernel_rfl)
  (of_decide_eq_true (by kernel_rfl)) (by unfold Func.isWrapper; first | (rw [if_pos (by decide+kernel)]; kernel_rfl) | (rw [if_neg (by decide+kernel)]; exact ⟨rfl,rfl⟩))
  (fun os started H enc _=>QD os started H enc)
end Go.Proofs.YtpanebgakndddaaGreat.Wf
