/- WorkerPlays answers true, whatever it is handed: any list of calls, any number, whatever world it is called in (that the list lies in it; that each string is at most as long as the form's own reach says). -/
import Derived.Test.YtpanebgakndddaaGreatPart14
set_option linter.unusedVariables false
set_option linter.unusedSimpArgs false
namespace Go.Proofs.YtpanebgakndddaaGreat.Wo
open Go Go.RowKit Go.WideShapes Go.ChangeShapes Hp K Fl Rw Hm Ar Mm Me LK Wk Pc fp gj gm iT Ca
set_option maxRecDepth 100000
theorem RL (os:Os) (started:os.Started) (H:Type) (enc:TypeId×Value->H):
 ReturnsInHanded {} Tryz.checked os 3 .any (Rows.workerPlaysSpec.pre6 enc Tryz.prog Tryz.f3 Rows.workerPlaysRow.domain false) (Rows.workerPlaysSpec.post enc Tryz.prog Tryz.f3 false true false false):=by
 refine returnsInHanded_of_change_sized (C:=Tryz.checked) LK.own started (by kernel_rfl) Tryz.func3
  (ChangeSpec.witness6 (enc:=enc) (C:=Tryz.checked) false ⟨#[],#[.slice none 0 0,.int .u8 0],[]⟩ 8 (by kernel_rfl) (by kernel_rfl) (by kernel_rfl) (by kernel_rfl)) ?_
 intro W base args ds gs before WW hW hcnd WX X7
 have tg:∀ (j:Nat) t v,Tryz.f3.params[j]?=some t->args[j]?=some v->Value.okWide Tryz.prog W .any base t v:=WW
 have cA:(DataW.weightsEach Tryz.prog (Tryz.f3.params.toList++Rows.workerPlaysSpec.plain.varTypes Tryz.prog) (ds++gs)).all (·<=reachBytes)=true:=WX
 have rF:=hW
 obtain ⟨p,q,WY,hV,rfl,X8,bS⟩:=hW
 have hA:DataW.TrodAll enc Tryz.prog W 0 (fun _=>true) true Tryz.f3.params.toList args.toList ds p:=WY
 rw [Tryz.params3] at hA tg cA
 obtain ⟨v0,v1,d0,d1,p0,p1,rfl,rfl,rfl,h0,h1⟩:=trodAll_two hA
 obtain ⟨rfl,rfl⟩:=trodVars_none hV
 obtain ⟨A,l,cap,rfl,hl,hP⟩:=M6 (tg 0 22 v0 rfl rfl) h0 (fun k hk=>of_decide_eq_true (List.all_eq_true.1 cA k (DataW.weights_mem_each (j:=0) rfl rfl k hk)))
 obtain ⟨a1,rfl,rfl,rfl,w1⟩:=open_int Tryz.underlying5 (tg 1 5 v1 rfl rfl) h1
 refine (RM l A cap a1 (by have:=K.wf_u8 w1; omega) W hl hP).mono fun e W' ⟨he,hb⟩=>?_
 subst he
 exact ⟨_,rfl,RG (tb:=4) (by kernel_rfl) (by kernel_rfl) rfl rfl Tryz.underlying4 rfl rfl rfl rF hb⟩
theorem worker_holds:Rows.WorkerPlaysSaid:=
 OpenClaim.holds_of_wide 3 Tryz.f3 rfl rfl rfl rfl rfl rfl rfl ⟨rfl,rfl,rfl,rfl,rfl⟩ rfl rfl rfl rfl rfl (by kernel_rfl) Tryz.func3 (by kernel_rfl)
  (of_decide_eq_true (by kernel_rfl)) (by unfold Func.isWrapper; first | (rw [if_pos (by decide+kernel)]; kernel_rfl) | (rw [if_neg (by decide+kernel)]; exact ⟨rfl,rfl⟩))
  (fun os started H enc _=>RL os started H enc)
end Go.Proofs.YtpanebgakndddaaGreat.Wo
