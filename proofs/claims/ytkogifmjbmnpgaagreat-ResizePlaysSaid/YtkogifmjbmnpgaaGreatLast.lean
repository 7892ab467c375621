/- ResizePlays answers true, whatever it is handed: any list of acts, any list of sizes, whatever world it is called in (that the lists lie in it; that each string is at most as long as the form's own reach says). -/
import Derived.Test.YtkogifmjbmnpgaaGreatPart13
set_option linter.unusedVariables false
set_option linter.unusedSimpArgs false
namespace Go.Proofs.YtkogifmjbmnpgaaGreat.LawFn
open Go Go.RowKit Go.WideShapes Go.ChangeShapes Hp K Fl Rw Hm Ar Mm Me LK Wk Pc LawSix LawTen LawEl LawTw
set_option maxRecDepth 100000
theorem ints_of {H:Type} {enc:TypeId×Value→H} {w:World} {base:Nat} {spare:Nat→Bool} {held:Bool} {r:Reach} {b0:Nat} {v:Value} {d:DataW H} {p:List MemPlace}
 (hv:Value.okWide Tryz.prog w r b0 23 v) (h:DataW.Trod enc Tryz.prog w base spare held 23 v d p):
 ∃ (A:Option Addr) (l:List Int) (cap:Nat),v=.slice A l.length cap∧l.length≤maxLen∧IntsAt w A l:=by
 obtain ⟨A,len,cap,rfl,hl,hrow⟩:=rows_raw (C:=1) Tryz.underlying23 (by kernel_rfl) (by decide) hv h
 have hall:∀ i,i<len→∃ x:Int,∃ b o:Nat,A=some ⟨b,o,none⟩∧b<w.heap.size∧w.cell? ⟨b,o+i,none⟩=some (.int .i64 x)∧ -9223372036854775808≤x∧x≤9223372036854775807:=fun i hi=>by
  obtain ⟨b,o,cs,rfl,hb,hcl,hat,n,y,ht⟩:=hrow i hi
  obtain ⟨x,rfl,_,hw⟩:=DataW.trod_int Tryz.underlying3 ht
  exact ⟨x,b,o,rfl,hb,by simpa using hat 0 (by omega),K.wf_i64 hw⟩
 obtain ⟨l,hll,hp⟩:=list_of hall
 subst hll
 exact ⟨A,l,cap,rfl,hl,fun i hi=>hp i hi⟩
theorem plays_lifted (os:Os) (started:os.Started) (H:Type) (enc:TypeId×Value→H):
 ReturnsInHanded {} Tryz.checked os 3 .any (Rows.resizePlaysSpec.pre6 enc Tryz.prog Tryz.f3 Rows.resizePlaysRow.domain false) (Rows.resizePlaysSpec.post enc Tryz.prog Tryz.f3 false true false false):=by
 refine returnsInHanded_of_change_sized (C:=Tryz.checked) LK.own started (by kernel_rfl) Tryz.func3
  (ChangeSpec.witness6 (enc:=enc) (C:=Tryz.checked) false ⟨#[],#[.slice none 0 0,.slice none 0 0],[]⟩ 8 (by kernel_rfl) (by kernel_rfl) (by kernel_rfl) (by kernel_rfl)) ?_
 intro W base args ds gs before hval0 hW hcnd hsz0 hreach
 have hval:∀ (j:Nat) t v,Tryz.f3.params[j]?=some t→args[j]?=some v→Value.okWide Tryz.prog W .any base t v:=hval0
 have hsz:(DataW.weightsEach Tryz.prog (Tryz.f3.params.toList++Rows.resizePlaysSpec.plain.varTypes Tryz.prog) (ds++gs)).all (·≤reachBytes)=true:=hsz0
 have hW':=hW
 obtain ⟨p,q,hA0,hV,rfl,hfz,hnd⟩:=hW
 have hA:DataW.TrodAll enc Tryz.prog W 0 (fun _=>true) true Tryz.f3.params.toList args.toList ds p:=hA0
 rw [Tryz.params3] at hA hval hsz
 obtain ⟨v0,v1,d0,d1,p0,p1,rfl,rfl,rfl,h0,h1⟩:=trodAll_two hA
 obtain ⟨rfl,rfl⟩:=trodVars_none hV
 obtain ⟨A,l,cap,rfl,hl,hcap,hP⟩:=acts_of (hval 0 22 v0 rfl rfl) h0 (fun k hk=>of_decide_eq_true (List.all_eq_true.1 hsz k (DataW.weights_mem_each (j:=0) rfl rfl k hk)))
 obtain ⟨Az,zs,capz,rfl,hlz,hZs⟩:=ints_of (hval 1 23 v1 rfl rfl) h1
 refine (playsAll l A cap zs Az capz W hl hcap hlz hP hZs).mono fun e W' ⟨he,hb⟩=>?_
 subst he
 exact ⟨_,rfl,post_true (tb:=4) (by kernel_rfl) (by kernel_rfl) rfl rfl Tryz.underlying4 rfl rfl rfl hW' hb⟩
theorem plays_holds:Rows.ResizePlaysSaid:=
 OpenClaim.holds_of_wide 3 Tryz.f3 rfl rfl rfl rfl rfl rfl rfl ⟨rfl,rfl,rfl,rfl,rfl⟩ rfl rfl rfl rfl rfl (by kernel_rfl) Tryz.func3 (by kernel_rfl)
  (of_decide_eq_true (by kernel_rfl)) (by unfold Func.isWrapper; first | (rw [if_pos (by decide+kernel)]; kernel_rfl) | (rw [if_neg (by decide+kernel)]; exact ⟨rfl,rfl⟩))
  (fun os started H enc _=>plays_lifted os started H enc)
end Go.Proofs.YtkogifmjbmnpgaaGreat.LawFn
