/- From a walk that ends in true and leaves what was there as it was, to the last step of a statement's row: for whatever parameters. -/
import Derived.Carry
import Derived.ProofKit
import Derived.OpenShut
import Derived.Below
import Derived.Deep.Slices
import Derived.Deep.Fields
import Derived.Test.YtkogifmjbmnpgaaGreatRows
set_option linter.unusedVariables false
set_option linter.unusedSimpArgs false
namespace Go.Proofs.YtkogifmjbmnpgaaGreat.LK
open Go.RowKit Go.WideShapes Go.ChangeShapes
theorem own:ownKnob Tryz.prog.godebug=none:=by kernel_rfl
theorem all_stay {H:Type} {enc:TypeId×Value→H} {P:Program} {W W':World} (hl:laidOutB P=true) (hB:Below W.heap.size W W'):
 ∀ (ts:List TypeId) (vs:List Value) (ds:List (DataW H)) (ps:List MemPlace),(∀ t∈ts,P.readableRec t=true∧t<P.types.size)→(∀ p∈ps,p.block<W.heap.size)→
   DataW.TrodAll enc P W 0 (fun _=>true) true ts vs ds ps→DataW.TrodAll enc P W' 0 (fun b=>decide (b<W.heap.size)) true ts vs ds ps
 | [],[],[],_,_,_,h=>h
 | t::ts,v::vs,d::ds,ps,ht,hp,h=>by
   obtain ⟨p,q,h1,h2,rfl⟩:=h
   have hp1:∀ x∈p,x.block<W.heap.size:=fun x hx=>hp x (List.mem_append_left _ hx)
   have hp2:∀ x∈q,x.block<W.heap.size:=fun x hx=>hp x (List.mem_append_right _ hx)
   exact ⟨p,q,Below.trod hl (ht t (List.mem_cons_self ..)).1 (ht t (List.mem_cons_self ..)).2 h1 hB hp1,all_stay hl hB ts vs ds q (fun x hx=>ht x (List.mem_cons_of_mem _ hx)) hp2 h2,rfl⟩
 | [],[],_::_,_,_,_,h=>h.elim
 | [],_::_,_,_,_,_,h=>h.elim
 | _::_,[],_,_,_,_,h=>h.elim
 | _::_,_::_,[],_,_,_,h=>h.elim
theorem plain_of {w:World} {a:Addr} {u:Value} (h:w.cell? a=some u):∃ b o,a=⟨b,o,none⟩∧b<w.heap.size:=by
 have hlt:=World.block_lt_of_cell? w a h
 obtain ⟨b,o,sp⟩:=a
 unfold World.cell? at h
 cases sp with
 | none=>exact ⟨b,o,rfl,hlt⟩
 | some s=>
   exfalso
   revert h
   simp only [Option.isSome_some,if_true]
   split<;>simp
theorem rows_raw {H:Type} {enc:TypeId×Value→H} {P:Program} {w:World} {base:Nat} {spare:Nat→Bool} {held:Bool} {r:Reach} {b0:Nat} {t e:TypeId} {v:Value} {d:DataW H} {p:List MemPlace} {C:Nat}
 (ht:P.underlying t=some (.slice e)) (hC:P.cellsOf e=C) (h0:0<C)
 (hv:Value.okWide P w r b0 t v) (h:DataW.Trod enc P w base spare held t v d p):
 ∃ (A:Option Addr) (len cap:Nat),v=.slice A len cap∧len≤maxLen∧∀ i,i<len→∃ (b o:Nat) (cs:List Value),A=some ⟨b,o,none⟩∧b<w.heap.size∧cs.length=C∧
   (∀ j,j<C→w.cell? ⟨b,o+(i*C+j),none⟩=cs[j]?)∧∃ (n:Nat) (y:DataW H×List MemPlace),DataW.trod enc P w base spare held n e cs=some y:=by
 obtain ⟨A,len,cap,rfl⟩:=okWide_slice ht hv
 obtain ⟨fuel,hf⟩:=h
 have hcs:(Value.slice A len cap).cells.toList=[.slice A len cap]:=rfl
 rw [hcs] at hf
 rcases Go.Deep.open_slice ht hf with ⟨h0,_⟩ | ⟨a,len',cap',m,n,D,Pl,hcs',_,hl,hm,hmm,_,hi⟩
 · injection h0 with h0 _
   injection h0 with h1 h2 h3
   subst h1; subst h2; subst h3
   exact ⟨_,_,_,rfl,by simp [maxLen],fun i hi=>by omega⟩
 · injection hcs' with h0 _
   injection h0 with h1 h2 h3
   subst h1; subst h2; subst h3
   have hlm:len≤m:=by rw [hmm]; split<;>omega
   refine ⟨_,_,_,rfl,Nat.le_trans hl hm,fun i hlt=>?_⟩
   obtain ⟨cs',hc,ht'⟩:=hi i (by omega)
   rw [hC] at hc
   obtain ⟨_,hcl,hat⟩:=World.cells?_some hc
   have hpl:∃ b o,a=⟨b,o,none⟩∧b<w.heap.size:=by
    obtain ⟨cs0,hc0,_⟩:=hi 0 (by omega)
    rw [hC] at hc0
    obtain ⟨_,hcl0,hat0⟩:=World.cells?_some hc0
    have h1:=hat0 0 h0
    rw [List.getElem?_eq_getElem (by omega)] at h1
    refine plain_of (a:=a) (w:=w) (by simpa [Addr.add] using h1)
   obtain ⟨b,o,rfl,hb⟩:=hpl
   exact ⟨b,o,cs',rfl,hb,hcl,fun j hj=>by rw [← hat j hj,Addr.add_lit,Addr.add_lit,Nat.add_assoc],n,_,ht'⟩
theorem post_true {H:Type} {enc:TypeId×Value→H} {P:Program} {f:Func} {s:ChangeSpec} {apart fresh handsOn:Bool} {W W':World} {args:Array Value} {ds:List (DataW H)} {before:List MemPlace} {tb:TypeId}
 (hl:laidOutB P=true) (hts:(f.params.toList.all fun t=>P.readableRec t&&decide (t<P.types.size))=true) (hv:s.vars=[]) (hr:f.resultTypes=#[tb]) (hb:P.underlying tb=some .bool)
 (hs1:(s.fn H (ds++[])).results=[.lit (.bool true)]) (hs2:(s.fn H (ds++[])).args=ds) (hs3:(s.fn H (ds++[])).vars=[])
 (hW:DataW.Whole enc P f.params.toList s.vars apart W args.toList ds [] before) (hB:Below W.heap.size W W'):
 s.post enc P f apart fresh handsOn false W args (.bool true) W':=by
 have hW':=hW
 obtain ⟨p,q,hA,hV,rfl,hz,hn⟩:=hW
 rw [hv] at hV
 have hq:q=[]:=hV
 subst hq
 have hlt:∀ x∈p++[],x.block<W.heap.size:=fun x hx=>hW'.lt x hx
 simp only [List.append_nil] at hlt
 refine ⟨ds,[],_,[],p,[],hW',?_,?_,?_,?_,fun h=>by cases h⟩
 · rw [hr,hs1]
   exact trodAll_mk1 (shut_bool hb _)
 · rw [hs2]
   exact all_stay hl hB _ _ _ _ (fun t ht=>by simpa using List.all_eq_true.1 hts t ht) hlt hA
 · rw [hv,hs3]
   exact rfl
 · refine World.keptBut_mono (fun x hx=>?_) (hB.frame (·∈p))
   exact ⟨by simpa using hx,Or.inr (Or.inl hx)⟩
end Go.Proofs.YtkogifmjbmnpgaaGreat.LK
