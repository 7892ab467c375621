/- A part. -/
import Derived.Carry
import Derived.ProofKit
import Derived.OpenShut
import Derived.Below
import Derived.Deep.Slices
import Derived.Deep.Fields
import Derived.Test.YtpanebgakndddaaGreatRows
set_option linter.unusedVariables false
set_option linter.unusedSimpArgs false
namespace Go.Proofs.YtpanebgakndddaaGreat.LK
open Go.RowKit Go.WideShapes Go.ChangeShapes
theorem own:ownKnob Tryz.prog.godebug=none:=by kernel_rfl
theorem Hv {H:Type} {enc:TypeId×Value->H} {P:Program} {W W':World} (hl:laidOutB P=true) (hB:Below W.heap.size W W'):
 ∀ (ts:List TypeId) (vs:List Value) (ds:List (DataW H)) (ps:List MemPlace),(∀ t∈ts,P.readableRec t=true/\t<P.types.size)->(∀ p∈ps,p.block<W.heap.size)->
   DataW.TrodAll enc P W 0 (fun _=>true) true ts vs ds ps->DataW.TrodAll enc P W' 0 (fun b=>decide (b<W.heap.size)) true ts vs ds ps
 | [],[],[],_,_,_,h=>h
 | t::ts,v::vs,d::ds,ps,ht,hp,h=>by
   obtain ⟨p,q,h1,h2,rfl⟩:=h
   have nL:∀ x∈p,x.block<W.heap.size:=fun x hx=>hp x (List.mem_append_left _ hx)
   have gU:∀ x∈q,x.block<W.heap.size:=fun x hx=>hp x (List.mem_append_right _ hx)
   exact ⟨p,q,Below.trod hl (ht t (List.mem_cons_self ..)).1 (ht t (List.mem_cons_self ..)).2 h1 hB nL,Hv hl hB ts vs ds q (fun x hx=>ht x (List.mem_cons_of_mem _ hx)) gU h2,rfl⟩
 | [],[],_::_,_,_,_,h=>h.elim
 | [],_::_,_,_,_,_,h=>h.elim
 | _::_,[],_,_,_,_,h=>h.elim
 | _::_,_::_,[],_,_,_,h=>h.elim
theorem QF {w:World} {a:Addr} {u:Value} (h:w.cell? a=some u):∃ b o,a=⟨b,o,none⟩/\b<w.heap.size:=by
 have bn:=World.block_lt_of_cell? w a h
 obtain ⟨b,o,sp⟩:=a
 unfold World.cell? at h
 cases sp with
 | none=>exact ⟨b,o,rfl,bn⟩
 | some s=>
   exfalso
   revert h
   simp only [Option.isSome_some,if_true]
   split<;>simp
theorem LY {H:Type} {enc:TypeId×Value->H} {P:Program} {w:World} {base:Nat} {spare:Nat->Bool} {held:Bool} {r:Reach} {b0:Nat} {t e:TypeId} {v:Value} {d:DataW H} {p:List MemPlace} {C:Nat}
 (ht:P.underlying t=some (.slice e)) (hC:P.cellsOf e=C) (h0:0<C)
 (hv:Value.okWide P w r b0 t v) (h:DataW.Trod enc P w base spare held t v d p):
 ∃ (A:Option Addr) (len cap:Nat),v=.slice A len cap/\len<=maxLen/\∀ i,i<len->∃ (b o:Nat) (cs:List Value),A=some ⟨b,o,none⟩/\b<w.heap.size/\cs.length=C/\
   (∀ j,j<C->w.cell? ⟨b,o+(i*C+j),none⟩=cs[j]?)/\∃ (n:Nat) (y:DataW H×List MemPlace),DataW.trod enc P w base spare held n e cs=some y:=by
 obtain ⟨A,len,cap,rfl⟩:=okWide_slice ht hv
 obtain ⟨fuel,hf⟩:=h
 have bg:(Value.slice A len cap).cells.toList=[.slice A len cap]:=rfl
 rw [bg] at hf
 rcases Go.Deep.open_slice ht hf with ⟨h0,_⟩ | ⟨a,len',cap',m,n,D,Pl,Km,_,hl,hm,uE,_,hi⟩
 ·injection h0 with h0 _
  injection h0 with h1 h2 h3
  subst h1; subst h2; subst h3
  exact ⟨_,_,_,rfl,by simp [maxLen],fun i hi=>by omega⟩
 ·injection Km with h0 _
  injection h0 with h1 h2 h3
  subst h1; subst h2; subst h3
  have DG:len<=m:=by rw [uE]; split<;>omega
  refine ⟨_,_,_,rfl,Nat.le_trans hl hm,fun i bn=>?_⟩
  obtain ⟨cs',hc,V4⟩:=hi i (by omega)
  rw [hC] at hc
  obtain ⟨_,m9,bO⟩:=World.cells?_some hc
  have fx:∃ b o,a=⟨b,o,none⟩/\b<w.heap.size:=by
   obtain ⟨cs0,eE,_⟩:=hi 0 (by omega)
   rw [hC] at eE
   obtain ⟨_,Xq,D5⟩:=World.cells?_some eE
   have h1:=D5 0 h0
   rw [List.getElem?_eq_getElem (by omega)] at h1
   refine QF (a:=a) (w:=w) (by simpa [Addr.add] using h1)
  obtain ⟨b,o,rfl,hb⟩:=fx
  exact ⟨b,o,cs',rfl,hb,m9,fun j hj=>by rw [<-bO j hj,Addr.add_lit,Addr.add_lit,Nat.add_assoc],n,_,V4⟩
theorem QE {H:Type} {enc:TypeId×Value->H} {P:Program} {f:Func} {s:ChangeSpec} {apart fresh handsOn:Bool} {W W':World} {args:Array Value} {ds:List (DataW H)} {before:List MemPlace} {tb:TypeId}
 (hl:laidOutB P=true) (V5:(f.params.toList.all fun t=>P.readableRec t&&decide (t<P.types.size))=true) (hv:s.vars=[]) (hr:f.resultTypes=#[tb]) (hb:P.underlying tb=some .bool)
 (oV:(s.fn H (ds++[])).results=[.lit (.bool true)]) (fM:(s.fn H (ds++[])).args=ds) (jB:(s.fn H (ds++[])).vars=[])
 (hW:DataW.Whole enc P f.params.toList s.vars apart W args.toList ds [] before) (hB:Below W.heap.size W W'):
 s.post enc P f apart fresh handsOn false W args (.bool true) W':=by
 have rm:=hW
 obtain ⟨p,q,hA,hV,rfl,hz,hn⟩:=hW
 rw [hv] at hV
 have hq:q=[]:=hV
 subst hq
 have bn:∀ x∈p++[],x.block<W.heap.size:=fun x hx=>rm.lt x hx
 simp only [List.append_nil] at bn
 refine ⟨ds,[],_,[],p,[],rm,?_,?_,?_,?_,fun h=>by cases h⟩
 ·rw [hr,oV]
  exact trodAll_mk1 (shut_bool hb _)
 ·rw [fM]
  exact Hv hl hB _ _ _ _ (fun t ht=>by simpa using List.all_eq_true.1 V5 t ht) bn hA
 ·rw [hv,jB]
  exact rfl
 ·refine World.keptBut_mono (fun x hx=>?_) (hB.frame (·∈p))
  exact ⟨by simpa using hx,Or.inr (Or.inl hx)⟩
end Go.Proofs.YtpanebgakndddaaGreat.LK
