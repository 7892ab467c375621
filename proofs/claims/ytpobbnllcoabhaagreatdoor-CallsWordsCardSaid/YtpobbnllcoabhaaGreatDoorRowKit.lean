/- Rows of records that the call itself owns: a slice that reads a list, so many cells each; append of one. -/
import Derived.Test.YtpobbnllcoabhaaGreatDoorHeap
import Derived.Test.YtpobbnllcoabhaaGreatDoorFlat
import Derived.Maps.AppendAt
set_option linter.unusedVariables false
set_option linter.unusedSimpArgs false
namespace Go.Proofs.YtpobbnllcoabhaaGreatDoor.Rw
open Go Go.RowKit Hp Fl
def Row {α:Type} (w:World) (e:TypeId) (c:Nat) (f:α→List Value) (A:Option Addr) (cap:Nat) (xs:List α):Prop:=
 w.ownsRow 0 e c (.slice A xs.length cap) xs.length (xs.flatMap f)
def In (A:Option Addr) (b:Nat):Prop:=A.map (·.block)=some b
section
variable {α:Type} {w w':World} {e:TypeId} {c:Nat} {f:α→List Value} {A:Option Addr} {cap:Nat} {xs:List α}
theorem Row.nil (w:World) (e:TypeId) (c:Nat) (f:α→List Value):Row w e c f none 0 []:=World.ownsRow_nil w 0 e c
theorem Row.lt (h:Row w e c f A cap xs) {b:Nat} (hb:In A b):b<w.heap.size:=own_lt h (by rw [own_block]; exact hb)
theorem Row.only {S:Nat→Prop} (h:Row w e c f A cap xs) (ho:Only S w w') (hn:∀ b,In A b→¬S b):Row w' e c f A cap xs:=
 own_only h ho (fun b hb=>hn b (by rw [own_block] at hb; exact hb))
theorem Row.differ (h:Row w e c f A cap xs) {g:Nat} {t:TypeId} {cs:Array Value} (hb:Blk w g t cs) (hne:e≠t):¬In A g:=by
 intro hi
 exact own_differ h hb hne (by rw [own_block]; exact hi)
theorem Row.cells (h:Row w e c f A cap xs) (hf:∀ x,(f x).length=c) (k:Nat) (hk:k<xs.length):
 ∃ b,A=some ⟨b,0,none⟩∧b<w.heap.size∧∀ j,j<c→w.cell? ⟨b,k*c+j,none⟩=(f xs[k])[j]?∧w.frozen? ⟨b,k*c+j,none⟩=false:=by
 obtain ⟨b,rfl,_,_⟩:=own_form h (by omega)
 refine ⟨b,rfl,own_lt h rfl,fun j hj=>⟨?_,World.ownsRow.frozenAt h _⟩⟩
 have hlt:k*c+j<xs.length*c:=Nat.lt_of_lt_of_le (Nat.add_lt_add_left hj _) (by rw [← Nat.succ_mul]; exact Nat.mul_le_mul_right _ hk)
 rw [World.ownsRow.cellAt h _ (by rwa [Nat.mul_comm] at hlt ⊢),flat_at hf xs k j hj,List.getElem?_eq_getElem hk]
 rfl
theorem Row.capLe (h:Row w e c f A cap xs):xs.length≤cap∧cap≤maxLen:=by
 rcases h.2 with ⟨q,q'⟩ | ⟨g,cap1,cur,hv,_,_,h1,h2,_⟩
 · injection q with _ q1 q2; subst q2; simp [q',maxLen]
 · injection hv with _ _ q2; subst q2; exact ⟨h1,h2⟩
end
section
variable {P:Program}
theorem wpList_append_one {α:Type} (w:World) {ops:Array Oper} {rest:List Oper} {o:Oper} {a:Act} {Q:Exit→Act→World→Prop} (hgd:o.guard=none) (s x:Operand) (t:TypeId)
 (ho:o.op=.call {callee:=.builtin .append,args:=#[s,x],argTypes:=#[t,t]})
 (e:TypeId) (i:TypeInfo) (z:Value) (c bytes:Nat) (ht:P.underlying t=some (.slice e)) (hi:P.info? e=some i) (hz:i.zero=some z) (hsize:i.size=c) (hby:i.bytes=bytes) (hzs:z.cells.size=c) (hsz:0<c)
 (f:α→List Value) (hf:∀ x,(f x).length=c) (h1:∀ x,∀ u∈f x,u.oneCell'=true) (A:Option Addr) (cap n:Nat) (xs:List α) (hn:xs.length=n) (y:α) (cs:Array Value) (hcs:(f y)=cs.toList)
 (hs:a.eval s=.slice A n cap) (hown:Row w e c f A cap xs) (hx:a.eval x=.slice (some ⟨w.heap.size,0,none⟩) 1 1)
 (h63:n+1≤maxLen) (hbytes:(n+1)*bytes≤140737488355328)
 (h:∀ A' cap' w',Row w' e c f A' cap' (xs++[y])→Only (In A) w w'→(∀ b,In A' b→In A b∨w.heap.size≤b)→wpList P ops Q rest (a.put o.dst (.slice A' (n+1) cap')) w'):
 wpList P ops Q (o::rest) a (w.alloc (.cells cs e)):=by
 subst hn
 have hb:=Blk.made w e cs
 refine wpList_append_own_at (w.alloc (.cells cs e)) hgd s x t ho 0 e i z c bytes ht hi hz hsize hby hzs hsz (.slice A xs.length cap) xs.length (xs.flatMap f) hs (hown.alloc _) ⟨w.heap.size,0,none⟩ 1 1 (f y) hx (by rw [hf,Nat.one_mul]) ?_ (h1 y) h63 hbytes (Nat.zero_le _) ?_
 · intro j u hu
   rw [Addr.add_lit,Nat.zero_add,hb.cell,← hu,hcs,Array.getElem?_toList]
 · intro v' w' hown' hg hnil hat
   obtain ⟨A',cap',rfl⟩:=own_slice hown'
   refine h A' cap' w' ?_ ?_ ?_
   · have e1:(xs++[y]).flatMap f=xs.flatMap f++f y:=by simp
     rw [Row,e1,List.length_append]
     exact hown'
   · exact ((Only.refl (In A) w).alloc _).grown hg (fun b hb=>.inl (by rw [own_block] at hb; exact hb))
   · intro b hb
     rw [own_block,own_block] at hat
     rcases hat with q | q
     · exact .inl (by rw [In,← q]; exact hb)
     · refine .inr ?_
       rw [In,q] at hb
       injection hb with hb
       simp at hb
       omega
end
end Go.Proofs.YtpobbnllcoabhaaGreatDoor.Rw
