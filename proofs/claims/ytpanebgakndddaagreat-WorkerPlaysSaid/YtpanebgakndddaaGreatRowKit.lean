/- A part. -/
import Derived.Test.YtpanebgakndddaaGreatHeap
import Derived.Test.YtpanebgakndddaaGreatFlat
import Derived.Maps.AppendAt
namespace Go.Proofs.YtpanebgakndddaaGreat.Rw
open Go Go.RowKit Hp Fl
def Row {α:Type} (w:World) (e:TypeId) (c:Nat) (f:α->List Value) (A:Option Addr) (cap:Nat) (xs:List α):Prop:=
 w.ownsRow 0 e c (.slice A xs.length cap) xs.length (xs.flatMap f)
def In (A:Option Addr) (b:Nat):Prop:=A.map (·.block)=some b
section
variable {α:Type} {w w':World} {e:TypeId} {c:Nat} {f:α->List Value} {A:Option Addr} {cap:Nat} {xs:List α}
theorem Row.nil (w:World) (e:TypeId) (c:Nat) (f:α->List Value):Row w e c f none 0 []:=World.ownsRow_nil w 0 e c
theorem Row.lt (h:Row w e c f A cap xs) {b:Nat} (hb:In A b):b<w.heap.size:=BJ h (by rw [mC]; exact hb)
theorem Row.only {S:Nat->Prop} (h:Row w e c f A cap xs) (ho:ab S w w') (hn:∀ b,In A b->¬S b):Row w' e c f A cap xs:=
 BL h ho (fun b hb=>hn b (by rw [mC] at hb; exact hb))
theorem Row.differ (h:Row w e c f A cap xs) {g:Nat} {t:TypeId} {cs:Array Value} (hb:af w g t cs) (aL:e≠t):¬In A g:=by
 intro hi
 exact yW h hb aL (by rw [mC]; exact hi)
theorem Row.apart {α':Type} {e':TypeId} {c':Nat} {f':α'->List Value} {A':Option Addr} {cap':Nat} {xs':List α'} (h:Row w e c f A cap xs) (h':Row w e' c' f' A' cap' xs') (aL:e≠e') {b:Nat} (h1:In A b):¬In A' b:=by
 intro h2
 rcases h'.2 with ⟨q,_⟩ | ⟨g,cap1,cur,hv,_,hg,_⟩
 ·injection q with q; subst q; simp [In] at h2
 ·injection hv with h3; subst h3
  have:g=b:=by simpa [In] using h2
  subst this
  exact h.differ (t:=e') (cs:=cur) hg aL h1
theorem Row.cells (h:Row w e c f A cap xs) (hf:∀ x,(f x).length=c) (k:Nat) (hk:k<xs.length):
 ∃ b,A=some ⟨b,0,none⟩/\b<w.heap.size/\∀ j,j<c->w.cell? ⟨b,k*c+j,none⟩=(f xs[k])[j]?/\w.frozen? ⟨b,k*c+j,none⟩=false:=by
 obtain ⟨b,rfl,_,_⟩:=Gn h (by omega)
 refine ⟨b,rfl,BJ h rfl,fun j hj=>⟨?_,World.ownsRow.frozenAt h _⟩⟩
 have aV:k*c+j<xs.length*c:=Nat.lt_of_lt_of_le (Nat.add_lt_add_left hj _) (by rw [<-Nat.succ_mul]; exact Nat.mul_le_mul_right _ hk)
 rw [World.ownsRow.cellAt h _ (by rwa [Nat.mul_comm] at aV ⊢),oI hf xs k j hj,List.getElem?_eq_getElem hk]
 rfl
theorem Row.ui (h:Row w e c f A cap xs):xs.length<=cap/\cap<=maxLen:=by
 rcases h.2 with ⟨q,q'⟩ | ⟨g,cap1,cur,hv,_,_,h1,h2,_⟩
 ·injection q with _ q1 q2; subst q2; simp [q',maxLen]
 ·injection hv with _ _ q2; subst q2; exact ⟨h1,h2⟩
end
section
variable {P:Program}
theorem kx {α:Type} (w:World) {ops:Array Oper} {rest:List Oper} {o:Oper} {a:Act} {Q:Exit->Act->World->Prop} (qi:o.guard=none) (s x:Operand) (t:TypeId)
 (ho:o.op=.call {callee:=.builtin .append,args:=#[s,x],argTypes:=#[t,t]})
 (e:TypeId) (i:TypeInfo) (z:Value) (c bytes:Nat) (ht:P.underlying t=some (.slice e)) (hi:P.info? e=some i) (hz:i.zero=some z) (rG:i.size=c) (m5:i.bytes=bytes) (tH:z.cells.size=c) (cA:0<c)
 (f:α->List Value) (hf:∀ x,(f x).length=c) (h1:∀ x,∀ u∈f x,u.oneCell'=true) (A:Option Addr) (cap n:Nat) (xs:List α) (hn:xs.length=n) (y:α) (cs:Array Value) (bo:(f y)=cs.toList)
 (hs:a.eval s=.slice A n cap) (eT:Row w e c f A cap xs) (hx:a.eval x=.slice (some ⟨w.heap.size,0,none⟩) 1 1)
 (rH:n+1<=maxLen) (rI:(n+1)*bytes<=140737488355328)
 (h:∀ A' cap' w',Row w' e c f A' cap' (xs++[y])->ab (In A) w w'->(∀ b,In A' b->In A b\/w.heap.size<=b)->wpList P ops Q rest (a.put o.dst (.slice A' (n+1) cap')) w'):
 wpList P ops Q (o::rest) a (w.alloc (.cells cs e)):=by
 subst hn
 have hb:=af.made w e cs
 refine wpList_append_own_at (w.alloc (.cells cs e)) qi s x t ho 0 e i z c bytes ht hi hz rG m5 tH cA (.slice A xs.length cap) xs.length (xs.flatMap f) hs (eT.alloc _) ⟨w.heap.size,0,none⟩ 1 1 (f y) hx (by rw [hf,Nat.one_mul]) ?_ (h1 y) rH rI (Nat.zero_le _) ?_
 ·intro j u hu
  rw [Addr.add_lit,Nat.zero_add,hb.cell,<-hu,bo,Array.getElem?_toList]
 ·intro v' w' Lu hg Yj cr
  obtain ⟨A',cap',rfl⟩:=BK Lu
  refine h A' cap' w' ?_ ?_ ?_
  ·have e1:(xs++[y]).flatMap f=xs.flatMap f++f y:=by simp
   rw [Row,e1,List.length_append]
   exact Lu
  ·exact ((ab.refl (In A) w).alloc _).grown hg (fun b hb=>.inl (by rw [mC] at hb; exact hb))
  ·intro b hb
   rw [mC,mC] at cr
   rcases cr with q | q
   ·exact .inl (by rw [In,<-q]; exact hb)
   ·refine .inr ?_
    rw [In,q] at hb
    injection hb with hb
    simp at hb
    omega
end
end Go.Proofs.YtpanebgakndddaaGreat.Rw
