/- A part. -/
import Derived.Test.YtpanebgakndddaaGreatHeap
import Derived.Test.YtpanebgakndddaaGreatFlat
import Derived.Maps.AppendAt
namespace Go.Proofs.YtpanebgakndddaaGreat.Rw
open Go Go.RowKit Hp Fl
def Row {α:Type} (w:World) (e:TypeId) (c:Nat) (f:α->List Value) (A:Option Addr) (cap:Nat) (xs:List α):Prop:=
 w.ownsRow 0 e c (.slice A xs.length cap) xs.length (xs.flatMap f)
def In (A:Option Addr) (b:Nat):Prop:=A.map (·.block)=some b
section
variable {α:Type} {w w':World} {e:TypeId} {c:Nat} {f:α->List Value} {A:Option Addr} {cap:Nat} {xs:List α}
theorem Row.nil (w:World) (e:TypeId) (c:Nat) (f:α->List Value):Row w e c f none 0 []:=World.ownsRow_nil w 0 e c
theorem Row.lt (h:Row w e c f A cap xs) {b:Nat} (hb:In A b):b<w.heap.size:=AY h (by rw [l8]; exact hb)
theorem Row.only {S:Nat->Prop} (h:Row w e c f A cap xs) (ho:ab S w w') (hn:∀ b,In A b->¬S b):Row w' e c f A cap xs:=
 A7 h ho (fun b hb=>hn b (by rw [l8] at hb; exact hb))
theorem Row.differ (h:Row w e c f A cap xs) {g:Nat} {t:TypeId} {cs:Array Value} (hb:af w g t cs) (aH:e≠t):¬In A g:=by
 intro hi
 exact yb h hb aH (by rw [l8]; exact hi)
theorem Row.cells (h:Row w e c f A cap xs) (hf:∀ x,(f x).length=c) (k:Nat) (hk:k<xs.length):
 ∃ b,A=some ⟨b,0,none⟩/\b<w.heap.size/\∀ j,j<c->w.cell? ⟨b,k*c+j,none⟩=(f xs[k])[j]?/\w.frozen? ⟨b,k*c+j,none⟩=false:=by
 obtain ⟨b,rfl,_,_⟩:=Fi h (by omega)
 refine ⟨b,rfl,AY h rfl,fun j hj=>⟨?_,World.ownsRow.frozenAt h _⟩⟩
 have bn:k*c+j<xs.length*c:=Nat.lt_of_lt_of_le (Nat.add_lt_add_left hj _) (by rw [<-Nat.succ_mul]; exact Nat.mul_le_mul_right _ hk)
 rw [World.ownsRow.cellAt h _ (by rwa [Nat.mul_comm] at bn ⊢),oh hf xs k j hj,List.getElem?_eq_getElem hk]
 rfl
theorem Row.rX (h:Row w e c f A cap xs):xs.length<=cap/\cap<=maxLen:=by
 rcases h.2 with ⟨q,q'⟩ | ⟨g,cap1,cur,hv,_,_,h1,h2,_⟩
 ·injection q with _ q1 q2; subst q2; simp [q',maxLen]
 ·injection hv with _ _ q2; subst q2; exact ⟨h1,h2⟩
end
section
variable {P:Program}
theorem se {α:Type} (w:World) {ops:Array Oper} {rest:List Oper} {o:Oper} {a:Act} {Q:Exit->Act->World->Prop} (pV:o.guard=none) (s x:Operand) (t:TypeId)
 (ho:o.op=.call {callee:=.builtin .append,args:=#[s,x],argTypes:=#[t,t]})
 (e:TypeId) (i:TypeInfo) (z:Value) (c bytes:Nat) (ht:P.underlying t=some (.slice e)) (hi:P.info? e=some i) (hz:i.zero=some z) (rp:i.size=c) (mF:i.bytes=bytes) (tu:z.cells.size=c) (cO:0<c)
 (f:α->List Value) (hf:∀ x,(f x).length=c) (h1:∀ x,∀ u∈f x,u.oneCell'=true) (A:Option Addr) (cap n:Nat) (xs:List α) (hn:xs.length=n) (y:α) (cs:Array Value) (bg:(f y)=cs.toList)
 (hs:a.eval s=.slice A n cap) (dZ:Row w e c f A cap xs) (hx:a.eval x=.slice (some ⟨w.heap.size,0,none⟩) 1 1)
 (rq:n+1<=maxLen) (rr:(n+1)*bytes<=140737488355328)
 (h:∀ A' cap' w',Row w' e c f A' cap' (xs++[y])->ab (In A) w w'->(∀ b,In A' b->In A b\/w.heap.size<=b)->wpList P ops Q rest (a.put o.dst (.slice A' (n+1) cap')) w'):
 wpList P ops Q (o::rest) a (w.alloc (.cells cs e)):=by
 subst hn
 have hb:=af.made w e cs
 refine wpList_append_own_at (w.alloc (.cells cs e)) pV s x t ho 0 e i z c bytes ht hi hz rp mF tu cO (.slice A xs.length cap) xs.length (xs.flatMap f) hs (dZ.alloc _) ⟨w.heap.size,0,none⟩ 1 1 (f y) hx (by rw [hf,Nat.one_mul]) ?_ (h1 y) rq rr (Nat.zero_le _) ?_
 ·intro j u hu
  rw [Addr.add_lit,Nat.zero_add,hb.cell,<-hu,bg,Array.getElem?_toList]
 ·intro v' w' KR hg XE bO
  obtain ⟨A',cap',rfl⟩:=AZ KR
  refine h A' cap' w' ?_ ?_ ?_
  ·have e1:(xs++[y]).flatMap f=xs.flatMap f++f y:=by simp
   rw [Row,e1,List.length_append]
   exact KR
  ·exact ((ab.refl (In A) w).alloc _).grown hg (fun b hb=>.inl (by rw [l8] at hb; exact hb))
  ·intro b hb
   rw [l8,l8] at bO
   rcases bO with q | q
   ·exact .inl (by rw [In,<-q]; exact hb)
   ·refine .inr ?_
    rw [In,q] at hb
    injection hb with hb
    simp at hb
    omega
end
end Go.Proofs.YtpanebgakndddaaGreat.Rw
