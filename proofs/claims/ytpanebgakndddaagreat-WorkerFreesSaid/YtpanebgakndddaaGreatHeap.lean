/- A part. -/
import Derived.Below
import Derived.Lib.AppendZeros
import Derived.Lib.AppendZerosOnto
import Derived.OwnWalk
import Derived.Laws.Rows
import Derived.Deep.Draws
namespace Go.Proofs.YtpanebgakndddaaGreat.Hp
open Go Go.RowKit
structure ab (S:Nat->Prop) (w w':World):Prop where
 os:w'.os=w.os
 tape:w'.tape=w.tape
 output:w'.output=w.output
 size:w.heap.size<=w'.heap.size
 block:∀ k,k<w.heap.size->¬S k->w'.heap[k]?=w.heap[k]?
section
variable {S S':Nat->Prop} {a b c w w':World}
theorem ab.refl (S:Nat->Prop) (w:World):ab S w w:=⟨rfl,rfl,rfl,Nat.le_refl _,fun _ _ _=>rfl⟩
theorem ab.trans' (h:ab S a b) (k:ab S' b c) (hS:∀ x,x<a.heap.size->S' x->S x):ab S a c:=
 ⟨k.os.trans h.os,k.tape.trans h.tape,k.output.trans h.output,Nat.le_trans h.size k.size,
  fun x hx hn=>(k.block x (Nat.lt_of_lt_of_le hx h.size) (fun q=>hn (hS x hx q))).trans (h.block x hx hn)⟩
theorem ab.trans (h:ab S a b) (k:ab S b c):ab S a c:=h.trans' k fun _ _ q=>q
theorem ab.mono (h:ab S a b) (hS:∀ x,x<a.heap.size->S x->S' x):ab S' a b:=
 ⟨h.os,h.tape,h.output,h.size,fun x hx hn=>h.block x hx (fun q=>hn (hS x hx q))⟩
theorem ab.drew (h:ab S a w):ab S a w.drew:=⟨h.os,h.tape,h.output,h.size,h.block⟩
theorem ab.drewN (h:ab S a w) (n:Nat):ab S a (w.drewN n):=⟨h.os,h.tape,h.output,h.size,h.block⟩
theorem ab.alloc (h:ab S a w) (o:Obj):ab S a (w.alloc o):=
 ⟨h.os,h.tape,h.output,Nat.le_trans h.size (by simp),fun i hi hn=>(Below.heap_alloc w o i (Nat.lt_of_lt_of_le hi h.size)).trans (h.block i hi hn)⟩
theorem ab.setCell (h:ab S a w) {p:Addr} (hp:S p.block\/a.heap.size<=p.block) (u:Value):ab S a (w.setCell p u):=
 ⟨h.os,h.tape,h.output,by simpa [World.setCell] using h.size,fun i hi hn=>(Below.heap_setCell w p u i (by
  rintro rfl
  rcases hp with hp | hp
  ·exact hn hp
  ·omega)).trans (h.block i hi hn)⟩
theorem ab.grown (h:ab S a w) {row:Option Nat} (hg:w.grownBy w' row) (hr:∀ g,row=some g->S g\/a.heap.size<=g):ab S a w':=
 ⟨hg.os.trans h.os,hg.tape.trans h.tape,hg.output.trans h.output,Nat.le_trans h.size hg.size,fun i hi hn=>(hg.block i (Nat.lt_of_lt_of_le hi h.size) (fun e=>by
  rcases hr i e.symm with q | q
  ·exact hn q
  ·omega)).trans (h.block i hi hn)⟩
theorem ab.below (h:ab S a w) (hb:Below w.heap.size w w'):ab S a w':=
 h.trans' (S':=fun _=>False) ⟨hb.os,hb.tape,hb.output,hb.size,fun k hk _=>hb.block k hk⟩ (fun _ _ q=>q.elim)
theorem ab.toBelow (h:ab S a w) {B:Nat} (hB:B<=a.heap.size) (hS:∀ x,x<B->¬S x):Below B a w:=
 ⟨h.os,h.tape,h.output,h.size,fun k hk=>h.block k (Nat.lt_of_lt_of_le hk hB) (hS k hk)⟩
theorem ab.aD (hb:Below a.heap.size a w) (S:Nat->Prop):ab S a w:=⟨hb.os,hb.tape,hb.output,hb.size,fun k hk _=>hb.block k hk⟩
theorem ab.cell (h:ab S a w) {p:Addr} (hp:p.block<a.heap.size) (hn:¬S p.block):w.cell? p=a.cell? p:=World.cell?_of_block (h.block p.block hp hn)
end
def af (w:World) (g:Nat) (t:TypeId) (cs:Array Value):Prop:=w.heap[g]?=some (.cells cs t (0,0))
section
variable {w w':World} {g:Nat} {t:TypeId} {cs:Array Value}
theorem af.lt (h:af w g t cs):g<w.heap.size:=(Array.getElem?_eq_some_iff.1 h).1
theorem af.cell (h:af w g t cs) (i:Nat):w.cell? ⟨g,i,none⟩=cs[i]?:=cell_of_row w g i cs t (0,0) h
theorem af.frozen (h:af w g t cs) (i:Nat):w.frozen? ⟨g,i,none⟩=false:=frozen_of_row w g i cs t h
theorem af.made (w:World) (t:TypeId) (cs:Array Value):af (w.alloc (.cells cs t)) w.heap.size t cs:=heap_alloc_new w _
theorem af.alloc (h:af w g t cs) (o:Obj):af (w.alloc o) g t cs:=(Below.heap_alloc w o g h.lt).trans h
theorem af.store (h:af w g t cs) (i:Nat) (u:Value):af (w.setCell ⟨g,i,none⟩ u) g t (cs.setIfInBounds i u):=heap_setCell_same w g i cs t u h
theorem af.aA (h:af w g t cs) {p:Addr} (hp:g≠p.block) (u:Value):af (w.setCell p u) g t cs:=(Below.heap_setCell w p u g hp).trans h
theorem af.only {S:Nat->Prop} (h:af w g t cs) (ho:ab S w w') (hn:¬S g):af w' g t cs:=(ho.block g h.lt hn).trans h
theorem af.differ {g':Nat} {t':TypeId} {cs':Array Value} (h:af w g t cs) (h':af w g' t' cs') (aH:t≠t'):g≠g':=by
 rintro rfl
 have e:=h.symm.trans h'
 injection e with e
 injection e with _ e
 exact aH e
theorem A7 {S:Nat->Prop} {base n size:Nat} {e:TypeId} {v:Value} {xs:List Value} (h:w.ownsRow base e size v n xs) (ho:ab S w w') (hn:∀ b,v.ownBlock=some b->¬S b):w'.ownsRow base e size v n xs:=by
 refine ⟨h.1,?_⟩
 rcases h.2 with q | ⟨g,cap,cur,rfl,hb,hg,r⟩
 ·exact .inl q
 ·exact .inr ⟨g,cap,cur,rfl,hb,(ho.block g (Array.getElem?_eq_some_iff.1 hg).1 (hn g rfl)).trans hg,r⟩
theorem AY {base n size:Nat} {e:TypeId} {v:Value} {xs:List Value} (h:w.ownsRow base e size v n xs) {b:Nat} (hb:v.ownBlock=some b):b<w.heap.size:=(h.lt b hb).2
theorem yb {base n size:Nat} {e:TypeId} {v:Value} {xs:List Value} (h:w.ownsRow base e size v n xs) (hb:af w g t cs) (aH:e≠t):v.ownBlock≠some g:=by
 rcases h.2 with ⟨rfl,_⟩ | ⟨g',cap,cur,rfl,_,hh,_⟩
 ·simp [Value.ownBlock]
 ·intro he
  have:g'=g:=by simpa [Value.ownBlock] using he
  subst this
  exact af.differ (t:=e) hh hb aH rfl
theorem af.grown {row:Option Nat} (h:af w g t cs) (hb:w.grownBy w' row) (hn:row≠some g):af w' g t cs:=(hb.block g h.lt (fun e=>hn e.symm)).trans h
theorem AZ {base n size:Nat} {e:TypeId} {v:Value} {xs:List Value} (h:w.ownsRow base e size v n xs):∃ A cap,v=.slice A n cap:=by
 rcases h.2 with ⟨rfl,rfl⟩ | ⟨g,cap,cur,rfl,_⟩
 ·exact ⟨_,_,rfl⟩
 ·exact ⟨_,_,rfl⟩
theorem Ci {base n size g':Nat} {e:TypeId} {xs:List Value} (h:w.ownsRow base e size (.slice (some ⟨g',0,none⟩) n n) n xs):af w g' e xs.toArray/\base<=g':=by
 rcases h.2 with ⟨q,_⟩ | ⟨g1,cap,cur,hv,hb,hg,_,_,hs,ht⟩
 ·injection q with q; cases q
 ·injection hv with h1 h2 h3
  injection h1 with h1
  injection h1 with h1
  subst h1
  subst h3
  refine ⟨?_,hb⟩
  unfold af
  rw [hg,<-ht,List.take_of_length_le (by simp [hs])]
theorem l8 {A:Option Addr} {n cap:Nat}:(Value.slice A n cap).ownBlock=A.map (·.block):=by cases A<;>rfl
theorem Fi {base n m cap size:Nat} {e:TypeId} {A:Option Addr} {xs:List Value} (h:w.ownsRow base e size (.slice A m cap) n xs) (h0:0<n):
 ∃ g,A=some ⟨g,0,none⟩/\m=n/\n<=cap:=by
 rcases h.2 with ⟨_,h'⟩ | ⟨g,cap',cur,hv,_,_,hc,_⟩
 ·omega
 ·injection hv with h1 h2 h3
  exact ⟨g,h1,h2,by omega⟩
end
theorem Ha (z:Value) (n:Nat):(Builtin.zeroCells #[z] n).toList=List.replicate n z:=by
 apply List.ext_getElem?
 intro j
 by_cases hj:j<n
 ·simp [Builtin.zeroCells,hj,Nat.mod_one]
 ·simp [Builtin.zeroCells,hj]
section
variable {P:Program} (w:World)
theorem PY (base:Nat) (t tn ty e:TypeId) (i:TypeInfo) (z:Value) (kq kn:IntKind) (bytes:Nat) (ht:P.underlying t=some (.slice e)) (rn:P.underlying tn=some (.int kn)) (hi:P.info? e=some i) (hz:i.zero=some z)
 (rp:i.size=1) (mF:i.bytes=bytes) (xw:z.cells=#[z]) (cT:z.oneCell'=true)
 (v:Value) (n:Nat) (xs:List Value) (dZ:w.ownsRow base e 1 v n xs) (m:Nat)
 (rq:n+m<=maxLen) (rr:(n+m)*bytes<=140737488355328) (uQ:base<=w.heap.size):
 ∃ v' w',(Builtin.append_ #[t,tn] ty #[v,.int kq m]).run P w=.ok v' w'/\w'.ownsRow base e 1 v' (n+m) (xs++List.replicate m z)/\w.grownBy w' v.ownBlock/\
   (v'.ownBlock=v.ownBlock\/v'.ownBlock=some w.heap.size):=by
 subst mF
 have Xl:n+m<=9223372036854775807:=by simp only [maxLen] at rq; omega
 have bz:xs.length=n:=by simpa using dZ.1
 have hlen:(xs++List.replicate m z).length=(n+m)*1:=by simp [bz]
 have hw:IntKind.i64.wrap (m:Int)=m:=by rw [IntKind.wrap_i64]; omega
 have VP:¬((m:Int)<0):=by omega
 have Xm:m*i.bytes<=140737488355328:=Nat.le_trans (Nat.mul_le_mul_right _ (by omega)) rr
 have VQ:¬(281474976710656<(m:Int)*(i.bytes:Int)):=by
  rw [<-Int.natCast_mul]
  omega
 have grown:∀ (old:Nat) (row:Option Nat),
  (w.drew.alloc (.cells (xs.toArray++Builtin.zeroCells z.cells m++Builtin.zeroCells z.cells (grownCap w (n+m) old e-(n+m))) e)).ownsRow base e 1
    (.slice (some ⟨w.heap.size,0,none⟩) (n+m) (grownCap w (n+m) old e)) (n+m) (xs++List.replicate m z)/\
  w.grownBy (w.drew.alloc (.cells (xs.toArray++Builtin.zeroCells z.cells m++Builtin.zeroCells z.cells (grownCap w (n+m) old e-(n+m))) e)) row:=by
  intro old row
  have dL:=grownCap_ge w (n+m) old e
  have ru:grownCap w (n+m) old e<=maxLen:=grownCap_le_maxLen w (n+m) old e rq
  refine ⟨⟨hlen,.inr ⟨w.heap.size,_,_,rfl,uQ,heap_alloc_new w.drew _,dL,ru,?_,?_⟩⟩,⟨rfl,rfl,rfl,by simp,fun k hk _=>heap_alloc_old w.drew _ k hk⟩⟩
  ·simp only [Array.size_append,List.size_toArray,size_zeroCells,xw,bz]
   simp
   omega
  ·simp only [Array.toList_append,xw,Ha]
   rw [<-hlen]
   exact List.take_left
 rcases dZ.2 with ⟨rfl,rfl⟩ | ⟨g,cap,cur,rfl,VR,hg,re,ru,bg,uR⟩
 ·have hx:xs=[]:=List.eq_nil_of_length_eq_zero bz
  subst hx
  by_cases hm:m=0
  ·subst hm
   refine ⟨.slice none 0 0,w,?_,World.ownsRow_nil w base e 1,World.grownBy.refl _ _,.inl rfl⟩
   simp [Builtin.append_,run_underlying ht,run_underlying rn,sizeOf,typeInfo,hi,asInt,asIntOf,IntKind.wrap_i64]
  ·have hr:=Lib.run_append_nil_zeros (P:=P) w t tn ty e i z kq kn ht rn hi hz m (by omega) (by omega) (by omega) (by omega)
   have o8:=grown 0 none
   simp only [Nat.zero_add,List.nil_append,Array.empty_append] at o8 ⊢
   exact ⟨_,_,hr,o8.1,⟨o8.2.os,o8.2.tape,o8.2.output,o8.2.size,fun k hk _=>o8.2.block k hk (by simp)⟩,.inr rfl⟩
 ·by_cases qh:n+m<=cap
  ·by_cases hm:m=0
   ·subst hm
    refine ⟨.slice (some ⟨g,0,none⟩) n cap,w,?_,by simpa using dZ,World.grownBy.refl _ _,.inl rfl⟩
    simp [Builtin.append_,run_underlying ht,run_underlying rn,sizeOf,typeInfo,hi,asInt,asIntOf,IntKind.wrap_i64,re,storeCells]
   ·have wN:0+n+(List.replicate m z).length<=cur.size:=by rw [bg]; simp; omega
    have bt:=run_storeCells_at P g n e (List.replicate m z) 0 cur w hg (by simpa using wN) (by
     intro u hu
     rw [List.eq_of_mem_replicate hu]
     exact cT)
    simp only [Nat.add_zero] at bt
    refine ⟨.slice (some ⟨g,0,none⟩) (n+m) cap,w.setRow g (cur.toList.take n++List.replicate m z++cur.toList.drop (n+m)).toArray,?_,⟨hlen,.inr ⟨g,cap,_,rfl,VR,setRow_heap w g cur _ e _ hg,qh,ru,?_,?_⟩⟩,⟨rfl,rfl,rfl,by simp,fun k _ hk=>setRow_other w g k _ (fun e=>hk (by simp [Value.ownBlock,e]))⟩,.inl rfl⟩
    ·simp [Builtin.append_,run_underlying ht,run_underlying rn,sizeOf,typeInfo,zeroValue,hi,hz,asInt,asIntOf,hw,VP,VQ,qh,rp,hm,xw,Ha,Addr.add_lit,bt]
    ·simp only [List.size_toArray,List.length_append,List.length_take,List.length_drop,Array.length_toList,List.length_replicate]
     omega
    ·have e1:cur.toList.take n=xs:=by simpa using uR
     rw [e1,<-hlen]
     exact List.take_left
  ·have holds:∀ j u,xs[j]?=some u->w.cell? ((⟨g,0,none⟩:Addr).add j)=some u:=dZ.cells (g:=g) rfl
   have iC:=run_firstCells_some (P:=P) w.drew i.size n ⟨g,0,none⟩ n cap xs (by rw [rp]; exact dZ.1) (by simpa using holds)
   have hr:=Lib.run_append_grow_zeros (P:=P) w t tn ty e i z kq kn ht rn hi hz (some ⟨g,0,none⟩) n cap xs iC m (by omega) (by omega) (by omega) (by omega) (by omega) (growslice_fits (by omega) rr)
   have o8:=grown cap (Value.ownBlock (.slice (some ⟨g,0,none⟩) n cap))
   exact ⟨_,_,hr,o8.1,o8.2,.inr rfl⟩
theorem Mb {ops:Array Oper} {rest:List Oper} {o:Oper} {a:Act} {Q:Exit->Act->World->Prop} (pV:o.guard=none) (s x:Operand) (t tn:TypeId)
 (ho:o.op=.call {callee:=.builtin .append,args:=#[s,x],argTypes:=#[t,tn]})
 (base:Nat) (e:TypeId) (i:TypeInfo) (z:Value) (kq kn:IntKind) (bytes:Nat) (ht:P.underlying t=some (.slice e)) (rn:P.underlying tn=some (.int kn)) (hi:P.info? e=some i) (hz:i.zero=some z)
 (rp:i.size=1) (mF:i.bytes=bytes) (xw:z.cells=#[z]) (cT:z.oneCell'=true)
 (v:Value) (n:Nat) (xs:List Value) (hs:a.eval s=v) (dZ:w.ownsRow base e 1 v n xs) (m:Nat) (hx:a.eval x=.int kq m)
 (rq:n+m<=maxLen) (rr:(n+m)*bytes<=140737488355328) (uQ:base<=w.heap.size)
 (h:∀ v' w',w'.ownsRow base e 1 v' (n+m) (xs++List.replicate m z)->w.grownBy w' v.ownBlock->(v'.ownBlock=v.ownBlock\/v'.ownBlock=some w.heap.size)->wpList P ops Q rest (a.put o.dst v') w'):wpList P ops Q (o::rest) a w:=by
 obtain ⟨v',w',hr,h2,h3,h4⟩:=PY (P:=P) w base t tn o.type e i z kq kn bytes ht rn hi hz rp mF xw cT v n xs dZ m rq rr uQ
 exact Lib.wpList_append_run w pV s x t tn ho v (.int kq m) hs hx v' w' hr (h v' w' h2 h3 h4)
end
end Go.Proofs.YtpanebgakndddaaGreat.Hp
