/- A part. -/
import Derived.Test.YtpanebgakndddaaGreatLm
import Derived.Test.YtpanebgakndddaaGreatFinishN
set_option linter.unusedVariables false
set_option linter.unusedSimpArgs false
namespace Go.Proofs.YtpanebgakndddaaGreat.Pn
open Go Go.RowKit Hp K Fl Rw Hm Ar Mm Me
set_option maxRecDepth 100000
structure iG (A P:Type) where
 f:A->Nat
 At:World->A->P->Prop
 aQ:A->P->Nat->Prop
section
variable {A P:Type}
def iG.bh (X:iG A P) (w:World) (M:Mo) (a:A) (p:P) (L':Lm) (p':P) (w':World):Prop:=
 ∃ M' a',ah w' M'/\lm M'=L'/\gq w M M'/\X.At w' a' p'/\X.f a'=X.f a/\(∀ x,X.aQ a' p' x->X.aQ a p x\/w.heap.size<=x)/\ab (fun x=>aq M x\/X.aQ a p x) w w'
def iG.Inv (X:iG A P) (M0:Mo) (a0:A) (p0:P) (w0:World) (s:Lm×P) (w:World):Prop:=
 ∃ M a,ah w M/\lm M=s.1/\gq w0 M0 M/\X.At w a s.2/\X.f a=X.f a0/\(∀ x,X.aQ a s.2 x->X.aQ a0 p0 x\/w0.heap.size<=x)/\ab (fun x=>aq M0 x\/X.aQ a0 p0 x) w0 w
structure oR (X:iG A P) (T:TypeId) (fr fs:Nat) (Ok:Lm->P->Prop) (rd:Lm->P->Bool) (st:Lm->P->Lm×P) (dn:Lm->P->Bool):Prop where
 below:∀ {w w':World} {a:A} {p:P},X.At w a p->Below w.heap.size w w'->X.At w' a p
 mr:∀ (b:Nat) (w:World) (f:Nat),(method (f+1) T (.pointer (some ⟨b,0,none⟩)) "Ready").run Tryz.prog w=.ok (fr,.pointer (some ⟨b,0,none⟩)) w
 ms:∀ (b:Nat) (w:World) (f:Nat),(method (f+1) T (.pointer (some ⟨b,0,none⟩)) "Step").run Tryz.prog w=.ok (fs,.pointer (some ⟨b,0,none⟩)) w
 er:∀ args w,(callFunc fr args).run Tryz.prog w=.ok (.enter fr args) w
 es:∀ args w,(callFunc fs args).run Tryz.prog w=.ok (.enter fs args) w
 ready:∀ {w:World} {M:Mo} {a:A} {p:P},ah w M->X.At w a p->Ok (lm M) p->Calls Tryz.prog fr #[ptr (X.f a),ptr M.m] w fun e w'=>e=.returned (.bool (rd (lm M) p))/\Below w.heap.size w w'
 step:∀ {w:World} {M:Mo} {a:A} {p:P},ah w M->X.At w a p->Ok (lm M) p->rd (lm M) p=true->Calls Tryz.prog fs #[ptr (X.f a),ptr M.m] w fun e w'=>e=.returned (.bool (dn (lm M) p))/\X.bh w M a p (st (lm M) p).1 (st (lm M) p).2 w'
variable {X:iG A P} {T:TypeId} {fr fs:Nat} {Ok:Lm->P->Prop} {rd:Lm->P->Bool} {st:Lm->P->Lm×P} {dn:Lm->P->Bool}
variable {w w0:World} {M0:Mo} {a0:A} {p0:P} {s:Lm×P}
theorem iG.Inv.start {M:Mo} {a:A} {p:P} (hM:ah w M) (hP:X.At w a p):X.Inv M a p w (lm M,p) w:=⟨M,a,hM,rfl,gq.refl _ _,hP,rfl,fun _ q=>.inl q,ab.refl _ _⟩
theorem iG.Inv.oL (F:oR X T fr fs Ok rd st dn) (h:X.Inv M0 a0 p0 w0 s w) (ok:Ok s.1 s.2) (hr:rd s.1 s.2=true):
 Calls Tryz.prog fs #[ptr (X.f a0),ptr M0.m] w fun e w'=>e=.returned (.bool (dn s.1 s.2))/\X.Inv M0 a0 p0 w0 (st s.1 s.2) w':=by
 obtain ⟨M,a,hM,e,hK,hP,ea,hf,hO⟩:=h
 have hs:=F.step hM hP (by rw [e]; exact ok) (by rw [e]; exact hr)
 rw [e,hK.m,ea] at hs
 refine hs.mono fun e1 w' q=>⟨q.1,?_⟩
 obtain ⟨M',a',kh,e',Wi,Wj,ea',Eo,rq⟩:=q.2
 have cA:=hO.size
 refine ⟨M',a',kh,e',hK.trans Wi cA,Wj,ea'.trans ea,?_,hO.trans' rq ?_⟩
 ·intro x q
  rcases Eo x q with q | q
  ·exact hf x q
  ·exact .inr (by omega)
 ·rintro x hx (q | q)
  ·rcases hK.aQ x q with q | q
   ·exact .inl q
   ·omega
  ·rcases hf x q with q | q
   ·exact .inr q
   ·omega
theorem iG.Inv.Pp (F:oR X T fr fs Ok rd st dn) (h:X.Inv M0 a0 p0 w0 s w) (ok:Ok s.1 s.2):
 Calls Tryz.prog fr #[ptr (X.f a0),ptr M0.m] w fun e w'=>e=.returned (.bool (rd s.1 s.2))/\X.Inv M0 a0 p0 w0 s w':=by
 obtain ⟨M,a,hM,e,hK,hP,ea,hf,hO⟩:=h
 have hs:=F.ready hM hP (by rw [e]; exact ok)
 rw [e,hK.m,ea] at hs
 exact hs.mono fun e1 w' q=>⟨q.1,M,a,hM.below q.2,e,hK,F.below hP q.2,ea,hf,hO.below q.2⟩
theorem ni (F:oR X T fr fs Ok rd st dn) {M:Mo} {a:A} {p:P} (hM:ah w M) (hP:X.At w a p) (R:Nat->Lm×P->Prop) (Q:Lm×P->Prop)
 (hR:∀ k s,R k s->Ok s.1 s.2/\rd s.1 s.2=true/\1<=k/\(dn s.1 s.2=true->Q (st s.1 s.2))/\(dn s.1 s.2=false->R (k-1) (st s.1 s.2)))
 (k K:Nat) (h0:R k (lm M,p)) (hk:k<=K) (hK:K<=1000000):
 Calls Tryz.prog 58 #[ptr M.m,.iface T (ptr (X.f a)),.int .i64 K] w fun e w'=>∃ (n:Nat) (s:Lm×P),e=.returned (.tuple #[.int .i64 n,.bool true])/\(n<=k/\fin (fun s:Lm×P=>rd s.1 s.2) (fun s=>st s.1 s.2) (fun s=>dn s.1 s.2) K (lm M,p)=(n,true,s))/\Q s/\X.Inv M a p w s w':=by
 obtain ⟨n,s',e,hn,hq⟩:=Hk (rd:=fun s:Lm×P=>rd s.1 s.2) (st:=fun s=>st s.1 s.2) (dn:=fun s=>dn s.1 s.2) R Q (fun k s h=>(hR k s h).2) K k (lm M,p) h0 hk
 have:=Cd T fr fs (X.f a) (ptr M.m) (X.Inv M a p w) (fun _ s=>∃ k,R k s) (fun s:Lm×P=>rd s.1 s.2) (fun s=>st s.1 s.2) (fun s=>dn s.1 s.2)
  (F.mr _) (F.ms _) F.er F.es ?_ ?_ ?_ K hK (lm M,p) ⟨k,h0⟩ w (iG.Inv.start hM hP)
 ·rw [e] at this
  exact this.mono fun e1 w' q=>⟨n,s',q.1,⟨hn,e⟩,hq,q.2⟩
 ·rintro _ s w1 hI ⟨k,hr⟩
  exact hI.Pp F (hR k s hr).1
 ·rintro _ s w1 hI ⟨k,hr⟩ jt
  exact hI.oL F (hR k s hr).1 jt
 ·rintro _ s ⟨k,hr⟩ jt hd
  exact ⟨k-1,(hR k s hr).2.2.2.2 hd⟩
end
end Go.Proofs.YtpanebgakndddaaGreat.Pn
