/- A part. -/
import Derived.Test.YtpanebgakndddaaGreatMemMath
import Derived.Test.YtpanebgakndddaaGreatCellsWalk
import Derived.Test.YtpanebgakndddaaGreatLocksWalk
import Derived.Test.YtpanebgakndddaaGreatArenaMake
import Derived.Test.YtpanebgakndddaaGreatRowKit
set_option linter.unusedVariables false
set_option linter.unusedSimpArgs false
namespace Go.Proofs.YtpanebgakndddaaGreat.Me
open Go Go.RowKit Hp K Fl Rw Hm Ar Mm
set_option maxRecDepth 100000
/-! ### blocks by their types-/
def Ty (w:World) (x:Nat) (ts:List TypeId):Prop:=∃ t cs,af w x t cs/\t∈ts
theorem Ty.apart {w:World} {x:Nat} {ts us:List TypeId} (h:Ty w x ts) (h':Ty w x us) (hd:∀ t∈ts,t∉us):False:=by
 obtain ⟨t,cs,hb,ht⟩:=h
 obtain ⟨u,cs',cN,hu⟩:=h'
 by_cases e:t=u
 ·subst e; exact hd t ht hu
 ·exact absurd rfl (hb.differ cN e)
theorem Ty.lt {w:World} {x:Nat} {ts:List TypeId} (h:Ty w x ts):x<w.heap.size:=by obtain ⟨t,cs,hb,_⟩:=h; exact hb.lt
theorem aV {w:World} {x:Nat} {t:TypeId} {cs:Array Value} (h:af w x t cs):Ty w x [t]:=⟨t,cs,h,by simp⟩
theorem vF {α:Type} {w:World} {e:TypeId} {c:Nat} {f:α->List Value} {A:Option Addr} {cap:Nat} {xs:List α} (h:Row w e c f A cap xs) {x:Nat} (hx:In A x):∃ cs,af w x e cs:=by
 rcases h.2 with ⟨q,_⟩ | ⟨g,cap1,cur,hv,_,hg,_⟩
 ·injection q with q; subst q; simp [In] at hx
 ·injection hv with h3; subst h3
  have:g=x:=by simpa [In] using hx
  subst this
  exact ⟨cur,hg⟩
theorem b9 {α:Type} {w:World} {e:TypeId} {c:Nat} {f:α->List Value} {A:Option Addr} {cap:Nat} {xs:List α} (h:Row w e c f A cap xs) {x:Nat} (hx:In A x):Ty w x [e]:=by
 obtain ⟨cs,hb⟩:=vF h hx
 exact ⟨e,cs,hb,by simp⟩
theorem Ty.mono {w:World} {x:Nat} {ts us:List TypeId} (h:Ty w x ts) (hs:∀ t∈ts,t∈us):Ty w x us:=by
 obtain ⟨t,cs,hb,ht⟩:=h; exact ⟨t,cs,hb,hs t ht⟩
theorem sA {w:World} {g:Nat} {A:Option Addr} {cap:Nat} {xs:List Int} (h:Cl.fW w g A cap xs) {x:Nat} (hx:Cl.aS g A x):Ty w x [146,39]:=by
 rcases hx with rfl | hx
 ·exact ⟨_,_,h.1,by simp⟩
 ·rcases h.2.1.2 with ⟨q,_⟩ | ⟨g,cap1,cur,hv,_,hg,_⟩
  ·injection q with q; subst q; simp at hx
  ·injection hv with h3; subst h3
   have:g=x:=by simpa using hx
   subst this
   exact ⟨_,_,hg,by simp⟩
theorem qM {w:World} {g b:Nat} {hs:List Int} (h:Lo.gF w g b hs) {x:Nat} (hx:Lo.aS g b x):Ty w x [149,174]:=by
 rcases hx with rfl | rfl
 ·exact ⟨_,_,h.1,by simp⟩
 ·exact ⟨_,_,h.2.1,by simp⟩
theorem sB {w:World} {g sb fb:Nat} {ss:List Sl} {F:Bool} (h:bS w g sb fb ss F) {x:Nat} (hx:dN g sb fb x):Ty w x [91,96,3]:=by
 obtain ⟨fr,hP,hB,_⟩:=h
 rcases hx with rfl | rfl | rfl
 ·exact ⟨_,_,hP.1,by simp⟩
 ·exact ⟨_,_,hB,by simp⟩
 ·obtain ⟨cs,hc⟩:=vF hP.2 (x:=x) rfl
  exact ⟨_,cs,hc,by simp⟩
theorem ue {S:Nat->Prop} {w w':World} {g:Nat} {A:Option Addr} {cap:Nat} {xs:List Int} (h:Cl.fW w g A cap xs) (ho:ab S w w') (hn:∀ x,Cl.aS g A x->¬S x):Cl.fW w' g A cap xs:=
 ⟨h.1.only ho (hn g (.inl rfl)),A7 h.2.1 ho (fun b hb=>hn b (.inr (by rw [l8] at hb; exact hb))),h.2.2⟩
/-! ### a memory-/
def bB (h:Nat):List Value:=[.int .u64 h]
theorem Q2 (h:Nat):(bB h).length=1:=rfl
def qN (d:Nat×Nat):List Value:=[.int .i64 d.1,.int .i64 d.2]
theorem HX (d:Nat×Nat):(qN d).length=2:=rfl
abbrev pJ (w:World) (A:Option Addr) (cap:Nat) (hs:List Nat):Prop:=Row w 40 1 bB A cap hs
structure Mo where
 m:Nat
 g:Nat
 A:Option Addr
 cap:Nat
 xs:List Int
 lg:Nat
 lb:Nat
 hs:List Int
 ar:Nat
 sb:Nat
 fb:Nat
 ss:List Sl
 F:Bool
 k:Int
 T:Option Addr
 capT:Nat
 ds:List (Nat×Nat)
 V:Option Addr
 capV:Nat
 ws:List Nat
abbrev ptr (b:Nat):Value:=.pointer (some ⟨b,0,none⟩)
def sC (M:Mo):Array Value:=#[ptr M.g,ptr M.lg,ptr M.ar,.int .i64 M.k,.slice M.T M.ds.length M.capT,.slice M.V M.ws.length M.capV]
def ah (w:World) (M:Mo):Prop:=
 af w M.m 63 (sC M)/\Cl.fW w M.g M.A M.cap M.xs/\Lo.gF w M.lg M.lb M.hs/\bS w M.ar M.sb M.fb M.ss M.F/\Row w 141 2 qN M.T M.capT M.ds/\pJ w M.V M.capV M.ws
def ao (M:Mo) (x:Nat):Prop:=x=M.m\/Cl.aS M.g M.A x\/Lo.aS M.lg M.lb x\/dN M.ar M.sb M.fb x\/In M.T x\/In M.V x
abbrev yo:List TypeId:=[63,146,39,149,174,91,96,3,141,40]
section
variable {w w':World} {M:Mo}
theorem ah.ty (h:ah w M) {x:Nat} (hx:ao M x):Ty w x yo:=by
 obtain ⟨h1,h2,h3,h4,h5,h6⟩:=h
 rcases hx with rfl | hx | hx | hx | hx | hx
 ·exact (aV h1).mono (by simp)
 ·exact (sA h2 hx).mono (by simp)
 ·exact (qM h3 hx).mono (by simp)
 ·exact (sB h4 hx).mono (by simp)
 ·exact (b9 h5 hx).mono (by simp)
 ·exact (b9 h6 hx).mono (by simp)
theorem ah.lt (h:ah w M) {x:Nat} (hx:ao M x):x<w.heap.size:=(h.ty hx).lt
theorem ah.only {S:Nat->Prop} (h:ah w M) (ho:ab S w w') (hn:∀ x,ao M x->¬S x):ah w' M:=by
 obtain ⟨h1,h2,h3,h4,h5,h6⟩:=h
 exact ⟨h1.only ho (hn _ (.inl rfl)),ue h2 ho (fun x hx=>hn x (.inr (.inl hx))),h3.only ho (fun x hx=>hn x (.inr (.inr (.inl hx)))),h4.only ho (fun x hx=>hn x (.inr (.inr (.inr (.inl hx))))),
  h5.only ho (fun x hx=>hn x (.inr (.inr (.inr (.inr (.inl hx)))))),h6.only ho (fun x hx=>hn x (.inr (.inr (.inr (.inr (.inr hx))))))⟩
theorem ah.below (h:ah w M) (hb:Below w.heap.size w w'):ah w' M:=h.only (S:=fun _=>False) (ab.aD hb _) (by simp)
theorem ah.alloc (h:ah w M) (o:Obj):ah (w.alloc o) M:=h.only (S:=fun _=>False) ((ab.refl _ _).alloc o) (by simp)
theorem ah.drewN (h:ah w M) (n:Nat):ah (w.drewN n) M:=h.only (S:=fun _=>False) ((ab.refl _ _).drewN n) (by simp)
theorem ah.hd (h:ah w M):w.cell? ⟨M.m,0,none⟩=some (ptr M.g)/\w.cell? ⟨M.m,1,none⟩=some (ptr M.lg)/\w.cell? ⟨M.m,2,none⟩=some (ptr M.ar)/\w.cell? ⟨M.m,3,none⟩=some (.int .i64 M.k)/\
 w.cell? ⟨M.m,4,none⟩=some (.slice M.T M.ds.length M.capT)/\w.cell? ⟨M.m,5,none⟩=some (.slice M.V M.ws.length M.capV):=
 ⟨h.1.cell 0,h.1.cell 1,h.1.cell 2,h.1.cell 3,h.1.cell 4,h.1.cell 5⟩
theorem ah.cells {A':Option Addr} {cap':Nat} {xs':List Int} (h:ah w M) (hC:Cl.fW w' M.g A' cap' xs') (ho:ab (Cl.aS M.g M.A) w w'):ah w' {M with A:=A',cap:=cap',xs:=xs'}:=by
 obtain ⟨h1,h2,h3,h4,h5,h6⟩:=h
 have hS:=fun x=>sA h2 (x:=x)
 exact ⟨h1.only ho (fun q=>(hS _ q).apart (aV h1) (by decide)),hC,h3.only ho (fun x hx q=>(hS _ q).apart (qM h3 hx) (by decide)),h4.only ho (fun x hx q=>(hS _ q).apart (sB h4 hx) (by decide)),
  h5.only ho (fun x hx q=>(hS _ q).apart (b9 h5 hx) (by decide)),h6.only ho (fun x hx q=>(hS _ q).apart (b9 h6 hx) (by decide))⟩
theorem ah.qI {ss':List Sl} {F':Bool} (h:ah w M) (hC:bS w' M.ar M.sb M.fb ss' F') (ho:ab (dN M.ar M.sb M.fb) w w'):ah w' {M with ss:=ss',F:=F'}:=by
 obtain ⟨h1,h2,h3,h4,h5,h6⟩:=h
 have hS:=fun x=>sB h4 (x:=x)
 exact ⟨h1.only ho (fun q=>(hS _ q).apart (aV h1) (by decide)),ue h2 ho (fun x hx q=>(hS _ q).apart (sA h2 hx) (by decide)),h3.only ho (fun x hx q=>(hS _ q).apart (qM h3 hx) (by decide)),hC,
  h5.only ho (fun x hx q=>(hS _ q).apart (b9 h5 hx) (by decide)),h6.only ho (fun x hx q=>(hS _ q).apart (b9 h6 hx) (by decide))⟩
theorem ah.mf {hs':List Int} (h:ah w M) (hC:Lo.gF w' M.lg M.lb hs') (ho:ab (Lo.aS M.lg M.lb) w w'):ah w' {M with hs:=hs'}:=by
 obtain ⟨h1,h2,h3,h4,h5,h6⟩:=h
 have hS:=fun x=>qM h3 (x:=x)
 exact ⟨h1.only ho (fun q=>(hS _ q).apart (aV h1) (by decide)),ue h2 ho (fun x hx q=>(hS _ q).apart (sA h2 hx) (by decide)),hC,h4.only ho (fun x hx q=>(hS _ q).apart (sB h4 hx) (by decide)),
  h5.only ho (fun x hx q=>(hS _ q).apart (b9 h5 hx) (by decide)),h6.only ho (fun x hx q=>(hS _ q).apart (b9 h6 hx) (by decide))⟩
theorem ah.tables {w1:World} {T':Option Addr} {cap':Nat} {ds':List (Nat×Nat)} (h:ah w M) (hT:Row w1 141 2 qN T' cap' ds') (ho:ab (In M.T) w w1):
 ah (w1.setCell ⟨M.m,4,none⟩ (.slice T' ds'.length cap')) {M with T:=T',capT:=cap',ds:=ds'}/\ab (fun x=>x=M.m\/In M.T x) w (w1.setCell ⟨M.m,4,none⟩ (.slice T' ds'.length cap')):=by
 obtain ⟨h1,h2,h3,h4,h5,h6⟩:=h
 have hS:=fun x=>b9 h5 (x:=x)
 have hm:=h1.only ho (fun q=>(hS _ q).apart (aV h1) (by decide))
 have qb:=(ab.refl (·=M.m) w1).setCell (p:=⟨M.m,4,none⟩) (.inl rfl) (.slice T' ds'.length cap')
 have fZ:ab (fun x=>x=M.m\/In M.T x) w (w1.setCell ⟨M.m,4,none⟩ (.slice T' ds'.length cap')):=(ho.mono (fun x _ q=>.inr q)).trans' qb (fun x _ q=>.inl q)
 have ap:∀ {x:Nat} {us:List TypeId},Ty w x us->(∀ t∈us,t∉[63,141])->¬(x=M.m\/In M.T x):=fun {x us} hx hd q=>by
  rcases q with rfl | q
  ·exact hx.apart ((aV h1).mono (us:=[63,141]) (by simp)) hd
  ·exact hx.apart ((hS _ q).mono (us:=[63,141]) (by simp)) hd
 refine ⟨⟨by simpa [sC] using hm.store 4 (.slice T' ds'.length cap'),ue h2 fZ (fun x hx=>ap (sA h2 hx) (by decide)),h3.only fZ (fun x hx=>ap (qM h3 hx) (by decide)),h4.only fZ (fun x hx=>ap (sB h4 hx) (by decide)),
  hT.only qb (fun x hx q=>(b9 hT hx).apart (by subst q; exact aV hm) (by decide)),h6.only fZ (fun x hx=>ap (b9 h6 hx) (by decide))⟩,fZ⟩
theorem ah.wait {w1:World} {V':Option Addr} {cap':Nat} {ws':List Nat} (h:ah w M) (hT:pJ w1 V' cap' ws') (ho:ab (In M.V) w w1):
 ah (w1.setCell ⟨M.m,5,none⟩ (.slice V' ws'.length cap')) {M with V:=V',capV:=cap',ws:=ws'}/\ab (fun x=>x=M.m\/In M.V x) w (w1.setCell ⟨M.m,5,none⟩ (.slice V' ws'.length cap')):=by
 obtain ⟨h1,h2,h3,h4,h5,h6⟩:=h
 have hS:=fun x=>b9 h6 (x:=x)
 have hm:=h1.only ho (fun q=>(hS _ q).apart (aV h1) (by decide))
 have qb:=(ab.refl (·=M.m) w1).setCell (p:=⟨M.m,5,none⟩) (.inl rfl) (.slice V' ws'.length cap')
 have fZ:ab (fun x=>x=M.m\/In M.V x) w (w1.setCell ⟨M.m,5,none⟩ (.slice V' ws'.length cap')):=(ho.mono (fun x _ q=>.inr q)).trans' qb (fun x _ q=>.inl q)
 have ap:∀ {x:Nat} {us:List TypeId},Ty w x us->(∀ t∈us,t∉[63,40])->¬(x=M.m\/In M.V x):=fun {x us} hx hd q=>by
  rcases q with rfl | q
  ·exact hx.apart ((aV h1).mono (us:=[63,40]) (by simp)) hd
  ·exact hx.apart ((hS _ q).mono (us:=[63,40]) (by simp)) hd
 refine ⟨⟨by simpa [sC] using hm.store 5 (.slice V' ws'.length cap'),ue h2 fZ (fun x hx=>ap (sA h2 hx) (by decide)),h3.only fZ (fun x hx=>ap (qM h3 hx) (by decide)),h4.only fZ (fun x hx=>ap (sB h4 hx) (by decide)),
  h5.only fZ (fun x hx=>ap (b9 h5 hx) (by decide)),hT.only qb (fun x hx q=>(b9 hT hx).apart (by subst q; exact aV hm) (by decide))⟩,fZ⟩
end
/-! ### tables-/
def aN (ds:List (Nat×Nat)) (i:Nat):Nat×Nat:=ds.getD i (0,0)
def now (xs:List Int) (ds:List (Nat×Nat)):Nat×Nat:=aN ds (Cl.nth xs 1).toNat
theorem Q3 {ds:List (Nat×Nat)} {i:Nat} (h:i<ds.length):aN ds i=ds[i]:=by simp [aN,List.getD,h]
theorem rT {ds:List (Nat×Nat)} {i:Nat} (h:ds.length<=i):aN ds i=(0,0):=by simp [aN,List.getD,h]
theorem HY {w:World} {e:TypeId} {A:Option Addr} {cap:Nat} {ds:List (Nat×Nat)} (h:Row w e 2 qN A cap ds) (i:Nat) (hi:i<ds.length):
 ∃ b,A=some ⟨b,0,none⟩/\b<w.heap.size/\w.cell? ⟨b,i*2,none⟩=some (.int .i64 (aN ds i).1)/\w.cell? ⟨b,i*2+1,none⟩=some (.int .i64 (aN ds i).2):=by
 obtain ⟨b,e,hb,hc⟩:=h.cells HX i hi
 have c0:=(hc 0 (by omega)).1
 have c1:=(hc 1 (by omega)).1
 rw [<-Q3 hi] at c0 c1
 exact ⟨b,e,hb,by simpa [qN] using c0,by simpa [qN] using c1⟩
theorem HZ {w:World} {e:TypeId} {A:Option Addr} {cap:Nat} {hs:List Nat} (h:Row w e 1 bB A cap hs) (k:Nat) (hk:k<hs.length):∃ b,A=some ⟨b,0,none⟩/\b<w.heap.size/\w.cell? ⟨b,k,none⟩=some (.int .u64 (nth hs k:Nat))/\w.frozen? ⟨b,k,none⟩=false:=by
 obtain ⟨b,e,hb,hc⟩:=h.cells Q2 k hk
 refine ⟨b,e,hb,?_⟩
 have h0:=hc 0 (by omega)
 simp [bB] at h0
 rw [qu hk]
 exact h0
def l7 (xs:List Int) (ds:List (Nat×Nat)):Prop:=∀ i,i<ds.length->1<=(aN ds i).1/\(aN ds i).1<=65536/\(aN ds i).2+(aN ds i).1<=xs.length
theorem l7.now {xs:List Int} {ds:List (Nat×Nat)} (h:l7 xs ds):(now xs ds).1<=65536/\(0<(Me.now xs ds).1->(Me.now xs ds).2+(Me.now xs ds).1<=xs.length)/\(Me.now xs ds).2<=1048576+xs.length:=by
 unfold Me.now
 by_cases hi:(Cl.nth xs 1).toNat<ds.length
 ·have:=h _ hi
  omega
 ·rw [rT (by omega)]
  simp
theorem H2 {W w1:World} (hb:Below W.heap.size W w1):(∀ b o,b<W.heap.size->w1.cell? ⟨b,o,none⟩=W.cell? ⟨b,o,none⟩)/\(∀ b o,b<W.heap.size->w1.frozen? ⟨b,o,none⟩=W.frozen? ⟨b,o,none⟩):=
 ⟨fun b o h=>hb.cell (p:=⟨b,o,none⟩) h,fun b o h=>hb.frozen (p:=⟨b,o,none⟩) h⟩
theorem CD:(Tryz.prog.info? 40).map (fun i=>(i.zero,i.size,i.bytes))=some (some (.int .u64 0),1,8):=by kernel_rfl
theorem Q4:(Tryz.prog.info? 141).map (fun i=>(i.zero,i.size,i.bytes))=some (some (.agg #[.int .i64 0,.int .i64 0]),2,16):=by kernel_rfl
end Go.Proofs.YtpanebgakndddaaGreat.Me
