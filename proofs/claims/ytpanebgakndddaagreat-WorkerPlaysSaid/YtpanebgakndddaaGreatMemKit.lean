/- A part. -/
import Derived.Test.YtpanebgakndddaaGreatMemMath
import Derived.Test.YtpanebgakndddaaGreatCellsWalk
import Derived.Test.YtpanebgakndddaaGreatLocksWalk
import Derived.Test.YtpanebgakndddaaGreatArenaMake
import Derived.Test.YtpanebgakndddaaGreatRowKit
set_option linter.unusedVariables false
set_option linter.unusedSimpArgs false
namespace Go.Proofs.YtpanebgakndddaaGreat.Me
open Go Go.RowKit Hp K Fl Rw Hm Ar Mm
set_option maxRecDepth 100000
/-! ### blocks by their types-/
def Ty (w:World) (x:Nat) (ts:List TypeId):Prop:=∃ t cs,af w x t cs/\t∈ts
theorem Ty.apart {w:World} {x:Nat} {ts us:List TypeId} (h:Ty w x ts) (h':Ty w x us) (hd:∀ t∈ts,t∉us):False:=by
 obtain ⟨t,cs,hb,ht⟩:=h
 obtain ⟨u,cs',cY,hu⟩:=h'
 by_cases e:t=u
 ·subst e; exact hd t ht hu
 ·exact absurd rfl (hb.differ cY e)
theorem Ty.lt {w:World} {x:Nat} {ts:List TypeId} (h:Ty w x ts):x<w.heap.size:=by obtain ⟨t,cs,hb,_⟩:=h; exact hb.lt
theorem bm {w:World} {x:Nat} {t:TypeId} {cs:Array Value} (h:af w x t cs):Ty w x [t]:=⟨t,cs,h,by simp⟩
theorem zu {α:Type} {w:World} {e:TypeId} {c:Nat} {f:α->List Value} {A:Option Addr} {cap:Nat} {xs:List α} (h:Row w e c f A cap xs) {x:Nat} (hx:In A x):∃ cs,af w x e cs:=by
 rcases h.2 with ⟨q,_⟩ | ⟨g,cap1,cur,hv,_,hg,_⟩
 ·injection q with q; subst q; simp [In] at hx
 ·injection hv with h3; subst h3
  have:g=x:=by simpa [In] using hx
  subst this
  exact ⟨cur,hg⟩
theorem cw {α:Type} {w:World} {e:TypeId} {c:Nat} {f:α->List Value} {A:Option Addr} {cap:Nat} {xs:List α} (h:Row w e c f A cap xs) {x:Nat} (hx:In A x):Ty w x [e]:=by
 obtain ⟨cs,hb⟩:=zu h hx
 exact ⟨e,cs,hb,by simp⟩
theorem Ty.mono {w:World} {x:Nat} {ts us:List TypeId} (h:Ty w x ts) (hs:∀ t∈ts,t∈us):Ty w x us:=by
 obtain ⟨t,cs,hb,ht⟩:=h; exact ⟨t,cs,hb,hs t ht⟩
theorem uz {w:World} {g:Nat} {A:Option Addr} {cap:Nat} {xs:List Int} (h:Cl.fV w g A cap xs) {x:Nat} (hx:Cl.aQ g A x):Ty w x [146,39]:=by
 rcases hx with rfl | hx
 ·exact ⟨_,_,h.1,by simp⟩
 ·rcases h.2.1.2 with ⟨q,_⟩ | ⟨g,cap1,cur,hv,_,hg,_⟩
  ·injection q with q; subst q; simp at hx
  ·injection hv with h3; subst h3
   have:g=x:=by simpa using hx
   subst this
   exact ⟨_,_,hg,by simp⟩
theorem sL {w:World} {g b:Nat} {hs:List Int} (h:Lo.gF w g b hs) {x:Nat} (hx:Lo.aQ g b x):Ty w x [149,174]:=by
 rcases hx with rfl | rfl
 ·exact ⟨_,_,h.1,by simp⟩
 ·exact ⟨_,_,h.2.1,by simp⟩
theorem uA {w:World} {g sb fb:Nat} {ss:List Sl} {F:Bool} (h:b6 w g sb fb ss F) {x:Nat} (hx:fo g sb fb x):Ty w x [91,96,3]:=by
 obtain ⟨fr,hP,hB,_⟩:=h
 rcases hx with rfl | rfl | rfl
 ·exact ⟨_,_,hP.1,by simp⟩
 ·exact ⟨_,_,hB,by simp⟩
 ·obtain ⟨cs,hc⟩:=zu hP.2 (x:=x) rfl
  exact ⟨_,cs,hc,by simp⟩
theorem uB {S:Nat->Prop} {w w':World} {g:Nat} {A:Option Addr} {cap:Nat} {xs:List Int} (h:Cl.fV w g A cap xs) (ho:ab S w w') (hn:∀ x,Cl.aQ g A x->¬S x):Cl.fV w' g A cap xs:=
 ⟨h.1.only ho (hn g (.inl rfl)),BL h.2.1 ho (fun b hb=>hn b (.inr (by rw [mC] at hb; exact hb))),h.2.2⟩
/-! ### a memory-/
def bS (h:Nat):List Value:=[.int .u64 h]
def re (d:Nat×Nat):List Value:=[.int .i64 d.1,.int .i64 d.2]
theorem IT (d:Nat×Nat):(re d).length=2:=rfl
abbrev qZ (w:World) (A:Option Addr) (cap:Nat) (hs:List Nat):Prop:=Row w 40 1 bS A cap hs
structure Mo where
 m:Nat
 g:Nat
 A:Option Addr
 cap:Nat
 xs:List Int
 lg:Nat
 lb:Nat
 hs:List Int
 ar:Nat
 sb:Nat
 fb:Nat
 ss:List Sl
 F:Bool
 k:Int
 T:Option Addr
 capT:Nat
 ds:List (Nat×Nat)
 V:Option Addr
 capV:Nat
 ws:List Nat
abbrev ptr (b:Nat):Value:=.pointer (some ⟨b,0,none⟩)
def pV (M:Mo):Array Value:=#[ptr M.g,ptr M.lg,ptr M.ar,.int .i64 M.k,.slice M.T M.ds.length M.capT,.slice M.V M.ws.length M.capV]
def ah (w:World) (M:Mo):Prop:=
 af w M.m 63 (pV M)/\Cl.fV w M.g M.A M.cap M.xs/\Lo.gF w M.lg M.lb M.hs/\b6 w M.ar M.sb M.fb M.ss M.F/\Row w 141 2 re M.T M.capT M.ds/\qZ w M.V M.capV M.ws
def aq (M:Mo) (x:Nat):Prop:=x=M.m\/Cl.aQ M.g M.A x\/Lo.aQ M.lg M.lb x\/fo M.ar M.sb M.fb x\/In M.T x\/In M.V x
abbrev zl:List TypeId:=[63,146,39,149,174,91,96,3,141,40]
section
variable {w w':World} {M:Mo}
theorem ah.ty (h:ah w M) {x:Nat} (hx:aq M x):Ty w x zl:=by
 obtain ⟨h1,h2,h3,h4,h5,h6⟩:=h
 rcases hx with rfl | hx | hx | hx | hx | hx
 ·exact (bm h1).mono (by simp)
 ·exact (uz h2 hx).mono (by simp)
 ·exact (sL h3 hx).mono (by simp)
 ·exact (uA h4 hx).mono (by simp)
 ·exact (cw h5 hx).mono (by simp)
 ·exact (cw h6 hx).mono (by simp)
theorem ah.lt (h:ah w M) {x:Nat} (hx:aq M x):x<w.heap.size:=(h.ty hx).lt
theorem ah.only {S:Nat->Prop} (h:ah w M) (ho:ab S w w') (hn:∀ x,aq M x->¬S x):ah w' M:=by
 obtain ⟨h1,h2,h3,h4,h5,h6⟩:=h
 exact ⟨h1.only ho (hn _ (.inl rfl)),uB h2 ho (fun x hx=>hn x (.inr (.inl hx))),h3.only ho (fun x hx=>hn x (.inr (.inr (.inl hx)))),h4.only ho (fun x hx=>hn x (.inr (.inr (.inr (.inl hx))))),
  h5.only ho (fun x hx=>hn x (.inr (.inr (.inr (.inr (.inl hx)))))),h6.only ho (fun x hx=>hn x (.inr (.inr (.inr (.inr (.inr hx))))))⟩
theorem ah.below (h:ah w M) (hb:Below w.heap.size w w'):ah w' M:=h.only (S:=fun _=>False) (ab.aA hb _) (by simp)
theorem ah.alloc (h:ah w M) (o:Obj):ah (w.alloc o) M:=h.only (S:=fun _=>False) ((ab.refl _ _).alloc o) (by simp)
theorem ah.drewN (h:ah w M) (n:Nat):ah (w.drewN n) M:=h.only (S:=fun _=>False) ((ab.refl _ _).drewN n) (by simp)
theorem ah.hd (h:ah w M):w.cell? ⟨M.m,0,none⟩=some (ptr M.g)/\w.cell? ⟨M.m,1,none⟩=some (ptr M.lg)/\w.cell? ⟨M.m,2,none⟩=some (ptr M.ar)/\w.cell? ⟨M.m,3,none⟩=some (.int .i64 M.k)/\
 w.cell? ⟨M.m,4,none⟩=some (.slice M.T M.ds.length M.capT)/\w.cell? ⟨M.m,5,none⟩=some (.slice M.V M.ws.length M.capV):=
 ⟨h.1.cell 0,h.1.cell 1,h.1.cell 2,h.1.cell 3,h.1.cell 4,h.1.cell 5⟩
theorem ah.cells {A':Option Addr} {cap':Nat} {xs':List Int} (h:ah w M) (hC:Cl.fV w' M.g A' cap' xs') (ho:ab (Cl.aQ M.g M.A) w w'):ah w' {M with A:=A',cap:=cap',xs:=xs'}:=by
 obtain ⟨h1,h2,h3,h4,h5,h6⟩:=h
 have hS:=fun x=>uz h2 (x:=x)
 exact ⟨h1.only ho (fun q=>(hS _ q).apart (bm h1) (by decide)),hC,h3.only ho (fun x hx q=>(hS _ q).apart (sL h3 hx) (by decide)),h4.only ho (fun x hx q=>(hS _ q).apart (uA h4 hx) (by decide)),
  h5.only ho (fun x hx q=>(hS _ q).apart (cw h5 hx) (by decide)),h6.only ho (fun x hx q=>(hS _ q).apart (cw h6 hx) (by decide))⟩
theorem ah.wM {ss':List Sl} {F':Bool} (h:ah w M) (hC:b6 w' M.ar M.sb M.fb ss' F') (ho:ab (fo M.ar M.sb M.fb) w w'):ah w' {M with ss:=ss',F:=F'}:=by
 obtain ⟨h1,h2,h3,h4,h5,h6⟩:=h
 have hS:=fun x=>uA h4 (x:=x)
 exact ⟨h1.only ho (fun q=>(hS _ q).apart (bm h1) (by decide)),uB h2 ho (fun x hx q=>(hS _ q).apart (uz h2 hx) (by decide)),h3.only ho (fun x hx q=>(hS _ q).apart (sL h3 hx) (by decide)),hC,
  h5.only ho (fun x hx q=>(hS _ q).apart (cw h5 hx) (by decide)),h6.only ho (fun x hx q=>(hS _ q).apart (cw h6 hx) (by decide))⟩
theorem ah.mI {hs':List Int} (h:ah w M) (hC:Lo.gF w' M.lg M.lb hs') (ho:ab (Lo.aQ M.lg M.lb) w w'):ah w' {M with hs:=hs'}:=by
 obtain ⟨h1,h2,h3,h4,h5,h6⟩:=h
 have hS:=fun x=>sL h3 (x:=x)
 exact ⟨h1.only ho (fun q=>(hS _ q).apart (bm h1) (by decide)),uB h2 ho (fun x hx q=>(hS _ q).apart (uz h2 hx) (by decide)),hC,h4.only ho (fun x hx q=>(hS _ q).apart (uA h4 hx) (by decide)),
  h5.only ho (fun x hx q=>(hS _ q).apart (cw h5 hx) (by decide)),h6.only ho (fun x hx q=>(hS _ q).apart (cw h6 hx) (by decide))⟩
theorem ah.tables {w1:World} {T':Option Addr} {cap':Nat} {ds':List (Nat×Nat)} (h:ah w M) (hT:Row w1 141 2 re T' cap' ds') (ho:ab (In M.T) w w1):
 ah (w1.setCell ⟨M.m,4,none⟩ (.slice T' ds'.length cap')) {M with T:=T',capT:=cap',ds:=ds'}/\ab (fun x=>x=M.m\/In M.T x) w (w1.setCell ⟨M.m,4,none⟩ (.slice T' ds'.length cap')):=by
 obtain ⟨h1,h2,h3,h4,h5,h6⟩:=h
 have hS:=fun x=>cw h5 (x:=x)
 have hm:=h1.only ho (fun q=>(hS _ q).apart (bm h1) (by decide))
 have qq:=(ab.refl (·=M.m) w1).setCell (p:=⟨M.m,4,none⟩) (.inl rfl) (.slice T' ds'.length cap')
 have gz:ab (fun x=>x=M.m\/In M.T x) w (w1.setCell ⟨M.m,4,none⟩ (.slice T' ds'.length cap')):=(ho.mono (fun x _ q=>.inr q)).trans' qq (fun x _ q=>.inl q)
 have ap:∀ {x:Nat} {us:List TypeId},Ty w x us->(∀ t∈us,t∉[63,141])->¬(x=M.m\/In M.T x):=fun {x us} hx hd q=>by
  rcases q with rfl | q
  ·exact hx.apart ((bm h1).mono (us:=[63,141]) (by simp)) hd
  ·exact hx.apart ((hS _ q).mono (us:=[63,141]) (by simp)) hd
 refine ⟨⟨by simpa [pV] using hm.store 4 (.slice T' ds'.length cap'),uB h2 gz (fun x hx=>ap (uz h2 hx) (by decide)),h3.only gz (fun x hx=>ap (sL h3 hx) (by decide)),h4.only gz (fun x hx=>ap (uA h4 hx) (by decide)),
  hT.only qq (fun x hx q=>(cw hT hx).apart (by subst q; exact bm hm) (by decide)),h6.only gz (fun x hx=>ap (cw h6 hx) (by decide))⟩,gz⟩
theorem ah.wait {w1:World} {V':Option Addr} {cap':Nat} {ws':List Nat} (h:ah w M) (hT:qZ w1 V' cap' ws') (ho:ab (In M.V) w w1):
 ah (w1.setCell ⟨M.m,5,none⟩ (.slice V' ws'.length cap')) {M with V:=V',capV:=cap',ws:=ws'}/\ab (fun x=>x=M.m\/In M.V x) w (w1.setCell ⟨M.m,5,none⟩ (.slice V' ws'.length cap')):=by
 obtain ⟨h1,h2,h3,h4,h5,h6⟩:=h
 have hS:=fun x=>cw h6 (x:=x)
 have hm:=h1.only ho (fun q=>(hS _ q).apart (bm h1) (by decide))
 have qq:=(ab.refl (·=M.m) w1).setCell (p:=⟨M.m,5,none⟩) (.inl rfl) (.slice V' ws'.length cap')
 have gz:ab (fun x=>x=M.m\/In M.V x) w (w1.setCell ⟨M.m,5,none⟩ (.slice V' ws'.length cap')):=(ho.mono (fun x _ q=>.inr q)).trans' qq (fun x _ q=>.inl q)
 have ap:∀ {x:Nat} {us:List TypeId},Ty w x us->(∀ t∈us,t∉[63,40])->¬(x=M.m\/In M.V x):=fun {x us} hx hd q=>by
  rcases q with rfl | q
  ·exact hx.apart ((bm h1).mono (us:=[63,40]) (by simp)) hd
  ·exact hx.apart ((hS _ q).mono (us:=[63,40]) (by simp)) hd
 refine ⟨⟨by simpa [pV] using hm.store 5 (.slice V' ws'.length cap'),uB h2 gz (fun x hx=>ap (uz h2 hx) (by decide)),h3.only gz (fun x hx=>ap (sL h3 hx) (by decide)),h4.only gz (fun x hx=>ap (uA h4 hx) (by decide)),
  h5.only gz (fun x hx=>ap (cw h5 hx) (by decide)),hT.only qq (fun x hx q=>(cw hT hx).apart (by subst q; exact bm hm) (by decide))⟩,gz⟩
end
/-! ### tables-/
def aO (ds:List (Nat×Nat)) (i:Nat):Nat×Nat:=ds.getD i (0,0)
def now (xs:List Int) (ds:List (Nat×Nat)):Nat×Nat:=aO ds (Cl.nth xs 1).toNat
theorem R7 {ds:List (Nat×Nat)} {i:Nat} (h:i<ds.length):aO ds i=ds[i]:=by simp [aO,List.getD,h]
theorem sq {ds:List (Nat×Nat)} {i:Nat} (h:ds.length<=i):aO ds i=(0,0):=by simp [aO,List.getD,h]
theorem IU {w:World} {e:TypeId} {A:Option Addr} {cap:Nat} {ds:List (Nat×Nat)} (h:Row w e 2 re A cap ds) (i:Nat) (hi:i<ds.length):
 ∃ b,A=some ⟨b,0,none⟩/\b<w.heap.size/\w.cell? ⟨b,i*2,none⟩=some (.int .i64 (aO ds i).1)/\w.cell? ⟨b,i*2+1,none⟩=some (.int .i64 (aO ds i).2):=by
 obtain ⟨b,e,hb,hc⟩:=h.cells IT i hi
 have c0:=(hc 0 (by omega)).1
 have c1:=(hc 1 (by omega)).1
 rw [<-R7 hi] at c0 c1
 exact ⟨b,e,hb,by simpa [re] using c0,by simpa [re] using c1⟩
def mA (xs:List Int) (ds:List (Nat×Nat)):Prop:=∀ i,i<ds.length->1<=(aO ds i).1/\(aO ds i).1<=65536/\(aO ds i).2+(aO ds i).1<=xs.length
theorem mA.now {xs:List Int} {ds:List (Nat×Nat)} (h:mA xs ds):(now xs ds).1<=65536/\(0<(Me.now xs ds).1->(Me.now xs ds).2+(Me.now xs ds).1<=xs.length)/\(Me.now xs ds).2<=1048576+xs.length:=by
 unfold Me.now
 by_cases hi:(Cl.nth xs 1).toNat<ds.length
 ·have:=h _ hi
  omega
 ·rw [sq (by omega)]
  simp
theorem IV {W w1:World} (hb:Below W.heap.size W w1):(∀ b o,b<W.heap.size->w1.cell? ⟨b,o,none⟩=W.cell? ⟨b,o,none⟩)/\(∀ b o,b<W.heap.size->w1.frozen? ⟨b,o,none⟩=W.frozen? ⟨b,o,none⟩):=
 ⟨fun b o h=>hb.cell (p:=⟨b,o,none⟩) h,fun b o h=>hb.frozen (p:=⟨b,o,none⟩) h⟩
theorem IS:(Tryz.prog.info? 40).map (fun i=>(i.zero,i.size,i.bytes))=some (some (.int .u64 0),1,8):=by kernel_rfl
theorem R8:(Tryz.prog.info? 141).map (fun i=>(i.zero,i.size,i.bytes))=some (some (.agg #[.int .i64 0,.int .i64 0]),2,16):=by kernel_rfl
end Go.Proofs.YtpanebgakndddaaGreat.Me
