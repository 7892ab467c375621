/- Readers in a memory whose chains others turn: where a get of a key may stand, whatever they do (plain). -/
import Derived.Test.YtkogifmjbmnpgaaGreatMapA
import Derived.Test.YtkogifmjbmnpgaaGreatGetD
import Derived.Test.YtkogifmjbmnpgaaGreatLm
set_option linter.unusedVariables false
set_option linter.unusedSimpArgs false
namespace Go.Proofs.YtkogifmjbmnpgaaGreat.Zp
open Go Hm Ar Mm Wk Pc Me Mq Pn Gt Qs
structure Wy where
 Pos:(Nat→Prop)→ByteArray→List Mq.Hp→Prop
 Cel:(Nat→Prop)→ByteArray→Nat→Prop
 few:Nat
 cap:Nat
 pub:Bool
structure Wy.Ok (Y:Wy) (L:Lm) (l:List Pr):Prop where
 k:1≤L.k∧L.k≤8
 wl:∀ w:Nat,(w:Int)<L.k→2+w<L.xs.length
 xb:∀ x∈L.xs,0≤x∧x≤18446744073709551615
 nexts:Nexts L.ss
 len:L.ss.length≤1024
 F:L.F=false
 p1:1≤Cl.nth L.xs 0
 tb:∀ i,(tab L.ds i).1≤65536∧(tab L.ds i).2≤4000000
 few:Y.few≤900∧Y.few≤Y.cap∧Y.cap≤1000000
 next:∀ {o:Nat→Prop} {key:ByteArray} {e:Mq.Hp} {q:List Mq.Hp},Y.Pos o key (e::q)→Y.Pos o key q
 mono:∀ {o o':Nat→Prop} {key:ByteArray} {q:List Mq.Hp},(∀ e,o e→o' e)→Y.Pos o key q→Y.Pos o' key q
 celm:∀ {o o':Nat→Prop} {key:ByteArray} {c:Nat},(∀ e,o e→o' e)→Y.Cel o key c→Y.Cel o' key c
 cel:∀ {o:Nat→Prop} {key:ByteArray} {c:Nat},Y.Cel o key c→c≤5000000∧∃ q,Cx L.ss (word L.xs c) q∧Y.Pos o key q∧Pc.lk (prs q) key=Pc.lk l key∧q.length≤Y.few
 now:∀ (o:Nat→Prop) (key:ByteArray),(Y.pub=false→∀ e,o e)→∃ c:Nat,Gt.cellOf (sm key) (Me.now L.xs L.ds)=(c:Int)∧Y.Cel o key c
section
variable {Y Y':Wy} {L L':Lm} {l:List Pr} {old old':Int→Nat→Prop} {w k:Nat} {key:ByteArray} {G:Gt.Ge}
inductive Rph (Y:Wy) (L:Lm) (l:List Pr) (old:Int→Nat→Prop) (key:ByteArray) (G:Gt.Ge):Nat→Prop
 | come:G.nx=1→G.C.at_=0→Rph Y L l old key G (Y.few+5)
 | put:G.nx=1→G.C.at_=1→Rph Y L l old key G (Y.few+4)
 | load:G.nx=2→Rph Y L l old key G (Y.few+3)
 | first (c:Nat):G.nx=3→G.W=new 0 (c:Int) (sm key) key→c≤5000000→Y.Cel (old G.C.period) key c→Rph Y L l old key G (Y.few+2)
 | look (q:List Mq.Hp):G.nx=3→G.W.nx=2→G.W.key=key→G.W.sum=sm key→G.W.found=0→G.W.nd.val=⟨#[]⟩→q≠[]→Cx L.ss G.W.at_ q→Y.Pos (old G.C.period) key q→
    Pc.lk (prs q) key=Pc.lk l key→G.W.read+q.length≤Y.cap→G.W.at_≤18446744073709551615→ -9223372036854775808≤G.W.cell∧G.W.cell≤9223372036854775807→Rph Y L l old key G (q.length+1)
 | leave:G.nx=4→Gt.Fits (Pc.lk l key) G.W→Rph Y L l old key G 1
structure Rok (Y:Wy) (L:Lm) (l:List Pr) (old:Int→Nat→Prop) (w:Nat) (key:ByteArray) (G:Gt.Ge) (k:Nat):Prop where
 ky:G.key=key
 sum:G.sum=sm key
 wk:G.C.worker=w
 gat:G.gat=0
 pd:0≤G.C.period∧G.C.period≤18446744073709551615
 cnt:Cl.nth L.xs (2+w)=if 2≤G.nx then G.C.period else 0
 pr:(G.nx=1∧G.C.at_=0)∨(1≤G.C.period∧G.C.period≤Cl.nth L.xs 0)
 ph:Rph Y L l old key G k
theorem Rph.pos (h:Rph Y L l old key G k):1≤k:=by cases h<;>omega
theorem Rok.begin (h0:Cl.nth L.xs (2+w)=0):Rok Y L l old w key (Gt.newGet w key) (Y.few+5):=
 ⟨rfl,rfl,rfl,rfl,⟨by simp [Gt.newGet],by simp [Gt.newGet]⟩,by rw [h0]; rfl,.inl ⟨rfl,rfl⟩,.come rfl rfl⟩
theorem Rok.okg (hY:Y.Ok L l) (hw:(w:Int)<L.k) (h:Rok Y L l old w key G k) (r:Nat) (hr:r≤4000000000000000000):Okg r L.ds L.ss L.xs G:=by
 have hk:=hY.k
 have hw2:=hY.wl w hw
 have hwk:=h.wk
 have mk:∀ (a1:1≤G.nx∧G.nx≤4) (a2:G.nx=1→G.C.at_≤1) (a3:G.nx=3→Okw r G.W),Okg r L.ds L.ss L.xs G:=fun a1 a2 a3=>
  ⟨a1,a2,⟨by rw [hwk]; exact hw2,by omega⟩,h.pd,by rw [h.sum]; exact sm_bd key,hY.tb,hY.nexts,by omega,a3,fun _=>h.gat⟩
 cases h.ph with
 | come a b=>exact mk (by omega) (by omega) (by omega)
 | put a b=>exact mk (by omega) (by omega) (by omega)
 | load a=>exact mk (by omega) (by omega) (by omega)
 | first c a b hcb hc=>exact mk (by omega) (by omega) (fun _=>by rw [b]; exact ⟨by simp only [new]; omega,by simp [new],by simp only [new]; omega,by simp [new]⟩)
 | look q a1 a2 a3 a4 a5 a6 a7 a8 a9 a10 a11 a12 a13=>exact mk (by omega) (by omega) (fun _=>⟨a13,a12,by have:=hY.few; omega,by omega⟩)
 | leave a b=>exact mk (by omega) (by omega) (by omega)
theorem Rok.to (h:Rok Y L l old w key G k) (hc:Cl.nth L'.xs (2+w)=Cl.nth L.xs (2+w)) (h0:Cl.nth L.xs 0≤Cl.nth L'.xs 0) (hs:L'.ss=L.ss) (hf:Y'.few=Y.few) (hcp:Y.cap≤Y'.cap)
 (hC:∀ c,2≤G.nx→Y.Cel (old G.C.period) key c→Y'.Cel (old' G.C.period) key c) (hP:∀ q,2≤G.nx→Y.Pos (old G.C.period) key q→Y'.Pos (old' G.C.period) key q):Rok Y' L' l old' w key G k:=by
 refine ⟨h.ky,h.sum,h.wk,h.gat,h.pd,by rw [hc]; exact h.cnt,h.pr.imp id (fun q=>⟨q.1,Int.le_trans q.2 h0⟩),?_⟩
 cases h.ph with
 | come a b=>rw [← hf]; exact .come a b
 | put a b=>rw [← hf]; exact .put a b
 | load a=>rw [← hf]; exact .load a
 | first c a b hcb q=>rw [← hf]; exact .first c a b hcb (hC c (by omega) q)
 | look q a1 a2 a3 a4 a5 a6 a7 a8 a9 a10 a11 a12 a13=>exact .look q a1 a2 a3 a4 a5 a6 a7 (by rw [hs]; exact a8) (hP q (by omega) a9) a10 (by omega) a12 a13
 | leave a b=>exact .leave a b
theorem Rok.moved (h:Rok Y L l old w key G k) (hc:Cl.nth L'.xs (2+w)=Cl.nth L.xs (2+w)) (h0:Cl.nth L.xs 0≤Cl.nth L'.xs 0) (hs:L'.ss=L.ss):Rok Y L' l old w key G k:=
 h.to hc h0 hs rfl (Nat.le_refl _) (fun _ _ q=>q) (fun _ _ q=>q)
theorem Rok.mono (hY:Y.Ok L l) (h:Rok Y L l old w key G k) (ho:2≤G.nx→∀ e,old G.C.period e→old' G.C.period e):Rok Y L l old' w key G k:=
 h.to rfl (Int.le_refl _) rfl rfl (Nat.le_refl _) (fun _ hx=>hY.celm (ho hx)) (fun _ hx=>hY.mono (ho hx))
theorem Rok.other (h:Rok Y L l old w key G k) {i:Nat} {p:Int} (hi:i≠w):Rok Y {L with xs:=L.xs.set (2+i) p} l old w key G k:=by
 have hn:∀ j,j≠2+i→Cl.nth (L.xs.set (2+i) p) j=Cl.nth L.xs j:=fun j hj=>by
  by_cases hl:2+i<L.xs.length
  · rw [nth_set _ _ _ hl,if_neg hj]
  · rw [List.set_eq_of_length_le (by omega)]
 exact h.moved (L':={L with xs:=L.xs.set (2+i) p}) (hn _ (by omega)) (by show _≤Cl.nth (L.xs.set (2+i) p) 0; rw [hn 0 (by omega)]; exact Int.le_refl _) rfl
end
end Go.Proofs.YtkogifmjbmnpgaaGreat.Zp
