/- A part. -/
import Derived.Test.YtpanebgakndddaaGreatGetC
import Derived.Test.YtpanebgakndddaaGreatPairs
import Derived.Test.YtpanebgakndddaaGreatFinishN
set_option linter.unusedVariables false
set_option linter.unusedSimpArgs false
namespace Go.Proofs.YtpanebgakndddaaGreat.Gt
open Go Go.RowKit Hp K Fl Rw Hm Ar Mm Me Qs Wk Pc
set_option maxRecDepth 100000
theorem Cq {s:Int} (hs:0<=s) (d:Nat×Nat) (hd:d.1<=65536/\d.2<=4000000): -1<=cellOf s d/\cellOf s d<=5000000:=by
 have hb:=qR s d.1 hs
 unfold cellOf
 split<;>omega
theorem mD.step {r:Nat} {ds:List (Nat×Nat)} {ss:List Sl} {s:Gs} (hx:∀ x∈s.1,0<=x/\x<=18446744073709551615) (h:mD (r+1) ds ss s.1 s.2.2) (hg:s.2.2.iY=0) (hd:eI s.2.2=false):
 mD r ds ss (dC ds ss s).1 (dC ds ss s).2.2/\(dC ds ss s).2.2.iY=0/\∀ x∈(dC ds ss s).1,0<=x/\x<=18446744073709551615:=by
 obtain ⟨xs,F,G⟩:=s
 simp only at hx h hg hd
 obtain ⟨h1,h2,h3,h4,h5,h6,h7,h8,h9,nI⟩:=h
 unfold dC
 simp only
 split
 ·rename_i e
  have ha:=h2 e
  have p0:=Cl.eU hx 0
  unfold gw
  split
  ·rename_i e0
   refine ⟨⟨by simp only; split<;>omega,fun _=>by simp,h3,p0,h5,h6,h7,by omega,fun e3=>by simp only [e0] at e3; simp at e3,fun e3=>hg⟩,hg,hx⟩
  ·refine ⟨⟨by simp only; split<;>omega,fun e3=>?_,by simpa using h3,h4,h5,h6,h7,by omega,fun e3=>?_,fun e3=>hg⟩,hg,?_⟩
   ·simp only at e3; split at e3<;>omega
   ·simp only at e3; split at e3<;>omega
   ·intro x l8
    rcases List.mem_or_eq_of_mem_set l8 with q | rfl
    ·exact hx x q
    ·exact h4
 split
 ·have hc:=Cq h5.1 (now xs ds) (h6 _)
  exact ⟨⟨by simp,fun e=>by simp at e,h3,h4,h5,h6,h7,by omega,fun _=>⟨by simp [new]; omega,by simp [new],by simp [new]; omega,by simp [new]⟩,fun e=>by simp at e⟩,hg,hx⟩
 split
 ·rename_i e
  refine ⟨⟨by simp only; split<;>omega,fun e=>?_,h3,h4,h5,h6,h7,by omega,fun e3=>(h9 e).step hx h7,fun _=>hg⟩,hg,hx⟩
  simp only at e; split at e<;>omega
 ·unfold eI at hd
  simp at hd
  omega
theorem Hz (a:Addr) (w:World) (f:Nat):(method (f+1) 177 (.pointer (some a)) "Ready").run Tryz.prog w=.ok (283,.pointer (some a)) w:=by kernel_rfl
theorem HA (a:Addr) (w:World) (f:Nat):(method (f+1) 177 (.pointer (some a)) "Step").run Tryz.prog w=.ok (284,.pointer (some a)) w:=by kernel_rfl
theorem HC (args:Array Value) (w:World):(callFunc 283 args).run Tryz.prog w=.ok (.enter 283 args) w:=by kernel_rfl
theorem HE (args:Array Value) (w:World):(callFunc 284 args).run Tryz.prog w=.ok (.enter 284 args) w:=by kernel_rfl
abbrev ue (ds:List (Nat×Nat)) (ss:List Sl) (K:Nat) (s:Gs):=fin (fun _=>true) (dC ds ss) (fun s=>eI s.2.2) K s
def zq (M:Mo) (a:Ga) (B:Nat) (w0:World) (s:Gs) (w:World):Prop:=
 ∃ a':Ga,a'.f=a.f/\(∀ x,bC a' x->bC a x\/B<=x)/\ah w {M with xs:=s.1,F:=s.2.1}/\dh w a' s.2.2/\ab (fun x=>aq M x\/bC a x) w0 w
section
variable {w:World} {M:Mo} {a:Ga} {G:Ge}
theorem qS.aB {w0 w1:World} {a a' a1:Ga} {B:Nat} (h:qS w1 a1 a') (h1:∀ x,bC a1 x->bC a x\/B<=x) (hB:B<=w1.heap.size):∀ x,bC a' x->bC a x\/B<=x:=by
 obtain ⟨e1,e2,e3,e4⟩:=h
 rintro x (q | q | q | q)
 ·exact h1 x (.inl (q.trans e1))
 ·exact h1 x (.inr (.inl (q.trans e2)))
 ·exact h1 x (.inr (.inr (.inl (q.trans e3))))
 ·rcases e4 with e | e
  ·exact h1 x (.inr (.inr (.inr (q.trans e))))
  ·exact .inr (by omega)
theorem PF {w0 w1:World} {s:Gs} {r:Nat} (h:zq M a w0.heap.size w0 s w1) (ok:mD (r+1) M.ds M.ss s.1 s.2.2):
 Calls Tryz.prog 284 #[ptr a.f,ptr M.m] w1 fun e w'=>e=.returned (.bool (eI s.2.2))/\zq M a w0.heap.size w0 (dC M.ds M.ss s) w':=by
 obtain ⟨a',e,hf,hM,hG,hO⟩:=h
 have hs:=Hx (M:={M with xs:=s.1,F:=s.2.1}) hM hG ok
 rw [e] at hs
 refine hs.mono fun e1 w' q=>⟨q.1,?_⟩
 obtain ⟨a2,m2,aI,du,ae⟩:=q.2
 refine ⟨a2,m2.1.trans e,m2.aB (w0:=w0) hf hO.size,aI,du,hO.trans' ae ?_⟩
 rintro x hx (q | q)
 ·exact .inl q
 ·rcases hf x q with q | q
  ·exact .inr q
  ·omega
theorem PG (hM:ah w M) (hG:dh w a G) (K:Nat) (hK:K<=1000000) (ok:mD K M.ds M.ss M.xs G) (hg:G.iY=0):
 Calls Tryz.prog 58 #[ptr M.m,.iface 177 (ptr a.f),.int .i64 K] w fun e w'=>e=.returned (.tuple #[.int .i64 (ue M.ds M.ss K (M.xs,M.F,G)).1,.bool (ue M.ds M.ss K (M.xs,M.F,G)).2.1])/\
  zq M a w.heap.size w (ue M.ds M.ss K (M.xs,M.F,G)).2.2 w':=by
 refine Cd 177 283 284 a.f (ptr M.m) (zq M a w.heap.size w) (fun k s=>mD k M.ds M.ss s.1 s.2.2/\s.2.2.iY=0/\∀ x∈s.1,0<=x/\x<=18446744073709551615) (fun _=>true) (dC M.ds M.ss) (fun s=>eI s.2.2)
  (Hz _) (HA _) HC HE ?_ ?_ ?_ K hK (M.xs,M.F,G) ⟨ok,hg,hM.2.1.2.2.1⟩ w ⟨a,rfl,fun x h=>.inl h,hM,hG,ab.refl _ _⟩
 ·rintro k s w1 h ok
  exact (pM _ _ w1).mono fun e w' q=>⟨q.1,by rw [<-q.2]; exact h⟩
 ·rintro k s w1 h ok _
  exact PF h ok.1
 ·rintro k s ok _ hd
  exact ok.1.step ok.2.2 ok.2.1 hd
end
/-! ### along a chain of pairs-/
structure Ev where
 ds:List (Nat×Nat)
 ss:List Sl
 xs:List Int
 F:Bool
 key:ByteArray
 k:Nat
 q:List Pr
 L:Nat
abbrev Ev.cell (E:Ev):Int:=cellOf (sm E.key) (now E.xs E.ds)
structure Ev.Ok (E:Ev):Prop where
 len:E.ss.length<=1024
 db:ff E.ss
 tb:∀ i,(aO E.ds i).1<=65536/\(aO E.ds i).2<=4000000
 wk:2+E.k<E.xs.length/\E.k<=1000
 xb:∀ x∈E.xs,0<=x/\x<=18446744073709551615
 out:Cl.nth E.xs (2+E.k)=0
 aB:E.cell≠((2+E.k:Nat):Int)
 ch:Cn E.ss (word E.xs E.cell) E.q
 qL:E.q.length<=E.L
 L:E.L<=2000
def Fits (o:Option ByteArray) (W:Wa):Prop:=W.nd.val=o.getD ⟨#[]⟩/\decide (W.found≠0)=o.isSome
inductive qT (E:Ev) (G:Ge):Nat->Bool->Prop
 | ng:G.nx=1->G.C.at_=0->qT E G 0 false
 | put:G.nx=1->G.C.at_=1->G.C.period=Cl.nth E.xs 0->qT E G 1 false
 | load:G.nx=2->qT E G 2 false
 | first:G.nx=3->G.W=new 0 E.cell (sm E.key) E.key->qT E G 3 false
 | look (q:List Pr):G.nx=3->G.W.nx=2->G.W.key=E.key->G.W.sum=sm E.key->G.W.found=0->G.W.nd.val=⟨#[]⟩->q≠[]->Cn E.ss G.W.at_ q->lk q E.key=lk E.q E.key->G.W.read+q.length<=E.L-> -9223372036854775808<=G.W.cell/\G.W.cell<=9223372036854775807->G.W.at_<=18446744073709551615->qT E G (4+G.W.read) false
 | leave:G.nx=4->G.W.read<=E.L->Fits (lk E.q E.key) G.W->qT E G (4+G.W.read) false
 | cK:G.W.read<=E.L->Fits (lk E.q E.key) G.W->qT E G (5+G.W.read) true
structure Gv (E:Ev) (n:Nat) (d:Bool) (s:Gs):Prop where
 F:s.2.1=E.F
 key:s.2.2.key=E.key
 sum:s.2.2.sum=sm E.key
 wk:s.2.2.C.worker=E.k
 iY:d=false->s.2.2.iY=0
 pd:0<=s.2.2.C.period/\s.2.2.C.period<=18446744073709551615
 xs:s.1=if 2<=n/\d=false then E.xs.set (2+E.k) (Cl.nth E.xs 0) else E.xs
 ph:qT E s.2.2 n d
section
variable {E:Ev} {n:Nat} {s:Gs}
theorem Gv.begin (hE:E.Ok):Gv E 0 false (E.xs,E.F,nc E.k E.key):=
 ⟨rfl,rfl,rfl,rfl,fun _=>rfl,⟨by simp [nc],by simp [nc]⟩,by simp,.ng rfl rfl⟩
theorem Gv.le (h:Gv E n false s):n<=4+E.L:=by
 have:=h.ph
 cases this<;>omega
theorem Gv.cK (h:Gv E n true s):n=5+s.2.2.W.read/\Fits (lk E.q E.key) s.2.2.W/\s.2.1=E.F/\s.1=E.xs/\s.2.2.W.read<=E.L:=by
 have h1:=h.ph
 have h2:=h.xs
 simp at h2
 generalize hb:true=d at h1
 generalize hm:n=m at h1
 cases h1<;>first | (simp at hb; done) | exact ⟨rfl,by assumption,h.F,h2,by assumption⟩
theorem Ev.Ok.back (hE:E.Ok):(E.xs.set (2+E.k) (Cl.nth E.xs 0)).set (2+E.k) 0=E.xs:=by
 rw [List.set_set]
 apply List.ext_getElem
 ·simp
 ·intro i h1 h2
  rw [List.getElem_set]
  split
  ·rename_i e
   subst e
   have:=hE.out
   unfold Cl.nth at this
   rw [List.getD_eq_getElem?_getD,List.getElem?_eq_getElem h2] at this
   exact this.symm
  ·rfl
theorem Ev.Ok.PH (hE:E.Ok):now (E.xs.set (2+E.k) (Cl.nth E.xs 0)) E.ds=now E.xs E.ds:=by
 unfold now
 rw [fG _ _ _ hE.wk.1,if_neg (by omega)]
theorem Ev.Ok.PI (hE:E.Ok):word (E.xs.set (2+E.k) (Cl.nth E.xs 0)) E.cell=word E.xs E.cell:=by
 have hf:=hE.aB
 unfold word
 rw [List.length_set,fG _ _ _ hE.wk.1]
 split
 ·rename_i h
  rw [if_neg (by omega)]
 ·rfl
theorem Gv.ok (hE:E.Ok) (h:Gv E n false s) (r:Nat) (hr:r<=4000000000000000000):mD r E.ds E.ss s.1 s.2.2:=by
 have l9:=oT E.key
 have bz:s.1.length=E.xs.length:=by rw [h.xs]; split<;>simp
 have hw:=hE.wk
 have hL:=hE.L
 have Er:=h.ph
 have kf: -1<=E.cell/\E.cell<=5000000:=Cq l9.1 (now E.xs E.ds) (hE.tb _)
 generalize hn:n=m at Er
 generalize hb:false=d at Er
 have hs:=h.sum
 have iB:=h.wk
 have hg:=h.iY rfl
 have mk:∀ (a1:1<=s.2.2.nx/\s.2.2.nx<=4) (a2:s.2.2.nx=1->s.2.2.C.at_<=1) (a3:s.2.2.nx=3->eV r s.2.2.W),mD r E.ds E.ss s.1 s.2.2:=fun a1 a2 a3=>
  ⟨a1,a2,by rw [bz,iB]; exact hw,h.pd,by rw [hs]; exact l9,hE.tb,hE.db,by omega,a3,fun _=>hg⟩
 cases Er with
 | ng a b=>exact mk (by omega) (by omega) (by omega)
 | put a b c=>exact mk (by omega) (by omega) (by omega)
 | load a=>exact mk (by omega) (by omega) (by omega)
 | first a b=>exact mk (by omega) (by omega) (fun _=>by rw [b]; exact ⟨by simp only [new]; omega,by simp [new],by simp only [new]; omega,by simp [new]⟩)
 | look q a1 a2 a3 a4 a5 a6 a7 a8 a9 a10 a11 a12=>exact mk (by omega) (by omega) (fun _=>⟨a11,a12,by omega,by omega⟩)
 | leave a b c=>exact mk (by omega) (by omega) (by omega)
 | cK a b=>cases hb
theorem Gv.step (hE:E.Ok) (h:Gv E n false s):Gv E (n+1) (eI s.2.2) (dC E.ds E.ss s):=by
 obtain ⟨xs,F,G⟩:=s
 obtain ⟨h1,h2,h3,h4,h5,h6,h7,h8⟩:=h
 dsimp only at h1 h2 h3 h4 h5 h6 h7 h8
 have h5:=h5 rfl
 have hw:=hE.wk
 have hL:=hE.L
 generalize hn:n=m at h8
 generalize hb:false=d at h8
 cases h8 with
 | ng a b=>
   have e:dC E.ds E.ss (xs,F,G)=(xs,F,{G with C:={G.C with period:=Cl.nth xs 0,at_:=1}}):=by
    unfold dC gw
    simp only
    rw [if_pos a,if_pos b,if_neg (by omega)]
    cases G; simp only at a; subst a; rfl
   rw [if_neg (by intro q; omega)] at h7
   rw [e,show eI G=false by unfold eI; simp; omega]
   subst h7
   exact ⟨h1,h2,h3,h4,fun _=>h5,Cl.eU hE.xb 0,by simp,.put a rfl rfl⟩
 | put a b c=>
   have e:dC E.ds E.ss (xs,F,G)=(xs.set (2+G.C.worker) G.C.period,F,{G with C:={G.C with at_:=2},nx:=2}):=by
    unfold dC gw
    simp only
    rw [if_pos a,if_neg (by omega),if_pos b]
   rw [if_neg (by intro q; omega)] at h7
   rw [e,show eI G=false by unfold eI; simp; omega,h4,c]
   subst h7
   exact ⟨h1,h2,h3,h4,fun _=>h5,by simp only; rw [c]; exact Cl.eU hE.xb 0,by simp,.load rfl⟩
 | load a=>
   have e:dC E.ds E.ss (xs,F,G)=(xs,F,{G with W:=new 0 (cellOf G.sum (now xs E.ds)) G.sum G.key,nx:=3}):=by
    unfold dC
    simp only
    rw [if_neg (by omega),if_pos a]
   rw [if_pos ⟨by omega,rfl⟩] at h7
   rw [e,show eI G=false by unfold eI; simp; omega]
   subst h7
   exact ⟨h1,h2,h3,h4,fun _=>h5,h6,by simp,.first rfl (by simp only; rw [hE.PH,h3,h2])⟩
 | first a b=>
   rw [if_pos ⟨by omega,rfl⟩] at h7
   have e:dC E.ds E.ss (xs,F,G)=(xs,F,{G with W:=dB {new 0 E.cell (sm E.key) E.key with first:=word E.xs E.cell} (word E.xs E.cell),nx:=if word E.xs E.cell=0 then 4 else 3}):=by
    unfold dC
    simp only
    rw [if_neg (by omega),if_neg (by omega),if_pos a]
    have hg:Wk.aE xs E.ss (F,G.W)=(F,dB {new 0 E.cell (sm E.key) E.key with first:=word E.xs E.cell} (word E.xs E.cell)):=by
     unfold Wk.aE
     simp only
     rw [b,if_pos (show (new 0 E.cell (sm E.key) E.key).nx=1 from rfl),show (new 0 E.cell (sm E.key) E.key).cell=E.cell from rfl,h7,hE.PI]
    have cB:Wk.cp xs E.ss (F,G.W)=decide (word E.xs E.cell=0):=by
     unfold Wk.cp
     rw [hg]
     exact zr _ _
    rw [hg,cB]
    simp
   rw [e,show eI G=false by unfold eI; simp; omega]
   have dE:=hE.ch
   have Wq:=HJ hE.xb E.cell
   have X1:=hE.qL
   have kf: -1<=E.cell/\E.cell<=5000000:=Cq (oT E.key).1 (now E.xs E.ds) (hE.tb _)
   by_cases h0:word E.xs E.cell=0
   ·rw [if_pos h0]
    have hq:=dE.pos.1 h0
    refine ⟨h1,h2,h3,h4,fun _=>h5,h6,by rw [if_pos ⟨by omega,rfl⟩]; exact h7,?_⟩
    unfold dB
    rw [if_pos h0]
    exact .leave (G:={G with W:={new 0 E.cell (sm E.key) E.key with first:=word E.xs E.cell,nx:=3},nx:=4}) rfl (Nat.zero_le _) (by rw [hq]; exact ⟨rfl,rfl⟩)
   ·rw [if_neg h0]
    refine ⟨h1,h2,h3,h4,fun _=>h5,h6,by rw [if_pos ⟨by omega,rfl⟩]; exact h7,?_⟩
    unfold dB
    rw [if_neg h0]
    exact .look (G:={G with W:={new 0 E.cell (sm E.key) E.key with first:=word E.xs E.cell,at_:=word E.xs E.cell,nx:=2},nx:=3}) E.q rfl rfl rfl rfl rfl rfl (fun q=>h0 (dE.pos.2 q)) dE rfl (by simp only [new]; omega) (by simp only [new]; omega) Wq
 | look q a1 a2 a3 a4 a5 a6 a7 a8 a9 a10 a11 a12=>
   rw [if_pos ⟨by omega,rfl⟩] at h7
   generalize cr:G.W.at_=wat at a8
   cases a8 with
   | nil=>exact absurd rfl a7
   | @cons _ k z p t c1 c2 c3=>
     rw [<-cr] at c1
     have hp:=(zt hE.len).2 c1
     have bR:Wk.aE xs E.ss (F,G.W)=(F,looks G.W (dR p z)):=by
      unfold Wk.aE
      simp only
      rw [if_neg (by omega),if_pos a2,hp]
      show (F,looks G.W (aj E.ss k).nd)=_
      rw [c2]
     have hit_iff:mG G.W (dR p z)=decide (p.1=E.key):=by
      unfold mG dR
      simp only [a3,a4,decide_eq_decide]
      exact ⟨fun q=>q.2,fun q=>⟨by rw [q],q⟩⟩
     have hz:z<=18446744073709551615:=by
      have:=(hE.db k).2
      rw [c2] at this
      unfold dR at this
      simp only at this
      omega
     have cB:Wk.cp xs E.ss (F,G.W)=(decide (p.1=E.key)||decide (z=0)):=by
      unfold Wk.cp
      rw [bR]
      show decide (3<=(looks G.W (dR p z)).nx)=_
      rw [Cr]
      unfold nV
      rw [hit_iff]
      rfl
     have e:dC E.ds E.ss (xs,F,G)=(xs,F,{G with W:=looks G.W (dR p z),nx:=if (decide (p.1=E.key)||decide (z=0))=true then 4 else 3}):=by
      unfold dC
      simp only
      rw [if_neg (by omega),if_neg (by omega),if_pos a1,bR,cB]
     rw [e,show eI G=false by unfold eI; simp; omega]
     have fg:G.W.at_≠0:=fun e=>by have:=c1.pos; omega
     simp only [List.length_cons] at a10
     by_cases hk:p.1=E.key
     ·rw [if_pos (by simp [hk])]
      have hl:looks G.W (dR p z)={G.W with read:=G.W.read+1,found:=G.W.at_,nd:=dR p z,nx:=3}:=by
       unfold looks
       rw [hit_iff,if_pos (by simp [hk])]
      rw [hl]
      refine ⟨h1,h2,h3,h4,fun _=>h5,h6,by rw [if_pos ⟨by omega,rfl⟩]; exact h7,?_⟩
      refine .leave (G:={G with W:={G.W with read:=G.W.read+1,found:=G.W.at_,nd:=dR p z,nx:=3},nx:=4}) rfl (by simp only; omega) ?_
      rw [<-a9]
      unfold lk
      rw [if_pos hk]
      exact ⟨rfl,by simp [fg]⟩
     ·have hl:looks G.W (dR p z)=dB {G.W with read:=G.W.read+1,prev:=G.W.at_} z:=by
       unfold looks
       rw [hit_iff,if_neg (by simp [hk])]
       rfl
      rw [hl]
      have a9:lk t E.key=lk E.q E.key:=by rw [<-a9]; simp [lk,hk]
      by_cases h0:z=0
      ·rw [if_pos (by simp [h0])]
       have ht:=c3.pos.1 h0
       refine ⟨h1,h2,h3,h4,fun _=>h5,h6,by rw [if_pos ⟨by omega,rfl⟩]; exact h7,?_⟩
       unfold dB
       rw [if_pos h0]
       refine .leave (G:={G with W:={G.W with read:=G.W.read+1,prev:=G.W.at_,nx:=3},nx:=4}) rfl (by simp only; omega) ?_
       rw [<-a9,ht]
       exact ⟨a6,by simp [a5,lk]⟩
      ·rw [if_neg (by simp [h0,hk])]
       refine ⟨h1,h2,h3,h4,fun _=>h5,h6,by rw [if_pos ⟨by omega,rfl⟩]; exact h7,?_⟩
       unfold dB
       rw [if_neg h0]
       exact .look (G:={G with W:={G.W with read:=G.W.read+1,prev:=G.W.at_,at_:=z,nx:=2},nx:=3}) t rfl rfl a3 a4 a5 a6 (fun q=>h0 (c3.pos.2 q)) c3 a9 (by simp only; omega) a11 hz
 | leave a b c=>
   have e:dC E.ds E.ss (xs,F,G)=(xs.set (2+G.C.worker) 0,F,{G with iY:=1}):=by
    unfold dC
    simp only
    rw [if_neg (by omega),if_neg (by omega),if_neg (by omega)]
   rw [if_pos ⟨by omega,rfl⟩] at h7
   rw [e,show eI G=true by unfold eI; simp; omega,h4]
   subst h7
   refine ⟨h1,h2,h3,h4,(fun q=>by cases q),h6,by simpa using hE.back,?_⟩
   rw [show 4+G.W.read+1=5+G.W.read by omega]
   exact .cK (G:={G with iY:=1}) b c
 | cK a b=>cases hb
theorem Gv.fin (hE:E.Ok) (K:Nat):∀ n s,Gv E n false s->5+E.L<=n+K->∃ m s',ue E.ds E.ss K s=(m,true,s')/\Gv E (n+m) true s':=by
 induction K with
 | zero=>intro n s h hK; have:=h.le; omega
 | succ K ih=>
   intro n s h hK
   have hs:=h.step hE
   unfold ue Me.fin
   rw [if_pos rfl]
   cases hd:eI s.2.2 with
   | true=>
     rw [hd] at hs
     exact ⟨1,_,by simp,hs⟩
   | false=>
     rw [hd] at hs
     obtain ⟨m,s',e,hv⟩:=ih (n+1) _ hs (by omega)
     refine ⟨m+1,s',?_,by rw [show n+(m+1)=n+1+m by omega]; exact hv⟩
     unfold ue at e
     rw [if_neg (by simp),e]
end
def PJ (M:Mo) (a:Ga) (key:ByteArray) (q:List Pr) (L:Nat) (w0:World) (e:Ending) (w:World):Prop:=
 ∃ (n:Nat) (G:Ge) (a':Ga),e=.returned (.tuple #[.int .i64 n,.bool true])/\n=5+G.W.read/\G.W.read<=L/\Fits (lk q key) G.W/\ah w M/\dh w a' G/\a'.f=a.f/\(∀ x,bC a' x->bC a x\/w0.heap.size<=x)/\ab (fun x=>aq M x\/bC a x) w0 w
theorem PK {w:World} {M:Mo} {a:Ga} {k:Nat} {key:ByteArray} {q:List Pr} {L:Nat} (hM:ah w M) (hG:dh w a (nc k key)) (hE:Ev.Ok ⟨M.ds,M.ss,M.xs,M.F,key,k,q,L⟩) (K:Nat) (hK:5+L<=K/\K<=1000000):
 Calls Tryz.prog 58 #[ptr M.m,.iface 177 (ptr a.f),.int .i64 K] w (PJ M a key q L w):=by
 have h0:=Gv.begin hE
 have hf:=PG hM hG K hK.2 (h0.ok hE K (by omega)) rfl
 obtain ⟨n,s,e,hv⟩:=h0.fin hE K 0 _ (by simp only; omega)
 simp only at e
 rw [e] at hf
 refine hf.mono fun e1 w1 q=>?_
 obtain ⟨q1,a',q2,q3,q4,q5,q6⟩:=q
 obtain ⟨o1,o2,o3,o4,o5⟩:=hv.cK
 simp only at q4 q5 o3 o4
 rw [o3,o4] at q4
 exact ⟨n,s.2.2,a',q1,by omega,o5,o2,q4,q5,q2,q3,q6⟩
end Go.Proofs.YtpanebgakndddaaGreat.Gt
