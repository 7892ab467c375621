/- Walks and plain mathematics, put together in their order: GetD, Lm, Frm, GtF, TabA, TabB, TabC, TabD, TabE, SeekA, SeekB, Lnk, SeekC. -/
import Derived.Test.YtpanebgakndddaaGreatPart1
import Derived.Test.YtpanebgakndddaaGreatFinish
import Derived.Test.YtpanebgakndddaaGreatMemNew
import Derived.Deep.RegionHeld3
import Derived.Laws.EntriesVeiled
set_option linter.unusedVariables false
set_option linter.unusedSimpArgs false
namespace Go.Proofs.YtpanebgakndddaaGreat.Gt
open Go Go.RowKit Hp K Fl Rw Hm Ar Mm Me Qs Wk Pc
set_option maxRecDepth 100000
theorem BG {s:Int} (hs:0<=s) (d:Nat×Nat) (hd:d.1<=65536/\d.2<=4000000): -1<=cellOf s d/\cellOf s d<=5000000:=by
 have hb:=qD s d.1 hs
 unfold cellOf
 split<;>omega
theorem l9.step {r:Nat} {ds:List (Nat×Nat)} {ss:List Sl} {s:Gs} (hx:∀ x∈s.1,0<=x/\x<=18446744073709551615) (h:l9 (r+1) ds ss s.1 s.2.2) (hg:s.2.2.iZ=0) (hd:eJ s.2.2=false):
 l9 r ds ss (dz ds ss s).1 (dz ds ss s).2.2/\(dz ds ss s).2.2.iZ=0/\∀ x∈(dz ds ss s).1,0<=x/\x<=18446744073709551615:=by
 obtain ⟨xs,F,G⟩:=s
 simp only at hx h hg hd
 obtain ⟨h1,h2,h3,h4,h5,h6,h7,h8,h9,ng⟩:=h
 unfold dz
 simp only
 split
 ·rename_i e
  have ha:=h2 e
  have p0:=Cl.eX hx 0
  unfold gv
  split
  ·rename_i e0
   refine ⟨⟨by simp only; split<;>omega,fun _=>by simp,h3,p0,h5,h6,h7,by omega,fun e3=>by simp only [e0] at e3; simp at e3,fun e3=>hg⟩,hg,hx⟩
  ·refine ⟨⟨by simp only; split<;>omega,fun e3=>?_,by simpa using h3,h4,h5,h6,h7,by omega,fun e3=>?_,fun e3=>hg⟩,hg,?_⟩
   ·simp only at e3; split at e3<;>omega
   ·simp only at e3; split at e3<;>omega
   ·intro x lH
    rcases List.mem_or_eq_of_mem_set lH with q | rfl
    ·exact hx x q
    ·exact h4
 split
 ·have hc:=BG h5.1 (now xs ds) (h6 _)
  exact ⟨⟨by simp,fun e=>by simp at e,h3,h4,h5,h6,h7,by omega,fun _=>⟨by simp [new]; omega,by simp [new],by simp [new]; omega,by simp [new]⟩,fun e=>by simp at e⟩,hg,hx⟩
 split
 ·rename_i e
  refine ⟨⟨by simp only; split<;>omega,fun e=>?_,h3,h4,h5,h6,h7,by omega,fun e3=>(h9 e).step hx h7,fun _=>hg⟩,hg,hx⟩
  simp only at e; split at e<;>omega
 ·unfold eJ at hd
  simp at hd
  omega
theorem GF (a:Addr) (w:World) (f:Nat):(method (f+1) 177 (.pointer (some a)) "Ready").run Tryz.prog w=.ok (283,.pointer (some a)) w:=by kernel_rfl
theorem GG (a:Addr) (w:World) (f:Nat):(method (f+1) 177 (.pointer (some a)) "Step").run Tryz.prog w=.ok (284,.pointer (some a)) w:=by kernel_rfl
theorem GH (args:Array Value) (w:World):(callFunc 283 args).run Tryz.prog w=.ok (.enter 283 args) w:=by kernel_rfl
theorem GI (args:Array Value) (w:World):(callFunc 284 args).run Tryz.prog w=.ok (.enter 284 args) w:=by kernel_rfl
abbrev tO (ds:List (Nat×Nat)) (ss:List Sl) (K:Nat) (s:Gs):=fin (fun _=>true) (dz ds ss) (fun s=>eJ s.2.2) K s
def yw (M:Mo) (a:Ga) (B:Nat) (w0:World) (s:Gs) (w:World):Prop:=
 ∃ a':Ga,a'.f=a.f/\(∀ x,bu a' x->bu a x\/B<=x)/\ah w {M with xs:=s.1,F:=s.2.1}/\cY w a' s.2.2/\ab (fun x=>ao M x\/bu a x) w0 w
section
variable {w:World} {M:Mo} {a:Ga} {G:Ge}
theorem qE.aA {w0 w1:World} {a a' a1:Ga} {B:Nat} (h:qE w1 a1 a') (h1:∀ x,bu a1 x->bu a x\/B<=x) (hB:B<=w1.heap.size):∀ x,bu a' x->bu a x\/B<=x:=by
 obtain ⟨e1,e2,e3,e4⟩:=h
 rintro x (q | q | q | q)
 ·exact h1 x (.inl (q.trans e1))
 ·exact h1 x (.inr (.inl (q.trans e2)))
 ·exact h1 x (.inr (.inr (.inl (q.trans e3))))
 ·rcases e4 with e | e
  ·exact h1 x (.inr (.inr (.inr (q.trans e))))
  ·exact .inr (by omega)
theorem OG {w0 w1:World} {s:Gs} {r:Nat} (h:yw M a w0.heap.size w0 s w1) (ok:l9 (r+1) M.ds M.ss s.1 s.2.2):
 Calls Tryz.prog 284 #[ptr a.f,ptr M.m] w1 fun e w'=>e=.returned (.bool (eJ s.2.2))/\yw M a w0.heap.size w0 (dz M.ds M.ss s) w':=by
 obtain ⟨a',e,hf,hM,hG,hO⟩:=h
 have hs:=GC (M:={M with xs:=s.1,F:=s.2.1}) hM hG ok
 rw [e] at hs
 refine hs.mono fun e1 w' q=>⟨q.1,?_⟩
 obtain ⟨a2,m2,aB,dm,ae⟩:=q.2
 refine ⟨a2,m2.1.trans e,m2.aA (w0:=w0) hf hO.size,aB,dm,hO.trans' ae ?_⟩
 rintro x hx (q | q)
 ·exact .inl q
 ·rcases hf x q with q | q
  ·exact .inr q
  ·omega
theorem OH (hM:ah w M) (hG:cY w a G) (K:Nat) (hK:K<=1000000) (ok:l9 K M.ds M.ss M.xs G) (hg:G.iZ=0):
 Calls Tryz.prog 58 #[ptr M.m,.iface 177 (ptr a.f),.int .i64 K] w fun e w'=>e=.returned (.tuple #[.int .i64 (tO M.ds M.ss K (M.xs,M.F,G)).1,.bool (tO M.ds M.ss K (M.xs,M.F,G)).2.1])/\
  yw M a w.heap.size w (tO M.ds M.ss K (M.xs,M.F,G)).2.2 w':=by
 refine Bv 177 283 284 a.f (ptr M.m) (yw M a w.heap.size w) (fun k s=>l9 k M.ds M.ss s.1 s.2.2/\s.2.2.iZ=0/\∀ x∈s.1,0<=x/\x<=18446744073709551615) (fun _=>true) (dz M.ds M.ss) (fun s=>eJ s.2.2)
  (GF _) (GG _) GH GI ?_ ?_ ?_ K hK (M.xs,M.F,G) ⟨ok,hg,hM.2.1.2.2.1⟩ w ⟨a,rfl,fun x h=>.inl h,hM,hG,ab.refl _ _⟩
 ·rintro k s w1 h ok
  exact (oC _ _ w1).mono fun e w' q=>⟨q.1,by rw [<-q.2]; exact h⟩
 ·rintro k s w1 h ok _
  exact OG h ok.1
 ·rintro k s ok _ hd
  exact ok.1.step ok.2.2 ok.2.1 hd
end
/-! ### along a chain of pairs-/
structure Ev where
 ds:List (Nat×Nat)
 ss:List Sl
 xs:List Int
 F:Bool
 key:ByteArray
 k:Nat
 q:List Pr
 L:Nat
abbrev Ev.cell (E:Ev):Int:=cellOf (sm E.key) (now E.xs E.ds)
structure Ev.Ok (E:Ev):Prop where
 len:E.ss.length<=1024
 cU:fo E.ss
 tb:∀ i,(aN E.ds i).1<=65536/\(aN E.ds i).2<=4000000
 wk:2+E.k<E.xs.length/\E.k<=1000
 xb:∀ x∈E.xs,0<=x/\x<=18446744073709551615
 out:Cl.nth E.xs (2+E.k)=0
 aA:E.cell≠((2+E.k:Nat):Int)
 ch:Cn E.ss (word E.xs E.cell) E.q
 qL:E.q.length<=E.L
 L:E.L<=2000
def Fits (o:Option ByteArray) (W:Wa):Prop:=W.nd.val=o.getD ⟨#[]⟩/\decide (W.found≠0)=o.isSome
inductive qF (E:Ev) (G:Ge):Nat->Bool->Prop
 | mL:G.nx=1->G.C.at_=0->qF E G 0 false
 | put:G.nx=1->G.C.at_=1->G.C.period=Cl.nth E.xs 0->qF E G 1 false
 | load:G.nx=2->qF E G 2 false
 | first:G.nx=3->G.W=new 0 E.cell (sm E.key) E.key->qF E G 3 false
 | look (q:List Pr):G.nx=3->G.W.nx=2->G.W.key=E.key->G.W.sum=sm E.key->G.W.found=0->G.W.nd.val=⟨#[]⟩->q≠[]->Cn E.ss G.W.at_ q->lk q E.key=lk E.q E.key->G.W.read+q.length<=E.L-> -9223372036854775808<=G.W.cell/\G.W.cell<=9223372036854775807->G.W.at_<=18446744073709551615->qF E G (4+G.W.read) false
 | leave:G.nx=4->G.W.read<=E.L->Fits (lk E.q E.key) G.W->qF E G (4+G.W.read) false
 | cM:G.W.read<=E.L->Fits (lk E.q E.key) G.W->qF E G (5+G.W.read) true
structure Gv (E:Ev) (n:Nat) (d:Bool) (s:Gs):Prop where
 F:s.2.1=E.F
 key:s.2.2.key=E.key
 sum:s.2.2.sum=sm E.key
 wk:s.2.2.C.worker=E.k
 iZ:d=false->s.2.2.iZ=0
 pd:0<=s.2.2.C.period/\s.2.2.C.period<=18446744073709551615
 xs:s.1=if 2<=n/\d=false then E.xs.set (2+E.k) (Cl.nth E.xs 0) else E.xs
 ph:qF E s.2.2 n d
section
variable {E:Ev} {n:Nat} {s:Gs}
theorem Gv.begin (hE:E.Ok):Gv E 0 false (E.xs,E.F,mK E.k E.key):=
 ⟨rfl,rfl,rfl,rfl,fun _=>rfl,⟨by simp [mK],by simp [mK]⟩,by simp,.mL rfl rfl⟩
theorem Gv.le (h:Gv E n false s):n<=4+E.L:=by
 have:=h.ph
 cases this<;>omega
theorem Gv.cM (h:Gv E n true s):n=5+s.2.2.W.read/\Fits (lk E.q E.key) s.2.2.W/\s.2.1=E.F/\s.1=E.xs/\s.2.2.W.read<=E.L:=by
 have h1:=h.ph
 have h2:=h.xs
 simp at h2
 generalize hb:true=d at h1
 generalize hm:n=m at h1
 cases h1<;>first | (simp at hb; done) | exact ⟨rfl,by assumption,h.F,h2,by assumption⟩
theorem Ev.Ok.back (hE:E.Ok):(E.xs.set (2+E.k) (Cl.nth E.xs 0)).set (2+E.k) 0=E.xs:=by
 rw [List.set_set]
 apply List.ext_getElem
 ·simp
 ·intro i h1 h2
  rw [List.getElem_set]
  split
  ·rename_i e
   subst e
   have:=hE.out
   unfold Cl.nth at this
   rw [List.getD_eq_getElem?_getD,List.getElem?_eq_getElem h2] at this
   exact this.symm
  ·rfl
theorem Ev.Ok.OI (hE:E.Ok):now (E.xs.set (2+E.k) (Cl.nth E.xs 0)) E.ds=now E.xs E.ds:=by
 unfold now
 rw [fJ _ _ _ hE.wk.1,if_neg (by omega)]
theorem Ev.Ok.OJ (hE:E.Ok):word (E.xs.set (2+E.k) (Cl.nth E.xs 0)) E.cell=word E.xs E.cell:=by
 have hf:=hE.aA
 unfold word
 rw [List.length_set,fJ _ _ _ hE.wk.1]
 split
 ·rename_i h
  rw [if_neg (by omega)]
 ·rfl
theorem Gv.ok (hE:E.Ok) (h:Gv E n false s) (r:Nat) (hr:r<=4000000000000000000):l9 r E.ds E.ss s.1 s.2.2:=by
 have qS:=oD E.key
 have bz:s.1.length=E.xs.length:=by rw [h.xs]; split<;>simp
 have hw:=hE.wk
 have hL:=hE.L
 have DL:=h.ph
 have gX: -1<=E.cell/\E.cell<=5000000:=BG qS.1 (now E.xs E.ds) (hE.tb _)
 generalize hn:n=m at DL
 generalize hb:false=d at DL
 have hs:=h.sum
 have iB:=h.wk
 have hg:=h.iZ rfl
 have mk:∀ (a1:1<=s.2.2.nx/\s.2.2.nx<=4) (a2:s.2.2.nx=1->s.2.2.C.at_<=1) (a3:s.2.2.nx=3->eB r s.2.2.W),l9 r E.ds E.ss s.1 s.2.2:=fun a1 a2 a3=>
  ⟨a1,a2,by rw [bz,iB]; exact hw,h.pd,by rw [hs]; exact qS,hE.tb,hE.cU,by omega,a3,fun _=>hg⟩
 cases DL with
 | mL a b=>exact mk (by omega) (by omega) (by omega)
 | put a b c=>exact mk (by omega) (by omega) (by omega)
 | load a=>exact mk (by omega) (by omega) (by omega)
 | first a b=>exact mk (by omega) (by omega) (fun _=>by rw [b]; exact ⟨by simp only [new]; omega,by simp [new],by simp only [new]; omega,by simp [new]⟩)
 | look q a1 a2 a3 a4 a5 a6 a7 a8 a9 a10 a11 a12=>exact mk (by omega) (by omega) (fun _=>⟨a11,a12,by omega,by omega⟩)
 | leave a b c=>exact mk (by omega) (by omega) (by omega)
 | cM a b=>cases hb
theorem Gv.step (hE:E.Ok) (h:Gv E n false s):Gv E (n+1) (eJ s.2.2) (dz E.ds E.ss s):=by
 obtain ⟨xs,F,G⟩:=s
 obtain ⟨h1,h2,h3,h4,h5,h6,h7,h8⟩:=h
 dsimp only at h1 h2 h3 h4 h5 h6 h7 h8
 have h5:=h5 rfl
 have hw:=hE.wk
 have hL:=hE.L
 generalize hn:n=m at h8
 generalize hb:false=d at h8
 cases h8 with
 | mL a b=>
   have e:dz E.ds E.ss (xs,F,G)=(xs,F,{G with C:={G.C with period:=Cl.nth xs 0,at_:=1}}):=by
    unfold dz gv
    simp only
    rw [if_pos a,if_pos b,if_neg (by omega)]
    cases G; simp only at a; subst a; rfl
   rw [if_neg (by intro q; omega)] at h7
   rw [e,show eJ G=false by unfold eJ; simp; omega]
   subst h7
   exact ⟨h1,h2,h3,h4,fun _=>h5,Cl.eX hE.xb 0,by simp,.put a rfl rfl⟩
 | put a b c=>
   have e:dz E.ds E.ss (xs,F,G)=(xs.set (2+G.C.worker) G.C.period,F,{G with C:={G.C with at_:=2},nx:=2}):=by
    unfold dz gv
    simp only
    rw [if_pos a,if_neg (by omega),if_pos b]
   rw [if_neg (by intro q; omega)] at h7
   rw [e,show eJ G=false by unfold eJ; simp; omega,h4,c]
   subst h7
   exact ⟨h1,h2,h3,h4,fun _=>h5,by simp only; rw [c]; exact Cl.eX hE.xb 0,by simp,.load rfl⟩
 | load a=>
   have e:dz E.ds E.ss (xs,F,G)=(xs,F,{G with W:=new 0 (cellOf G.sum (now xs E.ds)) G.sum G.key,nx:=3}):=by
    unfold dz
    simp only
    rw [if_neg (by omega),if_pos a]
   rw [if_pos ⟨by omega,rfl⟩] at h7
   rw [e,show eJ G=false by unfold eJ; simp; omega]
   subst h7
   exact ⟨h1,h2,h3,h4,fun _=>h5,h6,by simp,.first rfl (by simp only; rw [hE.OI,h3,h2])⟩
 | first a b=>
   rw [if_pos ⟨by omega,rfl⟩] at h7
   have e:dz E.ds E.ss (xs,F,G)=(xs,F,{G with W:=dy {new 0 E.cell (sm E.key) E.key with first:=word E.xs E.cell} (word E.xs E.cell),nx:=if word E.xs E.cell=0 then 4 else 3}):=by
    unfold dz
    simp only
    rw [if_neg (by omega),if_neg (by omega),if_pos a]
    have hg:Wk.aF xs E.ss (F,G.W)=(F,dy {new 0 E.cell (sm E.key) E.key with first:=word E.xs E.cell} (word E.xs E.cell)):=by
     unfold Wk.aF
     simp only
     rw [b,if_pos (show (new 0 E.cell (sm E.key) E.key).nx=1 from rfl),show (new 0 E.cell (sm E.key) E.key).cell=E.cell from rfl,h7,hE.OJ]
    have ct:Wk.ck xs E.ss (F,G.W)=decide (word E.xs E.cell=0):=by
     unfold Wk.ck
     rw [hg]
     exact yx _ _
    rw [hg,ct]
    simp
   rw [e,show eJ G=false by unfold eJ; simp; omega]
   have dC:=hE.ch
   have VF:=GJ hE.xb E.cell
   have Xj:=hE.qL
   have gX: -1<=E.cell/\E.cell<=5000000:=BG (oD E.key).1 (now E.xs E.ds) (hE.tb _)
   by_cases h0:word E.xs E.cell=0
   ·rw [if_pos h0]
    have hq:=dC.pos.1 h0
    refine ⟨h1,h2,h3,h4,fun _=>h5,h6,by rw [if_pos ⟨by omega,rfl⟩]; exact h7,?_⟩
    unfold dy
    rw [if_pos h0]
    exact .leave (G:={G with W:={new 0 E.cell (sm E.key) E.key with first:=word E.xs E.cell,nx:=3},nx:=4}) rfl (Nat.zero_le _) (by rw [hq]; exact ⟨rfl,rfl⟩)
   ·rw [if_neg h0]
    refine ⟨h1,h2,h3,h4,fun _=>h5,h6,by rw [if_pos ⟨by omega,rfl⟩]; exact h7,?_⟩
    unfold dy
    rw [if_neg h0]
    exact .look (G:={G with W:={new 0 E.cell (sm E.key) E.key with first:=word E.xs E.cell,at_:=word E.xs E.cell,nx:=2},nx:=3}) E.q rfl rfl rfl rfl rfl rfl (fun q=>h0 (dC.pos.2 q)) dC rfl (by simp only [new]; omega) (by simp only [new]; omega) VF
 | look q a1 a2 a3 a4 a5 a6 a7 a8 a9 a10 a11 a12=>
   rw [if_pos ⟨by omega,rfl⟩] at h7
   generalize bO:G.W.at_=wat at a8
   cases a8 with
   | nil=>exact absurd rfl a7
   | @cons _ k z p t c1 c2 c3=>
     rw [<-bO] at c1
     have hp:=(yy hE.len).2 c1
     have bt:Wk.aF xs E.ss (F,G.W)=(F,looks G.W (dP p z)):=by
      unfold Wk.aF
      simp only
      rw [if_neg (by omega),if_pos a2,hp]
      show (F,looks G.W (ai E.ss k).nd)=_
      rw [c2]
     have hit_iff:mb G.W (dP p z)=decide (p.1=E.key):=by
      unfold mb dP
      simp only [a3,a4,decide_eq_decide]
      exact ⟨fun q=>q.2,fun q=>⟨by rw [q],q⟩⟩
     have hz:z<=18446744073709551615:=by
      have:=(hE.cU k).2
      rw [c2] at this
      unfold dP at this
      simp only at this
      omega
     have ct:Wk.ck xs E.ss (F,G.W)=(decide (p.1=E.key)||decide (z=0)):=by
      unfold Wk.ck
      rw [bt]
      show decide (3<=(looks G.W (dP p z)).nx)=_
      rw [BH]
      unfold nA
      rw [hit_iff]
      rfl
     have e:dz E.ds E.ss (xs,F,G)=(xs,F,{G with W:=looks G.W (dP p z),nx:=if (decide (p.1=E.key)||decide (z=0))=true then 4 else 3}):=by
      unfold dz
      simp only
      rw [if_neg (by omega),if_neg (by omega),if_pos a1,bt,ct]
     rw [e,show eJ G=false by unfold eJ; simp; omega]
     have eE:G.W.at_≠0:=fun e=>by have:=c1.pos; omega
     simp only [List.length_cons] at a10
     by_cases hk:p.1=E.key
     ·rw [if_pos (by simp [hk])]
      have hl:looks G.W (dP p z)={G.W with read:=G.W.read+1,found:=G.W.at_,nd:=dP p z,nx:=3}:=by
       unfold looks
       rw [hit_iff,if_pos (by simp [hk])]
      rw [hl]
      refine ⟨h1,h2,h3,h4,fun _=>h5,h6,by rw [if_pos ⟨by omega,rfl⟩]; exact h7,?_⟩
      refine .leave (G:={G with W:={G.W with read:=G.W.read+1,found:=G.W.at_,nd:=dP p z,nx:=3},nx:=4}) rfl (by simp only; omega) ?_
      rw [<-a9]
      unfold lk
      rw [if_pos hk]
      exact ⟨rfl,by simp [eE]⟩
     ·have hl:looks G.W (dP p z)=dy {G.W with read:=G.W.read+1,prev:=G.W.at_} z:=by
       unfold looks
       rw [hit_iff,if_neg (by simp [hk])]
       rfl
      rw [hl]
      have a9:lk t E.key=lk E.q E.key:=by rw [<-a9]; simp [lk,hk]
      by_cases h0:z=0
      ·rw [if_pos (by simp [h0])]
       have ht:=c3.pos.1 h0
       refine ⟨h1,h2,h3,h4,fun _=>h5,h6,by rw [if_pos ⟨by omega,rfl⟩]; exact h7,?_⟩
       unfold dy
       rw [if_pos h0]
       refine .leave (G:={G with W:={G.W with read:=G.W.read+1,prev:=G.W.at_,nx:=3},nx:=4}) rfl (by simp only; omega) ?_
       rw [<-a9,ht]
       exact ⟨a6,by simp [a5,lk]⟩
      ·rw [if_neg (by simp [h0,hk])]
       refine ⟨h1,h2,h3,h4,fun _=>h5,h6,by rw [if_pos ⟨by omega,rfl⟩]; exact h7,?_⟩
       unfold dy
       rw [if_neg h0]
       exact .look (G:={G with W:={G.W with read:=G.W.read+1,prev:=G.W.at_,at_:=z,nx:=2},nx:=3}) t rfl rfl a3 a4 a5 a6 (fun q=>h0 (c3.pos.2 q)) c3 a9 (by simp only; omega) a11 hz
 | leave a b c=>
   have e:dz E.ds E.ss (xs,F,G)=(xs.set (2+G.C.worker) 0,F,{G with iZ:=1}):=by
    unfold dz
    simp only
    rw [if_neg (by omega),if_neg (by omega),if_neg (by omega)]
   rw [if_pos ⟨by omega,rfl⟩] at h7
   rw [e,show eJ G=true by unfold eJ; simp; omega,h4]
   subst h7
   refine ⟨h1,h2,h3,h4,(fun q=>by cases q),h6,by simpa using hE.back,?_⟩
   rw [show 4+G.W.read+1=5+G.W.read by omega]
   exact .cM (G:={G with iZ:=1}) b c
 | cM a b=>cases hb
theorem Gv.fin (hE:E.Ok) (K:Nat):∀ n s,Gv E n false s->5+E.L<=n+K->∃ m s',tO E.ds E.ss K s=(m,true,s')/\Gv E (n+m) true s':=by
 induction K with
 | zero=>intro n s h hK; have:=h.le; omega
 | succ K ih=>
   intro n s h hK
   have hs:=h.step hE
   unfold tO Me.fin
   rw [if_pos rfl]
   cases hd:eJ s.2.2 with
   | true=>
     rw [hd] at hs
     exact ⟨1,_,by simp,hs⟩
   | false=>
     rw [hd] at hs
     obtain ⟨m,s',e,hv⟩:=ih (n+1) _ hs (by omega)
     refine ⟨m+1,s',?_,by rw [show n+(m+1)=n+1+m by omega]; exact hv⟩
     unfold tO at e
     rw [if_neg (by simp),e]
end
def OK (M:Mo) (a:Ga) (key:ByteArray) (q:List Pr) (L:Nat) (w0:World) (e:Ending) (w:World):Prop:=
 ∃ (n:Nat) (G:Ge) (a':Ga),e=.returned (.tuple #[.int .i64 n,.bool true])/\n=5+G.W.read/\G.W.read<=L/\Fits (lk q key) G.W/\ah w M/\cY w a' G/\a'.f=a.f/\(∀ x,bu a' x->bu a x\/w0.heap.size<=x)/\ab (fun x=>ao M x\/bu a x) w0 w
theorem OL {w:World} {M:Mo} {a:Ga} {k:Nat} {key:ByteArray} {q:List Pr} {L:Nat} (hM:ah w M) (hG:cY w a (mK k key)) (hE:Ev.Ok ⟨M.ds,M.ss,M.xs,M.F,key,k,q,L⟩) (K:Nat) (hK:5+L<=K/\K<=1000000):
 Calls Tryz.prog 58 #[ptr M.m,.iface 177 (ptr a.f),.int .i64 K] w (OK M a key q L w):=by
 have h0:=Gv.begin hE
 have hf:=OH hM hG K hK.2 (h0.ok hE K (by omega)) rfl
 obtain ⟨n,s,e,hv⟩:=h0.fin hE K 0 _ (by simp only; omega)
 simp only at e
 rw [e] at hf
 refine hf.mono fun e1 w1 q=>?_
 obtain ⟨q1,a',q2,q3,q4,q5,q6⟩:=q
 obtain ⟨o1,o2,o3,o4,o5⟩:=hv.cM
 simp only at q4 q5 o3 o4
 rw [o3,o4] at q4
 exact ⟨n,s.2.2,a',q1,by omega,o5,o2,q4,q5,q2,q3,q6⟩
end Go.Proofs.YtpanebgakndddaaGreat.Gt
namespace Go.Proofs.YtpanebgakndddaaGreat.Pn
open Go Go.RowKit Hp K Fl Rw Hm Ar Mm Me
set_option maxRecDepth 100000
structure Lm where
 xs:List Int
 hs:List Int
 ss:List Sl
 F:Bool
 k:Int
 ds:List (Nat×Nat)
 ws:List Nat
abbrev lm (M:Mo):Lm:=⟨M.xs,M.hs,M.ss,M.F,M.k,M.ds,M.ws⟩
structure gn (w:World) (M M':Mo):Prop where
 m:M'.m=M.m
 g:M'.g=M.g
 lg:M'.lg=M.lg
 ar:M'.ar=M.ar
 aS:∀ x,ao M' x->ao M x\/w.heap.size<=x
theorem gn.refl (w:World) (M:Mo):gn w M M:=⟨rfl,rfl,rfl,rfl,fun _ h=>.inl h⟩
theorem gn.trans {w w':World} {M M' M'':Mo} (h:gn w M M') (h':gn w' M' M'') (hs:w.heap.size<=w'.heap.size):gn w M M'':=
 ⟨h'.m.trans h.m,h'.g.trans h.g,h'.lg.trans h.lg,h'.ar.trans h.ar,fun x hx=>by
  rcases h'.aS x hx with q | q
  ·exact h.aS x q
  ·exact .inr (Nat.le_trans hs q)⟩
def gm (ss:List Sl):Option Nat:=(List.range ss.length).find? fun i=> !(ai ss i).taken
theorem vW {ss:List Sl} {m:Nat}:gm ss=some m↔Least ss m:=by
 unfold gm Least
 rw [List.find?_range_eq_some]
 simp only [List.mem_range,Bool.not_eq_true',Bool.not_eq_eq_eq_not,Bool.not_true,Bool.not_false]
 constructor
 ·rintro ⟨a,b,c⟩
  exact ⟨b,a,c⟩
 ·rintro ⟨a,b,c⟩
  exact ⟨b,a,c⟩
theorem Bq {ss:List Sl}:gm ss=none↔∀ k,k<ss.length->(ai ss k).taken=true:=by
 unfold gm
 rw [List.find?_range_eq_none]
 simp
theorem F9 {S:Type} {rd:S->Bool} {st:S->S} {dn:S->Bool} (R:Nat->S->Prop) (Q:S->Prop)
 (h:∀ k s,R k s->rd s=true/\1<=k/\(dn s=true->Q (st s))/\(dn s=false->R (k-1) (st s))):
 ∀ K k s,R k s->k<=K->∃ n s',fin rd st dn K s=(n,true,s')/\n<=k/\Q s':=by
 intro K
 induction K with
 | zero=>
   intro k s hR hk
   have:=(h k s hR).2.1
   omega
 | succ K ih=>
   intro k s hR hk
   obtain ⟨h1,h2,h3,h4⟩:=h k s hR
   unfold fin
   rw [if_pos h1]
   cases hd:dn s with
   | true=>exact ⟨1,_,by simp,h2,h3 hd⟩
   | false=>
     obtain ⟨n,s',e,hn,hq⟩:=ih (k-1) (st s) (h4 hd) (by omega)
     exact ⟨n+1,s',by rw [if_neg (by simp),e],by omega,hq⟩
end Go.Proofs.YtpanebgakndddaaGreat.Pn
namespace Go.Proofs.YtpanebgakndddaaGreat.Pn
open Go Go.RowKit Hp K Fl Rw Hm Ar Mm Me
set_option maxRecDepth 100000
structure iH (A P:Type) where
 f:A->Nat
 At:World->A->P->Prop
 aS:A->P->Nat->Prop
section
variable {A P:Type}
def iH.bf (X:iH A P) (w:World) (M:Mo) (a:A) (p:P) (L':Lm) (p':P) (w':World):Prop:=
 ∃ M' a',ah w' M'/\lm M'=L'/\gn w M M'/\X.At w' a' p'/\X.f a'=X.f a/\(∀ x,X.aS a' p' x->X.aS a p x\/w.heap.size<=x)/\ab (fun x=>ao M x\/X.aS a p x) w w'
def iH.Inv (X:iH A P) (M0:Mo) (a0:A) (p0:P) (w0:World) (s:Lm×P) (w:World):Prop:=
 ∃ M a,ah w M/\lm M=s.1/\gn w0 M0 M/\X.At w a s.2/\X.f a=X.f a0/\(∀ x,X.aS a s.2 x->X.aS a0 p0 x\/w0.heap.size<=x)/\ab (fun x=>ao M0 x\/X.aS a0 p0 x) w0 w
structure oA (X:iH A P) (T:TypeId) (fr fs:Nat) (Ok:Lm->P->Prop) (rd:Lm->P->Bool) (st:Lm->P->Lm×P) (dn:Lm->P->Bool):Prop where
 below:∀ {w w':World} {a:A} {p:P},X.At w a p->Below w.heap.size w w'->X.At w' a p
 mr:∀ (b:Nat) (w:World) (f:Nat),(method (f+1) T (.pointer (some ⟨b,0,none⟩)) "Ready").run Tryz.prog w=.ok (fr,.pointer (some ⟨b,0,none⟩)) w
 ms:∀ (b:Nat) (w:World) (f:Nat),(method (f+1) T (.pointer (some ⟨b,0,none⟩)) "Step").run Tryz.prog w=.ok (fs,.pointer (some ⟨b,0,none⟩)) w
 er:∀ args w,(callFunc fr args).run Tryz.prog w=.ok (.enter fr args) w
 es:∀ args w,(callFunc fs args).run Tryz.prog w=.ok (.enter fs args) w
 ready:∀ {w:World} {M:Mo} {a:A} {p:P},ah w M->X.At w a p->Ok (lm M) p->Calls Tryz.prog fr #[ptr (X.f a),ptr M.m] w fun e w'=>e=.returned (.bool (rd (lm M) p))/\Below w.heap.size w w'
 step:∀ {w:World} {M:Mo} {a:A} {p:P},ah w M->X.At w a p->Ok (lm M) p->rd (lm M) p=true->Calls Tryz.prog fs #[ptr (X.f a),ptr M.m] w fun e w'=>e=.returned (.bool (dn (lm M) p))/\X.bf w M a p (st (lm M) p).1 (st (lm M) p).2 w'
variable {X:iH A P} {T:TypeId} {fr fs:Nat} {Ok:Lm->P->Prop} {rd:Lm->P->Bool} {st:Lm->P->Lm×P} {dn:Lm->P->Bool}
variable {w w0:World} {M0:Mo} {a0:A} {p0:P} {s:Lm×P}
theorem iH.Inv.start {M:Mo} {a:A} {p:P} (hM:ah w M) (hP:X.At w a p):X.Inv M a p w (lm M,p) w:=⟨M,a,hM,rfl,gn.refl _ _,hP,rfl,fun _ q=>.inl q,ab.refl _ _⟩
theorem iH.Inv.rM (F:oA X T fr fs Ok rd st dn) (h:X.Inv M0 a0 p0 w0 s w) (ok:Ok s.1 s.2) (hr:rd s.1 s.2=true):
 Calls Tryz.prog fs #[ptr (X.f a0),ptr M0.m] w fun e w'=>e=.returned (.bool (dn s.1 s.2))/\X.Inv M0 a0 p0 w0 (st s.1 s.2) w':=by
 obtain ⟨M,a,hM,e,hK,hP,ea,hf,hO⟩:=h
 have hs:=F.step hM hP (by rw [e]; exact ok) (by rw [e]; exact hr)
 rw [e,hK.m,ea] at hs
 refine hs.mono fun e1 w' q=>⟨q.1,?_⟩
 obtain ⟨M',a',ke,e',VA,VB,ea',DK,qW⟩:=q.2
 have cO:=hO.size
 refine ⟨M',a',ke,e',hK.trans VA cO,VB,ea'.trans ea,?_,hO.trans' qW ?_⟩
 ·intro x q
  rcases DK x q with q | q
  ·exact hf x q
  ·exact .inr (by omega)
 ·rintro x hx (q | q)
  ·rcases hK.aS x q with q | q
   ·exact .inl q
   ·omega
  ·rcases hf x q with q | q
   ·exact .inr q
   ·omega
theorem iH.Inv.Ou (F:oA X T fr fs Ok rd st dn) (h:X.Inv M0 a0 p0 w0 s w) (ok:Ok s.1 s.2):
 Calls Tryz.prog fr #[ptr (X.f a0),ptr M0.m] w fun e w'=>e=.returned (.bool (rd s.1 s.2))/\X.Inv M0 a0 p0 w0 s w':=by
 obtain ⟨M,a,hM,e,hK,hP,ea,hf,hO⟩:=h
 have hs:=F.ready hM hP (by rw [e]; exact ok)
 rw [e,hK.m,ea] at hs
 exact hs.mono fun e1 w' q=>⟨q.1,M,a,hM.below q.2,e,hK,F.below hP q.2,ea,hf,hO.below q.2⟩
theorem mN (F:oA X T fr fs Ok rd st dn) {M:Mo} {a:A} {p:P} (hM:ah w M) (hP:X.At w a p) (R:Nat->Lm×P->Prop) (Q:Lm×P->Prop)
 (hR:∀ k s,R k s->Ok s.1 s.2/\rd s.1 s.2=true/\1<=k/\(dn s.1 s.2=true->Q (st s.1 s.2))/\(dn s.1 s.2=false->R (k-1) (st s.1 s.2)))
 (k K:Nat) (h0:R k (lm M,p)) (hk:k<=K) (hK:K<=1000000):
 Calls Tryz.prog 58 #[ptr M.m,.iface T (ptr (X.f a)),.int .i64 K] w fun e w'=>∃ (n:Nat) (s:Lm×P),e=.returned (.tuple #[.int .i64 n,.bool true])/\(n<=k/\fin (fun s:Lm×P=>rd s.1 s.2) (fun s=>st s.1 s.2) (fun s=>dn s.1 s.2) K (lm M,p)=(n,true,s))/\Q s/\X.Inv M a p w s w':=by
 obtain ⟨n,s',e,hn,hq⟩:=F9 (rd:=fun s:Lm×P=>rd s.1 s.2) (st:=fun s=>st s.1 s.2) (dn:=fun s=>dn s.1 s.2) R Q (fun k s h=>(hR k s h).2) K k (lm M,p) h0 hk
 have:=Bv T fr fs (X.f a) (ptr M.m) (X.Inv M a p w) (fun _ s=>∃ k,R k s) (fun s:Lm×P=>rd s.1 s.2) (fun s=>st s.1 s.2) (fun s=>dn s.1 s.2)
  (F.mr _) (F.ms _) F.er F.es ?_ ?_ ?_ K hK (lm M,p) ⟨k,h0⟩ w (iH.Inv.start hM hP)
 ·rw [e] at this
  exact this.mono fun e1 w' q=>⟨n,s',q.1,⟨hn,e⟩,hq,q.2⟩
 ·rintro _ s w1 hI ⟨k,hr⟩
  exact hI.Ou F (hR k s hr).1
 ·rintro _ s w1 hI ⟨k,hr⟩ eD
  exact hI.rM F (hR k s hr).1 eD
 ·rintro _ s ⟨k,hr⟩ eD hd
  exact ⟨k-1,(hR k s hr).2.2.2.2 hd⟩
end
end Go.Proofs.YtpanebgakndddaaGreat.Pn
namespace Go.Proofs.YtpanebgakndddaaGreat.Gt
open Go Go.RowKit Hp K Fl Rw Hm Ar Mm Me Qs Wk Pc Pn
set_option maxRecDepth 100000
abbrev PX:iH Ga Ge:=⟨Ga.f,cY,fun a _ x=>bu a x⟩
def lu (L:Lm) (G:Ge):Lm×Ge:=({L with xs:=(dz L.ds L.ss (L.xs,L.F,G)).1,F:=(dz L.ds L.ss (L.xs,L.F,G)).2.1},(dz L.ds L.ss (L.xs,L.F,G)).2.2)
theorem tJ:oA PX 177 283 284 (fun L G=>l9 1 L.ds L.ss L.xs G) (fun _ _=>true) lu (fun _ G=>eJ G) where
 below h hb:=h.only (ab.aD hb (fun _=>False)) (by simp)
 mr b:=GF ⟨b,0,none⟩
 ms b:=GG ⟨b,0,none⟩
 er:=GH
 es:=GI
 ready {w M a p} hM h ok:=(oC _ _ w).mono fun e w' q=>⟨q.1,by rw [<-q.2]; exact Below.refl _ _⟩
 step {w M a p} hM h ok hr:=(GC (r:=0) hM h ok).mono fun e w' q=>by
  obtain ⟨q1,a2,m2,aB,dm,ae⟩:=q
  exact ⟨q1,_,a2,aB,rfl,⟨rfl,rfl,rfl,rfl,fun x h=>.inl h⟩,dm,m2.1,m2.aA (w0:=w) (fun x hx=>.inl hx) (Nat.le_refl _),ae⟩
def Rg (E:Ev) (L0:Lm) (k:Nat) (s:Lm×Ge):Prop:=∃ n,Gv E n false (s.1.xs,s.1.F,s.2)/\5+E.L<=n+k/\s.1.hs=L0.hs/\s.1.ss=L0.ss/\s.1.k=L0.k/\s.1.ds=L0.ds/\s.1.ws=L0.ws
def Qg (E:Ev) (L0:Lm) (s:Lm×Ge):Prop:=s.1=L0/\Fits (lk E.q E.key) s.2.W
theorem Rg.step {E:Ev} {L0:Lm} {k:Nat} {s:Lm×Ge} (hE:E.Ok) (h0:E.ds=L0.ds/\E.ss=L0.ss/\E.xs=L0.xs/\E.F=L0.F) (h:Rg E L0 k s):l9 1 s.1.ds s.1.ss s.1.xs s.2/\1<=k/\(eJ s.2=true->Qg E L0 (lu s.1 s.2))/\(eJ s.2=false->Rg E L0 (k-1) (lu s.1 s.2)):=by
 obtain ⟨n,hv,hk,f1,f5,f2,f4,f3⟩:=h
 obtain ⟨e1,e2,e3,e4⟩:=h0
 have d1:s.1.ds=E.ds:=by rw [e1]; exact f4
 have d2:s.1.ss=E.ss:=by rw [e2]; exact f5
 have hle:=hv.le
 have eM:=hv.ok hE 1 (by omega)
 have hs:=hv.step hE
 have est:(lu s.1 s.2).1.xs=(dz E.ds E.ss (s.1.xs,s.1.F,s.2)).1/\(lu s.1 s.2).1.F=(dz E.ds E.ss (s.1.xs,s.1.F,s.2)).2.1/\(lu s.1 s.2).2=(dz E.ds E.ss (s.1.xs,s.1.F,s.2)).2.2:=by
  unfold lu
  rw [d1,d2]
  exact ⟨rfl,rfl,rfl⟩
 refine ⟨by rw [d1,d2]; exact eM,by omega,fun hd=>?_,fun hd=>?_⟩
 ·have fM:Gv E (n+1) true (dz E.ds E.ss (s.1.xs,s.1.F,s.2)):=by
   have:eJ (s.1.xs,s.1.F,s.2).2.2=true:=hd
   rw [this] at hs
   exact hs
  obtain ⟨o1,o2,o3,o4,o5⟩:=fM.cM
  refine ⟨?_,by rw [est.2.2]; exact o2⟩
  obtain ⟨x1,x2,x3⟩:=est
  rw [o4,e3] at x1
  rw [o3,e4] at x2
  generalize hg:(lu s.1 s.2).1=g at*
  have g1:g.hs=s.1.hs/\g.k=s.1.k/\g.ws=s.1.ws/\g.ds=s.1.ds/\g.ss=s.1.ss:=by rw [<-hg]; exact ⟨rfl,rfl,rfl,rfl,rfl⟩
  obtain ⟨g1,g2,g3,g4,g5⟩:=g1
  cases g
  cases L0
  simp only at*
  simp [*]
 ·have fM:Gv E (n+1) false (dz E.ds E.ss (s.1.xs,s.1.F,s.2)):=by
   have:eJ (s.1.xs,s.1.F,s.2).2.2=false:=hd
   rw [this] at hs
   exact hs
  refine ⟨n+1,?_,by omega,?_⟩
  ·obtain ⟨x1,x2,x3⟩:=est
   rw [x1,x2,x3]
   exact fM
  ·exact ⟨f1,f5,f2,f4,f3⟩
end Go.Proofs.YtpanebgakndddaaGreat.Gt
namespace Go.Proofs.YtpanebgakndddaaGreat.Ta
open Go Go.RowKit Hp K Fl Rw Hm Ar Mm Me
set_option maxRecDepth 100000
abbrev zg (F:Nat):Value:=.func (.func F) #[] #[]
abbrev sG (F:Nat) (v:Value):Value:=.func (.func F) #[v] #[]
structure Ho where
 f:Nat
 worker:Int
 sum:Int
 nx:Nat
 num:Nat
 d:Nat×Nat
 lock:Nat
 holds:Bool
def rdv (nx f:Nat):Value:=if nx=2 then sG 199 (ptr f) else zg 171
def wo (nx f:Nat):Value:=if nx=1 then sG 172 (ptr f) else if nx=2 then sG 200 (ptr f) else if nx=3 then sG 218 (ptr f) else if nx=4 then sG 228 (ptr f) else zg 229
def C7 (H:Ho):Array Value:=#[.int .i64 H.worker,.int .u32 H.sum,rdv H.nx H.f,wo H.nx H.f,.int .u64 H.num,.int .i64 H.d.1,.int .i64 H.d.2,.int .i64 H.lock,.bool H.holds]
def cD (w:World) (H:Ho):Prop:=af w H.f 243 (C7 H)
def fB (s:Int) (d:Nat×Nat):Nat:=(1+FM.bucket s d.1 % 4).toNat
theorem Uk {s:Int} (d:Nat×Nat) (hs:0<=s):1+FM.bucket s d.1 % 4=((fB s d:Nat):Int):=by
 have:=qD s d.1 hs
 unfold fB
 omega
theorem wm {s:Int} (d:Nat×Nat) (hs:0<=s):1<=fB s d/\fB s d<=4:=by
 have:=qD s d.1 hs
 unfold fB
 omega
structure pN (M:Mo) (H:Ho):Prop where
 sum:0<=H.sum/\H.sum<4294967296
 wk:0<=H.worker/\H.worker<=9223372036854775807
 hl:4<M.hs.length
 xl:1<M.xs.length
 num:H.num<=18446744073709551615
 dn:(aN M.ds H.num).1<=65536
theorem pN.lb {M:Mo} {H:Ho} (h:pN M H):fB H.sum (aN M.ds H.num)<M.hs.length:=by
 have:=wm (aN M.ds H.num) h.sum.1
 have:=h.hl
 omega
section
variable {w w':World} {M:Mo} {H:Ho}
theorem cD.aA (h:cD w H) (hM:ah w M):¬ao M H.f:=fun hx=>(hM.ty hx).apart (aV h) (by decide)
theorem cD.only {S:Nat->Prop} (h:cD w H) (ho:ab S w w') (hn:¬S H.f):cD w' H:=af.only h ho hn
theorem cD.below (h:cD w H) (hb:Below w.heap.size w w'):cD w' H:=h.only (ab.aD hb (fun _=>False)) (by simp)
theorem cD.drewN (h:cD w H) (n:Nat):cD (w.drewN n) H:=h.only ((ab.refl (fun _=>False) w).drewN n) (by simp)
theorem cD.hd (h:cD w H):w.cell? ⟨H.f,0,none⟩=some (.int .i64 H.worker)/\w.cell? ⟨H.f,1,none⟩=some (.int .u32 H.sum)/\w.cell? ⟨H.f,2,none⟩=some (rdv H.nx H.f)/\w.cell? ⟨H.f,3,none⟩=some (wo H.nx H.f)/\
 w.cell? ⟨H.f,4,none⟩=some (.int .u64 H.num)/\w.cell? ⟨H.f,5,none⟩=some (.int .i64 H.d.1)/\w.cell? ⟨H.f,6,none⟩=some (.int .i64 H.d.2)/\w.cell? ⟨H.f,7,none⟩=some (.int .i64 H.lock)/\w.cell? ⟨H.f,8,none⟩=some (.bool H.holds):=
 ⟨h.cell 0,h.cell 1,h.cell 2,h.cell 3,h.cell 4,h.cell 5,h.cell 6,h.cell 7,h.cell 8⟩
end
theorem sf (m:Value) (w:World):Calls Tryz.prog 171 #[m] w fun e w'=>e=.returned (.bool true)/\w'=w:=by
 go_enter Tryz.func171,Tryz.ntmps171
 go_wp2
 go_ret
 exact ⟨rfl,rfl⟩
theorem C8 (m:Value) (w:World):Calls Tryz.prog 229 #[m] w fun e w'=>e=.returned (.bool true)/\w'=w:=by
 go_enter Tryz.func229,Tryz.ntmps229
 go_wp2
 go_ret
 exact ⟨rfl,rfl⟩
theorem ej {f F G:Nat} {a b:Array Value} {w:World} {u2 u3:Value} (c2:w.cell? ⟨f,2,none⟩=some u2) (c3:w.cell? ⟨f,3,none⟩=some u3) (z2:w.frozen? ⟨f,2,none⟩=false) (z3:w.frozen? ⟨f,3,none⟩=false):
 Calls Tryz.prog 170 #[ptr f,.func (.func F) a #[],.func (.func G) b #[]] w fun e w'=>e=.returned (.tuple #[])/\w'=(w.setCell ⟨f,2,none⟩ (.func (.func F) a #[])).setCell ⟨f,3,none⟩ (.func (.func G) b #[]):=by
 go_enter Tryz.func170,Tryz.ntmps170
 go_wp2
 go_end0
 exact ⟨rfl,rfl⟩
theorem Hq (k s:Int) (w:World):Calls Tryz.prog 139 #[.int .i64 k,.int .u32 s] w fun e w'=>e=.returned (ptr w.heap.size)/\cD w' ⟨w.heap.size,k,s,1,0,(0,0),0,false⟩/\Below w.heap.size w w':=by
 go_enter Tryz.func139,Tryz.ntmps139
 go_wp2_with fail
 refine (ej (u2:=.nilFunc) (u3:=.nilFunc) ((af.made w _ _).cell 2) ((af.made w _ _).cell 3) ((af.made w _ _).frozen 2) ((af.made w _ _).frozen 3)).mono ?_
 rintro e w1 ⟨rfl,hw⟩
 have hB:cD w1 ⟨w.heap.size,k,s,1,0,(0,0),0,false⟩:=by
  rw [hw]
  exact ((af.made w _ _).store 2 _).store 3 _
 have hb:Below w.heap.size w w1:=by
  rw [hw]
  exact (((Below.refl _ _).alloc (Nat.le_refl _) _).setCell (by simp) _).setCell (by simp) _
 replace hB:=Lib.hid hB
 replace hb:=Lib.hid hb
 clear hw
 go_wp2_with fail
 go_ret
 exact ⟨rfl,hB.out,hb.out⟩
section
variable {w:World} {M:Mo} {H:Ho}
theorem I3 (hM:ah w M) (hH:cD w H) (hn:H.num<=18446744073709551615):
 Calls Tryz.prog 217 #[ptr H.f,ptr M.m] w fun e w'=>e=.returned (dv (aN M.ds H.num))/\Below w.heap.size w w':=by
 obtain ⟨c0,c1,c2,c3,c4,c5,c6,c7,c8⟩:=hH.hd
 have hl:=uf hM.2.2.2.2.1
 have lM:=hM.1.lt
 have lf:=hH.lt
 by_cases hg:9223372036854775807<H.num
 ·rw [rT (by omega)]
  clear hM hH c0 c1 c2 c3 c5 c6 c7 c8
  generalize H.num=z at*
  generalize H.f=f at*
  go_enter Tryz.func217,Tryz.ntmps217
  go_wp2
  exact bodyPost_ret (v:=dv (0,0)) (by simp [results,Tryz.results217,go_sem,dv]) rfl ⟨rfl,by first | exact ((Below.refl _ _).alloc (Nat.le_refl _) _) | exact (((Below.refl _ _).alloc (Nat.le_refl _) _).setCell (by simp) _).setCell (by simp) _⟩
 ·have hD:Hid (∀ o,Calls Tryz.prog 187 #[ptr M.m,.int .i64 H.num] (w.alloc o) fun e w'=>∃ b,e=.returned (.tuple #[.agg #[.int .i64 (aN M.ds H.num).1,.int .i64 (aN M.ds H.num).2],.bool b])/\Below (w.alloc o).heap.size (w.alloc o) w'):=Lib.hid fun o=>by
   by_cases hi:H.num<M.ds.length
   ·exact (BS (hM.alloc o) H.num hi).mono fun e w' h=>⟨true,h⟩
   ·rw [rT (by omega)]
    exact (Rt (hM.alloc o) H.num (by omega) (by omega) (.inr (by omega))).mono fun e w' h=>⟨false,h⟩
  clear hM hH c0 c1 c2 c3 c5 c6 c7 c8
  have e1:IntKind.i64.wrap (H.num:Int)=H.num:=IntWalk.i64_in _ (by omega)
  generalize aN M.ds H.num=d at*
  generalize H.num=z at*
  generalize H.f=f at*
  go_enter Tryz.func217,Tryz.ntmps217
  go_wp2_with fail
  refine (hD.out _).mono ?_
  rintro e w1 ⟨b,rfl,hb⟩
  have aJ:af w1 w.heap.size 141 #[.int .i64 0,.int .i64 0]:=(af.made w _ _).only (ab.aD hb (fun _=>False)) (by simp)
  have k0:=aJ.cell 0
  have k1:=aJ.cell 1
  have z0:=aJ.frozen 0
  have z1:=aJ.frozen 1
  simp at k0 k1
  have bn:=aJ.lt
  have cN:Below w.heap.size w w1:=((Below.refl _ _).alloc (Nat.le_refl _) _).trans (hb.mono (by simp))
  replace cN:=Lib.hid cN
  clear hb aJ hD c4
  go_wp2_with fail
  exact bodyPost_ret (v:=dv d) (by simp [results,Tryz.results217,go_sem,dv,k0,k1,bn]) rfl ⟨rfl,((cN.out.setCell (by simp) _).setCell (by simp) _).alloc (by simp; omega) _⟩
end
end Go.Proofs.YtpanebgakndddaaGreat.Ta
namespace Go.Proofs.YtpanebgakndddaaGreat.Ta
open Go Go.RowKit Hp K Fl Rw Hm Ar Mm Me
set_option maxRecDepth 100000
theorem Cw (a b:Int) (w:World):(Instr.field 141 (.agg #[.int .i64 a,.int .i64 b]) 0).run Tryz.prog w=.ok (.int .i64 a) w:=by kernel_rfl
section
variable {w w':World} {M:Mo} {H:Ho}
theorem nG:∀ x,Cl.aS M.g M.A x->ao M x:=fun _ h=>.inr (.inl h)
theorem iq:∀ x,Lo.aS M.lg M.lb x->ao M x:=fun _ h=>.inr (.inr (.inl h))
theorem cD.kD {S:Nat->Prop} (h:cD w H) (hM:ah w M) (ho:ab S w w') (hS:∀ x,S x->ao M x):cD w' H:=h.only ho (fun hs=>h.aA hM (hS _ hs))
theorem I4 {s:Int} {d:Nat×Nat} (hs:0<=s/\s<4294967296) (hd:d.1<=65536) (w:World):Calls Tryz.prog 216 #[.int .u32 s,.int .i64 d.1] w fun e w'=>e=.returned (.int .i64 (fB s d))/\w=w':=by
 have h:=Rr s d.1 w hs.1 hs.2 (by omega) (by omega)
 rw [Uk d hs.1] at h
 exact h
def zh (M:Mo) (H:Ho):Bool:=decide (Lo.aE M.hs (fB H.sum (aN M.ds H.num))= -1)
set_option maxHeartbeats 1000000 in
theorem we (hM:ah w M) (hH:cD w H) (ok:pN M H):
 Calls Tryz.prog 199 #[ptr H.f,ptr M.m] w fun e w'=>e=.returned (.bool (zh M H))/\Below w.heap.size w w':=by
 obtain ⟨c0,c1,c2,c3,c4,c5,c6,c7,c8⟩:=hH.hd
 have d1:=hM.hd.2.1
 have lM:=hM.1.lt
 have lf:=hH.lt
 have hL:=Lib.hid (fun nq=>(I3 (hM.drewN nq) (hH.drewN nq) ok.num).mono fun e w2 h=>And.intro h.1 (show Below w.heap.size w w2 from (show Below w.heap.size w (w.drewN nq) from ⟨rfl,rfl,rfl,Nat.le_refl _,fun _ _=>rfl⟩).trans h.2))
 have hW:=Lib.hid (fun w=>I4 (d:=aN M.ds H.num) ok.sum ok.dn w)
 have hO:=Lib.hid (fun w' (hb:Below w.heap.size w w')=>Lo.tC (hM.below hb).2.2.1 _ ok.lb)
 have hk:=wm (aN M.ds H.num) ok.sum.1
 have hb:=Lo.yN hM.2.2.1.2.2.1 (fB H.sum (aN M.ds H.num))
 have hw:=ok.wk.1
 have DY:decide (0<=H.worker)=true:=by simpa using hw
 have K1:zh M H=decide (Lo.aE M.hs (fB H.sum (aN M.ds H.num))= -1):=rfl
 rw [K1]
 unfold dv at hL
 clear K1 hM hH ok c2 c3 c4 c5 c6 c7 c8
 generalize Lo.aE M.hs (fB H.sum (aN M.ds H.num))=z at*
 generalize fB H.sum (aN M.ds H.num)=k at*
 generalize aN M.ds H.num=d at*
 generalize H.f=f at*
 have bc:∀ w',Below w.heap.size w w'->w'.cell? ⟨M.m,1,none⟩=some (ptr M.lg)/\w'.cell? ⟨f,0,none⟩=some (.int .i64 H.worker)/\w'.cell? ⟨f,1,none⟩=some (.int .u32 H.sum):=fun w' hb=>by
  have h:=H2 hb
  exact ⟨(h.1 _ 1 lM).trans d1,(h.1 _ 0 lf).trans c0,(h.1 _ 1 lf).trans c1⟩
 replace bc:=Lib.hid bc
 have dn:=Cw
 go_enter Tryz.func199,Tryz.ntmps199
 go_wp2_with fail
 go_region_held3 (fun w'=>w'.cell? ⟨M.m,1,none⟩=some (ptr M.lg)/\w'.cell? ⟨f,0,none⟩=some (.int .i64 H.worker)/\w'.cell? ⟨f,1,none⟩=some (.int .u32 H.sum)) (go_keep)
  (first
    | (go_at_call 217
       refine (hL.out 1).mono ?_
       rintro e w2 ⟨rfl,au⟩
       obtain ⟨s1,s2,s3⟩:=bc.out w2 au
       have ae:=Lib.hid (hO.out w2 au)
       replace au:=Lib.hid au)
    | (go_at_call 216
       refine (hW.out _).mono ?_
       rintro e w3 ⟨rfl,rfl⟩)
    | (go_at_call 97
       refine ae.out.mono ?_
       rintro e w4 ⟨rfl,wO⟩
       obtain rfl:w2=w4:=wO.symm))
 all_goals
  go_wp2_with fail
  go_ret
  exact ⟨K.je (by simp [BEq.beq]),au.out⟩
theorem cD.si (h:af w H.f 243 (C7 H)) (n:Nat):af ((w.setCell ⟨H.f,2,none⟩ (rdv n H.f)).setCell ⟨H.f,3,none⟩ (wo n H.f)) H.f 243 (C7 {H with nx:=n}):=(h.store 2 _).store 3 _
theorem cD.cV (h:cD w H):w.frozen? ⟨H.f,2,none⟩=false/\w.frozen? ⟨H.f,3,none⟩=false/\w.frozen? ⟨H.f,4,none⟩=false/\w.frozen? ⟨H.f,5,none⟩=false/\w.frozen? ⟨H.f,6,none⟩=false/\w.frozen? ⟨H.f,7,none⟩=false/\w.frozen? ⟨H.f,8,none⟩=false:=
 ⟨h.frozen 2,h.frozen 3,h.frozen 4,h.frozen 5,h.frozen 6,h.frozen 7,h.frozen 8⟩
theorem wu (h:cD w H) {F G n:Nat} {a b:Array Value} (e1:rdv n H.f=.func (.func F) a #[]) (e2:wo n H.f=.func (.func G) b #[]):
 Calls Tryz.prog 170 #[ptr H.f,.func (.func F) a #[],.func (.func G) b #[]] w fun e w'=>e=.returned (.tuple #[])/\cD w' {H with nx:=n}/\ab (·=H.f) w w':=by
 refine (ej h.hd.2.2.1 h.hd.2.2.2.1 h.cV.1 h.cV.2.1).mono ?_
 rintro e w' ⟨rfl,rfl⟩
 refine ⟨rfl,?_,((ab.refl (·=H.f) w).setCell (.inl rfl) _).setCell (.inl rfl) _⟩
 have:=cD.si h n
 rw [e1,e2] at this
 exact this
theorem vD (hM:ah w M) (hH:cD w H) (hx:1<M.xs.length):
 Calls Tryz.prog 172 #[ptr H.f,ptr M.m] w fun e w'=>e=.returned (.bool false)/\cD w' {H with nx:=2,num:=(Cl.nth M.xs 1).toNat}/\ab (·=H.f) w w':=by
 have hL:=Lib.hid (Cl.mM hM.2.1 1 hx)
 have c4:=hH.hd.2.2.2.2.1
 have z4:=hH.cV.2.2.1
 have d0:=hM.hd.1
 have hv:=Cl.eX hM.2.1.2.2.1 1
 obtain ⟨z,hz⟩:=Int.eq_ofNat_of_zero_le hv.1
 rw [hz] at hL ⊢
 rw [Int.toNat_natCast]
 have HH:=Lib.hid hH
 clear hM hH hv hz
 go_enter Tryz.func172,Tryz.ntmps172
 go_wp2_with (go_at_call 90; refine hL.out.mono ?_; rintro e w' ⟨rfl,hw⟩; obtain rfl:w=w':=hw.symm)
 have hS:cD (w.setCell ⟨H.f,4,none⟩ (.int .u64 z)) {H with num:=z}:=af.store HH.out 4 _
 have iQ:=Lib.hid (((ab.refl (·=H.f) w).setCell (p:=⟨H.f,4,none⟩) (.inl rfl) (.int .u64 z)))
 refine (wu hS (n:=2) rfl rfl).mono ?_
 rintro e w2 ⟨rfl,ag,ae⟩
 replace ag:=Lib.hid ag
 replace ae:=Lib.hid ae
 clear hS
 go_wp2_with fail
 go_ret
 exact ⟨rfl,ag.out,iQ.out.trans ae.out⟩
end
end Go.Proofs.YtpanebgakndddaaGreat.Ta
namespace Go.Proofs.YtpanebgakndddaaGreat.Ta
open Go Go.RowKit Hp K Fl Rw Hm Ar Mm Me
set_option maxRecDepth 100000
section
variable {w w':World} {M:Mo} {H:Ho}
set_option maxHeartbeats 2000000 in
theorem CH (hM:ah w M) (hH:cD w H) (ok:pN M H) (hf:Lo.aE M.hs (fB H.sum (aN M.ds H.num))<0):
 Calls Tryz.prog 200 #[ptr H.f,ptr M.m] w fun e w'=>e=.returned (.bool false)/\ah w' {M with hs:=M.hs.set (fB H.sum (aN M.ds H.num)) H.worker}/\
  cD w' {H with nx:=3,d:=aN M.ds H.num,lock:=fB H.sum (aN M.ds H.num)}/\ab (fun x=>ao M x\/x=H.f) w w':=by
 obtain ⟨c0,c1,c2,c3,c4,c5,c6,c7,c8⟩:=hH.hd
 have d1:=hM.hd.2.1
 have lM:=hM.1.lt
 have lf:=hH.lt
 have hL:=Lib.hid (I3 hM hH ok.num)
 have hW:=Lib.hid (fun w=>I4 (d:=aN M.ds H.num) ok.sum ok.dn w)
 have hk:=wm (aN M.ds H.num) ok.sum.1
 have hT:=Lib.hid (fun w' (hb:Below w.heap.size w w') nq=>Lo.vi ((hM.below hb).drewN nq).2.2.1 _ ok.lb H.worker ok.wk.1 ok.wk.2 hf)
 have HM:=Lib.hid hM
 have HH:=Lib.hid hH
 have bc:∀ w',Below w.heap.size w w'->w'.cell? ⟨M.m,1,none⟩=some (ptr M.lg)/\w'.cell? ⟨H.f,0,none⟩=some (.int .i64 H.worker)/\w'.cell? ⟨H.f,1,none⟩=some (.int .u32 H.sum):=fun w' hb=>by
  have h:=H2 hb
  exact ⟨(h.1 _ 1 lM).trans d1,(h.1 _ 0 lf).trans c0,(h.1 _ 1 lf).trans c1⟩
 replace bc:=Lib.hid bc
 unfold dv at hL
 clear hM hH ok hf c0 c1 c2 c3 c4 c5 c6 c7 c8 d1
 generalize cm:fB H.sum (aN M.ds H.num)=k at*
 generalize xP:aN M.ds H.num=d at*
 replace cm:=Lib.hid cm
 replace xP:=Lib.hid xP
 go_enter Tryz.func200,Tryz.ntmps200
 go_wp2_with fail
 refine hL.out.mono ?_
 rintro e w1 ⟨rfl,ax⟩
 have cO:=ax.size
 obtain ⟨s1,s2,s3⟩:=bc.out w1 ax
 replace ax:=Lib.hid ax
 have lM1:M.m<w1.heap.size:=by omega
 have lf1:H.f<w1.heap.size:=by omega
 clear hL
 go_wp2_with fail
 obtain ⟨b,o6⟩:∃ b,b=w1.heap.size:=⟨_,rfl⟩
 rw [<-o6]
 have hB:af (w1.alloc (.cells #[.int .i64 d.1,.int .i64 d.2] 141)) b 141 #[.int .i64 d.1,.int .i64 d.2]:=by rw [o6]; exact af.made w1 _ _
 have au:=ax.out.alloc (o:=.cells #[.int .i64 d.1,.int .i64 d.2] 141) cO
 generalize w1.alloc (.cells #[.int .i64 d.1,.int .i64 d.2] 141)=w2 at*
 replace o6:=Lib.hid o6
 clear s1 s2 s3
 obtain ⟨s1,s2,s3⟩:=bc.out w2 au
 have k0:=hB.cell 0
 have k1:=hB.cell 1
 simp at k0 k1
 have XI:=au.size
 have lb:=hB.lt
 replace hB:=Lib.hid hB
 replace au:=Lib.hid au
 have dn:=Cw
 go_quiet ((go_at_call 216; exact Calls.quiet_of_same ((hW.out _).mono fun _ _ h=>⟨h.1,h.2.symm⟩)))
 obtain ⟨w3,dU⟩:∃ w3,w3=w2.drewN nq:=⟨_,rfl⟩
 have ay:af w3 b 141 #[.int .i64 d.1,.int .i64 d.2]:=by rw [dU]; exact hB.out
 have ba:Below w.heap.size w w3:=by rw [dU]; exact au.out.trans ⟨rfl,rfl,rfl,Nat.le_refl _,fun _ _=>rfl⟩
 rw [<-dU]
 replace dU:=Lib.hid dU
 clear s1 s2 s3 k0 k1
 obtain ⟨s1,s2,s3⟩:=bc.out w3 ba
 have WY:=Lib.hid (hT.out w3 ba 1)
 have WZ:=Lib.hid (fun w4 (hL:Lo.gF w4 M.lg M.lb (M.hs.set k H.worker)) (hO:ab (Lo.aS M.lg M.lb) (w3.drewN 1) w4)=>by
  have qW:ab (Lo.aS M.lg M.lb) w3 w4:=((ab.refl (Lo.aS M.lg M.lb) w3).drewN 1).trans hO
  have br:=HM.out.below ba
  have tj:=HH.out.below ba
  exact (⟨br.mf hL qW,tj.kD br qW iq,af.only ay qW (fun hx=>(qM br.2.2.1 hx).apart (aV ay) (by decide)),(ab.aD ba (fun x=>ao M x\/x=H.f)).trans (qW.mono (fun x _ q=>.inl (iq _ q)))⟩:
   ah w4 {M with hs:=M.hs.set k H.worker}/\cD w4 H/\af w4 b 141 #[.int .i64 d.1,.int .i64 d.2]/\ab (fun x=>ao M x\/x=H.f) w w4))
 replace ay:=Lib.hid ay
 replace ba:=Lib.hid ba
 clear hB au hT hW
 go_wp2_with fail
 go_region_held3 (fun w'=>w'.cell? ⟨M.m,1,none⟩=some (ptr M.lg)/\w'.cell? ⟨H.f,0,none⟩=some (.int .i64 H.worker)) (go_keep)
  (first
    | (go_at_call 103
       refine WY.out.mono ?_
       rintro e w4 ⟨rfl,K2,aM⟩
       obtain ⟨dM,jF,az,EN⟩:=WZ.out w4 K2 aM
       have t1:=dM.hd.2.1
       have t2:=jF.hd.1
       have t5:=jF.hd.2.2.2.2.2.1
       have t6:=jF.hd.2.2.2.2.2.2.1
       have t7:=jF.hd.2.2.2.2.2.2.2.1
       obtain ⟨_,_,_,y5,y6,y7,_⟩:=jF.cV
       have k0:=az.cell 0
       have k1:=az.cell 1
       simp at t1 k0 k1
       replace dM:=Lib.hid dM
       replace jF:=Lib.hid jF
       replace az:=Lib.hid az
       replace EN:=Lib.hid EN
       clear K2 aM))
 all_goals
  go_wp2_with fail
  have hS:cD (((w4.setCell ⟨H.f,5,none⟩ (.int .i64 d.1)).setCell ⟨H.f,6,none⟩ (.int .i64 d.2)).setCell ⟨H.f,7,none⟩ (.int .i64 k)) {H with d:=d,lock:=k}:=((jF.out.store 5 _).store 6 _).store 7 _
  have fh:=Lib.hid ((((EN.out.setCell (p:=⟨H.f,5,none⟩) (.inl (.inr rfl)) (.int .i64 d.1)).setCell (p:=⟨H.f,6,none⟩) (.inl (.inr rfl)) (.int .i64 d.2))).setCell (p:=⟨H.f,7,none⟩) (.inl (.inr rfl)) (.int .i64 k))
  have cX:=dM.out.only (((((ab.refl (·=H.f) w4).setCell (p:=⟨H.f,5,none⟩) (.inl rfl) (.int .i64 d.1)).setCell (p:=⟨H.f,6,none⟩) (.inl rfl) (.int .i64 d.2))).setCell (p:=⟨H.f,7,none⟩) (.inl rfl) (.int .i64 k)) (fun x hx q=>by subst q; exact jF.out.aA dM.out hx)
  refine (wu hS (n:=3) rfl rfl).mono ?_
  rintro e w5 ⟨rfl,uU,bJ⟩
  have ia:=Lib.hid (cX.only bJ (fun x hx q=>by subst q; exact hS.aA cX hx))
  replace uU:=Lib.hid uU
  have W1:=Lib.hid (fh.out.trans (bJ.mono (fun x _ q=>.inr q)))
  clear hS cX bJ t1 t2 t5 t6 t7 y5 y6 y7 k0 k1 s1 s2 s3
  go_wp2_with fail
  go_ret
  exact ⟨rfl,ia.out,uU.out,W1.out⟩
end
end Go.Proofs.YtpanebgakndddaaGreat.Ta
namespace Go.Proofs.YtpanebgakndddaaGreat.Ta
open Go Go.RowKit Hp K Fl Rw Hm Ar Mm Me
set_option maxRecDepth 100000
section
variable {w w':World} {M:Mo} {H:Ho}
theorem Ul (hM:ah w M) (hH:cD w H) (hx:1<M.xs.length) (he:Cl.nth M.xs 1=H.num):
 Calls Tryz.prog 218 #[ptr H.f,ptr M.m] w fun e w'=>e=.returned (.bool true)/\cD w' {H with nx:=5,holds:=true}/\ab (·=H.f) w w':=by
 have hL:=Lib.hid (Cl.mM hM.2.1 1 hx)
 rw [he] at hL
 have c4:=hH.hd.2.2.2.2.1
 have c8:=hH.hd.2.2.2.2.2.2.2.2
 have z8:=hH.cV.2.2.2.2.2.2
 have d0:=hM.hd.1
 have HH:=Lib.hid hH
 clear hM hH he
 go_enter Tryz.func218,Tryz.ntmps218
 go_wp2_with (go_at_call 90; refine hL.out.mono ?_; rintro e w' ⟨rfl,hw⟩; obtain rfl:w=w':=hw.symm)
 have hS:cD (w.setCell ⟨H.f,8,none⟩ (.bool true)) {H with holds:=true}:=af.store HH.out 8 _
 have iQ:=Lib.hid (((ab.refl (·=H.f) w).setCell (p:=⟨H.f,8,none⟩) (.inl rfl) (.bool true)))
 refine (wu hS (n:=5) rfl rfl).mono ?_
 rintro e w2 ⟨rfl,ag,ae⟩
 replace ag:=Lib.hid ag
 replace ae:=Lib.hid ae
 clear hS
 go_wp2_with fail
 go_ret
 exact ⟨rfl,ag.out,iQ.out.trans ae.out⟩
theorem Um (hM:ah w M) (hH:cD w H) (hx:1<M.xs.length) (he:Cl.nth M.xs 1≠H.num):
 Calls Tryz.prog 218 #[ptr H.f,ptr M.m] w fun e w'=>e=.returned (.bool false)/\cD w' {H with nx:=4}/\ab (·=H.f) w w':=by
 have hL:=Lib.hid (Cl.mM hM.2.1 1 hx)
 have c4:=hH.hd.2.2.2.2.1
 have d0:=hM.hd.1
 have HH:=Lib.hid hH
 have aH:(Cl.nth M.xs 1 != (H.num:Int))=true:=by simpa using he
 clear hM hH he
 generalize Cl.nth M.xs 1=z at*
 go_enter Tryz.func218,Tryz.ntmps218
 go_wp2_with (go_at_call 90; refine hL.out.mono ?_; rintro e w' ⟨rfl,hw⟩; obtain rfl:w=w':=hw.symm)
 refine (wu HH.out (n:=4) rfl rfl).mono ?_
 rintro e w2 ⟨rfl,ag,ae⟩
 replace ag:=Lib.hid ag
 replace ae:=Lib.hid ae
 go_wp2_with fail
 go_ret
 exact ⟨rfl,ag.out,ae.out⟩
set_option maxHeartbeats 1000000 in
theorem Un (hM:ah w M) (hH:cD w H) (ok:pN M H) (hl:H.lock<M.hs.length) (hh:Lo.aE M.hs H.lock=H.worker):
 Calls Tryz.prog 228 #[ptr H.f,ptr M.m] w fun e w'=>e=.returned (.bool false)/\ah w' {M with hs:=M.hs.set H.lock (-1)}/\cD w' {H with nx:=1}/\ab (fun x=>ao M x\/x=H.f) w w':=by
 have hT:=Lib.hid (fun nq=>Lo.vZ (hM.drewN nq).2.2.1 H.lock hl H.worker ok.wk.1 hh)
 have c0:=hH.hd.1
 have c7:=hH.hd.2.2.2.2.2.2.2.1
 have d1:=hM.hd.2.1
 have HM:=Lib.hid hM
 have HH:=Lib.hid hH
 have lM:=hM.1.lt
 have lf:=hH.lt
 clear hM hH ok hl hh
 go_enter Tryz.func228,Tryz.ntmps228
 go_wp2_with fail
 go_region_held3 (fun w'=>w'.cell? ⟨M.m,1,none⟩=some (ptr M.lg)/\w'.cell? ⟨H.f,0,none⟩=some (.int .i64 H.worker)/\w'.cell? ⟨H.f,7,none⟩=some (.int .i64 H.lock)) (go_keep)
  (first
    | (go_at_call 166
       refine (hT.out 1).mono ?_
       rintro e w2 ⟨rfl,fu,ae⟩
       have bG:=((ab.refl (Lo.aS M.lg M.lb) w).drewN 1).trans ae
       have aB:=HM.out.mf fu bG
       have iO:=HH.out.kD HM.out bG iq
       have s1:=aB.hd.2.1
       have s2:=iO.hd.1
       have s3:=iO.hd.2.2.2.2.2.2.2.1
       simp at s1
       replace bG:=Lib.hid bG
       replace aB:=Lib.hid aB
       replace iO:=Lib.hid iO
       clear fu ae))
 all_goals
  go_wp2_with fail
  refine (wu iO.out (n:=1) rfl rfl).mono ?_
  rintro e w3 ⟨rfl,ay,aq⟩
  have br:=Lib.hid (aB.out.only aq (fun x hx q=>by subst q; exact iO.out.aA aB.out hx))
  have fN:=Lib.hid ((bG.out.mono (fun x _ q=>(.inl (iq _ q):ao M x\/x=H.f))).trans (aq.mono (fun x _ q=>.inr q)))
  replace ay:=Lib.hid ay
  clear aq s1 s2 s3
  go_wp2_with fail
  go_ret
  exact ⟨rfl,br.out,ay.out,fN.out⟩
set_option maxHeartbeats 1000000 in
theorem Hs (hM:ah w M) (hH:cD w H) (ok:pN M H) (hl:H.lock<M.hs.length) (hh:Lo.aE M.hs H.lock=H.worker) (hs:H.holds=true):
 Calls Tryz.prog 149 #[ptr H.f,ptr M.m] w fun e w'=>e=.returned (.bool true)/\ah w' {M with hs:=M.hs.set H.lock (-1)}/\cD w' {H with holds:=false}/\ab (fun x=>ao M x\/x=H.f) w w':=by
 have c0:=hH.hd.1
 have c7:=hH.hd.2.2.2.2.2.2.2.1
 have c8:=hH.hd.2.2.2.2.2.2.2.2
 rw [hs] at c8
 have z8:=hH.cV.2.2.2.2.2.2
 have d1:=hM.hd.2.1
 have lM:=hM.1.lt
 have lf:=hH.lt
 have hS:cD (w.setCell ⟨H.f,8,none⟩ (.bool false)) {H with holds:=false}:=af.store hH 8 _
 have fh:=(ab.refl (·=H.f) w).setCell (p:=⟨H.f,8,none⟩) (.inl rfl) (.bool false)
 have cX:=hM.only fh (fun x hx q=>by subst q; exact hH.aA hM hx)
 replace fh:=Lib.hid fh
 have hT:=Lib.hid (fun nq=>Lo.vZ (cX.drewN nq).2.2.1 H.lock hl H.worker ok.wk.1 hh)
 have aH:M.m≠H.f:=fun e=>hH.aA hM (.inl e.symm)
 replace cX:=Lib.hid cX
 replace hS:=Lib.hid hS
 clear hM hH ok hl hh hs
 go_enter Tryz.func149,Tryz.ntmps149
 go_upto_region 4 with (fail)
 clear c0 c7 c8 z8 d1 aH
 generalize w.setCell ⟨H.f,8,none⟩ (.bool false)=w1 at*
 have c0:=hS.out.hd.1
 have c7:=hS.out.hd.2.2.2.2.2.2.2.1
 have d1:=cX.out.hd.2.1
 simp only at c0 c7
 have DG:=cX.out.1.lt
 have J7:H.f<w1.heap.size:=hS.out.lt
 go_wp2_with fail
 go_region_held3 (fun w'=>w'.cell? ⟨M.m,1,none⟩=some (ptr M.lg)/\w'.cell? ⟨H.f,0,none⟩=some (.int .i64 H.worker)/\w'.cell? ⟨H.f,7,none⟩=some (.int .i64 H.lock)) (go_keep)
  (first
    | (go_at_call 166
       refine (hT.out 1).mono ?_
       rintro e w2 ⟨rfl,fu,ae⟩
       have bG:=((ab.refl (Lo.aS M.lg M.lb) w1).drewN 1).trans ae
       have aB:=cX.out.mf fu bG
       have iO:=hS.out.kD cX.out bG iq
       have s1:=aB.hd.2.1
       have s2:=iO.hd.1
       have s3:=iO.hd.2.2.2.2.2.2.2.1
       simp at s1 s2 s3
       replace bG:=Lib.hid bG
       replace aB:=Lib.hid aB
       replace iO:=Lib.hid iO
       clear fu ae))
 all_goals
  have fN:=Lib.hid ((fh.out.mono (fun x _ q=>(.inr q:ao M x\/x=H.f))).trans (bG.out.mono (fun x _ q=>.inl (iq _ q))))
  go_wp2_with fail
  go_ret
  exact ⟨rfl,aB.out,iO.out,fN.out⟩
theorem QC (hH:cD w H):Calls Tryz.prog 147 #[ptr H.f] w fun e w'=>e=.returned (.int .i64 (if H.holds=true then (H.lock:Int) else-1))/\w'=w:=by
 have c7:=hH.hd.2.2.2.2.2.2.2.1
 have c8:=hH.hd.2.2.2.2.2.2.2.2
 clear hH
 generalize H.lock=k at*
 cases hs:H.holds with
 | true=>
   rw [hs] at c8
   go_enter Tryz.func147,Tryz.ntmps147
   go_wp2
   go_ret
   exact ⟨rfl,rfl⟩
 | false=>
   rw [hs] at c8
   go_enter Tryz.func147,Tryz.ntmps147
   go_wp2
   go_ret
   exact ⟨rfl,rfl⟩
theorem Hr (hH:cD w H):Calls Tryz.prog 148 #[ptr H.f] w fun e w'=>e=.returned (dv (if H.holds=true then H.d else (0,0)))/\Below w.heap.size w w':=by
 have c5:=hH.hd.2.2.2.2.2.1
 have c6:=hH.hd.2.2.2.2.2.2.1
 have c8:=hH.hd.2.2.2.2.2.2.2.2
 have lf:=hH.lt
 clear hH
 generalize H.d=d at*
 cases hs:H.holds with
 | true=>
   rw [hs] at c8
   go_enter Tryz.func148,Tryz.ntmps148
   go_wp2
   exact bodyPost_ret (v:=dv d) (by simp [results,Tryz.results148,go_sem,dv]) rfl ⟨rfl,by first | exact ((Below.refl _ _).alloc (Nat.le_refl _) _) | exact (((Below.refl _ _).alloc (Nat.le_refl _) _).setCell (by simp) _).setCell (by simp) _⟩
 | false=>
   rw [hs] at c8
   go_enter Tryz.func148,Tryz.ntmps148
   go_wp2
   exact bodyPost_ret (v:=dv (0,0)) (by simp [results,Tryz.results148,go_sem,dv]) rfl ⟨rfl,by first | exact ((Below.refl _ _).alloc (Nat.le_refl _) _) | exact (((Below.refl _ _).alloc (Nat.le_refl _) _).setCell (by simp) _).setCell (by simp) _⟩
/-! ### what comes next-/
theorem Uo (args:Array Value) (w:World):(callFunc 199 args).run Tryz.prog w=.ok (.enter 199 args) w:=by kernel_rfl
theorem Uq (args:Array Value) (w:World):(callFunc 171 args).run Tryz.prog w=.ok (.enter 171 args) w:=by kernel_rfl
theorem C9 (args:Array Value) (w:World):(callFunc 229 args).run Tryz.prog w=.ok (.enter 229 args) w:=by kernel_rfl
theorem Da (args:Array Value) (w:World):(callFunc 172 args).run Tryz.prog w=.ok (.enter 172 args) w:=by kernel_rfl
theorem Ur (args:Array Value) (w:World):(callFunc 200 args).run Tryz.prog w=.ok (.enter 200 args) w:=by kernel_rfl
theorem I5 (args:Array Value) (w:World):(callFunc 218 args).run Tryz.prog w=.ok (.enter 218 args) w:=by kernel_rfl
theorem Us (args:Array Value) (w:World):(callFunc 228 args).run Tryz.prog w=.ok (.enter 228 args) w:=by kernel_rfl
theorem mg {F f:Nat} {cv m:Value} {c:Bool} {P:World->Prop} (c3:w.cell? ⟨f,3,none⟩=some (sG F cv)) (eF:∀ args w,(callFunc F args).run Tryz.prog w=.ok (.enter F args) w)
 (hF:Calls Tryz.prog F #[cv,m] w fun e w'=>e=.returned (.bool c)/\P w'):Calls Tryz.prog 173 #[ptr f,m] w fun e w'=>e=.returned (.bool c)/\P w':=by
 replace hF:=Lib.hid hF
 go_enter Tryz.func173,Tryz.ntmps173
 go_wp2_with fail
 refine hF.out.mono ?_
 rintro e w' ⟨rfl,bj⟩
 replace bj:=Lib.hid bj
 clear c3
 go_wp2_with fail
 go_ret
 exact ⟨rfl,bj.out⟩
theorem Ut {F f:Nat} {m:Value} {c:Bool} {P:World->Prop} (c3:w.cell? ⟨f,3,none⟩=some (zg F)) (eF:∀ args w,(callFunc F args).run Tryz.prog w=.ok (.enter F args) w)
 (hF:Calls Tryz.prog F #[m] w fun e w'=>e=.returned (.bool c)/\P w'):Calls Tryz.prog 173 #[ptr f,m] w fun e w'=>e=.returned (.bool c)/\P w':=by
 replace hF:=Lib.hid hF
 go_enter Tryz.func173,Tryz.ntmps173
 go_wp2_with fail
 refine hF.out.mono ?_
 rintro e w' ⟨rfl,bj⟩
 replace bj:=Lib.hid bj
 clear c3
 go_wp2_with fail
 go_ret
 exact ⟨rfl,bj.out⟩
theorem CX {F f:Nat} {cv m:Value} {c:Bool} {P:World->Prop} (c3:w.cell? ⟨f,2,none⟩=some (sG F cv)) (eF:∀ args w,(callFunc F args).run Tryz.prog w=.ok (.enter F args) w)
 (hF:Calls Tryz.prog F #[cv,m] w fun e w'=>e=.returned (.bool c)/\P w'):Calls Tryz.prog 141 #[ptr f,m] w fun e w'=>e=.returned (.bool c)/\P w':=by
 replace hF:=Lib.hid hF
 go_enter Tryz.func141,Tryz.ntmps141
 go_wp2_with fail
 refine hF.out.mono ?_
 rintro e w' ⟨rfl,bj⟩
 replace bj:=Lib.hid bj
 clear c3
 go_wp2_with fail
 go_ret
 exact ⟨rfl,bj.out⟩
theorem CW {F f:Nat} {m:Value} {c:Bool} {P:World->Prop} (c3:w.cell? ⟨f,2,none⟩=some (zg F)) (eF:∀ args w,(callFunc F args).run Tryz.prog w=.ok (.enter F args) w)
 (hF:Calls Tryz.prog F #[m] w fun e w'=>e=.returned (.bool c)/\P w'):Calls Tryz.prog 141 #[ptr f,m] w fun e w'=>e=.returned (.bool c)/\P w':=by
 replace hF:=Lib.hid hF
 go_enter Tryz.func141,Tryz.ntmps141
 go_wp2_with fail
 refine hF.out.mono ?_
 rintro e w' ⟨rfl,bj⟩
 replace bj:=Lib.hid bj
 clear c3
 go_wp2_with fail
 go_ret
 exact ⟨rfl,bj.out⟩
/-! ### a step,whole-/
def wA (M:Mo) (H:Ho):Bool:=if H.nx=2 then zh M H else true
def kG (M:Mo) (H:Ho):Mo×Ho:=
 if H.nx=1 then (M,{H with nx:=2,num:=(Cl.nth M.xs 1).toNat})
 else if H.nx=2 then ({M with hs:=M.hs.set (fB H.sum (aN M.ds H.num)) H.worker},{H with nx:=3,d:=aN M.ds H.num,lock:=fB H.sum (aN M.ds H.num)})
 else if H.nx=3 then (if Cl.nth M.xs 1=H.num then (M,{H with nx:=5,holds:=true}) else (M,{H with nx:=4}))
 else if H.nx=4 then ({M with hs:=M.hs.set H.lock (-1)},{H with nx:=1})
 else (M,H)
def lD (M:Mo) (H:Ho):Bool:=decide (H.nx=3/\Cl.nth M.xs 1=H.num\/5<=H.nx)
def Own (M:Mo) (H:Ho):Prop:=(H.nx=3\/H.nx=4\/H.holds=true)->H.lock<M.hs.length/\Lo.aE M.hs H.lock=H.worker
theorem II (hM:ah w M) (hH:cD w H) (ok:pN M H):
 Calls Tryz.prog 141 #[ptr H.f,ptr M.m] w fun e w'=>e=.returned (.bool (wA M H))/\Below w.heap.size w w':=by
 have c2:=hH.hd.2.2.1
 unfold rdv at c2
 unfold wA
 split
 ·rename_i h
  rw [if_pos h] at c2
  exact CX c2 Uo (we hM hH ok)
 ·rename_i h
  rw [if_neg h] at c2
  exact CW c2 Uq ((sf _ w).mono fun e w' q=>⟨q.1,q.2▸Below.refl _ _⟩)
theorem IG (hM:ah w M) (hH:cD w H) (ok:pN M H) (ow:Own M H) (h1:1<=H.nx) (hr:wA M H=true):
 Calls Tryz.prog 173 #[ptr H.f,ptr M.m] w fun e w'=>e=.returned (.bool (lD M H))/\ah w' (kG M H).1/\cD w' (kG M H).2/\ab (fun x=>ao M x\/x=H.f) w w':=by
 have c3:=hH.hd.2.2.2.1
 unfold wo at c3
 have up:∀ w',ab (·=H.f) w w'->ah w' M/\ab (fun x=>ao M x\/x=H.f) w w':=fun w' ho=>⟨hM.only ho (fun x hx q=>by subst q; exact hH.aA hM hx),ho.mono (fun x _ q=>.inr q)⟩
 by_cases e1:H.nx=1
 ·have hd:lD M H=false:=by unfold lD; simp; omega
  have hs:kG M H=(M,{H with nx:=2,num:=(Cl.nth M.xs 1).toNat}):=by unfold kG; rw [if_pos e1]
  rw [if_pos e1] at c3
  rw [hd,hs]
  exact mg c3 Da ((vD hM hH ok.xl).mono fun e w' q=>⟨q.1,(up w' q.2.2).1,q.2.1,(up w' q.2.2).2⟩)
 ·rw [if_neg e1] at c3
  by_cases e2:H.nx=2
  ·have hd:lD M H=false:=by unfold lD; simp; omega
   have hs:kG M H=({M with hs:=M.hs.set (fB H.sum (aN M.ds H.num)) H.worker},{H with nx:=3,d:=aN M.ds H.num,lock:=fB H.sum (aN M.ds H.num)}):=by unfold kG; rw [if_neg e1,if_pos e2]
   rw [if_pos e2] at c3
   rw [hd,hs]
   refine mg c3 Ur (CH hM hH ok ?_)
   unfold wA at hr
   rw [if_pos e2] at hr
   unfold zh at hr
   have:=of_decide_eq_true hr
   omega
  ·rw [if_neg e2] at c3
   by_cases e3:H.nx=3
   ·rw [if_pos e3] at c3
    by_cases he:Cl.nth M.xs 1=H.num
    ·have hd:lD M H=true:=by unfold lD; simp [e3,he]
     have hs:kG M H=(M,{H with nx:=5,holds:=true}):=by unfold kG; rw [if_neg e1,if_neg e2,if_pos e3,if_pos he]
     rw [hd,hs]
     exact mg c3 I5 ((Ul hM hH ok.xl he).mono fun e w' q=>⟨q.1,(up w' q.2.2).1,q.2.1,(up w' q.2.2).2⟩)
    ·have hd:lD M H=false:=by unfold lD; simp [e3,he]
     have hs:kG M H=(M,{H with nx:=4}):=by unfold kG; rw [if_neg e1,if_neg e2,if_pos e3,if_neg he]
     rw [hd,hs]
     exact mg c3 I5 ((Um hM hH ok.xl he).mono fun e w' q=>⟨q.1,(up w' q.2.2).1,q.2.1,(up w' q.2.2).2⟩)
   ·rw [if_neg e3] at c3
    by_cases e4:H.nx=4
    ·have hd:lD M H=false:=by unfold lD; simp; omega
     have hs:kG M H=({M with hs:=M.hs.set H.lock (-1)},{H with nx:=1}):=by unfold kG; rw [if_neg e1,if_neg e2,if_neg e3,if_pos e4]
     rw [if_pos e4] at c3
     rw [hd,hs]
     obtain ⟨o1,o2⟩:=ow (.inr (.inl e4))
     exact mg c3 Us (Un hM hH ok o1 o2)
    ·have hd:lD M H=true:=by unfold lD; simp; omega
     have hs:kG M H=(M,H):=by unfold kG; rw [if_neg e1,if_neg e2,if_neg e3,if_neg e4]
     rw [if_neg e4] at c3
     rw [hd,hs]
     exact Ut c3 C9 ((C8 _ w).mono fun e w' q=>⟨q.1,by rw [q.2]; exact ⟨hM,hH,ab.refl _ _⟩⟩)
end
end Go.Proofs.YtpanebgakndddaaGreat.Ta
namespace Go.Proofs.YtpanebgakndddaaGreat.Ta
open Go Go.RowKit Hp K Fl Rw Hm Ar Mm Me
set_option maxRecDepth 100000
theorem Uu (a:Addr) (w:World) (f:Nat):(method (f+1) 223 (.pointer (some a)) "Ready").run Tryz.prog w=.ok (141,.pointer (some a)) w:=by kernel_rfl
theorem Uv (a:Addr) (w:World) (f:Nat):(method (f+1) 223 (.pointer (some a)) "Step").run Tryz.prog w=.ok (173,.pointer (some a)) w:=by kernel_rfl
theorem Uw (args:Array Value) (w:World):(callFunc 141 args).run Tryz.prog w=.ok (.enter 141 args) w:=by kernel_rfl
theorem Ux (args:Array Value) (w:World):(callFunc 173 args).run Tryz.prog w=.ok (.enter 173 args) w:=by kernel_rfl
def lC (ds:List (Nat×Nat)) (s:List Int×Ho):Bool:=if s.2.nx=2 then decide (Lo.aE s.1 (fB s.2.sum (aN ds s.2.num))= -1) else true
def dw (xs:List Int) (ds:List (Nat×Nat)) (s:List Int×Ho):List Int×Ho:=
 if s.2.nx=1 then (s.1,{s.2 with nx:=2,num:=(Cl.nth xs 1).toNat})
 else if s.2.nx=2 then (s.1.set (fB s.2.sum (aN ds s.2.num)) s.2.worker,{s.2 with nx:=3,d:=aN ds s.2.num,lock:=fB s.2.sum (aN ds s.2.num)})
 else if s.2.nx=3 then (if Cl.nth xs 1=s.2.num then (s.1,{s.2 with nx:=5,holds:=true}) else (s.1,{s.2 with nx:=4}))
 else if s.2.nx=4 then (s.1.set s.2.lock (-1),{s.2 with nx:=1})
 else s
def iK (xs:List Int) (s:List Int×Ho):Bool:=decide (s.2.nx=3/\Cl.nth xs 1=s.2.num\/5<=s.2.nx)
theorem TL (M:Mo) (H:Ho):wA M H=lC M.ds (M.hs,H):=rfl
theorem TE (M:Mo) (H:Ho):lD M H=iK M.xs (M.hs,H):=rfl
theorem IH (M:Mo) (H:Ho):kG M H=({M with hs:=(dw M.xs M.ds (M.hs,H)).1},(dw M.xs M.ds (M.hs,H)).2):=by
 unfold kG dw
 by_cases e1:H.nx=1
 ·simp [e1]
 ·by_cases e2:H.nx=2
  ·simp [e2]
  ·by_cases e3:H.nx=3
   ·by_cases he:Cl.nth M.xs 1=H.num<;>simp [e3,he]
   ·by_cases e4:H.nx=4
    ·simp [e4]
    ·simp [e1,e2,e3,e4]
theorem qO {hs:List Int} {j:Nat} (hj:j<hs.length) (v:Int) (i:Nat):Lo.aE (hs.set j v) i=if i=j then v else Lo.aE hs i:=by
 unfold Lo.aE List.getD
 rw [List.getElem?_set]
 by_cases e:j=i
 ·subst e; simp [hj]
 ·rw [if_neg e,if_neg (fun q=>e q.symm)]
structure ig (xs:List Int) (ds:List (Nat×Nat)) (s:List Int×Ho):Prop where
 sum:0<=s.2.sum/\s.2.sum<4294967296
 wk:0<=s.2.worker/\s.2.worker<=9223372036854775807
 hl:4<s.1.length
 xl:1<xs.length
 num:s.2.num<=18446744073709551615
 x1:0<=Cl.nth xs 1/\Cl.nth xs 1<=18446744073709551615
 dn:∀ i,(aN ds i).1<=65536
 nx:1<=s.2.nx
 own:(s.2.nx=3\/s.2.nx=4\/s.2.holds=true)->s.2.lock<s.1.length/\Lo.aE s.1 s.2.lock=s.2.worker
 aE:s.2.holds=true->5<=s.2.nx
section
variable {w w':World} {M:Mo} {H:Ho}
theorem ig.step {xs:List Int} {ds:List (Nat×Nat)} {s:List Int×Ho} (h:ig xs ds s) (hr:lC ds s=true) (hd:iK xs s=false):ig xs ds (dw xs ds s):=by
 obtain ⟨hs,H⟩:=s
 obtain ⟨h1,h2,h3,h4,h5,h6,h7,h8,h9,ng⟩:=h
 simp only at h1 h2 h3 h4 h5 h6 h7 h8 h9 ng
 unfold dw
 unfold iK at hd
 simp only at hd ⊢
 by_cases e1:H.nx=1
 ·rw [if_pos e1]
  exact ⟨h1,h2,h3,h4,by simp only; omega,h6,h7,by simp,by
   rintro (q | q | q)
   ·simp at q
   ·simp at q
   ·have:=ng q; omega,fun q=>by have:=ng q; omega⟩
 ·by_cases e2:H.nx=2
  ·rw [if_neg e1,if_pos e2]
   have hk:=wm (aN ds H.num) h1.1
   refine ⟨h1,h2,by simpa using h3,h4,h5,h6,h7,by simp,fun _=>⟨by simp; omega,?_⟩,fun q=>by have:=ng q; omega⟩
   rw [qO (by omega),if_pos rfl]
  ·by_cases e3:H.nx=3
   ·by_cases he:Cl.nth xs 1=H.num
    ·simp [e3,he] at hd
    ·rw [if_neg e1,if_neg e2,if_pos e3,if_neg he]
     refine ⟨h1,h2,h3,h4,h5,h6,h7,by simp,fun _=>h9 (.inl e3),fun q=>by have:=ng q; omega⟩
   ·by_cases e4:H.nx=4
    ·rw [if_neg e1,if_neg e2,if_neg e3,if_pos e4]
     refine ⟨h1,h2,by simpa using h3,h4,h5,h6,h7,by simp,?_,fun q=>by have:=ng q; omega⟩
     rintro (q | q | q)
     ·simp at q
     ·simp at q
     ·have:=ng q; omega
    ·simp at hd; omega
theorem ig.wi {s:List Int×Ho} (h:ig M.xs M.ds s):pN {M with hs:=s.1} s.2:=⟨h.sum,h.wk,h.hl,h.xl,h.num,h.dn _⟩
def I6 (w0:World) (M:Mo) (s:List Int×Ho) (w:World):Prop:=ah w {M with hs:=s.1}/\cD w s.2/\s.2.f=H.f/\ab (fun x=>ao M x\/x=H.f) w0 w
theorem C0 {xs:List Int} {ds:List (Nat×Nat)} (s:List Int×Ho):(dw xs ds s).2.f=s.2.f:=by
 unfold dw
 split
 ·rfl
 split
 ·rfl
 split
 ·split<;>rfl
 split<;>rfl
theorem QB (hM:ah w M) (hH:cD w H) (ok:ig M.xs M.ds (M.hs,H)) (K:Nat) (hK:K<=1000000):
 Calls Tryz.prog 58 #[ptr M.m,.iface 223 (ptr H.f),.int .i64 K] w fun e w'=>e=.returned (.tuple #[.int .i64 (fin (lC M.ds) (dw M.xs M.ds) (iK M.xs) K (M.hs,H)).1,.bool (fin (lC M.ds) (dw M.xs M.ds) (iK M.xs) K (M.hs,H)).2.1])/\
  I6 (H:=H) w M (fin (lC M.ds) (dw M.xs M.ds) (iK M.xs) K (M.hs,H)).2.2 w':=by
 refine yr 223 141 173 H.f (ptr M.m) (I6 (H:=H) w M) (fun s=>ig M.xs M.ds s) (lC M.ds) (dw M.xs M.ds) (iK M.xs) (Uu _) (Uv _) Uw Ux ?_ ?_ ?_ K hK (M.hs,H) ok w ⟨hM,hH,rfl,ab.refl _ _⟩
 ·rintro s w1 ⟨h1,h2,h3,h4⟩ ok
  rw [<-h3]
  exact (II h1 h2 ok.wi).mono fun e w' h=>⟨h.1,h1.below h.2,h2.below h.2,h3,h4.below h.2⟩
 ·rintro s w1 ⟨h1,h2,h3,h4⟩ ok hr
  rw [<-h3]
  refine (IG h1 h2 ok.wi ok.own ok.nx hr).mono fun e w' h=>⟨h.1,?_⟩
  obtain ⟨q1,q2,q3⟩:=h.2
  rw [IH] at q1 q2
  exact ⟨q1,q2,(C0 s).trans h3,h4.trans (h3▸q3)⟩
 ·intro s ok hr hd
  exact ok.step hr hd
end
end Go.Proofs.YtpanebgakndddaaGreat.Ta
namespace Go.Proofs.YtpanebgakndddaaGreat.Pu
open Go Go.RowKit Hp K Fl Rw Hm Ar Mm Me Wk Ta Pn Pc
set_option maxRecDepth 100000
structure Sk where
 key:ByteArray
 sum:Int
 ph:Nat
 H:Ho
 cell:Int
 W:Wa
structure Sa where
 f:Nat
 w:Nat
def nJ (ph h b:Nat):Value:=if ph=1 then aT 141 (ptr h) else aT 175 (ptr b)
def mh (ph f b:Nat):Value:=if ph=1 then aT 142 (ptr f) else aT 176 (ptr b)
def yY (a:Sa) (S:Sk):Array Value:=#[.int .u32 S.sum,.string S.key,nJ S.ph S.H.f a.w,mh S.ph a.f a.w,ptr S.H.f,.int .i64 S.cell,ptr a.w]
abbrev Sk.wa (S:Sk) (b:Nat):Wa:={S.W with f:=b}
def cS (w:World) (a:Sa) (S:Sk):Prop:=af w a.f 226 (yY a S)/\cD w S.H/\bZ w (S.wa a.w)
def cg (a:Sa) (S:Sk) (x:Nat):Prop:=x=a.f\/x=S.H.f\/x=a.w
abbrev TA:List TypeId:=[226,243,237]
abbrev TB:iH Sa Sk:=⟨Sa.f,cS,cg⟩
section
variable {w w':World} {M:Mo} {a:Sa} {S:Sk}
theorem cS.ty (h:cS w a S) {x:Nat} (hx:cg a S x):Ty w x TA:=by
 obtain ⟨h1,h2,h3⟩:=h
 rcases hx with rfl | rfl | rfl
 ·exact (aV h1).mono (by simp)
 ·exact (aV h2).mono (by simp)
 ·exact (aV h3).mono (by simp)
theorem cS.lt (h:cS w a S) {x:Nat} (hx:cg a S x):x<w.heap.size:=(h.ty hx).lt
theorem cS.aA (h:cS w a S) (hM:ah w M) {x:Nat} (hx:cg a S x):¬ao M x:=fun hm=>(hM.ty hm).apart (h.ty hx) (by decide)
theorem cS.only {T:Nat->Prop} (h:cS w a S) (ho:ab T w w') (hn:∀ x,cg a S x->¬T x):cS w' a S:=
 ⟨h.1.only ho (hn _ (.inl rfl)),h.2.1.only ho (hn _ (.inr (.inl rfl))),h.2.2.only ho (hn _ (.inr (.inr rfl)))⟩
theorem cS.below (h:cS w a S) (hb:Below w.heap.size w w'):cS w' a S:=h.only (ab.aD hb (fun _=>False)) (by simp)
theorem cS.hd (h:cS w a S):w.cell? ⟨a.f,0,none⟩=some (.int .u32 S.sum)/\w.cell? ⟨a.f,1,none⟩=some (.string S.key)/\w.cell? ⟨a.f,2,none⟩=some (nJ S.ph S.H.f a.w)/\w.cell? ⟨a.f,3,none⟩=some (mh S.ph a.f a.w)/\
 w.cell? ⟨a.f,4,none⟩=some (ptr S.H.f)/\w.cell? ⟨a.f,5,none⟩=some (.int .i64 S.cell)/\w.cell? ⟨a.f,6,none⟩=some (ptr a.w):=
 ⟨h.1.cell 0,h.1.cell 1,h.1.cell 2,h.1.cell 3,h.1.cell 4,h.1.cell 5,h.1.cell 6⟩
theorem cS.apart (h:cS w a S):a.f≠S.H.f/\a.f≠a.w/\S.H.f≠a.w:=by
 obtain ⟨h1,h2,h3⟩:=h
 exact ⟨h1.differ h2 (by decide),h1.differ h3 (by decide),af.differ h2 h3 (by decide)⟩
theorem cS.held {H':Ho} (h:cS w a S) (hM:ah w M) (hH:cD w' H') (hf:H'.f=S.H.f) (ho:ab (fun x=>ao M x\/x=S.H.f) w w'):cS w' a {S with H:=H'}:=by
 have ha:=h.apart
 refine ⟨?_,hH,h.2.2.only ho ?_⟩
 ·have:=h.1.only ho (by
   rintro (q | q)
   ·exact h.aA hM (.inl rfl) q
   ·exact ha.1 q)
  unfold yY at this ⊢
  simp only [hf]
  exact this
 ·rintro (q | q)
  ·exact h.aA hM (.inr (.inr rfl)) q
  ·exact ha.2.2 q.symm
theorem cS.walked {W':Wa} (h:cS w a S) (hM:ah w M) (hW:bZ w' {W' with f:=a.w}) (ho:ab (fun x=>ao M x\/x=a.w) w w'):cS w' a {S with W:=W'}:=by
 have ha:=h.apart
 refine ⟨h.1.only ho ?_,h.2.1.only ho ?_,hW⟩
 ·rintro (q | q)
  ·exact h.aA hM (.inl rfl) q
  ·exact ha.2.1 q
 ·rintro (q | q)
  ·exact h.aA hM (.inr (.inl rfl)) q
  ·exact ha.2.2 q
theorem RA (h:cS w a S):Calls Tryz.prog 162 #[ptr a.f] w fun e w'=>e=.returned (.bool (decide (S.cell≠ -1)))/\w=w':=by
 have c:=h.hd.2.2.2.2.2.1
 have ec:(S.cell != -1)=decide (S.cell≠ -1):=by rw [Bool.eq_iff_iff]; simp
 clear h
 generalize decide (S.cell≠ -1)=b at*
 replace ec:=Lib.hid ec
 go_enter Tryz.func162,Tryz.ntmps162
 go_wp2
 go_ret
 exact ⟨by rw [ec.out]; rfl,rfl⟩
theorem CZ (h:cS w a S):Calls Tryz.prog 128 #[ptr a.w] w fun e w'=>e=.returned (.tuple #[.int .u64 S.W.found,dV S.W.nd,.bool (decide (S.W.found≠0))])/\Below w.heap.size w w':=by
 have q:=BD h.2.2
 have e1:(S.wa a.w).found=S.W.found:=rfl
 have e2:(S.wa a.w).nd=S.W.nd:=rfl
 have e3:(S.wa a.w).f=a.w:=rfl
 rw [e1,e2,e3] at q
 exact q
theorem tL (h:cS w a S):Calls Tryz.prog 109 #[ptr a.f] w fun e w'=>e=.returned (.tuple #[.int .u64 S.W.found,dV S.W.nd,.bool (decide (S.W.found≠0))])/\Below w.heap.size w w':=by
 have c:=h.hd.2.2.2.2.2.2
 have nf:=World.new_ne w ⟨a.f,6,none⟩ c
 obtain ⟨w1,aP⟩:∃ w1,w1=w.alloc (.cells #[.string ⟨#[]⟩,.string ⟨#[]⟩,.int .u32 0,.int .u64 0] 67):=⟨_,rfl⟩
 have ff:af w1 w.heap.size 67 #[.string ⟨#[]⟩,.string ⟨#[]⟩,.int .u32 0,.int .u64 0]:=by rw [aP]; exact af.made w _ _
 have ax:Below w.heap.size w w1:=by rw [aP]; exact (Below.refl _ _).alloc (Nat.le_refl _) _
 have h1:=h.below ax
 have c1:=h1.hd.2.2.2.2.2.2
 have hR:=CZ h1
 unfold dV at hR ⊢
 generalize decide (S.W.found≠0)=b at*
 generalize S.W.found=x at*
 generalize S.W.nd=n at*
 obtain ⟨nk,nv,ns,nn⟩:=n
 simp only at hR ⊢
 obtain ⟨bV,oZ⟩:∃ bV,bV=w.heap.size:=⟨_,rfl⟩
 rw [<-oZ] at ff
 have dL:=Lib.hid (Nat.le_of_eq oZ.symm)
 have cO:=Lib.hid ax.size
 replace hR:=Lib.hid hR
 replace ff:=Lib.hid ff
 replace ax:=Lib.hid ax
 clear h h1
 go_enter Tryz.func109,Tryz.ntmps109
 go_upto_region 1 with (fail)
 rw [<-aP,<-oZ]
 clear c nf aP oZ
 go_wp2_with fail
 refine hR.out.mono ?_
 rintro e w2 ⟨rfl,au⟩
 have aQ:=ff.out.only (ab.aD au (fun _=>False)) (by simp)
 have f0:=aQ.cell 0
 have f1:=aQ.cell 1
 have f2:=aQ.cell 2
 have f3:=aQ.cell 3
 simp at f0 f1 f2 f3
 have z0:=aQ.frozen 0
 have z1:=aQ.frozen 1
 have z2:=aQ.frozen 2
 have z3:=aQ.frozen 3
 have lb:=aQ.lt
 have az:=Lib.hid (((((ax.out.trans (au.mono cO.out)).setCell (p:=⟨bV,0,none⟩) dL.out (.string nk)).setCell (p:=⟨bV,1,none⟩) dL.out (.string nv)).setCell (p:=⟨bV,2,none⟩) dL.out (.int .u32 ns)).setCell (p:=⟨bV,3,none⟩) dL.out (.int .u64 nn))
 clear hR c1 au
 go_wp2_with fail
 exact bodyPost_ret (v:=.tuple #[.int .u64 x,.agg #[.string nk,.string nv,.int .u32 ns,.int .u64 nn],.bool b]) (by simp [results,Tryz.results109,go_sem,f0,f1,f2,f3]) rfl ⟨rfl,az.out⟩
theorem RF (h:cS w a S):Calls Tryz.prog 214 #[ptr a.f] w fun e w'=>e=.returned (.int .u64 S.W.first)/\w=w':=by
 have c:=h.hd.2.2.2.2.2.2
 have hR:=Lib.hid (Hx h.2.2)
 clear h
 go_enter Tryz.func214,Tryz.ntmps214
 go_wp2_with fail
 refine hR.out.mono ?_
 rintro e w' ⟨rfl,rfl⟩
 go_wp2_with fail
 go_ret
 exact ⟨rfl,rfl⟩
end
set_option maxHeartbeats 1000000 in
theorem vC {w:World} {f:Nat} {s:Int} {key:ByteArray} {cs:Array Value} (hB:af w f 226 cs) (c0:cs[0]?=some (.int .u32 s)) (c1:cs[1]?=some (.string key)) (hz:cs.size=7) (c:Int):
 Calls Tryz.prog 140 #[ptr f,.int .i64 c] w fun e w'=>e=.returned (.tuple #[])/\∃ b,w.heap.size<=b/\af w' f 226 ((cs.setIfInBounds 5 (.int .i64 c)).setIfInBounds 6 (ptr b))/\bZ w' (new b c s key)/\ab (·=f) w w':=by
 have hN:=Lib.hid (fun n=>Wk.mO c s key (w.drewN n))
 have d0:=(hB.cell 0).trans c0
 have d2:=(hB.cell 1).trans c1
 have lf:=hB.lt
 have d6:=hB.cell 5
 have d7:=hB.cell 6
 rw [Array.getElem?_eq_getElem (by omega)] at d6 d7
 generalize cs[5]'(by omega)=u6 at*
 generalize cs[6]'(by omega)=u7 at*
 have HB:=Lib.hid hB
 clear hB c0 c1
 go_enter Tryz.func140,Tryz.ntmps140
 go_wp2_with fail
 go_region_held3 (fun w'=>w'.cell? ⟨f,0,none⟩=some (.int .u32 s)/\w'.cell? ⟨f,1,none⟩=some (.string key)) ((go_split_ands; (refine ⟨?_,?_⟩<;>simp [World.cell?_setCell_other, *])))
  (first
    | (go_at_call 153
       refine (hN.out 1).mono ?_
       rintro e w2 ⟨rfl,h2,au⟩
       have tw:Below w.heap.size w w2:=(show Below w.heap.size w (w.drewN 1) from ⟨rfl,rfl,rfl,Nat.le_refl _,fun _ _=>rfl⟩).trans au
       have e0:=(tw.cell (p:=⟨f,0,none⟩) lf).trans d0
       have e2:=(tw.cell (p:=⟨f,1,none⟩) lf).trans d2
       have e6:=(tw.cell (p:=⟨f,5,none⟩) lf).trans d6
       have e7:=(tw.cell (p:=⟨f,6,none⟩) lf).trans d7
       have ag:=HB.out.only (ab.aD tw (fun _=>False)) (by simp)
       have y6:=ag.frozen 5
       have y7:=ag.frozen 6
       have iQ:=Lib.hid ((ag.store 5 (.int .i64 c)).store 6 (ptr w.heap.size))
       have hd:=ag.differ h2 (by decide)
       have ae:=(((ab.aD tw (·=f)).setCell (p:=⟨f,5,none⟩) (.inl rfl) (.int .i64 c)).setCell (p:=⟨f,6,none⟩) (.inl rfl) (ptr w.heap.size))
       have eU:Hid (bZ ((w2.setCell ⟨f,5,none⟩ (.int .i64 c)).setCell ⟨f,6,none⟩ (ptr w.heap.size)) (new w.heap.size c s key)):=Lib.hid (af.aA (af.aA h2 (p:=⟨f,5,none⟩) (fun e=>hd e.symm) _) (p:=⟨f,6,none⟩) (fun e=>hd e.symm) _)
       replace ae:=Lib.hid ae
       clear h2 au ag tw hd))
 all_goals
  go_wp2_with fail
  go_end0
  exact ⟨rfl,_,Nat.le_refl _,iQ.out,eU.out,ae.out⟩
end Go.Proofs.YtpanebgakndddaaGreat.Pu
namespace Go.Proofs.YtpanebgakndddaaGreat.Pu
open Go Go.RowKit Hp K Fl Rw Hm Ar Mm Me Wk Ta Pn Pc
set_option maxRecDepth 100000
def oM (s:Int) (H:Ho):Int:=Gt.cellOf s (if H.holds=true then H.d else (0,0))
def aG (L:Lm) (S:Sk):Lm×Sk:=
 if S.ph=1 then ({L with hs:=(dw L.xs L.ds (L.hs,S.H)).1},if iK L.xs (L.hs,S.H)=true then {S with H:=(dw L.xs L.ds (L.hs,S.H)).2,cell:=oM S.sum (dw L.xs L.ds (L.hs,S.H)).2,W:=new 0 (oM S.sum (dw L.xs L.ds (L.hs,S.H)).2) S.sum S.key,ph:=2} else {S with H:=(dw L.xs L.ds (L.hs,S.H)).2})
 else ({L with F:=(Wk.aF L.xs L.ss (L.F,S.W)).1},{S with W:=(Wk.aF L.xs L.ss (L.F,S.W)).2})
def eL (L:Lm) (S:Sk):Bool:=if S.ph=1 then lC L.ds (L.hs,S.H) else true
def bY (L:Lm) (S:Sk):Bool:=if S.ph=1 then false else Wk.ck L.xs L.ss (L.F,S.W)
structure qA (r:Nat) (L:Lm) (S:Sk):Prop where
 sum:0<=S.sum/\S.sum<4294967296
 hd:S.ph=1->ig L.xs L.ds (L.hs,S.H)
 desc:S.ph=1->S.H.d.1<=65536/\S.H.d.2<=4000000
 wa:S.ph≠1->eB (r+1) S.W
 cU:fo L.ss
 tb:∀ i,(aN L.ds i).1<=65536/\(aN L.ds i).2<=4000000
abbrev IF (w:World) (M:Mo) (a:Sa) (S:Sk) (L':Lm) (S':Sk) (w':World):Prop:=TB.bf w M a S L' S' w'
def ju (h:Nat) (k s:Int) (key:ByteArray):Sk:=⟨key,s,1,⟨h,k,s,1,0,(0,0),0,false⟩, -1,new 0 (-1) s key⟩
section
variable {w w':World} {M:Mo} {a:Sa} {S:Sk}
set_option maxHeartbeats 1000000 in
theorem TC {f:Nat} {s:Int} (lf:f<w.heap.size) (c2:w.cell? ⟨f,0,none⟩=some (.int .u32 s)) (d:Nat×Nat) (hd:d.1<=65536/\d.2<=4000000) (hs:0<=s/\s<4294967296):
 Calls Tryz.prog 174 #[ptr f,dv d] w fun e w'=>e=.returned (.int .i64 (Gt.cellOf s d))/\Below w.heap.size w w':=by
 have hb:=qD s d.1 hs.1
 unfold Gt.cellOf dv
 by_cases h0:d.1=0
 ·rw [if_pos h0,h0]
  clear c2 hb h0
  go_enter Tryz.func174,Tryz.ntmps174
  go_wp2_with fail
  go_ret
  exact ⟨rfl,(Below.refl _ _).alloc (Nat.le_refl _) _⟩
 ·rw [if_neg h0]
  have hB:=Lib.hid (fun w'=>lZ.yt s d.1 w' hs.1 hs.2 (by omega) (by omega))
  have e0:((d.1:Int)==0)=false:=by simp; omega
  generalize FM.bucket s d.1=b at*
  generalize d.1=d1 at*
  generalize d.2=d2 at*
  have e1:IntKind.i64.wrap ((d2:Int)+b)=d2+b:=IntWalk.i64_in _ (by omega)
  have nf:=World.new_ne w ⟨f,0,none⟩ c2
  clear h0
  go_enter Tryz.func174,Tryz.ntmps174
  go_wp2_with fail
  go_quiet ((go_at_call 201; exact Calls.quiet_of_same ((hB.out _).mono fun _ _ h=>⟨h.1,h.2⟩)))
  go_wp2_with fail
  go_ret
  exact ⟨rfl,((Below.refl _ _).alloc (Nat.le_refl _) _).trans ⟨rfl,rfl,rfl,by simp,fun _ _=>rfl⟩⟩
theorem TD (hM:ah w M) (h:cS w a S) (hl:ig M.xs M.ds (M.hs,S.H)) (hr:lC M.ds (M.hs,S.H)=true):
 Calls Tryz.prog 173 #[ptr S.H.f,ptr M.m] w fun e w'=>e=.returned (.bool (iK M.xs (M.hs,S.H)))/\ah w' {M with hs:=(dw M.xs M.ds (M.hs,S.H)).1}/\cS w' a {S with H:=(dw M.xs M.ds (M.hs,S.H)).2}/\ab (fun x=>ao M x\/cg a S x) w w':=by
 have q:=IG hM h.2.1 hl.wi hl.own hl.nx hr
 rw [IH,TE] at q
 exact q.mono fun e w' q=>⟨q.1,q.2.1,h.held hM q.2.2.1 (C0 _) q.2.2.2,q.2.2.2.mono fun x _ y=>y.imp id fun e=>.inr (.inl e)⟩
theorem C2 {S':Sk} {a':Sa} (ef:a'.f=a.f) (eH:S'.H.f=S.H.f) {n:Nat} (ew:a'.w=a.w\/n<=a'.w) (x:Nat) (q:cg a' S' x):cg a S x\/n<=x:=by
 rcases q with q | q | q
 ·exact .inl (.inl (q.trans ef))
 ·exact .inl (.inr (.inl (q.trans eH)))
 ·rcases ew with ew | ew
  ·exact .inl (.inr (.inr (q.trans ew)))
  ·exact .inr (by omega)
set_option maxHeartbeats 1000000 in
theorem TF (hM:ah w M) (h:cS w a S) (hl:ig M.xs M.ds (M.hs,S.H)) (hd:(dw M.xs M.ds (M.hs,S.H)).2.d.1<=65536/\(dw M.xs M.ds (M.hs,S.H)).2.d.2<=4000000) (hs:0<=S.sum/\S.sum<4294967296) (hr:lC M.ds (M.hs,S.H)=true) (h1:S.ph=1):
 Calls Tryz.prog 142 #[ptr a.f,ptr M.m] w fun e w'=>e=.returned (.bool false)/\IF w M a S (aG (lm M) S).1 (aG (lm M) S).2 w':=by
 have hS:=TD hM h hl hr
 have hf:=C0 (xs:=M.xs) (ds:=M.ds) (M.hs,S.H)
 have c5:=h.hd.2.2.2.2.1
 unfold aG
 rw [if_pos h1]
 simp only
 cases ct:iK M.xs (M.hs,S.H) with
 | false=>
   rw [ct] at hS
   rw [if_neg (by simp)]
   generalize dw M.xs M.ds (M.hs,S.H)=z at*
   obtain ⟨hs',H'⟩:=z
   simp only at hS hf ⊢
   replace hS:=Lib.hid hS
   replace hf:=Lib.hid hf
   clear ct h hM hl hr h1 hs hd
   go_enter Tryz.func142,Tryz.ntmps142
   go_wp2_with fail
   refine hS.out.mono ?_
   rintro e w1 ⟨rfl,av,aZ,aw⟩
   replace av:=Lib.hid av
   replace aZ:=Lib.hid aZ
   replace aw:=Lib.hid aw
   clear hS c5
   go_wp2_with fail
   go_ret
   exact ⟨rfl,_,a,av.out,rfl,⟨rfl,rfl,rfl,rfl,fun _ q=>.inl q⟩,aZ.out,rfl,C2 rfl hf.out (.inl rfl),aw.out⟩
 | true=>
   rw [ct] at hS
   rw [if_pos rfl]
   generalize dw M.xs M.ds (M.hs,S.H)=z at*
   obtain ⟨hs',H'⟩:=z
   simp only at hS hf hd ⊢
   have xP:(if H'.holds=true then H'.d else (0,0)).1<=65536/\(if H'.holds=true then H'.d else (0,0)).2<=4000000:=by
    split
    ·exact hd
    ·simp
   obtain ⟨d,xQ⟩:∃ d,d=if H'.holds=true then H'.d else (0,0):=⟨_,rfl⟩
   rw [<-xQ] at xP
   have hc:oM S.sum H'=Gt.cellOf S.sum d:=by unfold oM; rw [xQ]
   rw [hc]
   obtain ⟨c,AB⟩:∃ c,c=Gt.cellOf S.sum d:=⟨_,rfl⟩
   rw [<-AB]
   replace hS:=Lib.hid hS
   replace hf:=Lib.hid hf
   replace AB:=Lib.hid AB
   replace xQ:=Lib.hid xQ
   clear ct h hM hl hr hd hc
   replace h1:=Lib.hid h1
   go_enter Tryz.func142,Tryz.ntmps142
   go_wp2_with fail
   refine hS.out.mono ?_
   rintro e w1 ⟨rfl,av,aZ,aw⟩
   have k5:=aZ.hd.2.2.2.2.1
   simp only at k5
   have hD:=Hr aZ.2.1
   simp only at hD
   rw [<-xQ.out] at hD
   unfold dv at hD
   replace hD:=Lib.hid hD
   replace av:=Lib.hid av
   replace aZ:=Lib.hid aZ
   replace aw:=Lib.hid aw
   clear hS c5
   go_wp2_with fail
   refine hD.out.mono ?_
   rintro e w2 ⟨rfl,ag⟩
   have bs:=aZ.out.below ag
   have aB:=av.out.below ag
   have hC:=TC bs.1.lt bs.hd.1 d xP hs
   rw [<-AB.out] at hC
   unfold dv at hC
   have ae:=aw.out.below ag
   replace hC:=Lib.hid hC
   replace aB:=Lib.hid aB
   replace bs:=Lib.hid bs
   replace ae:=Lib.hid ae
   clear hD av aZ aw ag k5
   go_wp2_with fail
   refine hC.out.mono ?_
   rintro e w3 ⟨rfl,ay⟩
   have bh:=bs.out.below ay
   have br:=aB.out.below ay
   have aq:=ae.out.below ay
   have hW:=Lib.hid (vC bh.1 rfl rfl rfl c)
   replace br:=Lib.hid br
   replace bh:=Lib.hid bh
   replace aq:=Lib.hid aq
   clear hC aB bs ae ay
   go_wp2_with fail
   refine hW.out.mono ?_
   rintro e w4 ⟨rfl,b,hb,eR,fV,aM⟩
   have k3:=eR.cell 2
   have k4:=eR.cell 3
   have k6:=eR.cell 6
   simp [yY] at k3 k4 k6
   have z3:=eR.frozen 2
   have z4:=eR.frozen 3
   have jh:=(eR.store 2 (aT 175 (ptr b))).store 3 (aT 176 (ptr b))
   have ap3:=bh.out.apart
   have bJ:=(((ab.refl (·=a.f) w4).setCell (p:=⟨a.f,2,none⟩) (.inl rfl) (aT 175 (ptr b))).setCell (p:=⟨a.f,3,none⟩) (.inl rfl) (aT 176 (ptr b)))
   have AD:=aM.trans bJ
   have uZ:=eR.differ fV (by decide)
   have far3:=bh.out.aA br.out (.inl rfl)
   have hE:cS ((w4.setCell ⟨a.f,2,none⟩ (aT 175 (ptr b))).setCell ⟨a.f,3,none⟩ (aT 176 (ptr b))) {a with w:=b} {S with H:=H',cell:=c,W:=new 0 c S.sum S.key,ph:=2}:=
    ⟨by simpa [yY,nJ,mh] using jh,bh.out.2.1.only AD (fun e=>ap3.1 e.symm),fV.only bJ (fun e=>uZ e.symm)⟩
   have ia:=br.out.only AD (fun x hx q=>far3 (q▸hx))
   have cO:=aq.out.size
   have EE:ab (fun x=>ao M x\/cg a S x) w _:=aq.out.trans' AD (fun x _ q=>.inr (.inl q))
   have xR:=Nat.le_trans cO hb
   replace hE:=Lib.hid hE
   replace ia:=Lib.hid ia
   replace EE:=Lib.hid EE
   replace xR:=Lib.hid xR
   clear hW br bh aq eR fV aM jh bJ AD uZ far3 ap3 hb cO
   go_wp2_with fail
   go_region
   all_goals
    go_wp2_with fail
    go_ret
    have sC:∀ w:World,Below w.heap.size w w.drew:=fun w=>⟨rfl,rfl,rfl,Nat.le_refl _,fun _ _=>rfl⟩
    exact ⟨rfl,_,_,ia.out.below (sC _),rfl,⟨rfl,rfl,rfl,rfl,fun _ q=>.inl q⟩,hE.out.below (sC _),rfl,C2 (a:=a) (a':={a with w:=b}) (S:=S) rfl hf.out (.inr xR.out),EE.out.below (sC _)⟩
end
end Go.Proofs.YtpanebgakndddaaGreat.Pu
namespace Go.Proofs.YtpanebgakndddaaGreat.Pu
open Go Hm Ar Mm Me
def aR (ss:List Sl) (x y:Nat):List Sl:=ss.set ((x-1) % 65536) {ai ss ((x-1) % 65536) with nd:={(ai ss ((x-1) % 65536)).nd with next:=(y:Int)}}
end Go.Proofs.YtpanebgakndddaaGreat.Pu
namespace Go.Proofs.YtpanebgakndddaaGreat.Pu
open Go Go.RowKit Hp K Fl Rw Hm Ar Mm Me Wk Ta Pn Pc
set_option maxRecDepth 100000
theorem TG {xs:List Int} {ds:List (Nat×Nat)} {s:List Int×Ho} (h:s.2.d.1<=65536/\s.2.d.2<=4000000) (ht:∀ i,(aN ds i).1<=65536/\(aN ds i).2<=4000000):(dw xs ds s).2.d.1<=65536/\(dw xs ds s).2.d.2<=4000000:=by
 unfold dw
 split
 ·exact h
 split
 ·exact ht _
 split
 ·split<;>exact h
 split<;>exact h
theorem mj {w:World} {F f:Nat} {cv m:Value} {c:Bool} {P:World->Prop} (c4:w.cell? ⟨f,3,none⟩=some (aT F cv)) (eF:∀ args w,(callFunc F args).run Tryz.prog w=.ok (.enter F args) w)
 (hF:Calls Tryz.prog F #[cv,m] w fun e w'=>e=.returned (.bool c)/\P w'):Calls Tryz.prog 143 #[ptr f,m] w fun e w'=>e=.returned (.bool c)/\P w':=by
 replace hF:=Lib.hid hF
 go_enter Tryz.func143,Tryz.ntmps143
 go_wp2_with fail
 refine hF.out.mono ?_
 rintro e w' ⟨rfl,bj⟩
 replace bj:=Lib.hid bj
 clear c4
 go_wp2_with fail
 go_ret
 exact ⟨rfl,bj.out⟩
theorem yZ {w:World} {F f:Nat} {cv m:Value} {c:Bool} {P:World->Prop} (c3:w.cell? ⟨f,2,none⟩=some (aT F cv)) (eF:∀ args w,(callFunc F args).run Tryz.prog w=.ok (.enter F args) w)
 (hF:Calls Tryz.prog F #[cv,m] w fun e w'=>e=.returned (.bool c)/\P w'):Calls Tryz.prog 275 #[ptr f,m] w fun e w'=>e=.returned (.bool c)/\P w':=by
 replace hF:=Lib.hid hF
 go_enter Tryz.func275,Tryz.ntmps275
 go_wp2_with fail
 refine hF.out.mono ?_
 rintro e w' ⟨rfl,bj⟩
 replace bj:=Lib.hid bj
 clear c3
 go_wp2_with fail
 go_ret
 exact ⟨rfl,bj.out⟩
theorem TH (args:Array Value) (w:World):(callFunc 141 args).run Tryz.prog w=.ok (.enter 141 args) w:=by kernel_rfl
theorem TI (args:Array Value) (w:World):(callFunc 175 args).run Tryz.prog w=.ok (.enter 175 args) w:=by kernel_rfl
theorem TJ (args:Array Value) (w:World):(callFunc 176 args).run Tryz.prog w=.ok (.enter 176 args) w:=by kernel_rfl
theorem TK (args:Array Value) (w:World):(callFunc 142 args).run Tryz.prog w=.ok (.enter 142 args) w:=by kernel_rfl
section
variable {w w':World} {M:Mo} {a:Sa} {S:Sk}
theorem FY (hM:ah w M) (h:cS w a S) (hl:S.ph=1->ig M.xs M.ds (M.hs,S.H)):Calls Tryz.prog 275 #[ptr a.f,ptr M.m] w fun e w'=>e=.returned (.bool (eL (lm M) S))/\Below w.heap.size w w':=by
 have c3:=h.hd.2.2.1
 unfold nJ at c3
 unfold eL
 split
 ·rename_i h1
  rw [if_pos h1] at c3
  have:=II hM h.2.1 (hl h1).wi
  rw [TL] at this
  exact yZ c3 TH this
 ·rename_i h1
  rw [if_neg h1] at c3
  exact yZ c3 TI ((Wk.oC _ _ w).mono fun e w' q=>⟨q.1,q.2▸Below.refl _ _⟩)
theorem FT (hM:ah w M) (h:cS w a S) {r:Nat} (ok:qA r (lm M) S) (hr:eL (lm M) S=true):
 Calls Tryz.prog 143 #[ptr a.f,ptr M.m] w fun e w'=>e=.returned (.bool (bY (lm M) S))/\IF w M a S (aG (lm M) S).1 (aG (lm M) S).2 w':=by
 have c4:=h.hd.2.2.2.1
 unfold mh at c4
 by_cases e1:S.ph=1
 ·rw [if_pos e1] at c4
  have ed:bY (lm M) S=false:=by unfold bY; rw [if_pos e1]
  rw [ed]
  unfold eL at hr
  rw [if_pos e1] at hr
  exact mj c4 TK (TF hM h (ok.hd e1) (TG (ok.desc e1) ok.tb) ok.sum hr e1)
 ·rw [if_neg e1] at c4
  have ed:bY (lm M) S=Wk.ck M.xs M.ss (M.F,S.W):=by unfold bY; rw [if_neg e1]
  have es:aG (lm M) S=({lm M with F:=(Wk.aF M.xs M.ss (M.F,S.W)).1},{S with W:=(Wk.aF M.xs M.ss (M.F,S.W)).2}):=by unfold aG; rw [if_neg e1]
  rw [ed,es]
  have okw:=ok.wa e1
  have hS:=(BF hM h.2.2 ok.cU (r:=r) ⟨okw.cell,okw.at_,okw.read,okw.nx⟩)
  rw [Gt.GB,Gt.BE] at hS
  refine mj c4 TJ (hS.mono fun e w' q=>⟨q.1,?_⟩)
  exact ⟨{M with F:=(Wk.aF M.xs M.ss (M.F,S.W)).1},a,q.2.1,rfl,⟨rfl,rfl,rfl,rfl,fun _ y=>.inl y⟩,h.walked hM q.2.2.1 q.2.2.2,rfl,C2 rfl rfl (.inl rfl),q.2.2.2.mono (fun x _ y=>y.imp id (fun e=>.inr (.inr e)))⟩
def jT (L:Lm) (S:Sk) (y:Nat):Lm:=if S.W.found≠0/\S.W.prev≠0 then {L with ss:=aR L.ss S.W.prev y} else {L with xs:=L.xs.set S.cell.toNat y}
structure pt (L:Lm) (S:Sk) (y:Nat):Prop where
 y:y<=18446744073709551615
 link:S.W.found≠0/\S.W.prev≠0->S.W.prev<=18446744073709551615/\∃ k,aY L.ss S.W.prev k
 cell:¬(S.W.found≠0/\S.W.prev≠0)->0<=S.cell/\S.cell<L.xs.length
def wj (w:World) (M:Mo) (a:Sa) (S:Sk) (L':Lm) (w':World):Prop:=∃ M',ah w' M'/\lm M'=L'/\gn w M M'/\cS w' a S/\ab (ao M) w w'
set_option maxHeartbeats 2000000 in
theorem TM (hM:ah w M) (h:cS w a S) (hf:S.W.found≠0) (hp:S.W.prev≠0) (hb:S.W.prev<=18446744073709551615) {k:Nat} (hk:aY M.ss S.W.prev k) (y:Nat):
 Calls Tryz.prog 179 #[ptr a.f,ptr M.m,.int .u64 y] w fun e w'=>e=.returned (.tuple #[])/\wj w M a S (jT (lm M) S y) w':=by
 have cm:(S.W.prev-1) % 65536=k:=(mI hM.2.2.2.1.room.2 hk).1
 have e:jT (lm M) S y={lm M with ss:=M.ss.set k {ai M.ss k with nd:={(ai M.ss k).nd with next:=(y:Int)}}}:=by
  unfold jT aR
  rw [if_pos ⟨hf,hp⟩,cm]
 rw [e]
 have cG:=CZ h
 rw [decide_eq_true hf] at cG
 have pe:∀ w1,Below w.heap.size w w1->Calls Tryz.prog 202 #[ptr a.w] w1 fun e w'=>e=.returned (.int .u64 S.W.prev)/\w1=w':=fun w1 ax=>IJ (h.below ax).2.2
 have hA:=fun w1 (ax:Below w.heap.size w w1)=>(AK (hM.below ax).2.2.2.1 hb hk (y:Int)).mono fun e w2 q=>
  show e=.returned (.int .i64 0)/\wj w M a S {lm M with ss:=M.ss.set k {ai M.ss k with nd:={(ai M.ss k).nd with next:=(y:Int)}}} w2 from
   ⟨q.1,{M with ss:=M.ss.set k {ai M.ss k with nd:={(ai M.ss k).nd with next:=(y:Int)}}},(hM.below ax).qI q.2.1 q.2.2,rfl,⟨rfl,rfl,rfl,rfl,fun _ y=>.inl y⟩,(h.below ax).only q.2.2 (fun x hx q=>h.aA hM hx (jf _ q)),(ab.aD ax _).trans (q.2.2.mono fun x _ q=>jf _ q)⟩
 have bc:=Lib.hid (fun w1 (ax:Below w.heap.size w w1)=>show w1.cell? ⟨a.f,6,none⟩=some (ptr a.w)/\w1.cell? ⟨M.m,2,none⟩=some (ptr M.ar) from
  ⟨(h.below ax).hd.2.2.2.2.2.2,(hM.below ax).hd.2.2.1⟩)
 have c7:=h.hd.2.2.2.2.2.2
 have e0:((S.W.prev:Int) != 0)=true:=by simp; omega
 have lf:=Lib.hid (fun w1 (ax:Below w.heap.size w w1)=>(h.below ax).1.lt)
 unfold dV at cG
 generalize {lm M with ss:=M.ss.set k {ai M.ss k with nd:={(ai M.ss k).nd with next:=(y:Int)}}}=L' at*
 generalize rC:S.W.found=x at*
 generalize EF:S.W.prev=pv at*
 generalize S.W.nd=n at*
 obtain ⟨nk,nv,ns,nn⟩:=n
 simp only at cG
 replace cG:=Lib.hid cG
 replace pe:=Lib.hid pe
 replace hA:=Lib.hid hA
 clear hM h hf hp hb hk cm e rC EF
 go_enter Tryz.func179,Tryz.ntmps179
 go_wp2_with fail
 refine cG.out.mono ?_
 rintro e w1 ⟨rfl,ax⟩
 obtain ⟨w2,bl⟩:∃ w2,w2=w1.alloc (.cells #[.string nk,.string nv,.int .u32 ns,.int .u64 nn] 67):=⟨_,rfl⟩
 have au:Below w.heap.size w w2:=by rw [bl]; exact ax.alloc ax.size _
 have k7:=(bc.out w1 ax).1
 have lf1:=lf.out w1 ax
 obtain ⟨j7,j2⟩:=bc.out w2 au
 have bs:=Lib.hid (pe.out w2 au)
 have bH:=Lib.hid (hA.out w2 au)
 clear ax au cG pe hA c7
 go_wp2_with fail
 rw [<-bl]
 clear bl k7
 refine bs.out.mono ?_
 rintro e w3 ⟨rfl,rfl⟩
 clear bs
 go_wp2_with fail
 refine bH.out.mono ?_
 rintro e w3 ⟨rfl,hL⟩
 replace hL:=Lib.hid hL
 clear bH
 go_wp2_with fail
 exact bodyPost_ret (v:=.tuple #[]) (by simp [results,Tryz.results179]) rfl ⟨rfl,hL.out⟩
set_option maxHeartbeats 2000000 in
theorem TN (hM:ah w M) (h:cS w a S) (hn:¬(S.W.found≠0/\S.W.prev≠0)) (hc:0<=S.cell/\S.cell<M.xs.length) (y:Nat) (hy:y<=18446744073709551615):
 Calls Tryz.prog 179 #[ptr a.f,ptr M.m,.int .u64 y] w fun e w'=>e=.returned (.tuple #[])/\wj w M a S (jT (lm M) S y) w':=by
 have e:jT (lm M) S y={lm M with xs:=M.xs.set S.cell.toNat (y:Int)}:=by
  unfold jT
  rw [if_neg hn]
 rw [e]
 obtain ⟨c,iT⟩:=Int.eq_ofNat_of_zero_le hc.1
 have cG:=CZ h
 have pe:∀ w1,Below w.heap.size w w1->Calls Tryz.prog 202 #[ptr a.w] w1 fun e w'=>e=.returned (.int .u64 S.W.prev)/\w1=w':=fun w1 ax=>IJ (h.below ax).2.2
 have hA:=fun w1 (ax:Below w.heap.size w w1)=>(Cl.vj (hM.below ax).2.1 c (by omega) (y:Int) (by omega) (by omega)).mono fun e w2 q=>
  show e=.returned (.int .i64 0)/\wj w M a S {lm M with xs:=M.xs.set c (y:Int)} w2 from
   ⟨q.1,{M with xs:=M.xs.set c (y:Int)},(hM.below ax).cells q.2.1 q.2.2,rfl,⟨rfl,rfl,rfl,rfl,fun _ y=>.inl y⟩,(h.below ax).only q.2.2 (fun x hx q=>h.aA hM hx (nG _ q)),(ab.aD ax _).trans (q.2.2.mono fun x _ q=>nG _ q)⟩
 have bc:=Lib.hid (fun w1 (ax:Below w.heap.size w w1)=>show w1.cell? ⟨a.f,6,none⟩=some (ptr a.w)/\w1.cell? ⟨M.m,0,none⟩=some (ptr M.g)/\w1.cell? ⟨a.f,5,none⟩=some (.int .i64 (c:Int)) from
  ⟨(h.below ax).hd.2.2.2.2.2.2,(hM.below ax).hd.1,by rw [<-iT]; exact (h.below ax).hd.2.2.2.2.2.1⟩)
 have c7:=h.hd.2.2.2.2.2.2
 have lf:=Lib.hid (fun w1 (ax:Below w.heap.size w w1)=>(h.below ax).1.lt)
 rw [iT,Int.toNat_natCast]
 generalize {lm M with xs:=M.xs.set c (y:Int)}=L' at*
 unfold dV at cG
 have WO:(S.W.found≠0/\S.W.prev=0)\/S.W.found=0:=by
  by_cases q:S.W.found=0
  ·exact .inr q
  ·exact .inl ⟨q,by by_cases q2:S.W.prev=0; exact q2; exact absurd ⟨q,q2⟩ hn⟩
 clear e hn hc
 rcases WO with ⟨hf,hp⟩ | hf
 all_goals
  first
   | (rw [decide_eq_true hf] at cG; rw [hp] at pe)
   | rw [decide_eq_false (by simpa using hf)] at cG
  generalize rC:S.W.found=x at*
  generalize EF:S.W.prev=pv at*
  generalize S.W.nd=n at*
  obtain ⟨nk,nv,ns,nn⟩:=n
  simp only at cG
  replace cG:=Lib.hid cG
  replace pe:=Lib.hid pe
  replace hA:=Lib.hid hA
  replace hy:=Lib.hid hy
  replace iT:=Lib.hid iT
  try clear hp
  clear hM h hf rC EF
  go_enter Tryz.func179,Tryz.ntmps179
  go_wp2_with fail
  refine cG.out.mono ?_
  rintro e w1 ⟨rfl,ax⟩
  obtain ⟨w2,bl⟩:∃ w2,w2=w1.alloc (.cells #[.string nk,.string nv,.int .u32 ns,.int .u64 nn] 67):=⟨_,rfl⟩
  have au:Below w.heap.size w w2:=by rw [bl]; exact ax.alloc ax.size _
  have k7:=(bc.out w1 ax).1
  have lf1:=lf.out w1 ax
  obtain ⟨j7,j2,j5⟩:=bc.out w2 au
  have bs:=Lib.hid (pe.out w2 au)
  have bH:=Lib.hid (fun n=>hA.out (w2.drewN n) (au.trans ⟨rfl,rfl,rfl,by simp,fun _ _=>rfl⟩))
  clear ax au cG pe hA c7
  go_wp2_with fail
  rw [<-bl]
  clear bl k7
  refine bs.out.mono ?_
  rintro e w3 ⟨rfl,rfl⟩
  clear bs
  go_wp2_with fail
  go_region_held3 (fun w'=>w'.cell? ⟨M.m,0,none⟩=some (ptr M.g)/\w'.cell? ⟨a.f,5,none⟩=some (.int .i64 (c:Int))) (go_keep)
   (first
     | (go_at_call 45
        refine (bH.out 1).mono ?_
        rintro e w3 ⟨rfl,hL⟩
        have WQ:=Lib.hid hL
        obtain ⟨M3,br,e3,va,cK,aq⟩:=hL
        have s3:=br.hd.1
        have s5:=cK.hd.2.2.2.2.2.1
        rw [va.m,va.g] at s3
        rw [iT.out] at s5
        clear br e3 va cK aq bH))
  all_goals
   go_wp2_with fail
   go_end0
   exact ⟨rfl,WQ.out⟩
theorem FU (hM:ah w M) (h:cS w a S) {y:Nat} (ok:pt (lm M) S y):
 Calls Tryz.prog 179 #[ptr a.f,ptr M.m,.int .u64 y] w fun e w'=>e=.returned (.tuple #[])/\wj w M a S (jT (lm M) S y) w':=by
 by_cases hl:S.W.found≠0/\S.W.prev≠0
 ·obtain ⟨hb,k,hk⟩:=ok.link hl
  exact TM hM h hl.1 hl.2 hb hk y
 ·exact TN hM h hl (ok.cell hl) y ok.y
set_option maxHeartbeats 1000000 in
theorem FW (hM:ah w M) (h:cS w a S) (hl:ig M.xs M.ds (M.hs,S.H)) (hh:S.H.holds=true):
 Calls Tryz.prog 177 #[ptr a.f,ptr M.m] w fun e w'=>e=.returned (.tuple #[])/\ah w' {M with hs:=M.hs.set S.H.lock (-1)}/\cS w' a {S with H:={S.H with holds:=false}}/\ab (fun x=>ao M x\/cg a S x) w w':=by
 have ho:=hl.own (.inr (.inr hh))
 have hR:=(Hs hM h.2.1 hl.wi ho.1 ho.2 hh).mono fun e w' q=>show e=.returned (.bool true)/\(ah w' {M with hs:=M.hs.set S.H.lock (-1)}/\cS w' a {S with H:={S.H with holds:=false}}/\ab (fun x=>ao M x\/cg a S x) w w') from
  ⟨q.1,q.2.1,h.held hM q.2.2.1 rfl q.2.2.2,q.2.2.2.mono fun x _ y=>y.imp id fun e=>.inr (.inl e)⟩
 have c5:=h.hd.2.2.2.2.1
 replace hR:=Lib.hid hR
 clear h hM hl hh ho
 go_enter Tryz.func177,Tryz.ntmps177
 go_wp2_with fail
 refine hR.out.mono ?_
 rintro e w1 ⟨rfl,hD⟩
 replace hD:=Lib.hid hD
 clear hR c5
 go_wp2_with fail
 go_end0
 exact ⟨rfl,hD.out⟩
set_option maxHeartbeats 1000000 in
theorem FX (k s:Int) (key:ByteArray) (w:World):
 Calls Tryz.prog 106 #[.int .i64 k,.int .u32 s,.string key] w fun e w'=>∃ (a:Sa) (h:Nat),e=.returned (ptr a.f)/\cS w' a (ju h k s key)/\(∀ x,cg a (ju h k s key) x->w.heap.size<=x)/\Below w.heap.size w w':=by
 unfold ju
 have hN:=Lib.hid (Hq k s w)
 go_enter Tryz.func106,Tryz.ntmps106
 go_wp2_with fail
 refine hN.out.mono ?_
 rintro e w1 ⟨rfl,EG,aJ⟩
 obtain ⟨h,hh⟩:∃ h,h=w.heap.size:=⟨_,rfl⟩
 rw [<-hh] at EG ⊢
 obtain ⟨w2,bl⟩:∃ w2,w2=w1.alloc (.cells #[.int .u32 s,.string key,.nilFunc,.nilFunc,ptr h,.int .i64 0,.pointer none] 226):=⟨_,rfl⟩
 have aQ:af w2 w1.heap.size 226 #[.int .u32 s,.string key,.nilFunc,.nilFunc,ptr h,.int .i64 0,.pointer none]:=by rw [bl]; exact af.made w1 _ _
 have sU:Below w1.heap.size w1 w2:=by rw [bl]; exact (Below.refl _ _).alloc (Nat.le_refl _) _
 obtain ⟨f,hf⟩:∃ f,f=w1.heap.size:=⟨_,rfl⟩
 rw [<-hf] at aQ
 have gZ:w.heap.size<=f:=by rw [hf]; exact aJ.size
 have XG:w.heap.size<=h:=by omega
 have ag:=aJ.trans (sU.mono aJ.size)
 have iO:=EG.below sU
 have hd:=aQ.differ iO (by decide)
 have hW:=Lib.hid (vC aQ rfl rfl rfl (-1))
 replace iO:=Lib.hid iO
 replace ag:=Lib.hid ag
 replace hd:=Lib.hid hd
 clear hN EG aJ sU aQ hh
 go_upto_region 2 with (fail)
 rw [<-bl,<-hf]
 clear bl hf
 go_wp2_with fail
 refine hW.out.mono ?_
 rintro e w4 ⟨rfl,b,hb,eR,fV,aM⟩
 have k3:=eR.cell 2
 have k4:=eR.cell 3
 have j5:=eR.cell 4
 simp at k3 k4 j5
 have z3:=eR.frozen 2
 have z4:=eR.frozen 3
 have jF:=iO.out.only aM (fun e=>hd.out e.symm)
 have az:=ag.out.trans (aM.toBelow ag.out.size (fun x hx e=>by subst e; omega))
 have xR:w.heap.size<=b:=Nat.le_trans ag.out.size hb
 have uZ:=eR.differ fV (by decide)
 have hE:Hid (cS ((w4.setCell ⟨f,2,none⟩ (aT 141 (ptr h))).setCell ⟨f,3,none⟩ (aT 142 (ptr f))) ⟨f,b⟩ ⟨key,s,1,⟨h,k,s,1,0,(0,0),0,false⟩, -1,new 0 (-1) s key⟩):=Lib.hid
  ⟨(eR.store 2 (aT 141 (ptr h))).store 3 (aT 142 (ptr f)),af.aA (af.aA jF (p:=⟨f,2,none⟩) (fun e=>hd.out e.symm) _) (p:=⟨f,3,none⟩) (fun e=>hd.out e.symm) _,
    af.aA (af.aA fV (p:=⟨f,2,none⟩) (fun e=>uZ e.symm) _) (p:=⟨f,3,none⟩) (fun e=>uZ e.symm) _⟩
 have nQ:=Lib.hid ((az.setCell (p:=⟨f,2,none⟩) gZ (aT 141 (ptr h))).setCell (p:=⟨f,3,none⟩) gZ (aT 142 (ptr f)))
 have fS:Hid (∀ x,cg ⟨f,b⟩ ⟨key,s,1,⟨h,k,s,1,0,(0,0),0,false⟩, -1,new 0 (-1) s key⟩ x->w.heap.size<=x):=Lib.hid (by
  rintro x (q | q | q)<;>simp only at q<;>omega)
 clear hW iO ag eR fV aM jF az xR uZ hb hd
 go_wp2_with fail
 go_ret
 exact ⟨_,_,rfl,hE.out,fS.out,nQ.out⟩
end
end Go.Proofs.YtpanebgakndddaaGreat.Pu
