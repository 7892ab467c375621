/- Walks and plain mathematics, put together in their order: PutH, MapB, MapC, MapD, DelB, ShrA, ShrB, ShrC, RegN, RowRun. -/
import Derived.Test.YtpanebgakndddaaGreatPart3
import Derived.Test.YtpanebgakndddaaGreatRetMath
import Derived.Test.YtpanebgakndddaaGreatQsbrE
import Derived.Laws.EntriesVeiled
import Derived.Deep.QuietTactic
import Derived.Deep.DeepCutAuto
import Derived.Deep.RegionHeld3
import Derived.OrdersHeld
import Derived.StillTail
import Derived.Test.YtpanebgakndddaaGreatRowKit
set_option linter.unusedVariables false
set_option linter.unusedSimpArgs false
namespace Go.Proofs.YtpanebgakndddaaGreat.Pu
open Go Go.RowKit Hp K Fl Rw Hm Ar Mm Me Wk Ta Pn Pc Mq
set_option maxRecDepth 100000
section
variable {L:Lm} {P:Pt}
theorem RO (h:P.nx=2):cH L P=((aG L P.toSk).1,{P with toSk:=(aG L P.toSk).2,nx:=if bY L P.toSk=true then (if (aG L P.toSk).2.cell= -1 then 6 else 3) else 2}):=by
 unfold cH; rw [if_pos h]
theorem RP (h:P.nx=3) {m:Nat} (hm:Least L.ss m):cH L P=({L with ss:=L.ss.set m ⟨true,(ai L.ss m).gen,⟨P.key,P.val,P.sum,gS P.W⟩⟩},{P with cr:=(ai L.ss m).gen*65536+m+1,err:=0,nx:=4}):=by
 unfold cH; rw [if_neg (by omega),if_pos h]; simp only [vW.2 hm]
theorem RQ (h:P.nx=3) (hm:gm L.ss=none):cH L P=(L,{P with cr:=0,err:=4,nx:=6}):=by
 unfold cH; rw [if_neg (by omega),if_pos h]; simp only [hm]
theorem RR (h:P.nx=4):cH L P=(jT L P.toSk P.cr,{P with cr:=P.W.found,nx:=if P.W.found≠0 then 5 else 6}):=by
 unfold cH; rw [if_neg (by omega),if_neg (by omega),if_pos h]
theorem RS (h:P.nx=5):cH L P=({L with ws:=L.ws++[P.cr]},{P with cr:=0,nx:=6}):=by
 unfold cH; rw [if_neg (by omega),if_neg (by omega),if_neg (by omega),if_pos h]
theorem Ic (h:P.nx=6):cH L P=({L with hs:=L.hs.set P.H.lock (-1)},{P with H:={P.H with holds:=false},nx:=7}):=by
 unfold cH; rw [if_neg (by omega),if_neg (by omega),if_neg (by omega),if_neg (by omega)]
end
abbrev Ep.new (E:Ep) (m:Nat):Nat:=(ai E.L.ss m).gen*65536+m+1
abbrev Ep.ss (E:Ep) (W:Wa) (m:Nat):List Sl:=E.L.ss.set m ⟨true,(ai E.L.ss m).gen,⟨E.key,E.val,sm E.key,gS W⟩⟩
def dK (E:Ep) (W:Wa) (m:Nat):Lm:=if W.found≠0/\W.prev≠0 then {E.L with ss:=aR (E.ss W m) W.prev (E.new m)} else {E.L with ss:=E.ss W m,xs:=E.L.xs.set E.c (E.new m:Nat)}
abbrev jZ (E:Ep) (W:Wa):List Nat:=if W.found≠0 then E.L.ws++[W.found] else E.L.ws
abbrev Ep.p (E:Ep) (nx:Nat) (H:Ho) (W:Wa) (err:Int) (cr:Nat):Pt:=⟨E.s H W,E.val,nx,err,cr⟩
inductive Rp (E:Ep):Nat->Lm×Pt->Prop
 | s (k:Nat) (L:Lm) (S:Sk):Rs E k (L,S)->Rp E (4+k) (L,⟨S,E.val,2,0,0⟩)
 | t (W:Wa):fI E W->Rp E 4 ({E.L with hs:=E.hs},E.p 3 E.H W 0 0)
 | full (W:Wa):fI E W->gm E.L.ss=none->Rp E 1 ({E.L with hs:=E.hs},E.p 6 E.H W 4 0)
 | p (W:Wa) (m:Nat):fI E W->Least E.L.ss m->Rp E 3 ({E.L with hs:=E.hs,ss:=E.ss W m},E.p 4 E.H W 0 (E.new m))
 | r (W:Wa) (m:Nat):fI E W->Least E.L.ss m->W.found≠0->Rp E 2 ({dK E W m with hs:=E.hs},E.p 5 E.H W 0 W.found)
 | d (W:Wa) (m:Nat):fI E W->Least E.L.ss m->Rp E 1 ({dK E W m with hs:=E.hs,ws:=jZ E W},E.p 6 E.H W 0 0)
inductive Qp (E:Ep):Lm×Pt->Prop
 | full (W:Wa):fI E W->gm E.L.ss=none->Qp E (E.L,E.p 7 {E.H with holds:=false} W 4 0)
 | done (W:Wa) (m:Nat):fI E W->Least E.L.ss m->Qp E ({dK E W m with ws:=jZ E W},E.p 7 {E.H with holds:=false} W 0 0)
section
variable {E:Ep} {k:Nat} {s:Lm×Pt}
theorem sr (E:Ep) (W:Wa) (m:Nat):(dK E W m).hs=E.L.hs/\(dK E W m).ds=E.L.ds/\(dK E W m).ws=E.L.ws/\(dK E W m).F=E.L.F/\(dK E W m).k=E.L.k:=by
 unfold dK
 split<;>exact ⟨rfl,rfl,rfl,rfl,rfl⟩
theorem Ie (E:Ep) (W:Wa) (m:Nat):(dK E W m).xs.length=E.L.xs.length:=by
 unfold dK
 split
 ·rfl
 ·simp
theorem Rp.pos (h:Rp E k s):1<=k:=by cases h<;>omega
theorem fI.bd (hE:E.Ok) {W:Wa} (h:fI E W):0<=gS W/\gS W<=18446744073709551615:=by
 unfold gS
 rcases h with ⟨h0,_,hf⟩ | ⟨pre,x,p,t,z,k,hq,hp,hx,hk,bB,hW,hc,jz⟩
 ·rw [if_neg (by omega),hf]
  have:=Cl.eX hE.xb E.c
  have h2:E.word=(Cl.nth E.L.xs E.c).toNat:=rfl
  generalize E.word=ew at*
  omega
 ·rw [if_pos (by rw [hx]; exact hk.pos),hW,<-bB]
  exact hE.cU k
theorem Ep.Ok.RT (hE:E.Ok) (W:Wa) (m:Nat) (hm:Least E.L.ss m):0<=Cl.nth (dK E W m).xs 1/\Cl.nth (dK E W m).xs 1<=18446744073709551615:=by
 unfold dK
 split
 ·exact Cl.eX hE.xb 1
 ·refine Cl.eX (fun x hx=>?_) 1
  rcases List.mem_or_eq_of_mem_set hx with q | rfl
  ·exact hE.xb x q
  ·have:=hE.gen m
   have:=hm.1
   have:=hE.len
   show 0<=(((ai E.L.ss m).gen*65536+m+1:Nat):Int)/\(((ai E.L.ss m).gen*65536+m+1:Nat):Int)<=_
   omega
theorem Ep.Ok.HR (hE:E.Ok) {m:Nat} (hm:Least E.L.ss m):E.new m<=18446744073709551615:=by
 have:=hE.gen m
 have:=hm.1
 have:=hE.len
 show (ai E.L.ss m).gen*65536+m+1<=_
 omega
theorem Ep.Ok.QW (hE:E.Ok) {W:Wa} {m:Nat} (hf:fI E W) (hm:Least E.L.ss m):fo (E.ss W m):=hE.cU.set hm.1 _ (hf.bd hE)
theorem Ep.Ok.live (_hE:E.Ok) {m:Nat} (hm:Least E.L.ss m) {W:Wa} {x j:Nat} (hj:aY E.L.ss x j):aY (E.ss W m) x j:=by
 have Wz:j≠m:=by
  rintro rfl
  have:=hj.2.1
  rw [hm.2.1] at this
  simp at this
 exact (ub hm.1 _ _ _).2 (by rw [if_neg Wz]; exact hj)
theorem Rp.ok (hE:E.Ok) (h:Rp E k s):vn s.1 s.2:=by
 cases h with
 | s k L S h=>exact ⟨by simp,fun q=>by simp at q,fun _=>h.ok hE,fun q=>by simp at q,fun q=>by simp at q,fun q=>by simp at q,fun q=>by simp at q⟩
 | t W hf=>exact ⟨by simp,fun _=>by simp,fun q=>by simp at q,fun _=>hE.gen,fun q=>by simp at q,fun q=>by simp at q,fun q=>by simp at q⟩
 | full W hf hn=>exact ⟨by simp,fun _=>by simp,fun q=>by simp at q,fun q=>by simp at q,fun q=>by simp at q,fun q=>by simp at q,fun _=>⟨hE.ym hE.x1 rfl (Cl.eX hE.xb 1),rfl⟩⟩
 | p W m hf hm=>exact ⟨by simp,fun _=>by simp,fun q=>by simp at q,fun q=>by simp at q,fun _=>hf.yn hE (hE.HR hm) hE.cx (fun x j hj=>hE.live hm hj),fun q=>by simp at q,fun q=>by simp at q⟩
 | r W m hf hm h0=>
   have hp:=sr E W m
   exact ⟨by simp,fun _=>by simp,fun q=>by simp at q,fun q=>by simp at q,fun q=>by simp at q,fun _=>by show (dK E W m).ws.length<=_; rw [hp.2.2.1]; exact hE.ws,fun q=>by simp at q⟩
 | d W m hf hm=>
   have hp:=sr E W m
   exact ⟨by simp,fun _=>by simp,fun q=>by simp at q,fun q=>by simp at q,fun q=>by simp at q,fun q=>by simp at q,fun _=>⟨hE.ym (by show 1<(dK E W m).xs.length; rw [Ie]; exact hE.x1) hp.2.1 (hE.RT W m hm),rfl⟩⟩
def Rq (E:Ep) (k:Nat) (s:Lm×Pt):Prop:=∃ j,j<=k/\Rp E j s
theorem Rp.q {E:Ep} {j:Nat} {s:Lm×Pt} (h:Rp E j s) {k:Nat} (hk:j<=k):Rq E k s:=⟨j,hk,h⟩
theorem Ep.Ok.c0 (_hE:E.Ok):¬((E.c:Int)= -1):=by omega
theorem Rp.step (hE:E.Ok) (h:Rp E k s):qy s.1 s.2=true/\1<=k/\(jI s.1 s.2=true->Qp E (cH s.1 s.2))/\(jI s.1 s.2=false->Rq E (k-1) (cH s.1 s.2)):=by
 cases h with
 | s k L S h=>
   obtain ⟨h1,h2,h3,h4⟩:=h.step hE
   refine ⟨h1,by omega,fun q=>by simp [jI] at q,fun _=>?_⟩
   rw [RO rfl]
   simp only at h3 h4 ⊢
   cases hd:bY L S with
   | true=>
     obtain ⟨W,hf,_,e⟩:=h3 hd
     rw [e]
     simp only [if_true,if_neg hE.c0]
     exact (Rp.t W hf).q (by omega)
   | false=>
     obtain ⟨j,hj,hr⟩:=h4 hd
     simp only [Bool.false_eq_true,if_false]
     have:=Rp.s (E:=E) j (aG L S).1 (aG L S).2 hr
     exact this.q (by omega)
 | t W hf=>
   refine ⟨rfl,by omega,fun q=>by simp [jI] at q,fun _=>?_⟩
   cases bX:gm E.L.ss with
   | some m=>
     have hm:=vW.1 bX
     have e:cH {E.L with hs:=E.hs} (E.p 3 E.H W 0 0)=({E.L with hs:=E.hs,ss:=E.ss W m},E.p 4 E.H W 0 (E.new m)):=RP (L:={E.L with hs:=E.hs}) rfl hm
     rw [e]
     exact (Rp.p W m hf hm).q (by omega)
   | none=>
     have e:cH {E.L with hs:=E.hs} (E.p 3 E.H W 0 0)=({E.L with hs:=E.hs},E.p 6 E.H W 4 0):=RQ (L:={E.L with hs:=E.hs}) rfl bX
     rw [e]
     exact (Rp.full W hf bX).q (by omega)
 | full W hf bX=>
   refine ⟨rfl,by omega,fun _=>?_,fun q=>by simp [jI] at q⟩
   have e:cH {E.L with hs:=E.hs} (E.p 6 E.H W 4 0)=(E.L,E.p 7 {E.H with holds:=false} W 4 0):=by
    rw [Ic rfl]
    show (({E.L with hs:=E.hs.set E.lock (-1)}:Lm),_)=_
    rw [hE.back]
   rw [e]
   exact .full W hf bX
 | p W m hf hm=>
   refine ⟨rfl,by omega,fun q=>by simp [jI] at q,fun _=>?_⟩
   have e:cH {E.L with hs:=E.hs,ss:=E.ss W m} (E.p 4 E.H W 0 (E.new m))=({dK E W m with hs:=E.hs},E.p (if W.found≠0 then 5 else 6) E.H W 0 W.found):=by
    rw [RR rfl]
    refine Prod.ext ?_ rfl
    unfold dK jT
    by_cases hl:W.found≠0/\W.prev≠0
    ·show (if W.found≠0/\W.prev≠0 then _ else _)=_
     rw [if_pos hl,if_pos hl]
    ·show (if W.found≠0/\W.prev≠0 then _ else _)=_
     rw [if_neg hl,if_neg hl]
     show ({E.L with hs:=E.hs,ss:=E.ss W m,xs:=E.L.xs.set ((E.c:Nat):Int).toNat (E.new m:Nat)}:Lm)=_
     rw [Int.toNat_natCast]
   rw [e]
   by_cases h0:W.found≠0
   ·rw [if_pos h0]
    exact (Rp.r W m hf hm h0).q (by omega)
   ·rw [if_neg h0]
    have WA:W.found=0:=by omega
    have:=Rp.d W m hf hm
    have e2:({dK E W m with hs:=E.hs,ws:=jZ E W}:Lm)={dK E W m with hs:=E.hs}:=by
     unfold jZ
     rw [if_neg h0,<-(sr E W m).2.2.1]
    rw [e2] at this
    rw [WA]
    exact this.q (by omega)
 | r W m hf hm h0=>
   refine ⟨rfl,by omega,fun q=>by simp [jI] at q,fun _=>?_⟩
   have e:cH {dK E W m with hs:=E.hs} (E.p 5 E.H W 0 W.found)=({dK E W m with hs:=E.hs,ws:=jZ E W},E.p 6 E.H W 0 0):=by
    rw [RS rfl]
    refine Prod.ext ?_ rfl
    show ({dK E W m with hs:=E.hs,ws:=(dK E W m).ws++[W.found]}:Lm)=_
    unfold jZ
    rw [if_pos h0,(sr E W m).2.2.1]
   rw [e]
   exact (Rp.d W m hf hm).q (by omega)
 | d W m hf hm=>
   refine ⟨rfl,by omega,fun _=>?_,fun q=>by simp [jI] at q⟩
   have e:cH {dK E W m with hs:=E.hs,ws:=jZ E W} (E.p 6 E.H W 0 0)=({dK E W m with ws:=jZ E W},E.p 7 {E.H with holds:=false} W 0 0):=by
    rw [Ic rfl]
    show (({dK E W m with ws:=jZ E W,hs:=E.hs.set E.lock (-1)}:Lm),_)=_
    rw [hE.back,<-(sr E W m).1]
   rw [e]
   exact .done W m hf hm
end
theorem NH {w:World} {M:Mo} {a:Qa} {key val:ByteArray} {i:Int} {h c:Nat} {d:Nat×Nat} {q:List Mq.Hp} (hM:ah w M) (hP:bF w a (jS h i key val)) (hE:Ep.Ok ⟨lm M,key,val,i,h,d,c,q⟩) (K:Nat) (hK:8+q.length<=K/\K<=1000000):
 Calls Tryz.prog 58 #[ptr M.m,.iface 179 (ptr a.f),.int .i64 K] w fun e w'=>∃ (n:Nat) (s:Lm×Pt),e=.returned (.tuple #[.int .i64 n,.bool true])/\(n<=8+q.length/\fin (fun s:Lm×Pt=>qy s.1 s.2) (fun s=>cH s.1 s.2) (fun s=>jI s.1 s.2) K (lm M,jS h i key val)=(n,true,s))/\Qp ⟨lm M,key,val,i,h,d,c,q⟩ s/\yp.Inv M a (jS h i key val) w s w':=by
 refine mN rQ hM hP (Rq ⟨lm M,key,val,i,h,d,c,q⟩) (Qp ⟨lm M,key,val,i,h,d,c,q⟩) ?_ (8+q.length) K ?_ hK.1 hK.2
 ·rintro k s ⟨j,hj,hr⟩
  obtain ⟨h1,h2,h3,h4⟩:=hr.step hE
  refine ⟨hr.ok hE,h1,by omega,h3,fun hd=>?_⟩
  obtain ⟨j',sR,nS⟩:=h4 hd
  exact ⟨j',by omega,nS⟩
 ·exact (Rp.s (E:=⟨lm M,key,val,i,h,d,c,q⟩) (4+q.length) _ _ .a1).q (by omega)
end Go.Proofs.YtpanebgakndddaaGreat.Pu
namespace Go.Proofs.YtpanebgakndddaaGreat.Mq
open Go Hm Ar Mm Wk Pc Me Re Pn
def gq (n:Nat) (cs:Nat->List Hp):List Nat:=(List.range n).flatMap fun b=>aL (cs b)
def eY (cs:Nat->List Hp) (b0:Nat) (q:List Hp) (b:Nat):List Hp:=if b=b0 then q else cs b
theorem QR {α β:Type} {l:List α} {f g:α->List β} (h:∀ a∈l,f a=g a):l.flatMap f=l.flatMap g:=by
 induction l with
 | nil=>rfl
 | cons a t ih=>rw [List.flatMap_cons,List.flatMap_cons,h a (by simp),ih fun b hb=>h b (List.mem_cons_of_mem _ hb)]
theorem yO {n b0:Nat} (h:b0<n) (cs:Nat->List Hp) (q:List Hp):(gq n (eY cs b0 q)).Perm (aL q++((List.range n).erase b0).flatMap fun b=>aL (cs b)):=by
 have h1:(List.range n).Perm (b0::(List.range n).erase b0):=List.perm_cons_erase (by simpa using h)
 have h2:=h1.flatMap_right (fun b=>aL (eY cs b0 q b))
 refine h2.trans ?_
 rw [List.flatMap_cons]
 have e1:aL (eY cs b0 q b0)=aL q:=by unfold eY; rw [if_pos rfl]
 have e2:(((List.range n).erase b0).flatMap fun b=>aL (eY cs b0 q b))=((List.range n).erase b0).flatMap fun b=>aL (cs b):=by
  apply QR
  intro b hb
  have aH:b≠b0:=(List.Nodup.mem_erase_iff List.nodup_range).1 hb |>.1
  unfold eY
  rw [if_neg aH]
 rw [e1,e2]
theorem QS (cs:Nat->List Hp) (b0:Nat):eY cs b0 (cs b0)=cs:=by
 funext b
 unfold eY
 split
 ·rename_i e; rw [e]
 ·rfl
theorem CC {n b0:Nat} (h:b0<n) (cs:Nat->List Hp):(gq n cs).Perm (aL (cs b0)++((List.range n).erase b0).flatMap fun b=>aL (cs b)):=by
 have:=yO h cs (cs b0)
 rw [QS] at this
 exact this
theorem _root_.Go.Proofs.YtpanebgakndddaaGreat.Re.Wr.perm {ss:List Sl} {ws left ws' left':List Nat} {G:Nat} (h:Wr ss ws left G) (hp:(ws'++left').Perm (ws++left)):Wr ss ws' left' G:=by
 have hl:=hp.length_eq
 simp only [List.length_append] at hl
 exact ⟨h.room,hp.nodup_iff.2 h.nd,fun x hx=>h.live x (hp.mem_iff.1 hx),fun k=>by have:=h.mQ k; omega,by have:=h.iF; omega⟩
theorem QT {ss ss':List Sl} (ht:∀ k,(ai ss' k).taken=(ai ss k).taken) (n:Nat):du ss' n=du ss n:=by
 unfold du
 apply List.filter_congr
 intro k _
 rw [ht]
theorem _root_.Go.Proofs.YtpanebgakndddaaGreat.Re.Wr.nodes {ss ss':List Sl} {ws left:List Nat} {G:Nat} (h:Wr ss ws left G) (hl:ss'.length=ss.length) (ht:∀ k,(ai ss' k).taken=(ai ss k).taken/\(ai ss' k).gen=(ai ss k).gen):Wr ss' ws left G:=
 ⟨by rw [hl]; exact h.room,h.nd,fun x hx=>by
  obtain ⟨k,h1,h2,h3⟩:=h.live x hx
  exact ⟨k,by rw [hl]; exact h1,by rw [(ht k).1]; exact h2,by rw [(ht k).2]; exact h3⟩,fun k=>by rw [(ht k).2]; exact h.mQ k,by rw [hl,QT fun k=>(ht k).1]; exact h.iF⟩
structure Mp (L:Lm) (n B:Nat) (cs:Nat->List Hp) (l:List Pr) (G:Nat):Prop where
 pw:FM.bo n=true
 now:Me.now L.xs L.ds=(n,B)
 tabs:l7 L.xs L.ds
 tb:∀ i,(aN L.ds i).1<=65536/\(aN L.ds i).2<=4000000
 k:1<=L.k/\L.k<=8
 kB:2+L.k<=B
 xl:B+n<=L.xs.length
 xb:∀ x∈L.xs,0<=x/\x<=18446744073709551615
 cU:fo L.ss
 ch:∀ b,b<n->Cx L.ss (Cl.nth L.xs (B+b)).toNat (cs b)
 bk:∀ b,b<n->∀ e∈cs b,FM.bucket (sm e.2.1) n=(b:Nat)
 kd:∀ b,b<n->(dO (cs b)).Nodup
 wr:Wr L.ss L.ws (gq n cs) G
 ln:(l.map (·.1)).Nodup
 lk:∀ key,Pc.lk l key=Pc.lk (bp (cs (aj key n))) key
 len:l.length=(gq n cs).length
 zero:∀ i:Nat,(i:Int)<L.k->Cl.nth L.xs (2+i)=0
 hs:L.hs=List.replicate 6 (-1)
 F:L.F=false
section
variable {L:Lm} {n B:Nat} {cs:Nat->List Hp} {l:List Pr} {G:Nat}
theorem Mp.ad (h:Mp L n B cs l G):(gq n cs).Nodup:=(List.nodup_append.1 h.wr.nd).2.1
theorem Mp.gC (h:Mp L n B cs l G):1<=n/\n<=65536:=by
 have:=FM.eW h.pw
 omega
theorem Mp.nC (h:Mp L n B cs l G) {b0 G':Nat} (hb:b0<n) {q:List Hp} {ss':List Sl} {xs':List Int} {ws':List Nat} {l':List Pr}
 (bz:xs'.length=L.xs.length) (hx:∀ j,j≠B+b0->Cl.nth xs' j=Cl.nth L.xs j) (lh:∀ x∈xs',0<=x/\x<=18446744073709551615) (hN:fo ss')
 (hc:Cx ss' (Cl.nth xs' (B+b0)).toNat q) (ho:∀ b,b<n->b≠b0->Cx ss' (Cl.nth L.xs (B+b)).toNat (cs b)) (iW:∀ e∈q,FM.bucket (sm e.2.1) n=(b0:Nat)) (D9:(dO q).Nodup)
 (hw:Wr ss' ws' (gq n (eY cs b0 q)) G') (dG:(l'.map (·.1)).Nodup) (xz:∀ key,aj key n≠b0->Pc.lk l' key=Pc.lk l key) (fG:∀ key,aj key n=b0->Pc.lk l' key=Pc.lk (bp q) key) (bP:l'.length=(gq n (eY cs b0 q)).length):
 Mp {L with xs:=xs',ss:=ss',ws:=ws'} n B (eY cs b0 q) l' G':=by
 have hk:=h.kB
 have JE:=h.k
 refine ⟨h.pw,?_,?_,h.tb,h.k,h.kB,by show B+n<=xs'.length; rw [bz]; exact h.xl,lh,hN,fun b cN=>?_,fun b cN e he=>?_,fun b cN=>?_,hw,dG,fun key=>?_,bP,fun i hi=>?_,h.hs,h.F⟩
 ·have:=h.now
  unfold Me.now at this ⊢
  show aN L.ds (Cl.nth xs' 1).toNat=_
  rw [hx 1 (by omega)]
  exact this
 ·intro i hi
  have:=h.tabs i hi
  show _/\_/\_<=xs'.length
  rw [bz]
  exact this
 ·show Cx ss' (Cl.nth xs' (B+b)).toNat (eY cs b0 q b)
  unfold eY
  split
  ·rename_i e; rw [e]; exact hc
  ·rename_i e
   rw [hx _ (by omega)]
   exact ho b cN e
 ·unfold eY at he
  split at he
  ·rename_i e'; rw [e']; exact iW e he
  ·exact h.bk b cN e he
 ·unfold eY
  split
  ·exact D9
  ·exact h.kd b cN
 ·unfold eY
  split
  ·rename_i e; exact fG key e
  ·rename_i e
   rw [xz key e]
   exact h.lk key
 ·have hi:(i:Int)<L.k:=hi
  show Cl.nth xs' (2+i)=0
  rw [hx _ (by omega)]
  exact h.zero i hi
end
theorem QU {a t:List Pr} {p p':Pr} {k:ByteArray} (h:p.1≠k) (h':p'.1≠k):lk (a++p::t) k=lk (a++p'::t) k:=by
 induction a with
 | nil=>simp [lk,h,h']
 | cons e r ih=>
   rw [List.cons_append,List.cons_append]
   simp only [lk]
   rw [ih]
theorem QV {ss:List Sl} {m:Nat} (hm:Least ss m) (s:Sl) {y k:Nat} (hk:aY ss y k):aY (ss.set m s) y k/\ai (ss.set m s) k=ai ss k/\k≠m:=by
 have aH:k≠m:=by
  rintro rfl
  have:=hk.2.1
  rw [hm.2.1] at this
  simp at this
 refine ⟨(ub hm.1 _ _ _).2 (by rw [if_neg aH]; exact hk),?_,aH⟩
 rw [at_set hm.1,if_neg aH]
end Go.Proofs.YtpanebgakndddaaGreat.Mq
namespace Go.Proofs.YtpanebgakndddaaGreat.Mq
open Go Go.RowKit Hp K Fl Rw Hm Ar Mm Me Wk Ta Pn Pc Pu Re
theorem tE (q:List Mq.Hp):(bp q).map (·.1)=dO q:=by rw [List.map_map]; rfl
section
variable {L:Lm} {n B:Nat} {cs:Nat->List Mq.Hp} {l:List Pr} {G:Nat} {key val:ByteArray} {i:Int} {hb:Nat}
theorem Mp.small (h:Mp L n B cs l G):L.ws.length+(gq n cs).length<=1024/\L.ss.length<=1024:=by
 have:=h.wr.iF
 have:=h.wr.room
 omega
theorem Mp.ql (h:Mp L n B cs l G) {b:Nat} (hb:b<n):(cs b).length<=(gq n cs).length:=by
 have:=(CC hb cs).length_eq
 simp only [List.length_append,List.length_map] at this
 omega
abbrev Mp.ep (L:Lm) (n B:Nat) (cs:Nat->List Mq.Hp) (key val:ByteArray) (i:Int) (hb:Nat):Ep:=⟨L,key,val,i,hb,(n,B),B+aj key n,cs (aj key n)⟩
theorem Mp.rP (h:Mp L n B cs l G) (hG:G<=1000000) (hi:0<=i/\i<=1000):(Mp.ep L n B cs key val i hb).Ok:=by
 have qS:=h.small
 obtain ⟨ax,au⟩:=dI h.pw key
 have zy:=h.ql ax
 have mo:=h.gC
 have eo:=h.kB
 have hk:=h.k
 have bz:=h.xl
 refine ⟨qS.2,h.cU,h.tb,hi,h.xb,h.hs,h.now,by show n≠0; omega,?_,by show B+aj key n<L.xs.length; omega,by show 1<L.xs.length; omega,h.ch _ ax,fun k=>by have:=h.wr.mQ k; show (ai L.ss k).gen<=_; omega,by show L.ws.length<=_; omega,by show (cs _).length<=_; omega⟩
 show ((B+aj key n:Nat):Int)=(B:Int)+FM.bucket (sm key) n
 rw [au]
 omega
theorem tH (h:Mp L n B cs l G) {W:Wa} (hf:fI (Mp.ep L n B cs key val i hb) W):decide (W.found≠0)=(Pc.lk l key).isSome:=by
 rw [h.lk]
 rcases hf with ⟨h0,hk,_⟩ | ⟨pre,x,p,t,z,k,hq,hp,hx,hk,bB,hW,hc,jz⟩
 ·have:Pc.lk (bp (cs (aj key n))) key=none:=nz.2 (by simpa using hk)
  rw [this,h0]
  rfl
 ·have hm:p∈bp (cs (aj key n)):=by
   have hq:cs (aj key n)=_:=hq
   rw [hq]
   simp
  have hp:p.1=key:=hp
  have hn:((bp (cs (aj key n))).map (·.1)).Nodup:=by
   rw [tE]
   exact h.kd _ (dI h.pw key).1
  have:=vp hn hm
  rw [hp] at this
  rw [this,hx]
  simp [hk.pos]
theorem Bd (h:Mp L n B cs l G) (hG:G<=1000000) (hi:0<=i/\i<=1000) {s:Lm×Pt} (hq:Qp (Mp.ep L n B cs key val i hb) s):
 decide (s.2.W.found≠0)=(Pc.lk l key).isSome/\s.2.cr=0/\
  ((gm L.ss=none/\s.1=L/\s.2.err=4)\/((gm L.ss).isSome/\s.2.err=0/\s.1.ws.length=L.ws.length+(if (Pc.lk l key).isSome then 1 else 0)/\s.1.ss.length=L.ss.length/\s.1.k=L.k/\∃ cs',∀ l',tM l l' key val->Mp s.1 n B cs' l' (G+1))):=by
 have hE:=h.rP (key:=key) (val:=val) (i:=i) (hb:=hb) hG hi
 cases hq with
 | full W hf bX=>exact ⟨tH h hf,rfl,.inl ⟨bX,rfl,rfl⟩⟩
 | done W m hf hm=>
   have cw:=tH h hf
   refine ⟨cw,rfl,.inr ⟨by show (gm L.ss).isSome; rw [vW.2 hm]; rfl,rfl,?_,?_,(sr _ W m).2.2.2.2,?_⟩⟩
   ·show (jZ (Mp.ep L n B cs key val i hb) W).length=_
    unfold jZ
    rw [<-cw]
    by_cases h0:W.found≠0
    ·rw [if_pos h0,if_pos (by simpa using h0)]; simp
    ·rw [if_neg h0,if_neg (by simpa using h0)]
     rfl
   ·show (dK _ W m).ss.length=_
    unfold dK aR Ep.ss
    split<;>simp
   obtain ⟨ax,au⟩:=dI h.pw key
   obtain ⟨b0,bV⟩:∃ b0,b0=aj key n:=⟨_,rfl⟩
   have ry:m<L.ss.length:=hm.1
   have bz:=h.xl
   have hN:=hE.QW hf hm
   have mo:=hE.HR hm
   have hs:∀ (y k:Nat),aY L.ss y k->aY (Ep.ss (Mp.ep L n B cs key val i hb) W m) y k/\ai (Ep.ss (Mp.ep L n B cs key val i hb) W m) k=ai L.ss k/\k≠m:=fun y k hk=>QV hm _ hk
   have iM:aY (Ep.ss (Mp.ep L n B cs key val i hb) W m) (Ep.new (Mp.ep L n B cs key val i hb) m) m:=(ub ry _ _ _).2 (by rw [if_pos rfl]; exact ⟨rfl,rfl⟩)
   have bB:(ai (Ep.ss (Mp.ep L n B cs key val i hb) W m) m).nd=⟨key,val,sm key,gS W⟩:=by
    show (ai (L.ss.set m _) m).nd=_
    rw [at_set ry,if_pos rfl]
   have Ea:=h.wr.put hm ⟨key,val,sm key,gS W⟩
   have uV:∀ {l':List Pr},tM l l' key val->∀ key',aj key' n≠b0->Pc.lk l' key'=Pc.lk l key':=fun hu key' aH=>by
    rw [hu.lk,if_neg (by rintro rfl; exact aH bV.symm)]
   have dC:=h.ch b0 (by rw [bV]; exact ax)
   have Ku:∀ x∈L.xs.set (B+b0) ((Ep.new (Mp.ep L n B cs key val i hb) m:Nat):Int),0<=x/\x<=18446744073709551615:=by
    intro x hx
    rcases List.mem_or_eq_of_mem_set hx with q | rfl
    ·exact h.xb x q
    ·exact ⟨by omega,by omega⟩
   have Ag:Cl.nth (L.xs.set (B+b0) ((Ep.new (Mp.ep L n B cs key val i hb) m:Nat):Int)) (B+b0)=((Ep.new (Mp.ep L n B cs key val i hb) m:Nat):Int):=by
    rw [fJ _ _ _ (by omega),if_pos rfl]
   have mE:∀ b,b<n->b≠b0->Cx (Ep.ss (Mp.ep L n B cs key val i hb) W m) (Cl.nth L.xs (B+b)).toNat (cs b):=fun b cN _=>(h.ch b cN).kD fun y _ k hk=>⟨(hs y k hk).1,by rw [(hs y k hk).2.1]⟩
   have dF:=CC (n:=n) (b0:=b0) (by omega) cs
   have tl:=h.kd b0 (by omega)
   have o9:=h.bk b0 (by omega)
   have pW:∀ key',aj key' n=b0->Pc.lk l key'=Pc.lk (bp (cs b0)) key':=fun key' e=>by rw [h.lk,e]
   rcases hf with ⟨h0,hk,gZ⟩ | ⟨pre,x,p,t,z,k,hq,hp,hx,hk,Kv,hW,hc,jz⟩
   ·
    have hk:key∉dO (cs b0):=by rw [bV]; exact hk
    have Eb:gS W=(((Cl.nth L.xs (B+b0)).toNat:Nat):Int):=by
     unfold gS
     rw [if_neg (by omega),gZ,bV]
    have e:({dK (Mp.ep L n B cs key val i hb) W m with ws:=jZ (Mp.ep L n B cs key val i hb) W}:Lm)={L with xs:=L.xs.set (B+b0) ((Ep.new (Mp.ep L n B cs key val i hb) m:Nat):Int),ss:=Ep.ss (Mp.ep L n B cs key val i hb) W m,ws:=L.ws}:=by
     unfold dK jZ
     rw [if_neg (by omega),if_neg (by omega),bV]
    simp only [e]
    refine ⟨eY cs b0 ((Ep.new (Mp.ep L n B cs key val i hb) m,(key,val))::cs b0),fun l' hu=>?_⟩
    have xA:=yO (n:=n) (b0:=b0) (by omega) cs ((Ep.new (Mp.ep L n B cs key val i hb) m,(key,val))::cs b0)
    have ka:(gq n (eY cs b0 ((Ep.new (Mp.ep L n B cs key val i hb) m,(key,val))::cs b0))).Perm (Ep.new (Mp.ep L n B cs key val i hb) m::gq n cs):=xA.trans (List.Perm.cons _ dF.symm)
    have kh:Pc.lk l key=none:=by
     rw [pW key bV.symm]
     exact nz.2 (by simpa using hk)
    refine h.nC (by omega) (by simp) (fun j hj=>?_) Ku hN ?_ mE ?_ ?_ ?_ hu.nd (uV hu) (fun key' e'=>?_) ?_
    ·rw [fJ _ _ _ (by omega),if_neg hj]
    ·rw [Ag,Int.toNat_natCast]
     refine .cons iM (z:=(Cl.nth L.xs (B+b0)).toNat) ?_ (dC.kD fun y _ k hk=>⟨(hs y k hk).1,by rw [(hs y k hk).2.1]⟩)
     rw [bB,Eb]
     rfl
    ·intro e he
     rcases List.mem_cons.1 he with rfl | he
     ·rw [bV]; exact au
     ·exact o9 e he
    ·exact List.nodup_cons.2 ⟨hk,tl⟩
    ·refine Ea.perm ?_
     refine (List.Perm.append_left L.ws ka).trans ?_
     rw [List.append_assoc]
     exact List.Perm.refl _
    ·rw [hu.lk]
     show _=Pc.lk ((key,val)::bp (cs b0)) key'
     simp only [Pc.lk]
     by_cases cm:key'=key
     ·rw [if_pos cm,if_pos cm.symm]
     ·rw [if_neg cm,if_neg (fun q=>cm q.symm)]
      exact pW key' e'
    ·rw [hu.len,kh,ka.length_eq,List.length_cons,h.len]
     rfl
   ·
    have hq:cs b0=pre++(x,p)::t:=by rw [bV]; exact hq
    have hp:p.1=key:=hp
    have lT:W.found≠0:=by rw [hx]; exact hk.pos
    have Eb:gS W=((z:Nat):Int):=by
     unfold gS
     rw [if_pos lT,hW]
     rfl
    have kh:(Pc.lk l key).isSome=true:=by rw [<-cw]; simpa using lT
    have Ec:dO (pre++((Ep.new (Mp.ep L n B cs key val i hb) m,(key,val)):Mq.Hp)::t)=dO (cs b0):=by rw [hq]; simp [hp]
    have xA:=yO (n:=n) (b0:=b0) (by omega) cs (pre++((Ep.new (Mp.ep L n B cs key val i hb) m,(key,val)):Mq.Hp)::t)
    have ka:(x::gq n (eY cs b0 (pre++((Ep.new (Mp.ep L n B cs key val i hb) m,(key,val)):Mq.Hp)::t))).Perm (Ep.new (Mp.ep L n B cs key val i hb) m::gq n cs):=by
     refine (List.Perm.cons x xA).trans ?_
     refine List.Perm.trans ?_ (List.Perm.cons _ dF.symm)
     rw [hq]
     simp only [aL,List.map_append,List.map_cons,List.append_assoc,List.cons_append]
     refine (List.Perm.cons x List.perm_middle).trans ?_
     refine (List.Perm.swap _ _ _).trans ?_
     exact List.Perm.cons _ List.perm_middle.symm
    have xB:∀ {ss':List Sl},Wr ss' (L.ws++[Ep.new (Mp.ep L n B cs key val i hb) m]) (gq n cs) (G+1)->Wr ss' (L.ws++[W.found]) (gq n (eY cs b0 (pre++((Ep.new (Mp.ep L n B cs key val i hb) m,(key,val)):Mq.Hp)::t))) (G+1):=fun hw=>by
     refine hw.perm ?_
     rw [hx,List.append_assoc,List.append_assoc]
     exact List.Perm.append_left _ ka
    have hlen:∀ {l':List Pr},tM l l' key val->l'.length=(gq n (eY cs b0 (pre++((Ep.new (Mp.ep L n B cs key val i hb) m,(key,val)):Mq.Hp)::t))).length:=fun hu=>by
     have:=ka.length_eq
     simp only [List.length_cons] at this
     rw [hu.len,if_pos kh,h.len]
     omega
    have xC:∀ {l':List Pr},tM l l' key val->∀ key',aj key' n=b0->Pc.lk l' key'=Pc.lk (bp (pre++((Ep.new (Mp.ep L n B cs key val i hb) m,(key,val)):Mq.Hp)::t)) key':=fun hu key' e'=>by
     rw [hu.lk]
     by_cases cm:key'=key
     ·rw [if_pos cm,cm]
      refine (vp (p:=(key,val)) ?_ ?_).symm
      ·rw [tE,Ec]; exact tl
      ·simp
     ·rw [if_neg cm,pW key' e',hq]
      simp only [bp,List.map_append,List.map_cons]
      exact QU (by rw [hp]; exact fun q=>cm q.symm) (fun q=>cm q.symm)
    have xD:∀ e∈pre++((Ep.new (Mp.ep L n B cs key val i hb) m,(key,val)):Mq.Hp)::t,FM.bucket (sm e.2.1) n=(b0:Nat):=by
     intro e he
     rcases List.mem_append.1 he with he | he
     ·exact o9 e (by rw [hq]; exact List.mem_append_left _ he)
     ·rcases List.mem_cons.1 he with rfl | he
      ·rw [bV]; exact au
      ·exact o9 e (by rw [hq]; exact List.mem_append_right _ (List.mem_cons_of_mem _ he))
    have Ah:Cx (Ep.ss (Mp.ep L n B cs key val i hb) W m) z t:=hc.kD fun y _ k hk=>⟨(hs y k hk).1,by rw [(hs y k hk).2.1]⟩
    have Kw:(ai (Ep.ss (Mp.ep L n B cs key val i hb) W m) m).nd=dP (key,val) z:=by rw [bB,Eb]; rfl
    by_cases qk:pre=[]
    ·
     subst qk
     have xE:W.prev=0:=jz
     have e:({dK (Mp.ep L n B cs key val i hb) W m with ws:=jZ (Mp.ep L n B cs key val i hb) W}:Lm)={L with xs:=L.xs.set (B+b0) ((Ep.new (Mp.ep L n B cs key val i hb) m:Nat):Int),ss:=Ep.ss (Mp.ep L n B cs key val i hb) W m,ws:=L.ws++[W.found]}:=by
      unfold dK jZ
      rw [if_neg (by omega),if_pos lT,bV]
     simp only [e]
     refine ⟨eY cs b0 ([]++((Ep.new (Mp.ep L n B cs key val i hb) m,(key,val)):Mq.Hp)::t),fun l' hu=>?_⟩
     refine h.nC (by omega) (by simp) (fun j hj=>?_) Ku hN ?_ mE xD (by rw [Ec]; exact tl) (xB Ea) hu.nd (uV hu) (xC hu) (hlen hu)
     ·rw [fJ _ _ _ (by omega),if_neg hj]
     ·rw [Ag,Int.toNat_natCast]
      exact .cons iM Kw Ah
    ·
     have xE:W.prev≠0:=by
      rw [jz]
      exact HL (ss:=L.ss) (by have:=dC; rw [hq] at this; exact this) qk
     obtain ⟨p0,e0,rfl⟩:∃ p0 e,pre=p0++[e]:=⟨pre.dropLast,pre.getLast qk,(List.dropLast_concat_getLast qk).symm⟩
     rw [v7] at jz
     rw [hq] at dC
     obtain ⟨j,zj,hj,Kx⟩:=dC.at e0 (by simp)
     have Ai:=hs _ _ hj
     have qh:=h.small.2
     have xF:(W.prev-1) % 65536=j:=by rw [jz]; exact (mI qh hj).1
     have nj:j<(Ep.ss (Mp.ep L n B cs key val i hb) W m).length:=Ai.1.1
     have e:({dK (Mp.ep L n B cs key val i hb) W m with ws:=jZ (Mp.ep L n B cs key val i hb) W}:Lm)={L with xs:=L.xs,ss:=aR (Ep.ss (Mp.ep L n B cs key val i hb) W m) W.prev (Ep.new (Mp.ep L n B cs key val i hb) m),ws:=L.ws++[W.found]}:=by
      unfold dK jZ
      rw [if_pos ⟨lT,xE⟩,if_pos lT]
     simp only [e]
     have bO:∀ kk,ai (aR (Ep.ss (Mp.ep L n B cs key val i hb) W m) W.prev (Ep.new (Mp.ep L n B cs key val i hb) m)) kk=if kk=j then {ai (Ep.ss (Mp.ep L n B cs key val i hb) W m) j with nd:={(ai (Ep.ss (Mp.ep L n B cs key val i hb) W m) j).nd with next:=((Ep.new (Mp.ep L n B cs key val i hb) m:Nat):Int)}} else ai (Ep.ss (Mp.ep L n B cs key val i hb) W m) kk:=fun kk=>by
      unfold aR
      rw [xF,at_set nj]
     have tm:∀ kk,(ai (aR (Ep.ss (Mp.ep L n B cs key val i hb) W m) W.prev (Ep.new (Mp.ep L n B cs key val i hb) m)) kk).taken=(ai (Ep.ss (Mp.ep L n B cs key val i hb) W m) kk).taken/\(ai (aR (Ep.ss (Mp.ep L n B cs key val i hb) W m) W.prev (Ep.new (Mp.ep L n B cs key val i hb) m)) kk).gen=(ai (Ep.ss (Mp.ep L n B cs key val i hb) W m) kk).gen:=fun kk=>by
      rw [bO]
      split
      ·rename_i e; subst e; exact ⟨rfl,rfl⟩
      ·exact ⟨rfl,rfl⟩
     have bP:(aR (Ep.ss (Mp.ep L n B cs key val i hb) W m) W.prev (Ep.new (Mp.ep L n B cs key val i hb) m)).length=(Ep.ss (Mp.ep L n B cs key val i hb) W m).length:=by unfold aR; simp
     have uW:∀ {y kk:Nat},aY (Ep.ss (Mp.ep L n B cs key val i hb) W m) y kk->aY (aR (Ep.ss (Mp.ep L n B cs key val i hb) W m) W.prev (Ep.new (Mp.ep L n B cs key val i hb) m)) y kk:=fun {y kk} q=>⟨by rw [bP]; exact q.1,by rw [(tm kk).1]; exact q.2.1,by rw [(tm kk).2]; exact q.2.2⟩
     have Ed:=h.ad
     have xG:=dF
     rw [hq] at xG
     have xH:=xG.nodup_iff.1 Ed
     have aH:∀ y kk,aY L.ss y kk->y≠e0.1->kk≠j:=by
      rintro y kk q1 q2 rfl
      exact q2 (by rw [q1.2.2,hj.2.2])
     have kP:∀ y kk,aY L.ss y kk->y≠e0.1->aY (aR (Ep.ss (Mp.ep L n B cs key val i hb) W m) W.prev (Ep.new (Mp.ep L n B cs key val i hb) m)) y kk/\(ai (aR (Ep.ss (Mp.ep L n B cs key val i hb) W m) W.prev (Ep.new (Mp.ep L n B cs key val i hb) m)) kk).nd=(ai L.ss kk).nd:=fun y kk q1 q2=>by
      have h1:=hs y kk q1
      refine ⟨uW h1.1,?_⟩
      rw [bO,if_neg (aH y kk q1 q2),h1.2.1]
     have lI:fo (aR (Ep.ss (Mp.ep L n B cs key val i hb) W m) W.prev (Ep.new (Mp.ep L n B cs key val i hb) m)):=HS hN _ _ mo
     refine ⟨eY cs b0 (p0++[e0]++((Ep.new (Mp.ep L n B cs key val i hb) m,(key,val)):Mq.Hp)::t),fun l' hu=>?_⟩
     have jm:(aL (p0++[e0]++(x,p)::t)).Nodup:=(List.nodup_append.1 xH).1
     have iS:∀ y∈aL p0,y≠e0.1:=by
      intro y hy q
      have:(aL p0++(e0.1::aL ((x,p)::t))).Nodup:=by simpa using jm
      exact (List.nodup_append.1 this).2.2 y hy e0.1 (by simp) q
     have eQ:∀ y∈aL t,y≠e0.1:=by
      intro y hy q
      have:(aL p0++(e0.1::aL ((x,p)::t))).Nodup:=by simpa using jm
      have:=(List.nodup_cons.1 (List.nodup_append.1 this).2.1).1
      exact this (by rw [<-q]; exact List.mem_cons_of_mem _ hy)
     refine h.nC (by omega) rfl (fun j hj=>rfl) h.xb lI ?_ ?_ xD (by rw [Ec]; exact tl) (xB (Ea.nodes bP tm)) hu.nd (uV hu) (xC hu) (hlen hu)
     ·have gJ:Cx (aR (Ep.ss (Mp.ep L n B cs key val i hb) W m) W.prev (Ep.new (Mp.ep L n B cs key val i hb) m)) (Cl.nth L.xs (B+b0)).toNat (p0++e0::(Ep.new (Mp.ep L n B cs key val i hb) m,(key,val))::t):=by
       refine Cx.swap (ss:=L.ss) (m:=m) (kp:=j) (z:=z) (e:=e0) (e':=(x,p)) (uW iM) ?_ ?_ p0 _ (by simpa using dC) hj (uW Ai.1) ?_ (fun y hy kk q=>kP y kk q (iS y hy))
       ·rw [bO,if_neg (by have:=Ai.2.2; omega)]
        exact Kw
       ·exact hc.kD fun y hy kk q=>kP y kk q (eQ y hy)
       ·rw [bO,if_pos rfl]
        have V9:(ai (Ep.ss (Mp.ep L n B cs key val i hb) W m) j).nd=dP e0.2 zj:=by rw [Ai.2.1]; exact Kx
        simp only [V9]
        rfl
      simpa using gJ
     ·intro b cN o6
      refine (h.ch b cN).kD fun y hy kk q=>kP y kk q ?_
      rintro rfl
      have pR:e0.1∈((List.range n).erase b0).flatMap fun b=>aL (cs b):=List.mem_flatMap.2 ⟨b,(List.mem_erase_of_ne o6).2 (by simpa using cN),hy⟩
      exact (List.nodup_append.1 xH).2.2 e0.1 (by simp) e0.1 pR rfl
end
end Go.Proofs.YtpanebgakndddaaGreat.Mq
namespace Go.Proofs.YtpanebgakndddaaGreat.Mq
open Go Go.RowKit Hp K Fl Rw Hm Ar Mm Me Wk Ta Pn Pc Pu Re
structure uc (l l':List Pr) (key:ByteArray):Prop where
 nd:(l'.map (·.1)).Nodup
 lk:∀ k,Pc.lk l' k=if k=key then none else Pc.lk l k
 len:l'.length+(if (Pc.lk l key).isSome then 1 else 0)=l.length
theorem FE {l l':List Pr} {key:ByteArray} (hn:(l.map (·.1)).Nodup) (hp:l'.Perm (l.filter fun p=>decide (p.1≠key))):uc l l' key:=by
 have hf:((l.filter fun p=>decide (p.1≠key)).map (·.1)).Nodup:=(List.filter_sublist.map _).nodup hn
 have gK:(l'.map (·.1)).Nodup:=(hp.map _).nodup_iff.2 hf
 refine ⟨gK,fun k=>?_,?_⟩
 ·rw [HN gK hp,x9]
 ·rw [hp.length_eq]
  exact vq hn key
def gO (L:Lm) (c:Nat) (W:Wa):Lm:=
 if W.found=0 then L else if W.prev≠0 then {L with ss:=aR L.ss W.prev W.nd.next.toNat,ws:=L.ws++[W.found]} else {L with xs:=L.xs.set c W.nd.next,ws:=L.ws++[W.found]}
section
variable {L:Lm} {n B:Nat} {cs:Nat->List Mq.Hp} {l:List Pr} {G:Nat} {key val:ByteArray} {i:Int} {hb:Nat}
theorem Be (h:Mp L n B cs l G) {W:Wa} (hf:fI (Mp.ep L n B cs key val i hb) W):
 (gO L (B+aj key n) W).ws.length=L.ws.length+(if (Pc.lk l key).isSome then 1 else 0)/\(gO L (B+aj key n) W).ss.length=L.ss.length/\(gO L (B+aj key n) W).k=L.k/\
   ∃ cs',∀ l',uc l l' key->Mp (gO L (B+aj key n) W) n B cs' l' G:=by
 have cw:=tH h hf
 refine ⟨?_,?_,?_,?_⟩
 ·unfold gO
  rw [<-cw]
  by_cases h0:W.found=0
  ·rw [if_pos h0,if_neg (by simp [h0])]; rfl
  ·rw [if_neg h0,if_pos (show decide (W.found≠0)=true by simp [h0])]
   split<;>simp
 ·unfold gO aR
  split
  ·rfl
  ·split<;>simp
 ·unfold gO
  split
  ·rfl
  ·split<;>rfl
 obtain ⟨ax,au⟩:=dI h.pw key
 obtain ⟨b0,bV⟩:∃ b0,b0=aj key n:=⟨_,rfl⟩
 have bz:=h.xl
 have uV:∀ {l':List Pr},uc l l' key->∀ key',aj key' n≠b0->Pc.lk l' key'=Pc.lk l key':=fun hu key' aH=>by
  rw [hu.lk,if_neg (by rintro rfl; exact aH bV.symm)]
 have dC:=h.ch b0 (by rw [bV]; exact ax)
 have dF:=CC (n:=n) (b0:=b0) (by omega) cs
 have tl:=h.kd b0 (by omega)
 have o9:=h.bk b0 (by omega)
 have pW:∀ key',aj key' n=b0->Pc.lk l key'=Pc.lk (bp (cs b0)) key':=fun key' e=>by rw [h.lk,e]
 rcases hf with ⟨h0,hk,gZ⟩ | ⟨pre,x,p,t,z,k,hq,hp,hx,hk,Kv,hW,hc,jz⟩
 ·
  have hk:key∉dO (cs b0):=by rw [bV]; exact hk
  have kh:Pc.lk l key=none:=by
   rw [pW key bV.symm]
   exact nz.2 (by rw [tE]; exact hk)
  have e:gO L (B+aj key n) W=L:=by unfold gO; rw [if_pos h0]
  rw [e]
  refine ⟨cs,fun l' hu=>{h with ln:=hu.nd,lk:=fun key'=>?_,len:=?_}⟩
  ·rw [hu.lk,<-h.lk]
   split
   ·rename_i e; rw [e,kh]
   ·rfl
  ·have:=hu.len
   rw [kh] at this
   simp only [Option.isSome_none,Bool.false_eq_true,if_false,Nat.add_zero] at this
   rw [this,h.len]
 ·have hq:cs b0=pre++(x,p)::t:=by rw [bV]; exact hq
  have hp:p.1=key:=hp
  have lT:W.found≠0:=by rw [hx]; exact hk.pos
  have uK:W.nd.next=((z:Nat):Int):=by rw [hW]; rfl
  have kh:(Pc.lk l key).isSome=true:=by rw [<-cw]; simpa using lT
  have xA:=yO (n:=n) (b0:=b0) (by omega) cs (pre++t)
  have ka:(x::gq n (eY cs b0 (pre++t))).Perm (gq n cs):=by
   refine (List.Perm.cons x xA).trans ?_
   refine List.Perm.trans ?_ dF.symm
   rw [hq]
   simp only [aL,List.map_append,List.map_cons,List.append_assoc,List.cons_append]
   exact List.perm_middle.symm
  have xB:∀ {ss':List Sl},Wr ss' L.ws (gq n cs) G->Wr ss' (L.ws++[W.found]) (gq n (eY cs b0 (pre++t))) G:=fun hw=>by
   refine hw.perm ?_
   rw [hx,List.append_assoc]
   exact List.Perm.append_left _ ka
  have uy:(dO (pre++t)).Nodup:=by
   have:(dO (pre++t)).Sublist (dO (cs b0)):=by
    rw [hq]
    exact (List.Sublist.append_left (List.sublist_cons_self _ _) _).map _
   exact this.nodup tl
  have Wb:key∉dO (pre++t):=by
   have h1:(dO (pre++(x,p)::t)).Nodup:=by rw [<-hq]; exact tl
   have h2:(dO (pre++(x,p)::t)).Perm (p.1::dO (pre++t)):=by
    simp only [dO,List.map_append,List.map_cons]
    exact List.perm_middle
   have:=(List.nodup_cons.1 (h2.nodup_iff.1 h1)).1
   rw [hp] at this
   exact this
  have hlen:∀ {l':List Pr},uc l l' key->l'.length=(gq n (eY cs b0 (pre++t))).length:=fun hu=>by
   have h1:=ka.length_eq
   have h2:=hu.len
   rw [if_pos kh,h.len] at h2
   simp only [List.length_cons] at h1
   omega
  have xC:∀ {l':List Pr},uc l l' key->∀ key',aj key' n=b0->Pc.lk l' key'=Pc.lk (bp (pre++t)) key':=fun hu key' e'=>by
   rw [hu.lk]
   by_cases cm:key'=key
   ·rw [if_pos cm,cm]
    exact (nz.2 (by rw [tE]; exact Wb)).symm
   ·rw [if_neg cm,pW key' e',hq]
    simp only [bp,List.map_append,List.map_cons]
    have Wc:¬p.1=key':=by rw [hp]; exact fun q=>cm q.symm
    have:∀ a:List Pr,lk (a++p::t.map (·.2)) key'=lk (a++t.map (·.2)) key':=by
     intro a
     induction a with
     | nil=>simp [lk,Wc]
     | cons e r ih=>rw [List.cons_append,List.cons_append]; simp only [lk]; rw [ih]
    exact this _
  have xD:∀ e∈pre++t,FM.bucket (sm e.2.1) n=(b0:Nat):=by
   intro e he
   rcases List.mem_append.1 he with he | he
   ·exact o9 e (by rw [hq]; exact List.mem_append_left _ he)
   ·exact o9 e (by rw [hq]; exact List.mem_append_right _ (List.mem_cons_of_mem _ he))
  have oY:z<=18446744073709551615:=by
   have:=(h.cU k).2
   have e:(ai L.ss k).nd=dP p z:=Kv
   rw [e] at this
   unfold dP at this
   simp only at this
   omega
  by_cases qk:pre=[]
  ·
   subst qk
   have xE:W.prev=0:=jz
   have e:gO L (B+aj key n) W={L with xs:=L.xs.set (B+b0) ((z:Nat):Int),ss:=L.ss,ws:=L.ws++[W.found]}:=by
    unfold gO
    rw [if_neg lT,if_neg (by omega),bV,uK]
   rw [e]
   refine ⟨eY cs b0 ([]++t),fun l' hu=>?_⟩
   have Ag:Cl.nth (L.xs.set (B+b0) ((z:Nat):Int)) (B+b0)=((z:Nat):Int):=by
    rw [fJ _ _ _ (by omega),if_pos rfl]
   refine h.nC (by omega) (by simp) (fun j hj=>?_) (fun x hx=>?_) h.cU ?_ (fun b hb _=>h.ch b hb) xD uy (xB h.wr) hu.nd (uV hu) (xC hu) (hlen hu)
   ·rw [fJ _ _ _ (by omega),if_neg hj]
   ·rcases List.mem_or_eq_of_mem_set hx with q | rfl
    ·exact h.xb x q
    ·omega
   ·rw [Ag,Int.toNat_natCast]
    exact hc
  ·
   have xE:W.prev≠0:=by
    rw [jz]
    exact HL (ss:=L.ss) (by have:=dC; rw [hq] at this; exact this) qk
   obtain ⟨p0,e0,rfl⟩:∃ p0 e,pre=p0++[e]:=⟨pre.dropLast,pre.getLast qk,(List.dropLast_concat_getLast qk).symm⟩
   rw [v7] at jz
   rw [hq] at dC
   obtain ⟨j,zj,hj,Kx⟩:=dC.at e0 (by simp)
   have qh:=h.small.2
   have xF:(W.prev-1) % 65536=j:=by rw [jz]; exact (mI qh hj).1
   have e:gO L (B+aj key n) W={L with xs:=L.xs,ss:=aR L.ss W.prev z,ws:=L.ws++[W.found]}:=by
    unfold gO
    rw [if_neg lT,if_pos xE,uK,Int.toNat_natCast]
   rw [e]
   have bO:∀ kk,ai (aR L.ss W.prev z) kk=if kk=j then {ai L.ss j with nd:={(ai L.ss j).nd with next:=((z:Nat):Int)}} else ai L.ss kk:=fun kk=>by
    unfold aR
    rw [xF,at_set hj.1]
   have tm:∀ kk,(ai (aR L.ss W.prev z) kk).taken=(ai L.ss kk).taken/\(ai (aR L.ss W.prev z) kk).gen=(ai L.ss kk).gen:=fun kk=>by
    rw [bO]
    split
    ·rename_i e; subst e; exact ⟨rfl,rfl⟩
    ·exact ⟨rfl,rfl⟩
   have bP:(aR L.ss W.prev z).length=L.ss.length:=by unfold aR; simp
   have uW:∀ {y kk:Nat},aY L.ss y kk->aY (aR L.ss W.prev z) y kk:=fun {y kk} q=>⟨by rw [bP]; exact q.1,by rw [(tm kk).1]; exact q.2.1,by rw [(tm kk).2]; exact q.2.2⟩
   have Ed:=h.ad
   have xG:=dF
   rw [hq] at xG
   have xH:=xG.nodup_iff.1 Ed
   have aH:∀ y kk,aY L.ss y kk->y≠e0.1->kk≠j:=by
    rintro y kk q1 q2 rfl
    exact q2 (by rw [q1.2.2,hj.2.2])
   have kP:∀ y kk,aY L.ss y kk->y≠e0.1->aY (aR L.ss W.prev z) y kk/\(ai (aR L.ss W.prev z) kk).nd=(ai L.ss kk).nd:=fun y kk q1 q2=>by
    refine ⟨uW q1,?_⟩
    rw [bO,if_neg (aH y kk q1 q2)]
   refine ⟨eY cs b0 (p0++[e0]++t),fun l' hu=>?_⟩
   have jm:(aL (p0++[e0]++(x,p)::t)).Nodup:=(List.nodup_append.1 xH).1
   have Ky:(aL p0++(e0.1::aL ((x,p)::t))).Nodup:=by simpa using jm
   have iS:∀ y∈aL p0,y≠e0.1:=fun y hy q=>(List.nodup_append.1 Ky).2.2 y hy e0.1 (by simp) q
   have eQ:∀ y∈aL t,y≠e0.1:=fun y hy q=>(List.nodup_cons.1 (List.nodup_append.1 Ky).2.1).1 (by rw [<-q]; exact List.mem_cons_of_mem _ hy)
   refine h.nC (by omega) rfl (fun j hj=>rfl) h.xb (HS h.cU _ _ oY) ?_ ?_ xD uy (xB (h.wr.nodes bP tm)) hu.nd (uV hu) (xC hu) (hlen hu)
   ·have zS:∀ (q:List Mq.Hp) (y:Nat),Cx L.ss y (q++e0::(x,p)::t)->(∀ u∈aL q,u≠e0.1)->Cx (aR L.ss W.prev z) y (q++e0::t):=by
     intro q
     induction q with
     | nil=>
       intro y hy _
       cases hy with
       | @cons _ kk zz pp _ a b c=>
         have Ee:kk=j:=by
          have h1:=a.2.2
          have h2:=hj.2.2
          exact a.uniq qh hj
         subst Ee
         refine .cons (uW a) (z:=z) ?_ (hc.kD fun y hy kk q=>kP y kk q (eQ y hy))
         rw [bO,if_pos rfl]
         simp only [b]
         rfl
     | cons e1 r ih=>
       intro y hy hu
       cases hy with
       | @cons _ kk zz pp _ a b c=>
         have:=kP _ kk a (hu _ (by simp))
         exact .cons this.1 (this.2.trans b) (ih _ c fun u Wd=>hu u (List.mem_cons_of_mem _ Wd))
    have:=zS p0 _ (by simpa using dC) iS
    simpa using this
   ·intro b cN o6
    refine (h.ch b cN).kD fun y hy kk q=>kP y kk q ?_
    rintro rfl
    have pR:e0.1∈((List.range n).erase b0).flatMap fun b=>aL (cs b):=List.mem_flatMap.2 ⟨b,(List.mem_erase_of_ne o6).2 (by simpa using cN),hy⟩
    exact (List.nodup_append.1 xH).2.2 e0.1 (by simp) e0.1 pR rfl
end
end Go.Proofs.YtpanebgakndddaaGreat.Mq
namespace Go.Proofs.YtpanebgakndddaaGreat.Dl
open Go Go.RowKit Hp K Fl Rw Hm Ar Mm Me Wk Ta Pn Pc Pu Mq
set_option maxRecDepth 100000
def ku (h:Nat) (k:Int) (key:ByteArray):Dt:=⟨ju h k (sm key) key,2,0⟩
set_option maxHeartbeats 1000000 in
theorem mO (k:Int) (key:ByteArray) (hk:key.size<=maxLen) (w:World):
 Calls Tryz.prog 81 #[.int .i64 k,.string key] w fun e w'=>∃ (a:Qa) (h:Nat),e=.returned (ptr a.f)/\cB w' a (ku h k key)/\(∀ x,gD a (ku h k key) x->w.heap.size<=x)/\Below w.heap.size w w':=by
 have hS:=Lib.hid (lZ.x8 key w hk)
 unfold ku sm
 generalize hs:FM.sum key.data.toList=s at*
 replace hs:=Lib.hid hs
 have hN:=Lib.hid (FX k s key w)
 go_enter Tryz.func81,Tryz.ntmps81
 go_wp2_with fail
 refine hS.out.mono ?_
 rintro e w0 ⟨rfl,hw⟩
 obtain rfl:w=w0:=hw.symm
 clear hS hw
 go_wp2_with fail
 refine hN.out.mono ?_
 rintro e w1 ⟨a,h,rfl,kK,JH,aJ⟩
 obtain ⟨w2,bl⟩:∃ w2,w2=w1.alloc (.cells #[ptr a.f,.nilFunc,.int .u64 0] 193):=⟨_,rfl⟩
 have aQ:af w2 w1.heap.size 193 #[ptr a.f,.nilFunc,.int .u64 0]:=by rw [bl]; exact af.made w1 _ _
 have sU:Below w1.heap.size w1 w2:=by rw [bl]; exact (Below.refl _ _).alloc (Nat.le_refl _) _
 obtain ⟨f,hf⟩:∃ f,f=w1.heap.size:=⟨_,rfl⟩
 rw [<-hf] at aQ
 have gZ:w.heap.size<=f:=by rw [hf]; exact aJ.size
 have ag:=aJ.trans (sU.mono aJ.size)
 have iQ:=kK.below sU
 have k1:=aQ.cell 1
 simp at k1
 have z1:=aQ.frozen 1
 have az:=Lib.hid (ag.setCell (p:=⟨f,1,none⟩) gZ (aT 108 (ptr f)))
 have hO:=(ab.refl (·=f) w2).setCell (p:=⟨f,1,none⟩) (.inl rfl) (aT 108 (ptr f))
 have aH:∀ x,cg a (ju h k s key) x->¬x=f:=fun x hx e=>by have:=kK.lt hx; omega
 have hE:Hid (cB (w2.setCell ⟨f,1,none⟩ (aT 108 (ptr f))) ⟨f,a.f,a.w⟩ ⟨ju h k s key,2,0⟩):=Lib.hid
  ⟨aQ.store 1 (aT 108 (ptr f)),iQ.only hO aH⟩
 have fS:Hid (∀ x,gD ⟨f,a.f,a.w⟩ ⟨ju h k s key,2,0⟩ x->w.heap.size<=x):=Lib.hid (by
  rintro x (q | q)
  ·simp only at q; omega
  ·exact JH x q)
 clear hN kK JH aJ sU aQ ag hO aH iQ
 go_upto_region 2 with (fail)
 rw [<-bl,<-hf]
 clear bl hf
 go_wp2_with fail
 go_ret
 exact ⟨_,_,rfl,hE.out,fS.out,az.out⟩
theorem yl {w:World} {F f:Nat} {cv m:Value} {c:Bool} {P:World->Prop} (c4:w.cell? ⟨f,1,none⟩=some (aT F cv)) (eF:∀ args w,(callFunc F args).run Tryz.prog w=.ok (.enter F args) w)
 (hF:Calls Tryz.prog F #[cv,m] w fun e w'=>e=.returned (.bool c)/\P w'):Calls Tryz.prog 274 #[ptr f,m] w fun e w'=>e=.returned (.bool c)/\P w':=by
 replace hF:=Lib.hid hF
 go_enter Tryz.func274,Tryz.ntmps274
 go_wp2_with fail
 refine hF.out.mono ?_
 rintro e w' ⟨rfl,bj⟩
 replace bj:=Lib.hid bj
 clear c4
 go_wp2_with fail
 go_ret
 exact ⟨rfl,bj.out⟩
theorem Nr (args:Array Value) (w:World):(callFunc 108 args).run Tryz.prog w=.ok (.enter 108 args) w:=by kernel_rfl
theorem Ns (args:Array Value) (w:World):(callFunc 145 args).run Tryz.prog w=.ok (.enter 145 args) w:=by kernel_rfl
theorem Nt (args:Array Value) (w:World):(callFunc 180 args).run Tryz.prog w=.ok (.enter 180 args) w:=by kernel_rfl
theorem Nu (args:Array Value) (w:World):(callFunc 144 args).run Tryz.prog w=.ok (.enter 144 args) w:=by kernel_rfl
section
variable {w w':World} {M:Mo} {a:Qa} {D:Dt}
theorem Nv (hM:ah w M) (h:cB w a D) (hl:D.ph=1->ig M.xs M.ds (M.hs,D.H)):Calls Tryz.prog 273 #[ptr a.f,ptr M.m] w fun e w'=>e=.returned (.bool (fP (lm M) D))/\Below w.heap.size w w':=by
 have c3:=h.hd.1
 have hR:=FY hM h.2 hl
 unfold fP
 generalize eL (lm M) D.toSk=b at*
 replace hR:=Lib.hid hR
 clear hM h hl
 go_enter Tryz.func273,Tryz.ntmps273
 go_wp2_with fail
 refine hR.out.mono ?_
 rintro e w' ⟨rfl,hb⟩
 replace hb:=Lib.hid hb
 clear c3
 go_wp2_with fail
 go_ret
 exact ⟨rfl,hb.out⟩
theorem Nw (hM:ah w M) (h:cB w a D) (ok:vo (lm M) D) (hr:fP (lm M) D=true):
 Calls Tryz.prog 274 #[ptr a.f,ptr M.m] w fun e w'=>e=.returned (.bool (jb (lm M) D))/\oB w M a D (aO (lm M) D).1 (aO (lm M) D).2 w':=by
 have c4:=h.hd.2.1
 unfold kS at c4
 have fF:=ok.nx
 unfold jb
 by_cases e2:D.nx=2
 ·rw [if_pos e2] at c4
  rw [show decide (6<=D.nx)=false by simp; omega]
  obtain ⟨r,o⟩:=ok.sk e2
  exact yl c4 Nr (Bn hM h o hr e2)
 rw [if_neg e2] at c4
 by_cases e4:D.nx=4
 ·rw [if_pos e4] at c4
  rw [show decide (6<=D.nx)=false by simp; omega]
  exact yl c4 Ns (No hM h (ok.lead e4).1 (ok.lead e4).2 e4)
 rw [if_neg e4] at c4
 by_cases e5:D.nx=5
 ·rw [if_pos e5] at c4
  rw [show decide (6<=D.nx)=false by simp; omega]
  exact yl c4 Nt (Np hM h (ok.ret e5) e5)
 rw [if_neg e5] at c4
 have e6:D.nx=6:=by omega
 rw [if_pos e6] at c4
 rw [show decide (6<=D.nx)=true by simp; omega]
 exact yl c4 Nu (Nq hM h (ok.drop e6).1 (ok.drop e6).2 e6)
end
theorem rR:oA Bl 164 273 274 vo fP aO jb where
 below h hb:=h.below hb
 mr b w f:=by kernel_rfl
 ms b w f:=by kernel_rfl
 er args w:=by kernel_rfl
 es args w:=by kernel_rfl
 ready {w M a p} hM h ok:=Nv hM h (fun q=>by
  by_cases e2:p.nx=2
  ·obtain ⟨r,o⟩:=ok.sk e2
   exact o.hd q
  ·exact absurd q (ok.ph e2))
 step hM h ok hr:=Nw hM h ok hr
section
variable {L:Lm} {D:Dt}
theorem Nx (h:D.nx=2):aO L D=((aG L D.toSk).1,{D with toSk:=(aG L D.toSk).2,nx:=if bY L D.toSk=true then (if (aG L D.toSk).2.W.found≠0 then 4 else 6) else 2}):=by
 unfold aO; rw [if_pos h]
theorem Ny (h:D.nx=4):aO L D=(jT L D.toSk D.W.nd.next.toNat,{D with cr:=D.W.found,nx:=5}):=by
 unfold aO; rw [if_neg (by omega),if_pos h]
theorem Nz (h:D.nx=5):aO L D=({L with ws:=L.ws++[D.cr]},{D with cr:=0,nx:=6}):=by
 unfold aO; rw [if_neg (by omega),if_neg (by omega),if_pos h]
theorem FZ (h:D.nx=6):aO L D=({L with hs:=L.hs.set D.H.lock (-1)},{D with H:={D.H with holds:=false},nx:=7}):=by
 unfold aO; rw [if_neg (by omega),if_neg (by omega),if_neg (by omega)]
end
abbrev Ep.t (E:Ep) (nx:Nat) (H:Ho) (W:Wa) (cr:Nat):Dt:=⟨E.s H W,nx,cr⟩
def jc (E:Ep) (W:Wa):Lm:=if W.prev≠0 then {E.L with ss:=aR E.L.ss W.prev W.nd.next.toNat} else {E.L with xs:=E.L.xs.set E.c W.nd.next}
inductive Rd (E:Ep):Nat->Lm×Dt->Prop
 | s (k:Nat) (L:Lm) (S:Sk):Rs E k (L,S)->Rd E (3+k) (L,⟨S,2,0⟩)
 | none (W:Wa):fI E W->W.found=0->W.nd=.zero->Rd E 1 ({E.L with hs:=E.hs},Ep.t E 6 E.H W 0)
 | p (W:Wa):fI E W->W.found≠0->Rd E 3 ({E.L with hs:=E.hs},Ep.t E 4 E.H W 0)
 | r (W:Wa):fI E W->W.found≠0->Rd E 2 ({jc E W with hs:=E.hs},Ep.t E 5 E.H W W.found)
 | d (W:Wa):fI E W->W.found≠0->Rd E 1 ({jc E W with hs:=E.hs,ws:=E.L.ws++[W.found]},Ep.t E 6 E.H W 0)
def Qd (E:Ep) (s:Lm×Dt):Prop:=∃ W,fI E W/\(W.found=0->W.nd=.zero)/\s=(gO E.L E.c W,Ep.t E 7 {E.H with holds:=false} W 0)
section
variable {E:Ep} {k:Nat} {s:Lm×Dt}
theorem Bo (E:Ep) (W:Wa):(jc E W).hs=E.L.hs/\(jc E W).ds=E.L.ds/\(jc E W).ws=E.L.ws/\(jc E W).xs.length=E.L.xs.length:=by
 unfold jc
 split
 ·exact ⟨rfl,rfl,rfl,rfl⟩
 ·exact ⟨rfl,rfl,rfl,by simp⟩
theorem fI.next (hE:E.Ok) {W:Wa} (h:fI E W) (h0:W.found≠0):0<=W.nd.next/\W.nd.next<=18446744073709551615:=by
 rcases h with ⟨h1,_⟩ | ⟨pre,x,p,t,z,kk,hq,hp,hx,hk,bB,hW,hc,jz⟩
 ·exact absurd h1 h0
 ·rw [hW,<-bB]
  exact hE.cU kk
theorem Ep.Ok.NA (hE:E.Ok) {W:Wa} (hf:fI E W) (h0:W.found≠0):0<=Cl.nth (jc E W).xs 1/\Cl.nth (jc E W).xs 1<=18446744073709551615:=by
 unfold jc
 split
 ·exact Cl.eX hE.xb 1
 ·refine Cl.eX (fun x hx=>?_) 1
  rcases List.mem_or_eq_of_mem_set hx with q | rfl
  ·exact hE.xb x q
  ·exact fI.next hE hf h0
theorem Rd.ok (hE:E.Ok) (h:Rd E k s):vo s.1 s.2:=by
 cases h with
 | s k L S h=>exact ⟨.inl rfl,fun q=>by simp at q,fun _=>h.ok hE,fun q=>by simp at q,fun q=>by simp at q,fun q=>by simp at q⟩
 | none W hf h0 hz=>exact ⟨by simp,fun _=>by simp,fun q=>by simp at q,fun q=>by simp at q,fun q=>by simp at q,fun _=>⟨hE.ym hE.x1 rfl (Cl.eX hE.xb 1),rfl⟩⟩
 | p W hf h0=>
   have hn:=fI.next hE hf h0
   exact ⟨by simp,fun _=>by simp,fun q=>by simp at q,fun _=>⟨hn.1,hf.yn hE (by simp only; omega) hE.cx (fun x j hj=>hj)⟩,fun q=>by simp at q,fun q=>by simp at q⟩
 | r W hf h0=>
   have hp:=Bo E W
   exact ⟨by simp,fun _=>by simp,fun q=>by simp at q,fun q=>by simp at q,fun _=>by show (jc E W).ws.length<=_; rw [hp.2.2.1]; exact hE.ws,fun q=>by simp at q⟩
 | d W hf h0=>
   have hp:=Bo E W
   exact ⟨by simp,fun _=>by simp,fun q=>by simp at q,fun q=>by simp at q,fun q=>by simp at q,fun _=>⟨hE.ym (by show 1<(jc E W).xs.length; rw [hp.2.2.2]; exact hE.x1) hp.2.1 (Ep.Ok.NA hE hf h0),rfl⟩⟩
def tG (E:Ep) (k:Nat) (s:Lm×Dt):Prop:=∃ j,j<=k/\Rd E j s
theorem Rd.q {E:Ep} {j:Nat} {s:Lm×Dt} (h:Rd E j s) {k:Nat} (hk:j<=k):tG E k s:=⟨j,hk,h⟩
theorem Rd.step (hE:E.Ok) (h:Rd E k s):fP s.1 s.2=true/\1<=k/\(jb s.1 s.2=true->Qd E (aO s.1 s.2))/\(jb s.1 s.2=false->tG E (k-1) (aO s.1 s.2)):=by
 cases h with
 | s k L S h=>
   obtain ⟨h1,h2,h3,h4⟩:=h.step hE
   refine ⟨h1,by omega,fun q=>by simp [jb] at q,fun _=>?_⟩
   rw [Nx rfl]
   simp only at h3 h4 ⊢
   cases hd:bY L S with
   | true=>
     obtain ⟨W,hf,hz,e⟩:=h3 hd
     rw [e]
     simp only [if_true]
     by_cases h0:W.found≠0
     ·rw [if_pos h0]
      exact (Rd.p W hf h0).q (by omega)
     ·rw [if_neg h0]
      exact (Rd.none W hf (by omega) (hz (by omega))).q (by omega)
   | false=>
     obtain ⟨j,hj,hr⟩:=h4 hd
     simp only [Bool.false_eq_true,if_false]
     have:=Rd.s (E:=E) j (aG L S).1 (aG L S).2 hr
     exact this.q (by omega)
 | none W hf h0 hz=>
   refine ⟨rfl,by omega,fun _=>⟨W,hf,fun _=>hz,?_⟩,fun q=>by simp [jb] at q⟩
   rw [FZ rfl]
   unfold gO
   rw [if_pos h0]
   show (({E.L with hs:=E.hs.set E.lock (-1)}:Lm),_)=_
   rw [hE.back]
 | p W hf h0=>
   refine ⟨rfl,by omega,fun q=>by simp [jb] at q,fun _=>?_⟩
   have hn:=fI.next hE hf h0
   have e:aO {E.L with hs:=E.hs} (Ep.t E 4 E.H W 0)=({jc E W with hs:=E.hs},Ep.t E 5 E.H W W.found):=by
    rw [Ny rfl]
    refine Prod.ext ?_ rfl
    unfold jc jT
    by_cases hl:W.prev≠0
    ·show (if W.found≠0/\W.prev≠0 then _ else _)=_
     rw [if_pos ⟨h0,hl⟩,if_pos hl]
    ·show (if W.found≠0/\W.prev≠0 then _ else _)=_
     rw [if_neg (fun q=>hl q.2),if_neg hl]
     show ({E.L with hs:=E.hs,xs:=E.L.xs.set ((E.c:Nat):Int).toNat ((W.nd.next.toNat:Nat):Int)}:Lm)=_
     rw [Int.toNat_natCast,show ((W.nd.next.toNat:Nat):Int)=W.nd.next by omega]
   rw [e]
   exact (Rd.r W hf h0).q (by omega)
 | r W hf h0=>
   refine ⟨rfl,by omega,fun q=>by simp [jb] at q,fun _=>?_⟩
   have e:aO {jc E W with hs:=E.hs} (Ep.t E 5 E.H W W.found)=({jc E W with hs:=E.hs,ws:=E.L.ws++[W.found]},Ep.t E 6 E.H W 0):=by
    rw [Nz rfl]
    refine Prod.ext ?_ rfl
    show ({jc E W with hs:=E.hs,ws:=(jc E W).ws++[W.found]}:Lm)=_
    rw [(Bo E W).2.2.1]
   rw [e]
   exact (Rd.d W hf h0).q (by omega)
 | d W hf h0=>
   refine ⟨rfl,by omega,fun _=>⟨W,hf,fun q=>absurd q h0,?_⟩,fun q=>by simp [jb] at q⟩
   rw [FZ rfl]
   refine Prod.ext ?_ rfl
   show ({jc E W with ws:=E.L.ws++[W.found],hs:=E.hs.set E.lock (-1)}:Lm)=gO E.L E.c W
   rw [hE.back]
   unfold gO jc
   rw [if_neg h0]
   by_cases hl:W.prev≠0
   ·rw [if_pos hl,if_pos hl]
   ·rw [if_neg hl,if_neg hl]
end
theorem NB {w:World} {M:Mo} {a:Qa} {key val:ByteArray} {i:Int} {h c:Nat} {d:Nat×Nat} {q:List Mq.Hp} (hM:ah w M) (hP:cB w a (ku h i key)) (hE:Ep.Ok ⟨lm M,key,val,i,h,d,c,q⟩) (K:Nat) (hK:7+q.length<=K/\K<=1000000):
 Calls Tryz.prog 58 #[ptr M.m,.iface 164 (ptr a.f),.int .i64 K] w fun e w'=>∃ (n:Nat) (s:Lm×Dt),e=.returned (.tuple #[.int .i64 n,.bool true])/\(n<=7+q.length/\fin (fun s:Lm×Dt=>fP s.1 s.2) (fun s=>aO s.1 s.2) (fun s=>jb s.1 s.2) K (lm M,ku h i key)=(n,true,s))/\Qd ⟨lm M,key,val,i,h,d,c,q⟩ s/\Bl.Inv M a (ku h i key) w s w':=by
 refine mN rR hM hP (tG ⟨lm M,key,val,i,h,d,c,q⟩) (Qd ⟨lm M,key,val,i,h,d,c,q⟩) ?_ (7+q.length) K ?_ hK.1 hK.2
 ·rintro k s ⟨j,hj,hr⟩
  obtain ⟨h1,h2,h3,h4⟩:=hr.step hE
  refine ⟨hr.ok hE,h1,by omega,h3,fun hd=>?_⟩
  obtain ⟨j',sR,nS⟩:=h4 hd
  exact ⟨j',by omega,nS⟩
 ·exact (Rd.s (E:=⟨lm M,key,val,i,h,d,c,q⟩) (4+q.length) _ _ .a1).q (by omega)
end Go.Proofs.YtpanebgakndddaaGreat.Dl
namespace Go.Proofs.YtpanebgakndddaaGreat.Sw
open Go Go.RowKit Hp K Fl Rw Hm Ar Mm Me Qs Wk Pn
set_option maxRecDepth 100000
structure Sh where
 worker:Int
 nx:Nat
 err:Int
 el:Nat×Nat
 nw:Nat×Nat
 num:Int
 bucket:Nat
 fi:Nat
 sec:Nat
 at_:Nat
 la:Nat
 met:List Nat
 W:Wt
structure Sc where
 f:Nat
 mv:Value
 B:Nat
 w:Nat
def nJ (a:Sc) (nx:Nat):Value:=if nx=9 then aT 56 (ptr a.w) else dW 157
def mh (a:Sc) (nx:Nat):Value:=if nx=1 then aT 119 (ptr a.f) else if nx=2 then aT 158 (ptr a.f) else if nx=3 then aT 191 (ptr a.f)
 else if nx=4 then aT 210 (ptr a.f) else if nx=5 then aT 237 (ptr a.f) else if nx=6 then aT 242 (ptr a.f)
 else if nx=7 then aT 235 (ptr a.f) else if nx=8 then aT 241 (ptr a.f) else if nx=9 then aT 74 (ptr a.w) else dW 190
def dS (a:Sc) (G:Sh):Array Value:=#[.int .i64 G.worker,nJ a G.nx,mh a G.nx,.int .i64 G.err,.int .i64 G.el.1,.int .i64 G.el.2,.int .i64 G.nw.1,.int .i64 G.nw.2,.int .i64 G.num,.int .i64 G.bucket,.int .u64 G.fi,.int .u64 G.sec,.int .u64 G.at_,.int .u64 G.la,a.mv]
abbrev Own (w:World) (a:Sc) (G:Sh):Prop:=af w a.f 205 (dS a G)
structure cI (w:World) (a:Sc) (G:Sh):Prop where
 an:Own w a G
 c5:G.nx=5->a.mv=.map (some a.B)/\Me.Met w a.B G.met
 wt:G.nx=9->cZ w a.w G.W
def cg (a:Sc) (G:Sh) (x:Nat):Prop:=x=a.f\/(G.nx=5/\x=a.B)\/(G.nx=9/\x=a.w)
abbrev gr:iH Sc Sh:=⟨Sc.f,cI,cg⟩
section
variable {w w':World} {M:Mo} {a:Sc} {G:Sh}
theorem cI.ty (h:cI w a G) {x:Nat} (hx:cg a G x):Ty w x [205,157]\/∃ ms,Me.Met w x ms:=by
 rcases hx with rfl | ⟨hn,rfl⟩ | ⟨hn,rfl⟩
 ·exact .inl ((aV h.an).mono (by simp))
 ·exact .inr ⟨_,(h.c5 hn).2⟩
 ·exact .inl ((aV (h.wt hn)).mono (by simp))
theorem cI.lt (h:cI w a G) {x:Nat} (hx:cg a G x):x<w.heap.size:=by
 rcases h.ty hx with q | ⟨ms,q⟩
 ·exact q.lt
 ·exact q.lt
theorem cI.aA (h:cI w a G) (hM:ah w M) {x:Nat} (hx:cg a G x):¬ao M x:=fun hm=>by
 rcases h.ty hx with q | ⟨ms,q⟩
 ·exact (hM.ty hm).apart q (by decide)
 ·exact q.no (hM.ty hm)
theorem cI.only {S:Nat->Prop} (h:cI w a G) (ho:ab S w w') (hn:∀ x,cg a G x->¬S x):cI w' a G where
 an:=h.an.only ho (hn _ (.inl rfl))
 c5 q:=⟨(h.c5 q).1,(h.c5 q).2.only ho (hn _ (.inr (.inl ⟨q,rfl⟩)))⟩
 wt q:=(h.wt q).only ho (hn _ (.inr (.inr ⟨q,rfl⟩)))
theorem cI.below (h:cI w a G) (hb:Below w.heap.size w w'):cI w' a G:=h.only (ab.aD hb (fun _=>False)) (by simp)
theorem cI.drewN (h:cI w a G) (n:Nat):cI (w.drewN n) a G:=h.only ((ab.refl (fun _=>False) w).drewN n) (by simp)
theorem rY (h:Own w a G):w.cell? ⟨a.f,0,none⟩=some (.int .i64 G.worker)/\w.cell? ⟨a.f,1,none⟩=some (nJ a G.nx)/\w.cell? ⟨a.f,2,none⟩=some (mh a G.nx)/\w.cell? ⟨a.f,3,none⟩=some (.int .i64 G.err)/\
 w.cell? ⟨a.f,4,none⟩=some (.int .i64 G.el.1)/\w.cell? ⟨a.f,5,none⟩=some (.int .i64 G.el.2)/\w.cell? ⟨a.f,6,none⟩=some (.int .i64 G.nw.1)/\w.cell? ⟨a.f,7,none⟩=some (.int .i64 G.nw.2)/\
 w.cell? ⟨a.f,8,none⟩=some (.int .i64 G.num)/\w.cell? ⟨a.f,9,none⟩=some (.int .i64 G.bucket)/\w.cell? ⟨a.f,10,none⟩=some (.int .u64 G.fi)/\w.cell? ⟨a.f,11,none⟩=some (.int .u64 G.sec)/\
 w.cell? ⟨a.f,12,none⟩=some (.int .u64 G.at_)/\w.cell? ⟨a.f,13,none⟩=some (.int .u64 G.la)/\w.cell? ⟨a.f,14,none⟩=some a.mv:=
 ⟨h.cell 0,h.cell 1,h.cell 2,h.cell 3,h.cell 4,h.cell 5,h.cell 6,h.cell 7,h.cell 8,h.cell 9,h.cell 10,h.cell 11,h.cell 12,h.cell 13,h.cell 14⟩
theorem C5 (h:Own w a G) {B:Nat} {ms:List Nat} (hm:Me.Met w B ms):B≠a.f:=fun e=>hm.no (by rw [e]; exact aV h)
end
/-! ### its steps as plain data-/
def fR (G:Sh):Sh:={G with bucket:=G.bucket+1,nx:=if G.bucket+1=G.nw.1 then 8 else 3}
def bD (G:Sh):Sh:=if G.fi=0 then (if G.sec=0 then fR G else {G with fi:=G.sec,nx:=7}) else {G with nx:=7}
def kZ (G:Sh):Sh:=if G.la=0 then bD {G with fi:=0} else if G.sec∈G.met then bD G else {G with nx:=6}
def dg (G:Sh) (x:Nat):Sh:=if x=0\/x∈G.met then kZ G else {G with at_:=x,nx:=5}
def begun (G:Sh):Sh:=if G.fi=0\/G.sec=0 then bD G else dg {G with la:=0,met:=[]} G.fi
def aG (L:Lm) (G:Sh):Lm×Sh:=
 if G.nx=1 then (L,{G with el:=now L.xs L.ds,nx:=2})
 else if G.nx=2 then
  (if FM.bo ((G.el.1 / 2:Nat):Int)=true/\L.xs.length+G.el.1 / 2<=1048576 then
    ({L with xs:=L.xs++List.replicate (G.el.1 / 2) 0,ds:=L.ds++[(G.el.1 / 2,L.xs.length)]},{G with num:=L.ds.length,err:=0,nw:=(G.el.1 / 2,L.xs.length),nx:=3})
  else (L,{G with num:= -1,err:=if FM.bo ((G.el.1 / 2:Nat):Int)=true then 2 else 5,nx:=10}))
 else if G.nx=3 then (L,{G with fi:=(Cl.nth L.xs (G.el.2+G.bucket)).toNat,nx:=4})
 else if G.nx=4 then (L,begun {G with sec:=(Cl.nth L.xs (G.el.2+(G.bucket+G.nw.1))).toNat})
 else if G.nx=5 then (L,dg {G with la:=G.at_,met:=G.at_::G.met} (ai L.ss ((G.at_-1) % 65536)).nd.next.toNat)
 else if G.nx=6 then ({L with ss:=Pu.aR L.ss G.la G.sec},bD G)
 else if G.nx=7 then ({L with xs:=L.xs.set (G.nw.2+G.bucket) ((G.fi:Nat):Int)},fR G)
 else if G.nx=8 then ({L with xs:=L.xs.set 1 G.num},{G with W:=⟨G.worker,0,0,0⟩,nx:=9})
 else ({L with xs:=(aI L.k.toNat L.xs L.hs G.W).1,hs:=(aI L.k.toNat L.xs L.hs G.W).2.1},{G with W:=(aI L.k.toNat L.xs L.hs G.W).2.2})
def eL (L:Lm) (G:Sh):Bool:=if G.nx=9 then fQ L.xs L.hs G.W else true
def bY (L:Lm) (G:Sh):Bool:=
 if G.nx=2 then !decide (FM.bo ((G.el.1 / 2:Nat):Int)=true/\L.xs.length+G.el.1 / 2<=1048576) else if G.nx=9 then decide (G.W.at_=3) else decide (10<=G.nx)
structure pz (L:Lm) (G:Sh):Prop where
 nx:1<=G.nx/\G.nx<=9
 x1:1<L.xs.length
 hl:0<L.hs.length
 ds:L.ds.length<=900000
 el:G.nx≠1->G.el.1<=65536/\G.el.2<=4000000
 nw:G.nw.1<=65536/\G.nw.2<=4000000
 bk:G.bucket<=1000000
 hb:G.fi<=18446744073709551615/\G.sec<=18446744073709551615
 c3:G.nx=3->G.el.2+G.bucket<L.xs.length
 c4:G.nx=4->G.el.2+(G.bucket+G.nw.1)<L.xs.length
 c5:G.nx=5->aY L.ss G.at_ ((G.at_-1) % 65536)/\G.at_<=18446744073709551615/\(0<=(ai L.ss ((G.at_-1) % 65536)).nd.next/\(ai L.ss ((G.at_-1) % 65536)).nd.next<=18446744073709551615)/\G.met.length<=100000
 c6:G.nx=6->G.la<=18446744073709551615/\∃ k,aY L.ss G.la k
 c7:G.nx=7->G.nw.2+G.bucket<L.xs.length
 c8:G.nx=8->0<=G.num/\G.num<=1000000
 c9:G.nx=9->0<=L.k/\Qs.eB L.k.toNat L.xs L.hs G.W
end Go.Proofs.YtpanebgakndddaaGreat.Sw
namespace Go.Proofs.YtpanebgakndddaaGreat.Sw
open Go Go.RowKit Hp K Fl Rw Hm Ar Mm Me Qs Wk Pn
set_option maxRecDepth 100000
theorem sf (m:Value) (w:World):Calls Tryz.prog 157 #[m] w fun e w'=>e=.returned (.bool true)/\w'=w:=by
 go_enter Tryz.func157,Tryz.ntmps157
 go_wp2
 go_ret
 exact ⟨rfl,rfl⟩
section
variable {w w':World} {M:Mo} {a:Sc} {G:Sh}
theorem kz {c:Nat} (w:World) (i j:Nat) (u v:Value):ab (·=c) w ((w.setCell ⟨c,i,none⟩ u).setCell ⟨c,j,none⟩ v):=
 ((ab.refl (·=c) w).setCell (p:=⟨c,i,none⟩) (.inl rfl) _).setCell (p:=⟨c,j,none⟩) (.inl rfl) _
theorem sE {c:Nat} (w:World) (i:Nat) (u:Value):ab (·=c) w (w.setCell ⟨c,i,none⟩ u):=(ab.refl (·=c) w).setCell (p:=⟨c,i,none⟩) (.inl rfl) _
theorem BM (h:Own w a G) {n:Nat} (hn:n≠9):Own ((w.setCell ⟨a.f,1,none⟩ (dW 157)).setCell ⟨a.f,2,none⟩ (mh a n)) a {G with nx:=n}:=by
 have e:dS a {G with nx:=n}=((dS a G).setIfInBounds 1 (dW 157)).setIfInBounds 2 (mh a n):=by
  unfold dS nJ
  rw [if_neg hn]
  rfl
 unfold Own
 rw [e]
 exact (af.store h 1 _).store 2 _
theorem ej (h:Own w a G) {n F:Nat} {b:Array Value} (hn:n≠9) (e:mh a n=.func (.func F) b #[]):
 Calls Tryz.prog 118 #[ptr a.f,.func (.func F) b #[]] w fun e w'=>e=.returned (.tuple #[])/\Own w' a {G with nx:=n}/\ab (·=a.f) w w':=by
 have c1:=h.cell 1
 have c2:=h.cell 2
 have z1:=h.frozen 1
 have z2:=h.frozen 2
 simp only [dS,List.getElem?_toArray,List.getElem?_cons_succ,List.getElem?_cons_zero] at c1 c2
 have hE:=Lib.hid (BM h hn)
 rw [e] at hE
 have hO:=Lib.hid (kz (c:=a.f) w 1 2 (dW 157) (.func (.func F) b #[]))
 generalize nJ a G.nx=u1 at*
 generalize mh a G.nx=u2 at*
 clear h e
 go_enter Tryz.func118,Tryz.ntmps118
 go_wp2
 go_end0
 exact ⟨rfl,hE.out,hO.out⟩
set_option maxHeartbeats 2000000 in
theorem IT (h:Own w a G) (hb:G.bucket<=1000000) (hn:G.nw.1<=1000000):
 Calls Tryz.prog 234 #[ptr a.f] w fun e w'=>e=.returned (.tuple #[])/\Own w' a (fR G)/\ab (·=a.f) w w':=by
 have c9:=h.cell 9
 have z9:=h.frozen 9
 simp only [dS,List.getElem?_toArray,List.getElem?_cons_succ,List.getElem?_cons_zero] at c9
 have wX:Own (w.setCell ⟨a.f,9,none⟩ (.int .i64 ((G.bucket:Int)+1))) a {G with bucket:=G.bucket+1}:=af.store h 9 (.int .i64 (G.bucket+1))
 have aq:=Lib.hid (sE (c:=a.f) w 9 (.int .i64 (G.bucket+1)))
 have hG:=Lib.hid (ej wX (n:=3) (by omega) rfl)
 clear h wX
 go_enter Tryz.func234,Tryz.ntmps234
 go_wp2_with fail
 refine hG.out.mono ?_
 rintro e w2 ⟨rfl,ae,dc⟩
 have p9:=ae.cell 9
 have p6:=ae.cell 6
 simp only [dS,List.getElem?_toArray,List.getElem?_cons_succ,List.getElem?_cons_zero] at p6 p9
 have wY:=Lib.hid (aq.out.trans dc)
 have ni:=Lib.hid (fun n=>ej (G:={G with bucket:=G.bucket+1,nx:=3}) (af.only ae ((ab.refl (fun _=>False) w2).drewN n) (by simp):Own (w2.drewN n) a {G with bucket:=G.bucket+1,nx:=3}) (n:=8) (by omega) rfl)
 replace ae:=Lib.hid ae
 clear dc aq c9 z9 hG
 by_cases hq:G.bucket+1=G.nw.1
 ·have q1:(((G.bucket+1:Nat):Int)==(G.nw.1:Int))=true:=by simp; omega
  have e6:Hid (fR G={G with bucket:=G.bucket+1,nx:=8}):=Lib.hid (by
   unfold fR
   rw [if_pos hq])
  clear hq
  go_wp2_with fail
  go_quiet (fail)
  clear p6 p9
  go_wp2_with fail
  refine (ni.out _).mono ?_
  rintro e w3 ⟨rfl,bJ,wZ⟩
  have kg:=Lib.hid ((wY.out.drewN nq).trans wZ)
  replace bJ:=Lib.hid bJ
  clear wZ ni
  go_wp2_with fail
  go_end0
  exact ⟨rfl,by rw [e6.out]; exact bJ.out,kg.out⟩
 ·have q1:(((G.bucket+1:Nat):Int)==(G.nw.1:Int))=false:=by simp; omega
  have e6:Hid (fR G={G with bucket:=G.bucket+1,nx:=3}):=Lib.hid (by
   unfold fR
   rw [if_neg hq])
  clear hq
  go_wp2_with fail
  go_quiet (fail)
  have bJ:=Lib.hid (af.only ae.out ((ab.refl (fun _=>False) w2).drewN nq) (by simp))
  have kg:=Lib.hid (wY.out.drewN nq)
  clear p6 p9 ni
  go_wp2_with fail
  go_end0
  exact ⟨rfl,by rw [e6.out]; exact bJ.out,kg.out⟩
set_option maxHeartbeats 2000000 in
theorem oH (h:Own w a G) (hb:G.bucket<=1000000) (hn:G.nw.1<=1000000):
 Calls Tryz.prog 224 #[ptr a.f] w fun e w'=>e=.returned (.tuple #[])/\Own w' a (bD G)/\ab (·=a.f) w w':=by
 have c10:=h.cell 10
 have c11:=h.cell 11
 have z10:=h.frozen 10
 simp only [dS,List.getElem?_toArray,List.getElem?_cons_succ,List.getElem?_cons_zero] at c10 c11
 by_cases h0:G.fi=0
 ·have hX:Own (w.setCell ⟨a.f,10,none⟩ (.int .u64 G.sec)) a {G with fi:=G.sec}:=af.store h 10 (.int .u64 G.sec)
  have hO:=Lib.hid (sE (c:=a.f) w 10 (.int .u64 G.sec))
  rw [h0] at c10
  by_cases h1:G.sec=0
  ·have e:Hid (bD G=fR {G with fi:=G.sec}):=Lib.hid (by
    unfold bD
    rw [if_pos h0,if_pos h1]
    unfold fR
    rw [h0,h1])
   rw [h1] at c11
   have hN:=IT hX hb hn
   rw [h1] at hN hO e
   replace hN:=Lib.hid hN
   clear h hX h0
   go_enter Tryz.func224,Tryz.ntmps224
   go_wp2_with fail
   refine hN.out.mono ?_
   rintro e w2 ⟨rfl,ae,dc⟩
   have kg:=Lib.hid (hO.out.trans dc)
   replace ae:=Lib.hid ae
   clear dc hN hO c10 c11 z10
   go_wp2_with fail
   exact bodyPost_ret (v:=.tuple #[]) (by simp [results,Tryz.results224]) rfl ⟨rfl,by rw [e.out]; exact ae.out,kg.out⟩
  ·have e:Hid (bD G={G with fi:=G.sec,nx:=7}):=Lib.hid (by
    unfold bD
    rw [if_pos h0,if_neg h1])
   have q1:((G.sec:Int)==0)=false:=by simp; omega
   have hN:=Lib.hid (ej hX (n:=7) (by omega) rfl)
   clear h hX h0 h1
   go_enter Tryz.func224,Tryz.ntmps224
   go_wp2_with fail
   refine hN.out.mono ?_
   rintro e w2 ⟨rfl,ae,dc⟩
   have kg:=Lib.hid (hO.out.trans dc)
   replace ae:=Lib.hid ae
   clear dc hN hO c10 c11 z10
   go_wp2_with fail
   go_end0
   exact ⟨rfl,by rw [e.out]; exact ae.out,kg.out⟩
 ·have e:Hid (bD G={G with nx:=7}):=Lib.hid (by
   unfold bD
   rw [if_neg h0])
  have q1:((G.fi:Int)==0)=false:=by simp; omega
  have hN:=Lib.hid (ej h (n:=7) (by omega) rfl)
  clear h h0
  go_enter Tryz.func224,Tryz.ntmps224
  go_wp2_with fail
  refine hN.out.mono ?_
  rintro e w2 ⟨rfl,ae,dc⟩
  replace dc:=Lib.hid dc
  replace ae:=Lib.hid ae
  clear hN c10 c11 z10
  go_wp2_with fail
  go_end0
  exact ⟨rfl,by rw [e.out]; exact ae.out,dc.out⟩
set_option maxHeartbeats 2000000 in
theorem TT (h:Own w a G) (hm:a.mv=.map (some a.B)) (hM:Me.Met w a.B G.met) (hs:G.sec<=18446744073709551615) (hb:G.bucket<=1000000) (hn:G.nw.1<=1000000):
 Calls Tryz.prog 236 #[ptr a.f] w fun e w'=>e=.returned (.tuple #[])/\Own w' a (kZ G)/\ab (·=a.f) w w':=by
 have c10:=h.cell 10
 have c11:=h.cell 11
 have c13:=h.cell 13
 have c14:=h.cell 14
 have z10:=h.frozen 10
 simp only [dS,List.getElem?_toArray,List.getElem?_cons_succ,List.getElem?_cons_zero,hm] at c10 c11 c13 c14
 by_cases h0:G.la=0
 ·have hX:Own (w.setCell ⟨a.f,10,none⟩ (.int .u64 0)) a {G with fi:=0}:=af.store h 10 (.int .u64 0)
  have hO:=Lib.hid (sE (c:=a.f) w 10 (.int .u64 0))
  rw [h0] at c13
  have e:Hid (kZ G=bD {G with fi:=0}):=Lib.hid (by
   unfold kZ
   rw [if_pos h0])
  have hN:=Lib.hid (oH hX hb hn)
  clear h hX h0 hM
  go_enter Tryz.func236,Tryz.ntmps236
  go_wp2_with fail
  refine hN.out.mono ?_
  rintro e w2 ⟨rfl,ae,dc⟩
  have kg:=Lib.hid (hO.out.trans dc)
  replace ae:=Lib.hid ae
  clear dc hN hO c10 c11 c13 c14 z10
  go_wp2_with fail
  go_end0
  exact ⟨rfl,by rw [e.out]; exact ae.out,kg.out⟩
 ·have q1:((G.la:Int)==0)=false:=by simp; omega
  have hL:=fun n=>(hM.only ((ab.refl (fun _=>False) w).drewN n) (by simp)).look hs
  by_cases h1:G.sec∈G.met
  ·rw [show decide (G.sec∈G.met)=true by simpa using h1] at hL
   have e:Hid (kZ G=bD G):=Lib.hid (by
    unfold kZ
    rw [if_neg h0,if_pos h1])
   have hN:=Lib.hid (fun n=>oH (af.only h ((ab.refl (fun _=>False) w).drewN n) (by simp):Own (w.drewN n) a G) hb hn)
   have hO:=Lib.hid (fun n=>(ab.refl (·=a.f) w).drewN n)
   clear h h0 h1 hM
   go_enter Tryz.func236,Tryz.ntmps236
   go_wp2_with fail
   go_quiet (fail)
   go_wp2_with fail
   refine (hN.out nq).mono ?_
   rintro e w2 ⟨rfl,ae,dc⟩
   have kg:=Lib.hid ((hO.out nq).trans dc)
   replace ae:=Lib.hid ae
   clear dc hN hO hL c10 c11 c13 c14 z10
   go_wp2_with fail
   go_end0
   exact ⟨rfl,by rw [e.out]; exact ae.out,kg.out⟩
  ·rw [show decide (G.sec∈G.met)=false by simpa using h1] at hL
   have e:Hid (kZ G={G with nx:=6}):=Lib.hid (by
    unfold kZ
    rw [if_neg h0,if_neg h1])
   have hN:=Lib.hid (fun n=>ej (af.only h ((ab.refl (fun _=>False) w).drewN n) (by simp):Own (w.drewN n) a G) (n:=6) (by omega) rfl)
   have hO:=Lib.hid (fun n=>(ab.refl (·=a.f) w).drewN n)
   clear h h0 h1 hM
   go_enter Tryz.func236,Tryz.ntmps236
   go_wp2_with fail
   go_quiet (fail)
   go_wp2_with fail
   refine (hN.out nq).mono ?_
   rintro e w2 ⟨rfl,ae,dc⟩
   have kg:=Lib.hid ((hO.out nq).trans dc)
   replace ae:=Lib.hid ae
   clear dc hN hO hL c10 c11 c13 c14 z10
   go_wp2_with fail
   go_end0
   exact ⟨rfl,by rw [e.out]; exact ae.out,kg.out⟩
set_option maxHeartbeats 2000000 in
theorem vL (h:Own w a G) (hm:a.mv=.map (some a.B)) (hM:Me.Met w a.B G.met) (hs:G.sec<=18446744073709551615) (hb:G.bucket<=1000000) (hn:G.nw.1<=1000000) {x:Nat} (hx:x<=18446744073709551615):
 Calls Tryz.prog 225 #[ptr a.f,.int .u64 x] w fun e w'=>e=.returned (.tuple #[])/\Own w' a (dg G x)/\ab (·=a.f) w w':=by
 have c12:=h.cell 12
 have c14:=h.cell 14
 have z12:=h.frozen 12
 simp only [dS,List.getElem?_toArray,List.getElem?_cons_succ,List.getElem?_cons_zero,hm] at c12 c14
 have hE:=Lib.hid (TT h hm hM hs hb hn)
 by_cases h0:x=0
 ·subst h0
  have e:Hid (dg G 0=kZ G):=Lib.hid (by unfold dg; rw [if_pos (.inl rfl)])
  clear h hM
  go_enter Tryz.func225,Tryz.ntmps225
  go_wp2_with fail
  refine hE.out.mono ?_
  rintro e w1 ⟨rfl,ae,dc⟩
  replace dc:=Lib.hid dc
  replace ae:=Lib.hid ae
  clear hE c12 c14 z12
  go_wp2_with fail
  exact bodyPost_ret (v:=.tuple #[]) (by simp [results,Tryz.results225]) rfl ⟨rfl,by rw [e.out]; exact ae.out,dc.out⟩
 ·have q1:((x:Int)==0)=false:=by simp; omega
  have hL:=hM.look hx
  by_cases h1:x∈G.met
  ·rw [show decide (x∈G.met)=true by simpa using h1] at hL
   have e:Hid (dg G x=kZ G):=Lib.hid (by unfold dg; rw [if_pos (.inr h1)])
   clear h hM h1 h0
   go_enter Tryz.func225,Tryz.ntmps225
   go_wp2_with fail
   refine hE.out.mono ?_
   rintro e w1 ⟨rfl,ae,dc⟩
   replace dc:=Lib.hid dc
   replace ae:=Lib.hid ae
   clear hE c12 c14 z12 hL
   go_wp2_with fail
   exact bodyPost_ret (v:=.tuple #[]) (by simp [results,Tryz.results225]) rfl ⟨rfl,by rw [e.out]; exact ae.out,dc.out⟩
  ·rw [show decide (x∈G.met)=false by simpa using h1] at hL
   have e:Hid (dg G x={G with at_:=x,nx:=5}):=Lib.hid (by unfold dg; rw [if_neg (by simp [h0,h1])])
   have aJ:Own (w.setCell ⟨a.f,12,none⟩ (.int .u64 x)) a {G with at_:=x}:=af.store h 12 (.int .u64 x)
   have aw:=Lib.hid (sE (c:=a.f) w 12 (.int .u64 x))
   have hG:=Lib.hid (ej aJ (n:=5) (by omega) rfl)
   clear h hM h1 h0 hE aJ
   go_enter Tryz.func225,Tryz.ntmps225
   go_wp2_with fail
   refine hG.out.mono ?_
   rintro e w2 ⟨rfl,ag,ae⟩
   have hO:=Lib.hid (aw.out.trans ae)
   replace ag:=Lib.hid ag
   clear ae aw hG c12 c14 z12 hL
   go_wp2_with fail
   go_end0
   exact ⟨rfl,by rw [e.out]; exact ag.out,hO.out⟩
end
end Go.Proofs.YtpanebgakndddaaGreat.Sw
namespace Go.Proofs.YtpanebgakndddaaGreat.Sw
open Go Go.RowKit Hp K Fl Rw Hm Ar Mm Me Qs Wk Pn
set_option maxRecDepth 100000
section
variable {w w':World} {M:Mo} {a:Sc} {G:Sh}
theorem oI {S:Nat->Prop} {a':Sc} {G':Sh} (hM:ah w M) (hG:cI w' a' G') (hf:a'.f=a.f) (iC:∀ x,cg a' G' x->cg a G x\/w.heap.size<=x) (h:cI w a G) (hO:ab S w w') (hS:∀ x,S x->cg a G x):gr.bf w M a G (lm M) G' w':=
 ⟨M,a',hM.only hO (fun x hx hs=>h.aA hM (hS x hs) hx),rfl,gn.refl _ _,hG,hf,iC,hO.mono (fun x _ q=>.inr (hS x q))⟩
theorem cI.plain (hB:Own w' a G) (hn:G.nx≠5/\G.nx≠9):cI w' a G:=⟨hB,fun q=>absurd q hn.1,fun q=>absurd q hn.2⟩
theorem sF {G':Sh} (hn:G'.nx≠5/\G'.nx≠9) {k:Nat} (x:Nat) (hx:cg a G' x):cg a G x\/k<=x:=by
 rcases hx with rfl | ⟨q,_⟩ | ⟨q,_⟩
 ·exact .inl (.inl rfl)
 ·exact absurd q hn.1
 ·exact absurd q hn.2
set_option maxHeartbeats 2000000 in
theorem vN (hM:ah w M) (h:cI w a G) (hx:1<M.xs.length) (h1:G.nx=1):Calls Tryz.prog 119 #[ptr a.f,ptr M.m] w fun e w'=>e=.returned (.bool false)/\gr.bf w M a G (aG (lm M) G).1 (aG (lm M) G).2 w':=by
 have hN:=Lib.hid (py hM hx)
 unfold aG
 rw [if_pos h1]
 show Calls _ _ _ _ fun e w'=>_/\gr.bf w M a G (lm M) {G with el:=now M.xs M.ds,nx:=2} w'
 generalize now M.xs M.ds=d at*
 unfold dv at hN
 have HM:=Lib.hid hM
 have HG:=Lib.hid h
 clear hM h
 go_enter Tryz.func119,Tryz.ntmps119
 go_wp2_with fail
 refine hN.out.mono ?_
 rintro e w1 ⟨rfl,aJ⟩
 have ak:=HG.out.below aJ
 have c4:=ak.an.cell 4
 have c5:=ak.an.cell 5
 have z4:=ak.an.frozen 4
 have z5:=ak.an.frozen 5
 simp only [dS,List.getElem?_toArray,List.getElem?_cons_succ,List.getElem?_cons_zero] at c4 c5
 have ag:Own ((w1.setCell ⟨a.f,4,none⟩ (.int .i64 d.1)).setCell ⟨a.f,5,none⟩ (.int .i64 d.2)) a {G with el:=d}:=(ak.an.store 4 (.int .i64 d.1)).store 5 (.int .i64 d.2)
 have ae:=kz (c:=a.f) w1 4 5 (.int .i64 d.1) (.int .i64 d.2)
 have lN:=Lib.hid (ej ag (n:=2) (by omega) rfl)
 have aq:=Lib.hid ((ab.aD aJ (·=a.f)).trans ae)
 clear ag ae hN aJ
 replace ak:=Lib.hid ak
 go_wp2_with fail
 refine lN.out.mono ?_
 rintro e w3 ⟨rfl,ay,aM⟩
 have hE:Hid (gr.bf w M a G (lm M) {G with el:=d,nx:=2} w3):=Lib.hid
  (oI HM.out (a':=a) (cI.plain ay (by simp)) rfl (sF (by simp)) HG.out (aq.out.trans aM) (fun x q=>.inl q))
 clear ay aM lN c4 c5 z4 z5
 go_wp2_with fail
 go_ret
 exact ⟨rfl,hE.out⟩
theorem IU (n:Nat):(n:Int).tdiv 2=((n / 2:Nat):Int):=by
 rw [Int.tdiv_eq_ediv_of_nonneg (by omega)]
 omega
set_option maxHeartbeats 2000000 in
theorem BO (hM:ah w M) (h:cI w a G) (he:G.el.1<=65536) (hp:¬(FM.bo ((G.el.1 / 2:Nat):Int)=true/\M.xs.length+G.el.1 / 2<=1048576)):
 Calls Tryz.prog 158 #[ptr a.f,ptr M.m] w fun e w'=>e=.returned (.bool true)/\gr.bf w M a G (lm M) {G with num:= -1,err:=if FM.bo ((G.el.1 / 2:Nat):Int)=true then 2 else 5,nx:=10} w':=by
 obtain ⟨n2,iS⟩:∃ n,n=G.el.1 / 2:=⟨_,rfl⟩
 have hd:=IU G.el.1
 rw [<-iS] at hp hd ⊢
 obtain ⟨c,hc,ib,hT⟩:∃ c:Int,(c != 0)=true/\c=(if FM.bo (n2:Int)=true then 2 else 5)/\Calls Tryz.prog 46 #[ptr M.m,.int .i64 (n2:Int)] w fun e w'=>e=.returned (.tuple #[.int .i64 (-1),.int .i64 c])/\w=w':=by
  cases jy:FM.bo (n2:Int) with
  | true=>
    refine ⟨2,rfl,by simp,GQ hM _ (by omega) (by omega) jy ?_⟩
    have:¬M.xs.length+n2<=1048576:=fun q=>hp ⟨jy,q⟩
    omega
  | false=>exact ⟨5,rfl,by simp,GR hM _ (by omega) (by omega) jy⟩
 rw [<-ib]
 have bl:IntKind.i64.wrap (n2:Int)=n2:=IntWalk.i64_in _ (by omega)
 replace hT:=Lib.hid hT
 have c3:=h.an.cell 3
 have c4:=h.an.cell 4
 have c8:=h.an.cell 8
 have z3:=h.an.frozen 3
 have z8:=h.an.frozen 8
 simp only [dS,List.getElem?_toArray,List.getElem?_cons_succ,List.getElem?_cons_zero] at c3 c4 c8
 have ag:Own ((w.setCell ⟨a.f,8,none⟩ (.int .i64 (-1))).setCell ⟨a.f,3,none⟩ (.int .i64 c)) a {G with num:= -1,err:=c}:=(h.an.store 8 (.int .i64 (-1))).store 3 (.int .i64 c)
 have ae:=Lib.hid (kz (c:=a.f) w 8 3 (.int .i64 (-1)) (.int .i64 c))
 have hE:=Lib.hid (ej ag (n:=10) (by omega) rfl)
 have HM:=Lib.hid hM
 have HG:=Lib.hid h
 clear hM h ag hp ib
 replace iS:=Lib.hid iS
 go_enter Tryz.func158,Tryz.ntmps158
 go_wp2_with fail
 refine hT.out.mono ?_
 rintro e w1 ⟨rfl,hw⟩
 obtain rfl:w=w1:=hw
 clear hT
 go_wp2_with fail
 refine hE.out.mono ?_
 rintro e w2 ⟨rfl,ay,aq⟩
 have hS:Hid (gr.bf w M a G (lm M) {G with num:= -1,err:=c,nx:=10} w2):=Lib.hid
  (oI HM.out (a':=a) (cI.plain ay (by simp)) rfl (sF (by simp)) HG.out (ae.out.trans aq) (fun x q=>.inl q))
 clear ay aq hE c3 c4 c8 z3 z8
 go_wp2_with fail
 go_ret
 exact ⟨rfl,hS.out⟩
theorem BP {A' T':Option Addr} {cap' capT':Nat} {xs':List Int} {ds':List (Nat×Nat)} (hA:∀ x,In A' x->In M.A x\/w.heap.size<=x) (hT:∀ x,In T' x->In M.T x\/w.heap.size<=x):gn w M {M with A:=A',cap:=cap',xs:=xs',T:=T',capT:=capT',ds:=ds'}:=by
 refine ⟨rfl,rfl,rfl,rfl,?_⟩
 rintro x (q | q | q | q | q | q)
 ·exact .inl (.inl q)
 ·rcases q with q | q
  ·exact .inl (.inr (.inl (.inl q)))
  ·rcases hA x q with q | q
   ·exact .inl (.inr (.inl (.inr q)))
   ·exact .inr q
 ·exact .inl (.inr (.inr (.inl q)))
 ·exact .inl (.inr (.inr (.inr (.inl q))))
 ·rcases hT x q with q | q
  ·exact .inl (.inr (.inr (.inr (.inr (.inl q)))))
  ·exact .inr q
 ·exact .inl (.inr (.inr (.inr (.inr (.inr q)))))
set_option maxHeartbeats 2000000 in
theorem BQ (hM:ah w M) (h:cI w a G) (he:G.el.1<=65536) (aL:M.ds.length<=900000) (hp:FM.bo ((G.el.1 / 2:Nat):Int)=true) (hx:M.xs.length+G.el.1 / 2<=1048576):
 Calls Tryz.prog 158 #[ptr a.f,ptr M.m] w fun e w'=>e=.returned (.bool false)/\gr.bf w M a G {lm M with xs:=M.xs++List.replicate (G.el.1 / 2) 0,ds:=M.ds++[(G.el.1 / 2,M.xs.length)]} {G with num:=M.ds.length,err:=0,nw:=(G.el.1 / 2,M.xs.length),nx:=3} w':=by
 have hT:=BR hM (G.el.1 / 2) hp hx (by omega)
 replace hT:=Lib.hid hT
 have c4:=h.an.cell 4
 simp only [dS,List.getElem?_toArray,List.getElem?_cons_succ,List.getElem?_cons_zero] at c4
 have HM:=Lib.hid hM
 have HG:=Lib.hid h
 have hd:=IU G.el.1
 obtain ⟨dn,ct⟩:∃ n,n=M.ds.length:=⟨_,rfl⟩
 obtain ⟨xn,nX⟩:∃ n,n=M.xs.length:=⟨_,rfl⟩
 obtain ⟨n2,iS⟩:∃ n,n=G.el.1 / 2:=⟨_,rfl⟩
 rw [<-ct] at aL
 rw [<-iS] at hd
 have bl:IntKind.i64.wrap (n2:Int)=n2:=IntWalk.i64_in _ (by omega)
 simp only [<-ct,<-nX,<-iS] at hT ⊢
 replace ct:=Lib.hid ct
 replace nX:=Lib.hid nX
 replace iS:=Lib.hid iS
 clear hM h hp hx
 go_enter Tryz.func158,Tryz.ntmps158
 go_wp2_with fail
 refine hT.out.mono ?_
 rintro e w1 ⟨rfl,A',cap',T',capT',av,aw,da,xc⟩
 have ak:=HG.out.only aw (fun x hx q=>HG.out.aA HM.out hx q)
 have d3:=ak.an.cell 3
 have d8:=ak.an.cell 8
 have y3:=ak.an.frozen 3
 have y8:=ak.an.frozen 8
 simp only [dS,List.getElem?_toArray,List.getElem?_cons_succ,List.getElem?_cons_zero] at d3 d8
 have ag:Own ((w1.setCell ⟨a.f,8,none⟩ (.int .i64 dn)).setCell ⟨a.f,3,none⟩ (.int .i64 0)) a {G with num:=dn,err:=0}:=(ak.an.store 8 (.int .i64 dn)).store 3 (.int .i64 0)
 have ae:=kz (c:=a.f) w1 8 3 (.int .i64 dn) (.int .i64 0)
 have dp:=ak.aA av (x:=a.f) (.inl rfl)
 have aB:=av.only ae (fun x hx e=>dp (e▸hx))
 have hD:=BS aB dn (by rw [ct.out]; simp)
 have xd:aN (M.ds++[(n2,M.xs.length)]) dn=(n2,xn):=by unfold aN; rw [ct.out,nX.out]; simp
 rw [xd] at hD
 unfold dv at hD
 replace hD:=Lib.hid hD
 have k8:=ag.cell 8
 have k3:=ag.cell 3
 simp only [dS,List.getElem?_toArray,List.getElem?_cons_succ,List.getElem?_cons_zero] at k3 k8
 replace ag:=Lib.hid ag
 replace ae:=Lib.hid ae
 replace aB:=Lib.hid aB
 replace aw:=Lib.hid aw
 replace dp:=Lib.hid dp
 have hK:=Lib.hid (BP (w:=w) (M:=M) (cap':=cap') (capT':=capT') (xs':=M.xs++List.replicate n2 0) (ds':=M.ds++[(n2,M.xs.length)]) da xc)
 clear hT c4 av da xc xd ak
 go_wp2_with fail
 refine hD.out.mono ?_
 rintro e w3 ⟨rfl,ba⟩
 have ay:=ag.out.only (ab.aD ba (fun _=>False)) (by simp)
 have p6:=ay.cell 6
 have p7:=ay.cell 7
 have q6:=ay.frozen 6
 have q7:=ay.frozen 7
 simp only [dS,List.getElem?_toArray,List.getElem?_cons_succ,List.getElem?_cons_zero] at p6 p7
 have az:Own ((w3.setCell ⟨a.f,6,none⟩ (.int .i64 n2)).setCell ⟨a.f,7,none⟩ (.int .i64 xn)) a {G with num:=dn,err:=0,nw:=(n2,xn)}:=(ay.store 6 (.int .i64 n2)).store 7 (.int .i64 xn)
 have aM:=kz (c:=a.f) w3 6 7 (.int .i64 n2) (.int .i64 xn)
 have te:=(ab.aD ba (·=a.f)).trans aM
 have lN:=Lib.hid (ej az (n:=3) (by omega) rfl)
 replace te:=Lib.hid te
 clear ba ay az aM hD k3 k8 d3 d8 y3 y8
 go_wp2_with fail
 refine lN.out.mono ?_
 rintro e w5 ⟨rfl,bI,bJ⟩
 have tf:=te.out.trans bJ
 have uI:=ae.out.trans tf
 have hS:Hid (gr.bf w M a G {lm M with xs:=M.xs++List.replicate n2 0,ds:=M.ds++[(n2,xn)]} {G with num:=dn,err:=0,nw:=(n2,xn),nx:=3} w5):=Lib.hid (by
  have DO:ab (fun x=>ao M x\/cg a G x) w w5:=(aw.out.mono (fun x _ q=>.inl q)).trans' uI (fun x _ q=>.inr (.inl q))
  exact ⟨_,a,aB.out.only tf (fun x hx e=>dp.out (e▸hx)),by rw [nX.out],hK.out,cI.plain bI (by simp),rfl,sF (by simp),DO⟩)
 clear bI bJ uI tf lN
 go_wp2_with fail
 go_ret
 exact ⟨rfl,hS.out⟩
set_option maxHeartbeats 2000000 in
theorem za (hM:ah w M) (h:Own w a G) (k:Nat) (hk:k<=2000000) (hx:G.el.2+k<M.xs.length) (he:G.el.2<=4000000):
 Calls Tryz.prog 209 #[ptr a.f,ptr M.m,.int .i64 k] w fun e w'=>e=.returned (.int .u64 ((Cl.nth M.xs (G.el.2+k)).toNat:Int))/\∃ n,w'=w.drewN n:=by
 have hL:=fun n=>Cl.mM (hM.drewN n).2.1 (G.el.2+k) hx
 have iy:=Cl.eX hM.2.1.2.2.1 (G.el.2+k)
 obtain ⟨z,hz⟩:=Int.eq_ofNat_of_zero_le iy.1
 rw [hz] at hL ⊢
 rw [Int.toNat_natCast]
 have e2:((G.el.2+k:Nat):Int)=(G.el.2:Int)+(k:Int):=by omega
 rw [e2] at hL
 replace hL:=Lib.hid hL
 have d0:=hM.hd.1
 have c5:=h.cell 5
 simp only [dS,List.getElem?_toArray,List.getElem?_cons_succ,List.getElem?_cons_zero] at c5
 have ew:IntKind.i64.wrap ((G.el.2:Int)+(k:Int))=(G.el.2:Int)+(k:Int):=IntWalk.i64_in _ (by omega)
 clear hM h hz iy hx e2
 go_enter Tryz.func209,Tryz.ntmps209
 go_wp2_with fail
 go_quiet ((go_at_call 90; exact Calls.quiet_of_same ((hL.out _).mono fun _ _ h=>⟨h.1,h.2⟩)))
 clear hL d0 c5
 go_wp2_with fail
 go_ret
 exact ⟨rfl,_,rfl⟩
set_option maxHeartbeats 2000000 in
theorem TU (hM:ah w M) (h:cI w a G) (hx:G.el.2+G.bucket<M.xs.length) (he:G.el.2<=4000000) (hb:G.bucket<=1000000):
 Calls Tryz.prog 191 #[ptr a.f,ptr M.m] w fun e w'=>e=.returned (.bool false)/\gr.bf w M a G (lm M) {G with fi:=(Cl.nth M.xs (G.el.2+G.bucket)).toNat,nx:=4} w':=by
 have rH:=Lib.hid (za hM h.an G.bucket (by omega) hx he)
 have c9:=h.an.cell 9
 simp only [dS,List.getElem?_toArray,List.getElem?_cons_succ,List.getElem?_cons_zero] at c9
 have HM:=Lib.hid hM
 have HG:=Lib.hid h
 generalize (Cl.nth M.xs (G.el.2+G.bucket)).toNat=z at*
 clear hM h
 go_enter Tryz.func191,Tryz.ntmps191
 go_wp2_with fail
 refine rH.out.mono ?_
 rintro e w1 ⟨rfl,n,hw⟩
 have ak:Own w1 a G:=by rw [hw]; exact af.only HG.out.an ((ab.refl (fun _=>False) w).drewN n) (by simp)
 have aw:ab (·=a.f) w w1:=by rw [hw]; exact (ab.refl _ w).drewN n
 clear hw rH c9
 have d10:=ak.cell 10
 have y10:=ak.frozen 10
 simp only [dS,List.getElem?_toArray,List.getElem?_cons_succ,List.getElem?_cons_zero] at d10
 have ag:Own (w1.setCell ⟨a.f,10,none⟩ (.int .u64 z)) a {G with fi:=z}:=ak.store 10 (.int .u64 z)
 have lN:=Lib.hid (ej ag (n:=4) (by omega) rfl)
 have ae:=Lib.hid (aw.trans (sE (c:=a.f) w1 10 (.int .u64 z)))
 clear ak aw ag
 go_wp2_with fail
 refine lN.out.mono ?_
 rintro e w3 ⟨rfl,ay,aM⟩
 have hE:Hid (gr.bf w M a G (lm M) {G with fi:=z,nx:=4} w3):=Lib.hid
  (oI HM.out (a':=a) (cI.plain ay (by simp)) rfl (sF (by simp)) HG.out (ae.out.trans aM) (fun x q=>.inl q))
 clear ay aM lN d10 y10
 go_wp2_with fail
 go_ret
 exact ⟨rfl,hE.out⟩
end
end Go.Proofs.YtpanebgakndddaaGreat.Sw
namespace Go.Proofs.YtpanebgakndddaaGreat.Rn
open Go
def kY (P:Program) (md:Region.Mode) (ops:Array Oper) (Q:Exit->Act->World->Prop) (S:World->Prop) (till:Nat->Bool):Nat->Array Bool->Act->World->Prop
 | 0,listed,a,w=>Region.ready md ops listed=[]/\Q .normal a w
 | f+1,listed,a,w=>(Region.ready md ops listed=[]->Q .normal a w)/\
    ∀ i∈Region.ready md ops listed,wpOp P ops Q i (fun a' w'=>(till i=true/\wpAny P md ops Q f (listed.setIfInBounds i true) a' w')\/(till i=false/\S w'/\kY P md ops Q S till f (listed.setIfInBounds i true) a' w')) a w
section
variable {P:Program} {ops:Array Oper} {Q:Exit->Act->World->Prop} {md:Region.Mode} {S:World->Prop} {till:Nat->Bool}
theorem Im:∀ (f:Nat) (listed:Array Bool) (a:Act) (w:World),kY P md ops Q S till f listed a w->wpAny P md ops Q f listed a w
 | 0,_,_,_,h=>h
 | f+1,_,_,_,h=>⟨h.1,fun i hi=>wpOp_mono (fun a' w' h'=>by
    rcases h' with ⟨_,h'⟩ | ⟨_,_,h'⟩
    ·exact h'
    ·exact Im f _ a' w' h') (h.2 i hi)⟩
theorem Sx {i:Nat} {oi:Oper} {v:Value} (hi:ops[i]?=some oi) (uY:∀ (j:Nat) (o:Oper) cs b,ops[j]?=some o->o.op≠.select cs b)
 (hQ:∀ c a w,Q (.panic c) (a.put oi.dst v) w->Q (.panic c) a w) (oc:till i=false) (Eu:∀ j,till j=true->Region.waitsFor md ops j i=true):
 ∀ (f:Nat) (listed:Array Bool) (a:Act) (w:World),
   (∀ j oj,ops[j]?=some oj->j≠i->listed.getD j true=false->(∀ e∈oj.after,Region.binds md e=true->e.on≠i)->oi.apart ops oj=true)->
   i∈Region.ready md ops listed->YieldsIf P ops S oi v a->S w->
   kY P md ops Q S till f (listed.setIfInBounds i true) (a.put oi.dst v) w->kY P md ops Q S till (f+1) listed a w:=by
 intro f
 induction f with
 | zero=>
   intro listed a w _ hr hy hS H
   refine ⟨fun h=>absurd hr (by rw [h]; simp),fun j hj=>?_⟩
   by_cases iX:j=i
   ·rw [iX]
    exact hy.wpOp hi hS (.inr ⟨oc,hS,H⟩)
   ·have h0:=ready_mono hj iX
    rw [H.1] at h0
    simp at h0
 | succ f ih=>
   intro listed a w lJ hr hy hS H
   refine ⟨fun h=>absurd hr (by rw [h]; simp),fun j hj=>?_⟩
   by_cases iX:j=i
   ·rw [iX]
    exact hy.wpOp hi hS (.inr ⟨oc,hS,H⟩)
   ·obtain ⟨xM,oj,rD,fZ⟩:=mem_ready.1 hj
    have Ap:∀ e∈oj.after,Region.binds md e=true->e.on≠i:=fun e he hb heq=>by
     have h1:=fZ e he hb
     have h0:=(mem_ready.1 hr).1
     rw [heq,getD_both h0] at h1
     simp at h1
    have Aq:till j=false:=by
     cases ht:till j with
     | false=>rfl
     | true=>
       obtain ⟨o',As,e,he,hb,WB⟩:=Region.waitsFor_spec (Eu j ht)
       rw [rD] at As
       injection As with As
       subst As
       exact absurd WB (Ap e he hb)
    have h1:=H.2 j (ready_mono hj iX)
    refine wpOp_mono (fun a' w' h3=>?_) (wpOp_putIf rD (lJ j oj rD iX xM Ap) (fun cs b=>uY i oi cs b hi) (fun cs b=>uY j oj cs b rD) hQ hy h1)
    obtain ⟨my,h3⟩:=h3
    rcases h3 with ⟨ht,_⟩ | ⟨_,gW,h3⟩
    ·rw [Aq] at ht
     simp at ht
    ·refine .inr ⟨Aq,gW,ih _ _ _ ?_ (ready_mono hr (Ne.symm iX)) my gW (by rw [Array.setIfInBounds_comm _ _ iX]; exact h3)⟩
     intro k ok hk rv Ew nN
     refine lJ k ok hk rv ?_ nN
     by_cases tr:j=k
     ·rw [<-tr]; exact xM
     ·rwa [getD_set_ne true tr] at Ew
theorem rZ {i:Nat} {oi:Oper} {v:Value} {f:Nat} {listed:Array Bool} {a:Act} {w:World} (hi:ops[i]?=some oi)
 (hs:Region.noSelect ops=true) (hf:Region.free md ops listed i=true) (hr:(Region.ready md ops listed).contains i=true) (oc:till i=false)
 (Eu:∀ j,till j=true->Region.waitsFor md ops j i=true)
 (hQ:∀ c a w,Q (.panic c) (a.put oi.dst v) w->Q (.panic c) a w) (hy:YieldsIf P ops S oi v a) (hS:S w)
 (h:kY P md ops Q S till f (listed.setIfInBounds i true) (a.put oi.dst v) w):kY P md ops Q S till (f+1) listed a w:=
 Sx hi (Region.noSelect_spec hs) hQ oc Eu f listed a w (Region.free_spec hi hf) (by simpa using hr) hy hS h
theorem Sy {i:Nat} {o:Oper} {a:Act} {w:World} {K:Act->World->Prop} (hi:ops[i]?=some o) (h:if Region.wanted o (yielded ops a.tmps)=true then Oper.wp P o a w K Q else K (a.put o.dst undef) w):wpOp P ops Q i K a w:=by
 unfold wpOp
 simp only [hi]
 split
 ·rename_i hw
  rw [if_pos hw] at h
  exact .inl h
 ·rename_i hw
  rw [if_neg hw] at h
  exact h
theorem Sz {i:Nat} {oi:Oper} {v:Value} (hi:ops[i]?=some oi) (uY:∀ (j:Nat) (o:Oper) cs b,ops[j]?=some o->o.op≠.select cs b)
 (hQ:∀ c a w,Q (.panic c) (a.put oi.dst v) w->Q (.panic c) a w) (oc:till i=false):
 ∀ (f:Nat) (listed:Array Bool) (a:Act) (w:World),
   (∀ j oj,ops[j]?=some oj->j≠i->listed.getD j true=false->(∀ e∈oj.after,Region.binds md e=true->e.on≠i)->oi.apart ops oj=true)->
   i∈Region.ready md ops listed->YieldsIf P ops (fun _=>True) oi v a->S w->
   kY P md ops Q S till f (listed.setIfInBounds i true) (a.put oi.dst v) w->kY P md ops Q S till (f+1) listed a w:=by
 intro f
 induction f with
 | zero=>
   intro listed a w _ hr hy hS H
   refine ⟨fun h=>absurd hr (by rw [h]; simp),fun j hj=>?_⟩
   by_cases iX:j=i
   ·rw [iX]
    exact hy.wpOp hi trivial (.inr ⟨oc,hS,H⟩)
   ·have h0:=ready_mono hj iX
    rw [H.1] at h0
    simp at h0
 | succ f ih=>
   intro listed a w lJ hr hy hS H
   refine ⟨fun h=>absurd hr (by rw [h]; simp),fun j hj=>?_⟩
   by_cases iX:j=i
   ·rw [iX]
    exact hy.wpOp hi trivial (.inr ⟨oc,hS,H⟩)
   ·obtain ⟨xM,oj,rD,fZ⟩:=mem_ready.1 hj
    have Ap:∀ e∈oj.after,Region.binds md e=true->e.on≠i:=fun e he hb heq=>by
     have h1:=fZ e he hb
     have h0:=(mem_ready.1 hr).1
     rw [heq,getD_both h0] at h1
     simp at h1
    have bX:∀ k ok,ops[k]?=some ok->k≠i->(listed.setIfInBounds j true).getD k true=false->(∀ e∈ok.after,Region.binds md e=true->e.on≠i)->oi.apart ops ok=true:=fun k ok hk rv Ew nN=>by
     refine lJ k ok hk rv ?_ nN
     by_cases tr:j=k
     ·rw [<-tr]; exact xM
     ·rwa [getD_set_ne true tr] at Ew
    have h1:=H.2 j (ready_mono hj iX)
    refine wpOp_mono (fun a' w' h3=>?_) (wpOp_putIf rD (lJ j oj rD iX xM Ap) (fun cs b=>uY i oi cs b hi) (fun cs b=>uY j oj cs b rD) hQ hy h1)
    obtain ⟨my,h3⟩:=h3
    rcases h3 with ⟨ht,h3⟩ | ⟨Aq,gW,h3⟩
    ·refine .inl ⟨ht,wpAny_first hi uY hQ f _ _ _ bX (ready_mono hr (Ne.symm iX)) ?_ (by rw [Array.setIfInBounds_comm _ _ iX]; exact h3)⟩
     rcases my with ⟨h1,h2⟩ | h1
     ·exact .inl ⟨h1,fun w=>h2 w trivial⟩
     ·exact .inr h1
    ·exact .inr ⟨Aq,gW,ih _ _ _ bX (ready_mono hr (Ne.symm iX)) my gW (by rw [Array.setIfInBounds_comm _ _ iX]; exact h3)⟩
theorem dB {i:Nat} {oi:Oper} {v:Value} {f:Nat} {listed:Array Bool} {a:Act} {w:World} (hi:ops[i]?=some oi)
 (hs:Region.noSelect ops=true) (hf:Region.free md ops listed i=true) (hr:(Region.ready md ops listed).contains i=true) (oc:till i=false)
 (hQ:∀ c a w,Q (.panic c) (a.put oi.dst v) w->Q (.panic c) a w) (hy:YieldsIf P ops (fun _=>True) oi v a) (hS:S w)
 (h:kY P md ops Q S till f (listed.setIfInBounds i true) (a.put oi.dst v) w):kY P md ops Q S till (f+1) listed a w:=
 Sz hi (Region.noSelect_spec hs) hQ oc f listed a w (Region.free_spec hi hf) (by simpa using hr) hy hS h
theorem oF {i:Nat} {o:Oper} {f:Nat} {listed:Array Bool} {a:Act} {w:World} (hr:Region.ready md ops listed=[i]) (hi:ops[i]?=some o) (oc:till i=false)
 (h:∀ K:Act->World->Prop,(∀ a' w',S w'->kY P md ops Q S till f (listed.setIfInBounds i true) a' w'->K a' w')->if Region.wanted o (yielded ops a.tmps)=true then Oper.wp P o a w K Q else K (a.put o.dst undef) w):
 kY P md ops Q S till (f+1) listed a w:=by
 refine ⟨fun h=>absurd (hr.symm.trans h) (by simp),fun j hj=>?_⟩
 rw [hr] at hj
 have iX:j=i:=by simpa using hj
 subst iX
 exact Sy hi (h _ fun a' w' hS hw=>Or.inr ⟨oc,hS,hw⟩)
theorem SA (l:List Oper) (k:Nat) {listed:Array Bool} {a:Act} {w:World} (hl:∀ j,l[j]?=ops[k+j]?) (hB:Region.seqB md ops l.length k listed=true) (h:wpList P ops Q l a w)
 (hk:till k=true\/l=[]):kY P md ops Q S till l.length listed a w:=by
 have hA:=wpAny_of_seq l k listed a w hl hB h
 cases l with
 | nil=>exact hA
 | cons o l=>
   refine ⟨hA.1,fun i hi=>?_⟩
   have hr:Region.ready md ops listed=[k]:=by
    simp only [List.length_cons,Region.seqB,Bool.and_eq_true,decide_eq_true_eq] at hB
    exact hB.1
   rw [hr] at hi
   have zH:i=k:=by simpa using hi
   subst zH
   have WC:till i=true:=by
    rcases hk with h | h
    ·exact h
    ·cases h
   exact wpOp_mono (fun a' w' h'=>.inl ⟨WC,h'⟩) (hA.2 i (by rw [hr]; simp))
theorem vK {f:Nat} (k:Nat) {listed:Array Bool} {a:Act} {w:World} (hf:(ops.toList.drop k).length=f) (hB:Region.seqB md ops f k listed=true) (hk:till k=true) (h:wpList P ops Q (ops.toList.drop k) a w):
 kY P md ops Q S till f listed a w:=by
 subst hf
 exact SA _ k (fun j=>by rw [List.getElem?_drop,Array.getElem?_toList]) hB h (.inl hk)
theorem vH {id:Nat} {a:Act} {w:World} (S:World->Prop) (till:Nat->Bool) (hm:P.follows .mixedOrders=true) (h:kY P .any ops Q S till ops.size (Array.replicate ops.size false) a w.drew):
 (Code.region id ops true).wp P Q a w:=wp_region_any hm (Im _ _ _ _ h)
end
end Go.Proofs.YtpanebgakndddaaGreat.Rn
namespace Go.Proofs.YtpanebgakndddaaGreat.Rw
open Go Go.RowKit Hp Fl
section
variable {P:Program}
theorem vJ {ops:Array Oper} {o:Oper} {a:Act} {w:World} {K:Act->World->Prop} {Q:Exit->Act->World->Prop} {E:Prop}
 (hg:o.guard=none) (s x:Operand) (t:TypeId) (wW:o.op=Op.call {callee:=Callee.builtin Builtin.append,args:=#[s,x],argTypes:=#[t,t]})
 (vs vx:Value) (hs:a.eval s=vs) (hx:a.eval x=vx) {v:Value} {w':World} (fK:(Builtin.append_ #[t,t] o.type #[vs,vx]).run P w=.ok v w')
 (hK:K (a.put o.dst v) w'):if Region.wanted o (yielded ops a.tmps)=true then Oper.wp P o a w K Q else E:=by
 have hw:Region.wanted o (yielded ops a.tmps)=true:=by simp [Region.wanted,hg]
 rw [if_pos hw]
 unfold Oper.wp
 simp [execOp,wW,resolve,invoke,builtin,hs,hx,fK,Result.andThen]
 exact hK
theorem vI {α:Type} (w:World) (t ty e:TypeId) (i:TypeInfo) (z:Value) (c bytes:Nat) (ht:P.underlying t=some (.slice e)) (hi:P.info? e=some i) (hz:i.zero=some z) (rp:i.size=c) (mF:i.bytes=bytes) (tu:z.cells.size=c) (cO:0<c)
 (f:α->List Value) (hf:∀ x,(f x).length=c) (h1:∀ x,∀ u∈f x,u.oneCell'=true) {A:Option Addr} {cap n:Nat} {xs:List α} (hn:xs.length=n) (h:Row w e c f A cap xs) (y:α) (ad:Addr) (cx:Nat)
 (hc:∀ (j:Nat) (u:Value),(f y)[j]?=some u->w.cell? (ad.add j)=some u) (rq:n+1<=maxLen) (rr:(n+1)*bytes<=140737488355328):
 ∃ A' cap' w',(Builtin.append_ #[t,t] ty #[.slice A n cap,.slice (some ad) 1 cx]).run P w=.ok (.slice A' (n+1) cap') w'/\Row w' e c f A' cap' (xs++[y])/\ab (In A) w w'/\∀ b,In A' b->In A b\/w.heap.size<=b:=by
 subst hn
 have e1:(xs++[y]).flatMap f=xs.flatMap f++f y:=by simp
 obtain ⟨v',w',fK,dZ,hg,_,bO⟩:=run_append_own_at (P:=P) w 0 t ty e i z c bytes ht hi hz rp mF tu cO (.slice A xs.length cap) xs.length (xs.flatMap f) h ad 1 cx (f y) (by rw [hf,Nat.one_mul]) hc (h1 y) rq rr (Nat.zero_le _)
 obtain ⟨A',cap',rfl⟩:=AZ dZ
 refine ⟨A',cap',w',fK,?_,(ab.refl (In A) w).grown hg (fun b hb=>.inl (by rw [l8] at hb; exact hb)),fun b hb=>?_⟩
 ·rw [Row,e1,List.length_append]
  exact dZ
 ·rw [l8,l8] at bO
  rcases bO with q | q
  ·exact .inl (by rw [In,<-q]; exact hb)
  ·refine .inr ?_
   rw [In,q] at hb
   injection hb with hb
   omega
end
end Go.Proofs.YtpanebgakndddaaGreat.Rw
