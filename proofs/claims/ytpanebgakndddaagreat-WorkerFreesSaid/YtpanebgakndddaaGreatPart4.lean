/- Walks and plain mathematics, put together in their order: PutH, MapB, MapC, MapD, DelB, ShrA, ShrB, ShrC, RegN, RowRun. -/
import Derived.Test.YtpanebgakndddaaGreatPart3
import Derived.Test.YtpanebgakndddaaGreatRetMath
import Derived.Test.YtpanebgakndddaaGreatQsbrE
import Derived.Laws.EntriesVeiled
import Derived.Deep.QuietTactic
import Derived.Deep.DeepCutAuto
import Derived.Deep.RegionHeld3
import Derived.OrdersHeld
import Derived.StillTail
import Derived.Test.YtpanebgakndddaaGreatRowKit
set_option linter.unusedVariables false
set_option linter.unusedSimpArgs false
namespace Go.Proofs.YtpanebgakndddaaGreat.Pu
open Go Go.RowKit Hp K Fl Rw Hm Ar Mm Me Wk Ta Pn Pc Mq
set_option maxRecDepth 100000
section
variable {L:Lm} {P:Pt}
theorem RB (h:P.nx=2):cG L P=((aG L P.bu).1,{P with bu:=(aG L P.bu).2,nx:=if bW L P.bu=true then (if (aG L P.bu).2.cell= -1 then 6 else 3) else 2}):=by
 unfold cG; rw [if_pos h]
theorem RC (h:P.nx=3) {m:Nat} (hm:Least L.ss m):cG L P=({L with ss:=L.ss.set m ⟨true,(ai L.ss m).gen,⟨P.key,P.val,P.sum,gP P.W⟩⟩},{P with cm:=(ai L.ss m).gen*65536+m+1,err:=0,nx:=4}):=by
 unfold cG; rw [if_neg (by omega),if_pos h]; simp only [vO.2 hm]
theorem RD (h:P.nx=3) (hm:gj L.ss=none):cG L P=(L,{P with cm:=0,err:=4,nx:=6}):=by
 unfold cG; rw [if_neg (by omega),if_pos h]; simp only [hm]
theorem RE (h:P.nx=4):cG L P=(jR L P.bu P.cm,{P with cm:=P.W.found,nx:=if P.W.found≠0 then 5 else 6}):=by
 unfold cG; rw [if_neg (by omega),if_neg (by omega),if_pos h]
theorem RF (h:P.nx=5):cG L P=({L with ws:=L.ws++[P.cm]},{P with cm:=0,nx:=6}):=by
 unfold cG; rw [if_neg (by omega),if_neg (by omega),if_neg (by omega),if_pos h]
theorem H2 (h:P.nx=6):cG L P=({L with hs:=L.hs.set P.H.lock (-1)},{P with H:={P.H with holds:=false},nx:=7}):=by
 unfold cG; rw [if_neg (by omega),if_neg (by omega),if_neg (by omega),if_neg (by omega)]
end
abbrev Ep.new (E:Ep) (m:Nat):Nat:=(ai E.L.ss m).gen*65536+m+1
abbrev Ep.ss (E:Ep) (W:Wa) (m:Nat):List Sl:=E.L.ss.set m ⟨true,(ai E.L.ss m).gen,⟨E.key,E.val,sm E.key,gP W⟩⟩
def dJ (E:Ep) (W:Wa) (m:Nat):Lm:=if W.found≠0/\W.prev≠0 then {E.L with ss:=aQ (E.ss W m) W.prev (E.new m)} else {E.L with ss:=E.ss W m,xs:=E.L.xs.set E.c (E.new m:Nat)}
abbrev jX (E:Ep) (W:Wa):List Nat:=if W.found≠0 then E.L.ws++[W.found] else E.L.ws
abbrev Ep.p (E:Ep) (nx:Nat) (H:Ho) (W:Wa) (err:Int) (cm:Nat):Pt:=⟨E.s H W,E.val,nx,err,cm⟩
inductive Rp (E:Ep):Nat->Lm×Pt->Prop
 | s (k:Nat) (L:Lm) (S:Sk):Rs E k (L,S)->Rp E (4+k) (L,⟨S,E.val,2,0,0⟩)
 | t (W:Wa):fG E W->Rp E 4 ({E.L with hs:=E.hs},E.p 3 E.H W 0 0)
 | full (W:Wa):fG E W->gj E.L.ss=none->Rp E 1 ({E.L with hs:=E.hs},E.p 6 E.H W 4 0)
 | p (W:Wa) (m:Nat):fG E W->Least E.L.ss m->Rp E 3 ({E.L with hs:=E.hs,ss:=E.ss W m},E.p 4 E.H W 0 (E.new m))
 | r (W:Wa) (m:Nat):fG E W->Least E.L.ss m->W.found≠0->Rp E 2 ({dJ E W m with hs:=E.hs},E.p 5 E.H W 0 W.found)
 | d (W:Wa) (m:Nat):fG E W->Least E.L.ss m->Rp E 1 ({dJ E W m with hs:=E.hs,ws:=jX E W},E.p 6 E.H W 0 0)
inductive Qp (E:Ep):Lm×Pt->Prop
 | full (W:Wa):fG E W->gj E.L.ss=none->Qp E (E.L,E.p 7 {E.H with holds:=false} W 4 0)
 | done (W:Wa) (m:Nat):fG E W->Least E.L.ss m->Qp E ({dJ E W m with ws:=jX E W},E.p 7 {E.H with holds:=false} W 0 0)
section
variable {E:Ep} {k:Nat} {s:Lm×Pt}
theorem si (E:Ep) (W:Wa) (m:Nat):(dJ E W m).hs=E.L.hs/\(dJ E W m).ds=E.L.ds/\(dJ E W m).ws=E.L.ws/\(dJ E W m).F=E.L.F/\(dJ E W m).k=E.L.k:=by
 unfold dJ
 split<;>exact ⟨rfl,rfl,rfl,rfl,rfl⟩
theorem H3 (E:Ep) (W:Wa) (m:Nat):(dJ E W m).xs.length=E.L.xs.length:=by
 unfold dJ
 split
 ·rfl
 ·simp
theorem Rp.pos (h:Rp E k s):1<=k:=by cases h<;>omega
theorem fG.bd (hE:E.Ok) {W:Wa} (h:fG E W):0<=gP W/\gP W<=18446744073709551615:=by
 unfold gP
 rcases h with ⟨h0,_,hf⟩ | ⟨pre,x,p,t,z,k,hq,hp,hx,hk,bB,hW,hc,jq⟩
 ·rw [if_neg (by omega),hf]
  have:=Cl.eV hE.xb E.c
  have h2:E.word=(Cl.nth E.L.xs E.c).toNat:=rfl
  generalize E.word=ew at*
  omega
 ·rw [if_pos (by rw [hx]; exact hk.pos),hW,<-bB]
  exact hE.cU k
theorem Ep.Ok.RG (hE:E.Ok) (W:Wa) (m:Nat) (hm:Least E.L.ss m):0<=Cl.nth (dJ E W m).xs 1/\Cl.nth (dJ E W m).xs 1<=18446744073709551615:=by
 unfold dJ
 split
 ·exact Cl.eV hE.xb 1
 ·refine Cl.eV (fun x hx=>?_) 1
  rcases List.mem_or_eq_of_mem_set hx with q | rfl
  ·exact hE.xb x q
  ·have:=hE.gen m
   have:=hm.1
   have:=hE.len
   show 0<=(((ai E.L.ss m).gen*65536+m+1:Nat):Int)/\(((ai E.L.ss m).gen*65536+m+1:Nat):Int)<=_
   omega
theorem Ep.Ok.Hx (hE:E.Ok) {m:Nat} (hm:Least E.L.ss m):E.new m<=18446744073709551615:=by
 have:=hE.gen m
 have:=hm.1
 have:=hE.len
 show (ai E.L.ss m).gen*65536+m+1<=_
 omega
theorem Ep.Ok.QJ (hE:E.Ok) {W:Wa} {m:Nat} (hf:fG E W) (hm:Least E.L.ss m):fg (E.ss W m):=hE.cU.set hm.1 _ (hf.bd hE)
theorem Ep.Ok.live (_hE:E.Ok) {m:Nat} (hm:Least E.L.ss m) {W:Wa} {x j:Nat} (hj:aV E.L.ss x j):aV (E.ss W m) x j:=by
 have Wc:j≠m:=by
  rintro rfl
  have:=hj.2.1
  rw [hm.2.1] at this
  simp at this
 exact (tV hm.1 _ _ _).2 (by rw [if_neg Wc]; exact hj)
theorem Rp.ok (hE:E.Ok) (h:Rp E k s):vf s.1 s.2:=by
 cases h with
 | s k L S h=>exact ⟨by simp,fun q=>by simp at q,fun _=>h.ok hE,fun q=>by simp at q,fun q=>by simp at q,fun q=>by simp at q,fun q=>by simp at q⟩
 | t W hf=>exact ⟨by simp,fun _=>by simp,fun q=>by simp at q,fun _=>hE.gen,fun q=>by simp at q,fun q=>by simp at q,fun q=>by simp at q⟩
 | full W hf hn=>exact ⟨by simp,fun _=>by simp,fun q=>by simp at q,fun q=>by simp at q,fun q=>by simp at q,fun q=>by simp at q,fun _=>⟨hE.yd hE.x1 rfl (Cl.eV hE.xb 1),rfl⟩⟩
 | p W m hf hm=>exact ⟨by simp,fun _=>by simp,fun q=>by simp at q,fun q=>by simp at q,fun _=>hf.ye hE (hE.Hx hm) hE.cx (fun x j hj=>hE.live hm hj),fun q=>by simp at q,fun q=>by simp at q⟩
 | r W m hf hm h0=>
   have hp:=si E W m
   exact ⟨by simp,fun _=>by simp,fun q=>by simp at q,fun q=>by simp at q,fun q=>by simp at q,fun _=>by show (dJ E W m).ws.length<=_; rw [hp.2.2.1]; exact hE.ws,fun q=>by simp at q⟩
 | d W m hf hm=>
   have hp:=si E W m
   exact ⟨by simp,fun _=>by simp,fun q=>by simp at q,fun q=>by simp at q,fun q=>by simp at q,fun q=>by simp at q,fun _=>⟨hE.yd (by show 1<(dJ E W m).xs.length; rw [H3]; exact hE.x1) hp.2.1 (hE.RG W m hm),rfl⟩⟩
def Rq (E:Ep) (k:Nat) (s:Lm×Pt):Prop:=∃ j,j<=k/\Rp E j s
theorem Rp.q {E:Ep} {j:Nat} {s:Lm×Pt} (h:Rp E j s) {k:Nat} (hk:j<=k):Rq E k s:=⟨j,hk,h⟩
theorem Ep.Ok.c0 (_hE:E.Ok):¬((E.c:Int)= -1):=by omega
theorem Rp.step (hE:E.Ok) (h:Rp E k s):qu s.1 s.2=true/\1<=k/\(jC s.1 s.2=true->Qp E (cG s.1 s.2))/\(jC s.1 s.2=false->Rq E (k-1) (cG s.1 s.2)):=by
 cases h with
 | s k L S h=>
   obtain ⟨h1,h2,h3,h4⟩:=h.step hE
   refine ⟨h1,by omega,fun q=>by simp [jC] at q,fun _=>?_⟩
   rw [RB rfl]
   simp only at h3 h4 ⊢
   cases hd:bW L S with
   | true=>
     obtain ⟨W,hf,_,e⟩:=h3 hd
     rw [e]
     simp only [if_true,if_neg hE.c0]
     exact (Rp.t W hf).q (by omega)
   | false=>
     obtain ⟨j,hj,hr⟩:=h4 hd
     simp only [Bool.false_eq_true,if_false]
     have:=Rp.s (E:=E) j (aG L S).1 (aG L S).2 hr
     exact this.q (by omega)
 | t W hf=>
   refine ⟨rfl,by omega,fun q=>by simp [jC] at q,fun _=>?_⟩
   cases bZ:gj E.L.ss with
   | some m=>
     have hm:=vO.1 bZ
     have e:cG {E.L with hs:=E.hs} (E.p 3 E.H W 0 0)=({E.L with hs:=E.hs,ss:=E.ss W m},E.p 4 E.H W 0 (E.new m)):=RC (L:={E.L with hs:=E.hs}) rfl hm
     rw [e]
     exact (Rp.p W m hf hm).q (by omega)
   | none=>
     have e:cG {E.L with hs:=E.hs} (E.p 3 E.H W 0 0)=({E.L with hs:=E.hs},E.p 6 E.H W 4 0):=RD (L:={E.L with hs:=E.hs}) rfl bZ
     rw [e]
     exact (Rp.full W hf bZ).q (by omega)
 | full W hf bZ=>
   refine ⟨rfl,by omega,fun _=>?_,fun q=>by simp [jC] at q⟩
   have e:cG {E.L with hs:=E.hs} (E.p 6 E.H W 4 0)=(E.L,E.p 7 {E.H with holds:=false} W 4 0):=by
    rw [H2 rfl]
    show (({E.L with hs:=E.hs.set E.lock (-1)}:Lm),_)=_
    rw [hE.back]
   rw [e]
   exact .full W hf bZ
 | p W m hf hm=>
   refine ⟨rfl,by omega,fun q=>by simp [jC] at q,fun _=>?_⟩
   have e:cG {E.L with hs:=E.hs,ss:=E.ss W m} (E.p 4 E.H W 0 (E.new m))=({dJ E W m with hs:=E.hs},E.p (if W.found≠0 then 5 else 6) E.H W 0 W.found):=by
    rw [RE rfl]
    refine Prod.ext ?_ rfl
    unfold dJ jR
    by_cases hl:W.found≠0/\W.prev≠0
    ·show (if W.found≠0/\W.prev≠0 then _ else _)=_
     rw [if_pos hl,if_pos hl]
    ·show (if W.found≠0/\W.prev≠0 then _ else _)=_
     rw [if_neg hl,if_neg hl]
     show ({E.L with hs:=E.hs,ss:=E.ss W m,xs:=E.L.xs.set ((E.c:Nat):Int).toNat (E.new m:Nat)}:Lm)=_
     rw [Int.toNat_natCast]
   rw [e]
   by_cases h0:W.found≠0
   ·rw [if_pos h0]
    exact (Rp.r W m hf hm h0).q (by omega)
   ·rw [if_neg h0]
    have Wd:W.found=0:=by omega
    have:=Rp.d W m hf hm
    have e2:({dJ E W m with hs:=E.hs,ws:=jX E W}:Lm)={dJ E W m with hs:=E.hs}:=by
     unfold jX
     rw [if_neg h0,<-(si E W m).2.2.1]
    rw [e2] at this
    rw [Wd]
    exact this.q (by omega)
 | r W m hf hm h0=>
   refine ⟨rfl,by omega,fun q=>by simp [jC] at q,fun _=>?_⟩
   have e:cG {dJ E W m with hs:=E.hs} (E.p 5 E.H W 0 W.found)=({dJ E W m with hs:=E.hs,ws:=jX E W},E.p 6 E.H W 0 0):=by
    rw [RF rfl]
    refine Prod.ext ?_ rfl
    show ({dJ E W m with hs:=E.hs,ws:=(dJ E W m).ws++[W.found]}:Lm)=_
    unfold jX
    rw [if_pos h0,(si E W m).2.2.1]
   rw [e]
   exact (Rp.d W m hf hm).q (by omega)
 | d W m hf hm=>
   refine ⟨rfl,by omega,fun _=>?_,fun q=>by simp [jC] at q⟩
   have e:cG {dJ E W m with hs:=E.hs,ws:=jX E W} (E.p 6 E.H W 0 0)=({dJ E W m with ws:=jX E W},E.p 7 {E.H with holds:=false} W 0 0):=by
    rw [H2 rfl]
    show (({dJ E W m with ws:=jX E W,hs:=E.hs.set E.lock (-1)}:Lm),_)=_
    rw [hE.back,<-(si E W m).1]
   rw [e]
   exact .done W m hf hm
end
theorem Nv {w:World} {M:Mo} {a:Qa} {key val:ByteArray} {i:Int} {h c:Nat} {d:Nat×Nat} {q:List Mq.Hp} (hM:ah w M) (hP:bE w a (jQ h i key val)) (hE:Ep.Ok ⟨lm M,key,val,i,h,d,c,q⟩) (K:Nat) (hK:8+q.length<=K/\K<=1000000):
 Calls Tryz.prog 58 #[ptr M.m,.iface 179 (ptr a.f),.int .i64 K] w fun e w'=>∃ (n:Nat) (s:Lm×Pt),e=.returned (.tuple #[.int .i64 n,.bool true])/\(n<=8+q.length/\fin (fun s:Lm×Pt=>qu s.1 s.2) (fun s=>cG s.1 s.2) (fun s=>jC s.1 s.2) K (lm M,jQ h i key val)=(n,true,s))/\Qp ⟨lm M,key,val,i,h,d,c,q⟩ s/\yg.Inv M a (jQ h i key val) w s w':=by
 refine mM rL hM hP (Rq ⟨lm M,key,val,i,h,d,c,q⟩) (Qp ⟨lm M,key,val,i,h,d,c,q⟩) ?_ (8+q.length) K ?_ hK.1 hK.2
 ·rintro k s ⟨j,hj,hr⟩
  obtain ⟨h1,h2,h3,h4⟩:=hr.step hE
  refine ⟨hr.ok hE,h1,by omega,h3,fun hd=>?_⟩
  obtain ⟨j',sL,nO⟩:=h4 hd
  exact ⟨j',by omega,nO⟩
 ·exact (Rp.s (E:=⟨lm M,key,val,i,h,d,c,q⟩) (4+q.length) _ _ .a1).q (by omega)
end Go.Proofs.YtpanebgakndddaaGreat.Pu
namespace Go.Proofs.YtpanebgakndddaaGreat.Mq
open Go Hm Ar Mm Wk Pc Me Re Pn
def gn (n:Nat) (cs:Nat->List Hp):List Nat:=(List.range n).flatMap fun b=>aT (cs b)
def fW (cs:Nat->List Hp) (b0:Nat) (q:List Hp) (b:Nat):List Hp:=if b=b0 then q else cs b
theorem QE {α β:Type} {l:List α} {f g:α->List β} (h:∀ a∈l,f a=g a):l.flatMap f=l.flatMap g:=by
 induction l with
 | nil=>rfl
 | cons a t ih=>rw [List.flatMap_cons,List.flatMap_cons,h a (by simp),ih fun b hb=>h b (List.mem_cons_of_mem _ hb)]
theorem yG {n b0:Nat} (h:b0<n) (cs:Nat->List Hp) (q:List Hp):(gn n (fW cs b0 q)).Perm (aT q++((List.range n).erase b0).flatMap fun b=>aT (cs b)):=by
 have h1:(List.range n).Perm (b0::(List.range n).erase b0):=List.perm_cons_erase (by simpa using h)
 have h2:=h1.flatMap_right (fun b=>aT (fW cs b0 q b))
 refine h2.trans ?_
 rw [List.flatMap_cons]
 have e1:aT (fW cs b0 q b0)=aT q:=by unfold fW; rw [if_pos rfl]
 have e2:(((List.range n).erase b0).flatMap fun b=>aT (fW cs b0 q b))=((List.range n).erase b0).flatMap fun b=>aT (cs b):=by
  apply QE
  intro b hb
  have aH:b≠b0:=(List.Nodup.mem_erase_iff List.nodup_range).1 hb |>.1
  unfold fW
  rw [if_neg aH]
 rw [e1,e2]
theorem QF (cs:Nat->List Hp) (b0:Nat):fW cs b0 (cs b0)=cs:=by
 funext b
 unfold fW
 split
 ·rename_i e; rw [e]
 ·rfl
theorem Ci {n b0:Nat} (h:b0<n) (cs:Nat->List Hp):(gn n cs).Perm (aT (cs b0)++((List.range n).erase b0).flatMap fun b=>aT (cs b)):=by
 have:=yG h cs (cs b0)
 rw [QF] at this
 exact this
theorem _root_.Go.Proofs.YtpanebgakndddaaGreat.Re.Wr.perm {ss:List Sl} {ws left ws' left':List Nat} {G:Nat} (h:Wr ss ws left G) (hp:(ws'++left').Perm (ws++left)):Wr ss ws' left' G:=by
 have hl:=hp.length_eq
 simp only [List.length_append] at hl
 exact ⟨h.room,hp.nodup_iff.2 h.nd,fun x hx=>h.live x (hp.mem_iff.1 hx),fun k=>by have:=h.mP k; omega,by have:=h.iB; omega⟩
theorem QG {ss ss':List Sl} (ht:∀ k,(ai ss' k).taken=(ai ss k).taken) (n:Nat):dC ss' n=dC ss n:=by
 unfold dC
 apply List.filter_congr
 intro k _
 rw [ht]
theorem _root_.Go.Proofs.YtpanebgakndddaaGreat.Re.Wr.nodes {ss ss':List Sl} {ws left:List Nat} {G:Nat} (h:Wr ss ws left G) (hl:ss'.length=ss.length) (ht:∀ k,(ai ss' k).taken=(ai ss k).taken/\(ai ss' k).gen=(ai ss k).gen):Wr ss' ws left G:=
 ⟨by rw [hl]; exact h.room,h.nd,fun x hx=>by
  obtain ⟨k,h1,h2,h3⟩:=h.live x hx
  exact ⟨k,by rw [hl]; exact h1,by rw [(ht k).1]; exact h2,by rw [(ht k).2]; exact h3⟩,fun k=>by rw [(ht k).2]; exact h.mP k,by rw [hl,QG fun k=>(ht k).1]; exact h.iB⟩
structure Mp (L:Lm) (n B:Nat) (cs:Nat->List Hp) (l:List Pr) (G:Nat):Prop where
 pw:FM.bo n=true
 now:Me.now L.xs L.ds=(n,B)
 tabs:lY L.xs L.ds
 tb:∀ i,(aM L.ds i).1<=65536/\(aM L.ds i).2<=4000000
 k:1<=L.k/\L.k<=8
 kB:2+L.k<=B
 xl:B+n<=L.xs.length
 xb:∀ x∈L.xs,0<=x/\x<=18446744073709551615
 cU:fg L.ss
 ch:∀ b,b<n->Cx L.ss (Cl.nth L.xs (B+b)).toNat (cs b)
 bk:∀ b,b<n->∀ e∈cs b,FM.bucket (sm e.2.1) n=(b:Nat)
 kd:∀ b,b<n->(fE (cs b)).Nodup
 wr:Wr L.ss L.ws (gn n cs) G
 ln:(l.map (·.1)).Nodup
 lk:∀ key,Pc.lk l key=Pc.lk (bq (cs (aj key n))) key
 len:l.length=(gn n cs).length
 zero:∀ i:Nat,(i:Int)<L.k->Cl.nth L.xs (2+i)=0
 hs:L.hs=List.replicate 6 (-1)
 F:L.F=false
section
variable {L:Lm} {n B:Nat} {cs:Nat->List Hp} {l:List Pr} {G:Nat}
theorem Mp.ad (h:Mp L n B cs l G):(gn n cs).Nodup:=(List.nodup_append.1 h.wr.nd).2.1
theorem Mp.gB (h:Mp L n B cs l G):1<=n/\n<=65536:=by
 have:=FM.eU h.pw
 omega
theorem Mp.oz (h:Mp L n B cs l G) {b0 G':Nat} (hb:b0<n) {q:List Hp} {ss':List Sl} {xs':List Int} {ws':List Nat} {l':List Pr}
 (bA:xs'.length=L.xs.length) (hx:∀ j,j≠B+b0->Cl.nth xs' j=Cl.nth L.xs j) (k9:∀ x∈xs',0<=x/\x<=18446744073709551615) (hN:fg ss')
 (hc:Cx ss' (Cl.nth xs' (B+b0)).toNat q) (ho:∀ b,b<n->b≠b0->Cx ss' (Cl.nth L.xs (B+b)).toNat (cs b)) (iQ:∀ e∈q,FM.bucket (sm e.2.1) n=(b0:Nat)) (DY:(fE q).Nodup)
 (hw:Wr ss' ws' (gn n (fW cs b0 q)) G') (dG:(l'.map (·.1)).Nodup) (xo:∀ key,aj key n≠b0->Pc.lk l' key=Pc.lk l key) (fD:∀ key,aj key n=b0->Pc.lk l' key=Pc.lk (bq q) key) (bP:l'.length=(gn n (fW cs b0 q)).length):
 Mp {L with xs:=xs',ss:=ss',ws:=ws'} n B (fW cs b0 q) l' G':=by
 have hk:=h.kB
 have Jr:=h.k
 refine ⟨h.pw,?_,?_,h.tb,h.k,h.kB,by show B+n<=xs'.length; rw [bA]; exact h.xl,k9,hN,fun b cN=>?_,fun b cN e he=>?_,fun b cN=>?_,hw,dG,fun key=>?_,bP,fun i hi=>?_,h.hs,h.F⟩
 ·have:=h.now
  unfold Me.now at this ⊢
  show aM L.ds (Cl.nth xs' 1).toNat=_
  rw [hx 1 (by omega)]
  exact this
 ·intro i hi
  have:=h.tabs i hi
  show _/\_/\_<=xs'.length
  rw [bA]
  exact this
 ·show Cx ss' (Cl.nth xs' (B+b)).toNat (fW cs b0 q b)
  unfold fW
  split
  ·rename_i e; rw [e]; exact hc
  ·rename_i e
   rw [hx _ (by omega)]
   exact ho b cN e
 ·unfold fW at he
  split at he
  ·rename_i e'; rw [e']; exact iQ e he
  ·exact h.bk b cN e he
 ·unfold fW
  split
  ·exact DY
  ·exact h.kd b cN
 ·unfold fW
  split
  ·rename_i e; exact fD key e
  ·rename_i e
   rw [xo key e]
   exact h.lk key
 ·have hi:(i:Int)<L.k:=hi
  show Cl.nth xs' (2+i)=0
  rw [hx _ (by omega)]
  exact h.zero i hi
end
theorem QH {a t:List Pr} {p p':Pr} {k:ByteArray} (h:p.1≠k) (h':p'.1≠k):lk (a++p::t) k=lk (a++p'::t) k:=by
 induction a with
 | nil=>simp [lk,h,h']
 | cons e r ih=>
   rw [List.cons_append,List.cons_append]
   simp only [lk]
   rw [ih]
theorem QI {ss:List Sl} {m:Nat} (hm:Least ss m) (s:Sl) {y k:Nat} (hk:aV ss y k):aV (ss.set m s) y k/\ai (ss.set m s) k=ai ss k/\k≠m:=by
 have aH:k≠m:=by
  rintro rfl
  have:=hk.2.1
  rw [hm.2.1] at this
  simp at this
 refine ⟨(tV hm.1 _ _ _).2 (by rw [if_neg aH]; exact hk),?_,aH⟩
 rw [at_set hm.1,if_neg aH]
end Go.Proofs.YtpanebgakndddaaGreat.Mq
namespace Go.Proofs.YtpanebgakndddaaGreat.Mq
open Go Go.RowKit Hp K Fl Rw Hm Ar Mm Me Wk Ta Pn Pc Pu Re
theorem tz (q:List Mq.Hp):(bq q).map (·.1)=fE q:=by rw [List.map_map]; rfl
section
variable {L:Lm} {n B:Nat} {cs:Nat->List Mq.Hp} {l:List Pr} {G:Nat} {key val:ByteArray} {i:Int} {hb:Nat}
theorem Mp.small (h:Mp L n B cs l G):L.ws.length+(gn n cs).length<=1024/\L.ss.length<=1024:=by
 have:=h.wr.iB
 have:=h.wr.room
 omega
theorem Mp.ql (h:Mp L n B cs l G) {b:Nat} (hb:b<n):(cs b).length<=(gn n cs).length:=by
 have:=(Ci hb cs).length_eq
 simp only [List.length_append,List.length_map] at this
 omega
abbrev Mp.ep (L:Lm) (n B:Nat) (cs:Nat->List Mq.Hp) (key val:ByteArray) (i:Int) (hb:Nat):Ep:=⟨L,key,val,i,hb,(n,B),B+aj key n,cs (aj key n)⟩
theorem Mp.rK (h:Mp L n B cs l G) (hG:G<=1000000) (hi:0<=i/\i<=1000):(Mp.ep L n B cs key val i hb).Ok:=by
 have wC:=h.small
 obtain ⟨hb1,au⟩:=dH h.pw key
 have zo:=h.ql ax
 have mn:=h.gB
 have eh:=h.kB
 have hk:=h.k
 have bA:=h.xl
 refine ⟨hsm.2,h.cU,h.tb,hi,h.xb,h.hs,h.now,by show n≠0; omega,?_,by show B+aj key n<L.xs.length; omega,by show 1<L.xs.length; omega,h.ch _ ax,fun k=>by have:=h.wr.mP k; show (ai L.ss k).gen<=_; omega,by show L.ws.length<=_; omega,by show (cs _).length<=_; omega⟩
 show ((B+aj key n:Nat):Int)=(B:Int)+FM.bucket (sm key) n
 rw [au]
 omega
theorem vj (h:Mp L n B cs l G) {W:Wa} (hf:fG (Mp.ep L n B cs key val i hb) W):decide (W.found≠0)=(Pc.lk l key).isSome:=by
 rw [h.lk]
 rcases hf with ⟨h0,hk,_⟩ | ⟨pre,x,p,t,z,k,hq,hp,hx,hk,bB,hW,hc,jq⟩
 ·have:Pc.lk (bq (cs (aj key n))) key=none:=nu.2 (by simpa using hk)
  rw [this,h0]
  rfl
 ·have hm:p∈prs (cs (aj key n)):=by
   have hq:cs (aj key n)=_:=hq
   rw [hq]
   simp
  have hp:p.1=key:=hp
  have hn:((bq (cs (aj key n))).map (·.1)).Nodup:=by
   rw [tz]
   exact h.kd _ (dH h.pw key).1
  have:=vh hn hm
  rw [hp] at this
  rw [this,hx]
  simp [hk.pos]
theorem AX (h:Mp L n B cs l G) (hG:G<=1000000) (hi:0<=i/\i<=1000) {s:Lm×Pt} (hq:Qp (Mp.ep L n B cs key val i hb) s):
 decide (s.2.W.found≠0)=(Pc.lk l key).isSome/\s.2.cm=0/\
  ((gj L.ss=none/\s.1=L/\s.2.err=4)\/((gj L.ss).isSome/\s.2.err=0/\s.1.ws.length=L.ws.length+(if (Pc.lk l key).isSome then 1 else 0)/\s.1.ss.length=L.ss.length/\s.1.k=L.k/\∃ cs',∀ l',tG l l' key val->Mp s.1 n B cs' l' (G+1))):=by
 have hE:=h.rK (key:=key) (val:=val) (i:=i) (hb:=hb) hG hi
 cases hq with
 | full W hf bZ=>exact ⟨fnd_lk h hf,rfl,.inl ⟨hfr,rfl,rfl⟩⟩
 | done W m hf hm=>
   have cE:=vj h hf
   refine ⟨hlk,rfl,.inr ⟨by show (gj L.ss).isSome; rw [vO.2 hm]; rfl,rfl,?_,?_,(si _ W m).2.2.2.2,?_⟩⟩
   ·show (jX (Mp.ep L n B cs key val i hb) W).length=_
    unfold jX
    rw [<-cE]
    by_cases h0:W.found≠0
    ·rw [if_pos h0,if_pos (by simpa using h0)]; simp
    ·rw [if_neg h0,if_neg (by simpa using h0)]
     rfl
   ·show (dJ _ W m).ss.length=_
    unfold dJ aQ Ep.ss
    split<;>simp
   obtain ⟨hb1,au⟩:=dH h.pw key
   obtain ⟨b0,cr⟩:∃ b0,b0=aj key n:=⟨_,rfl⟩
   have rp:m<L.ss.length:=hm.1
   have bA:=h.xl
   have hN:=hE.QJ hf hm
   have mn:=hE.Hx hm
   have hs:∀ (y k:Nat),aV L.ss y k->aV (Ep.ss (Mp.ep L n B cs key val i hb) W m) y k/\ai (Ep.ss (Mp.ep L n B cs key val i hb) W m) k=ai L.ss k/\k≠m:=fun y k hk=>QI hm _ hk
   have iY:aV (Ep.ss (Mp.ep L n B cs key val i hb) W m) (Ep.new (Mp.ep L n B cs key val i hb) m) m:=(tV rp _ _ _).2 (by rw [if_pos rfl]; exact ⟨rfl,rfl⟩)
   have bB:(ai (Ep.ss (Mp.ep L n B cs key val i hb) W m) m).nd=⟨key,val,sm key,gP W⟩:=by
    show (ai (L.ss.set m _) m).nd=_
    rw [at_set rp,if_pos rfl]
   have DZ:=h.wr.put hm ⟨key,val,sm key,gP W⟩
   have uP:∀ {l':List Pr},tG l l' key val->∀ key',aj key' n≠b0->Pc.lk l' key'=Pc.lk l key':=fun hu key' aH=>by
    rw [hu.lk,if_neg (by rintro rfl; exact aH cr.symm)]
   have dB:=h.ch b0 (by rw [cr]; exact ax)
   have Kj:∀ x∈L.xs.set (B+b0) ((Ep.new (Mp.ep L n B cs key val i hb) m:Nat):Int),0<=x/\x<=18446744073709551615:=by
    intro x hx
    rcases List.mem_or_eq_of_mem_set hx with q | rfl
    ·exact h.xb x q
    ·exact ⟨by omega,by omega⟩
   have zX:Cl.nth (L.xs.set (B+b0) ((Ep.new (Mp.ep L n B cs key val i hb) m:Nat):Int)) (B+b0)=((Ep.new (Mp.ep L n B cs key val i hb) m:Nat):Int):=by
    rw [fH _ _ _ (by omega),if_pos rfl]
   have mC:∀ b,b<n->b≠b0->Cx (Ep.ss (Mp.ep L n B cs key val i hb) W m) (Cl.nth L.xs (B+b)).toNat (cs b):=fun b cN _=>(h.ch b cN).ku fun y _ k hk=>⟨(hs y k hk).1,by rw [(hs y k hk).2.1]⟩
   have dF:=Ci (n:=n) (b0:=b0) (by omega) cs
   have tf:=h.kd b0 (by omega)
   have oY:=h.bk b0 (by omega)
   have pR:∀ key',aj key' n=b0->Pc.lk l key'=Pc.lk (bq (cs b0)) key':=fun key' e=>by rw [h.lk,e]
   rcases hf with ⟨h0,hk,gU⟩ | ⟨pre,x,p,t,z,k,hq,hp,hx,hk,Kk,hW,hc,jq⟩
   ·
    have hk:key∉kys (cs b0):=by rw [cr]; exact hk
    have D0:gP W=(((Cl.nth L.xs (B+b0)).toNat:Nat):Int):=by
     unfold gP
     rw [if_neg (by omega),gU,cr]
    have e:({dJ (Mp.ep L n B cs key val i hb) W m with ws:=jX (Mp.ep L n B cs key val i hb) W}:Lm)={L with xs:=L.xs.set (B+b0) ((Ep.new (Mp.ep L n B cs key val i hb) m:Nat):Int),ss:=Ep.ss (Mp.ep L n B cs key val i hb) W m,ws:=L.ws}:=by
     unfold dJ jX
     rw [if_neg (by omega),if_neg (by omega),cr]
    simp only [e]
    refine ⟨turn cs b0 ((Ep.new (Mp.ep L n B cs key val i hb) m,(key,val))::cs b0),fun l' hu=>?_⟩
    have xp:=yG (n:=n) (b0:=b0) (by omega) cs ((Ep.new (Mp.ep L n B cs key val i hb) m,(key,val))::cs b0)
    have j6:(gn n (fW cs b0 ((Ep.new (Mp.ep L n B cs key val i hb) m,(key,val))::cs b0))).Perm (Ep.new (Mp.ep L n B cs key val i hb) m::gn n cs):=xp.trans (List.Perm.cons _ dF.symm)
    have kb:Pc.lk l key=none:=by
     rw [pR key cr.symm]
     exact nu.2 (by simpa using hk)
    refine h.oz (by omega) (by simp) (fun j hj=>?_) Kj hN ?_ mC ?_ ?_ ?_ hu.nd (uP hu) (fun key' e'=>?_) ?_
    ·rw [fH _ _ _ (by omega),if_neg hj]
    ·rw [zX,Int.toNat_natCast]
     refine .cons iY (z:=(Cl.nth L.xs (B+b0)).toNat) ?_ (dB.ku fun y _ k hk=>⟨(hs y k hk).1,by rw [(hs y k hk).2.1]⟩)
     rw [bB,D0]
     rfl
    ·intro e he
     rcases List.mem_cons.1 he with rfl | he
     ·rw [cr]; exact au
     ·exact oY e he
    ·exact List.nodup_cons.2 ⟨hk,tf⟩
    ·refine DZ.perm ?_
     refine (List.Perm.append_left L.ws j6).trans ?_
     rw [List.append_assoc]
     exact List.Perm.refl _
    ·rw [hu.lk]
     show _=Pc.lk ((key,val)::bq (cs b0)) key'
     simp only [Pc.lk]
     by_cases cg:key'=key
     ·rw [if_pos cg,if_pos cg.symm]
     ·rw [if_neg cg,if_neg (fun q=>cg q.symm)]
      exact pR key' e'
    ·rw [hu.len,kb,j6.length_eq,List.length_cons,h.len]
     rfl
   ·
    have hq:cs b0=pre++(x,p)::t:=by rw [cr]; exact hq
    have hp:p.1=key:=hp
    have mE:W.found≠0:=by rw [hx]; exact hk.pos
    have D0:gP W=((z:Nat):Int):=by
     unfold gP
     rw [if_pos mE,hW]
     rfl
    have kb:(Pc.lk l key).isSome=true:=by rw [<-cE]; simpa using mE
    have D1:fE (pre++((Ep.new (Mp.ep L n B cs key val i hb) m,(key,val)):Mq.Hp)::t)=fE (cs b0):=by rw [hq]; simp [hp]
    have xp:=yG (n:=n) (b0:=b0) (by omega) cs (pre++((Ep.new (Mp.ep L n B cs key val i hb) m,(key,val)):Mq.Hp)::t)
    have j6:(x::gn n (fW cs b0 (pre++((Ep.new (Mp.ep L n B cs key val i hb) m,(key,val)):Mq.Hp)::t))).Perm (Ep.new (Mp.ep L n B cs key val i hb) m::gn n cs):=by
     refine (List.Perm.cons x xp).trans ?_
     refine List.Perm.trans ?_ (List.Perm.cons _ dF.symm)
     rw [hq]
     simp only [aT,List.map_append,List.map_cons,List.append_assoc,List.cons_append]
     refine (List.Perm.cons x List.perm_middle).trans ?_
     refine (List.Perm.swap _ _ _).trans ?_
     exact List.Perm.cons _ List.perm_middle.symm
    have xq:∀ {ss':List Sl},Wr ss' (L.ws++[Ep.new (Mp.ep L n B cs key val i hb) m]) (gn n cs) (G+1)->Wr ss' (L.ws++[W.found]) (gn n (fW cs b0 (pre++((Ep.new (Mp.ep L n B cs key val i hb) m,(key,val)):Mq.Hp)::t))) (G+1):=fun hw=>by
     refine hw.perm ?_
     rw [hx,List.append_assoc,List.append_assoc]
     exact List.Perm.append_left _ j6
    have hlen:∀ {l':List Pr},tG l l' key val->l'.length=(gn n (fW cs b0 (pre++((Ep.new (Mp.ep L n B cs key val i hb) m,(key,val)):Mq.Hp)::t))).length:=fun hu=>by
     have:=j6.length_eq
     simp only [List.length_cons] at this
     rw [hu.len,if_pos kb,h.len]
     omega
    have xr:∀ {l':List Pr},tG l l' key val->∀ key',aj key' n=b0->Pc.lk l' key'=Pc.lk (bq (pre++((Ep.new (Mp.ep L n B cs key val i hb) m,(key,val)):Mq.Hp)::t)) key':=fun hu key' e'=>by
     rw [hu.lk]
     by_cases cg:key'=key
     ·rw [if_pos cg,cg]
      refine (vh (p:=(key,val)) ?_ ?_).symm
      ·rw [tz,D1]; exact tf
      ·simp
     ·rw [if_neg cg,pR key' e',hq]
      simp only [bq,List.map_append,List.map_cons]
      exact QH (by rw [hp]; exact fun q=>cg q.symm) (fun q=>cg q.symm)
    have xt:∀ e∈pre++((Ep.new (Mp.ep L n B cs key val i hb) m,(key,val)):Mq.Hp)::t,FM.bucket (sm e.2.1) n=(b0:Nat):=by
     intro e he
     rcases List.mem_append.1 he with he | he
     ·exact oY e (by rw [hq]; exact List.mem_append_left _ he)
     ·rcases List.mem_cons.1 he with rfl | he
      ·rw [cr]; exact au
      ·exact oY e (by rw [hq]; exact List.mem_append_right _ (List.mem_cons_of_mem _ he))
    have zY:Cx (Ep.ss (Mp.ep L n B cs key val i hb) W m) z t:=hc.ku fun y _ k hk=>⟨(hs y k hk).1,by rw [(hs y k hk).2.1]⟩
    have Kl:(ai (Ep.ss (Mp.ep L n B cs key val i hb) W m) m).nd=dN (key,val) z:=by rw [bB,D0]; rfl
    by_cases qg:pre=[]
    ·
     subst qg
     have xu:W.prev=0:=jq
     have e:({dJ (Mp.ep L n B cs key val i hb) W m with ws:=jX (Mp.ep L n B cs key val i hb) W}:Lm)={L with xs:=L.xs.set (B+b0) ((Ep.new (Mp.ep L n B cs key val i hb) m:Nat):Int),ss:=Ep.ss (Mp.ep L n B cs key val i hb) W m,ws:=L.ws++[W.found]}:=by
      unfold dJ jX
      rw [if_neg (by omega),if_pos mE,cr]
     simp only [e]
     refine ⟨turn cs b0 ([]++((Ep.new (Mp.ep L n B cs key val i hb) m,(key,val)):Mq.Hp)::t),fun l' hu=>?_⟩
     refine h.oz (by omega) (by simp) (fun j hj=>?_) Kj hN ?_ mC xt (by rw [D1]; exact tf) (xq DZ) hu.nd (uP hu) (xr hu) (hlen hu)
     ·rw [fH _ _ _ (by omega),if_neg hj]
     ·rw [zX,Int.toNat_natCast]
      exact .cons iY Kl zY
    ·
     have xu:W.prev≠0:=by
      rw [jq]
      exact Ht (ss:=L.ss) (by have:=dB; rw [hq] at this; exact this) qg
     obtain ⟨p0,e0,rfl⟩:∃ p0 e,pre=p0++[e]:=⟨pre.dropLast,pre.getLast qg,(List.dropLast_concat_getLast qg).symm⟩
     rw [vS] at jq
     rw [hq] at dB
     obtain ⟨j,zj,hj,Km⟩:=dB.at e0 (by simp)
     have zZ:=hs _ _ hj
     have qc:=h.small.2
     have xw:(W.prev-1) % 65536=j:=by rw [jq]; exact (mH qc hj).1
     have nh:j<(Ep.ss (Mp.ep L n B cs key val i hb) W m).length:=zZ.1.1
     have e:({dJ (Mp.ep L n B cs key val i hb) W m with ws:=jX (Mp.ep L n B cs key val i hb) W}:Lm)={L with xs:=L.xs,ss:=aQ (Ep.ss (Mp.ep L n B cs key val i hb) W m) W.prev (Ep.new (Mp.ep L n B cs key val i hb) m),ws:=L.ws++[W.found]}:=by
      unfold dJ jX
      rw [if_pos ⟨hx0,xu⟩,if_pos mE]
     simp only [e]
     have bO:∀ kk,ai (aQ (Ep.ss (Mp.ep L n B cs key val i hb) W m) W.prev (Ep.new (Mp.ep L n B cs key val i hb) m)) kk=if kk=j then {ai (Ep.ss (Mp.ep L n B cs key val i hb) W m) j with nd:={(ai (Ep.ss (Mp.ep L n B cs key val i hb) W m) j).nd with next:=((Ep.new (Mp.ep L n B cs key val i hb) m:Nat):Int)}} else ai (Ep.ss (Mp.ep L n B cs key val i hb) W m) kk:=fun kk=>by
      unfold aQ
      rw [xw,at_set nh]
     have tg:∀ kk,(ai (aQ (Ep.ss (Mp.ep L n B cs key val i hb) W m) W.prev (Ep.new (Mp.ep L n B cs key val i hb) m)) kk).taken=(ai (Ep.ss (Mp.ep L n B cs key val i hb) W m) kk).taken/\(ai (aQ (Ep.ss (Mp.ep L n B cs key val i hb) W m) W.prev (Ep.new (Mp.ep L n B cs key val i hb) m)) kk).gen=(ai (Ep.ss (Mp.ep L n B cs key val i hb) W m) kk).gen:=fun kk=>by
      rw [bO]
      split
      ·rename_i e; subst e; exact ⟨rfl,rfl⟩
      ·exact ⟨rfl,rfl⟩
     have bP:(aQ (Ep.ss (Mp.ep L n B cs key val i hb) W m) W.prev (Ep.new (Mp.ep L n B cs key val i hb) m)).length=(Ep.ss (Mp.ep L n B cs key val i hb) W m).length:=by unfold aQ; simp
     have Aa:∀ {y kk:Nat},aV (Ep.ss (Mp.ep L n B cs key val i hb) W m) y kk->aV (aQ (Ep.ss (Mp.ep L n B cs key val i hb) W m) W.prev (Ep.new (Mp.ep L n B cs key val i hb) m)) y kk:=fun {y kk} q=>⟨by rw [bP]; exact q.1,by rw [(tg kk).1]; exact q.2.1,by rw [(tg kk).2]; exact q.2.2⟩
     have D2:=h.ad
     have xy:=dF
     rw [hq] at xy
     have xz:=xy.nodup_iff.1 D2
     have aH:∀ y kk,aV L.ss y kk->y≠e0.1->kk≠j:=by
      rintro y kk q1 q2 rfl
      exact q2 (by rw [q1.2.2,hj.2.2])
     have kL:∀ y kk,aV L.ss y kk->y≠e0.1->aV (aQ (Ep.ss (Mp.ep L n B cs key val i hb) W m) W.prev (Ep.new (Mp.ep L n B cs key val i hb) m)) y kk/\(ai (aQ (Ep.ss (Mp.ep L n B cs key val i hb) W m) W.prev (Ep.new (Mp.ep L n B cs key val i hb) m)) kk).nd=(ai L.ss kk).nd:=fun y kk q1 q2=>by
      have h1:=hs y kk q1
      refine ⟨hlive h1.1,?_⟩
      rw [bO,if_neg (aH y kk q1 q2),h1.2.1]
     have lH:fg (aQ (Ep.ss (Mp.ep L n B cs key val i hb) W m) W.prev (Ep.new (Mp.ep L n B cs key val i hb) m)):=Hy hN _ _ mn
     refine ⟨turn cs b0 (p0++[e0]++((Ep.new (Mp.ep L n B cs key val i hb) m,(key,val)):Mq.Hp)::t),fun l' hu=>?_⟩
     have jh:(aT (p0++[e0]++(x,p)::t)).Nodup:=(List.nodup_append.1 xz).1
     have iM:∀ y∈hds p0,y≠e0.1:=by
      intro y hy q
      have:(aT p0++(e0.1::aT ((x,p)::t))).Nodup:=by simpa using jh
      exact (List.nodup_append.1 this).2.2 y hy e0.1 (by simp) q
     have eN:∀ y∈hds t,y≠e0.1:=by
      intro y hy q
      have:(aT p0++(e0.1::aT ((x,p)::t))).Nodup:=by simpa using jh
      have:=(List.nodup_cons.1 (List.nodup_append.1 this).2.1).1
      exact this (by rw [<-q]; exact List.mem_cons_of_mem _ hy)
     refine h.oz (by omega) rfl (fun j hj=>rfl) h.xb lH ?_ ?_ xt (by rw [D1]; exact tf) (xq (DZ.nodes bP tg)) hu.nd (uP hu) (xr hu) (hlen hu)
     ·have jO:Cx (aQ (Ep.ss (Mp.ep L n B cs key val i hb) W m) W.prev (Ep.new (Mp.ep L n B cs key val i hb) m)) (Cl.nth L.xs (B+b0)).toNat (p0++e0::(Ep.new (Mp.ep L n B cs key val i hb) m,(key,val))::t):=by
       refine Cx.swap (ss:=L.ss) (m:=m) (kp:=j) (z:=z) (e:=e0) (e':=(x,p)) (Aa iY) ?_ ?_ p0 _ (by simpa using dB) hj (Aa zZ.1) ?_ (fun y hy kk q=>kL y kk q (iM y hy))
       ·rw [bO,if_neg (by have:=zZ.2.2; omega)]
        exact Kl
       ·exact hc.ku fun y hy kk q=>kL y kk q (eN y hy)
       ·rw [bO,if_pos rfl]
        have VU:(ai (Ep.ss (Mp.ep L n B cs key val i hb) W m) j).nd=dN e0.2 zj:=by rw [zZ.2.1]; exact Km
        simp only [VU]
        rfl
      simpa using jO
     ·intro b cN oW
      refine (h.ch b cN).ku fun y hy kk q=>kL y kk q ?_
      rintro rfl
      have pM:e0.1∈((List.range n).erase b0).flatMap fun b=>aT (cs b):=List.mem_flatMap.2 ⟨b,(List.mem_erase_of_ne oW).2 (by simpa using cN),hy⟩
      exact (List.nodup_append.1 xz).2.2 e0.1 (by simp) e0.1 pM rfl
end
end Go.Proofs.YtpanebgakndddaaGreat.Mq
namespace Go.Proofs.YtpanebgakndddaaGreat.Mq
open Go Go.RowKit Hp K Fl Rw Hm Ar Mm Me Wk Ta Pn Pc Pu Re
structure tW (l l':List Pr) (key:ByteArray):Prop where
 nd:(l'.map (·.1)).Nodup
 lk:∀ k,Pc.lk l' k=if k=key then none else Pc.lk l k
 len:l'.length+(if (Pc.lk l key).isSome then 1 else 0)=l.length
theorem Fu {l l':List Pr} {key:ByteArray} (hn:(l.map (·.1)).Nodup) (hp:l'.Perm (l.filter fun p=>decide (p.1≠key))):tW l l' key:=by
 have hf:((l.filter fun p=>decide (p.1≠key)).map (·.1)).Nodup:=(List.filter_sublist.map _).nodup hn
 have iz:(l'.map (·.1)).Nodup:=(hp.map _).nodup_iff.2 hf
 refine ⟨hn',fun k=>?_,?_⟩
 ·rw [Hu iz hp,xV]
 ·rw [hp.length_eq]
  exact vi hn key
def gL (L:Lm) (c:Nat) (W:Wa):Lm:=
 if W.found=0 then L else if W.prev≠0 then {L with ss:=aQ L.ss W.prev W.nd.next.toNat,ws:=L.ws++[W.found]} else {L with xs:=L.xs.set c W.nd.next,ws:=L.ws++[W.found]}
section
variable {L:Lm} {n B:Nat} {cs:Nat->List Mq.Hp} {l:List Pr} {G:Nat} {key val:ByteArray} {i:Int} {hb:Nat}
theorem AY (h:Mp L n B cs l G) {W:Wa} (hf:fG (Mp.ep L n B cs key val i hb) W):
 (gL L (B+aj key n) W).ws.length=L.ws.length+(if (Pc.lk l key).isSome then 1 else 0)/\(gL L (B+aj key n) W).ss.length=L.ss.length/\(gL L (B+aj key n) W).k=L.k/\
   ∃ cs',∀ l',tW l l' key->Mp (gL L (B+aj key n) W) n B cs' l' G:=by
 have cE:=vj h hf
 refine ⟨?_,?_,?_,?_⟩
 ·unfold gL
  rw [<-cE]
  by_cases h0:W.found=0
  ·rw [if_pos h0,if_neg (by simp [h0])]; rfl
  ·rw [if_neg h0,if_pos (show decide (W.found≠0)=true by simp [h0])]
   split<;>simp
 ·unfold gL aQ
  split
  ·rfl
  ·split<;>simp
 ·unfold gL
  split
  ·rfl
  ·split<;>rfl
 obtain ⟨hb1,au⟩:=dH h.pw key
 obtain ⟨b0,cr⟩:∃ b0,b0=aj key n:=⟨_,rfl⟩
 have bA:=h.xl
 have uP:∀ {l':List Pr},tW l l' key->∀ key',aj key' n≠b0->Pc.lk l' key'=Pc.lk l key':=fun hu key' aH=>by
  rw [hu.lk,if_neg (by rintro rfl; exact aH cr.symm)]
 have dB:=h.ch b0 (by rw [cr]; exact ax)
 have dF:=Ci (n:=n) (b0:=b0) (by omega) cs
 have tf:=h.kd b0 (by omega)
 have oY:=h.bk b0 (by omega)
 have pR:∀ key',aj key' n=b0->Pc.lk l key'=Pc.lk (bq (cs b0)) key':=fun key' e=>by rw [h.lk,e]
 rcases hf with ⟨h0,hk,gU⟩ | ⟨pre,x,p,t,z,k,hq,hp,hx,hk,Kk,hW,hc,jq⟩
 ·
  have hk:key∉kys (cs b0):=by rw [cr]; exact hk
  have kb:Pc.lk l key=none:=by
   rw [pR key cr.symm]
   exact nu.2 (by rw [tz]; exact hk)
  have e:gL L (B+aj key n) W=L:=by unfold gL; rw [if_pos h0]
  rw [e]
  refine ⟨cs,fun l' hu=>{h with ln:=hu.nd,lk:=fun key'=>?_,len:=?_}⟩
  ·rw [hu.lk,<-h.lk]
   split
   ·rename_i e; rw [e,kb]
   ·rfl
  ·have:=hu.len
   rw [kb] at this
   simp only [Option.isSome_none,Bool.false_eq_true,if_false,Nat.add_zero] at this
   rw [this,h.len]
 ·have hq:cs b0=pre++(x,p)::t:=by rw [cr]; exact hq
  have hp:p.1=key:=hp
  have mE:W.found≠0:=by rw [hx]; exact hk.pos
  have uF:W.nd.next=((z:Nat):Int):=by rw [hW]; rfl
  have kb:(Pc.lk l key).isSome=true:=by rw [<-cE]; simpa using mE
  have xp:=yG (n:=n) (b0:=b0) (by omega) cs (pre++t)
  have j6:(x::gn n (fW cs b0 (pre++t))).Perm (gn n cs):=by
   refine (List.Perm.cons x xp).trans ?_
   refine List.Perm.trans ?_ dF.symm
   rw [hq]
   simp only [aT,List.map_append,List.map_cons,List.append_assoc,List.cons_append]
   exact List.perm_middle.symm
  have xq:∀ {ss':List Sl},Wr ss' L.ws (gn n cs) G->Wr ss' (L.ws++[W.found]) (gn n (fW cs b0 (pre++t))) G:=fun hw=>by
   refine hw.perm ?_
   rw [hx,List.append_assoc]
   exact List.Perm.append_left _ j6
  have ur:(fE (pre++t)).Nodup:=by
   have:(fE (pre++t)).Sublist (fE (cs b0)):=by
    rw [hq]
    exact (List.Sublist.append_left (List.sublist_cons_self _ _) _).map _
   exact this.nodup tf
  have VV:key∉kys (pre++t):=by
   have h1:(fE (pre++(x,p)::t)).Nodup:=by rw [<-hq]; exact tf
   have h2:(fE (pre++(x,p)::t)).Perm (p.1::fE (pre++t)):=by
    simp only [fE,List.map_append,List.map_cons]
    exact List.perm_middle
   have:=(List.nodup_cons.1 (h2.nodup_iff.1 h1)).1
   rw [hp] at this
   exact this
  have hlen:∀ {l':List Pr},tW l l' key->l'.length=(gn n (fW cs b0 (pre++t))).length:=fun hu=>by
   have h1:=j6.length_eq
   have h2:=hu.len
   rw [if_pos kb,h.len] at h2
   simp only [List.length_cons] at h1
   omega
  have xr:∀ {l':List Pr},tW l l' key->∀ key',aj key' n=b0->Pc.lk l' key'=Pc.lk (bq (pre++t)) key':=fun hu key' e'=>by
   rw [hu.lk]
   by_cases cg:key'=key
   ·rw [if_pos cg,cg]
    exact (nu.2 (by rw [tz]; exact VV)).symm
   ·rw [if_neg cg,pR key' e',hq]
    simp only [bq,List.map_append,List.map_cons]
    have VW:¬p.1=key':=by rw [hp]; exact fun q=>cg q.symm
    have:∀ a:List Pr,lk (a++p::t.map (·.2)) key'=lk (a++t.map (·.2)) key':=by
     intro a
     induction a with
     | nil=>simp [lk,VW]
     | cons e r ih=>rw [List.cons_append,List.cons_append]; simp only [lk]; rw [ih]
    exact this _
  have xt:∀ e∈pre++t,FM.bucket (sm e.2.1) n=(b0:Nat):=by
   intro e he
   rcases List.mem_append.1 he with he | he
   ·exact oY e (by rw [hq]; exact List.mem_append_left _ he)
   ·exact oY e (by rw [hq]; exact List.mem_append_right _ (List.mem_cons_of_mem _ he))
  have oU:z<=18446744073709551615:=by
   have:=(h.cU k).2
   have e:(ai L.ss k).nd=dN p z:=Kk
   rw [e] at this
   unfold dN at this
   simp only at this
   omega
  by_cases qg:pre=[]
  ·
   subst qg
   have xu:W.prev=0:=jq
   have e:gL L (B+aj key n) W={L with xs:=L.xs.set (B+b0) ((z:Nat):Int),ss:=L.ss,ws:=L.ws++[W.found]}:=by
    unfold gL
    rw [if_neg mE,if_neg (by omega),cr,uF]
   rw [e]
   refine ⟨turn cs b0 ([]++t),fun l' hu=>?_⟩
   have zX:Cl.nth (L.xs.set (B+b0) ((z:Nat):Int)) (B+b0)=((z:Nat):Int):=by
    rw [fH _ _ _ (by omega),if_pos rfl]
   refine h.oz (by omega) (by simp) (fun j hj=>?_) (fun x hx=>?_) h.cU ?_ (fun b hb _=>h.ch b hb) xt ur (xq h.wr) hu.nd (uP hu) (xr hu) (hlen hu)
   ·rw [fH _ _ _ (by omega),if_neg hj]
   ·rcases List.mem_or_eq_of_mem_set hx with q | rfl
    ·exact h.xb x q
    ·omega
   ·rw [zX,Int.toNat_natCast]
    exact hc
  ·
   have xu:W.prev≠0:=by
    rw [jq]
    exact Ht (ss:=L.ss) (by have:=dB; rw [hq] at this; exact this) qg
   obtain ⟨p0,e0,rfl⟩:∃ p0 e,pre=p0++[e]:=⟨pre.dropLast,pre.getLast qg,(List.dropLast_concat_getLast qg).symm⟩
   rw [vS] at jq
   rw [hq] at dB
   obtain ⟨j,zj,hj,Km⟩:=dB.at e0 (by simp)
   have qc:=h.small.2
   have xw:(W.prev-1) % 65536=j:=by rw [jq]; exact (mH qc hj).1
   have e:gL L (B+aj key n) W={L with xs:=L.xs,ss:=aQ L.ss W.prev z,ws:=L.ws++[W.found]}:=by
    unfold gL
    rw [if_neg mE,if_pos xu,uF,Int.toNat_natCast]
   rw [e]
   have bO:∀ kk,ai (aQ L.ss W.prev z) kk=if kk=j then {ai L.ss j with nd:={(ai L.ss j).nd with next:=((z:Nat):Int)}} else ai L.ss kk:=fun kk=>by
    unfold aQ
    rw [xw,at_set hj.1]
   have tg:∀ kk,(ai (aQ L.ss W.prev z) kk).taken=(ai L.ss kk).taken/\(ai (aQ L.ss W.prev z) kk).gen=(ai L.ss kk).gen:=fun kk=>by
    rw [bO]
    split
    ·rename_i e; subst e; exact ⟨rfl,rfl⟩
    ·exact ⟨rfl,rfl⟩
   have bP:(aQ L.ss W.prev z).length=L.ss.length:=by unfold aQ; simp
   have Aa:∀ {y kk:Nat},aV L.ss y kk->aV (aQ L.ss W.prev z) y kk:=fun {y kk} q=>⟨by rw [bP]; exact q.1,by rw [(tg kk).1]; exact q.2.1,by rw [(tg kk).2]; exact q.2.2⟩
   have D2:=h.ad
   have xy:=dF
   rw [hq] at xy
   have xz:=xy.nodup_iff.1 D2
   have aH:∀ y kk,aV L.ss y kk->y≠e0.1->kk≠j:=by
    rintro y kk q1 q2 rfl
    exact q2 (by rw [q1.2.2,hj.2.2])
   have kL:∀ y kk,aV L.ss y kk->y≠e0.1->aV (aQ L.ss W.prev z) y kk/\(ai (aQ L.ss W.prev z) kk).nd=(ai L.ss kk).nd:=fun y kk q1 q2=>by
    refine ⟨hlive q1,?_⟩
    rw [bO,if_neg (aH y kk q1 q2)]
   refine ⟨turn cs b0 (p0++[e0]++t),fun l' hu=>?_⟩
   have jh:(aT (p0++[e0]++(x,p)::t)).Nodup:=(List.nodup_append.1 xz).1
   have Kn:(aT p0++(e0.1::aT ((x,p)::t))).Nodup:=by simpa using jh
   have iM:∀ y∈hds p0,y≠e0.1:=fun y hy q=>(List.nodup_append.1 Kn).2.2 y hy e0.1 (by simp) q
   have eN:∀ y∈hds t,y≠e0.1:=fun y hy q=>(List.nodup_cons.1 (List.nodup_append.1 Kn).2.1).1 (by rw [<-q]; exact List.mem_cons_of_mem _ hy)
   refine h.oz (by omega) rfl (fun j hj=>rfl) h.xb (Hy h.cU _ _ oU) ?_ ?_ xt ur (xq (h.wr.nodes bP tg)) hu.nd (uP hu) (xr hu) (hlen hu)
   ·have zK:∀ (q:List Mq.Hp) (y:Nat),Cx L.ss y (q++e0::(x,p)::t)->(∀ u∈hds q,u≠e0.1)->Cx (aQ L.ss W.prev z) y (q++e0::t):=by
     intro q
     induction q with
     | nil=>
       intro y hy _
       cases hy with
       | @cons _ kk zz pp _ a b c=>
         have D3:kk=j:=by
          have h1:=a.2.2
          have h2:=hj.2.2
          exact a.uniq qc hj
         subst D3
         refine .cons (Aa a) (z:=z) ?_ (hc.ku fun y hy kk q=>kL y kk q (eN y hy))
         rw [bO,if_pos rfl]
         simp only [b]
         rfl
     | cons e1 r ih=>
       intro y hy hu
       cases hy with
       | @cons _ kk zz pp _ a b c=>
         have:=kL _ kk a (hu _ (by simp))
         exact .cons this.1 (this.2.trans b) (ih _ c fun u VX=>hu u (List.mem_cons_of_mem _ VX))
    have:=zK p0 _ (by simpa using dB) iM
    simpa using this
   ·intro b cN oW
    refine (h.ch b cN).ku fun y hy kk q=>kL y kk q ?_
    rintro rfl
    have pM:e0.1∈((List.range n).erase b0).flatMap fun b=>aT (cs b):=List.mem_flatMap.2 ⟨b,(List.mem_erase_of_ne oW).2 (by simpa using cN),hy⟩
    exact (List.nodup_append.1 xz).2.2 e0.1 (by simp) e0.1 pM rfl
end
end Go.Proofs.YtpanebgakndddaaGreat.Mq
namespace Go.Proofs.YtpanebgakndddaaGreat.Dl
open Go Go.RowKit Hp K Fl Rw Hm Ar Mm Me Wk Ta Pn Pc Pu Mq
set_option maxRecDepth 100000
def kl (h:Nat) (k:Int) (key:ByteArray):Dt:=⟨newSk h k (sm key) key,2,0⟩
set_option maxHeartbeats 1000000 in
theorem mN (k:Int) (key:ByteArray) (hk:key.size<=maxLen) (w:World):
 Calls Tryz.prog 81 #[.int .i64 k,.string key] w fun e w'=>∃ (a:Qa) (h:Nat),e=.returned (ptr a.f)/\cz w' a (kl h k key)/\(∀ x,gC a (kl h k key) x->w.heap.size<=x)/\Below w.heap.size w w':=by
 have hS:=Lib.hid (lX.xU key w hk)
 unfold kl sm
 generalize hs:FM.sum key.data.toList=s at*
 replace hs:=Lib.hid hs
 have hN:=Lib.hid (FL k s key w)
 go_enter Tryz.func81,Tryz.ntmps81
 go_wp2_with fail
 refine hS.out.mono ?_
 rintro e w0 ⟨rfl,hw⟩
 obtain rfl:w=w0:=hw.symm
 clear hS hw
 go_wp2_with fail
 refine hN.out.mono ?_
 rintro e w1 ⟨a,h,rfl,kZ,Jv,aJ⟩
 obtain ⟨w2,bl⟩:∃ w2,w2=w1.alloc (.cells #[ptr a.f,.nilFunc,.int .u64 0] 193):=⟨_,rfl⟩
 have aP:af w2 w1.heap.size 193 #[ptr a.f,.nilFunc,.int .u64 0]:=by rw [bl]; exact af.made w1 _ _
 have sO:Below w1.heap.size w1 w2:=by rw [bl]; exact (Below.refl _ _).alloc (Nat.le_refl _) _
 obtain ⟨f,hf⟩:∃ f,f=w1.heap.size:=⟨_,rfl⟩
 rw [<-hf] at aP
 have gU:w.heap.size<=f:=by rw [hf]; exact aJ.size
 have ag:=aJ.trans (sO.mono aJ.size)
 have jt:=kZ.below sO
 have k1:=aP.cell 1
 simp at k1
 have z1:=aP.frozen 1
 have az:=Lib.hid (ag.setCell (p:=⟨f,1,none⟩) gU (aS 108 (ptr f)))
 have hO:=(ab.refl (·=f) w2).setCell (p:=⟨f,1,none⟩) (.inl rfl) (aS 108 (ptr f))
 have aH:∀ x,b9 a (l9 h k s key) x->¬x=f:=fun x hx e=>by have:=kZ.lt hx; omega
 have hE:Hid (cz (w2.setCell ⟨f,1,none⟩ (aS 108 (ptr f))) ⟨f,a.f,a.w⟩ ⟨newSk h k s key,2,0⟩):=Lib.hid
  ⟨hF2.store 1 (aS 108 (ptr f)),jt.only hO aH⟩
 have fQ:Hid (∀ x,gC ⟨f,a.f,a.w⟩ ⟨newSk h k s key,2,0⟩ x->w.heap.size<=x):=Lib.hid (by
  rintro x (q | q)
  ·simp only at q; omega
  ·exact Jv x q)
 clear hN kZ Jv aJ sO aP ag hO aH jt
 go_upto_region 2 with (fail)
 rw [<-bl,<-hf]
 clear bl hf
 go_wp2_with fail
 go_ret
 exact ⟨_,_,rfl,hE.out,fQ.out,az.out⟩
theorem yc {w:World} {F f:Nat} {cv m:Value} {c:Bool} {P:World->Prop} (c4:w.cell? ⟨f,1,none⟩=some (aS F cv)) (eF:∀ args w,(callFunc F args).run Tryz.prog w=.ok (.enter F args) w)
 (hF:Calls Tryz.prog F #[cv,m] w fun e w'=>e=.returned (.bool c)/\P w'):Calls Tryz.prog 274 #[ptr f,m] w fun e w'=>e=.returned (.bool c)/\P w':=by
 replace hF:=Lib.hid hF
 go_enter Tryz.func274,Tryz.ntmps274
 go_wp2_with fail
 refine hF.out.mono ?_
 rintro e w' ⟨rfl,bh⟩
 replace bh:=Lib.hid bh
 clear c4
 go_wp2_with fail
 go_ret
 exact ⟨rfl,bh.out⟩
theorem Ng (args:Array Value) (w:World):(callFunc 108 args).run Tryz.prog w=.ok (.enter 108 args) w:=by kernel_rfl
theorem Nh (args:Array Value) (w:World):(callFunc 145 args).run Tryz.prog w=.ok (.enter 145 args) w:=by kernel_rfl
theorem Ni (args:Array Value) (w:World):(callFunc 180 args).run Tryz.prog w=.ok (.enter 180 args) w:=by kernel_rfl
theorem Nj (args:Array Value) (w:World):(callFunc 144 args).run Tryz.prog w=.ok (.enter 144 args) w:=by kernel_rfl
section
variable {w w':World} {M:Mo} {a:Qa} {D:Dt}
theorem Nk (hM:ah w M) (h:cz w a D) (hl:D.ph=1->gY M.xs M.ds (M.hs,D.H)):Calls Tryz.prog 273 #[ptr a.f,ptr M.m] w fun e w'=>e=.returned (.bool (fN (lm M) D))/\Below w.heap.size w w':=by
 have c3:=h.hd.1
 have hR:=FN hM h.2 hl
 unfold fN
 generalize eJ (lm M) D.bu=b at*
 replace hR:=Lib.hid hR
 clear hM h hl
 go_enter Tryz.func273,Tryz.ntmps273
 go_wp2_with fail
 refine hR.out.mono ?_
 rintro e w' ⟨rfl,hb⟩
 replace hb:=Lib.hid hb
 clear c3
 go_wp2_with fail
 go_ret
 exact ⟨rfl,hb.out⟩
theorem Nl (hM:ah w M) (h:cz w a D) (ok:vg (lm M) D) (hr:fN (lm M) D=true):
 Calls Tryz.prog 274 #[ptr a.f,ptr M.m] w fun e w'=>e=.returned (.bool (iV (lm M) D))/\ov w M a D (aN (lm M) D).1 (aN (lm M) D).2 w':=by
 have c4:=h.hd.2.1
 unfold kO at c4
 have fR:=ok.nx
 unfold iV
 by_cases e2:D.nx=2
 ·rw [if_pos e2] at c4
  rw [show decide (6<=D.nx)=false by simp; omega]
  obtain ⟨r,o⟩:=ok.sk e2
  exact yc c4 Ng (Bd hM h o hr e2)
 rw [if_neg e2] at c4
 by_cases e4:D.nx=4
 ·rw [if_pos e4] at c4
  rw [show decide (6<=D.nx)=false by simp; omega]
  exact yc c4 Nh (Nb hM h (ok.lead e4).1 (ok.lead e4).2 e4)
 rw [if_neg e4] at c4
 by_cases e5:D.nx=5
 ·rw [if_pos e5] at c4
  rw [show decide (6<=D.nx)=false by simp; omega]
  exact yc c4 Ni (Nc hM h (ok.ret e5) e5)
 rw [if_neg e5] at c4
 have e6:D.nx=6:=by omega
 rw [if_pos e6] at c4
 rw [show decide (6<=D.nx)=true by simp; omega]
 exact yc c4 Nj (Nf hM h (ok.drop e6).1 (ok.drop e6).2 e6)
end
theorem rM:ou Bb 164 273 274 vg fN aN iV where
 below h hb:=h.below hb
 mr b w f:=by kernel_rfl
 ms b w f:=by kernel_rfl
 er args w:=by kernel_rfl
 es args w:=by kernel_rfl
 ready {w M a p} hM h ok:=Nk hM h (fun q=>by
  by_cases e2:p.nx=2
  ·obtain ⟨r,o⟩:=ok.sk e2
   exact o.hd q
  ·exact absurd q (ok.ph e2))
 step hM h ok hr:=Nl hM h ok hr
section
variable {L:Lm} {D:Dt}
theorem Nm (h:D.nx=2):aN L D=((aG L D.bu).1,{D with bu:=(aG L D.bu).2,nx:=if bW L D.bu=true then (if (aG L D.bu).2.W.found≠0 then 4 else 6) else 2}):=by
 unfold aN; rw [if_pos h]
theorem Nn (h:D.nx=4):aN L D=(jR L D.bu D.W.nd.next.toNat,{D with cm:=D.W.found,nx:=5}):=by
 unfold aN; rw [if_neg (by omega),if_pos h]
theorem No (h:D.nx=5):aN L D=({L with ws:=L.ws++[D.cm]},{D with cm:=0,nx:=6}):=by
 unfold aN; rw [if_neg (by omega),if_neg (by omega),if_pos h]
theorem FO (h:D.nx=6):aN L D=({L with hs:=L.hs.set D.H.lock (-1)},{D with H:={D.H with holds:=false},nx:=7}):=by
 unfold aN; rw [if_neg (by omega),if_neg (by omega),if_neg (by omega)]
end
abbrev Ep.t (E:Ep) (nx:Nat) (H:Ho) (W:Wa) (cm:Nat):Dt:=⟨E.s H W,nx,cm⟩
def iW (E:Ep) (W:Wa):Lm:=if W.prev≠0 then {E.L with ss:=aQ E.L.ss W.prev W.nd.next.toNat} else {E.L with xs:=E.L.xs.set E.c W.nd.next}
inductive Rd (E:Ep):Nat->Lm×Dt->Prop
 | s (k:Nat) (L:Lm) (S:Sk):Rs E k (L,S)->Rd E (3+k) (L,⟨S,2,0⟩)
 | none (W:Wa):fG E W->W.found=0->W.nd=.zero->Rd E 1 ({E.L with hs:=E.hs},Ep.t E 6 E.H W 0)
 | p (W:Wa):fG E W->W.found≠0->Rd E 3 ({E.L with hs:=E.hs},Ep.t E 4 E.H W 0)
 | r (W:Wa):fG E W->W.found≠0->Rd E 2 ({iW E W with hs:=E.hs},Ep.t E 5 E.H W W.found)
 | d (W:Wa):fG E W->W.found≠0->Rd E 1 ({iW E W with hs:=E.hs,ws:=E.L.ws++[W.found]},Ep.t E 6 E.H W 0)
def Qd (E:Ep) (s:Lm×Dt):Prop:=∃ W,fG E W/\(W.found=0->W.nd=.zero)/\s=(gL E.L E.c W,Ep.t E 7 {E.H with holds:=false} W 0)
section
variable {E:Ep} {k:Nat} {s:Lm×Dt}
theorem Be (E:Ep) (W:Wa):(iW E W).hs=E.L.hs/\(iW E W).ds=E.L.ds/\(iW E W).ws=E.L.ws/\(iW E W).xs.length=E.L.xs.length:=by
 unfold iW
 split
 ·exact ⟨rfl,rfl,rfl,rfl⟩
 ·exact ⟨rfl,rfl,rfl,by simp⟩
theorem fG.next (hE:E.Ok) {W:Wa} (h:fG E W) (h0:W.found≠0):0<=W.nd.next/\W.nd.next<=18446744073709551615:=by
 rcases h with ⟨h1,_⟩ | ⟨pre,x,p,t,z,kk,hq,hp,hx,hk,bB,hW,hc,jq⟩
 ·exact absurd h1 h0
 ·rw [hW,<-bB]
  exact hE.cU kk
theorem Ep.Ok.Np (hE:E.Ok) {W:Wa} (hf:fG E W) (h0:W.found≠0):0<=Cl.nth (iW E W).xs 1/\Cl.nth (iW E W).xs 1<=18446744073709551615:=by
 unfold iW
 split
 ·exact Cl.eV hE.xb 1
 ·refine Cl.eV (fun x hx=>?_) 1
  rcases List.mem_or_eq_of_mem_set hx with q | rfl
  ·exact hE.xb x q
  ·exact fG.next hE hf h0
theorem Rd.ok (hE:E.Ok) (h:Rd E k s):vg s.1 s.2:=by
 cases h with
 | s k L S h=>exact ⟨.inl rfl,fun q=>by simp at q,fun _=>h.ok hE,fun q=>by simp at q,fun q=>by simp at q,fun q=>by simp at q⟩
 | none W hf h0 hz=>exact ⟨by simp,fun _=>by simp,fun q=>by simp at q,fun q=>by simp at q,fun q=>by simp at q,fun _=>⟨hE.yd hE.x1 rfl (Cl.eV hE.xb 1),rfl⟩⟩
 | p W hf h0=>
   have hn:=fG.next hE hf h0
   exact ⟨by simp,fun _=>by simp,fun q=>by simp at q,fun _=>⟨hn.1,hf.ye hE (by simp only; omega) hE.cx (fun x j hj=>hj)⟩,fun q=>by simp at q,fun q=>by simp at q⟩
 | r W hf h0=>
   have hp:=Be E W
   exact ⟨by simp,fun _=>by simp,fun q=>by simp at q,fun q=>by simp at q,fun _=>by show (iW E W).ws.length<=_; rw [hp.2.2.1]; exact hE.ws,fun q=>by simp at q⟩
 | d W hf h0=>
   have hp:=Be E W
   exact ⟨by simp,fun _=>by simp,fun q=>by simp at q,fun q=>by simp at q,fun q=>by simp at q,fun _=>⟨hE.yd (by show 1<(iW E W).xs.length; rw [hp.2.2.2]; exact hE.x1) hp.2.1 (Ep.Ok.Np hE hf h0),rfl⟩⟩
def tB (E:Ep) (k:Nat) (s:Lm×Dt):Prop:=∃ j,j<=k/\Rd E j s
theorem Rd.q {E:Ep} {j:Nat} {s:Lm×Dt} (h:Rd E j s) {k:Nat} (hk:j<=k):tB E k s:=⟨j,hk,h⟩
theorem Rd.step (hE:E.Ok) (h:Rd E k s):fN s.1 s.2=true/\1<=k/\(iV s.1 s.2=true->Qd E (aN s.1 s.2))/\(iV s.1 s.2=false->tB E (k-1) (aN s.1 s.2)):=by
 cases h with
 | s k L S h=>
   obtain ⟨h1,h2,h3,h4⟩:=h.step hE
   refine ⟨h1,by omega,fun q=>by simp [iV] at q,fun _=>?_⟩
   rw [Nm rfl]
   simp only at h3 h4 ⊢
   cases hd:bW L S with
   | true=>
     obtain ⟨W,hf,hz,e⟩:=h3 hd
     rw [e]
     simp only [if_true]
     by_cases h0:W.found≠0
     ·rw [if_pos h0]
      exact (Rd.p W hf h0).q (by omega)
     ·rw [if_neg h0]
      exact (Rd.none W hf (by omega) (hz (by omega))).q (by omega)
   | false=>
     obtain ⟨j,hj,hr⟩:=h4 hd
     simp only [Bool.false_eq_true,if_false]
     have:=Rd.s (E:=E) j (aG L S).1 (aG L S).2 hr
     exact this.q (by omega)
 | none W hf h0 hz=>
   refine ⟨rfl,by omega,fun _=>⟨W,hf,fun _=>hz,?_⟩,fun q=>by simp [iV] at q⟩
   rw [FO rfl]
   unfold gL
   rw [if_pos h0]
   show (({E.L with hs:=E.hs.set E.lock (-1)}:Lm),_)=_
   rw [hE.back]
 | p W hf h0=>
   refine ⟨rfl,by omega,fun q=>by simp [iV] at q,fun _=>?_⟩
   have hn:=fG.next hE hf h0
   have e:aN {E.L with hs:=E.hs} (Ep.t E 4 E.H W 0)=({iW E W with hs:=E.hs},Ep.t E 5 E.H W W.found):=by
    rw [Nn rfl]
    refine Prod.ext ?_ rfl
    unfold iW jR
    by_cases hl:W.prev≠0
    ·show (if W.found≠0/\W.prev≠0 then _ else _)=_
     rw [if_pos ⟨h0,hl⟩,if_pos hl]
    ·show (if W.found≠0/\W.prev≠0 then _ else _)=_
     rw [if_neg (fun q=>hl q.2),if_neg hl]
     show ({E.L with hs:=E.hs,xs:=E.L.xs.set ((E.c:Nat):Int).toNat ((W.nd.next.toNat:Nat):Int)}:Lm)=_
     rw [Int.toNat_natCast,show ((W.nd.next.toNat:Nat):Int)=W.nd.next by omega]
   rw [e]
   exact (Rd.r W hf h0).q (by omega)
 | r W hf h0=>
   refine ⟨rfl,by omega,fun q=>by simp [iV] at q,fun _=>?_⟩
   have e:aN {iW E W with hs:=E.hs} (Ep.t E 5 E.H W W.found)=({iW E W with hs:=E.hs,ws:=E.L.ws++[W.found]},Ep.t E 6 E.H W 0):=by
    rw [No rfl]
    refine Prod.ext ?_ rfl
    show ({iW E W with hs:=E.hs,ws:=(iW E W).ws++[W.found]}:Lm)=_
    rw [(Be E W).2.2.1]
   rw [e]
   exact (Rd.d W hf h0).q (by omega)
 | d W hf h0=>
   refine ⟨rfl,by omega,fun _=>⟨W,hf,fun q=>absurd q h0,?_⟩,fun q=>by simp [iV] at q⟩
   rw [FO rfl]
   refine Prod.ext ?_ rfl
   show ({iW E W with ws:=E.L.ws++[W.found],hs:=E.hs.set E.lock (-1)}:Lm)=gL E.L E.c W
   rw [hE.back]
   unfold gL iW
   rw [if_neg h0]
   by_cases hl:W.prev≠0
   ·rw [if_pos hl,if_pos hl]
   ·rw [if_neg hl,if_neg hl]
end
theorem Nq {w:World} {M:Mo} {a:Qa} {key val:ByteArray} {i:Int} {h c:Nat} {d:Nat×Nat} {q:List Mq.Hp} (hM:ah w M) (hP:cz w a (kl h i key)) (hE:Ep.Ok ⟨lm M,key,val,i,h,d,c,q⟩) (K:Nat) (hK:7+q.length<=K/\K<=1000000):
 Calls Tryz.prog 58 #[ptr M.m,.iface 164 (ptr a.f),.int .i64 K] w fun e w'=>∃ (n:Nat) (s:Lm×Dt),e=.returned (.tuple #[.int .i64 n,.bool true])/\(n<=7+q.length/\fin (fun s:Lm×Dt=>fN s.1 s.2) (fun s=>aN s.1 s.2) (fun s=>iV s.1 s.2) K (lm M,kl h i key)=(n,true,s))/\Qd ⟨lm M,key,val,i,h,d,c,q⟩ s/\Bb.Inv M a (kl h i key) w s w':=by
 refine mM rM hM hP (tB ⟨lm M,key,val,i,h,d,c,q⟩) (Qd ⟨lm M,key,val,i,h,d,c,q⟩) ?_ (7+q.length) K ?_ hK.1 hK.2
 ·rintro k s ⟨j,hj,hr⟩
  obtain ⟨h1,h2,h3,h4⟩:=hr.step hE
  refine ⟨hr.ok hE,h1,by omega,h3,fun hd=>?_⟩
  obtain ⟨j',sL,nO⟩:=h4 hd
  exact ⟨j',by omega,nO⟩
 ·exact (Rd.s (E:=⟨lm M,key,val,i,h,d,c,q⟩) (4+q.length) _ _ .a1).q (by omega)
end Go.Proofs.YtpanebgakndddaaGreat.Dl
namespace Go.Proofs.YtpanebgakndddaaGreat.Sw
open Go Go.RowKit Hp K Fl Rw Hm Ar Mm Me Qs Wk Pn
set_option maxRecDepth 100000
structure Sh where
 worker:Int
 nx:Nat
 err:Int
 el:Nat×Nat
 nw:Nat×Nat
 num:Int
 bucket:Nat
 fi:Nat
 sec:Nat
 at_:Nat
 la:Nat
 met:List Nat
 W:Wt
structure Sc where
 f:Nat
 mv:Value
 B:Nat
 w:Nat
def nG (a:Sc) (nx:Nat):Value:=if nx=9 then aS 56 (ptr a.w) else dV 157
def mg (a:Sc) (nx:Nat):Value:=if nx=1 then aS 119 (ptr a.f) else if nx=2 then aS 158 (ptr a.f) else if nx=3 then aS 191 (ptr a.f)
 else if nx=4 then aS 210 (ptr a.f) else if nx=5 then aS 237 (ptr a.f) else if nx=6 then aS 242 (ptr a.f)
 else if nx=7 then aS 235 (ptr a.f) else if nx=8 then aS 241 (ptr a.f) else if nx=9 then aS 74 (ptr a.w) else dV 190
def dQ (a:Sc) (G:Sh):Array Value:=#[.int .i64 G.worker,nG a G.nx,mg a G.nx,.int .i64 G.err,.int .i64 G.el.1,.int .i64 G.el.2,.int .i64 G.nw.1,.int .i64 G.nw.2,.int .i64 G.num,.int .i64 G.bucket,.int .u64 G.fi,.int .u64 G.sec,.int .u64 G.at_,.int .u64 G.la,a.mv]
abbrev Own (w:World) (a:Sc) (G:Sh):Prop:=af w a.f 205 (dQ a G)
structure cH (w:World) (a:Sc) (G:Sh):Prop where
 an:Own w a G
 c5:G.nx=5->a.mv=.map (some a.B)/\Me.Met w a.B G.met
 wt:G.nx=9->cZ w a.w G.W
def b9 (a:Sc) (G:Sh) (x:Nat):Prop:=x=a.f\/(G.nx=5/\x=a.B)\/(G.nx=9/\x=a.w)
abbrev gq:iD Sc Sh:=⟨Sc.f,cH,b9⟩
section
variable {w w':World} {M:Mo} {a:Sc} {G:Sh}
theorem cH.ty (h:cH w a G) {x:Nat} (hx:b9 a G x):Ty w x [205,157]\/∃ ms,Me.Met w x ms:=by
 rcases hx with rfl | ⟨hn,rfl⟩ | ⟨hn,rfl⟩
 ·exact .inl ((bj h.an).mono (by simp))
 ·exact .inr ⟨_,(h.c5 hn).2⟩
 ·exact .inl ((bj (h.wt hn)).mono (by simp))
theorem cH.lt (h:cH w a G) {x:Nat} (hx:b9 a G x):x<w.heap.size:=by
 rcases h.ty hx with q | ⟨ms,q⟩
 ·exact q.lt
 ·exact q.lt
theorem cH.aA (h:cH w a G) (hM:ah w M) {x:Nat} (hx:b9 a G x):¬ao M x:=fun hm=>by
 rcases h.ty hx with q | ⟨ms,q⟩
 ·exact (hM.ty hm).apart q (by decide)
 ·exact q.no (hM.ty hm)
theorem cH.only {S:Nat->Prop} (h:cH w a G) (ho:ab S w w') (hn:∀ x,b9 a G x->¬S x):cH w' a G where
 an:=h.an.only ho (hn _ (.inl rfl))
 c5 q:=⟨(h.c5 q).1,(h.c5 q).2.only ho (hn _ (.inr (.inl ⟨q,rfl⟩)))⟩
 wt q:=(h.wt q).only ho (hn _ (.inr (.inr ⟨q,rfl⟩)))
theorem cH.below (h:cH w a G) (hb:Below w.heap.size w w'):cH w' a G:=h.only (ab.aD hb (fun _=>False)) (by simp)
theorem cH.drewN (h:cH w a G) (n:Nat):cH (w.drewN n) a G:=h.only ((ab.refl (fun _=>False) w).drewN n) (by simp)
theorem rT (h:Own w a G):w.cell? ⟨a.f,0,none⟩=some (.int .i64 G.worker)/\w.cell? ⟨a.f,1,none⟩=some (nG a G.nx)/\w.cell? ⟨a.f,2,none⟩=some (mg a G.nx)/\w.cell? ⟨a.f,3,none⟩=some (.int .i64 G.err)/\
 w.cell? ⟨a.f,4,none⟩=some (.int .i64 G.el.1)/\w.cell? ⟨a.f,5,none⟩=some (.int .i64 G.el.2)/\w.cell? ⟨a.f,6,none⟩=some (.int .i64 G.nw.1)/\w.cell? ⟨a.f,7,none⟩=some (.int .i64 G.nw.2)/\
 w.cell? ⟨a.f,8,none⟩=some (.int .i64 G.num)/\w.cell? ⟨a.f,9,none⟩=some (.int .i64 G.bucket)/\w.cell? ⟨a.f,10,none⟩=some (.int .u64 G.fi)/\w.cell? ⟨a.f,11,none⟩=some (.int .u64 G.sec)/\
 w.cell? ⟨a.f,12,none⟩=some (.int .u64 G.at_)/\w.cell? ⟨a.f,13,none⟩=some (.int .u64 G.la)/\w.cell? ⟨a.f,14,none⟩=some a.mv:=
 ⟨h.cell 0,h.cell 1,h.cell 2,h.cell 3,h.cell 4,h.cell 5,h.cell 6,h.cell 7,h.cell 8,h.cell 9,h.cell 10,h.cell 11,h.cell 12,h.cell 13,h.cell 14⟩
theorem CR (h:Own w a G) {B:Nat} {ms:List Nat} (hm:Me.Met w B ms):B≠a.f:=fun e=>hm.no (by rw [e]; exact bj h)
end
/-! ### its steps as plain data-/
def fP (G:Sh):Sh:={G with bucket:=G.bucket+1,nx:=if G.bucket+1=G.nw.1 then 8 else 3}
def bD (G:Sh):Sh:=if G.fi=0 then (if G.sec=0 then fP G else {G with fi:=G.sec,nx:=7}) else {G with nx:=7}
def kV (G:Sh):Sh:=if G.la=0 then bD {G with fi:=0} else if G.sec∈G.met then bD G else {G with nx:=6}
def dg (G:Sh) (x:Nat):Sh:=if x=0\/x∈G.met then kV G else {G with at_:=x,nx:=5}
def begun (G:Sh):Sh:=if G.fi=0\/G.sec=0 then bD G else dg {G with la:=0,met:=[]} G.fi
def aG (L:Lm) (G:Sh):Lm×Sh:=
 if G.nx=1 then (L,{G with el:=now L.xs L.ds,nx:=2})
 else if G.nx=2 then
  (if FM.bo ((G.el.1 / 2:Nat):Int)=true/\L.xs.length+G.el.1 / 2<=1048576 then
    ({L with xs:=L.xs++List.replicate (G.el.1 / 2) 0,ds:=L.ds++[(G.el.1 / 2,L.xs.length)]},{G with num:=L.ds.length,err:=0,nw:=(G.el.1 / 2,L.xs.length),nx:=3})
  else (L,{G with num:= -1,err:=if FM.bo ((G.el.1 / 2:Nat):Int)=true then 2 else 5,nx:=10}))
 else if G.nx=3 then (L,{G with fi:=(Cl.nth L.xs (G.el.2+G.bucket)).toNat,nx:=4})
 else if G.nx=4 then (L,begun {G with sec:=(Cl.nth L.xs (G.el.2+(G.bucket+G.nw.1))).toNat})
 else if G.nx=5 then (L,dg {G with la:=G.at_,met:=G.at_::G.met} (ai L.ss ((G.at_-1) % 65536)).nd.next.toNat)
 else if G.nx=6 then ({L with ss:=Pu.aQ L.ss G.la G.sec},bD G)
 else if G.nx=7 then ({L with xs:=L.xs.set (G.nw.2+G.bucket) ((G.fi:Nat):Int)},fP G)
 else if G.nx=8 then ({L with xs:=L.xs.set 1 G.num},{G with W:=⟨G.worker,0,0,0⟩,nx:=9})
 else ({L with xs:=(aI L.k.toNat L.xs L.hs G.W).1,hs:=(aI L.k.toNat L.xs L.hs G.W).2.1},{G with W:=(aI L.k.toNat L.xs L.hs G.W).2.2})
def eJ (L:Lm) (G:Sh):Bool:=if G.nx=9 then fO L.xs L.hs G.W else true
def bW (L:Lm) (G:Sh):Bool:=
 if G.nx=2 then !decide (FM.bo ((G.el.1 / 2:Nat):Int)=true/\L.xs.length+G.el.1 / 2<=1048576) else if G.nx=9 then decide (G.W.at_=3) else decide (10<=G.nx)
structure pk (L:Lm) (G:Sh):Prop where
 nx:1<=G.nx/\G.nx<=9
 x1:1<L.xs.length
 hl:0<L.hs.length
 ds:L.ds.length<=900000
 el:G.nx≠1->G.el.1<=65536/\G.el.2<=4000000
 nw:G.nw.1<=65536/\G.nw.2<=4000000
 bk:G.bucket<=1000000
 hb:G.fi<=18446744073709551615/\G.sec<=18446744073709551615
 c3:G.nx=3->G.el.2+G.bucket<L.xs.length
 c4:G.nx=4->G.el.2+(G.bucket+G.nw.1)<L.xs.length
 c5:G.nx=5->aV L.ss G.at_ ((G.at_-1) % 65536)/\G.at_<=18446744073709551615/\(0<=(ai L.ss ((G.at_-1) % 65536)).nd.next/\(ai L.ss ((G.at_-1) % 65536)).nd.next<=18446744073709551615)/\G.met.length<=100000
 c6:G.nx=6->G.la<=18446744073709551615/\∃ k,aV L.ss G.la k
 c7:G.nx=7->G.nw.2+G.bucket<L.xs.length
 c8:G.nx=8->0<=G.num/\G.num<=1000000
 c9:G.nx=9->0<=L.k/\Qs.ey L.k.toNat L.xs L.hs G.W
end Go.Proofs.YtpanebgakndddaaGreat.Sw
namespace Go.Proofs.YtpanebgakndddaaGreat.Sw
open Go Go.RowKit Hp K Fl Rw Hm Ar Mm Me Qs Wk Pn
set_option maxRecDepth 100000
theorem rW (m:Value) (w:World):Calls Tryz.prog 157 #[m] w fun e w'=>e=.returned (.bool true)/\w'=w:=by
 go_enter Tryz.func157,Tryz.ntmps157
 go_wp2
 go_ret
 exact ⟨rfl,rfl⟩
section
variable {w w':World} {M:Mo} {a:Sc} {G:Sh}
theorem kr {c:Nat} (w:World) (i j:Nat) (u v:Value):ab (·=c) w ((w.setCell ⟨c,i,none⟩ u).setCell ⟨c,j,none⟩ v):=
 ((ab.refl (·=c) w).setCell (p:=⟨c,i,none⟩) (.inl rfl) _).setCell (p:=⟨c,j,none⟩) (.inl rfl) _
theorem sr {c:Nat} (w:World) (i:Nat) (u:Value):ab (·=c) w (w.setCell ⟨c,i,none⟩ u):=(ab.refl (·=c) w).setCell (p:=⟨c,i,none⟩) (.inl rfl) _
theorem BC (h:Own w a G) {n:Nat} (hn:n≠9):Own ((w.setCell ⟨a.f,1,none⟩ (dV 157)).setCell ⟨a.f,2,none⟩ (mg a n)) a {G with nx:=n}:=by
 have e:dQ a {G with nx:=n}=((dQ a G).setIfInBounds 1 (dV 157)).setIfInBounds 2 (mg a n):=by
  unfold dQ nG
  rw [if_neg hn]
  rfl
 unfold Own
 rw [e]
 exact (af.store h 1 _).store 2 _
theorem eg (h:Own w a G) {n F:Nat} {b:Array Value} (hn:n≠9) (e:mg a n=.func (.func F) b #[]):
 Calls Tryz.prog 118 #[ptr a.f,.func (.func F) b #[]] w fun e w'=>e=.returned (.tuple #[])/\Own w' a {G with nx:=n}/\ab (·=a.f) w w':=by
 have c1:=h.cell 1
 have c2:=h.cell 2
 have z1:=h.frozen 1
 have z2:=h.frozen 2
 simp only [dQ,List.getElem?_toArray,List.getElem?_cons_succ,List.getElem?_cons_zero] at c1 c2
 have hE:=Lib.hid (BC h hn)
 rw [e] at hE
 have hO:=Lib.hid (kr (c:=a.f) w 1 2 (dV 157) (.func (.func F) b #[]))
 generalize nG a G.nx=u1 at*
 generalize mg a G.nx=u2 at*
 clear h e
 go_enter Tryz.func118,Tryz.ntmps118
 go_wp2
 go_end0
 exact ⟨rfl,hE.out,hO.out⟩
set_option maxHeartbeats 2000000 in
theorem IG (h:Own w a G) (hb:G.bucket<=1000000) (hn:G.nw.1<=1000000):
 Calls Tryz.prog 234 #[ptr a.f] w fun e w'=>e=.returned (.tuple #[])/\Own w' a (fP G)/\ab (·=a.f) w w':=by
 have c9:=h.cell 9
 have z9:=h.frozen 9
 simp only [dQ,List.getElem?_toArray,List.getElem?_cons_succ,List.getElem?_cons_zero] at c9
 have wP:Own (w.setCell ⟨a.f,9,none⟩ (.int .i64 ((G.bucket:Int)+1))) a {G with bucket:=G.bucket+1}:=af.store h 9 (.int .i64 (G.bucket+1))
 have aq:=Lib.hid (sr (c:=a.f) w 9 (.int .i64 (G.bucket+1)))
 have hG:=Lib.hid (eg wP (n:=3) (by omega) rfl)
 clear h wP
 go_enter Tryz.func234,Tryz.ntmps234
 go_wp2_with fail
 refine hG.out.mono ?_
 rintro e w2 ⟨rfl,ae,dc⟩
 have p9:=ae.cell 9
 have p6:=ae.cell 6
 simp only [dQ,List.getElem?_toArray,List.getElem?_cons_succ,List.getElem?_cons_zero] at p6 p9
 have wQ:=Lib.hid (aq.out.trans dc)
 have ng:=Lib.hid (fun n=>eg (G:={G with bucket:=G.bucket+1,nx:=3}) (af.only ae ((ab.refl (fun _=>False) w2).drewN n) (by simp):Own (w2.drewN n) a {G with bucket:=G.bucket+1,nx:=3}) (n:=8) (by omega) rfl)
 replace ae:=Lib.hid ae
 clear dc aq c9 z9 hG
 by_cases hq:G.bucket+1=G.nw.1
 ·have q1:(((G.bucket+1:Nat):Int)==(G.nw.1:Int))=true:=by simp; omega
  have e6:Hid (fP G={G with bucket:=G.bucket+1,nx:=8}):=Lib.hid (by
   unfold fP
   rw [if_pos hq])
  clear hq
  go_wp2_with fail
  go_quiet (fail)
  clear p6 p9
  go_wp2_with fail
  refine (ng.out _).mono ?_
  rintro e w3 ⟨rfl,bJ,wR⟩
  have ka:=Lib.hid ((wQ.out.drewN nq).trans wR)
  replace bJ:=Lib.hid bJ
  clear wR ng
  go_wp2_with fail
  go_end0
  exact ⟨rfl,by rw [e6.out]; exact bJ.out,ka.out⟩
 ·have q1:(((G.bucket+1:Nat):Int)==(G.nw.1:Int))=false:=by simp; omega
  have e6:Hid (fP G={G with bucket:=G.bucket+1,nx:=3}):=Lib.hid (by
   unfold fP
   rw [if_neg hq])
  clear hq
  go_wp2_with fail
  go_quiet (fail)
  have bJ:=Lib.hid (af.only ae.out ((ab.refl (fun _=>False) w2).drewN nq) (by simp))
  have ka:=Lib.hid (wQ.out.drewN nq)
  clear p6 p9 ng
  go_wp2_with fail
  go_end0
  exact ⟨rfl,by rw [e6.out]; exact bJ.out,ka.out⟩
set_option maxHeartbeats 2000000 in
theorem oC (h:Own w a G) (hb:G.bucket<=1000000) (hn:G.nw.1<=1000000):
 Calls Tryz.prog 224 #[ptr a.f] w fun e w'=>e=.returned (.tuple #[])/\Own w' a (bD G)/\ab (·=a.f) w w':=by
 have c10:=h.cell 10
 have c11:=h.cell 11
 have z10:=h.frozen 10
 simp only [dQ,List.getElem?_toArray,List.getElem?_cons_succ,List.getElem?_cons_zero] at c10 c11
 by_cases h0:G.fi=0
 ·have hX:Own (w.setCell ⟨a.f,10,none⟩ (.int .u64 G.sec)) a {G with fi:=G.sec}:=af.store h 10 (.int .u64 G.sec)
  have hO:=Lib.hid (sr (c:=a.f) w 10 (.int .u64 G.sec))
  rw [h0] at c10
  by_cases h1:G.sec=0
  ·have e:Hid (bD G=fP {G with fi:=G.sec}):=Lib.hid (by
    unfold bD
    rw [if_pos h0,if_pos h1]
    unfold fP
    rw [h0,h1])
   rw [h1] at c11
   have hN:=IG hX hb hn
   rw [h1] at hN hO e
   replace hN:=Lib.hid hN
   clear h hX h0
   go_enter Tryz.func224,Tryz.ntmps224
   go_wp2_with fail
   refine hN.out.mono ?_
   rintro e w2 ⟨rfl,ae,dc⟩
   have ka:=Lib.hid (hO.out.trans dc)
   replace ae:=Lib.hid ae
   clear dc hN hO c10 c11 z10
   go_wp2_with fail
   exact bodyPost_ret (v:=.tuple #[]) (by simp [results,Tryz.results224]) rfl ⟨rfl,by rw [e.out]; exact ae.out,ka.out⟩
  ·have e:Hid (bD G={G with fi:=G.sec,nx:=7}):=Lib.hid (by
    unfold bD
    rw [if_pos h0,if_neg h1])
   have q1:((G.sec:Int)==0)=false:=by simp; omega
   have hN:=Lib.hid (eg hX (n:=7) (by omega) rfl)
   clear h hX h0 h1
   go_enter Tryz.func224,Tryz.ntmps224
   go_wp2_with fail
   refine hN.out.mono ?_
   rintro e w2 ⟨rfl,ae,dc⟩
   have ka:=Lib.hid (hO.out.trans dc)
   replace ae:=Lib.hid ae
   clear dc hN hO c10 c11 z10
   go_wp2_with fail
   go_end0
   exact ⟨rfl,by rw [e.out]; exact ae.out,ka.out⟩
 ·have e:Hid (bD G={G with nx:=7}):=Lib.hid (by
   unfold bD
   rw [if_neg h0])
  have q1:((G.fi:Int)==0)=false:=by simp; omega
  have hN:=Lib.hid (eg h (n:=7) (by omega) rfl)
  clear h h0
  go_enter Tryz.func224,Tryz.ntmps224
  go_wp2_with fail
  refine hN.out.mono ?_
  rintro e w2 ⟨rfl,ae,dc⟩
  replace dc:=Lib.hid dc
  replace ae:=Lib.hid ae
  clear hN c10 c11 z10
  go_wp2_with fail
  go_end0
  exact ⟨rfl,by rw [e.out]; exact ae.out,dc.out⟩
set_option maxHeartbeats 2000000 in
theorem TF (h:Own w a G) (hm:a.mv=.map (some a.B)) (hM:Me.Met w a.B G.met) (hs:G.sec<=18446744073709551615) (hb:G.bucket<=1000000) (hn:G.nw.1<=1000000):
 Calls Tryz.prog 236 #[ptr a.f] w fun e w'=>e=.returned (.tuple #[])/\Own w' a (kV G)/\ab (·=a.f) w w':=by
 have c10:=h.cell 10
 have c11:=h.cell 11
 have c13:=h.cell 13
 have c14:=h.cell 14
 have z10:=h.frozen 10
 simp only [dQ,List.getElem?_toArray,List.getElem?_cons_succ,List.getElem?_cons_zero,hm] at c10 c11 c13 c14
 by_cases h0:G.la=0
 ·have hX:Own (w.setCell ⟨a.f,10,none⟩ (.int .u64 0)) a {G with fi:=0}:=af.store h 10 (.int .u64 0)
  have hO:=Lib.hid (sr (c:=a.f) w 10 (.int .u64 0))
  rw [h0] at c13
  have e:Hid (kV G=bD {G with fi:=0}):=Lib.hid (by
   unfold kV
   rw [if_pos h0])
  have hN:=Lib.hid (oC hX hb hn)
  clear h hX h0 hM
  go_enter Tryz.func236,Tryz.ntmps236
  go_wp2_with fail
  refine hN.out.mono ?_
  rintro e w2 ⟨rfl,ae,dc⟩
  have ka:=Lib.hid (hO.out.trans dc)
  replace ae:=Lib.hid ae
  clear dc hN hO c10 c11 c13 c14 z10
  go_wp2_with fail
  go_end0
  exact ⟨rfl,by rw [e.out]; exact ae.out,ka.out⟩
 ·have q1:((G.la:Int)==0)=false:=by simp; omega
  have hL:=fun n=>(hM.only ((ab.refl (fun _=>False) w).drewN n) (by simp)).look hs
  by_cases h1:G.sec∈G.met
  ·rw [show decide (G.sec∈G.met)=true by simpa using h1] at hL
   have e:Hid (kV G=bD G):=Lib.hid (by
    unfold kV
    rw [if_neg h0,if_pos h1])
   have hN:=Lib.hid (fun n=>oC (af.only h ((ab.refl (fun _=>False) w).drewN n) (by simp):Own (w.drewN n) a G) hb hn)
   have hO:=Lib.hid (fun n=>(ab.refl (·=a.f) w).drewN n)
   clear h h0 h1 hM
   go_enter Tryz.func236,Tryz.ntmps236
   go_wp2_with fail
   go_quiet (fail)
   go_wp2_with fail
   refine (hN.out nq).mono ?_
   rintro e w2 ⟨rfl,ae,dc⟩
   have ka:=Lib.hid ((hO.out nq).trans dc)
   replace ae:=Lib.hid ae
   clear dc hN hO hL c10 c11 c13 c14 z10
   go_wp2_with fail
   go_end0
   exact ⟨rfl,by rw [e.out]; exact ae.out,ka.out⟩
  ·rw [show decide (G.sec∈G.met)=false by simpa using h1] at hL
   have e:Hid (kV G={G with nx:=6}):=Lib.hid (by
    unfold kV
    rw [if_neg h0,if_neg h1])
   have hN:=Lib.hid (fun n=>eg (af.only h ((ab.refl (fun _=>False) w).drewN n) (by simp):Own (w.drewN n) a G) (n:=6) (by omega) rfl)
   have hO:=Lib.hid (fun n=>(ab.refl (·=a.f) w).drewN n)
   clear h h0 h1 hM
   go_enter Tryz.func236,Tryz.ntmps236
   go_wp2_with fail
   go_quiet (fail)
   go_wp2_with fail
   refine (hN.out nq).mono ?_
   rintro e w2 ⟨rfl,ae,dc⟩
   have ka:=Lib.hid ((hO.out nq).trans dc)
   replace ae:=Lib.hid ae
   clear dc hN hO hL c10 c11 c13 c14 z10
   go_wp2_with fail
   go_end0
   exact ⟨rfl,by rw [e.out]; exact ae.out,ka.out⟩
set_option maxHeartbeats 2000000 in
theorem vD (h:Own w a G) (hm:a.mv=.map (some a.B)) (hM:Me.Met w a.B G.met) (hs:G.sec<=18446744073709551615) (hb:G.bucket<=1000000) (hn:G.nw.1<=1000000) {x:Nat} (hx:x<=18446744073709551615):
 Calls Tryz.prog 225 #[ptr a.f,.int .u64 x] w fun e w'=>e=.returned (.tuple #[])/\Own w' a (dg G x)/\ab (·=a.f) w w':=by
 have c12:=h.cell 12
 have c14:=h.cell 14
 have z12:=h.frozen 12
 simp only [dQ,List.getElem?_toArray,List.getElem?_cons_succ,List.getElem?_cons_zero,hm] at c12 c14
 have hE:=Lib.hid (TF h hm hM hs hb hn)
 by_cases h0:x=0
 ·subst h0
  have e:Hid (dg G 0=kV G):=Lib.hid (by unfold dg; rw [if_pos (.inl rfl)])
  clear h hM
  go_enter Tryz.func225,Tryz.ntmps225
  go_wp2_with fail
  refine hE.out.mono ?_
  rintro e w1 ⟨rfl,ae,dc⟩
  replace dc:=Lib.hid dc
  replace ae:=Lib.hid ae
  clear hE c12 c14 z12
  go_wp2_with fail
  exact bodyPost_ret (v:=.tuple #[]) (by simp [results,Tryz.results225]) rfl ⟨rfl,by rw [e.out]; exact ae.out,dc.out⟩
 ·have q1:((x:Int)==0)=false:=by simp; omega
  have hL:=hM.look hx
  by_cases h1:x∈G.met
  ·rw [show decide (x∈G.met)=true by simpa using h1] at hL
   have e:Hid (dg G x=kV G):=Lib.hid (by unfold dg; rw [if_pos (.inr h1)])
   clear h hM h1 h0
   go_enter Tryz.func225,Tryz.ntmps225
   go_wp2_with fail
   refine hE.out.mono ?_
   rintro e w1 ⟨rfl,ae,dc⟩
   replace dc:=Lib.hid dc
   replace ae:=Lib.hid ae
   clear hE c12 c14 z12 hL
   go_wp2_with fail
   exact bodyPost_ret (v:=.tuple #[]) (by simp [results,Tryz.results225]) rfl ⟨rfl,by rw [e.out]; exact ae.out,dc.out⟩
  ·rw [show decide (x∈G.met)=false by simpa using h1] at hL
   have e:Hid (dg G x={G with at_:=x,nx:=5}):=Lib.hid (by unfold dg; rw [if_neg (by simp [h0,h1])])
   have aJ:Own (w.setCell ⟨a.f,12,none⟩ (.int .u64 x)) a {G with at_:=x}:=af.store h 12 (.int .u64 x)
   have aw:=Lib.hid (sr (c:=a.f) w 12 (.int .u64 x))
   have hG:=Lib.hid (eg aJ (n:=5) (by omega) rfl)
   clear h hM h1 h0 hE aJ
   go_enter Tryz.func225,Tryz.ntmps225
   go_wp2_with fail
   refine hG.out.mono ?_
   rintro e w2 ⟨rfl,ag,ae⟩
   have hO:=Lib.hid (aw.out.trans ae)
   replace ag:=Lib.hid ag
   clear ae aw hG c12 c14 z12 hL
   go_wp2_with fail
   go_end0
   exact ⟨rfl,by rw [e.out]; exact ag.out,hO.out⟩
end
end Go.Proofs.YtpanebgakndddaaGreat.Sw
namespace Go.Proofs.YtpanebgakndddaaGreat.Sw
open Go Go.RowKit Hp K Fl Rw Hm Ar Mm Me Qs Wk Pn
set_option maxRecDepth 100000
section
variable {w w':World} {M:Mo} {a:Sc} {G:Sh}
theorem oD {S:Nat->Prop} {a':Sc} {G':Sh} (hM:ah w M) (hG:cH w' a' G') (hf:a'.f=a.f) (iw:∀ x,b9 a' G' x->b9 a G x\/w.heap.size<=x) (h:cH w a G) (hO:ab S w w') (hS:∀ x,S x->b9 a G x):gq.ba w M a G (lm M) G' w':=
 ⟨M,a',hM.only hO (fun x hx hs=>h.aA hM (hS x hs) hx),rfl,gm.refl _ _,hG,hf,iw,hO.mono (fun x _ q=>.inr (hS x q))⟩
theorem cH.plain (hB:Own w' a G) (hn:G.nx≠5/\G.nx≠9):cH w' a G:=⟨hB,fun q=>absurd q hn.1,fun q=>absurd q hn.2⟩
theorem sy {G':Sh} (hn:G'.nx≠5/\G'.nx≠9) {k:Nat} (x:Nat) (hx:b9 a G' x):b9 a G x\/k<=x:=by
 rcases hx with rfl | ⟨q,_⟩ | ⟨q,_⟩
 ·exact .inl (.inl rfl)
 ·exact absurd q hn.1
 ·exact absurd q hn.2
set_option maxHeartbeats 2000000 in
theorem vF (hM:ah w M) (h:cH w a G) (hx:1<M.xs.length) (h1:G.nx=1):Calls Tryz.prog 119 #[ptr a.f,ptr M.m] w fun e w'=>e=.returned (.bool false)/\gq.ba w M a G (aG (lm M) G).1 (aG (lm M) G).2 w':=by
 have hN:=Lib.hid (pj hM hx)
 unfold aG
 rw [if_pos h1]
 show Calls _ _ _ _ fun e w'=>_/\gq.ba w M a G (lm M) {G with el:=now M.xs M.ds,nx:=2} w'
 generalize now M.xs M.ds=d at*
 unfold dv at hN
 have HM:=Lib.hid hM
 have HG:=Lib.hid h
 clear hM h
 go_enter Tryz.func119,Tryz.ntmps119
 go_wp2_with fail
 refine hN.out.mono ?_
 rintro e w1 ⟨rfl,aJ⟩
 have ak:=HG.out.below aJ
 have c4:=ak.an.cell 4
 have c5:=ak.an.cell 5
 have z4:=ak.an.frozen 4
 have z5:=ak.an.frozen 5
 simp only [dQ,List.getElem?_toArray,List.getElem?_cons_succ,List.getElem?_cons_zero] at c4 c5
 have ag:Own ((w1.setCell ⟨a.f,4,none⟩ (.int .i64 d.1)).setCell ⟨a.f,5,none⟩ (.int .i64 d.2)) a {G with el:=d}:=(ak.an.store 4 (.int .i64 d.1)).store 5 (.int .i64 d.2)
 have ae:=kr (c:=a.f) w1 4 5 (.int .i64 d.1) (.int .i64 d.2)
 have lL:=Lib.hid (eg ag (n:=2) (by omega) rfl)
 have aq:=Lib.hid ((ab.aD aJ (·=a.f)).trans ae)
 clear ag ae hN aJ
 replace ak:=Lib.hid ak
 go_wp2_with fail
 refine lL.out.mono ?_
 rintro e w3 ⟨rfl,ay,aL⟩
 have hE:Hid (gq.ba w M a G (lm M) {G with el:=d,nx:=2} w3):=Lib.hid
  (oD HM.out (a':=a) (cH.plain ay (by simp)) rfl (sy (by simp)) HG.out (aq.out.trans aL) (fun x q=>.inl q))
 clear ay aL lL c4 c5 z4 z5
 go_wp2_with fail
 go_ret
 exact ⟨rfl,hE.out⟩
theorem IH (n:Nat):(n:Int).tdiv 2=((n / 2:Nat):Int):=by
 rw [Int.tdiv_eq_ediv_of_nonneg (by omega)]
 omega
set_option maxHeartbeats 2000000 in
theorem BE (hM:ah w M) (h:cH w a G) (he:G.el.1<=65536) (hp:¬(FM.bo ((G.el.1 / 2:Nat):Int)=true/\M.xs.length+G.el.1 / 2<=1048576)):
 Calls Tryz.prog 158 #[ptr a.f,ptr M.m] w fun e w'=>e=.returned (.bool true)/\gq.ba w M a G (lm M) {G with num:= -1,err:=if FM.bo ((G.el.1 / 2:Nat):Int)=true then 2 else 5,nx:=10} w':=by
 obtain ⟨n2,iM⟩:∃ n,n=G.el.1 / 2:=⟨_,rfl⟩
 have hd:=IH G.el.1
 rw [<-iM] at hp hd ⊢
 obtain ⟨c,hc,jw,hT⟩:∃ c:Int,(c != 0)=true/\c=(if FM.bo (n2:Int)=true then 2 else 5)/\Calls Tryz.prog 46 #[ptr M.m,.int .i64 (n2:Int)] w fun e w'=>e=.returned (.tuple #[.int .i64 (-1),.int .i64 c])/\w=w':=by
  cases kY:FM.bo (n2:Int) with
  | true=>
    refine ⟨2,rfl,by simp,GF hM _ (by omega) (by omega) kY ?_⟩
    have:¬M.xs.length+n2<=1048576:=fun q=>hp ⟨hpw,q⟩
    omega
  | false=>exact ⟨5,rfl,by simp,GG hM _ (by omega) (by omega) kY⟩
 rw [<-jw]
 have bl:IntKind.i64.wrap (n2:Int)=n2:=IntWalk.i64_in _ (by omega)
 replace hT:=Lib.hid hT
 have c3:=h.an.cell 3
 have c4:=h.an.cell 4
 have c8:=h.an.cell 8
 have z3:=h.an.frozen 3
 have z8:=h.an.frozen 8
 simp only [dQ,List.getElem?_toArray,List.getElem?_cons_succ,List.getElem?_cons_zero] at c3 c4 c8
 have ag:Own ((w.setCell ⟨a.f,8,none⟩ (.int .i64 (-1))).setCell ⟨a.f,3,none⟩ (.int .i64 c)) a {G with num:= -1,err:=c}:=(h.an.store 8 (.int .i64 (-1))).store 3 (.int .i64 c)
 have ae:=Lib.hid (kr (c:=a.f) w 8 3 (.int .i64 (-1)) (.int .i64 c))
 have hE:=Lib.hid (eg ag (n:=10) (by omega) rfl)
 have HM:=Lib.hid hM
 have HG:=Lib.hid h
 clear hM h ag hp jw
 replace iM:=Lib.hid iM
 go_enter Tryz.func158,Tryz.ntmps158
 go_wp2_with fail
 refine hT.out.mono ?_
 rintro e w1 ⟨rfl,hw⟩
 obtain rfl:w=w1:=hw
 clear hT
 go_wp2_with fail
 refine hE.out.mono ?_
 rintro e w2 ⟨rfl,ay,aq⟩
 have hS:Hid (gq.ba w M a G (lm M) {G with num:= -1,err:=c,nx:=10} w2):=Lib.hid
  (oD HM.out (a':=a) (cH.plain ay (by simp)) rfl (sy (by simp)) HG.out (ae.out.trans aq) (fun x q=>.inl q))
 clear ay aq hE c3 c4 c8 z3 z8
 go_wp2_with fail
 go_ret
 exact ⟨rfl,hS.out⟩
theorem BF {A' T':Option Addr} {cap' capT':Nat} {xs':List Int} {ds':List (Nat×Nat)} (hA:∀ x,In A' x->In M.A x\/w.heap.size<=x) (hT:∀ x,In T' x->In M.T x\/w.heap.size<=x):gm w M {M with A:=A',cap:=cap',xs:=xs',T:=T',capT:=capT',ds:=ds'}:=by
 refine ⟨rfl,rfl,rfl,rfl,?_⟩
 rintro x (q | q | q | q | q | q)
 ·exact .inl (.inl q)
 ·rcases q with q | q
  ·exact .inl (.inr (.inl (.inl q)))
  ·rcases hA x q with q | q
   ·exact .inl (.inr (.inl (.inr q)))
   ·exact .inr q
 ·exact .inl (.inr (.inr (.inl q)))
 ·exact .inl (.inr (.inr (.inr (.inl q))))
 ·rcases hT x q with q | q
  ·exact .inl (.inr (.inr (.inr (.inr (.inl q)))))
  ·exact .inr q
 ·exact .inl (.inr (.inr (.inr (.inr (.inr q)))))
set_option maxHeartbeats 2000000 in
theorem BG (hM:ah w M) (h:cH w a G) (he:G.el.1<=65536) (aT:M.ds.length<=900000) (hp:FM.bo ((G.el.1 / 2:Nat):Int)=true) (hx:M.xs.length+G.el.1 / 2<=1048576):
 Calls Tryz.prog 158 #[ptr a.f,ptr M.m] w fun e w'=>e=.returned (.bool false)/\gq.ba w M a G {lm M with xs:=M.xs++List.replicate (G.el.1 / 2) 0,ds:=M.ds++[(G.el.1 / 2,M.xs.length)]} {G with num:=M.ds.length,err:=0,nw:=(G.el.1 / 2,M.xs.length),nx:=3} w':=by
 have hT:=BH hM (G.el.1 / 2) hp hx (by omega)
 replace hT:=Lib.hid hT
 have c4:=h.an.cell 4
 simp only [dQ,List.getElem?_toArray,List.getElem?_cons_succ,List.getElem?_cons_zero] at c4
 have HM:=Lib.hid hM
 have HG:=Lib.hid h
 have hd:=IH G.el.1
 obtain ⟨dn,cq⟩:∃ n,n=M.ds.length:=⟨_,rfl⟩
 obtain ⟨xn,nU⟩:∃ n,n=M.xs.length:=⟨_,rfl⟩
 obtain ⟨n2,iM⟩:∃ n,n=G.el.1 / 2:=⟨_,rfl⟩
 rw [<-cq] at aT
 rw [<-iM] at hd
 have bl:IntKind.i64.wrap (n2:Int)=n2:=IntWalk.i64_in _ (by omega)
 simp only [<-cq,<-nU,<-iM] at hT ⊢
 replace cq:=Lib.hid cq
 replace nU:=Lib.hid nU
 replace iM:=Lib.hid iM
 clear hM h hp hx
 go_enter Tryz.func158,Tryz.ntmps158
 go_wp2_with fail
 refine hT.out.mono ?_
 rintro e w1 ⟨rfl,A',cap',T',capT',av,aw,da,wT⟩
 have ak:=HG.out.only aw (fun x hx q=>HG.out.aA HM.out hx q)
 have d3:=ak.an.cell 3
 have d8:=ak.an.cell 8
 have y3:=ak.an.frozen 3
 have y8:=ak.an.frozen 8
 simp only [dQ,List.getElem?_toArray,List.getElem?_cons_succ,List.getElem?_cons_zero] at d3 d8
 have ag:Own ((w1.setCell ⟨a.f,8,none⟩ (.int .i64 dn)).setCell ⟨a.f,3,none⟩ (.int .i64 0)) a {G with num:=dn,err:=0}:=(ak.an.store 8 (.int .i64 dn)).store 3 (.int .i64 0)
 have ae:=kr (c:=a.f) w1 8 3 (.int .i64 dn) (.int .i64 0)
 have dm:=ak.aA av (x:=a.f) (.inl rfl)
 have aB:=av.only ae (fun x hx e=>dm (e▸hx))
 have hD:=BI aB dn (by rw [cq.out]; simp)
 have wU:aM (M.ds++[(n2,M.xs.length)]) dn=(n2,xn):=by unfold aM; rw [cq.out,nU.out]; simp
 rw [wU] at hD
 unfold dv at hD
 replace hD:=Lib.hid hD
 have k8:=ag.cell 8
 have k3:=ag.cell 3
 simp only [dQ,List.getElem?_toArray,List.getElem?_cons_succ,List.getElem?_cons_zero] at k3 k8
 replace ag:=Lib.hid ag
 replace ae:=Lib.hid ae
 replace aB:=Lib.hid aB
 replace aw:=Lib.hid aw
 replace dm:=Lib.hid dm
 have hK:=Lib.hid (BF (w:=w) (M:=M) (cap':=cap') (capT':=capT') (xs':=M.xs++List.replicate n2 0) (ds':=M.ds++[(n2,M.xs.length)]) da wT)
 clear hT c4 av da wT wU ak
 go_wp2_with fail
 refine hD.out.mono ?_
 rintro e w3 ⟨rfl,aZ⟩
 have ay:=ag.out.only (ab.aD aZ (fun _=>False)) (by simp)
 have p6:=ay.cell 6
 have p7:=ay.cell 7
 have q6:=ay.frozen 6
 have q7:=ay.frozen 7
 simp only [dQ,List.getElem?_toArray,List.getElem?_cons_succ,List.getElem?_cons_zero] at p6 p7
 have az:Own ((w3.setCell ⟨a.f,6,none⟩ (.int .i64 n2)).setCell ⟨a.f,7,none⟩ (.int .i64 xn)) a {G with num:=dn,err:=0,nw:=(n2,xn)}:=(ay.store 6 (.int .i64 n2)).store 7 (.int .i64 xn)
 have aL:=kr (c:=a.f) w3 6 7 (.int .i64 n2) (.int .i64 xn)
 have sY:=(ab.aD aZ (·=a.f)).trans aL
 have lL:=Lib.hid (eg az (n:=3) (by omega) rfl)
 replace sY:=Lib.hid sY
 clear aZ ay az aL hD k3 k8 d3 d8 y3 y8
 go_wp2_with fail
 refine lL.out.mono ?_
 rintro e w5 ⟨rfl,bI,bJ⟩
 have sZ:=sY.out.trans bJ
 have uD:=ae.out.trans sZ
 have hS:Hid (gq.ba w M a G {lm M with xs:=M.xs++List.replicate n2 0,ds:=M.ds++[(n2,xn)]} {G with num:=dn,err:=0,nw:=(n2,xn),nx:=3} w5):=Lib.hid (by
  have DB:ab (fun x=>ao M x\/b9 a G x) w w5:=(aw.out.mono (fun x _ q=>.inl q)).trans' uD (fun x _ q=>.inr (.inl q))
  exact ⟨_,a,aB.out.only sZ (fun x hx e=>dm.out (e▸hx)),by rw [nU.out],hK.out,cH.plain bI (by simp),rfl,sy (by simp),DB⟩)
 clear bI bJ uD sZ lL
 go_wp2_with fail
 go_ret
 exact ⟨rfl,hS.out⟩
set_option maxHeartbeats 2000000 in
theorem yS (hM:ah w M) (h:Own w a G) (k:Nat) (hk:k<=2000000) (hx:G.el.2+k<M.xs.length) (he:G.el.2<=4000000):
 Calls Tryz.prog 209 #[ptr a.f,ptr M.m,.int .i64 k] w fun e w'=>e=.returned (.int .u64 ((Cl.nth M.xs (G.el.2+k)).toNat:Int))/\∃ n,w'=w.drewN n:=by
 have hL:=fun n=>Cl.mL (hM.drewN n).2.1 (G.el.2+k) hx
 have il:=Cl.eV hM.2.1.2.2.1 (G.el.2+k)
 obtain ⟨z,hz⟩:=Int.eq_ofNat_of_zero_le il.1
 rw [hz] at hL ⊢
 rw [Int.toNat_natCast]
 have e2:((G.el.2+k:Nat):Int)=(G.el.2:Int)+(k:Int):=by omega
 rw [e2] at hL
 replace hL:=Lib.hid hL
 have d0:=hM.hd.1
 have c5:=h.cell 5
 simp only [dQ,List.getElem?_toArray,List.getElem?_cons_succ,List.getElem?_cons_zero] at c5
 have ew:IntKind.i64.wrap ((G.el.2:Int)+(k:Int))=(G.el.2:Int)+(k:Int):=IntWalk.i64_in _ (by omega)
 clear hM h hz il hx e2
 go_enter Tryz.func209,Tryz.ntmps209
 go_wp2_with fail
 go_quiet ((go_at_call 90; exact Calls.quiet_of_same ((hL.out _).mono fun _ _ h=>⟨h.1,h.2⟩)))
 clear hL d0 c5
 go_wp2_with fail
 go_ret
 exact ⟨rfl,_,rfl⟩
set_option maxHeartbeats 2000000 in
theorem TG (hM:ah w M) (h:cH w a G) (hx:G.el.2+G.bucket<M.xs.length) (he:G.el.2<=4000000) (hb:G.bucket<=1000000):
 Calls Tryz.prog 191 #[ptr a.f,ptr M.m] w fun e w'=>e=.returned (.bool false)/\gq.ba w M a G (lm M) {G with fi:=(Cl.nth M.xs (G.el.2+G.bucket)).toNat,nx:=4} w':=by
 have rC:=Lib.hid (yS hM h.an G.bucket (by omega) hx he)
 have c9:=h.an.cell 9
 simp only [dQ,List.getElem?_toArray,List.getElem?_cons_succ,List.getElem?_cons_zero] at c9
 have HM:=Lib.hid hM
 have HG:=Lib.hid h
 generalize (Cl.nth M.xs (G.el.2+G.bucket)).toNat=z at*
 clear hM h
 go_enter Tryz.func191,Tryz.ntmps191
 go_wp2_with fail
 refine rC.out.mono ?_
 rintro e w1 ⟨rfl,n,hw⟩
 have ak:Own w1 a G:=by rw [hw]; exact af.only HG.out.an ((ab.refl (fun _=>False) w).drewN n) (by simp)
 have aw:ab (·=a.f) w w1:=by rw [hw]; exact (ab.refl _ w).drewN n
 clear hw rC c9
 have d10:=ak.cell 10
 have y10:=ak.frozen 10
 simp only [dQ,List.getElem?_toArray,List.getElem?_cons_succ,List.getElem?_cons_zero] at d10
 have ag:Own (w1.setCell ⟨a.f,10,none⟩ (.int .u64 z)) a {G with fi:=z}:=ak.store 10 (.int .u64 z)
 have lL:=Lib.hid (eg ag (n:=4) (by omega) rfl)
 have ae:=Lib.hid (aw.trans (sr (c:=a.f) w1 10 (.int .u64 z)))
 clear ak aw ag
 go_wp2_with fail
 refine lL.out.mono ?_
 rintro e w3 ⟨rfl,ay,aL⟩
 have hE:Hid (gq.ba w M a G (lm M) {G with fi:=z,nx:=4} w3):=Lib.hid
  (oD HM.out (a':=a) (cH.plain ay (by simp)) rfl (sy (by simp)) HG.out (ae.out.trans aL) (fun x q=>.inl q))
 clear ay aL lL d10 y10
 go_wp2_with fail
 go_ret
 exact ⟨rfl,hE.out⟩
end
end Go.Proofs.YtpanebgakndddaaGreat.Sw
namespace Go.Proofs.YtpanebgakndddaaGreat.Rn
open Go
def kU (P:Program) (md:Region.Mode) (ops:Array Oper) (Q:Exit->Act->World->Prop) (S:World->Prop) (till:Nat->Bool):Nat->Array Bool->Act->World->Prop
 | 0,listed,a,w=>Region.ready md ops listed=[]/\Q .normal a w
 | f+1,listed,a,w=>(Region.ready md ops listed=[]->Q .normal a w)/\
    ∀ i∈Region.ready md ops listed,wpOp P ops Q i (fun a' w'=>(till i=true/\wpAny P md ops Q f (listed.setIfInBounds i true) a' w')\/(till i=false/\S w'/\kU P md ops Q S till f (listed.setIfInBounds i true) a' w')) a w
section
variable {P:Program} {ops:Array Oper} {Q:Exit->Act->World->Prop} {md:Region.Mode} {S:World->Prop} {till:Nat->Bool}
theorem Ia:∀ (f:Nat) (listed:Array Bool) (a:Act) (w:World),kU P md ops Q S till f listed a w->wpAny P md ops Q f listed a w
 | 0,_,_,_,h=>h
 | f+1,_,_,_,h=>⟨h.1,fun i hi=>wpOp_mono (fun a' w' h'=>by
    rcases h' with ⟨_,h'⟩ | ⟨_,_,h'⟩
    ·exact h'
    ·exact Ia f _ a' w' h') (h.2 i hi)⟩
theorem Sg {i:Nat} {oi:Oper} {v:Value} (hi:ops[i]?=some oi) (uR:∀ (j:Nat) (o:Oper) cs b,ops[j]?=some o->o.op≠.select cs b)
 (hQ:∀ c a w,Q (.panic c) (a.put oi.dst v) w->Q (.panic c) a w) (uS:till i=false) (Eg:∀ j,till j=true->Region.waitsFor md ops j i=true):
 ∀ (f:Nat) (listed:Array Bool) (a:Act) (w:World),
   (∀ j oj,ops[j]?=some oj->j≠i->listed.getD j true=false->(∀ e∈oj.after,Region.binds md e=true->e.on≠i)->oi.apart ops oj=true)->
   i∈Region.ready md ops listed->YieldsIf P ops S oi v a->S w->
   kU P md ops Q S till f (listed.setIfInBounds i true) (a.put oi.dst v) w->kU P md ops Q S till (f+1) listed a w:=by
 intro f
 induction f with
 | zero=>
   intro listed a w _ hr hy hS H
   refine ⟨fun h=>absurd hr (by rw [h]; simp),fun j hj=>?_⟩
   by_cases iR:j=i
   ·rw [iR]
    exact hy.wpOp hi hS (.inr ⟨hti,hS,H⟩)
   ·have h0:=ready_mono hj iR
    rw [H.1] at h0
    simp at h0
 | succ f ih=>
   intro listed a w lI hr hy hS H
   refine ⟨fun h=>absurd hr (by rw [h]; simp),fun j hj=>?_⟩
   by_cases iR:j=i
   ·rw [iR]
    exact hy.wpOp hi hS (.inr ⟨hti,hS,H⟩)
   ·obtain ⟨hun,oj,rv,fZ⟩:=mem_ready.1 hj
    have Af:∀ e∈oj.after,Region.binds md e=true->e.on≠i:=fun e he hb heq=>by
     have h1:=fZ e he hb
     have h0:=(mem_ready.1 hr).1
     rw [heq,getD_both h0] at h1
     simp at h1
    have We:till j=false:=by
     cases ht:till j with
     | false=>rfl
     | true=>
       obtain ⟨o',Ag,e,he,hb,Wg⟩:=Region.waitsFor_spec (Eg j ht)
       rw [rv] at Ag
       injection Ag with Ag
       subst Ag
       exact absurd Wg (Af e he hb)
    have h1:=H.2 j (ready_mono hj iR)
    refine wpOp_mono (fun a' w' h3=>?_) (wpOp_putIf rv (lI j oj rv iR Eh Af) (fun cs b=>uR i oi cs b hi) (fun cs b=>uR j oj cs b rv) hQ hy h1)
    obtain ⟨hy',h3⟩:=h3
    rcases h3 with ⟨ht,_⟩ | ⟨_,gS,h3⟩
    ·rw [We] at ht
     simp at ht
    ·refine .inr ⟨htj,gS,ih _ _ _ ?_ (ready_mono hr (Ne.symm iR)) nT gS (by rw [Array.setIfInBounds_comm _ _ iR]; exact h3)⟩
     intro k ok hk rn Ei nJ
     refine lI k ok hk rn ?_ nJ
     by_cases tj:j=k
     ·rw [<-tj]; exact Eh
     ·rwa [getD_set_ne true tj] at Ei
theorem rU {i:Nat} {oi:Oper} {v:Value} {f:Nat} {listed:Array Bool} {a:Act} {w:World} (hi:ops[i]?=some oi)
 (hs:Region.noSelect ops=true) (hf:Region.free md ops listed i=true) (hr:(Region.ready md ops listed).contains i=true) (uS:till i=false)
 (Eg:∀ j,till j=true->Region.waitsFor md ops j i=true)
 (hQ:∀ c a w,Q (.panic c) (a.put oi.dst v) w->Q (.panic c) a w) (hy:YieldsIf P ops S oi v a) (hS:S w)
 (h:kU P md ops Q S till f (listed.setIfInBounds i true) (a.put oi.dst v) w):kU P md ops Q S till (f+1) listed a w:=
 Sg hi (Region.noSelect_spec hs) hQ uS Eg f listed a w (Region.free_spec hi hf) (by simpa using hr) hy hS h
theorem Si {i:Nat} {o:Oper} {a:Act} {w:World} {K:Act->World->Prop} (hi:ops[i]?=some o) (h:if Region.wanted o (yielded ops a.tmps)=true then Oper.wp P o a w K Q else K (a.put o.dst undef) w):wpOp P ops Q i K a w:=by
 unfold wpOp
 simp only [hi]
 split
 ·rename_i hw
  rw [if_pos hw] at h
  exact .inl h
 ·rename_i hw
  rw [if_neg hw] at h
  exact h
theorem Sj {i:Nat} {oi:Oper} {v:Value} (hi:ops[i]?=some oi) (uR:∀ (j:Nat) (o:Oper) cs b,ops[j]?=some o->o.op≠.select cs b)
 (hQ:∀ c a w,Q (.panic c) (a.put oi.dst v) w->Q (.panic c) a w) (uS:till i=false):
 ∀ (f:Nat) (listed:Array Bool) (a:Act) (w:World),
   (∀ j oj,ops[j]?=some oj->j≠i->listed.getD j true=false->(∀ e∈oj.after,Region.binds md e=true->e.on≠i)->oi.apart ops oj=true)->
   i∈Region.ready md ops listed->YieldsIf P ops (fun _=>True) oi v a->S w->
   kU P md ops Q S till f (listed.setIfInBounds i true) (a.put oi.dst v) w->kU P md ops Q S till (f+1) listed a w:=by
 intro f
 induction f with
 | zero=>
   intro listed a w _ hr hy hS H
   refine ⟨fun h=>absurd hr (by rw [h]; simp),fun j hj=>?_⟩
   by_cases iR:j=i
   ·rw [iR]
    exact hy.wpOp hi trivial (.inr ⟨hti,hS,H⟩)
   ·have h0:=ready_mono hj iR
    rw [H.1] at h0
    simp at h0
 | succ f ih=>
   intro listed a w lI hr hy hS H
   refine ⟨fun h=>absurd hr (by rw [h]; simp),fun j hj=>?_⟩
   by_cases iR:j=i
   ·rw [iR]
    exact hy.wpOp hi trivial (.inr ⟨hti,hS,H⟩)
   ·obtain ⟨hun,oj,rv,fZ⟩:=mem_ready.1 hj
    have Af:∀ e∈oj.after,Region.binds md e=true->e.on≠i:=fun e he hb heq=>by
     have h1:=fZ e he hb
     have h0:=(mem_ready.1 hr).1
     rw [heq,getD_both h0] at h1
     simp at h1
    have bZ:∀ k ok,ops[k]?=some ok->k≠i->(listed.setIfInBounds j true).getD k true=false->(∀ e∈ok.after,Region.binds md e=true->e.on≠i)->oi.apart ops ok=true:=fun k ok hk rn Ei nJ=>by
     refine lI k ok hk rn ?_ nJ
     by_cases tj:j=k
     ·rw [<-tj]; exact Eh
     ·rwa [getD_set_ne true tj] at Ei
    have h1:=H.2 j (ready_mono hj iR)
    refine wpOp_mono (fun a' w' h3=>?_) (wpOp_putIf rv (lI j oj rv iR Eh Af) (fun cs b=>uR i oi cs b hi) (fun cs b=>uR j oj cs b rv) hQ hy h1)
    obtain ⟨hy',h3⟩:=h3
    rcases h3 with ⟨ht,h3⟩ | ⟨htj,gS,h3⟩
    ·refine .inl ⟨ht,wpAny_first hi uR hQ f _ _ _ bZ (ready_mono hr (Ne.symm iR)) ?_ (by rw [Array.setIfInBounds_comm _ _ iR]; exact h3)⟩
     rcases nT with ⟨h1,h2⟩ | h1
     ·exact .inl ⟨h1,fun w=>h2 w trivial⟩
     ·exact .inr h1
    ·exact .inr ⟨htj,gS,ih _ _ _ bZ (ready_mono hr (Ne.symm iR)) nT gS (by rw [Array.setIfInBounds_comm _ _ iR]; exact h3)⟩
theorem dA {i:Nat} {oi:Oper} {v:Value} {f:Nat} {listed:Array Bool} {a:Act} {w:World} (hi:ops[i]?=some oi)
 (hs:Region.noSelect ops=true) (hf:Region.free md ops listed i=true) (hr:(Region.ready md ops listed).contains i=true) (uS:till i=false)
 (hQ:∀ c a w,Q (.panic c) (a.put oi.dst v) w->Q (.panic c) a w) (hy:YieldsIf P ops (fun _=>True) oi v a) (hS:S w)
 (h:kU P md ops Q S till f (listed.setIfInBounds i true) (a.put oi.dst v) w):kU P md ops Q S till (f+1) listed a w:=
 Sj hi (Region.noSelect_spec hs) hQ uS f listed a w (Region.free_spec hi hf) (by simpa using hr) hy hS h
theorem oA {i:Nat} {o:Oper} {f:Nat} {listed:Array Bool} {a:Act} {w:World} (hr:Region.ready md ops listed=[i]) (hi:ops[i]?=some o) (uS:till i=false)
 (h:∀ K:Act->World->Prop,(∀ a' w',S w'->kU P md ops Q S till f (listed.setIfInBounds i true) a' w'->K a' w')->if Region.wanted o (yielded ops a.tmps)=true then Oper.wp P o a w K Q else K (a.put o.dst undef) w):
 kU P md ops Q S till (f+1) listed a w:=by
 refine ⟨fun h=>absurd (hr.symm.trans h) (by simp),fun j hj=>?_⟩
 rw [hr] at hj
 have iR:j=i:=by simpa using hj
 subst iR
 exact Si hi (h _ fun a' w' hS hw=>Or.inr ⟨hti,hS,hw⟩)
theorem Sm (l:List Oper) (k:Nat) {listed:Array Bool} {a:Act} {w:World} (hl:∀ j,l[j]?=ops[k+j]?) (hB:Region.seqB md ops l.length k listed=true) (h:wpList P ops Q l a w)
 (hk:till k=true\/l=[]):kU P md ops Q S till l.length listed a w:=by
 have hA:=wpAny_of_seq l k listed a w hl hB h
 cases l with
 | nil=>exact hA
 | cons o l=>
   refine ⟨hA.1,fun i hi=>?_⟩
   have hr:Region.ready md ops listed=[k]:=by
    simp only [List.length_cons,Region.seqB,Bool.and_eq_true,decide_eq_true_eq] at hB
    exact hB.1
   rw [hr] at hi
   have zA:i=k:=by simpa using hi
   subst zA
   have Xx:till i=true:=by
    rcases hk with h | h
    ·exact h
    ·cases h
   exact wpOp_mono (fun a' w' h'=>.inl ⟨htk,h'⟩) (hA.2 i (by rw [hr]; simp))
theorem vC {f:Nat} (k:Nat) {listed:Array Bool} {a:Act} {w:World} (hf:(ops.toList.drop k).length=f) (hB:Region.seqB md ops f k listed=true) (hk:till k=true) (h:wpList P ops Q (ops.toList.drop k) a w):
 kU P md ops Q S till f listed a w:=by
 subst hf
 exact Sm _ k (fun j=>by rw [List.getElem?_drop,Array.getElem?_toList]) hB h (.inl hk)
theorem vz {id:Nat} {a:Act} {w:World} (S:World->Prop) (till:Nat->Bool) (hm:P.follows .mixedOrders=true) (h:kU P .any ops Q S till ops.size (Array.replicate ops.size false) a w.drew):
 (Code.region id ops true).wp P Q a w:=wp_region_any hm (Ia _ _ _ _ h)
end
end Go.Proofs.YtpanebgakndddaaGreat.Rn
namespace Go.Proofs.YtpanebgakndddaaGreat.Rw
open Go Go.RowKit Hp Fl
section
variable {P:Program}
theorem vB {ops:Array Oper} {o:Oper} {a:Act} {w:World} {K:Act->World->Prop} {Q:Exit->Act->World->Prop} {E:Prop}
 (hg:o.guard=none) (s x:Operand) (t:TypeId) (wO:o.op=Op.call {callee:=Callee.builtin Builtin.append,args:=#[s,x],argTypes:=#[t,t]})
 (vs vx:Value) (hs:a.eval s=vs) (hx:a.eval x=vx) {v:Value} {w':World} (fI:(Builtin.append_ #[t,t] o.type #[vs,vx]).run P w=.ok v w')
 (hK:K (a.put o.dst v) w'):if Region.wanted o (yielded ops a.tmps)=true then Oper.wp P o a w K Q else E:=by
 have hw:Region.wanted o (yielded ops a.tmps)=true:=by simp [Region.wanted,hg]
 rw [if_pos hw]
 unfold Oper.wp
 simp [execOp,wO,resolve,invoke,builtin,hs,hx,fI,Result.andThen]
 exact hK
theorem vA {α:Type} (w:World) (t ty e:TypeId) (i:TypeInfo) (z:Value) (c bytes:Nat) (ht:P.underlying t=some (.slice e)) (hi:P.info? e=some i) (hz:i.zero=some z) (rj:i.size=c) (mD:i.bytes=bytes) (tl:z.cells.size=c) (cQ:0<c)
 (f:α->List Value) (hf:∀ x,(f x).length=c) (h1:∀ x,∀ u∈f x,u.oneCell'=true) {A:Option Addr} {cap n:Nat} {xs:List α} (hn:xs.length=n) (h:Row w e c f A cap xs) (y:α) (ad:Addr) (cx:Nat)
 (hc:∀ (j:Nat) (u:Value),(f y)[j]?=some u->w.cell? (ad.add j)=some u) (rk:n+1<=maxLen) (rl:(n+1)*bytes<=140737488355328):
 ∃ A' cap' w',(Builtin.append_ #[t,t] ty #[.slice A n cap,.slice (some ad) 1 cx]).run P w=.ok (.slice A' (n+1) cap') w'/\Row w' e c f A' cap' (xs++[y])/\ab (In A) w w'/\∀ b,In A' b->In A b\/w.heap.size<=b:=by
 subst hn
 have e1:(xs++[y]).flatMap f=xs.flatMap f++f y:=by simp
 obtain ⟨v',w',fI,dY,hg,_,bO⟩:=run_append_own_at (P:=P) w 0 t ty e i z c bytes ht hi hz rj mD tl cQ (.slice A xs.length cap) xs.length (xs.flatMap f) h ad 1 cx (f y) (by rw [hf,Nat.one_mul]) hc (h1 y) rk rl (Nat.zero_le _)
 obtain ⟨A',cap',rfl⟩:=AP dY
 refine ⟨A',cap',w',fI,?_,(ab.refl (In A) w).grown hg (fun b hb=>.inl (by rw [lZ] at hb; exact hb)),fun b hb=>?_⟩
 ·rw [Row,e1,List.length_append]
  exact dY
 ·rw [lZ,lZ] at bO
  rcases bO with q | q
  ·exact .inl (by rw [In,<-q]; exact hb)
  ·refine .inr ?_
   rw [In,q] at hb
   injection hb with hb
   omega
end
end Go.Proofs.YtpanebgakndddaaGreat.Rw
