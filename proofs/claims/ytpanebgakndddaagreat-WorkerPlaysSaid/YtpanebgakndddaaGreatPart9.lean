/- Walks and plain mathematics, put together in their order: BaseA, BaseB, BaseC, BaseD, RestA, RzA, RzB, RzC, RzD, RzE, RzN, ClP, RzF, RzU, RzV. -/
import Derived.Test.YtpanebgakndddaaGreatPart8
import Derived.Test.YtpanebgakndddaaGreatFrm
import Derived.Test.YtpanebgakndddaaGreatGtF
import Derived.Test.YtpanebgakndddaaGreatFnvWalk
set_option linter.unusedVariables false
set_option linter.unusedSimpArgs false
namespace Go.Proofs.YtpanebgakndddaaGreat.Bs
open Go Hm Ar Mm Wk Pc Me Mq Pu Pn Gt Qs Zp Mx Gw cJ
structure gP (n B:Nat) (l:List Pr) (L:Lm) (cs:Nat->List Mq.Hp):Prop where
 pw:FM.bl n=true
 now:Me.now L.xs L.ds=(n,B)
 tabs:mA L.xs L.ds
 tb:∀ i,(aO L.ds i).1<=65536/\(aO L.ds i).2<=4000000
 k:1<=L.k/\L.k<=8
 kB:2+L.k<=B
 xl:B+n<=L.xs.length
 xm:L.xs.length<=1048576
 xb:∀ x∈L.xs,0<=x/\x<=18446744073709551615
 db:ff L.ss
 len:L.ss.length<=1024
 F:L.F=false
 p1:1<=Cl.nth L.xs 0
 cx:∀ b,b<n->Cx L.ss (Cl.nth L.xs (B+b)).toNat (cs b)
 own:∀ b,b<n->bs (cs b)=own l n b
 keys:(l.map (·.1)).Nodup
 few:l.length<=60
section
variable {n B:Nat} {l:List Pr} {L:Lm} {cs:Nat->List Mq.Hp}
theorem yU (l:List Pr) (f:ByteArray->Bool) (key:ByteArray) (h:f key=true):Pc.lk (l.filter fun p=>f p.1) key=Pc.lk l key:=by
 induction l with
 | nil=>rfl
 | cons p t ih=>
   rw [List.filter_cons]
   by_cases hk:p.1=key
   ·rw [if_pos (by rw [hk]; exact h)]
    simp [Pc.lk,hk]
   ·split
    ·simp only [Pc.lk,if_neg hk]
     exact ih
    ·simp only [Pc.lk,if_neg hk]
     exact ih
theorem gP.n1 (h:gP n B l L cs):1<=n/\n<=65536:=by
 have:=FM.eG h.pw
 omega
theorem gP.hd (h:gP n B l L cs) {b:Nat} (hb:b<n):Cl.nth L.xs (B+b)=((aC (cs b):Nat):Int):=by
 have h1:=Cx.hd (h.cx b hb)
 have h2:=Cl.eU h.xb (B+b)
 omega
theorem gP.bk (h:gP n B l L cs) {b:Nat} (hb:b<n):∀ a∈cs b,ai a.2.1 n=b:=fun a ha=>by
 have:a.2∈bs (cs b):=List.mem_map.2 ⟨a,ha,rfl⟩
 rw [h.own b hb] at this
 exact of_decide_eq_true (List.mem_filter.1 this).2
theorem gP.small (h:gP n B l L cs) {b:Nat} (hb:b<n):(cs b).length<=l.length:=by
 have h1:=congrArg List.length (h.own b hb)
 have h2:=List.length_filter_le (fun p:Pr=>decide (ai p.1 n=b)) l
 simp only [bs,List.length_map,cJ.own] at h1
 omega
theorem gP.lk (h:gP n B l L cs) (key:ByteArray):Pc.lk l key=Pc.lk (bs (cs (ai key n))) key:=by
 rw [h.own _ (dJ h.pw key).1]
 exact (yU l (fun k=>decide (ai k n=ai key n)) key (by simp)).symm
theorem gP.nd (h:gP n B l L cs) {b:Nat} (hb:b<n):(aM (cs b)).Nodup:=by
 refine Cx.nodup h.len (h.cx b hb) ?_
 have h3:dQ (cs b)=(bs (cs b)).map (·.1):=by simp [bs]
 rw [h3,h.own b hb]
 exact (List.filter_sublist.map _).nodup h.keys
theorem gP.dj (h:gP n B l L cs) {b b':Nat} (hb:b<n) (cY:b'<n) (aL:b≠b'):∀ a∈aM (cs b),a∉aM (cs b'):=fun a ha xE=>by
 obtain ⟨x,hx,rfl⟩:=List.mem_map.1 ha
 obtain ⟨y,hy,VQ⟩:=List.mem_map.1 xE
 have hs:=Cx.same h.len (h.cx b hb) (h.cx b' cY) hx hy VQ.symm
 have h1:=h.bk hb x hx
 have h2:=h.bk cY y hy
 rw [hs] at h1
 omega
theorem gP.zs (h:gP n B l L cs) (sY:FM.bl ((2*n:Nat):Int)=true):∃ Z:Zs,Z.Ok L l/\Z.n=n/\Z.B=B/\Z.B2=L.xs.length/\Z.bt=false/\Z.few=l.length/\(∀ e,e<n->Z.fresh e)/\Z.aY=cs:=by
 have hx:∀ e:Nat,∃ z:Bool×List Mq.Hp×List Mq.Hp,e<n->cs e=z.2.1++z.2.2/\Zip L.ss (sd n) (cs e) z.1 (Cl.nth L.xs (B+e)).toNat (aC z.2.2) [] z.2.1 [] z.2.2:=fun e=>by
  by_cases he:e<n
  ·obtain ⟨s,r,rest,h4,h5⟩:=MT (σ:=sd n) (h.cx e he) (h.nd he)
   exact ⟨(s,r,rest),fun _=>⟨h4,h5⟩⟩
  ·exact ⟨(true,[],[]),fun q=>absurd q he⟩
 obtain ⟨f,hf⟩:=Classical.axiomOfChoice hx
 have hn:=h.n1
 have bz:=h.xl
 have l8:=h.xm
 have jq:=h.few
 refine ⟨⟨n,B,L.xs.length,l.length,1000,false,cs,fun e=>(f e).1,fun e=>(Cl.nth L.xs (B+e)).toNat,fun e=>aC (f e).2.2,fun _=>[],fun e=>(f e).2.1,fun _=>[],fun e=>(f e).2.2⟩,?_,rfl,rfl,rfl,rfl,rfl,fun e he=>⟨rfl,rfl,(hf e he).1⟩,rfl⟩
 exact ⟨h.pw,sY,by rw [if_neg (by simp)]; exact h.now,h.tb,h.k,h.kB,⟨bz,bz,fun q=>by simp at q⟩,by simp only; omega,h.xb,h.db,h.len,fun e he=>h.hd he,fun q=>by simp at q,fun e he=>(hf e he).2,h.lk,h.F,h.p1,⟨fun e he=>h.small he,by simp only; omega,by simp only; omega,by simp only; omega⟩,fun _ e he=>⟨rfl,rfl,(hf e he).1⟩,fun e e' he Ky aL=>h.dj he Ky aL⟩
theorem MU (l:List Pr) (f:Pr->Nat) {a b:Nat} (h:a≠b):(l.filter fun p=>decide (f p=a)).length+(l.filter fun p=>decide (f p=b)).length<=l.length:=by
 induction l with
 | nil=>simp
 | cons p t ih=>
   simp only [List.filter_cons]
   by_cases h1:f p=a
   ·rw [if_pos (by simpa using h1),if_neg (by simp; omega)]
    simp only [List.length_cons]
    omega
   ·rw [if_neg (by simpa using h1)]
    split
    ·simp only [List.length_cons]
     omega
    ·simp only [List.length_cons]
     omega
theorem gP.js {m:Nat} (h:gP (2*m) B l L cs) (jr:FM.bl m=true) {cap:Nat} (jc:l.length<=cap/\cap<=1000000):∃ Z:Js,Z.Ok L l/\Z.n=m/\Z.B=B/\Z.B2=L.xs.length/\Z.bt=false/\Z.few=l.length/\Z.cap=cap/\Z.C=cs/\∀ e,Z.jn e=false:=by
 have hn:=h.n1
 have bz:=h.xl
 have l8:=h.xm
 have jq:=h.few
 have hm:=FM.eG jr
 refine ⟨⟨m,B,L.xs.length,l.length,cap,false,cs,fun _=>false⟩,?_,rfl,rfl,rfl,rfl,rfl,rfl,rfl,fun _=>rfl⟩
 refine ⟨jr,h.pw,by rw [if_neg (by simp)]; exact h.now,h.tb,h.k,h.kB,⟨bz,bz,fun q=>by simp at q⟩,by simp only; omega,h.xb,h.db,h.len,fun b hb=>h.hd hb,fun q=>by simp at q,fun q=>by simp at q,fun b hb=>?_,h.lk,fun b hb=>h.bk hb,h.F,h.p1,⟨fun e he=>?_,by simp only; omega,by simp only; omega,by simp only; omega⟩,fun b hb=>h.nd hb,fun b b' hb cY aL=>h.dj hb cY aL⟩
 ·have hw:Js.cD ⟨m,B,L.xs.length,l.length,cap,false,cs,fun _=>false⟩ b=cs b:=by
   unfold Js.cD
   rw [if_neg (by simp)]
  rw [hw]
  have:=h.cx b hb
  rw [<-Cx.hd this]
  exact this
 ·have he:e<m:=he
  have e1:=congrArg List.length (h.own e (by omega))
  have e2:=congrArg List.length (h.own (e+m) (by omega))
  simp only [bs,List.length_map,cJ.own] at e1 e2
  have e3:=MU l (fun p=>ai p.1 (2*m)) (a:=e) (b:=e+m) (by omega)
  unfold Js.two
  simp only [List.length_append]
  omega
end
end Go.Proofs.YtpanebgakndddaaGreat.Bs
namespace Go.Proofs.YtpanebgakndddaaGreat.Bs
open Go Hm Ar Mm Wk Pc Me Mq Pu Pn Gt Qs Zp Mx Gw cJ
def flat (n:Nat) (cs:Nat->List Mq.Hp):List Pr:=(List.range n).flatMap fun b=>bs (cs b)
theorem BI (n:Nat) (cs:Nat->List Mq.Hp):flat (n+1) cs=flat n cs++bs (cs n):=by simp [flat,List.range_succ]
section
variable {n:Nat} {cs:Nat->List Mq.Hp}
theorem MV {p:Pr}:p∈flat n cs↔∃ b,b<n/\p∈bs (cs b):=by
 unfold flat
 rw [List.mem_flatMap]
 exact ⟨fun ⟨b,h1,h2⟩=>⟨b,List.mem_range.1 h1,h2⟩,fun ⟨b,h1,h2⟩=>⟨b,List.mem_range.2 h1,h2⟩⟩
theorem MW (N:Nat) (h:∀ b,b<N->∀ a∈cs b,ai a.2.1 N=b) (b:Nat):∀ m,m<=N->(flat m cs).filter (fun p=>decide (ai p.1 N=b))=if b<m then bs (cs b) else []:=by
 intro m
 induction m with
 | zero=>intro _; rw [if_neg (by omega)]; rfl
 | succ m ih=>
   intro hm
   rw [BI,List.filter_append,ih (by omega)]
   have h1:(bs (cs m)).filter (fun p=>decide (ai p.1 N=b))=if b=m then bs (cs m) else []:=by
    by_cases e:b=m
    ·rw [if_pos e]
     refine List.filter_eq_self.2 fun p hp=>?_
     obtain ⟨a,ha,rfl⟩:=List.mem_map.1 hp
     exact decide_eq_true ((h m (by omega) a ha).trans e.symm)
    ·rw [if_neg e]
     refine List.filter_eq_nil_iff.2 fun p hp=>?_
     obtain ⟨a,ha,rfl⟩:=List.mem_map.1 hp
     have:=h m (by omega) a ha
     simp
     omega
   rw [h1]
   by_cases h2:b<m
   ·rw [if_pos h2,if_neg (by omega),if_pos (by omega),List.append_nil]
   ·rw [if_neg h2,List.nil_append]
    by_cases e:b=m
    ·rw [if_pos e,if_pos (by omega),e]
    ·rw [if_neg e,if_neg (by omega)]
theorem MX (h:∀ b,b<n->∀ a∈cs b,ai a.2.1 n=b) (hk:∀ b,b<n->(dQ (cs b)).Nodup):∀ m,m<=n->((flat m cs).map (·.1)).Nodup:=by
 intro m
 induction m with
 | zero=>intro _; exact List.nodup_nil
 | succ m ih=>
   intro hm
   rw [BI,List.map_append,List.nodup_append]
   have e:(bs (cs m)).map (·.1)=dQ (cs m):=by simp [bs]
   refine ⟨ih (by omega),by rw [e]; exact hk m (by omega),fun x hx y hy q=>?_⟩
   obtain ⟨p,hp,rfl⟩:=List.mem_map.1 hx
   obtain ⟨b,hb,kc⟩:=MV.1 hp
   obtain ⟨a,ha,rfl⟩:=List.mem_map.1 kc
   rw [e] at hy
   obtain ⟨a',xE,rfl⟩:=List.mem_map.1 hy
   have h1:=h b (by omega) a ha
   have h2:=h m (by omega) a' xE
   have q:a.2.1=a'.2.1:=q
   rw [q] at h1
   omega
theorem mx (cs:Nat->List Mq.Hp):∀ m,(flat m cs).length=(bK m cs).length:=by
 intro m
 induction m with
 | zero=>rfl
 | succ m ih=>rw [BI,kV,List.length_append,List.length_append,ih]; simp [bs]
theorem Gj {B:Nat} {L:Lm} (pw:FM.bl n=true) (now:Me.now L.xs L.ds=(n,B)) (tabs:mA L.xs L.ds) (tb:∀ i,(aO L.ds i).1<=65536/\(aO L.ds i).2<=4000000) (k:1<=L.k/\L.k<=8) (kB:2+L.k<=B) (xl:B+n<=L.xs.length) (xm:L.xs.length<=1048576) (xb:∀ x∈L.xs,0<=x/\x<=18446744073709551615)
 (db:ff L.ss) (len:L.ss.length<=1024) (F:L.F=false) (p1:1<=Cl.nth L.xs 0) (cx:∀ b,b<n->Cx L.ss (Cl.nth L.xs (B+b)).toNat (cs b)) (bk:∀ b,b<n->∀ a∈cs b,ai a.2.1 n=b) (kd:∀ b,b<n->(dQ (cs b)).Nodup) (few:(bK n cs).length<=60):gP n B (flat n cs) L cs:=
 ⟨pw,now,tabs,tb,k,kB,xl,xm,xb,db,len,F,p1,cx,fun b hb=>by
  have:=MW n bk b n (Nat.le_refl _)
  rw [if_pos hb] at this
  exact this.symm,MX bk kd n (Nat.le_refl _),by rw [mx]; exact few⟩
end
theorem Js.Ok.base {J:Js} {L:Lm} {l:List Pr} (hJ:J.Ok L l) (hp:J.bt=true) (nG:mA L.xs L.ds) (l8:L.xs.length<=1048576) (hk:∀ b,b<2*J.n->(dQ (J.C b)).Nodup) (jq:(bK J.n J.two).length<=60):gP J.n J.B2 (flat J.n J.two) L J.two:=by
 have hn:=FM.eG hJ.pw
 have bV:=hJ.now
 rw [if_pos hp] at bV
 have hx:=hJ.xl
 have eu:=hJ.kB
 refine Gj hJ.pw bV nG hJ.tb hJ.k (by omega) (by have:=hx.2.2 hp; omega) l8 hJ.xb hJ.db hJ.len hJ.F hJ.p1 (fun e he=>?_) (fun e he a ha=>?_) (fun e he=>?_) jq
 ·rw [hJ.newer hp e he,Int.toNat_natCast]
  exact hJ.both hp he
 ·obtain ⟨h1,h2,h3⟩:=sh hJ.pw hJ.jT a.2.1
  rcases List.mem_append.1 ha with q | q
  ·have:=hJ.own e (by omega) a q
   rw [this,Nat.mod_eq_of_lt he] at h1
   exact h1.symm
  ·have:=hJ.own (e+J.n) (by omega) a q
   rw [this,Nat.add_mod_right,Nat.mod_eq_of_lt he] at h1
   exact h1.symm
 ·have e1:dQ (J.two e)=dQ (J.C e)++dQ (J.C (e+J.n)):=by simp [dQ,Js.two]
  rw [e1,List.nodup_append]
  refine ⟨hk e (by omega),hk (e+J.n) (by omega),fun x hx y hy q=>?_⟩
  obtain ⟨a,ha,rfl⟩:=List.mem_map.1 hx
  obtain ⟨a',xE,rfl⟩:=List.mem_map.1 hy
  have h1:=hJ.own e (by omega) a ha
  have h2:=hJ.own (e+J.n) (by omega) a' xE
  have q:a.2.1=a'.2.1:=q
  rw [q] at h1
  omega
end Go.Proofs.YtpanebgakndddaaGreat.Bs
namespace Go.Proofs.YtpanebgakndddaaGreat.Bs
open Go Hm Ar Mm Wk Pc Me Mq Pu Pn Gt Qs Zp Mx Gw cJ
def nP (l l':List Pr):Prop:=∀ key,Pc.lk l key=Pc.lk l' key
theorem nP.symm {l l':List Pr} (h:nP l l'):nP l' l:=fun k=>(h k).symm
section
variable {l l':List Pr} {Y:Wy} {L:Lm} {w k:Nat} {key:ByteArray} {G:Gt.Ge}
theorem fD.iX {old:Int->Nat->Prop} (e:nP l l') (h:fD Y L l old w key G k):fD Y L l' old w key G k:=by
 refine ⟨h.ky,h.sum,h.wk,h.iY,h.pd,h.nQ,h.pr,?_⟩
 cases h.ph with
 | ng a b=>exact .ng a b
 | put a b=>exact .put a b
 | load a=>exact .load a
 | first c a1 b hc ho=>exact .first c a1 b hc ho
 | look q a1 a2 a3 a4 a5 a6 a7 a8 a9 a10 a11 a12 a13=>exact .look q a1 a2 a3 a4 a5 a6 a7 a8 a9 (a10.trans (e key)) a11 a12 a13
 | leave a b=>exact .leave a (e key▸b)
theorem bZ.iX {old:Nat->Int->Nat->Prop} {R:Rn} (e:nP l l') (h:bZ Y L l old R k):bZ Y L l' old R k:=by
 unfold bZ at h ⊢
 split
 ·rename_i q
  rw [q] at h
  exact h
 ·rename_i G q
  rw [q] at h
  exact fD.iX e h
theorem Zs.Ok.iX {Z:Zs} (e:nP l l') (h:Z.Ok L l):Z.Ok L l':={h with lk:=fun key=>(e key).symm.trans (h.lk key)}
theorem Js.Ok.iX {J:Js} (e:nP l l') (h:J.Ok L l):J.Ok L l':={h with lk:=fun key=>(e key).symm.trans (h.lk key)}
theorem ZD.iX {Z:Zs} (e:nP l l') (h:ZD l Z L):ZD l' Z L:=⟨Zs.Ok.iX e h.1,h.2⟩
end
end Go.Proofs.YtpanebgakndddaaGreat.Bs
namespace Go.Proofs.YtpanebgakndddaaGreat.Bs
open Go Hm Ar Mm Wk Pc Me Mq Pu Pn Gt Qs Zp Mx Gw cJ
section
variable {Z Z':Zs} {J J':Js} {L:Lm} {l:List Pr} {R:Rn} {k:Nat} {old:Nat->Int->Nat->Prop} {key:ByteArray} {q:List Mq.Hp}
theorem MY (hf:Z.fresh (ai key Z.n)) (hq:q<:+Z.aY (ai key Z.n)):Z.wy.Pos (fun _=>True) key q:=by
 obtain ⟨f1,f2,f3⟩:=hf
 show Std _ _ _ _ _ _ _ key q
 rw [f1,f2]
 rw [f3] at hq
 by_cases hs:sd Z.n key=Z.s (ai key Z.n)
 ·exact .inl ⟨hs,by rw [List.nil_append]; exact hq⟩
 ·refine .inr (.inr ⟨trivial,?_,hq⟩)
  revert hs
  cases sd Z.n key<;>cases Z.s (ai key Z.n)<;>simp
theorem MZ (hJ:J.Ok L l) (gz:∀ e,e<J.n->J.jn e=true) (key:ByteArray) (hq:q<:+J.cD (ai key (2*J.n))):q<:+J.two (ai key J.n):=by
 obtain ⟨h1,h2,h3⟩:=hJ.bk key
 unfold Js.cD at hq
 split at hq
 ·rename_i hw
  rcases h3 with e | e
  ·rw [e] at hq; exact hq
  ·omega
 ·rename_i hw
  rcases h3 with e | e
  ·have:J.C (ai key (2*J.n))=[]:=by
    cases hC:J.C (ai key (2*J.n)) with
    | nil=>rfl
    | cons x y=>exact absurd ⟨by omega,gz _ (by omega),by rw [hC]; simp⟩ hw
   rw [this] at hq
   have lE:q=[]:=List.suffix_nil.1 hq
   rw [lE]
   exact List.nil_suffix
  ·rw [e] at hq
   exact hq.trans (List.suffix_append _ _)
end
end Go.Proofs.YtpanebgakndddaaGreat.Bs
namespace Go.Proofs.YtpanebgakndddaaGreat.Bs
open Go Hm Ar Mm Wk Pc Me Mq Pu Pn Gt Qs Zp Mx cJ
structure Rs where
 n:Nat
 B:Nat
 few:Nat
 cap:Nat
 cs:Nat->List Mq.Hp
 ls:List Pr
def Rs.wy (Y:Rs):Wy:=⟨fun _ key q=>q<:+Y.cs (ai key Y.n),fun _ key c=>c=Y.B+ai key Y.n,Y.few,Y.cap,true⟩
structure Rest (l:List Pr) (Y:Rs) (L:Lm):Prop where
 base:gP Y.n Y.B Y.ls L Y.cs
 iX:nP Y.ls l
 few:Y.few=Y.ls.length/\Y.ls.length<=35
 cap:Y.few<=Y.cap/\Y.cap<=1000000
 aF:Lo.aF L.hs 0= -1/\0<L.hs.length
 pos:∀ b,b<Y.n->∀ a∈Y.cs b,a.1≠0/\a.1<=18446744073709551615
section
variable {l:List Pr} {Y:Rs} {L:Lm} {R:Rn} {k:Nat} {old old':Nat->Int->Nat->Prop} {w:Int}
theorem Rest.ways (h:Rest l Y L):Y.wy.Ok L l:=by
 have hb:=h.base
 have fz:=hb.n1
 have eu:=hb.kB
 have bz:=hb.xl
 have l8:=hb.xm
 have hk:=hb.k
 obtain ⟨f1,f2⟩:=h.few
 obtain ⟨c1,c2⟩:=h.cap
 refine ⟨hb.k,fun w hw=>by omega,hb.xb,hb.db,hb.len,hb.F,hb.p1,hb.tb,⟨by show Y.few<=900; omega,c1,c2⟩,fun {o key e q} h=>(List.suffix_cons _ _).trans h,fun _ h=>h,fun _ h=>h,fun {o key c} hc=>?_,fun o key _=>?_⟩
 ·obtain ⟨h1,h2⟩:=dJ hb.pw key
  have hc:c=Y.B+ai key Y.n:=hc
  subst hc
  have aJ:word L.xs ((Y.B+ai key Y.n:Nat):Int)=(Cl.nth L.xs (Y.B+ai key Y.n)).toNat:=by
   unfold word
   rw [if_pos (by omega),Int.toNat_natCast]
  rw [aJ]
  exact ⟨by omega,_,hb.cx _ h1,List.suffix_refl _,by rw [<-hb.lk key]; exact h.iX key,by have:=hb.small h1; show _<=Y.few; omega⟩
 ·obtain ⟨h1,h2⟩:=dJ hb.pw key
  refine ⟨Y.B+ai key Y.n,?_,rfl⟩
  rw [hb.now]
  unfold Gt.cellOf
  simp only
  rw [if_neg (by omega),h2]
  simp
theorem gP.Tu {n B:Nat} {ls:List Pr} {cs:Nat->List Mq.Hp} (h:gP n B ls L cs) (sY:FM.bl ((2*n:Nat):Int)=true) {cap:Nat} (jc:ls.length<=cap/\cap<=1000000):∃ Z:Zs,Z.Ok L ls/\Z.n=n/\Z.B=B/\Z.B2=L.xs.length/\Z.bt=false/\Z.few=ls.length/\(∀ e,e<n->Z.fresh e)/\Z.aY=cs/\Z.cap=cap:=by
 obtain ⟨Z,hZ,z1,z2,z3,z4,z5,z6,z7⟩:=h.zs sY
 have hf:=hZ.few
 exact ⟨{Z with cap:=cap},{hZ with few:=⟨hf.1,hf.2.1,by show Z.few<=cap; omega,jc.2⟩},z1,z2,z3,z4,z5,z6,z7,rfl⟩
theorem Rest.zv (h:Rest l Y L) (sY:FM.bl ((2*Y.n:Nat):Int)=true) (hw:0<=w/\w<=1000) (ou:Cl.nth L.xs 0<=1000000000000) (l8:L.xs.length+2*Y.n<=1048576) (aM:L.ds.length<=800000):
 ∃ Z,ZD Y.ls Z L/\Z.n=Y.n/\Z.aY=Y.cs/\Z.few=Y.few/\Z.cap=Y.cap/\Z.bt=false/\Gw.J Y.n Y.ls Z (fun _ _ _=>True) L (Gw.iJ w) (2+Y.n*(Y.few+4)+(1+12*(Y.few+1)+Y.n*Y.few)) 0/\∀ R k,bZ Y.wy L l old R k->bZ Z.wy L l (fun _ _ _=>True) R k:=by
 obtain ⟨f1,f2⟩:=h.few
 obtain ⟨Z,hZ,z1,z2,z3,z4,z5,z6,z7,z8⟩:=h.base.Tu sY (cap:=Y.cap) (by have:=h.cap; omega)
 have hb:=h.base
 have hn:=hb.n1
 have bz:=hb.xl
 have eu:=hb.kB
 have hk:=hb.k
 have Xh:Y.n*(Y.few+4)<=65536*39:=Nat.mul_le_mul hn.2 (by omega)
 have pg:Y.n*Y.few<=65536*35:=Nat.mul_le_mul hn.2 (by omega)
 have zf:Z.few=Y.few:=by omega
 refine ⟨Z,⟨hZ,by omega⟩,z1,z7,zf,z8,z4,⟨⟨z1,fun e he=>by rw [z7,z1]; exact hb.own e (by omega),hw,rfl,fun q=>absurd rfl q,hb.k,?_,h.aF.2,fun _=>h.aF.1,by rw [z3,z1]; omega,?_,⟨by omega,fun _=>aM⟩,fun q=>by have q:3<=1:=q; omega,fun _=>rfl,Nat.zero_le _,by rw [z3]; omega,?_,hb.tabs⟩,.p1 rfl z4 (fun _ _ _=>trivial) rfl rfl ?_⟩,fun R k hR=>?_⟩
 ·omega
 ·rw [if_pos (show (Gw.iJ w).nx<=2 by show 1<=2; omega),z3]
 ·intro e he a ha
  rw [z7] at ha
  exact h.pos e (by omega) a ha
 ·unfold Gw.mB
  rw [z1,zf]
  omega
 ·refine hR.to rfl (Int.le_refl _) rfl zf (by show Y.cap<=Z.cap; omega) (fun key c p hC=>?_) (fun key q p hP=>?_)
  ·have av:=(dJ hb.pw key).1
   have hC:c=Y.B+ai key Y.n:=hC
   exact .inr ⟨by rw [z2,z1]; exact hC,trivial,z6 _ (by rw [z1]; exact av)⟩
  ·have av:=(dJ hb.pw key).1
   refine MY (z6 _ (by rw [z1]; exact av)) ?_
   rw [z7,z1]
   exact hP
theorem grown {Z:Zs} {G:Gw.Gr} {n0:Nat} {ls:List Pr} (hZ:ZD ls Z L) (hO:Gw.Ie n0 ls Z L G) (hold:∀ w p e,¬old w p e) (hk:(ls.map (·.1)).Nodup) (rQ:nP ls l) (jq:Z.few=ls.length):
 Rest l ⟨2*Z.n,Z.B2,Z.few,Z.cap,fun b=>(Z.aY (b % Z.n)).filter fun a=>sd Z.n a.2.1==decide (Z.n<=b),ls⟩ L/\∀ R k,bZ Z.wy L l old R k->bZ (Rs.wy ⟨2*Z.n,Z.B2,Z.few,Z.cap,fun b=>(Z.aY (b % Z.n)).filter fun a=>sd Z.n a.2.1==decide (Z.n<=b),ls⟩) L l old' R k:=by
 have hz:=hZ.1
 have Xi:=hZ.2
 have hp:=hO.bt
 have hr:=hO.rest
 have bV:=hz.now
 rw [if_pos hp] at bV
 have av:=FM.eG hz.pw
 have hx:=hz.xl
 have eu:=hz.kB
 have l8:=hO.xm
 have bz:=hO.xl
 have hf:=hz.few
 have hm:∀ b,b % Z.n<Z.n:=fun b=>Nat.mod_lt _ (by omega)
 refine ⟨⟨⟨hz.jT,bV,hO.tabs,hz.tb,hz.k,by show 2+L.k<=(Z.B2:Int); omega,by show Z.B2+2*Z.n<=_; omega,by omega,hz.xb,hz.db,hz.len,hz.F,hz.p1,fun b hb=>?_,fun b hb=>Tv hz.pw hz.jT hb (hO.al _ (hm b)),hk,by show ls.length<=60; omega⟩,rQ,⟨jq,by show ls.length<=35; omega⟩,⟨hf.2.2.1,hf.2.2.2⟩,⟨hO.aF,hO.hl⟩,fun b hb a ha=>?_⟩,fun R k hR=>?_⟩
 ·show Cx L.ss (Cl.nth L.xs (Z.B2+b)).toNat _
  rw [hz.newer hp b hb,Int.toNat_natCast]
  exact hz.oY hr hb
 ·exact hO.pos _ (hm b) a (List.mem_filter.1 ha).1
 ·refine hR.to rfl (Int.le_refl _) rfl rfl (Nat.le_refl _) (fun key c p hC=>?_) (fun key q p hP=>?_)
  ·rcases hC with ⟨hC,_⟩ | ⟨_,ho,_⟩
   ·exact hC
   ·exact absurd ho (hold _ _ _)
  ·obtain ⟨t1,t2,t3⟩:=sh hz.pw hz.jT key
   have he:ai key Z.n<Z.n:=(dJ hz.pw key).1
   have uV:=hz.zip _ he
   have e1:=uV.fs
   have e2:=uV.fv
   rw [hr _ he,List.filter_nil,List.append_nil] at e1 e2
   have hP:Std (sd Z.n) (Z.s (ai key Z.n)) (Z.u (ai key Z.n)) (Z.r (ai key Z.n)) (Z.v (ai key Z.n)) (Z.rest (ai key Z.n)) (old R.w p (ai key Z.n)) key q:=hP
   rw [hr _ he] at hP
   show q<:+(Z.aY (ai key (2*Z.n) % Z.n)).filter fun a=>sd Z.n a.2.1==decide (Z.n<=ai key (2*Z.n))
   rw [t1]
   have E6:decide (Z.n<=ai key (2*Z.n))=sd Z.n key:=rfl
   rw [E6]
   rcases hP with ⟨hs,hq⟩ | ⟨hs,hq⟩ | ⟨ho,_⟩
   ·rw [hs,e1]
    rw [List.append_nil] at hq
    exact hq
   ·rw [hs,e2]
    rw [List.append_nil] at hq
    exact hq
   ·exact absurd ho (hold _ _ _)
theorem Rest.Tw {m:Nat} (h:Rest l Y L) (hm:2*m=Y.n) (jr:FM.bl m=true) (hw:0<=w/\w<=1000) (ou:Cl.nth L.xs 0<=1000000000000) (l8:L.xs.length+m<=1048576) (aM:L.ds.length<=800000) (jc:Y.cap+m*Y.few<=1000000):
 ∃ Z,Sw.JD Y.ls Z L/\Z.n=m/\Z.C=Y.cs/\Z.few=Y.few/\Z.cap=Y.cap/\Sw.J m Z old' L (Sw.il w) (2+m*(Y.few+4)+12) (m*Y.few)/\∀ R k,bZ Y.wy L l old R k->bZ Z.wy L l old' R k:=by
 obtain ⟨f1,f2⟩:=h.few
 have hb:=h.base
 rw [<-hm] at hb
 obtain ⟨Z,hZ,z1,z2,z3,z4,z5,z6,z7,z8⟩:=hb.js jr (cap:=Y.cap) (by have:=h.cap; omega)
 have hn:=hb.n1
 have bz:=hb.xl
 have eu:=hb.kB
 have hk:=hb.k
 have zf:Z.few=Y.few:=by omega
 have Xh:m*(Y.few+4)<=65536*39:=Nat.mul_le_mul (by omega) (by omega)
 refine ⟨Z,⟨hZ,by omega⟩,z1,z7,zf,z6,⟨⟨z1,hw,rfl,fun q=>absurd rfl q,hb.k,?_,h.aF.2,fun _=>h.aF.1,by rw [z3,z1]; omega,?_,⟨by omega,fun _=>aM⟩,rfl,fun q=>by have q:3<=1:=q; omega,Nat.zero_le _,by rw [z3]; omega,⟨Nat.zero_le _,Nat.zero_le _⟩,?_,hb.tabs,by rw [z6]; exact jc⟩,.p1 rfl z4 rfl (fun e _=>by rw [z8]; simp) ?_ ?_⟩,fun R k hR=>?_⟩
 ·omega
 ·rw [if_pos (show (Sw.il w).nx<=2 by show 1<=2; omega),z3]
 ·intro b cY a ha
  rw [z7] at ha
  exact h.pos b (by omega) a ha
 ·rw [z1,zf]; omega
 ·rw [z1,zf]; omega
 ·have Xj:∀ b,Z.cD b=Z.C b:=fun b=>by
   unfold Js.cD
   rw [if_neg]
   rintro ⟨_,q,_⟩
   rw [z8] at q
   simp at q
  refine hR.to rfl (Int.le_refl _) rfl zf (by show Y.cap<=Z.cap; omega) (fun key c p hC=>?_) (fun key q p hP=>?_)
  ·have hC:c=Y.B+ai key Y.n:=hC
   exact .inl ⟨by rw [z2,z1,hm]; exact hC,.inl z4⟩
  ·refine .inl ?_
   rw [Xj,z7,z1,hm]
   exact hP
theorem Tx (C:Nat->List Mq.Hp) (m:Nat):∀ k,(bK k fun e=>C e++C (e+m)).length=(bK k C).length+(bK k fun e=>C (e+m)).length:=by
 intro k
 induction k with
 | zero=>rfl
 | succ k ih=>
   rw [kV,kV,kV,List.length_append,List.length_append,List.length_append,ih]
   simp only [aM,List.map_append,List.length_append]
   omega
theorem Tz (C:Nat->List Mq.Hp) (m:Nat):∀ k,(bK (m+k) C).length=(bK m C).length+(bK k fun e=>C (e+m)).length:=by
 intro k
 induction k with
 | zero=>rfl
 | succ k ih=>
   rw [<-Nat.add_assoc,kV,kV,List.length_append,List.length_append,ih,Nat.add_comm m k]
   omega
theorem TA {Z:Js} {G:Sw.Sh} {n0:Nat} {ls:List Pr} (hZ:Sw.JD l Z L) (hO:Sw.oV n0 Z L G) (hold:∀ w p e,¬old w p e) (eT:∀ b,b<2*Z.n->bs (Z.C b)=own ls (2*Z.n) b) (hk:(ls.map (·.1)).Nodup) (jq:Z.few=ls.length):
 Rest l ⟨Z.n,Z.B2,Z.few,Z.cap,Z.two,flat Z.n Z.two⟩ L/\∀ R k,bZ Z.wy L l old R k->bZ (Rs.wy ⟨Z.n,Z.B2,Z.few,Z.cap,Z.two,flat Z.n Z.two⟩) L l old' R k:=by
 have hz:=hZ.1
 have Xi:=hZ.2
 have hp:=hO.bt
 have bz:=hO.xl
 have l8:=hO.xm
 have hf:=hz.few
 have cf:∀ b,b<2*Z.n->(dQ (Z.C b)).Nodup:=fun b hb=>by
  have h3:dQ (Z.C b)=(bs (Z.C b)).map (·.1):=by simp [bs]
  rw [h3,eT b hb]
  exact (List.filter_sublist.map _).nodup hk
 have hlen:(bK Z.n Z.two).length=ls.length:=by
  have e1:(bK Z.n Z.two).length=(bK Z.n Z.C).length+(bK Z.n fun e=>Z.C (e+Z.n)).length:=Tx Z.C Z.n Z.n
  have e2:=Tz Z.C Z.n Z.n
  have e3:=TB ls (n:=2*Z.n) (cs:=Z.C) eT (2*Z.n) (Nat.le_refl _)
  have e4:(ls.filter fun p=>decide (ai p.1 (2*Z.n)<2*Z.n))=ls:=List.filter_eq_self.2 fun p _=>decide_eq_true (dJ hz.jT p.1).1
  rw [e4] at e3
  rw [show Z.n+Z.n=2*Z.n by omega] at e2
  omega
 have hB:=Js.Ok.base hz hp hO.tabs (by omega) cf (by omega)
 have xG:(flat Z.n Z.two).length=ls.length:=by rw [mx]; exact hlen
 refine ⟨⟨hB,fun key=>?_,⟨by show Z.few=(flat Z.n Z.two).length; omega,by show (flat Z.n Z.two).length<=35; omega⟩,⟨hf.2.2.1,hf.2.2.2⟩,⟨hO.aF,hO.hl⟩,fun b hb a ha=>?_⟩,fun R k hR=>?_⟩
 ·rw [hB.lk key]
  exact hz.Ir key
 ·have hb:b<Z.n:=hb
  have ha:a∈Z.C b++Z.C (b+Z.n):=ha
  rcases List.mem_append.1 ha with q | q
  ·exact hO.pos b (by omega) a q
  ·exact hO.pos (b+Z.n) (by omega) a q
 ·refine hR.to rfl (Int.le_refl _) rfl rfl (Nat.le_refl _) (fun key c p hC=>?_) (fun key q p hP=>?_)
  ·rcases hC with ⟨_,hC⟩ | ⟨hC,_⟩
   ·rcases hC with hC | hC
    ·rw [hp] at hC; simp at hC
    ·exact absurd hC (hold _ _ _)
   ·exact hC
  ·rcases hP with hP | ⟨_,hP⟩
   ·exact MZ hz (hz.all hp) key hP
   ·exact hP
end
end Go.Proofs.YtpanebgakndddaaGreat.Bs
namespace Go.Proofs.YtpanebgakndddaaGreat.Zr
open Go Hm Ar Mm Wk Pc Me Mq Pu Pn Gt Qs Zp Mx cJ Bs
inductive mF
 | none
 | cm (G:Gw.Gr)
 | shr (G:Sw.Sh)
structure Rz where
 worker:Int
 size:Int
 nx:Nat
 err:Int
 inn:mF
def look (L:Lm) (R:Rz):Rz:=
 if ((now L.xs L.ds).1:Int)=R.size then {R with nx:=7} else if ((now L.xs L.ds).1:Int)<R.size then {R with nx:=6,inn:=.cm (Gw.iJ R.worker)} else {R with nx:=6,inn:=.shr (Sw.il R.worker)}
def after (L:Lm) (R:Rz) (e:Int):Rz:=if e=0 then look L {R with err:=e} else {R with err:=e,nx:=7}
def bH (L:Lm) (R:Rz):Lm×Rz:=
 if R.nx=0 then (L,{R with err:=5,nx:=12})
 else if R.nx=1 then ({L with hs:=L.hs.set 5 R.worker},{R with nx:=2})
 else if R.nx<=4 then ({L with hs:=L.hs.set (R.nx-1) R.worker},{R with nx:=R.nx+1})
 else if R.nx=5 then ({L with hs:=L.hs.set 4 R.worker},look L R)
 else if R.nx=6 then
  match R.inn with
  | .none=>(L,R)
  | .cm G=>((Gw.aE L G).1,if Gw.cp L G=true then after (Gw.aE L G).1 {R with inn:=.cm (Gw.aE L G).2} (Gw.aE L G).2.err else {R with inn:=.cm (Gw.aE L G).2})
  | .shr G=>((Sw.aH L G).1,if Sw.b7 L G=true then after (Sw.aH L G).1 {R with inn:=.shr (Sw.aH L G).2} (Sw.aH L G).2.err else {R with inn:=.shr (Sw.aH L G).2})
 else if R.nx<=10 then ({L with hs:=L.hs.set (11-R.nx) (-1)},{R with nx:=R.nx+1})
 else ({L with hs:=L.hs.set 5 (-1)},{R with nx:=12})
def j8 (nx:Nat):Nat:=if nx=1 then 5 else nx-1
def gD (L:Lm) (R:Rz):Bool:=
 if 1<=R.nx/\R.nx<=5 then decide (0<=R.worker/\Lo.aF L.hs (j8 R.nx)= -1)
 else if R.nx=6 then (match R.inn with | .none=>true | .cm G=>Gw.lh L G | .shr G=>Sw.eK L G)
 else true
def eJ (_L:Lm) (R:Rz):Bool:=decide (R.nx=0\/11<=R.nx)
structure oO (L:Lm) (R:Rz):Prop where
 nx:R.nx<=11
 x1:1<L.xs.length
 hl:L.hs.length=6
 wk:R.nx≠0->0<=R.worker/\R.worker<=1000
 tb:∀ i,(aO L.ds i).1<=65536
 inn:R.nx=6->(∃ G,R.inn=.cm G/\Gw.pR L G)\/(∃ G,R.inn=.shr G/\Sw.pK L G)
 held:7<=R.nx->R.nx<=10->Lo.aF L.hs (11-R.nx)=R.worker
 last:R.nx=11->Lo.aF L.hs 5=R.worker
/-! ### ways from so many buckets to so many-/
def gc (n few:Nat):Nat:=2+n*(few+4)+(1+12*(few+1)+n*few)
def sc (m few:Nat):Nat:=2+m*(few+4)+12
inductive Up (few s:Nat):Nat->Nat->Nat->Nat->Prop
 | done:Up few s s 0 0 0
 | more {n c x t:Nat}:FM.bl ((2*n:Nat):Int)=true->Up few s (2*n) c x t->Up few s n (gc n few+c) (2*n+x) (t+1)
inductive Dn (few s:Nat):Nat->Nat->Nat->Nat->Nat->Prop
 | done:Dn few s s 0 0 0 0
 | more {m c x t a:Nat}:FM.bl m=true->Dn few s m c x t a->Dn few s (2*m) (sc m few+c) (m+x) (t+1) (m*few+a)
def nS (few s n c x t a:Nat):Prop:=Up few s n c x t\/Dn few s n c x t a
section
variable {few s n c x t a:Nat}
theorem Up.eqs (h:Up few s n c x t):c+(2*few+4)*n=t*(15+12*few)+(2*few+4)*s/\x+2*n=2*s/\n*2 ^ t=s:=by
 induction h with
 | done=>simp
 | @more n c x t _ _ ih=>
   obtain ⟨h1,h2,h3⟩:=ih
   refine ⟨?_,by omega,by rw [Nat.pow_succ,<-h3,Nat.mul_comm 2 n,Nat.mul_assoc,Nat.mul_comm 2]⟩
   have e1:(2*few+4)*(2*n)=(2*few+4)*n+(2*few+4)*n:=by rw [show 2*n=n+n by omega,Nat.mul_add]
   have e2:gc n few=(2*few+4)*n+(15+12*few):=by
    unfold gc
    have:(2*few+4)*n=n*(few+4)+n*few:=by rw [Nat.mul_comm,<-Nat.mul_add]; congr 1; omega
    rw [this]
    omega
   have e3:(t+1)*(15+12*few)=t*(15+12*few)+(15+12*few):=by rw [Nat.add_mul,Nat.one_mul]
   omega
theorem Up.le (h:Up few s n c x t):n<=s:=by
 have:=h.eqs
 omega
theorem Dn.eqs (h:Dn few s n c x t a):c+(few+4)*s=t*14+(few+4)*n/\x+s=n/\a+few*s=few*n/\s*2 ^ t=n:=by
 induction h with
 | done=>simp
 | @more m c x t a _ _ ih=>
   obtain ⟨h1,h2,h3,h4⟩:=ih
   have e1:(few+4)*(2*m)=(few+4)*m+(few+4)*m:=by rw [show 2*m=m+m by omega,Nat.mul_add]
   have e2:sc m few=(few+4)*m+14:=by unfold sc; rw [Nat.mul_comm]; omega
   have e3:few*(2*m)=few*m+few*m:=by rw [show 2*m=m+m by omega,Nat.mul_add]
   have e4:m*few=few*m:=Nat.mul_comm _ _
   have e5:(t+1)*14=t*14+14:=by omega
   exact ⟨by omega,by omega,by omega,by rw [Nat.pow_succ,<-Nat.mul_assoc,h4,Nat.mul_comm]⟩
theorem Dn.le (h:Dn few s n c x t a):s<=n:=by
 have:=h.eqs
 omega
theorem Dn.inv (h:Dn few s n c x t a):(n=s/\c=0/\x=0/\t=0/\a=0)\/∃ m c' x' t' a',n=2*m/\FM.bl m=true/\Dn few s m c' x' t' a'/\c=sc m few+c'/\x=m+x'/\t=t'+1/\a=m*few+a':=by
 cases h with
 | done=>exact .inl ⟨rfl,rfl,rfl,rfl,rfl⟩
 | more h1 h2=>exact .inr ⟨_,_,_,_,_,rfl,h1,h2,rfl,rfl,rfl,rfl⟩
theorem BQ (few:Nat) (a:Nat) (ha:a<=16):∀ (t b:Nat),b+t=a->∃ c x,Up few (2 ^ a) (2 ^ b) c x t:=by
 intro t
 induction t with
 | zero=>intro b h; exact ⟨0,0,by rw [show b=a by omega]; exact .done⟩
 | succ t ih=>
   intro b h
   obtain ⟨c,x,h1⟩:=ih (b+1) (by omega)
   rw [Nat.pow_succ,Nat.mul_comm] at h1
   refine ⟨_,_,.more ?_ h1⟩
   rw [Nat.mul_comm,<-Nat.pow_succ]
   exact I1 (by omega)
theorem GJ (few:Nat) (b:Nat):∀ (t a:Nat),b+t=a->a<=16->∃ c x k,Dn few (2 ^ b) (2 ^ a) c x t k:=by
 intro t
 induction t with
 | zero=>intro a h _; exact ⟨0,0,0,by rw [<-h,Nat.add_zero]; exact .done⟩
 | succ t ih=>
   intro a h ha
   obtain ⟨c,x,k,h1⟩:=ih (a-1) (by omega) (by omega)
   refine ⟨sc (2 ^ (a-1)) few+c,2 ^ (a-1)+x,2 ^ (a-1)*few+k,?_⟩
   have:=Dn.more (few:=few) (I1 (k:=a-1) (by omega)) h1
   rw [show 2*2 ^ (a-1)=2 ^ a by rw [Nat.mul_comm,<-Nat.pow_succ]; congr 1; omega] at this
   exact this
end
/-! ### which mI are held-/
def dA (nx:Nat) (w:Int) (i:Nat):Int:=if i=5 then (if 2<=nx/\nx<=11 then w else-1) else if i+2<=nx/\nx+i<=11 then w else-1
theorem uG {hs:List Int} (i j:Nat) (v:Int) (hi:i<hs.length):Lo.aF (hs.set i v) j=if j=i then v else Lo.aF hs j:=by
 unfold Lo.aF
 simp only [List.getD_eq_getElem?_getD]
 by_cases h:j=i
 ·subst h; rw [if_pos rfl]; simp [hi]
 ·rw [if_neg h,List.getElem?_set_ne (by omega)]
end Go.Proofs.YtpanebgakndddaaGreat.Zr
namespace Go.Proofs.YtpanebgakndddaaGreat.Zr
open Go Hm Ar Mm Wk Pc Me Mq Pu Pn Gt Qs Zp Mx cJ Bs
inductive Dz
 | rest (Y:Rs)
 | cm (Z:Zs)
 | shr (Z:Js)
def Dz.wy:Dz->Wy
 | .rest Y=>Y.wy
 | .cm Z=>Z.wy
 | .shr Z=>Z.wy
def Dz.Ok (l:List Pr):Dz->Lm->Prop
 | .rest Y,L=>Bs.Rest l Y L
 | .cm Z,L=>ZD l Z L
 | .shr Z,L=>Sw.JD l Z L
def Dz.all:Dz->List Nat
 | .rest Y=>bK Y.n Y.cs
 | .cm Z=>bK Z.n Z.aY
 | .shr Z=>bK (2*Z.n) Z.C
structure Kp (L L':Lm):Prop where
 ss:L'.ss.length=L.ss.length
 tk:∀ k,(aj L'.ss k).taken=(aj L.ss k).taken/\(aj L'.ss k).gen=(aj L.ss k).gen
 ws:L'.ws=L.ws
 k:L'.k=L.k
 F:L'.F=L.F
theorem Kp.refl (L:Lm):Kp L L:=⟨rfl,fun _=>⟨rfl,rfl⟩,rfl,rfl,rfl⟩
theorem Kp.of {L L' L'':Lm} (h:Kp L L') (h':Gw.iq L' L''):Kp L L'':=⟨h'.ss.trans h.ss,fun k=>⟨(h'.tk k).1.trans (h.tk k).1,(h'.tk k).2.trans (h.tk k).2⟩,h'.ws.trans h.ws,h'.k.trans h.k,h'.F.trans h.F⟩
theorem Kp.more {L L' L'':Lm} (h:Kp L L') (e1:L''.ss=L'.ss) (e2:L''.ws=L'.ws) (e3:L''.k=L'.k) (e4:L''.F=L'.F):Kp L L'':=⟨by rw [e1]; exact h.ss,by rw [e1]; exact h.tk,e2.trans h.ws,e3.trans h.k,e4.trans h.F⟩
structure np where
 X:Nat
 D:Nat
 P:Int
structure Rc (L0:Lm) (H:List Nat) (N:np) (s:Nat) (D:Dz) (L:Lm) (R:Rz) (m:Nat):Prop where
 wk:0<=R.worker/\R.worker<=1000
 err:R.err=0
 sz:R.size=s
 kp:Kp L0 L
 hl:L.hs.length=6
 hs:∀ i,1<=i->i<=5->Lo.aF L.hs i=dA R.nx R.worker i
 pd:Cl.nth L.xs 0+m<=N.P
 nb:N.X<=1048576/\N.D<=800000/\N.P<=1000000000000
 perm:(Dz.all D).Perm H
inductive Rp (N:np) (l:List Pr) (s:Nat) (L:Lm) (R:Rz) (old:Nat->Int->Nat->Prop):Dz->Nat->Nat->Prop
 | take {m c:Nat} (Y:Rs) (cst x t a:Nat):1<=R.nx/\R.nx<=5->nS Y.few s Y.n cst x t a->(6-R.nx)+cst+5<=m->a<=c->Y.cap+a<=1000000->L.xs.length+x<=N.X->L.ds.length+t<=N.D->Rp N l s L R old (.rest Y) m c
 | cm {m c:Nat} (Z:Zs) (G:Gw.Gr) (ls:List Pr) (mi ci cst x t d:Nat):R.nx=6->R.inn=.cm G->Gw.J Z.n ls Z old L G mi ci->nP ls l->(ls.map (·.1)).Nodup->Z.few=ls.length->Up Z.few s (2*Z.n) cst x t->mi+cst+5<=m->ci<=c->Z.B2+2*Z.n+x<=N.X->L.ds.length<=d+1/\(G.nx<=2->L.ds.length<=d)->d+1+t<=N.D->Rp N l s L R old (.cm Z) m c
 | shr {m c:Nat} (Z:Js) (G:Sw.Sh) (ls:List Pr) (mi ci cst x t a d:Nat):R.nx=6->R.inn=.shr G->Sw.J Z.n Z old L G mi ci->(∀ b,b<2*Z.n->bs (Z.C b)=own ls (2*Z.n) b)->(ls.map (·.1)).Nodup->Z.few=ls.length->Dn Z.few s Z.n cst x t a->mi+cst+5<=m->ci+a<=c->Z.cap+ci+a<=1000000->Z.B2+Z.n+x<=N.X->
    L.ds.length<=d+1/\(G.nx<=2->L.ds.length<=d)->d+1+t<=N.D->Rp N l s L R old (.shr Z) m c
 | free {m c:Nat} (Y:Rs):7<=R.nx/\R.nx<=11->Y.n=s->12-R.nx<=m->L.xs.length<=N.X/\L.ds.length<=N.D->Rp N l s L R old (.rest Y) m c
def J (L0:Lm) (H:List Nat) (N:np) (s:Nat) (l:List Pr) (D:Dz) (old:Nat->Int->Nat->Prop) (L:Lm) (R:Rz) (m c:Nat):Prop:=
 Rc L0 H N s D L R m/\Rp N l s L R old D m c
def zR (l:List Pr) (D:Dz) (L:Lm) (old:Nat->Int->Nat->Prop) (D':Dz) (L':Lm) (old':Nat->Int->Nat->Prop) (j:Nat):Prop:=
 ∀ (R:Rn) (k:Nat),(R.w:Int)<L.k->bZ D.wy L l old R k->∃ k',k'<=k+j/\bZ D'.wy L' l old' R k'
def bT (L0:Lm) (H:List Nat) (N:np) (s:Nat) (l:List Pr) (D:Dz) (old:Nat->Int->Nat->Prop) (L:Lm) (R:Rz) (m c:Nat):Prop:=
 ∃ D' old' m' c' j,m'+1<=m/\c'+j<=c/\J L0 H N s l D' old' (bH L R).1 (bH L R).2 m' c'/\Dz.Ok l D' (bH L R).1/\zR l D L old D' (bH L R).1 old' j/\(∀ i:Nat,(i:Int)<L.k->Cl.nth (bH L R).1.xs (2+i)=Cl.nth L.xs (2+i))/\(bH L R).1.k=L.k
end Go.Proofs.YtpanebgakndddaaGreat.Zr
namespace Go.Proofs.YtpanebgakndddaaGreat.Zr
open Go Hm Ar Mm Wk Pc Me Mq Pu Pn Gt Qs Zp Mx cJ Bs
section
variable {L0:Lm} {H:List Nat} {N:np} {s:Nat} {l:List Pr} {D D':Dz} {L L':Lm} {R R':Rz} {m m' c c':Nat} {old old':Nat->Int->Nat->Prop} {Y:Rs}
theorem Dz.Ok.ways (h:D.Ok l L):D.wy.Ok L l:=by
 cases D with
 | rest Y=>exact Rest.ways h
 | cm Z=>exact ZD.ways h
 | shr Z=>exact h.1.ways
theorem Rest.mI (h:Bs.Rest l Y L) {hs':List Int} (h0:Lo.aF hs' 0= -1) (hl:0<hs'.length):Bs.Rest l Y {L with hs:=hs'}:=
 ⟨{h.base with},h.iX,h.few,h.cap,⟨h0,hl⟩,h.pos⟩
theorem Jf {nx i:Nat} {w v:Int} {hs:List Int} (hl:hs.length=6) (h:∀ j,1<=j->j<=5->Lo.aF hs j=dA nx w j) (hi:1<=i/\i<=5) {nx':Nat} (h1:dA nx' w i=v) (h2:∀ j,1<=j->j<=5->j≠i->dA nx' w j=dA nx w j):∀ j,1<=j->j<=5->Lo.aF (hs.set i v) j=dA nx' w j:=fun j a b=>by
 rw [uG _ _ _ (by omega)]
 by_cases e:j=i
 ·rw [if_pos e,e,h1]
 ·rw [if_neg e,h2 j a b e,h j a b]
theorem Rc.to (h:Rc L0 H N s D L R m) (h1:R'.worker=R.worker/\R'.size=R.size) (he:R'.err=0) (hm:Cl.nth L'.xs 0+m'<=N.P) (hk:Kp L0 L') (hl:L'.hs.length=6) (hs:∀ i,1<=i->i<=5->Lo.aF L'.hs i=dA R'.nx R'.worker i) (hp:(Dz.all D').Perm (Dz.all D)):Rc L0 H N s D' L' R' m':=
 ⟨by rw [h1.1]; exact h.wk,he,by rw [h1.2]; exact h.sz,hk,hl,hs,hm,h.nb,hp.trans h.perm⟩
theorem J.ok (h:J L0 H N s l D old L R m c) (hD:D.Ok l L):oO L R:=by
 obtain ⟨hc,hp⟩:=h
 have hY:=hD.ways
 have yg:=hY.wl 0 (by have:=hY.k; omega)
 have nG:∀ i,(aO L.ds i).1<=65536:=fun i=>(hY.tb i).1
 have iB:=hc.wk
 have held:7<=R.nx->R.nx<=10->Lo.aF L.hs (11-R.nx)=R.worker:=fun a b=>by
  rw [hc.hs _ (by omega) (by omega)]
  unfold dA
  rw [if_neg (by omega),if_pos (by omega)]
 have last:R.nx=11->Lo.aF L.hs 5=R.worker:=fun a=>by
  rw [hc.hs _ (by omega) (by omega)]
  unfold dA
  rw [if_pos rfl,if_pos (by omega)]
 cases hp with
 | take Y cst x t a q _ _ _ _ _ _=>exact ⟨by omega,by omega,hc.hl,fun _=>iB,nG,fun e=>by omega,held,last⟩
 | cm Z G ls mi ci cst x t d e1 e2 e3 e4 _ _ _ _ _ _ _ _=>exact ⟨by omega,by omega,hc.hl,fun _=>iB,nG,fun _=>.inl ⟨G,e2,e3.ok (ZD.iX e4.symm hD)⟩,held,last⟩
 | shr Z G ls mi ci cst x t a d e1 e2 e3 _ _ _ _ _ _ _ _ _ _=>exact ⟨by omega,by omega,hc.hl,fun _=>iB,nG,fun _=>.inr ⟨G,e2,e3.ok hD⟩,held,last⟩
 | free Y q _ _ _=>exact ⟨by omega,by omega,hc.hl,fun _=>iB,nG,fun e=>by omega,held,last⟩
theorem J.pos (h:J L0 H N s l D old L R m c):1<=m:=by
 cases h.2 with
 | take Y cst x t a q _ h _ _ _ _=>omega
 | cm Z G ls mi ci cst x t d e1 e2 e3 e4 _ _ _ h _ _ _ _=>omega
 | shr Z G ls mi ci cst x t a d e1 e2 e3 _ _ _ _ h _ _ _ _ _=>omega
 | free Y q _ h _=>omega
theorem looked {cst x t a:Nat} (hc:Rc L0 H N s (.rest Y) L R m) (hY:Bs.Rest l Y L) (hw:nS Y.few s Y.n cst x t a) (hx:L.xs.length+x<=N.X) (ht:L.ds.length+t<=N.D) (jc:Y.cap+a<=1000000) (hm:cst+5<=m) (Bd:a<=c) (Be:dA 6 R.worker=dA R.nx R.worker):
 ∃ D' old',J L0 H N s l D' old' L (look L R) m c/\D'.Ok l L/\zR l (.rest Y) L old D' L old' 0:=by
 have bV:=hY.base.now
 have fz:=hY.base.n1
 have cA:=hc.sz
 have kT:=hc.pd
 have ma:=hc.nb
 have Lv:dA 7 R.worker=dA 6 R.worker:=by
  funext i
  unfold dA
  by_cases h5:i=5
  ·rw [if_pos h5,if_pos h5]; simp
  ·rw [if_neg h5,if_neg h5]
   by_cases q:i<=4
   ·rw [if_pos (by omega),if_pos (by omega)]
   ·rw [if_neg (by omega),if_neg (by omega)]
 unfold look
 rw [bV,cA]
 simp only
 rcases hw with hw | hw
 ·cases hw with
  | done=>
    rw [if_pos rfl]
    exact ⟨.rest Y,old,⟨hc.to ⟨rfl,cA▸rfl⟩ hc.err kT hc.kp hc.hl (fun i a b=>by rw [hc.hs i a b]; show _=dA 7 R.worker i; rw [Lv,Be]) (List.Perm.refl _),.free Y ⟨by simp,by simp⟩ rfl (by simp only; omega) ⟨by omega,by omega⟩⟩,hY,fun _ k _ hR=>⟨k,Nat.le_refl _,hR⟩⟩
  | @more _ c' x' t' gW vF=>
    have hle:=vF.le
    rw [if_neg (by omega),if_pos (by omega)]
    obtain ⟨Z,hZ,z1,z2,z3,z4,z5,hJ,hR⟩:=Rest.zv hY gW hc.wk (by omega) (by omega) (by omega)
    rw [<-z3,<-z1] at vF
    rw [<-z1] at hJ
    refine ⟨.cm Z,fun _ _ _=>True,⟨hc.to ⟨rfl,cA▸rfl⟩ hc.err kT hc.kp hc.hl (fun i a b=>by rw [hc.hs i a b]; show _=dA 6 R.worker i; rw [Be]) (by show (bK Z.n Z.aY).Perm (bK Y.n Y.cs); rw [z1,z2]),.cm Z (Gw.iJ R.worker) Y.ls _ _ _ _ _ L.ds.length rfl rfl hJ hY.iX hY.base.keys (by rw [z3]; exact hY.few.1) vF ?_ (Nat.zero_le _) ?_ ⟨by omega,fun _=>Nat.le_refl _⟩ (by omega)⟩,ZD.iX hY.iX hZ,fun R k _ h=>⟨k,Nat.le_refl _,hR R k h⟩⟩
    ·have:gc Y.n Y.few=2+Y.n*(Y.few+4)+(1+12*(Y.few+1)+Y.n*Y.few):=rfl
     rw [z1]
     omega
    ·have h1:=hJ.1.xl
     rw [if_pos (show (Gw.iJ R.worker).nx<=2 by show 1<=2; omega)] at h1
     omega
 ·rcases hw.inv with ⟨e,e1,e2,e3,e4⟩ | ⟨q,c',x',t',a',e,Lw,cB,e1,e2,e3,e4⟩
  ·rw [if_pos (by omega)]
   exact ⟨.rest Y,old,⟨hc.to ⟨rfl,cA▸rfl⟩ hc.err kT hc.kp hc.hl (fun i a b=>by rw [hc.hs i a b]; show _=dA 7 R.worker i; rw [Lv,Be]) (List.Perm.refl _),.free Y ⟨by simp,by simp⟩ e (by simp only; omega) ⟨by omega,by omega⟩⟩,hY,fun _ k _ hR=>⟨k,Nat.le_refl _,hR⟩⟩
  ·have hle:=cB.le
   have E7:=FM.eG Lw
   rw [if_neg (by omega),if_neg (by omega)]
   obtain ⟨Z,hZ,z1,z2,z3,z4,hJ,hR⟩:=Rest.Tw (old:=old) (old':=old) hY e.symm Lw hc.wk (by omega) (by omega) (by omega) (by omega)
   have eT:=hY.base.own
   rw [e] at eT
   rw [<-z3,<-z1] at cB
   rw [<-z1] at hJ
   refine ⟨.shr Z,old,⟨hc.to ⟨rfl,cA▸rfl⟩ hc.err kT hc.kp hc.hl (fun i a b=>by rw [hc.hs i a b]; show _=dA 6 R.worker i; rw [Be]) (by show (bK (2*Z.n) Z.C).Perm (bK Y.n Y.cs); rw [z1,z2,e]),.shr Z (Sw.il R.worker) Y.ls _ _ _ _ _ _ L.ds.length rfl rfl hJ (by rw [z1,z2]; exact eT) hY.base.keys (by rw [z3]; exact hY.few.1) cB ?_ ?_ ?_ ?_ ⟨by omega,fun _=>Nat.le_refl _⟩ (by omega)⟩,⟨Js.Ok.iX hY.iX hZ.1,hZ.2⟩,fun R k _ h=>⟨k,Nat.le_refl _,hR R k h⟩⟩
   ·have:sc q Y.few=2+q*(Y.few+4)+12:=rfl
    rw [z1]
    omega
   ·rw [z1]; omega
   ·rw [z1,z4]; omega
   ·have h1:=hJ.1.xl
    rw [if_pos (show (Sw.il R.worker).nx<=2 by show 1<=2; omega)] at h1
    omega
end
end Go.Proofs.YtpanebgakndddaaGreat.Zr
namespace Go.Proofs.YtpanebgakndddaaGreat.Zr
open Go Hm Ar Mm Wk Pc Me Mq Pu Pn Gt Qs Zp Mx cJ Bs
theorem Jg (C:Nat->List Mq.Hp) (m:Nat):∀ k,bK (m+k) C=bK m C++bK k fun e=>C (e+m):=by
 intro k
 induction k with
 | zero=>simp [bK]
 | succ k ih=>
   rw [<-Nat.add_assoc,kV,kV,ih,Nat.add_comm m k,List.append_assoc]
theorem Jh (A B:Nat->List Mq.Hp):∀ k,(bK k A++bK k B).Perm (bK k fun e=>A e++B e):=by
 intro k
 induction k with
 | zero=>simp [bK]
 | succ k ih=>
   rw [kV,kV,kV]
   have e:aM (A k++B k)=aM (A k)++aM (B k):=by simp [aM]
   simp only [e]
   have h1:(bK k A++aM (A k)++(bK k B++aM (B k))).Perm (bK k A++bK k B++(aM (A k)++aM (B k))):=by
    rw [List.append_assoc,List.append_assoc,<-List.append_assoc (aM (A k)),<-List.append_assoc (bK k B)]
    exact List.Perm.append_left _ (List.Perm.append_right _ List.perm_append_comm)
   exact h1.trans (List.Perm.append_right _ ih)
theorem TE {A B:Nat->List Mq.Hp} (k:Nat) (h:∀ e,e<k->(aM (A e)).Perm (aM (B e))):(bK k A).Perm (bK k B):=by
 induction k with
 | zero=>exact List.Perm.refl _
 | succ k ih=>
   rw [kV,kV]
   exact (ih fun e he=>h e (by omega)).append (h k (by omega))
theorem TF (n:Nat) (hn:0<n) (aY:Nat->List Mq.Hp):(bK (2*n) fun b=>(aY (b % n)).filter fun a=>sd n a.2.1==decide (n<=b)).Perm (bK n aY):=by
 rw [show 2*n=n+n by omega,Jg]
 refine (Jh _ _ n).trans (TE n fun e he=>?_)
 simp only [Nat.add_mod_right,Nat.mod_eq_of_lt he]
 rw [show decide (n<=e)=false by simp; omega,show decide (n<=e+n)=true by simp]
 refine List.Perm.map _ ?_
 have:=List.filter_append_perm (fun a:Mq.Hp=>sd n a.2.1==false) (aY e)
 have e1:(fun a:Mq.Hp=> !(sd n a.2.1==false))=fun a=>sd n a.2.1==true:=funext fun a=>by cases sd n a.2.1<;>rfl
 rw [e1] at this
 exact this
theorem TG (n:Nat) (C:Nat->List Mq.Hp):(bK n fun e=>C e++C (e+n)).Perm (bK (2*n) C):=by
 rw [show 2*n=n+n by omega,Jg]
 exact (Jh _ _ n).symm
section
variable {L0:Lm} {H:List Nat} {N:np} {s:Nat} {l:List Pr} {D D':Dz} {L L':Lm} {R R':Rz} {m m' c c':Nat} {old old':Nat->Int->Nat->Prop} {Y:Rs}
theorem bT.of {j:Nat} (e:bH L R=(L',R')) (hm:m'+1<=m) (E8:c'+j<=c) (hJ:J L0 H N s l D' old' L' R' m' c') (hD:D'.Ok l L') (hB:zR l D L old D' L' old' j) (h3:∀ i:Nat,(i:Int)<L.k->Cl.nth L'.xs (2+i)=Cl.nth L.xs (2+i)) (hk:L'.k=L.k):bT L0 H N s l D old L R m c:=by
 refine ⟨D',old',m',c',j,hm,E8,?_⟩
 rw [e]
 exact ⟨hJ,hD,hB,h3,hk⟩
theorem Du {hs:List Int} (h:Lo.aF hs 0= -1) (hl:hs.length=6) (i:Nat) (v:Int) (hi:1<=i/\i<=5):Lo.aF (hs.set i v) 0= -1/\(hs.set i v).length=6:=by
 refine ⟨?_,by simpa using hl⟩
 rw [uG _ _ _ (by omega),if_neg (by omega)]
 exact h
theorem J.take (h:J L0 H N s l D old L R m c) (hD:D.Ok l L) (hx:1<=R.nx/\R.nx<=5):bT L0 H N s l D old L R m c:=by
 obtain ⟨hc,hp⟩:=h
 have kT:=hc.pd
 cases hp with
 | take Y cst x t a q hw hm Bd jc vk AY=>
   have hD:Bs.Rest l Y L:=hD
   obtain ⟨i,hi⟩:∃ i,i=j8 R.nx:=⟨_,rfl⟩
   have Lx:1<=i/\i<=5:=by rw [hi]; unfold j8; split<;>omega
   obtain ⟨l0,l6⟩:=Du hD.aF.1 hc.hl i R.worker Lx
   have pA:=Rest.mI hD l0 (by rw [l6]; omega)
   have hF:dA (R.nx+1) R.worker i=R.worker:=by
    rw [hi]
    unfold dA j8
    by_cases q1:R.nx=1
    ·rw [if_pos q1,if_pos rfl,if_pos (by omega)]
    ·rw [if_neg q1,if_neg (by omega),if_pos (by omega)]
   have aP:∀ j,1<=j->j<=5->j≠i->dA (R.nx+1) R.worker j=dA R.nx R.worker j:=fun j a b e=>by
    have e:j≠j8 R.nx:=by rw [<-hi]; exact e
    unfold j8 at e
    unfold dA
    by_cases q5:j=5
    ·rw [if_pos q5,if_pos q5]
     by_cases q1:R.nx=1
     ·rw [if_pos q1] at e; omega
     ·rw [if_pos (by omega),if_pos (by omega)]
    ·rw [if_neg q5,if_neg q5]
     by_cases q1:R.nx=1
     ·rw [if_neg (by omega),if_neg (by omega)]
     ·rw [if_neg q1] at e
      by_cases q2:j+2<=R.nx
      ·rw [if_pos (by omega),if_pos (by omega)]
      ·rw [if_neg (by omega),if_neg (by omega)]
   have Bf:=Jf hc.hl hc.hs Lx hF aP
   have kU:Kp L0 {L with hs:=L.hs.set i R.worker}:=hc.kp.more rfl rfl rfl rfl
   have Ly:zR l (.rest Y) L old (.rest Y) {L with hs:=L.hs.set i R.worker} old 0:=fun R k _ hR=>⟨k,Nat.le_refl _,hR.iW rfl (Int.le_refl _) rfl⟩
   by_cases h5:R.nx=5
   ·have Xk:i=4:=by rw [hi]; unfold j8; rw [if_neg (by omega)]; omega
    have es:bH L R=({L with hs:=L.hs.set i R.worker},look {L with hs:=L.hs.set i R.worker} R):=by
     unfold bH
     rw [if_neg (by omega),if_neg (by omega),if_neg (by omega),if_pos h5,Xk]
     rfl
    have ev:Rc L0 H N s (.rest Y) {L with hs:=L.hs.set i R.worker} {R with nx:=6} (m-1):=hc.to (R':={R with nx:=6}) ⟨rfl,rfl⟩ hc.err (by show Cl.nth L.xs 0+_<=_; omega) kU l6 (fun j a b=>by rw [Bf j a b,h5]) (List.Perm.refl _)
    obtain ⟨D',old',g1,g2,g3⟩:=looked (c:=c) ev pA hw vk AY jc (by omega) Bd rfl
    have b9:look {L with hs:=L.hs.set i R.worker} {R with nx:=6}=look {L with hs:=L.hs.set i R.worker} R:=by unfold look; rfl
    rw [b9] at g1
    exact bT.of (m':=m-1) (c':=c) (j:=0) es (by omega) (by omega) g1 g2 (fun R k hk hR=>by
     obtain ⟨k1,a1,a2⟩:=Ly R k hk hR
     obtain ⟨k2,b1,b2⟩:=g3 R k1 hk a2
     exact ⟨k2,by omega,b2⟩) (fun _ _=>rfl) rfl
   ·have es:bH L R=({L with hs:=L.hs.set i R.worker},{R with nx:=R.nx+1}):=by
     unfold bH
     rw [if_neg (by omega)]
     by_cases q1:R.nx=1
     ·rw [if_pos q1,hi,q1]; rfl
     ·rw [if_neg q1,if_pos (by omega),hi]
      unfold j8
      rw [if_neg q1]
    exact bT.of (m':=m-1) (c':=c) (j:=0) es (by omega) (by omega) ⟨hc.to (R':={R with nx:=R.nx+1}) ⟨rfl,rfl⟩ hc.err (by show Cl.nth L.xs 0+_<=_; omega) kU l6 Bf (List.Perm.refl _),.take Y cst x t a ⟨by simp only; omega,by simp only; omega⟩ hw (by simp only; omega) Bd jc vk AY⟩ pA Ly (fun _ _=>rfl) rfl
 | cm Z G ls mi ci cst x t d e1 _ _ _ _ _ _ _ _ _ _ _=>omega
 | shr Z G ls mi ci cst x t a d e1 _ _ _ _ _ _ _ _ _ _ _ _=>omega
 | free Y q _ _ _=>omega
theorem J.free (h:J L0 H N s l D old L R m c) (hD:D.Ok l L) (hx:7<=R.nx/\R.nx<=10):bT L0 H N s l D old L R m c:=by
 obtain ⟨hc,hp⟩:=h
 have kT:=hc.pd
 cases hp with
 | free Y q hn hm Bg=>
   have hD:Bs.Rest l Y L:=hD
   obtain ⟨l0,l6⟩:=Du hD.aF.1 hc.hl (11-R.nx) (-1) (by omega)
   have pA:=Rest.mI hD l0 (by rw [l6]; omega)
   have hF:dA (R.nx+1) R.worker (11-R.nx)= -1:=by
    unfold dA
    rw [if_neg (by omega),if_neg (by omega)]
   have aP:∀ j,1<=j->j<=5->j≠11-R.nx->dA (R.nx+1) R.worker j=dA R.nx R.worker j:=fun j a b e=>by
    unfold dA
    by_cases q5:j=5
    ·rw [if_pos q5,if_pos q5,if_pos (by omega),if_pos (by omega)]
    ·rw [if_neg q5,if_neg q5]
     by_cases q2:R.nx+1+j<=11
     ·rw [if_pos (by omega),if_pos (by omega)]
     ·rw [if_neg (by omega),if_neg (by omega)]
   have Bf:=Jf hc.hl hc.hs (by omega) hF aP
   have es:bH L R=({L with hs:=L.hs.set (11-R.nx) (-1)},{R with nx:=R.nx+1}):=by
    unfold bH
    rw [if_neg (by omega),if_neg (by omega),if_neg (by omega),if_neg (by omega),if_neg (by omega),if_pos (by omega)]
   exact bT.of (m':=m-1) (c':=c) (j:=0) (old':=old) es (by omega) (by omega) ⟨hc.to (R':={R with nx:=R.nx+1}) ⟨rfl,rfl⟩ hc.err (by show Cl.nth L.xs 0+_<=_; omega) (hc.kp.more rfl rfl rfl rfl) l6 Bf (List.Perm.refl _),.free Y ⟨by simp only; omega,by simp only; omega⟩ hn (by simp only; omega) Bg⟩ pA
    (fun R k _ hR=>⟨k,Nat.le_refl _,hR.iW rfl (Int.le_refl _) rfl⟩) (fun _ _=>rfl) rfl
 | take Y cst x t a q _ _ _ _ _ _=>omega
 | cm Z G ls mi ci cst x t d e1 _ _ _ _ _ _ _ _ _ _ _=>omega
 | shr Z G ls mi ci cst x t a d e1 _ _ _ _ _ _ _ _ _ _ _ _=>omega
theorem J.cK (h:J L0 H N s l D old L R m c) (hD:D.Ok l L) (hd:eJ L R=true):∃ Y,D=.rest Y/\Bs.Rest l Y (bH L R).1/\Y.n=s/\(bH L R).2.err=0/\(bH L R).1={L with hs:=L.hs.set 5 (-1)}/\(∀ i,i<=5->Lo.aF (bH L R).1.hs i= -1)/\(bH L R).1.hs.length=6/\Kp L0 (bH L R).1/\(bK Y.n Y.cs).Perm H/\Cl.nth (bH L R).1.xs 0<=N.P/\(bH L R).1.xs.length<=N.X/\(bH L R).1.ds.length<=N.D:=by
 obtain ⟨hc,hp⟩:=h
 have kT:=hc.pd
 unfold eJ at hd
 have hd:=of_decide_eq_true hd
 cases hp with
 | free Y q hn hm Bg=>
   have Bh:R.nx=11:=by omega
   have hD:Bs.Rest l Y L:=hD
   obtain ⟨l0,l6⟩:=Du hD.aF.1 hc.hl 5 (-1) (by omega)
   have es:bH L R=({L with hs:=L.hs.set 5 (-1)},{R with nx:=12}):=by
    unfold bH
    rw [if_neg (by omega),if_neg (by omega),if_neg (by omega),if_neg (by omega),if_neg (by omega),if_neg (by omega)]
   rw [es]
   refine ⟨Y,rfl,Rest.mI hD l0 (by rw [l6]; omega),hn,hc.err,rfl,fun i hi=>?_,l6,hc.kp.more rfl rfl rfl rfl,hc.perm,by show Cl.nth L.xs 0<=_; omega,Bg.1,Bg.2⟩
   show Lo.aF (L.hs.set 5 (-1)) i= -1
   rcases Nat.eq_zero_or_pos i with q | q
   ·rw [q]; exact l0
   ·rw [uG _ _ _ (by have:=hc.hl; omega)]
    split
    ·rfl
    ·rw [hc.hs i q hi]
     unfold dA
     rw [if_neg (by omega),if_neg (by omega)]
 | take Y cst x t a q _ _ _ _ _ _=>omega
 | cm Z G ls mi ci cst x t d e1 _ _ _ _ _ _ _ _ _ _ _=>omega
 | shr Z G ls mi ci cst x t a d e1 _ _ _ _ _ _ _ _ _ _ _ _=>omega
end
end Go.Proofs.YtpanebgakndddaaGreat.Zr
namespace Go.Proofs.YtpanebgakndddaaGreat.Zr
open Go Hm Ar Mm Wk Pc Me Mq Pu Pn Gt Qs Zp Mx cJ Bs
section
variable {L0:Lm} {H:List Nat} {N:np} {s:Nat} {l:List Pr} {D D':Dz} {L L':Lm} {R R':Rz} {m m' c c':Nat} {old old':Nat->Int->Nat->Prop} {Y:Rs}
theorem Ji {L L':Lm} (h:Gw.iq L L') (i:Nat) (hi:i≠0):Lo.aF L'.hs i=Lo.aF L.hs i:=by
 unfold Lo.aF
 simp only [List.getD_eq_getElem?_getD]
 rw [h.hs i hi]
theorem J.cm (h:J L0 H N s l D old L R m c) (hD:D.Ok l L) (h6:R.nx=6) {G:Gw.Gr} (hG:R.inn=.cm G) (hr:Gw.lh L G=true):bT L0 H N s l D old L R m c:=by
 obtain ⟨hc,hp⟩:=h
 have kT:=hc.pd
 have ma:=hc.nb
 have es0:bH L R=((Gw.aE L G).1,if Gw.cp L G=true then after (Gw.aE L G).1 {R with inn:=.cm (Gw.aE L G).2} (Gw.aE L G).2.err else {R with inn:=.cm (Gw.aE L G).2}):=by
  unfold bH
  rw [if_neg (by omega),if_neg (by omega),if_neg (by omega),if_neg (by omega),if_pos h6,hG]
 have mZ:=Gw.QS L G
 have hs':∀ i,1<=i->i<=5->Lo.aF (Gw.aE L G).1.hs i=dA R.nx R.worker i:=fun i a b=>by rw [Ji mZ i (by omega)]; exact hc.hs i a b
 have yE:(Gw.aE L G).1.hs.length=6:=mZ.hl.trans hc.hl
 have kU:=hc.kp.of mZ
 cases hp with
 | cm Z G' ls mi ci cst x t d e1 e2 hJ rQ bS jq vF hm fJ hx hd vG=>
   rw [hG] at e2
   injection e2 with e2
   subst e2
   have hZ:ZD ls Z L:=ZD.iX rQ.symm hD
   have Xl:=hJ.C0 hZ
   have aM:=Gw.QT L G d hd
   have fC:=hJ.2.nx
   have E9:=hJ.2.pos
   cases cB:Gw.cp L G with
   | true=>
     obtain ⟨g1,g2,g3,g4,_⟩:=hJ.last hZ cB
     obtain ⟨r1,r2⟩:=grown (old:=old) (old':=old) (l:=l) g1 g2 g3 bS rQ jq
     have oo:(Gw.aE L G).1.xs=L.xs:=by rw [g4]
     have cf:(Gw.aE L G).1.k=L.k:=by rw [g4]
     rw [cB,if_pos rfl] at es0
     unfold after at es0
     rw [g2.err,if_pos rfl] at es0
     have gH:=FM.eG hZ.1.pw
     have ev:Rc L0 H N s (.rest ⟨2*Z.n,Z.B2,Z.few,Z.cap,fun b=>(Z.aY (b % Z.n)).filter fun a=>sd Z.n a.2.1==decide (Z.n<=b),ls⟩) (Gw.aE L G).1 {R with inn:=.cm (Gw.aE L G).2,err:=0} (m-1):=
      hc.to (R':={R with inn:=.cm (Gw.aE L G).2,err:=0}) ⟨rfl,rfl⟩ rfl (by omega) kU yE hs' (TF Z.n (by omega) Z.aY)
     have hz:=hZ.1.few
     obtain ⟨D',old',b1,b2,b3⟩:=looked (c:=c) (cst:=cst) (x:=x) (t:=t) (a:=0) ev r1 (.inl vF) (by have:=g2.xl; omega) (by omega) (by show Z.cap+0<=_; omega) (by omega) (by omega) (by show dA 6 R.worker=dA R.nx R.worker; rw [h6])
     refine bT.of (m':=m-1) (c':=c) (j:=0) es0 (by omega) (by omega) b1 b2 (fun Rn k hk hR=>?_) (fun i _=>by rw [oo]) cf
     have lZ:bZ Z.wy (Gw.aE L G).1 l old Rn k:=hR.iW (by rw [oo]) (by rw [oo]; exact Int.le_refl _) (by rw [g4])
     obtain ⟨k2,q1,q2⟩:=b3 Rn k (by rw [cf]; exact hk) (r2 Rn k lZ)
     exact ⟨k2,q1,q2⟩
   | false=>
     obtain ⟨Z',old',m1,c1,j,q1,q2,q3,q4,q5,q6,q7,q8,q9,q10,q11⟩:=hJ.oZ hZ hr cB
     rw [cB,if_neg (by simp)] at es0
     have rR:Z'.n=Z.n:=q3.1.nn
     refine bT.of (m':=m-1) (c':=c-j) (j:=j) (D':=.cm Z') (old':=old') es0 (by omega) (by omega) ⟨hc.to (R':={R with inn:=.cm (Gw.aE L G).2}) ⟨rfl,rfl⟩ hc.err (by omega) kU yE hs' (by show (bK Z'.n Z'.aY).Perm (bK Z.n Z.aY); rw [rR,q8]),
      .cm Z' (Gw.aE L G).2 ls m1 c1 cst x t d h6 rfl (by rw [rR]; exact q3) rQ bS (by rw [q9]; exact jq) (by rw [q9,rR]; exact vF) (by omega) (by omega) (by omega) ⟨aM.1,fun q=>aM.2 q (by omega)⟩ vG⟩ (ZD.iX rQ q4) (fun Rn k hk hR=>?_) q6 q7
     obtain ⟨k2,a1,a2⟩:=q5 Rn k hk (bZ.iX rQ.symm hR)
     exact ⟨k2,a1,bZ.iX rQ a2⟩
 | take Y cst x t a q _ _ _ _ _ _=>omega
 | shr Z G' ls mi ci cst x t a d e1 e2 _ _ _ _ _ _ _ _ _ _ _=>rw [hG] at e2; injection e2
 | free Y q _ _ _=>omega
theorem J.shr (h:J L0 H N s l D old L R m c) (hD:D.Ok l L) (h6:R.nx=6) {G:Sw.Sh} (hG:R.inn=.shr G) (hr:Sw.eK L G=true):bT L0 H N s l D old L R m c:=by
 obtain ⟨hc,hp⟩:=h
 have kT:=hc.pd
 have ma:=hc.nb
 have es0:bH L R=((Sw.aH L G).1,if Sw.b7 L G=true then after (Sw.aH L G).1 {R with inn:=.shr (Sw.aH L G).2} (Sw.aH L G).2.err else {R with inn:=.shr (Sw.aH L G).2}):=by
  unfold bH
  rw [if_neg (by omega),if_neg (by omega),if_neg (by omega),if_neg (by omega),if_pos h6,hG]
 have mZ:=Sw.TH L G
 have hs':∀ i,1<=i->i<=5->Lo.aF (Sw.aH L G).1.hs i=dA R.nx R.worker i:=fun i a b=>by rw [Ji mZ i (by omega)]; exact hc.hs i a b
 have yE:(Sw.aH L G).1.hs.length=6:=mZ.hl.trans hc.hl
 have kU:=hc.kp.of mZ
 cases hp with
 | shr Z G' ls mi ci cst x t a d e1 e2 hJ eT bS jq cB hm Bd jc hx hd vG=>
   rw [hG] at e2
   injection e2 with e2
   subst e2
   have hZ:Sw.JD l Z L:=hD
   have Xl:=hJ.C0 hZ
   have aM:=Sw.TI L G d hd
   have fC:=hJ.2.nx
   have E9:=hJ.2.pos
   cases Bi:Sw.b7 L G with
   | true=>
     obtain ⟨g1,g2,g3,g4,_⟩:=hJ.cK hZ Bi
     obtain ⟨r1,r2⟩:=TA (old:=old) (old':=old) (l:=l) g1 g2 g3 eT bS jq
     have oo:(Sw.aH L G).1.xs=L.xs:=by rw [g4]
     have cf:(Sw.aH L G).1.k=L.k:=by rw [g4]
     rw [Bi,if_pos rfl] at es0
     unfold after at es0
     rw [g2.err,if_pos rfl] at es0
     have ev:Rc L0 H N s (.rest ⟨Z.n,Z.B2,Z.few,Z.cap,Z.two,flat Z.n Z.two⟩) (Sw.aH L G).1 {R with inn:=.shr (Sw.aH L G).2,err:=0} (m-1):=
      hc.to (R':={R with inn:=.shr (Sw.aH L G).2,err:=0}) ⟨rfl,rfl⟩ rfl (by omega) kU yE hs' (TG Z.n Z.C)
     obtain ⟨D',old',b1,b2,b3⟩:=looked (c:=c) (cst:=cst) (x:=x) (t:=t) (a:=a) ev r1 (.inr cB) (by have:=g2.xl; omega) (by omega) (by show Z.cap+a<=_; omega) (by omega) (by omega) (by show dA 6 R.worker=dA R.nx R.worker; rw [h6])
     refine bT.of (m':=m-1) (c':=c) (j:=0) es0 (by omega) (by omega) b1 b2 (fun Rn k hk hR=>?_) (fun i _=>by rw [oo]) cf
     have lZ:bZ Z.wy (Sw.aH L G).1 l old Rn k:=hR.iW (by rw [oo]) (by rw [oo]; exact Int.le_refl _) (by rw [g4])
     obtain ⟨k2,q1,q2⟩:=b3 Rn k (by rw [cf]; exact hk) (r2 Rn k lZ)
     exact ⟨k2,q1,q2⟩
   | false=>
     obtain ⟨Z',old',m1,c1,j,q1,q2,q3,q4,q5,q6,q7,q8,q9,q10,q11⟩:=hJ.oZ hZ hr Bi
     rw [Bi,if_neg (by simp)] at es0
     have rR:Z'.n=Z.n:=q3.1.nn
     exact bT.of (m':=m-1) (c':=c-j) (j:=j) (D':=.shr Z') (old':=old') es0 (by omega) (by omega) ⟨hc.to (R':={R with inn:=.shr (Sw.aH L G).2}) ⟨rfl,rfl⟩ hc.err (by omega) kU yE hs' (by show (bK (2*Z'.n) Z'.C).Perm (bK (2*Z.n) Z.C); rw [rR,q9]),
      .shr Z' (Sw.aH L G).2 ls m1 c1 cst x t a d h6 rfl (by rw [rR]; exact q3) (by rw [rR,q9]; exact eT) bS (by rw [q8]; exact jq) (by rw [q8,rR]; exact cB) (by omega) (by omega) (by omega) (by omega) ⟨aM.1,fun q=>aM.2 q (by omega)⟩ vG⟩ q4 q5 q6 q7
 | take Y cst x t a q _ _ _ _ _ _=>omega
 | cm Z G' ls mi ci cst x t d e1 e2 _ _ _ _ _ _ _ _ _ _=>rw [hG] at e2; injection e2
 | free Y q _ _ _=>omega
theorem J.oZ (h:J L0 H N s l D old L R m c) (hD:D.Ok l L) (hr:gD L R=true) (hd:eJ L R=false):bT L0 H N s l D old L R m c:=by
 have bS:¬(R.nx=0\/11<=R.nx):=of_decide_eq_false hd
 by_cases h1:R.nx<=5
 ·exact h.take hD ⟨by omega,h1⟩
 by_cases h6:R.nx=6
 ·unfold gD at hr
  rw [if_neg (by omega),if_pos h6] at hr
  have hh:=h
  cases h.2 with
  | cm Z G ls mi ci cst x t d e1 e2 _ _ _ _ _ _ _ _ _ _=>
    rw [e2] at hr
    exact hh.cm hD h6 e2 hr
  | shr Z G ls mi ci cst x t a d e1 e2 _ _ _ _ _ _ _ _ _ _ _=>
    rw [e2] at hr
    exact hh.shr hD h6 e2 hr
  | take Y cst x t a q _ _ _ _ _ _=>omega
  | free Y q _ _ _=>omega
 ·exact h.free hD ⟨by omega,by omega⟩
theorem J.wait (h:J L0 H N s l D old L R m c) (hr:gD L R=false):∃ i:Nat,(i:Int)<L.k/\Cl.nth L.xs (2+i)≠0:=by
 obtain ⟨hc,hp⟩:=h
 have iB:=hc.wk
 unfold gD at hr
 cases hp with
 | take Y cst x t a q _ _ _ _ _ _=>
   exfalso
   rw [if_pos q] at hr
   have hr:=of_decide_eq_false hr
   refine hr ⟨iB.1,?_⟩
   have b9:1<=j8 R.nx/\j8 R.nx<=5:=by unfold j8; split<;>omega
   rw [hc.hs _ b9.1 b9.2]
   unfold dA j8
   by_cases q1:R.nx=1
   ·rw [if_pos q1,if_pos rfl,if_neg (by omega)]
   ·rw [if_neg q1,if_neg (by omega),if_neg (by omega)]
 | cm Z G ls mi ci cst x t d e1 e2 hJ _ _ _ _ _ _ _ _ _=>
   rw [if_neg (by omega),if_pos e1,e2] at hr
   exact hJ.wait hr
 | shr Z G ls mi ci cst x t a d e1 e2 hJ _ _ _ _ _ _ _ _ _ _=>
   rw [if_neg (by omega),if_pos e1,e2] at hr
   exact hJ.wait hr
 | free Y q _ _ _=>
   rw [if_neg (by omega),if_neg (by omega)] at hr
   simp at hr
end
/-! ### beside two who get keys-/
def Qr (L0:Lm) (H:List Nat) (N:np) (s:Nat) (l:List Pr) (L:Lm) (R:Rz):Prop:=∃ Y,Bs.Rest l Y L/\Y.n=s/\R.err=0/\(∀ i,i<=5->Lo.aF L.hs i= -1)/\L.hs.length=6/\Kp L0 L/\(bK Y.n Y.cs).Perm H/\Cl.nth L.xs 0<=N.P/\L.xs.length<=N.X/\L.ds.length<=N.D
/-! ### alone-/
def Lone (L0:Lm) (H:List Nat) (N:np) (s:Nat) (l:List Pr) (k:Nat) (S:Lm×Rz):Prop:=∃ D old m c,m<=k/\D.Ok l S.1/\J L0 H N s l D old S.1 S.2 m c/\∀ i:Nat,(i:Int)<S.1.k->Cl.nth S.1.xs (2+i)=0
theorem Lone.step {L0:Lm} {H:List Nat} {N:np} {s:Nat} {l:List Pr} {k:Nat} {S:Lm×Rz} (h:Lone L0 H N s l k S):oO S.1 S.2/\gD S.1 S.2=true/\1<=k/\(eJ S.1 S.2=true->Qr L0 H N s l (bH S.1 S.2).1 (bH S.1 S.2).2/\∀ i:Nat,(i:Int)<(bH S.1 S.2).1.k->Cl.nth (bH S.1 S.2).1.xs (2+i)=0)/\(eJ S.1 S.2=false->Lone L0 H N s l (k-1) (bH S.1 S.2)):=by
 obtain ⟨D,old,m,c,hm,hD,hJ,h0⟩:=h
 have hr:gD S.1 S.2=true:=by
  cases hr:gD S.1 S.2 with
  | true=>rfl
  | false=>
    obtain ⟨i,a,b⟩:=hJ.wait hr
    exact absurd (h0 i a) b
 have hp:=hJ.pos
 refine ⟨hJ.ok hD,hr,by omega,fun hd=>?_,fun hd=>?_⟩
 ·obtain ⟨Y,_,q1,q2,q3,q9,q4,q5,q6,q7,q8⟩:=hJ.cK hD hd
  refine ⟨⟨Y,q1,q2,q3,q4,q5,q6,q7,q8⟩,fun i hi=>?_⟩
  rw [q9] at hi ⊢
  exact h0 i hi
 ·obtain ⟨D',old',m',c',j,q1,q2,q3,q4,q5,q6,q7⟩:=hJ.oZ hD hr hd
  exact ⟨D',old',m',c',by omega,q4,q3,fun i hi=>by rw [q7] at hi; rw [q6 i hi]; exact h0 i hi⟩
end Go.Proofs.YtpanebgakndddaaGreat.Zr
namespace Go.Proofs.YtpanebgakndddaaGreat.Zr
open Go Hm Ar Mm Wk Pc Me Mq Pu Pn Gt Qs Zp Mx cJ Bs
def bX (k z:Int):Rz:=⟨k,z,if FM.bl z=true then 1 else 0,0,.none⟩
end Go.Proofs.YtpanebgakndddaaGreat.Zr
namespace Go.Proofs.YtpanebgakndddaaGreat.Ca
open Go Hm Ar Mm Wk Pc Me Mq Pu Pn Gt Qs Zp Mx cJ Bs Dl Zr
inductive Fr
 | ref
 | get (G:Gt.Ge)
 | put (P:Pu.Pt)
 | del (D:Dl.Dt)
 | rz (R:Zr.Rz)
structure Cl where
 fr:Fr
 err:Int
 done:Bool
structure Ct where
 kind:Int
 key:ByteArray
 val:ByteArray
 size:Int
def cU (c:Ct):Int:=if c.kind<0\/3<c.kind then 1 else if c.kind<3/\(c.key.size<1\/32<c.key.size\/(c.kind=1/\32<c.val.size)) then 10 else 0
def bJ (L:Lm) (C:Cl):Lm×Cl:=match C.fr with
 | .ref=>(L,⟨.ref,C.err,true⟩)
 | .get G=>((Gt.lQ L G).1,⟨.get (Gt.lQ L G).2,C.err,Gt.eI G⟩)
 | .put P=>((Pu.cN L P).1,⟨.put (Pu.cN L P).2,C.err,Pu.jD L P⟩)
 | .del D=>((Dl.dK L D).1,⟨.del (Dl.dK L D).2,C.err,Dl.ja L D⟩)
 | .rz R=>((Zr.bH L R).1,⟨.rz (Zr.bH L R).2,C.err,Zr.eJ L R⟩)
def ij (L:Lm) (C:Cl):Bool:=match C.fr with
 | .ref=>true
 | .get _=>true
 | .put P=>Pu.qM L P
 | .del D=>Dl.nR L D
 | .rz R=>Zr.gD L R
def dI (L:Lm) (C:Cl):Bool:=match C.fr with
 | .ref=>true
 | .get G=>Gt.eI G
 | .put P=>Pu.jD L P
 | .del D=>Dl.ja L D
 | .rz R=>Zr.eJ L R
def jC (L:Lm) (C:Cl):Prop:=match C.fr with
 | .ref=>True
 | .get G=>Gt.mD 1 L.ds L.ss L.xs G
 | .put P=>Pu.vW L P
 | .del D=>Dl.vY L D
 | .rz R=>Zr.oO L R
def da (C:Cl):Int×Bool×ByteArray:=if C.done=true then (match C.fr with
 | .ref=>(C.err,false,⟨#[]⟩)
 | .get G=>(0,decide (G.W.found≠0),G.W.nd.val)
 | .put P=>if P.err=0 then (0,decide (P.W.found≠0),⟨#[]⟩) else (P.err,false,⟨#[]⟩)
 | .del D=>(0,decide (D.W.found≠0),D.W.nd.val)
 | .rz R=>(R.err,false,⟨#[]⟩)) else (0,false,⟨#[]⟩)
def bU (C:Cl):Nat:=match C.fr with
 | .put P=>P.bU
 | .del D=>D.bU
 | _=>0
def iV (i:Nat) (c:Ct) (C:Cl):Prop:=C.done=false/\C.err=cU c/\(cU c≠0->C.fr=.ref)/\
 (cU c=0->(c.kind=0->C.fr=.get (Gt.nc i c.key))/\(c.kind=1->∃ h,C.fr=.put (Pu.jU h i c.key c.val))/\(c.kind=2->∃ h,C.fr=.del (Dl.kD h i c.key))/\(c.kind=3->C.fr=.rz (Zr.bX i c.size)))
def dg (l:List Pr) (c:Ct):Int×Bool×ByteArray:=
 if cU c≠0 then (cU c,false,⟨#[]⟩) else if c.kind=0 then (0,(Pc.lk l c.key).isSome,(Pc.lk l c.key).getD ⟨#[]⟩) else if c.kind=1 then (0,(Pc.lk l c.key).isSome,⟨#[]⟩)
 else if c.kind=2 then (0,(Pc.lk l c.key).isSome,(Pc.lk l c.key).getD ⟨#[]⟩) else if FM.bl c.size=true then (0,false,⟨#[]⟩) else (5,false,⟨#[]⟩)
def dz (l l':List Pr) (c:Ct):Prop:=
 if cU c=0/\c.kind=1 then l'.Perm ((c.key,c.val)::l.filter fun p=>decide (p.1≠c.key)) else if cU c=0/\c.kind=2 then l'.Perm (l.filter fun p=>decide (p.1≠c.key)) else l'=l
theorem GA {R:Nat->Lm×Pu.Pt->Prop} {Q:Lm×Pu.Pt->Prop} (hR:∀ k s,R k s->Pu.vW s.1 s.2/\Pu.qM s.1 s.2=true/\1<=k/\(Pu.jD s.1 s.2=true->Q (Pu.cN s.1 s.2))/\(Pu.jD s.1 s.2=false->R (k-1) (Pu.cN s.1 s.2))) (e:Int):
 ∀ k (s:Lm×Cl),(∃ P d,s.2=⟨.put P,e,d⟩/\R k (s.1,P))->jC s.1 s.2/\ij s.1 s.2=true/\1<=k/\(dI s.1 s.2=true->∃ P,(bJ s.1 s.2).2=⟨.put P,e,true⟩/\Q ((bJ s.1 s.2).1,P))/\(dI s.1 s.2=false->∃ P d,(bJ s.1 s.2).2=⟨.put P,e,d⟩/\R (k-1) ((bJ s.1 s.2).1,P)):=by
 rintro k ⟨L,C⟩ ⟨P,d,rfl,hr⟩
 obtain ⟨h1,h2,h3,h4,h5⟩:=hR k _ hr
 exact ⟨h1,h2,h3,fun hd=>⟨(Pu.cN L P).2,by show (⟨.put (Pu.cN L P).2,e,Pu.jD L P⟩:Cl)=_; rw [show Pu.jD L P=true from hd],h4 hd⟩,fun hd=>⟨_,_,rfl,h5 hd⟩⟩
theorem GB {R:Nat->Lm×Dl.Dt->Prop} {Q:Lm×Dl.Dt->Prop} (hR:∀ k s,R k s->Dl.vY s.1 s.2/\Dl.nR s.1 s.2=true/\1<=k/\(Dl.ja s.1 s.2=true->Q (Dl.dK s.1 s.2))/\(Dl.ja s.1 s.2=false->R (k-1) (Dl.dK s.1 s.2))) (e:Int):
 ∀ k (s:Lm×Cl),(∃ P d,s.2=⟨.del P,e,d⟩/\R k (s.1,P))->jC s.1 s.2/\ij s.1 s.2=true/\1<=k/\(dI s.1 s.2=true->∃ P,(bJ s.1 s.2).2=⟨.del P,e,true⟩/\Q ((bJ s.1 s.2).1,P))/\(dI s.1 s.2=false->∃ P d,(bJ s.1 s.2).2=⟨.del P,e,d⟩/\R (k-1) ((bJ s.1 s.2).1,P)):=by
 rintro k ⟨L,C⟩ ⟨P,d,rfl,hr⟩
 obtain ⟨h1,h2,h3,h4,h5⟩:=hR k _ hr
 exact ⟨h1,h2,h3,fun hd=>⟨(Dl.dK L P).2,by show (⟨.del (Dl.dK L P).2,e,Dl.ja L P⟩:Cl)=_; rw [show Dl.ja L P=true from hd],h4 hd⟩,fun hd=>⟨_,_,rfl,h5 hd⟩⟩
theorem GC {R:Nat->Lm×Gt.Ge->Prop} {Q:Lm×Gt.Ge->Prop} (hR:∀ k s,R k s->Gt.mD 1 s.1.ds s.1.ss s.1.xs s.2/\1<=k/\(Gt.eI s.2=true->Q (Gt.lQ s.1 s.2))/\(Gt.eI s.2=false->R (k-1) (Gt.lQ s.1 s.2))) (e:Int):
 ∀ k (s:Lm×Cl),(∃ P d,s.2=⟨.get P,e,d⟩/\R k (s.1,P))->jC s.1 s.2/\ij s.1 s.2=true/\1<=k/\(dI s.1 s.2=true->∃ P,(bJ s.1 s.2).2=⟨.get P,e,true⟩/\Q ((bJ s.1 s.2).1,P))/\(dI s.1 s.2=false->∃ P d,(bJ s.1 s.2).2=⟨.get P,e,d⟩/\R (k-1) ((bJ s.1 s.2).1,P)):=by
 rintro k ⟨L,C⟩ ⟨P,d,rfl,hr⟩
 obtain ⟨h1,h3,h4,h5⟩:=hR k _ hr
 exact ⟨h1,rfl,h3,fun hd=>⟨(Gt.lQ L P).2,by show (⟨.get (Gt.lQ L P).2,e,Gt.eI P⟩:Cl)=_; rw [show Gt.eI P=true from hd],h4 hd⟩,fun hd=>⟨_,_,rfl,h5 hd⟩⟩
theorem yX {R:Nat->Lm×Zr.Rz->Prop} {Q:Lm×Zr.Rz->Prop} (hR:∀ k s,R k s->Zr.oO s.1 s.2/\Zr.gD s.1 s.2=true/\1<=k/\(Zr.eJ s.1 s.2=true->Q (Zr.bH s.1 s.2))/\(Zr.eJ s.1 s.2=false->R (k-1) (Zr.bH s.1 s.2))) (e:Int):
 ∀ k (s:Lm×Cl),(∃ P d,s.2=⟨.rz P,e,d⟩/\R k (s.1,P))->jC s.1 s.2/\ij s.1 s.2=true/\1<=k/\(dI s.1 s.2=true->∃ P,(bJ s.1 s.2).2=⟨.rz P,e,true⟩/\Q ((bJ s.1 s.2).1,P))/\(dI s.1 s.2=false->∃ P d,(bJ s.1 s.2).2=⟨.rz P,e,d⟩/\R (k-1) ((bJ s.1 s.2).1,P)):=by
 rintro k ⟨L,C⟩ ⟨P,d,rfl,hr⟩
 obtain ⟨h1,h2,h3,h4,h5⟩:=hR k _ hr
 exact ⟨h1,h2,h3,fun hd=>⟨(Zr.bH L P).2,by show (⟨.rz (Zr.bH L P).2,e,Zr.eJ L P⟩:Cl)=_; rw [show Zr.eJ L P=true from hd],h4 hd⟩,fun hd=>⟨_,_,rfl,h5 hd⟩⟩
end Go.Proofs.YtpanebgakndddaaGreat.Ca
namespace Go.Proofs.YtpanebgakndddaaGreat.Zr
open Go Hm Ar Mm Wk Pc Me Mq Pu Pn Gt Qs Zp Mx cJ Bs Re
theorem TJ (n:Nat) (cs:Nat->List Mq.Hp):gr n cs=bK n cs:=rfl
section
variable {L L0:Lm} {n B:Nat} {cs:Nat->List Mq.Hp} {l:List Pr} {G:Nat}
def pG (n B cap:Nat) (cs:Nat->List Mq.Hp):Rs:=⟨n,B,(flat n cs).length,cap,cs,flat n cs⟩
theorem Mp.mx (h:Mp L n B cs l G):(flat n cs).length=l.length:=by
 rw [Bs.mx,h.len]
 rfl
theorem Mp.TK (h:Mp L n B cs l G) {b:Nat} (hb:b<n) {a:Mq.Hp} (ha:a∈cs b):ai a.2.1 n=b:=by
 have h1:=h.bk b hb a ha
 have h2:=(dJ h.pw a.2.1).2
 rw [h2] at h1
 exact Int.ofNat.inj h1
theorem GF (h:Mp L n B cs l G) (hG:G<=1000000) (p1:1<=Cl.nth L.xs 0) (hl:l.length<=35) (l8:L.xs.length<=1048576) {cap:Nat} (jc:l.length<=cap/\cap<=1000000):Bs.Rest l (pG n B cap cs) L:=by
 have hr:=h.wr.room
 have xG:=Zr.Mp.mx h
 have vq:=Gj h.pw h.now h.tabs h.tb h.k h.kB h.xl l8 h.xb h.db hr h.F p1 h.ch (fun b hb a ha=>Zr.Mp.TK h hb ha) h.kd (by have:=h.len; rw [TJ] at this; omega)
 refine ⟨vq,fun key=>?_,⟨rfl,by show (flat n cs).length<=35; omega⟩,⟨by show (flat n cs).length<=cap; omega,jc.2⟩,⟨by rw [h.hs]; rfl,by rw [h.hs]; simp⟩,fun b hb a ha=>?_⟩
 ·show Pc.lk (flat n cs) key=_
  rw [vq.lk key]
  exact (h.lk key).symm
 ·obtain ⟨k,z,h1,_⟩:=(h.ch b hb).at a ha
  have hg:=h.wr.wZ k
  have h3:=h1.2.2
  have h4:=h1.1
  have hk:k<L.ss.length:=h4
  have qh:a.1=(aj L.ss k).gen*65536+k+1:=h3
  omega
theorem GH {Y:Rs} (h0:Mp L0 n B cs l G) (h:Bs.Rest l Y L) (hp:(bK Y.n Y.cs).Perm (bK n cs)) (hk:Kp L0 L) (hz:∀ i:Nat,(i:Int)<L.k->Cl.nth L.xs (2+i)=0) (hl:L.hs.length=6) (hh:∀ i,i<=5->Lo.aF L.hs i= -1):Mp L Y.n Y.B Y.cs l G:=by
 have hb:=h.base
 have hw:Wr L.ss L.ws (gr n cs) G:=by
  rw [hk.ws]
  exact h0.wr.nodes hk.ss hk.tk
 refine ⟨hb.pw,hb.now,hb.tabs,hb.tb,hb.k,hb.kB,hb.xl,hb.xb,hb.db,hb.cx,fun b tx e he=>?_,fun b tx=>?_,hw.perm (List.Perm.append_left _ hp),h0.ln,fun key=>?_,?_,hz,?_,by rw [hk.F]; exact h0.F⟩
 ·rw [(dJ hb.pw e.2.1).2,hb.bk tx e he]
 ·have h3:dQ (Y.cs b)=(bs (Y.cs b)).map (·.1):=by simp [bs]
  rw [h3,hb.own b tx]
  exact (List.filter_sublist.map _).nodup hb.keys
 ·rw [<-h.iX key]
  exact hb.lk key
 ·rw [h0.len]
  exact hp.length_eq.symm
 ·refine List.ext_getElem (by simp [hl]) fun i h1 h2=>?_
  have:=hh i (by omega)
  unfold Lo.aF at this
  simp only [List.getD_eq_getElem?_getD,List.getElem?_eq_getElem h1,Option.getD_some] at this
  rw [this]
  rcases i with _ | _ | _ | _ | _ | _ | i<;>first | rfl | exact absurd h1 (by omega)
end
end Go.Proofs.YtpanebgakndddaaGreat.Zr
namespace Go.Proofs.YtpanebgakndddaaGreat.Zr
open Go Go.RowKit Hp K Fl Rw Hm Ar Mm Wk Pc Me Mq Pu Pn Gt Qs Zp Mx cJ Bs
set_option maxRecDepth 100000
structure Ra where
 f:Nat
 tv:Value
 ga:Gw.Gl
 sa:Sw.Sc
def iw (nx:Nat):Nat:=if nx=0 then 0 else if nx<=5 then nx-1 else if nx=6 then 5 else 12-nx
def kI (f nx:Nat) (tv:Value):Value:=if 1<=nx/\nx<=5 then aU 77 (ptr f) else if nx=6 then .func (.method "Ready") #[tv] #[] else dY 79
def kJ (f nx:Nat):Value:=if nx=0 then aU 80 (ptr f) else if nx<=5 then aU 78 (ptr f) else if nx=6 then aU 169 (ptr f) else if nx<=11 then aU 137 (ptr f) else dY 138
def Dv (k z:Int) (u2 u3:Value) (e:Int) (h:Nat) (tv:Value):Array Value:=#[.int .i64 k,.int .i64 z,u2,u3,.int .i64 e,.int .i64 h,tv]
def Dw (a:Ra) (R:Rz):Array Value:=Dv R.worker R.size (kI a.f R.nx a.tv) (kJ a.f R.nx) R.err (iw R.nx) a.tv
abbrev Rb (w:World) (f:Nat) (k z:Int) (u2 u3:Value) (e:Int) (h:Nat) (tv:Value):Prop:=af w f 162 (Dv k z u2 u3 e h tv)
structure ft (w:World) (a:Ra) (R:Rz):Prop where
 ao:af w a.f 162 (Dw a R)
 cm:∀ G,R.nx=6->R.inn=.cm G->a.tv=.iface 167 (ptr a.ga.f)/\Gw.bY w a.ga G
 shr:∀ G,R.nx=6->R.inn=.shr G->a.tv=.iface 169 (ptr a.sa.f)/\Sw.cO w a.sa G
def fu (a:Ra) (R:Rz) (x:Nat):Prop:=x=a.f\/(∃ G,R.nx=6/\R.inn=.cm G/\Gw.bC a.ga G x)\/∃ G,R.nx=6/\R.inn=.shr G/\Sw.dq a.sa G x
abbrev dp:iG Ra Rz:=⟨Ra.f,ft,fu⟩
section
variable {w w':World} {M:Mo} {a:Ra} {R:Rz} {f h:Nat} {k z e:Int} {u2 u3 tv:Value}
theorem Ce (h:dp.At w a R) {x:Nat} (hx:dp.aQ a R x):x<w.heap.size:=by
 rcases hx with rfl | ⟨G,q1,q2,q3⟩ | ⟨G,q1,q2,q3⟩
 ·exact h.ao.lt
 ·exact (h.cm G q1 q2).2.lt q3
 ·exact (h.shr G q1 q2).2.lt q3
theorem Hn (h:dp.At w a R) (hM:ah w M) {x:Nat} (hx:dp.aQ a R x):¬aq M x:=by
 rcases hx with rfl | ⟨G,q1,q2,q3⟩ | ⟨G,q1,q2,q3⟩
 ·exact fun hm=>(hM.ty hm).apart (bm h.ao) (by decide)
 ·exact (h.cm G q1 q2).2.aB hM q3
 ·exact (h.shr G q1 q2).2.aB hM q3
theorem we {S:Nat->Prop} (h:dp.At w a R) (ho:ab S w w') (hn:∀ x,dp.aQ a R x->¬S x):dp.At w' a R where
 ao:=h.ao.only ho (hn _ (.inl rfl))
 cm G q1 q2:=⟨(h.cm G q1 q2).1,(h.cm G q1 q2).2.only ho (fun x hx=>hn x (.inr (.inl ⟨G,q1,q2,hx⟩)))⟩
 shr G q1 q2:=⟨(h.shr G q1 q2).1,(h.shr G q1 q2).2.only ho (fun x hx=>hn x (.inr (.inr ⟨G,q1,q2,hx⟩)))⟩
theorem Gy (h:dp.At w a R) (hb:Below w.heap.size w w'):dp.At w' a R:=we h (ab.aA hb (fun _=>False)) (by simp)
theorem ft.plain (h:af w a.f 162 (Dw a R)) (hn:R.nx≠6):ft w a R:=⟨h,fun _ q=>absurd q hn,fun _ q=>absurd q hn⟩
theorem uH (hn:R.nx≠6) {x:Nat} (hx:fu a R x):x=a.f:=by
 rcases hx with q | ⟨_,q,_⟩ | ⟨_,q,_⟩
 ·exact q
 ·exact absurd q hn
 ·exact absurd q hn
theorem dU (hb:Rb w f k z u2 u3 e h tv):w.cell? ⟨f,0,none⟩=some (.int .i64 k)/\w.cell? ⟨f,1,none⟩=some (.int .i64 z)/\w.cell? ⟨f,2,none⟩=some u2/\w.cell? ⟨f,3,none⟩=some u3/\w.cell? ⟨f,4,none⟩=some (.int .i64 e)/\w.cell? ⟨f,5,none⟩=some (.int .i64 h)/\w.cell? ⟨f,6,none⟩=some tv:=
 ⟨hb.cell 0,hb.cell 1,hb.cell 2,hb.cell 3,hb.cell 4,hb.cell 5,hb.cell 6⟩
theorem pX {h:Nat} (hb:Rb w f k z u2 u3 e h tv) (hM:ah w M):¬aq M f:=fun hm=>(hM.ty hm).apart (bm hb) (by decide)
theorem TL (n:Int) (w:World):Calls Tryz.prog 68 #[.int .i64 n] w fun e w'=>e=.returned (.bool (FM.bl n))/\w'=w:=by
 by_cases h1:n<=9223372036854775807
 ·by_cases h0: -9223372036854775808<=n
  ·exact lO.qI n w h0 h1
  ·have hp:FM.bl n=false:=by
    cases h:FM.bl n with
    | false=>rfl
    | true=>have:=FM.eG h; omega
   have a:¬1<=n:=by omega
   rw [hp]
   clear h0 h1
   go_enter Tryz.func68,Tryz.ntmps68
   go_wp2
   go_ret
   exact ⟨rfl,rfl⟩
 ·have hp:FM.bl n=false:=by
   cases h:FM.bl n with
   | false=>rfl
   | true=>have:=FM.eG h; omega
  have a:1<=n:=by omega
  have b:¬n<=65536:=by omega
  rw [hp]
  clear h1
  go_enter Tryz.func68,Tryz.ntmps68
  go_wp2
  go_ret
  exact ⟨rfl,rfl⟩
theorem sC (m:Value) (w:World):Calls Tryz.prog 79 #[m] w fun e w'=>e=.returned (.bool true)/\w'=w:=by
 go_enter Tryz.func79,Tryz.ntmps79
 go_wp2
 go_ret
 exact ⟨rfl,rfl⟩
theorem et {F1 F2:Fn} {b1 b2:Array Value} {h:Nat} (hb:Rb w f k z u2 u3 e h tv):
 Calls Tryz.prog 76 #[ptr f,.func F1 b1 #[],.func F2 b2 #[]] w fun x w'=>x=.returned (.tuple #[])/\Rb w' f k z (.func F1 b1 #[]) (.func F2 b2 #[]) e h tv/\ab (·=f) w w':=by
 have c2:=hb.cell 2
 have c3:=hb.cell 3
 have z2:=hb.frozen 2
 have z3:=hb.frozen 3
 simp only [Dv,List.getElem?_toArray,List.getElem?_cons_succ,List.getElem?_cons_zero] at c2 c3
 have hE:Hid (Rb ((w.setCell ⟨f,2,none⟩ (.func F1 b1 #[])).setCell ⟨f,3,none⟩ (.func F2 b2 #[])) f k z (.func F1 b1 #[]) (.func F2 b2 #[]) e h tv):=Lib.hid ((hb.store 2 _).store 3 _)
 have hO:Hid (ab (·=f) w ((w.setCell ⟨f,2,none⟩ (.func F1 b1 #[])).setCell ⟨f,3,none⟩ (.func F2 b2 #[]))):=Lib.hid (((ab.refl (·=f) w).setCell (p:=⟨f,2,none⟩) (.inl rfl) _).setCell (p:=⟨f,3,none⟩) (.inl rfl) _)
 clear hb
 go_enter Tryz.func76,Tryz.ntmps76
 go_wp2
 go_end0
 exact ⟨rfl,hE.out,hO.out⟩
theorem nY {h:Nat} (hb:Rb w f k z u2 u3 e h tv):
 Calls Tryz.prog 105 #[ptr f] w fun x w'=>x=.returned (.bool true)/\Rb w' f k z (dY 79) (dY 138) e h tv/\ab (·=f) w w':=by
 have hG:=Lib.hid (et (F1:=.func 79) (F2:=.func 138) (b1:=#[]) (b2:=#[]) hb)
 clear hb
 go_enter Tryz.func105,Tryz.ntmps105
 go_wp2_with fail
 refine hG.out.mono ?_
 rintro e w' ⟨rfl,hB,hO⟩
 replace hB:=Lib.hid hB
 replace hO:=Lib.hid hO
 clear hG
 go_wp2_with fail
 go_ret
 exact ⟨rfl,hB.out,hO.out⟩
theorem GU (k z:Int) (w:World):Calls Tryz.prog 59 #[.int .i64 k,.int .i64 z] w fun e w'=>∃ a:Ra,e=.returned (ptr (dp.f a))/\dp.At w' a (bX k z)/\(∀ x,dp.aQ a (bX k z) x->w.heap.size<=x)/\Below w.heap.size w w':=by
 obtain ⟨w2,aT⟩:∃ w2,w2=w.alloc (.cells #[.int .i64 k,.int .i64 z,.nilFunc,.nilFunc,.int .i64 0,.int .i64 0,.nilIface] 162):=⟨_,rfl⟩
 have aP:Rb w2 w.heap.size k z .nilFunc .nilFunc 0 0 .nilIface:=by rw [aT]; exact af.made w _ _
 have ag:Below w.heap.size w w2:=by rw [aT]; exact (Below.refl _ _).alloc (Nat.le_refl _) _
 obtain ⟨f,hf⟩:∃ f,f=w.heap.size:=⟨_,rfl⟩
 rw [<-hf] at aP
 have gZ:w.heap.size<=f:=by omega
 have hP:=Lib.hid (TL z)
 have au:∀ w1,ab (·=f) w2 w1->Below w.heap.size w w1:=fun w1 hO=>ag.trans (hO.toBelow ag.size (fun x hx q=>by omega))
 replace au:=Lib.hid au
 cases hp:FM.bl z with
 | true=>
   have ku:=Lib.hid (et (F1:=.func 77) (F2:=.func 78) (b1:=#[ptr f]) (b2:=#[ptr f]) aP)
   have hn:bX k z=⟨k,z,1,0,.none⟩:=by unfold bX; rw [hp]; rfl
   rw [hn]
   rw [hp] at hP
   clear aP ag hn hp
   go_enter Tryz.func59,Tryz.ntmps59
   go_upto_region 2 with (fail)
   rw [<-aT,<-hf]
   clear aT hf
   go_wp2_with fail
   refine (hP.out _).mono ?_
   rintro e w' ⟨rfl,rfl⟩
   clear hP
   go_wp2_with fail
   refine ku.out.mono ?_
   rintro e w1 ⟨rfl,hB,hO⟩
   have hE:Hid (ft w1 ⟨f,.nilIface,⟨0,.nilIface,.nilIface,0,0,none,0,0,none,0,[],none,0,[]⟩,⟨0,.nilIface,0,0⟩⟩ ⟨k,z,1,0,.none⟩):=Lib.hid (ft.plain hB (by simp))
   have Fa:=Lib.hid (au.out _ hO)
   clear ku hB hO au
   go_wp2_with fail
   go_ret
   exact ⟨_,rfl,hE.out,fun x hx=>by rw [uH (by simp) hx]; exact gZ,Fa.out⟩
 | false=>
   have ku:=Lib.hid (et (F1:=.func 79) (F2:=.func 80) (b1:=#[]) (b2:=#[ptr f]) aP)
   have hn:bX k z=⟨k,z,0,0,.none⟩:=by unfold bX; rw [hp]; rfl
   rw [hn]
   rw [hp] at hP
   clear aP ag hn hp
   go_enter Tryz.func59,Tryz.ntmps59
   go_upto_region 2 with (fail)
   rw [<-aT,<-hf]
   clear aT hf
   go_wp2_with fail
   refine (hP.out _).mono ?_
   rintro e w' ⟨rfl,rfl⟩
   clear hP
   go_wp2_with fail
   refine ku.out.mono ?_
   rintro e w1 ⟨rfl,hB,hO⟩
   have hE:Hid (ft w1 ⟨f,.nilIface,⟨0,.nilIface,.nilIface,0,0,none,0,0,none,0,[],none,0,[]⟩,⟨0,.nilIface,0,0⟩⟩ ⟨k,z,0,0,.none⟩):=Lib.hid (ft.plain hB (by simp))
   have Fa:=Lib.hid (au.out _ hO)
   clear ku hB hO au
   go_wp2_with fail
   go_ret
   exact ⟨_,rfl,hE.out,fun x hx=>by rw [uH (by simp) hx]; exact gZ,Fa.out⟩
theorem BO (h:dp.At w a R):Calls Tryz.prog 63 #[ptr (dp.f a)] w fun e w'=>e=.returned (.int .i64 R.err)/\w'=w:=by
 have c4:=(dU h.ao).2.2.2.2.1
 show Calls _ _ #[ptr a.f] _ _
 clear h
 go_enter Tryz.func63,Tryz.ntmps63
 go_wp2_with fail
 go_ret
 exact ⟨rfl,rfl⟩
theorem mJ {F:Nat} {cv m:Value} {c:Bool} {P:World->Prop} (c3:w.cell? ⟨f,3,none⟩=some (aU F cv)) (eF:∀ args w,(callFunc F args).run Tryz.prog w=.ok (.enter F args) w)
 (hF:Calls Tryz.prog F #[cv,m] w fun e w'=>e=.returned (.bool c)/\P w'):Calls Tryz.prog 271 #[ptr f,m] w fun e w'=>e=.returned (.bool c)/\P w':=by
 replace hF:=Lib.hid hF
 go_enter Tryz.func271,Tryz.ntmps271
 go_wp2_with fail
 refine hF.out.mono ?_
 rintro e w' ⟨rfl,bq⟩
 replace bq:=Lib.hid bq
 clear c3
 go_wp2_with fail
 go_ret
 exact ⟨rfl,bq.out⟩
theorem Dx {m:Value} (c2:w.cell? ⟨f,2,none⟩=some (dY 79)):Calls Tryz.prog 270 #[ptr f,m] w fun e w'=>e=.returned (.bool true)/\Below w.heap.size w w':=by
 have eF:∀ args w,(callFunc 79 args).run Tryz.prog w=.ok (.enter 79 args) w:=fun _ _=>by kernel_rfl
 have hA:=Lib.hid (sC m w)
 go_enter Tryz.func270,Tryz.ntmps270
 go_wp2_with fail
 refine hA.out.mono ?_
 rintro e w' ⟨rfl,hw⟩
 obtain rfl:w=w':=hw.symm
 clear hA c2
 go_wp2_with fail
 go_ret
 exact ⟨rfl,Below.refl _ _⟩
theorem Dy {F:Nat} {cv m:Value} {c:Bool} (c2:w.cell? ⟨f,2,none⟩=some (aU F cv)) (eF:∀ args w,(callFunc F args).run Tryz.prog w=.ok (.enter F args) w)
 (hF:Calls Tryz.prog F #[cv,m] w fun e w'=>e=.returned (.bool c)/\Below w.heap.size w w'):Calls Tryz.prog 270 #[ptr f,m] w fun e w'=>e=.returned (.bool c)/\Below w.heap.size w w':=by
 replace hF:=Lib.hid hF
 go_enter Tryz.func270,Tryz.ntmps270
 go_wp2_with fail
 refine hF.out.mono ?_
 rintro e w' ⟨rfl,hb⟩
 replace hb:=Lib.hid hb
 clear c2
 go_wp2_with fail
 go_ret
 exact ⟨rfl,hb.out⟩
theorem Jk {T:TypeId} {fr b:Nat} {m:Value} {c:Bool} (c2:w.cell? ⟨f,2,none⟩=some (.func (.method "Ready") #[.iface T (ptr b)] #[])) (mr:∀ (w:World) (f:Nat),(method (f+1) T (.pointer (some ⟨b,0,none⟩)) "Ready").run Tryz.prog w=.ok (fr,.pointer (some ⟨b,0,none⟩)) w)
 (er:∀ args w,(callFunc fr args).run Tryz.prog w=.ok (.enter fr args) w) (hF:Calls Tryz.prog fr #[ptr b,m] w fun e w'=>e=.returned (.bool c)/\Below w.heap.size w w'):Calls Tryz.prog 270 #[ptr f,m] w fun e w'=>e=.returned (.bool c)/\Below w.heap.size w w':=by
 replace hF:=Lib.hid hF
 go_enter Tryz.func270,Tryz.ntmps270
 go_wp2_with fail
 refine hF.out.mono ?_
 rintro e w' ⟨rfl,hb⟩
 replace hb:=Lib.hid hb
 clear c2
 go_wp2_with fail
 go_ret
 exact ⟨rfl,hb.out⟩
end
end Go.Proofs.YtpanebgakndddaaGreat.Zr
namespace Go.Proofs.YtpanebgakndddaaGreat.Zr
open Go Go.RowKit Hp K Fl Rw Hm Ar Mm Wk Pc Me Mq Pu Pn Gt Qs Zp Mx cJ Bs
set_option maxRecDepth 100000
def iy (h:Nat):Nat:=if h=0 then 5 else h
section
variable {w w':World} {M:Mo} {a:Ra} {R:Rz} {f h b:Nat} {k z e:Int} {u2 u3 tv:Value}
theorem xg (h:Nat) (w:World):Calls Tryz.prog 102 #[.int .i64 h] w fun e w'=>e=.returned (.int .i64 (iy h))/\w'=w:=by
 unfold iy
 by_cases h0:h=0
 ·subst h0
  go_enter Tryz.func102,Tryz.ntmps102
  go_wp2
  go_ret
  exact ⟨rfl,rfl⟩
 ·rw [if_neg h0]
  have hz:¬((h:Int)=0):=by omega
  go_enter Tryz.func102,Tryz.ntmps102
  go_wp2
  go_ret
  exact ⟨rfl,rfl⟩
theorem Jl (hh:h<=4):iy h<6:=by unfold iy; split<;>omega
set_option maxHeartbeats 1000000 in
theorem xf (hM:ah w M) (hb:Rb w f k z u2 u3 e h tv) (hk:0<=k) (hh:h<=4) (hl:M.hs.length=6):
 Calls Tryz.prog 77 #[ptr f,ptr M.m] w fun x w'=>x=.returned (.bool (decide (Lo.aF M.hs (iy h)= -1)))/\Below w.heap.size w w':=by
 obtain ⟨c0,c1,c2,c3,c4,c5,c6⟩:=dU hb
 have d1:=hM.hd.2.1
 have nM:=Lib.hid (fun w=>xg h w)
 have mo:decide (0<=k)=true:=by simpa using hk
 have hO:=Lib.hid (fun nq=>Lo.tR (hM.drewN nq).2.2.1 (iy h) (by rw [hl]; exact Jl hh))
 have gH:=Lo.zJ hM.2.2.1.2.2.1 (iy h)
 clear hM hb c1 c2 c3 c4 c6 hl
 generalize Lo.aF M.hs (iy h)=v at*
 generalize iy h=j at*
 go_enter Tryz.func77,Tryz.ntmps77
 go_wp2_with fail
 go_quiet (first
  | (go_at_call 102; exact Calls.quiet_of_same (nM.out _))
  | (go_at_call 97; exact Calls.quiet_of_same (hO.out _)))
 go_wp2_with fail
 go_ret
 exact ⟨K.kZ (by simp [BEq.beq]),rfl,rfl,rfl,Nat.le_refl _,fun _ _=>rfl⟩
theorem TM (hb:Rb w f k z u2 u3 e h tv) (m:Value):
 Calls Tryz.prog 80 #[ptr f,m] w fun x w'=>x=.returned (.bool true)/\Rb w' f k z (dY 79) (dY 138) 5 h tv/\ab (·=f) w w':=by
 have c4:=(dU hb).2.2.2.2.1
 have z4:=hb.frozen 4
 have hS:Rb (w.setCell ⟨f,4,none⟩ (.int .i64 5)) f k z u2 u3 5 h tv:=hb.store 4 _
 have hO:=Lib.hid ((ab.refl (·=f) w).setCell (p:=⟨f,4,none⟩) (.inl rfl) (.int .i64 5))
 have hE:=Lib.hid (nY hS)
 clear hb hS
 go_enter Tryz.func80,Tryz.ntmps80
 go_wp2_with fail
 refine hE.out.mono ?_
 rintro e w' ⟨rfl,hB,ae⟩
 replace hB:=Lib.hid hB
 have an:=Lib.hid (hO.out.trans ae)
 clear hE hO ae c4 z4
 go_wp2_with fail
 go_ret
 exact ⟨rfl,hB.out,an.out⟩
theorem Jm {T:TypeId} (hb:Rb w f k z u2 u3 e h tv):
 Calls Tryz.prog 136 #[ptr f,.iface T (ptr b)] w fun x w'=>x=.returned (.tuple #[])/\Rb w' f k z (.func (.method "Ready") #[.iface T (ptr b)] #[]) (aU 169 (ptr f)) e h (.iface T (ptr b))/\ab (·=f) w w':=by
 have c6:=(dU hb).2.2.2.2.2.2
 have z6:=hb.frozen 6
 have hS:Rb (w.setCell ⟨f,6,none⟩ (.iface T (ptr b))) f k z u2 u3 e h (.iface T (ptr b)):=hb.store 6 _
 have hO:=Lib.hid ((ab.refl (·=f) w).setCell (p:=⟨f,6,none⟩) (.inl rfl) (.iface T (ptr b)))
 have hE:=Lib.hid (et (F1:=.method "Ready") (F2:=.func 169) (b1:=#[.iface T (ptr b)]) (b2:=#[ptr f]) hS)
 clear hb hS
 go_enter Tryz.func136,Tryz.ntmps136
 go_wp2_with fail
 refine hE.out.mono ?_
 rintro e w' ⟨rfl,hB,ae⟩
 replace hB:=Lib.hid hB
 have an:=Lib.hid (hO.out.trans ae)
 clear hE hO ae c6 z6
 go_wp2_with fail
 go_end0
 exact ⟨rfl,hB.out,an.out⟩
set_option maxHeartbeats 1000000 in
theorem Jn (hM:ah w M) (hx:1<M.xs.length) (ga:Gw.Gl) (sa:Sw.Sc) (R:Rz) (hb:Rb w f R.worker R.size u2 u3 R.err 5 tv):
 Calls Tryz.prog 104 #[ptr f,ptr M.m] w fun x w'=>x=.returned (.tuple #[])/\∃ a':Ra,a'.f=f/\ft w' a' (look (lm M) R)/\(∀ x,fu a' (look (lm M) R) x->x=f\/w.heap.size<=x)/\ab (·=f) w w':=by
 obtain ⟨c0,c1,c2,c3,c4,c5,c6⟩:=dU hb
 have hN:=pJ hM hx
 unfold look
 unfold dv at hN
 have lf:=hb.lt
 have HB:=Lib.hid hb
 replace hN:=Lib.hid hN
 show Calls _ _ _ _ (fun x w'=>x=_/\∃ a':Ra,a'.f=f/\ft w' a' (if ((now M.xs M.ds).1:Int)=R.size then {R with nx:=7} else if ((now M.xs M.ds).1:Int)<R.size then {R with nx:=6,inn:=.cm (Gw.iJ R.worker)} else {R with nx:=6,inn:=.shr (Sw.il R.worker)})/\(∀ x,fu a' (if ((now M.xs M.ds).1:Int)=R.size then {R with nx:=7} else if ((now M.xs M.ds).1:Int)<R.size then {R with nx:=6,inn:=.cm (Gw.iJ R.worker)} else {R with nx:=6,inn:=.shr (Sw.il R.worker)}) x->x=f\/w.heap.size<=x)/\ab (·=f) w w')
 obtain ⟨n,hn⟩:∃ n,n=(now M.xs M.ds).1:=⟨_,rfl⟩
 obtain ⟨B,hB⟩:∃ B,B=(now M.xs M.ds).2:=⟨_,rfl⟩
 rw [<-hn]
 rw [<-hn,<-hB] at hN
 have uZ:∀ w,(Instr.field 141 (.agg #[.int .i64 n,.int .i64 B]) 0).run Tryz.prog w=.ok (.int .i64 n) w:=fun w=>rfl
 have hg:=Lib.hid (fun w=>Gw.HY R.worker w)
 have hs:=Lib.hid (fun w=>Sw.Hq R.worker w)
 have lM:=hM.1.lt
 clear hM hb hn hB c2 c3 c4 c5 c6 hx
 by_cases q1:(n:Int)<R.size
 ·rw [if_neg (by omega),if_pos q1]
  clear hs
  go_enter Tryz.func104,Tryz.ntmps104
  go_wp2_with fail
  refine hN.out.mono ?_
  rintro e1 w1 ⟨rfl,av⟩
  have aD:Rb w1 f R.worker R.size u2 u3 R.err 5 tv:=HB.out.only (ab.aA av (fun _=>False)) (by simp)
  have k0:=(dU aD).1
  have k1:=(dU aD).2.1
  replace aD:=Lib.hid aD
  have ax:=Lib.hid (ab.aA av (·=f))
  clear hN av c0 c1 HB
  go_wp2_with fail
  refine (hg.out _).mono ?_
  rintro e2 w2 ⟨ga,rfl,hG,bp,au⟩
  have ag:=Lib.hid (aD.out.only (ab.aA au (fun _=>False)) (by simp))
  have ae:=Lib.hid (ax.out.trans (ab.aA au (·=f)))
  have tG:=Lib.hid (fun x hx=>Nat.le_trans ax.out.size (bp x hx))
  have cI:=Lib.hid (fun x hx=>show ¬x=f from fun e=>by have h1:=bp x hx; have h2:=aD.out.lt; omega)
  replace hG:=Lib.hid hG
  have m5:=Lib.hid (Jm (T:=167) (b:=ga.f) ag.out)
  clear bp au hg k0 k1 aD ax
  go_wp2_with fail
  refine m5.out.mono ?_
  rintro e3 w3 ⟨rfl,ay,an⟩
  have hR:Hid (ft w3 ⟨f,.iface 167 (ptr ga.f),ga,sa⟩ {R with nx:=6,inn:=.cm (Gw.iJ R.worker)}):=Lib.hid ⟨ay,fun G _ qt=>⟨rfl,by
   injection qt with qt
   rw [<-qt]
   exact hG.out.only an cI.out⟩,fun G _ q=>by simp at q⟩
  have aN:=Lib.hid (ae.out.trans an)
  clear m5 ay an ae
  go_wp2_with fail
  go_end0
  refine ⟨rfl,_,rfl,hR.out,fun x hx=>?_,aN.out⟩
  rcases hx with q | ⟨G,_,q2,q3⟩ | ⟨G,_,q2,_⟩
  ·exact .inl q
  ·injection q2 with q2
   subst q2
   exact .inr (tG.out x q3)
  ·simp at q2
 ·by_cases q2:(n:Int) > R.size
  ·rw [if_neg (by omega),if_neg q1]
   clear hg
   go_enter Tryz.func104,Tryz.ntmps104
   go_wp2_with fail
   refine hN.out.mono ?_
   rintro e1 w1 ⟨rfl,av⟩
   have aD:Rb w1 f R.worker R.size u2 u3 R.err 5 tv:=HB.out.only (ab.aA av (fun _=>False)) (by simp)
   have k0:=(dU aD).1
   have k1:=(dU aD).2.1
   replace aD:=Lib.hid aD
   have ax:=Lib.hid (ab.aA av (·=f))
   clear hN av c0 c1 HB
   go_wp2_with fail
   refine (hs.out _).mono ?_
   rintro e2 w2 ⟨sa,rfl,hG,bp,au⟩
   have ag:=Lib.hid (aD.out.only (ab.aA au (fun _=>False)) (by simp))
   have ae:=Lib.hid (ax.out.trans (ab.aA au (·=f)))
   have tG:=Lib.hid (fun x hx=>Nat.le_trans ax.out.size (bp x hx))
   have cI:=Lib.hid (fun x hx=>show ¬x=f from fun e=>by have h1:=bp x hx; have h2:=aD.out.lt; omega)
   replace hG:=Lib.hid hG
   have m5:=Lib.hid (Jm (T:=169) (b:=sa.f) ag.out)
   clear bp au hs k0 k1 aD ax
   go_wp2_with fail
   refine m5.out.mono ?_
   rintro e3 w3 ⟨rfl,ay,an⟩
   have hR:Hid (ft w3 ⟨f,.iface 169 (ptr sa.f),ga,sa⟩ {R with nx:=6,inn:=.shr (Sw.il R.worker)}):=Lib.hid ⟨ay,fun G _ q=>by simp at q,fun G _ qt=>⟨rfl,by
    injection qt with qt
    rw [<-qt]
    exact hG.out.only an cI.out⟩⟩
   have aN:=Lib.hid (ae.out.trans an)
   clear m5 ay an ae
   go_wp2_with fail
   go_end0
   refine ⟨rfl,_,rfl,hR.out,fun x hx=>?_,aN.out⟩
   rcases hx with q | ⟨G,_,q2,_⟩ | ⟨G,_,q2,q3⟩
   ·exact .inl q
   ·simp at q2
   ·injection q2 with q2
    subst q2
    exact .inr (tG.out x q3)
  ·rw [if_pos (by omega)]
   clear hg hs
   go_enter Tryz.func104,Tryz.ntmps104
   go_wp2_with fail
   refine hN.out.mono ?_
   rintro e1 w1 ⟨rfl,av⟩
   have aD:Rb w1 f R.worker R.size u2 u3 R.err 5 tv:=HB.out.only (ab.aA av (fun _=>False)) (by simp)
   have k1:=(dU aD).2.1
   replace aD:=Lib.hid aD
   have ax:=Lib.hid (ab.aA av (·=f))
   have ku:=Lib.hid (et (F1:=.func 79) (F2:=.func 137) (b1:=#[]) (b2:=#[ptr f]) aD.out)
   clear hN av c0 c1 HB
   go_wp2_with fail
   refine ku.out.mono ?_
   rintro e3 w3 ⟨rfl,ay,an⟩
   have hR:Hid (ft w3 ⟨f,tv,ga,sa⟩ {R with nx:=7}):=Lib.hid (ft.plain ay (by simp))
   have aN:=Lib.hid (ax.out.trans an)
   clear ku ay an ax aD k1
   go_wp2_with fail
   go_end0
   exact ⟨rfl,_,rfl,hR.out,fun x hx=>.inl (uH (by simp) hx),aN.out⟩
end
end Go.Proofs.YtpanebgakndddaaGreat.Zr
