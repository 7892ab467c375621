/- Walks and plain mathematics, put together in their order: BaseA, BaseB, BaseC, BaseD, RestA, RzA, RzB, RzC, RzD, RzE, RzN, ClP, RzF, RzU, RzV. -/
import Derived.Test.YtpanebgakndddaaGreatPart9
import Derived.Test.YtpanebgakndddaaGreatFnvWalk
set_option linter.unusedVariables false
set_option linter.unusedSimpArgs false
namespace Go.Proofs.YtpanebgakndddaaGreat.Bs
open Go Hm Ar Mm Wk Pc Me Mq Pu Pn Gt Qs Zp Mx Gw cL
structure gN (n B:Nat) (l:List Pr) (L:Lm) (cs:Nat->List Mq.Hp):Prop where
 pw:FM.bo n=true
 now:Me.now L.xs L.ds=(n,B)
 tabs:l7 L.xs L.ds
 tb:∀ i,(aN L.ds i).1<=65536/\(aN L.ds i).2<=4000000
 k:1<=L.k/\L.k<=8
 kB:2+L.k<=B
 xl:B+n<=L.xs.length
 xm:L.xs.length<=1048576
 xb:∀ x∈L.xs,0<=x/\x<=18446744073709551615
 cU:fo L.ss
 len:L.ss.length<=1024
 F:L.F=false
 p1:1<=Cl.nth L.xs 0
 cx:∀ b,b<n->Cx L.ss (Cl.nth L.xs (B+b)).toNat (cs b)
 own:∀ b,b<n->bp (cs b)=own l n b
 keys:(l.map (·.1)).Nodup
 few:l.length<=60
section
variable {n B:Nat} {l:List Pr} {L:Lm} {cs:Nat->List Mq.Hp}
theorem x9 (l:List Pr) (f:ByteArray->Bool) (key:ByteArray) (h:f key=true):Pc.lk (l.filter fun p=>f p.1) key=Pc.lk l key:=by
 induction l with
 | nil=>rfl
 | cons p t ih=>
   rw [List.filter_cons]
   by_cases hk:p.1=key
   ·rw [if_pos (by rw [hk]; exact h)]
    simp [Pc.lk,hk]
   ·split
    ·simp only [Pc.lk,if_neg hk]
     exact ih
    ·simp only [Pc.lk,if_neg hk]
     exact ih
theorem gN.n1 (h:gN n B l L cs):1<=n/\n<=65536:=by
 have:=FM.eW h.pw
 omega
theorem gN.hd (h:gN n B l L cs) {b:Nat} (hb:b<n):Cl.nth L.xs (B+b)=((aC (cs b):Nat):Int):=by
 have h1:=Cx.hd (h.cx b hb)
 have h2:=Cl.eX h.xb (B+b)
 omega
theorem gN.bk (h:gN n B l L cs) {b:Nat} (hb:b<n):∀ a∈cs b,aj a.2.1 n=b:=fun a ha=>by
 have:a.2∈bp (cs b):=List.mem_map.2 ⟨a,ha,rfl⟩
 rw [h.own b hb] at this
 exact of_decide_eq_true (List.mem_filter.1 this).2
theorem gN.small (h:gN n B l L cs) {b:Nat} (hb:b<n):(cs b).length<=l.length:=by
 have h1:=congrArg List.length (h.own b hb)
 have h2:=List.length_filter_le (fun p:Pr=>decide (aj p.1 n=b)) l
 simp only [bp,List.length_map,cL.own] at h1
 omega
theorem gN.lk (h:gN n B l L cs) (key:ByteArray):Pc.lk l key=Pc.lk (bp (cs (aj key n))) key:=by
 rw [h.own _ (dI h.pw key).1]
 exact (x9 l (fun k=>decide (aj k n=aj key n)) key (by simp)).symm
theorem gN.nd (h:gN n B l L cs) {b:Nat} (hb:b<n):(aL (cs b)).Nodup:=by
 refine Cx.nodup h.len (h.cx b hb) ?_
 have h3:dO (cs b)=(bp (cs b)).map (·.1):=by simp [bp]
 rw [h3,h.own b hb]
 exact (List.filter_sublist.map _).nodup h.keys
theorem gN.dj (h:gN n B l L cs) {b b':Nat} (hb:b<n) (cN:b'<n) (aH:b≠b'):∀ a∈aL (cs b),a∉aL (cs b'):=fun a ha wI=>by
 obtain ⟨x,hx,rfl⟩:=List.mem_map.1 ha
 obtain ⟨y,hy,U6⟩:=List.mem_map.1 wI
 have hs:=Cx.same h.len (h.cx b hb) (h.cx b' cN) hx hy U6.symm
 have h1:=h.bk hb x hx
 have h2:=h.bk cN y hy
 rw [hs] at h1
 omega
theorem gN.zs (h:gN n B l L cs) (sM:FM.bo ((2*n:Nat):Int)=true):∃ Z:Zs,Z.Ok L l/\Z.n=n/\Z.B=B/\Z.B2=L.xs.length/\Z.bq=false/\Z.few=l.length/\(∀ e,e<n->Z.fresh e)/\Z.aU=cs:=by
 have hx:∀ e:Nat,∃ z:Bool×List Mq.Hp×List Mq.Hp,e<n->cs e=z.2.1++z.2.2/\Zip L.ss (sd n) (cs e) z.1 (Cl.nth L.xs (B+e)).toNat (aC z.2.2) [] z.2.1 [] z.2.2:=fun e=>by
  by_cases he:e<n
  ·obtain ⟨s,r,rest,h4,h5⟩:=LP (σ:=sd n) (h.cx e he) (h.nd he)
   exact ⟨(s,r,rest),fun _=>⟨h4,h5⟩⟩
  ·exact ⟨(true,[],[]),fun q=>absurd q he⟩
 obtain ⟨f,hf⟩:=Classical.axiomOfChoice hx
 have hn:=h.n1
 have bz:=h.xl
 have lH:=h.xm
 have jx:=h.few
 refine ⟨⟨n,B,L.xs.length,l.length,1000,false,cs,fun e=>(f e).1,fun e=>(Cl.nth L.xs (B+e)).toNat,fun e=>aC (f e).2.2,fun _=>[],fun e=>(f e).2.1,fun _=>[],fun e=>(f e).2.2⟩,?_,rfl,rfl,rfl,rfl,rfl,fun e he=>⟨rfl,rfl,(hf e he).1⟩,rfl⟩
 exact ⟨h.pw,sM,by rw [if_neg (by simp)]; exact h.now,h.tb,h.k,h.kB,⟨bz,bz,fun q=>by simp at q⟩,by simp only; omega,h.xb,h.cU,h.len,fun e he=>h.hd he,fun q=>by simp at q,fun e he=>(hf e he).2,h.lk,h.F,h.p1,⟨fun e he=>h.small he,by simp only; omega,by simp only; omega,by simp only; omega⟩,fun _ e he=>⟨rfl,rfl,(hf e he).1⟩,fun e e' he U7 aH=>h.dj he U7 aH⟩
theorem LQ (l:List Pr) (f:Pr->Nat) {a b:Nat} (h:a≠b):(l.filter fun p=>decide (f p=a)).length+(l.filter fun p=>decide (f p=b)).length<=l.length:=by
 induction l with
 | nil=>simp
 | cons p t ih=>
   simp only [List.filter_cons]
   by_cases h1:f p=a
   ·rw [if_pos (by simpa using h1),if_neg (by simp; omega)]
    simp only [List.length_cons]
    omega
   ·rw [if_neg (by simpa using h1)]
    split
    ·simp only [List.length_cons]
     omega
    ·simp only [List.length_cons]
     omega
theorem gN.js {m:Nat} (h:gN (2*m) B l L cs) (jy:FM.bo m=true) {cap:Nat} (fD:l.length<=cap/\cap<=1000000):∃ Z:Js,Z.Ok L l/\Z.n=m/\Z.B=B/\Z.B2=L.xs.length/\Z.bq=false/\Z.few=l.length/\Z.cap=cap/\Z.C=cs/\∀ e,Z.jn e=false:=by
 have hn:=h.n1
 have bz:=h.xl
 have lH:=h.xm
 have jx:=h.few
 have hm:=FM.eW jy
 refine ⟨⟨m,B,L.xs.length,l.length,cap,false,cs,fun _=>false⟩,?_,rfl,rfl,rfl,rfl,rfl,rfl,rfl,fun _=>rfl⟩
 refine ⟨jy,h.pw,by rw [if_neg (by simp)]; exact h.now,h.tb,h.k,h.kB,⟨bz,bz,fun q=>by simp at q⟩,by simp only; omega,h.xb,h.cU,h.len,fun b hb=>h.hd hb,fun q=>by simp at q,fun q=>by simp at q,fun b hb=>?_,h.lk,fun b hb=>h.bk hb,h.F,h.p1,⟨fun e he=>?_,by simp only; omega,by simp only; omega,by simp only; omega⟩,fun b hb=>h.nd hb,fun b b' hb cN aH=>h.dj hb cN aH⟩
 ·have hw:Js.cz ⟨m,B,L.xs.length,l.length,cap,false,cs,fun _=>false⟩ b=cs b:=by
   unfold Js.cz
   rw [if_neg (by simp)]
  rw [hw]
  have:=h.cx b hb
  rw [<-Cx.hd this]
  exact this
 ·have he:e<m:=he
  have e1:=congrArg List.length (h.own e (by omega))
  have e2:=congrArg List.length (h.own (e+m) (by omega))
  simp only [bp,List.length_map,cL.own] at e1 e2
  have e3:=LQ l (fun p=>aj p.1 (2*m)) (a:=e) (b:=e+m) (by omega)
  unfold Js.two
  simp only [List.length_append]
  omega
end
end Go.Proofs.YtpanebgakndddaaGreat.Bs
namespace Go.Proofs.YtpanebgakndddaaGreat.Bs
open Go Hm Ar Mm Wk Pc Me Mq Pu Pn Gt Qs Zp Mx Gw cL
def flat (n:Nat) (cs:Nat->List Mq.Hp):List Pr:=(List.range n).flatMap fun b=>bp (cs b)
theorem AX (n:Nat) (cs:Nat->List Mq.Hp):flat (n+1) cs=flat n cs++bp (cs n):=by simp [flat,List.range_succ]
section
variable {n:Nat} {cs:Nat->List Mq.Hp}
theorem LR {p:Pr}:p∈flat n cs↔∃ b,b<n/\p∈bp (cs b):=by
 unfold flat
 rw [List.mem_flatMap]
 exact ⟨fun ⟨b,h1,h2⟩=>⟨b,List.mem_range.1 h1,h2⟩,fun ⟨b,h1,h2⟩=>⟨b,List.mem_range.2 h1,h2⟩⟩
theorem LS (N:Nat) (h:∀ b,b<N->∀ a∈cs b,aj a.2.1 N=b) (b:Nat):∀ m,m<=N->(flat m cs).filter (fun p=>decide (aj p.1 N=b))=if b<m then bp (cs b) else []:=by
 intro m
 induction m with
 | zero=>intro _; rw [if_neg (by omega)]; rfl
 | succ m ih=>
   intro hm
   rw [AX,List.filter_append,ih (by omega)]
   have h1:(bp (cs m)).filter (fun p=>decide (aj p.1 N=b))=if b=m then bp (cs m) else []:=by
    by_cases e:b=m
    ·rw [if_pos e]
     refine List.filter_eq_self.2 fun p hp=>?_
     obtain ⟨a,ha,rfl⟩:=List.mem_map.1 hp
     exact decide_eq_true ((h m (by omega) a ha).trans e.symm)
    ·rw [if_neg e]
     refine List.filter_eq_nil_iff.2 fun p hp=>?_
     obtain ⟨a,ha,rfl⟩:=List.mem_map.1 hp
     have:=h m (by omega) a ha
     simp
     omega
   rw [h1]
   by_cases h2:b<m
   ·rw [if_pos h2,if_neg (by omega),if_pos (by omega),List.append_nil]
   ·rw [if_neg h2,List.nil_append]
    by_cases e:b=m
    ·rw [if_pos e,if_pos (by omega),e]
    ·rw [if_neg e,if_neg (by omega)]
theorem LU (h:∀ b,b<n->∀ a∈cs b,aj a.2.1 n=b) (hk:∀ b,b<n->(dO (cs b)).Nodup):∀ m,m<=n->((flat m cs).map (·.1)).Nodup:=by
 intro m
 induction m with
 | zero=>intro _; exact List.nodup_nil
 | succ m ih=>
   intro hm
   rw [AX,List.map_append,List.nodup_append]
   have e:(bp (cs m)).map (·.1)=dO (cs m):=by simp [bp]
   refine ⟨ih (by omega),by rw [e]; exact hk m (by omega),fun x hx y hy q=>?_⟩
   obtain ⟨p,hp,rfl⟩:=List.mem_map.1 hx
   obtain ⟨b,hb,ka⟩:=LR.1 hp
   obtain ⟨a,ha,rfl⟩:=List.mem_map.1 ka
   rw [e] at hy
   obtain ⟨a',wI,rfl⟩:=List.mem_map.1 hy
   have h1:=h b (by omega) a ha
   have h2:=h m (by omega) a' wI
   have q:a.2.1=a'.2.1:=q
   rw [q] at h1
   omega
theorem lX (cs:Nat->List Mq.Hp):∀ m,(flat m cs).length=(bE m cs).length:=by
 intro m
 induction m with
 | zero=>rfl
 | succ m ih=>rw [AX,kR,List.length_append,List.length_append,ih]; simp [bp]
theorem Ff {B:Nat} {L:Lm} (pw:FM.bo n=true) (now:Me.now L.xs L.ds=(n,B)) (tabs:l7 L.xs L.ds) (tb:∀ i,(aN L.ds i).1<=65536/\(aN L.ds i).2<=4000000) (k:1<=L.k/\L.k<=8) (kB:2+L.k<=B) (xl:B+n<=L.xs.length) (xm:L.xs.length<=1048576) (xb:∀ x∈L.xs,0<=x/\x<=18446744073709551615)
 (cU:fo L.ss) (len:L.ss.length<=1024) (F:L.F=false) (p1:1<=Cl.nth L.xs 0) (cx:∀ b,b<n->Cx L.ss (Cl.nth L.xs (B+b)).toNat (cs b)) (bk:∀ b,b<n->∀ a∈cs b,aj a.2.1 n=b) (kd:∀ b,b<n->(dO (cs b)).Nodup) (few:(bE n cs).length<=60):gN n B (flat n cs) L cs:=
 ⟨pw,now,tabs,tb,k,kB,xl,xm,xb,cU,len,F,p1,cx,fun b hb=>by
  have:=LS n bk b n (Nat.le_refl _)
  rw [if_pos hb] at this
  exact this.symm,LU bk kd n (Nat.le_refl _),by rw [lX]; exact few⟩
end
theorem Js.Ok.base {J:Js} {L:Lm} {l:List Pr} (hJ:J.Ok L l) (hp:J.bq=true) (m8:l7 L.xs L.ds) (lH:L.xs.length<=1048576) (hk:∀ b,b<2*J.n->(dO (J.C b)).Nodup) (jx:(bE J.n J.two).length<=60):gN J.n J.B2 (flat J.n J.two) L J.two:=by
 have hn:=FM.eW hJ.pw
 have bU:=hJ.now
 rw [if_pos hp] at bU
 have hx:=hJ.xl
 have eo:=hJ.kB
 refine Ff hJ.pw bU m8 hJ.tb hJ.k (by omega) (by have:=hx.2.2 hp; omega) lH hJ.xb hJ.cU hJ.len hJ.F hJ.p1 (fun e he=>?_) (fun e he a ha=>?_) (fun e he=>?_) jx
 ·rw [hJ.newer hp e he,Int.toNat_natCast]
  exact hJ.both hp he
 ·obtain ⟨h1,h2,h3⟩:=rN hJ.pw hJ.jR a.2.1
  rcases List.mem_append.1 ha with q | q
  ·have:=hJ.own e (by omega) a q
   rw [this,Nat.mod_eq_of_lt he] at h1
   exact h1.symm
  ·have:=hJ.own (e+J.n) (by omega) a q
   rw [this,Nat.add_mod_right,Nat.mod_eq_of_lt he] at h1
   exact h1.symm
 ·have e1:dO (J.two e)=dO (J.C e)++dO (J.C (e+J.n)):=by simp [dO,Js.two]
  rw [e1,List.nodup_append]
  refine ⟨hk e (by omega),hk (e+J.n) (by omega),fun x hx y hy q=>?_⟩
  obtain ⟨a,ha,rfl⟩:=List.mem_map.1 hx
  obtain ⟨a',wI,rfl⟩:=List.mem_map.1 hy
  have h1:=hJ.own e (by omega) a ha
  have h2:=hJ.own (e+J.n) (by omega) a' wI
  have q:a.2.1=a'.2.1:=q
  rw [q] at h1
  omega
end Go.Proofs.YtpanebgakndddaaGreat.Bs
namespace Go.Proofs.YtpanebgakndddaaGreat.Bs
open Go Hm Ar Mm Wk Pc Me Mq Pu Pn Gt Qs Zp Mx Gw cL
def nu (l l':List Pr):Prop:=∀ key,Pc.lk l key=Pc.lk l' key
theorem nu.symm {l l':List Pr} (h:nu l l'):nu l' l:=fun k=>(h k).symm
section
variable {l l':List Pr} {Y:Wy} {L:Lm} {w k:Nat} {key:ByteArray} {G:Gt.Ge}
theorem fH.iY {old:Int->Nat->Prop} (e:nu l l') (h:fH Y L l old w key G k):fH Y L l' old w key G k:=by
 refine ⟨h.ky,h.sum,h.wk,h.iZ,h.pd,h.iF,h.pr,?_⟩
 cases h.ph with
 | mL a b=>exact .mL a b
 | put a b=>exact .put a b
 | load a=>exact .load a
 | first c a1 b hc ho=>exact .first c a1 b hc ho
 | look q a1 a2 a3 a4 a5 a6 a7 a8 a9 a10 a11 a12 a13=>exact .look q a1 a2 a3 a4 a5 a6 a7 a8 a9 (a10.trans (e key)) a11 a12 a13
 | leave a b=>exact .leave a (e key▸b)
theorem bW.iY {old:Nat->Int->Nat->Prop} {R:Rn} (e:nu l l') (h:bW Y L l old R k):bW Y L l' old R k:=by
 unfold bW at h ⊢
 split
 ·rename_i q
  rw [q] at h
  exact h
 ·rename_i G q
  rw [q] at h
  exact fH.iY e h
theorem Zs.Ok.iY {Z:Zs} (e:nu l l') (h:Z.Ok L l):Z.Ok L l':={h with lk:=fun key=>(e key).symm.trans (h.lk key)}
theorem Js.Ok.iY {J:Js} (e:nu l l') (h:J.Ok L l):J.Ok L l':={h with lk:=fun key=>(e key).symm.trans (h.lk key)}
theorem ZD.iY {Z:Zs} (e:nu l l') (h:ZD l Z L):ZD l' Z L:=⟨Zs.Ok.iY e h.1,h.2⟩
end
end Go.Proofs.YtpanebgakndddaaGreat.Bs
namespace Go.Proofs.YtpanebgakndddaaGreat.Bs
open Go Hm Ar Mm Wk Pc Me Mq Pu Pn Gt Qs Zp Mx Gw cL
section
variable {Z Z':Zs} {J J':Js} {L:Lm} {l:List Pr} {R:Rn} {k:Nat} {old:Nat->Int->Nat->Prop} {key:ByteArray} {q:List Mq.Hp}
theorem LV (hf:Z.fresh (aj key Z.n)) (hq:q<:+Z.aU (aj key Z.n)):Z.wy.Pos (fun _=>True) key q:=by
 obtain ⟨f1,f2,f3⟩:=hf
 show Std _ _ _ _ _ _ _ key q
 rw [f1,f2]
 rw [f3] at hq
 by_cases hs:sd Z.n key=Z.s (aj key Z.n)
 ·exact .inl ⟨hs,by rw [List.nil_append]; exact hq⟩
 ·refine .inr (.inr ⟨trivial,?_,hq⟩)
  revert hs
  cases sd Z.n key<;>cases Z.s (aj key Z.n)<;>simp
theorem LW (hJ:J.Ok L l) (fZ:∀ e,e<J.n->J.jn e=true) (key:ByteArray) (hq:q<:+J.cz (aj key (2*J.n))):q<:+J.two (aj key J.n):=by
 obtain ⟨h1,h2,h3⟩:=hJ.bk key
 unfold Js.cz at hq
 split at hq
 ·rename_i hw
  rcases h3 with e | e
  ·rw [e] at hq; exact hq
  ·omega
 ·rename_i hw
  rcases h3 with e | e
  ·have:J.C (aj key (2*J.n))=[]:=by
    cases hC:J.C (aj key (2*J.n)) with
    | nil=>rfl
    | cons x y=>exact absurd ⟨by omega,fZ _ (by omega),by rw [hC]; simp⟩ hw
   rw [this] at hq
   have uv:q=[]:=List.suffix_nil.1 hq
   rw [uv]
   exact List.nil_suffix
  ·rw [e] at hq
   exact hq.trans (List.suffix_append _ _)
end
end Go.Proofs.YtpanebgakndddaaGreat.Bs
namespace Go.Proofs.YtpanebgakndddaaGreat.Bs
open Go Hm Ar Mm Wk Pc Me Mq Pu Pn Gt Qs Zp Mx cL
structure Rs where
 n:Nat
 B:Nat
 few:Nat
 cap:Nat
 cs:Nat->List Mq.Hp
 ls:List Pr
def Rs.wy (Y:Rs):Wy:=⟨fun _ key q=>q<:+Y.cs (aj key Y.n),fun _ key c=>c=Y.B+aj key Y.n,Y.few,Y.cap,true⟩
structure Rest (l:List Pr) (Y:Rs) (L:Lm):Prop where
 base:gN Y.n Y.B Y.ls L Y.cs
 iY:nu Y.ls l
 few:Y.few=Y.ls.length/\Y.ls.length<=35
 cap:Y.few<=Y.cap/\Y.cap<=1000000
 aE:Lo.aE L.hs 0= -1/\0<L.hs.length
 pos:∀ b,b<Y.n->∀ a∈Y.cs b,a.1≠0/\a.1<=18446744073709551615
section
variable {l:List Pr} {Y:Rs} {L:Lm} {R:Rn} {k:Nat} {old old':Nat->Int->Nat->Prop} {w:Int}
theorem Rest.ways (h:Rest l Y L):Y.wy.Ok L l:=by
 have hb:=h.base
 have jm:=hb.n1
 have eo:=hb.kB
 have bz:=hb.xl
 have lH:=hb.xm
 have hk:=hb.k
 obtain ⟨f1,f2⟩:=h.few
 obtain ⟨c1,c2⟩:=h.cap
 refine ⟨hb.k,fun w hw=>by omega,hb.xb,hb.cU,hb.len,hb.F,hb.p1,hb.tb,⟨by show Y.few<=900; omega,c1,c2⟩,fun {o key e q} h=>(List.suffix_cons _ _).trans h,fun _ h=>h,fun _ h=>h,fun {o key c} hc=>?_,fun o key _=>?_⟩
 ·obtain ⟨h1,h2⟩:=dI hb.pw key
  have hc:c=Y.B+aj key Y.n:=hc
  subst hc
  have aP:word L.xs ((Y.B+aj key Y.n:Nat):Int)=(Cl.nth L.xs (Y.B+aj key Y.n)).toNat:=by
   unfold word
   rw [if_pos (by omega),Int.toNat_natCast]
  rw [aP]
  exact ⟨by omega,_,hb.cx _ h1,List.suffix_refl _,by rw [<-hb.lk key]; exact h.iY key,by have:=hb.small h1; show _<=Y.few; omega⟩
 ·obtain ⟨h1,h2⟩:=dI hb.pw key
  refine ⟨Y.B+aj key Y.n,?_,rfl⟩
  rw [hb.now]
  unfold Gt.cellOf
  simp only
  rw [if_neg (by omega),h2]
  simp
theorem gN.SB {n B:Nat} {ls:List Pr} {cs:Nat->List Mq.Hp} (h:gN n B ls L cs) (sM:FM.bo ((2*n:Nat):Int)=true) {cap:Nat} (fD:ls.length<=cap/\cap<=1000000):∃ Z:Zs,Z.Ok L ls/\Z.n=n/\Z.B=B/\Z.B2=L.xs.length/\Z.bq=false/\Z.few=ls.length/\(∀ e,e<n->Z.fresh e)/\Z.aU=cs/\Z.cap=cap:=by
 obtain ⟨Z,hZ,z1,z2,z3,z4,z5,z6,z7⟩:=h.zs sM
 have hf:=hZ.few
 exact ⟨{Z with cap:=cap},{hZ with few:=⟨hf.1,hf.2.1,by show Z.few<=cap; omega,fD.2⟩},z1,z2,z3,z4,z5,z6,z7,rfl⟩
theorem Rest.yz (h:Rest l Y L) (sM:FM.bo ((2*Y.n:Nat):Int)=true) (hw:0<=w/\w<=1000) (nY:Cl.nth L.xs 0<=1000000000000) (lH:L.xs.length+2*Y.n<=1048576) (aL:L.ds.length<=800000):
 ∃ Z,ZD Y.ls Z L/\Z.n=Y.n/\Z.aU=Y.cs/\Z.few=Y.few/\Z.cap=Y.cap/\Z.bq=false/\Gw.J Y.n Y.ls Z (fun _ _ _=>True) L (Gw.iJ w) (2+Y.n*(Y.few+4)+(1+12*(Y.few+1)+Y.n*Y.few)) 0/\∀ R k,bW Y.wy L l old R k->bW Z.wy L l (fun _ _ _=>True) R k:=by
 obtain ⟨f1,f2⟩:=h.few
 obtain ⟨Z,hZ,z1,z2,z3,z4,z5,z6,z7,z8⟩:=h.base.SB sM (cap:=Y.cap) (by have:=h.cap; omega)
 have hb:=h.base
 have hn:=hb.n1
 have bz:=hb.xl
 have eo:=hb.kB
 have hk:=hb.k
 have WD:Y.n*(Y.few+4)<=65536*39:=Nat.mul_le_mul hn.2 (by omega)
 have oW:Y.n*Y.few<=65536*35:=Nat.mul_le_mul hn.2 (by omega)
 have zf:Z.few=Y.few:=by omega
 refine ⟨Z,⟨hZ,by omega⟩,z1,z7,zf,z8,z4,⟨⟨z1,fun e he=>by rw [z7,z1]; exact hb.own e (by omega),hw,rfl,fun q=>absurd rfl q,hb.k,?_,h.aE.2,fun _=>h.aE.1,by rw [z3,z1]; omega,?_,⟨by omega,fun _=>aL⟩,fun q=>by have q:3<=1:=q; omega,fun _=>rfl,Nat.zero_le _,by rw [z3]; omega,?_,hb.tabs⟩,.p1 rfl z4 (fun _ _ _=>trivial) rfl rfl ?_⟩,fun R k hR=>?_⟩
 ·omega
 ·rw [if_pos (show (Gw.iJ w).nx<=2 by show 1<=2; omega),z3]
 ·intro e he a ha
  rw [z7] at ha
  exact h.pos e (by omega) a ha
 ·unfold Gw.mB
  rw [z1,zf]
  omega
 ·refine hR.to rfl (Int.le_refl _) rfl zf (by show Y.cap<=Z.cap; omega) (fun key c p hC=>?_) (fun key q p hP=>?_)
  ·have ax:=(dI hb.pw key).1
   have hC:c=Y.B+aj key Y.n:=hC
   exact .inr ⟨by rw [z2,z1]; exact hC,trivial,z6 _ (by rw [z1]; exact ax)⟩
  ·have ax:=(dI hb.pw key).1
   refine LV (z6 _ (by rw [z1]; exact ax)) ?_
   rw [z7,z1]
   exact hP
theorem grown {Z:Zs} {G:Gw.Gr} {n0:Nat} {ls:List Pr} (hZ:ZD ls Z L) (hO:Gw.G9 n0 ls Z L G) (hold:∀ w p e,¬old w p e) (hk:(ls.map (·.1)).Nodup) (rE:nu ls l) (jx:Z.few=ls.length):
 Rest l ⟨2*Z.n,Z.B2,Z.few,Z.cap,fun b=>(Z.aU (b % Z.n)).filter fun a=>sd Z.n a.2.1==decide (Z.n<=b),ls⟩ L/\∀ R k,bW Z.wy L l old R k->bW (Rs.wy ⟨2*Z.n,Z.B2,Z.few,Z.cap,fun b=>(Z.aU (b % Z.n)).filter fun a=>sd Z.n a.2.1==decide (Z.n<=b),ls⟩) L l old' R k:=by
 have hz:=hZ.1
 have WE:=hZ.2
 have hp:=hO.bq
 have hr:=hO.rest
 have bU:=hz.now
 rw [if_pos hp] at bU
 have ax:=FM.eW hz.pw
 have hx:=hz.xl
 have eo:=hz.kB
 have lH:=hO.xm
 have bz:=hO.xl
 have hf:=hz.few
 have hm:∀ b,b % Z.n<Z.n:=fun b=>Nat.mod_lt _ (by omega)
 refine ⟨⟨⟨hz.jR,bU,hO.tabs,hz.tb,hz.k,by show 2+L.k<=(Z.B2:Int); omega,by show Z.B2+2*Z.n<=_; omega,by omega,hz.xb,hz.cU,hz.len,hz.F,hz.p1,fun b hb=>?_,fun b hb=>SC hz.pw hz.jR hb (hO.al _ (hm b)),hk,by show ls.length<=60; omega⟩,rE,⟨jx,by show ls.length<=35; omega⟩,⟨hf.2.2.1,hf.2.2.2⟩,⟨hO.aE,hO.hl⟩,fun b hb a ha=>?_⟩,fun R k hR=>?_⟩
 ·show Cx L.ss (Cl.nth L.xs (Z.B2+b)).toNat _
  rw [hz.newer hp b hb,Int.toNat_natCast]
  exact hz.oJ hr hb
 ·exact hO.pos _ (hm b) a (List.mem_filter.1 ha).1
 ·refine hR.to rfl (Int.le_refl _) rfl rfl (Nat.le_refl _) (fun key c p hC=>?_) (fun key q p hP=>?_)
  ·rcases hC with ⟨hC,_⟩ | ⟨_,ho,_⟩
   ·exact hC
   ·exact absurd ho (hold _ _ _)
  ·obtain ⟨t1,t2,t3⟩:=rN hz.pw hz.jR key
   have he:aj key Z.n<Z.n:=(dI hz.pw key).1
   have Ak:=hz.zip _ he
   have e1:=Ak.fs
   have e2:=Ak.fv
   rw [hr _ he,List.filter_nil,List.append_nil] at e1 e2
   have hP:Std (sd Z.n) (Z.s (aj key Z.n)) (Z.u (aj key Z.n)) (Z.r (aj key Z.n)) (Z.v (aj key Z.n)) (Z.rest (aj key Z.n)) (old R.w p (aj key Z.n)) key q:=hP
   rw [hr _ he] at hP
   show q<:+(Z.aU (aj key (2*Z.n) % Z.n)).filter fun a=>sd Z.n a.2.1==decide (Z.n<=aj key (2*Z.n))
   rw [t1]
   have Ex:decide (Z.n<=aj key (2*Z.n))=sd Z.n key:=rfl
   rw [Ex]
   rcases hP with ⟨hs,hq⟩ | ⟨hs,hq⟩ | ⟨ho,_⟩
   ·rw [hs,e1]
    rw [List.append_nil] at hq
    exact hq
   ·rw [hs,e2]
    rw [List.append_nil] at hq
    exact hq
   ·exact absurd ho (hold _ _ _)
theorem Rest.SD {m:Nat} (h:Rest l Y L) (hm:2*m=Y.n) (jy:FM.bo m=true) (hw:0<=w/\w<=1000) (nY:Cl.nth L.xs 0<=1000000000000) (lH:L.xs.length+m<=1048576) (aL:L.ds.length<=800000) (fD:Y.cap+m*Y.few<=1000000):
 ∃ Z,Sw.JD Y.ls Z L/\Z.n=m/\Z.C=Y.cs/\Z.few=Y.few/\Z.cap=Y.cap/\Sw.J m Z old' L (Sw.ij w) (2+m*(Y.few+4)+12) (m*Y.few)/\∀ R k,bW Y.wy L l old R k->bW Z.wy L l old' R k:=by
 obtain ⟨f1,f2⟩:=h.few
 have hb:=h.base
 rw [<-hm] at hb
 obtain ⟨Z,hZ,z1,z2,z3,z4,z5,z6,z7,z8⟩:=hb.js jy (cap:=Y.cap) (by have:=h.cap; omega)
 have hn:=hb.n1
 have bz:=hb.xl
 have eo:=hb.kB
 have hk:=hb.k
 have zf:Z.few=Y.few:=by omega
 have WD:m*(Y.few+4)<=65536*39:=Nat.mul_le_mul (by omega) (by omega)
 refine ⟨Z,⟨hZ,by omega⟩,z1,z7,zf,z6,⟨⟨z1,hw,rfl,fun q=>absurd rfl q,hb.k,?_,h.aE.2,fun _=>h.aE.1,by rw [z3,z1]; omega,?_,⟨by omega,fun _=>aL⟩,rfl,fun q=>by have q:3<=1:=q; omega,Nat.zero_le _,by rw [z3]; omega,⟨Nat.zero_le _,Nat.zero_le _⟩,?_,hb.tabs,by rw [z6]; exact fD⟩,.p1 rfl z4 rfl (fun e _=>by rw [z8]; simp) ?_ ?_⟩,fun R k hR=>?_⟩
 ·omega
 ·rw [if_pos (show (Sw.ij w).nx<=2 by show 1<=2; omega),z3]
 ·intro b cN a ha
  rw [z7] at ha
  exact h.pos b (by omega) a ha
 ·rw [z1,zf]; omega
 ·rw [z1,zf]; omega
 ·have WG:∀ b,Z.cz b=Z.C b:=fun b=>by
   unfold Js.cz
   rw [if_neg]
   rintro ⟨_,q,_⟩
   rw [z8] at q
   simp at q
  refine hR.to rfl (Int.le_refl _) rfl zf (by show Y.cap<=Z.cap; omega) (fun key c p hC=>?_) (fun key q p hP=>?_)
  ·have hC:c=Y.B+aj key Y.n:=hC
   exact .inl ⟨by rw [z2,z1,hm]; exact hC,.inl z4⟩
  ·refine .inl ?_
   rw [WG,z7,z1,hm]
   exact hP
theorem SE (C:Nat->List Mq.Hp) (m:Nat):∀ k,(bE k fun e=>C e++C (e+m)).length=(bE k C).length+(bE k fun e=>C (e+m)).length:=by
 intro k
 induction k with
 | zero=>rfl
 | succ k ih=>
   rw [kR,kR,kR,List.length_append,List.length_append,List.length_append,ih]
   simp only [aL,List.map_append,List.length_append]
   omega
theorem SF (C:Nat->List Mq.Hp) (m:Nat):∀ k,(bE (m+k) C).length=(bE m C).length+(bE k fun e=>C (e+m)).length:=by
 intro k
 induction k with
 | zero=>rfl
 | succ k ih=>
   rw [<-Nat.add_assoc,kR,kR,List.length_append,List.length_append,ih,Nat.add_comm m k]
   omega
theorem SG {Z:Js} {G:Sw.Sh} {n0:Nat} {ls:List Pr} (hZ:Sw.JD l Z L) (hO:Sw.oG n0 Z L G) (hold:∀ w p e,¬old w p e) (dZ:∀ b,b<2*Z.n->bp (Z.C b)=own ls (2*Z.n) b) (hk:(ls.map (·.1)).Nodup) (jx:Z.few=ls.length):
 Rest l ⟨Z.n,Z.B2,Z.few,Z.cap,Z.two,flat Z.n Z.two⟩ L/\∀ R k,bW Z.wy L l old R k->bW (Rs.wy ⟨Z.n,Z.B2,Z.few,Z.cap,Z.two,flat Z.n Z.two⟩) L l old' R k:=by
 have hz:=hZ.1
 have WE:=hZ.2
 have hp:=hO.bq
 have bz:=hO.xl
 have lH:=hO.xm
 have hf:=hz.few
 have cm:∀ b,b<2*Z.n->(dO (Z.C b)).Nodup:=fun b hb=>by
  have h3:dO (Z.C b)=(bp (Z.C b)).map (·.1):=by simp [bp]
  rw [h3,dZ b hb]
  exact (List.filter_sublist.map _).nodup hk
 have hlen:(bE Z.n Z.two).length=ls.length:=by
  have e1:(bE Z.n Z.two).length=(bE Z.n Z.C).length+(bE Z.n fun e=>Z.C (e+Z.n)).length:=SE Z.C Z.n Z.n
  have e2:=SF Z.C Z.n Z.n
  have e3:=SH ls (n:=2*Z.n) (cs:=Z.C) dZ (2*Z.n) (Nat.le_refl _)
  have e4:(ls.filter fun p=>decide (aj p.1 (2*Z.n)<2*Z.n))=ls:=List.filter_eq_self.2 fun p _=>decide_eq_true (dI hz.jR p.1).1
  rw [e4] at e3
  rw [show Z.n+Z.n=2*Z.n by omega] at e2
  omega
 have hB:=Js.Ok.base hz hp hO.tabs (by omega) cm (by omega)
 have wK:(flat Z.n Z.two).length=ls.length:=by rw [lX]; exact hlen
 refine ⟨⟨hB,fun key=>?_,⟨by show Z.few=(flat Z.n Z.two).length; omega,by show (flat Z.n Z.two).length<=35; omega⟩,⟨hf.2.2.1,hf.2.2.2⟩,⟨hO.aE,hO.hl⟩,fun b hb a ha=>?_⟩,fun R k hR=>?_⟩
 ·rw [hB.lk key]
  exact hz.Hj key
 ·have hb:b<Z.n:=hb
  have ha:a∈Z.C b++Z.C (b+Z.n):=ha
  rcases List.mem_append.1 ha with q | q
  ·exact hO.pos b (by omega) a q
  ·exact hO.pos (b+Z.n) (by omega) a q
 ·refine hR.to rfl (Int.le_refl _) rfl rfl (Nat.le_refl _) (fun key c p hC=>?_) (fun key q p hP=>?_)
  ·rcases hC with ⟨_,hC⟩ | ⟨hC,_⟩
   ·rcases hC with hC | hC
    ·rw [hp] at hC; simp at hC
    ·exact absurd hC (hold _ _ _)
   ·exact hC
  ·rcases hP with hP | ⟨_,hP⟩
   ·exact LW hz (hz.all hp) key hP
   ·exact hP
end
end Go.Proofs.YtpanebgakndddaaGreat.Bs
namespace Go.Proofs.YtpanebgakndddaaGreat.Zr
open Go Hm Ar Mm Wk Pc Me Mq Pu Pn Gt Qs Zp Mx cL Bs
inductive ma
 | none
 | cf (G:Gw.Gr)
 | shr (G:Sw.Sh)
structure Rz where
 worker:Int
 size:Int
 nx:Nat
 err:Int
 inn:ma
def look (L:Lm) (R:Rz):Rz:=
 if ((now L.xs L.ds).1:Int)=R.size then {R with nx:=7} else if ((now L.xs L.ds).1:Int)<R.size then {R with nx:=6,inn:=.cf (Gw.iJ R.worker)} else {R with nx:=6,inn:=.shr (Sw.ij R.worker)}
def after (L:Lm) (R:Rz) (e:Int):Rz:=if e=0 then look L {R with err:=e} else {R with err:=e,nx:=7}
def bC (L:Lm) (R:Rz):Lm×Rz:=
 if R.nx=0 then (L,{R with err:=5,nx:=12})
 else if R.nx=1 then ({L with hs:=L.hs.set 5 R.worker},{R with nx:=2})
 else if R.nx<=4 then ({L with hs:=L.hs.set (R.nx-1) R.worker},{R with nx:=R.nx+1})
 else if R.nx=5 then ({L with hs:=L.hs.set 4 R.worker},look L R)
 else if R.nx=6 then
  match R.inn with
  | .none=>(L,R)
  | .cf G=>((Gw.aF L G).1,if Gw.ck L G=true then after (Gw.aF L G).1 {R with inn:=.cf (Gw.aF L G).2} (Gw.aF L G).2.err else {R with inn:=.cf (Gw.aF L G).2})
  | .shr G=>((Sw.aG L G).1,if Sw.bY L G=true then after (Sw.aG L G).1 {R with inn:=.shr (Sw.aG L G).2} (Sw.aG L G).2.err else {R with inn:=.shr (Sw.aG L G).2})
 else if R.nx<=10 then ({L with hs:=L.hs.set (11-R.nx) (-1)},{R with nx:=R.nx+1})
 else ({L with hs:=L.hs.set 5 (-1)},{R with nx:=12})
def j6 (nx:Nat):Nat:=if nx=1 then 5 else nx-1
def gB (L:Lm) (R:Rz):Bool:=
 if 1<=R.nx/\R.nx<=5 then decide (0<=R.worker/\Lo.aE L.hs (j6 R.nx)= -1)
 else if R.nx=6 then (match R.inn with | .none=>true | .cf G=>Gw.kW L G | .shr G=>Sw.eL L G)
 else true
def eK (_L:Lm) (R:Rz):Bool:=decide (R.nx=0\/11<=R.nx)
structure ox (L:Lm) (R:Rz):Prop where
 nx:R.nx<=11
 x1:1<L.xs.length
 hl:L.hs.length=6
 wk:R.nx≠0->0<=R.worker/\R.worker<=1000
 tb:∀ i,(aN L.ds i).1<=65536
 inn:R.nx=6->(∃ G,R.inn=.cf G/\Gw.pF L G)\/(∃ G,R.inn=.shr G/\Sw.pz L G)
 held:7<=R.nx->R.nx<=10->Lo.aE L.hs (11-R.nx)=R.worker
 last:R.nx=11->Lo.aE L.hs 5=R.worker
/-! ### ways from so many buckets to so many-/
def gc (n few:Nat):Nat:=2+n*(few+4)+(1+12*(few+1)+n*few)
def sc (m few:Nat):Nat:=2+m*(few+4)+12
inductive Up (few s:Nat):Nat->Nat->Nat->Nat->Prop
 | done:Up few s s 0 0 0
 | more {n c x t:Nat}:FM.bo ((2*n:Nat):Int)=true->Up few s (2*n) c x t->Up few s n (gc n few+c) (2*n+x) (t+1)
inductive Dn (few s:Nat):Nat->Nat->Nat->Nat->Nat->Prop
 | done:Dn few s s 0 0 0 0
 | more {m c x t a:Nat}:FM.bo m=true->Dn few s m c x t a->Dn few s (2*m) (sc m few+c) (m+x) (t+1) (m*few+a)
def ny (few s n c x t a:Nat):Prop:=Up few s n c x t\/Dn few s n c x t a
section
variable {few s n c x t a:Nat}
theorem Up.eqs (h:Up few s n c x t):c+(2*few+4)*n=t*(15+12*few)+(2*few+4)*s/\x+2*n=2*s/\n*2 ^ t=s:=by
 induction h with
 | done=>simp
 | @more n c x t _ _ ih=>
   obtain ⟨h1,h2,h3⟩:=ih
   refine ⟨?_,by omega,by rw [Nat.pow_succ,<-h3,Nat.mul_comm 2 n,Nat.mul_assoc,Nat.mul_comm 2]⟩
   have e1:(2*few+4)*(2*n)=(2*few+4)*n+(2*few+4)*n:=by rw [show 2*n=n+n by omega,Nat.mul_add]
   have e2:gc n few=(2*few+4)*n+(15+12*few):=by
    unfold gc
    have:(2*few+4)*n=n*(few+4)+n*few:=by rw [Nat.mul_comm,<-Nat.mul_add]; congr 1; omega
    rw [this]
    omega
   have e3:(t+1)*(15+12*few)=t*(15+12*few)+(15+12*few):=by rw [Nat.add_mul,Nat.one_mul]
   omega
theorem Up.le (h:Up few s n c x t):n<=s:=by
 have:=h.eqs
 omega
theorem Dn.eqs (h:Dn few s n c x t a):c+(few+4)*s=t*14+(few+4)*n/\x+s=n/\a+few*s=few*n/\s*2 ^ t=n:=by
 induction h with
 | done=>simp
 | @more m c x t a _ _ ih=>
   obtain ⟨h1,h2,h3,h4⟩:=ih
   have e1:(few+4)*(2*m)=(few+4)*m+(few+4)*m:=by rw [show 2*m=m+m by omega,Nat.mul_add]
   have e2:sc m few=(few+4)*m+14:=by unfold sc; rw [Nat.mul_comm]; omega
   have e3:few*(2*m)=few*m+few*m:=by rw [show 2*m=m+m by omega,Nat.mul_add]
   have e4:m*few=few*m:=Nat.mul_comm _ _
   have e5:(t+1)*14=t*14+14:=by omega
   exact ⟨by omega,by omega,by omega,by rw [Nat.pow_succ,<-Nat.mul_assoc,h4,Nat.mul_comm]⟩
theorem Dn.le (h:Dn few s n c x t a):s<=n:=by
 have:=h.eqs
 omega
theorem Dn.inv (h:Dn few s n c x t a):(n=s/\c=0/\x=0/\t=0/\a=0)\/∃ m c' x' t' a',n=2*m/\FM.bo m=true/\Dn few s m c' x' t' a'/\c=sc m few+c'/\x=m+x'/\t=t'+1/\a=m*few+a':=by
 cases h with
 | done=>exact .inl ⟨rfl,rfl,rfl,rfl,rfl⟩
 | more h1 h2=>exact .inr ⟨_,_,_,_,_,rfl,h1,h2,rfl,rfl,rfl,rfl⟩
theorem Bc (few:Nat) (a:Nat) (ha:a<=16):∀ (t b:Nat),b+t=a->∃ c x,Up few (2 ^ a) (2 ^ b) c x t:=by
 intro t
 induction t with
 | zero=>intro b h; exact ⟨0,0,by rw [show b=a by omega]; exact .done⟩
 | succ t ih=>
   intro b h
   obtain ⟨c,x,h1⟩:=ih (b+1) (by omega)
   rw [Nat.pow_succ,Nat.mul_comm] at h1
   refine ⟨_,_,.more ?_ h1⟩
   rw [Nat.mul_comm,<-Nat.pow_succ]
   exact H8 (by omega)
theorem FA (few:Nat) (b:Nat):∀ (t a:Nat),b+t=a->a<=16->∃ c x k,Dn few (2 ^ b) (2 ^ a) c x t k:=by
 intro t
 induction t with
 | zero=>intro a h _; exact ⟨0,0,0,by rw [<-h,Nat.add_zero]; exact .done⟩
 | succ t ih=>
   intro a h ha
   obtain ⟨c,x,k,h1⟩:=ih (a-1) (by omega) (by omega)
   refine ⟨sc (2 ^ (a-1)) few+c,2 ^ (a-1)+x,2 ^ (a-1)*few+k,?_⟩
   have:=Dn.more (few:=few) (H8 (k:=a-1) (by omega)) h1
   rw [show 2*2 ^ (a-1)=2 ^ a by rw [Nat.mul_comm,<-Nat.pow_succ]; congr 1; omega] at this
   exact this
end
/-! ### which mf are held-/
def dx (nx:Nat) (w:Int) (i:Nat):Int:=if i=5 then (if 2<=nx/\nx<=11 then w else-1) else if i+2<=nx/\nx+i<=11 then w else-1
theorem qO {hs:List Int} (i j:Nat) (v:Int) (hi:i<hs.length):Lo.aE (hs.set i v) j=if j=i then v else Lo.aE hs j:=by
 unfold Lo.aE
 simp only [List.getD_eq_getElem?_getD]
 by_cases h:j=i
 ·subst h; rw [if_pos rfl]; simp [hi]
 ·rw [if_neg h,List.getElem?_set_ne (by omega)]
end Go.Proofs.YtpanebgakndddaaGreat.Zr
namespace Go.Proofs.YtpanebgakndddaaGreat.Zr
open Go Hm Ar Mm Wk Pc Me Mq Pu Pn Gt Qs Zp Mx cL Bs
inductive Dz
 | rest (Y:Rs)
 | cf (Z:Zs)
 | shr (Z:Js)
def Dz.wy:Dz->Wy
 | .rest Y=>Y.wy
 | .cf Z=>Z.wy
 | .shr Z=>Z.wy
def Dz.Ok (l:List Pr):Dz->Lm->Prop
 | .rest Y,L=>Bs.Rest l Y L
 | .cf Z,L=>ZD l Z L
 | .shr Z,L=>Sw.JD l Z L
def Dz.all:Dz->List Nat
 | .rest Y=>bE Y.n Y.cs
 | .cf Z=>bE Z.n Z.aU
 | .shr Z=>bE (2*Z.n) Z.C
structure Kp (L L':Lm):Prop where
 ss:L'.ss.length=L.ss.length
 tk:∀ k,(ai L'.ss k).taken=(ai L.ss k).taken/\(ai L'.ss k).gen=(ai L.ss k).gen
 ws:L'.ws=L.ws
 k:L'.k=L.k
 F:L'.F=L.F
theorem Kp.refl (L:Lm):Kp L L:=⟨rfl,fun _=>⟨rfl,rfl⟩,rfl,rfl,rfl⟩
theorem Kp.of {L L' L'':Lm} (h:Kp L L') (h':Gw.im L' L''):Kp L L'':=⟨h'.ss.trans h.ss,fun k=>⟨(h'.tk k).1.trans (h.tk k).1,(h'.tk k).2.trans (h.tk k).2⟩,h'.ws.trans h.ws,h'.k.trans h.k,h'.F.trans h.F⟩
theorem Kp.more {L L' L'':Lm} (h:Kp L L') (e1:L''.ss=L'.ss) (e2:L''.ws=L'.ws) (e3:L''.k=L'.k) (e4:L''.F=L'.F):Kp L L'':=⟨by rw [e1]; exact h.ss,by rw [e1]; exact h.tk,e2.trans h.ws,e3.trans h.k,e4.trans h.F⟩
structure mP where
 X:Nat
 D:Nat
 P:Int
structure Rc (L0:Lm) (H:List Nat) (N:mP) (s:Nat) (D:Dz) (L:Lm) (R:Rz) (m:Nat):Prop where
 wk:0<=R.worker/\R.worker<=1000
 err:R.err=0
 sz:R.size=s
 kp:Kp L0 L
 hl:L.hs.length=6
 hs:∀ i,1<=i->i<=5->Lo.aE L.hs i=dx R.nx R.worker i
 pd:Cl.nth L.xs 0+m<=N.P
 nb:N.X<=1048576/\N.D<=800000/\N.P<=1000000000000
 perm:(Dz.all D).Perm H
inductive Rp (N:mP) (l:List Pr) (s:Nat) (L:Lm) (R:Rz) (old:Nat->Int->Nat->Prop):Dz->Nat->Nat->Prop
 | take {m c:Nat} (Y:Rs) (cst x t a:Nat):1<=R.nx/\R.nx<=5->ny Y.few s Y.n cst x t a->(6-R.nx)+cst+5<=m->a<=c->Y.cap+a<=1000000->L.xs.length+x<=N.X->L.ds.length+t<=N.D->Rp N l s L R old (.rest Y) m c
 | cf {m c:Nat} (Z:Zs) (G:Gw.Gr) (ls:List Pr) (mi ci cst x t d:Nat):R.nx=6->R.inn=.cf G->Gw.J Z.n ls Z old L G mi ci->nu ls l->(ls.map (·.1)).Nodup->Z.few=ls.length->Up Z.few s (2*Z.n) cst x t->mi+cst+5<=m->ci<=c->Z.B2+2*Z.n+x<=N.X->L.ds.length<=d+1/\(G.nx<=2->L.ds.length<=d)->d+1+t<=N.D->Rp N l s L R old (.cf Z) m c
 | shr {m c:Nat} (Z:Js) (G:Sw.Sh) (ls:List Pr) (mi ci cst x t a d:Nat):R.nx=6->R.inn=.shr G->Sw.J Z.n Z old L G mi ci->(∀ b,b<2*Z.n->bp (Z.C b)=own ls (2*Z.n) b)->(ls.map (·.1)).Nodup->Z.few=ls.length->Dn Z.few s Z.n cst x t a->mi+cst+5<=m->ci+a<=c->Z.cap+ci+a<=1000000->Z.B2+Z.n+x<=N.X->
    L.ds.length<=d+1/\(G.nx<=2->L.ds.length<=d)->d+1+t<=N.D->Rp N l s L R old (.shr Z) m c
 | free {m c:Nat} (Y:Rs):7<=R.nx/\R.nx<=11->Y.n=s->12-R.nx<=m->L.xs.length<=N.X/\L.ds.length<=N.D->Rp N l s L R old (.rest Y) m c
def J (L0:Lm) (H:List Nat) (N:mP) (s:Nat) (l:List Pr) (D:Dz) (old:Nat->Int->Nat->Prop) (L:Lm) (R:Rz) (m c:Nat):Prop:=
 Rc L0 H N s D L R m/\Rp N l s L R old D m c
def yX (l:List Pr) (D:Dz) (L:Lm) (old:Nat->Int->Nat->Prop) (D':Dz) (L':Lm) (old':Nat->Int->Nat->Prop) (j:Nat):Prop:=
 ∀ (R:Rn) (k:Nat),(R.w:Int)<L.k->bW D.wy L l old R k->∃ k',k'<=k+j/\bW D'.wy L' l old' R k'
def bN (L0:Lm) (H:List Nat) (N:mP) (s:Nat) (l:List Pr) (D:Dz) (old:Nat->Int->Nat->Prop) (L:Lm) (R:Rz) (m c:Nat):Prop:=
 ∃ D' old' m' c' j,m'+1<=m/\c'+j<=c/\J L0 H N s l D' old' (bC L R).1 (bC L R).2 m' c'/\Dz.Ok l D' (bC L R).1/\yX l D L old D' (bC L R).1 old' j/\(∀ i:Nat,(i:Int)<L.k->Cl.nth (bC L R).1.xs (2+i)=Cl.nth L.xs (2+i))/\(bC L R).1.k=L.k
end Go.Proofs.YtpanebgakndddaaGreat.Zr
namespace Go.Proofs.YtpanebgakndddaaGreat.Zr
open Go Hm Ar Mm Wk Pc Me Mq Pu Pn Gt Qs Zp Mx cL Bs
section
variable {L0:Lm} {H:List Nat} {N:mP} {s:Nat} {l:List Pr} {D D':Dz} {L L':Lm} {R R':Rz} {m m' c c':Nat} {old old':Nat->Int->Nat->Prop} {Y:Rs}
theorem Dz.Ok.ways (h:D.Ok l L):D.wy.Ok L l:=by
 cases D with
 | rest Y=>exact Rest.ways h
 | cf Z=>exact ZD.ways h
 | shr Z=>exact h.1.ways
theorem Rest.mf (h:Bs.Rest l Y L) {hs':List Int} (h0:Lo.aE hs' 0= -1) (hl:0<hs'.length):Bs.Rest l Y {L with hs:=hs'}:=
 ⟨{h.base with},h.iY,h.few,h.cap,⟨h0,hl⟩,h.pos⟩
theorem Ip {nx i:Nat} {w v:Int} {hs:List Int} (hl:hs.length=6) (h:∀ j,1<=j->j<=5->Lo.aE hs j=dx nx w j) (hi:1<=i/\i<=5) {nx':Nat} (h1:dx nx' w i=v) (h2:∀ j,1<=j->j<=5->j≠i->dx nx' w j=dx nx w j):∀ j,1<=j->j<=5->Lo.aE (hs.set i v) j=dx nx' w j:=fun j a b=>by
 rw [qO _ _ _ (by omega)]
 by_cases e:j=i
 ·rw [if_pos e,e,h1]
 ·rw [if_neg e,h2 j a b e,h j a b]
theorem Rc.to (h:Rc L0 H N s D L R m) (h1:R'.worker=R.worker/\R'.size=R.size) (he:R'.err=0) (hm:Cl.nth L'.xs 0+m'<=N.P) (hk:Kp L0 L') (hl:L'.hs.length=6) (hs:∀ i,1<=i->i<=5->Lo.aE L'.hs i=dx R'.nx R'.worker i) (hp:(Dz.all D').Perm (Dz.all D)):Rc L0 H N s D' L' R' m':=
 ⟨by rw [h1.1]; exact h.wk,he,by rw [h1.2]; exact h.sz,hk,hl,hs,hm,h.nb,hp.trans h.perm⟩
theorem J.ok (h:J L0 H N s l D old L R m c) (hD:D.Ok l L):ox L R:=by
 obtain ⟨hc,hp⟩:=h
 have hY:=hD.ways
 have xt:=hY.wl 0 (by have:=hY.k; omega)
 have m8:∀ i,(aN L.ds i).1<=65536:=fun i=>(hY.tb i).1
 have iB:=hc.wk
 have held:7<=R.nx->R.nx<=10->Lo.aE L.hs (11-R.nx)=R.worker:=fun a b=>by
  rw [hc.hs _ (by omega) (by omega)]
  unfold dx
  rw [if_neg (by omega),if_pos (by omega)]
 have last:R.nx=11->Lo.aE L.hs 5=R.worker:=fun a=>by
  rw [hc.hs _ (by omega) (by omega)]
  unfold dx
  rw [if_pos rfl,if_pos (by omega)]
 cases hp with
 | take Y cst x t a q _ _ _ _ _ _=>exact ⟨by omega,by omega,hc.hl,fun _=>iB,m8,fun e=>by omega,held,last⟩
 | cf Z G ls mi ci cst x t d e1 e2 e3 e4 _ _ _ _ _ _ _ _=>exact ⟨by omega,by omega,hc.hl,fun _=>iB,m8,fun _=>.inl ⟨G,e2,e3.ok (ZD.iY e4.symm hD)⟩,held,last⟩
 | shr Z G ls mi ci cst x t a d e1 e2 e3 _ _ _ _ _ _ _ _ _ _=>exact ⟨by omega,by omega,hc.hl,fun _=>iB,m8,fun _=>.inr ⟨G,e2,e3.ok hD⟩,held,last⟩
 | free Y q _ _ _=>exact ⟨by omega,by omega,hc.hl,fun _=>iB,m8,fun e=>by omega,held,last⟩
theorem J.pos (h:J L0 H N s l D old L R m c):1<=m:=by
 cases h.2 with
 | take Y cst x t a q _ h _ _ _ _=>omega
 | cf Z G ls mi ci cst x t d e1 e2 e3 e4 _ _ _ h _ _ _ _=>omega
 | shr Z G ls mi ci cst x t a d e1 e2 e3 _ _ _ _ h _ _ _ _ _=>omega
 | free Y q _ h _=>omega
theorem looked {cst x t a:Nat} (hc:Rc L0 H N s (.rest Y) L R m) (hY:Bs.Rest l Y L) (hw:ny Y.few s Y.n cst x t a) (hx:L.xs.length+x<=N.X) (ht:L.ds.length+t<=N.D) (fD:Y.cap+a<=1000000) (hm:cst+5<=m) (Av:a<=c) (Aw:dx 6 R.worker=dx R.nx R.worker):
 ∃ D' old',J L0 H N s l D' old' L (look L R) m c/\D'.Ok l L/\yX l (.rest Y) L old D' L old' 0:=by
 have bU:=hY.base.now
 have jm:=hY.base.n1
 have cO:=hc.sz
 have kO:=hc.pd
 have mo:=hc.nb
 have KS:dx 7 R.worker=dx 6 R.worker:=by
  funext i
  unfold dx
  by_cases h5:i=5
  ·rw [if_pos h5,if_pos h5]; simp
  ·rw [if_neg h5,if_neg h5]
   by_cases q:i<=4
   ·rw [if_pos (by omega),if_pos (by omega)]
   ·rw [if_neg (by omega),if_neg (by omega)]
 unfold look
 rw [bU,cO]
 simp only
 rcases hw with hw | hw
 ·cases hw with
  | done=>
    rw [if_pos rfl]
    exact ⟨.rest Y,old,⟨hc.to ⟨rfl,cO▸rfl⟩ hc.err kO hc.kp hc.hl (fun i a b=>by rw [hc.hs i a b]; show _=dx 7 R.worker i; rw [KS,Aw]) (List.Perm.refl _),.free Y ⟨by simp,by simp⟩ rfl (by simp only; omega) ⟨by omega,by omega⟩⟩,hY,fun _ k _ hR=>⟨k,Nat.le_refl _,hR⟩⟩
  | @more _ c' x' t' gU kc=>
    have hle:=kc.le
    rw [if_neg (by omega),if_pos (by omega)]
    obtain ⟨Z,hZ,z1,z2,z3,z4,z5,hJ,hR⟩:=Rest.yz hY gU hc.wk (by omega) (by omega) (by omega)
    rw [<-z3,<-z1] at kc
    rw [<-z1] at hJ
    refine ⟨.cf Z,fun _ _ _=>True,⟨hc.to ⟨rfl,cO▸rfl⟩ hc.err kO hc.kp hc.hl (fun i a b=>by rw [hc.hs i a b]; show _=dx 6 R.worker i; rw [Aw]) (by show (bE Z.n Z.aU).Perm (bE Y.n Y.cs); rw [z1,z2]),.cf Z (Gw.iJ R.worker) Y.ls _ _ _ _ _ L.ds.length rfl rfl hJ hY.iY hY.base.keys (by rw [z3]; exact hY.few.1) kc ?_ (Nat.zero_le _) ?_ ⟨by omega,fun _=>Nat.le_refl _⟩ (by omega)⟩,ZD.iY hY.iY hZ,fun R k _ h=>⟨k,Nat.le_refl _,hR R k h⟩⟩
    ·have:gc Y.n Y.few=2+Y.n*(Y.few+4)+(1+12*(Y.few+1)+Y.n*Y.few):=rfl
     rw [z1]
     omega
    ·have h1:=hJ.1.xl
     rw [if_pos (show (Gw.iJ R.worker).nx<=2 by show 1<=2; omega)] at h1
     omega
 ·rcases hw.inv with ⟨e,e1,e2,e3,e4⟩ | ⟨q,c',x',t',a',e,KT,ct,e1,e2,e3,e4⟩
  ·rw [if_pos (by omega)]
   exact ⟨.rest Y,old,⟨hc.to ⟨rfl,cO▸rfl⟩ hc.err kO hc.kp hc.hl (fun i a b=>by rw [hc.hs i a b]; show _=dx 7 R.worker i; rw [KS,Aw]) (List.Perm.refl _),.free Y ⟨by simp,by simp⟩ e (by simp only; omega) ⟨by omega,by omega⟩⟩,hY,fun _ k _ hR=>⟨k,Nat.le_refl _,hR⟩⟩
  ·have hle:=ct.le
   have Ez:=FM.eW KT
   rw [if_neg (by omega),if_neg (by omega)]
   obtain ⟨Z,hZ,z1,z2,z3,z4,hJ,hR⟩:=Rest.SD (old:=old) (old':=old) hY e.symm KT hc.wk (by omega) (by omega) (by omega) (by omega)
   have dZ:=hY.base.own
   rw [e] at dZ
   rw [<-z3,<-z1] at ct
   rw [<-z1] at hJ
   refine ⟨.shr Z,old,⟨hc.to ⟨rfl,cO▸rfl⟩ hc.err kO hc.kp hc.hl (fun i a b=>by rw [hc.hs i a b]; show _=dx 6 R.worker i; rw [Aw]) (by show (bE (2*Z.n) Z.C).Perm (bE Y.n Y.cs); rw [z1,z2,e]),.shr Z (Sw.ij R.worker) Y.ls _ _ _ _ _ _ L.ds.length rfl rfl hJ (by rw [z1,z2]; exact dZ) hY.base.keys (by rw [z3]; exact hY.few.1) ct ?_ ?_ ?_ ?_ ⟨by omega,fun _=>Nat.le_refl _⟩ (by omega)⟩,⟨Js.Ok.iY hY.iY hZ.1,hZ.2⟩,fun R k _ h=>⟨k,Nat.le_refl _,hR R k h⟩⟩
   ·have:sc q Y.few=2+q*(Y.few+4)+12:=rfl
    rw [z1]
    omega
   ·rw [z1]; omega
   ·rw [z1,z4]; omega
   ·have h1:=hJ.1.xl
    rw [if_pos (show (Sw.ij R.worker).nx<=2 by show 1<=2; omega)] at h1
    omega
end
end Go.Proofs.YtpanebgakndddaaGreat.Zr
namespace Go.Proofs.YtpanebgakndddaaGreat.Zr
open Go Hm Ar Mm Wk Pc Me Mq Pu Pn Gt Qs Zp Mx cL Bs
theorem Iq (C:Nat->List Mq.Hp) (m:Nat):∀ k,bE (m+k) C=bE m C++bE k fun e=>C (e+m):=by
 intro k
 induction k with
 | zero=>simp [bE]
 | succ k ih=>
   rw [<-Nat.add_assoc,kR,kR,ih,Nat.add_comm m k,List.append_assoc]
theorem Ir (A B:Nat->List Mq.Hp):∀ k,(bE k A++bE k B).Perm (bE k fun e=>A e++B e):=by
 intro k
 induction k with
 | zero=>simp [bE]
 | succ k ih=>
   rw [kR,kR,kR]
   have e:aL (A k++B k)=aL (A k)++aL (B k):=by simp [aL]
   simp only [e]
   have h1:(bE k A++aL (A k)++(bE k B++aL (B k))).Perm (bE k A++bE k B++(aL (A k)++aL (B k))):=by
    rw [List.append_assoc,List.append_assoc,<-List.append_assoc (aL (A k)),<-List.append_assoc (bE k B)]
    exact List.Perm.append_left _ (List.Perm.append_right _ List.perm_append_comm)
   exact h1.trans (List.Perm.append_right _ ih)
theorem S3 {A B:Nat->List Mq.Hp} (k:Nat) (h:∀ e,e<k->(aL (A e)).Perm (aL (B e))):(bE k A).Perm (bE k B):=by
 induction k with
 | zero=>exact List.Perm.refl _
 | succ k ih=>
   rw [kR,kR]
   exact (ih fun e he=>h e (by omega)).append (h k (by omega))
theorem S4 (n:Nat) (hn:0<n) (aU:Nat->List Mq.Hp):(bE (2*n) fun b=>(aU (b % n)).filter fun a=>sd n a.2.1==decide (n<=b)).Perm (bE n aU):=by
 rw [show 2*n=n+n by omega,Iq]
 refine (Ir _ _ n).trans (S3 n fun e he=>?_)
 simp only [Nat.add_mod_right,Nat.mod_eq_of_lt he]
 rw [show decide (n<=e)=false by simp; omega,show decide (n<=e+n)=true by simp]
 refine List.Perm.map _ ?_
 have:=List.filter_append_perm (fun a:Mq.Hp=>sd n a.2.1==false) (aU e)
 have e1:(fun a:Mq.Hp=> !(sd n a.2.1==false))=fun a=>sd n a.2.1==true:=funext fun a=>by cases sd n a.2.1<;>rfl
 rw [e1] at this
 exact this
theorem S5 (n:Nat) (C:Nat->List Mq.Hp):(bE n fun e=>C e++C (e+n)).Perm (bE (2*n) C):=by
 rw [show 2*n=n+n by omega,Iq]
 exact (Ir _ _ n).symm
section
variable {L0:Lm} {H:List Nat} {N:mP} {s:Nat} {l:List Pr} {D D':Dz} {L L':Lm} {R R':Rz} {m m' c c':Nat} {old old':Nat->Int->Nat->Prop} {Y:Rs}
theorem bN.of {j:Nat} (e:bC L R=(L',R')) (hm:m'+1<=m) (EA:c'+j<=c) (hJ:J L0 H N s l D' old' L' R' m' c') (hD:D'.Ok l L') (hB:yX l D L old D' L' old' j) (h3:∀ i:Nat,(i:Int)<L.k->Cl.nth L'.xs (2+i)=Cl.nth L.xs (2+i)) (hk:L'.k=L.k):bN L0 H N s l D old L R m c:=by
 refine ⟨D',old',m',c',j,hm,EA,?_⟩
 rw [e]
 exact ⟨hJ,hD,hB,h3,hk⟩
theorem CT {hs:List Int} (h:Lo.aE hs 0= -1) (hl:hs.length=6) (i:Nat) (v:Int) (hi:1<=i/\i<=5):Lo.aE (hs.set i v) 0= -1/\(hs.set i v).length=6:=by
 refine ⟨?_,by simpa using hl⟩
 rw [qO _ _ _ (by omega),if_neg (by omega)]
 exact h
theorem J.take (h:J L0 H N s l D old L R m c) (hD:D.Ok l L) (hx:1<=R.nx/\R.nx<=5):bN L0 H N s l D old L R m c:=by
 obtain ⟨hc,hp⟩:=h
 have kO:=hc.pd
 cases hp with
 | take Y cst x t a q hw hm Av fD th Ah=>
   have hD:Bs.Rest l Y L:=hD
   obtain ⟨i,hi⟩:∃ i,i=j6 R.nx:=⟨_,rfl⟩
   have KU:1<=i/\i<=5:=by rw [hi]; unfold j6; split<;>omega
   obtain ⟨l0,l6⟩:=CT hD.aE.1 hc.hl i R.worker KU
   have dH:=Rest.mf hD l0 (by rw [l6]; omega)
   have hF:dx (R.nx+1) R.worker i=R.worker:=by
    rw [hi]
    unfold dx j6
    by_cases q1:R.nx=1
    ·rw [if_pos q1,if_pos rfl,if_pos (by omega)]
    ·rw [if_neg q1,if_neg (by omega),if_pos (by omega)]
   have aQ:∀ j,1<=j->j<=5->j≠i->dx (R.nx+1) R.worker j=dx R.nx R.worker j:=fun j a b e=>by
    have e:j≠j6 R.nx:=by rw [<-hi]; exact e
    unfold j6 at e
    unfold dx
    by_cases q5:j=5
    ·rw [if_pos q5,if_pos q5]
     by_cases q1:R.nx=1
     ·rw [if_pos q1] at e; omega
     ·rw [if_pos (by omega),if_pos (by omega)]
    ·rw [if_neg q5,if_neg q5]
     by_cases q1:R.nx=1
     ·rw [if_neg (by omega),if_neg (by omega)]
     ·rw [if_neg q1] at e
      by_cases q2:j+2<=R.nx
      ·rw [if_pos (by omega),if_pos (by omega)]
      ·rw [if_neg (by omega),if_neg (by omega)]
   have Ax:=Ip hc.hl hc.hs KU hF aQ
   have kP:Kp L0 {L with hs:=L.hs.set i R.worker}:=hc.kp.more rfl rfl rfl rfl
   have KV:yX l (.rest Y) L old (.rest Y) {L with hs:=L.hs.set i R.worker} old 0:=fun R k _ hR=>⟨k,Nat.le_refl _,hR.jt rfl (Int.le_refl _) rfl⟩
   by_cases h5:R.nx=5
   ·have WJ:i=4:=by rw [hi]; unfold j6; rw [if_neg (by omega)]; omega
    have es:bC L R=({L with hs:=L.hs.set i R.worker},look {L with hs:=L.hs.set i R.worker} R):=by
     unfold bC
     rw [if_neg (by omega),if_neg (by omega),if_neg (by omega),if_pos h5,WJ]
     rfl
    have et:Rc L0 H N s (.rest Y) {L with hs:=L.hs.set i R.worker} {R with nx:=6} (m-1):=hc.to (R':={R with nx:=6}) ⟨rfl,rfl⟩ hc.err (by show Cl.nth L.xs 0+_<=_; omega) kP l6 (fun j a b=>by rw [Ax j a b,h5]) (List.Perm.refl _)
    obtain ⟨D',old',g1,g2,g3⟩:=looked (c:=c) et dH hw th Ah fD (by omega) Av rfl
    have cw:look {L with hs:=L.hs.set i R.worker} {R with nx:=6}=look {L with hs:=L.hs.set i R.worker} R:=by unfold look; rfl
    rw [cw] at g1
    exact bN.of (m':=m-1) (c':=c) (j:=0) es (by omega) (by omega) g1 g2 (fun R k hk hR=>by
     obtain ⟨k1,a1,a2⟩:=KV R k hk hR
     obtain ⟨k2,b1,b2⟩:=g3 R k1 hk a2
     exact ⟨k2,by omega,b2⟩) (fun _ _=>rfl) rfl
   ·have es:bC L R=({L with hs:=L.hs.set i R.worker},{R with nx:=R.nx+1}):=by
     unfold bC
     rw [if_neg (by omega)]
     by_cases q1:R.nx=1
     ·rw [if_pos q1,hi,q1]; rfl
     ·rw [if_neg q1,if_pos (by omega),hi]
      unfold j6
      rw [if_neg q1]
    exact bN.of (m':=m-1) (c':=c) (j:=0) es (by omega) (by omega) ⟨hc.to (R':={R with nx:=R.nx+1}) ⟨rfl,rfl⟩ hc.err (by show Cl.nth L.xs 0+_<=_; omega) kP l6 Ax (List.Perm.refl _),.take Y cst x t a ⟨by simp only; omega,by simp only; omega⟩ hw (by simp only; omega) Av fD th Ah⟩ dH KV (fun _ _=>rfl) rfl
 | cf Z G ls mi ci cst x t d e1 _ _ _ _ _ _ _ _ _ _ _=>omega
 | shr Z G ls mi ci cst x t a d e1 _ _ _ _ _ _ _ _ _ _ _ _=>omega
 | free Y q _ _ _=>omega
theorem J.free (h:J L0 H N s l D old L R m c) (hD:D.Ok l L) (hx:7<=R.nx/\R.nx<=10):bN L0 H N s l D old L R m c:=by
 obtain ⟨hc,hp⟩:=h
 have kO:=hc.pd
 cases hp with
 | free Y q hn hm Ay=>
   have hD:Bs.Rest l Y L:=hD
   obtain ⟨l0,l6⟩:=CT hD.aE.1 hc.hl (11-R.nx) (-1) (by omega)
   have dH:=Rest.mf hD l0 (by rw [l6]; omega)
   have hF:dx (R.nx+1) R.worker (11-R.nx)= -1:=by
    unfold dx
    rw [if_neg (by omega),if_neg (by omega)]
   have aQ:∀ j,1<=j->j<=5->j≠11-R.nx->dx (R.nx+1) R.worker j=dx R.nx R.worker j:=fun j a b e=>by
    unfold dx
    by_cases q5:j=5
    ·rw [if_pos q5,if_pos q5,if_pos (by omega),if_pos (by omega)]
    ·rw [if_neg q5,if_neg q5]
     by_cases q2:R.nx+1+j<=11
     ·rw [if_pos (by omega),if_pos (by omega)]
     ·rw [if_neg (by omega),if_neg (by omega)]
   have Ax:=Ip hc.hl hc.hs (by omega) hF aQ
   have es:bC L R=({L with hs:=L.hs.set (11-R.nx) (-1)},{R with nx:=R.nx+1}):=by
    unfold bC
    rw [if_neg (by omega),if_neg (by omega),if_neg (by omega),if_neg (by omega),if_neg (by omega),if_pos (by omega)]
   exact bN.of (m':=m-1) (c':=c) (j:=0) (old':=old) es (by omega) (by omega) ⟨hc.to (R':={R with nx:=R.nx+1}) ⟨rfl,rfl⟩ hc.err (by show Cl.nth L.xs 0+_<=_; omega) (hc.kp.more rfl rfl rfl rfl) l6 Ax (List.Perm.refl _),.free Y ⟨by simp only; omega,by simp only; omega⟩ hn (by simp only; omega) Ay⟩ dH
    (fun R k _ hR=>⟨k,Nat.le_refl _,hR.jt rfl (Int.le_refl _) rfl⟩) (fun _ _=>rfl) rfl
 | take Y cst x t a q _ _ _ _ _ _=>omega
 | cf Z G ls mi ci cst x t d e1 _ _ _ _ _ _ _ _ _ _ _=>omega
 | shr Z G ls mi ci cst x t a d e1 _ _ _ _ _ _ _ _ _ _ _ _=>omega
theorem J.cM (h:J L0 H N s l D old L R m c) (hD:D.Ok l L) (hd:eK L R=true):∃ Y,D=.rest Y/\Bs.Rest l Y (bC L R).1/\Y.n=s/\(bC L R).2.err=0/\(bC L R).1={L with hs:=L.hs.set 5 (-1)}/\(∀ i,i<=5->Lo.aE (bC L R).1.hs i= -1)/\(bC L R).1.hs.length=6/\Kp L0 (bC L R).1/\(bE Y.n Y.cs).Perm H/\Cl.nth (bC L R).1.xs 0<=N.P/\(bC L R).1.xs.length<=N.X/\(bC L R).1.ds.length<=N.D:=by
 obtain ⟨hc,hp⟩:=h
 have kO:=hc.pd
 unfold eK at hd
 have hd:=of_decide_eq_true hd
 cases hp with
 | free Y q hn hm Ay=>
   have Az:R.nx=11:=by omega
   have hD:Bs.Rest l Y L:=hD
   obtain ⟨l0,l6⟩:=CT hD.aE.1 hc.hl 5 (-1) (by omega)
   have es:bC L R=({L with hs:=L.hs.set 5 (-1)},{R with nx:=12}):=by
    unfold bC
    rw [if_neg (by omega),if_neg (by omega),if_neg (by omega),if_neg (by omega),if_neg (by omega),if_neg (by omega)]
   rw [es]
   refine ⟨Y,rfl,Rest.mf hD l0 (by rw [l6]; omega),hn,hc.err,rfl,fun i hi=>?_,l6,hc.kp.more rfl rfl rfl rfl,hc.perm,by show Cl.nth L.xs 0<=_; omega,Ay.1,Ay.2⟩
   show Lo.aE (L.hs.set 5 (-1)) i= -1
   rcases Nat.eq_zero_or_pos i with q | q
   ·rw [q]; exact l0
   ·rw [qO _ _ _ (by have:=hc.hl; omega)]
    split
    ·rfl
    ·rw [hc.hs i q hi]
     unfold dx
     rw [if_neg (by omega),if_neg (by omega)]
 | take Y cst x t a q _ _ _ _ _ _=>omega
 | cf Z G ls mi ci cst x t d e1 _ _ _ _ _ _ _ _ _ _ _=>omega
 | shr Z G ls mi ci cst x t a d e1 _ _ _ _ _ _ _ _ _ _ _ _=>omega
end
end Go.Proofs.YtpanebgakndddaaGreat.Zr
namespace Go.Proofs.YtpanebgakndddaaGreat.Zr
open Go Hm Ar Mm Wk Pc Me Mq Pu Pn Gt Qs Zp Mx cL Bs
section
variable {L0:Lm} {H:List Nat} {N:mP} {s:Nat} {l:List Pr} {D D':Dz} {L L':Lm} {R R':Rz} {m m' c c':Nat} {old old':Nat->Int->Nat->Prop} {Y:Rs}
theorem Is {L L':Lm} (h:Gw.im L L') (i:Nat) (hi:i≠0):Lo.aE L'.hs i=Lo.aE L.hs i:=by
 unfold Lo.aE
 simp only [List.getD_eq_getElem?_getD]
 rw [h.hs i hi]
theorem J.cf (h:J L0 H N s l D old L R m c) (hD:D.Ok l L) (h6:R.nx=6) {G:Gw.Gr} (hG:R.inn=.cf G) (hr:Gw.kW L G=true):bN L0 H N s l D old L R m c:=by
 obtain ⟨hc,hp⟩:=h
 have kO:=hc.pd
 have mo:=hc.nb
 have es0:bC L R=((Gw.aF L G).1,if Gw.ck L G=true then after (Gw.aF L G).1 {R with inn:=.cf (Gw.aF L G).2} (Gw.aF L G).2.err else {R with inn:=.cf (Gw.aF L G).2}):=by
  unfold bC
  rw [if_neg (by omega),if_neg (by omega),if_neg (by omega),if_neg (by omega),if_pos h6,hG]
 have mE:=Gw.PV L G
 have hs':∀ i,1<=i->i<=5->Lo.aE (Gw.aF L G).1.hs i=dx R.nx R.worker i:=fun i a b=>by rw [Is mE i (by omega)]; exact hc.hs i a b
 have xO:(Gw.aF L G).1.hs.length=6:=mE.hl.trans hc.hl
 have kP:=hc.kp.of mE
 cases hp with
 | cf Z G' ls mi ci cst x t d e1 e2 hJ rE bB jx kc hm iT hx hd EB=>
   rw [hG] at e2
   injection e2 with e2
   subst e2
   have hZ:ZD ls Z L:=ZD.iY rE.symm hD
   have WK:=hJ.Cg hZ
   have aL:=Gw.PW L G d hd
   have fF:=hJ.2.nx
   have EC:=hJ.2.pos
   cases ct:Gw.ck L G with
   | true=>
     obtain ⟨g1,g2,g3,g4,_⟩:=hJ.last hZ ct
     obtain ⟨r1,r2⟩:=grown (old:=old) (old':=old) (l:=l) g1 g2 g3 bB rE jx
     have nU:(Gw.aF L G).1.xs=L.xs:=by rw [g4]
     have cm:(Gw.aF L G).1.k=L.k:=by rw [g4]
     rw [ct,if_pos rfl] at es0
     unfold after at es0
     rw [g2.err,if_pos rfl] at es0
     have iy:=FM.eW hZ.1.pw
     have et:Rc L0 H N s (.rest ⟨2*Z.n,Z.B2,Z.few,Z.cap,fun b=>(Z.aU (b % Z.n)).filter fun a=>sd Z.n a.2.1==decide (Z.n<=b),ls⟩) (Gw.aF L G).1 {R with inn:=.cf (Gw.aF L G).2,err:=0} (m-1):=
      hc.to (R':={R with inn:=.cf (Gw.aF L G).2,err:=0}) ⟨rfl,rfl⟩ rfl (by omega) kP xO hs' (S4 Z.n (by omega) Z.aU)
     have hz:=hZ.1.few
     obtain ⟨D',old',b1,b2,b3⟩:=looked (c:=c) (cst:=cst) (x:=x) (t:=t) (a:=0) et r1 (.inl kc) (by have:=g2.xl; omega) (by omega) (by show Z.cap+0<=_; omega) (by omega) (by omega) (by show dx 6 R.worker=dx R.nx R.worker; rw [h6])
     refine bN.of (m':=m-1) (c':=c) (j:=0) es0 (by omega) (by omega) b1 b2 (fun Rn k hk hR=>?_) (fun i _=>by rw [nU]) cm
     have mZ:bW Z.wy (Gw.aF L G).1 l old Rn k:=hR.jt (by rw [nU]) (by rw [nU]; exact Int.le_refl _) (by rw [g4])
     obtain ⟨k2,q1,q2⟩:=b3 Rn k (by rw [cm]; exact hk) (r2 Rn k mZ)
     exact ⟨k2,q1,q2⟩
   | false=>
     obtain ⟨Z',old',m1,c1,j,q1,q2,q3,q4,q5,q6,q7,q8,q9,q10,q11⟩:=hJ.si hZ hr ct
     rw [ct,if_neg (by simp)] at es0
     have rF:Z'.n=Z.n:=q3.1.nn
     refine bN.of (m':=m-1) (c':=c-j) (j:=j) (D':=.cf Z') (old':=old') es0 (by omega) (by omega) ⟨hc.to (R':={R with inn:=.cf (Gw.aF L G).2}) ⟨rfl,rfl⟩ hc.err (by omega) kP xO hs' (by show (bE Z'.n Z'.aU).Perm (bE Z.n Z.aU); rw [rF,q8]),
      .cf Z' (Gw.aF L G).2 ls m1 c1 cst x t d h6 rfl (by rw [rF]; exact q3) rE bB (by rw [q9]; exact jx) (by rw [q9,rF]; exact kc) (by omega) (by omega) (by omega) ⟨aL.1,fun q=>aL.2 q (by omega)⟩ EB⟩ (ZD.iY rE q4) (fun Rn k hk hR=>?_) q6 q7
     obtain ⟨k2,a1,a2⟩:=q5 Rn k hk (bW.iY rE.symm hR)
     exact ⟨k2,a1,bW.iY rE a2⟩
 | take Y cst x t a q _ _ _ _ _ _=>omega
 | shr Z G' ls mi ci cst x t a d e1 e2 _ _ _ _ _ _ _ _ _ _ _=>rw [hG] at e2; injection e2
 | free Y q _ _ _=>omega
theorem J.shr (h:J L0 H N s l D old L R m c) (hD:D.Ok l L) (h6:R.nx=6) {G:Sw.Sh} (hG:R.inn=.shr G) (hr:Sw.eL L G=true):bN L0 H N s l D old L R m c:=by
 obtain ⟨hc,hp⟩:=h
 have kO:=hc.pd
 have mo:=hc.nb
 have es0:bC L R=((Sw.aG L G).1,if Sw.bY L G=true then after (Sw.aG L G).1 {R with inn:=.shr (Sw.aG L G).2} (Sw.aG L G).2.err else {R with inn:=.shr (Sw.aG L G).2}):=by
  unfold bC
  rw [if_neg (by omega),if_neg (by omega),if_neg (by omega),if_neg (by omega),if_pos h6,hG]
 have mE:=Sw.S6 L G
 have hs':∀ i,1<=i->i<=5->Lo.aE (Sw.aG L G).1.hs i=dx R.nx R.worker i:=fun i a b=>by rw [Is mE i (by omega)]; exact hc.hs i a b
 have xO:(Sw.aG L G).1.hs.length=6:=mE.hl.trans hc.hl
 have kP:=hc.kp.of mE
 cases hp with
 | shr Z G' ls mi ci cst x t a d e1 e2 hJ dZ bB jx ct hm Av fD hx hd EB=>
   rw [hG] at e2
   injection e2 with e2
   subst e2
   have hZ:Sw.JD l Z L:=hD
   have WK:=hJ.Cg hZ
   have aL:=Sw.S8 L G d hd
   have fF:=hJ.2.nx
   have EC:=hJ.2.pos
   cases AA:Sw.bY L G with
   | true=>
     obtain ⟨g1,g2,g3,g4,_⟩:=hJ.cM hZ AA
     obtain ⟨r1,r2⟩:=SG (old:=old) (old':=old) (l:=l) g1 g2 g3 dZ bB jx
     have nU:(Sw.aG L G).1.xs=L.xs:=by rw [g4]
     have cm:(Sw.aG L G).1.k=L.k:=by rw [g4]
     rw [AA,if_pos rfl] at es0
     unfold after at es0
     rw [g2.err,if_pos rfl] at es0
     have et:Rc L0 H N s (.rest ⟨Z.n,Z.B2,Z.few,Z.cap,Z.two,flat Z.n Z.two⟩) (Sw.aG L G).1 {R with inn:=.shr (Sw.aG L G).2,err:=0} (m-1):=
      hc.to (R':={R with inn:=.shr (Sw.aG L G).2,err:=0}) ⟨rfl,rfl⟩ rfl (by omega) kP xO hs' (S5 Z.n Z.C)
     obtain ⟨D',old',b1,b2,b3⟩:=looked (c:=c) (cst:=cst) (x:=x) (t:=t) (a:=a) et r1 (.inr ct) (by have:=g2.xl; omega) (by omega) (by show Z.cap+a<=_; omega) (by omega) (by omega) (by show dx 6 R.worker=dx R.nx R.worker; rw [h6])
     refine bN.of (m':=m-1) (c':=c) (j:=0) es0 (by omega) (by omega) b1 b2 (fun Rn k hk hR=>?_) (fun i _=>by rw [nU]) cm
     have mZ:bW Z.wy (Sw.aG L G).1 l old Rn k:=hR.jt (by rw [nU]) (by rw [nU]; exact Int.le_refl _) (by rw [g4])
     obtain ⟨k2,q1,q2⟩:=b3 Rn k (by rw [cm]; exact hk) (r2 Rn k mZ)
     exact ⟨k2,q1,q2⟩
   | false=>
     obtain ⟨Z',old',m1,c1,j,q1,q2,q3,q4,q5,q6,q7,q8,q9,q10,q11⟩:=hJ.si hZ hr AA
     rw [AA,if_neg (by simp)] at es0
     have rF:Z'.n=Z.n:=q3.1.nn
     exact bN.of (m':=m-1) (c':=c-j) (j:=j) (D':=.shr Z') (old':=old') es0 (by omega) (by omega) ⟨hc.to (R':={R with inn:=.shr (Sw.aG L G).2}) ⟨rfl,rfl⟩ hc.err (by omega) kP xO hs' (by show (bE (2*Z'.n) Z'.C).Perm (bE (2*Z.n) Z.C); rw [rF,q9]),
      .shr Z' (Sw.aG L G).2 ls m1 c1 cst x t a d h6 rfl (by rw [rF]; exact q3) (by rw [rF,q9]; exact dZ) bB (by rw [q8]; exact jx) (by rw [q8,rF]; exact ct) (by omega) (by omega) (by omega) (by omega) ⟨aL.1,fun q=>aL.2 q (by omega)⟩ EB⟩ q4 q5 q6 q7
 | take Y cst x t a q _ _ _ _ _ _=>omega
 | cf Z G' ls mi ci cst x t d e1 e2 _ _ _ _ _ _ _ _ _ _=>rw [hG] at e2; injection e2
 | free Y q _ _ _=>omega
theorem J.si (h:J L0 H N s l D old L R m c) (hD:D.Ok l L) (hr:gB L R=true) (hd:eK L R=false):bN L0 H N s l D old L R m c:=by
 have bB:¬(R.nx=0\/11<=R.nx):=of_decide_eq_false hd
 by_cases h1:R.nx<=5
 ·exact h.take hD ⟨by omega,h1⟩
 by_cases h6:R.nx=6
 ·unfold gB at hr
  rw [if_neg (by omega),if_pos h6] at hr
  have hh:=h
  cases h.2 with
  | cf Z G ls mi ci cst x t d e1 e2 _ _ _ _ _ _ _ _ _ _=>
    rw [e2] at hr
    exact hh.cf hD h6 e2 hr
  | shr Z G ls mi ci cst x t a d e1 e2 _ _ _ _ _ _ _ _ _ _ _=>
    rw [e2] at hr
    exact hh.shr hD h6 e2 hr
  | take Y cst x t a q _ _ _ _ _ _=>omega
  | free Y q _ _ _=>omega
 ·exact h.free hD ⟨by omega,by omega⟩
theorem J.wait (h:J L0 H N s l D old L R m c) (hr:gB L R=false):∃ i:Nat,(i:Int)<L.k/\Cl.nth L.xs (2+i)≠0:=by
 obtain ⟨hc,hp⟩:=h
 have iB:=hc.wk
 unfold gB at hr
 cases hp with
 | take Y cst x t a q _ _ _ _ _ _=>
   exfalso
   rw [if_pos q] at hr
   have hr:=of_decide_eq_false hr
   refine hr ⟨iB.1,?_⟩
   have cw:1<=j6 R.nx/\j6 R.nx<=5:=by unfold j6; split<;>omega
   rw [hc.hs _ cw.1 cw.2]
   unfold dx j6
   by_cases q1:R.nx=1
   ·rw [if_pos q1,if_pos rfl,if_neg (by omega)]
   ·rw [if_neg q1,if_neg (by omega),if_neg (by omega)]
 | cf Z G ls mi ci cst x t d e1 e2 hJ _ _ _ _ _ _ _ _ _=>
   rw [if_neg (by omega),if_pos e1,e2] at hr
   exact hJ.wait hr
 | shr Z G ls mi ci cst x t a d e1 e2 hJ _ _ _ _ _ _ _ _ _ _=>
   rw [if_neg (by omega),if_pos e1,e2] at hr
   exact hJ.wait hr
 | free Y q _ _ _=>
   rw [if_neg (by omega),if_neg (by omega)] at hr
   simp at hr
end
/-! ### beside two who get keys-/
def Qr (L0:Lm) (H:List Nat) (N:mP) (s:Nat) (l:List Pr) (L:Lm) (R:Rz):Prop:=∃ Y,Bs.Rest l Y L/\Y.n=s/\R.err=0/\(∀ i,i<=5->Lo.aE L.hs i= -1)/\L.hs.length=6/\Kp L0 L/\(bE Y.n Y.cs).Perm H/\Cl.nth L.xs 0<=N.P/\L.xs.length<=N.X/\L.ds.length<=N.D
/-! ### alone-/
def Lone (L0:Lm) (H:List Nat) (N:mP) (s:Nat) (l:List Pr) (k:Nat) (S:Lm×Rz):Prop:=∃ D old m c,m<=k/\D.Ok l S.1/\J L0 H N s l D old S.1 S.2 m c/\∀ i:Nat,(i:Int)<S.1.k->Cl.nth S.1.xs (2+i)=0
theorem Lone.step {L0:Lm} {H:List Nat} {N:mP} {s:Nat} {l:List Pr} {k:Nat} {S:Lm×Rz} (h:Lone L0 H N s l k S):ox S.1 S.2/\gB S.1 S.2=true/\1<=k/\(eK S.1 S.2=true->Qr L0 H N s l (bC S.1 S.2).1 (bC S.1 S.2).2/\∀ i:Nat,(i:Int)<(bC S.1 S.2).1.k->Cl.nth (bC S.1 S.2).1.xs (2+i)=0)/\(eK S.1 S.2=false->Lone L0 H N s l (k-1) (bC S.1 S.2)):=by
 obtain ⟨D,old,m,c,hm,hD,hJ,h0⟩:=h
 have hr:gB S.1 S.2=true:=by
  cases hr:gB S.1 S.2 with
  | true=>rfl
  | false=>
    obtain ⟨i,a,b⟩:=hJ.wait hr
    exact absurd (h0 i a) b
 have hp:=hJ.pos
 refine ⟨hJ.ok hD,hr,by omega,fun hd=>?_,fun hd=>?_⟩
 ·obtain ⟨Y,_,q1,q2,q3,q9,q4,q5,q6,q7,q8⟩:=hJ.cM hD hd
  refine ⟨⟨Y,q1,q2,q3,q4,q5,q6,q7,q8⟩,fun i hi=>?_⟩
  rw [q9] at hi ⊢
  exact h0 i hi
 ·obtain ⟨D',old',m',c',j,q1,q2,q3,q4,q5,q6,q7⟩:=hJ.si hD hr hd
  exact ⟨D',old',m',c',by omega,q4,q3,fun i hi=>by rw [q7] at hi; rw [q6 i hi]; exact h0 i hi⟩
end Go.Proofs.YtpanebgakndddaaGreat.Zr
namespace Go.Proofs.YtpanebgakndddaaGreat.Zr
open Go Hm Ar Mm Wk Pc Me Mq Pu Pn Gt Qs Zp Mx cL Bs
def bR (k z:Int):Rz:=⟨k,z,if FM.bo z=true then 1 else 0,0,.none⟩
end Go.Proofs.YtpanebgakndddaaGreat.Zr
namespace Go.Proofs.YtpanebgakndddaaGreat.Ca
open Go Hm Ar Mm Wk Pc Me Mq Pu Pn Gt Qs Zp Mx cL Bs Dl Zr
inductive Fr
 | ref
 | get (G:Gt.Ge)
 | put (P:Pu.Pt)
 | del (D:Dl.Dt)
 | rz (R:Zr.Rz)
structure Cl where
 fr:Fr
 err:Int
 done:Bool
structure Ct where
 kind:Int
 key:ByteArray
 val:ByteArray
 size:Int
def di (c:Ct):Int:=if c.kind<0\/3<c.kind then 1 else if c.kind<3/\(c.key.size<1\/32<c.key.size\/(c.kind=1/\32<c.val.size)) then 10 else 0
def bL (L:Lm) (C:Cl):Lm×Cl:=match C.fr with
 | .ref=>(L,⟨.ref,C.err,true⟩)
 | .get G=>((Gt.lu L G).1,⟨.get (Gt.lu L G).2,C.err,Gt.eJ G⟩)
 | .put P=>((Pu.cH L P).1,⟨.put (Pu.cH L P).2,C.err,Pu.jI L P⟩)
 | .del D=>((Dl.aO L D).1,⟨.del (Dl.aO L D).2,C.err,Dl.jb L D⟩)
 | .rz R=>((Zr.bC L R).1,⟨.rz (Zr.bC L R).2,C.err,Zr.eK L R⟩)
def iE (L:Lm) (C:Cl):Bool:=match C.fr with
 | .ref=>true
 | .get _=>true
 | .put P=>Pu.qy L P
 | .del D=>Dl.fP L D
 | .rz R=>Zr.gB L R
def eA (L:Lm) (C:Cl):Bool:=match C.fr with
 | .ref=>true
 | .get G=>Gt.eJ G
 | .put P=>Pu.jI L P
 | .del D=>Dl.jb L D
 | .rz R=>Zr.eK L R
def jH (L:Lm) (C:Cl):Prop:=match C.fr with
 | .ref=>True
 | .get G=>Gt.l9 1 L.ds L.ss L.xs G
 | .put P=>Pu.vn L P
 | .del D=>Dl.vo L D
 | .rz R=>Zr.ox L R
def de (C:Cl):Int×Bool×ByteArray:=if C.done=true then (match C.fr with
 | .ref=>(C.err,false,⟨#[]⟩)
 | .get G=>(0,decide (G.W.found≠0),G.W.nd.val)
 | .put P=>if P.err=0 then (0,decide (P.W.found≠0),⟨#[]⟩) else (P.err,false,⟨#[]⟩)
 | .del D=>(0,decide (D.W.found≠0),D.W.nd.val)
 | .rz R=>(R.err,false,⟨#[]⟩)) else (0,false,⟨#[]⟩)
def cr (C:Cl):Nat:=match C.fr with
 | .put P=>P.cr
 | .del D=>D.cr
 | _=>0
def jG (i:Nat) (c:Ct) (C:Cl):Prop:=C.done=false/\C.err=di c/\(di c≠0->C.fr=.ref)/\
 (di c=0->(c.kind=0->C.fr=.get (Gt.mK i c.key))/\(c.kind=1->∃ h,C.fr=.put (Pu.jS h i c.key c.val))/\(c.kind=2->∃ h,C.fr=.del (Dl.ku h i c.key))/\(c.kind=3->C.fr=.rz (Zr.bR i c.size)))
def gz (l:List Pr) (c:Ct):Int×Bool×ByteArray:=
 if di c≠0 then (di c,false,⟨#[]⟩) else if c.kind=0 then (0,(Pc.lk l c.key).isSome,(Pc.lk l c.key).getD ⟨#[]⟩) else if c.kind=1 then (0,(Pc.lk l c.key).isSome,⟨#[]⟩)
 else if c.kind=2 then (0,(Pc.lk l c.key).isSome,(Pc.lk l c.key).getD ⟨#[]⟩) else if FM.bo c.size=true then (0,false,⟨#[]⟩) else (5,false,⟨#[]⟩)
def gA (l l':List Pr) (c:Ct):Prop:=
 if di c=0/\c.kind=1 then l'.Perm ((c.key,c.val)::l.filter fun p=>decide (p.1≠c.key)) else if di c=0/\c.kind=2 then l'.Perm (l.filter fun p=>decide (p.1≠c.key)) else l'=l
theorem Fs {R:Nat->Lm×Pu.Pt->Prop} {Q:Lm×Pu.Pt->Prop} (hR:∀ k s,R k s->Pu.vn s.1 s.2/\Pu.qy s.1 s.2=true/\1<=k/\(Pu.jI s.1 s.2=true->Q (Pu.cH s.1 s.2))/\(Pu.jI s.1 s.2=false->R (k-1) (Pu.cH s.1 s.2))) (e:Int):
 ∀ k (s:Lm×Cl),(∃ P d,s.2=⟨.put P,e,d⟩/\R k (s.1,P))->jH s.1 s.2/\iE s.1 s.2=true/\1<=k/\(eA s.1 s.2=true->∃ P,(bL s.1 s.2).2=⟨.put P,e,true⟩/\Q ((bL s.1 s.2).1,P))/\(eA s.1 s.2=false->∃ P d,(bL s.1 s.2).2=⟨.put P,e,d⟩/\R (k-1) ((bL s.1 s.2).1,P)):=by
 rintro k ⟨L,C⟩ ⟨P,d,rfl,hr⟩
 obtain ⟨h1,h2,h3,h4,h5⟩:=hR k _ hr
 exact ⟨h1,h2,h3,fun hd=>⟨(Pu.cH L P).2,by show (⟨.put (Pu.cH L P).2,e,Pu.jI L P⟩:Cl)=_; rw [show Pu.jI L P=true from hd],h4 hd⟩,fun hd=>⟨_,_,rfl,h5 hd⟩⟩
theorem Ft {R:Nat->Lm×Dl.Dt->Prop} {Q:Lm×Dl.Dt->Prop} (hR:∀ k s,R k s->Dl.vo s.1 s.2/\Dl.fP s.1 s.2=true/\1<=k/\(Dl.jb s.1 s.2=true->Q (Dl.aO s.1 s.2))/\(Dl.jb s.1 s.2=false->R (k-1) (Dl.aO s.1 s.2))) (e:Int):
 ∀ k (s:Lm×Cl),(∃ P d,s.2=⟨.del P,e,d⟩/\R k (s.1,P))->jH s.1 s.2/\iE s.1 s.2=true/\1<=k/\(eA s.1 s.2=true->∃ P,(bL s.1 s.2).2=⟨.del P,e,true⟩/\Q ((bL s.1 s.2).1,P))/\(eA s.1 s.2=false->∃ P d,(bL s.1 s.2).2=⟨.del P,e,d⟩/\R (k-1) ((bL s.1 s.2).1,P)):=by
 rintro k ⟨L,C⟩ ⟨P,d,rfl,hr⟩
 obtain ⟨h1,h2,h3,h4,h5⟩:=hR k _ hr
 exact ⟨h1,h2,h3,fun hd=>⟨(Dl.aO L P).2,by show (⟨.del (Dl.aO L P).2,e,Dl.jb L P⟩:Cl)=_; rw [show Dl.jb L P=true from hd],h4 hd⟩,fun hd=>⟨_,_,rfl,h5 hd⟩⟩
theorem Fu {R:Nat->Lm×Gt.Ge->Prop} {Q:Lm×Gt.Ge->Prop} (hR:∀ k s,R k s->Gt.l9 1 s.1.ds s.1.ss s.1.xs s.2/\1<=k/\(Gt.eJ s.2=true->Q (Gt.lu s.1 s.2))/\(Gt.eJ s.2=false->R (k-1) (Gt.lu s.1 s.2))) (e:Int):
 ∀ k (s:Lm×Cl),(∃ P d,s.2=⟨.get P,e,d⟩/\R k (s.1,P))->jH s.1 s.2/\iE s.1 s.2=true/\1<=k/\(eA s.1 s.2=true->∃ P,(bL s.1 s.2).2=⟨.get P,e,true⟩/\Q ((bL s.1 s.2).1,P))/\(eA s.1 s.2=false->∃ P d,(bL s.1 s.2).2=⟨.get P,e,d⟩/\R (k-1) ((bL s.1 s.2).1,P)):=by
 rintro k ⟨L,C⟩ ⟨P,d,rfl,hr⟩
 obtain ⟨h1,h3,h4,h5⟩:=hR k _ hr
 exact ⟨h1,rfl,h3,fun hd=>⟨(Gt.lu L P).2,by show (⟨.get (Gt.lu L P).2,e,Gt.eJ P⟩:Cl)=_; rw [show Gt.eJ P=true from hd],h4 hd⟩,fun hd=>⟨_,_,rfl,h5 hd⟩⟩
theorem yc {R:Nat->Lm×Zr.Rz->Prop} {Q:Lm×Zr.Rz->Prop} (hR:∀ k s,R k s->Zr.ox s.1 s.2/\Zr.gB s.1 s.2=true/\1<=k/\(Zr.eK s.1 s.2=true->Q (Zr.bC s.1 s.2))/\(Zr.eK s.1 s.2=false->R (k-1) (Zr.bC s.1 s.2))) (e:Int):
 ∀ k (s:Lm×Cl),(∃ P d,s.2=⟨.rz P,e,d⟩/\R k (s.1,P))->jH s.1 s.2/\iE s.1 s.2=true/\1<=k/\(eA s.1 s.2=true->∃ P,(bL s.1 s.2).2=⟨.rz P,e,true⟩/\Q ((bL s.1 s.2).1,P))/\(eA s.1 s.2=false->∃ P d,(bL s.1 s.2).2=⟨.rz P,e,d⟩/\R (k-1) ((bL s.1 s.2).1,P)):=by
 rintro k ⟨L,C⟩ ⟨P,d,rfl,hr⟩
 obtain ⟨h1,h2,h3,h4,h5⟩:=hR k _ hr
 exact ⟨h1,h2,h3,fun hd=>⟨(Zr.bC L P).2,by show (⟨.rz (Zr.bC L P).2,e,Zr.eK L P⟩:Cl)=_; rw [show Zr.eK L P=true from hd],h4 hd⟩,fun hd=>⟨_,_,rfl,h5 hd⟩⟩
end Go.Proofs.YtpanebgakndddaaGreat.Ca
namespace Go.Proofs.YtpanebgakndddaaGreat.Zr
open Go Hm Ar Mm Wk Pc Me Mq Pu Pn Gt Qs Zp Mx cL Bs Re
theorem Tb (n:Nat) (cs:Nat->List Mq.Hp):gq n cs=bE n cs:=rfl
section
variable {L L0:Lm} {n B:Nat} {cs:Nat->List Mq.Hp} {l:List Pr} {G:Nat}
def pj (n B cap:Nat) (cs:Nat->List Mq.Hp):Rs:=⟨n,B,(flat n cs).length,cap,cs,flat n cs⟩
theorem Mp.lX (h:Mp L n B cs l G):(flat n cs).length=l.length:=by
 rw [Bs.lX,h.len]
 rfl
theorem Mp.Tc (h:Mp L n B cs l G) {b:Nat} (hb:b<n) {a:Mq.Hp} (ha:a∈cs b):aj a.2.1 n=b:=by
 have h1:=h.bk b hb a ha
 have h2:=(dI h.pw a.2.1).2
 rw [h2] at h1
 exact Int.ofNat.inj h1
theorem Fw (h:Mp L n B cs l G) (hG:G<=1000000) (p1:1<=Cl.nth L.xs 0) (hl:l.length<=35) (lH:L.xs.length<=1048576) {cap:Nat} (fD:l.length<=cap/\cap<=1000000):Bs.Rest l (pj n B cap cs) L:=by
 have hr:=h.wr.room
 have wK:=Zr.Mp.lX h
 have uQ:=Ff h.pw h.now h.tabs h.tb h.k h.kB h.xl lH h.xb h.cU hr h.F p1 h.ch (fun b hb a ha=>Zr.Mp.Tc h hb ha) h.kd (by have:=h.len; rw [Tb] at this; omega)
 refine ⟨uQ,fun key=>?_,⟨rfl,by show (flat n cs).length<=35; omega⟩,⟨by show (flat n cs).length<=cap; omega,fD.2⟩,⟨by rw [h.hs]; rfl,by rw [h.hs]; simp⟩,fun b hb a ha=>?_⟩
 ·show Pc.lk (flat n cs) key=_
  rw [uQ.lk key]
  exact (h.lk key).symm
 ·obtain ⟨k,z,h1,_⟩:=(h.ch b hb).at a ha
  have hg:=h.wr.mQ k
  have h3:=h1.2.2
  have h4:=h1.1
  have hk:k<L.ss.length:=h4
  have pU:a.1=(ai L.ss k).gen*65536+k+1:=h3
  omega
theorem Fy {Y:Rs} (h0:Mp L0 n B cs l G) (h:Bs.Rest l Y L) (hp:(bE Y.n Y.cs).Perm (bE n cs)) (hk:Kp L0 L) (hz:∀ i:Nat,(i:Int)<L.k->Cl.nth L.xs (2+i)=0) (hl:L.hs.length=6) (hh:∀ i,i<=5->Lo.aE L.hs i= -1):Mp L Y.n Y.B Y.cs l G:=by
 have hb:=h.base
 have hw:Wr L.ss L.ws (gq n cs) G:=by
  rw [hk.ws]
  exact h0.wr.nodes hk.ss hk.tk
 refine ⟨hb.pw,hb.now,hb.tabs,hb.tb,hb.k,hb.kB,hb.xl,hb.xb,hb.cU,hb.cx,fun b tg e he=>?_,fun b tg=>?_,hw.perm (List.Perm.append_left _ hp),h0.ln,fun key=>?_,?_,hz,?_,by rw [hk.F]; exact h0.F⟩
 ·rw [(dI hb.pw e.2.1).2,hb.bk tg e he]
 ·have h3:dO (Y.cs b)=(bp (Y.cs b)).map (·.1):=by simp [bp]
  rw [h3,hb.own b tg]
  exact (List.filter_sublist.map _).nodup hb.keys
 ·rw [<-h.iY key]
  exact hb.lk key
 ·rw [h0.len]
  exact hp.length_eq.symm
 ·refine List.ext_getElem (by simp [hl]) fun i h1 h2=>?_
  have:=hh i (by omega)
  unfold Lo.aE at this
  simp only [List.getD_eq_getElem?_getD,List.getElem?_eq_getElem h1,Option.getD_some] at this
  rw [this]
  rcases i with _ | _ | _ | _ | _ | _ | i<;>first | rfl | exact absurd h1 (by omega)
end
end Go.Proofs.YtpanebgakndddaaGreat.Zr
namespace Go.Proofs.YtpanebgakndddaaGreat.Zr
open Go Go.RowKit Hp K Fl Rw Hm Ar Mm Wk Pc Me Mq Pu Pn Gt Qs Zp Mx cL Bs
set_option maxRecDepth 100000
structure Ra where
 f:Nat
 tv:Value
 ga:Gw.Gl
 sa:Sw.Sc
def iu (nx:Nat):Nat:=if nx=0 then 0 else if nx<=5 then nx-1 else if nx=6 then 5 else 12-nx
def kE (f nx:Nat) (tv:Value):Value:=if 1<=nx/\nx<=5 then aT 77 (ptr f) else if nx=6 then .func (.method "Ready") #[tv] #[] else dW 79
def kF (f nx:Nat):Value:=if nx=0 then aT 80 (ptr f) else if nx<=5 then aT 78 (ptr f) else if nx=6 then aT 169 (ptr f) else if nx<=11 then aT 137 (ptr f) else dW 138
def CU (k z:Int) (u2 u3:Value) (e:Int) (h:Nat) (tv:Value):Array Value:=#[.int .i64 k,.int .i64 z,u2,u3,.int .i64 e,.int .i64 h,tv]
def CV (a:Ra) (R:Rz):Array Value:=CU R.worker R.size (kE a.f R.nx a.tv) (kF a.f R.nx) R.err (iu R.nx) a.tv
abbrev Rb (w:World) (f:Nat) (k z:Int) (u2 u3:Value) (e:Int) (h:Nat) (tv:Value):Prop:=af w f 162 (CU k z u2 u3 e h tv)
structure fy (w:World) (a:Ra) (R:Rz):Prop where
 an:af w a.f 162 (CV a R)
 cf:∀ G,R.nx=6->R.inn=.cf G->a.tv=.iface 167 (ptr a.ga.f)/\Gw.bT w a.ga G
 shr:∀ G,R.nx=6->R.inn=.shr G->a.tv=.iface 169 (ptr a.sa.f)/\Sw.cI w a.sa G
def fz (a:Ra) (R:Rz) (x:Nat):Prop:=x=a.f\/(∃ G,R.nx=6/\R.inn=.cf G/\Gw.bu a.ga G x)\/∃ G,R.nx=6/\R.inn=.shr G/\Sw.cg a.sa G x
abbrev dk:iH Ra Rz:=⟨Ra.f,fy,fz⟩
section
variable {w w':World} {M:Mo} {a:Ra} {R:Rz} {f h:Nat} {k z e:Int} {u2 u3 tv:Value}
theorem Bx (h:dk.At w a R) {x:Nat} (hx:dk.aS a R x):x<w.heap.size:=by
 rcases hx with rfl | ⟨G,q1,q2,q3⟩ | ⟨G,q1,q2,q3⟩
 ·exact h.an.lt
 ·exact (h.cf G q1 q2).2.lt q3
 ·exact (h.shr G q1 q2).2.lt q3
theorem Gc (h:dk.At w a R) (hM:ah w M) {x:Nat} (hx:dk.aS a R x):¬ao M x:=by
 rcases hx with rfl | ⟨G,q1,q2,q3⟩ | ⟨G,q1,q2,q3⟩
 ·exact fun hm=>(hM.ty hm).apart (aV h.an) (by decide)
 ·exact (h.cf G q1 q2).2.aA hM q3
 ·exact (h.shr G q1 q2).2.aA hM q3
theorem vt {S:Nat->Prop} (h:dk.At w a R) (ho:ab S w w') (hn:∀ x,dk.aS a R x->¬S x):dk.At w' a R where
 an:=h.an.only ho (hn _ (.inl rfl))
 cf G q1 q2:=⟨(h.cf G q1 q2).1,(h.cf G q1 q2).2.only ho (fun x hx=>hn x (.inr (.inl ⟨G,q1,q2,hx⟩)))⟩
 shr G q1 q2:=⟨(h.shr G q1 q2).1,(h.shr G q1 q2).2.only ho (fun x hx=>hn x (.inr (.inr ⟨G,q1,q2,hx⟩)))⟩
theorem Fp (h:dk.At w a R) (hb:Below w.heap.size w w'):dk.At w' a R:=vt h (ab.aD hb (fun _=>False)) (by simp)
theorem fy.plain (h:af w a.f 162 (CV a R)) (hn:R.nx≠6):fy w a R:=⟨h,fun _ q=>absurd q hn,fun _ q=>absurd q hn⟩
theorem uj (hn:R.nx≠6) {x:Nat} (hx:fz a R x):x=a.f:=by
 rcases hx with q | ⟨_,q,_⟩ | ⟨_,q,_⟩
 ·exact q
 ·exact absurd q hn
 ·exact absurd q hn
theorem dR (hb:Rb w f k z u2 u3 e h tv):w.cell? ⟨f,0,none⟩=some (.int .i64 k)/\w.cell? ⟨f,1,none⟩=some (.int .i64 z)/\w.cell? ⟨f,2,none⟩=some u2/\w.cell? ⟨f,3,none⟩=some u3/\w.cell? ⟨f,4,none⟩=some (.int .i64 e)/\w.cell? ⟨f,5,none⟩=some (.int .i64 h)/\w.cell? ⟨f,6,none⟩=some tv:=
 ⟨hb.cell 0,hb.cell 1,hb.cell 2,hb.cell 3,hb.cell 4,hb.cell 5,hb.cell 6⟩
theorem pL {h:Nat} (hb:Rb w f k z u2 u3 e h tv) (hM:ah w M):¬ao M f:=fun hm=>(hM.ty hm).apart (aV hb) (by decide)
theorem Td (n:Int) (w:World):Calls Tryz.prog 68 #[.int .i64 n] w fun e w'=>e=.returned (.bool (FM.bo n))/\w'=w:=by
 by_cases h1:n<=9223372036854775807
 ·by_cases h0: -9223372036854775808<=n
  ·exact lZ.qv n w h0 h1
  ·have hp:FM.bo n=false:=by
    cases h:FM.bo n with
    | false=>rfl
    | true=>have:=FM.eW h; omega
   have a:¬1<=n:=by omega
   rw [hp]
   clear h0 h1
   go_enter Tryz.func68,Tryz.ntmps68
   go_wp2
   go_ret
   exact ⟨rfl,rfl⟩
 ·have hp:FM.bo n=false:=by
   cases h:FM.bo n with
   | false=>rfl
   | true=>have:=FM.eW h; omega
  have a:1<=n:=by omega
  have b:¬n<=65536:=by omega
  rw [hp]
  clear h1
  go_enter Tryz.func68,Tryz.ntmps68
  go_wp2
  go_ret
  exact ⟨rfl,rfl⟩
theorem sf (m:Value) (w:World):Calls Tryz.prog 79 #[m] w fun e w'=>e=.returned (.bool true)/\w'=w:=by
 go_enter Tryz.func79,Tryz.ntmps79
 go_wp2
 go_ret
 exact ⟨rfl,rfl⟩
theorem ej {F1 F2:Fn} {b1 b2:Array Value} {h:Nat} (hb:Rb w f k z u2 u3 e h tv):
 Calls Tryz.prog 76 #[ptr f,.func F1 b1 #[],.func F2 b2 #[]] w fun x w'=>x=.returned (.tuple #[])/\Rb w' f k z (.func F1 b1 #[]) (.func F2 b2 #[]) e h tv/\ab (·=f) w w':=by
 have c2:=hb.cell 2
 have c3:=hb.cell 3
 have z2:=hb.frozen 2
 have z3:=hb.frozen 3
 simp only [CU,List.getElem?_toArray,List.getElem?_cons_succ,List.getElem?_cons_zero] at c2 c3
 have hE:Hid (Rb ((w.setCell ⟨f,2,none⟩ (.func F1 b1 #[])).setCell ⟨f,3,none⟩ (.func F2 b2 #[])) f k z (.func F1 b1 #[]) (.func F2 b2 #[]) e h tv):=Lib.hid ((hb.store 2 _).store 3 _)
 have hO:Hid (ab (·=f) w ((w.setCell ⟨f,2,none⟩ (.func F1 b1 #[])).setCell ⟨f,3,none⟩ (.func F2 b2 #[]))):=Lib.hid (((ab.refl (·=f) w).setCell (p:=⟨f,2,none⟩) (.inl rfl) _).setCell (p:=⟨f,3,none⟩) (.inl rfl) _)
 clear hb
 go_enter Tryz.func76,Tryz.ntmps76
 go_wp2
 go_end0
 exact ⟨rfl,hE.out,hO.out⟩
theorem nD {h:Nat} (hb:Rb w f k z u2 u3 e h tv):
 Calls Tryz.prog 105 #[ptr f] w fun x w'=>x=.returned (.bool true)/\Rb w' f k z (dW 79) (dW 138) e h tv/\ab (·=f) w w':=by
 have hG:=Lib.hid (ej (F1:=.func 79) (F2:=.func 138) (b1:=#[]) (b2:=#[]) hb)
 clear hb
 go_enter Tryz.func105,Tryz.ntmps105
 go_wp2_with fail
 refine hG.out.mono ?_
 rintro e w' ⟨rfl,hB,hO⟩
 replace hB:=Lib.hid hB
 replace hO:=Lib.hid hO
 clear hG
 go_wp2_with fail
 go_ret
 exact ⟨rfl,hB.out,hO.out⟩
theorem FL (k z:Int) (w:World):Calls Tryz.prog 59 #[.int .i64 k,.int .i64 z] w fun e w'=>∃ a:Ra,e=.returned (ptr (dk.f a))/\dk.At w' a (bR k z)/\(∀ x,dk.aS a (bR k z) x->w.heap.size<=x)/\Below w.heap.size w w':=by
 obtain ⟨w2,bl⟩:∃ w2,w2=w.alloc (.cells #[.int .i64 k,.int .i64 z,.nilFunc,.nilFunc,.int .i64 0,.int .i64 0,.nilIface] 162):=⟨_,rfl⟩
 have aQ:Rb w2 w.heap.size k z .nilFunc .nilFunc 0 0 .nilIface:=by rw [bl]; exact af.made w _ _
 have ag:Below w.heap.size w w2:=by rw [bl]; exact (Below.refl _ _).alloc (Nat.le_refl _) _
 obtain ⟨f,hf⟩:∃ f,f=w.heap.size:=⟨_,rfl⟩
 rw [<-hf] at aQ
 have gZ:w.heap.size<=f:=by omega
 have hP:=Lib.hid (Td z)
 have au:∀ w1,ab (·=f) w2 w1->Below w.heap.size w w1:=fun w1 hO=>ag.trans (hO.toBelow ag.size (fun x hx q=>by omega))
 replace au:=Lib.hid au
 cases hp:FM.bo z with
 | true=>
   have km:=Lib.hid (ej (F1:=.func 77) (F2:=.func 78) (b1:=#[ptr f]) (b2:=#[ptr f]) aQ)
   have hn:bR k z=⟨k,z,1,0,.none⟩:=by unfold bR; rw [hp]; rfl
   rw [hn]
   rw [hp] at hP
   clear aQ ag hn hp
   go_enter Tryz.func59,Tryz.ntmps59
   go_upto_region 2 with (fail)
   rw [<-bl,<-hf]
   clear bl hf
   go_wp2_with fail
   refine (hP.out _).mono ?_
   rintro e w' ⟨rfl,rfl⟩
   clear hP
   go_wp2_with fail
   refine km.out.mono ?_
   rintro e w1 ⟨rfl,hB,hO⟩
   have hE:Hid (fy w1 ⟨f,.nilIface,⟨0,.nilIface,.nilIface,0,0,none,0,0,none,0,[],none,0,[]⟩,⟨0,.nilIface,0,0⟩⟩ ⟨k,z,1,0,.none⟩):=Lib.hid (fy.plain hB (by simp))
   have ED:=Lib.hid (au.out _ hO)
   clear km hB hO au
   go_wp2_with fail
   go_ret
   exact ⟨_,rfl,hE.out,fun x hx=>by rw [uj (by simp) hx]; exact gZ,ED.out⟩
 | false=>
   have km:=Lib.hid (ej (F1:=.func 79) (F2:=.func 80) (b1:=#[]) (b2:=#[ptr f]) aQ)
   have hn:bR k z=⟨k,z,0,0,.none⟩:=by unfold bR; rw [hp]; rfl
   rw [hn]
   rw [hp] at hP
   clear aQ ag hn hp
   go_enter Tryz.func59,Tryz.ntmps59
   go_upto_region 2 with (fail)
   rw [<-bl,<-hf]
   clear bl hf
   go_wp2_with fail
   refine (hP.out _).mono ?_
   rintro e w' ⟨rfl,rfl⟩
   clear hP
   go_wp2_with fail
   refine km.out.mono ?_
   rintro e w1 ⟨rfl,hB,hO⟩
   have hE:Hid (fy w1 ⟨f,.nilIface,⟨0,.nilIface,.nilIface,0,0,none,0,0,none,0,[],none,0,[]⟩,⟨0,.nilIface,0,0⟩⟩ ⟨k,z,0,0,.none⟩):=Lib.hid (fy.plain hB (by simp))
   have ED:=Lib.hid (au.out _ hO)
   clear km hB hO au
   go_wp2_with fail
   go_ret
   exact ⟨_,rfl,hE.out,fun x hx=>by rw [uj (by simp) hx]; exact gZ,ED.out⟩
theorem Ba (h:dk.At w a R):Calls Tryz.prog 63 #[ptr (dk.f a)] w fun e w'=>e=.returned (.int .i64 R.err)/\w'=w:=by
 have c4:=(dR h.an).2.2.2.2.1
 show Calls _ _ #[ptr a.f] _ _
 clear h
 go_enter Tryz.func63,Tryz.ntmps63
 go_wp2_with fail
 go_ret
 exact ⟨rfl,rfl⟩
theorem mg {F:Nat} {cv m:Value} {c:Bool} {P:World->Prop} (c3:w.cell? ⟨f,3,none⟩=some (aT F cv)) (eF:∀ args w,(callFunc F args).run Tryz.prog w=.ok (.enter F args) w)
 (hF:Calls Tryz.prog F #[cv,m] w fun e w'=>e=.returned (.bool c)/\P w'):Calls Tryz.prog 271 #[ptr f,m] w fun e w'=>e=.returned (.bool c)/\P w':=by
 replace hF:=Lib.hid hF
 go_enter Tryz.func271,Tryz.ntmps271
 go_wp2_with fail
 refine hF.out.mono ?_
 rintro e w' ⟨rfl,bj⟩
 replace bj:=Lib.hid bj
 clear c3
 go_wp2_with fail
 go_ret
 exact ⟨rfl,bj.out⟩
theorem CW {m:Value} (c2:w.cell? ⟨f,2,none⟩=some (dW 79)):Calls Tryz.prog 270 #[ptr f,m] w fun e w'=>e=.returned (.bool true)/\Below w.heap.size w w':=by
 have eF:∀ args w,(callFunc 79 args).run Tryz.prog w=.ok (.enter 79 args) w:=fun _ _=>by kernel_rfl
 have hA:=Lib.hid (sf m w)
 go_enter Tryz.func270,Tryz.ntmps270
 go_wp2_with fail
 refine hA.out.mono ?_
 rintro e w' ⟨rfl,hw⟩
 obtain rfl:w=w':=hw.symm
 clear hA c2
 go_wp2_with fail
 go_ret
 exact ⟨rfl,Below.refl _ _⟩
theorem CX {F:Nat} {cv m:Value} {c:Bool} (c2:w.cell? ⟨f,2,none⟩=some (aT F cv)) (eF:∀ args w,(callFunc F args).run Tryz.prog w=.ok (.enter F args) w)
 (hF:Calls Tryz.prog F #[cv,m] w fun e w'=>e=.returned (.bool c)/\Below w.heap.size w w'):Calls Tryz.prog 270 #[ptr f,m] w fun e w'=>e=.returned (.bool c)/\Below w.heap.size w w':=by
 replace hF:=Lib.hid hF
 go_enter Tryz.func270,Tryz.ntmps270
 go_wp2_with fail
 refine hF.out.mono ?_
 rintro e w' ⟨rfl,hb⟩
 replace hb:=Lib.hid hb
 clear c2
 go_wp2_with fail
 go_ret
 exact ⟨rfl,hb.out⟩
theorem Iu {T:TypeId} {fr b:Nat} {m:Value} {c:Bool} (c2:w.cell? ⟨f,2,none⟩=some (.func (.method "Ready") #[.iface T (ptr b)] #[])) (mr:∀ (w:World) (f:Nat),(method (f+1) T (.pointer (some ⟨b,0,none⟩)) "Ready").run Tryz.prog w=.ok (fr,.pointer (some ⟨b,0,none⟩)) w)
 (er:∀ args w,(callFunc fr args).run Tryz.prog w=.ok (.enter fr args) w) (hF:Calls Tryz.prog fr #[ptr b,m] w fun e w'=>e=.returned (.bool c)/\Below w.heap.size w w'):Calls Tryz.prog 270 #[ptr f,m] w fun e w'=>e=.returned (.bool c)/\Below w.heap.size w w':=by
 replace hF:=Lib.hid hF
 go_enter Tryz.func270,Tryz.ntmps270
 go_wp2_with fail
 refine hF.out.mono ?_
 rintro e w' ⟨rfl,hb⟩
 replace hb:=Lib.hid hb
 clear c2
 go_wp2_with fail
 go_ret
 exact ⟨rfl,hb.out⟩
end
end Go.Proofs.YtpanebgakndddaaGreat.Zr
namespace Go.Proofs.YtpanebgakndddaaGreat.Zr
open Go Go.RowKit Hp K Fl Rw Hm Ar Mm Wk Pc Me Mq Pu Pn Gt Qs Zp Mx cL Bs
set_option maxRecDepth 100000
def iw (h:Nat):Nat:=if h=0 then 5 else h
section
variable {w w':World} {M:Mo} {a:Ra} {R:Rz} {f h b:Nat} {k z e:Int} {u2 u3 tv:Value}
theorem wh (h:Nat) (w:World):Calls Tryz.prog 102 #[.int .i64 h] w fun e w'=>e=.returned (.int .i64 (iw h))/\w'=w:=by
 unfold iw
 by_cases h0:h=0
 ·subst h0
  go_enter Tryz.func102,Tryz.ntmps102
  go_wp2
  go_ret
  exact ⟨rfl,rfl⟩
 ·rw [if_neg h0]
  have hz:¬((h:Int)=0):=by omega
  go_enter Tryz.func102,Tryz.ntmps102
  go_wp2
  go_ret
  exact ⟨rfl,rfl⟩
theorem Iv (hh:h<=4):iw h<6:=by unfold iw; split<;>omega
set_option maxHeartbeats 1000000 in
theorem we (hM:ah w M) (hb:Rb w f k z u2 u3 e h tv) (hk:0<=k) (hh:h<=4) (hl:M.hs.length=6):
 Calls Tryz.prog 77 #[ptr f,ptr M.m] w fun x w'=>x=.returned (.bool (decide (Lo.aE M.hs (iw h)= -1)))/\Below w.heap.size w w':=by
 obtain ⟨c0,c1,c2,c3,c4,c5,c6⟩:=dR hb
 have d1:=hM.hd.2.1
 have nt:=Lib.hid (fun w=>wh h w)
 have lR:decide (0<=k)=true:=by simpa using hk
 have hO:=Lib.hid (fun nq=>Lo.tC (hM.drewN nq).2.2.1 (iw h) (by rw [hl]; exact Iv hh))
 have iy:=Lo.yN hM.2.2.1.2.2.1 (iw h)
 clear hM hb c1 c2 c3 c4 c6 hl
 generalize Lo.aE M.hs (iw h)=v at*
 generalize iw h=j at*
 go_enter Tryz.func77,Tryz.ntmps77
 go_wp2_with fail
 go_quiet (first
  | (go_at_call 102; exact Calls.quiet_of_same (nt.out _))
  | (go_at_call 97; exact Calls.quiet_of_same (hO.out _)))
 go_wp2_with fail
 go_ret
 exact ⟨K.je (by simp [BEq.beq]),rfl,rfl,rfl,Nat.le_refl _,fun _ _=>rfl⟩
theorem Te (hb:Rb w f k z u2 u3 e h tv) (m:Value):
 Calls Tryz.prog 80 #[ptr f,m] w fun x w'=>x=.returned (.bool true)/\Rb w' f k z (dW 79) (dW 138) 5 h tv/\ab (·=f) w w':=by
 have c4:=(dR hb).2.2.2.2.1
 have z4:=hb.frozen 4
 have hS:Rb (w.setCell ⟨f,4,none⟩ (.int .i64 5)) f k z u2 u3 5 h tv:=hb.store 4 _
 have hO:=Lib.hid ((ab.refl (·=f) w).setCell (p:=⟨f,4,none⟩) (.inl rfl) (.int .i64 5))
 have hE:=Lib.hid (nD hS)
 clear hb hS
 go_enter Tryz.func80,Tryz.ntmps80
 go_wp2_with fail
 refine hE.out.mono ?_
 rintro e w' ⟨rfl,hB,ae⟩
 replace hB:=Lib.hid hB
 have aq:=Lib.hid (hO.out.trans ae)
 clear hE hO ae c4 z4
 go_wp2_with fail
 go_ret
 exact ⟨rfl,hB.out,aq.out⟩
theorem Iw {T:TypeId} (hb:Rb w f k z u2 u3 e h tv):
 Calls Tryz.prog 136 #[ptr f,.iface T (ptr b)] w fun x w'=>x=.returned (.tuple #[])/\Rb w' f k z (.func (.method "Ready") #[.iface T (ptr b)] #[]) (aT 169 (ptr f)) e h (.iface T (ptr b))/\ab (·=f) w w':=by
 have c6:=(dR hb).2.2.2.2.2.2
 have z6:=hb.frozen 6
 have hS:Rb (w.setCell ⟨f,6,none⟩ (.iface T (ptr b))) f k z u2 u3 e h (.iface T (ptr b)):=hb.store 6 _
 have hO:=Lib.hid ((ab.refl (·=f) w).setCell (p:=⟨f,6,none⟩) (.inl rfl) (.iface T (ptr b)))
 have hE:=Lib.hid (ej (F1:=.method "Ready") (F2:=.func 169) (b1:=#[.iface T (ptr b)]) (b2:=#[ptr f]) hS)
 clear hb hS
 go_enter Tryz.func136,Tryz.ntmps136
 go_wp2_with fail
 refine hE.out.mono ?_
 rintro e w' ⟨rfl,hB,ae⟩
 replace hB:=Lib.hid hB
 have aq:=Lib.hid (hO.out.trans ae)
 clear hE hO ae c6 z6
 go_wp2_with fail
 go_end0
 exact ⟨rfl,hB.out,aq.out⟩
set_option maxHeartbeats 1000000 in
theorem Ix (hM:ah w M) (hx:1<M.xs.length) (ga:Gw.Gl) (sa:Sw.Sc) (R:Rz) (hb:Rb w f R.worker R.size u2 u3 R.err 5 tv):
 Calls Tryz.prog 104 #[ptr f,ptr M.m] w fun x w'=>x=.returned (.tuple #[])/\∃ a':Ra,a'.f=f/\fy w' a' (look (lm M) R)/\(∀ x,fz a' (look (lm M) R) x->x=f\/w.heap.size<=x)/\ab (·=f) w w':=by
 obtain ⟨c0,c1,c2,c3,c4,c5,c6⟩:=dR hb
 have hN:=py hM hx
 unfold look
 unfold dv at hN
 have lf:=hb.lt
 have HB:=Lib.hid hb
 replace hN:=Lib.hid hN
 show Calls _ _ _ _ (fun x w'=>x=_/\∃ a':Ra,a'.f=f/\fy w' a' (if ((now M.xs M.ds).1:Int)=R.size then {R with nx:=7} else if ((now M.xs M.ds).1:Int)<R.size then {R with nx:=6,inn:=.cf (Gw.iJ R.worker)} else {R with nx:=6,inn:=.shr (Sw.ij R.worker)})/\(∀ x,fz a' (if ((now M.xs M.ds).1:Int)=R.size then {R with nx:=7} else if ((now M.xs M.ds).1:Int)<R.size then {R with nx:=6,inn:=.cf (Gw.iJ R.worker)} else {R with nx:=6,inn:=.shr (Sw.ij R.worker)}) x->x=f\/w.heap.size<=x)/\ab (·=f) w w')
 obtain ⟨n,hn⟩:∃ n,n=(now M.xs M.ds).1:=⟨_,rfl⟩
 obtain ⟨B,hB⟩:∃ B,B=(now M.xs M.ds).2:=⟨_,rfl⟩
 rw [<-hn]
 rw [<-hn,<-hB] at hN
 have uA:∀ w,(Instr.field 141 (.agg #[.int .i64 n,.int .i64 B]) 0).run Tryz.prog w=.ok (.int .i64 n) w:=fun w=>rfl
 have hg:=Lib.hid (fun w=>Gw.GU R.worker w)
 have hs:=Lib.hid (fun w=>Sw.Gd R.worker w)
 have lM:=hM.1.lt
 clear hM hb hn hB c2 c3 c4 c5 c6 hx
 by_cases q1:(n:Int)<R.size
 ·rw [if_neg (by omega),if_pos q1]
  clear hs
  go_enter Tryz.func104,Tryz.ntmps104
  go_wp2_with fail
  refine hN.out.mono ?_
  rintro e1 w1 ⟨rfl,ax⟩
  have aJ:Rb w1 f R.worker R.size u2 u3 R.err 5 tv:=HB.out.only (ab.aD ax (fun _=>False)) (by simp)
  have k0:=(dR aJ).1
  have k1:=(dR aJ).2.1
  replace aJ:=Lib.hid aJ
  have aw:=Lib.hid (ab.aD ax (·=f))
  clear hN ax c0 c1 HB
  go_wp2_with fail
  refine (hg.out _).mono ?_
  rintro e2 w2 ⟨ga,rfl,hG,aW,au⟩
  have ag:=Lib.hid (aJ.out.only (ab.aD au (fun _=>False)) (by simp))
  have ae:=Lib.hid (aw.out.trans (ab.aD au (·=f)))
  have tq:=Lib.hid (fun x hx=>Nat.le_trans aw.out.size (aW x hx))
  have cp:=Lib.hid (fun x hx=>show ¬x=f from fun e=>by have h1:=aW x hx; have h2:=aJ.out.lt; omega)
  replace hG:=Lib.hid hG
  have mF:=Lib.hid (Iw (T:=167) (b:=ga.f) ag.out)
  clear aW au hg k0 k1 aJ aw
  go_wp2_with fail
  refine mF.out.mono ?_
  rintro e3 w3 ⟨rfl,ay,aq⟩
  have hR:Hid (fy w3 ⟨f,.iface 167 (ptr ga.f),ga,sa⟩ {R with nx:=6,inn:=.cf (Gw.iJ R.worker)}):=Lib.hid ⟨ay,fun G _ qc=>⟨rfl,by
   injection qc with qc
   rw [<-qc]
   exact hG.out.only aq cp.out⟩,fun G _ q=>by simp at q⟩
  have aM:=Lib.hid (ae.out.trans aq)
  clear mF ay aq ae
  go_wp2_with fail
  go_end0
  refine ⟨rfl,_,rfl,hR.out,fun x hx=>?_,aM.out⟩
  rcases hx with q | ⟨G,_,q2,q3⟩ | ⟨G,_,q2,_⟩
  ·exact .inl q
  ·injection q2 with q2
   subst q2
   exact .inr (tq.out x q3)
  ·simp at q2
 ·by_cases q2:(n:Int) > R.size
  ·rw [if_neg (by omega),if_neg q1]
   clear hg
   go_enter Tryz.func104,Tryz.ntmps104
   go_wp2_with fail
   refine hN.out.mono ?_
   rintro e1 w1 ⟨rfl,ax⟩
   have aJ:Rb w1 f R.worker R.size u2 u3 R.err 5 tv:=HB.out.only (ab.aD ax (fun _=>False)) (by simp)
   have k0:=(dR aJ).1
   have k1:=(dR aJ).2.1
   replace aJ:=Lib.hid aJ
   have aw:=Lib.hid (ab.aD ax (·=f))
   clear hN ax c0 c1 HB
   go_wp2_with fail
   refine (hs.out _).mono ?_
   rintro e2 w2 ⟨sa,rfl,hG,aW,au⟩
   have ag:=Lib.hid (aJ.out.only (ab.aD au (fun _=>False)) (by simp))
   have ae:=Lib.hid (aw.out.trans (ab.aD au (·=f)))
   have tq:=Lib.hid (fun x hx=>Nat.le_trans aw.out.size (aW x hx))
   have cp:=Lib.hid (fun x hx=>show ¬x=f from fun e=>by have h1:=aW x hx; have h2:=aJ.out.lt; omega)
   replace hG:=Lib.hid hG
   have mF:=Lib.hid (Iw (T:=169) (b:=sa.f) ag.out)
   clear aW au hs k0 k1 aJ aw
   go_wp2_with fail
   refine mF.out.mono ?_
   rintro e3 w3 ⟨rfl,ay,aq⟩
   have hR:Hid (fy w3 ⟨f,.iface 169 (ptr sa.f),ga,sa⟩ {R with nx:=6,inn:=.shr (Sw.ij R.worker)}):=Lib.hid ⟨ay,fun G _ q=>by simp at q,fun G _ qc=>⟨rfl,by
    injection qc with qc
    rw [<-qc]
    exact hG.out.only aq cp.out⟩⟩
   have aM:=Lib.hid (ae.out.trans aq)
   clear mF ay aq ae
   go_wp2_with fail
   go_end0
   refine ⟨rfl,_,rfl,hR.out,fun x hx=>?_,aM.out⟩
   rcases hx with q | ⟨G,_,q2,_⟩ | ⟨G,_,q2,q3⟩
   ·exact .inl q
   ·simp at q2
   ·injection q2 with q2
    subst q2
    exact .inr (tq.out x q3)
  ·rw [if_pos (by omega)]
   clear hg hs
   go_enter Tryz.func104,Tryz.ntmps104
   go_wp2_with fail
   refine hN.out.mono ?_
   rintro e1 w1 ⟨rfl,ax⟩
   have aJ:Rb w1 f R.worker R.size u2 u3 R.err 5 tv:=HB.out.only (ab.aD ax (fun _=>False)) (by simp)
   have k1:=(dR aJ).2.1
   replace aJ:=Lib.hid aJ
   have aw:=Lib.hid (ab.aD ax (·=f))
   have km:=Lib.hid (ej (F1:=.func 79) (F2:=.func 137) (b1:=#[]) (b2:=#[ptr f]) aJ.out)
   clear hN ax c0 c1 HB
   go_wp2_with fail
   refine km.out.mono ?_
   rintro e3 w3 ⟨rfl,ay,aq⟩
   have hR:Hid (fy w3 ⟨f,tv,ga,sa⟩ {R with nx:=7}):=Lib.hid (fy.plain ay (by simp))
   have aM:=Lib.hid (aw.out.trans aq)
   clear km ay aq aw aJ k1
   go_wp2_with fail
   go_end0
   exact ⟨rfl,_,rfl,hR.out,fun x hx=>.inl (uj (by simp) hx),aM.out⟩
end
end Go.Proofs.YtpanebgakndddaaGreat.Zr
