/- Walks and plain mathematics, put together in their order: GroP, GroQ, GroR, ShrH, ShrI, ShrJ, GroT, ShrK, ThB. -/
import Derived.Test.YtpanebgakndddaaGreatPart8
set_option linter.unusedVariables false
set_option linter.unusedSimpArgs false
namespace Go.Proofs.YtpanebgakndddaaGreat.Gw
open Go Hm Ar Mm Wk Pc Me Mq Pu Pn Gt Qs Zp Mx
section
variable {n0:Nat} {l:List Pr} {Z:Zs} {L:Lm} {G:Gr} {m c:Nat} {old:Nat->Int->Nat->Prop}
theorem PO (h:kW L G=false):G.nx=7/\fQ L.xs L.hs G.W=false:=by
 unfold kW at h
 split at h
 ·rename_i e; exact ⟨e,h⟩
 ·simp at h
theorem J.wait (h:J n0 l Z old L G m c) (hr:kW L G=false):∃ i:Nat,(i:Int)<L.k/\Cl.nth L.xs (2+i)≠0:=by
 obtain ⟨hc,hp⟩:=h
 have hk:=hc.k
 obtain ⟨h7,hr⟩:=PO hr
 cases hp with
 | p7 t ids a b c d e f g h i j k l=>
   unfold fQ at hr
   split at hr
   ·rename_i h0
    unfold pH at hr
    have:=of_decide_eq_false hr
    exact absurd ⟨e,g h0⟩ this
   split at hr
   ·rename_i h2
    unfold oK at hr
    have hd:=of_decide_eq_false hr
    have DZ:=d.bm.2 (by omega)
    exact ⟨G.W.bm,by omega,fun q=>hd (.inl q)⟩
   ·simp at hr
 | p1 a _ _ _ _ _=>omega
 | p2 a _ _ _ _ _=>omega
 | p3 a _ _ _ _ _ _=>omega
 | p4 p q a _ _ _ _ _ _ _ _ _ _=>omega
 | p5 a _ _ _ _ _ _ _ _=>omega
 | p6 a _ _ _ _ _=>omega
 | p8 t ids ids' a _ _ _ _ _ _ _ _ _ _ _=>omega
theorem J.fits (h:Jc n0 l Z L G m) (hZ:ZD l Z L) (h2:G.nx=2):FM.bo ((2*G.el.1:Nat):Int)=true/\L.xs.length+2*G.el.1<=1048576:=by
 have hb:=h.xb
 have hl:=h.xl
 rw [if_pos (by omega)] at hl
 rw [h.el (by omega)]
 exact ⟨hZ.1.jR,by simp only; omega⟩
theorem G3 (h7:G.nx=7):aF L G=({L with xs:=(aI L.k.toNat L.xs L.hs G.W).1,hs:=(aI L.k.toNat L.xs L.hs G.W).2.1},{G with W:=(aI L.k.toNat L.xs L.hs G.W).2.2,nx:=if G.W.at_=3 then (if G.pass=[] then 9 else 8) else 7}):=by
 unfold aF; rw [if_neg (by omega),if_neg (by omega),if_neg (by omega),if_neg (by omega),if_neg (by omega),if_neg (by omega),if_pos h7]
def bN (n0:Nat) (l:List Pr) (Z:Zs) (old:Nat->Int->Nat->Prop) (L:Lm) (G:Gr) (m c:Nat):Prop:=
 ∃ Z' old' m' c' j,m'+1<=m/\c'+j<=c/\J n0 l Z' old' (aF L G).1 (aF L G).2 m' c'/\ZD l Z' (aF L G).1/\
   (∀ (R:Rn) (k:Nat),(R.w:Int)<L.k->bW Z.wy L l old R k->∃ k',k'<=k+j/\bW Z'.wy (aF L G).1 l old' R k')/\(∀ i:Nat,(i:Int)<L.k->Cl.nth (aF L G).1.xs (2+i)=Cl.nth L.xs (2+i))/\(aF L G).1.k=L.k/\Z'.aU=Z.aU/\Z'.few=Z.few/\Z'.cap=Z.cap/\Z'.B2=Z.B2
theorem bN.of {L':Lm} {G':Gr} {Z':Zs} {old':Nat->Int->Nat->Prop} {m':Nat} (e:aF L G=(L',G')) (hm:m'+1<=m) (hJ:J n0 l Z' old' L' G' m' c) (hZ:ZD l Z' L') (hB:il l Z L old Z' L' old') (h3:∀ i:Nat,(i:Int)<L.k->Cl.nth L'.xs (2+i)=Cl.nth L.xs (2+i)) (hk:L'.k=L.k:=by rfl) (hA:Z'.aU=Z.aU/\Z'.few=Z.few/\Z'.cap=Z.cap/\Z'.B2=Z.B2:=by exact ⟨rfl,rfl,rfl,rfl⟩):bN n0 l Z old L G m c:=by
 refine ⟨Z',old',m',c,0,hm,Nat.le_refl _,?_⟩
 rw [e]
 exact ⟨hJ,hZ,hB,h3,hk,hA.1,hA.2.1,hA.2.2.1,hA.2.2.2⟩
theorem il.refl (l:List Pr) (Z:Zs) (L:Lm) (old:Nat->Int->Nat->Prop):il l Z L old Z L old:=fun _ k _ h=>⟨k,Nat.le_refl _,h⟩
theorem J.B6 (h:J n0 l Z old L G m c) (hZ:ZD l Z L) (h1:G.nx=1):bN n0 l Z old L G m c:=by
 obtain ⟨hc,hp⟩:=h
 cases hp with
 | p1 a b c d e f=>
   have bU:=hZ.1.now
   rw [b,if_neg (by simp)] at bU
   have es:aF L G=(L,{G with el:=now L.xs L.ds,nx:=2}):=by unfold aF; rw [if_pos h1]
   rw [bU] at es
   refine bN.of (m':=m-1) es (by omega) ⟨⟨hc.nn,hc.al,hc.wk,hc.err,fun _=>rfl,hc.k,?_,hc.hl,fun _=>hc.aE (by omega),hc.xb,?_,?_,fun q=>?_,fun _=>hc.later (by omega),hc.bk,hc.b5,hc.pos,hc.tabs⟩,?_⟩ hZ (il.refl _ _ _ _) (fun _ _=>rfl)
   ·have:=hc.pd; omega
   ·have:=hc.xl
    rw [if_pos (by omega)] at this
    rw [if_pos (by simp)]
    exact this
   ·exact ⟨hc.ds.1,fun _=>hc.ds.2 (by omega)⟩
   ·simp only at q; omega
   ·exact .p2 rfl b c d e (by omega)
 | p2 a _ _ _ _ _=>omega
 | p3 a _ _ _ _ _ _=>omega
 | p4 p q a _ _ _ _ _ _ _ _ _ _=>omega
 | p5 a _ _ _ _ _ _ _ _=>omega
 | p6 a _ _ _ _ _=>omega
 | p7 t ids a _ _ _ _ _ _ _ _ _ _ _=>omega
 | p8 t ids ids' a _ _ _ _ _ _ _ _ _ _ _=>omega
theorem J.go2 (h:J n0 l Z old L G m c) (hZ:ZD l Z L) (h2:G.nx=2):bN n0 l Z old L G m c:=by
 obtain ⟨hc,hp⟩:=h
 have hf:=J.fits hc hZ h2
 have hn:=gC hZ
 cases hp with
 | p2 a b cc d e f=>
   have hlen:=hc.xl
   rw [if_pos (by omega)] at hlen
   have es:aF L G=({L with xs:=L.xs++List.replicate (2*Z.n) 0,ds:=L.ds++[(2*Z.n,Z.B2)]},{G with num:=L.ds.length,err:=0,nw:=(2*Z.n,Z.B2),nx:=3}):=by
    unfold aF
    rw [if_neg (by omega),if_pos h2,if_pos hf,hc.el (by omega),hlen]
   have hb:=G4 (old:=old) hZ (xs':=L.xs++List.replicate (2*Z.n) 0) (hs':=L.hs) (ds':=L.ds++[(2*Z.n,Z.B2)]) (ws':=L.ws) (fun i _ _=>kC i) (fun q=>by rw [b] at q; simp at q) (by simp) (fun x hx=>by
    rcases List.mem_append.1 hx with q | q
    ·exact hZ.1.xb x q
    ·have:=(List.mem_replicate.1 q).2
     omega) (by
    have bU:=hZ.1.now
    rw [b,if_neg (by simp)] at bU
    unfold Me.now at bU ⊢
    rw [kC,qJ,if_neg]
    intro q
    rw [q,rT (Nat.le_refl _)] at bU
    injection bU with q1 _
    omega) (fun i=>by
    rw [qJ]
    split
    ·have:=hc.xb; simp only; omega
    ·exact hZ.1.tb i) (by rw [kC]; exact Int.le_refl _)
   refine bN.of (m':=m-1) es (by omega) ⟨⟨hc.nn,hc.al,hc.wk,rfl,fun _=>hc.el (by omega),hc.k,by show Cl.nth (L.xs++_) 0+_<=_; rw [kC]; have:=hc.pd; omega,hc.hl,fun _=>hc.aE (by omega),hc.xb,?_,?_,fun _=>⟨rfl,L.ds.length,rfl,by have:=hc.ds.1; omega,by show aN (L.ds++_) _=_; rw [qJ,if_pos rfl]⟩,fun _=>hc.later (by omega),hc.bk,hc.b5,hc.pos,?_⟩,?_⟩ hb.1 hb.2 (fun _ _=>kC _)
   ·rw [if_neg (by simp)]
    simp [hlen]
   ·have:=hc.ds.2 (by omega)
    exact ⟨by simp only [List.length_append,List.length_singleton]; omega,fun q=>by simp only at q; omega⟩
   ·intro i hi
    show 1<=(aN (L.ds++_) i).1/\(aN (L.ds++_) i).1<=65536/\(aN (L.ds++_) i).2+(aN (L.ds++_) i).1<=(L.xs++List.replicate (2*Z.n) 0).length
    have ka:=FM.eW hZ.1.jR
    rw [qJ]
    split
    ·simp only [List.length_append,List.length_replicate]
     omega
    ·have xq:i<(L.ds++[(2*Z.n,Z.B2)]).length:=hi
     simp only [List.length_append,List.length_singleton] at xq
     have:=hc.tabs i (by omega)
     simp only [List.length_append,List.length_replicate]
     omega
   ·have bV:({G with num:=L.ds.length,err:=0,nw:=(2*Z.n,Z.B2),nx:=3}:Gr).bucket=0:=d
    refine .p3 rfl b cc (by rw [bV]; omega) (fun k hk=>?_) ⟨[],?_,List.nodup_nil,by simp,fun q hq=>by rw [bV] at hq; omega,?_,?_⟩ ?_
    ·show Cl.nth (L.xs++_) _=_
     rw [kC,GW (by omega),bV,if_neg (by rintro (q | ⟨_,q⟩)<;>omega)]
    ·show gQ _ [] G.pass
     rw [e]; exact .nil
    ·show ∀ l∈G.pass,_
     rw [e]; simp
    ·show gR G.pass<=_
     rw [e]; simp [gR]
    ·rw [bV]
     simp only [Nat.sub_zero]
     omega
 | p1 a _ _ _ _ _=>omega
 | p3 a _ _ _ _ _ _=>omega
 | p4 p q a _ _ _ _ _ _ _ _ _ _=>omega
 | p5 a _ _ _ _ _ _ _ _=>omega
 | p6 a _ _ _ _ _=>omega
 | p7 t ids a _ _ _ _ _ _ _ _ _ _ _=>omega
 | p8 t ids ids' a _ _ _ _ _ _ _ _ _ _ _=>omega
end
end Go.Proofs.YtpanebgakndddaaGreat.Gw
namespace Go.Proofs.YtpanebgakndddaaGreat.Gw
open Go Hm Ar Mm Wk Pc Me Mq Pu Pn Gt Qs Zp Mx
section
variable {n0:Nat} {l:List Pr} {Z:Zs} {L:Lm} {G G':Gr} {m m' c:Nat} {old:Nat->Int->Nat->Prop}
theorem Jc.to (h:Jc n0 l Z L G m) (h1:G'.worker=G.worker/\G'.err=G.err/\G'.el=G.el/\G'.nw=G.nw/\G'.num=G.num/\G'.later=G.later) (hb:G'.bucket<=Z.n) (h3:3<=G.nx/\G.nx<=6) (pU:3<=G'.nx/\G'.nx<=7) (hm:m'<=m):Jc n0 l Z L G' m':=by
 obtain ⟨e1,e2,e3,e4,e5,e6⟩:=h1
 have kO:=h.pd
 have bz:=h.xl
 rw [if_neg (by omega)] at bz
 exact ⟨h.nn,h.al,by rw [e1]; exact h.wk,by rw [e2]; exact h.err,fun _=>by rw [e3]; exact h.el (by omega),h.k,by omega,h.hl,fun _=>h.aE (by omega),h.xb,by rw [if_neg (by omega)]; exact bz,⟨h.ds.1,fun q=>by omega⟩,
  fun _=>by rw [e4,e5]; exact h.nw (by omega),fun _=>by rw [e6]; exact h.later (by omega),hb,h.b5,h.pos,h.tabs⟩
theorem Jc.cells (h:Jc n0 l Z L G m) {xs':List Int} (hl:xs'.length=L.xs.length) (h0:Cl.nth xs' 0=Cl.nth L.xs 0):Jc n0 l Z {L with xs:=xs'} G m:=
 {h with pd:=by show Cl.nth xs' 0+_<=_; rw [h0]; exact h.pd,xl:=by show xs'.length=_; rw [hl]; exact h.xl,tabs:=yF h.tabs hl}
theorem PQ {h:Nat} (hh:h<=2) (fi:Nat×Nat):h<=dA h fi/\dA h fi<=2/\∀ i,h<=i->i<dA h fi->cC fi i=0:=by
 have:h=0\/h=1\/h=2:=by omega
 have z0:∀ i,i=0->fi.1=0->cC fi i=0:=fun i q h=>by unfold cC; rw [if_pos q]; exact h
 have z1:∀ i,i≠0->fi.2=0->cC fi i=0:=fun i q h=>by unfold cC; rw [if_neg q]; exact h
 by_cases h1:fi.1=0
 ·by_cases h2:fi.2=0
  ·rcases this with rfl | rfl | rfl
   ·have e:dA 0 fi=2:=by simp [dA,jY,h1,h2]
    rw [e]
    exact ⟨by omega,by omega,fun i _ q=>by
     by_cases hi:i=0
     ·exact z0 i hi h1
     ·exact z1 i hi h2⟩
   ·have e:dA 1 fi=2:=by simp [dA,jY,h2]
    rw [e]
    exact ⟨by omega,by omega,fun i _ q=>z1 i (by omega) h2⟩
   ·have e:dA 2 fi=2:=by simp [dA,jY]
    rw [e]
    exact ⟨by omega,by omega,fun i _ q=>by omega⟩
  ·rcases this with rfl | rfl | rfl
   ·have e:dA 0 fi=1:=by simp [dA,jY,h1,h2]
    rw [e]
    exact ⟨by omega,by omega,fun i _ q=>z0 i (by omega) h1⟩
   ·have e:dA 1 fi=1:=by simp [dA,jY,h2]
    rw [e]
    exact ⟨by omega,by omega,fun i _ q=>by omega⟩
   ·have e:dA 2 fi=2:=by simp [dA,jY]
    rw [e]
    exact ⟨by omega,by omega,fun i _ q=>by omega⟩
 ·rcases this with rfl | rfl | rfl
  ·have e:dA 0 fi=0:=by simp [dA,jY,h1]
   rw [e]
   exact ⟨by omega,by omega,fun i _ q=>by omega⟩
  ·by_cases h2:fi.2=0
   ·have e:dA 1 fi=2:=by simp [dA,jY,h2]
    rw [e]
    exact ⟨by omega,by omega,fun i _ q=>z1 i (by omega) h2⟩
   ·have e:dA 1 fi=1:=by simp [dA,jY,h2]
    rw [e]
    exact ⟨by omega,by omega,fun i _ q=>by omega⟩
  ·have e:dA 2 fi=2:=by simp [dA,jY]
   rw [e]
   exact ⟨by omega,by omega,fun i _ q=>by omega⟩
theorem G5 (hc:Jc n0 l Z L G m) (hZ:ZD l Z L) (hp:Z.bq=false) (ho:∀ w p e,old w p e) (hx:3<=G.nx/\G.nx<=5) (hb:G.bucket<Z.n) (hh:G.half<=2) (ti:jO Z L G.bucket G.half) (uO:sh Z G (G.bucket+1))
 (kN:∀ b,cC G.C.fi (hf b)=aC ((Z.aU G.bucket).filter fun a=>sd Z.n a.2.1==b)) (hm:(2-G.half)+(Z.n-G.bucket-1)*(Z.few+4)+mB Z<=m') (uP:m'<=m):J n0 l Z old L (bD G) m' c:=by
 obtain ⟨h1,h2,h3⟩:=PQ hh G.C.fi
 have hn:=gC hZ
 have et:jO Z L G.bucket (dA G.half G.C.fi):=fun d hd=>by
  rw [ti d hd]
  by_cases q:d % Z.n<G.bucket\/(d % Z.n=G.bucket/\d<Z.n*G.half)
  ·rw [if_pos q,if_pos]
   refine q.imp id fun q=>⟨q.1,Nat.lt_of_lt_of_le q.2 (Nat.mul_le_mul_left _ h1)⟩
  ·rw [if_neg q]
   split
   ·rename_i q2
    rcases q2 with q2 | ⟨q2,q3⟩
    ·exact absurd (.inl q2) q
    ·have VM:Z.n*G.half<=d:=by
      rcases Nat.lt_or_ge d (Z.n*G.half) with a | a
      ·exact absurd (.inr ⟨q2,a⟩) q
      ·exact a
     rw [GY hZ hp hd,q2,<-kN,h3]
     ·rfl
     ·unfold hf
      split
      ·rename_i q4
       have q4:=of_decide_eq_true q4
       rcases Nat.lt_or_ge G.half 2 with a | a
       ·omega
       ·have:G.half=2:=by omega
        rw [this] at VM
        omega
      ·rename_i q4
       have q4:¬Z.n<=d:=fun a=>q4 (decide_eq_true a)
       rcases Nat.eq_zero_or_pos G.half with a | a
       ·omega
       ·have:=Nat.mul_le_mul_left Z.n (show 1<=G.half from a)
        omega
     ·unfold hf
      split
      ·rename_i q4
       have q4:=of_decide_eq_true q4
       rcases Nat.lt_or_ge 1 (dA G.half G.C.fi) with a | a
       ·exact a
       ·have:=Nat.mul_le_mul_left Z.n a
        omega
      ·rcases Nat.eq_zero_or_pos (dA G.half G.C.fi) with a | a
       ·rw [a] at q3; omega
       ·exact a
   ·rfl
 unfold bD
 split
 ·rename_i bn
  refine ⟨hc.to ⟨rfl,rfl,rfl,rfl,rfl,rfl⟩ (by simp only; omega) (by omega) ⟨by simp only; omega,by simp only; omega⟩ uP,.p5 rfl hp ho hb et uO kN (by simp only; omega) ?_⟩
  simp only
  omega
 ·rename_i bn
  have he:dA G.half G.C.fi=2:=by omega
  have zQ:jO Z L (G.bucket+1) 0:=fun d hd=>by
   rw [et d hd,he]
   have:(d % Z.n<G.bucket\/(d % Z.n=G.bucket/\d<Z.n*2))↔(d % Z.n<G.bucket+1\/(d % Z.n=G.bucket+1/\d<Z.n*0)):=by omega
   by_cases q:d % Z.n<G.bucket\/(d % Z.n=G.bucket/\d<Z.n*2)
   ·rw [if_pos q,if_pos (this.1 q)]
   ·rw [if_neg q,if_neg (fun a=>q (this.2 a))]
  have eV:G.el.1=Z.n:=by rw [hc.el (by omega)]
  rw [eV]
  by_cases hq:G.bucket+1=Z.n
  ·rw [if_pos hq]
   refine ⟨hc.to ⟨rfl,rfl,rfl,rfl,rfl,rfl⟩ (by simp only; omega) (by omega) ⟨by simp only; omega,by simp only; omega⟩ uP,.p6 rfl hp ho (by rw [<-hq]; exact zQ) (by rw [<-hq]; exact uO) (by omega)⟩
  ·rw [if_neg hq]
   refine ⟨hc.to ⟨rfl,rfl,rfl,rfl,rfl,rfl⟩ (by simp only; omega) (by omega) ⟨by simp only; omega,by simp only; omega⟩ uP,.p3 rfl hp ho (by simp only; omega) zQ uO ?_⟩
   simp only
   rw [show Z.n-(G.bucket+1)=Z.n-G.bucket-1 by omega]
   omega
theorem G6 (hc:Jc n0 l Z L G m) (hZ:ZD l Z L) (hp:Z.bq=false) (ho:∀ w p e,old w p e) (hx:3<=G.nx/\G.nx<=4) (hb:G.bucket<Z.n) (ti:jO Z L G.bucket 0) (uO:sh Z G G.bucket)
 {p q:List Mq.Hp} (hA:Z.aU G.bucket=p++q) (hC:G.C=jL (sd Z.n) p) (hm:q.length+3+(Z.n-G.bucket-1)*(Z.few+4)+mB Z<=m') (uP:m'<=m):J n0 l Z old L (dg G (aC q)) m' c:=by
 have h0:∀ e∈Z.aU G.bucket,e.1≠0:=fun e he=>(hc.pos _ hb e he).1
 unfold dg
 cases q with
 | cons e q'=>
   rw [if_neg (by rw [hA] at h0; exact h0 e (by simp))]
   exact ⟨hc.to ⟨rfl,rfl,rfl,rfl,rfl,rfl⟩ (by simp only; omega) (by omega) ⟨by simp only; omega,by simp only; omega⟩ uP,.p4 p (e::q') rfl hp ho hb ti uO hA (by simp) rfl hC hm⟩
 | nil=>
   rw [List.append_nil] at hA
   rw [if_pos (show aC []=0 from rfl)]
   obtain ⟨f1,f2,f3,f4⟩:=tW hZ hp hb
   have dG:=OQ (sd Z.n) f3 f4 h0
   have km:=ON (sd Z.n) _ (Z.aU G.bucket) rfl h0
   rw [hA,<-hC] at dG km
   have jx:=hZ.1.few.1 _ hb
   have zR:(Z.rest G.bucket).length<=Z.few:=by
    have:=congrArg List.length f4
    rw [List.length_append] at this
    omega
   obtain ⟨ids,w1,w2,w3,w4,w5,w6⟩:=uO
   have hmul:(G.bucket+1)*Z.few=G.bucket*Z.few+Z.few:=Nat.succ_mul _ _
   unfold vG
   refine G5 (G:={G with pass:=if G.C.cM=[] then G.pass else G.pass++[G.C.cM],half:=0}) (hc.to (m':=m) ⟨rfl,rfl,rfl,rfl,rfl,rfl⟩ (by simp only; omega) (by omega) ⟨by simp only; omega,by simp only; omega⟩ (Nat.le_refl _)) hZ hp ho (by simp only; omega) hb (by simp) ti ?_ ?_ ?_ uP
   ·by_cases iU:G.C.cM=[]
    ·rw [iU] at dG
     have VN:=dG.none
     refine ⟨ids,?_,w2,fun e he=>?_,fun e he aH=>?_,?_,?_⟩
     ·show gQ _ ids (if G.C.cM=[] then _ else _)
      rw [if_pos iU]; exact w1
     ·have:=w3 e he
      simp only
      omega
     ·simp only at he
      by_cases hq:e=G.bucket
      ·rw [hq]; exact VN
      ·exact w4 e (by omega) aH
     ·show ∀ l∈(if G.C.cM=[] then _ else _),_
      rw [if_pos iU]; exact w5
     ·show gR (if G.C.cM=[] then _ else _)<=_
      rw [if_pos iU,hmul]; omega
    ·refine ⟨ids++[G.bucket],?_,?_,fun e he=>?_,fun e he aH=>?_,?_,?_⟩
     ·show gQ _ _ (if G.C.cM=[] then _ else _)
      rw [if_neg iU]
      exact w1.snoc ⟨hb,iU,dG⟩
     ·refine List.nodup_append.2 ⟨w2,by simp,fun a ha b cN e=>?_⟩
      have:=w3 a ha
      have eu:b=G.bucket:=by simpa using cN
      omega
     ·rcases List.mem_append.1 he with q | q
      ·have:=w3 e q
       simp only
       omega
      ·have:e=G.bucket:=by simpa using q
       simp only
       omega
     ·simp only at he
      by_cases hq:e=G.bucket
      ·exact absurd (by rw [hq]; simp) aH
      ·exact w4 e (by omega) fun q=>aH (by simp [q])
     ·show ∀ l∈(if G.C.cM=[] then _ else _),_
      rw [if_neg iU]
      intro l hl
      rcases List.mem_append.1 hl with q | q
      ·exact w5 l q
      ·have:l=G.C.cM:=by simpa using q
       rw [this]
       exact Nat.le_trans dG.le zR
     ·show gR (if G.C.cM=[] then _ else _)<=_
      rw [if_neg iU,hmul,GX]
      have:=dG.le
      omega
   ·intro b
    show cC G.C.fi (hf b)=_
    rw [km.fi b,hA]
   ·simp only [List.length_nil] at hm ⊢
    omega
theorem J.B7 (h:J n0 l Z old L G m c) (hZ:ZD l Z L) (h3:G.nx=3):bN n0 l Z old L G m c:=by
 obtain ⟨hc,hp⟩:=h
 cases hp with
 | p3 a b d e f g i=>
   have es:aF L G=(L,dg {G with C:=.new} (aC (Z.aU G.bucket))):=by
    unfold aF
    rw [if_neg (by omega),if_neg (by omega),if_pos h3,hc.el (by omega),hZ.1.elder _ e,Int.toNat_natCast]
   have jx:=hZ.1.few.1 _ e
   have hmul:(Z.n-G.bucket)*(Z.few+4)=(Z.n-G.bucket-1)*(Z.few+4)+(Z.few+4):=by
    rw [<-Nat.succ_mul]
    congr 1
    omega
   exact bN.of (m':=m-1) es (by omega) (G6 (m:=m) (G:={G with C:=.new}) (hc.to ⟨rfl,rfl,rfl,rfl,rfl,rfl⟩ (by simp only; omega) (by omega) ⟨by simp only; omega,by simp only; omega⟩ (Nat.le_refl _)) hZ b d (by simp only; omega) e f g (p:=[]) rfl rfl (by simp only; omega) (by omega)) hZ (il.refl _ _ _ _) (fun _ _=>rfl)
 | p1 a _ _ _ _ _=>omega
 | p2 a _ _ _ _ _=>omega
 | p4 p q a _ _ _ _ _ _ _ _ _ _=>omega
 | p5 a _ _ _ _ _ _ _ _=>omega
 | p6 a _ _ _ _ _=>omega
 | p7 t ids a _ _ _ _ _ _ _ _ _ _ _=>omega
 | p8 t ids ids' a _ _ _ _ _ _ _ _ _ _ _=>omega
theorem J.B8 (h:J n0 l Z old L G m c) (hZ:ZD l Z L) (h4:G.nx=4):bN n0 l Z old L G m c:=by
 obtain ⟨hc,hp⟩:=h
 cases hp with
 | p4 p q a b d e f g hA hq bO hC i=>
   cases q with
   | nil=>exact absurd rfl hq
   | cons e0 q'=>
     have rk:G.at_=e0.1:=bO
     obtain ⟨k,a1,a2,a3,a4,a5⟩:=G0 hZ hc b e hA rk
     have zP:(ai L.ss k).nd.sum=sm e0.2.1:=by rw [a3]; rfl
     have rl:(ai L.ss k).nd.next=((aC q':Nat):Int):=by rw [a3]; rfl
     have es:aF L G=(L,dg {G with C:=jL (sd Z.n) (p++[e0])} (aC q')):=by
      unfold aF
      rw [if_neg (by omega),if_neg (by omega),if_neg (by omega),if_pos h4,a2,zP,rl,Int.toNat_natCast,GZ hZ hc (by omega),hC,rk,BI]
     have hl:(e0::q').length=q'.length+1:=rfl
     rw [hl] at i
     exact bN.of (m':=m-1) es (by omega) (G6 (m:=m) (G:={G with C:=jL (sd Z.n) (p++[e0])}) (hc.to ⟨rfl,rfl,rfl,rfl,rfl,rfl⟩ (by simp only; omega) (by omega) ⟨by simp only; omega,by simp only; omega⟩ (Nat.le_refl _)) hZ b d (by simp only; omega) e f g (p:=p++[e0]) (q:=q') (by simp [hA]) rfl (by simp only; omega) (by omega)) hZ (il.refl _ _ _ _) (fun _ _=>rfl)
 | p1 a _ _ _ _ _=>omega
 | p2 a _ _ _ _ _=>omega
 | p3 a _ _ _ _ _ _=>omega
 | p5 a _ _ _ _ _ _ _ _=>omega
 | p6 a _ _ _ _ _=>omega
 | p7 t ids a _ _ _ _ _ _ _ _ _ _ _=>omega
 | p8 t ids ids' a _ _ _ _ _ _ _ _ _ _ _=>omega
theorem J.B9 (h:J n0 l Z old L G m c) (hZ:ZD l Z L) (h5:G.nx=5):bN n0 l Z old L G m c:=by
 have eM:=(h.ok hZ)
 obtain ⟨hc,hp⟩:=h
 cases hp with
 | p5 a b d e f g kN hh i=>
   have hn:=gC hZ
   have bz:=hZ.1.xl
   have gb:=hc.b5
   have eo:=hZ.1.kB
   have hlen:=hc.xl
   rw [if_neg (by omega)] at hlen
   obtain ⟨v,hv⟩:∃ v:Int,v=((cC G.C.fi G.half:Nat):Int):=⟨_,rfl⟩
   obtain ⟨i0,cW⟩:∃ i0,i0=G.bucket+G.half*Z.n:=⟨_,rfl⟩
   have mn:i0<2*Z.n/\i0 % Z.n=G.bucket/\hf (decide (Z.n<=i0))=G.half/\i0=G.bucket+G.half*Z.n:=by
    have:G.half=0\/G.half=1:=by omega
    rcases this with q | q
    ·rw [q] at cW ⊢
     refine ⟨by omega,?_,?_,cW⟩
     ·rw [cW,Nat.zero_mul,Nat.add_zero,Nat.mod_eq_of_lt e]
     ·rw [decide_eq_false (by omega)]; rfl
    ·rw [q] at cW ⊢
     refine ⟨by omega,?_,?_,cW⟩
     ·rw [cW,Nat.one_mul,Nat.add_mod_right,Nat.mod_eq_of_lt e]
     ·rw [decide_eq_true (by omega)]; rfl
   obtain ⟨j1,j2,j3,j4⟩:=mn
   have xk:0<=v/\v<=18446744073709551615:=by
    have h2:cC G.C.fi G.half<=18446744073709551615:=by
     rw [<-j3,kN]
     cases hq:(Z.aU G.bucket).filter fun a=>sd Z.n a.2.1==decide (Z.n<=i0) with
     | nil=>simp [aC]
     | cons a t=>
       have:a∈Z.aU G.bucket:=(List.mem_filter.1 (show a∈(Z.aU G.bucket).filter fun a=>sd Z.n a.2.1==decide (Z.n<=i0) by rw [hq]; simp)).1
       exact (hc.pos _ e a this).2
    omega
   have es:aF L G=({L with xs:=L.xs.set (Z.B2+i0) v},bD {G with half:=G.half+1}):=by
    unfold aF
    rw [if_neg (by omega),if_neg (by omega),if_neg (by omega),if_neg (by omega),if_pos h5,hc.el (by omega),(hc.nw (by omega)).1,<-hv,cW]
   have gI:∀ j,j≠Z.B2+i0->Cl.nth (L.xs.set (Z.B2+i0) v) j=Cl.nth L.xs j:=fun j hj=>by rw [fJ _ _ _ (by omega),if_neg hj]
   have eu:=G4 (old:=old) hZ (xs':=L.xs.set (Z.B2+i0) v) (hs':=L.hs) (ds':=L.ds) (ws':=L.ws) (fun j _ _=>gI j (by omega)) (fun q=>by rw [b] at q; simp at q) (by simp) (fun x hx=>by
    rcases List.mem_or_eq_of_mem_set hx with q | rfl
    ·exact hZ.1.xb x q
    ·exact xk) (by
    unfold Me.now
    rw [gI 1 (by omega)]) hZ.1.tb (by rw [gI 0 (by omega)]; exact Int.le_refl _)
   refine bN.of (m':=m-1) es (by omega) (G5 (m:=m) (G:={G with half:=G.half+1}) ?_ eu.1 b d (by first | omega | (simp only; omega)) e (by first | omega | (simp only; omega)) ?_ g kN (by first | omega | (simp only; omega)) (by omega)) eu.1 eu.2 (fun _ _=>gI _ (by omega))
   ·have hj:Jc n0 l Z L {G with half:=G.half+1} m:=hc.to ⟨rfl,rfl,rfl,rfl,rfl,rfl⟩ (by simp only; omega) (by omega) ⟨by simp only; omega,by simp only; omega⟩ (Nat.le_refl _)
    exact hj.cells (by simp) (gI _ (by omega))
   ·intro x hx
    show Cl.nth (L.xs.set (Z.B2+i0) v) (Z.B2+x)=if x % Z.n<G.bucket\/(x % Z.n=G.bucket/\x<Z.n*(G.half+1)) then _ else _
    by_cases hq:x=i0
    ·subst hq
     rw [fJ _ _ _ (by omega),if_pos rfl,if_pos,hv,GY hZ b hx,j2,<-kN,j3]
     refine .inr ⟨j2,?_⟩
     rw [j4,Nat.mul_add,Nat.mul_comm Z.n G.half]
     omega
    ·rw [gI _ (by omega),f x hx]
     have:(x % Z.n<G.bucket\/(x % Z.n=G.bucket/\x<Z.n*G.half))↔(x % Z.n<G.bucket\/(x % Z.n=G.bucket/\x<Z.n*(G.half+1))):=by
      refine or_congr Iff.rfl (and_congr_right fun q=>?_)
      have hd:=Nat.div_add_mod x Z.n
      have lB:x / Z.n<2:=Nat.div_lt_of_lt_mul (by rw [Nat.mul_comm]; exact hx)
      generalize x / Z.n=dd at hd lB
      have xr:dd=0\/dd=1:=by omega
      have VO:G.half=0\/G.half=1:=by omega
      rcases xr with r | r<;>rcases VO with s | s<;>rw [r] at hd<;>rw [s] at j4 ⊢<;>omega
     by_cases kJ:x % Z.n<G.bucket\/(x % Z.n=G.bucket/\x<Z.n*G.half)
     ·rw [if_pos kJ,if_pos (this.1 kJ)]
     ·rw [if_neg kJ,if_neg (fun a=>kJ (this.2 a))]
 | p1 a _ _ _ _ _=>omega
 | p2 a _ _ _ _ _=>omega
 | p3 a _ _ _ _ _ _=>omega
 | p4 p q a _ _ _ _ _ _ _ _ _ _=>omega
 | p6 a _ _ _ _ _=>omega
 | p7 t ids a _ _ _ _ _ _ _ _ _ _ _=>omega
 | p8 t ids ids' a _ _ _ _ _ _ _ _ _ _ _=>omega
end
end Go.Proofs.YtpanebgakndddaaGreat.Gw
namespace Go.Proofs.YtpanebgakndddaaGreat.Gw
open Go Hm Ar Mm Wk Pc Me Mq Pu Pn Gt Qs Zp Mx
section
variable {n0:Nat} {l:List Pr} {Z:Zs} {L:Lm} {G G':Gr} {m m' c:Nat} {old:Nat->Int->Nat->Prop}
theorem Cb (k:Int) (w:Nat) (p:Int) (e:Nat):gw ⟨k,0,0,0⟩ w p e:=.inl (Nat.zero_le _)
theorem J.Cc (h:J n0 l Z old L G m c) (hZ:ZD l Z L) (h6:G.nx=6):bN n0 l Z old L G m c:=by
 obtain ⟨hc,hp⟩:=h
 cases hp with
 | p6 a b d e f i=>
   have hn:=gC hZ
   have bz:=hZ.1.xl
   have gb:=hc.b5
   have eo:=hZ.1.kB
   have cm:=hc.k
   have iB:=hc.wk
   have hlen:=hc.xl
   rw [if_neg (by omega)] at hlen
   obtain ⟨bK,t,D0,DA,D1⟩:=hc.nw (by omega)
   obtain ⟨ids,w1,w2,w3,w4,w5,w6⟩:=f
   have es:aF L G=({L with xs:=L.xs.set 1 (t:Int)},eh G):=by
    unfold aF
    rw [if_neg (by omega),if_neg (by omega),if_neg (by omega),if_neg (by omega),if_neg (by omega),if_pos h6,D0]
   have gI:∀ j,j≠1->Cl.nth (L.xs.set 1 (t:Int)) j=Cl.nth L.xs j:=fun j hj=>by rw [fJ _ _ _ (by omega),if_neg hj]
   have eu:=PR (old:=old) hZ b (t:=t) (by omega) (by
    unfold Me.now
    rw [fJ _ _ _ (by omega),if_pos rfl,Int.toNat_natCast,D1]) (by omega) (fun x hx=>by
    rw [e x hx,if_pos]
    exact .inl (Nat.mod_lt _ (by omega)))
   have D2:il l {Z with bq:=true} {L with xs:=L.xs.set 1 (t:Int)} old {Z with bq:=true} {L with xs:=L.xs.set 1 (t:Int)} (gw ⟨G.worker,0,0,0⟩):=il.G7 eu.1 fun w p e _=>Cb _ w p e
   have hj:Jc n0 l Z {L with xs:=L.xs.set 1 (t:Int)} (eh G) (m-1):=(hc.to (G':=eh G) ⟨rfl,rfl,rfl,rfl,rfl,rfl⟩ hc.bk (by omega) ⟨by show 3<=7; omega,by show 7<=7; omega⟩ (by omega)).cells (by simp) (gI _ (by omega))
   refine bN.of (m':=m-1) (Z':={Z with bq:=true}) (old':=gw ⟨G.worker,0,0,0⟩) es (by unfold mB at i; omega) ⟨⟨hj.nn,hj.al,hj.wk,hj.err,hj.el,hj.k,hj.pd,hj.hl,hj.aE,hj.xb,hj.xl,hj.ds,hj.nw,hj.later,hj.bk,hj.b5,hj.pos,hj.tabs⟩,?_⟩ eu.1 (il.trans (L':={L with xs:=L.xs.set 1 (t:Int)}) rfl eu.2 D2) (fun _ _=>gI _ (by omega))
   refine .p7 Z.few ids rfl rfl (fun w p e=>Iff.rfl) ⟨by show L.k.toNat<=8; omega,by show 0<=3; omega,?_,hc.hl,by show L.k.toNat+2<=(L.xs.set 1 (t:Int)).length; rw [List.length_set]; omega,⟨by show 0<=1000; omega,fun _=>by show 0<L.k.toNat; omega⟩,fun q=>absurd rfl q⟩ iB.1 (fun _=>rfl) (fun _=>hc.aE (by omega)) w1 w2 w4 w5 ?_
   ·show 0<=G.worker/\G.worker<=_
    omega
   ·show wl ⟨G.worker,0,0,0⟩+12*Z.few+gR G.pass<=_
    have:wl ⟨G.worker,0,0,0⟩=11:=by unfold wl; rw [if_pos rfl]
    rw [this]
    unfold mB at i
    omega
 | p1 a _ _ _ _ _=>omega
 | p2 a _ _ _ _ _=>omega
 | p3 a _ _ _ _ _ _=>omega
 | p4 p q a _ _ _ _ _ _ _ _ _ _=>omega
 | p5 a _ _ _ _ _ _ _ _=>omega
 | p7 t ids a _ _ _ _ _ _ _ _ _ _ _=>omega
 | p8 t ids ids' a _ _ _ _ _ _ _ _ _ _ _=>omega
theorem yH {n:Nat} {W:Wt} (hl:0<L.xs.length) (hh:Cl.nth L.xs 0<=4611686018427387904) (h0:0<=Cl.nth L.xs 0):(∀ j,j≠0->Cl.nth (aI n L.xs L.hs W).1 j=Cl.nth L.xs j)/\(aI n L.xs L.hs W).1.length=L.xs.length/\Cl.nth (aI n L.xs L.hs W).1 0<=Cl.nth L.xs 0+1/\(aI n L.xs L.hs W).2.1.length=L.hs.length/\(aI n L.xs L.hs W).2.2.worker=W.worker:=by
 unfold aI
 by_cases h0:W.at_=0
 ·rw [if_pos h0]; exact ⟨fun _ _=>rfl,rfl,by simp only; omega,by simp,rfl⟩
 rw [if_neg h0]
 by_cases h1:W.at_=1
 ·rw [if_pos h1]
  refine ⟨fun j hj=>by simp only; rw [fJ _ _ _ hl,if_neg hj],by simp,?_,rfl,rfl⟩
  simp only
  rw [fJ _ _ _ hl,if_pos rfl,yI (by assumption) hh]
  exact Int.le_refl _
 rw [if_neg h1]
 by_cases h2:W.at_=2
 ·rw [if_pos h2]; exact ⟨fun _ _=>rfl,rfl,by simp only; omega,rfl,rfl⟩
 ·rw [if_neg h2]; exact ⟨fun _ _=>rfl,rfl,by simp only; omega,by simp,rfl⟩
theorem G8 {n:Nat} {W:Wt} (hs:List Int) (xs:List Int) (eM:Qs.eB n xs hs W) (h3:W.at_≠3):wl (aI n xs hs W).2.2+1<=wl W:=by
 have h1:=eM.at_
 have h2:=eM.bm
 have h4:=eM.n1
 unfold aI
 have:W.at_=0\/W.at_=1\/W.at_=2:=by omega
 rcases this with q | q | q
 ·rw [if_pos q]
  simp [wl,q]
 ·rw [if_neg (by omega),if_pos q]
  simp [wl,q]
 ·rw [if_neg (by omega),if_neg (by omega),if_pos q]
  have hp:=h2.2 (by omega)
  by_cases hq:n<=W.bm+1
  ·simp [wl,q,hq]
   omega
  ·simp [wl,q,hq]
   omega
theorem J.Cd (h:J n0 l Z old L G m c) (hZ:ZD l Z L) (h7:G.nx=7) (hr:kW L G=true) (hd:ck L G=false):bN n0 l Z old L G m c:=by
 obtain ⟨hc,hp⟩:=h
 cases hp with
 | p7 t ids a b d e f g i w1 w2 w3 w4 w5=>
   have hn:=gC hZ
   have bz:=hZ.1.xl
   have eo:=hZ.1.kB
   have cm:=hc.k
   have xr:=hZ.1.p1
   have hlen:=hc.xl
   rw [if_neg (by omega)] at hlen
   have hold:old=gw G.W:=funext fun w=>funext fun p=>funext fun e=>propext (d w p e)
   subst hold
   have eD:fQ L.xs L.hs G.W=true:=by unfold kW at hr; rw [if_pos h7] at hr; exact hr
   have kO:=hc.pd
   have es:=G3 (L:=L) h7
   obtain ⟨c1,c2,c3,c4,c5⟩:=yH (n:=L.k.toNat) (L:=L) (W:=G.W) (by omega) (by omega) (by omega)
   have eu:=PS (n:=L.k.toNat) hZ (by omega) eD g e.at_ (by omega)
   by_cases h3:G.W.at_=3
   ·have cF:G.pass≠[]:=fun q=>by
     unfold ck at hd
     rw [if_neg (by omega),if_pos h7,decide_eq_true ⟨h3,q⟩] at hd
     simp at hd
    rw [if_pos h3,if_neg cF] at es
    have hw:aI L.k.toNat L.xs L.hs G.W=(L.xs,L.hs.set 0 (-1),{G.W with at_:=4}):=by
     unfold aI; rw [if_neg (by omega),if_neg (by omega),if_neg (by omega)]
    rw [hw] at es eu
    have xt:wl G.W=1:=by simp [wl,h3]
    rw [xt] at w5
    obtain ⟨l1,ps,Kd⟩:∃ l1 ps,G.pass=l1::ps:=by
     cases hq:G.pass with
     | nil=>exact absurd hq cF
     | cons x y=>exact ⟨x,y,rfl⟩
    have ht:1<=t:=by
     rw [Kd] at w1
     cases w1 with
     | cons q _=>
       have:=w4 l1 (by rw [Kd]; simp)
       have:=List.length_pos_iff.2 q.2.1
       omega
    refine bN.of (m':=m-1) es (by omega) ⟨⟨hc.nn,hc.al,hc.wk,hc.err,fun _=>hc.el (by omega),hc.k,by show Cl.nth L.xs 0+_<=_; omega,by simpa using hc.hl,fun _=>B5 hc.hl _,hc.xb,?_,⟨hc.ds.1,fun q=>by simp only at q; omega⟩,fun _=>hc.nw (by omega),fun q=>absurd rfl q,hc.bk,hc.b5,hc.pos,hc.tabs⟩,?_⟩ eu.1 eu.2 (fun _ _=>rfl)
    ·rw [if_neg (by simp)]; exact hlen
    ·refine .p8 (t-1) ids [] rfl b (fun x _ w p=>Ce (by simp) w p x) w1 ?_ (by rw [List.append_nil]; exact w2) (by rw [List.append_nil]; exact w3) cF ?_ ?_ ?_ ?_
     ·show gQ _ [] G.later
      rw [hc.later (by omega)]; exact .nil
     ·intro x hx
      have:=w4 x hx
      omega
     ·show ∀ x∈G.later,_
      rw [hc.later (by omega)]; simp
     ·show G.later.length<=_
      rw [hc.later (by omega)]; simp
     ·show _+gR G.pass+gR G.later<=_
      rw [hc.later (by omega)]
      simp only [gR,List.map_nil,List.sum_nil] at w5 ⊢
      omega
   ·rw [if_neg h3] at es
    have eM:=e.step eD h3
    have xt:=G8 L.hs L.xs e h3
    obtain ⟨W',rm⟩:∃ W',W'=(aI L.k.toNat L.xs L.hs G.W).2.2:=⟨_,rfl⟩
    obtain ⟨xs',Ke⟩:∃ xs',xs'=(aI L.k.toNat L.xs L.hs G.W).1:=⟨_,rfl⟩
    obtain ⟨hs',Kf⟩:∃ hs',hs'=(aI L.k.toNat L.xs L.hs G.W).2.1:=⟨_,rfl⟩
    have zS:(W'.at_<=1->W'.bm=0)/\W'.at_≠0:=by
     rw [rm]
     unfold aI
     have h4:=e.at_
     have:G.W.at_=0\/G.W.at_=1\/G.W.at_=2:=by omega
     rcases this with q | q | q
     ·rw [if_pos q]; exact ⟨fun _=>g (by omega),by simp⟩
     ·rw [if_neg (by omega),if_pos q]; exact ⟨fun q2=>by simp only at q2; omega,by simp⟩
     ·rw [if_neg (by omega),if_neg (by omega),if_pos q]
      simp only
      split
      ·exact ⟨fun q2=>by omega,by omega⟩
      ·exact ⟨fun q2=>by omega,by omega⟩
    rw [<-rm,<-Ke,<-Kf] at es eu eM
    rw [<-rm] at xt c5
    rw [<-Ke] at c1 c2 c3
    rw [<-Kf] at c4
    have o7:1<=wl G.W:=by omega
    refine bN.of (m':=m-1) es (by omega) ⟨⟨hc.nn,hc.al,hc.wk,hc.err,fun _=>hc.el (by omega),hc.k,by show Cl.nth xs' 0+_<=_; omega,by show 0<hs'.length; rw [c4]; exact hc.hl,fun q=>absurd rfl q,hc.xb,?_,⟨hc.ds.1,fun q=>by simp only at q; omega⟩,fun _=>hc.nw (by omega),fun _=>hc.later (by omega),hc.bk,hc.b5,hc.pos,yF hc.tabs c2⟩,?_⟩ eu.1 eu.2 (fun _ _=>c1 _ (by omega))
    ·show xs'.length=_
     rw [if_neg (by simp),c2]; exact hlen
    ·exact .p7 t ids rfl b (fun w p e=>Iff.rfl) eM (by rw [c5]; exact f) zS.1 (fun q=>absurd q zS.2) w1 w2 w3 w4 (by simp only; omega)
 | p1 a _ _ _ _ _=>omega
 | p2 a _ _ _ _ _=>omega
 | p3 a _ _ _ _ _ _=>omega
 | p4 p q a _ _ _ _ _ _ _ _ _ _=>omega
 | p5 a _ _ _ _ _ _ _ _=>omega
 | p6 a _ _ _ _ _=>omega
 | p8 t ids ids' a _ _ _ _ _ _ _ _ _ _ _=>omega
theorem J.Cf (h:J n0 l Z old L G m c) (hZ:ZD l Z L) (h8:G.nx=8):bN n0 l Z old L G m c:=by
 obtain ⟨hc,hp⟩:=h
 cases hp with
 | p8 t ids ids' a b d w1 w1' w2 w3 aH w4 w4' bP w5=>
   have hn:=gC hZ
   have hlen:=hc.xl
   rw [if_neg (by omega)] at hlen
   have kO:=hc.pd
   have cm:=hc.k
   have iB:=hc.wk
   have eo:=hZ.1.kB
   have bz:=hZ.1.xl
   obtain ⟨ps,cF⟩:∃ ps,ps=G.pass:=⟨_,rfl⟩
   rw [<-cF] at w1 w4 w5 aH
   cases w1 with
   | nil=>exact absurd rfl aH
   | @cons e0 es l0 ls0 hP hw=>
     obtain ⟨he,kh,hL⟩:=hP
     generalize hr:Z.r e0=r at hL
     generalize hq:Z.rest e0=rest at hL
     cases hL with
     | nil=>exact absurd rfl kh
     | @cons r0 dd t0 aa s ls' g1 g2 g3 g4=>
       have hz:=hZ.1.zip e0 he
       have hs:s=Z.s e0:=by
        cases dd with
        | nil=>exact absurd rfl g1
        | cons x y=>
          have h1:=hz.hd x (y++t0) (by rw [hq]; rfl)
          have h2:=g2 x (by simp)
          rw [h1] at h2
          revert h2
          cases s<;>cases Z.s e0<;>simp
       rw [hs] at g2 g3
       have eu:=PT (old:=old) (old':=fun w p i=>i=e0\/old w p i) hZ b he hr hq g1 g2 g3 (fun w p=>d e0 (by simp) w p) (fun w p i=>Iff.rfl)
       have bB:=List.nodup_append.1 w2
       have xu:=List.nodup_cons.1 bB.1
       have lP:e0∉ids':=fun q=>bB.2.2 e0 (by simp) e0 q rfl
       obtain ⟨lat,mD⟩:∃ lat,lat=if 1<((aa.1,aC t0)::ls').length then G.later++[((aa.1,aC t0)::ls').drop 1] else G.later:=⟨_,rfl⟩
       have mE:∀ (i:Nat) (y:List (Nat×Nat)),i≠e0->Pt Z i y->Pt (Z.linked e0 dd t0) i y:=fun i y hi h=>by
        refine ⟨h.1,h.2.1,?_⟩
        show kU (sd Z.n) (cJ Z.r e0 dd i) (cJ Z.rest e0 t0 i) y
        rw [kX _ _ hi,kX _ _ hi]
        exact h.2.2
       have Kg:∀ i,i≠e0->(Z.linked e0 dd t0).rest i=Z.rest i:=fun i hi=>kX _ _ hi
       have iz:(Z.linked e0 dd t0).rest e0=t0:=mU _ _ _
       have gf:gQ (Pt (Z.linked e0 dd t0)) es ls0:=hw.mono fun i hi y h=>mE i y (fun q=>xu.1 (q▸hi)) h
       have sW:gQ (Pt (Z.linked e0 dd t0)) ids' G.later:=w1'.mono fun i hi y h=>mE i y (fun q=>lP (q▸hi)) h
       obtain ⟨idn,i1,i2,i3,i4,i5⟩:∃ idn,gQ (Pt (Z.linked e0 dd t0)) idn lat/\(es++idn).Nodup/\(∀ i,i<Z.n->i∉es++idn->(Z.linked e0 dd t0).rest i=[])/\(∀ y∈lat,y.length<=t)/\gR lat+1<=gR G.later+((aa.1,aC t0)::ls').length:=by
        by_cases h1:ls'=[]
        ·subst h1
         rw [if_neg (by simp)] at mD
         subst mD
         refine ⟨ids',sW,?_,fun i hi zT=>?_,w4',by simp⟩
         ·exact List.nodup_append.2 ⟨xu.2,bB.2.1,fun x hx y hy=>bB.2.2 x (List.mem_cons_of_mem _ hx) y hy⟩
         ·by_cases gh:i=e0
          ·rw [gh,iz]; exact g4.none
          ·rw [Kg i gh]
           refine w3 i hi fun q=>zT ?_
           simp only [List.cons_append,List.mem_cons] at q
           rcases q with q | q
           ·exact absurd q gh
           ·exact q
        ·rw [if_pos (by have:=List.length_pos_iff.2 h1; simp only [List.length_cons]; omega)] at mD
         subst mD
         refine ⟨ids'++[e0],sW.snoc ⟨he,h1,?_⟩,?_,fun i hi zT=>?_,fun y hy=>?_,?_⟩
         ·show kU (sd Z.n) (cJ Z.r e0 dd e0) (cJ Z.rest e0 t0 e0) ls'
          rw [mU,mU]
          exact g4
         ·refine List.nodup_append.2 ⟨xu.2,List.nodup_append.2 ⟨bB.2.1,by simp,fun x hx y hy e=>?_⟩,fun x hx y hy e=>?_⟩
          ·have my:y=e0:=by simpa using hy
           exact lP (by rw [<-my,<-e]; exact hx)
          ·rcases List.mem_append.1 hy with q | q
           ·exact bB.2.2 x (List.mem_cons_of_mem _ hx) y q e
           ·have my:y=e0:=by simpa using q
            exact xu.1 (by rw [<-my,<-e]; exact hx)
         ·by_cases gh:i=e0
          ·exact absurd (by rw [gh]; simp) zT
          ·rw [Kg i gh]
           refine w3 i hi fun q=>zT ?_
           simp only [List.cons_append,List.mem_cons,List.mem_append] at q ⊢
           rcases q with q | q | q
           ·exact absurd q gh
           ·exact .inl q
           ·exact .inr (.inl q)
         ·rcases List.mem_append.1 hy with q | q
          ·exact w4' y q
          ·have my:y=ls':=by simpa using q
           have:=w4 _ (List.mem_cons_self)
           simp only [List.length_cons] at this
           rw [my]
           omega
         ·rw [GX]
          simp only [List.drop_succ_cons,List.drop_zero,List.length_cons]
          omega
       rw [PL] at w5
       have bt:aF L G=({L with ss:=aR L.ss aa.1 (aC t0)},if ls0=[] then eh {G with pass:=lat,later:=[]} else {G with pass:=ls0,later:=lat}):=by
        unfold aF
        rw [if_neg (by omega),if_neg (by omega),if_neg (by omega),if_neg (by omega),if_neg (by omega),if_neg (by omega),if_neg (by omega),<-cF]
        simp only [<-mD]
        rfl
       by_cases hl:ls0=[]
       ·rw [if_pos hl] at bt
        subst hl
        cases hw
        have D2:il l (Z.linked e0 dd t0) {L with ss:=aR L.ss aa.1 (aC t0)} (fun w p i=>i=e0\/old w p i) (Z.linked e0 dd t0) {L with ss:=aR L.ss aa.1 (aC t0)} (gw ⟨G.worker,0,0,0⟩):=il.G7 eu.1 fun w p e _=>Cb _ w p e
        refine bN.of (m':=m-1) (Z':=Z.linked e0 dd t0) (old':=gw ⟨G.worker,0,0,0⟩) bt (by omega) ⟨⟨hc.nn,hc.al,hc.wk,hc.err,fun _=>hc.el (by omega),hc.k,by show Cl.nth L.xs 0+_<=_; omega,hc.hl,fun q=>absurd rfl q,hc.xb,?_,⟨hc.ds.1,fun q=>by have q:7<=2:=q; omega⟩,fun _=>hc.nw (by omega),fun _=>rfl,hc.bk,hc.b5,hc.pos,hc.tabs⟩,?_⟩ eu.1 (il.trans (L':={L with ss:=aR L.ss aa.1 (aC t0)}) rfl eu.2 D2) (fun _ _=>rfl)
        ·exact hlen.trans (if_neg (show ¬(7<=2) by omega)).symm
        ·refine .p7 t idn rfl b (fun w p e=>Iff.rfl) ⟨by show L.k.toNat<=8; omega,by show 0<=3; omega,?_,hc.hl,?_,⟨by show 0<=1000; omega,fun _=>by show 0<L.k.toNat; omega⟩,fun q=>absurd rfl q⟩ iB.1 (fun _=>rfl) (fun _=>hc.aE (by omega)) i1 i2 i3 i4 ?_
         ·show 0<=G.worker/\G.worker<=_
          omega
         ·show L.k.toNat+2<=L.xs.length
          omega
         ·show wl ⟨G.worker,0,0,0⟩+12*t+gR lat<=_
          have:wl ⟨G.worker,0,0,0⟩=11:=by unfold wl; rw [if_pos rfl]
          rw [this]
          omega
       ·rw [if_neg hl] at bt
        refine bN.of (m':=m-1) (Z':=Z.linked e0 dd t0) (old':=fun w p i=>i=e0\/old w p i) bt (by omega) ⟨⟨hc.nn,hc.al,hc.wk,hc.err,fun _=>hc.el (by omega),hc.k,by show Cl.nth L.xs 0+_<=_; omega,hc.hl,fun _=>hc.aE (by omega),hc.xb,?_,⟨hc.ds.1,fun q=>by have q:G.nx<=2:=q; omega⟩,fun _=>hc.nw (by omega),fun q=>absurd h8 q,hc.bk,hc.b5,hc.pos,hc.tabs⟩,?_⟩ eu.1 eu.2 (fun _ _=>rfl)
        ·show L.xs.length=if G.nx<=2 then _ else _
         rw [if_neg (by omega)]; exact hlen
        ·refine .p8 t es idn h8 b (fun x hx w p q=>?_) gf i1 i2 i3 hl (fun y hy=>w4 y (List.mem_cons_of_mem _ hy)) i4 ?_ ?_
         ·rcases q with q | q
          ·exact xu.1 (q▸hx)
          ·exact d x (List.mem_cons_of_mem _ hx) w p q
         ·exact yG (Z:=Z.linked e0 dd t0) eu.1 i1 (List.nodup_append.1 i2).2.1
         ·show 12*(t+1)+gR ls0+gR lat<=m-1
          omega
 | p1 a _ _ _ _ _=>omega
 | p2 a _ _ _ _ _=>omega
 | p3 a _ _ _ _ _ _=>omega
 | p4 p q a _ _ _ _ _ _ _ _ _ _=>omega
 | p5 a _ _ _ _ _ _ _ _=>omega
 | p6 a _ _ _ _ _=>omega
 | p7 t ids a _ _ _ _ _ _ _ _ _ _ _=>omega
theorem J.si (h:J n0 l Z old L G m c) (hZ:ZD l Z L) (hr:kW L G=true) (hd:ck L G=false):bN n0 l Z old L G m c:=by
 have fF:=h.2.nx
 have h8:G.nx=1\/G.nx=2\/G.nx=3\/G.nx=4\/G.nx=5\/G.nx=6\/G.nx=7\/G.nx=8:=by omega
 rcases h8 with q | q | q | q | q | q | q | q
 ·exact h.B6 hZ q
 ·exact h.go2 hZ q
 ·exact h.B7 hZ q
 ·exact h.B8 hZ q
 ·exact h.B9 hZ q
 ·exact h.Cc hZ q
 ·exact h.Cd hZ q hr hd
 ·exact h.Cf hZ q
end
end Go.Proofs.YtpanebgakndddaaGreat.Gw
namespace Go.Proofs.YtpanebgakndddaaGreat.Sw
open Go Hm Ar Mm Wk Pc Me Mq Pu Pn Gt Qs Zp Mx
def JD (l:List Pr) (Z:Js) (L:Lm):Prop:=Z.Ok L l/\Z.few<=35
def pM (Z:Js) (L:Lm) (b:Nat):Prop:=∀ e,e<Z.n->Cl.nth L.xs (Z.B2+e)=if e<b then ((aC (Z.two e):Nat):Int) else 0
def nK (Z:Js) (b:Nat):Prop:=∀ e,e<Z.n->Z.jn e=decide (e<b)
structure Kc (n0:Nat) (Z:Js) (L:Lm) (G:Sh) (m c:Nat):Prop where
 nn:Z.n=n0
 wk:0<=G.worker/\G.worker<=1000
 err:G.err=0
 el:G.nx≠1->G.el=(2*Z.n,Z.B)
 k:1<=L.k/\L.k<=8
 pd:Cl.nth L.xs 0+m<=4611686018427387904
 hl:0<L.hs.length
 aE:G.nx≠9->Lo.aE L.hs 0= -1
 xb:Z.B2+Z.n<=1048576
 xl:L.xs.length=if G.nx<=2 then Z.B2 else Z.B2+Z.n
 ds:L.ds.length<=800001/\(G.nx<=2->L.ds.length<=800000)
 nw:G.nw=if G.nx<=2 then (0,0) else (Z.n,Z.B2)
 num:3<=G.nx->∃ t:Nat,G.num=t/\t<=900000/\aN L.ds t=(Z.n,Z.B2)
 bk:G.bucket<=Z.n
 b5:4<=Z.B2
 hb:G.fi<=18446744073709551615/\G.sec<=18446744073709551615
 pos:∀ b,b<2*Z.n->∀ a∈Z.C b,a.1≠0/\a.1<=18446744073709551615
 tabs:l7 L.xs L.ds
 cap:Z.cap+c<=1000000
inductive Kp (Z:Js) (L:Lm) (G:Sh) (old:Nat->Int->Nat->Prop):Nat->Nat->Prop
 | p1 {m c:Nat}:G.nx=1->Z.bq=false->G.bucket=0->nK Z 0->2+Z.n*(Z.few+4)+12<=m->Z.n*Z.few<=c->Kp Z L G old m c
 | p2 {m c:Nat}:G.nx=2->Z.bq=false->G.bucket=0->nK Z 0->1+Z.n*(Z.few+4)+12<=m->Z.n*Z.few<=c->Kp Z L G old m c
 | p3 {m c:Nat}:G.nx=3->Z.bq=false->G.bucket<Z.n->nK Z G.bucket->pM Z L G.bucket->(Z.n-G.bucket)*(Z.few+4)+12<=m->(Z.n-G.bucket)*Z.few<=c->Kp Z L G old m c
 | p4 {m c:Nat}:G.nx=4->Z.bq=false->G.bucket<Z.n->nK Z G.bucket->pM Z L G.bucket->G.fi=aC (Z.C G.bucket)->(Z.few+3)+(Z.n-G.bucket-1)*(Z.few+4)+12<=m->Z.few+(Z.n-G.bucket-1)*Z.few<=c->Kp Z L G old m c
 | p5 {m c:Nat} (p q:List Mq.Hp):G.nx=5->Z.bq=false->G.bucket<Z.n->nK Z G.bucket->pM Z L G.bucket->G.fi=aC (Z.C G.bucket)->G.sec=aC (Z.C (G.bucket+Z.n))->Z.C (G.bucket+Z.n)≠[]->Z.C G.bucket=p++q->q≠[]->G.at_=aC q->G.met=(aL p).reverse->
    q.length+2+(Z.n-G.bucket-1)*(Z.few+4)+12<=m->Z.few+(Z.n-G.bucket-1)*Z.few<=c->Kp Z L G old m c
 | p6 {m c:Nat} (c0:List Mq.Hp) (a:Mq.Hp):G.nx=6->Z.bq=false->G.bucket<Z.n->nK Z G.bucket->pM Z L G.bucket->G.fi=aC (Z.C G.bucket)->G.sec=aC (Z.C (G.bucket+Z.n))->Z.C G.bucket=c0++[a]->G.la=a.1->
    2+(Z.n-G.bucket-1)*(Z.few+4)+12<=m->Z.few+(Z.n-G.bucket-1)*Z.few<=c->Kp Z L G old m c
 | p7 {m c:Nat}:G.nx=7->Z.bq=false->G.bucket<Z.n->nK Z (G.bucket+1)->pM Z L G.bucket->G.fi=aC (Z.two G.bucket)->1+(Z.n-G.bucket-1)*(Z.few+4)+12<=m->(Z.n-G.bucket-1)*Z.few<=c->Kp Z L G old m c
 | p8 {m c:Nat}:G.nx=8->Z.bq=false->nK Z Z.n->pM Z L Z.n->12<=m->Kp Z L G old m c
 | p9 {m c:Nat}:G.nx=9->Z.bq=true->(∀ w p e,old w p e↔gw G.W w p e)->Qs.eB L.k.toNat L.xs L.hs G.W->0<=G.W.worker->(G.W.at_<=1->G.W.bm=0)->(G.W.at_=0->Lo.aE L.hs 0= -1)->Gw.wl G.W<=m->Kp Z L G old m c
def J (n0:Nat) (Z:Js) (old:Nat->Int->Nat->Prop) (L:Lm) (G:Sh) (m c:Nat):Prop:=Kc n0 Z L G m c/\Kp Z L G old m c
def oN (l:List Pr) (Z:Js) (L:Lm) (old:Nat->Int->Nat->Prop) (Z':Js) (L':Lm) (old':Nat->Int->Nat->Prop) (j:Nat):Prop:=
 ∀ (R:Rn) (k:Nat),(R.w:Int)<L.k->bW Z.wy L l old R k->∃ k',k'<=k+j/\bW Z'.wy L' l old' R k'
def bN (n0:Nat) (l:List Pr) (Z:Js) (old:Nat->Int->Nat->Prop) (L:Lm) (G:Sh) (m c:Nat):Prop:=
 ∃ Z' old' m' c' j,m'+1<=m/\c'+j<=c/\J n0 Z' old' (aG L G).1 (aG L G).2 m' c'/\JD l Z' (aG L G).1/\oN l Z L old Z' (aG L G).1 old' j/\(∀ i:Nat,(i:Int)<L.k->Cl.nth (aG L G).1.xs (2+i)=Cl.nth L.xs (2+i))/\(aG L G).1.k=L.k/\Z'.few=Z.few/\Z'.C=Z.C/\Z'.cap+c'<=Z.cap+c/\Z'.B2=Z.B2
structure oG (n0:Nat) (Z:Js) (L:Lm) (G:Sh):Prop where
 nn:Z.n=n0
 bq:Z.bq=true
 err:G.err=0
 aE:Lo.aE L.hs 0= -1
 hl:0<L.hs.length
 xl:L.xs.length=Z.B2+Z.n
 xm:Z.B2+Z.n<=1048576
 tabs:l7 L.xs L.ds
 pos:∀ b,b<2*Z.n->∀ a∈Z.C b,a.1≠0/\a.1<=18446744073709551615
section
variable {n0:Nat} {l:List Pr} {Z:Js} {L:Lm} {G:Sh} {m c:Nat} {old:Nat->Int->Nat->Prop}
theorem Kp.nx (h:Kp Z L G old m c):1<=G.nx/\G.nx<=9:=by
 cases h<;>omega
theorem Kp.pos (h:Kp Z L G old m c):1<=m:=by
 cases h with
 | p1 _ _ _ _ h _=>omega
 | p2 _ _ _ _ h _=>omega
 | p3 _ _ _ _ _ h _=>omega
 | p4 _ _ _ _ _ _ h _=>omega
 | p5 p q _ _ _ _ _ _ _ _ _ _ _ _ h _=>omega
 | p6 c0 a _ _ _ _ _ _ _ _ _ h _=>omega
 | p7 _ _ _ _ _ _ h _=>omega
 | p8 _ _ _ _ h=>omega
 | p9 _ _ _ hk _ _ _ h=>
   have h1:=hk.at_
   have h2:=hk.bm
   have h3:=hk.n1
   unfold Gw.wl at h
   split at h
   ·omega
   split at h
   ·omega
   split at h
   ·have:=h2.2 (by omega)
    omega
   ·omega
theorem gC (hZ:JD l Z L):1<=Z.n/\Z.n<=32768:=by
 have h1:=FM.eW hZ.1.pw
 have h2:=FM.eW hZ.1.jR
 omega
theorem tW (hZ:JD l Z L) {e:Nat} (he:e<2*Z.n) (hj:e<Z.n->Z.jn e=false):Cx L.ss (aC (Z.C e)) (Z.C e):=by
 have h:=hZ.1.chain e he
 unfold Js.cz at h
 rw [if_neg] at h
 ·exact h
 ·rintro ⟨h1,h2,_⟩
  rw [hj h1] at h2
  simp at h2
theorem zc (h:Kc n0 Z L G m c) {b:Nat} (hb:b<2*Z.n):aC (Z.C b)<=18446744073709551615:=by
 cases hq:Z.C b with
 | nil=>simp [aC]
 | cons a t=>exact (h.pos b hb a (by rw [hq]; simp)).2
theorem um (h:Kc n0 Z L G m c) {b:Nat} (hb:b<2*Z.n):aC (Z.C b)=0↔Z.C b=[]:=by
 cases hq:Z.C b with
 | nil=>simp [aC]
 | cons a t=>simp [aC,(h.pos b hb a (by rw [hq]; simp)).1]
theorem IX (hZ:JD l Z L) (h:Kc n0 Z L G m c) (hb:G.bucket<Z.n) (hj:Z.jn G.bucket=false) {p q:List Mq.Hp} {e:Mq.Hp} (hA:Z.C G.bucket=p++e::q) (bO:G.at_=e.1):
 ∃ k,aY L.ss G.at_ k/\(G.at_-1) % 65536=k/\(ai L.ss k).nd=dP e.2 (aC q)/\aC q∉G.at_::(aL p).reverse/\aC q<=18446744073709551615:=by
 have h1:=tW hZ (show G.bucket<2*Z.n by omega) (fun _=>hj)
 have h2:=hZ.1.nd G.bucket (by omega)
 have o7:=h.pos G.bucket (by omega)
 have th:Cx L.ss (aC (e::q)) (e::q):=by
  have:Cx L.ss (aC (Z.C G.bucket)) (p++e::q):=by rw [<-hA]; exact h1
  exact Cx.back p this
 obtain ⟨ex,ep⟩:=e
 obtain ⟨k,z,a1,a2,a3⟩:=th.tail
 have hz:=Cx.hd a3
 subst hz
 simp only at bO
 rw [bO]
 refine ⟨k,a1,(mI hZ.1.len a1).1,a2,?_,?_⟩
 ·rw [hA] at h2
  have bB:(aL p++ex::aL q).Nodup:=by simpa [aL] using h2
  intro hm
  cases q with
  | nil=>
    rcases List.mem_cons.1 hm with e | hm
    ·exact a1.pos e.symm
    ·have hm:=List.mem_reverse.1 hm
     obtain ⟨y,hy,e⟩:=List.mem_map.1 hm
     exact (o7 y (by rw [hA]; simp [hy])).1 e
  | cons e' q'=>
    have h5:=List.nodup_append.1 bB
    have h6:=List.nodup_cons.1 h5.2.1
    rcases List.mem_cons.1 hm with e | hm
    ·exact h6.1 (by rw [<-e]; simp [aL,aC])
    ·have hm:=List.mem_reverse.1 hm
     exact h5.2.2 _ hm _ (by simp [aL,aC]) rfl
 ·cases q with
  | nil=>simp [aC]
  | cons e' q'=>exact (o7 e' (by rw [hA]; simp)).2
theorem J.ok (h:J n0 Z old L G m c) (hZ:JD l Z L):pz L G:=by
 obtain ⟨hc,hp⟩:=h
 have hn:=gC hZ
 have fF:=hp.nx
 have eo:=hZ.1.kB
 have o6:=hZ.1.bb
 have bz:=hZ.1.xl
 have hk:=hc.k
 have lh:=hc.xb
 have hlen:=hc.xl
 have bK:=hc.nw
 have gb:=hc.b5
 have sJ:1<L.xs.length:=by rw [hlen]; split<;>omega
 have hw:G.nw.1<=65536/\G.nw.2<=4000000:=by
  rw [bK]
  split
  ·simp
  ·simp only; omega
 have mX:∀ (c3:G.nx=3->G.bucket<Z.n) (c4:G.nx=4->G.bucket<Z.n) (c5:G.nx=5->aY L.ss G.at_ ((G.at_-1) % 65536)/\G.at_<=18446744073709551615/\(0<=(ai L.ss ((G.at_-1) % 65536)).nd.next/\(ai L.ss ((G.at_-1) % 65536)).nd.next<=18446744073709551615)/\G.met.length<=100000)
  (c6:G.nx=6->G.la<=18446744073709551615/\∃ k,aY L.ss G.la k) (c7:G.nx=7->G.bucket<Z.n) (c9:G.nx=9->Qs.eB L.k.toNat L.xs L.hs G.W),pz L G:=fun c3 c4 c5 c6 c7 c9=>by
  refine ⟨fF,sJ,hc.hl,by have:=hc.ds.1; omega,fun q=>by rw [hc.el q]; simp only; omega,hw,by have:=hc.bk; omega,hc.hb,fun q=>?_,fun q=>?_,c5,c6,fun q=>?_,fun q=>?_,fun q=>⟨by omega,c9 q⟩⟩
  ·have:=c3 q
   rw [hc.el (by omega),hlen,if_neg (by omega)]
   simp only
   omega
  ·have:=c4 q
   rw [hc.el (by omega),hlen,if_neg (by omega),bK,if_neg (by omega)]
   simp only
   omega
  ·have:=c7 q
   rw [hlen,if_neg (by omega),bK,if_neg (by omega)]
   simp only
   omega
  ·obtain ⟨t,e,ht,_⟩:=hc.num (by omega)
   rw [e]
   omega
 cases hp with
 | p1 a _ _ _ _ _=>exact mX (by omega) (by omega) (by omega) (by omega) (by omega) (by omega)
 | p2 a _ _ _ _ _=>exact mX (by omega) (by omega) (by omega) (by omega) (by omega) (by omega)
 | p3 a _ b _ _ _ _=>exact mX (fun _=>b) (by omega) (by omega) (by omega) (by omega) (by omega)
 | p4 a _ b _ _ _ _ _=>exact mX (by omega) (fun _=>b) (by omega) (by omega) (by omega) (by omega)
 | p5 p q a _ b jd _ _ _ _ hA hq bO WT _ _=>
   refine mX (by omega) (by omega) (fun _=>?_) (by omega) (by omega) (by omega)
   cases q with
   | nil=>exact absurd rfl hq
   | cons e q'=>
     have rk:G.at_=e.1:=bO
     obtain ⟨k,a1,a2,a3,a4,a5⟩:=IX hZ hc b (by rw [jd _ b]; simp) hA rk
     have jx:=hZ.1.few.1 _ b
     have XH:=hZ.2
     unfold Js.two at jx
     rw [hA] at jx
     simp only [List.length_append,List.length_cons] at jx
     have rl:(ai L.ss k).nd.next=((aC q':Nat):Int):=by rw [a3]; rfl
     refine ⟨by rw [a2]; exact a1,by rw [rk]; exact (hc.pos G.bucket (by omega) e (by rw [hA]; simp)).2,by rw [a2,rl]; omega,?_⟩
     rw [WT]
     simp only [List.length_reverse,aL,List.length_map]
     omega
 | p6 c0 a e _ b jd _ _ _ hA sW _ _=>
   refine mX (by omega) (by omega) (by omega) (fun _=>?_) (by omega) (by omega)
   have h1:=tW hZ (show G.bucket<2*Z.n by omega) (fun _=>by rw [jd _ b]; simp)
   obtain ⟨k,_,hk,_⟩:=h1.at a (by rw [hA]; simp)
   rw [sW]
   exact ⟨(hc.pos G.bucket (by omega) a (by rw [hA]; simp)).2,k,hk⟩
 | p7 a _ b _ _ _ _ _=>exact mX (by omega) (by omega) (by omega) (by omega) (fun _=>b) (by omega)
 | p8 a _ _ _ _=>exact mX (by omega) (by omega) (by omega) (by omega) (by omega) (by omega)
 | p9 a _ _ eM _ _ _ _=>exact mX (by omega) (by omega) (by omega) (by omega) (by omega) (fun _=>eM)
theorem Ud (h:eL L G=false):G.nx=9/\fQ L.xs L.hs G.W=false:=by
 unfold eL at h
 split at h
 ·rename_i e; exact ⟨e,h⟩
 ·simp at h
theorem J.wait (h:J n0 Z old L G m c) (hr:eL L G=false):∃ i:Nat,(i:Int)<L.k/\Cl.nth L.xs (2+i)≠0:=by
 obtain ⟨hc,hp⟩:=h
 obtain ⟨h9,hr⟩:=Ud hr
 have hk:=hc.k
 cases hp with
 | p9 a b d e f g i j=>
   unfold fQ at hr
   split at hr
   ·rename_i h0
    unfold pH at hr
    have:=of_decide_eq_false hr
    exact absurd ⟨f,i h0⟩ this
   split at hr
   ·rename_i h2
    unfold oK at hr
    have hd:=of_decide_eq_false hr
    have DZ:=e.bm.2 (by omega)
    exact ⟨G.W.bm,by omega,fun q=>hd (.inl q)⟩
   ·simp at hr
 | p1 a _ _ _ _ _=>omega
 | p2 a _ _ _ _ _=>omega
 | p3 a _ _ _ _ _ _=>omega
 | p4 a _ _ _ _ _ _ _=>omega
 | p5 p q a _ _ _ _ _ _ _ _ _ _ _ _ _=>omega
 | p6 c0 a e _ _ _ _ _ _ _ _ _ _=>omega
 | p7 a _ _ _ _ _ _ _=>omega
 | p8 a _ _ _ _=>omega
theorem J.fits (h:Kc n0 Z L G m c) (hZ:JD l Z L) (h2:G.nx=2):G.el.1 / 2=Z.n/\FM.bo ((G.el.1 / 2:Nat):Int)=true/\L.xs.length+G.el.1 / 2<=1048576:=by
 have hb:=h.xb
 have hl:=h.xl
 rw [if_pos (by omega)] at hl
 have e:G.el.1 / 2=Z.n:=by rw [h.el (by omega)]; simp only; omega
 rw [e]
 exact ⟨rfl,hZ.1.pw,by omega⟩
theorem IY (h9:G.nx=9):aG L G=({L with xs:=(aI L.k.toNat L.xs L.hs G.W).1,hs:=(aI L.k.toNat L.xs L.hs G.W).2.1},{G with W:=(aI L.k.toNat L.xs L.hs G.W).2.2}):=by
 unfold aG; rw [if_neg (by omega),if_neg (by omega),if_neg (by omega),if_neg (by omega),if_neg (by omega),if_neg (by omega),if_neg (by omega),if_neg (by omega)]
theorem J.cM (h:J n0 Z old L G m c) (hZ:JD l Z L) (hd:bY L G=true):JD l Z (aG L G).1/\oG n0 Z (aG L G).1 (aG L G).2/\(∀ w p e,¬old w p e)/\(aG L G).1={L with hs:=L.hs.set 0 (-1)}/\Cl.nth L.xs 0+m<=4611686018427387904:=by
 obtain ⟨hc,hp⟩:=h
 have fF:=hp.nx
 unfold bY at hd
 split at hd
 ·rename_i h2
  have:=(J.fits hc hZ h2).2
  rw [decide_eq_true this] at hd
  simp at hd
 split at hd
 ·rename_i h9
  have h3:=of_decide_eq_true hd
  rw [IY h9]
  have hw:aI L.k.toNat L.xs L.hs G.W=(L.xs,L.hs.set 0 (-1),{G.W with at_:=4}):=by
   unfold aI; rw [if_neg (by omega),if_neg (by omega),if_neg (by omega)]
  rw [hw]
  cases hp with
  | p9 a b d e f g i j=>
    have bz:=hc.xl
    rw [if_neg (by omega)] at bz
    exact ⟨⟨hZ.1.cells (fun _ _ _=>rfl) (fun _ _ _=>rfl) (Nat.le_refl _) hZ.1.xb rfl hZ.1.tb hZ.1.p1,hZ.2⟩,⟨hc.nn,b,hc.err,Gw.B5 hc.hl _,by simpa using hc.hl,bz,hc.xb,hc.tabs,hc.pos⟩,fun w p e q=>Ce (W:=G.W) (by omega) w p e ((d w p e).1 q),rfl,hc.pd⟩
  | p1 a _ _ _ _ _=>omega
  | p2 a _ _ _ _ _=>omega
  | p3 a _ _ _ _ _ _=>omega
  | p4 a _ _ _ _ _ _ _=>omega
  | p5 p q a _ _ _ _ _ _ _ _ _ _ _ _ _=>omega
  | p6 c0 a e _ _ _ _ _ _ _ _ _ _=>omega
  | p7 a _ _ _ _ _ _ _=>omega
  | p8 a _ _ _ _=>omega
 ·have:=of_decide_eq_true hd
  omega
end
end Go.Proofs.YtpanebgakndddaaGreat.Sw
namespace Go.Proofs.YtpanebgakndddaaGreat.Sw
open Go Hm Ar Mm Wk Pc Me Mq Pu Pn Gt Qs Zp Mx
section
variable {n0:Nat} {l:List Pr} {Z Z':Js} {L L':Lm} {G G':Sh} {m m' c c':Nat} {old old':Nat->Int->Nat->Prop}
theorem bN.of {j:Nat} (e:aG L G=(L',G')) (hm:m'+1<=m) (EA:c'+j<=c) (hJ:J n0 Z' old' L' G' m' c') (hZ:JD l Z' L') (hB:oN l Z L old Z' L' old' j) (h3:∀ i:Nat,(i:Int)<L.k->Cl.nth L'.xs (2+i)=Cl.nth L.xs (2+i)) (hk:L'.k=L.k) (hf:Z'.few=Z.few) (hC:Z'.C=Z.C:=by rfl) (AF:Z'.cap+c'<=Z.cap+c:=by exact Nat.le_refl _) (au:Z'.B2=Z.B2:=by rfl):bN n0 l Z old L G m c:=by
 refine ⟨Z',old',m',c',j,hm,EA,?_⟩
 rw [e]
 exact ⟨hJ,hZ,hB,h3,hk,hf,hC,AF,au⟩
theorem oN.refl (l:List Pr) (Z:Js) (L:Lm) (old:Nat->Int->Nat->Prop):oN l Z L old Z L old 0:=fun _ k _ h=>⟨k,Nat.le_refl _,h⟩
theorem Kc.to (h:Kc n0 Z L G m c) (hz:Z'.n=Z.n/\Z'.B=Z.B/\Z'.B2=Z.B2/\Z'.C=Z.C) (h1:G'.worker=G.worker/\G'.err=G.err/\G'.el=G.el/\G'.nw=G.nw/\G'.num=G.num) (hb:G'.bucket<=Z.n) (h3:3<=G.nx/\G.nx<=8) (pU:3<=G'.nx)
 (hh:G'.fi<=18446744073709551615/\G'.sec<=18446744073709551615) (hL:L'.k=L.k/\L'.hs=L.hs/\L'.ds=L.ds/\L'.xs.length=L.xs.length/\Cl.nth L'.xs 0=Cl.nth L.xs 0) (hm:m'<=m) (fD:Z'.cap+c'<=1000000):Kc n0 Z' L' G' m' c':=by
 obtain ⟨z1,z2,z3,z4⟩:=hz
 obtain ⟨e1,e2,e3,e4,e5⟩:=h1
 obtain ⟨l1,l2,l3,l4,l5⟩:=hL
 have kO:=h.pd
 have bz:=h.xl
 have bK:=h.nw
 rw [if_neg (by omega)] at bz bK
 exact ⟨by rw [z1]; exact h.nn,by rw [e1]; exact h.wk,by rw [e2]; exact h.err,fun _=>by rw [e3,z1,z2]; exact h.el (by omega),by rw [l1]; exact h.k,by rw [l5]; omega,by rw [l2]; exact h.hl,fun _=>by rw [l2]; exact h.aE (by omega),by rw [z1,z3]; exact h.xb,by rw [if_neg (by omega),l4,z1,z3]; exact bz,⟨by rw [l3]; exact h.ds.1,fun q=>by omega⟩,
  by rw [if_neg (by omega),e4,z1,z3]; exact bK,fun _=>by rw [e5,l3,z1,z3]; exact h.num (by omega),by rw [z1]; exact hb,by rw [z3]; exact h.b5,hh,by rw [z1,z4]; exact h.pos,by rw [l3]; exact Gw.yF h.tabs l4,fD⟩
theorem IZ {b:Nat} (hp:Z.bq=false) (hj:nK Z (b+1)) (hc:pM Z L (b+1)) (hb:b<Z.n) (e1:G.bucket=b+1) (e2:G.nx=if b+1=Z.n then 8 else 3) (hm:(Z.n-b-1)*(Z.few+4)+12<=m) (iT:(Z.n-b-1)*Z.few<=c):Kp Z L G old m c:=by
 by_cases hq:b+1=Z.n
 ·rw [if_pos hq] at e2
  exact .p8 e2 hp (by rw [<-hq]; exact hj) (by rw [<-hq]; exact hc) (by omega)
 ·rw [if_neg hq] at e2
  exact .p3 e2 hp (by omega) (by rw [e1]; exact hj) (by rw [e1]; exact hc) (by rw [e1,show Z.n-(b+1)=Z.n-b-1 by omega]; exact hm) (by rw [e1,show Z.n-(b+1)=Z.n-b-1 by omega]; exact iT)
theorem J.B6 (h:J n0 Z old L G m c) (hZ:JD l Z L) (h1:G.nx=1):bN n0 l Z old L G m c:=by
 obtain ⟨hc,hp⟩:=h
 cases hp with
 | p1 a b d e f g=>
   have bU:=hZ.1.now
   rw [b,if_neg (by simp)] at bU
   have es:aG L G=(L,{G with el:=now L.xs L.ds,nx:=2}):=by unfold aG; rw [if_pos h1]
   rw [bU] at es
   have bz:=hc.xl
   have bK:=hc.nw
   rw [if_pos (by omega)] at bz bK
   refine bN.of (m':=m-1) (c':=c) (j:=0) es (by omega) (by omega) ⟨⟨hc.nn,hc.wk,hc.err,fun _=>rfl,hc.k,?_,hc.hl,fun _=>hc.aE (by omega),hc.xb,by rw [if_pos (by simp)]; exact bz,⟨hc.ds.1,fun _=>hc.ds.2 (by omega)⟩,by rw [if_pos (by simp)]; exact bK,fun q=>by simp only at q; omega,hc.bk,hc.b5,hc.hb,hc.pos,hc.tabs,hc.cap⟩,.p2 rfl b d e (by omega) g⟩ hZ (oN.refl _ _ _ _) (fun _ _=>rfl) rfl rfl
   have:=hc.pd
   omega
 | p2 a _ _ _ _ _=>omega
 | p3 a _ _ _ _ _ _=>omega
 | p4 a _ _ _ _ _ _ _=>omega
 | p5 p q a _ _ _ _ _ _ _ _ _ _ _ _ _=>omega
 | p6 c0 a e _ _ _ _ _ _ _ _ _ _=>omega
 | p7 a _ _ _ _ _ _ _=>omega
 | p8 a _ _ _ _=>omega
 | p9 a _ _ _ _ _ _ _=>omega
theorem J.go2 (h:J n0 Z old L G m c) (hZ:JD l Z L) (h2:G.nx=2):bN n0 l Z old L G m c:=by
 obtain ⟨hc,hp⟩:=h
 obtain ⟨gY,cp,gi⟩:=J.fits hc hZ h2
 have hn:=gC hZ
 cases hp with
 | p2 a b d e f g=>
   have hlen:=hc.xl
   rw [if_pos (by omega)] at hlen
   have eo:=hZ.1.kB
   have bz:=hZ.1.xl
   rw [gY] at cp gi
   have es:aG L G=({L with xs:=L.xs++List.replicate Z.n 0,ds:=L.ds++[(Z.n,Z.B2)]},{G with num:=L.ds.length,err:=0,nw:=(Z.n,Z.B2),nx:=3}):=by
    unfold aG
    rw [if_neg (by omega),if_pos h2,gY,if_pos ⟨cp,gi⟩,hlen]
   have tx:JD l Z {L with xs:=L.xs++List.replicate Z.n 0,ds:=L.ds++[(Z.n,Z.B2)]}:=by
    refine ⟨hZ.1.cells (fun i _ _=>Gw.kC i) (fun q=>by rw [b] at q; simp at q) (by simp) (fun x hx=>?_) ?_ (fun i=>?_) (by rw [Gw.kC]; exact hZ.1.p1),hZ.2⟩
    ·rcases List.mem_append.1 hx with q | q
     ·exact hZ.1.xb x q
     ·have:=(List.mem_replicate.1 q).2
      omega
    ·have bU:=hZ.1.now
     rw [b,if_neg (by simp)] at bU
     unfold Me.now at bU ⊢
     rw [Gw.kC,Gw.qJ,if_neg]
     intro q
     rw [q,rT (Nat.le_refl _)] at bU
     injection bU with q1 _
     omega
    ·rw [Gw.qJ]
     split
     ·have:=hc.xb; simp only; omega
     ·exact hZ.1.tb i
   refine bN.of (m':=m-1) (c':=c) (j:=0) es (by omega) (by omega) ⟨⟨hc.nn,hc.wk,rfl,fun _=>hc.el (by omega),hc.k,by show Cl.nth (L.xs++_) 0+_<=_; rw [Gw.kC]; have:=hc.pd; omega,hc.hl,fun _=>hc.aE (by omega),hc.xb,by rw [if_neg (by simp)]; simp [hlen],?_,by rw [if_neg (by simp)],fun _=>⟨L.ds.length,rfl,by have:=hc.ds.1; omega,by show aN (L.ds++_) _=_; rw [Gw.qJ,if_pos rfl]⟩,hc.bk,hc.b5,hc.hb,hc.pos,?_,hc.cap⟩,?_⟩ tx (fun R k hw hR=>⟨k,Nat.le_refl _,hR.jt (Gw.kC _) (by show _<=Cl.nth (L.xs++_) 0; rw [Gw.kC]; exact Int.le_refl _) rfl⟩) (fun i _=>Gw.kC _) rfl rfl
   ·have:=hc.ds.2 (by omega)
    exact ⟨by simp only [List.length_append,List.length_singleton]; omega,fun q=>by simp only at q; omega⟩
   ·intro i hi
    show 1<=(aN (L.ds++_) i).1/\(aN (L.ds++_) i).1<=65536/\(aN (L.ds++_) i).2+(aN (L.ds++_) i).1<=(L.xs++List.replicate Z.n 0).length
    rw [Gw.qJ]
    split
    ·simp only [List.length_append,List.length_replicate]
     omega
    ·have xq:i<(L.ds++[(Z.n,Z.B2)]).length:=hi
     simp only [List.length_append,List.length_singleton] at xq
     have:=hc.tabs i (by omega)
     simp only [List.length_append,List.length_replicate]
     omega
   ·have bV:({G with num:=L.ds.length,err:=0,nw:=(Z.n,Z.B2),nx:=3}:Sh).bucket=0:=d
    refine .p3 rfl b (by rw [bV]; omega) (by rw [bV]; exact e) (fun k hk=>?_) ?_ ?_
    ·show Cl.nth (L.xs++_) _=_
     rw [Gw.kC,Gw.GW (by omega),bV,if_neg (by omega)]
    ·rw [bV,Nat.sub_zero]; omega
    ·rw [bV,Nat.sub_zero]; exact g
 | p1 a _ _ _ _ _=>omega
 | p3 a _ _ _ _ _ _=>omega
 | p4 a _ _ _ _ _ _ _=>omega
 | p5 p q a _ _ _ _ _ _ _ _ _ _ _ _ _=>omega
 | p6 c0 a e _ _ _ _ _ _ _ _ _ _=>omega
 | p7 a _ _ _ _ _ _ _=>omega
 | p8 a _ _ _ _=>omega
 | p9 a _ _ _ _ _ _ _=>omega
theorem Ue {n b k:Nat} (h:b<n):(n-b)*k=k+(n-b-1)*k:=by
 obtain ⟨t,ht⟩:∃ t,n-b=t+1:=⟨n-b-1,by omega⟩
 rw [ht,Nat.add_sub_cancel,Nat.add_mul,Nat.one_mul,Nat.add_comm]
theorem J.B7 (h:J n0 Z old L G m c) (hZ:JD l Z L) (h3:G.nx=3):bN n0 l Z old L G m c:=by
 obtain ⟨hc,hp⟩:=h
 have hn:=gC hZ
 cases hp with
 | p3 a b d e f g i=>
   have eV:=hc.el (by omega)
   have kN:(Cl.nth L.xs (Z.B+G.bucket)).toNat=aC (Z.C G.bucket):=by rw [hZ.1.elder _ (by omega),Int.toNat_natCast]
   have es:aG L G=(L,{G with fi:=aC (Z.C G.bucket),nx:=4}):=by
    unfold aG
    rw [if_neg (by omega),if_neg (by omega),if_pos h3,eV,kN]
   rw [Ue d] at g i
   exact bN.of (m':=m-1) (c':=c) (j:=0) es (by omega) (by omega) ⟨hc.to ⟨rfl,rfl,rfl,rfl⟩ ⟨rfl,rfl,rfl,rfl,rfl⟩ hc.bk (by omega) (by simp) ⟨zc hc (by omega),hc.hb.2⟩ ⟨rfl,rfl,rfl,rfl,rfl⟩ (by omega) hc.cap,.p4 rfl b d e f rfl (by simp only; omega) (by simp only; omega)⟩ hZ (oN.refl _ _ _ _) (fun _ _=>rfl) rfl rfl
 | p1 a _ _ _ _ _=>omega
 | p2 a _ _ _ _ _=>omega
 | p4 a _ _ _ _ _ _ _=>omega
 | p5 p q a _ _ _ _ _ _ _ _ _ _ _ _ _=>omega
 | p6 c0 a e _ _ _ _ _ _ _ _ _ _=>omega
 | p7 a _ _ _ _ _ _ _=>omega
 | p8 a _ _ _ _=>omega
 | p9 a _ _ _ _ _ _ _=>omega
theorem I0 (hJ:Z.Ok L l) (hp:Z.bq=false) {e:Nat} (hc:Z.C e=[]\/Z.C (e+Z.n)=[]):Js.Ok {Z with jn:=cJ Z.jn e true} L l/\∀ b,Js.cz {Z with jn:=cJ Z.jn e true} b=if b=e then (if b<Z.n then Z.C b else Z.cz b) else Z.cz b:=by
 have hw:∀ b,Js.cz {Z with jn:=cJ Z.jn e true} b=if b=e then (if b<Z.n then Z.C b else Z.cz b) else Z.cz b:=fun b=>by
  by_cases h:b=e
  ·subst h
   rw [if_pos rfl]
   unfold Js.cz Js.two
   simp only [mU]
   by_cases hb:b<Z.n
   ·rw [if_pos hb]
    rcases hc with q | q
    ·rw [q,if_neg (by simp)]
    ·rw [q,List.append_nil]
     split<;>rfl
   ·rw [if_neg hb,if_neg (by omega),if_neg (by omega)]
  ·rw [if_neg h]
   unfold Js.cz Js.two
   simp only [kX _ _ h]
 refine ⟨{hJ with chain:=fun b hb=>?ch,all:=fun q=>?al},hw⟩
 case ch=>
  rw [hw]
  have hb:b<2*Z.n:=hb
  have dC:=hJ.chain b hb
  split
  ·rename_i q
   subst q
   split
   ·rename_i tg
    have:Z.cz b=Z.C b:=by
     unfold Js.cz Js.two
     rcases hc with q | q
     ·rw [q]; simp
     ·rw [q,List.append_nil]
      split<;>rfl
    rw [this] at dC
    exact dC
   ·exact dC
  ·exact dC
 case al=>
  have q:Z.bq=true:=q
  rw [hp] at q; simp at q
theorem Uf (hJ:Z.Ok L l) (hp:Z.bq=false) {e:Nat} (hc:Z.C e=[]\/Z.C (e+Z.n)=[]) (b:Nat):Js.cz {Z with jn:=cJ Z.jn e true} b=Z.cz b:=by
 rw [(I0 hJ hp hc).2]
 split
 ·rename_i q
  subst q
  split
  ·rename_i tg
   unfold Js.cz Js.two
   rcases hc with q | q
   ·rw [q]; simp
   ·rw [q,List.append_nil]
    split<;>rfl
  ·rfl
 ·rfl
theorem Ug (hJ:Z.Ok L l) (hp:Z.bq=false) {e:Nat} (hc:Z.C e=[]\/Z.C (e+Z.n)=[]) {R:Rn} {k:Nat} (h:bW Z.wy L l old R k):bW (Js.wy {Z with jn:=cJ Z.jn e true}) L l old R k:=
 h.to rfl (Int.le_refl _) rfl rfl (Nat.le_refl _) (fun _ _ _ q=>q) (fun key q _ hq=>by
  rcases hq with hq | ⟨hq,_⟩
  ·refine .inl ?_
   show q<:+Js.cz {Z with jn:=cJ Z.jn e true} (aj key (2*Z.n))
   rw [Uf hJ hp hc]
   exact hq
  ·rw [hp] at hq; simp at hq)
theorem zd {Z:Js} {b:Nat} (h:nK Z b):∀ e,e<Z.n->cJ Z.jn b true e=decide (e<b+1):=fun e he=>by
 by_cases q:e=b
 ·subst q; rw [mU]; simp
 ·rw [kX _ _ q,h e he]
  by_cases q2:e<b
  ·simp [q2]; omega
  ·simp [q2]; omega
theorem J.Uh (hc:Kc n0 Z L G m c) (hZ:JD l Z L) (hp:Z.bq=false) (h4:G.nx=4) (hb:G.bucket<Z.n) (hj:nK Z G.bucket) (ti:pM Z L G.bucket) (kN:G.fi=aC (Z.C G.bucket)) (hm:(Z.few+3)+(Z.n-G.bucket-1)*(Z.few+4)+12<=m) (iT:Z.few+(Z.n-G.bucket-1)*Z.few<=c)
 (he:Z.C G.bucket=[]\/Z.C (G.bucket+Z.n)=[]) (es:aG L G=(L,bD {G with sec:=aC (Z.C (G.bucket+Z.n))})):bN n0 l Z old L G m c:=by
 have hn:=gC hZ
 have hs:=I0 hZ.1 hp he
 have kb:=zc hc (show G.bucket+Z.n<2*Z.n by omega)
 have KY:=zc hc (show G.bucket<2*Z.n by omega)
 have fD:=hc.cap
 have bK:=hc.nw
 rw [if_neg (by omega)] at bK
 have EM:aC (Z.two G.bucket)=if aC (Z.C G.bucket)=0 then aC (Z.C (G.bucket+Z.n)) else aC (Z.C G.bucket):=by
  unfold Js.two
  rw [Gw.BJ]
  by_cases q:Z.C G.bucket=[]
  ·rw [if_pos q,if_pos ((um hc (by omega)).2 q)]
  ·rw [if_neg q,if_neg (fun a=>q ((um hc (by omega)).1 a))]
 have hB:oN l Z L old {Z with jn:=cJ Z.jn G.bucket true} L old 0:=fun R k hw hR=>⟨k,Nat.le_refl _,Ug hZ.1 hp he hR⟩
 have KZ:pM {Z with jn:=cJ Z.jn G.bucket true} L G.bucket:=ti
 by_cases h0:aC (Z.C G.bucket)=0
 ·by_cases h1:aC (Z.C (G.bucket+Z.n))=0
  ·have e1:bD {G with sec:=aC (Z.C (G.bucket+Z.n))}=fR {G with sec:=0,fi:=0}:=by
    unfold bD fR
    simp only [kN,h0,h1,if_true]
   rw [e1] at es
   refine bN.of (m':=m-1) (c':=c) (j:=0) es (by omega) (by omega) ⟨hc.to (Z':={Z with jn:=cJ Z.jn G.bucket true}) ⟨rfl,rfl,rfl,rfl⟩ ⟨rfl,rfl,rfl,rfl,rfl⟩ (by unfold fR; simp only; omega) (by omega) (by unfold fR; simp only; split<;>omega) (by unfold fR; simp) ⟨rfl,rfl,rfl,rfl,rfl⟩ (by omega) fD,?_⟩ ⟨hs.1,hZ.2⟩ hB (fun _ _=>rfl) rfl rfl
   refine IZ (Z:={Z with jn:=cJ Z.jn G.bucket true}) (b:=G.bucket) hp (zd hj) (fun x hx=>?_) hb rfl (by unfold fR; simp only [bK]) (by simp only; omega) (by simp only; omega)
   rw [ti x hx]
   by_cases q:x=G.bucket
   ·subst q
    rw [if_neg (by omega),if_pos (by omega)]
    show 0=((aC (Z.two G.bucket):Nat):Int)
    rw [EM,if_pos h0,h1]
    rfl
   ·by_cases q2:x<G.bucket
    ·rw [if_pos q2,if_pos (by omega)]; rfl
    ·rw [if_neg q2,if_neg (by omega)]
  ·have e1:bD {G with sec:=aC (Z.C (G.bucket+Z.n))}={G with sec:=aC (Z.C (G.bucket+Z.n)),fi:=aC (Z.C (G.bucket+Z.n)),nx:=7}:=by
    unfold bD
    simp only [kN,h0,if_true]
    rw [if_neg h1]
   rw [e1] at es
   refine bN.of (m':=m-1) (c':=c) (j:=0) es (by omega) (by omega) ⟨hc.to (Z':={Z with jn:=cJ Z.jn G.bucket true}) ⟨rfl,rfl,rfl,rfl⟩ ⟨rfl,rfl,rfl,rfl,rfl⟩ hc.bk (by omega) (by simp) ⟨kb,kb⟩ ⟨rfl,rfl,rfl,rfl,rfl⟩ (by omega) fD,.p7 rfl hp hb (zd hj) KZ ?_ (by simp only; omega) (by simp only; omega)⟩ ⟨hs.1,hZ.2⟩ hB (fun _ _=>rfl) rfl rfl
   show _=aC (Z.two G.bucket)
   rw [EM,if_pos h0]
 ·have e1:bD {G with sec:=aC (Z.C (G.bucket+Z.n))}={G with sec:=aC (Z.C (G.bucket+Z.n)),nx:=7}:=by
   unfold bD
   simp only [kN]
   rw [if_neg h0]
  rw [e1] at es
  refine bN.of (m':=m-1) (c':=c) (j:=0) es (by omega) (by omega) ⟨hc.to (Z':={Z with jn:=cJ Z.jn G.bucket true}) ⟨rfl,rfl,rfl,rfl⟩ ⟨rfl,rfl,rfl,rfl,rfl⟩ hc.bk (by omega) (by simp) ⟨hc.hb.1,kb⟩ ⟨rfl,rfl,rfl,rfl,rfl⟩ (by omega) fD,.p7 rfl hp hb (zd hj) KZ ?_ (by simp only; omega) (by simp only; omega)⟩ ⟨hs.1,hZ.2⟩ hB (fun _ _=>rfl) rfl rfl
  show G.fi=aC (Z.two G.bucket)
  rw [EM,if_neg h0,kN]
theorem J.B8 (h:J n0 Z old L G m c) (hZ:JD l Z L) (h4:G.nx=4):bN n0 l Z old L G m c:=by
 obtain ⟨hc,hp⟩:=h
 have hn:=gC hZ
 cases hp with
 | p4 a b d e f g i j=>
   have eV:=hc.el (by omega)
   have bK:=hc.nw
   rw [if_neg (by omega)] at bK
   have WU:(Cl.nth L.xs (Z.B+(G.bucket+Z.n))).toNat=aC (Z.C (G.bucket+Z.n)):=by rw [hZ.1.elder _ (by omega),Int.toNat_natCast]
   have es:aG L G=(L,begun {G with sec:=aC (Z.C (G.bucket+Z.n))}):=by
    unfold aG
    rw [if_neg (by omega),if_neg (by omega),if_neg (by omega),if_pos h4,eV,bK,WU]
   by_cases hq:Z.C G.bucket=[]\/Z.C (G.bucket+Z.n)=[]
   ·refine J.Uh hc hZ b h4 d e f g i j hq ?_
    rw [es]
    unfold begun
    rw [if_pos]
    rcases hq with q | q
    ·refine .inl ?_
     show G.fi=0
     rw [g]
     exact (um hc (by omega)).2 q
    ·exact .inr ((um hc (by omega)).2 q)
   ·have Ez:Z.C G.bucket≠[]:=fun x=>hq (.inl x)
    have kJ:Z.C (G.bucket+Z.n)≠[]:=fun x=>hq (.inr x)
    have AG:G.fi≠0:=fun x=>Ez ((um hc (by omega)).1 (g▸x))
    have wT:aC (Z.C (G.bucket+Z.n))≠0:=fun x=>kJ ((um hc (by omega)).1 x)
    have e1:begun {G with sec:=aC (Z.C (G.bucket+Z.n))}={G with sec:=aC (Z.C (G.bucket+Z.n)),la:=0,met:=[],at_:=G.fi,nx:=5}:=by
     unfold begun dg
     simp only
     rw [if_neg (by rintro (x | x); exact AG x; exact wT x),if_neg (by rintro (x | x); exact AG x; simp at x)]
    rw [e1] at es
    have hlen:(Z.C G.bucket).length<=Z.few:=by
     have:=hZ.1.few.1 _ d
     unfold Js.two at this
     rw [List.length_append] at this
     omega
    have WV:1<=(Z.C (G.bucket+Z.n)).length:=List.length_pos_iff.2 kJ
    exact bN.of (m':=m-1) (c':=c) (j:=0) es (by omega) (by omega) ⟨hc.to ⟨rfl,rfl,rfl,rfl⟩ ⟨rfl,rfl,rfl,rfl,rfl⟩ hc.bk (by omega) (by simp) ⟨hc.hb.1,zc hc (by omega)⟩ ⟨rfl,rfl,rfl,rfl,rfl⟩ (by omega) hc.cap,.p5 [] (Z.C G.bucket) rfl b d e f g rfl kJ rfl Ez g rfl (by simp only; omega) (by simp only; omega)⟩ hZ (oN.refl _ _ _ _) (fun _ _=>rfl) rfl rfl
 | p1 a _ _ _ _ _=>omega
 | p2 a _ _ _ _ _=>omega
 | p3 a _ _ _ _ _ _=>omega
 | p5 p q a _ _ _ _ _ _ _ _ _ _ _ _ _=>omega
 | p6 c0 a e _ _ _ _ _ _ _ _ _ _=>omega
 | p7 a _ _ _ _ _ _ _=>omega
 | p8 a _ _ _ _=>omega
 | p9 a _ _ _ _ _ _ _=>omega
theorem J.B9 (h:J n0 Z old L G m c) (hZ:JD l Z L) (h5:G.nx=5):bN n0 l Z old L G m c:=by
 obtain ⟨hc,hp⟩:=h
 have hn:=gC hZ
 cases hp with
 | p5 p q a b d e f g i j k r s t u v=>
   cases q with
   | nil=>exact absurd rfl r
   | cons x q'=>
     have s':G.at_=x.1:=s
     obtain ⟨kk,a1,a2,a3,a4,a5⟩:=IX hZ hc d (by rw [e _ d]; simp) k s'
     have rl:(ai L.ss ((G.at_-1) % 65536)).nd.next.toNat=aC q':=by rw [a2,a3]; show ((aC q':Nat):Int).toNat=_; rw [Int.toNat_natCast]
     have es:aG L G=(L,dg {G with la:=G.at_,met:=G.at_::G.met} (aC q')):=by
      unfold aG
      rw [if_neg (by omega),if_neg (by omega),if_neg (by omega),if_neg (by omega),if_pos h5,rl]
     have o7:=hc.pos G.bucket (by omega)
     have D5:G.at_≠0:=by rw [s']; exact (o7 x (by rw [k]; simp)).1
     cases q' with
     | nil=>
       have xS:G.sec∉G.at_::G.met:=fun hm=>by
        have qm:G.sec∈aL (Z.C G.bucket):=by
         rw [k]
         rw [t,s'] at hm
         rcases List.mem_cons.1 hm with q | q
         ·rw [q]; simp [aL]
         ·have:=List.mem_reverse.1 q
          simp only [aL,List.map_append,List.mem_append]
          exact .inl this
        have WW:G.sec∈aL (Z.C (G.bucket+Z.n)):=by
         rw [i]
         cases hq:Z.C (G.bucket+Z.n) with
         | nil=>exact absurd hq j
         | cons y ys=>simp [aL,aC]
        exact hZ.1.dj G.bucket (G.bucket+Z.n) (by omega) (by omega) (by omega) _ qm WW
       have e1:dg {G with la:=G.at_,met:=G.at_::G.met} (aC [])={G with la:=G.at_,met:=G.at_::G.met,nx:=6}:=by
        unfold dg kZ
        rw [if_pos (.inl rfl)]
        simp only
        rw [if_neg D5,if_neg xS]
       rw [e1] at es
       exact bN.of (m':=m-1) (c':=c) (j:=0) es (by omega) (by omega) ⟨hc.to ⟨rfl,rfl,rfl,rfl⟩ ⟨rfl,rfl,rfl,rfl,rfl⟩ hc.bk (by omega) (by simp) hc.hb ⟨rfl,rfl,rfl,rfl,rfl⟩ (by omega) hc.cap,.p6 p x rfl b d e f g i k s' (by simp only; simp at u; omega) v⟩ hZ (oN.refl _ _ _ _) (fun _ _=>rfl) rfl rfl
     | cons y q2=>
       have oQ:y.1≠0:=(o7 y (by rw [k]; simp)).1
       have WX:aC (y::q2)∉G.at_::G.met:=by rw [t]; exact a4
       have e1:dg {G with la:=G.at_,met:=G.at_::G.met} (aC (y::q2))={G with la:=G.at_,met:=G.at_::G.met,at_:=aC (y::q2),nx:=5}:=by
        unfold dg
        rw [if_neg]
        rintro (q | q)
        ·exact oQ q
        ·exact WX q
       rw [e1] at es
       exact bN.of (m':=m-1) (c':=c) (j:=0) es (by omega) (by omega) ⟨hc.to ⟨rfl,rfl,rfl,rfl⟩ ⟨rfl,rfl,rfl,rfl,rfl⟩ hc.bk (by omega) (by simp) hc.hb ⟨rfl,rfl,rfl,rfl,rfl⟩ (by omega) hc.cap,.p5 (p++[x]) (y::q2) rfl b d e f g i j (by rw [k]; simp) (by simp) rfl (by show G.at_::G.met=_; rw [t,s']; simp [aL]) (by simp only [List.length_cons] at u ⊢; omega) v⟩ hZ (oN.refl _ _ _ _) (fun _ _=>rfl) rfl rfl
 | p1 a _ _ _ _ _=>omega
 | p2 a _ _ _ _ _=>omega
 | p3 a _ _ _ _ _ _=>omega
 | p4 a _ _ _ _ _ _ _=>omega
 | p6 c0 a e _ _ _ _ _ _ _ _ _ _=>omega
 | p7 a _ _ _ _ _ _ _=>omega
 | p8 a _ _ _ _=>omega
 | p9 a _ _ _ _ _ _ _=>omega
end
end Go.Proofs.YtpanebgakndddaaGreat.Sw
namespace Go.Proofs.YtpanebgakndddaaGreat.Sw
open Go Hm Ar Mm Wk Pc Me Mq Pu Pn Gt Qs Zp Mx
section
variable {n0:Nat} {l:List Pr} {Z Z':Js} {L L':Lm} {G G':Sh} {m m' c c':Nat} {old old':Nat->Int->Nat->Prop}
theorem J.Cc (h:J n0 Z old L G m c) (hZ:JD l Z L) (h6:G.nx=6):bN n0 l Z old L G m c:=by
 obtain ⟨hc,hp⟩:=h
 have hn:=gC hZ
 cases hp with
 | p6 c0 a b d e f g i j k r s t=>
   have WV:(Z.C (G.bucket+Z.n)).length<=Z.few:=by
    have:=hZ.1.few.1 _ e
    unfold Js.two at this
    rw [List.length_append] at this
    omega
   have fD:=hc.cap
   have AG:G.fi≠0:=by
    rw [i,k]
    have:=(hc.pos G.bucket (by omega))
    rw [k] at this
    cases c0 with
    | nil=>exact (this a (by simp)).1
    | cons x y=>exact (this x (by simp)).1
   have e1:bD G={G with nx:=7}:=by unfold bD; rw [if_neg AG]
   have es:aG L G=({L with ss:=aR L.ss a.1 (aC (Z.C (G.bucket+Z.n)))},{G with nx:=7}):=by
    unfold aG
    rw [if_neg (by omega),if_neg (by omega),if_neg (by omega),if_neg (by omega),if_neg (by omega),if_pos h6,e1,r,j]
   have K0:Z.jn G.bucket=false:=by rw [f _ e]; simp
   have cw:=hZ.1.linked d e K0 k (by omega)
   refine bN.of (m':=m-1) (c':=c-Z.few) (j:=(Z.C (G.bucket+Z.n)).length) (Z':=Z.linked G.bucket) (old':=old) es (by omega) (by omega) ⟨hc.to (Z':=Z.linked G.bucket) ⟨rfl,rfl,rfl,rfl⟩ ⟨rfl,rfl,rfl,rfl,rfl⟩ hc.bk (by omega) (by simp) hc.hb ⟨rfl,rfl,rfl,rfl,rfl⟩ (by omega) (by show Z.cap+_+_<=_; omega),.p7 rfl d e (zd f) g ?_ ?_ ?_⟩ ⟨cw,hZ.2⟩
    (fun R kk _ hR=>bW.Cv hZ.1 d e K0 k hR) (fun _ _=>rfl) rfl rfl rfl (by show Z.cap+_+_<=_; omega)
   ·show G.fi=aC (Z.two G.bucket)
    unfold Js.two
    rw [Gw.BJ,if_neg (by rw [k]; simp),i]
   ·show 1+(Z.n-G.bucket-1)*(Z.few+4)+12<=_
    omega
   ·show (Z.n-G.bucket-1)*Z.few<=_
    omega
 | p1 a _ _ _ _ _=>omega
 | p2 a _ _ _ _ _=>omega
 | p3 a _ _ _ _ _ _=>omega
 | p4 a _ _ _ _ _ _ _=>omega
 | p5 p q a _ _ _ _ _ _ _ _ _ _ _ _ _=>omega
 | p7 a _ _ _ _ _ _ _=>omega
 | p8 a _ _ _ _=>omega
 | p9 a _ _ _ _ _ _ _=>omega
theorem J.Cd (h:J n0 Z old L G m c) (hZ:JD l Z L) (h7:G.nx=7):bN n0 l Z old L G m c:=by
 obtain ⟨hc,hp⟩:=h
 have hn:=gC hZ
 cases hp with
 | p7 a b d e f g i j=>
   have bK:=hc.nw
   have hlen:=hc.xl
   rw [if_neg (by omega)] at bK hlen
   have bz:=hZ.1.xl
   have eo:=hZ.1.kB
   have hk:=hc.k
   have es:aG L G=({L with xs:=L.xs.set (Z.B2+G.bucket) ((aC (Z.two G.bucket):Nat):Int)},fR G):=by
    unfold aG
    rw [if_neg (by omega),if_neg (by omega),if_neg (by omega),if_neg (by omega),if_neg (by omega),if_neg (by omega),if_pos h7,bK,g]
   have gI:∀ i,i≠Z.B2+G.bucket->Cl.nth (L.xs.set (Z.B2+G.bucket) ((aC (Z.two G.bucket):Nat):Int)) i=Cl.nth L.xs i:=fun i hi=>by rw [fJ _ _ _ (by omega),if_neg hi]
   have KY:=hc.hb.1
   have tx:JD l Z {L with xs:=L.xs.set (Z.B2+G.bucket) ((aC (Z.two G.bucket):Nat):Int)}:=by
    refine ⟨hZ.1.cells (fun i q1 q2=>gI i (by omega)) (fun q=>by rw [b] at q; simp at q) (by simp) (fun x hx=>?_) ?_ hZ.1.tb (by rw [gI 0 (by omega)]; exact hZ.1.p1),hZ.2⟩
    ·rcases List.mem_or_eq_of_mem_set hx with q | rfl
     ·exact hZ.1.xb x q
     ·rw [g] at KY; omega
    ·unfold Me.now
     rw [gI 1 (by omega)]
   refine bN.of (m':=m-1) (c':=c) (j:=0) (old':=old) es (by omega) (by omega) ⟨hc.to ⟨rfl,rfl,rfl,rfl⟩ ⟨rfl,rfl,rfl,rfl,rfl⟩ (by unfold fR; simp only; omega) (by omega) (by unfold fR; simp only; split<;>omega) hc.hb ⟨rfl,rfl,rfl,by simp,gI 0 (by omega)⟩ (by omega) hc.cap,?_⟩ tx
    (fun R kk hw hR=>⟨kk,Nat.le_refl _,hR.jt (gI _ (by omega)) (by show _<=Cl.nth (L.xs.set _ _) 0; rw [gI 0 (by omega)]; exact Int.le_refl _) rfl⟩) (fun i hi=>gI _ (by omega)) rfl rfl
   refine IZ (b:=G.bucket) b e (fun x hx=>?_) d rfl (by unfold fR; simp only [bK]) (by omega) j
   show Cl.nth (L.xs.set _ _) _=_
   by_cases q:x=G.bucket
   ·subst q
    rw [fJ _ _ _ (by omega),if_pos rfl,if_pos (by omega)]
   ·rw [gI _ (by omega),f x hx]
    by_cases q2:x<G.bucket
    ·rw [if_pos q2,if_pos (by omega)]
    ·rw [if_neg q2,if_neg (by omega)]
 | p1 a _ _ _ _ _=>omega
 | p2 a _ _ _ _ _=>omega
 | p3 a _ _ _ _ _ _=>omega
 | p4 a _ _ _ _ _ _ _=>omega
 | p5 p q a _ _ _ _ _ _ _ _ _ _ _ _ _=>omega
 | p6 c0 a e _ _ _ _ _ _ _ _ _ _=>omega
 | p8 a _ _ _ _=>omega
 | p9 a _ _ _ _ _ _ _=>omega
theorem J.Cf (h:J n0 Z old L G m c) (hZ:JD l Z L) (h8:G.nx=8):bN n0 l Z old L G m c:=by
 obtain ⟨hc,hp⟩:=h
 have hn:=gC hZ
 cases hp with
 | p8 a b d e f=>
   have hlen:=hc.xl
   rw [if_neg (by omega)] at hlen
   have bz:=hZ.1.xl
   have eo:=hZ.1.kB
   have hk:=hc.k
   have iB:=hc.wk
   obtain ⟨t,D0,DA,D1⟩:=hc.num (by omega)
   have es:aG L G=({L with xs:=L.xs.set 1 (t:Int)},{G with W:=⟨G.worker,0,0,0⟩,nx:=9}):=by
    unfold aG
    rw [if_neg (by omega),if_neg (by omega),if_neg (by omega),if_neg (by omega),if_neg (by omega),if_neg (by omega),if_neg (by omega),if_pos h8,D0]
   have gI:∀ i,i≠1->Cl.nth (L.xs.set 1 (t:Int)) i=Cl.nth L.xs i:=fun i hi=>by rw [fJ _ _ _ (by omega),if_neg hi]
   have tx:JD l {Z with bq:=true} {L with xs:=L.xs.set 1 (t:Int)}:=by
    refine ⟨hZ.1.vU b (fun x hx=>by rw [d x hx]; simpa using hx) gI (by simp) (fun x hx=>?_) ?_ (by omega) (fun x hx=>by rw [e x hx,if_pos hx]),hZ.2⟩
    ·rcases List.mem_or_eq_of_mem_set hx with q | rfl
     ·exact hZ.1.xb x q
     ·omega
    ·unfold Me.now
     rw [fJ _ _ _ (by omega),if_pos rfl,Int.toNat_natCast,D1]
   refine bN.of (m':=m-1) (c':=c) (j:=0) (Z':={Z with bq:=true}) (old':=gw ⟨G.worker,0,0,0⟩) es (by omega) (by omega) ⟨hc.to (Z':={Z with bq:=true}) ⟨rfl,rfl,rfl,rfl⟩ ⟨rfl,rfl,rfl,rfl,rfl⟩ hc.bk (by omega) (by simp) hc.hb ⟨rfl,rfl,rfl,by simp,gI 0 (by omega)⟩ (by omega) hc.cap,?_⟩ tx
    (fun R kk hw hR=>⟨kk,Nat.le_refl _,(bW.Qy b (old':=gw ⟨G.worker,0,0,0⟩) (fun p=>Gw.Cb _ _ _ _) hR).jt (gI _ (by omega)) (by show _<=Cl.nth (L.xs.set _ _) 0; rw [gI 0 (by omega)]; exact Int.le_refl _) rfl⟩) (fun i hi=>gI _ (by omega)) rfl rfl
   refine .p9 rfl rfl (fun w p e=>Iff.rfl) ⟨by show L.k.toNat<=8; omega,by show 0<=3; omega,?_,hc.hl,by show L.k.toNat+2<=(L.xs.set 1 (t:Int)).length; rw [List.length_set]; omega,⟨by show 0<=1000; omega,fun _=>by show 0<L.k.toNat; omega⟩,fun q=>absurd rfl q⟩ iB.1 (fun _=>rfl) (fun _=>hc.aE (by omega)) ?_
   ·show 0<=G.worker/\G.worker<=_
    omega
   ·show Gw.wl ⟨G.worker,0,0,0⟩<=_
    have:Gw.wl ⟨G.worker,0,0,0⟩=11:=by unfold Gw.wl; rw [if_pos rfl]
    rw [this]
    omega
 | p1 a _ _ _ _ _=>omega
 | p2 a _ _ _ _ _=>omega
 | p3 a _ _ _ _ _ _=>omega
 | p4 a _ _ _ _ _ _ _=>omega
 | p5 p q a _ _ _ _ _ _ _ _ _ _ _ _ _=>omega
 | p6 c0 a e _ _ _ _ _ _ _ _ _ _=>omega
 | p7 a _ _ _ _ _ _ _=>omega
 | p9 a _ _ _ _ _ _ _=>omega
theorem J.Ui (h:J n0 Z old L G m c) (hZ:JD l Z L) (h9:G.nx=9) (hr:eL L G=true) (hd:bY L G=false):bN n0 l Z old L G m c:=by
 obtain ⟨hc,hp⟩:=h
 cases hp with
 | p9 a b d e f g i w5=>
   have hn:=gC hZ
   have bz:=hZ.1.xl
   have eo:=hZ.1.kB
   have cm:=hc.k
   have xr:=hZ.1.p1
   have hlen:=hc.xl
   rw [if_neg (by omega)] at hlen
   have hold:old=gw G.W:=funext fun w=>funext fun p=>funext fun e=>propext (d w p e)
   subst hold
   have eD:fQ L.xs L.hs G.W=true:=by unfold eL at hr; rw [if_pos h9] at hr; exact hr
   have kO:=hc.pd
   have es:=IY (L:=L) h9
   have h3:G.W.at_≠3:=fun q=>by
    unfold bY at hd
    rw [if_neg (by omega),if_pos h9,decide_eq_true q] at hd
    simp at hd
   obtain ⟨c1,c2,c3,c4,c5⟩:=Gw.yH (n:=L.k.toNat) (L:=L) (W:=G.W) (by omega) (by omega) (by omega)
   have xt:=Gw.G8 L.hs L.xs e h3
   have eM:=eB.step e eD h3
   have tx:JD l Z {L with xs:=(aI L.k.toNat L.xs L.hs G.W).1,hs:=(aI L.k.toNat L.xs L.hs G.W).2.1}:=⟨hZ.1.waits (by omega),hZ.2⟩
   refine bN.of (m':=m-1) (c':=c) (j:=0) (old':=gw (aI L.k.toNat L.xs L.hs G.W).2.2) es (by omega) (by omega) ⟨⟨hc.nn,hc.wk,hc.err,fun _=>hc.el (by omega),hc.k,by show Cl.nth (aI L.k.toNat L.xs L.hs G.W).1 0+_<=_; omega,by show 0<(aI L.k.toNat L.xs L.hs G.W).2.1.length; rw [c4]; exact hc.hl,fun q=>absurd h9 q,hc.xb,?_,⟨hc.ds.1,fun q=>by have q:G.nx<=2:=q; omega⟩,?_,fun _=>hc.num (by omega),hc.bk,hc.b5,hc.hb,hc.pos,Gw.yF hc.tabs c2,hc.cap⟩,?_⟩ tx
    (fun R kk hw hR=>⟨kk,Nat.le_refl _,hR.waits hZ.1.ways (by omega) eD g e.at_ (by omega) (by omega)⟩) (fun x hx=>c1 _ (by omega)) rfl rfl
   ·show (aI L.k.toNat L.xs L.hs G.W).1.length=if G.nx<=2 then _ else _
    rw [c2,if_neg (by omega)]
    exact hlen
   ·show G.nw=if G.nx<=2 then _ else _
    have:=hc.nw
    rw [if_neg (by omega)] at this ⊢
    exact this
   ·refine .p9 h9 b (fun w p e=>Iff.rfl) eM (by rw [show (aI L.k.toNat L.xs L.hs G.W).2.2.worker=G.W.worker from c5]; exact f) ?_ ?_ (by show Gw.wl (aI L.k.toNat L.xs L.hs G.W).2.2<=_; omega)
    ·show (aI L.k.toNat L.xs L.hs G.W).2.2.at_<=1->(aI L.k.toNat L.xs L.hs G.W).2.2.bm=0
     intro q
     unfold aI at q ⊢
     by_cases q0:G.W.at_=0
     ·rw [if_pos q0]; exact g (by omega)
     rw [if_neg q0] at q ⊢
     by_cases q1:G.W.at_=1
     ·rw [if_pos q1]; exact g (by omega)
     rw [if_neg q1] at q ⊢
     by_cases q2:G.W.at_=2
     ·rw [if_pos q2] at q
      have q:(if L.k.toNat<=G.W.bm+1 then 3 else 2)<=1:=q
      split at q<;>omega
     ·have:=e.at_
      omega
    ·show (aI L.k.toNat L.xs L.hs G.W).2.2.at_=0->_
     intro q
     exfalso
     unfold aI at q
     by_cases q0:G.W.at_=0
     ·rw [if_pos q0] at q; simp at q
     rw [if_neg q0] at q
     by_cases q1:G.W.at_=1
     ·rw [if_pos q1] at q; simp at q
     rw [if_neg q1] at q
     by_cases q2:G.W.at_=2
     ·rw [if_pos q2] at q
      have q:(if L.k.toNat<=G.W.bm+1 then 3 else 2)=0:=q
      split at q<;>omega
     ·rw [if_neg q2] at q; simp at q
 | p1 a _ _ _ _ _=>omega
 | p2 a _ _ _ _ _=>omega
 | p3 a _ _ _ _ _ _=>omega
 | p4 a _ _ _ _ _ _ _=>omega
 | p5 p q a _ _ _ _ _ _ _ _ _ _ _ _ _=>omega
 | p6 c0 a e _ _ _ _ _ _ _ _ _ _=>omega
 | p7 a _ _ _ _ _ _ _=>omega
 | p8 a _ _ _ _=>omega
theorem J.si (h:J n0 Z old L G m c) (hZ:JD l Z L) (hr:eL L G=true) (hd:bY L G=false):bN n0 l Z old L G m c:=by
 have fF:=h.2.nx
 have h8:G.nx=1\/G.nx=2\/G.nx=3\/G.nx=4\/G.nx=5\/G.nx=6\/G.nx=7\/G.nx=8\/G.nx=9:=by omega
 rcases h8 with q | q | q | q | q | q | q | q | q
 ·exact h.B6 hZ q
 ·exact h.go2 hZ q
 ·exact h.B7 hZ q
 ·exact h.B8 hZ q
 ·exact h.B9 hZ q
 ·exact h.Cc hZ q
 ·exact h.Cd hZ q
 ·exact h.Cf hZ q
 ·exact h.Ui hZ q hr hd
end
end Go.Proofs.YtpanebgakndddaaGreat.Sw
namespace Go.Proofs.YtpanebgakndddaaGreat.Gw
open Go Hm Ar Mm Wk Pc Me Mq Pu Pn Gt Qs Zp Mx
structure G9 (n0:Nat) (l:List Pr) (Z:Zs) (L:Lm) (G:Gr):Prop where
 nn:Z.n=n0
 bq:Z.bq=true
 rest:∀ e,e<Z.n->Z.rest e=[]
 al:∀ e,e<Z.n->bp (Z.aU e)=l.filter fun p=>decide (aj p.1 Z.n=e)
 err:G.err=0
 aE:Lo.aE L.hs 0= -1
 hl:0<L.hs.length
 xl:L.xs.length=Z.B2+2*Z.n
 xm:Z.B2+2*Z.n<=1048576
 tabs:l7 L.xs L.ds
 pos:∀ e,e<Z.n->∀ a∈Z.aU e,a.1≠0/\a.1<=18446744073709551615
section
variable {n0:Nat} {l:List Pr} {Z:Zs} {L:Lm} {G:Gr} {m c:Nat} {old:Nat->Int->Nat->Prop}
theorem J.last (h:J n0 l Z old L G m c) (hZ:ZD l Z L) (hd:ck L G=true):ZD l Z (aF L G).1/\G9 n0 l Z (aF L G).1 (aF L G).2/\(∀ w p e,¬old w p e)/\(aF L G).1={L with hs:=L.hs.set 0 (-1)}/\Cl.nth L.xs 0+m<=4611686018427387904:=by
 obtain ⟨hc,hp⟩:=h
 have fF:=hp.nx
 unfold ck at hd
 split at hd
 ·rename_i h2
  have:=J.fits hc hZ h2
  rw [decide_eq_true this] at hd
  simp at hd
 split at hd
 ·rename_i h7
  obtain ⟨h3,cF⟩:=of_decide_eq_true hd
  rw [G3 h7]
  have hw:aI L.k.toNat L.xs L.hs G.W=(L.xs,L.hs.set 0 (-1),{G.W with at_:=4}):=by
   unfold aI; rw [if_neg (by omega),if_neg (by omega),if_neg (by omega)]
  rw [hw]
  cases hp with
  | p7 t ids a b d e f g h i j k l=>
    rw [cF] at i
    cases i
    have:=hc.xl
    rw [if_neg (by omega)] at this
    exact ⟨⟨hZ.1.cells (fun _ _ _=>rfl) (fun _ _ _=>rfl) (Nat.le_refl _) hZ.1.xb rfl hZ.1.tb hZ.1.p1,hZ.2⟩,⟨hc.nn,b,fun e he=>k e he (by simp),hc.al,hc.err,B5 hc.hl _,by simpa using hc.hl,this,hc.xb,hc.tabs,hc.pos⟩,fun w p e q=>Ce (W:=G.W) (by omega) w p e ((d w p e).1 q),rfl,hc.pd⟩
  | p1 a _ _ _ _ _=>omega
  | p2 a _ _ _ _ _=>omega
  | p3 a _ _ _ _ _ _=>omega
  | p4 p q a _ _ _ _ _ _ _ _ _ _=>omega
  | p5 a _ _ _ _ _ _ _ _=>omega
  | p6 a _ _ _ _ _=>omega
  | p8 t ids ids' a _ _ _ _ _ _ _ _ _ _ _=>omega
 ·have:=of_decide_eq_true hd
  omega
end
/-! ### what its steps leave-/
structure im (L L':Lm):Prop where
 ss:L'.ss.length=L.ss.length
 tk:∀ k,(ai L'.ss k).taken=(ai L.ss k).taken/\(ai L'.ss k).gen=(ai L.ss k).gen
 ws:L'.ws=L.ws
 k:L'.k=L.k
 F:L'.F=L.F
 hl:L'.hs.length=L.hs.length
 hs:∀ i,i≠0->L'.hs[i]?=L.hs[i]?
theorem im.refl (L:Lm):im L L:=⟨rfl,fun _=>⟨rfl,rfl⟩,rfl,rfl,rfl,rfl,fun _ _=>rfl⟩
theorem PU (ss:List Sl) (x y k:Nat):(ai (Pu.aR ss x y) k).taken=(ai ss k).taken/\(ai (Pu.aR ss x y) k).gen=(ai ss k).gen:=by
 unfold Pu.aR
 by_cases h:(x-1) % 65536<ss.length
 ·rw [at_set h]
  split
  ·rename_i e; rw [e]; exact ⟨rfl,rfl⟩
  ·exact ⟨rfl,rfl⟩
 ·rw [List.set_eq_of_length_le (by omega)]
  exact ⟨rfl,rfl⟩
theorem im.aR (L:Lm) (x y:Nat):im L {L with ss:=Pu.aR L.ss x y}:=⟨by simp [Pu.aR],PU _ _ _,rfl,rfl,rfl,rfl,fun _ _=>rfl⟩
theorem im.cells (L:Lm) (xs:List Int) (ds:List (Nat×Nat)):im L {L with xs:=xs,ds:=ds}:=⟨rfl,fun _=>⟨rfl,rfl⟩,rfl,rfl,rfl,rfl,fun _ _=>rfl⟩
theorem im.wait (L:Lm) (n:Nat) (W:Wt):im L {L with xs:=(aI n L.xs L.hs W).1,hs:=(aI n L.xs L.hs W).2.1}:=by
 refine ⟨rfl,fun _=>⟨rfl,rfl⟩,rfl,rfl,rfl,?_,fun i hi=>?_⟩
 ·show (aI n L.xs L.hs W).2.1.length=_
  unfold aI
  split
  ·simp
  split
  ·rfl
  split
  ·rfl
  ·simp
 ·show (aI n L.xs L.hs W).2.1[i]?=_
  unfold aI
  split
  ·simp only; rw [List.getElem?_set_ne (by omega)]
  split
  ·rfl
  split
  ·rfl
  ·simp only; rw [List.getElem?_set_ne (by omega)]
theorem PV (L:Lm) (G:Gr):im L (aF L G).1:=by
 unfold aF
 split
 ·exact .refl L
 split
 ·split
  ·exact im.cells L _ _
  ·exact .refl L
 split
 ·exact .refl L
 split
 ·exact .refl L
 split
 ·exact im.cells L _ L.ds
 split
 ·exact im.cells L _ L.ds
 split
 ·exact im.wait L _ _
 ·split
  ·exact .refl L
  ·exact im.aR L _ _
theorem PW (L:Lm) (G:Gr) (d:Nat) (h:L.ds.length<=d+1/\(G.nx<=2->L.ds.length<=d)):(aF L G).1.ds.length<=d+1/\((aF L G).2.nx<=2->1<=G.nx->(aF L G).1.ds.length<=d):=by
 have Kh:∀ (G:Gr) (x:Nat),3<=(dg G x).nx:=fun G x=>by
  unfold dg vG
  split
  ·have:=tT {G with pass:=if G.C.cM=[] then G.pass else G.pass++[G.C.cM],half:=0}
   omega
  ·simp
 unfold aF
 split
 ·rename_i q
  exact ⟨h.1,fun _ _=>h.2 (by omega)⟩
 split
 ·rename_i q
  have:=h.2 (by omega)
  split
  ·exact ⟨by simp; omega,fun q _=>by simp at q⟩
  ·exact ⟨h.1,fun q _=>by simp at q⟩
 split
 ·exact ⟨h.1,fun q _=>by have:=Kh {G with C:=.new} (Cl.nth L.xs (G.el.2+G.bucket)).toNat; simp only at q; omega⟩
 split
 ·exact ⟨h.1,fun q _=>by have:=Kh {G with C:=G.C.add G.at_ (kV G (ai L.ss ((G.at_-1) % 65536)).nd.sum)} (ai L.ss ((G.at_-1) % 65536)).nd.next.toNat; simp only at q; omega⟩
 split
 ·exact ⟨h.1,fun q _=>by have:=tT {G with half:=G.half+1}; simp only at q; omega⟩
 split
 ·exact ⟨h.1,fun q _=>by simp [eh] at q⟩
 split
 ·exact ⟨h.1,fun q _=>by simp only at q; split at q; split at q<;>omega; omega⟩
 ·have zU:¬G.nx<=2\/G.nx=0:=by omega
  split
  ·exact ⟨h.1,fun q hq=>h.2 q⟩
  ·refine ⟨h.1,fun q hq=>?_⟩
   simp only at q
   split at q
   ·simp [eh] at q
   ·have q:G.nx<=2:=q
    exact h.2 q
theorem J.Cg {n0:Nat} {l:List Pr} {Z:Zs} {L:Lm} {G:Gr} {m c:Nat} {old:Nat->Int->Nat->Prop} (h:J n0 l Z old L G m c) (hZ:ZD l Z L):Cl.nth (aF L G).1.xs 0<=Cl.nth L.xs 0+1:=by
 obtain ⟨hc,hp⟩:=h
 have hm:=hp.pos
 have kO:=hc.pd
 have xr:=hZ.1.p1
 have gb:=hc.b5
 have eo:=hZ.1.kB
 have bz:=hZ.1.xl
 have hk:=hc.k
 have same:Cl.nth L.xs 0<=Cl.nth L.xs 0+1:=by omega
 have set0:∀ (i:Nat) (v:Int),i≠0->Cl.nth (L.xs.set i v) 0<=Cl.nth L.xs 0+1:=fun i v hi=>by
  by_cases hl:i<L.xs.length
  ·rw [fJ _ _ _ hl,if_neg (by omega)]; exact same
  ·rw [List.set_eq_of_length_le (by omega)]; exact same
 unfold aF
 split
 ·exact same
 split
 ·split
  ·simp only; rw [kC]; exact same
  ·exact same
 split
 ·exact same
 split
 ·exact same
 split
 ·rename_i q
  refine set0 _ _ ?_
  rw [(hc.nw (by omega)).1]
  simp only
  omega
 split
 ·exact set0 1 _ (by omega)
 split
 ·exact (yH (L:=L) (by omega) (by omega) (by omega)).2.2.1
 ·split
  ·exact same
  ·exact same
end Go.Proofs.YtpanebgakndddaaGreat.Gw
namespace Go.Proofs.YtpanebgakndddaaGreat.Sw
open Go Hm Ar Mm Wk Pc Me Mq Pu Pn Gt Qs Zp Mx
theorem I1 (G:Sh):3<=(fR G).nx:=by
 unfold fR
 simp only
 split<;>omega
theorem ze (G:Sh):3<=(bD G).nx:=by
 unfold bD
 split
 ·split
  ·exact I1 G
  ·simp
 ·simp
theorem I2 (G:Sh) (x:Nat):3<=(dg G x).nx:=by
 unfold dg kZ
 split
 ·split
  ·exact ze _
  ·split
   ·exact ze _
   ·simp
 ·simp
theorem Uj (G:Sh):3<=(begun G).nx:=by
 unfold begun
 split
 ·exact ze _
 ·exact I2 _ _
theorem S6 (L:Lm) (G:Sh):Gw.im L (aG L G).1:=by
 unfold aG
 split
 ·exact .refl L
 split
 ·split
  ·exact Gw.im.cells L _ _
  ·exact .refl L
 split
 ·exact .refl L
 split
 ·exact .refl L
 split
 ·exact .refl L
 split
 ·exact Gw.im.aR L _ _
 split
 ·exact Gw.im.cells L _ L.ds
 split
 ·exact Gw.im.cells L _ L.ds
 ·exact Gw.im.wait L _ _
theorem S8 (L:Lm) (G:Sh) (d:Nat) (h:L.ds.length<=d+1/\(G.nx<=2->L.ds.length<=d)):(aG L G).1.ds.length<=d+1/\((aG L G).2.nx<=2->1<=G.nx->(aG L G).1.ds.length<=d):=by
 unfold aG
 split
 ·exact ⟨h.1,fun _ _=>h.2 (by omega)⟩
 split
 ·have:=h.2 (by omega)
  split
  ·exact ⟨by simp; omega,fun q _=>by simp at q⟩
  ·exact ⟨h.1,fun q _=>by simp at q⟩
 split
 ·exact ⟨h.1,fun q _=>by simp at q⟩
 split
 ·exact ⟨h.1,fun q _=>by have:=Uj {G with sec:=(Cl.nth L.xs (G.el.2+(G.bucket+G.nw.1))).toNat}; simp only at q; omega⟩
 split
 ·exact ⟨h.1,fun q _=>by have:=I2 {G with la:=G.at_,met:=G.at_::G.met} (ai L.ss ((G.at_-1) % 65536)).nd.next.toNat; simp only at q; omega⟩
 split
 ·exact ⟨h.1,fun q _=>by have:=ze G; simp only at q; omega⟩
 split
 ·exact ⟨h.1,fun q _=>by have:=I1 G; simp only at q; omega⟩
 split
 ·exact ⟨h.1,fun q _=>by simp at q⟩
 ·exact ⟨h.1,fun q _=>by simp only at q; omega⟩
theorem J.Cg {n0:Nat} {l:List Pr} {Z:Js} {L:Lm} {G:Sh} {m c:Nat} {old:Nat->Int->Nat->Prop} (h:J n0 Z old L G m c) (hZ:JD l Z L):Cl.nth (aG L G).1.xs 0<=Cl.nth L.xs 0+1:=by
 obtain ⟨hc,hp⟩:=h
 have hm:=hp.pos
 have kO:=hc.pd
 have xr:=hZ.1.p1
 have gb:=hc.b5
 have eo:=hZ.1.kB
 have bz:=hZ.1.xl
 have hk:=hc.k
 have same:Cl.nth L.xs 0<=Cl.nth L.xs 0+1:=by omega
 have set0:∀ (i:Nat) (v:Int),i≠0->Cl.nth (L.xs.set i v) 0<=Cl.nth L.xs 0+1:=fun i v hi=>by
  by_cases hl:i<L.xs.length
  ·rw [fJ _ _ _ hl,if_neg (by omega)]; exact same
  ·rw [List.set_eq_of_length_le (by omega)]; exact same
 unfold aG
 split
 ·exact same
 split
 ·split
  ·simp only; rw [Gw.kC]; exact same
  ·exact same
 split
 ·exact same
 split
 ·exact same
 split
 ·exact same
 split
 ·exact same
 split
 ·rename_i q
  refine set0 _ _ ?_
  have:=hc.nw
  rw [if_neg (by omega)] at this
  rw [this]
  simp only
  omega
 split
 ·exact set0 1 _ (by omega)
 ·exact (Gw.yH (L:=L) (by omega) (by omega) (by omega)).2.2.1
end Go.Proofs.YtpanebgakndddaaGreat.Sw
namespace Go.Proofs.YtpanebgakndddaaGreat.cL
open Go Hm Ar Mm Me Wk Pc Pn Mq Zp Mx Gw
def bE (n:Nat) (cs:Nat->List Mq.Hp):List Nat:=(List.range n).flatMap fun b=>aL (cs b)
theorem kR (cs:Nat->List Mq.Hp) (b:Nat):bE (b+1) cs=bE b cs++aL (cs b):=by simp [bE,List.range_succ]
theorem UA {n y:Nat} {cs:Nat->List Mq.Hp} (h:y∈bE n cs):∃ b,b<n/\y∈aL (cs b):=by
 unfold bE at h
 obtain ⟨b,hb,hy⟩:=List.mem_flatMap.1 h
 exact ⟨b,List.mem_range.1 hb,hy⟩
theorem Xa {ss:List Sl} {f:Nat->Nat} {cs:Nat->List Mq.Hp} {n:Nat} (hc:∀ b,b<n->Cx ss (f b) (cs b)) (hn:∀ b,b<n->(aL (cs b)).Nodup) (hd:∀ b b',b<n->b'<n->b≠b'->∀ y∈aL (cs b),y∉aL (cs b')):∀ m,m<=n->Rh ss f m (bE m cs):=by
 intro m
 induction m with
 | zero=>intro _; exact .zero
 | succ m ih=>
   intro hm
   rw [kR]
   refine .succ (ih (by omega)) ((hc m (by omega)).ch _ (fun y hy q=>?_) (hn m (by omega)))
   obtain ⟨b,hb,W3⟩:=UA q
   exact hd b m (by omega) (by omega) (by omega) y W3 hy
theorem UB (l:List Pr) (f:Pr->Nat) (m:Nat):(l.filter fun p=>decide (f p<m+1)).length=(l.filter fun p=>decide (f p<m)).length+(l.filter fun p=>decide (f p=m)).length:=by
 induction l with
 | nil=>rfl
 | cons a t ih=>
   simp only [List.filter_cons]
   by_cases h1:f a<m
   ·rw [if_pos (by simp; omega),if_pos (by simpa using h1),if_neg (by simp; omega)]
    simp only [List.length_cons]
    omega
   ·by_cases h2:f a=m
    ·rw [if_pos (by simp; omega),if_neg (by simpa using h1),if_pos (by simpa using h2)]
     simp only [List.length_cons]
     omega
    ·rw [if_neg (by simp; omega),if_neg (by simpa using h1),if_neg (by simpa using h2)]
     exact ih
def own (l:List Pr) (n b:Nat):List Pr:=l.filter fun p=>decide (aj p.1 n=b)
theorem SH (l:List Pr) {n:Nat} {cs:Nat->List Mq.Hp} (h:∀ b,b<n->bp (cs b)=own l n b):∀ m,m<=n->(bE m cs).length=(l.filter fun p=>decide (aj p.1 n<m)).length:=by
 intro m
 induction m with
 | zero=>
   intro _
   have:(l.filter fun p=>decide (aj p.1 n<0))=[]:=List.filter_eq_nil_iff.2 fun p _=>by simp
   rw [this]
   rfl
 | succ m ih=>
   intro hm
   rw [kR,List.length_append,ih (by omega),UB]
   have h1:=congrArg List.length (h m (by omega))
   simp only [bp,List.length_map,own] at h1
   simp only [aL,List.length_map]
   omega
end Go.Proofs.YtpanebgakndddaaGreat.cL
