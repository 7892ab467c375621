/- Walks and plain mathematics, put together in their order: GroP, GroQ, GroR, ShrH, ShrI, ShrJ, GroT, ShrK, ThB. -/
import Derived.Test.YtpanebgakndddaaGreatPart7
set_option linter.unusedVariables false
set_option linter.unusedSimpArgs false
namespace Go.Proofs.YtpanebgakndddaaGreat.Gw
open Go Hm Ar Mm Wk Pc Me Mq Pu Pn Gt Qs Zp Mx
section
variable {n0:Nat} {l:List Pr} {Z:Zs} {L:Lm} {G:Gr} {m c:Nat} {old:Nat->Int->Nat->Prop}
theorem QM (h:lh L G=false):G.nx=7/\iI L.xs L.hs G.W=false:=by
 unfold lh at h
 split at h
 ·rename_i e; exact ⟨e,h⟩
 ·simp at h
theorem J.wait (h:J n0 l Z old L G m c) (hr:lh L G=false):∃ i:Nat,(i:Int)<L.k/\Cl.nth L.xs (2+i)≠0:=by
 obtain ⟨hc,hp⟩:=h
 have hk:=hc.k
 obtain ⟨h7,hr⟩:=QM hr
 cases hp with
 | p7 t ids a b c d e f g h i j k l=>
   unfold iI at hr
   split at hr
   ·rename_i h0
    unfold qX at hr
    have:=of_decide_eq_false hr
    exact absurd ⟨e,g h0⟩ this
   split at hr
   ·rename_i h2
    unfold pT at hr
    have hd:=of_decide_eq_false hr
    have qk:=d.bF.2 (by omega)
    exact ⟨G.W.bF,by omega,fun q=>hd (.inl q)⟩
   ·simp at hr
 | p1 a _ _ _ _ _=>omega
 | p2 a _ _ _ _ _=>omega
 | p3 a _ _ _ _ _ _=>omega
 | p4 p q a _ _ _ _ _ _ _ _ _ _=>omega
 | p5 a _ _ _ _ _ _ _ _=>omega
 | p6 a _ _ _ _ _=>omega
 | p8 t ids ids' a _ _ _ _ _ _ _ _ _ _ _=>omega
theorem J.fits (h:Jc n0 l Z L G m) (hZ:ZD l Z L) (h2:G.nx=2):FM.bl ((2*G.el.1:Nat):Int)=true/\L.xs.length+2*G.el.1<=1048576:=by
 have hb:=h.xb
 have hl:=h.xl
 rw [if_pos (by omega)] at hl
 rw [h.el (by omega)]
 exact ⟨hZ.1.jT,by simp only; omega⟩
theorem H7 (h7:G.nx=7):aE L G=({L with xs:=(aW L.k.toNat L.xs L.hs G.W).1,hs:=(aW L.k.toNat L.xs L.hs G.W).2.1},{G with W:=(aW L.k.toNat L.xs L.hs G.W).2.2,nx:=if G.W.at_=3 then (if G.pass=[] then 9 else 8) else 7}):=by
 unfold aE; rw [if_neg (by omega),if_neg (by omega),if_neg (by omega),if_neg (by omega),if_neg (by omega),if_neg (by omega),if_pos h7]
def bT (n0:Nat) (l:List Pr) (Z:Zs) (old:Nat->Int->Nat->Prop) (L:Lm) (G:Gr) (m c:Nat):Prop:=
 ∃ Z' old' m' c' j,m'+1<=m/\c'+j<=c/\J n0 l Z' old' (aE L G).1 (aE L G).2 m' c'/\ZD l Z' (aE L G).1/\
   (∀ (R:Rn) (k:Nat),(R.w:Int)<L.k->bZ Z.wy L l old R k->∃ k',k'<=k+j/\bZ Z'.wy (aE L G).1 l old' R k')/\(∀ i:Nat,(i:Int)<L.k->Cl.nth (aE L G).1.xs (2+i)=Cl.nth L.xs (2+i))/\(aE L G).1.k=L.k/\Z'.aY=Z.aY/\Z'.few=Z.few/\Z'.cap=Z.cap/\Z'.B2=Z.B2
theorem bT.of {L':Lm} {G':Gr} {Z':Zs} {old':Nat->Int->Nat->Prop} {m':Nat} (e:aE L G=(L',G')) (hm:m'+1<=m) (hJ:J n0 l Z' old' L' G' m' c) (hZ:ZD l Z' L') (hB:im l Z L old Z' L' old') (h3:∀ i:Nat,(i:Int)<L.k->Cl.nth L'.xs (2+i)=Cl.nth L.xs (2+i)) (hk:L'.k=L.k:=by rfl) (hA:Z'.aY=Z.aY/\Z'.few=Z.few/\Z'.cap=Z.cap/\Z'.B2=Z.B2:=by exact ⟨rfl,rfl,rfl,rfl⟩):bT n0 l Z old L G m c:=by
 refine ⟨Z',old',m',c,0,hm,Nat.le_refl _,?_⟩
 rw [e]
 exact ⟨hJ,hZ,hB,h3,hk,hA.1,hA.2.1,hA.2.2.1,hA.2.2.2⟩
theorem im.refl (l:List Pr) (Z:Zs) (L:Lm) (old:Nat->Int->Nat->Prop):im l Z L old Z L old:=fun _ k _ h=>⟨k,Nat.le_refl _,h⟩
theorem J.CR (h:J n0 l Z old L G m c) (hZ:ZD l Z L) (h1:G.nx=1):bT n0 l Z old L G m c:=by
 obtain ⟨hc,hp⟩:=h
 cases hp with
 | p1 a b c d e f=>
   have bV:=hZ.1.now
   rw [b,if_neg (by simp)] at bV
   have es:aE L G=(L,{G with el:=now L.xs L.ds,nx:=2}):=by unfold aE; rw [if_pos h1]
   rw [bV] at es
   refine bT.of (m':=m-1) es (by omega) ⟨⟨hc.nn,hc.al,hc.wk,hc.err,fun _=>rfl,hc.k,?_,hc.hl,fun _=>hc.aF (by omega),hc.xb,?_,?_,fun q=>?_,fun _=>hc.later (by omega),hc.bk,hc.b5,hc.pos,hc.tabs⟩,?_⟩ hZ (im.refl _ _ _ _) (fun _ _=>rfl)
   ·have:=hc.pd; omega
   ·have:=hc.xl
    rw [if_pos (by omega)] at this
    rw [if_pos (by simp)]
    exact this
   ·exact ⟨hc.ds.1,fun _=>hc.ds.2 (by omega)⟩
   ·simp only at q; omega
   ·exact .p2 rfl b c d e (by omega)
 | p2 a _ _ _ _ _=>omega
 | p3 a _ _ _ _ _ _=>omega
 | p4 p q a _ _ _ _ _ _ _ _ _ _=>omega
 | p5 a _ _ _ _ _ _ _ _=>omega
 | p6 a _ _ _ _ _=>omega
 | p7 t ids a _ _ _ _ _ _ _ _ _ _ _=>omega
 | p8 t ids ids' a _ _ _ _ _ _ _ _ _ _ _=>omega
theorem J.go2 (h:J n0 l Z old L G m c) (hZ:ZD l Z L) (h2:G.nx=2):bT n0 l Z old L G m c:=by
 obtain ⟨hc,hp⟩:=h
 have hf:=J.fits hc hZ h2
 have hn:=gE hZ
 cases hp with
 | p2 a b cc d e f=>
   have hlen:=hc.xl
   rw [if_pos (by omega)] at hlen
   have es:aE L G=({L with xs:=L.xs++List.replicate (2*Z.n) 0,ds:=L.ds++[(2*Z.n,Z.B2)]},{G with num:=L.ds.length,err:=0,nw:=(2*Z.n,Z.B2),nx:=3}):=by
    unfold aE
    rw [if_neg (by omega),if_pos h2,if_pos hf,hc.el (by omega),hlen]
   have hb:=H8 (old:=old) hZ (xs':=L.xs++List.replicate (2*Z.n) 0) (hs':=L.hs) (ds':=L.ds++[(2*Z.n,Z.B2)]) (ws':=L.ws) (fun i _ _=>kH i) (fun q=>by rw [b] at q; simp at q) (by simp) (fun x hx=>by
    rcases List.mem_append.1 hx with q | q
    ·exact hZ.1.xb x q
    ·have:=(List.mem_replicate.1 q).2
     omega) (by
    have bV:=hZ.1.now
    rw [b,if_neg (by simp)] at bV
    unfold Me.now at bV ⊢
    rw [kH,qW,if_neg]
    intro q
    rw [q,sq (Nat.le_refl _)] at bV
    injection bV with q1 _
    omega) (fun i=>by
    rw [qW]
    split
    ·have:=hc.xb; simp only; omega
    ·exact hZ.1.tb i) (by rw [kH]; exact Int.le_refl _)
   refine bT.of (m':=m-1) es (by omega) ⟨⟨hc.nn,hc.al,hc.wk,rfl,fun _=>hc.el (by omega),hc.k,by show Cl.nth (L.xs++_) 0+_<=_; rw [kH]; have:=hc.pd; omega,hc.hl,fun _=>hc.aF (by omega),hc.xb,?_,?_,fun _=>⟨rfl,L.ds.length,rfl,by have:=hc.ds.1; omega,by show aO (L.ds++_) _=_; rw [qW,if_pos rfl]⟩,fun _=>hc.later (by omega),hc.bk,hc.b5,hc.pos,?_⟩,?_⟩ hb.1 hb.2 (fun _ _=>kH _)
   ·rw [if_neg (by simp)]
    simp [hlen]
   ·have:=hc.ds.2 (by omega)
    exact ⟨by simp only [List.length_append,List.length_singleton]; omega,fun q=>by simp only at q; omega⟩
   ·intro i hi
    show 1<=(aO (L.ds++_) i).1/\(aO (L.ds++_) i).1<=65536/\(aO (L.ds++_) i).2+(aO (L.ds++_) i).1<=(L.xs++List.replicate (2*Z.n) 0).length
    have kc:=FM.eG hZ.1.jT
    rw [qW]
    split
    ·simp only [List.length_append,List.length_replicate]
     omega
    ·have yd:i<(L.ds++[(2*Z.n,Z.B2)]).length:=hi
     simp only [List.length_append,List.length_singleton] at yd
     have:=hc.tabs i (by omega)
     simp only [List.length_append,List.length_replicate]
     omega
   ·have bW:({G with num:=L.ds.length,err:=0,nw:=(2*Z.n,Z.B2),nx:=3}:Gr).bucket=0:=d
    refine .p3 rfl b cc (by rw [bW]; omega) (fun k hk=>?_) ⟨[],?_,List.nodup_nil,by simp,fun q hq=>by rw [bW] at hq; omega,?_,?_⟩ ?_
    ·show Cl.nth (L.xs++_) _=_
     rw [kH,H2 (by omega),bW,if_neg (by rintro (q | ⟨_,q⟩)<;>omega)]
    ·show gR _ [] G.pass
     rw [e]; exact .nil
    ·show ∀ l∈G.pass,_
     rw [e]; simp
    ·show gS G.pass<=_
     rw [e]; simp [gS]
    ·rw [bW]
     simp only [Nat.sub_zero]
     omega
 | p1 a _ _ _ _ _=>omega
 | p3 a _ _ _ _ _ _=>omega
 | p4 p q a _ _ _ _ _ _ _ _ _ _=>omega
 | p5 a _ _ _ _ _ _ _ _=>omega
 | p6 a _ _ _ _ _=>omega
 | p7 t ids a _ _ _ _ _ _ _ _ _ _ _=>omega
 | p8 t ids ids' a _ _ _ _ _ _ _ _ _ _ _=>omega
end
end Go.Proofs.YtpanebgakndddaaGreat.Gw
namespace Go.Proofs.YtpanebgakndddaaGreat.Gw
open Go Hm Ar Mm Wk Pc Me Mq Pu Pn Gt Qs Zp Mx
section
variable {n0:Nat} {l:List Pr} {Z:Zs} {L:Lm} {G G':Gr} {m m' c:Nat} {old:Nat->Int->Nat->Prop}
theorem Jc.to (h:Jc n0 l Z L G m) (h1:G'.worker=G.worker/\G'.err=G.err/\G'.el=G.el/\G'.nw=G.nw/\G'.num=G.num/\G'.later=G.later) (hb:G'.bucket<=Z.n) (h3:3<=G.nx/\G.nx<=6) (qh:3<=G'.nx/\G'.nx<=7) (hm:m'<=m):Jc n0 l Z L G' m':=by
 obtain ⟨e1,e2,e3,e4,e5,e6⟩:=h1
 have kT:=h.pd
 have bz:=h.xl
 rw [if_neg (by omega)] at bz
 exact ⟨h.nn,h.al,by rw [e1]; exact h.wk,by rw [e2]; exact h.err,fun _=>by rw [e3]; exact h.el (by omega),h.k,by omega,h.hl,fun _=>h.aF (by omega),h.xb,by rw [if_neg (by omega)]; exact bz,⟨h.ds.1,fun q=>by omega⟩,
  fun _=>by rw [e4,e5]; exact h.nw (by omega),fun _=>by rw [e6]; exact h.later (by omega),hb,h.b5,h.pos,h.tabs⟩
theorem Jc.cells (h:Jc n0 l Z L G m) {xs':List Int} (hl:xs'.length=L.xs.length) (h0:Cl.nth xs' 0=Cl.nth L.xs 0):Jc n0 l Z {L with xs:=xs'} G m:=
 {h with pd:=by show Cl.nth xs' 0+_<=_; rw [h0]; exact h.pd,xl:=by show xs'.length=_; rw [hl]; exact h.xl,tabs:=zB h.tabs hl}
theorem QN {h:Nat} (hh:h<=2) (fi:Nat×Nat):h<=dD h fi/\dD h fi<=2/\∀ i,h<=i->i<dD h fi->cG fi i=0:=by
 have:h=0\/h=1\/h=2:=by omega
 have z0:∀ i,i=0->fi.1=0->cG fi i=0:=fun i q h=>by unfold cG; rw [if_pos q]; exact h
 have z1:∀ i,i≠0->fi.2=0->cG fi i=0:=fun i q h=>by unfold cG; rw [if_neg q]; exact h
 by_cases h1:fi.1=0
 ·by_cases h2:fi.2=0
  ·rcases this with rfl | rfl | rfl
   ·have e:dD 0 fi=2:=by simp [dD,jZ,h1,h2]
    rw [e]
    exact ⟨by omega,by omega,fun i _ q=>by
     by_cases hi:i=0
     ·exact z0 i hi h1
     ·exact z1 i hi h2⟩
   ·have e:dD 1 fi=2:=by simp [dD,jZ,h2]
    rw [e]
    exact ⟨by omega,by omega,fun i _ q=>z1 i (by omega) h2⟩
   ·have e:dD 2 fi=2:=by simp [dD,jZ]
    rw [e]
    exact ⟨by omega,by omega,fun i _ q=>by omega⟩
  ·rcases this with rfl | rfl | rfl
   ·have e:dD 0 fi=1:=by simp [dD,jZ,h1,h2]
    rw [e]
    exact ⟨by omega,by omega,fun i _ q=>z0 i (by omega) h1⟩
   ·have e:dD 1 fi=1:=by simp [dD,jZ,h2]
    rw [e]
    exact ⟨by omega,by omega,fun i _ q=>by omega⟩
   ·have e:dD 2 fi=2:=by simp [dD,jZ]
    rw [e]
    exact ⟨by omega,by omega,fun i _ q=>by omega⟩
 ·rcases this with rfl | rfl | rfl
  ·have e:dD 0 fi=0:=by simp [dD,jZ,h1]
   rw [e]
   exact ⟨by omega,by omega,fun i _ q=>by omega⟩
  ·by_cases h2:fi.2=0
   ·have e:dD 1 fi=2:=by simp [dD,jZ,h2]
    rw [e]
    exact ⟨by omega,by omega,fun i _ q=>z1 i (by omega) h2⟩
   ·have e:dD 1 fi=1:=by simp [dD,jZ,h2]
    rw [e]
    exact ⟨by omega,by omega,fun i _ q=>by omega⟩
  ·have e:dD 2 fi=2:=by simp [dD,jZ]
   rw [e]
   exact ⟨by omega,by omega,fun i _ q=>by omega⟩
theorem H9 (hc:Jc n0 l Z L G m) (hZ:ZD l Z L) (hp:Z.bt=false) (ho:∀ w p e,old w p e) (hx:3<=G.nx/\G.nx<=5) (hb:G.bucket<Z.n) (hh:G.half<=2) (tz:jK Z L G.bucket G.half) (vn:sE Z G (G.bucket+1))
 (kS:∀ b,cG G.C.fi (hf b)=aC ((Z.aY G.bucket).filter fun a=>sd Z.n a.2.1==b)) (hm:(2-G.half)+(Z.n-G.bucket-1)*(Z.few+4)+mB Z<=m') (vo:m'<=m):J n0 l Z old L (bI G) m' c:=by
 obtain ⟨h1,h2,h3⟩:=QN hh G.C.fi
 have hn:=gE hZ
 have ev:jK Z L G.bucket (dD G.half G.C.fi):=fun d hd=>by
  rw [tz d hd]
  by_cases q:d % Z.n<G.bucket\/(d % Z.n=G.bucket/\d<Z.n*G.half)
  ·rw [if_pos q,if_pos]
   refine q.imp id fun q=>⟨q.1,Nat.lt_of_lt_of_le q.2 (Nat.mul_le_mul_left _ h1)⟩
  ·rw [if_neg q]
   split
   ·rename_i q2
    rcases q2 with q2 | ⟨q2,q3⟩
    ·exact absurd (.inl q2) q
    ·have WB:Z.n*G.half<=d:=by
      rcases Nat.lt_or_ge d (Z.n*G.half) with a | a
      ·exact absurd (.inr ⟨q2,a⟩) q
      ·exact a
     rw [H4 hZ hp hd,q2,<-kS,h3]
     ·rfl
     ·unfold hf
      split
      ·rename_i q4
       have q4:=of_decide_eq_true q4
       rcases Nat.lt_or_ge G.half 2 with a | a
       ·omega
       ·have:G.half=2:=by omega
        rw [this] at WB
        omega
      ·rename_i q4
       have q4:¬Z.n<=d:=fun a=>q4 (decide_eq_true a)
       rcases Nat.eq_zero_or_pos G.half with a | a
       ·omega
       ·have:=Nat.mul_le_mul_left Z.n (show 1<=G.half from a)
        omega
     ·unfold hf
      split
      ·rename_i q4
       have q4:=of_decide_eq_true q4
       rcases Nat.lt_or_ge 1 (dD G.half G.C.fi) with a | a
       ·exact a
       ·have:=Nat.mul_le_mul_left Z.n a
        omega
      ·rcases Nat.eq_zero_or_pos (dD G.half G.C.fi) with a | a
       ·rw [a] at q3; omega
       ·exact a
   ·rfl
 unfold bI
 split
 ·rename_i aV
  refine ⟨hc.to ⟨rfl,rfl,rfl,rfl,rfl,rfl⟩ (by simp only; omega) (by omega) ⟨by simp only; omega,by simp only; omega⟩ vo,.p5 rfl hp ho hb ev vn kS (by simp only; omega) ?_⟩
  simp only
  omega
 ·rename_i aV
  have he:dD G.half G.C.fi=2:=by omega
  have AJ:jK Z L (G.bucket+1) 0:=fun d hd=>by
   rw [ev d hd,he]
   have:(d % Z.n<G.bucket\/(d % Z.n=G.bucket/\d<Z.n*2))↔(d % Z.n<G.bucket+1\/(d % Z.n=G.bucket+1/\d<Z.n*0)):=by omega
   by_cases q:d % Z.n<G.bucket\/(d % Z.n=G.bucket/\d<Z.n*2)
   ·rw [if_pos q,if_pos (this.1 q)]
   ·rw [if_neg q,if_neg (fun a=>q (this.2 a))]
  have eR:G.el.1=Z.n:=by rw [hc.el (by omega)]
  rw [eR]
  by_cases hq:G.bucket+1=Z.n
  ·rw [if_pos hq]
   refine ⟨hc.to ⟨rfl,rfl,rfl,rfl,rfl,rfl⟩ (by simp only; omega) (by omega) ⟨by simp only; omega,by simp only; omega⟩ vo,.p6 rfl hp ho (by rw [<-hq]; exact AJ) (by rw [<-hq]; exact vn) (by omega)⟩
  ·rw [if_neg hq]
   refine ⟨hc.to ⟨rfl,rfl,rfl,rfl,rfl,rfl⟩ (by simp only; omega) (by omega) ⟨by simp only; omega,by simp only; omega⟩ vo,.p3 rfl hp ho (by simp only; omega) AJ vn ?_⟩
   simp only
   rw [show Z.n-(G.bucket+1)=Z.n-G.bucket-1 by omega]
   omega
theorem Ia (hc:Jc n0 l Z L G m) (hZ:ZD l Z L) (hp:Z.bt=false) (ho:∀ w p e,old w p e) (hx:3<=G.nx/\G.nx<=4) (hb:G.bucket<Z.n) (tz:jK Z L G.bucket 0) (vn:sE Z G G.bucket)
 {p q:List Mq.Hp} (hA:Z.aY G.bucket=p++q) (hC:G.C=jH (sd Z.n) p) (hm:q.length+3+(Z.n-G.bucket-1)*(Z.few+4)+mB Z<=m') (vo:m'<=m):J n0 l Z old L (dm G (aC q)) m' c:=by
 have h0:∀ e∈Z.aY G.bucket,e.1≠0:=fun e he=>(hc.pos _ hb e he).1
 unfold dm
 cases q with
 | cons e q'=>
   rw [if_neg (by rw [hA] at h0; exact h0 e (by simp))]
   exact ⟨hc.to ⟨rfl,rfl,rfl,rfl,rfl,rfl⟩ (by simp only; omega) (by omega) ⟨by simp only; omega,by simp only; omega⟩ vo,.p4 p (e::q') rfl hp ho hb tz vn hA (by simp) rfl hC hm⟩
 | nil=>
   rw [List.append_nil] at hA
   rw [if_pos (show aC []=0 from rfl)]
   obtain ⟨f1,f2,f3,f4⟩:=uq hZ hp hb
   have bu:=PQ (sd Z.n) f3 f4 h0
   have ku:=PM (sd Z.n) _ (Z.aY G.bucket) rfl h0
   rw [hA,<-hC] at bu ku
   have jq:=hZ.1.few.1 _ hb
   have vp:(Z.rest G.bucket).length<=Z.few:=by
    have:=congrArg List.length f4
    rw [List.length_append] at this
    omega
   obtain ⟨ids,w1,w2,w3,w4,w5,w6⟩:=vn
   have hmul:(G.bucket+1)*Z.few=G.bucket*Z.few+Z.few:=Nat.succ_mul _ _
   unfold wE
   refine H9 (G:={G with pass:=if G.C.cK=[] then G.pass else G.pass++[G.C.cK],half:=0}) (hc.to (m':=m) ⟨rfl,rfl,rfl,rfl,rfl,rfl⟩ (by simp only; omega) (by omega) ⟨by simp only; omega,by simp only; omega⟩ (Nat.le_refl _)) hZ hp ho (by simp only; omega) hb (by simp) tz ?_ ?_ ?_ vo
   ·by_cases gJ:G.C.cK=[]
    ·rw [gJ] at bu
     have WC:=bu.none
     refine ⟨ids,?_,w2,fun e he=>?_,fun e he aL=>?_,?_,?_⟩
     ·show gR _ ids (if G.C.cK=[] then _ else _)
      rw [if_pos gJ]; exact w1
     ·have:=w3 e he
      simp only
      omega
     ·simp only at he
      by_cases hq:e=G.bucket
      ·rw [hq]; exact WC
      ·exact w4 e (by omega) aL
     ·show ∀ l∈(if G.C.cK=[] then _ else _),_
      rw [if_pos gJ]; exact w5
     ·show gS (if G.C.cK=[] then _ else _)<=_
      rw [if_pos gJ,hmul]; omega
    ·refine ⟨ids++[G.bucket],?_,?_,fun e he=>?_,fun e he aL=>?_,?_,?_⟩
     ·show gR _ _ (if G.C.cK=[] then _ else _)
      rw [if_neg gJ]
      exact w1.snoc ⟨hb,gJ,bu⟩
     ·refine List.nodup_append.2 ⟨w2,by simp,fun a ha b cY e=>?_⟩
      have:=w3 a ha
      have ey:b=G.bucket:=by simpa using cY
      omega
     ·rcases List.mem_append.1 he with q | q
      ·have:=w3 e q
       simp only
       omega
      ·have:e=G.bucket:=by simpa using q
       simp only
       omega
     ·simp only at he
      by_cases hq:e=G.bucket
      ·exact absurd (by rw [hq]; simp) aL
      ·exact w4 e (by omega) fun q=>aL (by simp [q])
     ·show ∀ l∈(if G.C.cK=[] then _ else _),_
      rw [if_neg gJ]
      intro l hl
      rcases List.mem_append.1 hl with q | q
      ·exact w5 l q
      ·have:l=G.C.cK:=by simpa using q
       rw [this]
       exact Nat.le_trans bu.le vp
     ·show gS (if G.C.cK=[] then _ else _)<=_
      rw [if_neg gJ,hmul,H3]
      have:=bu.le
      omega
   ·intro b
    show cG G.C.fi (hf b)=_
    rw [ku.fi b,hA]
   ·simp only [List.length_nil] at hm ⊢
    omega
theorem J.CS (h:J n0 l Z old L G m c) (hZ:ZD l Z L) (h3:G.nx=3):bT n0 l Z old L G m c:=by
 obtain ⟨hc,hp⟩:=h
 cases hp with
 | p3 a b d e f g i=>
   have es:aE L G=(L,dm {G with C:=.new} (aC (Z.aY G.bucket))):=by
    unfold aE
    rw [if_neg (by omega),if_neg (by omega),if_pos h3,hc.el (by omega),hZ.1.elder _ e,Int.toNat_natCast]
   have jq:=hZ.1.few.1 _ e
   have hmul:(Z.n-G.bucket)*(Z.few+4)=(Z.n-G.bucket-1)*(Z.few+4)+(Z.few+4):=by
    rw [<-Nat.succ_mul]
    congr 1
    omega
   exact bT.of (m':=m-1) es (by omega) (Ia (m:=m) (G:={G with C:=.new}) (hc.to ⟨rfl,rfl,rfl,rfl,rfl,rfl⟩ (by simp only; omega) (by omega) ⟨by simp only; omega,by simp only; omega⟩ (Nat.le_refl _)) hZ b d (by simp only; omega) e f g (p:=[]) rfl rfl (by simp only; omega) (by omega)) hZ (im.refl _ _ _ _) (fun _ _=>rfl)
 | p1 a _ _ _ _ _=>omega
 | p2 a _ _ _ _ _=>omega
 | p4 p q a _ _ _ _ _ _ _ _ _ _=>omega
 | p5 a _ _ _ _ _ _ _ _=>omega
 | p6 a _ _ _ _ _=>omega
 | p7 t ids a _ _ _ _ _ _ _ _ _ _ _=>omega
 | p8 t ids ids' a _ _ _ _ _ _ _ _ _ _ _=>omega
theorem J.CT (h:J n0 l Z old L G m c) (hZ:ZD l Z L) (h4:G.nx=4):bT n0 l Z old L G m c:=by
 obtain ⟨hc,hp⟩:=h
 cases hp with
 | p4 p q a b d e f g hA hq cr hC i=>
   cases q with
   | nil=>exact absurd rfl hq
   | cons e0 q'=>
     have rD:G.at_=e0.1:=cr
     obtain ⟨k,a1,a2,a3,a4,a5⟩:=H6 hZ hc b e hA rD
     have AI:(aj L.ss k).nd.sum=sm e0.2.1:=by rw [a3]; rfl
     have rE:(aj L.ss k).nd.next=((aC q':Nat):Int):=by rw [a3]; rfl
     have es:aE L G=(L,dm {G with C:=jH (sd Z.n) (p++[e0])} (aC q')):=by
      unfold aE
      rw [if_neg (by omega),if_neg (by omega),if_neg (by omega),if_pos h4,a2,AI,rE,Int.toNat_natCast,H5 hZ hc (by omega),hC,rD,Cs]
     have hl:(e0::q').length=q'.length+1:=rfl
     rw [hl] at i
     exact bT.of (m':=m-1) es (by omega) (Ia (m:=m) (G:={G with C:=jH (sd Z.n) (p++[e0])}) (hc.to ⟨rfl,rfl,rfl,rfl,rfl,rfl⟩ (by simp only; omega) (by omega) ⟨by simp only; omega,by simp only; omega⟩ (Nat.le_refl _)) hZ b d (by simp only; omega) e f g (p:=p++[e0]) (q:=q') (by simp [hA]) rfl (by simp only; omega) (by omega)) hZ (im.refl _ _ _ _) (fun _ _=>rfl)
 | p1 a _ _ _ _ _=>omega
 | p2 a _ _ _ _ _=>omega
 | p3 a _ _ _ _ _ _=>omega
 | p5 a _ _ _ _ _ _ _ _=>omega
 | p6 a _ _ _ _ _=>omega
 | p7 t ids a _ _ _ _ _ _ _ _ _ _ _=>omega
 | p8 t ids ids' a _ _ _ _ _ _ _ _ _ _ _=>omega
theorem J.CU (h:J n0 l Z old L G m c) (hZ:ZD l Z L) (h5:G.nx=5):bT n0 l Z old L G m c:=by
 have eL:=(h.ok hZ)
 obtain ⟨hc,hp⟩:=h
 cases hp with
 | p5 a b d e f g kS hh i=>
   have hn:=gE hZ
   have bz:=hZ.1.xl
   have jj:=hc.b5
   have eu:=hZ.1.kB
   have hlen:=hc.xl
   rw [if_neg (by omega)] at hlen
   obtain ⟨v,hv⟩:∃ v:Int,v=((cG G.C.fi G.half:Nat):Int):=⟨_,rfl⟩
   obtain ⟨i0,cq⟩:∃ i0,i0=G.bucket+G.half*Z.n:=⟨_,rfl⟩
   have mN:i0<2*Z.n/\i0 % Z.n=G.bucket/\hf (decide (Z.n<=i0))=G.half/\i0=G.bucket+G.half*Z.n:=by
    have:G.half=0\/G.half=1:=by omega
    rcases this with q | q
    ·rw [q] at cq ⊢
     refine ⟨by omega,?_,?_,cq⟩
     ·rw [cq,Nat.zero_mul,Nat.add_zero,Nat.mod_eq_of_lt e]
     ·rw [decide_eq_false (by omega)]; rfl
    ·rw [q] at cq ⊢
     refine ⟨by omega,?_,?_,cq⟩
     ·rw [cq,Nat.one_mul,Nat.add_mod_right,Nat.mod_eq_of_lt e]
     ·rw [decide_eq_true (by omega)]; rfl
   obtain ⟨j1,j2,j3,j4⟩:=mN
   have x9:0<=v/\v<=18446744073709551615:=by
    have h2:cG G.C.fi G.half<=18446744073709551615:=by
     rw [<-j3,kS]
     cases hq:(Z.aY G.bucket).filter fun a=>sd Z.n a.2.1==decide (Z.n<=i0) with
     | nil=>simp [aC]
     | cons a t=>
       have:a∈Z.aY G.bucket:=(List.mem_filter.1 (show a∈(Z.aY G.bucket).filter fun a=>sd Z.n a.2.1==decide (Z.n<=i0) by rw [hq]; simp)).1
       exact (hc.pos _ e a this).2
    omega
   have es:aE L G=({L with xs:=L.xs.set (Z.B2+i0) v},bI {G with half:=G.half+1}):=by
    unfold aE
    rw [if_neg (by omega),if_neg (by omega),if_neg (by omega),if_neg (by omega),if_pos h5,hc.el (by omega),(hc.nw (by omega)).1,<-hv,cq]
   have gK:∀ j,j≠Z.B2+i0->Cl.nth (L.xs.set (Z.B2+i0) v) j=Cl.nth L.xs j:=fun j hj=>by rw [fG _ _ _ (by omega),if_neg hj]
   have ey:=H8 (old:=old) hZ (xs':=L.xs.set (Z.B2+i0) v) (hs':=L.hs) (ds':=L.ds) (ws':=L.ws) (fun j _ _=>gK j (by omega)) (fun q=>by rw [b] at q; simp at q) (by simp) (fun x hx=>by
    rcases List.mem_or_eq_of_mem_set hx with q | rfl
    ·exact hZ.1.xb x q
    ·exact x9) (by
    unfold Me.now
    rw [gK 1 (by omega)]) hZ.1.tb (by rw [gK 0 (by omega)]; exact Int.le_refl _)
   refine bT.of (m':=m-1) es (by omega) (H9 (m:=m) (G:={G with half:=G.half+1}) ?_ ey.1 b d (by first | omega | (simp only; omega)) e (by first | omega | (simp only; omega)) ?_ g kS (by first | omega | (simp only; omega)) (by omega)) ey.1 ey.2 (fun _ _=>gK _ (by omega))
   ·have hj:Jc n0 l Z L {G with half:=G.half+1} m:=hc.to ⟨rfl,rfl,rfl,rfl,rfl,rfl⟩ (by simp only; omega) (by omega) ⟨by simp only; omega,by simp only; omega⟩ (Nat.le_refl _)
    exact hj.cells (by simp) (gK _ (by omega))
   ·intro x hx
    show Cl.nth (L.xs.set (Z.B2+i0) v) (Z.B2+x)=if x % Z.n<G.bucket\/(x % Z.n=G.bucket/\x<Z.n*(G.half+1)) then _ else _
    by_cases hq:x=i0
    ·subst hq
     rw [fG _ _ _ (by omega),if_pos rfl,if_pos,hv,H4 hZ b hx,j2,<-kS,j3]
     refine .inr ⟨j2,?_⟩
     rw [j4,Nat.mul_add,Nat.mul_comm Z.n G.half]
     omega
    ·rw [gK _ (by omega),f x hx]
     have:(x % Z.n<G.bucket\/(x % Z.n=G.bucket/\x<Z.n*G.half))↔(x % Z.n<G.bucket\/(x % Z.n=G.bucket/\x<Z.n*(G.half+1))):=by
      refine or_congr Iff.rfl (and_congr_right fun q=>?_)
      have hd:=Nat.div_add_mod x Z.n
      have lT:x / Z.n<2:=Nat.div_lt_of_lt_mul (by rw [Nat.mul_comm]; exact hx)
      generalize x / Z.n=dd at hd lT
      have yf:dd=0\/dd=1:=by omega
      have WD:G.half=0\/G.half=1:=by omega
      rcases yf with r | r<;>rcases WD with s | s<;>rw [r] at hd<;>rw [s] at j4 ⊢<;>omega
     by_cases kN:x % Z.n<G.bucket\/(x % Z.n=G.bucket/\x<Z.n*G.half)
     ·rw [if_pos kN,if_pos (this.1 kN)]
     ·rw [if_neg kN,if_neg (fun a=>kN (this.2 a))]
 | p1 a _ _ _ _ _=>omega
 | p2 a _ _ _ _ _=>omega
 | p3 a _ _ _ _ _ _=>omega
 | p4 p q a _ _ _ _ _ _ _ _ _ _=>omega
 | p6 a _ _ _ _ _=>omega
 | p7 t ids a _ _ _ _ _ _ _ _ _ _ _=>omega
 | p8 t ids ids' a _ _ _ _ _ _ _ _ _ _ _=>omega
end
end Go.Proofs.YtpanebgakndddaaGreat.Gw
namespace Go.Proofs.YtpanebgakndddaaGreat.Gw
open Go Hm Ar Mm Wk Pc Me Mq Pu Pn Gt Qs Zp Mx
section
variable {n0:Nat} {l:List Pr} {Z:Zs} {L:Lm} {G G':Gr} {m m' c:Nat} {old:Nat->Int->Nat->Prop}
theorem CV (k:Int) (w:Nat) (p:Int) (e:Nat):gy ⟨k,0,0,0⟩ w p e:=.inl (Nat.zero_le _)
theorem J.CW (h:J n0 l Z old L G m c) (hZ:ZD l Z L) (h6:G.nx=6):bT n0 l Z old L G m c:=by
 obtain ⟨hc,hp⟩:=h
 cases hp with
 | p6 a b d e f i=>
   have hn:=gE hZ
   have bz:=hZ.1.xl
   have jj:=hc.b5
   have eu:=hZ.1.kB
   have cf:=hc.k
   have iB:=hc.wk
   have hlen:=hc.xl
   rw [if_neg (by omega)] at hlen
   obtain ⟨bO,t,EE,Eh,EF⟩:=hc.nw (by omega)
   obtain ⟨ids,w1,w2,w3,w4,w5,w6⟩:=f
   have es:aE L G=({L with xs:=L.xs.set 1 (t:Int)},eo G):=by
    unfold aE
    rw [if_neg (by omega),if_neg (by omega),if_neg (by omega),if_neg (by omega),if_neg (by omega),if_pos h6,EE]
   have gK:∀ j,j≠1->Cl.nth (L.xs.set 1 (t:Int)) j=Cl.nth L.xs j:=fun j hj=>by rw [fG _ _ _ (by omega),if_neg hj]
   have ey:=QO (old:=old) hZ b (t:=t) (by omega) (by
    unfold Me.now
    rw [fG _ _ _ (by omega),if_pos rfl,Int.toNat_natCast,EF]) (by omega) (fun x hx=>by
    rw [e x hx,if_pos]
    exact .inl (Nat.mod_lt _ (by omega)))
   have EG:im l {Z with bt:=true} {L with xs:=L.xs.set 1 (t:Int)} old {Z with bt:=true} {L with xs:=L.xs.set 1 (t:Int)} (gy ⟨G.worker,0,0,0⟩):=im.Ib ey.1 fun w p e _=>CV _ w p e
   have hj:Jc n0 l Z {L with xs:=L.xs.set 1 (t:Int)} (eo G) (m-1):=(hc.to (G':=eo G) ⟨rfl,rfl,rfl,rfl,rfl,rfl⟩ hc.bk (by omega) ⟨by show 3<=7; omega,by show 7<=7; omega⟩ (by omega)).cells (by simp) (gK _ (by omega))
   refine bT.of (m':=m-1) (Z':={Z with bt:=true}) (old':=gy ⟨G.worker,0,0,0⟩) es (by unfold mB at i; omega) ⟨⟨hj.nn,hj.al,hj.wk,hj.err,hj.el,hj.k,hj.pd,hj.hl,hj.aF,hj.xb,hj.xl,hj.ds,hj.nw,hj.later,hj.bk,hj.b5,hj.pos,hj.tabs⟩,?_⟩ ey.1 (im.trans (L':={L with xs:=L.xs.set 1 (t:Int)}) rfl ey.2 EG) (fun _ _=>gK _ (by omega))
   refine .p7 Z.few ids rfl rfl (fun w p e=>Iff.rfl) ⟨by show L.k.toNat<=8; omega,by show 0<=3; omega,?_,hc.hl,by show L.k.toNat+2<=(L.xs.set 1 (t:Int)).length; rw [List.length_set]; omega,⟨by show 0<=1000; omega,fun _=>by show 0<L.k.toNat; omega⟩,fun q=>absurd rfl q⟩ iB.1 (fun _=>rfl) (fun _=>hc.aF (by omega)) w1 w2 w4 w5 ?_
   ·show 0<=G.worker/\G.worker<=_
    omega
   ·show wl ⟨G.worker,0,0,0⟩+12*Z.few+gS G.pass<=_
    have:wl ⟨G.worker,0,0,0⟩=11:=by unfold wl; rw [if_pos rfl]
    rw [this]
    unfold mB at i
    omega
 | p1 a _ _ _ _ _=>omega
 | p2 a _ _ _ _ _=>omega
 | p3 a _ _ _ _ _ _=>omega
 | p4 p q a _ _ _ _ _ _ _ _ _ _=>omega
 | p5 a _ _ _ _ _ _ _ _=>omega
 | p7 t ids a _ _ _ _ _ _ _ _ _ _ _=>omega
 | p8 t ids ids' a _ _ _ _ _ _ _ _ _ _ _=>omega
theorem zD {n:Nat} {W:Wt} (hl:0<L.xs.length) (hh:Cl.nth L.xs 0<=4611686018427387904) (h0:0<=Cl.nth L.xs 0):(∀ j,j≠0->Cl.nth (aW n L.xs L.hs W).1 j=Cl.nth L.xs j)/\(aW n L.xs L.hs W).1.length=L.xs.length/\Cl.nth (aW n L.xs L.hs W).1 0<=Cl.nth L.xs 0+1/\(aW n L.xs L.hs W).2.1.length=L.hs.length/\(aW n L.xs L.hs W).2.2.worker=W.worker:=by
 unfold aW
 by_cases h0:W.at_=0
 ·rw [if_pos h0]; exact ⟨fun _ _=>rfl,rfl,by simp only; omega,by simp,rfl⟩
 rw [if_neg h0]
 by_cases h1:W.at_=1
 ·rw [if_pos h1]
  refine ⟨fun j hj=>by simp only; rw [fG _ _ _ hl,if_neg hj],by simp,?_,rfl,rfl⟩
  simp only
  rw [fG _ _ _ hl,if_pos rfl,zE (by assumption) hh]
  exact Int.le_refl _
 rw [if_neg h1]
 by_cases h2:W.at_=2
 ·rw [if_pos h2]; exact ⟨fun _ _=>rfl,rfl,by simp only; omega,rfl,rfl⟩
 ·rw [if_neg h2]; exact ⟨fun _ _=>rfl,rfl,by simp only; omega,by simp,rfl⟩
theorem Ic {n:Nat} {W:Wt} (hs:List Int) (xs:List Int) (eL:Qs.eV n xs hs W) (h3:W.at_≠3):wl (aW n xs hs W).2.2+1<=wl W:=by
 have h1:=eL.at_
 have h2:=eL.bF
 have h4:=eL.n1
 unfold aW
 have:W.at_=0\/W.at_=1\/W.at_=2:=by omega
 rcases this with q | q | q
 ·rw [if_pos q]
  simp [wl,q]
 ·rw [if_neg (by omega),if_pos q]
  simp [wl,q]
 ·rw [if_neg (by omega),if_neg (by omega),if_pos q]
  have hp:=h2.2 (by omega)
  by_cases hq:n<=W.bF+1
  ·simp [wl,q,hq]
   omega
  ·simp [wl,q,hq]
   omega
theorem J.CX (h:J n0 l Z old L G m c) (hZ:ZD l Z L) (h7:G.nx=7) (hr:lh L G=true) (hd:cp L G=false):bT n0 l Z old L G m c:=by
 obtain ⟨hc,hp⟩:=h
 cases hp with
 | p7 t ids a b d e f g i w1 w2 w3 w4 w5=>
   have hn:=gE hZ
   have bz:=hZ.1.xl
   have eu:=hZ.1.kB
   have cf:=hc.k
   have yf:=hZ.1.p1
   have hlen:=hc.xl
   rw [if_neg (by omega)] at hlen
   have hold:old=gy G.W:=funext fun w=>funext fun p=>funext fun e=>propext (d w p e)
   subst hold
   have jt:iI L.xs L.hs G.W=true:=by unfold lh at hr; rw [if_pos h7] at hr; exact hr
   have kT:=hc.pd
   have es:=H7 (L:=L) h7
   obtain ⟨c1,c2,c3,c4,c5⟩:=zD (n:=L.k.toNat) (L:=L) (W:=G.W) (by omega) (by omega) (by omega)
   have ey:=QP (n:=L.k.toNat) hZ (by omega) jt g e.at_ (by omega)
   by_cases h3:G.W.at_=3
   ·have cT:G.pass≠[]:=fun q=>by
     unfold cp at hd
     rw [if_neg (by omega),if_pos h7,decide_eq_true ⟨h3,q⟩] at hd
     simp at hd
    rw [if_pos h3,if_neg cT] at es
    have hw:aW L.k.toNat L.xs L.hs G.W=(L.xs,L.hs.set 0 (-1),{G.W with at_:=4}):=by
     unfold aW; rw [if_neg (by omega),if_neg (by omega),if_neg (by omega)]
    rw [hw] at es ey
    have yg:wl G.W=1:=by simp [wl,h3]
    rw [yg] at w5
    obtain ⟨l1,ps,lJ⟩:∃ l1 ps,G.pass=l1::ps:=by
     cases hq:G.pass with
     | nil=>exact absurd hq cT
     | cons x y=>exact ⟨x,y,rfl⟩
    have ht:1<=t:=by
     rw [lJ] at w1
     cases w1 with
     | cons q _=>
       have:=w4 l1 (by rw [lJ]; simp)
       have:=List.length_pos_iff.2 q.2.1
       omega
    refine bT.of (m':=m-1) es (by omega) ⟨⟨hc.nn,hc.al,hc.wk,hc.err,fun _=>hc.el (by omega),hc.k,by show Cl.nth L.xs 0+_<=_; omega,by simpa using hc.hl,fun _=>CQ hc.hl _,hc.xb,?_,⟨hc.ds.1,fun q=>by simp only at q; omega⟩,fun _=>hc.nw (by omega),fun q=>absurd rfl q,hc.bk,hc.b5,hc.pos,hc.tabs⟩,?_⟩ ey.1 ey.2 (fun _ _=>rfl)
    ·rw [if_neg (by simp)]; exact hlen
    ·refine .p8 (t-1) ids [] rfl b (fun x _ w p=>CY (by simp) w p x) w1 ?_ (by rw [List.append_nil]; exact w2) (by rw [List.append_nil]; exact w3) cT ?_ ?_ ?_ ?_
     ·show gR _ [] G.later
      rw [hc.later (by omega)]; exact .nil
     ·intro x hx
      have:=w4 x hx
      omega
     ·show ∀ x∈G.later,_
      rw [hc.later (by omega)]; simp
     ·show G.later.length<=_
      rw [hc.later (by omega)]; simp
     ·show _+gS G.pass+gS G.later<=_
      rw [hc.later (by omega)]
      simp only [gS,List.map_nil,List.sum_nil] at w5 ⊢
      omega
   ·rw [if_neg h3] at es
    have eL:=e.step jt h3
    have yg:=Ic L.hs L.xs e h3
    obtain ⟨W',rF⟩:∃ W',W'=(aW L.k.toNat L.xs L.hs G.W).2.2:=⟨_,rfl⟩
    obtain ⟨xs',K0⟩:∃ xs',xs'=(aW L.k.toNat L.xs L.hs G.W).1:=⟨_,rfl⟩
    obtain ⟨hs',K1⟩:∃ hs',hs'=(aW L.k.toNat L.xs L.hs G.W).2.1:=⟨_,rfl⟩
    have AK:(W'.at_<=1->W'.bF=0)/\W'.at_≠0:=by
     rw [rF]
     unfold aW
     have h4:=e.at_
     have:G.W.at_=0\/G.W.at_=1\/G.W.at_=2:=by omega
     rcases this with q | q | q
     ·rw [if_pos q]; exact ⟨fun _=>g (by omega),by simp⟩
     ·rw [if_neg (by omega),if_pos q]; exact ⟨fun q2=>by simp only at q2; omega,by simp⟩
     ·rw [if_neg (by omega),if_neg (by omega),if_pos q]
      simp only
      split
      ·exact ⟨fun q2=>by omega,by omega⟩
      ·exact ⟨fun q2=>by omega,by omega⟩
    rw [<-rF,<-K0,<-K1] at es ey eL
    rw [<-rF] at yg c5
    rw [<-K0] at c1 c2 c3
    rw [<-K1] at c4
    have px:1<=wl G.W:=by omega
    refine bT.of (m':=m-1) es (by omega) ⟨⟨hc.nn,hc.al,hc.wk,hc.err,fun _=>hc.el (by omega),hc.k,by show Cl.nth xs' 0+_<=_; omega,by show 0<hs'.length; rw [c4]; exact hc.hl,fun q=>absurd rfl q,hc.xb,?_,⟨hc.ds.1,fun q=>by simp only at q; omega⟩,fun _=>hc.nw (by omega),fun _=>hc.later (by omega),hc.bk,hc.b5,hc.pos,zB hc.tabs c2⟩,?_⟩ ey.1 ey.2 (fun _ _=>c1 _ (by omega))
    ·show xs'.length=_
     rw [if_neg (by simp),c2]; exact hlen
    ·exact .p7 t ids rfl b (fun w p e=>Iff.rfl) eL (by rw [c5]; exact f) AK.1 (fun q=>absurd q AK.2) w1 w2 w3 w4 (by simp only; omega)
 | p1 a _ _ _ _ _=>omega
 | p2 a _ _ _ _ _=>omega
 | p3 a _ _ _ _ _ _=>omega
 | p4 p q a _ _ _ _ _ _ _ _ _ _=>omega
 | p5 a _ _ _ _ _ _ _ _=>omega
 | p6 a _ _ _ _ _=>omega
 | p8 t ids ids' a _ _ _ _ _ _ _ _ _ _ _=>omega
theorem J.CZ (h:J n0 l Z old L G m c) (hZ:ZD l Z L) (h8:G.nx=8):bT n0 l Z old L G m c:=by
 obtain ⟨hc,hp⟩:=h
 cases hp with
 | p8 t ids ids' a b d w1 w1' w2 w3 aL w4 w4' bQ w5=>
   have hn:=gE hZ
   have hlen:=hc.xl
   rw [if_neg (by omega)] at hlen
   have kT:=hc.pd
   have cf:=hc.k
   have iB:=hc.wk
   have eu:=hZ.1.kB
   have bz:=hZ.1.xl
   obtain ⟨ps,cT⟩:∃ ps,ps=G.pass:=⟨_,rfl⟩
   rw [<-cT] at w1 w4 w5 aL
   cases w1 with
   | nil=>exact absurd rfl aL
   | @cons e0 es l0 ls0 hP hw=>
     obtain ⟨he,km,hL⟩:=hP
     generalize hr:Z.r e0=r at hL
     generalize hq:Z.rest e0=rest at hL
     cases hL with
     | nil=>exact absurd rfl km
     | @cons r0 dd t0 aa s ls' g1 g2 g3 g4=>
       have hz:=hZ.1.zip e0 he
       have hs:s=Z.s e0:=by
        cases dd with
        | nil=>exact absurd rfl g1
        | cons x y=>
          have h1:=hz.hd x (y++t0) (by rw [hq]; rfl)
          have h2:=g2 x (by simp)
          rw [h1] at h2
          revert h2
          cases s<;>cases Z.s e0<;>simp
       rw [hs] at g2 g3
       have ey:=QQ (old:=old) (old':=fun w p i=>i=e0\/old w p i) hZ b he hr hq g1 g2 g3 (fun w p=>d e0 (by simp) w p) (fun w p i=>Iff.rfl)
       have bS:=List.nodup_append.1 w2
       have yi:=List.nodup_cons.1 bS.1
       have mj:e0∉ids':=fun q=>bS.2.2 e0 (by simp) e0 q rfl
       obtain ⟨lat,mY⟩:∃ lat,lat=if 1<((aa.1,aC t0)::ls').length then G.later++[((aa.1,aC t0)::ls').drop 1] else G.later:=⟨_,rfl⟩
       have mZ:∀ (i:Nat) (y:List (Nat×Nat)),i≠e0->Pt Z i y->Pt (Z.linked e0 dd t0) i y:=fun i y hi h=>by
        refine ⟨h.1,h.2.1,?_⟩
        show k9 (sd Z.n) (cP Z.r e0 dd i) (cP Z.rest e0 t0 i) y
        rw [lu _ _ hi,lu _ _ hi]
        exact h.2.2
       have K2:∀ i,i≠e0->(Z.linked e0 dd t0).rest i=Z.rest i:=fun i hi=>lu _ _ hi
       have iA:(Z.linked e0 dd t0).rest e0=t0:=ny _ _ _
       have gf:gR (Pt (Z.linked e0 dd t0)) es ls0:=hw.mono fun i hi y h=>mZ i y (fun q=>yi.1 (q▸hi)) h
       have tm:gR (Pt (Z.linked e0 dd t0)) ids' G.later:=w1'.mono fun i hi y h=>mZ i y (fun q=>mj (q▸hi)) h
       obtain ⟨idn,i1,i2,i3,i4,i5⟩:∃ idn,gR (Pt (Z.linked e0 dd t0)) idn lat/\(es++idn).Nodup/\(∀ i,i<Z.n->i∉es++idn->(Z.linked e0 dd t0).rest i=[])/\(∀ y∈lat,y.length<=t)/\gS lat+1<=gS G.later+((aa.1,aC t0)::ls').length:=by
        by_cases h1:ls'=[]
        ·subst h1
         rw [if_neg (by simp)] at mY
         subst mY
         refine ⟨ids',tm,?_,fun i hi AL=>?_,w4',by simp⟩
         ·exact List.nodup_append.2 ⟨yi.2,bS.2.1,fun x hx y hy=>bS.2.2 x (List.mem_cons_of_mem _ hx) y hy⟩
         ·by_cases gh:i=e0
          ·rw [gh,iA]; exact g4.none
          ·rw [K2 i gh]
           refine w3 i hi fun q=>AL ?_
           simp only [List.cons_append,List.mem_cons] at q
           rcases q with q | q
           ·exact absurd q gh
           ·exact q
        ·rw [if_pos (by have:=List.length_pos_iff.2 h1; simp only [List.length_cons]; omega)] at mY
         subst mY
         refine ⟨ids'++[e0],tm.snoc ⟨he,h1,?_⟩,?_,fun i hi AL=>?_,fun y hy=>?_,?_⟩
         ·show k9 (sd Z.n) (cP Z.r e0 dd e0) (cP Z.rest e0 t0 e0) ls'
          rw [ny,ny]
          exact g4
         ·refine List.nodup_append.2 ⟨yi.2,List.nodup_append.2 ⟨bS.2.1,by simp,fun x hx y hy e=>?_⟩,fun x hx y hy e=>?_⟩
          ·have mU:y=e0:=by simpa using hy
           exact mj (by rw [<-mU,<-e]; exact hx)
          ·rcases List.mem_append.1 hy with q | q
           ·exact bS.2.2 x (List.mem_cons_of_mem _ hx) y q e
           ·have mU:y=e0:=by simpa using q
            exact yi.1 (by rw [<-mU,<-e]; exact hx)
         ·by_cases gh:i=e0
          ·exact absurd (by rw [gh]; simp) AL
          ·rw [K2 i gh]
           refine w3 i hi fun q=>AL ?_
           simp only [List.cons_append,List.mem_cons,List.mem_append] at q ⊢
           rcases q with q | q | q
           ·exact absurd q gh
           ·exact .inl q
           ·exact .inr (.inl q)
         ·rcases List.mem_append.1 hy with q | q
          ·exact w4' y q
          ·have mU:y=ls':=by simpa using q
           have:=w4 _ (List.mem_cons_self)
           simp only [List.length_cons] at this
           rw [mU]
           omega
         ·rw [H3]
          simp only [List.drop_succ_cons,List.drop_zero,List.length_cons]
          omega
       rw [QJ] at w5
       have bR:aE L G=({L with ss:=aS L.ss aa.1 (aC t0)},if ls0=[] then eo {G with pass:=lat,later:=[]} else {G with pass:=ls0,later:=lat}):=by
        unfold aE
        rw [if_neg (by omega),if_neg (by omega),if_neg (by omega),if_neg (by omega),if_neg (by omega),if_neg (by omega),if_neg (by omega),<-cT]
        simp only [<-mY]
        rfl
       by_cases hl:ls0=[]
       ·rw [if_pos hl] at bR
        subst hl
        cases hw
        have EG:im l (Z.linked e0 dd t0) {L with ss:=aS L.ss aa.1 (aC t0)} (fun w p i=>i=e0\/old w p i) (Z.linked e0 dd t0) {L with ss:=aS L.ss aa.1 (aC t0)} (gy ⟨G.worker,0,0,0⟩):=im.Ib ey.1 fun w p e _=>CV _ w p e
        refine bT.of (m':=m-1) (Z':=Z.linked e0 dd t0) (old':=gy ⟨G.worker,0,0,0⟩) bR (by omega) ⟨⟨hc.nn,hc.al,hc.wk,hc.err,fun _=>hc.el (by omega),hc.k,by show Cl.nth L.xs 0+_<=_; omega,hc.hl,fun q=>absurd rfl q,hc.xb,?_,⟨hc.ds.1,fun q=>by have q:7<=2:=q; omega⟩,fun _=>hc.nw (by omega),fun _=>rfl,hc.bk,hc.b5,hc.pos,hc.tabs⟩,?_⟩ ey.1 (im.trans (L':={L with ss:=aS L.ss aa.1 (aC t0)}) rfl ey.2 EG) (fun _ _=>rfl)
        ·exact hlen.trans (if_neg (show ¬(7<=2) by omega)).symm
        ·refine .p7 t idn rfl b (fun w p e=>Iff.rfl) ⟨by show L.k.toNat<=8; omega,by show 0<=3; omega,?_,hc.hl,?_,⟨by show 0<=1000; omega,fun _=>by show 0<L.k.toNat; omega⟩,fun q=>absurd rfl q⟩ iB.1 (fun _=>rfl) (fun _=>hc.aF (by omega)) i1 i2 i3 i4 ?_
         ·show 0<=G.worker/\G.worker<=_
          omega
         ·show L.k.toNat+2<=L.xs.length
          omega
         ·show wl ⟨G.worker,0,0,0⟩+12*t+gS lat<=_
          have:wl ⟨G.worker,0,0,0⟩=11:=by unfold wl; rw [if_pos rfl]
          rw [this]
          omega
       ·rw [if_neg hl] at bR
        refine bT.of (m':=m-1) (Z':=Z.linked e0 dd t0) (old':=fun w p i=>i=e0\/old w p i) bR (by omega) ⟨⟨hc.nn,hc.al,hc.wk,hc.err,fun _=>hc.el (by omega),hc.k,by show Cl.nth L.xs 0+_<=_; omega,hc.hl,fun _=>hc.aF (by omega),hc.xb,?_,⟨hc.ds.1,fun q=>by have q:G.nx<=2:=q; omega⟩,fun _=>hc.nw (by omega),fun q=>absurd h8 q,hc.bk,hc.b5,hc.pos,hc.tabs⟩,?_⟩ ey.1 ey.2 (fun _ _=>rfl)
        ·show L.xs.length=if G.nx<=2 then _ else _
         rw [if_neg (by omega)]; exact hlen
        ·refine .p8 t es idn h8 b (fun x hx w p q=>?_) gf i1 i2 i3 hl (fun y hy=>w4 y (List.mem_cons_of_mem _ hy)) i4 ?_ ?_
         ·rcases q with q | q
          ·exact yi.1 (q▸hx)
          ·exact d x (List.mem_cons_of_mem _ hx) w p q
         ·exact zC (Z:=Z.linked e0 dd t0) ey.1 i1 (List.nodup_append.1 i2).2.1
         ·show 12*(t+1)+gS ls0+gS lat<=m-1
          omega
 | p1 a _ _ _ _ _=>omega
 | p2 a _ _ _ _ _=>omega
 | p3 a _ _ _ _ _ _=>omega
 | p4 p q a _ _ _ _ _ _ _ _ _ _=>omega
 | p5 a _ _ _ _ _ _ _ _=>omega
 | p6 a _ _ _ _ _=>omega
 | p7 t ids a _ _ _ _ _ _ _ _ _ _ _=>omega
theorem J.oZ (h:J n0 l Z old L G m c) (hZ:ZD l Z L) (hr:lh L G=true) (hd:cp L G=false):bT n0 l Z old L G m c:=by
 have fC:=h.2.nx
 have h8:G.nx=1\/G.nx=2\/G.nx=3\/G.nx=4\/G.nx=5\/G.nx=6\/G.nx=7\/G.nx=8:=by omega
 rcases h8 with q | q | q | q | q | q | q | q
 ·exact h.CR hZ q
 ·exact h.go2 hZ q
 ·exact h.CS hZ q
 ·exact h.CT hZ q
 ·exact h.CU hZ q
 ·exact h.CW hZ q
 ·exact h.CX hZ q hr hd
 ·exact h.CZ hZ q
end
end Go.Proofs.YtpanebgakndddaaGreat.Gw
namespace Go.Proofs.YtpanebgakndddaaGreat.Sw
open Go Hm Ar Mm Wk Pc Me Mq Pu Pn Gt Qs Zp Mx
def JD (l:List Pr) (Z:Js) (L:Lm):Prop:=Z.Ok L l/\Z.few<=35
def pY (Z:Js) (L:Lm) (b:Nat):Prop:=∀ e,e<Z.n->Cl.nth L.xs (Z.B2+e)=if e<b then ((aC (Z.two e):Nat):Int) else 0
def oc (Z:Js) (b:Nat):Prop:=∀ e,e<Z.n->Z.jn e=decide (e<b)
structure Kc (n0:Nat) (Z:Js) (L:Lm) (G:Sh) (m c:Nat):Prop where
 nn:Z.n=n0
 wk:0<=G.worker/\G.worker<=1000
 err:G.err=0
 el:G.nx≠1->G.el=(2*Z.n,Z.B)
 k:1<=L.k/\L.k<=8
 pd:Cl.nth L.xs 0+m<=4611686018427387904
 hl:0<L.hs.length
 aF:G.nx≠9->Lo.aF L.hs 0= -1
 xb:Z.B2+Z.n<=1048576
 xl:L.xs.length=if G.nx<=2 then Z.B2 else Z.B2+Z.n
 ds:L.ds.length<=800001/\(G.nx<=2->L.ds.length<=800000)
 nw:G.nw=if G.nx<=2 then (0,0) else (Z.n,Z.B2)
 num:3<=G.nx->∃ t:Nat,G.num=t/\t<=900000/\aO L.ds t=(Z.n,Z.B2)
 bk:G.bucket<=Z.n
 b5:4<=Z.B2
 hb:G.fi<=18446744073709551615/\G.sec<=18446744073709551615
 pos:∀ b,b<2*Z.n->∀ a∈Z.C b,a.1≠0/\a.1<=18446744073709551615
 tabs:mA L.xs L.ds
 cap:Z.cap+c<=1000000
inductive Kp (Z:Js) (L:Lm) (G:Sh) (old:Nat->Int->Nat->Prop):Nat->Nat->Prop
 | p1 {m c:Nat}:G.nx=1->Z.bt=false->G.bucket=0->oc Z 0->2+Z.n*(Z.few+4)+12<=m->Z.n*Z.few<=c->Kp Z L G old m c
 | p2 {m c:Nat}:G.nx=2->Z.bt=false->G.bucket=0->oc Z 0->1+Z.n*(Z.few+4)+12<=m->Z.n*Z.few<=c->Kp Z L G old m c
 | p3 {m c:Nat}:G.nx=3->Z.bt=false->G.bucket<Z.n->oc Z G.bucket->pY Z L G.bucket->(Z.n-G.bucket)*(Z.few+4)+12<=m->(Z.n-G.bucket)*Z.few<=c->Kp Z L G old m c
 | p4 {m c:Nat}:G.nx=4->Z.bt=false->G.bucket<Z.n->oc Z G.bucket->pY Z L G.bucket->G.fi=aC (Z.C G.bucket)->(Z.few+3)+(Z.n-G.bucket-1)*(Z.few+4)+12<=m->Z.few+(Z.n-G.bucket-1)*Z.few<=c->Kp Z L G old m c
 | p5 {m c:Nat} (p q:List Mq.Hp):G.nx=5->Z.bt=false->G.bucket<Z.n->oc Z G.bucket->pY Z L G.bucket->G.fi=aC (Z.C G.bucket)->G.sec=aC (Z.C (G.bucket+Z.n))->Z.C (G.bucket+Z.n)≠[]->Z.C G.bucket=p++q->q≠[]->G.at_=aC q->G.met=(aM p).reverse->
    q.length+2+(Z.n-G.bucket-1)*(Z.few+4)+12<=m->Z.few+(Z.n-G.bucket-1)*Z.few<=c->Kp Z L G old m c
 | p6 {m c:Nat} (c0:List Mq.Hp) (a:Mq.Hp):G.nx=6->Z.bt=false->G.bucket<Z.n->oc Z G.bucket->pY Z L G.bucket->G.fi=aC (Z.C G.bucket)->G.sec=aC (Z.C (G.bucket+Z.n))->Z.C G.bucket=c0++[a]->G.la=a.1->
    2+(Z.n-G.bucket-1)*(Z.few+4)+12<=m->Z.few+(Z.n-G.bucket-1)*Z.few<=c->Kp Z L G old m c
 | p7 {m c:Nat}:G.nx=7->Z.bt=false->G.bucket<Z.n->oc Z (G.bucket+1)->pY Z L G.bucket->G.fi=aC (Z.two G.bucket)->1+(Z.n-G.bucket-1)*(Z.few+4)+12<=m->(Z.n-G.bucket-1)*Z.few<=c->Kp Z L G old m c
 | p8 {m c:Nat}:G.nx=8->Z.bt=false->oc Z Z.n->pY Z L Z.n->12<=m->Kp Z L G old m c
 | p9 {m c:Nat}:G.nx=9->Z.bt=true->(∀ w p e,old w p e↔gy G.W w p e)->Qs.eV L.k.toNat L.xs L.hs G.W->0<=G.W.worker->(G.W.at_<=1->G.W.bF=0)->(G.W.at_=0->Lo.aF L.hs 0= -1)->Gw.wl G.W<=m->Kp Z L G old m c
def J (n0:Nat) (Z:Js) (old:Nat->Int->Nat->Prop) (L:Lm) (G:Sh) (m c:Nat):Prop:=Kc n0 Z L G m c/\Kp Z L G old m c
def o8 (l:List Pr) (Z:Js) (L:Lm) (old:Nat->Int->Nat->Prop) (Z':Js) (L':Lm) (old':Nat->Int->Nat->Prop) (j:Nat):Prop:=
 ∀ (R:Rn) (k:Nat),(R.w:Int)<L.k->bZ Z.wy L l old R k->∃ k',k'<=k+j/\bZ Z'.wy L' l old' R k'
def bT (n0:Nat) (l:List Pr) (Z:Js) (old:Nat->Int->Nat->Prop) (L:Lm) (G:Sh) (m c:Nat):Prop:=
 ∃ Z' old' m' c' j,m'+1<=m/\c'+j<=c/\J n0 Z' old' (aH L G).1 (aH L G).2 m' c'/\JD l Z' (aH L G).1/\o8 l Z L old Z' (aH L G).1 old' j/\(∀ i:Nat,(i:Int)<L.k->Cl.nth (aH L G).1.xs (2+i)=Cl.nth L.xs (2+i))/\(aH L G).1.k=L.k/\Z'.few=Z.few/\Z'.C=Z.C/\Z'.cap+c'<=Z.cap+c/\Z'.B2=Z.B2
structure oV (n0:Nat) (Z:Js) (L:Lm) (G:Sh):Prop where
 nn:Z.n=n0
 bt:Z.bt=true
 err:G.err=0
 aF:Lo.aF L.hs 0= -1
 hl:0<L.hs.length
 xl:L.xs.length=Z.B2+Z.n
 xm:Z.B2+Z.n<=1048576
 tabs:mA L.xs L.ds
 pos:∀ b,b<2*Z.n->∀ a∈Z.C b,a.1≠0/\a.1<=18446744073709551615
section
variable {n0:Nat} {l:List Pr} {Z:Js} {L:Lm} {G:Sh} {m c:Nat} {old:Nat->Int->Nat->Prop}
theorem Kp.nx (h:Kp Z L G old m c):1<=G.nx/\G.nx<=9:=by
 cases h<;>omega
theorem Kp.pos (h:Kp Z L G old m c):1<=m:=by
 cases h with
 | p1 _ _ _ _ h _=>omega
 | p2 _ _ _ _ h _=>omega
 | p3 _ _ _ _ _ h _=>omega
 | p4 _ _ _ _ _ _ h _=>omega
 | p5 p q _ _ _ _ _ _ _ _ _ _ _ _ h _=>omega
 | p6 c0 a _ _ _ _ _ _ _ _ _ h _=>omega
 | p7 _ _ _ _ _ _ h _=>omega
 | p8 _ _ _ _ h=>omega
 | p9 _ _ _ hk _ _ _ h=>
   have h1:=hk.at_
   have h2:=hk.bF
   have h3:=hk.n1
   unfold Gw.wl at h
   split at h
   ·omega
   split at h
   ·omega
   split at h
   ·have:=h2.2 (by omega)
    omega
   ·omega
theorem gE (hZ:JD l Z L):1<=Z.n/\Z.n<=32768:=by
 have h1:=FM.eG hZ.1.pw
 have h2:=FM.eG hZ.1.jT
 omega
theorem uq (hZ:JD l Z L) {e:Nat} (he:e<2*Z.n) (hj:e<Z.n->Z.jn e=false):Cx L.ss (aC (Z.C e)) (Z.C e):=by
 have h:=hZ.1.chain e he
 unfold Js.cD at h
 rw [if_neg] at h
 ·exact h
 ·rintro ⟨h1,h2,_⟩
  rw [hj h1] at h2
  simp at h2
theorem zW (h:Kc n0 Z L G m c) {b:Nat} (hb:b<2*Z.n):aC (Z.C b)<=18446744073709551615:=by
 cases hq:Z.C b with
 | nil=>simp [aC]
 | cons a t=>exact (h.pos b hb a (by rw [hq]; simp)).2
theorem uJ (h:Kc n0 Z L G m c) {b:Nat} (hb:b<2*Z.n):aC (Z.C b)=0↔Z.C b=[]:=by
 cases hq:Z.C b with
 | nil=>simp [aC]
 | cons a t=>simp [aC,(h.pos b hb a (by rw [hq]; simp)).1]
theorem JO (hZ:JD l Z L) (h:Kc n0 Z L G m c) (hb:G.bucket<Z.n) (hj:Z.jn G.bucket=false) {p q:List Mq.Hp} {e:Mq.Hp} (hA:Z.C G.bucket=p++e::q) (cr:G.at_=e.1):
 ∃ k,bj L.ss G.at_ k/\(G.at_-1) % 65536=k/\(aj L.ss k).nd=dR e.2 (aC q)/\aC q∉G.at_::(aM p).reverse/\aC q<=18446744073709551615:=by
 have h1:=uq hZ (show G.bucket<2*Z.n by omega) (fun _=>hj)
 have h2:=hZ.1.nd G.bucket (by omega)
 have px:=h.pos G.bucket (by omega)
 have vk:Cx L.ss (aC (e::q)) (e::q):=by
  have:Cx L.ss (aC (Z.C G.bucket)) (p++e::q):=by rw [<-hA]; exact h1
  exact Cx.back p this
 obtain ⟨ex,ep⟩:=e
 obtain ⟨k,z,a1,a2,a3⟩:=vk.tail
 have hz:=Cx.hd a3
 subst hz
 simp only at cr
 rw [cr]
 refine ⟨k,a1,(nO hZ.1.len a1).1,a2,?_,?_⟩
 ·rw [hA] at h2
  have bS:(aM p++ex::aM q).Nodup:=by simpa [aM] using h2
  intro hm
  cases q with
  | nil=>
    rcases List.mem_cons.1 hm with e | hm
    ·exact a1.pos e.symm
    ·have hm:=List.mem_reverse.1 hm
     obtain ⟨y,hy,e⟩:=List.mem_map.1 hm
     exact (px y (by rw [hA]; simp [hy])).1 e
  | cons e' q'=>
    have h5:=List.nodup_append.1 bS
    have h6:=List.nodup_cons.1 h5.2.1
    rcases List.mem_cons.1 hm with e | hm
    ·exact h6.1 (by rw [<-e]; simp [aM,aC])
    ·have hm:=List.mem_reverse.1 hm
     exact h5.2.2 _ hm _ (by simp [aM,aC]) rfl
 ·cases q with
  | nil=>simp [aC]
  | cons e' q'=>exact (px e' (by rw [hA]; simp)).2
theorem J.ok (h:J n0 Z old L G m c) (hZ:JD l Z L):pK L G:=by
 obtain ⟨hc,hp⟩:=h
 have hn:=gE hZ
 have fC:=hp.nx
 have eu:=hZ.1.kB
 have ml:=hZ.1.bb
 have bz:=hZ.1.xl
 have hk:=hc.k
 have jx:=hc.xb
 have hlen:=hc.xl
 have bO:=hc.nw
 have jj:=hc.b5
 have sW:1<L.xs.length:=by rw [hlen]; split<;>omega
 have hw:G.nw.1<=65536/\G.nw.2<=4000000:=by
  rw [bO]
  split
  ·simp
  ·simp only; omega
 have lY:∀ (c3:G.nx=3->G.bucket<Z.n) (c4:G.nx=4->G.bucket<Z.n) (c5:G.nx=5->bj L.ss G.at_ ((G.at_-1) % 65536)/\G.at_<=18446744073709551615/\(0<=(aj L.ss ((G.at_-1) % 65536)).nd.next/\(aj L.ss ((G.at_-1) % 65536)).nd.next<=18446744073709551615)/\G.met.length<=100000)
  (c6:G.nx=6->G.la<=18446744073709551615/\∃ k,bj L.ss G.la k) (c7:G.nx=7->G.bucket<Z.n) (c9:G.nx=9->Qs.eV L.k.toNat L.xs L.hs G.W),pK L G:=fun c3 c4 c5 c6 c7 c9=>by
  refine ⟨fC,sW,hc.hl,by have:=hc.ds.1; omega,fun q=>by rw [hc.el q]; simp only; omega,hw,by have:=hc.bk; omega,hc.hb,fun q=>?_,fun q=>?_,c5,c6,fun q=>?_,fun q=>?_,fun q=>⟨by omega,c9 q⟩⟩
  ·have:=c3 q
   rw [hc.el (by omega),hlen,if_neg (by omega)]
   simp only
   omega
  ·have:=c4 q
   rw [hc.el (by omega),hlen,if_neg (by omega),bO,if_neg (by omega)]
   simp only
   omega
  ·have:=c7 q
   rw [hlen,if_neg (by omega),bO,if_neg (by omega)]
   simp only
   omega
  ·obtain ⟨t,e,ht,_⟩:=hc.num (by omega)
   rw [e]
   omega
 cases hp with
 | p1 a _ _ _ _ _=>exact lY (by omega) (by omega) (by omega) (by omega) (by omega) (by omega)
 | p2 a _ _ _ _ _=>exact lY (by omega) (by omega) (by omega) (by omega) (by omega) (by omega)
 | p3 a _ b _ _ _ _=>exact lY (fun _=>b) (by omega) (by omega) (by omega) (by omega) (by omega)
 | p4 a _ b _ _ _ _ _=>exact lY (by omega) (fun _=>b) (by omega) (by omega) (by omega) (by omega)
 | p5 p q a _ b jd _ _ _ _ hA hq cr Xt _ _=>
   refine lY (by omega) (by omega) (fun _=>?_) (by omega) (by omega) (by omega)
   cases q with
   | nil=>exact absurd rfl hq
   | cons e q'=>
     have rD:G.at_=e.1:=cr
     obtain ⟨k,a1,a2,a3,a4,a5⟩:=JO hZ hc b (by rw [jd _ b]; simp) hA rD
     have jq:=hZ.1.few.1 _ b
     have Ym:=hZ.2
     unfold Js.two at jq
     rw [hA] at jq
     simp only [List.length_append,List.length_cons] at jq
     have rE:(aj L.ss k).nd.next=((aC q':Nat):Int):=by rw [a3]; rfl
     refine ⟨by rw [a2]; exact a1,by rw [rD]; exact (hc.pos G.bucket (by omega) e (by rw [hA]; simp)).2,by rw [a2,rE]; omega,?_⟩
     rw [Xt]
     simp only [List.length_reverse,aM,List.length_map]
     omega
 | p6 c0 a e _ b jd _ _ _ hA tm _ _=>
   refine lY (by omega) (by omega) (by omega) (fun _=>?_) (by omega) (by omega)
   have h1:=uq hZ (show G.bucket<2*Z.n by omega) (fun _=>by rw [jd _ b]; simp)
   obtain ⟨k,_,hk,_⟩:=h1.at a (by rw [hA]; simp)
   rw [tm]
   exact ⟨(hc.pos G.bucket (by omega) a (by rw [hA]; simp)).2,k,hk⟩
 | p7 a _ b _ _ _ _ _=>exact lY (by omega) (by omega) (by omega) (by omega) (fun _=>b) (by omega)
 | p8 a _ _ _ _=>exact lY (by omega) (by omega) (by omega) (by omega) (by omega) (by omega)
 | p9 a _ _ eL _ _ _ _=>exact lY (by omega) (by omega) (by omega) (by omega) (by omega) (fun _=>eL)
theorem UK (h:eK L G=false):G.nx=9/\iI L.xs L.hs G.W=false:=by
 unfold eK at h
 split at h
 ·rename_i e; exact ⟨e,h⟩
 ·simp at h
theorem J.wait (h:J n0 Z old L G m c) (hr:eK L G=false):∃ i:Nat,(i:Int)<L.k/\Cl.nth L.xs (2+i)≠0:=by
 obtain ⟨hc,hp⟩:=h
 obtain ⟨h9,hr⟩:=UK hr
 have hk:=hc.k
 cases hp with
 | p9 a b d e f g i j=>
   unfold iI at hr
   split at hr
   ·rename_i h0
    unfold qX at hr
    have:=of_decide_eq_false hr
    exact absurd ⟨f,i h0⟩ this
   split at hr
   ·rename_i h2
    unfold pT at hr
    have hd:=of_decide_eq_false hr
    have qk:=e.bF.2 (by omega)
    exact ⟨G.W.bF,by omega,fun q=>hd (.inl q)⟩
   ·simp at hr
 | p1 a _ _ _ _ _=>omega
 | p2 a _ _ _ _ _=>omega
 | p3 a _ _ _ _ _ _=>omega
 | p4 a _ _ _ _ _ _ _=>omega
 | p5 p q a _ _ _ _ _ _ _ _ _ _ _ _ _=>omega
 | p6 c0 a e _ _ _ _ _ _ _ _ _ _=>omega
 | p7 a _ _ _ _ _ _ _=>omega
 | p8 a _ _ _ _=>omega
theorem J.fits (h:Kc n0 Z L G m c) (hZ:JD l Z L) (h2:G.nx=2):G.el.1 / 2=Z.n/\FM.bl ((G.el.1 / 2:Nat):Int)=true/\L.xs.length+G.el.1 / 2<=1048576:=by
 have hb:=h.xb
 have hl:=h.xl
 rw [if_pos (by omega)] at hl
 have e:G.el.1 / 2=Z.n:=by rw [h.el (by omega)]; simp only; omega
 rw [e]
 exact ⟨rfl,hZ.1.pw,by omega⟩
theorem JP (h9:G.nx=9):aH L G=({L with xs:=(aW L.k.toNat L.xs L.hs G.W).1,hs:=(aW L.k.toNat L.xs L.hs G.W).2.1},{G with W:=(aW L.k.toNat L.xs L.hs G.W).2.2}):=by
 unfold aH; rw [if_neg (by omega),if_neg (by omega),if_neg (by omega),if_neg (by omega),if_neg (by omega),if_neg (by omega),if_neg (by omega),if_neg (by omega)]
theorem J.cK (h:J n0 Z old L G m c) (hZ:JD l Z L) (hd:b7 L G=true):JD l Z (aH L G).1/\oV n0 Z (aH L G).1 (aH L G).2/\(∀ w p e,¬old w p e)/\(aH L G).1={L with hs:=L.hs.set 0 (-1)}/\Cl.nth L.xs 0+m<=4611686018427387904:=by
 obtain ⟨hc,hp⟩:=h
 have fC:=hp.nx
 unfold b7 at hd
 split at hd
 ·rename_i h2
  have:=(J.fits hc hZ h2).2
  rw [decide_eq_true this] at hd
  simp at hd
 split at hd
 ·rename_i h9
  have h3:=of_decide_eq_true hd
  rw [JP h9]
  have hw:aW L.k.toNat L.xs L.hs G.W=(L.xs,L.hs.set 0 (-1),{G.W with at_:=4}):=by
   unfold aW; rw [if_neg (by omega),if_neg (by omega),if_neg (by omega)]
  rw [hw]
  cases hp with
  | p9 a b d e f g i j=>
    have bz:=hc.xl
    rw [if_neg (by omega)] at bz
    exact ⟨⟨hZ.1.cells (fun _ _ _=>rfl) (fun _ _ _=>rfl) (Nat.le_refl _) hZ.1.xb rfl hZ.1.tb hZ.1.p1,hZ.2⟩,⟨hc.nn,b,hc.err,Gw.CQ hc.hl _,by simpa using hc.hl,bz,hc.xb,hc.tabs,hc.pos⟩,fun w p e q=>CY (W:=G.W) (by omega) w p e ((d w p e).1 q),rfl,hc.pd⟩
  | p1 a _ _ _ _ _=>omega
  | p2 a _ _ _ _ _=>omega
  | p3 a _ _ _ _ _ _=>omega
  | p4 a _ _ _ _ _ _ _=>omega
  | p5 p q a _ _ _ _ _ _ _ _ _ _ _ _ _=>omega
  | p6 c0 a e _ _ _ _ _ _ _ _ _ _=>omega
  | p7 a _ _ _ _ _ _ _=>omega
  | p8 a _ _ _ _=>omega
 ·have:=of_decide_eq_true hd
  omega
end
end Go.Proofs.YtpanebgakndddaaGreat.Sw
namespace Go.Proofs.YtpanebgakndddaaGreat.Sw
open Go Hm Ar Mm Wk Pc Me Mq Pu Pn Gt Qs Zp Mx
section
variable {n0:Nat} {l:List Pr} {Z Z':Js} {L L':Lm} {G G':Sh} {m m' c c':Nat} {old old':Nat->Int->Nat->Prop}
theorem bT.of {j:Nat} (e:aH L G=(L',G')) (hm:m'+1<=m) (E8:c'+j<=c) (hJ:J n0 Z' old' L' G' m' c') (hZ:JD l Z' L') (hB:o8 l Z L old Z' L' old' j) (h3:∀ i:Nat,(i:Int)<L.k->Cl.nth L'.xs (2+i)=Cl.nth L.xs (2+i)) (hk:L'.k=L.k) (hf:Z'.few=Z.few) (hC:Z'.C=Z.C:=by rfl) (Bm:Z'.cap+c'<=Z.cap+c:=by exact Nat.le_refl _) (au:Z'.B2=Z.B2:=by rfl):bT n0 l Z old L G m c:=by
 refine ⟨Z',old',m',c',j,hm,E8,?_⟩
 rw [e]
 exact ⟨hJ,hZ,hB,h3,hk,hf,hC,Bm,au⟩
theorem o8.refl (l:List Pr) (Z:Js) (L:Lm) (old:Nat->Int->Nat->Prop):o8 l Z L old Z L old 0:=fun _ k _ h=>⟨k,Nat.le_refl _,h⟩
theorem Kc.to (h:Kc n0 Z L G m c) (hz:Z'.n=Z.n/\Z'.B=Z.B/\Z'.B2=Z.B2/\Z'.C=Z.C) (h1:G'.worker=G.worker/\G'.err=G.err/\G'.el=G.el/\G'.nw=G.nw/\G'.num=G.num) (hb:G'.bucket<=Z.n) (h3:3<=G.nx/\G.nx<=8) (qh:3<=G'.nx)
 (hh:G'.fi<=18446744073709551615/\G'.sec<=18446744073709551615) (hL:L'.k=L.k/\L'.hs=L.hs/\L'.ds=L.ds/\L'.xs.length=L.xs.length/\Cl.nth L'.xs 0=Cl.nth L.xs 0) (hm:m'<=m) (jc:Z'.cap+c'<=1000000):Kc n0 Z' L' G' m' c':=by
 obtain ⟨z1,z2,z3,z4⟩:=hz
 obtain ⟨e1,e2,e3,e4,e5⟩:=h1
 obtain ⟨l1,l2,l3,l4,l5⟩:=hL
 have kT:=h.pd
 have bz:=h.xl
 have bO:=h.nw
 rw [if_neg (by omega)] at bz bO
 exact ⟨by rw [z1]; exact h.nn,by rw [e1]; exact h.wk,by rw [e2]; exact h.err,fun _=>by rw [e3,z1,z2]; exact h.el (by omega),by rw [l1]; exact h.k,by rw [l5]; omega,by rw [l2]; exact h.hl,fun _=>by rw [l2]; exact h.aF (by omega),by rw [z1,z3]; exact h.xb,by rw [if_neg (by omega),l4,z1,z3]; exact bz,⟨by rw [l3]; exact h.ds.1,fun q=>by omega⟩,
  by rw [if_neg (by omega),e4,z1,z3]; exact bO,fun _=>by rw [e5,l3,z1,z3]; exact h.num (by omega),by rw [z1]; exact hb,by rw [z3]; exact h.b5,hh,by rw [z1,z4]; exact h.pos,by rw [l3]; exact Gw.zB h.tabs l4,jc⟩
theorem JQ {b:Nat} (hp:Z.bt=false) (hj:oc Z (b+1)) (hc:pY Z L (b+1)) (hb:b<Z.n) (e1:G.bucket=b+1) (e2:G.nx=if b+1=Z.n then 8 else 3) (hm:(Z.n-b-1)*(Z.few+4)+12<=m) (fJ:(Z.n-b-1)*Z.few<=c):Kp Z L G old m c:=by
 by_cases hq:b+1=Z.n
 ·rw [if_pos hq] at e2
  exact .p8 e2 hp (by rw [<-hq]; exact hj) (by rw [<-hq]; exact hc) (by omega)
 ·rw [if_neg hq] at e2
  exact .p3 e2 hp (by omega) (by rw [e1]; exact hj) (by rw [e1]; exact hc) (by rw [e1,show Z.n-(b+1)=Z.n-b-1 by omega]; exact hm) (by rw [e1,show Z.n-(b+1)=Z.n-b-1 by omega]; exact fJ)
theorem J.CR (h:J n0 Z old L G m c) (hZ:JD l Z L) (h1:G.nx=1):bT n0 l Z old L G m c:=by
 obtain ⟨hc,hp⟩:=h
 cases hp with
 | p1 a b d e f g=>
   have bV:=hZ.1.now
   rw [b,if_neg (by simp)] at bV
   have es:aH L G=(L,{G with el:=now L.xs L.ds,nx:=2}):=by unfold aH; rw [if_pos h1]
   rw [bV] at es
   have bz:=hc.xl
   have bO:=hc.nw
   rw [if_pos (by omega)] at bz bO
   refine bT.of (m':=m-1) (c':=c) (j:=0) es (by omega) (by omega) ⟨⟨hc.nn,hc.wk,hc.err,fun _=>rfl,hc.k,?_,hc.hl,fun _=>hc.aF (by omega),hc.xb,by rw [if_pos (by simp)]; exact bz,⟨hc.ds.1,fun _=>hc.ds.2 (by omega)⟩,by rw [if_pos (by simp)]; exact bO,fun q=>by simp only at q; omega,hc.bk,hc.b5,hc.hb,hc.pos,hc.tabs,hc.cap⟩,.p2 rfl b d e (by omega) g⟩ hZ (o8.refl _ _ _ _) (fun _ _=>rfl) rfl rfl
   have:=hc.pd
   omega
 | p2 a _ _ _ _ _=>omega
 | p3 a _ _ _ _ _ _=>omega
 | p4 a _ _ _ _ _ _ _=>omega
 | p5 p q a _ _ _ _ _ _ _ _ _ _ _ _ _=>omega
 | p6 c0 a e _ _ _ _ _ _ _ _ _ _=>omega
 | p7 a _ _ _ _ _ _ _=>omega
 | p8 a _ _ _ _=>omega
 | p9 a _ _ _ _ _ _ _=>omega
theorem J.go2 (h:J n0 Z old L G m c) (hZ:JD l Z L) (h2:G.nx=2):bT n0 l Z old L G m c:=by
 obtain ⟨hc,hp⟩:=h
 obtain ⟨gY,cI,gi⟩:=J.fits hc hZ h2
 have hn:=gE hZ
 cases hp with
 | p2 a b d e f g=>
   have hlen:=hc.xl
   rw [if_pos (by omega)] at hlen
   have eu:=hZ.1.kB
   have bz:=hZ.1.xl
   rw [gY] at cI gi
   have es:aH L G=({L with xs:=L.xs++List.replicate Z.n 0,ds:=L.ds++[(Z.n,Z.B2)]},{G with num:=L.ds.length,err:=0,nw:=(Z.n,Z.B2),nx:=3}):=by
    unfold aH
    rw [if_neg (by omega),if_pos h2,gY,if_pos ⟨cI,gi⟩,hlen]
   have tI:JD l Z {L with xs:=L.xs++List.replicate Z.n 0,ds:=L.ds++[(Z.n,Z.B2)]}:=by
    refine ⟨hZ.1.cells (fun i _ _=>Gw.kH i) (fun q=>by rw [b] at q; simp at q) (by simp) (fun x hx=>?_) ?_ (fun i=>?_) (by rw [Gw.kH]; exact hZ.1.p1),hZ.2⟩
    ·rcases List.mem_append.1 hx with q | q
     ·exact hZ.1.xb x q
     ·have:=(List.mem_replicate.1 q).2
      omega
    ·have bV:=hZ.1.now
     rw [b,if_neg (by simp)] at bV
     unfold Me.now at bV ⊢
     rw [Gw.kH,Gw.qW,if_neg]
     intro q
     rw [q,sq (Nat.le_refl _)] at bV
     injection bV with q1 _
     omega
    ·rw [Gw.qW]
     split
     ·have:=hc.xb; simp only; omega
     ·exact hZ.1.tb i
   refine bT.of (m':=m-1) (c':=c) (j:=0) es (by omega) (by omega) ⟨⟨hc.nn,hc.wk,rfl,fun _=>hc.el (by omega),hc.k,by show Cl.nth (L.xs++_) 0+_<=_; rw [Gw.kH]; have:=hc.pd; omega,hc.hl,fun _=>hc.aF (by omega),hc.xb,by rw [if_neg (by simp)]; simp [hlen],?_,by rw [if_neg (by simp)],fun _=>⟨L.ds.length,rfl,by have:=hc.ds.1; omega,by show aO (L.ds++_) _=_; rw [Gw.qW,if_pos rfl]⟩,hc.bk,hc.b5,hc.hb,hc.pos,?_,hc.cap⟩,?_⟩ tI (fun R k hw hR=>⟨k,Nat.le_refl _,hR.iW (Gw.kH _) (by show _<=Cl.nth (L.xs++_) 0; rw [Gw.kH]; exact Int.le_refl _) rfl⟩) (fun i _=>Gw.kH _) rfl rfl
   ·have:=hc.ds.2 (by omega)
    exact ⟨by simp only [List.length_append,List.length_singleton]; omega,fun q=>by simp only at q; omega⟩
   ·intro i hi
    show 1<=(aO (L.ds++_) i).1/\(aO (L.ds++_) i).1<=65536/\(aO (L.ds++_) i).2+(aO (L.ds++_) i).1<=(L.xs++List.replicate Z.n 0).length
    rw [Gw.qW]
    split
    ·simp only [List.length_append,List.length_replicate]
     omega
    ·have yd:i<(L.ds++[(Z.n,Z.B2)]).length:=hi
     simp only [List.length_append,List.length_singleton] at yd
     have:=hc.tabs i (by omega)
     simp only [List.length_append,List.length_replicate]
     omega
   ·have bW:({G with num:=L.ds.length,err:=0,nw:=(Z.n,Z.B2),nx:=3}:Sh).bucket=0:=d
    refine .p3 rfl b (by rw [bW]; omega) (by rw [bW]; exact e) (fun k hk=>?_) ?_ ?_
    ·show Cl.nth (L.xs++_) _=_
     rw [Gw.kH,Gw.H2 (by omega),bW,if_neg (by omega)]
    ·rw [bW,Nat.sub_zero]; omega
    ·rw [bW,Nat.sub_zero]; exact g
 | p1 a _ _ _ _ _=>omega
 | p3 a _ _ _ _ _ _=>omega
 | p4 a _ _ _ _ _ _ _=>omega
 | p5 p q a _ _ _ _ _ _ _ _ _ _ _ _ _=>omega
 | p6 c0 a e _ _ _ _ _ _ _ _ _ _=>omega
 | p7 a _ _ _ _ _ _ _=>omega
 | p8 a _ _ _ _=>omega
 | p9 a _ _ _ _ _ _ _=>omega
theorem UL {n b k:Nat} (h:b<n):(n-b)*k=k+(n-b-1)*k:=by
 obtain ⟨t,ht⟩:∃ t,n-b=t+1:=⟨n-b-1,by omega⟩
 rw [ht,Nat.add_sub_cancel,Nat.add_mul,Nat.one_mul,Nat.add_comm]
theorem J.CS (h:J n0 Z old L G m c) (hZ:JD l Z L) (h3:G.nx=3):bT n0 l Z old L G m c:=by
 obtain ⟨hc,hp⟩:=h
 have hn:=gE hZ
 cases hp with
 | p3 a b d e f g i=>
   have eR:=hc.el (by omega)
   have kS:(Cl.nth L.xs (Z.B+G.bucket)).toNat=aC (Z.C G.bucket):=by rw [hZ.1.elder _ (by omega),Int.toNat_natCast]
   have es:aH L G=(L,{G with fi:=aC (Z.C G.bucket),nx:=4}):=by
    unfold aH
    rw [if_neg (by omega),if_neg (by omega),if_pos h3,eR,kS]
   rw [UL d] at g i
   exact bT.of (m':=m-1) (c':=c) (j:=0) es (by omega) (by omega) ⟨hc.to ⟨rfl,rfl,rfl,rfl⟩ ⟨rfl,rfl,rfl,rfl,rfl⟩ hc.bk (by omega) (by simp) ⟨zW hc (by omega),hc.hb.2⟩ ⟨rfl,rfl,rfl,rfl,rfl⟩ (by omega) hc.cap,.p4 rfl b d e f rfl (by simp only; omega) (by simp only; omega)⟩ hZ (o8.refl _ _ _ _) (fun _ _=>rfl) rfl rfl
 | p1 a _ _ _ _ _=>omega
 | p2 a _ _ _ _ _=>omega
 | p4 a _ _ _ _ _ _ _=>omega
 | p5 p q a _ _ _ _ _ _ _ _ _ _ _ _ _=>omega
 | p6 c0 a e _ _ _ _ _ _ _ _ _ _=>omega
 | p7 a _ _ _ _ _ _ _=>omega
 | p8 a _ _ _ _=>omega
 | p9 a _ _ _ _ _ _ _=>omega
theorem JR (hJ:Z.Ok L l) (hp:Z.bt=false) {e:Nat} (hc:Z.C e=[]\/Z.C (e+Z.n)=[]):Js.Ok {Z with jn:=cP Z.jn e true} L l/\∀ b,Js.cD {Z with jn:=cP Z.jn e true} b=if b=e then (if b<Z.n then Z.C b else Z.cD b) else Z.cD b:=by
 have hw:∀ b,Js.cD {Z with jn:=cP Z.jn e true} b=if b=e then (if b<Z.n then Z.C b else Z.cD b) else Z.cD b:=fun b=>by
  by_cases h:b=e
  ·subst h
   rw [if_pos rfl]
   unfold Js.cD Js.two
   simp only [ny]
   by_cases hb:b<Z.n
   ·rw [if_pos hb]
    rcases hc with q | q
    ·rw [q,if_neg (by simp)]
    ·rw [q,List.append_nil]
     split<;>rfl
   ·rw [if_neg hb,if_neg (by omega),if_neg (by omega)]
  ·rw [if_neg h]
   unfold Js.cD Js.two
   simp only [lu _ _ h]
 refine ⟨{hJ with chain:=fun b hb=>?ch,all:=fun q=>?al},hw⟩
 case ch=>
  rw [hw]
  have hb:b<2*Z.n:=hb
  have dE:=hJ.chain b hb
  split
  ·rename_i q
   subst q
   split
   ·rename_i tx
    have:Z.cD b=Z.C b:=by
     unfold Js.cD Js.two
     rcases hc with q | q
     ·rw [q]; simp
     ·rw [q,List.append_nil]
      split<;>rfl
    rw [this] at dE
    exact dE
   ·exact dE
  ·exact dE
 case al=>
  have q:Z.bt=true:=q
  rw [hp] at q; simp at q
theorem UM (hJ:Z.Ok L l) (hp:Z.bt=false) {e:Nat} (hc:Z.C e=[]\/Z.C (e+Z.n)=[]) (b:Nat):Js.cD {Z with jn:=cP Z.jn e true} b=Z.cD b:=by
 rw [(JR hJ hp hc).2]
 split
 ·rename_i q
  subst q
  split
  ·rename_i tx
   unfold Js.cD Js.two
   rcases hc with q | q
   ·rw [q]; simp
   ·rw [q,List.append_nil]
    split<;>rfl
  ·rfl
 ·rfl
theorem UN (hJ:Z.Ok L l) (hp:Z.bt=false) {e:Nat} (hc:Z.C e=[]\/Z.C (e+Z.n)=[]) {R:Rn} {k:Nat} (h:bZ Z.wy L l old R k):bZ (Js.wy {Z with jn:=cP Z.jn e true}) L l old R k:=
 h.to rfl (Int.le_refl _) rfl rfl (Nat.le_refl _) (fun _ _ _ q=>q) (fun key q _ hq=>by
  rcases hq with hq | ⟨hq,_⟩
  ·refine .inl ?_
   show q<:+Js.cD {Z with jn:=cP Z.jn e true} (ai key (2*Z.n))
   rw [UM hJ hp hc]
   exact hq
  ·rw [hp] at hq; simp at hq)
theorem zX {Z:Js} {b:Nat} (h:oc Z b):∀ e,e<Z.n->cP Z.jn b true e=decide (e<b+1):=fun e he=>by
 by_cases q:e=b
 ·subst q; rw [ny]; simp
 ·rw [lu _ _ q,h e he]
  by_cases q2:e<b
  ·simp [q2]; omega
  ·simp [q2]; omega
theorem J.UO (hc:Kc n0 Z L G m c) (hZ:JD l Z L) (hp:Z.bt=false) (h4:G.nx=4) (hb:G.bucket<Z.n) (hj:oc Z G.bucket) (tz:pY Z L G.bucket) (kS:G.fi=aC (Z.C G.bucket)) (hm:(Z.few+3)+(Z.n-G.bucket-1)*(Z.few+4)+12<=m) (fJ:Z.few+(Z.n-G.bucket-1)*Z.few<=c)
 (he:Z.C G.bucket=[]\/Z.C (G.bucket+Z.n)=[]) (es:aH L G=(L,bI {G with sec:=aC (Z.C (G.bucket+Z.n))})):bT n0 l Z old L G m c:=by
 have hn:=gE hZ
 have hs:=JR hZ.1 hp he
 have ke:=zW hc (show G.bucket+Z.n<2*Z.n by omega)
 have LC:=zW hc (show G.bucket<2*Z.n by omega)
 have jc:=hc.cap
 have bO:=hc.nw
 rw [if_neg (by omega)] at bO
 have Fm:aC (Z.two G.bucket)=if aC (Z.C G.bucket)=0 then aC (Z.C (G.bucket+Z.n)) else aC (Z.C G.bucket):=by
  unfold Js.two
  rw [Gw.Cu]
  by_cases q:Z.C G.bucket=[]
  ·rw [if_pos q,if_pos ((uJ hc (by omega)).2 q)]
  ·rw [if_neg q,if_neg (fun a=>q ((uJ hc (by omega)).1 a))]
 have hB:o8 l Z L old {Z with jn:=cP Z.jn G.bucket true} L old 0:=fun R k hw hR=>⟨k,Nat.le_refl _,UN hZ.1 hp he hR⟩
 have LD:pY {Z with jn:=cP Z.jn G.bucket true} L G.bucket:=tz
 by_cases h0:aC (Z.C G.bucket)=0
 ·by_cases h1:aC (Z.C (G.bucket+Z.n))=0
  ·have e1:bI {G with sec:=aC (Z.C (G.bucket+Z.n))}=fQ {G with sec:=0,fi:=0}:=by
    unfold bI fQ
    simp only [kS,h0,h1,if_true]
   rw [e1] at es
   refine bT.of (m':=m-1) (c':=c) (j:=0) es (by omega) (by omega) ⟨hc.to (Z':={Z with jn:=cP Z.jn G.bucket true}) ⟨rfl,rfl,rfl,rfl⟩ ⟨rfl,rfl,rfl,rfl,rfl⟩ (by unfold fQ; simp only; omega) (by omega) (by unfold fQ; simp only; split<;>omega) (by unfold fQ; simp) ⟨rfl,rfl,rfl,rfl,rfl⟩ (by omega) jc,?_⟩ ⟨hs.1,hZ.2⟩ hB (fun _ _=>rfl) rfl rfl
   refine JQ (Z:={Z with jn:=cP Z.jn G.bucket true}) (b:=G.bucket) hp (zX hj) (fun x hx=>?_) hb rfl (by unfold fQ; simp only [bO]) (by simp only; omega) (by simp only; omega)
   rw [tz x hx]
   by_cases q:x=G.bucket
   ·subst q
    rw [if_neg (by omega),if_pos (by omega)]
    show 0=((aC (Z.two G.bucket):Nat):Int)
    rw [Fm,if_pos h0,h1]
    rfl
   ·by_cases q2:x<G.bucket
    ·rw [if_pos q2,if_pos (by omega)]; rfl
    ·rw [if_neg q2,if_neg (by omega)]
  ·have e1:bI {G with sec:=aC (Z.C (G.bucket+Z.n))}={G with sec:=aC (Z.C (G.bucket+Z.n)),fi:=aC (Z.C (G.bucket+Z.n)),nx:=7}:=by
    unfold bI
    simp only [kS,h0,if_true]
    rw [if_neg h1]
   rw [e1] at es
   refine bT.of (m':=m-1) (c':=c) (j:=0) es (by omega) (by omega) ⟨hc.to (Z':={Z with jn:=cP Z.jn G.bucket true}) ⟨rfl,rfl,rfl,rfl⟩ ⟨rfl,rfl,rfl,rfl,rfl⟩ hc.bk (by omega) (by simp) ⟨ke,ke⟩ ⟨rfl,rfl,rfl,rfl,rfl⟩ (by omega) jc,.p7 rfl hp hb (zX hj) LD ?_ (by simp only; omega) (by simp only; omega)⟩ ⟨hs.1,hZ.2⟩ hB (fun _ _=>rfl) rfl rfl
   show _=aC (Z.two G.bucket)
   rw [Fm,if_pos h0]
 ·have e1:bI {G with sec:=aC (Z.C (G.bucket+Z.n))}={G with sec:=aC (Z.C (G.bucket+Z.n)),nx:=7}:=by
   unfold bI
   simp only [kS]
   rw [if_neg h0]
  rw [e1] at es
  refine bT.of (m':=m-1) (c':=c) (j:=0) es (by omega) (by omega) ⟨hc.to (Z':={Z with jn:=cP Z.jn G.bucket true}) ⟨rfl,rfl,rfl,rfl⟩ ⟨rfl,rfl,rfl,rfl,rfl⟩ hc.bk (by omega) (by simp) ⟨hc.hb.1,ke⟩ ⟨rfl,rfl,rfl,rfl,rfl⟩ (by omega) jc,.p7 rfl hp hb (zX hj) LD ?_ (by simp only; omega) (by simp only; omega)⟩ ⟨hs.1,hZ.2⟩ hB (fun _ _=>rfl) rfl rfl
  show G.fi=aC (Z.two G.bucket)
  rw [Fm,if_neg h0,kS]
theorem J.CT (h:J n0 Z old L G m c) (hZ:JD l Z L) (h4:G.nx=4):bT n0 l Z old L G m c:=by
 obtain ⟨hc,hp⟩:=h
 have hn:=gE hZ
 cases hp with
 | p4 a b d e f g i j=>
   have eR:=hc.el (by omega)
   have bO:=hc.nw
   rw [if_neg (by omega)] at bO
   have Xu:(Cl.nth L.xs (Z.B+(G.bucket+Z.n))).toNat=aC (Z.C (G.bucket+Z.n)):=by rw [hZ.1.elder _ (by omega),Int.toNat_natCast]
   have es:aH L G=(L,begun {G with sec:=aC (Z.C (G.bucket+Z.n))}):=by
    unfold aH
    rw [if_neg (by omega),if_neg (by omega),if_neg (by omega),if_pos h4,eR,bO,Xu]
   by_cases hq:Z.C G.bucket=[]\/Z.C (G.bucket+Z.n)=[]
   ·refine J.UO hc hZ b h4 d e f g i j hq ?_
    rw [es]
    unfold begun
    rw [if_pos]
    rcases hq with q | q
    ·refine .inl ?_
     show G.fi=0
     rw [g]
     exact (uJ hc (by omega)).2 q
    ·exact .inr ((uJ hc (by omega)).2 q)
   ·have E7:Z.C G.bucket≠[]:=fun x=>hq (.inl x)
    have kN:Z.C (G.bucket+Z.n)≠[]:=fun x=>hq (.inr x)
    have Bn:G.fi≠0:=fun x=>E7 ((uJ hc (by omega)).1 (g▸x))
    have xR:aC (Z.C (G.bucket+Z.n))≠0:=fun x=>kN ((uJ hc (by omega)).1 x)
    have e1:begun {G with sec:=aC (Z.C (G.bucket+Z.n))}={G with sec:=aC (Z.C (G.bucket+Z.n)),la:=0,met:=[],at_:=G.fi,nx:=5}:=by
     unfold begun dm
     simp only
     rw [if_neg (by rintro (x | x); exact Bn x; exact xR x),if_neg (by rintro (x | x); exact Bn x; simp at x)]
    rw [e1] at es
    have hlen:(Z.C G.bucket).length<=Z.few:=by
     have:=hZ.1.few.1 _ d
     unfold Js.two at this
     rw [List.length_append] at this
     omega
    have D3:1<=(Z.C (G.bucket+Z.n)).length:=List.length_pos_iff.2 kN
    exact bT.of (m':=m-1) (c':=c) (j:=0) es (by omega) (by omega) ⟨hc.to ⟨rfl,rfl,rfl,rfl⟩ ⟨rfl,rfl,rfl,rfl,rfl⟩ hc.bk (by omega) (by simp) ⟨hc.hb.1,zW hc (by omega)⟩ ⟨rfl,rfl,rfl,rfl,rfl⟩ (by omega) hc.cap,.p5 [] (Z.C G.bucket) rfl b d e f g rfl kN rfl E7 g rfl (by simp only; omega) (by simp only; omega)⟩ hZ (o8.refl _ _ _ _) (fun _ _=>rfl) rfl rfl
 | p1 a _ _ _ _ _=>omega
 | p2 a _ _ _ _ _=>omega
 | p3 a _ _ _ _ _ _=>omega
 | p5 p q a _ _ _ _ _ _ _ _ _ _ _ _ _=>omega
 | p6 c0 a e _ _ _ _ _ _ _ _ _ _=>omega
 | p7 a _ _ _ _ _ _ _=>omega
 | p8 a _ _ _ _=>omega
 | p9 a _ _ _ _ _ _ _=>omega
theorem J.CU (h:J n0 Z old L G m c) (hZ:JD l Z L) (h5:G.nx=5):bT n0 l Z old L G m c:=by
 obtain ⟨hc,hp⟩:=h
 have hn:=gE hZ
 cases hp with
 | p5 p q a b d e f g i j k r s t u v=>
   cases q with
   | nil=>exact absurd rfl r
   | cons x q'=>
     have s':G.at_=x.1:=s
     obtain ⟨kk,a1,a2,a3,a4,a5⟩:=JO hZ hc d (by rw [e _ d]; simp) k s'
     have rE:(aj L.ss ((G.at_-1) % 65536)).nd.next.toNat=aC q':=by rw [a2,a3]; show ((aC q':Nat):Int).toNat=_; rw [Int.toNat_natCast]
     have es:aH L G=(L,dm {G with la:=G.at_,met:=G.at_::G.met} (aC q')):=by
      unfold aH
      rw [if_neg (by omega),if_neg (by omega),if_neg (by omega),if_neg (by omega),if_pos h5,rE]
     have px:=hc.pos G.bucket (by omega)
     have Xv:G.at_≠0:=by rw [s']; exact (px x (by rw [k]; simp)).1
     cases q' with
     | nil=>
       have yI:G.sec∉G.at_::G.met:=fun hm=>by
        have jm:G.sec∈aM (Z.C G.bucket):=by
         rw [k]
         rw [t,s'] at hm
         rcases List.mem_cons.1 hm with q | q
         ·rw [q]; simp [aM]
         ·have:=List.mem_reverse.1 q
          simp only [aM,List.map_append,List.mem_append]
          exact .inl this
        have Xw:G.sec∈aM (Z.C (G.bucket+Z.n)):=by
         rw [i]
         cases hq:Z.C (G.bucket+Z.n) with
         | nil=>exact absurd hq j
         | cons y ys=>simp [aM,aC]
        exact hZ.1.dj G.bucket (G.bucket+Z.n) (by omega) (by omega) (by omega) _ jm Xw
       have e1:dm {G with la:=G.at_,met:=G.at_::G.met} (aC [])={G with la:=G.at_,met:=G.at_::G.met,nx:=6}:=by
        unfold dm ly
        rw [if_pos (.inl rfl)]
        simp only
        rw [if_neg Xv,if_neg yI]
       rw [e1] at es
       exact bT.of (m':=m-1) (c':=c) (j:=0) es (by omega) (by omega) ⟨hc.to ⟨rfl,rfl,rfl,rfl⟩ ⟨rfl,rfl,rfl,rfl,rfl⟩ hc.bk (by omega) (by simp) hc.hb ⟨rfl,rfl,rfl,rfl,rfl⟩ (by omega) hc.cap,.p6 p x rfl b d e f g i k s' (by simp only; simp at u; omega) v⟩ hZ (o8.refl _ _ _ _) (fun _ _=>rfl) rfl rfl
     | cons y q2=>
       have Ai:y.1≠0:=(px y (by rw [k]; simp)).1
       have Xx:aC (y::q2)∉G.at_::G.met:=by rw [t]; exact a4
       have e1:dm {G with la:=G.at_,met:=G.at_::G.met} (aC (y::q2))={G with la:=G.at_,met:=G.at_::G.met,at_:=aC (y::q2),nx:=5}:=by
        unfold dm
        rw [if_neg]
        rintro (q | q)
        ·exact Ai q
        ·exact Xx q
       rw [e1] at es
       exact bT.of (m':=m-1) (c':=c) (j:=0) es (by omega) (by omega) ⟨hc.to ⟨rfl,rfl,rfl,rfl⟩ ⟨rfl,rfl,rfl,rfl,rfl⟩ hc.bk (by omega) (by simp) hc.hb ⟨rfl,rfl,rfl,rfl,rfl⟩ (by omega) hc.cap,.p5 (p++[x]) (y::q2) rfl b d e f g i j (by rw [k]; simp) (by simp) rfl (by show G.at_::G.met=_; rw [t,s']; simp [aM]) (by simp only [List.length_cons] at u ⊢; omega) v⟩ hZ (o8.refl _ _ _ _) (fun _ _=>rfl) rfl rfl
 | p1 a _ _ _ _ _=>omega
 | p2 a _ _ _ _ _=>omega
 | p3 a _ _ _ _ _ _=>omega
 | p4 a _ _ _ _ _ _ _=>omega
 | p6 c0 a e _ _ _ _ _ _ _ _ _ _=>omega
 | p7 a _ _ _ _ _ _ _=>omega
 | p8 a _ _ _ _=>omega
 | p9 a _ _ _ _ _ _ _=>omega
end
end Go.Proofs.YtpanebgakndddaaGreat.Sw
namespace Go.Proofs.YtpanebgakndddaaGreat.Sw
open Go Hm Ar Mm Wk Pc Me Mq Pu Pn Gt Qs Zp Mx
section
variable {n0:Nat} {l:List Pr} {Z Z':Js} {L L':Lm} {G G':Sh} {m m' c c':Nat} {old old':Nat->Int->Nat->Prop}
theorem J.CW (h:J n0 Z old L G m c) (hZ:JD l Z L) (h6:G.nx=6):bT n0 l Z old L G m c:=by
 obtain ⟨hc,hp⟩:=h
 have hn:=gE hZ
 cases hp with
 | p6 c0 a b d e f g i j k r s t=>
   have D3:(Z.C (G.bucket+Z.n)).length<=Z.few:=by
    have:=hZ.1.few.1 _ e
    unfold Js.two at this
    rw [List.length_append] at this
    omega
   have jc:=hc.cap
   have Bn:G.fi≠0:=by
    rw [i,k]
    have:=(hc.pos G.bucket (by omega))
    rw [k] at this
    cases c0 with
    | nil=>exact (this a (by simp)).1
    | cons x y=>exact (this x (by simp)).1
   have e1:bI G={G with nx:=7}:=by unfold bI; rw [if_neg Bn]
   have es:aH L G=({L with ss:=aS L.ss a.1 (aC (Z.C (G.bucket+Z.n)))},{G with nx:=7}):=by
    unfold aH
    rw [if_neg (by omega),if_neg (by omega),if_neg (by omega),if_neg (by omega),if_neg (by omega),if_pos h6,e1,r,j]
   have LF:Z.jn G.bucket=false:=by rw [f _ e]; simp
   have b9:=hZ.1.linked d e LF k (by omega)
   refine bT.of (m':=m-1) (c':=c-Z.few) (j:=(Z.C (G.bucket+Z.n)).length) (Z':=Z.linked G.bucket) (old':=old) es (by omega) (by omega) ⟨hc.to (Z':=Z.linked G.bucket) ⟨rfl,rfl,rfl,rfl⟩ ⟨rfl,rfl,rfl,rfl,rfl⟩ hc.bk (by omega) (by simp) hc.hb ⟨rfl,rfl,rfl,rfl,rfl⟩ (by omega) (by show Z.cap+_+_<=_; omega),.p7 rfl d e (zX f) g ?_ ?_ ?_⟩ ⟨b9,hZ.2⟩
    (fun R kk _ hR=>bZ.C9 hZ.1 d e LF k hR) (fun _ _=>rfl) rfl rfl rfl (by show Z.cap+_+_<=_; omega)
   ·show G.fi=aC (Z.two G.bucket)
    unfold Js.two
    rw [Gw.Cu,if_neg (by rw [k]; simp),i]
   ·show 1+(Z.n-G.bucket-1)*(Z.few+4)+12<=_
    omega
   ·show (Z.n-G.bucket-1)*Z.few<=_
    omega
 | p1 a _ _ _ _ _=>omega
 | p2 a _ _ _ _ _=>omega
 | p3 a _ _ _ _ _ _=>omega
 | p4 a _ _ _ _ _ _ _=>omega
 | p5 p q a _ _ _ _ _ _ _ _ _ _ _ _ _=>omega
 | p7 a _ _ _ _ _ _ _=>omega
 | p8 a _ _ _ _=>omega
 | p9 a _ _ _ _ _ _ _=>omega
theorem J.CX (h:J n0 Z old L G m c) (hZ:JD l Z L) (h7:G.nx=7):bT n0 l Z old L G m c:=by
 obtain ⟨hc,hp⟩:=h
 have hn:=gE hZ
 cases hp with
 | p7 a b d e f g i j=>
   have bO:=hc.nw
   have hlen:=hc.xl
   rw [if_neg (by omega)] at bO hlen
   have bz:=hZ.1.xl
   have eu:=hZ.1.kB
   have hk:=hc.k
   have es:aH L G=({L with xs:=L.xs.set (Z.B2+G.bucket) ((aC (Z.two G.bucket):Nat):Int)},fQ G):=by
    unfold aH
    rw [if_neg (by omega),if_neg (by omega),if_neg (by omega),if_neg (by omega),if_neg (by omega),if_neg (by omega),if_pos h7,bO,g]
   have gK:∀ i,i≠Z.B2+G.bucket->Cl.nth (L.xs.set (Z.B2+G.bucket) ((aC (Z.two G.bucket):Nat):Int)) i=Cl.nth L.xs i:=fun i hi=>by rw [fG _ _ _ (by omega),if_neg hi]
   have LC:=hc.hb.1
   have tI:JD l Z {L with xs:=L.xs.set (Z.B2+G.bucket) ((aC (Z.two G.bucket):Nat):Int)}:=by
    refine ⟨hZ.1.cells (fun i q1 q2=>gK i (by omega)) (fun q=>by rw [b] at q; simp at q) (by simp) (fun x hx=>?_) ?_ hZ.1.tb (by rw [gK 0 (by omega)]; exact hZ.1.p1),hZ.2⟩
    ·rcases List.mem_or_eq_of_mem_set hx with q | rfl
     ·exact hZ.1.xb x q
     ·rw [g] at LC; omega
    ·unfold Me.now
     rw [gK 1 (by omega)]
   refine bT.of (m':=m-1) (c':=c) (j:=0) (old':=old) es (by omega) (by omega) ⟨hc.to ⟨rfl,rfl,rfl,rfl⟩ ⟨rfl,rfl,rfl,rfl,rfl⟩ (by unfold fQ; simp only; omega) (by omega) (by unfold fQ; simp only; split<;>omega) hc.hb ⟨rfl,rfl,rfl,by simp,gK 0 (by omega)⟩ (by omega) hc.cap,?_⟩ tI
    (fun R kk hw hR=>⟨kk,Nat.le_refl _,hR.iW (gK _ (by omega)) (by show _<=Cl.nth (L.xs.set _ _) 0; rw [gK 0 (by omega)]; exact Int.le_refl _) rfl⟩) (fun i hi=>gK _ (by omega)) rfl rfl
   refine JQ (b:=G.bucket) b e (fun x hx=>?_) d rfl (by unfold fQ; simp only [bO]) (by omega) j
   show Cl.nth (L.xs.set _ _) _=_
   by_cases q:x=G.bucket
   ·subst q
    rw [fG _ _ _ (by omega),if_pos rfl,if_pos (by omega)]
   ·rw [gK _ (by omega),f x hx]
    by_cases q2:x<G.bucket
    ·rw [if_pos q2,if_pos (by omega)]
    ·rw [if_neg q2,if_neg (by omega)]
 | p1 a _ _ _ _ _=>omega
 | p2 a _ _ _ _ _=>omega
 | p3 a _ _ _ _ _ _=>omega
 | p4 a _ _ _ _ _ _ _=>omega
 | p5 p q a _ _ _ _ _ _ _ _ _ _ _ _ _=>omega
 | p6 c0 a e _ _ _ _ _ _ _ _ _ _=>omega
 | p8 a _ _ _ _=>omega
 | p9 a _ _ _ _ _ _ _=>omega
theorem J.CZ (h:J n0 Z old L G m c) (hZ:JD l Z L) (h8:G.nx=8):bT n0 l Z old L G m c:=by
 obtain ⟨hc,hp⟩:=h
 have hn:=gE hZ
 cases hp with
 | p8 a b d e f=>
   have hlen:=hc.xl
   rw [if_neg (by omega)] at hlen
   have bz:=hZ.1.xl
   have eu:=hZ.1.kB
   have hk:=hc.k
   have iB:=hc.wk
   obtain ⟨t,EE,Eh,EF⟩:=hc.num (by omega)
   have es:aH L G=({L with xs:=L.xs.set 1 (t:Int)},{G with W:=⟨G.worker,0,0,0⟩,nx:=9}):=by
    unfold aH
    rw [if_neg (by omega),if_neg (by omega),if_neg (by omega),if_neg (by omega),if_neg (by omega),if_neg (by omega),if_neg (by omega),if_pos h8,EE]
   have gK:∀ i,i≠1->Cl.nth (L.xs.set 1 (t:Int)) i=Cl.nth L.xs i:=fun i hi=>by rw [fG _ _ _ (by omega),if_neg hi]
   have tI:JD l {Z with bt:=true} {L with xs:=L.xs.set 1 (t:Int)}:=by
    refine ⟨hZ.1.wS b (fun x hx=>by rw [d x hx]; simpa using hx) gK (by simp) (fun x hx=>?_) ?_ (by omega) (fun x hx=>by rw [e x hx,if_pos hx]),hZ.2⟩
    ·rcases List.mem_or_eq_of_mem_set hx with q | rfl
     ·exact hZ.1.xb x q
     ·omega
    ·unfold Me.now
     rw [fG _ _ _ (by omega),if_pos rfl,Int.toNat_natCast,EF]
   refine bT.of (m':=m-1) (c':=c) (j:=0) (Z':={Z with bt:=true}) (old':=gy ⟨G.worker,0,0,0⟩) es (by omega) (by omega) ⟨hc.to (Z':={Z with bt:=true}) ⟨rfl,rfl,rfl,rfl⟩ ⟨rfl,rfl,rfl,rfl,rfl⟩ hc.bk (by omega) (by simp) hc.hb ⟨rfl,rfl,rfl,by simp,gK 0 (by omega)⟩ (by omega) hc.cap,?_⟩ tI
    (fun R kk hw hR=>⟨kk,Nat.le_refl _,(bZ.RB b (old':=gy ⟨G.worker,0,0,0⟩) (fun p=>Gw.CV _ _ _ _) hR).iW (gK _ (by omega)) (by show _<=Cl.nth (L.xs.set _ _) 0; rw [gK 0 (by omega)]; exact Int.le_refl _) rfl⟩) (fun i hi=>gK _ (by omega)) rfl rfl
   refine .p9 rfl rfl (fun w p e=>Iff.rfl) ⟨by show L.k.toNat<=8; omega,by show 0<=3; omega,?_,hc.hl,by show L.k.toNat+2<=(L.xs.set 1 (t:Int)).length; rw [List.length_set]; omega,⟨by show 0<=1000; omega,fun _=>by show 0<L.k.toNat; omega⟩,fun q=>absurd rfl q⟩ iB.1 (fun _=>rfl) (fun _=>hc.aF (by omega)) ?_
   ·show 0<=G.worker/\G.worker<=_
    omega
   ·show Gw.wl ⟨G.worker,0,0,0⟩<=_
    have:Gw.wl ⟨G.worker,0,0,0⟩=11:=by unfold Gw.wl; rw [if_pos rfl]
    rw [this]
    omega
 | p1 a _ _ _ _ _=>omega
 | p2 a _ _ _ _ _=>omega
 | p3 a _ _ _ _ _ _=>omega
 | p4 a _ _ _ _ _ _ _=>omega
 | p5 p q a _ _ _ _ _ _ _ _ _ _ _ _ _=>omega
 | p6 c0 a e _ _ _ _ _ _ _ _ _ _=>omega
 | p7 a _ _ _ _ _ _ _=>omega
 | p9 a _ _ _ _ _ _ _=>omega
theorem J.UP (h:J n0 Z old L G m c) (hZ:JD l Z L) (h9:G.nx=9) (hr:eK L G=true) (hd:b7 L G=false):bT n0 l Z old L G m c:=by
 obtain ⟨hc,hp⟩:=h
 cases hp with
 | p9 a b d e f g i w5=>
   have hn:=gE hZ
   have bz:=hZ.1.xl
   have eu:=hZ.1.kB
   have cf:=hc.k
   have yf:=hZ.1.p1
   have hlen:=hc.xl
   rw [if_neg (by omega)] at hlen
   have hold:old=gy G.W:=funext fun w=>funext fun p=>funext fun e=>propext (d w p e)
   subst hold
   have jt:iI L.xs L.hs G.W=true:=by unfold eK at hr; rw [if_pos h9] at hr; exact hr
   have kT:=hc.pd
   have es:=JP (L:=L) h9
   have h3:G.W.at_≠3:=fun q=>by
    unfold b7 at hd
    rw [if_neg (by omega),if_pos h9,decide_eq_true q] at hd
    simp at hd
   obtain ⟨c1,c2,c3,c4,c5⟩:=Gw.zD (n:=L.k.toNat) (L:=L) (W:=G.W) (by omega) (by omega) (by omega)
   have yg:=Gw.Ic L.hs L.xs e h3
   have eL:=eV.step e jt h3
   have tI:JD l Z {L with xs:=(aW L.k.toNat L.xs L.hs G.W).1,hs:=(aW L.k.toNat L.xs L.hs G.W).2.1}:=⟨hZ.1.waits (by omega),hZ.2⟩
   refine bT.of (m':=m-1) (c':=c) (j:=0) (old':=gy (aW L.k.toNat L.xs L.hs G.W).2.2) es (by omega) (by omega) ⟨⟨hc.nn,hc.wk,hc.err,fun _=>hc.el (by omega),hc.k,by show Cl.nth (aW L.k.toNat L.xs L.hs G.W).1 0+_<=_; omega,by show 0<(aW L.k.toNat L.xs L.hs G.W).2.1.length; rw [c4]; exact hc.hl,fun q=>absurd h9 q,hc.xb,?_,⟨hc.ds.1,fun q=>by have q:G.nx<=2:=q; omega⟩,?_,fun _=>hc.num (by omega),hc.bk,hc.b5,hc.hb,hc.pos,Gw.zB hc.tabs c2,hc.cap⟩,?_⟩ tI
    (fun R kk hw hR=>⟨kk,Nat.le_refl _,hR.waits hZ.1.ways (by omega) jt g e.at_ (by omega) (by omega)⟩) (fun x hx=>c1 _ (by omega)) rfl rfl
   ·show (aW L.k.toNat L.xs L.hs G.W).1.length=if G.nx<=2 then _ else _
    rw [c2,if_neg (by omega)]
    exact hlen
   ·show G.nw=if G.nx<=2 then _ else _
    have:=hc.nw
    rw [if_neg (by omega)] at this ⊢
    exact this
   ·refine .p9 h9 b (fun w p e=>Iff.rfl) eL (by rw [show (aW L.k.toNat L.xs L.hs G.W).2.2.worker=G.W.worker from c5]; exact f) ?_ ?_ (by show Gw.wl (aW L.k.toNat L.xs L.hs G.W).2.2<=_; omega)
    ·show (aW L.k.toNat L.xs L.hs G.W).2.2.at_<=1->(aW L.k.toNat L.xs L.hs G.W).2.2.bF=0
     intro q
     unfold aW at q ⊢
     by_cases q0:G.W.at_=0
     ·rw [if_pos q0]; exact g (by omega)
     rw [if_neg q0] at q ⊢
     by_cases q1:G.W.at_=1
     ·rw [if_pos q1]; exact g (by omega)
     rw [if_neg q1] at q ⊢
     by_cases q2:G.W.at_=2
     ·rw [if_pos q2] at q
      have q:(if L.k.toNat<=G.W.bF+1 then 3 else 2)<=1:=q
      split at q<;>omega
     ·have:=e.at_
      omega
    ·show (aW L.k.toNat L.xs L.hs G.W).2.2.at_=0->_
     intro q
     exfalso
     unfold aW at q
     by_cases q0:G.W.at_=0
     ·rw [if_pos q0] at q; simp at q
     rw [if_neg q0] at q
     by_cases q1:G.W.at_=1
     ·rw [if_pos q1] at q; simp at q
     rw [if_neg q1] at q
     by_cases q2:G.W.at_=2
     ·rw [if_pos q2] at q
      have q:(if L.k.toNat<=G.W.bF+1 then 3 else 2)=0:=q
      split at q<;>omega
     ·rw [if_neg q2] at q; simp at q
 | p1 a _ _ _ _ _=>omega
 | p2 a _ _ _ _ _=>omega
 | p3 a _ _ _ _ _ _=>omega
 | p4 a _ _ _ _ _ _ _=>omega
 | p5 p q a _ _ _ _ _ _ _ _ _ _ _ _ _=>omega
 | p6 c0 a e _ _ _ _ _ _ _ _ _ _=>omega
 | p7 a _ _ _ _ _ _ _=>omega
 | p8 a _ _ _ _=>omega
theorem J.oZ (h:J n0 Z old L G m c) (hZ:JD l Z L) (hr:eK L G=true) (hd:b7 L G=false):bT n0 l Z old L G m c:=by
 have fC:=h.2.nx
 have h8:G.nx=1\/G.nx=2\/G.nx=3\/G.nx=4\/G.nx=5\/G.nx=6\/G.nx=7\/G.nx=8\/G.nx=9:=by omega
 rcases h8 with q | q | q | q | q | q | q | q | q
 ·exact h.CR hZ q
 ·exact h.go2 hZ q
 ·exact h.CS hZ q
 ·exact h.CT hZ q
 ·exact h.CU hZ q
 ·exact h.CW hZ q
 ·exact h.CX hZ q
 ·exact h.CZ hZ q
 ·exact h.UP hZ q hr hd
end
end Go.Proofs.YtpanebgakndddaaGreat.Sw
namespace Go.Proofs.YtpanebgakndddaaGreat.Gw
open Go Hm Ar Mm Wk Pc Me Mq Pu Pn Gt Qs Zp Mx
structure Ie (n0:Nat) (l:List Pr) (Z:Zs) (L:Lm) (G:Gr):Prop where
 nn:Z.n=n0
 bt:Z.bt=true
 rest:∀ e,e<Z.n->Z.rest e=[]
 al:∀ e,e<Z.n->bs (Z.aY e)=l.filter fun p=>decide (ai p.1 Z.n=e)
 err:G.err=0
 aF:Lo.aF L.hs 0= -1
 hl:0<L.hs.length
 xl:L.xs.length=Z.B2+2*Z.n
 xm:Z.B2+2*Z.n<=1048576
 tabs:mA L.xs L.ds
 pos:∀ e,e<Z.n->∀ a∈Z.aY e,a.1≠0/\a.1<=18446744073709551615
section
variable {n0:Nat} {l:List Pr} {Z:Zs} {L:Lm} {G:Gr} {m c:Nat} {old:Nat->Int->Nat->Prop}
theorem J.last (h:J n0 l Z old L G m c) (hZ:ZD l Z L) (hd:cp L G=true):ZD l Z (aE L G).1/\Ie n0 l Z (aE L G).1 (aE L G).2/\(∀ w p e,¬old w p e)/\(aE L G).1={L with hs:=L.hs.set 0 (-1)}/\Cl.nth L.xs 0+m<=4611686018427387904:=by
 obtain ⟨hc,hp⟩:=h
 have fC:=hp.nx
 unfold cp at hd
 split at hd
 ·rename_i h2
  have:=J.fits hc hZ h2
  rw [decide_eq_true this] at hd
  simp at hd
 split at hd
 ·rename_i h7
  obtain ⟨h3,cT⟩:=of_decide_eq_true hd
  rw [H7 h7]
  have hw:aW L.k.toNat L.xs L.hs G.W=(L.xs,L.hs.set 0 (-1),{G.W with at_:=4}):=by
   unfold aW; rw [if_neg (by omega),if_neg (by omega),if_neg (by omega)]
  rw [hw]
  cases hp with
  | p7 t ids a b d e f g h i j k l=>
    rw [cT] at i
    cases i
    have:=hc.xl
    rw [if_neg (by omega)] at this
    exact ⟨⟨hZ.1.cells (fun _ _ _=>rfl) (fun _ _ _=>rfl) (Nat.le_refl _) hZ.1.xb rfl hZ.1.tb hZ.1.p1,hZ.2⟩,⟨hc.nn,b,fun e he=>k e he (by simp),hc.al,hc.err,CQ hc.hl _,by simpa using hc.hl,this,hc.xb,hc.tabs,hc.pos⟩,fun w p e q=>CY (W:=G.W) (by omega) w p e ((d w p e).1 q),rfl,hc.pd⟩
  | p1 a _ _ _ _ _=>omega
  | p2 a _ _ _ _ _=>omega
  | p3 a _ _ _ _ _ _=>omega
  | p4 p q a _ _ _ _ _ _ _ _ _ _=>omega
  | p5 a _ _ _ _ _ _ _ _=>omega
  | p6 a _ _ _ _ _=>omega
  | p8 t ids ids' a _ _ _ _ _ _ _ _ _ _ _=>omega
 ·have:=of_decide_eq_true hd
  omega
end
/-! ### what its steps leave-/
structure iq (L L':Lm):Prop where
 ss:L'.ss.length=L.ss.length
 tk:∀ k,(aj L'.ss k).taken=(aj L.ss k).taken/\(aj L'.ss k).gen=(aj L.ss k).gen
 ws:L'.ws=L.ws
 k:L'.k=L.k
 F:L'.F=L.F
 hl:L'.hs.length=L.hs.length
 hs:∀ i,i≠0->L'.hs[i]?=L.hs[i]?
theorem iq.refl (L:Lm):iq L L:=⟨rfl,fun _=>⟨rfl,rfl⟩,rfl,rfl,rfl,rfl,fun _ _=>rfl⟩
theorem QR (ss:List Sl) (x y k:Nat):(aj (Pu.aS ss x y) k).taken=(aj ss k).taken/\(aj (Pu.aS ss x y) k).gen=(aj ss k).gen:=by
 unfold Pu.aS
 by_cases h:(x-1) % 65536<ss.length
 ·rw [at_set h]
  split
  ·rename_i e; rw [e]; exact ⟨rfl,rfl⟩
  ·exact ⟨rfl,rfl⟩
 ·rw [List.set_eq_of_length_le (by omega)]
  exact ⟨rfl,rfl⟩
theorem iq.aS (L:Lm) (x y:Nat):iq L {L with ss:=Pu.aS L.ss x y}:=⟨by simp [Pu.aS],QR _ _ _,rfl,rfl,rfl,rfl,fun _ _=>rfl⟩
theorem iq.cells (L:Lm) (xs:List Int) (ds:List (Nat×Nat)):iq L {L with xs:=xs,ds:=ds}:=⟨rfl,fun _=>⟨rfl,rfl⟩,rfl,rfl,rfl,rfl,fun _ _=>rfl⟩
theorem iq.wait (L:Lm) (n:Nat) (W:Wt):iq L {L with xs:=(aW n L.xs L.hs W).1,hs:=(aW n L.xs L.hs W).2.1}:=by
 refine ⟨rfl,fun _=>⟨rfl,rfl⟩,rfl,rfl,rfl,?_,fun i hi=>?_⟩
 ·show (aW n L.xs L.hs W).2.1.length=_
  unfold aW
  split
  ·simp
  split
  ·rfl
  split
  ·rfl
  ·simp
 ·show (aW n L.xs L.hs W).2.1[i]?=_
  unfold aW
  split
  ·simp only; rw [List.getElem?_set_ne (by omega)]
  split
  ·rfl
  split
  ·rfl
  ·simp only; rw [List.getElem?_set_ne (by omega)]
theorem QS (L:Lm) (G:Gr):iq L (aE L G).1:=by
 unfold aE
 split
 ·exact .refl L
 split
 ·split
  ·exact iq.cells L _ _
  ·exact .refl L
 split
 ·exact .refl L
 split
 ·exact .refl L
 split
 ·exact iq.cells L _ L.ds
 split
 ·exact iq.cells L _ L.ds
 split
 ·exact iq.wait L _ _
 ·split
  ·exact .refl L
  ·exact iq.aS L _ _
theorem QT (L:Lm) (G:Gr) (d:Nat) (h:L.ds.length<=d+1/\(G.nx<=2->L.ds.length<=d)):(aE L G).1.ds.length<=d+1/\((aE L G).2.nx<=2->1<=G.nx->(aE L G).1.ds.length<=d):=by
 have K3:∀ (G:Gr) (x:Nat),3<=(dm G x).nx:=fun G x=>by
  unfold dm wE
  split
  ·have:=uk {G with pass:=if G.C.cK=[] then G.pass else G.pass++[G.C.cK],half:=0}
   omega
  ·simp
 unfold aE
 split
 ·rename_i q
  exact ⟨h.1,fun _ _=>h.2 (by omega)⟩
 split
 ·rename_i q
  have:=h.2 (by omega)
  split
  ·exact ⟨by simp; omega,fun q _=>by simp at q⟩
  ·exact ⟨h.1,fun q _=>by simp at q⟩
 split
 ·exact ⟨h.1,fun q _=>by have:=K3 {G with C:=.new} (Cl.nth L.xs (G.el.2+G.bucket)).toNat; simp only at q; omega⟩
 split
 ·exact ⟨h.1,fun q _=>by have:=K3 {G with C:=G.C.add G.at_ (ld G (aj L.ss ((G.at_-1) % 65536)).nd.sum)} (aj L.ss ((G.at_-1) % 65536)).nd.next.toNat; simp only at q; omega⟩
 split
 ·exact ⟨h.1,fun q _=>by have:=uk {G with half:=G.half+1}; simp only at q; omega⟩
 split
 ·exact ⟨h.1,fun q _=>by simp [eo] at q⟩
 split
 ·exact ⟨h.1,fun q _=>by simp only at q; split at q; split at q<;>omega; omega⟩
 ·have AM:¬G.nx<=2\/G.nx=0:=by omega
  split
  ·exact ⟨h.1,fun q hq=>h.2 q⟩
  ·refine ⟨h.1,fun q hq=>?_⟩
   simp only at q
   split at q
   ·simp [eo] at q
   ·have q:G.nx<=2:=q
    exact h.2 q
theorem J.C0 {n0:Nat} {l:List Pr} {Z:Zs} {L:Lm} {G:Gr} {m c:Nat} {old:Nat->Int->Nat->Prop} (h:J n0 l Z old L G m c) (hZ:ZD l Z L):Cl.nth (aE L G).1.xs 0<=Cl.nth L.xs 0+1:=by
 obtain ⟨hc,hp⟩:=h
 have hm:=hp.pos
 have kT:=hc.pd
 have yf:=hZ.1.p1
 have jj:=hc.b5
 have eu:=hZ.1.kB
 have bz:=hZ.1.xl
 have hk:=hc.k
 have same:Cl.nth L.xs 0<=Cl.nth L.xs 0+1:=by omega
 have set0:∀ (i:Nat) (v:Int),i≠0->Cl.nth (L.xs.set i v) 0<=Cl.nth L.xs 0+1:=fun i v hi=>by
  by_cases hl:i<L.xs.length
  ·rw [fG _ _ _ hl,if_neg (by omega)]; exact same
  ·rw [List.set_eq_of_length_le (by omega)]; exact same
 unfold aE
 split
 ·exact same
 split
 ·split
  ·simp only; rw [kH]; exact same
  ·exact same
 split
 ·exact same
 split
 ·exact same
 split
 ·rename_i q
  refine set0 _ _ ?_
  rw [(hc.nw (by omega)).1]
  simp only
  omega
 split
 ·exact set0 1 _ (by omega)
 split
 ·exact (zD (L:=L) (by omega) (by omega) (by omega)).2.2.1
 ·split
  ·exact same
  ·exact same
end Go.Proofs.YtpanebgakndddaaGreat.Gw
namespace Go.Proofs.YtpanebgakndddaaGreat.Sw
open Go Hm Ar Mm Wk Pc Me Mq Pu Pn Gt Qs Zp Mx
theorem JS (G:Sh):3<=(fQ G).nx:=by
 unfold fQ
 simp only
 split<;>omega
theorem zY (G:Sh):3<=(bI G).nx:=by
 unfold bI
 split
 ·split
  ·exact JS G
  ·simp
 ·simp
theorem JT (G:Sh) (x:Nat):3<=(dm G x).nx:=by
 unfold dm ly
 split
 ·split
  ·exact zY _
  ·split
   ·exact zY _
   ·simp
 ·simp
theorem UQ (G:Sh):3<=(begun G).nx:=by
 unfold begun
 split
 ·exact zY _
 ·exact JT _ _
theorem TH (L:Lm) (G:Sh):Gw.iq L (aH L G).1:=by
 unfold aH
 split
 ·exact .refl L
 split
 ·split
  ·exact Gw.iq.cells L _ _
  ·exact .refl L
 split
 ·exact .refl L
 split
 ·exact .refl L
 split
 ·exact .refl L
 split
 ·exact Gw.iq.aS L _ _
 split
 ·exact Gw.iq.cells L _ L.ds
 split
 ·exact Gw.iq.cells L _ L.ds
 ·exact Gw.iq.wait L _ _
theorem TI (L:Lm) (G:Sh) (d:Nat) (h:L.ds.length<=d+1/\(G.nx<=2->L.ds.length<=d)):(aH L G).1.ds.length<=d+1/\((aH L G).2.nx<=2->1<=G.nx->(aH L G).1.ds.length<=d):=by
 unfold aH
 split
 ·exact ⟨h.1,fun _ _=>h.2 (by omega)⟩
 split
 ·have:=h.2 (by omega)
  split
  ·exact ⟨by simp; omega,fun q _=>by simp at q⟩
  ·exact ⟨h.1,fun q _=>by simp at q⟩
 split
 ·exact ⟨h.1,fun q _=>by simp at q⟩
 split
 ·exact ⟨h.1,fun q _=>by have:=UQ {G with sec:=(Cl.nth L.xs (G.el.2+(G.bucket+G.nw.1))).toNat}; simp only at q; omega⟩
 split
 ·exact ⟨h.1,fun q _=>by have:=JT {G with la:=G.at_,met:=G.at_::G.met} (aj L.ss ((G.at_-1) % 65536)).nd.next.toNat; simp only at q; omega⟩
 split
 ·exact ⟨h.1,fun q _=>by have:=zY G; simp only at q; omega⟩
 split
 ·exact ⟨h.1,fun q _=>by have:=JS G; simp only at q; omega⟩
 split
 ·exact ⟨h.1,fun q _=>by simp at q⟩
 ·exact ⟨h.1,fun q _=>by simp only at q; omega⟩
theorem J.C0 {n0:Nat} {l:List Pr} {Z:Js} {L:Lm} {G:Sh} {m c:Nat} {old:Nat->Int->Nat->Prop} (h:J n0 Z old L G m c) (hZ:JD l Z L):Cl.nth (aH L G).1.xs 0<=Cl.nth L.xs 0+1:=by
 obtain ⟨hc,hp⟩:=h
 have hm:=hp.pos
 have kT:=hc.pd
 have yf:=hZ.1.p1
 have jj:=hc.b5
 have eu:=hZ.1.kB
 have bz:=hZ.1.xl
 have hk:=hc.k
 have same:Cl.nth L.xs 0<=Cl.nth L.xs 0+1:=by omega
 have set0:∀ (i:Nat) (v:Int),i≠0->Cl.nth (L.xs.set i v) 0<=Cl.nth L.xs 0+1:=fun i v hi=>by
  by_cases hl:i<L.xs.length
  ·rw [fG _ _ _ hl,if_neg (by omega)]; exact same
  ·rw [List.set_eq_of_length_le (by omega)]; exact same
 unfold aH
 split
 ·exact same
 split
 ·split
  ·simp only; rw [Gw.kH]; exact same
  ·exact same
 split
 ·exact same
 split
 ·exact same
 split
 ·exact same
 split
 ·exact same
 split
 ·rename_i q
  refine set0 _ _ ?_
  have:=hc.nw
  rw [if_neg (by omega)] at this
  rw [this]
  simp only
  omega
 split
 ·exact set0 1 _ (by omega)
 ·exact (Gw.zD (L:=L) (by omega) (by omega) (by omega)).2.2.1
end Go.Proofs.YtpanebgakndddaaGreat.Sw
namespace Go.Proofs.YtpanebgakndddaaGreat.cJ
open Go Hm Ar Mm Me Wk Pc Pn Mq Zp Mx Gw
def bK (n:Nat) (cs:Nat->List Mq.Hp):List Nat:=(List.range n).flatMap fun b=>aM (cs b)
theorem kV (cs:Nat->List Mq.Hp) (b:Nat):bK (b+1) cs=bK b cs++aM (cs b):=by simp [bK,List.range_succ]
theorem U8 {n y:Nat} {cs:Nat->List Mq.Hp} (h:y∈bK n cs):∃ b,b<n/\y∈aM (cs b):=by
 unfold bK at h
 obtain ⟨b,hb,hy⟩:=List.mem_flatMap.1 h
 exact ⟨b,List.mem_range.1 hb,hy⟩
theorem XU {ss:List Sl} {f:Nat->Nat} {cs:Nat->List Mq.Hp} {n:Nat} (hc:∀ b,b<n->Cx ss (f b) (cs b)) (hn:∀ b,b<n->(aM (cs b)).Nodup) (hd:∀ b b',b<n->b'<n->b≠b'->∀ y∈aM (cs b),y∉aM (cs b')):∀ m,m<=n->Rh ss f m (bK m cs):=by
 intro m
 induction m with
 | zero=>intro _; exact .zero
 | succ m ih=>
   intro hm
   rw [kV]
   refine .succ (ih (by omega)) ((hc m (by omega)).ch _ (fun y hy q=>?_) (hn m (by omega)))
   obtain ⟨b,hb,XE⟩:=U8 q
   exact hd b m (by omega) (by omega) (by omega) y XE hy
theorem U9 (l:List Pr) (f:Pr->Nat) (m:Nat):(l.filter fun p=>decide (f p<m+1)).length=(l.filter fun p=>decide (f p<m)).length+(l.filter fun p=>decide (f p=m)).length:=by
 induction l with
 | nil=>rfl
 | cons a t ih=>
   simp only [List.filter_cons]
   by_cases h1:f a<m
   ·rw [if_pos (by simp; omega),if_pos (by simpa using h1),if_neg (by simp; omega)]
    simp only [List.length_cons]
    omega
   ·by_cases h2:f a=m
    ·rw [if_pos (by simp; omega),if_neg (by simpa using h1),if_pos (by simpa using h2)]
     simp only [List.length_cons]
     omega
    ·rw [if_neg (by simp; omega),if_neg (by simpa using h1),if_neg (by simpa using h2)]
     exact ih
def own (l:List Pr) (n b:Nat):List Pr:=l.filter fun p=>decide (ai p.1 n=b)
theorem TB (l:List Pr) {n:Nat} {cs:Nat->List Mq.Hp} (h:∀ b,b<n->bs (cs b)=own l n b):∀ m,m<=n->(bK m cs).length=(l.filter fun p=>decide (ai p.1 n<m)).length:=by
 intro m
 induction m with
 | zero=>
   intro _
   have:(l.filter fun p=>decide (ai p.1 n<0))=[]:=List.filter_eq_nil_iff.2 fun p _=>by simp
   rw [this]
   rfl
 | succ m ih=>
   intro hm
   rw [kV,List.length_append,ih (by omega),U9]
   have h1:=congrArg List.length (h m (by omega))
   simp only [bs,List.length_map,own] at h1
   simp only [aM,List.length_map]
   omega
end Go.Proofs.YtpanebgakndddaaGreat.cJ
