/- Walks and plain mathematics, put together in their order: ShrI, ShrJ, GroT, ShrK, ThB, BaseA, BaseB, BaseC, BaseD, RestA, RzA, RzB, RzC. -/
import Derived.Test.YtkogifmjbmnpgaaGreatPart6
import Derived.Test.YtkogifmjbmnpgaaGreatMemReach
set_option linter.unusedVariables false
set_option linter.unusedSimpArgs false
namespace Go.Proofs.YtkogifmjbmnpgaaGreat.Sw
open Go Hm Ar Mm Wk Pc Me Mq Pu Pn Gt Qs Zp Mx
section
variable {n0:Nat} {l:List Pr} {Z Z':Js} {L L':Lm} {G G':Sh} {m m' c c':Nat} {old old':Nat→Int→Nat→Prop}
theorem Goes.of {j:Nat} (e:sstep L G=(L',G')) (hm:m'+1≤m) (hcj:c'+j≤c) (hJ:J n0 Z' old' L' G' m' c') (hZ:JD l Z' L') (hB:Bsd l Z L old Z' L' old' j) (h3:∀ i:Nat,(i:Int)<L.k→Cl.nth L'.xs (2+i)=Cl.nth L.xs (2+i)) (hk:L'.k=L.k) (hf:Z'.few=Z.few) (hC:Z'.C=Z.C:=by rfl) (hcp:Z'.cap+c'≤Z.cap+c:=by exact Nat.le_refl _) (hb2:Z'.B2=Z.B2:=by rfl):Goes n0 l Z old L G m c:=by
 refine ⟨Z',old',m',c',j,hm,hcj,?_⟩
 rw [e]
 exact ⟨hJ,hZ,hB,h3,hk,hf,hC,hcp,hb2⟩
theorem Bsd.refl (l:List Pr) (Z:Js) (L:Lm) (old:Nat→Int→Nat→Prop):Bsd l Z L old Z L old 0:=fun _ k _ h=>⟨k,Nat.le_refl _,h⟩
theorem Kc.to (h:Kc n0 Z L G m c) (hz:Z'.n=Z.n∧Z'.B=Z.B∧Z'.B2=Z.B2∧Z'.C=Z.C) (h1:G'.worker=G.worker∧G'.err=G.err∧G'.el=G.el∧G'.nw=G.nw∧G'.num=G.num) (hb:G'.bucket≤Z.n) (h3:3≤G.nx∧G.nx≤8) (h3':3≤G'.nx)
 (hh:G'.fi≤18446744073709551615∧G'.sec≤18446744073709551615) (hL:L'.k=L.k∧L'.hs=L.hs∧L'.ds=L.ds∧L'.xs.length=L.xs.length∧Cl.nth L'.xs 0=Cl.nth L.xs 0) (hm:m'≤m) (hcap:Z'.cap+c'≤1000000):Kc n0 Z' L' G' m' c':=by
 obtain ⟨z1,z2,z3,z4⟩:=hz
 obtain ⟨e1,e2,e3,e4,e5⟩:=h1
 obtain ⟨l1,l2,l3,l4,l5⟩:=hL
 have hpd:=h.pd
 have hxl:=h.xl
 have hnw:=h.nw
 rw [if_neg (by omega)] at hxl hnw
 exact ⟨by rw [z1]; exact h.nn,by rw [e1]; exact h.wk,by rw [e2]; exact h.err,fun _=>by rw [e3,z1,z2]; exact h.el (by omega),by rw [l1]; exact h.k,by rw [l5]; omega,by rw [l2]; exact h.hl,fun _=>by rw [l2]; exact h.hol (by omega),by rw [z1,z3]; exact h.xb,by rw [if_neg (by omega),l4,z1,z3]; exact hxl,⟨by rw [l3]; exact h.ds.1,fun q=>by omega⟩,
  by rw [if_neg (by omega),e4,z1,z3]; exact hnw,fun _=>by rw [e5,l3,z1,z3]; exact h.num (by omega),by rw [z1]; exact hb,by rw [z3]; exact h.b5,hh,by rw [z1,z4]; exact h.pos,by rw [l3]; exact Gw.tabs_len h.tabs l4,hcap⟩
theorem next_at {b:Nat} (hp:Z.pub=false) (hj:Jnd Z (b+1)) (hc:CelJ Z L (b+1)) (hb:b<Z.n) (e1:G.bucket=b+1) (e2:G.nx=if b+1=Z.n then 8 else 3) (hm:(Z.n-b-1)*(Z.few+4)+12≤m) (hcc:(Z.n-b-1)*Z.few≤c):Kp Z L G old m c:=by
 by_cases hq:b+1=Z.n
 · rw [if_pos hq] at e2
   exact .p8 e2 hp (by rw [← hq]; exact hj) (by rw [← hq]; exact hc) (by omega)
 · rw [if_neg hq] at e2
   exact .p3 e2 hp (by omega) (by rw [e1]; exact hj) (by rw [e1]; exact hc) (by rw [e1,show Z.n-(b+1)=Z.n-b-1 by omega]; exact hm) (by rw [e1,show Z.n-(b+1)=Z.n-b-1 by omega]; exact hcc)
theorem J.go1 (h:J n0 Z old L G m c) (hZ:JD l Z L) (h1:G.nx=1):Goes n0 l Z old L G m c:=by
 obtain ⟨hc,hp⟩:=h
 cases hp with
 | p1 a b d e f g=>
   have hnow:=hZ.1.now
   rw [b,if_neg (by simp)] at hnow
   have es:sstep L G=(L,{G with el:=now L.xs L.ds,nx:=2}):=by unfold sstep; rw [if_pos h1]
   rw [hnow] at es
   have hxl:=hc.xl
   have hnw:=hc.nw
   rw [if_pos (by omega)] at hxl hnw
   refine Goes.of (m':=m-1) (c':=c) (j:=0) es (by omega) (by omega) ⟨⟨hc.nn,hc.wk,hc.err,fun _=>rfl,hc.k,?_,hc.hl,fun _=>hc.hol (by omega),hc.xb,by rw [if_pos (by simp)]; exact hxl,⟨hc.ds.1,fun _=>hc.ds.2 (by omega)⟩,by rw [if_pos (by simp)]; exact hnw,fun q=>by simp only at q; omega,hc.bk,hc.b5,hc.hb,hc.pos,hc.tabs,hc.cap⟩,.p2 rfl b d e (by omega) g⟩ hZ (Bsd.refl _ _ _ _) (fun _ _=>rfl) rfl rfl
   have:=hc.pd
   omega
 | p2 a _ _ _ _ _=>omega
 | p3 a _ _ _ _ _ _=>omega
 | p4 a _ _ _ _ _ _ _=>omega
 | p5 p q a _ _ _ _ _ _ _ _ _ _ _ _ _=>omega
 | p6 c0 a e _ _ _ _ _ _ _ _ _ _=>omega
 | p7 a _ _ _ _ _ _ _=>omega
 | p8 a _ _ _ _=>omega
 | p9 a _ _ _ _ _ _ _=>omega
theorem J.go2 (h:J n0 Z old L G m c) (hZ:JD l Z L) (h2:G.nx=2):Goes n0 l Z old L G m c:=by
 obtain ⟨hc,hp⟩:=h
 obtain ⟨hf1,hf2,hf3⟩:=J.fits hc hZ h2
 have hn:=n_bd hZ
 cases hp with
 | p2 a b d e f g=>
   have hlen:=hc.xl
   rw [if_pos (by omega)] at hlen
   have hkB:=hZ.1.kB
   have hxl:=hZ.1.xl
   rw [hf1] at hf2 hf3
   have es:sstep L G=({L with xs:=L.xs++List.replicate Z.n 0,ds:=L.ds++[(Z.n,Z.B2)]},{G with num:=L.ds.length,err:=0,nw:=(Z.n,Z.B2),nx:=3}):=by
    unfold sstep
    rw [if_neg (by omega),if_pos h2,hf1,if_pos ⟨hf2,hf3⟩,hlen]
   have hZ':JD l Z {L with xs:=L.xs++List.replicate Z.n 0,ds:=L.ds++[(Z.n,Z.B2)]}:=by
    refine ⟨hZ.1.cells (fun i _ _=>Gw.nth_app i) (fun q=>by rw [b] at q; simp at q) (by simp) (fun x hx=>?_) ?_ (fun i=>?_) (by rw [Gw.nth_app]; exact hZ.1.p1),hZ.2⟩
    · rcases List.mem_append.1 hx with q | q
      · exact hZ.1.xb x q
      · have:=(List.mem_replicate.1 q).2
        omega
    · have hnow:=hZ.1.now
      rw [b,if_neg (by simp)] at hnow
      unfold Me.now at hnow ⊢
      rw [Gw.nth_app,Gw.tab_app,if_neg]
      intro q
      rw [q,tab_none (Nat.le_refl _)] at hnow
      injection hnow with q1 _
      omega
    · rw [Gw.tab_app]
      split
      · have:=hc.xb; simp only; omega
      · exact hZ.1.tb i
   refine Goes.of (m':=m-1) (c':=c) (j:=0) es (by omega) (by omega) ⟨⟨hc.nn,hc.wk,rfl,fun _=>hc.el (by omega),hc.k,by show Cl.nth (L.xs++_) 0+_≤_; rw [Gw.nth_app]; have:=hc.pd; omega,hc.hl,fun _=>hc.hol (by omega),hc.xb,by rw [if_neg (by simp)]; simp [hlen],?_,by rw [if_neg (by simp)],fun _=>⟨L.ds.length,rfl,by have:=hc.ds.1; omega,by show tab (L.ds++_) _=_; rw [Gw.tab_app,if_pos rfl]⟩,hc.bk,hc.b5,hc.hb,hc.pos,?_,hc.cap⟩,?_⟩ hZ' (fun R k hw hR=>⟨k,Nat.le_refl _,hR.moved (Gw.nth_app _) (by show _≤Cl.nth (L.xs++_) 0; rw [Gw.nth_app]; exact Int.le_refl _) rfl⟩) (fun i _=>Gw.nth_app _) rfl rfl
   · have:=hc.ds.2 (by omega)
     exact ⟨by simp only [List.length_append,List.length_singleton]; omega,fun q=>by simp only at q; omega⟩
   · intro i hi
     show 1≤(tab (L.ds++_) i).1∧(tab (L.ds++_) i).1≤65536∧(tab (L.ds++_) i).2+(tab (L.ds++_) i).1≤(L.xs++List.replicate Z.n 0).length
     rw [Gw.tab_app]
     split
     · simp only [List.length_append,List.length_replicate]
       omega
     · have hi':i<(L.ds++[(Z.n,Z.B2)]).length:=hi
       simp only [List.length_append,List.length_singleton] at hi'
       have:=hc.tabs i (by omega)
       simp only [List.length_append,List.length_replicate]
       omega
   · have hb0:({G with num:=L.ds.length,err:=0,nw:=(Z.n,Z.B2),nx:=3}:Sh).bucket=0:=d
     refine .p3 rfl b (by rw [hb0]; omega) (by rw [hb0]; exact e) (fun k hk=>?_) ?_ ?_
     · show Cl.nth (L.xs++_) _=_
       rw [Gw.nth_app,Gw.nth_beyond (by omega),hb0,if_neg (by omega)]
     · rw [hb0,Nat.sub_zero]; omega
     · rw [hb0,Nat.sub_zero]; exact g
 | p1 a _ _ _ _ _=>omega
 | p3 a _ _ _ _ _ _=>omega
 | p4 a _ _ _ _ _ _ _=>omega
 | p5 p q a _ _ _ _ _ _ _ _ _ _ _ _ _=>omega
 | p6 c0 a e _ _ _ _ _ _ _ _ _ _=>omega
 | p7 a _ _ _ _ _ _ _=>omega
 | p8 a _ _ _ _=>omega
 | p9 a _ _ _ _ _ _ _=>omega
theorem mul_sub1 {n b k:Nat} (h:b<n):(n-b)*k=k+(n-b-1)*k:=by
 obtain ⟨t,ht⟩:∃ t,n-b=t+1:=⟨n-b-1,by omega⟩
 rw [ht,Nat.add_sub_cancel,Nat.add_mul,Nat.one_mul,Nat.add_comm]
theorem J.go3 (h:J n0 Z old L G m c) (hZ:JD l Z L) (h3:G.nx=3):Goes n0 l Z old L G m c:=by
 obtain ⟨hc,hp⟩:=h
 have hn:=n_bd hZ
 cases hp with
 | p3 a b d e f g i=>
   have hel:=hc.el (by omega)
   have hfi:(Cl.nth L.xs (Z.B+G.bucket)).toNat=hdH (Z.C G.bucket):=by rw [hZ.1.elder _ (by omega),Int.toNat_natCast]
   have es:sstep L G=(L,{G with fi:=hdH (Z.C G.bucket),nx:=4}):=by
    unfold sstep
    rw [if_neg (by omega),if_neg (by omega),if_pos h3,hel,hfi]
   rw [mul_sub1 d] at g i
   exact Goes.of (m':=m-1) (c':=c) (j:=0) es (by omega) (by omega) ⟨hc.to ⟨rfl,rfl,rfl,rfl⟩ ⟨rfl,rfl,rfl,rfl,rfl⟩ hc.bk (by omega) (by simp) ⟨hd_bd hc (by omega),hc.hb.2⟩ ⟨rfl,rfl,rfl,rfl,rfl⟩ (by omega) hc.cap,.p4 rfl b d e f rfl (by simp only; omega) (by simp only; omega)⟩ hZ (Bsd.refl _ _ _ _) (fun _ _=>rfl) rfl rfl
 | p1 a _ _ _ _ _=>omega
 | p2 a _ _ _ _ _=>omega
 | p4 a _ _ _ _ _ _ _=>omega
 | p5 p q a _ _ _ _ _ _ _ _ _ _ _ _ _=>omega
 | p6 c0 a e _ _ _ _ _ _ _ _ _ _=>omega
 | p7 a _ _ _ _ _ _ _=>omega
 | p8 a _ _ _ _=>omega
 | p9 a _ _ _ _ _ _ _=>omega
theorem skip2 (hJ:Z.Ok L l) (hp:Z.pub=false) {e:Nat} (hc:Z.C e=[]∨Z.C (e+Z.n)=[]):Js.Ok {Z with jn:=turnF Z.jn e true} L l∧∀ b,Js.way {Z with jn:=turnF Z.jn e true} b=if b=e then (if b<Z.n then Z.C b else Z.way b) else Z.way b:=by
 have hw:∀ b,Js.way {Z with jn:=turnF Z.jn e true} b=if b=e then (if b<Z.n then Z.C b else Z.way b) else Z.way b:=fun b=>by
  by_cases h:b=e
  · subst h
    rw [if_pos rfl]
    unfold Js.way Js.two
    simp only [turnF_at]
    by_cases hb:b<Z.n
    · rw [if_pos hb]
      rcases hc with q | q
      · rw [q,if_neg (by simp)]
      · rw [q,List.append_nil]
        split<;>rfl
    · rw [if_neg hb,if_neg (by omega),if_neg (by omega)]
  · rw [if_neg h]
    unfold Js.way Js.two
    simp only [turnF_ne _ _ h]
 refine ⟨{hJ with chain:=fun b hb=>?ch,all:=fun q=>?al},hw⟩
 case ch=>
  rw [hw]
  have hb:b<2*Z.n:=hb
  have hch:=hJ.chain b hb
  split
  · rename_i q
    subst q
    split
    · rename_i hbn
      have:Z.way b=Z.C b:=by
       unfold Js.way Js.two
       rcases hc with q | q
       · rw [q]; simp
       · rw [q,List.append_nil]
         split<;>rfl
      rw [this] at hch
      exact hch
    · exact hch
  · exact hch
 case al=>
  have q:Z.pub=true:=q
  rw [hp] at q; simp at q
theorem skip_way (hJ:Z.Ok L l) (hp:Z.pub=false) {e:Nat} (hc:Z.C e=[]∨Z.C (e+Z.n)=[]) (b:Nat):Js.way {Z with jn:=turnF Z.jn e true} b=Z.way b:=by
 rw [(skip2 hJ hp hc).2]
 split
 · rename_i q
   subst q
   split
   · rename_i hbn
     unfold Js.way Js.two
     rcases hc with q | q
     · rw [q]; simp
     · rw [q,List.append_nil]
       split<;>rfl
   · rfl
 · rfl
theorem skip_rn (hJ:Z.Ok L l) (hp:Z.pub=false) {e:Nat} (hc:Z.C e=[]∨Z.C (e+Z.n)=[]) {R:Rn} {k:Nat} (h:RnOk Z.wy L l old R k):RnOk (Js.wy {Z with jn:=turnF Z.jn e true}) L l old R k:=
 h.to rfl (Int.le_refl _) rfl rfl (Nat.le_refl _) (fun _ _ _ q=>q) (fun key q _ hq=>by
  rcases hq with hq | ⟨hq,_⟩
  · refine .inl ?_
    show q<:+Js.way {Z with jn:=turnF Z.jn e true} (bkt key (2*Z.n))
    rw [skip_way hJ hp hc]
    exact hq
  · rw [hp] at hq; simp at hq)
theorem jnd_turn {Z:Js} {b:Nat} (h:Jnd Z b):∀ e,e<Z.n→turnF Z.jn b true e=decide (e<b+1):=fun e he=>by
 by_cases q:e=b
 · subst q; rw [turnF_at]; simp
 · rw [turnF_ne _ _ q,h e he]
   by_cases q2:e<b
   · simp [q2]; omega
   · simp [q2]; omega
theorem J.skipped (hc:Kc n0 Z L G m c) (hZ:JD l Z L) (hp:Z.pub=false) (h4:G.nx=4) (hb:G.bucket<Z.n) (hj:Jnd Z G.bucket) (hcel:CelJ Z L G.bucket) (hfi:G.fi=hdH (Z.C G.bucket)) (hm:(Z.few+3)+(Z.n-G.bucket-1)*(Z.few+4)+12≤m) (hcc:Z.few+(Z.n-G.bucket-1)*Z.few≤c)
 (he:Z.C G.bucket=[]∨Z.C (G.bucket+Z.n)=[]) (es:sstep L G=(L,toStore {G with sec:=hdH (Z.C (G.bucket+Z.n))})):Goes n0 l Z old L G m c:=by
 have hn:=n_bd hZ
 have hs:=skip2 hZ.1 hp he
 have hsb:=hd_bd hc (show G.bucket+Z.n<2*Z.n by omega)
 have hfb:=hd_bd hc (show G.bucket<2*Z.n by omega)
 have hcap:=hc.cap
 have hnw:=hc.nw
 rw [if_neg (by omega)] at hnw
 have htwo:hdH (Z.two G.bucket)=if hdH (Z.C G.bucket)=0 then hdH (Z.C (G.bucket+Z.n)) else hdH (Z.C G.bucket):=by
  unfold Js.two
  rw [Gw.hdH_append]
  by_cases q:Z.C G.bucket=[]
  · rw [if_pos q,if_pos ((hd_zero hc (by omega)).2 q)]
  · rw [if_neg q,if_neg (fun a=>q ((hd_zero hc (by omega)).1 a))]
 have hB:Bsd l Z L old {Z with jn:=turnF Z.jn G.bucket true} L old 0:=fun R k hw hR=>⟨k,Nat.le_refl _,skip_rn hZ.1 hp he hR⟩
 have hcel2:CelJ {Z with jn:=turnF Z.jn G.bucket true} L G.bucket:=hcel
 by_cases h0:hdH (Z.C G.bucket)=0
 · by_cases h1:hdH (Z.C (G.bucket+Z.n))=0
   · have e1:toStore {G with sec:=hdH (Z.C (G.bucket+Z.n))}=toNext {G with sec:=0,fi:=0}:=by
      unfold toStore toNext
      simp only [hfi,h0,h1,if_true]
     rw [e1] at es
     refine Goes.of (m':=m-1) (c':=c) (j:=0) es (by omega) (by omega) ⟨hc.to (Z':={Z with jn:=turnF Z.jn G.bucket true}) ⟨rfl,rfl,rfl,rfl⟩ ⟨rfl,rfl,rfl,rfl,rfl⟩ (by unfold toNext; simp only; omega) (by omega) (by unfold toNext; simp only; split<;>omega) (by unfold toNext; simp) ⟨rfl,rfl,rfl,rfl,rfl⟩ (by omega) hcap,?_⟩ ⟨hs.1,hZ.2⟩ hB (fun _ _=>rfl) rfl rfl
     refine next_at (Z:={Z with jn:=turnF Z.jn G.bucket true}) (b:=G.bucket) hp (jnd_turn hj) (fun x hx=>?_) hb rfl (by unfold toNext; simp only [hnw]) (by simp only; omega) (by simp only; omega)
     rw [hcel x hx]
     by_cases q:x=G.bucket
     · subst q
       rw [if_neg (by omega),if_pos (by omega)]
       show 0=((hdH (Z.two G.bucket):Nat):Int)
       rw [htwo,if_pos h0,h1]
       rfl
     · by_cases q2:x<G.bucket
       · rw [if_pos q2,if_pos (by omega)]; rfl
       · rw [if_neg q2,if_neg (by omega)]
   · have e1:toStore {G with sec:=hdH (Z.C (G.bucket+Z.n))}={G with sec:=hdH (Z.C (G.bucket+Z.n)),fi:=hdH (Z.C (G.bucket+Z.n)),nx:=7}:=by
      unfold toStore
      simp only [hfi,h0,if_true]
      rw [if_neg h1]
     rw [e1] at es
     refine Goes.of (m':=m-1) (c':=c) (j:=0) es (by omega) (by omega) ⟨hc.to (Z':={Z with jn:=turnF Z.jn G.bucket true}) ⟨rfl,rfl,rfl,rfl⟩ ⟨rfl,rfl,rfl,rfl,rfl⟩ hc.bk (by omega) (by simp) ⟨hsb,hsb⟩ ⟨rfl,rfl,rfl,rfl,rfl⟩ (by omega) hcap,.p7 rfl hp hb (jnd_turn hj) hcel2 ?_ (by simp only; omega) (by simp only; omega)⟩ ⟨hs.1,hZ.2⟩ hB (fun _ _=>rfl) rfl rfl
     show _=hdH (Z.two G.bucket)
     rw [htwo,if_pos h0]
 · have e1:toStore {G with sec:=hdH (Z.C (G.bucket+Z.n))}={G with sec:=hdH (Z.C (G.bucket+Z.n)),nx:=7}:=by
    unfold toStore
    simp only [hfi]
    rw [if_neg h0]
   rw [e1] at es
   refine Goes.of (m':=m-1) (c':=c) (j:=0) es (by omega) (by omega) ⟨hc.to (Z':={Z with jn:=turnF Z.jn G.bucket true}) ⟨rfl,rfl,rfl,rfl⟩ ⟨rfl,rfl,rfl,rfl,rfl⟩ hc.bk (by omega) (by simp) ⟨hc.hb.1,hsb⟩ ⟨rfl,rfl,rfl,rfl,rfl⟩ (by omega) hcap,.p7 rfl hp hb (jnd_turn hj) hcel2 ?_ (by simp only; omega) (by simp only; omega)⟩ ⟨hs.1,hZ.2⟩ hB (fun _ _=>rfl) rfl rfl
   show G.fi=hdH (Z.two G.bucket)
   rw [htwo,if_neg h0,hfi]
theorem J.go4 (h:J n0 Z old L G m c) (hZ:JD l Z L) (h4:G.nx=4):Goes n0 l Z old L G m c:=by
 obtain ⟨hc,hp⟩:=h
 have hn:=n_bd hZ
 cases hp with
 | p4 a b d e f g i j=>
   have hel:=hc.el (by omega)
   have hnw:=hc.nw
   rw [if_neg (by omega)] at hnw
   have hse:(Cl.nth L.xs (Z.B+(G.bucket+Z.n))).toNat=hdH (Z.C (G.bucket+Z.n)):=by rw [hZ.1.elder _ (by omega),Int.toNat_natCast]
   have es:sstep L G=(L,begun {G with sec:=hdH (Z.C (G.bucket+Z.n))}):=by
    unfold sstep
    rw [if_neg (by omega),if_neg (by omega),if_neg (by omega),if_pos h4,hel,hnw,hse]
   by_cases hq:Z.C G.bucket=[]∨Z.C (G.bucket+Z.n)=[]
   · refine J.skipped hc hZ b h4 d e f g i j hq ?_
     rw [es]
     unfold begun
     rw [if_pos]
     rcases hq with q | q
     · refine .inl ?_
       show G.fi=0
       rw [g]
       exact (hd_zero hc (by omega)).2 q
     · exact .inr ((hd_zero hc (by omega)).2 q)
   · have hq1:Z.C G.bucket≠[]:=fun x=>hq (.inl x)
     have hq2:Z.C (G.bucket+Z.n)≠[]:=fun x=>hq (.inr x)
     have hf0:G.fi≠0:=fun x=>hq1 ((hd_zero hc (by omega)).1 (g▸x))
     have hs0:hdH (Z.C (G.bucket+Z.n))≠0:=fun x=>hq2 ((hd_zero hc (by omega)).1 x)
     have e1:begun {G with sec:=hdH (Z.C (G.bucket+Z.n))}={G with sec:=hdH (Z.C (G.bucket+Z.n)),la:=0,met:=[],at_:=G.fi,nx:=5}:=by
      unfold begun comeTo
      simp only
      rw [if_neg (by rintro (x | x); exact hf0 x; exact hs0 x),if_neg (by rintro (x | x); exact hf0 x; simp at x)]
     rw [e1] at es
     have hlen:(Z.C G.bucket).length≤Z.few:=by
      have:=hZ.1.few.1 _ d
      unfold Js.two at this
      rw [List.length_append] at this
      omega
     have hlen2:1≤(Z.C (G.bucket+Z.n)).length:=List.length_pos_iff.2 hq2
     exact Goes.of (m':=m-1) (c':=c) (j:=0) es (by omega) (by omega) ⟨hc.to ⟨rfl,rfl,rfl,rfl⟩ ⟨rfl,rfl,rfl,rfl,rfl⟩ hc.bk (by omega) (by simp) ⟨hc.hb.1,hd_bd hc (by omega)⟩ ⟨rfl,rfl,rfl,rfl,rfl⟩ (by omega) hc.cap,.p5 [] (Z.C G.bucket) rfl b d e f g rfl hq2 rfl hq1 g rfl (by simp only; omega) (by simp only; omega)⟩ hZ (Bsd.refl _ _ _ _) (fun _ _=>rfl) rfl rfl
 | p1 a _ _ _ _ _=>omega
 | p2 a _ _ _ _ _=>omega
 | p3 a _ _ _ _ _ _=>omega
 | p5 p q a _ _ _ _ _ _ _ _ _ _ _ _ _=>omega
 | p6 c0 a e _ _ _ _ _ _ _ _ _ _=>omega
 | p7 a _ _ _ _ _ _ _=>omega
 | p8 a _ _ _ _=>omega
 | p9 a _ _ _ _ _ _ _=>omega
theorem J.go5 (h:J n0 Z old L G m c) (hZ:JD l Z L) (h5:G.nx=5):Goes n0 l Z old L G m c:=by
 obtain ⟨hc,hp⟩:=h
 have hn:=n_bd hZ
 cases hp with
 | p5 p q a b d e f g i j k r s t u v=>
   cases q with
   | nil=>exact absurd rfl r
   | cons x q'=>
     have s':G.at_=x.1:=s
     obtain ⟨kk,a1,a2,a3,a4,a5⟩:=p5_at hZ hc d (by rw [e _ d]; simp) k s'
     have hnext:(at' L.ss ((G.at_-1) % 65536)).nd.next.toNat=hdH q':=by rw [a2,a3]; show ((hdH q':Nat):Int).toNat=_; rw [Int.toNat_natCast]
     have es:sstep L G=(L,comeTo {G with la:=G.at_,met:=G.at_::G.met} (hdH q')):=by
      unfold sstep
      rw [if_neg (by omega),if_neg (by omega),if_neg (by omega),if_neg (by omega),if_pos h5,hnext]
     have hpos:=hc.pos G.bucket (by omega)
     have hat0:G.at_≠0:=by rw [s']; exact (hpos x (by rw [k]; simp)).1
     cases q' with
     | nil=>
       have hsec:G.sec∉G.at_::G.met:=fun hm=>by
        have hin:G.sec∈hds (Z.C G.bucket):=by
         rw [k]
         rw [t,s'] at hm
         rcases List.mem_cons.1 hm with q | q
         · rw [q]; simp [hds]
         · have:=List.mem_reverse.1 q
           simp only [hds,List.map_append,List.mem_append]
           exact .inl this
        have hin2:G.sec∈hds (Z.C (G.bucket+Z.n)):=by
         rw [i]
         cases hq:Z.C (G.bucket+Z.n) with
         | nil=>exact absurd hq j
         | cons y ys=>simp [hds,hdH]
        exact hZ.1.dj G.bucket (G.bucket+Z.n) (by omega) (by omega) (by omega) _ hin hin2
       have e1:comeTo {G with la:=G.at_,met:=G.at_::G.met} (hdH [])={G with la:=G.at_,met:=G.at_::G.met,nx:=6}:=by
        unfold comeTo endFirst
        rw [if_pos (.inl rfl)]
        simp only
        rw [if_neg hat0,if_neg hsec]
       rw [e1] at es
       exact Goes.of (m':=m-1) (c':=c) (j:=0) es (by omega) (by omega) ⟨hc.to ⟨rfl,rfl,rfl,rfl⟩ ⟨rfl,rfl,rfl,rfl,rfl⟩ hc.bk (by omega) (by simp) hc.hb ⟨rfl,rfl,rfl,rfl,rfl⟩ (by omega) hc.cap,.p6 p x rfl b d e f g i k s' (by simp only; simp at u; omega) v⟩ hZ (Bsd.refl _ _ _ _) (fun _ _=>rfl) rfl rfl
     | cons y q2=>
       have hy0:y.1≠0:=(hpos y (by rw [k]; simp)).1
       have hym:hdH (y::q2)∉G.at_::G.met:=by rw [t]; exact a4
       have e1:comeTo {G with la:=G.at_,met:=G.at_::G.met} (hdH (y::q2))={G with la:=G.at_,met:=G.at_::G.met,at_:=hdH (y::q2),nx:=5}:=by
        unfold comeTo
        rw [if_neg]
        rintro (q | q)
        · exact hy0 q
        · exact hym q
       rw [e1] at es
       exact Goes.of (m':=m-1) (c':=c) (j:=0) es (by omega) (by omega) ⟨hc.to ⟨rfl,rfl,rfl,rfl⟩ ⟨rfl,rfl,rfl,rfl,rfl⟩ hc.bk (by omega) (by simp) hc.hb ⟨rfl,rfl,rfl,rfl,rfl⟩ (by omega) hc.cap,.p5 (p++[x]) (y::q2) rfl b d e f g i j (by rw [k]; simp) (by simp) rfl (by show G.at_::G.met=_; rw [t,s']; simp [hds]) (by simp only [List.length_cons] at u ⊢; omega) v⟩ hZ (Bsd.refl _ _ _ _) (fun _ _=>rfl) rfl rfl
 | p1 a _ _ _ _ _=>omega
 | p2 a _ _ _ _ _=>omega
 | p3 a _ _ _ _ _ _=>omega
 | p4 a _ _ _ _ _ _ _=>omega
 | p6 c0 a e _ _ _ _ _ _ _ _ _ _=>omega
 | p7 a _ _ _ _ _ _ _=>omega
 | p8 a _ _ _ _=>omega
 | p9 a _ _ _ _ _ _ _=>omega
end
end Go.Proofs.YtkogifmjbmnpgaaGreat.Sw
namespace Go.Proofs.YtkogifmjbmnpgaaGreat.Sw
open Go Hm Ar Mm Wk Pc Me Mq Pu Pn Gt Qs Zp Mx
section
variable {n0:Nat} {l:List Pr} {Z Z':Js} {L L':Lm} {G G':Sh} {m m' c c':Nat} {old old':Nat→Int→Nat→Prop}
theorem J.go6 (h:J n0 Z old L G m c) (hZ:JD l Z L) (h6:G.nx=6):Goes n0 l Z old L G m c:=by
 obtain ⟨hc,hp⟩:=h
 have hn:=n_bd hZ
 cases hp with
 | p6 c0 a b d e f g i j k r s t=>
   have hlen2:(Z.C (G.bucket+Z.n)).length≤Z.few:=by
    have:=hZ.1.few.1 _ e
    unfold Js.two at this
    rw [List.length_append] at this
    omega
   have hcap:=hc.cap
   have hf0:G.fi≠0:=by
    rw [i,k]
    have:=(hc.pos G.bucket (by omega))
    rw [k] at this
    cases c0 with
    | nil=>exact (this a (by simp)).1
    | cons x y=>exact (this x (by simp)).1
   have e1:toStore G={G with nx:=7}:=by unfold toStore; rw [if_neg hf0]
   have es:sstep L G=({L with ss:=lnk L.ss a.1 (hdH (Z.C (G.bucket+Z.n)))},{G with nx:=7}):=by
    unfold sstep
    rw [if_neg (by omega),if_neg (by omega),if_neg (by omega),if_neg (by omega),if_neg (by omega),if_pos h6,e1,r,j]
   have hjf:Z.jn G.bucket=false:=by rw [f _ e]; simp
   have hlk:=hZ.1.linked d e hjf k (by omega)
   refine Goes.of (m':=m-1) (c':=c-Z.few) (j:=(Z.C (G.bucket+Z.n)).length) (Z':=Z.linked G.bucket) (old':=old) es (by omega) (by omega) ⟨hc.to (Z':=Z.linked G.bucket) ⟨rfl,rfl,rfl,rfl⟩ ⟨rfl,rfl,rfl,rfl,rfl⟩ hc.bk (by omega) (by simp) hc.hb ⟨rfl,rfl,rfl,rfl,rfl⟩ (by omega) (by show Z.cap+_+_≤_; omega),.p7 rfl d e (jnd_turn f) g ?_ ?_ ?_⟩ ⟨hlk,hZ.2⟩
    (fun R kk _ hR=>RnOk.joined hZ.1 d e hjf k hR) (fun _ _=>rfl) rfl rfl rfl (by show Z.cap+_+_≤_; omega)
   · show G.fi=hdH (Z.two G.bucket)
     unfold Js.two
     rw [Gw.hdH_append,if_neg (by rw [k]; simp),i]
   · show 1+(Z.n-G.bucket-1)*(Z.few+4)+12≤_
     omega
   · show (Z.n-G.bucket-1)*Z.few≤_
     omega
 | p1 a _ _ _ _ _=>omega
 | p2 a _ _ _ _ _=>omega
 | p3 a _ _ _ _ _ _=>omega
 | p4 a _ _ _ _ _ _ _=>omega
 | p5 p q a _ _ _ _ _ _ _ _ _ _ _ _ _=>omega
 | p7 a _ _ _ _ _ _ _=>omega
 | p8 a _ _ _ _=>omega
 | p9 a _ _ _ _ _ _ _=>omega
theorem J.go7 (h:J n0 Z old L G m c) (hZ:JD l Z L) (h7:G.nx=7):Goes n0 l Z old L G m c:=by
 obtain ⟨hc,hp⟩:=h
 have hn:=n_bd hZ
 cases hp with
 | p7 a b d e f g i j=>
   have hnw:=hc.nw
   have hlen:=hc.xl
   rw [if_neg (by omega)] at hnw hlen
   have hxl:=hZ.1.xl
   have hkB:=hZ.1.kB
   have hk:=hc.k
   have es:sstep L G=({L with xs:=L.xs.set (Z.B2+G.bucket) ((hdH (Z.two G.bucket):Nat):Int)},toNext G):=by
    unfold sstep
    rw [if_neg (by omega),if_neg (by omega),if_neg (by omega),if_neg (by omega),if_neg (by omega),if_neg (by omega),if_pos h7,hnw,g]
   have hnth:∀ i,i≠Z.B2+G.bucket→Cl.nth (L.xs.set (Z.B2+G.bucket) ((hdH (Z.two G.bucket):Nat):Int)) i=Cl.nth L.xs i:=fun i hi=>by rw [nth_set _ _ _ (by omega),if_neg hi]
   have hfb:=hc.hb.1
   have hZ':JD l Z {L with xs:=L.xs.set (Z.B2+G.bucket) ((hdH (Z.two G.bucket):Nat):Int)}:=by
    refine ⟨hZ.1.cells (fun i q1 q2=>hnth i (by omega)) (fun q=>by rw [b] at q; simp at q) (by simp) (fun x hx=>?_) ?_ hZ.1.tb (by rw [hnth 0 (by omega)]; exact hZ.1.p1),hZ.2⟩
    · rcases List.mem_or_eq_of_mem_set hx with q | rfl
      · exact hZ.1.xb x q
      · rw [g] at hfb; omega
    · unfold Me.now
      rw [hnth 1 (by omega)]
   refine Goes.of (m':=m-1) (c':=c) (j:=0) (old':=old) es (by omega) (by omega) ⟨hc.to ⟨rfl,rfl,rfl,rfl⟩ ⟨rfl,rfl,rfl,rfl,rfl⟩ (by unfold toNext; simp only; omega) (by omega) (by unfold toNext; simp only; split<;>omega) hc.hb ⟨rfl,rfl,rfl,by simp,hnth 0 (by omega)⟩ (by omega) hc.cap,?_⟩ hZ'
    (fun R kk hw hR=>⟨kk,Nat.le_refl _,hR.moved (hnth _ (by omega)) (by show _≤Cl.nth (L.xs.set _ _) 0; rw [hnth 0 (by omega)]; exact Int.le_refl _) rfl⟩) (fun i hi=>hnth _ (by omega)) rfl rfl
   refine next_at (b:=G.bucket) b e (fun x hx=>?_) d rfl (by unfold toNext; simp only [hnw]) (by omega) j
   show Cl.nth (L.xs.set _ _) _=_
   by_cases q:x=G.bucket
   · subst q
     rw [nth_set _ _ _ (by omega),if_pos rfl,if_pos (by omega)]
   · rw [hnth _ (by omega),f x hx]
     by_cases q2:x<G.bucket
     · rw [if_pos q2,if_pos (by omega)]
     · rw [if_neg q2,if_neg (by omega)]
 | p1 a _ _ _ _ _=>omega
 | p2 a _ _ _ _ _=>omega
 | p3 a _ _ _ _ _ _=>omega
 | p4 a _ _ _ _ _ _ _=>omega
 | p5 p q a _ _ _ _ _ _ _ _ _ _ _ _ _=>omega
 | p6 c0 a e _ _ _ _ _ _ _ _ _ _=>omega
 | p8 a _ _ _ _=>omega
 | p9 a _ _ _ _ _ _ _=>omega
theorem J.go8 (h:J n0 Z old L G m c) (hZ:JD l Z L) (h8:G.nx=8):Goes n0 l Z old L G m c:=by
 obtain ⟨hc,hp⟩:=h
 have hn:=n_bd hZ
 cases hp with
 | p8 a b d e f=>
   have hlen:=hc.xl
   rw [if_neg (by omega)] at hlen
   have hxl:=hZ.1.xl
   have hkB:=hZ.1.kB
   have hk:=hc.k
   have hwk:=hc.wk
   obtain ⟨t,ht1,ht2,ht3⟩:=hc.num (by omega)
   have es:sstep L G=({L with xs:=L.xs.set 1 (t:Int)},{G with W:=⟨G.worker,0,0,0⟩,nx:=9}):=by
    unfold sstep
    rw [if_neg (by omega),if_neg (by omega),if_neg (by omega),if_neg (by omega),if_neg (by omega),if_neg (by omega),if_neg (by omega),if_pos h8,ht1]
   have hnth:∀ i,i≠1→Cl.nth (L.xs.set 1 (t:Int)) i=Cl.nth L.xs i:=fun i hi=>by rw [nth_set _ _ _ (by omega),if_neg hi]
   have hZ':JD l {Z with pub:=true} {L with xs:=L.xs.set 1 (t:Int)}:=by
    refine ⟨hZ.1.publish b (fun x hx=>by rw [d x hx]; simpa using hx) hnth (by simp) (fun x hx=>?_) ?_ (by omega) (fun x hx=>by rw [e x hx,if_pos hx]),hZ.2⟩
    · rcases List.mem_or_eq_of_mem_set hx with q | rfl
      · exact hZ.1.xb x q
      · omega
    · unfold Me.now
      rw [nth_set _ _ _ (by omega),if_pos rfl,Int.toNat_natCast,ht3]
   refine Goes.of (m':=m-1) (c':=c) (j:=0) (Z':={Z with pub:=true}) (old':=oldW ⟨G.worker,0,0,0⟩) es (by omega) (by omega) ⟨hc.to (Z':={Z with pub:=true}) ⟨rfl,rfl,rfl,rfl⟩ ⟨rfl,rfl,rfl,rfl,rfl⟩ hc.bk (by omega) (by simp) hc.hb ⟨rfl,rfl,rfl,by simp,hnth 0 (by omega)⟩ (by omega) hc.cap,?_⟩ hZ'
    (fun R kk hw hR=>⟨kk,Nat.le_refl _,(RnOk.pubJ b (old':=oldW ⟨G.worker,0,0,0⟩) (fun p=>Gw.oldW_new _ _ _ _) hR).moved (hnth _ (by omega)) (by show _≤Cl.nth (L.xs.set _ _) 0; rw [hnth 0 (by omega)]; exact Int.le_refl _) rfl⟩) (fun i hi=>hnth _ (by omega)) rfl rfl
   refine .p9 rfl rfl (fun w p e=>Iff.rfl) ⟨by show L.k.toNat≤8; omega,by show 0≤3; omega,?_,hc.hl,by show L.k.toNat+2≤(L.xs.set 1 (t:Int)).length; rw [List.length_set]; omega,⟨by show 0≤1000; omega,fun _=>by show 0<L.k.toNat; omega⟩,fun q=>absurd rfl q⟩ hwk.1 (fun _=>rfl) (fun _=>hc.hol (by omega)) ?_
   · show 0≤G.worker∧G.worker≤_
     omega
   · show Gw.wl ⟨G.worker,0,0,0⟩≤_
     have:Gw.wl ⟨G.worker,0,0,0⟩=11:=by unfold Gw.wl; rw [if_pos rfl]
     rw [this]
     omega
 | p1 a _ _ _ _ _=>omega
 | p2 a _ _ _ _ _=>omega
 | p3 a _ _ _ _ _ _=>omega
 | p4 a _ _ _ _ _ _ _=>omega
 | p5 p q a _ _ _ _ _ _ _ _ _ _ _ _ _=>omega
 | p6 c0 a e _ _ _ _ _ _ _ _ _ _=>omega
 | p7 a _ _ _ _ _ _ _=>omega
 | p9 a _ _ _ _ _ _ _=>omega
theorem J.go9 (h:J n0 Z old L G m c) (hZ:JD l Z L) (h9:G.nx=9) (hr:sready L G=true) (hd:sdone L G=false):Goes n0 l Z old L G m c:=by
 obtain ⟨hc,hp⟩:=h
 cases hp with
 | p9 a b d e f g i w5=>
   have hn:=n_bd hZ
   have hxl:=hZ.1.xl
   have hkB:=hZ.1.kB
   have hkk:=hc.k
   have h01:=hZ.1.p1
   have hlen:=hc.xl
   rw [if_neg (by omega)] at hlen
   have hold:old=oldW G.W:=funext fun w=>funext fun p=>funext fun e=>propext (d w p e)
   subst hold
   have hrd:readyB L.xs L.hs G.W=true:=by unfold sready at hr; rw [if_pos h9] at hr; exact hr
   have hpd:=hc.pd
   have es:=sstep9 (L:=L) h9
   have h3:G.W.at_≠3:=fun q=>by
    unfold sdone at hd
    rw [if_neg (by omega),if_pos h9,decide_eq_true q] at hd
    simp at hd
   obtain ⟨c1,c2,c3,c4,c5⟩:=Gw.wstep_cells (n:=L.k.toNat) (L:=L) (W:=G.W) (by omega) (by omega) (by omega)
   have hwl:=Gw.wl_step L.hs L.xs e h3
   have hok:=Okw.step e hrd h3
   have hZ':JD l Z {L with xs:=(wstep L.k.toNat L.xs L.hs G.W).1,hs:=(wstep L.k.toNat L.xs L.hs G.W).2.1}:=⟨hZ.1.waits (by omega),hZ.2⟩
   refine Goes.of (m':=m-1) (c':=c) (j:=0) (old':=oldW (wstep L.k.toNat L.xs L.hs G.W).2.2) es (by omega) (by omega) ⟨⟨hc.nn,hc.wk,hc.err,fun _=>hc.el (by omega),hc.k,by show Cl.nth (wstep L.k.toNat L.xs L.hs G.W).1 0+_≤_; omega,by show 0<(wstep L.k.toNat L.xs L.hs G.W).2.1.length; rw [c4]; exact hc.hl,fun q=>absurd h9 q,hc.xb,?_,⟨hc.ds.1,fun q=>by have q:G.nx≤2:=q; omega⟩,?_,fun _=>hc.num (by omega),hc.bk,hc.b5,hc.hb,hc.pos,Gw.tabs_len hc.tabs c2,hc.cap⟩,?_⟩ hZ'
    (fun R kk hw hR=>⟨kk,Nat.le_refl _,hR.waits hZ.1.ways (by omega) hrd g e.at_ (by omega) (by omega)⟩) (fun x hx=>c1 _ (by omega)) rfl rfl
   · show (wstep L.k.toNat L.xs L.hs G.W).1.length=if G.nx≤2 then _ else _
     rw [c2,if_neg (by omega)]
     exact hlen
   · show G.nw=if G.nx≤2 then _ else _
     have:=hc.nw
     rw [if_neg (by omega)] at this ⊢
     exact this
   · refine .p9 h9 b (fun w p e=>Iff.rfl) hok (by rw [show (wstep L.k.toNat L.xs L.hs G.W).2.2.worker=G.W.worker from c5]; exact f) ?_ ?_ (by show Gw.wl (wstep L.k.toNat L.xs L.hs G.W).2.2≤_; omega)
     · show (wstep L.k.toNat L.xs L.hs G.W).2.2.at_≤1→(wstep L.k.toNat L.xs L.hs G.W).2.2.passed=0
       intro q
       unfold wstep at q ⊢
       by_cases q0:G.W.at_=0
       · rw [if_pos q0]; exact g (by omega)
       rw [if_neg q0] at q ⊢
       by_cases q1:G.W.at_=1
       · rw [if_pos q1]; exact g (by omega)
       rw [if_neg q1] at q ⊢
       by_cases q2:G.W.at_=2
       · rw [if_pos q2] at q
         have q:(if L.k.toNat≤G.W.passed+1 then 3 else 2)≤1:=q
         split at q<;>omega
       · have:=e.at_
         omega
     · show (wstep L.k.toNat L.xs L.hs G.W).2.2.at_=0→_
       intro q
       exfalso
       unfold wstep at q
       by_cases q0:G.W.at_=0
       · rw [if_pos q0] at q; simp at q
       rw [if_neg q0] at q
       by_cases q1:G.W.at_=1
       · rw [if_pos q1] at q; simp at q
       rw [if_neg q1] at q
       by_cases q2:G.W.at_=2
       · rw [if_pos q2] at q
         have q:(if L.k.toNat≤G.W.passed+1 then 3 else 2)=0:=q
         split at q<;>omega
       · rw [if_neg q2] at q; simp at q
 | p1 a _ _ _ _ _=>omega
 | p2 a _ _ _ _ _=>omega
 | p3 a _ _ _ _ _ _=>omega
 | p4 a _ _ _ _ _ _ _=>omega
 | p5 p q a _ _ _ _ _ _ _ _ _ _ _ _ _=>omega
 | p6 c0 a e _ _ _ _ _ _ _ _ _ _=>omega
 | p7 a _ _ _ _ _ _ _=>omega
 | p8 a _ _ _ _=>omega
theorem J.goes (h:J n0 Z old L G m c) (hZ:JD l Z L) (hr:sready L G=true) (hd:sdone L G=false):Goes n0 l Z old L G m c:=by
 have hnx:=h.2.nx
 have h8:G.nx=1∨G.nx=2∨G.nx=3∨G.nx=4∨G.nx=5∨G.nx=6∨G.nx=7∨G.nx=8∨G.nx=9:=by omega
 rcases h8 with q | q | q | q | q | q | q | q | q
 · exact h.go1 hZ q
 · exact h.go2 hZ q
 · exact h.go3 hZ q
 · exact h.go4 hZ q
 · exact h.go5 hZ q
 · exact h.go6 hZ q
 · exact h.go7 hZ q
 · exact h.go8 hZ q
 · exact h.go9 hZ q hr hd
end
end Go.Proofs.YtkogifmjbmnpgaaGreat.Sw
namespace Go.Proofs.YtkogifmjbmnpgaaGreat.Gw
open Go Hm Ar Mm Wk Pc Me Mq Pu Pn Gt Qs Zp Mx
structure Ovr (n0:Nat) (l:List Pr) (Z:Zs) (L:Lm) (G:Gr):Prop where
 nn:Z.n=n0
 pub:Z.pub=true
 rest:∀ e,e<Z.n→Z.rest e=[]
 al:∀ e,e<Z.n→prs (Z.All e)=l.filter fun p=>decide (bkt p.1 Z.n=e)
 err:G.err=0
 hol:Lo.hol L.hs 0= -1
 hl:0<L.hs.length
 xl:L.xs.length=Z.B2+2*Z.n
 xm:Z.B2+2*Z.n≤1048576
 tabs:Tabs L.xs L.ds
 pos:∀ e,e<Z.n→∀ a∈Z.All e,a.1≠0∧a.1≤18446744073709551615
section
variable {n0:Nat} {l:List Pr} {Z:Zs} {L:Lm} {G:Gr} {m c:Nat} {old:Nat→Int→Nat→Prop}
theorem J.last (h:J n0 l Z old L G m c) (hZ:ZD l Z L) (hd:gdone L G=true):ZD l Z (gstep L G).1∧Ovr n0 l Z (gstep L G).1 (gstep L G).2∧(∀ w p e,¬old w p e)∧(gstep L G).1={L with hs:=L.hs.set 0 (-1)}∧Cl.nth L.xs 0+m≤4611686018427387904:=by
 obtain ⟨hc,hp⟩:=h
 have hnx:=hp.nx
 unfold gdone at hd
 split at hd
 · rename_i h2
   have:=J.fits hc hZ h2
   rw [decide_eq_true this] at hd
   simp at hd
 split at hd
 · rename_i h7
   obtain ⟨h3,hps⟩:=of_decide_eq_true hd
   rw [gstep7 h7]
   have hw:wstep L.k.toNat L.xs L.hs G.W=(L.xs,L.hs.set 0 (-1),{G.W with at_:=4}):=by
    unfold wstep; rw [if_neg (by omega),if_neg (by omega),if_neg (by omega)]
   rw [hw]
   cases hp with
   | p7 t ids a b d e f g h i j k l=>
     rw [hps] at i
     cases i
     have:=hc.xl
     rw [if_neg (by omega)] at this
     exact ⟨⟨hZ.1.cells (fun _ _ _=>rfl) (fun _ _ _=>rfl) (Nat.le_refl _) hZ.1.xb rfl hZ.1.tb hZ.1.p1,hZ.2⟩,⟨hc.nn,b,fun e he=>k e he (by simp),hc.al,hc.err,holset hc.hl _,by simpa using hc.hl,this,hc.xb,hc.tabs,hc.pos⟩,fun w p e q=>oldW_over (W:=G.W) (by omega) w p e ((d w p e).1 q),rfl,hc.pd⟩
   | p1 a _ _ _ _ _=>omega
   | p2 a _ _ _ _ _=>omega
   | p3 a _ _ _ _ _ _=>omega
   | p4 p q a _ _ _ _ _ _ _ _ _ _=>omega
   | p5 a _ _ _ _ _ _ _ _=>omega
   | p6 a _ _ _ _ _=>omega
   | p8 t ids ids' a _ _ _ _ _ _ _ _ _ _ _=>omega
 · have:=of_decide_eq_true hd
   omega
end
/-! ### what its steps leave-/
structure Keep (L L':Lm):Prop where
 ss:L'.ss.length=L.ss.length
 tk:∀ k,(at' L'.ss k).taken=(at' L.ss k).taken∧(at' L'.ss k).gen=(at' L.ss k).gen
 ws:L'.ws=L.ws
 k:L'.k=L.k
 F:L'.F=L.F
 hl:L'.hs.length=L.hs.length
 hs:∀ i,i≠0→L'.hs[i]?=L.hs[i]?
theorem Keep.refl (L:Lm):Keep L L:=⟨rfl,fun _=>⟨rfl,rfl⟩,rfl,rfl,rfl,rfl,fun _ _=>rfl⟩
theorem lnk_kept (ss:List Sl) (x y k:Nat):(at' (Pu.lnk ss x y) k).taken=(at' ss k).taken∧(at' (Pu.lnk ss x y) k).gen=(at' ss k).gen:=by
 unfold Pu.lnk
 by_cases h:(x-1) % 65536<ss.length
 · rw [at_set h]
   split
   · rename_i e; rw [e]; exact ⟨rfl,rfl⟩
   · exact ⟨rfl,rfl⟩
 · rw [List.set_eq_of_length_le (by omega)]
   exact ⟨rfl,rfl⟩
theorem Keep.lnk (L:Lm) (x y:Nat):Keep L {L with ss:=Pu.lnk L.ss x y}:=⟨by simp [Pu.lnk],lnk_kept _ _ _,rfl,rfl,rfl,rfl,fun _ _=>rfl⟩
theorem Keep.cells (L:Lm) (xs:List Int) (ds:List (Nat×Nat)):Keep L {L with xs:=xs,ds:=ds}:=⟨rfl,fun _=>⟨rfl,rfl⟩,rfl,rfl,rfl,rfl,fun _ _=>rfl⟩
theorem Keep.wait (L:Lm) (n:Nat) (W:Wt):Keep L {L with xs:=(wstep n L.xs L.hs W).1,hs:=(wstep n L.xs L.hs W).2.1}:=by
 refine ⟨rfl,fun _=>⟨rfl,rfl⟩,rfl,rfl,rfl,?_,fun i hi=>?_⟩
 · show (wstep n L.xs L.hs W).2.1.length=_
   unfold wstep
   split
   · simp
   split
   · rfl
   split
   · rfl
   · simp
 · show (wstep n L.xs L.hs W).2.1[i]?=_
   unfold wstep
   split
   · simp only; rw [List.getElem?_set_ne (by omega)]
   split
   · rfl
   split
   · rfl
   · simp only; rw [List.getElem?_set_ne (by omega)]
theorem gstep_keep (L:Lm) (G:Gr):Keep L (gstep L G).1:=by
 unfold gstep
 split
 · exact .refl L
 split
 · split
   · exact Keep.cells L _ _
   · exact .refl L
 split
 · exact .refl L
 split
 · exact .refl L
 split
 · exact Keep.cells L _ L.ds
 split
 · exact Keep.cells L _ L.ds
 split
 · exact Keep.wait L _ _
 · split
   · exact .refl L
   · exact Keep.lnk L _ _
theorem gstep_ds (L:Lm) (G:Gr) (d:Nat) (h:L.ds.length≤d+1∧(G.nx≤2→L.ds.length≤d)):(gstep L G).1.ds.length≤d+1∧((gstep L G).2.nx≤2→1≤G.nx→(gstep L G).1.ds.length≤d):=by
 have hcome:∀ (G:Gr) (x:Nat),3≤(comeTo G x).nx:=fun G x=>by
  unfold comeTo endChain
  split
  · have:=toStore_eq {G with pass:=if G.C.over=[] then G.pass else G.pass++[G.C.over],half:=0}
    omega
  · simp
 unfold gstep
 split
 · rename_i q
   exact ⟨h.1,fun _ _=>h.2 (by omega)⟩
 split
 · rename_i q
   have:=h.2 (by omega)
   split
   · exact ⟨by simp; omega,fun q _=>by simp at q⟩
   · exact ⟨h.1,fun q _=>by simp at q⟩
 split
 · exact ⟨h.1,fun q _=>by have:=hcome {G with C:=.new} (Cl.nth L.xs (G.el.2+G.bucket)).toNat; simp only at q; omega⟩
 split
 · exact ⟨h.1,fun q _=>by have:=hcome {G with C:=G.C.add G.at_ (hfs G (at' L.ss ((G.at_-1) % 65536)).nd.sum)} (at' L.ss ((G.at_-1) % 65536)).nd.next.toNat; simp only at q; omega⟩
 split
 · exact ⟨h.1,fun q _=>by have:=toStore_eq {G with half:=G.half+1}; simp only at q; omega⟩
 split
 · exact ⟨h.1,fun q _=>by simp [waitNew] at q⟩
 split
 · exact ⟨h.1,fun q _=>by simp only at q; split at q; split at q<;>omega; omega⟩
 · have h12:¬G.nx≤2∨G.nx=0:=by omega
   split
   · exact ⟨h.1,fun q hq=>h.2 q⟩
   · refine ⟨h.1,fun q hq=>?_⟩
     simp only at q
     split at q
     · simp [waitNew] at q
     · have q:G.nx≤2:=q
       exact h.2 q
theorem J.per {n0:Nat} {l:List Pr} {Z:Zs} {L:Lm} {G:Gr} {m c:Nat} {old:Nat→Int→Nat→Prop} (h:J n0 l Z old L G m c) (hZ:ZD l Z L):Cl.nth (gstep L G).1.xs 0≤Cl.nth L.xs 0+1:=by
 obtain ⟨hc,hp⟩:=h
 have hm:=hp.pos
 have hpd:=hc.pd
 have h01:=hZ.1.p1
 have hb5:=hc.b5
 have hkB:=hZ.1.kB
 have hxl:=hZ.1.xl
 have hk:=hc.k
 have same:Cl.nth L.xs 0≤Cl.nth L.xs 0+1:=by omega
 have set0:∀ (i:Nat) (v:Int),i≠0→Cl.nth (L.xs.set i v) 0≤Cl.nth L.xs 0+1:=fun i v hi=>by
  by_cases hl:i<L.xs.length
  · rw [nth_set _ _ _ hl,if_neg (by omega)]; exact same
  · rw [List.set_eq_of_length_le (by omega)]; exact same
 unfold gstep
 split
 · exact same
 split
 · split
   · simp only; rw [nth_app]; exact same
   · exact same
 split
 · exact same
 split
 · exact same
 split
 · rename_i q
   refine set0 _ _ ?_
   rw [(hc.nw (by omega)).1]
   simp only
   omega
 split
 · exact set0 1 _ (by omega)
 split
 · exact (wstep_cells (L:=L) (by omega) (by omega) (by omega)).2.2.1
 · split
   · exact same
   · exact same
end Go.Proofs.YtkogifmjbmnpgaaGreat.Gw
namespace Go.Proofs.YtkogifmjbmnpgaaGreat.Sw
open Go Hm Ar Mm Wk Pc Me Mq Pu Pn Gt Qs Zp Mx
theorem toNext_3 (G:Sh):3≤(toNext G).nx:=by
 unfold toNext
 simp only
 split<;>omega
theorem toStore_3 (G:Sh):3≤(toStore G).nx:=by
 unfold toStore
 split
 · split
   · exact toNext_3 G
   · simp
 · simp
theorem comeTo_3 (G:Sh) (x:Nat):3≤(comeTo G x).nx:=by
 unfold comeTo endFirst
 split
 · split
   · exact toStore_3 _
   · split
     · exact toStore_3 _
     · simp
 · simp
theorem begun_3 (G:Sh):3≤(begun G).nx:=by
 unfold begun
 split
 · exact toStore_3 _
 · exact comeTo_3 _ _
theorem sstep_keep (L:Lm) (G:Sh):Gw.Keep L (sstep L G).1:=by
 unfold sstep
 split
 · exact .refl L
 split
 · split
   · exact Gw.Keep.cells L _ _
   · exact .refl L
 split
 · exact .refl L
 split
 · exact .refl L
 split
 · exact .refl L
 split
 · exact Gw.Keep.lnk L _ _
 split
 · exact Gw.Keep.cells L _ L.ds
 split
 · exact Gw.Keep.cells L _ L.ds
 · exact Gw.Keep.wait L _ _
theorem sstep_ds (L:Lm) (G:Sh) (d:Nat) (h:L.ds.length≤d+1∧(G.nx≤2→L.ds.length≤d)):(sstep L G).1.ds.length≤d+1∧((sstep L G).2.nx≤2→1≤G.nx→(sstep L G).1.ds.length≤d):=by
 unfold sstep
 split
 · exact ⟨h.1,fun _ _=>h.2 (by omega)⟩
 split
 · have:=h.2 (by omega)
   split
   · exact ⟨by simp; omega,fun q _=>by simp at q⟩
   · exact ⟨h.1,fun q _=>by simp at q⟩
 split
 · exact ⟨h.1,fun q _=>by simp at q⟩
 split
 · exact ⟨h.1,fun q _=>by have:=begun_3 {G with sec:=(Cl.nth L.xs (G.el.2+(G.bucket+G.nw.1))).toNat}; simp only at q; omega⟩
 split
 · exact ⟨h.1,fun q _=>by have:=comeTo_3 {G with la:=G.at_,met:=G.at_::G.met} (at' L.ss ((G.at_-1) % 65536)).nd.next.toNat; simp only at q; omega⟩
 split
 · exact ⟨h.1,fun q _=>by have:=toStore_3 G; simp only at q; omega⟩
 split
 · exact ⟨h.1,fun q _=>by have:=toNext_3 G; simp only at q; omega⟩
 split
 · exact ⟨h.1,fun q _=>by simp at q⟩
 · exact ⟨h.1,fun q _=>by simp only at q; omega⟩
theorem J.per {n0:Nat} {l:List Pr} {Z:Js} {L:Lm} {G:Sh} {m c:Nat} {old:Nat→Int→Nat→Prop} (h:J n0 Z old L G m c) (hZ:JD l Z L):Cl.nth (sstep L G).1.xs 0≤Cl.nth L.xs 0+1:=by
 obtain ⟨hc,hp⟩:=h
 have hm:=hp.pos
 have hpd:=hc.pd
 have h01:=hZ.1.p1
 have hb5:=hc.b5
 have hkB:=hZ.1.kB
 have hxl:=hZ.1.xl
 have hk:=hc.k
 have same:Cl.nth L.xs 0≤Cl.nth L.xs 0+1:=by omega
 have set0:∀ (i:Nat) (v:Int),i≠0→Cl.nth (L.xs.set i v) 0≤Cl.nth L.xs 0+1:=fun i v hi=>by
  by_cases hl:i<L.xs.length
  · rw [nth_set _ _ _ hl,if_neg (by omega)]; exact same
  · rw [List.set_eq_of_length_le (by omega)]; exact same
 unfold sstep
 split
 · exact same
 split
 · split
   · simp only; rw [Gw.nth_app]; exact same
   · exact same
 split
 · exact same
 split
 · exact same
 split
 · exact same
 split
 · exact same
 split
 · rename_i q
   refine set0 _ _ ?_
   have:=hc.nw
   rw [if_neg (by omega)] at this
   rw [this]
   simp only
   omega
 split
 · exact set0 1 _ (by omega)
 · exact (Gw.wstep_cells (L:=L) (by omega) (by omega) (by omega)).2.2.1
end Go.Proofs.YtkogifmjbmnpgaaGreat.Sw
namespace Go.Proofs.YtkogifmjbmnpgaaGreat.LawTh
open Go Hm Ar Mm Me Wk Pc Pn Mq Zp Mx Gw
def allh (n:Nat) (cs:Nat→List Mq.Hp):List Nat:=(List.range n).flatMap fun b=>hds (cs b)
theorem allh_succ (cs:Nat→List Mq.Hp) (b:Nat):allh (b+1) cs=allh b cs++hds (cs b):=by simp [allh,List.range_succ]
theorem allh_mem {n y:Nat} {cs:Nat→List Mq.Hp} (h:y∈allh n cs):∃ b,b<n∧y∈hds (cs b):=by
 unfold allh at h
 obtain ⟨b,hb,hy⟩:=List.mem_flatMap.1 h
 exact ⟨b,List.mem_range.1 hb,hy⟩
theorem rh_allh {ss:List Sl} {f:Nat→Nat} {cs:Nat→List Mq.Hp} {n:Nat} (hc:∀ b,b<n→Cx ss (f b) (cs b)) (hn:∀ b,b<n→(hds (cs b)).Nodup) (hd:∀ b b',b<n→b'<n→b≠b'→∀ y∈hds (cs b),y∉hds (cs b')):∀ m,m≤n→Rh ss f m (allh m cs):=by
 intro m
 induction m with
 | zero=>intro _; exact .zero
 | succ m ih=>
   intro hm
   rw [allh_succ]
   refine .succ (ih (by omega)) ((hc m (by omega)).ch _ (fun y hy q=>?_) (hn m (by omega)))
   obtain ⟨b,hb,hyb⟩:=allh_mem q
   exact hd b m (by omega) (by omega) (by omega) y hyb hy
theorem cut_len (l:List Pr) (f:Pr→Nat) (m:Nat):(l.filter fun p=>decide (f p<m+1)).length=(l.filter fun p=>decide (f p<m)).length+(l.filter fun p=>decide (f p=m)).length:=by
 induction l with
 | nil=>rfl
 | cons a t ih=>
   simp only [List.filter_cons]
   by_cases h1:f a<m
   · rw [if_pos (by simp; omega),if_pos (by simpa using h1),if_neg (by simp; omega)]
     simp only [List.length_cons]
     omega
   · by_cases h2:f a=m
     · rw [if_pos (by simp; omega),if_neg (by simpa using h1),if_pos (by simpa using h2)]
       simp only [List.length_cons]
       omega
     · rw [if_neg (by simp; omega),if_neg (by simpa using h1),if_neg (by simpa using h2)]
       exact ih
def own (l:List Pr) (n b:Nat):List Pr:=l.filter fun p=>decide (bkt p.1 n=b)
theorem allh_len (l:List Pr) {n:Nat} {cs:Nat→List Mq.Hp} (h:∀ b,b<n→prs (cs b)=own l n b):∀ m,m≤n→(allh m cs).length=(l.filter fun p=>decide (bkt p.1 n<m)).length:=by
 intro m
 induction m with
 | zero=>
   intro _
   have:(l.filter fun p=>decide (bkt p.1 n<0))=[]:=List.filter_eq_nil_iff.2 fun p _=>by simp
   rw [this]
   rfl
 | succ m ih=>
   intro hm
   rw [allh_succ,List.length_append,ih (by omega),cut_len]
   have h1:=congrArg List.length (h m (by omega))
   simp only [prs,List.length_map,own] at h1
   simp only [hds,List.length_map]
   omega
structure Ends (n:Nat) (l:List Pr) (L:Lm) (cs:Nat→List Mq.Hp) (B:Nat):Prop where
 n1:1≤n∧n≤65536
 pw:FM.power n=true
 now:Me.now L.xs L.ds=(n,B)
 bb:B≤4000000
 x1:1<L.xs.length
 tabs:Tabs L.xs L.ds
 nexts:Nexts L.ss
 len:L.ss.length≤1024
 F:L.F=false
 hol:Lo.hol L.hs 0= -1∧0<L.hs.length
 own:∀ b,b<n→prs (cs b)=own l n b
 chn:∀ b,b<n→Chn L.xs L.ds L.ss (b:Nat) (hds (cs b))
 at_:∀ b,b<n→∀ a∈cs b,∃ k z,a.1≤18446744073709551615∧z≤18446744073709551615∧IsAt L.ss a.1 k∧(at' L.ss k).nd=ndp a.2 z
 rch:Rch L.xs L.ds L.ss (allh n cs)
 all:(allh n cs).length=l.length
end Go.Proofs.YtkogifmjbmnpgaaGreat.LawTh
namespace Go.Proofs.YtkogifmjbmnpgaaGreat.Bs
open Go Hm Ar Mm Wk Pc Me Mq Pu Pn Gt Qs Zp Mx Gw LawTh
structure Base (n B:Nat) (l:List Pr) (L:Lm) (cs:Nat→List Mq.Hp):Prop where
 pw:FM.power n=true
 now:Me.now L.xs L.ds=(n,B)
 tabs:Tabs L.xs L.ds
 tb:∀ i,(tab L.ds i).1≤65536∧(tab L.ds i).2≤4000000
 k:1≤L.k∧L.k≤8
 kB:2+L.k≤B
 xl:B+n≤L.xs.length
 xm:L.xs.length≤1048576
 xb:∀ x∈L.xs,0≤x∧x≤18446744073709551615
 nexts:Nexts L.ss
 len:L.ss.length≤1024
 F:L.F=false
 p1:1≤Cl.nth L.xs 0
 cx:∀ b,b<n→Cx L.ss (Cl.nth L.xs (B+b)).toNat (cs b)
 own:∀ b,b<n→prs (cs b)=own l n b
 keys:(l.map (·.1)).Nodup
 few:l.length≤60
section
variable {n B:Nat} {l:List Pr} {L:Lm} {cs:Nat→List Mq.Hp}
theorem lk_filter (l:List Pr) (f:ByteArray→Bool) (key:ByteArray) (h:f key=true):Pc.lk (l.filter fun p=>f p.1) key=Pc.lk l key:=by
 induction l with
 | nil=>rfl
 | cons p t ih=>
   rw [List.filter_cons]
   by_cases hk:p.1=key
   · rw [if_pos (by rw [hk]; exact h)]
     simp [Pc.lk,hk]
   · split
     · simp only [Pc.lk,if_neg hk]
       exact ih
     · simp only [Pc.lk,if_neg hk]
       exact ih
theorem Base.n1 (h:Base n B l L cs):1≤n∧n≤65536:=by
 have:=FM.power_bd h.pw
 omega
theorem Base.hd (h:Base n B l L cs) {b:Nat} (hb:b<n):Cl.nth L.xs (B+b)=((hdH (cs b):Nat):Int):=by
 have h1:=Cx.hd (h.cx b hb)
 have h2:=Cl.getD_bd h.xb (B+b)
 omega
theorem Base.bk (h:Base n B l L cs) {b:Nat} (hb:b<n):∀ a∈cs b,bkt a.2.1 n=b:=fun a ha=>by
 have:a.2∈prs (cs b):=List.mem_map.2 ⟨a,ha,rfl⟩
 rw [h.own b hb] at this
 exact of_decide_eq_true (List.mem_filter.1 this).2
theorem Base.small (h:Base n B l L cs) {b:Nat} (hb:b<n):(cs b).length≤l.length:=by
 have h1:=congrArg List.length (h.own b hb)
 have h2:=List.length_filter_le (fun p:Pr=>decide (bkt p.1 n=b)) l
 simp only [prs,List.length_map,LawTh.own] at h1
 omega
theorem Base.lk (h:Base n B l L cs) (key:ByteArray):Pc.lk l key=Pc.lk (prs (cs (bkt key n))) key:=by
 rw [h.own _ (bkt_lt h.pw key).1]
 exact (lk_filter l (fun k=>decide (bkt k n=bkt key n)) key (by simp)).symm
theorem Base.nd (h:Base n B l L cs) {b:Nat} (hb:b<n):(hds (cs b)).Nodup:=by
 refine Cx.nodup h.len (h.cx b hb) ?_
 have h3:kys (cs b)=(prs (cs b)).map (·.1):=by simp [prs]
 rw [h3,h.own b hb]
 exact (List.filter_sublist.map _).nodup h.keys
theorem Base.dj (h:Base n B l L cs) {b b':Nat} (hb:b<n) (hb':b'<n) (hne:b≠b'):∀ a∈hds (cs b),a∉hds (cs b'):=fun a ha ha'=>by
 obtain ⟨x,hx,rfl⟩:=List.mem_map.1 ha
 obtain ⟨y,hy,hxy⟩:=List.mem_map.1 ha'
 have hs:=Cx.same h.len (h.cx b hb) (h.cx b' hb') hx hy hxy.symm
 have h1:=h.bk hb x hx
 have h2:=h.bk hb' y hy
 rw [hs] at h1
 omega
theorem Base.ends (h:Base n B l L cs) (hh:Lo.hol L.hs 0= -1∧0<L.hs.length) (hp:∀ b,b<n→∀ a∈cs b,a.1≤18446744073709551615):LawTh.Ends n l L cs B:=by
 have hn:=h.n1
 have hf:∀ b,first L.xs L.ds b=(Cl.nth L.xs (B+b)).toNat:=fun b=>by unfold first; rw [h.now]
 refine ⟨hn,h.pw,h.now,by have:=h.xl; have:=h.xm; omega,by have:=h.xl; have:=h.kB; have:=h.k; omega,h.tabs,h.nexts,h.len,h.F,hh,h.own,fun b hb=>?_,fun b hb a ha=>?_,?_,?_⟩
 · unfold Chn
   rw [h.now,if_pos ⟨by omega,by simp only; omega⟩,Int.toNat_natCast,hf]
   exact (h.cx b hb).ch [] (by simp) (h.nd hb)
 · obtain ⟨k,z,h1,h2⟩:=(h.cx b hb).at a ha
   have hz:=(h.nexts k).2
   rw [h2] at hz
   unfold ndp at hz
   simp only at hz
   exact ⟨k,z,hp b hb a ha,by omega,h1,h2⟩
 · unfold Rch
   rw [h.now]
   exact rh_allh (fun b hb=>by rw [hf]; exact h.cx b hb) (fun b hb=>h.nd hb) (fun b b' hb hb' hne=>h.dj hb hb' hne) _ (Nat.le_refl _)
 · rw [allh_len l h.own _ (Nat.le_refl _)]
   have:(l.filter fun p=>decide (bkt p.1 n<n))=l:=List.filter_eq_self.2 fun p _=>decide_eq_true (bkt_lt h.pw p.1).1
   rw [this]
theorem Base.zs (h:Base n B l L cs) (hpw2:FM.power ((2*n:Nat):Int)=true):∃ Z:Zs,Z.Ok L l∧Z.n=n∧Z.B=B∧Z.B2=L.xs.length∧Z.pub=false∧Z.few=l.length∧(∀ e,e<n→Z.fresh e)∧Z.All=cs:=by
 have hx:∀ e:Nat,∃ z:Bool×List Mq.Hp×List Mq.Hp,e<n→cs e=z.2.1++z.2.2∧Zip L.ss (sd n) (cs e) z.1 (Cl.nth L.xs (B+e)).toNat (hdH z.2.2) [] z.2.1 [] z.2.2:=fun e=>by
  by_cases he:e<n
  · obtain ⟨s,r,rest,h4,h5⟩:=zip_new (σ:=sd n) (h.cx e he) (h.nd he)
    exact ⟨(s,r,rest),fun _=>⟨h4,h5⟩⟩
  · exact ⟨(true,[],[]),fun q=>absurd q he⟩
 obtain ⟨f,hf⟩:=Classical.axiomOfChoice hx
 have hn:=h.n1
 have hxl:=h.xl
 have hxm:=h.xm
 have hfew:=h.few
 refine ⟨⟨n,B,L.xs.length,l.length,1000,false,cs,fun e=>(f e).1,fun e=>(Cl.nth L.xs (B+e)).toNat,fun e=>hdH (f e).2.2,fun _=>[],fun e=>(f e).2.1,fun _=>[],fun e=>(f e).2.2⟩,?_,rfl,rfl,rfl,rfl,rfl,fun e he=>⟨rfl,rfl,(hf e he).1⟩,rfl⟩
 exact ⟨h.pw,hpw2,by rw [if_neg (by simp)]; exact h.now,h.tb,h.k,h.kB,⟨hxl,hxl,fun q=>by simp at q⟩,by simp only; omega,h.xb,h.nexts,h.len,fun e he=>h.hd he,fun q=>by simp at q,fun e he=>(hf e he).2,h.lk,h.F,h.p1,⟨fun e he=>h.small he,by simp only; omega,by simp only; omega,by simp only; omega⟩,fun _ e he=>⟨rfl,rfl,(hf e he).1⟩,fun e e' he he' hne=>h.dj he he' hne⟩
theorem two_len (l:List Pr) (f:Pr→Nat) {a b:Nat} (h:a≠b):(l.filter fun p=>decide (f p=a)).length+(l.filter fun p=>decide (f p=b)).length≤l.length:=by
 induction l with
 | nil=>simp
 | cons p t ih=>
   simp only [List.filter_cons]
   by_cases h1:f p=a
   · rw [if_pos (by simpa using h1),if_neg (by simp; omega)]
     simp only [List.length_cons]
     omega
   · rw [if_neg (by simpa using h1)]
     split
     · simp only [List.length_cons]
       omega
     · simp only [List.length_cons]
       omega
theorem Base.js {m:Nat} (h:Base (2*m) B l L cs) (hpw:FM.power m=true) {cap:Nat} (hcap:l.length≤cap∧cap≤1000000):∃ Z:Js,Z.Ok L l∧Z.n=m∧Z.B=B∧Z.B2=L.xs.length∧Z.pub=false∧Z.few=l.length∧Z.cap=cap∧Z.C=cs∧∀ e,Z.jn e=false:=by
 have hn:=h.n1
 have hxl:=h.xl
 have hxm:=h.xm
 have hfew:=h.few
 have hm:=FM.power_bd hpw
 refine ⟨⟨m,B,L.xs.length,l.length,cap,false,cs,fun _=>false⟩,?_,rfl,rfl,rfl,rfl,rfl,rfl,rfl,fun _=>rfl⟩
 refine ⟨hpw,h.pw,by rw [if_neg (by simp)]; exact h.now,h.tb,h.k,h.kB,⟨hxl,hxl,fun q=>by simp at q⟩,by simp only; omega,h.xb,h.nexts,h.len,fun b hb=>h.hd hb,fun q=>by simp at q,fun q=>by simp at q,fun b hb=>?_,h.lk,fun b hb=>h.bk hb,h.F,h.p1,⟨fun e he=>?_,by simp only; omega,by simp only; omega,by simp only; omega⟩,fun b hb=>h.nd hb,fun b b' hb hb' hne=>h.dj hb hb' hne⟩
 · have hw:Js.way ⟨m,B,L.xs.length,l.length,cap,false,cs,fun _=>false⟩ b=cs b:=by
    unfold Js.way
    rw [if_neg (by simp)]
   rw [hw]
   have:=h.cx b hb
   rw [← Cx.hd this]
   exact this
 · have he:e<m:=he
   have e1:=congrArg List.length (h.own e (by omega))
   have e2:=congrArg List.length (h.own (e+m) (by omega))
   simp only [prs,List.length_map,LawTh.own] at e1 e2
   have e3:=two_len l (fun p=>bkt p.1 (2*m)) (a:=e) (b:=e+m) (by omega)
   unfold Js.two
   simp only [List.length_append]
   omega
end
end Go.Proofs.YtkogifmjbmnpgaaGreat.Bs
namespace Go.Proofs.YtkogifmjbmnpgaaGreat.Bs
open Go Hm Ar Mm Wk Pc Me Mq Pu Pn Gt Qs Zp Mx Gw LawTh
def flat (n:Nat) (cs:Nat→List Mq.Hp):List Pr:=(List.range n).flatMap fun b=>prs (cs b)
theorem flat_succ (n:Nat) (cs:Nat→List Mq.Hp):flat (n+1) cs=flat n cs++prs (cs n):=by simp [flat,List.range_succ]
section
variable {n:Nat} {cs:Nat→List Mq.Hp}
theorem flat_mem {p:Pr}:p∈flat n cs↔∃ b,b<n∧p∈prs (cs b):=by
 unfold flat
 rw [List.mem_flatMap]
 exact ⟨fun ⟨b,h1,h2⟩=>⟨b,List.mem_range.1 h1,h2⟩,fun ⟨b,h1,h2⟩=>⟨b,List.mem_range.2 h1,h2⟩⟩
theorem flat_own (N:Nat) (h:∀ b,b<N→∀ a∈cs b,bkt a.2.1 N=b) (b:Nat):∀ m,m≤N→(flat m cs).filter (fun p=>decide (bkt p.1 N=b))=if b<m then prs (cs b) else []:=by
 intro m
 induction m with
 | zero=>intro _; rw [if_neg (by omega)]; rfl
 | succ m ih=>
   intro hm
   rw [flat_succ,List.filter_append,ih (by omega)]
   have h1:(prs (cs m)).filter (fun p=>decide (bkt p.1 N=b))=if b=m then prs (cs m) else []:=by
    by_cases e:b=m
    · rw [if_pos e]
      refine List.filter_eq_self.2 fun p hp=>?_
      obtain ⟨a,ha,rfl⟩:=List.mem_map.1 hp
      exact decide_eq_true ((h m (by omega) a ha).trans e.symm)
    · rw [if_neg e]
      refine List.filter_eq_nil_iff.2 fun p hp=>?_
      obtain ⟨a,ha,rfl⟩:=List.mem_map.1 hp
      have:=h m (by omega) a ha
      simp
      omega
   rw [h1]
   by_cases h2:b<m
   · rw [if_pos h2,if_neg (by omega),if_pos (by omega),List.append_nil]
   · rw [if_neg h2,List.nil_append]
     by_cases e:b=m
     · rw [if_pos e,if_pos (by omega),e]
     · rw [if_neg e,if_neg (by omega)]
theorem flat_keys (h:∀ b,b<n→∀ a∈cs b,bkt a.2.1 n=b) (hk:∀ b,b<n→(kys (cs b)).Nodup):∀ m,m≤n→((flat m cs).map (·.1)).Nodup:=by
 intro m
 induction m with
 | zero=>intro _; exact List.nodup_nil
 | succ m ih=>
   intro hm
   rw [flat_succ,List.map_append,List.nodup_append]
   have e:(prs (cs m)).map (·.1)=kys (cs m):=by simp [prs]
   refine ⟨ih (by omega),by rw [e]; exact hk m (by omega),fun x hx y hy q=>?_⟩
   obtain ⟨p,hp,rfl⟩:=List.mem_map.1 hx
   obtain ⟨b,hb,hpb⟩:=flat_mem.1 hp
   obtain ⟨a,ha,rfl⟩:=List.mem_map.1 hpb
   rw [e] at hy
   obtain ⟨a',ha',rfl⟩:=List.mem_map.1 hy
   have h1:=h b (by omega) a ha
   have h2:=h m (by omega) a' ha'
   have q:a.2.1=a'.2.1:=q
   rw [q] at h1
   omega
theorem flat_len (cs:Nat→List Mq.Hp):∀ m,(flat m cs).length=(allh m cs).length:=by
 intro m
 induction m with
 | zero=>rfl
 | succ m ih=>rw [flat_succ,allh_succ,List.length_append,List.length_append,ih]; simp [prs]
theorem base_of {B:Nat} {L:Lm} (pw:FM.power n=true) (now:Me.now L.xs L.ds=(n,B)) (tabs:Tabs L.xs L.ds) (tb:∀ i,(tab L.ds i).1≤65536∧(tab L.ds i).2≤4000000) (k:1≤L.k∧L.k≤8) (kB:2+L.k≤B) (xl:B+n≤L.xs.length) (xm:L.xs.length≤1048576) (xb:∀ x∈L.xs,0≤x∧x≤18446744073709551615)
 (nexts:Nexts L.ss) (len:L.ss.length≤1024) (F:L.F=false) (p1:1≤Cl.nth L.xs 0) (cx:∀ b,b<n→Cx L.ss (Cl.nth L.xs (B+b)).toNat (cs b)) (bk:∀ b,b<n→∀ a∈cs b,bkt a.2.1 n=b) (kd:∀ b,b<n→(kys (cs b)).Nodup) (few:(allh n cs).length≤60):Base n B (flat n cs) L cs:=
 ⟨pw,now,tabs,tb,k,kB,xl,xm,xb,nexts,len,F,p1,cx,fun b hb=>by
  have:=flat_own n bk b n (Nat.le_refl _)
  rw [if_pos hb] at this
  exact this.symm,flat_keys bk kd n (Nat.le_refl _),by rw [flat_len]; exact few⟩
end
theorem Js.Ok.base {J:Js} {L:Lm} {l:List Pr} (hJ:J.Ok L l) (hp:J.pub=true) (htb:Tabs L.xs L.ds) (hxm:L.xs.length≤1048576) (hk:∀ b,b<2*J.n→(kys (J.C b)).Nodup) (hfew:(allh J.n J.two).length≤60):Base J.n J.B2 (flat J.n J.two) L J.two:=by
 have hn:=FM.power_bd hJ.pw
 have hnow:=hJ.now
 rw [if_pos hp] at hnow
 have hx:=hJ.xl
 have hkB:=hJ.kB
 refine base_of hJ.pw hnow htb hJ.tb hJ.k (by omega) (by have:=hx.2.2 hp; omega) hxm hJ.xb hJ.nexts hJ.len hJ.F hJ.p1 (fun e he=>?_) (fun e he a ha=>?_) (fun e he=>?_) hfew
 · rw [hJ.newer hp e he,Int.toNat_natCast]
   exact hJ.both hp he
 · obtain ⟨h1,h2,h3⟩:=bkt_two hJ.pw hJ.pw2 a.2.1
   rcases List.mem_append.1 ha with q | q
   · have:=hJ.own e (by omega) a q
     rw [this,Nat.mod_eq_of_lt he] at h1
     exact h1.symm
   · have:=hJ.own (e+J.n) (by omega) a q
     rw [this,Nat.add_mod_right,Nat.mod_eq_of_lt he] at h1
     exact h1.symm
 · have e1:kys (J.two e)=kys (J.C e)++kys (J.C (e+J.n)):=by simp [kys,Js.two]
   rw [e1,List.nodup_append]
   refine ⟨hk e (by omega),hk (e+J.n) (by omega),fun x hx y hy q=>?_⟩
   obtain ⟨a,ha,rfl⟩:=List.mem_map.1 hx
   obtain ⟨a',ha',rfl⟩:=List.mem_map.1 hy
   have h1:=hJ.own e (by omega) a ha
   have h2:=hJ.own (e+J.n) (by omega) a' ha'
   have q:a.2.1=a'.2.1:=q
   rw [q] at h1
   omega
end Go.Proofs.YtkogifmjbmnpgaaGreat.Bs
namespace Go.Proofs.YtkogifmjbmnpgaaGreat.Bs
open Go Hm Ar Mm Wk Pc Me Mq Pu Pn Gt Qs Zp Mx Gw LawTh
def Like (l l':List Pr):Prop:=∀ key,Pc.lk l key=Pc.lk l' key
theorem Like.refl (l:List Pr):Like l l:=fun _=>rfl
theorem Like.symm {l l':List Pr} (h:Like l l'):Like l' l:=fun k=>(h k).symm
section
variable {l l':List Pr} {Y:Wy} {L:Lm} {w k:Nat} {key:ByteArray} {G:Gt.Ge}
theorem Rok.like {old:Int→Nat→Prop} (e:Like l l') (h:Rok Y L l old w key G k):Rok Y L l' old w key G k:=by
 refine ⟨h.ky,h.sum,h.wk,h.gat,h.pd,h.cnt,h.pr,?_⟩
 cases h.ph with
 | come a b=>exact .come a b
 | put a b=>exact .put a b
 | load a=>exact .load a
 | first c a1 b hc ho=>exact .first c a1 b hc ho
 | look q a1 a2 a3 a4 a5 a6 a7 a8 a9 a10 a11 a12 a13=>exact .look q a1 a2 a3 a4 a5 a6 a7 a8 a9 (a10.trans (e key)) a11 a12 a13
 | leave a b=>exact .leave a (e key▸b)
theorem RnOk.like {old:Nat→Int→Nat→Prop} {R:Rn} (e:Like l l') (h:RnOk Y L l old R k):RnOk Y L l' old R k:=by
 unfold RnOk at h ⊢
 split
 · rename_i q
   rw [q] at h
   exact h
 · rename_i G q
   rw [q] at h
   exact Rok.like e h
theorem Zs.Ok.like {Z:Zs} (e:Like l l') (h:Z.Ok L l):Z.Ok L l':={h with lk:=fun key=>(e key).symm.trans (h.lk key)}
theorem Js.Ok.like {J:Js} (e:Like l l') (h:J.Ok L l):J.Ok L l':={h with lk:=fun key=>(e key).symm.trans (h.lk key)}
theorem ZD.like {Z:Zs} (e:Like l l') (h:ZD l Z L):ZD l' Z L:=⟨Zs.Ok.like e h.1,h.2⟩
end
end Go.Proofs.YtkogifmjbmnpgaaGreat.Bs
namespace Go.Proofs.YtkogifmjbmnpgaaGreat.Bs
open Go Hm Ar Mm Wk Pc Me Mq Pu Pn Gt Qs Zp Mx Gw LawTh
section
variable {Z Z':Zs} {J J':Js} {L:Lm} {l:List Pr} {R:Rn} {k:Nat} {old:Nat→Int→Nat→Prop} {key:ByteArray} {q:List Mq.Hp}
theorem fresh_pos (hf:Z.fresh (bkt key Z.n)) (hq:q<:+Z.All (bkt key Z.n)):Z.wy.Pos (fun _=>True) key q:=by
 obtain ⟨f1,f2,f3⟩:=hf
 show Std _ _ _ _ _ _ _ key q
 rw [f1,f2]
 rw [f3] at hq
 by_cases hs:sd Z.n key=Z.s (bkt key Z.n)
 · exact .inl ⟨hs,by rw [List.nil_append]; exact hq⟩
 · refine .inr (.inr ⟨trivial,?_,hq⟩)
   revert hs
   cases sd Z.n key<;>cases Z.s (bkt key Z.n)<;>simp
theorem shrunk_way (hJ:J.Ok L l) (hall:∀ e,e<J.n→J.jn e=true) (key:ByteArray) (hq:q<:+J.way (bkt key (2*J.n))):q<:+J.two (bkt key J.n):=by
 obtain ⟨h1,h2,h3⟩:=hJ.bk key
 unfold Js.way at hq
 split at hq
 · rename_i hw
   rcases h3 with e | e
   · rw [e] at hq; exact hq
   · omega
 · rename_i hw
   rcases h3 with e | e
   · have:J.C (bkt key (2*J.n))=[]:=by
      cases hC:J.C (bkt key (2*J.n)) with
      | nil=>rfl
      | cons x y=>exact absurd ⟨by omega,hall _ (by omega),by rw [hC]; simp⟩ hw
     rw [this] at hq
     have hq0:q=[]:=List.suffix_nil.1 hq
     rw [hq0]
     exact List.nil_suffix
   · rw [e] at hq
     exact hq.trans (List.suffix_append _ _)
end
end Go.Proofs.YtkogifmjbmnpgaaGreat.Bs
namespace Go.Proofs.YtkogifmjbmnpgaaGreat.Bs
open Go Hm Ar Mm Wk Pc Me Mq Pu Pn Gt Qs Zp Mx LawTh
structure Rs where
 n:Nat
 B:Nat
 few:Nat
 cap:Nat
 cs:Nat→List Mq.Hp
 ls:List Pr
def Rs.wy (Y:Rs):Wy:=⟨fun _ key q=>q<:+Y.cs (bkt key Y.n),fun _ key c=>c=Y.B+bkt key Y.n,Y.few,Y.cap,true⟩
structure Rest (l:List Pr) (Y:Rs) (L:Lm):Prop where
 base:Base Y.n Y.B Y.ls L Y.cs
 like:Like Y.ls l
 few:Y.few=Y.ls.length∧Y.ls.length≤35
 cap:Y.few≤Y.cap∧Y.cap≤1000000
 hol:Lo.hol L.hs 0= -1∧0<L.hs.length
 pos:∀ b,b<Y.n→∀ a∈Y.cs b,a.1≠0∧a.1≤18446744073709551615
section
variable {l:List Pr} {Y:Rs} {L:Lm} {R:Rn} {k:Nat} {old old':Nat→Int→Nat→Prop} {w:Int}
theorem Rest.ways (h:Rest l Y L):Y.wy.Ok L l:=by
 have hb:=h.base
 have hn1:=hb.n1
 have hkB:=hb.kB
 have hxl:=hb.xl
 have hxm:=hb.xm
 have hk:=hb.k
 obtain ⟨f1,f2⟩:=h.few
 obtain ⟨c1,c2⟩:=h.cap
 refine ⟨hb.k,fun w hw=>by omega,hb.xb,hb.nexts,hb.len,hb.F,hb.p1,hb.tb,⟨by show Y.few≤900; omega,c1,c2⟩,fun {o key e q} h=>(List.suffix_cons _ _).trans h,fun _ h=>h,fun _ h=>h,fun {o key c} hc=>?_,fun o key _=>?_⟩
 · obtain ⟨h1,h2⟩:=bkt_lt hb.pw key
   have hc:c=Y.B+bkt key Y.n:=hc
   subst hc
   have hw1:word L.xs ((Y.B+bkt key Y.n:Nat):Int)=(Cl.nth L.xs (Y.B+bkt key Y.n)).toNat:=by
    unfold word
    rw [if_pos (by omega),Int.toNat_natCast]
   rw [hw1]
   exact ⟨by omega,_,hb.cx _ h1,List.suffix_refl _,by rw [← hb.lk key]; exact h.like key,by have:=hb.small h1; show _≤Y.few; omega⟩
 · obtain ⟨h1,h2⟩:=bkt_lt hb.pw key
   refine ⟨Y.B+bkt key Y.n,?_,rfl⟩
   rw [hb.now]
   unfold Gt.cellOf
   simp only
   rw [if_neg (by omega),h2]
   simp
theorem Base.zsc {n B:Nat} {ls:List Pr} {cs:Nat→List Mq.Hp} (h:Base n B ls L cs) (hpw2:FM.power ((2*n:Nat):Int)=true) {cap:Nat} (hcap:ls.length≤cap∧cap≤1000000):∃ Z:Zs,Z.Ok L ls∧Z.n=n∧Z.B=B∧Z.B2=L.xs.length∧Z.pub=false∧Z.few=ls.length∧(∀ e,e<n→Z.fresh e)∧Z.All=cs∧Z.cap=cap:=by
 obtain ⟨Z,hZ,z1,z2,z3,z4,z5,z6,z7⟩:=h.zs hpw2
 have hf:=hZ.few
 exact ⟨{Z with cap:=cap},{hZ with few:=⟨hf.1,hf.2.1,by show Z.few≤cap; omega,hcap.2⟩},z1,z2,z3,z4,z5,z6,z7,rfl⟩
theorem Rest.grows (h:Rest l Y L) (hpw2:FM.power ((2*Y.n:Nat):Int)=true) (hw:0≤w∧w≤1000) (hp0:Cl.nth L.xs 0≤1000000000000) (hxm:L.xs.length+2*Y.n≤1048576) (hds:L.ds.length≤800000):
 ∃ Z,ZD Y.ls Z L∧Z.n=Y.n∧Z.All=Y.cs∧Z.few=Y.few∧Z.cap=Y.cap∧Z.pub=false∧Gw.J Y.n Y.ls Z (fun _ _ _=>True) L (Gw.newGro w) (2+Y.n*(Y.few+4)+(1+12*(Y.few+1)+Y.n*Y.few)) 0∧∀ R k,RnOk Y.wy L l old R k→RnOk Z.wy L l (fun _ _ _=>True) R k:=by
 obtain ⟨f1,f2⟩:=h.few
 obtain ⟨Z,hZ,z1,z2,z3,z4,z5,z6,z7,z8⟩:=h.base.zsc hpw2 (cap:=Y.cap) (by have:=h.cap; omega)
 have hb:=h.base
 have hn:=hb.n1
 have hxl:=hb.xl
 have hkB:=hb.kB
 have hk:=hb.k
 have hm1:Y.n*(Y.few+4)≤65536*39:=Nat.mul_le_mul hn.2 (by omega)
 have hm2:Y.n*Y.few≤65536*35:=Nat.mul_le_mul hn.2 (by omega)
 have zf:Z.few=Y.few:=by omega
 refine ⟨Z,⟨hZ,by omega⟩,z1,z7,zf,z8,z4,⟨⟨z1,fun e he=>by rw [z7,z1]; exact hb.own e (by omega),hw,rfl,fun q=>absurd rfl q,hb.k,?_,h.hol.2,fun _=>h.hol.1,by rw [z3,z1]; omega,?_,⟨by omega,fun _=>hds⟩,fun q=>by have q:3≤1:=q; omega,fun _=>rfl,Nat.zero_le _,by rw [z3]; omega,?_,hb.tabs⟩,.p1 rfl z4 (fun _ _ _=>trivial) rfl rfl ?_⟩,fun R k hR=>?_⟩
 · omega
 · rw [if_pos (show (Gw.newGro w).nx≤2 by show 1≤2; omega),z3]
 · intro e he a ha
   rw [z7] at ha
   exact h.pos e (by omega) a ha
 · unfold Gw.mB
   rw [z1,zf]
   omega
 · refine hR.to rfl (Int.le_refl _) rfl zf (by show Y.cap≤Z.cap; omega) (fun key c p hC=>?_) (fun key q p hP=>?_)
   · have hb1:=(bkt_lt hb.pw key).1
     have hC:c=Y.B+bkt key Y.n:=hC
     exact .inr ⟨by rw [z2,z1]; exact hC,trivial,z6 _ (by rw [z1]; exact hb1)⟩
   · have hb1:=(bkt_lt hb.pw key).1
     refine fresh_pos (z6 _ (by rw [z1]; exact hb1)) ?_
     rw [z7,z1]
     exact hP
theorem grown {Z:Zs} {G:Gw.Gr} {n0:Nat} {ls:List Pr} (hZ:ZD ls Z L) (hO:Gw.Ovr n0 ls Z L G) (hold:∀ w p e,¬old w p e) (hk:(ls.map (·.1)).Nodup) (hlike:Like ls l) (hfew:Z.few=ls.length):
 Rest l ⟨2*Z.n,Z.B2,Z.few,Z.cap,fun b=>(Z.All (b % Z.n)).filter fun a=>sd Z.n a.2.1==decide (Z.n≤b),ls⟩ L∧∀ R k,RnOk Z.wy L l old R k→RnOk (Rs.wy ⟨2*Z.n,Z.B2,Z.few,Z.cap,fun b=>(Z.All (b % Z.n)).filter fun a=>sd Z.n a.2.1==decide (Z.n≤b),ls⟩) L l old' R k:=by
 have hz:=hZ.1
 have h35:=hZ.2
 have hp:=hO.pub
 have hr:=hO.rest
 have hnow:=hz.now
 rw [if_pos hp] at hnow
 have hb1:=FM.power_bd hz.pw
 have hx:=hz.xl
 have hkB:=hz.kB
 have hxm:=hO.xm
 have hxl:=hO.xl
 have hf:=hz.few
 have hm:∀ b,b % Z.n<Z.n:=fun b=>Nat.mod_lt _ (by omega)
 refine ⟨⟨⟨hz.pw2,hnow,hO.tabs,hz.tb,hz.k,by show 2+L.k≤(Z.B2:Int); omega,by show Z.B2+2*Z.n≤_; omega,by omega,hz.xb,hz.nexts,hz.len,hz.F,hz.p1,fun b hb=>?_,fun b hb=>own_bk hz.pw hz.pw2 hb (hO.al _ (hm b)),hk,by show ls.length≤60; omega⟩,hlike,⟨hfew,by show ls.length≤35; omega⟩,⟨hf.2.2.1,hf.2.2.2⟩,⟨hO.hol,hO.hl⟩,fun b hb a ha=>?_⟩,fun R k hR=>?_⟩
 · show Cx L.ss (Cl.nth L.xs (Z.B2+b)).toNat _
   rw [hz.newer hp b hb,Int.toNat_natCast]
   exact hz.parted hr hb
 · exact hO.pos _ (hm b) a (List.mem_filter.1 ha).1
 · refine hR.to rfl (Int.le_refl _) rfl rfl (Nat.le_refl _) (fun key c p hC=>?_) (fun key q p hP=>?_)
   · rcases hC with ⟨hC,_⟩ | ⟨_,ho,_⟩
     · exact hC
     · exact absurd ho (hold _ _ _)
   · obtain ⟨t1,t2,t3⟩:=bkt_two hz.pw hz.pw2 key
     have he:bkt key Z.n<Z.n:=(bkt_lt hz.pw key).1
     have hzz:=hz.zip _ he
     have e1:=hzz.fs
     have e2:=hzz.fv
     rw [hr _ he,List.filter_nil,List.append_nil] at e1 e2
     have hP:Std (sd Z.n) (Z.s (bkt key Z.n)) (Z.u (bkt key Z.n)) (Z.r (bkt key Z.n)) (Z.v (bkt key Z.n)) (Z.rest (bkt key Z.n)) (old R.w p (bkt key Z.n)) key q:=hP
     rw [hr _ he] at hP
     show q<:+(Z.All (bkt key (2*Z.n) % Z.n)).filter fun a=>sd Z.n a.2.1==decide (Z.n≤bkt key (2*Z.n))
     rw [t1]
     have hsd:decide (Z.n≤bkt key (2*Z.n))=sd Z.n key:=rfl
     rw [hsd]
     rcases hP with ⟨hs,hq⟩ | ⟨hs,hq⟩ | ⟨ho,_⟩
     · rw [hs,e1]
       rw [List.append_nil] at hq
       exact hq
     · rw [hs,e2]
       rw [List.append_nil] at hq
       exact hq
     · exact absurd ho (hold _ _ _)
theorem Rest.shrinks {m:Nat} (h:Rest l Y L) (hm:2*m=Y.n) (hpw:FM.power m=true) (hw:0≤w∧w≤1000) (hp0:Cl.nth L.xs 0≤1000000000000) (hxm:L.xs.length+m≤1048576) (hds:L.ds.length≤800000) (hcap:Y.cap+m*Y.few≤1000000):
 ∃ Z,Sw.JD Y.ls Z L∧Z.n=m∧Z.C=Y.cs∧Z.few=Y.few∧Z.cap=Y.cap∧Sw.J m Z old' L (Sw.newShr w) (2+m*(Y.few+4)+12) (m*Y.few)∧∀ R k,RnOk Y.wy L l old R k→RnOk Z.wy L l old' R k:=by
 obtain ⟨f1,f2⟩:=h.few
 have hb:=h.base
 rw [← hm] at hb
 obtain ⟨Z,hZ,z1,z2,z3,z4,z5,z6,z7,z8⟩:=hb.js hpw (cap:=Y.cap) (by have:=h.cap; omega)
 have hn:=hb.n1
 have hxl:=hb.xl
 have hkB:=hb.kB
 have hk:=hb.k
 have zf:Z.few=Y.few:=by omega
 have hm1:m*(Y.few+4)≤65536*39:=Nat.mul_le_mul (by omega) (by omega)
 refine ⟨Z,⟨hZ,by omega⟩,z1,z7,zf,z6,⟨⟨z1,hw,rfl,fun q=>absurd rfl q,hb.k,?_,h.hol.2,fun _=>h.hol.1,by rw [z3,z1]; omega,?_,⟨by omega,fun _=>hds⟩,rfl,fun q=>by have q:3≤1:=q; omega,Nat.zero_le _,by rw [z3]; omega,⟨Nat.zero_le _,Nat.zero_le _⟩,?_,hb.tabs,by rw [z6]; exact hcap⟩,.p1 rfl z4 rfl (fun e _=>by rw [z8]; simp) ?_ ?_⟩,fun R k hR=>?_⟩
 · omega
 · rw [if_pos (show (Sw.newShr w).nx≤2 by show 1≤2; omega),z3]
 · intro b hb' a ha
   rw [z7] at ha
   exact h.pos b (by omega) a ha
 · rw [z1,zf]; omega
 · rw [z1,zf]; omega
 · have hww:∀ b,Z.way b=Z.C b:=fun b=>by
    unfold Js.way
    rw [if_neg]
    rintro ⟨_,q,_⟩
    rw [z8] at q
    simp at q
   refine hR.to rfl (Int.le_refl _) rfl zf (by show Y.cap≤Z.cap; omega) (fun key c p hC=>?_) (fun key q p hP=>?_)
   · have hC:c=Y.B+bkt key Y.n:=hC
     exact .inl ⟨by rw [z2,z1,hm]; exact hC,.inl z4⟩
   · refine .inl ?_
     rw [hww,z7,z1,hm]
     exact hP
theorem allh_two (C:Nat→List Mq.Hp) (m:Nat):∀ k,(allh k fun e=>C e++C (e+m)).length=(allh k C).length+(allh k fun e=>C (e+m)).length:=by
 intro k
 induction k with
 | zero=>rfl
 | succ k ih=>
   rw [allh_succ,allh_succ,allh_succ,List.length_append,List.length_append,List.length_append,ih]
   simp only [hds,List.map_append,List.length_append]
   omega
theorem allh_more (C:Nat→List Mq.Hp) (m:Nat):∀ k,(allh (m+k) C).length=(allh m C).length+(allh k fun e=>C (e+m)).length:=by
 intro k
 induction k with
 | zero=>rfl
 | succ k ih=>
   rw [← Nat.add_assoc,allh_succ,allh_succ,List.length_append,List.length_append,ih,Nat.add_comm m k]
   omega
theorem shrunk {Z:Js} {G:Sw.Sh} {n0:Nat} {ls:List Pr} (hZ:Sw.JD l Z L) (hO:Sw.Over n0 Z L G) (hold:∀ w p e,¬old w p e) (hown:∀ b,b<2*Z.n→prs (Z.C b)=own ls (2*Z.n) b) (hk:(ls.map (·.1)).Nodup) (hfew:Z.few=ls.length):
 Rest l ⟨Z.n,Z.B2,Z.few,Z.cap,Z.two,flat Z.n Z.two⟩ L∧∀ R k,RnOk Z.wy L l old R k→RnOk (Rs.wy ⟨Z.n,Z.B2,Z.few,Z.cap,Z.two,flat Z.n Z.two⟩) L l old' R k:=by
 have hz:=hZ.1
 have h35:=hZ.2
 have hp:=hO.pub
 have hxl:=hO.xl
 have hxm:=hO.xm
 have hf:=hz.few
 have hkk:∀ b,b<2*Z.n→(kys (Z.C b)).Nodup:=fun b hb=>by
  have h3:kys (Z.C b)=(prs (Z.C b)).map (·.1):=by simp [prs]
  rw [h3,hown b hb]
  exact (List.filter_sublist.map _).nodup hk
 have hlen:(allh Z.n Z.two).length=ls.length:=by
  have e1:(allh Z.n Z.two).length=(allh Z.n Z.C).length+(allh Z.n fun e=>Z.C (e+Z.n)).length:=allh_two Z.C Z.n Z.n
  have e2:=allh_more Z.C Z.n Z.n
  have e3:=allh_len ls (n:=2*Z.n) (cs:=Z.C) hown (2*Z.n) (Nat.le_refl _)
  have e4:(ls.filter fun p=>decide (bkt p.1 (2*Z.n)<2*Z.n))=ls:=List.filter_eq_self.2 fun p _=>decide_eq_true (bkt_lt hz.pw2 p.1).1
  rw [e4] at e3
  rw [show Z.n+Z.n=2*Z.n by omega] at e2
  omega
 have hB:=Js.Ok.base hz hp hO.tabs (by omega) hkk (by omega)
 have hfl:(flat Z.n Z.two).length=ls.length:=by rw [flat_len]; exact hlen
 refine ⟨⟨hB,fun key=>?_,⟨by show Z.few=(flat Z.n Z.two).length; omega,by show (flat Z.n Z.two).length≤35; omega⟩,⟨hf.2.2.1,hf.2.2.2⟩,⟨hO.hol,hO.hl⟩,fun b hb a ha=>?_⟩,fun R k hR=>?_⟩
 · rw [hB.lk key]
   exact hz.two_lk key
 · have hb:b<Z.n:=hb
   have ha:a∈Z.C b++Z.C (b+Z.n):=ha
   rcases List.mem_append.1 ha with q | q
   · exact hO.pos b (by omega) a q
   · exact hO.pos (b+Z.n) (by omega) a q
 · refine hR.to rfl (Int.le_refl _) rfl rfl (Nat.le_refl _) (fun key c p hC=>?_) (fun key q p hP=>?_)
   · rcases hC with ⟨_,hC⟩ | ⟨hC,_⟩
     · rcases hC with hC | hC
       · rw [hp] at hC; simp at hC
       · exact absurd hC (hold _ _ _)
     · exact hC
   · rcases hP with hP | ⟨_,hP⟩
     · exact shrunk_way hz (hz.all hp) key hP
     · exact hP
end
end Go.Proofs.YtkogifmjbmnpgaaGreat.Bs
namespace Go.Proofs.YtkogifmjbmnpgaaGreat.Zr
open Go Hm Ar Mm Wk Pc Me Mq Pu Pn Gt Qs Zp Mx LawTh Bs
inductive Inn
 | none
 | gro (G:Gw.Gr)
 | shr (G:Sw.Sh)
structure Rz where
 worker:Int
 size:Int
 nx:Nat
 err:Int
 inn:Inn
def look (L:Lm) (R:Rz):Rz:=
 if ((now L.xs L.ds).1:Int)=R.size then {R with nx:=7} else if ((now L.xs L.ds).1:Int)<R.size then {R with nx:=6,inn:=.gro (Gw.newGro R.worker)} else {R with nx:=6,inn:=.shr (Sw.newShr R.worker)}
def after (L:Lm) (R:Rz) (e:Int):Rz:=if e=0 then look L {R with err:=e} else {R with err:=e,nx:=7}
def rstep (L:Lm) (R:Rz):Lm×Rz:=
 if R.nx=0 then (L,{R with err:=5,nx:=12})
 else if R.nx=1 then ({L with hs:=L.hs.set 5 R.worker},{R with nx:=2})
 else if R.nx≤4 then ({L with hs:=L.hs.set (R.nx-1) R.worker},{R with nx:=R.nx+1})
 else if R.nx=5 then ({L with hs:=L.hs.set 4 R.worker},look L R)
 else if R.nx=6 then
  match R.inn with
  | .none=>(L,R)
  | .gro G=>((Gw.gstep L G).1,if Gw.gdone L G=true then after (Gw.gstep L G).1 {R with inn:=.gro (Gw.gstep L G).2} (Gw.gstep L G).2.err else {R with inn:=.gro (Gw.gstep L G).2})
  | .shr G=>((Sw.sstep L G).1,if Sw.sdone L G=true then after (Sw.sstep L G).1 {R with inn:=.shr (Sw.sstep L G).2} (Sw.sstep L G).2.err else {R with inn:=.shr (Sw.sstep L G).2})
 else if R.nx≤10 then ({L with hs:=L.hs.set (11-R.nx) (-1)},{R with nx:=R.nx+1})
 else ({L with hs:=L.hs.set 5 (-1)},{R with nx:=12})
def lockOf (nx:Nat):Nat:=if nx=1 then 5 else nx-1
def rready (L:Lm) (R:Rz):Bool:=
 if 1≤R.nx∧R.nx≤5 then decide (0≤R.worker∧Lo.hol L.hs (lockOf R.nx)= -1)
 else if R.nx=6 then (match R.inn with | .none=>true | .gro G=>Gw.gready L G | .shr G=>Sw.sready L G)
 else true
def rdone (_L:Lm) (R:Rz):Bool:=decide (R.nx=0∨11≤R.nx)
structure Okrz (L:Lm) (R:Rz):Prop where
 nx:R.nx≤11
 x1:1<L.xs.length
 hl:L.hs.length=6
 wk:R.nx≠0→0≤R.worker∧R.worker≤1000
 tb:∀ i,(tab L.ds i).1≤65536
 inn:R.nx=6→(∃ G,R.inn=.gro G∧Gw.Okgr L G)∨(∃ G,R.inn=.shr G∧Sw.Oksh L G)
 held:7≤R.nx→R.nx≤10→Lo.hol L.hs (11-R.nx)=R.worker
 last:R.nx=11→Lo.hol L.hs 5=R.worker
/-! ### ways from so many buckets to so many-/
def gc (n few:Nat):Nat:=2+n*(few+4)+(1+12*(few+1)+n*few)
def sc (m few:Nat):Nat:=2+m*(few+4)+12
inductive Up (few s:Nat):Nat→Nat→Nat→Nat→Prop
 | done:Up few s s 0 0 0
 | more {n c x t:Nat}:FM.power ((2*n:Nat):Int)=true→Up few s (2*n) c x t→Up few s n (gc n few+c) (2*n+x) (t+1)
inductive Dn (few s:Nat):Nat→Nat→Nat→Nat→Nat→Prop
 | done:Dn few s s 0 0 0 0
 | more {m c x t a:Nat}:FM.power m=true→Dn few s m c x t a→Dn few s (2*m) (sc m few+c) (m+x) (t+1) (m*few+a)
def Ways (few s n c x t a:Nat):Prop:=Up few s n c x t∨Dn few s n c x t a
section
variable {few s n c x t a:Nat}
theorem Up.eqs (h:Up few s n c x t):c+(2*few+4)*n=t*(15+12*few)+(2*few+4)*s∧x+2*n=2*s∧n*2 ^ t=s:=by
 induction h with
 | done=>simp
 | @more n c x t _ _ ih=>
   obtain ⟨h1,h2,h3⟩:=ih
   refine ⟨?_,by omega,by rw [Nat.pow_succ,← h3,Nat.mul_comm 2 n,Nat.mul_assoc,Nat.mul_comm 2]⟩
   have e1:(2*few+4)*(2*n)=(2*few+4)*n+(2*few+4)*n:=by rw [show 2*n=n+n by omega,Nat.mul_add]
   have e2:gc n few=(2*few+4)*n+(15+12*few):=by
    unfold gc
    have:(2*few+4)*n=n*(few+4)+n*few:=by rw [Nat.mul_comm,← Nat.mul_add]; congr 1; omega
    rw [this]
    omega
   have e3:(t+1)*(15+12*few)=t*(15+12*few)+(15+12*few):=by rw [Nat.add_mul,Nat.one_mul]
   omega
theorem Up.le (h:Up few s n c x t):n≤s:=by
 have:=h.eqs
 omega
theorem Dn.eqs (h:Dn few s n c x t a):c+(few+4)*s=t*14+(few+4)*n∧x+s=n∧a+few*s=few*n∧s*2 ^ t=n:=by
 induction h with
 | done=>simp
 | @more m c x t a _ _ ih=>
   obtain ⟨h1,h2,h3,h4⟩:=ih
   have e1:(few+4)*(2*m)=(few+4)*m+(few+4)*m:=by rw [show 2*m=m+m by omega,Nat.mul_add]
   have e2:sc m few=(few+4)*m+14:=by unfold sc; rw [Nat.mul_comm]; omega
   have e3:few*(2*m)=few*m+few*m:=by rw [show 2*m=m+m by omega,Nat.mul_add]
   have e4:m*few=few*m:=Nat.mul_comm _ _
   have e5:(t+1)*14=t*14+14:=by omega
   exact ⟨by omega,by omega,by omega,by rw [Nat.pow_succ,← Nat.mul_assoc,h4,Nat.mul_comm]⟩
theorem Dn.le (h:Dn few s n c x t a):s≤n:=by
 have:=h.eqs
 omega
theorem Dn.inv (h:Dn few s n c x t a):(n=s∧c=0∧x=0∧t=0∧a=0)∨∃ m c' x' t' a',n=2*m∧FM.power m=true∧Dn few s m c' x' t' a'∧c=sc m few+c'∧x=m+x'∧t=t'+1∧a=m*few+a':=by
 cases h with
 | done=>exact .inl ⟨rfl,rfl,rfl,rfl,rfl⟩
 | more h1 h2=>exact .inr ⟨_,_,_,_,_,rfl,h1,h2,rfl,rfl,rfl,rfl⟩
theorem up_to (few:Nat) (a:Nat) (ha:a≤16):∀ (t b:Nat),b+t=a→∃ c x,Up few (2 ^ a) (2 ^ b) c x t:=by
 intro t
 induction t with
 | zero=>intro b h; exact ⟨0,0,by rw [show b=a by omega]; exact .done⟩
 | succ t ih=>
   intro b h
   obtain ⟨c,x,h1⟩:=ih (b+1) (by omega)
   rw [Nat.pow_succ,Nat.mul_comm] at h1
   refine ⟨_,_,.more ?_ h1⟩
   rw [Nat.mul_comm,← Nat.pow_succ]
   exact power_pow (by omega)
theorem dn_to (few:Nat) (b:Nat):∀ (t a:Nat),b+t=a→a≤16→∃ c x k,Dn few (2 ^ b) (2 ^ a) c x t k:=by
 intro t
 induction t with
 | zero=>intro a h _; exact ⟨0,0,0,by rw [← h,Nat.add_zero]; exact .done⟩
 | succ t ih=>
   intro a h ha
   obtain ⟨c,x,k,h1⟩:=ih (a-1) (by omega) (by omega)
   refine ⟨sc (2 ^ (a-1)) few+c,2 ^ (a-1)+x,2 ^ (a-1)*few+k,?_⟩
   have:=Dn.more (few:=few) (power_pow (k:=a-1) (by omega)) h1
   rw [show 2*2 ^ (a-1)=2 ^ a by rw [Nat.mul_comm,← Nat.pow_succ]; congr 1; omega] at this
   exact this
end
/-! ### which locks are held-/
def hsF (nx:Nat) (w:Int) (i:Nat):Int:=if i=5 then (if 2≤nx∧nx≤11 then w else-1) else if i+2≤nx∧nx+i≤11 then w else-1
theorem hol_set {hs:List Int} (i j:Nat) (v:Int) (hi:i<hs.length):Lo.hol (hs.set i v) j=if j=i then v else Lo.hol hs j:=by
 unfold Lo.hol
 simp only [List.getD_eq_getElem?_getD]
 by_cases h:j=i
 · subst h; rw [if_pos rfl]; simp [hi]
 · rw [if_neg h,List.getElem?_set_ne (by omega)]
end Go.Proofs.YtkogifmjbmnpgaaGreat.Zr
namespace Go.Proofs.YtkogifmjbmnpgaaGreat.Zr
open Go Hm Ar Mm Wk Pc Me Mq Pu Pn Gt Qs Zp Mx LawTh Bs
inductive Dz
 | rest (Y:Rs)
 | gro (Z:Zs)
 | shr (Z:Js)
def Dz.wy:Dz→Wy
 | .rest Y=>Y.wy
 | .gro Z=>Z.wy
 | .shr Z=>Z.wy
def Dz.Ok (l:List Pr):Dz→Lm→Prop
 | .rest Y,L=>Bs.Rest l Y L
 | .gro Z,L=>ZD l Z L
 | .shr Z,L=>Sw.JD l Z L
def Dz.all:Dz→List Nat
 | .rest Y=>allh Y.n Y.cs
 | .gro Z=>allh Z.n Z.All
 | .shr Z=>allh (2*Z.n) Z.C
structure Kp (L L':Lm):Prop where
 ss:L'.ss.length=L.ss.length
 tk:∀ k,(at' L'.ss k).taken=(at' L.ss k).taken∧(at' L'.ss k).gen=(at' L.ss k).gen
 ws:L'.ws=L.ws
 k:L'.k=L.k
 F:L'.F=L.F
theorem Kp.refl (L:Lm):Kp L L:=⟨rfl,fun _=>⟨rfl,rfl⟩,rfl,rfl,rfl⟩
theorem Kp.of {L L' L'':Lm} (h:Kp L L') (h':Gw.Keep L' L''):Kp L L'':=⟨h'.ss.trans h.ss,fun k=>⟨(h'.tk k).1.trans (h.tk k).1,(h'.tk k).2.trans (h.tk k).2⟩,h'.ws.trans h.ws,h'.k.trans h.k,h'.F.trans h.F⟩
theorem Kp.more {L L' L'':Lm} (h:Kp L L') (e1:L''.ss=L'.ss) (e2:L''.ws=L'.ws) (e3:L''.k=L'.k) (e4:L''.F=L'.F):Kp L L'':=⟨by rw [e1]; exact h.ss,by rw [e1]; exact h.tk,e2.trans h.ws,e3.trans h.k,e4.trans h.F⟩
structure Num where
 X:Nat
 D:Nat
 P:Int
structure Rc (L0:Lm) (H:List Nat) (N:Num) (s:Nat) (D:Dz) (L:Lm) (R:Rz) (m:Nat):Prop where
 wk:0≤R.worker∧R.worker≤1000
 err:R.err=0
 sz:R.size=s
 kp:Kp L0 L
 hl:L.hs.length=6
 hs:∀ i,1≤i→i≤5→Lo.hol L.hs i=hsF R.nx R.worker i
 pd:Cl.nth L.xs 0+m≤N.P
 nb:N.X≤1048576∧N.D≤800000∧N.P≤1000000000000
 perm:(Dz.all D).Perm H
inductive Rp (N:Num) (l:List Pr) (s:Nat) (L:Lm) (R:Rz) (old:Nat→Int→Nat→Prop):Dz→Nat→Nat→Prop
 | take {m c:Nat} (Y:Rs) (cst x t a:Nat):1≤R.nx∧R.nx≤5→Ways Y.few s Y.n cst x t a→(6-R.nx)+cst+5≤m→a≤c→Y.cap+a≤1000000→L.xs.length+x≤N.X→L.ds.length+t≤N.D→Rp N l s L R old (.rest Y) m c
 | gro {m c:Nat} (Z:Zs) (G:Gw.Gr) (ls:List Pr) (mi ci cst x t d:Nat):R.nx=6→R.inn=.gro G→Gw.J Z.n ls Z old L G mi ci→Like ls l→(ls.map (·.1)).Nodup→Z.few=ls.length→Up Z.few s (2*Z.n) cst x t→mi+cst+5≤m→ci≤c→Z.B2+2*Z.n+x≤N.X→L.ds.length≤d+1∧(G.nx≤2→L.ds.length≤d)→d+1+t≤N.D→Rp N l s L R old (.gro Z) m c
 | shr {m c:Nat} (Z:Js) (G:Sw.Sh) (ls:List Pr) (mi ci cst x t a d:Nat):R.nx=6→R.inn=.shr G→Sw.J Z.n Z old L G mi ci→(∀ b,b<2*Z.n→prs (Z.C b)=own ls (2*Z.n) b)→(ls.map (·.1)).Nodup→Z.few=ls.length→Dn Z.few s Z.n cst x t a→mi+cst+5≤m→ci+a≤c→Z.cap+ci+a≤1000000→Z.B2+Z.n+x≤N.X→
    L.ds.length≤d+1∧(G.nx≤2→L.ds.length≤d)→d+1+t≤N.D→Rp N l s L R old (.shr Z) m c
 | free {m c:Nat} (Y:Rs):7≤R.nx∧R.nx≤11→Y.n=s→12-R.nx≤m→L.xs.length≤N.X∧L.ds.length≤N.D→Rp N l s L R old (.rest Y) m c
def J (L0:Lm) (H:List Nat) (N:Num) (s:Nat) (l:List Pr) (D:Dz) (old:Nat→Int→Nat→Prop) (L:Lm) (R:Rz) (m c:Nat):Prop:=
 Rc L0 H N s D L R m∧Rp N l s L R old D m c
def Bside (l:List Pr) (D:Dz) (L:Lm) (old:Nat→Int→Nat→Prop) (D':Dz) (L':Lm) (old':Nat→Int→Nat→Prop) (j:Nat):Prop:=
 ∀ (R:Rn) (k:Nat),(R.w:Int)<L.k→RnOk D.wy L l old R k→∃ k',k'≤k+j∧RnOk D'.wy L' l old' R k'
def Goes (L0:Lm) (H:List Nat) (N:Num) (s:Nat) (l:List Pr) (D:Dz) (old:Nat→Int→Nat→Prop) (L:Lm) (R:Rz) (m c:Nat):Prop:=
 ∃ D' old' m' c' j,m'+1≤m∧c'+j≤c∧J L0 H N s l D' old' (rstep L R).1 (rstep L R).2 m' c'∧Dz.Ok l D' (rstep L R).1∧Bside l D L old D' (rstep L R).1 old' j∧(∀ i:Nat,(i:Int)<L.k→Cl.nth (rstep L R).1.xs (2+i)=Cl.nth L.xs (2+i))∧(rstep L R).1.k=L.k
end Go.Proofs.YtkogifmjbmnpgaaGreat.Zr
namespace Go.Proofs.YtkogifmjbmnpgaaGreat.Zr
open Go Hm Ar Mm Wk Pc Me Mq Pu Pn Gt Qs Zp Mx LawTh Bs
section
variable {L0:Lm} {H:List Nat} {N:Num} {s:Nat} {l:List Pr} {D D':Dz} {L L':Lm} {R R':Rz} {m m' c c':Nat} {old old':Nat→Int→Nat→Prop} {Y:Rs}
theorem Dz.Ok.ways (h:D.Ok l L):D.wy.Ok L l:=by
 cases D with
 | rest Y=>exact Rest.ways h
 | gro Z=>exact ZD.ways h
 | shr Z=>exact h.1.ways
theorem Dz.Ok.few (h:D.Ok l L):D.wy.few≤35:=by
 cases D with
 | rest Y=>have h:Bs.Rest l Y L:=h; have:=h.few; show Y.few≤35; omega
 | gro Z=>exact h.2
 | shr Z=>exact h.2
theorem Rest.locks (h:Bs.Rest l Y L) {hs':List Int} (h0:Lo.hol hs' 0= -1) (hl:0<hs'.length):Bs.Rest l Y {L with hs:=hs'}:=
 ⟨{h.base with},h.like,h.few,h.cap,⟨h0,hl⟩,h.pos⟩
theorem Rest.counter (h:Bs.Rest l Y L) {w:Nat} (hw:(w:Int)<L.k) {p:Int} (hp:0≤p∧p≤18446744073709551615):Bs.Rest l Y {L with xs:=L.xs.set (2+w) p}:=by
 have hb:=h.base
 have hkB:=hb.kB
 have hxl:=hb.xl
 have hn1:=hb.n1
 have hn:∀ i,i≠2+w→Cl.nth (L.xs.set (2+w) p) i=Cl.nth L.xs i:=fun i hi=>by rw [nth_set _ _ _ (by omega),if_neg hi]
 refine ⟨{hb with now:=?_,tabs:=Gw.tabs_len hb.tabs (by simp),xl:=by simpa using hb.xl,xm:=by simpa using hb.xm,xb:=fun x hx=>?_,p1:=by show 1≤Cl.nth (L.xs.set _ _) 0; rw [hn 0 (by omega)]; exact hb.p1,cx:=fun b hb'=>?_},h.like,h.few,h.cap,h.hol,h.pos⟩
 · have:=hb.now
   unfold Me.now at this ⊢
   rw [hn 1 (by omega)]
   exact this
 · rcases List.mem_or_eq_of_mem_set hx with q | rfl
   · exact hb.xb x q
   · exact hp
 · show Cx L.ss (Cl.nth (L.xs.set _ _) _).toNat _
   rw [hn _ (by omega)]
   exact hb.cx b hb'
theorem Dz.Ok.counter (h:D.Ok l L) {w:Nat} (hw:(w:Int)<L.k) {p:Int} (hp:0≤p∧p≤18446744073709551615):D.Ok l {L with xs:=L.xs.set (2+w) p}:=by
 cases D with
 | rest Y=>exact Rest.counter h hw hp
 | gro Z=>exact ⟨h.1.counter hw hp,h.2⟩
 | shr Z=>exact ⟨h.1.counter hw hp,h.2⟩
theorem hsF_set {nx i:Nat} {w v:Int} {hs:List Int} (hl:hs.length=6) (h:∀ j,1≤j→j≤5→Lo.hol hs j=hsF nx w j) (hi:1≤i∧i≤5) {nx':Nat} (h1:hsF nx' w i=v) (h2:∀ j,1≤j→j≤5→j≠i→hsF nx' w j=hsF nx w j):∀ j,1≤j→j≤5→Lo.hol (hs.set i v) j=hsF nx' w j:=fun j a b=>by
 rw [hol_set _ _ _ (by omega)]
 by_cases e:j=i
 · rw [if_pos e,e,h1]
 · rw [if_neg e,h2 j a b e,h j a b]
theorem Rc.to (h:Rc L0 H N s D L R m) (h1:R'.worker=R.worker∧R'.size=R.size) (he:R'.err=0) (hm:Cl.nth L'.xs 0+m'≤N.P) (hk:Kp L0 L') (hl:L'.hs.length=6) (hs:∀ i,1≤i→i≤5→Lo.hol L'.hs i=hsF R'.nx R'.worker i) (hp:(Dz.all D').Perm (Dz.all D)):Rc L0 H N s D' L' R' m':=
 ⟨by rw [h1.1]; exact h.wk,he,by rw [h1.2]; exact h.sz,hk,hl,hs,hm,h.nb,hp.trans h.perm⟩
theorem J.ok (h:J L0 H N s l D old L R m c) (hD:D.Ok l L):Okrz L R:=by
 obtain ⟨hc,hp⟩:=h
 have hY:=hD.ways
 have hwl:=hY.wl 0 (by have:=hY.k; omega)
 have htb:∀ i,(tab L.ds i).1≤65536:=fun i=>(hY.tb i).1
 have hwk:=hc.wk
 have held:7≤R.nx→R.nx≤10→Lo.hol L.hs (11-R.nx)=R.worker:=fun a b=>by
  rw [hc.hs _ (by omega) (by omega)]
  unfold hsF
  rw [if_neg (by omega),if_pos (by omega)]
 have last:R.nx=11→Lo.hol L.hs 5=R.worker:=fun a=>by
  rw [hc.hs _ (by omega) (by omega)]
  unfold hsF
  rw [if_pos rfl,if_pos (by omega)]
 cases hp with
 | take Y cst x t a q _ _ _ _ _ _=>exact ⟨by omega,by omega,hc.hl,fun _=>hwk,htb,fun e=>by omega,held,last⟩
 | gro Z G ls mi ci cst x t d e1 e2 e3 e4 _ _ _ _ _ _ _ _=>exact ⟨by omega,by omega,hc.hl,fun _=>hwk,htb,fun _=>.inl ⟨G,e2,e3.ok (ZD.like e4.symm hD)⟩,held,last⟩
 | shr Z G ls mi ci cst x t a d e1 e2 e3 _ _ _ _ _ _ _ _ _ _=>exact ⟨by omega,by omega,hc.hl,fun _=>hwk,htb,fun _=>.inr ⟨G,e2,e3.ok hD⟩,held,last⟩
 | free Y q _ _ _=>exact ⟨by omega,by omega,hc.hl,fun _=>hwk,htb,fun e=>by omega,held,last⟩
theorem J.pos (h:J L0 H N s l D old L R m c):1≤m:=by
 cases h.2 with
 | take Y cst x t a q _ h _ _ _ _=>omega
 | gro Z G ls mi ci cst x t d e1 e2 e3 e4 _ _ _ h _ _ _ _=>omega
 | shr Z G ls mi ci cst x t a d e1 e2 e3 _ _ _ _ h _ _ _ _ _=>omega
 | free Y q _ h _=>omega
theorem looked {cst x t a:Nat} (hc:Rc L0 H N s (.rest Y) L R m) (hY:Bs.Rest l Y L) (hw:Ways Y.few s Y.n cst x t a) (hx:L.xs.length+x≤N.X) (ht:L.ds.length+t≤N.D) (hcap:Y.cap+a≤1000000) (hm:cst+5≤m) (hac:a≤c) (hL6:hsF 6 R.worker=hsF R.nx R.worker):
 ∃ D' old',J L0 H N s l D' old' L (look L R) m c∧D'.Ok l L∧Bside l (.rest Y) L old D' L old' 0:=by
 have hnow:=hY.base.now
 have hn1:=hY.base.n1
 have hsz:=hc.sz
 have hpd:=hc.pd
 have hnb:=hc.nb
 have hl67:hsF 7 R.worker=hsF 6 R.worker:=by
  funext i
  unfold hsF
  by_cases h5:i=5
  · rw [if_pos h5,if_pos h5]; simp
  · rw [if_neg h5,if_neg h5]
    by_cases q:i≤4
    · rw [if_pos (by omega),if_pos (by omega)]
    · rw [if_neg (by omega),if_neg (by omega)]
 unfold look
 rw [hnow,hsz]
 simp only
 rcases hw with hw | hw
 · cases hw with
   | done=>
     rw [if_pos rfl]
     exact ⟨.rest Y,old,⟨hc.to ⟨rfl,hsz▸rfl⟩ hc.err hpd hc.kp hc.hl (fun i a b=>by rw [hc.hs i a b]; show _=hsF 7 R.worker i; rw [hl67,hL6]) (List.Perm.refl _),.free Y ⟨by simp,by simp⟩ rfl (by simp only; omega) ⟨by omega,by omega⟩⟩,hY,fun _ k _ hR=>⟨k,Nat.le_refl _,hR⟩⟩
   | @more _ c' x' t' hp2 hup=>
     have hle:=hup.le
     rw [if_neg (by omega),if_pos (by omega)]
     obtain ⟨Z,hZ,z1,z2,z3,z4,z5,hJ,hR⟩:=Rest.grows hY hp2 hc.wk (by omega) (by omega) (by omega)
     rw [← z3,← z1] at hup
     rw [← z1] at hJ
     refine ⟨.gro Z,fun _ _ _=>True,⟨hc.to ⟨rfl,hsz▸rfl⟩ hc.err hpd hc.kp hc.hl (fun i a b=>by rw [hc.hs i a b]; show _=hsF 6 R.worker i; rw [hL6]) (by show (allh Z.n Z.All).Perm (allh Y.n Y.cs); rw [z1,z2]),.gro Z (Gw.newGro R.worker) Y.ls _ _ _ _ _ L.ds.length rfl rfl hJ hY.like hY.base.keys (by rw [z3]; exact hY.few.1) hup ?_ (Nat.zero_le _) ?_ ⟨by omega,fun _=>Nat.le_refl _⟩ (by omega)⟩,ZD.like hY.like hZ,fun R k _ h=>⟨k,Nat.le_refl _,hR R k h⟩⟩
     · have:gc Y.n Y.few=2+Y.n*(Y.few+4)+(1+12*(Y.few+1)+Y.n*Y.few):=rfl
       rw [z1]
       omega
     · have h1:=hJ.1.xl
       rw [if_pos (show (Gw.newGro R.worker).nx≤2 by show 1≤2; omega)] at h1
       omega
 · rcases hw.inv with ⟨e,e1,e2,e3,e4⟩ | ⟨q,c',x',t',a',e,hpq,hdn,e1,e2,e3,e4⟩
   · rw [if_pos (by omega)]
     exact ⟨.rest Y,old,⟨hc.to ⟨rfl,hsz▸rfl⟩ hc.err hpd hc.kp hc.hl (fun i a b=>by rw [hc.hs i a b]; show _=hsF 7 R.worker i; rw [hl67,hL6]) (List.Perm.refl _),.free Y ⟨by simp,by simp⟩ e (by simp only; omega) ⟨by omega,by omega⟩⟩,hY,fun _ k _ hR=>⟨k,Nat.le_refl _,hR⟩⟩
   · have hle:=hdn.le
     have hq1:=FM.power_bd hpq
     rw [if_neg (by omega),if_neg (by omega)]
     obtain ⟨Z,hZ,z1,z2,z3,z4,hJ,hR⟩:=Rest.shrinks (old:=old) (old':=old) hY e.symm hpq hc.wk (by omega) (by omega) (by omega) (by omega)
     have hown:=hY.base.own
     rw [e] at hown
     rw [← z3,← z1] at hdn
     rw [← z1] at hJ
     refine ⟨.shr Z,old,⟨hc.to ⟨rfl,hsz▸rfl⟩ hc.err hpd hc.kp hc.hl (fun i a b=>by rw [hc.hs i a b]; show _=hsF 6 R.worker i; rw [hL6]) (by show (allh (2*Z.n) Z.C).Perm (allh Y.n Y.cs); rw [z1,z2,e]),.shr Z (Sw.newShr R.worker) Y.ls _ _ _ _ _ _ L.ds.length rfl rfl hJ (by rw [z1,z2]; exact hown) hY.base.keys (by rw [z3]; exact hY.few.1) hdn ?_ ?_ ?_ ?_ ⟨by omega,fun _=>Nat.le_refl _⟩ (by omega)⟩,⟨Js.Ok.like hY.like hZ.1,hZ.2⟩,fun R k _ h=>⟨k,Nat.le_refl _,hR R k h⟩⟩
     · have:sc q Y.few=2+q*(Y.few+4)+12:=rfl
       rw [z1]
       omega
     · rw [z1]; omega
     · rw [z1,z4]; omega
     · have h1:=hJ.1.xl
       rw [if_pos (show (Sw.newShr R.worker).nx≤2 by show 1≤2; omega)] at h1
       omega
end
end Go.Proofs.YtkogifmjbmnpgaaGreat.Zr
