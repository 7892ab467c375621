/- Walks and plain mathematics, put together in their order: GroP, GroQ, GroR, ShrH, ShrI, ShrJ, GroT. -/
import Derived.Test.YtpobbnllcoabhaaGreatDoorPart7
set_option linter.unusedVariables false
set_option linter.unusedSimpArgs false
namespace Go.Proofs.YtpobbnllcoabhaaGreatDoor.Gw
open Go Hm Ar Mm Wk Pc Me Mq Pu Pn Gt Qs Zp Mx
section
variable {n0:Nat} {l:List Pr} {Z:Zs} {L:Lm} {G:Gr} {m c:Nat} {old:Nat→Int→Nat→Prop}
theorem gready_7 (h:gready L G=false):G.nx=7∧readyB L.xs L.hs G.W=false:=by
 unfold gready at h
 split at h
 · rename_i e; exact ⟨e,h⟩
 · simp at h
theorem J.wait (h:J n0 l Z old L G m c) (hr:gready L G=false):∃ i:Nat,(i:Int)<L.k∧Cl.nth L.xs (2+i)≠0:=by
 obtain ⟨hc,hp⟩:=h
 have hk:=hc.k
 obtain ⟨h7,hr⟩:=gready_7 hr
 cases hp with
 | p7 t ids a b c d e f g h i j k l=>
   unfold readyB at hr
   split at hr
   · rename_i h0
     unfold takeB at hr
     have:=of_decide_eq_false hr
     exact absurd ⟨e,g h0⟩ this
   split at hr
   · rename_i h2
     unfold passB at hr
     have hd:=of_decide_eq_false hr
     have hpp:=d.passed.2 (by omega)
     exact ⟨G.W.passed,by omega,fun q=>hd (.inl q)⟩
   · simp at hr
 | p1 a _ _ _ _ _=>omega
 | p2 a _ _ _ _ _=>omega
 | p3 a _ _ _ _ _ _=>omega
 | p4 p q a _ _ _ _ _ _ _ _ _ _=>omega
 | p5 a _ _ _ _ _ _ _ _=>omega
 | p6 a _ _ _ _ _=>omega
 | p8 t ids ids' a _ _ _ _ _ _ _ _ _ _ _=>omega
theorem J.fits (h:Jc n0 l Z L G m) (hZ:ZD l Z L) (h2:G.nx=2):FM.power ((2*G.el.1:Nat):Int)=true∧L.xs.length+2*G.el.1≤1048576:=by
 have hb:=h.xb
 have hl:=h.xl
 rw [if_pos (by omega)] at hl
 rw [h.el (by omega)]
 exact ⟨hZ.1.pw2,by simp only; omega⟩
theorem gstep7 (h7:G.nx=7):gstep L G=({L with xs:=(wstep L.k.toNat L.xs L.hs G.W).1,hs:=(wstep L.k.toNat L.xs L.hs G.W).2.1},{G with W:=(wstep L.k.toNat L.xs L.hs G.W).2.2,nx:=if G.W.at_=3 then (if G.pass=[] then 9 else 8) else 7}):=by
 unfold gstep; rw [if_neg (by omega),if_neg (by omega),if_neg (by omega),if_neg (by omega),if_neg (by omega),if_neg (by omega),if_pos h7]
def Goes (n0:Nat) (l:List Pr) (Z:Zs) (old:Nat→Int→Nat→Prop) (L:Lm) (G:Gr) (m c:Nat):Prop:=
 ∃ Z' old' m' c' j,m'+1≤m∧c'+j≤c∧J n0 l Z' old' (gstep L G).1 (gstep L G).2 m' c'∧ZD l Z' (gstep L G).1∧
   (∀ (R:Rn) (k:Nat),(R.w:Int)<L.k→RnOk Z.wy L l old R k→∃ k',k'≤k+j∧RnOk Z'.wy (gstep L G).1 l old' R k')∧(∀ i:Nat,(i:Int)<L.k→Cl.nth (gstep L G).1.xs (2+i)=Cl.nth L.xs (2+i))∧(gstep L G).1.k=L.k∧Z'.All=Z.All∧Z'.few=Z.few∧Z'.cap=Z.cap∧Z'.B2=Z.B2
theorem Goes.of {L':Lm} {G':Gr} {Z':Zs} {old':Nat→Int→Nat→Prop} {m':Nat} (e:gstep L G=(L',G')) (hm:m'+1≤m) (hJ:J n0 l Z' old' L' G' m' c) (hZ:ZD l Z' L') (hB:Beside l Z L old Z' L' old') (h3:∀ i:Nat,(i:Int)<L.k→Cl.nth L'.xs (2+i)=Cl.nth L.xs (2+i)) (hk:L'.k=L.k:=by rfl) (hA:Z'.All=Z.All∧Z'.few=Z.few∧Z'.cap=Z.cap∧Z'.B2=Z.B2:=by exact ⟨rfl,rfl,rfl,rfl⟩):Goes n0 l Z old L G m c:=by
 refine ⟨Z',old',m',c,0,hm,Nat.le_refl _,?_⟩
 rw [e]
 exact ⟨hJ,hZ,hB,h3,hk,hA.1,hA.2.1,hA.2.2.1,hA.2.2.2⟩
theorem Beside.refl (l:List Pr) (Z:Zs) (L:Lm) (old:Nat→Int→Nat→Prop):Beside l Z L old Z L old:=fun _ k _ h=>⟨k,Nat.le_refl _,h⟩
theorem J.go1 (h:J n0 l Z old L G m c) (hZ:ZD l Z L) (h1:G.nx=1):Goes n0 l Z old L G m c:=by
 obtain ⟨hc,hp⟩:=h
 cases hp with
 | p1 a b c d e f=>
   have hnow:=hZ.1.now
   rw [b,if_neg (by simp)] at hnow
   have es:gstep L G=(L,{G with el:=now L.xs L.ds,nx:=2}):=by unfold gstep; rw [if_pos h1]
   rw [hnow] at es
   refine Goes.of (m':=m-1) es (by omega) ⟨⟨hc.nn,hc.al,hc.wk,hc.err,fun _=>rfl,hc.k,?_,hc.hl,fun _=>hc.hol (by omega),hc.xb,?_,?_,fun q=>?_,fun _=>hc.later (by omega),hc.bk,hc.b5,hc.pos,hc.tabs⟩,?_⟩ hZ (Beside.refl _ _ _ _) (fun _ _=>rfl)
   · have:=hc.pd; omega
   · have:=hc.xl
     rw [if_pos (by omega)] at this
     rw [if_pos (by simp)]
     exact this
   · exact ⟨hc.ds.1,fun _=>hc.ds.2 (by omega)⟩
   · simp only at q; omega
   · exact .p2 rfl b c d e (by omega)
 | p2 a _ _ _ _ _=>omega
 | p3 a _ _ _ _ _ _=>omega
 | p4 p q a _ _ _ _ _ _ _ _ _ _=>omega
 | p5 a _ _ _ _ _ _ _ _=>omega
 | p6 a _ _ _ _ _=>omega
 | p7 t ids a _ _ _ _ _ _ _ _ _ _ _=>omega
 | p8 t ids ids' a _ _ _ _ _ _ _ _ _ _ _=>omega
theorem J.go2 (h:J n0 l Z old L G m c) (hZ:ZD l Z L) (h2:G.nx=2):Goes n0 l Z old L G m c:=by
 obtain ⟨hc,hp⟩:=h
 have hf:=J.fits hc hZ h2
 have hn:=n_bd hZ
 cases hp with
 | p2 a b cc d e f=>
   have hlen:=hc.xl
   rw [if_pos (by omega)] at hlen
   have es:gstep L G=({L with xs:=L.xs++List.replicate (2*Z.n) 0,ds:=L.ds++[(2*Z.n,Z.B2)]},{G with num:=L.ds.length,err:=0,nw:=(2*Z.n,Z.B2),nx:=3}):=by
    unfold gstep
    rw [if_neg (by omega),if_pos h2,if_pos hf,hc.el (by omega),hlen]
   have hb:=beside_cells (old:=old) hZ (xs':=L.xs++List.replicate (2*Z.n) 0) (hs':=L.hs) (ds':=L.ds++[(2*Z.n,Z.B2)]) (ws':=L.ws) (fun i _ _=>nth_app i) (fun q=>by rw [b] at q; simp at q) (by simp) (fun x hx=>by
    rcases List.mem_append.1 hx with q | q
    · exact hZ.1.xb x q
    · have:=(List.mem_replicate.1 q).2
      omega) (by
    have hnow:=hZ.1.now
    rw [b,if_neg (by simp)] at hnow
    unfold Me.now at hnow ⊢
    rw [nth_app,tab_app,if_neg]
    intro q
    rw [q,tab_none (Nat.le_refl _)] at hnow
    injection hnow with q1 _
    omega) (fun i=>by
    rw [tab_app]
    split
    · have:=hc.xb; simp only; omega
    · exact hZ.1.tb i) (by rw [nth_app]; exact Int.le_refl _)
   refine Goes.of (m':=m-1) es (by omega) ⟨⟨hc.nn,hc.al,hc.wk,rfl,fun _=>hc.el (by omega),hc.k,by show Cl.nth (L.xs++_) 0+_≤_; rw [nth_app]; have:=hc.pd; omega,hc.hl,fun _=>hc.hol (by omega),hc.xb,?_,?_,fun _=>⟨rfl,L.ds.length,rfl,by have:=hc.ds.1; omega,by show tab (L.ds++_) _=_; rw [tab_app,if_pos rfl]⟩,fun _=>hc.later (by omega),hc.bk,hc.b5,hc.pos,?_⟩,?_⟩ hb.1 hb.2 (fun _ _=>nth_app _)
   · rw [if_neg (by simp)]
     simp [hlen]
   · have:=hc.ds.2 (by omega)
     exact ⟨by simp only [List.length_append,List.length_singleton]; omega,fun q=>by simp only at q; omega⟩
   · intro i hi
     show 1≤(tab (L.ds++_) i).1∧(tab (L.ds++_) i).1≤65536∧(tab (L.ds++_) i).2+(tab (L.ds++_) i).1≤(L.xs++List.replicate (2*Z.n) 0).length
     have hpb:=FM.power_bd hZ.1.pw2
     rw [tab_app]
     split
     · simp only [List.length_append,List.length_replicate]
       omega
     · have hi':i<(L.ds++[(2*Z.n,Z.B2)]).length:=hi
       simp only [List.length_append,List.length_singleton] at hi'
       have:=hc.tabs i (by omega)
       simp only [List.length_append,List.length_replicate]
       omega
   · have hb0:({G with num:=L.ds.length,err:=0,nw:=(2*Z.n,Z.B2),nx:=3}:Gr).bucket=0:=d
     refine .p3 rfl b cc (by rw [hb0]; omega) (fun k hk=>?_) ⟨[],?_,List.nodup_nil,by simp,fun q hq=>by rw [hb0] at hq; omega,?_,?_⟩ ?_
     · show Cl.nth (L.xs++_) _=_
       rw [nth_app,nth_beyond (by omega),hb0,if_neg (by rintro (q | ⟨_,q⟩)<;>omega)]
     · show Wth _ [] G.pass
       rw [e]; exact .nil
     · show ∀ l∈G.pass,_
       rw [e]; simp
     · show tot G.pass≤_
       rw [e]; simp [tot]
     · rw [hb0]
       simp only [Nat.sub_zero]
       omega
 | p1 a _ _ _ _ _=>omega
 | p3 a _ _ _ _ _ _=>omega
 | p4 p q a _ _ _ _ _ _ _ _ _ _=>omega
 | p5 a _ _ _ _ _ _ _ _=>omega
 | p6 a _ _ _ _ _=>omega
 | p7 t ids a _ _ _ _ _ _ _ _ _ _ _=>omega
 | p8 t ids ids' a _ _ _ _ _ _ _ _ _ _ _=>omega
end
end Go.Proofs.YtpobbnllcoabhaaGreatDoor.Gw
namespace Go.Proofs.YtpobbnllcoabhaaGreatDoor.Gw
open Go Hm Ar Mm Wk Pc Me Mq Pu Pn Gt Qs Zp Mx
section
variable {n0:Nat} {l:List Pr} {Z:Zs} {L:Lm} {G G':Gr} {m m' c:Nat} {old:Nat→Int→Nat→Prop}
theorem Jc.to (h:Jc n0 l Z L G m) (h1:G'.worker=G.worker∧G'.err=G.err∧G'.el=G.el∧G'.nw=G.nw∧G'.num=G.num∧G'.later=G.later) (hb:G'.bucket≤Z.n) (h3:3≤G.nx∧G.nx≤6) (h3':3≤G'.nx∧G'.nx≤7) (hm:m'≤m):Jc n0 l Z L G' m':=by
 obtain ⟨e1,e2,e3,e4,e5,e6⟩:=h1
 have hpd:=h.pd
 have hxl:=h.xl
 rw [if_neg (by omega)] at hxl
 exact ⟨h.nn,h.al,by rw [e1]; exact h.wk,by rw [e2]; exact h.err,fun _=>by rw [e3]; exact h.el (by omega),h.k,by omega,h.hl,fun _=>h.hol (by omega),h.xb,by rw [if_neg (by omega)]; exact hxl,⟨h.ds.1,fun q=>by omega⟩,
  fun _=>by rw [e4,e5]; exact h.nw (by omega),fun _=>by rw [e6]; exact h.later (by omega),hb,h.b5,h.pos,h.tabs⟩
theorem Jc.cells (h:Jc n0 l Z L G m) {xs':List Int} (hl:xs'.length=L.xs.length) (h0:Cl.nth xs' 0=Cl.nth L.xs 0):Jc n0 l Z {L with xs:=xs'} G m:=
 {h with pd:=by show Cl.nth xs' 0+_≤_; rw [h0]; exact h.pd,xl:=by show xs'.length=_; rw [hl]; exact h.xl,tabs:=tabs_len h.tabs hl}
theorem half_bd {h:Nat} (hh:h≤2) (fi:Nat×Nat):h≤half2 h fi∧half2 h fi≤2∧∀ i,h≤i→i<half2 h fi→sel fi i=0:=by
 have:h=0∨h=1∨h=2:=by omega
 have z0:∀ i,i=0→fi.1=0→sel fi i=0:=fun i q h=>by unfold sel; rw [if_pos q]; exact h
 have z1:∀ i,i≠0→fi.2=0→sel fi i=0:=fun i q h=>by unfold sel; rw [if_neg q]; exact h
 by_cases h1:fi.1=0
 · by_cases h2:fi.2=0
   · rcases this with rfl | rfl | rfl
     · have e:half2 0 fi=2:=by simp [half2,half1,h1,h2]
       rw [e]
       exact ⟨by omega,by omega,fun i _ q=>by
        by_cases hi:i=0
        · exact z0 i hi h1
        · exact z1 i hi h2⟩
     · have e:half2 1 fi=2:=by simp [half2,half1,h2]
       rw [e]
       exact ⟨by omega,by omega,fun i _ q=>z1 i (by omega) h2⟩
     · have e:half2 2 fi=2:=by simp [half2,half1]
       rw [e]
       exact ⟨by omega,by omega,fun i _ q=>by omega⟩
   · rcases this with rfl | rfl | rfl
     · have e:half2 0 fi=1:=by simp [half2,half1,h1,h2]
       rw [e]
       exact ⟨by omega,by omega,fun i _ q=>z0 i (by omega) h1⟩
     · have e:half2 1 fi=1:=by simp [half2,half1,h2]
       rw [e]
       exact ⟨by omega,by omega,fun i _ q=>by omega⟩
     · have e:half2 2 fi=2:=by simp [half2,half1]
       rw [e]
       exact ⟨by omega,by omega,fun i _ q=>by omega⟩
 · rcases this with rfl | rfl | rfl
   · have e:half2 0 fi=0:=by simp [half2,half1,h1]
     rw [e]
     exact ⟨by omega,by omega,fun i _ q=>by omega⟩
   · by_cases h2:fi.2=0
     · have e:half2 1 fi=2:=by simp [half2,half1,h2]
       rw [e]
       exact ⟨by omega,by omega,fun i _ q=>z1 i (by omega) h2⟩
     · have e:half2 1 fi=1:=by simp [half2,half1,h2]
       rw [e]
       exact ⟨by omega,by omega,fun i _ q=>by omega⟩
   · have e:half2 2 fi=2:=by simp [half2,half1]
     rw [e]
     exact ⟨by omega,by omega,fun i _ q=>by omega⟩
theorem sto (hc:Jc n0 l Z L G m) (hZ:ZD l Z L) (hp:Z.pub=false) (ho:∀ w p e,old w p e) (hx:3≤G.nx∧G.nx≤5) (hb:G.bucket<Z.n) (hh:G.half≤2) (hcel:Cel Z L G.bucket G.half) (hlst:Lst Z G (G.bucket+1))
 (hfi:∀ b,sel G.C.fi (hf b)=hdH ((Z.All G.bucket).filter fun a=>sd Z.n a.2.1==b)) (hm:(2-G.half)+(Z.n-G.bucket-1)*(Z.few+4)+mB Z≤m') (hm':m'≤m):J n0 l Z old L (toStore G) m' c:=by
 obtain ⟨h1,h2,h3⟩:=half_bd hh G.C.fi
 have hn:=n_bd hZ
 have hc2:Cel Z L G.bucket (half2 G.half G.C.fi):=fun d hd=>by
  rw [hcel d hd]
  by_cases q:d % Z.n<G.bucket∨(d % Z.n=G.bucket∧d<Z.n*G.half)
  · rw [if_pos q,if_pos]
    refine q.imp id fun q=>⟨q.1,Nat.lt_of_lt_of_le q.2 (Nat.mul_le_mul_left _ h1)⟩
  · rw [if_neg q]
    split
    · rename_i q2
      rcases q2 with q2 | ⟨q2,q3⟩
      · exact absurd (.inl q2) q
      · have hd1:Z.n*G.half≤d:=by
         rcases Nat.lt_or_ge d (Z.n*G.half) with a | a
         · exact absurd (.inr ⟨q2,a⟩) q
         · exact a
        rw [fresh_head hZ hp hd,q2,← hfi,h3]
        · rfl
        · unfold hf
          split
          · rename_i q4
            have q4:=of_decide_eq_true q4
            rcases Nat.lt_or_ge G.half 2 with a | a
            · omega
            · have:G.half=2:=by omega
              rw [this] at hd1
              omega
          · rename_i q4
            have q4:¬Z.n≤d:=fun a=>q4 (decide_eq_true a)
            rcases Nat.eq_zero_or_pos G.half with a | a
            · omega
            · have:=Nat.mul_le_mul_left Z.n (show 1≤G.half from a)
              omega
        · unfold hf
          split
          · rename_i q4
            have q4:=of_decide_eq_true q4
            rcases Nat.lt_or_ge 1 (half2 G.half G.C.fi) with a | a
            · exact a
            · have:=Nat.mul_le_mul_left Z.n a
              omega
          · rcases Nat.eq_zero_or_pos (half2 G.half G.C.fi) with a | a
            · rw [a] at q3; omega
            · exact a
    · rfl
 unfold toStore
 split
 · rename_i hlt
   refine ⟨hc.to ⟨rfl,rfl,rfl,rfl,rfl,rfl⟩ (by simp only; omega) (by omega) ⟨by simp only; omega,by simp only; omega⟩ hm',.p5 rfl hp ho hb hc2 hlst hfi (by simp only; omega) ?_⟩
   simp only
   omega
 · rename_i hlt
   have he:half2 G.half G.C.fi=2:=by omega
   have hc3:Cel Z L (G.bucket+1) 0:=fun d hd=>by
    rw [hc2 d hd,he]
    have:(d % Z.n<G.bucket∨(d % Z.n=G.bucket∧d<Z.n*2))↔(d % Z.n<G.bucket+1∨(d % Z.n=G.bucket+1∧d<Z.n*0)):=by omega
    by_cases q:d % Z.n<G.bucket∨(d % Z.n=G.bucket∧d<Z.n*2)
    · rw [if_pos q,if_pos (this.1 q)]
    · rw [if_neg q,if_neg (fun a=>q (this.2 a))]
   have hel:G.el.1=Z.n:=by rw [hc.el (by omega)]
   rw [hel]
   by_cases hq:G.bucket+1=Z.n
   · rw [if_pos hq]
     refine ⟨hc.to ⟨rfl,rfl,rfl,rfl,rfl,rfl⟩ (by simp only; omega) (by omega) ⟨by simp only; omega,by simp only; omega⟩ hm',.p6 rfl hp ho (by rw [← hq]; exact hc3) (by rw [← hq]; exact hlst) (by omega)⟩
   · rw [if_neg hq]
     refine ⟨hc.to ⟨rfl,rfl,rfl,rfl,rfl,rfl⟩ (by simp only; omega) (by omega) ⟨by simp only; omega,by simp only; omega⟩ hm',.p3 rfl hp ho (by simp only; omega) hc3 hlst ?_⟩
     simp only
     rw [show Z.n-(G.bucket+1)=Z.n-G.bucket-1 by omega]
     omega
theorem com (hc:Jc n0 l Z L G m) (hZ:ZD l Z L) (hp:Z.pub=false) (ho:∀ w p e,old w p e) (hx:3≤G.nx∧G.nx≤4) (hb:G.bucket<Z.n) (hcel:Cel Z L G.bucket 0) (hlst:Lst Z G G.bucket)
 {p q:List Mq.Hp} (hA:Z.All G.bucket=p++q) (hC:G.C=chn (sd Z.n) p) (hm:q.length+3+(Z.n-G.bucket-1)*(Z.few+4)+mB Z≤m') (hm':m'≤m):J n0 l Z old L (comeTo G (hdH q)) m' c:=by
 have h0:∀ e∈Z.All G.bucket,e.1≠0:=fun e he=>(hc.pos _ hb e he).1
 unfold comeTo
 cases q with
 | cons e q'=>
   rw [if_neg (by rw [hA] at h0; exact h0 e (by simp))]
   exact ⟨hc.to ⟨rfl,rfl,rfl,rfl,rfl,rfl⟩ (by simp only; omega) (by omega) ⟨by simp only; omega,by simp only; omega⟩ hm',.p4 p (e::q') rfl hp ho hb hcel hlst hA (by simp) rfl hC hm⟩
 | nil=>
   rw [List.append_nil] at hA
   rw [if_pos (show hdH []=0 from rfl)]
   obtain ⟨f1,f2,f3,f4⟩:=fresh_cx hZ hp hb
   have hln:=lnk_whole (sd Z.n) f3 f4 h0
   have hgo:=gone_chn (sd Z.n) _ (Z.All G.bucket) rfl h0
   rw [hA,← hC] at hln hgo
   have hfew:=hZ.1.few.1 _ hb
   have hrl:(Z.rest G.bucket).length≤Z.few:=by
    have:=congrArg List.length f4
    rw [List.length_append] at this
    omega
   obtain ⟨ids,w1,w2,w3,w4,w5,w6⟩:=hlst
   have hmul:(G.bucket+1)*Z.few=G.bucket*Z.few+Z.few:=Nat.succ_mul _ _
   unfold endChain
   refine sto (G:={G with pass:=if G.C.over=[] then G.pass else G.pass++[G.C.over],half:=0}) (hc.to (m':=m) ⟨rfl,rfl,rfl,rfl,rfl,rfl⟩ (by simp only; omega) (by omega) ⟨by simp only; omega,by simp only; omega⟩ (Nat.le_refl _)) hZ hp ho (by simp only; omega) hb (by simp) hcel ?_ ?_ ?_ hm'
   · by_cases hov:G.C.over=[]
     · rw [hov] at hln
       have hre:=hln.none
       refine ⟨ids,?_,w2,fun e he=>?_,fun e he hne=>?_,?_,?_⟩
       · show Wth _ ids (if G.C.over=[] then _ else _)
         rw [if_pos hov]; exact w1
       · have:=w3 e he
         simp only
         omega
       · simp only at he
         by_cases hq:e=G.bucket
         · rw [hq]; exact hre
         · exact w4 e (by omega) hne
       · show ∀ l∈(if G.C.over=[] then _ else _),_
         rw [if_pos hov]; exact w5
       · show tot (if G.C.over=[] then _ else _)≤_
         rw [if_pos hov,hmul]; omega
     · refine ⟨ids++[G.bucket],?_,?_,fun e he=>?_,fun e he hne=>?_,?_,?_⟩
       · show Wth _ _ (if G.C.over=[] then _ else _)
         rw [if_neg hov]
         exact w1.snoc ⟨hb,hov,hln⟩
       · refine List.nodup_append.2 ⟨w2,by simp,fun a ha b hb' e=>?_⟩
         have:=w3 a ha
         have hbe:b=G.bucket:=by simpa using hb'
         omega
       · rcases List.mem_append.1 he with q | q
         · have:=w3 e q
           simp only
           omega
         · have:e=G.bucket:=by simpa using q
           simp only
           omega
       · simp only at he
         by_cases hq:e=G.bucket
         · exact absurd (by rw [hq]; simp) hne
         · exact w4 e (by omega) fun q=>hne (by simp [q])
       · show ∀ l∈(if G.C.over=[] then _ else _),_
         rw [if_neg hov]
         intro l hl
         rcases List.mem_append.1 hl with q | q
         · exact w5 l q
         · have:l=G.C.over:=by simpa using q
           rw [this]
           exact Nat.le_trans hln.le hrl
       · show tot (if G.C.over=[] then _ else _)≤_
         rw [if_neg hov,hmul,tot_snoc]
         have:=hln.le
         omega
   · intro b
     show sel G.C.fi (hf b)=_
     rw [hgo.fi b,hA]
   · simp only [List.length_nil] at hm ⊢
     omega
theorem J.go3 (h:J n0 l Z old L G m c) (hZ:ZD l Z L) (h3:G.nx=3):Goes n0 l Z old L G m c:=by
 obtain ⟨hc,hp⟩:=h
 cases hp with
 | p3 a b d e f g i=>
   have es:gstep L G=(L,comeTo {G with C:=.new} (hdH (Z.All G.bucket))):=by
    unfold gstep
    rw [if_neg (by omega),if_neg (by omega),if_pos h3,hc.el (by omega),hZ.1.elder _ e,Int.toNat_natCast]
   have hfew:=hZ.1.few.1 _ e
   have hmul:(Z.n-G.bucket)*(Z.few+4)=(Z.n-G.bucket-1)*(Z.few+4)+(Z.few+4):=by
    rw [← Nat.succ_mul]
    congr 1
    omega
   exact Goes.of (m':=m-1) es (by omega) (com (m:=m) (G:={G with C:=.new}) (hc.to ⟨rfl,rfl,rfl,rfl,rfl,rfl⟩ (by simp only; omega) (by omega) ⟨by simp only; omega,by simp only; omega⟩ (Nat.le_refl _)) hZ b d (by simp only; omega) e f g (p:=[]) rfl rfl (by simp only; omega) (by omega)) hZ (Beside.refl _ _ _ _) (fun _ _=>rfl)
 | p1 a _ _ _ _ _=>omega
 | p2 a _ _ _ _ _=>omega
 | p4 p q a _ _ _ _ _ _ _ _ _ _=>omega
 | p5 a _ _ _ _ _ _ _ _=>omega
 | p6 a _ _ _ _ _=>omega
 | p7 t ids a _ _ _ _ _ _ _ _ _ _ _=>omega
 | p8 t ids ids' a _ _ _ _ _ _ _ _ _ _ _=>omega
theorem J.go4 (h:J n0 l Z old L G m c) (hZ:ZD l Z L) (h4:G.nx=4):Goes n0 l Z old L G m c:=by
 obtain ⟨hc,hp⟩:=h
 cases hp with
 | p4 p q a b d e f g hA hq hat hC i=>
   cases q with
   | nil=>exact absurd rfl hq
   | cons e0 q'=>
     have hat':G.at_=e0.1:=hat
     obtain ⟨k,a1,a2,a3,a4,a5⟩:=p4_at hZ hc b e hA hat'
     have hsum:(at' L.ss k).nd.sum=sm e0.2.1:=by rw [a3]; rfl
     have hnext:(at' L.ss k).nd.next=((hdH q':Nat):Int):=by rw [a3]; rfl
     have es:gstep L G=(L,comeTo {G with C:=chn (sd Z.n) (p++[e0])} (hdH q')):=by
      unfold gstep
      rw [if_neg (by omega),if_neg (by omega),if_neg (by omega),if_pos h4,a2,hsum,hnext,Int.toNat_natCast,hfs_eq hZ hc (by omega),hC,hat',chn_snoc]
     have hl:(e0::q').length=q'.length+1:=rfl
     rw [hl] at i
     exact Goes.of (m':=m-1) es (by omega) (com (m:=m) (G:={G with C:=chn (sd Z.n) (p++[e0])}) (hc.to ⟨rfl,rfl,rfl,rfl,rfl,rfl⟩ (by simp only; omega) (by omega) ⟨by simp only; omega,by simp only; omega⟩ (Nat.le_refl _)) hZ b d (by simp only; omega) e f g (p:=p++[e0]) (q:=q') (by simp [hA]) rfl (by simp only; omega) (by omega)) hZ (Beside.refl _ _ _ _) (fun _ _=>rfl)
 | p1 a _ _ _ _ _=>omega
 | p2 a _ _ _ _ _=>omega
 | p3 a _ _ _ _ _ _=>omega
 | p5 a _ _ _ _ _ _ _ _=>omega
 | p6 a _ _ _ _ _=>omega
 | p7 t ids a _ _ _ _ _ _ _ _ _ _ _=>omega
 | p8 t ids ids' a _ _ _ _ _ _ _ _ _ _ _=>omega
theorem J.go5 (h:J n0 l Z old L G m c) (hZ:ZD l Z L) (h5:G.nx=5):Goes n0 l Z old L G m c:=by
 have hok:=(h.ok hZ)
 obtain ⟨hc,hp⟩:=h
 cases hp with
 | p5 a b d e f g hfi hh i=>
   have hn:=n_bd hZ
   have hxl:=hZ.1.xl
   have hb5:=hc.b5
   have hkB:=hZ.1.kB
   have hlen:=hc.xl
   rw [if_neg (by omega)] at hlen
   obtain ⟨v,hv⟩:∃ v:Int,v=((sel G.C.fi G.half:Nat):Int):=⟨_,rfl⟩
   obtain ⟨i0,hi0⟩:∃ i0,i0=G.bucket+G.half*Z.n:=⟨_,rfl⟩
   have hi1:i0<2*Z.n∧i0 % Z.n=G.bucket∧hf (decide (Z.n≤i0))=G.half∧i0=G.bucket+G.half*Z.n:=by
    have:G.half=0∨G.half=1:=by omega
    rcases this with q | q
    · rw [q] at hi0 ⊢
      refine ⟨by omega,?_,?_,hi0⟩
      · rw [hi0,Nat.zero_mul,Nat.add_zero,Nat.mod_eq_of_lt e]
      · rw [decide_eq_false (by omega)]; rfl
    · rw [q] at hi0 ⊢
      refine ⟨by omega,?_,?_,hi0⟩
      · rw [hi0,Nat.one_mul,Nat.add_mod_right,Nat.mod_eq_of_lt e]
      · rw [decide_eq_true (by omega)]; rfl
   obtain ⟨j1,j2,j3,j4⟩:=hi1
   have hvb:0≤v∧v≤18446744073709551615:=by
    have h2:sel G.C.fi G.half≤18446744073709551615:=by
     rw [← j3,hfi]
     cases hq:(Z.All G.bucket).filter fun a=>sd Z.n a.2.1==decide (Z.n≤i0) with
     | nil=>simp [hdH]
     | cons a t=>
       have:a∈Z.All G.bucket:=(List.mem_filter.1 (show a∈(Z.All G.bucket).filter fun a=>sd Z.n a.2.1==decide (Z.n≤i0) by rw [hq]; simp)).1
       exact (hc.pos _ e a this).2
    omega
   have es:gstep L G=({L with xs:=L.xs.set (Z.B2+i0) v},toStore {G with half:=G.half+1}):=by
    unfold gstep
    rw [if_neg (by omega),if_neg (by omega),if_neg (by omega),if_neg (by omega),if_pos h5,hc.el (by omega),(hc.nw (by omega)).1,← hv,hi0]
   have hnth:∀ j,j≠Z.B2+i0→Cl.nth (L.xs.set (Z.B2+i0) v) j=Cl.nth L.xs j:=fun j hj=>by rw [nth_set _ _ _ (by omega),if_neg hj]
   have hbe:=beside_cells (old:=old) hZ (xs':=L.xs.set (Z.B2+i0) v) (hs':=L.hs) (ds':=L.ds) (ws':=L.ws) (fun j _ _=>hnth j (by omega)) (fun q=>by rw [b] at q; simp at q) (by simp) (fun x hx=>by
    rcases List.mem_or_eq_of_mem_set hx with q | rfl
    · exact hZ.1.xb x q
    · exact hvb) (by
    unfold Me.now
    rw [hnth 1 (by omega)]) hZ.1.tb (by rw [hnth 0 (by omega)]; exact Int.le_refl _)
   refine Goes.of (m':=m-1) es (by omega) (sto (m:=m) (G:={G with half:=G.half+1}) ?_ hbe.1 b d (by first | omega | (simp only; omega)) e (by first | omega | (simp only; omega)) ?_ g hfi (by first | omega | (simp only; omega)) (by omega)) hbe.1 hbe.2 (fun _ _=>hnth _ (by omega))
   · have hj:Jc n0 l Z L {G with half:=G.half+1} m:=hc.to ⟨rfl,rfl,rfl,rfl,rfl,rfl⟩ (by simp only; omega) (by omega) ⟨by simp only; omega,by simp only; omega⟩ (Nat.le_refl _)
     exact hj.cells (by simp) (hnth _ (by omega))
   · intro x hx
     show Cl.nth (L.xs.set (Z.B2+i0) v) (Z.B2+x)=if x % Z.n<G.bucket∨(x % Z.n=G.bucket∧x<Z.n*(G.half+1)) then _ else _
     by_cases hq:x=i0
     · subst hq
       rw [nth_set _ _ _ (by omega),if_pos rfl,if_pos,hv,fresh_head hZ b hx,j2,← hfi,j3]
       refine .inr ⟨j2,?_⟩
       rw [j4,Nat.mul_add,Nat.mul_comm Z.n G.half]
       omega
     · rw [hnth _ (by omega),f x hx]
       have:(x % Z.n<G.bucket∨(x % Z.n=G.bucket∧x<Z.n*G.half))↔(x % Z.n<G.bucket∨(x % Z.n=G.bucket∧x<Z.n*(G.half+1))):=by
        refine or_congr Iff.rfl (and_congr_right fun q=>?_)
        have hd:=Nat.div_add_mod x Z.n
        have hdl:x / Z.n<2:=Nat.div_lt_of_lt_mul (by rw [Nat.mul_comm]; exact hx)
        generalize x / Z.n=dd at hd hdl
        have h01:dd=0∨dd=1:=by omega
        have h02:G.half=0∨G.half=1:=by omega
        rcases h01 with r | r<;>rcases h02 with s | s<;>rw [r] at hd<;>rw [s] at j4 ⊢<;>omega
       by_cases hq2:x % Z.n<G.bucket∨(x % Z.n=G.bucket∧x<Z.n*G.half)
       · rw [if_pos hq2,if_pos (this.1 hq2)]
       · rw [if_neg hq2,if_neg (fun a=>hq2 (this.2 a))]
 | p1 a _ _ _ _ _=>omega
 | p2 a _ _ _ _ _=>omega
 | p3 a _ _ _ _ _ _=>omega
 | p4 p q a _ _ _ _ _ _ _ _ _ _=>omega
 | p6 a _ _ _ _ _=>omega
 | p7 t ids a _ _ _ _ _ _ _ _ _ _ _=>omega
 | p8 t ids ids' a _ _ _ _ _ _ _ _ _ _ _=>omega
end
end Go.Proofs.YtpobbnllcoabhaaGreatDoor.Gw
namespace Go.Proofs.YtpobbnllcoabhaaGreatDoor.Gw
open Go Hm Ar Mm Wk Pc Me Mq Pu Pn Gt Qs Zp Mx
section
variable {n0:Nat} {l:List Pr} {Z:Zs} {L:Lm} {G G':Gr} {m m' c:Nat} {old:Nat→Int→Nat→Prop}
theorem oldW_new (k:Int) (w:Nat) (p:Int) (e:Nat):oldW ⟨k,0,0,0⟩ w p e:=.inl (Nat.zero_le _)
theorem J.go6 (h:J n0 l Z old L G m c) (hZ:ZD l Z L) (h6:G.nx=6):Goes n0 l Z old L G m c:=by
 obtain ⟨hc,hp⟩:=h
 cases hp with
 | p6 a b d e f i=>
   have hn:=n_bd hZ
   have hxl:=hZ.1.xl
   have hb5:=hc.b5
   have hkB:=hZ.1.kB
   have hkk:=hc.k
   have hwk:=hc.wk
   have hlen:=hc.xl
   rw [if_neg (by omega)] at hlen
   obtain ⟨hnw,t,ht1,ht2,ht3⟩:=hc.nw (by omega)
   obtain ⟨ids,w1,w2,w3,w4,w5,w6⟩:=f
   have es:gstep L G=({L with xs:=L.xs.set 1 (t:Int)},waitNew G):=by
    unfold gstep
    rw [if_neg (by omega),if_neg (by omega),if_neg (by omega),if_neg (by omega),if_neg (by omega),if_pos h6,ht1]
   have hnth:∀ j,j≠1→Cl.nth (L.xs.set 1 (t:Int)) j=Cl.nth L.xs j:=fun j hj=>by rw [nth_set _ _ _ (by omega),if_neg hj]
   have hbe:=beside_publish (old:=old) hZ b (t:=t) (by omega) (by
    unfold Me.now
    rw [nth_set _ _ _ (by omega),if_pos rfl,Int.toNat_natCast,ht3]) (by omega) (fun x hx=>by
    rw [e x hx,if_pos]
    exact .inl (Nat.mod_lt _ (by omega)))
   have hbo:Beside l {Z with pub:=true} {L with xs:=L.xs.set 1 (t:Int)} old {Z with pub:=true} {L with xs:=L.xs.set 1 (t:Int)} (oldW ⟨G.worker,0,0,0⟩):=Beside.olds hbe.1 fun w p e _=>oldW_new _ w p e
   have hj:Jc n0 l Z {L with xs:=L.xs.set 1 (t:Int)} (waitNew G) (m-1):=(hc.to (G':=waitNew G) ⟨rfl,rfl,rfl,rfl,rfl,rfl⟩ hc.bk (by omega) ⟨by show 3≤7; omega,by show 7≤7; omega⟩ (by omega)).cells (by simp) (hnth _ (by omega))
   refine Goes.of (m':=m-1) (Z':={Z with pub:=true}) (old':=oldW ⟨G.worker,0,0,0⟩) es (by unfold mB at i; omega) ⟨⟨hj.nn,hj.al,hj.wk,hj.err,hj.el,hj.k,hj.pd,hj.hl,hj.hol,hj.xb,hj.xl,hj.ds,hj.nw,hj.later,hj.bk,hj.b5,hj.pos,hj.tabs⟩,?_⟩ hbe.1 (Beside.trans (L':={L with xs:=L.xs.set 1 (t:Int)}) rfl hbe.2 hbo) (fun _ _=>hnth _ (by omega))
   refine .p7 Z.few ids rfl rfl (fun w p e=>Iff.rfl) ⟨by show L.k.toNat≤8; omega,by show 0≤3; omega,?_,hc.hl,by show L.k.toNat+2≤(L.xs.set 1 (t:Int)).length; rw [List.length_set]; omega,⟨by show 0≤1000; omega,fun _=>by show 0<L.k.toNat; omega⟩,fun q=>absurd rfl q⟩ hwk.1 (fun _=>rfl) (fun _=>hc.hol (by omega)) w1 w2 w4 w5 ?_
   · show 0≤G.worker∧G.worker≤_
     omega
   · show wl ⟨G.worker,0,0,0⟩+12*Z.few+tot G.pass≤_
     have:wl ⟨G.worker,0,0,0⟩=11:=by unfold wl; rw [if_pos rfl]
     rw [this]
     unfold mB at i
     omega
 | p1 a _ _ _ _ _=>omega
 | p2 a _ _ _ _ _=>omega
 | p3 a _ _ _ _ _ _=>omega
 | p4 p q a _ _ _ _ _ _ _ _ _ _=>omega
 | p5 a _ _ _ _ _ _ _ _=>omega
 | p7 t ids a _ _ _ _ _ _ _ _ _ _ _=>omega
 | p8 t ids ids' a _ _ _ _ _ _ _ _ _ _ _=>omega
theorem wstep_cells {n:Nat} {W:Wt} (hl:0<L.xs.length) (hh:Cl.nth L.xs 0≤4611686018427387904) (h0:0≤Cl.nth L.xs 0):(∀ j,j≠0→Cl.nth (wstep n L.xs L.hs W).1 j=Cl.nth L.xs j)∧(wstep n L.xs L.hs W).1.length=L.xs.length∧Cl.nth (wstep n L.xs L.hs W).1 0≤Cl.nth L.xs 0+1∧(wstep n L.xs L.hs W).2.1.length=L.hs.length∧(wstep n L.xs L.hs W).2.2.worker=W.worker:=by
 unfold wstep
 by_cases h0:W.at_=0
 · rw [if_pos h0]; exact ⟨fun _ _=>rfl,rfl,by simp only; omega,by simp,rfl⟩
 rw [if_neg h0]
 by_cases h1:W.at_=1
 · rw [if_pos h1]
   refine ⟨fun j hj=>by simp only; rw [nth_set _ _ _ hl,if_neg hj],by simp,?_,rfl,rfl⟩
   simp only
   rw [nth_set _ _ _ hl,if_pos rfl,sum64_in (by assumption) hh]
   exact Int.le_refl _
 rw [if_neg h1]
 by_cases h2:W.at_=2
 · rw [if_pos h2]; exact ⟨fun _ _=>rfl,rfl,by simp only; omega,rfl,rfl⟩
 · rw [if_neg h2]; exact ⟨fun _ _=>rfl,rfl,by simp only; omega,by simp,rfl⟩
theorem wl_step {n:Nat} {W:Wt} (hs:List Int) (xs:List Int) (hok:Qs.Okw n xs hs W) (h3:W.at_≠3):wl (wstep n xs hs W).2.2+1≤wl W:=by
 have h1:=hok.at_
 have h2:=hok.passed
 have h4:=hok.n1
 unfold wstep
 have:W.at_=0∨W.at_=1∨W.at_=2:=by omega
 rcases this with q | q | q
 · rw [if_pos q]
   simp [wl,q]
 · rw [if_neg (by omega),if_pos q]
   simp [wl,q]
 · rw [if_neg (by omega),if_neg (by omega),if_pos q]
   have hp:=h2.2 (by omega)
   by_cases hq:n≤W.passed+1
   · simp [wl,q,hq]
     omega
   · simp [wl,q,hq]
     omega
theorem J.go7 (h:J n0 l Z old L G m c) (hZ:ZD l Z L) (h7:G.nx=7) (hr:gready L G=true) (hd:gdone L G=false):Goes n0 l Z old L G m c:=by
 obtain ⟨hc,hp⟩:=h
 cases hp with
 | p7 t ids a b d e f g i w1 w2 w3 w4 w5=>
   have hn:=n_bd hZ
   have hxl:=hZ.1.xl
   have hkB:=hZ.1.kB
   have hkk:=hc.k
   have h01:=hZ.1.p1
   have hlen:=hc.xl
   rw [if_neg (by omega)] at hlen
   have hold:old=oldW G.W:=funext fun w=>funext fun p=>funext fun e=>propext (d w p e)
   subst hold
   have hrd:readyB L.xs L.hs G.W=true:=by unfold gready at hr; rw [if_pos h7] at hr; exact hr
   have hpd:=hc.pd
   have es:=gstep7 (L:=L) h7
   obtain ⟨c1,c2,c3,c4,c5⟩:=wstep_cells (n:=L.k.toNat) (L:=L) (W:=G.W) (by omega) (by omega) (by omega)
   have hbe:=beside_wait (n:=L.k.toNat) hZ (by omega) hrd g e.at_ (by omega)
   by_cases h3:G.W.at_=3
   · have hps:G.pass≠[]:=fun q=>by
      unfold gdone at hd
      rw [if_neg (by omega),if_pos h7,decide_eq_true ⟨h3,q⟩] at hd
      simp at hd
     rw [if_pos h3,if_neg hps] at es
     have hw:wstep L.k.toNat L.xs L.hs G.W=(L.xs,L.hs.set 0 (-1),{G.W with at_:=4}):=by
      unfold wstep; rw [if_neg (by omega),if_neg (by omega),if_neg (by omega)]
     rw [hw] at es hbe
     have hwl:wl G.W=1:=by simp [wl,h3]
     rw [hwl] at w5
     obtain ⟨l1,ps,hpe⟩:∃ l1 ps,G.pass=l1::ps:=by
      cases hq:G.pass with
      | nil=>exact absurd hq hps
      | cons x y=>exact ⟨x,y,rfl⟩
     have ht:1≤t:=by
      rw [hpe] at w1
      cases w1 with
      | cons q _=>
        have:=w4 l1 (by rw [hpe]; simp)
        have:=List.length_pos_iff.2 q.2.1
        omega
     refine Goes.of (m':=m-1) es (by omega) ⟨⟨hc.nn,hc.al,hc.wk,hc.err,fun _=>hc.el (by omega),hc.k,by show Cl.nth L.xs 0+_≤_; omega,by simpa using hc.hl,fun _=>holset hc.hl _,hc.xb,?_,⟨hc.ds.1,fun q=>by simp only at q; omega⟩,fun _=>hc.nw (by omega),fun q=>absurd rfl q,hc.bk,hc.b5,hc.pos,hc.tabs⟩,?_⟩ hbe.1 hbe.2 (fun _ _=>rfl)
     · rw [if_neg (by simp)]; exact hlen
     · refine .p8 (t-1) ids [] rfl b (fun x _ w p=>oldW_over (by simp) w p x) w1 ?_ (by rw [List.append_nil]; exact w2) (by rw [List.append_nil]; exact w3) hps ?_ ?_ ?_ ?_
       · show Wth _ [] G.later
         rw [hc.later (by omega)]; exact .nil
       · intro x hx
         have:=w4 x hx
         omega
       · show ∀ x∈G.later,_
         rw [hc.later (by omega)]; simp
       · show G.later.length≤_
         rw [hc.later (by omega)]; simp
       · show _+tot G.pass+tot G.later≤_
         rw [hc.later (by omega)]
         simp only [tot,List.map_nil,List.sum_nil] at w5 ⊢
         omega
   · rw [if_neg h3] at es
     have hok:=e.step hrd h3
     have hwl:=wl_step L.hs L.xs e h3
     obtain ⟨W',hW'⟩:∃ W',W'=(wstep L.k.toNat L.xs L.hs G.W).2.2:=⟨_,rfl⟩
     obtain ⟨xs',hxs'⟩:∃ xs',xs'=(wstep L.k.toNat L.xs L.hs G.W).1:=⟨_,rfl⟩
     obtain ⟨hs',hhs'⟩:∃ hs',hs'=(wstep L.k.toNat L.xs L.hs G.W).2.1:=⟨_,rfl⟩
     have hpass:(W'.at_≤1→W'.passed=0)∧W'.at_≠0:=by
      rw [hW']
      unfold wstep
      have h4:=e.at_
      have:G.W.at_=0∨G.W.at_=1∨G.W.at_=2:=by omega
      rcases this with q | q | q
      · rw [if_pos q]; exact ⟨fun _=>g (by omega),by simp⟩
      · rw [if_neg (by omega),if_pos q]; exact ⟨fun q2=>by simp only at q2; omega,by simp⟩
      · rw [if_neg (by omega),if_neg (by omega),if_pos q]
        simp only
        split
        · exact ⟨fun q2=>by omega,by omega⟩
        · exact ⟨fun q2=>by omega,by omega⟩
     rw [← hW',← hxs',← hhs'] at es hbe hok
     rw [← hW'] at hwl c5
     rw [← hxs'] at c1 c2 c3
     rw [← hhs'] at c4
     have hpos:1≤wl G.W:=by omega
     refine Goes.of (m':=m-1) es (by omega) ⟨⟨hc.nn,hc.al,hc.wk,hc.err,fun _=>hc.el (by omega),hc.k,by show Cl.nth xs' 0+_≤_; omega,by show 0<hs'.length; rw [c4]; exact hc.hl,fun q=>absurd rfl q,hc.xb,?_,⟨hc.ds.1,fun q=>by simp only at q; omega⟩,fun _=>hc.nw (by omega),fun _=>hc.later (by omega),hc.bk,hc.b5,hc.pos,tabs_len hc.tabs c2⟩,?_⟩ hbe.1 hbe.2 (fun _ _=>c1 _ (by omega))
     · show xs'.length=_
       rw [if_neg (by simp),c2]; exact hlen
     · exact .p7 t ids rfl b (fun w p e=>Iff.rfl) hok (by rw [c5]; exact f) hpass.1 (fun q=>absurd q hpass.2) w1 w2 w3 w4 (by simp only; omega)
 | p1 a _ _ _ _ _=>omega
 | p2 a _ _ _ _ _=>omega
 | p3 a _ _ _ _ _ _=>omega
 | p4 p q a _ _ _ _ _ _ _ _ _ _=>omega
 | p5 a _ _ _ _ _ _ _ _=>omega
 | p6 a _ _ _ _ _=>omega
 | p8 t ids ids' a _ _ _ _ _ _ _ _ _ _ _=>omega
theorem J.go8 (h:J n0 l Z old L G m c) (hZ:ZD l Z L) (h8:G.nx=8):Goes n0 l Z old L G m c:=by
 obtain ⟨hc,hp⟩:=h
 cases hp with
 | p8 t ids ids' a b d w1 w1' w2 w3 hne w4 w4' hll w5=>
   have hn:=n_bd hZ
   have hlen:=hc.xl
   rw [if_neg (by omega)] at hlen
   have hpd:=hc.pd
   have hkk:=hc.k
   have hwk:=hc.wk
   have hkB:=hZ.1.kB
   have hxl:=hZ.1.xl
   obtain ⟨ps,hps⟩:∃ ps,ps=G.pass:=⟨_,rfl⟩
   rw [← hps] at w1 w4 w5 hne
   cases w1 with
   | nil=>exact absurd rfl hne
   | @cons e0 es l0 ls0 hP hw=>
     obtain ⟨he,hl0,hL⟩:=hP
     generalize hr:Z.r e0=r at hL
     generalize hq:Z.rest e0=rest at hL
     cases hL with
     | nil=>exact absurd rfl hl0
     | @cons r0 dd t0 aa s ls' g1 g2 g3 g4=>
       have hz:=hZ.1.zip e0 he
       have hs:s=Z.s e0:=by
        cases dd with
        | nil=>exact absurd rfl g1
        | cons x y=>
          have h1:=hz.hd x (y++t0) (by rw [hq]; rfl)
          have h2:=g2 x (by simp)
          rw [h1] at h2
          revert h2
          cases s<;>cases Z.s e0<;>simp
       rw [hs] at g2 g3
       have hbe:=beside_link (old:=old) (old':=fun w p i=>i=e0∨old w p i) hZ b he hr hq g1 g2 g3 (fun w p=>d e0 (by simp) w p) (fun w p i=>Iff.rfl)
       have hnd:=List.nodup_append.1 w2
       have hnd1:=List.nodup_cons.1 hnd.1
       have hne0:e0∉ids':=fun q=>hnd.2.2 e0 (by simp) e0 q rfl
       obtain ⟨lat,hlat⟩:∃ lat,lat=if 1<((aa.1,hdH t0)::ls').length then G.later++[((aa.1,hdH t0)::ls').drop 1] else G.later:=⟨_,rfl⟩
       have hkeep:∀ (i:Nat) (y:List (Nat×Nat)),i≠e0→Pt Z i y→Pt (Z.linked e0 dd t0) i y:=fun i y hi h=>by
        refine ⟨h.1,h.2.1,?_⟩
        show Lnk (sd Z.n) (turnF Z.r e0 dd i) (turnF Z.rest e0 t0 i) y
        rw [turnF_ne _ _ hi,turnF_ne _ _ hi]
        exact h.2.2
       have hkeep':∀ i,i≠e0→(Z.linked e0 dd t0).rest i=Z.rest i:=fun i hi=>turnF_ne _ _ hi
       have hself:(Z.linked e0 dd t0).rest e0=t0:=turnF_at _ _ _
       have hes:Wth (Pt (Z.linked e0 dd t0)) es ls0:=hw.mono fun i hi y h=>hkeep i y (fun q=>hnd1.1 (q▸hi)) h
       have hla:Wth (Pt (Z.linked e0 dd t0)) ids' G.later:=w1'.mono fun i hi y h=>hkeep i y (fun q=>hne0 (q▸hi)) h
       obtain ⟨idn,i1,i2,i3,i4,i5⟩:∃ idn,Wth (Pt (Z.linked e0 dd t0)) idn lat∧(es++idn).Nodup∧(∀ i,i<Z.n→i∉es++idn→(Z.linked e0 dd t0).rest i=[])∧(∀ y∈lat,y.length≤t)∧tot lat+1≤tot G.later+((aa.1,hdH t0)::ls').length:=by
        by_cases h1:ls'=[]
        · subst h1
          rw [if_neg (by simp)] at hlat
          subst hlat
          refine ⟨ids',hla,?_,fun i hi hni=>?_,w4',by simp⟩
          · exact List.nodup_append.2 ⟨hnd1.2,hnd.2.1,fun x hx y hy=>hnd.2.2 x (List.mem_cons_of_mem _ hx) y hy⟩
          · by_cases hie:i=e0
            · rw [hie,hself]; exact g4.none
            · rw [hkeep' i hie]
              refine w3 i hi fun q=>hni ?_
              simp only [List.cons_append,List.mem_cons] at q
              rcases q with q | q
              · exact absurd q hie
              · exact q
        · rw [if_pos (by have:=List.length_pos_iff.2 h1; simp only [List.length_cons]; omega)] at hlat
          subst hlat
          refine ⟨ids'++[e0],hla.snoc ⟨he,h1,?_⟩,?_,fun i hi hni=>?_,fun y hy=>?_,?_⟩
          · show Lnk (sd Z.n) (turnF Z.r e0 dd e0) (turnF Z.rest e0 t0 e0) ls'
            rw [turnF_at,turnF_at]
            exact g4
          · refine List.nodup_append.2 ⟨hnd1.2,List.nodup_append.2 ⟨hnd.2.1,by simp,fun x hx y hy e=>?_⟩,fun x hx y hy e=>?_⟩
            · have hy':y=e0:=by simpa using hy
              exact hne0 (by rw [← hy',← e]; exact hx)
            · rcases List.mem_append.1 hy with q | q
              · exact hnd.2.2 x (List.mem_cons_of_mem _ hx) y q e
              · have hy':y=e0:=by simpa using q
                exact hnd1.1 (by rw [← hy',← e]; exact hx)
          · by_cases hie:i=e0
            · exact absurd (by rw [hie]; simp) hni
            · rw [hkeep' i hie]
              refine w3 i hi fun q=>hni ?_
              simp only [List.cons_append,List.mem_cons,List.mem_append] at q ⊢
              rcases q with q | q | q
              · exact absurd q hie
              · exact .inl q
              · exact .inr (.inl q)
          · rcases List.mem_append.1 hy with q | q
            · exact w4' y q
            · have hy':y=ls':=by simpa using q
              have:=w4 _ (List.mem_cons_self)
              simp only [List.length_cons] at this
              rw [hy']
              omega
          · rw [tot_snoc]
            simp only [List.drop_succ_cons,List.drop_zero,List.length_cons]
            omega
       rw [tot_cons] at w5
       have hst:gstep L G=({L with ss:=lnk L.ss aa.1 (hdH t0)},if ls0=[] then waitNew {G with pass:=lat,later:=[]} else {G with pass:=ls0,later:=lat}):=by
        unfold gstep
        rw [if_neg (by omega),if_neg (by omega),if_neg (by omega),if_neg (by omega),if_neg (by omega),if_neg (by omega),if_neg (by omega),← hps]
        simp only [← hlat]
        rfl
       by_cases hl:ls0=[]
       · rw [if_pos hl] at hst
         subst hl
         cases hw
         have hbo:Beside l (Z.linked e0 dd t0) {L with ss:=lnk L.ss aa.1 (hdH t0)} (fun w p i=>i=e0∨old w p i) (Z.linked e0 dd t0) {L with ss:=lnk L.ss aa.1 (hdH t0)} (oldW ⟨G.worker,0,0,0⟩):=Beside.olds hbe.1 fun w p e _=>oldW_new _ w p e
         refine Goes.of (m':=m-1) (Z':=Z.linked e0 dd t0) (old':=oldW ⟨G.worker,0,0,0⟩) hst (by omega) ⟨⟨hc.nn,hc.al,hc.wk,hc.err,fun _=>hc.el (by omega),hc.k,by show Cl.nth L.xs 0+_≤_; omega,hc.hl,fun q=>absurd rfl q,hc.xb,?_,⟨hc.ds.1,fun q=>by have q:7≤2:=q; omega⟩,fun _=>hc.nw (by omega),fun _=>rfl,hc.bk,hc.b5,hc.pos,hc.tabs⟩,?_⟩ hbe.1 (Beside.trans (L':={L with ss:=lnk L.ss aa.1 (hdH t0)}) rfl hbe.2 hbo) (fun _ _=>rfl)
         · exact hlen.trans (if_neg (show ¬(7≤2) by omega)).symm
         · refine .p7 t idn rfl b (fun w p e=>Iff.rfl) ⟨by show L.k.toNat≤8; omega,by show 0≤3; omega,?_,hc.hl,?_,⟨by show 0≤1000; omega,fun _=>by show 0<L.k.toNat; omega⟩,fun q=>absurd rfl q⟩ hwk.1 (fun _=>rfl) (fun _=>hc.hol (by omega)) i1 i2 i3 i4 ?_
           · show 0≤G.worker∧G.worker≤_
             omega
           · show L.k.toNat+2≤L.xs.length
             omega
           · show wl ⟨G.worker,0,0,0⟩+12*t+tot lat≤_
             have:wl ⟨G.worker,0,0,0⟩=11:=by unfold wl; rw [if_pos rfl]
             rw [this]
             omega
       · rw [if_neg hl] at hst
         refine Goes.of (m':=m-1) (Z':=Z.linked e0 dd t0) (old':=fun w p i=>i=e0∨old w p i) hst (by omega) ⟨⟨hc.nn,hc.al,hc.wk,hc.err,fun _=>hc.el (by omega),hc.k,by show Cl.nth L.xs 0+_≤_; omega,hc.hl,fun _=>hc.hol (by omega),hc.xb,?_,⟨hc.ds.1,fun q=>by have q:G.nx≤2:=q; omega⟩,fun _=>hc.nw (by omega),fun q=>absurd h8 q,hc.bk,hc.b5,hc.pos,hc.tabs⟩,?_⟩ hbe.1 hbe.2 (fun _ _=>rfl)
         · show L.xs.length=if G.nx≤2 then _ else _
           rw [if_neg (by omega)]; exact hlen
         · refine .p8 t es idn h8 b (fun x hx w p q=>?_) hes i1 i2 i3 hl (fun y hy=>w4 y (List.mem_cons_of_mem _ hy)) i4 ?_ ?_
           · rcases q with q | q
             · exact hnd1.1 (q▸hx)
             · exact d x (List.mem_cons_of_mem _ hx) w p q
           · exact wth_le (Z:=Z.linked e0 dd t0) hbe.1 i1 (List.nodup_append.1 i2).2.1
           · show 12*(t+1)+tot ls0+tot lat≤m-1
             omega
 | p1 a _ _ _ _ _=>omega
 | p2 a _ _ _ _ _=>omega
 | p3 a _ _ _ _ _ _=>omega
 | p4 p q a _ _ _ _ _ _ _ _ _ _=>omega
 | p5 a _ _ _ _ _ _ _ _=>omega
 | p6 a _ _ _ _ _=>omega
 | p7 t ids a _ _ _ _ _ _ _ _ _ _ _=>omega
theorem J.goes (h:J n0 l Z old L G m c) (hZ:ZD l Z L) (hr:gready L G=true) (hd:gdone L G=false):Goes n0 l Z old L G m c:=by
 have hnx:=h.2.nx
 have h8:G.nx=1∨G.nx=2∨G.nx=3∨G.nx=4∨G.nx=5∨G.nx=6∨G.nx=7∨G.nx=8:=by omega
 rcases h8 with q | q | q | q | q | q | q | q
 · exact h.go1 hZ q
 · exact h.go2 hZ q
 · exact h.go3 hZ q
 · exact h.go4 hZ q
 · exact h.go5 hZ q
 · exact h.go6 hZ q
 · exact h.go7 hZ q hr hd
 · exact h.go8 hZ q
end
end Go.Proofs.YtpobbnllcoabhaaGreatDoor.Gw
namespace Go.Proofs.YtpobbnllcoabhaaGreatDoor.Sw
open Go Hm Ar Mm Wk Pc Me Mq Pu Pn Gt Qs Zp Mx
def JD (l:List Pr) (Z:Js) (L:Lm):Prop:=Z.Ok L l∧Z.few≤35
def CelJ (Z:Js) (L:Lm) (b:Nat):Prop:=∀ e,e<Z.n→Cl.nth L.xs (Z.B2+e)=if e<b then ((hdH (Z.two e):Nat):Int) else 0
def Jnd (Z:Js) (b:Nat):Prop:=∀ e,e<Z.n→Z.jn e=decide (e<b)
structure Kc (n0:Nat) (Z:Js) (L:Lm) (G:Sh) (m c:Nat):Prop where
 nn:Z.n=n0
 wk:0≤G.worker∧G.worker≤1000
 err:G.err=0
 el:G.nx≠1→G.el=(2*Z.n,Z.B)
 k:1≤L.k∧L.k≤8
 pd:Cl.nth L.xs 0+m≤4611686018427387904
 hl:0<L.hs.length
 hol:G.nx≠9→Lo.hol L.hs 0= -1
 xb:Z.B2+Z.n≤1048576
 xl:L.xs.length=if G.nx≤2 then Z.B2 else Z.B2+Z.n
 ds:L.ds.length≤800001∧(G.nx≤2→L.ds.length≤800000)
 nw:G.nw=if G.nx≤2 then (0,0) else (Z.n,Z.B2)
 num:3≤G.nx→∃ t:Nat,G.num=t∧t≤900000∧tab L.ds t=(Z.n,Z.B2)
 bk:G.bucket≤Z.n
 b5:4≤Z.B2
 hb:G.fi≤18446744073709551615∧G.sec≤18446744073709551615
 pos:∀ b,b<2*Z.n→∀ a∈Z.C b,a.1≠0∧a.1≤18446744073709551615
 tabs:Tabs L.xs L.ds
 cap:Z.cap+c≤1000000
inductive Kp (Z:Js) (L:Lm) (G:Sh) (old:Nat→Int→Nat→Prop):Nat→Nat→Prop
 | p1 {m c:Nat}:G.nx=1→Z.pub=false→G.bucket=0→Jnd Z 0→2+Z.n*(Z.few+4)+12≤m→Z.n*Z.few≤c→Kp Z L G old m c
 | p2 {m c:Nat}:G.nx=2→Z.pub=false→G.bucket=0→Jnd Z 0→1+Z.n*(Z.few+4)+12≤m→Z.n*Z.few≤c→Kp Z L G old m c
 | p3 {m c:Nat}:G.nx=3→Z.pub=false→G.bucket<Z.n→Jnd Z G.bucket→CelJ Z L G.bucket→(Z.n-G.bucket)*(Z.few+4)+12≤m→(Z.n-G.bucket)*Z.few≤c→Kp Z L G old m c
 | p4 {m c:Nat}:G.nx=4→Z.pub=false→G.bucket<Z.n→Jnd Z G.bucket→CelJ Z L G.bucket→G.fi=hdH (Z.C G.bucket)→(Z.few+3)+(Z.n-G.bucket-1)*(Z.few+4)+12≤m→Z.few+(Z.n-G.bucket-1)*Z.few≤c→Kp Z L G old m c
 | p5 {m c:Nat} (p q:List Mq.Hp):G.nx=5→Z.pub=false→G.bucket<Z.n→Jnd Z G.bucket→CelJ Z L G.bucket→G.fi=hdH (Z.C G.bucket)→G.sec=hdH (Z.C (G.bucket+Z.n))→Z.C (G.bucket+Z.n)≠[]→Z.C G.bucket=p++q→q≠[]→G.at_=hdH q→G.met=(hds p).reverse→
    q.length+2+(Z.n-G.bucket-1)*(Z.few+4)+12≤m→Z.few+(Z.n-G.bucket-1)*Z.few≤c→Kp Z L G old m c
 | p6 {m c:Nat} (c0:List Mq.Hp) (a:Mq.Hp):G.nx=6→Z.pub=false→G.bucket<Z.n→Jnd Z G.bucket→CelJ Z L G.bucket→G.fi=hdH (Z.C G.bucket)→G.sec=hdH (Z.C (G.bucket+Z.n))→Z.C G.bucket=c0++[a]→G.la=a.1→
    2+(Z.n-G.bucket-1)*(Z.few+4)+12≤m→Z.few+(Z.n-G.bucket-1)*Z.few≤c→Kp Z L G old m c
 | p7 {m c:Nat}:G.nx=7→Z.pub=false→G.bucket<Z.n→Jnd Z (G.bucket+1)→CelJ Z L G.bucket→G.fi=hdH (Z.two G.bucket)→1+(Z.n-G.bucket-1)*(Z.few+4)+12≤m→(Z.n-G.bucket-1)*Z.few≤c→Kp Z L G old m c
 | p8 {m c:Nat}:G.nx=8→Z.pub=false→Jnd Z Z.n→CelJ Z L Z.n→12≤m→Kp Z L G old m c
 | p9 {m c:Nat}:G.nx=9→Z.pub=true→(∀ w p e,old w p e↔oldW G.W w p e)→Qs.Okw L.k.toNat L.xs L.hs G.W→0≤G.W.worker→(G.W.at_≤1→G.W.passed=0)→(G.W.at_=0→Lo.hol L.hs 0= -1)→Gw.wl G.W≤m→Kp Z L G old m c
def J (n0:Nat) (Z:Js) (old:Nat→Int→Nat→Prop) (L:Lm) (G:Sh) (m c:Nat):Prop:=Kc n0 Z L G m c∧Kp Z L G old m c
def Bsd (l:List Pr) (Z:Js) (L:Lm) (old:Nat→Int→Nat→Prop) (Z':Js) (L':Lm) (old':Nat→Int→Nat→Prop) (j:Nat):Prop:=
 ∀ (R:Rn) (k:Nat),(R.w:Int)<L.k→RnOk Z.wy L l old R k→∃ k',k'≤k+j∧RnOk Z'.wy L' l old' R k'
def Goes (n0:Nat) (l:List Pr) (Z:Js) (old:Nat→Int→Nat→Prop) (L:Lm) (G:Sh) (m c:Nat):Prop:=
 ∃ Z' old' m' c' j,m'+1≤m∧c'+j≤c∧J n0 Z' old' (sstep L G).1 (sstep L G).2 m' c'∧JD l Z' (sstep L G).1∧Bsd l Z L old Z' (sstep L G).1 old' j∧(∀ i:Nat,(i:Int)<L.k→Cl.nth (sstep L G).1.xs (2+i)=Cl.nth L.xs (2+i))∧(sstep L G).1.k=L.k∧Z'.few=Z.few∧Z'.C=Z.C∧Z'.cap+c'≤Z.cap+c∧Z'.B2=Z.B2
structure Over (n0:Nat) (Z:Js) (L:Lm) (G:Sh):Prop where
 nn:Z.n=n0
 pub:Z.pub=true
 err:G.err=0
 hol:Lo.hol L.hs 0= -1
 hl:0<L.hs.length
 xl:L.xs.length=Z.B2+Z.n
 xm:Z.B2+Z.n≤1048576
 tabs:Tabs L.xs L.ds
 pos:∀ b,b<2*Z.n→∀ a∈Z.C b,a.1≠0∧a.1≤18446744073709551615
section
variable {n0:Nat} {l:List Pr} {Z:Js} {L:Lm} {G:Sh} {m c:Nat} {old:Nat→Int→Nat→Prop}
theorem Kp.nx (h:Kp Z L G old m c):1≤G.nx∧G.nx≤9:=by
 cases h<;>omega
theorem Kp.pos (h:Kp Z L G old m c):1≤m:=by
 cases h with
 | p1 _ _ _ _ h _=>omega
 | p2 _ _ _ _ h _=>omega
 | p3 _ _ _ _ _ h _=>omega
 | p4 _ _ _ _ _ _ h _=>omega
 | p5 p q _ _ _ _ _ _ _ _ _ _ _ _ h _=>omega
 | p6 c0 a _ _ _ _ _ _ _ _ _ h _=>omega
 | p7 _ _ _ _ _ _ h _=>omega
 | p8 _ _ _ _ h=>omega
 | p9 _ _ _ hk _ _ _ h=>
   have h1:=hk.at_
   have h2:=hk.passed
   have h3:=hk.n1
   unfold Gw.wl at h
   split at h
   · omega
   split at h
   · omega
   split at h
   · have:=h2.2 (by omega)
     omega
   · omega
theorem n_bd (hZ:JD l Z L):1≤Z.n∧Z.n≤32768:=by
 have h1:=FM.power_bd hZ.1.pw
 have h2:=FM.power_bd hZ.1.pw2
 omega
theorem fresh_cx (hZ:JD l Z L) {e:Nat} (he:e<2*Z.n) (hj:e<Z.n→Z.jn e=false):Cx L.ss (hdH (Z.C e)) (Z.C e):=by
 have h:=hZ.1.chain e he
 unfold Js.way at h
 rw [if_neg] at h
 · exact h
 · rintro ⟨h1,h2,_⟩
   rw [hj h1] at h2
   simp at h2
theorem hd_bd (h:Kc n0 Z L G m c) {b:Nat} (hb:b<2*Z.n):hdH (Z.C b)≤18446744073709551615:=by
 cases hq:Z.C b with
 | nil=>simp [hdH]
 | cons a t=>exact (h.pos b hb a (by rw [hq]; simp)).2
theorem hd_zero (h:Kc n0 Z L G m c) {b:Nat} (hb:b<2*Z.n):hdH (Z.C b)=0↔Z.C b=[]:=by
 cases hq:Z.C b with
 | nil=>simp [hdH]
 | cons a t=>simp [hdH,(h.pos b hb a (by rw [hq]; simp)).1]
theorem p5_at (hZ:JD l Z L) (h:Kc n0 Z L G m c) (hb:G.bucket<Z.n) (hj:Z.jn G.bucket=false) {p q:List Mq.Hp} {e:Mq.Hp} (hA:Z.C G.bucket=p++e::q) (hat:G.at_=e.1):
 ∃ k,IsAt L.ss G.at_ k∧(G.at_-1) % 65536=k∧(at' L.ss k).nd=ndp e.2 (hdH q)∧hdH q∉G.at_::(hds p).reverse∧hdH q≤18446744073709551615:=by
 have h1:=fresh_cx hZ (show G.bucket<2*Z.n by omega) (fun _=>hj)
 have h2:=hZ.1.nd G.bucket (by omega)
 have hpos:=h.pos G.bucket (by omega)
 have hcx:Cx L.ss (hdH (e::q)) (e::q):=by
  have:Cx L.ss (hdH (Z.C G.bucket)) (p++e::q):=by rw [← hA]; exact h1
  exact Cx.back p this
 obtain ⟨ex,ep⟩:=e
 obtain ⟨k,z,a1,a2,a3⟩:=hcx.tail
 have hz:=Cx.hd a3
 subst hz
 simp only at hat
 rw [hat]
 refine ⟨k,a1,(isAt_parts hZ.1.len a1).1,a2,?_,?_⟩
 · rw [hA] at h2
   have hnd:(hds p++ex::hds q).Nodup:=by simpa [hds] using h2
   intro hm
   cases q with
   | nil=>
     rcases List.mem_cons.1 hm with e | hm
     · exact a1.pos e.symm
     · have hm:=List.mem_reverse.1 hm
       obtain ⟨y,hy,e⟩:=List.mem_map.1 hm
       exact (hpos y (by rw [hA]; simp [hy])).1 e
   | cons e' q'=>
     have h5:=List.nodup_append.1 hnd
     have h6:=List.nodup_cons.1 h5.2.1
     rcases List.mem_cons.1 hm with e | hm
     · exact h6.1 (by rw [← e]; simp [hds,hdH])
     · have hm:=List.mem_reverse.1 hm
       exact h5.2.2 _ hm _ (by simp [hds,hdH]) rfl
 · cases q with
   | nil=>simp [hdH]
   | cons e' q'=>exact (hpos e' (by rw [hA]; simp)).2
theorem J.ok (h:J n0 Z old L G m c) (hZ:JD l Z L):Oksh L G:=by
 obtain ⟨hc,hp⟩:=h
 have hn:=n_bd hZ
 have hnx:=hp.nx
 have hkB:=hZ.1.kB
 have hbb:=hZ.1.bb
 have hxl:=hZ.1.xl
 have hk:=hc.k
 have hxb:=hc.xb
 have hlen:=hc.xl
 have hnw:=hc.nw
 have hb5:=hc.b5
 have hx1:1<L.xs.length:=by rw [hlen]; split<;>omega
 have hw:G.nw.1≤65536∧G.nw.2≤4000000:=by
  rw [hnw]
  split
  · simp
  · simp only; omega
 have hmk:∀ (c3:G.nx=3→G.bucket<Z.n) (c4:G.nx=4→G.bucket<Z.n) (c5:G.nx=5→IsAt L.ss G.at_ ((G.at_-1) % 65536)∧G.at_≤18446744073709551615∧(0≤(at' L.ss ((G.at_-1) % 65536)).nd.next∧(at' L.ss ((G.at_-1) % 65536)).nd.next≤18446744073709551615)∧G.met.length≤100000)
  (c6:G.nx=6→G.la≤18446744073709551615∧∃ k,IsAt L.ss G.la k) (c7:G.nx=7→G.bucket<Z.n) (c9:G.nx=9→Qs.Okw L.k.toNat L.xs L.hs G.W),Oksh L G:=fun c3 c4 c5 c6 c7 c9=>by
  refine ⟨hnx,hx1,hc.hl,by have:=hc.ds.1; omega,fun q=>by rw [hc.el q]; simp only; omega,hw,by have:=hc.bk; omega,hc.hb,fun q=>?_,fun q=>?_,c5,c6,fun q=>?_,fun q=>?_,fun q=>⟨by omega,c9 q⟩⟩
  · have:=c3 q
    rw [hc.el (by omega),hlen,if_neg (by omega)]
    simp only
    omega
  · have:=c4 q
    rw [hc.el (by omega),hlen,if_neg (by omega),hnw,if_neg (by omega)]
    simp only
    omega
  · have:=c7 q
    rw [hlen,if_neg (by omega),hnw,if_neg (by omega)]
    simp only
    omega
  · obtain ⟨t,e,ht,_⟩:=hc.num (by omega)
    rw [e]
    omega
 cases hp with
 | p1 a _ _ _ _ _=>exact hmk (by omega) (by omega) (by omega) (by omega) (by omega) (by omega)
 | p2 a _ _ _ _ _=>exact hmk (by omega) (by omega) (by omega) (by omega) (by omega) (by omega)
 | p3 a _ b _ _ _ _=>exact hmk (fun _=>b) (by omega) (by omega) (by omega) (by omega) (by omega)
 | p4 a _ b _ _ _ _ _=>exact hmk (by omega) (fun _=>b) (by omega) (by omega) (by omega) (by omega)
 | p5 p q a _ b jd _ _ _ _ hA hq hat hmet _ _=>
   refine hmk (by omega) (by omega) (fun _=>?_) (by omega) (by omega) (by omega)
   cases q with
   | nil=>exact absurd rfl hq
   | cons e q'=>
     have hat':G.at_=e.1:=hat
     obtain ⟨k,a1,a2,a3,a4,a5⟩:=p5_at hZ hc b (by rw [jd _ b]; simp) hA hat'
     have hfew:=hZ.1.few.1 _ b
     have hf35:=hZ.2
     unfold Js.two at hfew
     rw [hA] at hfew
     simp only [List.length_append,List.length_cons] at hfew
     have hnext:(at' L.ss k).nd.next=((hdH q':Nat):Int):=by rw [a3]; rfl
     refine ⟨by rw [a2]; exact a1,by rw [hat']; exact (hc.pos G.bucket (by omega) e (by rw [hA]; simp)).2,by rw [a2,hnext]; omega,?_⟩
     rw [hmet]
     simp only [List.length_reverse,hds,List.length_map]
     omega
 | p6 c0 a e _ b jd _ _ _ hA hla _ _=>
   refine hmk (by omega) (by omega) (by omega) (fun _=>?_) (by omega) (by omega)
   have h1:=fresh_cx hZ (show G.bucket<2*Z.n by omega) (fun _=>by rw [jd _ b]; simp)
   obtain ⟨k,_,hk,_⟩:=h1.at a (by rw [hA]; simp)
   rw [hla]
   exact ⟨(hc.pos G.bucket (by omega) a (by rw [hA]; simp)).2,k,hk⟩
 | p7 a _ b _ _ _ _ _=>exact hmk (by omega) (by omega) (by omega) (by omega) (fun _=>b) (by omega)
 | p8 a _ _ _ _=>exact hmk (by omega) (by omega) (by omega) (by omega) (by omega) (by omega)
 | p9 a _ _ hok _ _ _ _=>exact hmk (by omega) (by omega) (by omega) (by omega) (by omega) (fun _=>hok)
theorem sready_9 (h:sready L G=false):G.nx=9∧readyB L.xs L.hs G.W=false:=by
 unfold sready at h
 split at h
 · rename_i e; exact ⟨e,h⟩
 · simp at h
theorem J.wait (h:J n0 Z old L G m c) (hr:sready L G=false):∃ i:Nat,(i:Int)<L.k∧Cl.nth L.xs (2+i)≠0:=by
 obtain ⟨hc,hp⟩:=h
 obtain ⟨h9,hr⟩:=sready_9 hr
 have hk:=hc.k
 cases hp with
 | p9 a b d e f g i j=>
   unfold readyB at hr
   split at hr
   · rename_i h0
     unfold takeB at hr
     have:=of_decide_eq_false hr
     exact absurd ⟨f,i h0⟩ this
   split at hr
   · rename_i h2
     unfold passB at hr
     have hd:=of_decide_eq_false hr
     have hpp:=e.passed.2 (by omega)
     exact ⟨G.W.passed,by omega,fun q=>hd (.inl q)⟩
   · simp at hr
 | p1 a _ _ _ _ _=>omega
 | p2 a _ _ _ _ _=>omega
 | p3 a _ _ _ _ _ _=>omega
 | p4 a _ _ _ _ _ _ _=>omega
 | p5 p q a _ _ _ _ _ _ _ _ _ _ _ _ _=>omega
 | p6 c0 a e _ _ _ _ _ _ _ _ _ _=>omega
 | p7 a _ _ _ _ _ _ _=>omega
 | p8 a _ _ _ _=>omega
theorem J.fits (h:Kc n0 Z L G m c) (hZ:JD l Z L) (h2:G.nx=2):G.el.1 / 2=Z.n∧FM.power ((G.el.1 / 2:Nat):Int)=true∧L.xs.length+G.el.1 / 2≤1048576:=by
 have hb:=h.xb
 have hl:=h.xl
 rw [if_pos (by omega)] at hl
 have e:G.el.1 / 2=Z.n:=by rw [h.el (by omega)]; simp only; omega
 rw [e]
 exact ⟨rfl,hZ.1.pw,by omega⟩
theorem sstep9 (h9:G.nx=9):sstep L G=({L with xs:=(wstep L.k.toNat L.xs L.hs G.W).1,hs:=(wstep L.k.toNat L.xs L.hs G.W).2.1},{G with W:=(wstep L.k.toNat L.xs L.hs G.W).2.2}):=by
 unfold sstep; rw [if_neg (by omega),if_neg (by omega),if_neg (by omega),if_neg (by omega),if_neg (by omega),if_neg (by omega),if_neg (by omega),if_neg (by omega)]
theorem J.over (h:J n0 Z old L G m c) (hZ:JD l Z L) (hd:sdone L G=true):JD l Z (sstep L G).1∧Over n0 Z (sstep L G).1 (sstep L G).2∧(∀ w p e,¬old w p e)∧(sstep L G).1={L with hs:=L.hs.set 0 (-1)}∧Cl.nth L.xs 0+m≤4611686018427387904:=by
 obtain ⟨hc,hp⟩:=h
 have hnx:=hp.nx
 unfold sdone at hd
 split at hd
 · rename_i h2
   have:=(J.fits hc hZ h2).2
   rw [decide_eq_true this] at hd
   simp at hd
 split at hd
 · rename_i h9
   have h3:=of_decide_eq_true hd
   rw [sstep9 h9]
   have hw:wstep L.k.toNat L.xs L.hs G.W=(L.xs,L.hs.set 0 (-1),{G.W with at_:=4}):=by
    unfold wstep; rw [if_neg (by omega),if_neg (by omega),if_neg (by omega)]
   rw [hw]
   cases hp with
   | p9 a b d e f g i j=>
     have hxl:=hc.xl
     rw [if_neg (by omega)] at hxl
     exact ⟨⟨hZ.1.cells (fun _ _ _=>rfl) (fun _ _ _=>rfl) (Nat.le_refl _) hZ.1.xb rfl hZ.1.tb hZ.1.p1,hZ.2⟩,⟨hc.nn,b,hc.err,Gw.holset hc.hl _,by simpa using hc.hl,hxl,hc.xb,hc.tabs,hc.pos⟩,fun w p e q=>oldW_over (W:=G.W) (by omega) w p e ((d w p e).1 q),rfl,hc.pd⟩
   | p1 a _ _ _ _ _=>omega
   | p2 a _ _ _ _ _=>omega
   | p3 a _ _ _ _ _ _=>omega
   | p4 a _ _ _ _ _ _ _=>omega
   | p5 p q a _ _ _ _ _ _ _ _ _ _ _ _ _=>omega
   | p6 c0 a e _ _ _ _ _ _ _ _ _ _=>omega
   | p7 a _ _ _ _ _ _ _=>omega
   | p8 a _ _ _ _=>omega
 · have:=of_decide_eq_true hd
   omega
end
end Go.Proofs.YtpobbnllcoabhaaGreatDoor.Sw
namespace Go.Proofs.YtpobbnllcoabhaaGreatDoor.Sw
open Go Hm Ar Mm Wk Pc Me Mq Pu Pn Gt Qs Zp Mx
section
variable {n0:Nat} {l:List Pr} {Z Z':Js} {L L':Lm} {G G':Sh} {m m' c c':Nat} {old old':Nat→Int→Nat→Prop}
theorem Goes.of {j:Nat} (e:sstep L G=(L',G')) (hm:m'+1≤m) (hcj:c'+j≤c) (hJ:J n0 Z' old' L' G' m' c') (hZ:JD l Z' L') (hB:Bsd l Z L old Z' L' old' j) (h3:∀ i:Nat,(i:Int)<L.k→Cl.nth L'.xs (2+i)=Cl.nth L.xs (2+i)) (hk:L'.k=L.k) (hf:Z'.few=Z.few) (hC:Z'.C=Z.C:=by rfl) (hcp:Z'.cap+c'≤Z.cap+c:=by exact Nat.le_refl _) (hb2:Z'.B2=Z.B2:=by rfl):Goes n0 l Z old L G m c:=by
 refine ⟨Z',old',m',c',j,hm,hcj,?_⟩
 rw [e]
 exact ⟨hJ,hZ,hB,h3,hk,hf,hC,hcp,hb2⟩
theorem Bsd.refl (l:List Pr) (Z:Js) (L:Lm) (old:Nat→Int→Nat→Prop):Bsd l Z L old Z L old 0:=fun _ k _ h=>⟨k,Nat.le_refl _,h⟩
theorem Kc.to (h:Kc n0 Z L G m c) (hz:Z'.n=Z.n∧Z'.B=Z.B∧Z'.B2=Z.B2∧Z'.C=Z.C) (h1:G'.worker=G.worker∧G'.err=G.err∧G'.el=G.el∧G'.nw=G.nw∧G'.num=G.num) (hb:G'.bucket≤Z.n) (h3:3≤G.nx∧G.nx≤8) (h3':3≤G'.nx)
 (hh:G'.fi≤18446744073709551615∧G'.sec≤18446744073709551615) (hL:L'.k=L.k∧L'.hs=L.hs∧L'.ds=L.ds∧L'.xs.length=L.xs.length∧Cl.nth L'.xs 0=Cl.nth L.xs 0) (hm:m'≤m) (hcap:Z'.cap+c'≤1000000):Kc n0 Z' L' G' m' c':=by
 obtain ⟨z1,z2,z3,z4⟩:=hz
 obtain ⟨e1,e2,e3,e4,e5⟩:=h1
 obtain ⟨l1,l2,l3,l4,l5⟩:=hL
 have hpd:=h.pd
 have hxl:=h.xl
 have hnw:=h.nw
 rw [if_neg (by omega)] at hxl hnw
 exact ⟨by rw [z1]; exact h.nn,by rw [e1]; exact h.wk,by rw [e2]; exact h.err,fun _=>by rw [e3,z1,z2]; exact h.el (by omega),by rw [l1]; exact h.k,by rw [l5]; omega,by rw [l2]; exact h.hl,fun _=>by rw [l2]; exact h.hol (by omega),by rw [z1,z3]; exact h.xb,by rw [if_neg (by omega),l4,z1,z3]; exact hxl,⟨by rw [l3]; exact h.ds.1,fun q=>by omega⟩,
  by rw [if_neg (by omega),e4,z1,z3]; exact hnw,fun _=>by rw [e5,l3,z1,z3]; exact h.num (by omega),by rw [z1]; exact hb,by rw [z3]; exact h.b5,hh,by rw [z1,z4]; exact h.pos,by rw [l3]; exact Gw.tabs_len h.tabs l4,hcap⟩
theorem next_at {b:Nat} (hp:Z.pub=false) (hj:Jnd Z (b+1)) (hc:CelJ Z L (b+1)) (hb:b<Z.n) (e1:G.bucket=b+1) (e2:G.nx=if b+1=Z.n then 8 else 3) (hm:(Z.n-b-1)*(Z.few+4)+12≤m) (hcc:(Z.n-b-1)*Z.few≤c):Kp Z L G old m c:=by
 by_cases hq:b+1=Z.n
 · rw [if_pos hq] at e2
   exact .p8 e2 hp (by rw [← hq]; exact hj) (by rw [← hq]; exact hc) (by omega)
 · rw [if_neg hq] at e2
   exact .p3 e2 hp (by omega) (by rw [e1]; exact hj) (by rw [e1]; exact hc) (by rw [e1,show Z.n-(b+1)=Z.n-b-1 by omega]; exact hm) (by rw [e1,show Z.n-(b+1)=Z.n-b-1 by omega]; exact hcc)
theorem J.go1 (h:J n0 Z old L G m c) (hZ:JD l Z L) (h1:G.nx=1):Goes n0 l Z old L G m c:=by
 obtain ⟨hc,hp⟩:=h
 cases hp with
 | p1 a b d e f g=>
   have hnow:=hZ.1.now
   rw [b,if_neg (by simp)] at hnow
   have es:sstep L G=(L,{G with el:=now L.xs L.ds,nx:=2}):=by unfold sstep; rw [if_pos h1]
   rw [hnow] at es
   have hxl:=hc.xl
   have hnw:=hc.nw
   rw [if_pos (by omega)] at hxl hnw
   refine Goes.of (m':=m-1) (c':=c) (j:=0) es (by omega) (by omega) ⟨⟨hc.nn,hc.wk,hc.err,fun _=>rfl,hc.k,?_,hc.hl,fun _=>hc.hol (by omega),hc.xb,by rw [if_pos (by simp)]; exact hxl,⟨hc.ds.1,fun _=>hc.ds.2 (by omega)⟩,by rw [if_pos (by simp)]; exact hnw,fun q=>by simp only at q; omega,hc.bk,hc.b5,hc.hb,hc.pos,hc.tabs,hc.cap⟩,.p2 rfl b d e (by omega) g⟩ hZ (Bsd.refl _ _ _ _) (fun _ _=>rfl) rfl rfl
   have:=hc.pd
   omega
 | p2 a _ _ _ _ _=>omega
 | p3 a _ _ _ _ _ _=>omega
 | p4 a _ _ _ _ _ _ _=>omega
 | p5 p q a _ _ _ _ _ _ _ _ _ _ _ _ _=>omega
 | p6 c0 a e _ _ _ _ _ _ _ _ _ _=>omega
 | p7 a _ _ _ _ _ _ _=>omega
 | p8 a _ _ _ _=>omega
 | p9 a _ _ _ _ _ _ _=>omega
theorem J.go2 (h:J n0 Z old L G m c) (hZ:JD l Z L) (h2:G.nx=2):Goes n0 l Z old L G m c:=by
 obtain ⟨hc,hp⟩:=h
 obtain ⟨hf1,hf2,hf3⟩:=J.fits hc hZ h2
 have hn:=n_bd hZ
 cases hp with
 | p2 a b d e f g=>
   have hlen:=hc.xl
   rw [if_pos (by omega)] at hlen
   have hkB:=hZ.1.kB
   have hxl:=hZ.1.xl
   rw [hf1] at hf2 hf3
   have es:sstep L G=({L with xs:=L.xs++List.replicate Z.n 0,ds:=L.ds++[(Z.n,Z.B2)]},{G with num:=L.ds.length,err:=0,nw:=(Z.n,Z.B2),nx:=3}):=by
    unfold sstep
    rw [if_neg (by omega),if_pos h2,hf1,if_pos ⟨hf2,hf3⟩,hlen]
   have hZ':JD l Z {L with xs:=L.xs++List.replicate Z.n 0,ds:=L.ds++[(Z.n,Z.B2)]}:=by
    refine ⟨hZ.1.cells (fun i _ _=>Gw.nth_app i) (fun q=>by rw [b] at q; simp at q) (by simp) (fun x hx=>?_) ?_ (fun i=>?_) (by rw [Gw.nth_app]; exact hZ.1.p1),hZ.2⟩
    · rcases List.mem_append.1 hx with q | q
      · exact hZ.1.xb x q
      · have:=(List.mem_replicate.1 q).2
        omega
    · have hnow:=hZ.1.now
      rw [b,if_neg (by simp)] at hnow
      unfold Me.now at hnow ⊢
      rw [Gw.nth_app,Gw.tab_app,if_neg]
      intro q
      rw [q,tab_none (Nat.le_refl _)] at hnow
      injection hnow with q1 _
      omega
    · rw [Gw.tab_app]
      split
      · have:=hc.xb; simp only; omega
      · exact hZ.1.tb i
   refine Goes.of (m':=m-1) (c':=c) (j:=0) es (by omega) (by omega) ⟨⟨hc.nn,hc.wk,rfl,fun _=>hc.el (by omega),hc.k,by show Cl.nth (L.xs++_) 0+_≤_; rw [Gw.nth_app]; have:=hc.pd; omega,hc.hl,fun _=>hc.hol (by omega),hc.xb,by rw [if_neg (by simp)]; simp [hlen],?_,by rw [if_neg (by simp)],fun _=>⟨L.ds.length,rfl,by have:=hc.ds.1; omega,by show tab (L.ds++_) _=_; rw [Gw.tab_app,if_pos rfl]⟩,hc.bk,hc.b5,hc.hb,hc.pos,?_,hc.cap⟩,?_⟩ hZ' (fun R k hw hR=>⟨k,Nat.le_refl _,hR.moved (Gw.nth_app _) (by show _≤Cl.nth (L.xs++_) 0; rw [Gw.nth_app]; exact Int.le_refl _) rfl⟩) (fun i _=>Gw.nth_app _) rfl rfl
   · have:=hc.ds.2 (by omega)
     exact ⟨by simp only [List.length_append,List.length_singleton]; omega,fun q=>by simp only at q; omega⟩
   · intro i hi
     show 1≤(tab (L.ds++_) i).1∧(tab (L.ds++_) i).1≤65536∧(tab (L.ds++_) i).2+(tab (L.ds++_) i).1≤(L.xs++List.replicate Z.n 0).length
     rw [Gw.tab_app]
     split
     · simp only [List.length_append,List.length_replicate]
       omega
     · have hi':i<(L.ds++[(Z.n,Z.B2)]).length:=hi
       simp only [List.length_append,List.length_singleton] at hi'
       have:=hc.tabs i (by omega)
       simp only [List.length_append,List.length_replicate]
       omega
   · have hb0:({G with num:=L.ds.length,err:=0,nw:=(Z.n,Z.B2),nx:=3}:Sh).bucket=0:=d
     refine .p3 rfl b (by rw [hb0]; omega) (by rw [hb0]; exact e) (fun k hk=>?_) ?_ ?_
     · show Cl.nth (L.xs++_) _=_
       rw [Gw.nth_app,Gw.nth_beyond (by omega),hb0,if_neg (by omega)]
     · rw [hb0,Nat.sub_zero]; omega
     · rw [hb0,Nat.sub_zero]; exact g
 | p1 a _ _ _ _ _=>omega
 | p3 a _ _ _ _ _ _=>omega
 | p4 a _ _ _ _ _ _ _=>omega
 | p5 p q a _ _ _ _ _ _ _ _ _ _ _ _ _=>omega
 | p6 c0 a e _ _ _ _ _ _ _ _ _ _=>omega
 | p7 a _ _ _ _ _ _ _=>omega
 | p8 a _ _ _ _=>omega
 | p9 a _ _ _ _ _ _ _=>omega
theorem mul_sub1 {n b k:Nat} (h:b<n):(n-b)*k=k+(n-b-1)*k:=by
 obtain ⟨t,ht⟩:∃ t,n-b=t+1:=⟨n-b-1,by omega⟩
 rw [ht,Nat.add_sub_cancel,Nat.add_mul,Nat.one_mul,Nat.add_comm]
theorem J.go3 (h:J n0 Z old L G m c) (hZ:JD l Z L) (h3:G.nx=3):Goes n0 l Z old L G m c:=by
 obtain ⟨hc,hp⟩:=h
 have hn:=n_bd hZ
 cases hp with
 | p3 a b d e f g i=>
   have hel:=hc.el (by omega)
   have hfi:(Cl.nth L.xs (Z.B+G.bucket)).toNat=hdH (Z.C G.bucket):=by rw [hZ.1.elder _ (by omega),Int.toNat_natCast]
   have es:sstep L G=(L,{G with fi:=hdH (Z.C G.bucket),nx:=4}):=by
    unfold sstep
    rw [if_neg (by omega),if_neg (by omega),if_pos h3,hel,hfi]
   rw [mul_sub1 d] at g i
   exact Goes.of (m':=m-1) (c':=c) (j:=0) es (by omega) (by omega) ⟨hc.to ⟨rfl,rfl,rfl,rfl⟩ ⟨rfl,rfl,rfl,rfl,rfl⟩ hc.bk (by omega) (by simp) ⟨hd_bd hc (by omega),hc.hb.2⟩ ⟨rfl,rfl,rfl,rfl,rfl⟩ (by omega) hc.cap,.p4 rfl b d e f rfl (by simp only; omega) (by simp only; omega)⟩ hZ (Bsd.refl _ _ _ _) (fun _ _=>rfl) rfl rfl
 | p1 a _ _ _ _ _=>omega
 | p2 a _ _ _ _ _=>omega
 | p4 a _ _ _ _ _ _ _=>omega
 | p5 p q a _ _ _ _ _ _ _ _ _ _ _ _ _=>omega
 | p6 c0 a e _ _ _ _ _ _ _ _ _ _=>omega
 | p7 a _ _ _ _ _ _ _=>omega
 | p8 a _ _ _ _=>omega
 | p9 a _ _ _ _ _ _ _=>omega
theorem skip2 (hJ:Z.Ok L l) (hp:Z.pub=false) {e:Nat} (hc:Z.C e=[]∨Z.C (e+Z.n)=[]):Js.Ok {Z with jn:=turnF Z.jn e true} L l∧∀ b,Js.way {Z with jn:=turnF Z.jn e true} b=if b=e then (if b<Z.n then Z.C b else Z.way b) else Z.way b:=by
 have hw:∀ b,Js.way {Z with jn:=turnF Z.jn e true} b=if b=e then (if b<Z.n then Z.C b else Z.way b) else Z.way b:=fun b=>by
  by_cases h:b=e
  · subst h
    rw [if_pos rfl]
    unfold Js.way Js.two
    simp only [turnF_at]
    by_cases hb:b<Z.n
    · rw [if_pos hb]
      rcases hc with q | q
      · rw [q,if_neg (by simp)]
      · rw [q,List.append_nil]
        split<;>rfl
    · rw [if_neg hb,if_neg (by omega),if_neg (by omega)]
  · rw [if_neg h]
    unfold Js.way Js.two
    simp only [turnF_ne _ _ h]
 refine ⟨{hJ with chain:=fun b hb=>?ch,all:=fun q=>?al},hw⟩
 case ch=>
  rw [hw]
  have hb:b<2*Z.n:=hb
  have hch:=hJ.chain b hb
  split
  · rename_i q
    subst q
    split
    · rename_i hbn
      have:Z.way b=Z.C b:=by
       unfold Js.way Js.two
       rcases hc with q | q
       · rw [q]; simp
       · rw [q,List.append_nil]
         split<;>rfl
      rw [this] at hch
      exact hch
    · exact hch
  · exact hch
 case al=>
  have q:Z.pub=true:=q
  rw [hp] at q; simp at q
theorem skip_way (hJ:Z.Ok L l) (hp:Z.pub=false) {e:Nat} (hc:Z.C e=[]∨Z.C (e+Z.n)=[]) (b:Nat):Js.way {Z with jn:=turnF Z.jn e true} b=Z.way b:=by
 rw [(skip2 hJ hp hc).2]
 split
 · rename_i q
   subst q
   split
   · rename_i hbn
     unfold Js.way Js.two
     rcases hc with q | q
     · rw [q]; simp
     · rw [q,List.append_nil]
       split<;>rfl
   · rfl
 · rfl
theorem skip_rn (hJ:Z.Ok L l) (hp:Z.pub=false) {e:Nat} (hc:Z.C e=[]∨Z.C (e+Z.n)=[]) {R:Rn} {k:Nat} (h:RnOk Z.wy L l old R k):RnOk (Js.wy {Z with jn:=turnF Z.jn e true}) L l old R k:=
 h.to rfl (Int.le_refl _) rfl rfl (Nat.le_refl _) (fun _ _ _ q=>q) (fun key q _ hq=>by
  rcases hq with hq | ⟨hq,_⟩
  · refine .inl ?_
    show q<:+Js.way {Z with jn:=turnF Z.jn e true} (bkt key (2*Z.n))
    rw [skip_way hJ hp hc]
    exact hq
  · rw [hp] at hq; simp at hq)
theorem jnd_turn {Z:Js} {b:Nat} (h:Jnd Z b):∀ e,e<Z.n→turnF Z.jn b true e=decide (e<b+1):=fun e he=>by
 by_cases q:e=b
 · subst q; rw [turnF_at]; simp
 · rw [turnF_ne _ _ q,h e he]
   by_cases q2:e<b
   · simp [q2]; omega
   · simp [q2]; omega
theorem J.skipped (hc:Kc n0 Z L G m c) (hZ:JD l Z L) (hp:Z.pub=false) (h4:G.nx=4) (hb:G.bucket<Z.n) (hj:Jnd Z G.bucket) (hcel:CelJ Z L G.bucket) (hfi:G.fi=hdH (Z.C G.bucket)) (hm:(Z.few+3)+(Z.n-G.bucket-1)*(Z.few+4)+12≤m) (hcc:Z.few+(Z.n-G.bucket-1)*Z.few≤c)
 (he:Z.C G.bucket=[]∨Z.C (G.bucket+Z.n)=[]) (es:sstep L G=(L,toStore {G with sec:=hdH (Z.C (G.bucket+Z.n))})):Goes n0 l Z old L G m c:=by
 have hn:=n_bd hZ
 have hs:=skip2 hZ.1 hp he
 have hsb:=hd_bd hc (show G.bucket+Z.n<2*Z.n by omega)
 have hfb:=hd_bd hc (show G.bucket<2*Z.n by omega)
 have hcap:=hc.cap
 have hnw:=hc.nw
 rw [if_neg (by omega)] at hnw
 have htwo:hdH (Z.two G.bucket)=if hdH (Z.C G.bucket)=0 then hdH (Z.C (G.bucket+Z.n)) else hdH (Z.C G.bucket):=by
  unfold Js.two
  rw [Gw.hdH_append]
  by_cases q:Z.C G.bucket=[]
  · rw [if_pos q,if_pos ((hd_zero hc (by omega)).2 q)]
  · rw [if_neg q,if_neg (fun a=>q ((hd_zero hc (by omega)).1 a))]
 have hB:Bsd l Z L old {Z with jn:=turnF Z.jn G.bucket true} L old 0:=fun R k hw hR=>⟨k,Nat.le_refl _,skip_rn hZ.1 hp he hR⟩
 have hcel2:CelJ {Z with jn:=turnF Z.jn G.bucket true} L G.bucket:=hcel
 by_cases h0:hdH (Z.C G.bucket)=0
 · by_cases h1:hdH (Z.C (G.bucket+Z.n))=0
   · have e1:toStore {G with sec:=hdH (Z.C (G.bucket+Z.n))}=toNext {G with sec:=0,fi:=0}:=by
      unfold toStore toNext
      simp only [hfi,h0,h1,if_true]
     rw [e1] at es
     refine Goes.of (m':=m-1) (c':=c) (j:=0) es (by omega) (by omega) ⟨hc.to (Z':={Z with jn:=turnF Z.jn G.bucket true}) ⟨rfl,rfl,rfl,rfl⟩ ⟨rfl,rfl,rfl,rfl,rfl⟩ (by unfold toNext; simp only; omega) (by omega) (by unfold toNext; simp only; split<;>omega) (by unfold toNext; simp) ⟨rfl,rfl,rfl,rfl,rfl⟩ (by omega) hcap,?_⟩ ⟨hs.1,hZ.2⟩ hB (fun _ _=>rfl) rfl rfl
     refine next_at (Z:={Z with jn:=turnF Z.jn G.bucket true}) (b:=G.bucket) hp (jnd_turn hj) (fun x hx=>?_) hb rfl (by unfold toNext; simp only [hnw]) (by simp only; omega) (by simp only; omega)
     rw [hcel x hx]
     by_cases q:x=G.bucket
     · subst q
       rw [if_neg (by omega),if_pos (by omega)]
       show 0=((hdH (Z.two G.bucket):Nat):Int)
       rw [htwo,if_pos h0,h1]
       rfl
     · by_cases q2:x<G.bucket
       · rw [if_pos q2,if_pos (by omega)]; rfl
       · rw [if_neg q2,if_neg (by omega)]
   · have e1:toStore {G with sec:=hdH (Z.C (G.bucket+Z.n))}={G with sec:=hdH (Z.C (G.bucket+Z.n)),fi:=hdH (Z.C (G.bucket+Z.n)),nx:=7}:=by
      unfold toStore
      simp only [hfi,h0,if_true]
      rw [if_neg h1]
     rw [e1] at es
     refine Goes.of (m':=m-1) (c':=c) (j:=0) es (by omega) (by omega) ⟨hc.to (Z':={Z with jn:=turnF Z.jn G.bucket true}) ⟨rfl,rfl,rfl,rfl⟩ ⟨rfl,rfl,rfl,rfl,rfl⟩ hc.bk (by omega) (by simp) ⟨hsb,hsb⟩ ⟨rfl,rfl,rfl,rfl,rfl⟩ (by omega) hcap,.p7 rfl hp hb (jnd_turn hj) hcel2 ?_ (by simp only; omega) (by simp only; omega)⟩ ⟨hs.1,hZ.2⟩ hB (fun _ _=>rfl) rfl rfl
     show _=hdH (Z.two G.bucket)
     rw [htwo,if_pos h0]
 · have e1:toStore {G with sec:=hdH (Z.C (G.bucket+Z.n))}={G with sec:=hdH (Z.C (G.bucket+Z.n)),nx:=7}:=by
    unfold toStore
    simp only [hfi]
    rw [if_neg h0]
   rw [e1] at es
   refine Goes.of (m':=m-1) (c':=c) (j:=0) es (by omega) (by omega) ⟨hc.to (Z':={Z with jn:=turnF Z.jn G.bucket true}) ⟨rfl,rfl,rfl,rfl⟩ ⟨rfl,rfl,rfl,rfl,rfl⟩ hc.bk (by omega) (by simp) ⟨hc.hb.1,hsb⟩ ⟨rfl,rfl,rfl,rfl,rfl⟩ (by omega) hcap,.p7 rfl hp hb (jnd_turn hj) hcel2 ?_ (by simp only; omega) (by simp only; omega)⟩ ⟨hs.1,hZ.2⟩ hB (fun _ _=>rfl) rfl rfl
   show G.fi=hdH (Z.two G.bucket)
   rw [htwo,if_neg h0,hfi]
theorem J.go4 (h:J n0 Z old L G m c) (hZ:JD l Z L) (h4:G.nx=4):Goes n0 l Z old L G m c:=by
 obtain ⟨hc,hp⟩:=h
 have hn:=n_bd hZ
 cases hp with
 | p4 a b d e f g i j=>
   have hel:=hc.el (by omega)
   have hnw:=hc.nw
   rw [if_neg (by omega)] at hnw
   have hse:(Cl.nth L.xs (Z.B+(G.bucket+Z.n))).toNat=hdH (Z.C (G.bucket+Z.n)):=by rw [hZ.1.elder _ (by omega),Int.toNat_natCast]
   have es:sstep L G=(L,begun {G with sec:=hdH (Z.C (G.bucket+Z.n))}):=by
    unfold sstep
    rw [if_neg (by omega),if_neg (by omega),if_neg (by omega),if_pos h4,hel,hnw,hse]
   by_cases hq:Z.C G.bucket=[]∨Z.C (G.bucket+Z.n)=[]
   · refine J.skipped hc hZ b h4 d e f g i j hq ?_
     rw [es]
     unfold begun
     rw [if_pos]
     rcases hq with q | q
     · refine .inl ?_
       show G.fi=0
       rw [g]
       exact (hd_zero hc (by omega)).2 q
     · exact .inr ((hd_zero hc (by omega)).2 q)
   · have hq1:Z.C G.bucket≠[]:=fun x=>hq (.inl x)
     have hq2:Z.C (G.bucket+Z.n)≠[]:=fun x=>hq (.inr x)
     have hf0:G.fi≠0:=fun x=>hq1 ((hd_zero hc (by omega)).1 (g▸x))
     have hs0:hdH (Z.C (G.bucket+Z.n))≠0:=fun x=>hq2 ((hd_zero hc (by omega)).1 x)
     have e1:begun {G with sec:=hdH (Z.C (G.bucket+Z.n))}={G with sec:=hdH (Z.C (G.bucket+Z.n)),la:=0,met:=[],at_:=G.fi,nx:=5}:=by
      unfold begun comeTo
      simp only
      rw [if_neg (by rintro (x | x); exact hf0 x; exact hs0 x),if_neg (by rintro (x | x); exact hf0 x; simp at x)]
     rw [e1] at es
     have hlen:(Z.C G.bucket).length≤Z.few:=by
      have:=hZ.1.few.1 _ d
      unfold Js.two at this
      rw [List.length_append] at this
      omega
     have hlen2:1≤(Z.C (G.bucket+Z.n)).length:=List.length_pos_iff.2 hq2
     exact Goes.of (m':=m-1) (c':=c) (j:=0) es (by omega) (by omega) ⟨hc.to ⟨rfl,rfl,rfl,rfl⟩ ⟨rfl,rfl,rfl,rfl,rfl⟩ hc.bk (by omega) (by simp) ⟨hc.hb.1,hd_bd hc (by omega)⟩ ⟨rfl,rfl,rfl,rfl,rfl⟩ (by omega) hc.cap,.p5 [] (Z.C G.bucket) rfl b d e f g rfl hq2 rfl hq1 g rfl (by simp only; omega) (by simp only; omega)⟩ hZ (Bsd.refl _ _ _ _) (fun _ _=>rfl) rfl rfl
 | p1 a _ _ _ _ _=>omega
 | p2 a _ _ _ _ _=>omega
 | p3 a _ _ _ _ _ _=>omega
 | p5 p q a _ _ _ _ _ _ _ _ _ _ _ _ _=>omega
 | p6 c0 a e _ _ _ _ _ _ _ _ _ _=>omega
 | p7 a _ _ _ _ _ _ _=>omega
 | p8 a _ _ _ _=>omega
 | p9 a _ _ _ _ _ _ _=>omega
theorem J.go5 (h:J n0 Z old L G m c) (hZ:JD l Z L) (h5:G.nx=5):Goes n0 l Z old L G m c:=by
 obtain ⟨hc,hp⟩:=h
 have hn:=n_bd hZ
 cases hp with
 | p5 p q a b d e f g i j k r s t u v=>
   cases q with
   | nil=>exact absurd rfl r
   | cons x q'=>
     have s':G.at_=x.1:=s
     obtain ⟨kk,a1,a2,a3,a4,a5⟩:=p5_at hZ hc d (by rw [e _ d]; simp) k s'
     have hnext:(at' L.ss ((G.at_-1) % 65536)).nd.next.toNat=hdH q':=by rw [a2,a3]; show ((hdH q':Nat):Int).toNat=_; rw [Int.toNat_natCast]
     have es:sstep L G=(L,comeTo {G with la:=G.at_,met:=G.at_::G.met} (hdH q')):=by
      unfold sstep
      rw [if_neg (by omega),if_neg (by omega),if_neg (by omega),if_neg (by omega),if_pos h5,hnext]
     have hpos:=hc.pos G.bucket (by omega)
     have hat0:G.at_≠0:=by rw [s']; exact (hpos x (by rw [k]; simp)).1
     cases q' with
     | nil=>
       have hsec:G.sec∉G.at_::G.met:=fun hm=>by
        have hin:G.sec∈hds (Z.C G.bucket):=by
         rw [k]
         rw [t,s'] at hm
         rcases List.mem_cons.1 hm with q | q
         · rw [q]; simp [hds]
         · have:=List.mem_reverse.1 q
           simp only [hds,List.map_append,List.mem_append]
           exact .inl this
        have hin2:G.sec∈hds (Z.C (G.bucket+Z.n)):=by
         rw [i]
         cases hq:Z.C (G.bucket+Z.n) with
         | nil=>exact absurd hq j
         | cons y ys=>simp [hds,hdH]
        exact hZ.1.dj G.bucket (G.bucket+Z.n) (by omega) (by omega) (by omega) _ hin hin2
       have e1:comeTo {G with la:=G.at_,met:=G.at_::G.met} (hdH [])={G with la:=G.at_,met:=G.at_::G.met,nx:=6}:=by
        unfold comeTo endFirst
        rw [if_pos (.inl rfl)]
        simp only
        rw [if_neg hat0,if_neg hsec]
       rw [e1] at es
       exact Goes.of (m':=m-1) (c':=c) (j:=0) es (by omega) (by omega) ⟨hc.to ⟨rfl,rfl,rfl,rfl⟩ ⟨rfl,rfl,rfl,rfl,rfl⟩ hc.bk (by omega) (by simp) hc.hb ⟨rfl,rfl,rfl,rfl,rfl⟩ (by omega) hc.cap,.p6 p x rfl b d e f g i k s' (by simp only; simp at u; omega) v⟩ hZ (Bsd.refl _ _ _ _) (fun _ _=>rfl) rfl rfl
     | cons y q2=>
       have hy0:y.1≠0:=(hpos y (by rw [k]; simp)).1
       have hym:hdH (y::q2)∉G.at_::G.met:=by rw [t]; exact a4
       have e1:comeTo {G with la:=G.at_,met:=G.at_::G.met} (hdH (y::q2))={G with la:=G.at_,met:=G.at_::G.met,at_:=hdH (y::q2),nx:=5}:=by
        unfold comeTo
        rw [if_neg]
        rintro (q | q)
        · exact hy0 q
        · exact hym q
       rw [e1] at es
       exact Goes.of (m':=m-1) (c':=c) (j:=0) es (by omega) (by omega) ⟨hc.to ⟨rfl,rfl,rfl,rfl⟩ ⟨rfl,rfl,rfl,rfl,rfl⟩ hc.bk (by omega) (by simp) hc.hb ⟨rfl,rfl,rfl,rfl,rfl⟩ (by omega) hc.cap,.p5 (p++[x]) (y::q2) rfl b d e f g i j (by rw [k]; simp) (by simp) rfl (by show G.at_::G.met=_; rw [t,s']; simp [hds]) (by simp only [List.length_cons] at u ⊢; omega) v⟩ hZ (Bsd.refl _ _ _ _) (fun _ _=>rfl) rfl rfl
 | p1 a _ _ _ _ _=>omega
 | p2 a _ _ _ _ _=>omega
 | p3 a _ _ _ _ _ _=>omega
 | p4 a _ _ _ _ _ _ _=>omega
 | p6 c0 a e _ _ _ _ _ _ _ _ _ _=>omega
 | p7 a _ _ _ _ _ _ _=>omega
 | p8 a _ _ _ _=>omega
 | p9 a _ _ _ _ _ _ _=>omega
end
end Go.Proofs.YtpobbnllcoabhaaGreatDoor.Sw
namespace Go.Proofs.YtpobbnllcoabhaaGreatDoor.Sw
open Go Hm Ar Mm Wk Pc Me Mq Pu Pn Gt Qs Zp Mx
section
variable {n0:Nat} {l:List Pr} {Z Z':Js} {L L':Lm} {G G':Sh} {m m' c c':Nat} {old old':Nat→Int→Nat→Prop}
theorem J.go6 (h:J n0 Z old L G m c) (hZ:JD l Z L) (h6:G.nx=6):Goes n0 l Z old L G m c:=by
 obtain ⟨hc,hp⟩:=h
 have hn:=n_bd hZ
 cases hp with
 | p6 c0 a b d e f g i j k r s t=>
   have hlen2:(Z.C (G.bucket+Z.n)).length≤Z.few:=by
    have:=hZ.1.few.1 _ e
    unfold Js.two at this
    rw [List.length_append] at this
    omega
   have hcap:=hc.cap
   have hf0:G.fi≠0:=by
    rw [i,k]
    have:=(hc.pos G.bucket (by omega))
    rw [k] at this
    cases c0 with
    | nil=>exact (this a (by simp)).1
    | cons x y=>exact (this x (by simp)).1
   have e1:toStore G={G with nx:=7}:=by unfold toStore; rw [if_neg hf0]
   have es:sstep L G=({L with ss:=lnk L.ss a.1 (hdH (Z.C (G.bucket+Z.n)))},{G with nx:=7}):=by
    unfold sstep
    rw [if_neg (by omega),if_neg (by omega),if_neg (by omega),if_neg (by omega),if_neg (by omega),if_pos h6,e1,r,j]
   have hjf:Z.jn G.bucket=false:=by rw [f _ e]; simp
   have hlk:=hZ.1.linked d e hjf k (by omega)
   refine Goes.of (m':=m-1) (c':=c-Z.few) (j:=(Z.C (G.bucket+Z.n)).length) (Z':=Z.linked G.bucket) (old':=old) es (by omega) (by omega) ⟨hc.to (Z':=Z.linked G.bucket) ⟨rfl,rfl,rfl,rfl⟩ ⟨rfl,rfl,rfl,rfl,rfl⟩ hc.bk (by omega) (by simp) hc.hb ⟨rfl,rfl,rfl,rfl,rfl⟩ (by omega) (by show Z.cap+_+_≤_; omega),.p7 rfl d e (jnd_turn f) g ?_ ?_ ?_⟩ ⟨hlk,hZ.2⟩
    (fun R kk _ hR=>RnOk.joined hZ.1 d e hjf k hR) (fun _ _=>rfl) rfl rfl rfl (by show Z.cap+_+_≤_; omega)
   · show G.fi=hdH (Z.two G.bucket)
     unfold Js.two
     rw [Gw.hdH_append,if_neg (by rw [k]; simp),i]
   · show 1+(Z.n-G.bucket-1)*(Z.few+4)+12≤_
     omega
   · show (Z.n-G.bucket-1)*Z.few≤_
     omega
 | p1 a _ _ _ _ _=>omega
 | p2 a _ _ _ _ _=>omega
 | p3 a _ _ _ _ _ _=>omega
 | p4 a _ _ _ _ _ _ _=>omega
 | p5 p q a _ _ _ _ _ _ _ _ _ _ _ _ _=>omega
 | p7 a _ _ _ _ _ _ _=>omega
 | p8 a _ _ _ _=>omega
 | p9 a _ _ _ _ _ _ _=>omega
theorem J.go7 (h:J n0 Z old L G m c) (hZ:JD l Z L) (h7:G.nx=7):Goes n0 l Z old L G m c:=by
 obtain ⟨hc,hp⟩:=h
 have hn:=n_bd hZ
 cases hp with
 | p7 a b d e f g i j=>
   have hnw:=hc.nw
   have hlen:=hc.xl
   rw [if_neg (by omega)] at hnw hlen
   have hxl:=hZ.1.xl
   have hkB:=hZ.1.kB
   have hk:=hc.k
   have es:sstep L G=({L with xs:=L.xs.set (Z.B2+G.bucket) ((hdH (Z.two G.bucket):Nat):Int)},toNext G):=by
    unfold sstep
    rw [if_neg (by omega),if_neg (by omega),if_neg (by omega),if_neg (by omega),if_neg (by omega),if_neg (by omega),if_pos h7,hnw,g]
   have hnth:∀ i,i≠Z.B2+G.bucket→Cl.nth (L.xs.set (Z.B2+G.bucket) ((hdH (Z.two G.bucket):Nat):Int)) i=Cl.nth L.xs i:=fun i hi=>by rw [nth_set _ _ _ (by omega),if_neg hi]
   have hfb:=hc.hb.1
   have hZ':JD l Z {L with xs:=L.xs.set (Z.B2+G.bucket) ((hdH (Z.two G.bucket):Nat):Int)}:=by
    refine ⟨hZ.1.cells (fun i q1 q2=>hnth i (by omega)) (fun q=>by rw [b] at q; simp at q) (by simp) (fun x hx=>?_) ?_ hZ.1.tb (by rw [hnth 0 (by omega)]; exact hZ.1.p1),hZ.2⟩
    · rcases List.mem_or_eq_of_mem_set hx with q | rfl
      · exact hZ.1.xb x q
      · rw [g] at hfb; omega
    · unfold Me.now
      rw [hnth 1 (by omega)]
   refine Goes.of (m':=m-1) (c':=c) (j:=0) (old':=old) es (by omega) (by omega) ⟨hc.to ⟨rfl,rfl,rfl,rfl⟩ ⟨rfl,rfl,rfl,rfl,rfl⟩ (by unfold toNext; simp only; omega) (by omega) (by unfold toNext; simp only; split<;>omega) hc.hb ⟨rfl,rfl,rfl,by simp,hnth 0 (by omega)⟩ (by omega) hc.cap,?_⟩ hZ'
    (fun R kk hw hR=>⟨kk,Nat.le_refl _,hR.moved (hnth _ (by omega)) (by show _≤Cl.nth (L.xs.set _ _) 0; rw [hnth 0 (by omega)]; exact Int.le_refl _) rfl⟩) (fun i hi=>hnth _ (by omega)) rfl rfl
   refine next_at (b:=G.bucket) b e (fun x hx=>?_) d rfl (by unfold toNext; simp only [hnw]) (by omega) j
   show Cl.nth (L.xs.set _ _) _=_
   by_cases q:x=G.bucket
   · subst q
     rw [nth_set _ _ _ (by omega),if_pos rfl,if_pos (by omega)]
   · rw [hnth _ (by omega),f x hx]
     by_cases q2:x<G.bucket
     · rw [if_pos q2,if_pos (by omega)]
     · rw [if_neg q2,if_neg (by omega)]
 | p1 a _ _ _ _ _=>omega
 | p2 a _ _ _ _ _=>omega
 | p3 a _ _ _ _ _ _=>omega
 | p4 a _ _ _ _ _ _ _=>omega
 | p5 p q a _ _ _ _ _ _ _ _ _ _ _ _ _=>omega
 | p6 c0 a e _ _ _ _ _ _ _ _ _ _=>omega
 | p8 a _ _ _ _=>omega
 | p9 a _ _ _ _ _ _ _=>omega
theorem J.go8 (h:J n0 Z old L G m c) (hZ:JD l Z L) (h8:G.nx=8):Goes n0 l Z old L G m c:=by
 obtain ⟨hc,hp⟩:=h
 have hn:=n_bd hZ
 cases hp with
 | p8 a b d e f=>
   have hlen:=hc.xl
   rw [if_neg (by omega)] at hlen
   have hxl:=hZ.1.xl
   have hkB:=hZ.1.kB
   have hk:=hc.k
   have hwk:=hc.wk
   obtain ⟨t,ht1,ht2,ht3⟩:=hc.num (by omega)
   have es:sstep L G=({L with xs:=L.xs.set 1 (t:Int)},{G with W:=⟨G.worker,0,0,0⟩,nx:=9}):=by
    unfold sstep
    rw [if_neg (by omega),if_neg (by omega),if_neg (by omega),if_neg (by omega),if_neg (by omega),if_neg (by omega),if_neg (by omega),if_pos h8,ht1]
   have hnth:∀ i,i≠1→Cl.nth (L.xs.set 1 (t:Int)) i=Cl.nth L.xs i:=fun i hi=>by rw [nth_set _ _ _ (by omega),if_neg hi]
   have hZ':JD l {Z with pub:=true} {L with xs:=L.xs.set 1 (t:Int)}:=by
    refine ⟨hZ.1.publish b (fun x hx=>by rw [d x hx]; simpa using hx) hnth (by simp) (fun x hx=>?_) ?_ (by omega) (fun x hx=>by rw [e x hx,if_pos hx]),hZ.2⟩
    · rcases List.mem_or_eq_of_mem_set hx with q | rfl
      · exact hZ.1.xb x q
      · omega
    · unfold Me.now
      rw [nth_set _ _ _ (by omega),if_pos rfl,Int.toNat_natCast,ht3]
   refine Goes.of (m':=m-1) (c':=c) (j:=0) (Z':={Z with pub:=true}) (old':=oldW ⟨G.worker,0,0,0⟩) es (by omega) (by omega) ⟨hc.to (Z':={Z with pub:=true}) ⟨rfl,rfl,rfl,rfl⟩ ⟨rfl,rfl,rfl,rfl,rfl⟩ hc.bk (by omega) (by simp) hc.hb ⟨rfl,rfl,rfl,by simp,hnth 0 (by omega)⟩ (by omega) hc.cap,?_⟩ hZ'
    (fun R kk hw hR=>⟨kk,Nat.le_refl _,(RnOk.pubJ b (old':=oldW ⟨G.worker,0,0,0⟩) (fun p=>Gw.oldW_new _ _ _ _) hR).moved (hnth _ (by omega)) (by show _≤Cl.nth (L.xs.set _ _) 0; rw [hnth 0 (by omega)]; exact Int.le_refl _) rfl⟩) (fun i hi=>hnth _ (by omega)) rfl rfl
   refine .p9 rfl rfl (fun w p e=>Iff.rfl) ⟨by show L.k.toNat≤8; omega,by show 0≤3; omega,?_,hc.hl,by show L.k.toNat+2≤(L.xs.set 1 (t:Int)).length; rw [List.length_set]; omega,⟨by show 0≤1000; omega,fun _=>by show 0<L.k.toNat; omega⟩,fun q=>absurd rfl q⟩ hwk.1 (fun _=>rfl) (fun _=>hc.hol (by omega)) ?_
   · show 0≤G.worker∧G.worker≤_
     omega
   · show Gw.wl ⟨G.worker,0,0,0⟩≤_
     have:Gw.wl ⟨G.worker,0,0,0⟩=11:=by unfold Gw.wl; rw [if_pos rfl]
     rw [this]
     omega
 | p1 a _ _ _ _ _=>omega
 | p2 a _ _ _ _ _=>omega
 | p3 a _ _ _ _ _ _=>omega
 | p4 a _ _ _ _ _ _ _=>omega
 | p5 p q a _ _ _ _ _ _ _ _ _ _ _ _ _=>omega
 | p6 c0 a e _ _ _ _ _ _ _ _ _ _=>omega
 | p7 a _ _ _ _ _ _ _=>omega
 | p9 a _ _ _ _ _ _ _=>omega
theorem J.go9 (h:J n0 Z old L G m c) (hZ:JD l Z L) (h9:G.nx=9) (hr:sready L G=true) (hd:sdone L G=false):Goes n0 l Z old L G m c:=by
 obtain ⟨hc,hp⟩:=h
 cases hp with
 | p9 a b d e f g i w5=>
   have hn:=n_bd hZ
   have hxl:=hZ.1.xl
   have hkB:=hZ.1.kB
   have hkk:=hc.k
   have h01:=hZ.1.p1
   have hlen:=hc.xl
   rw [if_neg (by omega)] at hlen
   have hold:old=oldW G.W:=funext fun w=>funext fun p=>funext fun e=>propext (d w p e)
   subst hold
   have hrd:readyB L.xs L.hs G.W=true:=by unfold sready at hr; rw [if_pos h9] at hr; exact hr
   have hpd:=hc.pd
   have es:=sstep9 (L:=L) h9
   have h3:G.W.at_≠3:=fun q=>by
    unfold sdone at hd
    rw [if_neg (by omega),if_pos h9,decide_eq_true q] at hd
    simp at hd
   obtain ⟨c1,c2,c3,c4,c5⟩:=Gw.wstep_cells (n:=L.k.toNat) (L:=L) (W:=G.W) (by omega) (by omega) (by omega)
   have hwl:=Gw.wl_step L.hs L.xs e h3
   have hok:=Okw.step e hrd h3
   have hZ':JD l Z {L with xs:=(wstep L.k.toNat L.xs L.hs G.W).1,hs:=(wstep L.k.toNat L.xs L.hs G.W).2.1}:=⟨hZ.1.waits (by omega),hZ.2⟩
   refine Goes.of (m':=m-1) (c':=c) (j:=0) (old':=oldW (wstep L.k.toNat L.xs L.hs G.W).2.2) es (by omega) (by omega) ⟨⟨hc.nn,hc.wk,hc.err,fun _=>hc.el (by omega),hc.k,by show Cl.nth (wstep L.k.toNat L.xs L.hs G.W).1 0+_≤_; omega,by show 0<(wstep L.k.toNat L.xs L.hs G.W).2.1.length; rw [c4]; exact hc.hl,fun q=>absurd h9 q,hc.xb,?_,⟨hc.ds.1,fun q=>by have q:G.nx≤2:=q; omega⟩,?_,fun _=>hc.num (by omega),hc.bk,hc.b5,hc.hb,hc.pos,Gw.tabs_len hc.tabs c2,hc.cap⟩,?_⟩ hZ'
    (fun R kk hw hR=>⟨kk,Nat.le_refl _,hR.waits hZ.1.ways (by omega) hrd g e.at_ (by omega) (by omega)⟩) (fun x hx=>c1 _ (by omega)) rfl rfl
   · show (wstep L.k.toNat L.xs L.hs G.W).1.length=if G.nx≤2 then _ else _
     rw [c2,if_neg (by omega)]
     exact hlen
   · show G.nw=if G.nx≤2 then _ else _
     have:=hc.nw
     rw [if_neg (by omega)] at this ⊢
     exact this
   · refine .p9 h9 b (fun w p e=>Iff.rfl) hok (by rw [show (wstep L.k.toNat L.xs L.hs G.W).2.2.worker=G.W.worker from c5]; exact f) ?_ ?_ (by show Gw.wl (wstep L.k.toNat L.xs L.hs G.W).2.2≤_; omega)
     · show (wstep L.k.toNat L.xs L.hs G.W).2.2.at_≤1→(wstep L.k.toNat L.xs L.hs G.W).2.2.passed=0
       intro q
       unfold wstep at q ⊢
       by_cases q0:G.W.at_=0
       · rw [if_pos q0]; exact g (by omega)
       rw [if_neg q0] at q ⊢
       by_cases q1:G.W.at_=1
       · rw [if_pos q1]; exact g (by omega)
       rw [if_neg q1] at q ⊢
       by_cases q2:G.W.at_=2
       · rw [if_pos q2] at q
         have q:(if L.k.toNat≤G.W.passed+1 then 3 else 2)≤1:=q
         split at q<;>omega
       · have:=e.at_
         omega
     · show (wstep L.k.toNat L.xs L.hs G.W).2.2.at_=0→_
       intro q
       exfalso
       unfold wstep at q
       by_cases q0:G.W.at_=0
       · rw [if_pos q0] at q; simp at q
       rw [if_neg q0] at q
       by_cases q1:G.W.at_=1
       · rw [if_pos q1] at q; simp at q
       rw [if_neg q1] at q
       by_cases q2:G.W.at_=2
       · rw [if_pos q2] at q
         have q:(if L.k.toNat≤G.W.passed+1 then 3 else 2)=0:=q
         split at q<;>omega
       · rw [if_neg q2] at q; simp at q
 | p1 a _ _ _ _ _=>omega
 | p2 a _ _ _ _ _=>omega
 | p3 a _ _ _ _ _ _=>omega
 | p4 a _ _ _ _ _ _ _=>omega
 | p5 p q a _ _ _ _ _ _ _ _ _ _ _ _ _=>omega
 | p6 c0 a e _ _ _ _ _ _ _ _ _ _=>omega
 | p7 a _ _ _ _ _ _ _=>omega
 | p8 a _ _ _ _=>omega
theorem J.goes (h:J n0 Z old L G m c) (hZ:JD l Z L) (hr:sready L G=true) (hd:sdone L G=false):Goes n0 l Z old L G m c:=by
 have hnx:=h.2.nx
 have h8:G.nx=1∨G.nx=2∨G.nx=3∨G.nx=4∨G.nx=5∨G.nx=6∨G.nx=7∨G.nx=8∨G.nx=9:=by omega
 rcases h8 with q | q | q | q | q | q | q | q | q
 · exact h.go1 hZ q
 · exact h.go2 hZ q
 · exact h.go3 hZ q
 · exact h.go4 hZ q
 · exact h.go5 hZ q
 · exact h.go6 hZ q
 · exact h.go7 hZ q
 · exact h.go8 hZ q
 · exact h.go9 hZ q hr hd
end
end Go.Proofs.YtpobbnllcoabhaaGreatDoor.Sw
namespace Go.Proofs.YtpobbnllcoabhaaGreatDoor.Gw
open Go Hm Ar Mm Wk Pc Me Mq Pu Pn Gt Qs Zp Mx
structure Ovr (n0:Nat) (l:List Pr) (Z:Zs) (L:Lm) (G:Gr):Prop where
 nn:Z.n=n0
 pub:Z.pub=true
 rest:∀ e,e<Z.n→Z.rest e=[]
 al:∀ e,e<Z.n→prs (Z.All e)=l.filter fun p=>decide (bkt p.1 Z.n=e)
 err:G.err=0
 hol:Lo.hol L.hs 0= -1
 hl:0<L.hs.length
 xl:L.xs.length=Z.B2+2*Z.n
 xm:Z.B2+2*Z.n≤1048576
 tabs:Tabs L.xs L.ds
 pos:∀ e,e<Z.n→∀ a∈Z.All e,a.1≠0∧a.1≤18446744073709551615
section
variable {n0:Nat} {l:List Pr} {Z:Zs} {L:Lm} {G:Gr} {m c:Nat} {old:Nat→Int→Nat→Prop}
theorem J.last (h:J n0 l Z old L G m c) (hZ:ZD l Z L) (hd:gdone L G=true):ZD l Z (gstep L G).1∧Ovr n0 l Z (gstep L G).1 (gstep L G).2∧(∀ w p e,¬old w p e)∧(gstep L G).1={L with hs:=L.hs.set 0 (-1)}∧Cl.nth L.xs 0+m≤4611686018427387904:=by
 obtain ⟨hc,hp⟩:=h
 have hnx:=hp.nx
 unfold gdone at hd
 split at hd
 · rename_i h2
   have:=J.fits hc hZ h2
   rw [decide_eq_true this] at hd
   simp at hd
 split at hd
 · rename_i h7
   obtain ⟨h3,hps⟩:=of_decide_eq_true hd
   rw [gstep7 h7]
   have hw:wstep L.k.toNat L.xs L.hs G.W=(L.xs,L.hs.set 0 (-1),{G.W with at_:=4}):=by
    unfold wstep; rw [if_neg (by omega),if_neg (by omega),if_neg (by omega)]
   rw [hw]
   cases hp with
   | p7 t ids a b d e f g h i j k l=>
     rw [hps] at i
     cases i
     have:=hc.xl
     rw [if_neg (by omega)] at this
     exact ⟨⟨hZ.1.cells (fun _ _ _=>rfl) (fun _ _ _=>rfl) (Nat.le_refl _) hZ.1.xb rfl hZ.1.tb hZ.1.p1,hZ.2⟩,⟨hc.nn,b,fun e he=>k e he (by simp),hc.al,hc.err,holset hc.hl _,by simpa using hc.hl,this,hc.xb,hc.tabs,hc.pos⟩,fun w p e q=>oldW_over (W:=G.W) (by omega) w p e ((d w p e).1 q),rfl,hc.pd⟩
   | p1 a _ _ _ _ _=>omega
   | p2 a _ _ _ _ _=>omega
   | p3 a _ _ _ _ _ _=>omega
   | p4 p q a _ _ _ _ _ _ _ _ _ _=>omega
   | p5 a _ _ _ _ _ _ _ _=>omega
   | p6 a _ _ _ _ _=>omega
   | p8 t ids ids' a _ _ _ _ _ _ _ _ _ _ _=>omega
 · have:=of_decide_eq_true hd
   omega
end
/-! ### what its steps leave-/
structure Keep (L L':Lm):Prop where
 ss:L'.ss.length=L.ss.length
 tk:∀ k,(at' L'.ss k).taken=(at' L.ss k).taken∧(at' L'.ss k).gen=(at' L.ss k).gen
 ws:L'.ws=L.ws
 k:L'.k=L.k
 F:L'.F=L.F
 hl:L'.hs.length=L.hs.length
 hs:∀ i,i≠0→L'.hs[i]?=L.hs[i]?
theorem Keep.refl (L:Lm):Keep L L:=⟨rfl,fun _=>⟨rfl,rfl⟩,rfl,rfl,rfl,rfl,fun _ _=>rfl⟩
theorem lnk_kept (ss:List Sl) (x y k:Nat):(at' (Pu.lnk ss x y) k).taken=(at' ss k).taken∧(at' (Pu.lnk ss x y) k).gen=(at' ss k).gen:=by
 unfold Pu.lnk
 by_cases h:(x-1) % 65536<ss.length
 · rw [at_set h]
   split
   · rename_i e; rw [e]; exact ⟨rfl,rfl⟩
   · exact ⟨rfl,rfl⟩
 · rw [List.set_eq_of_length_le (by omega)]
   exact ⟨rfl,rfl⟩
theorem Keep.lnk (L:Lm) (x y:Nat):Keep L {L with ss:=Pu.lnk L.ss x y}:=⟨by simp [Pu.lnk],lnk_kept _ _ _,rfl,rfl,rfl,rfl,fun _ _=>rfl⟩
theorem Keep.cells (L:Lm) (xs:List Int) (ds:List (Nat×Nat)):Keep L {L with xs:=xs,ds:=ds}:=⟨rfl,fun _=>⟨rfl,rfl⟩,rfl,rfl,rfl,rfl,fun _ _=>rfl⟩
theorem Keep.wait (L:Lm) (n:Nat) (W:Wt):Keep L {L with xs:=(wstep n L.xs L.hs W).1,hs:=(wstep n L.xs L.hs W).2.1}:=by
 refine ⟨rfl,fun _=>⟨rfl,rfl⟩,rfl,rfl,rfl,?_,fun i hi=>?_⟩
 · show (wstep n L.xs L.hs W).2.1.length=_
   unfold wstep
   split
   · simp
   split
   · rfl
   split
   · rfl
   · simp
 · show (wstep n L.xs L.hs W).2.1[i]?=_
   unfold wstep
   split
   · simp only; rw [List.getElem?_set_ne (by omega)]
   split
   · rfl
   split
   · rfl
   · simp only; rw [List.getElem?_set_ne (by omega)]
theorem gstep_keep (L:Lm) (G:Gr):Keep L (gstep L G).1:=by
 unfold gstep
 split
 · exact .refl L
 split
 · split
   · exact Keep.cells L _ _
   · exact .refl L
 split
 · exact .refl L
 split
 · exact .refl L
 split
 · exact Keep.cells L _ L.ds
 split
 · exact Keep.cells L _ L.ds
 split
 · exact Keep.wait L _ _
 · split
   · exact .refl L
   · exact Keep.lnk L _ _
theorem gstep_ds (L:Lm) (G:Gr) (d:Nat) (h:L.ds.length≤d+1∧(G.nx≤2→L.ds.length≤d)):(gstep L G).1.ds.length≤d+1∧((gstep L G).2.nx≤2→1≤G.nx→(gstep L G).1.ds.length≤d):=by
 have hcome:∀ (G:Gr) (x:Nat),3≤(comeTo G x).nx:=fun G x=>by
  unfold comeTo endChain
  split
  · have:=toStore_eq {G with pass:=if G.C.over=[] then G.pass else G.pass++[G.C.over],half:=0}
    omega
  · simp
 unfold gstep
 split
 · rename_i q
   exact ⟨h.1,fun _ _=>h.2 (by omega)⟩
 split
 · rename_i q
   have:=h.2 (by omega)
   split
   · exact ⟨by simp; omega,fun q _=>by simp at q⟩
   · exact ⟨h.1,fun q _=>by simp at q⟩
 split
 · exact ⟨h.1,fun q _=>by have:=hcome {G with C:=.new} (Cl.nth L.xs (G.el.2+G.bucket)).toNat; simp only at q; omega⟩
 split
 · exact ⟨h.1,fun q _=>by have:=hcome {G with C:=G.C.add G.at_ (hfs G (at' L.ss ((G.at_-1) % 65536)).nd.sum)} (at' L.ss ((G.at_-1) % 65536)).nd.next.toNat; simp only at q; omega⟩
 split
 · exact ⟨h.1,fun q _=>by have:=toStore_eq {G with half:=G.half+1}; simp only at q; omega⟩
 split
 · exact ⟨h.1,fun q _=>by simp [waitNew] at q⟩
 split
 · exact ⟨h.1,fun q _=>by simp only at q; split at q; split at q<;>omega; omega⟩
 · have h12:¬G.nx≤2∨G.nx=0:=by omega
   split
   · exact ⟨h.1,fun q hq=>h.2 q⟩
   · refine ⟨h.1,fun q hq=>?_⟩
     simp only at q
     split at q
     · simp [waitNew] at q
     · have q:G.nx≤2:=q
       exact h.2 q
theorem J.per {n0:Nat} {l:List Pr} {Z:Zs} {L:Lm} {G:Gr} {m c:Nat} {old:Nat→Int→Nat→Prop} (h:J n0 l Z old L G m c) (hZ:ZD l Z L):Cl.nth (gstep L G).1.xs 0≤Cl.nth L.xs 0+1:=by
 obtain ⟨hc,hp⟩:=h
 have hm:=hp.pos
 have hpd:=hc.pd
 have h01:=hZ.1.p1
 have hb5:=hc.b5
 have hkB:=hZ.1.kB
 have hxl:=hZ.1.xl
 have hk:=hc.k
 have same:Cl.nth L.xs 0≤Cl.nth L.xs 0+1:=by omega
 have set0:∀ (i:Nat) (v:Int),i≠0→Cl.nth (L.xs.set i v) 0≤Cl.nth L.xs 0+1:=fun i v hi=>by
  by_cases hl:i<L.xs.length
  · rw [nth_set _ _ _ hl,if_neg (by omega)]; exact same
  · rw [List.set_eq_of_length_le (by omega)]; exact same
 unfold gstep
 split
 · exact same
 split
 · split
   · simp only; rw [nth_app]; exact same
   · exact same
 split
 · exact same
 split
 · exact same
 split
 · rename_i q
   refine set0 _ _ ?_
   rw [(hc.nw (by omega)).1]
   simp only
   omega
 split
 · exact set0 1 _ (by omega)
 split
 · exact (wstep_cells (L:=L) (by omega) (by omega) (by omega)).2.2.1
 · split
   · exact same
   · exact same
end Go.Proofs.YtpobbnllcoabhaaGreatDoor.Gw
