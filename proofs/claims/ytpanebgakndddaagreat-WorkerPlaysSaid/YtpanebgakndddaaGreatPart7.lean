/- Walks and plain mathematics, put together in their order: GroL, GroM, ZipF, GroN, GroO. -/
import Derived.Test.YtpanebgakndddaaGreatPart6
import Derived.Test.YtpanebgakndddaaGreatPairs
set_option linter.unusedVariables false
set_option linter.unusedSimpArgs false
namespace Go.Proofs.YtpanebgakndddaaGreat.Gw
open Go Go.RowKit Hp K Fl Rw Hm Ar Mm Me Qs Wk Pn
set_option maxRecDepth 100000
section
variable {w w':World} {M:Mo} {a:Gl} {G:Gr}
theorem CN {ss:List Sl} {x y k:Nat} (hl:ss.length<=1024) (hk:bj ss x k):Pu.aS ss x y=ss.set k {aj ss k with nd:={(aj ss k).nd with next:=(y:Int)}}:=by
 unfold Pu.aS
 rw [(nO hl hk).1]
def CO (w:World) (M:Mo) (a:Gl) (G:Gr) (x y:Nat) (w':World):Prop:=ah w' {M with ss:=Pu.aS M.ss x y}/\bY w' a G/\ab (aq M) w w'
theorem qV (hM:ah w M) (h:bY w a G) {x k:Nat} (hx:x<=18446744073709551615) (hk:bj M.ss x k) (y:Nat) (w1:World) (h0:ab (fun _=>False) w w1):
 Calls Tryz.prog 203 #[ptr M.ar,.int .u64 x,.int .u64 y] w1 fun e w'=>e=.returned (.int .i64 0)/\CO w M a G x y w':=by
 have qv:ah w1 M:=hM.only h0 (by simp)
 refine (By qv.2.2.2.1 hx hk (y:Int)).mono fun e w' q=>?_
 have ho:ab (aq M) w w':=(h0.mono (fun x _ q=>q.elim)).trans' q.2.2 (fun x _ q=>.inr (.inr (.inr (.inl q))))
 refine ⟨q.1,?_,h.only ho (fun x hx q=>h.aB hM hx q),ho⟩
 rw [CN hM.2.2.2.1.room.2 hk]
 exact qv.wM q.2.1 q.2.2
theorem pO.tail {A:Option Addr} {e0:El} {es:List El} {b0 o0:Nat} (hA:A=some ⟨b0,o0,none⟩) (h:pO w A (e0::es)):pO w (some ⟨b0,o0+1,none⟩) es:=by
 rcases h with h | ⟨b,o,cs,h1,h2,h3⟩
 ·simp at h
 ·rw [hA] at h1
  injection h1 with h1
  injection h1 with h1 h4
  subst h1; subst h4
  refine .inr ⟨b0,o0+1,cs,rfl,h2,fun i hi=>?_⟩
  have:=h3 (i+1) (by simp; omega)
  rw [Nat.add_assoc,Nat.add_comm 1 i,this]
  simp [nW]
theorem jI.tail {e0:El} {p:Nat×Nat} {ls:List (Nat×Nat)} {b o:Nat} (hA:e0.A=some ⟨b,o,none⟩) (h:jI w e0 (p::ls)) (hl:ls≠[]):jI w ⟨some ⟨b,o+2,none⟩,e0.n-1,e0.cap-1⟩ ls:=by
 obtain ⟨h1,h2,h3,b',o',cs,h4,h5,h6⟩:=h
 rw [hA] at h4
 injection h4 with h4
 injection h4 with h4 h7
 subst h4; subst h7
 refine ⟨by simp [h1],hl,⟨by simp; omega,by simp; omega⟩,b,o+2,cs,rfl,h5,fun i hi=>?_⟩
 have:=h6 (i+1) (by simp; omega)
 rw [show o+2+i*2=o+(i+1)*2 by omega]
 simpa [mH] using this
structure n6 (w w2:World) (a:Gl) (b0 o0:Nat) (es:List El) (t lat:List (List (Nat×Nat))) (QA:Option Addr) (qcap:Nat) (qs:List El):Prop where
 uo:jY w2 es t
 pl:pO w2 (some ⟨b0,o0+1,none⟩) es
 eqs:jY w2 qs lat
 qr:sy w2 QA qcap qs
 pq:es≠[]->∀ x,In QA x->x≠b0
 fq:∀ x,In QA x->fu a false x\/w.heap.size<=x
 fs:∀ e∈qs,∀ x,In e.A x->fu a false x
theorem n6.only {w2 w3:World} {b0 o0:Nat} {es:List El} {t lat:List (List (Nat×Nat))} {QA:Option Addr} {qcap:Nat} {qs:List El} (h:n6 w w2 a b0 o0 es t lat QA qcap qs) (hO:ab (·=a.f) w2 w3) (hf:∃ cs,af w2 a.f 200 cs):n6 w w3 a b0 o0 es t lat QA qcap qs:=by
 obtain ⟨cs,hB⟩:=hf
 have hn:∀ {x:Nat} {ts:List TypeId},Ty w2 x ts->(∀ t∈ts,t∉[200])->¬x=a.f:=fun hx hd e=>hx.apart (e▸bm hB:Ty w2 _ [200]) hd
 refine ⟨h.uo.only hO fun e he x hx=>hn (h.uo.ty e he x hx) (by decide),?_,h.eqs.only hO fun e he x hx=>hn (h.eqs.ty e he x hx) (by decide),h.qr.only hO fun x hx=>hn (cw h.qr hx) (by decide),h.pq,h.fq,h.fs⟩
 rcases h.pl with q | ⟨b,o,cs',h1,h2,h3⟩
 ·exact .inl q
 ·exact .inr ⟨b,o,cs',h1,h2.only hO (hn (bm h2) (by decide)),h3⟩
theorem n6.more {w2 w3:World} {M':Mo} {b0 o0 pc:Nat} {e0:El} {es:List El} {t lat:List (List (Nat×Nat))} {QA:Option Addr} {qcap:Nat} {qs:List El} (h:n6 w w2 a b0 o0 es t lat QA qcap qs) (cT:a.ps=e0::es) (fO:a.PA=some ⟨b0,o0,none⟩) (eD:es.length<=pc/\pc<=maxLen) (h8:G.nx=8)
 (ht:t≠[]) (hM:ah w3 M') (hK:gq w M M') (hB:Own w3 {a with PA:=some ⟨b0,o0+1,none⟩,pcap:=pc,ps:=es,QA:=QA,qcap:=qcap,qs:=qs} {G with pass:=t,later:=lat}) (hO:ab (fun x=>aq M x\/bC a G x) w w3) (hf:∃ cs,af w2 a.f 200 cs) (ae:ab (·=a.f) w2 w3):
 dL.bh w M a G (lm M') {G with pass:=t,later:=lat} w3:=by
 have h3:=h.only ae hf
 have gf:es≠[]:=fun e=>ht (by
  have:=h.uo.len
  rw [e] at this
  exact List.eq_nil_of_length_eq_zero this.symm)
 refine ⟨M',{a with PA:=some ⟨b0,o0+1,none⟩,pcap:=pc,ps:=es,QA:=QA,qcap:=qcap,qs:=qs},hM,rfl,hK,⟨hB,fun q=>by simp only at q; omega,fun q=>by simp only at q; omega,fun q=>by simp only at q; omega,?_⟩,rfl,?_,hO⟩
 ·show eE w3 _ t lat (decide (G.nx<=6))
  rw [h8]
  exact ⟨h3.uo,h3.eqs,fun q=>by simp at q,h3.pl,eD,h3.qr,fun x hx _ hq=>h.pq gf x hq (by simpa [In] using hx.symm)⟩
 ·have hr:∀ x,fu {a with PA:=some ⟨b0,o0+1,none⟩,pcap:=pc,ps:=es,QA:=QA,qcap:=qcap,qs:=qs} false x->fu a false x\/w.heap.size<=x:=by
   rintro x (⟨_,hx⟩ | hx | ⟨e,he,hx⟩ | ⟨e,he,hx⟩)
   ·refine .inl (.inl ⟨.inl (by rw [cT]; simp),?_⟩)
    rw [fO]
    exact hx
   ·exact h.fq x hx
   ·exact .inl (.inr (.inr (.inl ⟨e,by rw [cT]; exact List.mem_cons_of_mem _ he,hx⟩)))
   ·exact .inl (h.fs e he x hx)
  rintro x (hx | ⟨q,_⟩ | ⟨q,_⟩ | ⟨q,_⟩ | hx)
  ·exact .inl (.inl hx)
  ·simp only at q; omega
  ·simp only at q; omega
  ·simp only at q; omega
  ·have hx:fu {a with PA:=some ⟨b0,o0+1,none⟩,pcap:=pc,ps:=es,QA:=QA,qcap:=qcap,qs:=qs} (decide (G.nx<=6)) x:=hx
   rw [h8] at hx
   refine (hr x hx).imp (fun q=>.inr (.inr (.inr (.inr ?_)))) id
   rw [h8]
   exact q
theorem n6.last {w2 w4:World} {M':Mo} {b0 o0 b:Nat} {lat:List (List (Nat×Nat))} {QA:Option Addr} {qcap:Nat} {qs:List El} {t:List (List (Nat×Nat))} {es:List El} (h:n6 w w2 a b0 o0 es t lat QA qcap qs) (h8:G.nx=8)
 (hM:ah w4 M') (hK:gq w M M') (hB:Own w4 {a with PA:=QA,pcap:=qcap,ps:=qs,QA:=none,qcap:=0,qs:=[],wv:=ptr b,w:=b} {G with pass:=lat,later:=[],nx:=7}) (hW:dr w4 b ⟨G.worker,0,0,0⟩) (hb:w.heap.size<=b)
 (hO:ab (fun x=>aq M x\/bC a G x) w w4) (hf:∃ cs,af w2 a.f 200 cs) (ae:ab (·=a.f) w2 w4):dL.bh w M a G (lm M') (eo {G with pass:=lat,later:=[]}) w4:=by
 have h3:=h.only ae hf
 refine ⟨M',_,hM,rfl,hK,⟨hB,fun q=>by simp [eo] at q,fun q=>by simp [eo] at q,fun _=>⟨rfl,hW⟩,?_⟩,rfl,?_,hO⟩
 ·exact ⟨h3.eqs,.nil,fun q=>by simp [eo] at q,h3.qr.pl,h3.qr.ui,Row.nil _ _ _ _,fun x _ _ q=>by simp [In] at q⟩
 ·rintro x (hx | ⟨q,_⟩ | ⟨q,_⟩ | ⟨_,rfl⟩ | hx)
  ·exact .inl (.inl hx)
  ·simp [eo] at q
  ·simp [eo] at q
  ·exact .inr hb
  ·have hr:fu a false x\/w.heap.size<=x:=by
    rcases hx with ⟨_,hx⟩ | hx | ⟨e,he,hx⟩ | ⟨e,he,hx⟩
    ·exact h.fq x hx
    ·simp [In] at hx
    ·exact .inl (h.fs e he x hx)
    ·simp at he
   refine hr.imp (fun q=>.inr (.inr (.inr (.inr ?_)))) id
   rw [h8]
   exact q
theorem bY.oY {w1:World} (h:bY w1 a G) {b0 o0:Nat} {e0:El} {es:List El} {l0:List (Nat×Nat)} {t:List (List (Nat×Nat))} (cT:a.ps=e0::es) (hp:G.pass=l0::t) (fO:a.PA=some ⟨b0,o0,none⟩):n6 w w1 a b0 o0 es t G.later a.QA a.qcap a.qs:=by
 have h1:=h.cV.ps
 have h2:=h.cV.pl
 rw [cT] at h1 h2
 rw [hp] at h1
 cases h1 with
 | cons _ gf=>
   refine ⟨gf,h2.tail fO,h.cV.qs,h.cV.qr,fun _ x hx e=>?_,fun x hx=>.inl (.inr (.inl hx)),fun e he x hx=>.inr (.inr (.inr ⟨e,he,hx⟩))⟩
   subst e
   exact h.cV.pq x (by rw [fO]; rfl) (.inl (by rw [cT]; simp)) hx
theorem n6.grown {w2 w3:World} {b0 o0:Nat} {es:List El} {t lat:List (List (Nat×Nat))} {QA QA2:Option Addr} {qcap cap2:Nat} {qs:List El} {el:El} {ls:List (Nat×Nat)} (h:n6 w w2 a b0 o0 es t lat QA qcap qs) (hL:jI w2 el ls) (eR:∀ x,In el.A x->fu a false x)
 (hR:sy w3 QA2 cap2 (qs++[el])) (hO:ab (In QA) w2 w3) (hA:∀ x,In QA2 x->In QA x\/w2.heap.size<=x) (hs:w.heap.size<=w2.heap.size):n6 w w3 a b0 o0 es t (lat++[ls]) QA2 cap2 (qs++[el]):=by
 have hn:∀ {x:Nat},Ty w2 x [270]->¬In QA x:=fun hx q=>hx.apart (cw h.qr q) (by decide)
 refine ⟨h.uo.only hO fun e he x hx=>hn (h.uo.ty e he x hx),?_,(h.eqs.only hO fun e he x hx=>hn (h.eqs.ty e he x hx)).snoc (hL.only hO fun x hx=>hn (hL.ty hx)),hR,fun gf x hx e=>?_,fun x hx=>?_,fun e he x hx=>?_⟩
 ·by_cases h0:es=[]
  ·exact .inl h0
  ·exact h.pl.only hO fun x hx q=>h.pq h0 x q (by simpa [In] using hx.symm)
 ·rcases hA x hx with q | q
  ·exact h.pq gf x q e
  ·rcases h.pl with z | ⟨b,o,cs,h1,h2,_⟩
   ·exact gf z
   ·injection h1 with h1
    injection h1 with h1 _
    have:=h2.lt
    omega
 ·rcases hA x hx with q | q
  ·exact h.fq x q
  ·exact .inr (by omega)
 ·rcases List.mem_append.1 he with q | q
  ·exact h.fs e q x hx
  ·have:e=el:=by simpa using q
   subst this
   exact eR x hx
set_option maxHeartbeats 4000000 in
theorem Qm (hM:ah w M) (h:bY w a G) (h8:G.nx=8) {x y k:Nat} {t:List (List (Nat×Nat))} (hp:G.pass=[(x,y)]::t) (ht:t≠[]) (hlen:G.later.length<=100000) (hx:x<=18446744073709551615) (hk:bj M.ss x k):
 Calls Tryz.prog 245 #[ptr a.f,ptr M.m] w fun e w'=>e=.returned (.bool false)/\dL.bh w M a G {lm M with ss:=Pu.aS M.ss x y} ({G with pass:=t}) w':=by
 have ie:=Lib.hid (qV hM h hx hk y)
 have HM:=Lib.hid hM
 have HG:=Lib.hid h
 have c14:=h.ao.cell 14
 simp only [bP,List.getElem?_toArray,List.getElem?_cons_succ,List.getElem?_cons_zero] at c14
 have cT:=h.cV.ps
 have ic:=h.cV.pl
 have eD:=h.cV.pc
 rw [hp] at cT
 generalize ko:a.ps=ps at*
 cases cT with
 | @cons e0 _ es _ kr gf=>
 have rA:=Lib.hid kr
 obtain ⟨n0,mj,fg,b,o,cs,hA,hB,bo⟩:=kr
 rcases ic with q | ⟨b0,o0,cs0,fO,jQ,kt⟩
 ·simp at q
 have i0:=kt 0 (by simp)
 have i1:=(bo 0 (by simp)).1
 have i2:=(bo 0 (by simp)).2
 rw [<-jQ.cell] at i0
 rw [<-hB.cell] at i1 i2
 simp only [nW,mH,List.getD_cons_zero,Nat.add_zero,Nat.zero_mul,hA] at i0 i1 i2
 rw [fO] at c14
 have d2:=hM.hd.2.2.1
 simp only [List.length_cons,maxLen] at c14 eD
 have eR:es.length=t.length:=gf.len
 obtain ⟨m,hm⟩:∃ m,m=es.length:=⟨_,rfl⟩
 rw [<-hm] at c14 eD eR
 have mV:=Lib.hid (show es.length<=a.pcap-1/\a.pcap-1<=maxLen by simp only [maxLen]; omega)
 simp only [List.length_singleton] at n0
 rw [n0] at i0 fg
 have qw:0<m:=by rw [eR]; exact List.length_pos_iff.2 ht
 have mW:¬a.pcap=1:=by omega
 replace hm:=Lib.hid hm
 simp only [maxLen] at fg
 have eZ:=Lib.hid ko
 have jA:=Lib.hid fO
 have dG:=Lib.hid hA
 replace h8:=Lib.hid h8
 replace hp:=Lib.hid hp
 replace ht:=Lib.hid ht
 obtain ⟨ec,gg⟩:∃ n,n=e0.cap:=⟨_,rfl⟩
 obtain ⟨pc,dZ⟩:∃ n,n=a.pcap:=⟨_,rfl⟩
 rw [<-gg] at i0 fg
 rw [<-dZ] at c14 eD mW
 rw [<-dZ] at mV
 replace gg:=Lib.hid gg
 replace dZ:=Lib.hid dZ
 replace n0:=Lib.hid n0
 clear hM h hk hx bo kt hB jQ ko gf hA fO mj eR
 go_enter Tryz.func245,Tryz.ntmps245
 go_upto_region 2 with (fail)
 go_region_held3 (fun w'=>w'.cell? ⟨M.m,2,none⟩=some (ptr M.ar)/\w'.cell? ⟨b,o,none⟩=some (.int .u64 x)/\w'.cell? ⟨b,o+1,none⟩=some (.int .u64 y)) (go_keep)
  (first
    | (go_at_call 203
       refine (ie.out (w.drewN 1) ((ab.refl (fun _=>False) w).drewN 1)).mono ?_
       rintro e w1 ⟨rfl,aw,ak,bE⟩
       have ig:¬aq M b:=fun q=>HG.out.aB HM.out (x:=b) (.inr (.inr (.inr (.inr (.inr (.inr (.inl ⟨e0,by rw [eZ.out]; simp,by rw [dG.out]; rfl⟩))))))) q
       have p1:=(ab.cell bE (p:=⟨b,o,none⟩) (World.block_lt_of_cell? w _ i1) ig).trans i1
       have p2:=(ab.cell bE (p:=⟨b,o+1,none⟩) (World.block_lt_of_cell? w _ i2) ig).trans i2
       have p00:=aw.hd.2.2.1
       have r14:=ak.ao.cell 14
       have r15:=ak.ao.cell 15
       have z14:=ak.ao.frozen 14
       have z15:=ak.ao.frozen 15
       simp only [bP,List.getElem?_toArray,List.getElem?_cons_succ,List.getElem?_cons_zero,eZ.out,jA.out,List.length_cons] at r14 r15
       rw [<-dZ.out,<-hm.out] at r14
       have iQ:=Lib.hid (ak.oY (w:=w) eZ.out hp.out jA.out)
       replace aw:=Lib.hid aw
       replace ak:=Lib.hid ak
       replace bE:=Lib.hid bE
       clear ie ig))
 clear p1 p2 p00 i0 i1 i2 d2 c14
 have ag:Own (w1.setCell ⟨a.f,14,none⟩ (.slice (some ⟨b0,o0+1,none⟩) m (pc-1))) {a with PA:=some ⟨b0,o0+1,none⟩,pcap:=pc-1,ps:=es,QA:=a.QA,qcap:=a.qcap,qs:=a.qs} {G with pass:=t,later:=G.later}:=by
  have:=ak.out.ao.store 14 (.slice (some ⟨b0,o0+1,none⟩) m (pc-1))
  rw [hm.out] at this ⊢
  exact this
 have ae:=(ab.refl (·=a.f) w1).setCell (p:=⟨a.f,14,none⟩) (.inl rfl) (.slice (some ⟨b0,o0+1,none⟩) m (pc-1))
 have hE:=Lib.hid (iQ.out.more eZ.out jA.out mV.out h8.out ht.out (aw.out.only ae (fun x hx e=>ak.out.aB aw.out (x:=a.f) (.inl rfl) (e▸hx))) (M:=M) (M':={M with ss:=Pu.aS M.ss x y}) ⟨rfl,rfl,rfl,rfl,fun x q=>.inl q⟩ ag ((bE.out.mono (fun x _ q=>(.inl q:aq M x\/bC a G x))).trans' ae (fun x _ q=>.inr (.inl q))) ⟨_,ak.out.ao⟩ ae)
 clear ag ae iQ
 go_wp2_with fail
 go_ret
 exact ⟨rfl,hE.out⟩
set_option maxHeartbeats 4000000 in
theorem Qn (hM:ah w M) (h:bY w a G) (h8:G.nx=8) {x y k:Nat} {t:List (List (Nat×Nat))} (hp:G.pass=[(x,y)]::t) (ht:t=[]) (mW:¬a.pcap=1) (hlen:G.later.length<=100000) (hx:x<=18446744073709551615) (hk:bj M.ss x k):
 Calls Tryz.prog 245 #[ptr a.f,ptr M.m] w fun e w'=>e=.returned (.bool false)/\dL.bh w M a G {lm M with ss:=Pu.aS M.ss x y} (eo {G with pass:=G.later,later:=[]}) w':=by
 have ie:=Lib.hid (qV hM h hx hk y)
 have HM:=Lib.hid hM
 have HG:=Lib.hid h
 have c14:=h.ao.cell 14
 simp only [bP,List.getElem?_toArray,List.getElem?_cons_succ,List.getElem?_cons_zero] at c14
 have cT:=h.cV.ps
 have ic:=h.cV.pl
 have eD:=h.cV.pc
 rw [hp] at cT
 generalize ko:a.ps=ps at*
 cases cT with
 | @cons e0 _ es _ kr gf=>
 have rA:=Lib.hid kr
 obtain ⟨n0,mj,fg,b,o,cs,hA,hB,bo⟩:=kr
 rcases ic with q | ⟨b0,o0,cs0,fO,jQ,kt⟩
 ·simp at q
 have i0:=kt 0 (by simp)
 have i1:=(bo 0 (by simp)).1
 have i2:=(bo 0 (by simp)).2
 rw [<-jQ.cell] at i0
 rw [<-hB.cell] at i1 i2
 simp only [nW,mH,List.getD_cons_zero,Nat.add_zero,Nat.zero_mul,hA] at i0 i1 i2
 rw [fO] at c14
 have d2:=hM.hd.2.2.1
 simp only [List.length_cons,maxLen] at c14 eD
 have eR:es.length=t.length:=gf.len
 obtain ⟨m,hm⟩:∃ m,m=es.length:=⟨_,rfl⟩
 rw [<-hm] at c14 eD eR
 have mV:=Lib.hid (show es.length<=a.pcap-1/\a.pcap-1<=maxLen by simp only [maxLen]; omega)
 simp only [List.length_singleton] at n0
 rw [n0] at i0 fg
 have qw:m=0:=by rw [eR,ht]; rfl
 subst qw
 replace hm:=Lib.hid hm
 simp only [maxLen] at fg
 have eZ:=Lib.hid ko
 have jA:=Lib.hid fO
 have dG:=Lib.hid hA
 replace h8:=Lib.hid h8
 replace hp:=Lib.hid hp
 replace ht:=Lib.hid ht
 obtain ⟨ec,gg⟩:∃ n,n=e0.cap:=⟨_,rfl⟩
 obtain ⟨pc,dZ⟩:∃ n,n=a.pcap:=⟨_,rfl⟩
 rw [<-gg] at i0 fg
 rw [<-dZ] at c14 eD mW
 rw [<-dZ] at mV
 replace gg:=Lib.hid gg
 replace dZ:=Lib.hid dZ
 replace n0:=Lib.hid n0
 clear hM h hk hx bo kt hB jQ ko gf hA fO mj eR
 go_enter Tryz.func245,Tryz.ntmps245
 go_upto_region 2 with (fail)
 go_region_held3 (fun w'=>w'.cell? ⟨M.m,2,none⟩=some (ptr M.ar)/\w'.cell? ⟨b,o,none⟩=some (.int .u64 x)/\w'.cell? ⟨b,o+1,none⟩=some (.int .u64 y)) (go_keep)
  (first
    | (go_at_call 203
       refine (ie.out (w.drewN 1) ((ab.refl (fun _=>False) w).drewN 1)).mono ?_
       rintro e w1 ⟨rfl,aw,ak,bE⟩
       have ig:¬aq M b:=fun q=>HG.out.aB HM.out (x:=b) (.inr (.inr (.inr (.inr (.inr (.inr (.inl ⟨e0,by rw [eZ.out]; simp,by rw [dG.out]; rfl⟩))))))) q
       have p1:=(ab.cell bE (p:=⟨b,o,none⟩) (World.block_lt_of_cell? w _ i1) ig).trans i1
       have p2:=(ab.cell bE (p:=⟨b,o+1,none⟩) (World.block_lt_of_cell? w _ i2) ig).trans i2
       have p00:=aw.hd.2.2.1
       have r14:=ak.ao.cell 14
       have r15:=ak.ao.cell 15
       have z14:=ak.ao.frozen 14
       have z15:=ak.ao.frozen 15
       simp only [bP,List.getElem?_toArray,List.getElem?_cons_succ,List.getElem?_cons_zero,eZ.out,jA.out,List.length_cons] at r14 r15
       rw [<-dZ.out,<-hm.out] at r14
       have iQ:=Lib.hid (ak.oY (w:=w) eZ.out hp.out jA.out)
       replace aw:=Lib.hid aw
       replace ak:=Lib.hid ak
       replace bE:=Lib.hid bE
       clear ie ig))
 clear p1 p2 p00 i0 i1 i2 d2 c14
 have ay:Own (((w1.setCell ⟨a.f,14,none⟩ (.slice (some ⟨b0,o0+1,none⟩) 0 (pc-1))).setCell ⟨a.f,14,none⟩ (.slice a.QA a.qs.length a.qcap)).setCell ⟨a.f,15,none⟩ (.slice none 0 0)) {a with PA:=a.QA,pcap:=a.qcap,ps:=a.qs,QA:=none,qcap:=0,qs:=[]} {G with pass:=G.later,later:=[]}:=((ak.out.ao.store 14 (.slice (some ⟨b0,o0+1,none⟩) 0 (pc-1))).store 14 (.slice a.QA a.qs.length a.qcap)).store 15 (.slice none 0 0)
 have an:=pQ (c:=a.f) w1 14 14 15 (.slice (some ⟨b0,o0+1,none⟩) 0 (pc-1)) (.slice a.QA a.qs.length a.qcap) (.slice none 0 0)
 have mh:=Lib.hid (wJ ay)
 replace an:=Lib.hid an
 clear ay
 go_wp2_with fail
 refine mh.out.mono ?_
 rintro e w4 ⟨b4,rfl,az,fT,fI,aN⟩
 have hE:Hid (dL.bh w M a G {lm M with ss:=Pu.aS M.ss x y} (eo {G with pass:=G.later,later:=[]}) w4):=Lib.hid (by
  have fN:=an.out.trans aN
  have hs:=bE.out.size
  have ox:=an.out.size
  exact iQ.out.last h8.out (M:=M) (M':={M with ss:=Pu.aS M.ss x y}) (aw.out.only fN (fun x hx e=>ak.out.aB aw.out (x:=a.f) (.inl rfl) (e▸hx))) ⟨rfl,rfl,rfl,rfl,fun x q=>.inl q⟩ az fT (Nat.le_trans hs (Nat.le_trans ox fI)) ((bE.out.mono (fun x _ q=>(.inl q:aq M x\/bC a G x))).trans' fN (fun x _ q=>.inr (.inl q))) ⟨_,ak.out.ao⟩ fN)
 clear az fT fI aN mh iQ an
 go_wp2_with fail
 go_ret
 exact ⟨rfl,hE.out⟩
set_option maxHeartbeats 4000000 in
theorem Qo (hM:ah w M) (h:bY w a G) (h8:G.nx=8) {x y k:Nat} {t:List (List (Nat×Nat))} (hp:G.pass=[(x,y)]::t) (ht:t=[]) (mW:a.pcap=1) (hlen:G.later.length<=100000) (hx:x<=18446744073709551615) (hk:bj M.ss x k):
 Calls Tryz.prog 245 #[ptr a.f,ptr M.m] w fun e w'=>e=.returned (.bool false)/\dL.bh w M a G {lm M with ss:=Pu.aS M.ss x y} (eo {G with pass:=G.later,later:=[]}) w':=by
 have ie:=Lib.hid (qV hM h hx hk y)
 have HM:=Lib.hid hM
 have HG:=Lib.hid h
 have c14:=h.ao.cell 14
 simp only [bP,List.getElem?_toArray,List.getElem?_cons_succ,List.getElem?_cons_zero] at c14
 have cT:=h.cV.ps
 have ic:=h.cV.pl
 have eD:=h.cV.pc
 rw [hp] at cT
 generalize ko:a.ps=ps at*
 cases cT with
 | @cons e0 _ es _ kr gf=>
 have rA:=Lib.hid kr
 obtain ⟨n0,mj,fg,b,o,cs,hA,hB,bo⟩:=kr
 rcases ic with q | ⟨b0,o0,cs0,fO,jQ,kt⟩
 ·simp at q
 have i0:=kt 0 (by simp)
 have i1:=(bo 0 (by simp)).1
 have i2:=(bo 0 (by simp)).2
 rw [<-jQ.cell] at i0
 rw [<-hB.cell] at i1 i2
 simp only [nW,mH,List.getD_cons_zero,Nat.add_zero,Nat.zero_mul,hA] at i0 i1 i2
 rw [fO] at c14
 have d2:=hM.hd.2.2.1
 simp only [List.length_cons,maxLen] at c14 eD
 have eR:es.length=t.length:=gf.len
 obtain ⟨m,hm⟩:∃ m,m=es.length:=⟨_,rfl⟩
 rw [<-hm] at c14 eD eR
 have mV:=Lib.hid (show es.length<=a.pcap-1/\a.pcap-1<=maxLen by simp only [maxLen]; omega)
 simp only [List.length_singleton] at n0
 rw [n0] at i0 fg
 have qw:m=0:=by rw [eR,ht]; rfl
 subst qw
 replace hm:=Lib.hid hm
 simp only [maxLen] at fg
 have eZ:=Lib.hid ko
 have jA:=Lib.hid fO
 have dG:=Lib.hid hA
 replace h8:=Lib.hid h8
 replace hp:=Lib.hid hp
 replace ht:=Lib.hid ht
 obtain ⟨ec,gg⟩:∃ n,n=e0.cap:=⟨_,rfl⟩
 obtain ⟨pc,dZ⟩:∃ n,n=a.pcap:=⟨_,rfl⟩
 rw [<-gg] at i0 fg
 rw [<-dZ] at c14 eD mW
 subst mW
 rw [<-dZ] at mV
 replace gg:=Lib.hid gg
 replace dZ:=Lib.hid dZ
 replace n0:=Lib.hid n0
 clear hM h hk hx bo kt hB jQ ko gf hA fO mj eR
 go_enter Tryz.func245,Tryz.ntmps245
 go_upto_region 2 with (fail)
 go_region_held3 (fun w'=>w'.cell? ⟨M.m,2,none⟩=some (ptr M.ar)/\w'.cell? ⟨b,o,none⟩=some (.int .u64 x)/\w'.cell? ⟨b,o+1,none⟩=some (.int .u64 y)) (go_keep)
  (first
    | (go_at_call 203
       refine (ie.out (w.drewN 1) ((ab.refl (fun _=>False) w).drewN 1)).mono ?_
       rintro e w1 ⟨rfl,aw,ak,bE⟩
       have ig:¬aq M b:=fun q=>HG.out.aB HM.out (x:=b) (.inr (.inr (.inr (.inr (.inr (.inr (.inl ⟨e0,by rw [eZ.out]; simp,by rw [dG.out]; rfl⟩))))))) q
       have p1:=(ab.cell bE (p:=⟨b,o,none⟩) (World.block_lt_of_cell? w _ i1) ig).trans i1
       have p2:=(ab.cell bE (p:=⟨b,o+1,none⟩) (World.block_lt_of_cell? w _ i2) ig).trans i2
       have p00:=aw.hd.2.2.1
       have r14:=ak.ao.cell 14
       have r15:=ak.ao.cell 15
       have z14:=ak.ao.frozen 14
       have z15:=ak.ao.frozen 15
       simp only [bP,List.getElem?_toArray,List.getElem?_cons_succ,List.getElem?_cons_zero,eZ.out,jA.out,List.length_cons] at r14 r15
       rw [<-dZ.out,<-hm.out] at r14
       have iQ:=Lib.hid (ak.oY (w:=w) eZ.out hp.out jA.out)
       replace aw:=Lib.hid aw
       replace ak:=Lib.hid ak
       replace bE:=Lib.hid bE
       clear ie ig))
 clear p1 p2 p00 i0 i1 i2 d2 c14
 have ay:Own (((w1.setCell ⟨a.f,14,none⟩ (.slice (some ⟨b0,o0,none⟩) 0 0)).setCell ⟨a.f,14,none⟩ (.slice a.QA a.qs.length a.qcap)).setCell ⟨a.f,15,none⟩ (.slice none 0 0)) {a with PA:=a.QA,pcap:=a.qcap,ps:=a.qs,QA:=none,qcap:=0,qs:=[]} {G with pass:=G.later,later:=[]}:=((ak.out.ao.store 14 (.slice (some ⟨b0,o0,none⟩) 0 0)).store 14 (.slice a.QA a.qs.length a.qcap)).store 15 (.slice none 0 0)
 have an:=pQ (c:=a.f) w1 14 14 15 (.slice (some ⟨b0,o0,none⟩) 0 0) (.slice a.QA a.qs.length a.qcap) (.slice none 0 0)
 have mh:=Lib.hid (wJ ay)
 replace an:=Lib.hid an
 clear ay
 go_wp2_with fail
 refine mh.out.mono ?_
 rintro e w4 ⟨b4,rfl,az,fT,fI,aN⟩
 have hE:Hid (dL.bh w M a G {lm M with ss:=Pu.aS M.ss x y} (eo {G with pass:=G.later,later:=[]}) w4):=Lib.hid (by
  have fN:=an.out.trans aN
  have hs:=bE.out.size
  have ox:=an.out.size
  exact iQ.out.last h8.out (M:=M) (M':={M with ss:=Pu.aS M.ss x y}) (aw.out.only fN (fun x hx e=>ak.out.aB aw.out (x:=a.f) (.inl rfl) (e▸hx))) ⟨rfl,rfl,rfl,rfl,fun x q=>.inl q⟩ az fT (Nat.le_trans hs (Nat.le_trans ox fI)) ((bE.out.mono (fun x _ q=>(.inl q:aq M x\/bC a G x))).trans' fN (fun x _ q=>.inr (.inl q))) ⟨_,ak.out.ao⟩ fN)
 clear az fT fI aN mh iQ an
 go_wp2_with fail
 go_ret
 exact ⟨rfl,hE.out⟩
set_option maxHeartbeats 4000000 in
theorem Qq (hM:ah w M) (h:bY w a G) (h8:G.nx=8) {x y k:Nat} {ls:List (Nat×Nat)} {t:List (List (Nat×Nat))} (hp:G.pass=((x,y)::ls)::t) (jh:ls≠[]) (ht:t≠[]) (hlen:G.later.length<=100000) (hx:x<=18446744073709551615) (hk:bj M.ss x k):
 Calls Tryz.prog 245 #[ptr a.f,ptr M.m] w fun e w'=>e=.returned (.bool false)/\dL.bh w M a G {lm M with ss:=Pu.aS M.ss x y} ({G with pass:=t,later:=G.later++[ls]}) w':=by
 have ie:=Lib.hid (qV hM h hx hk y)
 have HM:=Lib.hid hM
 have HG:=Lib.hid h
 have c14:=h.ao.cell 14
 simp only [bP,List.getElem?_toArray,List.getElem?_cons_succ,List.getElem?_cons_zero] at c14
 have cT:=h.cV.ps
 have ic:=h.cV.pl
 have eD:=h.cV.pc
 rw [hp] at cT
 generalize ko:a.ps=ps at*
 cases cT with
 | @cons e0 _ es _ kr gf=>
 have rA:=Lib.hid kr
 obtain ⟨n0,mj,fg,b,o,cs,hA,hB,bo⟩:=kr
 rcases ic with q | ⟨b0,o0,cs0,fO,jQ,kt⟩
 ·simp at q
 have i0:=kt 0 (by simp)
 have i1:=(bo 0 (by simp)).1
 have i2:=(bo 0 (by simp)).2
 rw [<-jQ.cell] at i0
 rw [<-hB.cell] at i1 i2
 simp only [nW,mH,List.getD_cons_zero,Nat.add_zero,Nat.zero_mul,hA] at i0 i1 i2
 rw [fO] at c14
 have d2:=hM.hd.2.2.1
 simp only [List.length_cons,maxLen] at c14 eD
 have eR:es.length=t.length:=gf.len
 obtain ⟨m,hm⟩:∃ m,m=es.length:=⟨_,rfl⟩
 rw [<-hm] at c14 eD eR
 have mV:=Lib.hid (show es.length<=a.pcap-1/\a.pcap-1<=maxLen by simp only [maxLen]; omega)
 have sZ:e0.n=ls.length+1:=by simpa using n0
 have ya:0<ls.length:=List.length_pos_iff.2 jh
 obtain ⟨n,hn⟩:∃ n,n=ls.length:=⟨_,rfl⟩
 rw [sZ,<-hn] at i0 fg
 rw [<-hn] at ya
 replace hn:=Lib.hid hn
 replace jh:=Lib.hid jh
 have yb:¬e0.cap=1:=by omega
 have fz:(1:Int)<(n:Int)+1:=by omega
 have gC:¬((n:Int)+1<1):=by omega
 have qw:0<m:=by rw [eR]; exact List.length_pos_iff.2 ht
 have mW:¬a.pcap=1:=by omega
 replace hm:=Lib.hid hm
 simp only [maxLen] at fg
 have eZ:=Lib.hid ko
 have jA:=Lib.hid fO
 have dG:=Lib.hid hA
 replace h8:=Lib.hid h8
 replace hp:=Lib.hid hp
 replace ht:=Lib.hid ht
 obtain ⟨ec,gg⟩:∃ n,n=e0.cap:=⟨_,rfl⟩
 obtain ⟨pc,dZ⟩:∃ n,n=a.pcap:=⟨_,rfl⟩
 rw [<-gg] at i0 fg yb
 rw [<-dZ] at c14 eD mW
 rw [<-dZ] at mV
 replace gg:=Lib.hid gg
 replace dZ:=Lib.hid dZ
 replace n0:=Lib.hid n0
 clear hM h hk hx bo kt hB jQ ko gf hA fO mj eR
 go_enter Tryz.func245,Tryz.ntmps245
 go_upto_region 2 with (fail)
 go_region_held3 (fun w'=>w'.cell? ⟨M.m,2,none⟩=some (ptr M.ar)/\w'.cell? ⟨b,o,none⟩=some (.int .u64 x)/\w'.cell? ⟨b,o+1,none⟩=some (.int .u64 y)) (go_keep)
  (first
    | (go_at_call 203
       refine (ie.out (w.drewN 1) ((ab.refl (fun _=>False) w).drewN 1)).mono ?_
       rintro e w1 ⟨rfl,aw,ak,bE⟩
       have ig:¬aq M b:=fun q=>HG.out.aB HM.out (x:=b) (.inr (.inr (.inr (.inr (.inr (.inr (.inl ⟨e0,by rw [eZ.out]; simp,by rw [dG.out]; rfl⟩))))))) q
       have p1:=(ab.cell bE (p:=⟨b,o,none⟩) (World.block_lt_of_cell? w _ i1) ig).trans i1
       have p2:=(ab.cell bE (p:=⟨b,o+1,none⟩) (World.block_lt_of_cell? w _ i2) ig).trans i2
       have p00:=aw.hd.2.2.1
       have r14:=ak.ao.cell 14
       have r15:=ak.ao.cell 15
       have z14:=ak.ao.frozen 14
       have z15:=ak.ao.frozen 15
       simp only [bP,List.getElem?_toArray,List.getElem?_cons_succ,List.getElem?_cons_zero,eZ.out,jA.out,List.length_cons] at r14 r15
       rw [<-dZ.out,<-hm.out] at r14
       have iQ:=Lib.hid (ak.oY (w:=w) eZ.out hp.out jA.out)
       replace aw:=Lib.hid aw
       replace ak:=Lib.hid ak
       replace bE:=Lib.hid bE
       clear ie ig))
 clear p1 p2 p00 i0 i1 i2 d2 c14
 go_upto_region 5 with (fail)
 obtain ⟨w2,aT⟩:∃ w2,w2=w1.setCell ⟨a.f,14,none⟩ (.slice (some ⟨b0,o0+1,none⟩) m (pc-1)):=⟨_,rfl⟩
 have ag:af w2 a.f 200 ((bP a G).setIfInBounds 14 (.slice (some ⟨b0,o0+1,none⟩) m (pc-1))):=by rw [aT]; exact ak.out.ao.store 14 (.slice (some ⟨b0,o0+1,none⟩) m (pc-1))
 have ae:ab (·=a.f) w1 w2:=by rw [aT]; exact (ab.refl (·=a.f) w1).setCell (p:=⟨a.f,14,none⟩) (.inl rfl) (.slice (some ⟨b0,o0+1,none⟩) m (pc-1))
 rw [<-aT]
 clear aT r14 r15 z14 z15
 have r15:=ag.cell 15
 simp only [bP,List.setIfInBounds_toArray,List.set_cons_zero,List.set_cons_succ,List.getElem?_toArray,List.getElem?_cons_succ,List.getElem?_cons_zero] at r15
 have bn:=Lib.hid (iQ.out.only ae ⟨_,ak.out.ao⟩)
 replace ae:=Lib.hid ae
 replace ag:=Lib.hid ag
 generalize ji:a.qs.length=qn at*
 replace ji:=Lib.hid ji
 have rB:=Lib.hid (show qn<=100000 by
  have:=bn.out.eqs.len
  have:=ji.out
  omega)
 have lf:a.f<w2.drew.heap.size:=ag.out.lt
 obtain ⟨i0,cq,cy,cL,cz⟩:=info_parts zy
 have r0:w2.drew.cell? ⟨a.f,15,none⟩=some (.slice a.QA qn a.qcap):=r15
 refine wp_region_noPanic ?_
 refine Rn.sB (fun w'=>w'.cell? ⟨a.f,15,none⟩=some (.slice a.QA qn a.qcap)) (fun j=>j==9) (by kernel_rfl) ?_
 refine Rn.aG (i:=0) (oi:=⟨some 36,_,_,_,_,_⟩) (v:=ptr a.f) (by rfl) (by kernel_rfl) (by kernel_rfl) (by kernel_rfl) rfl (fun _ _ _ h=>h.elim) (Or.inl ⟨by rfl,by intro w' _; go_simp⟩) r0 ?_
 try simp only [Act.put,List.setIfInBounds_toArray,List.set_cons_zero,List.set_cons_succ]
 refine Rn.aG (i:=1) (oi:=⟨some 37,_,_,_,_,_⟩) (v:=ptr a.f) (by rfl) (by kernel_rfl) (by kernel_rfl) (by kernel_rfl) rfl (fun _ _ _ h=>h.elim) (Or.inl ⟨by rfl,by intro w' _; go_simp⟩) r0 ?_
 try simp only [Act.put,List.setIfInBounds_toArray,List.set_cons_zero,List.set_cons_succ]
 refine Rn.aG (i:=2) (oi:=⟨some 38,_,_,_,_,_⟩) (v:=.pointer (some ⟨a.f,0,none⟩)) (by rfl) (by kernel_rfl) (by kernel_rfl) (by kernel_rfl) rfl (fun _ _ _ h=>h.elim) (Or.inl ⟨by rfl,by intro w' _; go_simp⟩) r0 ?_
 try simp only [Act.put,List.setIfInBounds_toArray,List.set_cons_zero,List.set_cons_succ]
 refine Rn.aG (i:=3) (oi:=⟨some 39,_,_,_,_,_⟩) (v:=.pointer (some ⟨a.f,15,none⟩)) (by rfl) (by kernel_rfl) (by kernel_rfl) (by kernel_rfl) rfl (fun _ _ _ h=>h.elim) (Or.inl ⟨by rfl,by intro w' _; go_simp⟩) r0 ?_
 try simp only [Act.put,List.setIfInBounds_toArray,List.set_cons_zero,List.set_cons_succ]
 refine Rn.fP (i:=4) (oi:=⟨some 40,_,_,_,_,_⟩) (v:=.slice a.QA qn a.qcap) (by rfl) (by kernel_rfl) (by kernel_rfl) (by kernel_rfl) rfl (by intro j hj; rw [show j=9 from by simpa using hj]; kernel_rfl) (fun _ _ _ h=>h.elim) (Or.inl ⟨by rfl,by intro w' cZ; go_simp⟩) r0 ?_
 try simp only [Act.put,List.setIfInBounds_toArray,List.set_cons_zero,List.set_cons_succ]
 refine Rn.aG (i:=5) (oi:=⟨some 41,_,_,_,_,_⟩) (v:=.slice (some ⟨b,o,none⟩) (n+1) ec) (by rfl) (by kernel_rfl) (by kernel_rfl) (by kernel_rfl) rfl (fun _ _ _ h=>h.elim) (Or.inl ⟨by rfl,by intro w' _; go_simp⟩) r0 ?_
 try simp only [Act.put,List.setIfInBounds_toArray,List.set_cons_zero,List.set_cons_succ]
 refine Rn.aG (i:=6) (oi:=⟨some 42,_,_,_,_,_⟩) (v:=.slice (some ⟨b,o+2,none⟩) n (ec-1)) (by rfl) (by kernel_rfl) (by kernel_rfl) (by kernel_rfl) rfl (fun _ _ _ h=>h.elim) (Or.inl ⟨by rfl,by intro w' _; go_simp⟩) r0 ?_
 try simp only [Act.put,List.setIfInBounds_toArray,List.set_cons_zero,List.set_cons_succ]
 refine Rn.lj (i:=7) (o:=⟨some 43,_,_,_,_,_⟩) (by kernel_rfl) (by rfl) rfl ?_
 intro K hK
 go_simp
 have r1:(w2.drew.alloc (.cells #[.slice (some ⟨b,o+2,none⟩) n (ec-1)] 260)).cell? ⟨a.f,15,none⟩=some (.slice a.QA qn a.qcap):=(ab.cell ((ab.refl (fun _=>False) w2.drew).alloc _) (p:=⟨a.f,15,none⟩) lf (by simp)).trans r15
 refine hK _ _ r1 ?_
 clear hK
 try simp only [Act.put,List.setIfInBounds_toArray,List.set_cons_zero,List.set_cons_succ]
 have an:ab (fun _=>False) w2 (w2.drew.alloc (.cells #[.slice (some ⟨b,o+2,none⟩) n (ec-1)] 260)):=((ab.refl (fun _=>False) w2).drew).alloc _
 have ba:=bn.out.only (an.mono (fun x _ q=>q.elim)) ⟨_,ag.out⟩
 have ay:=ag.out.only an (by simp)
 have ki:=af.made w2.drew 260 #[.slice (some ⟨b,o+2,none⟩) n (ec-1)]
 have jg:jI (w2.drew.alloc (.cells #[.slice (some ⟨b,o+2,none⟩) n (ec-1)] 260)) ⟨some ⟨b,o+2,none⟩,n,ec-1⟩ ls:=by
  have bW:=rA.out
  have h1:jI w1 e0 ((x,y)::ls):=bW.only bE.out (fun z hz q=>HG.out.aB HM.out (x:=z) (.inr (.inr (.inr (.inr (.inr (.inr (.inl ⟨e0,by rw [eZ.out]; simp,hz⟩))))))) q)
  have h2:=(h1.only ae.out (fun z hz e=>(h1.ty hz).apart (e▸bm ak.out.ao:Ty w1 z [200]) (by decide))).only an (by simp)
  have h3:=h2.tail dG.out jh.out
  rw [<-gg.out] at h3
  have h4:e0.n-1=n:=by have:=n0.out; rw [this,hn.out]; simp
  rw [h4] at h3
  exact h3
 obtain ⟨A2,cap2,w4,eX,ka,aN,iz⟩:=wF (P:=Tryz.prog) (w2.drew.alloc (.cells #[.slice (some ⟨b,o+2,none⟩) n (ec-1)] 260)) 198 198 260 i0 _ 1 24 Tryz.underlying198 cq cy cL cz rfl (by omega) lS ug
  (by intro x u hu; simp [lS] at hu; subst hu; rfl) ji.out ba.qr ⟨some ⟨b,o+2,none⟩,n,ec-1⟩ ⟨w2.drew.heap.size,0,none⟩ 1 (by
    intro j u hu
    rw [Addr.add_lit,Nat.zero_add,ki.cell]
    simpa [lS] using hu) (by have:=rB.out; simp only [maxLen]; omega) (by have:=rB.out; omega)
 refine Rn.lj (i:=8) (o:=⟨some 44,_,_,_,_,_⟩) (by kernel_rfl) (by rfl) rfl ?_
 intro K hK
 refine wG rfl (.tmp 40) (.tmp 43) 198 rfl (.slice a.QA qn a.qcap) (.slice (some ⟨w2.drew.heap.size,0,none⟩) 1 1) rfl rfl eX ?_
 have rC:¬In a.QA a.f:=fun q=>(cw ba.qr q).apart (bm ay) (by decide)
 have az:=ay.only aN rC
 have r4:=az.cell 15
 simp only [bP,List.setIfInBounds_toArray,List.set_cons_zero,List.set_cons_succ,List.getElem?_toArray,List.getElem?_cons_succ,List.getElem?_cons_zero,ji.out] at r4
 refine hK _ _ r4 ?_
 clear hK
 try simp only [Act.put,List.setIfInBounds_toArray,List.set_cons_zero,List.set_cons_succ]
 refine Rn.wH 9 (by rfl) (by kernel_rfl) (by rfl) ?_
 dsimp only [List.drop]
 have y15:=az.frozen 15
 have y14:=az.frozen 14
 have r14:=az.cell 14
 simp only [bP,List.setIfInBounds_toArray,List.set_cons_zero,List.set_cons_succ,List.getElem?_toArray,List.getElem?_cons_succ,List.getElem?_cons_zero] at r14
 have jP:=ba.grown jg (fun z hz=>.inr (.inr (.inl ⟨e0,by rw [eZ.out]; simp,by rw [dG.out]; exact hz⟩))) ka aN iz (by
  have h1:=bE.out.size
  have h2:=ae.out.size
  have h3:=an.size
  omega)
 have oy:∀ z,In a.QA z->bC a G z:=fun z q=>.inr (.inr (.inr (.inr (.inr (.inl q)))))
 have mX:ab (fun x=>aq M x\/bC a G x) w w4:=(((bE.out.mono (fun x _ q=>(.inl q:aq M x\/bC a G x))).trans' ae.out (fun x _ q=>.inr (.inl q))).trans' an (fun x _ q=>q.elim)).trans' aN (fun x _ q=>.inr (oy x q))
 have dP:=((aw.out.only ae.out (fun x hx e=>ak.out.aB aw.out (x:=a.f) (.inl rfl) (e▸hx))).only an (by simp)).only aN (fun z hz q=>by
  have:=ba.qr
  exact ak.out.aB aw.out (x:=z) (oy z q) hz)
 have dW:=Lib.hid (ak.out.aB aw.out (x:=a.f) (.inl rfl))
 replace dP:=Lib.hid dP
 replace mX:=Lib.hid mX
 replace jP:=Lib.hid jP
 replace az:=Lib.hid az
 clear r15 lf r0 r1 an ba ay ki jg eX ka aN iz rC oy
 have bM:Own (w4.setCell ⟨a.f,15,none⟩ (.slice A2 (qn+1) cap2)) {a with PA:=some ⟨b0,o0+1,none⟩,pcap:=pc-1,ps:=es,QA:=A2,qcap:=cap2,qs:=a.qs++[⟨some ⟨b,o+2,none⟩,n,ec-1⟩]} {G with pass:=t,later:=G.later++[ls]}:=by
  have:=az.out.store 15 (.slice A2 (qn+1) cap2)
  rw [hm.out] at this
  unfold Own bP
  simp only [List.length_append,List.length_singleton,ji.out]
  exact this
 have bN:=(ab.refl (·=a.f) w4).setCell (p:=⟨a.f,15,none⟩) (.inl rfl) (.slice A2 (qn+1) cap2)
 have hE:=Lib.hid (jP.out.more eZ.out jA.out mV.out h8.out ht.out (dP.out.only bN (fun x hx e=>dW.out (e▸hx))) (M:=M) (M':={M with ss:=Pu.aS M.ss x y}) ⟨rfl,rfl,rfl,rfl,fun x q=>.inl q⟩ bM (mX.out.trans' bN (fun x _ q=>.inr (.inl q))) ⟨_,az.out⟩ bN)
 clear bM bN jP
 go_wp2_with fail
 refine NoPanic.normal ?_
 go_wp2_with fail
 go_ret
 exact ⟨rfl,hE.out⟩
set_option maxHeartbeats 4000000 in
theorem Qt (hM:ah w M) (h:bY w a G) (h8:G.nx=8) {x y k:Nat} {ls:List (Nat×Nat)} {t:List (List (Nat×Nat))} (hp:G.pass=((x,y)::ls)::t) (jh:ls≠[]) (ht:t=[]) (mW:¬a.pcap=1) (hlen:G.later.length<=100000) (hx:x<=18446744073709551615) (hk:bj M.ss x k):
 Calls Tryz.prog 245 #[ptr a.f,ptr M.m] w fun e w'=>e=.returned (.bool false)/\dL.bh w M a G {lm M with ss:=Pu.aS M.ss x y} (eo {G with pass:=G.later++[ls],later:=[]}) w':=by
 have ie:=Lib.hid (qV hM h hx hk y)
 have HM:=Lib.hid hM
 have HG:=Lib.hid h
 have c14:=h.ao.cell 14
 simp only [bP,List.getElem?_toArray,List.getElem?_cons_succ,List.getElem?_cons_zero] at c14
 have cT:=h.cV.ps
 have ic:=h.cV.pl
 have eD:=h.cV.pc
 rw [hp] at cT
 generalize ko:a.ps=ps at*
 cases cT with
 | @cons e0 _ es _ kr gf=>
 have rA:=Lib.hid kr
 obtain ⟨n0,mj,fg,b,o,cs,hA,hB,bo⟩:=kr
 rcases ic with q | ⟨b0,o0,cs0,fO,jQ,kt⟩
 ·simp at q
 have i0:=kt 0 (by simp)
 have i1:=(bo 0 (by simp)).1
 have i2:=(bo 0 (by simp)).2
 rw [<-jQ.cell] at i0
 rw [<-hB.cell] at i1 i2
 simp only [nW,mH,List.getD_cons_zero,Nat.add_zero,Nat.zero_mul,hA] at i0 i1 i2
 rw [fO] at c14
 have d2:=hM.hd.2.2.1
 simp only [List.length_cons,maxLen] at c14 eD
 have eR:es.length=t.length:=gf.len
 obtain ⟨m,hm⟩:∃ m,m=es.length:=⟨_,rfl⟩
 rw [<-hm] at c14 eD eR
 have mV:=Lib.hid (show es.length<=a.pcap-1/\a.pcap-1<=maxLen by simp only [maxLen]; omega)
 have sZ:e0.n=ls.length+1:=by simpa using n0
 have ya:0<ls.length:=List.length_pos_iff.2 jh
 obtain ⟨n,hn⟩:∃ n,n=ls.length:=⟨_,rfl⟩
 rw [sZ,<-hn] at i0 fg
 rw [<-hn] at ya
 replace hn:=Lib.hid hn
 replace jh:=Lib.hid jh
 have yb:¬e0.cap=1:=by omega
 have fz:(1:Int)<(n:Int)+1:=by omega
 have gC:¬((n:Int)+1<1):=by omega
 have qw:m=0:=by rw [eR,ht]; rfl
 subst qw
 replace hm:=Lib.hid hm
 simp only [maxLen] at fg
 have eZ:=Lib.hid ko
 have jA:=Lib.hid fO
 have dG:=Lib.hid hA
 replace h8:=Lib.hid h8
 replace hp:=Lib.hid hp
 replace ht:=Lib.hid ht
 obtain ⟨ec,gg⟩:∃ n,n=e0.cap:=⟨_,rfl⟩
 obtain ⟨pc,dZ⟩:∃ n,n=a.pcap:=⟨_,rfl⟩
 rw [<-gg] at i0 fg yb
 rw [<-dZ] at c14 eD mW
 rw [<-dZ] at mV
 replace gg:=Lib.hid gg
 replace dZ:=Lib.hid dZ
 replace n0:=Lib.hid n0
 clear hM h hk hx bo kt hB jQ ko gf hA fO mj eR
 go_enter Tryz.func245,Tryz.ntmps245
 go_upto_region 2 with (fail)
 go_region_held3 (fun w'=>w'.cell? ⟨M.m,2,none⟩=some (ptr M.ar)/\w'.cell? ⟨b,o,none⟩=some (.int .u64 x)/\w'.cell? ⟨b,o+1,none⟩=some (.int .u64 y)) (go_keep)
  (first
    | (go_at_call 203
       refine (ie.out (w.drewN 1) ((ab.refl (fun _=>False) w).drewN 1)).mono ?_
       rintro e w1 ⟨rfl,aw,ak,bE⟩
       have ig:¬aq M b:=fun q=>HG.out.aB HM.out (x:=b) (.inr (.inr (.inr (.inr (.inr (.inr (.inl ⟨e0,by rw [eZ.out]; simp,by rw [dG.out]; rfl⟩))))))) q
       have p1:=(ab.cell bE (p:=⟨b,o,none⟩) (World.block_lt_of_cell? w _ i1) ig).trans i1
       have p2:=(ab.cell bE (p:=⟨b,o+1,none⟩) (World.block_lt_of_cell? w _ i2) ig).trans i2
       have p00:=aw.hd.2.2.1
       have r14:=ak.ao.cell 14
       have r15:=ak.ao.cell 15
       have z14:=ak.ao.frozen 14
       have z15:=ak.ao.frozen 15
       simp only [bP,List.getElem?_toArray,List.getElem?_cons_succ,List.getElem?_cons_zero,eZ.out,jA.out,List.length_cons] at r14 r15
       rw [<-dZ.out,<-hm.out] at r14
       have iQ:=Lib.hid (ak.oY (w:=w) eZ.out hp.out jA.out)
       replace aw:=Lib.hid aw
       replace ak:=Lib.hid ak
       replace bE:=Lib.hid bE
       clear ie ig))
 clear p1 p2 p00 i0 i1 i2 d2 c14
 go_upto_region 5 with (fail)
 obtain ⟨w2,aT⟩:∃ w2,w2=w1.setCell ⟨a.f,14,none⟩ (.slice (some ⟨b0,o0+1,none⟩) 0 (pc-1)):=⟨_,rfl⟩
 have ag:af w2 a.f 200 ((bP a G).setIfInBounds 14 (.slice (some ⟨b0,o0+1,none⟩) 0 (pc-1))):=by rw [aT]; exact ak.out.ao.store 14 (.slice (some ⟨b0,o0+1,none⟩) 0 (pc-1))
 have ae:ab (·=a.f) w1 w2:=by rw [aT]; exact (ab.refl (·=a.f) w1).setCell (p:=⟨a.f,14,none⟩) (.inl rfl) (.slice (some ⟨b0,o0+1,none⟩) 0 (pc-1))
 rw [<-aT]
 clear aT r14 r15 z14 z15
 have r15:=ag.cell 15
 simp only [bP,List.setIfInBounds_toArray,List.set_cons_zero,List.set_cons_succ,List.getElem?_toArray,List.getElem?_cons_succ,List.getElem?_cons_zero] at r15
 have bn:=Lib.hid (iQ.out.only ae ⟨_,ak.out.ao⟩)
 replace ae:=Lib.hid ae
 replace ag:=Lib.hid ag
 generalize ji:a.qs.length=qn at*
 replace ji:=Lib.hid ji
 have rB:=Lib.hid (show qn<=100000 by
  have:=bn.out.eqs.len
  have:=ji.out
  omega)
 have lf:a.f<w2.drew.heap.size:=ag.out.lt
 obtain ⟨i0,cq,cy,cL,cz⟩:=info_parts zy
 have r0:w2.drew.cell? ⟨a.f,15,none⟩=some (.slice a.QA qn a.qcap):=r15
 refine wp_region_noPanic ?_
 refine Rn.sB (fun w'=>w'.cell? ⟨a.f,15,none⟩=some (.slice a.QA qn a.qcap)) (fun j=>j==9) (by kernel_rfl) ?_
 refine Rn.aG (i:=0) (oi:=⟨some 36,_,_,_,_,_⟩) (v:=ptr a.f) (by rfl) (by kernel_rfl) (by kernel_rfl) (by kernel_rfl) rfl (fun _ _ _ h=>h.elim) (Or.inl ⟨by rfl,by intro w' _; go_simp⟩) r0 ?_
 try simp only [Act.put,List.setIfInBounds_toArray,List.set_cons_zero,List.set_cons_succ]
 refine Rn.aG (i:=1) (oi:=⟨some 37,_,_,_,_,_⟩) (v:=ptr a.f) (by rfl) (by kernel_rfl) (by kernel_rfl) (by kernel_rfl) rfl (fun _ _ _ h=>h.elim) (Or.inl ⟨by rfl,by intro w' _; go_simp⟩) r0 ?_
 try simp only [Act.put,List.setIfInBounds_toArray,List.set_cons_zero,List.set_cons_succ]
 refine Rn.aG (i:=2) (oi:=⟨some 38,_,_,_,_,_⟩) (v:=.pointer (some ⟨a.f,0,none⟩)) (by rfl) (by kernel_rfl) (by kernel_rfl) (by kernel_rfl) rfl (fun _ _ _ h=>h.elim) (Or.inl ⟨by rfl,by intro w' _; go_simp⟩) r0 ?_
 try simp only [Act.put,List.setIfInBounds_toArray,List.set_cons_zero,List.set_cons_succ]
 refine Rn.aG (i:=3) (oi:=⟨some 39,_,_,_,_,_⟩) (v:=.pointer (some ⟨a.f,15,none⟩)) (by rfl) (by kernel_rfl) (by kernel_rfl) (by kernel_rfl) rfl (fun _ _ _ h=>h.elim) (Or.inl ⟨by rfl,by intro w' _; go_simp⟩) r0 ?_
 try simp only [Act.put,List.setIfInBounds_toArray,List.set_cons_zero,List.set_cons_succ]
 refine Rn.fP (i:=4) (oi:=⟨some 40,_,_,_,_,_⟩) (v:=.slice a.QA qn a.qcap) (by rfl) (by kernel_rfl) (by kernel_rfl) (by kernel_rfl) rfl (by intro j hj; rw [show j=9 from by simpa using hj]; kernel_rfl) (fun _ _ _ h=>h.elim) (Or.inl ⟨by rfl,by intro w' cZ; go_simp⟩) r0 ?_
 try simp only [Act.put,List.setIfInBounds_toArray,List.set_cons_zero,List.set_cons_succ]
 refine Rn.aG (i:=5) (oi:=⟨some 41,_,_,_,_,_⟩) (v:=.slice (some ⟨b,o,none⟩) (n+1) ec) (by rfl) (by kernel_rfl) (by kernel_rfl) (by kernel_rfl) rfl (fun _ _ _ h=>h.elim) (Or.inl ⟨by rfl,by intro w' _; go_simp⟩) r0 ?_
 try simp only [Act.put,List.setIfInBounds_toArray,List.set_cons_zero,List.set_cons_succ]
 refine Rn.aG (i:=6) (oi:=⟨some 42,_,_,_,_,_⟩) (v:=.slice (some ⟨b,o+2,none⟩) n (ec-1)) (by rfl) (by kernel_rfl) (by kernel_rfl) (by kernel_rfl) rfl (fun _ _ _ h=>h.elim) (Or.inl ⟨by rfl,by intro w' _; go_simp⟩) r0 ?_
 try simp only [Act.put,List.setIfInBounds_toArray,List.set_cons_zero,List.set_cons_succ]
 refine Rn.lj (i:=7) (o:=⟨some 43,_,_,_,_,_⟩) (by kernel_rfl) (by rfl) rfl ?_
 intro K hK
 go_simp
 have r1:(w2.drew.alloc (.cells #[.slice (some ⟨b,o+2,none⟩) n (ec-1)] 260)).cell? ⟨a.f,15,none⟩=some (.slice a.QA qn a.qcap):=(ab.cell ((ab.refl (fun _=>False) w2.drew).alloc _) (p:=⟨a.f,15,none⟩) lf (by simp)).trans r15
 refine hK _ _ r1 ?_
 clear hK
 try simp only [Act.put,List.setIfInBounds_toArray,List.set_cons_zero,List.set_cons_succ]
 have an:ab (fun _=>False) w2 (w2.drew.alloc (.cells #[.slice (some ⟨b,o+2,none⟩) n (ec-1)] 260)):=((ab.refl (fun _=>False) w2).drew).alloc _
 have ba:=bn.out.only (an.mono (fun x _ q=>q.elim)) ⟨_,ag.out⟩
 have ay:=ag.out.only an (by simp)
 have ki:=af.made w2.drew 260 #[.slice (some ⟨b,o+2,none⟩) n (ec-1)]
 have jg:jI (w2.drew.alloc (.cells #[.slice (some ⟨b,o+2,none⟩) n (ec-1)] 260)) ⟨some ⟨b,o+2,none⟩,n,ec-1⟩ ls:=by
  have bW:=rA.out
  have h1:jI w1 e0 ((x,y)::ls):=bW.only bE.out (fun z hz q=>HG.out.aB HM.out (x:=z) (.inr (.inr (.inr (.inr (.inr (.inr (.inl ⟨e0,by rw [eZ.out]; simp,hz⟩))))))) q)
  have h2:=(h1.only ae.out (fun z hz e=>(h1.ty hz).apart (e▸bm ak.out.ao:Ty w1 z [200]) (by decide))).only an (by simp)
  have h3:=h2.tail dG.out jh.out
  rw [<-gg.out] at h3
  have h4:e0.n-1=n:=by have:=n0.out; rw [this,hn.out]; simp
  rw [h4] at h3
  exact h3
 obtain ⟨A2,cap2,w4,eX,ka,aN,iz⟩:=wF (P:=Tryz.prog) (w2.drew.alloc (.cells #[.slice (some ⟨b,o+2,none⟩) n (ec-1)] 260)) 198 198 260 i0 _ 1 24 Tryz.underlying198 cq cy cL cz rfl (by omega) lS ug
  (by intro x u hu; simp [lS] at hu; subst hu; rfl) ji.out ba.qr ⟨some ⟨b,o+2,none⟩,n,ec-1⟩ ⟨w2.drew.heap.size,0,none⟩ 1 (by
    intro j u hu
    rw [Addr.add_lit,Nat.zero_add,ki.cell]
    simpa [lS] using hu) (by have:=rB.out; simp only [maxLen]; omega) (by have:=rB.out; omega)
 refine Rn.lj (i:=8) (o:=⟨some 44,_,_,_,_,_⟩) (by kernel_rfl) (by rfl) rfl ?_
 intro K hK
 refine wG rfl (.tmp 40) (.tmp 43) 198 rfl (.slice a.QA qn a.qcap) (.slice (some ⟨w2.drew.heap.size,0,none⟩) 1 1) rfl rfl eX ?_
 have rC:¬In a.QA a.f:=fun q=>(cw ba.qr q).apart (bm ay) (by decide)
 have az:=ay.only aN rC
 have r4:=az.cell 15
 simp only [bP,List.setIfInBounds_toArray,List.set_cons_zero,List.set_cons_succ,List.getElem?_toArray,List.getElem?_cons_succ,List.getElem?_cons_zero,ji.out] at r4
 refine hK _ _ r4 ?_
 clear hK
 try simp only [Act.put,List.setIfInBounds_toArray,List.set_cons_zero,List.set_cons_succ]
 refine Rn.wH 9 (by rfl) (by kernel_rfl) (by rfl) ?_
 dsimp only [List.drop]
 have y15:=az.frozen 15
 have y14:=az.frozen 14
 have r14:=az.cell 14
 simp only [bP,List.setIfInBounds_toArray,List.set_cons_zero,List.set_cons_succ,List.getElem?_toArray,List.getElem?_cons_succ,List.getElem?_cons_zero] at r14
 have jP:=ba.grown jg (fun z hz=>.inr (.inr (.inl ⟨e0,by rw [eZ.out]; simp,by rw [dG.out]; exact hz⟩))) ka aN iz (by
  have h1:=bE.out.size
  have h2:=ae.out.size
  have h3:=an.size
  omega)
 have oy:∀ z,In a.QA z->bC a G z:=fun z q=>.inr (.inr (.inr (.inr (.inr (.inl q)))))
 have mX:ab (fun x=>aq M x\/bC a G x) w w4:=(((bE.out.mono (fun x _ q=>(.inl q:aq M x\/bC a G x))).trans' ae.out (fun x _ q=>.inr (.inl q))).trans' an (fun x _ q=>q.elim)).trans' aN (fun x _ q=>.inr (oy x q))
 have dP:=((aw.out.only ae.out (fun x hx e=>ak.out.aB aw.out (x:=a.f) (.inl rfl) (e▸hx))).only an (by simp)).only aN (fun z hz q=>by
  have:=ba.qr
  exact ak.out.aB aw.out (x:=z) (oy z q) hz)
 have dW:=Lib.hid (ak.out.aB aw.out (x:=a.f) (.inl rfl))
 replace dP:=Lib.hid dP
 replace mX:=Lib.hid mX
 replace jP:=Lib.hid jP
 replace az:=Lib.hid az
 clear r15 lf r0 r1 an ba ay ki jg eX ka aN iz rC oy
 have bM:Own (((w4.setCell ⟨a.f,15,none⟩ (.slice A2 (qn+1) cap2)).setCell ⟨a.f,14,none⟩ (.slice A2 (qn+1) cap2)).setCell ⟨a.f,15,none⟩ (.slice none 0 0)) {a with PA:=A2,pcap:=cap2,ps:=a.qs++[⟨some ⟨b,o+2,none⟩,n,ec-1⟩],QA:=none,qcap:=0,qs:=[]} {G with pass:=G.later++[ls],later:=[]}:=by
  have:=((az.out.store 15 (.slice A2 (qn+1) cap2)).store 14 (.slice A2 (qn+1) cap2)).store 15 (.slice none 0 0)
  unfold Own bP
  simp only [List.length_append,List.length_singleton,ji.out]
  exact this
 have bN:=Lib.hid (pQ (c:=a.f) w4 15 14 15 (.slice A2 (qn+1) cap2) (.slice A2 (qn+1) cap2) (.slice none 0 0))
 have mh:=Lib.hid (wJ bM)
 clear bM
 go_wp2_with fail
 refine NoPanic.normal ?_
 go_wp2_with fail
 refine mh.out.mono ?_
 rintro e w6 ⟨b4,rfl,gI,iR,fI,eB⟩
 have hE:Hid (dL.bh w M a G {lm M with ss:=Pu.aS M.ss x y} (eo {G with pass:=G.later++[ls],later:=[]}) w6):=Lib.hid (by
  have fN:=bN.out.trans eB
  have hs:=mX.out.size
  have ox:=bN.out.size
  exact jP.out.last h8.out (M:=M) (M':={M with ss:=Pu.aS M.ss x y}) (dP.out.only fN (fun x hx e=>dW.out (e▸hx))) ⟨rfl,rfl,rfl,rfl,fun x q=>.inl q⟩ gI iR (Nat.le_trans hs (Nat.le_trans ox fI)) (mX.out.trans' fN (fun x _ q=>.inr (.inl q))) ⟨_,az.out⟩ fN)
 clear gI iR fI eB mh jP bN
 go_wp2_with fail
 go_ret
 exact ⟨rfl,hE.out⟩
set_option maxHeartbeats 4000000 in
theorem Qu (hM:ah w M) (h:bY w a G) (h8:G.nx=8) {x y k:Nat} {ls:List (Nat×Nat)} {t:List (List (Nat×Nat))} (hp:G.pass=((x,y)::ls)::t) (jh:ls≠[]) (ht:t=[]) (mW:a.pcap=1) (hlen:G.later.length<=100000) (hx:x<=18446744073709551615) (hk:bj M.ss x k):
 Calls Tryz.prog 245 #[ptr a.f,ptr M.m] w fun e w'=>e=.returned (.bool false)/\dL.bh w M a G {lm M with ss:=Pu.aS M.ss x y} (eo {G with pass:=G.later++[ls],later:=[]}) w':=by
 have ie:=Lib.hid (qV hM h hx hk y)
 have HM:=Lib.hid hM
 have HG:=Lib.hid h
 have c14:=h.ao.cell 14
 simp only [bP,List.getElem?_toArray,List.getElem?_cons_succ,List.getElem?_cons_zero] at c14
 have cT:=h.cV.ps
 have ic:=h.cV.pl
 have eD:=h.cV.pc
 rw [hp] at cT
 generalize ko:a.ps=ps at*
 cases cT with
 | @cons e0 _ es _ kr gf=>
 have rA:=Lib.hid kr
 obtain ⟨n0,mj,fg,b,o,cs,hA,hB,bo⟩:=kr
 rcases ic with q | ⟨b0,o0,cs0,fO,jQ,kt⟩
 ·simp at q
 have i0:=kt 0 (by simp)
 have i1:=(bo 0 (by simp)).1
 have i2:=(bo 0 (by simp)).2
 rw [<-jQ.cell] at i0
 rw [<-hB.cell] at i1 i2
 simp only [nW,mH,List.getD_cons_zero,Nat.add_zero,Nat.zero_mul,hA] at i0 i1 i2
 rw [fO] at c14
 have d2:=hM.hd.2.2.1
 simp only [List.length_cons,maxLen] at c14 eD
 have eR:es.length=t.length:=gf.len
 obtain ⟨m,hm⟩:∃ m,m=es.length:=⟨_,rfl⟩
 rw [<-hm] at c14 eD eR
 have mV:=Lib.hid (show es.length<=a.pcap-1/\a.pcap-1<=maxLen by simp only [maxLen]; omega)
 have sZ:e0.n=ls.length+1:=by simpa using n0
 have ya:0<ls.length:=List.length_pos_iff.2 jh
 obtain ⟨n,hn⟩:∃ n,n=ls.length:=⟨_,rfl⟩
 rw [sZ,<-hn] at i0 fg
 rw [<-hn] at ya
 replace hn:=Lib.hid hn
 replace jh:=Lib.hid jh
 have yb:¬e0.cap=1:=by omega
 have fz:(1:Int)<(n:Int)+1:=by omega
 have gC:¬((n:Int)+1<1):=by omega
 have qw:m=0:=by rw [eR,ht]; rfl
 subst qw
 replace hm:=Lib.hid hm
 simp only [maxLen] at fg
 have eZ:=Lib.hid ko
 have jA:=Lib.hid fO
 have dG:=Lib.hid hA
 replace h8:=Lib.hid h8
 replace hp:=Lib.hid hp
 replace ht:=Lib.hid ht
 obtain ⟨ec,gg⟩:∃ n,n=e0.cap:=⟨_,rfl⟩
 obtain ⟨pc,dZ⟩:∃ n,n=a.pcap:=⟨_,rfl⟩
 rw [<-gg] at i0 fg yb
 rw [<-dZ] at c14 eD mW
 subst mW
 rw [<-dZ] at mV
 replace gg:=Lib.hid gg
 replace dZ:=Lib.hid dZ
 replace n0:=Lib.hid n0
 clear hM h hk hx bo kt hB jQ ko gf hA fO mj eR
 go_enter Tryz.func245,Tryz.ntmps245
 go_upto_region 2 with (fail)
 go_region_held3 (fun w'=>w'.cell? ⟨M.m,2,none⟩=some (ptr M.ar)/\w'.cell? ⟨b,o,none⟩=some (.int .u64 x)/\w'.cell? ⟨b,o+1,none⟩=some (.int .u64 y)) (go_keep)
  (first
    | (go_at_call 203
       refine (ie.out (w.drewN 1) ((ab.refl (fun _=>False) w).drewN 1)).mono ?_
       rintro e w1 ⟨rfl,aw,ak,bE⟩
       have ig:¬aq M b:=fun q=>HG.out.aB HM.out (x:=b) (.inr (.inr (.inr (.inr (.inr (.inr (.inl ⟨e0,by rw [eZ.out]; simp,by rw [dG.out]; rfl⟩))))))) q
       have p1:=(ab.cell bE (p:=⟨b,o,none⟩) (World.block_lt_of_cell? w _ i1) ig).trans i1
       have p2:=(ab.cell bE (p:=⟨b,o+1,none⟩) (World.block_lt_of_cell? w _ i2) ig).trans i2
       have p00:=aw.hd.2.2.1
       have r14:=ak.ao.cell 14
       have r15:=ak.ao.cell 15
       have z14:=ak.ao.frozen 14
       have z15:=ak.ao.frozen 15
       simp only [bP,List.getElem?_toArray,List.getElem?_cons_succ,List.getElem?_cons_zero,eZ.out,jA.out,List.length_cons] at r14 r15
       rw [<-dZ.out,<-hm.out] at r14
       have iQ:=Lib.hid (ak.oY (w:=w) eZ.out hp.out jA.out)
       replace aw:=Lib.hid aw
       replace ak:=Lib.hid ak
       replace bE:=Lib.hid bE
       clear ie ig))
 clear p1 p2 p00 i0 i1 i2 d2 c14
 go_upto_region 5 with (fail)
 obtain ⟨w2,aT⟩:∃ w2,w2=w1.setCell ⟨a.f,14,none⟩ (.slice (some ⟨b0,o0,none⟩) 0 0):=⟨_,rfl⟩
 have ag:af w2 a.f 200 ((bP a G).setIfInBounds 14 (.slice (some ⟨b0,o0,none⟩) 0 0)):=by rw [aT]; exact ak.out.ao.store 14 (.slice (some ⟨b0,o0,none⟩) 0 0)
 have ae:ab (·=a.f) w1 w2:=by rw [aT]; exact (ab.refl (·=a.f) w1).setCell (p:=⟨a.f,14,none⟩) (.inl rfl) (.slice (some ⟨b0,o0,none⟩) 0 0)
 rw [<-aT]
 clear aT r14 r15 z14 z15
 have r15:=ag.cell 15
 simp only [bP,List.setIfInBounds_toArray,List.set_cons_zero,List.set_cons_succ,List.getElem?_toArray,List.getElem?_cons_succ,List.getElem?_cons_zero] at r15
 have bn:=Lib.hid (iQ.out.only ae ⟨_,ak.out.ao⟩)
 replace ae:=Lib.hid ae
 replace ag:=Lib.hid ag
 generalize ji:a.qs.length=qn at*
 replace ji:=Lib.hid ji
 have rB:=Lib.hid (show qn<=100000 by
  have:=bn.out.eqs.len
  have:=ji.out
  omega)
 have lf:a.f<w2.drew.heap.size:=ag.out.lt
 obtain ⟨i0,cq,cy,cL,cz⟩:=info_parts zy
 have r0:w2.drew.cell? ⟨a.f,15,none⟩=some (.slice a.QA qn a.qcap):=r15
 refine wp_region_noPanic ?_
 refine Rn.sB (fun w'=>w'.cell? ⟨a.f,15,none⟩=some (.slice a.QA qn a.qcap)) (fun j=>j==9) (by kernel_rfl) ?_
 refine Rn.aG (i:=0) (oi:=⟨some 36,_,_,_,_,_⟩) (v:=ptr a.f) (by rfl) (by kernel_rfl) (by kernel_rfl) (by kernel_rfl) rfl (fun _ _ _ h=>h.elim) (Or.inl ⟨by rfl,by intro w' _; go_simp⟩) r0 ?_
 try simp only [Act.put,List.setIfInBounds_toArray,List.set_cons_zero,List.set_cons_succ]
 refine Rn.aG (i:=1) (oi:=⟨some 37,_,_,_,_,_⟩) (v:=ptr a.f) (by rfl) (by kernel_rfl) (by kernel_rfl) (by kernel_rfl) rfl (fun _ _ _ h=>h.elim) (Or.inl ⟨by rfl,by intro w' _; go_simp⟩) r0 ?_
 try simp only [Act.put,List.setIfInBounds_toArray,List.set_cons_zero,List.set_cons_succ]
 refine Rn.aG (i:=2) (oi:=⟨some 38,_,_,_,_,_⟩) (v:=.pointer (some ⟨a.f,0,none⟩)) (by rfl) (by kernel_rfl) (by kernel_rfl) (by kernel_rfl) rfl (fun _ _ _ h=>h.elim) (Or.inl ⟨by rfl,by intro w' _; go_simp⟩) r0 ?_
 try simp only [Act.put,List.setIfInBounds_toArray,List.set_cons_zero,List.set_cons_succ]
 refine Rn.aG (i:=3) (oi:=⟨some 39,_,_,_,_,_⟩) (v:=.pointer (some ⟨a.f,15,none⟩)) (by rfl) (by kernel_rfl) (by kernel_rfl) (by kernel_rfl) rfl (fun _ _ _ h=>h.elim) (Or.inl ⟨by rfl,by intro w' _; go_simp⟩) r0 ?_
 try simp only [Act.put,List.setIfInBounds_toArray,List.set_cons_zero,List.set_cons_succ]
 refine Rn.fP (i:=4) (oi:=⟨some 40,_,_,_,_,_⟩) (v:=.slice a.QA qn a.qcap) (by rfl) (by kernel_rfl) (by kernel_rfl) (by kernel_rfl) rfl (by intro j hj; rw [show j=9 from by simpa using hj]; kernel_rfl) (fun _ _ _ h=>h.elim) (Or.inl ⟨by rfl,by intro w' cZ; go_simp⟩) r0 ?_
 try simp only [Act.put,List.setIfInBounds_toArray,List.set_cons_zero,List.set_cons_succ]
 refine Rn.aG (i:=5) (oi:=⟨some 41,_,_,_,_,_⟩) (v:=.slice (some ⟨b,o,none⟩) (n+1) ec) (by rfl) (by kernel_rfl) (by kernel_rfl) (by kernel_rfl) rfl (fun _ _ _ h=>h.elim) (Or.inl ⟨by rfl,by intro w' _; go_simp⟩) r0 ?_
 try simp only [Act.put,List.setIfInBounds_toArray,List.set_cons_zero,List.set_cons_succ]
 refine Rn.aG (i:=6) (oi:=⟨some 42,_,_,_,_,_⟩) (v:=.slice (some ⟨b,o+2,none⟩) n (ec-1)) (by rfl) (by kernel_rfl) (by kernel_rfl) (by kernel_rfl) rfl (fun _ _ _ h=>h.elim) (Or.inl ⟨by rfl,by intro w' _; go_simp⟩) r0 ?_
 try simp only [Act.put,List.setIfInBounds_toArray,List.set_cons_zero,List.set_cons_succ]
 refine Rn.lj (i:=7) (o:=⟨some 43,_,_,_,_,_⟩) (by kernel_rfl) (by rfl) rfl ?_
 intro K hK
 go_simp
 have r1:(w2.drew.alloc (.cells #[.slice (some ⟨b,o+2,none⟩) n (ec-1)] 260)).cell? ⟨a.f,15,none⟩=some (.slice a.QA qn a.qcap):=(ab.cell ((ab.refl (fun _=>False) w2.drew).alloc _) (p:=⟨a.f,15,none⟩) lf (by simp)).trans r15
 refine hK _ _ r1 ?_
 clear hK
 try simp only [Act.put,List.setIfInBounds_toArray,List.set_cons_zero,List.set_cons_succ]
 have an:ab (fun _=>False) w2 (w2.drew.alloc (.cells #[.slice (some ⟨b,o+2,none⟩) n (ec-1)] 260)):=((ab.refl (fun _=>False) w2).drew).alloc _
 have ba:=bn.out.only (an.mono (fun x _ q=>q.elim)) ⟨_,ag.out⟩
 have ay:=ag.out.only an (by simp)
 have ki:=af.made w2.drew 260 #[.slice (some ⟨b,o+2,none⟩) n (ec-1)]
 have jg:jI (w2.drew.alloc (.cells #[.slice (some ⟨b,o+2,none⟩) n (ec-1)] 260)) ⟨some ⟨b,o+2,none⟩,n,ec-1⟩ ls:=by
  have bW:=rA.out
  have h1:jI w1 e0 ((x,y)::ls):=bW.only bE.out (fun z hz q=>HG.out.aB HM.out (x:=z) (.inr (.inr (.inr (.inr (.inr (.inr (.inl ⟨e0,by rw [eZ.out]; simp,hz⟩))))))) q)
  have h2:=(h1.only ae.out (fun z hz e=>(h1.ty hz).apart (e▸bm ak.out.ao:Ty w1 z [200]) (by decide))).only an (by simp)
  have h3:=h2.tail dG.out jh.out
  rw [<-gg.out] at h3
  have h4:e0.n-1=n:=by have:=n0.out; rw [this,hn.out]; simp
  rw [h4] at h3
  exact h3
 obtain ⟨A2,cap2,w4,eX,ka,aN,iz⟩:=wF (P:=Tryz.prog) (w2.drew.alloc (.cells #[.slice (some ⟨b,o+2,none⟩) n (ec-1)] 260)) 198 198 260 i0 _ 1 24 Tryz.underlying198 cq cy cL cz rfl (by omega) lS ug
  (by intro x u hu; simp [lS] at hu; subst hu; rfl) ji.out ba.qr ⟨some ⟨b,o+2,none⟩,n,ec-1⟩ ⟨w2.drew.heap.size,0,none⟩ 1 (by
    intro j u hu
    rw [Addr.add_lit,Nat.zero_add,ki.cell]
    simpa [lS] using hu) (by have:=rB.out; simp only [maxLen]; omega) (by have:=rB.out; omega)
 refine Rn.lj (i:=8) (o:=⟨some 44,_,_,_,_,_⟩) (by kernel_rfl) (by rfl) rfl ?_
 intro K hK
 refine wG rfl (.tmp 40) (.tmp 43) 198 rfl (.slice a.QA qn a.qcap) (.slice (some ⟨w2.drew.heap.size,0,none⟩) 1 1) rfl rfl eX ?_
 have rC:¬In a.QA a.f:=fun q=>(cw ba.qr q).apart (bm ay) (by decide)
 have az:=ay.only aN rC
 have r4:=az.cell 15
 simp only [bP,List.setIfInBounds_toArray,List.set_cons_zero,List.set_cons_succ,List.getElem?_toArray,List.getElem?_cons_succ,List.getElem?_cons_zero,ji.out] at r4
 refine hK _ _ r4 ?_
 clear hK
 try simp only [Act.put,List.setIfInBounds_toArray,List.set_cons_zero,List.set_cons_succ]
 refine Rn.wH 9 (by rfl) (by kernel_rfl) (by rfl) ?_
 dsimp only [List.drop]
 have y15:=az.frozen 15
 have y14:=az.frozen 14
 have r14:=az.cell 14
 simp only [bP,List.setIfInBounds_toArray,List.set_cons_zero,List.set_cons_succ,List.getElem?_toArray,List.getElem?_cons_succ,List.getElem?_cons_zero] at r14
 have jP:=ba.grown jg (fun z hz=>.inr (.inr (.inl ⟨e0,by rw [eZ.out]; simp,by rw [dG.out]; exact hz⟩))) ka aN iz (by
  have h1:=bE.out.size
  have h2:=ae.out.size
  have h3:=an.size
  omega)
 have oy:∀ z,In a.QA z->bC a G z:=fun z q=>.inr (.inr (.inr (.inr (.inr (.inl q)))))
 have mX:ab (fun x=>aq M x\/bC a G x) w w4:=(((bE.out.mono (fun x _ q=>(.inl q:aq M x\/bC a G x))).trans' ae.out (fun x _ q=>.inr (.inl q))).trans' an (fun x _ q=>q.elim)).trans' aN (fun x _ q=>.inr (oy x q))
 have dP:=((aw.out.only ae.out (fun x hx e=>ak.out.aB aw.out (x:=a.f) (.inl rfl) (e▸hx))).only an (by simp)).only aN (fun z hz q=>by
  have:=ba.qr
  exact ak.out.aB aw.out (x:=z) (oy z q) hz)
 have dW:=Lib.hid (ak.out.aB aw.out (x:=a.f) (.inl rfl))
 replace dP:=Lib.hid dP
 replace mX:=Lib.hid mX
 replace jP:=Lib.hid jP
 replace az:=Lib.hid az
 clear r15 lf r0 r1 an ba ay ki jg eX ka aN iz rC oy
 have bM:Own (((w4.setCell ⟨a.f,15,none⟩ (.slice A2 (qn+1) cap2)).setCell ⟨a.f,14,none⟩ (.slice A2 (qn+1) cap2)).setCell ⟨a.f,15,none⟩ (.slice none 0 0)) {a with PA:=A2,pcap:=cap2,ps:=a.qs++[⟨some ⟨b,o+2,none⟩,n,ec-1⟩],QA:=none,qcap:=0,qs:=[]} {G with pass:=G.later++[ls],later:=[]}:=by
  have:=((az.out.store 15 (.slice A2 (qn+1) cap2)).store 14 (.slice A2 (qn+1) cap2)).store 15 (.slice none 0 0)
  unfold Own bP
  simp only [List.length_append,List.length_singleton,ji.out]
  exact this
 have bN:=Lib.hid (pQ (c:=a.f) w4 15 14 15 (.slice A2 (qn+1) cap2) (.slice A2 (qn+1) cap2) (.slice none 0 0))
 have mh:=Lib.hid (wJ bM)
 clear bM
 go_wp2_with fail
 refine NoPanic.normal ?_
 go_wp2_with fail
 refine mh.out.mono ?_
 rintro e w6 ⟨b4,rfl,gI,iR,fI,eB⟩
 have hE:Hid (dL.bh w M a G {lm M with ss:=Pu.aS M.ss x y} (eo {G with pass:=G.later++[ls],later:=[]}) w6):=Lib.hid (by
  have fN:=bN.out.trans eB
  have hs:=mX.out.size
  have ox:=bN.out.size
  exact jP.out.last h8.out (M:=M) (M':={M with ss:=Pu.aS M.ss x y}) (dP.out.only fN (fun x hx e=>dW.out (e▸hx))) ⟨rfl,rfl,rfl,rfl,fun x q=>.inl q⟩ gI iR (Nat.le_trans hs (Nat.le_trans ox fI)) (mX.out.trans' fN (fun x _ q=>.inr (.inl q))) ⟨_,az.out⟩ fN)
 clear gI iR fI eB mh jP bN
 go_wp2_with fail
 go_ret
 exact ⟨rfl,hE.out⟩
theorem Qv (hM:ah w M) (h:bY w a G) (h8:G.nx=8) {x y k:Nat} {ls:List (Nat×Nat)} {t:List (List (Nat×Nat))} (hp:G.pass=((x,y)::ls)::t) (hlen:G.later.length<=100000) (hx:x<=18446744073709551615) (hk:bj M.ss x k):
 Calls Tryz.prog 245 #[ptr a.f,ptr M.m] w fun e w'=>e=.returned (.bool false)/\dL.bh w M a G {lm M with ss:=Pu.aS M.ss x y}
  (if t=[] then eo {G with pass:=if 1<((x,y)::ls).length then G.later++[ls] else G.later,later:=[]} else {G with pass:=t,later:=if 1<((x,y)::ls).length then G.later++[ls] else G.later}) w':=by
 by_cases jh:ls=[]
 ·subst jh
  have h1:¬(1<[(x,y)].length):=by simp
  simp only [if_neg h1]
  by_cases ht:t=[]
  ·rw [if_pos ht]
   by_cases eD:a.pcap=1
   ·exact Qo hM h h8 hp ht eD hlen hx hk
   ·exact Qn hM h h8 hp ht eD hlen hx hk
  ·rw [if_neg ht]
   exact Qm hM h h8 hp ht hlen hx hk
 ·have h1:1<((x,y)::ls).length:=by
   have:=List.length_pos_iff.2 jh
   simp; omega
  simp only [if_pos h1]
  by_cases ht:t=[]
  ·rw [if_pos ht]
   by_cases eD:a.pcap=1
   ·exact Qu hM h h8 hp jh ht eD hlen hx hk
   ·exact Qt hM h h8 hp jh ht eD hlen hx hk
  ·rw [if_neg ht]
   exact Qq hM h h8 hp jh ht hlen hx hk
end
end Go.Proofs.YtpanebgakndddaaGreat.Gw
namespace Go.Proofs.YtpanebgakndddaaGreat.Gw
open Go Go.RowKit Hp K Fl Rw Hm Ar Mm Me Qs Wk Pn
set_option maxRecDepth 100000
def iJ (k:Int):Gr:=⟨k,1,0,(0,0),(0,0),0,0,.new,0,0,⟨0,0,0,0⟩,[],[]⟩
theorem CP {w:World} {f F:Nat} {b:Array Value} {u1 u2:Value} (c1:w.cell? ⟨f,1,none⟩=some u1) (c2:w.cell? ⟨f,2,none⟩=some u2) (z1:w.frozen? ⟨f,1,none⟩=false) (z2:w.frozen? ⟨f,2,none⟩=false):
 Calls Tryz.prog 113 #[ptr f,.func (.func F) b #[]] w fun e w'=>e=.returned (.tuple #[])/\w'=(w.setCell ⟨f,1,none⟩ (dY 150)).setCell ⟨f,2,none⟩ (.func (.func F) b #[]):=by
 go_enter Tryz.func113,Tryz.ntmps113
 go_wp2
 go_end0
 exact ⟨rfl,rfl⟩
theorem HY (k:Int) (w:World):Calls Tryz.prog 84 #[.int .i64 k] w fun e w'=>∃ a:Gl,e=.returned (ptr a.f)/\bY w' a (iJ k)/\(∀ x,bC a (iJ k) x->w.heap.size<=x)/\Below w.heap.size w w':=by
 obtain ⟨w2,aT⟩:∃ w2,w2=w.alloc (.cells #[.int .i64 k,.nilFunc,.nilFunc,.int .i64 0,.int .i64 0,.int .i64 0,.int .i64 0,.int .i64 0,.int .i64 0,.int .i64 0,.pointer none,.int .u64 0,.int .i64 0,.pointer none,.slice none 0 0,.slice none 0 0] 200):=⟨_,rfl⟩
 have aP:af w2 w.heap.size 200 #[.int .i64 k,.nilFunc,.nilFunc,.int .i64 0,.int .i64 0,.int .i64 0,.int .i64 0,.int .i64 0,.int .i64 0,.int .i64 0,.pointer none,.int .u64 0,.int .i64 0,.pointer none,.slice none 0 0,.slice none 0 0]:=by rw [aT]; exact af.made w _ _
 have ag:Below w.heap.size w w2:=by rw [aT]; exact (Below.refl _ _).alloc (Nat.le_refl _) _
 obtain ⟨f,hf⟩:∃ f,f=w.heap.size:=⟨_,rfl⟩
 rw [<-hf] at aP
 have gZ:w.heap.size<=f:=by omega
 have ku:=Lib.hid (CP (F:=114) (b:=#[ptr f]) (aP.cell 1) (aP.cell 2) (aP.frozen 1) (aP.frozen 2))
 have hE:Hid (bY ((w2.setCell ⟨f,1,none⟩ (dY 150)).setCell ⟨f,2,none⟩ (aU 114 (ptr f))) ⟨f,.pointer none,.pointer none,0,0,none,0,0,none,0,[],none,0,[]⟩ (iJ k)):=Lib.hid
  ⟨(aP.store 1 (dY 150)).store 2 (aU 114 (ptr f)),fun q=>by simp [iJ] at q,fun q=>by simp [iJ] at q,fun q=>by simp [iJ] at q,⟨.nil,.nil,fun _=>Row.nil _ _ _ _,.inl rfl,by simp,Row.nil _ _ _ _,fun b hb=>by simp [In] at hb⟩⟩
 have bp:Hid (∀ x,bC ⟨f,.pointer none,.pointer none,0,0,none,0,0,none,0,[],none,0,[]⟩ (iJ k) x->w.heap.size<=x):=Lib.hid (by
  rintro x (rfl | ⟨q,_⟩ | ⟨q,_⟩ | ⟨q,_⟩ | ⟨_,q⟩ | q | ⟨e,he,_⟩ | ⟨e,he,_⟩)
  ·exact gZ
  ·simp [iJ] at q
  ·simp [iJ] at q
  ·simp [iJ] at q
  ·simp [In] at q
  ·simp [In] at q
  ·simp at he
  ·simp at he)
 have hB:=Lib.hid ((ag.setCell (p:=⟨f,1,none⟩) gZ (dY 150)).setCell (p:=⟨f,2,none⟩) gZ (aU 114 (ptr f)))
 clear aP ag gZ
 go_enter Tryz.func84,Tryz.ntmps84
 go_upto_region 2 with (fail)
 rw [<-aT,<-hf]
 clear aT hf
 go_wp2_with fail
 refine ku.out.mono ?_
 rintro e w1 ⟨rfl,aJ⟩
 rw [<-aJ] at hE hB
 clear aJ ku
 go_wp2_with fail
 go_ret
 exact ⟨_,rfl,hE.out,bp.out,hB.out⟩
structure pR (L:Lm) (G:Gr):Prop where
 nx:1<=G.nx/\G.nx<=8
 x1:1<L.xs.length
 hl:0<L.hs.length
 ds:L.ds.length<=900000
 el:G.nx≠1->G.el.1<=65536/\G.el.2<=4000000
 bk:G.bucket<=1000000
 pass:G.pass.length<=100000/\G.later.length<=100000
 later:G.nx=3->G.later=[]
 c3:G.nx=3->G.el.2+G.bucket<L.xs.length
 c4:G.nx=4->CI L G
 c5:G.nx=5->G.half<=1/\G.nw.2+(G.bucket+G.half*G.el.1)<L.xs.length/\cG G.C.fi G.half<=18446744073709551615/\G.nw.2<=4000000
 c6:G.nx=6->0<=G.num/\G.num<=1000000
 c7:G.nx=7->0<=L.k/\Qs.eV L.k.toNat L.xs L.hs G.W
 c8:G.nx=8->∃ x y ls t k,G.pass=((x,y)::ls)::t/\x<=18446744073709551615/\bj L.ss x k
theorem lR {w:World} {F f:Nat} {cv m:Value} {c:Bool} {P:World->Prop} (c2:w.cell? ⟨f,2,none⟩=some (aU F cv)) (eF:∀ args w,(callFunc F args).run Tryz.prog w=.ok (.enter F args) w)
 (hF:Calls Tryz.prog F #[cv,m] w fun e w'=>e=.returned (.bool c)/\P w'):Calls Tryz.prog 277 #[ptr f,m] w fun e w'=>e=.returned (.bool c)/\P w':=by
 replace hF:=Lib.hid hF
 go_enter Tryz.func277,Tryz.ntmps277
 go_wp2_with fail
 refine hF.out.mono ?_
 rintro e w' ⟨rfl,bq⟩
 replace bq:=Lib.hid bq
 clear c2
 go_wp2_with fail
 go_ret
 exact ⟨rfl,bq.out⟩
theorem Qw {w:World} {f:Nat} {m:Value} (c1:w.cell? ⟨f,1,none⟩=some (dY 150)):Calls Tryz.prog 276 #[ptr f,m] w fun e w'=>e=.returned (.bool true)/\Below w.heap.size w w':=by
 have eF:∀ args w,(callFunc 150 args).run Tryz.prog w=.ok (.enter 150 args) w:=fun _ _=>by kernel_rfl
 have hA:=Lib.hid (sC m w)
 go_enter Tryz.func276,Tryz.ntmps276
 go_wp2_with fail
 refine hA.out.mono ?_
 rintro e w' ⟨rfl,hw⟩
 obtain rfl:w=w':=hw.symm
 clear hA c1
 go_wp2_with fail
 go_ret
 exact ⟨rfl,Below.refl _ _⟩
theorem Qx {w:World} {F f:Nat} {cv m:Value} {c:Bool} (c1:w.cell? ⟨f,1,none⟩=some (aU F cv)) (eF:∀ args w,(callFunc F args).run Tryz.prog w=.ok (.enter F args) w)
 (hF:Calls Tryz.prog F #[cv,m] w fun e w'=>e=.returned (.bool c)/\∃ n,w'=w.drewN n):Calls Tryz.prog 276 #[ptr f,m] w fun e w'=>e=.returned (.bool c)/\Below w.heap.size w w':=by
 replace hF:=Lib.hid hF
 go_enter Tryz.func276,Tryz.ntmps276
 go_wp2_with fail
 refine hF.out.mono ?_
 rintro e w' ⟨rfl,n,rfl⟩
 clear c1
 go_wp2_with fail
 go_ret
 exact ⟨rfl,rfl,rfl,rfl,Nat.le_refl _,fun _ _=>rfl⟩
theorem Qy (args:Array Value) (w:World):(callFunc 114 args).run Tryz.prog w=.ok (.enter 114 args) w:=by kernel_rfl
theorem HZ (args:Array Value) (w:World):(callFunc 151 args).run Tryz.prog w=.ok (.enter 151 args) w:=by kernel_rfl
theorem Qz (args:Array Value) (w:World):(callFunc 188 args).run Tryz.prog w=.ok (.enter 188 args) w:=by kernel_rfl
theorem QB (args:Array Value) (w:World):(callFunc 221 args).run Tryz.prog w=.ok (.enter 221 args) w:=by kernel_rfl
theorem QC (args:Array Value) (w:World):(callFunc 239 args).run Tryz.prog w=.ok (.enter 239 args) w:=by kernel_rfl
theorem QD (args:Array Value) (w:World):(callFunc 240 args).run Tryz.prog w=.ok (.enter 240 args) w:=by kernel_rfl
theorem QE (args:Array Value) (w:World):(callFunc 244 args).run Tryz.prog w=.ok (.enter 244 args) w:=by kernel_rfl
theorem QF (args:Array Value) (w:World):(callFunc 245 args).run Tryz.prog w=.ok (.enter 245 args) w:=by kernel_rfl
theorem QG (args:Array Value) (w:World):(callFunc 56 args).run Tryz.prog w=.ok (.enter 56 args) w:=by kernel_rfl
section
variable {w w':World} {M:Mo} {a:Gl} {G:Gr}
theorem QH (hM:ah w M) (h:bY w a G) (ok:pR (lm M) G):Calls Tryz.prog 276 #[ptr a.f,ptr M.m] w fun e w'=>e=.returned (.bool (lh (lm M) G))/\Below w.heap.size w w':=by
 have c1:=(sA h.ao).2.1
 unfold uj at c1
 unfold lh
 by_cases h7:G.nx=7
 ·rw [if_pos h7] at c1 ⊢
  obtain ⟨o1,o2⟩:=ok.c7 h7
  have hp:=o2.bF
  have hx:M.k.toNat+2<=M.xs.length:=o2.xl
  have gW:G.W.at_<=2->G.W.bF<M.k.toNat:=hp.2
  exact Qx c1 QG (Qs.pM hM (h.wt h7).2 o2.hl (fun q=>by have:=gW (by omega); exact ⟨by omega,by omega⟩) (by have:=o2.at_; omega))
 ·rw [if_neg h7] at c1 ⊢
  exact Qw c1
theorem QI (hM:ah w M) (h:bY w a G) (ok:pR (lm M) G) (hr:lh (lm M) G=true):
 Calls Tryz.prog 277 #[ptr a.f,ptr M.m] w fun e w'=>e=.returned (.bool (cp (lm M) G))/\dL.bh w M a G (aE (lm M) G).1 (aE (lm M) G).2 w':=by
 have c2:=(sA h.ao).2.2.1
 unfold jX at c2
 have fC:=ok.nx
 have kR:=ok.bk
 by_cases e1:G.nx=1
 ·rw [if_pos e1] at c2
  rw [show cp (lm M) G=false by unfold cp; rw [if_neg (by omega),if_neg (by omega)]; simp; omega]
  exact lR c2 Qy (wK hM h ok.x1 e1)
 rw [if_neg e1] at c2
 obtain ⟨el1,el2⟩:=ok.el e1
 by_cases e2:G.nx=2
 ·rw [if_pos e2] at c2
  have ed:cp (lm M) G= !decide (FM.bl ((2*G.el.1:Nat):Int)=true/\M.xs.length+2*G.el.1<=1048576):=by unfold cp; rw [if_pos e2]
  by_cases hp:FM.bl ((2*G.el.1:Nat):Int)=true/\M.xs.length+2*G.el.1<=1048576
  ·have es:aE (lm M) G=({lm M with xs:=M.xs++List.replicate (2*G.el.1) 0,ds:=M.ds++[(2*G.el.1,M.xs.length)]},{G with num:=M.ds.length,err:=0,nw:=(2*G.el.1,M.xs.length),nx:=3}):=by
    unfold aE; rw [if_neg e1,if_pos e2,if_pos hp]
   rw [ed,es,show (!decide (FM.bl ((2*G.el.1:Nat):Int)=true/\M.xs.length+2*G.el.1<=1048576))=false by simp only [decide_eq_true hp]; rfl]
   exact lR c2 HZ (CE hM h e2 el1 ok.ds hp.1 hp.2)
  ·have es:aE (lm M) G=(lm M,{G with num:= -1,err:=if FM.bl ((2*G.el.1:Nat):Int)=true then 2 else 5,nx:=9}):=by
    unfold aE; rw [if_neg e1,if_pos e2,if_neg hp]
   rw [ed,es,show (!decide (FM.bl ((2*G.el.1:Nat):Int)=true/\M.xs.length+2*G.el.1<=1048576))=true by simp only [decide_eq_false hp]; rfl]
   exact lR c2 HZ (CC hM h e2 el1 hp)
 rw [if_neg e2] at c2
 by_cases e3:G.nx=3
 ·rw [if_pos e3] at c2
  rw [show cp (lm M) G=false by unfold cp; rw [if_neg (by omega),if_neg (by omega)]; simp; omega]
  have es:aE (lm M) G=(lm M,dm {G with C:=.new} (Cl.nth M.xs (G.el.2+G.bucket)).toNat):=by unfold aE; rw [if_neg e1,if_neg e2,if_pos e3]
  rw [es]
  exact lR c2 Qz (Qh hM h e3 (ok.c3 e3) el2 (ok.later e3) ok.pass.1 kR (by omega))
 rw [if_neg e3] at c2
 by_cases e4:G.nx=4
 ·rw [if_pos e4] at c2
  rw [show cp (lm M) G=false by unfold cp; rw [if_neg (by omega),if_neg (by omega)]; simp; omega]
  have es:aE (lm M) G=(lm M,dm {G with C:=G.C.add G.at_ (ld G (aj M.ss ((G.at_-1) % 65536)).nd.sum)} (aj M.ss ((G.at_-1) % 65536)).nd.next.toNat):=by unfold aE; rw [if_neg e1,if_neg e2,if_neg e3,if_pos e4]
  rw [es]
  exact lR c2 QB (CJ hM h (ok.c4 e4) e4)
 rw [if_neg e4] at c2
 by_cases e5:G.nx=5
 ·rw [if_pos e5] at c2
  rw [show cp (lm M) G=false by unfold cp; rw [if_neg (by omega),if_neg (by omega)]; simp; omega]
  have es:aE (lm M) G=({lm M with xs:=M.xs.set (G.nw.2+(G.bucket+G.half*G.el.1)) ((cG G.C.fi G.half:Nat):Int)},bI {G with half:=G.half+1}):=by unfold aE; rw [if_neg e1,if_neg e2,if_neg e3,if_neg e4,if_pos e5]
  rw [es]
  obtain ⟨o1,o2,o3,o4⟩:=ok.c5 e5
  exact lR c2 QC (wL hM h e5 o1 o2 o3 kR (by omega) o4)
 rw [if_neg e5] at c2
 by_cases e6:G.nx=6
 ·rw [if_pos e6] at c2
  rw [show cp (lm M) G=false by unfold cp; rw [if_neg (by omega),if_neg (by omega)]; simp; omega]
  have es:aE (lm M) G=({lm M with xs:=M.xs.set 1 G.num},eo G):=by unfold aE; rw [if_neg e1,if_neg e2,if_neg e3,if_neg e4,if_neg e5,if_pos e6]
  rw [es]
  exact lR c2 QD (CL hM h e6 ok.x1 (ok.c6 e6))
 rw [if_neg e6] at c2
 by_cases e7:G.nx=7
 ·rw [if_pos e7] at c2
  have ed:cp (lm M) G=decide (G.W.at_=3/\G.pass=[]):=by unfold cp; rw [if_neg (by omega),if_pos e7]
  have es:aE (lm M) G=({lm M with xs:=(aW M.k.toNat M.xs M.hs G.W).1,hs:=(aW M.k.toNat M.xs M.hs G.W).2.1},{G with W:=(aW M.k.toNat M.xs M.hs G.W).2.2,nx:=if G.W.at_=3 then (if G.pass=[] then 9 else 8) else 7}):=by
   unfold aE; rw [if_neg e1,if_neg e2,if_neg e3,if_neg e4,if_neg e5,if_neg e6,if_pos e7]
  rw [ed,es]
  obtain ⟨o1,o2⟩:=ok.c7 e7
  unfold lh at hr
  rw [if_pos e7] at hr
  exact lR c2 QE (Ql hM h e7 (n:=M.k.toNat) (by have:0<=M.k:=o1; omega) o2 hr)
 rw [if_neg e7] at c2
 have e8:G.nx=8:=by omega
 rw [if_pos e8] at c2
 rw [show cp (lm M) G=false by unfold cp; rw [if_neg (by omega),if_neg (by omega)]; simp; omega]
 obtain ⟨x,y,ls,t,k,hp,hx,hk⟩:=ok.c8 e8
 have es:aE (lm M) G=({lm M with ss:=Pu.aS M.ss x y},if t=[] then eo {G with pass:=if 1<((x,y)::ls).length then G.later++[ls] else G.later,later:=[]} else {G with pass:=t,later:=if 1<((x,y)::ls).length then G.later++[ls] else G.later}):=by
  unfold aE; rw [if_neg e1,if_neg e2,if_neg e3,if_neg e4,if_neg e5,if_neg e6,if_neg e7,hp]
  rfl
 rw [es]
 exact lR c2 QF (Qv hM h e8 hp ok.pass.2 hx hk)
end
theorem pS:oR dL 167 276 277 pR lh aE cp where
 below h hb:=h.below hb
 mr b w f:=by kernel_rfl
 ms b w f:=by kernel_rfl
 er args w:=by kernel_rfl
 es args w:=by kernel_rfl
 ready hM h ok:=QH hM h ok
 step hM h ok hr:=QI hM h ok hr
end Go.Proofs.YtpanebgakndddaaGreat.Gw
namespace Go.Proofs.YtpanebgakndddaaGreat.Zp
open Go Hm Ar Mm Wk Pc Me Mq Pu Pn Gt Qs
theorem Cx.same {ss:List Sl} {x y:Nat} {q q':List Mq.Hp} (hl:ss.length<=1024) (h:Cx ss x q) (h':Cx ss y q') {a b:Mq.Hp} (ha:a∈q) (hb:b∈q') (e:a.1=b.1):a.2.1=b.2.1:=by
 obtain ⟨k,z,h1,h2⟩:=h.at a ha
 obtain ⟨k',z',h3,h4⟩:=h'.at b hb
 rw [e] at h1
 have:=h1.uniq hl h3
 subst this
 rw [h2] at h4
 exact congrArg Nd.key h4
theorem Cx.nodup {ss:List Sl} {x:Nat} {q:List Mq.Hp} (hl:ss.length<=1024) (h:Cx ss x q) (hk:(dQ q).Nodup):(aM q).Nodup:=by
 induction h with
 | nil=>simp
 | @cons x k z p t a b c ih=>
   have mo:p.1∉dQ t/\(dQ t).Nodup:=List.nodup_cons.1 hk
   refine List.nodup_cons.2 ⟨fun hm=>?_,ih mo.2⟩
   obtain ⟨e,he,hx⟩:=List.mem_map.1 hm
   have:=Cx.same hl (.cons a b c) c (a:=(x,p)) (b:=e) (by simp) he hx.symm
   exact mo.1 (List.mem_map.2 ⟨e,he,this.symm⟩)
theorem Tv {n b:Nat} {c:List Mq.Hp} {l:List Pr} (jr:FM.bl n=true) (sY:FM.bl ((2*n:Nat):Int)=true) (hb:b<2*n) (h:bs c=l.filter fun p=>decide (ai p.1 n=b % n)):bs (c.filter fun a=>sd n a.2.1==decide (n<=b))=l.filter fun p=>decide (ai p.1 (2*n)=b):=by
 have hn:=FM.eG jr
 have h1:bs (c.filter fun a=>sd n a.2.1==decide (n<=b))=(bs c).filter fun p=>sd n p.1==decide (n<=b):=by
  simp only [bs,List.filter_map]
  rfl
 rw [h1,h,List.filter_filter]
 apply List.filter_congr
 intro p _
 obtain ⟨h2,h3,h4⟩:=sh jr sY p.1
 rw [Bool.eq_iff_iff]
 simp only [Bool.and_eq_true,beq_iff_eq,decide_eq_true_eq]
 have h5:sd n p.1=decide (n<=ai p.1 (2*n)):=rfl
 have XR:b=b % n+(if n<=b then n else 0):=by
  split
  ·rename_i q
   rw [Nat.mod_eq_sub_mod q,Nat.mod_eq_of_lt (by omega)]
   omega
  ·rw [Nat.mod_eq_of_lt (by omega)]
   omega
 constructor
 ·rintro ⟨q1,q2⟩
  rw [h4,XR,q2,q1]
  by_cases hq:n<=b<;>simp [hq]
 ·intro q
  subst q
  exact ⟨h5,h2.symm⟩
end Go.Proofs.YtpanebgakndddaaGreat.Zp
namespace Go.Proofs.YtpanebgakndddaaGreat.Gw
open Go Hm Ar Mm Wk Pc Me Mq Pu Pn Gt Qs Zp Mx
theorem kH {xs:List Int} {n:Nat} (i:Nat):Cl.nth (xs++List.replicate n 0) i=Cl.nth xs i:=by
 unfold Cl.nth
 simp only [List.getD_eq_getElem?_getD]
 by_cases h:i<xs.length
 ·rw [List.getElem?_append_left h]
 ·rw [List.getElem?_append_right (by omega),List.getElem?_replicate,List.getElem?_eq_none (by omega)]
  split<;>rfl
theorem H2 {xs:List Int} {i:Nat} (h:xs.length<=i):Cl.nth xs i=0:=by unfold Cl.nth; simp [List.getD,h]
theorem qW {ds:List (Nat×Nat)} {d:Nat×Nat} (i:Nat):aO (ds++[d]) i=if i=ds.length then d else aO ds i:=by
 unfold aO
 simp only [List.getD_eq_getElem?_getD]
 by_cases h:i<ds.length
 ·rw [List.getElem?_append_left h,if_neg (by omega)]
 ·rw [List.getElem?_append_right (by omega)]
  by_cases e:i=ds.length
  ·rw [if_pos e,e]; simp
  ·rw [if_neg e,List.getElem?_eq_none (by simp; omega),List.getElem?_eq_none (by omega)]
theorem CQ {hs:List Int} (h:0<hs.length) (v:Int):Lo.aF (hs.set 0 v) 0=v:=by unfold Lo.aF List.getD; simp [h]
inductive gR (P:Nat->List (Nat×Nat)->Prop):List Nat->List (List (Nat×Nat))->Prop
 | nil:gR P [] []
 | cons {e:Nat} {es:List Nat} {l:List (Nat×Nat)} {ls:List (List (Nat×Nat))}:P e l->gR P es ls->gR P (e::es) (l::ls)
section
variable {P P':Nat->List (Nat×Nat)->Prop} {es:List Nat} {ls:List (List (Nat×Nat))}
theorem gR.snoc (h:gR P es ls) {e:Nat} {l:List (Nat×Nat)} (hl:P e l):gR P (es++[e]) (ls++[l]):=by
 induction h with
 | nil=>exact .cons hl .nil
 | cons a _ ih=>exact .cons a ih
theorem gR.mono (h:gR P es ls) (hp:∀ e∈es,∀ l,P e l->P' e l):gR P' es ls:=by
 induction h with
 | nil=>exact .nil
 | cons a _ ih=>exact .cons (hp _ (by simp) _ a) (ih fun e he=>hp e (List.mem_cons_of_mem _ he))
theorem gR.len (h:gR P es ls):es.length=ls.length:=by
 induction h with
 | nil=>rfl
 | cons _ _ ih=>simp [ih]
end
def gS (ps:List (List (Nat×Nat))):Nat:=(ps.map List.length).sum
theorem H3 (ps:List (List (Nat×Nat))) (l:List (Nat×Nat)):gS (ps++[l])=gS ps+l.length:=by unfold gS; simp
theorem QJ (ps:List (List (Nat×Nat))) (l:List (Nat×Nat)):gS (l::ps)=l.length+gS ps:=by unfold gS; simp
def Pt (Z:Zs) (e:Nat) (l:List (Nat×Nat)):Prop:=e<Z.n/\l≠[]/\k9 (sd Z.n) (Z.r e) (Z.rest e) l
def wl (W:Wt):Nat:=if W.at_=0 then 11 else if W.at_=1 then 10 else if W.at_=2 then 9-W.bF else 1
def jK (Z:Zs) (L:Lm) (b h:Nat):Prop:=∀ c,c<2*Z.n->Cl.nth L.xs (Z.B2+c)=if c % Z.n<b\/(c % Z.n=b/\c<Z.n*h) then ((Z.head c:Nat):Int) else 0
def sE (Z:Zs) (G:Gr) (b:Nat):Prop:=∃ ids,gR (Pt Z) ids G.pass/\ids.Nodup/\(∀ e∈ids,e<b)/\(∀ e,e<b->e∉ids->Z.rest e=[])/\(∀ l∈G.pass,l.length<=Z.few)/\gS G.pass<=b*Z.few
def mB (Z:Zs):Nat:=1+12*(Z.few+1)+Z.n*Z.few
theorem zB {xs xs':List Int} {ds:List (Nat×Nat)} (h:mA xs ds) (e:xs'.length=xs.length):mA xs' ds:=fun i hi=>by have:=h i hi; omega
structure Jc (n0:Nat) (l:List Pr) (Z:Zs) (L:Lm) (G:Gr) (m:Nat):Prop where
 nn:Z.n=n0
 al:∀ e,e<Z.n->bs (Z.aY e)=l.filter fun p=>decide (ai p.1 Z.n=e)
 wk:0<=G.worker/\G.worker<=1000
 err:G.err=0
 el:G.nx≠1->G.el=(Z.n,Z.B)
 k:1<=L.k/\L.k<=8
 pd:Cl.nth L.xs 0+m<=4611686018427387904
 hl:0<L.hs.length
 aF:G.nx≠7->Lo.aF L.hs 0= -1
 xb:Z.B2+2*Z.n<=1048576
 xl:L.xs.length=if G.nx<=2 then Z.B2 else Z.B2+2*Z.n
 ds:L.ds.length<=800001/\(G.nx<=2->L.ds.length<=800000)
 nw:3<=G.nx->G.nw=(2*Z.n,Z.B2)/\∃ t:Nat,G.num=t/\t<=900000/\aO L.ds t=(2*Z.n,Z.B2)
 later:G.nx≠8->G.later=[]
 bk:G.bucket<=Z.n
 b5:4<=Z.B2
 pos:∀ e,e<Z.n->∀ a∈Z.aY e,a.1≠0/\a.1<=18446744073709551615
 tabs:mA L.xs L.ds
inductive Jp (Z:Zs) (L:Lm) (G:Gr) (old:Nat->Int->Nat->Prop):Nat->Prop
 | p1 {m:Nat}:G.nx=1->Z.bt=false->(∀ w p e,old w p e)->G.bucket=0->G.pass=[]->2+Z.n*(Z.few+4)+mB Z<=m->Jp Z L G old m
 | p2 {m:Nat}:G.nx=2->Z.bt=false->(∀ w p e,old w p e)->G.bucket=0->G.pass=[]->1+Z.n*(Z.few+4)+mB Z<=m->Jp Z L G old m
 | p3 {m:Nat}:G.nx=3->Z.bt=false->(∀ w p e,old w p e)->G.bucket<Z.n->jK Z L G.bucket 0->sE Z G G.bucket->(Z.n-G.bucket)*(Z.few+4)+mB Z<=m->Jp Z L G old m
 | p4 {m:Nat} (p q:List Mq.Hp):G.nx=4->Z.bt=false->(∀ w p e,old w p e)->G.bucket<Z.n->jK Z L G.bucket 0->sE Z G G.bucket->Z.aY G.bucket=p++q->q≠[]->G.at_=aC q->G.C=jH (sd Z.n) p->
    q.length+3+(Z.n-G.bucket-1)*(Z.few+4)+mB Z<=m->Jp Z L G old m
 | p5 {m:Nat}:G.nx=5->Z.bt=false->(∀ w p e,old w p e)->G.bucket<Z.n->jK Z L G.bucket G.half->sE Z G (G.bucket+1)->(∀ b,cG G.C.fi (hf b)=aC ((Z.aY G.bucket).filter fun a=>sd Z.n a.2.1==b))->G.half<=1->
    (2-G.half)+(Z.n-G.bucket-1)*(Z.few+4)+mB Z<=m->Jp Z L G old m
 | p6 {m:Nat}:G.nx=6->Z.bt=false->(∀ w p e,old w p e)->jK Z L Z.n 0->sE Z G Z.n->mB Z<=m->Jp Z L G old m
 | p7 {m:Nat} (t:Nat) (ids:List Nat):G.nx=7->Z.bt=true->(∀ w p e,old w p e↔gy G.W w p e)->Qs.eV L.k.toNat L.xs L.hs G.W->0<=G.W.worker->(G.W.at_<=1->G.W.bF=0)->(G.W.at_=0->Lo.aF L.hs 0= -1)->gR (Pt Z) ids G.pass->ids.Nodup->(∀ e,e<Z.n->e∉ids->Z.rest e=[])->
    (∀ l∈G.pass,l.length<=t)->wl G.W+12*t+gS G.pass<=m->Jp Z L G old m
 | p8 {m:Nat} (t:Nat) (ids ids':List Nat):G.nx=8->Z.bt=true->(∀ e∈ids,∀ w p,¬old w p e)->gR (Pt Z) ids G.pass->gR (Pt Z) ids' G.later->(ids++ids').Nodup->(∀ e,e<Z.n->e∉ids++ids'->Z.rest e=[])->G.pass≠[]->
    (∀ l∈G.pass,l.length<=t+1)->(∀ l∈G.later,l.length<=t)->G.later.length<=Z.n->12*(t+1)+gS G.pass+gS G.later<=m->Jp Z L G old m
def J (n0:Nat) (l:List Pr) (Z:Zs) (old:Nat->Int->Nat->Prop) (L:Lm) (G:Gr) (m _c:Nat):Prop:=Jc n0 l Z L G m/\Jp Z L G old m
section
variable {n0:Nat} {l:List Pr} {Z:Zs} {L:Lm} {G:Gr} {m c:Nat} {old:Nat->Int->Nat->Prop}
theorem Jp.pos (h:Jp Z L G old m):1<=m:=by
 cases h with
 | p1 _ _ _ _ _ h=>unfold mB at h; omega
 | p2 _ _ _ _ _ h=>unfold mB at h; omega
 | p3 _ _ _ _ _ _ h=>unfold mB at h; omega
 | p4 p q _ _ _ _ _ _ _ _ _ _ h=>unfold mB at h; omega
 | p5 _ _ _ _ _ _ _ _ h=>unfold mB at h; omega
 | p6 _ _ _ _ _ h=>unfold mB at h; omega
 | p7 t ids _ _ _ hk _ _ _ _ _ _ _ h=>
   have h1:=hk.at_
   have h2:=hk.bF
   have h3:=hk.n1
   unfold wl at h
   split at h
   ·omega
   split at h
   ·omega
   split at h
   ·have:=h2.2 (by omega)
    omega
   ·omega
 | p8 t ids ids' _ _ _ _ _ _ _ _ _ _ _ h=>omega
theorem Jp.nx (h:Jp Z L G old m):1<=G.nx/\G.nx<=8:=by
 cases h<;>omega
end
end Go.Proofs.YtpanebgakndddaaGreat.Gw
namespace Go.Proofs.YtpanebgakndddaaGreat.Gw
open Go Hm Ar Mm Wk Pc Me Mq Pu Pn Gt Qs Zp Mx
theorem QK:∀ (n:Nat) (l:List Nat),l.Nodup->(∀ x∈l,x<n)->l.length<=n:=by
 intro n
 induction n with
 | zero=>
   intro l _ h
   cases l with
   | nil=>simp
   | cons a t=>exact absurd (h a (by simp)) (by omega)
 | succ n ih=>
   intro l hn h
   by_cases hm:n∈l
   ·have h1:=List.length_erase_of_mem hm
    have h2:=ih (l.erase n) (hn.erase n) fun x hx=>by
     have KZ:=(hn.mem_erase_iff).1 hx
     have:=h x KZ.2
     have:=KZ.1
     omega
    have h3:0<l.length:=List.length_pos_of_mem hm
    omega
   ·have:=ih l hn fun x hx=>by
     have h1:=h x hx
     have:x≠n:=fun e=>hm (e▸hx)
     omega
    omega
theorem QL (σ:ByteArray->Bool):∀ (n:Nat) (p:List Mq.Hp),p.length=n->(jH σ p).half<=1/\(jH σ p).lk.length<=p.length/\(jH σ p).met=(aM p).reverse:=by
 intro n
 induction n with
 | zero=>
   intro p hl
   have:p=[]:=List.eq_nil_of_length_eq_zero hl
   subst this
   exact ⟨by simp [jH,Ch.new],by simp [jH,Ch.new],rfl⟩
 | succ n ih=>
   intro p hl
   obtain ⟨q,a,rfl⟩:∃ q a,p=q++[a]:=⟨p.dropLast,p.getLast (by rintro rfl; simp at hl),(List.dropLast_concat_getLast _).symm⟩
   obtain ⟨h1,h2,h3⟩:=ih q (by simp at hl; omega)
   rw [Cs]
   generalize jH σ q=C at*
   refine ⟨ej _,?_,?_⟩
   ·unfold Ch.add
    simp only [List.length_append,List.length_singleton]
    split
    ·omega
    split
    ·simp; omega
    ·omega
   ·show a.1::C.met=_
    rw [h3]
    simp [aM]
section
variable {n0:Nat} {l:List Pr} {Z:Zs} {L:Lm} {G:Gr} {m c:Nat} {old:Nat->Int->Nat->Prop}
theorem gE (hZ:ZD l Z L):1<=Z.n/\Z.n<=32768:=by
 have h1:=FM.eG hZ.1.pw
 have h2:=FM.eG hZ.1.jT
 omega
theorem uq (hZ:ZD l Z L) (hp:Z.bt=false) {e:Nat} (he:e<Z.n):Cx L.ss (aC (Z.aY e)) (Z.aY e)/\(aM (Z.aY e)).Nodup/\Zip L.ss (sd Z.n) (Z.aY e) (Z.s e) (Z.X e) (Z.Y e) [] (Z.r e) [] (Z.rest e)/\Z.aY e=Z.r e++Z.rest e:=by
 obtain ⟨f1,f2,f3⟩:=hZ.1.fr hp e he
 have hz:=hZ.1.zip e he
 rw [f1,f2] at hz
 have h1:=hz.own
 have h2:=hz.nd
 rw [List.nil_append,<-f3] at h1
 rw [List.nil_append,List.append_nil,<-f3] at h2
 refine ⟨?_,h2,hz,f3⟩
 rw [<-Cx.hd h1]
 exact h1
theorem H4 (hZ:ZD l Z L) (hp:Z.bt=false) {b:Nat} (hb:b<2*Z.n):Z.head b=aC ((Z.aY (b % Z.n)).filter fun a=>sd Z.n a.2.1==decide (Z.n<=b)):=by
 have hn:=gE hZ
 have he:b % Z.n<Z.n:=Nat.mod_lt _ (by omega)
 obtain ⟨h1,h2,h3,h4⟩:=uq hZ hp he
 have ld:=h3.fs
 have kQ:=h3.fv
 rw [List.nil_append] at ld kQ
 have hX:=Cx.hd h3.own
 have hY:=Cx.hd h3.oth
 rw [List.nil_append] at hX hY
 unfold Zs.head
 by_cases hs:decide (Z.n<=b)=Z.s (b % Z.n)
 ·rw [if_pos hs,hs,ld,hX]
  cases hr:Z.r (b % Z.n) with
  | nil=>
    have:Z.rest (b % Z.n)=[]:=by
     cases hq:Z.rest (b % Z.n) with
     | nil=>rfl
     | cons x t=>exact absurd hr (h3.ne (by rw [hq]; simp))
    rw [this]
    rfl
  | cons x t=>rfl
 ·rw [if_neg hs]
  have hs':decide (Z.n<=b)= !(Z.s (b % Z.n)):=by
   revert hs
   cases decide (Z.n<=b)<;>cases Z.s (b % Z.n)<;>simp
  rw [hs',kQ,hY]
  cases hq:Z.rest (b % Z.n) with
  | nil=>rfl
  | cons x t=>
    have:=h3.hd x t hq
    rw [List.filter_cons,if_pos (by rw [this]; simp)]
    rfl
theorem H5 (hZ:ZD l Z L) (h:Jc n0 l Z L G m) (h3:3<=G.nx) (key:ByteArray):ld G (sm key)=hf (sd Z.n key):=by
 have hn:=gE hZ
 obtain ⟨t1,t2,t3⟩:=sh hZ.1.pw hZ.1.jT key
 have h1:=(dJ hZ.1.jT key).2
 have h2:=(dJ hZ.1.pw key).1
 unfold ld
 rw [(h.nw h3).1,h.el (by omega)]
 simp only
 rw [h1,t3]
 unfold hf
 split
 ·rw [<-Int.natCast_ediv,Int.toNat_natCast,Nat.add_div_right _ (by omega),Nat.div_eq_of_lt h2]
 ·rw [<-Int.natCast_ediv,Int.toNat_natCast,Nat.add_zero,Nat.div_eq_of_lt h2]
theorem H6 (hZ:ZD l Z L) (h:Jc n0 l Z L G m) (hp:Z.bt=false) (hb:G.bucket<Z.n) {p q:List Mq.Hp} {e:Mq.Hp} (hA:Z.aY G.bucket=p++e::q) (cr:G.at_=e.1):
 ∃ k,bj L.ss G.at_ k/\(G.at_-1) % 65536=k/\(aj L.ss k).nd=dR e.2 (aC q)/\aC q∉G.at_::(aM p).reverse/\aC q<=18446744073709551615:=by
 obtain ⟨h1,h2,h3,h4⟩:=uq hZ hp hb
 have vk:Cx L.ss (aC (e::q)) (e::q):=by
  have:Cx L.ss (aC (Z.aY G.bucket)) (p++e::q):=by rw [<-hA]; exact h1
  exact Cx.back p this
 obtain ⟨ex,ep⟩:=e
 obtain ⟨k,z,a1,a2,a3⟩:=vk.tail
 have hz:=Cx.hd a3
 subst hz
 simp only at cr
 rw [cr]
 refine ⟨k,a1,(nO hZ.1.len a1).1,a2,?_,?_⟩
 ·rw [hA] at h2
  have bS:(aM p++ex::aM q).Nodup:=by simpa [aM] using h2
  intro hm
  cases q with
  | nil=>
    rcases List.mem_cons.1 hm with e | hm
    ·exact a1.pos e.symm
    ·have hm:=List.mem_reverse.1 hm
     obtain ⟨y,hy,e⟩:=List.mem_map.1 hm
     exact (h.pos _ hb y (by rw [hA]; simp [hy])).1 e
  | cons e' q'=>
    have h5:=List.nodup_append.1 bS
    have h6:=List.nodup_cons.1 h5.2.1
    rcases List.mem_cons.1 hm with e | hm
    ·exact h6.1 (by rw [<-e]; simp [aM,aC])
    ·have hm:=List.mem_reverse.1 hm
     exact h5.2.2 _ hm _ (by simp [aM,aC]) rfl
 ·cases q with
  | nil=>simp [aC]
  | cons e' q'=>exact (h.pos _ hb e' (by rw [hA]; simp)).2
theorem zC (hZ:ZD l Z L) {ids:List Nat} {ls:List (List (Nat×Nat))} (h:gR (Pt Z) ids ls) (hn:ids.Nodup):ls.length<=Z.n:=by
 rw [<-h.len]
 refine QK _ _ hn fun x hx=>?_
 clear hn
 induction h with
 | nil=>simp at hx
 | cons a _ ih=>
   rcases List.mem_cons.1 hx with rfl | hx
   ·exact a.1
   ·exact ih hx
theorem J.ok (h:J n0 l Z old L G m c) (hZ:ZD l Z L):pR L G:=by
 obtain ⟨hc,hp⟩:=h
 have hn:=gE hZ
 have fC:=hp.nx
 have eu:=hZ.1.kB
 have ml:=hZ.1.bb
 have bz:=hZ.1.xl
 have hk:=hc.k
 have jx:=hc.xb
 have hlen:=hc.xl
 have jq:=hZ.2
 have gC:∀ (a2:G.pass.length<=100000/\G.later.length<=100000) (a3:G.nx=3->G.bucket<Z.n) (a4:G.nx=4->CI L G) (a5:G.nx=5->G.bucket<Z.n/\G.half<=1/\cG G.C.fi G.half<=18446744073709551615) (a7:G.nx=7->Qs.eV L.k.toNat L.xs L.hs G.W) (a8:G.nx=8->∃ x y ls t k,G.pass=((x,y)::ls)::t/\x<=18446744073709551615/\bj L.ss x k),pR L G:=fun a2 a3 a4 a5 a7 a8=>
  ⟨fC,by omega,hc.hl,by have:=hc.ds.1; omega,fun q=>by rw [hc.el q]; simp only; omega,by have:=hc.bk; omega,a2,fun q=>hc.later (by omega),fun q=>by
   have:=a3 q
   rw [hc.el (by omega)]
   simp only
   omega,a4,fun q=>by
   obtain ⟨b1,b2,b3⟩:=a5 q
   refine ⟨b2,?_,b3,?_⟩
   ·rw [(hc.nw (by omega)).1,hc.el (by omega),hlen,if_neg (by omega)]
    simp only
    have:G.half=0\/G.half=1:=by omega
    rcases this with e | e<;>rw [e]<;>omega
   ·rw [(hc.nw (by omega)).1]
    simp only
    omega,fun q=>by
   obtain ⟨_,t,e,ht,_⟩:=hc.nw (by omega)
   rw [e]
   omega,fun q=>⟨by omega,a7 q⟩,a8⟩
 have lstl:∀ {b:Nat},b<=Z.n->sE Z G b->G.pass.length<=100000:=fun {b} hb hL=>by
  obtain ⟨ids,h1,h2,_⟩:=hL
  have:=zC hZ h1 h2
  omega
 have mY:G.nx≠8->G.later.length<=100000:=fun q=>by rw [hc.later q]; simp
 cases hp with
 | p1 e _ _ hb cT _=>exact gC ⟨by rw [cT]; simp,mY (by omega)⟩ (by omega) (by omega) (by omega) (by omega) (by omega)
 | p2 e _ _ hb cT _=>exact gC ⟨by rw [cT]; simp,mY (by omega)⟩ (by omega) (by omega) (by omega) (by omega) (by omega)
 | p3 e _ _ hb _ hL _=>exact gC ⟨lstl (by omega) hL,mY (by omega)⟩ (fun _=>hb) (by omega) (by omega) (by omega) (by omega)
 | p4 p q e vm _ hb _ hL hA hq cr hC _=>
   refine gC ⟨lstl (by omega) hL,mY (by omega)⟩ (by omega) (fun _=>?_) (by omega) (by omega) (by omega)
   cases q with
   | nil=>exact absurd rfl hq
   | cons e0 q'=>
     have rD:G.at_=e0.1:=cr
     obtain ⟨k,a1,a2,a3,a4,a5⟩:=H6 hZ hc vm hb hA rD
     obtain ⟨b1,b2,b3⟩:=QL (sd Z.n) _ p rfl
     have ic:p.length<=35:=by
      have:=hZ.1.few.1 _ hb
      rw [hA] at this
      simp at this
      omega
     have AI:(aj L.ss k).nd.sum=sm e0.2.1:=by rw [a3]; rfl
     have rE:(aj L.ss k).nd.next=((aC q':Nat):Int):=by rw [a3]; rfl
     have hs:=oT e0.2.1
     refine ⟨by rw [a2]; exact a1,by rw [rD]; exact (hc.pos _ hb e0 (by rw [hA]; simp)).2,by rw [a2,AI]; exact hs,by rw [a2,rE]; omega,?_,?_,by rw [hc.el (by omega),(hc.nw (by omega)).1]; simp only; omega,?_,by rw [hC]; exact b1,by rw [hC]; omega,lstl (by omega) hL,hc.later (by omega),by omega⟩
     ·rw [a2,rE,Int.toNat_natCast,hC,b3]
      exact a4
     ·rw [a2,AI,H5 hZ hc (by omega)]
      exact ej _
     ·rw [hC,b3]
      refine ⟨fun hm=>?_,by simp; omega⟩
      obtain ⟨y,hy,e⟩:=List.mem_map.1 (List.mem_reverse.1 hm)
      exact (hc.pos _ hb y (by rw [hA]; simp [hy])).1 e
 | p5 e vm _ hb _ hL kS hh _=>
   refine gC ⟨lstl (by omega) hL,mY (by omega)⟩ (by omega) (by omega) (fun _=>⟨hb,hh,?_⟩) (by omega) (by omega)
   have h2:∀ b:Bool,aC ((Z.aY G.bucket).filter fun a=>sd Z.n a.2.1==b)<=18446744073709551615:=fun b=>by
    cases hq:(Z.aY G.bucket).filter fun a=>sd Z.n a.2.1==b with
    | nil=>simp [aC]
    | cons a t=>
      have:a∈Z.aY G.bucket:=(List.mem_filter.1 (show a∈(Z.aY G.bucket).filter fun a=>sd Z.n a.2.1==b by rw [hq]; simp)).1
      exact (hc.pos _ hb a this).2
   have:G.half=0\/G.half=1:=by omega
   rcases this with e | e
   ·rw [e,show (0:Nat)=hf false from rfl,kS]; exact h2 _
   ·rw [e,show (1:Nat)=hf true from rfl,kS]; exact h2 _
 | p6 e _ _ _ hL _=>exact gC ⟨lstl (Nat.le_refl _) hL,mY (by omega)⟩ (by omega) (by omega) (by omega) (by omega) (by omega)
 | p7 t ids e vm _ eL _ _ _ hw bS _ _ _=>exact gC ⟨by have:=zC hZ hw bS; omega,mY (by omega)⟩ (by omega) (by omega) (by omega) (fun _=>eL) (by omega)
 | p8 t ids ids' e vm hold hw yc bS _ aL _ _ bQ _=>
   have h1:=zC hZ hw (List.nodup_append.1 bS).1
   refine gC ⟨by omega,by omega⟩ (by omega) (by omega) (by omega) (by omega) (fun _=>?_)
   obtain ⟨ps,cT⟩:∃ ps,ps=G.pass:=⟨_,rfl⟩
   rw [<-cT] at hw aL ⊢
   cases hw with
   | nil=>exact absurd rfl aL
   | @cons e0 es l0 ls0 hP _=>
     obtain ⟨he,km,hL⟩:=hP
     generalize hr:Z.r e0=r at hL
     generalize hq:Z.rest e0=rest at hL
     cases hL with
     | nil=>exact absurd rfl km
     | @cons r0 d t0 a s ls' _ _ _ _=>
       have hz:=hZ.1.zip e0 he
       have ho:=hz.own
       obtain ⟨k,_,hk,_⟩:=ho.at a (by rw [hr]; simp)
       exact ⟨a.1,aC t0,ls',ls0,k,rfl,(hc.pos _ he a (hz.sub a (by rw [hr]; simp))).2,hk⟩
end
end Go.Proofs.YtpanebgakndddaaGreat.Gw
