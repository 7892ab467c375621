/- Walks and plain mathematics, put together in their order: GroL, GroM, ZipF, GroN, GroO. -/
import Derived.Test.YtpobbnllcoabhaaGreatPart6
import Derived.Test.YtpobbnllcoabhaaGreatPairs
set_option linter.unusedVariables false
set_option linter.unusedSimpArgs false
namespace Go.Proofs.YtpobbnllcoabhaaGreat.Gw
open Go Go.RowKit Hp K Fl Rw Hm Ar Mm Me Qs Wk Pn
set_option maxRecDepth 100000
section
variable {w w':World} {M:Mo} {a:Gl} {G:Gr}
theorem lnk_eq {ss:List Sl} {x y k:Nat} (hl:ss.length≤1024) (hk:IsAt ss x k):Pu.lnk ss x y=ss.set k {at' ss k with nd:={(at' ss k).nd with next:=(y:Int)}}:=by
 unfold Pu.lnk
 rw [(isAt_parts hl hk).1]
def Linked (w:World) (M:Mo) (a:Gl) (G:Gr) (x y:Nat) (w':World):Prop:=MemAt w' {M with ss:=Pu.lnk M.ss x y}∧GrAt w' a G∧Only (mfoot M) w w'
theorem linked_any (hM:MemAt w M) (h:GrAt w a G) {x k:Nat} (hx:x≤18446744073709551615) (hk:IsAt M.ss x k) (y:Nat) (w1:World) (h0:Only (fun _=>False) w w1):
 Calls Tryz.prog 166 #[ptr M.ar,.int .u64 x,.int .u64 y] w1 fun e w'=>e=.returned (.int .i64 0)∧Linked w M a G x y w':=by
 have hM0:MemAt w1 M:=hM.only h0 (by simp)
 refine (link_ok hM0.2.2.2.1 hx hk (y:Int)).mono fun e w' q=>?_
 have ho:Only (mfoot M) w w':=(h0.mono (fun x _ q=>q.elim)).trans' q.2.2 (fun x _ q=>.inr (.inr (.inr (.inl q))))
 refine ⟨q.1,?_,h.only ho (fun x hx q=>h.far hM hx q),ho⟩
 rw [lnk_eq hM.2.2.2.1.room.2 hk]
 exact hM0.arena q.2.1 q.2.2
theorem PlAt.tail {A:Option Addr} {e0:El} {es:List El} {b0 o0:Nat} (hA:A=some ⟨b0,o0,none⟩) (h:PlAt w A (e0::es)):PlAt w (some ⟨b0,o0+1,none⟩) es:=by
 rcases h with h | ⟨b,o,cs,h1,h2,h3⟩
 · simp at h
 · rw [hA] at h1
   injection h1 with h1
   injection h1 with h1 h4
   subst h1; subst h4
   refine .inr ⟨b0,o0+1,cs,rfl,h2,fun i hi=>?_⟩
   have:=h3 (i+1) (by simp; omega)
   rw [Nat.add_assoc,Nat.add_comm 1 i,this]
   simp [nel]
theorem LkAt.tail {e0:El} {p:Nat×Nat} {ls:List (Nat×Nat)} {b o:Nat} (hA:e0.A=some ⟨b,o,none⟩) (h:LkAt w e0 (p::ls)) (hl:ls≠[]):LkAt w ⟨some ⟨b,o+2,none⟩,e0.n-1,e0.cap-1⟩ ls:=by
 obtain ⟨h1,h2,h3,b',o',cs,h4,h5,h6⟩:=h
 rw [hA] at h4
 injection h4 with h4
 injection h4 with h4 h7
 subst h4; subst h7
 refine ⟨by simp [h1],hl,⟨by simp; omega,by simp; omega⟩,b,o+2,cs,rfl,h5,fun i hi=>?_⟩
 have:=h6 (i+1) (by simp; omega)
 rw [show o+2+i*2=o+(i+1)*2 by omega]
 simpa [nlk] using this
structure Parted (w w2:World) (a:Gl) (b0 o0:Nat) (es:List El) (t lat:List (List (Nat×Nat))) (QA:Option Addr) (qcap:Nat) (qs:List El):Prop where
 eps:Each w2 es t
 pl:PlAt w2 (some ⟨b0,o0+1,none⟩) es
 eqs:Each w2 qs lat
 qr:PsRow w2 QA qcap qs
 pq:es≠[]→∀ x,In QA x→x≠b0
 fq:∀ x,In QA x→rfoot a false x∨w.heap.size≤x
 fs:∀ e∈qs,∀ x,In e.A x→rfoot a false x
theorem Parted.only {w2 w3:World} {b0 o0:Nat} {es:List El} {t lat:List (List (Nat×Nat))} {QA:Option Addr} {qcap:Nat} {qs:List El} (h:Parted w w2 a b0 o0 es t lat QA qcap qs) (hO:Only (·=a.f) w2 w3) (hf:∃ cs,Blk w2 a.f 175 cs):Parted w w3 a b0 o0 es t lat QA qcap qs:=by
 obtain ⟨cs,hB⟩:=hf
 have hn:∀ {x:Nat} {ts:List TypeId},Ty w2 x ts→(∀ t∈ts,t∉[175])→¬x=a.f:=fun hx hd e=>hx.apart (e▸blk_ty hB:Ty w2 _ [175]) hd
 refine ⟨h.eps.only hO fun e he x hx=>hn (h.eps.ty e he x hx) (by decide),?_,h.eqs.only hO fun e he x hx=>hn (h.eqs.ty e he x hx) (by decide),h.qr.only hO fun x hx=>hn (row_ty h.qr hx) (by decide),h.pq,h.fq,h.fs⟩
 rcases h.pl with q | ⟨b,o,cs',h1,h2,h3⟩
 · exact .inl q
 · exact .inr ⟨b,o,cs',h1,h2.only hO (hn (blk_ty h2) (by decide)),h3⟩
theorem Parted.more {w2 w3:World} {M':Mo} {b0 o0 pc:Nat} {e0:El} {es:List El} {t lat:List (List (Nat×Nat))} {QA:Option Addr} {qcap:Nat} {qs:List El} (h:Parted w w2 a b0 o0 es t lat QA qcap qs) (hps:a.ps=e0::es) (hPA:a.PA=some ⟨b0,o0,none⟩) (hpc:es.length≤pc∧pc≤maxLen) (h8:G.nx=8)
 (ht:t≠[]) (hM:MemAt w3 M') (hK:Kin w M M') (hB:Own w3 {a with PA:=some ⟨b0,o0+1,none⟩,pcap:=pc,ps:=es,QA:=QA,qcap:=qcap,qs:=qs} {G with pass:=t,later:=lat}) (hO:Only (fun x=>mfoot M x∨gfoot a G x) w w3) (hf:∃ cs,Blk w2 a.f 175 cs) (hO2:Only (·=a.f) w2 w3):
 grL.Stp w M a G (lm M') {G with pass:=t,later:=lat} w3:=by
 have h3:=h.only hO2 hf
 have hes:es≠[]:=fun e=>ht (by
  have:=h.eps.len
  rw [e] at this
  exact List.eq_nil_of_length_eq_zero this.symm)
 refine ⟨M',{a with PA:=some ⟨b0,o0+1,none⟩,pcap:=pc,ps:=es,QA:=QA,qcap:=qcap,qs:=qs},hM,rfl,hK,⟨hB,fun q=>by simp only at q; omega,fun q=>by simp only at q; omega,fun q=>by simp only at q; omega,?_⟩,rfl,?_,hO⟩
 · show Rws w3 _ t lat (decide (G.nx≤6))
   rw [h8]
   exact ⟨h3.eps,h3.eqs,fun q=>by simp at q,h3.pl,hpc,h3.qr,fun x hx _ hq=>h.pq hes x hq (by simpa [In] using hx.symm)⟩
 · have hr:∀ x,rfoot {a with PA:=some ⟨b0,o0+1,none⟩,pcap:=pc,ps:=es,QA:=QA,qcap:=qcap,qs:=qs} false x→rfoot a false x∨w.heap.size≤x:=by
    rintro x (⟨_,hx⟩ | hx | ⟨e,he,hx⟩ | ⟨e,he,hx⟩)
    · refine .inl (.inl ⟨.inl (by rw [hps]; simp),?_⟩)
      rw [hPA]
      exact hx
    · exact h.fq x hx
    · exact .inl (.inr (.inr (.inl ⟨e,by rw [hps]; exact List.mem_cons_of_mem _ he,hx⟩)))
    · exact .inl (h.fs e he x hx)
   rintro x (hx | ⟨q,_⟩ | ⟨q,_⟩ | ⟨q,_⟩ | hx)
   · exact .inl (.inl hx)
   · simp only at q; omega
   · simp only at q; omega
   · simp only at q; omega
   · have hx:rfoot {a with PA:=some ⟨b0,o0+1,none⟩,pcap:=pc,ps:=es,QA:=QA,qcap:=qcap,qs:=qs} (decide (G.nx≤6)) x:=hx
     rw [h8] at hx
     refine (hr x hx).imp (fun q=>.inr (.inr (.inr (.inr ?_)))) id
     rw [h8]
     exact q
theorem Parted.last {w2 w4:World} {M':Mo} {b0 o0 b:Nat} {lat:List (List (Nat×Nat))} {QA:Option Addr} {qcap:Nat} {qs:List El} {t:List (List (Nat×Nat))} {es:List El} (h:Parted w w2 a b0 o0 es t lat QA qcap qs) (h8:G.nx=8)
 (hM:MemAt w4 M') (hK:Kin w M M') (hB:Own w4 {a with PA:=QA,pcap:=qcap,ps:=qs,QA:=none,qcap:=0,qs:=[],wv:=ptr b,w:=b} {G with pass:=lat,later:=[],nx:=7}) (hW:WtAt w4 b ⟨G.worker,0,0,0⟩) (hb:w.heap.size≤b)
 (hO:Only (fun x=>mfoot M x∨gfoot a G x) w w4) (hf:∃ cs,Blk w2 a.f 175 cs) (hO2:Only (·=a.f) w2 w4):grL.Stp w M a G (lm M') (waitNew {G with pass:=lat,later:=[]}) w4:=by
 have h3:=h.only hO2 hf
 refine ⟨M',_,hM,rfl,hK,⟨hB,fun q=>by simp [waitNew] at q,fun q=>by simp [waitNew] at q,fun _=>⟨rfl,hW⟩,?_⟩,rfl,?_,hO⟩
 · exact ⟨h3.eqs,.nil,fun q=>by simp [waitNew] at q,h3.qr.pl,h3.qr.capLe,Row.nil _ _ _ _,fun x _ _ q=>by simp [In] at q⟩
 · rintro x (hx | ⟨q,_⟩ | ⟨q,_⟩ | ⟨_,rfl⟩ | hx)
   · exact .inl (.inl hx)
   · simp [waitNew] at q
   · simp [waitNew] at q
   · exact .inr hb
   · have hr:rfoot a false x∨w.heap.size≤x:=by
      rcases hx with ⟨_,hx⟩ | hx | ⟨e,he,hx⟩ | ⟨e,he,hx⟩
      · exact h.fq x hx
      · simp [In] at hx
      · exact .inl (h.fs e he x hx)
      · simp at he
     refine hr.imp (fun q=>.inr (.inr (.inr (.inr ?_)))) id
     rw [h8]
     exact q
theorem GrAt.parted {w1:World} (h:GrAt w1 a G) {b0 o0:Nat} {e0:El} {es:List El} {l0:List (Nat×Nat)} {t:List (List (Nat×Nat))} (hps:a.ps=e0::es) (hp:G.pass=l0::t) (hPA:a.PA=some ⟨b0,o0,none⟩):Parted w w1 a b0 o0 es t G.later a.QA a.qcap a.qs:=by
 have h1:=h.rw_.ps
 have h2:=h.rw_.pl
 rw [hps] at h1 h2
 rw [hp] at h1
 cases h1 with
 | cons _ hes=>
   refine ⟨hes,h2.tail hPA,h.rw_.qs,h.rw_.qr,fun _ x hx e=>?_,fun x hx=>.inl (.inr (.inl hx)),fun e he x hx=>.inr (.inr (.inr ⟨e,he,hx⟩))⟩
   subst e
   exact h.rw_.pq x (by rw [hPA]; rfl) (.inl (by rw [hps]; simp)) hx
theorem Parted.grown {w2 w3:World} {b0 o0:Nat} {es:List El} {t lat:List (List (Nat×Nat))} {QA QA2:Option Addr} {qcap cap2:Nat} {qs:List El} {el:El} {ls:List (Nat×Nat)} (h:Parted w w2 a b0 o0 es t lat QA qcap qs) (hL:LkAt w2 el ls) (hel:∀ x,In el.A x→rfoot a false x)
 (hR:PsRow w3 QA2 cap2 (qs++[el])) (hO:Only (In QA) w2 w3) (hA:∀ x,In QA2 x→In QA x∨w2.heap.size≤x) (hs:w.heap.size≤w2.heap.size):Parted w w3 a b0 o0 es t (lat++[ls]) QA2 cap2 (qs++[el]):=by
 have hn:∀ {x:Nat},Ty w2 x [249]→¬In QA x:=fun hx q=>hx.apart (row_ty h.qr q) (by decide)
 refine ⟨h.eps.only hO fun e he x hx=>hn (h.eps.ty e he x hx),?_,(h.eqs.only hO fun e he x hx=>hn (h.eqs.ty e he x hx)).snoc (hL.only hO fun x hx=>hn (hL.ty hx)),hR,fun hes x hx e=>?_,fun x hx=>?_,fun e he x hx=>?_⟩
 · by_cases h0:es=[]
   · exact .inl h0
   · exact h.pl.only hO fun x hx q=>h.pq h0 x q (by simpa [In] using hx.symm)
 · rcases hA x hx with q | q
   · exact h.pq hes x q e
   · rcases h.pl with z | ⟨b,o,cs,h1,h2,_⟩
     · exact hes z
     · injection h1 with h1
       injection h1 with h1 _
       have:=h2.lt
       omega
 · rcases hA x hx with q | q
   · exact h.fq x q
   · exact .inr (by omega)
 · rcases List.mem_append.1 he with q | q
   · exact h.fs e q x hx
   · have:e=el:=by simpa using q
     subst this
     exact hel x hx
set_option maxHeartbeats 4000000 in
theorem part_none_more (hM:MemAt w M) (h:GrAt w a G) (h8:G.nx=8) {x y k:Nat} {t:List (List (Nat×Nat))} (hp:G.pass=[(x,y)]::t) (ht:t≠[]) (hlen:G.later.length≤100000) (hx:x≤18446744073709551615) (hk:IsAt M.ss x k):
 Calls Tryz.prog 221 #[ptr a.f,ptr M.m] w fun e w'=>e=.returned (.bool false)∧grL.Stp w M a G {lm M with ss:=Pu.lnk M.ss x y} ({G with pass:=t}) w':=by
 have hLk:=Lib.hid (linked_any hM h hx hk y)
 have HM:=Lib.hid hM
 have HG:=Lib.hid h
 have c14:=h.blk.cell 14
 simp only [grc,List.getElem?_toArray,List.getElem?_cons_succ,List.getElem?_cons_zero] at c14
 have hps:=h.rw_.ps
 have hpl:=h.rw_.pl
 have hpc:=h.rw_.pc
 rw [hp] at hps
 generalize hqs:a.ps=ps at*
 cases hps with
 | @cons e0 _ es _ hL0 hes=>
 have hL00:=Lib.hid hL0
 obtain ⟨n0,hne0,hc0,b,o,cs,hA,hB,hcs⟩:=hL0
 rcases hpl with q | ⟨b0,o0,cs0,hPA,hB0,hcs0⟩
 · simp at q
 have i0:=hcs0 0 (by simp)
 have i1:=(hcs 0 (by simp)).1
 have i2:=(hcs 0 (by simp)).2
 rw [← hB0.cell] at i0
 rw [← hB.cell] at i1 i2
 simp only [nel,nlk,List.getD_cons_zero,Nat.add_zero,Nat.zero_mul,hA] at i0 i1 i2
 rw [hPA] at c14
 have d2:=hM.hd.2.2.1
 simp only [List.length_cons,maxLen] at c14 hpc
 have hel:es.length=t.length:=hes.len
 obtain ⟨m,hm⟩:∃ m,m=es.length:=⟨_,rfl⟩
 rw [← hm] at c14 hpc hel
 have hpcm:=Lib.hid (show es.length≤a.pcap-1∧a.pcap-1≤maxLen by simp only [maxLen]; omega)
 simp only [List.length_singleton] at n0
 rw [n0] at i0 hc0
 have hen:0<m:=by rw [hel]; exact List.length_pos_iff.2 ht
 have hpc1:¬a.pcap=1:=by omega
 replace hm:=Lib.hid hm
 simp only [maxLen] at hc0
 have hqs':=Lib.hid hqs
 have hPA':=Lib.hid hPA
 have hA':=Lib.hid hA
 replace h8:=Lib.hid h8
 replace hp:=Lib.hid hp
 replace ht:=Lib.hid ht
 obtain ⟨ec,hecc⟩:∃ n,n=e0.cap:=⟨_,rfl⟩
 obtain ⟨pc,hpcc⟩:∃ n,n=a.pcap:=⟨_,rfl⟩
 rw [← hecc] at i0 hc0
 rw [← hpcc] at c14 hpc hpc1
 rw [← hpcc] at hpcm
 replace hecc:=Lib.hid hecc
 replace hpcc:=Lib.hid hpcc
 replace n0:=Lib.hid n0
 clear hM h hk hx hcs hcs0 hB hB0 hqs hes hA hPA hne0 hel
 go_enter Tryz.func221,Tryz.ntmps221
 go_upto_region 2 with (fail)
 go_region_held3 (fun w'=>w'.cell? ⟨M.m,2,none⟩=some (ptr M.ar)∧w'.cell? ⟨b,o,none⟩=some (.int .u64 x)∧w'.cell? ⟨b,o+1,none⟩=some (.int .u64 y)) (go_keep)
  (first
    | (go_at_call 166
       refine (hLk.out (w.drewN 1) ((Only.refl (fun _=>False) w).drewN 1)).mono ?_
       rintro e w1 ⟨rfl,hM1,hG1,hOw⟩
       have hbin:¬mfoot M b:=fun q=>HG.out.far HM.out (x:=b) (.inr (.inr (.inr (.inr (.inr (.inr (.inl ⟨e0,by rw [hqs'.out]; simp,by rw [hA'.out]; rfl⟩))))))) q
       have p1:=(Only.cell hOw (p:=⟨b,o,none⟩) (World.block_lt_of_cell? w _ i1) hbin).trans i1
       have p2:=(Only.cell hOw (p:=⟨b,o+1,none⟩) (World.block_lt_of_cell? w _ i2) hbin).trans i2
       have p00:=hM1.hd.2.2.1
       have r14:=hG1.blk.cell 14
       have r15:=hG1.blk.cell 15
       have z14:=hG1.blk.frozen 14
       have z15:=hG1.blk.frozen 15
       simp only [grc,List.getElem?_toArray,List.getElem?_cons_succ,List.getElem?_cons_zero,hqs'.out,hPA'.out,List.length_cons] at r14 r15
       rw [← hpcc.out,← hm.out] at r14
       have hPt:=Lib.hid (hG1.parted (w:=w) hqs'.out hp.out hPA'.out)
       replace hM1:=Lib.hid hM1
       replace hG1:=Lib.hid hG1
       replace hOw:=Lib.hid hOw
       clear hLk hbin))
 clear p1 p2 p00 i0 i1 i2 d2 c14
 have hB2:Own (w1.setCell ⟨a.f,14,none⟩ (.slice (some ⟨b0,o0+1,none⟩) m (pc-1))) {a with PA:=some ⟨b0,o0+1,none⟩,pcap:=pc-1,ps:=es,QA:=a.QA,qcap:=a.qcap,qs:=a.qs} {G with pass:=t,later:=G.later}:=by
  have:=hG1.out.blk.store 14 (.slice (some ⟨b0,o0+1,none⟩) m (pc-1))
  rw [hm.out] at this ⊢
  exact this
 have hO2:=(Only.refl (·=a.f) w1).setCell (p:=⟨a.f,14,none⟩) (.inl rfl) (.slice (some ⟨b0,o0+1,none⟩) m (pc-1))
 have hE:=Lib.hid (hPt.out.more hqs'.out hPA'.out hpcm.out h8.out ht.out (hM1.out.only hO2 (fun x hx e=>hG1.out.far hM1.out (x:=a.f) (.inl rfl) (e▸hx))) (M:=M) (M':={M with ss:=Pu.lnk M.ss x y}) ⟨rfl,rfl,rfl,rfl,fun x q=>.inl q⟩ hB2 ((hOw.out.mono (fun x _ q=>(.inl q:mfoot M x∨gfoot a G x))).trans' hO2 (fun x _ q=>.inr (.inl q))) ⟨_,hG1.out.blk⟩ hO2)
 clear hB2 hO2 hPt
 go_wp2_with fail
 go_ret
 exact ⟨rfl,hE.out⟩
set_option maxHeartbeats 4000000 in
theorem part_none_last (hM:MemAt w M) (h:GrAt w a G) (h8:G.nx=8) {x y k:Nat} {t:List (List (Nat×Nat))} (hp:G.pass=[(x,y)]::t) (ht:t=[]) (hpc1:¬a.pcap=1) (hlen:G.later.length≤100000) (hx:x≤18446744073709551615) (hk:IsAt M.ss x k):
 Calls Tryz.prog 221 #[ptr a.f,ptr M.m] w fun e w'=>e=.returned (.bool false)∧grL.Stp w M a G {lm M with ss:=Pu.lnk M.ss x y} (waitNew {G with pass:=G.later,later:=[]}) w':=by
 have hLk:=Lib.hid (linked_any hM h hx hk y)
 have HM:=Lib.hid hM
 have HG:=Lib.hid h
 have c14:=h.blk.cell 14
 simp only [grc,List.getElem?_toArray,List.getElem?_cons_succ,List.getElem?_cons_zero] at c14
 have hps:=h.rw_.ps
 have hpl:=h.rw_.pl
 have hpc:=h.rw_.pc
 rw [hp] at hps
 generalize hqs:a.ps=ps at*
 cases hps with
 | @cons e0 _ es _ hL0 hes=>
 have hL00:=Lib.hid hL0
 obtain ⟨n0,hne0,hc0,b,o,cs,hA,hB,hcs⟩:=hL0
 rcases hpl with q | ⟨b0,o0,cs0,hPA,hB0,hcs0⟩
 · simp at q
 have i0:=hcs0 0 (by simp)
 have i1:=(hcs 0 (by simp)).1
 have i2:=(hcs 0 (by simp)).2
 rw [← hB0.cell] at i0
 rw [← hB.cell] at i1 i2
 simp only [nel,nlk,List.getD_cons_zero,Nat.add_zero,Nat.zero_mul,hA] at i0 i1 i2
 rw [hPA] at c14
 have d2:=hM.hd.2.2.1
 simp only [List.length_cons,maxLen] at c14 hpc
 have hel:es.length=t.length:=hes.len
 obtain ⟨m,hm⟩:∃ m,m=es.length:=⟨_,rfl⟩
 rw [← hm] at c14 hpc hel
 have hpcm:=Lib.hid (show es.length≤a.pcap-1∧a.pcap-1≤maxLen by simp only [maxLen]; omega)
 simp only [List.length_singleton] at n0
 rw [n0] at i0 hc0
 have hen:m=0:=by rw [hel,ht]; rfl
 subst hen
 replace hm:=Lib.hid hm
 simp only [maxLen] at hc0
 have hqs':=Lib.hid hqs
 have hPA':=Lib.hid hPA
 have hA':=Lib.hid hA
 replace h8:=Lib.hid h8
 replace hp:=Lib.hid hp
 replace ht:=Lib.hid ht
 obtain ⟨ec,hecc⟩:∃ n,n=e0.cap:=⟨_,rfl⟩
 obtain ⟨pc,hpcc⟩:∃ n,n=a.pcap:=⟨_,rfl⟩
 rw [← hecc] at i0 hc0
 rw [← hpcc] at c14 hpc hpc1
 rw [← hpcc] at hpcm
 replace hecc:=Lib.hid hecc
 replace hpcc:=Lib.hid hpcc
 replace n0:=Lib.hid n0
 clear hM h hk hx hcs hcs0 hB hB0 hqs hes hA hPA hne0 hel
 go_enter Tryz.func221,Tryz.ntmps221
 go_upto_region 2 with (fail)
 go_region_held3 (fun w'=>w'.cell? ⟨M.m,2,none⟩=some (ptr M.ar)∧w'.cell? ⟨b,o,none⟩=some (.int .u64 x)∧w'.cell? ⟨b,o+1,none⟩=some (.int .u64 y)) (go_keep)
  (first
    | (go_at_call 166
       refine (hLk.out (w.drewN 1) ((Only.refl (fun _=>False) w).drewN 1)).mono ?_
       rintro e w1 ⟨rfl,hM1,hG1,hOw⟩
       have hbin:¬mfoot M b:=fun q=>HG.out.far HM.out (x:=b) (.inr (.inr (.inr (.inr (.inr (.inr (.inl ⟨e0,by rw [hqs'.out]; simp,by rw [hA'.out]; rfl⟩))))))) q
       have p1:=(Only.cell hOw (p:=⟨b,o,none⟩) (World.block_lt_of_cell? w _ i1) hbin).trans i1
       have p2:=(Only.cell hOw (p:=⟨b,o+1,none⟩) (World.block_lt_of_cell? w _ i2) hbin).trans i2
       have p00:=hM1.hd.2.2.1
       have r14:=hG1.blk.cell 14
       have r15:=hG1.blk.cell 15
       have z14:=hG1.blk.frozen 14
       have z15:=hG1.blk.frozen 15
       simp only [grc,List.getElem?_toArray,List.getElem?_cons_succ,List.getElem?_cons_zero,hqs'.out,hPA'.out,List.length_cons] at r14 r15
       rw [← hpcc.out,← hm.out] at r14
       have hPt:=Lib.hid (hG1.parted (w:=w) hqs'.out hp.out hPA'.out)
       replace hM1:=Lib.hid hM1
       replace hG1:=Lib.hid hG1
       replace hOw:=Lib.hid hOw
       clear hLk hbin))
 clear p1 p2 p00 i0 i1 i2 d2 c14
 have hB3:Own (((w1.setCell ⟨a.f,14,none⟩ (.slice (some ⟨b0,o0+1,none⟩) 0 (pc-1))).setCell ⟨a.f,14,none⟩ (.slice a.QA a.qs.length a.qcap)).setCell ⟨a.f,15,none⟩ (.slice none 0 0)) {a with PA:=a.QA,pcap:=a.qcap,ps:=a.qs,QA:=none,qcap:=0,qs:=[]} {G with pass:=G.later,later:=[]}:=((hG1.out.blk.store 14 (.slice (some ⟨b0,o0+1,none⟩) 0 (pc-1))).store 14 (.slice a.QA a.qs.length a.qcap)).store 15 (.slice none 0 0)
 have hO3:=only3 (c:=a.f) w1 14 14 15 (.slice (some ⟨b0,o0+1,none⟩) 0 (pc-1)) (.slice a.QA a.qs.length a.qcap) (.slice none 0 0)
 have hWA:=Lib.hid (waitAnew_any hB3)
 replace hO3:=Lib.hid hO3
 clear hB3
 go_wp2_with fail
 refine hWA.out.mono ?_
 rintro e w4 ⟨b4,rfl,hB4,hW4,hlb,hO4⟩
 have hE:Hid (grL.Stp w M a G {lm M with ss:=Pu.lnk M.ss x y} (waitNew {G with pass:=G.later,later:=[]}) w4):=Lib.hid (by
  have hOO:=hO3.out.trans hO4
  have hs:=hOw.out.size
  have hs3:=hO3.out.size
  exact hPt.out.last h8.out (M:=M) (M':={M with ss:=Pu.lnk M.ss x y}) (hM1.out.only hOO (fun x hx e=>hG1.out.far hM1.out (x:=a.f) (.inl rfl) (e▸hx))) ⟨rfl,rfl,rfl,rfl,fun x q=>.inl q⟩ hB4 hW4 (Nat.le_trans hs (Nat.le_trans hs3 hlb)) ((hOw.out.mono (fun x _ q=>(.inl q:mfoot M x∨gfoot a G x))).trans' hOO (fun x _ q=>.inr (.inl q))) ⟨_,hG1.out.blk⟩ hOO)
 clear hB4 hW4 hlb hO4 hWA hPt hO3
 go_wp2_with fail
 go_ret
 exact ⟨rfl,hE.out⟩
set_option maxHeartbeats 4000000 in
theorem part_none_only (hM:MemAt w M) (h:GrAt w a G) (h8:G.nx=8) {x y k:Nat} {t:List (List (Nat×Nat))} (hp:G.pass=[(x,y)]::t) (ht:t=[]) (hpc1:a.pcap=1) (hlen:G.later.length≤100000) (hx:x≤18446744073709551615) (hk:IsAt M.ss x k):
 Calls Tryz.prog 221 #[ptr a.f,ptr M.m] w fun e w'=>e=.returned (.bool false)∧grL.Stp w M a G {lm M with ss:=Pu.lnk M.ss x y} (waitNew {G with pass:=G.later,later:=[]}) w':=by
 have hLk:=Lib.hid (linked_any hM h hx hk y)
 have HM:=Lib.hid hM
 have HG:=Lib.hid h
 have c14:=h.blk.cell 14
 simp only [grc,List.getElem?_toArray,List.getElem?_cons_succ,List.getElem?_cons_zero] at c14
 have hps:=h.rw_.ps
 have hpl:=h.rw_.pl
 have hpc:=h.rw_.pc
 rw [hp] at hps
 generalize hqs:a.ps=ps at*
 cases hps with
 | @cons e0 _ es _ hL0 hes=>
 have hL00:=Lib.hid hL0
 obtain ⟨n0,hne0,hc0,b,o,cs,hA,hB,hcs⟩:=hL0
 rcases hpl with q | ⟨b0,o0,cs0,hPA,hB0,hcs0⟩
 · simp at q
 have i0:=hcs0 0 (by simp)
 have i1:=(hcs 0 (by simp)).1
 have i2:=(hcs 0 (by simp)).2
 rw [← hB0.cell] at i0
 rw [← hB.cell] at i1 i2
 simp only [nel,nlk,List.getD_cons_zero,Nat.add_zero,Nat.zero_mul,hA] at i0 i1 i2
 rw [hPA] at c14
 have d2:=hM.hd.2.2.1
 simp only [List.length_cons,maxLen] at c14 hpc
 have hel:es.length=t.length:=hes.len
 obtain ⟨m,hm⟩:∃ m,m=es.length:=⟨_,rfl⟩
 rw [← hm] at c14 hpc hel
 have hpcm:=Lib.hid (show es.length≤a.pcap-1∧a.pcap-1≤maxLen by simp only [maxLen]; omega)
 simp only [List.length_singleton] at n0
 rw [n0] at i0 hc0
 have hen:m=0:=by rw [hel,ht]; rfl
 subst hen
 replace hm:=Lib.hid hm
 simp only [maxLen] at hc0
 have hqs':=Lib.hid hqs
 have hPA':=Lib.hid hPA
 have hA':=Lib.hid hA
 replace h8:=Lib.hid h8
 replace hp:=Lib.hid hp
 replace ht:=Lib.hid ht
 obtain ⟨ec,hecc⟩:∃ n,n=e0.cap:=⟨_,rfl⟩
 obtain ⟨pc,hpcc⟩:∃ n,n=a.pcap:=⟨_,rfl⟩
 rw [← hecc] at i0 hc0
 rw [← hpcc] at c14 hpc hpc1
 subst hpc1
 rw [← hpcc] at hpcm
 replace hecc:=Lib.hid hecc
 replace hpcc:=Lib.hid hpcc
 replace n0:=Lib.hid n0
 clear hM h hk hx hcs hcs0 hB hB0 hqs hes hA hPA hne0 hel
 go_enter Tryz.func221,Tryz.ntmps221
 go_upto_region 2 with (fail)
 go_region_held3 (fun w'=>w'.cell? ⟨M.m,2,none⟩=some (ptr M.ar)∧w'.cell? ⟨b,o,none⟩=some (.int .u64 x)∧w'.cell? ⟨b,o+1,none⟩=some (.int .u64 y)) (go_keep)
  (first
    | (go_at_call 166
       refine (hLk.out (w.drewN 1) ((Only.refl (fun _=>False) w).drewN 1)).mono ?_
       rintro e w1 ⟨rfl,hM1,hG1,hOw⟩
       have hbin:¬mfoot M b:=fun q=>HG.out.far HM.out (x:=b) (.inr (.inr (.inr (.inr (.inr (.inr (.inl ⟨e0,by rw [hqs'.out]; simp,by rw [hA'.out]; rfl⟩))))))) q
       have p1:=(Only.cell hOw (p:=⟨b,o,none⟩) (World.block_lt_of_cell? w _ i1) hbin).trans i1
       have p2:=(Only.cell hOw (p:=⟨b,o+1,none⟩) (World.block_lt_of_cell? w _ i2) hbin).trans i2
       have p00:=hM1.hd.2.2.1
       have r14:=hG1.blk.cell 14
       have r15:=hG1.blk.cell 15
       have z14:=hG1.blk.frozen 14
       have z15:=hG1.blk.frozen 15
       simp only [grc,List.getElem?_toArray,List.getElem?_cons_succ,List.getElem?_cons_zero,hqs'.out,hPA'.out,List.length_cons] at r14 r15
       rw [← hpcc.out,← hm.out] at r14
       have hPt:=Lib.hid (hG1.parted (w:=w) hqs'.out hp.out hPA'.out)
       replace hM1:=Lib.hid hM1
       replace hG1:=Lib.hid hG1
       replace hOw:=Lib.hid hOw
       clear hLk hbin))
 clear p1 p2 p00 i0 i1 i2 d2 c14
 have hB3:Own (((w1.setCell ⟨a.f,14,none⟩ (.slice (some ⟨b0,o0,none⟩) 0 0)).setCell ⟨a.f,14,none⟩ (.slice a.QA a.qs.length a.qcap)).setCell ⟨a.f,15,none⟩ (.slice none 0 0)) {a with PA:=a.QA,pcap:=a.qcap,ps:=a.qs,QA:=none,qcap:=0,qs:=[]} {G with pass:=G.later,later:=[]}:=((hG1.out.blk.store 14 (.slice (some ⟨b0,o0,none⟩) 0 0)).store 14 (.slice a.QA a.qs.length a.qcap)).store 15 (.slice none 0 0)
 have hO3:=only3 (c:=a.f) w1 14 14 15 (.slice (some ⟨b0,o0,none⟩) 0 0) (.slice a.QA a.qs.length a.qcap) (.slice none 0 0)
 have hWA:=Lib.hid (waitAnew_any hB3)
 replace hO3:=Lib.hid hO3
 clear hB3
 go_wp2_with fail
 refine hWA.out.mono ?_
 rintro e w4 ⟨b4,rfl,hB4,hW4,hlb,hO4⟩
 have hE:Hid (grL.Stp w M a G {lm M with ss:=Pu.lnk M.ss x y} (waitNew {G with pass:=G.later,later:=[]}) w4):=Lib.hid (by
  have hOO:=hO3.out.trans hO4
  have hs:=hOw.out.size
  have hs3:=hO3.out.size
  exact hPt.out.last h8.out (M:=M) (M':={M with ss:=Pu.lnk M.ss x y}) (hM1.out.only hOO (fun x hx e=>hG1.out.far hM1.out (x:=a.f) (.inl rfl) (e▸hx))) ⟨rfl,rfl,rfl,rfl,fun x q=>.inl q⟩ hB4 hW4 (Nat.le_trans hs (Nat.le_trans hs3 hlb)) ((hOw.out.mono (fun x _ q=>(.inl q:mfoot M x∨gfoot a G x))).trans' hOO (fun x _ q=>.inr (.inl q))) ⟨_,hG1.out.blk⟩ hOO)
 clear hB4 hW4 hlb hO4 hWA hPt hO3
 go_wp2_with fail
 go_ret
 exact ⟨rfl,hE.out⟩
set_option maxHeartbeats 4000000 in
theorem part_link_more (hM:MemAt w M) (h:GrAt w a G) (h8:G.nx=8) {x y k:Nat} {ls:List (Nat×Nat)} {t:List (List (Nat×Nat))} (hp:G.pass=((x,y)::ls)::t) (hls:ls≠[]) (ht:t≠[]) (hlen:G.later.length≤100000) (hx:x≤18446744073709551615) (hk:IsAt M.ss x k):
 Calls Tryz.prog 221 #[ptr a.f,ptr M.m] w fun e w'=>e=.returned (.bool false)∧grL.Stp w M a G {lm M with ss:=Pu.lnk M.ss x y} ({G with pass:=t,later:=G.later++[ls]}) w':=by
 have hLk:=Lib.hid (linked_any hM h hx hk y)
 have HM:=Lib.hid hM
 have HG:=Lib.hid h
 have c14:=h.blk.cell 14
 simp only [grc,List.getElem?_toArray,List.getElem?_cons_succ,List.getElem?_cons_zero] at c14
 have hps:=h.rw_.ps
 have hpl:=h.rw_.pl
 have hpc:=h.rw_.pc
 rw [hp] at hps
 generalize hqs:a.ps=ps at*
 cases hps with
 | @cons e0 _ es _ hL0 hes=>
 have hL00:=Lib.hid hL0
 obtain ⟨n0,hne0,hc0,b,o,cs,hA,hB,hcs⟩:=hL0
 rcases hpl with q | ⟨b0,o0,cs0,hPA,hB0,hcs0⟩
 · simp at q
 have i0:=hcs0 0 (by simp)
 have i1:=(hcs 0 (by simp)).1
 have i2:=(hcs 0 (by simp)).2
 rw [← hB0.cell] at i0
 rw [← hB.cell] at i1 i2
 simp only [nel,nlk,List.getD_cons_zero,Nat.add_zero,Nat.zero_mul,hA] at i0 i1 i2
 rw [hPA] at c14
 have d2:=hM.hd.2.2.1
 simp only [List.length_cons,maxLen] at c14 hpc
 have hel:es.length=t.length:=hes.len
 obtain ⟨m,hm⟩:∃ m,m=es.length:=⟨_,rfl⟩
 rw [← hm] at c14 hpc hel
 have hpcm:=Lib.hid (show es.length≤a.pcap-1∧a.pcap-1≤maxLen by simp only [maxLen]; omega)
 have hn0:e0.n=ls.length+1:=by simpa using n0
 have hnp:0<ls.length:=List.length_pos_iff.2 hls
 obtain ⟨n,hn⟩:∃ n,n=ls.length:=⟨_,rfl⟩
 rw [hn0,← hn] at i0 hc0
 rw [← hn] at hnp
 replace hn:=Lib.hid hn
 replace hls:=Lib.hid hls
 have hec1:¬e0.cap=1:=by omega
 have hn1:(1:Int)<(n:Int)+1:=by omega
 have hn3:¬((n:Int)+1<1):=by omega
 have hen:0<m:=by rw [hel]; exact List.length_pos_iff.2 ht
 have hpc1:¬a.pcap=1:=by omega
 replace hm:=Lib.hid hm
 simp only [maxLen] at hc0
 have hqs':=Lib.hid hqs
 have hPA':=Lib.hid hPA
 have hA':=Lib.hid hA
 replace h8:=Lib.hid h8
 replace hp:=Lib.hid hp
 replace ht:=Lib.hid ht
 obtain ⟨ec,hecc⟩:∃ n,n=e0.cap:=⟨_,rfl⟩
 obtain ⟨pc,hpcc⟩:∃ n,n=a.pcap:=⟨_,rfl⟩
 rw [← hecc] at i0 hc0 hec1
 rw [← hpcc] at c14 hpc hpc1
 rw [← hpcc] at hpcm
 replace hecc:=Lib.hid hecc
 replace hpcc:=Lib.hid hpcc
 replace n0:=Lib.hid n0
 clear hM h hk hx hcs hcs0 hB hB0 hqs hes hA hPA hne0 hel
 go_enter Tryz.func221,Tryz.ntmps221
 go_upto_region 2 with (fail)
 go_region_held3 (fun w'=>w'.cell? ⟨M.m,2,none⟩=some (ptr M.ar)∧w'.cell? ⟨b,o,none⟩=some (.int .u64 x)∧w'.cell? ⟨b,o+1,none⟩=some (.int .u64 y)) (go_keep)
  (first
    | (go_at_call 166
       refine (hLk.out (w.drewN 1) ((Only.refl (fun _=>False) w).drewN 1)).mono ?_
       rintro e w1 ⟨rfl,hM1,hG1,hOw⟩
       have hbin:¬mfoot M b:=fun q=>HG.out.far HM.out (x:=b) (.inr (.inr (.inr (.inr (.inr (.inr (.inl ⟨e0,by rw [hqs'.out]; simp,by rw [hA'.out]; rfl⟩))))))) q
       have p1:=(Only.cell hOw (p:=⟨b,o,none⟩) (World.block_lt_of_cell? w _ i1) hbin).trans i1
       have p2:=(Only.cell hOw (p:=⟨b,o+1,none⟩) (World.block_lt_of_cell? w _ i2) hbin).trans i2
       have p00:=hM1.hd.2.2.1
       have r14:=hG1.blk.cell 14
       have r15:=hG1.blk.cell 15
       have z14:=hG1.blk.frozen 14
       have z15:=hG1.blk.frozen 15
       simp only [grc,List.getElem?_toArray,List.getElem?_cons_succ,List.getElem?_cons_zero,hqs'.out,hPA'.out,List.length_cons] at r14 r15
       rw [← hpcc.out,← hm.out] at r14
       have hPt:=Lib.hid (hG1.parted (w:=w) hqs'.out hp.out hPA'.out)
       replace hM1:=Lib.hid hM1
       replace hG1:=Lib.hid hG1
       replace hOw:=Lib.hid hOw
       clear hLk hbin))
 clear p1 p2 p00 i0 i1 i2 d2 c14
 go_upto_region 5 with (fail)
 obtain ⟨w2,hw2⟩:∃ w2,w2=w1.setCell ⟨a.f,14,none⟩ (.slice (some ⟨b0,o0+1,none⟩) m (pc-1)):=⟨_,rfl⟩
 have hB2:Blk w2 a.f 175 ((grc a G).setIfInBounds 14 (.slice (some ⟨b0,o0+1,none⟩) m (pc-1))):=by rw [hw2]; exact hG1.out.blk.store 14 (.slice (some ⟨b0,o0+1,none⟩) m (pc-1))
 have hO2:Only (·=a.f) w1 w2:=by rw [hw2]; exact (Only.refl (·=a.f) w1).setCell (p:=⟨a.f,14,none⟩) (.inl rfl) (.slice (some ⟨b0,o0+1,none⟩) m (pc-1))
 rw [← hw2]
 clear hw2 r14 r15 z14 z15
 have r15:=hB2.cell 15
 simp only [grc,List.setIfInBounds_toArray,List.set_cons_zero,List.set_cons_succ,List.getElem?_toArray,List.getElem?_cons_succ,List.getElem?_cons_zero] at r15
 have hP2:=Lib.hid (hPt.out.only hO2 ⟨_,hG1.out.blk⟩)
 replace hO2:=Lib.hid hO2
 replace hB2:=Lib.hid hB2
 generalize hqn:a.qs.length=qn at*
 replace hqn:=Lib.hid hqn
 have hqb:=Lib.hid (show qn≤100000 by
  have:=hP2.out.eqs.len
  have:=hqn.out
  omega)
 have lf:a.f<w2.drew.heap.size:=hB2.out.lt
 obtain ⟨i0,hi0,hz0,hz1,hz2⟩:=info_parts info_row
 have r0:w2.drew.cell? ⟨a.f,15,none⟩=some (.slice a.QA qn a.qcap):=r15
 refine wp_region_noPanic ?_
 refine Rn.wp_region_N (fun w'=>w'.cell? ⟨a.f,15,none⟩=some (.slice a.QA qn a.qcap)) (fun j=>j==9) (by kernel_rfl) ?_
 refine Rn.wpN_take0 (i:=0) (oi:=⟨some 36,_,_,_,_,_⟩) (v:=ptr a.f) (by rfl) (by kernel_rfl) (by kernel_rfl) (by kernel_rfl) rfl (fun _ _ _ h=>h.elim) (Or.inl ⟨by rfl,by intro w' _; go_simp⟩) r0 ?_
 try simp only [Act.put,List.setIfInBounds_toArray,List.set_cons_zero,List.set_cons_succ]
 refine Rn.wpN_take0 (i:=1) (oi:=⟨some 37,_,_,_,_,_⟩) (v:=ptr a.f) (by rfl) (by kernel_rfl) (by kernel_rfl) (by kernel_rfl) rfl (fun _ _ _ h=>h.elim) (Or.inl ⟨by rfl,by intro w' _; go_simp⟩) r0 ?_
 try simp only [Act.put,List.setIfInBounds_toArray,List.set_cons_zero,List.set_cons_succ]
 refine Rn.wpN_take0 (i:=2) (oi:=⟨some 38,_,_,_,_,_⟩) (v:=.pointer (some ⟨a.f,0,none⟩)) (by rfl) (by kernel_rfl) (by kernel_rfl) (by kernel_rfl) rfl (fun _ _ _ h=>h.elim) (Or.inl ⟨by rfl,by intro w' _; go_simp⟩) r0 ?_
 try simp only [Act.put,List.setIfInBounds_toArray,List.set_cons_zero,List.set_cons_succ]
 refine Rn.wpN_take0 (i:=3) (oi:=⟨some 39,_,_,_,_,_⟩) (v:=.pointer (some ⟨a.f,15,none⟩)) (by rfl) (by kernel_rfl) (by kernel_rfl) (by kernel_rfl) rfl (fun _ _ _ h=>h.elim) (Or.inl ⟨by rfl,by intro w' _; go_simp⟩) r0 ?_
 try simp only [Act.put,List.setIfInBounds_toArray,List.set_cons_zero,List.set_cons_succ]
 refine Rn.wpN_take (i:=4) (oi:=⟨some 40,_,_,_,_,_⟩) (v:=.slice a.QA qn a.qcap) (by rfl) (by kernel_rfl) (by kernel_rfl) (by kernel_rfl) rfl (by intro j hj; rw [show j=9 from by simpa using hj]; kernel_rfl) (fun _ _ _ h=>h.elim) (Or.inl ⟨by rfl,by intro w' hSw; go_simp⟩) r0 ?_
 try simp only [Act.put,List.setIfInBounds_toArray,List.set_cons_zero,List.set_cons_succ]
 refine Rn.wpN_take0 (i:=5) (oi:=⟨some 41,_,_,_,_,_⟩) (v:=.slice (some ⟨b,o,none⟩) (n+1) ec) (by rfl) (by kernel_rfl) (by kernel_rfl) (by kernel_rfl) rfl (fun _ _ _ h=>h.elim) (Or.inl ⟨by rfl,by intro w' _; go_simp⟩) r0 ?_
 try simp only [Act.put,List.setIfInBounds_toArray,List.set_cons_zero,List.set_cons_succ]
 refine Rn.wpN_take0 (i:=6) (oi:=⟨some 42,_,_,_,_,_⟩) (v:=.slice (some ⟨b,o+2,none⟩) n (ec-1)) (by rfl) (by kernel_rfl) (by kernel_rfl) (by kernel_rfl) rfl (fun _ _ _ h=>h.elim) (Or.inl ⟨by rfl,by intro w' _; go_simp⟩) r0 ?_
 try simp only [Act.put,List.setIfInBounds_toArray,List.set_cons_zero,List.set_cons_succ]
 refine Rn.wpN_one (i:=7) (o:=⟨some 43,_,_,_,_,_⟩) (by kernel_rfl) (by rfl) rfl ?_
 intro K hK
 go_simp
 have r1:(w2.drew.alloc (.cells #[.slice (some ⟨b,o+2,none⟩) n (ec-1)] 231)).cell? ⟨a.f,15,none⟩=some (.slice a.QA qn a.qcap):=(Only.cell ((Only.refl (fun _=>False) w2.drew).alloc _) (p:=⟨a.f,15,none⟩) lf (by simp)).trans r15
 refine hK _ _ r1 ?_
 clear hK
 try simp only [Act.put,List.setIfInBounds_toArray,List.set_cons_zero,List.set_cons_succ]
 have hO3:Only (fun _=>False) w2 (w2.drew.alloc (.cells #[.slice (some ⟨b,o+2,none⟩) n (ec-1)] 231)):=((Only.refl (fun _=>False) w2).drew).alloc _
 have hP3:=hP2.out.only (hO3.mono (fun x _ q=>q.elim)) ⟨_,hB2.out⟩
 have hB3:=hB2.out.only hO3 (by simp)
 have hN1:=Blk.made w2.drew 231 #[.slice (some ⟨b,o+2,none⟩) n (ec-1)]
 have hL3:LkAt (w2.drew.alloc (.cells #[.slice (some ⟨b,o+2,none⟩) n (ec-1)] 231)) ⟨some ⟨b,o+2,none⟩,n,ec-1⟩ ls:=by
  have hb0:=hL00.out
  have h1:LkAt w1 e0 ((x,y)::ls):=hb0.only hOw.out (fun z hz q=>HG.out.far HM.out (x:=z) (.inr (.inr (.inr (.inr (.inr (.inr (.inl ⟨e0,by rw [hqs'.out]; simp,hz⟩))))))) q)
  have h2:=(h1.only hO2.out (fun z hz e=>(h1.ty hz).apart (e▸blk_ty hG1.out.blk:Ty w1 z [175]) (by decide))).only hO3 (by simp)
  have h3:=h2.tail hA'.out hls.out
  rw [← hecc.out] at h3
  have h4:e0.n-1=n:=by have:=n0.out; rw [this,hn.out]; simp
  rw [h4] at h3
  exact h3
 obtain ⟨A2,cap2,w4,hrun,hR4,hO4,hA4⟩:=run_one (P:=Tryz.prog) (w2.drew.alloc (.cells #[.slice (some ⟨b,o+2,none⟩) n (ec-1)] 231)) 173 173 231 i0 _ 1 24 Tryz.underlying173 hi0 hz0 hz1 hz2 rfl (by omega) elv elv_len
  (by intro x u hu; simp [elv] at hu; subst hu; rfl) hqn.out hP3.qr ⟨some ⟨b,o+2,none⟩,n,ec-1⟩ ⟨w2.drew.heap.size,0,none⟩ 1 (by
    intro j u hu
    rw [Addr.add_lit,Nat.zero_add,hN1.cell]
    simpa [elv] using hu) (by have:=hqb.out; simp only [maxLen]; omega) (by have:=hqb.out; omega)
 refine Rn.wpN_one (i:=8) (o:=⟨some 44,_,_,_,_,_⟩) (by kernel_rfl) (by rfl) rfl ?_
 intro K hK
 refine step_app rfl (.tmp 40) (.tmp 43) 173 rfl (.slice a.QA qn a.qcap) (.slice (some ⟨w2.drew.heap.size,0,none⟩) 1 1) rfl rfl hrun ?_
 have hfQ:¬In a.QA a.f:=fun q=>(row_ty hP3.qr q).apart (blk_ty hB3) (by decide)
 have hB4:=hB3.only hO4 hfQ
 have r4:=hB4.cell 15
 simp only [grc,List.setIfInBounds_toArray,List.set_cons_zero,List.set_cons_succ,List.getElem?_toArray,List.getElem?_cons_succ,List.getElem?_cons_zero,hqn.out] at r4
 refine hK _ _ r4 ?_
 clear hK
 try simp only [Act.put,List.setIfInBounds_toArray,List.set_cons_zero,List.set_cons_succ]
 refine Rn.wpN_tail 9 (by rfl) (by kernel_rfl) (by rfl) ?_
 dsimp only [List.drop]
 have y15:=hB4.frozen 15
 have y14:=hB4.frozen 14
 have r14:=hB4.cell 14
 simp only [grc,List.setIfInBounds_toArray,List.set_cons_zero,List.set_cons_succ,List.getElem?_toArray,List.getElem?_cons_succ,List.getElem?_cons_zero] at r14
 have hP4:=hP3.grown hL3 (fun z hz=>.inr (.inr (.inl ⟨e0,by rw [hqs'.out]; simp,by rw [hA'.out]; exact hz⟩))) hR4 hO4 hA4 (by
  have h1:=hOw.out.size
  have h2:=hO2.out.size
  have h3:=hO3.size
  omega)
 have hQf:∀ z,In a.QA z→gfoot a G z:=fun z q=>.inr (.inr (.inr (.inr (.inr (.inl q)))))
 have hOq:Only (fun x=>mfoot M x∨gfoot a G x) w w4:=(((hOw.out.mono (fun x _ q=>(.inl q:mfoot M x∨gfoot a G x))).trans' hO2.out (fun x _ q=>.inr (.inl q))).trans' hO3 (fun x _ q=>q.elim)).trans' hO4 (fun x _ q=>.inr (hQf x q))
 have hM4:=((hM1.out.only hO2.out (fun x hx e=>hG1.out.far hM1.out (x:=a.f) (.inl rfl) (e▸hx))).only hO3 (by simp)).only hO4 (fun z hz q=>by
  have:=hP3.qr
  exact hG1.out.far hM1.out (x:=z) (hQf z q) hz)
 have hfar:=Lib.hid (hG1.out.far hM1.out (x:=a.f) (.inl rfl))
 replace hM4:=Lib.hid hM4
 replace hOq:=Lib.hid hOq
 replace hP4:=Lib.hid hP4
 replace hB4:=Lib.hid hB4
 clear r15 lf r0 r1 hO3 hP3 hB3 hN1 hL3 hrun hR4 hO4 hA4 hfQ hQf
 have hB5:Own (w4.setCell ⟨a.f,15,none⟩ (.slice A2 (qn+1) cap2)) {a with PA:=some ⟨b0,o0+1,none⟩,pcap:=pc-1,ps:=es,QA:=A2,qcap:=cap2,qs:=a.qs++[⟨some ⟨b,o+2,none⟩,n,ec-1⟩]} {G with pass:=t,later:=G.later++[ls]}:=by
  have:=hB4.out.store 15 (.slice A2 (qn+1) cap2)
  rw [hm.out] at this
  unfold Own grc
  simp only [List.length_append,List.length_singleton,hqn.out]
  exact this
 have hO5:=(Only.refl (·=a.f) w4).setCell (p:=⟨a.f,15,none⟩) (.inl rfl) (.slice A2 (qn+1) cap2)
 have hE:=Lib.hid (hP4.out.more hqs'.out hPA'.out hpcm.out h8.out ht.out (hM4.out.only hO5 (fun x hx e=>hfar.out (e▸hx))) (M:=M) (M':={M with ss:=Pu.lnk M.ss x y}) ⟨rfl,rfl,rfl,rfl,fun x q=>.inl q⟩ hB5 (hOq.out.trans' hO5 (fun x _ q=>.inr (.inl q))) ⟨_,hB4.out⟩ hO5)
 clear hB5 hO5 hP4
 go_wp2_with fail
 refine NoPanic.normal ?_
 go_wp2_with fail
 go_ret
 exact ⟨rfl,hE.out⟩
set_option maxHeartbeats 4000000 in
theorem part_link_last (hM:MemAt w M) (h:GrAt w a G) (h8:G.nx=8) {x y k:Nat} {ls:List (Nat×Nat)} {t:List (List (Nat×Nat))} (hp:G.pass=((x,y)::ls)::t) (hls:ls≠[]) (ht:t=[]) (hpc1:¬a.pcap=1) (hlen:G.later.length≤100000) (hx:x≤18446744073709551615) (hk:IsAt M.ss x k):
 Calls Tryz.prog 221 #[ptr a.f,ptr M.m] w fun e w'=>e=.returned (.bool false)∧grL.Stp w M a G {lm M with ss:=Pu.lnk M.ss x y} (waitNew {G with pass:=G.later++[ls],later:=[]}) w':=by
 have hLk:=Lib.hid (linked_any hM h hx hk y)
 have HM:=Lib.hid hM
 have HG:=Lib.hid h
 have c14:=h.blk.cell 14
 simp only [grc,List.getElem?_toArray,List.getElem?_cons_succ,List.getElem?_cons_zero] at c14
 have hps:=h.rw_.ps
 have hpl:=h.rw_.pl
 have hpc:=h.rw_.pc
 rw [hp] at hps
 generalize hqs:a.ps=ps at*
 cases hps with
 | @cons e0 _ es _ hL0 hes=>
 have hL00:=Lib.hid hL0
 obtain ⟨n0,hne0,hc0,b,o,cs,hA,hB,hcs⟩:=hL0
 rcases hpl with q | ⟨b0,o0,cs0,hPA,hB0,hcs0⟩
 · simp at q
 have i0:=hcs0 0 (by simp)
 have i1:=(hcs 0 (by simp)).1
 have i2:=(hcs 0 (by simp)).2
 rw [← hB0.cell] at i0
 rw [← hB.cell] at i1 i2
 simp only [nel,nlk,List.getD_cons_zero,Nat.add_zero,Nat.zero_mul,hA] at i0 i1 i2
 rw [hPA] at c14
 have d2:=hM.hd.2.2.1
 simp only [List.length_cons,maxLen] at c14 hpc
 have hel:es.length=t.length:=hes.len
 obtain ⟨m,hm⟩:∃ m,m=es.length:=⟨_,rfl⟩
 rw [← hm] at c14 hpc hel
 have hpcm:=Lib.hid (show es.length≤a.pcap-1∧a.pcap-1≤maxLen by simp only [maxLen]; omega)
 have hn0:e0.n=ls.length+1:=by simpa using n0
 have hnp:0<ls.length:=List.length_pos_iff.2 hls
 obtain ⟨n,hn⟩:∃ n,n=ls.length:=⟨_,rfl⟩
 rw [hn0,← hn] at i0 hc0
 rw [← hn] at hnp
 replace hn:=Lib.hid hn
 replace hls:=Lib.hid hls
 have hec1:¬e0.cap=1:=by omega
 have hn1:(1:Int)<(n:Int)+1:=by omega
 have hn3:¬((n:Int)+1<1):=by omega
 have hen:m=0:=by rw [hel,ht]; rfl
 subst hen
 replace hm:=Lib.hid hm
 simp only [maxLen] at hc0
 have hqs':=Lib.hid hqs
 have hPA':=Lib.hid hPA
 have hA':=Lib.hid hA
 replace h8:=Lib.hid h8
 replace hp:=Lib.hid hp
 replace ht:=Lib.hid ht
 obtain ⟨ec,hecc⟩:∃ n,n=e0.cap:=⟨_,rfl⟩
 obtain ⟨pc,hpcc⟩:∃ n,n=a.pcap:=⟨_,rfl⟩
 rw [← hecc] at i0 hc0 hec1
 rw [← hpcc] at c14 hpc hpc1
 rw [← hpcc] at hpcm
 replace hecc:=Lib.hid hecc
 replace hpcc:=Lib.hid hpcc
 replace n0:=Lib.hid n0
 clear hM h hk hx hcs hcs0 hB hB0 hqs hes hA hPA hne0 hel
 go_enter Tryz.func221,Tryz.ntmps221
 go_upto_region 2 with (fail)
 go_region_held3 (fun w'=>w'.cell? ⟨M.m,2,none⟩=some (ptr M.ar)∧w'.cell? ⟨b,o,none⟩=some (.int .u64 x)∧w'.cell? ⟨b,o+1,none⟩=some (.int .u64 y)) (go_keep)
  (first
    | (go_at_call 166
       refine (hLk.out (w.drewN 1) ((Only.refl (fun _=>False) w).drewN 1)).mono ?_
       rintro e w1 ⟨rfl,hM1,hG1,hOw⟩
       have hbin:¬mfoot M b:=fun q=>HG.out.far HM.out (x:=b) (.inr (.inr (.inr (.inr (.inr (.inr (.inl ⟨e0,by rw [hqs'.out]; simp,by rw [hA'.out]; rfl⟩))))))) q
       have p1:=(Only.cell hOw (p:=⟨b,o,none⟩) (World.block_lt_of_cell? w _ i1) hbin).trans i1
       have p2:=(Only.cell hOw (p:=⟨b,o+1,none⟩) (World.block_lt_of_cell? w _ i2) hbin).trans i2
       have p00:=hM1.hd.2.2.1
       have r14:=hG1.blk.cell 14
       have r15:=hG1.blk.cell 15
       have z14:=hG1.blk.frozen 14
       have z15:=hG1.blk.frozen 15
       simp only [grc,List.getElem?_toArray,List.getElem?_cons_succ,List.getElem?_cons_zero,hqs'.out,hPA'.out,List.length_cons] at r14 r15
       rw [← hpcc.out,← hm.out] at r14
       have hPt:=Lib.hid (hG1.parted (w:=w) hqs'.out hp.out hPA'.out)
       replace hM1:=Lib.hid hM1
       replace hG1:=Lib.hid hG1
       replace hOw:=Lib.hid hOw
       clear hLk hbin))
 clear p1 p2 p00 i0 i1 i2 d2 c14
 go_upto_region 5 with (fail)
 obtain ⟨w2,hw2⟩:∃ w2,w2=w1.setCell ⟨a.f,14,none⟩ (.slice (some ⟨b0,o0+1,none⟩) 0 (pc-1)):=⟨_,rfl⟩
 have hB2:Blk w2 a.f 175 ((grc a G).setIfInBounds 14 (.slice (some ⟨b0,o0+1,none⟩) 0 (pc-1))):=by rw [hw2]; exact hG1.out.blk.store 14 (.slice (some ⟨b0,o0+1,none⟩) 0 (pc-1))
 have hO2:Only (·=a.f) w1 w2:=by rw [hw2]; exact (Only.refl (·=a.f) w1).setCell (p:=⟨a.f,14,none⟩) (.inl rfl) (.slice (some ⟨b0,o0+1,none⟩) 0 (pc-1))
 rw [← hw2]
 clear hw2 r14 r15 z14 z15
 have r15:=hB2.cell 15
 simp only [grc,List.setIfInBounds_toArray,List.set_cons_zero,List.set_cons_succ,List.getElem?_toArray,List.getElem?_cons_succ,List.getElem?_cons_zero] at r15
 have hP2:=Lib.hid (hPt.out.only hO2 ⟨_,hG1.out.blk⟩)
 replace hO2:=Lib.hid hO2
 replace hB2:=Lib.hid hB2
 generalize hqn:a.qs.length=qn at*
 replace hqn:=Lib.hid hqn
 have hqb:=Lib.hid (show qn≤100000 by
  have:=hP2.out.eqs.len
  have:=hqn.out
  omega)
 have lf:a.f<w2.drew.heap.size:=hB2.out.lt
 obtain ⟨i0,hi0,hz0,hz1,hz2⟩:=info_parts info_row
 have r0:w2.drew.cell? ⟨a.f,15,none⟩=some (.slice a.QA qn a.qcap):=r15
 refine wp_region_noPanic ?_
 refine Rn.wp_region_N (fun w'=>w'.cell? ⟨a.f,15,none⟩=some (.slice a.QA qn a.qcap)) (fun j=>j==9) (by kernel_rfl) ?_
 refine Rn.wpN_take0 (i:=0) (oi:=⟨some 36,_,_,_,_,_⟩) (v:=ptr a.f) (by rfl) (by kernel_rfl) (by kernel_rfl) (by kernel_rfl) rfl (fun _ _ _ h=>h.elim) (Or.inl ⟨by rfl,by intro w' _; go_simp⟩) r0 ?_
 try simp only [Act.put,List.setIfInBounds_toArray,List.set_cons_zero,List.set_cons_succ]
 refine Rn.wpN_take0 (i:=1) (oi:=⟨some 37,_,_,_,_,_⟩) (v:=ptr a.f) (by rfl) (by kernel_rfl) (by kernel_rfl) (by kernel_rfl) rfl (fun _ _ _ h=>h.elim) (Or.inl ⟨by rfl,by intro w' _; go_simp⟩) r0 ?_
 try simp only [Act.put,List.setIfInBounds_toArray,List.set_cons_zero,List.set_cons_succ]
 refine Rn.wpN_take0 (i:=2) (oi:=⟨some 38,_,_,_,_,_⟩) (v:=.pointer (some ⟨a.f,0,none⟩)) (by rfl) (by kernel_rfl) (by kernel_rfl) (by kernel_rfl) rfl (fun _ _ _ h=>h.elim) (Or.inl ⟨by rfl,by intro w' _; go_simp⟩) r0 ?_
 try simp only [Act.put,List.setIfInBounds_toArray,List.set_cons_zero,List.set_cons_succ]
 refine Rn.wpN_take0 (i:=3) (oi:=⟨some 39,_,_,_,_,_⟩) (v:=.pointer (some ⟨a.f,15,none⟩)) (by rfl) (by kernel_rfl) (by kernel_rfl) (by kernel_rfl) rfl (fun _ _ _ h=>h.elim) (Or.inl ⟨by rfl,by intro w' _; go_simp⟩) r0 ?_
 try simp only [Act.put,List.setIfInBounds_toArray,List.set_cons_zero,List.set_cons_succ]
 refine Rn.wpN_take (i:=4) (oi:=⟨some 40,_,_,_,_,_⟩) (v:=.slice a.QA qn a.qcap) (by rfl) (by kernel_rfl) (by kernel_rfl) (by kernel_rfl) rfl (by intro j hj; rw [show j=9 from by simpa using hj]; kernel_rfl) (fun _ _ _ h=>h.elim) (Or.inl ⟨by rfl,by intro w' hSw; go_simp⟩) r0 ?_
 try simp only [Act.put,List.setIfInBounds_toArray,List.set_cons_zero,List.set_cons_succ]
 refine Rn.wpN_take0 (i:=5) (oi:=⟨some 41,_,_,_,_,_⟩) (v:=.slice (some ⟨b,o,none⟩) (n+1) ec) (by rfl) (by kernel_rfl) (by kernel_rfl) (by kernel_rfl) rfl (fun _ _ _ h=>h.elim) (Or.inl ⟨by rfl,by intro w' _; go_simp⟩) r0 ?_
 try simp only [Act.put,List.setIfInBounds_toArray,List.set_cons_zero,List.set_cons_succ]
 refine Rn.wpN_take0 (i:=6) (oi:=⟨some 42,_,_,_,_,_⟩) (v:=.slice (some ⟨b,o+2,none⟩) n (ec-1)) (by rfl) (by kernel_rfl) (by kernel_rfl) (by kernel_rfl) rfl (fun _ _ _ h=>h.elim) (Or.inl ⟨by rfl,by intro w' _; go_simp⟩) r0 ?_
 try simp only [Act.put,List.setIfInBounds_toArray,List.set_cons_zero,List.set_cons_succ]
 refine Rn.wpN_one (i:=7) (o:=⟨some 43,_,_,_,_,_⟩) (by kernel_rfl) (by rfl) rfl ?_
 intro K hK
 go_simp
 have r1:(w2.drew.alloc (.cells #[.slice (some ⟨b,o+2,none⟩) n (ec-1)] 231)).cell? ⟨a.f,15,none⟩=some (.slice a.QA qn a.qcap):=(Only.cell ((Only.refl (fun _=>False) w2.drew).alloc _) (p:=⟨a.f,15,none⟩) lf (by simp)).trans r15
 refine hK _ _ r1 ?_
 clear hK
 try simp only [Act.put,List.setIfInBounds_toArray,List.set_cons_zero,List.set_cons_succ]
 have hO3:Only (fun _=>False) w2 (w2.drew.alloc (.cells #[.slice (some ⟨b,o+2,none⟩) n (ec-1)] 231)):=((Only.refl (fun _=>False) w2).drew).alloc _
 have hP3:=hP2.out.only (hO3.mono (fun x _ q=>q.elim)) ⟨_,hB2.out⟩
 have hB3:=hB2.out.only hO3 (by simp)
 have hN1:=Blk.made w2.drew 231 #[.slice (some ⟨b,o+2,none⟩) n (ec-1)]
 have hL3:LkAt (w2.drew.alloc (.cells #[.slice (some ⟨b,o+2,none⟩) n (ec-1)] 231)) ⟨some ⟨b,o+2,none⟩,n,ec-1⟩ ls:=by
  have hb0:=hL00.out
  have h1:LkAt w1 e0 ((x,y)::ls):=hb0.only hOw.out (fun z hz q=>HG.out.far HM.out (x:=z) (.inr (.inr (.inr (.inr (.inr (.inr (.inl ⟨e0,by rw [hqs'.out]; simp,hz⟩))))))) q)
  have h2:=(h1.only hO2.out (fun z hz e=>(h1.ty hz).apart (e▸blk_ty hG1.out.blk:Ty w1 z [175]) (by decide))).only hO3 (by simp)
  have h3:=h2.tail hA'.out hls.out
  rw [← hecc.out] at h3
  have h4:e0.n-1=n:=by have:=n0.out; rw [this,hn.out]; simp
  rw [h4] at h3
  exact h3
 obtain ⟨A2,cap2,w4,hrun,hR4,hO4,hA4⟩:=run_one (P:=Tryz.prog) (w2.drew.alloc (.cells #[.slice (some ⟨b,o+2,none⟩) n (ec-1)] 231)) 173 173 231 i0 _ 1 24 Tryz.underlying173 hi0 hz0 hz1 hz2 rfl (by omega) elv elv_len
  (by intro x u hu; simp [elv] at hu; subst hu; rfl) hqn.out hP3.qr ⟨some ⟨b,o+2,none⟩,n,ec-1⟩ ⟨w2.drew.heap.size,0,none⟩ 1 (by
    intro j u hu
    rw [Addr.add_lit,Nat.zero_add,hN1.cell]
    simpa [elv] using hu) (by have:=hqb.out; simp only [maxLen]; omega) (by have:=hqb.out; omega)
 refine Rn.wpN_one (i:=8) (o:=⟨some 44,_,_,_,_,_⟩) (by kernel_rfl) (by rfl) rfl ?_
 intro K hK
 refine step_app rfl (.tmp 40) (.tmp 43) 173 rfl (.slice a.QA qn a.qcap) (.slice (some ⟨w2.drew.heap.size,0,none⟩) 1 1) rfl rfl hrun ?_
 have hfQ:¬In a.QA a.f:=fun q=>(row_ty hP3.qr q).apart (blk_ty hB3) (by decide)
 have hB4:=hB3.only hO4 hfQ
 have r4:=hB4.cell 15
 simp only [grc,List.setIfInBounds_toArray,List.set_cons_zero,List.set_cons_succ,List.getElem?_toArray,List.getElem?_cons_succ,List.getElem?_cons_zero,hqn.out] at r4
 refine hK _ _ r4 ?_
 clear hK
 try simp only [Act.put,List.setIfInBounds_toArray,List.set_cons_zero,List.set_cons_succ]
 refine Rn.wpN_tail 9 (by rfl) (by kernel_rfl) (by rfl) ?_
 dsimp only [List.drop]
 have y15:=hB4.frozen 15
 have y14:=hB4.frozen 14
 have r14:=hB4.cell 14
 simp only [grc,List.setIfInBounds_toArray,List.set_cons_zero,List.set_cons_succ,List.getElem?_toArray,List.getElem?_cons_succ,List.getElem?_cons_zero] at r14
 have hP4:=hP3.grown hL3 (fun z hz=>.inr (.inr (.inl ⟨e0,by rw [hqs'.out]; simp,by rw [hA'.out]; exact hz⟩))) hR4 hO4 hA4 (by
  have h1:=hOw.out.size
  have h2:=hO2.out.size
  have h3:=hO3.size
  omega)
 have hQf:∀ z,In a.QA z→gfoot a G z:=fun z q=>.inr (.inr (.inr (.inr (.inr (.inl q)))))
 have hOq:Only (fun x=>mfoot M x∨gfoot a G x) w w4:=(((hOw.out.mono (fun x _ q=>(.inl q:mfoot M x∨gfoot a G x))).trans' hO2.out (fun x _ q=>.inr (.inl q))).trans' hO3 (fun x _ q=>q.elim)).trans' hO4 (fun x _ q=>.inr (hQf x q))
 have hM4:=((hM1.out.only hO2.out (fun x hx e=>hG1.out.far hM1.out (x:=a.f) (.inl rfl) (e▸hx))).only hO3 (by simp)).only hO4 (fun z hz q=>by
  have:=hP3.qr
  exact hG1.out.far hM1.out (x:=z) (hQf z q) hz)
 have hfar:=Lib.hid (hG1.out.far hM1.out (x:=a.f) (.inl rfl))
 replace hM4:=Lib.hid hM4
 replace hOq:=Lib.hid hOq
 replace hP4:=Lib.hid hP4
 replace hB4:=Lib.hid hB4
 clear r15 lf r0 r1 hO3 hP3 hB3 hN1 hL3 hrun hR4 hO4 hA4 hfQ hQf
 have hB5:Own (((w4.setCell ⟨a.f,15,none⟩ (.slice A2 (qn+1) cap2)).setCell ⟨a.f,14,none⟩ (.slice A2 (qn+1) cap2)).setCell ⟨a.f,15,none⟩ (.slice none 0 0)) {a with PA:=A2,pcap:=cap2,ps:=a.qs++[⟨some ⟨b,o+2,none⟩,n,ec-1⟩],QA:=none,qcap:=0,qs:=[]} {G with pass:=G.later++[ls],later:=[]}:=by
  have:=((hB4.out.store 15 (.slice A2 (qn+1) cap2)).store 14 (.slice A2 (qn+1) cap2)).store 15 (.slice none 0 0)
  unfold Own grc
  simp only [List.length_append,List.length_singleton,hqn.out]
  exact this
 have hO5:=Lib.hid (only3 (c:=a.f) w4 15 14 15 (.slice A2 (qn+1) cap2) (.slice A2 (qn+1) cap2) (.slice none 0 0))
 have hWA:=Lib.hid (waitAnew_any hB5)
 clear hB5
 go_wp2_with fail
 refine NoPanic.normal ?_
 go_wp2_with fail
 refine hWA.out.mono ?_
 rintro e w6 ⟨b4,rfl,hB6,hW6,hlb,hO6⟩
 have hE:Hid (grL.Stp w M a G {lm M with ss:=Pu.lnk M.ss x y} (waitNew {G with pass:=G.later++[ls],later:=[]}) w6):=Lib.hid (by
  have hOO:=hO5.out.trans hO6
  have hs:=hOq.out.size
  have hs3:=hO5.out.size
  exact hP4.out.last h8.out (M:=M) (M':={M with ss:=Pu.lnk M.ss x y}) (hM4.out.only hOO (fun x hx e=>hfar.out (e▸hx))) ⟨rfl,rfl,rfl,rfl,fun x q=>.inl q⟩ hB6 hW6 (Nat.le_trans hs (Nat.le_trans hs3 hlb)) (hOq.out.trans' hOO (fun x _ q=>.inr (.inl q))) ⟨_,hB4.out⟩ hOO)
 clear hB6 hW6 hlb hO6 hWA hP4 hO5
 go_wp2_with fail
 go_ret
 exact ⟨rfl,hE.out⟩
set_option maxHeartbeats 4000000 in
theorem part_link_only (hM:MemAt w M) (h:GrAt w a G) (h8:G.nx=8) {x y k:Nat} {ls:List (Nat×Nat)} {t:List (List (Nat×Nat))} (hp:G.pass=((x,y)::ls)::t) (hls:ls≠[]) (ht:t=[]) (hpc1:a.pcap=1) (hlen:G.later.length≤100000) (hx:x≤18446744073709551615) (hk:IsAt M.ss x k):
 Calls Tryz.prog 221 #[ptr a.f,ptr M.m] w fun e w'=>e=.returned (.bool false)∧grL.Stp w M a G {lm M with ss:=Pu.lnk M.ss x y} (waitNew {G with pass:=G.later++[ls],later:=[]}) w':=by
 have hLk:=Lib.hid (linked_any hM h hx hk y)
 have HM:=Lib.hid hM
 have HG:=Lib.hid h
 have c14:=h.blk.cell 14
 simp only [grc,List.getElem?_toArray,List.getElem?_cons_succ,List.getElem?_cons_zero] at c14
 have hps:=h.rw_.ps
 have hpl:=h.rw_.pl
 have hpc:=h.rw_.pc
 rw [hp] at hps
 generalize hqs:a.ps=ps at*
 cases hps with
 | @cons e0 _ es _ hL0 hes=>
 have hL00:=Lib.hid hL0
 obtain ⟨n0,hne0,hc0,b,o,cs,hA,hB,hcs⟩:=hL0
 rcases hpl with q | ⟨b0,o0,cs0,hPA,hB0,hcs0⟩
 · simp at q
 have i0:=hcs0 0 (by simp)
 have i1:=(hcs 0 (by simp)).1
 have i2:=(hcs 0 (by simp)).2
 rw [← hB0.cell] at i0
 rw [← hB.cell] at i1 i2
 simp only [nel,nlk,List.getD_cons_zero,Nat.add_zero,Nat.zero_mul,hA] at i0 i1 i2
 rw [hPA] at c14
 have d2:=hM.hd.2.2.1
 simp only [List.length_cons,maxLen] at c14 hpc
 have hel:es.length=t.length:=hes.len
 obtain ⟨m,hm⟩:∃ m,m=es.length:=⟨_,rfl⟩
 rw [← hm] at c14 hpc hel
 have hpcm:=Lib.hid (show es.length≤a.pcap-1∧a.pcap-1≤maxLen by simp only [maxLen]; omega)
 have hn0:e0.n=ls.length+1:=by simpa using n0
 have hnp:0<ls.length:=List.length_pos_iff.2 hls
 obtain ⟨n,hn⟩:∃ n,n=ls.length:=⟨_,rfl⟩
 rw [hn0,← hn] at i0 hc0
 rw [← hn] at hnp
 replace hn:=Lib.hid hn
 replace hls:=Lib.hid hls
 have hec1:¬e0.cap=1:=by omega
 have hn1:(1:Int)<(n:Int)+1:=by omega
 have hn3:¬((n:Int)+1<1):=by omega
 have hen:m=0:=by rw [hel,ht]; rfl
 subst hen
 replace hm:=Lib.hid hm
 simp only [maxLen] at hc0
 have hqs':=Lib.hid hqs
 have hPA':=Lib.hid hPA
 have hA':=Lib.hid hA
 replace h8:=Lib.hid h8
 replace hp:=Lib.hid hp
 replace ht:=Lib.hid ht
 obtain ⟨ec,hecc⟩:∃ n,n=e0.cap:=⟨_,rfl⟩
 obtain ⟨pc,hpcc⟩:∃ n,n=a.pcap:=⟨_,rfl⟩
 rw [← hecc] at i0 hc0 hec1
 rw [← hpcc] at c14 hpc hpc1
 subst hpc1
 rw [← hpcc] at hpcm
 replace hecc:=Lib.hid hecc
 replace hpcc:=Lib.hid hpcc
 replace n0:=Lib.hid n0
 clear hM h hk hx hcs hcs0 hB hB0 hqs hes hA hPA hne0 hel
 go_enter Tryz.func221,Tryz.ntmps221
 go_upto_region 2 with (fail)
 go_region_held3 (fun w'=>w'.cell? ⟨M.m,2,none⟩=some (ptr M.ar)∧w'.cell? ⟨b,o,none⟩=some (.int .u64 x)∧w'.cell? ⟨b,o+1,none⟩=some (.int .u64 y)) (go_keep)
  (first
    | (go_at_call 166
       refine (hLk.out (w.drewN 1) ((Only.refl (fun _=>False) w).drewN 1)).mono ?_
       rintro e w1 ⟨rfl,hM1,hG1,hOw⟩
       have hbin:¬mfoot M b:=fun q=>HG.out.far HM.out (x:=b) (.inr (.inr (.inr (.inr (.inr (.inr (.inl ⟨e0,by rw [hqs'.out]; simp,by rw [hA'.out]; rfl⟩))))))) q
       have p1:=(Only.cell hOw (p:=⟨b,o,none⟩) (World.block_lt_of_cell? w _ i1) hbin).trans i1
       have p2:=(Only.cell hOw (p:=⟨b,o+1,none⟩) (World.block_lt_of_cell? w _ i2) hbin).trans i2
       have p00:=hM1.hd.2.2.1
       have r14:=hG1.blk.cell 14
       have r15:=hG1.blk.cell 15
       have z14:=hG1.blk.frozen 14
       have z15:=hG1.blk.frozen 15
       simp only [grc,List.getElem?_toArray,List.getElem?_cons_succ,List.getElem?_cons_zero,hqs'.out,hPA'.out,List.length_cons] at r14 r15
       rw [← hpcc.out,← hm.out] at r14
       have hPt:=Lib.hid (hG1.parted (w:=w) hqs'.out hp.out hPA'.out)
       replace hM1:=Lib.hid hM1
       replace hG1:=Lib.hid hG1
       replace hOw:=Lib.hid hOw
       clear hLk hbin))
 clear p1 p2 p00 i0 i1 i2 d2 c14
 go_upto_region 5 with (fail)
 obtain ⟨w2,hw2⟩:∃ w2,w2=w1.setCell ⟨a.f,14,none⟩ (.slice (some ⟨b0,o0,none⟩) 0 0):=⟨_,rfl⟩
 have hB2:Blk w2 a.f 175 ((grc a G).setIfInBounds 14 (.slice (some ⟨b0,o0,none⟩) 0 0)):=by rw [hw2]; exact hG1.out.blk.store 14 (.slice (some ⟨b0,o0,none⟩) 0 0)
 have hO2:Only (·=a.f) w1 w2:=by rw [hw2]; exact (Only.refl (·=a.f) w1).setCell (p:=⟨a.f,14,none⟩) (.inl rfl) (.slice (some ⟨b0,o0,none⟩) 0 0)
 rw [← hw2]
 clear hw2 r14 r15 z14 z15
 have r15:=hB2.cell 15
 simp only [grc,List.setIfInBounds_toArray,List.set_cons_zero,List.set_cons_succ,List.getElem?_toArray,List.getElem?_cons_succ,List.getElem?_cons_zero] at r15
 have hP2:=Lib.hid (hPt.out.only hO2 ⟨_,hG1.out.blk⟩)
 replace hO2:=Lib.hid hO2
 replace hB2:=Lib.hid hB2
 generalize hqn:a.qs.length=qn at*
 replace hqn:=Lib.hid hqn
 have hqb:=Lib.hid (show qn≤100000 by
  have:=hP2.out.eqs.len
  have:=hqn.out
  omega)
 have lf:a.f<w2.drew.heap.size:=hB2.out.lt
 obtain ⟨i0,hi0,hz0,hz1,hz2⟩:=info_parts info_row
 have r0:w2.drew.cell? ⟨a.f,15,none⟩=some (.slice a.QA qn a.qcap):=r15
 refine wp_region_noPanic ?_
 refine Rn.wp_region_N (fun w'=>w'.cell? ⟨a.f,15,none⟩=some (.slice a.QA qn a.qcap)) (fun j=>j==9) (by kernel_rfl) ?_
 refine Rn.wpN_take0 (i:=0) (oi:=⟨some 36,_,_,_,_,_⟩) (v:=ptr a.f) (by rfl) (by kernel_rfl) (by kernel_rfl) (by kernel_rfl) rfl (fun _ _ _ h=>h.elim) (Or.inl ⟨by rfl,by intro w' _; go_simp⟩) r0 ?_
 try simp only [Act.put,List.setIfInBounds_toArray,List.set_cons_zero,List.set_cons_succ]
 refine Rn.wpN_take0 (i:=1) (oi:=⟨some 37,_,_,_,_,_⟩) (v:=ptr a.f) (by rfl) (by kernel_rfl) (by kernel_rfl) (by kernel_rfl) rfl (fun _ _ _ h=>h.elim) (Or.inl ⟨by rfl,by intro w' _; go_simp⟩) r0 ?_
 try simp only [Act.put,List.setIfInBounds_toArray,List.set_cons_zero,List.set_cons_succ]
 refine Rn.wpN_take0 (i:=2) (oi:=⟨some 38,_,_,_,_,_⟩) (v:=.pointer (some ⟨a.f,0,none⟩)) (by rfl) (by kernel_rfl) (by kernel_rfl) (by kernel_rfl) rfl (fun _ _ _ h=>h.elim) (Or.inl ⟨by rfl,by intro w' _; go_simp⟩) r0 ?_
 try simp only [Act.put,List.setIfInBounds_toArray,List.set_cons_zero,List.set_cons_succ]
 refine Rn.wpN_take0 (i:=3) (oi:=⟨some 39,_,_,_,_,_⟩) (v:=.pointer (some ⟨a.f,15,none⟩)) (by rfl) (by kernel_rfl) (by kernel_rfl) (by kernel_rfl) rfl (fun _ _ _ h=>h.elim) (Or.inl ⟨by rfl,by intro w' _; go_simp⟩) r0 ?_
 try simp only [Act.put,List.setIfInBounds_toArray,List.set_cons_zero,List.set_cons_succ]
 refine Rn.wpN_take (i:=4) (oi:=⟨some 40,_,_,_,_,_⟩) (v:=.slice a.QA qn a.qcap) (by rfl) (by kernel_rfl) (by kernel_rfl) (by kernel_rfl) rfl (by intro j hj; rw [show j=9 from by simpa using hj]; kernel_rfl) (fun _ _ _ h=>h.elim) (Or.inl ⟨by rfl,by intro w' hSw; go_simp⟩) r0 ?_
 try simp only [Act.put,List.setIfInBounds_toArray,List.set_cons_zero,List.set_cons_succ]
 refine Rn.wpN_take0 (i:=5) (oi:=⟨some 41,_,_,_,_,_⟩) (v:=.slice (some ⟨b,o,none⟩) (n+1) ec) (by rfl) (by kernel_rfl) (by kernel_rfl) (by kernel_rfl) rfl (fun _ _ _ h=>h.elim) (Or.inl ⟨by rfl,by intro w' _; go_simp⟩) r0 ?_
 try simp only [Act.put,List.setIfInBounds_toArray,List.set_cons_zero,List.set_cons_succ]
 refine Rn.wpN_take0 (i:=6) (oi:=⟨some 42,_,_,_,_,_⟩) (v:=.slice (some ⟨b,o+2,none⟩) n (ec-1)) (by rfl) (by kernel_rfl) (by kernel_rfl) (by kernel_rfl) rfl (fun _ _ _ h=>h.elim) (Or.inl ⟨by rfl,by intro w' _; go_simp⟩) r0 ?_
 try simp only [Act.put,List.setIfInBounds_toArray,List.set_cons_zero,List.set_cons_succ]
 refine Rn.wpN_one (i:=7) (o:=⟨some 43,_,_,_,_,_⟩) (by kernel_rfl) (by rfl) rfl ?_
 intro K hK
 go_simp
 have r1:(w2.drew.alloc (.cells #[.slice (some ⟨b,o+2,none⟩) n (ec-1)] 231)).cell? ⟨a.f,15,none⟩=some (.slice a.QA qn a.qcap):=(Only.cell ((Only.refl (fun _=>False) w2.drew).alloc _) (p:=⟨a.f,15,none⟩) lf (by simp)).trans r15
 refine hK _ _ r1 ?_
 clear hK
 try simp only [Act.put,List.setIfInBounds_toArray,List.set_cons_zero,List.set_cons_succ]
 have hO3:Only (fun _=>False) w2 (w2.drew.alloc (.cells #[.slice (some ⟨b,o+2,none⟩) n (ec-1)] 231)):=((Only.refl (fun _=>False) w2).drew).alloc _
 have hP3:=hP2.out.only (hO3.mono (fun x _ q=>q.elim)) ⟨_,hB2.out⟩
 have hB3:=hB2.out.only hO3 (by simp)
 have hN1:=Blk.made w2.drew 231 #[.slice (some ⟨b,o+2,none⟩) n (ec-1)]
 have hL3:LkAt (w2.drew.alloc (.cells #[.slice (some ⟨b,o+2,none⟩) n (ec-1)] 231)) ⟨some ⟨b,o+2,none⟩,n,ec-1⟩ ls:=by
  have hb0:=hL00.out
  have h1:LkAt w1 e0 ((x,y)::ls):=hb0.only hOw.out (fun z hz q=>HG.out.far HM.out (x:=z) (.inr (.inr (.inr (.inr (.inr (.inr (.inl ⟨e0,by rw [hqs'.out]; simp,hz⟩))))))) q)
  have h2:=(h1.only hO2.out (fun z hz e=>(h1.ty hz).apart (e▸blk_ty hG1.out.blk:Ty w1 z [175]) (by decide))).only hO3 (by simp)
  have h3:=h2.tail hA'.out hls.out
  rw [← hecc.out] at h3
  have h4:e0.n-1=n:=by have:=n0.out; rw [this,hn.out]; simp
  rw [h4] at h3
  exact h3
 obtain ⟨A2,cap2,w4,hrun,hR4,hO4,hA4⟩:=run_one (P:=Tryz.prog) (w2.drew.alloc (.cells #[.slice (some ⟨b,o+2,none⟩) n (ec-1)] 231)) 173 173 231 i0 _ 1 24 Tryz.underlying173 hi0 hz0 hz1 hz2 rfl (by omega) elv elv_len
  (by intro x u hu; simp [elv] at hu; subst hu; rfl) hqn.out hP3.qr ⟨some ⟨b,o+2,none⟩,n,ec-1⟩ ⟨w2.drew.heap.size,0,none⟩ 1 (by
    intro j u hu
    rw [Addr.add_lit,Nat.zero_add,hN1.cell]
    simpa [elv] using hu) (by have:=hqb.out; simp only [maxLen]; omega) (by have:=hqb.out; omega)
 refine Rn.wpN_one (i:=8) (o:=⟨some 44,_,_,_,_,_⟩) (by kernel_rfl) (by rfl) rfl ?_
 intro K hK
 refine step_app rfl (.tmp 40) (.tmp 43) 173 rfl (.slice a.QA qn a.qcap) (.slice (some ⟨w2.drew.heap.size,0,none⟩) 1 1) rfl rfl hrun ?_
 have hfQ:¬In a.QA a.f:=fun q=>(row_ty hP3.qr q).apart (blk_ty hB3) (by decide)
 have hB4:=hB3.only hO4 hfQ
 have r4:=hB4.cell 15
 simp only [grc,List.setIfInBounds_toArray,List.set_cons_zero,List.set_cons_succ,List.getElem?_toArray,List.getElem?_cons_succ,List.getElem?_cons_zero,hqn.out] at r4
 refine hK _ _ r4 ?_
 clear hK
 try simp only [Act.put,List.setIfInBounds_toArray,List.set_cons_zero,List.set_cons_succ]
 refine Rn.wpN_tail 9 (by rfl) (by kernel_rfl) (by rfl) ?_
 dsimp only [List.drop]
 have y15:=hB4.frozen 15
 have y14:=hB4.frozen 14
 have r14:=hB4.cell 14
 simp only [grc,List.setIfInBounds_toArray,List.set_cons_zero,List.set_cons_succ,List.getElem?_toArray,List.getElem?_cons_succ,List.getElem?_cons_zero] at r14
 have hP4:=hP3.grown hL3 (fun z hz=>.inr (.inr (.inl ⟨e0,by rw [hqs'.out]; simp,by rw [hA'.out]; exact hz⟩))) hR4 hO4 hA4 (by
  have h1:=hOw.out.size
  have h2:=hO2.out.size
  have h3:=hO3.size
  omega)
 have hQf:∀ z,In a.QA z→gfoot a G z:=fun z q=>.inr (.inr (.inr (.inr (.inr (.inl q)))))
 have hOq:Only (fun x=>mfoot M x∨gfoot a G x) w w4:=(((hOw.out.mono (fun x _ q=>(.inl q:mfoot M x∨gfoot a G x))).trans' hO2.out (fun x _ q=>.inr (.inl q))).trans' hO3 (fun x _ q=>q.elim)).trans' hO4 (fun x _ q=>.inr (hQf x q))
 have hM4:=((hM1.out.only hO2.out (fun x hx e=>hG1.out.far hM1.out (x:=a.f) (.inl rfl) (e▸hx))).only hO3 (by simp)).only hO4 (fun z hz q=>by
  have:=hP3.qr
  exact hG1.out.far hM1.out (x:=z) (hQf z q) hz)
 have hfar:=Lib.hid (hG1.out.far hM1.out (x:=a.f) (.inl rfl))
 replace hM4:=Lib.hid hM4
 replace hOq:=Lib.hid hOq
 replace hP4:=Lib.hid hP4
 replace hB4:=Lib.hid hB4
 clear r15 lf r0 r1 hO3 hP3 hB3 hN1 hL3 hrun hR4 hO4 hA4 hfQ hQf
 have hB5:Own (((w4.setCell ⟨a.f,15,none⟩ (.slice A2 (qn+1) cap2)).setCell ⟨a.f,14,none⟩ (.slice A2 (qn+1) cap2)).setCell ⟨a.f,15,none⟩ (.slice none 0 0)) {a with PA:=A2,pcap:=cap2,ps:=a.qs++[⟨some ⟨b,o+2,none⟩,n,ec-1⟩],QA:=none,qcap:=0,qs:=[]} {G with pass:=G.later++[ls],later:=[]}:=by
  have:=((hB4.out.store 15 (.slice A2 (qn+1) cap2)).store 14 (.slice A2 (qn+1) cap2)).store 15 (.slice none 0 0)
  unfold Own grc
  simp only [List.length_append,List.length_singleton,hqn.out]
  exact this
 have hO5:=Lib.hid (only3 (c:=a.f) w4 15 14 15 (.slice A2 (qn+1) cap2) (.slice A2 (qn+1) cap2) (.slice none 0 0))
 have hWA:=Lib.hid (waitAnew_any hB5)
 clear hB5
 go_wp2_with fail
 refine NoPanic.normal ?_
 go_wp2_with fail
 refine hWA.out.mono ?_
 rintro e w6 ⟨b4,rfl,hB6,hW6,hlb,hO6⟩
 have hE:Hid (grL.Stp w M a G {lm M with ss:=Pu.lnk M.ss x y} (waitNew {G with pass:=G.later++[ls],later:=[]}) w6):=Lib.hid (by
  have hOO:=hO5.out.trans hO6
  have hs:=hOq.out.size
  have hs3:=hO5.out.size
  exact hP4.out.last h8.out (M:=M) (M':={M with ss:=Pu.lnk M.ss x y}) (hM4.out.only hOO (fun x hx e=>hfar.out (e▸hx))) ⟨rfl,rfl,rfl,rfl,fun x q=>.inl q⟩ hB6 hW6 (Nat.le_trans hs (Nat.le_trans hs3 hlb)) (hOq.out.trans' hOO (fun x _ q=>.inr (.inl q))) ⟨_,hB4.out⟩ hOO)
 clear hB6 hW6 hlb hO6 hWA hP4 hO5
 go_wp2_with fail
 go_ret
 exact ⟨rfl,hE.out⟩
theorem part_step (hM:MemAt w M) (h:GrAt w a G) (h8:G.nx=8) {x y k:Nat} {ls:List (Nat×Nat)} {t:List (List (Nat×Nat))} (hp:G.pass=((x,y)::ls)::t) (hlen:G.later.length≤100000) (hx:x≤18446744073709551615) (hk:IsAt M.ss x k):
 Calls Tryz.prog 221 #[ptr a.f,ptr M.m] w fun e w'=>e=.returned (.bool false)∧grL.Stp w M a G {lm M with ss:=Pu.lnk M.ss x y}
  (if t=[] then waitNew {G with pass:=if 1<((x,y)::ls).length then G.later++[ls] else G.later,later:=[]} else {G with pass:=t,later:=if 1<((x,y)::ls).length then G.later++[ls] else G.later}) w':=by
 by_cases hls:ls=[]
 · subst hls
   have h1:¬(1<[(x,y)].length):=by simp
   simp only [if_neg h1]
   by_cases ht:t=[]
   · rw [if_pos ht]
     by_cases hpc:a.pcap=1
     · exact part_none_only hM h h8 hp ht hpc hlen hx hk
     · exact part_none_last hM h h8 hp ht hpc hlen hx hk
   · rw [if_neg ht]
     exact part_none_more hM h h8 hp ht hlen hx hk
 · have h1:1<((x,y)::ls).length:=by
    have:=List.length_pos_iff.2 hls
    simp; omega
   simp only [if_pos h1]
   by_cases ht:t=[]
   · rw [if_pos ht]
     by_cases hpc:a.pcap=1
     · exact part_link_only hM h h8 hp hls ht hpc hlen hx hk
     · exact part_link_last hM h h8 hp hls ht hpc hlen hx hk
   · rw [if_neg ht]
     exact part_link_more hM h h8 hp hls ht hlen hx hk
end
end Go.Proofs.YtpobbnllcoabhaaGreat.Gw
namespace Go.Proofs.YtpobbnllcoabhaaGreat.Gw
open Go Go.RowKit Hp K Fl Rw Hm Ar Mm Me Qs Wk Pn
set_option maxRecDepth 100000
def newGro (k:Int):Gr:=⟨k,1,0,(0,0),(0,0),0,0,.new,0,0,⟨0,0,0,0⟩,[],[]⟩
theorem goOn_at {w:World} {f F:Nat} {b:Array Value} {u1 u2:Value} (c1:w.cell? ⟨f,1,none⟩=some u1) (c2:w.cell? ⟨f,2,none⟩=some u2) (z1:w.frozen? ⟨f,1,none⟩=false) (z2:w.frozen? ⟨f,2,none⟩=false):
 Calls Tryz.prog 91 #[ptr f,.func (.func F) b #[]] w fun e w'=>e=.returned (.tuple #[])∧w'=(w.setCell ⟨f,1,none⟩ (wf0 118)).setCell ⟨f,2,none⟩ (.func (.func F) b #[]):=by
 go_enter Tryz.func91,Tryz.ntmps91
 go_wp2
 go_end0
 exact ⟨rfl,rfl⟩
theorem new_grow (k:Int) (w:World):Calls Tryz.prog 67 #[.int .i64 k] w fun e w'=>∃ a:Gl,e=.returned (ptr a.f)∧GrAt w' a (newGro k)∧(∀ x,gfoot a (newGro k) x→w.heap.size≤x)∧Below w.heap.size w w':=by
 obtain ⟨w2,hw2⟩:∃ w2,w2=w.alloc (.cells #[.int .i64 k,.nilFunc,.nilFunc,.int .i64 0,.int .i64 0,.int .i64 0,.int .i64 0,.int .i64 0,.int .i64 0,.int .i64 0,.pointer none,.int .u64 0,.int .i64 0,.pointer none,.slice none 0 0,.slice none 0 0] 175):=⟨_,rfl⟩
 have hF2:Blk w2 w.heap.size 175 #[.int .i64 k,.nilFunc,.nilFunc,.int .i64 0,.int .i64 0,.int .i64 0,.int .i64 0,.int .i64 0,.int .i64 0,.int .i64 0,.pointer none,.int .u64 0,.int .i64 0,.pointer none,.slice none 0 0,.slice none 0 0]:=by rw [hw2]; exact Blk.made w _ _
 have hB2:Below w.heap.size w w2:=by rw [hw2]; exact (Below.refl _ _).alloc (Nat.le_refl _) _
 obtain ⟨f,hf⟩:∃ f,f=w.heap.size:=⟨_,rfl⟩
 rw [← hf] at hF2
 have hfw:w.heap.size≤f:=by omega
 have hgo:=Lib.hid (goOn_at (F:=92) (b:=#[ptr f]) (hF2.cell 1) (hF2.cell 2) (hF2.frozen 1) (hF2.frozen 2))
 have hE:Hid (GrAt ((w2.setCell ⟨f,1,none⟩ (wf0 118)).setCell ⟨f,2,none⟩ (wfm 92 (ptr f))) ⟨f,.pointer none,.pointer none,0,0,none,0,0,none,0,[],none,0,[]⟩ (newGro k)):=Lib.hid
  ⟨(hF2.store 1 (wf0 118)).store 2 (wfm 92 (ptr f)),fun q=>by simp [newGro] at q,fun q=>by simp [newGro] at q,fun q=>by simp [newGro] at q,⟨.nil,.nil,fun _=>Row.nil _ _ _ _,.inl rfl,by simp,Row.nil _ _ _ _,fun b hb=>by simp [In] at hb⟩⟩
 have hlo:Hid (∀ x,gfoot ⟨f,.pointer none,.pointer none,0,0,none,0,0,none,0,[],none,0,[]⟩ (newGro k) x→w.heap.size≤x):=Lib.hid (by
  rintro x (rfl | ⟨q,_⟩ | ⟨q,_⟩ | ⟨q,_⟩ | ⟨_,q⟩ | q | ⟨e,he,_⟩ | ⟨e,he,_⟩)
  · exact hfw
  · simp [newGro] at q
  · simp [newGro] at q
  · simp [newGro] at q
  · simp [In] at q
  · simp [In] at q
  · simp at he
  · simp at he)
 have hB:=Lib.hid ((hB2.setCell (p:=⟨f,1,none⟩) hfw (wf0 118)).setCell (p:=⟨f,2,none⟩) hfw (wfm 92 (ptr f)))
 clear hF2 hB2 hfw
 go_enter Tryz.func67,Tryz.ntmps67
 go_upto_region 2 with (fail)
 rw [← hw2,← hf]
 clear hw2 hf
 go_wp2_with fail
 refine hgo.out.mono ?_
 rintro e w1 ⟨rfl,hw1⟩
 rw [← hw1] at hE hB
 clear hw1 hgo
 go_wp2_with fail
 go_ret
 exact ⟨_,rfl,hE.out,hlo.out,hB.out⟩
structure Okgr (L:Lm) (G:Gr):Prop where
 nx:1≤G.nx∧G.nx≤8
 x1:1<L.xs.length
 hl:0<L.hs.length
 ds:L.ds.length≤900000
 el:G.nx≠1→G.el.1≤65536∧G.el.2≤4000000
 bk:G.bucket≤1000000
 pass:G.pass.length≤100000∧G.later.length≤100000
 later:G.nx=3→G.later=[]
 c3:G.nx=3→G.el.2+G.bucket<L.xs.length
 c4:G.nx=4→Okr L G
 c5:G.nx=5→G.half≤1∧G.nw.2+(G.bucket+G.half*G.el.1)<L.xs.length∧sel G.C.fi G.half≤18446744073709551615∧G.nw.2≤4000000
 c6:G.nx=6→0≤G.num∧G.num≤1000000
 c7:G.nx=7→0≤L.k∧Qs.Okw L.k.toNat L.xs L.hs G.W
 c8:G.nx=8→∃ x y ls t k,G.pass=((x,y)::ls)::t∧x≤18446744073709551615∧IsAt L.ss x k
theorem gstep_fm {w:World} {F f:Nat} {cv m:Value} {c:Bool} {P:World→Prop} (c2:w.cell? ⟨f,2,none⟩=some (wfm F cv)) (eF:∀ args w,(callFunc F args).run Tryz.prog w=.ok (.enter F args) w)
 (hF:Calls Tryz.prog F #[cv,m] w fun e w'=>e=.returned (.bool c)∧P w'):Calls Tryz.prog 265 #[ptr f,m] w fun e w'=>e=.returned (.bool c)∧P w':=by
 replace hF:=Lib.hid hF
 go_enter Tryz.func265,Tryz.ntmps265
 go_wp2_with fail
 refine hF.out.mono ?_
 rintro e w' ⟨rfl,hPw⟩
 replace hPw:=Lib.hid hPw
 clear c2
 go_wp2_with fail
 go_ret
 exact ⟨rfl,hPw.out⟩
theorem gready_f0 {w:World} {f:Nat} {m:Value} (c1:w.cell? ⟨f,1,none⟩=some (wf0 118)):Calls Tryz.prog 264 #[ptr f,m] w fun e w'=>e=.returned (.bool true)∧Below w.heap.size w w':=by
 have eF:∀ args w,(callFunc 118 args).run Tryz.prog w=.ok (.enter 118 args) w:=fun _ _=>by kernel_rfl
 have hA:=Lib.hid (always_any m w)
 go_enter Tryz.func264,Tryz.ntmps264
 go_wp2_with fail
 refine hA.out.mono ?_
 rintro e w' ⟨rfl,hw⟩
 obtain rfl:w=w':=hw.symm
 clear hA c1
 go_wp2_with fail
 go_ret
 exact ⟨rfl,Below.refl _ _⟩
theorem gready_fm {w:World} {F f:Nat} {cv m:Value} {c:Bool} (c1:w.cell? ⟨f,1,none⟩=some (wfm F cv)) (eF:∀ args w,(callFunc F args).run Tryz.prog w=.ok (.enter F args) w)
 (hF:Calls Tryz.prog F #[cv,m] w fun e w'=>e=.returned (.bool c)∧∃ n,w'=w.drewN n):Calls Tryz.prog 264 #[ptr f,m] w fun e w'=>e=.returned (.bool c)∧Below w.heap.size w w':=by
 replace hF:=Lib.hid hF
 go_enter Tryz.func264,Tryz.ntmps264
 go_wp2_with fail
 refine hF.out.mono ?_
 rintro e w' ⟨rfl,n,rfl⟩
 clear c1
 go_wp2_with fail
 go_ret
 exact ⟨rfl,rfl,rfl,rfl,Nat.le_refl _,fun _ _=>rfl⟩
theorem enters_g1 (args:Array Value) (w:World):(callFunc 92 args).run Tryz.prog w=.ok (.enter 92 args) w:=by kernel_rfl
theorem enters_g2 (args:Array Value) (w:World):(callFunc 119 args).run Tryz.prog w=.ok (.enter 119 args) w:=by kernel_rfl
theorem enters_g3 (args:Array Value) (w:World):(callFunc 150 args).run Tryz.prog w=.ok (.enter 150 args) w:=by kernel_rfl
theorem enters_g4 (args:Array Value) (w:World):(callFunc 189 args).run Tryz.prog w=.ok (.enter 189 args) w:=by kernel_rfl
theorem enters_g5 (args:Array Value) (w:World):(callFunc 209 args).run Tryz.prog w=.ok (.enter 209 args) w:=by kernel_rfl
theorem enters_g6 (args:Array Value) (w:World):(callFunc 210 args).run Tryz.prog w=.ok (.enter 210 args) w:=by kernel_rfl
theorem enters_g7 (args:Array Value) (w:World):(callFunc 216 args).run Tryz.prog w=.ok (.enter 216 args) w:=by kernel_rfl
theorem enters_g8 (args:Array Value) (w:World):(callFunc 221 args).run Tryz.prog w=.ok (.enter 221 args) w:=by kernel_rfl
theorem enters_gw (args:Array Value) (w:World):(callFunc 214 args).run Tryz.prog w=.ok (.enter 214 args) w:=by kernel_rfl
section
variable {w w':World} {M:Mo} {a:Gl} {G:Gr}
theorem gro_ready (hM:MemAt w M) (h:GrAt w a G) (ok:Okgr (lm M) G):Calls Tryz.prog 264 #[ptr a.f,ptr M.m] w fun e w'=>e=.returned (.bool (gready (lm M) G))∧Below w.heap.size w w':=by
 have c1:=(own_hd h.blk).2.1
 unfold grv at c1
 unfold gready
 by_cases h7:G.nx=7
 · rw [if_pos h7] at c1 ⊢
   obtain ⟨o1,o2⟩:=ok.c7 h7
   have hp:=o2.passed
   have hx:M.k.toNat+2≤M.xs.length:=o2.xl
   have hp2:G.W.at_≤2→G.W.passed<M.k.toNat:=hp.2
   exact gready_fm c1 enters_gw (Qs.ready_any hM (h.wt h7).2 o2.hl (fun q=>by have:=hp2 (by omega); exact ⟨by omega,by omega⟩) (by have:=o2.at_; omega))
 · rw [if_neg h7] at c1 ⊢
   exact gready_f0 c1
theorem gro_step (hM:MemAt w M) (h:GrAt w a G) (ok:Okgr (lm M) G) (hr:gready (lm M) G=true):
 Calls Tryz.prog 265 #[ptr a.f,ptr M.m] w fun e w'=>e=.returned (.bool (gdone (lm M) G))∧grL.Stp w M a G (gstep (lm M) G).1 (gstep (lm M) G).2 w':=by
 have c2:=(own_hd h.blk).2.2.1
 unfold gnv at c2
 have hnx:=ok.nx
 have hbk:=ok.bk
 by_cases e1:G.nx=1
 · rw [if_pos e1] at c2
   rw [show gdone (lm M) G=false by unfold gdone; rw [if_neg (by omega),if_neg (by omega)]; simp; omega]
   exact gstep_fm c2 enters_g1 (load_step hM h ok.x1 e1)
 rw [if_neg e1] at c2
 obtain ⟨el1,el2⟩:=ok.el e1
 by_cases e2:G.nx=2
 · rw [if_pos e2] at c2
   have ed:gdone (lm M) G= !decide (FM.power ((2*G.el.1:Nat):Int)=true∧M.xs.length+2*G.el.1≤1048576):=by unfold gdone; rw [if_pos e2]
   by_cases hp:FM.power ((2*G.el.1:Nat):Int)=true∧M.xs.length+2*G.el.1≤1048576
   · have es:gstep (lm M) G=({lm M with xs:=M.xs++List.replicate (2*G.el.1) 0,ds:=M.ds++[(2*G.el.1,M.xs.length)]},{G with num:=M.ds.length,err:=0,nw:=(2*G.el.1,M.xs.length),nx:=3}):=by
      unfold gstep; rw [if_neg e1,if_pos e2,if_pos hp]
     rw [ed,es,show (!decide (FM.power ((2*G.el.1:Nat):Int)=true∧M.xs.length+2*G.el.1≤1048576))=false by simp only [decide_eq_true hp]; rfl]
     exact gstep_fm c2 enters_g2 (table_made hM h e2 el1 ok.ds hp.1 hp.2)
   · have es:gstep (lm M) G=(lm M,{G with num:= -1,err:=if FM.power ((2*G.el.1:Nat):Int)=true then 2 else 5,nx:=9}):=by
      unfold gstep; rw [if_neg e1,if_pos e2,if_neg hp]
     rw [ed,es,show (!decide (FM.power ((2*G.el.1:Nat):Int)=true∧M.xs.length+2*G.el.1≤1048576))=true by simp only [decide_eq_false hp]; rfl]
     exact gstep_fm c2 enters_g2 (table_fails hM h e2 el1 hp)
 rw [if_neg e2] at c2
 by_cases e3:G.nx=3
 · rw [if_pos e3] at c2
   rw [show gdone (lm M) G=false by unfold gdone; rw [if_neg (by omega),if_neg (by omega)]; simp; omega]
   have es:gstep (lm M) G=(lm M,comeTo {G with C:=.new} (Cl.nth M.xs (G.el.2+G.bucket)).toNat):=by unfold gstep; rw [if_neg e1,if_neg e2,if_pos e3]
   rw [es]
   exact gstep_fm c2 enters_g3 (loadCell_step hM h e3 (ok.c3 e3) el2 (ok.later e3) ok.pass.1 hbk (by omega))
 rw [if_neg e3] at c2
 by_cases e4:G.nx=4
 · rw [if_pos e4] at c2
   rw [show gdone (lm M) G=false by unfold gdone; rw [if_neg (by omega),if_neg (by omega)]; simp; omega]
   have es:gstep (lm M) G=(lm M,comeTo {G with C:=G.C.add G.at_ (hfs G (at' M.ss ((G.at_-1) % 65536)).nd.sum)} (at' M.ss ((G.at_-1) % 65536)).nd.next.toNat):=by unfold gstep; rw [if_neg e1,if_neg e2,if_neg e3,if_pos e4]
   rw [es]
   exact gstep_fm c2 enters_g4 (read_step hM h (ok.c4 e4) e4)
 rw [if_neg e4] at c2
 by_cases e5:G.nx=5
 · rw [if_pos e5] at c2
   rw [show gdone (lm M) G=false by unfold gdone; rw [if_neg (by omega),if_neg (by omega)]; simp; omega]
   have es:gstep (lm M) G=({lm M with xs:=M.xs.set (G.nw.2+(G.bucket+G.half*G.el.1)) ((sel G.C.fi G.half:Nat):Int)},toStore {G with half:=G.half+1}):=by unfold gstep; rw [if_neg e1,if_neg e2,if_neg e3,if_neg e4,if_pos e5]
   rw [es]
   obtain ⟨o1,o2,o3,o4⟩:=ok.c5 e5
   exact gstep_fm c2 enters_g5 (store_step hM h e5 o1 o2 o3 hbk (by omega) o4)
 rw [if_neg e5] at c2
 by_cases e6:G.nx=6
 · rw [if_pos e6] at c2
   rw [show gdone (lm M) G=false by unfold gdone; rw [if_neg (by omega),if_neg (by omega)]; simp; omega]
   have es:gstep (lm M) G=({lm M with xs:=M.xs.set 1 G.num},waitNew G):=by unfold gstep; rw [if_neg e1,if_neg e2,if_neg e3,if_neg e4,if_neg e5,if_pos e6]
   rw [es]
   exact gstep_fm c2 enters_g6 (count_step hM h e6 ok.x1 (ok.c6 e6))
 rw [if_neg e6] at c2
 by_cases e7:G.nx=7
 · rw [if_pos e7] at c2
   have ed:gdone (lm M) G=decide (G.W.at_=3∧G.pass=[]):=by unfold gdone; rw [if_neg (by omega),if_pos e7]
   have es:gstep (lm M) G=({lm M with xs:=(wstep M.k.toNat M.xs M.hs G.W).1,hs:=(wstep M.k.toNat M.xs M.hs G.W).2.1},{G with W:=(wstep M.k.toNat M.xs M.hs G.W).2.2,nx:=if G.W.at_=3 then (if G.pass=[] then 9 else 8) else 7}):=by
    unfold gstep; rw [if_neg e1,if_neg e2,if_neg e3,if_neg e4,if_neg e5,if_neg e6,if_pos e7]
   rw [ed,es]
   obtain ⟨o1,o2⟩:=ok.c7 e7
   unfold gready at hr
   rw [if_pos e7] at hr
   exact gstep_fm c2 enters_g7 (waitOn_step hM h e7 (n:=M.k.toNat) (by have:0≤M.k:=o1; omega) o2 hr)
 rw [if_neg e7] at c2
 have e8:G.nx=8:=by omega
 rw [if_pos e8] at c2
 rw [show gdone (lm M) G=false by unfold gdone; rw [if_neg (by omega),if_neg (by omega)]; simp; omega]
 obtain ⟨x,y,ls,t,k,hp,hx,hk⟩:=ok.c8 e8
 have es:gstep (lm M) G=({lm M with ss:=Pu.lnk M.ss x y},if t=[] then waitNew {G with pass:=if 1<((x,y)::ls).length then G.later++[ls] else G.later,later:=[]} else {G with pass:=t,later:=if 1<((x,y)::ls).length then G.later++[ls] else G.later}):=by
  unfold gstep; rw [if_neg e1,if_neg e2,if_neg e3,if_neg e4,if_neg e5,if_neg e6,if_neg e7,hp]
  rfl
 rw [es]
 exact gstep_fm c2 enters_g8 (part_step hM h e8 hp ok.pass.2 hx hk)
end
theorem gro_frm:Frm grL 138 264 265 Okgr gready gstep gdone where
 below h hb:=h.below hb
 mr b w f:=by kernel_rfl
 ms b w f:=by kernel_rfl
 er args w:=by kernel_rfl
 es args w:=by kernel_rfl
 ready hM h ok:=gro_ready hM h ok
 step hM h ok hr:=gro_step hM h ok hr
end Go.Proofs.YtpobbnllcoabhaaGreat.Gw
namespace Go.Proofs.YtpobbnllcoabhaaGreat.Zp
open Go Hm Ar Mm Wk Pc Me Mq Pu Pn Gt Qs
theorem Cx.same {ss:List Sl} {x y:Nat} {q q':List Mq.Hp} (hl:ss.length≤1024) (h:Cx ss x q) (h':Cx ss y q') {a b:Mq.Hp} (ha:a∈q) (hb:b∈q') (e:a.1=b.1):a.2.1=b.2.1:=by
 obtain ⟨k,z,h1,h2⟩:=h.at a ha
 obtain ⟨k',z',h3,h4⟩:=h'.at b hb
 rw [e] at h1
 have:=h1.uniq hl h3
 subst this
 rw [h2] at h4
 exact congrArg Nd.key h4
theorem Cx.nodup {ss:List Sl} {x:Nat} {q:List Mq.Hp} (hl:ss.length≤1024) (h:Cx ss x q) (hk:(kys q).Nodup):(hds q).Nodup:=by
 induction h with
 | nil=>simp
 | @cons x k z p t a b c ih=>
   have hk':p.1∉kys t∧(kys t).Nodup:=List.nodup_cons.1 hk
   refine List.nodup_cons.2 ⟨fun hm=>?_,ih hk'.2⟩
   obtain ⟨e,he,hx⟩:=List.mem_map.1 hm
   have:=Cx.same hl (.cons a b c) c (a:=(x,p)) (b:=e) (by simp) he hx.symm
   exact hk'.1 (List.mem_map.2 ⟨e,he,this.symm⟩)
theorem own_bk {n b:Nat} {c:List Mq.Hp} {l:List Pr} (hpw:FM.power n=true) (hpw2:FM.power ((2*n:Nat):Int)=true) (hb:b<2*n) (h:prs c=l.filter fun p=>decide (bkt p.1 n=b % n)):prs (c.filter fun a=>sd n a.2.1==decide (n≤b))=l.filter fun p=>decide (bkt p.1 (2*n)=b):=by
 have hn:=FM.power_bd hpw
 have h1:prs (c.filter fun a=>sd n a.2.1==decide (n≤b))=(prs c).filter fun p=>sd n p.1==decide (n≤b):=by
  simp only [prs,List.filter_map]
  rfl
 rw [h1,h,List.filter_filter]
 apply List.filter_congr
 intro p _
 obtain ⟨h2,h3,h4⟩:=bkt_two hpw hpw2 p.1
 rw [Bool.eq_iff_iff]
 simp only [Bool.and_eq_true,beq_iff_eq,decide_eq_true_eq]
 have h5:sd n p.1=decide (n≤bkt p.1 (2*n)):=rfl
 have hbm:b=b % n+(if n≤b then n else 0):=by
  split
  · rename_i q
    rw [Nat.mod_eq_sub_mod q,Nat.mod_eq_of_lt (by omega)]
    omega
  · rw [Nat.mod_eq_of_lt (by omega)]
    omega
 constructor
 · rintro ⟨q1,q2⟩
   rw [h4,hbm,q2,q1]
   by_cases hq:n≤b<;>simp [hq]
 · intro q
   subst q
   exact ⟨h5,h2.symm⟩
end Go.Proofs.YtpobbnllcoabhaaGreat.Zp
namespace Go.Proofs.YtpobbnllcoabhaaGreat.Gw
open Go Hm Ar Mm Wk Pc Me Mq Pu Pn Gt Qs Zp Mx
theorem nth_app {xs:List Int} {n:Nat} (i:Nat):Cl.nth (xs++List.replicate n 0) i=Cl.nth xs i:=by
 unfold Cl.nth
 simp only [List.getD_eq_getElem?_getD]
 by_cases h:i<xs.length
 · rw [List.getElem?_append_left h]
 · rw [List.getElem?_append_right (by omega),List.getElem?_replicate,List.getElem?_eq_none (by omega)]
   split<;>rfl
theorem nth_beyond {xs:List Int} {i:Nat} (h:xs.length≤i):Cl.nth xs i=0:=by unfold Cl.nth; simp [List.getD,h]
theorem tab_app {ds:List (Nat×Nat)} {d:Nat×Nat} (i:Nat):tab (ds++[d]) i=if i=ds.length then d else tab ds i:=by
 unfold tab
 simp only [List.getD_eq_getElem?_getD]
 by_cases h:i<ds.length
 · rw [List.getElem?_append_left h,if_neg (by omega)]
 · rw [List.getElem?_append_right (by omega)]
   by_cases e:i=ds.length
   · rw [if_pos e,e]; simp
   · rw [if_neg e,List.getElem?_eq_none (by simp; omega),List.getElem?_eq_none (by omega)]
theorem holset {hs:List Int} (h:0<hs.length) (v:Int):Lo.hol (hs.set 0 v) 0=v:=by unfold Lo.hol List.getD; simp [h]
inductive Wth (P:Nat→List (Nat×Nat)→Prop):List Nat→List (List (Nat×Nat))→Prop
 | nil:Wth P [] []
 | cons {e:Nat} {es:List Nat} {l:List (Nat×Nat)} {ls:List (List (Nat×Nat))}:P e l→Wth P es ls→Wth P (e::es) (l::ls)
section
variable {P P':Nat→List (Nat×Nat)→Prop} {es:List Nat} {ls:List (List (Nat×Nat))}
theorem Wth.snoc (h:Wth P es ls) {e:Nat} {l:List (Nat×Nat)} (hl:P e l):Wth P (es++[e]) (ls++[l]):=by
 induction h with
 | nil=>exact .cons hl .nil
 | cons a _ ih=>exact .cons a ih
theorem Wth.mono (h:Wth P es ls) (hp:∀ e∈es,∀ l,P e l→P' e l):Wth P' es ls:=by
 induction h with
 | nil=>exact .nil
 | cons a _ ih=>exact .cons (hp _ (by simp) _ a) (ih fun e he=>hp e (List.mem_cons_of_mem _ he))
theorem Wth.len (h:Wth P es ls):es.length=ls.length:=by
 induction h with
 | nil=>rfl
 | cons _ _ ih=>simp [ih]
end
def tot (ps:List (List (Nat×Nat))):Nat:=(ps.map List.length).sum
theorem tot_snoc (ps:List (List (Nat×Nat))) (l:List (Nat×Nat)):tot (ps++[l])=tot ps+l.length:=by unfold tot; simp
theorem tot_cons (ps:List (List (Nat×Nat))) (l:List (Nat×Nat)):tot (l::ps)=l.length+tot ps:=by unfold tot; simp
def Pt (Z:Zs) (e:Nat) (l:List (Nat×Nat)):Prop:=e<Z.n∧l≠[]∧Lnk (sd Z.n) (Z.r e) (Z.rest e) l
def wl (W:Wt):Nat:=if W.at_=0 then 11 else if W.at_=1 then 10 else if W.at_=2 then 9-W.passed else 1
def Cel (Z:Zs) (L:Lm) (b h:Nat):Prop:=∀ c,c<2*Z.n→Cl.nth L.xs (Z.B2+c)=if c % Z.n<b∨(c % Z.n=b∧c<Z.n*h) then ((Z.head c:Nat):Int) else 0
def Lst (Z:Zs) (G:Gr) (b:Nat):Prop:=∃ ids,Wth (Pt Z) ids G.pass∧ids.Nodup∧(∀ e∈ids,e<b)∧(∀ e,e<b→e∉ids→Z.rest e=[])∧(∀ l∈G.pass,l.length≤Z.few)∧tot G.pass≤b*Z.few
def mB (Z:Zs):Nat:=1+12*(Z.few+1)+Z.n*Z.few
theorem tabs_len {xs xs':List Int} {ds:List (Nat×Nat)} (h:Tabs xs ds) (e:xs'.length=xs.length):Tabs xs' ds:=fun i hi=>by have:=h i hi; omega
structure Jc (n0:Nat) (l:List Pr) (Z:Zs) (L:Lm) (G:Gr) (m:Nat):Prop where
 nn:Z.n=n0
 al:∀ e,e<Z.n→prs (Z.All e)=l.filter fun p=>decide (bkt p.1 Z.n=e)
 wk:0≤G.worker∧G.worker≤1000
 err:G.err=0
 el:G.nx≠1→G.el=(Z.n,Z.B)
 k:1≤L.k∧L.k≤8
 pd:Cl.nth L.xs 0+m≤4611686018427387904
 hl:0<L.hs.length
 hol:G.nx≠7→Lo.hol L.hs 0= -1
 xb:Z.B2+2*Z.n≤1048576
 xl:L.xs.length=if G.nx≤2 then Z.B2 else Z.B2+2*Z.n
 ds:L.ds.length≤800001∧(G.nx≤2→L.ds.length≤800000)
 nw:3≤G.nx→G.nw=(2*Z.n,Z.B2)∧∃ t:Nat,G.num=t∧t≤900000∧tab L.ds t=(2*Z.n,Z.B2)
 later:G.nx≠8→G.later=[]
 bk:G.bucket≤Z.n
 b5:4≤Z.B2
 pos:∀ e,e<Z.n→∀ a∈Z.All e,a.1≠0∧a.1≤18446744073709551615
 tabs:Tabs L.xs L.ds
inductive Jp (Z:Zs) (L:Lm) (G:Gr) (old:Nat→Int→Nat→Prop):Nat→Prop
 | p1 {m:Nat}:G.nx=1→Z.pub=false→(∀ w p e,old w p e)→G.bucket=0→G.pass=[]→2+Z.n*(Z.few+4)+mB Z≤m→Jp Z L G old m
 | p2 {m:Nat}:G.nx=2→Z.pub=false→(∀ w p e,old w p e)→G.bucket=0→G.pass=[]→1+Z.n*(Z.few+4)+mB Z≤m→Jp Z L G old m
 | p3 {m:Nat}:G.nx=3→Z.pub=false→(∀ w p e,old w p e)→G.bucket<Z.n→Cel Z L G.bucket 0→Lst Z G G.bucket→(Z.n-G.bucket)*(Z.few+4)+mB Z≤m→Jp Z L G old m
 | p4 {m:Nat} (p q:List Mq.Hp):G.nx=4→Z.pub=false→(∀ w p e,old w p e)→G.bucket<Z.n→Cel Z L G.bucket 0→Lst Z G G.bucket→Z.All G.bucket=p++q→q≠[]→G.at_=hdH q→G.C=chn (sd Z.n) p→
    q.length+3+(Z.n-G.bucket-1)*(Z.few+4)+mB Z≤m→Jp Z L G old m
 | p5 {m:Nat}:G.nx=5→Z.pub=false→(∀ w p e,old w p e)→G.bucket<Z.n→Cel Z L G.bucket G.half→Lst Z G (G.bucket+1)→(∀ b,sel G.C.fi (hf b)=hdH ((Z.All G.bucket).filter fun a=>sd Z.n a.2.1==b))→G.half≤1→
    (2-G.half)+(Z.n-G.bucket-1)*(Z.few+4)+mB Z≤m→Jp Z L G old m
 | p6 {m:Nat}:G.nx=6→Z.pub=false→(∀ w p e,old w p e)→Cel Z L Z.n 0→Lst Z G Z.n→mB Z≤m→Jp Z L G old m
 | p7 {m:Nat} (t:Nat) (ids:List Nat):G.nx=7→Z.pub=true→(∀ w p e,old w p e↔oldW G.W w p e)→Qs.Okw L.k.toNat L.xs L.hs G.W→0≤G.W.worker→(G.W.at_≤1→G.W.passed=0)→(G.W.at_=0→Lo.hol L.hs 0= -1)→Wth (Pt Z) ids G.pass→ids.Nodup→(∀ e,e<Z.n→e∉ids→Z.rest e=[])→
    (∀ l∈G.pass,l.length≤t)→wl G.W+12*t+tot G.pass≤m→Jp Z L G old m
 | p8 {m:Nat} (t:Nat) (ids ids':List Nat):G.nx=8→Z.pub=true→(∀ e∈ids,∀ w p,¬old w p e)→Wth (Pt Z) ids G.pass→Wth (Pt Z) ids' G.later→(ids++ids').Nodup→(∀ e,e<Z.n→e∉ids++ids'→Z.rest e=[])→G.pass≠[]→
    (∀ l∈G.pass,l.length≤t+1)→(∀ l∈G.later,l.length≤t)→G.later.length≤Z.n→12*(t+1)+tot G.pass+tot G.later≤m→Jp Z L G old m
def J (n0:Nat) (l:List Pr) (Z:Zs) (old:Nat→Int→Nat→Prop) (L:Lm) (G:Gr) (m _c:Nat):Prop:=Jc n0 l Z L G m∧Jp Z L G old m
section
variable {n0:Nat} {l:List Pr} {Z:Zs} {L:Lm} {G:Gr} {m c:Nat} {old:Nat→Int→Nat→Prop}
theorem Jp.pos (h:Jp Z L G old m):1≤m:=by
 cases h with
 | p1 _ _ _ _ _ h=>unfold mB at h; omega
 | p2 _ _ _ _ _ h=>unfold mB at h; omega
 | p3 _ _ _ _ _ _ h=>unfold mB at h; omega
 | p4 p q _ _ _ _ _ _ _ _ _ _ h=>unfold mB at h; omega
 | p5 _ _ _ _ _ _ _ _ h=>unfold mB at h; omega
 | p6 _ _ _ _ _ h=>unfold mB at h; omega
 | p7 t ids _ _ _ hk _ _ _ _ _ _ _ h=>
   have h1:=hk.at_
   have h2:=hk.passed
   have h3:=hk.n1
   unfold wl at h
   split at h
   · omega
   split at h
   · omega
   split at h
   · have:=h2.2 (by omega)
     omega
   · omega
 | p8 t ids ids' _ _ _ _ _ _ _ _ _ _ _ h=>omega
theorem Jp.nx (h:Jp Z L G old m):1≤G.nx∧G.nx≤8:=by
 cases h<;>omega
end
end Go.Proofs.YtpobbnllcoabhaaGreat.Gw
namespace Go.Proofs.YtpobbnllcoabhaaGreat.Gw
open Go Hm Ar Mm Wk Pc Me Mq Pu Pn Gt Qs Zp Mx
theorem nodup_le:∀ (n:Nat) (l:List Nat),l.Nodup→(∀ x∈l,x<n)→l.length≤n:=by
 intro n
 induction n with
 | zero=>
   intro l _ h
   cases l with
   | nil=>simp
   | cons a t=>exact absurd (h a (by simp)) (by omega)
 | succ n ih=>
   intro l hn h
   by_cases hm:n∈l
   · have h1:=List.length_erase_of_mem hm
     have h2:=ih (l.erase n) (hn.erase n) fun x hx=>by
      have hx':=(hn.mem_erase_iff).1 hx
      have:=h x hx'.2
      have:=hx'.1
      omega
     have h3:0<l.length:=List.length_pos_of_mem hm
     omega
   · have:=ih l hn fun x hx=>by
      have h1:=h x hx
      have:x≠n:=fun e=>hm (e▸hx)
      omega
     omega
theorem chn_bd (σ:ByteArray→Bool):∀ (n:Nat) (p:List Mq.Hp),p.length=n→(chn σ p).half≤1∧(chn σ p).lk.length≤p.length∧(chn σ p).met=(hds p).reverse:=by
 intro n
 induction n with
 | zero=>
   intro p hl
   have:p=[]:=List.eq_nil_of_length_eq_zero hl
   subst this
   exact ⟨by simp [chn,Ch.new],by simp [chn,Ch.new],rfl⟩
 | succ n ih=>
   intro p hl
   obtain ⟨q,a,rfl⟩:∃ q a,p=q++[a]:=⟨p.dropLast,p.getLast (by rintro rfl; simp at hl),(List.dropLast_concat_getLast _).symm⟩
   obtain ⟨h1,h2,h3⟩:=ih q (by simp at hl; omega)
   rw [chn_snoc]
   generalize chn σ q=C at*
   refine ⟨hf_le _,?_,?_⟩
   · unfold Ch.add
     simp only [List.length_append,List.length_singleton]
     split
     · omega
     split
     · simp; omega
     · omega
   · show a.1::C.met=_
     rw [h3]
     simp [hds]
section
variable {n0:Nat} {l:List Pr} {Z:Zs} {L:Lm} {G:Gr} {m c:Nat} {old:Nat→Int→Nat→Prop}
theorem n_bd (hZ:ZD l Z L):1≤Z.n∧Z.n≤32768:=by
 have h1:=FM.power_bd hZ.1.pw
 have h2:=FM.power_bd hZ.1.pw2
 omega
theorem fresh_cx (hZ:ZD l Z L) (hp:Z.pub=false) {e:Nat} (he:e<Z.n):Cx L.ss (hdH (Z.All e)) (Z.All e)∧(hds (Z.All e)).Nodup∧Zip L.ss (sd Z.n) (Z.All e) (Z.s e) (Z.X e) (Z.Y e) [] (Z.r e) [] (Z.rest e)∧Z.All e=Z.r e++Z.rest e:=by
 obtain ⟨f1,f2,f3⟩:=hZ.1.fr hp e he
 have hz:=hZ.1.zip e he
 rw [f1,f2] at hz
 have h1:=hz.own
 have h2:=hz.nd
 rw [List.nil_append,← f3] at h1
 rw [List.nil_append,List.append_nil,← f3] at h2
 refine ⟨?_,h2,hz,f3⟩
 rw [← Cx.hd h1]
 exact h1
theorem fresh_head (hZ:ZD l Z L) (hp:Z.pub=false) {b:Nat} (hb:b<2*Z.n):Z.head b=hdH ((Z.All (b % Z.n)).filter fun a=>sd Z.n a.2.1==decide (Z.n≤b)):=by
 have hn:=n_bd hZ
 have he:b % Z.n<Z.n:=Nat.mod_lt _ (by omega)
 obtain ⟨h1,h2,h3,h4⟩:=fresh_cx hZ hp he
 have hfs:=h3.fs
 have hfv:=h3.fv
 rw [List.nil_append] at hfs hfv
 have hX:=Cx.hd h3.own
 have hY:=Cx.hd h3.oth
 rw [List.nil_append] at hX hY
 unfold Zs.head
 by_cases hs:decide (Z.n≤b)=Z.s (b % Z.n)
 · rw [if_pos hs,hs,hfs,hX]
   cases hr:Z.r (b % Z.n) with
   | nil=>
     have:Z.rest (b % Z.n)=[]:=by
      cases hq:Z.rest (b % Z.n) with
      | nil=>rfl
      | cons x t=>exact absurd hr (h3.ne (by rw [hq]; simp))
     rw [this]
     rfl
   | cons x t=>rfl
 · rw [if_neg hs]
   have hs':decide (Z.n≤b)= !(Z.s (b % Z.n)):=by
    revert hs
    cases decide (Z.n≤b)<;>cases Z.s (b % Z.n)<;>simp
   rw [hs',hfv,hY]
   cases hq:Z.rest (b % Z.n) with
   | nil=>rfl
   | cons x t=>
     have:=h3.hd x t hq
     rw [List.filter_cons,if_pos (by rw [this]; simp)]
     rfl
theorem hfs_eq (hZ:ZD l Z L) (h:Jc n0 l Z L G m) (h3:3≤G.nx) (key:ByteArray):hfs G (sm key)=hf (sd Z.n key):=by
 have hn:=n_bd hZ
 obtain ⟨t1,t2,t3⟩:=bkt_two hZ.1.pw hZ.1.pw2 key
 have h1:=(bkt_lt hZ.1.pw2 key).2
 have h2:=(bkt_lt hZ.1.pw key).1
 unfold hfs
 rw [(h.nw h3).1,h.el (by omega)]
 simp only
 rw [h1,t3]
 unfold hf
 split
 · rw [← Int.natCast_ediv,Int.toNat_natCast,Nat.add_div_right _ (by omega),Nat.div_eq_of_lt h2]
 · rw [← Int.natCast_ediv,Int.toNat_natCast,Nat.add_zero,Nat.div_eq_of_lt h2]
theorem p4_at (hZ:ZD l Z L) (h:Jc n0 l Z L G m) (hp:Z.pub=false) (hb:G.bucket<Z.n) {p q:List Mq.Hp} {e:Mq.Hp} (hA:Z.All G.bucket=p++e::q) (hat:G.at_=e.1):
 ∃ k,IsAt L.ss G.at_ k∧(G.at_-1) % 65536=k∧(at' L.ss k).nd=ndp e.2 (hdH q)∧hdH q∉G.at_::(hds p).reverse∧hdH q≤18446744073709551615:=by
 obtain ⟨h1,h2,h3,h4⟩:=fresh_cx hZ hp hb
 have hcx:Cx L.ss (hdH (e::q)) (e::q):=by
  have:Cx L.ss (hdH (Z.All G.bucket)) (p++e::q):=by rw [← hA]; exact h1
  exact Cx.back p this
 obtain ⟨ex,ep⟩:=e
 obtain ⟨k,z,a1,a2,a3⟩:=hcx.tail
 have hz:=Cx.hd a3
 subst hz
 simp only at hat
 rw [hat]
 refine ⟨k,a1,(isAt_parts hZ.1.len a1).1,a2,?_,?_⟩
 · rw [hA] at h2
   have hnd:(hds p++ex::hds q).Nodup:=by simpa [hds] using h2
   intro hm
   cases q with
   | nil=>
     rcases List.mem_cons.1 hm with e | hm
     · exact a1.pos e.symm
     · have hm:=List.mem_reverse.1 hm
       obtain ⟨y,hy,e⟩:=List.mem_map.1 hm
       exact (h.pos _ hb y (by rw [hA]; simp [hy])).1 e
   | cons e' q'=>
     have h5:=List.nodup_append.1 hnd
     have h6:=List.nodup_cons.1 h5.2.1
     rcases List.mem_cons.1 hm with e | hm
     · exact h6.1 (by rw [← e]; simp [hds,hdH])
     · have hm:=List.mem_reverse.1 hm
       exact h5.2.2 _ hm _ (by simp [hds,hdH]) rfl
 · cases q with
   | nil=>simp [hdH]
   | cons e' q'=>exact (h.pos _ hb e' (by rw [hA]; simp)).2
theorem wth_le (hZ:ZD l Z L) {ids:List Nat} {ls:List (List (Nat×Nat))} (h:Wth (Pt Z) ids ls) (hn:ids.Nodup):ls.length≤Z.n:=by
 rw [← h.len]
 refine nodup_le _ _ hn fun x hx=>?_
 clear hn
 induction h with
 | nil=>simp at hx
 | cons a _ ih=>
   rcases List.mem_cons.1 hx with rfl | hx
   · exact a.1
   · exact ih hx
theorem J.ok (h:J n0 l Z old L G m c) (hZ:ZD l Z L):Okgr L G:=by
 obtain ⟨hc,hp⟩:=h
 have hn:=n_bd hZ
 have hnx:=hp.nx
 have hkB:=hZ.1.kB
 have hbb:=hZ.1.bb
 have hxl:=hZ.1.xl
 have hk:=hc.k
 have hxb:=hc.xb
 have hlen:=hc.xl
 have hfew:=hZ.2
 have hn3:∀ (a2:G.pass.length≤100000∧G.later.length≤100000) (a3:G.nx=3→G.bucket<Z.n) (a4:G.nx=4→Okr L G) (a5:G.nx=5→G.bucket<Z.n∧G.half≤1∧sel G.C.fi G.half≤18446744073709551615) (a7:G.nx=7→Qs.Okw L.k.toNat L.xs L.hs G.W) (a8:G.nx=8→∃ x y ls t k,G.pass=((x,y)::ls)::t∧x≤18446744073709551615∧IsAt L.ss x k),Okgr L G:=fun a2 a3 a4 a5 a7 a8=>
  ⟨hnx,by omega,hc.hl,by have:=hc.ds.1; omega,fun q=>by rw [hc.el q]; simp only; omega,by have:=hc.bk; omega,a2,fun q=>hc.later (by omega),fun q=>by
   have:=a3 q
   rw [hc.el (by omega)]
   simp only
   omega,a4,fun q=>by
   obtain ⟨b1,b2,b3⟩:=a5 q
   refine ⟨b2,?_,b3,?_⟩
   · rw [(hc.nw (by omega)).1,hc.el (by omega),hlen,if_neg (by omega)]
     simp only
     have:G.half=0∨G.half=1:=by omega
     rcases this with e | e<;>rw [e]<;>omega
   · rw [(hc.nw (by omega)).1]
     simp only
     omega,fun q=>by
   obtain ⟨_,t,e,ht,_⟩:=hc.nw (by omega)
   rw [e]
   omega,fun q=>⟨by omega,a7 q⟩,a8⟩
 have lstl:∀ {b:Nat},b≤Z.n→Lst Z G b→G.pass.length≤100000:=fun {b} hb hL=>by
  obtain ⟨ids,h1,h2,_⟩:=hL
  have:=wth_le hZ h1 h2
  omega
 have hlat:G.nx≠8→G.later.length≤100000:=fun q=>by rw [hc.later q]; simp
 cases hp with
 | p1 e _ _ hb hps _=>exact hn3 ⟨by rw [hps]; simp,hlat (by omega)⟩ (by omega) (by omega) (by omega) (by omega) (by omega)
 | p2 e _ _ hb hps _=>exact hn3 ⟨by rw [hps]; simp,hlat (by omega)⟩ (by omega) (by omega) (by omega) (by omega) (by omega)
 | p3 e _ _ hb _ hL _=>exact hn3 ⟨lstl (by omega) hL,hlat (by omega)⟩ (fun _=>hb) (by omega) (by omega) (by omega) (by omega)
 | p4 p q e hpub _ hb _ hL hA hq hat hC _=>
   refine hn3 ⟨lstl (by omega) hL,hlat (by omega)⟩ (by omega) (fun _=>?_) (by omega) (by omega) (by omega)
   cases q with
   | nil=>exact absurd rfl hq
   | cons e0 q'=>
     have hat':G.at_=e0.1:=hat
     obtain ⟨k,a1,a2,a3,a4,a5⟩:=p4_at hZ hc hpub hb hA hat'
     obtain ⟨b1,b2,b3⟩:=chn_bd (sd Z.n) _ p rfl
     have hpl:p.length≤35:=by
      have:=hZ.1.few.1 _ hb
      rw [hA] at this
      simp at this
      omega
     have hsum:(at' L.ss k).nd.sum=sm e0.2.1:=by rw [a3]; rfl
     have hnext:(at' L.ss k).nd.next=((hdH q':Nat):Int):=by rw [a3]; rfl
     have hs:=sm_bd e0.2.1
     refine ⟨by rw [a2]; exact a1,by rw [hat']; exact (hc.pos _ hb e0 (by rw [hA]; simp)).2,by rw [a2,hsum]; exact hs,by rw [a2,hnext]; omega,?_,?_,by rw [hc.el (by omega),(hc.nw (by omega)).1]; simp only; omega,?_,by rw [hC]; exact b1,by rw [hC]; omega,lstl (by omega) hL,hc.later (by omega),by omega⟩
     · rw [a2,hnext,Int.toNat_natCast,hC,b3]
       exact a4
     · rw [a2,hsum,hfs_eq hZ hc (by omega)]
       exact hf_le _
     · rw [hC,b3]
       refine ⟨fun hm=>?_,by simp; omega⟩
       obtain ⟨y,hy,e⟩:=List.mem_map.1 (List.mem_reverse.1 hm)
       exact (hc.pos _ hb y (by rw [hA]; simp [hy])).1 e
 | p5 e hpub _ hb _ hL hfi hh _=>
   refine hn3 ⟨lstl (by omega) hL,hlat (by omega)⟩ (by omega) (by omega) (fun _=>⟨hb,hh,?_⟩) (by omega) (by omega)
   have h2:∀ b:Bool,hdH ((Z.All G.bucket).filter fun a=>sd Z.n a.2.1==b)≤18446744073709551615:=fun b=>by
    cases hq:(Z.All G.bucket).filter fun a=>sd Z.n a.2.1==b with
    | nil=>simp [hdH]
    | cons a t=>
      have:a∈Z.All G.bucket:=(List.mem_filter.1 (show a∈(Z.All G.bucket).filter fun a=>sd Z.n a.2.1==b by rw [hq]; simp)).1
      exact (hc.pos _ hb a this).2
   have:G.half=0∨G.half=1:=by omega
   rcases this with e | e
   · rw [e,show (0:Nat)=hf false from rfl,hfi]; exact h2 _
   · rw [e,show (1:Nat)=hf true from rfl,hfi]; exact h2 _
 | p6 e _ _ _ hL _=>exact hn3 ⟨lstl (Nat.le_refl _) hL,hlat (by omega)⟩ (by omega) (by omega) (by omega) (by omega) (by omega)
 | p7 t ids e hpub _ hok _ _ _ hw hnd _ _ _=>exact hn3 ⟨by have:=wth_le hZ hw hnd; omega,hlat (by omega)⟩ (by omega) (by omega) (by omega) (fun _=>hok) (by omega)
 | p8 t ids ids' e hpub hold hw hw' hnd _ hne _ _ hll _=>
   have h1:=wth_le hZ hw (List.nodup_append.1 hnd).1
   refine hn3 ⟨by omega,by omega⟩ (by omega) (by omega) (by omega) (by omega) (fun _=>?_)
   obtain ⟨ps,hps⟩:∃ ps,ps=G.pass:=⟨_,rfl⟩
   rw [← hps] at hw hne ⊢
   cases hw with
   | nil=>exact absurd rfl hne
   | @cons e0 es l0 ls0 hP _=>
     obtain ⟨he,hl0,hL⟩:=hP
     generalize hr:Z.r e0=r at hL
     generalize hq:Z.rest e0=rest at hL
     cases hL with
     | nil=>exact absurd rfl hl0
     | @cons r0 d t0 a s ls' _ _ _ _=>
       have hz:=hZ.1.zip e0 he
       have ho:=hz.own
       obtain ⟨k,_,hk,_⟩:=ho.at a (by rw [hr]; simp)
       exact ⟨a.1,hdH t0,ls',ls0,k,rfl,(hc.pos _ he a (hz.sub a (by rw [hr]; simp))).2,hk⟩
end
end Go.Proofs.YtpobbnllcoabhaaGreat.Gw
