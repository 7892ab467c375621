/- Walks and plain mathematics, put together in their order: GroF, GroG, GroH, GroI, GroJ, GroK. -/
import Derived.Test.YtpobbnllcoabhaaGreatDoorPart5
import Derived.Deep.DeepCutAuto
set_option linter.unusedVariables false
set_option linter.unusedSimpArgs false
namespace Go.Proofs.YtpobbnllcoabhaaGreatDoor.Gw
open Go Go.RowKit Hp K Fl Rw Hm Ar Mm Me Qs Wk Pn
set_option maxRecDepth 100000
def cfoot (a:Gl) (x:Nat):Prop:=x=a.f∨x=a.c∨x=a.B∨In a.LA x∨rfoot a true x
def Left (w:World) (a:Gl) (G':Gr) (w':World):Prop:=∃ a',GrAt w' a' G'∧a'.f=a.f∧(∀ x,gfoot a' G' x→cfoot a x∨w.heap.size≤x)∧Only (cfoot a) w w'
structure Along (w:World) (a:Gl) (G:Gr):Prop where
 own:Own w a G
 mid:Mid w a G.C
 rws:Rws w a G.pass G.later true
 later:G.later=[]
 met:0∉G.C.met
 half:G.C.half≤1
 lk:G.C.lk.length≤100000
 pass:G.pass.length≤100000
 bucket:G.bucket≤1000000
 el:G.el.1≤1000000
section
variable {w w':World} {M:Mo} {a:Gl} {G:Gr}
theorem toStore_eq (G:Gr):(toStore G).C=G.C∧(toStore G).pass=G.pass∧(toStore G).later=G.later∧((toStore G).nx=5∨(toStore G).nx=6∨(toStore G).nx=3):=by
 unfold toStore
 split
 · exact ⟨rfl,rfl,rfl,.inl rfl⟩
 · refine ⟨rfl,rfl,rfl,.inr ?_⟩
   simp only
   split
   · exact .inl rfl
   · exact .inr rfl
theorem Along.ended {w3:World} {a2:Gl} {G2:Gr} (hf:a2.f=a.f) (hc:a2.c=a.c) (hcv:a2.cv=a.cv) (cv:a.cv=ptr a.c) (hO:Own w3 a2 (toStore G2)) (hX:Fst w3 a.c G2.C.fi) (hR:Rws w3 a2 G2.pass G2.later true)
 (hfo:∀ x,rfoot a2 true x→cfoot a x∨w.heap.size≤x) (hOn:Only (cfoot a) w w3):Left w a (toStore G2) w3:=by
 obtain ⟨e1,e2,e3,e4⟩:=toStore_eq G2
 refine ⟨a2,⟨hO,fun q=>by omega,fun _=>⟨by rw [hcv,cv,hc],by rw [hc,e1]; exact hX⟩,fun q=>by omega,?_⟩,hf,fun x hx=>?_,hOn⟩
 · rw [e2,e3,show decide ((toStore G2).nx≤6)=true by simp; omega]
   exact hR
 · rcases hx with rfl | ⟨_,rfl⟩ | ⟨q,_⟩ | ⟨q,_⟩ | hx
   · exact .inl (.inl hf)
   · exact .inl (.inr (.inl hc))
   · omega
   · omega
   · rw [show decide ((toStore G2).nx≤6)=true by simp; omega] at hx
     exact hfo x hx
theorem cfoot_r {x:Nat} (h:rfoot a true x):cfoot a x:=.inr (.inr (.inr (.inr h)))
theorem Rws.lt {p q:List (List (Nat×Nat))} {g:Bool} (h:Rws w a p q g) {x:Nat} (hx:rfoot a g x):x<w.heap.size:=(h.ty hx).lt
theorem Along.rws_chain {S:Nat→Prop} (h:Along w a G) (ho:Only S w w') (hS:∀ x,S x→x=a.c∨In a.LA x):Rws w' a G.pass G.later true:=by
 refine h.rws.only ho fun x hx hs=>?_
 have hq:a.qs=[]:=by
  have:=h.rws.qs.len
  rw [h.later] at this
  exact List.eq_nil_of_length_eq_zero this
 rcases hS x hs with rfl | q
 · exact h.rws.chain h.mid.cb _ hx rfl
 · rcases hx with ⟨_,hx⟩ | hx | ⟨e,he,hx⟩ | ⟨e,he,hx⟩
   · exact (row_ty (h.rws.pr rfl) hx).apart (row_ty h.mid.lr q) (by decide)
   · exact (row_ty h.rws.qr hx).apart (row_ty h.mid.lr q) (by decide)
   · exact h.mid.ap e he x q hx
   · rw [hq] at he
     simp at he
theorem Along.own_chain {S:Nat→Prop} (h:Along w a G) (ho:Only S w w') (hS:∀ x,S x→x=a.c∨In a.LA x):Own w' a G:=by
 refine Blk.only h.own ho fun hs=>?_
 rcases hS _ hs with q | q
 · exact h.own.differ h.mid.cb (by decide) q
 · exact (row_ty h.mid.lr q).apart (blk_ty h.own) (by decide)
set_option maxHeartbeats 4000000 in
theorem endChain_none (h:Along w a G) (hov:G.C.over=[]):Calls Tryz.prog 179 #[ptr a.f,.int .u64 0] w fun e w'=>e=.returned (.tuple #[])∧Left w a (toStore {G with half:=0}) w':=by
 have c10:=h.own.cell 10
 simp only [grc,List.getElem?_toArray,List.getElem?_cons_succ,List.getElem?_cons_zero,h.mid.cv] at c10
 have hE:=end_any h.mid h.met h.half h.lk
 rw [hov] at hE
 replace hE:=Lib.hid hE
 replace hov:=Lib.hid hov
 have H:=Lib.hid h
 clear h
 go_enter Tryz.func179,Tryz.ntmps179
 go_wp2_with fail
 refine hE.out.mono ?_
 rintro e w1 ⟨A2,cap2,rfl,hL1,hA1,hF1,hO1⟩
 have hR1:=H.out.rws_chain hO1 (fun x q=>q)
 have hB1:=H.out.own_chain hO1 (fun x q=>q)
 have c12:=hB1.cell 12
 have c14:=hB1.cell 14
 have z12:=hB1.frozen 12
 have z14:=hB1.frozen 14
 simp only [grc,List.getElem?_toArray,List.getElem?_cons_succ,List.getElem?_cons_zero] at c12 c14
 replace hR1:=Lib.hid hR1
 replace hB1:=Lib.hid hB1
 replace hL1:=Lib.hid hL1
 replace hA1:=Lib.hid hA1
 replace hF1:=Lib.hid hF1
 have hO1c:=Lib.hid (hO1.mono (fun x _ q=>(q.elim (fun e=>.inr (.inl e)) (fun e=>.inr (.inr (.inr (.inl e)))):cfoot a x)))
 clear c10 hE hO1
 dsimp only [List.length_nil]
 have hB2:Own (w1.setCell ⟨a.f,12,none⟩ (.int .i64 0)) a {G with half:=0}:=Blk.store hB1.out 12 (.int .i64 0)
 have hO2:=(Only.refl (·=a.f) w1).setCell (p:=⟨a.f,12,none⟩) (.inl rfl) (.int .i64 0)
 have hF2:=hF1.out.only hO2 (hF1.out.ne hB1.out)
 have hR2:=Lib.hid (hR1.out.only hO2 (hR1.out.self hB1.out))
 have hT:=Lib.hid (toStore_any hB2 H.out.mid.cv hF2 (by simp) H.out.bucket H.out.el)
 replace hF2:=Lib.hid hF2
 have hO3:=Lib.hid (hO1c.out.trans' hO2 (fun x _ q=>.inl q))
 replace hB2:=Lib.hid hB2
 clear hO2
 go_wp2_with fail
 refine hT.out.mono ?_
 rintro e w3 ⟨rfl,hB3,hO4⟩
 have hF3:=hF2.out.only hO4 (hF2.out.ne hB2.out)
 have hR3:=hR2.out.only hO4 (hR2.out.self hB2.out)
 have hEnd:=Lib.hid (Along.ended (w:=w) (a2:=a) (G2:={G with half:=0}) rfl rfl rfl H.out.mid.cv hB3 hF3 hR3 (fun x hx=>.inl (cfoot_r hx)) (hO3.out.trans' hO4 (fun x _ q=>.inl q)))
 clear hB3 hO4 hF3 hR3 hT c12 c14 z12 z14
 go_wp2_with fail
 go_end0
 exact ⟨rfl,hEnd.out⟩
set_option maxHeartbeats 4000000 in
theorem endChain_some (h:Along w a G) {l:List (Nat×Nat)} (hov:G.C.over=l) (hl0:l≠[]):Calls Tryz.prog 179 #[ptr a.f,.int .u64 0] w fun e w'=>e=.returned (.tuple #[])∧Left w a (toStore {G with pass:=G.pass++[l],half:=0}) w':=by
 have c10:=h.own.cell 10
 simp only [grc,List.getElem?_toArray,List.getElem?_cons_succ,List.getElem?_cons_zero,h.mid.cv] at c10
 have hE:=end_any h.mid h.met h.half h.lk
 rw [hov] at hE
 replace hE:=Lib.hid hE
 replace hov:=Lib.hid hov
 have H:=Lib.hid h
 clear h
 have hlp:0<l.length:=List.length_pos_iff.2 hl0
 replace hl0:=Lib.hid hl0
 generalize hln:l.length=n at*
 replace hln:=Lib.hid hln
 go_enter Tryz.func179,Tryz.ntmps179
 go_wp2_with fail
 refine hE.out.mono ?_
 rintro e w1 ⟨A2,cap2,rfl,hL1,hA1,hF1,hO1⟩
 have hR1:=H.out.rws_chain hO1 (fun x q=>q)
 have hB1:=H.out.own_chain hO1 (fun x q=>q)
 have c12:=hB1.cell 12
 have c14:=hB1.cell 14
 have z12:=hB1.frozen 12
 have z14:=hB1.frozen 14
 simp only [grc,List.getElem?_toArray,List.getElem?_cons_succ,List.getElem?_cons_zero] at c12 c14
 replace hR1:=Lib.hid hR1
 replace hB1:=Lib.hid hB1
 replace hL1:=Lib.hid hL1
 replace hA1:=Lib.hid hA1
 replace hF1:=Lib.hid hF1
 have hO1c:=Lib.hid (hO1.mono (fun x _ q=>(q.elim (fun e=>.inr (.inl e)) (fun e=>.inr (.inr (.inr (.inl e)))):cfoot a x)))
 clear c10 hE hO1
 rw [hln.out]
 generalize hpn:a.ps.length=m at*
 replace hpn:=Lib.hid hpn
 have hps:=Lib.hid (show m≤100000 by
  have:=H.out.rws.ps.len
  have:=H.out.pass
  have:=hpn.out
  omega)
 have hlen:=hL1.out.capLe
 rw [hln.out] at hlen
 simp only [maxLen] at hlen
 obtain ⟨i0,hi0,hz0,hz1,hz2⟩:=info_parts info_row
 go_wp2_with (at_builtin
              refine wpList_append_one w1 rfl (.tmp 18) (.tmp 20) 147 rfl 217 i0 _ 1 24 Tryz.underlying147 hi0 hz0 hz1 hz2 rfl (by omega) elv elv_len (by intro x u hu; simp [elv] at hu; subst hu; rfl)
               a.PA a.pcap m a.ps hpn.out ⟨A2,n,cap2⟩ #[.slice A2 n cap2] rfl rfl (hR1.out.pr rfl) rfl (by have:=hps.out; simp only [maxLen]; omega) (by have:=hps.out; omega) ?_
              intro P2 pcap2 w2 hR2 hO2 hA2
              have hfP:∀ x,In a.PA x→rfoot a true x:=fun x q=>.inl ⟨.inr rfl,q⟩
              have hnf:¬In a.PA a.f:=fun q=>hR1.out.self hB1.out _ (hfP _ q) rfl
              have hnc:¬In a.PA a.c:=fun q=>by
               obtain ⟨cs,hb,_⟩:=hF1.out
               exact hR1.out.chain hb _ (hfP _ q) rfl
              have hB2:=Blk.only hB1.out hO2 hnf
              have d12:=hB2.cell 12
              have d14:=hB2.cell 14
              have y12:=hB2.frozen 12
              have y14:=hB2.frozen 14
              simp only [grc,List.getElem?_toArray,List.getElem?_cons_succ,List.getElem?_cons_zero] at d12 d14
              replace hR2:=Lib.hid hR2
              replace hO2:=Lib.hid hO2
              replace hA2:=Lib.hid hA2
              replace hB2:=Lib.hid hB2
              replace hfP:=Lib.hid hfP
              replace hnf:=Lib.hid hnf
              replace hnc:=Lib.hid hnc
              clear c12 c14 z12 z14)
 have hB3:Own ((w2.setCell ⟨a.f,14,none⟩ (.slice P2 (m+1) pcap2)).setCell ⟨a.f,12,none⟩ (.int .i64 0)) {a with PA:=P2,pcap:=pcap2,ps:=a.ps++[⟨A2,n,cap2⟩]} {G with pass:=G.pass++[l],half:=0}:=by
  have:=(hB2.out.store 14 (.slice P2 (m+1) pcap2)).store 12 (.int .i64 0)
  unfold Own grc
  simp only [List.length_append,List.length_singleton,hpn.out]
  exact this
 have hO3:=only2 (c:=a.f) w2 14 12 (.slice P2 (m+1) pcap2) (.int .i64 0)
 have hF3:=(hF1.out.only hO2.out hnc.out).only hO3 (hF1.out.ne hB1.out)
 have hRs:Rws w2 {a with PA:=P2,pcap:=pcap2,ps:=a.ps++[⟨A2,n,cap2⟩]} (G.pass++[l]) G.later true:=by
  have hP:=hR1.out.pr rfl
  have hLP:∀ b,In A2 b→¬In a.PA b:=fun b q1 q2=>(row_ty hL1.out q1).apart (row_ty hP q2) (by decide)
  have hsl:=hR1.out.qr
  refine ⟨(hR1.out.ps.only hO2.out fun e he b hb q=>(hR1.out.ps.ty e he b hb).apart (row_ty hP q) (by decide)).snoc ?_,hR1.out.qs.only hO2.out fun e he b hb q=>(hR1.out.qs.ty e he b hb).apart (row_ty hP q) (by decide),fun _=>hR2.out,PsRow.pl hR2.out,Row.capLe hR2.out,
   hsl.only hO2.out fun b hb q=>hR1.out.pq b q (.inr rfl) hb,fun b hb _ hq=>?_⟩
  · have:=LkRow.at (hL1.out.only hO2.out hLP) hl0.out
    rw [hln.out] at this
    exact this
  · rcases hA2.out b hb with q | q
    · exact hR1.out.pq b q (.inr rfl) hq
    · have:=hsl.lt hq
      omega
 have hw1:w.heap.size≤w1.heap.size:=hO1c.out.size
 have hfoot:∀ x,rfoot {a with PA:=P2,pcap:=pcap2,ps:=a.ps++[⟨A2,n,cap2⟩]} true x→cfoot a x∨w.heap.size≤x:=by
  rintro x (⟨_,hx⟩ | hx | ⟨e,he,hx⟩ | hx)
  · rcases hA2.out x hx with q | q
    · exact .inl (cfoot_r (hfP.out x q))
    · exact .inr (Nat.le_trans hw1 q)
  · exact .inl (cfoot_r (.inr (.inl hx)))
  · rcases List.mem_append.1 he with he | he
    · exact .inl (cfoot_r (.inr (.inr (.inl ⟨e,he,hx⟩))))
    · have:e=⟨A2,n,cap2⟩:=by simpa using he
      subst this
      rcases hA1.out x hx with q | q
      · exact .inl (.inr (.inr (.inr (.inl q))))
      · exact .inr q
  · exact .inl (cfoot_r (.inr (.inr (.inr hx))))
 have hO4:Only (cfoot a) w ((w2.setCell ⟨a.f,14,none⟩ (.slice P2 (m+1) pcap2)).setCell ⟨a.f,12,none⟩ (.int .i64 0)):=(hO1c.out.trans' hO2.out (fun x _ q=>cfoot_r (hfP.out x q))).trans' hO3 (fun x _ q=>.inl q)
 have hself:∀ x,rfoot {a with PA:=P2,pcap:=pcap2,ps:=a.ps++[⟨A2,n,cap2⟩]} true x→¬x=a.f:=fun x hx e=>(hRs.ty hx).apart (e▸blk_ty hB2.out:Ty w2 x [149]) (by decide)
 have hT:=Lib.hid (toStore_any hB3 H.out.mid.cv hF3 (by simp) H.out.bucket H.out.el)
 have hR3:=hRs.only hO3 hself
 replace hF3:=Lib.hid hF3
 replace hR3:=Lib.hid hR3
 replace hfoot:=Lib.hid hfoot
 replace hself:=Lib.hid hself
 replace hO4:=Lib.hid hO4
 replace hB3:=Lib.hid hB3
 clear hO3 hRs hw1 d12 d14 y12 y14
 refine hT.out.mono ?_
 rintro e w5 ⟨rfl,hB5,hO5⟩
 have hEnd:=Lib.hid (Along.ended (w:=w) (a:=a) (G2:={G with pass:=G.pass++[l],half:=0}) (a2:={a with PA:=P2,pcap:=pcap2,ps:=a.ps++[⟨A2,n,cap2⟩]}) rfl rfl rfl H.out.mid.cv hB5 (hF3.out.only hO5 (hF3.out.ne hB3.out)) (hR3.out.only hO5 hself.out) hfoot.out (hO4.out.trans' hO5 (fun x _ q=>.inl q)))
 clear hB5 hO5 hT
 go_wp2_with fail
 go_end0
 exact ⟨rfl,hEnd.out⟩
theorem endChain_any (h:Along w a G):Calls Tryz.prog 179 #[ptr a.f,.int .u64 0] w fun e w'=>e=.returned (.tuple #[])∧Left w a (endChain G) w':=by
 unfold endChain
 by_cases hov:G.C.over=[]
 · rw [if_pos hov]
   exact endChain_none h hov
 · rw [if_neg hov]
   exact endChain_some h rfl hov
end
end Go.Proofs.YtpobbnllcoabhaaGreatDoor.Gw
namespace Go.Proofs.YtpobbnllcoabhaaGreatDoor.Gw
open Go Go.RowKit Hp K Fl Rw Hm Ar Mm Me Qs Wk Pn
set_option maxRecDepth 100000
section
variable {w w':World} {M:Mo} {a:Gl} {G:Gr}
set_option maxHeartbeats 2000000 in
theorem comeTo_any (h:Along w a G) {x:Nat} (hx:x≤18446744073709551615) (hm:x∉G.C.met):Calls Tryz.prog 166 #[ptr a.f,.int .u64 x] w fun e w'=>e=.returned (.tuple #[])∧Left w a (comeTo G x) w':=by
 have c10:=h.own.cell 10
 have c11:=h.own.cell 11
 have z11:=h.own.frozen 11
 simp only [grc,List.getElem?_toArray,List.getElem?_cons_succ,List.getElem?_cons_zero,h.mid.cv] at c10 c11
 unfold comeTo
 by_cases h0:x=0
 · subst h0
   rw [if_pos rfl]
   have hE:=Lib.hid (endChain_any h)
   clear h c10 c11 z11
   go_enter Tryz.func166,Tryz.ntmps166
   go_wp2_with fail
   refine hE.out.mono ?_
   rintro e w1 ⟨rfl,hL⟩
   replace hL:=Lib.hid hL
   go_wp2_with fail
   exact bodyPost_ret (v:=.tuple #[]) (by simp [results,Tryz.results166]) rfl ⟨rfl,hL.out⟩
 · rw [if_neg h0]
   have hMt:=met_any h.mid hx
   rw [show decide (x∈G.C.met)=false by simpa using hm] at hMt
   replace hMt:=Lib.hid hMt
   have q0:((x:Int)==0)=false:=by simp; omega
   have hB1:Own (w.setCell ⟨a.f,11,none⟩ (.int .u64 x)) a {G with at_:=x}:=Blk.store h.own 11 (.int .u64 x)
   have hO1:=(Only.refl (·=a.f) w).setCell (p:=⟨a.f,11,none⟩) (.inl rfl) (.int .u64 x)
   have hG:=Lib.hid (goOn_any hB1 (n:=4) (by omega) rfl)
   have H:=Lib.hid h
   replace hO1:=Lib.hid hO1
   clear h hB1 h0
   go_enter Tryz.func166,Tryz.ntmps166
   go_wp2_with fail
   refine hMt.out.mono ?_
   rintro e w1 ⟨rfl,hw⟩
   obtain rfl:w=w1:=hw
   clear hMt
   go_wp2_with fail
   refine hG.out.mono ?_
   rintro e w2 ⟨rfl,hB2,hO2⟩
   have hO:=hO1.out.trans hO2
   have hd:∀ x,cfoot a x→x≠a.f→¬x=a.f:=fun x _ q=>q
   have hL:Left w a {G with at_:=x,nx:=4} w2:=by
    refine ⟨a,⟨hB2,fun _=>H.out.mid.only hO (fun e=>H.out.own.differ H.out.mid.cb (by decide) e.symm) (fun e=>H.out.mid.mt.no (by rw [e]; exact blk_ty H.out.own)) (fun b hb e=>(row_ty H.out.mid.lr hb).apart (e▸blk_ty H.out.own:Ty w b [149]) (by decide)),fun q=>by simp at q,fun q=>by simp at q,
     H.out.rws.only hO (H.out.rws.self H.out.own)⟩,rfl,fun x hx=>?_,hO.mono (fun x _ q=>.inl q)⟩
    rcases hx with rfl | ⟨_,rfl⟩ | ⟨_,hx | hx⟩ | ⟨q,_⟩ | hx
    · exact .inl (.inl rfl)
    · exact .inl (.inr (.inl rfl))
    · exact .inl (.inr (.inr (.inl hx)))
    · exact .inl (.inr (.inr (.inr (.inl hx))))
    · simp at q
    · exact .inl (cfoot_r hx)
   replace hL:=Lib.hid hL
   clear hB2 hO2 hO hG c10 c11 z11 q0 hd
   go_wp2_with fail
   go_end0
   exact ⟨rfl,hL.out⟩
set_option maxHeartbeats 2000000 in
theorem waitAnew_any (h:Own w a G):Calls Tryz.prog 199 #[ptr a.f] w fun e w'=>∃ b,e=.returned (.tuple #[])∧Own w' {a with wv:=ptr b,w:=b} {G with nx:=7}∧WtAt w' b ⟨G.worker,0,0,0⟩∧w.heap.size≤b∧Only (·=a.f) w w':=by
 have c0:=h.cell 0
 have c1:=h.cell 1
 have c2:=h.cell 2
 have c13:=h.cell 13
 simp only [grc,List.getElem?_toArray,List.getElem?_cons_succ,List.getElem?_cons_zero] at c0 c1 c2 c13
 have hS:=Lib.hid (sync_any G.worker w)
 have H:=Lib.hid h
 clear h
 go_enter Tryz.func199,Tryz.ntmps199
 go_wp2_with fail
 refine hS.out.mono ?_
 rintro e w1 ⟨rfl,hW1,hB1⟩
 obtain ⟨b,hb⟩:∃ b,b=w.heap.size:=⟨_,rfl⟩
 rw [← hb] at hW1 ⊢
 have hO1:=Only.ofBelow hB1 (·=a.f)
 have hA1:Own w1 a G:=H.out.only (Only.ofBelow hB1 (fun _=>False)) (by simp)
 have d1:=hA1.cell 1
 have d2:=hA1.cell 2
 have d13:=hA1.cell 13
 have y1:=hA1.frozen 1
 have y2:=hA1.frozen 2
 have y13:=hA1.frozen 13
 simp only [grc,List.getElem?_toArray,List.getElem?_cons_succ,List.getElem?_cons_zero] at d1 d2 d13
 have hE:Hid (Own (((w1.setCell ⟨a.f,13,none⟩ (ptr b)).setCell ⟨a.f,1,none⟩ (wfm 200 (ptr b))).setCell ⟨a.f,2,none⟩ (wfm 202 (ptr a.f))) {a with wv:=ptr b,w:=b} {G with nx:=7}):=Lib.hid (by
  have:=((hA1.store 13 (ptr b)).store 1 (wfm 200 (ptr b))).store 2 (wfm 202 (ptr a.f))
  exact this)
 have hO2:=only3 (c:=a.f) w1 13 1 2 (ptr b) (wfm 200 (ptr b)) (wfm 202 (ptr a.f))
 have hO3:=Lib.hid (hO1.trans hO2)
 have hne:b≠a.f:=fun e=>by have:=H.out.lt; omega
 have hW2:=Lib.hid (hW1.only hO2 hne)
 generalize grv a G.nx=u1 at*
 generalize gnv a.f G.nx=u2 at*
 generalize a.wv=u13 at*
 replace hb:=Lib.hid hb
 clear c0 c1 c2 c13 hS hW1 hB1 hO1 hA1 hO2 hne
 go_wp2_with fail
 go_end0
 exact ⟨b,rfl,hE.out,hW2.out,Nat.le_of_eq hb.out.symm,hO3.out⟩
theorem stp_same {S:Nat→Prop} {a':Gl} {G':Gr} (hM:MemAt w M) (hG:GrAt w' a' G') (hf:a'.f=a.f) (hfo:∀ x,gfoot a' G' x→gfoot a G x∨w.heap.size≤x) (h:GrAt w a G) (hO:Only S w w') (hS:∀ x,S x→gfoot a G x):grL.Stp w M a G (lm M) G' w':=
 ⟨M,a',hM.only hO (fun x hx hs=>h.far hM (hS x hs) hx),rfl,Kin.refl _ _,hG,hf,hfo,hO.mono (fun x _ q=>.inr (hS x q))⟩
set_option maxHeartbeats 2000000 in
theorem load_step (hM:MemAt w M) (h:GrAt w a G) (hx:1<M.xs.length) (h1:G.nx=1):Calls Tryz.prog 77 #[ptr a.f,ptr M.m] w fun e w'=>e=.returned (.bool false)∧grL.Stp w M a G (gstep (lm M) G).1 (gstep (lm M) G).2 w':=by
 have hN:=Lib.hid (now_any hM hx)
 unfold gstep
 rw [if_pos h1]
 show Calls _ _ _ _ fun e w'=>_∧grL.Stp w M a G (lm M) {G with el:=now M.xs M.ds,nx:=2} w'
 generalize now M.xs M.ds=d at*
 unfold dv at hN
 have HM:=Lib.hid hM
 have HG:=Lib.hid h
 clear hM h
 go_enter Tryz.func77,Tryz.ntmps77
 go_wp2_with fail
 refine hN.out.mono ?_
 rintro e w1 ⟨rfl,hB1⟩
 have hG1:=HG.out.below hB1
 have c4:=hG1.blk.cell 4
 have c5:=hG1.blk.cell 5
 have z4:=hG1.blk.frozen 4
 have z5:=hG1.blk.frozen 5
 simp only [grc,List.getElem?_toArray,List.getElem?_cons_succ,List.getElem?_cons_zero] at c4 c5
 have hB2:Own ((w1.setCell ⟨a.f,4,none⟩ (.int .i64 d.1)).setCell ⟨a.f,5,none⟩ (.int .i64 d.2)) a {G with el:=d}:=(hG1.blk.store 4 (.int .i64 d.1)).store 5 (.int .i64 d.2)
 have hO2:=only2 (c:=a.f) w1 4 5 (.int .i64 d.1) (.int .i64 d.2)
 have hGo:=Lib.hid (goOn_any hB2 (n:=2) (by omega) rfl)
 have hO3:=Lib.hid ((Only.ofBelow hB1 (·=a.f)).trans hO2)
 clear hB2 hO2 hN hB1
 replace hG1:=Lib.hid hG1
 go_wp2_with fail
 refine hGo.out.mono ?_
 rintro e w3 ⟨rfl,hB3,hO4⟩
 have hO:=hO3.out.trans hO4
 have hE:Hid (grL.Stp w M a G (lm M) {G with el:=d,nx:=2} w3):=Lib.hid (by
  refine stp_same HM.out (a':=a) ⟨hB3,fun q=>by simp at q,fun q=>by simp at q,fun q=>by simp at q,?_⟩ rfl (fun x hx=>?_) HG.out hO (fun x q=>.inl q)
  · have:=HG.out.rw_.only hO (HG.out.rw_.self HG.out.blk)
    rw [h1] at this
    exact this
  · rcases hx with rfl | ⟨q,_⟩ | ⟨q,_⟩ | ⟨q,_⟩ | hx
    · exact .inl (.inl rfl)
    · simp at q
    · simp at q
    · simp at q
    · refine .inl (.inr (.inr (.inr (.inr ?_))))
      rw [h1]
      exact hx)
 clear hB3 hO4 hO hGo c4 c5 z4 z5
 go_wp2_with fail
 go_ret
 exact ⟨rfl,hE.out⟩
end
end Go.Proofs.YtpobbnllcoabhaaGreatDoor.Gw
namespace Go.Proofs.YtpobbnllcoabhaaGreatDoor.Gw
open Go Go.RowKit Hp K Fl Rw Hm Ar Mm Me Qs Wk Pn
set_option maxRecDepth 100000
section
variable {w w':World} {M:Mo} {a:Gl} {G:Gr}
theorem GrAt.plain {n:Nat} (hB:Own w' a {G with nx:=n}) (hn:n≠4∧n≠5∧n≠7) (hR:Rws w' a G.pass G.later (decide (n≤6))):GrAt w' a {G with nx:=n}:=
 ⟨hB,fun q=>absurd q hn.1,fun q=>absurd q hn.2.1,fun q=>absurd q hn.2.2,hR⟩
theorem gfoot_plain {n:Nat} {G':Gr} (hn:n≠4∧n≠5∧n≠7) (h6:decide (n≤6)=true→decide (G.nx≤6)=true) {k:Nat} (x:Nat) (hx:gfoot a {G' with nx:=n} x):gfoot a G x∨k≤x:=by
 rcases hx with rfl | ⟨q,_⟩ | ⟨q,_⟩ | ⟨q,_⟩ | hx
 · exact .inl (.inl rfl)
 · simp only at q; omega
 · simp only at q; omega
 · simp only at q; omega
 · refine .inl (.inr (.inr (.inr (.inr ?_))))
   rcases hx with ⟨h1,h2⟩ | hx
   · exact .inl ⟨h1.imp id h6,h2⟩
   · exact .inr hx
theorem Rws.stop {p q:List (List (Nat×Nat))} {g:Bool} (h:Rws w a p q g):Rws w a p q false:=
 ⟨h.ps,h.qs,fun q=>by simp at q,h.pl,h.pc,h.qr,fun b hb q=>h.pq b hb (q.imp id (fun q=>by simp at q))⟩
set_option maxHeartbeats 2000000 in
theorem table_fails (hM:MemAt w M) (h:GrAt w a G) (h2:G.nx=2) (he:G.el.1≤65536) (hp:¬(FM.power ((2*G.el.1:Nat):Int)=true∧M.xs.length+2*G.el.1≤1048576)):
 Calls Tryz.prog 105 #[ptr a.f,ptr M.m] w fun e w'=>e=.returned (.bool true)∧grL.Stp w M a G (lm M) {G with num:= -1,err:=if FM.power ((2*G.el.1:Nat):Int)=true then 2 else 5,nx:=9} w':=by
 obtain ⟨c,hc,hcv,hT⟩:∃ c:Int,(c != 0)=true∧c=(if FM.power ((2*G.el.1:Nat):Int)=true then 2 else 5)∧Calls Tryz.prog 22 #[ptr M.m,.int .i64 ((2*G.el.1:Nat):Int)] w fun e w'=>e=.returned (.tuple #[.int .i64 (-1),.int .i64 c])∧w=w':=by
  cases hpw:FM.power ((2*G.el.1:Nat):Int) with
  | true=>
    refine ⟨2,rfl,by simp,table_full hM _ (by omega) (by omega) hpw ?_⟩
    have:¬M.xs.length+2*G.el.1≤1048576:=fun q=>hp ⟨hpw,q⟩
    omega
  | false=>exact ⟨5,rfl,by simp,table_no hM _ (by omega) (by omega) hpw⟩
 rw [← hcv]
 have e2:((2*G.el.1:Nat):Int)=2*(G.el.1:Int):=by omega
 rw [e2] at hT
 replace hT:=Lib.hid hT
 have c3:=h.blk.cell 3
 have c4:=h.blk.cell 4
 have c8:=h.blk.cell 8
 have z3:=h.blk.frozen 3
 have z8:=h.blk.frozen 8
 simp only [grc,List.getElem?_toArray,List.getElem?_cons_succ,List.getElem?_cons_zero] at c3 c4 c8
 have hB2:Own ((w.setCell ⟨a.f,8,none⟩ (.int .i64 (-1))).setCell ⟨a.f,3,none⟩ (.int .i64 c)) a {G with num:= -1,err:=c}:=(h.blk.store 8 (.int .i64 (-1))).store 3 (.int .i64 c)
 have hO2:=Lib.hid (only2 (c:=a.f) w 8 3 (.int .i64 (-1)) (.int .i64 c))
 have hE:=Lib.hid (end_grow hB2)
 have HM:=Lib.hid hM
 have HG:=Lib.hid h
 replace h2:=Lib.hid h2
 clear hM h hB2 e2 hp hcv
 go_enter Tryz.func105,Tryz.ntmps105
 go_wp2_with fail
 refine hT.out.mono ?_
 rintro e w1 ⟨rfl,hw⟩
 obtain rfl:w=w1:=hw
 clear hT
 go_wp2_with fail
 refine hE.out.mono ?_
 rintro e w2 ⟨rfl,hB3,hO3⟩
 have hO:=hO2.out.trans hO3
 have hS:Hid (grL.Stp w M a G (lm M) {G with num:= -1,err:=c,nx:=9} w2):=Lib.hid (by
  refine stp_same HM.out (a':=a) (GrAt.plain (G:={G with num:= -1,err:=c}) hB3 (by omega) ?_) rfl (gfoot_plain (G':={G with num:= -1,err:=c}) (by omega) (by simp)) HG.out hO (fun x q=>.inl q)
  exact (HG.out.rw_.only hO (HG.out.rw_.self HG.out.blk)).stop)
 clear hB3 hO3 hO hE c3 c4 c8 z3 z8
 go_wp2_with fail
 go_ret
 exact ⟨rfl,hS.out⟩
theorem kin_tabled {n:Nat} {A' T':Option Addr} {cap' capT':Nat} {xs':List Int} {ds':List (Nat×Nat)} (hA:∀ x,In A' x→In M.A x∨w.heap.size≤x) (hT:∀ x,In T' x→In M.T x∨w.heap.size≤x):Kin w M {M with A:=A',cap:=cap',xs:=xs',T:=T',capT:=capT',ds:=ds'}:=by
 refine ⟨rfl,rfl,rfl,rfl,?_⟩
 rintro x (q | q | q | q | q | q)
 · exact .inl (.inl q)
 · rcases q with q | q
   · exact .inl (.inr (.inl (.inl q)))
   · rcases hA x q with q | q
     · exact .inl (.inr (.inl (.inr q)))
     · exact .inr q
 · exact .inl (.inr (.inr (.inl q)))
 · exact .inl (.inr (.inr (.inr (.inl q))))
 · rcases hT x q with q | q
   · exact .inl (.inr (.inr (.inr (.inr (.inl q)))))
   · exact .inr q
 · exact .inl (.inr (.inr (.inr (.inr (.inr q)))))
set_option maxHeartbeats 2000000 in
theorem table_made (hM:MemAt w M) (h:GrAt w a G) (h2:G.nx=2) (he:G.el.1≤65536) (hds:M.ds.length≤900000) (hp:FM.power ((2*G.el.1:Nat):Int)=true) (hx:M.xs.length+2*G.el.1≤1048576):
 Calls Tryz.prog 105 #[ptr a.f,ptr M.m] w fun e w'=>e=.returned (.bool false)∧grL.Stp w M a G {lm M with xs:=M.xs++List.replicate (2*G.el.1) 0,ds:=M.ds++[(2*G.el.1,M.xs.length)]} {G with num:=M.ds.length,err:=0,nw:=(2*G.el.1,M.xs.length),nx:=3} w':=by
 have hT:=table_ok hM (2*G.el.1) hp hx (by omega)
 have e2:((2*G.el.1:Nat):Int)=2*(G.el.1:Int):=by omega
 rw [e2] at hT
 replace hT:=Lib.hid hT
 have c4:=h.blk.cell 4
 simp only [grc,List.getElem?_toArray,List.getElem?_cons_succ,List.getElem?_cons_zero] at c4
 have HM:=Lib.hid hM
 have HG:=Lib.hid h
 replace h2:=Lib.hid h2
 obtain ⟨dn,hdn⟩:∃ n,n=M.ds.length:=⟨_,rfl⟩
 obtain ⟨xn,hxn⟩:∃ n,n=M.xs.length:=⟨_,rfl⟩
 obtain ⟨n2,hn2⟩:∃ n,n=2*G.el.1:=⟨_,rfl⟩
 rw [← hdn] at hds
 simp only [← hdn,← hxn,← hn2] at hT ⊢
 replace hdn:=Lib.hid hdn
 replace hxn:=Lib.hid hxn
 replace hn2:=Lib.hid hn2
 clear hM h hp hx e2
 go_enter Tryz.func105,Tryz.ntmps105
 go_wp2_with fail
 refine hT.out.mono ?_
 rintro e w1 ⟨rfl,A',cap',T',capT',hM1,hO1,hA1,hT1⟩
 have hG1:=HG.out.only hO1 (fun x hx q=>HG.out.far HM.out hx q)
 have d3:=hG1.blk.cell 3
 have d8:=hG1.blk.cell 8
 have y3:=hG1.blk.frozen 3
 have y8:=hG1.blk.frozen 8
 simp only [grc,List.getElem?_toArray,List.getElem?_cons_succ,List.getElem?_cons_zero] at d3 d8
 have hB2:Own ((w1.setCell ⟨a.f,8,none⟩ (.int .i64 dn)).setCell ⟨a.f,3,none⟩ (.int .i64 0)) a {G with num:=dn,err:=0}:=(hG1.blk.store 8 (.int .i64 dn)).store 3 (.int .i64 0)
 have hO2:=only2 (c:=a.f) w1 8 3 (.int .i64 dn) (.int .i64 0)
 have hfar:=hG1.far hM1 (x:=a.f) (.inl rfl)
 have hM2:=hM1.only hO2 (fun x hx e=>hfar (e▸hx))
 have hD:=desc_in hM2 dn (by rw [hdn.out]; simp)
 have htab:tab (M.ds++[(n2,M.xs.length)]) dn=(n2,xn):=by unfold tab; rw [hdn.out,hxn.out]; simp
 rw [htab] at hD
 unfold dv at hD
 replace hD:=Lib.hid hD
 have k8:=hB2.cell 8
 have k3:=hB2.cell 3
 simp only [grc,List.getElem?_toArray,List.getElem?_cons_succ,List.getElem?_cons_zero] at k3 k8
 replace hB2:=Lib.hid hB2
 replace hO2:=Lib.hid hO2
 replace hM2:=Lib.hid hM2
 replace hO1:=Lib.hid hO1
 replace hfar:=Lib.hid hfar
 have hK:=Lib.hid (kin_tabled (w:=w) (M:=M) (n:=0) (cap':=cap') (capT':=capT') (xs':=M.xs++List.replicate n2 0) (ds':=M.ds++[(n2,M.xs.length)]) hA1 hT1)
 clear hT c4 hM1 hA1 hT1 htab hG1
 go_wp2_with fail
 refine hD.out.mono ?_
 rintro e w3 ⟨rfl,hb3⟩
 have hB3:=hB2.out.only (Only.ofBelow hb3 (fun _=>False)) (by simp)
 have p6:=hB3.cell 6
 have p7:=hB3.cell 7
 have q6:=hB3.frozen 6
 have q7:=hB3.frozen 7
 simp only [grc,List.getElem?_toArray,List.getElem?_cons_succ,List.getElem?_cons_zero] at p6 p7
 have hB4:Own ((w3.setCell ⟨a.f,6,none⟩ (.int .i64 n2)).setCell ⟨a.f,7,none⟩ (.int .i64 xn)) a {G with num:=dn,err:=0,nw:=(n2,xn)}:=(hB3.store 6 (.int .i64 n2)).store 7 (.int .i64 xn)
 have hO4:=only2 (c:=a.f) w3 6 7 (.int .i64 n2) (.int .i64 xn)
 have hO34:=(Only.ofBelow hb3 (·=a.f)).trans hO4
 have hGo:=Lib.hid (goOn_any hB4 (n:=3) (by omega) rfl)
 replace hO34:=Lib.hid hO34
 clear hb3 hB3 hB4 hO4 hD k3 k8 d3 d8 y3 y8
 go_wp2_with fail
 refine hGo.out.mono ?_
 rintro e w5 ⟨rfl,hB5,hO5⟩
 have hO25:=hO34.out.trans hO5
 have hO15:=hO2.out.trans hO25
 have hS:Hid (grL.Stp w M a G {lm M with xs:=M.xs++List.replicate n2 0,ds:=M.ds++[(n2,xn)]} {G with num:=dn,err:=0,nw:=(n2,xn),nx:=3} w5):=Lib.hid (by
  have hOa:Only (fun x=>mfoot M x∨gfoot a G x) w w5:=(hO1.out.mono (fun x _ q=>.inl q)).trans' hO15 (fun x _ q=>.inr (.inl q))
  refine ⟨_,a,hM2.out.only hO25 (fun x hx e=>hfar.out (e▸hx)),by rw [hxn.out],hK.out,GrAt.plain (G:={G with num:=dn,err:=0,nw:=(n2,xn)}) hB5 (by omega) ?_,rfl,gfoot_plain (G':={G with num:=dn,err:=0,nw:=(n2,xn)}) (by omega) (fun _=>by rw [h2.out]; rfl),hOa⟩
  · have hR1:=HG.out.rw_.only hO1.out (fun x hx q=>HG.out.far HM.out (.inr (.inr (.inr (.inr hx)))) q)
    have:=hR1.only hO15 (HG.out.rw_.self HG.out.blk)
    rw [h2.out] at this
    exact this)
 clear hB5 hO5 hO15 hO25 hGo
 go_wp2_with fail
 go_ret
 exact ⟨rfl,hS.out⟩
end
end Go.Proofs.YtpobbnllcoabhaaGreatDoor.Gw
namespace Go.Proofs.YtpobbnllcoabhaaGreatDoor.Gw
open Go Go.RowKit Hp K Fl Rw Hm Ar Mm Me Qs Wk Pn
set_option maxRecDepth 100000
section
variable {w w':World} {M:Mo} {a:Gl} {G:Gr}
theorem Left.stp {w1:World} {a1:Gl} {G':Gr} (h:Left w1 a1 G' w') (hM:MemAt w M) (hG:GrAt w a G) (hf:a1.f=a.f) (hfo:∀ x,cfoot a1 x→gfoot a G x∨w.heap.size≤x) (hO:Only (gfoot a G) w w1):grL.Stp w M a G (lm M) G' w':=by
 obtain ⟨a',hG',hf',hfo',hO'⟩:=h
 have hs:=hO.size
 have hOO:Only (gfoot a G) w w':=hO.trans' hO' (fun x hx q=>by
  rcases hfo x q with q | q
  · exact q
  · omega)
 refine stp_same hM hG' (hf'.trans hf) (fun x hx=>?_) hG hOO (fun x q=>q)
 rcases hfo' x hx with q | q
 · exact hfo x q
 · exact .inr (Nat.le_trans hs q)
theorem Along.still (h:Along w a G) (ho:Only (fun _=>False) w w'):Along w' a G:=
 ⟨h.own.only ho (by simp),h.mid.only ho (by simp) (by simp) (by simp),h.rws.only ho (by simp),h.later,h.met,h.half,h.lk,h.pass,h.bucket,h.el⟩
set_option maxHeartbeats 2000000 in
theorem loadCell_step (hM:MemAt w M) (h:GrAt w a G) (h3:G.nx=3) (hx:G.el.2+G.bucket<M.xs.length) (he:G.el.2≤4000000) (hl:G.later=[]) (hp:G.pass.length≤100000) (hb:G.bucket≤1000000) (hn:G.el.1≤1000000):
 Calls Tryz.prog 142 #[ptr a.f,ptr M.m] w fun e w'=>e=.returned (.bool false)∧grL.Stp w M a G (lm M) (comeTo {G with C:=.new} (Cl.nth M.xs (G.el.2+G.bucket)).toNat) w':=by
 have hL:=fun w1 (hM1:MemAt w1 M)=>Cl.load_in hM1.2.1 (G.el.2+G.bucket) hx
 have hbd:=Cl.getD_bd hM.2.1.2.2.1 (G.el.2+G.bucket)
 obtain ⟨z,hz⟩:=Int.eq_ofNat_of_zero_le hbd.1
 rw [hz] at hL hbd ⊢
 rw [Int.toNat_natCast]
 have e2:((G.el.2+G.bucket:Nat):Int)=(G.el.2:Int)+(G.bucket:Int):=by omega
 rw [e2] at hL
 replace hL:=Lib.hid hL
 have hz2:=Lib.hid (show z≤18446744073709551615 by omega)
 have hN:=Lib.hid (chain_new w)
 have HM:=Lib.hid hM
 have HG:=Lib.hid h
 replace h3:=Lib.hid h3
 replace hl:=Lib.hid hl
 clear hM h hz hbd e2 hx
 go_enter Tryz.func142,Tryz.ntmps142
 go_wp2_with fail
 refine hN.out.mono ?_
 rintro e w1 ⟨c,B,rfl,hc1,hB1,hlB,hlc,hb1⟩
 have hG1:=HG.out.blk.only (Only.ofBelow hb1 (fun _=>False)) (by simp)
 have d10:=hG1.cell 10
 have y10:=hG1.frozen 10
 simp only [grc,List.getElem?_toArray,List.getElem?_cons_succ,List.getElem?_cons_zero] at d10
 have hG2:Own (w1.setCell ⟨a.f,10,none⟩ (ptr c)) {a with cv:=ptr c,c:=c,B:=B,LA:=none,lcap:=0} {G with C:=.new}:=hG1.store 10 (ptr c)
 have hO2:=(Only.refl (·=a.f) w1).setCell (p:=⟨a.f,10,none⟩) (.inl rfl) (ptr c)
 have hlf:=HG.out.blk.lt
 have hAl:Along (w1.setCell ⟨a.f,10,none⟩ (ptr c)) {a with cv:=ptr c,c:=c,B:=B,LA:=none,lcap:=0} {G with C:=.new}:=by
  refine ⟨hG2,⟨rfl,hc1.only hO2 (by omega),hB1.only hO2 (by omega),Row.nil _ _ _ _,fun x _ b hb=>by simp [In] at hb⟩,?_,hl.out,by simp [Ch.new],by simp [Ch.new],by simp [Ch.new],hp,hb,hn⟩
  have h1:=(HG.out.rw_.only (Only.ofBelow hb1 (fun _=>False)) (by simp)).only hO2 (HG.out.rw_.self HG.out.blk)
  rw [h3.out] at h1
  exact ⟨h1.ps,h1.qs,h1.pr,h1.pl,h1.pc,h1.qr,h1.pq⟩
 have hM2:=(HM.out.below hb1).only hO2 (fun x hx e=>HG.out.far HM.out (.inl rfl) (e▸hx))
 have hC:=Lib.hid (fun n=>comeTo_any (hAl.still ((Only.refl (fun _=>False) _).drewN n)) hz2.out (by simp [Ch.new]))
 have hO:=Lib.hid ((Only.ofBelow hb1 (gfoot a G)).trans' hO2 (fun x _ q=>.inl q))
 have g4:=hG2.cell 5
 have g9:=hG2.cell 9
 simp only [grc,List.getElem?_toArray,List.getElem?_cons_succ,List.getElem?_cons_zero] at g4 g9
 have hd0:=hM2.hd.1
 have hfo:Hid (∀ x,cfoot {a with cv:=ptr c,c:=c,B:=B,LA:=none,lcap:=0} x→gfoot a G x∨w.heap.size≤x):=Lib.hid (by
  rintro x (rfl | rfl | rfl | q | q)
  · exact .inl (.inl rfl)
  · exact .inr hlc
  · exact .inr hlB
  · simp [In] at q
  · refine .inl (.inr (.inr (.inr (.inr ?_))))
    rw [h3.out]
    exact q)
 have hL2:=Lib.hid (fun n=>hL.out _ (hM2.drewN n))
 clear hc1 hB1 hlB hlc hb1 hG1 hG2 hO2 hlf hM2 hN hL
 go_wp2_with fail
 go_quiet ((go_at_call 54; exact Calls.quiet_of_same ((hL2.out _).mono fun _ _ h=>⟨h.1,h.2⟩)))
 clear hL2 hd0 g4 g9 d10 y10 hAl
 go_wp2_with fail
 refine (hC.out _).mono ?_
 rintro e w4 ⟨rfl,hLf⟩
 have hS:=Lib.hid (hLf.stp HM.out HG.out rfl hfo.out (hO.out.drewN nq))
 clear hLf hC
 go_wp2_with fail
 go_ret
 exact ⟨rfl,hS.out⟩
theorem Along.added (h:Along w a G) {x y:Nat} {LA:Option Addr} {lcap:Nat} (hM:Mid w' {a with LA:=LA,lcap:=lcap} (G.C.add x y)) (hO:Only (fun x=>x=a.c∨x=a.B∨In a.LA x) w w') (hx:x≠0) (hl:G.C.lk.length≤99999) (hy:y≤1):Along w' {a with LA:=LA,lcap:=lcap} {G with C:=G.C.add x y}:=by
 have hq:a.qs=[]:=by
  have:=h.rws.qs.len
  rw [h.later] at this
  exact List.eq_nil_of_length_eq_zero this
 have hr:Rws w' a G.pass G.later true:=by
  refine h.rws.only hO fun x hx hs=>?_
  rcases hs with rfl | rfl | q
  · exact h.rws.chain h.mid.cb _ hx rfl
  · exact h.mid.mt.no (h.rws.ty hx)
  · rcases hx with ⟨_,hx⟩ | hx | ⟨e,he,hx⟩ | ⟨e,he,hx⟩
    · exact (row_ty (h.rws.pr rfl) hx).apart (row_ty h.mid.lr q) (by decide)
    · exact (row_ty h.rws.qr hx).apart (row_ty h.mid.lr q) (by decide)
    · exact h.mid.ap e he x q hx
    · rw [hq] at he
      simp at he
 refine ⟨Blk.only h.own hO fun hs=>?_,hM,⟨hr.ps,hr.qs,hr.pr,hr.pl,hr.pc,hr.qr,hr.pq⟩,h.later,?_,hy,?_,h.pass,h.bucket,h.el⟩
 · rcases hs with q | q | q
   · exact h.own.differ h.mid.cb (by decide) q
   · exact h.mid.mt.no (by rw [← q]; exact blk_ty h.own)
   · exact (row_ty h.mid.lr q).apart (blk_ty h.own) (by decide)
 · show 0∉x::G.C.met
   intro q
   rcases List.mem_cons.1 q with q | q
   · exact hx q.symm
   · exact h.met q
 · show (Ch.add G.C x y).lk.length≤_
   unfold Ch.add
   simp only
   split
   · omega
   split
   · simp; omega
   · omega
def Lkd (w wx:World) (nd:Nd) (p e:Value):Prop:=
 ∃ b,p=ptr b∧e=.int .i64 0∧w.heap.size≤b∧Blk wx b 139 #[.string nd.key,.string nd.val,.int .u32 nd.sum,.int .u64 nd.next]∧Below w.heap.size w wx
structure Okr (L:Lm) (G:Gr):Prop where
 live:IsAt L.ss G.at_ ((G.at_-1) % 65536)
 at_:G.at_≤18446744073709551615
 sum:0≤(at' L.ss ((G.at_-1) % 65536)).nd.sum∧(at' L.ss ((G.at_-1) % 65536)).nd.sum<4294967296
 next:0≤(at' L.ss ((G.at_-1) % 65536)).nd.next∧(at' L.ss ((G.at_-1) % 65536)).nd.next≤18446744073709551615
 fresh:(at' L.ss ((G.at_-1) % 65536)).nd.next.toNat∉G.at_::G.C.met
 hf:hfs G (at' L.ss ((G.at_-1) % 65536)).nd.sum≤1
 n:1≤G.el.1∧G.el.1≤65536∧G.nw.1≤131072
 met:0∉G.C.met∧G.C.met.length≤100000
 half:G.C.half≤1
 lk:G.C.lk.length≤99999
 pass:G.pass.length≤100000
 later:G.later=[]
 bucket:G.bucket≤1000000
set_option maxHeartbeats 4000000 in
theorem read_step (hM:MemAt w M) (h:GrAt w a G) (ok:Okr (lm M) G) (h4:G.nx=4):
 Calls Tryz.prog 180 #[ptr a.f,ptr M.m] w fun e w'=>e=.returned (.bool false)∧grL.Stp w M a G (lm M) (comeTo {G with C:=G.C.add G.at_ (hfs G (at' M.ss ((G.at_-1) % 65536)).nd.sum)} (at' M.ss ((G.at_-1) % 65536)).nd.next.toNat) w':=by
 have hR:=Lib.hid (fun (w1:World) (hb1:Below w.heap.size w w1)=>(read_ok (hM.below hb1).2.2.2.1 ok.at_ ok.live).mono fun e w2 q=>show e=.returned (.tuple #[ndv (at' M.ss ((G.at_-1) % 65536)).nd,.int .i64 0])∧(Below w.heap.size w w2∧Below w1.heap.size w1 w2) from
  ⟨q.1,hb1.trans (q.2.mono hb1.size),q.2⟩)
 have hMid:=h.c4 h4
 obtain ⟨hok1,hok2,hok3,hok4,hok5,hok6,hok7,hok8,hok9,hok10,hok11,hok12,hok13⟩:=ok
 generalize hnd:(at' M.ss ((G.at_-1) % 65536)).nd=nd at*
 have c11:=h.blk.cell 11
 simp only [grc,List.getElem?_toArray,List.getElem?_cons_succ,List.getElem?_cons_zero] at c11
 have d2:=hM.hd.2.2.1
 have lM:=hM.1.lt
 have lG:=h.blk.lt
 have HM:=Lib.hid hM
 have HG:=Lib.hid h
 have HMid:=Lib.hid hMid
 have nm:=World.new_ne w ⟨M.m,2,none⟩ d2
 have nw:=World.new_ne w ⟨a.f,11,none⟩ c11
 unfold ndv at hR
 replace hok1:=Lib.hid hok1
 replace hok3:=Lib.hid hok3
 replace hok4:=Lib.hid hok4
 replace hok5:=Lib.hid hok5
 replace hok6:=Lib.hid hok6
 replace hok7:=Lib.hid hok7
 replace hok8:=Lib.hid hok8
 replace hok9:=Lib.hid hok9
 replace hok10:=Lib.hid hok10
 replace hok11:=Lib.hid hok11
 replace hok12:=Lib.hid hok12
 replace hok13:=Lib.hid hok13
 replace h4:=Lib.hid h4
 replace hnd:=Lib.hid hnd
 replace hok2:=Lib.hid hok2
 clear hM h hMid
 go_enter Tryz.func180,Tryz.ntmps180
 go_upto_region 1 with (fail)
 go_cut [5,6] (fun p e wx=>Lkd w wx nd p e)
 case first=>
  go_region_held3 (fun w'=>w'.cell? ⟨M.m,2,none⟩=some (ptr M.ar)∧w'.cell? ⟨a.f,11,none⟩=some (.int .u64 G.at_)) (go_keep)
   (first
     | (go_at_call 110
        refine (hR.out w.drew ⟨rfl,rfl,rfl,Nat.le_refl _,fun _ _=>rfl⟩).mono ?_
        rintro e w2 ⟨rfl,hb2,_⟩
        have d2':=(hb2.cell (p:=⟨M.m,2,none⟩) lM).trans d2
        have c11':=(hb2.cell (p:=⟨a.f,11,none⟩) lG).trans c11
        have hs2:=hb2.size
        replace hb2:=Lib.hid hb2)
     | (go_at_call 110
        refine (hR.out (w.alloc (.cells #[.string ⟨#[]⟩,.string ⟨#[]⟩,.int .u32 0,.int .u64 0] 139)).drew (((Below.refl w.heap.size w).alloc (Nat.le_refl _) _).trans ⟨rfl,rfl,rfl,by simp,fun _ _=>rfl⟩)).mono ?_
        rintro e w2 ⟨rfl,hb2,hb3⟩
        have hB2:Blk w2 w.heap.size 139 #[.string ⟨#[]⟩,.string ⟨#[]⟩,.int .u32 0,.int .u64 0]:=Blk.only (w:=(w.alloc (.cells #[.string ⟨#[]⟩,.string ⟨#[]⟩,.int .u32 0,.int .u64 0] 139)).drew) (Blk.made w _ _) (Only.ofBelow hb3 (fun _=>False)) (by simp)
        have d2':=(hb2.cell (p:=⟨M.m,2,none⟩) lM).trans d2
        have c11':=(hb2.cell (p:=⟨a.f,11,none⟩) lG).trans c11
        have hs2:=hb2.size
        have k0:=hB2.cell 0
        have k1:=hB2.cell 1
        have k2:=hB2.cell 2
        have k3:=hB2.cell 3
        simp at k0 k1 k2 k3
        have y0:=hB2.frozen 0
        have y1:=hB2.frozen 1
        have y2:=hB2.frozen 2
        have y3:=hB2.frozen 3
        replace hb2:=Lib.hid hb2
        replace hB2:=Lib.hid hB2))
  all_goals
   go_wp2_with fail
   go_meet
   first
    | exact ⟨_,rfl,rfl,hs2,Blk.made w2 _ _,hb2.out.alloc hs2 _⟩
    | exact ⟨_,rfl,rfl,Nat.le_refl _,(((hB2.out.store 0 _).store 1 _).store 2 _).store 3 _,(((hb2.out.setCell (p:=⟨w.heap.size,0,none⟩) (Nat.le_refl _) _).setCell (p:=⟨w.heap.size,1,none⟩) (Nat.le_refl _) _).setCell (p:=⟨w.heap.size,2,none⟩) (Nat.le_refl _) _).setCell (p:=⟨w.heap.size,3,none⟩) (Nat.le_refl _) _⟩
 case rest=>
  obtain ⟨b,rfl,rfl,hb0,hB,hb1⟩:=hcut
  clear hR c11 d2 nm nw
  have hG1:=HG.out.blk.only (Only.ofBelow hb1 (fun _=>False)) (by simp)
  have hMd1:Mid wc a G.C:=HMid.out.only (Only.ofBelow hb1 (fun _=>False)) (by simp) (by simp) (by simp)
  have hRw1:=HG.out.rw_.only (Only.ofBelow hb1 (fun _=>False)) (by simp)
  rw [h4.out] at hRw1
  have c4:=hG1.cell 4
  have c6:=hG1.cell 6
  have c10:=hG1.cell 10
  have c11:=hG1.cell 11
  have k2:=hB.cell 2
  have k3:=hB.cell 3
  simp only [grc,List.getElem?_toArray,List.getElem?_cons_succ,List.getElem?_cons_zero,hMd1.cv] at c4 c6 c10 c11 k2 k3
  obtain ⟨v,hv⟩:∃ v,v=FM.bucket nd.sum G.nw.1:=⟨_,rfl⟩
  have hvb:=bucket_bd nd.sum G.nw.1 hok3.out.1
  have hBk:=fun w'=>Fnv.bucket_any nd.sum G.nw.1 w' hok3.out.1 hok3.out.2 (by omega) (by have:=hok7.out; omega)
  rw [← hv] at hBk hvb
  replace hBk:=Lib.hid hBk
  have hel:=hok7.out
  have hx:hfs G nd.sum=(v / G.el.1).toNat:=by unfold hfs; rw [hv]
  have hq0:0≤v / (G.el.1:Int):=Int.ediv_nonneg hvb.1 (by omega)
  obtain ⟨y,hy⟩:=Int.eq_ofNat_of_zero_le hq0
  have hy1:hfs G nd.sum=y:=by rw [hx,hy]; rfl
  have hy2:y≤1:=by have:=hok6.out; omega
  have hvt:v.tdiv (G.el.1:Int)=y:=by rw [Int.tdiv_eq_ediv_of_nonneg hvb.1]; exact hy
  have hwy:IntKind.i64.wrap (y:Int)=y:=IntWalk.i64_in _ (by omega)
  have hn0:((G.el.1:Int)==0)=false:=by simp; omega
  have hn2:¬(G.el.1=0):=by omega
  have hlt:∀ e∈a.ps,∀ x,In e.A x→x<wc.heap.size:=fun e he x hx=>hRw1.lt (.inr (.inr (.inl ⟨e,he,hx⟩)))
  have hAdd:=Lib.hid (fun n=>add_any (hMd1.only ((Only.refl (fun _=>False) wc).drewN n) (by simp) (by simp) (by simp)) (x:=G.at_) (y:=y) hok2.out (by have:=hok8.out; omega) hy2 hok9.out (by have:=hok10.out; omega) hlt)
  obtain ⟨z,hz⟩:=Int.eq_ofNat_of_zero_le hok4.out.1
  rw [hz] at hB k3
  have hzb:=Lib.hid (show z≤18446744073709551615 by have:=hok4.out; omega)
  have hzf:Hid (z∉(G.C.add G.at_ y).met):=Lib.hid (by
   have:=hok5.out
   rw [hz,Int.toNat_natCast] at this
   exact this)
  have hz0:Hid (G.at_≠0):=Lib.hid hok1.out.pos
  have hcv:=Lib.hid hMd1.cv
  have hAl1:Hid (Along wc a G):=Lib.hid ⟨hG1,hMd1,hRw1,hok12.out,hok8.out.1,hok9.out,by have:=hok10.out; omega,hok11.out,hok13.out,by omega⟩
  have hlk:=Lib.hid hok10.out
  have hbn:Hid (¬(b=a.c∨b=a.B∨In a.LA b)):=Lib.hid (by
   rintro (q | q | q)
   · have:=HMid.out.cb.lt; omega
   · have:=HMid.out.mt.lt; omega
   · have:=HMid.out.lr.lt q; omega)
  have hnz:Hid (nd.next.toNat=z):=Lib.hid (by rw [hz]; rfl)
  replace hG1:=Lib.hid hG1
  replace hMd1:=Lib.hid hMd1
  replace hRw1:=Lib.hid hRw1
  replace hB:=Lib.hid hB
  replace hb1:=Lib.hid hb1
  replace hlt:=Lib.hid hlt
  replace hv:=Lib.hid hv
  replace hx:=Lib.hid hx
  replace hy:=Lib.hid hy
  replace hy1:=Lib.hid hy1
  go_upto_region 5 with (fail)
  go_region_held3 (fun w'=>w'.cell? ⟨a.f,4,none⟩=some (.int .i64 G.el.1)∧w'.cell? ⟨a.f,6,none⟩=some (.int .i64 G.nw.1)∧w'.cell? ⟨a.f,10,none⟩=some (ptr a.c)∧w'.cell? ⟨a.f,11,none⟩=some (.int .u64 G.at_)∧w'.cell? ⟨b,2,none⟩=some (.int .u32 nd.sum)) (go_keep)
   (first
     | (go_at_call 150
        refine (hBk.out _).mono ?_
        rintro e w3 ⟨rfl,hw3⟩
        obtain rfl:=hw3.symm)
     | (go_at_call 190
        refine (hAdd.out 1).mono ?_
        rintro e w4 ⟨rfl,LA,lcap,hMd4,hLA4,hO4⟩
        have hAl4:=(hAl1.out.still ((Only.refl (fun _=>False) wc).drewN 1)).added (y:=y) hMd4 hO4 hz0.out hlk.out hy2
        have hne4:=hbn.out
        have hN4:Blk w4 b 139 #[.string nd.key,.string nd.val,.int .u32 nd.sum,.int .u64 z]:=(hB.out.only ((Only.refl (fun _=>False) wc).drewN 1) (by simp)).only hO4 hne4
        have r4:=hAl4.own.cell 4
        have r6:=hAl4.own.cell 6
        have r10:=hAl4.own.cell 10
        have r11:=hAl4.own.cell 11
        have r2:=hN4.cell 2
        have k3':=hN4.cell 3
        simp only [grc,List.getElem?_toArray,List.getElem?_cons_succ,List.getElem?_cons_zero,hcv.out] at r4 r6 r10 r11 r2 k3'
        have hC4:=Lib.hid (comeTo_any hAl4 hzb.out hzf.out)
        have hOw:Only (gfoot a G) w w4:=((Only.ofBelow hb1.out (gfoot a G)).drewN 1).trans' hO4 (fun x _ q=>by
         rcases q with q | q | q
         · exact .inr (.inl ⟨.inl h4.out,q⟩)
         · exact .inr (.inr (.inl ⟨h4.out,.inl q⟩))
         · exact .inr (.inr (.inl ⟨h4.out,.inr q⟩)))
        have hfo4:∀ x,cfoot {a with LA:=LA,lcap:=lcap} x→gfoot a G x∨w.heap.size≤x:=by
         rintro x (q | q | q | q | q)
         · exact .inl (.inl q)
         · exact .inl (.inr (.inl ⟨.inl h4.out,q⟩))
         · exact .inl (.inr (.inr (.inl ⟨h4.out,.inl q⟩)))
         · rcases hLA4 x q with q | q
           · exact .inl (.inr (.inr (.inl ⟨h4.out,.inr q⟩)))
           · exact .inr (Nat.le_trans hb1.out.size q)
         · refine .inl (.inr (.inr (.inr (.inr ?_))))
           rw [h4.out]
           exact q
        replace hOw:=Lib.hid hOw
        replace hfo4:=Lib.hid hfo4
        clear hMd4 hO4 hLA4 hAl4 hN4 hne4 hAdd))
  go_wp2_with fail
  refine hC4.out.mono ?_
  rintro e w5 ⟨rfl,hLf⟩
  have hS:=Lib.hid (hLf.stp HM.out HG.out rfl hfo4.out hOw.out)
  clear hLf hC4
  go_wp2_with fail
  go_ret
  exact ⟨rfl,by rw [hy1.out,hnz.out]; exact hS.out⟩
end
end Go.Proofs.YtpobbnllcoabhaaGreatDoor.Gw
namespace Go.Proofs.YtpobbnllcoabhaaGreatDoor.Gw
open Go Go.RowKit Hp K Fl Rw Hm Ar Mm Me Qs Wk Pn
set_option maxRecDepth 100000
section
variable {w w':World} {M:Mo} {a:Gl} {G:Gr}
theorem gfoot_store (h5:G.nx=5) {k:Nat} (x:Nat) (hx:gfoot a (toStore {G with half:=G.half+1}) x):gfoot a G x∨k≤x:=by
 obtain ⟨e1,e2,e3,e4⟩:=toStore_eq {G with half:=G.half+1}
 rcases hx with rfl | ⟨_,rfl⟩ | ⟨q,_⟩ | ⟨q,_⟩ | hx
 · exact .inl (.inl rfl)
 · exact .inl (.inr (.inl ⟨.inr h5,rfl⟩))
 · omega
 · omega
 · refine .inl (.inr (.inr (.inr (.inr ?_))))
   rw [show decide ((toStore {G with half:=G.half+1}).nx≤6)=true by simp; omega] at hx
   rw [h5]
   exact hx
def Stored (w:World) (M:Mo) (a:Gl) (G:Gr) (k x:Nat) (w':World):Prop:=MemAt w' {M with xs:=M.xs.set k (x:Int)}∧GrAt w' a G∧Only (mfoot M) w w'
theorem stored_any (hM:MemAt w M) (h:GrAt w a G) (k:Nat) (hk:k<M.xs.length) (x:Nat) (hx:x≤18446744073709551615) (w1:World) (h0:Only (fun _=>False) w w1):
 Calls Tryz.prog 21 #[ptr M.g,.int .i64 k,.int .u64 x] w1 fun e w'=>e=.returned (.int .i64 0)∧Stored w M a G k x w':=
 (Cl.store_in (hM.only h0 (by simp)).2.1 k hk (x:Int) (by omega) (by omega)).mono fun e w' q=>by
   have ho:Only (mfoot M) w w':=(h0.mono (fun x _ q=>q.elim)).trans' q.2.2 (fun x _ q=>.inr (.inl q))
   exact ⟨q.1,(hM.only h0 (by simp)).cells q.2.1 q.2.2,h.only ho (fun x hx q=>h.far hM hx q),ho⟩
set_option maxHeartbeats 2000000 in
theorem store_half0 (hM:MemAt w M) (h:GrAt w a G) (h5:G.nx=5) (hh:G.half=0) (hx:G.nw.2+G.bucket<M.xs.length) (hf:G.C.fi.1≤18446744073709551615) (hb:G.bucket≤1000000) (hn:G.el.1≤1000000) (hw:G.nw.2≤4000000):
 Calls Tryz.prog 195 #[ptr a.f,ptr M.m] w fun e w'=>e=.returned (.bool false)∧grL.Stp w M a G {lm M with xs:=M.xs.set (G.nw.2+G.bucket) ((G.C.fi.1:Nat):Int)} (toStore {G with half:=1}) w':=by
 obtain ⟨hcv,hF⟩:=h.c5 h5
 have f0:=hF.hd.1
 have c4:=h.blk.cell 4
 have c7:=h.blk.cell 7
 have c9:=h.blk.cell 9
 have c10:=h.blk.cell 10
 have c12:=h.blk.cell 12
 simp only [grc,List.getElem?_toArray,List.getElem?_cons_succ,List.getElem?_cons_zero,hcv,hh] at c4 c7 c9 c10 c12
 have d0:=hM.hd.1
 have hSt:=stored_any hM h (G.nw.2+G.bucket) hx G.C.fi.1 hf
 have e1:((G.nw.2+G.bucket:Nat):Int)=(G.nw.2:Int)+(G.bucket:Int):=by omega
 rw [e1] at hSt
 replace hSt:=Lib.hid hSt
 have HM:=Lib.hid hM
 have HG:=Lib.hid h
 replace hF:=Lib.hid hF
 replace hcv:=Lib.hid hcv
 replace hh:=Lib.hid hh
 replace h5:=Lib.hid h5
 obtain ⟨fv,hfv⟩:∃ v,v=G.C.fi.1:=⟨_,rfl⟩
 rw [← hfv] at hSt f0 ⊢
 replace hfv:=Lib.hid hfv
 have ew:IntKind.i64.wrap ((G.nw.2:Int)+(G.bucket:Int))=(G.nw.2:Int)+(G.bucket:Int):=IntWalk.i64_in _ (by omega)
 clear h hM hf hx e1
 go_enter Tryz.func195,Tryz.ntmps195
 go_wp2_with fail
 go_quiet (fail)
 have hq:=Lib.hid ((Only.refl (fun _=>False) w).drewN nq)
 have g0:(w.drewN nq).cell? ⟨a.c,0,none⟩=some (.int .u64 fv):=f0
 have g7:(w.drewN nq).cell? ⟨a.f,7,none⟩=some (.int .i64 G.nw.2):=c7
 have g10:(w.drewN nq).cell? ⟨a.f,10,none⟩=some (ptr a.c):=c10
 have g12:(w.drewN nq).cell? ⟨a.f,12,none⟩=some (.int .i64 0):=c12
 have g00:(w.drewN nq).cell? ⟨M.m,0,none⟩=some (ptr M.g):=d0
 clear f0 c4 c7 c9 c10 c12 d0
 generalize w.drewN nq=wq at*
 go_upto_region 2 with (fail)
 go_region_held3 (fun w'=>w'.cell? ⟨M.m,0,none⟩=some (ptr M.g)∧w'.cell? ⟨a.f,7,none⟩=some (.int .i64 G.nw.2)∧w'.cell? ⟨a.f,10,none⟩=some (ptr a.c)∧w'.cell? ⟨a.f,12,none⟩=some (.int .i64 0)∧w'.cell? ⟨a.c,0,none⟩=some (.int .u64 fv)) (go_keep)
  (first
    | (go_at_call 21
       refine (hSt.out (wq.drewN 1) (hq.out.drewN 1)).mono ?_
       rintro e w1 ⟨rfl,hM1,hG1,hOw⟩
       have p7:=hG1.blk.cell 7
       have p10:=hG1.blk.cell 10
       have p12:=hG1.blk.cell 12
       have y12:=hG1.blk.frozen 12
       have p0:=(hG1.c5 h5.out).2.hd.1
       have p00:=hM1.hd.1
       simp only [grc,List.getElem?_toArray,List.getElem?_cons_succ,List.getElem?_cons_zero,hcv.out,hh.out] at p7 p10 p12
       rw [← hfv.out] at p0
       replace hM1:=Lib.hid hM1
       replace hG1:=Lib.hid hG1
       replace hOw:=Lib.hid hOw
       clear hSt))
 have hB2:Own (w1.setCell ⟨a.f,12,none⟩ (.int .i64 (1))) a {G with half:=1}:=hG1.out.blk.store 12 (.int .i64 (1))
 have hO2:=(Only.refl (·=a.f) w1).setCell (p:=⟨a.f,12,none⟩) (.inl rfl) (.int .i64 (1))
 have hF2:=(hG1.out.c5 h5.out).2.only hO2 ((hG1.out.c5 h5.out).2.ne hG1.out.blk)
 have hT:=Lib.hid (toStore_any hB2 hcv.out hF2 (by simp) hb hn)
 have hfar:=Lib.hid (hG1.out.far hM1.out (x:=a.f) (.inl rfl))
 have hM2:=Lib.hid (hM1.out.only hO2 (fun x hx e=>hfar.out (e▸hx)))
 have hself:=Lib.hid (hG1.out.rw_.self hG1.out.blk)
 have hR2:=Lib.hid (hG1.out.rw_.only hO2 hself.out)
 have hO3:=Lib.hid ((hOw.out.mono (fun x _ q=>(.inl q:mfoot M x∨gfoot a G x))).trans' hO2 (fun x _ q=>.inr (.inl q)))
 replace hF2:=Lib.hid hF2
 replace hB2:=Lib.hid hB2
 clear hO2 p7 p10 p0 p00
 go_wp2_with fail
 refine hT.out.mono ?_
 rintro e w3 ⟨rfl,hB3,hO4⟩
 have hE:Hid (grL.Stp w M a G {lm M with xs:=M.xs.set (G.nw.2+G.bucket) (fv:Int)} (toStore {G with half:=1}) w3):=Lib.hid (by
  rw [hfv.out] at*
  obtain ⟨e1,e2,e3,e4⟩:=toStore_eq {G with half:=1}
  refine ⟨_,a,hM2.out.only hO4 (fun x hx e=>hfar.out (e▸hx)),rfl,⟨rfl,rfl,rfl,rfl,fun x q=>.inl q⟩,?_,rfl,?_,hO3.out.trans' hO4 (fun x _ q=>.inr (.inl q))⟩
  · refine ⟨hB3,fun q=>by omega,fun _=>⟨hcv.out,by rw [e1]; exact hF2.out.only hO4 (hF2.out.ne hB2.out)⟩,fun q=>by omega,?_⟩
    rw [e2,e3,show decide ((toStore {G with half:=1}).nx≤6)=true by simp; omega]
    have:=hR2.out.only hO4 hself.out
    rw [h5.out] at this
    exact this
  · have:=@gfoot_store a G h5.out w.heap.size
    rw [hh.out] at this
    exact this)
 clear hB3 hO4 hT
 go_wp2_with fail
 go_ret
 exact ⟨rfl,hE.out⟩
set_option maxHeartbeats 2000000 in
theorem store_half1 (hM:MemAt w M) (h:GrAt w a G) (h5:G.nx=5) (hh:G.half=1) (hx:G.nw.2+(G.bucket+G.el.1)<M.xs.length) (hf:G.C.fi.2≤18446744073709551615) (hb:G.bucket≤1000000) (hn:G.el.1≤1000000) (hw:G.nw.2≤4000000):
 Calls Tryz.prog 195 #[ptr a.f,ptr M.m] w fun e w'=>e=.returned (.bool false)∧grL.Stp w M a G {lm M with xs:=M.xs.set (G.nw.2+(G.bucket+G.el.1)) ((G.C.fi.2:Nat):Int)} (toStore {G with half:=2}) w':=by
 obtain ⟨hcv,hF⟩:=h.c5 h5
 have f1:=hF.hd.2
 have c4:=h.blk.cell 4
 have c7:=h.blk.cell 7
 have c9:=h.blk.cell 9
 have c10:=h.blk.cell 10
 have c12:=h.blk.cell 12
 simp only [grc,List.getElem?_toArray,List.getElem?_cons_succ,List.getElem?_cons_zero,hcv,hh] at c4 c7 c9 c10 c12
 have d0:=hM.hd.1
 have hSt:=stored_any hM h (G.nw.2+(G.bucket+G.el.1)) hx G.C.fi.2 hf
 have e1:((G.nw.2+(G.bucket+G.el.1):Nat):Int)=(G.nw.2:Int)+((G.bucket:Int)+(G.el.1:Int)):=by omega
 rw [e1] at hSt
 replace hSt:=Lib.hid hSt
 have HM:=Lib.hid hM
 have HG:=Lib.hid h
 replace hF:=Lib.hid hF
 replace hcv:=Lib.hid hcv
 replace hh:=Lib.hid hh
 replace h5:=Lib.hid h5
 obtain ⟨fv,hfv⟩:∃ v,v=G.C.fi.2:=⟨_,rfl⟩
 rw [← hfv] at hSt f1 ⊢
 replace hfv:=Lib.hid hfv
 have ew:IntKind.i64.wrap ((G.nw.2:Int)+((G.bucket:Int)+(G.el.1:Int)))=(G.nw.2:Int)+((G.bucket:Int)+(G.el.1:Int)):=IntWalk.i64_in _ (by omega)
 clear h hM hf hx e1
 go_enter Tryz.func195,Tryz.ntmps195
 go_wp2_with fail
 go_quiet (fail)
 have hq:=Lib.hid ((Only.refl (fun _=>False) w).drewN nq)
 have g0:(w.drewN nq).cell? ⟨a.c,1,none⟩=some (.int .u64 fv):=f1
 have g7:(w.drewN nq).cell? ⟨a.f,7,none⟩=some (.int .i64 G.nw.2):=c7
 have g10:(w.drewN nq).cell? ⟨a.f,10,none⟩=some (ptr a.c):=c10
 have g12:(w.drewN nq).cell? ⟨a.f,12,none⟩=some (.int .i64 1):=c12
 have g00:(w.drewN nq).cell? ⟨M.m,0,none⟩=some (ptr M.g):=d0
 clear f1 c4 c7 c9 c10 c12 d0
 generalize w.drewN nq=wq at*
 go_upto_region 2 with (fail)
 go_region_held3 (fun w'=>w'.cell? ⟨M.m,0,none⟩=some (ptr M.g)∧w'.cell? ⟨a.f,7,none⟩=some (.int .i64 G.nw.2)∧w'.cell? ⟨a.f,10,none⟩=some (ptr a.c)∧w'.cell? ⟨a.f,12,none⟩=some (.int .i64 1)∧w'.cell? ⟨a.c,1,none⟩=some (.int .u64 fv)) (go_keep)
  (first
    | (go_at_call 21
       refine (hSt.out (wq.drewN 1) (hq.out.drewN 1)).mono ?_
       rintro e w1 ⟨rfl,hM1,hG1,hOw⟩
       have p7:=hG1.blk.cell 7
       have p10:=hG1.blk.cell 10
       have p12:=hG1.blk.cell 12
       have y12:=hG1.blk.frozen 12
       have p0:=(hG1.c5 h5.out).2.hd.2
       have p00:=hM1.hd.1
       simp only [grc,List.getElem?_toArray,List.getElem?_cons_succ,List.getElem?_cons_zero,hcv.out,hh.out] at p7 p10 p12
       rw [← hfv.out] at p0
       replace hM1:=Lib.hid hM1
       replace hG1:=Lib.hid hG1
       replace hOw:=Lib.hid hOw
       clear hSt))
 have hB2:Own (w1.setCell ⟨a.f,12,none⟩ (.int .i64 (2))) a {G with half:=2}:=hG1.out.blk.store 12 (.int .i64 (2))
 have hO2:=(Only.refl (·=a.f) w1).setCell (p:=⟨a.f,12,none⟩) (.inl rfl) (.int .i64 (2))
 have hF2:=(hG1.out.c5 h5.out).2.only hO2 ((hG1.out.c5 h5.out).2.ne hG1.out.blk)
 have hT:=Lib.hid (toStore_any hB2 hcv.out hF2 (by simp) hb hn)
 have hfar:=Lib.hid (hG1.out.far hM1.out (x:=a.f) (.inl rfl))
 have hM2:=Lib.hid (hM1.out.only hO2 (fun x hx e=>hfar.out (e▸hx)))
 have hself:=Lib.hid (hG1.out.rw_.self hG1.out.blk)
 have hR2:=Lib.hid (hG1.out.rw_.only hO2 hself.out)
 have hO3:=Lib.hid ((hOw.out.mono (fun x _ q=>(.inl q:mfoot M x∨gfoot a G x))).trans' hO2 (fun x _ q=>.inr (.inl q)))
 replace hF2:=Lib.hid hF2
 replace hB2:=Lib.hid hB2
 clear hO2 p7 p10 p0 p00
 go_wp2_with fail
 refine hT.out.mono ?_
 rintro e w3 ⟨rfl,hB3,hO4⟩
 have hE:Hid (grL.Stp w M a G {lm M with xs:=M.xs.set (G.nw.2+(G.bucket+G.el.1)) (fv:Int)} (toStore {G with half:=2}) w3):=Lib.hid (by
  rw [hfv.out] at*
  obtain ⟨e1,e2,e3,e4⟩:=toStore_eq {G with half:=2}
  refine ⟨_,a,hM2.out.only hO4 (fun x hx e=>hfar.out (e▸hx)),rfl,⟨rfl,rfl,rfl,rfl,fun x q=>.inl q⟩,?_,rfl,?_,hO3.out.trans' hO4 (fun x _ q=>.inr (.inl q))⟩
  · refine ⟨hB3,fun q=>by omega,fun _=>⟨hcv.out,by rw [e1]; exact hF2.out.only hO4 (hF2.out.ne hB2.out)⟩,fun q=>by omega,?_⟩
    rw [e2,e3,show decide ((toStore {G with half:=2}).nx≤6)=true by simp; omega]
    have:=hR2.out.only hO4 hself.out
    rw [h5.out] at this
    exact this
  · have:=@gfoot_store a G h5.out w.heap.size
    rw [hh.out] at this
    exact this)
 clear hB3 hO4 hT
 go_wp2_with fail
 go_ret
 exact ⟨rfl,hE.out⟩
theorem store_step (hM:MemAt w M) (h:GrAt w a G) (h5:G.nx=5) (hh:G.half≤1) (hx:G.nw.2+(G.bucket+G.half*G.el.1)<M.xs.length) (hf:sel G.C.fi G.half≤18446744073709551615) (hb:G.bucket≤1000000) (hn:G.el.1≤1000000) (hw:G.nw.2≤4000000):
 Calls Tryz.prog 195 #[ptr a.f,ptr M.m] w fun e w'=>e=.returned (.bool false)∧grL.Stp w M a G {lm M with xs:=M.xs.set (G.nw.2+(G.bucket+G.half*G.el.1)) ((sel G.C.fi G.half:Nat):Int)} (toStore {G with half:=G.half+1}) w':=by
 rcases (show G.half=0∨G.half=1 by omega) with hh0 | hh0
 · rw [hh0] at hx hf ⊢
   simp only [Nat.zero_mul,Nat.add_zero] at hx ⊢
   exact store_half0 hM h h5 hh0 hx hf hb hn hw
 · rw [hh0] at hx hf ⊢
   simp only [Nat.one_mul] at hx ⊢
   exact store_half1 hM h h5 hh0 hx hf hb hn hw
end
end Go.Proofs.YtpobbnllcoabhaaGreatDoor.Gw
namespace Go.Proofs.YtpobbnllcoabhaaGreatDoor.Gw
open Go Go.RowKit Hp K Fl Rw Hm Ar Mm Me Qs Wk Pn
set_option maxRecDepth 100000
section
variable {w w':World} {M:Mo} {a:Gl} {G:Gr}
theorem waits_at {w1 w2:World} {a1:Gl} {G1:Gr} {b:Nat} (hB:Own w2 {a1 with wv:=ptr b,w:=b} {G1 with nx:=7}) (hW:WtAt w2 b ⟨G1.worker,0,0,0⟩) (hR:Rws w1 a1 G1.pass G1.later false) (hO:Only (·=a1.f) w1 w2) (hS:∀ x,rfoot a1 false x→x≠a1.f):GrAt w2 {a1 with wv:=ptr b,w:=b} (waitNew G1):=by
 have hR2:=hR.only hO hS
 exact ⟨hB,fun q=>by simp [waitNew] at q,fun q=>by simp [waitNew] at q,fun _=>⟨rfl,hW⟩,⟨hR2.ps,hR2.qs,fun q=>by simp [waitNew] at q,hR2.pl,hR2.pc,hR2.qr,hR2.pq⟩⟩
set_option maxHeartbeats 2000000 in
theorem count_step (hM:MemAt w M) (h:GrAt w a G) (h6:G.nx=6) (hx:1<M.xs.length) (hn:0≤G.num∧G.num≤1000000):
 Calls Tryz.prog 196 #[ptr a.f,ptr M.m] w fun e w'=>e=.returned (.bool false)∧grL.Stp w M a G {lm M with xs:=M.xs.set 1 G.num} (waitNew G) w':=by
 obtain ⟨z,hz⟩:=Int.eq_ofNat_of_zero_le hn.1
 have c8:=h.blk.cell 8
 simp only [grc,List.getElem?_toArray,List.getElem?_cons_succ,List.getElem?_cons_zero] at c8
 have hSt:=stored_any hM h 1 hx z (by omega)
 rw [hz] at c8 ⊢
 have ez:IntKind.u64.wrap (z:Int)=z:=by rw [IntKind.wrap_u64]; omega
 have d0:=hM.hd.1
 replace hSt:=Lib.hid hSt
 have HM:=Lib.hid hM
 have HG:=Lib.hid h
 replace hz:=Lib.hid hz
 replace h6:=Lib.hid h6
 clear h hM hn
 go_enter Tryz.func196,Tryz.ntmps196
 go_wp2_with fail
 go_region_held3 (fun w'=>w'.cell? ⟨M.m,0,none⟩=some (ptr M.g)∧w'.cell? ⟨a.f,8,none⟩=some (.int .i64 z)) (go_keep)
  (first
    | (go_at_call 21
       refine (hSt.out (w.drewN 1) ((Only.refl (fun _=>False) w).drewN 1)).mono ?_
       rintro e w1 ⟨rfl,hM1,hG1,hOw⟩
       have p8:=hG1.blk.cell 8
       have p00:=hM1.hd.1
       simp only [grc,List.getElem?_toArray,List.getElem?_cons_succ,List.getElem?_cons_zero,hz.out] at p8
       have hWA:=Lib.hid (waitAnew_any hG1.blk)
       replace hM1:=Lib.hid hM1
       replace hG1:=Lib.hid hG1
       replace hOw:=Lib.hid hOw
       clear hSt))
 clear p8 p00
 go_wp2_with fail
 refine hWA.out.mono ?_
 rintro e w2 ⟨b,rfl,hB2,hW2,hlb,hO2⟩
 have hE:Hid (grL.Stp w M a G {lm M with xs:=M.xs.set 1 (z:Int)} (waitNew G) w2):=Lib.hid (by
  have hR:=hG1.out.rw_.stop
  have hself:=hG1.out.rw_.self hG1.out.blk
  refine ⟨_,{a with wv:=ptr b,w:=b},hM1.out.only hO2 (fun x hx e=>hG1.out.far hM1.out (x:=a.f) (.inl rfl) (e▸hx)),rfl,⟨rfl,rfl,rfl,rfl,fun x q=>.inl q⟩,waits_at hB2 hW2 hR hO2 (fun x hx=>hself x (by
   rcases hx with ⟨q,hx⟩ | hx
   · exact .inl ⟨.inl (q.resolve_right (by simp)),hx⟩
   · exact .inr hx)),rfl,fun x hx=>?_,(hOw.out.mono (fun x _ q=>(.inl q:mfoot M x∨gfoot a G x))).trans' hO2 (fun x _ q=>.inr (.inl q))⟩
  have hs:=hOw.out.size
  rcases hx with rfl | ⟨q,_⟩ | ⟨q,_⟩ | ⟨_,rfl⟩ | hx
  · exact .inl (.inl rfl)
  · simp [waitNew] at q
  · simp [waitNew] at q
  · exact .inr (Nat.le_trans hs hlb)
  · refine .inl (.inr (.inr (.inr (.inr ?_))))
    rcases hx with ⟨q,hx⟩ | hx
    · exact .inl ⟨.inl (q.resolve_right (by simp [waitNew])),hx⟩
    · exact .inr hx)
 clear hB2 hW2 hlb hO2 hWA
 go_wp2_with fail
 go_ret
 exact ⟨rfl,hE.out⟩
theorem GrAt.waited {M':Mo} {W':Wt} (h:GrAt w a G) (hM:MemAt w M) (h7:G.nx=7) (hW:WtAt w' a.w W') (ho:Only (fun x=>mfoot M x∨x=a.w) w w'):GrAt w' a {G with W:=W'}:=by
 have hw:=h.wt h7
 refine ⟨h.blk.only ho ?_,fun q=>by simp only at q; omega,fun q=>by simp only at q; omega,fun _=>⟨hw.1,hW⟩,h.rw_.only ho fun x hx q=>?_⟩
 · rintro (q | q)
   · exact h.far hM (.inl rfl) q
   · exact h.blk.differ hw.2 (by decide) q
 · rcases q with q | rfl
   · exact h.far hM (.inr (.inr (.inr (.inr hx)))) q
   · exact (h.rw_.ty hx).apart (blk_ty hw.2) (by decide)
set_option maxHeartbeats 2000000 in
theorem waitOn_step {n:Nat} (hM:MemAt w M) (h:GrAt w a G) (h7:G.nx=7) (hn:M.k=n) (ok:Okw n M.xs M.hs G.W) (hr:readyB M.xs M.hs G.W=true):
 Calls Tryz.prog 202 #[ptr a.f,ptr M.m] w fun e w'=>e=.returned (.bool (decide (G.W.at_=3∧G.pass=[])))∧
  grL.Stp w M a G {lm M with xs:=(wstep n M.xs M.hs G.W).1,hs:=(wstep n M.xs M.hs G.W).2.1} {G with W:=(wstep n M.xs M.hs G.W).2.2,nx:=if G.W.at_=3 then (if G.pass=[] then 9 else 8) else 7} w':=by
 obtain ⟨hwv,hW⟩:=h.wt h7
 have hS:=(wait_step hM hW hn ok hr).mono fun e w1 q=>
  show e=.returned (.bool (decide (G.W.at_=3)))∧MemAt w1 {M with xs:=(wstep n M.xs M.hs G.W).1,hs:=(wstep n M.xs M.hs G.W).2.1}∧GrAt w1 a {G with W:=(wstep n M.xs M.hs G.W).2.2}∧Only (fun x=>mfoot M x∨gfoot a G x) w w1 from
   ⟨q.1,q.2.1,h.waited (M':=M) hM h7 q.2.2.1 q.2.2.2,q.2.2.2.mono (fun x _ y=>y.imp id (fun e=>.inr (.inr (.inr (.inl ⟨h7,e⟩)))))⟩
 have c13:=h.blk.cell 13
 simp only [grc,List.getElem?_toArray,List.getElem?_cons_succ,List.getElem?_cons_zero,hwv] at c13
 generalize (wstep n M.xs M.hs G.W).1=xs' at*
 generalize (wstep n M.xs M.hs G.W).2.1=hs' at*
 generalize (wstep n M.xs M.hs G.W).2.2=W' at*
 have hpl:=h.rw_.ps.len
 have HM:=Lib.hid hM
 have HG:=Lib.hid h
 replace h7:=Lib.hid h7
 have hEnd:Hid (∀ w1 w2 n2,MemAt w1 {M with xs:=xs',hs:=hs'}→GrAt w1 a {G with W:=W'}→Only (fun x=>mfoot M x∨gfoot a G x) w w1→n2=8∨n2=9→Own w2 a {G with W:=W',nx:=n2}→Only (·=a.f) w1 w2→grL.Stp w M a G {lm M with xs:=xs',hs:=hs'} {G with W:=W',nx:=n2} w2):=Lib.hid (by
  intro w1 w2 n2 hM1 hG1 hO1 hn2 hB2 hO2
  have hR:=(hG1.rw_.only hO2 (hG1.rw_.self hG1.blk)).stop
  refine ⟨_,a,hM1.only hO2 (fun x hx e=>hG1.far hM1 (x:=a.f) (.inl rfl) (e▸hx)),rfl,⟨rfl,rfl,rfl,rfl,fun x q=>.inl q⟩,⟨hB2,fun q=>by simp only at q; omega,fun q=>by simp only at q; omega,fun q=>by simp only at q; omega,?_⟩,rfl,gfoot_plain (G':={G with W:=W'}) (by omega) (fun q=>by simp at q; omega),hO1.trans' hO2 (fun x _ q=>.inr (.inl q))⟩
  show Rws w2 a G.pass G.later (decide (n2≤6))
  rw [show decide (n2≤6)=false by simp; omega]
  exact hR)
 by_cases h3:G.W.at_=3
 · rw [show decide (G.W.at_=3)=true by simp [h3]] at hS
   replace hS:=Lib.hid hS
   rw [if_pos h3]
   by_cases hp:G.pass=[]
   · rw [if_pos hp,show decide (G.W.at_=3∧G.pass=[])=true by simp [h3,hp]]
     rw [hp] at hpl
     replace hpl:=Lib.hid hpl
     clear h hM ok hr hn h3 hp hW hwv
     go_enter Tryz.func202,Tryz.ntmps202
     go_wp2_with fail
     refine hS.out.mono ?_
     rintro e w1 ⟨rfl,hM1,hG1,hO1⟩
     have p14:=hG1.blk.cell 14
     simp only [grc,List.getElem?_toArray,List.getElem?_cons_succ,List.getElem?_cons_zero,hpl.out,List.length_nil] at p14
     have hF:=Lib.hid (end_grow hG1.blk)
     replace hM1:=Lib.hid hM1
     replace hG1:=Lib.hid hG1
     replace hO1:=Lib.hid hO1
     clear hS c13
     go_wp2_with fail
     refine hF.out.mono ?_
     rintro e w2 ⟨rfl,hB2,hO2⟩
     have hE:=Lib.hid (hEnd.out w1 w2 9 hM1.out hG1.out hO1.out (.inr rfl) hB2 hO2)
     clear hB2 hO2 hF p14
     go_wp2_with fail
     go_ret
     exact ⟨rfl,hE.out⟩
   · rw [if_neg hp,show decide (G.W.at_=3∧G.pass=[])=false by simp [hp]]
     have hp0:0<a.ps.length:=by rw [hpl]; exact List.length_pos_iff.2 hp
     have hpc:=h.rw_.pc
     simp only [maxLen] at hpc
     generalize hpn:a.ps.length=m at*
     replace hpn:=Lib.hid hpn
     have q0:((m:Int)==0)=false:=by simp; omega
     clear h hM ok hr hn h3 hp hW hwv hpl
     go_enter Tryz.func202,Tryz.ntmps202
     go_wp2_with fail
     refine hS.out.mono ?_
     rintro e w1 ⟨rfl,hM1,hG1,hO1⟩
     have p14:=hG1.blk.cell 14
     simp only [grc,List.getElem?_toArray,List.getElem?_cons_succ,List.getElem?_cons_zero,hpn.out] at p14
     have hF:=Lib.hid (goOn_any hG1.blk (n:=8) (by omega) rfl)
     replace hM1:=Lib.hid hM1
     replace hG1:=Lib.hid hG1
     replace hO1:=Lib.hid hO1
     clear hS c13
     go_wp2_with fail
     refine hF.out.mono ?_
     rintro e w2 ⟨rfl,hB2,hO2⟩
     have hE:=Lib.hid (hEnd.out w1 w2 8 hM1.out hG1.out hO1.out (.inl rfl) hB2 hO2)
     clear hB2 hO2 hF p14
     go_wp2_with fail
     go_ret
     exact ⟨rfl,hE.out⟩
 · rw [show decide (G.W.at_=3)=false by simp [h3]] at hS
   rw [if_neg h3,show decide (G.W.at_=3∧G.pass=[])=false by simp [h3]]
   replace hS:=Lib.hid hS
   clear h hM ok hr hn h3 hW hwv hpl hEnd
   go_enter Tryz.func202,Tryz.ntmps202
   go_wp2_with fail
   refine hS.out.mono ?_
   rintro e w1 ⟨rfl,hM1,hG1,hO1⟩
   have e7:Hid ({G with W:=W',nx:=7}=({G with W:=W'}:Gr)):=Lib.hid (by rw [← h7.out])
   have hE:Hid (grL.Stp w M a G {lm M with xs:=xs',hs:=hs'} {G with W:=W',nx:=7} w1):=Lib.hid (by
    rw [e7.out]
    exact ⟨_,a,hM1,rfl,⟨rfl,rfl,rfl,rfl,fun x q=>.inl q⟩,hG1,rfl,fun x q=>.inl q,hO1⟩)
   clear hM1 hG1 hO1 hS c13
   go_wp2_with fail
   go_ret
   exact ⟨rfl,hE.out⟩
end
end Go.Proofs.YtpobbnllcoabhaaGreatDoor.Gw
