/- Layer 10 (get): a get's steps, one by one; a new one. -/
import Derived.Test.YtpobbnllcoabhaaGreatGetA
set_option linter.unusedVariables false
set_option linter.unusedSimpArgs false
namespace Go.Proofs.YtpobbnllcoabhaaGreat.Gt
open Go Go.RowKit Hp K Fl Rw Hm Ar Mm Me Qs Wk
set_option maxRecDepth 100000
section
variable {w w':World} {M:Mo} {a:Ga} {G:Ge}
def newGet (k:Nat) (key:ByteArray):Ge:=⟨key,(FM.sum key.data.toList:Nat),1,⟨k,0,0⟩,0,new 0 (-1) (FM.sum key.data.toList:Nat) key⟩
set_option maxHeartbeats 1000000 in
theorem new_any (k:Nat) (key:ByteArray) (hk:key.size≤maxLen) (w:World):
 Calls Tryz.prog 75 #[.int .i64 k,.string key] w fun e w'=>∃ a:Ga,e=.returned (ptr a.f)∧GeAt w' a (newGet k key)∧(∀ x,gfoot a x→w.heap.size≤x)∧Below w.heap.size w w':=by
 have hS:=Lib.hid (Fnv.sum_any key w hk)
 unfold newGet
 generalize hs:FM.sum key.data.toList=s at*
 replace hs:=Lib.hid hs
 go_enter Tryz.func75,Tryz.ntmps75
 go_wp2_with fail
 refine hS.out.mono ?_
 rintro e w0 ⟨rfl,hw⟩
 obtain rfl:w=w0:=hw.symm
 clear hS hw
 have hE:=Lib.hid (enter_any k w)
 go_wp2_with fail
 refine hE.out.mono ?_
 rintro e w1 ⟨rfl,hC1,hB1⟩
 have hL:=Lib.hid (leave_any k w1)
 clear hE
 replace hC1:=Lib.hid hC1
 replace hB1:=Lib.hid hB1
 go_wp2_with fail
 refine hL.out.mono ?_
 rintro e w2 ⟨rfl,hG2,hB2⟩
 have hC2:CmAt w2 w.heap.size ⟨k,0,0⟩:=hC1.out.only (Only.ofBelow hB2 (fun _=>False)) (by simp)
 have hB02:=hB1.out.trans (hB2.mono hB1.out.size)
 have hlt1:=hB1.out.size
 have hlt2:=hB2.size
 clear hL hC1 hB1 hB2
 obtain ⟨w3,hw3⟩:∃ w3,w3=w2.alloc (.cells #[.string key,.int .u32 s,.nilFunc,ptr w.heap.size,ptr w1.heap.size,.pointer none] 185):=⟨_,rfl⟩
 have hF3:Blk w3 w2.heap.size 185 #[.string key,.int .u32 s,.nilFunc,ptr w.heap.size,ptr w1.heap.size,.pointer none]:=by rw [hw3]; exact Blk.made w2 _ _
 have hC3:CmAt w3 w.heap.size ⟨k,0,0⟩:=by rw [hw3]; exact Blk.alloc hC2 _
 have hG3:GgAt w3 w1.heap.size k 0:=by rw [hw3]; exact Blk.alloc hG2 _
 have hB03:Below w.heap.size w w3:=by rw [hw3]; exact hB02.alloc hB02.size _
 have hF:=Lib.hid (walkFrom_any hF3.lt (hF3.cell 0) (hF3.cell 1) (-1))
 have hl3:w3.heap.size=w2.heap.size+1:=by rw [hw3]; simp
 obtain ⟨f,hf⟩:∃ f,f=w2.heap.size:=⟨_,rfl⟩
 obtain ⟨c,hc⟩:∃ c,c=w.heap.size:=⟨_,rfl⟩
 obtain ⟨o,ho⟩:∃ o,o=w1.heap.size:=⟨_,rfl⟩
 rw [← hf] at hF3 hF hl3 hlt2
 rw [← hc] at hF3 hC3 hlt1
 rw [← ho] at hF3 hG3 hlt1 hlt2
 replace hF3:=Lib.hid hF3
 replace hC3:=Lib.hid hC3
 replace hG3:=Lib.hid hG3
 replace hB03:=Lib.hid hB03
 replace hl3:=Lib.hid hl3
 have hc':=Lib.hid hc
 clear hC2 hG2 hB02
 go_wp2_with fail
 rw [← hw3,← hf]
 clear hw3 hf hc ho
 refine hF.out.mono ?_
 rintro e w4 ⟨rfl,hW4,hB4⟩
 have hF4:=hF3.out.only (Only.ofBelow hB4 (fun _=>False)) (by simp)
 have hC4:CmAt w4 c ⟨k,0,0⟩:=hC3.out.only (Only.ofBelow hB4 (fun _=>False)) (by simp)
 have hG4:GgAt w4 o k 0:=hG3.out.only (Only.ofBelow hB4 (fun _=>False)) (by simp)
 have hB04:=hB03.out.trans (hB4.mono hB03.out.size)
 have hge:=hB03.out.size
 obtain ⟨b,hb⟩:∃ b,b=w3.heap.size:=⟨_,rfl⟩
 rw [← hb] at hW4 hge ⊢
 have hl4:=hl3.out
 rw [← hb] at hl4
 have k2:=hF4.cell 2
 have k5:=hF4.cell 5
 have z2:=hF4.frozen 2
 have z5:=hF4.frozen 5
 simp at k2 k5
 have d1:=hF4.differ hC4 (by decide)
 have d2:=hF4.differ hG4 (by decide)
 have d3:=hF4.differ hW4 (by decide)
 have hE:Hid (GeAt ((w4.setCell ⟨f,5,none⟩ (ptr b)).setCell ⟨f,2,none⟩ (wfm 100 (ptr f))) ⟨f,c,o,b⟩ ⟨key,s,1,⟨k,0,0⟩,0,new 0 (-1) s key⟩):=Lib.hid
  ⟨(hF4.store 5 (ptr b)).store 2 (wfm 100 (ptr f)),Blk.far (Blk.far hC4 (p:=⟨f,5,none⟩) (fun e=>d1 e.symm) _) (p:=⟨f,2,none⟩) (fun e=>d1 e.symm) _,
    Blk.far (Blk.far hG4 (p:=⟨f,5,none⟩) (fun e=>d2 e.symm) _) (p:=⟨f,2,none⟩) (fun e=>d2 e.symm) _,Blk.far (Blk.far hW4 (p:=⟨f,5,none⟩) (fun e=>d3 e.symm) _) (p:=⟨f,2,none⟩) (fun e=>d3 e.symm) _⟩
 have hcw:=hc'.out
 have hBx:=Lib.hid ((hB04.setCell (p:=⟨f,5,none⟩) (show w.heap.size≤f by omega) (ptr b)).setCell (p:=⟨f,2,none⟩) (show w.heap.size≤f by omega) (wfm 100 (ptr f)))
 have hlow:Hid (∀ x,gfoot ⟨f,c,o,b⟩ x→w.heap.size≤x):=Lib.hid (by
  intro x hx
  rcases hx with q | q | q | q<;>simp only at q<;>omega)
 clear hF hF3 hC3 hG3 hB03 hW4 hB4 hF4 hC4 hG4 hB04 hb hl4 hl3 hcw hc' d1 d2 d3 hge
 go_wp2_with fail
 go_ret
 exact ⟨_,rfl,hE.out,hlow.out,hBx.out⟩
theorem cstep_worker (xs:List Int) (C:Cm):(cstep xs C).2.worker=C.worker:=by
 unfold cstep
 split<;>rfl
theorem GeAt.coming {C:Cm} (h:GeAt w a G) (hM:MemAt w M) (hC:CmAt w' a.c C) (ho:Only (fun x=>mfoot M x∨x=a.c) w w') (hk:C.worker=G.C.worker):GeAt w' a {G with C:=C}:=by
 have ha:=h.apart
 refine ⟨h.1.only ho ?_,hC,?_,h.2.2.2.only ho ?_⟩
 · rintro (q | q)
   · exact h.far hM (.inl rfl) q
   · exact ha.1 q
 · show GgAt w' a.o C.worker G.gat
   rw [hk]
   refine Blk.only h.2.2.1 ho ?_
   rintro (q | q)
   · exact h.far hM (.inr (.inr (.inl rfl))) q
   · exact ha.2.2.2.1 q.symm
 · rintro (q | q)
   · exact h.far hM (.inr (.inr (.inr rfl))) q
   · exact ha.2.2.2.2.1 q.symm
set_option maxHeartbeats 1000000 in
theorem comeIn_any (hM:MemAt w M) (h:GeAt w a G) (ha:G.C.at_≤1) (hk:2+G.C.worker<M.xs.length) (hp:G.C.worker≤1000) (hv:0≤G.C.period∧G.C.period≤18446744073709551615):
 Calls Tryz.prog 100 #[ptr a.f,ptr M.m] w fun e w'=>e=.returned (.bool false)∧MemAt w' {M with xs:=(cstep M.xs G.C).1}∧GeAt w' a {G with C:=(cstep M.xs G.C).2,nx:=if G.C.at_=1 then 2 else G.nx}∧Only (fun x=>mfoot M x∨gfoot a x) w w':=by
 have hS:=(coming_step hM h.2.1 ha hk hp hv).mono fun e w' q=>
  show e=.returned (.bool (decide (G.C.at_=1)))∧MemAt w' {M with xs:=(cstep M.xs G.C).1}∧GeAt w' a {G with C:=(cstep M.xs G.C).2}∧Only (fun x=>mfoot M x∨gfoot a x) w w' from
   ⟨q.1,q.2.1,h.coming hM q.2.2.1 q.2.2.2 (cstep_worker _ _),q.2.2.2.mono (fun x _ y=>y.imp id (fun e=>.inr (.inl e)))⟩
 have c3:=h.hd.2.2.2.1
 by_cases h1:G.C.at_=1
 · rw [show decide (G.C.at_=1)=true by simp [h1]] at hS
   rw [if_pos h1]
   have hfar:=Lib.hid (h.far hM (.inl rfl))
   generalize (cstep M.xs G.C).1=xs' at*
   generalize (cstep M.xs G.C).2=C' at*
   replace hS:=Lib.hid hS
   clear h1 h hM ha hk hp hv
   go_enter Tryz.func100,Tryz.ntmps100
   go_wp2_with fail
   refine hS.out.mono ?_
   rintro e w1 ⟨rfl,hM1,hG1,hO1⟩
   have k2:=hG1.hd.2.2.1
   have z2:=hG1.frz 2
   have hG2:=Lib.hid (hG1.next 2)
   have hO2:=(Only.refl (·=a.f) w1).setCell (p:=⟨a.f,2,none⟩) (.inl rfl) (gnv a 2)
   have hM2:=Lib.hid (hM1.only hO2 (fun x hx q=>hfar.out (q▸hx)))
   have hO3:=Lib.hid (hO1.trans' hO2 (fun x _ q=>.inr (.inl q)))
   clear hO2 hM1 hG1 hO1 hS c3
   go_wp2_with fail
   go_ret
   exact ⟨rfl,hM2.out,hG2.out,hO3.out⟩
 · rw [show decide (G.C.at_=1)=false by simp [h1]] at hS
   rw [if_neg h1]
   generalize (cstep M.xs G.C).1=xs' at*
   generalize (cstep M.xs G.C).2=C' at*
   replace hS:=Lib.hid hS
   clear h1 h hM ha hk hp hv
   go_enter Tryz.func100,Tryz.ntmps100
   go_wp2_with fail
   refine hS.out.mono ?_
   rintro e w1 ⟨rfl,hM1,hG1,hO1⟩
   replace hM1:=Lib.hid hM1
   replace hG1:=Lib.hid hG1
   replace hO1:=Lib.hid hO1
   clear hS c3
   go_wp2_with fail
   go_ret
   exact ⟨rfl,hM1.out,hG1.out,hO1.out⟩
set_option maxHeartbeats 1000000 in
theorem load_any (hM:MemAt w M) (h:GeAt w a G) (hx:1<M.xs.length) (hd:(now M.xs M.ds).1≤65536∧(now M.xs M.ds).2≤4000000) (hs:0≤G.sum∧G.sum<4294967296):
 Calls Tryz.prog 126 #[ptr a.f,ptr M.m] w fun e w'=>e=.returned (.bool false)∧MemAt w' M∧(∃ b,w.heap.size≤b∧GeAt w' {a with w:=b} {G with W:=new 0 (cellOf G.sum (now M.xs M.ds)) G.sum G.key,nx:=3})∧Only (gfoot a) w w':=by
 have hN:=Lib.hid (now_any hM hx)
 generalize now M.xs M.ds=d at*
 generalize hcc:cellOf G.sum d=cc
 replace hcc:=Lib.hid hcc
 have HM:=Lib.hid hM
 have HG:=Lib.hid h
 clear hM h
 unfold dv at hN
 go_enter Tryz.func126,Tryz.ntmps126
 go_wp2_with fail
 refine hN.out.mono ?_
 rintro e w1 ⟨rfl,hB1⟩
 have hC:=cell_any (HG.out.below hB1) d hd hs
 unfold dv at hC
 rw [hcc.out] at hC
 replace hC:=Lib.hid hC
 replace hB1:=Lib.hid hB1
 clear hN
 go_wp2_with fail
 refine hC.out.mono ?_
 rintro e w2 ⟨rfl,hB2⟩
 have hB02:=hB1.out.trans (hB2.mono hB1.out.size)
 have hG2:=HG.out.below hB02
 have hF:=Lib.hid (walkFrom_any hG2.1.lt hG2.hd.1 hG2.hd.2.1 cc)
 replace hB02:=Lib.hid hB02
 clear hC hB1 hB2 hG2
 go_wp2_with fail
 refine hF.out.mono ?_
 rintro e w3 ⟨rfl,hW3,hB3⟩
 have hge:=hB02.out.size
 have hB03:=hB02.out.trans (hB3.mono hge)
 have hG3:=HG.out.below hB03
 have hM3:=HM.out.below hB03
 have k2:=hG3.hd.2.2.1
 have k5:=hG3.hd.2.2.2.2.2
 have z2:=hG3.frz 2
 have z5:=hG3.frz 5
 obtain ⟨b,hb⟩:∃ b,b=w2.heap.size:=⟨_,rfl⟩
 rw [← hb] at hW3 hge ⊢
 have ap:=hG3.apart
 have d3:=hG3.1.differ hW3 (by decide)
 have far:=hG3.far hM3 (.inl rfl)
 have hO:=(((Only.refl (·=a.f) w3).setCell (p:=⟨a.f,5,none⟩) (.inl rfl) (ptr b)).setCell (p:=⟨a.f,2,none⟩) (.inl rfl) (wfm 157 (ptr a.f)))
 have hE:Hid (GeAt ((w3.setCell ⟨a.f,5,none⟩ (ptr b)).setCell ⟨a.f,2,none⟩ (wfm 157 (ptr a.f))) {a with w:=b} {G with W:=new 0 cc G.sum G.key,nx:=3}):=Lib.hid
  ⟨(hG3.1.store 5 (ptr b)).store 2 (wfm 157 (ptr a.f)),hG3.2.1.only hO (fun e=>ap.1 e.symm),hG3.2.2.1.only hO (fun e=>ap.2.1 e.symm),hW3.only hO (fun e=>d3 e.symm)⟩
 have hMx:=Lib.hid (hM3.only hO (fun x hx q=>far (q▸hx)))
 have hOx:=Lib.hid ((Only.ofBelow hB03 (gfoot a)).trans' hO (fun x _ q=>.inl q))
 replace hge:=Lib.hid hge
 clear hF hW3 hB3 hB02 hB03 hG3 hM3 ap d3 far hO hb
 go_wp2_with fail
 go_ret
 exact ⟨rfl,hMx.out,⟨b,hge.out,hE.out⟩,hOx.out⟩
end
end Go.Proofs.YtpobbnllcoabhaaGreat.Gt
