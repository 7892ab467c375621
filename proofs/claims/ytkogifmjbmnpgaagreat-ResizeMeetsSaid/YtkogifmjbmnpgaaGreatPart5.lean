/- Walks and plain mathematics, put together in their order: GroJ, GroK, GroL, GroM. -/
import Derived.Test.YtkogifmjbmnpgaaGreatPart4
set_option linter.unusedVariables false
set_option linter.unusedSimpArgs false
namespace Go.Proofs.YtkogifmjbmnpgaaGreat.Gw
open Go Go.RowKit Hp K Fl Rw Hm Ar Mm Me Qs Wk Pn
set_option maxRecDepth 100000
section
variable {w w':World} {M:Mo} {a:Gl} {G:Gr}
theorem gfoot_store (h5:G.nx=5) {k:Nat} (x:Nat) (hx:gfoot a (toStore {G with half:=G.half+1}) x):gfoot a G x∨k≤x:=by
 obtain ⟨e1,e2,e3,e4⟩:=toStore_eq {G with half:=G.half+1}
 rcases hx with rfl | ⟨_,rfl⟩ | ⟨q,_⟩ | ⟨q,_⟩ | hx
 · exact .inl (.inl rfl)
 · exact .inl (.inr (.inl ⟨.inr h5,rfl⟩))
 · omega
 · omega
 · refine .inl (.inr (.inr (.inr (.inr ?_))))
   rw [show decide ((toStore {G with half:=G.half+1}).nx≤6)=true by simp; omega] at hx
   rw [h5]
   exact hx
def Stored (w:World) (M:Mo) (a:Gl) (G:Gr) (k x:Nat) (w':World):Prop:=MemAt w' {M with xs:=M.xs.set k (x:Int)}∧GrAt w' a G∧Only (mfoot M) w w'
theorem stored_any (hM:MemAt w M) (h:GrAt w a G) (k:Nat) (hk:k<M.xs.length) (x:Nat) (hx:x≤18446744073709551615) (w1:World) (h0:Only (fun _=>False) w w1):
 Calls Tryz.prog 52 #[ptr M.g,.int .i64 k,.int .u64 x] w1 fun e w'=>e=.returned (.int .i64 0)∧Stored w M a G k x w':=
 (Cl.store_in (hM.only h0 (by simp)).2.1 k hk (x:Int) (by omega) (by omega)).mono fun e w' q=>by
   have ho:Only (mfoot M) w w':=(h0.mono (fun x _ q=>q.elim)).trans' q.2.2 (fun x _ q=>.inr (.inl q))
   exact ⟨q.1,(hM.only h0 (by simp)).cells q.2.1 q.2.2,h.only ho (fun x hx q=>h.far hM hx q),ho⟩
set_option maxHeartbeats 2000000 in
theorem store_half0 (hM:MemAt w M) (h:GrAt w a G) (h5:G.nx=5) (hh:G.half=0) (hx:G.nw.2+G.bucket<M.xs.length) (hf:G.C.fi.1≤18446744073709551615) (hb:G.bucket≤1000000) (hn:G.el.1≤1000000) (hw:G.nw.2≤4000000):
 Calls Tryz.prog 199 #[ptr a.f,ptr M.m] w fun e w'=>e=.returned (.bool false)∧grL.Stp w M a G {lm M with xs:=M.xs.set (G.nw.2+G.bucket) ((G.C.fi.1:Nat):Int)} (toStore {G with half:=1}) w':=by
 obtain ⟨hcv,hF⟩:=h.c5 h5
 have f0:=hF.hd.1
 have c4:=h.blk.cell 4
 have c7:=h.blk.cell 7
 have c9:=h.blk.cell 9
 have c10:=h.blk.cell 10
 have c12:=h.blk.cell 12
 simp only [grc,List.getElem?_toArray,List.getElem?_cons_succ,List.getElem?_cons_zero,hcv,hh] at c4 c7 c9 c10 c12
 have d0:=hM.hd.1
 have hSt:=stored_any hM h (G.nw.2+G.bucket) hx G.C.fi.1 hf
 have e1:((G.nw.2+G.bucket:Nat):Int)=(G.nw.2:Int)+(G.bucket:Int):=by omega
 rw [e1] at hSt
 replace hSt:=Lib.hid hSt
 have HM:=Lib.hid hM
 have HG:=Lib.hid h
 replace hF:=Lib.hid hF
 replace hcv:=Lib.hid hcv
 replace hh:=Lib.hid hh
 replace h5:=Lib.hid h5
 obtain ⟨fv,hfv⟩:∃ v,v=G.C.fi.1:=⟨_,rfl⟩
 rw [← hfv] at hSt f0 ⊢
 replace hfv:=Lib.hid hfv
 have ew:IntKind.i64.wrap ((G.nw.2:Int)+(G.bucket:Int))=(G.nw.2:Int)+(G.bucket:Int):=IntWalk.i64_in _ (by omega)
 clear h hM hf hx e1
 go_enter Tryz.func199,Tryz.ntmps199
 go_wp2_with fail
 go_quiet (fail)
 have hq:=Lib.hid ((Only.refl (fun _=>False) w).drewN nq)
 have g0:(w.drewN nq).cell? ⟨a.c,0,none⟩=some (.int .u64 fv):=f0
 have g7:(w.drewN nq).cell? ⟨a.f,7,none⟩=some (.int .i64 G.nw.2):=c7
 have g10:(w.drewN nq).cell? ⟨a.f,10,none⟩=some (ptr a.c):=c10
 have g12:(w.drewN nq).cell? ⟨a.f,12,none⟩=some (.int .i64 0):=c12
 have g00:(w.drewN nq).cell? ⟨M.m,0,none⟩=some (ptr M.g):=d0
 clear f0 c4 c7 c9 c10 c12 d0
 generalize w.drewN nq=wq at*
 go_upto_region 2 with (fail)
 go_region_held3 (fun w'=>w'.cell? ⟨M.m,0,none⟩=some (ptr M.g)∧w'.cell? ⟨a.f,7,none⟩=some (.int .i64 G.nw.2)∧w'.cell? ⟨a.f,10,none⟩=some (ptr a.c)∧w'.cell? ⟨a.f,12,none⟩=some (.int .i64 0)∧w'.cell? ⟨a.c,0,none⟩=some (.int .u64 fv)) (go_keep)
  (first
    | (go_at_call 52
       refine (hSt.out (wq.drewN 1) (hq.out.drewN 1)).mono ?_
       rintro e w1 ⟨rfl,hM1,hG1,hOw⟩
       have p7:=hG1.blk.cell 7
       have p10:=hG1.blk.cell 10
       have p12:=hG1.blk.cell 12
       have y12:=hG1.blk.frozen 12
       have p0:=(hG1.c5 h5.out).2.hd.1
       have p00:=hM1.hd.1
       simp only [grc,List.getElem?_toArray,List.getElem?_cons_succ,List.getElem?_cons_zero,hcv.out,hh.out] at p7 p10 p12
       rw [← hfv.out] at p0
       replace hM1:=Lib.hid hM1
       replace hG1:=Lib.hid hG1
       replace hOw:=Lib.hid hOw
       clear hSt))
 have hB2:Own (w1.setCell ⟨a.f,12,none⟩ (.int .i64 (1))) a {G with half:=1}:=hG1.out.blk.store 12 (.int .i64 (1))
 have hO2:=(Only.refl (·=a.f) w1).setCell (p:=⟨a.f,12,none⟩) (.inl rfl) (.int .i64 (1))
 have hF2:=(hG1.out.c5 h5.out).2.only hO2 ((hG1.out.c5 h5.out).2.ne hG1.out.blk)
 have hT:=Lib.hid (toStore_any hB2 hcv.out hF2 (by simp) hb hn)
 have hfar:=Lib.hid (hG1.out.far hM1.out (x:=a.f) (.inl rfl))
 have hM2:=Lib.hid (hM1.out.only hO2 (fun x hx e=>hfar.out (e▸hx)))
 have hself:=Lib.hid (hG1.out.rw_.self hG1.out.blk)
 have hR2:=Lib.hid (hG1.out.rw_.only hO2 hself.out)
 have hO3:=Lib.hid ((hOw.out.mono (fun x _ q=>(.inl q:mfoot M x∨gfoot a G x))).trans' hO2 (fun x _ q=>.inr (.inl q)))
 replace hF2:=Lib.hid hF2
 replace hB2:=Lib.hid hB2
 clear hO2 p7 p10 p0 p00
 go_wp2_with fail
 refine hT.out.mono ?_
 rintro e w3 ⟨rfl,hB3,hO4⟩
 have hE:Hid (grL.Stp w M a G {lm M with xs:=M.xs.set (G.nw.2+G.bucket) (fv:Int)} (toStore {G with half:=1}) w3):=Lib.hid (by
  rw [hfv.out] at*
  obtain ⟨e1,e2,e3,e4⟩:=toStore_eq {G with half:=1}
  refine ⟨_,a,hM2.out.only hO4 (fun x hx e=>hfar.out (e▸hx)),rfl,⟨rfl,rfl,rfl,rfl,fun x q=>.inl q⟩,?_,rfl,?_,hO3.out.trans' hO4 (fun x _ q=>.inr (.inl q))⟩
  · refine ⟨hB3,fun q=>by omega,fun _=>⟨hcv.out,by rw [e1]; exact hF2.out.only hO4 (hF2.out.ne hB2.out)⟩,fun q=>by omega,?_⟩
    rw [e2,e3,show decide ((toStore {G with half:=1}).nx≤6)=true by simp; omega]
    have:=hR2.out.only hO4 hself.out
    rw [h5.out] at this
    exact this
  · have:=@gfoot_store a G h5.out w.heap.size
    rw [hh.out] at this
    exact this)
 clear hB3 hO4 hT
 go_wp2_with fail
 go_ret
 exact ⟨rfl,hE.out⟩
set_option maxHeartbeats 2000000 in
theorem store_half1 (hM:MemAt w M) (h:GrAt w a G) (h5:G.nx=5) (hh:G.half=1) (hx:G.nw.2+(G.bucket+G.el.1)<M.xs.length) (hf:G.C.fi.2≤18446744073709551615) (hb:G.bucket≤1000000) (hn:G.el.1≤1000000) (hw:G.nw.2≤4000000):
 Calls Tryz.prog 199 #[ptr a.f,ptr M.m] w fun e w'=>e=.returned (.bool false)∧grL.Stp w M a G {lm M with xs:=M.xs.set (G.nw.2+(G.bucket+G.el.1)) ((G.C.fi.2:Nat):Int)} (toStore {G with half:=2}) w':=by
 obtain ⟨hcv,hF⟩:=h.c5 h5
 have f1:=hF.hd.2
 have c4:=h.blk.cell 4
 have c7:=h.blk.cell 7
 have c9:=h.blk.cell 9
 have c10:=h.blk.cell 10
 have c12:=h.blk.cell 12
 simp only [grc,List.getElem?_toArray,List.getElem?_cons_succ,List.getElem?_cons_zero,hcv,hh] at c4 c7 c9 c10 c12
 have d0:=hM.hd.1
 have hSt:=stored_any hM h (G.nw.2+(G.bucket+G.el.1)) hx G.C.fi.2 hf
 have e1:((G.nw.2+(G.bucket+G.el.1):Nat):Int)=(G.nw.2:Int)+((G.bucket:Int)+(G.el.1:Int)):=by omega
 rw [e1] at hSt
 replace hSt:=Lib.hid hSt
 have HM:=Lib.hid hM
 have HG:=Lib.hid h
 replace hF:=Lib.hid hF
 replace hcv:=Lib.hid hcv
 replace hh:=Lib.hid hh
 replace h5:=Lib.hid h5
 obtain ⟨fv,hfv⟩:∃ v,v=G.C.fi.2:=⟨_,rfl⟩
 rw [← hfv] at hSt f1 ⊢
 replace hfv:=Lib.hid hfv
 have ew:IntKind.i64.wrap ((G.nw.2:Int)+((G.bucket:Int)+(G.el.1:Int)))=(G.nw.2:Int)+((G.bucket:Int)+(G.el.1:Int)):=IntWalk.i64_in _ (by omega)
 clear h hM hf hx e1
 go_enter Tryz.func199,Tryz.ntmps199
 go_wp2_with fail
 go_quiet (fail)
 have hq:=Lib.hid ((Only.refl (fun _=>False) w).drewN nq)
 have g0:(w.drewN nq).cell? ⟨a.c,1,none⟩=some (.int .u64 fv):=f1
 have g7:(w.drewN nq).cell? ⟨a.f,7,none⟩=some (.int .i64 G.nw.2):=c7
 have g10:(w.drewN nq).cell? ⟨a.f,10,none⟩=some (ptr a.c):=c10
 have g12:(w.drewN nq).cell? ⟨a.f,12,none⟩=some (.int .i64 1):=c12
 have g00:(w.drewN nq).cell? ⟨M.m,0,none⟩=some (ptr M.g):=d0
 clear f1 c4 c7 c9 c10 c12 d0
 generalize w.drewN nq=wq at*
 go_upto_region 2 with (fail)
 go_region_held3 (fun w'=>w'.cell? ⟨M.m,0,none⟩=some (ptr M.g)∧w'.cell? ⟨a.f,7,none⟩=some (.int .i64 G.nw.2)∧w'.cell? ⟨a.f,10,none⟩=some (ptr a.c)∧w'.cell? ⟨a.f,12,none⟩=some (.int .i64 1)∧w'.cell? ⟨a.c,1,none⟩=some (.int .u64 fv)) (go_keep)
  (first
    | (go_at_call 52
       refine (hSt.out (wq.drewN 1) (hq.out.drewN 1)).mono ?_
       rintro e w1 ⟨rfl,hM1,hG1,hOw⟩
       have p7:=hG1.blk.cell 7
       have p10:=hG1.blk.cell 10
       have p12:=hG1.blk.cell 12
       have y12:=hG1.blk.frozen 12
       have p0:=(hG1.c5 h5.out).2.hd.2
       have p00:=hM1.hd.1
       simp only [grc,List.getElem?_toArray,List.getElem?_cons_succ,List.getElem?_cons_zero,hcv.out,hh.out] at p7 p10 p12
       rw [← hfv.out] at p0
       replace hM1:=Lib.hid hM1
       replace hG1:=Lib.hid hG1
       replace hOw:=Lib.hid hOw
       clear hSt))
 have hB2:Own (w1.setCell ⟨a.f,12,none⟩ (.int .i64 (2))) a {G with half:=2}:=hG1.out.blk.store 12 (.int .i64 (2))
 have hO2:=(Only.refl (·=a.f) w1).setCell (p:=⟨a.f,12,none⟩) (.inl rfl) (.int .i64 (2))
 have hF2:=(hG1.out.c5 h5.out).2.only hO2 ((hG1.out.c5 h5.out).2.ne hG1.out.blk)
 have hT:=Lib.hid (toStore_any hB2 hcv.out hF2 (by simp) hb hn)
 have hfar:=Lib.hid (hG1.out.far hM1.out (x:=a.f) (.inl rfl))
 have hM2:=Lib.hid (hM1.out.only hO2 (fun x hx e=>hfar.out (e▸hx)))
 have hself:=Lib.hid (hG1.out.rw_.self hG1.out.blk)
 have hR2:=Lib.hid (hG1.out.rw_.only hO2 hself.out)
 have hO3:=Lib.hid ((hOw.out.mono (fun x _ q=>(.inl q:mfoot M x∨gfoot a G x))).trans' hO2 (fun x _ q=>.inr (.inl q)))
 replace hF2:=Lib.hid hF2
 replace hB2:=Lib.hid hB2
 clear hO2 p7 p10 p0 p00
 go_wp2_with fail
 refine hT.out.mono ?_
 rintro e w3 ⟨rfl,hB3,hO4⟩
 have hE:Hid (grL.Stp w M a G {lm M with xs:=M.xs.set (G.nw.2+(G.bucket+G.el.1)) (fv:Int)} (toStore {G with half:=2}) w3):=Lib.hid (by
  rw [hfv.out] at*
  obtain ⟨e1,e2,e3,e4⟩:=toStore_eq {G with half:=2}
  refine ⟨_,a,hM2.out.only hO4 (fun x hx e=>hfar.out (e▸hx)),rfl,⟨rfl,rfl,rfl,rfl,fun x q=>.inl q⟩,?_,rfl,?_,hO3.out.trans' hO4 (fun x _ q=>.inr (.inl q))⟩
  · refine ⟨hB3,fun q=>by omega,fun _=>⟨hcv.out,by rw [e1]; exact hF2.out.only hO4 (hF2.out.ne hB2.out)⟩,fun q=>by omega,?_⟩
    rw [e2,e3,show decide ((toStore {G with half:=2}).nx≤6)=true by simp; omega]
    have:=hR2.out.only hO4 hself.out
    rw [h5.out] at this
    exact this
  · have:=@gfoot_store a G h5.out w.heap.size
    rw [hh.out] at this
    exact this)
 clear hB3 hO4 hT
 go_wp2_with fail
 go_ret
 exact ⟨rfl,hE.out⟩
theorem store_step (hM:MemAt w M) (h:GrAt w a G) (h5:G.nx=5) (hh:G.half≤1) (hx:G.nw.2+(G.bucket+G.half*G.el.1)<M.xs.length) (hf:sel G.C.fi G.half≤18446744073709551615) (hb:G.bucket≤1000000) (hn:G.el.1≤1000000) (hw:G.nw.2≤4000000):
 Calls Tryz.prog 199 #[ptr a.f,ptr M.m] w fun e w'=>e=.returned (.bool false)∧grL.Stp w M a G {lm M with xs:=M.xs.set (G.nw.2+(G.bucket+G.half*G.el.1)) ((sel G.C.fi G.half:Nat):Int)} (toStore {G with half:=G.half+1}) w':=by
 rcases (show G.half=0∨G.half=1 by omega) with hh0 | hh0
 · rw [hh0] at hx hf ⊢
   simp only [Nat.zero_mul,Nat.add_zero] at hx ⊢
   exact store_half0 hM h h5 hh0 hx hf hb hn hw
 · rw [hh0] at hx hf ⊢
   simp only [Nat.one_mul] at hx ⊢
   exact store_half1 hM h h5 hh0 hx hf hb hn hw
end
end Go.Proofs.YtkogifmjbmnpgaaGreat.Gw
namespace Go.Proofs.YtkogifmjbmnpgaaGreat.Gw
open Go Go.RowKit Hp K Fl Rw Hm Ar Mm Me Qs Wk Pn
set_option maxRecDepth 100000
section
variable {w w':World} {M:Mo} {a:Gl} {G:Gr}
theorem waits_at {w1 w2:World} {a1:Gl} {G1:Gr} {b:Nat} (hB:Own w2 {a1 with wv:=ptr b,w:=b} {G1 with nx:=7}) (hW:WtAt w2 b ⟨G1.worker,0,0,0⟩) (hR:Rws w1 a1 G1.pass G1.later false) (hO:Only (·=a1.f) w1 w2) (hS:∀ x,rfoot a1 false x→x≠a1.f):GrAt w2 {a1 with wv:=ptr b,w:=b} (waitNew G1):=by
 have hR2:=hR.only hO hS
 exact ⟨hB,fun q=>by simp [waitNew] at q,fun q=>by simp [waitNew] at q,fun _=>⟨rfl,hW⟩,⟨hR2.ps,hR2.qs,fun q=>by simp [waitNew] at q,hR2.pl,hR2.pc,hR2.qr,hR2.pq⟩⟩
set_option maxHeartbeats 2000000 in
theorem count_step (hM:MemAt w M) (h:GrAt w a G) (h6:G.nx=6) (hx:1<M.xs.length) (hn:0≤G.num∧G.num≤1000000):
 Calls Tryz.prog 200 #[ptr a.f,ptr M.m] w fun e w'=>e=.returned (.bool false)∧grL.Stp w M a G {lm M with xs:=M.xs.set 1 G.num} (waitNew G) w':=by
 obtain ⟨z,hz⟩:=Int.eq_ofNat_of_zero_le hn.1
 have c8:=h.blk.cell 8
 simp only [grc,List.getElem?_toArray,List.getElem?_cons_succ,List.getElem?_cons_zero] at c8
 have hSt:=stored_any hM h 1 hx z (by omega)
 rw [hz] at c8 ⊢
 have ez:IntKind.u64.wrap (z:Int)=z:=by rw [IntKind.wrap_u64]; omega
 have d0:=hM.hd.1
 replace hSt:=Lib.hid hSt
 have HM:=Lib.hid hM
 have HG:=Lib.hid h
 replace hz:=Lib.hid hz
 replace h6:=Lib.hid h6
 clear h hM hn
 go_enter Tryz.func200,Tryz.ntmps200
 go_wp2_with fail
 go_region_held3 (fun w'=>w'.cell? ⟨M.m,0,none⟩=some (ptr M.g)∧w'.cell? ⟨a.f,8,none⟩=some (.int .i64 z)) (go_keep)
  (first
    | (go_at_call 52
       refine (hSt.out (w.drewN 1) ((Only.refl (fun _=>False) w).drewN 1)).mono ?_
       rintro e w1 ⟨rfl,hM1,hG1,hOw⟩
       have p8:=hG1.blk.cell 8
       have p00:=hM1.hd.1
       simp only [grc,List.getElem?_toArray,List.getElem?_cons_succ,List.getElem?_cons_zero,hz.out] at p8
       have hWA:=Lib.hid (waitAnew_any hG1.blk)
       replace hM1:=Lib.hid hM1
       replace hG1:=Lib.hid hG1
       replace hOw:=Lib.hid hOw
       clear hSt))
 clear p8 p00
 go_wp2_with fail
 refine hWA.out.mono ?_
 rintro e w2 ⟨b,rfl,hB2,hW2,hlb,hO2⟩
 have hE:Hid (grL.Stp w M a G {lm M with xs:=M.xs.set 1 (z:Int)} (waitNew G) w2):=Lib.hid (by
  have hR:=hG1.out.rw_.stop
  have hself:=hG1.out.rw_.self hG1.out.blk
  refine ⟨_,{a with wv:=ptr b,w:=b},hM1.out.only hO2 (fun x hx e=>hG1.out.far hM1.out (x:=a.f) (.inl rfl) (e▸hx)),rfl,⟨rfl,rfl,rfl,rfl,fun x q=>.inl q⟩,waits_at hB2 hW2 hR hO2 (fun x hx=>hself x (by
   rcases hx with ⟨q,hx⟩ | hx
   · exact .inl ⟨.inl (q.resolve_right (by simp)),hx⟩
   · exact .inr hx)),rfl,fun x hx=>?_,(hOw.out.mono (fun x _ q=>(.inl q:mfoot M x∨gfoot a G x))).trans' hO2 (fun x _ q=>.inr (.inl q))⟩
  have hs:=hOw.out.size
  rcases hx with rfl | ⟨q,_⟩ | ⟨q,_⟩ | ⟨_,rfl⟩ | hx
  · exact .inl (.inl rfl)
  · simp [waitNew] at q
  · simp [waitNew] at q
  · exact .inr (Nat.le_trans hs hlb)
  · refine .inl (.inr (.inr (.inr (.inr ?_))))
    rcases hx with ⟨q,hx⟩ | hx
    · exact .inl ⟨.inl (q.resolve_right (by simp [waitNew])),hx⟩
    · exact .inr hx)
 clear hB2 hW2 hlb hO2 hWA
 go_wp2_with fail
 go_ret
 exact ⟨rfl,hE.out⟩
theorem GrAt.waited {M':Mo} {W':Wt} (h:GrAt w a G) (hM:MemAt w M) (h7:G.nx=7) (hW:WtAt w' a.w W') (ho:Only (fun x=>mfoot M x∨x=a.w) w w'):GrAt w' a {G with W:=W'}:=by
 have hw:=h.wt h7
 refine ⟨h.blk.only ho ?_,fun q=>by simp only at q; omega,fun q=>by simp only at q; omega,fun _=>⟨hw.1,hW⟩,h.rw_.only ho fun x hx q=>?_⟩
 · rintro (q | q)
   · exact h.far hM (.inl rfl) q
   · exact h.blk.differ hw.2 (by decide) q
 · rcases q with q | rfl
   · exact h.far hM (.inr (.inr (.inr (.inr hx)))) q
   · exact (h.rw_.ty hx).apart (blk_ty hw.2) (by decide)
set_option maxHeartbeats 2000000 in
theorem waitOn_step {n:Nat} (hM:MemAt w M) (h:GrAt w a G) (h7:G.nx=7) (hn:M.k=n) (ok:Okw n M.xs M.hs G.W) (hr:readyB M.xs M.hs G.W=true):
 Calls Tryz.prog 206 #[ptr a.f,ptr M.m] w fun e w'=>e=.returned (.bool (decide (G.W.at_=3∧G.pass=[])))∧
  grL.Stp w M a G {lm M with xs:=(wstep n M.xs M.hs G.W).1,hs:=(wstep n M.xs M.hs G.W).2.1} {G with W:=(wstep n M.xs M.hs G.W).2.2,nx:=if G.W.at_=3 then (if G.pass=[] then 9 else 8) else 7} w':=by
 obtain ⟨hwv,hW⟩:=h.wt h7
 have hS:=(wait_step hM hW hn ok hr).mono fun e w1 q=>
  show e=.returned (.bool (decide (G.W.at_=3)))∧MemAt w1 {M with xs:=(wstep n M.xs M.hs G.W).1,hs:=(wstep n M.xs M.hs G.W).2.1}∧GrAt w1 a {G with W:=(wstep n M.xs M.hs G.W).2.2}∧Only (fun x=>mfoot M x∨gfoot a G x) w w1 from
   ⟨q.1,q.2.1,h.waited (M':=M) hM h7 q.2.2.1 q.2.2.2,q.2.2.2.mono (fun x _ y=>y.imp id (fun e=>.inr (.inr (.inr (.inl ⟨h7,e⟩)))))⟩
 have c13:=h.blk.cell 13
 simp only [grc,List.getElem?_toArray,List.getElem?_cons_succ,List.getElem?_cons_zero,hwv] at c13
 generalize (wstep n M.xs M.hs G.W).1=xs' at*
 generalize (wstep n M.xs M.hs G.W).2.1=hs' at*
 generalize (wstep n M.xs M.hs G.W).2.2=W' at*
 have hpl:=h.rw_.ps.len
 have HM:=Lib.hid hM
 have HG:=Lib.hid h
 replace h7:=Lib.hid h7
 have hEnd:Hid (∀ w1 w2 n2,MemAt w1 {M with xs:=xs',hs:=hs'}→GrAt w1 a {G with W:=W'}→Only (fun x=>mfoot M x∨gfoot a G x) w w1→n2=8∨n2=9→Own w2 a {G with W:=W',nx:=n2}→Only (·=a.f) w1 w2→grL.Stp w M a G {lm M with xs:=xs',hs:=hs'} {G with W:=W',nx:=n2} w2):=Lib.hid (by
  intro w1 w2 n2 hM1 hG1 hO1 hn2 hB2 hO2
  have hR:=(hG1.rw_.only hO2 (hG1.rw_.self hG1.blk)).stop
  refine ⟨_,a,hM1.only hO2 (fun x hx e=>hG1.far hM1 (x:=a.f) (.inl rfl) (e▸hx)),rfl,⟨rfl,rfl,rfl,rfl,fun x q=>.inl q⟩,⟨hB2,fun q=>by simp only at q; omega,fun q=>by simp only at q; omega,fun q=>by simp only at q; omega,?_⟩,rfl,gfoot_plain (G':={G with W:=W'}) (by omega) (fun q=>by simp at q; omega),hO1.trans' hO2 (fun x _ q=>.inr (.inl q))⟩
  show Rws w2 a G.pass G.later (decide (n2≤6))
  rw [show decide (n2≤6)=false by simp; omega]
  exact hR)
 by_cases h3:G.W.at_=3
 · rw [show decide (G.W.at_=3)=true by simp [h3]] at hS
   replace hS:=Lib.hid hS
   rw [if_pos h3]
   by_cases hp:G.pass=[]
   · rw [if_pos hp,show decide (G.W.at_=3∧G.pass=[])=true by simp [h3,hp]]
     rw [hp] at hpl
     replace hpl:=Lib.hid hpl
     clear h hM ok hr hn h3 hp hW hwv
     go_enter Tryz.func206,Tryz.ntmps206
     go_wp2_with fail
     refine hS.out.mono ?_
     rintro e w1 ⟨rfl,hM1,hG1,hO1⟩
     have p14:=hG1.blk.cell 14
     simp only [grc,List.getElem?_toArray,List.getElem?_cons_succ,List.getElem?_cons_zero,hpl.out,List.length_nil] at p14
     have hF:=Lib.hid (end_grow hG1.blk)
     replace hM1:=Lib.hid hM1
     replace hG1:=Lib.hid hG1
     replace hO1:=Lib.hid hO1
     clear hS c13
     go_wp2_with fail
     refine hF.out.mono ?_
     rintro e w2 ⟨rfl,hB2,hO2⟩
     have hE:=Lib.hid (hEnd.out w1 w2 9 hM1.out hG1.out hO1.out (.inr rfl) hB2 hO2)
     clear hB2 hO2 hF p14
     go_wp2_with fail
     go_ret
     exact ⟨rfl,hE.out⟩
   · rw [if_neg hp,show decide (G.W.at_=3∧G.pass=[])=false by simp [hp]]
     have hp0:0<a.ps.length:=by rw [hpl]; exact List.length_pos_iff.2 hp
     have hpc:=h.rw_.pc
     simp only [maxLen] at hpc
     generalize hpn:a.ps.length=m at*
     replace hpn:=Lib.hid hpn
     have q0:((m:Int)==0)=false:=by simp; omega
     clear h hM ok hr hn h3 hp hW hwv hpl
     go_enter Tryz.func206,Tryz.ntmps206
     go_wp2_with fail
     refine hS.out.mono ?_
     rintro e w1 ⟨rfl,hM1,hG1,hO1⟩
     have p14:=hG1.blk.cell 14
     simp only [grc,List.getElem?_toArray,List.getElem?_cons_succ,List.getElem?_cons_zero,hpn.out] at p14
     have hF:=Lib.hid (goOn_any hG1.blk (n:=8) (by omega) rfl)
     replace hM1:=Lib.hid hM1
     replace hG1:=Lib.hid hG1
     replace hO1:=Lib.hid hO1
     clear hS c13
     go_wp2_with fail
     refine hF.out.mono ?_
     rintro e w2 ⟨rfl,hB2,hO2⟩
     have hE:=Lib.hid (hEnd.out w1 w2 8 hM1.out hG1.out hO1.out (.inl rfl) hB2 hO2)
     clear hB2 hO2 hF p14
     go_wp2_with fail
     go_ret
     exact ⟨rfl,hE.out⟩
 · rw [show decide (G.W.at_=3)=false by simp [h3]] at hS
   rw [if_neg h3,show decide (G.W.at_=3∧G.pass=[])=false by simp [h3]]
   replace hS:=Lib.hid hS
   clear h hM ok hr hn h3 hW hwv hpl hEnd
   go_enter Tryz.func206,Tryz.ntmps206
   go_wp2_with fail
   refine hS.out.mono ?_
   rintro e w1 ⟨rfl,hM1,hG1,hO1⟩
   have e7:Hid ({G with W:=W',nx:=7}=({G with W:=W'}:Gr)):=Lib.hid (by rw [← h7.out])
   have hE:Hid (grL.Stp w M a G {lm M with xs:=xs',hs:=hs'} {G with W:=W',nx:=7} w1):=Lib.hid (by
    rw [e7.out]
    exact ⟨_,a,hM1,rfl,⟨rfl,rfl,rfl,rfl,fun x q=>.inl q⟩,hG1,rfl,fun x q=>.inl q,hO1⟩)
   clear hM1 hG1 hO1 hS c13
   go_wp2_with fail
   go_ret
   exact ⟨rfl,hE.out⟩
end
end Go.Proofs.YtkogifmjbmnpgaaGreat.Gw
namespace Go.Proofs.YtkogifmjbmnpgaaGreat.Gw
open Go Go.RowKit Hp K Fl Rw Hm Ar Mm Me Qs Wk Pn
set_option maxRecDepth 100000
section
variable {w w':World} {M:Mo} {a:Gl} {G:Gr}
theorem lnk_eq {ss:List Sl} {x y k:Nat} (hl:ss.length≤1024) (hk:IsAt ss x k):Pu.lnk ss x y=ss.set k {at' ss k with nd:={(at' ss k).nd with next:=(y:Int)}}:=by
 unfold Pu.lnk
 rw [(isAt_parts hl hk).1]
def Linked (w:World) (M:Mo) (a:Gl) (G:Gr) (x y:Nat) (w':World):Prop:=MemAt w' {M with ss:=Pu.lnk M.ss x y}∧GrAt w' a G∧Only (mfoot M) w w'
theorem linked_any (hM:MemAt w M) (h:GrAt w a G) {x k:Nat} (hx:x≤18446744073709551615) (hk:IsAt M.ss x k) (y:Nat) (w1:World) (h0:Only (fun _=>False) w w1):
 Calls Tryz.prog 144 #[ptr M.ar,.int .u64 x,.int .u64 y] w1 fun e w'=>e=.returned (.int .i64 0)∧Linked w M a G x y w':=by
 have hM0:MemAt w1 M:=hM.only h0 (by simp)
 refine (link_ok hM0.2.2.2.1 hx hk (y:Int)).mono fun e w' q=>?_
 have ho:Only (mfoot M) w w':=(h0.mono (fun x _ q=>q.elim)).trans' q.2.2 (fun x _ q=>.inr (.inr (.inr (.inl q))))
 refine ⟨q.1,?_,h.only ho (fun x hx q=>h.far hM hx q),ho⟩
 rw [lnk_eq hM.2.2.2.1.room.2 hk]
 exact hM0.arena q.2.1 q.2.2
theorem PlAt.tail {A:Option Addr} {e0:El} {es:List El} {b0 o0:Nat} (hA:A=some ⟨b0,o0,none⟩) (h:PlAt w A (e0::es)):PlAt w (some ⟨b0,o0+1,none⟩) es:=by
 rcases h with h | ⟨b,o,cs,h1,h2,h3⟩
 · simp at h
 · rw [hA] at h1
   injection h1 with h1
   injection h1 with h1 h4
   subst h1; subst h4
   refine .inr ⟨b0,o0+1,cs,rfl,h2,fun i hi=>?_⟩
   have:=h3 (i+1) (by simp; omega)
   rw [Nat.add_assoc,Nat.add_comm 1 i,this]
   simp [nel]
theorem LkAt.tail {e0:El} {p:Nat×Nat} {ls:List (Nat×Nat)} {b o:Nat} (hA:e0.A=some ⟨b,o,none⟩) (h:LkAt w e0 (p::ls)) (hl:ls≠[]):LkAt w ⟨some ⟨b,o+2,none⟩,e0.n-1,e0.cap-1⟩ ls:=by
 obtain ⟨h1,h2,h3,b',o',cs,h4,h5,h6⟩:=h
 rw [hA] at h4
 injection h4 with h4
 injection h4 with h4 h7
 subst h4; subst h7
 refine ⟨by simp [h1],hl,⟨by simp; omega,by simp; omega⟩,b,o+2,cs,rfl,h5,fun i hi=>?_⟩
 have:=h6 (i+1) (by simp; omega)
 rw [show o+2+i*2=o+(i+1)*2 by omega]
 simpa [nlk] using this
structure Parted (w w2:World) (a:Gl) (b0 o0:Nat) (es:List El) (t lat:List (List (Nat×Nat))) (QA:Option Addr) (qcap:Nat) (qs:List El):Prop where
 eps:Each w2 es t
 pl:PlAt w2 (some ⟨b0,o0+1,none⟩) es
 eqs:Each w2 qs lat
 qr:PsRow w2 QA qcap qs
 pq:es≠[]→∀ x,In QA x→x≠b0
 fq:∀ x,In QA x→rfoot a false x∨w.heap.size≤x
 fs:∀ e∈qs,∀ x,In e.A x→rfoot a false x
theorem Parted.only {w2 w3:World} {b0 o0:Nat} {es:List El} {t lat:List (List (Nat×Nat))} {QA:Option Addr} {qcap:Nat} {qs:List El} (h:Parted w w2 a b0 o0 es t lat QA qcap qs) (hO:Only (·=a.f) w2 w3) (hf:∃ cs,Blk w2 a.f 159 cs):Parted w w3 a b0 o0 es t lat QA qcap qs:=by
 obtain ⟨cs,hB⟩:=hf
 have hn:∀ {x:Nat} {ts:List TypeId},Ty w2 x ts→(∀ t∈ts,t∉[159])→¬x=a.f:=fun hx hd e=>hx.apart (e▸blk_ty hB:Ty w2 _ [159]) hd
 refine ⟨h.eps.only hO fun e he x hx=>hn (h.eps.ty e he x hx) (by decide),?_,h.eqs.only hO fun e he x hx=>hn (h.eqs.ty e he x hx) (by decide),h.qr.only hO fun x hx=>hn (row_ty h.qr hx) (by decide),h.pq,h.fq,h.fs⟩
 rcases h.pl with q | ⟨b,o,cs',h1,h2,h3⟩
 · exact .inl q
 · exact .inr ⟨b,o,cs',h1,h2.only hO (hn (blk_ty h2) (by decide)),h3⟩
theorem Parted.more {w2 w3:World} {M':Mo} {b0 o0 pc:Nat} {e0:El} {es:List El} {t lat:List (List (Nat×Nat))} {QA:Option Addr} {qcap:Nat} {qs:List El} (h:Parted w w2 a b0 o0 es t lat QA qcap qs) (hps:a.ps=e0::es) (hPA:a.PA=some ⟨b0,o0,none⟩) (hpc:es.length≤pc∧pc≤maxLen) (h8:G.nx=8)
 (ht:t≠[]) (hM:MemAt w3 M') (hK:Kin w M M') (hB:Own w3 {a with PA:=some ⟨b0,o0+1,none⟩,pcap:=pc,ps:=es,QA:=QA,qcap:=qcap,qs:=qs} {G with pass:=t,later:=lat}) (hO:Only (fun x=>mfoot M x∨gfoot a G x) w w3) (hf:∃ cs,Blk w2 a.f 159 cs) (hO2:Only (·=a.f) w2 w3):
 grL.Stp w M a G (lm M') {G with pass:=t,later:=lat} w3:=by
 have h3:=h.only hO2 hf
 have hes:es≠[]:=fun e=>ht (by
  have:=h.eps.len
  rw [e] at this
  exact List.eq_nil_of_length_eq_zero this.symm)
 refine ⟨M',{a with PA:=some ⟨b0,o0+1,none⟩,pcap:=pc,ps:=es,QA:=QA,qcap:=qcap,qs:=qs},hM,rfl,hK,⟨hB,fun q=>by simp only at q; omega,fun q=>by simp only at q; omega,fun q=>by simp only at q; omega,?_⟩,rfl,?_,hO⟩
 · show Rws w3 _ t lat (decide (G.nx≤6))
   rw [h8]
   exact ⟨h3.eps,h3.eqs,fun q=>by simp at q,h3.pl,hpc,h3.qr,fun x hx _ hq=>h.pq hes x hq (by simpa [In] using hx.symm)⟩
 · have hr:∀ x,rfoot {a with PA:=some ⟨b0,o0+1,none⟩,pcap:=pc,ps:=es,QA:=QA,qcap:=qcap,qs:=qs} false x→rfoot a false x∨w.heap.size≤x:=by
    rintro x (⟨_,hx⟩ | hx | ⟨e,he,hx⟩ | ⟨e,he,hx⟩)
    · refine .inl (.inl ⟨.inl (by rw [hps]; simp),?_⟩)
      rw [hPA]
      exact hx
    · exact h.fq x hx
    · exact .inl (.inr (.inr (.inl ⟨e,by rw [hps]; exact List.mem_cons_of_mem _ he,hx⟩)))
    · exact .inl (h.fs e he x hx)
   rintro x (hx | ⟨q,_⟩ | ⟨q,_⟩ | ⟨q,_⟩ | hx)
   · exact .inl (.inl hx)
   · simp only at q; omega
   · simp only at q; omega
   · simp only at q; omega
   · have hx:rfoot {a with PA:=some ⟨b0,o0+1,none⟩,pcap:=pc,ps:=es,QA:=QA,qcap:=qcap,qs:=qs} (decide (G.nx≤6)) x:=hx
     rw [h8] at hx
     refine (hr x hx).imp (fun q=>.inr (.inr (.inr (.inr ?_)))) id
     rw [h8]
     exact q
theorem Parted.last {w2 w4:World} {M':Mo} {b0 o0 b:Nat} {lat:List (List (Nat×Nat))} {QA:Option Addr} {qcap:Nat} {qs:List El} {t:List (List (Nat×Nat))} {es:List El} (h:Parted w w2 a b0 o0 es t lat QA qcap qs) (h8:G.nx=8)
 (hM:MemAt w4 M') (hK:Kin w M M') (hB:Own w4 {a with PA:=QA,pcap:=qcap,ps:=qs,QA:=none,qcap:=0,qs:=[],wv:=ptr b,w:=b} {G with pass:=lat,later:=[],nx:=7}) (hW:WtAt w4 b ⟨G.worker,0,0,0⟩) (hb:w.heap.size≤b)
 (hO:Only (fun x=>mfoot M x∨gfoot a G x) w w4) (hf:∃ cs,Blk w2 a.f 159 cs) (hO2:Only (·=a.f) w2 w4):grL.Stp w M a G (lm M') (waitNew {G with pass:=lat,later:=[]}) w4:=by
 have h3:=h.only hO2 hf
 refine ⟨M',_,hM,rfl,hK,⟨hB,fun q=>by simp [waitNew] at q,fun q=>by simp [waitNew] at q,fun _=>⟨rfl,hW⟩,?_⟩,rfl,?_,hO⟩
 · exact ⟨h3.eqs,.nil,fun q=>by simp [waitNew] at q,h3.qr.pl,h3.qr.capLe,Row.nil _ _ _ _,fun x _ _ q=>by simp [In] at q⟩
 · rintro x (hx | ⟨q,_⟩ | ⟨q,_⟩ | ⟨_,rfl⟩ | hx)
   · exact .inl (.inl hx)
   · simp [waitNew] at q
   · simp [waitNew] at q
   · exact .inr hb
   · have hr:rfoot a false x∨w.heap.size≤x:=by
      rcases hx with ⟨_,hx⟩ | hx | ⟨e,he,hx⟩ | ⟨e,he,hx⟩
      · exact h.fq x hx
      · simp [In] at hx
      · exact .inl (h.fs e he x hx)
      · simp at he
     refine hr.imp (fun q=>.inr (.inr (.inr (.inr ?_)))) id
     rw [h8]
     exact q
theorem GrAt.parted {w1:World} (h:GrAt w1 a G) {b0 o0:Nat} {e0:El} {es:List El} {l0:List (Nat×Nat)} {t:List (List (Nat×Nat))} (hps:a.ps=e0::es) (hp:G.pass=l0::t) (hPA:a.PA=some ⟨b0,o0,none⟩):Parted w w1 a b0 o0 es t G.later a.QA a.qcap a.qs:=by
 have h1:=h.rw_.ps
 have h2:=h.rw_.pl
 rw [hps] at h1 h2
 rw [hp] at h1
 cases h1 with
 | cons _ hes=>
   refine ⟨hes,h2.tail hPA,h.rw_.qs,h.rw_.qr,fun _ x hx e=>?_,fun x hx=>.inl (.inr (.inl hx)),fun e he x hx=>.inr (.inr (.inr ⟨e,he,hx⟩))⟩
   subst e
   exact h.rw_.pq x (by rw [hPA]; rfl) (.inl (by rw [hps]; simp)) hx
theorem Parted.grown {w2 w3:World} {b0 o0:Nat} {es:List El} {t lat:List (List (Nat×Nat))} {QA QA2:Option Addr} {qcap cap2:Nat} {qs:List El} {el:El} {ls:List (Nat×Nat)} (h:Parted w w2 a b0 o0 es t lat QA qcap qs) (hL:LkAt w2 el ls) (hel:∀ x,In el.A x→rfoot a false x)
 (hR:PsRow w3 QA2 cap2 (qs++[el])) (hO:Only (In QA) w2 w3) (hA:∀ x,In QA2 x→In QA x∨w2.heap.size≤x) (hs:w.heap.size≤w2.heap.size):Parted w w3 a b0 o0 es t (lat++[ls]) QA2 cap2 (qs++[el]):=by
 have hn:∀ {x:Nat},Ty w2 x [224]→¬In QA x:=fun hx q=>hx.apart (row_ty h.qr q) (by decide)
 refine ⟨h.eps.only hO fun e he x hx=>hn (h.eps.ty e he x hx),?_,(h.eqs.only hO fun e he x hx=>hn (h.eqs.ty e he x hx)).snoc (hL.only hO fun x hx=>hn (hL.ty hx)),hR,fun hes x hx e=>?_,fun x hx=>?_,fun e he x hx=>?_⟩
 · by_cases h0:es=[]
   · exact .inl h0
   · exact h.pl.only hO fun x hx q=>h.pq h0 x q (by simpa [In] using hx.symm)
 · rcases hA x hx with q | q
   · exact h.pq hes x q e
   · rcases h.pl with z | ⟨b,o,cs,h1,h2,_⟩
     · exact hes z
     · injection h1 with h1
       injection h1 with h1 _
       have:=h2.lt
       omega
 · rcases hA x hx with q | q
   · exact h.fq x q
   · exact .inr (by omega)
 · rcases List.mem_append.1 he with q | q
   · exact h.fs e q x hx
   · have:e=el:=by simpa using q
     subst this
     exact hel x hx
set_option maxHeartbeats 4000000 in
theorem part_none_more (hM:MemAt w M) (h:GrAt w a G) (h8:G.nx=8) {x y k:Nat} {t:List (List (Nat×Nat))} (hp:G.pass=[(x,y)]::t) (ht:t≠[]) (hlen:G.later.length≤100000) (hx:x≤18446744073709551615) (hk:IsAt M.ss x k):
 Calls Tryz.prog 211 #[ptr a.f,ptr M.m] w fun e w'=>e=.returned (.bool false)∧grL.Stp w M a G {lm M with ss:=Pu.lnk M.ss x y} ({G with pass:=t}) w':=by
 have hLk:=Lib.hid (linked_any hM h hx hk y)
 have HM:=Lib.hid hM
 have HG:=Lib.hid h
 have c14:=h.blk.cell 14
 simp only [grc,List.getElem?_toArray,List.getElem?_cons_succ,List.getElem?_cons_zero] at c14
 have hps:=h.rw_.ps
 have hpl:=h.rw_.pl
 have hpc:=h.rw_.pc
 rw [hp] at hps
 generalize hqs:a.ps=ps at*
 cases hps with
 | @cons e0 _ es _ hL0 hes=>
 have hL00:=Lib.hid hL0
 obtain ⟨n0,hne0,hc0,b,o,cs,hA,hB,hcs⟩:=hL0
 rcases hpl with q | ⟨b0,o0,cs0,hPA,hB0,hcs0⟩
 · simp at q
 have i0:=hcs0 0 (by simp)
 have i1:=(hcs 0 (by simp)).1
 have i2:=(hcs 0 (by simp)).2
 rw [← hB0.cell] at i0
 rw [← hB.cell] at i1 i2
 simp only [nel,nlk,List.getD_cons_zero,Nat.add_zero,Nat.zero_mul,hA] at i0 i1 i2
 rw [hPA] at c14
 have d2:=hM.hd.2.2.1
 simp only [List.length_cons,maxLen] at c14 hpc
 have hel:es.length=t.length:=hes.len
 obtain ⟨m,hm⟩:∃ m,m=es.length:=⟨_,rfl⟩
 rw [← hm] at c14 hpc hel
 have hpcm:=Lib.hid (show es.length≤a.pcap-1∧a.pcap-1≤maxLen by simp only [maxLen]; omega)
 simp only [List.length_singleton] at n0
 rw [n0] at i0 hc0
 have hen:0<m:=by rw [hel]; exact List.length_pos_iff.2 ht
 have hpc1:¬a.pcap=1:=by omega
 replace hm:=Lib.hid hm
 simp only [maxLen] at hc0
 have hqs':=Lib.hid hqs
 have hPA':=Lib.hid hPA
 have hA':=Lib.hid hA
 replace h8:=Lib.hid h8
 replace hp:=Lib.hid hp
 replace ht:=Lib.hid ht
 obtain ⟨ec,hecc⟩:∃ n,n=e0.cap:=⟨_,rfl⟩
 obtain ⟨pc,hpcc⟩:∃ n,n=a.pcap:=⟨_,rfl⟩
 rw [← hecc] at i0 hc0
 rw [← hpcc] at c14 hpc hpc1
 rw [← hpcc] at hpcm
 replace hecc:=Lib.hid hecc
 replace hpcc:=Lib.hid hpcc
 replace n0:=Lib.hid n0
 clear hM h hk hx hcs hcs0 hB hB0 hqs hes hA hPA hne0 hel
 go_enter Tryz.func211,Tryz.ntmps211
 go_upto_region 2 with (fail)
 go_region_held3 (fun w'=>w'.cell? ⟨M.m,2,none⟩=some (ptr M.ar)∧w'.cell? ⟨b,o,none⟩=some (.int .u64 x)∧w'.cell? ⟨b,o+1,none⟩=some (.int .u64 y)) (go_keep)
  (first
    | (go_at_call 144
       refine (hLk.out (w.drewN 1) ((Only.refl (fun _=>False) w).drewN 1)).mono ?_
       rintro e w1 ⟨rfl,hM1,hG1,hOw⟩
       have hbin:¬mfoot M b:=fun q=>HG.out.far HM.out (x:=b) (.inr (.inr (.inr (.inr (.inr (.inr (.inl ⟨e0,by rw [hqs'.out]; simp,by rw [hA'.out]; rfl⟩))))))) q
       have p1:=(Only.cell hOw (p:=⟨b,o,none⟩) (World.block_lt_of_cell? w _ i1) hbin).trans i1
       have p2:=(Only.cell hOw (p:=⟨b,o+1,none⟩) (World.block_lt_of_cell? w _ i2) hbin).trans i2
       have p00:=hM1.hd.2.2.1
       have r14:=hG1.blk.cell 14
       have r15:=hG1.blk.cell 15
       have z14:=hG1.blk.frozen 14
       have z15:=hG1.blk.frozen 15
       simp only [grc,List.getElem?_toArray,List.getElem?_cons_succ,List.getElem?_cons_zero,hqs'.out,hPA'.out,List.length_cons] at r14 r15
       rw [← hpcc.out,← hm.out] at r14
       have hPt:=Lib.hid (hG1.parted (w:=w) hqs'.out hp.out hPA'.out)
       replace hM1:=Lib.hid hM1
       replace hG1:=Lib.hid hG1
       replace hOw:=Lib.hid hOw
       clear hLk hbin))
 clear p1 p2 p00 i0 i1 i2 d2 c14
 have hB2:Own (w1.setCell ⟨a.f,14,none⟩ (.slice (some ⟨b0,o0+1,none⟩) m (pc-1))) {a with PA:=some ⟨b0,o0+1,none⟩,pcap:=pc-1,ps:=es,QA:=a.QA,qcap:=a.qcap,qs:=a.qs} {G with pass:=t,later:=G.later}:=by
  have:=hG1.out.blk.store 14 (.slice (some ⟨b0,o0+1,none⟩) m (pc-1))
  rw [hm.out] at this ⊢
  exact this
 have hO2:=(Only.refl (·=a.f) w1).setCell (p:=⟨a.f,14,none⟩) (.inl rfl) (.slice (some ⟨b0,o0+1,none⟩) m (pc-1))
 have hE:=Lib.hid (hPt.out.more hqs'.out hPA'.out hpcm.out h8.out ht.out (hM1.out.only hO2 (fun x hx e=>hG1.out.far hM1.out (x:=a.f) (.inl rfl) (e▸hx))) (M:=M) (M':={M with ss:=Pu.lnk M.ss x y}) ⟨rfl,rfl,rfl,rfl,fun x q=>.inl q⟩ hB2 ((hOw.out.mono (fun x _ q=>(.inl q:mfoot M x∨gfoot a G x))).trans' hO2 (fun x _ q=>.inr (.inl q))) ⟨_,hG1.out.blk⟩ hO2)
 clear hB2 hO2 hPt
 go_wp2_with fail
 go_ret
 exact ⟨rfl,hE.out⟩
set_option maxHeartbeats 4000000 in
theorem part_none_last (hM:MemAt w M) (h:GrAt w a G) (h8:G.nx=8) {x y k:Nat} {t:List (List (Nat×Nat))} (hp:G.pass=[(x,y)]::t) (ht:t=[]) (hpc1:¬a.pcap=1) (hlen:G.later.length≤100000) (hx:x≤18446744073709551615) (hk:IsAt M.ss x k):
 Calls Tryz.prog 211 #[ptr a.f,ptr M.m] w fun e w'=>e=.returned (.bool false)∧grL.Stp w M a G {lm M with ss:=Pu.lnk M.ss x y} (waitNew {G with pass:=G.later,later:=[]}) w':=by
 have hLk:=Lib.hid (linked_any hM h hx hk y)
 have HM:=Lib.hid hM
 have HG:=Lib.hid h
 have c14:=h.blk.cell 14
 simp only [grc,List.getElem?_toArray,List.getElem?_cons_succ,List.getElem?_cons_zero] at c14
 have hps:=h.rw_.ps
 have hpl:=h.rw_.pl
 have hpc:=h.rw_.pc
 rw [hp] at hps
 generalize hqs:a.ps=ps at*
 cases hps with
 | @cons e0 _ es _ hL0 hes=>
 have hL00:=Lib.hid hL0
 obtain ⟨n0,hne0,hc0,b,o,cs,hA,hB,hcs⟩:=hL0
 rcases hpl with q | ⟨b0,o0,cs0,hPA,hB0,hcs0⟩
 · simp at q
 have i0:=hcs0 0 (by simp)
 have i1:=(hcs 0 (by simp)).1
 have i2:=(hcs 0 (by simp)).2
 rw [← hB0.cell] at i0
 rw [← hB.cell] at i1 i2
 simp only [nel,nlk,List.getD_cons_zero,Nat.add_zero,Nat.zero_mul,hA] at i0 i1 i2
 rw [hPA] at c14
 have d2:=hM.hd.2.2.1
 simp only [List.length_cons,maxLen] at c14 hpc
 have hel:es.length=t.length:=hes.len
 obtain ⟨m,hm⟩:∃ m,m=es.length:=⟨_,rfl⟩
 rw [← hm] at c14 hpc hel
 have hpcm:=Lib.hid (show es.length≤a.pcap-1∧a.pcap-1≤maxLen by simp only [maxLen]; omega)
 simp only [List.length_singleton] at n0
 rw [n0] at i0 hc0
 have hen:m=0:=by rw [hel,ht]; rfl
 subst hen
 replace hm:=Lib.hid hm
 simp only [maxLen] at hc0
 have hqs':=Lib.hid hqs
 have hPA':=Lib.hid hPA
 have hA':=Lib.hid hA
 replace h8:=Lib.hid h8
 replace hp:=Lib.hid hp
 replace ht:=Lib.hid ht
 obtain ⟨ec,hecc⟩:∃ n,n=e0.cap:=⟨_,rfl⟩
 obtain ⟨pc,hpcc⟩:∃ n,n=a.pcap:=⟨_,rfl⟩
 rw [← hecc] at i0 hc0
 rw [← hpcc] at c14 hpc hpc1
 rw [← hpcc] at hpcm
 replace hecc:=Lib.hid hecc
 replace hpcc:=Lib.hid hpcc
 replace n0:=Lib.hid n0
 clear hM h hk hx hcs hcs0 hB hB0 hqs hes hA hPA hne0 hel
 go_enter Tryz.func211,Tryz.ntmps211
 go_upto_region 2 with (fail)
 go_region_held3 (fun w'=>w'.cell? ⟨M.m,2,none⟩=some (ptr M.ar)∧w'.cell? ⟨b,o,none⟩=some (.int .u64 x)∧w'.cell? ⟨b,o+1,none⟩=some (.int .u64 y)) (go_keep)
  (first
    | (go_at_call 144
       refine (hLk.out (w.drewN 1) ((Only.refl (fun _=>False) w).drewN 1)).mono ?_
       rintro e w1 ⟨rfl,hM1,hG1,hOw⟩
       have hbin:¬mfoot M b:=fun q=>HG.out.far HM.out (x:=b) (.inr (.inr (.inr (.inr (.inr (.inr (.inl ⟨e0,by rw [hqs'.out]; simp,by rw [hA'.out]; rfl⟩))))))) q
       have p1:=(Only.cell hOw (p:=⟨b,o,none⟩) (World.block_lt_of_cell? w _ i1) hbin).trans i1
       have p2:=(Only.cell hOw (p:=⟨b,o+1,none⟩) (World.block_lt_of_cell? w _ i2) hbin).trans i2
       have p00:=hM1.hd.2.2.1
       have r14:=hG1.blk.cell 14
       have r15:=hG1.blk.cell 15
       have z14:=hG1.blk.frozen 14
       have z15:=hG1.blk.frozen 15
       simp only [grc,List.getElem?_toArray,List.getElem?_cons_succ,List.getElem?_cons_zero,hqs'.out,hPA'.out,List.length_cons] at r14 r15
       rw [← hpcc.out,← hm.out] at r14
       have hPt:=Lib.hid (hG1.parted (w:=w) hqs'.out hp.out hPA'.out)
       replace hM1:=Lib.hid hM1
       replace hG1:=Lib.hid hG1
       replace hOw:=Lib.hid hOw
       clear hLk hbin))
 clear p1 p2 p00 i0 i1 i2 d2 c14
 have hB3:Own (((w1.setCell ⟨a.f,14,none⟩ (.slice (some ⟨b0,o0+1,none⟩) 0 (pc-1))).setCell ⟨a.f,14,none⟩ (.slice a.QA a.qs.length a.qcap)).setCell ⟨a.f,15,none⟩ (.slice none 0 0)) {a with PA:=a.QA,pcap:=a.qcap,ps:=a.qs,QA:=none,qcap:=0,qs:=[]} {G with pass:=G.later,later:=[]}:=((hG1.out.blk.store 14 (.slice (some ⟨b0,o0+1,none⟩) 0 (pc-1))).store 14 (.slice a.QA a.qs.length a.qcap)).store 15 (.slice none 0 0)
 have hO3:=only3 (c:=a.f) w1 14 14 15 (.slice (some ⟨b0,o0+1,none⟩) 0 (pc-1)) (.slice a.QA a.qs.length a.qcap) (.slice none 0 0)
 have hWA:=Lib.hid (waitAnew_any hB3)
 replace hO3:=Lib.hid hO3
 clear hB3
 go_wp2_with fail
 refine hWA.out.mono ?_
 rintro e w4 ⟨b4,rfl,hB4,hW4,hlb,hO4⟩
 have hE:Hid (grL.Stp w M a G {lm M with ss:=Pu.lnk M.ss x y} (waitNew {G with pass:=G.later,later:=[]}) w4):=Lib.hid (by
  have hOO:=hO3.out.trans hO4
  have hs:=hOw.out.size
  have hs3:=hO3.out.size
  exact hPt.out.last h8.out (M:=M) (M':={M with ss:=Pu.lnk M.ss x y}) (hM1.out.only hOO (fun x hx e=>hG1.out.far hM1.out (x:=a.f) (.inl rfl) (e▸hx))) ⟨rfl,rfl,rfl,rfl,fun x q=>.inl q⟩ hB4 hW4 (Nat.le_trans hs (Nat.le_trans hs3 hlb)) ((hOw.out.mono (fun x _ q=>(.inl q:mfoot M x∨gfoot a G x))).trans' hOO (fun x _ q=>.inr (.inl q))) ⟨_,hG1.out.blk⟩ hOO)
 clear hB4 hW4 hlb hO4 hWA hPt hO3
 go_wp2_with fail
 go_ret
 exact ⟨rfl,hE.out⟩
set_option maxHeartbeats 4000000 in
theorem part_none_only (hM:MemAt w M) (h:GrAt w a G) (h8:G.nx=8) {x y k:Nat} {t:List (List (Nat×Nat))} (hp:G.pass=[(x,y)]::t) (ht:t=[]) (hpc1:a.pcap=1) (hlen:G.later.length≤100000) (hx:x≤18446744073709551615) (hk:IsAt M.ss x k):
 Calls Tryz.prog 211 #[ptr a.f,ptr M.m] w fun e w'=>e=.returned (.bool false)∧grL.Stp w M a G {lm M with ss:=Pu.lnk M.ss x y} (waitNew {G with pass:=G.later,later:=[]}) w':=by
 have hLk:=Lib.hid (linked_any hM h hx hk y)
 have HM:=Lib.hid hM
 have HG:=Lib.hid h
 have c14:=h.blk.cell 14
 simp only [grc,List.getElem?_toArray,List.getElem?_cons_succ,List.getElem?_cons_zero] at c14
 have hps:=h.rw_.ps
 have hpl:=h.rw_.pl
 have hpc:=h.rw_.pc
 rw [hp] at hps
 generalize hqs:a.ps=ps at*
 cases hps with
 | @cons e0 _ es _ hL0 hes=>
 have hL00:=Lib.hid hL0
 obtain ⟨n0,hne0,hc0,b,o,cs,hA,hB,hcs⟩:=hL0
 rcases hpl with q | ⟨b0,o0,cs0,hPA,hB0,hcs0⟩
 · simp at q
 have i0:=hcs0 0 (by simp)
 have i1:=(hcs 0 (by simp)).1
 have i2:=(hcs 0 (by simp)).2
 rw [← hB0.cell] at i0
 rw [← hB.cell] at i1 i2
 simp only [nel,nlk,List.getD_cons_zero,Nat.add_zero,Nat.zero_mul,hA] at i0 i1 i2
 rw [hPA] at c14
 have d2:=hM.hd.2.2.1
 simp only [List.length_cons,maxLen] at c14 hpc
 have hel:es.length=t.length:=hes.len
 obtain ⟨m,hm⟩:∃ m,m=es.length:=⟨_,rfl⟩
 rw [← hm] at c14 hpc hel
 have hpcm:=Lib.hid (show es.length≤a.pcap-1∧a.pcap-1≤maxLen by simp only [maxLen]; omega)
 simp only [List.length_singleton] at n0
 rw [n0] at i0 hc0
 have hen:m=0:=by rw [hel,ht]; rfl
 subst hen
 replace hm:=Lib.hid hm
 simp only [maxLen] at hc0
 have hqs':=Lib.hid hqs
 have hPA':=Lib.hid hPA
 have hA':=Lib.hid hA
 replace h8:=Lib.hid h8
 replace hp:=Lib.hid hp
 replace ht:=Lib.hid ht
 obtain ⟨ec,hecc⟩:∃ n,n=e0.cap:=⟨_,rfl⟩
 obtain ⟨pc,hpcc⟩:∃ n,n=a.pcap:=⟨_,rfl⟩
 rw [← hecc] at i0 hc0
 rw [← hpcc] at c14 hpc hpc1
 subst hpc1
 rw [← hpcc] at hpcm
 replace hecc:=Lib.hid hecc
 replace hpcc:=Lib.hid hpcc
 replace n0:=Lib.hid n0
 clear hM h hk hx hcs hcs0 hB hB0 hqs hes hA hPA hne0 hel
 go_enter Tryz.func211,Tryz.ntmps211
 go_upto_region 2 with (fail)
 go_region_held3 (fun w'=>w'.cell? ⟨M.m,2,none⟩=some (ptr M.ar)∧w'.cell? ⟨b,o,none⟩=some (.int .u64 x)∧w'.cell? ⟨b,o+1,none⟩=some (.int .u64 y)) (go_keep)
  (first
    | (go_at_call 144
       refine (hLk.out (w.drewN 1) ((Only.refl (fun _=>False) w).drewN 1)).mono ?_
       rintro e w1 ⟨rfl,hM1,hG1,hOw⟩
       have hbin:¬mfoot M b:=fun q=>HG.out.far HM.out (x:=b) (.inr (.inr (.inr (.inr (.inr (.inr (.inl ⟨e0,by rw [hqs'.out]; simp,by rw [hA'.out]; rfl⟩))))))) q
       have p1:=(Only.cell hOw (p:=⟨b,o,none⟩) (World.block_lt_of_cell? w _ i1) hbin).trans i1
       have p2:=(Only.cell hOw (p:=⟨b,o+1,none⟩) (World.block_lt_of_cell? w _ i2) hbin).trans i2
       have p00:=hM1.hd.2.2.1
       have r14:=hG1.blk.cell 14
       have r15:=hG1.blk.cell 15
       have z14:=hG1.blk.frozen 14
       have z15:=hG1.blk.frozen 15
       simp only [grc,List.getElem?_toArray,List.getElem?_cons_succ,List.getElem?_cons_zero,hqs'.out,hPA'.out,List.length_cons] at r14 r15
       rw [← hpcc.out,← hm.out] at r14
       have hPt:=Lib.hid (hG1.parted (w:=w) hqs'.out hp.out hPA'.out)
       replace hM1:=Lib.hid hM1
       replace hG1:=Lib.hid hG1
       replace hOw:=Lib.hid hOw
       clear hLk hbin))
 clear p1 p2 p00 i0 i1 i2 d2 c14
 have hB3:Own (((w1.setCell ⟨a.f,14,none⟩ (.slice (some ⟨b0,o0,none⟩) 0 0)).setCell ⟨a.f,14,none⟩ (.slice a.QA a.qs.length a.qcap)).setCell ⟨a.f,15,none⟩ (.slice none 0 0)) {a with PA:=a.QA,pcap:=a.qcap,ps:=a.qs,QA:=none,qcap:=0,qs:=[]} {G with pass:=G.later,later:=[]}:=((hG1.out.blk.store 14 (.slice (some ⟨b0,o0,none⟩) 0 0)).store 14 (.slice a.QA a.qs.length a.qcap)).store 15 (.slice none 0 0)
 have hO3:=only3 (c:=a.f) w1 14 14 15 (.slice (some ⟨b0,o0,none⟩) 0 0) (.slice a.QA a.qs.length a.qcap) (.slice none 0 0)
 have hWA:=Lib.hid (waitAnew_any hB3)
 replace hO3:=Lib.hid hO3
 clear hB3
 go_wp2_with fail
 refine hWA.out.mono ?_
 rintro e w4 ⟨b4,rfl,hB4,hW4,hlb,hO4⟩
 have hE:Hid (grL.Stp w M a G {lm M with ss:=Pu.lnk M.ss x y} (waitNew {G with pass:=G.later,later:=[]}) w4):=Lib.hid (by
  have hOO:=hO3.out.trans hO4
  have hs:=hOw.out.size
  have hs3:=hO3.out.size
  exact hPt.out.last h8.out (M:=M) (M':={M with ss:=Pu.lnk M.ss x y}) (hM1.out.only hOO (fun x hx e=>hG1.out.far hM1.out (x:=a.f) (.inl rfl) (e▸hx))) ⟨rfl,rfl,rfl,rfl,fun x q=>.inl q⟩ hB4 hW4 (Nat.le_trans hs (Nat.le_trans hs3 hlb)) ((hOw.out.mono (fun x _ q=>(.inl q:mfoot M x∨gfoot a G x))).trans' hOO (fun x _ q=>.inr (.inl q))) ⟨_,hG1.out.blk⟩ hOO)
 clear hB4 hW4 hlb hO4 hWA hPt hO3
 go_wp2_with fail
 go_ret
 exact ⟨rfl,hE.out⟩
set_option maxHeartbeats 4000000 in
theorem part_link_more (hM:MemAt w M) (h:GrAt w a G) (h8:G.nx=8) {x y k:Nat} {ls:List (Nat×Nat)} {t:List (List (Nat×Nat))} (hp:G.pass=((x,y)::ls)::t) (hls:ls≠[]) (ht:t≠[]) (hlen:G.later.length≤100000) (hx:x≤18446744073709551615) (hk:IsAt M.ss x k):
 Calls Tryz.prog 211 #[ptr a.f,ptr M.m] w fun e w'=>e=.returned (.bool false)∧grL.Stp w M a G {lm M with ss:=Pu.lnk M.ss x y} ({G with pass:=t,later:=G.later++[ls]}) w':=by
 have hLk:=Lib.hid (linked_any hM h hx hk y)
 have HM:=Lib.hid hM
 have HG:=Lib.hid h
 have c14:=h.blk.cell 14
 simp only [grc,List.getElem?_toArray,List.getElem?_cons_succ,List.getElem?_cons_zero] at c14
 have hps:=h.rw_.ps
 have hpl:=h.rw_.pl
 have hpc:=h.rw_.pc
 rw [hp] at hps
 generalize hqs:a.ps=ps at*
 cases hps with
 | @cons e0 _ es _ hL0 hes=>
 have hL00:=Lib.hid hL0
 obtain ⟨n0,hne0,hc0,b,o,cs,hA,hB,hcs⟩:=hL0
 rcases hpl with q | ⟨b0,o0,cs0,hPA,hB0,hcs0⟩
 · simp at q
 have i0:=hcs0 0 (by simp)
 have i1:=(hcs 0 (by simp)).1
 have i2:=(hcs 0 (by simp)).2
 rw [← hB0.cell] at i0
 rw [← hB.cell] at i1 i2
 simp only [nel,nlk,List.getD_cons_zero,Nat.add_zero,Nat.zero_mul,hA] at i0 i1 i2
 rw [hPA] at c14
 have d2:=hM.hd.2.2.1
 simp only [List.length_cons,maxLen] at c14 hpc
 have hel:es.length=t.length:=hes.len
 obtain ⟨m,hm⟩:∃ m,m=es.length:=⟨_,rfl⟩
 rw [← hm] at c14 hpc hel
 have hpcm:=Lib.hid (show es.length≤a.pcap-1∧a.pcap-1≤maxLen by simp only [maxLen]; omega)
 have hn0:e0.n=ls.length+1:=by simpa using n0
 have hnp:0<ls.length:=List.length_pos_iff.2 hls
 obtain ⟨n,hn⟩:∃ n,n=ls.length:=⟨_,rfl⟩
 rw [hn0,← hn] at i0 hc0
 rw [← hn] at hnp
 replace hn:=Lib.hid hn
 replace hls:=Lib.hid hls
 have hec1:¬e0.cap=1:=by omega
 have hn1:(1:Int)<(n:Int)+1:=by omega
 have hn3:¬((n:Int)+1<1):=by omega
 have hen:0<m:=by rw [hel]; exact List.length_pos_iff.2 ht
 have hpc1:¬a.pcap=1:=by omega
 replace hm:=Lib.hid hm
 simp only [maxLen] at hc0
 have hqs':=Lib.hid hqs
 have hPA':=Lib.hid hPA
 have hA':=Lib.hid hA
 replace h8:=Lib.hid h8
 replace hp:=Lib.hid hp
 replace ht:=Lib.hid ht
 obtain ⟨ec,hecc⟩:∃ n,n=e0.cap:=⟨_,rfl⟩
 obtain ⟨pc,hpcc⟩:∃ n,n=a.pcap:=⟨_,rfl⟩
 rw [← hecc] at i0 hc0 hec1
 rw [← hpcc] at c14 hpc hpc1
 rw [← hpcc] at hpcm
 replace hecc:=Lib.hid hecc
 replace hpcc:=Lib.hid hpcc
 replace n0:=Lib.hid n0
 clear hM h hk hx hcs hcs0 hB hB0 hqs hes hA hPA hne0 hel
 go_enter Tryz.func211,Tryz.ntmps211
 go_upto_region 2 with (fail)
 go_region_held3 (fun w'=>w'.cell? ⟨M.m,2,none⟩=some (ptr M.ar)∧w'.cell? ⟨b,o,none⟩=some (.int .u64 x)∧w'.cell? ⟨b,o+1,none⟩=some (.int .u64 y)) (go_keep)
  (first
    | (go_at_call 144
       refine (hLk.out (w.drewN 1) ((Only.refl (fun _=>False) w).drewN 1)).mono ?_
       rintro e w1 ⟨rfl,hM1,hG1,hOw⟩
       have hbin:¬mfoot M b:=fun q=>HG.out.far HM.out (x:=b) (.inr (.inr (.inr (.inr (.inr (.inr (.inl ⟨e0,by rw [hqs'.out]; simp,by rw [hA'.out]; rfl⟩))))))) q
       have p1:=(Only.cell hOw (p:=⟨b,o,none⟩) (World.block_lt_of_cell? w _ i1) hbin).trans i1
       have p2:=(Only.cell hOw (p:=⟨b,o+1,none⟩) (World.block_lt_of_cell? w _ i2) hbin).trans i2
       have p00:=hM1.hd.2.2.1
       have r14:=hG1.blk.cell 14
       have r15:=hG1.blk.cell 15
       have z14:=hG1.blk.frozen 14
       have z15:=hG1.blk.frozen 15
       simp only [grc,List.getElem?_toArray,List.getElem?_cons_succ,List.getElem?_cons_zero,hqs'.out,hPA'.out,List.length_cons] at r14 r15
       rw [← hpcc.out,← hm.out] at r14
       have hPt:=Lib.hid (hG1.parted (w:=w) hqs'.out hp.out hPA'.out)
       replace hM1:=Lib.hid hM1
       replace hG1:=Lib.hid hG1
       replace hOw:=Lib.hid hOw
       clear hLk hbin))
 clear p1 p2 p00 i0 i1 i2 d2 c14
 go_upto_region 5 with (fail)
 obtain ⟨w2,hw2⟩:∃ w2,w2=w1.setCell ⟨a.f,14,none⟩ (.slice (some ⟨b0,o0+1,none⟩) m (pc-1)):=⟨_,rfl⟩
 have hB2:Blk w2 a.f 159 ((grc a G).setIfInBounds 14 (.slice (some ⟨b0,o0+1,none⟩) m (pc-1))):=by rw [hw2]; exact hG1.out.blk.store 14 (.slice (some ⟨b0,o0+1,none⟩) m (pc-1))
 have hO2:Only (·=a.f) w1 w2:=by rw [hw2]; exact (Only.refl (·=a.f) w1).setCell (p:=⟨a.f,14,none⟩) (.inl rfl) (.slice (some ⟨b0,o0+1,none⟩) m (pc-1))
 rw [← hw2]
 clear hw2 r14 r15 z14 z15
 have r15:=hB2.cell 15
 simp only [grc,List.setIfInBounds_toArray,List.set_cons_zero,List.set_cons_succ,List.getElem?_toArray,List.getElem?_cons_succ,List.getElem?_cons_zero] at r15
 have hP2:=Lib.hid (hPt.out.only hO2 ⟨_,hG1.out.blk⟩)
 replace hO2:=Lib.hid hO2
 replace hB2:=Lib.hid hB2
 generalize hqn:a.qs.length=qn at*
 replace hqn:=Lib.hid hqn
 have hqb:=Lib.hid (show qn≤100000 by
  have:=hP2.out.eqs.len
  have:=hqn.out
  omega)
 have lf:a.f<w2.drew.heap.size:=hB2.out.lt
 obtain ⟨i0,hi0,hz0,hz1,hz2⟩:=info_parts info_row
 have r0:w2.drew.cell? ⟨a.f,15,none⟩=some (.slice a.QA qn a.qcap):=r15
 refine wp_region_noPanic ?_
 refine Rn.wp_region_N (fun w'=>w'.cell? ⟨a.f,15,none⟩=some (.slice a.QA qn a.qcap)) (fun j=>j==9) (by kernel_rfl) ?_
 refine Rn.wpN_take0 (i:=0) (oi:=⟨some 36,_,_,_,_,_⟩) (v:=ptr a.f) (by rfl) (by kernel_rfl) (by kernel_rfl) (by kernel_rfl) rfl (fun _ _ _ h=>h.elim) (Or.inl ⟨by rfl,by intro w' _; go_simp⟩) r0 ?_
 try simp only [Act.put,List.setIfInBounds_toArray,List.set_cons_zero,List.set_cons_succ]
 refine Rn.wpN_take0 (i:=1) (oi:=⟨some 37,_,_,_,_,_⟩) (v:=ptr a.f) (by rfl) (by kernel_rfl) (by kernel_rfl) (by kernel_rfl) rfl (fun _ _ _ h=>h.elim) (Or.inl ⟨by rfl,by intro w' _; go_simp⟩) r0 ?_
 try simp only [Act.put,List.setIfInBounds_toArray,List.set_cons_zero,List.set_cons_succ]
 refine Rn.wpN_take0 (i:=2) (oi:=⟨some 38,_,_,_,_,_⟩) (v:=.pointer (some ⟨a.f,0,none⟩)) (by rfl) (by kernel_rfl) (by kernel_rfl) (by kernel_rfl) rfl (fun _ _ _ h=>h.elim) (Or.inl ⟨by rfl,by intro w' _; go_simp⟩) r0 ?_
 try simp only [Act.put,List.setIfInBounds_toArray,List.set_cons_zero,List.set_cons_succ]
 refine Rn.wpN_take0 (i:=3) (oi:=⟨some 39,_,_,_,_,_⟩) (v:=.pointer (some ⟨a.f,15,none⟩)) (by rfl) (by kernel_rfl) (by kernel_rfl) (by kernel_rfl) rfl (fun _ _ _ h=>h.elim) (Or.inl ⟨by rfl,by intro w' _; go_simp⟩) r0 ?_
 try simp only [Act.put,List.setIfInBounds_toArray,List.set_cons_zero,List.set_cons_succ]
 refine Rn.wpN_take (i:=4) (oi:=⟨some 40,_,_,_,_,_⟩) (v:=.slice a.QA qn a.qcap) (by rfl) (by kernel_rfl) (by kernel_rfl) (by kernel_rfl) rfl (by intro j hj; rw [show j=9 from by simpa using hj]; kernel_rfl) (fun _ _ _ h=>h.elim) (Or.inl ⟨by rfl,by intro w' hSw; go_simp⟩) r0 ?_
 try simp only [Act.put,List.setIfInBounds_toArray,List.set_cons_zero,List.set_cons_succ]
 refine Rn.wpN_take0 (i:=5) (oi:=⟨some 41,_,_,_,_,_⟩) (v:=.slice (some ⟨b,o,none⟩) (n+1) ec) (by rfl) (by kernel_rfl) (by kernel_rfl) (by kernel_rfl) rfl (fun _ _ _ h=>h.elim) (Or.inl ⟨by rfl,by intro w' _; go_simp⟩) r0 ?_
 try simp only [Act.put,List.setIfInBounds_toArray,List.set_cons_zero,List.set_cons_succ]
 refine Rn.wpN_take0 (i:=6) (oi:=⟨some 42,_,_,_,_,_⟩) (v:=.slice (some ⟨b,o+2,none⟩) n (ec-1)) (by rfl) (by kernel_rfl) (by kernel_rfl) (by kernel_rfl) rfl (fun _ _ _ h=>h.elim) (Or.inl ⟨by rfl,by intro w' _; go_simp⟩) r0 ?_
 try simp only [Act.put,List.setIfInBounds_toArray,List.set_cons_zero,List.set_cons_succ]
 refine Rn.wpN_one (i:=7) (o:=⟨some 43,_,_,_,_,_⟩) (by kernel_rfl) (by rfl) rfl ?_
 intro K hK
 go_simp
 have r1:(w2.drew.alloc (.cells #[.slice (some ⟨b,o+2,none⟩) n (ec-1)] 212)).cell? ⟨a.f,15,none⟩=some (.slice a.QA qn a.qcap):=(Only.cell ((Only.refl (fun _=>False) w2.drew).alloc _) (p:=⟨a.f,15,none⟩) lf (by simp)).trans r15
 refine hK _ _ r1 ?_
 clear hK
 try simp only [Act.put,List.setIfInBounds_toArray,List.set_cons_zero,List.set_cons_succ]
 have hO3:Only (fun _=>False) w2 (w2.drew.alloc (.cells #[.slice (some ⟨b,o+2,none⟩) n (ec-1)] 212)):=((Only.refl (fun _=>False) w2).drew).alloc _
 have hP3:=hP2.out.only (hO3.mono (fun x _ q=>q.elim)) ⟨_,hB2.out⟩
 have hB3:=hB2.out.only hO3 (by simp)
 have hN1:=Blk.made w2.drew 212 #[.slice (some ⟨b,o+2,none⟩) n (ec-1)]
 have hL3:LkAt (w2.drew.alloc (.cells #[.slice (some ⟨b,o+2,none⟩) n (ec-1)] 212)) ⟨some ⟨b,o+2,none⟩,n,ec-1⟩ ls:=by
  have hb0:=hL00.out
  have h1:LkAt w1 e0 ((x,y)::ls):=hb0.only hOw.out (fun z hz q=>HG.out.far HM.out (x:=z) (.inr (.inr (.inr (.inr (.inr (.inr (.inl ⟨e0,by rw [hqs'.out]; simp,hz⟩))))))) q)
  have h2:=(h1.only hO2.out (fun z hz e=>(h1.ty hz).apart (e▸blk_ty hG1.out.blk:Ty w1 z [159]) (by decide))).only hO3 (by simp)
  have h3:=h2.tail hA'.out hls.out
  rw [← hecc.out] at h3
  have h4:e0.n-1=n:=by have:=n0.out; rw [this,hn.out]; simp
  rw [h4] at h3
  exact h3
 obtain ⟨A2,cap2,w4,hrun,hR4,hO4,hA4⟩:=run_one (P:=Tryz.prog) (w2.drew.alloc (.cells #[.slice (some ⟨b,o+2,none⟩) n (ec-1)] 212)) 157 157 212 i0 _ 1 24 Tryz.underlying157 hi0 hz0 hz1 hz2 rfl (by omega) elv elv_len
  (by intro x u hu; simp [elv] at hu; subst hu; rfl) hqn.out hP3.qr ⟨some ⟨b,o+2,none⟩,n,ec-1⟩ ⟨w2.drew.heap.size,0,none⟩ 1 (by
    intro j u hu
    rw [Addr.add_lit,Nat.zero_add,hN1.cell]
    simpa [elv] using hu) (by have:=hqb.out; simp only [maxLen]; omega) (by have:=hqb.out; omega)
 refine Rn.wpN_one (i:=8) (o:=⟨some 44,_,_,_,_,_⟩) (by kernel_rfl) (by rfl) rfl ?_
 intro K hK
 refine step_app rfl (.tmp 40) (.tmp 43) 157 rfl (.slice a.QA qn a.qcap) (.slice (some ⟨w2.drew.heap.size,0,none⟩) 1 1) rfl rfl hrun ?_
 have hfQ:¬In a.QA a.f:=fun q=>(row_ty hP3.qr q).apart (blk_ty hB3) (by decide)
 have hB4:=hB3.only hO4 hfQ
 have r4:=hB4.cell 15
 simp only [grc,List.setIfInBounds_toArray,List.set_cons_zero,List.set_cons_succ,List.getElem?_toArray,List.getElem?_cons_succ,List.getElem?_cons_zero,hqn.out] at r4
 refine hK _ _ r4 ?_
 clear hK
 try simp only [Act.put,List.setIfInBounds_toArray,List.set_cons_zero,List.set_cons_succ]
 refine Rn.wpN_tail 9 (by rfl) (by kernel_rfl) (by rfl) ?_
 dsimp only [List.drop]
 have y15:=hB4.frozen 15
 have y14:=hB4.frozen 14
 have r14:=hB4.cell 14
 simp only [grc,List.setIfInBounds_toArray,List.set_cons_zero,List.set_cons_succ,List.getElem?_toArray,List.getElem?_cons_succ,List.getElem?_cons_zero] at r14
 have hP4:=hP3.grown hL3 (fun z hz=>.inr (.inr (.inl ⟨e0,by rw [hqs'.out]; simp,by rw [hA'.out]; exact hz⟩))) hR4 hO4 hA4 (by
  have h1:=hOw.out.size
  have h2:=hO2.out.size
  have h3:=hO3.size
  omega)
 have hQf:∀ z,In a.QA z→gfoot a G z:=fun z q=>.inr (.inr (.inr (.inr (.inr (.inl q)))))
 have hOq:Only (fun x=>mfoot M x∨gfoot a G x) w w4:=(((hOw.out.mono (fun x _ q=>(.inl q:mfoot M x∨gfoot a G x))).trans' hO2.out (fun x _ q=>.inr (.inl q))).trans' hO3 (fun x _ q=>q.elim)).trans' hO4 (fun x _ q=>.inr (hQf x q))
 have hM4:=((hM1.out.only hO2.out (fun x hx e=>hG1.out.far hM1.out (x:=a.f) (.inl rfl) (e▸hx))).only hO3 (by simp)).only hO4 (fun z hz q=>by
  have:=hP3.qr
  exact hG1.out.far hM1.out (x:=z) (hQf z q) hz)
 have hfar:=Lib.hid (hG1.out.far hM1.out (x:=a.f) (.inl rfl))
 replace hM4:=Lib.hid hM4
 replace hOq:=Lib.hid hOq
 replace hP4:=Lib.hid hP4
 replace hB4:=Lib.hid hB4
 clear r15 lf r0 r1 hO3 hP3 hB3 hN1 hL3 hrun hR4 hO4 hA4 hfQ hQf
 have hB5:Own (w4.setCell ⟨a.f,15,none⟩ (.slice A2 (qn+1) cap2)) {a with PA:=some ⟨b0,o0+1,none⟩,pcap:=pc-1,ps:=es,QA:=A2,qcap:=cap2,qs:=a.qs++[⟨some ⟨b,o+2,none⟩,n,ec-1⟩]} {G with pass:=t,later:=G.later++[ls]}:=by
  have:=hB4.out.store 15 (.slice A2 (qn+1) cap2)
  rw [hm.out] at this
  unfold Own grc
  simp only [List.length_append,List.length_singleton,hqn.out]
  exact this
 have hO5:=(Only.refl (·=a.f) w4).setCell (p:=⟨a.f,15,none⟩) (.inl rfl) (.slice A2 (qn+1) cap2)
 have hE:=Lib.hid (hP4.out.more hqs'.out hPA'.out hpcm.out h8.out ht.out (hM4.out.only hO5 (fun x hx e=>hfar.out (e▸hx))) (M:=M) (M':={M with ss:=Pu.lnk M.ss x y}) ⟨rfl,rfl,rfl,rfl,fun x q=>.inl q⟩ hB5 (hOq.out.trans' hO5 (fun x _ q=>.inr (.inl q))) ⟨_,hB4.out⟩ hO5)
 clear hB5 hO5 hP4
 go_wp2_with fail
 refine NoPanic.normal ?_
 go_wp2_with fail
 go_ret
 exact ⟨rfl,hE.out⟩
set_option maxHeartbeats 4000000 in
theorem part_link_last (hM:MemAt w M) (h:GrAt w a G) (h8:G.nx=8) {x y k:Nat} {ls:List (Nat×Nat)} {t:List (List (Nat×Nat))} (hp:G.pass=((x,y)::ls)::t) (hls:ls≠[]) (ht:t=[]) (hpc1:¬a.pcap=1) (hlen:G.later.length≤100000) (hx:x≤18446744073709551615) (hk:IsAt M.ss x k):
 Calls Tryz.prog 211 #[ptr a.f,ptr M.m] w fun e w'=>e=.returned (.bool false)∧grL.Stp w M a G {lm M with ss:=Pu.lnk M.ss x y} (waitNew {G with pass:=G.later++[ls],later:=[]}) w':=by
 have hLk:=Lib.hid (linked_any hM h hx hk y)
 have HM:=Lib.hid hM
 have HG:=Lib.hid h
 have c14:=h.blk.cell 14
 simp only [grc,List.getElem?_toArray,List.getElem?_cons_succ,List.getElem?_cons_zero] at c14
 have hps:=h.rw_.ps
 have hpl:=h.rw_.pl
 have hpc:=h.rw_.pc
 rw [hp] at hps
 generalize hqs:a.ps=ps at*
 cases hps with
 | @cons e0 _ es _ hL0 hes=>
 have hL00:=Lib.hid hL0
 obtain ⟨n0,hne0,hc0,b,o,cs,hA,hB,hcs⟩:=hL0
 rcases hpl with q | ⟨b0,o0,cs0,hPA,hB0,hcs0⟩
 · simp at q
 have i0:=hcs0 0 (by simp)
 have i1:=(hcs 0 (by simp)).1
 have i2:=(hcs 0 (by simp)).2
 rw [← hB0.cell] at i0
 rw [← hB.cell] at i1 i2
 simp only [nel,nlk,List.getD_cons_zero,Nat.add_zero,Nat.zero_mul,hA] at i0 i1 i2
 rw [hPA] at c14
 have d2:=hM.hd.2.2.1
 simp only [List.length_cons,maxLen] at c14 hpc
 have hel:es.length=t.length:=hes.len
 obtain ⟨m,hm⟩:∃ m,m=es.length:=⟨_,rfl⟩
 rw [← hm] at c14 hpc hel
 have hpcm:=Lib.hid (show es.length≤a.pcap-1∧a.pcap-1≤maxLen by simp only [maxLen]; omega)
 have hn0:e0.n=ls.length+1:=by simpa using n0
 have hnp:0<ls.length:=List.length_pos_iff.2 hls
 obtain ⟨n,hn⟩:∃ n,n=ls.length:=⟨_,rfl⟩
 rw [hn0,← hn] at i0 hc0
 rw [← hn] at hnp
 replace hn:=Lib.hid hn
 replace hls:=Lib.hid hls
 have hec1:¬e0.cap=1:=by omega
 have hn1:(1:Int)<(n:Int)+1:=by omega
 have hn3:¬((n:Int)+1<1):=by omega
 have hen:m=0:=by rw [hel,ht]; rfl
 subst hen
 replace hm:=Lib.hid hm
 simp only [maxLen] at hc0
 have hqs':=Lib.hid hqs
 have hPA':=Lib.hid hPA
 have hA':=Lib.hid hA
 replace h8:=Lib.hid h8
 replace hp:=Lib.hid hp
 replace ht:=Lib.hid ht
 obtain ⟨ec,hecc⟩:∃ n,n=e0.cap:=⟨_,rfl⟩
 obtain ⟨pc,hpcc⟩:∃ n,n=a.pcap:=⟨_,rfl⟩
 rw [← hecc] at i0 hc0 hec1
 rw [← hpcc] at c14 hpc hpc1
 rw [← hpcc] at hpcm
 replace hecc:=Lib.hid hecc
 replace hpcc:=Lib.hid hpcc
 replace n0:=Lib.hid n0
 clear hM h hk hx hcs hcs0 hB hB0 hqs hes hA hPA hne0 hel
 go_enter Tryz.func211,Tryz.ntmps211
 go_upto_region 2 with (fail)
 go_region_held3 (fun w'=>w'.cell? ⟨M.m,2,none⟩=some (ptr M.ar)∧w'.cell? ⟨b,o,none⟩=some (.int .u64 x)∧w'.cell? ⟨b,o+1,none⟩=some (.int .u64 y)) (go_keep)
  (first
    | (go_at_call 144
       refine (hLk.out (w.drewN 1) ((Only.refl (fun _=>False) w).drewN 1)).mono ?_
       rintro e w1 ⟨rfl,hM1,hG1,hOw⟩
       have hbin:¬mfoot M b:=fun q=>HG.out.far HM.out (x:=b) (.inr (.inr (.inr (.inr (.inr (.inr (.inl ⟨e0,by rw [hqs'.out]; simp,by rw [hA'.out]; rfl⟩))))))) q
       have p1:=(Only.cell hOw (p:=⟨b,o,none⟩) (World.block_lt_of_cell? w _ i1) hbin).trans i1
       have p2:=(Only.cell hOw (p:=⟨b,o+1,none⟩) (World.block_lt_of_cell? w _ i2) hbin).trans i2
       have p00:=hM1.hd.2.2.1
       have r14:=hG1.blk.cell 14
       have r15:=hG1.blk.cell 15
       have z14:=hG1.blk.frozen 14
       have z15:=hG1.blk.frozen 15
       simp only [grc,List.getElem?_toArray,List.getElem?_cons_succ,List.getElem?_cons_zero,hqs'.out,hPA'.out,List.length_cons] at r14 r15
       rw [← hpcc.out,← hm.out] at r14
       have hPt:=Lib.hid (hG1.parted (w:=w) hqs'.out hp.out hPA'.out)
       replace hM1:=Lib.hid hM1
       replace hG1:=Lib.hid hG1
       replace hOw:=Lib.hid hOw
       clear hLk hbin))
 clear p1 p2 p00 i0 i1 i2 d2 c14
 go_upto_region 5 with (fail)
 obtain ⟨w2,hw2⟩:∃ w2,w2=w1.setCell ⟨a.f,14,none⟩ (.slice (some ⟨b0,o0+1,none⟩) 0 (pc-1)):=⟨_,rfl⟩
 have hB2:Blk w2 a.f 159 ((grc a G).setIfInBounds 14 (.slice (some ⟨b0,o0+1,none⟩) 0 (pc-1))):=by rw [hw2]; exact hG1.out.blk.store 14 (.slice (some ⟨b0,o0+1,none⟩) 0 (pc-1))
 have hO2:Only (·=a.f) w1 w2:=by rw [hw2]; exact (Only.refl (·=a.f) w1).setCell (p:=⟨a.f,14,none⟩) (.inl rfl) (.slice (some ⟨b0,o0+1,none⟩) 0 (pc-1))
 rw [← hw2]
 clear hw2 r14 r15 z14 z15
 have r15:=hB2.cell 15
 simp only [grc,List.setIfInBounds_toArray,List.set_cons_zero,List.set_cons_succ,List.getElem?_toArray,List.getElem?_cons_succ,List.getElem?_cons_zero] at r15
 have hP2:=Lib.hid (hPt.out.only hO2 ⟨_,hG1.out.blk⟩)
 replace hO2:=Lib.hid hO2
 replace hB2:=Lib.hid hB2
 generalize hqn:a.qs.length=qn at*
 replace hqn:=Lib.hid hqn
 have hqb:=Lib.hid (show qn≤100000 by
  have:=hP2.out.eqs.len
  have:=hqn.out
  omega)
 have lf:a.f<w2.drew.heap.size:=hB2.out.lt
 obtain ⟨i0,hi0,hz0,hz1,hz2⟩:=info_parts info_row
 have r0:w2.drew.cell? ⟨a.f,15,none⟩=some (.slice a.QA qn a.qcap):=r15
 refine wp_region_noPanic ?_
 refine Rn.wp_region_N (fun w'=>w'.cell? ⟨a.f,15,none⟩=some (.slice a.QA qn a.qcap)) (fun j=>j==9) (by kernel_rfl) ?_
 refine Rn.wpN_take0 (i:=0) (oi:=⟨some 36,_,_,_,_,_⟩) (v:=ptr a.f) (by rfl) (by kernel_rfl) (by kernel_rfl) (by kernel_rfl) rfl (fun _ _ _ h=>h.elim) (Or.inl ⟨by rfl,by intro w' _; go_simp⟩) r0 ?_
 try simp only [Act.put,List.setIfInBounds_toArray,List.set_cons_zero,List.set_cons_succ]
 refine Rn.wpN_take0 (i:=1) (oi:=⟨some 37,_,_,_,_,_⟩) (v:=ptr a.f) (by rfl) (by kernel_rfl) (by kernel_rfl) (by kernel_rfl) rfl (fun _ _ _ h=>h.elim) (Or.inl ⟨by rfl,by intro w' _; go_simp⟩) r0 ?_
 try simp only [Act.put,List.setIfInBounds_toArray,List.set_cons_zero,List.set_cons_succ]
 refine Rn.wpN_take0 (i:=2) (oi:=⟨some 38,_,_,_,_,_⟩) (v:=.pointer (some ⟨a.f,0,none⟩)) (by rfl) (by kernel_rfl) (by kernel_rfl) (by kernel_rfl) rfl (fun _ _ _ h=>h.elim) (Or.inl ⟨by rfl,by intro w' _; go_simp⟩) r0 ?_
 try simp only [Act.put,List.setIfInBounds_toArray,List.set_cons_zero,List.set_cons_succ]
 refine Rn.wpN_take0 (i:=3) (oi:=⟨some 39,_,_,_,_,_⟩) (v:=.pointer (some ⟨a.f,15,none⟩)) (by rfl) (by kernel_rfl) (by kernel_rfl) (by kernel_rfl) rfl (fun _ _ _ h=>h.elim) (Or.inl ⟨by rfl,by intro w' _; go_simp⟩) r0 ?_
 try simp only [Act.put,List.setIfInBounds_toArray,List.set_cons_zero,List.set_cons_succ]
 refine Rn.wpN_take (i:=4) (oi:=⟨some 40,_,_,_,_,_⟩) (v:=.slice a.QA qn a.qcap) (by rfl) (by kernel_rfl) (by kernel_rfl) (by kernel_rfl) rfl (by intro j hj; rw [show j=9 from by simpa using hj]; kernel_rfl) (fun _ _ _ h=>h.elim) (Or.inl ⟨by rfl,by intro w' hSw; go_simp⟩) r0 ?_
 try simp only [Act.put,List.setIfInBounds_toArray,List.set_cons_zero,List.set_cons_succ]
 refine Rn.wpN_take0 (i:=5) (oi:=⟨some 41,_,_,_,_,_⟩) (v:=.slice (some ⟨b,o,none⟩) (n+1) ec) (by rfl) (by kernel_rfl) (by kernel_rfl) (by kernel_rfl) rfl (fun _ _ _ h=>h.elim) (Or.inl ⟨by rfl,by intro w' _; go_simp⟩) r0 ?_
 try simp only [Act.put,List.setIfInBounds_toArray,List.set_cons_zero,List.set_cons_succ]
 refine Rn.wpN_take0 (i:=6) (oi:=⟨some 42,_,_,_,_,_⟩) (v:=.slice (some ⟨b,o+2,none⟩) n (ec-1)) (by rfl) (by kernel_rfl) (by kernel_rfl) (by kernel_rfl) rfl (fun _ _ _ h=>h.elim) (Or.inl ⟨by rfl,by intro w' _; go_simp⟩) r0 ?_
 try simp only [Act.put,List.setIfInBounds_toArray,List.set_cons_zero,List.set_cons_succ]
 refine Rn.wpN_one (i:=7) (o:=⟨some 43,_,_,_,_,_⟩) (by kernel_rfl) (by rfl) rfl ?_
 intro K hK
 go_simp
 have r1:(w2.drew.alloc (.cells #[.slice (some ⟨b,o+2,none⟩) n (ec-1)] 212)).cell? ⟨a.f,15,none⟩=some (.slice a.QA qn a.qcap):=(Only.cell ((Only.refl (fun _=>False) w2.drew).alloc _) (p:=⟨a.f,15,none⟩) lf (by simp)).trans r15
 refine hK _ _ r1 ?_
 clear hK
 try simp only [Act.put,List.setIfInBounds_toArray,List.set_cons_zero,List.set_cons_succ]
 have hO3:Only (fun _=>False) w2 (w2.drew.alloc (.cells #[.slice (some ⟨b,o+2,none⟩) n (ec-1)] 212)):=((Only.refl (fun _=>False) w2).drew).alloc _
 have hP3:=hP2.out.only (hO3.mono (fun x _ q=>q.elim)) ⟨_,hB2.out⟩
 have hB3:=hB2.out.only hO3 (by simp)
 have hN1:=Blk.made w2.drew 212 #[.slice (some ⟨b,o+2,none⟩) n (ec-1)]
 have hL3:LkAt (w2.drew.alloc (.cells #[.slice (some ⟨b,o+2,none⟩) n (ec-1)] 212)) ⟨some ⟨b,o+2,none⟩,n,ec-1⟩ ls:=by
  have hb0:=hL00.out
  have h1:LkAt w1 e0 ((x,y)::ls):=hb0.only hOw.out (fun z hz q=>HG.out.far HM.out (x:=z) (.inr (.inr (.inr (.inr (.inr (.inr (.inl ⟨e0,by rw [hqs'.out]; simp,hz⟩))))))) q)
  have h2:=(h1.only hO2.out (fun z hz e=>(h1.ty hz).apart (e▸blk_ty hG1.out.blk:Ty w1 z [159]) (by decide))).only hO3 (by simp)
  have h3:=h2.tail hA'.out hls.out
  rw [← hecc.out] at h3
  have h4:e0.n-1=n:=by have:=n0.out; rw [this,hn.out]; simp
  rw [h4] at h3
  exact h3
 obtain ⟨A2,cap2,w4,hrun,hR4,hO4,hA4⟩:=run_one (P:=Tryz.prog) (w2.drew.alloc (.cells #[.slice (some ⟨b,o+2,none⟩) n (ec-1)] 212)) 157 157 212 i0 _ 1 24 Tryz.underlying157 hi0 hz0 hz1 hz2 rfl (by omega) elv elv_len
  (by intro x u hu; simp [elv] at hu; subst hu; rfl) hqn.out hP3.qr ⟨some ⟨b,o+2,none⟩,n,ec-1⟩ ⟨w2.drew.heap.size,0,none⟩ 1 (by
    intro j u hu
    rw [Addr.add_lit,Nat.zero_add,hN1.cell]
    simpa [elv] using hu) (by have:=hqb.out; simp only [maxLen]; omega) (by have:=hqb.out; omega)
 refine Rn.wpN_one (i:=8) (o:=⟨some 44,_,_,_,_,_⟩) (by kernel_rfl) (by rfl) rfl ?_
 intro K hK
 refine step_app rfl (.tmp 40) (.tmp 43) 157 rfl (.slice a.QA qn a.qcap) (.slice (some ⟨w2.drew.heap.size,0,none⟩) 1 1) rfl rfl hrun ?_
 have hfQ:¬In a.QA a.f:=fun q=>(row_ty hP3.qr q).apart (blk_ty hB3) (by decide)
 have hB4:=hB3.only hO4 hfQ
 have r4:=hB4.cell 15
 simp only [grc,List.setIfInBounds_toArray,List.set_cons_zero,List.set_cons_succ,List.getElem?_toArray,List.getElem?_cons_succ,List.getElem?_cons_zero,hqn.out] at r4
 refine hK _ _ r4 ?_
 clear hK
 try simp only [Act.put,List.setIfInBounds_toArray,List.set_cons_zero,List.set_cons_succ]
 refine Rn.wpN_tail 9 (by rfl) (by kernel_rfl) (by rfl) ?_
 dsimp only [List.drop]
 have y15:=hB4.frozen 15
 have y14:=hB4.frozen 14
 have r14:=hB4.cell 14
 simp only [grc,List.setIfInBounds_toArray,List.set_cons_zero,List.set_cons_succ,List.getElem?_toArray,List.getElem?_cons_succ,List.getElem?_cons_zero] at r14
 have hP4:=hP3.grown hL3 (fun z hz=>.inr (.inr (.inl ⟨e0,by rw [hqs'.out]; simp,by rw [hA'.out]; exact hz⟩))) hR4 hO4 hA4 (by
  have h1:=hOw.out.size
  have h2:=hO2.out.size
  have h3:=hO3.size
  omega)
 have hQf:∀ z,In a.QA z→gfoot a G z:=fun z q=>.inr (.inr (.inr (.inr (.inr (.inl q)))))
 have hOq:Only (fun x=>mfoot M x∨gfoot a G x) w w4:=(((hOw.out.mono (fun x _ q=>(.inl q:mfoot M x∨gfoot a G x))).trans' hO2.out (fun x _ q=>.inr (.inl q))).trans' hO3 (fun x _ q=>q.elim)).trans' hO4 (fun x _ q=>.inr (hQf x q))
 have hM4:=((hM1.out.only hO2.out (fun x hx e=>hG1.out.far hM1.out (x:=a.f) (.inl rfl) (e▸hx))).only hO3 (by simp)).only hO4 (fun z hz q=>by
  have:=hP3.qr
  exact hG1.out.far hM1.out (x:=z) (hQf z q) hz)
 have hfar:=Lib.hid (hG1.out.far hM1.out (x:=a.f) (.inl rfl))
 replace hM4:=Lib.hid hM4
 replace hOq:=Lib.hid hOq
 replace hP4:=Lib.hid hP4
 replace hB4:=Lib.hid hB4
 clear r15 lf r0 r1 hO3 hP3 hB3 hN1 hL3 hrun hR4 hO4 hA4 hfQ hQf
 have hB5:Own (((w4.setCell ⟨a.f,15,none⟩ (.slice A2 (qn+1) cap2)).setCell ⟨a.f,14,none⟩ (.slice A2 (qn+1) cap2)).setCell ⟨a.f,15,none⟩ (.slice none 0 0)) {a with PA:=A2,pcap:=cap2,ps:=a.qs++[⟨some ⟨b,o+2,none⟩,n,ec-1⟩],QA:=none,qcap:=0,qs:=[]} {G with pass:=G.later++[ls],later:=[]}:=by
  have:=((hB4.out.store 15 (.slice A2 (qn+1) cap2)).store 14 (.slice A2 (qn+1) cap2)).store 15 (.slice none 0 0)
  unfold Own grc
  simp only [List.length_append,List.length_singleton,hqn.out]
  exact this
 have hO5:=Lib.hid (only3 (c:=a.f) w4 15 14 15 (.slice A2 (qn+1) cap2) (.slice A2 (qn+1) cap2) (.slice none 0 0))
 have hWA:=Lib.hid (waitAnew_any hB5)
 clear hB5
 go_wp2_with fail
 refine NoPanic.normal ?_
 go_wp2_with fail
 refine hWA.out.mono ?_
 rintro e w6 ⟨b4,rfl,hB6,hW6,hlb,hO6⟩
 have hE:Hid (grL.Stp w M a G {lm M with ss:=Pu.lnk M.ss x y} (waitNew {G with pass:=G.later++[ls],later:=[]}) w6):=Lib.hid (by
  have hOO:=hO5.out.trans hO6
  have hs:=hOq.out.size
  have hs3:=hO5.out.size
  exact hP4.out.last h8.out (M:=M) (M':={M with ss:=Pu.lnk M.ss x y}) (hM4.out.only hOO (fun x hx e=>hfar.out (e▸hx))) ⟨rfl,rfl,rfl,rfl,fun x q=>.inl q⟩ hB6 hW6 (Nat.le_trans hs (Nat.le_trans hs3 hlb)) (hOq.out.trans' hOO (fun x _ q=>.inr (.inl q))) ⟨_,hB4.out⟩ hOO)
 clear hB6 hW6 hlb hO6 hWA hP4 hO5
 go_wp2_with fail
 go_ret
 exact ⟨rfl,hE.out⟩
set_option maxHeartbeats 4000000 in
theorem part_link_only (hM:MemAt w M) (h:GrAt w a G) (h8:G.nx=8) {x y k:Nat} {ls:List (Nat×Nat)} {t:List (List (Nat×Nat))} (hp:G.pass=((x,y)::ls)::t) (hls:ls≠[]) (ht:t=[]) (hpc1:a.pcap=1) (hlen:G.later.length≤100000) (hx:x≤18446744073709551615) (hk:IsAt M.ss x k):
 Calls Tryz.prog 211 #[ptr a.f,ptr M.m] w fun e w'=>e=.returned (.bool false)∧grL.Stp w M a G {lm M with ss:=Pu.lnk M.ss x y} (waitNew {G with pass:=G.later++[ls],later:=[]}) w':=by
 have hLk:=Lib.hid (linked_any hM h hx hk y)
 have HM:=Lib.hid hM
 have HG:=Lib.hid h
 have c14:=h.blk.cell 14
 simp only [grc,List.getElem?_toArray,List.getElem?_cons_succ,List.getElem?_cons_zero] at c14
 have hps:=h.rw_.ps
 have hpl:=h.rw_.pl
 have hpc:=h.rw_.pc
 rw [hp] at hps
 generalize hqs:a.ps=ps at*
 cases hps with
 | @cons e0 _ es _ hL0 hes=>
 have hL00:=Lib.hid hL0
 obtain ⟨n0,hne0,hc0,b,o,cs,hA,hB,hcs⟩:=hL0
 rcases hpl with q | ⟨b0,o0,cs0,hPA,hB0,hcs0⟩
 · simp at q
 have i0:=hcs0 0 (by simp)
 have i1:=(hcs 0 (by simp)).1
 have i2:=(hcs 0 (by simp)).2
 rw [← hB0.cell] at i0
 rw [← hB.cell] at i1 i2
 simp only [nel,nlk,List.getD_cons_zero,Nat.add_zero,Nat.zero_mul,hA] at i0 i1 i2
 rw [hPA] at c14
 have d2:=hM.hd.2.2.1
 simp only [List.length_cons,maxLen] at c14 hpc
 have hel:es.length=t.length:=hes.len
 obtain ⟨m,hm⟩:∃ m,m=es.length:=⟨_,rfl⟩
 rw [← hm] at c14 hpc hel
 have hpcm:=Lib.hid (show es.length≤a.pcap-1∧a.pcap-1≤maxLen by simp only [maxLen]; omega)
 have hn0:e0.n=ls.length+1:=by simpa using n0
 have hnp:0<ls.length:=List.length_pos_iff.2 hls
 obtain ⟨n,hn⟩:∃ n,n=ls.length:=⟨_,rfl⟩
 rw [hn0,← hn] at i0 hc0
 rw [← hn] at hnp
 replace hn:=Lib.hid hn
 replace hls:=Lib.hid hls
 have hec1:¬e0.cap=1:=by omega
 have hn1:(1:Int)<(n:Int)+1:=by omega
 have hn3:¬((n:Int)+1<1):=by omega
 have hen:m=0:=by rw [hel,ht]; rfl
 subst hen
 replace hm:=Lib.hid hm
 simp only [maxLen] at hc0
 have hqs':=Lib.hid hqs
 have hPA':=Lib.hid hPA
 have hA':=Lib.hid hA
 replace h8:=Lib.hid h8
 replace hp:=Lib.hid hp
 replace ht:=Lib.hid ht
 obtain ⟨ec,hecc⟩:∃ n,n=e0.cap:=⟨_,rfl⟩
 obtain ⟨pc,hpcc⟩:∃ n,n=a.pcap:=⟨_,rfl⟩
 rw [← hecc] at i0 hc0 hec1
 rw [← hpcc] at c14 hpc hpc1
 subst hpc1
 rw [← hpcc] at hpcm
 replace hecc:=Lib.hid hecc
 replace hpcc:=Lib.hid hpcc
 replace n0:=Lib.hid n0
 clear hM h hk hx hcs hcs0 hB hB0 hqs hes hA hPA hne0 hel
 go_enter Tryz.func211,Tryz.ntmps211
 go_upto_region 2 with (fail)
 go_region_held3 (fun w'=>w'.cell? ⟨M.m,2,none⟩=some (ptr M.ar)∧w'.cell? ⟨b,o,none⟩=some (.int .u64 x)∧w'.cell? ⟨b,o+1,none⟩=some (.int .u64 y)) (go_keep)
  (first
    | (go_at_call 144
       refine (hLk.out (w.drewN 1) ((Only.refl (fun _=>False) w).drewN 1)).mono ?_
       rintro e w1 ⟨rfl,hM1,hG1,hOw⟩
       have hbin:¬mfoot M b:=fun q=>HG.out.far HM.out (x:=b) (.inr (.inr (.inr (.inr (.inr (.inr (.inl ⟨e0,by rw [hqs'.out]; simp,by rw [hA'.out]; rfl⟩))))))) q
       have p1:=(Only.cell hOw (p:=⟨b,o,none⟩) (World.block_lt_of_cell? w _ i1) hbin).trans i1
       have p2:=(Only.cell hOw (p:=⟨b,o+1,none⟩) (World.block_lt_of_cell? w _ i2) hbin).trans i2
       have p00:=hM1.hd.2.2.1
       have r14:=hG1.blk.cell 14
       have r15:=hG1.blk.cell 15
       have z14:=hG1.blk.frozen 14
       have z15:=hG1.blk.frozen 15
       simp only [grc,List.getElem?_toArray,List.getElem?_cons_succ,List.getElem?_cons_zero,hqs'.out,hPA'.out,List.length_cons] at r14 r15
       rw [← hpcc.out,← hm.out] at r14
       have hPt:=Lib.hid (hG1.parted (w:=w) hqs'.out hp.out hPA'.out)
       replace hM1:=Lib.hid hM1
       replace hG1:=Lib.hid hG1
       replace hOw:=Lib.hid hOw
       clear hLk hbin))
 clear p1 p2 p00 i0 i1 i2 d2 c14
 go_upto_region 5 with (fail)
 obtain ⟨w2,hw2⟩:∃ w2,w2=w1.setCell ⟨a.f,14,none⟩ (.slice (some ⟨b0,o0,none⟩) 0 0):=⟨_,rfl⟩
 have hB2:Blk w2 a.f 159 ((grc a G).setIfInBounds 14 (.slice (some ⟨b0,o0,none⟩) 0 0)):=by rw [hw2]; exact hG1.out.blk.store 14 (.slice (some ⟨b0,o0,none⟩) 0 0)
 have hO2:Only (·=a.f) w1 w2:=by rw [hw2]; exact (Only.refl (·=a.f) w1).setCell (p:=⟨a.f,14,none⟩) (.inl rfl) (.slice (some ⟨b0,o0,none⟩) 0 0)
 rw [← hw2]
 clear hw2 r14 r15 z14 z15
 have r15:=hB2.cell 15
 simp only [grc,List.setIfInBounds_toArray,List.set_cons_zero,List.set_cons_succ,List.getElem?_toArray,List.getElem?_cons_succ,List.getElem?_cons_zero] at r15
 have hP2:=Lib.hid (hPt.out.only hO2 ⟨_,hG1.out.blk⟩)
 replace hO2:=Lib.hid hO2
 replace hB2:=Lib.hid hB2
 generalize hqn:a.qs.length=qn at*
 replace hqn:=Lib.hid hqn
 have hqb:=Lib.hid (show qn≤100000 by
  have:=hP2.out.eqs.len
  have:=hqn.out
  omega)
 have lf:a.f<w2.drew.heap.size:=hB2.out.lt
 obtain ⟨i0,hi0,hz0,hz1,hz2⟩:=info_parts info_row
 have r0:w2.drew.cell? ⟨a.f,15,none⟩=some (.slice a.QA qn a.qcap):=r15
 refine wp_region_noPanic ?_
 refine Rn.wp_region_N (fun w'=>w'.cell? ⟨a.f,15,none⟩=some (.slice a.QA qn a.qcap)) (fun j=>j==9) (by kernel_rfl) ?_
 refine Rn.wpN_take0 (i:=0) (oi:=⟨some 36,_,_,_,_,_⟩) (v:=ptr a.f) (by rfl) (by kernel_rfl) (by kernel_rfl) (by kernel_rfl) rfl (fun _ _ _ h=>h.elim) (Or.inl ⟨by rfl,by intro w' _; go_simp⟩) r0 ?_
 try simp only [Act.put,List.setIfInBounds_toArray,List.set_cons_zero,List.set_cons_succ]
 refine Rn.wpN_take0 (i:=1) (oi:=⟨some 37,_,_,_,_,_⟩) (v:=ptr a.f) (by rfl) (by kernel_rfl) (by kernel_rfl) (by kernel_rfl) rfl (fun _ _ _ h=>h.elim) (Or.inl ⟨by rfl,by intro w' _; go_simp⟩) r0 ?_
 try simp only [Act.put,List.setIfInBounds_toArray,List.set_cons_zero,List.set_cons_succ]
 refine Rn.wpN_take0 (i:=2) (oi:=⟨some 38,_,_,_,_,_⟩) (v:=.pointer (some ⟨a.f,0,none⟩)) (by rfl) (by kernel_rfl) (by kernel_rfl) (by kernel_rfl) rfl (fun _ _ _ h=>h.elim) (Or.inl ⟨by rfl,by intro w' _; go_simp⟩) r0 ?_
 try simp only [Act.put,List.setIfInBounds_toArray,List.set_cons_zero,List.set_cons_succ]
 refine Rn.wpN_take0 (i:=3) (oi:=⟨some 39,_,_,_,_,_⟩) (v:=.pointer (some ⟨a.f,15,none⟩)) (by rfl) (by kernel_rfl) (by kernel_rfl) (by kernel_rfl) rfl (fun _ _ _ h=>h.elim) (Or.inl ⟨by rfl,by intro w' _; go_simp⟩) r0 ?_
 try simp only [Act.put,List.setIfInBounds_toArray,List.set_cons_zero,List.set_cons_succ]
 refine Rn.wpN_take (i:=4) (oi:=⟨some 40,_,_,_,_,_⟩) (v:=.slice a.QA qn a.qcap) (by rfl) (by kernel_rfl) (by kernel_rfl) (by kernel_rfl) rfl (by intro j hj; rw [show j=9 from by simpa using hj]; kernel_rfl) (fun _ _ _ h=>h.elim) (Or.inl ⟨by rfl,by intro w' hSw; go_simp⟩) r0 ?_
 try simp only [Act.put,List.setIfInBounds_toArray,List.set_cons_zero,List.set_cons_succ]
 refine Rn.wpN_take0 (i:=5) (oi:=⟨some 41,_,_,_,_,_⟩) (v:=.slice (some ⟨b,o,none⟩) (n+1) ec) (by rfl) (by kernel_rfl) (by kernel_rfl) (by kernel_rfl) rfl (fun _ _ _ h=>h.elim) (Or.inl ⟨by rfl,by intro w' _; go_simp⟩) r0 ?_
 try simp only [Act.put,List.setIfInBounds_toArray,List.set_cons_zero,List.set_cons_succ]
 refine Rn.wpN_take0 (i:=6) (oi:=⟨some 42,_,_,_,_,_⟩) (v:=.slice (some ⟨b,o+2,none⟩) n (ec-1)) (by rfl) (by kernel_rfl) (by kernel_rfl) (by kernel_rfl) rfl (fun _ _ _ h=>h.elim) (Or.inl ⟨by rfl,by intro w' _; go_simp⟩) r0 ?_
 try simp only [Act.put,List.setIfInBounds_toArray,List.set_cons_zero,List.set_cons_succ]
 refine Rn.wpN_one (i:=7) (o:=⟨some 43,_,_,_,_,_⟩) (by kernel_rfl) (by rfl) rfl ?_
 intro K hK
 go_simp
 have r1:(w2.drew.alloc (.cells #[.slice (some ⟨b,o+2,none⟩) n (ec-1)] 212)).cell? ⟨a.f,15,none⟩=some (.slice a.QA qn a.qcap):=(Only.cell ((Only.refl (fun _=>False) w2.drew).alloc _) (p:=⟨a.f,15,none⟩) lf (by simp)).trans r15
 refine hK _ _ r1 ?_
 clear hK
 try simp only [Act.put,List.setIfInBounds_toArray,List.set_cons_zero,List.set_cons_succ]
 have hO3:Only (fun _=>False) w2 (w2.drew.alloc (.cells #[.slice (some ⟨b,o+2,none⟩) n (ec-1)] 212)):=((Only.refl (fun _=>False) w2).drew).alloc _
 have hP3:=hP2.out.only (hO3.mono (fun x _ q=>q.elim)) ⟨_,hB2.out⟩
 have hB3:=hB2.out.only hO3 (by simp)
 have hN1:=Blk.made w2.drew 212 #[.slice (some ⟨b,o+2,none⟩) n (ec-1)]
 have hL3:LkAt (w2.drew.alloc (.cells #[.slice (some ⟨b,o+2,none⟩) n (ec-1)] 212)) ⟨some ⟨b,o+2,none⟩,n,ec-1⟩ ls:=by
  have hb0:=hL00.out
  have h1:LkAt w1 e0 ((x,y)::ls):=hb0.only hOw.out (fun z hz q=>HG.out.far HM.out (x:=z) (.inr (.inr (.inr (.inr (.inr (.inr (.inl ⟨e0,by rw [hqs'.out]; simp,hz⟩))))))) q)
  have h2:=(h1.only hO2.out (fun z hz e=>(h1.ty hz).apart (e▸blk_ty hG1.out.blk:Ty w1 z [159]) (by decide))).only hO3 (by simp)
  have h3:=h2.tail hA'.out hls.out
  rw [← hecc.out] at h3
  have h4:e0.n-1=n:=by have:=n0.out; rw [this,hn.out]; simp
  rw [h4] at h3
  exact h3
 obtain ⟨A2,cap2,w4,hrun,hR4,hO4,hA4⟩:=run_one (P:=Tryz.prog) (w2.drew.alloc (.cells #[.slice (some ⟨b,o+2,none⟩) n (ec-1)] 212)) 157 157 212 i0 _ 1 24 Tryz.underlying157 hi0 hz0 hz1 hz2 rfl (by omega) elv elv_len
  (by intro x u hu; simp [elv] at hu; subst hu; rfl) hqn.out hP3.qr ⟨some ⟨b,o+2,none⟩,n,ec-1⟩ ⟨w2.drew.heap.size,0,none⟩ 1 (by
    intro j u hu
    rw [Addr.add_lit,Nat.zero_add,hN1.cell]
    simpa [elv] using hu) (by have:=hqb.out; simp only [maxLen]; omega) (by have:=hqb.out; omega)
 refine Rn.wpN_one (i:=8) (o:=⟨some 44,_,_,_,_,_⟩) (by kernel_rfl) (by rfl) rfl ?_
 intro K hK
 refine step_app rfl (.tmp 40) (.tmp 43) 157 rfl (.slice a.QA qn a.qcap) (.slice (some ⟨w2.drew.heap.size,0,none⟩) 1 1) rfl rfl hrun ?_
 have hfQ:¬In a.QA a.f:=fun q=>(row_ty hP3.qr q).apart (blk_ty hB3) (by decide)
 have hB4:=hB3.only hO4 hfQ
 have r4:=hB4.cell 15
 simp only [grc,List.setIfInBounds_toArray,List.set_cons_zero,List.set_cons_succ,List.getElem?_toArray,List.getElem?_cons_succ,List.getElem?_cons_zero,hqn.out] at r4
 refine hK _ _ r4 ?_
 clear hK
 try simp only [Act.put,List.setIfInBounds_toArray,List.set_cons_zero,List.set_cons_succ]
 refine Rn.wpN_tail 9 (by rfl) (by kernel_rfl) (by rfl) ?_
 dsimp only [List.drop]
 have y15:=hB4.frozen 15
 have y14:=hB4.frozen 14
 have r14:=hB4.cell 14
 simp only [grc,List.setIfInBounds_toArray,List.set_cons_zero,List.set_cons_succ,List.getElem?_toArray,List.getElem?_cons_succ,List.getElem?_cons_zero] at r14
 have hP4:=hP3.grown hL3 (fun z hz=>.inr (.inr (.inl ⟨e0,by rw [hqs'.out]; simp,by rw [hA'.out]; exact hz⟩))) hR4 hO4 hA4 (by
  have h1:=hOw.out.size
  have h2:=hO2.out.size
  have h3:=hO3.size
  omega)
 have hQf:∀ z,In a.QA z→gfoot a G z:=fun z q=>.inr (.inr (.inr (.inr (.inr (.inl q)))))
 have hOq:Only (fun x=>mfoot M x∨gfoot a G x) w w4:=(((hOw.out.mono (fun x _ q=>(.inl q:mfoot M x∨gfoot a G x))).trans' hO2.out (fun x _ q=>.inr (.inl q))).trans' hO3 (fun x _ q=>q.elim)).trans' hO4 (fun x _ q=>.inr (hQf x q))
 have hM4:=((hM1.out.only hO2.out (fun x hx e=>hG1.out.far hM1.out (x:=a.f) (.inl rfl) (e▸hx))).only hO3 (by simp)).only hO4 (fun z hz q=>by
  have:=hP3.qr
  exact hG1.out.far hM1.out (x:=z) (hQf z q) hz)
 have hfar:=Lib.hid (hG1.out.far hM1.out (x:=a.f) (.inl rfl))
 replace hM4:=Lib.hid hM4
 replace hOq:=Lib.hid hOq
 replace hP4:=Lib.hid hP4
 replace hB4:=Lib.hid hB4
 clear r15 lf r0 r1 hO3 hP3 hB3 hN1 hL3 hrun hR4 hO4 hA4 hfQ hQf
 have hB5:Own (((w4.setCell ⟨a.f,15,none⟩ (.slice A2 (qn+1) cap2)).setCell ⟨a.f,14,none⟩ (.slice A2 (qn+1) cap2)).setCell ⟨a.f,15,none⟩ (.slice none 0 0)) {a with PA:=A2,pcap:=cap2,ps:=a.qs++[⟨some ⟨b,o+2,none⟩,n,ec-1⟩],QA:=none,qcap:=0,qs:=[]} {G with pass:=G.later++[ls],later:=[]}:=by
  have:=((hB4.out.store 15 (.slice A2 (qn+1) cap2)).store 14 (.slice A2 (qn+1) cap2)).store 15 (.slice none 0 0)
  unfold Own grc
  simp only [List.length_append,List.length_singleton,hqn.out]
  exact this
 have hO5:=Lib.hid (only3 (c:=a.f) w4 15 14 15 (.slice A2 (qn+1) cap2) (.slice A2 (qn+1) cap2) (.slice none 0 0))
 have hWA:=Lib.hid (waitAnew_any hB5)
 clear hB5
 go_wp2_with fail
 refine NoPanic.normal ?_
 go_wp2_with fail
 refine hWA.out.mono ?_
 rintro e w6 ⟨b4,rfl,hB6,hW6,hlb,hO6⟩
 have hE:Hid (grL.Stp w M a G {lm M with ss:=Pu.lnk M.ss x y} (waitNew {G with pass:=G.later++[ls],later:=[]}) w6):=Lib.hid (by
  have hOO:=hO5.out.trans hO6
  have hs:=hOq.out.size
  have hs3:=hO5.out.size
  exact hP4.out.last h8.out (M:=M) (M':={M with ss:=Pu.lnk M.ss x y}) (hM4.out.only hOO (fun x hx e=>hfar.out (e▸hx))) ⟨rfl,rfl,rfl,rfl,fun x q=>.inl q⟩ hB6 hW6 (Nat.le_trans hs (Nat.le_trans hs3 hlb)) (hOq.out.trans' hOO (fun x _ q=>.inr (.inl q))) ⟨_,hB4.out⟩ hOO)
 clear hB6 hW6 hlb hO6 hWA hP4 hO5
 go_wp2_with fail
 go_ret
 exact ⟨rfl,hE.out⟩
theorem part_step (hM:MemAt w M) (h:GrAt w a G) (h8:G.nx=8) {x y k:Nat} {ls:List (Nat×Nat)} {t:List (List (Nat×Nat))} (hp:G.pass=((x,y)::ls)::t) (hlen:G.later.length≤100000) (hx:x≤18446744073709551615) (hk:IsAt M.ss x k):
 Calls Tryz.prog 211 #[ptr a.f,ptr M.m] w fun e w'=>e=.returned (.bool false)∧grL.Stp w M a G {lm M with ss:=Pu.lnk M.ss x y}
  (if t=[] then waitNew {G with pass:=if 1<((x,y)::ls).length then G.later++[ls] else G.later,later:=[]} else {G with pass:=t,later:=if 1<((x,y)::ls).length then G.later++[ls] else G.later}) w':=by
 by_cases hls:ls=[]
 · subst hls
   have h1:¬(1<[(x,y)].length):=by simp
   simp only [if_neg h1]
   by_cases ht:t=[]
   · rw [if_pos ht]
     by_cases hpc:a.pcap=1
     · exact part_none_only hM h h8 hp ht hpc hlen hx hk
     · exact part_none_last hM h h8 hp ht hpc hlen hx hk
   · rw [if_neg ht]
     exact part_none_more hM h h8 hp ht hlen hx hk
 · have h1:1<((x,y)::ls).length:=by
    have:=List.length_pos_iff.2 hls
    simp; omega
   simp only [if_pos h1]
   by_cases ht:t=[]
   · rw [if_pos ht]
     by_cases hpc:a.pcap=1
     · exact part_link_only hM h h8 hp hls ht hpc hlen hx hk
     · exact part_link_last hM h h8 hp hls ht hpc hlen hx hk
   · rw [if_neg ht]
     exact part_link_more hM h h8 hp hls ht hlen hx hk
end
end Go.Proofs.YtkogifmjbmnpgaaGreat.Gw
namespace Go.Proofs.YtkogifmjbmnpgaaGreat.Gw
open Go Go.RowKit Hp K Fl Rw Hm Ar Mm Me Qs Wk Pn
set_option maxRecDepth 100000
def newGro (k:Int):Gr:=⟨k,1,0,(0,0),(0,0),0,0,.new,0,0,⟨0,0,0,0⟩,[],[]⟩
theorem goOn_at {w:World} {f F:Nat} {b:Array Value} {u1 u2:Value} (c1:w.cell? ⟨f,1,none⟩=some u1) (c2:w.cell? ⟨f,2,none⟩=some u2) (z1:w.frozen? ⟨f,1,none⟩=false) (z2:w.frozen? ⟨f,2,none⟩=false):
 Calls Tryz.prog 95 #[ptr f,.func (.func F) b #[]] w fun e w'=>e=.returned (.tuple #[])∧w'=(w.setCell ⟨f,1,none⟩ (wf0 130)).setCell ⟨f,2,none⟩ (.func (.func F) b #[]):=by
 go_enter Tryz.func95,Tryz.ntmps95
 go_wp2
 go_end0
 exact ⟨rfl,rfl⟩
theorem new_grow (k:Int) (w:World):Calls Tryz.prog 59 #[.int .i64 k] w fun e w'=>∃ a:Gl,e=.returned (ptr a.f)∧GrAt w' a (newGro k)∧(∀ x,gfoot a (newGro k) x→w.heap.size≤x)∧Below w.heap.size w w':=by
 obtain ⟨w2,hw2⟩:∃ w2,w2=w.alloc (.cells #[.int .i64 k,.nilFunc,.nilFunc,.int .i64 0,.int .i64 0,.int .i64 0,.int .i64 0,.int .i64 0,.int .i64 0,.int .i64 0,.pointer none,.int .u64 0,.int .i64 0,.pointer none,.slice none 0 0,.slice none 0 0] 159):=⟨_,rfl⟩
 have hF2:Blk w2 w.heap.size 159 #[.int .i64 k,.nilFunc,.nilFunc,.int .i64 0,.int .i64 0,.int .i64 0,.int .i64 0,.int .i64 0,.int .i64 0,.int .i64 0,.pointer none,.int .u64 0,.int .i64 0,.pointer none,.slice none 0 0,.slice none 0 0]:=by rw [hw2]; exact Blk.made w _ _
 have hB2:Below w.heap.size w w2:=by rw [hw2]; exact (Below.refl _ _).alloc (Nat.le_refl _) _
 obtain ⟨f,hf⟩:∃ f,f=w.heap.size:=⟨_,rfl⟩
 rw [← hf] at hF2
 have hfw:w.heap.size≤f:=by omega
 have hgo:=Lib.hid (goOn_at (F:=96) (b:=#[ptr f]) (hF2.cell 1) (hF2.cell 2) (hF2.frozen 1) (hF2.frozen 2))
 have hE:Hid (GrAt ((w2.setCell ⟨f,1,none⟩ (wf0 130)).setCell ⟨f,2,none⟩ (wfm 96 (ptr f))) ⟨f,.pointer none,.pointer none,0,0,none,0,0,none,0,[],none,0,[]⟩ (newGro k)):=Lib.hid
  ⟨(hF2.store 1 (wf0 130)).store 2 (wfm 96 (ptr f)),fun q=>by simp [newGro] at q,fun q=>by simp [newGro] at q,fun q=>by simp [newGro] at q,⟨.nil,.nil,fun _=>Row.nil _ _ _ _,.inl rfl,by simp,Row.nil _ _ _ _,fun b hb=>by simp [In] at hb⟩⟩
 have hlo:Hid (∀ x,gfoot ⟨f,.pointer none,.pointer none,0,0,none,0,0,none,0,[],none,0,[]⟩ (newGro k) x→w.heap.size≤x):=Lib.hid (by
  rintro x (rfl | ⟨q,_⟩ | ⟨q,_⟩ | ⟨q,_⟩ | ⟨_,q⟩ | q | ⟨e,he,_⟩ | ⟨e,he,_⟩)
  · exact hfw
  · simp [newGro] at q
  · simp [newGro] at q
  · simp [newGro] at q
  · simp [In] at q
  · simp [In] at q
  · simp at he
  · simp at he)
 have hB:=Lib.hid ((hB2.setCell (p:=⟨f,1,none⟩) hfw (wf0 130)).setCell (p:=⟨f,2,none⟩) hfw (wfm 96 (ptr f)))
 clear hF2 hB2 hfw
 go_enter Tryz.func59,Tryz.ntmps59
 go_upto_region 2 with (fail)
 rw [← hw2,← hf]
 clear hw2 hf
 go_wp2_with fail
 refine hgo.out.mono ?_
 rintro e w1 ⟨rfl,hw1⟩
 rw [← hw1] at hE hB
 clear hw1 hgo
 go_wp2_with fail
 go_ret
 exact ⟨_,rfl,hE.out,hlo.out,hB.out⟩
structure Okgr (L:Lm) (G:Gr):Prop where
 nx:1≤G.nx∧G.nx≤8
 x1:1<L.xs.length
 hl:0<L.hs.length
 ds:L.ds.length≤900000
 el:G.nx≠1→G.el.1≤65536∧G.el.2≤4000000
 bk:G.bucket≤1000000
 pass:G.pass.length≤100000∧G.later.length≤100000
 later:G.nx=3→G.later=[]
 c3:G.nx=3→G.el.2+G.bucket<L.xs.length
 c4:G.nx=4→Okr L G
 c5:G.nx=5→G.half≤1∧G.nw.2+(G.bucket+G.half*G.el.1)<L.xs.length∧sel G.C.fi G.half≤18446744073709551615∧G.nw.2≤4000000
 c6:G.nx=6→0≤G.num∧G.num≤1000000
 c7:G.nx=7→0≤L.k∧Qs.Okw L.k.toNat L.xs L.hs G.W
 c8:G.nx=8→∃ x y ls t k,G.pass=((x,y)::ls)::t∧x≤18446744073709551615∧IsAt L.ss x k
theorem gstep_fm {w:World} {F f:Nat} {cv m:Value} {c:Bool} {P:World→Prop} (c2:w.cell? ⟨f,2,none⟩=some (wfm F cv)) (eF:∀ args w,(callFunc F args).run Tryz.prog w=.ok (.enter F args) w)
 (hF:Calls Tryz.prog F #[cv,m] w fun e w'=>e=.returned (.bool c)∧P w'):Calls Tryz.prog 247 #[ptr f,m] w fun e w'=>e=.returned (.bool c)∧P w':=by
 replace hF:=Lib.hid hF
 go_enter Tryz.func247,Tryz.ntmps247
 go_wp2_with fail
 refine hF.out.mono ?_
 rintro e w' ⟨rfl,hPw⟩
 replace hPw:=Lib.hid hPw
 clear c2
 go_wp2_with fail
 go_ret
 exact ⟨rfl,hPw.out⟩
theorem gready_f0 {w:World} {f:Nat} {m:Value} (c1:w.cell? ⟨f,1,none⟩=some (wf0 130)):Calls Tryz.prog 246 #[ptr f,m] w fun e w'=>e=.returned (.bool true)∧Below w.heap.size w w':=by
 have eF:∀ args w,(callFunc 130 args).run Tryz.prog w=.ok (.enter 130 args) w:=fun _ _=>by kernel_rfl
 have hA:=Lib.hid (always_any m w)
 go_enter Tryz.func246,Tryz.ntmps246
 go_wp2_with fail
 refine hA.out.mono ?_
 rintro e w' ⟨rfl,hw⟩
 obtain rfl:w=w':=hw.symm
 clear hA c1
 go_wp2_with fail
 go_ret
 exact ⟨rfl,Below.refl _ _⟩
theorem gready_fm {w:World} {F f:Nat} {cv m:Value} {c:Bool} (c1:w.cell? ⟨f,1,none⟩=some (wfm F cv)) (eF:∀ args w,(callFunc F args).run Tryz.prog w=.ok (.enter F args) w)
 (hF:Calls Tryz.prog F #[cv,m] w fun e w'=>e=.returned (.bool c)∧∃ n,w'=w.drewN n):Calls Tryz.prog 246 #[ptr f,m] w fun e w'=>e=.returned (.bool c)∧Below w.heap.size w w':=by
 replace hF:=Lib.hid hF
 go_enter Tryz.func246,Tryz.ntmps246
 go_wp2_with fail
 refine hF.out.mono ?_
 rintro e w' ⟨rfl,n,rfl⟩
 clear c1
 go_wp2_with fail
 go_ret
 exact ⟨rfl,rfl,rfl,rfl,Nat.le_refl _,fun _ _=>rfl⟩
theorem enters_g1 (args:Array Value) (w:World):(callFunc 96 args).run Tryz.prog w=.ok (.enter 96 args) w:=by kernel_rfl
theorem enters_g2 (args:Array Value) (w:World):(callFunc 131 args).run Tryz.prog w=.ok (.enter 131 args) w:=by kernel_rfl
theorem enters_g3 (args:Array Value) (w:World):(callFunc 155 args).run Tryz.prog w=.ok (.enter 155 args) w:=by kernel_rfl
theorem enters_g4 (args:Array Value) (w:World):(callFunc 184 args).run Tryz.prog w=.ok (.enter 184 args) w:=by kernel_rfl
theorem enters_g5 (args:Array Value) (w:World):(callFunc 199 args).run Tryz.prog w=.ok (.enter 199 args) w:=by kernel_rfl
theorem enters_g6 (args:Array Value) (w:World):(callFunc 200 args).run Tryz.prog w=.ok (.enter 200 args) w:=by kernel_rfl
theorem enters_g7 (args:Array Value) (w:World):(callFunc 206 args).run Tryz.prog w=.ok (.enter 206 args) w:=by kernel_rfl
theorem enters_g8 (args:Array Value) (w:World):(callFunc 211 args).run Tryz.prog w=.ok (.enter 211 args) w:=by kernel_rfl
theorem enters_gw (args:Array Value) (w:World):(callFunc 204 args).run Tryz.prog w=.ok (.enter 204 args) w:=by kernel_rfl
section
variable {w w':World} {M:Mo} {a:Gl} {G:Gr}
theorem gro_ready (hM:MemAt w M) (h:GrAt w a G) (ok:Okgr (lm M) G):Calls Tryz.prog 246 #[ptr a.f,ptr M.m] w fun e w'=>e=.returned (.bool (gready (lm M) G))∧Below w.heap.size w w':=by
 have c1:=(own_hd h.blk).2.1
 unfold grv at c1
 unfold gready
 by_cases h7:G.nx=7
 · rw [if_pos h7] at c1 ⊢
   obtain ⟨o1,o2⟩:=ok.c7 h7
   have hp:=o2.passed
   have hx:M.k.toNat+2≤M.xs.length:=o2.xl
   have hp2:G.W.at_≤2→G.W.passed<M.k.toNat:=hp.2
   exact gready_fm c1 enters_gw (Qs.ready_any hM (h.wt h7).2 o2.hl (fun q=>by have:=hp2 (by omega); exact ⟨by omega,by omega⟩) (by have:=o2.at_; omega))
 · rw [if_neg h7] at c1 ⊢
   exact gready_f0 c1
theorem gro_step (hM:MemAt w M) (h:GrAt w a G) (ok:Okgr (lm M) G) (hr:gready (lm M) G=true):
 Calls Tryz.prog 247 #[ptr a.f,ptr M.m] w fun e w'=>e=.returned (.bool (gdone (lm M) G))∧grL.Stp w M a G (gstep (lm M) G).1 (gstep (lm M) G).2 w':=by
 have c2:=(own_hd h.blk).2.2.1
 unfold gnv at c2
 have hnx:=ok.nx
 have hbk:=ok.bk
 by_cases e1:G.nx=1
 · rw [if_pos e1] at c2
   rw [show gdone (lm M) G=false by unfold gdone; rw [if_neg (by omega),if_neg (by omega)]; simp; omega]
   exact gstep_fm c2 enters_g1 (load_step hM h ok.x1 e1)
 rw [if_neg e1] at c2
 obtain ⟨el1,el2⟩:=ok.el e1
 by_cases e2:G.nx=2
 · rw [if_pos e2] at c2
   have ed:gdone (lm M) G= !decide (FM.power ((2*G.el.1:Nat):Int)=true∧M.xs.length+2*G.el.1≤1048576):=by unfold gdone; rw [if_pos e2]
   by_cases hp:FM.power ((2*G.el.1:Nat):Int)=true∧M.xs.length+2*G.el.1≤1048576
   · have es:gstep (lm M) G=({lm M with xs:=M.xs++List.replicate (2*G.el.1) 0,ds:=M.ds++[(2*G.el.1,M.xs.length)]},{G with num:=M.ds.length,err:=0,nw:=(2*G.el.1,M.xs.length),nx:=3}):=by
      unfold gstep; rw [if_neg e1,if_pos e2,if_pos hp]
     rw [ed,es,show (!decide (FM.power ((2*G.el.1:Nat):Int)=true∧M.xs.length+2*G.el.1≤1048576))=false by simp only [decide_eq_true hp]; rfl]
     exact gstep_fm c2 enters_g2 (table_made hM h e2 el1 ok.ds hp.1 hp.2)
   · have es:gstep (lm M) G=(lm M,{G with num:= -1,err:=if FM.power ((2*G.el.1:Nat):Int)=true then 2 else 5,nx:=9}):=by
      unfold gstep; rw [if_neg e1,if_pos e2,if_neg hp]
     rw [ed,es,show (!decide (FM.power ((2*G.el.1:Nat):Int)=true∧M.xs.length+2*G.el.1≤1048576))=true by simp only [decide_eq_false hp]; rfl]
     exact gstep_fm c2 enters_g2 (table_fails hM h e2 el1 hp)
 rw [if_neg e2] at c2
 by_cases e3:G.nx=3
 · rw [if_pos e3] at c2
   rw [show gdone (lm M) G=false by unfold gdone; rw [if_neg (by omega),if_neg (by omega)]; simp; omega]
   have es:gstep (lm M) G=(lm M,comeTo {G with C:=.new} (Cl.nth M.xs (G.el.2+G.bucket)).toNat):=by unfold gstep; rw [if_neg e1,if_neg e2,if_pos e3]
   rw [es]
   exact gstep_fm c2 enters_g3 (loadCell_step hM h e3 (ok.c3 e3) el2 (ok.later e3) ok.pass.1 hbk (by omega))
 rw [if_neg e3] at c2
 by_cases e4:G.nx=4
 · rw [if_pos e4] at c2
   rw [show gdone (lm M) G=false by unfold gdone; rw [if_neg (by omega),if_neg (by omega)]; simp; omega]
   have es:gstep (lm M) G=(lm M,comeTo {G with C:=G.C.add G.at_ (hfs G (at' M.ss ((G.at_-1) % 65536)).nd.sum)} (at' M.ss ((G.at_-1) % 65536)).nd.next.toNat):=by unfold gstep; rw [if_neg e1,if_neg e2,if_neg e3,if_pos e4]
   rw [es]
   exact gstep_fm c2 enters_g4 (read_step hM h (ok.c4 e4) e4)
 rw [if_neg e4] at c2
 by_cases e5:G.nx=5
 · rw [if_pos e5] at c2
   rw [show gdone (lm M) G=false by unfold gdone; rw [if_neg (by omega),if_neg (by omega)]; simp; omega]
   have es:gstep (lm M) G=({lm M with xs:=M.xs.set (G.nw.2+(G.bucket+G.half*G.el.1)) ((sel G.C.fi G.half:Nat):Int)},toStore {G with half:=G.half+1}):=by unfold gstep; rw [if_neg e1,if_neg e2,if_neg e3,if_neg e4,if_pos e5]
   rw [es]
   obtain ⟨o1,o2,o3,o4⟩:=ok.c5 e5
   exact gstep_fm c2 enters_g5 (store_step hM h e5 o1 o2 o3 hbk (by omega) o4)
 rw [if_neg e5] at c2
 by_cases e6:G.nx=6
 · rw [if_pos e6] at c2
   rw [show gdone (lm M) G=false by unfold gdone; rw [if_neg (by omega),if_neg (by omega)]; simp; omega]
   have es:gstep (lm M) G=({lm M with xs:=M.xs.set 1 G.num},waitNew G):=by unfold gstep; rw [if_neg e1,if_neg e2,if_neg e3,if_neg e4,if_neg e5,if_pos e6]
   rw [es]
   exact gstep_fm c2 enters_g6 (count_step hM h e6 ok.x1 (ok.c6 e6))
 rw [if_neg e6] at c2
 by_cases e7:G.nx=7
 · rw [if_pos e7] at c2
   have ed:gdone (lm M) G=decide (G.W.at_=3∧G.pass=[]):=by unfold gdone; rw [if_neg (by omega),if_pos e7]
   have es:gstep (lm M) G=({lm M with xs:=(wstep M.k.toNat M.xs M.hs G.W).1,hs:=(wstep M.k.toNat M.xs M.hs G.W).2.1},{G with W:=(wstep M.k.toNat M.xs M.hs G.W).2.2,nx:=if G.W.at_=3 then (if G.pass=[] then 9 else 8) else 7}):=by
    unfold gstep; rw [if_neg e1,if_neg e2,if_neg e3,if_neg e4,if_neg e5,if_neg e6,if_pos e7]
   rw [ed,es]
   obtain ⟨o1,o2⟩:=ok.c7 e7
   unfold gready at hr
   rw [if_pos e7] at hr
   exact gstep_fm c2 enters_g7 (waitOn_step hM h e7 (n:=M.k.toNat) (by have:0≤M.k:=o1; omega) o2 hr)
 rw [if_neg e7] at c2
 have e8:G.nx=8:=by omega
 rw [if_pos e8] at c2
 rw [show gdone (lm M) G=false by unfold gdone; rw [if_neg (by omega),if_neg (by omega)]; simp; omega]
 obtain ⟨x,y,ls,t,k,hp,hx,hk⟩:=ok.c8 e8
 have es:gstep (lm M) G=({lm M with ss:=Pu.lnk M.ss x y},if t=[] then waitNew {G with pass:=if 1<((x,y)::ls).length then G.later++[ls] else G.later,later:=[]} else {G with pass:=t,later:=if 1<((x,y)::ls).length then G.later++[ls] else G.later}):=by
  unfold gstep; rw [if_neg e1,if_neg e2,if_neg e3,if_neg e4,if_neg e5,if_neg e6,if_neg e7,hp]
  rfl
 rw [es]
 exact gstep_fm c2 enters_g8 (part_step hM h e8 hp ok.pass.2 hx hk)
end
theorem gro_frm:Frm grL 124 246 247 Okgr gready gstep gdone where
 below h hb:=h.below hb
 mr b w f:=by kernel_rfl
 ms b w f:=by kernel_rfl
 er args w:=by kernel_rfl
 es args w:=by kernel_rfl
 ready hM h ok:=gro_ready hM h ok
 step hM h ok hr:=gro_step hM h ok hr
end Go.Proofs.YtkogifmjbmnpgaaGreat.Gw
