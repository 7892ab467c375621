/- Walks and plain mathematics, put together in their order: ShrC, RegN, RowRun, ShrD, ShrE, ShrF, ShrG, ZipA, WayA, WayC, ZipB. -/
import Derived.Test.YtpobbnllcoabhaaGreatPart3
import Derived.Deep.DeepCutAuto
import Derived.Deep.RegionHeld3
import Derived.OrdersHeld
import Derived.StillTail
import Derived.Test.YtpobbnllcoabhaaGreatRowKit
import Derived.Test.YtpobbnllcoabhaaGreatGetD
import Derived.Test.YtpobbnllcoabhaaGreatLm
import Derived.Test.YtpobbnllcoabhaaGreatQsbrD
set_option linter.unusedVariables false
set_option linter.unusedSimpArgs false
namespace Go.Proofs.YtpobbnllcoabhaaGreat.Sw
open Go Go.RowKit Hp K Fl Rw Hm Ar Mm Me Qs Wk Pn
set_option maxRecDepth 100000
section
variable {w w':World} {M:Mo} {a:Sc} {G:Sh}
theorem stp_same {S:Nat→Prop} {a':Sc} {G':Sh} (hM:MemAt w M) (hG:ShAt w' a' G') (hf:a'.f=a.f) (hfo:∀ x,sfoot a' G' x→sfoot a G x∨w.heap.size≤x) (h:ShAt w a G) (hO:Only S w w') (hS:∀ x,S x→sfoot a G x):shL.Stp w M a G (lm M) G' w':=
 ⟨M,a',hM.only hO (fun x hx hs=>h.far hM (hS x hs) hx),rfl,Kin.refl _ _,hG,hf,hfo,hO.mono (fun x _ q=>.inr (hS x q))⟩
theorem ShAt.plain (hB:Own w' a G) (hn:G.nx≠5∧G.nx≠9):ShAt w' a G:=⟨hB,fun q=>absurd q hn.1,fun q=>absurd q hn.2⟩
theorem sfoot_plain {G':Sh} (hn:G'.nx≠5∧G'.nx≠9) {k:Nat} (x:Nat) (hx:sfoot a G' x):sfoot a G x∨k≤x:=by
 rcases hx with rfl | ⟨q,_⟩ | ⟨q,_⟩
 · exact .inl (.inl rfl)
 · exact absurd q hn.1
 · exact absurd q hn.2
set_option maxHeartbeats 2000000 in
theorem load_step (hM:MemAt w M) (h:ShAt w a G) (hx:1<M.xs.length) (h1:G.nx=1):Calls Tryz.prog 96 #[ptr a.f,ptr M.m] w fun e w'=>e=.returned (.bool false)∧shL.Stp w M a G (sstep (lm M) G).1 (sstep (lm M) G).2 w':=by
 have hN:=Lib.hid (now_any hM hx)
 unfold sstep
 rw [if_pos h1]
 show Calls _ _ _ _ fun e w'=>_∧shL.Stp w M a G (lm M) {G with el:=now M.xs M.ds,nx:=2} w'
 generalize now M.xs M.ds=d at*
 unfold dv at hN
 have HM:=Lib.hid hM
 have HG:=Lib.hid h
 clear hM h
 go_enter Tryz.func96,Tryz.ntmps96
 go_wp2_with fail
 refine hN.out.mono ?_
 rintro e w1 ⟨rfl,hB1⟩
 have hG1:=HG.out.below hB1
 have c4:=hG1.blk.cell 4
 have c5:=hG1.blk.cell 5
 have z4:=hG1.blk.frozen 4
 have z5:=hG1.blk.frozen 5
 simp only [shc,List.getElem?_toArray,List.getElem?_cons_succ,List.getElem?_cons_zero] at c4 c5
 have hB2:Own ((w1.setCell ⟨a.f,4,none⟩ (.int .i64 d.1)).setCell ⟨a.f,5,none⟩ (.int .i64 d.2)) a {G with el:=d}:=(hG1.blk.store 4 (.int .i64 d.1)).store 5 (.int .i64 d.2)
 have hO2:=only2 (c:=a.f) w1 4 5 (.int .i64 d.1) (.int .i64 d.2)
 have hGo:=Lib.hid (goOn_any hB2 (n:=2) (by omega) rfl)
 have hO3:=Lib.hid ((Only.ofBelow hB1 (·=a.f)).trans hO2)
 clear hB2 hO2 hN hB1
 replace hG1:=Lib.hid hG1
 go_wp2_with fail
 refine hGo.out.mono ?_
 rintro e w3 ⟨rfl,hB3,hO4⟩
 have hE:Hid (shL.Stp w M a G (lm M) {G with el:=d,nx:=2} w3):=Lib.hid
  (stp_same HM.out (a':=a) (ShAt.plain hB3 (by simp)) rfl (sfoot_plain (by simp)) HG.out (hO3.out.trans hO4) (fun x q=>.inl q))
 clear hB3 hO4 hGo c4 c5 z4 z5
 go_wp2_with fail
 go_ret
 exact ⟨rfl,hE.out⟩
theorem half_tdiv (n:Nat):(n:Int).tdiv 2=((n / 2:Nat):Int):=by
 rw [Int.tdiv_eq_ediv_of_nonneg (by omega)]
 omega
set_option maxHeartbeats 2000000 in
theorem table_fails (hM:MemAt w M) (h:ShAt w a G) (he:G.el.1≤65536) (hp:¬(FM.power ((G.el.1 / 2:Nat):Int)=true∧M.xs.length+G.el.1 / 2≤1048576)):
 Calls Tryz.prog 124 #[ptr a.f,ptr M.m] w fun e w'=>e=.returned (.bool true)∧shL.Stp w M a G (lm M) {G with num:= -1,err:=if FM.power ((G.el.1 / 2:Nat):Int)=true then 2 else 5,nx:=10} w':=by
 obtain ⟨n2,hn2⟩:∃ n,n=G.el.1 / 2:=⟨_,rfl⟩
 have hd:=half_tdiv G.el.1
 rw [← hn2] at hp hd ⊢
 obtain ⟨c,hc,hcv,hT⟩:∃ c:Int,(c != 0)=true∧c=(if FM.power (n2:Int)=true then 2 else 5)∧Calls Tryz.prog 50 #[ptr M.m,.int .i64 (n2:Int)] w fun e w'=>e=.returned (.tuple #[.int .i64 (-1),.int .i64 c])∧w=w':=by
  cases hpw:FM.power (n2:Int) with
  | true=>
    refine ⟨2,rfl,by simp,table_full hM _ (by omega) (by omega) hpw ?_⟩
    have:¬M.xs.length+n2≤1048576:=fun q=>hp ⟨hpw,q⟩
    omega
  | false=>exact ⟨5,rfl,by simp,table_no hM _ (by omega) (by omega) hpw⟩
 rw [← hcv]
 have hw2:IntKind.i64.wrap (n2:Int)=n2:=IntWalk.i64_in _ (by omega)
 replace hT:=Lib.hid hT
 have c3:=h.blk.cell 3
 have c4:=h.blk.cell 4
 have c8:=h.blk.cell 8
 have z3:=h.blk.frozen 3
 have z8:=h.blk.frozen 8
 simp only [shc,List.getElem?_toArray,List.getElem?_cons_succ,List.getElem?_cons_zero] at c3 c4 c8
 have hB2:Own ((w.setCell ⟨a.f,8,none⟩ (.int .i64 (-1))).setCell ⟨a.f,3,none⟩ (.int .i64 c)) a {G with num:= -1,err:=c}:=(h.blk.store 8 (.int .i64 (-1))).store 3 (.int .i64 c)
 have hO2:=Lib.hid (only2 (c:=a.f) w 8 3 (.int .i64 (-1)) (.int .i64 c))
 have hE:=Lib.hid (goOn_any hB2 (n:=10) (by omega) rfl)
 have HM:=Lib.hid hM
 have HG:=Lib.hid h
 clear hM h hB2 hp hcv
 replace hn2:=Lib.hid hn2
 go_enter Tryz.func124,Tryz.ntmps124
 go_wp2_with fail
 refine hT.out.mono ?_
 rintro e w1 ⟨rfl,hw⟩
 obtain rfl:w=w1:=hw
 clear hT
 go_wp2_with fail
 refine hE.out.mono ?_
 rintro e w2 ⟨rfl,hB3,hO3⟩
 have hS:Hid (shL.Stp w M a G (lm M) {G with num:= -1,err:=c,nx:=10} w2):=Lib.hid
  (stp_same HM.out (a':=a) (ShAt.plain hB3 (by simp)) rfl (sfoot_plain (by simp)) HG.out (hO2.out.trans hO3) (fun x q=>.inl q))
 clear hB3 hO3 hE c3 c4 c8 z3 z8
 go_wp2_with fail
 go_ret
 exact ⟨rfl,hS.out⟩
theorem kin_tabled {A' T':Option Addr} {cap' capT':Nat} {xs':List Int} {ds':List (Nat×Nat)} (hA:∀ x,In A' x→In M.A x∨w.heap.size≤x) (hT:∀ x,In T' x→In M.T x∨w.heap.size≤x):Kin w M {M with A:=A',cap:=cap',xs:=xs',T:=T',capT:=capT',ds:=ds'}:=by
 refine ⟨rfl,rfl,rfl,rfl,?_⟩
 rintro x (q | q | q | q | q | q)
 · exact .inl (.inl q)
 · rcases q with q | q
   · exact .inl (.inr (.inl (.inl q)))
   · rcases hA x q with q | q
     · exact .inl (.inr (.inl (.inr q)))
     · exact .inr q
 · exact .inl (.inr (.inr (.inl q)))
 · exact .inl (.inr (.inr (.inr (.inl q))))
 · rcases hT x q with q | q
   · exact .inl (.inr (.inr (.inr (.inr (.inl q)))))
   · exact .inr q
 · exact .inl (.inr (.inr (.inr (.inr (.inr q)))))
set_option maxHeartbeats 2000000 in
theorem table_made (hM:MemAt w M) (h:ShAt w a G) (he:G.el.1≤65536) (hds:M.ds.length≤900000) (hp:FM.power ((G.el.1 / 2:Nat):Int)=true) (hx:M.xs.length+G.el.1 / 2≤1048576):
 Calls Tryz.prog 124 #[ptr a.f,ptr M.m] w fun e w'=>e=.returned (.bool false)∧shL.Stp w M a G {lm M with xs:=M.xs++List.replicate (G.el.1 / 2) 0,ds:=M.ds++[(G.el.1 / 2,M.xs.length)]} {G with num:=M.ds.length,err:=0,nw:=(G.el.1 / 2,M.xs.length),nx:=3} w':=by
 have hT:=table_ok hM (G.el.1 / 2) hp hx (by omega)
 replace hT:=Lib.hid hT
 have c4:=h.blk.cell 4
 simp only [shc,List.getElem?_toArray,List.getElem?_cons_succ,List.getElem?_cons_zero] at c4
 have HM:=Lib.hid hM
 have HG:=Lib.hid h
 have hd:=half_tdiv G.el.1
 obtain ⟨dn,hdn⟩:∃ n,n=M.ds.length:=⟨_,rfl⟩
 obtain ⟨xn,hxn⟩:∃ n,n=M.xs.length:=⟨_,rfl⟩
 obtain ⟨n2,hn2⟩:∃ n,n=G.el.1 / 2:=⟨_,rfl⟩
 rw [← hdn] at hds
 rw [← hn2] at hd
 have hw2:IntKind.i64.wrap (n2:Int)=n2:=IntWalk.i64_in _ (by omega)
 simp only [← hdn,← hxn,← hn2] at hT ⊢
 replace hdn:=Lib.hid hdn
 replace hxn:=Lib.hid hxn
 replace hn2:=Lib.hid hn2
 clear hM h hp hx
 go_enter Tryz.func124,Tryz.ntmps124
 go_wp2_with fail
 refine hT.out.mono ?_
 rintro e w1 ⟨rfl,A',cap',T',capT',hM1,hO1,hA1,hT1⟩
 have hG1:=HG.out.only hO1 (fun x hx q=>HG.out.far HM.out hx q)
 have d3:=hG1.blk.cell 3
 have d8:=hG1.blk.cell 8
 have y3:=hG1.blk.frozen 3
 have y8:=hG1.blk.frozen 8
 simp only [shc,List.getElem?_toArray,List.getElem?_cons_succ,List.getElem?_cons_zero] at d3 d8
 have hB2:Own ((w1.setCell ⟨a.f,8,none⟩ (.int .i64 dn)).setCell ⟨a.f,3,none⟩ (.int .i64 0)) a {G with num:=dn,err:=0}:=(hG1.blk.store 8 (.int .i64 dn)).store 3 (.int .i64 0)
 have hO2:=only2 (c:=a.f) w1 8 3 (.int .i64 dn) (.int .i64 0)
 have hfar:=hG1.far hM1 (x:=a.f) (.inl rfl)
 have hM2:=hM1.only hO2 (fun x hx e=>hfar (e▸hx))
 have hD:=desc_in hM2 dn (by rw [hdn.out]; simp)
 have htab:tab (M.ds++[(n2,M.xs.length)]) dn=(n2,xn):=by unfold tab; rw [hdn.out,hxn.out]; simp
 rw [htab] at hD
 unfold dv at hD
 replace hD:=Lib.hid hD
 have k8:=hB2.cell 8
 have k3:=hB2.cell 3
 simp only [shc,List.getElem?_toArray,List.getElem?_cons_succ,List.getElem?_cons_zero] at k3 k8
 replace hB2:=Lib.hid hB2
 replace hO2:=Lib.hid hO2
 replace hM2:=Lib.hid hM2
 replace hO1:=Lib.hid hO1
 replace hfar:=Lib.hid hfar
 have hK:=Lib.hid (kin_tabled (w:=w) (M:=M) (cap':=cap') (capT':=capT') (xs':=M.xs++List.replicate n2 0) (ds':=M.ds++[(n2,M.xs.length)]) hA1 hT1)
 clear hT c4 hM1 hA1 hT1 htab hG1
 go_wp2_with fail
 refine hD.out.mono ?_
 rintro e w3 ⟨rfl,hb3⟩
 have hB3:=hB2.out.only (Only.ofBelow hb3 (fun _=>False)) (by simp)
 have p6:=hB3.cell 6
 have p7:=hB3.cell 7
 have q6:=hB3.frozen 6
 have q7:=hB3.frozen 7
 simp only [shc,List.getElem?_toArray,List.getElem?_cons_succ,List.getElem?_cons_zero] at p6 p7
 have hB4:Own ((w3.setCell ⟨a.f,6,none⟩ (.int .i64 n2)).setCell ⟨a.f,7,none⟩ (.int .i64 xn)) a {G with num:=dn,err:=0,nw:=(n2,xn)}:=(hB3.store 6 (.int .i64 n2)).store 7 (.int .i64 xn)
 have hO4:=only2 (c:=a.f) w3 6 7 (.int .i64 n2) (.int .i64 xn)
 have hO34:=(Only.ofBelow hb3 (·=a.f)).trans hO4
 have hGo:=Lib.hid (goOn_any hB4 (n:=3) (by omega) rfl)
 replace hO34:=Lib.hid hO34
 clear hb3 hB3 hB4 hO4 hD k3 k8 d3 d8 y3 y8
 go_wp2_with fail
 refine hGo.out.mono ?_
 rintro e w5 ⟨rfl,hB5,hO5⟩
 have hO25:=hO34.out.trans hO5
 have hO15:=hO2.out.trans hO25
 have hS:Hid (shL.Stp w M a G {lm M with xs:=M.xs++List.replicate n2 0,ds:=M.ds++[(n2,xn)]} {G with num:=dn,err:=0,nw:=(n2,xn),nx:=3} w5):=Lib.hid (by
  have hOa:Only (fun x=>mfoot M x∨sfoot a G x) w w5:=(hO1.out.mono (fun x _ q=>.inl q)).trans' hO15 (fun x _ q=>.inr (.inl q))
  exact ⟨_,a,hM2.out.only hO25 (fun x hx e=>hfar.out (e▸hx)),by rw [hxn.out],hK.out,ShAt.plain hB5 (by simp),rfl,sfoot_plain (by simp),hOa⟩)
 clear hB5 hO5 hO15 hO25 hGo
 go_wp2_with fail
 go_ret
 exact ⟨rfl,hS.out⟩
set_option maxHeartbeats 2000000 in
theorem begin_any (hM:MemAt w M) (h:Own w a G) (k:Nat) (hk:k≤2000000) (hx:G.el.2+k<M.xs.length) (he:G.el.2≤4000000):
 Calls Tryz.prog 175 #[ptr a.f,ptr M.m,.int .i64 k] w fun e w'=>e=.returned (.int .u64 ((Cl.nth M.xs (G.el.2+k)).toNat:Int))∧∃ n,w'=w.drewN n:=by
 have hL:=fun n=>Cl.load_in (hM.drewN n).2.1 (G.el.2+k) hx
 have hbd:=Cl.getD_bd hM.2.1.2.2.1 (G.el.2+k)
 obtain ⟨z,hz⟩:=Int.eq_ofNat_of_zero_le hbd.1
 rw [hz] at hL ⊢
 rw [Int.toNat_natCast]
 have e2:((G.el.2+k:Nat):Int)=(G.el.2:Int)+(k:Int):=by omega
 rw [e2] at hL
 replace hL:=Lib.hid hL
 have d0:=hM.hd.1
 have c5:=h.cell 5
 simp only [shc,List.getElem?_toArray,List.getElem?_cons_succ,List.getElem?_cons_zero] at c5
 have ew:IntKind.i64.wrap ((G.el.2:Int)+(k:Int))=(G.el.2:Int)+(k:Int):=IntWalk.i64_in _ (by omega)
 clear hM h hz hbd hx e2
 go_enter Tryz.func175,Tryz.ntmps175
 go_wp2_with fail
 go_quiet ((go_at_call 54; exact Calls.quiet_of_same ((hL.out _).mono fun _ _ h=>⟨h.1,h.2⟩)))
 clear hL d0 c5
 go_wp2_with fail
 go_ret
 exact ⟨rfl,_,rfl⟩
set_option maxHeartbeats 2000000 in
theorem loadFirst_step (hM:MemAt w M) (h:ShAt w a G) (hx:G.el.2+G.bucket<M.xs.length) (he:G.el.2≤4000000) (hb:G.bucket≤1000000):
 Calls Tryz.prog 153 #[ptr a.f,ptr M.m] w fun e w'=>e=.returned (.bool false)∧shL.Stp w M a G (lm M) {G with fi:=(Cl.nth M.xs (G.el.2+G.bucket)).toNat,nx:=4} w':=by
 have hBg:=Lib.hid (begin_any hM h.blk G.bucket (by omega) hx he)
 have c9:=h.blk.cell 9
 simp only [shc,List.getElem?_toArray,List.getElem?_cons_succ,List.getElem?_cons_zero] at c9
 have HM:=Lib.hid hM
 have HG:=Lib.hid h
 generalize (Cl.nth M.xs (G.el.2+G.bucket)).toNat=z at*
 clear hM h
 go_enter Tryz.func153,Tryz.ntmps153
 go_wp2_with fail
 refine hBg.out.mono ?_
 rintro e w1 ⟨rfl,n,hw⟩
 have hG1:Own w1 a G:=by rw [hw]; exact Blk.only HG.out.blk ((Only.refl (fun _=>False) w).drewN n) (by simp)
 have hO1:Only (·=a.f) w w1:=by rw [hw]; exact (Only.refl _ w).drewN n
 clear hw hBg c9
 have d10:=hG1.cell 10
 have y10:=hG1.frozen 10
 simp only [shc,List.getElem?_toArray,List.getElem?_cons_succ,List.getElem?_cons_zero] at d10
 have hB2:Own (w1.setCell ⟨a.f,10,none⟩ (.int .u64 z)) a {G with fi:=z}:=hG1.store 10 (.int .u64 z)
 have hGo:=Lib.hid (goOn_any hB2 (n:=4) (by omega) rfl)
 have hO2:=Lib.hid (hO1.trans (only1 (c:=a.f) w1 10 (.int .u64 z)))
 clear hG1 hO1 hB2
 go_wp2_with fail
 refine hGo.out.mono ?_
 rintro e w3 ⟨rfl,hB3,hO4⟩
 have hE:Hid (shL.Stp w M a G (lm M) {G with fi:=z,nx:=4} w3):=Lib.hid
  (stp_same HM.out (a':=a) (ShAt.plain hB3 (by simp)) rfl (sfoot_plain (by simp)) HG.out (hO2.out.trans hO4) (fun x q=>.inl q))
 clear hB3 hO4 hGo d10 y10
 go_wp2_with fail
 go_ret
 exact ⟨rfl,hE.out⟩
end
end Go.Proofs.YtpobbnllcoabhaaGreat.Sw
namespace Go.Proofs.YtpobbnllcoabhaaGreat.Rn
open Go
def wpN (P:Program) (md:Region.Mode) (ops:Array Oper) (Q:Exit→Act→World→Prop) (S:World→Prop) (till:Nat→Bool):Nat→Array Bool→Act→World→Prop
 | 0,listed,a,w=>Region.ready md ops listed=[]∧Q .normal a w
 | f+1,listed,a,w=>(Region.ready md ops listed=[]→Q .normal a w)∧
    ∀ i∈Region.ready md ops listed,wpOp P ops Q i (fun a' w'=>(till i=true∧wpAny P md ops Q f (listed.setIfInBounds i true) a' w')∨(till i=false∧S w'∧wpN P md ops Q S till f (listed.setIfInBounds i true) a' w')) a w
section
variable {P:Program} {ops:Array Oper} {Q:Exit→Act→World→Prop} {md:Region.Mode} {S:World→Prop} {till:Nat→Bool}
theorem wpN_any:∀ (f:Nat) (listed:Array Bool) (a:Act) (w:World),wpN P md ops Q S till f listed a w→wpAny P md ops Q f listed a w
 | 0,_,_,_,h=>h
 | f+1,_,_,_,h=>⟨h.1,fun i hi=>wpOp_mono (fun a' w' h'=>by
    rcases h' with ⟨_,h'⟩ | ⟨_,_,h'⟩
    · exact h'
    · exact wpN_any f _ a' w' h') (h.2 i hi)⟩
theorem wpN_first {i:Nat} {oi:Oper} {v:Value} (hi:ops[i]?=some oi) (hsel:∀ (j:Nat) (o:Oper) cs b,ops[j]?=some o→o.op≠.select cs b)
 (hQ:∀ c a w,Q (.panic c) (a.put oi.dst v) w→Q (.panic c) a w) (hti:till i=false) (htw:∀ j,till j=true→Region.waitsFor md ops j i=true):
 ∀ (f:Nat) (listed:Array Bool) (a:Act) (w:World),
   (∀ j oj,ops[j]?=some oj→j≠i→listed.getD j true=false→(∀ e∈oj.after,Region.binds md e=true→e.on≠i)→oi.apart ops oj=true)→
   i∈Region.ready md ops listed→YieldsIf P ops S oi v a→S w→
   wpN P md ops Q S till f (listed.setIfInBounds i true) (a.put oi.dst v) w→wpN P md ops Q S till (f+1) listed a w:=by
 intro f
 induction f with
 | zero=>
   intro listed a w _ hr hy hS H
   refine ⟨fun h=>absurd hr (by rw [h]; simp),fun j hj=>?_⟩
   by_cases hji:j=i
   · rw [hji]
     exact hy.wpOp hi hS (.inr ⟨hti,hS,H⟩)
   · have h0:=ready_mono hj hji
     rw [H.1] at h0
     simp at h0
 | succ f ih=>
   intro listed a w hfree hr hy hS H
   refine ⟨fun h=>absurd hr (by rw [h]; simp),fun j hj=>?_⟩
   by_cases hji:j=i
   · rw [hji]
     exact hy.wpOp hi hS (.inr ⟨hti,hS,H⟩)
   · obtain ⟨hun,oj,hoj,hall⟩:=mem_ready.1 hj
     have hnot:∀ e∈oj.after,Region.binds md e=true→e.on≠i:=fun e he hb heq=>by
      have h1:=hall e he hb
      have h0:=(mem_ready.1 hr).1
      rw [heq,getD_both h0] at h1
      simp at h1
     have htj:till j=false:=by
      cases ht:till j with
      | false=>rfl
      | true=>
        obtain ⟨o',ho',e,he,hb,hon⟩:=Region.waitsFor_spec (htw j ht)
        rw [hoj] at ho'
        injection ho' with ho'
        subst ho'
        exact absurd hon (hnot e he hb)
     have h1:=H.2 j (ready_mono hj hji)
     refine wpOp_mono (fun a' w' h3=>?_) (wpOp_putIf hoj (hfree j oj hoj hji hun hnot) (fun cs b=>hsel i oi cs b hi) (fun cs b=>hsel j oj cs b hoj) hQ hy h1)
     obtain ⟨hy',h3⟩:=h3
     rcases h3 with ⟨ht,_⟩ | ⟨_,hS',h3⟩
     · rw [htj] at ht
       simp at ht
     · refine .inr ⟨htj,hS',ih _ _ _ ?_ (ready_mono hr (Ne.symm hji)) hy' hS' (by rw [Array.setIfInBounds_comm _ _ hji]; exact h3)⟩
       intro k ok hk hki hku hno
       refine hfree k ok hk hki ?_ hno
       by_cases hjk:j=k
       · rw [← hjk]; exact hun
       · rwa [getD_set_ne true hjk] at hku
theorem wpN_take {i:Nat} {oi:Oper} {v:Value} {f:Nat} {listed:Array Bool} {a:Act} {w:World} (hi:ops[i]?=some oi)
 (hs:Region.noSelect ops=true) (hf:Region.free md ops listed i=true) (hr:(Region.ready md ops listed).contains i=true) (hti:till i=false)
 (htw:∀ j,till j=true→Region.waitsFor md ops j i=true)
 (hQ:∀ c a w,Q (.panic c) (a.put oi.dst v) w→Q (.panic c) a w) (hy:YieldsIf P ops S oi v a) (hS:S w)
 (h:wpN P md ops Q S till f (listed.setIfInBounds i true) (a.put oi.dst v) w):wpN P md ops Q S till (f+1) listed a w:=
 wpN_first hi (Region.noSelect_spec hs) hQ hti htw f listed a w (Region.free_spec hi hf) (by simpa using hr) hy hS h
theorem wpOp_of {i:Nat} {o:Oper} {a:Act} {w:World} {K:Act→World→Prop} (hi:ops[i]?=some o) (h:if Region.wanted o (yielded ops a.tmps)=true then Oper.wp P o a w K Q else K (a.put o.dst undef) w):wpOp P ops Q i K a w:=by
 unfold wpOp
 simp only [hi]
 split
 · rename_i hw
   rw [if_pos hw] at h
   exact .inl h
 · rename_i hw
   rw [if_neg hw] at h
   exact h
theorem wpN_first0 {i:Nat} {oi:Oper} {v:Value} (hi:ops[i]?=some oi) (hsel:∀ (j:Nat) (o:Oper) cs b,ops[j]?=some o→o.op≠.select cs b)
 (hQ:∀ c a w,Q (.panic c) (a.put oi.dst v) w→Q (.panic c) a w) (hti:till i=false):
 ∀ (f:Nat) (listed:Array Bool) (a:Act) (w:World),
   (∀ j oj,ops[j]?=some oj→j≠i→listed.getD j true=false→(∀ e∈oj.after,Region.binds md e=true→e.on≠i)→oi.apart ops oj=true)→
   i∈Region.ready md ops listed→YieldsIf P ops (fun _=>True) oi v a→S w→
   wpN P md ops Q S till f (listed.setIfInBounds i true) (a.put oi.dst v) w→wpN P md ops Q S till (f+1) listed a w:=by
 intro f
 induction f with
 | zero=>
   intro listed a w _ hr hy hS H
   refine ⟨fun h=>absurd hr (by rw [h]; simp),fun j hj=>?_⟩
   by_cases hji:j=i
   · rw [hji]
     exact hy.wpOp hi trivial (.inr ⟨hti,hS,H⟩)
   · have h0:=ready_mono hj hji
     rw [H.1] at h0
     simp at h0
 | succ f ih=>
   intro listed a w hfree hr hy hS H
   refine ⟨fun h=>absurd hr (by rw [h]; simp),fun j hj=>?_⟩
   by_cases hji:j=i
   · rw [hji]
     exact hy.wpOp hi trivial (.inr ⟨hti,hS,H⟩)
   · obtain ⟨hun,oj,hoj,hall⟩:=mem_ready.1 hj
     have hnot:∀ e∈oj.after,Region.binds md e=true→e.on≠i:=fun e he hb heq=>by
      have h1:=hall e he hb
      have h0:=(mem_ready.1 hr).1
      rw [heq,getD_both h0] at h1
      simp at h1
     have hfr:∀ k ok,ops[k]?=some ok→k≠i→(listed.setIfInBounds j true).getD k true=false→(∀ e∈ok.after,Region.binds md e=true→e.on≠i)→oi.apart ops ok=true:=fun k ok hk hki hku hno=>by
      refine hfree k ok hk hki ?_ hno
      by_cases hjk:j=k
      · rw [← hjk]; exact hun
      · rwa [getD_set_ne true hjk] at hku
     have h1:=H.2 j (ready_mono hj hji)
     refine wpOp_mono (fun a' w' h3=>?_) (wpOp_putIf hoj (hfree j oj hoj hji hun hnot) (fun cs b=>hsel i oi cs b hi) (fun cs b=>hsel j oj cs b hoj) hQ hy h1)
     obtain ⟨hy',h3⟩:=h3
     rcases h3 with ⟨ht,h3⟩ | ⟨htj,hS',h3⟩
     · refine .inl ⟨ht,wpAny_first hi hsel hQ f _ _ _ hfr (ready_mono hr (Ne.symm hji)) ?_ (by rw [Array.setIfInBounds_comm _ _ hji]; exact h3)⟩
       rcases hy' with ⟨h1,h2⟩ | h1
       · exact .inl ⟨h1,fun w=>h2 w trivial⟩
       · exact .inr h1
     · exact .inr ⟨htj,hS',ih _ _ _ hfr (ready_mono hr (Ne.symm hji)) hy' hS' (by rw [Array.setIfInBounds_comm _ _ hji]; exact h3)⟩
theorem wpN_take0 {i:Nat} {oi:Oper} {v:Value} {f:Nat} {listed:Array Bool} {a:Act} {w:World} (hi:ops[i]?=some oi)
 (hs:Region.noSelect ops=true) (hf:Region.free md ops listed i=true) (hr:(Region.ready md ops listed).contains i=true) (hti:till i=false)
 (hQ:∀ c a w,Q (.panic c) (a.put oi.dst v) w→Q (.panic c) a w) (hy:YieldsIf P ops (fun _=>True) oi v a) (hS:S w)
 (h:wpN P md ops Q S till f (listed.setIfInBounds i true) (a.put oi.dst v) w):wpN P md ops Q S till (f+1) listed a w:=
 wpN_first0 hi (Region.noSelect_spec hs) hQ hti f listed a w (Region.free_spec hi hf) (by simpa using hr) hy hS h
theorem wpN_one {i:Nat} {o:Oper} {f:Nat} {listed:Array Bool} {a:Act} {w:World} (hr:Region.ready md ops listed=[i]) (hi:ops[i]?=some o) (hti:till i=false)
 (h:∀ K:Act→World→Prop,(∀ a' w',S w'→wpN P md ops Q S till f (listed.setIfInBounds i true) a' w'→K a' w')→if Region.wanted o (yielded ops a.tmps)=true then Oper.wp P o a w K Q else K (a.put o.dst undef) w):
 wpN P md ops Q S till (f+1) listed a w:=by
 refine ⟨fun h=>absurd (hr.symm.trans h) (by simp),fun j hj=>?_⟩
 rw [hr] at hj
 have hji:j=i:=by simpa using hj
 subst hji
 exact wpOp_of hi (h _ fun a' w' hS hw=>Or.inr ⟨hti,hS,hw⟩)
theorem wpN_seq (l:List Oper) (k:Nat) {listed:Array Bool} {a:Act} {w:World} (hl:∀ j,l[j]?=ops[k+j]?) (hB:Region.seqB md ops l.length k listed=true) (h:wpList P ops Q l a w)
 (hk:till k=true∨l=[]):wpN P md ops Q S till l.length listed a w:=by
 have hA:=wpAny_of_seq l k listed a w hl hB h
 cases l with
 | nil=>exact hA
 | cons o l=>
   refine ⟨hA.1,fun i hi=>?_⟩
   have hr:Region.ready md ops listed=[k]:=by
    simp only [List.length_cons,Region.seqB,Bool.and_eq_true,decide_eq_true_eq] at hB
    exact hB.1
   rw [hr] at hi
   have hik:i=k:=by simpa using hi
   subst hik
   have htk:till i=true:=by
    rcases hk with h | h
    · exact h
    · cases h
   exact wpOp_mono (fun a' w' h'=>.inl ⟨htk,h'⟩) (hA.2 i (by rw [hr]; simp))
theorem wpN_tail {f:Nat} (k:Nat) {listed:Array Bool} {a:Act} {w:World} (hf:(ops.toList.drop k).length=f) (hB:Region.seqB md ops f k listed=true) (hk:till k=true) (h:wpList P ops Q (ops.toList.drop k) a w):
 wpN P md ops Q S till f listed a w:=by
 subst hf
 exact wpN_seq _ k (fun j=>by rw [List.getElem?_drop,Array.getElem?_toList]) hB h (.inl hk)
theorem wp_region_N {id:Nat} {a:Act} {w:World} (S:World→Prop) (till:Nat→Bool) (hm:P.follows .mixedOrders=true) (h:wpN P .any ops Q S till ops.size (Array.replicate ops.size false) a w.drew):
 (Code.region id ops true).wp P Q a w:=wp_region_any hm (wpN_any _ _ _ _ h)
end
end Go.Proofs.YtpobbnllcoabhaaGreat.Rn
namespace Go.Proofs.YtpobbnllcoabhaaGreat.Rw
open Go Go.RowKit Hp Fl
section
variable {P:Program}
theorem step_app {ops:Array Oper} {o:Oper} {a:Act} {w:World} {K:Act→World→Prop} {Q:Exit→Act→World→Prop} {E:Prop}
 (hg:o.guard=none) (s x:Operand) (t:TypeId) (hop:o.op=Op.call {callee:=Callee.builtin Builtin.append,args:=#[s,x],argTypes:=#[t,t]})
 (vs vx:Value) (hs:a.eval s=vs) (hx:a.eval x=vx) {v:Value} {w':World} (hrun:(Builtin.append_ #[t,t] o.type #[vs,vx]).run P w=.ok v w')
 (hK:K (a.put o.dst v) w'):if Region.wanted o (yielded ops a.tmps)=true then Oper.wp P o a w K Q else E:=by
 have hw:Region.wanted o (yielded ops a.tmps)=true:=by simp [Region.wanted,hg]
 rw [if_pos hw]
 unfold Oper.wp
 simp [execOp,hop,resolve,invoke,builtin,hs,hx,hrun,Result.andThen]
 exact hK
theorem run_one {α:Type} (w:World) (t ty e:TypeId) (i:TypeInfo) (z:Value) (c bytes:Nat) (ht:P.underlying t=some (.slice e)) (hi:P.info? e=some i) (hz:i.zero=some z) (hsize:i.size=c) (hby:i.bytes=bytes) (hzs:z.cells.size=c) (hsz:0<c)
 (f:α→List Value) (hf:∀ x,(f x).length=c) (h1:∀ x,∀ u∈f x,u.oneCell'=true) {A:Option Addr} {cap n:Nat} {xs:List α} (hn:xs.length=n) (h:Row w e c f A cap xs) (y:α) (ad:Addr) (cx:Nat)
 (hc:∀ (j:Nat) (u:Value),(f y)[j]?=some u→w.cell? (ad.add j)=some u) (h63:n+1≤maxLen) (hbytes:(n+1)*bytes≤140737488355328):
 ∃ A' cap' w',(Builtin.append_ #[t,t] ty #[.slice A n cap,.slice (some ad) 1 cx]).run P w=.ok (.slice A' (n+1) cap') w'∧Row w' e c f A' cap' (xs++[y])∧Only (In A) w w'∧∀ b,In A' b→In A b∨w.heap.size≤b:=by
 subst hn
 have e1:(xs++[y]).flatMap f=xs.flatMap f++f y:=by simp
 obtain ⟨v',w',hrun,hown,hg,_,hat⟩:=run_append_own_at (P:=P) w 0 t ty e i z c bytes ht hi hz hsize hby hzs hsz (.slice A xs.length cap) xs.length (xs.flatMap f) h ad 1 cx (f y) (by rw [hf,Nat.one_mul]) hc (h1 y) h63 hbytes (Nat.zero_le _)
 obtain ⟨A',cap',rfl⟩:=own_slice hown
 refine ⟨A',cap',w',hrun,?_,(Only.refl (In A) w).grown hg (fun b hb=>.inl (by rw [own_block] at hb; exact hb)),fun b hb=>?_⟩
 · rw [Row,e1,List.length_append]
   exact hown
 · rw [own_block,own_block] at hat
   rcases hat with q | q
   · exact .inl (by rw [In,← q]; exact hb)
   · refine .inr ?_
     rw [In,q] at hb
     injection hb with hb
     omega
end
end Go.Proofs.YtpobbnllcoabhaaGreat.Rw
namespace Go.Proofs.YtpobbnllcoabhaaGreat.Sw
open Go Go.RowKit Hp K Fl Rw Hm Ar Mm Me Qs Wk Pn
set_option maxRecDepth 100000
section
variable {w w':World} {M:Mo} {a:Sc} {G:Sh}
theorem toNext_nx (G:Sh):(toNext G).nx≠5∧(toNext G).nx≠9:=by
 unfold toNext
 simp only
 split<;>omega
theorem toStore_nx (G:Sh):(toStore G).nx≠5∧(toStore G).nx≠9:=by
 unfold toStore
 split
 · split
   · exact toNext_nx G
   · simp
 · simp
theorem endFirst_nx (G:Sh):(endFirst G).nx≠5∧(endFirst G).nx≠9:=by
 unfold endFirst
 split
 · exact toStore_nx _
 · split
   · exact toStore_nx _
   · simp
theorem come_at {w2:World} {x:Nat} (hO:Own w2 a (comeTo G x)) (hm:a.mv=.map (some a.B)) (hM:Me.Met w2 a.B G.met):ShAt w2 a (comeTo G x):=by
 refine ⟨hO,fun _=>⟨hm,?_⟩,fun q=>?_⟩
 · unfold comeTo at*
   split
   · rename_i hq
     rename_i q
     rw [if_pos hq] at q
     exact absurd q (endFirst_nx G).1
   · exact hM
 · unfold comeTo at q
   split at q
   · exact absurd q (endFirst_nx G).2
   · simp at q
set_option maxHeartbeats 4000000 in
theorem loadSecond_step (hM:MemAt w M) (h:ShAt w a G) (hx:G.el.2+(G.bucket+G.nw.1)<M.xs.length) (he:G.el.2≤4000000) (hb:G.bucket≤1000000) (hn:G.nw.1≤100000) (hf:G.fi≤18446744073709551615):
 Calls Tryz.prog 176 #[ptr a.f,ptr M.m] w fun e w'=>e=.returned (.bool false)∧shL.Stp w M a G (lm M) (begun {G with sec:=(Cl.nth M.xs (G.el.2+(G.bucket+G.nw.1))).toNat}) w':=by
 have hsb:(Cl.nth M.xs (G.el.2+(G.bucket+G.nw.1))).toNat≤18446744073709551615:=by
  have:=Cl.getD_bd hM.2.1.2.2.1 (G.el.2+(G.bucket+G.nw.1))
  omega
 have hBg:=fun n=>begin_any (hM.drewN n) (h.drewN n).blk (G.bucket+G.nw.1) (by omega) hx he
 have e2:((G.bucket+G.nw.1:Nat):Int)=(G.bucket:Int)+(G.nw.1:Int):=by omega
 rw [e2] at hBg
 have ew:IntKind.i64.wrap ((G.bucket:Int)+(G.nw.1:Int))=(G.bucket:Int)+(G.nw.1:Int):=IntWalk.i64_in _ (by omega)
 generalize (Cl.nth M.xs (G.el.2+(G.bucket+G.nw.1))).toNat=z at*
 have c6:=h.blk.cell 6
 have c9:=h.blk.cell 9
 simp only [shc,List.getElem?_toArray,List.getElem?_cons_succ,List.getElem?_cons_zero] at c6 c9
 have HM:=Lib.hid hM
 have HG:=Lib.hid h
 replace hBg:=Lib.hid hBg
 replace hsb:=Lib.hid hsb
 clear hM h hx e2
 go_enter Tryz.func176,Tryz.ntmps176
 go_wp2_with fail
 go_region_held3 (fun w'=>w'.cell? ⟨a.f,6,none⟩=some (.int .i64 G.nw.1)∧w'.cell? ⟨a.f,9,none⟩=some (.int .i64 G.bucket)) ((go_split_ands; (refine ⟨?_,?_⟩<;>simp [World.cell?_setCell_other, *])))
  (first
    | (go_at_call 175
       refine (hBg.out 1).mono ?_
       rintro e w1 ⟨rfl,n,hw⟩
       have hG1:Own w1 a G:=by rw [hw]; exact Blk.only (Blk.only HG.out.blk ((Only.refl (fun _=>False) w).drewN 1) (by simp)) ((Only.refl (fun _=>False) _).drewN n) (by simp)
       have hO1:Only (·=a.f) w w1:=by rw [hw]; exact ((Only.refl _ w).drewN 1).drewN n
       have p6:=hG1.cell 6
       have p9:=hG1.cell 9
       have p11:=hG1.cell 11
       have y11:=hG1.frozen 11
       simp only [shc,List.getElem?_toArray,List.getElem?_cons_succ,List.getElem?_cons_zero] at p6 p9 p11
       replace hG1:=Lib.hid hG1
       replace hO1:=Lib.hid hO1
       clear hw hBg c6 c9))
 have hB2:Own (w1.setCell ⟨a.f,11,none⟩ (.int .u64 z)) a {G with sec:=z}:=hG1.out.store 11 (.int .u64 z)
 have hO2:=hO1.out.trans (only1 (c:=a.f) w1 11 (.int .u64 z))
 generalize w1.setCell ⟨a.f,11,none⟩ (.int .u64 (z:Int))=w2 at*
 clear p6 p9 p11 y11 hG1 hO1
 have c10:=hB2.cell 10
 have c11:=hB2.cell 11
 have c13:=hB2.cell 13
 have c14:=hB2.cell 14
 have z13:=hB2.frozen 13
 have z14:=hB2.frozen 14
 simp only [shc,List.getElem?_toArray,List.getElem?_cons_succ,List.getElem?_cons_zero] at c10 c11 c13 c14
 have hEnd:Hid (∀ w3,Own w3 a (toStore {G with sec:=z})→Only (·=a.f) w2 w3→shL.Stp w M a G (lm M) (toStore {G with sec:=z}) w3):=Lib.hid fun w3 h3 h4=>
  stp_same HM.out (a':=a) (ShAt.plain h3 (toStore_nx _)) rfl (sfoot_plain (toStore_nx _)) HG.out (hO2.trans h4) (fun x q=>.inl q)
 by_cases h0:G.fi=0
 · have e:Hid (begun {G with sec:=z}=toStore {G with sec:=z}):=Lib.hid (by unfold begun; rw [if_pos (.inl h0)])
   rw [h0] at c10
   have hN:=Lib.hid (toStore_any hB2 (by show G.bucket≤_; omega) (by show G.nw.1≤_; omega))
   clear hB2 hO2 h0
   go_wp2_with fail
   refine hN.out.mono ?_
   rintro e w3 ⟨rfl,hO3,hY3⟩
   have hS:=Lib.hid (hEnd.out w3 hO3 hY3)
   clear hN hO3 hY3 hEnd c10 c11 c13 c14 z13 z14
   go_wp2_with fail
   go_ret
   exact ⟨rfl,by rw [e.out]; exact hS.out⟩
 have q0:((G.fi:Int)==0)=false:=by simp; omega
 by_cases h1:z=0
 · have e:Hid (begun {G with sec:=z}=toStore {G with sec:=z}):=Lib.hid (by unfold begun; rw [if_pos (.inr h1)])
   have hN:=Lib.hid (toStore_any hB2 (by show G.bucket≤_; omega) (by show G.nw.1≤_; omega))
   rw [h1] at c11
   clear hB2 hO2 h0 h1
   go_wp2_with fail
   refine hN.out.mono ?_
   rintro e w3 ⟨rfl,hO3,hY3⟩
   have hS:=Lib.hid (hEnd.out w3 hO3 hY3)
   clear hN hO3 hY3 hEnd c10 c11 c13 c14 z13 z14
   go_wp2_with fail
   go_ret
   exact ⟨rfl,by rw [e.out]; exact hS.out⟩
 have q1:((z:Int)==0)=false:=by simp; omega
 have e:Hid (begun {G with sec:=z}=comeTo {G with sec:=z,la:=0,met:=[]} G.fi):=Lib.hid (by unfold begun; rw [if_neg (by simp [h0,h1])])
 clear h0 h1 hEnd
 obtain ⟨B,hB⟩:∃ B,B=w2.heap.size:=⟨_,rfl⟩
 have hmm:=@run_makeMap Tryz.prog
 have hB3:Own (w2.alloc (.map #[] 0)) a {G with sec:=z}:=Blk.only hB2 ((Only.refl (fun _=>False) w2).alloc _) (by simp)
 have hM3:Me.Met (w2.alloc (.map #[] 0)) B []:=by rw [hB]; exact Me.Met.made w2
 have hB4:Own (((w2.alloc (.map #[] 0)).setCell ⟨a.f,13,none⟩ (.int .u64 0)).setCell ⟨a.f,14,none⟩ (.map (some B))) {a with mv:=.map (some B),B:=B} {G with sec:=z,la:=0,met:=[]}:=(hB3.store 13 (.int .u64 0)).store 14 (.map (some B))
 have hO4:=only2 (c:=a.f) (w2.alloc (.map #[] 0)) 13 14 (.int .u64 0) (.map (some B))
 have hM4:=hM3.only hO4 (own_B hB3 hM3)
 have hO5:=Lib.hid ((hO2.alloc (.map #[] 0)).trans hO4)
 have g10:=hB4.cell 10
 simp only [shc,List.getElem?_toArray,List.getElem?_cons_succ,List.getElem?_cons_zero] at g10
 have hC:=Lib.hid (comeTo_any hB4 rfl hM4 (by show z≤_; exact hsb.out) (by show G.bucket≤_; omega) (by show G.nw.1≤_; omega) hf)
 have hlt:Hid (w.heap.size≤B):=Lib.hid (by rw [hB]; exact hO2.size)
 have hne:=Lib.hid (own_B hB4 hM4)
 replace hM4:=Lib.hid hM4
 have k13:=hB3.cell 13
 have k14:=hB3.cell 14
 have y13:=hB3.frozen 13
 have y14:=hB3.frozen 14
 simp only [shc,List.getElem?_toArray,List.getElem?_cons_succ,List.getElem?_cons_zero] at k13 k14
 clear hB2 hO2 hB3 hM3 hB4 hO4
 rw [hB] at g10
 go_wp2_with fail
 rw [← hB]
 clear hmm hB c10 c11 c13 c14 z13 z14 k13 k14 y13 y14
 refine hC.out.mono ?_
 rintro e w3 ⟨rfl,hO3,hY3⟩
 have hS:Hid (shL.Stp w M a G (lm M) (comeTo {G with sec:=z,la:=0,met:=[]} G.fi) w3):=Lib.hid (by
  have hA:=come_at hO3 rfl (hM4.out.only hY3 hne.out)
  refine stp_same HM.out (a':={a with mv:=.map (some B),B:=B}) hA rfl ?_ HG.out (hO5.out.trans hY3) (fun x q=>.inl q)
  rintro x (q | ⟨_,q⟩ | ⟨q,_⟩)
  · exact .inl (.inl q)
  · rw [q]; exact .inr hlt.out
  · exfalso
    unfold comeTo at q
    split at q
    · exact (endFirst_nx _).2 q
    · simp at q)
 clear hC hO3 hY3 g10
 go_wp2_with fail
 go_ret
 exact ⟨rfl,by rw [e.out]; exact hS.out⟩
end
end Go.Proofs.YtpobbnllcoabhaaGreat.Sw
namespace Go.Proofs.YtpobbnllcoabhaaGreat.Sw
open Go Go.RowKit Hp K Fl Rw Hm Ar Mm Me Qs Wk Pn
set_option maxRecDepth 100000
section
variable {w w':World} {M:Mo} {a:Sc} {G:Sh}
def Lkd (w wx:World) (nd:Nd) (p e:Value):Prop:=
 ∃ b,p=ptr b∧e=.int .i64 0∧w.heap.size≤b∧Blk wx b 88 #[.string nd.key,.string nd.val,.int .u32 nd.sum,.int .u64 nd.next]∧Below w.heap.size w wx
theorem met_run {B:Nat} {ms:List Nat} (h:Me.Met w B ms) (hl:ms.length≤1000000) {y:Nat} (hy:y≤18446744073709551615):
 ∃ w',(Instr.mapUpdate 126 (.map (some B)) (.int .u64 y) (.bool true)).run Tryz.prog w=.ok () w'∧Me.Met w' B (y::ms)∧Only (·=B) w w':=by
 obtain ⟨n,D,hM,hn,hat⟩:=h
 obtain ⟨w',hrun,hM',hg⟩:=hM.update keyed Tryz.underlying126 (by unfold maxLen; omega) (mkey hy) (plainElem_bool Tryz.underlying4 true)
 exact ⟨w',hrun,met_put hy hM hM' hn hat,(Only.refl (·=B) w).grown hg (fun z hz=>.inl (by injection hz with hz; exact hz.symm))⟩
set_option maxHeartbeats 4000000 in
theorem read_step (hM:MemAt w M) (h:ShAt w a G) (h5:G.nx=5) (live:IsAt M.ss G.at_ ((G.at_-1) % 65536)) (hat:G.at_≤18446744073709551615) (hnx:0≤(at' M.ss ((G.at_-1) % 65536)).nd.next∧(at' M.ss ((G.at_-1) % 65536)).nd.next≤18446744073709551615)
 (hml:G.met.length≤100000) (hsec:G.sec≤18446744073709551615) (hb:G.bucket≤1000000) (hn:G.nw.1≤1000000):
 Calls Tryz.prog 207 #[ptr a.f,ptr M.m] w fun e w'=>e=.returned (.bool false)∧shL.Stp w M a G (lm M) (comeTo {G with la:=G.at_,met:=G.at_::G.met} (at' M.ss ((G.at_-1) % 65536)).nd.next.toNat) w':=by
 have hR:=Lib.hid (fun (w1:World) (hb1:Below w.heap.size w w1)=>(read_ok (hM.below hb1).2.2.2.1 hat live).mono fun e w2 q=>show e=.returned (.tuple #[ndv (at' M.ss ((G.at_-1) % 65536)).nd,.int .i64 0])∧(Below w.heap.size w w2∧Below w1.heap.size w1 w2) from
  ⟨q.1,hb1.trans (q.2.mono hb1.size),q.2⟩)
 obtain ⟨hmv,hMet⟩:=h.c5 h5
 generalize hnd:(at' M.ss ((G.at_-1) % 65536)).nd=nd at*
 have c12:=h.blk.cell 12
 simp only [shc,List.getElem?_toArray,List.getElem?_cons_succ,List.getElem?_cons_zero] at c12
 have d2:=hM.hd.2.2.1
 have lM:=hM.1.lt
 have lG:=h.blk.lt
 have HM:=Lib.hid hM
 have HG:=Lib.hid h
 have nm:=World.new_ne w ⟨M.m,2,none⟩ d2
 have nw:=World.new_ne w ⟨a.f,12,none⟩ c12
 unfold ndv at hR
 replace live:=Lib.hid live
 replace hnx:=Lib.hid hnx
 replace hml:=Lib.hid hml
 replace hsec:=Lib.hid hsec
 replace hb:=Lib.hid hb
 replace hn:=Lib.hid hn
 replace hat:=Lib.hid hat
 replace h5:=Lib.hid h5
 replace hMet:=Lib.hid hMet
 replace hmv:=Lib.hid hmv
 replace hnd:=Lib.hid hnd
 clear hM h
 go_enter Tryz.func207,Tryz.ntmps207
 go_upto_region 1 with (fail)
 go_cut [5,6] (fun p e wx=>Lkd w wx nd p e)
 case first=>
  go_region_held3 (fun w'=>w'.cell? ⟨M.m,2,none⟩=some (ptr M.ar)∧w'.cell? ⟨a.f,12,none⟩=some (.int .u64 G.at_)) (go_keep)
   (first
     | (go_at_call 35
        refine (hR.out w.drew ⟨rfl,rfl,rfl,Nat.le_refl _,fun _ _=>rfl⟩).mono ?_
        rintro e w2 ⟨rfl,hb2,_⟩
        have d2':=(hb2.cell (p:=⟨M.m,2,none⟩) lM).trans d2
        have c12':=(hb2.cell (p:=⟨a.f,12,none⟩) lG).trans c12
        have hs2:=hb2.size
        replace hb2:=Lib.hid hb2)
     | (go_at_call 35
        refine (hR.out (w.alloc (.cells #[.string ⟨#[]⟩,.string ⟨#[]⟩,.int .u32 0,.int .u64 0] 88)).drew (((Below.refl w.heap.size w).alloc (Nat.le_refl _) _).trans ⟨rfl,rfl,rfl,by simp,fun _ _=>rfl⟩)).mono ?_
        rintro e w2 ⟨rfl,hb2,hb3⟩
        have hB2:Blk w2 w.heap.size 88 #[.string ⟨#[]⟩,.string ⟨#[]⟩,.int .u32 0,.int .u64 0]:=Blk.only (w:=(w.alloc (.cells #[.string ⟨#[]⟩,.string ⟨#[]⟩,.int .u32 0,.int .u64 0] 88)).drew) (Blk.made w _ _) (Only.ofBelow hb3 (fun _=>False)) (by simp)
        have d2':=(hb2.cell (p:=⟨M.m,2,none⟩) lM).trans d2
        have c12':=(hb2.cell (p:=⟨a.f,12,none⟩) lG).trans c12
        have hs2:=hb2.size
        have k0:=hB2.cell 0
        have k1:=hB2.cell 1
        have k2:=hB2.cell 2
        have k3:=hB2.cell 3
        simp at k0 k1 k2 k3
        have y0:=hB2.frozen 0
        have y1:=hB2.frozen 1
        have y2:=hB2.frozen 2
        have y3:=hB2.frozen 3
        replace hb2:=Lib.hid hb2
        replace hB2:=Lib.hid hB2))
  all_goals
   go_wp2_with fail
   go_meet
   first
    | exact ⟨_,rfl,rfl,hs2,Blk.made w2 _ _,hb2.out.alloc hs2 _⟩
    | exact ⟨_,rfl,rfl,Nat.le_refl _,(((hB2.out.store 0 _).store 1 _).store 2 _).store 3 _,(((hb2.out.setCell (p:=⟨w.heap.size,0,none⟩) (Nat.le_refl _) _).setCell (p:=⟨w.heap.size,1,none⟩) (Nat.le_refl _) _).setCell (p:=⟨w.heap.size,2,none⟩) (Nat.le_refl _) _).setCell (p:=⟨w.heap.size,3,none⟩) (Nat.le_refl _) _⟩
 case rest=>
  obtain ⟨b,rfl,rfl,hb0,hB,hb1⟩:=hcut
  clear hR c12 d2 nm nw
  have hG1:Own wc a G:=HG.out.blk.only (Only.ofBelow hb1 (fun _=>False)) (by simp)
  have hM1:Me.Met wc a.B G.met:=hMet.out.only (Only.ofBelow hb1 (fun _=>False)) (by simp)
  have c12:=hG1.cell 12
  have c13:=hG1.cell 13
  have z13:=hG1.frozen 13
  simp only [shc,List.getElem?_toArray,List.getElem?_cons_succ,List.getElem?_cons_zero] at c12 c13
  obtain ⟨z,hz⟩:=Int.eq_ofNat_of_zero_le hnx.out.1
  rw [hz] at hB
  have hzb:=Lib.hid (show z≤18446744073709551615 by have:=hnx.out; omega)
  have hnz:Hid (nd.next.toNat=z):=Lib.hid (by rw [hz]; rfl)
  have hG2:Own (wc.setCell ⟨a.f,13,none⟩ (.int .u64 G.at_)) a {G with la:=G.at_}:=hG1.store 13 (.int .u64 G.at_)
  have hO2:=only1 (c:=a.f) wc 13 (.int .u64 G.at_)
  have hBf:=own_B hG1 hM1
  have hM2:=hM1.only hO2 hBf
  have hbf:b≠a.f:=fun e=>by have:=HG.out.blk.lt; omega
  have hbB:b≠a.B:=fun e=>by have:=hMet.out.lt; omega
  have hN2:=hB.only hO2 hbf
  have hOw:=(Only.ofBelow hb1 (sfoot a G)).trans' hO2 (fun x _ q=>.inl q)
  replace hG1:=Lib.hid hG1
  replace hM1:=Lib.hid hM1
  replace hB:=Lib.hid hB
  replace hb1:=Lib.hid hb1
  replace hG2:=Lib.hid hG2
  replace hO2:=Lib.hid hO2
  replace hM2:=Lib.hid hM2
  replace hN2:=Lib.hid hN2
  replace hOw:=Lib.hid hOw
  go_upto_region 6 with (fail)
  generalize wc.setCell ⟨a.f,13,none⟩ (.int .u64 (G.at_:Int))=w2 at*
  clear c12 c13 z13 hG1 hM1 hB hb1 hO2
  have c12:=hG2.out.cell 12
  have c14:=hG2.out.cell 14
  simp only [shc,List.getElem?_toArray,List.getElem?_cons_succ,List.getElem?_cons_zero,hmv.out] at c12 c14
  obtain ⟨w3,hrun,hM3,hO3⟩:=met_run (hM2.out.only ((Only.refl (fun _=>False) w2).drew) (by simp)) (by have:=hml.out; omega) hat.out
  have hG3:Own w3 a {G with la:=G.at_,met:=G.at_::G.met}:=(hG2.out.only ((Only.refl (fun _=>False) w2).drew) (by simp)).only hO3 hBf.symm
  have hN3:=(hN2.out.only ((Only.refl (fun _=>False) w2).drew) (by simp)).only hO3 hbB
  have p12:=hG3.cell 12
  have p14:=hG3.cell 14
  have k3:=hN3.cell 3
  simp only [shc,List.getElem?_toArray,List.getElem?_cons_succ,List.getElem?_cons_zero,hmv.out] at p12 p14 k3
  have hC:=Lib.hid (comeTo_any hG3 hmv.out hM3 hsec.out hb.out hn.out hzb.out)
  have hOw3:=Lib.hid ((hOw.out.drew).trans' hO3 (fun x _ q=>.inr (.inl ⟨h5.out,q⟩)))
  replace hM3:=Lib.hid hM3
  clear hO3 hG3 hN3
  go_region_held3 (fun w'=>w'.cell? ⟨a.f,12,none⟩=some (.int .u64 G.at_)∧w'.cell? ⟨a.f,14,none⟩=some (.map (some a.B))) (go_keep)
   (fail)
  clear hrun c12 c14 p12 p14
  go_wp2_with fail
  refine hC.out.mono ?_
  rintro e w4 ⟨rfl,hG4,hO4⟩
  have hS:Hid (shL.Stp w M a G (lm M) (comeTo {G with la:=G.at_,met:=G.at_::G.met} z) w4):=Lib.hid (by
   have hA:=come_at hG4 hmv.out (hM3.out.only hO4 hBf)
   refine stp_same HM.out (a':=a) hA rfl ?_ HG.out (hOw3.out.trans' hO4 (fun x _ q=>.inl q)) (fun x q=>q)
   rintro x (q | ⟨_,q⟩ | ⟨q,_⟩)
   · exact .inl (.inl q)
   · exact .inl (.inr (.inl ⟨h5.out,q⟩))
   · exfalso
     unfold comeTo at q
     split at q
     · exact (endFirst_nx _).2 q
     · simp at q)
  clear hC hG4 hO4 k3
  go_wp2_with fail
  go_ret
  exact ⟨rfl,by rw [hnz.out]; exact hS.out⟩
end
end Go.Proofs.YtpobbnllcoabhaaGreat.Sw
namespace Go.Proofs.YtpobbnllcoabhaaGreat.Sw
open Go Go.RowKit Hp K Fl Rw Hm Ar Mm Me Qs Wk Pn
set_option maxRecDepth 100000
section
variable {w w':World} {M:Mo} {a:Sc} {G:Sh}
theorem lnk_eq {ss:List Sl} {x y k:Nat} (hl:ss.length≤1024) (hk:IsAt ss x k):Pu.lnk ss x y=ss.set k {at' ss k with nd:={(at' ss k).nd with next:=(y:Int)}}:=by
 unfold Pu.lnk
 rw [(isAt_parts hl hk).1]
def Linked (w:World) (M:Mo) (a:Sc) (G:Sh) (x y:Nat) (w':World):Prop:=MemAt w' {M with ss:=Pu.lnk M.ss x y}∧ShAt w' a G∧Only (mfoot M) w w'
theorem linked_any (hM:MemAt w M) (h:ShAt w a G) {x k:Nat} (hx:x≤18446744073709551615) (hk:IsAt M.ss x k) (y:Nat) (w1:World) (h0:Only (fun _=>False) w w1):
 Calls Tryz.prog 166 #[ptr M.ar,.int .u64 x,.int .u64 y] w1 fun e w'=>e=.returned (.int .i64 0)∧Linked w M a G x y w':=by
 have hM0:MemAt w1 M:=hM.only h0 (by simp)
 refine (link_ok hM0.2.2.2.1 hx hk (y:Int)).mono fun e w' q=>?_
 have ho:Only (mfoot M) w w':=(h0.mono (fun x _ q=>q.elim)).trans' q.2.2 (fun x _ q=>.inr (.inr (.inr (.inl q))))
 refine ⟨q.1,?_,h.only ho (fun x hx q=>h.far hM hx q),ho⟩
 rw [lnk_eq hM.2.2.2.1.room.2 hk]
 exact hM0.arena q.2.1 q.2.2
set_option maxHeartbeats 2000000 in
theorem join_step (hM:MemAt w M) (h:ShAt w a G) {k:Nat} (hx:G.la≤18446744073709551615) (hk:IsAt M.ss G.la k) (hb:G.bucket≤1000000) (hn:G.nw.1≤1000000):
 Calls Tryz.prog 212 #[ptr a.f,ptr M.m] w fun e w'=>e=.returned (.bool false)∧shL.Stp w M a G {lm M with ss:=Pu.lnk M.ss G.la G.sec} (toStore G) w':=by
 have hLk:=Lib.hid (linked_any hM h hx hk G.sec)
 have c11:=h.blk.cell 11
 have c13:=h.blk.cell 13
 simp only [shc,List.getElem?_toArray,List.getElem?_cons_succ,List.getElem?_cons_zero] at c11 c13
 have d2:=hM.hd.2.2.1
 have HM:=Lib.hid hM
 have HG:=Lib.hid h
 clear hM h
 go_enter Tryz.func212,Tryz.ntmps212
 go_wp2_with fail
 go_region_held3 (fun w'=>w'.cell? ⟨M.m,2,none⟩=some (ptr M.ar)∧w'.cell? ⟨a.f,11,none⟩=some (.int .u64 G.sec)∧w'.cell? ⟨a.f,13,none⟩=some (.int .u64 G.la)) (go_keep)
  (first
    | (go_at_call 166
       refine (hLk.out (w.drewN 1) ((Only.refl (fun _=>False) w).drewN 1)).mono ?_
       rintro e w1 ⟨rfl,hM1,hG1,hOw⟩
       have p11:=hG1.blk.cell 11
       have p13:=hG1.blk.cell 13
       have p2:=hM1.hd.2.2.1
       simp only [shc,List.getElem?_toArray,List.getElem?_cons_succ,List.getElem?_cons_zero] at p11 p13
       have hT:=Lib.hid (toStore_any hG1.blk hb hn)
       replace hM1:=Lib.hid hM1
       replace hG1:=Lib.hid hG1
       replace hOw:=Lib.hid hOw
       clear hLk))
 clear p11 p13 p2
 go_wp2_with fail
 refine hT.out.mono ?_
 rintro e w2 ⟨rfl,hB2,hO2⟩
 have hE:Hid (shL.Stp w M a G {lm M with ss:=Pu.lnk M.ss G.la G.sec} (toStore G) w2):=Lib.hid
  ⟨_,a,hM1.out.only hO2 (fun x hx e=>hG1.out.far hM1.out (x:=a.f) (.inl rfl) (e▸hx)),rfl,⟨rfl,rfl,rfl,rfl,fun x q=>.inl q⟩,ShAt.plain hB2 (toStore_nx _),rfl,sfoot_plain (toStore_nx _),
   (hOw.out.mono (fun x _ q=>(.inl q:mfoot M x∨sfoot a G x))).trans' hO2 (fun x _ q=>.inr (.inl q))⟩
 clear hB2 hO2 hT
 go_wp2_with fail
 go_ret
 exact ⟨rfl,hE.out⟩
def Stored (w:World) (M:Mo) (a:Sc) (G:Sh) (k x:Nat) (w':World):Prop:=MemAt w' {M with xs:=M.xs.set k (x:Int)}∧ShAt w' a G∧Only (mfoot M) w w'
theorem stored_any (hM:MemAt w M) (h:ShAt w a G) (k:Nat) (hk:k<M.xs.length) (x:Nat) (hx:x≤18446744073709551615) (w1:World) (h0:Only (fun _=>False) w w1):
 Calls Tryz.prog 49 #[ptr M.g,.int .i64 k,.int .u64 x] w1 fun e w'=>e=.returned (.int .i64 0)∧Stored w M a G k x w':=
 (Cl.store_in (hM.only h0 (by simp)).2.1 k hk (x:Int) (by omega) (by omega)).mono fun e w' q=>by
   have ho:Only (mfoot M) w w':=(h0.mono (fun x _ q=>q.elim)).trans' q.2.2 (fun x _ q=>.inr (.inl q))
   exact ⟨q.1,(hM.only h0 (by simp)).cells q.2.1 q.2.2,h.only ho (fun x hx q=>h.far hM hx q),ho⟩
set_option maxHeartbeats 2000000 in
theorem store_step (hM:MemAt w M) (h:ShAt w a G) (hx:G.nw.2+G.bucket<M.xs.length) (hf:G.fi≤18446744073709551615) (hw:G.nw.2≤4000000) (hb:G.bucket≤1000000) (hn:G.nw.1≤1000000):
 Calls Tryz.prog 205 #[ptr a.f,ptr M.m] w fun e w'=>e=.returned (.bool false)∧shL.Stp w M a G {lm M with xs:=M.xs.set (G.nw.2+G.bucket) ((G.fi:Nat):Int)} (toNext G) w':=by
 have hSt:=stored_any hM h (G.nw.2+G.bucket) hx G.fi hf
 have e1:((G.nw.2+G.bucket:Nat):Int)=(G.nw.2:Int)+(G.bucket:Int):=by omega
 rw [e1] at hSt
 have ew:IntKind.i64.wrap ((G.nw.2:Int)+(G.bucket:Int))=(G.nw.2:Int)+(G.bucket:Int):=IntWalk.i64_in _ (by omega)
 have c7:=h.blk.cell 7
 have c9:=h.blk.cell 9
 have c10:=h.blk.cell 10
 simp only [shc,List.getElem?_toArray,List.getElem?_cons_succ,List.getElem?_cons_zero] at c7 c9 c10
 have d0:=hM.hd.1
 replace hSt:=Lib.hid hSt
 have HM:=Lib.hid hM
 have HG:=Lib.hid h
 clear hM h hx e1
 go_enter Tryz.func205,Tryz.ntmps205
 go_wp2_with fail
 go_region_held3 (fun w'=>w'.cell? ⟨M.m,0,none⟩=some (ptr M.g)∧w'.cell? ⟨a.f,7,none⟩=some (.int .i64 G.nw.2)∧w'.cell? ⟨a.f,9,none⟩=some (.int .i64 G.bucket)∧w'.cell? ⟨a.f,10,none⟩=some (.int .u64 G.fi)) (go_keep)
  (first
    | (go_at_call 49
       refine (hSt.out (w.drewN 1) ((Only.refl (fun _=>False) w).drewN 1)).mono ?_
       rintro e w1 ⟨rfl,hM1,hG1,hOw⟩
       have p7:=hG1.blk.cell 7
       have p9:=hG1.blk.cell 9
       have p10:=hG1.blk.cell 10
       have p0:=hM1.hd.1
       simp only [shc,List.getElem?_toArray,List.getElem?_cons_succ,List.getElem?_cons_zero] at p7 p9 p10
       have hT:=Lib.hid (toNext_any hG1.blk hb hn)
       replace hM1:=Lib.hid hM1
       replace hG1:=Lib.hid hG1
       replace hOw:=Lib.hid hOw
       clear hSt))
 clear p7 p9 p10 p0
 go_wp2_with fail
 refine hT.out.mono ?_
 rintro e w2 ⟨rfl,hB2,hO2⟩
 have hE:Hid (shL.Stp w M a G {lm M with xs:=M.xs.set (G.nw.2+G.bucket) ((G.fi:Nat):Int)} (toNext G) w2):=Lib.hid
  ⟨_,a,hM1.out.only hO2 (fun x hx e=>hG1.out.far hM1.out (x:=a.f) (.inl rfl) (e▸hx)),rfl,⟨rfl,rfl,rfl,rfl,fun x q=>.inl q⟩,ShAt.plain hB2 (toNext_nx _),rfl,sfoot_plain (toNext_nx _),
   (hOw.out.mono (fun x _ q=>(.inl q:mfoot M x∨sfoot a G x))).trans' hO2 (fun x _ q=>.inr (.inl q))⟩
 clear hB2 hO2 hT
 go_wp2_with fail
 go_ret
 exact ⟨rfl,hE.out⟩
set_option maxHeartbeats 2000000 in
theorem count_step (hM:MemAt w M) (h:ShAt w a G) (hx:1<M.xs.length) (hn:0≤G.num∧G.num≤1000000):
 Calls Tryz.prog 211 #[ptr a.f,ptr M.m] w fun e w'=>e=.returned (.bool false)∧shL.Stp w M a G {lm M with xs:=M.xs.set 1 G.num} {G with W:=⟨G.worker,0,0,0⟩,nx:=9} w':=by
 obtain ⟨z,hz⟩:=Int.eq_ofNat_of_zero_le hn.1
 have c8:=h.blk.cell 8
 simp only [shc,List.getElem?_toArray,List.getElem?_cons_succ,List.getElem?_cons_zero] at c8
 have hSt:=stored_any hM h 1 hx z (by omega)
 rw [hz] at c8
 have ez:IntKind.u64.wrap (z:Int)=z:=by rw [IntKind.wrap_u64]; omega
 have d0:=hM.hd.1
 replace hSt:=Lib.hid hSt
 have hSy:=Lib.hid (sync_any G.worker)
 have HM:=Lib.hid hM
 have HG:=Lib.hid h
 replace hz:=Lib.hid hz
 clear h hM hn
 go_enter Tryz.func211,Tryz.ntmps211
 go_wp2_with fail
 go_region_held3 (fun w'=>w'.cell? ⟨M.m,0,none⟩=some (ptr M.g)∧w'.cell? ⟨a.f,8,none⟩=some (.int .i64 z)) (go_keep)
  (first
    | (go_at_call 49
       refine (hSt.out (w.drewN 1) ((Only.refl (fun _=>False) w).drewN 1)).mono ?_
       rintro e w1 ⟨rfl,hM1,hG1,hOw⟩
       have p0:=hG1.blk.cell 0
       have p8:=hG1.blk.cell 8
       have p00:=hM1.hd.1
       simp only [shc,List.getElem?_toArray,List.getElem?_cons_succ,List.getElem?_cons_zero,hz.out] at p0 p8
       replace hM1:=Lib.hid hM1
       replace hG1:=Lib.hid hG1
       replace hOw:=Lib.hid hOw
       clear hSt))
 clear p8 p00
 go_wp2_with fail
 refine (hSy.out _).mono ?_
 rintro e w2 ⟨rfl,hW2,hb2⟩
 obtain ⟨b,hb⟩:∃ b,b=w1.heap.size:=⟨_,rfl⟩
 rw [← hb] at hW2 ⊢
 have hG2:Own w2 a G:=hG1.out.blk.only (Only.ofBelow hb2 (fun _=>False)) (by simp)
 have d1:=hG2.cell 1
 have d2:=hG2.cell 2
 have y1:=hG2.frozen 1
 have y2:=hG2.frozen 2
 simp only [shc,List.getElem?_toArray,List.getElem?_cons_succ,List.getElem?_cons_zero] at d1 d2
 have hE:Own ((w2.setCell ⟨a.f,1,none⟩ (wfm 214 (ptr b))).setCell ⟨a.f,2,none⟩ (wfm 215 (ptr b))) {a with w:=b} {G with W:=⟨G.worker,0,0,0⟩,nx:=9}:=
  (hG2.store 1 (wfm 214 (ptr b))).store 2 (wfm 215 (ptr b))
 have hO2:=only2 (c:=a.f) w2 1 2 (wfm 214 (ptr b)) (wfm 215 (ptr b))
 have hO3:=(Only.ofBelow hb2 (·=a.f)).trans hO2
 have hne:b≠a.f:=fun e=>by have:=hG1.out.blk.lt; omega
 have hW3:=hW2.only hO2 hne
 have hS:Hid (shL.Stp w M a G {lm M with xs:=M.xs.set 1 (z:Int)} {G with W:=⟨G.worker,0,0,0⟩,nx:=9} ((w2.setCell ⟨a.f,1,none⟩ (wfm 214 (ptr b))).setCell ⟨a.f,2,none⟩ (wfm 215 (ptr b)))):=Lib.hid (by
  refine ⟨_,{a with w:=b},hM1.out.only hO3 (fun x hx e=>hG1.out.far hM1.out (x:=a.f) (.inl rfl) (e▸hx)),rfl,⟨rfl,rfl,rfl,rfl,fun x q=>.inl q⟩,⟨hE,fun q=>by simp at q,fun _=>hW3⟩,rfl,fun x hx=>?_,(hOw.out.mono (fun x _ q=>(.inl q:mfoot M x∨sfoot a G x))).trans' hO3 (fun x _ q=>.inr (.inl q))⟩
  rcases hx with q | ⟨q,_⟩ | ⟨_,q⟩
  · exact .inl (.inl q)
  · simp at q
  · have hs:=hOw.out.size
    rw [q]
    exact .inr (by show w.heap.size≤b; omega))
 generalize srv a G.nx=u1 at*
 generalize snv a G.nx=u2 at*
 clear hSy hW2 hb2 hG2 hE hO2 hO3 hne hW3 p0 hb
 go_wp2_with fail
 go_ret
 exact ⟨rfl,by
  have q:=hS.out
  rw [← hz.out] at q
  exact q⟩
theorem wait_stp {n:Nat} (hM:MemAt w M) (h:ShAt w a G) (h9:G.nx=9) (hn:M.k=n) (ok:Okw n M.xs M.hs G.W) (hr:readyB M.xs M.hs G.W=true):
 Calls Tryz.prog 215 #[ptr a.w,ptr M.m] w fun e w'=>e=.returned (.bool (decide (G.W.at_=3)))∧
  shL.Stp w M a G {lm M with xs:=(wstep n M.xs M.hs G.W).1,hs:=(wstep n M.xs M.hs G.W).2.1} {G with W:=(wstep n M.xs M.hs G.W).2.2} w':=by
 have hW:=h.wt h9
 refine (wait_step hM hW hn ok hr).mono fun e w1 q=>⟨q.1,_,a,q.2.1,rfl,⟨rfl,rfl,rfl,rfl,fun x q=>.inl q⟩,⟨h.blk.only q.2.2.2 ?_,fun q=>by simp only at q; omega,fun _=>q.2.2.1⟩,rfl,fun x q=>.inl q,q.2.2.2.mono (fun x _ y=>y.imp id (fun e=>.inr (.inr ⟨h9,e⟩)))⟩
 rintro (q | q)
 · exact h.far hM (.inl rfl) q
 · exact h.blk.differ hW (by decide) q
end
end Go.Proofs.YtpobbnllcoabhaaGreat.Sw
namespace Go.Proofs.YtpobbnllcoabhaaGreat.Sw
open Go Go.RowKit Hp K Fl Rw Hm Ar Mm Me Qs Wk Pn
set_option maxRecDepth 100000
def newShr (k:Int):Sh:=⟨k,1,0,(0,0),(0,0),0,0,0,0,0,0,[],⟨0,0,0,0⟩⟩
theorem goOn_at {w:World} {f F:Nat} {b:Array Value} {u1 u2:Value} (c1:w.cell? ⟨f,1,none⟩=some u1) (c2:w.cell? ⟨f,2,none⟩=some u2) (z1:w.frozen? ⟨f,1,none⟩=false) (z2:w.frozen? ⟨f,2,none⟩=false):
 Calls Tryz.prog 95 #[ptr f,.func (.func F) b #[]] w fun e w'=>e=.returned (.tuple #[])∧w'=(w.setCell ⟨f,1,none⟩ (wf0 123)).setCell ⟨f,2,none⟩ (.func (.func F) b #[]):=by
 go_enter Tryz.func95,Tryz.ntmps95
 go_wp2
 go_end0
 exact ⟨rfl,rfl⟩
theorem new_shrink (k:Int) (w:World):Calls Tryz.prog 70 #[.int .i64 k] w fun e w'=>∃ a:Sc,e=.returned (ptr a.f)∧ShAt w' a (newShr k)∧(∀ x,sfoot a (newShr k) x→w.heap.size≤x)∧Below w.heap.size w w':=by
 obtain ⟨w2,hw2⟩:∃ w2,w2=w.alloc (.cells #[.int .i64 k,.nilFunc,.nilFunc,.int .i64 0,.int .i64 0,.int .i64 0,.int .i64 0,.int .i64 0,.int .i64 0,.int .i64 0,.int .u64 0,.int .u64 0,.int .u64 0,.int .u64 0,.map none] 178):=⟨_,rfl⟩
 have hF2:Blk w2 w.heap.size 178 #[.int .i64 k,.nilFunc,.nilFunc,.int .i64 0,.int .i64 0,.int .i64 0,.int .i64 0,.int .i64 0,.int .i64 0,.int .i64 0,.int .u64 0,.int .u64 0,.int .u64 0,.int .u64 0,.map none]:=by rw [hw2]; exact Blk.made w _ _
 have hB2:Below w.heap.size w w2:=by rw [hw2]; exact (Below.refl _ _).alloc (Nat.le_refl _) _
 obtain ⟨f,hf⟩:∃ f,f=w.heap.size:=⟨_,rfl⟩
 rw [← hf] at hF2
 have hfw:w.heap.size≤f:=by omega
 have hgo:=Lib.hid (goOn_at (F:=96) (b:=#[ptr f]) (hF2.cell 1) (hF2.cell 2) (hF2.frozen 1) (hF2.frozen 2))
 have hE:Hid (ShAt ((w2.setCell ⟨f,1,none⟩ (wf0 123)).setCell ⟨f,2,none⟩ (wfm 96 (ptr f))) ⟨f,.map none,0,0⟩ (newShr k)):=Lib.hid
  ⟨(hF2.store 1 (wf0 123)).store 2 (wfm 96 (ptr f)),fun q=>by simp [newShr] at q,fun q=>by simp [newShr] at q⟩
 have hlo:Hid (∀ x,sfoot ⟨f,.map none,0,0⟩ (newShr k) x→w.heap.size≤x):=Lib.hid (by
  rintro x (rfl | ⟨q,_⟩ | ⟨q,_⟩)
  · exact hfw
  · simp [newShr] at q
  · simp [newShr] at q)
 have hB:=Lib.hid ((hB2.setCell (p:=⟨f,1,none⟩) hfw (wf0 123)).setCell (p:=⟨f,2,none⟩) hfw (wfm 96 (ptr f)))
 clear hF2 hB2 hfw
 go_enter Tryz.func70,Tryz.ntmps70
 go_upto_region 2 with (fail)
 rw [← hw2,← hf]
 clear hw2 hf
 go_wp2_with fail
 refine hgo.out.mono ?_
 rintro e w1 ⟨rfl,hw1⟩
 rw [← hw1] at hE hB
 clear hw1 hgo
 go_wp2_with fail
 go_ret
 exact ⟨_,rfl,hE.out,hlo.out,hB.out⟩
theorem err_any {w:World} {a:Sc} {G:Sh} (h:ShAt w a G):Calls Tryz.prog 71 #[ptr a.f] w fun e w'=>e=.returned (.int .i64 G.err)∧w'=w:=by
 have c3:=h.blk.cell 3
 simp only [shc,List.getElem?_toArray,List.getElem?_cons_succ,List.getElem?_cons_zero] at c3
 clear h
 go_enter Tryz.func71,Tryz.ntmps71
 go_wp2_with fail
 go_ret
 exact ⟨rfl,rfl⟩
theorem sstep_fm {w:World} {F f:Nat} {cv m:Value} {c:Bool} {P:World→Prop} (c2:w.cell? ⟨f,2,none⟩=some (wfm F cv)) (eF:∀ args w,(callFunc F args).run Tryz.prog w=.ok (.enter F args) w)
 (hF:Calls Tryz.prog F #[cv,m] w fun e w'=>e=.returned (.bool c)∧P w'):Calls Tryz.prog 267 #[ptr f,m] w fun e w'=>e=.returned (.bool c)∧P w':=by
 replace hF:=Lib.hid hF
 go_enter Tryz.func267,Tryz.ntmps267
 go_wp2_with fail
 refine hF.out.mono ?_
 rintro e w' ⟨rfl,hPw⟩
 replace hPw:=Lib.hid hPw
 clear c2
 go_wp2_with fail
 go_ret
 exact ⟨rfl,hPw.out⟩
theorem sready_f0 {w:World} {f:Nat} {m:Value} (c1:w.cell? ⟨f,1,none⟩=some (wf0 123)):Calls Tryz.prog 266 #[ptr f,m] w fun e w'=>e=.returned (.bool true)∧Below w.heap.size w w':=by
 have eF:∀ args w,(callFunc 123 args).run Tryz.prog w=.ok (.enter 123 args) w:=fun _ _=>by kernel_rfl
 have hA:=Lib.hid (always_any m w)
 go_enter Tryz.func266,Tryz.ntmps266
 go_wp2_with fail
 refine hA.out.mono ?_
 rintro e w' ⟨rfl,hw⟩
 obtain rfl:w=w':=hw.symm
 clear hA c1
 go_wp2_with fail
 go_ret
 exact ⟨rfl,Below.refl _ _⟩
theorem sready_fm {w:World} {F f:Nat} {cv m:Value} {c:Bool} (c1:w.cell? ⟨f,1,none⟩=some (wfm F cv)) (eF:∀ args w,(callFunc F args).run Tryz.prog w=.ok (.enter F args) w)
 (hF:Calls Tryz.prog F #[cv,m] w fun e w'=>e=.returned (.bool c)∧∃ n,w'=w.drewN n):Calls Tryz.prog 266 #[ptr f,m] w fun e w'=>e=.returned (.bool c)∧Below w.heap.size w w':=by
 replace hF:=Lib.hid hF
 go_enter Tryz.func266,Tryz.ntmps266
 go_wp2_with fail
 refine hF.out.mono ?_
 rintro e w' ⟨rfl,n,rfl⟩
 clear c1
 go_wp2_with fail
 go_ret
 exact ⟨rfl,rfl,rfl,rfl,Nat.le_refl _,fun _ _=>rfl⟩
theorem enters_s1 (args:Array Value) (w:World):(callFunc 96 args).run Tryz.prog w=.ok (.enter 96 args) w:=by kernel_rfl
theorem enters_s2 (args:Array Value) (w:World):(callFunc 124 args).run Tryz.prog w=.ok (.enter 124 args) w:=by kernel_rfl
theorem enters_s3 (args:Array Value) (w:World):(callFunc 153 args).run Tryz.prog w=.ok (.enter 153 args) w:=by kernel_rfl
theorem enters_s4 (args:Array Value) (w:World):(callFunc 176 args).run Tryz.prog w=.ok (.enter 176 args) w:=by kernel_rfl
theorem enters_s5 (args:Array Value) (w:World):(callFunc 207 args).run Tryz.prog w=.ok (.enter 207 args) w:=by kernel_rfl
theorem enters_s6 (args:Array Value) (w:World):(callFunc 212 args).run Tryz.prog w=.ok (.enter 212 args) w:=by kernel_rfl
theorem enters_s7 (args:Array Value) (w:World):(callFunc 205 args).run Tryz.prog w=.ok (.enter 205 args) w:=by kernel_rfl
theorem enters_s8 (args:Array Value) (w:World):(callFunc 211 args).run Tryz.prog w=.ok (.enter 211 args) w:=by kernel_rfl
theorem enters_s9 (args:Array Value) (w:World):(callFunc 215 args).run Tryz.prog w=.ok (.enter 215 args) w:=by kernel_rfl
theorem enters_sw (args:Array Value) (w:World):(callFunc 214 args).run Tryz.prog w=.ok (.enter 214 args) w:=by kernel_rfl
section
variable {w w':World} {M:Mo} {a:Sc} {G:Sh}
theorem shr_ready (hM:MemAt w M) (h:ShAt w a G) (ok:Oksh (lm M) G):Calls Tryz.prog 266 #[ptr a.f,ptr M.m] w fun e w'=>e=.returned (.bool (sready (lm M) G))∧Below w.heap.size w w':=by
 have c1:=(own_hd h.blk).2.1
 unfold srv at c1
 unfold sready
 by_cases h9:G.nx=9
 · rw [if_pos h9] at c1 ⊢
   obtain ⟨o1,o2⟩:=ok.c9 h9
   have hp:=o2.passed
   have hx:M.k.toNat+2≤M.xs.length:=o2.xl
   have hp2:G.W.at_≤2→G.W.passed<M.k.toNat:=hp.2
   exact sready_fm c1 enters_sw (Qs.ready_any hM (h.wt h9) o2.hl (fun q=>by have:=hp2 (by omega); exact ⟨by omega,by omega⟩) (by have:=o2.at_; omega))
 · rw [if_neg h9] at c1 ⊢
   exact sready_f0 c1
theorem shr_step (hM:MemAt w M) (h:ShAt w a G) (ok:Oksh (lm M) G) (hr:sready (lm M) G=true):
 Calls Tryz.prog 267 #[ptr a.f,ptr M.m] w fun e w'=>e=.returned (.bool (sdone (lm M) G))∧shL.Stp w M a G (sstep (lm M) G).1 (sstep (lm M) G).2 w':=by
 have c2:=(own_hd h.blk).2.2.1
 unfold snv at c2
 have hnx:=ok.nx
 have hbk:=ok.bk
 have hnw:=ok.nw
 have hhb:=ok.hb
 by_cases e1:G.nx=1
 · rw [if_pos e1] at c2
   rw [show sdone (lm M) G=false by unfold sdone; rw [if_neg (by omega),if_neg (by omega)]; simp; omega]
   exact sstep_fm c2 enters_s1 (load_step hM h ok.x1 e1)
 rw [if_neg e1] at c2
 obtain ⟨el1,el2⟩:=ok.el e1
 by_cases e2:G.nx=2
 · rw [if_pos e2] at c2
   have ed:sdone (lm M) G= !decide (FM.power ((G.el.1 / 2:Nat):Int)=true∧M.xs.length+G.el.1 / 2≤1048576):=by unfold sdone; rw [if_pos e2]
   by_cases hp:FM.power ((G.el.1 / 2:Nat):Int)=true∧M.xs.length+G.el.1 / 2≤1048576
   · have es:sstep (lm M) G=({lm M with xs:=M.xs++List.replicate (G.el.1 / 2) 0,ds:=M.ds++[(G.el.1 / 2,M.xs.length)]},{G with num:=M.ds.length,err:=0,nw:=(G.el.1 / 2,M.xs.length),nx:=3}):=by
      unfold sstep; rw [if_neg e1,if_pos e2,if_pos hp]
     rw [ed,es,show (!decide (FM.power ((G.el.1 / 2:Nat):Int)=true∧M.xs.length+G.el.1 / 2≤1048576))=false by simp only [decide_eq_true hp]; rfl]
     exact sstep_fm c2 enters_s2 (table_made hM h el1 ok.ds hp.1 hp.2)
   · have es:sstep (lm M) G=(lm M,{G with num:= -1,err:=if FM.power ((G.el.1 / 2:Nat):Int)=true then 2 else 5,nx:=10}):=by
      unfold sstep; rw [if_neg e1,if_pos e2,if_neg hp]
     rw [ed,es,show (!decide (FM.power ((G.el.1 / 2:Nat):Int)=true∧M.xs.length+G.el.1 / 2≤1048576))=true by simp only [decide_eq_false hp]; rfl]
     exact sstep_fm c2 enters_s2 (table_fails hM h el1 hp)
 rw [if_neg e2] at c2
 by_cases e3:G.nx=3
 · rw [if_pos e3] at c2
   rw [show sdone (lm M) G=false by unfold sdone; rw [if_neg (by omega),if_neg (by omega)]; simp; omega]
   have es:sstep (lm M) G=(lm M,{G with fi:=(Cl.nth M.xs (G.el.2+G.bucket)).toNat,nx:=4}):=by unfold sstep; rw [if_neg e1,if_neg e2,if_pos e3]
   rw [es]
   exact sstep_fm c2 enters_s3 (loadFirst_step hM h (ok.c3 e3) el2 hbk)
 rw [if_neg e3] at c2
 by_cases e4:G.nx=4
 · rw [if_pos e4] at c2
   rw [show sdone (lm M) G=false by unfold sdone; rw [if_neg (by omega),if_neg (by omega)]; simp; omega]
   have es:sstep (lm M) G=(lm M,begun {G with sec:=(Cl.nth M.xs (G.el.2+(G.bucket+G.nw.1))).toNat}):=by unfold sstep; rw [if_neg e1,if_neg e2,if_neg e3,if_pos e4]
   rw [es]
   exact sstep_fm c2 enters_s4 (loadSecond_step hM h (ok.c4 e4) el2 (by omega) (by omega) hhb.1)
 rw [if_neg e4] at c2
 by_cases e5:G.nx=5
 · rw [if_pos e5] at c2
   rw [show sdone (lm M) G=false by unfold sdone; rw [if_neg (by omega),if_neg (by omega)]; simp; omega]
   have es:sstep (lm M) G=(lm M,comeTo {G with la:=G.at_,met:=G.at_::G.met} (at' M.ss ((G.at_-1) % 65536)).nd.next.toNat):=by unfold sstep; rw [if_neg e1,if_neg e2,if_neg e3,if_neg e4,if_pos e5]
   rw [es]
   obtain ⟨o1,o2,o3,o4⟩:=ok.c5 e5
   exact sstep_fm c2 enters_s5 (read_step hM h e5 o1 o2 o3 o4 hhb.2 hbk (by omega))
 rw [if_neg e5] at c2
 by_cases e6:G.nx=6
 · rw [if_pos e6] at c2
   rw [show sdone (lm M) G=false by unfold sdone; rw [if_neg (by omega),if_neg (by omega)]; simp; omega]
   have es:sstep (lm M) G=({lm M with ss:=Pu.lnk M.ss G.la G.sec},toStore G):=by unfold sstep; rw [if_neg e1,if_neg e2,if_neg e3,if_neg e4,if_neg e5,if_pos e6]
   rw [es]
   obtain ⟨o1,k,o2⟩:=ok.c6 e6
   exact sstep_fm c2 enters_s6 (join_step hM h o1 o2 hbk (by omega))
 rw [if_neg e6] at c2
 by_cases e7:G.nx=7
 · rw [if_pos e7] at c2
   rw [show sdone (lm M) G=false by unfold sdone; rw [if_neg (by omega),if_neg (by omega)]; simp; omega]
   have es:sstep (lm M) G=({lm M with xs:=M.xs.set (G.nw.2+G.bucket) ((G.fi:Nat):Int)},toNext G):=by unfold sstep; rw [if_neg e1,if_neg e2,if_neg e3,if_neg e4,if_neg e5,if_neg e6,if_pos e7]
   rw [es]
   exact sstep_fm c2 enters_s7 (store_step hM h (ok.c7 e7) hhb.1 hnw.2 hbk (by omega))
 rw [if_neg e7] at c2
 by_cases e8:G.nx=8
 · rw [if_pos e8] at c2
   rw [show sdone (lm M) G=false by unfold sdone; rw [if_neg (by omega),if_neg (by omega)]; simp; omega]
   have es:sstep (lm M) G=({lm M with xs:=M.xs.set 1 G.num},{G with W:=⟨G.worker,0,0,0⟩,nx:=9}):=by unfold sstep; rw [if_neg e1,if_neg e2,if_neg e3,if_neg e4,if_neg e5,if_neg e6,if_neg e7,if_pos e8]
   rw [es]
   exact sstep_fm c2 enters_s8 (count_step hM h ok.x1 (ok.c8 e8))
 rw [if_neg e8] at c2
 have e9:G.nx=9:=by omega
 rw [if_pos e9] at c2
 have ed:sdone (lm M) G=decide (G.W.at_=3):=by unfold sdone; rw [if_neg (by omega),if_pos e9]
 have es:sstep (lm M) G=({lm M with xs:=(wstep M.k.toNat M.xs M.hs G.W).1,hs:=(wstep M.k.toNat M.xs M.hs G.W).2.1},{G with W:=(wstep M.k.toNat M.xs M.hs G.W).2.2}):=by
  unfold sstep; rw [if_neg e1,if_neg e2,if_neg e3,if_neg e4,if_neg e5,if_neg e6,if_neg e7,if_neg e8]
 rw [ed,es]
 obtain ⟨o1,o2⟩:=ok.c9 e9
 unfold sready at hr
 rw [if_pos e9] at hr
 exact sstep_fm c2 enters_s9 (wait_stp hM h e9 (n:=M.k.toNat) (by have:0≤M.k:=o1; omega) o2 hr)
end
theorem shr_frm:Frm shL 140 266 267 Oksh sready sstep sdone where
 below h hb:=h.below hb
 mr b w f:=by kernel_rfl
 ms b w f:=by kernel_rfl
 er args w:=by kernel_rfl
 es args w:=by kernel_rfl
 ready hM h ok:=shr_ready hM h ok
 step hM h ok hr:=shr_step hM h ok hr
end Go.Proofs.YtpobbnllcoabhaaGreat.Sw
namespace Go.Proofs.YtpobbnllcoabhaaGreat.Zp
open Go Hm Ar Mm Wk Pc Me Mq Pu Pn
def hdH (q:List Mq.Hp):Nat:=match q with
 | []=>0
 | e::_=>e.1
theorem Cx.hd {ss:List Sl} {x:Nat} {q:List Mq.Hp} (h:Cx ss x q):x=hdH q:=by
 cases h with
 | nil=>rfl
 | cons a b c=>rfl
theorem Cx.back {ss:List Sl}:∀ (pre:List Mq.Hp) {q:List Mq.Hp} {x:Nat},Cx ss x (pre++q)→Cx ss (hdH q) q:=by
 intro pre
 induction pre with
 | nil=>
   intro q x h
   have h':Cx ss x q:=h
   rw [← Cx.hd h']
   exact h'
 | cons e t ih=>
   intro q x h
   cases h with
   | cons a b c=>exact ih c
theorem lnk_at {ss:List Sl} {x y j:Nat} (hl:ss.length≤1024) (hj:IsAt ss x j) (k:Nat):at' (lnk ss x y) k=if k=j then {at' ss j with nd:={(at' ss j).nd with next:=(y:Int)}} else at' ss k:=by
 have hjp:(x-1) % 65536=j:=(isAt_parts hl hj).1
 unfold lnk
 rw [hjp,at_set hj.1]
theorem lnk_len (ss:List Sl) (x y:Nat):(lnk ss x y).length=ss.length:=by unfold lnk; simp
theorem lnk_live {ss:List Sl} {x y j:Nat} (hl:ss.length≤1024) (hj:IsAt ss x j) {u k:Nat} (hk:IsAt ss u k):IsAt (lnk ss x y) u k:=by
 have h:=lnk_at (y:=y) hl hj k
 refine ⟨by rw [lnk_len]; exact hk.1,?_,?_⟩
 · rw [h]; split
   · rename_i e; subst e; exact hk.2.1
   · exact hk.2.1
 · rw [h]; split
   · rename_i e; subst e; exact hk.2.2
   · exact hk.2.2
theorem lnk_keep {ss:List Sl} {x y j:Nat} (hl:ss.length≤1024) (hj:IsAt ss x j) {u k:Nat} (hk:IsAt ss u k) (hu:u≠x):IsAt (lnk ss x y) u k∧(at' (lnk ss x y) k).nd=(at' ss k).nd:=by
 refine ⟨lnk_live hl hj hk,?_⟩
 rw [lnk_at hl hj,if_neg]
 rintro rfl
 exact hu (by rw [hk.2.2,hj.2.2])
theorem Cx.aside {ss:List Sl} {x y j p:Nat} {q:List Mq.Hp} (hl:ss.length≤1024) (hj:IsAt ss x j) (h:Cx ss p q) (hx:x∉hds q):Cx (lnk ss x y) p q:=
 h.keep fun u hu k hk=>lnk_keep hl hj hk (fun e=>hx (e▸hu))
theorem Cx.relink {ss:List Sl} {j:Nat} {e:Mq.Hp} {d t:List Mq.Hp} (hl:ss.length≤1024) (hj:IsAt ss e.1 j):∀ (pre:List Mq.Hp) (p:Nat),Cx ss p (pre++e::(d++t))→(hds (pre++e::(d++t))).Nodup→Cx (lnk ss e.1 (hdH t)) p (pre++e::t):=by
 intro pre
 induction pre with
 | nil=>
   intro p h hn
   have hn':e.1∉hds (d++t):=(List.nodup_cons.1 hn).1
   cases h with
   | @cons _ k z pp _ a b c=>
     have hkj:k=j:=a.uniq hl hj
     subst hkj
     have ht:Cx (lnk ss p (hdH t)) (hdH t) t:=Cx.aside hl a (Cx.back d c) (fun q=>hn' (by
      simp only [hds,List.map_append,List.mem_append]
      exact .inr q))
     refine .cons (lnk_live hl a a) (z:=hdH t) ?_ ht
     rw [lnk_at hl a,if_pos rfl]
     simp only [b]
     rfl
 | cons e0 r ih=>
   intro p h hn
   have hn':=List.nodup_cons.1 hn
   cases h with
   | @cons _ k z pp _ a b c=>
     have hne:p≠e.1:=by
      rintro rfl
      exact hn'.1 (by simp [hds])
     have:=lnk_keep (y:=hdH t) hl hj a hne
     exact .cons this.1 (this.2.trans b) (ih _ c hn'.2)
structure Zip (ss:List Sl) (σ:ByteArray→Bool) (All:List Mq.Hp) (s:Bool) (x y:Nat) (u r v rest:List Mq.Hp):Prop where
 own:Cx ss x (u++r++rest)
 oth:Cx ss y (v++rest)
 su:∀ e∈u++r,σ e.2.1=s
 sv:∀ e∈v,σ e.2.1= !s
 hd:∀ e t,rest=e::t→σ e.2.1= !s
 ne:rest≠[]→r≠[]
 nd:(hds (u++r++v++rest)).Nodup
 fs:All.filter (fun e=>σ e.2.1==s)=u++r++rest.filter (fun e=>σ e.2.1==s)
 fv:All.filter (fun e=>σ e.2.1== !s)=v++rest.filter (fun e=>σ e.2.1== !s)
section
variable {ss:List Sl} {σ:ByteArray→Bool} {All:List Mq.Hp} {s:Bool} {x y:Nat} {u r v rest:List Mq.Hp}
theorem filter_all {q:List Mq.Hp} {b:Bool} (h:∀ e∈q,σ e.2.1=b):q.filter (fun e=>σ e.2.1==b)=q:=List.filter_eq_self.2 fun e he=>by simp [h e he]
theorem filter_none {q:List Mq.Hp} {b:Bool} (h:∀ e∈q,σ e.2.1= !b):q.filter (fun e=>σ e.2.1==b)=[]:=List.filter_eq_nil_iff.2 fun e he=>by simp [h e he]
theorem zip_new (h:Cx ss x All) (hn:(hds All).Nodup):∃ s r rest,All=r++rest∧Zip ss σ All s x (hdH rest) [] r [] rest:=by
 cases All with
 | nil=>
   refine ⟨true,[],[],rfl,⟨h,.nil,by simp,by simp,by simp,by simp,by simp,by simp,by simp⟩⟩
 | cons e t=>
   have hsp:(e::t)=(e::t).takeWhile (fun a=>σ a.2.1==σ e.2.1)++(e::t).dropWhile (fun a=>σ a.2.1==σ e.2.1):=(List.takeWhile_append_dropWhile).symm
   obtain ⟨r,hr⟩:∃ r,r=(e::t).takeWhile (fun a=>σ a.2.1==σ e.2.1):=⟨_,rfl⟩
   obtain ⟨rest,hrest⟩:∃ q,q=(e::t).dropWhile (fun a=>σ a.2.1==σ e.2.1):=⟨_,rfl⟩
   rw [← hr,← hrest] at hsp
   have hr1:∀ a∈r,σ a.2.1=σ e.2.1:=fun a ha=>by
    rw [hr] at ha
    have:∀ (l:List Mq.Hp),a∈l.takeWhile (fun a=>σ a.2.1==σ e.2.1)→σ a.2.1=σ e.2.1:=by
     intro l
     induction l with
     | nil=>intro q; simp at q
     | cons b l ih=>
       intro q
       rw [List.takeWhile_cons] at q
       split at q
       · rename_i hb
         rcases List.mem_cons.1 q with rfl | q
         · simpa using hb
         · exact ih q
       · simp at q
    exact this _ ha
   have hr2:∀ a t',rest=a::t'→σ a.2.1= !(σ e.2.1):=fun a t' q=>by
    have:∀ (l:List Mq.Hp),l.dropWhile (fun a=>σ a.2.1==σ e.2.1)=a::t'→σ a.2.1= !(σ e.2.1):=by
     intro l
     induction l with
     | nil=>intro q; simp at q
     | cons b l ih=>
       intro q
       rw [List.dropWhile_cons] at q
       split at q
       · exact ih q
       · rename_i hb
         injection q with q1 _
         subst q1
         revert hb
         cases σ b.2.1<;>cases σ e.2.1<;>simp
    exact this _ (hrest▸q)
   have hr3:r≠[]:=by
    rw [hr,List.takeWhile_cons,if_pos (by simp)]
    simp
   refine ⟨σ e.2.1,r,rest,hsp,⟨by rw [List.nil_append,← hsp]; exact h,?_,by simpa using hr1,by simp,hr2,fun _=>hr3,by rw [List.nil_append,List.append_nil,← hsp]; exact hn,?_,?_⟩⟩
   · rw [hsp] at h
     exact Cx.back r h
   · rw [hsp,List.filter_append,filter_all hr1,List.nil_append]
   · rw [hsp,List.filter_append]
     have:=filter_none (σ:=σ) (b:= !(σ e.2.1)) (q:=r) (by simpa using hr1)
     rw [this]
theorem not_r {a:Nat} (h:Zip ss σ All s x y u r v rest) (ha:a∈hds (u++r)):a∉hds (v++rest):=by
 have:=h.nd
 rw [show u++r++v++rest=(u++r)++(v++rest) by simp] at this
 simp only [hds,List.map_append] at this ha ⊢
 intro q
 rw [show List.map (fun x=>x.1) u++List.map (fun x=>x.1) r++(List.map (fun x=>x.1) v++List.map (fun x=>x.1) rest)=(List.map (fun x=>x.1) u++List.map (fun x=>x.1) r)++(List.map (fun x=>x.1) v++List.map (fun x=>x.1) rest) by simp] at this
 exact (List.nodup_append.1 this).2.2 a (by simpa using ha) a (by simpa using q) rfl
theorem Zip.link (h:Zip ss σ All s x y u r v rest) (hl:ss.length≤1024) {r0 d t:List Mq.Hp} {e:Mq.Hp} (hr:r=r0++[e]) (hd:rest=d++t) (hd0:d≠[]) (hds':∀ a∈d,σ a.2.1= !s) (ht:∀ a t',t=a::t'→σ a.2.1=s):
 Zip (lnk ss e.1 (hdH t)) σ All (!s) y x v d (u++r) t:=by
 subst hr hd
 have hown:=h.own
 rw [show u++(r0++[e])++(d++t)=(u++r0)++e::(d++t) by simp] at hown
 obtain ⟨j,_,hj,_⟩:=hown.at e (by simp)
 have hnd:=h.nd
 have hn1:(hds ((u++r0)++e::(d++t))).Nodup:=by
  have:(hds ((u++r0)++e::(d++t))).Sublist (hds (u++(r0++[e])++v++(d++t))):=by
   apply List.Sublist.map
   rw [show u++r0++e::(d++t)=(u++(r0++[e]))++(d++t) by simp,show u++(r0++[e])++v++(d++t)=(u++(r0++[e]))++(v++(d++t)) by simp]
   exact List.Sublist.append_left (List.sublist_append_right _ _) _
  exact this.nodup hnd
 refine ⟨?_,?_,?_,?_,?_,fun _=>hd0,?_,?_,?_⟩
 · have:=Cx.aside (y:=hdH t) hl hj h.oth (not_r h (by simp [hds]))
   simpa using this
 · have:=Cx.relink hl hj (u++r0) x hown hn1
   simpa using this
 · intro a ha
   rcases List.mem_append.1 ha with q | q
   · exact h.sv a q
   · exact hds' a q
 · intro a ha
   rw [Bool.not_not]
   exact h.su a ha
 · intro a t' q
   rw [Bool.not_not]
   exact ht a t' q
 · have hp:(hds (v++d++(u++(r0++[e]))++t)).Perm (hds (u++(r0++[e])++v++(d++t))):=by
    apply List.Perm.map
    rw [show u++(r0++[e])++v++(d++t)=(u++(r0++[e])++(v++d))++t by simp]
    exact List.Perm.append_right t List.perm_append_comm
   exact hp.nodup_iff.2 hnd
 · have hfv:=h.fv
   rw [hfv,List.filter_append,filter_all hds',List.append_assoc]
 · have hfs:=h.fs
   rw [Bool.not_not,hfs,List.filter_append,filter_none hds',List.nil_append]
theorem Zip.parted (h:Zip ss σ All s x y u r v []):Cx ss x (All.filter fun e=>σ e.2.1==s)∧Cx ss y (All.filter fun e=>σ e.2.1== !s):=by
 have h1:=h.own
 have h2:=h.oth
 have h3:=h.fs
 have h4:=h.fv
 simp only [List.filter_nil,List.append_nil] at h1 h2 h3 h4
 rw [h3,h4]
 exact ⟨h1,h2⟩
end
/-! ### readers-/
def Std (σ:ByteArray→Bool) (s:Bool) (u r v rest:List Mq.Hp) (old:Prop) (key:ByteArray) (q:List Mq.Hp):Prop:=
 (σ key=s∧q<:+u++r++rest)∨(σ key= !s∧q<:+v++rest)∨(old∧σ key= !s∧q<:+r++rest)
section
variable {ss:List Sl} {σ:ByteArray→Bool} {All:List Mq.Hp} {s:Bool} {x y:Nat} {u r v rest q:List Mq.Hp} {old:Prop} {key:ByteArray}
theorem Std.next {e:Mq.Hp} (h:Std σ s u r v rest old key (e::q)):Std σ s u r v rest old key q:=by
 have hq:q<:+e::q:=List.suffix_cons _ _
 rcases h with ⟨a,b⟩ | ⟨a,b⟩ | ⟨o,a,b⟩
 · exact .inl ⟨a,hq.trans b⟩
 · exact .inr (.inl ⟨a,hq.trans b⟩)
 · exact .inr (.inr ⟨o,a,hq.trans b⟩)
theorem Std.mono {old':Prop} (h:Std σ s u r v rest old key q) (ho:old→old'):Std σ s u r v rest old' key q:=by
 rcases h with h | h | ⟨o,h⟩
 · exact .inl h
 · exact .inr (.inl h)
 · exact .inr (.inr ⟨ho o,h⟩)
theorem lk_skip {a d t:List Mq.Hp} {key:ByteArray} (hk:∀ e∈d,e.2.1≠key):lk (prs (a++(d++t))) key=lk (prs (a++t)) key:=by
 induction a with
 | cons e a ih=>
   simp only [List.cons_append,prs,List.map_cons,lk]
   simp only [prs] at ih
   rw [ih]
 | nil=>
   simp only [List.nil_append]
   induction d with
   | nil=>rfl
   | cons e d ih=>
     simp only [List.cons_append,prs,List.map_cons,lk]
     rw [if_neg (hk e (by simp))]
     exact ih fun e he=>hk e (List.mem_cons_of_mem _ he)
theorem suffix_split {a b q:List Mq.Hp} (h:q<:+a++b):q<:+b∨∃ a',a'≠[]∧a'<:+a∧q=a'++b:=by
 obtain ⟨p,hp⟩:=h
 rcases List.append_eq_append_iff.1 hp with ⟨c,h1,h2⟩ | ⟨c,h1,h2⟩
 · by_cases hc:c=[]
   · subst hc
     exact .inl ⟨[],by simpa using h2⟩
   · exact .inr ⟨c,hc,⟨p,h1.symm⟩,h2⟩
 · exact .inl ⟨c,h2.symm⟩
theorem suffix_last {a:List Mq.Hp} {c:List Mq.Hp} {e:Mq.Hp} (h:c<:+a++[e]) (hc:c≠[]):∃ c0,c=c0++[e]:=by
 obtain ⟨p,hp⟩:=h
 have h1:c=c.dropLast++[c.getLast hc]:=(List.dropLast_concat_getLast hc).symm
 rw [h1,← List.append_assoc] at hp
 have:=List.append_inj' hp rfl
 have h2:c.getLast hc=e:=by simpa using this.2
 exact ⟨c.dropLast,by rw [← h2]; exact h1⟩
theorem Std.link (h:Zip ss σ All s x y u r v rest) (hl:ss.length≤1024) {r0 d t:List Mq.Hp} {e:Mq.Hp} (hr:r=r0++[e]) (hd:rest=d++t) (hds':∀ a∈d,σ a.2.1= !s) {p:Nat} (hq:Cx ss p q) (hst:Std σ s u r v rest False key q):
 ∃ q',Cx (lnk ss e.1 (hdH t)) p q'∧lk (prs q') key=lk (prs q) key∧q'.length≤q.length∧Std σ (!s) v d (u++r) t True key q':=by
 subst hr hd
 have hown:=h.own
 obtain ⟨j,_,hj,_⟩:=hown.at e (by simp)
 have hnn:∀ {q:List Mq.Hp},q<:+v++(d++t)→e.1∉hds q:=fun hs hm=>not_r h (a:=e.1) (by simp [hds]) ((hs.map (·.1)).subset hm)
 rcases hst with ⟨hk,hs⟩ | ⟨hk,hs⟩ | ⟨hf,_⟩
 · have hkd:∀ a∈d,a.2.1≠key:=fun a ha q=>by
    have:=hds' a ha
    rw [q,hk] at this
    revert this
    cases s<;>simp
   rcases suffix_split hs with hs1 | ⟨c,hc,hcs,rfl⟩
   ·
    refine ⟨q,Cx.aside hl hj hq (hnn (hs1.trans (List.suffix_append _ _))),rfl,Nat.le_refl _,?_⟩
    rcases suffix_split hs1 with hs2 | ⟨c,hc,hcs,rfl⟩
    · exact .inr (.inl ⟨by rw [Bool.not_not]; exact hk,hs2.trans (List.suffix_append _ _)⟩)
    · exact .inr (.inr ⟨trivial,by rw [Bool.not_not]; exact hk,by
       obtain ⟨a,ha⟩:=hcs
       exact ⟨a,by rw [← List.append_assoc,ha]⟩⟩)
   ·
    rw [← List.append_assoc] at hcs
    obtain ⟨c0,rfl⟩:=suffix_last hcs hc
    have hn1:(hds (c0++e::(d++t))).Nodup:=by
     have h1:(c0++[e]++(d++t)).Sublist (u++(r0++[e])++v++(d++t)):=by
      rw [show u++(r0++[e])++v++(d++t)=(u++r0++[e])++(v++(d++t)) by simp]
      exact List.Sublist.append hcs.sublist (List.sublist_append_right _ _)
     rw [show c0++e::(d++t)=c0++[e]++(d++t) by simp]
     exact (h1.map _).nodup h.nd
    rw [show c0++[e]++(d++t)=c0++e::(d++t) by simp] at hq
    refine ⟨c0++e::t,Cx.relink hl hj c0 p hq hn1,?_,by simp,?_⟩
    · rw [show c0++e::t=(c0++[e])++t by simp,lk_skip hkd]
    · refine .inr (.inl ⟨by rw [Bool.not_not]; exact hk,?_⟩)
      obtain ⟨a,ha⟩:=hcs
      exact ⟨a,by rw [show u++(r0++[e])++t=(u++r0++[e])++t by simp,← ha]; simp⟩
 · refine ⟨q,Cx.aside hl hj hq (hnn hs),rfl,Nat.le_refl _,.inl ⟨hk,?_⟩⟩
   rw [List.append_assoc]
   exact hs
 · exact absurd hf id
end
end Go.Proofs.YtpobbnllcoabhaaGreat.Zp
namespace Go.Proofs.YtpobbnllcoabhaaGreat.Zp
open Go Hm Ar Mm Wk Pc Me Mq Pn Gt Qs
structure Wy where
 Pos:(Nat→Prop)→ByteArray→List Mq.Hp→Prop
 Cel:(Nat→Prop)→ByteArray→Nat→Prop
 few:Nat
 cap:Nat
 pub:Bool
structure Wy.Ok (Y:Wy) (L:Lm) (l:List Pr):Prop where
 k:1≤L.k∧L.k≤8
 wl:∀ w:Nat,(w:Int)<L.k→2+w<L.xs.length
 xb:∀ x∈L.xs,0≤x∧x≤18446744073709551615
 nexts:Nexts L.ss
 len:L.ss.length≤1024
 F:L.F=false
 p1:1≤Cl.nth L.xs 0
 tb:∀ i,(tab L.ds i).1≤65536∧(tab L.ds i).2≤4000000
 few:Y.few≤900∧Y.few≤Y.cap∧Y.cap≤1000000
 next:∀ {o:Nat→Prop} {key:ByteArray} {e:Mq.Hp} {q:List Mq.Hp},Y.Pos o key (e::q)→Y.Pos o key q
 mono:∀ {o o':Nat→Prop} {key:ByteArray} {q:List Mq.Hp},(∀ e,o e→o' e)→Y.Pos o key q→Y.Pos o' key q
 celm:∀ {o o':Nat→Prop} {key:ByteArray} {c:Nat},(∀ e,o e→o' e)→Y.Cel o key c→Y.Cel o' key c
 cel:∀ {o:Nat→Prop} {key:ByteArray} {c:Nat},Y.Cel o key c→c≤5000000∧∃ q,Cx L.ss (word L.xs c) q∧Y.Pos o key q∧Pc.lk (prs q) key=Pc.lk l key∧q.length≤Y.few
 now:∀ (o:Nat→Prop) (key:ByteArray),(Y.pub=false→∀ e,o e)→∃ c:Nat,Gt.cellOf (sm key) (Me.now L.xs L.ds)=(c:Int)∧Y.Cel o key c
section
variable {Y Y':Wy} {L L':Lm} {l:List Pr} {old old':Int→Nat→Prop} {w k:Nat} {key:ByteArray} {G:Gt.Ge}
inductive Rph (Y:Wy) (L:Lm) (l:List Pr) (old:Int→Nat→Prop) (key:ByteArray) (G:Gt.Ge):Nat→Prop
 | come:G.nx=1→G.C.at_=0→Rph Y L l old key G (Y.few+5)
 | put:G.nx=1→G.C.at_=1→Rph Y L l old key G (Y.few+4)
 | load:G.nx=2→Rph Y L l old key G (Y.few+3)
 | first (c:Nat):G.nx=3→G.W=new 0 (c:Int) (sm key) key→c≤5000000→Y.Cel (old G.C.period) key c→Rph Y L l old key G (Y.few+2)
 | look (q:List Mq.Hp):G.nx=3→G.W.nx=2→G.W.key=key→G.W.sum=sm key→G.W.found=0→G.W.nd.val=⟨#[]⟩→q≠[]→Cx L.ss G.W.at_ q→Y.Pos (old G.C.period) key q→
    Pc.lk (prs q) key=Pc.lk l key→G.W.read+q.length≤Y.cap→G.W.at_≤18446744073709551615→ -9223372036854775808≤G.W.cell∧G.W.cell≤9223372036854775807→Rph Y L l old key G (q.length+1)
 | leave:G.nx=4→Gt.Fits (Pc.lk l key) G.W→Rph Y L l old key G 1
structure Rok (Y:Wy) (L:Lm) (l:List Pr) (old:Int→Nat→Prop) (w:Nat) (key:ByteArray) (G:Gt.Ge) (k:Nat):Prop where
 ky:G.key=key
 sum:G.sum=sm key
 wk:G.C.worker=w
 gat:G.gat=0
 pd:0≤G.C.period∧G.C.period≤18446744073709551615
 cnt:Cl.nth L.xs (2+w)=if 2≤G.nx then G.C.period else 0
 pr:(G.nx=1∧G.C.at_=0)∨(1≤G.C.period∧G.C.period≤Cl.nth L.xs 0)
 ph:Rph Y L l old key G k
theorem Rok.to (h:Rok Y L l old w key G k) (hc:Cl.nth L'.xs (2+w)=Cl.nth L.xs (2+w)) (h0:Cl.nth L.xs 0≤Cl.nth L'.xs 0) (hs:L'.ss=L.ss) (hf:Y'.few=Y.few) (hcp:Y.cap≤Y'.cap)
 (hC:∀ c,2≤G.nx→Y.Cel (old G.C.period) key c→Y'.Cel (old' G.C.period) key c) (hP:∀ q,2≤G.nx→Y.Pos (old G.C.period) key q→Y'.Pos (old' G.C.period) key q):Rok Y' L' l old' w key G k:=by
 refine ⟨h.ky,h.sum,h.wk,h.gat,h.pd,by rw [hc]; exact h.cnt,h.pr.imp id (fun q=>⟨q.1,Int.le_trans q.2 h0⟩),?_⟩
 cases h.ph with
 | come a b=>rw [← hf]; exact .come a b
 | put a b=>rw [← hf]; exact .put a b
 | load a=>rw [← hf]; exact .load a
 | first c a b hcb q=>rw [← hf]; exact .first c a b hcb (hC c (by omega) q)
 | look q a1 a2 a3 a4 a5 a6 a7 a8 a9 a10 a11 a12 a13=>exact .look q a1 a2 a3 a4 a5 a6 a7 (by rw [hs]; exact a8) (hP q (by omega) a9) a10 (by omega) a12 a13
 | leave a b=>exact .leave a b
theorem Rok.moved (h:Rok Y L l old w key G k) (hc:Cl.nth L'.xs (2+w)=Cl.nth L.xs (2+w)) (h0:Cl.nth L.xs 0≤Cl.nth L'.xs 0) (hs:L'.ss=L.ss):Rok Y L' l old w key G k:=
 h.to hc h0 hs rfl (Nat.le_refl _) (fun _ _ q=>q) (fun _ _ q=>q)
theorem Rok.mono (hY:Y.Ok L l) (h:Rok Y L l old w key G k) (ho:2≤G.nx→∀ e,old G.C.period e→old' G.C.period e):Rok Y L l old' w key G k:=
 h.to rfl (Int.le_refl _) rfl rfl (Nat.le_refl _) (fun _ hx=>hY.celm (ho hx)) (fun _ hx=>hY.mono (ho hx))
end
end Go.Proofs.YtpobbnllcoabhaaGreat.Zp
namespace Go.Proofs.YtpobbnllcoabhaaGreat.Zp
open Go Hm Ar Mm Wk Pc Me Mq Pn Gt Qs
def oldW (W:Wt) (w:Nat) (p:Int) (_:Nat):Prop:=W.at_≤1∨(W.at_=2∧W.passed≤w∧p<W.period)
theorem oldW_over {W:Wt} (h:3≤W.at_) (w:Nat) (p:Int) (e:Nat):¬oldW W w p e:=by
 rintro (q | q)<;>omega
section
variable {Y:Wy} {L:Lm} {l:List Pr} {w k n:Nat} {key:ByteArray} {G:Gt.Ge} {W:Wt}
theorem sum64_in {x:Int} (h0:0≤x) (h1:x≤4611686018427387904):Cl.sum64 x 1=x+1:=by
 unfold Cl.sum64
 omega
theorem Rok.waits (hY:Y.Ok L l) (hb:Cl.nth L.xs 0≤4611686018427387904) (hr:readyB L.xs L.hs W=true) (hp0:W.at_≤1→W.passed=0) (h3:W.at_≤3) (hw:w<n) (hn:(n:Int)≤L.k) (h:Rok Y L l (oldW W w) w key G k):
 Rok Y {L with xs:=(wstep n L.xs L.hs W).1,hs:=(wstep n L.xs L.hs W).2.1} l (oldW (wstep n L.xs L.hs W).2.2 w) w key G k:=by
 have hk:=hY.k
 have hxl:=hY.wl 0 (by omega)
 have h0:=Cl.getD_bd hY.xb 0
 have hs:=sum64_in h0.1 hb
 unfold wstep
 split
 · have ho:2≤G.nx→∀ e,oldW W w G.C.period e→oldW {W with at_:=1} w G.C.period e:=fun _ _ _=>.inl (by simp)
   exact h.to (L':={L with hs:=L.hs.set 0 W.worker}) rfl (Int.le_refl _) rfl rfl (Nat.le_refl _) (fun _ hx=>hY.celm (ho hx)) (fun _ hx=>hY.mono (ho hx))
 split
 · rename_i h1
   have hn:∀ i,i≠0→Cl.nth (L.xs.set 0 (Cl.sum64 (Cl.nth L.xs 0) 1)) i=Cl.nth L.xs i:=fun i hi=>by
    rw [nth_set _ _ _ (by omega),if_neg hi]
   have ho:2≤G.nx→∀ e,oldW W w G.C.period e→oldW {W with period:=Cl.sum64 (Cl.nth L.xs 0) 1,at_:=2} w G.C.period e:=fun hx _ _=>by
    refine .inr ⟨rfl,?_,?_⟩
    · show W.passed≤w
      rw [hp0 (by omega)]
      exact Nat.zero_le _
    · show G.C.period<Cl.sum64 (Cl.nth L.xs 0) 1
      rw [hs]
      have:=h.pr.resolve_left (fun q=>by omega)
      omega
   refine h.to (L':={L with xs:=L.xs.set 0 (Cl.sum64 (Cl.nth L.xs 0) 1)}) (hn _ (by omega)) ?_ rfl rfl (Nat.le_refl _) (fun _ hx=>hY.celm (ho hx)) (fun _ hx=>hY.mono (ho hx))
   show _≤Cl.nth (L.xs.set 0 (Cl.sum64 (Cl.nth L.xs 0) 1)) 0
   rw [nth_set _ _ _ (by omega),if_pos rfl,hs]
   omega
 split
 · rename_i h2
   refine h.mono hY fun hx _ ho=>?_
   have hc:=h.cnt
   rw [if_pos hx] at hc
   have hp:=h.pr.resolve_left (fun q=>by omega)
   rcases ho with q | ⟨_,q1,q2⟩
   · omega
   unfold readyB passB at hr
   rw [if_neg (by omega),if_pos h2] at hr
   have hr:=of_decide_eq_true hr
   have hne:W.passed≠w:=by
    intro e
    rw [e,hc] at hr
    omega
   refine .inr ⟨?_,?_,q2⟩
   · show (if n≤W.passed+1 then 3 else 2)=2
     rw [if_neg (by omega)]
   · show W.passed+1≤w
     omega
 · have ho:2≤G.nx→∀ e,oldW W w G.C.period e→oldW {W with at_:=4} w G.C.period e:=fun _ _ ho=>by
    rcases ho with q | q<;>omega
   exact h.to (L':={L with hs:=L.hs.set 0 (-1)}) rfl (Int.le_refl _) rfl rfl (Nat.le_refl _) (fun _ hx=>hY.celm (ho hx)) (fun _ hx=>hY.mono (ho hx))
end
structure Rn where
 w:Nat
 keys:List ByteArray
 g:Option Gt.Ge
 n:Nat
def Rn.key (R:Rn):ByteArray:=R.keys.getD (R.n % R.keys.length) ⟨#[]⟩
def RnOk (Y:Wy) (L:Lm) (l:List Pr) (old:Nat→Int→Nat→Prop) (R:Rn) (k:Nat):Prop:=
 match R.g with
 | none=>Cl.nth L.xs (2+R.w)=0∧k=0
 | some G=>Rok Y L l (old R.w) R.w R.key G k
section
variable {Y Y':Wy} {L L':Lm} {l:List Pr} {old old':Nat→Int→Nat→Prop} {R O:Rn} {k k':Nat}
theorem RnOk.moved (h:RnOk Y L l old R k) (hc:Cl.nth L'.xs (2+R.w)=Cl.nth L.xs (2+R.w)) (h0:Cl.nth L.xs 0≤Cl.nth L'.xs 0) (hs:L'.ss=L.ss):RnOk Y L' l old R k:=by
 unfold RnOk at h ⊢
 split
 · rename_i q
   rw [q] at h
   exact ⟨hc.trans h.1,h.2⟩
 · rename_i G q
   rw [q] at h
   exact h.moved hc h0 hs
theorem RnOk.to {L':Lm} (h:RnOk Y L l old R k) (hc:Cl.nth L'.xs (2+R.w)=Cl.nth L.xs (2+R.w)) (h0:Cl.nth L.xs 0≤Cl.nth L'.xs 0) (hs:L'.ss=L.ss) (hf:Y'.few=Y.few) (hcp:Y.cap≤Y'.cap)
 (hC:∀ key c p,Y.Cel (old R.w p) key c→Y'.Cel (old' R.w p) key c) (hP:∀ key q p,Y.Pos (old R.w p) key q→Y'.Pos (old' R.w p) key q):RnOk Y' L' l old' R k:=by
 unfold RnOk at h ⊢
 split
 · rename_i q
   rw [q] at h
   exact ⟨hc.trans h.1,h.2⟩
 · rename_i G q
   rw [q] at h
   exact h.to hc h0 hs hf hcp (fun _ _=>hC _ _ _) (fun _ _=>hP _ _ _)
theorem RnOk.waits {n:Nat} {W:Wt} (hY:Y.Ok L l) (hb:Cl.nth L.xs 0≤4611686018427387904) (hr:readyB L.xs L.hs W=true) (hp0:W.at_≤1→W.passed=0) (h3:W.at_≤3) (hw:R.w<n) (hn:(n:Int)≤L.k) (h:RnOk Y L l (oldW W) R k):
 RnOk Y {L with xs:=(wstep n L.xs L.hs W).1,hs:=(wstep n L.xs L.hs W).2.1} l (oldW (wstep n L.xs L.hs W).2.2) R k:=by
 unfold RnOk at h ⊢
 split
 · rename_i q
   rw [q] at h
   refine ⟨?_,h.2⟩
   show Cl.nth (wstep n L.xs L.hs W).1 _=_
   unfold wstep
   split
   · exact h.1
   split
   · have hxl:=hY.wl R.w (by omega)
     show Cl.nth (L.xs.set 0 _) _=_
     rw [nth_set _ _ _ (by omega),if_neg (by omega)]
     exact h.1
   split<;>exact h.1
 · rename_i G q
   rw [q] at h
   exact Rok.waits hY hb hr hp0 h3 hw hn h
end
end Go.Proofs.YtpobbnllcoabhaaGreat.Zp
namespace Go.Proofs.YtpobbnllcoabhaaGreat.Zp
open Go Hm Ar Mm Wk Pc Me Mq Pu Pn Gt
def sd (n:Nat) (key:ByteArray):Bool:=decide (n≤bkt key (2*n))
theorem bkt_mod {n:Nat} (hp:FM.power n=true) (key:ByteArray):bkt key n=(sm key).toNat % n:=by
 have h:=sm_bd key
 have hn:=FM.power_bd hp
 unfold bkt FM.bucket
 rw [if_pos hp]
 obtain ⟨a,ha⟩:=Int.eq_ofNat_of_zero_le h.1
 rw [ha]
 simp only [Int.toNat_natCast]
 rw [← Int.natCast_emod,Int.toNat_natCast]
theorem bkt_two {n:Nat} (hp:FM.power n=true) (hp2:FM.power ((2*n:Nat):Int)=true) (key:ByteArray):bkt key (2*n) % n=bkt key n∧bkt key (2*n)<2*n∧bkt key (2*n)=bkt key n+(if sd n key=true then n else 0):=by
 have h1:=bkt_mod hp key
 have h2:=bkt_mod hp2 key
 have hn:=FM.power_bd hp
 have h3:bkt key (2*n) % n=bkt key n:=by
  rw [h1,h2,Nat.mod_mul_left_mod]
 have h4:bkt key (2*n)<2*n:=by rw [h2]; exact Nat.mod_lt _ (by omega)
 refine ⟨h3,h4,?_⟩
 have h5:bkt key n<n:=by rw [h1]; exact Nat.mod_lt _ (by omega)
 unfold sd
 by_cases q:n≤bkt key (2*n)
 · rw [if_pos (by simp [q])]
   have:bkt key (2*n) % n=bkt key (2*n)-n:=by
    rw [Nat.mod_eq_sub_mod q,Nat.mod_eq_of_lt (by omega)]
   omega
 · rw [if_neg (by simp [q])]
   rw [Nat.mod_eq_of_lt (by omega)] at h3
   omega
structure Zs where
 n:Nat
 B:Nat
 B2:Nat
 few:Nat
 cap:Nat
 pub:Bool
 All:Nat→List Mq.Hp
 s:Nat→Bool
 X:Nat→Nat
 Y:Nat→Nat
 u:Nat→List Mq.Hp
 r:Nat→List Mq.Hp
 v:Nat→List Mq.Hp
 rest:Nat→List Mq.Hp
def Zs.head (Z:Zs) (b:Nat):Nat:=if decide (Z.n≤b)=Z.s (b % Z.n) then Z.X (b % Z.n) else Z.Y (b % Z.n)
def Zs.fresh (Z:Zs) (e:Nat):Prop:=Z.u e=[]∧Z.v e=[]∧Z.All e=Z.r e++Z.rest e
structure Zs.Ok (Z:Zs) (L:Lm) (l:List Pr):Prop where
 pw:FM.power Z.n=true
 pw2:FM.power ((2*Z.n:Nat):Int)=true
 now:Me.now L.xs L.ds=if Z.pub=true then (2*Z.n,Z.B2) else (Z.n,Z.B)
 tb:∀ i,(tab L.ds i).1≤65536∧(tab L.ds i).2≤4000000
 k:1≤L.k∧L.k≤8
 kB:2+L.k≤Z.B
 xl:Z.B+Z.n≤L.xs.length∧Z.B+Z.n≤Z.B2∧(Z.pub=true→Z.B2+2*Z.n≤L.xs.length)
 bb:Z.B2≤4000000
 xb:∀ x∈L.xs,0≤x∧x≤18446744073709551615
 nexts:Nexts L.ss
 len:L.ss.length≤1024
 elder:∀ e,e<Z.n→Cl.nth L.xs (Z.B+e)=((hdH (Z.All e):Nat):Int)
 newer:Z.pub=true→∀ b,b<2*Z.n→Cl.nth L.xs (Z.B2+b)=((Z.head b:Nat):Int)
 zip:∀ e,e<Z.n→Zip L.ss (sd Z.n) (Z.All e) (Z.s e) (Z.X e) (Z.Y e) (Z.u e) (Z.r e) (Z.v e) (Z.rest e)
 lk:∀ key,Pc.lk l key=Pc.lk (prs (Z.All (bkt key Z.n))) key
 F:L.F=false
 p1:1≤Cl.nth L.xs 0
 few:(∀ e,e<Z.n→(Z.All e).length≤Z.few)∧Z.few≤900∧Z.few≤Z.cap∧Z.cap≤1000000
 fr:Z.pub=false→∀ e,e<Z.n→Z.fresh e
 dj:∀ e e',e<Z.n→e'<Z.n→e≠e'→∀ a∈hds (Z.All e),a∉hds (Z.All e')
theorem Zip.length {ss:List Sl} {σ:ByteArray→Bool} {All:List Mq.Hp} {s:Bool} {x y:Nat} {u r v rest:List Mq.Hp} (h:Zip ss σ All s x y u r v rest):u.length+r.length+v.length+rest.length=All.length:=by
 have hf:∀ (q:List Mq.Hp),(q.filter fun e=>σ e.2.1==s).length+(q.filter fun e=>σ e.2.1== !s).length=q.length:=by
  intro q
  induction q with
  | nil=>rfl
  | cons e t ih=>
    rw [List.filter_cons,List.filter_cons]
    cases σ e.2.1<;>cases s<;>simp at ih ⊢<;>omega
 have h1:=hf All
 have h2:=hf rest
 rw [h.fs,h.fv] at h1
 simp only [List.length_append] at h1
 omega
section
variable {Z:Zs} {L:Lm} {l:List Pr} {w:Nat}
theorem Zs.Ok.way (hZ:Z.Ok L l) (key:ByteArray):∃ q,Cx L.ss (Z.head (bkt key (2*Z.n))) q∧Std (sd Z.n) (Z.s (bkt key Z.n)) (Z.u (bkt key Z.n)) (Z.r (bkt key Z.n)) (Z.v (bkt key Z.n)) (Z.rest (bkt key Z.n)) False key q∧Pc.lk (prs q) key=Pc.lk l key∧q.length≤(Z.All (bkt key Z.n)).length:=by
 obtain ⟨h1,h2,h3⟩:=bkt_two hZ.pw hZ.pw2 key
 have he:bkt key Z.n<Z.n:=(bkt_lt hZ.pw key).1
 have hz:=hZ.zip _ he
 have hsd:decide (Z.n≤bkt key (2*Z.n))=sd Z.n key:=rfl
 have hlk:∀ (q:List Mq.Hp) (b:Bool),b=sd Z.n key→Pc.lk (prs (q.filter fun e=>sd Z.n e.2.1==b)) key=Pc.lk (prs q) key:=by
  intro q b hb
  induction q with
  | nil=>rfl
  | cons e t ih=>
    rw [List.filter_cons]
    by_cases hk:e.2.1=key
    · rw [if_pos (by rw [hk,hb]; simp)]
      simp only [prs,List.map_cons,Pc.lk,if_pos hk]
    · split
      · simp only [prs,List.map_cons,Pc.lk,if_neg hk] at ih ⊢
        exact ih
      · simp only [prs,List.map_cons,Pc.lk,if_neg hk] at ih ⊢
        exact ih
 have hall:=hZ.lk key
 unfold Zs.head
 rw [h1,hsd]
 by_cases hs:sd Z.n key=Z.s (bkt key Z.n)
 · rw [if_pos hs]
   refine ⟨_,hz.own,.inl ⟨hs,List.suffix_refl _⟩,?_,by have:=Zip.length hz; simp only [List.length_append]; omega⟩
   rw [hall,← hlk (Z.All (bkt key Z.n)) (Z.s (bkt key Z.n)) hs.symm,hz.fs,← hlk (Z.u (bkt key Z.n)++Z.r (bkt key Z.n)++Z.rest (bkt key Z.n)) (Z.s (bkt key Z.n)) hs.symm,List.filter_append,filter_all hz.su]
 · rw [if_neg hs]
   have hs':sd Z.n key= !(Z.s (bkt key Z.n)):=by
    revert hs
    cases sd Z.n key<;>cases Z.s (bkt key Z.n)<;>simp
   refine ⟨_,hz.oth,.inr (.inl ⟨hs',List.suffix_refl _⟩),?_,by have:=Zip.length hz; simp only [List.length_append]; omega⟩
   rw [hall,← hlk (Z.All (bkt key Z.n)) (!(Z.s (bkt key Z.n))) hs'.symm,hz.fv,← hlk (Z.v (bkt key Z.n)++Z.rest (bkt key Z.n)) (!(Z.s (bkt key Z.n))) hs'.symm,List.filter_append,filter_all hz.sv]
theorem Zs.Ok.elderWay (hZ:Z.Ok L l) (key:ByteArray) (hf:Z.fresh (bkt key Z.n)) {o:Prop} (ho:o):Cx L.ss (hdH (Z.All (bkt key Z.n))) (Z.All (bkt key Z.n))∧Std (sd Z.n) (Z.s (bkt key Z.n)) (Z.u (bkt key Z.n)) (Z.r (bkt key Z.n)) (Z.v (bkt key Z.n)) (Z.rest (bkt key Z.n)) o key (Z.All (bkt key Z.n)):=by
 have he:bkt key Z.n<Z.n:=(bkt_lt hZ.pw key).1
 have hz:=hZ.zip _ he
 obtain ⟨f1,f2,f3⟩:=hf
 have hc:Cx L.ss (Z.X (bkt key Z.n)) (Z.All (bkt key Z.n)):=by
  have:=hz.own
  rw [f1,List.nil_append,← f3] at this
  exact this
 refine ⟨by rw [← Cx.hd hc]; exact hc,?_⟩
 by_cases hs:sd Z.n key=Z.s (bkt key Z.n)
 · exact .inl ⟨hs,by rw [f1,List.nil_append,← f3]; exact List.suffix_refl _⟩
 · refine .inr (.inr ⟨ho,?_,by rw [← f3]; exact List.suffix_refl _⟩)
   revert hs
   cases sd Z.n key<;>cases Z.s (bkt key Z.n)<;>simp
def Zs.wy (Z:Zs):Wy:=⟨fun o key q=>Std (sd Z.n) (Z.s (bkt key Z.n)) (Z.u (bkt key Z.n)) (Z.r (bkt key Z.n)) (Z.v (bkt key Z.n)) (Z.rest (bkt key Z.n)) (o (bkt key Z.n)) key q,
 fun o key c=>(c=Z.B2+bkt key (2*Z.n)∧Z.pub=true)∨(c=Z.B+bkt key Z.n∧o (bkt key Z.n)∧Z.fresh (bkt key Z.n)),Z.few,Z.cap,Z.pub⟩
theorem Zs.Ok.wl (hZ:Z.Ok L l) (w:Nat) (hw:(w:Int)<L.k):2+w<L.xs.length:=by
 have hkB:=hZ.kB
 have hxl:=hZ.xl.1
 have hn:=FM.power_bd hZ.pw
 omega
theorem Zs.Ok.ways (hZ:Z.Ok L l):Z.wy.Ok L l:=by
 have hbd:=hZ.bb
 have hxl:=hZ.xl
 have hn1:=FM.power_bd hZ.pw
 refine ⟨hZ.k,hZ.wl,hZ.xb,hZ.nexts,hZ.len,hZ.F,hZ.p1,hZ.tb,hZ.few.2,fun h=>Std.next h,fun ho h=>Std.mono h (ho _),fun ho h=>h.imp id (fun q=>⟨q.1,ho _ q.2.1,q.2.2⟩),fun {o key c} hc=>?_,fun o key ho=>?_⟩
 · obtain ⟨t1,t2,t3⟩:=bkt_two hZ.pw hZ.pw2 key
   have he:bkt key Z.n<Z.n:=(bkt_lt hZ.pw key).1
   rcases hc with ⟨rfl,hp⟩ | ⟨rfl,ho,hf⟩
   · obtain ⟨q,q1,q2,q3,q4⟩:=hZ.way key
     have hw1:word L.xs ((Z.B2+bkt key (2*Z.n):Nat):Int)=Z.head (bkt key (2*Z.n)):=by
      unfold word
      rw [if_pos (by have:=hxl.2.2 hp; omega),Int.toNat_natCast,hZ.newer hp _ t2,Int.toNat_natCast]
     rw [hw1]
     exact ⟨by omega,q,q1,q2.mono (fun f=>absurd f id),q3,Nat.le_trans q4 (hZ.few.1 _ he)⟩
   · obtain ⟨q1,q2⟩:=hZ.elderWay key hf ho
     have hw1:word L.xs ((Z.B+bkt key Z.n:Nat):Int)=hdH (Z.All (bkt key Z.n)):=by
      unfold word
      rw [if_pos (by omega),Int.toNat_natCast,hZ.elder _ he,Int.toNat_natCast]
     rw [hw1]
     exact ⟨by omega,_,q1,q2,(hZ.lk key).symm,hZ.few.1 _ he⟩
 · have he:bkt key Z.n<Z.n:=(bkt_lt hZ.pw key).1
   have hnow:=hZ.now
   cases hp:Z.pub with
   | true=>
     rw [hp,if_pos rfl] at hnow
     refine ⟨Z.B2+bkt key (2*Z.n),?_,.inl ⟨rfl,hp⟩⟩
     rw [hnow]
     unfold Gt.cellOf
     simp only
     rw [if_neg (by omega),(bkt_lt hZ.pw2 key).2]
     simp
   | false=>
     rw [hp,if_neg (by simp)] at hnow
     refine ⟨Z.B+bkt key Z.n,?_,.inr ⟨rfl,ho hp _,hZ.fr hp _ he⟩⟩
     rw [hnow]
     unfold Gt.cellOf
     simp only
     rw [if_neg (by omega),(bkt_lt hZ.pw key).2]
     simp
end
end Go.Proofs.YtpobbnllcoabhaaGreat.Zp
