/- Walks and plain mathematics, put together in their order: TabB, TabC, TabD, AwakeOne, LawKit, LawTwoA, AwakeThree, AwakeFour, LawFiveA, Made, TabE, SeekA, SeekB, Lnk, SeekC, PutA, PutB, PutD. -/
import Derived.Test.YtpanebgakndddaaGreatTabA
import Derived.Test.YtpanebgakndddaaGreatFnvWalk
import Derived.Test.YtpanebgakndddaaGreatKit
import Derived.Carry
import Derived.ProofKit
import Derived.OpenShut
import Derived.Below
import Derived.Deep.Slices
import Derived.Deep.Fields
import Derived.Test.YtpanebgakndddaaGreatRows
import Derived.Test.YtpanebgakndddaaGreatCellsWalk
import Derived.Test.YtpanebgakndddaaGreatLocksWalk
import Derived.Test.YtpanebgakndddaaGreatRowKit
import Derived.Test.YtpanebgakndddaaGreatArenaMake
import Derived.Test.YtpanebgakndddaaGreatMemNew
import Derived.Test.YtpanebgakndddaaGreatFinish
import Derived.Test.YtpanebgakndddaaGreatFrm
import Derived.Test.YtpanebgakndddaaGreatGetC
import Derived.Test.YtpanebgakndddaaGreatLm
set_option linter.unusedVariables false
set_option linter.unusedSimpArgs false
namespace Go.Proofs.YtpanebgakndddaaGreat.Ta
open Go Go.RowKit Hp K Fl Rw Hm Ar Mm Me
set_option maxRecDepth 100000
theorem Da (a b:Int) (w:World):(Instr.field 141 (.agg #[.int .i64 a,.int .i64 b]) 0).run Tryz.prog w=.ok (.int .i64 a) w:=by kernel_rfl
section
variable {w w':World} {M:Mo} {H:Ho}
theorem n7:∀ x,Cl.aQ M.g M.A x->aq M x:=fun _ h=>.inr (.inl h)
theorem iu:∀ x,Lo.aQ M.lg M.lb x->aq M x:=fun _ h=>.inr (.inr (.inl h))
theorem cH.nA {S:Nat->Prop} (h:cH w H) (hM:ah w M) (ho:ab S w w') (hS:∀ x,S x->aq M x):cH w' H:=h.only ho (fun hs=>h.aB hM (hS _ hs))
theorem JV {s:Int} {d:Nat×Nat} (hs:0<=s/\s<4294967296) (hd:d.1<=65536) (w:World):Calls Tryz.prog 216 #[.int .u32 s,.int .i64 d.1] w fun e w'=>e=.returned (.int .i64 (fy s d))/\w=w':=by
 have h:=Sr s d.1 w hs.1 hs.2 (by omega) (by omega)
 rw [US d hs.1] at h
 exact h
def Aa (M:Mo) (H:Ho):Bool:=decide (Lo.aF M.hs (fy H.sum (aO M.ds H.num))= -1)
set_option maxHeartbeats 1000000 in
theorem xf (hM:ah w M) (hH:cH w H) (ok:pZ M H):
 Calls Tryz.prog 199 #[ptr H.f,ptr M.m] w fun e w'=>e=.returned (.bool (Aa M H))/\Below w.heap.size w w':=by
 obtain ⟨c0,c1,c2,c3,c4,c5,c6,c7,c8⟩:=hH.hd
 have d1:=hM.hd.2.1
 have lM:=hM.1.lt
 have lf:=hH.lt
 have hL:=Lib.hid (fun nq=>(JU (hM.drewN nq) (hH.drewN nq) ok.num).mono fun e w2 h=>And.intro h.1 (show Below w.heap.size w w2 from (show Below w.heap.size w (w.drewN nq) from ⟨rfl,rfl,rfl,Nat.le_refl _,fun _ _=>rfl⟩).trans h.2))
 have hW:=Lib.hid (fun w=>JV (d:=aO M.ds H.num) ok.sum ok.dn w)
 have hO:=Lib.hid (fun w' (hb:Below w.heap.size w w')=>Lo.tR (hM.below hb).2.2.1 _ ok.lb)
 have hk:=xk (aO M.ds H.num) ok.sum.1
 have hb:=Lo.zJ hM.2.2.1.2.2.1 (fy H.sum (aO M.ds H.num))
 have hw:=ok.wk.1
 have yc:decide (0<=H.worker)=true:=by simpa using hw
 have LH:Aa M H=decide (Lo.aF M.hs (fy H.sum (aO M.ds H.num))= -1):=rfl
 rw [LH]
 unfold dv at hL
 clear LH hM hH ok c2 c3 c4 c5 c6 c7 c8
 generalize Lo.aF M.hs (fy H.sum (aO M.ds H.num))=z at*
 generalize fy H.sum (aO M.ds H.num)=k at*
 generalize aO M.ds H.num=d at*
 generalize H.f=f at*
 have bc:∀ w',Below w.heap.size w w'->w'.cell? ⟨M.m,1,none⟩=some (ptr M.lg)/\w'.cell? ⟨f,0,none⟩=some (.int .i64 H.worker)/\w'.cell? ⟨f,1,none⟩=some (.int .u32 H.sum):=fun w' hb=>by
  have h:=IV hb
  exact ⟨(h.1 _ 1 lM).trans d1,(h.1 _ 0 lf).trans c0,(h.1 _ 1 lf).trans c1⟩
 replace bc:=Lib.hid bc
 have dn:=Da
 go_enter Tryz.func199,Tryz.ntmps199
 go_wp2_with fail
 go_region_held3 (fun w'=>w'.cell? ⟨M.m,1,none⟩=some (ptr M.lg)/\w'.cell? ⟨f,0,none⟩=some (.int .i64 H.worker)/\w'.cell? ⟨f,1,none⟩=some (.int .u32 H.sum)) (go_keep)
  (first
    | (go_at_call 217
       refine (hL.out 1).mono ?_
       rintro e w2 ⟨rfl,au⟩
       obtain ⟨s1,s2,s3⟩:=bc.out w2 au
       have ae:=Lib.hid (hO.out w2 au)
       replace au:=Lib.hid au)
    | (go_at_call 216
       refine (hW.out _).mono ?_
       rintro e w3 ⟨rfl,rfl⟩)
    | (go_at_call 97
       refine ae.out.mono ?_
       rintro e w4 ⟨rfl,xK⟩
       obtain rfl:w2=w4:=xK.symm))
 all_goals
  go_wp2_with fail
  go_ret
  exact ⟨K.kZ (by simp [BEq.beq]),au.out⟩
theorem cH.oZ (h:af w H.f 243 (DJ H)) (n:Nat):af ((w.setCell ⟨H.f,2,none⟩ (rdv n H.f)).setCell ⟨H.f,3,none⟩ (xo n H.f)) H.f 243 (DJ {H with nx:=n}):=(h.store 2 _).store 3 _
theorem cH.dc (h:cH w H):w.frozen? ⟨H.f,2,none⟩=false/\w.frozen? ⟨H.f,3,none⟩=false/\w.frozen? ⟨H.f,4,none⟩=false/\w.frozen? ⟨H.f,5,none⟩=false/\w.frozen? ⟨H.f,6,none⟩=false/\w.frozen? ⟨H.f,7,none⟩=false/\w.frozen? ⟨H.f,8,none⟩=false:=
 ⟨h.frozen 2,h.frozen 3,h.frozen 4,h.frozen 5,h.frozen 6,h.frozen 7,h.frozen 8⟩
theorem xp (h:cH w H) {F G n:Nat} {a b:Array Value} (e1:rdv n H.f=.func (.func F) a #[]) (e2:xo n H.f=.func (.func G) b #[]):
 Calls Tryz.prog 170 #[ptr H.f,.func (.func F) a #[],.func (.func G) b #[]] w fun e w'=>e=.returned (.tuple #[])/\cH w' {H with nx:=n}/\ab (·=H.f) w w':=by
 refine (et h.hd.2.2.1 h.hd.2.2.2.1 h.dc.1 h.dc.2.1).mono ?_
 rintro e w' ⟨rfl,rfl⟩
 refine ⟨rfl,?_,((ab.refl (·=H.f) w).setCell (.inl rfl) _).setCell (.inl rfl) _⟩
 have:=cH.oZ h n
 rw [e1,e2] at this
 exact this
theorem wC (hM:ah w M) (hH:cH w H) (hx:1<M.xs.length):
 Calls Tryz.prog 172 #[ptr H.f,ptr M.m] w fun e w'=>e=.returned (.bool false)/\cH w' {H with nx:=2,num:=(Cl.nth M.xs 1).toNat}/\ab (·=H.f) w w':=by
 have hL:=Lib.hid (Cl.nh hM.2.1 1 hx)
 have c4:=hH.hd.2.2.2.2.1
 have z4:=hH.dc.2.2.1
 have d0:=hM.hd.1
 have hv:=Cl.eU hM.2.1.2.2.1 1
 obtain ⟨z,hz⟩:=Int.eq_ofNat_of_zero_le hv.1
 rw [hz] at hL ⊢
 rw [Int.toNat_natCast]
 have HH:=Lib.hid hH
 clear hM hH hv hz
 go_enter Tryz.func172,Tryz.ntmps172
 go_wp2_with (go_at_call 90; refine hL.out.mono ?_; rintro e w' ⟨rfl,hw⟩; obtain rfl:w=w':=hw.symm)
 have hS:cH (w.setCell ⟨H.f,4,none⟩ (.int .u64 z)) {H with num:=z}:=af.store HH.out 4 _
 have dO:=Lib.hid (((ab.refl (·=H.f) w).setCell (p:=⟨H.f,4,none⟩) (.inl rfl) (.int .u64 z)))
 refine (xp hS (n:=2) rfl rfl).mono ?_
 rintro e w2 ⟨rfl,ag,ae⟩
 replace ag:=Lib.hid ag
 replace ae:=Lib.hid ae
 clear hS
 go_wp2_with fail
 go_ret
 exact ⟨rfl,ag.out,dO.out.trans ae.out⟩
end
end Go.Proofs.YtpanebgakndddaaGreat.Ta
namespace Go.Proofs.YtpanebgakndddaaGreat.Ta
open Go Go.RowKit Hp K Fl Rw Hm Ar Mm Me
set_option maxRecDepth 100000
section
variable {w w':World} {M:Mo} {H:Ho}
set_option maxHeartbeats 2000000 in
theorem Di (hM:ah w M) (hH:cH w H) (ok:pZ M H) (hf:Lo.aF M.hs (fy H.sum (aO M.ds H.num))<0):
 Calls Tryz.prog 200 #[ptr H.f,ptr M.m] w fun e w'=>e=.returned (.bool false)/\ah w' {M with hs:=M.hs.set (fy H.sum (aO M.ds H.num)) H.worker}/\
  cH w' {H with nx:=3,d:=aO M.ds H.num,lock:=fy H.sum (aO M.ds H.num)}/\ab (fun x=>aq M x\/x=H.f) w w':=by
 obtain ⟨c0,c1,c2,c3,c4,c5,c6,c7,c8⟩:=hH.hd
 have d1:=hM.hd.2.1
 have lM:=hM.1.lt
 have lf:=hH.lt
 have hL:=Lib.hid (JU hM hH ok.num)
 have hW:=Lib.hid (fun w=>JV (d:=aO M.ds H.num) ok.sum ok.dn w)
 have hk:=xk (aO M.ds H.num) ok.sum.1
 have hT:=Lib.hid (fun w' (hb:Below w.heap.size w w') nq=>Lo.vS ((hM.below hb).drewN nq).2.2.1 _ ok.lb H.worker ok.wk.1 ok.wk.2 hf)
 have HM:=Lib.hid hM
 have HH:=Lib.hid hH
 have bc:∀ w',Below w.heap.size w w'->w'.cell? ⟨M.m,1,none⟩=some (ptr M.lg)/\w'.cell? ⟨H.f,0,none⟩=some (.int .i64 H.worker)/\w'.cell? ⟨H.f,1,none⟩=some (.int .u32 H.sum):=fun w' hb=>by
  have h:=IV hb
  exact ⟨(h.1 _ 1 lM).trans d1,(h.1 _ 0 lf).trans c0,(h.1 _ 1 lf).trans c1⟩
 replace bc:=Lib.hid bc
 unfold dv at hL
 clear hM hH ok hf c0 c1 c2 c3 c4 c5 c6 c7 c8 d1
 generalize cf:fy H.sum (aO M.ds H.num)=k at*
 generalize yF:aO M.ds H.num=d at*
 replace cf:=Lib.hid cf
 replace yF:=Lib.hid yF
 go_enter Tryz.func200,Tryz.ntmps200
 go_wp2_with fail
 refine hL.out.mono ?_
 rintro e w1 ⟨rfl,av⟩
 have cA:=av.size
 obtain ⟨s1,s2,s3⟩:=bc.out w1 av
 replace av:=Lib.hid av
 have lM1:M.m<w1.heap.size:=by omega
 have lf1:H.f<w1.heap.size:=by omega
 clear hL
 go_wp2_with fail
 obtain ⟨b,ml⟩:∃ b,b=w1.heap.size:=⟨_,rfl⟩
 rw [<-ml]
 have hB:af (w1.alloc (.cells #[.int .i64 d.1,.int .i64 d.2] 141)) b 141 #[.int .i64 d.1,.int .i64 d.2]:=by rw [ml]; exact af.made w1 _ _
 have au:=av.out.alloc (o:=.cells #[.int .i64 d.1,.int .i64 d.2] 141) cA
 generalize w1.alloc (.cells #[.int .i64 d.1,.int .i64 d.2] 141)=w2 at*
 replace ml:=Lib.hid ml
 clear s1 s2 s3
 obtain ⟨s1,s2,s3⟩:=bc.out w2 au
 have k0:=hB.cell 0
 have k1:=hB.cell 1
 simp at k0 k1
 have VZ:=au.size
 have lb:=hB.lt
 replace hB:=Lib.hid hB
 replace au:=Lib.hid au
 have dn:=Da
 go_quiet ((go_at_call 216; exact Calls.quiet_of_same ((hW.out _).mono fun _ _ h=>⟨h.1,h.2.symm⟩)))
 obtain ⟨w3,cX⟩:∃ w3,w3=w2.drewN nq:=⟨_,rfl⟩
 have ay:af w3 b 141 #[.int .i64 d.1,.int .i64 d.2]:=by rw [cX]; exact hB.out
 have aR:Below w.heap.size w w3:=by rw [cX]; exact au.out.trans ⟨rfl,rfl,rfl,Nat.le_refl _,fun _ _=>rfl⟩
 rw [<-cX]
 replace cX:=Lib.hid cX
 clear s1 s2 s3 k0 k1
 obtain ⟨s1,s2,s3⟩:=bc.out w3 aR
 have XB:=Lib.hid (hT.out w3 aR 1)
 have pD:=Lib.hid (fun w4 (hL:Lo.gF w4 M.lg M.lb (M.hs.set k H.worker)) (hO:ab (Lo.aQ M.lg M.lb) (w3.drewN 1) w4)=>by
  have rq:ab (Lo.aQ M.lg M.lb) w3 w4:=((ab.refl (Lo.aQ M.lg M.lb) w3).drewN 1).trans hO
  have bB:=HM.out.below aR
  have tB:=HH.out.below aR
  exact (⟨bB.mI hL rq,tB.nA bB rq iu,af.only ay rq (fun hx=>(sL bB.2.2.1 hx).apart (bm ay) (by decide)),(ab.aA aR (fun x=>aq M x\/x=H.f)).trans (rq.mono (fun x _ q=>.inl (iu _ q)))⟩:
   ah w4 {M with hs:=M.hs.set k H.worker}/\cH w4 H/\af w4 b 141 #[.int .i64 d.1,.int .i64 d.2]/\ab (fun x=>aq M x\/x=H.f) w w4))
 replace ay:=Lib.hid ay
 replace aR:=Lib.hid aR
 clear hB au hT hW
 go_wp2_with fail
 go_region_held3 (fun w'=>w'.cell? ⟨M.m,1,none⟩=some (ptr M.lg)/\w'.cell? ⟨H.f,0,none⟩=some (.int .i64 H.worker)) (go_keep)
  (first
    | (go_at_call 103
       refine XB.out.mono ?_
       rintro e w4 ⟨rfl,LI,aN⟩
       obtain ⟨dP,jB,az,Fq⟩:=pD.out w4 LI aN
       have t1:=dP.hd.2.1
       have t2:=jB.hd.1
       have t5:=jB.hd.2.2.2.2.2.1
       have t6:=jB.hd.2.2.2.2.2.2.1
       have t7:=jB.hd.2.2.2.2.2.2.2.1
       obtain ⟨_,_,_,y5,y6,y7,_⟩:=jB.dc
       have k0:=az.cell 0
       have k1:=az.cell 1
       simp at t1 k0 k1
       replace dP:=Lib.hid dP
       replace jB:=Lib.hid jB
       replace az:=Lib.hid az
       replace Fq:=Lib.hid Fq
       clear LI aN))
 all_goals
  go_wp2_with fail
  have hS:cH (((w4.setCell ⟨H.f,5,none⟩ (.int .i64 d.1)).setCell ⟨H.f,6,none⟩ (.int .i64 d.2)).setCell ⟨H.f,7,none⟩ (.int .i64 k)) {H with d:=d,lock:=k}:=((jB.out.store 5 _).store 6 _).store 7 _
  have fc:=Lib.hid ((((Fq.out.setCell (p:=⟨H.f,5,none⟩) (.inl (.inr rfl)) (.int .i64 d.1)).setCell (p:=⟨H.f,6,none⟩) (.inl (.inr rfl)) (.int .i64 d.2))).setCell (p:=⟨H.f,7,none⟩) (.inl (.inr rfl)) (.int .i64 k))
  have df:=dP.out.only (((((ab.refl (·=H.f) w4).setCell (p:=⟨H.f,5,none⟩) (.inl rfl) (.int .i64 d.1)).setCell (p:=⟨H.f,6,none⟩) (.inl rfl) (.int .i64 d.2))).setCell (p:=⟨H.f,7,none⟩) (.inl rfl) (.int .i64 k)) (fun x hx q=>by subst q; exact jB.out.aB dP.out hx)
  refine (xp hS (n:=3) rfl rfl).mono ?_
  rintro e w5 ⟨rfl,vv,bN⟩
  have ia:=Lib.hid (df.only bN (fun x hx q=>by subst q; exact hS.aB df hx))
  replace vv:=Lib.hid vv
  have XC:=Lib.hid (fc.out.trans (bN.mono (fun x _ q=>.inr q)))
  clear hS df bN t1 t2 t5 t6 t7 y5 y6 y7 k0 k1 s1 s2 s3
  go_wp2_with fail
  go_ret
  exact ⟨rfl,ia.out,vv.out,XC.out⟩
end
end Go.Proofs.YtpanebgakndddaaGreat.Ta
namespace Go.Proofs.YtpanebgakndddaaGreat.Ta
open Go Go.RowKit Hp K Fl Rw Hm Ar Mm Me
set_option maxRecDepth 100000
section
variable {w w':World} {M:Mo} {H:Ho}
theorem UT (hM:ah w M) (hH:cH w H) (hx:1<M.xs.length) (he:Cl.nth M.xs 1=H.num):
 Calls Tryz.prog 218 #[ptr H.f,ptr M.m] w fun e w'=>e=.returned (.bool true)/\cH w' {H with nx:=5,holds:=true}/\ab (·=H.f) w w':=by
 have hL:=Lib.hid (Cl.nh hM.2.1 1 hx)
 rw [he] at hL
 have c4:=hH.hd.2.2.2.2.1
 have c8:=hH.hd.2.2.2.2.2.2.2.2
 have z8:=hH.dc.2.2.2.2.2.2
 have d0:=hM.hd.1
 have HH:=Lib.hid hH
 clear hM hH he
 go_enter Tryz.func218,Tryz.ntmps218
 go_wp2_with (go_at_call 90; refine hL.out.mono ?_; rintro e w' ⟨rfl,hw⟩; obtain rfl:w=w':=hw.symm)
 have hS:cH (w.setCell ⟨H.f,8,none⟩ (.bool true)) {H with holds:=true}:=af.store HH.out 8 _
 have dO:=Lib.hid (((ab.refl (·=H.f) w).setCell (p:=⟨H.f,8,none⟩) (.inl rfl) (.bool true)))
 refine (xp hS (n:=5) rfl rfl).mono ?_
 rintro e w2 ⟨rfl,ag,ae⟩
 replace ag:=Lib.hid ag
 replace ae:=Lib.hid ae
 clear hS
 go_wp2_with fail
 go_ret
 exact ⟨rfl,ag.out,dO.out.trans ae.out⟩
theorem UU (hM:ah w M) (hH:cH w H) (hx:1<M.xs.length) (he:Cl.nth M.xs 1≠H.num):
 Calls Tryz.prog 218 #[ptr H.f,ptr M.m] w fun e w'=>e=.returned (.bool false)/\cH w' {H with nx:=4}/\ab (·=H.f) w w':=by
 have hL:=Lib.hid (Cl.nh hM.2.1 1 hx)
 have c4:=hH.hd.2.2.2.2.1
 have d0:=hM.hd.1
 have HH:=Lib.hid hH
 have aL:(Cl.nth M.xs 1 != (H.num:Int))=true:=by simpa using he
 clear hM hH he
 generalize Cl.nth M.xs 1=z at*
 go_enter Tryz.func218,Tryz.ntmps218
 go_wp2_with (go_at_call 90; refine hL.out.mono ?_; rintro e w' ⟨rfl,hw⟩; obtain rfl:w=w':=hw.symm)
 refine (xp HH.out (n:=4) rfl rfl).mono ?_
 rintro e w2 ⟨rfl,ag,ae⟩
 replace ag:=Lib.hid ag
 replace ae:=Lib.hid ae
 go_wp2_with fail
 go_ret
 exact ⟨rfl,ag.out,ae.out⟩
set_option maxHeartbeats 1000000 in
theorem UW (hM:ah w M) (hH:cH w H) (ok:pZ M H) (hl:H.lock<M.hs.length) (hh:Lo.aF M.hs H.lock=H.worker):
 Calls Tryz.prog 228 #[ptr H.f,ptr M.m] w fun e w'=>e=.returned (.bool false)/\ah w' {M with hs:=M.hs.set H.lock (-1)}/\cH w' {H with nx:=1}/\ab (fun x=>aq M x\/x=H.f) w w':=by
 have hT:=Lib.hid (fun nq=>Lo.wW (hM.drewN nq).2.2.1 H.lock hl H.worker ok.wk.1 hh)
 have c0:=hH.hd.1
 have c7:=hH.hd.2.2.2.2.2.2.2.1
 have d1:=hM.hd.2.1
 have HM:=Lib.hid hM
 have HH:=Lib.hid hH
 have lM:=hM.1.lt
 have lf:=hH.lt
 clear hM hH ok hl hh
 go_enter Tryz.func228,Tryz.ntmps228
 go_wp2_with fail
 go_region_held3 (fun w'=>w'.cell? ⟨M.m,1,none⟩=some (ptr M.lg)/\w'.cell? ⟨H.f,0,none⟩=some (.int .i64 H.worker)/\w'.cell? ⟨H.f,7,none⟩=some (.int .i64 H.lock)) (go_keep)
  (first
    | (go_at_call 166
       refine (hT.out 1).mono ?_
       rintro e w2 ⟨rfl,gd,ae⟩
       have cg:=((ab.refl (Lo.aQ M.lg M.lb) w).drewN 1).trans ae
       have aI:=HM.out.mI gd cg
       have iN:=HH.out.nA HM.out cg iu
       have s1:=aI.hd.2.1
       have s2:=iN.hd.1
       have s3:=iN.hd.2.2.2.2.2.2.2.1
       simp at s1
       replace cg:=Lib.hid cg
       replace aI:=Lib.hid aI
       replace iN:=Lib.hid iN
       clear gd ae))
 all_goals
  go_wp2_with fail
  refine (xp iN.out (n:=1) rfl rfl).mono ?_
  rintro e w3 ⟨rfl,ay,an⟩
  have bB:=Lib.hid (aI.out.only an (fun x hx q=>by subst q; exact iN.out.aB aI.out hx))
  have fN:=Lib.hid ((cg.out.mono (fun x _ q=>(.inl (iu _ q):aq M x\/x=H.f))).trans (an.mono (fun x _ q=>.inr q)))
  replace ay:=Lib.hid ay
  clear an s1 s2 s3
  go_wp2_with fail
  go_ret
  exact ⟨rfl,bB.out,ay.out,fN.out⟩
set_option maxHeartbeats 1000000 in
theorem Ix (hM:ah w M) (hH:cH w H) (ok:pZ M H) (hl:H.lock<M.hs.length) (hh:Lo.aF M.hs H.lock=H.worker) (hs:H.holds=true):
 Calls Tryz.prog 149 #[ptr H.f,ptr M.m] w fun e w'=>e=.returned (.bool true)/\ah w' {M with hs:=M.hs.set H.lock (-1)}/\cH w' {H with holds:=false}/\ab (fun x=>aq M x\/x=H.f) w w':=by
 have c0:=hH.hd.1
 have c7:=hH.hd.2.2.2.2.2.2.2.1
 have c8:=hH.hd.2.2.2.2.2.2.2.2
 rw [hs] at c8
 have z8:=hH.dc.2.2.2.2.2.2
 have d1:=hM.hd.2.1
 have lM:=hM.1.lt
 have lf:=hH.lt
 have hS:cH (w.setCell ⟨H.f,8,none⟩ (.bool false)) {H with holds:=false}:=af.store hH 8 _
 have fc:=(ab.refl (·=H.f) w).setCell (p:=⟨H.f,8,none⟩) (.inl rfl) (.bool false)
 have df:=hM.only fc (fun x hx q=>by subst q; exact hH.aB hM hx)
 replace fc:=Lib.hid fc
 have hT:=Lib.hid (fun nq=>Lo.wW (df.drewN nq).2.2.1 H.lock hl H.worker ok.wk.1 hh)
 have aL:M.m≠H.f:=fun e=>hH.aB hM (.inl e.symm)
 replace df:=Lib.hid df
 replace hS:=Lib.hid hS
 clear hM hH ok hl hh hs
 go_enter Tryz.func149,Tryz.ntmps149
 go_upto_region 4 with (fail)
 clear c0 c7 c8 z8 d1 aL
 generalize w.setCell ⟨H.f,8,none⟩ (.bool false)=w1 at*
 have c0:=hS.out.hd.1
 have c7:=hS.out.hd.2.2.2.2.2.2.2.1
 have d1:=df.out.hd.2.1
 simp only at c0 c7
 have Xz:=df.out.1.lt
 have KT:H.f<w1.heap.size:=hS.out.lt
 go_wp2_with fail
 go_region_held3 (fun w'=>w'.cell? ⟨M.m,1,none⟩=some (ptr M.lg)/\w'.cell? ⟨H.f,0,none⟩=some (.int .i64 H.worker)/\w'.cell? ⟨H.f,7,none⟩=some (.int .i64 H.lock)) (go_keep)
  (first
    | (go_at_call 166
       refine (hT.out 1).mono ?_
       rintro e w2 ⟨rfl,gd,ae⟩
       have cg:=((ab.refl (Lo.aQ M.lg M.lb) w1).drewN 1).trans ae
       have aI:=df.out.mI gd cg
       have iN:=hS.out.nA df.out cg iu
       have s1:=aI.hd.2.1
       have s2:=iN.hd.1
       have s3:=iN.hd.2.2.2.2.2.2.2.1
       simp at s1 s2 s3
       replace cg:=Lib.hid cg
       replace aI:=Lib.hid aI
       replace iN:=Lib.hid iN
       clear gd ae))
 all_goals
  have fN:=Lib.hid ((fc.out.mono (fun x _ q=>(.inr q:aq M x\/x=H.f))).trans (cg.out.mono (fun x _ q=>.inl (iu _ q))))
  go_wp2_with fail
  go_ret
  exact ⟨rfl,aI.out,iN.out,fN.out⟩
theorem RE (hH:cH w H):Calls Tryz.prog 147 #[ptr H.f] w fun e w'=>e=.returned (.int .i64 (if H.holds=true then (H.lock:Int) else-1))/\w'=w:=by
 have c7:=hH.hd.2.2.2.2.2.2.2.1
 have c8:=hH.hd.2.2.2.2.2.2.2.2
 clear hH
 generalize H.lock=k at*
 cases hs:H.holds with
 | true=>
   rw [hs] at c8
   go_enter Tryz.func147,Tryz.ntmps147
   go_wp2
   go_ret
   exact ⟨rfl,rfl⟩
 | false=>
   rw [hs] at c8
   go_enter Tryz.func147,Tryz.ntmps147
   go_wp2
   go_ret
   exact ⟨rfl,rfl⟩
theorem Iw (hH:cH w H):Calls Tryz.prog 148 #[ptr H.f] w fun e w'=>e=.returned (dv (if H.holds=true then H.d else (0,0)))/\Below w.heap.size w w':=by
 have c5:=hH.hd.2.2.2.2.2.1
 have c6:=hH.hd.2.2.2.2.2.2.1
 have c8:=hH.hd.2.2.2.2.2.2.2.2
 have lf:=hH.lt
 clear hH
 generalize H.d=d at*
 cases hs:H.holds with
 | true=>
   rw [hs] at c8
   go_enter Tryz.func148,Tryz.ntmps148
   go_wp2
   exact bodyPost_ret (v:=dv d) (by simp [results,Tryz.results148,go_sem,dv]) rfl ⟨rfl,by first | exact ((Below.refl _ _).alloc (Nat.le_refl _) _) | exact (((Below.refl _ _).alloc (Nat.le_refl _) _).setCell (by simp) _).setCell (by simp) _⟩
 | false=>
   rw [hs] at c8
   go_enter Tryz.func148,Tryz.ntmps148
   go_wp2
   exact bodyPost_ret (v:=dv (0,0)) (by simp [results,Tryz.results148,go_sem,dv]) rfl ⟨rfl,by first | exact ((Below.refl _ _).alloc (Nat.le_refl _) _) | exact (((Below.refl _ _).alloc (Nat.le_refl _) _).setCell (by simp) _).setCell (by simp) _⟩
/-! ### what comes next-/
theorem UX (args:Array Value) (w:World):(callFunc 199 args).run Tryz.prog w=.ok (.enter 199 args) w:=by kernel_rfl
theorem UY (args:Array Value) (w:World):(callFunc 171 args).run Tryz.prog w=.ok (.enter 171 args) w:=by kernel_rfl
theorem DL (args:Array Value) (w:World):(callFunc 229 args).run Tryz.prog w=.ok (.enter 229 args) w:=by kernel_rfl
theorem DM (args:Array Value) (w:World):(callFunc 172 args).run Tryz.prog w=.ok (.enter 172 args) w:=by kernel_rfl
theorem UZ (args:Array Value) (w:World):(callFunc 200 args).run Tryz.prog w=.ok (.enter 200 args) w:=by kernel_rfl
theorem JW (args:Array Value) (w:World):(callFunc 218 args).run Tryz.prog w=.ok (.enter 218 args) w:=by kernel_rfl
theorem U0 (args:Array Value) (w:World):(callFunc 228 args).run Tryz.prog w=.ok (.enter 228 args) w:=by kernel_rfl
theorem mJ {F f:Nat} {cv m:Value} {c:Bool} {P:World->Prop} (c3:w.cell? ⟨f,3,none⟩=some (sP F cv)) (eF:∀ args w,(callFunc F args).run Tryz.prog w=.ok (.enter F args) w)
 (hF:Calls Tryz.prog F #[cv,m] w fun e w'=>e=.returned (.bool c)/\P w'):Calls Tryz.prog 173 #[ptr f,m] w fun e w'=>e=.returned (.bool c)/\P w':=by
 replace hF:=Lib.hid hF
 go_enter Tryz.func173,Tryz.ntmps173
 go_wp2_with fail
 refine hF.out.mono ?_
 rintro e w' ⟨rfl,bq⟩
 replace bq:=Lib.hid bq
 clear c3
 go_wp2_with fail
 go_ret
 exact ⟨rfl,bq.out⟩
theorem U1 {F f:Nat} {m:Value} {c:Bool} {P:World->Prop} (c3:w.cell? ⟨f,3,none⟩=some (zZ F)) (eF:∀ args w,(callFunc F args).run Tryz.prog w=.ok (.enter F args) w)
 (hF:Calls Tryz.prog F #[m] w fun e w'=>e=.returned (.bool c)/\P w'):Calls Tryz.prog 173 #[ptr f,m] w fun e w'=>e=.returned (.bool c)/\P w':=by
 replace hF:=Lib.hid hF
 go_enter Tryz.func173,Tryz.ntmps173
 go_wp2_with fail
 refine hF.out.mono ?_
 rintro e w' ⟨rfl,bq⟩
 replace bq:=Lib.hid bq
 clear c3
 go_wp2_with fail
 go_ret
 exact ⟨rfl,bq.out⟩
theorem Dy {F f:Nat} {cv m:Value} {c:Bool} {P:World->Prop} (c3:w.cell? ⟨f,2,none⟩=some (sP F cv)) (eF:∀ args w,(callFunc F args).run Tryz.prog w=.ok (.enter F args) w)
 (hF:Calls Tryz.prog F #[cv,m] w fun e w'=>e=.returned (.bool c)/\P w'):Calls Tryz.prog 141 #[ptr f,m] w fun e w'=>e=.returned (.bool c)/\P w':=by
 replace hF:=Lib.hid hF
 go_enter Tryz.func141,Tryz.ntmps141
 go_wp2_with fail
 refine hF.out.mono ?_
 rintro e w' ⟨rfl,bq⟩
 replace bq:=Lib.hid bq
 clear c3
 go_wp2_with fail
 go_ret
 exact ⟨rfl,bq.out⟩
theorem Dx {F f:Nat} {m:Value} {c:Bool} {P:World->Prop} (c3:w.cell? ⟨f,2,none⟩=some (zZ F)) (eF:∀ args w,(callFunc F args).run Tryz.prog w=.ok (.enter F args) w)
 (hF:Calls Tryz.prog F #[m] w fun e w'=>e=.returned (.bool c)/\P w'):Calls Tryz.prog 141 #[ptr f,m] w fun e w'=>e=.returned (.bool c)/\P w':=by
 replace hF:=Lib.hid hF
 go_enter Tryz.func141,Tryz.ntmps141
 go_wp2_with fail
 refine hF.out.mono ?_
 rintro e w' ⟨rfl,bq⟩
 replace bq:=Lib.hid bq
 clear c3
 go_wp2_with fail
 go_ret
 exact ⟨rfl,bq.out⟩
/-! ### a step,whole-/
def xq (M:Mo) (H:Ho):Bool:=if H.nx=2 then Aa M H else true
def kK (M:Mo) (H:Ho):Mo×Ho:=
 if H.nx=1 then (M,{H with nx:=2,num:=(Cl.nth M.xs 1).toNat})
 else if H.nx=2 then ({M with hs:=M.hs.set (fy H.sum (aO M.ds H.num)) H.worker},{H with nx:=3,d:=aO M.ds H.num,lock:=fy H.sum (aO M.ds H.num)})
 else if H.nx=3 then (if Cl.nth M.xs 1=H.num then (M,{H with nx:=5,holds:=true}) else (M,{H with nx:=4}))
 else if H.nx=4 then ({M with hs:=M.hs.set H.lock (-1)},{H with nx:=1})
 else (M,H)
def lV (M:Mo) (H:Ho):Bool:=decide (H.nx=3/\Cl.nth M.xs 1=H.num\/5<=H.nx)
def Own (M:Mo) (H:Ho):Prop:=(H.nx=3\/H.nx=4\/H.holds=true)->H.lock<M.hs.length/\Lo.aF M.hs H.lock=H.worker
theorem JA (hM:ah w M) (hH:cH w H) (ok:pZ M H):
 Calls Tryz.prog 141 #[ptr H.f,ptr M.m] w fun e w'=>e=.returned (.bool (xq M H))/\Below w.heap.size w w':=by
 have c2:=hH.hd.2.2.1
 unfold rdv at c2
 unfold xq
 split
 ·rename_i h
  rw [if_pos h] at c2
  exact Dy c2 UX (xf hM hH ok)
 ·rename_i h
  rw [if_neg h] at c2
  exact Dx c2 UY ((sC _ w).mono fun e w' q=>⟨q.1,q.2▸Below.refl _ _⟩)
theorem Jy (hM:ah w M) (hH:cH w H) (ok:pZ M H) (ow:Own M H) (h1:1<=H.nx) (hr:xq M H=true):
 Calls Tryz.prog 173 #[ptr H.f,ptr M.m] w fun e w'=>e=.returned (.bool (lV M H))/\ah w' (kK M H).1/\cH w' (kK M H).2/\ab (fun x=>aq M x\/x=H.f) w w':=by
 have c3:=hH.hd.2.2.2.1
 unfold xo at c3
 have up:∀ w',ab (·=H.f) w w'->ah w' M/\ab (fun x=>aq M x\/x=H.f) w w':=fun w' ho=>⟨hM.only ho (fun x hx q=>by subst q; exact hH.aB hM hx),ho.mono (fun x _ q=>.inr q)⟩
 by_cases e1:H.nx=1
 ·have hd:lV M H=false:=by unfold lV; simp; omega
  have hs:kK M H=(M,{H with nx:=2,num:=(Cl.nth M.xs 1).toNat}):=by unfold kK; rw [if_pos e1]
  rw [if_pos e1] at c3
  rw [hd,hs]
  exact mJ c3 DM ((wC hM hH ok.xl).mono fun e w' q=>⟨q.1,(up w' q.2.2).1,q.2.1,(up w' q.2.2).2⟩)
 ·rw [if_neg e1] at c3
  by_cases e2:H.nx=2
  ·have hd:lV M H=false:=by unfold lV; simp; omega
   have hs:kK M H=({M with hs:=M.hs.set (fy H.sum (aO M.ds H.num)) H.worker},{H with nx:=3,d:=aO M.ds H.num,lock:=fy H.sum (aO M.ds H.num)}):=by unfold kK; rw [if_neg e1,if_pos e2]
   rw [if_pos e2] at c3
   rw [hd,hs]
   refine mJ c3 UZ (Di hM hH ok ?_)
   unfold xq at hr
   rw [if_pos e2] at hr
   unfold Aa at hr
   have:=of_decide_eq_true hr
   omega
  ·rw [if_neg e2] at c3
   by_cases e3:H.nx=3
   ·rw [if_pos e3] at c3
    by_cases he:Cl.nth M.xs 1=H.num
    ·have hd:lV M H=true:=by unfold lV; simp [e3,he]
     have hs:kK M H=(M,{H with nx:=5,holds:=true}):=by unfold kK; rw [if_neg e1,if_neg e2,if_pos e3,if_pos he]
     rw [hd,hs]
     exact mJ c3 JW ((UT hM hH ok.xl he).mono fun e w' q=>⟨q.1,(up w' q.2.2).1,q.2.1,(up w' q.2.2).2⟩)
    ·have hd:lV M H=false:=by unfold lV; simp [e3,he]
     have hs:kK M H=(M,{H with nx:=4}):=by unfold kK; rw [if_neg e1,if_neg e2,if_pos e3,if_neg he]
     rw [hd,hs]
     exact mJ c3 JW ((UU hM hH ok.xl he).mono fun e w' q=>⟨q.1,(up w' q.2.2).1,q.2.1,(up w' q.2.2).2⟩)
   ·rw [if_neg e3] at c3
    by_cases e4:H.nx=4
    ·have hd:lV M H=false:=by unfold lV; simp; omega
     have hs:kK M H=({M with hs:=M.hs.set H.lock (-1)},{H with nx:=1}):=by unfold kK; rw [if_neg e1,if_neg e2,if_neg e3,if_pos e4]
     rw [if_pos e4] at c3
     rw [hd,hs]
     obtain ⟨o1,o2⟩:=ow (.inr (.inl e4))
     exact mJ c3 U0 (UW hM hH ok o1 o2)
    ·have hd:lV M H=true:=by unfold lV; simp; omega
     have hs:kK M H=(M,H):=by unfold kK; rw [if_neg e1,if_neg e2,if_neg e3,if_neg e4]
     rw [if_neg e4] at c3
     rw [hd,hs]
     exact U1 c3 DL ((DK _ w).mono fun e w' q=>⟨q.1,by rw [q.2]; exact ⟨hM,hH,ab.refl _ _⟩⟩)
end
end Go.Proofs.YtpanebgakndddaaGreat.Ta
namespace Go.Proofs.YtpanebgakndddaaGreat.Gh
open Go.RowKit lO
theorem MQ:FM.sum [97]=3826002220:=by decide+kernel
set_option maxHeartbeats 400000 in
theorem eA (w:World):Calls Tryz.prog 181 #[] w fun e w'=>e=.returned (.bool true)/\w'=w:=by
 go_enter Tryz.func181,Tryz.ntmps181
 go_wp2_with fail
 refine (yT ⟨#[97]⟩ _ (by decide)).mono ?_
 rintro e w' ⟨rfl,rfl⟩
 rw [show FM.sum (ByteArray.mk #[97]).data.toList=3826002220 from MQ]
 go_wp2_with fail
 refine (qI 8 _ (by omega) (by omega)).mono ?_
 rintro e w' ⟨rfl,rfl⟩
 rw [show FM.bl 8=true from by decide]
 go_wp2_with fail
 refine (qI 0 _ (by omega) (by omega)).mono ?_
 rintro e w' ⟨rfl,rfl⟩
 rw [show FM.bl 0=false from by decide]
 go_wp2
 go_ret
 exact ⟨rfl,rfl⟩
end Go.Proofs.YtpanebgakndddaaGreat.Gh
namespace Go.Proofs.YtpanebgakndddaaGreat.LK
open Go.RowKit Go.WideShapes Go.ChangeShapes
theorem own:ownKnob Tryz.prog.godebug=none:=by kernel_rfl
theorem IA {H:Type} {enc:TypeId×Value->H} {P:Program} {W W':World} (hl:laidOutB P=true) (hB:Below W.heap.size W W'):
 ∀ (ts:List TypeId) (vs:List Value) (ds:List (DataW H)) (ps:List MemPlace),(∀ t∈ts,P.readableRec t=true/\t<P.types.size)->(∀ p∈ps,p.block<W.heap.size)->
   DataW.TrodAll enc P W 0 (fun _=>true) true ts vs ds ps->DataW.TrodAll enc P W' 0 (fun b=>decide (b<W.heap.size)) true ts vs ds ps
 | [],[],[],_,_,_,h=>h
 | t::ts,v::vs,d::ds,ps,ht,hp,h=>by
   obtain ⟨p,q,h1,h2,rfl⟩:=h
   have od:∀ x∈p,x.block<W.heap.size:=fun x hx=>hp x (List.mem_append_left _ hx)
   have gW:∀ x∈q,x.block<W.heap.size:=fun x hx=>hp x (List.mem_append_right _ hx)
   exact ⟨p,q,Below.trod hl (ht t (List.mem_cons_self ..)).1 (ht t (List.mem_cons_self ..)).2 h1 hB od,IA hl hB ts vs ds q (fun x hx=>ht x (List.mem_cons_of_mem _ hx)) gW h2,rfl⟩
 | [],[],_::_,_,_,_,h=>h.elim
 | [],_::_,_,_,_,_,h=>h.elim
 | _::_,[],_,_,_,_,h=>h.elim
 | _::_,_::_,[],_,_,_,h=>h.elim
theorem RF {w:World} {a:Addr} {u:Value} (h:w.cell? a=some u):∃ b o,a=⟨b,o,none⟩/\b<w.heap.size:=by
 have aV:=World.block_lt_of_cell? w a h
 obtain ⟨b,o,sp⟩:=a
 unfold World.cell? at h
 cases sp with
 | none=>exact ⟨b,o,rfl,aV⟩
 | some s=>
   exfalso
   revert h
   simp only [Option.isSome_some,if_true]
   split<;>simp
theorem RG {H:Type} {enc:TypeId×Value->H} {P:Program} {f:Func} {s:ChangeSpec} {apart fresh handsOn:Bool} {W W':World} {args:Array Value} {ds:List (DataW H)} {before:List MemPlace} {tb:TypeId}
 (hl:laidOutB P=true) (WR:(f.params.toList.all fun t=>P.readableRec t&&decide (t<P.types.size))=true) (hv:s.vars=[]) (hr:f.resultTypes=#[tb]) (hb:P.underlying tb=some .bool)
 (lI:(s.fn H (ds++[])).results=[.lit (.bool true)]) (fU:(s.fn H (ds++[])).args=ds) (ox:(s.fn H (ds++[])).vars=[])
 (hW:DataW.Whole enc P f.params.toList s.vars apart W args.toList ds [] before) (hB:Below W.heap.size W W'):
 s.post enc P f apart fresh handsOn false W args (.bool true) W':=by
 have rF:=hW
 obtain ⟨p,q,hA,hV,rfl,hz,hn⟩:=hW
 rw [hv] at hV
 have hq:q=[]:=hV
 subst hq
 have aV:∀ x∈p++[],x.block<W.heap.size:=fun x hx=>rF.lt x hx
 simp only [List.append_nil] at aV
 refine ⟨ds,[],_,[],p,[],rF,?_,?_,?_,?_,fun h=>by cases h⟩
 ·rw [hr,lI]
  exact trodAll_mk1 (shut_bool hb _)
 ·rw [fU]
  exact IA hl hB _ _ _ _ (fun t ht=>by simpa using List.all_eq_true.1 WR t ht) aV hA
 ·rw [hv,ox]
  exact rfl
 ·refine World.keptBut_mono (fun x hx=>?_) (hB.frame (·∈p))
  exact ⟨by simpa using hx,Or.inr (Or.inl hx)⟩
end Go.Proofs.YtpanebgakndddaaGreat.LK
namespace Go.Proofs.YtpanebgakndddaaGreat.Iz
open Go Go.RowKit Hp K Cl LK
set_option maxRecDepth 100000
theorem BH {B g:Nat} {A:Option Addr} (hg:B<=g) (hA:∀ b,A.map (·.block)=some b->B<=b):∀ x,x<B->¬aQ g A x:=by
 rintro x hx (h | h)
 ·omega
 ·have:=hA x h; omega
theorem eA (w:World):Calls Tryz.prog 182 #[] w fun e w'=>e=.returned (.bool true)/\Below w.heap.size w w':=by
 go_enter Tryz.func182,Tryz.ntmps182
 go_wp2_with fail
 refine (qG w 1 (by omega)).mono ?_
 rintro e w1 ⟨rfl,hb,A,cap,hC,hA⟩
 have hF:=BH (Nat.le_refl w.heap.size) (fun b hb=>Nat.le_of_lt (hA b hb))
 have av:=Lib.hid hb
 have eY:=Lib.hid hF
 clear hb hA hF
 have oq:=Lib.hid (Gp hC 0 (by simp) 3)
 rw [show fE (nth (List.replicate 1 0) 0) 3=3 from by decide,show (List.replicate 1 (0:Int)).set 0 3=[3] from rfl] at oq
 clear hC
 go_wp2_with fail
 refine oq.out.mono ?_
 rintro e w2 ⟨rfl,hC,hO⟩
 have au:=Lib.hid (av.out.trans (hO.toBelow av.out.size eY.out))
 clear oq hO av
 have gL:=Lib.hid (Nc hC 0 (by simp) 3 9 rfl (by omega) (by omega))
 rw [show ([3]:List Int).set 0 9=[9] from rfl] at gL
 clear hC
 go_wp2_with fail
 refine gL.out.mono ?_
 rintro e w3 ⟨rfl,hC,hO⟩
 have aR:=Lib.hid (au.out.trans (hO.toBelow au.out.size eY.out))
 clear gL hO au
 have bp:=Lib.hid (nh hC 0 (by simp))
 rw [show nth [9] 0=9 from rfl] at bp
 clear hC
 go_wp2_with (go_at_call 90; refine bp.out.mono ?_; rintro e w' ⟨rfl,rfl⟩)
 go_ret
 exact ⟨rfl,aR.out⟩
end Go.Proofs.YtpanebgakndddaaGreat.Iz
namespace Go.Proofs.YtpanebgakndddaaGreat.Gi
open Go Go.RowKit Hp K Fl Rw Lo LK
set_option maxRecDepth 100000
theorem BH {B g b:Nat} (hg:B<=g) (hb:B<=b):∀ x,x<B->¬aQ g b x:=by
 rintro x hx (h | h)<;>omega
theorem eA (w:World):Calls Tryz.prog 183 #[] w fun e w'=>e=.returned (.bool true)/\Below w.heap.size w w':=by
 go_enter Tryz.func183,Tryz.ntmps183
 go_wp2_with fail
 refine (qG w 1 (by omega)).mono ?_
 rintro e w1 ⟨g,b,rfl,hL,hg,hb,hB⟩
 have hF:=Lib.hid (BH hg hb)
 have t1:=Lib.hid (vS hL 0 (by simp) 5 (by omega) (by omega) (by decide))
 replace hB:=Lib.hid hB
 clear hL hg hb
 go_wp2_with fail
 refine t1.out.mono ?_
 rintro e w2 ⟨rfl,hL,hO⟩
 rw [show (List.replicate 1 (-1:Int)).set 0 5=[5] from rfl] at hL
 have ag:=Lib.hid (hB.out.trans (hO.toBelow hB.out.size hF.out))
 have t2:=Lib.hid (MR hL 0 (by simp) 6 (by omega) (by decide))
 have t3:=Lib.hid (MS hL 0 (by simp) 6 (by omega) (by decide))
 replace hL:=Lib.hid hL
 clear t1 hO hB
 go_wp2_with fail
 refine t2.out.mono ?_
 rintro e w' ⟨rfl,rfl⟩
 go_wp2_with fail
 refine t3.out.mono ?_
 rintro e w3 ⟨rfl,aR⟩
 have ay:=Lib.hid (ag.out.trans (aR.mono ag.out.size))
 have t4:=Lib.hid (tR (hL.out.only (ab.aA aR (fun _=>False)) (by simp)) 0 (by simp))
 rw [show aF [5] 0=5 from rfl] at t4
 clear t2 t3 aR ag hL
 go_wp2_with (go_at_call 97; refine t4.out.mono ?_; rintro e w' ⟨rfl,rfl⟩)
 go_ret
 exact ⟨rfl,ay.out⟩
end Go.Proofs.YtpanebgakndddaaGreat.Gi
namespace Go.Proofs.YtpanebgakndddaaGreat.Gg
open Go Go.RowKit Hp K Fl Rw Hm Hw Ar LK
def n0:Nd:=.zero
def s1:List Sl:=(List.replicate 2 Sl.zero).set 0 ⟨true,0,n0⟩
def s2:List Sl:=s1.set 1 ⟨true,0,n0⟩
def s3:List Sl:=s2.set 0 ⟨false,1,.zero⟩
theorem MP {B g sb fb:Nat} (h:∀ x,fo g sb fb x->B<=x):∀ x,x<B->¬fo g sb fb x:=fun x hx hf=>by have:=h x hf; omega
theorem l1:Least (List.replicate 2 Sl.zero) 0:=⟨by simp,rfl,fun j hj=>by omega⟩
theorem l2:Least s1 1:=⟨by simp [s1],rfl,fun j hj=>by
 have:j=0:=by omega
 subst this
 rfl⟩
theorem i3:bj s2 1 0:=⟨by simp [s2,s1],rfl,rfl⟩
theorem l4:Least s3 0:=⟨by simp [s3,s2,s1],rfl,fun j hj=>by omega⟩
set_option maxRecDepth 100000 in
theorem eA (w:World):Calls Tryz.prog 184 #[] w fun e w'=>e=.returned (.bool true)/\Below w.heap.size w w':=by
 have hN:=Lib.hid (qG w 2 (by omega))
 go_enter Tryz.func184,Tryz.ntmps184
 go_wp2_with fail
 refine hN.out.mono ?_
 rintro e w1 ⟨g,sb,fb,rfl,cQ,bp,aD⟩
 replace bp:=Lib.hid (MP bp)
 have a1:Hid (Calls Tryz.prog 17 #[.pointer (some ⟨g,0,none⟩),eg n0] w1 fun e w'=>e=.returned (.tuple #[.int .u64 1,.int .i64 0])/\b6 w' g sb fb s1 false/\ab (fo g sb fb) w1 w'):=
  Lib.hid ((yP cQ n0 0 l1 (Nat.zero_le _)).mono fun _ _ h=>h)
 replace aD:=Lib.hid aD
 clear cQ hN
 go_wp2_with fail
 refine a1.out.mono ?_
 rintro e w2 ⟨rfl,bw,ae⟩
 have ag:=Lib.hid (aD.out.trans (ae.toBelow aD.out.size bp.out))
 have a2:Hid (Calls Tryz.prog 17 #[.pointer (some ⟨g,0,none⟩),eg n0] w2 fun e w'=>e=.returned (.tuple #[.int .u64 2,.int .i64 0])/\b6 w' g sb fb s2 false/\ab (fo g sb fb) w2 w'):=
  Lib.hid ((yP bw n0 1 l2 (Nat.zero_le _)).mono fun _ _ h=>h)
 clear bw ae aD a1
 go_wp2_with fail
 refine a2.out.mono ?_
 rintro e w3 ⟨rfl,lB,an⟩
 have ay:=Lib.hid (ag.out.trans (an.toBelow ag.out.size bp.out))
 have a3:Hid (Calls Tryz.prog 101 #[.pointer (some ⟨g,0,none⟩),.int .u64 1] w3 fun e w'=>e=.returned (.int .i64 0)/\b6 w' g sb fb s3 false/\ab (fo g sb fb) w3 w'):=
  Lib.hid ((Mi lB (x:=1) (k:=0) (by omega) i3 (Nat.zero_le _)).mono fun _ _ h=>h)
 clear lB an ag a2
 go_wp2_with fail
 refine a3.out.mono ?_
 rintro e w4 ⟨rfl,iz,aN⟩
 have az:=Lib.hid (ay.out.trans (aN.toBelow ay.out.size bp.out))
 have a4:Hid (Calls Tryz.prog 17 #[.pointer (some ⟨g,0,none⟩),eg n0] w4 fun e w'=>e=.returned (.tuple #[.int .u64 65537,.int .i64 0])/\b6 w' g sb fb (s3.set 0 ⟨true,1,n0⟩) false/\ab (fo g sb fb) w4 w'):=
  Lib.hid ((yP iz n0 0 l4 (by show 1<=1000000; omega)).mono fun _ _ h=>h)
 clear iz aN ay a3
 go_wp2_with fail
 refine a4.out.mono ?_
 rintro e w5 ⟨rfl,xC,bN⟩
 have bM:=Lib.hid (az.out.trans (bN.toBelow az.out.size bp.out))
 have a5:=Lib.hid (MC xC)
 clear xC bN az a4
 go_wp2_with fail
 refine a5.out.mono ?_
 rintro e w6 ⟨rfl,rfl⟩
 go_wp2_with fail
 go_ret
 exact ⟨rfl,bM.out⟩
end Go.Proofs.YtpanebgakndddaaGreat.Gg
namespace Go.Proofs.YtpanebgakndddaaGreat.zH
open Go Go.RowKit Hp K Fl Rw Hm Ar Mm Me LK
set_option maxRecDepth 100000
theorem one (w:World):Calls Tryz.prog 181 #[] w fun e w'=>e=.returned (.bool true)/\w=w':=(Gh.eA w).mono fun _ _ h=>⟨h.1,h.2.symm⟩
set_option maxHeartbeats 1000000 in
theorem eA (w:World):Calls Tryz.prog 146 #[] w fun e w'=>e=.returned (.bool true)/\Below w.heap.size w w':=by
 have hN:=Lib.hid (Iy 4 2 w (by omega) (by omega))
 go_enter Tryz.func146,Tryz.ntmps146
 go_wp2_with fail
 refine hN.out.mono ?_
 rintro e w1 ⟨M,rfl,hM,bp,hB,h1,h2,h3,h4,h5,h6,h7⟩
 have K7:=Lib.hid (Cl.nh hM.2.1 0 (by rw [h1]; simp))
 rw [h1,show Cl.nth (1::List.replicate (2+2) 0) 0=1 from rfl] at K7
 obtain ⟨c0,c1,c2,_⟩:=hM.hd
 have hlen:∀ w',Below w1.heap.size w1 w'->Calls Tryz.prog 185 #[ptr M.g] w' fun e w''=>e=.returned (.int .i64 5)/\w'=w'':=fun w' hb=>by
  have:=(Cl.yV (hM.below hb).2.1)
  rw [h1] at this
  exact this.mono fun _ _ h=>⟨h.1,h.2.symm⟩
 have bV:∀ w',Below w1.heap.size w1 w'->Calls Tryz.prog 64 #[ptr M.m] w' fun e w''=>e=.returned (.agg #[.int .i64 1,.int .i64 4])/\Below w'.heap.size w' w'':=fun w' hb=>by
  have:=pJ (hM.below hb) (by rw [h1]; simp)
  rw [h1,h6] at this
  exact this
 have vw:∀ w',Below w1.heap.size w1 w'->w'.cell? ⟨M.m,0,none⟩=some (ptr M.g):=fun w' hb=>(hM.below hb).hd.1
 replace hlen:=Lib.hid hlen
 replace bV:=Lib.hid bV
 replace vw:=Lib.hid vw
 replace hB:=Lib.hid hB
 clear hN hM bp h1 h2 h3 h4 h5 h6 h7
 go_wp2_with (first
  | (go_at_call 90; refine K7.out.mono ?_; rintro e w' ⟨rfl,hw⟩; obtain rfl:w1=w':=hw.symm)
  | (go_at_call 181; refine (one _).mono ?_; rintro e w' ⟨rfl,rfl⟩))
 refine (Iz.eA w1).mono ?_
 rintro e w2 ⟨rfl,ag⟩
 have ev:=vw.out w2 ag
 replace ag:=Lib.hid ag
 go_wp2_with fail
 refine (Gi.eA w2).mono ?_
 rintro e w3 ⟨rfl,ay⟩
 replace ay:=Lib.hid (ag.out.trans (ay.mono ag.out.size))
 clear ev
 go_wp2_with fail
 refine (Gg.eA w3).mono ?_
 rintro e w4 ⟨rfl,az⟩
 replace az:=Lib.hid (ay.out.trans (az.mono ay.out.size))
 have WN:=vw.out w4 az.out
 have vb:=Lib.hid (hlen.out w4 az.out)
 have WO:=Lib.hid (bV.out w4 az.out)
 clear c0 c1 c2
 go_wp2_with (first
  | (go_at_call 185; refine vb.out.mono ?_; rintro e w' ⟨rfl,rfl⟩)
  | (go_at_call 64; refine WO.out.mono ?_; rintro e w5 ⟨rfl,bM⟩
     replace bM:=Lib.hid (hB.out.trans ((az.out.trans (bM.mono az.out.size)).mono hB.out.size))))
 go_ret
 exact ⟨rfl,bM.out⟩
/-! ### names-/
end Go.Proofs.YtpanebgakndddaaGreat.zH
namespace Go.Proofs.YtpanebgakndddaaGreat.fp
open Go Go.RowKit Hp K Fl Rw Hm Ar Mm Me
set_option maxRecDepth 100000
def oK (w:World) (n k:Nat) (M:Mo) (w':World):Prop:=
 ah w' M/\(∀ x,aq M x->w.heap.size<=x)/\Below w.heap.size w w'/\M.xs=1::List.replicate (k+2) 0/\M.ss=List.replicate n .zero/\M.F=false/\M.hs=List.replicate 6 (-1)/\M.k=k/\M.ds=[(1,k+2)]/\M.ws=[]
theorem na (n k:Nat) (w:World) (hn:1<=n/\n<=1024) (hk:1<=k/\k<=8):Calls Tryz.prog 6 #[.int .i64 n,.int .i64 k] w fun e w'=>∃ M,e=.returned (ptr M.m)/\oK w n k M w':=by
 have hN:=Lib.hid (Iy n k w hn hk)
 go_enter Tryz.func6,Tryz.ntmps6
 go_wp2_with fail
 refine hN.out.mono ?_
 rintro e w1 ⟨M,rfl,hM⟩
 obtain ⟨c0,c1,c2,_⟩:=hM.1.hd
 replace hM:=Lib.hid hM
 clear hN
 go_wp2_with fail
 go_ret
 exact ⟨M,rfl,hM.out⟩
end Go.Proofs.YtpanebgakndddaaGreat.fp
namespace Go.Proofs.YtpanebgakndddaaGreat.Ta
open Go Go.RowKit Hp K Fl Rw Hm Ar Mm Me
set_option maxRecDepth 100000
theorem U2 (a:Addr) (w:World) (f:Nat):(method (f+1) 223 (.pointer (some a)) "Ready").run Tryz.prog w=.ok (141,.pointer (some a)) w:=by kernel_rfl
theorem U3 (a:Addr) (w:World) (f:Nat):(method (f+1) 223 (.pointer (some a)) "Step").run Tryz.prog w=.ok (173,.pointer (some a)) w:=by kernel_rfl
theorem U4 (args:Array Value) (w:World):(callFunc 141 args).run Tryz.prog w=.ok (.enter 141 args) w:=by kernel_rfl
theorem U5 (args:Array Value) (w:World):(callFunc 173 args).run Tryz.prog w=.ok (.enter 173 args) w:=by kernel_rfl
def lU (ds:List (Nat×Nat)) (s:List Int×Ho):Bool:=if s.2.nx=2 then decide (Lo.aF s.1 (fy s.2.sum (aO ds s.2.num))= -1) else true
def dx (xs:List Int) (ds:List (Nat×Nat)) (s:List Int×Ho):List Int×Ho:=
 if s.2.nx=1 then (s.1,{s.2 with nx:=2,num:=(Cl.nth xs 1).toNat})
 else if s.2.nx=2 then (s.1.set (fy s.2.sum (aO ds s.2.num)) s.2.worker,{s.2 with nx:=3,d:=aO ds s.2.num,lock:=fy s.2.sum (aO ds s.2.num)})
 else if s.2.nx=3 then (if Cl.nth xs 1=s.2.num then (s.1,{s.2 with nx:=5,holds:=true}) else (s.1,{s.2 with nx:=4}))
 else if s.2.nx=4 then (s.1.set s.2.lock (-1),{s.2 with nx:=1})
 else s
def iK (xs:List Int) (s:List Int×Ho):Bool:=decide (s.2.nx=3/\Cl.nth xs 1=s.2.num\/5<=s.2.nx)
theorem Uk (M:Mo) (H:Ho):xq M H=lU M.ds (M.hs,H):=rfl
theorem Ud (M:Mo) (H:Ho):lV M H=iK M.xs (M.hs,H):=rfl
theorem Jz (M:Mo) (H:Ho):kK M H=({M with hs:=(dx M.xs M.ds (M.hs,H)).1},(dx M.xs M.ds (M.hs,H)).2):=by
 unfold kK dx
 by_cases e1:H.nx=1
 ·simp [e1]
 ·by_cases e2:H.nx=2
  ·simp [e2]
  ·by_cases e3:H.nx=3
   ·by_cases he:Cl.nth M.xs 1=H.num<;>simp [e3,he]
   ·by_cases e4:H.nx=4
    ·simp [e4]
    ·simp [e1,e2,e3,e4]
theorem uG {hs:List Int} {j:Nat} (hj:j<hs.length) (v:Int) (i:Nat):Lo.aF (hs.set j v) i=if i=j then v else Lo.aF hs i:=by
 unfold Lo.aF List.getD
 rw [List.getElem?_set]
 by_cases e:j=i
 ·subst e; simp [hj]
 ·rw [if_neg e,if_neg (fun q=>e q.symm)]
structure ik (xs:List Int) (ds:List (Nat×Nat)) (s:List Int×Ho):Prop where
 sum:0<=s.2.sum/\s.2.sum<4294967296
 wk:0<=s.2.worker/\s.2.worker<=9223372036854775807
 hl:4<s.1.length
 xl:1<xs.length
 num:s.2.num<=18446744073709551615
 x1:0<=Cl.nth xs 1/\Cl.nth xs 1<=18446744073709551615
 dn:∀ i,(aO ds i).1<=65536
 nx:1<=s.2.nx
 own:(s.2.nx=3\/s.2.nx=4\/s.2.holds=true)->s.2.lock<s.1.length/\Lo.aF s.1 s.2.lock=s.2.worker
 aF:s.2.holds=true->5<=s.2.nx
section
variable {w w':World} {M:Mo} {H:Ho}
theorem ik.step {xs:List Int} {ds:List (Nat×Nat)} {s:List Int×Ho} (h:ik xs ds s) (hr:lU ds s=true) (hd:iK xs s=false):ik xs ds (dx xs ds s):=by
 obtain ⟨hs,H⟩:=s
 obtain ⟨h1,h2,h3,h4,h5,h6,h7,h8,h9,nI⟩:=h
 simp only at h1 h2 h3 h4 h5 h6 h7 h8 h9 nI
 unfold dx
 unfold iK at hd
 simp only at hd ⊢
 by_cases e1:H.nx=1
 ·rw [if_pos e1]
  exact ⟨h1,h2,h3,h4,by simp only; omega,h6,h7,by simp,by
   rintro (q | q | q)
   ·simp at q
   ·simp at q
   ·have:=nI q; omega,fun q=>by have:=nI q; omega⟩
 ·by_cases e2:H.nx=2
  ·rw [if_neg e1,if_pos e2]
   have hk:=xk (aO ds H.num) h1.1
   refine ⟨h1,h2,by simpa using h3,h4,h5,h6,h7,by simp,fun _=>⟨by simp; omega,?_⟩,fun q=>by have:=nI q; omega⟩
   rw [uG (by omega),if_pos rfl]
  ·by_cases e3:H.nx=3
   ·by_cases he:Cl.nth xs 1=H.num
    ·simp [e3,he] at hd
    ·rw [if_neg e1,if_neg e2,if_pos e3,if_neg he]
     refine ⟨h1,h2,h3,h4,h5,h6,h7,by simp,fun _=>h9 (.inl e3),fun q=>by have:=nI q; omega⟩
   ·by_cases e4:H.nx=4
    ·rw [if_neg e1,if_neg e2,if_neg e3,if_pos e4]
     refine ⟨h1,h2,by simpa using h3,h4,h5,h6,h7,by simp,?_,fun q=>by have:=nI q; omega⟩
     rintro (q | q | q)
     ·simp at q
     ·simp at q
     ·have:=nI q; omega
    ·simp at hd; omega
theorem ik.xi {s:List Int×Ho} (h:ik M.xs M.ds s):pZ {M with hs:=s.1} s.2:=⟨h.sum,h.wk,h.hl,h.xl,h.num,h.dn _⟩
def JX (w0:World) (M:Mo) (s:List Int×Ho) (w:World):Prop:=ah w {M with hs:=s.1}/\cH w s.2/\s.2.f=H.f/\ab (fun x=>aq M x\/x=H.f) w0 w
theorem DC {xs:List Int} {ds:List (Nat×Nat)} (s:List Int×Ho):(dx xs ds s).2.f=s.2.f:=by
 unfold dx
 split
 ·rfl
 split
 ·rfl
 split
 ·split<;>rfl
 split<;>rfl
theorem RD (hM:ah w M) (hH:cH w H) (ok:ik M.xs M.ds (M.hs,H)) (K:Nat) (hK:K<=1000000):
 Calls Tryz.prog 58 #[ptr M.m,.iface 223 (ptr H.f),.int .i64 K] w fun e w'=>e=.returned (.tuple #[.int .i64 (fin (lU M.ds) (dx M.xs M.ds) (iK M.xs) K (M.hs,H)).1,.bool (fin (lU M.ds) (dx M.xs M.ds) (iK M.xs) K (M.hs,H)).2.1])/\
  JX (H:=H) w M (fin (lU M.ds) (dx M.xs M.ds) (iK M.xs) K (M.hs,H)).2.2 w':=by
 refine zo 223 141 173 H.f (ptr M.m) (JX (H:=H) w M) (fun s=>ik M.xs M.ds s) (lU M.ds) (dx M.xs M.ds) (iK M.xs) (U2 _) (U3 _) U4 U5 ?_ ?_ ?_ K hK (M.hs,H) ok w ⟨hM,hH,rfl,ab.refl _ _⟩
 ·rintro s w1 ⟨h1,h2,h3,h4⟩ ok
  rw [<-h3]
  exact (JA h1 h2 ok.xi).mono fun e w' h=>⟨h.1,h1.below h.2,h2.below h.2,h3,h4.below h.2⟩
 ·rintro s w1 ⟨h1,h2,h3,h4⟩ ok hr
  rw [<-h3]
  refine (Jy h1 h2 ok.xi ok.own ok.nx hr).mono fun e w' h=>⟨h.1,?_⟩
  obtain ⟨q1,q2,q3⟩:=h.2
  rw [Jz] at q1 q2
  exact ⟨q1,q2,(DC s).trans h3,h4.trans (h3▸q3)⟩
 ·intro s ok hr hd
  exact ok.step hr hd
end
end Go.Proofs.YtpanebgakndddaaGreat.Ta
namespace Go.Proofs.YtpanebgakndddaaGreat.Pu
open Go Go.RowKit Hp K Fl Rw Hm Ar Mm Me Wk Ta Pn Pc
set_option maxRecDepth 100000
structure Sk where
 key:ByteArray
 sum:Int
 ph:Nat
 H:Ho
 cell:Int
 W:Wa
structure Sa where
 f:Nat
 w:Nat
def ob (ph h b:Nat):Value:=if ph=1 then aU 141 (ptr h) else aU 175 (ptr b)
def mK (ph f b:Nat):Value:=if ph=1 then aU 142 (ptr f) else aU 176 (ptr b)
def zS (a:Sa) (S:Sk):Array Value:=#[.int .u32 S.sum,.string S.key,ob S.ph S.H.f a.w,mK S.ph a.f a.w,ptr S.H.f,.int .i64 S.cell,ptr a.w]
abbrev Sk.wa (S:Sk) (b:Nat):Wa:={S.W with f:=b}
def cW (w:World) (a:Sa) (S:Sk):Prop:=af w a.f 226 (zS a S)/\cH w S.H/\b8 w (S.wa a.w)
def dq (a:Sa) (S:Sk) (x:Nat):Prop:=x=a.f\/x=S.H.f\/x=a.w
abbrev T9:List TypeId:=[226,243,237]
abbrev Ua:iG Sa Sk:=⟨Sa.f,cW,dq⟩
section
variable {w w':World} {M:Mo} {a:Sa} {S:Sk}
theorem cW.ty (h:cW w a S) {x:Nat} (hx:dq a S x):Ty w x T9:=by
 obtain ⟨h1,h2,h3⟩:=h
 rcases hx with rfl | rfl | rfl
 ·exact (bm h1).mono (by simp)
 ·exact (bm h2).mono (by simp)
 ·exact (bm h3).mono (by simp)
theorem cW.lt (h:cW w a S) {x:Nat} (hx:dq a S x):x<w.heap.size:=(h.ty hx).lt
theorem cW.aB (h:cW w a S) (hM:ah w M) {x:Nat} (hx:dq a S x):¬aq M x:=fun hm=>(hM.ty hm).apart (h.ty hx) (by decide)
theorem cW.only {T:Nat->Prop} (h:cW w a S) (ho:ab T w w') (hn:∀ x,dq a S x->¬T x):cW w' a S:=
 ⟨h.1.only ho (hn _ (.inl rfl)),h.2.1.only ho (hn _ (.inr (.inl rfl))),h.2.2.only ho (hn _ (.inr (.inr rfl)))⟩
theorem cW.below (h:cW w a S) (hb:Below w.heap.size w w'):cW w' a S:=h.only (ab.aA hb (fun _=>False)) (by simp)
theorem cW.hd (h:cW w a S):w.cell? ⟨a.f,0,none⟩=some (.int .u32 S.sum)/\w.cell? ⟨a.f,1,none⟩=some (.string S.key)/\w.cell? ⟨a.f,2,none⟩=some (ob S.ph S.H.f a.w)/\w.cell? ⟨a.f,3,none⟩=some (mK S.ph a.f a.w)/\
 w.cell? ⟨a.f,4,none⟩=some (ptr S.H.f)/\w.cell? ⟨a.f,5,none⟩=some (.int .i64 S.cell)/\w.cell? ⟨a.f,6,none⟩=some (ptr a.w):=
 ⟨h.1.cell 0,h.1.cell 1,h.1.cell 2,h.1.cell 3,h.1.cell 4,h.1.cell 5,h.1.cell 6⟩
theorem cW.apart (h:cW w a S):a.f≠S.H.f/\a.f≠a.w/\S.H.f≠a.w:=by
 obtain ⟨h1,h2,h3⟩:=h
 exact ⟨h1.differ h2 (by decide),h1.differ h3 (by decide),af.differ h2 h3 (by decide)⟩
theorem cW.held {H':Ho} (h:cW w a S) (hM:ah w M) (hH:cH w' H') (hf:H'.f=S.H.f) (ho:ab (fun x=>aq M x\/x=S.H.f) w w'):cW w' a {S with H:=H'}:=by
 have ha:=h.apart
 refine ⟨?_,hH,h.2.2.only ho ?_⟩
 ·have:=h.1.only ho (by
   rintro (q | q)
   ·exact h.aB hM (.inl rfl) q
   ·exact ha.1 q)
  unfold zS at this ⊢
  simp only [hf]
  exact this
 ·rintro (q | q)
  ·exact h.aB hM (.inr (.inr rfl)) q
  ·exact ha.2.2 q.symm
theorem cW.walked {W':Wa} (h:cW w a S) (hM:ah w M) (hW:b8 w' {W' with f:=a.w}) (ho:ab (fun x=>aq M x\/x=a.w) w w'):cW w' a {S with W:=W'}:=by
 have ha:=h.apart
 refine ⟨h.1.only ho ?_,h.2.1.only ho ?_,hW⟩
 ·rintro (q | q)
  ·exact h.aB hM (.inl rfl) q
  ·exact ha.2.1 q
 ·rintro (q | q)
  ·exact h.aB hM (.inr (.inl rfl)) q
  ·exact ha.2.2 q
theorem Sy (h:cW w a S):Calls Tryz.prog 162 #[ptr a.f] w fun e w'=>e=.returned (.bool (decide (S.cell≠ -1)))/\w=w':=by
 have c:=h.hd.2.2.2.2.2.1
 have ec:(S.cell != -1)=decide (S.cell≠ -1):=by rw [Bool.eq_iff_iff]; simp
 clear h
 generalize decide (S.cell≠ -1)=b at*
 replace ec:=Lib.hid ec
 go_enter Tryz.func162,Tryz.ntmps162
 go_wp2
 go_ret
 exact ⟨by rw [ec.out]; rfl,rfl⟩
theorem DB (h:cW w a S):Calls Tryz.prog 128 #[ptr a.w] w fun e w'=>e=.returned (.tuple #[.int .u64 S.W.found,eg S.W.nd,.bool (decide (S.W.found≠0))])/\Below w.heap.size w w':=by
 have q:=Cj h.2.2
 have e1:(S.wa a.w).found=S.W.found:=rfl
 have e2:(S.wa a.w).nd=S.W.nd:=rfl
 have e3:(S.wa a.w).f=a.w:=rfl
 rw [e1,e2,e3] at q
 exact q
theorem ub (h:cW w a S):Calls Tryz.prog 109 #[ptr a.f] w fun e w'=>e=.returned (.tuple #[.int .u64 S.W.found,eg S.W.nd,.bool (decide (S.W.found≠0))])/\Below w.heap.size w w':=by
 have c:=h.hd.2.2.2.2.2.2
 have nf:=World.new_ne w ⟨a.f,6,none⟩ c
 obtain ⟨w1,aJ⟩:∃ w1,w1=w.alloc (.cells #[.string ⟨#[]⟩,.string ⟨#[]⟩,.int .u32 0,.int .u64 0] 67):=⟨_,rfl⟩
 have eY:af w1 w.heap.size 67 #[.string ⟨#[]⟩,.string ⟨#[]⟩,.int .u32 0,.int .u64 0]:=by rw [aJ]; exact af.made w _ _
 have av:Below w.heap.size w w1:=by rw [aJ]; exact (Below.refl _ _).alloc (Nat.le_refl _) _
 have h1:=h.below av
 have c1:=h1.hd.2.2.2.2.2.2
 have hR:=DB h1
 unfold eg at hR ⊢
 generalize decide (S.W.found≠0)=b at*
 generalize S.W.found=x at*
 generalize S.W.nd=n at*
 obtain ⟨nk,nv,ns,nn⟩:=n
 simp only at hR ⊢
 obtain ⟨bW,pt⟩:∃ bW,bW=w.heap.size:=⟨_,rfl⟩
 rw [<-pt] at eY
 have dH:=Lib.hid (Nat.le_of_eq pt.symm)
 have cA:=Lib.hid av.size
 replace hR:=Lib.hid hR
 replace eY:=Lib.hid eY
 replace av:=Lib.hid av
 clear h h1
 go_enter Tryz.func109,Tryz.ntmps109
 go_upto_region 1 with (fail)
 rw [<-aJ,<-pt]
 clear c nf aJ pt
 go_wp2_with fail
 refine hR.out.mono ?_
 rintro e w2 ⟨rfl,au⟩
 have aP:=eY.out.only (ab.aA au (fun _=>False)) (by simp)
 have f0:=aP.cell 0
 have f1:=aP.cell 1
 have f2:=aP.cell 2
 have f3:=aP.cell 3
 simp at f0 f1 f2 f3
 have z0:=aP.frozen 0
 have z1:=aP.frozen 1
 have z2:=aP.frozen 2
 have z3:=aP.frozen 3
 have lb:=aP.lt
 have az:=Lib.hid (((((av.out.trans (au.mono cA.out)).setCell (p:=⟨bW,0,none⟩) dH.out (.string nk)).setCell (p:=⟨bW,1,none⟩) dH.out (.string nv)).setCell (p:=⟨bW,2,none⟩) dH.out (.int .u32 ns)).setCell (p:=⟨bW,3,none⟩) dH.out (.int .u64 nn))
 clear hR c1 au
 go_wp2_with fail
 exact bodyPost_ret (v:=.tuple #[.int .u64 x,.agg #[.string nk,.string nv,.int .u32 ns,.int .u64 nn],.bool b]) (by simp [results,Tryz.results109,go_sem,f0,f1,f2,f3]) rfl ⟨rfl,az.out⟩
theorem SD (h:cW w a S):Calls Tryz.prog 214 #[ptr a.f] w fun e w'=>e=.returned (.int .u64 S.W.first)/\w=w':=by
 have c:=h.hd.2.2.2.2.2.2
 have hR:=Lib.hid (IB h.2.2)
 clear h
 go_enter Tryz.func214,Tryz.ntmps214
 go_wp2_with fail
 refine hR.out.mono ?_
 rintro e w' ⟨rfl,rfl⟩
 go_wp2_with fail
 go_ret
 exact ⟨rfl,rfl⟩
end
set_option maxHeartbeats 1000000 in
theorem wB {w:World} {f:Nat} {s:Int} {key:ByteArray} {cs:Array Value} (hB:af w f 226 cs) (c0:cs[0]?=some (.int .u32 s)) (c1:cs[1]?=some (.string key)) (hz:cs.size=7) (c:Int):
 Calls Tryz.prog 140 #[ptr f,.int .i64 c] w fun e w'=>e=.returned (.tuple #[])/\∃ b,w.heap.size<=b/\af w' f 226 ((cs.setIfInBounds 5 (.int .i64 c)).setIfInBounds 6 (ptr b))/\b8 w' (new b c s key)/\ab (·=f) w w':=by
 have hN:=Lib.hid (fun n=>Wk.nj c s key (w.drewN n))
 have d0:=(hB.cell 0).trans c0
 have d2:=(hB.cell 1).trans c1
 have lf:=hB.lt
 have d6:=hB.cell 5
 have d7:=hB.cell 6
 rw [Array.getElem?_eq_getElem (by omega)] at d6 d7
 generalize cs[5]'(by omega)=u6 at*
 generalize cs[6]'(by omega)=u7 at*
 have HB:=Lib.hid hB
 clear hB c0 c1
 go_enter Tryz.func140,Tryz.ntmps140
 go_wp2_with fail
 go_region_held3 (fun w'=>w'.cell? ⟨f,0,none⟩=some (.int .u32 s)/\w'.cell? ⟨f,1,none⟩=some (.string key)) ((go_split_ands; (refine ⟨?_,?_⟩<;>simp [World.cell?_setCell_other, *])))
  (first
    | (go_at_call 153
       refine (hN.out 1).mono ?_
       rintro e w2 ⟨rfl,h2,au⟩
       have m8:Below w.heap.size w w2:=(show Below w.heap.size w (w.drewN 1) from ⟨rfl,rfl,rfl,Nat.le_refl _,fun _ _=>rfl⟩).trans au
       have e0:=(m8.cell (p:=⟨f,0,none⟩) lf).trans d0
       have e2:=(m8.cell (p:=⟨f,1,none⟩) lf).trans d2
       have e6:=(m8.cell (p:=⟨f,5,none⟩) lf).trans d6
       have e7:=(m8.cell (p:=⟨f,6,none⟩) lf).trans d7
       have ag:=HB.out.only (ab.aA m8 (fun _=>False)) (by simp)
       have y6:=ag.frozen 5
       have y7:=ag.frozen 6
       have dO:=Lib.hid ((ag.store 5 (.int .i64 c)).store 6 (ptr w.heap.size))
       have hd:=ag.differ h2 (by decide)
       have ae:=(((ab.aA m8 (·=f)).setCell (p:=⟨f,5,none⟩) (.inl rfl) (.int .i64 c)).setCell (p:=⟨f,6,none⟩) (.inl rfl) (ptr w.heap.size))
       have fk:Hid (b8 ((w2.setCell ⟨f,5,none⟩ (.int .i64 c)).setCell ⟨f,6,none⟩ (ptr w.heap.size)) (new w.heap.size c s key)):=Lib.hid (af.aB (af.aB h2 (p:=⟨f,5,none⟩) (fun e=>hd e.symm) _) (p:=⟨f,6,none⟩) (fun e=>hd e.symm) _)
       replace ae:=Lib.hid ae
       clear h2 au ag m8 hd))
 all_goals
  go_wp2_with fail
  go_end0
  exact ⟨rfl,_,Nat.le_refl _,dO.out,fk.out,ae.out⟩
end Go.Proofs.YtpanebgakndddaaGreat.Pu
namespace Go.Proofs.YtpanebgakndddaaGreat.Pu
open Go Go.RowKit Hp K Fl Rw Hm Ar Mm Me Wk Ta Pn Pc
set_option maxRecDepth 100000
def o7 (s:Int) (H:Ho):Int:=Gt.cellOf s (if H.holds=true then H.d else (0,0))
def aH (L:Lm) (S:Sk):Lm×Sk:=
 if S.ph=1 then ({L with hs:=(dx L.xs L.ds (L.hs,S.H)).1},if iK L.xs (L.hs,S.H)=true then {S with H:=(dx L.xs L.ds (L.hs,S.H)).2,cell:=o7 S.sum (dx L.xs L.ds (L.hs,S.H)).2,W:=new 0 (o7 S.sum (dx L.xs L.ds (L.hs,S.H)).2) S.sum S.key,ph:=2} else {S with H:=(dx L.xs L.ds (L.hs,S.H)).2})
 else ({L with F:=(Wk.aE L.xs L.ss (L.F,S.W)).1},{S with W:=(Wk.aE L.xs L.ss (L.F,S.W)).2})
def eK (L:Lm) (S:Sk):Bool:=if S.ph=1 then lU L.ds (L.hs,S.H) else true
def b7 (L:Lm) (S:Sk):Bool:=if S.ph=1 then false else Wk.cp L.xs L.ss (L.F,S.W)
structure qP (r:Nat) (L:Lm) (S:Sk):Prop where
 sum:0<=S.sum/\S.sum<4294967296
 hd:S.ph=1->ik L.xs L.ds (L.hs,S.H)
 desc:S.ph=1->S.H.d.1<=65536/\S.H.d.2<=4000000
 wa:S.ph≠1->eV (r+1) S.W
 db:ff L.ss
 tb:∀ i,(aO L.ds i).1<=65536/\(aO L.ds i).2<=4000000
abbrev Jx (w:World) (M:Mo) (a:Sa) (S:Sk) (L':Lm) (S':Sk) (w':World):Prop:=Ua.bh w M a S L' S' w'
def jk (h:Nat) (k s:Int) (key:ByteArray):Sk:=⟨key,s,1,⟨h,k,s,1,0,(0,0),0,false⟩, -1,new 0 (-1) s key⟩
section
variable {w w':World} {M:Mo} {a:Sa} {S:Sk}
set_option maxHeartbeats 1000000 in
theorem Ub {f:Nat} {s:Int} (lf:f<w.heap.size) (c2:w.cell? ⟨f,0,none⟩=some (.int .u32 s)) (d:Nat×Nat) (hd:d.1<=65536/\d.2<=4000000) (hs:0<=s/\s<4294967296):
 Calls Tryz.prog 174 #[ptr f,dv d] w fun e w'=>e=.returned (.int .i64 (Gt.cellOf s d))/\Below w.heap.size w w':=by
 have hb:=qR s d.1 hs.1
 unfold Gt.cellOf dv
 by_cases h0:d.1=0
 ·rw [if_pos h0,h0]
  clear c2 hb h0
  go_enter Tryz.func174,Tryz.ntmps174
  go_wp2_with fail
  go_ret
  exact ⟨rfl,(Below.refl _ _).alloc (Nat.le_refl _) _⟩
 ·rw [if_neg h0]
  have hB:=Lib.hid (fun w'=>lO.zp s d.1 w' hs.1 hs.2 (by omega) (by omega))
  have e0:((d.1:Int)==0)=false:=by simp; omega
  generalize FM.bucket s d.1=b at*
  generalize d.1=d1 at*
  generalize d.2=d2 at*
  have e1:IntKind.i64.wrap ((d2:Int)+b)=d2+b:=IntWalk.i64_in _ (by omega)
  have nf:=World.new_ne w ⟨f,0,none⟩ c2
  clear h0
  go_enter Tryz.func174,Tryz.ntmps174
  go_wp2_with fail
  go_quiet ((go_at_call 201; exact Calls.quiet_of_same ((hB.out _).mono fun _ _ h=>⟨h.1,h.2⟩)))
  go_wp2_with fail
  go_ret
  exact ⟨rfl,((Below.refl _ _).alloc (Nat.le_refl _) _).trans ⟨rfl,rfl,rfl,by simp,fun _ _=>rfl⟩⟩
theorem Uc (hM:ah w M) (h:cW w a S) (hl:ik M.xs M.ds (M.hs,S.H)) (hr:lU M.ds (M.hs,S.H)=true):
 Calls Tryz.prog 173 #[ptr S.H.f,ptr M.m] w fun e w'=>e=.returned (.bool (iK M.xs (M.hs,S.H)))/\ah w' {M with hs:=(dx M.xs M.ds (M.hs,S.H)).1}/\cW w' a {S with H:=(dx M.xs M.ds (M.hs,S.H)).2}/\ab (fun x=>aq M x\/dq a S x) w w':=by
 have q:=Jy hM h.2.1 hl.xi hl.own hl.nx hr
 rw [Jz,Ud] at q
 exact q.mono fun e w' q=>⟨q.1,q.2.1,h.held hM q.2.2.1 (DC _) q.2.2.2,q.2.2.2.mono fun x _ y=>y.imp id fun e=>.inr (.inl e)⟩
theorem DD {S':Sk} {a':Sa} (ef:a'.f=a.f) (eH:S'.H.f=S.H.f) {n:Nat} (ew:a'.w=a.w\/n<=a'.w) (x:Nat) (q:dq a' S' x):dq a S x\/n<=x:=by
 rcases q with q | q | q
 ·exact .inl (.inl (q.trans ef))
 ·exact .inl (.inr (.inl (q.trans eH)))
 ·rcases ew with ew | ew
  ·exact .inl (.inr (.inr (q.trans ew)))
  ·exact .inr (by omega)
set_option maxHeartbeats 1000000 in
theorem Ue (hM:ah w M) (h:cW w a S) (hl:ik M.xs M.ds (M.hs,S.H)) (hd:(dx M.xs M.ds (M.hs,S.H)).2.d.1<=65536/\(dx M.xs M.ds (M.hs,S.H)).2.d.2<=4000000) (hs:0<=S.sum/\S.sum<4294967296) (hr:lU M.ds (M.hs,S.H)=true) (h1:S.ph=1):
 Calls Tryz.prog 142 #[ptr a.f,ptr M.m] w fun e w'=>e=.returned (.bool false)/\Jx w M a S (aH (lm M) S).1 (aH (lm M) S).2 w':=by
 have hS:=Uc hM h hl hr
 have hf:=DC (xs:=M.xs) (ds:=M.ds) (M.hs,S.H)
 have c5:=h.hd.2.2.2.2.1
 unfold aH
 rw [if_pos h1]
 simp only
 cases cB:iK M.xs (M.hs,S.H) with
 | false=>
   rw [cB] at hS
   rw [if_neg (by simp)]
   generalize dx M.xs M.ds (M.hs,S.H)=z at*
   obtain ⟨hs',H'⟩:=z
   simp only at hS hf ⊢
   replace hS:=Lib.hid hS
   replace hf:=Lib.hid hf
   clear cB h hM hl hr h1 hs hd
   go_enter Tryz.func142,Tryz.ntmps142
   go_wp2_with fail
   refine hS.out.mono ?_
   rintro e w1 ⟨rfl,aw,bf,ax⟩
   replace aw:=Lib.hid aw
   replace bf:=Lib.hid bf
   replace ax:=Lib.hid ax
   clear hS c5
   go_wp2_with fail
   go_ret
   exact ⟨rfl,_,a,aw.out,rfl,⟨rfl,rfl,rfl,rfl,fun _ q=>.inl q⟩,bf.out,rfl,DD rfl hf.out (.inl rfl),ax.out⟩
 | true=>
   rw [cB] at hS
   rw [if_pos rfl]
   generalize dx M.xs M.ds (M.hs,S.H)=z at*
   obtain ⟨hs',H'⟩:=z
   simp only at hS hf hd ⊢
   have yF:(if H'.holds=true then H'.d else (0,0)).1<=65536/\(if H'.holds=true then H'.d else (0,0)).2<=4000000:=by
    split
    ·exact hd
    ·simp
   obtain ⟨d,yG⟩:∃ d,d=if H'.holds=true then H'.d else (0,0):=⟨_,rfl⟩
   rw [<-yG] at yF
   have hc:o7 S.sum H'=Gt.cellOf S.sum d:=by unfold o7; rw [yG]
   rw [hc]
   obtain ⟨c,Bj⟩:∃ c,c=Gt.cellOf S.sum d:=⟨_,rfl⟩
   rw [<-Bj]
   replace hS:=Lib.hid hS
   replace hf:=Lib.hid hf
   replace Bj:=Lib.hid Bj
   replace yG:=Lib.hid yG
   clear cB h hM hl hr hd hc
   replace h1:=Lib.hid h1
   go_enter Tryz.func142,Tryz.ntmps142
   go_wp2_with fail
   refine hS.out.mono ?_
   rintro e w1 ⟨rfl,aw,bf,ax⟩
   have k5:=bf.hd.2.2.2.2.1
   simp only at k5
   have hD:=Iw bf.2.1
   simp only at hD
   rw [<-yG.out] at hD
   unfold dv at hD
   replace hD:=Lib.hid hD
   replace aw:=Lib.hid aw
   replace bf:=Lib.hid bf
   replace ax:=Lib.hid ax
   clear hS c5
   go_wp2_with fail
   refine hD.out.mono ?_
   rintro e w2 ⟨rfl,ag⟩
   have bn:=bf.out.below ag
   have aI:=aw.out.below ag
   have hC:=Ub bn.1.lt bn.hd.1 d yF hs
   rw [<-Bj.out] at hC
   unfold dv at hC
   have ae:=ax.out.below ag
   replace hC:=Lib.hid hC
   replace aI:=Lib.hid aI
   replace bn:=Lib.hid bn
   replace ae:=Lib.hid ae
   clear hD aw bf ax ag k5
   go_wp2_with fail
   refine hC.out.mono ?_
   rintro e w3 ⟨rfl,ay⟩
   have ba:=bn.out.below ay
   have bB:=aI.out.below ay
   have an:=ae.out.below ay
   have hW:=Lib.hid (wB ba.1 rfl rfl rfl c)
   replace bB:=Lib.hid bB
   replace ba:=Lib.hid ba
   replace an:=Lib.hid an
   clear hC aI bn ae ay
   go_wp2_with fail
   refine hW.out.mono ?_
   rintro e w4 ⟨rfl,b,hb,eO,fT,aN⟩
   have k3:=eO.cell 2
   have k4:=eO.cell 3
   have k6:=eO.cell 6
   simp [zS] at k3 k4 k6
   have z3:=eO.frozen 2
   have z4:=eO.frozen 3
   have mO:=(eO.store 2 (aU 175 (ptr b))).store 3 (aU 176 (ptr b))
   have ap3:=ba.out.apart
   have bN:=(((ab.refl (·=a.f) w4).setCell (p:=⟨a.f,2,none⟩) (.inl rfl) (aU 175 (ptr b))).setCell (p:=⟨a.f,3,none⟩) (.inl rfl) (aU 176 (ptr b)))
   have Bk:=aN.trans bN
   have qB:=eO.differ fT (by decide)
   have far3:=ba.out.aB bB.out (.inl rfl)
   have hE:cW ((w4.setCell ⟨a.f,2,none⟩ (aU 175 (ptr b))).setCell ⟨a.f,3,none⟩ (aU 176 (ptr b))) {a with w:=b} {S with H:=H',cell:=c,W:=new 0 c S.sum S.key,ph:=2}:=
    ⟨by simpa [zS,ob,mK] using mO,ba.out.2.1.only Bk (fun e=>ap3.1 e.symm),fT.only bN (fun e=>qB e.symm)⟩
   have ia:=bB.out.only Bk (fun x hx q=>far3 (q▸hx))
   have cA:=an.out.size
   have Fb:ab (fun x=>aq M x\/dq a S x) w _:=an.out.trans' Bk (fun x _ q=>.inr (.inl q))
   have yH:=Nat.le_trans cA hb
   replace hE:=Lib.hid hE
   replace ia:=Lib.hid ia
   replace Fb:=Lib.hid Fb
   replace yH:=Lib.hid yH
   clear hW bB ba an eO fT aN mO bN Bk qB far3 ap3 hb cA
   go_wp2_with fail
   go_region
   all_goals
    go_wp2_with fail
    go_ret
    have pV:∀ w:World,Below w.heap.size w w.drew:=fun w=>⟨rfl,rfl,rfl,Nat.le_refl _,fun _ _=>rfl⟩
    exact ⟨rfl,_,_,ia.out.below (pV _),rfl,⟨rfl,rfl,rfl,rfl,fun _ q=>.inl q⟩,hE.out.below (pV _),rfl,DD (a:=a) (a':={a with w:=b}) (S:=S) rfl hf.out (.inr yH.out),Fb.out.below (pV _)⟩
end
end Go.Proofs.YtpanebgakndddaaGreat.Pu
namespace Go.Proofs.YtpanebgakndddaaGreat.Pu
open Go Hm Ar Mm Me
def aS (ss:List Sl) (x y:Nat):List Sl:=ss.set ((x-1) % 65536) {aj ss ((x-1) % 65536) with nd:={(aj ss ((x-1) % 65536)).nd with next:=(y:Int)}}
end Go.Proofs.YtpanebgakndddaaGreat.Pu
namespace Go.Proofs.YtpanebgakndddaaGreat.Pu
open Go Go.RowKit Hp K Fl Rw Hm Ar Mm Me Wk Ta Pn Pc
set_option maxRecDepth 100000
theorem Uf {xs:List Int} {ds:List (Nat×Nat)} {s:List Int×Ho} (h:s.2.d.1<=65536/\s.2.d.2<=4000000) (ht:∀ i,(aO ds i).1<=65536/\(aO ds i).2<=4000000):(dx xs ds s).2.d.1<=65536/\(dx xs ds s).2.d.2<=4000000:=by
 unfold dx
 split
 ·exact h
 split
 ·exact ht _
 split
 ·split<;>exact h
 split<;>exact h
theorem mL {w:World} {F f:Nat} {cv m:Value} {c:Bool} {P:World->Prop} (c4:w.cell? ⟨f,3,none⟩=some (aU F cv)) (eF:∀ args w,(callFunc F args).run Tryz.prog w=.ok (.enter F args) w)
 (hF:Calls Tryz.prog F #[cv,m] w fun e w'=>e=.returned (.bool c)/\P w'):Calls Tryz.prog 143 #[ptr f,m] w fun e w'=>e=.returned (.bool c)/\P w':=by
 replace hF:=Lib.hid hF
 go_enter Tryz.func143,Tryz.ntmps143
 go_wp2_with fail
 refine hF.out.mono ?_
 rintro e w' ⟨rfl,bq⟩
 replace bq:=Lib.hid bq
 clear c4
 go_wp2_with fail
 go_ret
 exact ⟨rfl,bq.out⟩
theorem zT {w:World} {F f:Nat} {cv m:Value} {c:Bool} {P:World->Prop} (c3:w.cell? ⟨f,2,none⟩=some (aU F cv)) (eF:∀ args w,(callFunc F args).run Tryz.prog w=.ok (.enter F args) w)
 (hF:Calls Tryz.prog F #[cv,m] w fun e w'=>e=.returned (.bool c)/\P w'):Calls Tryz.prog 275 #[ptr f,m] w fun e w'=>e=.returned (.bool c)/\P w':=by
 replace hF:=Lib.hid hF
 go_enter Tryz.func275,Tryz.ntmps275
 go_wp2_with fail
 refine hF.out.mono ?_
 rintro e w' ⟨rfl,bq⟩
 replace bq:=Lib.hid bq
 clear c3
 go_wp2_with fail
 go_ret
 exact ⟨rfl,bq.out⟩
theorem Ug (args:Array Value) (w:World):(callFunc 141 args).run Tryz.prog w=.ok (.enter 141 args) w:=by kernel_rfl
theorem Uh (args:Array Value) (w:World):(callFunc 175 args).run Tryz.prog w=.ok (.enter 175 args) w:=by kernel_rfl
theorem Ui (args:Array Value) (w:World):(callFunc 176 args).run Tryz.prog w=.ok (.enter 176 args) w:=by kernel_rfl
theorem Uj (args:Array Value) (w:World):(callFunc 142 args).run Tryz.prog w=.ok (.enter 142 args) w:=by kernel_rfl
section
variable {w w':World} {M:Mo} {a:Sa} {S:Sk}
theorem G7 (hM:ah w M) (h:cW w a S) (hl:S.ph=1->ik M.xs M.ds (M.hs,S.H)):Calls Tryz.prog 275 #[ptr a.f,ptr M.m] w fun e w'=>e=.returned (.bool (eK (lm M) S))/\Below w.heap.size w w':=by
 have c3:=h.hd.2.2.1
 unfold ob at c3
 unfold eK
 split
 ·rename_i h1
  rw [if_pos h1] at c3
  have:=JA hM h.2.1 (hl h1).xi
  rw [Uk] at this
  exact zT c3 Ug this
 ·rename_i h1
  rw [if_neg h1] at c3
  exact zT c3 Uh ((Wk.pM _ _ w).mono fun e w' q=>⟨q.1,q.2▸Below.refl _ _⟩)
theorem G0 (hM:ah w M) (h:cW w a S) {r:Nat} (ok:qP r (lm M) S) (hr:eK (lm M) S=true):
 Calls Tryz.prog 143 #[ptr a.f,ptr M.m] w fun e w'=>e=.returned (.bool (b7 (lm M) S))/\Jx w M a S (aH (lm M) S).1 (aH (lm M) S).2 w':=by
 have c4:=h.hd.2.2.2.1
 unfold mK at c4
 by_cases e1:S.ph=1
 ·rw [if_pos e1] at c4
  have ed:b7 (lm M) S=false:=by unfold b7; rw [if_pos e1]
  rw [ed]
  unfold eK at hr
  rw [if_pos e1] at hr
  exact mL c4 Uj (Ue hM h (ok.hd e1) (Uf (ok.desc e1) ok.tb) ok.sum hr e1)
 ·rw [if_neg e1] at c4
  have ed:b7 (lm M) S=Wk.cp M.xs M.ss (M.F,S.W):=by unfold b7; rw [if_neg e1]
  have es:aH (lm M) S=({lm M with F:=(Wk.aE M.xs M.ss (M.F,S.W)).1},{S with W:=(Wk.aE M.xs M.ss (M.F,S.W)).2}):=by unfold aH; rw [if_neg e1]
  rw [ed,es]
  have okw:=ok.wa e1
  have hS:=(Co hM h.2.2 ok.db (r:=r) ⟨okw.cell,okw.at_,okw.read,okw.nx⟩)
  rw [Gt.Hv,Gt.Ck] at hS
  refine mL c4 Ui (hS.mono fun e w' q=>⟨q.1,?_⟩)
  exact ⟨{M with F:=(Wk.aE M.xs M.ss (M.F,S.W)).1},a,q.2.1,rfl,⟨rfl,rfl,rfl,rfl,fun _ y=>.inl y⟩,h.walked hM q.2.2.1 q.2.2.2,rfl,DD rfl rfl (.inl rfl),q.2.2.2.mono (fun x _ y=>y.imp id (fun e=>.inr (.inr e)))⟩
def jV (L:Lm) (S:Sk) (y:Nat):Lm:=if S.W.found≠0/\S.W.prev≠0 then {L with ss:=aS L.ss S.W.prev y} else {L with xs:=L.xs.set S.cell.toNat y}
structure ua (L:Lm) (S:Sk) (y:Nat):Prop where
 y:y<=18446744073709551615
 link:S.W.found≠0/\S.W.prev≠0->S.W.prev<=18446744073709551615/\∃ k,bj L.ss S.W.prev k
 cell:¬(S.W.found≠0/\S.W.prev≠0)->0<=S.cell/\S.cell<L.xs.length
def xj (w:World) (M:Mo) (a:Sa) (S:Sk) (L':Lm) (w':World):Prop:=∃ M',ah w' M'/\lm M'=L'/\gq w M M'/\cW w' a S/\ab (aq M) w w'
set_option maxHeartbeats 2000000 in
theorem Ul (hM:ah w M) (h:cW w a S) (hf:S.W.found≠0) (hp:S.W.prev≠0) (hb:S.W.prev<=18446744073709551615) {k:Nat} (hk:bj M.ss S.W.prev k) (y:Nat):
 Calls Tryz.prog 179 #[ptr a.f,ptr M.m,.int .u64 y] w fun e w'=>e=.returned (.tuple #[])/\xj w M a S (jV (lm M) S y) w':=by
 have cf:(S.W.prev-1) % 65536=k:=(nO hM.2.2.2.1.room.2 hk).1
 have e:jV (lm M) S y={lm M with ss:=M.ss.set k {aj M.ss k with nd:={(aj M.ss k).nd with next:=(y:Int)}}}:=by
  unfold jV aS
  rw [if_pos ⟨hf,hp⟩,cf]
 rw [e]
 have cM:=DB h
 rw [decide_eq_true hf] at cM
 have pC:∀ w1,Below w.heap.size w w1->Calls Tryz.prog 202 #[ptr a.w] w1 fun e w'=>e=.returned (.int .u64 S.W.prev)/\w1=w':=fun w1 av=>JB (h.below av).2.2
 have hA:=fun w1 (av:Below w.heap.size w w1)=>(By (hM.below av).2.2.2.1 hb hk (y:Int)).mono fun e w2 q=>
  show e=.returned (.int .i64 0)/\xj w M a S {lm M with ss:=M.ss.set k {aj M.ss k with nd:={(aj M.ss k).nd with next:=(y:Int)}}} w2 from
   ⟨q.1,{M with ss:=M.ss.set k {aj M.ss k with nd:={(aj M.ss k).nd with next:=(y:Int)}}},(hM.below av).wM q.2.1 q.2.2,rfl,⟨rfl,rfl,rfl,rfl,fun _ y=>.inl y⟩,(h.below av).only q.2.2 (fun x hx q=>h.aB hM hx (sM _ q)),(ab.aA av _).trans (q.2.2.mono fun x _ q=>sM _ q)⟩
 have bc:=Lib.hid (fun w1 (av:Below w.heap.size w w1)=>show w1.cell? ⟨a.f,6,none⟩=some (ptr a.w)/\w1.cell? ⟨M.m,2,none⟩=some (ptr M.ar) from
  ⟨(h.below av).hd.2.2.2.2.2.2,(hM.below av).hd.2.2.1⟩)
 have c7:=h.hd.2.2.2.2.2.2
 have e0:((S.W.prev:Int) != 0)=true:=by simp; omega
 have lf:=Lib.hid (fun w1 (av:Below w.heap.size w w1)=>(h.below av).1.lt)
 unfold eg at cM
 generalize {lm M with ss:=M.ss.set k {aj M.ss k with nd:={(aj M.ss k).nd with next:=(y:Int)}}}=L' at*
 generalize rO:S.W.found=x at*
 generalize Fc:S.W.prev=pv at*
 generalize S.W.nd=n at*
 obtain ⟨nk,nv,ns,nn⟩:=n
 simp only at cM
 replace cM:=Lib.hid cM
 replace pC:=Lib.hid pC
 replace hA:=Lib.hid hA
 clear hM h hf hp hb hk cf e rO Fc
 go_enter Tryz.func179,Tryz.ntmps179
 go_wp2_with fail
 refine cM.out.mono ?_
 rintro e w1 ⟨rfl,av⟩
 obtain ⟨w2,aT⟩:∃ w2,w2=w1.alloc (.cells #[.string nk,.string nv,.int .u32 ns,.int .u64 nn] 67):=⟨_,rfl⟩
 have au:Below w.heap.size w w2:=by rw [aT]; exact av.alloc av.size _
 have k7:=(bc.out w1 av).1
 have lf1:=lf.out w1 av
 obtain ⟨j7,j2⟩:=bc.out w2 au
 have bn:=Lib.hid (pC.out w2 au)
 have bw:=Lib.hid (hA.out w2 au)
 clear av au cM pC hA c7
 go_wp2_with fail
 rw [<-aT]
 clear aT k7
 refine bn.out.mono ?_
 rintro e w3 ⟨rfl,rfl⟩
 clear bn
 go_wp2_with fail
 refine bw.out.mono ?_
 rintro e w3 ⟨rfl,hL⟩
 replace hL:=Lib.hid hL
 clear bw
 go_wp2_with fail
 exact bodyPost_ret (v:=.tuple #[]) (by simp [results,Tryz.results179]) rfl ⟨rfl,hL.out⟩
set_option maxHeartbeats 2000000 in
theorem Um (hM:ah w M) (h:cW w a S) (hn:¬(S.W.found≠0/\S.W.prev≠0)) (hc:0<=S.cell/\S.cell<M.xs.length) (y:Nat) (hy:y<=18446744073709551615):
 Calls Tryz.prog 179 #[ptr a.f,ptr M.m,.int .u64 y] w fun e w'=>e=.returned (.tuple #[])/\xj w M a S (jV (lm M) S y) w':=by
 have e:jV (lm M) S y={lm M with xs:=M.xs.set S.cell.toNat (y:Int)}:=by
  unfold jV
  rw [if_neg hn]
 rw [e]
 obtain ⟨c,fJ⟩:=Int.eq_ofNat_of_zero_le hc.1
 have cM:=DB h
 have pC:∀ w1,Below w.heap.size w w1->Calls Tryz.prog 202 #[ptr a.w] w1 fun e w'=>e=.returned (.int .u64 S.W.prev)/\w1=w':=fun w1 av=>JB (h.below av).2.2
 have hA:=fun w1 (av:Below w.heap.size w w1)=>(Cl.vU (hM.below av).2.1 c (by omega) (y:Int) (by omega) (by omega)).mono fun e w2 q=>
  show e=.returned (.int .i64 0)/\xj w M a S {lm M with xs:=M.xs.set c (y:Int)} w2 from
   ⟨q.1,{M with xs:=M.xs.set c (y:Int)},(hM.below av).cells q.2.1 q.2.2,rfl,⟨rfl,rfl,rfl,rfl,fun _ y=>.inl y⟩,(h.below av).only q.2.2 (fun x hx q=>h.aB hM hx (n7 _ q)),(ab.aA av _).trans (q.2.2.mono fun x _ q=>n7 _ q)⟩
 have bc:=Lib.hid (fun w1 (av:Below w.heap.size w w1)=>show w1.cell? ⟨a.f,6,none⟩=some (ptr a.w)/\w1.cell? ⟨M.m,0,none⟩=some (ptr M.g)/\w1.cell? ⟨a.f,5,none⟩=some (.int .i64 (c:Int)) from
  ⟨(h.below av).hd.2.2.2.2.2.2,(hM.below av).hd.1,by rw [<-fJ]; exact (h.below av).hd.2.2.2.2.2.1⟩)
 have c7:=h.hd.2.2.2.2.2.2
 have lf:=Lib.hid (fun w1 (av:Below w.heap.size w w1)=>(h.below av).1.lt)
 rw [fJ,Int.toNat_natCast]
 generalize {lm M with xs:=M.xs.set c (y:Int)}=L' at*
 unfold eg at cM
 have Xp:(S.W.found≠0/\S.W.prev=0)\/S.W.found=0:=by
  by_cases q:S.W.found=0
  ·exact .inr q
  ·exact .inl ⟨q,by by_cases q2:S.W.prev=0; exact q2; exact absurd ⟨q,q2⟩ hn⟩
 clear e hn hc
 rcases Xp with ⟨hf,hp⟩ | hf
 all_goals
  first
   | (rw [decide_eq_true hf] at cM; rw [hp] at pC)
   | rw [decide_eq_false (by simpa using hf)] at cM
  generalize rO:S.W.found=x at*
  generalize Fc:S.W.prev=pv at*
  generalize S.W.nd=n at*
  obtain ⟨nk,nv,ns,nn⟩:=n
  simp only at cM
  replace cM:=Lib.hid cM
  replace pC:=Lib.hid pC
  replace hA:=Lib.hid hA
  replace hy:=Lib.hid hy
  replace fJ:=Lib.hid fJ
  try clear hp
  clear hM h hf rO Fc
  go_enter Tryz.func179,Tryz.ntmps179
  go_wp2_with fail
  refine cM.out.mono ?_
  rintro e w1 ⟨rfl,av⟩
  obtain ⟨w2,aT⟩:∃ w2,w2=w1.alloc (.cells #[.string nk,.string nv,.int .u32 ns,.int .u64 nn] 67):=⟨_,rfl⟩
  have au:Below w.heap.size w w2:=by rw [aT]; exact av.alloc av.size _
  have k7:=(bc.out w1 av).1
  have lf1:=lf.out w1 av
  obtain ⟨j7,j2,j5⟩:=bc.out w2 au
  have bn:=Lib.hid (pC.out w2 au)
  have bw:=Lib.hid (fun n=>hA.out (w2.drewN n) (au.trans ⟨rfl,rfl,rfl,by simp,fun _ _=>rfl⟩))
  clear av au cM pC hA c7
  go_wp2_with fail
  rw [<-aT]
  clear aT k7
  refine bn.out.mono ?_
  rintro e w3 ⟨rfl,rfl⟩
  clear bn
  go_wp2_with fail
  go_region_held3 (fun w'=>w'.cell? ⟨M.m,0,none⟩=some (ptr M.g)/\w'.cell? ⟨a.f,5,none⟩=some (.int .i64 (c:Int))) (go_keep)
   (first
     | (go_at_call 45
        refine (bw.out 1).mono ?_
        rintro e w3 ⟨rfl,hL⟩
        have Xq:=Lib.hid hL
        obtain ⟨M3,bB,e3,vH,eN,an⟩:=hL
        have s3:=bB.hd.1
        have s5:=eN.hd.2.2.2.2.2.1
        rw [vH.m,vH.g] at s3
        rw [fJ.out] at s5
        clear bB e3 vH eN an bw))
  all_goals
   go_wp2_with fail
   go_end0
   exact ⟨rfl,Xq.out⟩
theorem G3 (hM:ah w M) (h:cW w a S) {y:Nat} (ok:ua (lm M) S y):
 Calls Tryz.prog 179 #[ptr a.f,ptr M.m,.int .u64 y] w fun e w'=>e=.returned (.tuple #[])/\xj w M a S (jV (lm M) S y) w':=by
 by_cases hl:S.W.found≠0/\S.W.prev≠0
 ·obtain ⟨hb,k,hk⟩:=ok.link hl
  exact Ul hM h hl.1 hl.2 hb hk y
 ·exact Um hM h hl (ok.cell hl) y ok.y
set_option maxHeartbeats 1000000 in
theorem G5 (hM:ah w M) (h:cW w a S) (hl:ik M.xs M.ds (M.hs,S.H)) (hh:S.H.holds=true):
 Calls Tryz.prog 177 #[ptr a.f,ptr M.m] w fun e w'=>e=.returned (.tuple #[])/\ah w' {M with hs:=M.hs.set S.H.lock (-1)}/\cW w' a {S with H:={S.H with holds:=false}}/\ab (fun x=>aq M x\/dq a S x) w w':=by
 have ho:=hl.own (.inr (.inr hh))
 have hR:=(Ix hM h.2.1 hl.xi ho.1 ho.2 hh).mono fun e w' q=>show e=.returned (.bool true)/\(ah w' {M with hs:=M.hs.set S.H.lock (-1)}/\cW w' a {S with H:={S.H with holds:=false}}/\ab (fun x=>aq M x\/dq a S x) w w') from
  ⟨q.1,q.2.1,h.held hM q.2.2.1 rfl q.2.2.2,q.2.2.2.mono fun x _ y=>y.imp id fun e=>.inr (.inl e)⟩
 have c5:=h.hd.2.2.2.2.1
 replace hR:=Lib.hid hR
 clear h hM hl hh ho
 go_enter Tryz.func177,Tryz.ntmps177
 go_wp2_with fail
 refine hR.out.mono ?_
 rintro e w1 ⟨rfl,hD⟩
 replace hD:=Lib.hid hD
 clear hR c5
 go_wp2_with fail
 go_end0
 exact ⟨rfl,hD.out⟩
set_option maxHeartbeats 1000000 in
theorem G6 (k s:Int) (key:ByteArray) (w:World):
 Calls Tryz.prog 106 #[.int .i64 k,.int .u32 s,.string key] w fun e w'=>∃ (a:Sa) (h:Nat),e=.returned (ptr a.f)/\cW w' a (jk h k s key)/\(∀ x,dq a (jk h k s key) x->w.heap.size<=x)/\Below w.heap.size w w':=by
 unfold jk
 have hN:=Lib.hid (Iv k s w)
 go_enter Tryz.func106,Tryz.ntmps106
 go_wp2_with fail
 refine hN.out.mono ?_
 rintro e w1 ⟨rfl,Fe,aD⟩
 obtain ⟨h,hh⟩:∃ h,h=w.heap.size:=⟨_,rfl⟩
 rw [<-hh] at Fe ⊢
 obtain ⟨w2,aT⟩:∃ w2,w2=w1.alloc (.cells #[.int .u32 s,.string key,.nilFunc,.nilFunc,ptr h,.int .i64 0,.pointer none] 226):=⟨_,rfl⟩
 have aP:af w2 w1.heap.size 226 #[.int .u32 s,.string key,.nilFunc,.nilFunc,ptr h,.int .i64 0,.pointer none]:=by rw [aT]; exact af.made w1 _ _
 have th:Below w1.heap.size w1 w2:=by rw [aT]; exact (Below.refl _ _).alloc (Nat.le_refl _) _
 obtain ⟨f,hf⟩:∃ f,f=w1.heap.size:=⟨_,rfl⟩
 rw [<-hf] at aP
 have gZ:w.heap.size<=f:=by rw [hf]; exact aD.size
 have Yl:w.heap.size<=h:=by omega
 have ag:=aD.trans (th.mono aD.size)
 have iN:=Fe.below th
 have hd:=aP.differ iN (by decide)
 have hW:=Lib.hid (wB aP rfl rfl rfl (-1))
 replace iN:=Lib.hid iN
 replace ag:=Lib.hid ag
 replace hd:=Lib.hid hd
 clear hN Fe aD th aP hh
 go_upto_region 2 with (fail)
 rw [<-aT,<-hf]
 clear aT hf
 go_wp2_with fail
 refine hW.out.mono ?_
 rintro e w4 ⟨rfl,b,hb,eO,fT,aN⟩
 have k3:=eO.cell 2
 have k4:=eO.cell 3
 have j5:=eO.cell 4
 simp at k3 k4 j5
 have z3:=eO.frozen 2
 have z4:=eO.frozen 3
 have jB:=iN.out.only aN (fun e=>hd.out e.symm)
 have az:=ag.out.trans (aN.toBelow ag.out.size (fun x hx e=>by subst e; omega))
 have yH:w.heap.size<=b:=Nat.le_trans ag.out.size hb
 have qB:=eO.differ fT (by decide)
 have hE:Hid (cW ((w4.setCell ⟨f,2,none⟩ (aU 141 (ptr h))).setCell ⟨f,3,none⟩ (aU 142 (ptr f))) ⟨f,b⟩ ⟨key,s,1,⟨h,k,s,1,0,(0,0),0,false⟩, -1,new 0 (-1) s key⟩):=Lib.hid
  ⟨(eO.store 2 (aU 141 (ptr h))).store 3 (aU 142 (ptr f)),af.aB (af.aB jB (p:=⟨f,2,none⟩) (fun e=>hd.out e.symm) _) (p:=⟨f,3,none⟩) (fun e=>hd.out e.symm) _,
    af.aB (af.aB fT (p:=⟨f,2,none⟩) (fun e=>qB e.symm) _) (p:=⟨f,3,none⟩) (fun e=>qB e.symm) _⟩
 have jo:=Lib.hid ((az.setCell (p:=⟨f,2,none⟩) gZ (aU 141 (ptr h))).setCell (p:=⟨f,3,none⟩) gZ (aU 142 (ptr f)))
 have fR:Hid (∀ x,dq ⟨f,b⟩ ⟨key,s,1,⟨h,k,s,1,0,(0,0),0,false⟩, -1,new 0 (-1) s key⟩ x->w.heap.size<=x):=Lib.hid (by
  rintro x (q | q | q)<;>simp only at q<;>omega)
 clear hW iN ag eO fT aN jB az yH qB hb hd
 go_wp2_with fail
 go_ret
 exact ⟨_,_,rfl,hE.out,fR.out,jo.out⟩
end
end Go.Proofs.YtpanebgakndddaaGreat.Pu
namespace Go.Proofs.YtpanebgakndddaaGreat.Pu
open Go Go.RowKit Hp K Fl Rw Hm Ar Mm Me Wk Ta Pn Pc
set_option maxRecDepth 100000
structure Pt extends Sk where
 val:ByteArray
 nx:Nat
 err:Int
 bU:Nat
structure Qa where
 f:Nat
 s:Nat
 w:Nat
abbrev Qa.sa (a:Qa):Sa:=⟨a.s,a.w⟩
def iL (nx f:Nat):Value:=if nx=2 then aU 127 (ptr f) else if nx=3 then aU 161 (ptr f)
 else if nx=4 then aU 197 (ptr f) else if nx=5 then aU 215 (ptr f) else if nx=6 then aU 163 (ptr f) else dY 198
def uC (a:Qa) (P:Pt):Array Value:=#[.string P.key,.string P.val,.int .u32 P.sum,ptr a.s,iL P.nx a.f,.int .i64 P.err,.int .u64 P.bU]
def bL (w:World) (a:Qa) (P:Pt):Prop:=af w a.f 216 (uC a P)/\cW w a.sa P.toSk
def iF (a:Qa) (P:Pt) (x:Nat):Prop:=x=a.f\/dq a.sa P.toSk x
abbrev B7:List TypeId:=[216,226,243,237]
abbrev zm:iG Qa Pt:=⟨Qa.f,bL,iF⟩
section
variable {w w':World} {M:Mo} {a:Qa} {P:Pt}
theorem bL.ty (h:bL w a P) {x:Nat} (hx:iF a P x):Ty w x B7:=by
 obtain ⟨h1,h2⟩:=h
 rcases hx with rfl | hx
 ·exact (bm h1).mono (by simp)
 ·exact (h2.ty hx).mono (fun t ht=>List.mem_cons_of_mem _ ht)
theorem bL.aB (h:bL w a P) (hM:ah w M) {x:Nat} (hx:iF a P x):¬aq M x:=fun hm=>(hM.ty hm).apart (h.ty hx) (by decide)
theorem bL.only {S:Nat->Prop} (h:bL w a P) (ho:ab S w w') (hn:∀ x,iF a P x->¬S x):bL w' a P:=
 ⟨h.1.only ho (hn _ (.inl rfl)),h.2.only ho (fun x hx=>hn _ (.inr hx))⟩
theorem bL.below (h:bL w a P) (hb:Below w.heap.size w w'):bL w' a P:=h.only (ab.aA hb (fun _=>False)) (by simp)
theorem bL.drewN (h:bL w a P) (n:Nat):bL (w.drewN n) a P:=h.only ((ab.refl (fun _=>False) w).drewN n) (by simp)
theorem bL.hd (h:bL w a P):w.cell? ⟨a.f,0,none⟩=some (.string P.key)/\w.cell? ⟨a.f,1,none⟩=some (.string P.val)/\w.cell? ⟨a.f,2,none⟩=some (.int .u32 P.sum)/\w.cell? ⟨a.f,3,none⟩=some (ptr a.s)/\
 w.cell? ⟨a.f,4,none⟩=some (iL P.nx a.f)/\w.cell? ⟨a.f,5,none⟩=some (.int .i64 P.err)/\w.cell? ⟨a.f,6,none⟩=some (.int .u64 P.bU):=
 ⟨h.1.cell 0,h.1.cell 1,h.1.cell 2,h.1.cell 3,h.1.cell 4,h.1.cell 5,h.1.cell 6⟩
theorem bL.dc (h:bL w a P) (i:Nat):w.frozen? ⟨a.f,i,none⟩=false:=h.1.frozen i
theorem bL.self (h:bL w a P) {x:Nat} (hx:dq a.sa P.toSk x):x≠a.f:=by
 rintro rfl
 exact (h.2.ty hx).apart (bm h.1) (by decide)
theorem bL.own (h:bL w a P) {P':Pt} (hB:af w' a.f 216 (uC a P')) (ho:ab (·=a.f) w w') (eS:P'.toSk=P.toSk):bL w' a P':=
 ⟨hB,by rw [eS]; exact h.2.only ho (fun x hx e=>h.self hx e)⟩
theorem bL.next (h:bL w a P) (n:Nat):bL (w.setCell ⟨a.f,4,none⟩ (iL n a.f)) a {P with nx:=n}:=
 h.own (h.1.store 4 (iL n a.f)) ((ab.refl (·=a.f) w).setCell (p:=⟨a.f,4,none⟩) (.inl rfl) (iL n a.f)) rfl
theorem bL.wo {S:Nat->Prop} {a':Sa} {S':Sk} (h:bL w a P) (hS:cW w' a' S') (ef:a'.f=a.s) (ek:S'.key=P.key) (es:S'.sum=P.sum) (ho:ab S w w') (hn:¬S a.f):bL w' {a with w:=a'.w} {P with toSk:=S'}:=by
 obtain ⟨f',b'⟩:=a'
 subst ef
 refine ⟨?_,hS⟩
 have:=h.1.only ho hn
 unfold uC at this ⊢
 simp only [ek,es]
 exact this
end
abbrev bh (w:World) (M:Mo) (a:Qa) (P:Pt) (L':Lm) (P':Pt) (w':World):Prop:=zm.bh w M a P L' P' w'
theorem zN {a a':Qa} {P P':Pt} (ea:a'=a) (eS:P'.H.f=P.H.f) {n:Nat} (x:Nat) (q:iF a' P' x):iF a P x\/n<=x:=by
 subst ea
 rcases q with q | q | q | q
 ·exact .inl (.inl q)
 ·exact .inl (.inr (.inl q))
 ·exact .inl (.inr (.inr (.inl (q.trans eS))))
 ·exact .inl (.inr (.inr (.inr q)))
end Go.Proofs.YtpanebgakndddaaGreat.Pu
namespace Go.Proofs.YtpanebgakndddaaGreat.Pu
open Go Go.RowKit Hp K Fl Rw Hm Ar Mm Me Wk Ta Pn Pc
set_option maxRecDepth 100000
def gT (W:Wa):Int:=if W.found≠0 then W.nd.next else (W.first:Int)
def cN (L:Lm) (P:Pt):Lm×Pt:=
 if P.nx=2 then ((aH L P.toSk).1,{P with toSk:=(aH L P.toSk).2,nx:=if b7 L P.toSk=true then (if (aH L P.toSk).2.cell= -1 then 6 else 3) else 2})
 else if P.nx=3 then (match fW L.ss with
  | some m=>({L with ss:=L.ss.set m ⟨true,(aj L.ss m).gen,⟨P.key,P.val,P.sum,gT P.W⟩⟩},{P with bU:=(aj L.ss m).gen*65536+m+1,err:=0,nx:=4})
  | none=>(L,{P with bU:=0,err:=4,nx:=6}))
 else if P.nx=4 then (jV L P.toSk P.bU,{P with bU:=P.W.found,nx:=if P.W.found≠0 then 5 else 6})
 else if P.nx=5 then ({L with ws:=L.ws++[P.bU]},{P with bU:=0,nx:=6})
 else ({L with hs:=L.hs.set P.H.lock (-1)},{P with H:={P.H with holds:=false},nx:=7})
def qM (L:Lm) (P:Pt):Bool:=eK L P.toSk
def jD (_:Lm) (P:Pt):Bool:=decide (6<=P.nx)
structure vW (L:Lm) (P:Pt):Prop where
 nx:2<=P.nx/\P.nx<=6
 ph:P.nx≠2->P.ph≠1
 sk:P.nx=2->∃ r,qP r L P.toSk
 gen:P.nx=3->∀ k,(aj L.ss k).gen<=1000000
 lead:P.nx=4->ua L P.toSk P.bU
 ret:P.nx=5->L.ws.length<=1000000
 drop:P.nx=6->ik L.xs L.ds (L.hs,P.H)/\P.H.holds=true
theorem Sv (L:Lm) (S:Sk):(aH L S).2.key=S.key/\(aH L S).2.sum=S.sum:=by
 unfold aH
 split
 ·split<;>exact ⟨rfl,rfl⟩
 ·exact ⟨rfl,rfl⟩
section
variable {w w':World} {M:Mo} {a:Qa} {P:Pt}
def Dh (w:World) (M:Mo) (a:Qa) (P:Pt) (L':Lm) (P':Pt) (w':World):Prop:=
 ∃ M' b,ah w' M'/\lm M'=L'/\gq w M M'/\bL w' {a with w:=b} P'/\(∀ x,iF {a with w:=b} P' x->iF a P x\/w.heap.size<=x)/\ab (fun x=>aq M x\/iF a P x) w w'
theorem Dh.pI {L':Lm} {P':Pt} (h:Dh w M a P L' P' w'):bh w M a P L' P' w':=by
 obtain ⟨M',b,h1,h2,h3,h4,h5,h6⟩:=h
 exact ⟨M',{a with w:=b},h1,h2,h3,h4,rfl,h5,h6⟩
theorem Sx (hM:ah w M) (h:bL w a P) {r:Nat} (ok:qP r (lm M) P.toSk) (hr:eK (lm M) P.toSk=true):
 Calls Tryz.prog 143 #[ptr a.s,ptr M.m] w fun e w'=>e=.returned (.bool (b7 (lm M) P.toSk))/\Dh w M a P (aH (lm M) P.toSk).1 {P with toSk:=(aH (lm M) P.toSk).2} w':=by
 refine (G0 hM h.2 ok hr).mono fun e w' q=>⟨q.1,?_⟩
 obtain ⟨M',a',h1,h2,h3,h4,h5,h6,h7⟩:=q.2
 have hk:=Sv (lm M) P.toSk
 have hp:=h.wo h4 h5 hk.1 hk.2 h7 (by
  rintro (q | q)
  ·exact h.aB hM (.inl rfl) q
  ·exact h.self q rfl)
 refine ⟨M',a'.w,h1,h2,h3,hp,?_,h7.mono fun x _ q=>q.imp id .inr⟩
 rintro x (q | q)
 ·exact .inl (.inl q)
 ·have e:a'=(⟨a.s,a'.w⟩:Sa):=by
   obtain ⟨f',b'⟩:=a'
   have:f'=a.s:=h5
   rw [this]
  exact (h6 x (by rw [e]; exact q)).imp .inr id
set_option maxHeartbeats 1000000 in
theorem B0 (hM:ah w M) (h:bL w a P) {r:Nat} (ok:qP r (lm M) P.toSk) (hr:eK (lm M) P.toSk=true) (h2:P.nx=2):
 Calls Tryz.prog 127 #[ptr a.f,ptr M.m] w fun e w'=>e=.returned (.bool false)/\bh w M a P (cN (lm M) P).1 (cN (lm M) P).2 w':=by
 have hS:=Sx hM h ok hr
 have c3:=h.hd.2.2.2.1
 unfold cN
 rw [if_pos h2]
 simp only
 cases cB:b7 (lm M) P.toSk with
 | false=>
   rw [cB] at hS
   rw [if_neg (by simp)]
   generalize aH (lm M) P.toSk=z at*
   have gX:=hS.mono fun e w' q=>And.intro q.1 q.2.pI
   have eP:({P with toSk:=z.2,nx:=2}:Pt)={P with toSk:=z.2}:=by rw [<-h2]
   rw [eP]
   replace hS:=Lib.hid gX
   clear cB h hM ok hr h2 eP gX
   go_enter Tryz.func127,Tryz.ntmps127
   go_wp2_with fail
   refine hS.out.mono ?_
   rintro e w1 ⟨rfl,hW⟩
   replace hW:=Lib.hid hW
   clear hS c3
   go_wp2_with fail
   go_ret
   exact ⟨rfl,hW.out⟩
 | true=>
   rw [cB] at hS
   rw [if_pos rfl]
   generalize aH (lm M) P.toSk=z at*
   obtain ⟨L',S'⟩:=z
   simp only at hS ⊢
   replace hS:=Lib.hid hS
   have dW:=Lib.hid (h.aB hM (.inl rfl))
   clear cB h hM ok hr h2
   obtain ⟨cb,kf⟩:∃ cb,cb=decide (S'.cell= -1):=⟨_,rfl⟩
   have e6:(if S'.cell= -1 then 6 else 3:Nat)=if cb=true then 6 else 3:=by rw [kf]; simp
   have aL:decide (S'.cell≠ -1)= !cb:=by rw [kf]; simp
   rw [e6]
   clear e6 kf
   cases cb
   all_goals
    replace aL:=Lib.hid aL
    first
     | rw [if_pos rfl]
     | rw [if_neg (by simp)]
    go_enter Tryz.func127,Tryz.ntmps127
    go_wp2_with fail
    refine hS.out.mono ?_
    rintro e w1 ⟨rfl,M1,b,aw,el,hK,bf,gY,ax⟩
    have k3:=bf.hd.2.2.2.1
    have k4:=bf.hd.2.2.2.2.1
    simp only at k3 k4
    have z4:=bf.dc 4
    have ba:=bf.next 3
    have nH:=Lib.hid (ba.next 6)
    have pj:=Sy ba.2
    simp only at pj
    rw [aL.out] at pj
    simp only [Bool.not_true,Bool.not_false] at pj
    have an:=(ab.refl (·=a.f) w1).setCell (p:=⟨a.f,4,none⟩) (.inl rfl) (iL 3 a.f)
    have eB:=an.setCell (p:=⟨a.f,4,none⟩) (.inl rfl) (iL 6 a.f)
    have far1:∀ x,aq M1 x->¬x=a.f:=fun x hx q=>bf.aB aw (.inl rfl) (q▸hx)
    have bB:=Lib.hid (aw.only an far1)
    have je:=Lib.hid (aw.only eB far1)
    have xM:=Lib.hid (ax.trans' an (fun x _ q=>.inr (.inl q)))
    have uU:=Lib.hid (ax.trans' eB (fun x _ q=>.inr (.inl q)))
    have Lt:=Lib.hid pj
    replace ba:=Lib.hid ba
    replace gY:=Lib.hid gY
    replace hK:=Lib.hid hK
    replace el:=Lib.hid el
    clear an eB aw bf ax hS c3 far1 pj
    go_wp2_with fail
    refine Lt.out.mono ?_
    rintro e w' ⟨rfl,rfl⟩
    clear Lt
    go_wp2_with fail
    go_ret
    first
     | exact ⟨rfl,_,_,je.out,el.out,hK.out,nH.out,rfl,gY.out,uU.out⟩
     | exact ⟨rfl,_,_,bB.out,el.out,hK.out,ba.out,rfl,gY.out,xM.out⟩
end
end Go.Proofs.YtpanebgakndddaaGreat.Pu
namespace Go.Proofs.YtpanebgakndddaaGreat.Pu
open Go Go.RowKit Hp K Fl Rw Hm Ar Mm Me Wk Ta Pn Pc
set_option maxRecDepth 100000
theorem Sz {M:Mo} {x:Nat} {V':Option Addr} {capV':Nat} {ws':List Nat} {n:Nat} (hV:∀ x,In V' x->In M.V x\/n<=x) (q:aq {M with V:=V',capV:=capV',ws:=ws'} x):aq M x\/n<=x:=by
 rcases q with q | q | q | q | q | q
 ·exact .inl (.inl q)
 ·exact .inl (.inr (.inl q))
 ·exact .inl (.inr (.inr (.inl q)))
 ·exact .inl (.inr (.inr (.inr (.inl q))))
 ·exact .inl (.inr (.inr (.inr (.inr (.inl q)))))
 ·rcases hV x q with q | q
  ·exact .inl (.inr (.inr (.inr (.inr (.inr q)))))
  ·exact .inr q
def pH (w:World) (M:Mo) (L':Lm) (w':World):Prop:=∃ M',ah w' M'/\lm M'=L'/\gq w M M'/\ab (aq M) w w'
theorem G4 {w:World} {M:Mo} (hM:ah w M) (x:Nat) (hn:M.ws.length<=1000000):
 Calls Tryz.prog 18 #[ptr M.m,.int .u64 x] w fun e w'=>e=.returned (.tuple #[])/\pH w M {lm M with ws:=M.ws++[x]} w':=by
 refine (St hM x hn).mono fun e w' q=>⟨q.1,?_⟩
 obtain ⟨V',capV',aw,ax,Xb⟩:=q.2
 refine ⟨_,aw,rfl,⟨rfl,rfl,rfl,rfl,fun x q=>Sz Xb q⟩,ax.mono (fun x _ q=>?_)⟩
 rcases q with q | q
 ·exact .inl q
 ·exact .inr (.inr (.inr (.inr (.inr q))))
section
variable {w w':World} {M:Mo} {a:Qa} {P:Pt}
theorem bL.so (h:bL w a P) (x n:Nat):bL (((w.setCell ⟨a.f,6,none⟩ (.int .u64 x)).setCell ⟨a.f,4,none⟩ (iL 6 a.f)).setCell ⟨a.f,4,none⟩ (iL n a.f)) a {P with bU:=x,nx:=n}/\
 ab (·=a.f) w (((w.setCell ⟨a.f,6,none⟩ (.int .u64 x)).setCell ⟨a.f,4,none⟩ (iL 6 a.f)).setCell ⟨a.f,4,none⟩ (iL n a.f)):=by
 have bn:bL (w.setCell ⟨a.f,6,none⟩ (.int .u64 x)) a {P with bU:=x}:=h.own (by simpa [uC] using h.1.store 6 (.int .u64 x)) ((ab.refl (·=a.f) w).setCell (p:=⟨a.f,6,none⟩) (.inl rfl) (.int .u64 x)) rfl
 exact ⟨(bn.next 6).next n,(((ab.refl (·=a.f) w).setCell (p:=⟨a.f,6,none⟩) (.inl rfl) (.int .u64 x)).setCell (p:=⟨a.f,4,none⟩) (.inl rfl) (iL 6 a.f)).setCell (p:=⟨a.f,4,none⟩) (.inl rfl) (iL n a.f)⟩
theorem bL.zO (h:bL w a P) (x:Nat):bL ((w.setCell ⟨a.f,6,none⟩ (.int .u64 x)).setCell ⟨a.f,4,none⟩ (iL 6 a.f)) a {P with bU:=x,nx:=6}/\
 ab (·=a.f) w ((w.setCell ⟨a.f,6,none⟩ (.int .u64 x)).setCell ⟨a.f,4,none⟩ (iL 6 a.f)):=by
 have bn:bL (w.setCell ⟨a.f,6,none⟩ (.int .u64 x)) a {P with bU:=x}:=h.own (by simpa [uC] using h.1.store 6 (.int .u64 x)) ((ab.refl (·=a.f) w).setCell (p:=⟨a.f,6,none⟩) (.inl rfl) (.int .u64 x)) rfl
 exact ⟨bn.next 6,((ab.refl (·=a.f) w).setCell (p:=⟨a.f,6,none⟩) (.inl rfl) (.int .u64 x)).setCell (p:=⟨a.f,4,none⟩) (.inl rfl) (iL 6 a.f)⟩
theorem pH.pI {L':Lm} {P':Pt} {w1 w2:World} (h:pH w M L' w1) (hP:bL w a P) (hM:ah w M) (bn:bL w1 a P->bL w2 a P') (eS:P'.H.f=P.H.f) (ho:ab (·=a.f) w1 w2):bh w M a P L' P' w2:=by
 obtain ⟨M1,aw,el,hK,hO⟩:=h
 have bf:=hP.only hO (fun x hx q=>hP.aB hM hx q)
 exact ⟨M1,a,aw.only ho (fun x hx q=>bf.aB aw (.inl rfl) (q▸hx)),el,hK,bn bf,rfl,zN rfl eS,(hO.mono (fun x _ q=>(.inl q:aq M x\/iF a P x))).trans' ho (fun x _ q=>.inr (.inl q))⟩
set_option maxHeartbeats 1000000 in
theorem SA (hM:ah w M) (h:bL w a P) (hn:M.ws.length<=1000000) (h5:P.nx=5):
 Calls Tryz.prog 215 #[ptr a.f,ptr M.m] w fun e w'=>e=.returned (.bool false)/\bh w M a P (cN (lm M) P).1 (cN (lm M) P).2 w':=by
 have hR:=Lib.hid (G4 hM P.bU hn)
 have c6:=h.hd.2.2.2.2.2.2
 have HP:=Lib.hid h
 have HM:=Lib.hid hM
 unfold cN
 rw [if_neg (by omega),if_neg (by omega),if_neg (by omega),if_pos h5]
 clear h hM hn h5
 go_enter Tryz.func215,Tryz.ntmps215
 go_wp2_with fail
 refine hR.out.mono ?_
 rintro e w1 ⟨rfl,hW⟩
 have bf:bL w1 a P:=by
  obtain ⟨M1,_,_,_,hO⟩:=hW
  exact HP.out.only hO (fun x hx q=>HP.out.aB HM.out hx q)
 have k6:=bf.hd.2.2.2.2.2.2
 have k4:=bf.hd.2.2.2.2.1
 have z6:=bf.dc 6
 have z4:=bf.dc 4
 have hE:=Lib.hid (hW.pI HP.out HM.out (fun q=>(q.zO 0).1) rfl (bf.zO 0).2)
 clear bf hW hR c6
 go_wp2_with fail
 go_ret
 exact ⟨rfl,hE.out⟩
set_option maxHeartbeats 1000000 in
theorem SB (hM:ah w M) (h:bL w a P) (ok:ua (lm M) P.toSk P.bU) (h4:P.nx=4):
 Calls Tryz.prog 197 #[ptr a.f,ptr M.m] w fun e w'=>e=.returned (.bool false)/\bh w M a P (cN (lm M) P).1 (cN (lm M) P).2 w':=by
 have hR:=fun w1 (hb:Below w.heap.size w w1)=>(G3 (hM.below hb) (h.2.below hb) ok).mono fun e w' q=>show e=.returned (.tuple #[])/\pH w M (jV (lm M) P.toSk P.bU) w' from
  ⟨q.1,by obtain ⟨M',h1,h2,h3,_,h5⟩:=q.2; exact ⟨M',h1,h2,(gq.refl w M).trans h3 hb.size,(ab.aA hb _).trans h5⟩⟩
 replace hR:=fun n=>hR (w.drewN n) ⟨rfl,rfl,rfl,Nat.le_refl _,fun _ _=>rfl⟩
 have c3:=h.hd.2.2.2.1
 have c6:=h.hd.2.2.2.2.2.2
 have rm:=Lib.hid (show M.m≠a.f from fun e=>h.aB hM (.inl e) (.inl rfl))
 have HP:=Lib.hid h
 have HM:=Lib.hid hM
 unfold cN
 rw [if_neg (by omega),if_neg (by omega),if_pos h4]
 generalize Xc:jV (lm M) P.toSk P.bU=L' at*
 obtain ⟨x,rO⟩:∃ x,x=P.W.found:=⟨_,rfl⟩
 obtain ⟨n,vC⟩:∃ n,n=P.W.nd:=⟨_,rfl⟩
 obtain ⟨nk,nv,ns,nn⟩:=n
 have Ed:∃ b,decide (x≠0)=b/\(if x≠0 then 5 else 6:Nat)=if b=true then 5 else 6:=⟨_,rfl,by simp⟩
 obtain ⟨b,hb,e5⟩:=Ed
 rw [<-rO]
 simp only [e5]
 replace hR:=Lib.hid hR
 replace rO:=Lib.hid rO
 replace vC:=Lib.hid vC
 replace hb:=Lib.hid hb
 have iO:Hid (∀ w1 w2 (P':Pt),pH w M L' w1->(bL w1 a P->bL w2 a P')->P'.H.f=P.H.f->ab (·=a.f) w1 w2->bh w M a P L' P' w2):=Lib.hid (fun w1 w2 P' hW hq eS ho=>hW.pI h hM hq eS ho)
 clear h hM h4 Xc ok e5
 go_enter Tryz.func197,Tryz.ntmps197
 go_wp2_with fail
 go_region_held3 (fun w'=>w'.cell? ⟨a.f,3,none⟩=some (ptr a.s)/\w'.cell? ⟨a.f,6,none⟩=some (.int .u64 P.bU)) (go_keep)
  (first
    | (go_at_call 179
       refine (hR.out 1).mono ?_
       rintro e w1 ⟨rfl,hW⟩
       have bf:bL w1 a P:=by
        obtain ⟨M1,_,_,_,hO⟩:=hW
        exact HP.out.only hO (fun x hx q=>HP.out.aB HM.out hx q)
       have k3:=bf.hd.2.2.2.1
       have k6:=bf.hd.2.2.2.2.2.2
       have cM:=ub bf.2
       unfold eg at cM
       rw [<-rO.out,<-vC.out,hb.out] at cM
       simp only at cM
       replace cM:=Lib.hid cM
       replace bf:=Lib.hid bf
       replace hW:=Lib.hid hW
       clear hR))
 all_goals
  go_wp2_with fail
  refine cM.out.mono ?_
  rintro e w2 ⟨rfl,au⟩
  have aR:=au.alloc (o:=.cells #[.string nk,.string nv,.int .u32 ns,.int .u64 nn] 67) au.size
  obtain ⟨w3,cX⟩:∃ w3,w3=w2.alloc (.cells #[.string nk,.string nv,.int .u32 ns,.int .u64 nn] 67):=⟨_,rfl⟩
  rw [<-cX] at aR
  have ba:=bf.out.below aR
  have k6':=ba.hd.2.2.2.2.2.2
  have k4':=ba.hd.2.2.2.2.1
  have z6':=ba.dc 6
  have z4':=ba.dc 4
  have dw:pH w M L' w3:=by
   obtain ⟨M1,q1,q2,q3,q4⟩:=hW.out
   exact ⟨M1,q1.below aR,q2,q3,q4.below aR⟩
  have h5:=Lib.hid (iO.out _ _ _ dw (fun q=>(q.so x 5).1) rfl (ba.so x 5).2)
  have h6:=Lib.hid (iO.out _ _ _ dw (fun q=>(q.zO x).1) rfl (ba.zO x).2)
  clear dw ba aR au cM k3 k6 hW
  go_upto_region 3 with (fail)
  rw [<-cX]
  clear cX
  cases b
  all_goals
   go_wp2_with fail
   go_ret
   first
    | exact ⟨rfl,h5.out⟩
    | exact ⟨rfl,h6.out⟩
set_option maxHeartbeats 1000000 in
theorem SC (hM:ah w M) (h:bL w a P) (hl:ik M.xs M.ds (M.hs,P.H)) (hh:P.H.holds=true) (h6:P.nx=6):
 Calls Tryz.prog 163 #[ptr a.f,ptr M.m] w fun e w'=>e=.returned (.bool true)/\bh w M a P (cN (lm M) P).1 (cN (lm M) P).2 w':=by
 have hR:=Lib.hid (G5 hM h.2 hl hh)
 have c3:=h.hd.2.2.2.1
 have HP:=Lib.hid h
 have HM:=Lib.hid hM
 unfold cN
 rw [if_neg (by omega),if_neg (by omega),if_neg (by omega),if_neg (by omega)]
 clear h hM hl hh h6
 go_enter Tryz.func163,Tryz.ntmps163
 go_wp2_with fail
 refine hR.out.mono ?_
 rintro e w1 ⟨rfl,aw,iP,ax⟩
 have bf:=HP.out.wo iP rfl rfl rfl ax (by
  rintro (q | q)
  ·exact HP.out.aB HM.out (.inl rfl) q
  ·exact HP.out.self q rfl)
 have k4:=bf.hd.2.2.2.2.1
 have z4:=bf.dc 4
 have ba:=Lib.hid (bf.next 7)
 have an:=(ab.refl (·=a.f) w1).setCell (p:=⟨a.f,4,none⟩) (.inl rfl) (iL 7 a.f)
 have bB:=Lib.hid (aw.only an (fun x hx q=>bf.aB aw (.inl rfl) (q▸hx)))
 have xM:Hid (ab (fun x=>aq M x\/iF a P x) w _):=Lib.hid ((ax.mono (fun x _ q=>q.imp id .inr)).trans' an (fun x _ q=>.inr (.inl q)))
 clear bf an aw ax hR c3 iP
 go_wp2_with fail
 go_ret
 exact ⟨rfl,_,a,bB.out,rfl,⟨rfl,rfl,rfl,rfl,fun _ q=>.inl q⟩,ba.out,rfl,zN rfl rfl,xM.out⟩
end
end Go.Proofs.YtpanebgakndddaaGreat.Pu
