/- Walks and plain mathematics, put together in their order: RzW, RzX, RzY, LawSixA, LawNineA, LawFnv, TenA, ElA, TenC, ElD, FnA, TwA, LawEightA, ElE. -/
import Derived.Test.YtpanebgakndddaaGreatPart9
import Derived.Test.YtpanebgakndddaaGreatWalkD
import Derived.Test.YtpanebgakndddaaGreatFnvWalk
import Derived.Test.YtpanebgakndddaaGreatPairs
import Derived.Test.YtpanebgakndddaaGreatGetC
import Derived.Test.YtpanebgakndddaaGreatRowKit
import Derived.Laws.Cover1
import Derived.Test.YtpanebgakndddaaGreatGetD
import Derived.Laws.CopyOwn
import Derived.Deep.DeepCutAuto
import Derived.Deep.CutBlock
set_option linter.unusedVariables false
set_option linter.unusedSimpArgs false
namespace Go.Proofs.YtpanebgakndddaaGreat.Zr
open Go Go.RowKit Hp K Fl Rw Hm Ar Mm Wk Pc Me Mq Pu Pn Gt Qs Zp Mx cJ Bs
set_option maxRecDepth 100000
section
variable {w w':World} {M:Mo} {a:Ra} {R:Rz} {f h b:Nat} {k z e:Int} {u2 u3 tv:Value}
theorem iu:∀ x,Lo.aQ M.lg M.lb x->aq M x:=fun _ h=>.inr (.inr (.inl h))
theorem oa (hM:ah w M) (hb:Rb w f k z u2 u3 e h tv) (hO:ab (·=f) w w'):ah w' M:=hM.only hO (fun x hx q=>by subst q; exact pX hb hM hx)
set_option maxHeartbeats 2000000 in
theorem TN (hM:ah w M) (hb:Rb w f k z u2 u3 e h tv) (hk:0<=k/\k<=1000) (hh:h<4) (hl:M.hs.length=6) (hf:Lo.aF M.hs (iy h)<0):
 Calls Tryz.prog 78 #[ptr f,ptr M.m] w fun x w'=>x=.returned (.bool false)/\ah w' {M with hs:=M.hs.set (iy h) k}/\Rb w' f k z u2 u3 e (h+1) tv/\ab (fun x=>aq M x\/x=f) w w':=by
 have d1:=hM.hd.2.1
 have c0:=(dU hb).1
 have c5:=(dU hb).2.2.2.2.2.1
 have nM:=Lib.hid (fun w=>xg h w)
 have hT:=Lib.hid (fun nq=>Lo.vS (hM.drewN nq).2.2.1 (iy h) (by rw [hl]; exact Jl (by omega)) k hk.1 (by omega) hf)
 have HM:=Lib.hid hM
 have HB:=Lib.hid hb
 have lM:=hM.1.lt
 have lf:=hb.lt
 have Yk:¬((h:Int)+1=5):=by omega
 clear hM hb hl hf
 generalize iy h=j at*
 go_enter Tryz.func78,Tryz.ntmps78
 go_wp2_with fail
 go_region_held3 (fun w'=>w'.cell? ⟨M.m,1,none⟩=some (ptr M.lg)/\w'.cell? ⟨f,0,none⟩=some (.int .i64 k)/\w'.cell? ⟨f,5,none⟩=some (.int .i64 h)) (go_keep)
  (first
    | (go_at_call 102
       refine (nM.out _).mono ?_
       rintro e w3 ⟨rfl,rfl⟩)
    | (go_at_call 103
       refine (hT.out 1).mono ?_
       rintro e w2 ⟨rfl,gd,ae⟩
       have cg:=((ab.refl (Lo.aQ M.lg M.lb) w).drewN 1).trans ae
       have aI:=HM.out.mI gd cg
       have ag:=HB.out.only cg (fun hx=>pX HB.out HM.out (iu _ hx))
       have s1:=aI.hd.2.1
       have s2:=(dU ag).1
       have s3:=(dU ag).2.2.2.2.2.1
       have z5:=ag.frozen 5
       simp at s1
       replace cg:=Lib.hid cg
       replace aI:=Lib.hid aI
       replace ag:=Lib.hid ag
       clear gd ae))
 all_goals
  go_wp2_with fail
  have hS:Rb (w2.setCell ⟨f,5,none⟩ (.int .i64 ((h:Int)+1))) f k z u2 u3 e (h+1) tv:=ag.out.store 5 _
  have fc:=(ab.refl (·=f) w2).setCell (p:=⟨f,5,none⟩) (.inl rfl) (.int .i64 ((h:Int)+1))
  have df:=oa aI.out ag.out fc
  have fN:=(cg.out.mono (fun x _ q=>(.inl (iu _ q):aq M x\/x=f))).trans (fc.mono (fun x _ q=>.inr q))
  go_ret
  exact ⟨rfl,df,hS,fN⟩
set_option maxHeartbeats 2000000 in
theorem TO (hM:ah w M) (ga:Gw.Gl) (sa:Sw.Sc) (R:Rz) (hb:Rb w f R.worker R.size u2 u3 R.err 4 tv) (hk:0<=R.worker/\R.worker<=1000) (hl:M.hs.length=6) (hx:1<M.xs.length) (hf:Lo.aF M.hs 4<0):
 Calls Tryz.prog 78 #[ptr f,ptr M.m] w fun x w'=>x=.returned (.bool false)/\ah w' {M with hs:=M.hs.set 4 R.worker}/\ab (fun x=>aq M x\/x=f) w w'/\∃ a':Ra,a'.f=f/\ft w' a' (look (lm M) R)/\∀ x,fu a' (look (lm M) R) x->x=f\/w.heap.size<=x:=by
 have d1:=hM.hd.2.1
 have c0:=(dU hb).1
 have c5:=(dU hb).2.2.2.2.2.1
 have nM:=Lib.hid (fun w=>xg 4 w)
 have hT:=Lib.hid (fun nq=>Lo.vS (hM.drewN nq).2.2.1 4 (by rw [hl]; omega) R.worker hk.1 (by omega) hf)
 have b9:iy 4=4:=rfl
 rw [b9] at nM
 have HM:=Lib.hid hM
 have HB:=Lib.hid hb
 have lM:=hM.1.lt
 have lf:=hb.lt
 clear hM hb hl hf b9
 go_enter Tryz.func78,Tryz.ntmps78
 go_wp2_with fail
 go_region_held3 (fun w'=>w'.cell? ⟨M.m,1,none⟩=some (ptr M.lg)/\w'.cell? ⟨f,0,none⟩=some (.int .i64 R.worker)/\w'.cell? ⟨f,5,none⟩=some (.int .i64 4)) (go_keep)
  (first
    | (go_at_call 102
       refine (nM.out _).mono ?_
       rintro e w3 ⟨rfl,rfl⟩)
    | (go_at_call 103
       refine (hT.out 1).mono ?_
       rintro e w2 ⟨rfl,gd,ae⟩
       have cg:=((ab.refl (Lo.aQ M.lg M.lb) w).drewN 1).trans ae
       have aI:=HM.out.mI gd cg
       have ag:=HB.out.only cg (fun hx=>pX HB.out HM.out (iu _ hx))
       have s1:=aI.hd.2.1
       have s2:=(dU ag).1
       have s3:=(dU ag).2.2.2.2.2.1
       have z5:=ag.frozen 5
       simp at s1
       replace cg:=Lib.hid cg
       replace aI:=Lib.hid aI
       replace ag:=Lib.hid ag
       clear gd ae))
 all_goals
  go_wp2_with fail
  have hS:Rb (w2.setCell ⟨f,5,none⟩ (.int .i64 5)) f R.worker R.size u2 u3 R.err 5 tv:=ag.out.store 5 _
  have fc:=(ab.refl (·=f) w2).setCell (p:=⟨f,5,none⟩) (.inl rfl) (.int .i64 5)
  have df:=oa aI.out ag.out fc
  have fN:=(cg.out.mono (fun x _ q=>(.inl (iu _ q):aq M x\/x=f))).trans (fc.mono (fun x _ q=>.inr q))
  have hC:=Lib.hid (Jn df hx ga sa R hS)
  replace df:=Lib.hid df
  replace fN:=Lib.hid fN
  replace hS:=Lib.hid hS
  clear fc s1 s2 s3 z5
  refine hC.out.mono ?_
  rintro e1 w3 ⟨rfl,a',ha,hR,iC,an⟩
  have bB:=Lib.hid (oa df.out hS.out an)
  have aN:=Lib.hid (fN.out.trans (an.mono (fun x _ q=>.inr q)))
  have x5:=Lib.hid (fun x hx=>(iC x hx).imp id (fun q=>Nat.le_trans fN.out.size q))
  replace hR:=Lib.hid hR
  clear hC an iC hS
  go_wp2_with fail
  go_ret
  exact ⟨rfl,bB.out,aN.out,a',ha,hR.out,x5.out⟩
set_option maxHeartbeats 2000000 in
theorem TP (hM:ah w M) (hb:Rb w f k z u2 u3 e (h+1) tv) (hk:0<=k) (h1:1<=h) (hh:h<=4) (hl:M.hs.length=6) (hf:Lo.aF M.hs h=k):
 Calls Tryz.prog 137 #[ptr f,ptr M.m] w fun x w'=>x=.returned (.bool false)/\ah w' {M with hs:=M.hs.set h (-1)}/\Rb w' f k z u2 u3 e h tv/\ab (fun x=>aq M x\/x=f) w w':=by
 have c5:=(dU hb).2.2.2.2.2.1
 have z5:=hb.frozen 5
 have hS:Rb (w.setCell ⟨f,5,none⟩ (.int .i64 h)) f k z u2 u3 e h tv:=hb.store 5 _
 have fc:=(ab.refl (·=f) w).setCell (p:=⟨f,5,none⟩) (.inl rfl) (.int .i64 h)
 have df:=oa hM hb fc
 have nM:=Lib.hid (fun w=>xg h w)
 have hT:=Lib.hid (fun nq=>Lo.wW (df.drewN nq).2.2.1 h (by rw [hl]; omega) k hk hf)
 have b9:iy h=h:=if_neg (by omega)
 rw [b9] at nM
 have e5:((h+1:Nat):Int)-1=h:=by omega
 have aL:M.m≠f:=fun e=>pX hb hM (.inl e.symm)
 have d1:=hM.hd.2.1
 replace df:=Lib.hid df
 replace hS:=Lib.hid hS
 replace fc:=Lib.hid fc
 clear hM hb hl hf b9
 go_enter Tryz.func137,Tryz.ntmps137
 go_upto_region 2 with (fail)
 have px:(0:Int)<(h:Int):=by omega
 clear c5 z5 aL d1
 generalize w.setCell ⟨f,5,none⟩ (.int .i64 h)=w1 at*
 have c0:=(dU hS.out).1
 have c5:=(dU hS.out).2.2.2.2.2.1
 have d1:=df.out.hd.2.1
 have lM:=df.out.1.lt
 have lf:=hS.out.lt
 go_wp2_with fail
 go_region_held3 (fun w'=>w'.cell? ⟨M.m,1,none⟩=some (ptr M.lg)/\w'.cell? ⟨f,0,none⟩=some (.int .i64 k)/\w'.cell? ⟨f,5,none⟩=some (.int .i64 h)) (go_keep)
  (first
    | (go_at_call 102
       refine (nM.out _).mono ?_
       rintro e w3 ⟨rfl,rfl⟩)
    | (go_at_call 166
       refine (hT.out 1).mono ?_
       rintro e w2 ⟨rfl,gd,ae⟩
       have cg:=((ab.refl (Lo.aQ M.lg M.lb) w1).drewN 1).trans ae
       have aI:=df.out.mI gd cg
       have ag:=hS.out.only cg (fun hx=>pX hS.out df.out (iu _ hx))
       have s1:=aI.hd.2.1
       have s2:=(dU ag).1
       have s3:=(dU ag).2.2.2.2.2.1
       simp at s1
       have aN:=Lib.hid ((fc.out.mono (fun x _ q=>(.inr q:aq M x\/x=f))).trans (cg.mono (fun x _ q=>.inl (iu _ q))))
       replace cg:=Lib.hid cg
       replace aI:=Lib.hid aI
       replace ag:=Lib.hid ag
       clear gd ae))
 all_goals
  go_wp2_with fail
  go_ret
  exact ⟨rfl,aI.out,ag.out,aN.out⟩
set_option maxHeartbeats 2000000 in
theorem TQ (hM:ah w M) (hb:Rb w f k z u2 u3 e 1 tv) (hk:0<=k) (hl:M.hs.length=6) (hf:Lo.aF M.hs 5=k):
 Calls Tryz.prog 137 #[ptr f,ptr M.m] w fun x w'=>x=.returned (.bool true)/\ah w' {M with hs:=M.hs.set 5 (-1)}/\Rb w' f k z (dY 79) (dY 138) e 0 tv/\ab (fun x=>aq M x\/x=f) w w':=by
 have c5:=(dU hb).2.2.2.2.2.1
 have z5:=hb.frozen 5
 have hS:Rb (w.setCell ⟨f,5,none⟩ (.int .i64 0)) f k z u2 u3 e 0 tv:=hb.store 5 _
 have fc:=(ab.refl (·=f) w).setCell (p:=⟨f,5,none⟩) (.inl rfl) (.int .i64 0)
 have df:=oa hM hb fc
 have nM:=Lib.hid (fun w=>xg 0 w)
 have hT:=Lib.hid (fun nq=>Lo.wW (df.drewN nq).2.2.1 5 (by rw [hl]; omega) k hk hf)
 have b9:iy 0=5:=rfl
 rw [b9] at nM
 have aL:M.m≠f:=fun e=>pX hb hM (.inl e.symm)
 have d1:=hM.hd.2.1
 replace df:=Lib.hid df
 replace hS:=Lib.hid hS
 replace fc:=Lib.hid fc
 clear hM hb hl hf b9
 go_enter Tryz.func137,Tryz.ntmps137
 go_upto_region 2 with (fail)
 clear c5 z5 aL d1
 generalize w.setCell ⟨f,5,none⟩ (.int .i64 0)=w1 at*
 have c0:=(dU hS.out).1
 have c5:=(dU hS.out).2.2.2.2.2.1
 have d1:=df.out.hd.2.1
 have lM:=df.out.1.lt
 have lf:=hS.out.lt
 go_wp2_with fail
 go_region_held3 (fun w'=>w'.cell? ⟨M.m,1,none⟩=some (ptr M.lg)/\w'.cell? ⟨f,0,none⟩=some (.int .i64 k)/\w'.cell? ⟨f,5,none⟩=some (.int .i64 0)) (go_keep)
  (first
    | (go_at_call 102
       refine (nM.out _).mono ?_
       rintro e w3 ⟨rfl,rfl⟩)
    | (go_at_call 166
       refine (hT.out 1).mono ?_
       rintro e w2 ⟨rfl,gd,ae⟩
       have cg:=((ab.refl (Lo.aQ M.lg M.lb) w1).drewN 1).trans ae
       have aI:=df.out.mI gd cg
       have ag:=hS.out.only cg (fun hx=>pX hS.out df.out (iu _ hx))
       have s1:=aI.hd.2.1
       have s2:=(dU ag).1
       have s3:=(dU ag).2.2.2.2.2.1
       simp at s1
       have aN:=Lib.hid ((fc.out.mono (fun x _ q=>(.inr q:aq M x\/x=f))).trans (cg.mono (fun x _ q=>.inl (iu _ q))))
       replace cg:=Lib.hid cg
       replace aI:=Lib.hid aI
       replace ag:=Lib.hid ag
       clear gd ae))
 all_goals
  have hE:=Lib.hid (nY ag.out)
  go_wp2_with fail
  refine hE.out.mono ?_
  rintro e1 w3 ⟨rfl,ay,an⟩
  have bB:=Lib.hid (oa aI.out ag.out an)
  have bN:=Lib.hid (aN.out.trans (an.mono (fun x _ q=>.inr q)))
  replace ay:=Lib.hid ay
  clear hE an ag
  go_wp2_with fail
  go_ret
  exact ⟨rfl,bB.out,ay.out,bN.out⟩
end
end Go.Proofs.YtpanebgakndddaaGreat.Zr
namespace Go.Proofs.YtpanebgakndddaaGreat.Zr
open Go Go.RowKit Hp K Fl Rw Hm Ar Mm Wk Pc Me Mq Pu Pn Gt Qs Zp Mx cJ Bs
set_option maxRecDepth 100000
section
variable {w w':World} {M:Mo} {a:Ra} {R:Rz} {f h b:Nat} {k z e:Int} {u2 u3 tv:Value}
theorem Jo {T:TypeId} {fs:Nat} {m:Value} {P:World->Prop} (hb:Rb w f k z u2 u3 e h (.iface T (ptr b))) (ms:∀ (w:World) (f:Nat),(method (f+1) T (.pointer (some ⟨b,0,none⟩)) "Step").run Tryz.prog w=.ok (fs,.pointer (some ⟨b,0,none⟩)) w)
 (es:∀ args w,(callFunc fs args).run Tryz.prog w=.ok (.enter fs args) w) (hF:Calls Tryz.prog fs #[ptr b,m] w fun e w'=>e=.returned (.bool false)/\P w'):Calls Tryz.prog 169 #[ptr f,m] w fun e w'=>e=.returned (.bool false)/\P w':=by
 have c6:=(dU hb).2.2.2.2.2.2
 replace hF:=Lib.hid hF
 clear hb
 go_enter Tryz.func169,Tryz.ntmps169
 go_wp2_with fail
 refine hF.out.mono ?_
 rintro e w' ⟨rfl,hP⟩
 replace hP:=Lib.hid hP
 clear c6
 go_wp2_with fail
 go_ret
 exact ⟨rfl,hP.out⟩
def Tn (w:World) (M:Mo) (f b:Nat) (k z e:Int) (u2 u3 tv:Value) (fe:Nat) (er:Int) (L':Lm) (S:Nat->Prop) (w':World):Prop:=
 ∃ M',ah w' M'/\M'.m=M.m/\lm M'=L'/\gq w M M'/\Rb w' f k z u2 u3 e 5 tv/\Calls Tryz.prog fe #[ptr b] w' (fun x w''=>x=.returned (.int .i64 er)/\w''=w')/\ab S w w'
set_option maxHeartbeats 1000000 in
theorem Jq {T:TypeId} {fs fe:Nat} {er:Int} {L':Lm} {S:Nat->Prop} (ga:Gw.Gl) (sa:Sw.Sc) (R:Rz) (hb:Rb w f R.worker R.size u2 u3 R.err 5 (.iface T (ptr b))) (ms:∀ (w:World) (f:Nat),(method (f+1) T (.pointer (some ⟨b,0,none⟩)) "Step").run Tryz.prog w=.ok (fs,.pointer (some ⟨b,0,none⟩)) w)
 (es:∀ args w,(callFunc fs args).run Tryz.prog w=.ok (.enter fs args) w) (me:∀ (w:World) (f:Nat),(method (f+1) T (.pointer (some ⟨b,0,none⟩)) "Err").run Tryz.prog w=.ok (fe,.pointer (some ⟨b,0,none⟩)) w) (ee:∀ args w,(callFunc fe args).run Tryz.prog w=.ok (.enter fe args) w)
 (hx:1<L'.xs.length) (hF:Calls Tryz.prog fs #[ptr b,ptr M.m] w fun e w'=>e=.returned (.bool true)/\Tn w M f b R.worker R.size R.err u2 u3 (.iface T (ptr b)) fe er L' S w'):
 Calls Tryz.prog 169 #[ptr f,ptr M.m] w fun e w'=>e=.returned (.bool false)/\∃ M',ah w' M'/\lm M'=L'/\gq w M M'/\ab (fun x=>S x\/x=f) w w'/\∃ a':Ra,a'.f=f/\ft w' a' (after L' R er)/\∀ x,fu a' (after L' R er) x->x=f\/w.heap.size<=x:=by
 have c6:=(dU hb).2.2.2.2.2.2
 replace hF:=Lib.hid hF
 clear hb
 unfold after
 by_cases h0:er=0
 ·rw [if_pos h0]
  subst h0
  go_enter Tryz.func169,Tryz.ntmps169
  go_wp2_with fail
  refine hF.out.mono ?_
  rintro e w1 ⟨rfl,M',hM,hm,hL,hK,hb,hE,hO⟩
  have c6:=(dU hb).2.2.2.2.2.2
  have c4:=(dU hb).2.2.2.2.1
  have z4:=hb.frozen 4
  replace hE:=Lib.hid hE
  clear hF
  go_wp2_with fail
  refine hE.out.mono ?_
  rintro e w2 ⟨rfl,aT⟩
  obtain rfl:w1=w2:=aT.symm
  have hS:Rb (w1.setCell ⟨f,4,none⟩ (.int .i64 0)) f R.worker R.size u2 u3 0 5 (.iface T (ptr b)):=hb.store 4 _
  have fc:=(ab.refl (·=f) w1).setCell (p:=⟨f,4,none⟩) (.inl rfl) (.int .i64 0)
  have df:=oa hM hb fc
  have hC:=Lib.hid (Jn df (by have:(lm M').xs=L'.xs:=by rw [hL]
                              have e:M'.xs=L'.xs:=this
                              rw [e]; exact hx) ga sa {R with err:=0} hS)
  rw [hm,hL] at hC
  have ae:=Lib.hid ((hO.mono (fun x _ q=>(.inl q:S x\/x=f))).trans (fc.mono (fun x _ q=>.inr q)))
  replace df:=Lib.hid df
  replace hS:=Lib.hid hS
  replace hK:=Lib.hid hK
  replace hL:=Lib.hid hL
  clear hE hM hm hb hO fc
  go_wp2_with fail
  refine hC.out.mono ?_
  rintro e1 w3 ⟨rfl,a',ha,hR,iC,an⟩
  have bB:=Lib.hid (oa df.out hS.out an)
  have aN:=Lib.hid (ae.out.trans (an.mono (fun x _ q=>.inr q)))
  have x5:=Lib.hid (fun x hx=>(iC x hx).imp id (fun q=>Nat.le_trans ae.out.size q))
  replace hR:=Lib.hid hR
  clear hC an iC hS df ae c4 c6 z4
  go_wp2_with fail
  go_ret
  exact ⟨rfl,M',bB.out,hL.out,hK.out,aN.out,a',ha,hR.out,x5.out⟩
 ·rw [if_neg h0]
  go_enter Tryz.func169,Tryz.ntmps169
  go_wp2_with fail
  refine hF.out.mono ?_
  rintro e w1 ⟨rfl,M',hM,hm,hL,hK,hb,hE,hO⟩
  have c6:=(dU hb).2.2.2.2.2.2
  have c4:=(dU hb).2.2.2.2.1
  have z4:=hb.frozen 4
  replace hE:=Lib.hid hE
  clear hF
  go_wp2_with fail
  refine hE.out.mono ?_
  rintro e w2 ⟨rfl,aT⟩
  obtain rfl:w1=w2:=aT.symm
  have hS:Rb (w1.setCell ⟨f,4,none⟩ (.int .i64 er)) f R.worker R.size u2 u3 er 5 (.iface T (ptr b)):=hb.store 4 _
  have fc:=(ab.refl (·=f) w1).setCell (p:=⟨f,4,none⟩) (.inl rfl) (.int .i64 er)
  have df:=oa hM hb fc
  have hC:=Lib.hid (et (F1:=.func 79) (F2:=.func 137) (b1:=#[]) (b2:=#[ptr f]) hS)
  have ae:=Lib.hid ((hO.mono (fun x _ q=>(.inl q:S x\/x=f))).trans (fc.mono (fun x _ q=>.inr q)))
  replace df:=Lib.hid df
  replace hS:=Lib.hid hS
  replace hK:=Lib.hid hK
  replace hL:=Lib.hid hL
  clear hE hM hm hb hO fc
  go_wp2_with fail
  refine hC.out.mono ?_
  rintro e1 w3 ⟨rfl,ay,an⟩
  have hR:Hid (ft w3 ⟨f,.iface T (ptr b),ga,sa⟩ {R with err:=er,nx:=7}):=Lib.hid (ft.plain ay (by simp))
  have bB:=Lib.hid (oa df.out hS.out an)
  have aN:=Lib.hid (ae.out.trans (an.mono (fun x _ q=>.inr q)))
  clear hC an hS df ae c4 c6 z4 ay
  go_wp2_with fail
  go_ret
  exact ⟨rfl,M',bB.out,hL.out,hK.out,aN.out,_,rfl,hR.out,fun x hx=>.inl (uH (by simp) hx)⟩
end
end Go.Proofs.YtpanebgakndddaaGreat.Zr
namespace Go.Proofs.YtpanebgakndddaaGreat.Zr
open Go Go.RowKit Hp K Fl Rw Hm Ar Mm Wk Pc Me Mq Pu Pn Gt Qs Zp Mx cJ Bs
set_option maxRecDepth 100000
theorem Jr (n:Nat) (xs hs:List Int) (W:Wt):xs.length<=(aW n xs hs W).1.length:=by
 unfold aW
 split
 ·exact Nat.le_refl _
 split
 ·simp
 split
 ·exact Nat.le_refl _
 ·exact Nat.le_refl _
theorem TS (L:Lm) (G:Gw.Gr):L.xs.length<=(Gw.aE L G).1.xs.length:=by
 unfold Gw.aE
 split
 ·exact Nat.le_refl _
 split
 ·split
  ·simp
  ·exact Nat.le_refl _
 split
 ·exact Nat.le_refl _
 split
 ·exact Nat.le_refl _
 split
 ·simp
 split
 ·simp
 split
 ·exact Jr _ _ _ _
 ·split
  ·exact Nat.le_refl _
  ·exact Nat.le_refl _
theorem TT (L:Lm) (G:Sw.Sh):L.xs.length<=(Sw.aH L G).1.xs.length:=by
 unfold Sw.aH
 split
 ·exact Nat.le_refl _
 split
 ·split
  ·simp
  ·exact Nat.le_refl _
 split
 ·exact Nat.le_refl _
 split
 ·exact Nat.le_refl _
 split
 ·exact Nat.le_refl _
 split
 ·exact Nat.le_refl _
 split
 ·simp
 split
 ·simp
 ·exact Jr _ _ _ _
theorem TU {w:World} {a:Gw.Gl} {G:Gw.Gr} (h:Gw.bY w a G):Calls Tryz.prog 86 #[ptr a.f] w fun e w'=>e=.returned (.int .i64 G.err)/\w'=w:=by
 have c3:=(Gw.sA h.ao).2.2.2.1
 clear h
 go_enter Tryz.func86,Tryz.ntmps86
 go_wp2_with fail
 go_ret
 exact ⟨rfl,rfl⟩
theorem TV (b:Nat) (w:World) (f:Nat):(method (f+1) 167 (.pointer (some ⟨b,0,none⟩)) "Err").run Tryz.prog w=.ok (86,.pointer (some ⟨b,0,none⟩)) w:=by kernel_rfl
theorem TW (b:Nat) (w:World) (f:Nat):(method (f+1) 169 (.pointer (some ⟨b,0,none⟩)) "Err").run Tryz.prog w=.ok (89,.pointer (some ⟨b,0,none⟩)) w:=by kernel_rfl
theorem TX (args:Array Value) (w:World):(callFunc 86 args).run Tryz.prog w=.ok (.enter 86 args) w:=by kernel_rfl
theorem TY (args:Array Value) (w:World):(callFunc 89 args).run Tryz.prog w=.ok (.enter 89 args) w:=by kernel_rfl
theorem TZ (args:Array Value) (w:World):(callFunc 77 args).run Tryz.prog w=.ok (.enter 77 args) w:=by kernel_rfl
theorem T0 (args:Array Value) (w:World):(callFunc 80 args).run Tryz.prog w=.ok (.enter 80 args) w:=by kernel_rfl
theorem Jt (args:Array Value) (w:World):(callFunc 78 args).run Tryz.prog w=.ok (.enter 78 args) w:=by kernel_rfl
theorem Ju (args:Array Value) (w:World):(callFunc 169 args).run Tryz.prog w=.ok (.enter 169 args) w:=by kernel_rfl
theorem Jv (args:Array Value) (w:World):(callFunc 137 args).run Tryz.prog w=.ok (.enter 137 args) w:=by kernel_rfl
section
variable {w w':World} {M:Mo} {a:Ra} {R:Rz}
theorem Jw {nx:Nat} (h:1<=nx/\nx<=5):iy (iw nx)=j8 nx:=by
 have e:iw nx=nx-1:=by unfold iw; rw [if_neg (by omega),if_pos h.2]
 rw [e]
 unfold iy j8
 by_cases q:nx=1
 ·rw [if_pos q,if_pos (by omega)]
 ·rw [if_neg q,if_neg (by omega)]
theorem T1 (hM:ah w M) (h:ft w a R) (ok:oO (lm M) R):Calls Tryz.prog 270 #[ptr a.f,ptr M.m] w fun e w'=>e=.returned (.bool (gD (lm M) R))/\Below w.heap.size w w':=by
 have c2:=(dU h.ao).2.2.1
 unfold kI at c2
 unfold gD
 by_cases q1:1<=R.nx/\R.nx<=5
 ·rw [if_pos q1] at c2 ⊢
  have iB:=ok.wk (by omega)
  have h4:iw R.nx<=4:=by unfold iw; rw [if_neg (by omega),if_pos q1.2]; omega
  have hm:=xf hM h.ao iB.1 h4 ok.hl
  rw [Jw q1] at hm
  rw [show decide (0<=R.worker/\Lo.aF (lm M).hs (j8 R.nx)= -1)=decide (Lo.aF M.hs (j8 R.nx)= -1) by
   by_cases e:Lo.aF M.hs (j8 R.nx)= -1
   ·rw [decide_eq_true e,decide_eq_true ⟨iB.1,e⟩]
   ·rw [decide_eq_false e,decide_eq_false (fun q=>e q.2)]]
  exact Dy c2 TZ hm
 rw [if_neg q1] at c2 ⊢
 by_cases q6:R.nx=6
 ·rw [if_pos q6] at c2 ⊢
  rcases ok.inn q6 with ⟨G,e,hG⟩ | ⟨G,e,hG⟩
  ·obtain ⟨t1,t2⟩:=h.cm G q6 e
   rw [t1] at c2
   rw [e]
   exact Jk c2 (Gw.pS.mr _) Gw.pS.er (Gw.pS.ready hM t2 hG)
  ·obtain ⟨t1,t2⟩:=h.shr G q6 e
   rw [t1] at c2
   rw [e]
   exact Jk c2 (Sw.pL.mr _) Sw.pL.er (Sw.pL.ready hM t2 hG)
 ·rw [if_neg q6] at c2 ⊢
  exact Dx c2
theorem DA {i:Nat} {v:Int} {R':Rz} (hn:R'.nx≠6) (hw:R'.worker=R.worker/\R'.size=R.size/\R'.err=R.err) (kh:ah w' {M with hs:=M.hs.set i v}) (hB:Rb w' a.f R.worker R.size (kI a.f R'.nx a.tv) (kJ a.f R'.nx) R.err (iw R'.nx) a.tv) (hO:ab (fun x=>aq M x\/x=a.f) w w'):
 dp.bh w M a R {lm M with hs:=M.hs.set i v} R' w':=by
 have pB:ft w' a R':=ft.plain (by unfold Dw; rw [hw.1,hw.2.1,hw.2.2]; exact hB) hn
 exact ⟨_,a,kh,rfl,⟨rfl,rfl,rfl,rfl,fun x q=>.inl q⟩,pB,rfl,fun x hx=>.inl (.inl (uH hn hx)),hO.mono (fun x _ q=>q.imp id .inl)⟩
theorem T3 (h:ft w a R) {G:Gw.Gr} (hG:Gw.bY w a.ga G):¬Gw.bC a.ga G a.f:=fun hx=>by
 rcases hG.ty hx with q | ⟨ms,q⟩
 ·exact q.apart (bm h.ao) (by decide)
 ·exact q.no (bm h.ao)
theorem T4 (h:ft w a R) {G:Sw.Sh} (hG:Sw.cO w a.sa G):¬Sw.dq a.sa G a.f:=fun hx=>by
 rcases hG.ty hx with q | ⟨ms,q⟩
 ·exact q.apart (bm h.ao) (by decide)
 ·exact q.no (bm h.ao)
theorem T5 (hM:ah w M) (h:ft w a R) (h6:R.nx=6) {G:Gw.Gr} (e:R.inn=.cm G) (ok:Gw.pR (lm M) G) (hx:1<M.xs.length) (hr:Gw.lh (lm M) G=true):
 Calls Tryz.prog 169 #[ptr a.f,ptr M.m] w fun x w'=>x=.returned (.bool false)/\dp.bh w M a R (Gw.aE (lm M) G).1 (if Gw.cp (lm M) G=true then after (Gw.aE (lm M) G).1 {R with inn:=.cm (Gw.aE (lm M) G).2} (Gw.aE (lm M) G).2.err else {R with inn:=.cm (Gw.aE (lm M) G).2}) w':=by
 obtain ⟨t1,t2⟩:=h.cm G h6 e
 have bR:=Gw.pS.step hM t2 ok hr
 have iA:=T3 h t2
 have dW:¬aq M a.f:=pX h.ao hM
 have oF:Rb w a.f R.worker R.size (kI a.f R.nx a.tv) (kJ a.f R.nx) R.err (iw R.nx) a.tv:=h.ao
 have hh:iw R.nx=5:=by rw [h6]; rfl
 cases hd:Gw.cp (lm M) G with
 | false=>
   rw [if_neg (by simp)]
   rw [t1] at oF
   rw [hd] at bR
   refine (Jo oF (Gw.pS.ms _) Gw.pS.es bR).mono ?_
   rintro x w' ⟨rfl,M',ga',r1,r2,r3,r4,r5,r6,r7⟩
   refine ⟨rfl,M',{a with ga:=ga'},r1,r2,r3,⟨?_,fun G' _ q=>?_,fun G' _ q=>by simp at q⟩,rfl,fun x hx=>?_,r7.mono (fun x _ q=>q.imp id (fun q=>.inr (.inl ⟨G,h6,e,q⟩)))⟩
   ·exact h.ao.only r7 (fun q=>q.elim dW iA)
   ·injection q with q
    subst q
    exact ⟨by rw [show ga'.f=a.ga.f from r5]; exact t1,r4⟩
   ·rcases hx with q | ⟨G',_,q2,q3⟩ | ⟨G',_,q2,_⟩
    ·exact .inl (.inl q)
    ·injection q2 with q2
     subst q2
     exact (r6 x q3).imp (fun q=>.inr (.inl ⟨G,h6,e,q⟩)) id
    ·simp at q2
 | true=>
   rw [if_pos rfl]
   rw [hh,t1] at oF
   rw [hd] at bR
   have bz:1<(Gw.aE (lm M) G).1.xs.length:=by
    have:=TS (lm M) G
    have e:1<(lm M).xs.length:=hx
    omega
   refine (Jq (fe:=86) (er:=(Gw.aE (lm M) G).2.err) (L':=(Gw.aE (lm M) G).1) (S:=fun x=>aq M x\/Gw.bC a.ga G x) a.ga a.sa {R with inn:=.cm (Gw.aE (lm M) G).2} oF (Gw.pS.ms _) Gw.pS.es (TV _) TX bz (bR.mono ?_)).mono ?_
   ·rintro x w' ⟨rfl,M',ga',r1,r2,r3,r4,r5,r6,r7⟩
    have hE:=TU r4
    rw [show ga'.f=a.ga.f from r5] at hE
    exact ⟨rfl,M',r1,r3.m,r2,r3,oF.only r7 (fun q=>q.elim dW iA),hE,r7⟩
   ·rintro x w' ⟨rfl,M',r1,r2,r3,r4,a',r5,r6,r7⟩
    refine ⟨rfl,M',a',r1,r2,r3,r6,r5,fun x hx=>(r7 x hx).imp .inl id,r4.mono (fun x _ q=>?_)⟩
    rcases q with (q | q) | q
    ·exact .inl q
    ·exact .inr (.inr (.inl ⟨G,h6,e,q⟩))
    ·exact .inr (.inl q)
theorem T7 (hM:ah w M) (h:ft w a R) (h6:R.nx=6) {G:Sw.Sh} (e:R.inn=.shr G) (ok:Sw.pK (lm M) G) (hx:1<M.xs.length) (hr:Sw.eK (lm M) G=true):
 Calls Tryz.prog 169 #[ptr a.f,ptr M.m] w fun x w'=>x=.returned (.bool false)/\dp.bh w M a R (Sw.aH (lm M) G).1 (if Sw.b7 (lm M) G=true then after (Sw.aH (lm M) G).1 {R with inn:=.shr (Sw.aH (lm M) G).2} (Sw.aH (lm M) G).2.err else {R with inn:=.shr (Sw.aH (lm M) G).2}) w':=by
 obtain ⟨t1,t2⟩:=h.shr G h6 e
 have bR:=Sw.pL.step hM t2 ok hr
 have iA:=T4 h t2
 have dW:¬aq M a.f:=pX h.ao hM
 have oF:Rb w a.f R.worker R.size (kI a.f R.nx a.tv) (kJ a.f R.nx) R.err (iw R.nx) a.tv:=h.ao
 have hh:iw R.nx=5:=by rw [h6]; rfl
 cases hd:Sw.b7 (lm M) G with
 | false=>
   rw [if_neg (by simp)]
   rw [t1] at oF
   rw [hd] at bR
   refine (Jo oF (Sw.pL.ms _) Sw.pL.es bR).mono ?_
   rintro x w' ⟨rfl,M',sa',r1,r2,r3,r4,r5,r6,r7⟩
   refine ⟨rfl,M',{a with sa:=sa'},r1,r2,r3,⟨?_,fun G' _ q=>by simp at q,fun G' _ q=>?_⟩,rfl,fun x hx=>?_,r7.mono (fun x _ q=>q.imp id (fun q=>.inr (.inr ⟨G,h6,e,q⟩)))⟩
   ·exact h.ao.only r7 (fun q=>q.elim dW iA)
   ·injection q with q
    subst q
    exact ⟨by rw [show sa'.f=a.sa.f from r5]; exact t1,r4⟩
   ·rcases hx with q | ⟨G',_,q2,_⟩ | ⟨G',_,q2,q3⟩
    ·exact .inl (.inl q)
    ·simp at q2
    ·injection q2 with q2
     subst q2
     exact (r6 x q3).imp (fun q=>.inr (.inr ⟨G,h6,e,q⟩)) id
 | true=>
   rw [if_pos rfl]
   rw [hh,t1] at oF
   rw [hd] at bR
   have bz:1<(Sw.aH (lm M) G).1.xs.length:=by
    have:=TT (lm M) G
    have e:1<(lm M).xs.length:=hx
    omega
   refine (Jq (fe:=89) (er:=(Sw.aH (lm M) G).2.err) (L':=(Sw.aH (lm M) G).1) (S:=fun x=>aq M x\/Sw.dq a.sa G x) a.ga a.sa {R with inn:=.shr (Sw.aH (lm M) G).2} oF (Sw.pL.ms _) Sw.pL.es (TW _) TY bz (bR.mono ?_)).mono ?_
   ·rintro x w' ⟨rfl,M',sa',r1,r2,r3,r4,r5,r6,r7⟩
    have hE:=Sw.qK r4
    rw [show sa'.f=a.sa.f from r5] at hE
    exact ⟨rfl,M',r1,r3.m,r2,r3,oF.only r7 (fun q=>q.elim dW iA),hE,r7⟩
   ·rintro x w' ⟨rfl,M',r1,r2,r3,r4,a',r5,r6,r7⟩
    refine ⟨rfl,M',a',r1,r2,r3,r6,r5,fun x hx=>(r7 x hx).imp .inl id,r4.mono (fun x _ q=>?_)⟩
    rcases q with (q | q) | q
    ·exact .inl q
    ·exact .inr (.inr (.inr ⟨G,h6,e,q⟩))
    ·exact .inr (.inl q)
theorem T8 (hM:ah w M) (h:ft w a R) (ok:oO (lm M) R) (hr:gD (lm M) R=true):
 Calls Tryz.prog 271 #[ptr a.f,ptr M.m] w fun e w'=>e=.returned (.bool (eJ (lm M) R))/\dp.bh w M a R (bH (lm M) R).1 (bH (lm M) R).2 w':=by
 have c3:=(dU h.ao).2.2.2.1
 unfold kJ at c3
 have fC:=ok.nx
 have hB:Rb w a.f R.worker R.size (kI a.f R.nx a.tv) (kJ a.f R.nx) R.err (iw R.nx) a.tv:=h.ao
 by_cases e0:R.nx=0
 ·rw [if_pos e0] at c3
  rw [show eJ (lm M) R=true from decide_eq_true (.inl e0)]
  have es:bH (lm M) R=(lm M,{R with err:=5,nx:=12}):=by unfold bH; rw [if_pos e0]
  rw [es]
  refine mJ c3 T0 ((TM hB (ptr M.m)).mono ?_)
  rintro x w' ⟨rfl,pB,hO⟩
  have hR:ft w' a {R with err:=5,nx:=12}:=ft.plain (by rw [e0] at pB; exact pB) (by simp)
  exact ⟨rfl,M,a,oa hM hB hO,rfl,gq.refl _ _,hR,rfl,fun x hx=>.inl (.inl (uH (by simp) hx)),hO.mono (fun x _ q=>.inr (.inl q))⟩
 rw [if_neg e0] at c3
 have iB:=ok.wk e0
 by_cases e5:R.nx<=5
 ·rw [if_pos e5] at c3
  have hh:iw R.nx=R.nx-1:=by unfold iw; rw [if_neg e0,if_pos e5]
  have hq:1<=R.nx/\R.nx<=5:=⟨by omega,e5⟩
  rw [show eJ (lm M) R=false from decide_eq_false (by omega)]
  unfold gD at hr
  rw [if_pos hq] at hr
  have mc:=(of_decide_eq_true hr).2
  rw [<-Jw hq,hh] at mc
  have mc:Lo.aF M.hs (iy (R.nx-1))<0:=by
   have:Lo.aF M.hs (iy (R.nx-1))= -1:=mc
   omega
  by_cases e4:R.nx=5
  ·have es:bH (lm M) R=({lm M with hs:=M.hs.set 4 R.worker},look (lm M) R):=by
    unfold bH; rw [if_neg e0,if_neg (by omega),if_neg (by omega),if_pos e4]
   rw [es]
   rw [hh,e4] at hB
   rw [e4] at mc
   refine mJ c3 Jt ((TO hM a.ga a.sa R hB iB ok.hl ok.x1 mc).mono ?_)
   rintro x w' ⟨rfl,kh,hO,a',ha,hR,iC⟩
   exact ⟨rfl,_,a',kh,rfl,⟨rfl,rfl,rfl,rfl,fun x q=>.inl q⟩,hR,ha,fun x hx=>(iC x hx).imp .inl id,hO.mono (fun x _ q=>q.imp id .inl)⟩
  ·have vb:R.nx-1<4:=by omega
   have es:bH (lm M) R=({lm M with hs:=M.hs.set (iy (R.nx-1)) R.worker},{R with nx:=R.nx+1}):=by
    unfold bH iy
    rw [if_neg e0]
    by_cases e1:R.nx=1
    ·rw [if_pos e1,if_pos (by omega),e1]
    ·rw [if_neg e1,if_pos (by omega),if_neg (by omega)]
   rw [es]
   rw [hh] at hB
   refine mJ c3 Jt ((TN hM hB iB vb ok.hl mc).mono ?_)
   rintro x w' ⟨rfl,kh,pB,hO⟩
   refine ⟨rfl,DA (by show R.nx+1≠6; omega) ⟨rfl,rfl,rfl⟩ kh ?_ hO⟩
   have h1:kI a.f (R.nx+1) a.tv=kI a.f R.nx a.tv:=by unfold kI; rw [if_pos (by omega),if_pos hq]
   have h2:kJ a.f (R.nx+1)=kJ a.f R.nx:=by unfold kJ; rw [if_neg (by omega),if_pos (by omega),if_neg e0,if_pos e5]
   have h3:iw (R.nx+1)=R.nx-1+1:=by unfold iw; rw [if_neg (by omega),if_pos (by omega)]; omega
   show Rb w' a.f R.worker R.size (kI a.f (R.nx+1) a.tv) (kJ a.f (R.nx+1)) R.err (iw (R.nx+1)) a.tv
   rw [h1,h2,h3]
   exact pB
 rw [if_neg e5] at c3
 by_cases e6:R.nx=6
 ·rw [if_pos e6] at c3
  rw [show eJ (lm M) R=false from decide_eq_false (by omega)]
  unfold gD at hr
  rw [if_neg (by omega),if_pos e6] at hr
  rcases ok.inn e6 with ⟨G,e,hG⟩ | ⟨G,e,hG⟩
  ·rw [e] at hr
   have es:bH (lm M) R=((Gw.aE (lm M) G).1,if Gw.cp (lm M) G=true then after (Gw.aE (lm M) G).1 {R with inn:=.cm (Gw.aE (lm M) G).2} (Gw.aE (lm M) G).2.err else {R with inn:=.cm (Gw.aE (lm M) G).2}):=by
    unfold bH; rw [if_neg e0,if_neg (by omega),if_neg (by omega),if_neg (by omega),if_pos e6,e]
   rw [es]
   exact mJ c3 Ju (T5 hM h e6 e hG ok.x1 hr)
  ·rw [e] at hr
   have es:bH (lm M) R=((Sw.aH (lm M) G).1,if Sw.b7 (lm M) G=true then after (Sw.aH (lm M) G).1 {R with inn:=.shr (Sw.aH (lm M) G).2} (Sw.aH (lm M) G).2.err else {R with inn:=.shr (Sw.aH (lm M) G).2}):=by
    unfold bH; rw [if_neg e0,if_neg (by omega),if_neg (by omega),if_neg (by omega),if_pos e6,e]
   rw [es]
   exact mJ c3 Ju (T7 hM h e6 e hG ok.x1 hr)
 rw [if_neg e6,if_pos fC] at c3
 have hh:iw R.nx=12-R.nx:=by unfold iw; rw [if_neg e0,if_neg e5,if_neg e6]
 have Xm:kI a.f R.nx a.tv=dY 79:=by unfold kI; rw [if_neg (by omega),if_neg e6]
 have Xn:kJ a.f R.nx=aU 137 (ptr a.f):=by unfold kJ; rw [if_neg e0,if_neg e5,if_neg e6,if_pos fC]
 by_cases e10:R.nx<=10
 ·rw [show eJ (lm M) R=false from decide_eq_false (by omega)]
  have es:bH (lm M) R=({lm M with hs:=M.hs.set (11-R.nx) (-1)},{R with nx:=R.nx+1}):=by
   unfold bH; rw [if_neg e0,if_neg (by omega),if_neg (by omega),if_neg (by omega),if_neg e6,if_pos e10]
  rw [es]
  have Xo:=ok.held (by omega) e10
  rw [hh,show 12-R.nx=11-R.nx+1 by omega] at hB
  refine mJ c3 Jv ((TP hM hB iB.1 (by omega) (by omega) ok.hl Xo).mono ?_)
  rintro x w' ⟨rfl,kh,pB,hO⟩
  refine ⟨rfl,DA (by show R.nx+1≠6; omega) ⟨rfl,rfl,rfl⟩ kh ?_ hO⟩
  have h1:kI a.f (R.nx+1) a.tv=kI a.f R.nx a.tv:=by rw [Xm]; unfold kI; rw [if_neg (by omega),if_neg (by omega)]
  have h2:kJ a.f (R.nx+1)=kJ a.f R.nx:=by rw [Xn]; unfold kJ; rw [if_neg (by omega),if_neg (by omega),if_neg (by omega),if_pos (by omega)]
  have h3:iw (R.nx+1)=11-R.nx:=by unfold iw; rw [if_neg (by omega),if_neg (by omega),if_neg (by omega)]; omega
  show Rb w' a.f R.worker R.size (kI a.f (R.nx+1) a.tv) (kJ a.f (R.nx+1)) R.err (iw (R.nx+1)) a.tv
  rw [h1,h2,h3]
  exact pB
 ·have e11:R.nx=11:=by omega
  rw [show eJ (lm M) R=true from decide_eq_true (.inr (by omega))]
  have es:bH (lm M) R=({lm M with hs:=M.hs.set 5 (-1)},{R with nx:=12}):=by
   unfold bH; rw [if_neg e0,if_neg (by omega),if_neg (by omega),if_neg (by omega),if_neg e6,if_neg e10]
  rw [es]
  rw [hh,e11] at hB
  refine mJ c3 Jv ((TQ hM hB iB.1 ok.hl (ok.last e11)).mono ?_)
  rintro x w' ⟨rfl,kh,pB,hO⟩
  exact ⟨rfl,DA (by show 12≠6; omega) ⟨rfl,rfl,rfl⟩ kh pB hO⟩
end
theorem oQ:oR dp 137 270 271 oO gD bH eJ where
 below h hb:=Gy h hb
 mr b w f:=by kernel_rfl
 ms b w f:=by kernel_rfl
 er args w:=by kernel_rfl
 es args w:=by kernel_rfl
 ready hM h ok:=T1 hM h ok
 step hM h ok hr:=T8 hM h ok hr
end Go.Proofs.YtpanebgakndddaaGreat.Zr
namespace Go.Proofs.YtpanebgakndddaaGreat.fp
open Go Go.RowKit Hp K Fl Rw Hm Ar Mm Me LK Qs
set_option maxRecDepth 100000
set_option maxHeartbeats 1000000 in
theorem eA (w:World):Calls Tryz.prog 115 #[] w fun e w'=>e=.returned (.bool true)/\Below w.heap.size w w':=by
 have hN:=Lib.hid (na 1 2 w (by omega) (by omega))
 go_enter Tryz.func115,Tryz.ntmps115
 go_wp2_with fail
 refine hN.out.mono ?_
 rintro e w1 ⟨M,rfl,hM,bp,hB,h1,h2,h3,h4,h5,h6,h7⟩
 clear hN
 have hE:=Lib.hid (Hr 1 w1)
 replace hM:=Lib.hid hM
 replace bp:=Lib.hid bp
 replace hB:=Lib.hid hB
 replace h1:=Lib.hid h1
 replace h4:=Lib.hid h4
 replace h5:=Lib.hid h5
 clear h2 h3 h6 h7
 go_wp2_with fail
 refine hE.out.mono ?_
 rintro e w2 ⟨rfl,gN,ag⟩
 have hS:=Lib.hid (CA 0 w2)
 replace hM:=Lib.hid (hM.out.below ag)
 replace gN:=Lib.hid gN
 replace ag:=Lib.hid ag
 clear hE
 go_wp2_with fail
 refine hS.out.mono ?_
 rintro e w3 ⟨rfl,dw,ay⟩
 replace hM:=Lib.hid (hM.out.below ay)
 have oB:gv w3 w1.heap.size ⟨1,0,0⟩:=gN.out.only (ab.aA ay (fun _=>False)) (by simp)
 have aL:w1.heap.size≠w2.heap.size:=by have:=gN.out.lt; omega
 have jO:=Lib.hid (hB.out.trans ((ag.out.trans (ay.mono ag.out.size)).mono hB.out.size))
 have AP:w.heap.size<=w1.heap.size:=hB.out.size
 have AQ:w.heap.size<=w2.heap.size:=by have:=ag.out.size; omega
 clear hS gN hB ag ay
 generalize w1.heap.size=fe at*
 generalize w2.heap.size=fs at*
 have eY:=RJ hM.out oB (by simp) (by rw [h1.out]; simp) (by simp) (by simp) 9 (by omega)
 have e1:fin (fun _=>true) sG (fun s=>decide (s.2.at_=1)) 9 (M.xs,(⟨1,0,0⟩:Cm))=(2,true,[1,0,0,1,0],⟨1,2,1⟩):=by rw [h1.out]; rfl
 rw [e1] at eY
 replace eY:=Lib.hid eY
 replace dw:=Lib.hid dw
 replace AP:=Lib.hid AP
 replace AQ:=Lib.hid AQ
 replace aL:=Lib.hid aL
 clear e1 oB
 go_wp2_with fail
 refine eY.out.mono ?_
 rintro e w4 ⟨rfl,dP,rv,aN⟩
 have fT:dr w4 fs ⟨0,0,0,0⟩:=dw.out.only aN (by
  rintro (q | q)
  ·exact (dw.out.aB hM.out) q
  ·exact aL.out q.symm)
 have aP:=IC (n:=2) dP fT h5.out ⟨by omega,by simp,by simp,by rw [h4.out]; simp,by simp,by simp,by simp⟩ 9 (by omega)
 have e2:fin ur (uu 2) sH 9 ([1,0,0,1,0],M.hs,(⟨0,0,0,0⟩:Wt))=(3,false,[2,0,0,1,0],[0, -1, -1, -1, -1, -1],⟨0,2,2,1⟩):=by rw [h4.out]; rfl
 rw [e2] at aP
 replace aP:=Lib.hid aP
 replace aN:=Lib.hid aN
 replace dP:=Lib.hid dP
 clear e2 rv fT eY
 go_wp2_with fail
 refine aP.out.mono ?_
 rintro e w5 ⟨rfl,ia,mq,bN⟩
 have low:∀ (a b:World) (f:Nat),Below w.heap.size w a->ab (fun x=>aq M x\/x=f) a b->w.heap.size<=f->Below w.heap.size w b:=fun a b f ha ho hf=>ha.trans (ho.toBelow ha.size (fun x hx q=>by
  rcases q with q | q
  ·have:=bp.out x q; omega
  ·omega))
 replace low:=Lib.hid low
 have bM:=low.out _ _ _ (low.out _ _ _ jO.out aN.out AP.out) bN AQ.out
 have hL:=Lib.hid (Hs 1 w5)
 replace ia:=Lib.hid ia
 replace mq:=Lib.hid mq
 replace bM:=Lib.hid bM
 clear bN aN dP aP hM dw jO AP aL
 go_wp2_with fail
 refine hL.out.mono ?_
 rintro e w6 ⟨rfl,nK,gI⟩
 have je:=ia.out.below gI
 have iR:dr w6 fs ⟨0,2,2,1⟩:=mq.out.only (ab.aA gI (fun _=>False)) (by simp)
 have AR:w.heap.size<=w5.heap.size:=bM.out.size
 have aL:w5.heap.size≠fs:=by have:=mq.out.lt; omega
 have K9:=Lib.hid (bM.out.trans (gI.mono AR))
 generalize w5.heap.size=fl at*
 have La:Hid (Calls Tryz.prog 152 #[ptr M.m,.int .i64 1] w6 fun e w'=>e=.returned (.bool true)/\∃ n,w'=w6.drewN n):=Lib.hid (ID je 1 (by simp) (by omega))
 replace nK:=Lib.hid nK
 replace je:=Lib.hid je
 replace iR:=Lib.hid iR
 replace AR:=Lib.hid AR
 replace aL:=Lib.hid aL
 clear gI hL bM ia mq
 go_wp2_with fail
 refine La.out.mono ?_
 rintro e w7 ⟨rfl,nq,rfl⟩
 have AT:=je.out.drewN nq
 have qz:dr (w6.drewN nq) fs ⟨0,2,2,1⟩:=iR.out.only ((ab.refl (fun _=>False) w6).drewN nq) (by simp)
 have EL:jG (w6.drewN nq) fl 1 0:=nK.out.only ((ab.refl (fun _=>False) w6).drewN nq) (by simp)
 have nF:Below w.heap.size w (w6.drewN nq):=K9.out.trans ⟨rfl,rfl,rfl,Nat.le_refl _,fun _ _=>rfl⟩
 have WT:=EL.aB AT
 have AU:=qz.aB AT
 generalize w6.drewN nq=w7 at*
 have fL:=Lib.hid (RK AT EL (by simp) (by omega) 9 (by omega) (by omega))
 replace nF:=Lib.hid nF
 replace qz:=Lib.hid qz
 replace AU:=Lib.hid AU
 clear AT EL je iR nK La K9 WT
 go_wp2_with fail
 refine fL.out.mono ?_
 rintro e w8 ⟨rfl,yl,WU,EM⟩
 have Lb:dr w8 fs ⟨0,2,2,1⟩:=qz.out.only EM (by
  rintro (q | q)
  ·exact AU.out q
  ·exact aL.out q.symm)
 have rp:=Lib.hid (low.out _ _ _ nF.out EM AR.out)
 have eO:=IC (n:=2) yl Lb h5.out ⟨by omega,by simp,by simp,by simp,by simp,by simp,by simp [Lo.aF]⟩ 9 (by omega)
 have e3:fin ur (uu 2) sH 9 ([2,0,0,1,0].set (2+1) 0,[0, -1, -1, -1, -1, -1],(⟨0,2,2,1⟩:Wt))=(2,true,[2,0,0,0,0],[-1, -1, -1, -1, -1, -1],⟨0,4,2,2⟩):=by rfl
 have AV:Calls Tryz.prog 58 #[ptr M.m,.iface 124 (ptr fs),.int .i64 9] w8 fun e w'=>e=.returned (.tuple #[.int .i64 2,.bool true])/\uv w8 M fs ([2,0,0,0,0],[-1, -1, -1, -1, -1, -1],⟨0,4,2,2⟩) w':=by
  simp only at eO
  rw [e3] at eO
  exact eO
 replace AV:=Lib.hid AV
 clear e3 eO qz AU nF fL EM WU yl Lb
 go_wp2_with fail
 refine AV.out.mono ?_
 rintro e w9 ⟨rfl,AW,WV,Lc⟩
 have kL:=Lib.hid (low.out _ _ _ rp.out Lc AQ.out)
 replace AW:=Lib.hid AW
 clear AV Lc WV rp
 go_wp2_with fail
 refine (zH.eA w9).mono ?_
 rintro e w10 ⟨rfl,tp⟩
 have Ld:=AW.out.below tp
 have hB:=Lib.hid (kL.out.trans (tp.mono kL.out.size))
 have hI:Hid (Calls Tryz.prog 152 #[ptr M.m,.int .i64 1] w10 fun e w'=>e=.returned (.bool false)/\∃ n,w'=w10.drewN n):=Lib.hid (ID Ld 1 (by simp) (by omega))
 clear Ld tp kL AW
 go_wp2_with (go_at_call 152; refine hI.out.mono ?_; rintro e w' ⟨rfl,nq,rfl⟩)
 go_ret
 exact ⟨rfl,hB.out.trans ⟨rfl,rfl,rfl,Nat.le_refl _,fun _ _=>rfl⟩⟩
end Go.Proofs.YtpanebgakndddaaGreat.fp
namespace Go.Proofs.YtpanebgakndddaaGreat.zn
open Go Go.RowKit Hp K Fl Rw Hm Ar Mm Me LK Wk fp
set_option maxRecDepth 100000
theorem B9 (n:Nat):ff (List.replicate n .zero):=fun k=>by
 simp only [aj,List.getD,List.getElem?_replicate]
 split<;>simp [Sl.zero,Nd.zero]
theorem zG {W0 a b:World} {M:Mo} {f:Nat} (ha:Below W0.heap.size W0 a) (bp:∀ x,aq M x->W0.heap.size<=x) (hf:W0.heap.size<=f) (ho:ab (fun x=>aq M x\/x=f) a b):Below W0.heap.size W0 b:=
 ha.trans (ho.toBelow ha.size (fun x hx q=>by
  rcases q with q | q
  ·have:=bp x q; omega
  ·omega))
theorem RH (f:Nat) (k:ByteArray) (ss:List Sl) (F:Bool):wT [1,0,0,0] ss 5 (F,new f 3 0 k)=(1,true,(F,{new f 3 0 k with nx:=3})):=by
 simp [wT,fin,aE,cp,dB,word,new,Cl.nth]
set_option maxHeartbeats 1000000 in
theorem eA (w:World):Calls Tryz.prog 116 #[] w fun e w'=>e=.returned (.bool true)/\Below w.heap.size w w':=by
 have hN:=Lib.hid (na 1 1 w (by omega) (by omega))
 go_enter Tryz.func116,Tryz.ntmps116
 go_wp2_with fail
 refine hN.out.mono ?_
 rintro e w1 ⟨M,rfl,hM,bp,hB,h1,h2,h3,h4,h5,h6,h7⟩
 clear hN
 have hE:=Lib.hid (nj 3 0 ⟨#[97]⟩ w1)
 replace hM:=Lib.hid hM
 replace bp:=Lib.hid bp
 replace hB:=Lib.hid hB
 replace h1:=Lib.hid h1
 replace h2:=Lib.hid h2
 clear h3 h7 h5 h4 h6
 go_wp2_with fail
 refine hE.out.mono ?_
 rintro e w2 ⟨rfl,gN,ag⟩
 have aI:=hM.out.below ag
 have dH:w.heap.size<=w1.heap.size:=hB.out.size
 have fM:=Lib.hid (hB.out.trans (ag.mono dH))
 have hF:=RI aI gN (by rw [h2.out]; exact B9 1) 5 (by omega) ⟨by simp [new],by simp [new],by simp [new],by simp [new]⟩
 rw [h1.out,show (1:Int)::List.replicate (1+2) 0=[1,0,0,0] from rfl,RH] at hF
 replace hF:=Lib.hid hF
 clear hM hE ag gN aI hB
 generalize w1.heap.size=f at*
 replace dH:=Lib.hid dH
 go_wp2_with fail
 refine hF.out.mono ?_
 rintro e w3 ⟨rfl,bB,dw,_,an⟩
 have ay:=Lib.hid (zG fM.out bp.out dH.out an)
 have cM:Hid (Calls Tryz.prog 128 #[ptr f] w3 fun e w'=>e=.returned (.tuple #[.int .u64 0,.agg #[.string ⟨#[]⟩,.string ⟨#[]⟩,.int .u32 0,.int .u64 0],.bool false])/\Below w3.heap.size w3 w'):=Lib.hid (Cj dw)
 replace bB:=Lib.hid bB
 replace dw:=Lib.hid dw
 clear hF an fM
 go_wp2_with fail
 refine cM.out.mono ?_
 rintro e w4 ⟨rfl,az⟩
 have fT:=dw.out.below az
 have jf:=Lib.hid (ay.out.trans (az.mono ay.out.size))
 have lf:=fT.lt
 replace fT:=Lib.hid fT
 clear bB dw ay az cM
 go_wp2_with fail
 refine (zH.eA _).mono ?_
 rintro e w5 ⟨rfl,bM⟩
 have EK:Below w4.heap.size w4 w5:=((Below.refl _ _).alloc (Nat.le_refl _) _).trans (bM.mono (by simp))
 have oA:=Lib.hid (jf.out.trans (EK.mono jf.out.size))
 have AO:Hid (Calls Tryz.prog 154 #[ptr f] w5 fun e w'=>e=.returned (.int .u64 0)/\w5=w'):=Lib.hid (IB (fT.out.below EK))
 clear bM EK jf fT
 go_wp2_with (go_at_call 154; refine AO.out.mono ?_; rintro e w' ⟨rfl,rfl⟩)
 go_ret
 exact ⟨rfl,oA.out⟩
end Go.Proofs.YtpanebgakndddaaGreat.zn
namespace Go.Proofs.YtpanebgakndddaaGreat.Ha
open Go.RowKit lO
set_option maxHeartbeats 400000 in
theorem OG (n:Int) (w:World) (h0: -9223372036854775808<=n) (h1:n<=9223372036854775807):
 Calls Tryz.prog 51 #[.int .i64 n] w fun e w'=>e=.returned (.bool (FM.bl n))/\w'=w:=by
 go_enter Tryz.func51,Tryz.ntmps51
 go_wp2
 go_loop [3] (fun i=>∃ k:Nat,k<=17/\i=.int .i64 ((2 ^ k:Nat):Int)/\∀ j:Nat,j<k->n≠((2 ^ j:Nat):Int)) (fun i=>(200000-intOf i).toNat)
 case atStart=>exact ⟨0,by omega,rfl,fun j hj=>absurd hj (by omega)⟩
 case round=>
  obtain ⟨k,hk,rfl,kb⟩:=hrel
  have kb:=Lib.hid kb
  have px:0<2 ^ k:=Nat.two_pow_pos k
  by_cases K8:k<=16
  ·have hle:2 ^ k<=2 ^ 16:=Nat.pow_le_pow_right (by omega) K8
   have hd:=Lib.hid (Nat.pow_succ 2 k)
   generalize hq:2 ^ k=q at*
   have hq:=Lib.hid hq
   by_cases he:n=(q:Int)
   ·have hp:FM.bl n=true:=(FM.wA n).2 ⟨k,K8,by rw [hq.out]; exact he⟩
    have WQ:(q:Int)<=65536:=by omega
    obtain rfl:=he
    go_wp2
    go_ret
    exact ⟨rfl,rfl⟩
   ·have WQ:(q:Int)<=65536:=by omega
    have Ky:(((q:Nat):Int)==n)=false:=by rw [beq_eq_false_iff_ne]; omega
    go_wp2
    go_round
    case rel=>exact ⟨k+1,by omega,by rw [hd.out]; go_num,fun j hj=>by
     by_cases tC:j=k
     ·subst tC; rw [hq.out]; exact he
     ·exact kb.out j (by omega)⟩
    case measure=>simp [intOf]; omega
  ·obtain rfl:k=17:=by omega
   have hp:FM.bl n=false:=by
    cases h:FM.bl n with
    | false=>rfl
    | true=>
      obtain ⟨j,hj,hn⟩:=(FM.wA n).1 h
      exact absurd hn (kb.out j (by omega))
   clear kb
   go_wp2
   go_ret
   exact ⟨rfl,rfl⟩
end Go.Proofs.YtpanebgakndddaaGreat.Ha
namespace Go.Proofs.YtpanebgakndddaaGreat.gj
open Go Go.RowKit Hp K Fl Rw Hm Ar Mm Me LK Qs Wk Gt Pc fp
set_option maxRecDepth 100000
def zk (w:World) (A:Option Addr) (l:List Pr):Prop:=∀ i,i<l.length->∃ b o:Nat,A=some ⟨b,o,none⟩/\b<w.heap.size/\
 w.cell? ⟨b,o+i*2,none⟩=some (.string (pat l i).1)/\w.cell? ⟨b,o+i*2+1,none⟩=some (.string (pat l i).2)/\(pat l i).1.size<=140737488355328/\(pat l i).2.size<=140737488355328
def jW (o:Option ByteArray):Value:=.tuple #[.string (o.getD ⟨#[]⟩),.bool o.isSome]
set_option maxHeartbeats 1000000 in
theorem OD (w:World) (l:List Pr) (A:Option Addr) (cap:Nat) (hl:l.length<=maxLen) (hP:zk w A l) (key:ByteArray):
 Calls Tryz.prog 48 #[.slice A l.length cap,.string key] w fun e w'=>e=.returned (jW (lk l key))/\w=w':=by
 unfold maxLen at hl
 replace hP:=Lib.hid hP
 have h0:Hid (lk (l.drop 0) key=lk l key):=Lib.hid rfl
 generalize hz:lk l key=z at*
 replace hz:=Lib.hid hz
 generalize bu:l.length=len at*
 replace bu:=Lib.hid bu
 go_enter Tryz.func48,Tryz.ntmps48
 go_wp2_with fail
 go_loop [6] (fun i=>∃ n:Nat,n<=len/\i=.int .i64 n/\Hid (lk (l.drop n) key=z)) (fun i=>len-(intOf i).toNat)
 case atStart=>exact ⟨0,Nat.zero_le _,rfl,h0⟩
 case round=>
  obtain ⟨n,hn,rfl,hf⟩:=hrel
  clear h0
  by_cases aV:n<len
  ·obtain ⟨b,o,rfl,hb,c0,c1,s0,s1⟩:=hP.out n (by rw [bu.out]; exact aV)
   have e1:=hf.out
   have hd:l.drop n=pat l n::l.drop (n+1):=by
    have:=bu.out
    rw [List.drop_eq_getElem_cons (by omega)]
    congr 1
    simp [pat,List.getD,show n<l.length by omega]
   rw [hd] at e1
   generalize hp:pat l n=p at*
   obtain ⟨pk,pv⟩:=p
   simp only at c0 c1 s0 s1 e1
   replace hp:=Lib.hid hp
   clear hf hd
   by_cases h2:pk=key
   ·subst h2
    have e2:some pv=z:=by rw [<-e1]; simp [lk]
    replace e2:=Lib.hid e2
    clear e1
    go_wp2_with fail
    go_ret2
    rw [<-e2.out]
    exact ⟨rfl,rfl⟩
   ·have e2:lk (l.drop (n+1)) key=z:=by rw [<-e1]; simp [lk,h2]
    replace e2:=Lib.hid e2
    have b2:=wi h2
    clear h2 e1
    go_wp2_with fail
    go_round
    case rel=>exact ⟨n+1,by omega,by go_num,e2⟩
    case measure=>simp [intOf]; omega
  ·obtain rfl:n=len:=by omega
   have e1:=hf.out
   have qx:=bu.out
   rw [<-qx,List.drop_length] at e1
   have e2:z=none:=by rw [<-e1]; rfl
   subst e2
   clear hf e1 qx
   go_wp2_with fail
   go_ret2
   exact ⟨rfl,rfl⟩
end Go.Proofs.YtpanebgakndddaaGreat.gj
namespace Go.Proofs.YtpanebgakndddaaGreat.gm
open Go Go.RowKit Hp K Fl Rw Hm Ar Mm Me LK Wk Pc gj
set_option maxRecDepth 100000
def jE (p:Pr):List Value:=[.string p.1,.string p.2]
theorem OH (p:Pr):(jE p).length=2:=rfl
abbrev lL (w:World) (A:Option Addr) (cap:Nat) (l:List Pr):Prop:=Row w 153 2 jE A cap l
def vM (l:List Pr):Prop:=∀ p∈l,p.1.size<=200/\p.2.size<=200
theorem B6 {w:World} {A:Option Addr} {cap:Nat} {l:List Pr} (h:lL w A cap l) (hs:vM l):zk w A l:=by
 intro i hi
 obtain ⟨b,e,hb,hc⟩:=h.cells OH i hi
 have c0:=(hc 0 (by omega)).1
 have c1:=(hc 1 (by omega)).1
 have hp:pat l i=l[i]:=by simp [pat,List.getD,hi]
 have cA:=hs _ (List.getElem_mem hi)
 refine ⟨b,0,e,hb,?_,?_,by rw [hp]; omega,by rw [hp]; omega⟩
 ·rw [hp]; simpa [jE] using c0
 ·rw [hp]; simpa [jE] using c1
theorem Hb:(Tryz.prog.info? 153).map (fun i=>(i.zero,i.size,i.bytes))=some (some (.agg #[.string ⟨#[]⟩,.string ⟨#[]⟩]),2,32):=by kernel_rfl
def wu (W w:World) (l:List Pr) (key val:ByteArray) (v:Value) (d:Bool) (k:Nat):Prop:=
 ∃ (A:Option Addr) (cap:Nat) (o:List Pr),v=.slice A o.length cap/\lL w A cap o/\(∀ x,In A x->W.heap.size<=x)/\Below W.heap.size W w/\o.length<=k+1/\
   o.Perm ((if d=true then [(key,val)] else [])++(l.take k).filter fun p=>decide (p.1≠key))
def OI (W:World) (l:List Pr) (key val:ByteArray) (e:Ending) (w:World):Prop:=
 ∃ (A:Option Addr) (cap:Nat) (o:List Pr),e=.returned (.slice A o.length cap)/\lL w A cap o/\(∀ x,In A x->W.heap.size<=x)/\Below W.heap.size W w/\o.Perm ((key,val)::l.filter fun p=>decide (p.1≠key))
theorem Hc {l:List Pr} {k:Nat} {key:ByteArray} (hk:k<l.length) (h:(pat l k).1≠key):((l.take (k+1)).filter fun p=>decide (p.1≠key))=((l.take k).filter fun p=>decide (p.1≠key))++[pat l k]:=by
 have e:l[k]?=some (pat l k):=by simp [pat,List.getD,hk]
 rw [List.take_add_one,e,List.filter_append]
 simp [h]
theorem Hd {l:List Pr} {k:Nat} {key:ByteArray} (hk:k<l.length) (h:(pat l k).1=key):((l.take (k+1)).filter fun p=>decide (p.1≠key))=(l.take k).filter fun p=>decide (p.1≠key):=by
 have e:l[k]?=some (pat l k):=by simp [pat,List.getD,hk]
 rw [List.take_add_one,e,List.filter_append]
 simp [h]
set_option maxHeartbeats 1000000 in
theorem OE (W:World) (l:List Pr) (A:Option Addr) (cap:Nat) (hl:l.length<=1000000) (hP:zk W A l) (key val:ByteArray):
 Calls Tryz.prog 49 #[.slice A l.length cap,.string key,.string val] W (OI W l key val):=by
 have hI:=Lib.hid (show wu W W l key val (.slice none 0 0) false 0 from ⟨none,0,[],rfl,Row.nil _ _ _ _,by simp [In],Below.refl _ _,by simp,by simp⟩)
 obtain ⟨i0,cq,cy,cL,cz⟩:=info_parts Hb
 replace hP:=Lib.hid hP
 generalize bu:l.length=len at*
 replace bu:=Lib.hid bu
 go_enter Tryz.func49,Tryz.ntmps49
 go_wp2_with fail
 go_loopw [7,8,9] (fun v d i wr=>∃ (k:Nat) (c:Bool),k<=len/\i=.int .i64 k/\d=.bool c/\wu W wr l key val v c k) (fun _ _ i _=>len-(intOf i).toNat)
 case atStart=>exact ⟨0,false,Nat.zero_le _,rfl,rfl,hI.out⟩
 case round=>
  obtain ⟨k,c,hk,rfl,rfl,A1,cap1,o,rfl,hR,hA,hB,aF,hp⟩:=hrel
  clear hI
  generalize fZ:o.length=m at*
  replace fZ:=Lib.hid fZ
  replace hR:=Lib.hid hR
  replace hA:=Lib.hid hA
  replace hp:=Lib.hid hp
  by_cases aV:k<len
  ·obtain ⟨b,of,rfl,hb,c0,c1,s0,s1⟩:=hP.out k (by rw [bu.out]; exact aV)
   rw [<-hB.cell (p:=⟨b,_,none⟩) hb] at c0 c1
   have uY:b<wr.heap.size:=by have:=hB.size; omega
   replace hB:=Lib.hid hB
   have qj:=fun q=>Hc (l:=l) (k:=k) (key:=key) (by rw [bu.out]; exact aV) q
   have jN:=fun q=>Hd (l:=l) (k:=k) (key:=key) (by rw [bu.out]; exact aV) q
   generalize qk:pat l k=p at*
   obtain ⟨pk,pv⟩:=p
   simp only at c0 c1 s0 s1 qj jN
   replace qj:=Lib.hid qj
   replace jN:=Lib.hid jN
   replace qk:=Lib.hid qk
   have cA:=hB.out.size
   have tf:(true=true)=True:=by simp
   by_cases kg:pk=key
   ·have hn:=jN.out kg
    subst kg
    cases c with
    | true=>
      go_wp2_with fail
      go_roundw
      case rel=>exact ⟨k+1,true,by omega,by go_num,rfl,A1,cap1,o,by rw [fZ.out],hR.out,hA.out,hB.out,by have:=fZ.out; omega,by rw [hn]; exact hp.out⟩
      case measure=>simp [intOf]; omega
    | false=>
      cases sU:Op.bytesLess pk.toList pk.toList with
      | true=>
        go_wp2_with fail
        go_roundw
        case rel=>exact ⟨k+1,false,by omega,by go_num,rfl,A1,cap1,o,by rw [fZ.out],hR.out,hA.out,hB.out,by have:=fZ.out; omega,by rw [hn]; exact hp.out⟩
        case measure=>simp [intOf]; omega
      | false=>
        go_wp2_with
         (at_builtin
          refine kx wr rfl (.tmp 27) (.tmp 31) 78 rfl 153 i0 (.agg #[.string ⟨#[]⟩,.string ⟨#[]⟩]) 2 32 Tryz.underlying78 cq cy cL cz rfl (by omega) jE (fun _=>rfl) (by intro x u hu; simp [jE] at hu; rcases hu with rfl | rfl<;>rfl)
           A1 cap1 m o fZ.out (pk,val) #[.string pk,.string val] rfl rfl hR.out rfl (by simp only [maxLen]; omega) (by omega) ?_
          intro A2 cap2 w2 bG ae bw
          have VY:w2.cell? ⟨b,of+k*2,none⟩=some (.string pk):=by
           rw [ae.cell (p:=⟨b,_,none⟩) uY (fun q=>by have:=hA.out b q; omega)]; exact c0
          have HP:=Lib.hid (show wu W w2 l pk val (.slice A2 (m+1) cap2) true (k+1) from ⟨A2,cap2,o++[(pk,val)],by rw [List.length_append,fZ.out]; rfl,bG,fun x hx=>by
           rcases bw x hx with q | q
           ·exact hA.out x q
           ·omega,hB.out.trans (ae.toBelow cA (fun x hx q=>by have:=hA.out x q; omega)),by rw [List.length_append,fZ.out]; simp; omega,by
           rw [hn]
           refine (List.perm_append_comm).trans ?_
           have:=hp.out
           simp only [if_true]
           exact List.Perm.cons _ (by simpa using this)⟩)
          clear c0 bG ae bw)
        go_roundw
        case rel=>exact ⟨k+1,true,by omega,by go_num,rfl,HP.out⟩
        case measure=>simp [intOf]; omega
   ·have hy:=qj.out kg
    have au:=wi kg
    replace kg:=Lib.hid kg
    have lH:∀ (w2:World) (A2:Option Addr) (cap2:Nat) (c:Bool),Hid (o.Perm ((if c=true then [(key,val)] else [])++List.filter (fun p=>decide (p.1≠key)) (List.take k l)))->lL w2 A2 cap2 (o++[(pk,pv)])->ab (In A1) wr w2->(∀ x,In A2 x->In A1 x\/wr.heap.size<=x)->wu W w2 l key val (.slice A2 (m+1) cap2) c (k+1):=fun w2 A2 cap2 c hp bG ae bw=>
     ⟨A2,cap2,o++[(pk,pv)],by rw [List.length_append,fZ.out]; rfl,bG,fun x hx=>by
      rcases bw x hx with q | q
      ·exact hA.out x q
      ·omega,hB.out.trans (ae.toBelow cA (fun x hx q=>by have:=hA.out x q; omega)),by rw [List.length_append,fZ.out]; simp; omega,by
      rw [hy,<-List.append_assoc]
      exact List.Perm.append_right _ hp.out⟩
    replace lH:=Lib.hid lH
    cases c with
    | true=>
      go_wp2_with
       (at_builtin
        refine kx wr rfl (.tmp 40) (.tmp 45) 78 rfl 153 i0 (.agg #[.string ⟨#[]⟩,.string ⟨#[]⟩]) 2 32 Tryz.underlying78 cq cy cL cz rfl (by omega) jE (fun _=>rfl) (by intro x u hu; simp [jE] at hu; rcases hu with rfl | rfl<;>rfl)
         A1 cap1 m o fZ.out (pk,pv) #[.string pk,.string pv] rfl rfl hR.out rfl (by simp only [maxLen]; omega) (by omega) ?_
        intro A2 cap2 w2 bG ae bw)
      have HP:=Lib.hid (lH.out w2 A2 cap2 true hp bG ae bw)
      clear bG ae bw
      go_wp2_with fail
      go_roundw
      case rel=>exact ⟨k+1,true,by omega,by go_num,rfl,HP.out⟩
      case measure=>simp [intOf]; omega
    | false=>
      cases sU:Op.bytesLess pk.toList key.toList with
      | true=>
        go_wp2_with
         (at_builtin
          refine kx wr rfl (.tmp 40) (.tmp 45) 78 rfl 153 i0 (.agg #[.string ⟨#[]⟩,.string ⟨#[]⟩]) 2 32 Tryz.underlying78 cq cy cL cz rfl (by omega) jE (fun _=>rfl) (by intro x u hu; simp [jE] at hu; rcases hu with rfl | rfl<;>rfl)
           A1 cap1 m o fZ.out (pk,pv) #[.string pk,.string pv] rfl rfl hR.out rfl (by simp only [maxLen]; omega) (by omega) ?_
          intro A2 cap2 w2 bG ae bw)
        have HP:=Lib.hid (lH.out w2 A2 cap2 false hp bG ae bw)
        clear bG ae bw
        go_wp2_with fail
        go_roundw
        case rel=>exact ⟨k+1,false,by omega,by go_num,rfl,HP.out⟩
        case measure=>simp [intOf]; omega
      | false=>
        go_wp2_with (first
         | (at_builtin
            refine kx wr rfl (.tmp 27) (.tmp 31) 78 rfl 153 i0 (.agg #[.string ⟨#[]⟩,.string ⟨#[]⟩]) 2 32 Tryz.underlying78 cq cy cL cz rfl (by omega) jE (fun _=>rfl) (by intro x u hu; simp [jE] at hu; rcases hu with rfl | rfl<;>rfl)
             A1 cap1 m o fZ.out (key,val) #[.string key,.string val] rfl rfl hR.out rfl (by simp only [maxLen]; omega) (by omega) ?_
            intro A2 cap2 w2 bG ae bw
            have VY:w2.cell? ⟨b,of+k*2,none⟩=some (.string pk):=by
             rw [ae.cell (p:=⟨b,_,none⟩) uY (fun q=>by have:=hA.out b q; omega)]; exact c0
            have X0:w2.cell? ⟨b,of+k*2+1,none⟩=some (.string pv):=by
             rw [ae.cell (p:=⟨b,_,none⟩) uY (fun q=>by have:=hA.out b q; omega)]; exact c1
            have VZ:=ae.size
            have ag:=Lib.hid (hB.out.trans (ae.toBelow cA (fun x hx q=>by have:=hA.out x q; omega)))
            have KD:=Lib.hid (fun x (hx:In A2 x)=>show W.heap.size<=x from by
             rcases bw x hx with q | q
             ·exact hA.out x q
             ·omega)
            replace bG:=Lib.hid bG
            have Eg:=Lib.hid (show (o++[(key,val)]).length=m+1 by rw [List.length_append,fZ.out]; rfl)
            clear c0 c1 ae bw)
         | (at_builtin
            refine kx w2 rfl (.tmp 40) (.tmp 45) 78 rfl 153 i0 (.agg #[.string ⟨#[]⟩,.string ⟨#[]⟩]) 2 32 Tryz.underlying78 cq cy cL cz rfl (by omega) jE (fun _=>rfl) (by intro x u hu; simp [jE] at hu; rcases hu with rfl | rfl<;>rfl)
             A2 cap2 (m+1) (o++[(key,val)]) Eg.out (pk,pv) #[.string pk,.string pv] rfl rfl bG.out rfl (by simp only [maxLen]; omega) (by omega) ?_
            intro A3 cap3 w3 gG an lB
            have HP:=Lib.hid (show wu W w3 l key val (.slice A3 (m+1+1) cap3) true (k+1) from ⟨A3,cap3,o++[(key,val)]++[(pk,pv)],by rw [List.length_append,Eg.out]; rfl,gG,fun x hx=>by
             rcases lB x hx with q | q
             ·exact KD.out x q
             ·omega,ag.out.trans (an.toBelow ag.out.size (fun x hx q=>by have:=KD.out x q; omega)),by rw [List.length_append,Eg.out]; simp; have:=fZ.out; have:=hp.out.length_eq; have:=List.length_filter_le (fun p:Pr=>decide (p.1≠key)) (List.take k l); simp at*; omega,by
             rw [hy]
             have:=hp.out
             simp only [if_true]
             simp only [Bool.false_eq_true,if_false,List.nil_append] at this
             rw [List.append_assoc]
             refine (List.Perm.append_right _ this).trans ?_
             rw [<-List.append_assoc,<-List.append_assoc]
             exact List.Perm.append_right _ List.perm_append_comm⟩)
            clear gG an lB))
        go_roundw
        case rel=>exact ⟨k+1,true,by omega,by go_num,rfl,HP.out⟩
        case measure=>simp [intOf]; omega
  ·obtain rfl:k=len:=by omega
   have lJ:=hp.out
   have e1:List.take k l=l:=by rw [<-bu.out]; exact List.take_length
   rw [e1] at lJ
   cases c with
   | true=>
     replace lJ:=Lib.hid lJ
     replace hB:=Lib.hid hB
     clear e1 hp
     go_wp2_with fail
     go_ret
     exact ⟨A1,cap1,o,by rw [fZ.out]; rfl,hR.out,hA.out,hB.out,by simpa using lJ.out⟩
   | false=>
     replace lJ:=Lib.hid lJ
     replace hB:=Lib.hid hB
     clear e1 hp
     go_wp2_with
      (at_builtin
       refine kx wr rfl (.tmp 49) (.tmp 53) 78 rfl 153 i0 (.agg #[.string ⟨#[]⟩,.string ⟨#[]⟩]) 2 32 Tryz.underlying78 cq cy cL cz rfl (by omega) jE (fun _=>rfl) (by intro x u hu; simp [jE] at hu; rcases hu with rfl | rfl<;>rfl)
        A1 cap1 m o fZ.out (key,val) #[.string key,.string val] rfl rfl hR.out rfl (by simp only [maxLen]; omega) (by omega) ?_
       intro A2 cap2 w2 bG ae bw)
     have cA:=hB.out.size
     have HP:=Lib.hid (show lL w2 A2 cap2 (o++[(key,val)])/\(∀ x,In A2 x->W.heap.size<=x)/\Below W.heap.size W w2 from ⟨bG,fun x hx=>by
      rcases bw x hx with q | q
      ·exact hA.out x q
      ·omega,hB.out.trans (ae.toBelow cA (fun x hx q=>by have:=hA.out x q; omega))⟩)
     clear bG ae bw
     go_wp2_with fail
     go_ret
     refine ⟨A2,cap2,o++[(key,val)],by rw [List.length_append,fZ.out]; rfl,HP.out.1,HP.out.2.1,HP.out.2.2,?_⟩
     have:=lJ.out
     simp only [Bool.false_eq_true,if_false,List.nil_append] at this
     exact List.perm_append_comm.trans (List.Perm.cons _ this)
end Go.Proofs.YtpanebgakndddaaGreat.gm
namespace Go.Proofs.YtpanebgakndddaaGreat.gj
open Go Go.RowKit Hp K Fl Rw Hm Ar Mm Me LK Qs Wk Gt Pc fp
set_option maxRecDepth 100000
theorem U6 {W0 a b:World} {M:Mo} {g:Ga} (ha:Below W0.heap.size W0 a) (bp:∀ x,aq M x->W0.heap.size<=x) (hg:∀ x,bC g x->W0.heap.size<=x) (ho:ab (fun x=>aq M x\/bC g x) a b):Below W0.heap.size W0 b:=
 ha.trans (ho.toBelow ha.size (fun x hx q=>by
  rcases q with q | q
  ·have:=bp x q; omega
  ·have:=hg x q; omega))
theorem U7 {n k j:Nat} (hn:n<=1024) (hk:k<=8) (hj:j<k) (key:ByteArray) (F:Bool):Ev.Ok ⟨[(1,k+2)],List.replicate n .zero,1::List.replicate (k+2) 0,F,key,j,[],0⟩:=by
 have hb:=IK (n:=1) (by decide) (sm key) (oT key).1
 have hz:∀ i,i≠0->Cl.nth (1::List.replicate (k+2) 0) i=0:=by
  intro i hi
  obtain ⟨i,rfl⟩:∃ i',i=i'+1:=⟨i-1,by omega⟩
  simp only [Cl.nth,List.getD,List.getElem?_cons_succ,List.getElem?_replicate]
  split<;>rfl
 have bV:now (1::List.replicate (k+2) 0) [(1,k+2)]=(1,k+2):=by
  unfold now
  rw [hz 1 (by omega)]
  rfl
 have hc:Ev.cell ⟨[(1,k+2)],List.replicate n .zero,1::List.replicate (k+2) 0,F,key,j,[],0⟩=((k+2:Nat):Int):=by
  unfold Ev.cell cellOf
  simp only
  rw [bV]
  simp only
  rw [if_neg (by omega)]
  omega
 refine ⟨by simp; omega,zn.B9 n,?_,⟨by simp; omega,by simp only; omega⟩,?_,hz _ (by simp only; omega),?_,?_,Nat.le_refl _,by simp only; omega⟩
 ·intro i
  simp only [aO,List.getD]
  rcases i with _ | i
  ·simp; omega
  ·simp
 ·intro x hx
  simp only [List.mem_cons,List.mem_replicate] at hx
  omega
 ·rw [hc]; simp only; omega
 ·rw [hc]
  have:word (1::List.replicate (k+2) 0) ((k+2:Nat):Int)=0:=by
   unfold word
   split
   ·rw [Int.toNat_natCast,hz _ (by omega)]; rfl
   ·rfl
  simp only
  rw [this]
  exact .nil
set_option maxHeartbeats 1000000 in
theorem eA (w:World):Calls Tryz.prog 85 #[] w fun e w'=>e=.returned (.bool true)/\Below w.heap.size w w':=by
 have hN:=Lib.hid (na 1 1 w (by omega) (by omega))
 go_enter Tryz.func85,Tryz.ntmps85
 go_wp2_with fail
 refine hN.out.mono ?_
 rintro e w1 ⟨M,rfl,hM,bp,hB,h1,h2,h3,h4,h5,h6,h7⟩
 clear hN
 have hE:=Lib.hid (Gt.nj 0 ⟨#[97]⟩ (by simp [maxLen]; decide) w1)
 have hv:Ev.Ok ⟨M.ds,M.ss,M.xs,M.F,⟨#[97]⟩,0,[],0⟩:=by
  rw [h1,h2,h6]
  exact U7 (by omega) (by omega) (by omega) _ _
 replace hv:=Lib.hid hv
 replace hM:=Lib.hid hM
 replace bp:=Lib.hid bp
 replace hB:=Lib.hid hB
 clear h1 h2 h3 h7 h5 h4 h6
 go_wp2_with fail
 refine hE.out.mono ?_
 rintro e w2 ⟨a,rfl,gN,bw,ag⟩
 have aI:=hM.out.below ag
 have dH:w.heap.size<=w1.heap.size:=hB.out.size
 have fM:=Lib.hid (hB.out.trans (ag.mono dH))
 have hF:=Lib.hid (PK aI gN hv.out 20 (by omega))
 have hA:=Lib.hid (fun x hx=>Nat.le_trans dH (bw x hx))
 clear hM hE ag gN aI hB bw hv dH
 go_wp2_with fail
 refine hF.out.mono ?_
 rintro e w3 ⟨n,G,a',rfl,hn,hr,hf,bB,de,ea,_,an⟩
 obtain rfl:n=5:=by omega
 have ay:=Lib.hid (U6 fM.out bp.out hA.out an)
 have cM:=Gx de
 rw [hf.1,hf.2,ea] at cM
 replace cM:Hid (Calls Tryz.prog 95 #[ptr a.f] w3 fun e w'=>e=.returned (.tuple #[.string ⟨#[]⟩,.bool false])/\Below w3.heap.size w3 w'):=Lib.hid cM
 clear hF an fM bB de hn hr hf ea hA bp
 go_wp2_with fail
 refine cM.out.mono ?_
 rintro e w4 ⟨rfl,az⟩
 have jf:=Lib.hid (ay.out.trans (az.mono ay.out.size))
 clear ay az cM
 go_wp2_with fail
 refine (fp.eA _).mono ?_
 rintro e w5 ⟨rfl,bM⟩
 have oA:=Lib.hid (jf.out.trans (bM.mono jf.out.size))
 clear bM jf
 go_wp2_with fail
 refine (zn.eA _).mono ?_
 rintro e w6 ⟨rfl,gI⟩
 have XD:=Lib.hid (oA.out.trans (gI.mono oA.out.size))
 clear gI oA
 go_wp2_with fail
 go_ret
 exact ⟨rfl,XD.out⟩
end Go.Proofs.YtpanebgakndddaaGreat.gj
namespace Go.Proofs.YtpanebgakndddaaGreat.gm
open Go Go.RowKit Hp K Fl Rw Hm Ar Mm Me LK Qs Wk Re fp Pn Pc Mq Pu gj
set_option maxRecDepth 100000
def Still (us:List TypeId) (w w':World):Prop:=∀ x t cs,t∉us->af w x t cs->af w' x t cs
theorem He {S:Nat->Prop} {us:List TypeId} {w w':World} (ho:ab S w w') (hS:∀ x,S x->Ty w x us):Still us w w':=fun x t cs ht hb=>hb.only ho (fun q=>(hS x q).apart (bm hb) (fun t' h1 h2=>by
 have:t'=t:=by simpa using h2
 subst this
 exact ht h1))
structure eh (W0 w:World) (M:Mo) (A:Option Addr) (cap:Nat) (l:List Pr):Prop where
 mem:ah w M
 row:lL w A cap l
 below:Below W0.heap.size W0 w
 pF:∀ x,aq M x->W0.heap.size<=x
 low:∀ x,In A x->W0.heap.size<=x
section
variable {W0 w w':World} {M:Mo} {A:Option Addr} {cap:Nat} {l:List Pr} {n B:Nat} {cs:Nat->List Mq.Hp} {G:Nat}
theorem eh.down (h:eh W0 w M A cap l) (hb:Below w.heap.size w w'):eh W0 w' M A cap l:=
 ⟨h.mem.below hb,h.row.only (ab.aA hb (fun _=>False)) (by simp),h.below.trans (hb.mono h.below.size),h.pF,h.low⟩
theorem eh.iW {M':Mo} {S:Nat->Prop} (h:eh W0 w M A cap l) (hM:ah w' M') (hf:∀ x,aq M' x->aq M x\/w.heap.size<=x) (ho:ab S w w') (hS:∀ x,S x->W0.heap.size<=x) (hA:∀ x,In A x->¬S x):eh W0 w' M' A cap l:=
 ⟨hM,h.row.only ho hA,h.below.trans (ho.toBelow h.below.size (fun x hx q=>by have:=hS x q; omega)),fun x hx=>by
  rcases hf x hx with q | q
  ·exact h.pF x q
  ·have:=h.below.size; omega,h.low⟩
theorem eh.apart (h:eh W0 w M A cap l) {x:Nat} (hx:In A x) {us:List TypeId} (hd:153∉us):¬Ty w x us:=fun q=>q.apart (cw h.row hx) (by
 intro t ht Eh
 have:t=153:=by simpa using Eh
 subst this
 exact hd ht)
theorem eh.BT (h:eh W0 w M A cap l) {x:Nat} (hx:In A x):¬aq M x:=fun q=>h.apart hx (by decide) (h.mem.ty q)
def OJ (W0 w w':World) (M:Mo) (A:Option Addr) (cap:Nat) (lr l:List Pr) (n B G:Nat) (key val:ByteArray) (a:Qa):Prop:=
 ∃ (M':Mo) (a':Qa) (P':Pt),eh W0 w' M' A cap lr/\M'.m=M.m/\bL w' a' P'/\a'.f=a.f/\P'.bU=0/\decide (P'.W.found≠0)=(Pc.lk l key).isSome/\M'.ss.length=M.ss.length/\M'.k=M.k/\Still (zl++B7) w w'/\
   ((fW M.ss=none/\P'.err=4/\lm M'=lm M)\/((fW M.ss).isSome/\P'.err=0/\M'.ws.length=M.ws.length+(if (Pc.lk l key).isSome then 1 else 0)/\∃ cs',∀ l',uc l l' key val->Mp (lm M') n B cs' l' (G+1)))
theorem OK {lr:List Pr} (h:eh W0 w M A cap lr) (hm:Mp (lm M) n B cs l G) (hG:G<=1000000) {a:Qa} {hh:Nat} {i:Int} {key val:ByteArray} (hi:0<=i/\i<=1000) (hP:bL w a (jU hh i key val)) (fR:∀ x,iF a (jU hh i key val) x->W0.heap.size<=x) (K:Nat) (hc:∀ b,b<n->(cs b).length+8<=K) (hK:K<=1000000):
 Calls Tryz.prog 58 #[ptr M.m,.iface 179 (ptr a.f),.int .i64 K] w fun e w'=>(∃ k:Nat,e=.returned (.tuple #[.int .i64 k,.bool true]))/\OJ W0 w w' M A cap lr l n B G key val a:=by
 have hE:=hm.si (key:=key) (val:=val) (i:=i) (hb:=hh) hG hi
 have mQ:=hc (ai key n) (dJ hm.pw key).1
 refine (OL h.mem hP hE K ⟨by omega,hK⟩).mono fun e w' q=>?_
 obtain ⟨k,s,q1,_,q3,M',a',r1,r2,r3,r4,r5,r7,r8⟩:=q
 obtain ⟨m1,m2,m3⟩:=BR hm hG hi q3
 have fS:∀ x,zm.aQ a (jU hh i key val) x->iF a (jU hh i key val) x:=fun x q=>q
 refine ⟨⟨k,q1⟩,M',a',s.2,h.iW r1 r3.aQ r8 (fun x q=>?_) (fun x hx q=>?_),r3.m,r4,r5,m2,m1,?_,?_,He r8 (fun x q=>?_),?_⟩
 ·rcases q with q | q
  ·exact h.pF x q
  ·exact fR x (fS x q)
 ·rcases q with q | q
  ·exact h.BT hx q
  ·exact h.apart hx (by decide) (hP.ty (fS x q))
 ·have e:M'.ss=s.1.ss:=by rw [<-r2]
  rcases m3 with ⟨_,q2,_⟩ | ⟨_,_,_,q4,_⟩
  ·rw [e,q2]
  ·rw [e,q4]
 ·have e:M'.k=s.1.k:=by rw [<-r2]
  rcases m3 with ⟨_,q2,_⟩ | ⟨_,_,_,_,q5,_⟩
  ·rw [e,q2]
  ·rw [e,q5]
 ·rcases q with q | q
  ·exact (h.mem.ty q).mono (fun t ht=>List.mem_append_left _ ht)
  ·exact (hP.ty (fS x q)).mono (fun t ht=>List.mem_append_right _ ht)
 ·rcases m3 with ⟨q1,q2,q3⟩ | ⟨q1,q2,q3,_,_,q6⟩
  ·exact .inl ⟨q1,q3,r2.trans q2⟩
  ·refine .inr ⟨q1,q2,?_,?_⟩
   ·have e:M'.ws=s.1.ws:=by rw [<-r2]
    rw [e,q3]
   ·rw [r2]; exact q6
theorem NF (hm:Mp (lm M) n B cs l G) (key:ByteArray) {j:Nat} (hj:(j:Int)<M.k):Gt.Ev.Ok ⟨M.ds,M.ss,M.xs,M.F,key,j,bs (cs (ai key n)),(cs (ai key n)).length⟩/\lk (bs (cs (ai key n))) key=lk l key:=by
 have l9:=hm.small
 obtain ⟨av,au⟩:=dJ hm.pw key
 have Au:=hm.ql av
 have ma:=hm.gE
 have eu:2+M.k<=B:=hm.kB
 have hk:1<=M.k/\M.k<=8:=hm.k
 have bz:B+n<=M.xs.length:=hm.xl
 have hc:Gt.cellOf (sm key) (Me.now M.xs M.ds)=((B+ai key n:Nat):Int):=by
  have bV:Me.now M.xs M.ds=(n,B):=hm.now
  unfold Gt.cellOf
  rw [bV]
  simp only
  rw [if_neg (by omega),au]
  omega
 refine ⟨⟨l9.2,hm.db,hm.tb,⟨by simp only; omega,by simp only; omega⟩,hm.xb,hm.zero j hj,?_,?_,by simp only [bs,List.length_map]; omega,by simp only; omega⟩,(hm.lk key).symm⟩
 ·unfold Gt.Ev.cell
  simp only
  rw [hc]
  omega
 ·unfold Gt.Ev.cell
  simp only
  rw [hc]
  have e:word M.xs ((B+ai key n:Nat):Int)=(Cl.nth M.xs (B+ai key n)).toNat:=by
   unfold word
   rw [if_pos (by omega),Int.toNat_natCast]
  rw [e]
  exact (hm.ch _ av).cn
end
theorem Mp.vP {L:Lm} {n B:Nat} {cs:Nat->List Mq.Hp} {l:List Pr} {G:Nat} (h:Mp L n B cs l G):(∀ b,b<n->(cs b).length<=L.ss.length)/\(dX L.ss L.ss.length).length+L.ws.length+l.length=L.ss.length:=by
 have:=h.wr.nQ
 have hl:=h.len
 refine ⟨fun b hb=>?_,by omega⟩
 have:=h.ql hb
 omega
theorem BE (ss:List Sl):fW ss=none↔(dX ss ss.length).length=0:=by
 rw [B8]
 constructor
 ·intro h
  rw [List.length_eq_zero_iff]
  apply List.eq_nil_iff_forall_not_mem.2
  intro a ha
  obtain ⟨h1,h2⟩:=oJ.1 ha
  rw [h a h1] at h2
  simp at h2
 ·intro h k hk
  by_cases ht:(aj ss k).taken=true
  ·exact ht
  ·have hm:k∈dX ss ss.length:=oJ.2 ⟨hk,by simpa using ht⟩
   have:=List.length_pos_of_mem hm
   omega
theorem OM {L:Lm} {n B N:Nat} (jr:FM.bl n=true) (hn:n<=32) (hN:N<=1024) (hk:1<=L.k/\L.k<=8) (eu:2+L.k<=B) (hB:B<=20) (oo:∀ i,i≠0->i≠1->Cl.nth L.xs i=0) (bz:L.xs.length=B+n) (jx:∀ x∈L.xs,0<=x/\x<=18446744073709551615) (bV:Me.now L.xs L.ds=(n,B)) (aM:∀ i,i<L.ds.length->1<=(aO L.ds i).1/\(aO L.ds i).1<=32/\(aO L.ds i).2+(aO L.ds i).1<=B+n)
 (uQ:L.ss=List.replicate N .zero) (td:L.hs=List.replicate 6 (-1)) (hF:L.F=false) (pe:L.ws=[]):Mp L n B (fun _=>[]) [] 0:=by
 have ha:gr n (fun _=>([]:List Mq.Hp))=[]:=by simp [gr]
 refine ⟨jr,bV,fun i hi=>?_,fun i=>?_,hk,eu,by omega,jx,by rw [uQ]; exact zn.B9 N,fun b hb=>?_,fun b _ e he=>by simp at he,fun b _=>by simp,?_,by simp,fun key=>rfl,by rw [ha]; rfl,fun i hi=>oo _ (by omega) (by omega),td,hF⟩
 ·have:=aM i hi
  rw [bz]
  omega
 ·by_cases hi:i<L.ds.length
  ·have:=aM i hi
   omega
  ·rw [sq (by omega)]
   simp
 ·rw [oo _ (by omega) (by omega)]
  exact .nil
 ·rw [ha,uQ,pe]
  exact ON N hN
theorem Hf (k i:Nat) (h:i≠0):Cl.nth (1::List.replicate k 0) i=0:=by
 obtain ⟨i,rfl⟩:∃ i',i=i'+1:=⟨i-1,by omega⟩
 simp only [Cl.nth,List.getD,List.getElem?_cons_succ,List.getElem?_replicate]
 split<;>rfl
theorem tQ {w w':World} {n k:Nat} {M:Mo} (h:oK w n k M w') (hn:n<=1024) (hk:1<=k/\k<=8):Mp (lm M) 1 (k+2) (fun _=>[]) [] 0:=by
 obtain ⟨hM,bp,hB,h1,h2,h3,h4,h5,h6,h7⟩:=h
 refine OM (N:=n) (by decide) (by omega) hn (by show 1<=M.k/\M.k<=8; omega) (by show 2+M.k<=_; omega) (by omega) (fun i h0 _=>by show Cl.nth M.xs i=0; rw [h1]; exact Hf _ _ h0) (by show M.xs.length=_; rw [h1]; simp) hM.2.1.2.2.1 ?_ ?_ h2 h4 h3 h7
 ·show Me.now M.xs M.ds=_
  unfold Me.now
  rw [h1,Hf _ _ (by omega),h6]
  rfl
 ·intro i hi
  have hi:i<M.ds.length:=hi
  show 1<=(aO M.ds i).1/\(aO M.ds i).1<=32/\(aO M.ds i).2+(aO M.ds i).1<=k+2+1
  rw [h6] at hi ⊢
  have:i=0:=by simpa using hi
  subst this
  exact ⟨by simp [aO],by simp [aO],by simp [aO]⟩
end Go.Proofs.YtpanebgakndddaaGreat.gm
namespace Go.Proofs.YtpanebgakndddaaGreat.kC
open Go Go.RowKit Hp K Fl Rw Hm Ar Mm Me LK Qs Wk Pc Pn Mq Pu Zp Mx cJ Bs Zr gm
theorem Hh {S:Type} {rd:S->Bool} {st:S->S} {dn:S->Bool} (R:Nat->S->Prop) (h:∀ k s,R k s->rd s=true/\1<=k/\(dn s=true->k=1)/\(dn s=false->R (k-1) (st s))):
 ∀ K k s,R k s->k<=K->∃ s',fin rd st dn K s=(k,true,s'):=by
 intro K
 induction K with
 | zero=>
   intro k s hR hk
   have:=(h k s hR).2.1
   omega
 | succ K ih=>
   intro k s hR hk
   obtain ⟨h1,h2,h3,h4⟩:=h k s hR
   unfold fin
   rw [if_pos h1]
   cases hd:dn s with
   | true=>
     rw [if_pos rfl,h3 hd]
     exact ⟨_,rfl⟩
   | false=>
     obtain ⟨s',e⟩:=ih (k-1) (st s) (h4 hd) (by omega)
     rw [if_neg (by simp),e]
     exact ⟨s',by simp only; rw [show k-1+1=k by omega]⟩
def left (nx:Nat):Nat:=if nx<=5 then 11-nx else 12-nx
def Idle (L0:Lm) (H:List Nat) (N:np) (s:Nat) (l:List Pr) (xs:List Int) (ds:List (Nat×Nat)) (k:Nat) (S:Lm×Rz):Prop:=
 (∃ k0,Lone L0 H N s l k0 S)/\S.1.xs=xs/\S.1.ds=ds/\S.2.size=((now xs ds).1:Int)/\1<=S.2.nx/\S.2.nx≠6/\S.2.nx<=11/\k=left S.2.nx
theorem Hi {L0:Lm} {H:List Nat} {N:np} {s:Nat} {l:List Pr} {xs:List Int} {ds:List (Nat×Nat)} {k:Nat} {S:Lm×Rz} (h:Idle L0 H N s l xs ds k S):gD S.1 S.2=true/\1<=k/\(eJ S.1 S.2=true->k=1)/\(eJ S.1 S.2=false->Idle L0 H N s l xs ds (k-1) (bH S.1 S.2))/\(bH S.1 S.2).1.xs=xs/\(bH S.1 S.2).1.ds=ds:=by
 obtain ⟨⟨k0,hL⟩,h1,h2,h3,h4,h5,h6,rfl⟩:=h
 obtain ⟨a1,a2,a3,a4,a5⟩:=hL.step
 have b9:1<=left S.2.nx:=by unfold left; split<;>omega
 have hx:(bH S.1 S.2).1.xs=xs/\(bH S.1 S.2).1.ds=ds/\(eJ S.1 S.2=false->(bH S.1 S.2).2.size=S.2.size/\(bH S.1 S.2).2.nx=if S.2.nx=5 then 7 else S.2.nx+1):=by
  unfold bH eJ
  rw [if_neg (by omega)]
  by_cases q1:S.2.nx=1
  ·rw [if_pos q1]; exact ⟨h1,h2,fun _=>⟨rfl,by rw [q1]; rfl⟩⟩
  rw [if_neg q1]
  by_cases q2:S.2.nx<=4
  ·rw [if_pos q2]; exact ⟨h1,h2,fun _=>⟨rfl,by rw [if_neg (by omega)]⟩⟩
  rw [if_neg q2]
  by_cases q3:S.2.nx=5
  ·rw [if_pos q3]
   have e:Zr.look S.1 S.2={S.2 with nx:=7}:=by unfold Zr.look; rw [h1,h2,if_pos h3.symm]
   exact ⟨h1,h2,fun _=>by rw [e]; exact ⟨rfl,by rw [if_pos q3]⟩⟩
  rw [if_neg q3,if_neg h5]
  by_cases q4:S.2.nx<=10
  ·rw [if_pos q4]; exact ⟨h1,h2,fun _=>⟨rfl,by rw [if_neg (by omega)]⟩⟩
  ·rw [if_neg q4]; exact ⟨h1,h2,fun q=>by have:=of_decide_eq_false q; omega⟩
 refine ⟨a2,b9,fun hd=>?_,fun hd=>?_,hx.1,hx.2.1⟩
 ·unfold eJ at hd
  have:=of_decide_eq_true hd
  unfold left
  rw [if_neg (by omega)]
  omega
 ·obtain ⟨b1,b2,b3⟩:=hx
  obtain ⟨b4,b5⟩:=b3 hd
  have hn:¬(S.2.nx=0\/11<=S.2.nx):=of_decide_eq_false hd
  refine ⟨⟨_,a5 hd⟩,b1,b2,by rw [b4]; exact h3,?_,?_,?_,?_⟩
  ·rw [b5]; split<;>omega
  ·rw [b5]; split<;>omega
  ·rw [b5]; split<;>omega
  ·rw [b5]
   unfold left
   by_cases q:S.2.nx=5
   ·rw [if_pos q,q]; rfl
   ·rw [if_neg q]
    split<;>split<;>omega
def jS (L:Lm) (t:Nat):Prop:=L.xs.length<=10+512*t/\L.ds.length<=1+8*t/\1<=Cl.nth L.xs 0/\Cl.nth L.xs 0<=1+20000*t
theorem BP {a b:Nat} (h:2 ^ a<=2 ^ b):a<=b:=by
 rcases Nat.lt_or_ge b a with q | q
 ·have:=Nat.pow_lt_pow_right (show 1<2 by omega) q
  omega
 ·exact q
theorem za {n:Nat} (h:FM.bl (n:Int)=true):∃ b,b<=16/\n=2 ^ b:=by
 obtain ⟨b,hb,e⟩:=(FM.wA _).1 h
 exact ⟨b,hb,by exact_mod_cast e⟩
theorem Hj {b:Nat} (h:2 ^ b<=256):b<=8:=BP (b:=8) h
theorem NG (few n s:Nat) (hf:few<=30) (hn:FM.bl (n:Int)=true) (hs:FM.bl (s:Int)=true) (jw:n<=256) (lF:s<=256):∃ c x t a,nS few s n c x t a/\c<=19900/\x<=512/\t<=8/\a<=30*256:=by
 obtain ⟨b,hb,rfl⟩:=za hn
 obtain ⟨k,hk,rfl⟩:=za hs
 have l7:=Hj jw
 have D9:=Hj lF
 by_cases h:b<=k
 ·obtain ⟨c,x,hu⟩:=BQ few k hk (k-b) b (by omega)
  obtain ⟨e1,e2,e3⟩:=hu.eqs
  have m1:(k-b)*(15+12*few)<=8*375:=Nat.mul_le_mul (by omega) (by omega)
  have m2:(2*few+4)*2 ^ k<=64*256:=Nat.mul_le_mul (by omega) lF
  exact ⟨c,x,k-b,0,.inl hu,by omega,by omega,by omega,by omega⟩
 ·obtain ⟨c,x,a,hu⟩:=GJ few k (b-k) b (by omega) hb
  obtain ⟨e1,e2,e3,e4⟩:=hu.eqs
  have m1:(b-k)*14<=8*14:=Nat.mul_le_mul_right _ (by omega)
  have m2:(few+4)*2 ^ b<=34*256:=Nat.mul_le_mul (by omega) jw
  have m3:few*2 ^ b<=30*256:=Nat.mul_le_mul hf jw
  have m4:x<=2 ^ b:=Nat.le.intro e2
  exact ⟨c,x,b-k,a,.inr hu,by omega,by omega,by omega,by omega⟩
section
variable {W0 w:World} {M:Mo} {n B:Nat} {cs:Nat->List Mq.Hp} {l:List Pr} {G:Nat}
def OY (W0 w w':World) (M:Mo) (l:List Pr) (s G t:Nat) (i:Int) (a:Zr.Ra) (k n:Nat):Prop:=
 ∃ (M':Mo) (a':Zr.Ra) (R':Rz) (B':Nat) (cs':Nat->List Mq.Hp),eh W0 w' M' none 0 []/\M'.m=M.m/\dp.At w' a' R'/\dp.f a'=dp.f a/\R'.err=0/\Mp (lm M') s B' cs' l G/\M'.ss.length=M.ss.length/\M'.k=M.k/\M'.ws=M.ws/\jS (lm M') (t+1)/\(n=s->k=10/\M'.xs.length=M.xs.length)/\ab (fun x=>aq M x\/dp.aQ a (bX i s) x) w w'/\∀ x,dp.aQ a' R' x->dp.aQ a (bX i s) x\/w.heap.size<=x
theorem OZ {t:Nat} (h:eh W0 w M none 0 []) (hm:Mp (lm M) n B cs l G) (hG:G<=1000000) (hl:l.length<=30) (eW:jS (lm M) t) (ht:t<=11) {s:Nat} (hs:FM.bl (s:Int)=true) {c x tt ca:Nat} (hw:nS l.length s n c x tt ca) (hc:c<=19900) (hx:x<=512) (xF:tt<=8) (tc:ca<=30*256) (K:Nat) (hK:c+10<=K/\K<=1000000) {a:Zr.Ra} {i:Int} (hi:0<=i/\i<=1000) (hP:dp.At w a (bX i s)) (fR:∀ x,dp.aQ a (bX i s) x->W0.heap.size<=x):
 Calls Tryz.prog 58 #[ptr M.m,.iface 137 (ptr (dp.f a)),.int .i64 K] w fun e w'=>∃ k:Nat,e=.returned (.tuple #[.int .i64 k,.bool true])/\OY W0 w w' M l s G t i a k n:=by
 obtain ⟨u1,u2,u3,u4⟩:=eW
 have v1:M.xs.length<=10+512*t:=u1
 have v2:M.ds.length<=1+8*t:=u2
 have uR:=GF hm hG u3 (by omega) (by omega) (cap:=1000) ⟨by omega,by omega⟩
 have xG:=Zr.Mp.mx hm
 have D8:nS (pG n B 1000 cs).few s (pG n B 1000 cs).n c x tt ca:=by
  show nS (flat n cs).length s n c x tt ca
  rw [xG]
  exact hw
 have bO:bX i s=⟨i,s,1,0,.none⟩:=by unfold bX; rw [if_pos hs]
 have lH:Lone (lm M) (bK n cs) ⟨10+512*(t+1),1+8*(t+1),1+20000*((t:Int)+1)⟩ s l (c+10) (lm M,bX i s):=by
  refine ⟨.rest (pG n B 1000 cs),fun _ _ _=>True,c+10,ca,Nat.le_refl _,uR,⟨⟨by rw [bO]; exact hi,by rw [bO],by rw [bO],Zr.Kp.refl _,by show M.hs.length=6; have:M.hs=List.replicate 6 (-1):=hm.hs; rw [this]; simp,fun j a b=>?_,?_,⟨by simp only; omega,by simp only; omega,by simp only; omega⟩,List.Perm.refl _⟩,.take (pG n B 1000 cs) c x tt ca (by rw [bO]; exact ⟨Nat.le_refl _,by simp⟩) D8 (by rw [bO]; simp only; omega) (Nat.le_refl _) (by show 1000+ca<=_; omega) (by simp only; omega) (by simp only; omega)⟩,hm.zero⟩
  ·have:M.hs=List.replicate 6 (-1):=hm.hs
   show Lo.aF M.hs j=dA (bX i s).nx (bX i s).worker j
   rw [bO,this]
   unfold dA Lo.aF
   simp only [List.getD_eq_getElem?_getD,List.getElem?_replicate]
   rw [if_pos (by omega)]
   by_cases q:j=5
   ·rw [if_pos q]; rfl
   ·rw [if_neg q,if_neg (by omega)]; rfl
  ·show Cl.nth (lm M).xs 0+_<=1+20000*((t:Int)+1)
   omega
 have kP:=ni oQ h.mem hP (Lone (lm M) (bK n cs) ⟨10+512*(t+1),1+8*(t+1),1+20000*((t:Int)+1)⟩ s l) (fun S=>Qr (lm M) (bK n cs) ⟨10+512*(t+1),1+8*(t+1),1+20000*((t:Int)+1)⟩ s l S.1 S.2/\∀ i:Nat,(i:Int)<S.1.k->Cl.nth S.1.xs (2+i)=0) (fun k S hS=>hS.step) (c+10) K lH hK.1 hK.2
 refine kP.mono fun e w' q=>?_
 obtain ⟨k,S,q1,⟨q2,q3⟩,⟨⟨Y,r1,r2,r3,r4,r5,r6,r7,r8,r9,r10⟩,r11⟩,M',a',g1,g2,g3,g4,g5,g6,g7⟩:=q
 refine ⟨k,q1,M',a',S.2,Y.B,Y.cs,h.iW g1 g3.aQ g7 (fun x q=>?_) (fun x hx=>by simp [In] at hx),g3.m,g4,g5,r3,?_,?_,?_,?_,?_,fun V7=>?_,g7,g6⟩
 ·rcases q with q | q
  ·exact h.pF x q
  ·exact fR x q
 ·have:=Zr.GH hm r1 r7 r6 r11 r5 r4
  rw [r2] at this
  rw [g2]
  exact this
 ·have:(lm M').ss=S.1.ss:=by rw [g2]
  have e:M'.ss=S.1.ss:=this
  rw [e]; exact r6.ss
 ·have:(lm M').k=S.1.k:=by rw [g2]
  have e:M'.k=S.1.k:=this
  rw [e]; exact r6.k
 ·have:(lm M').ws=S.1.ws:=by rw [g2]
  have e:M'.ws=S.1.ws:=this
  rw [e]; exact r6.ws
 ·rw [g2]
  refine ⟨r9,r10,r1.base.p1,?_⟩
  have:((t+1:Nat):Int)=(t:Int)+1:=by omega
  rw [this]
  exact r8
 ·subst V7
  have KE:Idle (lm M) (bK n cs) ⟨10+512*(t+1),1+8*(t+1),1+20000*((t:Int)+1)⟩ n l M.xs M.ds 10 (lm M,bX i n):=by
   have bV:Me.now M.xs M.ds=(n,B):=hm.now
   exact ⟨⟨_,lH⟩,rfl,rfl,by rw [bO,bV],by rw [bO]; simp,by rw [bO]; simp,by rw [bO]; simp,by rw [bO]; rfl⟩
  obtain ⟨S',gX⟩:=Hh (rd:=fun s:Lm×Rz=>gD s.1 s.2) (st:=fun s=>bH s.1 s.2) (dn:=fun s=>eJ s.1 s.2) (Idle (lm M) (bK n cs) ⟨10+512*(t+1),1+8*(t+1),1+20000*((t:Int)+1)⟩ n l M.xs M.ds) (fun k S hS=>by obtain ⟨a1,a2,a3,a4,_,_⟩:=Hi hS; exact ⟨a1,a2,a3,a4⟩) K 10 _ KE (by omega)
  obtain ⟨n9,S9,e9,_,V8⟩:=Hk (rd:=fun s:Lm×Rz=>gD s.1 s.2) (st:=fun s=>bH s.1 s.2) (dn:=fun s=>eJ s.1 s.2) (Idle (lm M) (bK n cs) ⟨10+512*(t+1),1+8*(t+1),1+20000*((t:Int)+1)⟩ n l M.xs M.ds) (fun S=>S.1.xs=M.xs) (fun k S hS=>by obtain ⟨a1,a2,a3,a4,a5,_⟩:=Hi hS; exact ⟨a1,a2,fun _=>a5,a4⟩) K 10 _ KE (by omega)
  rw [q3] at gX e9
  injection gX with e1 e2
  injection e9 with e3 e4
  injection e4 with _ e5
  refine ⟨e1,?_⟩
  have:(lm M').xs=S.1.xs:=by rw [g2]
  have e:M'.xs=S.1.xs:=this
  rw [e,e5,V8]
def O0 (W0 w w':World) (M:Mo) (a:Zr.Ra) (i z:Int):Prop:=
 ∃ (M':Mo) (a':Zr.Ra) (R':Rz),eh W0 w' M' none 0 []/\M'.m=M.m/\dp.At w' a' R'/\dp.f a'=dp.f a/\R'.err=5/\lm M'=lm M/\ab (fun x=>aq M x\/dp.aQ a (bX i z) x) w w'
theorem O2 (h:eh W0 w M none 0 []) (hm:Mp (lm M) n B cs l G) {z:Int} (hz:FM.bl z=false) {a:Zr.Ra} {i:Int} (hP:dp.At w a (bX i z)) (fR:∀ x,dp.aQ a (bX i z) x->W0.heap.size<=x) (K:Nat) (hK:1<=K/\K<=1000000):
 Calls Tryz.prog 58 #[ptr M.m,.iface 137 (ptr (dp.f a)),.int .i64 K] w fun e w'=>e=.returned (.tuple #[.int .i64 1,.bool true])/\O0 W0 w w' M a i z:=by
 have bO:bX i z=⟨i,z,0,0,.none⟩:=by unfold bX; rw [if_neg (by rw [hz]; simp)]
 have eu:2+M.k<=B:=hm.kB
 have hk:1<=M.k/\M.k<=8:=hm.k
 have bz:B+n<=M.xs.length:=hm.xl
 have td:M.hs=List.replicate 6 (-1):=hm.hs
 have eL:oO (lm M) (bX i z):=⟨by rw [bO]; simp,by show 1<M.xs.length; omega,by show M.hs.length=6; rw [td]; simp,fun q=>absurd (by rw [bO]) q,fun j=>(hm.tb j).1,fun q=>by rw [bO] at q; simp at q,fun q=>by rw [bO] at q; simp at q,fun q=>by rw [bO] at q; simp at q⟩
 have bR:bH (lm M) (bX i z)=(lm M,{bX i z with err:=5,nx:=12}):=by unfold bH; rw [if_pos (by rw [bO])]
 have jt:gD (lm M) (bX i z)=true:=by unfold gD; rw [bO]; simp
 have cB:eJ (lm M) (bX i z)=true:=by unfold eJ; rw [bO]; simp
 refine (ni oQ h.mem hP (fun k S=>k=1/\S=(lm M,bX i z)) (fun S=>S=(lm M,{bX i z with err:=5,nx:=12})) (fun k S hS=>by
  obtain ⟨rfl,rfl⟩:=hS
  exact ⟨eL,jt,Nat.le_refl _,fun _=>bR,fun q=>by rw [cB] at q; simp at q⟩) 1 K ⟨rfl,rfl⟩ hK.1 hK.2).mono fun e w' q=>?_
 obtain ⟨k,S,q1,⟨q2,q3⟩,q4,M',a',g1,g2,g3,g4,g5,g6,g7⟩:=q
 obtain ⟨S',gX⟩:=Hh (rd:=fun s:Lm×Rz=>gD s.1 s.2) (st:=fun s=>bH s.1 s.2) (dn:=fun s=>eJ s.1 s.2) (fun k S=>k=1/\S=(lm M,bX i z)) (fun k S hS=>by
  obtain ⟨rfl,rfl⟩:=hS
  exact ⟨jt,Nat.le_refl _,fun _=>rfl,fun q=>by rw [cB] at q; simp at q⟩) K 1 (lm M,bX i z) ⟨rfl,rfl⟩ hK.1
 rw [q3] at gX
 injection gX with e1 _
 rw [e1] at q1
 rw [q4] at g2 g4
 refine ⟨q1,M',a',_,h.iW g1 g3.aQ g7 (fun x q=>?_) (fun x hx=>by simp [In] at hx),g3.m,g4,g5,rfl,g2,g7⟩
 rcases q with q | q
 ·exact h.pF x q
 ·exact fR x q
end
end Go.Proofs.YtpanebgakndddaaGreat.kC
namespace Go.Proofs.YtpanebgakndddaaGreat.iT
open Go Go.RowKit Hp K Fl Rw Hm Ar Mm Me LK Wk Pc gj gm Mq
set_option maxRecDepth 100000
def Out (W:World) (m:List Pr) (e:Ending) (w:World):Prop:=
 ∃ (A:Option Addr) (cap:Nat) (o:List Pr),e=.returned (.slice A o.length cap)/\lL w A cap o/\(∀ x,In A x->W.heap.size<=x)/\Below W.heap.size W w/\o.Perm m
def DN (W w:World) (m:List Pr) (v:Value):Prop:=
 ∃ (A:Option Addr) (cap:Nat) (o:List Pr),v=.slice A o.length cap/\lL w A cap o/\(∀ x,In A x->W.heap.size<=x)/\Below W.heap.size W w/\o.Perm m
set_option maxHeartbeats 1000000 in
theorem OF (W:World) (l:List Pr) (A:Option Addr) (cap:Nat) (hl:l.length<=1000000) (hP:zk W A l) (key:ByteArray):
 Calls Tryz.prog 50 #[.slice A l.length cap,.string key] W (Out W (l.filter fun p=>decide (p.1≠key))):=by
 have hI:=Lib.hid (show DN W W ((l.take 0).filter fun p=>decide (p.1≠key)) (.slice none 0 0) from ⟨none,0,[],rfl,Row.nil _ _ _ _,by simp [In],Below.refl _ _,by simp⟩)
 obtain ⟨i0,cq,cy,cL,cz⟩:=info_parts Hb
 replace hP:=Lib.hid hP
 generalize bu:l.length=len at*
 replace bu:=Lib.hid bu
 go_enter Tryz.func50,Tryz.ntmps50
 go_wp2_with fail
 go_loopw [5,6] (fun v i wr=>∃ k:Nat,k<=len/\i=.int .i64 k/\DN W wr ((l.take k).filter fun p=>decide (p.1≠key)) v) (fun _ i _=>len-(intOf i).toNat)
 case atStart=>exact ⟨0,Nat.zero_le _,rfl,hI.out⟩
 case round=>
  obtain ⟨k,hk,rfl,A1,cap1,o,rfl,hR,hA,hB,hp⟩:=hrel
  clear hI
  have aF:o.length<=len:=by
   have h1:=hp.length_eq
   have h2:=List.length_filter_le (fun p:Pr=>decide (p.1≠key)) (l.take k)
   rw [List.length_take] at h2
   have:=bu.out
   omega
  generalize fZ:o.length=m at*
  replace fZ:=Lib.hid fZ
  replace hR:=Lib.hid hR
  replace hA:=Lib.hid hA
  replace hp:=Lib.hid hp
  by_cases aV:k<len
  ·obtain ⟨b,of,rfl,hb,c0,c1,s0,s1⟩:=hP.out k (by rw [bu.out]; exact aV)
   rw [<-hB.cell (p:=⟨b,_,none⟩) hb] at c0 c1
   have uY:b<wr.heap.size:=by have:=hB.size; omega
   replace hB:=Lib.hid hB
   have qj:=fun q=>Hc (l:=l) (k:=k) (key:=key) (by rw [bu.out]; exact aV) q
   have jN:=fun q=>Hd (l:=l) (k:=k) (key:=key) (by rw [bu.out]; exact aV) q
   generalize qk:pat l k=p at*
   obtain ⟨pk,pv⟩:=p
   simp only at c0 c1 s0 s1 qj jN
   replace qk:=Lib.hid qk
   have cA:=hB.out.size
   by_cases kg:pk=key
   ·have hn:=Lib.hid (jN kg)
    clear qj jN
    subst kg
    go_wp2_with fail
    go_roundw
    case rel=>exact ⟨k+1,by omega,by go_num,A1,cap1,o,by rw [fZ.out],hR.out,hA.out,hB.out,by rw [hn.out]; exact hp.out⟩
    case measure=>simp [intOf]; omega
   ·have hy:=Lib.hid (qj kg)
    clear qj jN
    have au:=wi kg
    replace kg:=Lib.hid kg
    go_wp2_with
     (at_builtin
      refine kx wr rfl (.tmp 20) (.tmp 25) 78 rfl 153 i0 (.agg #[.string ⟨#[]⟩,.string ⟨#[]⟩]) 2 32 Tryz.underlying78 cq cy cL cz rfl (by omega) jE (fun _=>rfl) (by intro x u hu; simp [jE] at hu; rcases hu with rfl | rfl<;>rfl)
       A1 cap1 m o fZ.out (pk,pv) #[.string pk,.string pv] rfl rfl hR.out rfl (by simp only [maxLen]; omega) (by omega) ?_
      intro A2 cap2 w2 bG ae bw
      have HP:=Lib.hid (show DN W w2 ((l.take (k+1)).filter fun p=>decide (p.1≠key)) (.slice A2 (m+1) cap2) from ⟨A2,cap2,o++[(pk,pv)],by rw [List.length_append,fZ.out]; rfl,bG,fun x hx=>by
       rcases bw x hx with q | q
       ·exact hA.out x q
       ·omega,hB.out.trans (ae.toBelow cA (fun x hx q=>by have:=hA.out x q; omega)),by rw [hy.out]; exact List.Perm.append_right _ hp.out⟩)
      clear c0 c1 bG ae bw)
    go_roundw
    case rel=>exact ⟨k+1,by omega,by go_num,HP.out⟩
    case measure=>simp [intOf]; omega
  ·obtain rfl:k=len:=by omega
   have lJ:=hp.out
   rw [show List.take k l=l by rw [<-bu.out]; exact List.take_length] at lJ
   replace lJ:=Lib.hid lJ
   replace hB:=Lib.hid hB
   clear hp
   go_wp2_with fail
   go_ret
   exact ⟨A1,cap1,o,by rw [fZ.out]; rfl,hR.out,hA.out,hB.out,lJ.out⟩
end Go.Proofs.YtpanebgakndddaaGreat.iT
namespace Go.Proofs.YtpanebgakndddaaGreat.Hg
open Go Go.RowKit Hp K Fl Rw Hm Ar Mm Me LK Ta fp
set_option maxRecDepth 100000
theorem zG {W0 a b:World} {M:Mo} {f:Nat} (ha:Below W0.heap.size W0 a) (bp:∀ x,aq M x->W0.heap.size<=x) (hf:W0.heap.size<=f) (ho:ab (fun x=>aq M x\/x=f) a b):Below W0.heap.size W0 b:=
 ha.trans (ho.toBelow ha.size (fun x hx q=>by
  rcases q with q | q
  ·have:=bp x q; omega
  ·omega))
theorem RC (f:Nat):fin (lU [(1,3)]) (dx [1,0,0,0] [(1,3)]) (iK [1,0,0,0]) 9 (List.replicate 6 (-1),(⟨f,0,7,1,0,(0,0),0,false⟩:Ho))=(3,true,[-1,0, -1, -1, -1, -1],⟨f,0,7,5,0,(1,3),1,true⟩):=by
 have e:fy 7 (1,3)=1:=by simp [fy,FM.bucket,FM.bl]
 simp [fin,lU,dx,iK,aO,e,Cl.nth,Lo.aF,List.replicate]
set_option maxHeartbeats 1000000 in
theorem eA (w:World):Calls Tryz.prog 112 #[] w fun e w'=>e=.returned (.bool true)/\Below w.heap.size w w':=by
 have hN:=Lib.hid (na 1 1 w (by omega) (by omega))
 go_enter Tryz.func112,Tryz.ntmps112
 go_wp2_with fail
 refine hN.out.mono ?_
 rintro e w1 ⟨M,rfl,hM,bp,hB,h1,h2,h3,h4,h5,h6,h7⟩
 clear hN
 have hE:=Lib.hid (Iv 0 7 w1)
 replace hM:=Lib.hid hM
 replace bp:=Lib.hid bp
 replace hB:=Lib.hid hB
 replace h1:=Lib.hid h1
 replace h4:=Lib.hid h4
 replace h6:=Lib.hid h6
 clear h2 h3 h7 h5
 go_wp2_with fail
 refine hE.out.mono ?_
 rintro e w2 ⟨rfl,gN,ag⟩
 have aI:=hM.out.below ag
 have dH:w.heap.size<=w1.heap.size:=hB.out.size
 have fM:=Lib.hid (hB.out.trans (ag.mono dH))
 have hF:=RD aI gN (by rw [h1.out,h4.out,h6.out]; exact ⟨by simp,by simp,by simp,by simp,by simp,by decide,fun i=>by cases i<;>simp [aO],by simp,by simp,by simp⟩) 9 (by omega)
 rw [h1.out,h4.out,h6.out,show (1:Int)::List.replicate (1+2) 0=[1,0,0,0] from rfl,show (1:Nat)+2=3 from rfl,RC] at hF
 replace hF:=Lib.hid hF
 clear hM hE ag gN aI hB
 generalize w1.heap.size=f at*
 replace dH:=Lib.hid dH
 go_wp2_with fail
 refine hF.out.mono ?_
 rintro e w3 ⟨rfl,bB,tB,_,an⟩
 simp only at bB tB
 have ay:=Lib.hid (zG fM.out bp.out dH.out an)
 replace bB:=Lib.hid bB
 replace tB:=Lib.hid tB
 clear hF an fM
 go_wp2_with fail
 refine (zH.eA w3).mono ?_
 rintro e w4 ⟨rfl,az⟩
 have dP:=bB.out.below az
 have jB:=tB.out.below az
 have jf:=ay.out.trans (az.mono ay.out.size)
 have vu:=Iw jB
 have ie:=Lib.hid (RE jB)
 simp only [if_true] at vu
 unfold dv at vu
 replace vu:=Lib.hid vu
 have dn:=Da
 replace dP:=Lib.hid dP
 replace jB:=Lib.hid jB
 replace jf:=Lib.hid jf
 clear bB tB ay az
 go_wp2_with (first
  | (go_at_call 147; refine ie.out.mono ?_; rintro e w' ⟨rfl,hw⟩; obtain rfl:w4=w':=hw.symm))
 refine vu.out.mono ?_
 rintro e w5 ⟨rfl,bM⟩
 have ia:=dP.out.below bM
 have vv:=jB.out.below bM
 have oA:=jf.out.trans (bM.mono jf.out.size)
 have d1:=ia.hd.2.1
 simp only at d1
 have K5:=Lib.hid (Lo.tR ia.2.2.1 1 (by simp))
 have K6:=Lib.hid (Ix ia vv ⟨by simp,by simp,by simp,by show 1<M.xs.length; rw [h1.out]; simp,by simp,by show (aO M.ds 0).1<=65536; rw [h6.out]; simp [aO]⟩ (by simp) (by simp [Lo.aF]) rfl)
 have EJ:w.heap.size<=f:=dH.out
 replace EJ:=Lib.hid EJ
 replace ia:=Lib.hid ia
 replace oA:=Lib.hid oA
 clear dP jB jf bM vu ie vv
 go_wp2_with (go_at_call 97; refine K5.out.mono ?_; rintro e w' ⟨rfl,hw⟩; obtain rfl:w5=w':=hw.symm)
 refine K6.out.mono ?_
 rintro e w6 ⟨rfl,je,WL,eB⟩
 have gI:=Lib.hid (zG oA.out bp.out EJ.out eB)
 have d2:=je.hd.2.1
 simp only at d2
 have WM:=Lib.hid (Lo.tR je.2.2.1 1 (by simp))
 clear je WL eB K6 d1 K5
 go_wp2_with (go_at_call 97; refine WM.out.mono ?_; rintro e w' ⟨rfl,hw⟩; obtain rfl:w6=w':=hw.symm)
 go_ret
 exact ⟨rfl,gI.out⟩
end Go.Proofs.YtpanebgakndddaaGreat.Hg
namespace Go.Proofs.YtpanebgakndddaaGreat.gm
open Go Go.RowKit Hp K Fl Rw Hm Ar Mm Me LK Qs Wk Re fp Pn Pc Mq Pu gj
set_option maxRecDepth 100000
abbrev kA:ByteArray:=⟨#[97]⟩
abbrev kB:ByteArray:=⟨#[98]⟩
abbrev vX:ByteArray:=⟨#[120]⟩
def qQ (j:Nat):ByteArray:=if j=1 then kB else kA
def kY (j:Nat):List Pr:=if j=0 then [] else [(kA,vX)]
def m9 (W0 w:World) (m j:Nat):Prop:=∃ (M:Mo) (cs:Nat->List Mq.Hp) (G:Nat),eh W0 w M none 0 []/\M.m=m/\Mp (lm M) 1 3 cs (kY j) G/\G<=j/\M.ss.length=1/\M.ws.length=0
theorem OO:kA≠kB:=by
 intro e
 have:=congrArg ByteArray.data e
 simp at this
theorem m9.down {W0 w w':World} {m j:Nat} (h:m9 W0 w m j) (hb:Below w.heap.size w w'):m9 W0 w' m j:=by
 obtain ⟨M1,cs,G,hS,r⟩:=h
 exact ⟨M1,cs,G,hS.down hb,r⟩
def ud (j:Nat):Int:=if j=0 then 0 else 4
def sr (j:Nat):Bool:=decide (j=2)
theorem OP:ud 0=0:=rfl
theorem OQ:ud 1=4:=rfl
theorem OR:ud 2=4:=rfl
theorem OS:sr 0=false:=rfl
theorem OT:sr 1=false:=rfl
theorem OU:sr 2=true:=rfl
def OV (W0 w0 w:World) (a:Qa) (m j:Nat):Prop:=∃ (a':Qa) (P:Pt),Still (zl++B7) w0 w/\m9 W0 w m (j+1)/\bL w a' P/\a'.f=a.f/\P.err=ud j/\decide (P.W.found≠0)=sr j
theorem OW {W0 w:World} {m j:Nat} (hj:j<3) (h:m9 W0 w m j) {a:Qa} {hh:Nat} (hP:bL w a (jU hh 0 (qQ j) vX)) (fR:∀ x,iF a (jU hh 0 (qQ j) vX) x->W0.heap.size<=x):
 Calls Tryz.prog 58 #[ptr m,.iface 179 (ptr a.f),.int .i64 50] w fun e w'=>(∃ k:Nat,e=.returned (.tuple #[.int .i64 k,.bool true]))/\OV W0 w w' a m j:=by
 obtain ⟨M,cs,G,hS,rfl,hm,hG,hl,tl⟩:=h
 have hq:=Mp.vP hm
 have cS:(lm M).ss.length=1:=hl
 refine (OK hS hm (by omega) (by omega) hP fR 50 (fun b hb=>by have:=hq.1 b hb; omega) (by omega)).mono fun e w' q=>⟨q.1,?_⟩
 obtain ⟨M',a',P',h1,h2,h3,h4,h5,h6,h7,h8,bR,h9⟩:=q.2
 have cC:=BE M.ss
 have V0:(dX M.ss M.ss.length).length+M.ws.length+(kY j).length=M.ss.length:=hq.2
 by_cases j0:j=0
 ·subst j0
  rcases h9 with ⟨q1,_⟩ | ⟨q1,q2,q3,cs',q4⟩
  ·exfalso
   have:=cC.1 q1
   simp only [kY,if_true,List.length_nil] at V0
   omega
  ·refine ⟨a',P',bR,⟨M',cs',G+1,h1,h2,?_,by omega,by omega,by rw [q3,tl]; simp [kY,Pc.lk]⟩,h3,h4,by simpa [ud] using q2,?_⟩
   ·refine q4 _ ⟨by simp [kY],fun k=>?_,by simp [kY,Pc.lk]⟩
    simp only [kY,qQ,Pc.lk]
    by_cases e:k=kA
    ·simp [e,Pc.lk]
    ·have e':¬kA=k:=fun q=>e q.symm
     simp [e,e',Pc.lk]
   ·rw [h6]
    simp [kY,Pc.lk,sr]
 ·have mc:fW M.ss=none:=by
   rw [cC]
   have:(kY j).length=1:=by simp [kY,j0]
   omega
  rcases h9 with ⟨_,q2,q3⟩ | ⟨q1,_⟩
  ·refine ⟨a',P',bR,⟨M',cs,G,h1,h2,?_,by omega,by omega,by have e:M'.ws=M.ws:=congrArg Lm.ws q3; rw [e]; exact tl⟩,h3,h4,by unfold ud; rw [if_neg j0]; exact q2,?_⟩
   ·rw [q3]
    have:kY (j+1)=kY j:=by simp [kY,j0]
    rw [this]
    exact hm
   ·rw [h6]
    have V1:j=1\/j=2:=by omega
    rcases V1 with rfl | rfl
    ·simp [kY,qQ,Pc.lk,OO,sr]
    ·simp [kY,qQ,Pc.lk,sr]
  ·rw [mc] at q1
   simp at q1
set_option maxHeartbeats 2000000 in
theorem eA (w:World):Calls Tryz.prog 83 #[] w fun e w'=>e=.returned (.bool true)/\Below w.heap.size w w':=by
 have hN:=Lib.hid (na 1 1 w (by omega) (by omega))
 go_enter Tryz.func83,Tryz.ntmps83
 go_wp2_with fail
 refine hN.out.mono ?_
 rintro e w1 ⟨M,rfl,fh⟩
 have lz:=tQ fh (by omega) (by omega)
 obtain ⟨hM,bp,hB,h1,h2,h3,h4,h5,h6,h7⟩:=fh
 have hI:m9 w w1 M.m 0:=⟨M,_,0,⟨hM,Row.nil _ _ _ _,hB,bp,by simp [In]⟩,rfl,lz,by omega,by rw [h2]; simp,by rw [h7]; rfl⟩
 obtain ⟨w2,aT⟩:∃ w2,w2=w1.alloc (.cells #[.string kA,.string kB,.string kA] 9):=⟨_,rfl⟩
 have Ax:af w2 w1.heap.size 9 #[.string kA,.string kB,.string kA]:=by rw [aT]; exact af.made w1 _ _
 have rn:m9 w w2 M.m 0:=by
  obtain ⟨M1,cs,G,hS,r⟩:=hI
  exact ⟨M1,cs,G,hS.down (by rw [aT]; exact (Below.refl _ _).alloc (Nat.le_refl _) _),r⟩
 have dH:=hB.size
 generalize M.m=m at*
 clear hN hM bp hB h1 h2 h3 h4 h5 h6 h7 lz hI
 go_upto_region 5 with (fail)
 rw [<-aT]
 clear aT
 generalize w1.heap.size=sb at*
 have H0:=Lib.hid (And.intro rn Ax)
 clear rn Ax
 go_wp2_with fail
 go_loopw [12] (fun c wr=>∃ j:Nat,j<=3/\c=.int .i64 j/\m9 w wr m j/\af wr sb 9 #[.string kA,.string kB,.string kA]) (fun c _=>3-(intOf c).toNat)
 case atStart=>exact ⟨0,by omega,rfl,H0.out.1,H0.out.2⟩
 case round=>
  obtain ⟨j,hj,rfl,hI,hQ⟩:=hrel
  clear H0
  have l1:(qQ j).size<=maxLen:=by unfold qQ; split<;>(simp only [maxLen]; decide)
  have eM:=Lib.hid (Pu.nj 0 (qQ j) vX l1 wr)
  have bp:w.heap.size<=wr.heap.size:=by
   obtain ⟨_,_,_,hS,_⟩:=hI
   exact hS.below.size
  have HI:=Lib.hid hI
  have HQ:=Lib.hid hQ
  have c0:=hQ.cell 0
  have c1:=hQ.cell 1
  have c2:=hQ.cell 2
  have pa:=hQ.lt
  simp at c0 c1 c2
  clear hI hQ l1
  have te:j=0\/j=1\/j=2\/j=3:=by omega
  rcases te with rfl | rfl | rfl | rfl
  case' inr.inr.inr=>
   have hB:=Lib.hid (show Below w.heap.size w wr from by obtain ⟨_,_,_,hS,_⟩:=HI.out; exact hS.below)
   have V2:=Lib.hid (fun w=>Hg.eA w)
   have V3:=Lib.hid (fun w=>gj.eA w)
   clear HI HQ c0 c1 c2 eM pa
   go_wp2_with fail
   refine (V2.out _).mono ?_
   rintro e w3 ⟨rfl,ay⟩
   have jO:=Lib.hid (hB.out.trans (ay.mono hB.out.size))
   clear hB ay
   go_wp2_with fail
   refine (V3.out _).mono ?_
   rintro e w4 ⟨rfl,az⟩
   have jf:=Lib.hid (jO.out.trans (az.mono jO.out.size))
   clear jO az
   go_wp2_with fail
   go_ret
   exact ⟨rfl,jf.out⟩
  all_goals
   go_wp2_with fail
   refine eM.out.mono ?_
   rintro e w3 ⟨a,hh,rfl,ba,mR,ay⟩
   have Ei:=HQ.out.only (ab.aA ay (fun _=>False)) (by simp)
   have hF:=Lib.hid (OW (by omega) (HI.out.down ay) ba (fun x hx=>Nat.le_trans bp (mR x hx)))
   replace Ei:=Lib.hid Ei
   clear eM HI HQ ba mR c0 c1 c2
   go_wp2_with fail
   refine hF.out.mono ?_
   rintro e w4 ⟨⟨k4,rfl⟩,a',P,bR,Ay,jP,ea,he,hd⟩
   have V4:=Lib.hid (bR sb _ _ (by decide) Ei.out)
   clear bR
   have hE:=qK jP
   rw [he,ea] at hE
   have hH:=vV jP
   rw [hd,ea] at hH
   simp only [OP,OQ,OR,OS,OT,OU] at hE hH
   replace hE:=Lib.hid hE
   replace hH:=Lib.hid hH
   replace Ay:=Lib.hid Ay
   clear hF jP he hd ea
   go_wp2_with fail
   refine hE.out.mono ?_
   rintro e w' ⟨rfl,rfl⟩
   go_wp2_with fail
   refine hE.out.mono ?_
   rintro e w' ⟨rfl,rfl⟩
   go_wp2_with fail
   refine hH.out.mono ?_
   rintro e w5 ⟨rfl,bM⟩
   have V5:=Lib.hid (Ay.out.down bM)
   have V6:=Lib.hid (V4.out.only (ab.aA bM (fun _=>False)) (by simp))
   clear hE hH Ay bM
   go_wp2_with fail
   go_roundw
   case rel=>exact ⟨_,by omega,by go_num,V5.out,V6.out⟩
   case measure=>simp [intOf]; try omega
end Go.Proofs.YtpanebgakndddaaGreat.gm
