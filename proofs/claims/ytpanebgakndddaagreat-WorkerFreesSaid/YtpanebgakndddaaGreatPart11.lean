/- Walks and plain mathematics, put together in their order: RzW, RzX, RzY, LawNineA, ElA, TenC, ElD, FnA, LawEightA, ElE, TwB, RzG, ClQ, ClR, DoA. -/
import Derived.Test.YtpanebgakndddaaGreatPart10
import Derived.Test.YtpanebgakndddaaGreatFnvWalk
import Derived.Test.YtpanebgakndddaaGreatRowKit
import Derived.Laws.Cover1
import Derived.Test.YtpanebgakndddaaGreatRetE
import Derived.Deep.DeepCutAuto
import Derived.Deep.CutBlock
import Derived.Test.YtpanebgakndddaaGreatMemNew
set_option linter.unusedVariables false
set_option linter.unusedSimpArgs false
namespace Go.Proofs.YtpanebgakndddaaGreat.Zr
open Go Go.RowKit Hp K Fl Rw Hm Ar Mm Wk Pc Me Mq Pu Pn Gt Qs Zp Mx cK Bs
set_option maxRecDepth 100000
section
variable {w w':World} {M:Mo} {a:Ra} {R:Rz} {f h b:Nat} {k z e:Int} {u2 u3 tv:Value}
theorem ig:∀ x,Lo.aR M.lg M.lb x->ao M x:=fun _ h=>.inr (.inr (.inl h))
theorem nF (hM:ah w M) (hb:Rb w f k z u2 u3 e h tv) (hO:ab (·=f) w w'):ah w' M:=hM.only hO (fun x hx q=>by subst q; exact pG hb hM hx)
set_option maxHeartbeats 2000000 in
theorem SX (hM:ah w M) (hb:Rb w f k z u2 u3 e h tv) (hk:0<=k/\k<=1000) (hh:h<4) (hl:M.hs.length=6) (hf:Lo.aE M.hs (ik h)<0):
 Calls Tryz.prog 78 #[ptr f,ptr M.m] w fun x w'=>x=.returned (.bool false)/\ah w' {M with hs:=M.hs.set (ik h) k}/\Rb w' f k z u2 u3 e (h+1) tv/\ab (fun x=>ao M x\/x=f) w w':=by
 have d1:=hM.hd.2.1
 have c0:=(dP hb).1
 have c5:=(dP hb).2.2.2.2.2.1
 have np:=Lib.hid (fun w=>vW h w)
 have hT:=Lib.hid (fun nq=>Lo.vb (hM.drewN nq).2.2.1 (ik h) (by rw [hl]; exact Ik (by omega)) k hk.1 (by omega) hf)
 have HM:=Lib.hid hM
 have HB:=Lib.hid hb
 have lM:=hM.1.lt
 have lf:=hb.lt
 have XB:¬((h:Int)+1=5):=by omega
 clear hM hb hl hf
 generalize ik h=j at*
 go_enter Tryz.func78,Tryz.ntmps78
 go_wp2_with fail
 go_region_held3 (fun w'=>w'.cell? ⟨M.m,1,none⟩=some (ptr M.lg)/\w'.cell? ⟨f,0,none⟩=some (.int .i64 k)/\w'.cell? ⟨f,5,none⟩=some (.int .i64 h)) (go_keep)
  (first
    | (go_at_call 102
       refine (np.out _).mono ?_
       rintro e w3 ⟨rfl,rfl⟩)
    | (go_at_call 103
       refine (hT.out 1).mono ?_
       rintro e w2 ⟨rfl,fp,ae⟩
       have bF:=((ab.refl (Lo.aR M.lg M.lb) w).drewN 1).trans ae
       have aB:=HM.out.mc fp bF
       have ag:=HB.out.only bF (fun hx=>pG HB.out HM.out (ig _ hx))
       have s1:=aB.hd.2.1
       have s2:=(dP ag).1
       have s3:=(dP ag).2.2.2.2.2.1
       have z5:=ag.frozen 5
       simp at s1
       replace bF:=Lib.hid bF
       replace aB:=Lib.hid aB
       replace ag:=Lib.hid ag
       clear fp ae))
 all_goals
  go_wp2_with fail
  have hS:Rb (w2.setCell ⟨f,5,none⟩ (.int .i64 ((h:Int)+1))) f k z u2 u3 e (h+1) tv:=ag.out.store 5 _
  have fc:=(ab.refl (·=f) w2).setCell (p:=⟨f,5,none⟩) (.inl rfl) (.int .i64 ((h:Int)+1))
  have cX:=nF aB.out ag.out fc
  have fL:=(bF.out.mono (fun x _ q=>(.inl (ig _ q):ao M x\/x=f))).trans (fc.mono (fun x _ q=>.inr q))
  go_ret
  exact ⟨rfl,cX,hS,fL⟩
set_option maxHeartbeats 2000000 in
theorem SY (hM:ah w M) (ga:Gw.Gl) (sa:Sw.Sc) (R:Rz) (hb:Rb w f R.worker R.size u2 u3 R.err 4 tv) (hk:0<=R.worker/\R.worker<=1000) (hl:M.hs.length=6) (hx:1<M.xs.length) (hf:Lo.aE M.hs 4<0):
 Calls Tryz.prog 78 #[ptr f,ptr M.m] w fun x w'=>x=.returned (.bool false)/\ah w' {M with hs:=M.hs.set 4 R.worker}/\ab (fun x=>ao M x\/x=f) w w'/\∃ a':Ra,a'.f=f/\fu w' a' (look (lm M) R)/\∀ x,fx a' (look (lm M) R) x->x=f\/w.heap.size<=x:=by
 have d1:=hM.hd.2.1
 have c0:=(dP hb).1
 have c5:=(dP hb).2.2.2.2.2.1
 have np:=Lib.hid (fun w=>vW 4 w)
 have hT:=Lib.hid (fun nq=>Lo.vb (hM.drewN nq).2.2.1 4 (by rw [hl]; omega) R.worker hk.1 (by omega) hf)
 have cE:ik 4=4:=rfl
 rw [cE] at np
 have HM:=Lib.hid hM
 have HB:=Lib.hid hb
 have lM:=hM.1.lt
 have lf:=hb.lt
 clear hM hb hl hf cE
 go_enter Tryz.func78,Tryz.ntmps78
 go_wp2_with fail
 go_region_held3 (fun w'=>w'.cell? ⟨M.m,1,none⟩=some (ptr M.lg)/\w'.cell? ⟨f,0,none⟩=some (.int .i64 R.worker)/\w'.cell? ⟨f,5,none⟩=some (.int .i64 4)) (go_keep)
  (first
    | (go_at_call 102
       refine (np.out _).mono ?_
       rintro e w3 ⟨rfl,rfl⟩)
    | (go_at_call 103
       refine (hT.out 1).mono ?_
       rintro e w2 ⟨rfl,fp,ae⟩
       have bF:=((ab.refl (Lo.aR M.lg M.lb) w).drewN 1).trans ae
       have aB:=HM.out.mc fp bF
       have ag:=HB.out.only bF (fun hx=>pG HB.out HM.out (ig _ hx))
       have s1:=aB.hd.2.1
       have s2:=(dP ag).1
       have s3:=(dP ag).2.2.2.2.2.1
       have z5:=ag.frozen 5
       simp at s1
       replace bF:=Lib.hid bF
       replace aB:=Lib.hid aB
       replace ag:=Lib.hid ag
       clear fp ae))
 all_goals
  go_wp2_with fail
  have hS:Rb (w2.setCell ⟨f,5,none⟩ (.int .i64 5)) f R.worker R.size u2 u3 R.err 5 tv:=ag.out.store 5 _
  have fc:=(ab.refl (·=f) w2).setCell (p:=⟨f,5,none⟩) (.inl rfl) (.int .i64 5)
  have cX:=nF aB.out ag.out fc
  have fL:=(bF.out.mono (fun x _ q=>(.inl (ig _ q):ao M x\/x=f))).trans (fc.mono (fun x _ q=>.inr q))
  have hC:=Lib.hid (Im cX hx ga sa R hS)
  replace cX:=Lib.hid cX
  replace fL:=Lib.hid fL
  replace hS:=Lib.hid hS
  clear fc s1 s2 s3 z5
  refine hC.out.mono ?_
  rintro e1 w3 ⟨rfl,a',ha,hR,iw,aq⟩
  have br:=Lib.hid (nF cX.out hS.out aq)
  have aL:=Lib.hid (fL.out.trans (aq.mono (fun x _ q=>.inr q)))
  have wV:=Lib.hid (fun x hx=>(iw x hx).imp id (fun q=>Nat.le_trans fL.out.size q))
  replace hR:=Lib.hid hR
  clear hC aq iw hS
  go_wp2_with fail
  go_ret
  exact ⟨rfl,br.out,aL.out,a',ha,hR.out,wV.out⟩
set_option maxHeartbeats 2000000 in
theorem SZ (hM:ah w M) (hb:Rb w f k z u2 u3 e (h+1) tv) (hk:0<=k) (h1:1<=h) (hh:h<=4) (hl:M.hs.length=6) (hf:Lo.aE M.hs h=k):
 Calls Tryz.prog 137 #[ptr f,ptr M.m] w fun x w'=>x=.returned (.bool false)/\ah w' {M with hs:=M.hs.set h (-1)}/\Rb w' f k z u2 u3 e h tv/\ab (fun x=>ao M x\/x=f) w w':=by
 have c5:=(dP hb).2.2.2.2.2.1
 have z5:=hb.frozen 5
 have hS:Rb (w.setCell ⟨f,5,none⟩ (.int .i64 h)) f k z u2 u3 e h tv:=hb.store 5 _
 have fc:=(ab.refl (·=f) w).setCell (p:=⟨f,5,none⟩) (.inl rfl) (.int .i64 h)
 have cX:=nF hM hb fc
 have np:=Lib.hid (fun w=>vW h w)
 have hT:=Lib.hid (fun nq=>Lo.vQ (cX.drewN nq).2.2.1 h (by rw [hl]; omega) k hk hf)
 have cE:ik h=h:=if_neg (by omega)
 rw [cE] at np
 have e5:((h+1:Nat):Int)-1=h:=by omega
 have aH:M.m≠f:=fun e=>pG hb hM (.inl e.symm)
 have d1:=hM.hd.2.1
 replace cX:=Lib.hid cX
 replace hS:=Lib.hid hS
 replace fc:=Lib.hid fc
 clear hM hb hl hf cE
 go_enter Tryz.func137,Tryz.ntmps137
 go_upto_region 2 with (fail)
 have oX:(0:Int)<(h:Int):=by omega
 clear c5 z5 aH d1
 generalize w.setCell ⟨f,5,none⟩ (.int .i64 h)=w1 at*
 have c0:=(dP hS.out).1
 have c5:=(dP hS.out).2.2.2.2.2.1
 have d1:=cX.out.hd.2.1
 have lM:=cX.out.1.lt
 have lf:=hS.out.lt
 go_wp2_with fail
 go_region_held3 (fun w'=>w'.cell? ⟨M.m,1,none⟩=some (ptr M.lg)/\w'.cell? ⟨f,0,none⟩=some (.int .i64 k)/\w'.cell? ⟨f,5,none⟩=some (.int .i64 h)) (go_keep)
  (first
    | (go_at_call 102
       refine (np.out _).mono ?_
       rintro e w3 ⟨rfl,rfl⟩)
    | (go_at_call 166
       refine (hT.out 1).mono ?_
       rintro e w2 ⟨rfl,fp,ae⟩
       have bF:=((ab.refl (Lo.aR M.lg M.lb) w1).drewN 1).trans ae
       have aB:=cX.out.mc fp bF
       have ag:=hS.out.only bF (fun hx=>pG hS.out cX.out (ig _ hx))
       have s1:=aB.hd.2.1
       have s2:=(dP ag).1
       have s3:=(dP ag).2.2.2.2.2.1
       simp at s1
       have aL:=Lib.hid ((fc.out.mono (fun x _ q=>(.inr q:ao M x\/x=f))).trans (bF.mono (fun x _ q=>.inl (ig _ q))))
       replace bF:=Lib.hid bF
       replace aB:=Lib.hid aB
       replace ag:=Lib.hid ag
       clear fp ae))
 all_goals
  go_wp2_with fail
  go_ret
  exact ⟨rfl,aB.out,ag.out,aL.out⟩
set_option maxHeartbeats 2000000 in
theorem S1 (hM:ah w M) (hb:Rb w f k z u2 u3 e 1 tv) (hk:0<=k) (hl:M.hs.length=6) (hf:Lo.aE M.hs 5=k):
 Calls Tryz.prog 137 #[ptr f,ptr M.m] w fun x w'=>x=.returned (.bool true)/\ah w' {M with hs:=M.hs.set 5 (-1)}/\Rb w' f k z (dV 79) (dV 138) e 0 tv/\ab (fun x=>ao M x\/x=f) w w':=by
 have c5:=(dP hb).2.2.2.2.2.1
 have z5:=hb.frozen 5
 have hS:Rb (w.setCell ⟨f,5,none⟩ (.int .i64 0)) f k z u2 u3 e 0 tv:=hb.store 5 _
 have fc:=(ab.refl (·=f) w).setCell (p:=⟨f,5,none⟩) (.inl rfl) (.int .i64 0)
 have cX:=nF hM hb fc
 have np:=Lib.hid (fun w=>vW 0 w)
 have hT:=Lib.hid (fun nq=>Lo.vQ (cX.drewN nq).2.2.1 5 (by rw [hl]; omega) k hk hf)
 have cE:ik 0=5:=rfl
 rw [cE] at np
 have aH:M.m≠f:=fun e=>pG hb hM (.inl e.symm)
 have d1:=hM.hd.2.1
 replace cX:=Lib.hid cX
 replace hS:=Lib.hid hS
 replace fc:=Lib.hid fc
 clear hM hb hl hf cE
 go_enter Tryz.func137,Tryz.ntmps137
 go_upto_region 2 with (fail)
 clear c5 z5 aH d1
 generalize w.setCell ⟨f,5,none⟩ (.int .i64 0)=w1 at*
 have c0:=(dP hS.out).1
 have c5:=(dP hS.out).2.2.2.2.2.1
 have d1:=cX.out.hd.2.1
 have lM:=cX.out.1.lt
 have lf:=hS.out.lt
 go_wp2_with fail
 go_region_held3 (fun w'=>w'.cell? ⟨M.m,1,none⟩=some (ptr M.lg)/\w'.cell? ⟨f,0,none⟩=some (.int .i64 k)/\w'.cell? ⟨f,5,none⟩=some (.int .i64 0)) (go_keep)
  (first
    | (go_at_call 102
       refine (np.out _).mono ?_
       rintro e w3 ⟨rfl,rfl⟩)
    | (go_at_call 166
       refine (hT.out 1).mono ?_
       rintro e w2 ⟨rfl,fp,ae⟩
       have bF:=((ab.refl (Lo.aR M.lg M.lb) w1).drewN 1).trans ae
       have aB:=cX.out.mc fp bF
       have ag:=hS.out.only bF (fun hx=>pG hS.out cX.out (ig _ hx))
       have s1:=aB.hd.2.1
       have s2:=(dP ag).1
       have s3:=(dP ag).2.2.2.2.2.1
       simp at s1
       have aL:=Lib.hid ((fc.out.mono (fun x _ q=>(.inr q:ao M x\/x=f))).trans (bF.mono (fun x _ q=>.inl (ig _ q))))
       replace bF:=Lib.hid bF
       replace aB:=Lib.hid aB
       replace ag:=Lib.hid ag
       clear fp ae))
 all_goals
  have hE:=Lib.hid (nA ag.out)
  go_wp2_with fail
  refine hE.out.mono ?_
  rintro e1 w3 ⟨rfl,ay,aq⟩
  have br:=Lib.hid (nF aB.out ag.out aq)
  have bJ:=Lib.hid (aL.out.trans (aq.mono (fun x _ q=>.inr q)))
  replace ay:=Lib.hid ay
  clear hE aq ag
  go_wp2_with fail
  go_ret
  exact ⟨rfl,br.out,ay.out,bJ.out⟩
end
end Go.Proofs.YtpanebgakndddaaGreat.Zr
namespace Go.Proofs.YtpanebgakndddaaGreat.Zr
open Go Go.RowKit Hp K Fl Rw Hm Ar Mm Wk Pc Me Mq Pu Pn Gt Qs Zp Mx cK Bs
set_option maxRecDepth 100000
section
variable {w w':World} {M:Mo} {a:Ra} {R:Rz} {f h b:Nat} {k z e:Int} {u2 u3 tv:Value}
theorem Io {T:TypeId} {fs:Nat} {m:Value} {P:World->Prop} (hb:Rb w f k z u2 u3 e h (.iface T (ptr b))) (ms:∀ (w:World) (f:Nat),(method (f+1) T (.pointer (some ⟨b,0,none⟩)) "Step").run Tryz.prog w=.ok (fs,.pointer (some ⟨b,0,none⟩)) w)
 (es:∀ args w,(callFunc fs args).run Tryz.prog w=.ok (.enter fs args) w) (hF:Calls Tryz.prog fs #[ptr b,m] w fun e w'=>e=.returned (.bool false)/\P w'):Calls Tryz.prog 169 #[ptr f,m] w fun e w'=>e=.returned (.bool false)/\P w':=by
 have c6:=(dP hb).2.2.2.2.2.2
 replace hF:=Lib.hid hF
 clear hb
 go_enter Tryz.func169,Tryz.ntmps169
 go_wp2_with fail
 refine hF.out.mono ?_
 rintro e w' ⟨rfl,hP⟩
 replace hP:=Lib.hid hP
 clear c6
 go_wp2_with fail
 go_ret
 exact ⟨rfl,hP.out⟩
def Tn (w:World) (M:Mo) (f b:Nat) (k z e:Int) (u2 u3 tv:Value) (fe:Nat) (er:Int) (L':Lm) (S:Nat->Prop) (w':World):Prop:=
 ∃ M',ah w' M'/\M'.m=M.m/\lm M'=L'/\gm w M M'/\Rb w' f k z u2 u3 e 5 tv/\Calls Tryz.prog fe #[ptr b] w' (fun x w''=>x=.returned (.int .i64 er)/\w''=w')/\ab S w w'
set_option maxHeartbeats 1000000 in
theorem Ip {T:TypeId} {fs fe:Nat} {er:Int} {L':Lm} {S:Nat->Prop} (ga:Gw.Gl) (sa:Sw.Sc) (R:Rz) (hb:Rb w f R.worker R.size u2 u3 R.err 5 (.iface T (ptr b))) (ms:∀ (w:World) (f:Nat),(method (f+1) T (.pointer (some ⟨b,0,none⟩)) "Step").run Tryz.prog w=.ok (fs,.pointer (some ⟨b,0,none⟩)) w)
 (es:∀ args w,(callFunc fs args).run Tryz.prog w=.ok (.enter fs args) w) (me:∀ (w:World) (f:Nat),(method (f+1) T (.pointer (some ⟨b,0,none⟩)) "Err").run Tryz.prog w=.ok (fe,.pointer (some ⟨b,0,none⟩)) w) (ee:∀ args w,(callFunc fe args).run Tryz.prog w=.ok (.enter fe args) w)
 (hx:1<L'.xs.length) (hF:Calls Tryz.prog fs #[ptr b,ptr M.m] w fun e w'=>e=.returned (.bool true)/\Tn w M f b R.worker R.size R.err u2 u3 (.iface T (ptr b)) fe er L' S w'):
 Calls Tryz.prog 169 #[ptr f,ptr M.m] w fun e w'=>e=.returned (.bool false)/\∃ M',ah w' M'/\lm M'=L'/\gm w M M'/\ab (fun x=>S x\/x=f) w w'/\∃ a':Ra,a'.f=f/\fu w' a' (after L' R er)/\∀ x,fx a' (after L' R er) x->x=f\/w.heap.size<=x:=by
 have c6:=(dP hb).2.2.2.2.2.2
 replace hF:=Lib.hid hF
 clear hb
 unfold after
 by_cases h0:er=0
 ·rw [if_pos h0]
  subst h0
  go_enter Tryz.func169,Tryz.ntmps169
  go_wp2_with fail
  refine hF.out.mono ?_
  rintro e w1 ⟨rfl,M',hM,hm,hL,hK,hb,hE,hO⟩
  have c6:=(dP hb).2.2.2.2.2.2
  have c4:=(dP hb).2.2.2.2.1
  have z4:=hb.frozen 4
  replace hE:=Lib.hid hE
  clear hF
  go_wp2_with fail
  refine hE.out.mono ?_
  rintro e w2 ⟨rfl,bl⟩
  obtain rfl:w1=w2:=bl.symm
  have hS:Rb (w1.setCell ⟨f,4,none⟩ (.int .i64 0)) f R.worker R.size u2 u3 0 5 (.iface T (ptr b)):=hb.store 4 _
  have fc:=(ab.refl (·=f) w1).setCell (p:=⟨f,4,none⟩) (.inl rfl) (.int .i64 0)
  have cX:=nF hM hb fc
  have hC:=Lib.hid (Im cX (by have:(lm M').xs=L'.xs:=by rw [hL]
                                       have e:M'.xs=L'.xs:=this
                                       rw [e]; exact hx) ga sa {R with err:=0} hS)
  rw [hm,hL] at hC
  have ae:=Lib.hid ((hO.mono (fun x _ q=>(.inl q:S x\/x=f))).trans (fc.mono (fun x _ q=>.inr q)))
  replace cX:=Lib.hid cX
  replace hS:=Lib.hid hS
  replace hK:=Lib.hid hK
  replace hL:=Lib.hid hL
  clear hE hM hm hb hO fc
  go_wp2_with fail
  refine hC.out.mono ?_
  rintro e1 w3 ⟨rfl,a',ha,hR,iw,aq⟩
  have br:=Lib.hid (nF cX.out hS.out aq)
  have aL:=Lib.hid (ae.out.trans (aq.mono (fun x _ q=>.inr q)))
  have wV:=Lib.hid (fun x hx=>(iw x hx).imp id (fun q=>Nat.le_trans ae.out.size q))
  replace hR:=Lib.hid hR
  clear hC aq iw hS cX ae c4 c6 z4
  go_wp2_with fail
  go_ret
  exact ⟨rfl,M',br.out,hL.out,hK.out,aL.out,a',ha,hR.out,wV.out⟩
 ·rw [if_neg h0]
  go_enter Tryz.func169,Tryz.ntmps169
  go_wp2_with fail
  refine hF.out.mono ?_
  rintro e w1 ⟨rfl,M',hM,hm,hL,hK,hb,hE,hO⟩
  have c6:=(dP hb).2.2.2.2.2.2
  have c4:=(dP hb).2.2.2.2.1
  have z4:=hb.frozen 4
  replace hE:=Lib.hid hE
  clear hF
  go_wp2_with fail
  refine hE.out.mono ?_
  rintro e w2 ⟨rfl,bl⟩
  obtain rfl:w1=w2:=bl.symm
  have hS:Rb (w1.setCell ⟨f,4,none⟩ (.int .i64 er)) f R.worker R.size u2 u3 er 5 (.iface T (ptr b)):=hb.store 4 _
  have fc:=(ab.refl (·=f) w1).setCell (p:=⟨f,4,none⟩) (.inl rfl) (.int .i64 er)
  have cX:=nF hM hb fc
  have hC:=Lib.hid (eg (F1:=.func 79) (F2:=.func 137) (b1:=#[]) (b2:=#[ptr f]) hS)
  have ae:=Lib.hid ((hO.mono (fun x _ q=>(.inl q:S x\/x=f))).trans (fc.mono (fun x _ q=>.inr q)))
  replace cX:=Lib.hid cX
  replace hS:=Lib.hid hS
  replace hK:=Lib.hid hK
  replace hL:=Lib.hid hL
  clear hE hM hm hb hO fc
  go_wp2_with fail
  refine hC.out.mono ?_
  rintro e1 w3 ⟨rfl,ay,aq⟩
  have hR:Hid (fu w3 ⟨f,.iface T (ptr b),ga,sa⟩ {R with err:=er,nx:=7}):=Lib.hid (fu.plain ay (by simp))
  have br:=Lib.hid (nF cX.out hS.out aq)
  have aL:=Lib.hid (ae.out.trans (aq.mono (fun x _ q=>.inr q)))
  clear hC aq hS cX ae c4 c6 z4 ay
  go_wp2_with fail
  go_ret
  exact ⟨rfl,M',br.out,hL.out,hK.out,aL.out,_,rfl,hR.out,fun x hx=>.inl (ue (by simp) hx)⟩
end
end Go.Proofs.YtpanebgakndddaaGreat.Zr
namespace Go.Proofs.YtpanebgakndddaaGreat.Zr
open Go Go.RowKit Hp K Fl Rw Hm Ar Mm Wk Pc Me Mq Pu Pn Gt Qs Zp Mx cK Bs
set_option maxRecDepth 100000
theorem Iq (n:Nat) (xs hs:List Int) (W:Wt):xs.length<=(aI n xs hs W).1.length:=by
 unfold aI
 split
 ·exact Nat.le_refl _
 split
 ·simp
 split
 ·exact Nat.le_refl _
 ·exact Nat.le_refl _
theorem S3 (L:Lm) (G:Gw.Gr):L.xs.length<=(Gw.aF L G).1.xs.length:=by
 unfold Gw.aF
 split
 ·exact Nat.le_refl _
 split
 ·split
  ·simp
  ·exact Nat.le_refl _
 split
 ·exact Nat.le_refl _
 split
 ·exact Nat.le_refl _
 split
 ·simp
 split
 ·simp
 split
 ·exact Iq _ _ _ _
 ·split
  ·exact Nat.le_refl _
  ·exact Nat.le_refl _
theorem S4 (L:Lm) (G:Sw.Sh):L.xs.length<=(Sw.aG L G).1.xs.length:=by
 unfold Sw.aG
 split
 ·exact Nat.le_refl _
 split
 ·split
  ·simp
  ·exact Nat.le_refl _
 split
 ·exact Nat.le_refl _
 split
 ·exact Nat.le_refl _
 split
 ·exact Nat.le_refl _
 split
 ·exact Nat.le_refl _
 split
 ·simp
 split
 ·simp
 ·exact Iq _ _ _ _
theorem S5 {w:World} {a:Gw.Gl} {G:Gw.Gr} (h:Gw.bT w a G):Calls Tryz.prog 86 #[ptr a.f] w fun e w'=>e=.returned (.int .i64 G.err)/\w'=w:=by
 have c3:=(Gw.rT h.an).2.2.2.1
 clear h
 go_enter Tryz.func86,Tryz.ntmps86
 go_wp2_with fail
 go_ret
 exact ⟨rfl,rfl⟩
theorem S6 (b:Nat) (w:World) (f:Nat):(method (f+1) 167 (.pointer (some ⟨b,0,none⟩)) "Err").run Tryz.prog w=.ok (86,.pointer (some ⟨b,0,none⟩)) w:=by kernel_rfl
theorem S8 (b:Nat) (w:World) (f:Nat):(method (f+1) 169 (.pointer (some ⟨b,0,none⟩)) "Err").run Tryz.prog w=.ok (89,.pointer (some ⟨b,0,none⟩)) w:=by kernel_rfl
theorem Tb (args:Array Value) (w:World):(callFunc 86 args).run Tryz.prog w=.ok (.enter 86 args) w:=by kernel_rfl
theorem Tc (args:Array Value) (w:World):(callFunc 89 args).run Tryz.prog w=.ok (.enter 89 args) w:=by kernel_rfl
theorem Td (args:Array Value) (w:World):(callFunc 77 args).run Tryz.prog w=.ok (.enter 77 args) w:=by kernel_rfl
theorem Te (args:Array Value) (w:World):(callFunc 80 args).run Tryz.prog w=.ok (.enter 80 args) w:=by kernel_rfl
theorem Ir (args:Array Value) (w:World):(callFunc 78 args).run Tryz.prog w=.ok (.enter 78 args) w:=by kernel_rfl
theorem Is (args:Array Value) (w:World):(callFunc 169 args).run Tryz.prog w=.ok (.enter 169 args) w:=by kernel_rfl
theorem It (args:Array Value) (w:World):(callFunc 137 args).run Tryz.prog w=.ok (.enter 137 args) w:=by kernel_rfl
section
variable {w w':World} {M:Mo} {a:Ra} {R:Rz}
theorem Iu {nx:Nat} (h:1<=nx/\nx<=5):ik (ij nx)=kv nx:=by
 have e:ij nx=nx-1:=by unfold ij; rw [if_neg (by omega),if_pos h.2]
 rw [e]
 unfold ik kv
 by_cases q:nx=1
 ·rw [if_pos q,if_pos (by omega)]
 ·rw [if_neg q,if_neg (by omega)]
theorem Tf (hM:ah w M) (h:fu w a R) (ok:oo (lm M) R):Calls Tryz.prog 270 #[ptr a.f,ptr M.m] w fun e w'=>e=.returned (.bool (gA (lm M) R))/\Below w.heap.size w w':=by
 have c2:=(dP h.an).2.2.1
 unfold kx at c2
 unfold gA
 by_cases q1:1<=R.nx/\R.nx<=5
 ·rw [if_pos q1] at c2 ⊢
  have jf:=ok.wk (by omega)
  have h4:ij R.nx<=4:=by unfold ij; rw [if_neg (by omega),if_pos q1.2]; omega
  have hm:=vU hM h.an jf.1 h4 ok.hl
  rw [Iu q1] at hm
  rw [show decide (0<=R.worker/\Lo.aE (lm M).hs (kv R.nx)= -1)=decide (Lo.aE M.hs (kv R.nx)= -1) by
   by_cases e:Lo.aE M.hs (kv R.nx)= -1
   ·rw [decide_eq_true e,decide_eq_true ⟨hwk.1,e⟩]
   ·rw [decide_eq_false e,decide_eq_false (fun q=>e q.2)]]
  exact CK c2 Td hm
 rw [if_neg q1] at c2 ⊢
 by_cases q6:R.nx=6
 ·rw [if_pos q6] at c2 ⊢
  rcases ok.inn q6 with ⟨G,e,hG⟩ | ⟨G,e,hG⟩
  ·obtain ⟨t1,t2⟩:=h.b8 G q6 e
   rw [t1] at c2
   rw [e]
   exact Ij c2 (Gw.pB.mr _) Gw.pB.er (Gw.pB.ready hM t2 hG)
  ·obtain ⟨t1,t2⟩:=h.shr G q6 e
   rw [t1] at c2
   rw [e]
   exact Ij c2 (Sw.po.mr _) Sw.po.er (Sw.po.ready hM t2 hG)
 ·rw [if_neg q6] at c2 ⊢
  exact CJ c2
theorem CL {i:Nat} {v:Int} {R':Rz} (hn:R'.nx≠6) (hw:R'.worker=R.worker/\R'.size=R.size/\R'.err=R.err) (j8:ah w' {M with hs:=M.hs.set i v}) (hB:Rb w' a.f R.worker R.size (kx a.f R'.nx a.tv) (kz a.f R'.nx) R.err (ij R'.nx) a.tv) (hO:ab (fun x=>ao M x\/x=a.f) w w'):
 dk.ba w M a R {lm M with hs:=M.hs.set i v} R' w':=by
 have o6:fu w' a R':=fu.plain (by unfold CI; rw [hw.1,hw.2.1,hw.2.2]; exact hB) hn
 exact ⟨_,a,j8,rfl,⟨rfl,rfl,rfl,rfl,fun x q=>.inl q⟩,o6,rfl,fun x hx=>.inl (.inl (ue hn hx)),hO.mono (fun x _ q=>q.imp id .inl)⟩
theorem Tg (h:fu w a R) {G:Gw.Gr} (hG:Gw.bT w a.ga G):¬Gw.bt a.ga G a.f:=fun hx=>by
 rcases hG.ty hx with q | ⟨ms,q⟩
 ·exact q.apart (bj h.an) (by decide)
 ·exact q.no (bj h.an)
theorem Th (h:fu w a R) {G:Sw.Sh} (hG:Sw.cH w a.sa G):¬Sw.b9 a.sa G a.f:=fun hx=>by
 rcases hG.ty hx with q | ⟨ms,q⟩
 ·exact q.apart (bj h.an) (by decide)
 ·exact q.no (bj h.an)
theorem Ti (hM:ah w M) (h:fu w a R) (h6:R.nx=6) {G:Gw.Gr} (e:R.inn=.b8 G) (ok:Gw.pA (lm M) G) (hx:1<M.xs.length) (hr:Gw.kS (lm M) G=true):
 Calls Tryz.prog 169 #[ptr a.f,ptr M.m] w fun x w'=>x=.returned (.bool false)/\dk.ba w M a R (Gw.aF (lm M) G).1 (if Gw.cf (lm M) G=true then after (Gw.aF (lm M) G).1 {R with inn:=.b8 (Gw.aF (lm M) G).2} (Gw.aF (lm M) G).2.err else {R with inn:=.b8 (Gw.aF (lm M) G).2}) w':=by
 obtain ⟨t1,t2⟩:=h.b8 G h6 e
 have bs:=Gw.pB.step hM t2 ok hr
 have im:=Tg h t2
 have dm:¬ao M a.f:=pG h.an hM
 have n9:Rb w a.f R.worker R.size (kx a.f R.nx a.tv) (kz a.f R.nx) R.err (ij R.nx) a.tv:=h.an
 have hh:ij R.nx=5:=by rw [h6]; rfl
 cases hd:Gw.cf (lm M) G with
 | false=>
   rw [if_neg (by simp)]
   rw [t1] at n9
   rw [hd] at bs
   refine (Io n9 (Gw.pB.ms _) Gw.pB.es bs).mono ?_
   rintro x w' ⟨rfl,M',ga',r1,r2,r3,r4,r5,r6,r7⟩
   refine ⟨rfl,M',{a with ga:=ga'},r1,r2,r3,⟨?_,fun G' _ q=>?_,fun G' _ q=>by simp at q⟩,rfl,fun x hx=>?_,r7.mono (fun x _ q=>q.imp id (fun q=>.inr (.inl ⟨G,h6,e,q⟩)))⟩
   ·exact h.an.only r7 (fun q=>q.elim dm im)
   ·injection q with q
    subst q
    exact ⟨by rw [show ga'.f=a.ga.f from r5]; exact t1,r4⟩
   ·rcases hx with q | ⟨G',_,q2,q3⟩ | ⟨G',_,q2,_⟩
    ·exact .inl (.inl q)
    ·injection q2 with q2
     subst q2
     exact (r6 x q3).imp (fun q=>.inr (.inl ⟨G,h6,e,q⟩)) id
    ·simp at q2
 | true=>
   rw [if_pos rfl]
   rw [hh,t1] at n9
   rw [hd] at bs
   have bA:1<(Gw.aF (lm M) G).1.xs.length:=by
    have:=S3 (lm M) G
    have e:1<(lm M).xs.length:=hx
    omega
   refine (Ip (fe:=86) (er:=(Gw.aF (lm M) G).2.err) (L':=(Gw.aF (lm M) G).1) (S:=fun x=>ao M x\/Gw.bt a.ga G x) a.ga a.sa {R with inn:=.b8 (Gw.aF (lm M) G).2} n9 (Gw.pB.ms _) Gw.pB.es (S6 _) Tb bA (bs.mono ?_)).mono ?_
   ·rintro x w' ⟨rfl,M',ga',r1,r2,r3,r4,r5,r6,r7⟩
    have hE:=S5 r4
    rw [show ga'.f=a.ga.f from r5] at hE
    exact ⟨rfl,M',r1,r3.m,r2,r3,n9.only r7 (fun q=>q.elim dm im),hE,r7⟩
   ·rintro x w' ⟨rfl,M',r1,r2,r3,r4,a',r5,r6,r7⟩
    refine ⟨rfl,M',a',r1,r2,r3,r6,r5,fun x hx=>(r7 x hx).imp .inl id,r4.mono (fun x _ q=>?_)⟩
    rcases q with (q | q) | q
    ·exact .inl q
    ·exact .inr (.inr (.inl ⟨G,h6,e,q⟩))
    ·exact .inr (.inl q)
theorem Tj (hM:ah w M) (h:fu w a R) (h6:R.nx=6) {G:Sw.Sh} (e:R.inn=.shr G) (ok:Sw.pk (lm M) G) (hx:1<M.xs.length) (hr:Sw.eJ (lm M) G=true):
 Calls Tryz.prog 169 #[ptr a.f,ptr M.m] w fun x w'=>x=.returned (.bool false)/\dk.ba w M a R (Sw.aG (lm M) G).1 (if Sw.bW (lm M) G=true then after (Sw.aG (lm M) G).1 {R with inn:=.shr (Sw.aG (lm M) G).2} (Sw.aG (lm M) G).2.err else {R with inn:=.shr (Sw.aG (lm M) G).2}) w':=by
 obtain ⟨t1,t2⟩:=h.shr G h6 e
 have bs:=Sw.po.step hM t2 ok hr
 have im:=Th h t2
 have dm:¬ao M a.f:=pG h.an hM
 have n9:Rb w a.f R.worker R.size (kx a.f R.nx a.tv) (kz a.f R.nx) R.err (ij R.nx) a.tv:=h.an
 have hh:ij R.nx=5:=by rw [h6]; rfl
 cases hd:Sw.bW (lm M) G with
 | false=>
   rw [if_neg (by simp)]
   rw [t1] at n9
   rw [hd] at bs
   refine (Io n9 (Sw.po.ms _) Sw.po.es bs).mono ?_
   rintro x w' ⟨rfl,M',sa',r1,r2,r3,r4,r5,r6,r7⟩
   refine ⟨rfl,M',{a with sa:=sa'},r1,r2,r3,⟨?_,fun G' _ q=>by simp at q,fun G' _ q=>?_⟩,rfl,fun x hx=>?_,r7.mono (fun x _ q=>q.imp id (fun q=>.inr (.inr ⟨G,h6,e,q⟩)))⟩
   ·exact h.an.only r7 (fun q=>q.elim dm im)
   ·injection q with q
    subst q
    exact ⟨by rw [show sa'.f=a.sa.f from r5]; exact t1,r4⟩
   ·rcases hx with q | ⟨G',_,q2,_⟩ | ⟨G',_,q2,q3⟩
    ·exact .inl (.inl q)
    ·simp at q2
    ·injection q2 with q2
     subst q2
     exact (r6 x q3).imp (fun q=>.inr (.inr ⟨G,h6,e,q⟩)) id
 | true=>
   rw [if_pos rfl]
   rw [hh,t1] at n9
   rw [hd] at bs
   have bA:1<(Sw.aG (lm M) G).1.xs.length:=by
    have:=S4 (lm M) G
    have e:1<(lm M).xs.length:=hx
    omega
   refine (Ip (fe:=89) (er:=(Sw.aG (lm M) G).2.err) (L':=(Sw.aG (lm M) G).1) (S:=fun x=>ao M x\/Sw.b9 a.sa G x) a.ga a.sa {R with inn:=.shr (Sw.aG (lm M) G).2} n9 (Sw.po.ms _) Sw.po.es (S8 _) Tc bA (bs.mono ?_)).mono ?_
   ·rintro x w' ⟨rfl,M',sa',r1,r2,r3,r4,r5,r6,r7⟩
    have hE:=Sw.qt r4
    rw [show sa'.f=a.sa.f from r5] at hE
    exact ⟨rfl,M',r1,r3.m,r2,r3,n9.only r7 (fun q=>q.elim dm im),hE,r7⟩
   ·rintro x w' ⟨rfl,M',r1,r2,r3,r4,a',r5,r6,r7⟩
    refine ⟨rfl,M',a',r1,r2,r3,r6,r5,fun x hx=>(r7 x hx).imp .inl id,r4.mono (fun x _ q=>?_)⟩
    rcases q with (q | q) | q
    ·exact .inl q
    ·exact .inr (.inr (.inr ⟨G,h6,e,q⟩))
    ·exact .inr (.inl q)
theorem Tk (hM:ah w M) (h:fu w a R) (ok:oo (lm M) R) (hr:gA (lm M) R=true):
 Calls Tryz.prog 271 #[ptr a.f,ptr M.m] w fun e w'=>e=.returned (.bool (eI (lm M) R))/\dk.ba w M a R (bC (lm M) R).1 (bC (lm M) R).2 w':=by
 have c3:=(dP h.an).2.2.2.1
 unfold kz at c3
 have fR:=ok.nx
 have hB:Rb w a.f R.worker R.size (kx a.f R.nx a.tv) (kz a.f R.nx) R.err (ij R.nx) a.tv:=h.an
 by_cases e0:R.nx=0
 ·rw [if_pos e0] at c3
  rw [show eI (lm M) R=true from decide_eq_true (.inl e0)]
  have es:bC (lm M) R=(lm M,{R with err:=5,nx:=12}):=by unfold bC; rw [if_pos e0]
  rw [es]
  refine mf c3 Te ((SW hB (ptr M.m)).mono ?_)
  rintro x w' ⟨rfl,o6,hO⟩
  have hR:fu w' a {R with err:=5,nx:=12}:=fu.plain (by rw [e0] at o6; exact o6) (by simp)
  exact ⟨rfl,M,a,nF hM hB hO,rfl,gm.refl _ _,hR,rfl,fun x hx=>.inl (.inl (ue (by simp) hx)),hO.mono (fun x _ q=>.inr (.inl q))⟩
 rw [if_neg e0] at c3
 have jf:=ok.wk e0
 by_cases e5:R.nx<=5
 ·rw [if_pos e5] at c3
  have hh:ij R.nx=R.nx-1:=by unfold ij; rw [if_neg e0,if_pos e5]
  have hq:1<=R.nx/\R.nx<=5:=⟨by omega,e5⟩
  rw [show eI (lm M) R=false from decide_eq_false (by omega)]
  unfold gA at hr
  rw [if_pos hq] at hr
  have lI:=(of_decide_eq_true hr).2
  rw [<-Iu hq,hh] at lI
  have lI:Lo.aE M.hs (ik (R.nx-1))<0:=by
   have:Lo.aE M.hs (ik (R.nx-1))= -1:=lI
   omega
  by_cases e4:R.nx=5
  ·have es:bC (lm M) R=({lm M with hs:=M.hs.set 4 R.worker},look (lm M) R):=by
    unfold bC; rw [if_neg e0,if_neg (by omega),if_neg (by omega),if_pos e4]
   rw [es]
   rw [hh,e4] at hB
   rw [e4] at lI
   refine mf c3 Ir ((SY hM a.ga a.sa R hB jf ok.hl ok.x1 lI).mono ?_)
   rintro x w' ⟨rfl,j8,hO,a',ha,hR,iw⟩
   exact ⟨rfl,_,a',j8,rfl,⟨rfl,rfl,rfl,rfl,fun x q=>.inl q⟩,hR,ha,fun x hx=>(iw x hx).imp .inl id,hO.mono (fun x _ q=>q.imp id .inl)⟩
  ·have ux:R.nx-1<4:=by omega
   have es:bC (lm M) R=({lm M with hs:=M.hs.set (ik (R.nx-1)) R.worker},{R with nx:=R.nx+1}):=by
    unfold bC ik
    rw [if_neg e0]
    by_cases e1:R.nx=1
    ·rw [if_pos e1,if_pos (by omega),e1]
    ·rw [if_neg e1,if_pos (by omega),if_neg (by omega)]
   rw [es]
   rw [hh] at hB
   refine mf c3 Ir ((SX hM hB jf ux ok.hl lI).mono ?_)
   rintro x w' ⟨rfl,j8,o6,hO⟩
   refine ⟨rfl,CL (by show R.nx+1≠6; omega) ⟨rfl,rfl,rfl⟩ j8 ?_ hO⟩
   have h1:kx a.f (R.nx+1) a.tv=kx a.f R.nx a.tv:=by unfold kx; rw [if_pos (by omega),if_pos hq]
   have h2:kz a.f (R.nx+1)=kz a.f R.nx:=by unfold kz; rw [if_neg (by omega),if_pos (by omega),if_neg e0,if_pos e5]
   have h3:ij (R.nx+1)=R.nx-1+1:=by unfold ij; rw [if_neg (by omega),if_pos (by omega)]; omega
   show Rb w' a.f R.worker R.size (kx a.f (R.nx+1) a.tv) (kz a.f (R.nx+1)) R.err (ij (R.nx+1)) a.tv
   rw [h1,h2,h3]
   exact o6
 rw [if_neg e5] at c3
 by_cases e6:R.nx=6
 ·rw [if_pos e6] at c3
  rw [show eI (lm M) R=false from decide_eq_false (by omega)]
  unfold gA at hr
  rw [if_neg (by omega),if_pos e6] at hr
  rcases ok.inn e6 with ⟨G,e,hG⟩ | ⟨G,e,hG⟩
  ·rw [e] at hr
   have es:bC (lm M) R=((Gw.aF (lm M) G).1,if Gw.cf (lm M) G=true then after (Gw.aF (lm M) G).1 {R with inn:=.b8 (Gw.aF (lm M) G).2} (Gw.aF (lm M) G).2.err else {R with inn:=.b8 (Gw.aF (lm M) G).2}):=by
    unfold bC; rw [if_neg e0,if_neg (by omega),if_neg (by omega),if_neg (by omega),if_pos e6,e]
   rw [es]
   exact mf c3 Is (Ti hM h e6 e hG ok.x1 hr)
  ·rw [e] at hr
   have es:bC (lm M) R=((Sw.aG (lm M) G).1,if Sw.bW (lm M) G=true then after (Sw.aG (lm M) G).1 {R with inn:=.shr (Sw.aG (lm M) G).2} (Sw.aG (lm M) G).2.err else {R with inn:=.shr (Sw.aG (lm M) G).2}):=by
    unfold bC; rw [if_neg e0,if_neg (by omega),if_neg (by omega),if_neg (by omega),if_pos e6,e]
   rw [es]
   exact mf c3 Is (Tj hM h e6 e hG ok.x1 hr)
 rw [if_neg e6,if_pos fR] at c3
 have hh:ij R.nx=12-R.nx:=by unfold ij; rw [if_neg e0,if_neg e5,if_neg e6]
 have Wu:kx a.f R.nx a.tv=dV 79:=by unfold kx; rw [if_neg (by omega),if_neg e6]
 have Wv:kz a.f R.nx=aS 137 (ptr a.f):=by unfold kz; rw [if_neg e0,if_neg e5,if_neg e6,if_pos fR]
 by_cases e10:R.nx<=10
 ·rw [show eI (lm M) R=false from decide_eq_false (by omega)]
  have es:bC (lm M) R=({lm M with hs:=M.hs.set (11-R.nx) (-1)},{R with nx:=R.nx+1}):=by
   unfold bC; rw [if_neg e0,if_neg (by omega),if_neg (by omega),if_neg (by omega),if_neg e6,if_pos e10]
  rw [es]
  have Ww:=ok.held (by omega) e10
  rw [hh,show 12-R.nx=11-R.nx+1 by omega] at hB
  refine mf c3 It ((SZ hM hB jf.1 (by omega) (by omega) ok.hl Ww).mono ?_)
  rintro x w' ⟨rfl,j8,o6,hO⟩
  refine ⟨rfl,CL (by show R.nx+1≠6; omega) ⟨rfl,rfl,rfl⟩ j8 ?_ hO⟩
  have h1:kx a.f (R.nx+1) a.tv=kx a.f R.nx a.tv:=by rw [Wu]; unfold kx; rw [if_neg (by omega),if_neg (by omega)]
  have h2:kz a.f (R.nx+1)=kz a.f R.nx:=by rw [Wv]; unfold kz; rw [if_neg (by omega),if_neg (by omega),if_neg (by omega),if_pos (by omega)]
  have h3:ij (R.nx+1)=11-R.nx:=by unfold ij; rw [if_neg (by omega),if_neg (by omega),if_neg (by omega)]; omega
  show Rb w' a.f R.worker R.size (kx a.f (R.nx+1) a.tv) (kz a.f (R.nx+1)) R.err (ij (R.nx+1)) a.tv
  rw [h1,h2,h3]
  exact o6
 ·have e11:R.nx=11:=by omega
  rw [show eI (lm M) R=true from decide_eq_true (.inr (by omega))]
  have es:bC (lm M) R=({lm M with hs:=M.hs.set 5 (-1)},{R with nx:=12}):=by
   unfold bC; rw [if_neg e0,if_neg (by omega),if_neg (by omega),if_neg (by omega),if_neg e6,if_neg e10]
  rw [es]
  rw [hh,e11] at hB
  refine mf c3 It ((S1 hM hB jf.1 ok.hl (ok.last e11)).mono ?_)
  rintro x w' ⟨rfl,j8,o6,hO⟩
  exact ⟨rfl,CL (by show 12≠6; omega) ⟨rfl,rfl,rfl⟩ j8 o6 hO⟩
end
theorem ot:ou dk 137 270 271 oo gA bC eI where
 below h hb:=Fc h hb
 mr b w f:=by kernel_rfl
 ms b w f:=by kernel_rfl
 er args w:=by kernel_rfl
 es args w:=by kernel_rfl
 ready hM h ok:=Tf hM h ok
 step hM h ok hr:=Tk hM h ok hr
end Go.Proofs.YtpanebgakndddaaGreat.Zr
namespace Go.Proofs.YtpanebgakndddaaGreat.yh
open Go Go.RowKit Hp K Fl Rw Hm Ar Mm Me LK Wk ff
set_option maxRecDepth 100000
theorem Bh (n:Nat):fg (List.replicate n .zero):=fun k=>by
 simp only [ai,List.getD,List.getElem?_replicate]
 split<;>simp [Sl.zero,Nd.zero]
theorem yC {W0 a b:World} {M:Mo} {f:Nat} (ha:Below W0.heap.size W0 a) (aU:∀ x,ao M x->W0.heap.size<=x) (hf:W0.heap.size<=f) (ho:ab (fun x=>ao M x\/x=f) a b):Below W0.heap.size W0 b:=
 ha.trans (ho.toBelow ha.size (fun x hx q=>by
  rcases q with q | q
  ·have:=aU x q; omega
  ·omega))
theorem Qq (f:Nat) (k:ByteArray) (ss:List Sl) (F:Bool):vN [1,0,0,0] ss 5 (F,new f 3 0 k)=(1,true,(F,{new f 3 0 k with nx:=3})):=by
 simp [vN,fin,aF,cf,dx,word,new,Cl.nth]
set_option maxHeartbeats 1000000 in
theorem et (w:World):Calls Tryz.prog 116 #[] w fun e w'=>e=.returned (.bool true)/\Below w.heap.size w w':=by
 have hN:=Lib.hid (mI 1 1 w (by omega) (by omega))
 go_enter Tryz.func116,Tryz.ntmps116
 go_wp2_with fail
 refine hN.out.mono ?_
 rintro e w1 ⟨M,rfl,hM,aU,hB,h1,h2,h3,h4,h5,h6,h7⟩
 clear hN
 have hE:=Lib.hid (mN 3 0 ⟨#[97]⟩ w1)
 replace hM:=Lib.hid hM
 replace aU:=Lib.hid aU
 replace hB:=Lib.hid hB
 replace h1:=Lib.hid h1
 replace h2:=Lib.hid h2
 clear h3 h7 h5 h4 h6
 go_wp2_with fail
 refine hE.out.mono ?_
 rintro e w2 ⟨rfl,gI,ag⟩
 have aB:=hM.out.below ag
 have dK:w.heap.size<=w1.heap.size:=hB.out.size
 have fJ:=Lib.hid (hB.out.trans (ag.mono dK))
 have hF:=Qt aB gI (by rw [h2.out]; exact Bh 1) 5 (by omega) ⟨by simp [new],by simp [new],by simp [new],by simp [new]⟩
 rw [h1.out,show (1:Int)::List.replicate (1+2) 0=[1,0,0,0] from rfl,Qq] at hF
 replace hF:=Lib.hid hF
 clear hM hE ag gI aB hB
 generalize w1.heap.size=f at*
 replace dK:=Lib.hid dK
 go_wp2_with fail
 refine hF.out.mono ?_
 rintro e w3 ⟨rfl,br,dp,_,aq⟩
 have ay:=Lib.hid (yC fJ.out aU.out dK.out aq)
 have cF:Hid (Calls Tryz.prog 128 #[ptr f] w3 fun e w'=>e=.returned (.tuple #[.int .u64 0,.agg #[.string ⟨#[]⟩,.string ⟨#[]⟩,.int .u32 0,.int .u64 0],.bool false])/\Below w3.heap.size w3 w'):=Lib.hid (Bt dp)
 replace br:=Lib.hid br
 replace dp:=Lib.hid dp
 clear hF aq fJ
 go_wp2_with fail
 refine cF.out.mono ?_
 rintro e w4 ⟨rfl,az⟩
 have fU:=dp.out.below az
 have jc:=Lib.hid (ay.out.trans (az.mono ay.out.size))
 have lf:=fU.lt
 replace fU:=Lib.hid fU
 clear br dp ay az cF
 go_wp2_with fail
 refine (yD.et _).mono ?_
 rintro e w5 ⟨rfl,bI⟩
 have DV:Below w4.heap.size w4 w5:=((Below.refl _ _).alloc (Nat.le_refl _) _).trans (bI.mono (by simp))
 have nX:=Lib.hid (jc.out.trans (DV.mono jc.out.size))
 have zP:Hid (Calls Tryz.prog 154 #[ptr f] w5 fun e w'=>e=.returned (.int .u64 0)/\w5=w'):=Lib.hid (Hj (fU.out.below DV))
 clear bI DV jc fU
 go_wp2_with (go_at_call 154; refine zP.out.mono ?_; rintro e w' ⟨rfl,rfl⟩)
 go_ret
 exact ⟨rfl,nX.out⟩
end Go.Proofs.YtpanebgakndddaaGreat.yh
namespace Go.Proofs.YtpanebgakndddaaGreat.jj
end Go.Proofs.YtpanebgakndddaaGreat.jj
namespace Go.Proofs.YtpanebgakndddaaGreat.jk
open Go Go.RowKit Hp K Fl Rw Hm Ar Mm Me LK Wk Pc jj
set_option maxRecDepth 100000
def Nr (p:Pr):List Value:=[.string p.1,.string p.2]
abbrev Ns (w:World) (A:Option Addr) (cap:Nat) (l:List Pr):Prop:=Row w 153 2 Nr A cap l
end Go.Proofs.YtpanebgakndddaaGreat.jk
namespace Go.Proofs.YtpanebgakndddaaGreat.jj
open Go Go.RowKit Hp K Fl Rw Hm Ar Mm Me LK Qs Wk Gt Pc ff
set_option maxRecDepth 100000
theorem Uk {W0 a b:World} {M:Mo} {g:Ga} (ha:Below W0.heap.size W0 a) (aU:∀ x,ao M x->W0.heap.size<=x) (hg:∀ x,bt g x->W0.heap.size<=x) (ho:ab (fun x=>ao M x\/bt g x) a b):Below W0.heap.size W0 b:=
 ha.trans (ho.toBelow ha.size (fun x hx q=>by
  rcases q with q | q
  ·have:=aU x q; omega
  ·have:=hg x q; omega))
theorem Ul {n k j:Nat} (hn:n<=1024) (hk:k<=8) (hj:j<k) (key:ByteArray) (F:Bool):Ev.Ok ⟨[(1,k+2)],List.replicate n .zero,1::List.replicate (k+2) 0,F,key,j,[],0⟩:=by
 have hb:=Hv (n:=1) (by decide) (sm key) (qC key).1
 have hz:∀ i,i≠0->Cl.nth (1::List.replicate (k+2) 0) i=0:=by
  intro i hi
  obtain ⟨i,rfl⟩:∃ i',i=i'+1:=⟨i-1,by omega⟩
  simp only [Cl.nth,List.getD,List.getElem?_cons_succ,List.getElem?_replicate]
  split<;>rfl
 have bU:now (1::List.replicate (k+2) 0) [(1,k+2)]=(1,k+2):=by
  unfold now
  rw [hz 1 (by omega)]
  rfl
 have hc:Ev.cell ⟨[(1,k+2)],List.replicate n .zero,1::List.replicate (k+2) 0,F,key,j,[],0⟩=((k+2:Nat):Int):=by
  unfold Ev.cell cellOf
  simp only
  rw [bU]
  simp only
  rw [if_neg (by omega)]
  omega
 refine ⟨by simp; omega,yh.Bh n,?_,⟨by simp; omega,by simp only; omega⟩,?_,hz _ (by simp only; omega),?_,?_,Nat.le_refl _,by simp only; omega⟩
 ·intro i
  simp only [aM,List.getD]
  rcases i with _ | i
  ·simp; omega
  ·simp
 ·intro x hx
  simp only [List.mem_cons,List.mem_replicate] at hx
  omega
 ·rw [hc]; simp only; omega
 ·rw [hc]
  have:word (1::List.replicate (k+2) 0) ((k+2:Nat):Int)=0:=by
   unfold word
   split
   ·rw [Int.toNat_natCast,hz _ (by omega)]; rfl
   ·rfl
  simp only
  rw [this]
  exact .nil
set_option maxHeartbeats 1000000 in
theorem et (w:World):Calls Tryz.prog 85 #[] w fun e w'=>e=.returned (.bool true)/\Below w.heap.size w w':=by
 have hN:=Lib.hid (mI 1 1 w (by omega) (by omega))
 go_enter Tryz.func85,Tryz.ntmps85
 go_wp2_with fail
 refine hN.out.mono ?_
 rintro e w1 ⟨M,rfl,hM,aU,hB,h1,h2,h3,h4,h5,h6,h7⟩
 clear hN
 have hE:=Lib.hid (Gt.mN 0 ⟨#[97]⟩ (by simp [maxLen]; decide) w1)
 have hv:Ev.Ok ⟨M.ds,M.ss,M.xs,M.F,⟨#[97]⟩,0,[],0⟩:=by
  rw [h1,h2,h6]
  exact Ul (by omega) (by omega) (by omega) _ _
 replace hv:=Lib.hid hv
 replace hM:=Lib.hid hM
 replace aU:=Lib.hid aU
 replace hB:=Lib.hid hB
 clear h1 h2 h3 h7 h5 h4 h6
 go_wp2_with fail
 refine hE.out.mono ?_
 rintro e w2 ⟨a,rfl,gI,bH,ag⟩
 have aB:=hM.out.below ag
 have dK:w.heap.size<=w1.heap.size:=hB.out.size
 have fJ:=Lib.hid (hB.out.trans (ag.mono dK))
 have hF:=Lib.hid (OA aB gI hv.out 20 (by omega))
 have hA:=Lib.hid (fun x hx=>Nat.le_trans dK (bH x hx))
 clear hM hE ag gI aB hB bH hv dK
 go_wp2_with fail
 refine hF.out.mono ?_
 rintro e w3 ⟨n,G,a',rfl,hn,hr,hf,br,eX,ea,_,aq⟩
 obtain rfl:n=5:=by omega
 have ay:=Lib.hid (Uk fJ.out aU.out hA.out aq)
 have cF:=Fb eX
 rw [hf.1,hf.2,ea] at cF
 replace cF:Hid (Calls Tryz.prog 95 #[ptr a.f] w3 fun e w'=>e=.returned (.tuple #[.string ⟨#[]⟩,.bool false])/\Below w3.heap.size w3 w'):=Lib.hid cF
 clear hF aq fJ br eX hn hr hf ea hA aU
 go_wp2_with fail
 refine cF.out.mono ?_
 rintro e w4 ⟨rfl,az⟩
 have jc:=Lib.hid (ay.out.trans (az.mono ay.out.size))
 clear ay az cF
 go_wp2_with fail
 refine (ff.et _).mono ?_
 rintro e w5 ⟨rfl,bI⟩
 have nX:=Lib.hid (jc.out.trans (bI.mono jc.out.size))
 clear bI jc
 go_wp2_with fail
 refine (yh.et _).mono ?_
 rintro e w6 ⟨rfl,gG⟩
 have WL:=Lib.hid (nX.out.trans (gG.mono nX.out.size))
 clear gG nX
 go_wp2_with fail
 go_ret
 exact ⟨rfl,WL.out⟩
end Go.Proofs.YtpanebgakndddaaGreat.jj
namespace Go.Proofs.YtpanebgakndddaaGreat.jk
open Go Go.RowKit Hp K Fl Rw Hm Ar Mm Me LK Qs Wk Re ff Pn Pc Mq Pu jj
set_option maxRecDepth 100000
def Still (us:List TypeId) (w w':World):Prop:=∀ x t cs,t∉us->af w x t cs->af w' x t cs
theorem FP {S:Nat->Prop} {us:List TypeId} {w w':World} (ho:ab S w w') (hS:∀ x,S x->Ty w x us):Still us w w':=fun x t cs ht hb=>hb.only ho (fun q=>(hS x q).apart (bj hb) (fun t' h1 h2=>by
 have:t'=t:=by simpa using h2
 subst this
 exact ht h1))
structure eE (W0 w:World) (M:Mo) (A:Option Addr) (cap:Nat) (l:List Pr):Prop where
 mem:ah w M
 row:Ns w A cap l
 below:Below W0.heap.size W0 w
 kj:∀ x,ao M x->W0.heap.size<=x
 low:∀ x,In A x->W0.heap.size<=x
section
variable {W0 w w':World} {M:Mo} {A:Option Addr} {cap:Nat} {l:List Pr} {n B:Nat} {cs:Nat->List Mq.Hp} {G:Nat}
theorem eE.down (h:eE W0 w M A cap l) (hb:Below w.heap.size w w'):eE W0 w' M A cap l:=
 ⟨h.mem.below hb,h.row.only (ab.aD hb (fun _=>False)) (by simp),h.below.trans (hb.mono h.below.size),h.kj,h.low⟩
theorem eE.jl {M':Mo} {S:Nat->Prop} (h:eE W0 w M A cap l) (hM:ah w' M') (hf:∀ x,ao M' x->ao M x\/w.heap.size<=x) (ho:ab S w w') (hS:∀ x,S x->W0.heap.size<=x) (hA:∀ x,In A x->¬S x):eE W0 w' M' A cap l:=
 ⟨hM,h.row.only ho hA,h.below.trans (ho.toBelow h.below.size (fun x hx q=>by have:=hS x q; omega)),fun x hx=>by
  rcases hf x hx with q | q
  ·exact h.kj x q
  ·have:=h.below.size; omega,h.low⟩
theorem eE.apart (h:eE W0 w M A cap l) {x:Nat} (hx:In A x) {us:List TypeId} (hd:153∉us):¬Ty w x us:=fun q=>q.apart (cp h.row hx) (by
 intro t ht Di
 have:t=153:=by simpa using Di
 subst this
 exact hd ht)
theorem eE.AZ (h:eE W0 w M A cap l) {x:Nat} (hx:In A x):¬ao M x:=fun q=>h.apart hx (by decide) (h.mem.ty q)
def Nt (W0 w w':World) (M:Mo) (A:Option Addr) (cap:Nat) (lr l:List Pr) (n B G:Nat) (key val:ByteArray) (a:Qa):Prop:=
 ∃ (M':Mo) (a':Qa) (P':Pt),eE W0 w' M' A cap lr/\M'.m=M.m/\bE w' a' P'/\a'.f=a.f/\P'.cm=0/\decide (P'.W.found≠0)=(Pc.lk l key).isSome/\M'.ss.length=M.ss.length/\M'.k=M.k/\Still (yf++Bf) w w'/\
   ((gj M.ss=none/\P'.err=4/\lm M'=lm M)\/((gj M.ss).isSome/\P'.err=0/\M'.ws.length=M.ws.length+(if (Pc.lk l key).isSome then 1 else 0)/\∃ cs',∀ l',tG l l' key val->Mp (lm M') n B cs' l' (G+1)))
theorem Nu {lr:List Pr} (h:eE W0 w M A cap lr) (hm:Mp (lm M) n B cs l G) (hG:G<=1000000) {a:Qa} {hh:Nat} {i:Int} {key val:ByteArray} (hi:0<=i/\i<=1000) (hP:bE w a (jQ hh i key val)) (fQ:∀ x,iC a (jQ hh i key val) x->W0.heap.size<=x) (K:Nat) (hc:∀ b,b<n->(cs b).length+8<=K) (hK:K<=1000000):
 Calls Tryz.prog 58 #[ptr M.m,.iface 179 (ptr a.f),.int .i64 K] w fun e w'=>(∃ k:Nat,e=.returned (.tuple #[.int .i64 k,.bool true]))/\Nt W0 w w' M A cap lr l n B G key val a:=by
 have hE:=hm.rK (key:=key) (val:=val) (i:=i) (hb:=hh) hG hi
 have m7:=hc (aj key n) (dH hm.pw key).1
 refine (Nv h.mem hP hE K ⟨by omega,hK⟩).mono fun e w' q=>?_
 obtain ⟨k,s,q1,_,q3,M',a',r1,r2,r3,r4,r5,r7,r8⟩:=q
 obtain ⟨m1,m2,m3⟩:=AX hm hG hi q3
 have eW:∀ x,yg.aR a (jQ hh i key val) x->iC a (jQ hh i key val) x:=fun x q=>q
 refine ⟨⟨k,q1⟩,M',a',s.2,h.jl r1 r3.aR r8 (fun x q=>?_) (fun x hx q=>?_),r3.m,r4,r5,m2,m1,?_,?_,FP r8 (fun x q=>?_),?_⟩
 ·rcases q with q | q
  ·exact h.kj x q
  ·exact fQ x (eW x q)
 ·rcases q with q | q
  ·exact h.AZ hx q
  ·exact h.apart hx (by decide) (hP.ty (eW x q))
 ·have e:M'.ss=s.1.ss:=by rw [<-r2]
  rcases m3 with ⟨_,q2,_⟩ | ⟨_,_,_,q4,_⟩
  ·rw [e,q2]
  ·rw [e,q4]
 ·have e:M'.k=s.1.k:=by rw [<-r2]
  rcases m3 with ⟨_,q2,_⟩ | ⟨_,_,_,_,q5,_⟩
  ·rw [e,q2]
  ·rw [e,q5]
 ·rcases q with q | q
  ·exact (h.mem.ty q).mono (fun t ht=>List.mem_append_left _ ht)
  ·exact (hP.ty (eW x q)).mono (fun t ht=>List.mem_append_right _ ht)
 ·rcases m3 with ⟨q1,q2,q3⟩ | ⟨q1,q2,q3,_,_,q6⟩
  ·exact .inl ⟨q1,q3,r2.trans q2⟩
  ·refine .inr ⟨q1,q2,?_,?_⟩
   ·have e:M'.ws=s.1.ws:=by rw [<-r2]
    rw [e,q3]
   ·rw [r2]; exact q6
theorem Mt (hm:Mp (lm M) n B cs l G) (key:ByteArray) {j:Nat} (hj:(j:Int)<M.k):Gt.Ev.Ok ⟨M.ds,M.ss,M.xs,M.F,key,j,bq (cs (aj key n)),(cs (aj key n)).length⟩/\lk (bq (cs (aj key n))) key=lk l key:=by
 have wC:=hm.small
 obtain ⟨hb1,au⟩:=dH hm.pw key
 have zo:=hm.ql ax
 have mn:=hm.gB
 have eh:2+M.k<=B:=hm.kB
 have hk:1<=M.k/\M.k<=8:=hm.k
 have bA:B+n<=M.xs.length:=hm.xl
 have hc:Gt.cellOf (sm key) (Me.now M.xs M.ds)=((B+aj key n:Nat):Int):=by
  have bU:Me.now M.xs M.ds=(n,B):=hm.now
  unfold Gt.cellOf
  rw [bU]
  simp only
  rw [if_neg (by omega),au]
  omega
 refine ⟨⟨hsm.2,hm.cU,hm.tb,⟨by simp only; omega,by simp only; omega⟩,hm.xb,hm.zero j hj,?_,?_,by simp only [bq,List.length_map]; omega,by simp only; omega⟩,(hm.lk key).symm⟩
 ·unfold Gt.Ev.cell
  simp only
  rw [hc]
  omega
 ·unfold Gt.Ev.cell
  simp only
  rw [hc]
  have e:word M.xs ((B+aj key n:Nat):Int)=(Cl.nth M.xs (B+aj key n)).toNat:=by
   unfold word
   rw [if_pos (by omega),Int.toNat_natCast]
  rw [e]
  exact (hm.ch _ ax).cn
end
theorem Mp.xS {L:Lm} {n B:Nat} {cs:Nat->List Mq.Hp} {l:List Pr} {G:Nat} (h:Mp L n B cs l G):(∀ b,b<n->(cs b).length<=L.ss.length)/\(dC L.ss L.ss.length).length+L.ws.length+l.length=L.ss.length:=by
 have:=h.wr.iB
 have hl:=h.len
 refine ⟨fun b hb=>?_,by omega⟩
 have:=h.ql hb
 omega
theorem EY (ss:List Sl):gj ss=none↔(dC ss ss.length).length=0:=by
 rw [Bg]
 constructor
 ·intro h
  rw [List.length_eq_zero_iff]
  apply List.eq_nil_iff_forall_not_mem.2
  intro a ha
  obtain ⟨h1,h2⟩:=oc.1 ha
  rw [h a h1] at h2
  simp at h2
 ·intro h k hk
  by_cases ht:(ai ss k).taken=true
  ·exact ht
  ·have hm:k∈frees ss ss.length:=oc.2 ⟨hk,by simpa using ht⟩
   have:=List.length_pos_of_mem hm
   omega
theorem Nw {L:Lm} {n B N:Nat} (kY:FM.bo n=true) (hn:n<=32) (hN:N<=1024) (hk:1<=L.k/\L.k<=8) (eh:2+L.k<=B) (hB:B<=20) (nQ:∀ i,i≠0->i≠1->Cl.nth L.xs i=0) (bA:L.xs.length=B+n) (k9:∀ x∈L.xs,0<=x/\x<=18446744073709551615) (bU:Me.now L.xs L.ds=(n,B)) (aT:∀ i,i<L.ds.length->1<=(aM L.ds i).1/\(aM L.ds i).1<=32/\(aM L.ds i).2+(aM L.ds i).1<=B+n)
 (uj:L.ss=List.replicate N .zero) (sK:L.hs=List.replicate 6 (-1)) (hF:L.F=false) (jb:L.ws=[]):Mp L n B (fun _=>[]) [] 0:=by
 have ha:gn n (fun _=>([]:List Mq.Hp))=[]:=by simp [gn]
 refine ⟨hpw,bU,fun i hi=>?_,fun i=>?_,hk,eh,by omega,k9,by rw [uj]; exact yh.Bh N,fun b hb=>?_,fun b _ e he=>by simp at he,fun b _=>by simp,?_,by simp,fun key=>rfl,by rw [ha]; rfl,fun i hi=>nQ _ (by omega) (by omega),sK,hF⟩
 ·have:=aT i hi
  rw [bA]
  omega
 ·by_cases hi:i<L.ds.length
  ·have:=aT i hi
   omega
  ·rw [rO (by omega)]
   simp
 ·rw [nQ _ (by omega) (by omega)]
  exact .nil
 ·rw [ha,uj,jb]
  exact FQ N hN
theorem FR (k i:Nat) (h:i≠0):Cl.nth (1::List.replicate k 0) i=0:=by
 obtain ⟨i,rfl⟩:∃ i',i=i'+1:=⟨i-1,by omega⟩
 simp only [Cl.nth,List.getD,List.getElem?_cons_succ,List.getElem?_replicate]
 split<;>rfl
theorem uZ {w w':World} {n k:Nat} {M:Mo} (h:od w n k M w') (hn:n<=1024) (hk:1<=k/\k<=8):Mp (lm M) 1 (k+2) (fun _=>[]) [] 0:=by
 obtain ⟨hM,aU,hB,h1,h2,h3,h4,h5,h6,h7⟩:=h
 refine Nw (N:=n) (by decide) (by omega) hn (by show 1<=M.k/\M.k<=8; omega) (by show 2+M.k<=_; omega) (by omega) (fun i h0 _=>by show Cl.nth M.xs i=0; rw [h1]; exact FR _ _ h0) (by show M.xs.length=_; rw [h1]; simp) hM.2.1.2.2.1 ?_ ?_ h2 h4 h3 h7
 ·show Me.now M.xs M.ds=_
  unfold Me.now
  rw [h1,FR _ _ (by omega),h6]
  rfl
 ·intro i hi
  have hi:i<M.ds.length:=hi
  show 1<=(aM M.ds i).1/\(aM M.ds i).1<=32/\(aM M.ds i).2+(aM M.ds i).1<=k+2+1
  rw [h6] at hi ⊢
  have:i=0:=by simpa using hi
  subst this
  exact ⟨by simp [aM],by simp [aM],by simp [aM]⟩
end Go.Proofs.YtpanebgakndddaaGreat.jk
namespace Go.Proofs.YtpanebgakndddaaGreat.ld
open Go Go.RowKit Hp K Fl Rw Hm Ar Mm Me LK Qs Wk Pc Pn Mq Pu Zp Mx cK Bs Zr jk
theorem FU {S:Type} {rd:S->Bool} {st:S->S} {dn:S->Bool} (R:Nat->S->Prop) (h:∀ k s,R k s->rd s=true/\1<=k/\(dn s=true->k=1)/\(dn s=false->R (k-1) (st s))):
 ∀ K k s,R k s->k<=K->∃ s',fin rd st dn K s=(k,true,s'):=by
 intro K
 induction K with
 | zero=>
   intro k s hR hk
   have:=(h k s hR).2.1
   omega
 | succ K ih=>
   intro k s hR hk
   obtain ⟨h1,h2,h3,h4⟩:=h k s hR
   unfold fin
   rw [if_pos h1]
   cases hd:dn s with
   | true=>
     rw [if_pos rfl,h3 hd]
     exact ⟨_,rfl⟩
   | false=>
     obtain ⟨s',e⟩:=ih (k-1) (st s) (h4 hd) (by omega)
     rw [if_neg (by simp),e]
     exact ⟨s',by simp only; rw [show k-1+1=k by omega]⟩
def left (nx:Nat):Nat:=if nx<=5 then 11-nx else 12-nx
def Idle (L0:Lm) (H:List Nat) (N:mO) (s:Nat) (l:List Pr) (xs:List Int) (ds:List (Nat×Nat)) (k:Nat) (S:Lm×Rz):Prop:=
 (∃ k0,Lone L0 H N s l k0 S)/\S.1.xs=xs/\S.1.ds=ds/\S.2.size=((now xs ds).1:Int)/\1<=S.2.nx/\S.2.nx≠6/\S.2.nx<=11/\k=left S.2.nx
theorem FV {L0:Lm} {H:List Nat} {N:mO} {s:Nat} {l:List Pr} {xs:List Int} {ds:List (Nat×Nat)} {k:Nat} {S:Lm×Rz} (h:Idle L0 H N s l xs ds k S):gA S.1 S.2=true/\1<=k/\(eI S.1 S.2=true->k=1)/\(eI S.1 S.2=false->Idle L0 H N s l xs ds (k-1) (bC S.1 S.2))/\(bC S.1 S.2).1.xs=xs/\(bC S.1 S.2).1.ds=ds:=by
 obtain ⟨⟨k0,hL⟩,h1,h2,h3,h4,h5,h6,rfl⟩:=h
 obtain ⟨a1,a2,a3,a4,a5⟩:=hL.step
 have cE:1<=left S.2.nx:=by unfold left; split<;>omega
 have hx:(bC S.1 S.2).1.xs=xs/\(bC S.1 S.2).1.ds=ds/\(eI S.1 S.2=false->(bC S.1 S.2).2.size=S.2.size/\(bC S.1 S.2).2.nx=if S.2.nx=5 then 7 else S.2.nx+1):=by
  unfold bC eI
  rw [if_neg (by omega)]
  by_cases q1:S.2.nx=1
  ·rw [if_pos q1]; exact ⟨h1,h2,fun _=>⟨rfl,by rw [q1]; rfl⟩⟩
  rw [if_neg q1]
  by_cases q2:S.2.nx<=4
  ·rw [if_pos q2]; exact ⟨h1,h2,fun _=>⟨rfl,by rw [if_neg (by omega)]⟩⟩
  rw [if_neg q2]
  by_cases q3:S.2.nx=5
  ·rw [if_pos q3]
   have e:Zr.look S.1 S.2={S.2 with nx:=7}:=by unfold Zr.look; rw [h1,h2,if_pos h3.symm]
   exact ⟨h1,h2,fun _=>by rw [e]; exact ⟨rfl,by rw [if_pos q3]⟩⟩
  rw [if_neg q3,if_neg h5]
  by_cases q4:S.2.nx<=10
  ·rw [if_pos q4]; exact ⟨h1,h2,fun _=>⟨rfl,by rw [if_neg (by omega)]⟩⟩
  ·rw [if_neg q4]; exact ⟨h1,h2,fun q=>by have:=of_decide_eq_false q; omega⟩
 refine ⟨a2,cE,fun hd=>?_,fun hd=>?_,hx.1,hx.2.1⟩
 ·unfold eI at hd
  have:=of_decide_eq_true hd
  unfold left
  rw [if_neg (by omega)]
  omega
 ·obtain ⟨b1,b2,b3⟩:=hx
  obtain ⟨b4,b5⟩:=b3 hd
  have hn:¬(S.2.nx=0\/11<=S.2.nx):=of_decide_eq_false hd
  refine ⟨⟨_,a5 hd⟩,b1,b2,by rw [b4]; exact h3,?_,?_,?_,?_⟩
  ·rw [b5]; split<;>omega
  ·rw [b5]; split<;>omega
  ·rw [b5]; split<;>omega
  ·rw [b5]
   unfold left
   by_cases q:S.2.nx=5
   ·rw [if_pos q,q]; rfl
   ·rw [if_neg q]
    split<;>split<;>omega
def ki (L:Lm) (t:Nat):Prop:=L.xs.length<=10+512*t/\L.ds.length<=1+8*t/\1<=Cl.nth L.xs 0/\Cl.nth L.xs 0<=1+20000*t
theorem AV {a b:Nat} (h:2 ^ a<=2 ^ b):a<=b:=by
 rcases Nat.lt_or_ge b a with q | q
 ·have:=Nat.pow_lt_pow_right (show 1<2 by omega) q
  omega
 ·exact q
theorem x5 {n:Nat} (h:FM.bo (n:Int)=true):∃ b,b<=16/\n=2 ^ b:=by
 obtain ⟨b,hb,e⟩:=(FM.Bl _).1 h
 exact ⟨b,hb,by exact_mod_cast e⟩
theorem FW {b:Nat} (h:2 ^ b<=256):b<=8:=AV (b:=8) h
theorem Mu (few n s:Nat) (hf:few<=30) (hn:FM.bo (n:Int)=true) (hs:FM.bo (s:Int)=true) (jr:n<=256) (oO:s<=256):∃ c x t a,nt few s n c x t a/\c<=19900/\x<=512/\t<=8/\a<=30*256:=by
 obtain ⟨b,hb,rfl⟩:=x5 hn
 obtain ⟨k,hk,rfl⟩:=x5 hs
 have oN:=FW jr
 have Df:=FW oO
 by_cases h:b<=k
 ·obtain ⟨c,x,hu⟩:=AW few k hk (k-b) b (by omega)
  obtain ⟨e1,e2,e3⟩:=hu.eqs
  have m1:(k-b)*(15+12*few)<=8*375:=Nat.mul_le_mul (by omega) (by omega)
  have m2:(2*few+4)*2 ^ k<=64*256:=Nat.mul_le_mul (by omega) oO
  exact ⟨c,x,k-b,0,.inl hu,by omega,by omega,by omega,by omega⟩
 ·obtain ⟨c,x,a,hu⟩:=Fp few k (b-k) b (by omega) hb
  obtain ⟨e1,e2,e3,e4⟩:=hu.eqs
  have m1:(b-k)*14<=8*14:=Nat.mul_le_mul_right _ (by omega)
  have m2:(few+4)*2 ^ b<=34*256:=Nat.mul_le_mul (by omega) jr
  have m3:few*2 ^ b<=30*256:=Nat.mul_le_mul hf jr
  have m4:x<=2 ^ b:=Nat.le.intro e2
  exact ⟨c,x,b-k,a,.inr hu,by omega,by omega,by omega,by omega⟩
section
variable {W0 w:World} {M:Mo} {n B:Nat} {cs:Nat->List Mq.Hp} {l:List Pr} {G:Nat}
def NI (W0 w w':World) (M:Mo) (l:List Pr) (s G t:Nat) (i:Int) (a:Zr.Ra) (k n:Nat):Prop:=
 ∃ (M':Mo) (a':Zr.Ra) (R':Rz) (B':Nat) (cs':Nat->List Mq.Hp),eE W0 w' M' none 0 []/\M'.m=M.m/\dk.At w' a' R'/\dk.f a'=dk.f a/\R'.err=0/\Mp (lm M') s B' cs' l G/\M'.ss.length=M.ss.length/\M'.k=M.k/\M'.ws=M.ws/\ki (lm M') (t+1)/\(n=s->k=10/\M'.xs.length=M.xs.length)/\ab (fun x=>ao M x\/dk.aR a (bR i s) x) w w'/\∀ x,dk.aR a' R' x->dk.aR a (bR i s) x\/w.heap.size<=x
theorem NJ {t:Nat} (h:eE W0 w M none 0 []) (hm:Mp (lm M) n B cs l G) (hG:G<=1000000) (hl:l.length<=30) (fX:ki (lm M) t) (ht:t<=11) {s:Nat} (hs:FM.bo (s:Int)=true) {c x tt ca:Nat} (hw:nt l.length s n c x tt ca) (hc:c<=19900) (hx:x<=512) (wA:tt<=8) (sJ:ca<=30*256) (K:Nat) (hK:c+10<=K/\K<=1000000) {a:Zr.Ra} {i:Int} (hi:0<=i/\i<=1000) (hP:dk.At w a (bR i s)) (fQ:∀ x,dk.aR a (bR i s) x->W0.heap.size<=x):
 Calls Tryz.prog 58 #[ptr M.m,.iface 137 (ptr (dk.f a)),.int .i64 K] w fun e w'=>∃ k:Nat,e=.returned (.tuple #[.int .i64 k,.bool true])/\NI W0 w w' M l s G t i a k n:=by
 obtain ⟨u1,u2,u3,u4⟩:=fX
 have v1:M.xs.length<=10+512*t:=u1
 have v2:M.ds.length<=1+8*t:=u2
 have uo:=Fj hm hG u3 (by omega) (by omega) (cap:=1000) ⟨by omega,by omega⟩
 have wB:=Zr.Mp.lU hm
 have nN:nt (o9 n B 1000 cs).few s (o9 n B 1000 cs).n c x tt ca:=by
  show nt (flat n cs).length s n c x tt ca
  rw [wB]
  exact hw
 have bL:bR i s=⟨i,s,1,0,.none⟩:=by unfold bR; rw [if_pos hs]
 have m8:Lone (lm M) (bG n cs) ⟨10+512*(t+1),1+8*(t+1),1+20000*((t:Int)+1)⟩ s l (c+10) (lm M,bR i s):=by
  refine ⟨.rest (o9 n B 1000 cs),fun _ _ _=>True,c+10,ca,Nat.le_refl _,uo,⟨⟨by rw [bL]; exact hi,by rw [bL],by rw [bL],Zr.Kp.refl _,by show M.hs.length=6; have:M.hs=List.replicate 6 (-1):=hm.hs; rw [this]; simp,fun j a b=>?_,?_,⟨by simp only; omega,by simp only; omega,by simp only; omega⟩,List.Perm.refl _⟩,.take (o9 n B 1000 cs) c x tt ca (by rw [bL]; exact ⟨Nat.le_refl _,by simp⟩) nN (by rw [bL]; simp only; omega) (Nat.le_refl _) (by show 1000+ca<=_; omega) (by simp only; omega) (by simp only; omega)⟩,hm.zero⟩
  ·have:M.hs=List.replicate 6 (-1):=hm.hs
   show Lo.aE M.hs j=dw (bR i s).nx (bR i s).worker j
   rw [bL,this]
   unfold dw Lo.aE
   simp only [List.getD_eq_getElem?_getD,List.getElem?_replicate]
   rw [if_pos (by omega)]
   by_cases q:j=5
   ·rw [if_pos q]; rfl
   ·rw [if_neg q,if_neg (by omega)]; rfl
  ·show Cl.nth (lm M).xs 0+_<=1+20000*((t:Int)+1)
   omega
 have eL:=mM ot h.mem hP (Lone (lm M) (bG n cs) ⟨10+512*(t+1),1+8*(t+1),1+20000*((t:Int)+1)⟩ s l) (fun S=>Qr (lm M) (bG n cs) ⟨10+512*(t+1),1+8*(t+1),1+20000*((t:Int)+1)⟩ s l S.1 S.2/\∀ i:Nat,(i:Int)<S.1.k->Cl.nth S.1.xs (2+i)=0) (fun k S hS=>hS.step) (c+10) K m8 hK.1 hK.2
 refine eL.mono fun e w' q=>?_
 obtain ⟨k,S,q1,⟨q2,q3⟩,⟨⟨Y,r1,r2,r3,r4,r5,r6,r7,r8,r9,r10⟩,r11⟩,M',a',g1,g2,g3,g4,g5,g6,g7⟩:=q
 refine ⟨k,q1,M',a',S.2,Y.B,Y.cs,h.jl g1 g3.aR g7 (fun x q=>?_) (fun x hx=>by simp [In] at hx),g3.m,g4,g5,r3,?_,?_,?_,?_,?_,fun U7=>?_,g7,g6⟩
 ·rcases q with q | q
  ·exact h.kj x q
  ·exact fQ x q
 ·have:=Zr.Fm hm r1 r7 r6 r11 r5 r4
  rw [r2] at this
  rw [g2]
  exact this
 ·have:(lm M').ss=S.1.ss:=by rw [g2]
  have e:M'.ss=S.1.ss:=this
  rw [e]; exact r6.ss
 ·have:(lm M').k=S.1.k:=by rw [g2]
  have e:M'.k=S.1.k:=this
  rw [e]; exact r6.k
 ·have:(lm M').ws=S.1.ws:=by rw [g2]
  have e:M'.ws=S.1.ws:=this
  rw [e]; exact r6.ws
 ·rw [g2]
  refine ⟨r9,r10,r1.base.p1,?_⟩
  have:((t+1:Nat):Int)=(t:Int)+1:=by omega
  rw [this]
  exact r8
 ·subst U7
  have Jw:Idle (lm M) (bG n cs) ⟨10+512*(t+1),1+8*(t+1),1+20000*((t:Int)+1)⟩ n l M.xs M.ds 10 (lm M,bR i n):=by
   have bU:Me.now M.xs M.ds=(n,B):=hm.now
   exact ⟨⟨_,m8⟩,rfl,rfl,by rw [bL,bU],by rw [bL]; simp,by rw [bL]; simp,by rw [bL]; simp,by rw [bL]; rfl⟩
  obtain ⟨S',gS⟩:=FU (rd:=fun s:Lm×Rz=>gA s.1 s.2) (st:=fun s=>bC s.1 s.2) (dn:=fun s=>eI s.1 s.2) (Idle (lm M) (bG n cs) ⟨10+512*(t+1),1+8*(t+1),1+20000*((t:Int)+1)⟩ n l M.xs M.ds) (fun k S hS=>by obtain ⟨a1,a2,a3,a4,_,_⟩:=FV hS; exact ⟨a1,a2,a3,a4⟩) K 10 _ Jw (by omega)
  obtain ⟨n9,S9,e9,_,U8⟩:=FX (rd:=fun s:Lm×Rz=>gA s.1 s.2) (st:=fun s=>bC s.1 s.2) (dn:=fun s=>eI s.1 s.2) (Idle (lm M) (bG n cs) ⟨10+512*(t+1),1+8*(t+1),1+20000*((t:Int)+1)⟩ n l M.xs M.ds) (fun S=>S.1.xs=M.xs) (fun k S hS=>by obtain ⟨a1,a2,a3,a4,a5,_⟩:=FV hS; exact ⟨a1,a2,fun _=>a5,a4⟩) K 10 _ Jw (by omega)
  rw [q3] at gS e9
  injection gS with e1 e2
  injection e9 with e3 e4
  injection e4 with _ e5
  refine ⟨e1,?_⟩
  have:(lm M').xs=S.1.xs:=by rw [g2]
  have e:M'.xs=S.1.xs:=this
  rw [e,e5,U8]
def NK (W0 w w':World) (M:Mo) (a:Zr.Ra) (i z:Int):Prop:=
 ∃ (M':Mo) (a':Zr.Ra) (R':Rz),eE W0 w' M' none 0 []/\M'.m=M.m/\dk.At w' a' R'/\dk.f a'=dk.f a/\R'.err=5/\lm M'=lm M/\ab (fun x=>ao M x\/dk.aR a (bR i z) x) w w'
theorem NL (h:eE W0 w M none 0 []) (hm:Mp (lm M) n B cs l G) {z:Int} (hz:FM.bo z=false) {a:Zr.Ra} {i:Int} (hP:dk.At w a (bR i z)) (fQ:∀ x,dk.aR a (bR i z) x->W0.heap.size<=x) (K:Nat) (hK:1<=K/\K<=1000000):
 Calls Tryz.prog 58 #[ptr M.m,.iface 137 (ptr (dk.f a)),.int .i64 K] w fun e w'=>e=.returned (.tuple #[.int .i64 1,.bool true])/\NK W0 w w' M a i z:=by
 have bL:bR i z=⟨i,z,0,0,.none⟩:=by unfold bR; rw [if_neg (by rw [hz]; simp)]
 have eh:2+M.k<=B:=hm.kB
 have hk:1<=M.k/\M.k<=8:=hm.k
 have bA:B+n<=M.xs.length:=hm.xl
 have sK:M.hs=List.replicate 6 (-1):=hm.hs
 have fk:oo (lm M) (bR i z):=⟨by rw [bL]; simp,by show 1<M.xs.length; omega,by show M.hs.length=6; rw [sK]; simp,fun q=>absurd (by rw [bL]) q,fun j=>(hm.tb j).1,fun q=>by rw [bL] at q; simp at q,fun q=>by rw [bL] at q; simp at q,fun q=>by rw [bL] at q; simp at q⟩
 have bs:bC (lm M) (bR i z)=(lm M,{bR i z with err:=5,nx:=12}):=by unfold bC; rw [if_pos (by rw [bL])]
 have eK:gA (lm M) (bR i z)=true:=by unfold gA; rw [bL]; simp
 have cq:eI (lm M) (bR i z)=true:=by unfold eI; rw [bL]; simp
 refine (mM ot h.mem hP (fun k S=>k=1/\S=(lm M,bR i z)) (fun S=>S=(lm M,{bR i z with err:=5,nx:=12})) (fun k S hS=>by
  obtain ⟨rfl,rfl⟩:=hS
  exact ⟨hok,eK,Nat.le_refl _,fun _=>bs,fun q=>by rw [cq] at q; simp at q⟩) 1 K ⟨rfl,rfl⟩ hK.1 hK.2).mono fun e w' q=>?_
 obtain ⟨k,S,q1,⟨q2,q3⟩,q4,M',a',g1,g2,g3,g4,g5,g6,g7⟩:=q
 obtain ⟨S',gS⟩:=FU (rd:=fun s:Lm×Rz=>gA s.1 s.2) (st:=fun s=>bC s.1 s.2) (dn:=fun s=>eI s.1 s.2) (fun k S=>k=1/\S=(lm M,bR i z)) (fun k S hS=>by
  obtain ⟨rfl,rfl⟩:=hS
  exact ⟨hrd,Nat.le_refl _,fun _=>rfl,fun q=>by rw [cq] at q; simp at q⟩) K 1 (lm M,bR i z) ⟨rfl,rfl⟩ hK.1
 rw [q3] at gS
 injection gS with e1 _
 rw [e1] at q1
 rw [q4] at g2 g4
 refine ⟨q1,M',a',_,h.jl g1 g3.aR g7 (fun x q=>?_) (fun x hx=>by simp [In] at hx),g3.m,g4,g5,rfl,g2,g7⟩
 rcases q with q | q
 ·exact h.kj x q
 ·exact fQ x q
end
end Go.Proofs.YtpanebgakndddaaGreat.ld
namespace Go.Proofs.YtpanebgakndddaaGreat.FT
open Go Go.RowKit Hp K Fl Rw Hm Ar Mm Me LK Ta ff
set_option maxRecDepth 100000
theorem yC {W0 a b:World} {M:Mo} {f:Nat} (ha:Below W0.heap.size W0 a) (aU:∀ x,ao M x->W0.heap.size<=x) (hf:W0.heap.size<=f) (ho:ab (fun x=>ao M x\/x=f) a b):Below W0.heap.size W0 b:=
 ha.trans (ho.toBelow ha.size (fun x hx q=>by
  rcases q with q | q
  ·have:=aU x q; omega
  ·omega))
theorem Qj (f:Nat):fin (lz [(1,3)]) (dt [1,0,0,0] [(1,3)]) (iG [1,0,0,0]) 9 (List.replicate 6 (-1),(⟨f,0,7,1,0,(0,0),0,false⟩:Ho))=(3,true,[-1,0, -1, -1, -1, -1],⟨f,0,7,5,0,(1,3),1,true⟩):=by
 have e:fz 7 (1,3)=1:=by simp [fz,FM.bucket,FM.bo]
 simp [fin,lz,dt,iG,aM,e,Cl.nth,Lo.aE,List.replicate]
set_option maxHeartbeats 1000000 in
theorem et (w:World):Calls Tryz.prog 112 #[] w fun e w'=>e=.returned (.bool true)/\Below w.heap.size w w':=by
 have hN:=Lib.hid (mI 1 1 w (by omega) (by omega))
 go_enter Tryz.func112,Tryz.ntmps112
 go_wp2_with fail
 refine hN.out.mono ?_
 rintro e w1 ⟨M,rfl,hM,aU,hB,h1,h2,h3,h4,h5,h6,h7⟩
 clear hN
 have hE:=Lib.hid (Hd 0 7 w1)
 replace hM:=Lib.hid hM
 replace aU:=Lib.hid aU
 replace hB:=Lib.hid hB
 replace h1:=Lib.hid h1
 replace h4:=Lib.hid h4
 replace h6:=Lib.hid h6
 clear h2 h3 h7 h5
 go_wp2_with fail
 refine hE.out.mono ?_
 rintro e w2 ⟨rfl,gI,ag⟩
 have aB:=hM.out.below ag
 have dK:w.heap.size<=w1.heap.size:=hB.out.size
 have fJ:=Lib.hid (hB.out.trans (ag.mono dK))
 have hF:=Qk aB gI (by rw [h1.out,h4.out,h6.out]; exact ⟨by simp,by simp,by simp,by simp,by simp,by decide,fun i=>by cases i<;>simp [aM],by simp,by simp,by simp⟩) 9 (by omega)
 rw [h1.out,h4.out,h6.out,show (1:Int)::List.replicate (1+2) 0=[1,0,0,0] from rfl,show (1:Nat)+2=3 from rfl,Qj] at hF
 replace hF:=Lib.hid hF
 clear hM hE ag gI aB hB
 generalize w1.heap.size=f at*
 replace dK:=Lib.hid dK
 go_wp2_with fail
 refine hF.out.mono ?_
 rintro e w3 ⟨rfl,br,te,_,aq⟩
 simp only at br te
 have ay:=Lib.hid (yC fJ.out aU.out dK.out aq)
 replace br:=Lib.hid br
 replace te:=Lib.hid te
 clear hF aq fJ
 go_wp2_with fail
 refine (yD.et w3).mono ?_
 rintro e w4 ⟨rfl,az⟩
 have dS:=br.out.below az
 have jz:=te.out.below az
 have jc:=ay.out.trans (az.mono ay.out.size)
 have uN:=He jz
 have gW:=Lib.hid (Ql jz)
 simp only [if_true] at uN
 unfold dv at uN
 replace uN:=Lib.hid uN
 have dn:=Cd
 replace dS:=Lib.hid dS
 replace jz:=Lib.hid jz
 replace jc:=Lib.hid jc
 clear br te ay az
 go_wp2_with (first
  | (go_at_call 147; refine gW.out.mono ?_; rintro e w' ⟨rfl,hw⟩; obtain rfl:w4=w':=hw.symm))
 refine uN.out.mono ?_
 rintro e w5 ⟨rfl,bI⟩
 have gV:=dS.out.below bI
 have uO:=jz.out.below bI
 have nX:=jc.out.trans (bI.mono jc.out.size)
 have d1:=gV.hd.2.1
 simp only at d1
 have J8:=Lib.hid (Lo.tw gV.2.2.1 1 (by simp))
 have J9:=Lib.hid (Hf gV uO ⟨by simp,by simp,by simp,by show 1<M.xs.length; rw [h1.out]; simp,by simp,by show (aM M.ds 0).1<=65536; rw [h6.out]; simp [aM]⟩ (by simp) (by simp [Lo.aE]) rfl)
 have DT:w.heap.size<=f:=dK.out
 replace DT:=Lib.hid DT
 replace gV:=Lib.hid gV
 replace nX:=Lib.hid nX
 clear dS jz jc bI uN gW uO
 go_wp2_with (go_at_call 97; refine J8.out.mono ?_; rintro e w' ⟨rfl,hw⟩; obtain rfl:w5=w':=hw.symm)
 refine J9.out.mono ?_
 rintro e w6 ⟨rfl,ja,VK,fo⟩
 have gG:=Lib.hid (yC nX.out aU.out DT.out fo)
 have d2:=ja.hd.2.1
 simp only at d2
 have VL:=Lib.hid (Lo.tw ja.2.2.1 1 (by simp))
 clear ja VK fo J9 d1 J8
 go_wp2_with (go_at_call 97; refine VL.out.mono ?_; rintro e w' ⟨rfl,hw⟩; obtain rfl:w6=w':=hw.symm)
 go_ret
 exact ⟨rfl,gG.out⟩
end Go.Proofs.YtpanebgakndddaaGreat.FT
namespace Go.Proofs.YtpanebgakndddaaGreat.jk
open Go Go.RowKit Hp K Fl Rw Hm Ar Mm Me LK Qs Wk Re ff Pn Pc Mq Pu jj
set_option maxRecDepth 100000
abbrev kA:ByteArray:=⟨#[97]⟩
abbrev kB:ByteArray:=⟨#[98]⟩
abbrev vX:ByteArray:=⟨#[120]⟩
def qx (j:Nat):ByteArray:=if j=1 then kB else kA
def kP (j:Nat):List Pr:=if j=0 then [] else [(kA,vX)]
def qy (W0 w:World) (m j:Nat):Prop:=∃ (M:Mo) (cs:Nat->List Mq.Hp) (G:Nat),eE W0 w M none 0 []/\M.m=m/\Mp (lm M) 1 3 cs (kP j) G/\G<=j/\M.ss.length=1/\M.ws.length=0
theorem Nx:kA≠kB:=by
 intro e
 have:=congrArg ByteArray.data e
 simp at this
theorem qy.down {W0 w w':World} {m j:Nat} (h:qy W0 w m j) (hb:Below w.heap.size w w'):qy W0 w' m j:=by
 obtain ⟨M1,cs,G,hS,r⟩:=h
 exact ⟨M1,cs,G,hS.down hb,r⟩
def tH (j:Nat):Int:=if j=0 then 0 else 4
def rP (j:Nat):Bool:=decide (j=2)
theorem Ny:tH 0=0:=rfl
theorem Nz:tH 1=4:=rfl
theorem NA:tH 2=4:=rfl
theorem NB:rP 0=false:=rfl
theorem NC:rP 1=false:=rfl
theorem ND:rP 2=true:=rfl
def NF (W0 w0 w:World) (a:Qa) (m j:Nat):Prop:=∃ (a':Qa) (P:Pt),Still (yf++Bf) w0 w/\qy W0 w m (j+1)/\bE w a' P/\a'.f=a.f/\P.err=tH j/\decide (P.W.found≠0)=rP j
theorem NG {W0 w:World} {m j:Nat} (hj:j<3) (h:qy W0 w m j) {a:Qa} {hh:Nat} (hP:bE w a (jQ hh 0 (qx j) vX)) (fQ:∀ x,iC a (jQ hh 0 (qx j) vX) x->W0.heap.size<=x):
 Calls Tryz.prog 58 #[ptr m,.iface 179 (ptr a.f),.int .i64 50] w fun e w'=>(∃ k:Nat,e=.returned (.tuple #[.int .i64 k,.bool true]))/\NF W0 w w' a m j:=by
 obtain ⟨M,cs,G,hS,rfl,hm,hG,hl,sP⟩:=h
 have hq:=Mp.xS hm
 have cD:(lm M).ss.length=1:=hl
 refine (Nu hS hm (by omega) (by omega) hP fQ 50 (fun b hb=>by have:=hq.1 b hb; omega) (by omega)).mono fun e w' q=>⟨q.1,?_⟩
 obtain ⟨M',a',P',h1,h2,h3,h4,h5,h6,h7,h8,bs,h9⟩:=q.2
 have bZ:=EY M.ss
 have U0:(dC M.ss M.ss.length).length+M.ws.length+(kP j).length=M.ss.length:=hq.2
 by_cases j0:j=0
 ·subst j0
  rcases h9 with ⟨q1,_⟩ | ⟨q1,q2,q3,cs',q4⟩
  ·exfalso
   have:=bZ.1 q1
   simp only [kP,if_true,List.length_nil] at U0
   omega
  ·refine ⟨a',P',bs,⟨M',cs',G+1,h1,h2,?_,by omega,by omega,by rw [q3,sP]; simp [kP,Pc.lk]⟩,h3,h4,by simpa [tH] using q2,?_⟩
   ·refine q4 _ ⟨by simp [kP],fun k=>?_,by simp [kP,Pc.lk]⟩
    simp only [kP,qx,Pc.lk]
    by_cases e:k=kA
    ·simp [e,Pc.lk]
    ·have e':¬kA=k:=fun q=>e q.symm
     simp [e,e',Pc.lk]
   ·rw [h6]
    simp [kP,Pc.lk,rP]
 ·have lI:gj M.ss=none:=by
   rw [bZ]
   have:(kP j).length=1:=by simp [kP,j0]
   omega
  rcases h9 with ⟨_,q2,q3⟩ | ⟨q1,_⟩
  ·refine ⟨a',P',bs,⟨M',cs,G,h1,h2,?_,by omega,by omega,by have e:M'.ws=M.ws:=congrArg Lm.ws q3; rw [e]; exact sP⟩,h3,h4,by unfold tH; rw [if_neg j0]; exact q2,?_⟩
   ·rw [q3]
    have:kP (j+1)=kP j:=by simp [kP,j0]
    rw [this]
    exact hm
   ·rw [h6]
    have U1:j=1\/j=2:=by omega
    rcases U1 with rfl | rfl
    ·simp [kP,qx,Pc.lk,Nx,rP]
    ·simp [kP,qx,Pc.lk,rP]
  ·rw [lI] at q1
   simp at q1
set_option maxHeartbeats 2000000 in
theorem et (w:World):Calls Tryz.prog 83 #[] w fun e w'=>e=.returned (.bool true)/\Below w.heap.size w w':=by
 have hN:=Lib.hid (mI 1 1 w (by omega) (by omega))
 go_enter Tryz.func83,Tryz.ntmps83
 go_wp2_with fail
 refine hN.out.mono ?_
 rintro e w1 ⟨M,rfl,fS⟩
 have kW:=uZ fS (by omega) (by omega)
 obtain ⟨hM,aU,hB,h1,h2,h3,h4,h5,h6,h7⟩:=fS
 have hI:qy w w1 M.m 0:=⟨M,_,0,⟨hM,Row.nil _ _ _ _,hB,aU,by simp [In]⟩,rfl,kW,by omega,by rw [h2]; simp,by rw [h7]; rfl⟩
 obtain ⟨w2,bl⟩:∃ w2,w2=w1.alloc (.cells #[.string kA,.string kB,.string kA] 9):=⟨_,rfl⟩
 have zq:af w2 w1.heap.size 9 #[.string kA,.string kB,.string kA]:=by rw [bl]; exact af.made w1 _ _
 have nR:qy w w2 M.m 0:=by
  obtain ⟨M1,cs,G,hS,r⟩:=hI
  exact ⟨M1,cs,G,hS.down (by rw [bl]; exact (Below.refl _ _).alloc (Nat.le_refl _) _),r⟩
 have dK:=hB.size
 generalize M.m=m at*
 clear hN hM aU hB h1 h2 h3 h4 h5 h6 h7 kW hI
 go_upto_region 5 with (fail)
 rw [<-bl]
 clear bl
 generalize w1.heap.size=sb at*
 have H0:=Lib.hid (And.intro nR zq)
 clear nR zq
 go_wp2_with fail
 go_loopw [12] (fun c wr=>∃ j:Nat,j<=3/\c=.int .i64 j/\qy w wr m j/\af wr sb 9 #[.string kA,.string kB,.string kA]) (fun c _=>3-(intOf c).toNat)
 case atStart=>exact ⟨0,by omega,rfl,H0.out.1,H0.out.2⟩
 case round=>
  obtain ⟨j,hj,rfl,hI,hQ⟩:=lD
  clear H0
  have l1:(qx j).size<=maxLen:=by unfold qx; split<;>(simp only [maxLen]; decide)
  have fA:=Lib.hid (Pu.mN 0 (qx j) vX l1 wr)
  have aU:w.heap.size<=wr.heap.size:=by
   obtain ⟨_,_,_,hS,_⟩:=hI
   exact hS.below.size
  have HI:=Lib.hid hI
  have HQ:=Lib.hid hQ
  have c0:=hQ.cell 0
  have c1:=hQ.cell 1
  have c2:=hQ.cell 2
  have pR:=hQ.lt
  simp at c0 c1 c2
  clear hI hQ l1
  have sL:j=0\/j=1\/j=2\/j=3:=by omega
  rcases sL with rfl | rfl | rfl | rfl
  case' inr.inr.inr=>
   have hB:=Lib.hid (show Below w.heap.size w wr from by obtain ⟨_,_,_,hS,_⟩:=HI.out; exact hS.below)
   have U2:=Lib.hid (fun w=>FT.et w)
   have U3:=Lib.hid (fun w=>jj.et w)
   clear HI HQ c0 c1 c2 fA pR
   go_wp2_with fail
   refine (U2.out _).mono ?_
   rintro e w3 ⟨rfl,ay⟩
   have jL:=Lib.hid (hB.out.trans (ay.mono hB.out.size))
   clear hB ay
   go_wp2_with fail
   refine (U3.out _).mono ?_
   rintro e w4 ⟨rfl,az⟩
   have jc:=Lib.hid (jL.out.trans (az.mono jL.out.size))
   clear jL az
   go_wp2_with fail
   go_ret
   exact ⟨rfl,jc.out⟩
  all_goals
   go_wp2_with fail
   refine fA.out.mono ?_
   rintro e w3 ⟨a,hh,rfl,bg,mo,ay⟩
   have Dj:=HQ.out.only (ab.aD ay (fun _=>False)) (by simp)
   have hF:=Lib.hid (NG (by omega) (HI.out.down ay) bg (fun x hx=>Nat.le_trans aU (mo x hx)))
   replace Dj:=Lib.hid Dj
   clear fA HI HQ bg mo c0 c1 c2
   go_wp2_with fail
   refine hF.out.mono ?_
   rintro e w4 ⟨⟨k4,rfl⟩,a',P,bs,zr,jM,ea,he,hd⟩
   have U4:=Lib.hid (bs sb _ _ (by decide) Dj.out)
   clear bs
   have hE:=qt jM
   rw [he,ea] at hE
   have hH:=ve jM
   rw [hd,ea] at hH
   simp only [Ny,Nz,NA,NB,NC,ND] at hE hH
   replace hE:=Lib.hid hE
   replace hH:=Lib.hid hH
   replace zr:=Lib.hid zr
   clear hF jM he hd ea
   go_wp2_with fail
   refine hE.out.mono ?_
   rintro e w' ⟨rfl,rfl⟩
   go_wp2_with fail
   refine hE.out.mono ?_
   rintro e w' ⟨rfl,rfl⟩
   go_wp2_with fail
   refine hH.out.mono ?_
   rintro e w5 ⟨rfl,bI⟩
   have U5:=Lib.hid (zr.out.down bI)
   have U6:=Lib.hid (U4.out.only (ab.aD bI (fun _=>False)) (by simp))
   clear hE hH zr bI
   go_wp2_with fail
   go_roundw
   case rel=>exact ⟨_,by omega,by go_num,U5.out,U6.out⟩
   case measure=>simp [intOf]; try omega
end Go.Proofs.YtpanebgakndddaaGreat.jk
namespace Go.Proofs.YtpanebgakndddaaGreat.mG
open Go Go.RowKit Hp K Fl Rw Hm Ar Mm Me LK Qs Wk Re ff Pn Pc Mq Pu jj jk Dl
set_option maxRecDepth 100000
section
variable {L:Lm} {n B:Nat} {cs:Nat->List Mq.Hp} {l l':List Pr} {G:Nat} {key val:ByteArray} {i:Int} {hb:Nat}
theorem xZ (h:Mp L n B cs l G) {W:Wa} (hf:fG (Mp.ep L n B cs key val i hb) W) (hz:W.found=0->W.nd=.zero):W.nd.val=(Pc.lk l key).getD ⟨#[]⟩:=by
 have hq:=hf
 rw [h.lk]
 rcases hf with ⟨h0,hk,_⟩ | ⟨pre,x,p,t,z,k,hq,hp,hx,hk,bB,hW,hc,jq⟩
 ·have:Pc.lk (bq (cs (aj key n))) key=none:=nu.2 (by simpa using hk)
  rw [this,hz h0]
  rfl
 ·have hm:p∈prs (cs (aj key n)):=by
   have hq:cs (aj key n)=_:=hq
   rw [hq]
   simp
  have hp:p.1=key:=hp
  have hn:((bq (cs (aj key n))).map (·.1)).Nodup:=by
   rw [tz]
   exact h.kd _ (dH h.pw key).1
  have:=vh hn hm
  rw [hp] at this
  rw [this,hW]
  rfl
end
def I3 (W0 w w':World) (M:Mo) (A:Option Addr) (cap:Nat) (lr l:List Pr) (n B G:Nat) (key:ByteArray) (a:Qa):Prop:=
 ∃ (M':Mo) (a':Qa) (D':Dt),eE W0 w' M' A cap lr/\M'.m=M.m/\cz w' a' D'/\a'.f=a.f/\D'.cm=0/\decide (D'.W.found≠0)=(Pc.lk l key).isSome/\D'.W.nd.val=(Pc.lk l key).getD ⟨#[]⟩/\M'.ss.length=M.ss.length/\M'.k=M.k/\Still (yf++FE) w w'/\
   M'.ws.length=M.ws.length+(if (Pc.lk l key).isSome then 1 else 0)/\∃ cs',∀ l',tW l l' key->Mp (lm M') n B cs' l' G
theorem Ur {W0 w:World} {M:Mo} {A:Option Addr} {cap:Nat} {l lr:List Pr} {n B:Nat} {cs:Nat->List Mq.Hp} {G:Nat} (h:eE W0 w M A cap lr) (hm:Mp (lm M) n B cs l G) (hG:G<=1000000) {a:Qa} {hh:Nat} {i:Int} {key:ByteArray} (hi:0<=i/\i<=1000) (hP:cz w a (kl hh i key)) (fQ:∀ x,gC a (kl hh i key) x->W0.heap.size<=x) (K:Nat) (hc:∀ b,b<n->(cs b).length+8<=K) (hK:K<=1000000):
 Calls Tryz.prog 58 #[ptr M.m,.iface 164 (ptr a.f),.int .i64 K] w fun e w'=>(∃ (k:Nat) (s:Lm×Dt),e=.returned (.tuple #[.int .i64 k,.bool true])/\fin (fun s:Lm×Dt=>fN s.1 s.2) (fun s=>aN s.1 s.2) (fun s=>iV s.1 s.2) K (lm M,kl hh i key)=(k,true,s))/\I3 W0 w w' M A cap lr l n B G key a:=by
 have hE:=hm.rK (key:=key) (val:=⟨#[]⟩) (i:=i) (hb:=hh) hG hi
 have m7:=hc (aj key n) (dH hm.pw key).1
 refine (Nq h.mem hP hE K ⟨by omega,hK⟩).mono fun e w' q=>?_
 obtain ⟨k,s,q1,⟨_,q2⟩,⟨W,hf,hz,rfl⟩,M',a',r1,r2,r3,r4,r5,r7,r8⟩:=q
 obtain ⟨m1,m2,m3,cs',m4⟩:=AY hm hf
 have hd:lm M'=gL (lm M) (B+aj key n) W:=r2
 refine ⟨⟨k,_,q1,q2⟩,M',a',_,h.jl r1 r3.aR r8 (fun x q=>?_) (fun x hx q=>?_),r3.m,r4,r5,rfl,vj hm hf,xZ hm hf hz,?_,?_,FP r8 (fun x q=>?_),?_,cs',?_⟩
 ·rcases q with q | q
  ·exact h.kj x q
  ·exact fQ x q
 ·rcases q with q | q
  ·exact h.AZ hx q
  ·exact h.apart hx (by decide) (hP.ty q)
 ·have e:M'.ss=(lm M').ss:=rfl
  rw [e,hd,m2]
 ·have e:M'.k=(lm M').k:=rfl
  rw [e,hd,m3]
 ·rcases q with q | q
  ·exact (h.mem.ty q).mono (fun t ht=>List.mem_append_left _ ht)
  ·exact (hP.ty q).mono (fun t ht=>List.mem_append_right _ ht)
 ·have e:M'.ws=(lm M').ws:=rfl
  rw [e,hd,m1]
 ·rw [hd]
  exact m4
def L0:Lm:=⟨[1,0,0,0],List.replicate 6 (-1),[.zero],false,1,[(1,3)],[]⟩
theorem Us (h k:Nat) (s:Lm×Dt) (e:fin (fun s:Lm×Dt=>fN s.1 s.2) (fun s=>aN s.1 s.2) (fun s=>iV s.1 s.2) 50 (L0,kl h 0 kA)=(k,true,s)):k=5:=by
 have:(fin (fun s:Lm×Dt=>fN s.1 s.2) (fun s=>aN s.1 s.2) (fun s=>iV s.1 s.2) 50 (L0,kl h 0 kA)).1=5:=by kernel_rfl
 rw [e] at this
 exact this
set_option maxHeartbeats 2000000 in
theorem et (w:World):Calls Tryz.prog 60 #[] w fun e w'=>e=.returned (.bool true)/\Below w.heap.size w w':=by
 have hN:=Lib.hid (mI 1 1 w (by omega) (by omega))
 have hA:=Lib.hid (fun w=>jk.et w)
 have lA:kA.size<=maxLen:=by simp only [maxLen]; decide
 have KT:=Lib.hid (fun w=>Dl.mN 0 kA lA w)
 clear lA
 go_enter Tryz.func60,Tryz.ntmps60
 go_wp2_with fail
 refine hN.out.mono ?_
 rintro e w1 ⟨M,rfl,fS⟩
 have kW:=uZ fS (by omega) (by omega)
 obtain ⟨hM,aU,hB,h1,h2,h3,h4,h5,h6,h7⟩:=fS
 have hL:lm M=L0:=by
  unfold lm L0
  rw [h1,h2,h3,h4,h5,h6,h7]
  rfl
 have hS:eE w w1 M none 0 []:=⟨hM,Row.nil _ _ _ _,hB,aU,by simp [In]⟩
 have sP:M.ws.length=0:=by rw [h7]; rfl
 replace kW:=Lib.hid kW
 replace hL:=Lib.hid hL
 replace hS:=Lib.hid hS
 replace sP:=Lib.hid sP
 clear hN hM aU hB h1 h2 h3 h4 h5 h6 h7
 go_wp2_with fail
 refine (KT.out _).mono ?_
 rintro e w2 ⟨a,hh,rfl,dL,fD,ag⟩
 have mu:=Ur (hS.out.down ag) kW.out (by omega) (i:=0) (by omega) dL (fun x hx=>Nat.le_trans hS.out.below.size (fD x hx)) 50 (fun b hb=>by simp) (by omega)
 have aP:=mu.mono fun e w' q=>show e=.returned (.tuple #[.int .i64 5,.bool true])/\I3 w w2 w' M none 0 [] [] 1 3 0 kA a from by
  obtain ⟨⟨k,s,q1,q2⟩,q3⟩:=q
  rw [hL.out] at q2
  have:=Us _ _ _ q2
  subst this
  exact ⟨q1,q3⟩
 replace aP:=Lib.hid aP
 clear mu KT dL fD ag hL kW hS
 go_wp2_with fail
 refine aP.out.mono ?_
 rintro e w3 ⟨rfl,M',a',D',cM,em,Ah,ea,Er,uv,KU,nB,hk,bs,jb,_⟩
 have hH:=Dl.ve Ah
 rw [uv,KU,ea] at hH
 simp only [Pc.lk] at hH jb
 have KV:M'.ws.length=0:=by rw [jb,sP.out]; rfl
 replace hH:=Lib.hid hH
 have hW:=fun w4 (hb:Below w3.heap.size w3 w4)=>Bp (cM.mem.below hb)
 rw [KV,em] at hW
 replace hW:=Lib.hid hW
 have ay:=Lib.hid cM.below
 clear aP cM Ah em ea Er uv KU nB hk bs jb KV sP
 go_wp2_with fail
 refine hH.out.mono ?_
 rintro e w4 ⟨rfl,az⟩
 clear hH
 go_wp2_with fail
 refine (hA.out _).mono ?_
 rintro e w5 ⟨rfl,bI⟩
 have rD:=az.trans (bI.mono az.size)
 have lR:=Lib.hid (hW.out w5 rD)
 have nX:=Lib.hid (ay.out.trans (rD.mono ay.out.size))
 clear hA az bI rD ay hW
 go_wp2_with fail
 refine lR.out.mono ?_
 rintro e w6 ⟨rfl,rfl⟩
 clear lR
 go_wp2_with fail
 go_ret
 exact ⟨rfl,nX.out⟩
end Go.Proofs.YtpanebgakndddaaGreat.mG
namespace Go.Proofs.YtpanebgakndddaaGreat.ld
open Go Go.RowKit Hp K Fl Rw Hm Ar Mm Me LK Qs Wk Re ff Pn Pc Mq Pu jj jk mG Dl
set_option maxRecDepth 100000
def Cz (L L':Lm):Prop:=L'.ds=L.ds/\L'.xs.length=L.xs.length/\Cl.nth L'.xs 0=Cl.nth L.xs 0
theorem Ii {xs:List Int} {i:Nat} (v:Int) (hi:i≠0):Cl.nth (xs.set i v) 0=Cl.nth xs 0:=by
 by_cases hl:i<xs.length
 ·rw [fH _ _ _ hl,if_neg (by omega)]
 ·rw [List.set_eq_of_length_le (by omega)]
section
variable {W0 w w':World} {M:Mo} {A:Option Addr} {cap:Nat} {l:List Pr} {n B:Nat} {cs:Nat->List Mq.Hp} {G:Nat}
theorem Fq {E:Ep} {s:Lm×Pt} (hc:E.c≠0) (h:Qp E s):Cz E.L s.1:=by
 cases h with
 | full W _ _=>exact ⟨rfl,rfl,rfl⟩
 | done W m _ _=>
   refine ⟨(si E W m).2.1,H3 E W m,?_⟩
   show Cl.nth (dJ E W m).xs 0=_
   unfold dJ
   split
   ·rfl
   ·exact Ii _ hc
theorem Ft {L:Lm} {c:Nat} {W:Wa} (hc:c≠0):Cz L (gL L c W):=by
 unfold gL
 split
 ·exact ⟨rfl,rfl,rfl⟩
 split
 ·exact ⟨rfl,rfl,rfl⟩
 ·exact ⟨rfl,by simp,Ii _ hc⟩
end
end Go.Proofs.YtpanebgakndddaaGreat.ld
namespace Go.Proofs.YtpanebgakndddaaGreat.Ca
open Go Go.RowKit Hp K Fl Rw Hm Ar Mm Me LK Qs Wk Pc Pn Mq Pu Zp Mx cK Bs Zr jk ld
theorem Fi {L:Lm} {n B:Nat} {cs:Nat->List Mq.Hp} {l:List Pr} {G t s c x tt ca:Nat} {i:Int} (hm:Mp L n B cs l G) (hG:G<=1000000) (hl:l.length<=30) (fX:ki L t) (ht:t<=200) (hs:FM.bo (s:Int)=true) (hw:nt l.length s n c x tt ca) (hc:c<=19900) (hx:x<=512) (wA:tt<=8) (sJ:ca<=30*256) (hi:0<=i/\i<=1000):
 Lone L (bG n cs) ⟨10+512*(t+1),1+8*(t+1),1+20000*((t:Int)+1)⟩ s l (c+10) (L,bR i s):=by
 obtain ⟨u1,u2,u3,u4⟩:=fX
 have uo:=Fj hm hG u3 (by omega) (by omega) (cap:=1000) ⟨by omega,by omega⟩
 have wB:=Zr.Mp.lU hm
 have nN:nt (o9 n B 1000 cs).few s (o9 n B 1000 cs).n c x tt ca:=by
  show nt (flat n cs).length s n c x tt ca
  rw [wB]
  exact hw
 have bL:bR i s=⟨i,s,1,0,.none⟩:=by unfold bR; rw [if_pos hs]
 refine ⟨.rest (o9 n B 1000 cs),fun _ _ _=>True,c+10,ca,Nat.le_refl _,uo,⟨⟨by rw [bL]; exact hi,by rw [bL],by rw [bL],Zr.Kp.refl _,by show L.hs.length=6; rw [hm.hs]; simp,fun j a b=>?_,?_,⟨by simp only; omega,by simp only; omega,by simp only; omega⟩,List.Perm.refl _⟩,.take (o9 n B 1000 cs) c x tt ca (by rw [bL]; exact ⟨Nat.le_refl _,by simp⟩) nN (by rw [bL]; simp only; omega) (Nat.le_refl _) (by show 1000+ca<=_; omega) (by simp only; omega) (by simp only; omega)⟩,hm.zero⟩
 ·show Lo.aE L.hs j=dw (bR i s).nx (bR i s).worker j
  rw [bL,hm.hs]
  unfold dw Lo.aE
  simp only [List.getD_eq_getElem?_getD,List.getElem?_replicate]
  rw [if_pos (by omega)]
  by_cases q:j=5
  ·rw [if_pos q]; rfl
  ·rw [if_neg q,if_neg (by omega)]; rfl
 ·show Cl.nth L.xs 0+_<=1+20000*((t:Int)+1)
  omega
theorem Fk {L L':Lm} {n B:Nat} {cs:Nat->List Mq.Hp} {l:List Pr} {G t s:Nat} {R:Rz} (hm:Mp L n B cs l G) (h:Qr L (bG n cs) ⟨10+512*(t+1),1+8*(t+1),1+20000*((t:Int)+1)⟩ s l L' R) (hz:∀ i:Nat,(i:Int)<L'.k->Cl.nth L'.xs (2+i)=0):
 R.err=0/\(∃ B' cs',Mp L' s B' cs' l G)/\L'.ss.length=L.ss.length/\L'.k=L.k/\L'.ws=L.ws/\ki L' (t+1):=by
 obtain ⟨Y,r1,r2,r3,r4,r5,r6,r7,r8,r9,r10⟩:=h
 have:=Zr.Fm hm r1 r7 r6 hz r5 r4
 rw [r2] at this
 refine ⟨r3,⟨_,_,this⟩,r6.ss,r6.k,r6.ws,r9,r10,r1.base.p1,?_⟩
 have e:((t+1:Nat):Int)=(t:Int)+1:=by omega
 rw [e]
 exact r8
theorem Fo {L:Lm} {n B:Nat} {cs:Nat->List Mq.Hp} {l:List Pr} {G:Nat} {i z:Int} (hm:Mp L n B cs l G) (hz:FM.bo z=false) (k:Nat) (s:Lm×Rz) (hs:k=1/\s=(L,bR i z)):
 oo s.1 s.2/\gA s.1 s.2=true/\1<=k/\(eI s.1 s.2=true->bC s.1 s.2=(L,{bR i z with err:=5,nx:=12}))/\(eI s.1 s.2=false->k-1=1/\bC s.1 s.2=(L,bR i z)):=by
 obtain ⟨rfl,rfl⟩:=hs
 have bL:bR i z=⟨i,z,0,0,.none⟩:=by unfold bR; rw [if_neg (by rw [hz]; simp)]
 have eh:=hm.kB
 have hk:=hm.k
 have bA:=hm.xl
 have sK:=hm.hs
 have fk:oo L (bR i z):=⟨by rw [bL]; simp,by omega,by rw [sK]; simp,fun q=>absurd (by rw [bL]) q,fun j=>(hm.tb j).1,fun q=>by rw [bL] at q; simp at q,fun q=>by rw [bL] at q; simp at q,fun q=>by rw [bL] at q; simp at q⟩
 have bs:bC L (bR i z)=(L,{bR i z with err:=5,nx:=12}):=by unfold bC; rw [if_pos (by rw [bL])]
 have eK:gA L (bR i z)=true:=by unfold gA; rw [bL]; simp
 have cq:eI L (bR i z)=true:=by unfold eI; rw [bL]; simp
 exact ⟨hok,eK,Nat.le_refl _,fun _=>bs,fun q=>by rw [cq] at q; simp at q⟩
theorem xZ {L:Lm} {n B:Nat} {cs:Nat->List Mq.Hp} {l:List Pr} {G:Nat} {key val:ByteArray} {i:Int} {hb:Nat} (h:Mp L n B cs l G) {W:Wa} (hf:fG (Mp.ep L n B cs key val i hb) W) (hz:W.found=0->W.nd=.zero):W.nd.val=(Pc.lk l key).getD ⟨#[]⟩:=by
 rw [h.lk]
 rcases hf with ⟨h0,hk,_⟩ | ⟨pre,x,p,t,z,k,hq,hp,hx,hk,bB,hW,hc,jq⟩
 ·have:Pc.lk (bq (cs (aj key n))) key=none:=nu.2 (by simpa using hk)
  rw [this,hz h0]
  rfl
 ·have hm:p∈prs (cs (aj key n)):=by
   have hq:cs (aj key n)=_:=hq
   rw [hq]
   simp
  have hp:p.1=key:=hp
  have hn:((bq (cs (aj key n))).map (·.1)).Nodup:=by
   rw [tz]
   exact h.kd _ (dH h.pw key).1
  have:=vh hn hm
  rw [hp] at this
  rw [this,hW]
  rfl
theorem x4 {L L':Lm} {t:Nat} (h:ki L t) (hc:Cz L L'):ki L' (t+1):=by
 obtain ⟨u1,u2,u3,u4⟩:=h
 obtain ⟨c1,c2,c3⟩:=hc
 exact ⟨by rw [c2]; omega,by rw [c1]; omega,by rw [c3]; exact u3,by rw [c3]; omega⟩
end Go.Proofs.YtpanebgakndddaaGreat.Ca
namespace Go.Proofs.YtpanebgakndddaaGreat.Ca
open Go Go.RowKit Hp K Fl Rw Hm Ar Mm Me LK Qs Wk Re ff Pc Pn Mq Pu Zp Mx cK Bs Dl Zr jj jk ld
theorem Mk (few n s:Nat) (hf:few<=30) (hn:FM.bo (n:Int)=true) (hs:FM.bo (s:Int)=true) (jr:n<=64) (oO:s<=64):∃ c x t a,nt few s n c x t a/\c<=342+198*few/\x<=512/\t<=8/\a<=30*256:=by
 obtain ⟨b,hb,rfl⟩:=x5 hn
 obtain ⟨k,hk,rfl⟩:=x5 hs
 have oN:b<=6:=AV (b:=6) jr
 have Df:k<=6:=AV (b:=6) oO
 have ax:1<=2 ^ b:=Nat.one_le_two_pow
 have Jr:1<=2 ^ k:=Nat.one_le_two_pow
 by_cases h:b<=k
 ·obtain ⟨c,x,hu⟩:=AW few k hk (k-b) b (by omega)
  obtain ⟨e1,e2,e3⟩:=hu.eqs
  have m1:(k-b)*(15+12*few)<=6*(15+12*few):=Nat.mul_le_mul_right _ (by omega)
  have m2:(2*few+4)*2 ^ k<=(2*few+4)*64:=Nat.mul_le_mul_left _ oO
  have m3:(2*few+4)*1<=(2*few+4)*2 ^ b:=Nat.mul_le_mul_left _ ax
  exact ⟨c,x,k-b,0,.inl hu,by omega,by omega,by omega,by omega⟩
 ·obtain ⟨c,x,a,hu⟩:=Fp few k (b-k) b (by omega) hb
  obtain ⟨e1,e2,e3,e4⟩:=hu.eqs
  have m1:(b-k)*14<=6*14:=Nat.mul_le_mul_right _ (by omega)
  have m2:(few+4)*2 ^ b<=(few+4)*64:=Nat.mul_le_mul_left _ jr
  have m3:few*2 ^ b<=30*64:=Nat.mul_le_mul hf jr
  have m4:x<=2 ^ b:=Nat.le.intro e2
  exact ⟨c,x,b-k,a,.inr hu,by omega,by omega,by omega,by omega⟩
theorem vi {l:List Pr} {key:ByteArray} (hn:(l.map (·.1)).Nodup):(l.filter fun p=>decide (p.1≠key)).length+(if (Pc.lk l key).isSome then 1 else 0)=l.length:=by
 by_cases hk:key∈l.map (·.1)
 ·have h1:(Pc.lk l key).isSome=true:=by
   cases e:Pc.lk l key with
   | some v=>rfl
   | none=>exact absurd hk (nu.1 e)
  rw [if_pos h1]
  clear h1
  induction l with
  | nil=>simp at hk
  | cons a l ih=>
    simp only [List.map_cons,List.nodup_cons] at hn
    by_cases e:a.1=key
    ·have hf:l.filter (fun p=>decide (p.1≠key))=l:=List.filter_eq_self.2 (fun p hp=>by
      simp only [decide_eq_true_eq]
      intro q
      exact hn.1 (by rw [e,<-q]; exact List.mem_map_of_mem hp))
     rw [List.filter_cons_of_neg (by simp [e]),hf]
     rfl
    ·rw [List.filter_cons_of_pos (by simp [e])]
     simp only [List.map_cons,List.mem_cons] at hk
     have:=ih hn.2 (hk.resolve_left (fun q=>e q.symm))
     simp only [List.length_cons]
     omega
 ·have h1:Pc.lk l key=none:=nu.2 hk
  rw [h1]
  rw [List.filter_eq_self.2 (fun p hp=>by
   simp only [decide_eq_true_eq]
   intro q
   exact hk (by rw [<-q]; exact List.mem_map_of_mem hp))]
  simp
def tA (L0:Lm) (l:List Pr) (n G t:Nat) (c:Ct) (s:Lm×Cl):Prop:=
 s.2.done=true/\cm s.2=0/\s.1.ss.length=L0.ss.length/\s.1.k=L0.k/\ki s.1 (t+1)/\∃ (n' B' G':Nat) (cs':Nat->List Mq.Hp),(n'=n\/(n':Int)=c.size)/\G'<=G+1/\
  ((di c=0/\c.kind=1/\gj L0.ss=none/\de s.2=(4,false,⟨#[]⟩)/\Mp s.1 n' B' cs' l G')\/(¬(di c=0/\c.kind=1/\gj L0.ss=none)/\de s.2=gy l c/\∀ l',gz l l' c->Mp s.1 n' B' cs' l' G'/\l'.length+s.1.ws.length<=l.length+L0.ws.length+1))
def pa (R:Nat->Lm×Cl->Prop) (Q:Lm×Cl->Prop):Prop:=∀ k s,R k s->jB s.1 s.2/\iA s.1 s.2=true/\1<=k/\(eu s.1 s.2=true->Q (bK s.1 s.2))/\(eu s.1 s.2=false->R (k-1) (bK s.1 s.2))
theorem pa.mono {R:Nat->Lm×Cl->Prop} {Q Q':Lm×Cl->Prop} (h:pa R Q) (hq:∀ s,Q s->Q' s):pa R Q':=fun k s hr=>by
 obtain ⟨h1,h2,h3,h4,h5⟩:=h k s hr
 exact ⟨h1,h2,h3,fun hd=>hq _ (h4 hd),h5⟩
def rJ (L:Lm) (l:List Pr) (c:Ct):Nat:=if c.kind=1 then 8+L.ss.length else 352+198*l.length
section
variable {L:Lm} {l:List Pr} {n B G t:Nat} {cs:Nat->List Mq.Hp} {c:Ct} {i:Nat} {C:Cl}
theorem Ml (hm:Mp L n B cs l G) (key:ByteArray) {j:Nat} (hj:(j:Int)<L.k):Gt.Ev.Ok ⟨L.ds,L.ss,L.xs,L.F,key,j,bq (cs (aj key n)),(cs (aj key n)).length⟩/\lk (bq (cs (aj key n))) key=lk l key:=by
 have wC:=hm.small
 obtain ⟨hb1,au⟩:=dH hm.pw key
 have zo:=hm.ql ax
 have mn:=hm.gB
 have eh:2+L.k<=B:=hm.kB
 have hk:1<=L.k/\L.k<=8:=hm.k
 have bA:B+n<=L.xs.length:=hm.xl
 have hc:Gt.cellOf (sm key) (Me.now L.xs L.ds)=((B+aj key n:Nat):Int):=by
  have bU:Me.now L.xs L.ds=(n,B):=hm.now
  unfold Gt.cellOf
  rw [bU]
  simp only
  rw [if_neg (by omega),au]
  omega
 refine ⟨⟨hsm.2,hm.cU,hm.tb,⟨by simp only; omega,by simp only; omega⟩,hm.xb,hm.zero j hj,?_,?_,by simp only [bq,List.length_map]; omega,by simp only; omega⟩,(hm.lk key).symm⟩
 ·unfold Gt.Ev.cell
  simp only
  rw [hc]
  omega
 ·unfold Gt.Ev.cell
  simp only
  rw [hc]
  have e:word L.xs ((B+aj key n:Nat):Int)=(Cl.nth L.xs (B+aj key n)).toNat:=by
   unfold word
   rw [if_pos (by omega),Int.toNat_natCast]
  rw [e]
  exact (hm.ch _ ax).cn
theorem Lr (hm:Mp L n B cs l G) (hG:G<=900000) (hl:l.length<=30) (fX:ki L t) (ht:t<=200) (jr:n<=64) (oO:c.size<=64\/65536<c.size) (hi:(i:Int)<L.k) (hC:jA i c C) (W8:L.ss.length<=300):
 ∃ (R:Nat->Lm×Cl->Prop) (k:Nat),k<=rJ L l c/\R k (L,C)/\pa R (tA L l n G t c):=by
 have Df:1<=L.k/\L.k<=8:=hm.k
 have ml:0<=(i:Int)/\(i:Int)<=1000:=by omega
 have pP:ki L (t+1):=by obtain ⟨u1,u2,u3,u4⟩:=fX; exact ⟨by omega,by omega,u3,by omega⟩
 have eh:2+L.k<=B:=hm.kB
 have kG:∀ b,b<n->(cs b).length<=L.ss.length:=fun b hb=>by have:=(Mp.xS hm).1 b hb; omega
 obtain ⟨c1,c2,c3,c4⟩:=hC
 by_cases h0:di c=0
 case neg=>
  have bZ:=c3 h0
  have eC:C=⟨.ref,di c,false⟩:=by cases C; simp only at c1 c2 bZ; rw [c1,c2,bZ]
  subst eC
  refine ⟨fun k s=>k=1/\s=(L,(⟨.ref,di c,false⟩:Cl)),1,by unfold rJ; split<;>omega,⟨rfl,rfl⟩,fun k s hs=>?_⟩
  obtain ⟨rfl,rfl⟩:=hs
  refine ⟨trivial,rfl,Nat.le_refl _,fun _=>?_,fun q=>by simp [eu] at q⟩
  refine ⟨rfl,rfl,rfl,rfl,pP,n,B,G,cs,.inl rfl,by omega,.inr ⟨fun q=>h0 q.1,?_,fun l' cD=>?_⟩⟩
  ·unfold gy; rw [if_pos h0]; rfl
  ·unfold gz at cD
   rw [if_neg (fun q=>h0 q.1),if_neg (fun q=>h0 q.1)] at cD
   rw [cD]; exact ⟨hm,by show l.length+L.ws.length<=_; omega⟩
 obtain ⟨k0,k1,k2,k3⟩:=c4 h0
 have wm:c.kind=0\/c.kind=1\/c.kind=2\/c.kind=3:=by
  unfold di at h0
  split at h0
  ·omega
  ·omega
 rcases wm with hk | hk | hk | hk
 ·
  have bZ:=k0 hk
  have eC:C=⟨.get (Gt.mJ i c.key),0,false⟩:=by cases C; simp only at c1 c2 bZ; rw [c1,c2,bZ,h0]
  subst eC
  obtain ⟨hE,cE⟩:=Ml hm c.key hi
  have hq:=kG (aj c.key n) (dH hm.pw c.key).1
  refine ⟨fun k s=>∃ P d,s.2=(⟨.get P,0,d⟩:Cl)/\Gt.Rg ⟨L.ds,L.ss,L.xs,L.F,c.key,i,bq (cs (aj c.key n)),(cs (aj c.key n)).length⟩ L k (s.1,P),5+(cs (aj c.key n)).length,by unfold rJ; rw [if_neg (by omega)]; omega,⟨_,_,rfl,0,Gt.Gv.begin hE,by simp only; omega,rfl,rfl,rfl,rfl,rfl⟩,?_⟩
  refine pa.mono (Q:=fun s=>∃ P,s.2=(⟨.get P,0,true⟩:Cl)/\Gt.Qg ⟨L.ds,L.ss,L.xs,L.F,c.key,i,bq (cs (aj c.key n)),(cs (aj c.key n)).length⟩ L (s.1,P)) (Fh (fun k s hs=>Gt.Rg.step hE ⟨rfl,rfl,rfl,rfl⟩ hs) 0) (fun s q=>?_)
  obtain ⟨P,q4,q5,q6⟩:=q
  have q5:s.1=L:=q5
  have q6:Gt.Fits (Pc.lk (bq (cs (aj c.key n))) c.key) P.W:=q6
  rw [cE] at q6
  unfold tA
  rw [q4,q5]
  refine ⟨rfl,rfl,rfl,rfl,pP,n,B,G,cs,.inl rfl,by omega,.inr ⟨fun q=>by omega,?_,fun l' cD=>?_⟩⟩
  ·unfold gy
   rw [if_neg (by omega),if_pos hk]
   show ((0:Int),decide (P.W.found≠0),P.W.nd.val)=_
   rw [q6.1,q6.2]
  ·unfold gz at cD
   rw [if_neg (fun q=>by omega),if_neg (fun q=>by omega)] at cD
   rw [cD]; exact ⟨hm,by show l.length+L.ws.length<=_; omega⟩
 ·
  obtain ⟨hh,bZ⟩:=k1 hk
  have eC:C=⟨.put (Pu.jQ hh i c.key c.val),0,false⟩:=by cases C; simp only at c1 c2 bZ; rw [c1,c2,bZ,h0]
  subst eC
  have hE:=hm.rK (key:=c.key) (val:=c.val) (i:=i) (hb:=hh) (by omega) ml
  have hq:=kG (aj c.key n) (dH hm.pw c.key).1
  refine ⟨fun k s=>∃ P d,s.2=(⟨.put P,0,d⟩:Cl)/\Rq (Mp.ep L n B cs c.key c.val i hh) k (s.1,P),8+(cs (aj c.key n)).length,by unfold rJ; rw [if_pos hk]; omega,⟨_,_,rfl,(Rp.s (E:=Mp.ep L n B cs c.key c.val i hh) (4+(cs (aj c.key n)).length) _ _ .a1).q (by omega)⟩,?_⟩
  refine pa.mono (Q:=fun s=>∃ P,s.2=(⟨.put P,0,true⟩:Cl)/\Qp (Mp.ep L n B cs c.key c.val i hh) (s.1,P)) (Ff (R:=Rq (Mp.ep L n B cs c.key c.val i hh)) (Q:=Qp (Mp.ep L n B cs c.key c.val i hh)) (fun k s hs=>by
   obtain ⟨j,hj,hr⟩:=hs
   obtain ⟨h1,h2,h3,h4⟩:=hr.step hE
   refine ⟨hr.ok hE,h1,by omega,h3,fun hd=>?_⟩
   obtain ⟨j',sL,nO⟩:=h4 hd
   exact ⟨j',by omega,nO⟩) 0) (fun s q=>?_)
  obtain ⟨P,q4,q5⟩:=q
  obtain ⟨m1,m2,m3⟩:=AX hm (by omega) ml q5
  have qO:=Fq (by show B+aj c.key n≠0; omega) q5
  have qO:Cz L s.1:=qO
  simp only at m1 m2 m3
  unfold tA
  rw [q4]
  rcases m3 with ⟨p1,p2,p3⟩ | ⟨p1,p2,p3,p4,p5,cs',p6⟩
  ·have g3:s.1=L:=p2
   rw [g3]
   refine ⟨rfl,m2,rfl,rfl,pP,n,B,G,cs,.inl rfl,by omega,.inl ⟨h0,hk,p1,?_,hm⟩⟩
   show (if P.err=0 then ((0:Int),decide (P.W.found≠0),(⟨#[]⟩:ByteArray)) else (P.err,false,⟨#[]⟩))=_
   rw [p3,if_neg (by omega)]
  ·refine ⟨rfl,m2,p4,p5,x4 fX qO,n,B,G+1,cs',.inl rfl,by omega,.inr ⟨fun q=>?_,?_,fun l' cD=>?_⟩⟩
   ·have q3:gj L.ss=none:=q.2.2
    rw [q3] at p1
    simp at p1
   ·unfold gy
    rw [if_neg (by omega),if_neg (by omega),if_pos hk]
    show (if P.err=0 then ((0:Int),decide (P.W.found≠0),(⟨#[]⟩:ByteArray)) else (P.err,false,⟨#[]⟩))=_
    rw [if_pos p2,m1]
   ·unfold gz at cD
    rw [if_pos ⟨h0,hk⟩] at cD
    refine ⟨p6 l' (Fs hm.ln cD),?_⟩
    have e1:=cD.length_eq
    have e2:=vi (key:=c.key) hm.ln
    simp only [List.length_cons] at e1
    show l'.length+s.1.ws.length<=_
    omega
 ·
  obtain ⟨hh,bZ⟩:=k2 hk
  have eC:C=⟨.del (Dl.kl hh i c.key),0,false⟩:=by cases C; simp only at c1 c2 bZ; rw [c1,c2,bZ,h0]
  subst eC
  have hE:=hm.rK (key:=c.key) (val:=⟨#[]⟩) (i:=i) (hb:=hh) (by omega) ml
  have hq:=kG (aj c.key n) (dH hm.pw c.key).1
  refine ⟨fun k s=>∃ P d,s.2=(⟨.del P,0,d⟩:Cl)/\Dl.tB (Mp.ep L n B cs c.key ⟨#[]⟩ i hh) k (s.1,P),7+(cs (aj c.key n)).length,by unfold rJ; rw [if_neg (by omega)]; omega,⟨_,_,rfl,(Dl.Rd.s (E:=Mp.ep L n B cs c.key ⟨#[]⟩ i hh) (4+(cs (aj c.key n)).length) _ _ .a1).q (by omega)⟩,?_⟩
  refine pa.mono (Q:=fun s=>∃ P,s.2=(⟨.del P,0,true⟩:Cl)/\Dl.Qd (Mp.ep L n B cs c.key ⟨#[]⟩ i hh) (s.1,P)) (Fg (R:=Dl.tB (Mp.ep L n B cs c.key ⟨#[]⟩ i hh)) (Q:=Dl.Qd (Mp.ep L n B cs c.key ⟨#[]⟩ i hh)) (fun k s hs=>by
   obtain ⟨j,hj,hr⟩:=hs
   obtain ⟨h1,h2,h3,h4⟩:=Dl.Rd.step hE hr
   refine ⟨Dl.Rd.ok hE hr,h1,by omega,h3,fun hd=>?_⟩
   obtain ⟨j',sL,nO⟩:=h4 hd
   exact ⟨j',by omega,nO⟩) 0) (fun s q=>?_)
  obtain ⟨P,q4,W,hf,hz,q5⟩:=q
  obtain ⟨m1,m2,m3,cs',m4⟩:=AY hm hf
  injection q5 with q5 q6
  have hd:s.1=gL L (B+aj c.key n) W:=q5
  have cE:=vj hm hf
  have uq:=xZ hm hf hz
  have q6:P=Dl.Ep.t (Mp.ep L n B cs c.key ⟨#[]⟩ i hh) 7 {Ep.H (Mp.ep L n B cs c.key ⟨#[]⟩ i hh) with holds:=false} W 0:=q6
  unfold tA
  rw [q4,hd]
  refine ⟨rfl,by rw [q6]; rfl,m2,m3,x4 fX (Ft (by omega)),n,B,G,cs',.inl rfl,by omega,.inr ⟨fun q=>by omega,?_,fun l' cD=>?_⟩⟩
  ·unfold gy
   rw [if_neg (by omega),if_neg (by omega),if_neg (by omega),if_pos hk]
   show ((0:Int),decide (P.W.found≠0),P.W.nd.val)=_
   rw [q6]
   show ((0:Int),decide (W.found≠0),W.nd.val)=_
   rw [cE,uq]
  ·unfold gz at cD
   rw [if_neg (fun q=>by omega),if_pos ⟨h0,hk⟩] at cD
   refine ⟨m4 l' (Fu hm.ln cD),?_⟩
   have e1:=cD.length_eq
   have e2:=vi (key:=c.key) hm.ln
   show l'.length+(gL L (B+aj c.key n) W).ws.length<=_
   omega
 ·
  have bZ:=k3 hk
  have eC:C=⟨.rz (Zr.bR i c.size),0,false⟩:=by cases C; simp only at c1 c2 bZ; rw [c1,c2,bZ,h0]
  subst eC
  cases hp:FM.bo c.size with
  | false=>
    refine ⟨fun k s=>∃ P d,s.2=(⟨.rz P,0,d⟩:Cl)/\k=1/\(s.1,P)=(L,Zr.bR i c.size),1,by unfold rJ; rw [if_neg (by omega)]; omega,⟨_,_,rfl,rfl,rfl⟩,?_⟩
    refine pa.mono (Q:=fun s=>∃ P,s.2=(⟨.rz P,0,true⟩:Cl)/\(s.1,P)=(L,{Zr.bR i c.size with err:=5,nx:=12})) (xY (R:=fun k s=>k=1/\s=(L,Zr.bR i c.size)) (Q:=fun s=>s=(L,{Zr.bR i c.size with err:=5,nx:=12})) (fun k s hs=>Fo hm hp k s hs) 0) (fun s q=>?_)
    obtain ⟨P,q4,q5⟩:=q
    injection q5 with q5 q6
    unfold tA
    rw [q4,q5]
    refine ⟨rfl,rfl,rfl,rfl,pP,n,B,G,cs,.inl rfl,by omega,.inr ⟨fun q=>by omega,?_,fun l' cD=>?_⟩⟩
    ·unfold gy
     rw [if_neg (by omega),if_neg (by omega),if_neg (by omega),if_neg (by omega),if_neg (by rw [hp]; simp)]
     show (P.err,false,(⟨#[]⟩:ByteArray))=_
     rw [q6]
    ·unfold gz at cD
     rw [if_neg (fun q=>by omega),if_neg (fun q=>by omega)] at cD
     rw [cD]; exact ⟨hm,by show l.length+L.ws.length<=_; omega⟩
  | true=>
    have cQ:=FM.eU hp
    obtain ⟨z,hz⟩:=Int.eq_ofNat_of_zero_le (show 0<=c.size by omega)
    have zp:z<=64:=by omega
    rw [hz] at hp
    obtain ⟨cc,x,tt,ca,hw,hc,hx,wA,sJ⟩:=Mk l.length n z hl hm.pw hp jr zp
    have m8:=Fi hm (by omega) hl fX ht hp hw (by omega) hx wA sJ ml
    refine ⟨fun k s=>∃ P d,s.2=(⟨.rz P,0,d⟩:Cl)/\Lone L (bG n cs) ⟨10+512*(t+1),1+8*(t+1),1+20000*((t:Int)+1)⟩ z l k (s.1,P),cc+10,by unfold rJ; rw [if_neg (by omega)]; omega,⟨_,_,by rw [hz],m8⟩,?_⟩
    refine pa.mono (Q:=fun s=>∃ P,s.2=(⟨.rz P,0,true⟩:Cl)/\Qr L (bG n cs) ⟨10+512*(t+1),1+8*(t+1),1+20000*((t:Int)+1)⟩ z l s.1 P/\∀ i:Nat,(i:Int)<s.1.k->Cl.nth s.1.xs (2+i)=0) (xY (R:=Lone L (bG n cs) ⟨10+512*(t+1),1+8*(t+1),1+20000*((t:Int)+1)⟩ z l) (Q:=fun s=>Qr L (bG n cs) ⟨10+512*(t+1),1+8*(t+1),1+20000*((t:Int)+1)⟩ z l s.1 s.2/\∀ i:Nat,(i:Int)<s.1.k->Cl.nth s.1.xs (2+i)=0) (fun k s hs=>hs.step) 0) (fun s q=>?_)
    obtain ⟨P,q4,q5,q6⟩:=q
    obtain ⟨p1,⟨B',cs',p2⟩,p3,p4,p5,p6⟩:=Fk hm q5 q6
    unfold tA
    rw [q4]
    refine ⟨rfl,rfl,p3,p4,p6,z,B',G,cs',.inr hz.symm,by omega,.inr ⟨fun q=>by omega,?_,fun l' cD=>?_⟩⟩
    ·unfold gy
     rw [if_neg (by omega),if_neg (by omega),if_neg (by omega),if_neg (by omega),hz,if_pos hp]
     show (P.err,false,(⟨#[]⟩:ByteArray))=_
     rw [p1]
    ·unfold gz at cD
     rw [if_neg (fun q=>by omega),if_neg (fun q=>by omega)] at cD
     rw [cD]; exact ⟨p2,by show l.length+s.1.ws.length<=_; rw [p5]; omega⟩
end
end Go.Proofs.YtpanebgakndddaaGreat.Ca
namespace Go.Proofs.YtpanebgakndddaaGreat.Ca
open Go Go.RowKit Hp K Fl Rw Hm Ar Mm Me Wk Pc
set_option maxRecDepth 100000
def o8 (c:Ct):Value:=.agg #[.int .i64 c.kind,.string c.key,.string c.val,.int .i64 c.size]
def xQ (x:Int×Bool×ByteArray):Value:=.agg #[.int .i64 x.1,.bool x.2.1,.string x.2.2]
theorem below_1 (w:World) (o:Obj):Below w.heap.size w (w.alloc o):=(Below.refl _ _).alloc (Nat.le_refl _) _
end Go.Proofs.YtpanebgakndddaaGreat.Ca
