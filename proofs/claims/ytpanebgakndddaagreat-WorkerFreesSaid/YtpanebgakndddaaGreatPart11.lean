/- Walks and plain mathematics, put together in their order: RzW, RzX, RzY, LawNineA, ElA, TenC, ElD, FnA, LawEightA, ElE, TwB, RzG, ClQ, ClR, DoA. -/
import Derived.Test.YtpanebgakndddaaGreatPart10
import Derived.Test.YtpanebgakndddaaGreatFnvWalk
import Derived.Test.YtpanebgakndddaaGreatRowKit
import Derived.Laws.Cover1
import Derived.Test.YtpanebgakndddaaGreatRetE
import Derived.Deep.DeepCutAuto
import Derived.Deep.CutBlock
import Derived.Test.YtpanebgakndddaaGreatMemNew
set_option linter.unusedVariables false
set_option linter.unusedSimpArgs false
namespace Go.Proofs.YtpanebgakndddaaGreat.Zr
open Go Go.RowKit Hp K Fl Rw Hm Ar Mm Wk Pc Me Mq Pu Pn Gt Qs Zp Mx cL Bs
set_option maxRecDepth 100000
section
variable {w w':World} {M:Mo} {a:Ra} {R:Rz} {f h b:Nat} {k z e:Int} {u2 u3 tv:Value}
theorem iq:∀ x,Lo.aS M.lg M.lb x->ao M x:=fun _ h=>.inr (.inr (.inl h))
theorem nI (hM:ah w M) (hb:Rb w f k z u2 u3 e h tv) (hO:ab (·=f) w w'):ah w' M:=hM.only hO (fun x hx q=>by subst q; exact pL hb hM hx)
set_option maxHeartbeats 2000000 in
theorem Tf (hM:ah w M) (hb:Rb w f k z u2 u3 e h tv) (hk:0<=k/\k<=1000) (hh:h<4) (hl:M.hs.length=6) (hf:Lo.aE M.hs (iw h)<0):
 Calls Tryz.prog 78 #[ptr f,ptr M.m] w fun x w'=>x=.returned (.bool false)/\ah w' {M with hs:=M.hs.set (iw h) k}/\Rb w' f k z u2 u3 e (h+1) tv/\ab (fun x=>ao M x\/x=f) w w':=by
 have d1:=hM.hd.2.1
 have c0:=(dR hb).1
 have c5:=(dR hb).2.2.2.2.2.1
 have nt:=Lib.hid (fun w=>wh h w)
 have hT:=Lib.hid (fun nq=>Lo.vi (hM.drewN nq).2.2.1 (iw h) (by rw [hl]; exact Iv (by omega)) k hk.1 (by omega) hf)
 have HM:=Lib.hid hM
 have HB:=Lib.hid hb
 have lM:=hM.1.lt
 have lf:=hb.lt
 have XF:¬((h:Int)+1=5):=by omega
 clear hM hb hl hf
 generalize iw h=j at*
 go_enter Tryz.func78,Tryz.ntmps78
 go_wp2_with fail
 go_region_held3 (fun w'=>w'.cell? ⟨M.m,1,none⟩=some (ptr M.lg)/\w'.cell? ⟨f,0,none⟩=some (.int .i64 k)/\w'.cell? ⟨f,5,none⟩=some (.int .i64 h)) (go_keep)
  (first
    | (go_at_call 102
       refine (nt.out _).mono ?_
       rintro e w3 ⟨rfl,rfl⟩)
    | (go_at_call 103
       refine (hT.out 1).mono ?_
       rintro e w2 ⟨rfl,fu,ae⟩
       have bG:=((ab.refl (Lo.aS M.lg M.lb) w).drewN 1).trans ae
       have aB:=HM.out.mf fu bG
       have ag:=HB.out.only bG (fun hx=>pL HB.out HM.out (iq _ hx))
       have s1:=aB.hd.2.1
       have s2:=(dR ag).1
       have s3:=(dR ag).2.2.2.2.2.1
       have z5:=ag.frozen 5
       simp at s1
       replace bG:=Lib.hid bG
       replace aB:=Lib.hid aB
       replace ag:=Lib.hid ag
       clear fu ae))
 all_goals
  go_wp2_with fail
  have hS:Rb (w2.setCell ⟨f,5,none⟩ (.int .i64 ((h:Int)+1))) f k z u2 u3 e (h+1) tv:=ag.out.store 5 _
  have fh:=(ab.refl (·=f) w2).setCell (p:=⟨f,5,none⟩) (.inl rfl) (.int .i64 ((h:Int)+1))
  have cX:=nI aB.out ag.out fh
  have fN:=(bG.out.mono (fun x _ q=>(.inl (iq _ q):ao M x\/x=f))).trans (fh.mono (fun x _ q=>.inr q))
  go_ret
  exact ⟨rfl,cX,hS,fN⟩
set_option maxHeartbeats 2000000 in
theorem Tg (hM:ah w M) (ga:Gw.Gl) (sa:Sw.Sc) (R:Rz) (hb:Rb w f R.worker R.size u2 u3 R.err 4 tv) (hk:0<=R.worker/\R.worker<=1000) (hl:M.hs.length=6) (hx:1<M.xs.length) (hf:Lo.aE M.hs 4<0):
 Calls Tryz.prog 78 #[ptr f,ptr M.m] w fun x w'=>x=.returned (.bool false)/\ah w' {M with hs:=M.hs.set 4 R.worker}/\ab (fun x=>ao M x\/x=f) w w'/\∃ a':Ra,a'.f=f/\fy w' a' (look (lm M) R)/\∀ x,fz a' (look (lm M) R) x->x=f\/w.heap.size<=x:=by
 have d1:=hM.hd.2.1
 have c0:=(dR hb).1
 have c5:=(dR hb).2.2.2.2.2.1
 have nt:=Lib.hid (fun w=>wh 4 w)
 have hT:=Lib.hid (fun nq=>Lo.vi (hM.drewN nq).2.2.1 4 (by rw [hl]; omega) R.worker hk.1 (by omega) hf)
 have cw:iw 4=4:=rfl
 rw [cw] at nt
 have HM:=Lib.hid hM
 have HB:=Lib.hid hb
 have lM:=hM.1.lt
 have lf:=hb.lt
 clear hM hb hl hf cw
 go_enter Tryz.func78,Tryz.ntmps78
 go_wp2_with fail
 go_region_held3 (fun w'=>w'.cell? ⟨M.m,1,none⟩=some (ptr M.lg)/\w'.cell? ⟨f,0,none⟩=some (.int .i64 R.worker)/\w'.cell? ⟨f,5,none⟩=some (.int .i64 4)) (go_keep)
  (first
    | (go_at_call 102
       refine (nt.out _).mono ?_
       rintro e w3 ⟨rfl,rfl⟩)
    | (go_at_call 103
       refine (hT.out 1).mono ?_
       rintro e w2 ⟨rfl,fu,ae⟩
       have bG:=((ab.refl (Lo.aS M.lg M.lb) w).drewN 1).trans ae
       have aB:=HM.out.mf fu bG
       have ag:=HB.out.only bG (fun hx=>pL HB.out HM.out (iq _ hx))
       have s1:=aB.hd.2.1
       have s2:=(dR ag).1
       have s3:=(dR ag).2.2.2.2.2.1
       have z5:=ag.frozen 5
       simp at s1
       replace bG:=Lib.hid bG
       replace aB:=Lib.hid aB
       replace ag:=Lib.hid ag
       clear fu ae))
 all_goals
  go_wp2_with fail
  have hS:Rb (w2.setCell ⟨f,5,none⟩ (.int .i64 5)) f R.worker R.size u2 u3 R.err 5 tv:=ag.out.store 5 _
  have fh:=(ab.refl (·=f) w2).setCell (p:=⟨f,5,none⟩) (.inl rfl) (.int .i64 5)
  have cX:=nI aB.out ag.out fh
  have fN:=(bG.out.mono (fun x _ q=>(.inl (iq _ q):ao M x\/x=f))).trans (fh.mono (fun x _ q=>.inr q))
  have hC:=Lib.hid (Ix cX hx ga sa R hS)
  replace cX:=Lib.hid cX
  replace fN:=Lib.hid fN
  replace hS:=Lib.hid hS
  clear fh s1 s2 s3 z5
  refine hC.out.mono ?_
  rintro e1 w3 ⟨rfl,a',ha,hR,iC,aq⟩
  have br:=Lib.hid (nI cX.out hS.out aq)
  have aM:=Lib.hid (fN.out.trans (aq.mono (fun x _ q=>.inr q)))
  have xf:=Lib.hid (fun x hx=>(iC x hx).imp id (fun q=>Nat.le_trans fN.out.size q))
  replace hR:=Lib.hid hR
  clear hC aq iC hS
  go_wp2_with fail
  go_ret
  exact ⟨rfl,br.out,aM.out,a',ha,hR.out,xf.out⟩
set_option maxHeartbeats 2000000 in
theorem Th (hM:ah w M) (hb:Rb w f k z u2 u3 e (h+1) tv) (hk:0<=k) (h1:1<=h) (hh:h<=4) (hl:M.hs.length=6) (hf:Lo.aE M.hs h=k):
 Calls Tryz.prog 137 #[ptr f,ptr M.m] w fun x w'=>x=.returned (.bool false)/\ah w' {M with hs:=M.hs.set h (-1)}/\Rb w' f k z u2 u3 e h tv/\ab (fun x=>ao M x\/x=f) w w':=by
 have c5:=(dR hb).2.2.2.2.2.1
 have z5:=hb.frozen 5
 have hS:Rb (w.setCell ⟨f,5,none⟩ (.int .i64 h)) f k z u2 u3 e h tv:=hb.store 5 _
 have fh:=(ab.refl (·=f) w).setCell (p:=⟨f,5,none⟩) (.inl rfl) (.int .i64 h)
 have cX:=nI hM hb fh
 have nt:=Lib.hid (fun w=>wh h w)
 have hT:=Lib.hid (fun nq=>Lo.vZ (cX.drewN nq).2.2.1 h (by rw [hl]; omega) k hk hf)
 have cw:iw h=h:=if_neg (by omega)
 rw [cw] at nt
 have e5:((h+1:Nat):Int)-1=h:=by omega
 have aH:M.m≠f:=fun e=>pL hb hM (.inl e.symm)
 have d1:=hM.hd.2.1
 replace cX:=Lib.hid cX
 replace hS:=Lib.hid hS
 replace fh:=Lib.hid fh
 clear hM hb hl hf cw
 go_enter Tryz.func137,Tryz.ntmps137
 go_upto_region 2 with (fail)
 have o7:(0:Int)<(h:Int):=by omega
 clear c5 z5 aH d1
 generalize w.setCell ⟨f,5,none⟩ (.int .i64 h)=w1 at*
 have c0:=(dR hS.out).1
 have c5:=(dR hS.out).2.2.2.2.2.1
 have d1:=cX.out.hd.2.1
 have lM:=cX.out.1.lt
 have lf:=hS.out.lt
 go_wp2_with fail
 go_region_held3 (fun w'=>w'.cell? ⟨M.m,1,none⟩=some (ptr M.lg)/\w'.cell? ⟨f,0,none⟩=some (.int .i64 k)/\w'.cell? ⟨f,5,none⟩=some (.int .i64 h)) (go_keep)
  (first
    | (go_at_call 102
       refine (nt.out _).mono ?_
       rintro e w3 ⟨rfl,rfl⟩)
    | (go_at_call 166
       refine (hT.out 1).mono ?_
       rintro e w2 ⟨rfl,fu,ae⟩
       have bG:=((ab.refl (Lo.aS M.lg M.lb) w1).drewN 1).trans ae
       have aB:=cX.out.mf fu bG
       have ag:=hS.out.only bG (fun hx=>pL hS.out cX.out (iq _ hx))
       have s1:=aB.hd.2.1
       have s2:=(dR ag).1
       have s3:=(dR ag).2.2.2.2.2.1
       simp at s1
       have aM:=Lib.hid ((fh.out.mono (fun x _ q=>(.inr q:ao M x\/x=f))).trans (bG.mono (fun x _ q=>.inl (iq _ q))))
       replace bG:=Lib.hid bG
       replace aB:=Lib.hid aB
       replace ag:=Lib.hid ag
       clear fu ae))
 all_goals
  go_wp2_with fail
  go_ret
  exact ⟨rfl,aB.out,ag.out,aM.out⟩
set_option maxHeartbeats 2000000 in
theorem Ti (hM:ah w M) (hb:Rb w f k z u2 u3 e 1 tv) (hk:0<=k) (hl:M.hs.length=6) (hf:Lo.aE M.hs 5=k):
 Calls Tryz.prog 137 #[ptr f,ptr M.m] w fun x w'=>x=.returned (.bool true)/\ah w' {M with hs:=M.hs.set 5 (-1)}/\Rb w' f k z (dW 79) (dW 138) e 0 tv/\ab (fun x=>ao M x\/x=f) w w':=by
 have c5:=(dR hb).2.2.2.2.2.1
 have z5:=hb.frozen 5
 have hS:Rb (w.setCell ⟨f,5,none⟩ (.int .i64 0)) f k z u2 u3 e 0 tv:=hb.store 5 _
 have fh:=(ab.refl (·=f) w).setCell (p:=⟨f,5,none⟩) (.inl rfl) (.int .i64 0)
 have cX:=nI hM hb fh
 have nt:=Lib.hid (fun w=>wh 0 w)
 have hT:=Lib.hid (fun nq=>Lo.vZ (cX.drewN nq).2.2.1 5 (by rw [hl]; omega) k hk hf)
 have cw:iw 0=5:=rfl
 rw [cw] at nt
 have aH:M.m≠f:=fun e=>pL hb hM (.inl e.symm)
 have d1:=hM.hd.2.1
 replace cX:=Lib.hid cX
 replace hS:=Lib.hid hS
 replace fh:=Lib.hid fh
 clear hM hb hl hf cw
 go_enter Tryz.func137,Tryz.ntmps137
 go_upto_region 2 with (fail)
 clear c5 z5 aH d1
 generalize w.setCell ⟨f,5,none⟩ (.int .i64 0)=w1 at*
 have c0:=(dR hS.out).1
 have c5:=(dR hS.out).2.2.2.2.2.1
 have d1:=cX.out.hd.2.1
 have lM:=cX.out.1.lt
 have lf:=hS.out.lt
 go_wp2_with fail
 go_region_held3 (fun w'=>w'.cell? ⟨M.m,1,none⟩=some (ptr M.lg)/\w'.cell? ⟨f,0,none⟩=some (.int .i64 k)/\w'.cell? ⟨f,5,none⟩=some (.int .i64 0)) (go_keep)
  (first
    | (go_at_call 102
       refine (nt.out _).mono ?_
       rintro e w3 ⟨rfl,rfl⟩)
    | (go_at_call 166
       refine (hT.out 1).mono ?_
       rintro e w2 ⟨rfl,fu,ae⟩
       have bG:=((ab.refl (Lo.aS M.lg M.lb) w1).drewN 1).trans ae
       have aB:=cX.out.mf fu bG
       have ag:=hS.out.only bG (fun hx=>pL hS.out cX.out (iq _ hx))
       have s1:=aB.hd.2.1
       have s2:=(dR ag).1
       have s3:=(dR ag).2.2.2.2.2.1
       simp at s1
       have aM:=Lib.hid ((fh.out.mono (fun x _ q=>(.inr q:ao M x\/x=f))).trans (bG.mono (fun x _ q=>.inl (iq _ q))))
       replace bG:=Lib.hid bG
       replace aB:=Lib.hid aB
       replace ag:=Lib.hid ag
       clear fu ae))
 all_goals
  have hE:=Lib.hid (nD ag.out)
  go_wp2_with fail
  refine hE.out.mono ?_
  rintro e1 w3 ⟨rfl,ay,aq⟩
  have br:=Lib.hid (nI aB.out ag.out aq)
  have bJ:=Lib.hid (aM.out.trans (aq.mono (fun x _ q=>.inr q)))
  replace ay:=Lib.hid ay
  clear hE aq ag
  go_wp2_with fail
  go_ret
  exact ⟨rfl,br.out,ay.out,bJ.out⟩
end
end Go.Proofs.YtpanebgakndddaaGreat.Zr
namespace Go.Proofs.YtpanebgakndddaaGreat.Zr
open Go Go.RowKit Hp K Fl Rw Hm Ar Mm Wk Pc Me Mq Pu Pn Gt Qs Zp Mx cL Bs
set_option maxRecDepth 100000
section
variable {w w':World} {M:Mo} {a:Ra} {R:Rz} {f h b:Nat} {k z e:Int} {u2 u3 tv:Value}
theorem Iy {T:TypeId} {fs:Nat} {m:Value} {P:World->Prop} (hb:Rb w f k z u2 u3 e h (.iface T (ptr b))) (ms:∀ (w:World) (f:Nat),(method (f+1) T (.pointer (some ⟨b,0,none⟩)) "Step").run Tryz.prog w=.ok (fs,.pointer (some ⟨b,0,none⟩)) w)
 (es:∀ args w,(callFunc fs args).run Tryz.prog w=.ok (.enter fs args) w) (hF:Calls Tryz.prog fs #[ptr b,m] w fun e w'=>e=.returned (.bool false)/\P w'):Calls Tryz.prog 169 #[ptr f,m] w fun e w'=>e=.returned (.bool false)/\P w':=by
 have c6:=(dR hb).2.2.2.2.2.2
 replace hF:=Lib.hid hF
 clear hb
 go_enter Tryz.func169,Tryz.ntmps169
 go_wp2_with fail
 refine hF.out.mono ?_
 rintro e w' ⟨rfl,hP⟩
 replace hP:=Lib.hid hP
 clear c6
 go_wp2_with fail
 go_ret
 exact ⟨rfl,hP.out⟩
def Tn (w:World) (M:Mo) (f b:Nat) (k z e:Int) (u2 u3 tv:Value) (fe:Nat) (er:Int) (L':Lm) (S:Nat->Prop) (w':World):Prop:=
 ∃ M',ah w' M'/\M'.m=M.m/\lm M'=L'/\gn w M M'/\Rb w' f k z u2 u3 e 5 tv/\Calls Tryz.prog fe #[ptr b] w' (fun x w''=>x=.returned (.int .i64 er)/\w''=w')/\ab S w w'
set_option maxHeartbeats 1000000 in
theorem Iz {T:TypeId} {fs fe:Nat} {er:Int} {L':Lm} {S:Nat->Prop} (ga:Gw.Gl) (sa:Sw.Sc) (R:Rz) (hb:Rb w f R.worker R.size u2 u3 R.err 5 (.iface T (ptr b))) (ms:∀ (w:World) (f:Nat),(method (f+1) T (.pointer (some ⟨b,0,none⟩)) "Step").run Tryz.prog w=.ok (fs,.pointer (some ⟨b,0,none⟩)) w)
 (es:∀ args w,(callFunc fs args).run Tryz.prog w=.ok (.enter fs args) w) (me:∀ (w:World) (f:Nat),(method (f+1) T (.pointer (some ⟨b,0,none⟩)) "Err").run Tryz.prog w=.ok (fe,.pointer (some ⟨b,0,none⟩)) w) (ee:∀ args w,(callFunc fe args).run Tryz.prog w=.ok (.enter fe args) w)
 (hx:1<L'.xs.length) (hF:Calls Tryz.prog fs #[ptr b,ptr M.m] w fun e w'=>e=.returned (.bool true)/\Tn w M f b R.worker R.size R.err u2 u3 (.iface T (ptr b)) fe er L' S w'):
 Calls Tryz.prog 169 #[ptr f,ptr M.m] w fun e w'=>e=.returned (.bool false)/\∃ M',ah w' M'/\lm M'=L'/\gn w M M'/\ab (fun x=>S x\/x=f) w w'/\∃ a':Ra,a'.f=f/\fy w' a' (after L' R er)/\∀ x,fz a' (after L' R er) x->x=f\/w.heap.size<=x:=by
 have c6:=(dR hb).2.2.2.2.2.2
 replace hF:=Lib.hid hF
 clear hb
 unfold after
 by_cases h0:er=0
 ·rw [if_pos h0]
  subst h0
  go_enter Tryz.func169,Tryz.ntmps169
  go_wp2_with fail
  refine hF.out.mono ?_
  rintro e w1 ⟨rfl,M',hM,hm,hL,hK,hb,hE,hO⟩
  have c6:=(dR hb).2.2.2.2.2.2
  have c4:=(dR hb).2.2.2.2.1
  have z4:=hb.frozen 4
  replace hE:=Lib.hid hE
  clear hF
  go_wp2_with fail
  refine hE.out.mono ?_
  rintro e w2 ⟨rfl,bl⟩
  obtain rfl:w1=w2:=bl.symm
  have hS:Rb (w1.setCell ⟨f,4,none⟩ (.int .i64 0)) f R.worker R.size u2 u3 0 5 (.iface T (ptr b)):=hb.store 4 _
  have fh:=(ab.refl (·=f) w1).setCell (p:=⟨f,4,none⟩) (.inl rfl) (.int .i64 0)
  have cX:=nI hM hb fh
  have hC:=Lib.hid (Ix cX (by have:(lm M').xs=L'.xs:=by rw [hL]
                              have e:M'.xs=L'.xs:=this
                              rw [e]; exact hx) ga sa {R with err:=0} hS)
  rw [hm,hL] at hC
  have ae:=Lib.hid ((hO.mono (fun x _ q=>(.inl q:S x\/x=f))).trans (fh.mono (fun x _ q=>.inr q)))
  replace cX:=Lib.hid cX
  replace hS:=Lib.hid hS
  replace hK:=Lib.hid hK
  replace hL:=Lib.hid hL
  clear hE hM hm hb hO fh
  go_wp2_with fail
  refine hC.out.mono ?_
  rintro e1 w3 ⟨rfl,a',ha,hR,iC,aq⟩
  have br:=Lib.hid (nI cX.out hS.out aq)
  have aM:=Lib.hid (ae.out.trans (aq.mono (fun x _ q=>.inr q)))
  have xf:=Lib.hid (fun x hx=>(iC x hx).imp id (fun q=>Nat.le_trans ae.out.size q))
  replace hR:=Lib.hid hR
  clear hC aq iC hS cX ae c4 c6 z4
  go_wp2_with fail
  go_ret
  exact ⟨rfl,M',br.out,hL.out,hK.out,aM.out,a',ha,hR.out,xf.out⟩
 ·rw [if_neg h0]
  go_enter Tryz.func169,Tryz.ntmps169
  go_wp2_with fail
  refine hF.out.mono ?_
  rintro e w1 ⟨rfl,M',hM,hm,hL,hK,hb,hE,hO⟩
  have c6:=(dR hb).2.2.2.2.2.2
  have c4:=(dR hb).2.2.2.2.1
  have z4:=hb.frozen 4
  replace hE:=Lib.hid hE
  clear hF
  go_wp2_with fail
  refine hE.out.mono ?_
  rintro e w2 ⟨rfl,bl⟩
  obtain rfl:w1=w2:=bl.symm
  have hS:Rb (w1.setCell ⟨f,4,none⟩ (.int .i64 er)) f R.worker R.size u2 u3 er 5 (.iface T (ptr b)):=hb.store 4 _
  have fh:=(ab.refl (·=f) w1).setCell (p:=⟨f,4,none⟩) (.inl rfl) (.int .i64 er)
  have cX:=nI hM hb fh
  have hC:=Lib.hid (ej (F1:=.func 79) (F2:=.func 137) (b1:=#[]) (b2:=#[ptr f]) hS)
  have ae:=Lib.hid ((hO.mono (fun x _ q=>(.inl q:S x\/x=f))).trans (fh.mono (fun x _ q=>.inr q)))
  replace cX:=Lib.hid cX
  replace hS:=Lib.hid hS
  replace hK:=Lib.hid hK
  replace hL:=Lib.hid hL
  clear hE hM hm hb hO fh
  go_wp2_with fail
  refine hC.out.mono ?_
  rintro e1 w3 ⟨rfl,ay,aq⟩
  have hR:Hid (fy w3 ⟨f,.iface T (ptr b),ga,sa⟩ {R with err:=er,nx:=7}):=Lib.hid (fy.plain ay (by simp))
  have br:=Lib.hid (nI cX.out hS.out aq)
  have aM:=Lib.hid (ae.out.trans (aq.mono (fun x _ q=>.inr q)))
  clear hC aq hS cX ae c4 c6 z4 ay
  go_wp2_with fail
  go_ret
  exact ⟨rfl,M',br.out,hL.out,hK.out,aM.out,_,rfl,hR.out,fun x hx=>.inl (uj (by simp) hx)⟩
end
end Go.Proofs.YtpanebgakndddaaGreat.Zr
namespace Go.Proofs.YtpanebgakndddaaGreat.Zr
open Go Go.RowKit Hp K Fl Rw Hm Ar Mm Wk Pc Me Mq Pu Pn Gt Qs Zp Mx cL Bs
set_option maxRecDepth 100000
theorem IA (n:Nat) (xs hs:List Int) (W:Wt):xs.length<=(aI n xs hs W).1.length:=by
 unfold aI
 split
 ·exact Nat.le_refl _
 split
 ·simp
 split
 ·exact Nat.le_refl _
 ·exact Nat.le_refl _
theorem Tj (L:Lm) (G:Gw.Gr):L.xs.length<=(Gw.aF L G).1.xs.length:=by
 unfold Gw.aF
 split
 ·exact Nat.le_refl _
 split
 ·split
  ·simp
  ·exact Nat.le_refl _
 split
 ·exact Nat.le_refl _
 split
 ·exact Nat.le_refl _
 split
 ·simp
 split
 ·simp
 split
 ·exact IA _ _ _ _
 ·split
  ·exact Nat.le_refl _
  ·exact Nat.le_refl _
theorem Tk (L:Lm) (G:Sw.Sh):L.xs.length<=(Sw.aG L G).1.xs.length:=by
 unfold Sw.aG
 split
 ·exact Nat.le_refl _
 split
 ·split
  ·simp
  ·exact Nat.le_refl _
 split
 ·exact Nat.le_refl _
 split
 ·exact Nat.le_refl _
 split
 ·exact Nat.le_refl _
 split
 ·exact Nat.le_refl _
 split
 ·simp
 split
 ·simp
 ·exact IA _ _ _ _
theorem Tl {w:World} {a:Gw.Gl} {G:Gw.Gr} (h:Gw.bT w a G):Calls Tryz.prog 86 #[ptr a.f] w fun e w'=>e=.returned (.int .i64 G.err)/\w'=w:=by
 have c3:=(Gw.rY h.an).2.2.2.1
 clear h
 go_enter Tryz.func86,Tryz.ntmps86
 go_wp2_with fail
 go_ret
 exact ⟨rfl,rfl⟩
theorem Tm (b:Nat) (w:World) (f:Nat):(method (f+1) 167 (.pointer (some ⟨b,0,none⟩)) "Err").run Tryz.prog w=.ok (86,.pointer (some ⟨b,0,none⟩)) w:=by kernel_rfl
theorem To (b:Nat) (w:World) (f:Nat):(method (f+1) 169 (.pointer (some ⟨b,0,none⟩)) "Err").run Tryz.prog w=.ok (89,.pointer (some ⟨b,0,none⟩)) w:=by kernel_rfl
theorem Tp (args:Array Value) (w:World):(callFunc 86 args).run Tryz.prog w=.ok (.enter 86 args) w:=by kernel_rfl
theorem Tq (args:Array Value) (w:World):(callFunc 89 args).run Tryz.prog w=.ok (.enter 89 args) w:=by kernel_rfl
theorem Tr (args:Array Value) (w:World):(callFunc 77 args).run Tryz.prog w=.ok (.enter 77 args) w:=by kernel_rfl
theorem Ts (args:Array Value) (w:World):(callFunc 80 args).run Tryz.prog w=.ok (.enter 80 args) w:=by kernel_rfl
theorem IB (args:Array Value) (w:World):(callFunc 78 args).run Tryz.prog w=.ok (.enter 78 args) w:=by kernel_rfl
theorem IC (args:Array Value) (w:World):(callFunc 169 args).run Tryz.prog w=.ok (.enter 169 args) w:=by kernel_rfl
theorem ID (args:Array Value) (w:World):(callFunc 137 args).run Tryz.prog w=.ok (.enter 137 args) w:=by kernel_rfl
section
variable {w w':World} {M:Mo} {a:Ra} {R:Rz}
theorem IE {nx:Nat} (h:1<=nx/\nx<=5):iw (iu nx)=j6 nx:=by
 have e:iu nx=nx-1:=by unfold iu; rw [if_neg (by omega),if_pos h.2]
 rw [e]
 unfold iw j6
 by_cases q:nx=1
 ·rw [if_pos q,if_pos (by omega)]
 ·rw [if_neg q,if_neg (by omega)]
theorem Tt (hM:ah w M) (h:fy w a R) (ok:ox (lm M) R):Calls Tryz.prog 270 #[ptr a.f,ptr M.m] w fun e w'=>e=.returned (.bool (gB (lm M) R))/\Below w.heap.size w w':=by
 have c2:=(dR h.an).2.2.1
 unfold kE at c2
 unfold gB
 by_cases q1:1<=R.nx/\R.nx<=5
 ·rw [if_pos q1] at c2 ⊢
  have iB:=ok.wk (by omega)
  have h4:iu R.nx<=4:=by unfold iu; rw [if_neg (by omega),if_pos q1.2]; omega
  have hm:=we hM h.an iB.1 h4 ok.hl
  rw [IE q1] at hm
  rw [show decide (0<=R.worker/\Lo.aE (lm M).hs (j6 R.nx)= -1)=decide (Lo.aE M.hs (j6 R.nx)= -1) by
   by_cases e:Lo.aE M.hs (j6 R.nx)= -1
   ·rw [decide_eq_true e,decide_eq_true ⟨iB.1,e⟩]
   ·rw [decide_eq_false e,decide_eq_false (fun q=>e q.2)]]
  exact CX c2 Tr hm
 rw [if_neg q1] at c2 ⊢
 by_cases q6:R.nx=6
 ·rw [if_pos q6] at c2 ⊢
  rcases ok.inn q6 with ⟨G,e,hG⟩ | ⟨G,e,hG⟩
  ·obtain ⟨t1,t2⟩:=h.cf G q6 e
   rw [t1] at c2
   rw [e]
   exact Iu c2 (Gw.pG.mr _) Gw.pG.er (Gw.pG.ready hM t2 hG)
  ·obtain ⟨t1,t2⟩:=h.shr G q6 e
   rw [t1] at c2
   rw [e]
   exact Iu c2 (Sw.pA.mr _) Sw.pA.er (Sw.pA.ready hM t2 hG)
 ·rw [if_neg q6] at c2 ⊢
  exact CW c2
theorem CY {i:Nat} {v:Int} {R':Rz} (hn:R'.nx≠6) (hw:R'.worker=R.worker/\R'.size=R.size/\R'.err=R.err) (ke:ah w' {M with hs:=M.hs.set i v}) (hB:Rb w' a.f R.worker R.size (kE a.f R'.nx a.tv) (kF a.f R'.nx) R.err (iu R'.nx) a.tv) (hO:ab (fun x=>ao M x\/x=a.f) w w'):
 dk.bf w M a R {lm M with hs:=M.hs.set i v} R' w':=by
 have pb:fy w' a R':=fy.plain (by unfold CV; rw [hw.1,hw.2.1,hw.2.2]; exact hB) hn
 exact ⟨_,a,ke,rfl,⟨rfl,rfl,rfl,rfl,fun x q=>.inl q⟩,pb,rfl,fun x hx=>.inl (.inl (uj hn hx)),hO.mono (fun x _ q=>q.imp id .inl)⟩
theorem Tu (h:fy w a R) {G:Gw.Gr} (hG:Gw.bT w a.ga G):¬Gw.bu a.ga G a.f:=fun hx=>by
 rcases hG.ty hx with q | ⟨ms,q⟩
 ·exact q.apart (aV h.an) (by decide)
 ·exact q.no (aV h.an)
theorem Tv (h:fy w a R) {G:Sw.Sh} (hG:Sw.cI w a.sa G):¬Sw.cg a.sa G a.f:=fun hx=>by
 rcases hG.ty hx with q | ⟨ms,q⟩
 ·exact q.apart (aV h.an) (by decide)
 ·exact q.no (aV h.an)
theorem Tw (hM:ah w M) (h:fy w a R) (h6:R.nx=6) {G:Gw.Gr} (e:R.inn=.cf G) (ok:Gw.pF (lm M) G) (hx:1<M.xs.length) (hr:Gw.kW (lm M) G=true):
 Calls Tryz.prog 169 #[ptr a.f,ptr M.m] w fun x w'=>x=.returned (.bool false)/\dk.bf w M a R (Gw.aF (lm M) G).1 (if Gw.ck (lm M) G=true then after (Gw.aF (lm M) G).1 {R with inn:=.cf (Gw.aF (lm M) G).2} (Gw.aF (lm M) G).2.err else {R with inn:=.cf (Gw.aF (lm M) G).2}) w':=by
 obtain ⟨t1,t2⟩:=h.cf G h6 e
 have bt:=Gw.pG.step hM t2 ok hr
 have iz:=Tu h t2
 have dp:¬ao M a.f:=pL h.an hM
 have oe:Rb w a.f R.worker R.size (kE a.f R.nx a.tv) (kF a.f R.nx) R.err (iu R.nx) a.tv:=h.an
 have hh:iu R.nx=5:=by rw [h6]; rfl
 cases hd:Gw.ck (lm M) G with
 | false=>
   rw [if_neg (by simp)]
   rw [t1] at oe
   rw [hd] at bt
   refine (Iy oe (Gw.pG.ms _) Gw.pG.es bt).mono ?_
   rintro x w' ⟨rfl,M',ga',r1,r2,r3,r4,r5,r6,r7⟩
   refine ⟨rfl,M',{a with ga:=ga'},r1,r2,r3,⟨?_,fun G' _ q=>?_,fun G' _ q=>by simp at q⟩,rfl,fun x hx=>?_,r7.mono (fun x _ q=>q.imp id (fun q=>.inr (.inl ⟨G,h6,e,q⟩)))⟩
   ·exact h.an.only r7 (fun q=>q.elim dp iz)
   ·injection q with q
    subst q
    exact ⟨by rw [show ga'.f=a.ga.f from r5]; exact t1,r4⟩
   ·rcases hx with q | ⟨G',_,q2,q3⟩ | ⟨G',_,q2,_⟩
    ·exact .inl (.inl q)
    ·injection q2 with q2
     subst q2
     exact (r6 x q3).imp (fun q=>.inr (.inl ⟨G,h6,e,q⟩)) id
    ·simp at q2
 | true=>
   rw [if_pos rfl]
   rw [hh,t1] at oe
   rw [hd] at bt
   have bz:1<(Gw.aF (lm M) G).1.xs.length:=by
    have:=Tj (lm M) G
    have e:1<(lm M).xs.length:=hx
    omega
   refine (Iz (fe:=86) (er:=(Gw.aF (lm M) G).2.err) (L':=(Gw.aF (lm M) G).1) (S:=fun x=>ao M x\/Gw.bu a.ga G x) a.ga a.sa {R with inn:=.cf (Gw.aF (lm M) G).2} oe (Gw.pG.ms _) Gw.pG.es (Tm _) Tp bz (bt.mono ?_)).mono ?_
   ·rintro x w' ⟨rfl,M',ga',r1,r2,r3,r4,r5,r6,r7⟩
    have hE:=Tl r4
    rw [show ga'.f=a.ga.f from r5] at hE
    exact ⟨rfl,M',r1,r3.m,r2,r3,oe.only r7 (fun q=>q.elim dp iz),hE,r7⟩
   ·rintro x w' ⟨rfl,M',r1,r2,r3,r4,a',r5,r6,r7⟩
    refine ⟨rfl,M',a',r1,r2,r3,r6,r5,fun x hx=>(r7 x hx).imp .inl id,r4.mono (fun x _ q=>?_)⟩
    rcases q with (q | q) | q
    ·exact .inl q
    ·exact .inr (.inr (.inl ⟨G,h6,e,q⟩))
    ·exact .inr (.inl q)
theorem Tx (hM:ah w M) (h:fy w a R) (h6:R.nx=6) {G:Sw.Sh} (e:R.inn=.shr G) (ok:Sw.pz (lm M) G) (hx:1<M.xs.length) (hr:Sw.eL (lm M) G=true):
 Calls Tryz.prog 169 #[ptr a.f,ptr M.m] w fun x w'=>x=.returned (.bool false)/\dk.bf w M a R (Sw.aG (lm M) G).1 (if Sw.bY (lm M) G=true then after (Sw.aG (lm M) G).1 {R with inn:=.shr (Sw.aG (lm M) G).2} (Sw.aG (lm M) G).2.err else {R with inn:=.shr (Sw.aG (lm M) G).2}) w':=by
 obtain ⟨t1,t2⟩:=h.shr G h6 e
 have bt:=Sw.pA.step hM t2 ok hr
 have iz:=Tv h t2
 have dp:¬ao M a.f:=pL h.an hM
 have oe:Rb w a.f R.worker R.size (kE a.f R.nx a.tv) (kF a.f R.nx) R.err (iu R.nx) a.tv:=h.an
 have hh:iu R.nx=5:=by rw [h6]; rfl
 cases hd:Sw.bY (lm M) G with
 | false=>
   rw [if_neg (by simp)]
   rw [t1] at oe
   rw [hd] at bt
   refine (Iy oe (Sw.pA.ms _) Sw.pA.es bt).mono ?_
   rintro x w' ⟨rfl,M',sa',r1,r2,r3,r4,r5,r6,r7⟩
   refine ⟨rfl,M',{a with sa:=sa'},r1,r2,r3,⟨?_,fun G' _ q=>by simp at q,fun G' _ q=>?_⟩,rfl,fun x hx=>?_,r7.mono (fun x _ q=>q.imp id (fun q=>.inr (.inr ⟨G,h6,e,q⟩)))⟩
   ·exact h.an.only r7 (fun q=>q.elim dp iz)
   ·injection q with q
    subst q
    exact ⟨by rw [show sa'.f=a.sa.f from r5]; exact t1,r4⟩
   ·rcases hx with q | ⟨G',_,q2,_⟩ | ⟨G',_,q2,q3⟩
    ·exact .inl (.inl q)
    ·simp at q2
    ·injection q2 with q2
     subst q2
     exact (r6 x q3).imp (fun q=>.inr (.inr ⟨G,h6,e,q⟩)) id
 | true=>
   rw [if_pos rfl]
   rw [hh,t1] at oe
   rw [hd] at bt
   have bz:1<(Sw.aG (lm M) G).1.xs.length:=by
    have:=Tk (lm M) G
    have e:1<(lm M).xs.length:=hx
    omega
   refine (Iz (fe:=89) (er:=(Sw.aG (lm M) G).2.err) (L':=(Sw.aG (lm M) G).1) (S:=fun x=>ao M x\/Sw.cg a.sa G x) a.ga a.sa {R with inn:=.shr (Sw.aG (lm M) G).2} oe (Sw.pA.ms _) Sw.pA.es (To _) Tq bz (bt.mono ?_)).mono ?_
   ·rintro x w' ⟨rfl,M',sa',r1,r2,r3,r4,r5,r6,r7⟩
    have hE:=Sw.qx r4
    rw [show sa'.f=a.sa.f from r5] at hE
    exact ⟨rfl,M',r1,r3.m,r2,r3,oe.only r7 (fun q=>q.elim dp iz),hE,r7⟩
   ·rintro x w' ⟨rfl,M',r1,r2,r3,r4,a',r5,r6,r7⟩
    refine ⟨rfl,M',a',r1,r2,r3,r6,r5,fun x hx=>(r7 x hx).imp .inl id,r4.mono (fun x _ q=>?_)⟩
    rcases q with (q | q) | q
    ·exact .inl q
    ·exact .inr (.inr (.inr ⟨G,h6,e,q⟩))
    ·exact .inr (.inl q)
theorem Tz (hM:ah w M) (h:fy w a R) (ok:ox (lm M) R) (hr:gB (lm M) R=true):
 Calls Tryz.prog 271 #[ptr a.f,ptr M.m] w fun e w'=>e=.returned (.bool (eK (lm M) R))/\dk.bf w M a R (bC (lm M) R).1 (bC (lm M) R).2 w':=by
 have c3:=(dR h.an).2.2.2.1
 unfold kF at c3
 have fF:=ok.nx
 have hB:Rb w a.f R.worker R.size (kE a.f R.nx a.tv) (kF a.f R.nx) R.err (iu R.nx) a.tv:=h.an
 by_cases e0:R.nx=0
 ·rw [if_pos e0] at c3
  rw [show eK (lm M) R=true from decide_eq_true (.inl e0)]
  have es:bC (lm M) R=(lm M,{R with err:=5,nx:=12}):=by unfold bC; rw [if_pos e0]
  rw [es]
  refine mg c3 Ts ((Te hB (ptr M.m)).mono ?_)
  rintro x w' ⟨rfl,pb,hO⟩
  have hR:fy w' a {R with err:=5,nx:=12}:=fy.plain (by rw [e0] at pb; exact pb) (by simp)
  exact ⟨rfl,M,a,nI hM hB hO,rfl,gn.refl _ _,hR,rfl,fun x hx=>.inl (.inl (uj (by simp) hx)),hO.mono (fun x _ q=>.inr (.inl q))⟩
 rw [if_neg e0] at c3
 have iB:=ok.wk e0
 by_cases e5:R.nx<=5
 ·rw [if_pos e5] at c3
  have hh:iu R.nx=R.nx-1:=by unfold iu; rw [if_neg e0,if_pos e5]
  have hq:1<=R.nx/\R.nx<=5:=⟨by omega,e5⟩
  rw [show eK (lm M) R=false from decide_eq_false (by omega)]
  unfold gB at hr
  rw [if_pos hq] at hr
  have lJ:=(of_decide_eq_true hr).2
  rw [<-IE hq,hh] at lJ
  have lJ:Lo.aE M.hs (iw (R.nx-1))<0:=by
   have:Lo.aE M.hs (iw (R.nx-1))= -1:=lJ
   omega
  by_cases e4:R.nx=5
  ·have es:bC (lm M) R=({lm M with hs:=M.hs.set 4 R.worker},look (lm M) R):=by
    unfold bC; rw [if_neg e0,if_neg (by omega),if_neg (by omega),if_pos e4]
   rw [es]
   rw [hh,e4] at hB
   rw [e4] at lJ
   refine mg c3 IB ((Tg hM a.ga a.sa R hB iB ok.hl ok.x1 lJ).mono ?_)
   rintro x w' ⟨rfl,ke,hO,a',ha,hR,iC⟩
   exact ⟨rfl,_,a',ke,rfl,⟨rfl,rfl,rfl,rfl,fun x q=>.inl q⟩,hR,ha,fun x hx=>(iC x hx).imp .inl id,hO.mono (fun x _ q=>q.imp id .inl)⟩
  ·have uC:R.nx-1<4:=by omega
   have es:bC (lm M) R=({lm M with hs:=M.hs.set (iw (R.nx-1)) R.worker},{R with nx:=R.nx+1}):=by
    unfold bC iw
    rw [if_neg e0]
    by_cases e1:R.nx=1
    ·rw [if_pos e1,if_pos (by omega),e1]
    ·rw [if_neg e1,if_pos (by omega),if_neg (by omega)]
   rw [es]
   rw [hh] at hB
   refine mg c3 IB ((Tf hM hB iB uC ok.hl lJ).mono ?_)
   rintro x w' ⟨rfl,ke,pb,hO⟩
   refine ⟨rfl,CY (by show R.nx+1≠6; omega) ⟨rfl,rfl,rfl⟩ ke ?_ hO⟩
   have h1:kE a.f (R.nx+1) a.tv=kE a.f R.nx a.tv:=by unfold kE; rw [if_pos (by omega),if_pos hq]
   have h2:kF a.f (R.nx+1)=kF a.f R.nx:=by unfold kF; rw [if_neg (by omega),if_pos (by omega),if_neg e0,if_pos e5]
   have h3:iu (R.nx+1)=R.nx-1+1:=by unfold iu; rw [if_neg (by omega),if_pos (by omega)]; omega
   show Rb w' a.f R.worker R.size (kE a.f (R.nx+1) a.tv) (kF a.f (R.nx+1)) R.err (iu (R.nx+1)) a.tv
   rw [h1,h2,h3]
   exact pb
 rw [if_neg e5] at c3
 by_cases e6:R.nx=6
 ·rw [if_pos e6] at c3
  rw [show eK (lm M) R=false from decide_eq_false (by omega)]
  unfold gB at hr
  rw [if_neg (by omega),if_pos e6] at hr
  rcases ok.inn e6 with ⟨G,e,hG⟩ | ⟨G,e,hG⟩
  ·rw [e] at hr
   have es:bC (lm M) R=((Gw.aF (lm M) G).1,if Gw.ck (lm M) G=true then after (Gw.aF (lm M) G).1 {R with inn:=.cf (Gw.aF (lm M) G).2} (Gw.aF (lm M) G).2.err else {R with inn:=.cf (Gw.aF (lm M) G).2}):=by
    unfold bC; rw [if_neg e0,if_neg (by omega),if_neg (by omega),if_neg (by omega),if_pos e6,e]
   rw [es]
   exact mg c3 IC (Tw hM h e6 e hG ok.x1 hr)
  ·rw [e] at hr
   have es:bC (lm M) R=((Sw.aG (lm M) G).1,if Sw.bY (lm M) G=true then after (Sw.aG (lm M) G).1 {R with inn:=.shr (Sw.aG (lm M) G).2} (Sw.aG (lm M) G).2.err else {R with inn:=.shr (Sw.aG (lm M) G).2}):=by
    unfold bC; rw [if_neg e0,if_neg (by omega),if_neg (by omega),if_neg (by omega),if_pos e6,e]
   rw [es]
   exact mg c3 IC (Tx hM h e6 e hG ok.x1 hr)
 rw [if_neg e6,if_pos fF] at c3
 have hh:iu R.nx=12-R.nx:=by unfold iu; rw [if_neg e0,if_neg e5,if_neg e6]
 have WL:kE a.f R.nx a.tv=dW 79:=by unfold kE; rw [if_neg (by omega),if_neg e6]
 have WM:kF a.f R.nx=aT 137 (ptr a.f):=by unfold kF; rw [if_neg e0,if_neg e5,if_neg e6,if_pos fF]
 by_cases e10:R.nx<=10
 ·rw [show eK (lm M) R=false from decide_eq_false (by omega)]
  have es:bC (lm M) R=({lm M with hs:=M.hs.set (11-R.nx) (-1)},{R with nx:=R.nx+1}):=by
   unfold bC; rw [if_neg e0,if_neg (by omega),if_neg (by omega),if_neg (by omega),if_neg e6,if_pos e10]
  rw [es]
  have WN:=ok.held (by omega) e10
  rw [hh,show 12-R.nx=11-R.nx+1 by omega] at hB
  refine mg c3 ID ((Th hM hB iB.1 (by omega) (by omega) ok.hl WN).mono ?_)
  rintro x w' ⟨rfl,ke,pb,hO⟩
  refine ⟨rfl,CY (by show R.nx+1≠6; omega) ⟨rfl,rfl,rfl⟩ ke ?_ hO⟩
  have h1:kE a.f (R.nx+1) a.tv=kE a.f R.nx a.tv:=by rw [WL]; unfold kE; rw [if_neg (by omega),if_neg (by omega)]
  have h2:kF a.f (R.nx+1)=kF a.f R.nx:=by rw [WM]; unfold kF; rw [if_neg (by omega),if_neg (by omega),if_neg (by omega),if_pos (by omega)]
  have h3:iu (R.nx+1)=11-R.nx:=by unfold iu; rw [if_neg (by omega),if_neg (by omega),if_neg (by omega)]; omega
  show Rb w' a.f R.worker R.size (kE a.f (R.nx+1) a.tv) (kF a.f (R.nx+1)) R.err (iu (R.nx+1)) a.tv
  rw [h1,h2,h3]
  exact pb
 ·have e11:R.nx=11:=by omega
  rw [show eK (lm M) R=true from decide_eq_true (.inr (by omega))]
  have es:bC (lm M) R=({lm M with hs:=M.hs.set 5 (-1)},{R with nx:=12}):=by
   unfold bC; rw [if_neg e0,if_neg (by omega),if_neg (by omega),if_neg (by omega),if_neg e6,if_neg e10]
  rw [es]
  rw [hh,e11] at hB
  refine mg c3 ID ((Ti hM hB iB.1 ok.hl (ok.last e11)).mono ?_)
  rintro x w' ⟨rfl,ke,pb,hO⟩
  exact ⟨rfl,CY (by show 12≠6; omega) ⟨rfl,rfl,rfl⟩ ke pb hO⟩
end
theorem oz:oA dk 137 270 271 ox gB bC eK where
 below h hb:=Fp h hb
 mr b w f:=by kernel_rfl
 ms b w f:=by kernel_rfl
 er args w:=by kernel_rfl
 es args w:=by kernel_rfl
 ready hM h ok:=Tt hM h ok
 step hM h ok hr:=Tz hM h ok hr
end Go.Proofs.YtpanebgakndddaaGreat.Zr
namespace Go.Proofs.YtpanebgakndddaaGreat.yq
open Go Go.RowKit Hp K Fl Rw Hm Ar Mm Me LK Wk fk
set_option maxRecDepth 100000
theorem Br (n:Nat):fo (List.replicate n .zero):=fun k=>by
 simp only [ai,List.getD,List.getElem?_replicate]
 split<;>simp [Sl.zero,Nd.zero]
theorem yK {W0 a b:World} {M:Mo} {f:Nat} (ha:Below W0.heap.size W0 a) (aW:∀ x,ao M x->W0.heap.size<=x) (hf:W0.heap.size<=f) (ho:ab (fun x=>ao M x\/x=f) a b):Below W0.heap.size W0 b:=
 ha.trans (ho.toBelow ha.size (fun x hx q=>by
  rcases q with q | q
  ·have:=aW x q; omega
  ·omega))
theorem QG (f:Nat) (k:ByteArray) (ss:List Sl) (F:Bool):vV [1,0,0,0] ss 5 (F,new f 3 0 k)=(1,true,(F,{new f 3 0 k with nx:=3})):=by
 simp [vV,fin,aF,ck,dy,word,new,Cl.nth]
set_option maxHeartbeats 1000000 in
theorem ey (w:World):Calls Tryz.prog 116 #[] w fun e w'=>e=.returned (.bool true)/\Below w.heap.size w w':=by
 have hN:=Lib.hid (mJ 1 1 w (by omega) (by omega))
 go_enter Tryz.func116,Tryz.ntmps116
 go_wp2_with fail
 refine hN.out.mono ?_
 rintro e w1 ⟨M,rfl,hM,aW,hB,h1,h2,h3,h4,h5,h6,h7⟩
 clear hN
 have hE:=Lib.hid (mO 3 0 ⟨#[97]⟩ w1)
 replace hM:=Lib.hid hM
 replace aW:=Lib.hid aW
 replace hB:=Lib.hid hB
 replace h1:=Lib.hid h1
 replace h2:=Lib.hid h2
 clear h3 h7 h5 h4 h6
 go_wp2_with fail
 refine hE.out.mono ?_
 rintro e w2 ⟨rfl,gL,ag⟩
 have aB:=hM.out.below ag
 have dL:w.heap.size<=w1.heap.size:=hB.out.size
 have fL:=Lib.hid (hB.out.trans (ag.mono dL))
 have hF:=QH aB gL (by rw [h2.out]; exact Br 1) 5 (by omega) ⟨by simp [new],by simp [new],by simp [new],by simp [new]⟩
 rw [h1.out,show (1:Int)::List.replicate (1+2) 0=[1,0,0,0] from rfl,QG] at hF
 replace hF:=Lib.hid hF
 clear hM hE ag gL aB hB
 generalize w1.heap.size=f at*
 replace dL:=Lib.hid dL
 go_wp2_with fail
 refine hF.out.mono ?_
 rintro e w3 ⟨rfl,br,dq,_,aq⟩
 have ay:=Lib.hid (yK fL.out aW.out dL.out aq)
 have cG:Hid (Calls Tryz.prog 128 #[ptr f] w3 fun e w'=>e=.returned (.tuple #[.int .u64 0,.agg #[.string ⟨#[]⟩,.string ⟨#[]⟩,.int .u32 0,.int .u64 0],.bool false])/\Below w3.heap.size w3 w'):=Lib.hid (BD dq)
 replace br:=Lib.hid br
 replace dq:=Lib.hid dq
 clear hF aq fL
 go_wp2_with fail
 refine cG.out.mono ?_
 rintro e w4 ⟨rfl,az⟩
 have fV:=dq.out.below az
 have jj:=Lib.hid (ay.out.trans (az.mono ay.out.size))
 have lf:=fV.lt
 replace fV:=Lib.hid fV
 clear br dq ay az cG
 go_wp2_with fail
 refine (yL.ey _).mono ?_
 rintro e w5 ⟨rfl,bI⟩
 have D6:Below w4.heap.size w4 w5:=((Below.refl _ _).alloc (Nat.le_refl _) _).trans (bI.mono (by simp))
 have n6:=Lib.hid (jj.out.trans (D6.mono jj.out.size))
 have zX:Hid (Calls Tryz.prog 154 #[ptr f] w5 fun e w'=>e=.returned (.int .u64 0)/\w5=w'):=Lib.hid (Hx (fV.out.below D6))
 clear bI D6 jj fV
 go_wp2_with (go_at_call 154; refine zX.out.mono ?_; rintro e w' ⟨rfl,rfl⟩)
 go_ret
 exact ⟨rfl,n6.out⟩
end Go.Proofs.YtpanebgakndddaaGreat.yq
namespace Go.Proofs.YtpanebgakndddaaGreat.jq
end Go.Proofs.YtpanebgakndddaaGreat.jq
namespace Go.Proofs.YtpanebgakndddaaGreat.jr
open Go Go.RowKit Hp K Fl Rw Hm Ar Mm Me LK Wk Pc jq
set_option maxRecDepth 100000
def NC (p:Pr):List Value:=[.string p.1,.string p.2]
abbrev ND (w:World) (A:Option Addr) (cap:Nat) (l:List Pr):Prop:=Row w 153 2 NC A cap l
end Go.Proofs.YtpanebgakndddaaGreat.jr
namespace Go.Proofs.YtpanebgakndddaaGreat.jq
open Go Go.RowKit Hp K Fl Rw Hm Ar Mm Me LK Qs Wk Gt Pc fk
set_option maxRecDepth 100000
theorem Uy {W0 a b:World} {M:Mo} {g:Ga} (ha:Below W0.heap.size W0 a) (aW:∀ x,ao M x->W0.heap.size<=x) (hg:∀ x,bu g x->W0.heap.size<=x) (ho:ab (fun x=>ao M x\/bu g x) a b):Below W0.heap.size W0 b:=
 ha.trans (ho.toBelow ha.size (fun x hx q=>by
  rcases q with q | q
  ·have:=aW x q; omega
  ·have:=hg x q; omega))
theorem Uz {n k j:Nat} (hn:n<=1024) (hk:k<=8) (hj:j<k) (key:ByteArray) (F:Bool):Ev.Ok ⟨[(1,k+2)],List.replicate n .zero,1::List.replicate (k+2) 0,F,key,j,[],0⟩:=by
 have hb:=HO (n:=1) (by decide) (sm key) (oD key).1
 have hz:∀ i,i≠0->Cl.nth (1::List.replicate (k+2) 0) i=0:=by
  intro i hi
  obtain ⟨i,rfl⟩:∃ i',i=i'+1:=⟨i-1,by omega⟩
  simp only [Cl.nth,List.getD,List.getElem?_cons_succ,List.getElem?_replicate]
  split<;>rfl
 have bU:now (1::List.replicate (k+2) 0) [(1,k+2)]=(1,k+2):=by
  unfold now
  rw [hz 1 (by omega)]
  rfl
 have hc:Ev.cell ⟨[(1,k+2)],List.replicate n .zero,1::List.replicate (k+2) 0,F,key,j,[],0⟩=((k+2:Nat):Int):=by
  unfold Ev.cell cellOf
  simp only
  rw [bU]
  simp only
  rw [if_neg (by omega)]
  omega
 refine ⟨by simp; omega,yq.Br n,?_,⟨by simp; omega,by simp only; omega⟩,?_,hz _ (by simp only; omega),?_,?_,Nat.le_refl _,by simp only; omega⟩
 ·intro i
  simp only [aN,List.getD]
  rcases i with _ | i
  ·simp; omega
  ·simp
 ·intro x hx
  simp only [List.mem_cons,List.mem_replicate] at hx
  omega
 ·rw [hc]; simp only; omega
 ·rw [hc]
  have:word (1::List.replicate (k+2) 0) ((k+2:Nat):Int)=0:=by
   unfold word
   split
   ·rw [Int.toNat_natCast,hz _ (by omega)]; rfl
   ·rfl
  simp only
  rw [this]
  exact .nil
set_option maxHeartbeats 1000000 in
theorem ey (w:World):Calls Tryz.prog 85 #[] w fun e w'=>e=.returned (.bool true)/\Below w.heap.size w w':=by
 have hN:=Lib.hid (mJ 1 1 w (by omega) (by omega))
 go_enter Tryz.func85,Tryz.ntmps85
 go_wp2_with fail
 refine hN.out.mono ?_
 rintro e w1 ⟨M,rfl,hM,aW,hB,h1,h2,h3,h4,h5,h6,h7⟩
 clear hN
 have hE:=Lib.hid (Gt.mO 0 ⟨#[97]⟩ (by simp [maxLen]; decide) w1)
 have hv:Ev.Ok ⟨M.ds,M.ss,M.xs,M.F,⟨#[97]⟩,0,[],0⟩:=by
  rw [h1,h2,h6]
  exact Uz (by omega) (by omega) (by omega) _ _
 replace hv:=Lib.hid hv
 replace hM:=Lib.hid hM
 replace aW:=Lib.hid aW
 replace hB:=Lib.hid hB
 clear h1 h2 h3 h7 h5 h4 h6
 go_wp2_with fail
 refine hE.out.mono ?_
 rintro e w2 ⟨a,rfl,gL,bH,ag⟩
 have aB:=hM.out.below ag
 have dL:w.heap.size<=w1.heap.size:=hB.out.size
 have fL:=Lib.hid (hB.out.trans (ag.mono dL))
 have hF:=Lib.hid (OL aB gL hv.out 20 (by omega))
 have hA:=Lib.hid (fun x hx=>Nat.le_trans dL (bH x hx))
 clear hM hE ag gL aB hB bH hv dL
 go_wp2_with fail
 refine hF.out.mono ?_
 rintro e w3 ⟨n,G,a',rfl,hn,hr,hf,br,fc,ea,_,aq⟩
 obtain rfl:n=5:=by omega
 have ay:=Lib.hid (Uy fL.out aW.out hA.out aq)
 have cG:=Fo fc
 rw [hf.1,hf.2,ea] at cG
 replace cG:Hid (Calls Tryz.prog 95 #[ptr a.f] w3 fun e w'=>e=.returned (.tuple #[.string ⟨#[]⟩,.bool false])/\Below w3.heap.size w3 w'):=Lib.hid cG
 clear hF aq fL br fc hn hr hf ea hA aW
 go_wp2_with fail
 refine cG.out.mono ?_
 rintro e w4 ⟨rfl,az⟩
 have jj:=Lib.hid (ay.out.trans (az.mono ay.out.size))
 clear ay az cG
 go_wp2_with fail
 refine (fk.ey _).mono ?_
 rintro e w5 ⟨rfl,bI⟩
 have n6:=Lib.hid (jj.out.trans (bI.mono jj.out.size))
 clear bI jj
 go_wp2_with fail
 refine (yq.ey _).mono ?_
 rintro e w6 ⟨rfl,gH⟩
 have W2:=Lib.hid (n6.out.trans (gH.mono n6.out.size))
 clear gH n6
 go_wp2_with fail
 go_ret
 exact ⟨rfl,W2.out⟩
end Go.Proofs.YtpanebgakndddaaGreat.jq
namespace Go.Proofs.YtpanebgakndddaaGreat.jr
open Go Go.RowKit Hp K Fl Rw Hm Ar Mm Me LK Qs Wk Re fk Pn Pc Mq Pu jq
set_option maxRecDepth 100000
def Still (us:List TypeId) (w w':World):Prop:=∀ x t cs,t∉us->af w x t cs->af w' x t cs
theorem F0 {S:Nat->Prop} {us:List TypeId} {w w':World} (ho:ab S w w') (hS:∀ x,S x->Ty w x us):Still us w w':=fun x t cs ht hb=>hb.only ho (fun q=>(hS x q).apart (aV hb) (fun t' h1 h2=>by
 have:t'=t:=by simpa using h2
 subst this
 exact ht h1))
structure eI (W0 w:World) (M:Mo) (A:Option Addr) (cap:Nat) (l:List Pr):Prop where
 mem:ah w M
 row:ND w A cap l
 below:Below W0.heap.size W0 w
 kt:∀ x,ao M x->W0.heap.size<=x
 low:∀ x,In A x->W0.heap.size<=x
section
variable {W0 w w':World} {M:Mo} {A:Option Addr} {cap:Nat} {l:List Pr} {n B:Nat} {cs:Nat->List Mq.Hp} {G:Nat}
theorem eI.down (h:eI W0 w M A cap l) (hb:Below w.heap.size w w'):eI W0 w' M A cap l:=
 ⟨h.mem.below hb,h.row.only (ab.aD hb (fun _=>False)) (by simp),h.below.trans (hb.mono h.below.size),h.kt,h.low⟩
theorem eI.jt {M':Mo} {S:Nat->Prop} (h:eI W0 w M A cap l) (hM:ah w' M') (hf:∀ x,ao M' x->ao M x\/w.heap.size<=x) (ho:ab S w w') (hS:∀ x,S x->W0.heap.size<=x) (hA:∀ x,In A x->¬S x):eI W0 w' M' A cap l:=
 ⟨hM,h.row.only ho hA,h.below.trans (ho.toBelow h.below.size (fun x hx q=>by have:=hS x q; omega)),fun x hx=>by
  rcases hf x hx with q | q
  ·exact h.kt x q
  ·have:=h.below.size; omega,h.low⟩
theorem eI.apart (h:eI W0 w M A cap l) {x:Nat} (hx:In A x) {us:List TypeId} (hd:153∉us):¬Ty w x us:=fun q=>q.apart (b9 h.row hx) (by
 intro t ht DA
 have:t=153:=by simpa using DA
 subst this
 exact hd ht)
theorem eI.Bf (h:eI W0 w M A cap l) {x:Nat} (hx:In A x):¬ao M x:=fun q=>h.apart hx (by decide) (h.mem.ty q)
def NF (W0 w w':World) (M:Mo) (A:Option Addr) (cap:Nat) (lr l:List Pr) (n B G:Nat) (key val:ByteArray) (a:Qa):Prop:=
 ∃ (M':Mo) (a':Qa) (P':Pt),eI W0 w' M' A cap lr/\M'.m=M.m/\bF w' a' P'/\a'.f=a.f/\P'.cr=0/\decide (P'.W.found≠0)=(Pc.lk l key).isSome/\M'.ss.length=M.ss.length/\M'.k=M.k/\Still (yo++Bp) w w'/\
   ((gm M.ss=none/\P'.err=4/\lm M'=lm M)\/((gm M.ss).isSome/\P'.err=0/\M'.ws.length=M.ws.length+(if (Pc.lk l key).isSome then 1 else 0)/\∃ cs',∀ l',tM l l' key val->Mp (lm M') n B cs' l' (G+1)))
theorem NG {lr:List Pr} (h:eI W0 w M A cap lr) (hm:Mp (lm M) n B cs l G) (hG:G<=1000000) {a:Qa} {hh:Nat} {i:Int} {key val:ByteArray} (hi:0<=i/\i<=1000) (hP:bF w a (jS hh i key val)) (fS:∀ x,iG a (jS hh i key val) x->W0.heap.size<=x) (K:Nat) (hc:∀ b,b<n->(cs b).length+8<=K) (hK:K<=1000000):
 Calls Tryz.prog 58 #[ptr M.m,.iface 179 (ptr a.f),.int .i64 K] w fun e w'=>(∃ k:Nat,e=.returned (.tuple #[.int .i64 k,.bool true]))/\NF W0 w w' M A cap lr l n B G key val a:=by
 have hE:=hm.rP (key:=key) (val:=val) (i:=i) (hb:=hh) hG hi
 have m9:=hc (aj key n) (dI hm.pw key).1
 refine (NH h.mem hP hE K ⟨by omega,hK⟩).mono fun e w' q=>?_
 obtain ⟨k,s,q1,_,q3,M',a',r1,r2,r3,r4,r5,r7,r8⟩:=q
 obtain ⟨m1,m2,m3⟩:=Bd hm hG hi q3
 have eZ:∀ x,yp.aS a (jS hh i key val) x->iG a (jS hh i key val) x:=fun x q=>q
 refine ⟨⟨k,q1⟩,M',a',s.2,h.jt r1 r3.aS r8 (fun x q=>?_) (fun x hx q=>?_),r3.m,r4,r5,m2,m1,?_,?_,F0 r8 (fun x q=>?_),?_⟩
 ·rcases q with q | q
  ·exact h.kt x q
  ·exact fS x (eZ x q)
 ·rcases q with q | q
  ·exact h.Bf hx q
  ·exact h.apart hx (by decide) (hP.ty (eZ x q))
 ·have e:M'.ss=s.1.ss:=by rw [<-r2]
  rcases m3 with ⟨_,q2,_⟩ | ⟨_,_,_,q4,_⟩
  ·rw [e,q2]
  ·rw [e,q4]
 ·have e:M'.k=s.1.k:=by rw [<-r2]
  rcases m3 with ⟨_,q2,_⟩ | ⟨_,_,_,_,q5,_⟩
  ·rw [e,q2]
  ·rw [e,q5]
 ·rcases q with q | q
  ·exact (h.mem.ty q).mono (fun t ht=>List.mem_append_left _ ht)
  ·exact (hP.ty (eZ x q)).mono (fun t ht=>List.mem_append_right _ ht)
 ·rcases m3 with ⟨q1,q2,q3⟩ | ⟨q1,q2,q3,_,_,q6⟩
  ·exact .inl ⟨q1,q3,r2.trans q2⟩
  ·refine .inr ⟨q1,q2,?_,?_⟩
   ·have e:M'.ws=s.1.ws:=by rw [<-r2]
    rw [e,q3]
   ·rw [r2]; exact q6
theorem ME (hm:Mp (lm M) n B cs l G) (key:ByteArray) {j:Nat} (hj:(j:Int)<M.k):Gt.Ev.Ok ⟨M.ds,M.ss,M.xs,M.F,key,j,bp (cs (aj key n)),(cs (aj key n)).length⟩/\lk (bp (cs (aj key n))) key=lk l key:=by
 have qS:=hm.small
 obtain ⟨ax,au⟩:=dI hm.pw key
 have zy:=hm.ql ax
 have mo:=hm.gC
 have eo:2+M.k<=B:=hm.kB
 have hk:1<=M.k/\M.k<=8:=hm.k
 have bz:B+n<=M.xs.length:=hm.xl
 have hc:Gt.cellOf (sm key) (Me.now M.xs M.ds)=((B+aj key n:Nat):Int):=by
  have bU:Me.now M.xs M.ds=(n,B):=hm.now
  unfold Gt.cellOf
  rw [bU]
  simp only
  rw [if_neg (by omega),au]
  omega
 refine ⟨⟨qS.2,hm.cU,hm.tb,⟨by simp only; omega,by simp only; omega⟩,hm.xb,hm.zero j hj,?_,?_,by simp only [bp,List.length_map]; omega,by simp only; omega⟩,(hm.lk key).symm⟩
 ·unfold Gt.Ev.cell
  simp only
  rw [hc]
  omega
 ·unfold Gt.Ev.cell
  simp only
  rw [hc]
  have e:word M.xs ((B+aj key n:Nat):Int)=(Cl.nth M.xs (B+aj key n)).toNat:=by
   unfold word
   rw [if_pos (by omega),Int.toNat_natCast]
  rw [e]
  exact (hm.ch _ ax).cn
end
theorem Mp.x6 {L:Lm} {n B:Nat} {cs:Nat->List Mq.Hp} {l:List Pr} {G:Nat} (h:Mp L n B cs l G):(∀ b,b<n->(cs b).length<=L.ss.length)/\(du L.ss L.ss.length).length+L.ws.length+l.length=L.ss.length:=by
 have:=h.wr.iF
 have hl:=h.len
 refine ⟨fun b hb=>?_,by omega⟩
 have:=h.ql hb
 omega
theorem E8 (ss:List Sl):gm ss=none↔(du ss ss.length).length=0:=by
 rw [Bq]
 constructor
 ·intro h
  rw [List.length_eq_zero_iff]
  apply List.eq_nil_iff_forall_not_mem.2
  intro a ha
  obtain ⟨h1,h2⟩:=om.1 ha
  rw [h a h1] at h2
  simp at h2
 ·intro h k hk
  by_cases ht:(ai ss k).taken=true
  ·exact ht
  ·have hm:k∈du ss ss.length:=om.2 ⟨hk,by simpa using ht⟩
   have:=List.length_pos_of_mem hm
   omega
theorem NI {L:Lm} {n B N:Nat} (jy:FM.bo n=true) (hn:n<=32) (hN:N<=1024) (hk:1<=L.k/\L.k<=8) (eo:2+L.k<=B) (hB:B<=20) (nU:∀ i,i≠0->i≠1->Cl.nth L.xs i=0) (bz:L.xs.length=B+n) (lh:∀ x∈L.xs,0<=x/\x<=18446744073709551615) (bU:Me.now L.xs L.ds=(n,B)) (aL:∀ i,i<L.ds.length->1<=(aN L.ds i).1/\(aN L.ds i).1<=32/\(aN L.ds i).2+(aN L.ds i).1<=B+n)
 (ur:L.ss=List.replicate N .zero) (sQ:L.hs=List.replicate 6 (-1)) (hF:L.F=false) (iR:L.ws=[]):Mp L n B (fun _=>[]) [] 0:=by
 have ha:gq n (fun _=>([]:List Mq.Hp))=[]:=by simp [gq]
 refine ⟨jy,bU,fun i hi=>?_,fun i=>?_,hk,eo,by omega,lh,by rw [ur]; exact yq.Br N,fun b hb=>?_,fun b _ e he=>by simp at he,fun b _=>by simp,?_,by simp,fun key=>rfl,by rw [ha]; rfl,fun i hi=>nU _ (by omega) (by omega),sQ,hF⟩
 ·have:=aL i hi
  rw [bz]
  omega
 ·by_cases hi:i<L.ds.length
  ·have:=aL i hi
   omega
  ·rw [rT (by omega)]
   simp
 ·rw [nU _ (by omega) (by omega)]
  exact .nil
 ·rw [ha,ur,iR]
  exact F3 N hN
theorem F4 (k i:Nat) (h:i≠0):Cl.nth (1::List.replicate k 0) i=0:=by
 obtain ⟨i,rfl⟩:∃ i',i=i'+1:=⟨i-1,by omega⟩
 simp only [Cl.nth,List.getD,List.getElem?_cons_succ,List.getElem?_replicate]
 split<;>rfl
theorem vg {w w':World} {n k:Nat} {M:Mo} (h:oo w n k M w') (hn:n<=1024) (hk:1<=k/\k<=8):Mp (lm M) 1 (k+2) (fun _=>[]) [] 0:=by
 obtain ⟨hM,aW,hB,h1,h2,h3,h4,h5,h6,h7⟩:=h
 refine NI (N:=n) (by decide) (by omega) hn (by show 1<=M.k/\M.k<=8; omega) (by show 2+M.k<=_; omega) (by omega) (fun i h0 _=>by show Cl.nth M.xs i=0; rw [h1]; exact F4 _ _ h0) (by show M.xs.length=_; rw [h1]; simp) hM.2.1.2.2.1 ?_ ?_ h2 h4 h3 h7
 ·show Me.now M.xs M.ds=_
  unfold Me.now
  rw [h1,F4 _ _ (by omega),h6]
  rfl
 ·intro i hi
  have hi:i<M.ds.length:=hi
  show 1<=(aN M.ds i).1/\(aN M.ds i).1<=32/\(aN M.ds i).2+(aN M.ds i).1<=k+2+1
  rw [h6] at hi ⊢
  have:i=0:=by simpa using hi
  subst this
  exact ⟨by simp [aN],by simp [aN],by simp [aN]⟩
end Go.Proofs.YtpanebgakndddaaGreat.jr
namespace Go.Proofs.YtpanebgakndddaaGreat.lj
open Go Go.RowKit Hp K Fl Rw Hm Ar Mm Me LK Qs Wk Pc Pn Mq Pu Zp Mx cL Bs Zr jr
theorem F6 {S:Type} {rd:S->Bool} {st:S->S} {dn:S->Bool} (R:Nat->S->Prop) (h:∀ k s,R k s->rd s=true/\1<=k/\(dn s=true->k=1)/\(dn s=false->R (k-1) (st s))):
 ∀ K k s,R k s->k<=K->∃ s',fin rd st dn K s=(k,true,s'):=by
 intro K
 induction K with
 | zero=>
   intro k s hR hk
   have:=(h k s hR).2.1
   omega
 | succ K ih=>
   intro k s hR hk
   obtain ⟨h1,h2,h3,h4⟩:=h k s hR
   unfold fin
   rw [if_pos h1]
   cases hd:dn s with
   | true=>
     rw [if_pos rfl,h3 hd]
     exact ⟨_,rfl⟩
   | false=>
     obtain ⟨s',e⟩:=ih (k-1) (st s) (h4 hd) (by omega)
     rw [if_neg (by simp),e]
     exact ⟨s',by simp only; rw [show k-1+1=k by omega]⟩
def left (nx:Nat):Nat:=if nx<=5 then 11-nx else 12-nx
def Idle (L0:Lm) (H:List Nat) (N:mP) (s:Nat) (l:List Pr) (xs:List Int) (ds:List (Nat×Nat)) (k:Nat) (S:Lm×Rz):Prop:=
 (∃ k0,Lone L0 H N s l k0 S)/\S.1.xs=xs/\S.1.ds=ds/\S.2.size=((now xs ds).1:Int)/\1<=S.2.nx/\S.2.nx≠6/\S.2.nx<=11/\k=left S.2.nx
theorem F7 {L0:Lm} {H:List Nat} {N:mP} {s:Nat} {l:List Pr} {xs:List Int} {ds:List (Nat×Nat)} {k:Nat} {S:Lm×Rz} (h:Idle L0 H N s l xs ds k S):gB S.1 S.2=true/\1<=k/\(eK S.1 S.2=true->k=1)/\(eK S.1 S.2=false->Idle L0 H N s l xs ds (k-1) (bC S.1 S.2))/\(bC S.1 S.2).1.xs=xs/\(bC S.1 S.2).1.ds=ds:=by
 obtain ⟨⟨k0,hL⟩,h1,h2,h3,h4,h5,h6,rfl⟩:=h
 obtain ⟨a1,a2,a3,a4,a5⟩:=hL.step
 have cw:1<=left S.2.nx:=by unfold left; split<;>omega
 have hx:(bC S.1 S.2).1.xs=xs/\(bC S.1 S.2).1.ds=ds/\(eK S.1 S.2=false->(bC S.1 S.2).2.size=S.2.size/\(bC S.1 S.2).2.nx=if S.2.nx=5 then 7 else S.2.nx+1):=by
  unfold bC eK
  rw [if_neg (by omega)]
  by_cases q1:S.2.nx=1
  ·rw [if_pos q1]; exact ⟨h1,h2,fun _=>⟨rfl,by rw [q1]; rfl⟩⟩
  rw [if_neg q1]
  by_cases q2:S.2.nx<=4
  ·rw [if_pos q2]; exact ⟨h1,h2,fun _=>⟨rfl,by rw [if_neg (by omega)]⟩⟩
  rw [if_neg q2]
  by_cases q3:S.2.nx=5
  ·rw [if_pos q3]
   have e:Zr.look S.1 S.2={S.2 with nx:=7}:=by unfold Zr.look; rw [h1,h2,if_pos h3.symm]
   exact ⟨h1,h2,fun _=>by rw [e]; exact ⟨rfl,by rw [if_pos q3]⟩⟩
  rw [if_neg q3,if_neg h5]
  by_cases q4:S.2.nx<=10
  ·rw [if_pos q4]; exact ⟨h1,h2,fun _=>⟨rfl,by rw [if_neg (by omega)]⟩⟩
  ·rw [if_neg q4]; exact ⟨h1,h2,fun q=>by have:=of_decide_eq_false q; omega⟩
 refine ⟨a2,cw,fun hd=>?_,fun hd=>?_,hx.1,hx.2.1⟩
 ·unfold eK at hd
  have:=of_decide_eq_true hd
  unfold left
  rw [if_neg (by omega)]
  omega
 ·obtain ⟨b1,b2,b3⟩:=hx
  obtain ⟨b4,b5⟩:=b3 hd
  have hn:¬(S.2.nx=0\/11<=S.2.nx):=of_decide_eq_false hd
  refine ⟨⟨_,a5 hd⟩,b1,b2,by rw [b4]; exact h3,?_,?_,?_,?_⟩
  ·rw [b5]; split<;>omega
  ·rw [b5]; split<;>omega
  ·rw [b5]; split<;>omega
  ·rw [b5]
   unfold left
   by_cases q:S.2.nx=5
   ·rw [if_pos q,q]; rfl
   ·rw [if_neg q]
    split<;>split<;>omega
def kr (L:Lm) (t:Nat):Prop:=L.xs.length<=10+512*t/\L.ds.length<=1+8*t/\1<=Cl.nth L.xs 0/\Cl.nth L.xs 0<=1+20000*t
theorem Bb {a b:Nat} (h:2 ^ a<=2 ^ b):a<=b:=by
 rcases Nat.lt_or_ge b a with q | q
 ·have:=Nat.pow_lt_pow_right (show 1<2 by omega) q
  omega
 ·exact q
theorem yf {n:Nat} (h:FM.bo (n:Int)=true):∃ b,b<=16/\n=2 ^ b:=by
 obtain ⟨b,hb,e⟩:=(FM.Bw _).1 h
 exact ⟨b,hb,by exact_mod_cast e⟩
theorem F8 {b:Nat} (h:2 ^ b<=256):b<=8:=Bb (b:=8) h
theorem MF (few n s:Nat) (hf:few<=30) (hn:FM.bo (n:Int)=true) (hs:FM.bo (s:Int)=true) (jA:n<=256) (oS:s<=256):∃ c x t a,ny few s n c x t a/\c<=19900/\x<=512/\t<=8/\a<=30*256:=by
 obtain ⟨b,hb,rfl⟩:=yf hn
 obtain ⟨k,hk,rfl⟩:=yf hs
 have oR:=F8 jA
 have Dw:=F8 oS
 by_cases h:b<=k
 ·obtain ⟨c,x,hu⟩:=Bc few k hk (k-b) b (by omega)
  obtain ⟨e1,e2,e3⟩:=hu.eqs
  have m1:(k-b)*(15+12*few)<=8*375:=Nat.mul_le_mul (by omega) (by omega)
  have m2:(2*few+4)*2 ^ k<=64*256:=Nat.mul_le_mul (by omega) oS
  exact ⟨c,x,k-b,0,.inl hu,by omega,by omega,by omega,by omega⟩
 ·obtain ⟨c,x,a,hu⟩:=FA few k (b-k) b (by omega) hb
  obtain ⟨e1,e2,e3,e4⟩:=hu.eqs
  have m1:(b-k)*14<=8*14:=Nat.mul_le_mul_right _ (by omega)
  have m2:(few+4)*2 ^ b<=34*256:=Nat.mul_le_mul (by omega) jA
  have m3:few*2 ^ b<=30*256:=Nat.mul_le_mul hf jA
  have m4:x<=2 ^ b:=Nat.le.intro e2
  exact ⟨c,x,b-k,a,.inr hu,by omega,by omega,by omega,by omega⟩
section
variable {W0 w:World} {M:Mo} {n B:Nat} {cs:Nat->List Mq.Hp} {l:List Pr} {G:Nat}
def NT (W0 w w':World) (M:Mo) (l:List Pr) (s G t:Nat) (i:Int) (a:Zr.Ra) (k n:Nat):Prop:=
 ∃ (M':Mo) (a':Zr.Ra) (R':Rz) (B':Nat) (cs':Nat->List Mq.Hp),eI W0 w' M' none 0 []/\M'.m=M.m/\dk.At w' a' R'/\dk.f a'=dk.f a/\R'.err=0/\Mp (lm M') s B' cs' l G/\M'.ss.length=M.ss.length/\M'.k=M.k/\M'.ws=M.ws/\kr (lm M') (t+1)/\(n=s->k=10/\M'.xs.length=M.xs.length)/\ab (fun x=>ao M x\/dk.aS a (bR i s) x) w w'/\∀ x,dk.aS a' R' x->dk.aS a (bR i s) x\/w.heap.size<=x
theorem NU {t:Nat} (h:eI W0 w M none 0 []) (hm:Mp (lm M) n B cs l G) (hG:G<=1000000) (hl:l.length<=30) (fX:kr (lm M) t) (ht:t<=11) {s:Nat} (hs:FM.bo (s:Int)=true) {c x tt ca:Nat} (hw:ny l.length s n c x tt ca) (hc:c<=19900) (hx:x<=512) (wJ:tt<=8) (sP:ca<=30*256) (K:Nat) (hK:c+10<=K/\K<=1000000) {a:Zr.Ra} {i:Int} (hi:0<=i/\i<=1000) (hP:dk.At w a (bR i s)) (fS:∀ x,dk.aS a (bR i s) x->W0.heap.size<=x):
 Calls Tryz.prog 58 #[ptr M.m,.iface 137 (ptr (dk.f a)),.int .i64 K] w fun e w'=>∃ k:Nat,e=.returned (.tuple #[.int .i64 k,.bool true])/\NT W0 w w' M l s G t i a k n:=by
 obtain ⟨u1,u2,u3,u4⟩:=fX
 have v1:M.xs.length<=10+512*t:=u1
 have v2:M.ds.length<=1+8*t:=u2
 have uw:=Fw hm hG u3 (by omega) (by omega) (cap:=1000) ⟨by omega,by omega⟩
 have wK:=Zr.Mp.lX hm
 have nR:ny (pj n B 1000 cs).few s (pj n B 1000 cs).n c x tt ca:=by
  show ny (flat n cs).length s n c x tt ca
  rw [wK]
  exact hw
 have bK:bR i s=⟨i,s,1,0,.none⟩:=by unfold bR; rw [if_pos hs]
 have na:Lone (lm M) (bE n cs) ⟨10+512*(t+1),1+8*(t+1),1+20000*((t:Int)+1)⟩ s l (c+10) (lm M,bR i s):=by
  refine ⟨.rest (pj n B 1000 cs),fun _ _ _=>True,c+10,ca,Nat.le_refl _,uw,⟨⟨by rw [bK]; exact hi,by rw [bK],by rw [bK],Zr.Kp.refl _,by show M.hs.length=6; have:M.hs=List.replicate 6 (-1):=hm.hs; rw [this]; simp,fun j a b=>?_,?_,⟨by simp only; omega,by simp only; omega,by simp only; omega⟩,List.Perm.refl _⟩,.take (pj n B 1000 cs) c x tt ca (by rw [bK]; exact ⟨Nat.le_refl _,by simp⟩) nR (by rw [bK]; simp only; omega) (Nat.le_refl _) (by show 1000+ca<=_; omega) (by simp only; omega) (by simp only; omega)⟩,hm.zero⟩
  ·have:M.hs=List.replicate 6 (-1):=hm.hs
   show Lo.aE M.hs j=dx (bR i s).nx (bR i s).worker j
   rw [bK,this]
   unfold dx Lo.aE
   simp only [List.getD_eq_getElem?_getD,List.getElem?_replicate]
   rw [if_pos (by omega)]
   by_cases q:j=5
   ·rw [if_pos q]; rfl
   ·rw [if_neg q,if_neg (by omega)]; rfl
  ·show Cl.nth (lm M).xs 0+_<=1+20000*((t:Int)+1)
   omega
 have eN:=mN oz h.mem hP (Lone (lm M) (bE n cs) ⟨10+512*(t+1),1+8*(t+1),1+20000*((t:Int)+1)⟩ s l) (fun S=>Qr (lm M) (bE n cs) ⟨10+512*(t+1),1+8*(t+1),1+20000*((t:Int)+1)⟩ s l S.1 S.2/\∀ i:Nat,(i:Int)<S.1.k->Cl.nth S.1.xs (2+i)=0) (fun k S hS=>hS.step) (c+10) K na hK.1 hK.2
 refine eN.mono fun e w' q=>?_
 obtain ⟨k,S,q1,⟨q2,q3⟩,⟨⟨Y,r1,r2,r3,r4,r5,r6,r7,r8,r9,r10⟩,r11⟩,M',a',g1,g2,g3,g4,g5,g6,g7⟩:=q
 refine ⟨k,q1,M',a',S.2,Y.B,Y.cs,h.jt g1 g3.aS g7 (fun x q=>?_) (fun x hx=>by simp [In] at hx),g3.m,g4,g5,r3,?_,?_,?_,?_,?_,fun Vl=>?_,g7,g6⟩
 ·rcases q with q | q
  ·exact h.kt x q
  ·exact fS x q
 ·have:=Zr.Fy hm r1 r7 r6 r11 r5 r4
  rw [r2] at this
  rw [g2]
  exact this
 ·have:(lm M').ss=S.1.ss:=by rw [g2]
  have e:M'.ss=S.1.ss:=this
  rw [e]; exact r6.ss
 ·have:(lm M').k=S.1.k:=by rw [g2]
  have e:M'.k=S.1.k:=this
  rw [e]; exact r6.k
 ·have:(lm M').ws=S.1.ws:=by rw [g2]
  have e:M'.ws=S.1.ws:=this
  rw [e]; exact r6.ws
 ·rw [g2]
  refine ⟨r9,r10,r1.base.p1,?_⟩
  have:((t+1:Nat):Int)=(t:Int)+1:=by omega
  rw [this]
  exact r8
 ·subst Vl
  have JI:Idle (lm M) (bE n cs) ⟨10+512*(t+1),1+8*(t+1),1+20000*((t:Int)+1)⟩ n l M.xs M.ds 10 (lm M,bR i n):=by
   have bU:Me.now M.xs M.ds=(n,B):=hm.now
   exact ⟨⟨_,na⟩,rfl,rfl,by rw [bK,bU],by rw [bK]; simp,by rw [bK]; simp,by rw [bK]; simp,by rw [bK]; rfl⟩
  obtain ⟨S',gW⟩:=F6 (rd:=fun s:Lm×Rz=>gB s.1 s.2) (st:=fun s=>bC s.1 s.2) (dn:=fun s=>eK s.1 s.2) (Idle (lm M) (bE n cs) ⟨10+512*(t+1),1+8*(t+1),1+20000*((t:Int)+1)⟩ n l M.xs M.ds) (fun k S hS=>by obtain ⟨a1,a2,a3,a4,_,_⟩:=F7 hS; exact ⟨a1,a2,a3,a4⟩) K 10 _ JI (by omega)
  obtain ⟨n9,S9,e9,_,Vm⟩:=F9 (rd:=fun s:Lm×Rz=>gB s.1 s.2) (st:=fun s=>bC s.1 s.2) (dn:=fun s=>eK s.1 s.2) (Idle (lm M) (bE n cs) ⟨10+512*(t+1),1+8*(t+1),1+20000*((t:Int)+1)⟩ n l M.xs M.ds) (fun S=>S.1.xs=M.xs) (fun k S hS=>by obtain ⟨a1,a2,a3,a4,a5,_⟩:=F7 hS; exact ⟨a1,a2,fun _=>a5,a4⟩) K 10 _ JI (by omega)
  rw [q3] at gW e9
  injection gW with e1 e2
  injection e9 with e3 e4
  injection e4 with _ e5
  refine ⟨e1,?_⟩
  have:(lm M').xs=S.1.xs:=by rw [g2]
  have e:M'.xs=S.1.xs:=this
  rw [e,e5,Vm]
def NV (W0 w w':World) (M:Mo) (a:Zr.Ra) (i z:Int):Prop:=
 ∃ (M':Mo) (a':Zr.Ra) (R':Rz),eI W0 w' M' none 0 []/\M'.m=M.m/\dk.At w' a' R'/\dk.f a'=dk.f a/\R'.err=5/\lm M'=lm M/\ab (fun x=>ao M x\/dk.aS a (bR i z) x) w w'
theorem NW (h:eI W0 w M none 0 []) (hm:Mp (lm M) n B cs l G) {z:Int} (hz:FM.bo z=false) {a:Zr.Ra} {i:Int} (hP:dk.At w a (bR i z)) (fS:∀ x,dk.aS a (bR i z) x->W0.heap.size<=x) (K:Nat) (hK:1<=K/\K<=1000000):
 Calls Tryz.prog 58 #[ptr M.m,.iface 137 (ptr (dk.f a)),.int .i64 K] w fun e w'=>e=.returned (.tuple #[.int .i64 1,.bool true])/\NV W0 w w' M a i z:=by
 have bK:bR i z=⟨i,z,0,0,.none⟩:=by unfold bR; rw [if_neg (by rw [hz]; simp)]
 have eo:2+M.k<=B:=hm.kB
 have hk:1<=M.k/\M.k<=8:=hm.k
 have bz:B+n<=M.xs.length:=hm.xl
 have sQ:M.hs=List.replicate 6 (-1):=hm.hs
 have eM:ox (lm M) (bR i z):=⟨by rw [bK]; simp,by show 1<M.xs.length; omega,by show M.hs.length=6; rw [sQ]; simp,fun q=>absurd (by rw [bK]) q,fun j=>(hm.tb j).1,fun q=>by rw [bK] at q; simp at q,fun q=>by rw [bK] at q; simp at q,fun q=>by rw [bK] at q; simp at q⟩
 have bt:bC (lm M) (bR i z)=(lm M,{bR i z with err:=5,nx:=12}):=by unfold bC; rw [if_pos (by rw [bK])]
 have eD:gB (lm M) (bR i z)=true:=by unfold gB; rw [bK]; simp
 have ct:eK (lm M) (bR i z)=true:=by unfold eK; rw [bK]; simp
 refine (mN oz h.mem hP (fun k S=>k=1/\S=(lm M,bR i z)) (fun S=>S=(lm M,{bR i z with err:=5,nx:=12})) (fun k S hS=>by
  obtain ⟨rfl,rfl⟩:=hS
  exact ⟨eM,eD,Nat.le_refl _,fun _=>bt,fun q=>by rw [ct] at q; simp at q⟩) 1 K ⟨rfl,rfl⟩ hK.1 hK.2).mono fun e w' q=>?_
 obtain ⟨k,S,q1,⟨q2,q3⟩,q4,M',a',g1,g2,g3,g4,g5,g6,g7⟩:=q
 obtain ⟨S',gW⟩:=F6 (rd:=fun s:Lm×Rz=>gB s.1 s.2) (st:=fun s=>bC s.1 s.2) (dn:=fun s=>eK s.1 s.2) (fun k S=>k=1/\S=(lm M,bR i z)) (fun k S hS=>by
  obtain ⟨rfl,rfl⟩:=hS
  exact ⟨eD,Nat.le_refl _,fun _=>rfl,fun q=>by rw [ct] at q; simp at q⟩) K 1 (lm M,bR i z) ⟨rfl,rfl⟩ hK.1
 rw [q3] at gW
 injection gW with e1 _
 rw [e1] at q1
 rw [q4] at g2 g4
 refine ⟨q1,M',a',_,h.jt g1 g3.aS g7 (fun x q=>?_) (fun x hx=>by simp [In] at hx),g3.m,g4,g5,rfl,g2,g7⟩
 rcases q with q | q
 ·exact h.kt x q
 ·exact fS x q
end
end Go.Proofs.YtpanebgakndddaaGreat.lj
namespace Go.Proofs.YtpanebgakndddaaGreat.F5
open Go Go.RowKit Hp K Fl Rw Hm Ar Mm Me LK Ta fk
set_option maxRecDepth 100000
theorem yK {W0 a b:World} {M:Mo} {f:Nat} (ha:Below W0.heap.size W0 a) (aW:∀ x,ao M x->W0.heap.size<=x) (hf:W0.heap.size<=f) (ho:ab (fun x=>ao M x\/x=f) a b):Below W0.heap.size W0 b:=
 ha.trans (ho.toBelow ha.size (fun x hx q=>by
  rcases q with q | q
  ·have:=aW x q; omega
  ·omega))
theorem Qz (f:Nat):fin (lC [(1,3)]) (dw [1,0,0,0] [(1,3)]) (iK [1,0,0,0]) 9 (List.replicate 6 (-1),(⟨f,0,7,1,0,(0,0),0,false⟩:Ho))=(3,true,[-1,0, -1, -1, -1, -1],⟨f,0,7,5,0,(1,3),1,true⟩):=by
 have e:fB 7 (1,3)=1:=by simp [fB,FM.bucket,FM.bo]
 simp [fin,lC,dw,iK,aN,e,Cl.nth,Lo.aE,List.replicate]
set_option maxHeartbeats 1000000 in
theorem ey (w:World):Calls Tryz.prog 112 #[] w fun e w'=>e=.returned (.bool true)/\Below w.heap.size w w':=by
 have hN:=Lib.hid (mJ 1 1 w (by omega) (by omega))
 go_enter Tryz.func112,Tryz.ntmps112
 go_wp2_with fail
 refine hN.out.mono ?_
 rintro e w1 ⟨M,rfl,hM,aW,hB,h1,h2,h3,h4,h5,h6,h7⟩
 clear hN
 have hE:=Lib.hid (Hq 0 7 w1)
 replace hM:=Lib.hid hM
 replace aW:=Lib.hid aW
 replace hB:=Lib.hid hB
 replace h1:=Lib.hid h1
 replace h4:=Lib.hid h4
 replace h6:=Lib.hid h6
 clear h2 h3 h7 h5
 go_wp2_with fail
 refine hE.out.mono ?_
 rintro e w2 ⟨rfl,gL,ag⟩
 have aB:=hM.out.below ag
 have dL:w.heap.size<=w1.heap.size:=hB.out.size
 have fL:=Lib.hid (hB.out.trans (ag.mono dL))
 have hF:=QB aB gL (by rw [h1.out,h4.out,h6.out]; exact ⟨by simp,by simp,by simp,by simp,by simp,by decide,fun i=>by cases i<;>simp [aN],by simp,by simp,by simp⟩) 9 (by omega)
 rw [h1.out,h4.out,h6.out,show (1:Int)::List.replicate (1+2) 0=[1,0,0,0] from rfl,show (1:Nat)+2=3 from rfl,Qz] at hF
 replace hF:=Lib.hid hF
 clear hM hE ag gL aB hB
 generalize w1.heap.size=f at*
 replace dL:=Lib.hid dL
 go_wp2_with fail
 refine hF.out.mono ?_
 rintro e w3 ⟨rfl,br,tj,_,aq⟩
 simp only at br tj
 have ay:=Lib.hid (yK fL.out aW.out dL.out aq)
 replace br:=Lib.hid br
 replace tj:=Lib.hid tj
 clear hF aq fL
 go_wp2_with fail
 refine (yL.ey w3).mono ?_
 rintro e w4 ⟨rfl,az⟩
 have dM:=br.out.below az
 have jF:=tj.out.below az
 have jj:=ay.out.trans (az.mono ay.out.size)
 have uT:=Hr jF
 have ic:=Lib.hid (QC jF)
 simp only [if_true] at uT
 unfold dv at uT
 replace uT:=Lib.hid uT
 have dn:=Cw
 replace dM:=Lib.hid dM
 replace jF:=Lib.hid jF
 replace jj:=Lib.hid jj
 clear br tj ay az
 go_wp2_with (first
  | (go_at_call 147; refine ic.out.mono ?_; rintro e w' ⟨rfl,hw⟩; obtain rfl:w4=w':=hw.symm))
 refine uT.out.mono ?_
 rintro e w5 ⟨rfl,bI⟩
 have ia:=dM.out.below bI
 have uU:=jF.out.below bI
 have n6:=jj.out.trans (bI.mono jj.out.size)
 have d1:=ia.hd.2.1
 simp only at d1
 have Kj:=Lib.hid (Lo.tC ia.2.2.1 1 (by simp))
 have Kk:=Lib.hid (Hs ia uU ⟨by simp,by simp,by simp,by show 1<M.xs.length; rw [h1.out]; simp,by simp,by show (aN M.ds 0).1<=65536; rw [h6.out]; simp [aN]⟩ (by simp) (by simp [Lo.aE]) rfl)
 have D4:w.heap.size<=f:=dL.out
 replace D4:=Lib.hid D4
 replace ia:=Lib.hid ia
 replace n6:=Lib.hid n6
 clear dM jF jj bI uT ic uU
 go_wp2_with (go_at_call 97; refine Kj.out.mono ?_; rintro e w' ⟨rfl,hw⟩; obtain rfl:w5=w':=hw.symm)
 refine Kk.out.mono ?_
 rintro e w6 ⟨rfl,ji,VY,ft⟩
 have gH:=Lib.hid (yK n6.out aW.out D4.out ft)
 have d2:=ji.hd.2.1
 simp only at d2
 have VZ:=Lib.hid (Lo.tC ji.2.2.1 1 (by simp))
 clear ji VY ft Kk d1 Kj
 go_wp2_with (go_at_call 97; refine VZ.out.mono ?_; rintro e w' ⟨rfl,hw⟩; obtain rfl:w6=w':=hw.symm)
 go_ret
 exact ⟨rfl,gH.out⟩
end Go.Proofs.YtpanebgakndddaaGreat.F5
namespace Go.Proofs.YtpanebgakndddaaGreat.jr
open Go Go.RowKit Hp K Fl Rw Hm Ar Mm Me LK Qs Wk Re fk Pn Pc Mq Pu jq
set_option maxRecDepth 100000
abbrev kA:ByteArray:=⟨#[97]⟩
abbrev kB:ByteArray:=⟨#[98]⟩
abbrev vX:ByteArray:=⟨#[120]⟩
def qB (j:Nat):ByteArray:=if j=1 then kB else kA
def kT (j:Nat):List Pr:=if j=0 then [] else [(kA,vX)]
def qC (W0 w:World) (m j:Nat):Prop:=∃ (M:Mo) (cs:Nat->List Mq.Hp) (G:Nat),eI W0 w M none 0 []/\M.m=m/\Mp (lm M) 1 3 cs (kT j) G/\G<=j/\M.ss.length=1/\M.ws.length=0
theorem NJ:kA≠kB:=by
 intro e
 have:=congrArg ByteArray.data e
 simp at this
theorem qC.down {W0 w w':World} {m j:Nat} (h:qC W0 w m j) (hb:Below w.heap.size w w'):qC W0 w' m j:=by
 obtain ⟨M1,cs,G,hS,r⟩:=h
 exact ⟨M1,cs,G,hS.down hb,r⟩
def tN (j:Nat):Int:=if j=0 then 0 else 4
def rU (j:Nat):Bool:=decide (j=2)
theorem NK:tN 0=0:=rfl
theorem NL:tN 1=4:=rfl
theorem NM:tN 2=4:=rfl
theorem NN:rU 0=false:=rfl
theorem NO:rU 1=false:=rfl
theorem NP:rU 2=true:=rfl
def NQ (W0 w0 w:World) (a:Qa) (m j:Nat):Prop:=∃ (a':Qa) (P:Pt),Still (yo++Bp) w0 w/\qC W0 w m (j+1)/\bF w a' P/\a'.f=a.f/\P.err=tN j/\decide (P.W.found≠0)=rU j
theorem NR {W0 w:World} {m j:Nat} (hj:j<3) (h:qC W0 w m j) {a:Qa} {hh:Nat} (hP:bF w a (jS hh 0 (qB j) vX)) (fS:∀ x,iG a (jS hh 0 (qB j) vX) x->W0.heap.size<=x):
 Calls Tryz.prog 58 #[ptr m,.iface 179 (ptr a.f),.int .i64 50] w fun e w'=>(∃ k:Nat,e=.returned (.tuple #[.int .i64 k,.bool true]))/\NQ W0 w w' a m j:=by
 obtain ⟨M,cs,G,hS,rfl,hm,hG,hl,sV⟩:=h
 have hq:=Mp.x6 hm
 have cE:(lm M).ss.length=1:=hl
 refine (NG hS hm (by omega) (by omega) hP fS 50 (fun b hb=>by have:=hq.1 b hb; omega) (by omega)).mono fun e w' q=>⟨q.1,?_⟩
 obtain ⟨M',a',P',h1,h2,h3,h4,h5,h6,h7,h8,bt,h9⟩:=q.2
 have bX:=E8 M.ss
 have Ve:(du M.ss M.ss.length).length+M.ws.length+(kT j).length=M.ss.length:=hq.2
 by_cases j0:j=0
 ·subst j0
  rcases h9 with ⟨q1,_⟩ | ⟨q1,q2,q3,cs',q4⟩
  ·exfalso
   have:=bX.1 q1
   simp only [kT,if_true,List.length_nil] at Ve
   omega
  ·refine ⟨a',P',bt,⟨M',cs',G+1,h1,h2,?_,by omega,by omega,by rw [q3,sV]; simp [kT,Pc.lk]⟩,h3,h4,by simpa [tN] using q2,?_⟩
   ·refine q4 _ ⟨by simp [kT],fun k=>?_,by simp [kT,Pc.lk]⟩
    simp only [kT,qB,Pc.lk]
    by_cases e:k=kA
    ·simp [e,Pc.lk]
    ·have e':¬kA=k:=fun q=>e q.symm
     simp [e,e',Pc.lk]
   ·rw [h6]
    simp [kT,Pc.lk,rU]
 ·have lJ:gm M.ss=none:=by
   rw [bX]
   have:(kT j).length=1:=by simp [kT,j0]
   omega
  rcases h9 with ⟨_,q2,q3⟩ | ⟨q1,_⟩
  ·refine ⟨a',P',bt,⟨M',cs,G,h1,h2,?_,by omega,by omega,by have e:M'.ws=M.ws:=congrArg Lm.ws q3; rw [e]; exact sV⟩,h3,h4,by unfold tN; rw [if_neg j0]; exact q2,?_⟩
   ·rw [q3]
    have:kT (j+1)=kT j:=by simp [kT,j0]
    rw [this]
    exact hm
   ·rw [h6]
    have Vf:j=1\/j=2:=by omega
    rcases Vf with rfl | rfl
    ·simp [kT,qB,Pc.lk,NJ,rU]
    ·simp [kT,qB,Pc.lk,rU]
  ·rw [lJ] at q1
   simp at q1
set_option maxHeartbeats 2000000 in
theorem ey (w:World):Calls Tryz.prog 83 #[] w fun e w'=>e=.returned (.bool true)/\Below w.heap.size w w':=by
 have hN:=Lib.hid (mJ 1 1 w (by omega) (by omega))
 go_enter Tryz.func83,Tryz.ntmps83
 go_wp2_with fail
 refine hN.out.mono ?_
 rintro e w1 ⟨M,rfl,fT⟩
 have k9:=vg fT (by omega) (by omega)
 obtain ⟨hM,aW,hB,h1,h2,h3,h4,h5,h6,h7⟩:=fT
 have hI:qC w w1 M.m 0:=⟨M,_,0,⟨hM,Row.nil _ _ _ _,hB,aW,by simp [In]⟩,rfl,k9,by omega,by rw [h2]; simp,by rw [h7]; rfl⟩
 obtain ⟨w2,bl⟩:∃ w2,w2=w1.alloc (.cells #[.string kA,.string kB,.string kA] 9):=⟨_,rfl⟩
 have zB:af w2 w1.heap.size 9 #[.string kA,.string kB,.string kA]:=by rw [bl]; exact af.made w1 _ _
 have nV:qC w w2 M.m 0:=by
  obtain ⟨M1,cs,G,hS,r⟩:=hI
  exact ⟨M1,cs,G,hS.down (by rw [bl]; exact (Below.refl _ _).alloc (Nat.le_refl _) _),r⟩
 have dL:=hB.size
 generalize M.m=m at*
 clear hN hM aW hB h1 h2 h3 h4 h5 h6 h7 k9 hI
 go_upto_region 5 with (fail)
 rw [<-bl]
 clear bl
 generalize w1.heap.size=sb at*
 have H0:=Lib.hid (And.intro nV zB)
 clear nV zB
 go_wp2_with fail
 go_loopw [12] (fun c wr=>∃ j:Nat,j<=3/\c=.int .i64 j/\qC w wr m j/\af wr sb 9 #[.string kA,.string kB,.string kA]) (fun c _=>3-(intOf c).toNat)
 case atStart=>exact ⟨0,by omega,rfl,H0.out.1,H0.out.2⟩
 case round=>
  obtain ⟨j,hj,rfl,hI,hQ⟩:=hrel
  clear H0
  have l1:(qB j).size<=maxLen:=by unfold qB; split<;>(simp only [maxLen]; decide)
  have fC:=Lib.hid (Pu.mO 0 (qB j) vX l1 wr)
  have aW:w.heap.size<=wr.heap.size:=by
   obtain ⟨_,_,_,hS,_⟩:=hI
   exact hS.below.size
  have HI:=Lib.hid hI
  have HQ:=Lib.hid hQ
  have c0:=hQ.cell 0
  have c1:=hQ.cell 1
  have c2:=hQ.cell 2
  have pW:=hQ.lt
  simp at c0 c1 c2
  clear hI hQ l1
  have sR:j=0\/j=1\/j=2\/j=3:=by omega
  rcases sR with rfl | rfl | rfl | rfl
  case' inr.inr.inr=>
   have hB:=Lib.hid (show Below w.heap.size w wr from by obtain ⟨_,_,_,hS,_⟩:=HI.out; exact hS.below)
   have Vg:=Lib.hid (fun w=>F5.ey w)
   have Vh:=Lib.hid (fun w=>jq.ey w)
   clear HI HQ c0 c1 c2 fC pW
   go_wp2_with fail
   refine (Vg.out _).mono ?_
   rintro e w3 ⟨rfl,ay⟩
   have jP:=Lib.hid (hB.out.trans (ay.mono hB.out.size))
   clear hB ay
   go_wp2_with fail
   refine (Vh.out _).mono ?_
   rintro e w4 ⟨rfl,az⟩
   have jj:=Lib.hid (jP.out.trans (az.mono jP.out.size))
   clear jP az
   go_wp2_with fail
   go_ret
   exact ⟨rfl,jj.out⟩
  all_goals
   go_wp2_with fail
   refine fC.out.mono ?_
   rintro e w3 ⟨a,hh,rfl,bh,mq,ay⟩
   have DB:=HQ.out.only (ab.aD ay (fun _=>False)) (by simp)
   have hF:=Lib.hid (NR (by omega) (HI.out.down ay) bh (fun x hx=>Nat.le_trans aW (mq x hx)))
   replace DB:=Lib.hid DB
   clear fC HI HQ bh mq c0 c1 c2
   go_wp2_with fail
   refine hF.out.mono ?_
   rintro e w4 ⟨⟨k4,rfl⟩,a',P,bt,zC,jQ,ea,he,hd⟩
   have Vi:=Lib.hid (bt sb _ _ (by decide) DB.out)
   clear bt
   have hE:=qx jQ
   rw [he,ea] at hE
   have hH:=vm jQ
   rw [hd,ea] at hH
   simp only [NK,NL,NM,NN,NO,NP] at hE hH
   replace hE:=Lib.hid hE
   replace hH:=Lib.hid hH
   replace zC:=Lib.hid zC
   clear hF jQ he hd ea
   go_wp2_with fail
   refine hE.out.mono ?_
   rintro e w' ⟨rfl,rfl⟩
   go_wp2_with fail
   refine hE.out.mono ?_
   rintro e w' ⟨rfl,rfl⟩
   go_wp2_with fail
   refine hH.out.mono ?_
   rintro e w5 ⟨rfl,bI⟩
   have Vj:=Lib.hid (zC.out.down bI)
   have Vk:=Lib.hid (Vi.out.only (ab.aD bI (fun _=>False)) (by simp))
   clear hE hH zC bI
   go_wp2_with fail
   go_roundw
   case rel=>exact ⟨_,by omega,by go_num,Vj.out,Vk.out⟩
   case measure=>simp [intOf]; try omega
end Go.Proofs.YtpanebgakndddaaGreat.jr
namespace Go.Proofs.YtpanebgakndddaaGreat.mH
open Go Go.RowKit Hp K Fl Rw Hm Ar Mm Me LK Qs Wk Re fk Pn Pc Mq Pu jq jr Dl
set_option maxRecDepth 100000
section
variable {L:Lm} {n B:Nat} {cs:Nat->List Mq.Hp} {l l':List Pr} {G:Nat} {key val:ByteArray} {i:Int} {hb:Nat}
theorem yd (h:Mp L n B cs l G) {W:Wa} (hf:fI (Mp.ep L n B cs key val i hb) W) (hz:W.found=0->W.nd=.zero):W.nd.val=(Pc.lk l key).getD ⟨#[]⟩:=by
 have hq:=hf
 rw [h.lk]
 rcases hf with ⟨h0,hk,_⟩ | ⟨pre,x,p,t,z,k,hq,hp,hx,hk,bB,hW,hc,jz⟩
 ·have:Pc.lk (bp (cs (aj key n))) key=none:=nz.2 (by simpa using hk)
  rw [this,hz h0]
  rfl
 ·have hm:p∈bp (cs (aj key n)):=by
   have hq:cs (aj key n)=_:=hq
   rw [hq]
   simp
  have hp:p.1=key:=hp
  have hn:((bp (cs (aj key n))).map (·.1)).Nodup:=by
   rw [tE]
   exact h.kd _ (dI h.pw key).1
  have:=vp hn hm
  rw [hp] at this
  rw [this,hW]
  rfl
end
def Jf (W0 w w':World) (M:Mo) (A:Option Addr) (cap:Nat) (lr l:List Pr) (n B G:Nat) (key:ByteArray) (a:Qa):Prop:=
 ∃ (M':Mo) (a':Qa) (D':Dt),eI W0 w' M' A cap lr/\M'.m=M.m/\cB w' a' D'/\a'.f=a.f/\D'.cr=0/\decide (D'.W.found≠0)=(Pc.lk l key).isSome/\D'.W.nd.val=(Pc.lk l key).getD ⟨#[]⟩/\M'.ss.length=M.ss.length/\M'.k=M.k/\Still (yo++FP) w w'/\
   M'.ws.length=M.ws.length+(if (Pc.lk l key).isSome then 1 else 0)/\∃ cs',∀ l',uc l l' key->Mp (lm M') n B cs' l' G
theorem UE {W0 w:World} {M:Mo} {A:Option Addr} {cap:Nat} {l lr:List Pr} {n B:Nat} {cs:Nat->List Mq.Hp} {G:Nat} (h:eI W0 w M A cap lr) (hm:Mp (lm M) n B cs l G) (hG:G<=1000000) {a:Qa} {hh:Nat} {i:Int} {key:ByteArray} (hi:0<=i/\i<=1000) (hP:cB w a (ku hh i key)) (fS:∀ x,gD a (ku hh i key) x->W0.heap.size<=x) (K:Nat) (hc:∀ b,b<n->(cs b).length+8<=K) (hK:K<=1000000):
 Calls Tryz.prog 58 #[ptr M.m,.iface 164 (ptr a.f),.int .i64 K] w fun e w'=>(∃ (k:Nat) (s:Lm×Dt),e=.returned (.tuple #[.int .i64 k,.bool true])/\fin (fun s:Lm×Dt=>fP s.1 s.2) (fun s=>aO s.1 s.2) (fun s=>jb s.1 s.2) K (lm M,ku hh i key)=(k,true,s))/\Jf W0 w w' M A cap lr l n B G key a:=by
 have hE:=hm.rP (key:=key) (val:=⟨#[]⟩) (i:=i) (hb:=hh) hG hi
 have m9:=hc (aj key n) (dI hm.pw key).1
 refine (NB h.mem hP hE K ⟨by omega,hK⟩).mono fun e w' q=>?_
 obtain ⟨k,s,q1,⟨_,q2⟩,⟨W,hf,hz,rfl⟩,M',a',r1,r2,r3,r4,r5,r7,r8⟩:=q
 obtain ⟨m1,m2,m3,cs',m4⟩:=Be hm hf
 have hd:lm M'=gO (lm M) (B+aj key n) W:=r2
 refine ⟨⟨k,_,q1,q2⟩,M',a',_,h.jt r1 r3.aS r8 (fun x q=>?_) (fun x hx q=>?_),r3.m,r4,r5,rfl,tH hm hf,yd hm hf hz,?_,?_,F0 r8 (fun x q=>?_),?_,cs',?_⟩
 ·rcases q with q | q
  ·exact h.kt x q
  ·exact fS x q
 ·rcases q with q | q
  ·exact h.Bf hx q
  ·exact h.apart hx (by decide) (hP.ty q)
 ·have e:M'.ss=(lm M').ss:=rfl
  rw [e,hd,m2]
 ·have e:M'.k=(lm M').k:=rfl
  rw [e,hd,m3]
 ·rcases q with q | q
  ·exact (h.mem.ty q).mono (fun t ht=>List.mem_append_left _ ht)
  ·exact (hP.ty q).mono (fun t ht=>List.mem_append_right _ ht)
 ·have e:M'.ws=(lm M').ws:=rfl
  rw [e,hd,m1]
 ·rw [hd]
  exact m4
def L0:Lm:=⟨[1,0,0,0],List.replicate 6 (-1),[.zero],false,1,[(1,3)],[]⟩
theorem UF (h k:Nat) (s:Lm×Dt) (e:fin (fun s:Lm×Dt=>fP s.1 s.2) (fun s=>aO s.1 s.2) (fun s=>jb s.1 s.2) 50 (L0,ku h 0 kA)=(k,true,s)):k=5:=by
 have:(fin (fun s:Lm×Dt=>fP s.1 s.2) (fun s=>aO s.1 s.2) (fun s=>jb s.1 s.2) 50 (L0,ku h 0 kA)).1=5:=by kernel_rfl
 rw [e] at this
 exact this
set_option maxHeartbeats 2000000 in
theorem ey (w:World):Calls Tryz.prog 60 #[] w fun e w'=>e=.returned (.bool true)/\Below w.heap.size w w':=by
 have hN:=Lib.hid (mJ 1 1 w (by omega) (by omega))
 have hA:=Lib.hid (fun w=>jr.ey w)
 have lA:kA.size<=maxLen:=by simp only [maxLen]; decide
 have K3:=Lib.hid (fun w=>Dl.mO 0 kA lA w)
 clear lA
 go_enter Tryz.func60,Tryz.ntmps60
 go_wp2_with fail
 refine hN.out.mono ?_
 rintro e w1 ⟨M,rfl,fT⟩
 have k9:=vg fT (by omega) (by omega)
 obtain ⟨hM,aW,hB,h1,h2,h3,h4,h5,h6,h7⟩:=fT
 have hL:lm M=L0:=by
  unfold lm L0
  rw [h1,h2,h3,h4,h5,h6,h7]
  rfl
 have hS:eI w w1 M none 0 []:=⟨hM,Row.nil _ _ _ _,hB,aW,by simp [In]⟩
 have sV:M.ws.length=0:=by rw [h7]; rfl
 replace k9:=Lib.hid k9
 replace hL:=Lib.hid hL
 replace hS:=Lib.hid hS
 replace sV:=Lib.hid sV
 clear hN hM aW hB h1 h2 h3 h4 h5 h6 h7
 go_wp2_with fail
 refine (K3.out _).mono ?_
 rintro e w2 ⟨a,hh,rfl,dH,fG,ag⟩
 have mx:=UE (hS.out.down ag) k9.out (by omega) (i:=0) (by omega) dH (fun x hx=>Nat.le_trans hS.out.below.size (fG x hx)) 50 (fun b hb=>by simp) (by omega)
 have aQ:=mx.mono fun e w' q=>show e=.returned (.tuple #[.int .i64 5,.bool true])/\Jf w w2 w' M none 0 [] [] 1 3 0 kA a from by
  obtain ⟨⟨k,s,q1,q2⟩,q3⟩:=q
  rw [hL.out] at q2
  have:=UF _ _ _ q2
  subst this
  exact ⟨q1,q3⟩
 replace aQ:=Lib.hid aQ
 clear mx K3 dH fG ag hL k9 hS
 go_wp2_with fail
 refine aQ.out.mono ?_
 rintro e w3 ⟨rfl,M',a',D',cK,em,Au,ea,EC,uA,K4,nE,hk,bt,iR,_⟩
 have hH:=Dl.vm Au
 rw [uA,K4,ea] at hH
 simp only [Pc.lk] at hH iR
 have K5:M'.ws.length=0:=by rw [iR,sV.out]; rfl
 replace hH:=Lib.hid hH
 have hW:=fun w4 (hb:Below w3.heap.size w3 w4)=>BA (cK.mem.below hb)
 rw [K5,em] at hW
 replace hW:=Lib.hid hW
 have ay:=Lib.hid cK.below
 clear aQ cK Au em ea EC uA K4 nE hk bt iR K5 sV
 go_wp2_with fail
 refine hH.out.mono ?_
 rintro e w4 ⟨rfl,az⟩
 clear hH
 go_wp2_with fail
 refine (hA.out _).mono ?_
 rintro e w5 ⟨rfl,bI⟩
 have rI:=az.trans (bI.mono az.size)
 have lS:=Lib.hid (hW.out w5 rI)
 have n6:=Lib.hid (ay.out.trans (rI.mono ay.out.size))
 clear hA az bI rI ay hW
 go_wp2_with fail
 refine lS.out.mono ?_
 rintro e w6 ⟨rfl,rfl⟩
 clear lS
 go_wp2_with fail
 go_ret
 exact ⟨rfl,n6.out⟩
end Go.Proofs.YtpanebgakndddaaGreat.mH
namespace Go.Proofs.YtpanebgakndddaaGreat.lj
open Go Go.RowKit Hp K Fl Rw Hm Ar Mm Me LK Qs Wk Re fk Pn Pc Mq Pu jq jr mH Dl
set_option maxRecDepth 100000
def Cz (L L':Lm):Prop:=L'.ds=L.ds/\L'.xs.length=L.xs.length/\Cl.nth L'.xs 0=Cl.nth L.xs 0
theorem It {xs:List Int} {i:Nat} (v:Int) (hi:i≠0):Cl.nth (xs.set i v) 0=Cl.nth xs 0:=by
 by_cases hl:i<xs.length
 ·rw [fJ _ _ _ hl,if_neg (by omega)]
 ·rw [List.set_eq_of_length_le (by omega)]
section
variable {W0 w w':World} {M:Mo} {A:Option Addr} {cap:Nat} {l:List Pr} {n B:Nat} {cs:Nat->List Mq.Hp} {G:Nat}
theorem FB {E:Ep} {s:Lm×Pt} (hc:E.c≠0) (h:Qp E s):Cz E.L s.1:=by
 cases h with
 | full W _ _=>exact ⟨rfl,rfl,rfl⟩
 | done W m _ _=>
   refine ⟨(sr E W m).2.1,Ie E W m,?_⟩
   show Cl.nth (dK E W m).xs 0=_
   unfold dK
   split
   ·rfl
   ·exact It _ hc
theorem FD {L:Lm} {c:Nat} {W:Wa} (hc:c≠0):Cz L (gO L c W):=by
 unfold gO
 split
 ·exact ⟨rfl,rfl,rfl⟩
 split
 ·exact ⟨rfl,rfl,rfl⟩
 ·exact ⟨rfl,by simp,It _ hc⟩
end
end Go.Proofs.YtpanebgakndddaaGreat.lj
namespace Go.Proofs.YtpanebgakndddaaGreat.Ca
open Go Go.RowKit Hp K Fl Rw Hm Ar Mm Me LK Qs Wk Pc Pn Mq Pu Zp Mx cL Bs Zr jr lj
theorem Fv {L:Lm} {n B:Nat} {cs:Nat->List Mq.Hp} {l:List Pr} {G t s c x tt ca:Nat} {i:Int} (hm:Mp L n B cs l G) (hG:G<=1000000) (hl:l.length<=30) (fX:kr L t) (ht:t<=200) (hs:FM.bo (s:Int)=true) (hw:ny l.length s n c x tt ca) (hc:c<=19900) (hx:x<=512) (wJ:tt<=8) (sP:ca<=30*256) (hi:0<=i/\i<=1000):
 Lone L (bE n cs) ⟨10+512*(t+1),1+8*(t+1),1+20000*((t:Int)+1)⟩ s l (c+10) (L,bR i s):=by
 obtain ⟨u1,u2,u3,u4⟩:=fX
 have uw:=Fw hm hG u3 (by omega) (by omega) (cap:=1000) ⟨by omega,by omega⟩
 have wK:=Zr.Mp.lX hm
 have nR:ny (pj n B 1000 cs).few s (pj n B 1000 cs).n c x tt ca:=by
  show ny (flat n cs).length s n c x tt ca
  rw [wK]
  exact hw
 have bK:bR i s=⟨i,s,1,0,.none⟩:=by unfold bR; rw [if_pos hs]
 refine ⟨.rest (pj n B 1000 cs),fun _ _ _=>True,c+10,ca,Nat.le_refl _,uw,⟨⟨by rw [bK]; exact hi,by rw [bK],by rw [bK],Zr.Kp.refl _,by show L.hs.length=6; rw [hm.hs]; simp,fun j a b=>?_,?_,⟨by simp only; omega,by simp only; omega,by simp only; omega⟩,List.Perm.refl _⟩,.take (pj n B 1000 cs) c x tt ca (by rw [bK]; exact ⟨Nat.le_refl _,by simp⟩) nR (by rw [bK]; simp only; omega) (Nat.le_refl _) (by show 1000+ca<=_; omega) (by simp only; omega) (by simp only; omega)⟩,hm.zero⟩
 ·show Lo.aE L.hs j=dx (bR i s).nx (bR i s).worker j
  rw [bK,hm.hs]
  unfold dx Lo.aE
  simp only [List.getD_eq_getElem?_getD,List.getElem?_replicate]
  rw [if_pos (by omega)]
  by_cases q:j=5
  ·rw [if_pos q]; rfl
  ·rw [if_neg q,if_neg (by omega)]; rfl
 ·show Cl.nth L.xs 0+_<=1+20000*((t:Int)+1)
  omega
theorem Fx {L L':Lm} {n B:Nat} {cs:Nat->List Mq.Hp} {l:List Pr} {G t s:Nat} {R:Rz} (hm:Mp L n B cs l G) (h:Qr L (bE n cs) ⟨10+512*(t+1),1+8*(t+1),1+20000*((t:Int)+1)⟩ s l L' R) (hz:∀ i:Nat,(i:Int)<L'.k->Cl.nth L'.xs (2+i)=0):
 R.err=0/\(∃ B' cs',Mp L' s B' cs' l G)/\L'.ss.length=L.ss.length/\L'.k=L.k/\L'.ws=L.ws/\kr L' (t+1):=by
 obtain ⟨Y,r1,r2,r3,r4,r5,r6,r7,r8,r9,r10⟩:=h
 have:=Zr.Fy hm r1 r7 r6 hz r5 r4
 rw [r2] at this
 refine ⟨r3,⟨_,_,this⟩,r6.ss,r6.k,r6.ws,r9,r10,r1.base.p1,?_⟩
 have e:((t+1:Nat):Int)=(t:Int)+1:=by omega
 rw [e]
 exact r8
theorem Fz {L:Lm} {n B:Nat} {cs:Nat->List Mq.Hp} {l:List Pr} {G:Nat} {i z:Int} (hm:Mp L n B cs l G) (hz:FM.bo z=false) (k:Nat) (s:Lm×Rz) (hs:k=1/\s=(L,bR i z)):
 ox s.1 s.2/\gB s.1 s.2=true/\1<=k/\(eK s.1 s.2=true->bC s.1 s.2=(L,{bR i z with err:=5,nx:=12}))/\(eK s.1 s.2=false->k-1=1/\bC s.1 s.2=(L,bR i z)):=by
 obtain ⟨rfl,rfl⟩:=hs
 have bK:bR i z=⟨i,z,0,0,.none⟩:=by unfold bR; rw [if_neg (by rw [hz]; simp)]
 have eo:=hm.kB
 have hk:=hm.k
 have bz:=hm.xl
 have sQ:=hm.hs
 have eM:ox L (bR i z):=⟨by rw [bK]; simp,by omega,by rw [sQ]; simp,fun q=>absurd (by rw [bK]) q,fun j=>(hm.tb j).1,fun q=>by rw [bK] at q; simp at q,fun q=>by rw [bK] at q; simp at q,fun q=>by rw [bK] at q; simp at q⟩
 have bt:bC L (bR i z)=(L,{bR i z with err:=5,nx:=12}):=by unfold bC; rw [if_pos (by rw [bK])]
 have eD:gB L (bR i z)=true:=by unfold gB; rw [bK]; simp
 have ct:eK L (bR i z)=true:=by unfold eK; rw [bK]; simp
 exact ⟨eM,eD,Nat.le_refl _,fun _=>bt,fun q=>by rw [ct] at q; simp at q⟩
theorem yd {L:Lm} {n B:Nat} {cs:Nat->List Mq.Hp} {l:List Pr} {G:Nat} {key val:ByteArray} {i:Int} {hb:Nat} (h:Mp L n B cs l G) {W:Wa} (hf:fI (Mp.ep L n B cs key val i hb) W) (hz:W.found=0->W.nd=.zero):W.nd.val=(Pc.lk l key).getD ⟨#[]⟩:=by
 rw [h.lk]
 rcases hf with ⟨h0,hk,_⟩ | ⟨pre,x,p,t,z,k,hq,hp,hx,hk,bB,hW,hc,jz⟩
 ·have:Pc.lk (bp (cs (aj key n))) key=none:=nz.2 (by simpa using hk)
  rw [this,hz h0]
  rfl
 ·have hm:p∈bp (cs (aj key n)):=by
   have hq:cs (aj key n)=_:=hq
   rw [hq]
   simp
  have hp:p.1=key:=hp
  have hn:((bp (cs (aj key n))).map (·.1)).Nodup:=by
   rw [tE]
   exact h.kd _ (dI h.pw key).1
  have:=vp hn hm
  rw [hp] at this
  rw [this,hW]
  rfl
theorem ye {L L':Lm} {t:Nat} (h:kr L t) (hc:Cz L L'):kr L' (t+1):=by
 obtain ⟨u1,u2,u3,u4⟩:=h
 obtain ⟨c1,c2,c3⟩:=hc
 exact ⟨by rw [c2]; omega,by rw [c1]; omega,by rw [c3]; exact u3,by rw [c3]; omega⟩
end Go.Proofs.YtpanebgakndddaaGreat.Ca
namespace Go.Proofs.YtpanebgakndddaaGreat.Ca
open Go Go.RowKit Hp K Fl Rw Hm Ar Mm Me LK Qs Wk Re fk Pc Pn Mq Pu Zp Mx cL Bs Dl Zr jq jr lj
theorem Mz (few n s:Nat) (hf:few<=30) (hn:FM.bo (n:Int)=true) (hs:FM.bo (s:Int)=true) (jA:n<=64) (oS:s<=64):∃ c x t a,ny few s n c x t a/\c<=342+198*few/\x<=512/\t<=8/\a<=30*256:=by
 obtain ⟨b,hb,rfl⟩:=yf hn
 obtain ⟨k,hk,rfl⟩:=yf hs
 have oR:b<=6:=Bb (b:=6) jA
 have Dw:k<=6:=Bb (b:=6) oS
 have ax:1<=2 ^ b:=Nat.one_le_two_pow
 have JE:1<=2 ^ k:=Nat.one_le_two_pow
 by_cases h:b<=k
 ·obtain ⟨c,x,hu⟩:=Bc few k hk (k-b) b (by omega)
  obtain ⟨e1,e2,e3⟩:=hu.eqs
  have m1:(k-b)*(15+12*few)<=6*(15+12*few):=Nat.mul_le_mul_right _ (by omega)
  have m2:(2*few+4)*2 ^ k<=(2*few+4)*64:=Nat.mul_le_mul_left _ oS
  have m3:(2*few+4)*1<=(2*few+4)*2 ^ b:=Nat.mul_le_mul_left _ ax
  exact ⟨c,x,k-b,0,.inl hu,by omega,by omega,by omega,by omega⟩
 ·obtain ⟨c,x,a,hu⟩:=FA few k (b-k) b (by omega) hb
  obtain ⟨e1,e2,e3,e4⟩:=hu.eqs
  have m1:(b-k)*14<=6*14:=Nat.mul_le_mul_right _ (by omega)
  have m2:(few+4)*2 ^ b<=(few+4)*64:=Nat.mul_le_mul_left _ jA
  have m3:few*2 ^ b<=30*64:=Nat.mul_le_mul hf jA
  have m4:x<=2 ^ b:=Nat.le.intro e2
  exact ⟨c,x,b-k,a,.inr hu,by omega,by omega,by omega,by omega⟩
theorem vq {l:List Pr} {key:ByteArray} (hn:(l.map (·.1)).Nodup):(l.filter fun p=>decide (p.1≠key)).length+(if (Pc.lk l key).isSome then 1 else 0)=l.length:=by
 by_cases hk:key∈l.map (·.1)
 ·have h1:(Pc.lk l key).isSome=true:=by
   cases e:Pc.lk l key with
   | some v=>rfl
   | none=>exact absurd hk (nz.1 e)
  rw [if_pos h1]
  clear h1
  induction l with
  | nil=>simp at hk
  | cons a l ih=>
    simp only [List.map_cons,List.nodup_cons] at hn
    by_cases e:a.1=key
    ·have hf:l.filter (fun p=>decide (p.1≠key))=l:=List.filter_eq_self.2 (fun p hp=>by
      simp only [decide_eq_true_eq]
      intro q
      exact hn.1 (by rw [e,<-q]; exact List.mem_map_of_mem hp))
     rw [List.filter_cons_of_neg (by simp [e]),hf]
     rfl
    ·rw [List.filter_cons_of_pos (by simp [e])]
     simp only [List.map_cons,List.mem_cons] at hk
     have:=ih hn.2 (hk.resolve_left (fun q=>e q.symm))
     simp only [List.length_cons]
     omega
 ·have h1:Pc.lk l key=none:=nz.2 hk
  rw [h1]
  rw [List.filter_eq_self.2 (fun p hp=>by
   simp only [decide_eq_true_eq]
   intro q
   exact hk (by rw [<-q]; exact List.mem_map_of_mem hp))]
  simp
def tF (L0:Lm) (l:List Pr) (n G t:Nat) (c:Ct) (s:Lm×Cl):Prop:=
 s.2.done=true/\cr s.2=0/\s.1.ss.length=L0.ss.length/\s.1.k=L0.k/\kr s.1 (t+1)/\∃ (n' B' G':Nat) (cs':Nat->List Mq.Hp),(n'=n\/(n':Int)=c.size)/\G'<=G+1/\
  ((di c=0/\c.kind=1/\gm L0.ss=none/\de s.2=(4,false,⟨#[]⟩)/\Mp s.1 n' B' cs' l G')\/(¬(di c=0/\c.kind=1/\gm L0.ss=none)/\de s.2=gz l c/\∀ l',gA l l' c->Mp s.1 n' B' cs' l' G'/\l'.length+s.1.ws.length<=l.length+L0.ws.length+1))
def pk (R:Nat->Lm×Cl->Prop) (Q:Lm×Cl->Prop):Prop:=∀ k s,R k s->jH s.1 s.2/\iE s.1 s.2=true/\1<=k/\(eA s.1 s.2=true->Q (bL s.1 s.2))/\(eA s.1 s.2=false->R (k-1) (bL s.1 s.2))
theorem pk.mono {R:Nat->Lm×Cl->Prop} {Q Q':Lm×Cl->Prop} (h:pk R Q) (hq:∀ s,Q s->Q' s):pk R Q':=fun k s hr=>by
 obtain ⟨h1,h2,h3,h4,h5⟩:=h k s hr
 exact ⟨h1,h2,h3,fun hd=>hq _ (h4 hd),h5⟩
def rO (L:Lm) (l:List Pr) (c:Ct):Nat:=if c.kind=1 then 8+L.ss.length else 352+198*l.length
section
variable {L:Lm} {l:List Pr} {n B G t:Nat} {cs:Nat->List Mq.Hp} {c:Ct} {i:Nat} {C:Cl}
theorem MA (hm:Mp L n B cs l G) (key:ByteArray) {j:Nat} (hj:(j:Int)<L.k):Gt.Ev.Ok ⟨L.ds,L.ss,L.xs,L.F,key,j,bp (cs (aj key n)),(cs (aj key n)).length⟩/\lk (bp (cs (aj key n))) key=lk l key:=by
 have qS:=hm.small
 obtain ⟨ax,au⟩:=dI hm.pw key
 have zy:=hm.ql ax
 have mo:=hm.gC
 have eo:2+L.k<=B:=hm.kB
 have hk:1<=L.k/\L.k<=8:=hm.k
 have bz:B+n<=L.xs.length:=hm.xl
 have hc:Gt.cellOf (sm key) (Me.now L.xs L.ds)=((B+aj key n:Nat):Int):=by
  have bU:Me.now L.xs L.ds=(n,B):=hm.now
  unfold Gt.cellOf
  rw [bU]
  simp only
  rw [if_neg (by omega),au]
  omega
 refine ⟨⟨qS.2,hm.cU,hm.tb,⟨by simp only; omega,by simp only; omega⟩,hm.xb,hm.zero j hj,?_,?_,by simp only [bp,List.length_map]; omega,by simp only; omega⟩,(hm.lk key).symm⟩
 ·unfold Gt.Ev.cell
  simp only
  rw [hc]
  omega
 ·unfold Gt.Ev.cell
  simp only
  rw [hc]
  have e:word L.xs ((B+aj key n:Nat):Int)=(Cl.nth L.xs (B+aj key n)).toNat:=by
   unfold word
   rw [if_pos (by omega),Int.toNat_natCast]
  rw [e]
  exact (hm.ch _ ax).cn
theorem LC (hm:Mp L n B cs l G) (hG:G<=900000) (hl:l.length<=30) (fX:kr L t) (ht:t<=200) (jA:n<=64) (oS:c.size<=64\/65536<c.size) (hi:(i:Int)<L.k) (hC:jG i c C) (Xe:L.ss.length<=300):
 ∃ (R:Nat->Lm×Cl->Prop) (k:Nat),k<=rO L l c/\R k (L,C)/\pk R (tF L l n G t c):=by
 have Dw:1<=L.k/\L.k<=8:=hm.k
 have mn:0<=(i:Int)/\(i:Int)<=1000:=by omega
 have pT:kr L (t+1):=by obtain ⟨u1,u2,u3,u4⟩:=fX; exact ⟨by omega,by omega,u3,by omega⟩
 have eo:2+L.k<=B:=hm.kB
 have kJ:∀ b,b<n->(cs b).length<=L.ss.length:=fun b hb=>by have:=(Mp.x6 hm).1 b hb; omega
 obtain ⟨c1,c2,c3,c4⟩:=hC
 by_cases h0:di c=0
 case neg=>
  have bX:=c3 h0
  have eC:C=⟨.ref,di c,false⟩:=by cases C; simp only at c1 c2 bX; rw [c1,c2,bX]
  subst eC
  refine ⟨fun k s=>k=1/\s=(L,(⟨.ref,di c,false⟩:Cl)),1,by unfold rO; split<;>omega,⟨rfl,rfl⟩,fun k s hs=>?_⟩
  obtain ⟨rfl,rfl⟩:=hs
  refine ⟨trivial,rfl,Nat.le_refl _,fun _=>?_,fun q=>by simp [eA] at q⟩
  refine ⟨rfl,rfl,rfl,rfl,pT,n,B,G,cs,.inl rfl,by omega,.inr ⟨fun q=>h0 q.1,?_,fun l' cE=>?_⟩⟩
  ·unfold gz; rw [if_pos h0]; rfl
  ·unfold gA at cE
   rw [if_neg (fun q=>h0 q.1),if_neg (fun q=>h0 q.1)] at cE
   rw [cE]; exact ⟨hm,by show l.length+L.ws.length<=_; omega⟩
 obtain ⟨k0,k1,k2,k3⟩:=c4 h0
 have wG:c.kind=0\/c.kind=1\/c.kind=2\/c.kind=3:=by
  unfold di at h0
  split at h0
  ·omega
  ·omega
 rcases wG with hk | hk | hk | hk
 ·
  have bX:=k0 hk
  have eC:C=⟨.get (Gt.mK i c.key),0,false⟩:=by cases C; simp only at c1 c2 bX; rw [c1,c2,bX,h0]
  subst eC
  obtain ⟨hE,cw⟩:=MA hm c.key hi
  have hq:=kJ (aj c.key n) (dI hm.pw c.key).1
  refine ⟨fun k s=>∃ P d,s.2=(⟨.get P,0,d⟩:Cl)/\Gt.Rg ⟨L.ds,L.ss,L.xs,L.F,c.key,i,bp (cs (aj c.key n)),(cs (aj c.key n)).length⟩ L k (s.1,P),5+(cs (aj c.key n)).length,by unfold rO; rw [if_neg (by omega)]; omega,⟨_,_,rfl,0,Gt.Gv.begin hE,by simp only; omega,rfl,rfl,rfl,rfl,rfl⟩,?_⟩
  refine pk.mono (Q:=fun s=>∃ P,s.2=(⟨.get P,0,true⟩:Cl)/\Gt.Qg ⟨L.ds,L.ss,L.xs,L.F,c.key,i,bp (cs (aj c.key n)),(cs (aj c.key n)).length⟩ L (s.1,P)) (Fu (fun k s hs=>Gt.Rg.step hE ⟨rfl,rfl,rfl,rfl⟩ hs) 0) (fun s q=>?_)
  obtain ⟨P,q4,q5,q6⟩:=q
  have q5:s.1=L:=q5
  have q6:Gt.Fits (Pc.lk (bp (cs (aj c.key n))) c.key) P.W:=q6
  rw [cw] at q6
  unfold tF
  rw [q4,q5]
  refine ⟨rfl,rfl,rfl,rfl,pT,n,B,G,cs,.inl rfl,by omega,.inr ⟨fun q=>by omega,?_,fun l' cE=>?_⟩⟩
  ·unfold gz
   rw [if_neg (by omega),if_pos hk]
   show ((0:Int),decide (P.W.found≠0),P.W.nd.val)=_
   rw [q6.1,q6.2]
  ·unfold gA at cE
   rw [if_neg (fun q=>by omega),if_neg (fun q=>by omega)] at cE
   rw [cE]; exact ⟨hm,by show l.length+L.ws.length<=_; omega⟩
 ·
  obtain ⟨hh,bX⟩:=k1 hk
  have eC:C=⟨.put (Pu.jS hh i c.key c.val),0,false⟩:=by cases C; simp only at c1 c2 bX; rw [c1,c2,bX,h0]
  subst eC
  have hE:=hm.rP (key:=c.key) (val:=c.val) (i:=i) (hb:=hh) (by omega) mn
  have hq:=kJ (aj c.key n) (dI hm.pw c.key).1
  refine ⟨fun k s=>∃ P d,s.2=(⟨.put P,0,d⟩:Cl)/\Rq (Mp.ep L n B cs c.key c.val i hh) k (s.1,P),8+(cs (aj c.key n)).length,by unfold rO; rw [if_pos hk]; omega,⟨_,_,rfl,(Rp.s (E:=Mp.ep L n B cs c.key c.val i hh) (4+(cs (aj c.key n)).length) _ _ .a1).q (by omega)⟩,?_⟩
  refine pk.mono (Q:=fun s=>∃ P,s.2=(⟨.put P,0,true⟩:Cl)/\Qp (Mp.ep L n B cs c.key c.val i hh) (s.1,P)) (Fs (R:=Rq (Mp.ep L n B cs c.key c.val i hh)) (Q:=Qp (Mp.ep L n B cs c.key c.val i hh)) (fun k s hs=>by
   obtain ⟨j,hj,hr⟩:=hs
   obtain ⟨h1,h2,h3,h4⟩:=hr.step hE
   refine ⟨hr.ok hE,h1,by omega,h3,fun hd=>?_⟩
   obtain ⟨j',sR,nS⟩:=h4 hd
   exact ⟨j',by omega,nS⟩) 0) (fun s q=>?_)
  obtain ⟨P,q4,q5⟩:=q
  obtain ⟨m1,m2,m3⟩:=Bd hm (by omega) mn q5
  have qT:=FB (by show B+aj c.key n≠0; omega) q5
  have qT:Cz L s.1:=qT
  simp only at m1 m2 m3
  unfold tF
  rw [q4]
  rcases m3 with ⟨p1,p2,p3⟩ | ⟨p1,p2,p3,p4,p5,cs',p6⟩
  ·have g3:s.1=L:=p2
   rw [g3]
   refine ⟨rfl,m2,rfl,rfl,pT,n,B,G,cs,.inl rfl,by omega,.inl ⟨h0,hk,p1,?_,hm⟩⟩
   show (if P.err=0 then ((0:Int),decide (P.W.found≠0),(⟨#[]⟩:ByteArray)) else (P.err,false,⟨#[]⟩))=_
   rw [p3,if_neg (by omega)]
  ·refine ⟨rfl,m2,p4,p5,ye fX qT,n,B,G+1,cs',.inl rfl,by omega,.inr ⟨fun q=>?_,?_,fun l' cE=>?_⟩⟩
   ·have q3:gm L.ss=none:=q.2.2
    rw [q3] at p1
    simp at p1
   ·unfold gz
    rw [if_neg (by omega),if_neg (by omega),if_pos hk]
    show (if P.err=0 then ((0:Int),decide (P.W.found≠0),(⟨#[]⟩:ByteArray)) else (P.err,false,⟨#[]⟩))=_
    rw [if_pos p2,m1]
   ·unfold gA at cE
    rw [if_pos ⟨h0,hk⟩] at cE
    refine ⟨p6 l' (FC hm.ln cE),?_⟩
    have e1:=cE.length_eq
    have e2:=vq (key:=c.key) hm.ln
    simp only [List.length_cons] at e1
    show l'.length+s.1.ws.length<=_
    omega
 ·
  obtain ⟨hh,bX⟩:=k2 hk
  have eC:C=⟨.del (Dl.ku hh i c.key),0,false⟩:=by cases C; simp only at c1 c2 bX; rw [c1,c2,bX,h0]
  subst eC
  have hE:=hm.rP (key:=c.key) (val:=⟨#[]⟩) (i:=i) (hb:=hh) (by omega) mn
  have hq:=kJ (aj c.key n) (dI hm.pw c.key).1
  refine ⟨fun k s=>∃ P d,s.2=(⟨.del P,0,d⟩:Cl)/\Dl.tG (Mp.ep L n B cs c.key ⟨#[]⟩ i hh) k (s.1,P),7+(cs (aj c.key n)).length,by unfold rO; rw [if_neg (by omega)]; omega,⟨_,_,rfl,(Dl.Rd.s (E:=Mp.ep L n B cs c.key ⟨#[]⟩ i hh) (4+(cs (aj c.key n)).length) _ _ .a1).q (by omega)⟩,?_⟩
  refine pk.mono (Q:=fun s=>∃ P,s.2=(⟨.del P,0,true⟩:Cl)/\Dl.Qd (Mp.ep L n B cs c.key ⟨#[]⟩ i hh) (s.1,P)) (Ft (R:=Dl.tG (Mp.ep L n B cs c.key ⟨#[]⟩ i hh)) (Q:=Dl.Qd (Mp.ep L n B cs c.key ⟨#[]⟩ i hh)) (fun k s hs=>by
   obtain ⟨j,hj,hr⟩:=hs
   obtain ⟨h1,h2,h3,h4⟩:=Dl.Rd.step hE hr
   refine ⟨Dl.Rd.ok hE hr,h1,by omega,h3,fun hd=>?_⟩
   obtain ⟨j',sR,nS⟩:=h4 hd
   exact ⟨j',by omega,nS⟩) 0) (fun s q=>?_)
  obtain ⟨P,q4,W,hf,hz,q5⟩:=q
  obtain ⟨m1,m2,m3,cs',m4⟩:=Be hm hf
  injection q5 with q5 q6
  have hd:s.1=gO L (B+aj c.key n) W:=q5
  have cw:=tH hm hf
  have ux:=yd hm hf hz
  have q6:P=Dl.Ep.t (Mp.ep L n B cs c.key ⟨#[]⟩ i hh) 7 {Ep.H (Mp.ep L n B cs c.key ⟨#[]⟩ i hh) with holds:=false} W 0:=q6
  unfold tF
  rw [q4,hd]
  refine ⟨rfl,by rw [q6]; rfl,m2,m3,ye fX (FD (by omega)),n,B,G,cs',.inl rfl,by omega,.inr ⟨fun q=>by omega,?_,fun l' cE=>?_⟩⟩
  ·unfold gz
   rw [if_neg (by omega),if_neg (by omega),if_neg (by omega),if_pos hk]
   show ((0:Int),decide (P.W.found≠0),P.W.nd.val)=_
   rw [q6]
   show ((0:Int),decide (W.found≠0),W.nd.val)=_
   rw [cw,ux]
  ·unfold gA at cE
   rw [if_neg (fun q=>by omega),if_pos ⟨h0,hk⟩] at cE
   refine ⟨m4 l' (FE hm.ln cE),?_⟩
   have e1:=cE.length_eq
   have e2:=vq (key:=c.key) hm.ln
   show l'.length+(gO L (B+aj c.key n) W).ws.length<=_
   omega
 ·
  have bX:=k3 hk
  have eC:C=⟨.rz (Zr.bR i c.size),0,false⟩:=by cases C; simp only at c1 c2 bX; rw [c1,c2,bX,h0]
  subst eC
  cases hp:FM.bo c.size with
  | false=>
    refine ⟨fun k s=>∃ P d,s.2=(⟨.rz P,0,d⟩:Cl)/\k=1/\(s.1,P)=(L,Zr.bR i c.size),1,by unfold rO; rw [if_neg (by omega)]; omega,⟨_,_,rfl,rfl,rfl⟩,?_⟩
    refine pk.mono (Q:=fun s=>∃ P,s.2=(⟨.rz P,0,true⟩:Cl)/\(s.1,P)=(L,{Zr.bR i c.size with err:=5,nx:=12})) (yc (R:=fun k s=>k=1/\s=(L,Zr.bR i c.size)) (Q:=fun s=>s=(L,{Zr.bR i c.size with err:=5,nx:=12})) (fun k s hs=>Fz hm hp k s hs) 0) (fun s q=>?_)
    obtain ⟨P,q4,q5⟩:=q
    injection q5 with q5 q6
    unfold tF
    rw [q4,q5]
    refine ⟨rfl,rfl,rfl,rfl,pT,n,B,G,cs,.inl rfl,by omega,.inr ⟨fun q=>by omega,?_,fun l' cE=>?_⟩⟩
    ·unfold gz
     rw [if_neg (by omega),if_neg (by omega),if_neg (by omega),if_neg (by omega),if_neg (by rw [hp]; simp)]
     show (P.err,false,(⟨#[]⟩:ByteArray))=_
     rw [q6]
    ·unfold gA at cE
     rw [if_neg (fun q=>by omega),if_neg (fun q=>by omega)] at cE
     rw [cE]; exact ⟨hm,by show l.length+L.ws.length<=_; omega⟩
  | true=>
    have cO:=FM.eW hp
    obtain ⟨z,hz⟩:=Int.eq_ofNat_of_zero_le (show 0<=c.size by omega)
    have zA:z<=64:=by omega
    rw [hz] at hp
    obtain ⟨cc,x,tt,ca,hw,hc,hx,wJ,sP⟩:=Mz l.length n z hl hm.pw hp jA zA
    have na:=Fv hm (by omega) hl fX ht hp hw (by omega) hx wJ sP mn
    refine ⟨fun k s=>∃ P d,s.2=(⟨.rz P,0,d⟩:Cl)/\Lone L (bE n cs) ⟨10+512*(t+1),1+8*(t+1),1+20000*((t:Int)+1)⟩ z l k (s.1,P),cc+10,by unfold rO; rw [if_neg (by omega)]; omega,⟨_,_,by rw [hz],na⟩,?_⟩
    refine pk.mono (Q:=fun s=>∃ P,s.2=(⟨.rz P,0,true⟩:Cl)/\Qr L (bE n cs) ⟨10+512*(t+1),1+8*(t+1),1+20000*((t:Int)+1)⟩ z l s.1 P/\∀ i:Nat,(i:Int)<s.1.k->Cl.nth s.1.xs (2+i)=0) (yc (R:=Lone L (bE n cs) ⟨10+512*(t+1),1+8*(t+1),1+20000*((t:Int)+1)⟩ z l) (Q:=fun s=>Qr L (bE n cs) ⟨10+512*(t+1),1+8*(t+1),1+20000*((t:Int)+1)⟩ z l s.1 s.2/\∀ i:Nat,(i:Int)<s.1.k->Cl.nth s.1.xs (2+i)=0) (fun k s hs=>hs.step) 0) (fun s q=>?_)
    obtain ⟨P,q4,q5,q6⟩:=q
    obtain ⟨p1,⟨B',cs',p2⟩,p3,p4,p5,p6⟩:=Fx hm q5 q6
    unfold tF
    rw [q4]
    refine ⟨rfl,rfl,p3,p4,p6,z,B',G,cs',.inr hz.symm,by omega,.inr ⟨fun q=>by omega,?_,fun l' cE=>?_⟩⟩
    ·unfold gz
     rw [if_neg (by omega),if_neg (by omega),if_neg (by omega),if_neg (by omega),hz,if_pos hp]
     show (P.err,false,(⟨#[]⟩:ByteArray))=_
     rw [p1]
    ·unfold gA at cE
     rw [if_neg (fun q=>by omega),if_neg (fun q=>by omega)] at cE
     rw [cE]; exact ⟨p2,by show l.length+s.1.ws.length<=_; rw [p5]; omega⟩
end
end Go.Proofs.YtpanebgakndddaaGreat.Ca
namespace Go.Proofs.YtpanebgakndddaaGreat.Ca
open Go Go.RowKit Hp K Fl Rw Hm Ar Mm Me Wk Pc
set_option maxRecDepth 100000
def pg (c:Ct):Value:=.agg #[.int .i64 c.kind,.string c.key,.string c.val,.int .i64 c.size]
def xZ (x:Int×Bool×ByteArray):Value:=.agg #[.int .i64 x.1,.bool x.2.1,.string x.2.2]
theorem below_1 (w:World) (o:Obj):Below w.heap.size w (w.alloc o):=(Below.refl _ _).alloc (Nat.le_refl _) _
end Go.Proofs.YtpanebgakndddaaGreat.Ca
