/- Walks and plain mathematics, put together in their order: RzY, RetMath, MapB, RzF, ElA, TabA, TabB, TabC, TabD, TabE, SeekA, SeekB. -/
import Derived.Test.YtkogifmjbmnpgaaGreatPart8
import Derived.Laws.CopyOwn
import Derived.Deep.RegionHeld3
import Derived.Test.YtkogifmjbmnpgaaGreatFinish
import Derived.Test.YtkogifmjbmnpgaaGreatMemWalk
import Derived.Test.YtkogifmjbmnpgaaGreatMapA
import Derived.Test.YtkogifmjbmnpgaaGreatLm
import Derived.Test.YtkogifmjbmnpgaaGreatRowKit
import Derived.Laws.Cover1
import Derived.Test.YtkogifmjbmnpgaaGreatMemNew
import Derived.Laws.EntriesVeiled
import Derived.Test.YtkogifmjbmnpgaaGreatGetC
set_option linter.unusedVariables false
set_option linter.unusedSimpArgs false
namespace Go.Proofs.YtkogifmjbmnpgaaGreat.Zr
open Go Go.RowKit Hp K Fl Rw Hm Ar Mm Wk Pc Me Mq Pu Pn Gt Qs Zp Mx LawTh Bs
set_option maxRecDepth 100000
theorem wstep_xl (n:Nat) (xs hs:List Int) (W:Wt):xs.length≤(wstep n xs hs W).1.length:=by
 unfold wstep
 split
 · exact Nat.le_refl _
 split
 · simp
 split
 · exact Nat.le_refl _
 · exact Nat.le_refl _
theorem gstep_xl (L:Lm) (G:Gw.Gr):L.xs.length≤(Gw.gstep L G).1.xs.length:=by
 unfold Gw.gstep
 split
 · exact Nat.le_refl _
 split
 · split
   · simp
   · exact Nat.le_refl _
 split
 · exact Nat.le_refl _
 split
 · exact Nat.le_refl _
 split
 · simp
 split
 · simp
 split
 · exact wstep_xl _ _ _ _
 · split
   · exact Nat.le_refl _
   · exact Nat.le_refl _
theorem sstep_xl (L:Lm) (G:Sw.Sh):L.xs.length≤(Sw.sstep L G).1.xs.length:=by
 unfold Sw.sstep
 split
 · exact Nat.le_refl _
 split
 · split
   · simp
   · exact Nat.le_refl _
 split
 · exact Nat.le_refl _
 split
 · exact Nat.le_refl _
 split
 · exact Nat.le_refl _
 split
 · exact Nat.le_refl _
 split
 · simp
 split
 · simp
 · exact wstep_xl _ _ _ _
theorem gro_err {w:World} {a:Gw.Gl} {G:Gw.Gr} (h:Gw.GrAt w a G):Calls Tryz.prog 61 #[ptr a.f] w fun e w'=>e=.returned (.int .i64 G.err)∧w'=w:=by
 have c3:=(Gw.own_hd h.blk).2.2.2.1
 clear h
 go_enter Tryz.func61,Tryz.ntmps61
 go_wp2_with fail
 go_ret
 exact ⟨rfl,rfl⟩
theorem me_gro (b:Nat) (w:World) (f:Nat):(method (f+1) 124 (.pointer (some ⟨b,0,none⟩)) "Err").run Tryz.prog w=.ok (61,.pointer (some ⟨b,0,none⟩)) w:=by kernel_rfl
theorem me_shr (b:Nat) (w:World) (f:Nat):(method (f+1) 126 (.pointer (some ⟨b,0,none⟩)) "Err").run Tryz.prog w=.ok (63,.pointer (some ⟨b,0,none⟩)) w:=by kernel_rfl
theorem ee_gro (args:Array Value) (w:World):(callFunc 61 args).run Tryz.prog w=.ok (.enter 61 args) w:=by kernel_rfl
theorem ee_shr (args:Array Value) (w:World):(callFunc 63 args).run Tryz.prog w=.ok (.enter 63 args) w:=by kernel_rfl
theorem er_mt (args:Array Value) (w:World):(callFunc 31 args).run Tryz.prog w=.ok (.enter 31 args) w:=by kernel_rfl
theorem es_rf (args:Array Value) (w:World):(callFunc 34 args).run Tryz.prog w=.ok (.enter 34 args) w:=by kernel_rfl
theorem es_tk (args:Array Value) (w:World):(callFunc 32 args).run Tryz.prog w=.ok (.enter 32 args) w:=by kernel_rfl
theorem es_tn (args:Array Value) (w:World):(callFunc 137 args).run Tryz.prog w=.ok (.enter 137 args) w:=by kernel_rfl
theorem es_fr (args:Array Value) (w:World):(callFunc 103 args).run Tryz.prog w=.ok (.enter 103 args) w:=by kernel_rfl
section
variable {w w':World} {M:Mo} {a:Ra} {R:Rz}
theorem lkB_of {nx:Nat} (h:1≤nx∧nx≤5):lkB (hld nx)=lockOf nx:=by
 have e:hld nx=nx-1:=by unfold hld; rw [if_neg (by omega),if_pos h.2]
 rw [e]
 unfold lkB lockOf
 by_cases q:nx=1
 · rw [if_pos q,if_pos (by omega)]
 · rw [if_neg q,if_neg (by omega)]
theorem rz_ready (hM:MemAt w M) (h:RzAt w a R) (ok:Okrz (lm M) R):Calls Tryz.prog 234 #[ptr a.f,ptr M.m] w fun e w'=>e=.returned (.bool (rready (lm M) R))∧Below w.heap.size w w':=by
 have c2:=(rb_cells h.blk).2.2.1
 unfold rrv at c2
 unfold rready
 by_cases q1:1≤R.nx∧R.nx≤5
 · rw [if_pos q1] at c2 ⊢
   have hwk:=ok.wk (by omega)
   have h4:hld R.nx≤4:=by unfold hld; rw [if_neg (by omega),if_pos q1.2]; omega
   have hm:=mayTake_any hM h.blk hwk.1 h4 ok.hl
   rw [lkB_of q1] at hm
   rw [show decide (0≤R.worker∧Lo.hol (lm M).hs (lockOf R.nx)= -1)=decide (Lo.hol M.hs (lockOf R.nx)= -1) by
    by_cases e:Lo.hol M.hs (lockOf R.nx)= -1
    · rw [decide_eq_true e,decide_eq_true ⟨hwk.1,e⟩]
    · rw [decide_eq_false e,decide_eq_false (fun q=>e q.2)]]
   exact ready_fm c2 er_mt hm
 rw [if_neg q1] at c2 ⊢
 by_cases q6:R.nx=6
 · rw [if_pos q6] at c2 ⊢
   rcases ok.inn q6 with ⟨G,e,hG⟩ | ⟨G,e,hG⟩
   · obtain ⟨t1,t2⟩:=h.gro G q6 e
     rw [t1] at c2
     rw [e]
     exact ready_by c2 (Gw.gro_frm.mr _) Gw.gro_frm.er (Gw.gro_frm.ready hM t2 hG)
   · obtain ⟨t1,t2⟩:=h.shr G q6 e
     rw [t1] at c2
     rw [e]
     exact ready_by c2 (Sw.shr_frm.mr _) Sw.shr_frm.er (Sw.shr_frm.ready hM t2 hG)
 · rw [if_neg q6] at c2 ⊢
   exact ready_f0 c2
theorem stp_lock {i:Nat} {v:Int} {R':Rz} (hn:R'.nx≠6) (hw:R'.worker=R.worker∧R'.size=R.size∧R'.err=R.err) (hM':MemAt w' {M with hs:=M.hs.set i v}) (hB:Rb w' a.f R.worker R.size (rrv a.f R'.nx a.tv) (rnv a.f R'.nx) R.err (hld R'.nx) a.tv) (hO:Only (fun x=>mfoot M x∨x=a.f) w w'):
 rzL.Stp w M a R {lm M with hs:=M.hs.set i v} R' w':=by
 have hB':RzAt w' a R':=RzAt.plain (by unfold rzc; rw [hw.1,hw.2.1,hw.2.2]; exact hB) hn
 exact ⟨_,a,hM',rfl,⟨rfl,rfl,rfl,rfl,fun x q=>.inl q⟩,hB',rfl,fun x hx=>.inl (.inl (rfoot_plain hn hx)),hO.mono (fun x _ q=>q.imp id .inl)⟩
theorem own_gro (h:RzAt w a R) {G:Gw.Gr} (hG:Gw.GrAt w a.ga G):¬Gw.gfoot a.ga G a.f:=fun hx=>by
 rcases hG.ty hx with q | ⟨ms,q⟩
 · exact q.apart (blk_ty h.blk) (by decide)
 · exact q.no (blk_ty h.blk)
theorem own_shr (h:RzAt w a R) {G:Sw.Sh} (hG:Sw.ShAt w a.sa G):¬Sw.sfoot a.sa G a.f:=fun hx=>by
 rcases hG.ty hx with q | ⟨ms,q⟩
 · exact q.apart (blk_ty h.blk) (by decide)
 · exact q.no (blk_ty h.blk)
theorem turn_gro (hM:MemAt w M) (h:RzAt w a R) (h6:R.nx=6) {G:Gw.Gr} (e:R.inn=.gro G) (ok:Gw.Okgr (lm M) G) (hx:1<M.xs.length) (hr:Gw.gready (lm M) G=true):
 Calls Tryz.prog 137 #[ptr a.f,ptr M.m] w fun x w'=>x=.returned (.bool false)∧rzL.Stp w M a R (Gw.gstep (lm M) G).1 (if Gw.gdone (lm M) G=true then after (Gw.gstep (lm M) G).1 {R with inn:=.gro (Gw.gstep (lm M) G).2} (Gw.gstep (lm M) G).2.err else {R with inn:=.gro (Gw.gstep (lm M) G).2}) w':=by
 obtain ⟨t1,t2⟩:=h.gro G h6 e
 have hst:=Gw.gro_frm.step hM t2 ok hr
 have hself:=own_gro h t2
 have hfar:¬mfoot M a.f:=rb_far h.blk hM
 have hblk:Rb w a.f R.worker R.size (rrv a.f R.nx a.tv) (rnv a.f R.nx) R.err (hld R.nx) a.tv:=h.blk
 have hh:hld R.nx=5:=by rw [h6]; rfl
 cases hd:Gw.gdone (lm M) G with
 | false=>
   rw [if_neg (by simp)]
   rw [t1] at hblk
   rw [hd] at hst
   refine (turn_go hblk (Gw.gro_frm.ms _) Gw.gro_frm.es hst).mono ?_
   rintro x w' ⟨rfl,M',ga',r1,r2,r3,r4,r5,r6,r7⟩
   refine ⟨rfl,M',{a with ga:=ga'},r1,r2,r3,⟨?_,fun G' _ q=>?_,fun G' _ q=>by simp at q⟩,rfl,fun x hx=>?_,r7.mono (fun x _ q=>q.imp id (fun q=>.inr (.inl ⟨G,h6,e,q⟩)))⟩
   · exact h.blk.only r7 (fun q=>q.elim hfar hself)
   · injection q with q
     subst q
     exact ⟨by rw [show ga'.f=a.ga.f from r5]; exact t1,r4⟩
   · rcases hx with q | ⟨G',_,q2,q3⟩ | ⟨G',_,q2,_⟩
     · exact .inl (.inl q)
     · injection q2 with q2
       subst q2
       exact (r6 x q3).imp (fun q=>.inr (.inl ⟨G,h6,e,q⟩)) id
     · simp at q2
 | true=>
   rw [if_pos rfl]
   rw [hh,t1] at hblk
   rw [hd] at hst
   have hxl:1<(Gw.gstep (lm M) G).1.xs.length:=by
    have:=gstep_xl (lm M) G
    have e:1<(lm M).xs.length:=hx
    omega
   refine (turn_over (fe:=61) (er:=(Gw.gstep (lm M) G).2.err) (L':=(Gw.gstep (lm M) G).1) (S:=fun x=>mfoot M x∨Gw.gfoot a.ga G x) a.ga a.sa {R with inn:=.gro (Gw.gstep (lm M) G).2} hblk (Gw.gro_frm.ms _) Gw.gro_frm.es (me_gro _) ee_gro hxl (hst.mono ?_)).mono ?_
   · rintro x w' ⟨rfl,M',ga',r1,r2,r3,r4,r5,r6,r7⟩
     have hE:=gro_err r4
     rw [show ga'.f=a.ga.f from r5] at hE
     exact ⟨rfl,M',r1,r3.m,r2,r3,hblk.only r7 (fun q=>q.elim hfar hself),hE,r7⟩
   · rintro x w' ⟨rfl,M',r1,r2,r3,r4,a',r5,r6,r7⟩
     refine ⟨rfl,M',a',r1,r2,r3,r6,r5,fun x hx=>(r7 x hx).imp .inl id,r4.mono (fun x _ q=>?_)⟩
     rcases q with (q | q) | q
     · exact .inl q
     · exact .inr (.inr (.inl ⟨G,h6,e,q⟩))
     · exact .inr (.inl q)
theorem turn_shr (hM:MemAt w M) (h:RzAt w a R) (h6:R.nx=6) {G:Sw.Sh} (e:R.inn=.shr G) (ok:Sw.Oksh (lm M) G) (hx:1<M.xs.length) (hr:Sw.sready (lm M) G=true):
 Calls Tryz.prog 137 #[ptr a.f,ptr M.m] w fun x w'=>x=.returned (.bool false)∧rzL.Stp w M a R (Sw.sstep (lm M) G).1 (if Sw.sdone (lm M) G=true then after (Sw.sstep (lm M) G).1 {R with inn:=.shr (Sw.sstep (lm M) G).2} (Sw.sstep (lm M) G).2.err else {R with inn:=.shr (Sw.sstep (lm M) G).2}) w':=by
 obtain ⟨t1,t2⟩:=h.shr G h6 e
 have hst:=Sw.shr_frm.step hM t2 ok hr
 have hself:=own_shr h t2
 have hfar:¬mfoot M a.f:=rb_far h.blk hM
 have hblk:Rb w a.f R.worker R.size (rrv a.f R.nx a.tv) (rnv a.f R.nx) R.err (hld R.nx) a.tv:=h.blk
 have hh:hld R.nx=5:=by rw [h6]; rfl
 cases hd:Sw.sdone (lm M) G with
 | false=>
   rw [if_neg (by simp)]
   rw [t1] at hblk
   rw [hd] at hst
   refine (turn_go hblk (Sw.shr_frm.ms _) Sw.shr_frm.es hst).mono ?_
   rintro x w' ⟨rfl,M',sa',r1,r2,r3,r4,r5,r6,r7⟩
   refine ⟨rfl,M',{a with sa:=sa'},r1,r2,r3,⟨?_,fun G' _ q=>by simp at q,fun G' _ q=>?_⟩,rfl,fun x hx=>?_,r7.mono (fun x _ q=>q.imp id (fun q=>.inr (.inr ⟨G,h6,e,q⟩)))⟩
   · exact h.blk.only r7 (fun q=>q.elim hfar hself)
   · injection q with q
     subst q
     exact ⟨by rw [show sa'.f=a.sa.f from r5]; exact t1,r4⟩
   · rcases hx with q | ⟨G',_,q2,_⟩ | ⟨G',_,q2,q3⟩
     · exact .inl (.inl q)
     · simp at q2
     · injection q2 with q2
       subst q2
       exact (r6 x q3).imp (fun q=>.inr (.inr ⟨G,h6,e,q⟩)) id
 | true=>
   rw [if_pos rfl]
   rw [hh,t1] at hblk
   rw [hd] at hst
   have hxl:1<(Sw.sstep (lm M) G).1.xs.length:=by
    have:=sstep_xl (lm M) G
    have e:1<(lm M).xs.length:=hx
    omega
   refine (turn_over (fe:=63) (er:=(Sw.sstep (lm M) G).2.err) (L':=(Sw.sstep (lm M) G).1) (S:=fun x=>mfoot M x∨Sw.sfoot a.sa G x) a.ga a.sa {R with inn:=.shr (Sw.sstep (lm M) G).2} hblk (Sw.shr_frm.ms _) Sw.shr_frm.es (me_shr _) ee_shr hxl (hst.mono ?_)).mono ?_
   · rintro x w' ⟨rfl,M',sa',r1,r2,r3,r4,r5,r6,r7⟩
     have hE:=Sw.err_any r4
     rw [show sa'.f=a.sa.f from r5] at hE
     exact ⟨rfl,M',r1,r3.m,r2,r3,hblk.only r7 (fun q=>q.elim hfar hself),hE,r7⟩
   · rintro x w' ⟨rfl,M',r1,r2,r3,r4,a',r5,r6,r7⟩
     refine ⟨rfl,M',a',r1,r2,r3,r6,r5,fun x hx=>(r7 x hx).imp .inl id,r4.mono (fun x _ q=>?_)⟩
     rcases q with (q | q) | q
     · exact .inl q
     · exact .inr (.inr (.inr ⟨G,h6,e,q⟩))
     · exact .inr (.inl q)
theorem rz_step (hM:MemAt w M) (h:RzAt w a R) (ok:Okrz (lm M) R) (hr:rready (lm M) R=true):
 Calls Tryz.prog 235 #[ptr a.f,ptr M.m] w fun e w'=>e=.returned (.bool (rdone (lm M) R))∧rzL.Stp w M a R (rstep (lm M) R).1 (rstep (lm M) R).2 w':=by
 have c3:=(rb_cells h.blk).2.2.2.1
 unfold rnv at c3
 have hnx:=ok.nx
 have hB:Rb w a.f R.worker R.size (rrv a.f R.nx a.tv) (rnv a.f R.nx) R.err (hld R.nx) a.tv:=h.blk
 by_cases e0:R.nx=0
 · rw [if_pos e0] at c3
   rw [show rdone (lm M) R=true from decide_eq_true (.inl e0)]
   have es:rstep (lm M) R=(lm M,{R with err:=5,nx:=12}):=by unfold rstep; rw [if_pos e0]
   rw [es]
   refine step_fm c3 es_rf ((refuse_step hB (ptr M.m)).mono ?_)
   rintro x w' ⟨rfl,hB',hO⟩
   have hR:RzAt w' a {R with err:=5,nx:=12}:=RzAt.plain (by rw [e0] at hB'; exact hB') (by simp)
   exact ⟨rfl,M,a,mem_store hM hB hO,rfl,Kin.refl _ _,hR,rfl,fun x hx=>.inl (.inl (rfoot_plain (by simp) hx)),hO.mono (fun x _ q=>.inr (.inl q))⟩
 rw [if_neg e0] at c3
 have hwk:=ok.wk e0
 by_cases e5:R.nx≤5
 · rw [if_pos e5] at c3
   have hh:hld R.nx=R.nx-1:=by unfold hld; rw [if_neg e0,if_pos e5]
   have hq:1≤R.nx∧R.nx≤5:=⟨by omega,e5⟩
   rw [show rdone (lm M) R=false from decide_eq_false (by omega)]
   unfold rready at hr
   rw [if_pos hq] at hr
   have hfree:=(of_decide_eq_true hr).2
   rw [← lkB_of hq,hh] at hfree
   have hfree:Lo.hol M.hs (lkB (R.nx-1))<0:=by
    have:Lo.hol M.hs (lkB (R.nx-1))= -1:=hfree
    omega
   by_cases e4:R.nx=5
   · have es:rstep (lm M) R=({lm M with hs:=M.hs.set 4 R.worker},look (lm M) R):=by
      unfold rstep; rw [if_neg e0,if_neg (by omega),if_neg (by omega),if_pos e4]
     rw [es]
     rw [hh,e4] at hB
     rw [e4] at hfree
     refine step_fm c3 es_tk ((take_last hM a.ga a.sa R hB hwk ok.hl ok.x1 hfree).mono ?_)
     rintro x w' ⟨rfl,hM',hO,a',ha,hR,hfo⟩
     exact ⟨rfl,_,a',hM',rfl,⟨rfl,rfl,rfl,rfl,fun x q=>.inl q⟩,hR,ha,fun x hx=>(hfo x hx).imp .inl id,hO.mono (fun x _ q=>q.imp id .inl)⟩
   · have hl4:R.nx-1<4:=by omega
     have es:rstep (lm M) R=({lm M with hs:=M.hs.set (lkB (R.nx-1)) R.worker},{R with nx:=R.nx+1}):=by
      unfold rstep lkB
      rw [if_neg e0]
      by_cases e1:R.nx=1
      · rw [if_pos e1,if_pos (by omega),e1]
      · rw [if_neg e1,if_pos (by omega),if_neg (by omega)]
     rw [es]
     rw [hh] at hB
     refine step_fm c3 es_tk ((take_more hM hB hwk hl4 ok.hl hfree).mono ?_)
     rintro x w' ⟨rfl,hM',hB',hO⟩
     refine ⟨rfl,stp_lock (by show R.nx+1≠6; omega) ⟨rfl,rfl,rfl⟩ hM' ?_ hO⟩
     have h1:rrv a.f (R.nx+1) a.tv=rrv a.f R.nx a.tv:=by unfold rrv; rw [if_pos (by omega),if_pos hq]
     have h2:rnv a.f (R.nx+1)=rnv a.f R.nx:=by unfold rnv; rw [if_neg (by omega),if_pos (by omega),if_neg e0,if_pos e5]
     have h3:hld (R.nx+1)=R.nx-1+1:=by unfold hld; rw [if_neg (by omega),if_pos (by omega)]; omega
     show Rb w' a.f R.worker R.size (rrv a.f (R.nx+1) a.tv) (rnv a.f (R.nx+1)) R.err (hld (R.nx+1)) a.tv
     rw [h1,h2,h3]
     exact hB'
 rw [if_neg e5] at c3
 by_cases e6:R.nx=6
 · rw [if_pos e6] at c3
   rw [show rdone (lm M) R=false from decide_eq_false (by omega)]
   unfold rready at hr
   rw [if_neg (by omega),if_pos e6] at hr
   rcases ok.inn e6 with ⟨G,e,hG⟩ | ⟨G,e,hG⟩
   · rw [e] at hr
     have es:rstep (lm M) R=((Gw.gstep (lm M) G).1,if Gw.gdone (lm M) G=true then after (Gw.gstep (lm M) G).1 {R with inn:=.gro (Gw.gstep (lm M) G).2} (Gw.gstep (lm M) G).2.err else {R with inn:=.gro (Gw.gstep (lm M) G).2}):=by
      unfold rstep; rw [if_neg e0,if_neg (by omega),if_neg (by omega),if_neg (by omega),if_pos e6,e]
     rw [es]
     exact step_fm c3 es_tn (turn_gro hM h e6 e hG ok.x1 hr)
   · rw [e] at hr
     have es:rstep (lm M) R=((Sw.sstep (lm M) G).1,if Sw.sdone (lm M) G=true then after (Sw.sstep (lm M) G).1 {R with inn:=.shr (Sw.sstep (lm M) G).2} (Sw.sstep (lm M) G).2.err else {R with inn:=.shr (Sw.sstep (lm M) G).2}):=by
      unfold rstep; rw [if_neg e0,if_neg (by omega),if_neg (by omega),if_neg (by omega),if_pos e6,e]
     rw [es]
     exact step_fm c3 es_tn (turn_shr hM h e6 e hG ok.x1 hr)
 rw [if_neg e6,if_pos hnx] at c3
 have hh:hld R.nx=12-R.nx:=by unfold hld; rw [if_neg e0,if_neg e5,if_neg e6]
 have hrv:rrv a.f R.nx a.tv=wf0 33:=by unfold rrv; rw [if_neg (by omega),if_neg e6]
 have hnv:rnv a.f R.nx=wfm 103 (ptr a.f):=by unfold rnv; rw [if_neg e0,if_neg e5,if_neg e6,if_pos hnx]
 by_cases e10:R.nx≤10
 · rw [show rdone (lm M) R=false from decide_eq_false (by omega)]
   have es:rstep (lm M) R=({lm M with hs:=M.hs.set (11-R.nx) (-1)},{R with nx:=R.nx+1}):=by
    unfold rstep; rw [if_neg e0,if_neg (by omega),if_neg (by omega),if_neg (by omega),if_neg e6,if_pos e10]
   rw [es]
   have hld':=ok.held (by omega) e10
   rw [hh,show 12-R.nx=11-R.nx+1 by omega] at hB
   refine step_fm c3 es_fr ((free_more hM hB hwk.1 (by omega) (by omega) ok.hl hld').mono ?_)
   rintro x w' ⟨rfl,hM',hB',hO⟩
   refine ⟨rfl,stp_lock (by show R.nx+1≠6; omega) ⟨rfl,rfl,rfl⟩ hM' ?_ hO⟩
   have h1:rrv a.f (R.nx+1) a.tv=rrv a.f R.nx a.tv:=by rw [hrv]; unfold rrv; rw [if_neg (by omega),if_neg (by omega)]
   have h2:rnv a.f (R.nx+1)=rnv a.f R.nx:=by rw [hnv]; unfold rnv; rw [if_neg (by omega),if_neg (by omega),if_neg (by omega),if_pos (by omega)]
   have h3:hld (R.nx+1)=11-R.nx:=by unfold hld; rw [if_neg (by omega),if_neg (by omega),if_neg (by omega)]; omega
   show Rb w' a.f R.worker R.size (rrv a.f (R.nx+1) a.tv) (rnv a.f (R.nx+1)) R.err (hld (R.nx+1)) a.tv
   rw [h1,h2,h3]
   exact hB'
 · have e11:R.nx=11:=by omega
   rw [show rdone (lm M) R=true from decide_eq_true (.inr (by omega))]
   have es:rstep (lm M) R=({lm M with hs:=M.hs.set 5 (-1)},{R with nx:=12}):=by
    unfold rstep; rw [if_neg e0,if_neg (by omega),if_neg (by omega),if_neg (by omega),if_neg e6,if_neg e10]
   rw [es]
   rw [hh,e11] at hB
   refine step_fm c3 es_fr ((free_last hM hB hwk.1 ok.hl (ok.last e11)).mono ?_)
   rintro x w' ⟨rfl,hM',hB',hO⟩
   exact ⟨rfl,stp_lock (by show 12≠6; omega) ⟨rfl,rfl,rfl⟩ hM' hB' hO⟩
end
theorem rz_frm:Frm rzL 35 234 235 Okrz rready rstep rdone where
 below h hb:=rz_below h hb
 mr b w f:=by kernel_rfl
 ms b w f:=by kernel_rfl
 er args w:=by kernel_rfl
 es args w:=by kernel_rfl
 ready hM h ok:=rz_ready hM h ok
 step hM h ok hr:=rz_step hM h ok hr
end Go.Proofs.YtkogifmjbmnpgaaGreat.Zr
namespace Go.Proofs.YtkogifmjbmnpgaaGreat.LawSix
end Go.Proofs.YtkogifmjbmnpgaaGreat.LawSix
namespace Go.Proofs.YtkogifmjbmnpgaaGreat.Re
open Go Go.RowKit Hp K Fl Rw Hm Ar Mm Me Qs LawSix
set_option maxRecDepth 100000
theorem frees_len_free {ss:List Sl} {k:Nat} (hk:k<ss.length) (ht:(at' ss k).taken=true) (s:Sl) (hs:s.taken=false) (n:Nat):(frees (ss.set k s) n).length=(frees ss n).length+if k<n then 1 else 0:=by
 induction n with
 | zero=>simp [frees]
 | succ n ih=>
   have h1:=at_set hk s n
   by_cases e:n=k
   · subst e
     rw [if_pos rfl] at h1
     rw [frees_yes (by rw [h1]; exact hs),frees_no ht,List.length_append,ih]
     simp
   · rw [if_neg e] at h1
     have e2:(if k<n+1 then 1 else 0:Nat)=if k<n then 1 else 0:=by split<;>split<;>omega
     by_cases h:(at' ss n).taken=true
     · rw [frees_no (by rw [h1]; exact h),frees_no h,ih,e2]
     · have h:(at' ss n).taken=false:=by simpa using h
       rw [frees_yes (by rw [h1]; exact h),frees_yes h,List.length_append,List.length_append,ih,e2]
       simp only [List.length_cons,List.length_nil]
       omega
theorem frees_len_take {ss:List Sl} {k:Nat} (hk:k<ss.length) (ht:(at' ss k).taken=false) (s:Sl) (hs:s.taken=true) (n:Nat):(frees (ss.set k s) n).length+(if k<n then 1 else 0)=(frees ss n).length:=by
 induction n with
 | zero=>simp [frees]
 | succ n ih=>
   have h1:=at_set hk s n
   by_cases e:n=k
   · subst e
     rw [if_pos rfl] at h1
     rw [frees_no (by rw [h1]; exact hs),frees_yes ht,List.length_append,← ih]
     simp
   · rw [if_neg e] at h1
     have e2:(if k<n+1 then 1 else 0:Nat)=if k<n then 1 else 0:=by split<;>split<;>omega
     by_cases h:(at' ss n).taken=true
     · rw [frees_no (by rw [h1]; exact h),frees_no h,← ih]
       rw [e2]
     · have h:(at' ss n).taken=false:=by simpa using h
       rw [frees_yes (by rw [h1]; exact h),frees_yes h,List.length_append,List.length_append,← ih]
       rw [e2]
       simp only [List.length_cons,List.length_nil]
       omega
structure Wr (ss:List Sl) (ws left:List Nat) (B:Nat):Prop where
 room:ss.length≤1024
 nd:(ws++left).Nodup
 live:∀ x,x∈ws++left→∃ k,IsAt ss x k
 gens:∀ k,(at' ss k).gen+(ws.length+left.length)≤B
 cnt:(frees ss ss.length).length+(ws.length+left.length)=ss.length
section
variable {ss:List Sl} {ws left:List Nat} {B:Nat}
theorem Wr.put {m:Nat} (h:Wr ss ws left B) (hm:Least ss m) (d:Nd):Wr (ss.set m ⟨true,(at' ss m).gen,d⟩) (ws++[(at' ss m).gen*65536+m+1]) left (B+1):=by
 have hlen:(ss.set m ⟨true,(at' ss m).gen,d⟩).length=ss.length:=by simp
 have hno:∀ y k,IsAt ss y k→k≠m:=by
  rintro y k hk rfl
  have:=hk.2.1
  rw [hm.2.1] at this
  simp at this
 have hnew:((at' ss m).gen*65536+m+1)∉ws++left:=fun q=>by
  obtain ⟨k,hk⟩:=h.live _ q
  have:=hk.2.2
  have h1:=hk.1
  have h2:=h.room
  have h3:=hm.1
  exact hno _ _ hk (by omega)
 refine ⟨by rw [hlen]; exact h.room,?_,fun y hy=>?_,fun j=>?_,?_⟩
 · rw [List.append_assoc]
   exact (List.perm_middle (l₁:=ws) (l₂:=left) (a:=(at' ss m).gen*65536+m+1)).nodup_iff.2 (List.nodup_cons.2 ⟨hnew,h.nd⟩)
 · have:y∈ws++left∨y=(at' ss m).gen*65536+m+1:=by
    simp only [List.mem_append,List.mem_singleton] at hy ⊢
    rcases hy with (q | q) | q
    · exact .inl (.inl q)
    · exact .inr q
    · exact .inl (.inr q)
   rcases this with q | q
   · obtain ⟨k,hk⟩:=h.live y q
     exact ⟨k,(isAt_turn hm.1 _ y k).2 (by rw [if_neg (hno y k hk)]; exact hk)⟩
   · exact ⟨m,(isAt_turn hm.1 _ y m).2 (by rw [if_pos rfl]; exact ⟨rfl,q⟩)⟩
 · have:=h.gens j
   rw [at_set hm.1,List.length_append]
   simp only [List.length_cons,List.length_nil]
   split
   · rename_i e
     subst e
     show (at' ss j).gen+_≤_
     omega
   · omega
 · have:=h.cnt
   have e:=frees_len_take hm.1 hm.2.1 ⟨true,(at' ss m).gen,d⟩ rfl ss.length
   rw [if_pos hm.1] at e
   rw [hlen,List.length_append]
   simp only [List.length_cons,List.length_nil]
   omega
end
theorem frees_rep (n:Nat):(frees (List.replicate n Sl.zero) n).length=n:=by rw [frees_zero n n (Nat.le_refl _)]; simp
theorem at_rep (n k:Nat):at' (List.replicate n Sl.zero) k=Sl.zero:=by
 simp only [at',List.getD,List.getElem?_replicate]
 split<;>rfl
theorem wr_new (n:Nat) (hn:n≤1024):Wr (List.replicate n .zero) [] [] 0:=
 ⟨by simpa using hn,by simp,fun x hx=>by simp at hx,fun k=>by rw [at_rep]; simp [Sl.zero],by simpa using frees_rep n⟩
/-! ### a drain-/
end Go.Proofs.YtkogifmjbmnpgaaGreat.Re
namespace Go.Proofs.YtkogifmjbmnpgaaGreat.Mq
open Go Hm Ar Mm Wk Pc Me Re Pn
def alls (n:Nat) (cs:Nat→List Hp):List Nat:=(List.range n).flatMap fun b=>hds (cs b)
def turn (cs:Nat→List Hp) (b0:Nat) (q:List Hp) (b:Nat):List Hp:=if b=b0 then q else cs b
theorem flatMap_same {α β:Type} {l:List α} {f g:α→List β} (h:∀ a∈l,f a=g a):l.flatMap f=l.flatMap g:=by
 induction l with
 | nil=>rfl
 | cons a t ih=>rw [List.flatMap_cons,List.flatMap_cons,h a (by simp),ih fun b hb=>h b (List.mem_cons_of_mem _ hb)]
theorem alls_perm {n b0:Nat} (h:b0<n) (cs:Nat→List Hp) (q:List Hp):(alls n (turn cs b0 q)).Perm (hds q++((List.range n).erase b0).flatMap fun b=>hds (cs b)):=by
 have h1:(List.range n).Perm (b0::(List.range n).erase b0):=List.perm_cons_erase (by simpa using h)
 have h2:=h1.flatMap_right (fun b=>hds (turn cs b0 q b))
 refine h2.trans ?_
 rw [List.flatMap_cons]
 have e1:hds (turn cs b0 q b0)=hds q:=by unfold turn; rw [if_pos rfl]
 have e2:(((List.range n).erase b0).flatMap fun b=>hds (turn cs b0 q b))=((List.range n).erase b0).flatMap fun b=>hds (cs b):=by
  apply flatMap_same
  intro b hb
  have hne:b≠b0:=(List.Nodup.mem_erase_iff List.nodup_range).1 hb |>.1
  unfold turn
  rw [if_neg hne]
 rw [e1,e2]
theorem turn_self (cs:Nat→List Hp) (b0:Nat):turn cs b0 (cs b0)=cs:=by
 funext b
 unfold turn
 split
 · rename_i e; rw [e]
 · rfl
theorem alls_self {n b0:Nat} (h:b0<n) (cs:Nat→List Hp):(alls n cs).Perm (hds (cs b0)++((List.range n).erase b0).flatMap fun b=>hds (cs b)):=by
 have:=alls_perm h cs (cs b0)
 rw [turn_self] at this
 exact this
theorem _root_.Go.Proofs.YtkogifmjbmnpgaaGreat.Re.Wr.perm {ss:List Sl} {ws left ws' left':List Nat} {G:Nat} (h:Wr ss ws left G) (hp:(ws'++left').Perm (ws++left)):Wr ss ws' left' G:=by
 have hl:=hp.length_eq
 simp only [List.length_append] at hl
 exact ⟨h.room,hp.nodup_iff.2 h.nd,fun x hx=>h.live x (hp.mem_iff.1 hx),fun k=>by have:=h.gens k; omega,by have:=h.cnt; omega⟩
theorem frees_same {ss ss':List Sl} (ht:∀ k,(at' ss' k).taken=(at' ss k).taken) (n:Nat):frees ss' n=frees ss n:=by
 unfold frees
 apply List.filter_congr
 intro k _
 rw [ht]
theorem _root_.Go.Proofs.YtkogifmjbmnpgaaGreat.Re.Wr.nodes {ss ss':List Sl} {ws left:List Nat} {G:Nat} (h:Wr ss ws left G) (hl:ss'.length=ss.length) (ht:∀ k,(at' ss' k).taken=(at' ss k).taken∧(at' ss' k).gen=(at' ss k).gen):Wr ss' ws left G:=
 ⟨by rw [hl]; exact h.room,h.nd,fun x hx=>by
  obtain ⟨k,h1,h2,h3⟩:=h.live x hx
  exact ⟨k,by rw [hl]; exact h1,by rw [(ht k).1]; exact h2,by rw [(ht k).2]; exact h3⟩,fun k=>by rw [(ht k).2]; exact h.gens k,by rw [hl,frees_same fun k=>(ht k).1]; exact h.cnt⟩
structure Mp (L:Lm) (n B:Nat) (cs:Nat→List Hp) (l:List Pr) (G:Nat):Prop where
 pw:FM.power n=true
 now:Me.now L.xs L.ds=(n,B)
 tabs:Tabs L.xs L.ds
 tb:∀ i,(tab L.ds i).1≤65536∧(tab L.ds i).2≤4000000
 k:1≤L.k∧L.k≤8
 kB:2+L.k≤B
 xl:B+n≤L.xs.length
 xb:∀ x∈L.xs,0≤x∧x≤18446744073709551615
 nexts:Nexts L.ss
 ch:∀ b,b<n→Cx L.ss (Cl.nth L.xs (B+b)).toNat (cs b)
 bk:∀ b,b<n→∀ e∈cs b,FM.bucket (sm e.2.1) n=(b:Nat)
 kd:∀ b,b<n→(kys (cs b)).Nodup
 wr:Wr L.ss L.ws (alls n cs) G
 ln:(l.map (·.1)).Nodup
 lk:∀ key,Pc.lk l key=Pc.lk (prs (cs (bkt key n))) key
 len:l.length=(alls n cs).length
 zero:∀ i:Nat,(i:Int)<L.k→Cl.nth L.xs (2+i)=0
 hs:L.hs=List.replicate 6 (-1)
 F:L.F=false
section
variable {L:Lm} {n B:Nat} {cs:Nat→List Hp} {l:List Pr} {G:Nat}
theorem Mp.ad (h:Mp L n B cs l G):(alls n cs).Nodup:=(List.nodup_append.1 h.wr.nd).2.1
theorem Mp.n_bd (h:Mp L n B cs l G):1≤n∧n≤65536:=by
 have:=FM.power_bd h.pw
 omega
theorem Mp.turned (h:Mp L n B cs l G) {b0 G':Nat} (hb:b0<n) {q:List Hp} {ss':List Sl} {xs':List Int} {ws':List Nat} {l':List Pr}
 (hxl:xs'.length=L.xs.length) (hx:∀ j,j≠B+b0→Cl.nth xs' j=Cl.nth L.xs j) (hxb:∀ x∈xs',0≤x∧x≤18446744073709551615) (hN:Nexts ss')
 (hc:Cx ss' (Cl.nth xs' (B+b0)).toNat q) (ho:∀ b,b<n→b≠b0→Cx ss' (Cl.nth L.xs (B+b)).toNat (cs b)) (hbk:∀ e∈q,FM.bucket (sm e.2.1) n=(b0:Nat)) (hkd:(kys q).Nodup)
 (hw:Wr ss' ws' (alls n (turn cs b0 q)) G') (hln:(l'.map (·.1)).Nodup) (hl1:∀ key,bkt key n≠b0→Pc.lk l' key=Pc.lk l key) (hl2:∀ key,bkt key n=b0→Pc.lk l' key=Pc.lk (prs q) key) (hll:l'.length=(alls n (turn cs b0 q)).length):
 Mp {L with xs:=xs',ss:=ss',ws:=ws'} n B (turn cs b0 q) l' G':=by
 have hk:=h.kB
 have hk1:=h.k
 refine ⟨h.pw,?_,?_,h.tb,h.k,h.kB,by show B+n≤xs'.length; rw [hxl]; exact h.xl,hxb,hN,fun b hb'=>?_,fun b hb' e he=>?_,fun b hb'=>?_,hw,hln,fun key=>?_,hll,fun i hi=>?_,h.hs,h.F⟩
 · have:=h.now
   unfold Me.now at this ⊢
   show tab L.ds (Cl.nth xs' 1).toNat=_
   rw [hx 1 (by omega)]
   exact this
 · intro i hi
   have:=h.tabs i hi
   show _∧_∧_≤xs'.length
   rw [hxl]
   exact this
 · show Cx ss' (Cl.nth xs' (B+b)).toNat (turn cs b0 q b)
   unfold turn
   split
   · rename_i e; rw [e]; exact hc
   · rename_i e
     rw [hx _ (by omega)]
     exact ho b hb' e
 · unfold turn at he
   split at he
   · rename_i e'; rw [e']; exact hbk e he
   · exact h.bk b hb' e he
 · unfold turn
   split
   · exact hkd
   · exact h.kd b hb'
 · unfold turn
   split
   · rename_i e; exact hl2 key e
   · rename_i e
     rw [hl1 key e]
     exact h.lk key
 · have hi:(i:Int)<L.k:=hi
   show Cl.nth xs' (2+i)=0
   rw [hx _ (by omega)]
   exact h.zero i hi
end
theorem lk_swap {a t:List Pr} {p p':Pr} {k:ByteArray} (h:p.1≠k) (h':p'.1≠k):lk (a++p::t) k=lk (a++p'::t) k:=by
 induction a with
 | nil=>simp [lk,h,h']
 | cons e r ih=>
   rw [List.cons_append,List.cons_append]
   simp only [lk]
   rw [ih]
theorem keep_set {ss:List Sl} {m:Nat} (hm:Least ss m) (s:Sl) {y k:Nat} (hk:IsAt ss y k):IsAt (ss.set m s) y k∧at' (ss.set m s) k=at' ss k∧k≠m:=by
 have hne:k≠m:=by
  rintro rfl
  have:=hk.2.1
  rw [hm.2.1] at this
  simp at this
 refine ⟨(isAt_turn hm.1 _ _ _).2 (by rw [if_neg hne]; exact hk),?_,hne⟩
 rw [at_set hm.1,if_neg hne]
end Go.Proofs.YtkogifmjbmnpgaaGreat.Mq
namespace Go.Proofs.YtkogifmjbmnpgaaGreat.Zr
open Go Hm Ar Mm Wk Pc Me Mq Pu Pn Gt Qs Zp Mx LawTh Bs Re
theorem alls_allh (n:Nat) (cs:Nat→List Mq.Hp):alls n cs=allh n cs:=rfl
section
variable {L L0:Lm} {n B:Nat} {cs:Nat→List Mq.Hp} {l:List Pr} {G:Nat}
def rsOf (n B cap:Nat) (cs:Nat→List Mq.Hp):Rs:=⟨n,B,(flat n cs).length,cap,cs,flat n cs⟩
theorem Mp.flat_len (h:Mp L n B cs l G):(flat n cs).length=l.length:=by
 rw [Bs.flat_len,h.len]
 rfl
theorem Mp.bkt_of (h:Mp L n B cs l G) {b:Nat} (hb:b<n) {a:Mq.Hp} (ha:a∈cs b):bkt a.2.1 n=b:=by
 have h1:=h.bk b hb a ha
 have h2:=(bkt_lt h.pw a.2.1).2
 rw [h2] at h1
 exact Int.ofNat.inj h1
theorem rest_of (h:Mp L n B cs l G) (hG:G≤1000000) (p1:1≤Cl.nth L.xs 0) (hl:l.length≤35) (hxm:L.xs.length≤1048576) {cap:Nat} (hcap:l.length≤cap∧cap≤1000000):Bs.Rest l (rsOf n B cap cs) L:=by
 have hr:=h.wr.room
 have hfl:=Zr.Mp.flat_len h
 have hbase:=base_of h.pw h.now h.tabs h.tb h.k h.kB h.xl hxm h.xb h.nexts hr h.F p1 h.ch (fun b hb a ha=>Zr.Mp.bkt_of h hb ha) h.kd (by have:=h.len; rw [alls_allh] at this; omega)
 refine ⟨hbase,fun key=>?_,⟨rfl,by show (flat n cs).length≤35; omega⟩,⟨by show (flat n cs).length≤cap; omega,hcap.2⟩,⟨by rw [h.hs]; rfl,by rw [h.hs]; simp⟩,fun b hb a ha=>?_⟩
 · show Pc.lk (flat n cs) key=_
   rw [hbase.lk key]
   exact (h.lk key).symm
 · obtain ⟨k,z,h1,_⟩:=(h.ch b hb).at a ha
   have hg:=h.wr.gens k
   have h3:=h1.2.2
   have h4:=h1.1
   have hk:k<L.ss.length:=h4
   have h3':a.1=(at' L.ss k).gen*65536+k+1:=h3
   omega
theorem mp_of {Y:Rs} (h0:Mp L0 n B cs l G) (h:Bs.Rest l Y L) (hp:(allh Y.n Y.cs).Perm (allh n cs)) (hk:Kp L0 L) (hz:∀ i:Nat,(i:Int)<L.k→Cl.nth L.xs (2+i)=0) (hl:L.hs.length=6) (hh:∀ i,i≤5→Lo.hol L.hs i= -1):Mp L Y.n Y.B Y.cs l G:=by
 have hb:=h.base
 have hw:Wr L.ss L.ws (alls n cs) G:=by
  rw [hk.ws]
  exact h0.wr.nodes hk.ss hk.tk
 refine ⟨hb.pw,hb.now,hb.tabs,hb.tb,hb.k,hb.kB,hb.xl,hb.xb,hb.nexts,hb.cx,fun b hbn e he=>?_,fun b hbn=>?_,hw.perm (List.Perm.append_left _ hp),h0.ln,fun key=>?_,?_,hz,?_,by rw [hk.F]; exact h0.F⟩
 · rw [(bkt_lt hb.pw e.2.1).2,hb.bk hbn e he]
 · have h3:kys (Y.cs b)=(prs (Y.cs b)).map (·.1):=by simp [prs]
   rw [h3,hb.own b hbn]
   exact (List.filter_sublist.map _).nodup hb.keys
 · rw [← h.like key]
   exact hb.lk key
 · rw [h0.len]
   exact hp.length_eq.symm
 · refine List.ext_getElem (by simp [hl]) fun i h1 h2=>?_
   have:=hh i (by omega)
   unfold Lo.hol at this
   simp only [List.getD_eq_getElem?_getD,List.getElem?_eq_getElem h1,Option.getD_some] at this
   rw [this]
   rcases i with _ | _ | _ | _ | _ | _ | i<;>first | rfl | exact absurd h1 (by omega)
end
end Go.Proofs.YtkogifmjbmnpgaaGreat.Zr
namespace Go.Proofs.YtkogifmjbmnpgaaGreat.LawEl
open Go Go.RowKit Hp K Fl Rw Hm Ar Mm Me LK Wk Pc LawTen
set_option maxRecDepth 100000
def prc (p:Pr):List Value:=[.string p.1,.string p.2]
abbrev Prs (w:World) (A:Option Addr) (cap:Nat) (l:List Pr):Prop:=Row w 59 2 prc A cap l
end Go.Proofs.YtkogifmjbmnpgaaGreat.LawEl
namespace Go.Proofs.YtkogifmjbmnpgaaGreat.Ta
open Go Go.RowKit Hp K Fl Rw Hm Ar Mm Me
set_option maxRecDepth 100000
abbrev fn0 (F:Nat):Value:=.func (.func F) #[] #[]
abbrev fnm (F:Nat) (v:Value):Value:=.func (.func F) #[v] #[]
structure Ho where
 f:Nat
 worker:Int
 sum:Int
 nx:Nat
 num:Nat
 d:Nat×Nat
 lock:Nat
 holds:Bool
def rdv (nx f:Nat):Value:=if nx=2 then fnm 139 (ptr f) else fn0 106
def nxv (nx f:Nat):Value:=if nx=1 then fnm 107 (ptr f) else if nx=2 then fnm 140 (ptr f) else if nx=3 then fnm 160 (ptr f) else if nx=4 then fnm 174 (ptr f) else fn0 175
def hoc (H:Ho):Array Value:=#[.int .i64 H.worker,.int .u32 H.sum,rdv H.nx H.f,nxv H.nx H.f,.int .u64 H.num,.int .i64 H.d.1,.int .i64 H.d.2,.int .i64 H.lock,.bool H.holds]
def HoAt (w:World) (H:Ho):Prop:=Blk w H.f 167 (hoc H)
def lkn (s:Int) (d:Nat×Nat):Nat:=(1+FM.bucket s d.1 % 4).toNat
theorem lkn_eq {s:Int} (d:Nat×Nat) (hs:0≤s):1+FM.bucket s d.1 % 4=((lkn s d:Nat):Int):=by
 have:=bucket_bd s d.1 hs
 unfold lkn
 omega
theorem lkn_bd {s:Int} (d:Nat×Nat) (hs:0≤s):1≤lkn s d∧lkn s d≤4:=by
 have:=bucket_bd s d.1 hs
 unfold lkn
 omega
structure Okh (M:Mo) (H:Ho):Prop where
 sum:0≤H.sum∧H.sum<4294967296
 wk:0≤H.worker∧H.worker≤9223372036854775807
 hl:4<M.hs.length
 xl:1<M.xs.length
 num:H.num≤18446744073709551615
 dn:(tab M.ds H.num).1≤65536
theorem Okh.lb {M:Mo} {H:Ho} (h:Okh M H):lkn H.sum (tab M.ds H.num)<M.hs.length:=by
 have:=lkn_bd (tab M.ds H.num) h.sum.1
 have:=h.hl
 omega
section
variable {w w':World} {M:Mo} {H:Ho}
theorem HoAt.far (h:HoAt w H) (hM:MemAt w M):¬mfoot M H.f:=fun hx=>(hM.ty hx).apart (blk_ty h) (by decide)
theorem HoAt.only {S:Nat→Prop} (h:HoAt w H) (ho:Only S w w') (hn:¬S H.f):HoAt w' H:=Blk.only h ho hn
theorem HoAt.below (h:HoAt w H) (hb:Below w.heap.size w w'):HoAt w' H:=h.only (Only.ofBelow hb (fun _=>False)) (by simp)
theorem HoAt.drewN (h:HoAt w H) (n:Nat):HoAt (w.drewN n) H:=h.only ((Only.refl (fun _=>False) w).drewN n) (by simp)
theorem HoAt.hd (h:HoAt w H):w.cell? ⟨H.f,0,none⟩=some (.int .i64 H.worker)∧w.cell? ⟨H.f,1,none⟩=some (.int .u32 H.sum)∧w.cell? ⟨H.f,2,none⟩=some (rdv H.nx H.f)∧w.cell? ⟨H.f,3,none⟩=some (nxv H.nx H.f)∧
 w.cell? ⟨H.f,4,none⟩=some (.int .u64 H.num)∧w.cell? ⟨H.f,5,none⟩=some (.int .i64 H.d.1)∧w.cell? ⟨H.f,6,none⟩=some (.int .i64 H.d.2)∧w.cell? ⟨H.f,7,none⟩=some (.int .i64 H.lock)∧w.cell? ⟨H.f,8,none⟩=some (.bool H.holds):=
 ⟨h.cell 0,h.cell 1,h.cell 2,h.cell 3,h.cell 4,h.cell 5,h.cell 6,h.cell 7,h.cell 8⟩
end
theorem always_any (m:Value) (w:World):Calls Tryz.prog 106 #[m] w fun e w'=>e=.returned (.bool true)∧w'=w:=by
 go_enter Tryz.func106,Tryz.ntmps106
 go_wp2
 go_ret
 exact ⟨rfl,rfl⟩
theorem done_any (m:Value) (w:World):Calls Tryz.prog 175 #[m] w fun e w'=>e=.returned (.bool true)∧w'=w:=by
 go_enter Tryz.func175,Tryz.ntmps175
 go_wp2
 go_ret
 exact ⟨rfl,rfl⟩
theorem goOn_any {f F G:Nat} {a b:Array Value} {w:World} {u2 u3:Value} (c2:w.cell? ⟨f,2,none⟩=some u2) (c3:w.cell? ⟨f,3,none⟩=some u3) (z2:w.frozen? ⟨f,2,none⟩=false) (z3:w.frozen? ⟨f,3,none⟩=false):
 Calls Tryz.prog 105 #[ptr f,.func (.func F) a #[],.func (.func G) b #[]] w fun e w'=>e=.returned (.tuple #[])∧w'=(w.setCell ⟨f,2,none⟩ (.func (.func F) a #[])).setCell ⟨f,3,none⟩ (.func (.func G) b #[]):=by
 go_enter Tryz.func105,Tryz.ntmps105
 go_wp2
 go_end0
 exact ⟨rfl,rfl⟩
theorem new_hold (k s:Int) (w:World):Calls Tryz.prog 73 #[.int .i64 k,.int .u32 s] w fun e w'=>e=.returned (ptr w.heap.size)∧HoAt w' ⟨w.heap.size,k,s,1,0,(0,0),0,false⟩∧Below w.heap.size w w':=by
 go_enter Tryz.func73,Tryz.ntmps73
 go_wp2_with fail
 refine (goOn_any (u2:=.nilFunc) (u3:=.nilFunc) ((Blk.made w _ _).cell 2) ((Blk.made w _ _).cell 3) ((Blk.made w _ _).frozen 2) ((Blk.made w _ _).frozen 3)).mono ?_
 rintro e w1 ⟨rfl,hw⟩
 have hB:HoAt w1 ⟨w.heap.size,k,s,1,0,(0,0),0,false⟩:=by
  rw [hw]
  exact ((Blk.made w _ _).store 2 _).store 3 _
 have hb:Below w.heap.size w w1:=by
  rw [hw]
  exact (((Below.refl _ _).alloc (Nat.le_refl _) _).setCell (by simp) _).setCell (by simp) _
 replace hB:=Lib.hid hB
 replace hb:=Lib.hid hb
 clear hw
 go_wp2_with fail
 go_ret
 exact ⟨rfl,hB.out,hb.out⟩
section
variable {w:World} {M:Mo} {H:Ho}
theorem loaded_any (hM:MemAt w M) (hH:HoAt w H) (hn:H.num≤18446744073709551615):
 Calls Tryz.prog 159 #[ptr H.f,ptr M.m] w fun e w'=>e=.returned (dv (tab M.ds H.num))∧Below w.heap.size w w':=by
 obtain ⟨c0,c1,c2,c3,c4,c5,c6,c7,c8⟩:=hH.hd
 have hl:=row_len hM.2.2.2.2.1
 have lM:=hM.1.lt
 have lf:=hH.lt
 by_cases hg:9223372036854775807<H.num
 · rw [tab_none (by omega)]
   clear hM hH c0 c1 c2 c3 c5 c6 c7 c8
   generalize H.num=z at*
   generalize H.f=f at*
   go_enter Tryz.func159,Tryz.ntmps159
   go_wp2
   exact bodyPost_ret (v:=dv (0,0)) (by simp [results,Tryz.results159,go_sem,dv]) rfl ⟨rfl,by first | exact ((Below.refl _ _).alloc (Nat.le_refl _) _) | exact (((Below.refl _ _).alloc (Nat.le_refl _) _).setCell (by simp) _).setCell (by simp) _⟩
 · have hD:Hid (∀ o,Calls Tryz.prog 51 #[ptr M.m,.int .i64 H.num] (w.alloc o) fun e w'=>∃ b,e=.returned (.tuple #[.agg #[.int .i64 (tab M.ds H.num).1,.int .i64 (tab M.ds H.num).2],.bool b])∧Below (w.alloc o).heap.size (w.alloc o) w'):=Lib.hid fun o=>by
    by_cases hi:H.num<M.ds.length
    · exact (desc_in (hM.alloc o) H.num hi).mono fun e w' h=>⟨true,h⟩
    · rw [tab_none (by omega)]
      exact (desc_out (hM.alloc o) H.num (by omega) (by omega) (.inr (by omega))).mono fun e w' h=>⟨false,h⟩
   clear hM hH c0 c1 c2 c3 c5 c6 c7 c8
   have e1:IntKind.i64.wrap (H.num:Int)=H.num:=IntWalk.i64_in _ (by omega)
   generalize tab M.ds H.num=d at*
   generalize H.num=z at*
   generalize H.f=f at*
   go_enter Tryz.func159,Tryz.ntmps159
   go_wp2_with fail
   refine (hD.out _).mono ?_
   rintro e w1 ⟨b,rfl,hb⟩
   have hB1:Blk w1 w.heap.size 51 #[.int .i64 0,.int .i64 0]:=(Blk.made w _ _).only (Only.ofBelow hb (fun _=>False)) (by simp)
   have k0:=hB1.cell 0
   have k1:=hB1.cell 1
   have z0:=hB1.frozen 0
   have z1:=hB1.frozen 1
   simp at k0 k1
   have hlt:=hB1.lt
   have hb':Below w.heap.size w w1:=((Below.refl _ _).alloc (Nat.le_refl _) _).trans (hb.mono (by simp))
   replace hb':=Lib.hid hb'
   clear hb hB1 hD c4
   go_wp2_with fail
   exact bodyPost_ret (v:=dv d) (by simp [results,Tryz.results159,go_sem,dv,k0,k1,hlt]) rfl ⟨rfl,((hb'.out.setCell (by simp) _).setCell (by simp) _).alloc (by simp; omega) _⟩
end
end Go.Proofs.YtkogifmjbmnpgaaGreat.Ta
namespace Go.Proofs.YtkogifmjbmnpgaaGreat.Ta
open Go Go.RowKit Hp K Fl Rw Hm Ar Mm Me
set_option maxRecDepth 100000
theorem desc_n (a b:Int) (w:World):(Instr.field 51 (.agg #[.int .i64 a,.int .i64 b]) 0).run Tryz.prog w=.ok (.int .i64 a) w:=by kernel_rfl
section
variable {w w':World} {M:Mo} {H:Ho}
theorem foot_cells:∀ x,Cl.foot M.g M.A x→mfoot M x:=fun _ h=>.inr (.inl h)
theorem foot_locks:∀ x,Lo.foot M.lg M.lb x→mfoot M x:=fun _ h=>.inr (.inr (.inl h))
theorem HoAt.keep {S:Nat→Prop} (h:HoAt w H) (hM:MemAt w M) (ho:Only S w w') (hS:∀ x,S x→mfoot M x):HoAt w' H:=h.only ho (fun hs=>h.far hM (hS _ hs))
theorem writer_lk {s:Int} {d:Nat×Nat} (hs:0≤s∧s<4294967296) (hd:d.1≤65536) (w:World):Calls Tryz.prog 158 #[.int .u32 s,.int .i64 d.1] w fun e w'=>e=.returned (.int .i64 (lkn s d))∧w=w':=by
 have h:=writer_any s d.1 w hs.1 hs.2 (by omega) (by omega)
 rw [lkn_eq d hs.1] at h
 exact h
def freeB (M:Mo) (H:Ho):Bool:=decide (Lo.hol M.hs (lkn H.sum (tab M.ds H.num))= -1)
set_option maxHeartbeats 1000000 in
theorem mayTake_any (hM:MemAt w M) (hH:HoAt w H) (ok:Okh M H):
 Calls Tryz.prog 139 #[ptr H.f,ptr M.m] w fun e w'=>e=.returned (.bool (freeB M H))∧Below w.heap.size w w':=by
 obtain ⟨c0,c1,c2,c3,c4,c5,c6,c7,c8⟩:=hH.hd
 have d1:=hM.hd.2.1
 have lM:=hM.1.lt
 have lf:=hH.lt
 have hL:=Lib.hid (fun nq=>(loaded_any (hM.drewN nq) (hH.drewN nq) ok.num).mono fun e w2 h=>And.intro h.1 (show Below w.heap.size w w2 from (show Below w.heap.size w (w.drewN nq) from ⟨rfl,rfl,rfl,Nat.le_refl _,fun _ _=>rfl⟩).trans h.2))
 have hW:=Lib.hid (fun w=>writer_lk (d:=tab M.ds H.num) ok.sum ok.dn w)
 have hO:=Lib.hid (fun w' (hb:Below w.heap.size w w')=>Lo.holder_in (hM.below hb).2.2.1 _ ok.lb)
 have hk:=lkn_bd (tab M.ds H.num) ok.sum.1
 have hb:=Lo.hol_bd hM.2.2.1.2.2.1 (lkn H.sum (tab M.ds H.num))
 have hw:=ok.wk.1
 have hw':decide (0≤H.worker)=true:=by simpa using hw
 have hFB:freeB M H=decide (Lo.hol M.hs (lkn H.sum (tab M.ds H.num))= -1):=rfl
 rw [hFB]
 unfold dv at hL
 clear hFB hM hH ok c2 c3 c4 c5 c6 c7 c8
 generalize Lo.hol M.hs (lkn H.sum (tab M.ds H.num))=z at*
 generalize lkn H.sum (tab M.ds H.num)=k at*
 generalize tab M.ds H.num=d at*
 generalize H.f=f at*
 have bc:∀ w',Below w.heap.size w w'→w'.cell? ⟨M.m,1,none⟩=some (ptr M.lg)∧w'.cell? ⟨f,0,none⟩=some (.int .i64 H.worker)∧w'.cell? ⟨f,1,none⟩=some (.int .u32 H.sum):=fun w' hb=>by
  have h:=bcell hb
  exact ⟨(h.1 _ 1 lM).trans d1,(h.1 _ 0 lf).trans c0,(h.1 _ 1 lf).trans c1⟩
 replace bc:=Lib.hid bc
 have dn:=desc_n
 go_enter Tryz.func139,Tryz.ntmps139
 go_wp2_with fail
 go_region_held3 (fun w'=>w'.cell? ⟨M.m,1,none⟩=some (ptr M.lg)∧w'.cell? ⟨f,0,none⟩=some (.int .i64 H.worker)∧w'.cell? ⟨f,1,none⟩=some (.int .u32 H.sum)) (go_keep)
  (first
    | (go_at_call 159
       refine (hL.out 1).mono ?_
       rintro e w2 ⟨rfl,hb2⟩
       obtain ⟨s1,s2,s3⟩:=bc.out w2 hb2
       have hO2:=Lib.hid (hO.out w2 hb2)
       replace hb2:=Lib.hid hb2)
    | (go_at_call 158
       refine (hW.out _).mono ?_
       rintro e w3 ⟨rfl,rfl⟩)
    | (go_at_call 68
       refine hO2.out.mono ?_
       rintro e w4 ⟨rfl,hw4⟩
       obtain rfl:w2=w4:=hw4.symm))
 all_goals
  go_wp2_with fail
  go_ret
  exact ⟨K.ret_bool (by simp [BEq.beq]),hb2.out⟩
theorem HoAt.goes (h:Blk w H.f 167 (hoc H)) (n:Nat):Blk ((w.setCell ⟨H.f,2,none⟩ (rdv n H.f)).setCell ⟨H.f,3,none⟩ (nxv n H.f)) H.f 167 (hoc {H with nx:=n}):=(h.store 2 _).store 3 _
theorem HoAt.frz (h:HoAt w H):w.frozen? ⟨H.f,2,none⟩=false∧w.frozen? ⟨H.f,3,none⟩=false∧w.frozen? ⟨H.f,4,none⟩=false∧w.frozen? ⟨H.f,5,none⟩=false∧w.frozen? ⟨H.f,6,none⟩=false∧w.frozen? ⟨H.f,7,none⟩=false∧w.frozen? ⟨H.f,8,none⟩=false:=
 ⟨h.frozen 2,h.frozen 3,h.frozen 4,h.frozen 5,h.frozen 6,h.frozen 7,h.frozen 8⟩
theorem goOn_goes (h:HoAt w H) {F G n:Nat} {a b:Array Value} (e1:rdv n H.f=.func (.func F) a #[]) (e2:nxv n H.f=.func (.func G) b #[]):
 Calls Tryz.prog 105 #[ptr H.f,.func (.func F) a #[],.func (.func G) b #[]] w fun e w'=>e=.returned (.tuple #[])∧HoAt w' {H with nx:=n}∧Only (·=H.f) w w':=by
 refine (goOn_any h.hd.2.2.1 h.hd.2.2.2.1 h.frz.1 h.frz.2.1).mono ?_
 rintro e w' ⟨rfl,rfl⟩
 refine ⟨rfl,?_,((Only.refl (·=H.f) w).setCell (.inl rfl) _).setCell (.inl rfl) _⟩
 have:=HoAt.goes h n
 rw [e1,e2] at this
 exact this
theorem load_any (hM:MemAt w M) (hH:HoAt w H) (hx:1<M.xs.length):
 Calls Tryz.prog 107 #[ptr H.f,ptr M.m] w fun e w'=>e=.returned (.bool false)∧HoAt w' {H with nx:=2,num:=(Cl.nth M.xs 1).toNat}∧Only (·=H.f) w w':=by
 have hL:=Lib.hid (Cl.load_in hM.2.1 1 hx)
 have c4:=hH.hd.2.2.2.2.1
 have z4:=hH.frz.2.2.1
 have d0:=hM.hd.1
 have hv:=Cl.getD_bd hM.2.1.2.2.1 1
 obtain ⟨z,hz⟩:=Int.eq_ofNat_of_zero_le hv.1
 rw [hz] at hL ⊢
 rw [Int.toNat_natCast]
 have HH:=Lib.hid hH
 clear hM hH hv hz
 go_enter Tryz.func107,Tryz.ntmps107
 go_wp2_with (go_at_call 42; refine hL.out.mono ?_; rintro e w' ⟨rfl,hw⟩; obtain rfl:w=w':=hw.symm)
 have hS:HoAt (w.setCell ⟨H.f,4,none⟩ (.int .u64 z)) {H with num:=z}:=Blk.store HH.out 4 _
 have hS2:=Lib.hid (((Only.refl (·=H.f) w).setCell (p:=⟨H.f,4,none⟩) (.inl rfl) (.int .u64 z)))
 refine (goOn_goes hS (n:=2) rfl rfl).mono ?_
 rintro e w2 ⟨rfl,hB2,hO2⟩
 replace hB2:=Lib.hid hB2
 replace hO2:=Lib.hid hO2
 clear hS
 go_wp2_with fail
 go_ret
 exact ⟨rfl,hB2.out,hS2.out.trans hO2.out⟩
end
end Go.Proofs.YtkogifmjbmnpgaaGreat.Ta
namespace Go.Proofs.YtkogifmjbmnpgaaGreat.Ta
open Go Go.RowKit Hp K Fl Rw Hm Ar Mm Me
set_option maxRecDepth 100000
section
variable {w w':World} {M:Mo} {H:Ho}
set_option maxHeartbeats 2000000 in
theorem take_free (hM:MemAt w M) (hH:HoAt w H) (ok:Okh M H) (hf:Lo.hol M.hs (lkn H.sum (tab M.ds H.num))<0):
 Calls Tryz.prog 140 #[ptr H.f,ptr M.m] w fun e w'=>e=.returned (.bool false)∧MemAt w' {M with hs:=M.hs.set (lkn H.sum (tab M.ds H.num)) H.worker}∧
  HoAt w' {H with nx:=3,d:=tab M.ds H.num,lock:=lkn H.sum (tab M.ds H.num)}∧Only (fun x=>mfoot M x∨x=H.f) w w':=by
 obtain ⟨c0,c1,c2,c3,c4,c5,c6,c7,c8⟩:=hH.hd
 have d1:=hM.hd.2.1
 have lM:=hM.1.lt
 have lf:=hH.lt
 have hL:=Lib.hid (loaded_any hM hH ok.num)
 have hW:=Lib.hid (fun w=>writer_lk (d:=tab M.ds H.num) ok.sum ok.dn w)
 have hk:=lkn_bd (tab M.ds H.num) ok.sum.1
 have hT:=Lib.hid (fun w' (hb:Below w.heap.size w w') nq=>Lo.try_free ((hM.below hb).drewN nq).2.2.1 _ ok.lb H.worker ok.wk.1 ok.wk.2 hf)
 have HM:=Lib.hid hM
 have HH:=Lib.hid hH
 have bc:∀ w',Below w.heap.size w w'→w'.cell? ⟨M.m,1,none⟩=some (ptr M.lg)∧w'.cell? ⟨H.f,0,none⟩=some (.int .i64 H.worker)∧w'.cell? ⟨H.f,1,none⟩=some (.int .u32 H.sum):=fun w' hb=>by
  have h:=bcell hb
  exact ⟨(h.1 _ 1 lM).trans d1,(h.1 _ 0 lf).trans c0,(h.1 _ 1 lf).trans c1⟩
 replace bc:=Lib.hid bc
 unfold dv at hL
 clear hM hH ok hf c0 c1 c2 c3 c4 c5 c6 c7 c8 d1
 generalize hkk:lkn H.sum (tab M.ds H.num)=k at*
 generalize hdd:tab M.ds H.num=d at*
 replace hkk:=Lib.hid hkk
 replace hdd:=Lib.hid hdd
 go_enter Tryz.func140,Tryz.ntmps140
 go_wp2_with fail
 refine hL.out.mono ?_
 rintro e w1 ⟨rfl,hb1⟩
 have hsz:=hb1.size
 obtain ⟨s1,s2,s3⟩:=bc.out w1 hb1
 replace hb1:=Lib.hid hb1
 have lM1:M.m<w1.heap.size:=by omega
 have lf1:H.f<w1.heap.size:=by omega
 clear hL
 go_wp2_with fail
 obtain ⟨b,hbb⟩:∃ b,b=w1.heap.size:=⟨_,rfl⟩
 rw [← hbb]
 have hB:Blk (w1.alloc (.cells #[.int .i64 d.1,.int .i64 d.2] 51)) b 51 #[.int .i64 d.1,.int .i64 d.2]:=by rw [hbb]; exact Blk.made w1 _ _
 have hb2:=hb1.out.alloc (o:=.cells #[.int .i64 d.1,.int .i64 d.2] 51) hsz
 generalize w1.alloc (.cells #[.int .i64 d.1,.int .i64 d.2] 51)=w2 at*
 replace hbb:=Lib.hid hbb
 clear s1 s2 s3
 obtain ⟨s1,s2,s3⟩:=bc.out w2 hb2
 have k0:=hB.cell 0
 have k1:=hB.cell 1
 simp at k0 k1
 have hsz2:=hb2.size
 have lb:=hB.lt
 replace hB:=Lib.hid hB
 replace hb2:=Lib.hid hb2
 have dn:=desc_n
 go_quiet ((go_at_call 158; exact Calls.quiet_of_same ((hW.out _).mono fun _ _ h=>⟨h.1,h.2.symm⟩)))
 obtain ⟨w3,hw3⟩:∃ w3,w3=w2.drewN nq:=⟨_,rfl⟩
 have hB3:Blk w3 b 51 #[.int .i64 d.1,.int .i64 d.2]:=by rw [hw3]; exact hB.out
 have hb3:Below w.heap.size w w3:=by rw [hw3]; exact hb2.out.trans ⟨rfl,rfl,rfl,Nat.le_refl _,fun _ _=>rfl⟩
 rw [← hw3]
 replace hw3:=Lib.hid hw3
 clear s1 s2 s3 k0 k1
 obtain ⟨s1,s2,s3⟩:=bc.out w3 hb3
 have hT3:=Lib.hid (hT.out w3 hb3 1)
 have hX3:=Lib.hid (fun w4 (hL:Lo.LocksAt w4 M.lg M.lb (M.hs.set k H.worker)) (hO:Only (Lo.foot M.lg M.lb) (w3.drewN 1) w4)=>by
  have hO':Only (Lo.foot M.lg M.lb) w3 w4:=((Only.refl (Lo.foot M.lg M.lb) w3).drewN 1).trans hO
  have hM3:=HM.out.below hb3
  have hH3:=HH.out.below hb3
  exact (⟨hM3.locks hL hO',hH3.keep hM3 hO' foot_locks,Blk.only hB3 hO' (fun hx=>(locks_ty hM3.2.2.1 hx).apart (blk_ty hB3) (by decide)),(Only.ofBelow hb3 (fun x=>mfoot M x∨x=H.f)).trans (hO'.mono (fun x _ q=>.inl (foot_locks _ q)))⟩:
   MemAt w4 {M with hs:=M.hs.set k H.worker}∧HoAt w4 H∧Blk w4 b 51 #[.int .i64 d.1,.int .i64 d.2]∧Only (fun x=>mfoot M x∨x=H.f) w w4))
 replace hB3:=Lib.hid hB3
 replace hb3:=Lib.hid hb3
 clear hB hb2 hT hW
 go_wp2_with fail
 go_region_held3 (fun w'=>w'.cell? ⟨M.m,1,none⟩=some (ptr M.lg)∧w'.cell? ⟨H.f,0,none⟩=some (.int .i64 H.worker)) (go_keep)
  (first
    | (go_at_call 70
       refine hT3.out.mono ?_
       rintro e w4 ⟨rfl,hL4,hO4⟩
       obtain ⟨hM4,hH4,hB4,hO4'⟩:=hX3.out w4 hL4 hO4
       have t1:=hM4.hd.2.1
       have t2:=hH4.hd.1
       have t5:=hH4.hd.2.2.2.2.2.1
       have t6:=hH4.hd.2.2.2.2.2.2.1
       have t7:=hH4.hd.2.2.2.2.2.2.2.1
       obtain ⟨_,_,_,y5,y6,y7,_⟩:=hH4.frz
       have k0:=hB4.cell 0
       have k1:=hB4.cell 1
       simp at t1 k0 k1
       replace hM4:=Lib.hid hM4
       replace hH4:=Lib.hid hH4
       replace hB4:=Lib.hid hB4
       replace hO4':=Lib.hid hO4'
       clear hL4 hO4))
 all_goals
  go_wp2_with fail
  have hS:HoAt (((w4.setCell ⟨H.f,5,none⟩ (.int .i64 d.1)).setCell ⟨H.f,6,none⟩ (.int .i64 d.2)).setCell ⟨H.f,7,none⟩ (.int .i64 k)) {H with d:=d,lock:=k}:=((hH4.out.store 5 _).store 6 _).store 7 _
  have hOS:=Lib.hid ((((hO4'.out.setCell (p:=⟨H.f,5,none⟩) (.inl (.inr rfl)) (.int .i64 d.1)).setCell (p:=⟨H.f,6,none⟩) (.inl (.inr rfl)) (.int .i64 d.2))).setCell (p:=⟨H.f,7,none⟩) (.inl (.inr rfl)) (.int .i64 k))
  have hMS:=hM4.out.only (((((Only.refl (·=H.f) w4).setCell (p:=⟨H.f,5,none⟩) (.inl rfl) (.int .i64 d.1)).setCell (p:=⟨H.f,6,none⟩) (.inl rfl) (.int .i64 d.2))).setCell (p:=⟨H.f,7,none⟩) (.inl rfl) (.int .i64 k)) (fun x hx q=>by subst q; exact hH4.out.far hM4.out hx)
  refine (goOn_goes hS (n:=3) rfl rfl).mono ?_
  rintro e w5 ⟨rfl,hH5,hO5⟩
  have hM5:=Lib.hid (hMS.only hO5 (fun x hx q=>by subst q; exact hS.far hMS hx))
  replace hH5:=Lib.hid hH5
  have hO5':=Lib.hid (hOS.out.trans (hO5.mono (fun x _ q=>.inr q)))
  clear hS hMS hO5 t1 t2 t5 t6 t7 y5 y6 y7 k0 k1 s1 s2 s3
  go_wp2_with fail
  go_ret
  exact ⟨rfl,hM5.out,hH5.out,hO5'.out⟩
end
end Go.Proofs.YtkogifmjbmnpgaaGreat.Ta
namespace Go.Proofs.YtkogifmjbmnpgaaGreat.Ta
open Go Go.RowKit Hp K Fl Rw Hm Ar Mm Me
set_option maxRecDepth 100000
section
variable {w w':World} {M:Mo} {H:Ho}
theorem again_same (hM:MemAt w M) (hH:HoAt w H) (hx:1<M.xs.length) (he:Cl.nth M.xs 1=H.num):
 Calls Tryz.prog 160 #[ptr H.f,ptr M.m] w fun e w'=>e=.returned (.bool true)∧HoAt w' {H with nx:=5,holds:=true}∧Only (·=H.f) w w':=by
 have hL:=Lib.hid (Cl.load_in hM.2.1 1 hx)
 rw [he] at hL
 have c4:=hH.hd.2.2.2.2.1
 have c8:=hH.hd.2.2.2.2.2.2.2.2
 have z8:=hH.frz.2.2.2.2.2.2
 have d0:=hM.hd.1
 have HH:=Lib.hid hH
 clear hM hH he
 go_enter Tryz.func160,Tryz.ntmps160
 go_wp2_with (go_at_call 42; refine hL.out.mono ?_; rintro e w' ⟨rfl,hw⟩; obtain rfl:w=w':=hw.symm)
 have hS:HoAt (w.setCell ⟨H.f,8,none⟩ (.bool true)) {H with holds:=true}:=Blk.store HH.out 8 _
 have hS2:=Lib.hid (((Only.refl (·=H.f) w).setCell (p:=⟨H.f,8,none⟩) (.inl rfl) (.bool true)))
 refine (goOn_goes hS (n:=5) rfl rfl).mono ?_
 rintro e w2 ⟨rfl,hB2,hO2⟩
 replace hB2:=Lib.hid hB2
 replace hO2:=Lib.hid hO2
 clear hS
 go_wp2_with fail
 go_ret
 exact ⟨rfl,hB2.out,hS2.out.trans hO2.out⟩
theorem again_other (hM:MemAt w M) (hH:HoAt w H) (hx:1<M.xs.length) (he:Cl.nth M.xs 1≠H.num):
 Calls Tryz.prog 160 #[ptr H.f,ptr M.m] w fun e w'=>e=.returned (.bool false)∧HoAt w' {H with nx:=4}∧Only (·=H.f) w w':=by
 have hL:=Lib.hid (Cl.load_in hM.2.1 1 hx)
 have c4:=hH.hd.2.2.2.2.1
 have d0:=hM.hd.1
 have HH:=Lib.hid hH
 have hne:(Cl.nth M.xs 1 != (H.num:Int))=true:=by simpa using he
 clear hM hH he
 generalize Cl.nth M.xs 1=z at*
 go_enter Tryz.func160,Tryz.ntmps160
 go_wp2_with (go_at_call 42; refine hL.out.mono ?_; rintro e w' ⟨rfl,hw⟩; obtain rfl:w=w':=hw.symm)
 refine (goOn_goes HH.out (n:=4) rfl rfl).mono ?_
 rintro e w2 ⟨rfl,hB2,hO2⟩
 replace hB2:=Lib.hid hB2
 replace hO2:=Lib.hid hO2
 go_wp2_with fail
 go_ret
 exact ⟨rfl,hB2.out,hO2.out⟩
set_option maxHeartbeats 1000000 in
theorem free_any (hM:MemAt w M) (hH:HoAt w H) (ok:Okh M H) (hl:H.lock<M.hs.length) (hh:Lo.hol M.hs H.lock=H.worker):
 Calls Tryz.prog 174 #[ptr H.f,ptr M.m] w fun e w'=>e=.returned (.bool false)∧MemAt w' {M with hs:=M.hs.set H.lock (-1)}∧HoAt w' {H with nx:=1}∧Only (fun x=>mfoot M x∨x=H.f) w w':=by
 have hT:=Lib.hid (fun nq=>Lo.free_own (hM.drewN nq).2.2.1 H.lock hl H.worker ok.wk.1 hh)
 have c0:=hH.hd.1
 have c7:=hH.hd.2.2.2.2.2.2.2.1
 have d1:=hM.hd.2.1
 have HM:=Lib.hid hM
 have HH:=Lib.hid hH
 have lM:=hM.1.lt
 have lf:=hH.lt
 clear hM hH ok hl hh
 go_enter Tryz.func174,Tryz.ntmps174
 go_wp2_with fail
 go_region_held3 (fun w'=>w'.cell? ⟨M.m,1,none⟩=some (ptr M.lg)∧w'.cell? ⟨H.f,0,none⟩=some (.int .i64 H.worker)∧w'.cell? ⟨H.f,7,none⟩=some (.int .i64 H.lock)) (go_keep)
  (first
    | (go_at_call 138
       refine (hT.out 1).mono ?_
       rintro e w2 ⟨rfl,hL2,hO2⟩
       have hO2':=((Only.refl (Lo.foot M.lg M.lb) w).drewN 1).trans hO2
       have hM2:=HM.out.locks hL2 hO2'
       have hH2:=HH.out.keep HM.out hO2' foot_locks
       have s1:=hM2.hd.2.1
       have s2:=hH2.hd.1
       have s3:=hH2.hd.2.2.2.2.2.2.2.1
       simp at s1
       replace hO2':=Lib.hid hO2'
       replace hM2:=Lib.hid hM2
       replace hH2:=Lib.hid hH2
       clear hL2 hO2))
 all_goals
  go_wp2_with fail
  refine (goOn_goes hH2.out (n:=1) rfl rfl).mono ?_
  rintro e w3 ⟨rfl,hB3,hO3⟩
  have hM3:=Lib.hid (hM2.out.only hO3 (fun x hx q=>by subst q; exact hH2.out.far hM2.out hx))
  have hOO:=Lib.hid ((hO2'.out.mono (fun x _ q=>(.inl (foot_locks _ q):mfoot M x∨x=H.f))).trans (hO3.mono (fun x _ q=>.inr q)))
  replace hB3:=Lib.hid hB3
  clear hO3 s1 s2 s3
  go_wp2_with fail
  go_ret
  exact ⟨rfl,hM3.out,hB3.out,hOO.out⟩
set_option maxHeartbeats 1000000 in
theorem drop_yes (hM:MemAt w M) (hH:HoAt w H) (ok:Okh M H) (hl:H.lock<M.hs.length) (hh:Lo.hol M.hs H.lock=H.worker) (hs:H.holds=true):
 Calls Tryz.prog 129 #[ptr H.f,ptr M.m] w fun e w'=>e=.returned (.bool true)∧MemAt w' {M with hs:=M.hs.set H.lock (-1)}∧HoAt w' {H with holds:=false}∧Only (fun x=>mfoot M x∨x=H.f) w w':=by
 have c0:=hH.hd.1
 have c7:=hH.hd.2.2.2.2.2.2.2.1
 have c8:=hH.hd.2.2.2.2.2.2.2.2
 rw [hs] at c8
 have z8:=hH.frz.2.2.2.2.2.2
 have d1:=hM.hd.2.1
 have lM:=hM.1.lt
 have lf:=hH.lt
 have hS:HoAt (w.setCell ⟨H.f,8,none⟩ (.bool false)) {H with holds:=false}:=Blk.store hH 8 _
 have hOS:=(Only.refl (·=H.f) w).setCell (p:=⟨H.f,8,none⟩) (.inl rfl) (.bool false)
 have hMS:=hM.only hOS (fun x hx q=>by subst q; exact hH.far hM hx)
 replace hOS:=Lib.hid hOS
 have hT:=Lib.hid (fun nq=>Lo.free_own (hMS.drewN nq).2.2.1 H.lock hl H.worker ok.wk.1 hh)
 have hne:M.m≠H.f:=fun e=>hH.far hM (.inl e.symm)
 replace hMS:=Lib.hid hMS
 replace hS:=Lib.hid hS
 clear hM hH ok hl hh hs
 go_enter Tryz.func129,Tryz.ntmps129
 go_upto_region 4 with (fail)
 clear c0 c7 c8 z8 d1 hne
 generalize w.setCell ⟨H.f,8,none⟩ (.bool false)=w1 at*
 have c0:=hS.out.hd.1
 have c7:=hS.out.hd.2.2.2.2.2.2.2.1
 have d1:=hMS.out.hd.2.1
 simp only at c0 c7
 have hlm:=hMS.out.1.lt
 have hlf:H.f<w1.heap.size:=hS.out.lt
 go_wp2_with fail
 go_region_held3 (fun w'=>w'.cell? ⟨M.m,1,none⟩=some (ptr M.lg)∧w'.cell? ⟨H.f,0,none⟩=some (.int .i64 H.worker)∧w'.cell? ⟨H.f,7,none⟩=some (.int .i64 H.lock)) (go_keep)
  (first
    | (go_at_call 138
       refine (hT.out 1).mono ?_
       rintro e w2 ⟨rfl,hL2,hO2⟩
       have hO2':=((Only.refl (Lo.foot M.lg M.lb) w1).drewN 1).trans hO2
       have hM2:=hMS.out.locks hL2 hO2'
       have hH2:=hS.out.keep hMS.out hO2' foot_locks
       have s1:=hM2.hd.2.1
       have s2:=hH2.hd.1
       have s3:=hH2.hd.2.2.2.2.2.2.2.1
       simp at s1 s2 s3
       replace hO2':=Lib.hid hO2'
       replace hM2:=Lib.hid hM2
       replace hH2:=Lib.hid hH2
       clear hL2 hO2))
 all_goals
  have hOO:=Lib.hid ((hOS.out.mono (fun x _ q=>(.inr q:mfoot M x∨x=H.f))).trans (hO2'.out.mono (fun x _ q=>.inl (foot_locks _ q))))
  go_wp2_with fail
  go_ret
  exact ⟨rfl,hM2.out,hH2.out,hOO.out⟩
theorem lock_of (hH:HoAt w H):Calls Tryz.prog 128 #[ptr H.f] w fun e w'=>e=.returned (.int .i64 (if H.holds=true then (H.lock:Int) else-1))∧w'=w:=by
 have c7:=hH.hd.2.2.2.2.2.2.2.1
 have c8:=hH.hd.2.2.2.2.2.2.2.2
 clear hH
 generalize H.lock=k at*
 cases hs:H.holds with
 | true=>
   rw [hs] at c8
   go_enter Tryz.func128,Tryz.ntmps128
   go_wp2
   go_ret
   exact ⟨rfl,rfl⟩
 | false=>
   rw [hs] at c8
   go_enter Tryz.func128,Tryz.ntmps128
   go_wp2
   go_ret
   exact ⟨rfl,rfl⟩
theorem desc_of (hH:HoAt w H):Calls Tryz.prog 111 #[ptr H.f] w fun e w'=>e=.returned (dv (if H.holds=true then H.d else (0,0)))∧Below w.heap.size w w':=by
 have c5:=hH.hd.2.2.2.2.2.1
 have c6:=hH.hd.2.2.2.2.2.2.1
 have c8:=hH.hd.2.2.2.2.2.2.2.2
 have lf:=hH.lt
 clear hH
 generalize H.d=d at*
 cases hs:H.holds with
 | true=>
   rw [hs] at c8
   go_enter Tryz.func111,Tryz.ntmps111
   go_wp2
   exact bodyPost_ret (v:=dv d) (by simp [results,Tryz.results111,go_sem,dv]) rfl ⟨rfl,by first | exact ((Below.refl _ _).alloc (Nat.le_refl _) _) | exact (((Below.refl _ _).alloc (Nat.le_refl _) _).setCell (by simp) _).setCell (by simp) _⟩
 | false=>
   rw [hs] at c8
   go_enter Tryz.func111,Tryz.ntmps111
   go_wp2
   exact bodyPost_ret (v:=dv (0,0)) (by simp [results,Tryz.results111,go_sem,dv]) rfl ⟨rfl,by first | exact ((Below.refl _ _).alloc (Nat.le_refl _) _) | exact (((Below.refl _ _).alloc (Nat.le_refl _) _).setCell (by simp) _).setCell (by simp) _⟩
/-! ### what comes next-/
theorem enters_mt (args:Array Value) (w:World):(callFunc 139 args).run Tryz.prog w=.ok (.enter 139 args) w:=by kernel_rfl
theorem enters_al (args:Array Value) (w:World):(callFunc 106 args).run Tryz.prog w=.ok (.enter 106 args) w:=by kernel_rfl
theorem enters_do (args:Array Value) (w:World):(callFunc 175 args).run Tryz.prog w=.ok (.enter 175 args) w:=by kernel_rfl
theorem enters_lo (args:Array Value) (w:World):(callFunc 107 args).run Tryz.prog w=.ok (.enter 107 args) w:=by kernel_rfl
theorem enters_ta (args:Array Value) (w:World):(callFunc 140 args).run Tryz.prog w=.ok (.enter 140 args) w:=by kernel_rfl
theorem enters_la (args:Array Value) (w:World):(callFunc 160 args).run Tryz.prog w=.ok (.enter 160 args) w:=by kernel_rfl
theorem enters_fr (args:Array Value) (w:World):(callFunc 174 args).run Tryz.prog w=.ok (.enter 174 args) w:=by kernel_rfl
theorem step_fm {F f:Nat} {cv m:Value} {c:Bool} {P:World→Prop} (c3:w.cell? ⟨f,3,none⟩=some (fnm F cv)) (eF:∀ args w,(callFunc F args).run Tryz.prog w=.ok (.enter F args) w)
 (hF:Calls Tryz.prog F #[cv,m] w fun e w'=>e=.returned (.bool c)∧P w'):Calls Tryz.prog 109 #[ptr f,m] w fun e w'=>e=.returned (.bool c)∧P w':=by
 replace hF:=Lib.hid hF
 go_enter Tryz.func109,Tryz.ntmps109
 go_wp2_with fail
 refine hF.out.mono ?_
 rintro e w' ⟨rfl,hPw⟩
 replace hPw:=Lib.hid hPw
 clear c3
 go_wp2_with fail
 go_ret
 exact ⟨rfl,hPw.out⟩
theorem step_f0 {F f:Nat} {m:Value} {c:Bool} {P:World→Prop} (c3:w.cell? ⟨f,3,none⟩=some (fn0 F)) (eF:∀ args w,(callFunc F args).run Tryz.prog w=.ok (.enter F args) w)
 (hF:Calls Tryz.prog F #[m] w fun e w'=>e=.returned (.bool c)∧P w'):Calls Tryz.prog 109 #[ptr f,m] w fun e w'=>e=.returned (.bool c)∧P w':=by
 replace hF:=Lib.hid hF
 go_enter Tryz.func109,Tryz.ntmps109
 go_wp2_with fail
 refine hF.out.mono ?_
 rintro e w' ⟨rfl,hPw⟩
 replace hPw:=Lib.hid hPw
 clear c3
 go_wp2_with fail
 go_ret
 exact ⟨rfl,hPw.out⟩
theorem ready_fm {F f:Nat} {cv m:Value} {c:Bool} {P:World→Prop} (c3:w.cell? ⟨f,2,none⟩=some (fnm F cv)) (eF:∀ args w,(callFunc F args).run Tryz.prog w=.ok (.enter F args) w)
 (hF:Calls Tryz.prog F #[cv,m] w fun e w'=>e=.returned (.bool c)∧P w'):Calls Tryz.prog 75 #[ptr f,m] w fun e w'=>e=.returned (.bool c)∧P w':=by
 replace hF:=Lib.hid hF
 go_enter Tryz.func75,Tryz.ntmps75
 go_wp2_with fail
 refine hF.out.mono ?_
 rintro e w' ⟨rfl,hPw⟩
 replace hPw:=Lib.hid hPw
 clear c3
 go_wp2_with fail
 go_ret
 exact ⟨rfl,hPw.out⟩
theorem ready_f0 {F f:Nat} {m:Value} {c:Bool} {P:World→Prop} (c3:w.cell? ⟨f,2,none⟩=some (fn0 F)) (eF:∀ args w,(callFunc F args).run Tryz.prog w=.ok (.enter F args) w)
 (hF:Calls Tryz.prog F #[m] w fun e w'=>e=.returned (.bool c)∧P w'):Calls Tryz.prog 75 #[ptr f,m] w fun e w'=>e=.returned (.bool c)∧P w':=by
 replace hF:=Lib.hid hF
 go_enter Tryz.func75,Tryz.ntmps75
 go_wp2_with fail
 refine hF.out.mono ?_
 rintro e w' ⟨rfl,hPw⟩
 replace hPw:=Lib.hid hPw
 clear c3
 go_wp2_with fail
 go_ret
 exact ⟨rfl,hPw.out⟩
/-! ### a step,whole-/
def hready (M:Mo) (H:Ho):Bool:=if H.nx=2 then freeB M H else true
def hstep (M:Mo) (H:Ho):Mo×Ho:=
 if H.nx=1 then (M,{H with nx:=2,num:=(Cl.nth M.xs 1).toNat})
 else if H.nx=2 then ({M with hs:=M.hs.set (lkn H.sum (tab M.ds H.num)) H.worker},{H with nx:=3,d:=tab M.ds H.num,lock:=lkn H.sum (tab M.ds H.num)})
 else if H.nx=3 then (if Cl.nth M.xs 1=H.num then (M,{H with nx:=5,holds:=true}) else (M,{H with nx:=4}))
 else if H.nx=4 then ({M with hs:=M.hs.set H.lock (-1)},{H with nx:=1})
 else (M,H)
def hdone (M:Mo) (H:Ho):Bool:=decide (H.nx=3∧Cl.nth M.xs 1=H.num∨5≤H.nx)
def Own (M:Mo) (H:Ho):Prop:=(H.nx=3∨H.nx=4∨H.holds=true)→H.lock<M.hs.length∧Lo.hol M.hs H.lock=H.worker
theorem hold_ready (hM:MemAt w M) (hH:HoAt w H) (ok:Okh M H):
 Calls Tryz.prog 75 #[ptr H.f,ptr M.m] w fun e w'=>e=.returned (.bool (hready M H))∧Below w.heap.size w w':=by
 have c2:=hH.hd.2.2.1
 unfold rdv at c2
 unfold hready
 split
 · rename_i h
   rw [if_pos h] at c2
   exact ready_fm c2 enters_mt (mayTake_any hM hH ok)
 · rename_i h
   rw [if_neg h] at c2
   exact ready_f0 c2 enters_al ((always_any _ w).mono fun e w' q=>⟨q.1,q.2▸Below.refl _ _⟩)
theorem hold_step (hM:MemAt w M) (hH:HoAt w H) (ok:Okh M H) (ow:Own M H) (h1:1≤H.nx) (hr:hready M H=true):
 Calls Tryz.prog 109 #[ptr H.f,ptr M.m] w fun e w'=>e=.returned (.bool (hdone M H))∧MemAt w' (hstep M H).1∧HoAt w' (hstep M H).2∧Only (fun x=>mfoot M x∨x=H.f) w w':=by
 have c3:=hH.hd.2.2.2.1
 unfold nxv at c3
 have up:∀ w',Only (·=H.f) w w'→MemAt w' M∧Only (fun x=>mfoot M x∨x=H.f) w w':=fun w' ho=>⟨hM.only ho (fun x hx q=>by subst q; exact hH.far hM hx),ho.mono (fun x _ q=>.inr q)⟩
 by_cases e1:H.nx=1
 · have hd:hdone M H=false:=by unfold hdone; simp; omega
   have hs:hstep M H=(M,{H with nx:=2,num:=(Cl.nth M.xs 1).toNat}):=by unfold hstep; rw [if_pos e1]
   rw [if_pos e1] at c3
   rw [hd,hs]
   exact step_fm c3 enters_lo ((load_any hM hH ok.xl).mono fun e w' q=>⟨q.1,(up w' q.2.2).1,q.2.1,(up w' q.2.2).2⟩)
 · rw [if_neg e1] at c3
   by_cases e2:H.nx=2
   · have hd:hdone M H=false:=by unfold hdone; simp; omega
     have hs:hstep M H=({M with hs:=M.hs.set (lkn H.sum (tab M.ds H.num)) H.worker},{H with nx:=3,d:=tab M.ds H.num,lock:=lkn H.sum (tab M.ds H.num)}):=by unfold hstep; rw [if_neg e1,if_pos e2]
     rw [if_pos e2] at c3
     rw [hd,hs]
     refine step_fm c3 enters_ta (take_free hM hH ok ?_)
     unfold hready at hr
     rw [if_pos e2] at hr
     unfold freeB at hr
     have:=of_decide_eq_true hr
     omega
   · rw [if_neg e2] at c3
     by_cases e3:H.nx=3
     · rw [if_pos e3] at c3
       by_cases he:Cl.nth M.xs 1=H.num
       · have hd:hdone M H=true:=by unfold hdone; simp [e3,he]
         have hs:hstep M H=(M,{H with nx:=5,holds:=true}):=by unfold hstep; rw [if_neg e1,if_neg e2,if_pos e3,if_pos he]
         rw [hd,hs]
         exact step_fm c3 enters_la ((again_same hM hH ok.xl he).mono fun e w' q=>⟨q.1,(up w' q.2.2).1,q.2.1,(up w' q.2.2).2⟩)
       · have hd:hdone M H=false:=by unfold hdone; simp [e3,he]
         have hs:hstep M H=(M,{H with nx:=4}):=by unfold hstep; rw [if_neg e1,if_neg e2,if_pos e3,if_neg he]
         rw [hd,hs]
         exact step_fm c3 enters_la ((again_other hM hH ok.xl he).mono fun e w' q=>⟨q.1,(up w' q.2.2).1,q.2.1,(up w' q.2.2).2⟩)
     · rw [if_neg e3] at c3
       by_cases e4:H.nx=4
       · have hd:hdone M H=false:=by unfold hdone; simp; omega
         have hs:hstep M H=({M with hs:=M.hs.set H.lock (-1)},{H with nx:=1}):=by unfold hstep; rw [if_neg e1,if_neg e2,if_neg e3,if_pos e4]
         rw [if_pos e4] at c3
         rw [hd,hs]
         obtain ⟨o1,o2⟩:=ow (.inr (.inl e4))
         exact step_fm c3 enters_fr (free_any hM hH ok o1 o2)
       · have hd:hdone M H=true:=by unfold hdone; simp; omega
         have hs:hstep M H=(M,H):=by unfold hstep; rw [if_neg e1,if_neg e2,if_neg e3,if_neg e4]
         rw [if_neg e4] at c3
         rw [hd,hs]
         exact step_f0 c3 enters_do ((done_any _ w).mono fun e w' q=>⟨q.1,by rw [q.2]; exact ⟨hM,hH,Only.refl _ _⟩⟩)
end
end Go.Proofs.YtkogifmjbmnpgaaGreat.Ta
namespace Go.Proofs.YtkogifmjbmnpgaaGreat.Ta
open Go Go.RowKit Hp K Fl Rw Hm Ar Mm Me
set_option maxRecDepth 100000
theorem mrH (a:Addr) (w:World) (f:Nat):(method (f+1) 138 (.pointer (some a)) "Ready").run Tryz.prog w=.ok (75,.pointer (some a)) w:=by kernel_rfl
theorem msH (a:Addr) (w:World) (f:Nat):(method (f+1) 138 (.pointer (some a)) "Step").run Tryz.prog w=.ok (109,.pointer (some a)) w:=by kernel_rfl
theorem erH (args:Array Value) (w:World):(callFunc 75 args).run Tryz.prog w=.ok (.enter 75 args) w:=by kernel_rfl
theorem esH (args:Array Value) (w:World):(callFunc 109 args).run Tryz.prog w=.ok (.enter 109 args) w:=by kernel_rfl
def lready (ds:List (Nat×Nat)) (s:List Int×Ho):Bool:=if s.2.nx=2 then decide (Lo.hol s.1 (lkn s.2.sum (tab ds s.2.num))= -1) else true
def lstep (xs:List Int) (ds:List (Nat×Nat)) (s:List Int×Ho):List Int×Ho:=
 if s.2.nx=1 then (s.1,{s.2 with nx:=2,num:=(Cl.nth xs 1).toNat})
 else if s.2.nx=2 then (s.1.set (lkn s.2.sum (tab ds s.2.num)) s.2.worker,{s.2 with nx:=3,d:=tab ds s.2.num,lock:=lkn s.2.sum (tab ds s.2.num)})
 else if s.2.nx=3 then (if Cl.nth xs 1=s.2.num then (s.1,{s.2 with nx:=5,holds:=true}) else (s.1,{s.2 with nx:=4}))
 else if s.2.nx=4 then (s.1.set s.2.lock (-1),{s.2 with nx:=1})
 else s
def ldone (xs:List Int) (s:List Int×Ho):Bool:=decide (s.2.nx=3∧Cl.nth xs 1=s.2.num∨5≤s.2.nx)
theorem hready_eq (M:Mo) (H:Ho):hready M H=lready M.ds (M.hs,H):=rfl
theorem hdone_eq (M:Mo) (H:Ho):hdone M H=ldone M.xs (M.hs,H):=rfl
theorem hstep_eq (M:Mo) (H:Ho):hstep M H=({M with hs:=(lstep M.xs M.ds (M.hs,H)).1},(lstep M.xs M.ds (M.hs,H)).2):=by
 unfold hstep lstep
 by_cases e1:H.nx=1
 · simp [e1]
 · by_cases e2:H.nx=2
   · simp [e2]
   · by_cases e3:H.nx=3
     · by_cases he:Cl.nth M.xs 1=H.num<;>simp [e3,he]
     · by_cases e4:H.nx=4
       · simp [e4]
       · simp [e1,e2,e3,e4]
theorem hol_set {hs:List Int} {j:Nat} (hj:j<hs.length) (v:Int) (i:Nat):Lo.hol (hs.set j v) i=if i=j then v else Lo.hol hs i:=by
 unfold Lo.hol List.getD
 rw [List.getElem?_set]
 by_cases e:j=i
 · subst e; simp [hj]
 · rw [if_neg e,if_neg (fun q=>e q.symm)]
structure Okl (xs:List Int) (ds:List (Nat×Nat)) (s:List Int×Ho):Prop where
 sum:0≤s.2.sum∧s.2.sum<4294967296
 wk:0≤s.2.worker∧s.2.worker≤9223372036854775807
 hl:4<s.1.length
 xl:1<xs.length
 num:s.2.num≤18446744073709551615
 x1:0≤Cl.nth xs 1∧Cl.nth xs 1≤18446744073709551615
 dn:∀ i,(tab ds i).1≤65536
 nx:1≤s.2.nx
 own:(s.2.nx=3∨s.2.nx=4∨s.2.holds=true)→s.2.lock<s.1.length∧Lo.hol s.1 s.2.lock=s.2.worker
 hol:s.2.holds=true→5≤s.2.nx
section
variable {w w':World} {M:Mo} {H:Ho}
theorem Okl.step {xs:List Int} {ds:List (Nat×Nat)} {s:List Int×Ho} (h:Okl xs ds s) (hr:lready ds s=true) (hd:ldone xs s=false):Okl xs ds (lstep xs ds s):=by
 obtain ⟨hs,H⟩:=s
 obtain ⟨h1,h2,h3,h4,h5,h6,h7,h8,h9,h10⟩:=h
 simp only at h1 h2 h3 h4 h5 h6 h7 h8 h9 h10
 unfold lstep
 unfold ldone at hd
 simp only at hd ⊢
 by_cases e1:H.nx=1
 · rw [if_pos e1]
   exact ⟨h1,h2,h3,h4,by simp only; omega,h6,h7,by simp,by
    rintro (q | q | q)
    · simp at q
    · simp at q
    · have:=h10 q; omega,fun q=>by have:=h10 q; omega⟩
 · by_cases e2:H.nx=2
   · rw [if_neg e1,if_pos e2]
     have hk:=lkn_bd (tab ds H.num) h1.1
     refine ⟨h1,h2,by simpa using h3,h4,h5,h6,h7,by simp,fun _=>⟨by simp; omega,?_⟩,fun q=>by have:=h10 q; omega⟩
     rw [hol_set (by omega),if_pos rfl]
   · by_cases e3:H.nx=3
     · by_cases he:Cl.nth xs 1=H.num
       · simp [e3,he] at hd
       · rw [if_neg e1,if_neg e2,if_pos e3,if_neg he]
         refine ⟨h1,h2,h3,h4,h5,h6,h7,by simp,fun _=>h9 (.inl e3),fun q=>by have:=h10 q; omega⟩
     · by_cases e4:H.nx=4
       · rw [if_neg e1,if_neg e2,if_neg e3,if_pos e4]
         refine ⟨h1,h2,by simpa using h3,h4,h5,h6,h7,by simp,?_,fun q=>by have:=h10 q; omega⟩
         rintro (q | q | q)
         · simp at q
         · simp at q
         · have:=h10 q; omega
       · simp at hd; omega
theorem Okl.okh {s:List Int×Ho} (h:Okl M.xs M.ds s):Okh {M with hs:=s.1} s.2:=⟨h.sum,h.wk,h.hl,h.xl,h.num,h.dn _⟩
def InvT (w0:World) (M:Mo) (s:List Int×Ho) (w:World):Prop:=MemAt w {M with hs:=s.1}∧HoAt w s.2∧s.2.f=H.f∧Only (fun x=>mfoot M x∨x=H.f) w0 w
theorem lstep_f {xs:List Int} {ds:List (Nat×Nat)} (s:List Int×Ho):(lstep xs ds s).2.f=s.2.f:=by
 unfold lstep
 split
 · rfl
 split
 · rfl
 split
 · split<;>rfl
 split<;>rfl
theorem finish_hold (hM:MemAt w M) (hH:HoAt w H) (ok:Okl M.xs M.ds (M.hs,H)) (K:Nat) (hK:K≤1000000):
 Calls Tryz.prog 9 #[ptr M.m,.iface 138 (ptr H.f),.int .i64 K] w fun e w'=>e=.returned (.tuple #[.int .i64 (fin (lready M.ds) (lstep M.xs M.ds) (ldone M.xs) K (M.hs,H)).1,.bool (fin (lready M.ds) (lstep M.xs M.ds) (ldone M.xs) K (M.hs,H)).2.1])∧
  InvT (H:=H) w M (fin (lready M.ds) (lstep M.xs M.ds) (ldone M.xs) K (M.hs,H)).2.2 w':=by
 refine finish_gen 138 75 109 H.f (ptr M.m) (InvT (H:=H) w M) (fun s=>Okl M.xs M.ds s) (lready M.ds) (lstep M.xs M.ds) (ldone M.xs) (mrH _) (msH _) erH esH ?_ ?_ ?_ K hK (M.hs,H) ok w ⟨hM,hH,rfl,Only.refl _ _⟩
 · rintro s w1 ⟨h1,h2,h3,h4⟩ ok
   rw [← h3]
   exact (hold_ready h1 h2 ok.okh).mono fun e w' h=>⟨h.1,h1.below h.2,h2.below h.2,h3,h4.below h.2⟩
 · rintro s w1 ⟨h1,h2,h3,h4⟩ ok hr
   rw [← h3]
   refine (hold_step h1 h2 ok.okh ok.own ok.nx hr).mono fun e w' h=>⟨h.1,?_⟩
   obtain ⟨q1,q2,q3⟩:=h.2
   rw [hstep_eq] at q1 q2
   exact ⟨q1,q2,(lstep_f s).trans h3,h4.trans (h3▸q3)⟩
 · intro s ok hr hd
   exact ok.step hr hd
end
end Go.Proofs.YtkogifmjbmnpgaaGreat.Ta
namespace Go.Proofs.YtkogifmjbmnpgaaGreat.Pu
open Go Go.RowKit Hp K Fl Rw Hm Ar Mm Me Wk Ta Pn Pc
set_option maxRecDepth 100000
structure Sk where
 key:ByteArray
 sum:Int
 ph:Nat
 H:Ho
 cell:Int
 W:Wa
structure Sa where
 f:Nat
 w:Nat
def srv (ph h b:Nat):Value:=if ph=1 then wfm 75 (ptr h) else wfm 112 (ptr b)
def snv (ph f b:Nat):Value:=if ph=1 then wfm 76 (ptr f) else wfm 113 (ptr b)
def skc (a:Sa) (S:Sk):Array Value:=#[.int .u32 S.sum,.string S.key,srv S.ph S.H.f a.w,snv S.ph a.f a.w,ptr S.H.f,.int .i64 S.cell,ptr a.w]
abbrev Sk.wa (S:Sk) (b:Nat):Wa:={S.W with f:=b}
def SkAt (w:World) (a:Sa) (S:Sk):Prop:=Blk w a.f 142 (skc a S)∧HoAt w S.H∧WaAt w (S.wa a.w)
def sfoot (a:Sa) (S:Sk) (x:Nat):Prop:=x=a.f∨x=S.H.f∨x=a.w
abbrev skTypes:List TypeId:=[142,167,188]
abbrev skL:Lay Sa Sk:=⟨Sa.f,SkAt,sfoot⟩
section
variable {w w':World} {M:Mo} {a:Sa} {S:Sk}
theorem SkAt.ty (h:SkAt w a S) {x:Nat} (hx:sfoot a S x):Ty w x skTypes:=by
 obtain ⟨h1,h2,h3⟩:=h
 rcases hx with rfl | rfl | rfl
 · exact (blk_ty h1).mono (by simp)
 · exact (blk_ty h2).mono (by simp)
 · exact (blk_ty h3).mono (by simp)
theorem SkAt.lt (h:SkAt w a S) {x:Nat} (hx:sfoot a S x):x<w.heap.size:=(h.ty hx).lt
theorem SkAt.far (h:SkAt w a S) (hM:MemAt w M) {x:Nat} (hx:sfoot a S x):¬mfoot M x:=fun hm=>(hM.ty hm).apart (h.ty hx) (by decide)
theorem SkAt.only {T:Nat→Prop} (h:SkAt w a S) (ho:Only T w w') (hn:∀ x,sfoot a S x→¬T x):SkAt w' a S:=
 ⟨h.1.only ho (hn _ (.inl rfl)),h.2.1.only ho (hn _ (.inr (.inl rfl))),h.2.2.only ho (hn _ (.inr (.inr rfl)))⟩
theorem SkAt.below (h:SkAt w a S) (hb:Below w.heap.size w w'):SkAt w' a S:=h.only (Only.ofBelow hb (fun _=>False)) (by simp)
theorem SkAt.hd (h:SkAt w a S):w.cell? ⟨a.f,0,none⟩=some (.int .u32 S.sum)∧w.cell? ⟨a.f,1,none⟩=some (.string S.key)∧w.cell? ⟨a.f,2,none⟩=some (srv S.ph S.H.f a.w)∧w.cell? ⟨a.f,3,none⟩=some (snv S.ph a.f a.w)∧
 w.cell? ⟨a.f,4,none⟩=some (ptr S.H.f)∧w.cell? ⟨a.f,5,none⟩=some (.int .i64 S.cell)∧w.cell? ⟨a.f,6,none⟩=some (ptr a.w):=
 ⟨h.1.cell 0,h.1.cell 1,h.1.cell 2,h.1.cell 3,h.1.cell 4,h.1.cell 5,h.1.cell 6⟩
theorem SkAt.apart (h:SkAt w a S):a.f≠S.H.f∧a.f≠a.w∧S.H.f≠a.w:=by
 obtain ⟨h1,h2,h3⟩:=h
 exact ⟨h1.differ h2 (by decide),h1.differ h3 (by decide),Blk.differ h2 h3 (by decide)⟩
theorem SkAt.held {H':Ho} (h:SkAt w a S) (hM:MemAt w M) (hH:HoAt w' H') (hf:H'.f=S.H.f) (ho:Only (fun x=>mfoot M x∨x=S.H.f) w w'):SkAt w' a {S with H:=H'}:=by
 have ha:=h.apart
 refine ⟨?_,hH,h.2.2.only ho ?_⟩
 · have:=h.1.only ho (by
    rintro (q | q)
    · exact h.far hM (.inl rfl) q
    · exact ha.1 q)
   unfold skc at this ⊢
   simp only [hf]
   exact this
 · rintro (q | q)
   · exact h.far hM (.inr (.inr rfl)) q
   · exact ha.2.2 q.symm
theorem SkAt.walked {W':Wa} (h:SkAt w a S) (hM:MemAt w M) (hW:WaAt w' {W' with f:=a.w}) (ho:Only (fun x=>mfoot M x∨x=a.w) w w'):SkAt w' a {S with W:=W'}:=by
 have ha:=h.apart
 refine ⟨h.1.only ho ?_,h.2.1.only ho ?_,hW⟩
 · rintro (q | q)
   · exact h.far hM (.inl rfl) q
   · exact ha.2.1 q
 · rintro (q | q)
   · exact h.far hM (.inr (.inl rfl)) q
   · exact ha.2.2 q
theorem bucketed_any (h:SkAt w a S):Calls Tryz.prog 82 #[ptr a.f] w fun e w'=>e=.returned (.bool (decide (S.cell≠ -1)))∧w=w':=by
 have c:=h.hd.2.2.2.2.2.1
 have ec:(S.cell != -1)=decide (S.cell≠ -1):=by rw [Bool.eq_iff_iff]; simp
 clear h
 generalize decide (S.cell≠ -1)=b at*
 replace ec:=Lib.hid ec
 go_enter Tryz.func82,Tryz.ntmps82
 go_wp2
 go_ret
 exact ⟨by rw [ec.out]; rfl,rfl⟩
theorem found_walk (h:SkAt w a S):Calls Tryz.prog 116 #[ptr a.w] w fun e w'=>e=.returned (.tuple #[.int .u64 S.W.found,ndv S.W.nd,.bool (decide (S.W.found≠0))])∧Below w.heap.size w w':=by
 have q:=found_any h.2.2
 have e1:(S.wa a.w).found=S.W.found:=rfl
 have e2:(S.wa a.w).nd=S.W.nd:=rfl
 have e3:(S.wa a.w).f=a.w:=rfl
 rw [e1,e2,e3] at q
 exact q
theorem found_sk (h:SkAt w a S):Calls Tryz.prog 79 #[ptr a.f] w fun e w'=>e=.returned (.tuple #[.int .u64 S.W.found,ndv S.W.nd,.bool (decide (S.W.found≠0))])∧Below w.heap.size w w':=by
 have c:=h.hd.2.2.2.2.2.2
 have nf:=World.new_ne w ⟨a.f,6,none⟩ c
 obtain ⟨w1,hw1⟩:∃ w1,w1=w.alloc (.cells #[.string ⟨#[]⟩,.string ⟨#[]⟩,.int .u32 0,.int .u64 0] 99):=⟨_,rfl⟩
 have hF1:Blk w1 w.heap.size 99 #[.string ⟨#[]⟩,.string ⟨#[]⟩,.int .u32 0,.int .u64 0]:=by rw [hw1]; exact Blk.made w _ _
 have hb1:Below w.heap.size w w1:=by rw [hw1]; exact (Below.refl _ _).alloc (Nat.le_refl _) _
 have h1:=h.below hb1
 have c1:=h1.hd.2.2.2.2.2.2
 have hR:=found_walk h1
 unfold ndv at hR ⊢
 generalize decide (S.W.found≠0)=b at*
 generalize S.W.found=x at*
 generalize S.W.nd=n at*
 obtain ⟨nk,nv,ns,nn⟩:=n
 simp only at hR ⊢
 obtain ⟨hb0,hh0⟩:∃ hb0,hb0=w.heap.size:=⟨_,rfl⟩
 rw [← hh0] at hF1
 have hge:=Lib.hid (Nat.le_of_eq hh0.symm)
 have hsz:=Lib.hid hb1.size
 replace hR:=Lib.hid hR
 replace hF1:=Lib.hid hF1
 replace hb1:=Lib.hid hb1
 clear h h1
 go_enter Tryz.func79,Tryz.ntmps79
 go_upto_region 1 with (fail)
 rw [← hw1,← hh0]
 clear c nf hw1 hh0
 go_wp2_with fail
 refine hR.out.mono ?_
 rintro e w2 ⟨rfl,hb2⟩
 have hF2:=hF1.out.only (Only.ofBelow hb2 (fun _=>False)) (by simp)
 have f0:=hF2.cell 0
 have f1:=hF2.cell 1
 have f2:=hF2.cell 2
 have f3:=hF2.cell 3
 simp at f0 f1 f2 f3
 have z0:=hF2.frozen 0
 have z1:=hF2.frozen 1
 have z2:=hF2.frozen 2
 have z3:=hF2.frozen 3
 have lb:=hF2.lt
 have hB4:=Lib.hid (((((hb1.out.trans (hb2.mono hsz.out)).setCell (p:=⟨hb0,0,none⟩) hge.out (.string nk)).setCell (p:=⟨hb0,1,none⟩) hge.out (.string nv)).setCell (p:=⟨hb0,2,none⟩) hge.out (.int .u32 ns)).setCell (p:=⟨hb0,3,none⟩) hge.out (.int .u64 nn))
 clear hR c1 hb2
 go_wp2_with fail
 exact bodyPost_ret (v:=.tuple #[.int .u64 x,.agg #[.string nk,.string nv,.int .u32 ns,.int .u64 nn],.bool b]) (by simp [results,Tryz.results79,go_sem,f0,f1,f2,f3]) rfl ⟨rfl,hB4.out⟩
theorem first_sk (h:SkAt w a S):Calls Tryz.prog 146 #[ptr a.f] w fun e w'=>e=.returned (.int .u64 S.W.first)∧w=w':=by
 have c:=h.hd.2.2.2.2.2.2
 have hR:=Lib.hid (first_any h.2.2)
 clear h
 go_enter Tryz.func146,Tryz.ntmps146
 go_wp2_with fail
 refine hR.out.mono ?_
 rintro e w' ⟨rfl,rfl⟩
 go_wp2_with fail
 go_ret
 exact ⟨rfl,rfl⟩
end
set_option maxHeartbeats 1000000 in
theorem walkFrom_any {w:World} {f:Nat} {s:Int} {key:ByteArray} {cs:Array Value} (hB:Blk w f 142 cs) (c0:cs[0]?=some (.int .u32 s)) (c1:cs[1]?=some (.string key)) (hz:cs.size=7) (c:Int):
 Calls Tryz.prog 74 #[ptr f,.int .i64 c] w fun e w'=>e=.returned (.tuple #[])∧∃ b,w.heap.size≤b∧Blk w' f 142 ((cs.setIfInBounds 5 (.int .i64 c)).setIfInBounds 6 (ptr b))∧WaAt w' (new b c s key)∧Only (·=f) w w':=by
 have hN:=Lib.hid (fun n=>Wk.new_any c s key (w.drewN n))
 have d0:=(hB.cell 0).trans c0
 have d2:=(hB.cell 1).trans c1
 have lf:=hB.lt
 have d6:=hB.cell 5
 have d7:=hB.cell 6
 rw [Array.getElem?_eq_getElem (by omega)] at d6 d7
 generalize cs[5]'(by omega)=u6 at*
 generalize cs[6]'(by omega)=u7 at*
 have HB:=Lib.hid hB
 clear hB c0 c1
 go_enter Tryz.func74,Tryz.ntmps74
 go_wp2_with fail
 go_region_held3 (fun w'=>w'.cell? ⟨f,0,none⟩=some (.int .u32 s)∧w'.cell? ⟨f,1,none⟩=some (.string key)) ((go_split_ands; (refine ⟨?_,?_⟩<;>simp [World.cell?_setCell_other, *])))
  (first
    | (go_at_call 108
       refine (hN.out 1).mono ?_
       rintro e w2 ⟨rfl,h2,hb2⟩
       have hbx:Below w.heap.size w w2:=(show Below w.heap.size w (w.drewN 1) from ⟨rfl,rfl,rfl,Nat.le_refl _,fun _ _=>rfl⟩).trans hb2
       have e0:=(hbx.cell (p:=⟨f,0,none⟩) lf).trans d0
       have e2:=(hbx.cell (p:=⟨f,1,none⟩) lf).trans d2
       have e6:=(hbx.cell (p:=⟨f,5,none⟩) lf).trans d6
       have e7:=(hbx.cell (p:=⟨f,6,none⟩) lf).trans d7
       have hB2:=HB.out.only (Only.ofBelow hbx (fun _=>False)) (by simp)
       have y6:=hB2.frozen 5
       have y7:=hB2.frozen 6
       have hS2:=Lib.hid ((hB2.store 5 (.int .i64 c)).store 6 (ptr w.heap.size))
       have hd:=hB2.differ h2 (by decide)
       have hO2:=(((Only.ofBelow hbx (·=f)).setCell (p:=⟨f,5,none⟩) (.inl rfl) (.int .i64 c)).setCell (p:=⟨f,6,none⟩) (.inl rfl) (ptr w.heap.size))
       have hW2:Hid (WaAt ((w2.setCell ⟨f,5,none⟩ (.int .i64 c)).setCell ⟨f,6,none⟩ (ptr w.heap.size)) (new w.heap.size c s key)):=Lib.hid (Blk.far (Blk.far h2 (p:=⟨f,5,none⟩) (fun e=>hd e.symm) _) (p:=⟨f,6,none⟩) (fun e=>hd e.symm) _)
       replace hO2:=Lib.hid hO2
       clear h2 hb2 hB2 hbx hd))
 all_goals
  go_wp2_with fail
  go_end0
  exact ⟨rfl,_,Nat.le_refl _,hS2.out,hW2.out,hO2.out⟩
end Go.Proofs.YtkogifmjbmnpgaaGreat.Pu
namespace Go.Proofs.YtkogifmjbmnpgaaGreat.Pu
open Go Go.RowKit Hp K Fl Rw Hm Ar Mm Me Wk Ta Pn Pc
set_option maxRecDepth 100000
def pcell (s:Int) (H:Ho):Int:=Gt.cellOf s (if H.holds=true then H.d else (0,0))
def sstep (L:Lm) (S:Sk):Lm×Sk:=
 if S.ph=1 then ({L with hs:=(lstep L.xs L.ds (L.hs,S.H)).1},if ldone L.xs (L.hs,S.H)=true then {S with H:=(lstep L.xs L.ds (L.hs,S.H)).2,cell:=pcell S.sum (lstep L.xs L.ds (L.hs,S.H)).2,W:=new 0 (pcell S.sum (lstep L.xs L.ds (L.hs,S.H)).2) S.sum S.key,ph:=2} else {S with H:=(lstep L.xs L.ds (L.hs,S.H)).2})
 else ({L with F:=(Wk.gstep L.xs L.ss (L.F,S.W)).1},{S with W:=(Wk.gstep L.xs L.ss (L.F,S.W)).2})
def sready (L:Lm) (S:Sk):Bool:=if S.ph=1 then lready L.ds (L.hs,S.H) else true
def sdone (L:Lm) (S:Sk):Bool:=if S.ph=1 then false else Wk.gdone L.xs L.ss (L.F,S.W)
structure Oks (r:Nat) (L:Lm) (S:Sk):Prop where
 sum:0≤S.sum∧S.sum<4294967296
 hd:S.ph=1→Okl L.xs L.ds (L.hs,S.H)
 desc:S.ph=1→S.H.d.1≤65536∧S.H.d.2≤4000000
 wa:S.ph≠1→Okw (r+1) S.W
 nexts:Nexts L.ss
 tb:∀ i,(tab L.ds i).1≤65536∧(tab L.ds i).2≤4000000
abbrev SStp (w:World) (M:Mo) (a:Sa) (S:Sk) (L':Lm) (S':Sk) (w':World):Prop:=skL.Stp w M a S L' S' w'
def newSk (h:Nat) (k s:Int) (key:ByteArray):Sk:=⟨key,s,1,⟨h,k,s,1,0,(0,0),0,false⟩, -1,new 0 (-1) s key⟩
section
variable {w w':World} {M:Mo} {a:Sa} {S:Sk}
set_option maxHeartbeats 1000000 in
theorem cellIn_any {f:Nat} {s:Int} (lf:f<w.heap.size) (c2:w.cell? ⟨f,0,none⟩=some (.int .u32 s)) (d:Nat×Nat) (hd:d.1≤65536∧d.2≤4000000) (hs:0≤s∧s<4294967296):
 Calls Tryz.prog 110 #[ptr f,dv d] w fun e w'=>e=.returned (.int .i64 (Gt.cellOf s d))∧Below w.heap.size w w':=by
 have hb:=bucket_bd s d.1 hs.1
 unfold Gt.cellOf dv
 by_cases h0:d.1=0
 · rw [if_pos h0,h0]
   clear c2 hb h0
   go_enter Tryz.func110,Tryz.ntmps110
   go_wp2_with fail
   go_ret
   exact ⟨rfl,(Below.refl _ _).alloc (Nat.le_refl _) _⟩
 · rw [if_neg h0]
   have hB:=Lib.hid (fun w'=>Fnv.bucket_any s d.1 w' hs.1 hs.2 (by omega) (by omega))
   have e0:((d.1:Int)==0)=false:=by simp; omega
   generalize FM.bucket s d.1=b at*
   generalize d.1=d1 at*
   generalize d.2=d2 at*
   have e1:IntKind.i64.wrap ((d2:Int)+b)=d2+b:=IntWalk.i64_in _ (by omega)
   have nf:=World.new_ne w ⟨f,0,none⟩ c2
   clear h0
   go_enter Tryz.func110,Tryz.ntmps110
   go_wp2_with fail
   go_quiet ((go_at_call 142; exact Calls.quiet_of_same ((hB.out _).mono fun _ _ h=>⟨h.1,h.2⟩)))
   go_wp2_with fail
   go_ret
   exact ⟨rfl,((Below.refl _ _).alloc (Nat.le_refl _) _).trans ⟨rfl,rfl,rfl,by simp,fun _ _=>rfl⟩⟩
theorem hold_lists (hM:MemAt w M) (h:SkAt w a S) (hl:Okl M.xs M.ds (M.hs,S.H)) (hr:lready M.ds (M.hs,S.H)=true):
 Calls Tryz.prog 109 #[ptr S.H.f,ptr M.m] w fun e w'=>e=.returned (.bool (ldone M.xs (M.hs,S.H)))∧MemAt w' {M with hs:=(lstep M.xs M.ds (M.hs,S.H)).1}∧SkAt w' a {S with H:=(lstep M.xs M.ds (M.hs,S.H)).2}∧Only (fun x=>mfoot M x∨sfoot a S x) w w':=by
 have q:=hold_step hM h.2.1 hl.okh hl.own hl.nx hr
 rw [hstep_eq,hdone_eq] at q
 exact q.mono fun e w' q=>⟨q.1,q.2.1,h.held hM q.2.2.1 (lstep_f _) q.2.2.2,q.2.2.2.mono fun x _ y=>y.imp id fun e=>.inr (.inl e)⟩
theorem sfoot_to {S':Sk} {a':Sa} (ef:a'.f=a.f) (eH:S'.H.f=S.H.f) {n:Nat} (ew:a'.w=a.w∨n≤a'.w) (x:Nat) (q:sfoot a' S' x):sfoot a S x∨n≤x:=by
 rcases q with q | q | q
 · exact .inl (.inl (q.trans ef))
 · exact .inl (.inr (.inl (q.trans eH)))
 · rcases ew with ew | ew
   · exact .inl (.inr (.inr (q.trans ew)))
   · exact .inr (by omega)
set_option maxHeartbeats 1000000 in
theorem holdBucket_any (hM:MemAt w M) (h:SkAt w a S) (hl:Okl M.xs M.ds (M.hs,S.H)) (hd:(lstep M.xs M.ds (M.hs,S.H)).2.d.1≤65536∧(lstep M.xs M.ds (M.hs,S.H)).2.d.2≤4000000) (hs:0≤S.sum∧S.sum<4294967296) (hr:lready M.ds (M.hs,S.H)=true) (h1:S.ph=1):
 Calls Tryz.prog 76 #[ptr a.f,ptr M.m] w fun e w'=>e=.returned (.bool false)∧SStp w M a S (sstep (lm M) S).1 (sstep (lm M) S).2 w':=by
 have hS:=hold_lists hM h hl hr
 have hf:=lstep_f (xs:=M.xs) (ds:=M.ds) (M.hs,S.H)
 have c5:=h.hd.2.2.2.2.1
 unfold sstep
 rw [if_pos h1]
 simp only
 cases hdn:ldone M.xs (M.hs,S.H) with
 | false=>
   rw [hdn] at hS
   rw [if_neg (by simp)]
   generalize lstep M.xs M.ds (M.hs,S.H)=z at*
   obtain ⟨hs',H'⟩:=z
   simp only at hS hf ⊢
   replace hS:=Lib.hid hS
   replace hf:=Lib.hid hf
   clear hdn h hM hl hr h1 hs hd
   go_enter Tryz.func76,Tryz.ntmps76
   go_wp2_with fail
   refine hS.out.mono ?_
   rintro e w1 ⟨rfl,hM1,hP1,hO1⟩
   replace hM1:=Lib.hid hM1
   replace hP1:=Lib.hid hP1
   replace hO1:=Lib.hid hO1
   clear hS c5
   go_wp2_with fail
   go_ret
   exact ⟨rfl,_,a,hM1.out,rfl,⟨rfl,rfl,rfl,rfl,fun _ q=>.inl q⟩,hP1.out,rfl,sfoot_to rfl hf.out (.inl rfl),hO1.out⟩
 | true=>
   rw [hdn] at hS
   rw [if_pos rfl]
   generalize lstep M.xs M.ds (M.hs,S.H)=z at*
   obtain ⟨hs',H'⟩:=z
   simp only at hS hf hd ⊢
   have hdd:(if H'.holds=true then H'.d else (0,0)).1≤65536∧(if H'.holds=true then H'.d else (0,0)).2≤4000000:=by
    split
    · exact hd
    · simp
   obtain ⟨d,hde⟩:∃ d,d=if H'.holds=true then H'.d else (0,0):=⟨_,rfl⟩
   rw [← hde] at hdd
   have hc:pcell S.sum H'=Gt.cellOf S.sum d:=by unfold pcell; rw [hde]
   rw [hc]
   obtain ⟨c,hce⟩:∃ c,c=Gt.cellOf S.sum d:=⟨_,rfl⟩
   rw [← hce]
   replace hS:=Lib.hid hS
   replace hf:=Lib.hid hf
   replace hce:=Lib.hid hce
   replace hde:=Lib.hid hde
   clear hdn h hM hl hr hd hc
   replace h1:=Lib.hid h1
   go_enter Tryz.func76,Tryz.ntmps76
   go_wp2_with fail
   refine hS.out.mono ?_
   rintro e w1 ⟨rfl,hM1,hP1,hO1⟩
   have k5:=hP1.hd.2.2.2.2.1
   simp only at k5
   have hD:=desc_of hP1.2.1
   simp only at hD
   rw [← hde.out] at hD
   unfold dv at hD
   replace hD:=Lib.hid hD
   replace hM1:=Lib.hid hM1
   replace hP1:=Lib.hid hP1
   replace hO1:=Lib.hid hO1
   clear hS c5
   go_wp2_with fail
   refine hD.out.mono ?_
   rintro e w2 ⟨rfl,hB2⟩
   have hP2:=hP1.out.below hB2
   have hM2:=hM1.out.below hB2
   have hC:=cellIn_any hP2.1.lt hP2.hd.1 d hdd hs
   rw [← hce.out] at hC
   unfold dv at hC
   have hO2:=hO1.out.below hB2
   replace hC:=Lib.hid hC
   replace hM2:=Lib.hid hM2
   replace hP2:=Lib.hid hP2
   replace hO2:=Lib.hid hO2
   clear hD hM1 hP1 hO1 hB2 k5
   go_wp2_with fail
   refine hC.out.mono ?_
   rintro e w3 ⟨rfl,hB3⟩
   have hP3:=hP2.out.below hB3
   have hM3:=hM2.out.below hB3
   have hO3:=hO2.out.below hB3
   have hW:=Lib.hid (walkFrom_any hP3.1 rfl rfl rfl c)
   replace hM3:=Lib.hid hM3
   replace hP3:=Lib.hid hP3
   replace hO3:=Lib.hid hO3
   clear hC hM2 hP2 hO2 hB3
   go_wp2_with fail
   refine hW.out.mono ?_
   rintro e w4 ⟨rfl,b,hb,hF4,hW4,hO4⟩
   have k3:=hF4.cell 2
   have k4:=hF4.cell 3
   have k6:=hF4.cell 6
   simp [skc] at k3 k4 k6
   have z3:=hF4.frozen 2
   have z4:=hF4.frozen 3
   have hS4:=(hF4.store 2 (wfm 112 (ptr b))).store 3 (wfm 113 (ptr b))
   have ap3:=hP3.out.apart
   have hO5:=(((Only.refl (·=a.f) w4).setCell (p:=⟨a.f,2,none⟩) (.inl rfl) (wfm 112 (ptr b))).setCell (p:=⟨a.f,3,none⟩) (.inl rfl) (wfm 113 (ptr b)))
   have hO45:=hO4.trans hO5
   have hd4:=hF4.differ hW4 (by decide)
   have far3:=hP3.out.far hM3.out (.inl rfl)
   have hE:SkAt ((w4.setCell ⟨a.f,2,none⟩ (wfm 112 (ptr b))).setCell ⟨a.f,3,none⟩ (wfm 113 (ptr b))) {a with w:=b} {S with H:=H',cell:=c,W:=new 0 c S.sum S.key,ph:=2}:=
    ⟨by simpa [skc,srv,snv] using hS4,hP3.out.2.1.only hO45 (fun e=>ap3.1 e.symm),hW4.only hO5 (fun e=>hd4 e.symm)⟩
   have hM5:=hM3.out.only hO45 (fun x hx q=>far3 (q▸hx))
   have hsz:=hO3.out.size
   have hO05:Only (fun x=>mfoot M x∨sfoot a S x) w _:=hO3.out.trans' hO45 (fun x _ q=>.inr (.inl q))
   have hbw:=Nat.le_trans hsz hb
   replace hE:=Lib.hid hE
   replace hM5:=Lib.hid hM5
   replace hO05:=Lib.hid hO05
   replace hbw:=Lib.hid hbw
   clear hW hM3 hP3 hO3 hF4 hW4 hO4 hS4 hO5 hO45 hd4 far3 ap3 hb hsz
   go_wp2_with fail
   go_region
   all_goals
    go_wp2_with fail
    go_ret
    have hdr:∀ w:World,Below w.heap.size w w.drew:=fun w=>⟨rfl,rfl,rfl,Nat.le_refl _,fun _ _=>rfl⟩
    exact ⟨rfl,_,_,hM5.out.below (hdr _),rfl,⟨rfl,rfl,rfl,rfl,fun _ q=>.inl q⟩,hE.out.below (hdr _),rfl,sfoot_to (a:=a) (a':={a with w:=b}) (S:=S) rfl hf.out (.inr hbw.out),hO05.out.below (hdr _)⟩
end
end Go.Proofs.YtkogifmjbmnpgaaGreat.Pu
