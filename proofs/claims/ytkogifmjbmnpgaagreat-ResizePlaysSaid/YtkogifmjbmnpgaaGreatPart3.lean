/- Walks and plain mathematics, put together in their order: PutG, GetD, SeekH, PutH, RetMath, MapB, MapC, ElB. -/
import Derived.Test.YtkogifmjbmnpgaaGreatPart2
import Derived.Test.YtkogifmjbmnpgaaGreatGetC
import Derived.Test.YtkogifmjbmnpgaaGreatPairs
import Derived.Test.YtkogifmjbmnpgaaGreatFinishN
import Derived.Test.YtkogifmjbmnpgaaGreatQsbrE
import Derived.Laws.CopyOwn
import Derived.Deep.RegionHeld3
import Derived.Test.YtkogifmjbmnpgaaGreatFinish
import Derived.Test.YtkogifmjbmnpgaaGreatMemWalk
import Derived.Deep.DeepCutAuto
import Derived.Deep.CutBlock
set_option linter.unusedVariables false
set_option linter.unusedSimpArgs false
namespace Go.Proofs.YtkogifmjbmnpgaaGreat.Pu
open Go Go.RowKit Hp K Fl Rw Hm Ar Mm Me Wk Ta Pn Pc
set_option maxRecDepth 100000
theorem pstep_fm {w:World} {F f:Nat} {cv m:Value} {c:Bool} {P:World→Prop} (c4:w.cell? ⟨f,4,none⟩=some (wfm F cv)) (eF:∀ args w,(callFunc F args).run Tryz.prog w=.ok (.enter F args) w)
 (hF:Calls Tryz.prog F #[cv,m] w fun e w'=>e=.returned (.bool c)∧P w'):Calls Tryz.prog 241 #[ptr f,m] w fun e w'=>e=.returned (.bool c)∧P w':=by
 replace hF:=Lib.hid hF
 go_enter Tryz.func241,Tryz.ntmps241
 go_wp2_with fail
 refine hF.out.mono ?_
 rintro e w' ⟨rfl,hPw⟩
 replace hPw:=Lib.hid hPw
 clear c4
 go_wp2_with fail
 go_ret
 exact ⟨rfl,hPw.out⟩
theorem enters_p2 (args:Array Value) (w:World):(callFunc 39 args).run Tryz.prog w=.ok (.enter 39 args) w:=by kernel_rfl
theorem enters_p3 (args:Array Value) (w:World):(callFunc 81 args).run Tryz.prog w=.ok (.enter 81 args) w:=by kernel_rfl
theorem enters_p4 (args:Array Value) (w:World):(callFunc 120 args).run Tryz.prog w=.ok (.enter 120 args) w:=by kernel_rfl
theorem enters_p5 (args:Array Value) (w:World):(callFunc 147 args).run Tryz.prog w=.ok (.enter 147 args) w:=by kernel_rfl
theorem enters_p6 (args:Array Value) (w:World):(callFunc 83 args).run Tryz.prog w=.ok (.enter 83 args) w:=by kernel_rfl
section
variable {w w':World} {M:Mo} {a:Qa} {P:Pt}
theorem put_ready (hM:MemAt w M) (h:PuAt w a P) (hl:P.ph=1→Okl M.xs M.ds (M.hs,P.H)):Calls Tryz.prog 240 #[ptr a.f,ptr M.m] w fun e w'=>e=.returned (.bool (pready (lm M) P))∧Below w.heap.size w w':=by
 have c3:=h.hd.2.2.2.1
 have hR:=sk_ready hM h.2 hl
 unfold pready
 generalize sready (lm M) P.toSk=b at*
 replace hR:=Lib.hid hR
 clear hM h hl
 go_enter Tryz.func240,Tryz.ntmps240
 go_wp2_with fail
 refine hR.out.mono ?_
 rintro e w' ⟨rfl,hb⟩
 replace hb:=Lib.hid hb
 clear c3
 go_wp2_with fail
 go_ret
 exact ⟨rfl,hb.out⟩
theorem put_step (hM:MemAt w M) (h:PuAt w a P) (ok:Okp (lm M) P) (hr:pready (lm M) P=true):
 Calls Tryz.prog 241 #[ptr a.f,ptr M.m] w fun e w'=>e=.returned (.bool (pdone (lm M) P))∧Stp w M a P (pstep (lm M) P).1 (pstep (lm M) P).2 w':=by
 have c4:=h.hd.2.2.2.2.1
 unfold pnv at c4
 have hnx:=ok.nx
 unfold pdone
 by_cases e2:P.nx=2
 · rw [if_pos e2] at c4
   rw [show decide (6≤P.nx)=false by simp; omega]
   obtain ⟨r,o⟩:=ok.sk e2
   exact pstep_fm c4 enters_p2 (goTo_any hM h o hr e2)
 rw [if_neg e2] at c4
 by_cases e3:P.nx=3
 · rw [if_pos e3] at c4
   rw [show decide (6≤P.nx)=false by simp; omega]
   cases hf:freePl M.ss with
   | some m=>exact pstep_fm c4 enters_p3 (take_ok hM h (freePl_some.1 hf) (ok.gen e3 m) e3)
   | none=>exact pstep_fm c4 enters_p3 (take_full hM h (freePl_none.1 hf) e3)
 rw [if_neg e3] at c4
 by_cases e4:P.nx=4
 · rw [if_pos e4] at c4
   rw [show decide (6≤P.nx)=false by simp; omega]
   exact pstep_fm c4 enters_p4 (putIn_step hM h (ok.lead e4) e4)
 rw [if_neg e4] at c4
 by_cases e5:P.nx=5
 · rw [if_pos e5] at c4
   rw [show decide (6≤P.nx)=false by simp; omega]
   exact pstep_fm c4 enters_p5 (retire_step hM h (ok.ret e5) e5)
 rw [if_neg e5] at c4
 have e6:P.nx=6:=by omega
 rw [if_pos e6] at c4
 rw [show decide (6≤P.nx)=true by simp; omega]
 exact pstep_fm c4 enters_p6 (drop_step hM h (ok.drop e6).1 (ok.drop e6).2 e6)
end
theorem put_frm:Frm puL 46 240 241 Okp pready pstep pdone where
 below h hb:=h.below hb
 mr b w f:=by kernel_rfl
 ms b w f:=by kernel_rfl
 er args w:=by kernel_rfl
 es args w:=by kernel_rfl
 ready {w M a p} hM h ok:=put_ready hM h (fun q=>by
  by_cases e2:p.nx=2
  · obtain ⟨r,o⟩:=ok.sk e2
    exact o.hd q
  · exact absurd q (ok.ph e2))
 step hM h ok hr:=put_step hM h ok hr
end Go.Proofs.YtkogifmjbmnpgaaGreat.Pu
namespace Go.Proofs.YtkogifmjbmnpgaaGreat.Gt
open Go Go.RowKit Hp K Fl Rw Hm Ar Mm Me Qs Wk Pc
set_option maxRecDepth 100000
theorem cellOf_bd {s:Int} (hs:0≤s) (d:Nat×Nat) (hd:d.1≤65536∧d.2≤4000000): -1≤cellOf s d∧cellOf s d≤5000000:=by
 have hb:=bucket_bd s d.1 hs
 unfold cellOf
 split<;>omega
theorem Okg.step {r:Nat} {ds:List (Nat×Nat)} {ss:List Sl} {s:Gs} (hx:∀ x∈s.1,0≤x∧x≤18446744073709551615) (h:Okg (r+1) ds ss s.1 s.2.2) (hg:s.2.2.gat=0) (hd:ggdn s.2.2=false):
 Okg r ds ss (ggst ds ss s).1 (ggst ds ss s).2.2∧(ggst ds ss s).2.2.gat=0∧∀ x∈(ggst ds ss s).1,0≤x∧x≤18446744073709551615:=by
 obtain ⟨xs,F,G⟩:=s
 simp only at hx h hg hd
 obtain ⟨h1,h2,h3,h4,h5,h6,h7,h8,h9,h10⟩:=h
 unfold ggst
 simp only
 split
 · rename_i e
   have ha:=h2 e
   have p0:=Cl.getD_bd hx 0
   unfold cstep
   split
   · rename_i e0
     refine ⟨⟨by simp only; split<;>omega,fun _=>by simp,h3,p0,h5,h6,h7,by omega,fun e3=>by simp only [e0] at e3; simp at e3,fun e3=>hg⟩,hg,hx⟩
   · refine ⟨⟨by simp only; split<;>omega,fun e3=>?_,by simpa using h3,h4,h5,h6,h7,by omega,fun e3=>?_,fun e3=>hg⟩,hg,?_⟩
     · simp only at e3; split at e3<;>omega
     · simp only at e3; split at e3<;>omega
     · intro x hxm
       rcases List.mem_or_eq_of_mem_set hxm with q | rfl
       · exact hx x q
       · exact h4
 split
 · have hc:=cellOf_bd h5.1 (now xs ds) (h6 _)
   exact ⟨⟨by simp,fun e=>by simp at e,h3,h4,h5,h6,h7,by omega,fun _=>⟨by simp [new]; omega,by simp [new],by simp [new]; omega,by simp [new]⟩,fun e=>by simp at e⟩,hg,hx⟩
 split
 · rename_i e
   refine ⟨⟨by simp only; split<;>omega,fun e=>?_,h3,h4,h5,h6,h7,by omega,fun e3=>(h9 e).step hx h7,fun _=>hg⟩,hg,hx⟩
   simp only at e; split at e<;>omega
 · unfold ggdn at hd
   simp at hd
   omega
theorem mrGt (a:Addr) (w:World) (f:Nat):(method (f+1) 62 (.pointer (some a)) "Ready").run Tryz.prog w=.ok (90,.pointer (some a)) w:=by kernel_rfl
theorem msGt (a:Addr) (w:World) (f:Nat):(method (f+1) 62 (.pointer (some a)) "Step").run Tryz.prog w=.ok (91,.pointer (some a)) w:=by kernel_rfl
theorem erGt (args:Array Value) (w:World):(callFunc 90 args).run Tryz.prog w=.ok (.enter 90 args) w:=by kernel_rfl
theorem esGt (args:Array Value) (w:World):(callFunc 91 args).run Tryz.prog w=.ok (.enter 91 args) w:=by kernel_rfl
abbrev gfin (ds:List (Nat×Nat)) (ss:List Sl) (K:Nat) (s:Gs):=fin (fun _=>true) (ggst ds ss) (fun s=>ggdn s.2.2) K s
def InvG (M:Mo) (a:Ga) (B:Nat) (w0:World) (s:Gs) (w:World):Prop:=
 ∃ a':Ga,a'.f=a.f∧(∀ x,gfoot a' x→gfoot a x∨B≤x)∧MemAt w {M with xs:=s.1,F:=s.2.1}∧GeAt w a' s.2.2∧Only (fun x=>mfoot M x∨gfoot a x) w0 w
section
variable {w:World} {M:Mo} {a:Ga} {G:Ge}
theorem Moved.far {w0 w1:World} {a a' a1:Ga} {B:Nat} (h:Moved w1 a1 a') (h1:∀ x,gfoot a1 x→gfoot a x∨B≤x) (hB:B≤w1.heap.size):∀ x,gfoot a' x→gfoot a x∨B≤x:=by
 obtain ⟨e1,e2,e3,e4⟩:=h
 rintro x (q | q | q | q)
 · exact h1 x (.inl (q.trans e1))
 · exact h1 x (.inr (.inl (q.trans e2)))
 · exact h1 x (.inr (.inr (.inl (q.trans e3))))
 · rcases e4 with e | e
   · exact h1 x (.inr (.inr (.inr (q.trans e))))
   · exact .inr (by omega)
theorem invG_step {w0 w1:World} {s:Gs} {r:Nat} (h:InvG M a w0.heap.size w0 s w1) (ok:Okg (r+1) M.ds M.ss s.1 s.2.2):
 Calls Tryz.prog 91 #[ptr a.f,ptr M.m] w1 fun e w'=>e=.returned (.bool (ggdn s.2.2))∧InvG M a w0.heap.size w0 (ggst M.ds M.ss s) w':=by
 obtain ⟨a',e,hf,hM,hG,hO⟩:=h
 have hs:=get_step (M:={M with xs:=s.1,F:=s.2.1}) hM hG ok
 rw [e] at hs
 refine hs.mono fun e1 w' q=>⟨q.1,?_⟩
 obtain ⟨a2,m2,hM2,hG2,hO2⟩:=q.2
 refine ⟨a2,m2.1.trans e,m2.far (w0:=w0) hf hO.size,hM2,hG2,hO.trans' hO2 ?_⟩
 rintro x hx (q | q)
 · exact .inl q
 · rcases hf x q with q | q
   · exact .inr q
   · omega
theorem finish_get (hM:MemAt w M) (hG:GeAt w a G) (K:Nat) (hK:K≤1000000) (ok:Okg K M.ds M.ss M.xs G) (hg:G.gat=0):
 Calls Tryz.prog 9 #[ptr M.m,.iface 62 (ptr a.f),.int .i64 K] w fun e w'=>e=.returned (.tuple #[.int .i64 (gfin M.ds M.ss K (M.xs,M.F,G)).1,.bool (gfin M.ds M.ss K (M.xs,M.F,G)).2.1])∧
  InvG M a w.heap.size w (gfin M.ds M.ss K (M.xs,M.F,G)).2.2 w':=by
 refine finish_n 62 90 91 a.f (ptr M.m) (InvG M a w.heap.size w) (fun k s=>Okg k M.ds M.ss s.1 s.2.2∧s.2.2.gat=0∧∀ x∈s.1,0≤x∧x≤18446744073709551615) (fun _=>true) (ggst M.ds M.ss) (fun s=>ggdn s.2.2)
  (mrGt _) (msGt _) erGt esGt ?_ ?_ ?_ K hK (M.xs,M.F,G) ⟨ok,hg,hM.2.1.2.2.1⟩ w ⟨a,rfl,fun x h=>.inl h,hM,hG,Only.refl _ _⟩
 · rintro k s w1 h ok
   exact (ready_any _ _ w1).mono fun e w' q=>⟨q.1,by rw [← q.2]; exact h⟩
 · rintro k s w1 h ok _
   exact invG_step h ok.1
 · rintro k s ok _ hd
   exact ok.1.step ok.2.2 ok.2.1 hd
end
/-! ### along a chain of pairs-/
structure Ev where
 ds:List (Nat×Nat)
 ss:List Sl
 xs:List Int
 F:Bool
 key:ByteArray
 k:Nat
 q:List Pr
 L:Nat
abbrev Ev.cell (E:Ev):Int:=cellOf (sm E.key) (now E.xs E.ds)
structure Ev.Ok (E:Ev):Prop where
 len:E.ss.length≤1024
 nexts:Nexts E.ss
 tb:∀ i,(tab E.ds i).1≤65536∧(tab E.ds i).2≤4000000
 wk:2+E.k<E.xs.length∧E.k≤1000
 xb:∀ x∈E.xs,0≤x∧x≤18446744073709551615
 out:Cl.nth E.xs (2+E.k)=0
 far:E.cell≠((2+E.k:Nat):Int)
 ch:Cn E.ss (word E.xs E.cell) E.q
 qL:E.q.length≤E.L
 L:E.L≤2000
def Fits (o:Option ByteArray) (W:Wa):Prop:=W.nd.val=o.getD ⟨#[]⟩∧decide (W.found≠0)=o.isSome
inductive Gph (E:Ev) (G:Ge):Nat→Bool→Prop
 | come:G.nx=1→G.C.at_=0→Gph E G 0 false
 | put:G.nx=1→G.C.at_=1→G.C.period=Cl.nth E.xs 0→Gph E G 1 false
 | load:G.nx=2→Gph E G 2 false
 | first:G.nx=3→G.W=new 0 E.cell (sm E.key) E.key→Gph E G 3 false
 | look (q:List Pr):G.nx=3→G.W.nx=2→G.W.key=E.key→G.W.sum=sm E.key→G.W.found=0→G.W.nd.val=⟨#[]⟩→q≠[]→Cn E.ss G.W.at_ q→lk q E.key=lk E.q E.key→G.W.read+q.length≤E.L→ -9223372036854775808≤G.W.cell∧G.W.cell≤9223372036854775807→G.W.at_≤18446744073709551615→Gph E G (4+G.W.read) false
 | leave:G.nx=4→G.W.read≤E.L→Fits (lk E.q E.key) G.W→Gph E G (4+G.W.read) false
 | over:G.W.read≤E.L→Fits (lk E.q E.key) G.W→Gph E G (5+G.W.read) true
structure Gv (E:Ev) (n:Nat) (d:Bool) (s:Gs):Prop where
 F:s.2.1=E.F
 key:s.2.2.key=E.key
 sum:s.2.2.sum=sm E.key
 wk:s.2.2.C.worker=E.k
 gat:d=false→s.2.2.gat=0
 pd:0≤s.2.2.C.period∧s.2.2.C.period≤18446744073709551615
 xs:s.1=if 2≤n∧d=false then E.xs.set (2+E.k) (Cl.nth E.xs 0) else E.xs
 ph:Gph E s.2.2 n d
section
variable {E:Ev} {n:Nat} {s:Gs}
theorem Gv.begin (hE:E.Ok):Gv E 0 false (E.xs,E.F,newGet E.k E.key):=
 ⟨rfl,rfl,rfl,rfl,fun _=>rfl,⟨by simp [newGet],by simp [newGet]⟩,by simp,.come rfl rfl⟩
theorem Gv.le (h:Gv E n false s):n≤4+E.L:=by
 have:=h.ph
 cases this<;>omega
theorem Gv.over (h:Gv E n true s):n=5+s.2.2.W.read∧Fits (lk E.q E.key) s.2.2.W∧s.2.1=E.F∧s.1=E.xs∧s.2.2.W.read≤E.L:=by
 have h1:=h.ph
 have h2:=h.xs
 simp at h2
 generalize hb:true=d at h1
 generalize hm:n=m at h1
 cases h1<;>first | (simp at hb; done) | exact ⟨rfl,by assumption,h.F,h2,by assumption⟩
theorem Ev.Ok.back (hE:E.Ok):(E.xs.set (2+E.k) (Cl.nth E.xs 0)).set (2+E.k) 0=E.xs:=by
 rw [List.set_set]
 apply List.ext_getElem
 · simp
 · intro i h1 h2
   rw [List.getElem_set]
   split
   · rename_i e
     subst e
     have:=hE.out
     unfold Cl.nth at this
     rw [List.getD_eq_getElem?_getD,List.getElem?_eq_getElem h2] at this
     exact this.symm
   · rfl
theorem Ev.Ok.now_in (hE:E.Ok):now (E.xs.set (2+E.k) (Cl.nth E.xs 0)) E.ds=now E.xs E.ds:=by
 unfold now
 rw [nth_set _ _ _ hE.wk.1,if_neg (by omega)]
theorem Ev.Ok.word_in (hE:E.Ok):word (E.xs.set (2+E.k) (Cl.nth E.xs 0)) E.cell=word E.xs E.cell:=by
 have hf:=hE.far
 unfold word
 rw [List.length_set,nth_set _ _ _ hE.wk.1]
 split
 · rename_i h
   rw [if_neg (by omega)]
 · rfl
theorem Gv.ok (hE:E.Ok) (h:Gv E n false s) (r:Nat) (hr:r≤4000000000000000000):Okg r E.ds E.ss s.1 s.2.2:=by
 have hsm:=sm_bd E.key
 have hxl:s.1.length=E.xs.length:=by rw [h.xs]; split<;>simp
 have hw:=hE.wk
 have hL:=hE.L
 have hph:=h.ph
 have hcb: -1≤E.cell∧E.cell≤5000000:=cellOf_bd hsm.1 (now E.xs E.ds) (hE.tb _)
 generalize hn:n=m at hph
 generalize hb:false=d at hph
 have hs:=h.sum
 have hwk:=h.wk
 have hg:=h.gat rfl
 have mk:∀ (a1:1≤s.2.2.nx∧s.2.2.nx≤4) (a2:s.2.2.nx=1→s.2.2.C.at_≤1) (a3:s.2.2.nx=3→Okw r s.2.2.W),Okg r E.ds E.ss s.1 s.2.2:=fun a1 a2 a3=>
  ⟨a1,a2,by rw [hxl,hwk]; exact hw,h.pd,by rw [hs]; exact hsm,hE.tb,hE.nexts,by omega,a3,fun _=>hg⟩
 cases hph with
 | come a b=>exact mk (by omega) (by omega) (by omega)
 | put a b c=>exact mk (by omega) (by omega) (by omega)
 | load a=>exact mk (by omega) (by omega) (by omega)
 | first a b=>exact mk (by omega) (by omega) (fun _=>by rw [b]; exact ⟨by simp only [new]; omega,by simp [new],by simp only [new]; omega,by simp [new]⟩)
 | look q a1 a2 a3 a4 a5 a6 a7 a8 a9 a10 a11 a12=>exact mk (by omega) (by omega) (fun _=>⟨a11,a12,by omega,by omega⟩)
 | leave a b c=>exact mk (by omega) (by omega) (by omega)
 | over a b=>cases hb
theorem Gv.step (hE:E.Ok) (h:Gv E n false s):Gv E (n+1) (ggdn s.2.2) (ggst E.ds E.ss s):=by
 obtain ⟨xs,F,G⟩:=s
 obtain ⟨h1,h2,h3,h4,h5,h6,h7,h8⟩:=h
 dsimp only at h1 h2 h3 h4 h5 h6 h7 h8
 have h5:=h5 rfl
 have hw:=hE.wk
 have hL:=hE.L
 generalize hn:n=m at h8
 generalize hb:false=d at h8
 cases h8 with
 | come a b=>
   have e:ggst E.ds E.ss (xs,F,G)=(xs,F,{G with C:={G.C with period:=Cl.nth xs 0,at_:=1}}):=by
    unfold ggst cstep
    simp only
    rw [if_pos a,if_pos b,if_neg (by omega)]
    cases G; simp only at a; subst a; rfl
   rw [if_neg (by intro q; omega)] at h7
   rw [e,show ggdn G=false by unfold ggdn; simp; omega]
   subst h7
   exact ⟨h1,h2,h3,h4,fun _=>h5,Cl.getD_bd hE.xb 0,by simp,.put a rfl rfl⟩
 | put a b c=>
   have e:ggst E.ds E.ss (xs,F,G)=(xs.set (2+G.C.worker) G.C.period,F,{G with C:={G.C with at_:=2},nx:=2}):=by
    unfold ggst cstep
    simp only
    rw [if_pos a,if_neg (by omega),if_pos b]
   rw [if_neg (by intro q; omega)] at h7
   rw [e,show ggdn G=false by unfold ggdn; simp; omega,h4,c]
   subst h7
   exact ⟨h1,h2,h3,h4,fun _=>h5,by simp only; rw [c]; exact Cl.getD_bd hE.xb 0,by simp,.load rfl⟩
 | load a=>
   have e:ggst E.ds E.ss (xs,F,G)=(xs,F,{G with W:=new 0 (cellOf G.sum (now xs E.ds)) G.sum G.key,nx:=3}):=by
    unfold ggst
    simp only
    rw [if_neg (by omega),if_pos a]
   rw [if_pos ⟨by omega,rfl⟩] at h7
   rw [e,show ggdn G=false by unfold ggdn; simp; omega]
   subst h7
   exact ⟨h1,h2,h3,h4,fun _=>h5,h6,by simp,.first rfl (by simp only; rw [hE.now_in,h3,h2])⟩
 | first a b=>
   rw [if_pos ⟨by omega,rfl⟩] at h7
   have e:ggst E.ds E.ss (xs,F,G)=(xs,F,{G with W:=goTo {new 0 E.cell (sm E.key) E.key with first:=word E.xs E.cell} (word E.xs E.cell),nx:=if word E.xs E.cell=0 then 4 else 3}):=by
    unfold ggst
    simp only
    rw [if_neg (by omega),if_neg (by omega),if_pos a]
    have hg:Wk.gstep xs E.ss (F,G.W)=(F,goTo {new 0 E.cell (sm E.key) E.key with first:=word E.xs E.cell} (word E.xs E.cell)):=by
     unfold Wk.gstep
     simp only
     rw [b,if_pos (show (new 0 E.cell (sm E.key) E.key).nx=1 from rfl),show (new 0 E.cell (sm E.key) E.key).cell=E.cell from rfl,h7,hE.word_in]
    have hdn:Wk.gdone xs E.ss (F,G.W)=decide (word E.xs E.cell=0):=by
     unfold Wk.gdone
     rw [hg]
     exact goTo_nx _ _
    rw [hg,hdn]
    simp
   rw [e,show ggdn G=false by unfold ggdn; simp; omega]
   have hch:=hE.ch
   have hwb:=word_bd hE.xb E.cell
   have hqL:=hE.qL
   have hcb: -1≤E.cell∧E.cell≤5000000:=cellOf_bd (sm_bd E.key).1 (now E.xs E.ds) (hE.tb _)
   by_cases h0:word E.xs E.cell=0
   · rw [if_pos h0]
     have hq:=hch.pos.1 h0
     refine ⟨h1,h2,h3,h4,fun _=>h5,h6,by rw [if_pos ⟨by omega,rfl⟩]; exact h7,?_⟩
     unfold goTo
     rw [if_pos h0]
     exact .leave (G:={G with W:={new 0 E.cell (sm E.key) E.key with first:=word E.xs E.cell,nx:=3},nx:=4}) rfl (Nat.zero_le _) (by rw [hq]; exact ⟨rfl,rfl⟩)
   · rw [if_neg h0]
     refine ⟨h1,h2,h3,h4,fun _=>h5,h6,by rw [if_pos ⟨by omega,rfl⟩]; exact h7,?_⟩
     unfold goTo
     rw [if_neg h0]
     exact .look (G:={G with W:={new 0 E.cell (sm E.key) E.key with first:=word E.xs E.cell,at_:=word E.xs E.cell,nx:=2},nx:=3}) E.q rfl rfl rfl rfl rfl rfl (fun q=>h0 (hch.pos.2 q)) hch rfl (by simp only [new]; omega) (by simp only [new]; omega) hwb
 | look q a1 a2 a3 a4 a5 a6 a7 a8 a9 a10 a11 a12=>
   rw [if_pos ⟨by omega,rfl⟩] at h7
   generalize hat:G.W.at_=wat at a8
   cases a8 with
   | nil=>exact absurd rfl a7
   | @cons _ k z p t c1 c2 c3=>
     rw [← hat] at c1
     have hp:=(pl_some hE.len).2 c1
     have hst:Wk.gstep xs E.ss (F,G.W)=(F,looks G.W (ndp p z)):=by
      unfold Wk.gstep
      simp only
      rw [if_neg (by omega),if_pos a2,hp]
      show (F,looks G.W (at' E.ss k).nd)=_
      rw [c2]
     have hit_iff:hit G.W (ndp p z)=decide (p.1=E.key):=by
      unfold hit ndp
      simp only [a3,a4,decide_eq_decide]
      exact ⟨fun q=>q.2,fun q=>⟨by rw [q],q⟩⟩
     have hz:z≤18446744073709551615:=by
      have:=(hE.nexts k).2
      rw [c2] at this
      unfold ndp at this
      simp only at this
      omega
     have hdn:Wk.gdone xs E.ss (F,G.W)=(decide (p.1=E.key)||decide (z=0)):=by
      unfold Wk.gdone
      rw [hst]
      show decide (3≤(looks G.W (ndp p z)).nx)=_
      rw [looks_nx]
      unfold lookD
      rw [hit_iff]
      rfl
     have e:ggst E.ds E.ss (xs,F,G)=(xs,F,{G with W:=looks G.W (ndp p z),nx:=if (decide (p.1=E.key)||decide (z=0))=true then 4 else 3}):=by
      unfold ggst
      simp only
      rw [if_neg (by omega),if_neg (by omega),if_pos a1,hst,hdn]
     rw [e,show ggdn G=false by unfold ggdn; simp; omega]
     have hc0:G.W.at_≠0:=fun e=>by have:=c1.pos; omega
     simp only [List.length_cons] at a10
     by_cases hk:p.1=E.key
     · rw [if_pos (by simp [hk])]
       have hl:looks G.W (ndp p z)={G.W with read:=G.W.read+1,found:=G.W.at_,nd:=ndp p z,nx:=3}:=by
        unfold looks
        rw [hit_iff,if_pos (by simp [hk])]
       rw [hl]
       refine ⟨h1,h2,h3,h4,fun _=>h5,h6,by rw [if_pos ⟨by omega,rfl⟩]; exact h7,?_⟩
       refine .leave (G:={G with W:={G.W with read:=G.W.read+1,found:=G.W.at_,nd:=ndp p z,nx:=3},nx:=4}) rfl (by simp only; omega) ?_
       rw [← a9]
       unfold lk
       rw [if_pos hk]
       exact ⟨rfl,by simp [hc0]⟩
     · have hl:looks G.W (ndp p z)=goTo {G.W with read:=G.W.read+1,prev:=G.W.at_} z:=by
        unfold looks
        rw [hit_iff,if_neg (by simp [hk])]
        rfl
       rw [hl]
       have a9:lk t E.key=lk E.q E.key:=by rw [← a9]; simp [lk,hk]
       by_cases h0:z=0
       · rw [if_pos (by simp [h0])]
         have ht:=c3.pos.1 h0
         refine ⟨h1,h2,h3,h4,fun _=>h5,h6,by rw [if_pos ⟨by omega,rfl⟩]; exact h7,?_⟩
         unfold goTo
         rw [if_pos h0]
         refine .leave (G:={G with W:={G.W with read:=G.W.read+1,prev:=G.W.at_,nx:=3},nx:=4}) rfl (by simp only; omega) ?_
         rw [← a9,ht]
         exact ⟨a6,by simp [a5,lk]⟩
       · rw [if_neg (by simp [h0,hk])]
         refine ⟨h1,h2,h3,h4,fun _=>h5,h6,by rw [if_pos ⟨by omega,rfl⟩]; exact h7,?_⟩
         unfold goTo
         rw [if_neg h0]
         exact .look (G:={G with W:={G.W with read:=G.W.read+1,prev:=G.W.at_,at_:=z,nx:=2},nx:=3}) t rfl rfl a3 a4 a5 a6 (fun q=>h0 (c3.pos.2 q)) c3 a9 (by simp only; omega) a11 hz
 | leave a b c=>
   have e:ggst E.ds E.ss (xs,F,G)=(xs.set (2+G.C.worker) 0,F,{G with gat:=1}):=by
    unfold ggst
    simp only
    rw [if_neg (by omega),if_neg (by omega),if_neg (by omega)]
   rw [if_pos ⟨by omega,rfl⟩] at h7
   rw [e,show ggdn G=true by unfold ggdn; simp; omega,h4]
   subst h7
   refine ⟨h1,h2,h3,h4,(fun q=>by cases q),h6,by simpa using hE.back,?_⟩
   rw [show 4+G.W.read+1=5+G.W.read by omega]
   exact .over (G:={G with gat:=1}) b c
 | over a b=>cases hb
theorem Gv.fin (hE:E.Ok) (K:Nat):∀ n s,Gv E n false s→5+E.L≤n+K→∃ m s',gfin E.ds E.ss K s=(m,true,s')∧Gv E (n+m) true s':=by
 induction K with
 | zero=>intro n s h hK; have:=h.le; omega
 | succ K ih=>
   intro n s h hK
   have hs:=h.step hE
   unfold gfin Me.fin
   rw [if_pos rfl]
   cases hd:ggdn s.2.2 with
   | true=>
     rw [hd] at hs
     exact ⟨1,_,by simp,hs⟩
   | false=>
     rw [hd] at hs
     obtain ⟨m,s',e,hv⟩:=ih (n+1) _ hs (by omega)
     refine ⟨m+1,s',?_,by rw [show n+(m+1)=n+1+m by omega]; exact hv⟩
     unfold gfin at e
     rw [if_neg (by simp),e]
end
def Got (M:Mo) (a:Ga) (key:ByteArray) (q:List Pr) (L:Nat) (w0:World) (e:Ending) (w:World):Prop:=
 ∃ (n:Nat) (G:Ge) (a':Ga),e=.returned (.tuple #[.int .i64 n,.bool true])∧n=5+G.W.read∧G.W.read≤L∧Fits (lk q key) G.W∧MemAt w M∧GeAt w a' G∧a'.f=a.f∧(∀ x,gfoot a' x→gfoot a x∨w0.heap.size≤x)∧Only (fun x=>mfoot M x∨gfoot a x) w0 w
theorem get_ends {w:World} {M:Mo} {a:Ga} {k:Nat} {key:ByteArray} {q:List Pr} {L:Nat} (hM:MemAt w M) (hG:GeAt w a (newGet k key)) (hE:Ev.Ok ⟨M.ds,M.ss,M.xs,M.F,key,k,q,L⟩) (K:Nat) (hK:5+L≤K∧K≤1000000):
 Calls Tryz.prog 9 #[ptr M.m,.iface 62 (ptr a.f),.int .i64 K] w (Got M a key q L w):=by
 have h0:=Gv.begin hE
 have hf:=finish_get hM hG K hK.2 (h0.ok hE K (by omega)) rfl
 obtain ⟨n,s,e,hv⟩:=h0.fin hE K 0 _ (by simp only; omega)
 simp only at e
 rw [e] at hf
 refine hf.mono fun e1 w1 q=>?_
 obtain ⟨q1,a',q2,q3,q4,q5,q6⟩:=q
 obtain ⟨o1,o2,o3,o4,o5⟩:=hv.over
 simp only at q4 q5 o3 o4
 rw [o3,o4] at q4
 exact ⟨n,s.2.2,a',q1,by omega,o5,o2,q4,q5,q2,q3,q6⟩
end Go.Proofs.YtkogifmjbmnpgaaGreat.Gt
namespace Go.Proofs.YtkogifmjbmnpgaaGreat.Pu
open Go Go.RowKit Hp K Fl Rw Hm Ar Mm Me Wk Ta Pn Pc Mq
set_option maxRecDepth 100000
section
variable {xs:List Int} {ds:List (Nat×Nat)} {s:List Int×Ho}
theorem lstep1 (h:s.2.nx=1):lstep xs ds s=(s.1,{s.2 with nx:=2,num:=(Cl.nth xs 1).toNat}):=by unfold lstep; rw [if_pos h]
theorem lstep2 (h:s.2.nx=2):lstep xs ds s=(s.1.set (lkn s.2.sum (tab ds s.2.num)) s.2.worker,{s.2 with nx:=3,d:=tab ds s.2.num,lock:=lkn s.2.sum (tab ds s.2.num)}):=by unfold lstep; rw [if_neg (by omega),if_pos h]
theorem lstep3 (h:s.2.nx=3) (he:Cl.nth xs 1=s.2.num):lstep xs ds s=(s.1,{s.2 with nx:=5,holds:=true}):=by unfold lstep; rw [if_neg (by omega),if_neg (by omega),if_pos h,if_pos he]
end
section
variable {L:Lm} {S:Sk}
theorem sstep1 (h:S.ph=1):sstep L S=({L with hs:=(lstep L.xs L.ds (L.hs,S.H)).1},if ldone L.xs (L.hs,S.H)=true then {S with H:=(lstep L.xs L.ds (L.hs,S.H)).2,cell:=pcell S.sum (lstep L.xs L.ds (L.hs,S.H)).2,W:=new 0 (pcell S.sum (lstep L.xs L.ds (L.hs,S.H)).2) S.sum S.key,ph:=2} else {S with H:=(lstep L.xs L.ds (L.hs,S.H)).2}):=by
 unfold sstep; rw [if_pos h]
theorem sstep2 (h:S.ph=2):sstep L S=({L with F:=(Wk.gstep L.xs L.ss (L.F,S.W)).1},{S with W:=(Wk.gstep L.xs L.ss (L.F,S.W)).2}):=by
 unfold sstep; rw [if_neg (by omega)]
theorem sdone1 (h:S.ph=1):sdone L S=false:=by unfold sdone; rw [if_pos h]
theorem sdone2 (h:S.ph=2):sdone L S=Wk.gdone L.xs L.ss (L.F,S.W):=by unfold sdone; rw [if_neg (by omega)]
theorem sready2 (h:S.ph≠1):sready L S=true:=by unfold sready; rw [if_neg h]
end
structure Ep where
 L:Lm
 key:ByteArray
 val:ByteArray
 i:Int
 h:Nat
 d:Nat×Nat
 c:Nat
 q:List Mq.Hp
abbrev Ep.word (E:Ep):Nat:=(Cl.nth E.L.xs E.c).toNat
abbrev Ep.lock (E:Ep):Nat:=lkn (sm E.key) E.d
abbrev Ep.num (E:Ep):Nat:=(Cl.nth E.L.xs 1).toNat
abbrev Ep.hs (E:Ep):List Int:=E.L.hs.set E.lock E.i
structure Ep.Ok (E:Ep):Prop where
 len:E.L.ss.length≤1024
 nexts:Nexts E.L.ss
 tb:∀ i,(tab E.L.ds i).1≤65536∧(tab E.L.ds i).2≤4000000
 wk:0≤E.i∧E.i≤1000
 xb:∀ x∈E.L.xs,0≤x∧x≤18446744073709551615
 hs:E.L.hs=List.replicate 6 (-1)
 now:Me.now E.L.xs E.L.ds=E.d
 d0:E.d.1≠0
 cell:(E.c:Int)=E.d.2+FM.bucket (sm E.key) E.d.1
 cx:E.c<E.L.xs.length
 x1:1<E.L.xs.length
 ch:Cx E.L.ss E.word E.q
 gen:∀ k,(at' E.L.ss k).gen≤1000000
 ws:E.L.ws.length≤1000000
 ql:E.q.length≤1024
abbrev Ep.H (E:Ep):Ho:=⟨E.h,E.i,sm E.key,5,E.num,E.d,E.lock,true⟩
def Fnd (E:Ep) (W:Wa):Prop:=(W.found=0∧E.key∉kys E.q∧W.first=E.word)∨
 ∃ (pre:List Mq.Hp) (x:Nat) (p:Pr) (t:List Mq.Hp) (z k:Nat),E.q=pre++(x,p)::t∧p.1=E.key∧W.found=x∧IsAt E.L.ss x k∧(at' E.L.ss k).nd=ndp p z∧W.nd=ndp p z∧Cx E.L.ss z t∧W.prev=lastH pre
abbrev Ep.s (E:Ep) (H:Ho) (W:Wa):Sk:=⟨E.key,sm E.key,2,H,E.c,W⟩
abbrev Ep.n (E:Ep) (H:Ho):Sk:={newSk E.h E.i (sm E.key) E.key with H:=H}
inductive Rs (E:Ep):Nat→Lm×Sk→Prop
 | a1:Rs E (4+E.q.length) (E.L,newSk E.h E.i (sm E.key) E.key)
 | a2:Rs E (3+E.q.length) (E.L,E.n ⟨E.h,E.i,sm E.key,2,E.num,(0,0),0,false⟩)
 | a3:Rs E (2+E.q.length) ({E.L with hs:=E.hs},E.n ⟨E.h,E.i,sm E.key,3,E.num,E.d,E.lock,false⟩)
 | w1:Rs E (1+E.q.length) ({E.L with hs:=E.hs},E.s E.H (Wk.new 0 E.c (sm E.key) E.key))
 | w2 (pre rest:List Mq.Hp) (W:Wa):E.q=pre++rest→rest≠[]→W.nx=2→Cx E.L.ss W.at_ rest→W.key=E.key→W.sum=sm E.key→W.first=E.word→W.prev=lastH pre→W.found=0→W.read=pre.length→W.cell=E.c→E.key∉kys pre→W.at_≤18446744073709551615→W.nd=.zero→
    Rs E rest.length ({E.L with hs:=E.hs},E.s E.H W)
section
variable {E:Ep} {k:Nat} {s:Lm×Sk}
theorem Ep.Ok.lk (hE:E.Ok):E.lock<6:=by
 have:=lkn_bd E.d (sm_bd E.key).1
 show lkn (sm E.key) E.d<6
 omega
theorem Ep.Ok.back (hE:E.Ok):E.hs.set E.lock (-1)=E.L.hs:=by
 show (E.L.hs.set E.lock E.i).set E.lock (-1)=_
 rw [List.set_set,hE.hs]
 apply List.ext_getElem
 · simp
 · intro i h1 h2
   rw [List.getElem_set,List.getElem_replicate]
   split<;>first | rfl | rw [List.getElem_replicate]
theorem Ep.Ok.hol (hE:E.Ok):Lo.hol E.hs E.lock=E.i:=by
 have:=hE.lk
 show Lo.hol (E.L.hs.set E.lock E.i) E.lock=_
 rw [hol_set (by rw [hE.hs]; simpa using this),if_pos rfl]
theorem Rs.pos (h:Rs E k s):1≤k:=by
 cases h with
 | w2 pre rest W h1 h2=>exact List.length_pos_iff.2 h2
 | _=>omega
theorem Ep.Ok.okl (hE:E.Ok):Okl E.L.xs E.L.ds (E.L.hs,⟨E.h,E.i,sm E.key,1,0,(0,0),0,false⟩):=by
 have hw:=hE.wk
 exact ⟨sm_bd _,⟨hw.1,by show E.i≤_; omega⟩,by show 4<E.L.hs.length; rw [hE.hs]; simp,hE.x1,by simp,Cl.getD_bd hE.xb 1,fun i=>(hE.tb i).1,by simp,by rintro (q | q | q)<;>simp at q,fun q=>by simp at q⟩
theorem Ep.Ok.okl2 (hE:E.Ok):Okl E.L.xs E.L.ds (E.L.hs,⟨E.h,E.i,sm E.key,2,E.num,(0,0),0,false⟩):=by
 have:=hE.okl.step (by unfold lready; rfl) (by unfold ldone; simp)
 rw [lstep1 rfl] at this
 exact this
theorem Ep.Ok.free (hE:E.Ok):lready E.L.ds (E.L.hs,⟨E.h,E.i,sm E.key,2,E.num,(0,0),0,false⟩)=true:=by
 have hn:tab E.L.ds E.num=E.d:=hE.now
 have hl:=hE.lk
 unfold lready
 rw [if_pos rfl]
 simp only [decide_eq_true_eq]
 rw [hn,hE.hs]
 unfold Lo.hol
 rw [List.getD_eq_getElem?_getD,List.getElem?_replicate]
 split<;>rfl
theorem Ep.Ok.okl3 (hE:E.Ok):Okl E.L.xs E.L.ds (E.hs,⟨E.h,E.i,sm E.key,3,E.num,E.d,E.lock,false⟩):=by
 have:=hE.okl2.step hE.free (by unfold ldone; simp)
 rw [lstep2 rfl] at this
 have hn:tab E.L.ds E.num=E.d:=hE.now
 simp only [hn] at this
 exact this
theorem Ep.Ok.okl5 (hE:E.Ok) {xs:List Int} {ds:List (Nat×Nat)} (hx:1<xs.length) (hd:ds=E.L.ds) (h1:0≤Cl.nth xs 1∧Cl.nth xs 1≤18446744073709551615):Okl xs ds (E.hs,E.H):=by
 have hw:=hE.wk
 have hl:=hE.lk
 subst hd
 refine ⟨sm_bd _,⟨hw.1,by show E.i≤_; omega⟩,by show 4<(E.L.hs.set E.lock E.i).length; rw [hE.hs]; simp,hx,?_,h1,fun i=>(hE.tb i).1,by simp,fun _=>⟨?_,hE.hol⟩,fun _=>by simp⟩
 · have:=Cl.getD_bd hE.xb 1
   show E.num≤_
   show (Cl.nth E.L.xs 1).toNat≤_
   omega
 · show E.lock<(E.L.hs.set E.lock E.i).length
   rw [hE.hs]
   simpa using hl
theorem nexts_lnk {ss:List Sl} (h:Nexts ss) (x y:Nat) (hy:y≤18446744073709551615):Nexts (lnk ss x y):=by
 unfold lnk
 by_cases hk:(x-1) % 65536<ss.length
 · exact h.set hk _ ⟨by simp only; omega,by simp only; omega⟩
 · rw [List.set_eq_of_length_le (by omega)]
   exact h
theorem Ep.Ok.word (hE:E.Ok):Wk.word E.L.xs E.c=E.word:=by
 have:=hE.cx
 unfold Wk.word
 rw [if_pos (by omega),Int.toNat_natCast]
theorem Ep.Ok.wordB (hE:E.Ok):E.word≤18446744073709551615:=by
 have:=Cl.getD_bd hE.xb E.c
 show (Cl.nth E.L.xs E.c).toNat≤_
 omega
theorem walk_load (hE:E.Ok) {F:Bool}:Wk.gstep E.L.xs E.L.ss (F,Wk.new 0 E.c (sm E.key) E.key)=(F,goTo {Wk.new 0 E.c (sm E.key) E.key with first:=E.word} E.word)∧Wk.gdone E.L.xs E.L.ss (F,Wk.new 0 E.c (sm E.key) E.key)=decide (E.word=0):=by
 have h:Wk.gstep E.L.xs E.L.ss (F,Wk.new 0 E.c (sm E.key) E.key)=(F,goTo {Wk.new 0 E.c (sm E.key) E.key with first:=E.word} E.word):=by
  unfold Wk.gstep
  simp only
  rw [if_pos (show (Wk.new 0 (E.c:Int) (sm E.key) E.key).nx=1 from rfl),show (Wk.new 0 (E.c:Int) (sm E.key) E.key).cell=(E.c:Int) from rfl,hE.word]
 refine ⟨h,?_⟩
 unfold Wk.gdone
 rw [h]
 exact goTo_nx _ _
theorem Rs.ok (hE:E.Ok) (h:Rs E k s):∃ r,Oks r s.1 s.2:=by
 have hsb:=sm_bd E.key
 have hbk:=bucket_bd (sm E.key) E.d.1 hsb.1
 have hd2:=(hE.tb E.num).2
 have hn:tab E.L.ds E.num=E.d:=hE.now
 rw [hn] at hd2
 have hc:=hE.cell
 cases h with
 | a1=>exact ⟨0,hsb,fun _=>hE.okl,fun _=>by simp [newSk],fun q=>absurd rfl q,hE.nexts,hE.tb⟩
 | a2=>exact ⟨0,hsb,fun _=>hE.okl2,fun _=>by simp,fun q=>absurd rfl q,hE.nexts,hE.tb⟩
 | a3=>exact ⟨0,hsb,fun _=>hE.okl3,fun _=>by rw [← hE.now]; exact hE.tb _,fun q=>absurd rfl q,hE.nexts,hE.tb⟩
 | w1=>exact ⟨0,hsb,fun q=>by simp at q,fun q=>by simp at q,fun _=>⟨by simp [Wk.new]; omega,by simp [Wk.new],by simp [Wk.new],by simp [Wk.new]⟩,hE.nexts,hE.tb⟩
 | w2 pre rest W h1 h2 h3 h4 h5 h6 h7 h8 h9 h10 h11 h12 h13 h14=>
   have hql:=hE.ql
   rw [h1,List.length_append] at hql
   exact ⟨0,hsb,fun q=>by simp at q,fun q=>by simp at q,fun _=>⟨by simp only [h11]; omega,h13,by simp only [h10]; omega,by simp only [h3]; omega⟩,hE.nexts,hE.tb⟩
theorem Rs.step (hE:E.Ok) (h:Rs E k s):sready s.1 s.2=true∧1≤k∧(sdone s.1 s.2=true→∃ W,Fnd E W∧(W.found=0→W.nd=.zero)∧sstep s.1 s.2=({E.L with hs:=E.hs},E.s E.H W))∧(sdone s.1 s.2=false→∃ j,j≤k-1∧Rs E j (sstep s.1 s.2)):=by
 have hn:tab E.L.ds E.num=E.d:=hE.now
 cases h with
 | a1=>
   refine ⟨rfl,by omega,fun q=>by rw [sdone1 rfl] at q; simp at q,fun _=>?_⟩
   have e:sstep E.L (newSk E.h E.i (sm E.key) E.key)=(E.L,E.n ⟨E.h,E.i,sm E.key,2,E.num,(0,0),0,false⟩):=by
    rw [sstep1 rfl]
    have e1:lstep E.L.xs E.L.ds (E.L.hs,(newSk E.h E.i (sm E.key) E.key).H)=(E.L.hs,⟨E.h,E.i,sm E.key,2,E.num,(0,0),0,false⟩):=lstep1 rfl
    have e2:ldone E.L.xs (E.L.hs,(newSk E.h E.i (sm E.key) E.key).H)=false:=by unfold ldone newSk; simp
    rw [e1,e2]
    rfl
   rw [e]
   exact ⟨_,by omega,.a2⟩
 | a2=>
   refine ⟨hE.free,by omega,fun q=>by rw [sdone1 rfl] at q; simp at q,fun _=>?_⟩
   have e:sstep E.L (E.n ⟨E.h,E.i,sm E.key,2,E.num,(0,0),0,false⟩)=({E.L with hs:=E.hs},E.n ⟨E.h,E.i,sm E.key,3,E.num,E.d,E.lock,false⟩):=by
    rw [sstep1 rfl]
    have e1:lstep E.L.xs E.L.ds (E.L.hs,(⟨E.h,E.i,sm E.key,2,E.num,(0,0),0,false⟩:Ho))=(E.hs,⟨E.h,E.i,sm E.key,3,E.num,E.d,E.lock,false⟩):=by
     rw [lstep2 rfl]
     simp only [hn]
    have e2:ldone E.L.xs (E.L.hs,(⟨E.h,E.i,sm E.key,2,E.num,(0,0),0,false⟩:Ho))=false:=by unfold ldone; simp
    simp only [e1,e2]
    rfl
   rw [e]
   exact ⟨_,by omega,.a3⟩
 | a3=>
   refine ⟨rfl,by omega,fun q=>by rw [sdone1 rfl] at q; simp at q,fun _=>?_⟩
   have hx1:Cl.nth E.L.xs 1=((E.num:Nat):Int):=by
    have:=Cl.getD_bd hE.xb 1
    show _=(((Cl.nth E.L.xs 1).toNat:Nat):Int)
    omega
   have hc:pcell (sm E.key) E.H=(E.c:Int):=by
    unfold pcell Gt.cellOf
    rw [if_pos rfl,if_neg hE.d0]
    exact hE.cell.symm
   have e:sstep {E.L with hs:=E.hs} (E.n ⟨E.h,E.i,sm E.key,3,E.num,E.d,E.lock,false⟩)=({E.L with hs:=E.hs},E.s E.H (Wk.new 0 E.c (sm E.key) E.key)):=by
    rw [sstep1 rfl]
    have e1:lstep E.L.xs E.L.ds (E.hs,(⟨E.h,E.i,sm E.key,3,E.num,E.d,E.lock,false⟩:Ho))=(E.hs,E.H):=lstep3 rfl hx1
    have e2:ldone E.L.xs (E.hs,(⟨E.h,E.i,sm E.key,3,E.num,E.d,E.lock,false⟩:Ho))=true:=by unfold ldone; exact decide_eq_true (.inl ⟨rfl,hx1⟩)
    simp only [e1,e2,if_true]
    show ({E.L with hs:=E.hs},({newSk E.h E.i (sm E.key) E.key with H:=E.H,cell:=pcell (sm E.key) E.H,W:=Wk.new 0 (pcell (sm E.key) E.H) (sm E.key) E.key,ph:=2}:Sk))=_
    rw [hc]
    rfl
   rw [e]
   exact ⟨_,by omega,.w1⟩
 | w1=>
   obtain ⟨g1,g2⟩:=walk_load hE (F:=E.L.F)
   have e:sstep {E.L with hs:=E.hs} (E.s E.H (Wk.new 0 E.c (sm E.key) E.key))=({E.L with hs:=E.hs},E.s E.H (goTo {Wk.new 0 E.c (sm E.key) E.key with first:=E.word} E.word)):=by
    rw [sstep2 rfl]
    simp only [g1]
   have ed:sdone {E.L with hs:=E.hs} (E.s E.H (Wk.new 0 E.c (sm E.key) E.key))=decide (E.word=0):=by
    rw [sdone2 rfl]
    simp only [g2]
   rw [e,ed]
   have hp:=hE.ch.pos
   refine ⟨sready2 (by simp),by omega,fun q=>?_,fun q=>?_⟩
   · have h0:E.word=0:=of_decide_eq_true q
     have hq:=hp.1 h0
     have hg:goTo {Wk.new 0 E.c (sm E.key) E.key with first:=E.word} E.word={Wk.new 0 E.c (sm E.key) E.key with first:=E.word,nx:=3}:=by unfold goTo; rw [if_pos h0]
     rw [hg]
     exact ⟨_,.inl ⟨rfl,by rw [hq]; simp,rfl⟩,fun _=>rfl,rfl⟩
   · have h0:¬E.word=0:=of_decide_eq_false q
     have hg:goTo {Wk.new 0 E.c (sm E.key) E.key with first:=E.word} E.word={Wk.new 0 E.c (sm E.key) E.key with first:=E.word,at_:=E.word,nx:=2}:=by unfold goTo; rw [if_neg h0]
     rw [hg]
     exact ⟨E.q.length,by omega,.w2 [] E.q {Wk.new 0 E.c (sm E.key) E.key with first:=E.word,at_:=E.word,nx:=2} rfl (fun q=>h0 (hp.2 q)) rfl hE.ch rfl rfl rfl rfl rfl rfl rfl (by simp) hE.wordB rfl⟩
 | w2 pre rest W h1 h2 h3 h4 h5 h6 h7 h8 h9 h10 h11 h12 h13 h14=>
   obtain ⟨e0,t,rfl⟩:∃ e t,rest=e::t:=by
    cases rest with
    | nil=>exact absurd rfl h2
    | cons e t=>exact ⟨e,t,rfl⟩
   obtain ⟨x,p⟩:=e0
   have hx:W.at_=x:=h4.head
   rw [hx] at h4
   obtain ⟨kk,z,hk,hnd,hc⟩:=h4.tail
   have hpl:=(pl_some hE.len).2 hk
   have hit_iff:hit W (ndp p z)=decide (p.1=E.key):=by
    unfold hit ndp
    simp only [h5,h6,decide_eq_decide]
    exact ⟨fun q=>q.2,fun q=>⟨by rw [q],q⟩⟩
   have hzb:z≤18446744073709551615:=by
    have:=(hE.nexts kk).2
    rw [hnd] at this
    unfold ndp at this
    simp only at this
    omega
   have g1:Wk.gstep E.L.xs E.L.ss (E.L.F,W)=(E.L.F,looks W (ndp p z)):=by
    unfold Wk.gstep
    simp only
    rw [if_neg (by omega),if_pos h3,hx,hpl]
    show (E.L.F,looks W (at' E.L.ss kk).nd)=_
    rw [hnd]
   have g2:Wk.gdone E.L.xs E.L.ss (E.L.F,W)=(decide (p.1=E.key)||decide (z=0)):=by
    unfold Wk.gdone
    rw [g1]
    show decide (3≤(looks W (ndp p z)).nx)=_
    rw [looks_nx]
    unfold lookD
    rw [hit_iff]
    rfl
   have e:sstep {E.L with hs:=E.hs} (E.s E.H W)=({E.L with hs:=E.hs},E.s E.H (looks W (ndp p z))):=by
    rw [sstep2 rfl]
    simp only [g1]
   have ed:sdone {E.L with hs:=E.hs} (E.s E.H W)=(decide (p.1=E.key)||decide (z=0)):=by
    rw [sdone2 rfl]
    simp only [g2]
   rw [e,ed]
   simp only [List.length_cons]
   refine ⟨sready2 (by simp),by omega,fun q=>?_,fun q=>?_⟩
   · by_cases hkey:p.1=E.key
     · have hl:looks W (ndp p z)={W with read:=W.read+1,found:=W.at_,nd:=ndp p z,nx:=3}:=by
        unfold looks
        rw [hit_iff,if_pos (by simp [hkey])]
       rw [hl]
       exact ⟨{W with read:=W.read+1,found:=W.at_,nd:=ndp p z,nx:=3},.inr ⟨pre,x,p,t,z,kk,h1,hkey,hx,hk,hnd,rfl,hc,h8⟩,fun q=>absurd (hx▸q) hk.pos,rfl⟩
     · have h0:z=0:=by simpa [hkey] using q
       have hl:looks W (ndp p z)=goTo {W with read:=W.read+1,prev:=W.at_} z:=by
        unfold looks
        rw [hit_iff,if_neg (by simp [hkey])]
        rfl
       rw [hl]
       have hqq:E.q=(pre++[(x,p)])++t:=by rw [h1]; simp
       have hky:E.key∉kys (pre++[(x,p)]):=by
        simp only [kys,List.map_append,List.map_cons,List.map_nil,List.mem_append,List.mem_singleton]
        rintro (q | q)
        · exact h12 q
        · exact hkey q.symm
       have ht:=hc.pos.1 h0
       have hg:goTo {W with read:=W.read+1,prev:=W.at_} z={W with read:=W.read+1,prev:=W.at_,nx:=3}:=by unfold goTo; rw [if_pos h0]
       rw [hg]
       refine ⟨{W with read:=W.read+1,prev:=W.at_,nx:=3},.inl ⟨h9,?_,h7⟩,fun _=>h14,rfl⟩
       rw [hqq,ht,List.append_nil]
       exact hky
   · have hkey:¬p.1=E.key:=fun e=>by simp [e] at q
     have h0:¬z=0:=fun e=>by simp [e] at q
     have hl:looks W (ndp p z)=goTo {W with read:=W.read+1,prev:=W.at_} z:=by
      unfold looks
      rw [hit_iff,if_neg (by simp [hkey])]
      rfl
     rw [hl]
     have hqq:E.q=(pre++[(x,p)])++t:=by rw [h1]; simp
     have hky:E.key∉kys (pre++[(x,p)]):=by
      simp only [kys,List.map_append,List.map_cons,List.map_nil,List.mem_append,List.mem_singleton]
      rintro (q | q)
      · exact h12 q
      · exact hkey q.symm
     have hg:goTo {W with read:=W.read+1,prev:=W.at_} z={W with read:=W.read+1,prev:=W.at_,at_:=z,nx:=2}:=by unfold goTo; rw [if_neg h0]
     rw [hg]
     exact ⟨t.length,by omega,.w2 (pre++[(x,p)]) t {W with read:=W.read+1,prev:=W.at_,at_:=z,nx:=2} hqq (fun q=>h0 (hc.pos.2 q)) rfl hc h5 h6 h7 (by rw [lastH_snoc]; exact hx) h9 (by simp [h10]) h11 hky hzb h14⟩
theorem Fnd.okd {W:Wa} (hE:E.Ok) (h:Fnd E W) {L:Lm} {H:Ho} {y:Nat} (hy:y≤18446744073709551615) (hx:E.c<L.xs.length) (hs:∀ x j,IsAt E.L.ss x j→IsAt L.ss x j):Okd L (E.s H W) y:=by
 refine ⟨hy,fun hl=>?_,fun _=>⟨by simp only; omega,by simp only; omega⟩⟩
 simp only at hl
 rcases h with ⟨h0,_⟩ | ⟨pre,x,p,t,z,kk,hq,hp,hx,hk,hnd,hW,hc,hpv⟩
 · exact absurd h0 hl.1
 · have hne:pre≠[]:=by
    rintro rfl
    exact hl.2 hpv
   obtain ⟨p0,e,rfl⟩:∃ p0 e,pre=p0++[e]:=⟨pre.dropLast,pre.getLast hne,(List.dropLast_concat_getLast hne).symm⟩
   rw [lastH_snoc] at hpv
   have hch:=hE.ch
   rw [hq] at hch
   obtain ⟨j,_,hj,_⟩:=hch.at e (by simp)
   refine ⟨?_,j,?_⟩
   · show W.prev≤_
     rw [hpv,hj.2.2]
     have:=hE.gen j
     have:=hj.1
     have:=hE.len
     omega
   · show IsAt L.ss W.prev j
     rw [hpv]
     exact hs _ _ hj
end
end Go.Proofs.YtkogifmjbmnpgaaGreat.Pu
namespace Go.Proofs.YtkogifmjbmnpgaaGreat.Pu
open Go Go.RowKit Hp K Fl Rw Hm Ar Mm Me Wk Ta Pn Pc Mq
set_option maxRecDepth 100000
section
variable {L:Lm} {P:Pt}
theorem pstep2 (h:P.nx=2):pstep L P=((sstep L P.toSk).1,{P with toSk:=(sstep L P.toSk).2,nx:=if sdone L P.toSk=true then (if (sstep L P.toSk).2.cell= -1 then 6 else 3) else 2}):=by
 unfold pstep; rw [if_pos h]
theorem pstep3 (h:P.nx=3) {m:Nat} (hm:Least L.ss m):pstep L P=({L with ss:=L.ss.set m ⟨true,(at' L.ss m).gen,⟨P.key,P.val,P.sum,fol P.W⟩⟩},{P with mine:=(at' L.ss m).gen*65536+m+1,err:=0,nx:=4}):=by
 unfold pstep; rw [if_neg (by omega),if_pos h]; simp only [freePl_some.2 hm]
theorem pstep3n (h:P.nx=3) (hm:freePl L.ss=none):pstep L P=(L,{P with mine:=0,err:=4,nx:=6}):=by
 unfold pstep; rw [if_neg (by omega),if_pos h]; simp only [hm]
theorem pstep4 (h:P.nx=4):pstep L P=(slead L P.toSk P.mine,{P with mine:=P.W.found,nx:=if P.W.found≠0 then 5 else 6}):=by
 unfold pstep; rw [if_neg (by omega),if_neg (by omega),if_pos h]
theorem pstep5 (h:P.nx=5):pstep L P=({L with ws:=L.ws++[P.mine]},{P with mine:=0,nx:=6}):=by
 unfold pstep; rw [if_neg (by omega),if_neg (by omega),if_neg (by omega),if_pos h]
theorem pstep6 (h:P.nx=6):pstep L P=({L with hs:=L.hs.set P.H.lock (-1)},{P with H:={P.H with holds:=false},nx:=7}):=by
 unfold pstep; rw [if_neg (by omega),if_neg (by omega),if_neg (by omega),if_neg (by omega)]
end
abbrev Ep.new (E:Ep) (m:Nat):Nat:=(at' E.L.ss m).gen*65536+m+1
abbrev Ep.ss (E:Ep) (W:Wa) (m:Nat):List Sl:=E.L.ss.set m ⟨true,(at' E.L.ss m).gen,⟨E.key,E.val,sm E.key,fol W⟩⟩
def putL (E:Ep) (W:Wa) (m:Nat):Lm:=if W.found≠0∧W.prev≠0 then {E.L with ss:=lnk (E.ss W m) W.prev (E.new m)} else {E.L with ss:=E.ss W m,xs:=E.L.xs.set E.c (E.new m:Nat)}
abbrev putW (E:Ep) (W:Wa):List Nat:=if W.found≠0 then E.L.ws++[W.found] else E.L.ws
abbrev Ep.p (E:Ep) (nx:Nat) (H:Ho) (W:Wa) (err:Int) (mine:Nat):Pt:=⟨E.s H W,E.val,nx,err,mine⟩
inductive Rp (E:Ep):Nat→Lm×Pt→Prop
 | s (k:Nat) (L:Lm) (S:Sk):Rs E k (L,S)→Rp E (4+k) (L,⟨S,E.val,2,0,0⟩)
 | t (W:Wa):Fnd E W→Rp E 4 ({E.L with hs:=E.hs},E.p 3 E.H W 0 0)
 | full (W:Wa):Fnd E W→freePl E.L.ss=none→Rp E 1 ({E.L with hs:=E.hs},E.p 6 E.H W 4 0)
 | p (W:Wa) (m:Nat):Fnd E W→Least E.L.ss m→Rp E 3 ({E.L with hs:=E.hs,ss:=E.ss W m},E.p 4 E.H W 0 (E.new m))
 | r (W:Wa) (m:Nat):Fnd E W→Least E.L.ss m→W.found≠0→Rp E 2 ({putL E W m with hs:=E.hs},E.p 5 E.H W 0 W.found)
 | d (W:Wa) (m:Nat):Fnd E W→Least E.L.ss m→Rp E 1 ({putL E W m with hs:=E.hs,ws:=putW E W},E.p 6 E.H W 0 0)
inductive Qp (E:Ep):Lm×Pt→Prop
 | full (W:Wa):Fnd E W→freePl E.L.ss=none→Qp E (E.L,E.p 7 {E.H with holds:=false} W 4 0)
 | done (W:Wa) (m:Nat):Fnd E W→Least E.L.ss m→Qp E ({putL E W m with ws:=putW E W},E.p 7 {E.H with holds:=false} W 0 0)
section
variable {E:Ep} {k:Nat} {s:Lm×Pt}
theorem putL_hs (E:Ep) (W:Wa) (m:Nat):(putL E W m).hs=E.L.hs∧(putL E W m).ds=E.L.ds∧(putL E W m).ws=E.L.ws∧(putL E W m).F=E.L.F∧(putL E W m).k=E.L.k:=by
 unfold putL
 split<;>exact ⟨rfl,rfl,rfl,rfl,rfl⟩
theorem putL_xl (E:Ep) (W:Wa) (m:Nat):(putL E W m).xs.length=E.L.xs.length:=by
 unfold putL
 split
 · rfl
 · simp
theorem Rp.pos (h:Rp E k s):1≤k:=by cases h<;>omega
theorem Fnd.bd (hE:E.Ok) {W:Wa} (h:Fnd E W):0≤fol W∧fol W≤18446744073709551615:=by
 unfold fol
 rcases h with ⟨h0,_,hf⟩ | ⟨pre,x,p,t,z,k,hq,hp,hx,hk,hnd,hW,hc,hpv⟩
 · rw [if_neg (by omega),hf]
   have:=Cl.getD_bd hE.xb E.c
   have h2:E.word=(Cl.nth E.L.xs E.c).toNat:=rfl
   generalize E.word=ew at*
   omega
 · rw [if_pos (by rw [hx]; exact hk.pos),hW,← hnd]
   exact hE.nexts k
theorem Ep.Ok.x1p (hE:E.Ok) (W:Wa) (m:Nat) (hm:Least E.L.ss m):0≤Cl.nth (putL E W m).xs 1∧Cl.nth (putL E W m).xs 1≤18446744073709551615:=by
 unfold putL
 split
 · exact Cl.getD_bd hE.xb 1
 · refine Cl.getD_bd (fun x hx=>?_) 1
   rcases List.mem_or_eq_of_mem_set hx with q | rfl
   · exact hE.xb x q
   · have:=hE.gen m
     have:=hm.1
     have:=hE.len
     show 0≤(((at' E.L.ss m).gen*65536+m+1:Nat):Int)∧(((at' E.L.ss m).gen*65536+m+1:Nat):Int)≤_
     omega
theorem Ep.Ok.new_bd (hE:E.Ok) {m:Nat} (hm:Least E.L.ss m):E.new m≤18446744073709551615:=by
 have:=hE.gen m
 have:=hm.1
 have:=hE.len
 show (at' E.L.ss m).gen*65536+m+1≤_
 omega
theorem Ep.Ok.nexts_ss (hE:E.Ok) {W:Wa} {m:Nat} (hf:Fnd E W) (hm:Least E.L.ss m):Nexts (E.ss W m):=hE.nexts.set hm.1 _ (hf.bd hE)
theorem Ep.Ok.live (_hE:E.Ok) {m:Nat} (hm:Least E.L.ss m) {W:Wa} {x j:Nat} (hj:IsAt E.L.ss x j):IsAt (E.ss W m) x j:=by
 have hjm:j≠m:=by
  rintro rfl
  have:=hj.2.1
  rw [hm.2.1] at this
  simp at this
 exact (isAt_turn hm.1 _ _ _).2 (by rw [if_neg hjm]; exact hj)
theorem Rp.ok (hE:E.Ok) (h:Rp E k s):Okp s.1 s.2:=by
 cases h with
 | s k L S h=>exact ⟨by simp,fun q=>by simp at q,fun _=>h.ok hE,fun q=>by simp at q,fun q=>by simp at q,fun q=>by simp at q,fun q=>by simp at q⟩
 | t W hf=>exact ⟨by simp,fun _=>by simp,fun q=>by simp at q,fun _=>hE.gen,fun q=>by simp at q,fun q=>by simp at q,fun q=>by simp at q⟩
 | full W hf hn=>exact ⟨by simp,fun _=>by simp,fun q=>by simp at q,fun q=>by simp at q,fun q=>by simp at q,fun q=>by simp at q,fun _=>⟨hE.okl5 hE.x1 rfl (Cl.getD_bd hE.xb 1),rfl⟩⟩
 | p W m hf hm=>exact ⟨by simp,fun _=>by simp,fun q=>by simp at q,fun q=>by simp at q,fun _=>hf.okd hE (hE.new_bd hm) hE.cx (fun x j hj=>hE.live hm hj),fun q=>by simp at q,fun q=>by simp at q⟩
 | r W m hf hm h0=>
   have hp:=putL_hs E W m
   exact ⟨by simp,fun _=>by simp,fun q=>by simp at q,fun q=>by simp at q,fun q=>by simp at q,fun _=>by show (putL E W m).ws.length≤_; rw [hp.2.2.1]; exact hE.ws,fun q=>by simp at q⟩
 | d W m hf hm=>
   have hp:=putL_hs E W m
   exact ⟨by simp,fun _=>by simp,fun q=>by simp at q,fun q=>by simp at q,fun q=>by simp at q,fun q=>by simp at q,fun _=>⟨hE.okl5 (by show 1<(putL E W m).xs.length; rw [putL_xl]; exact hE.x1) hp.2.1 (hE.x1p W m hm),rfl⟩⟩
def Rq (E:Ep) (k:Nat) (s:Lm×Pt):Prop:=∃ j,j≤k∧Rp E j s
theorem Rp.q {E:Ep} {j:Nat} {s:Lm×Pt} (h:Rp E j s) {k:Nat} (hk:j≤k):Rq E k s:=⟨j,hk,h⟩
theorem Ep.Ok.c0 (_hE:E.Ok):¬((E.c:Int)= -1):=by omega
theorem Rp.step (hE:E.Ok) (h:Rp E k s):pready s.1 s.2=true∧1≤k∧(pdone s.1 s.2=true→Qp E (pstep s.1 s.2))∧(pdone s.1 s.2=false→Rq E (k-1) (pstep s.1 s.2)):=by
 cases h with
 | s k L S h=>
   obtain ⟨h1,h2,h3,h4⟩:=h.step hE
   refine ⟨h1,by omega,fun q=>by simp [pdone] at q,fun _=>?_⟩
   rw [pstep2 rfl]
   simp only at h3 h4 ⊢
   cases hd:sdone L S with
   | true=>
     obtain ⟨W,hf,_,e⟩:=h3 hd
     rw [e]
     simp only [if_true,if_neg hE.c0]
     exact (Rp.t W hf).q (by omega)
   | false=>
     obtain ⟨j,hj,hr⟩:=h4 hd
     simp only [Bool.false_eq_true,if_false]
     have:=Rp.s (E:=E) j (sstep L S).1 (sstep L S).2 hr
     exact this.q (by omega)
 | t W hf=>
   refine ⟨rfl,by omega,fun q=>by simp [pdone] at q,fun _=>?_⟩
   cases hfr:freePl E.L.ss with
   | some m=>
     have hm:=freePl_some.1 hfr
     have e:pstep {E.L with hs:=E.hs} (E.p 3 E.H W 0 0)=({E.L with hs:=E.hs,ss:=E.ss W m},E.p 4 E.H W 0 (E.new m)):=pstep3 (L:={E.L with hs:=E.hs}) rfl hm
     rw [e]
     exact (Rp.p W m hf hm).q (by omega)
   | none=>
     have e:pstep {E.L with hs:=E.hs} (E.p 3 E.H W 0 0)=({E.L with hs:=E.hs},E.p 6 E.H W 4 0):=pstep3n (L:={E.L with hs:=E.hs}) rfl hfr
     rw [e]
     exact (Rp.full W hf hfr).q (by omega)
 | full W hf hfr=>
   refine ⟨rfl,by omega,fun _=>?_,fun q=>by simp [pdone] at q⟩
   have e:pstep {E.L with hs:=E.hs} (E.p 6 E.H W 4 0)=(E.L,E.p 7 {E.H with holds:=false} W 4 0):=by
    rw [pstep6 rfl]
    show (({E.L with hs:=E.hs.set E.lock (-1)}:Lm),_)=_
    rw [hE.back]
   rw [e]
   exact .full W hf hfr
 | p W m hf hm=>
   refine ⟨rfl,by omega,fun q=>by simp [pdone] at q,fun _=>?_⟩
   have e:pstep {E.L with hs:=E.hs,ss:=E.ss W m} (E.p 4 E.H W 0 (E.new m))=({putL E W m with hs:=E.hs},E.p (if W.found≠0 then 5 else 6) E.H W 0 W.found):=by
    rw [pstep4 rfl]
    refine Prod.ext ?_ rfl
    unfold putL slead
    by_cases hl:W.found≠0∧W.prev≠0
    · show (if W.found≠0∧W.prev≠0 then _ else _)=_
      rw [if_pos hl,if_pos hl]
    · show (if W.found≠0∧W.prev≠0 then _ else _)=_
      rw [if_neg hl,if_neg hl]
      show ({E.L with hs:=E.hs,ss:=E.ss W m,xs:=E.L.xs.set ((E.c:Nat):Int).toNat (E.new m:Nat)}:Lm)=_
      rw [Int.toNat_natCast]
   rw [e]
   by_cases h0:W.found≠0
   · rw [if_pos h0]
     exact (Rp.r W m hf hm h0).q (by omega)
   · rw [if_neg h0]
     have h0':W.found=0:=by omega
     have:=Rp.d W m hf hm
     have e2:({putL E W m with hs:=E.hs,ws:=putW E W}:Lm)={putL E W m with hs:=E.hs}:=by
      unfold putW
      rw [if_neg h0,← (putL_hs E W m).2.2.1]
     rw [e2] at this
     rw [h0']
     exact this.q (by omega)
 | r W m hf hm h0=>
   refine ⟨rfl,by omega,fun q=>by simp [pdone] at q,fun _=>?_⟩
   have e:pstep {putL E W m with hs:=E.hs} (E.p 5 E.H W 0 W.found)=({putL E W m with hs:=E.hs,ws:=putW E W},E.p 6 E.H W 0 0):=by
    rw [pstep5 rfl]
    refine Prod.ext ?_ rfl
    show ({putL E W m with hs:=E.hs,ws:=(putL E W m).ws++[W.found]}:Lm)=_
    unfold putW
    rw [if_pos h0,(putL_hs E W m).2.2.1]
   rw [e]
   exact (Rp.d W m hf hm).q (by omega)
 | d W m hf hm=>
   refine ⟨rfl,by omega,fun _=>?_,fun q=>by simp [pdone] at q⟩
   have e:pstep {putL E W m with hs:=E.hs,ws:=putW E W} (E.p 6 E.H W 0 0)=({putL E W m with ws:=putW E W},E.p 7 {E.H with holds:=false} W 0 0):=by
    rw [pstep6 rfl]
    show (({putL E W m with ws:=putW E W,hs:=E.hs.set E.lock (-1)}:Lm),_)=_
    rw [hE.back,← (putL_hs E W m).1]
   rw [e]
   exact .done W m hf hm
end
theorem put_ends {w:World} {M:Mo} {a:Qa} {key val:ByteArray} {i:Int} {h c:Nat} {d:Nat×Nat} {q:List Mq.Hp} (hM:MemAt w M) (hP:PuAt w a (newPut h i key val)) (hE:Ep.Ok ⟨lm M,key,val,i,h,d,c,q⟩) (K:Nat) (hK:8+q.length≤K∧K≤1000000):
 Calls Tryz.prog 9 #[ptr M.m,.iface 46 (ptr a.f),.int .i64 K] w fun e w'=>∃ (n:Nat) (s:Lm×Pt),e=.returned (.tuple #[.int .i64 n,.bool true])∧(n≤8+q.length∧fin (fun s:Lm×Pt=>pready s.1 s.2) (fun s=>pstep s.1 s.2) (fun s=>pdone s.1 s.2) K (lm M,newPut h i key val)=(n,true,s))∧Qp ⟨lm M,key,val,i,h,d,c,q⟩ s∧puL.Inv M a (newPut h i key val) w s w':=by
 refine finish_frm put_frm hM hP (Rq ⟨lm M,key,val,i,h,d,c,q⟩) (Qp ⟨lm M,key,val,i,h,d,c,q⟩) ?_ (8+q.length) K ?_ hK.1 hK.2
 · rintro k s ⟨j,hj,hr⟩
   obtain ⟨h1,h2,h3,h4⟩:=hr.step hE
   refine ⟨hr.ok hE,h1,by omega,h3,fun hd=>?_⟩
   obtain ⟨j',hj',hr'⟩:=h4 hd
   exact ⟨j',by omega,hr'⟩
 · exact (Rp.s (E:=⟨lm M,key,val,i,h,d,c,q⟩) (4+q.length) _ _ .a1).q (by omega)
end Go.Proofs.YtkogifmjbmnpgaaGreat.Pu
namespace Go.Proofs.YtkogifmjbmnpgaaGreat.LawSix
end Go.Proofs.YtkogifmjbmnpgaaGreat.LawSix
namespace Go.Proofs.YtkogifmjbmnpgaaGreat.Re
open Go Go.RowKit Hp K Fl Rw Hm Ar Mm Me Qs LawSix
set_option maxRecDepth 100000
theorem frees_len_free {ss:List Sl} {k:Nat} (hk:k<ss.length) (ht:(at' ss k).taken=true) (s:Sl) (hs:s.taken=false) (n:Nat):(frees (ss.set k s) n).length=(frees ss n).length+if k<n then 1 else 0:=by
 induction n with
 | zero=>simp [frees]
 | succ n ih=>
   have h1:=at_set hk s n
   by_cases e:n=k
   · subst e
     rw [if_pos rfl] at h1
     rw [frees_yes (by rw [h1]; exact hs),frees_no ht,List.length_append,ih]
     simp
   · rw [if_neg e] at h1
     have e2:(if k<n+1 then 1 else 0:Nat)=if k<n then 1 else 0:=by split<;>split<;>omega
     by_cases h:(at' ss n).taken=true
     · rw [frees_no (by rw [h1]; exact h),frees_no h,ih,e2]
     · have h:(at' ss n).taken=false:=by simpa using h
       rw [frees_yes (by rw [h1]; exact h),frees_yes h,List.length_append,List.length_append,ih,e2]
       simp only [List.length_cons,List.length_nil]
       omega
theorem frees_len_take {ss:List Sl} {k:Nat} (hk:k<ss.length) (ht:(at' ss k).taken=false) (s:Sl) (hs:s.taken=true) (n:Nat):(frees (ss.set k s) n).length+(if k<n then 1 else 0)=(frees ss n).length:=by
 induction n with
 | zero=>simp [frees]
 | succ n ih=>
   have h1:=at_set hk s n
   by_cases e:n=k
   · subst e
     rw [if_pos rfl] at h1
     rw [frees_no (by rw [h1]; exact hs),frees_yes ht,List.length_append,← ih]
     simp
   · rw [if_neg e] at h1
     have e2:(if k<n+1 then 1 else 0:Nat)=if k<n then 1 else 0:=by split<;>split<;>omega
     by_cases h:(at' ss n).taken=true
     · rw [frees_no (by rw [h1]; exact h),frees_no h,← ih]
       rw [e2]
     · have h:(at' ss n).taken=false:=by simpa using h
       rw [frees_yes (by rw [h1]; exact h),frees_yes h,List.length_append,List.length_append,← ih]
       rw [e2]
       simp only [List.length_cons,List.length_nil]
       omega
structure Wr (ss:List Sl) (ws left:List Nat) (B:Nat):Prop where
 room:ss.length≤1024
 nd:(ws++left).Nodup
 live:∀ x,x∈ws++left→∃ k,IsAt ss x k
 gens:∀ k,(at' ss k).gen+(ws.length+left.length)≤B
 cnt:(frees ss ss.length).length+(ws.length+left.length)=ss.length
section
variable {ss:List Sl} {ws left:List Nat} {B:Nat}
theorem Wr.small (h:Wr ss ws left B) (hB:B≤1000000) {x:Nat} (hx:x∈ws++left):x≤18446744073709551615∧∃ k,IsAt ss x k∧(at' ss k).gen≤1000000:=by
 obtain ⟨k,hk⟩:=h.live x hx
 have h1:=h.gens k
 have h2:=hk.1
 have h3:=hk.2.2
 have h4:=h.room
 exact ⟨by omega,k,hk,by omega⟩
theorem Wr.put {m:Nat} (h:Wr ss ws left B) (hm:Least ss m) (d:Nd):Wr (ss.set m ⟨true,(at' ss m).gen,d⟩) (ws++[(at' ss m).gen*65536+m+1]) left (B+1):=by
 have hlen:(ss.set m ⟨true,(at' ss m).gen,d⟩).length=ss.length:=by simp
 have hno:∀ y k,IsAt ss y k→k≠m:=by
  rintro y k hk rfl
  have:=hk.2.1
  rw [hm.2.1] at this
  simp at this
 have hnew:((at' ss m).gen*65536+m+1)∉ws++left:=fun q=>by
  obtain ⟨k,hk⟩:=h.live _ q
  have:=hk.2.2
  have h1:=hk.1
  have h2:=h.room
  have h3:=hm.1
  exact hno _ _ hk (by omega)
 refine ⟨by rw [hlen]; exact h.room,?_,fun y hy=>?_,fun j=>?_,?_⟩
 · rw [List.append_assoc]
   exact (List.perm_middle (l₁:=ws) (l₂:=left) (a:=(at' ss m).gen*65536+m+1)).nodup_iff.2 (List.nodup_cons.2 ⟨hnew,h.nd⟩)
 · have:y∈ws++left∨y=(at' ss m).gen*65536+m+1:=by
    simp only [List.mem_append,List.mem_singleton] at hy ⊢
    rcases hy with (q | q) | q
    · exact .inl (.inl q)
    · exact .inr q
    · exact .inl (.inr q)
   rcases this with q | q
   · obtain ⟨k,hk⟩:=h.live y q
     exact ⟨k,(isAt_turn hm.1 _ y k).2 (by rw [if_neg (hno y k hk)]; exact hk)⟩
   · exact ⟨m,(isAt_turn hm.1 _ y m).2 (by rw [if_pos rfl]; exact ⟨rfl,q⟩)⟩
 · have:=h.gens j
   rw [at_set hm.1,List.length_append]
   simp only [List.length_cons,List.length_nil]
   split
   · rename_i e
     subst e
     show (at' ss j).gen+_≤_
     omega
   · omega
 · have:=h.cnt
   have e:=frees_len_take hm.1 hm.2.1 ⟨true,(at' ss m).gen,d⟩ rfl ss.length
   rw [if_pos hm.1] at e
   rw [hlen,List.length_append]
   simp only [List.length_cons,List.length_nil]
   omega
end
theorem frees_rep (n:Nat):(frees (List.replicate n Sl.zero) n).length=n:=by rw [frees_zero n n (Nat.le_refl _)]; simp
theorem at_rep (n k:Nat):at' (List.replicate n Sl.zero) k=Sl.zero:=by
 simp only [at',List.getD,List.getElem?_replicate]
 split<;>rfl
theorem wr_new (n:Nat) (hn:n≤1024):Wr (List.replicate n .zero) [] [] 0:=
 ⟨by simpa using hn,by simp,fun x hx=>by simp at hx,fun k=>by rw [at_rep]; simp [Sl.zero],by simpa using frees_rep n⟩
/-! ### a drain-/
end Go.Proofs.YtkogifmjbmnpgaaGreat.Re
namespace Go.Proofs.YtkogifmjbmnpgaaGreat.Mq
open Go Hm Ar Mm Wk Pc Me Re Pn
def alls (n:Nat) (cs:Nat→List Hp):List Nat:=(List.range n).flatMap fun b=>hds (cs b)
def turn (cs:Nat→List Hp) (b0:Nat) (q:List Hp) (b:Nat):List Hp:=if b=b0 then q else cs b
theorem flatMap_same {α β:Type} {l:List α} {f g:α→List β} (h:∀ a∈l,f a=g a):l.flatMap f=l.flatMap g:=by
 induction l with
 | nil=>rfl
 | cons a t ih=>rw [List.flatMap_cons,List.flatMap_cons,h a (by simp),ih fun b hb=>h b (List.mem_cons_of_mem _ hb)]
theorem alls_perm {n b0:Nat} (h:b0<n) (cs:Nat→List Hp) (q:List Hp):(alls n (turn cs b0 q)).Perm (hds q++((List.range n).erase b0).flatMap fun b=>hds (cs b)):=by
 have h1:(List.range n).Perm (b0::(List.range n).erase b0):=List.perm_cons_erase (by simpa using h)
 have h2:=h1.flatMap_right (fun b=>hds (turn cs b0 q b))
 refine h2.trans ?_
 rw [List.flatMap_cons]
 have e1:hds (turn cs b0 q b0)=hds q:=by unfold turn; rw [if_pos rfl]
 have e2:(((List.range n).erase b0).flatMap fun b=>hds (turn cs b0 q b))=((List.range n).erase b0).flatMap fun b=>hds (cs b):=by
  apply flatMap_same
  intro b hb
  have hne:b≠b0:=(List.Nodup.mem_erase_iff List.nodup_range).1 hb |>.1
  unfold turn
  rw [if_neg hne]
 rw [e1,e2]
theorem turn_self (cs:Nat→List Hp) (b0:Nat):turn cs b0 (cs b0)=cs:=by
 funext b
 unfold turn
 split
 · rename_i e; rw [e]
 · rfl
theorem alls_self {n b0:Nat} (h:b0<n) (cs:Nat→List Hp):(alls n cs).Perm (hds (cs b0)++((List.range n).erase b0).flatMap fun b=>hds (cs b)):=by
 have:=alls_perm h cs (cs b0)
 rw [turn_self] at this
 exact this
theorem alls_mem {n b:Nat} (h:b<n) (cs:Nat→List Hp) {y:Nat} (hy:y∈hds (cs b)):y∈alls n cs:=List.mem_flatMap.2 ⟨b,by simpa using h,hy⟩
theorem _root_.Go.Proofs.YtkogifmjbmnpgaaGreat.Re.Wr.perm {ss:List Sl} {ws left ws' left':List Nat} {G:Nat} (h:Wr ss ws left G) (hp:(ws'++left').Perm (ws++left)):Wr ss ws' left' G:=by
 have hl:=hp.length_eq
 simp only [List.length_append] at hl
 exact ⟨h.room,hp.nodup_iff.2 h.nd,fun x hx=>h.live x (hp.mem_iff.1 hx),fun k=>by have:=h.gens k; omega,by have:=h.cnt; omega⟩
theorem frees_same {ss ss':List Sl} (ht:∀ k,(at' ss' k).taken=(at' ss k).taken) (n:Nat):frees ss' n=frees ss n:=by
 unfold frees
 apply List.filter_congr
 intro k _
 rw [ht]
theorem _root_.Go.Proofs.YtkogifmjbmnpgaaGreat.Re.Wr.nodes {ss ss':List Sl} {ws left:List Nat} {G:Nat} (h:Wr ss ws left G) (hl:ss'.length=ss.length) (ht:∀ k,(at' ss' k).taken=(at' ss k).taken∧(at' ss' k).gen=(at' ss k).gen):Wr ss' ws left G:=
 ⟨by rw [hl]; exact h.room,h.nd,fun x hx=>by
  obtain ⟨k,h1,h2,h3⟩:=h.live x hx
  exact ⟨k,by rw [hl]; exact h1,by rw [(ht k).1]; exact h2,by rw [(ht k).2]; exact h3⟩,fun k=>by rw [(ht k).2]; exact h.gens k,by rw [hl,frees_same fun k=>(ht k).1]; exact h.cnt⟩
structure Mp (L:Lm) (n B:Nat) (cs:Nat→List Hp) (l:List Pr) (G:Nat):Prop where
 pw:FM.power n=true
 now:Me.now L.xs L.ds=(n,B)
 tabs:Tabs L.xs L.ds
 tb:∀ i,(tab L.ds i).1≤65536∧(tab L.ds i).2≤4000000
 k:1≤L.k∧L.k≤8
 kB:2+L.k≤B
 xl:B+n≤L.xs.length
 xb:∀ x∈L.xs,0≤x∧x≤18446744073709551615
 nexts:Nexts L.ss
 ch:∀ b,b<n→Cx L.ss (Cl.nth L.xs (B+b)).toNat (cs b)
 bk:∀ b,b<n→∀ e∈cs b,FM.bucket (sm e.2.1) n=(b:Nat)
 kd:∀ b,b<n→(kys (cs b)).Nodup
 wr:Wr L.ss L.ws (alls n cs) G
 ln:(l.map (·.1)).Nodup
 lk:∀ key,Pc.lk l key=Pc.lk (prs (cs (bkt key n))) key
 len:l.length=(alls n cs).length
 zero:∀ i:Nat,(i:Int)<L.k→Cl.nth L.xs (2+i)=0
 hs:L.hs=List.replicate 6 (-1)
 F:L.F=false
section
variable {L:Lm} {n B:Nat} {cs:Nat→List Hp} {l:List Pr} {G:Nat}
theorem Mp.ad (h:Mp L n B cs l G):(alls n cs).Nodup:=(List.nodup_append.1 h.wr.nd).2.1
theorem Mp.hd (h:Mp L n B cs l G) {b:Nat} (hb:b<n):(hds (cs b)).Nodup:=by
 have:=(alls_self hb cs).nodup_iff.1 h.ad
 exact (List.nodup_append.1 this).1
theorem Mp.n_bd (h:Mp L n B cs l G):1≤n∧n≤65536:=by
 have:=FM.power_bd h.pw
 omega
theorem Mp.first (h:Mp L n B cs l G) (b:Nat):Me.first L.xs L.ds b=(Cl.nth L.xs (B+b)).toNat:=by
 unfold Me.first
 rw [h.now]
theorem Mp.chain (h:Mp L n B cs l G) {b:Nat} (hb:b<n):Chn L.xs L.ds L.ss (b:Nat) (hds (cs b)):=by
 unfold Chn
 rw [h.now,if_pos ⟨by omega,by simp only; omega⟩,Int.toNat_natCast,h.first]
 exact (h.ch b hb).ch [] (by simp) (h.hd hb)
theorem rh_alls {ss:List Sl} {f:Nat→Nat} {cs:Nat→List Hp} {n:Nat} (hc:∀ b,b<n→Cx ss (f b) (cs b)) (hn:(alls n cs).Nodup):∀ m,m≤n→Rh ss f m (alls m cs):=by
 intro m
 induction m with
 | zero=>intro _; exact .zero
 | succ m ih=>
   intro hm
   have e:alls (m+1) cs=alls m cs++hds (cs m):=by simp [alls,List.range_succ]
   have hn':(alls (m+1) cs).Nodup:=by
    have:(alls (m+1) cs).Sublist (alls n cs):=by
     obtain ⟨d,rfl⟩:=Nat.exists_eq_add_of_le hm
     unfold alls
     rw [show List.range (m+1+d)=List.range (m+1)++(List.range d).map (m+1+·) from List.range_add,List.flatMap_append]
     exact List.sublist_append_left _ _
    exact this.nodup hn
   rw [e] at hn' ⊢
   obtain ⟨h1,h2,h3⟩:=List.nodup_append.1 hn'
   exact .succ (ih (by omega)) ((hc m (by omega)).ch _ (fun y hy q=>h3 y q y hy rfl) h2)
theorem Mp.reach (h:Mp L n B cs l G):Rch L.xs L.ds L.ss (alls n cs):=by
 unfold Rch
 rw [h.now]
 refine rh_alls (n:=n) (fun b hb=>?_) h.ad n (Nat.le_refl _)
 rw [h.first]
 exact h.ch b hb
theorem Mp.turned (h:Mp L n B cs l G) {b0 G':Nat} (hb:b0<n) {q:List Hp} {ss':List Sl} {xs':List Int} {ws':List Nat} {l':List Pr}
 (hxl:xs'.length=L.xs.length) (hx:∀ j,j≠B+b0→Cl.nth xs' j=Cl.nth L.xs j) (hxb:∀ x∈xs',0≤x∧x≤18446744073709551615) (hN:Nexts ss')
 (hc:Cx ss' (Cl.nth xs' (B+b0)).toNat q) (ho:∀ b,b<n→b≠b0→Cx ss' (Cl.nth L.xs (B+b)).toNat (cs b)) (hbk:∀ e∈q,FM.bucket (sm e.2.1) n=(b0:Nat)) (hkd:(kys q).Nodup)
 (hw:Wr ss' ws' (alls n (turn cs b0 q)) G') (hln:(l'.map (·.1)).Nodup) (hl1:∀ key,bkt key n≠b0→Pc.lk l' key=Pc.lk l key) (hl2:∀ key,bkt key n=b0→Pc.lk l' key=Pc.lk (prs q) key) (hll:l'.length=(alls n (turn cs b0 q)).length):
 Mp {L with xs:=xs',ss:=ss',ws:=ws'} n B (turn cs b0 q) l' G':=by
 have hk:=h.kB
 have hk1:=h.k
 refine ⟨h.pw,?_,?_,h.tb,h.k,h.kB,by show B+n≤xs'.length; rw [hxl]; exact h.xl,hxb,hN,fun b hb'=>?_,fun b hb' e he=>?_,fun b hb'=>?_,hw,hln,fun key=>?_,hll,fun i hi=>?_,h.hs,h.F⟩
 · have:=h.now
   unfold Me.now at this ⊢
   show tab L.ds (Cl.nth xs' 1).toNat=_
   rw [hx 1 (by omega)]
   exact this
 · intro i hi
   have:=h.tabs i hi
   show _∧_∧_≤xs'.length
   rw [hxl]
   exact this
 · show Cx ss' (Cl.nth xs' (B+b)).toNat (turn cs b0 q b)
   unfold turn
   split
   · rename_i e; rw [e]; exact hc
   · rename_i e
     rw [hx _ (by omega)]
     exact ho b hb' e
 · unfold turn at he
   split at he
   · rename_i e'; rw [e']; exact hbk e he
   · exact h.bk b hb' e he
 · unfold turn
   split
   · exact hkd
   · exact h.kd b hb'
 · unfold turn
   split
   · rename_i e; exact hl2 key e
   · rename_i e
     rw [hl1 key e]
     exact h.lk key
 · have hi:(i:Int)<L.k:=hi
   show Cl.nth xs' (2+i)=0
   rw [hx _ (by omega)]
   exact h.zero i hi
end
theorem lk_swap {a t:List Pr} {p p':Pr} {k:ByteArray} (h:p.1≠k) (h':p'.1≠k):lk (a++p::t) k=lk (a++p'::t) k:=by
 induction a with
 | nil=>simp [lk,h,h']
 | cons e r ih=>
   rw [List.cons_append,List.cons_append]
   simp only [lk]
   rw [ih]
theorem keep_set {ss:List Sl} {m:Nat} (hm:Least ss m) (s:Sl) {y k:Nat} (hk:IsAt ss y k):IsAt (ss.set m s) y k∧at' (ss.set m s) k=at' ss k∧k≠m:=by
 have hne:k≠m:=by
  rintro rfl
  have:=hk.2.1
  rw [hm.2.1] at this
  simp at this
 refine ⟨(isAt_turn hm.1 _ _ _).2 (by rw [if_neg hne]; exact hk),?_,hne⟩
 rw [at_set hm.1,if_neg hne]
end Go.Proofs.YtkogifmjbmnpgaaGreat.Mq
namespace Go.Proofs.YtkogifmjbmnpgaaGreat.Mq
open Go Go.RowKit Hp K Fl Rw Hm Ar Mm Me Wk Ta Pn Pc Pu Re
theorem kys_prs (q:List Mq.Hp):(prs q).map (·.1)=kys q:=by rw [List.map_map]; rfl
section
variable {L:Lm} {n B:Nat} {cs:Nat→List Mq.Hp} {l:List Pr} {G:Nat} {key val:ByteArray} {i:Int} {hb:Nat}
theorem Mp.small (h:Mp L n B cs l G):L.ws.length+(alls n cs).length≤1024∧L.ss.length≤1024:=by
 have:=h.wr.cnt
 have:=h.wr.room
 omega
theorem Mp.ql (h:Mp L n B cs l G) {b:Nat} (hb:b<n):(cs b).length≤(alls n cs).length:=by
 have:=(alls_self hb cs).length_eq
 simp only [List.length_append,List.length_map] at this
 omega
abbrev Mp.ep (L:Lm) (n B:Nat) (cs:Nat→List Mq.Hp) (key val:ByteArray) (i:Int) (hb:Nat):Ep:=⟨L,key,val,i,hb,(n,B),B+bkt key n,cs (bkt key n)⟩
theorem Mp.eok (h:Mp L n B cs l G) (hG:G≤1000000) (hi:0≤i∧i≤1000):(Mp.ep L n B cs key val i hb).Ok:=by
 have hsm:=h.small
 obtain ⟨hb1,hb2⟩:=bkt_lt h.pw key
 have hql:=h.ql hb1
 have hnb:=h.n_bd
 have hkB:=h.kB
 have hk:=h.k
 have hxl:=h.xl
 refine ⟨hsm.2,h.nexts,h.tb,hi,h.xb,h.hs,h.now,by show n≠0; omega,?_,by show B+bkt key n<L.xs.length; omega,by show 1<L.xs.length; omega,h.ch _ hb1,fun k=>by have:=h.wr.gens k; show (at' L.ss k).gen≤_; omega,by show L.ws.length≤_; omega,by show (cs _).length≤_; omega⟩
 show ((B+bkt key n:Nat):Int)=(B:Int)+FM.bucket (sm key) n
 rw [hb2]
 omega
theorem fnd_lk (h:Mp L n B cs l G) {W:Wa} (hf:Fnd (Mp.ep L n B cs key val i hb) W):decide (W.found≠0)=(Pc.lk l key).isSome:=by
 rw [h.lk]
 rcases hf with ⟨h0,hk,_⟩ | ⟨pre,x,p,t,z,k,hq,hp,hx,hk,hnd,hW,hc,hpv⟩
 · have:Pc.lk (prs (cs (bkt key n))) key=none:=lk_none.2 (by simpa using hk)
   rw [this,h0]
   rfl
 · have hm:p∈prs (cs (bkt key n)):=by
    have hq:cs (bkt key n)=_:=hq
    rw [hq]
    simp
   have hp:p.1=key:=hp
   have hn:((prs (cs (bkt key n))).map (·.1)).Nodup:=by
    rw [kys_prs]
    exact h.kd _ (bkt_lt h.pw key).1
   have:=lk_mem hn hm
   rw [hp] at this
   rw [this,hx]
   simp [hk.pos]
theorem put_map (h:Mp L n B cs l G) (hG:G≤1000000) (hi:0≤i∧i≤1000) {s:Lm×Pt} (hq:Qp (Mp.ep L n B cs key val i hb) s):
 decide (s.2.W.found≠0)=(Pc.lk l key).isSome∧s.2.mine=0∧
  ((freePl L.ss=none∧s.1=L∧s.2.err=4)∨((freePl L.ss).isSome∧s.2.err=0∧s.1.ws.length=L.ws.length+(if (Pc.lk l key).isSome then 1 else 0)∧s.1.ss.length=L.ss.length∧s.1.k=L.k∧∃ cs',∀ l',Upd l l' key val→Mp s.1 n B cs' l' (G+1))):=by
 have hE:=h.eok (key:=key) (val:=val) (i:=i) (hb:=hb) hG hi
 cases hq with
 | full W hf hfr=>exact ⟨fnd_lk h hf,rfl,.inl ⟨hfr,rfl,rfl⟩⟩
 | done W m hf hm=>
   have hlk:=fnd_lk h hf
   refine ⟨hlk,rfl,.inr ⟨by show (freePl L.ss).isSome; rw [freePl_some.2 hm]; rfl,rfl,?_,?_,(putL_hs _ W m).2.2.2.2,?_⟩⟩
   · show (putW (Mp.ep L n B cs key val i hb) W).length=_
     unfold putW
     rw [← hlk]
     by_cases h0:W.found≠0
     · rw [if_pos h0,if_pos (by simpa using h0)]; simp
     · rw [if_neg h0,if_neg (by simpa using h0)]
       rfl
   · show (putL _ W m).ss.length=_
     unfold putL lnk Ep.ss
     split<;>simp
   obtain ⟨hb1,hb2⟩:=bkt_lt h.pw key
   obtain ⟨b0,hb0⟩:∃ b0,b0=bkt key n:=⟨_,rfl⟩
   have hml:m<L.ss.length:=hm.1
   have hxl:=h.xl
   have hN:=hE.nexts_ss hf hm
   have hnb:=hE.new_bd hm
   have hs:∀ (y k:Nat),IsAt L.ss y k→IsAt (Ep.ss (Mp.ep L n B cs key val i hb) W m) y k∧at' (Ep.ss (Mp.ep L n B cs key val i hb) W m) k=at' L.ss k∧k≠m:=fun y k hk=>keep_set hm _ hk
   have hnew:IsAt (Ep.ss (Mp.ep L n B cs key val i hb) W m) (Ep.new (Mp.ep L n B cs key val i hb) m) m:=(isAt_turn hml _ _ _).2 (by rw [if_pos rfl]; exact ⟨rfl,rfl⟩)
   have hnd:(at' (Ep.ss (Mp.ep L n B cs key val i hb) W m) m).nd=⟨key,val,sm key,fol W⟩:=by
    show (at' (L.ss.set m _) m).nd=_
    rw [at_set hml,if_pos rfl]
   have hwr:=h.wr.put hm ⟨key,val,sm key,fol W⟩
   have hupd1:∀ {l':List Pr},Upd l l' key val→∀ key',bkt key' n≠b0→Pc.lk l' key'=Pc.lk l key':=fun hu key' hne=>by
    rw [hu.lk,if_neg (by rintro rfl; exact hne hb0.symm)]
   have hch:=h.ch b0 (by rw [hb0]; exact hb1)
   have hxb':∀ x∈L.xs.set (B+b0) ((Ep.new (Mp.ep L n B cs key val i hb) m:Nat):Int),0≤x∧x≤18446744073709551615:=by
    intro x hx
    rcases List.mem_or_eq_of_mem_set hx with q | rfl
    · exact h.xb x q
    · exact ⟨by omega,by omega⟩
   have hxset:Cl.nth (L.xs.set (B+b0) ((Ep.new (Mp.ep L n B cs key val i hb) m:Nat):Int)) (B+b0)=((Ep.new (Mp.ep L n B cs key val i hb) m:Nat):Int):=by
    rw [nth_set _ _ _ (by omega),if_pos rfl]
   have hkeep:∀ b,b<n→b≠b0→Cx (Ep.ss (Mp.ep L n B cs key val i hb) W m) (Cl.nth L.xs (B+b)).toNat (cs b):=fun b hb' _=>(h.ch b hb').keep fun y _ k hk=>⟨(hs y k hk).1,by rw [(hs y k hk).2.1]⟩
   have hap:=alls_self (n:=n) (b0:=b0) (by omega) cs
   have hkq:=h.kd b0 (by omega)
   have hbq:=h.bk b0 (by omega)
   have hlq:∀ key',bkt key' n=b0→Pc.lk l key'=Pc.lk (prs (cs b0)) key':=fun key' e=>by rw [h.lk,e]
   rcases hf with ⟨h0,hk,hfw⟩ | ⟨pre,x,p,t,z,k,hq,hp,hx,hk,hndx,hW,hc,hpv⟩
   ·
    have hk:key∉kys (cs b0):=by rw [hb0]; exact hk
    have hfol:fol W=(((Cl.nth L.xs (B+b0)).toNat:Nat):Int):=by
     unfold fol
     rw [if_neg (by omega),hfw,hb0]
    have e:({putL (Mp.ep L n B cs key val i hb) W m with ws:=putW (Mp.ep L n B cs key val i hb) W}:Lm)={L with xs:=L.xs.set (B+b0) ((Ep.new (Mp.ep L n B cs key val i hb) m:Nat):Int),ss:=Ep.ss (Mp.ep L n B cs key val i hb) W m,ws:=L.ws}:=by
     unfold putL putW
     rw [if_neg (by omega),if_neg (by omega),hb0]
    simp only [e]
    refine ⟨turn cs b0 ((Ep.new (Mp.ep L n B cs key val i hb) m,(key,val))::cs b0),fun l' hu=>?_⟩
    have hpa:=alls_perm (n:=n) (b0:=b0) (by omega) cs ((Ep.new (Mp.ep L n B cs key val i hb) m,(key,val))::cs b0)
    have hpb:(alls n (turn cs b0 ((Ep.new (Mp.ep L n B cs key val i hb) m,(key,val))::cs b0))).Perm (Ep.new (Mp.ep L n B cs key val i hb) m::alls n cs):=hpa.trans (List.Perm.cons _ hap.symm)
    have hl0:Pc.lk l key=none:=by
     rw [hlq key hb0.symm]
     exact lk_none.2 (by simpa using hk)
    refine h.turned (by omega) (by simp) (fun j hj=>?_) hxb' hN ?_ hkeep ?_ ?_ ?_ hu.nd (hupd1 hu) (fun key' e'=>?_) ?_
    · rw [nth_set _ _ _ (by omega),if_neg hj]
    · rw [hxset,Int.toNat_natCast]
      refine .cons hnew (z:=(Cl.nth L.xs (B+b0)).toNat) ?_ (hch.keep fun y _ k hk=>⟨(hs y k hk).1,by rw [(hs y k hk).2.1]⟩)
      rw [hnd,hfol]
      rfl
    · intro e he
      rcases List.mem_cons.1 he with rfl | he
      · rw [hb0]; exact hb2
      · exact hbq e he
    · exact List.nodup_cons.2 ⟨hk,hkq⟩
    · refine hwr.perm ?_
      refine (List.Perm.append_left L.ws hpb).trans ?_
      rw [List.append_assoc]
      exact List.Perm.refl _
    · rw [hu.lk]
      show _=Pc.lk ((key,val)::prs (cs b0)) key'
      simp only [Pc.lk]
      by_cases hkk:key'=key
      · rw [if_pos hkk,if_pos hkk.symm]
      · rw [if_neg hkk,if_neg (fun q=>hkk q.symm)]
        exact hlq key' e'
    · rw [hu.len,hl0,hpb.length_eq,List.length_cons,h.len]
      rfl
   ·
    have hq:cs b0=pre++(x,p)::t:=by rw [hb0]; exact hq
    have hp:p.1=key:=hp
    have hx0:W.found≠0:=by rw [hx]; exact hk.pos
    have hfol:fol W=((z:Nat):Int):=by
     unfold fol
     rw [if_pos hx0,hW]
     rfl
    have hl0:(Pc.lk l key).isSome=true:=by rw [← hlk]; simpa using hx0
    have hkys:kys (pre++((Ep.new (Mp.ep L n B cs key val i hb) m,(key,val)):Mq.Hp)::t)=kys (cs b0):=by rw [hq]; simp [hp]
    have hpa:=alls_perm (n:=n) (b0:=b0) (by omega) cs (pre++((Ep.new (Mp.ep L n B cs key val i hb) m,(key,val)):Mq.Hp)::t)
    have hpb:(x::alls n (turn cs b0 (pre++((Ep.new (Mp.ep L n B cs key val i hb) m,(key,val)):Mq.Hp)::t))).Perm (Ep.new (Mp.ep L n B cs key val i hb) m::alls n cs):=by
     refine (List.Perm.cons x hpa).trans ?_
     refine List.Perm.trans ?_ (List.Perm.cons _ hap.symm)
     rw [hq]
     simp only [hds,List.map_append,List.map_cons,List.append_assoc,List.cons_append]
     refine (List.Perm.cons x List.perm_middle).trans ?_
     refine (List.Perm.swap _ _ _).trans ?_
     exact List.Perm.cons _ List.perm_middle.symm
    have hacc:∀ {ss':List Sl},Wr ss' (L.ws++[Ep.new (Mp.ep L n B cs key val i hb) m]) (alls n cs) (G+1)→Wr ss' (L.ws++[W.found]) (alls n (turn cs b0 (pre++((Ep.new (Mp.ep L n B cs key val i hb) m,(key,val)):Mq.Hp)::t))) (G+1):=fun hw=>by
     refine hw.perm ?_
     rw [hx,List.append_assoc,List.append_assoc]
     exact List.Perm.append_left _ hpb
    have hlen:∀ {l':List Pr},Upd l l' key val→l'.length=(alls n (turn cs b0 (pre++((Ep.new (Mp.ep L n B cs key val i hb) m,(key,val)):Mq.Hp)::t))).length:=fun hu=>by
     have:=hpb.length_eq
     simp only [List.length_cons] at this
     rw [hu.len,if_pos hl0,h.len]
     omega
    have hlk2:∀ {l':List Pr},Upd l l' key val→∀ key',bkt key' n=b0→Pc.lk l' key'=Pc.lk (prs (pre++((Ep.new (Mp.ep L n B cs key val i hb) m,(key,val)):Mq.Hp)::t)) key':=fun hu key' e'=>by
     rw [hu.lk]
     by_cases hkk:key'=key
     · rw [if_pos hkk,hkk]
       refine (lk_mem (p:=(key,val)) ?_ ?_).symm
       · rw [kys_prs,hkys]; exact hkq
       · simp
     · rw [if_neg hkk,hlq key' e',hq]
       simp only [prs,List.map_append,List.map_cons]
       exact lk_swap (by rw [hp]; exact fun q=>hkk q.symm) (fun q=>hkk q.symm)
    have hbk':∀ e∈pre++((Ep.new (Mp.ep L n B cs key val i hb) m,(key,val)):Mq.Hp)::t,FM.bucket (sm e.2.1) n=(b0:Nat):=by
     intro e he
     rcases List.mem_append.1 he with he | he
     · exact hbq e (by rw [hq]; exact List.mem_append_left _ he)
     · rcases List.mem_cons.1 he with rfl | he
       · rw [hb0]; exact hb2
       · exact hbq e (by rw [hq]; exact List.mem_append_right _ (List.mem_cons_of_mem _ he))
    have hct:Cx (Ep.ss (Mp.ep L n B cs key val i hb) W m) z t:=hc.keep fun y _ k hk=>⟨(hs y k hk).1,by rw [(hs y k hk).2.1]⟩
    have hndz:(at' (Ep.ss (Mp.ep L n B cs key val i hb) W m) m).nd=ndp (key,val) z:=by rw [hnd,hfol]; rfl
    by_cases hpre:pre=[]
    ·
     subst hpre
     have hpv0:W.prev=0:=hpv
     have e:({putL (Mp.ep L n B cs key val i hb) W m with ws:=putW (Mp.ep L n B cs key val i hb) W}:Lm)={L with xs:=L.xs.set (B+b0) ((Ep.new (Mp.ep L n B cs key val i hb) m:Nat):Int),ss:=Ep.ss (Mp.ep L n B cs key val i hb) W m,ws:=L.ws++[W.found]}:=by
      unfold putL putW
      rw [if_neg (by omega),if_pos hx0,hb0]
     simp only [e]
     refine ⟨turn cs b0 ([]++((Ep.new (Mp.ep L n B cs key val i hb) m,(key,val)):Mq.Hp)::t),fun l' hu=>?_⟩
     refine h.turned (by omega) (by simp) (fun j hj=>?_) hxb' hN ?_ hkeep hbk' (by rw [hkys]; exact hkq) (hacc hwr) hu.nd (hupd1 hu) (hlk2 hu) (hlen hu)
     · rw [nth_set _ _ _ (by omega),if_neg hj]
     · rw [hxset,Int.toNat_natCast]
       exact .cons hnew hndz hct
    ·
     have hpv0:W.prev≠0:=by
      rw [hpv]
      exact lastH_ne (ss:=L.ss) (by have:=hch; rw [hq] at this; exact this) hpre
     obtain ⟨p0,e0,rfl⟩:∃ p0 e,pre=p0++[e]:=⟨pre.dropLast,pre.getLast hpre,(List.dropLast_concat_getLast hpre).symm⟩
     rw [lastH_snoc] at hpv
     rw [hq] at hch
     obtain ⟨j,zj,hj,hndj⟩:=hch.at e0 (by simp)
     have hjs:=hs _ _ hj
     have hroom:=h.small.2
     have hjp:(W.prev-1) % 65536=j:=by rw [hpv]; exact (isAt_parts hroom hj).1
     have hjl:j<(Ep.ss (Mp.ep L n B cs key val i hb) W m).length:=hjs.1.1
     have e:({putL (Mp.ep L n B cs key val i hb) W m with ws:=putW (Mp.ep L n B cs key val i hb) W}:Lm)={L with xs:=L.xs,ss:=lnk (Ep.ss (Mp.ep L n B cs key val i hb) W m) W.prev (Ep.new (Mp.ep L n B cs key val i hb) m),ws:=L.ws++[W.found]}:=by
      unfold putL putW
      rw [if_pos ⟨hx0,hpv0⟩,if_pos hx0]
     simp only [e]
     have hat:∀ kk,at' (lnk (Ep.ss (Mp.ep L n B cs key val i hb) W m) W.prev (Ep.new (Mp.ep L n B cs key val i hb) m)) kk=if kk=j then {at' (Ep.ss (Mp.ep L n B cs key val i hb) W m) j with nd:={(at' (Ep.ss (Mp.ep L n B cs key val i hb) W m) j).nd with next:=((Ep.new (Mp.ep L n B cs key val i hb) m:Nat):Int)}} else at' (Ep.ss (Mp.ep L n B cs key val i hb) W m) kk:=fun kk=>by
      unfold lnk
      rw [hjp,at_set hjl]
     have hat2:∀ kk,(at' (lnk (Ep.ss (Mp.ep L n B cs key val i hb) W m) W.prev (Ep.new (Mp.ep L n B cs key val i hb) m)) kk).taken=(at' (Ep.ss (Mp.ep L n B cs key val i hb) W m) kk).taken∧(at' (lnk (Ep.ss (Mp.ep L n B cs key val i hb) W m) W.prev (Ep.new (Mp.ep L n B cs key val i hb) m)) kk).gen=(at' (Ep.ss (Mp.ep L n B cs key val i hb) W m) kk).gen:=fun kk=>by
      rw [hat]
      split
      · rename_i e; subst e; exact ⟨rfl,rfl⟩
      · exact ⟨rfl,rfl⟩
     have hll:(lnk (Ep.ss (Mp.ep L n B cs key val i hb) W m) W.prev (Ep.new (Mp.ep L n B cs key val i hb) m)).length=(Ep.ss (Mp.ep L n B cs key val i hb) W m).length:=by unfold lnk; simp
     have hlive:∀ {y kk:Nat},IsAt (Ep.ss (Mp.ep L n B cs key val i hb) W m) y kk→IsAt (lnk (Ep.ss (Mp.ep L n B cs key val i hb) W m) W.prev (Ep.new (Mp.ep L n B cs key val i hb) m)) y kk:=fun {y kk} q=>⟨by rw [hll]; exact q.1,by rw [(hat2 kk).1]; exact q.2.1,by rw [(hat2 kk).2]; exact q.2.2⟩
     have hadn:=h.ad
     have hperm:=hap
     rw [hq] at hperm
     have hnodup:=hperm.nodup_iff.1 hadn
     have hne:∀ y kk,IsAt L.ss y kk→y≠e0.1→kk≠j:=by
      rintro y kk q1 q2 rfl
      exact q2 (by rw [q1.2.2,hj.2.2])
     have hkp:∀ y kk,IsAt L.ss y kk→y≠e0.1→IsAt (lnk (Ep.ss (Mp.ep L n B cs key val i hb) W m) W.prev (Ep.new (Mp.ep L n B cs key val i hb) m)) y kk∧(at' (lnk (Ep.ss (Mp.ep L n B cs key val i hb) W m) W.prev (Ep.new (Mp.ep L n B cs key val i hb) m)) kk).nd=(at' L.ss kk).nd:=fun y kk q1 q2=>by
      have h1:=hs y kk q1
      refine ⟨hlive h1.1,?_⟩
      rw [hat,if_neg (hne y kk q1 q2),h1.2.1]
     have hN2:Nexts (lnk (Ep.ss (Mp.ep L n B cs key val i hb) W m) W.prev (Ep.new (Mp.ep L n B cs key val i hb) m)):=nexts_lnk hN _ _ hnb
     refine ⟨turn cs b0 (p0++[e0]++((Ep.new (Mp.ep L n B cs key val i hb) m,(key,val)):Mq.Hp)::t),fun l' hu=>?_⟩
     have hn1:(hds (p0++[e0]++(x,p)::t)).Nodup:=(List.nodup_append.1 hnodup).1
     have hn2:∀ y∈hds p0,y≠e0.1:=by
      intro y hy q
      have:(hds p0++(e0.1::hds ((x,p)::t))).Nodup:=by simpa using hn1
      exact (List.nodup_append.1 this).2.2 y hy e0.1 (by simp) q
     have hn3:∀ y∈hds t,y≠e0.1:=by
      intro y hy q
      have:(hds p0++(e0.1::hds ((x,p)::t))).Nodup:=by simpa using hn1
      have:=(List.nodup_cons.1 (List.nodup_append.1 this).2.1).1
      exact this (by rw [← q]; exact List.mem_cons_of_mem _ hy)
     refine h.turned (by omega) rfl (fun j hj=>rfl) h.xb hN2 ?_ ?_ hbk' (by rw [hkys]; exact hkq) (hacc (hwr.nodes hll hat2)) hu.nd (hupd1 hu) (hlk2 hu) (hlen hu)
     · have hsw:Cx (lnk (Ep.ss (Mp.ep L n B cs key val i hb) W m) W.prev (Ep.new (Mp.ep L n B cs key val i hb) m)) (Cl.nth L.xs (B+b0)).toNat (p0++e0::(Ep.new (Mp.ep L n B cs key val i hb) m,(key,val))::t):=by
        refine Cx.swap (ss:=L.ss) (m:=m) (kp:=j) (z:=z) (e:=e0) (e':=(x,p)) (hlive hnew) ?_ ?_ p0 _ (by simpa using hch) hj (hlive hjs.1) ?_ (fun y hy kk q=>hkp y kk q (hn2 y hy))
        · rw [hat,if_neg (by have:=hjs.2.2; omega)]
          exact hndz
        · exact hc.keep fun y hy kk q=>hkp y kk q (hn3 y hy)
        · rw [hat,if_pos rfl]
          have hndj':(at' (Ep.ss (Mp.ep L n B cs key val i hb) W m) j).nd=ndp e0.2 zj:=by rw [hjs.2.1]; exact hndj
          simp only [hndj']
          rfl
       simpa using hsw
     · intro b hb' hbb
       refine (h.ch b hb').keep fun y hy kk q=>hkp y kk q ?_
       rintro rfl
       have hy2:e0.1∈((List.range n).erase b0).flatMap fun b=>hds (cs b):=List.mem_flatMap.2 ⟨b,(List.mem_erase_of_ne hbb).2 (by simpa using hb'),hy⟩
       exact (List.nodup_append.1 hnodup).2.2 e0.1 (by simp) e0.1 hy2 rfl
end
end Go.Proofs.YtkogifmjbmnpgaaGreat.Mq
namespace Go.Proofs.YtkogifmjbmnpgaaGreat.LawEl
open Go Go.RowKit Hp K Fl Rw Hm Ar Mm Me LK Wk Pc LawTen Pn Mq LawFnv
set_option maxRecDepth 100000
theorem alls_succ (cs:Nat→List Mq.Hp) (b:Nat):alls (b+1) cs=alls b cs++hds (cs b):=by simp [alls,List.range_succ]
section
variable {w:World} {M:Mo} {n B:Nat} {cs:Nat→List Mq.Hp} {l:List Pr} {G:Nat}
structure Says (M:Mo) (n:Nat) (l:List Pr) (b:Nat) (x:Nat) (p:Pr) (k z:Nat):Prop where
 big:x≤18446744073709551615
 at_:IsAt M.ss x k
 nd:(at' M.ss k).nd=ndp p z
 zb:z≤18446744073709551615
 lk:lk l p.1=some p.2
 bk:FM.bucket (sm p.1) n=(b:Nat)
 sz:p.1.size≤140737488355328
theorem says_of (h:Mp (lm M) n B cs l G) (hG:G≤1000000) {A:Option Addr} (hP:PairsAt w A l) {b j:Nat} (hb:b<n) (hj:j<(hds (cs b)).length):∃ p k z,Says M n l b (Hm.nth (hds (cs b)) j) p k z:=by
 have hj':j<(cs b).length:=by simpa using hj
 have hmem:(cs b)[j]∈cs b:=List.getElem_mem hj'
 have hx:Hm.nth (hds (cs b)) j=(cs b)[j].1:=by rw [nth_get hj]; simp
 obtain ⟨k,z,hk,hnd⟩:=(h.ch b hb).at _ hmem
 have hal:(cs b)[j].1∈alls n cs:=alls_mem hb cs (List.mem_map_of_mem hmem)
 have hbk:=h.bk b hb _ hmem
 have hkn:bkt (cs b)[j].2.1 n=b:=by
  unfold bkt
  rw [hbk,Int.toNat_natCast]
 have hlk:Pc.lk l (cs b)[j].2.1=some (cs b)[j].2.2:=by
  rw [h.lk,hkn]
  refine lk_mem ?_ (List.mem_map_of_mem hmem)
  rw [kys_prs]
  exact h.kd b hb
 obtain ⟨i,hi,hpi⟩:=List.getElem_of_mem (lk_some_mem hlk)
 obtain ⟨_,_,_,_,_,_,s0,_⟩:=hP i hi
 have hpp:pat l i=((cs b)[j].2.1,(cs b)[j].2.2):=by simp [pat,List.getD,hi,hpi]
 rw [hpp] at s0
 refine ⟨(cs b)[j].2,k,z,?_,?_,hnd,?_,hlk,hbk,s0⟩
 · show Hm.nth _ _≤_
   rw [hx]
   exact (h.wr.small hG (List.mem_append_right _ hal)).1
 · show IsAt _ (Hm.nth _ _) _
   rw [hx]; exact hk
 · have:=(h.nexts k).2
   have hnd':(at' (lm M).ss k).nd=ndp (cs b)[j].2 z:=hnd
   rw [hnd'] at this
   unfold ndp at this
   simp only at this
   omega
def HInv (w wr:World) (db n B:Nat):Prop:=Below w.heap.size w wr∧Blk wr db 51 #[.int .i64 n,.int .i64 B]
set_option maxHeartbeats 4000000 in
theorem holds_any (hM:MemAt w M) (h:Mp (lm M) n B cs l G) (hG:G≤1000000) (A:Option Addr) (cap:Nat) (hl:l.length≤1000000) (hP:PairsAt w A l):
 Calls Tryz.prog 17 #[ptr M.m,.slice A l.length cap] w fun e w'=>e=.returned (.bool true)∧Below w.heap.size w w':=by
 have hsm:=h.small
 have hsm1:M.ws.length+(alls n cs).length≤1024:=hsm.1
 have hsm2:M.ss.length≤1024:=hsm.2
 have hnb:=h.n_bd
 have hxl:B+n≤M.xs.length:=h.xl
 have hkB:2+M.k≤B:=h.kB
 have hk8:1≤M.k∧M.k≤8:=h.k
 have hNw:=now_any hM (by omega)
 have hnw:Me.now M.xs M.ds=(n,B):=h.now
 rw [hnw] at hNw
 unfold dv at hNw
 have hCh:=Lib.hid (fun wr (hb:Below w.heap.size w wr) b (hbn:b<n)=>chain_any (hM.below hb) h.tabs (by omega) h.nexts hsm2 (b:Int) (by omega) (by omega) _ (h.chain hbn))
 have hRc:=Lib.hid (fun wr (hb:Below w.heap.size w wr)=>reach_any (hM.below hb) h.tabs (by omega) h.nexts hsm2 _ h.reach)
 have hLv:=Lib.hid (fun wr (hb:Below w.heap.size w wr) (x k:Nat) (hx:x≤18446744073709551615) (hk:IsAt M.ss x k)=>live_ok (hM.below hb).2.2.2.1 hx hk)
 have hRd:=Lib.hid (fun wr (hb:Below w.heap.size w wr) (x k:Nat) (hx:x≤18446744073709551615) (hk:IsAt M.ss x k)=>read_ok (hM.below hb).2.2.2.1 hx hk)
 have m2:=Lib.hid (fun wr (hb:Below w.heap.size w wr)=>(hM.below hb).hd.2.2.1)
 have hGt:=Lib.hid (fun wr (hb:Below w.heap.size w wr) key=>ref_any wr l A cap (by simp only [maxLen]; omega) (hP.below hb) key)
 have hSy:=Lib.hid (fun b j (hb:b<n) (hj:j<(hds (cs b)).length)=>says_of h hG hP hb hj)
 have hll:l.length=(alls n cs).length:=h.len
 have hle:∀ b,b≤n→(alls b cs).length≤(alls n cs).length:=fun b hb=>by
  obtain ⟨d,rfl⟩:=Nat.exists_eq_add_of_le hb
  unfold alls
  rw [List.range_add,List.flatMap_append,List.length_append]
  omega
 have hsc:∀ b,(alls (b+1) cs).length=(alls b cs).length+(hds (cs b)).length:=fun b=>by rw [alls_succ,List.length_append]
 have hlm:=hM.1.lt
 have h00:(alls 0 cs).length=0:=rfl
 obtain ⟨cnt,hcnt⟩:∃ cnt:Nat→Nat,cnt=fun b=>(alls b cs).length:=⟨_,rfl⟩
 have hcn:∀ b,(alls b cs).length=cnt b:=fun b=>by rw [hcnt]
 simp only [hcn] at hll hle hsc hsm1 h00
 replace hcn:=Lib.hid hcn
 replace hle:=Lib.hid hle
 replace hsc:=Lib.hid hsc
 generalize hln:l.length=len at*
 replace hll:=Lib.hid hll
 replace hln:=Lib.hid hln
 replace hNw:=Lib.hid hNw
 replace h00:=Lib.hid h00
 clear hM h hP hnw hcnt hsm
 go_enter Tryz.func17,Tryz.ntmps17
 go_wp2_with fail
 refine hNw.out.mono ?_
 rintro e w1 ⟨rfl,hB1⟩
 obtain ⟨w2,hw2⟩:∃ w2,w2=w1.alloc (.cells #[.int .i64 n,.int .i64 B] 51):=⟨_,rfl⟩
 have hD2:Blk w2 w1.heap.size 51 #[.int .i64 n,.int .i64 B]:=by rw [hw2]; exact Blk.made w1 _ _
 have hB2:Below w.heap.size w w2:=by rw [hw2]; exact hB1.alloc hB1.size _
 have hdb:=hB1.size
 go_upto_region 3 with (fail)
 rw [← hw2]
 clear hw2 hNw hB1
 generalize w1.heap.size=db at*
 have d0:=hD2.cell 0
 simp at d0
 have H0:=Lib.hid (And.intro hB2 hD2)
 clear hB2 hD2
 replace hlm:=Lib.hid hlm
 replace hsm1:=Lib.hid hsm1
 go_wp2_with fail
 go_loopw [5,18] (fun c i wr=>∃ b:Nat,b≤n∧i=.int .i64 b∧c=.int .i64 (cnt b)∧HInv w wr db n B) (fun _ i _=>n-(intOf i).toNat)
 case atStart=>exact ⟨0,Nat.zero_le _,rfl,by rw [h00.out]; rfl,H0.out⟩
 case round=>
  obtain ⟨b,hb,rfl,rfl,hB,hD⟩:=hrel
  clear H0 d0
  by_cases hlt:b<n
  · have hC:=Lib.hid (hCh.out wr hB b hlt)
    have hlb:=hle.out (b+1) (by omega)
    have hs1:=hsc.out b
    have hlb0:=hle.out b hb
    have hsm:=hsm1.out
    generalize hts:hds (cs b)=ts at*
    generalize htl:ts.length=tl at*
    have hcs:cnt b+tl≤1024:=by omega
    replace hs1:=Lib.hid hs1
    replace htl:=Lib.hid htl
    replace hts:=Lib.hid hts
    replace hB:=Lib.hid hB
    replace hD:=Lib.hid hD
    generalize hcb:cnt b=c0 at*
    replace hcb:=Lib.hid hcb
    clear hlb hlb0 hsm
    go_wp2_with fail
    refine hC.out.mono ?_
    rintro e w3 ⟨Ac,capc,rfl,hR,hBc,hin⟩
    rw [htl.out]
    have hB3:=hB.out.trans (hBc.mono hB.out.size)
    have hD3:=hD.out.only (Only.ofBelow hBc (fun _=>False)) (by simp)
    have H1:Hid (HInv w w3 db n B∧Hnds w3 Ac capc ts):=Lib.hid ⟨⟨hB3,hD3⟩,hR⟩
    have hrl:=row_len hR
    rw [htl.out] at hrl
    clear hC hR hBc hin hB3 hD3 hB hD
    go_wp2_with fail
    go_loopw [5,25] (fun c i wr=>∃ j:Nat,j≤tl∧i=.int .i64 j∧c=.int .i64 (c0+j:Nat)∧HInv w wr db n B∧Hnds wr Ac capc ts) (fun _ i _=>tl-(intOf i).toNat)
    case atStart=>exact ⟨0,Nat.zero_le _,rfl,rfl,H1.out⟩
    case round=>
     obtain ⟨j,hj,rfl,rfl,⟨hB,hD⟩,hR⟩:=hrel
     clear H1
     by_cases hlt2:j<tl
     · obtain ⟨bl,rfl,hbl,hc9,_⟩:=hnds_at hR j (by rw [htl.out]; exact hlt2)
       have hS:=hSy.out b j hlt (by rw [hts.out,htl.out]; exact hlt2)
       rw [hts.out] at hS
       obtain ⟨⟨pk,pv⟩,k,z,hS⟩:=hS
       generalize Hm.nth ts j=x at*
       have hL:=Lib.hid (hLv.out wr hB x k hS.big hS.at_)
       have hRr:=hRd.out wr hB x k hS.big hS.at_
       rw [hS.nd] at hRr
       unfold ndv ndp at hRr
       simp only at hRr
       replace hRr:=Lib.hid hRr
       have hm2:=m2.out wr hB
       have hG:=fun wr2 hb2=>hGt.out wr2 hb2 pk
       have hlk:Pc.lk l pk=some pv:=hS.lk
       rw [hlk] at hG
       unfold lkv at hG
       simp only [Option.getD_some,Option.isSome_some] at hG
       have hSm:=fun wr2=>refsum_any pk wr2 (by have:pk.size≤140737488355328:=hS.sz; simp only [maxLen]; omega)
       have hsm:((FM.sum pk.data.toList:Nat):Int)=sm pk:=rfl
       rw [hsm] at hSm
       have hsb:=sm_bd pk
       have hBk:=fun wr2=>refbucket_any (sm pk) n wr2 hsb.1 hsb.2 (by omega) (by omega)
       have hbk:FM.bucket (sm pk) n=(b:Nat):=hS.bk
       rw [hbk] at hBk
       have hzb:=hS.zb
       generalize sm pk=s at*
       replace hG:=Lib.hid hG
       replace hSm:=Lib.hid hSm
       replace hBk:=Lib.hid hBk
       have hbl2:bl<wr.heap.size:=hbl
       clear hS hlk hsm hbk
       have HH:=Lib.hid (And.intro hB (And.intro hD hR))
       clear hB hD hR
       go_wp2_with fail
       refine hL.out.mono ?_
       rintro e w' ⟨rfl,rfl⟩
       clear hL
       go_wp2_with fail
       refine hRr.out.mono ?_
       rintro e w4 ⟨rfl,hB4⟩
       obtain ⟨w5,hw5⟩:∃ w5,w5=w4.alloc (.cells #[.string pk,.string pv,.int .u32 s,.int .u64 z] 99):=⟨_,rfl⟩
       have hQ5:Blk w5 w4.heap.size 99 #[.string pk,.string pv,.int .u32 s,.int .u64 z]:=by rw [hw5]; exact Blk.made w4 _ _
       have hB5:Below wr.heap.size wr w5:=by rw [hw5]; exact hB4.alloc hB4.size _
       obtain ⟨hB0,hD0,hR0⟩:=HH.out
       have hB05:=hB0.trans (hB5.mono hB0.size)
       have hD5:=hD0.only (Only.ofBelow hB5 (fun _=>False)) (by simp)
       have hR5:=hR0.only (Only.ofBelow hB5 (fun _=>False)) (by simp)
       go_upto_region 12 with (fail)
       rw [← hw5]
       clear hw5 hRr hc9 hm2 HH hB0 hD0 hR0 hB4 hB5
       generalize w4.heap.size=q at*
       have k0:=hQ5.cell 0
       have k1:=hQ5.cell 1
       have k2:=hQ5.cell 2
       have kd:=hD5.cell 0
       simp at k0 k1 k2 kd
       have lq:=hQ5.lt
       have ld:=hD5.lt
       have hG5:=Lib.hid (hG.out w5 hB05)
       have H5:=Lib.hid (fun nq=>show HInv w (w5.drewN nq) db n B∧Hnds (w5.drewN nq) (some ⟨bl,0,none⟩) capc ts from
        ⟨⟨hB05.trans ⟨rfl,rfl,rfl,Nat.le_refl _,fun _ _=>rfl⟩,hD5.only ((Only.refl (fun _=>False) _).drewN nq) (by simp)⟩,hR5.only ((Only.refl (fun _=>False) _).drewN nq) (by simp)⟩)
       clear hQ5 hB05 hD5 hR5 hG
       go_wp2_with fail
       refine hG5.out.mono ?_
       rintro e w' ⟨rfl,rfl⟩
       clear hG5
       go_wp2_with fail
       go_quiet (first | (go_at_call 47; exact Calls.quiet_of_same (hSm.out _)) | (go_at_call 48; exact Calls.quiet_of_same (hBk.out _)))
       clear k0 k1 k2 kd
       go_wp2_with fail
       go_roundw
       case rel=>exact ⟨j+1,by omega,by go_num,by simp only [Int.natCast_add]; go_num,(H5.out nq).1,(H5.out nq).2⟩
       case measure=>simp [intOf]; omega
     · obtain rfl:j=tl:=by omega
       have H2:=Lib.hid (And.intro hB hD)
       clear hB hD hR
       go_wp2_with fail
       go_roundw
       case rel=>exact ⟨b+1,by omega,by go_num,by rw [hs1.out],H2.out⟩
       case measure=>simp [intOf]; omega
  · obtain rfl:b=n:=by omega
    have hR:=hRc.out wr hB
    unfold Lists at hR
    rw [hcn.out b] at hR
    have hll':=hll.out
    rw [hll'] at*
    have hsm:=hsm1.out
    generalize cnt b=c0 at*
    replace hR:=Lib.hid hR
    replace hB:=Lib.hid hB
    clear hD hll' hll
    go_wp2_with fail
    refine hR.out.mono ?_
    rintro e w3 ⟨Ac,capc,rfl,hRw,hBc,hin⟩
    have hBx:=Lib.hid (hB.out.trans (hBc.mono hB.out.size))
    clear hRw hBc hin hR
    go_wp2_with fail
    go_ret
    exact ⟨rfl,hBx.out⟩
end
end Go.Proofs.YtkogifmjbmnpgaaGreat.LawEl
