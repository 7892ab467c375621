/- Layer 10 (get): a get's step whole, in the words of plain lists; behind mem.Finish. -/
import Derived.Test.YtpobbnllcoabhaaGreatGetB
set_option linter.unusedVariables false
set_option linter.unusedSimpArgs false
namespace Go.Proofs.YtpobbnllcoabhaaGreat.Gt
open Go Go.RowKit Hp K Fl Rw Hm Ar Mm Me Qs Wk
set_option maxRecDepth 100000
theorem goTo_at (W:Wa) (b h:Nat):goTo {W with f:=b} h={goTo W h with f:=b}:=by
 unfold goTo
 split<;>rfl
theorem gstep_at (xs:List Int) (ss:List Sl) (F:Bool) (W:Wa) (b:Nat):Wk.gstep xs ss (F,{W with f:=b})=((Wk.gstep xs ss (F,W)).1,{(Wk.gstep xs ss (F,W)).2 with f:=b}):=by
 unfold Wk.gstep
 simp only
 split
 · rw [← goTo_at]
 split
 · split
   · rename_i k _
     unfold looks hit
     simp only
     split
     · rfl
     · rw [← goTo_at]
   · rfl
 · rfl
theorem gdone_at (xs:List Int) (ss:List Sl) (F:Bool) (W:Wa) (b:Nat):Wk.gdone xs ss (F,{W with f:=b})=Wk.gdone xs ss (F,W):=by
 unfold Wk.gdone
 rw [gstep_at]
abbrev Gs:=List Int×Bool×Ge
def ggst (ds:List (Nat×Nat)) (ss:List Sl) (s:Gs):Gs:=
 if s.2.2.nx=1 then ((cstep s.1 s.2.2.C).1,s.2.1,{s.2.2 with C:=(cstep s.1 s.2.2.C).2,nx:=if s.2.2.C.at_=1 then 2 else 1})
 else if s.2.2.nx=2 then (s.1,s.2.1,{s.2.2 with W:=new 0 (cellOf s.2.2.sum (now s.1 ds)) s.2.2.sum s.2.2.key,nx:=3})
 else if s.2.2.nx=3 then (s.1,(Wk.gstep s.1 ss (s.2.1,s.2.2.W)).1,{s.2.2 with W:=(Wk.gstep s.1 ss (s.2.1,s.2.2.W)).2,nx:=if Wk.gdone s.1 ss (s.2.1,s.2.2.W)=true then 4 else 3})
 else (s.1.set (2+s.2.2.C.worker) 0,s.2.1,{s.2.2 with gat:=1})
def ggdn (G:Ge):Bool:=decide (4≤G.nx)
structure Okg (r:Nat) (ds:List (Nat×Nat)) (ss:List Sl) (xs:List Int) (G:Ge):Prop where
 nx:1≤G.nx∧G.nx≤4
 at_:G.nx=1→G.C.at_≤1
 wk:2+G.C.worker<xs.length∧G.C.worker≤1000
 pd:0≤G.C.period∧G.C.period≤18446744073709551615
 sum:0≤G.sum∧G.sum<4294967296
 tb:∀ i,(tab ds i).1≤65536∧(tab ds i).2≤4000000
 nexts:Nexts ss
 rb:r≤4000000000000000000
 wa:G.nx=3→Okw r G.W
 go:G.nx=4→G.gat=0
def Moved (w:World) (a a':Ga):Prop:=a'.f=a.f∧a'.c=a.c∧a'.o=a.o∧(a'.w=a.w∨w.heap.size≤a'.w)
theorem Moved.refl (w:World) (a:Ga):Moved w a a:=⟨rfl,rfl,rfl,.inl rfl⟩
theorem enters_ci (args:Array Value) (w:World):(callFunc 100 args).run Tryz.prog w=.ok (.enter 100 args) w:=by kernel_rfl
theorem enters_gl (args:Array Value) (w:World):(callFunc 126 args).run Tryz.prog w=.ok (.enter 126 args) w:=by kernel_rfl
theorem enters_ga (args:Array Value) (w:World):(callFunc 157 args).run Tryz.prog w=.ok (.enter 157 args) w:=by kernel_rfl
theorem enters_gs (args:Array Value) (w:World):(callFunc 179 args).run Tryz.prog w=.ok (.enter 179 args) w:=by kernel_rfl
section
variable {w w':World} {M:Mo} {a:Ga} {G:Ge}
theorem gstep_fm {F f:Nat} {cv m:Value} {c:Bool} {P:World→Prop} (c2:w.cell? ⟨f,2,none⟩=some (wfm F cv)) (eF:∀ args w,(callFunc F args).run Tryz.prog w=.ok (.enter F args) w)
 (hF:Calls Tryz.prog F #[cv,m] w fun e w'=>e=.returned (.bool c)∧P w'):Calls Tryz.prog 272 #[ptr f,m] w fun e w'=>e=.returned (.bool c)∧P w':=by
 replace hF:=Lib.hid hF
 go_enter Tryz.func272,Tryz.ntmps272
 go_wp2_with fail
 refine hF.out.mono ?_
 rintro e w' ⟨rfl,hPw⟩
 replace hPw:=Lib.hid hPw
 clear c2
 go_wp2_with fail
 go_ret
 exact ⟨rfl,hPw.out⟩
set_option maxHeartbeats 1000000 in
theorem goAlong_any (hM:MemAt w M) (h:GeAt w a G) (hN:Nexts M.ss) {r:Nat} (ok:Okw (r+1) G.W) (h3:G.nx=3):
 Calls Tryz.prog 157 #[ptr a.f,ptr M.m] w fun e w'=>e=.returned (.bool false)∧MemAt w' {M with F:=(Wk.gstep M.xs M.ss (M.F,G.W)).1}∧
  GeAt w' a {G with W:=(Wk.gstep M.xs M.ss (M.F,G.W)).2,nx:=if Wk.gdone M.xs M.ss (M.F,G.W)=true then 4 else 3}∧Only (fun x=>mfoot M x∨gfoot a x) w w':=by
 have hap:=h.apart
 have hS:=(walk_step hM h.2.2.2 hN (r:=r) ⟨ok.cell,ok.at_,ok.read,ok.nx⟩).mono fun e w' q=>
  show e=.returned (.bool (Wk.gdone M.xs M.ss (M.F,G.W)))∧MemAt w' {M with F:=(Wk.gstep M.xs M.ss (M.F,G.W)).1}∧GeAt w' a {G with W:=(Wk.gstep M.xs M.ss (M.F,G.W)).2}∧Only (fun x=>mfoot M x∨gfoot a x) w w' from by
   have q1:=q.1
   have q2:=q.2.1
   have q3:=q.2.2.1
   have q4:=q.2.2.2
   rw [gdone_at] at q1
   rw [gstep_at] at q2 q3
   have far:∀ x,gfoot a x→x≠a.w→¬(mfoot M x∨x=(G.wa a.w).f):=fun x hx hn q=>q.elim (fun q=>h.far hM hx q) (fun q=>hn q)
   refine ⟨q1,q2,⟨h.1.only q4 (far _ (.inl rfl) hap.2.2.1),h.2.1.only q4 (far _ (.inr (.inl rfl)) hap.2.2.2.2.1),h.2.2.1.only q4 (far _ (.inr (.inr (.inl rfl))) hap.2.2.2.2.2),q3⟩,q4.mono (fun x _ y=>y.imp id (fun e=>.inr (.inr (.inr e))))⟩
 have c5:=h.hd.2.2.2.2.2
 have hfar:=Lib.hid (h.far hM (.inl rfl))
 cases hdn:Wk.gdone M.xs M.ss (M.F,G.W) with
 | true=>
   rw [hdn] at hS
   rw [if_pos rfl]
   generalize Wk.gstep M.xs M.ss (M.F,G.W)=z at*
   obtain ⟨zf,zw⟩:=z
   simp only at hS ⊢
   replace hS:=Lib.hid hS
   clear hdn h hM hN ok hap h3
   go_enter Tryz.func157,Tryz.ntmps157
   go_wp2_with fail
   refine hS.out.mono ?_
   rintro e w1 ⟨rfl,hM1,hG1,hO1⟩
   have k2:=hG1.hd.2.2.1
   have k4:=hG1.hd.2.2.2.2.1
   have z2:=hG1.frz 2
   have hG2:=Lib.hid (hG1.next 4)
   have hO2:=(Only.refl (·=a.f) w1).setCell (p:=⟨a.f,2,none⟩) (.inl rfl) (gnv a 4)
   have hM2:=Lib.hid (hM1.only hO2 (fun x hx q=>hfar.out (q▸hx)))
   have hO3:=Lib.hid (hO1.trans' hO2 (fun x _ q=>.inr (.inl q)))
   clear hO2 hM1 hG1 hO1 hS c5
   go_wp2_with fail
   go_ret
   exact ⟨rfl,hM2.out,hG2.out,hO3.out⟩
 | false=>
   rw [hdn] at hS
   rw [if_neg (by simp)]
   have hS':=hS.mono fun e w' q=>show e=.returned (.bool false)∧MemAt w' {M with F:=(Wk.gstep M.xs M.ss (M.F,G.W)).1}∧GeAt w' a {G with W:=(Wk.gstep M.xs M.ss (M.F,G.W)).2,nx:=3}∧Only (fun x=>mfoot M x∨gfoot a x) w w' from
    ⟨q.1,q.2.1,by have:=q.2.2.1; rw [← h3]; exact this,q.2.2.2⟩
   clear hS
   generalize Wk.gstep M.xs M.ss (M.F,G.W)=z at*
   obtain ⟨zf,zw⟩:=z
   simp only at hS' ⊢
   replace hS':=Lib.hid hS'
   clear hdn h hM hN ok hap h3
   go_enter Tryz.func157,Tryz.ntmps157
   go_wp2_with fail
   refine hS'.out.mono ?_
   rintro e w1 ⟨rfl,hM1,hG1,hO1⟩
   replace hM1:=Lib.hid hM1
   replace hG1:=Lib.hid hG1
   replace hO1:=Lib.hid hO1
   clear hS' c5
   go_wp2_with fail
   go_ret
   exact ⟨rfl,hM1.out,hG1.out,hO1.out⟩
theorem get_step (hM:MemAt w M) (h:GeAt w a G) {r:Nat} (ok:Okg (r+1) M.ds M.ss M.xs G):
 Calls Tryz.prog 272 #[ptr a.f,ptr M.m] w fun e w'=>e=.returned (.bool (ggdn G))∧∃ a',Moved w a a'∧MemAt w' {M with xs:=(ggst M.ds M.ss (M.xs,M.F,G)).1,F:=(ggst M.ds M.ss (M.xs,M.F,G)).2.1}∧
  GeAt w' a' (ggst M.ds M.ss (M.xs,M.F,G)).2.2∧Only (fun x=>mfoot M x∨gfoot a x) w w':=by
 have c2:=h.hd.2.2.1
 unfold gnv at c2
 have hnx:=ok.nx
 unfold ggdn
 by_cases e1:G.nx=1
 · have hs:ggst M.ds M.ss (M.xs,M.F,G)=((cstep M.xs G.C).1,M.F,{G with C:=(cstep M.xs G.C).2,nx:=if G.C.at_=1 then 2 else 1}):=by unfold ggst; rw [if_pos e1]
   rw [if_pos e1] at c2
   rw [hs,show decide (4≤G.nx)=false by simp; omega]
   refine gstep_fm c2 enters_ci ((comeIn_any hM h (ok.at_ e1) ok.wk.1 ok.wk.2 ok.pd).mono fun e w' q=>⟨q.1,a,Moved.refl _ _,q.2.1,?_,q.2.2.2⟩)
   have:=q.2.2.1
   rw [e1] at this
   exact this
 rw [if_neg e1] at c2
 by_cases e2:G.nx=2
 · have hs:ggst M.ds M.ss (M.xs,M.F,G)=(M.xs,M.F,{G with W:=new 0 (cellOf G.sum (now M.xs M.ds)) G.sum G.key,nx:=3}):=by unfold ggst; simp only; rw [if_neg e1,if_pos e2]
   rw [if_pos e2] at c2
   rw [hs,show decide (4≤G.nx)=false by simp; omega]
   refine gstep_fm c2 enters_gl ((load_any hM h (by have:=ok.wk; omega) (ok.tb _) ok.sum).mono fun e w' q=>?_)
   obtain ⟨b,hb,hG⟩:=q.2.2.1
   exact ⟨q.1,{a with w:=b},⟨rfl,rfl,rfl,.inr hb⟩,q.2.1,hG,q.2.2.2.mono (fun x _ y=>.inr y)⟩
 rw [if_neg e2] at c2
 by_cases e3:G.nx=3
 · have hs:ggst M.ds M.ss (M.xs,M.F,G)=(M.xs,(Wk.gstep M.xs M.ss (M.F,G.W)).1,{G with W:=(Wk.gstep M.xs M.ss (M.F,G.W)).2,nx:=if Wk.gdone M.xs M.ss (M.F,G.W)=true then 4 else 3}):=by unfold ggst; simp only; rw [if_neg e1,if_neg e2,if_pos e3]
   rw [if_pos e3] at c2
   rw [hs,show decide (4≤G.nx)=false by simp; omega]
   exact gstep_fm c2 enters_ga ((goAlong_any hM h ok.nexts (ok.wa e3) e3).mono fun e w' q=>⟨q.1,a,Moved.refl _ _,q.2.1,q.2.2.1,q.2.2.2⟩)
 rw [if_neg e3] at c2
 have e4:G.nx=4:=by omega
 have hs:ggst M.ds M.ss (M.xs,M.F,G)=(M.xs.set (2+G.C.worker) 0,M.F,{G with gat:=1}):=by unfold ggst; simp only; rw [if_neg e1,if_neg e2,if_neg e3]
 rw [hs,show decide (4≤G.nx)=true by simp; omega]
 have ho:GgAt w a.o G.C.worker 0:=by have:=h.2.2.1; rw [ok.go e4] at this; exact this
 refine gstep_fm c2 enters_gs ((going_step hM ho ok.wk.1 ok.wk.2).mono fun e w' q=>⟨q.1,a,Moved.refl _ _,q.2.1,?_,q.2.2.2.mono (fun x _ y=>y.imp id (fun e=>.inr (.inr (.inl e))))⟩)
 have hap:=h.apart
 have far:∀ x,gfoot a x→x≠a.o→¬(mfoot M x∨x=a.o):=fun x hx hn q=>q.elim (fun q=>h.far hM hx q) hn
 exact ⟨h.1.only q.2.2.2 (far _ (.inl rfl) hap.2.1),h.2.1.only q.2.2.2 (far _ (.inr (.inl rfl)) hap.2.2.2.1),q.2.2.1,h.2.2.2.only q.2.2.2 (far _ (.inr (.inr (.inr rfl))) (fun e=>hap.2.2.2.2.2 e.symm))⟩
end
end Go.Proofs.YtpobbnllcoabhaaGreat.Gt
