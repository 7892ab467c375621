/- A part. -/
import Derived.Test.YtpanebgakndddaaGreatGetB
set_option linter.unusedVariables false
set_option linter.unusedSimpArgs false
namespace Go.Proofs.YtpanebgakndddaaGreat.Gt
open Go Go.RowKit Hp K Fl Rw Hm Ar Mm Me Qs Wk
set_option maxRecDepth 100000
theorem Hu (W:Wa) (b h:Nat):dB {W with f:=b} h={dB W h with f:=b}:=by
 unfold dB
 split<;>rfl
theorem Ck (xs:List Int) (ss:List Sl) (F:Bool) (W:Wa) (b:Nat):Wk.aE xs ss (F,{W with f:=b})=((Wk.aE xs ss (F,W)).1,{(Wk.aE xs ss (F,W)).2 with f:=b}):=by
 unfold Wk.aE
 simp only
 split
 ·rw [<-Hu]
 split
 ·split
  ·rename_i k _
   unfold looks mG
   simp only
   split
   ·rfl
   ·rw [<-Hu]
  ·rfl
 ·rfl
theorem Hv (xs:List Int) (ss:List Sl) (F:Bool) (W:Wa) (b:Nat):Wk.cp xs ss (F,{W with f:=b})=Wk.cp xs ss (F,W):=by
 unfold Wk.cp
 rw [Ck]
abbrev Gs:=List Int×Bool×Ge
def dC (ds:List (Nat×Nat)) (ss:List Sl) (s:Gs):Gs:=
 if s.2.2.nx=1 then ((gw s.1 s.2.2.C).1,s.2.1,{s.2.2 with C:=(gw s.1 s.2.2.C).2,nx:=if s.2.2.C.at_=1 then 2 else 1})
 else if s.2.2.nx=2 then (s.1,s.2.1,{s.2.2 with W:=new 0 (cellOf s.2.2.sum (now s.1 ds)) s.2.2.sum s.2.2.key,nx:=3})
 else if s.2.2.nx=3 then (s.1,(Wk.aE s.1 ss (s.2.1,s.2.2.W)).1,{s.2.2 with W:=(Wk.aE s.1 ss (s.2.1,s.2.2.W)).2,nx:=if Wk.cp s.1 ss (s.2.1,s.2.2.W)=true then 4 else 3})
 else (s.1.set (2+s.2.2.C.worker) 0,s.2.1,{s.2.2 with iY:=1})
def eI (G:Ge):Bool:=decide (4<=G.nx)
structure mD (r:Nat) (ds:List (Nat×Nat)) (ss:List Sl) (xs:List Int) (G:Ge):Prop where
 nx:1<=G.nx/\G.nx<=4
 at_:G.nx=1->G.C.at_<=1
 wk:2+G.C.worker<xs.length/\G.C.worker<=1000
 pd:0<=G.C.period/\G.C.period<=18446744073709551615
 sum:0<=G.sum/\G.sum<4294967296
 tb:∀ i,(aO ds i).1<=65536/\(aO ds i).2<=4000000
 db:ff ss
 rb:r<=4000000000000000000
 wa:G.nx=3->eV r G.W
 go:G.nx=4->G.iY=0
def qS (w:World) (a a':Ga):Prop:=a'.f=a.f/\a'.c=a.c/\a'.o=a.o/\(a'.w=a.w\/w.heap.size<=a'.w)
theorem qS.refl (w:World) (a:Ga):qS w a a:=⟨rfl,rfl,rfl,.inl rfl⟩
theorem Pz (args:Array Value) (w:World):(callFunc 126 args).run Tryz.prog w=.ok (.enter 126 args) w:=by kernel_rfl
theorem PB (args:Array Value) (w:World):(callFunc 160 args).run Tryz.prog w=.ok (.enter 160 args) w:=by kernel_rfl
theorem PC (args:Array Value) (w:World):(callFunc 195 args).run Tryz.prog w=.ok (.enter 195 args) w:=by kernel_rfl
theorem PD (args:Array Value) (w:World):(callFunc 213 args).run Tryz.prog w=.ok (.enter 213 args) w:=by kernel_rfl
section
variable {w w':World} {M:Mo} {a:Ga} {G:Ge}
theorem lR {F f:Nat} {cv m:Value} {c:Bool} {P:World->Prop} (c2:w.cell? ⟨f,2,none⟩=some (aU F cv)) (eF:∀ args w,(callFunc F args).run Tryz.prog w=.ok (.enter F args) w)
 (hF:Calls Tryz.prog F #[cv,m] w fun e w'=>e=.returned (.bool c)/\P w'):Calls Tryz.prog 284 #[ptr f,m] w fun e w'=>e=.returned (.bool c)/\P w':=by
 replace hF:=Lib.hid hF
 go_enter Tryz.func284,Tryz.ntmps284
 go_wp2_with fail
 refine hF.out.mono ?_
 rintro e w' ⟨rfl,bq⟩
 replace bq:=Lib.hid bq
 clear c2
 go_wp2_with fail
 go_ret
 exact ⟨rfl,bq.out⟩
set_option maxHeartbeats 1000000 in
theorem PE (hM:ah w M) (h:dh w a G) (hN:ff M.ss) {r:Nat} (ok:eV (r+1) G.W) (h3:G.nx=3):
 Calls Tryz.prog 195 #[ptr a.f,ptr M.m] w fun e w'=>e=.returned (.bool false)/\ah w' {M with F:=(Wk.aE M.xs M.ss (M.F,G.W)).1}/\
  dh w' a {G with W:=(Wk.aE M.xs M.ss (M.F,G.W)).2,nx:=if Wk.cp M.xs M.ss (M.F,G.W)=true then 4 else 3}/\ab (fun x=>aq M x\/bC a x) w w':=by
 have gB:=h.apart
 have hS:=(Co hM h.2.2.2 hN (r:=r) ⟨ok.cell,ok.at_,ok.read,ok.nx⟩).mono fun e w' q=>
  show e=.returned (.bool (Wk.cp M.xs M.ss (M.F,G.W)))/\ah w' {M with F:=(Wk.aE M.xs M.ss (M.F,G.W)).1}/\dh w' a {G with W:=(Wk.aE M.xs M.ss (M.F,G.W)).2}/\ab (fun x=>aq M x\/bC a x) w w' from by
   have q1:=q.1
   have q2:=q.2.1
   have q3:=q.2.2.1
   have q4:=q.2.2.2
   rw [Hv] at q1
   rw [Ck] at q2 q3
   have aB:∀ x,bC a x->x≠a.w->¬(aq M x\/x=(G.wa a.w).f):=fun x hx hn q=>q.elim (fun q=>h.aB hM hx q) (fun q=>hn q)
   refine ⟨q1,q2,⟨h.1.only q4 (aB _ (.inl rfl) gB.2.2.1),h.2.1.only q4 (aB _ (.inr (.inl rfl)) gB.2.2.2.2.1),h.2.2.1.only q4 (aB _ (.inr (.inr (.inl rfl))) gB.2.2.2.2.2),q3⟩,q4.mono (fun x _ y=>y.imp id (fun e=>.inr (.inr (.inr e))))⟩
 have c5:=h.hd.2.2.2.2.2
 have dW:=Lib.hid (h.aB hM (.inl rfl))
 cases cB:Wk.cp M.xs M.ss (M.F,G.W) with
 | true=>
   rw [cB] at hS
   rw [if_pos rfl]
   generalize Wk.aE M.xs M.ss (M.F,G.W)=z at*
   obtain ⟨zf,zw⟩:=z
   simp only at hS ⊢
   replace hS:=Lib.hid hS
   clear cB h hM hN ok gB h3
   go_enter Tryz.func195,Tryz.ntmps195
   go_wp2_with fail
   refine hS.out.mono ?_
   rintro e w1 ⟨rfl,aw,ak,ax⟩
   have k2:=ak.hd.2.2.1
   have k4:=ak.hd.2.2.2.2.1
   have z2:=ak.dc 2
   have du:=Lib.hid (ak.next 4)
   have ae:=(ab.refl (·=a.f) w1).setCell (p:=⟨a.f,2,none⟩) (.inl rfl) (jX a 4)
   have aI:=Lib.hid (aw.only ae (fun x hx q=>dW.out (q▸hx)))
   have an:=Lib.hid (ax.trans' ae (fun x _ q=>.inr (.inl q)))
   clear ae aw ak ax hS c5
   go_wp2_with fail
   go_ret
   exact ⟨rfl,aI.out,du.out,an.out⟩
 | false=>
   rw [cB] at hS
   rw [if_neg (by simp)]
   have gX:=hS.mono fun e w' q=>show e=.returned (.bool false)/\ah w' {M with F:=(Wk.aE M.xs M.ss (M.F,G.W)).1}/\dh w' a {G with W:=(Wk.aE M.xs M.ss (M.F,G.W)).2,nx:=3}/\ab (fun x=>aq M x\/bC a x) w w' from
    ⟨q.1,q.2.1,by have:=q.2.2.1; rw [<-h3]; exact this,q.2.2.2⟩
   clear hS
   generalize Wk.aE M.xs M.ss (M.F,G.W)=z at*
   obtain ⟨zf,zw⟩:=z
   simp only at gX ⊢
   replace gX:=Lib.hid gX
   clear cB h hM hN ok gB h3
   go_enter Tryz.func195,Tryz.ntmps195
   go_wp2_with fail
   refine gX.out.mono ?_
   rintro e w1 ⟨rfl,aw,ak,ax⟩
   replace aw:=Lib.hid aw
   replace ak:=Lib.hid ak
   replace ax:=Lib.hid ax
   clear gX c5
   go_wp2_with fail
   go_ret
   exact ⟨rfl,aw.out,ak.out,ax.out⟩
theorem Hx (hM:ah w M) (h:dh w a G) {r:Nat} (ok:mD (r+1) M.ds M.ss M.xs G):
 Calls Tryz.prog 284 #[ptr a.f,ptr M.m] w fun e w'=>e=.returned (.bool (eI G))/\∃ a',qS w a a'/\ah w' {M with xs:=(dC M.ds M.ss (M.xs,M.F,G)).1,F:=(dC M.ds M.ss (M.xs,M.F,G)).2.1}/\
  dh w' a' (dC M.ds M.ss (M.xs,M.F,G)).2.2/\ab (fun x=>aq M x\/bC a x) w w':=by
 have c2:=h.hd.2.2.1
 unfold jX at c2
 have fC:=ok.nx
 unfold eI
 by_cases e1:G.nx=1
 ·have hs:dC M.ds M.ss (M.xs,M.F,G)=((gw M.xs G.C).1,M.F,{G with C:=(gw M.xs G.C).2,nx:=if G.C.at_=1 then 2 else 1}):=by unfold dC; rw [if_pos e1]
  rw [if_pos e1] at c2
  rw [hs,show decide (4<=G.nx)=false by simp; omega]
  refine lR c2 Pz ((Py hM h (ok.at_ e1) ok.wk.1 ok.wk.2 ok.pd).mono fun e w' q=>⟨q.1,a,qS.refl _ _,q.2.1,?_,q.2.2.2⟩)
  have:=q.2.2.1
  rw [e1] at this
  exact this
 rw [if_neg e1] at c2
 by_cases e2:G.nx=2
 ·have hs:dC M.ds M.ss (M.xs,M.F,G)=(M.xs,M.F,{G with W:=new 0 (cellOf G.sum (now M.xs M.ds)) G.sum G.key,nx:=3}):=by unfold dC; simp only; rw [if_neg e1,if_pos e2]
  rw [if_pos e2] at c2
  rw [hs,show decide (4<=G.nx)=false by simp; omega]
  refine lR c2 PB ((wC hM h (by have:=ok.wk; omega) (ok.tb _) ok.sum).mono fun e w' q=>?_)
  obtain ⟨b,hb,hG⟩:=q.2.2.1
  exact ⟨q.1,{a with w:=b},⟨rfl,rfl,rfl,.inr hb⟩,q.2.1,hG,q.2.2.2.mono (fun x _ y=>.inr y)⟩
 rw [if_neg e2] at c2
 by_cases e3:G.nx=3
 ·have hs:dC M.ds M.ss (M.xs,M.F,G)=(M.xs,(Wk.aE M.xs M.ss (M.F,G.W)).1,{G with W:=(Wk.aE M.xs M.ss (M.F,G.W)).2,nx:=if Wk.cp M.xs M.ss (M.F,G.W)=true then 4 else 3}):=by unfold dC; simp only; rw [if_neg e1,if_neg e2,if_pos e3]
  rw [if_pos e3] at c2
  rw [hs,show decide (4<=G.nx)=false by simp; omega]
  exact lR c2 PC ((PE hM h ok.db (ok.wa e3) e3).mono fun e w' q=>⟨q.1,a,qS.refl _ _,q.2.1,q.2.2.1,q.2.2.2⟩)
 rw [if_neg e3] at c2
 have e4:G.nx=4:=by omega
 have hs:dC M.ds M.ss (M.xs,M.F,G)=(M.xs.set (2+G.C.worker) 0,M.F,{G with iY:=1}):=by unfold dC; simp only; rw [if_neg e1,if_neg e2,if_neg e3]
 rw [hs,show decide (4<=G.nx)=true by simp; omega]
 have ho:jG w a.o G.C.worker 0:=by have:=h.2.2.1; rw [ok.go e4] at this; exact this
 refine lR c2 PD ((Hy hM ho ok.wk.1 ok.wk.2).mono fun e w' q=>⟨q.1,a,qS.refl _ _,q.2.1,?_,q.2.2.2.mono (fun x _ y=>y.imp id (fun e=>.inr (.inr (.inl e))))⟩)
 have gB:=h.apart
 have aB:∀ x,bC a x->x≠a.o->¬(aq M x\/x=a.o):=fun x hx hn q=>q.elim (fun q=>h.aB hM hx q) hn
 exact ⟨h.1.only q.2.2.2 (aB _ (.inl rfl) gB.2.1),h.2.1.only q.2.2.2 (aB _ (.inr (.inl rfl)) gB.2.2.2.1),q.2.2.1,h.2.2.2.only q.2.2.2 (aB _ (.inr (.inr (.inr rfl))) (fun e=>gB.2.2.2.2.2 e.symm))⟩
end
end Go.Proofs.YtpanebgakndddaaGreat.Gt
