/- A part. -/
import Derived.Test.YtpanebgakndddaaGreatQsbrE
import Derived.Laws.CopyOwn
set_option linter.unusedVariables false
set_option linter.unusedSimpArgs false
namespace Go.Proofs.YtpanebgakndddaaGreat.Re
open Go Go.RowKit Hp K Fl Rw Hm Ar Mm Me Qs
set_option maxRecDepth 100000
structure Dr where
 f:Nat
 fw:Nat
 at_:Nat
 W:Wt
 A:Option Addr
 cap:Nat
 left:List Nat
def yV (D:Dr):Array Value:=#[.int .i64 D.at_,ptr D.fw,.slice D.A D.left.length D.cap]
def nH (w:World) (A:Option Addr) (l:List Nat):Prop:=l=[]\/∃ b o cs,A=some ⟨b,o,none⟩/\af w b 40 cs/\∀ i,i<l.length->cs[o+i]?=some (.int .u64 (nth l i:Nat))
def gD (D:Dr) (x:Nat):Prop:=x=D.f\/x=D.fw\/(D.left≠[]/\In D.A x)
structure df (w:World) (D:Dr):Prop where
 an:af w D.f 127 (yV D)
 wt:cZ w D.fw D.W
 jV:nH w D.A D.left
 sz:D.left.length<=D.cap/\D.cap<=maxLen
theorem nH.only {S:Nat->Prop} {w w':World} {A:Option Addr} {l:List Nat} (h:nH w A l) (ho:ab S w w') (hn:∀ x,l≠[]->In A x->¬S x):nH w' A l:=by
 rcases h with h | ⟨b,o,cs,rfl,hb,hc⟩
 ·exact .inl h
 ·by_cases e:l=[]
  ·exact .inl e
  ·exact .inr ⟨b,o,cs,rfl,hb.only ho (hn b e rfl),hc⟩
theorem df.only {S:Nat->Prop} {w w':World} {D:Dr} (h:df w D) (ho:ab S w w') (hn:∀ x,gD D x->¬S x):df w' D:=
 ⟨h.an.only ho (hn _ (.inl rfl)),h.wt.only ho (hn _ (.inr (.inl rfl))),h.jV.only ho (fun x hl hx=>hn x (.inr (.inr ⟨hl,hx⟩))),h.sz⟩
theorem df.below {w w':World} {D:Dr} (h:df w D) (hb:Below w.heap.size w w'):df w' D:=h.only (S:=fun _=>False) (ab.aD hb _) (by simp)
theorem df.hd {w:World} {D:Dr} (h:df w D):w.cell? ⟨D.f,0,none⟩=some (.int .i64 D.at_)/\w.cell? ⟨D.f,1,none⟩=some (ptr D.fw)/\w.cell? ⟨D.f,2,none⟩=some (.slice D.A D.left.length D.cap):=
 ⟨h.an.cell 0,h.an.cell 1,h.an.cell 2⟩
theorem df.aA {w:World} {D:Dr} (h:df w D) {M:Mo} (hM:ah w M):¬ao M D.f/\¬ao M D.fw:=
 ⟨fun hx=>(hM.ty hx).apart (aV h.an) (by decide),h.wt.aA hM⟩
theorem df.ne {w:World} {D:Dr} (h:df w D):D.f≠D.fw:=h.an.differ h.wt (by decide)
theorem Gq (k:Int) (w:World):Calls Tryz.prog 34 #[.int .i64 k] w fun e w'=>∃ f,e=.returned (ptr f)/\w.heap.size<f/\df w' ⟨f,w.heap.size,0,⟨k,0,0,0⟩,none,0,[]⟩/\Below w.heap.size w w':=by
 have hS:=Lib.hid (yD k w)
 go_enter Tryz.func34,Tryz.ntmps34
 go_wp2_with fail
 refine hS.out.mono ?_
 rintro e w1 ⟨rfl,hW,hb⟩
 have eU:=Lib.hid (show cZ (w1.alloc (.cells #[.int .i64 0,ptr w.heap.size,.slice none 0 0] 127)) w.heap.size ⟨k,0,0,0⟩ from hW.alloc _)
 have bn:w.heap.size<w1.heap.size:=hW.lt
 have au:=Lib.hid (hb.alloc (o:=.cells #[.int .i64 0,ptr w.heap.size,.slice none 0 0] 127) (Nat.le_of_lt bn))
 clear hW hb hS
 go_wp2_with fail
 go_ret
 exact ⟨w1.heap.size,rfl,bn,⟨af.made w1 _ _,eU.out,.inl rfl,Nat.le_refl _,Nat.zero_le _⟩,au.out⟩
def fP (M:Mo) (D:Dr):Bool:=if D.at_=0 then decide (0<M.ws.length) else if D.at_=1 then fQ M.xs M.hs D.W else true
section
variable {w:World} {M:Mo} {D:Dr}
theorem SI (hM:ah w M) (hD:df w D) (hk:0<M.hs.length) (hp:D.at_=1->D.W.at_<=1000/\(D.W.at_=2->2+D.W.bm<M.xs.length/\D.W.bm<=1000)) (ha:D.at_<=1000):
 Calls Tryz.prog 36 #[ptr D.f,ptr M.m] w fun e w'=>e=.returned (.bool (fP M D))/\∃ n,w'=w.drewN n:=by
 obtain ⟨c0,c1,c2⟩:=hD.hd
 unfold fP
 by_cases h0:D.at_=0
 ·have hT:=Lib.hid (BA hM)
  rw [if_pos h0]
  rw [h0] at c0
  generalize M.ws.length=z at*
  clear hM hD hp ha
  go_enter Tryz.func36,Tryz.ntmps36
  go_wp2_with (go_at_call 22; refine hT.out.mono ?_; rintro e w' ⟨rfl,rfl⟩)
  go_ret
  refine ⟨K.je ?_,0,rfl⟩
  simp
 ·rw [if_neg h0]
  by_cases h1:D.at_=1
  ·have hT:=Lib.hid (oC hM hD.wt hk (hp h1).2 (hp h1).1)
   rw [if_pos h1]
   rw [h1] at c0
   generalize fQ M.xs M.hs D.W=z at*
   clear hM hD hp ha h0
   go_enter Tryz.func36,Tryz.ntmps36
   go_wp2_with (go_at_call 56; refine hT.out.mono ?_; rintro e w' ⟨rfl,n,rfl⟩)
   go_ret
   exact ⟨rfl,_,rfl⟩
  ·rw [if_neg h1]
   have e0:((D.at_:Int)==0)=false:=by rw [beq_eq_false_iff_ne]; omega
   have e1:((D.at_:Int)==1)=false:=by rw [beq_eq_false_iff_ne]; omega
   generalize D.at_=z at*
   clear hM hD hp h0 h1
   go_enter Tryz.func36,Tryz.ntmps36
   go_wp2_with fail
   go_ret
   exact ⟨rfl,0,rfl⟩
end
/-! ### a step-/
def wg (F:Nat) (v:Value):Value:=.func (.func F) #[v] #[]
def CP (D:Dr):Array Value:=#[wg 73 (ptr D.f),wg 74 (ptr D.fw),wg 75 (ptr D.f)]
theorem SJ (args:Array Value) (w:World):(callFunc 73 args).run Tryz.prog w=.ok (.enter 73 args) w:=by kernel_rfl
theorem SK (args:Array Value) (w:World):(callFunc 74 args).run Tryz.prog w=.ok (.enter 74 args) w:=by kernel_rfl
theorem SL (args:Array Value) (w:World):(callFunc 75 args).run Tryz.prog w=.ok (.enter 75 args) w:=by kernel_rfl
section
variable {w:World} {M:Mo} {D:Dr}
theorem SM (hD:df w D):Calls Tryz.prog 57 #[ptr D.f] w fun e w'=>e=.returned (.slice (some ⟨w.heap.size,0,none⟩) 3 3)/\sD w.heap.size (CP D) w'/\Below w.heap.size w w':=by
 obtain ⟨c0,c1,c2⟩:=hD.hd
 have bn:=hD.an.lt
 clear hD
 go_enter Tryz.func57,Tryz.ntmps57
 go_wp2
 go_ret
 refine ⟨rfl,fun i hi=>?_,(Below.refl _ _).alloc (Nat.le_refl _) _⟩
 exact (af.made w _ _).cell i
def SN (P:World->Prop) (f at_:Nat) (c:Bool) (w':World):Prop:=∃ w1,P w1/\w'=if c=true then w1.setCell ⟨f,0,none⟩ (.int .i64 ((at_+1:Nat):Int)) else w1
theorem CQ {F:Nat} {cv m:Value} {c:Bool} {P:World->Prop} (hD:df w D) (ha:D.at_<3) (hs:(CP D)[D.at_]?=some (wg F cv)) (eF:∀ args w,(callFunc F args).run Tryz.prog w=.ok (.enter F args) w)
 (hF:∀ w2,Below w.heap.size w w2->Calls Tryz.prog F #[cv,m] w2 fun e w'=>e=.returned (.bool c)/\P w') (hP:∀ w',P w'->w'.cell? ⟨D.f,0,none⟩=some (.int .i64 D.at_)/\w'.frozen? ⟨D.f,0,none⟩=false):
 Calls Tryz.prog 38 #[ptr D.f,m] w fun e w'=>e=.returned (.bool (decide ((if c=true then D.at_+1 else D.at_)=3)))/\SN P D.f D.at_ c w':=by
 have hS:=Lib.hid (SM hD)
 have hc:=Lib.hid (fun w2 (hb:Below w.heap.size w w2)=>(hD.below hb).hd.1)
 have bn:=hD.an.lt
 replace hF:=Lib.hid hF
 replace hP:=Lib.hid hP
 have XC:D.at_<=2:=by omega
 replace hs:=Lib.hid hs
 have cO:Hid (D.at_<(CP D).size):=Lib.hid (by show D.at_<3; omega)
 clear hD ha
 generalize D.at_=at_ at*
 generalize D.f=f at*
 go_enter Tryz.func38,Tryz.ntmps38
 go_wp2_with fail
 refine hS.out.mono ?_
 rintro e w2 ⟨rfl,fG,au⟩
 have c0:=hc.out w2 au
 have c1:=fG _ cO.out
 rw [hs.out] at c1
 unfold wg at c1
 replace hF:=Lib.hid (hF.out w2 au)
 have h3:¬(3<=at_):=by omega
 have h4:decide ((at_:Int)<(3:Int))=true:=by simp; omega
 clear fG au hS hc
 generalize w.heap.size=sb at*
 cases c with
 | true=>
   go_wp2_with fail
   refine hF.out.mono ?_
   rintro e w' ⟨rfl,bj⟩
   obtain ⟨k1,k2⟩:=hP.out w' bj
   replace bj:=Lib.hid bj
   clear c0 c1
   go_wp2_with fail
   go_ret
   refine ⟨K.je ?_,w',bj.out,by simp⟩
   rcases (by omega:at_=0\/at_=1\/at_=2) with h | h | h<;>simp [h]
 | false=>
   go_wp2_with fail
   refine hF.out.mono ?_
   rintro e w' ⟨rfl,bj⟩
   obtain ⟨k1,k2⟩:=hP.out w' bj
   replace bj:=Lib.hid bj
   clear c0 c1
   go_wp2_with fail
   go_ret
   refine ⟨K.je ?_,w',bj.out,by simp⟩
   rcases (by omega:at_=0\/at_=1\/at_=2) with h | h | h<;>simp [h]
end
end Go.Proofs.YtpanebgakndddaaGreat.Re
