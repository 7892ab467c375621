/- A part. -/
import Derived.Test.YtpanebgakndddaaGreatMemNew
import Derived.Deep.RegionHeld3
import Derived.Laws.EntriesVeiled
import Derived.Deep.QuietTactic
import Derived.BigQuiet
import Derived.StillTailTactics
set_option linter.unusedVariables false
set_option linter.unusedSimpArgs false
namespace Go.Proofs.YtpanebgakndddaaGreat.Wk
open Go Go.RowKit Hp K Fl Rw Hm Ar Mm Me
set_option maxRecDepth 100000
abbrev dY (F:Nat):Value:=.func (.func F) #[] #[]
abbrev aU (F:Nat) (v:Value):Value:=.func (.func F) #[v] #[]
structure Wa where
 f:Nat
 cell:Int
 sum:Int
 key:ByteArray
 nx:Nat
 at_:Nat
 first:Nat
 prev:Nat
 read:Nat
 found:Nat
 nd:Nd
def DO (nx f:Nat):Value:=if nx=1 then aU 189 (ptr f) else if nx=2 then aU 223 (ptr f) else dY 233
def Ve (W:Wa):Array Value:=#[.int .i64 W.cell,.int .u32 W.sum,.string W.key,DO W.nx W.f,.int .u64 W.at_,.int .u64 W.first,.int .u64 W.prev,.int .i64 W.read,.int .u64 W.found,.string W.nd.key,.string W.nd.val,.int .u32 W.nd.sum,.int .u64 W.nd.next]
def b8 (w:World) (W:Wa):Prop:=af w W.f 237 (Ve W)
def word (xs:List Int) (c:Int):Nat:=if 0<=c/\c<xs.length then (Cl.nth xs c.toNat).toNat else 0
def DP (xs:List Int) (c:Int):Int:=if 0<=c/\c<xs.length then 0 else 2
def dB (W:Wa) (h:Nat):Wa:=if h=0 then {W with nx:=3} else {W with at_:=h,nx:=2}
def new (f:Nat) (c s:Int) (k:ByteArray):Wa:=⟨f,c,s,k,1,0,0,0,0,0,.zero⟩
section
variable {w w':World} {M:Mo} {W:Wa}
theorem b8.aB (h:b8 w W) (hM:ah w M):¬aq M W.f:=fun hx=>(hM.ty hx).apart (bm h) (by decide)
theorem b8.only {S:Nat->Prop} (h:b8 w W) (ho:ab S w w') (hn:¬S W.f):b8 w' W:=af.only h ho hn
theorem b8.below (h:b8 w W) (hb:Below w.heap.size w w'):b8 w' W:=h.only (ab.aA hb (fun _=>False)) (by simp)
theorem b8.drewN (h:b8 w W) (n:Nat):b8 (w.drewN n) W:=h.only ((ab.refl (fun _=>False) w).drewN n) (by simp)
theorem b8.hd (h:b8 w W):w.cell? ⟨W.f,0,none⟩=some (.int .i64 W.cell)/\w.cell? ⟨W.f,1,none⟩=some (.int .u32 W.sum)/\w.cell? ⟨W.f,2,none⟩=some (.string W.key)/\w.cell? ⟨W.f,3,none⟩=some (DO W.nx W.f)/\
 w.cell? ⟨W.f,4,none⟩=some (.int .u64 W.at_)/\w.cell? ⟨W.f,5,none⟩=some (.int .u64 W.first)/\w.cell? ⟨W.f,6,none⟩=some (.int .u64 W.prev)/\w.cell? ⟨W.f,7,none⟩=some (.int .i64 W.read)/\w.cell? ⟨W.f,8,none⟩=some (.int .u64 W.found)/\
 w.cell? ⟨W.f,9,none⟩=some (.string W.nd.key)/\w.cell? ⟨W.f,10,none⟩=some (.string W.nd.val)/\w.cell? ⟨W.f,11,none⟩=some (.int .u32 W.nd.sum)/\w.cell? ⟨W.f,12,none⟩=some (.int .u64 W.nd.next):=
 ⟨h.cell 0,h.cell 1,h.cell 2,h.cell 3,h.cell 4,h.cell 5,h.cell 6,h.cell 7,h.cell 8,h.cell 9,h.cell 10,h.cell 11,h.cell 12⟩
theorem b8.dc (h:b8 w W) (i:Nat):w.frozen? ⟨W.f,i,none⟩=false:=af.frozen h i
theorem DK (m:Value) (w:World):Calls Tryz.prog 233 #[m] w fun e w'=>e=.returned (.bool true)/\w'=w:=by
 go_enter Tryz.func233,Tryz.ntmps233
 go_wp2
 go_ret
 exact ⟨rfl,rfl⟩
theorem pM (a m:Value) (w:World):Calls Tryz.prog 175 #[a,m] w fun e w'=>e=.returned (.bool true)/\w'=w:=by
 go_enter Tryz.func175,Tryz.ntmps175
 go_wp2
 go_ret
 exact ⟨rfl,rfl⟩
theorem nY (h:b8 w W):Calls Tryz.prog 222 #[ptr W.f] w fun e w'=>e=.returned (.bool true)/\b8 w' {W with nx:=3}/\ab (·=W.f) w w':=by
 have c3:=h.hd.2.2.2.1
 have z3:=h.dc 3
 have hS:Hid (b8 (w.setCell ⟨W.f,3,none⟩ (dY 233)) {W with nx:=3}):=Lib.hid (af.store h 3 _)
 clear h
 go_enter Tryz.func222,Tryz.ntmps222
 go_wp2
 go_ret
 exact ⟨rfl,hS.out,(ab.refl (·=W.f) w).setCell (p:=⟨W.f,3,none⟩) (.inl rfl) _⟩
theorem et (h:b8 w W) (x:Nat):Calls Tryz.prog 208 #[ptr W.f,.int .u64 x] w fun e w'=>e=.returned (.bool (decide (x=0)))/\b8 w' (dB W x)/\ab (·=W.f) w w':=by
 by_cases h0:x=0
 ·subst h0
  have hE:=Lib.hid (nY h)
  have hg:dB W 0={W with nx:=3}:=rfl
  rw [hg]
  clear h hg
  go_enter Tryz.func208,Tryz.ntmps208
  go_wp2_with fail
  refine hE.out.mono ?_
  rintro e w1 ⟨rfl,h1,h2⟩
  replace h1:=Lib.hid h1
  replace h2:=Lib.hid h2
  go_wp2_with fail
  go_ret
  exact ⟨rfl,h1.out,h2.out⟩
 ·have hg:dB W x={W with at_:=x,nx:=2}:=by unfold dB; rw [if_neg h0]
  rw [hg,show decide (x=0)=false by simp [h0]]
  have c3:=h.hd.2.2.2.1
  have c4:=h.hd.2.2.2.2.1
  have z3:=h.dc 3
  have z4:=h.dc 4
  have hS:Hid (b8 ((w.setCell ⟨W.f,4,none⟩ (.int .u64 x)).setCell ⟨W.f,3,none⟩ (aU 223 (ptr W.f))) {W with at_:=x,nx:=2}):=Lib.hid (af.store (af.store h 4 (.int .u64 x)) 3 (aU 223 (ptr W.f)))
  have e0:((x:Int)==0)=false:=by simp; omega
  clear h hg h0
  go_enter Tryz.func208,Tryz.ntmps208
  go_wp2_with fail
  go_ret
  exact ⟨rfl,hS.out,((ab.refl (·=W.f) w).setCell (p:=⟨W.f,4,none⟩) (.inl rfl) _).setCell (p:=⟨W.f,3,none⟩) (.inl rfl) _⟩
theorem nj (c s:Int) (k:ByteArray) (w:World):Calls Tryz.prog 153 #[.int .i64 c,.int .u32 s,.string k] w fun e w'=>e=.returned (ptr w.heap.size)/\b8 w' (new w.heap.size c s k)/\Below w.heap.size w w':=by
 go_enter Tryz.func153,Tryz.ntmps153
 go_wp2
 go_ret
 exact ⟨rfl,af.made w _ _,(Below.refl _ _).alloc (Nat.le_refl _) _⟩
theorem Vf (hM:ah w M) (c:Int) (h0: -9223372036854775808<=c) (h1:c<=9223372036854775807):Calls Tryz.prog 90 #[ptr M.g,.int .i64 c] w fun e w'=>e=.returned (.tuple #[.int .u64 (word M.xs c),.int .i64 (DP M.xs c)])/\w'=w:=by
 unfold word DP
 split
 ·rename_i h
  obtain ⟨k,rfl⟩:=Int.eq_ofNat_of_zero_le h.1
  have hv:=Cl.eU hM.2.1.2.2.1 k
  refine (Cl.nh hM.2.1 k (by omega)).mono fun e w' q=>⟨?_,q.2⟩
  rw [q.1,Int.toNat_natCast,Int.toNat_of_nonneg hv.1]
 ·exact (Cl.Na hM.2.1 c h0 h1 (by omega)).mono fun e w' q=>⟨q.1,q.2⟩
theorem wC (hM:ah w M) (hW:b8 w W) (hc: -9223372036854775808<=W.cell/\W.cell<=9223372036854775807):
 Calls Tryz.prog 189 #[ptr W.f,ptr M.m] w fun e w'=>e=.returned (.bool (decide (word M.xs W.cell=0)))/\b8 w' (dB {W with first:=word M.xs W.cell} (word M.xs W.cell))/\ab (·=W.f) w w':=by
 have hL:=Lib.hid (fun nq=>Vf (hM.drewN nq) W.cell hc.1 hc.2)
 have c0:=hW.hd.1
 have c5:=hW.hd.2.2.2.2.2.1
 have z5:=hW.dc 5
 have d0:=hM.hd.1
 have HW:=Lib.hid hW
 generalize word M.xs W.cell=x at*
 generalize DP M.xs W.cell=y at*
 clear hM hW hc
 go_enter Tryz.func189,Tryz.ntmps189
 go_wp2_with fail
 go_quiet ((go_at_call 90; exact Calls.quiet_of_same (hL.out _)))
 obtain ⟨w1,aJ⟩:∃ w1,w1=w.drewN nq:=⟨_,rfl⟩
 have jz:b8 w1 W:=by rw [aJ]; exact HW.out.drewN nq
 have ax:ab (·=W.f) w w1:=by rw [aJ]; exact (ab.refl _ _).drewN nq
 rw [<-aJ]
 clear aJ c0 c5 z5 d0 hL
 have c5:=jz.hd.2.2.2.2.2.1
 have z5:=jz.dc 5
 have hS:b8 (w1.setCell ⟨W.f,5,none⟩ (.int .u64 x)) {W with first:=x}:=af.store jz 5 _
 have hG:=Lib.hid (et hS x)
 have ae:=Lib.hid (ax.setCell (p:=⟨W.f,5,none⟩) (.inl rfl) (.int .u64 x))
 clear jz ax hS HW
 go_wp2_with fail
 refine hG.out.mono ?_
 rintro e w2 ⟨rfl,h2,h3⟩
 replace h2:=Lib.hid h2
 replace h3:=Lib.hid (ae.out.trans h3)
 clear ae hG c5 z5
 go_wp2_with fail
 go_ret
 exact ⟨rfl,h2.out,h3.out⟩
end
end Go.Proofs.YtpanebgakndddaaGreat.Wk
