/- A part. -/
import Derived.Test.YtpanebgakndddaaGreatWalkC
import Derived.Test.YtpanebgakndddaaGreatFinishN
set_option linter.unusedVariables false
set_option linter.unusedSimpArgs false
namespace Go.Proofs.YtpanebgakndddaaGreat.Wk
open Go Go.RowKit Hp K Fl Rw Hm Ar Mm Me
set_option maxRecDepth 100000
section
variable {w:World} {W:Wa}
theorem DM (args:Array Value) (w:World):(callFunc 189 args).run Tryz.prog w=.ok (.enter 189 args) w:=by kernel_rfl
theorem J8 (args:Array Value) (w:World):(callFunc 223 args).run Tryz.prog w=.ok (.enter 223 args) w:=by kernel_rfl
theorem DL (args:Array Value) (w:World):(callFunc 233 args).run Tryz.prog w=.ok (.enter 233 args) w:=by kernel_rfl
theorem DQ {F f:Nat} {cv m:Value} {c:Bool} {P:World->Prop} (c3:w.cell? ⟨f,3,none⟩=some (aU F cv)) (eF:∀ args w,(callFunc F args).run Tryz.prog w=.ok (.enter F args) w)
 (hF:Calls Tryz.prog F #[cv,m] w fun e w'=>e=.returned (.bool c)/\P w'):Calls Tryz.prog 176 #[ptr f,m] w fun e w'=>e=.returned (.bool c)/\P w':=by
 replace hF:=Lib.hid hF
 go_enter Tryz.func176,Tryz.ntmps176
 go_wp2_with fail
 refine hF.out.mono ?_
 rintro e w' ⟨rfl,bq⟩
 replace bq:=Lib.hid bq
 clear c3
 go_wp2_with fail
 go_ret
 exact ⟨rfl,bq.out⟩
theorem Vi {F f:Nat} {m:Value} {c:Bool} {P:World->Prop} (c3:w.cell? ⟨f,3,none⟩=some (dY F)) (eF:∀ args w,(callFunc F args).run Tryz.prog w=.ok (.enter F args) w)
 (hF:Calls Tryz.prog F #[m] w fun e w'=>e=.returned (.bool c)/\P w'):Calls Tryz.prog 176 #[ptr f,m] w fun e w'=>e=.returned (.bool c)/\P w':=by
 replace hF:=Lib.hid hF
 go_enter Tryz.func176,Tryz.ntmps176
 go_wp2_with fail
 refine hF.out.mono ?_
 rintro e w' ⟨rfl,bq⟩
 replace bq:=Lib.hid bq
 clear c3
 go_wp2_with fail
 go_ret
 exact ⟨rfl,bq.out⟩
theorem JB (h:b8 w W):Calls Tryz.prog 202 #[ptr W.f] w fun e w'=>e=.returned (.int .u64 W.prev)/\w=w':=by
 have c:=h.hd.2.2.2.2.2.2.1
 clear h
 go_enter Tryz.func202,Tryz.ntmps202
 go_wp2
 go_ret
 exact ⟨rfl,rfl⟩
theorem IB (h:b8 w W):Calls Tryz.prog 154 #[ptr W.f] w fun e w'=>e=.returned (.int .u64 W.first)/\w=w':=by
 have c:=h.hd.2.2.2.2.2.1
 clear h
 go_enter Tryz.func154,Tryz.ntmps154
 go_wp2
 go_ret
 exact ⟨rfl,rfl⟩
set_option maxHeartbeats 1000000 in
theorem Cj (h:b8 w W):Calls Tryz.prog 128 #[ptr W.f] w fun e w'=>e=.returned (.tuple #[.int .u64 W.found,eg W.nd,.bool (decide (W.found≠0))])/\Below w.heap.size w w':=by
 obtain ⟨_,_,_,_,_,_,_,_,c8,c9,c10,c11,c12⟩:=h.hd
 have lW:=h.lt
 have n8:=World.new_ne w ⟨W.f,8,none⟩ c8
 have hb:((W.found:Int) != 0)=decide (W.found≠0):=by rw [Bool.eq_iff_iff]; simp
 clear h
 unfold eg
 generalize hd:decide (W.found≠0)=d at*
 generalize hf:W.found=x at*
 replace hd:=Lib.hid hd
 replace hf:=Lib.hid hf
 go_enter Tryz.func128,Tryz.ntmps128
 go_wp2_with fail
 go_region
 all_goals
  go_wp2_with fail
  refine bodyPost_ret (v:=.tuple #[.int .u64 x,.agg #[.string W.nd.key,.string W.nd.val,.int .u32 W.nd.sum,.int .u64 W.nd.next],.bool d]) (by simp [results,Tryz.results128,go_sem]) rfl ⟨?_,((Below.refl _ _).alloc (Nat.le_refl _) _).trans ⟨rfl,rfl,rfl,by simp,fun _ _=>rfl⟩⟩
  rfl
end
/-! ### a step,whole-/
def aE (xs:List Int) (ss:List Sl) (s:Bool×Wa):Bool×Wa:=
 if s.2.nx=1 then (s.1,dB {s.2 with first:=word xs s.2.cell} (word xs s.2.cell))
 else if s.2.nx=2 then (match pl ss s.2.at_ with
  | some k=>(s.1,looks s.2 (aj ss k).nd)
  | none=>(true,{s.2 with nx:=3}))
 else s
def cp (xs:List Int) (ss:List Sl) (s:Bool×Wa):Bool:=decide (3<=(aE xs ss s).2.nx)
structure eV (r:Nat) (W:Wa):Prop where
 cell: -9223372036854775808<=W.cell/\W.cell<=9223372036854775807
 at_:W.at_<=18446744073709551615
 read:W.read+r<=4611686018427387904
 nx:1<=W.nx
theorem HJ {xs:List Int} (h:∀ x∈xs,0<=x/\x<=18446744073709551615) (c:Int):word xs c<=18446744073709551615:=by
 unfold word
 split
 ·have:=Cl.eU h c.toNat; omega
 ·omega
theorem zr (W:Wa) (h:Nat):decide (3<=(dB W h).nx)=decide (h=0):=by
 unfold dB
 split<;>simp [*]
theorem Cr (W:Wa) (n:Nd):decide (3<=(looks W n).nx)=nV W n:=by
 unfold looks nV
 split
 ·simp [*]
 ·rename_i h
  rw [zr]
  simp at h
  simp [h]
theorem J9 (W:Wa) (h:Nat):(dB W h).f=W.f:=by unfold dB; split<;>rfl
theorem Vj (xs:List Int) (ss:List Sl) (s:Bool×Wa):(aE xs ss s).2.f=s.2.f:=by
 unfold aE looks
 split
 ·exact J9 _ _
 split
 ·split
  ·dsimp only
   split
   ·rfl
   ·exact J9 _ _
  ·rfl
 ·rfl
section
variable {w w':World} {M:Mo} {W:Wa}
theorem eV.step {r:Nat} {s:Bool×Wa} {xs:List Int} {ss:List Sl} (hx:∀ x∈xs,0<=x/\x<=18446744073709551615) (hN:ff ss) (h:eV (r+1) s.2):eV r (aE xs ss s).2:=by
 obtain ⟨h1,h2,h3,h4⟩:=h
 have go:∀ (W:Wa) (x:Nat),x<=18446744073709551615->eV r W->eV r (dB W x):=fun W x hx h=>by
  unfold dB
  split
  ·exact ⟨h.cell,h.at_,h.read,by simp⟩
  ·exact ⟨h.cell,hx,h.read,by simp⟩
 unfold aE
 split
 ·exact go _ _ (HJ hx _) ⟨h1,h2,by simp only; omega,h4⟩
 split
 ·split
  ·rename_i k _
   unfold looks
   dsimp only
   split
   ·exact ⟨h1,h2,by simp only; omega,by simp⟩
   ·have:=(hN.at k)
    exact go _ _ (by omega) ⟨h1,h2,by simp only; omega,h4⟩
  ·exact ⟨h1,h2,by simp only; omega,by simp⟩
 ·exact ⟨h1,h2,by omega,h4⟩
theorem Co (hM:ah w M) (hW:b8 w W) (hN:ff M.ss) {r:Nat} (ok:eV (r+1) W):
 Calls Tryz.prog 176 #[ptr W.f,ptr M.m] w fun e w'=>e=.returned (.bool (cp M.xs M.ss (M.F,W)))/\ah w' {M with F:=(aE M.xs M.ss (M.F,W)).1}/\b8 w' (aE M.xs M.ss (M.F,W)).2/\ab (fun x=>aq M x\/x=W.f) w w':=by
 have c3:=hW.hd.2.2.2.1
 unfold DO at c3
 have up:∀ w',ab (·=W.f) w w'->ah w' M/\ab (fun x=>aq M x\/x=W.f) w w':=fun w' ho=>⟨hM.only ho (fun x hx q=>by subst q; exact hW.aB hM hx),ho.mono (fun x _ q=>.inr q)⟩
 have hl:=hM.2.2.2.1.room.2
 have hr:=ok.read
 unfold cp
 by_cases e1:W.nx=1
 ·have hs:aE M.xs M.ss (M.F,W)=(M.F,dB {W with first:=word M.xs W.cell} (word M.xs W.cell)):=by unfold aE; rw [if_pos e1]
  rw [if_pos e1] at c3
  rw [hs,zr]
  exact DQ c3 DM ((wC hM hW ok.cell).mono fun e w' q=>⟨q.1,(up w' q.2.2).1,q.2.1,(up w' q.2.2).2⟩)
 ·rw [if_neg e1] at c3
  by_cases e2:W.nx=2
  ·rw [if_pos e2] at c3
   cases hp:pl M.ss W.at_ with
   | some k=>
     have hs:aE M.xs M.ss (M.F,W)=(M.F,looks W (aj M.ss k).nd):=by unfold aE; simp only; rw [if_neg e1,if_pos e2,hp]
     rw [hs,Cr]
     exact DQ c3 J8 ((look_ok hM hW ok.at_ ((zt hl).1 hp) hN (by omega)).mono fun e w' q=>⟨q.1,(up w' q.2.2).1,q.2.1,(up w' q.2.2).2⟩)
   | none=>
     have hs:aE M.xs M.ss (M.F,W)=(true,{W with nx:=3}):=by unfold aE; simp only; rw [if_neg e1,if_pos e2,hp]
     obtain ⟨c,hc⟩:=Vg hl hp
     rw [hs]
     exact DQ c3 J8 ((Vh hM hW ok.at_ hc).mono fun e w' q=>⟨q.1,q.2.1,q.2.2.1,q.2.2.2⟩)
  ·have hs:aE M.xs M.ss (M.F,W)=(M.F,W):=by unfold aE; simp only; rw [if_neg e1,if_neg e2]
   have:=ok.nx
   rw [if_neg e2] at c3
   rw [hs,show decide (3<=W.nx)=true by simp; omega]
   exact Vi c3 DL ((DK _ w).mono fun e w' q=>⟨q.1,by rw [q.2]; exact ⟨hM,hW,ab.refl _ _⟩⟩)
theorem Dp (a:Addr) (w:World) (f:Nat):(method (f+1) 211 (.pointer (some a)) "Ready").run Tryz.prog w=.ok (175,.pointer (some a)) w:=by kernel_rfl
theorem Dq (a:Addr) (w:World) (f:Nat):(method (f+1) 211 (.pointer (some a)) "Step").run Tryz.prog w=.ok (176,.pointer (some a)) w:=by kernel_rfl
theorem Dr (args:Array Value) (w:World):(callFunc 175 args).run Tryz.prog w=.ok (.enter 175 args) w:=by kernel_rfl
theorem Ds (args:Array Value) (w:World):(callFunc 176 args).run Tryz.prog w=.ok (.enter 176 args) w:=by kernel_rfl
abbrev wT (xs:List Int) (ss:List Sl) (K:Nat) (s:Bool×Wa):=fin (fun _=>true) (aE xs ss) (cp xs ss) K s
def uv (M:Mo) (f:Nat) (w0:World) (s:Bool×Wa) (w:World):Prop:=ah w {M with F:=s.1}/\b8 w s.2/\s.2.f=f/\ab (fun x=>aq M x\/x=f) w0 w
theorem RI (hM:ah w M) (hW:b8 w W) (hN:ff M.ss) (K:Nat) (hK:K<=1000000) (ok:eV K W):
 Calls Tryz.prog 58 #[ptr M.m,.iface 211 (ptr W.f),.int .i64 K] w fun e w'=>e=.returned (.tuple #[.int .i64 (wT M.xs M.ss K (M.F,W)).1,.bool (wT M.xs M.ss K (M.F,W)).2.1])/\
  uv M W.f w (wT M.xs M.ss K (M.F,W)).2.2 w':=by
 refine Cd 211 175 176 W.f (ptr M.m) (uv M W.f w) (fun k s=>eV k s.2) (fun _=>true) (aE M.xs M.ss) (cp M.xs M.ss) (Dp _) (Dq _) Dr Ds ?_ ?_ ?_ K hK (M.F,W) ok w ⟨hM,hW,rfl,ab.refl _ _⟩
 ·rintro k s w1 h ok
  exact (pM _ _ w1).mono fun e w' q=>⟨q.1,by rw [q.2]; exact h⟩
 ·rintro k s w1 ⟨h1,h2,h3,h4⟩ ok _
  have hs:=Co (M:={M with F:=s.1}) h1 h2 hN ok
  rw [h3] at hs
  exact hs.mono fun e w' h=>⟨h.1,h.2.1,h.2.2.1,(Vj _ _ _).trans h3,h4.trans h.2.2.2⟩
 ·intro k s ok _ _
  exact ok.step hM.2.1.2.2.1 hN
end
/-! ### along a chain that stays-/
end Go.Proofs.YtpanebgakndddaaGreat.Wk
