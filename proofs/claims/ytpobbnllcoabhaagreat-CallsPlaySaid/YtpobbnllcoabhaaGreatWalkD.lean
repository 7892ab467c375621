/- Layer 9 (walk): a walk's step whole, in the words of plain lists; what its parts answer; behind mem.Finish; along a chain that stays. -/
import Derived.Test.YtpobbnllcoabhaaGreatWalkC
import Derived.Test.YtpobbnllcoabhaaGreatFinishN
set_option linter.unusedVariables false
set_option linter.unusedSimpArgs false
namespace Go.Proofs.YtpobbnllcoabhaaGreat.Wk
open Go Go.RowKit Hp K Fl Rw Hm Ar Mm Me
set_option maxRecDepth 100000
section
variable {w:World} {W:Wa}
theorem enters_lo (args:Array Value) (w:World):(callFunc 151 args).run Tryz.prog w=.ok (.enter 151 args) w:=by kernel_rfl
theorem enters_lk (args:Array Value) (w:World):(callFunc 191 args).run Tryz.prog w=.ok (.enter 191 args) w:=by kernel_rfl
theorem enters_do (args:Array Value) (w:World):(callFunc 203 args).run Tryz.prog w=.ok (.enter 203 args) w:=by kernel_rfl
theorem wstep_fm {F f:Nat} {cv m:Value} {c:Bool} {P:World→Prop} (c3:w.cell? ⟨f,3,none⟩=some (wfm F cv)) (eF:∀ args w,(callFunc F args).run Tryz.prog w=.ok (.enter F args) w)
 (hF:Calls Tryz.prog F #[cv,m] w fun e w'=>e=.returned (.bool c)∧P w'):Calls Tryz.prog 138 #[ptr f,m] w fun e w'=>e=.returned (.bool c)∧P w':=by
 replace hF:=Lib.hid hF
 go_enter Tryz.func138,Tryz.ntmps138
 go_wp2_with fail
 refine hF.out.mono ?_
 rintro e w' ⟨rfl,hPw⟩
 replace hPw:=Lib.hid hPw
 clear c3
 go_wp2_with fail
 go_ret
 exact ⟨rfl,hPw.out⟩
theorem wstep_f0 {F f:Nat} {m:Value} {c:Bool} {P:World→Prop} (c3:w.cell? ⟨f,3,none⟩=some (wf0 F)) (eF:∀ args w,(callFunc F args).run Tryz.prog w=.ok (.enter F args) w)
 (hF:Calls Tryz.prog F #[m] w fun e w'=>e=.returned (.bool c)∧P w'):Calls Tryz.prog 138 #[ptr f,m] w fun e w'=>e=.returned (.bool c)∧P w':=by
 replace hF:=Lib.hid hF
 go_enter Tryz.func138,Tryz.ntmps138
 go_wp2_with fail
 refine hF.out.mono ?_
 rintro e w' ⟨rfl,hPw⟩
 replace hPw:=Lib.hid hPw
 clear c3
 go_wp2_with fail
 go_ret
 exact ⟨rfl,hPw.out⟩
theorem prev_any (h:WaAt w W):Calls Tryz.prog 165 #[ptr W.f] w fun e w'=>e=.returned (.int .u64 W.prev)∧w=w':=by
 have c:=h.hd.2.2.2.2.2.2.1
 clear h
 go_enter Tryz.func165,Tryz.ntmps165
 go_wp2
 go_ret
 exact ⟨rfl,rfl⟩
theorem first_any (h:WaAt w W):Calls Tryz.prog 122 #[ptr W.f] w fun e w'=>e=.returned (.int .u64 W.first)∧w=w':=by
 have c:=h.hd.2.2.2.2.2.1
 clear h
 go_enter Tryz.func122,Tryz.ntmps122
 go_wp2
 go_ret
 exact ⟨rfl,rfl⟩
set_option maxHeartbeats 1000000 in
theorem found_any (h:WaAt w W):Calls Tryz.prog 102 #[ptr W.f] w fun e w'=>e=.returned (.tuple #[.int .u64 W.found,ndv W.nd,.bool (decide (W.found≠0))])∧Below w.heap.size w w':=by
 obtain ⟨_,_,_,_,_,_,_,_,c8,c9,c10,c11,c12⟩:=h.hd
 have lW:=h.lt
 have n8:=World.new_ne w ⟨W.f,8,none⟩ c8
 have hb:((W.found:Int) != 0)=decide (W.found≠0):=by rw [Bool.eq_iff_iff]; simp
 clear h
 unfold ndv
 generalize hd:decide (W.found≠0)=d at*
 generalize hf:W.found=x at*
 replace hd:=Lib.hid hd
 replace hf:=Lib.hid hf
 go_enter Tryz.func102,Tryz.ntmps102
 go_wp2_with fail
 go_region
 all_goals
  go_wp2_with fail
  refine bodyPost_ret (v:=.tuple #[.int .u64 x,.agg #[.string W.nd.key,.string W.nd.val,.int .u32 W.nd.sum,.int .u64 W.nd.next],.bool d]) (by simp [results,Tryz.results102,go_sem]) rfl ⟨?_,((Below.refl _ _).alloc (Nat.le_refl _) _).trans ⟨rfl,rfl,rfl,by simp,fun _ _=>rfl⟩⟩
  rfl
end
/-! ### a step,whole-/
def gstep (xs:List Int) (ss:List Sl) (s:Bool×Wa):Bool×Wa:=
 if s.2.nx=1 then (s.1,goTo {s.2 with first:=word xs s.2.cell} (word xs s.2.cell))
 else if s.2.nx=2 then (match pl ss s.2.at_ with
  | some k=>(s.1,looks s.2 (at' ss k).nd)
  | none=>(true,{s.2 with nx:=3}))
 else s
def gdone (xs:List Int) (ss:List Sl) (s:Bool×Wa):Bool:=decide (3≤(gstep xs ss s).2.nx)
structure Okw (r:Nat) (W:Wa):Prop where
 cell: -9223372036854775808≤W.cell∧W.cell≤9223372036854775807
 at_:W.at_≤18446744073709551615
 read:W.read+r≤4611686018427387904
 nx:1≤W.nx
theorem word_bd {xs:List Int} (h:∀ x∈xs,0≤x∧x≤18446744073709551615) (c:Int):word xs c≤18446744073709551615:=by
 unfold word
 split
 · have:=Cl.getD_bd h c.toNat; omega
 · omega
theorem goTo_nx (W:Wa) (h:Nat):decide (3≤(goTo W h).nx)=decide (h=0):=by
 unfold goTo
 split<;>simp [*]
theorem looks_nx (W:Wa) (n:Nd):decide (3≤(looks W n).nx)=lookD W n:=by
 unfold looks lookD
 split
 · simp [*]
 · rename_i h
   rw [goTo_nx]
   simp at h
   simp [h]
theorem goTo_f (W:Wa) (h:Nat):(goTo W h).f=W.f:=by unfold goTo; split<;>rfl
theorem gstep_f (xs:List Int) (ss:List Sl) (s:Bool×Wa):(gstep xs ss s).2.f=s.2.f:=by
 unfold gstep looks
 split
 · exact goTo_f _ _
 split
 · split
   · dsimp only
     split
     · rfl
     · exact goTo_f _ _
   · rfl
 · rfl
section
variable {w w':World} {M:Mo} {W:Wa}
theorem Okw.step {r:Nat} {s:Bool×Wa} {xs:List Int} {ss:List Sl} (hx:∀ x∈xs,0≤x∧x≤18446744073709551615) (hN:Nexts ss) (h:Okw (r+1) s.2):Okw r (gstep xs ss s).2:=by
 obtain ⟨h1,h2,h3,h4⟩:=h
 have go:∀ (W:Wa) (x:Nat),x≤18446744073709551615→Okw r W→Okw r (goTo W x):=fun W x hx h=>by
  unfold goTo
  split
  · exact ⟨h.cell,h.at_,h.read,by simp⟩
  · exact ⟨h.cell,hx,h.read,by simp⟩
 unfold gstep
 split
 · exact go _ _ (word_bd hx _) ⟨h1,h2,by simp only; omega,h4⟩
 split
 · split
   · rename_i k _
     unfold looks
     dsimp only
     split
     · exact ⟨h1,h2,by simp only; omega,by simp⟩
     · have:=(hN.at k)
       exact go _ _ (by omega) ⟨h1,h2,by simp only; omega,h4⟩
   · exact ⟨h1,h2,by simp only; omega,by simp⟩
 · exact ⟨h1,h2,by omega,h4⟩
theorem walk_step (hM:MemAt w M) (hW:WaAt w W) (hN:Nexts M.ss) {r:Nat} (ok:Okw (r+1) W):
 Calls Tryz.prog 138 #[ptr W.f,ptr M.m] w fun e w'=>e=.returned (.bool (gdone M.xs M.ss (M.F,W)))∧MemAt w' {M with F:=(gstep M.xs M.ss (M.F,W)).1}∧WaAt w' (gstep M.xs M.ss (M.F,W)).2∧Only (fun x=>mfoot M x∨x=W.f) w w':=by
 have c3:=hW.hd.2.2.2.1
 unfold wnv at c3
 have up:∀ w',Only (·=W.f) w w'→MemAt w' M∧Only (fun x=>mfoot M x∨x=W.f) w w':=fun w' ho=>⟨hM.only ho (fun x hx q=>by subst q; exact hW.far hM hx),ho.mono (fun x _ q=>.inr q)⟩
 have hl:=hM.2.2.2.1.room.2
 have hr:=ok.read
 unfold gdone
 by_cases e1:W.nx=1
 · have hs:gstep M.xs M.ss (M.F,W)=(M.F,goTo {W with first:=word M.xs W.cell} (word M.xs W.cell)):=by unfold gstep; rw [if_pos e1]
   rw [if_pos e1] at c3
   rw [hs,goTo_nx]
   exact wstep_fm c3 enters_lo ((load_any hM hW ok.cell).mono fun e w' q=>⟨q.1,(up w' q.2.2).1,q.2.1,(up w' q.2.2).2⟩)
 · rw [if_neg e1] at c3
   by_cases e2:W.nx=2
   · rw [if_pos e2] at c3
     cases hp:pl M.ss W.at_ with
     | some k=>
       have hs:gstep M.xs M.ss (M.F,W)=(M.F,looks W (at' M.ss k).nd):=by unfold gstep; simp only; rw [if_neg e1,if_pos e2,hp]
       rw [hs,looks_nx]
       exact wstep_fm c3 enters_lk ((look_ok hM hW ok.at_ ((pl_some hl).1 hp) hN (by omega)).mono fun e w' q=>⟨q.1,(up w' q.2.2).1,q.2.1,(up w' q.2.2).2⟩)
     | none=>
       have hs:gstep M.xs M.ss (M.F,W)=(true,{W with nx:=3}):=by unfold gstep; simp only; rw [if_neg e1,if_pos e2,hp]
       obtain ⟨c,hc⟩:=pl_none hl hp
       rw [hs]
       exact wstep_fm c3 enters_lk ((look_bad hM hW ok.at_ hc).mono fun e w' q=>⟨q.1,q.2.1,q.2.2.1,q.2.2.2⟩)
   · have hs:gstep M.xs M.ss (M.F,W)=(M.F,W):=by unfold gstep; simp only; rw [if_neg e1,if_neg e2]
     have:=ok.nx
     rw [if_neg e2] at c3
     rw [hs,show decide (3≤W.nx)=true by simp; omega]
     exact wstep_f0 c3 enters_do ((done_any _ w).mono fun e w' q=>⟨q.1,by rw [q.2]; exact ⟨hM,hW,Only.refl _ _⟩⟩)
theorem mrW (a:Addr) (w:World) (f:Nat):(method (f+1) 183 (.pointer (some a)) "Ready").run Tryz.prog w=.ok (137,.pointer (some a)) w:=by kernel_rfl
theorem msW (a:Addr) (w:World) (f:Nat):(method (f+1) 183 (.pointer (some a)) "Step").run Tryz.prog w=.ok (138,.pointer (some a)) w:=by kernel_rfl
theorem erW (args:Array Value) (w:World):(callFunc 137 args).run Tryz.prog w=.ok (.enter 137 args) w:=by kernel_rfl
theorem esW (args:Array Value) (w:World):(callFunc 138 args).run Tryz.prog w=.ok (.enter 138 args) w:=by kernel_rfl
abbrev wfin (xs:List Int) (ss:List Sl) (K:Nat) (s:Bool×Wa):=fin (fun _=>true) (gstep xs ss) (gdone xs ss) K s
def InvW (M:Mo) (f:Nat) (w0:World) (s:Bool×Wa) (w:World):Prop:=MemAt w {M with F:=s.1}∧WaAt w s.2∧s.2.f=f∧Only (fun x=>mfoot M x∨x=f) w0 w
theorem finish_walk (hM:MemAt w M) (hW:WaAt w W) (hN:Nexts M.ss) (K:Nat) (hK:K≤1000000) (ok:Okw K W):
 Calls Tryz.prog 21 #[ptr M.m,.iface 183 (ptr W.f),.int .i64 K] w fun e w'=>e=.returned (.tuple #[.int .i64 (wfin M.xs M.ss K (M.F,W)).1,.bool (wfin M.xs M.ss K (M.F,W)).2.1])∧
  InvW M W.f w (wfin M.xs M.ss K (M.F,W)).2.2 w':=by
 refine finish_n 183 137 138 W.f (ptr M.m) (InvW M W.f w) (fun k s=>Okw k s.2) (fun _=>true) (gstep M.xs M.ss) (gdone M.xs M.ss) (mrW _) (msW _) erW esW ?_ ?_ ?_ K hK (M.F,W) ok w ⟨hM,hW,rfl,Only.refl _ _⟩
 · rintro k s w1 h ok
   exact (ready_any _ _ w1).mono fun e w' q=>⟨q.1,by rw [q.2]; exact h⟩
 · rintro k s w1 ⟨h1,h2,h3,h4⟩ ok _
   have hs:=walk_step (M:={M with F:=s.1}) h1 h2 hN ok
   rw [h3] at hs
   exact hs.mono fun e w' h=>⟨h.1,h.2.1,h.2.2.1,(gstep_f _ _ _).trans h3,h4.trans h.2.2.2⟩
 · intro k s ok _ _
   exact ok.step hM.2.1.2.2.1 hN
end
/-! ### along a chain that stays-/
end Go.Proofs.YtpobbnllcoabhaaGreat.Wk
