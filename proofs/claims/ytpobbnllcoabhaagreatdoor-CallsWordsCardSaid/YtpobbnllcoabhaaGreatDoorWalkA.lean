/- Walks over layer 9 (walk): a walk's steps, each by what its memory has; what its parts answer. -/
import Derived.Test.YtpobbnllcoabhaaGreatDoorMemNew
import Derived.Deep.RegionHeld3
import Derived.Laws.EntriesVeiled
import Derived.Deep.QuietTactic
import Derived.BigQuiet
import Derived.StillTailTactics
set_option linter.unusedVariables false
set_option linter.unusedSimpArgs false
namespace Go.Proofs.YtpobbnllcoabhaaGreatDoor.Wk
open Go Go.RowKit Hp K Fl Rw Hm Ar Mm Me
set_option maxRecDepth 100000
abbrev wf0 (F:Nat):Value:=.func (.func F) #[] #[]
abbrev wfm (F:Nat) (v:Value):Value:=.func (.func F) #[v] #[]
structure Wa where
 f:Nat
 cell:Int
 sum:Int
 key:ByteArray
 nx:Nat
 at_:Nat
 first:Nat
 prev:Nat
 read:Nat
 found:Nat
 nd:Nd
def wnv (nx f:Nat):Value:=if nx=1 then wfm 113 (ptr f) else if nx=2 then wfm 170 (ptr f) else wf0 183
def wac (W:Wa):Array Value:=#[.int .i64 W.cell,.int .u32 W.sum,.string W.key,wnv W.nx W.f,.int .u64 W.at_,.int .u64 W.first,.int .u64 W.prev,.int .i64 W.read,.int .u64 W.found,.string W.nd.key,.string W.nd.val,.int .u32 W.nd.sum,.int .u64 W.nd.next]
def WaAt (w:World) (W:Wa):Prop:=Blk w W.f 166 (wac W)
def word (xs:List Int) (c:Int):Nat:=if 0≤c∧c<xs.length then (Cl.nth xs c.toNat).toNat else 0
def wcode (xs:List Int) (c:Int):Int:=if 0≤c∧c<xs.length then 0 else 2
def goTo (W:Wa) (h:Nat):Wa:=if h=0 then {W with nx:=3} else {W with at_:=h,nx:=2}
def new (f:Nat) (c s:Int) (k:ByteArray):Wa:=⟨f,c,s,k,1,0,0,0,0,0,.zero⟩
section
variable {w w':World} {M:Mo} {W:Wa}
theorem WaAt.far (h:WaAt w W) (hM:MemAt w M):¬mfoot M W.f:=fun hx=>(hM.ty hx).apart (blk_ty h) (by decide)
theorem WaAt.only {S:Nat→Prop} (h:WaAt w W) (ho:Only S w w') (hn:¬S W.f):WaAt w' W:=Blk.only h ho hn
theorem WaAt.below (h:WaAt w W) (hb:Below w.heap.size w w'):WaAt w' W:=h.only (Only.ofBelow hb (fun _=>False)) (by simp)
theorem WaAt.drewN (h:WaAt w W) (n:Nat):WaAt (w.drewN n) W:=h.only ((Only.refl (fun _=>False) w).drewN n) (by simp)
theorem WaAt.hd (h:WaAt w W):w.cell? ⟨W.f,0,none⟩=some (.int .i64 W.cell)∧w.cell? ⟨W.f,1,none⟩=some (.int .u32 W.sum)∧w.cell? ⟨W.f,2,none⟩=some (.string W.key)∧w.cell? ⟨W.f,3,none⟩=some (wnv W.nx W.f)∧
 w.cell? ⟨W.f,4,none⟩=some (.int .u64 W.at_)∧w.cell? ⟨W.f,5,none⟩=some (.int .u64 W.first)∧w.cell? ⟨W.f,6,none⟩=some (.int .u64 W.prev)∧w.cell? ⟨W.f,7,none⟩=some (.int .i64 W.read)∧w.cell? ⟨W.f,8,none⟩=some (.int .u64 W.found)∧
 w.cell? ⟨W.f,9,none⟩=some (.string W.nd.key)∧w.cell? ⟨W.f,10,none⟩=some (.string W.nd.val)∧w.cell? ⟨W.f,11,none⟩=some (.int .u32 W.nd.sum)∧w.cell? ⟨W.f,12,none⟩=some (.int .u64 W.nd.next):=
 ⟨h.cell 0,h.cell 1,h.cell 2,h.cell 3,h.cell 4,h.cell 5,h.cell 6,h.cell 7,h.cell 8,h.cell 9,h.cell 10,h.cell 11,h.cell 12⟩
theorem WaAt.frz (h:WaAt w W) (i:Nat):w.frozen? ⟨W.f,i,none⟩=false:=Blk.frozen h i
theorem done_any (m:Value) (w:World):Calls Tryz.prog 183 #[m] w fun e w'=>e=.returned (.bool true)∧w'=w:=by
 go_enter Tryz.func183,Tryz.ntmps183
 go_wp2
 go_ret
 exact ⟨rfl,rfl⟩
theorem ready_any (a m:Value) (w:World):Calls Tryz.prog 123 #[a,m] w fun e w'=>e=.returned (.bool true)∧w'=w:=by
 go_enter Tryz.func123,Tryz.ntmps123
 go_wp2
 go_ret
 exact ⟨rfl,rfl⟩
theorem end_any (h:WaAt w W):Calls Tryz.prog 169 #[ptr W.f] w fun e w'=>e=.returned (.bool true)∧WaAt w' {W with nx:=3}∧Only (·=W.f) w w':=by
 have c3:=h.hd.2.2.2.1
 have z3:=h.frz 3
 have hS:Hid (WaAt (w.setCell ⟨W.f,3,none⟩ (wf0 183)) {W with nx:=3}):=Lib.hid (Blk.store h 3 _)
 clear h
 go_enter Tryz.func169,Tryz.ntmps169
 go_wp2
 go_ret
 exact ⟨rfl,hS.out,(Only.refl (·=W.f) w).setCell (p:=⟨W.f,3,none⟩) (.inl rfl) _⟩
theorem goOn_any (h:WaAt w W) (x:Nat):Calls Tryz.prog 147 #[ptr W.f,.int .u64 x] w fun e w'=>e=.returned (.bool (decide (x=0)))∧WaAt w' (goTo W x)∧Only (·=W.f) w w':=by
 by_cases h0:x=0
 · subst h0
   have hE:=Lib.hid (end_any h)
   have hg:goTo W 0={W with nx:=3}:=rfl
   rw [hg]
   clear h hg
   go_enter Tryz.func147,Tryz.ntmps147
   go_wp2_with fail
   refine hE.out.mono ?_
   rintro e w1 ⟨rfl,h1,h2⟩
   replace h1:=Lib.hid h1
   replace h2:=Lib.hid h2
   go_wp2_with fail
   go_ret
   exact ⟨rfl,h1.out,h2.out⟩
 · have hg:goTo W x={W with at_:=x,nx:=2}:=by unfold goTo; rw [if_neg h0]
   rw [hg,show decide (x=0)=false by simp [h0]]
   have c3:=h.hd.2.2.2.1
   have c4:=h.hd.2.2.2.2.1
   have z3:=h.frz 3
   have z4:=h.frz 4
   have hS:Hid (WaAt ((w.setCell ⟨W.f,4,none⟩ (.int .u64 x)).setCell ⟨W.f,3,none⟩ (wfm 170 (ptr W.f))) {W with at_:=x,nx:=2}):=Lib.hid (Blk.store (Blk.store h 4 (.int .u64 x)) 3 (wfm 170 (ptr W.f)))
   have e0:((x:Int)==0)=false:=by simp; omega
   clear h hg h0
   go_enter Tryz.func147,Tryz.ntmps147
   go_wp2_with fail
   go_ret
   exact ⟨rfl,hS.out,((Only.refl (·=W.f) w).setCell (p:=⟨W.f,4,none⟩) (.inl rfl) _).setCell (p:=⟨W.f,3,none⟩) (.inl rfl) _⟩
theorem new_any (c s:Int) (k:ByteArray) (w:World):Calls Tryz.prog 83 #[.int .i64 c,.int .u32 s,.string k] w fun e w'=>e=.returned (ptr w.heap.size)∧WaAt w' (new w.heap.size c s k)∧Below w.heap.size w w':=by
 go_enter Tryz.func83,Tryz.ntmps83
 go_wp2
 go_ret
 exact ⟨rfl,Blk.made w _ _,(Below.refl _ _).alloc (Nat.le_refl _) _⟩
theorem cload_any (hM:MemAt w M) (c:Int) (h0: -9223372036854775808≤c) (h1:c≤9223372036854775807):Calls Tryz.prog 54 #[ptr M.g,.int .i64 c] w fun e w'=>e=.returned (.tuple #[.int .u64 (word M.xs c),.int .i64 (wcode M.xs c)])∧w'=w:=by
 unfold word wcode
 split
 · rename_i h
   obtain ⟨k,rfl⟩:=Int.eq_ofNat_of_zero_le h.1
   have hv:=Cl.getD_bd hM.2.1.2.2.1 k
   refine (Cl.load_in hM.2.1 k (by omega)).mono fun e w' q=>⟨?_,q.2⟩
   rw [q.1,Int.toNat_natCast,Int.toNat_of_nonneg hv.1]
 · exact (Cl.load_out hM.2.1 c h0 h1 (by omega)).mono fun e w' q=>⟨q.1,q.2⟩
theorem load_any (hM:MemAt w M) (hW:WaAt w W) (hc: -9223372036854775808≤W.cell∧W.cell≤9223372036854775807):
 Calls Tryz.prog 113 #[ptr W.f,ptr M.m] w fun e w'=>e=.returned (.bool (decide (word M.xs W.cell=0)))∧WaAt w' (goTo {W with first:=word M.xs W.cell} (word M.xs W.cell))∧Only (·=W.f) w w':=by
 have hL:=Lib.hid (fun nq=>cload_any (hM.drewN nq) W.cell hc.1 hc.2)
 have c0:=hW.hd.1
 have c5:=hW.hd.2.2.2.2.2.1
 have z5:=hW.frz 5
 have d0:=hM.hd.1
 have HW:=Lib.hid hW
 generalize word M.xs W.cell=x at*
 generalize wcode M.xs W.cell=y at*
 clear hM hW hc
 go_enter Tryz.func113,Tryz.ntmps113
 go_wp2_with fail
 go_quiet ((go_at_call 54; exact Calls.quiet_of_same (hL.out _)))
 obtain ⟨w1,hw1⟩:∃ w1,w1=w.drewN nq:=⟨_,rfl⟩
 have hW1:WaAt w1 W:=by rw [hw1]; exact HW.out.drewN nq
 have hO1:Only (·=W.f) w w1:=by rw [hw1]; exact (Only.refl _ _).drewN nq
 rw [← hw1]
 clear hw1 c0 c5 z5 d0 hL
 have c5:=hW1.hd.2.2.2.2.2.1
 have z5:=hW1.frz 5
 have hS:WaAt (w1.setCell ⟨W.f,5,none⟩ (.int .u64 x)) {W with first:=x}:=Blk.store hW1 5 _
 have hG:=Lib.hid (goOn_any hS x)
 have hO2:=Lib.hid (hO1.setCell (p:=⟨W.f,5,none⟩) (.inl rfl) (.int .u64 x))
 clear hW1 hO1 hS HW
 go_wp2_with fail
 refine hG.out.mono ?_
 rintro e w2 ⟨rfl,h2,h3⟩
 replace h2:=Lib.hid h2
 replace h3:=Lib.hid (hO2.out.trans h3)
 clear hO2 hG c5 z5
 go_wp2_with fail
 go_ret
 exact ⟨rfl,h2.out,h3.out⟩
end
end Go.Proofs.YtpobbnllcoabhaaGreatDoor.Wk
