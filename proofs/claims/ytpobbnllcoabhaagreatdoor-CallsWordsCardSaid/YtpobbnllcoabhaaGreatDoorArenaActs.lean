/- Walks over layer 4 (arena): Read, Link, Free, Alloc, New. -/
import Derived.Test.YtpobbnllcoabhaaGreatDoorArenaWalk
import Derived.Deep.MidRow
import Derived.BigRegion
set_option linter.unusedVariables false
set_option linter.unusedSimpArgs false
namespace Go.Proofs.YtpobbnllcoabhaaGreatDoor.Ar
open Go Go.RowKit Hp K Rw Hm Hw Fl
set_option maxRecDepth 100000
section
variable {w w':World} {g sb fb:Nat} {ss:List Sl} {F:Bool}
theorem read_ok (h:ArenaAt w g sb fb ss F) {x k:Nat} (hx:x≤18446744073709551615) (ha:IsAt ss x k):
 Calls Tryz.prog 110 #[.pointer (some ⟨g,0,none⟩),.int .u64 x] w fun e w'=>e=.returned (.tuple #[ndv (at' ss k).nd,.int .i64 0])∧Below w.heap.size w w':=by
 have hf:Hid (∀ o,Calls Tryz.prog 144 #[.pointer (some ⟨g,0,none⟩),.int .u64 x] (w.alloc o) fun e w'=>e=.returned (.tuple #[.int .i64 k,.int .i64 0])∧w.alloc o=w'):=Lib.hid fun o=>use_ok (h.alloc o) hx ha
 have hc:=h.slots
 have hl:=h.room
 have hcs:=h.cells k ha.1
 have c2:=(hcs 2 (by omega)).1
 have c3:=(hcs 3 (by omega)).1
 have c4:=(hcs 4 (by omega)).1
 have c5:=(hcs 5 (by omega)).1
 simp [sl] at c2 c3 c4 c5
 have hgl:g<w.heap.size:=(World.block_lt_of_cell? _ _ hc)
 have hbl:sb<w.heap.size:=(World.block_lt_of_cell? _ _ c2)
 have hk:=ha.1
 clear h ha hcs hx
 go_enter Tryz.func110,Tryz.ntmps110
 go_wp2_with (go_at_call 144; refine (hf.out _).mono ?_; rintro e w' ⟨rfl,rfl⟩)
 exact bodyPost_ret (v:=.tuple #[ndv (at' ss k).nd,.int .i64 0]) (by simp [results,Tryz.results110,go_sem,ndv]) rfl ⟨rfl,(Below.refl _ _).alloc (Nat.le_refl _) _⟩
theorem read_bad (h:ArenaAt w g sb fb ss F) {x:Nat} {c:Int} (hx:x≤18446744073709551615) (hb:Bad ss x c):
 Calls Tryz.prog 110 #[.pointer (some ⟨g,0,none⟩),.int .u64 x] w fun e w'=>e=.returned (.tuple #[ndv .zero,.int .i64 c])∧ArenaAt w' g sb fb ss true∧Only (afoot g sb fb) w w':=by
 have hf:Hid (∀ o,Calls Tryz.prog 144 #[.pointer (some ⟨g,0,none⟩),.int .u64 x] (w.alloc o) fun e w'=>e=.returned (.tuple #[.int .i64 0,.int .i64 c])∧ArenaAt w' g sb fb ss true∧Only (afoot g sb fb) (w.alloc o) w'):=Lib.hid fun o=>use_bad (h.alloc o) hx hb
 have hlt:∀ x,afoot g sb fb x→x<w.heap.size:=h.lt
 have hnew:¬afoot g sb fb w.heap.size:=fun e=>Nat.lt_irrefl _ (hlt _ e)
 replace hlt:=Lib.hid hlt
 replace hnew:=Lib.hid hnew
 rcases hb.code with rfl | rfl
 all_goals
  clear h hb hx
  go_enter Tryz.func110,Tryz.ntmps110
  go_wp2_with (go_at_call 144; refine (hf.out _).mono ?_; rintro e w1 ⟨rfl,hA1,hO1⟩
               have hB1:=(Blk.made w 139 #[.string ⟨#[]⟩,.string ⟨#[]⟩,.int .u32 0,.int .u64 0]).only hO1 hnew.out
               have d0:=hB1.cell 0
               have d1:=hB1.cell 1
               have d2:=hB1.cell 2
               have d3:=hB1.cell 3
               simp at d0 d1 d2 d3
               have e0:=hB1.frozen 0
               have e1:=hB1.frozen 1
               have e2:=hB1.frozen 2
               have e3:=hB1.frozen 3
               replace hA1:=Lib.hid hA1
               replace hO1:=Lib.hid hO1)
  have hOs:=(((((Only.refl (·=w.heap.size) w1).setCell (p:=⟨w.heap.size,0,none⟩) (.inl rfl) (.string ⟨#[]⟩)).setCell (p:=⟨w.heap.size,1,none⟩) (.inl rfl) (.string ⟨#[]⟩)).setCell (p:=⟨w.heap.size,2,none⟩) (.inl rfl) (.int .u32 0)).setCell (p:=⟨w.heap.size,3,none⟩) (.inl rfl) (.int .u64 0))
  have hA2:=hA1.out.only hOs (fun x hx e=>hnew.out (e▸hx))
  have hO2:=(((Only.refl (afoot g sb fb) w).alloc _).trans' (S':=afoot g sb fb) hO1.out (fun _ _ q=>q)).trans' (S':=(·=w.heap.size)) hOs (fun x hx e=>absurd e (Nat.ne_of_lt hx))
  clear hOs hB1 e0 e1 e2 e3
  replace hA2:=Lib.hid hA2
  replace hO2:=Lib.hid hO2
  refine bodyPost_ret (v:=.tuple #[ndv .zero,.int .i64 _]) ?_ rfl ⟨rfl,hA2.out,hO2.out⟩
  simp [results,Tryz.results110,go_sem,ndv,Nd.zero,d0,d1,d2,d3]
theorem link_ok (h:ArenaAt w g sb fb ss F) {x k:Nat} (hx:x≤18446744073709551615) (ha:IsAt ss x k) (y:Int):
 Calls Tryz.prog 158 #[.pointer (some ⟨g,0,none⟩),.int .u64 x,.int .u64 y] w fun e w'=>e=.returned (.int .i64 0)∧ArenaAt w' g sb fb (ss.set k {at' ss k with nd:={(at' ss k).nd with next:=y}}) F∧Only (afoot g sb fb) w w':=by
 have hf:=Lib.hid (use_ok h hx ha)
 have hc:=h.slots
 have hl:=h.room
 have hcs:=h.cells k ha.1
 have c5:=hcs 5 (by omega)
 simp [sl] at c5
 obtain ⟨c5,f5⟩:=c5
 have hk:=ha.1
 have hS:=Lib.hid (h.setOne k ha.1 5 (by omega) (.int .u64 y) {at' ss k with nd:={(at' ss k).nd with next:=y}} rfl rfl)
 clear hcs hx ha h
 go_enter Tryz.func158,Tryz.ntmps158
 go_wp2_with (go_at_call 144; refine hf.out.mono ?_; rintro e w' ⟨rfl,rfl⟩)
 go_ret
 exact ⟨rfl,hS.out⟩
def Half (w:World) (g sb fb:Nat) (ss ss':List Sl) (F:Bool) (fr:List Nat):Prop:=
 Put w g fb ss.length fr (S0 sb ss.length) (.bool F)∧Blk w sb 192 (ss'.flatMap sl).toArray∧g≠sb∧sb≠fb∧g≠fb
theorem Half.done {fr r:List Nat} {ss':List Sl} (h:Half w g sb fb ss ss' F fr) (hl:ss'.length=ss.length) (hr:1≤ss.length∧ss.length≤1024) (hP:Put w' g fb ss.length r (S0 sb ss.length) (.bool F)) (ho:Only (fun z=>z=g∨z=fb) w w') (hF:FreeOk ss' r):ArenaAt w' g sb fb ss' F:=
 ⟨r,by rw [hl]; exact hP,h.2.1.only ho (by rintro (e | e); exact h.2.2.1 e.symm; exact h.2.2.2.1 e),hF,by rw [hl]; exact hr⟩
theorem half_free (h:ArenaAt w g sb fb ss F) (k:Nat) (hk:k<ss.length):∃ fr,FreeOk ss fr∧
 Half ((((((w.setCell ⟨sb,k*6,none⟩ (.bool false)).setCell ⟨sb,k*6+1,none⟩ (.int .u64 ((at' ss k).gen+1))).setCell ⟨sb,k*6+2,none⟩ (.string ⟨#[]⟩)).setCell ⟨sb,k*6+3,none⟩ (.string ⟨#[]⟩)).setCell ⟨sb,k*6+4,none⟩ (.int .u32 0)).setCell ⟨sb,k*6+5,none⟩ (.int .u64 0)).drew
  g sb fb ss (ss.set k ⟨false,(at' ss k).gen+1,.zero⟩) F fr∧
 Only (·=sb) w ((((((w.setCell ⟨sb,k*6,none⟩ (.bool false)).setCell ⟨sb,k*6+1,none⟩ (.int .u64 ((at' ss k).gen+1))).setCell ⟨sb,k*6+2,none⟩ (.string ⟨#[]⟩)).setCell ⟨sb,k*6+3,none⟩ (.string ⟨#[]⟩)).setCell ⟨sb,k*6+4,none⟩ (.int .u32 0)).setCell ⟨sb,k*6+5,none⟩ (.int .u64 0)).drew:=by
 have hne:=h.ne
 obtain ⟨fr,hP,hB,hF,hr⟩:=h
 have ho:=((((((Only.refl (·=sb) w).setCell (p:=⟨sb,k*6,none⟩) (.inl rfl) (.bool false)).setCell (p:=⟨sb,k*6+1,none⟩) (.inl rfl) (.int .u64 ((at' ss k).gen+1))).setCell (p:=⟨sb,k*6+2,none⟩) (.inl rfl) (.string ⟨#[]⟩)).setCell (p:=⟨sb,k*6+3,none⟩) (.inl rfl) (.string ⟨#[]⟩)).setCell (p:=⟨sb,k*6+4,none⟩) (.inl rfl) (.int .u32 0)).setCell (p:=⟨sb,k*6+5,none⟩) (.inl rfl) (.int .u64 0)
 have hB1:=(((((hB.store (k*6) (.bool false)).store (k*6+1) (.int .u64 ((at' ss k).gen+1))).store (k*6+2) (.string ⟨#[]⟩)).store (k*6+3) (.string ⟨#[]⟩)).store (k*6+4) (.int .u32 0)).store (k*6+5) (.int .u64 0)
 have hS:=slot_set ss k hk ⟨false,(at' ss k).gen+1,.zero⟩
 have hO1:=ho.drew
 refine ⟨fr,hF,⟨⟨hP.1.only hO1 hne.1,hP.2.only hO1 (fun b hb e=>hne.2.2 (by rw [← e]; simpa [In] using hb.symm))⟩,?_,hne.1,hne.2.2,hne.2.1⟩,hO1⟩
 refine Blk.only ?_ ((Only.refl (fun _=>False) _).drew) (by simp)
 rw [hS]
 simpa [Nd.zero] using hB1
set_option maxRecDepth 100000 in
set_option maxHeartbeats 1000000 in
theorem free_ok (h:ArenaAt w g sb fb ss F) {x k:Nat} (hx:x≤18446744073709551615) (ha:IsAt ss x k) (hg:(at' ss k).gen≤1000000):
 Calls Tryz.prog 162 #[.pointer (some ⟨g,0,none⟩),.int .u64 x] w fun e w'=>e=.returned (.int .i64 0)∧ArenaAt w' g sb fb (ss.set k ⟨false,(at' ss k).gen+1,.zero⟩) F∧Only (afoot g sb fb) w w':=by
 have hf:=Lib.hid (use_ok h hx ha)
 have hc:=h.slots
 have hl:=h.room
 have hcs:=h.cells k ha.1
 have hk:=ha.1
 have c0:=hcs 0 (by omega)
 have c1:=hcs 1 (by omega)
 have c2:=hcs 2 (by omega)
 have c3:=hcs 3 (by omega)
 have c4:=hcs 4 (by omega)
 have c5:=hcs 5 (by omega)
 simp [sl] at c0 c1 c2 c3 c4 c5
 obtain ⟨c0,f0⟩:=c0
 obtain ⟨c1,f1⟩:=c1
 obtain ⟨c2,f2⟩:=c2
 obtain ⟨c3,f3⟩:=c3
 obtain ⟨c4,f4⟩:=c4
 obtain ⟨c5,f5⟩:=c5
 obtain ⟨fr,hF,hH,hO⟩:=half_free h k hk
 have hlt:=hF.lt hk ha.2.1
 have hP:=Lib.hid (push_any hH.1 hlt hl.2 k (by omega) hF.1)
 replace hF:=Lib.hid hF
 replace hH:=Lib.hid hH
 replace hO:=Lib.hid hO
 clear hcs h
 replace ha:=Lib.hid ha
 go_enter Tryz.func162,Tryz.ntmps162
 go_upto_region 4 with (go_at_call 144; refine hf.out.mono ?_; rintro e w' ⟨rfl,rfl⟩)
 go_region
 all_goals
  go_wp2_with (go_at_call 177; refine hP.out.mono ?_; rintro e w2 ⟨rfl,hP2⟩; replace hP2:=Lib.hid hP2)
  go_ret
  obtain ⟨r,hP2,hp2,hh2,hO2⟩:=hP2.out
  refine ⟨rfl,hH.out.done (by simp) hl hP2 hO2 (hF.out.push hk ha.out.2.1 hp2 hh2 _ rfl),?_⟩
  exact (hO.out.mono (fun _ _ q=>.inr (.inl q))).trans' hO2 (fun x _ q=>q.elim .inl (fun q=>.inr (.inr q)))
end
end Go.Proofs.YtpobbnllcoabhaaGreatDoor.Ar
