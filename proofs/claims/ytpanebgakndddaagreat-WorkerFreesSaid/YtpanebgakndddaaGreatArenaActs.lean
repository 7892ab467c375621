/- A part. -/
import Derived.Test.YtpanebgakndddaaGreatArenaWalk
import Derived.Deep.MidRow
import Derived.BigRegion
set_option linter.unusedVariables false
set_option linter.unusedSimpArgs false
namespace Go.Proofs.YtpanebgakndddaaGreat.Ar
open Go Go.RowKit Hp K Rw Hm Hw Fl
set_option maxRecDepth 100000
section
variable {w w':World} {g sb fb:Nat} {ss:List Sl} {F:Bool}
theorem xW (h:bS w g sb fb ss F) {x k:Nat} (hx:x<=18446744073709551615) (ha:aY ss x k):
 Calls Tryz.prog 156 #[.pointer (some ⟨g,0,none⟩),.int .u64 x] w fun e w'=>e=.returned (.tuple #[dV (ai ss k).nd,.int .i64 0])/\Below w.heap.size w w':=by
 have hf:Hid (∀ o,Calls Tryz.prog 134 #[.pointer (some ⟨g,0,none⟩),.int .u64 x] (w.alloc o) fun e w'=>e=.returned (.tuple #[.int .i64 k,.int .i64 0])/\w.alloc o=w'):=Lib.hid fun o=>AJ (h.alloc o) hx ha
 have hc:=h.vd
 have hl:=h.room
 have bg:=h.cells k ha.1
 have c2:=(bg 2 (by omega)).1
 have c3:=(bg 3 (by omega)).1
 have c4:=(bg 4 (by omega)).1
 have c5:=(bg 5 (by omega)).1
 simp [sl] at c2 c3 c4 c5
 have Dq:g<w.heap.size:=(World.block_lt_of_cell? _ _ hc)
 have zo:sb<w.heap.size:=(World.block_lt_of_cell? _ _ c2)
 have hk:=ha.1
 clear h ha bg hx
 go_enter Tryz.func156,Tryz.ntmps156
 go_wp2_with (go_at_call 134; refine (hf.out _).mono ?_; rintro e w' ⟨rfl,rfl⟩)
 exact bodyPost_ret (v:=.tuple #[dV (ai ss k).nd,.int .i64 0]) (by simp [results,Tryz.results156,go_sem,dV]) rfl ⟨rfl,(Below.refl _ _).alloc (Nat.le_refl _) _⟩
theorem K8 (h:bS w g sb fb ss F) {x:Nat} {c:Int} (hx:x<=18446744073709551615) (hb:og ss x c):
 Calls Tryz.prog 156 #[.pointer (some ⟨g,0,none⟩),.int .u64 x] w fun e w'=>e=.returned (.tuple #[dV .zero,.int .i64 c])/\bS w' g sb fb ss true/\ab (dN g sb fb) w w':=by
 have hf:Hid (∀ o,Calls Tryz.prog 134 #[.pointer (some ⟨g,0,none⟩),.int .u64 x] (w.alloc o) fun e w'=>e=.returned (.tuple #[.int .i64 0,.int .i64 c])/\bS w' g sb fb ss true/\ab (dN g sb fb) (w.alloc o) w'):=Lib.hid fun o=>ER (h.alloc o) hx hb
 have bn:∀ x,dN g sb fb x->x<w.heap.size:=h.lt
 have iM:¬dN g sb fb w.heap.size:=fun e=>Nat.lt_irrefl _ (bn _ e)
 replace bn:=Lib.hid bn
 replace iM:=Lib.hid iM
 rcases hb.code with rfl | rfl
 all_goals
  clear h hb hx
  go_enter Tryz.func156,Tryz.ntmps156
  go_wp2_with (go_at_call 134; refine (hf.out _).mono ?_; rintro e w1 ⟨rfl,da,aw⟩
               have aJ:=(af.made w 67 #[.string ⟨#[]⟩,.string ⟨#[]⟩,.int .u32 0,.int .u64 0]).only aw iM.out
               have d0:=aJ.cell 0
               have d1:=aJ.cell 1
               have d2:=aJ.cell 2
               have d3:=aJ.cell 3
               simp at d0 d1 d2 d3
               have e0:=aJ.frozen 0
               have e1:=aJ.frozen 1
               have e2:=aJ.frozen 2
               have e3:=aJ.frozen 3
               replace da:=Lib.hid da
               replace aw:=Lib.hid aw)
  have pO:=(((((ab.refl (·=w.heap.size) w1).setCell (p:=⟨w.heap.size,0,none⟩) (.inl rfl) (.string ⟨#[]⟩)).setCell (p:=⟨w.heap.size,1,none⟩) (.inl rfl) (.string ⟨#[]⟩)).setCell (p:=⟨w.heap.size,2,none⟩) (.inl rfl) (.int .u32 0)).setCell (p:=⟨w.heap.size,3,none⟩) (.inl rfl) (.int .u64 0))
  have bH:=da.out.only pO (fun x hx e=>iM.out (e▸hx))
  have ae:=(((ab.refl (dN g sb fb) w).alloc _).trans' (S':=dN g sb fb) aw.out (fun _ _ q=>q)).trans' (S':=(·=w.heap.size)) pO (fun x hx e=>absurd e (Nat.ne_of_lt hx))
  clear pO aJ e0 e1 e2 e3
  replace bH:=Lib.hid bH
  replace ae:=Lib.hid ae
  refine bodyPost_ret (v:=.tuple #[dV .zero,.int .i64 _]) ?_ rfl ⟨rfl,bH.out,ae.out⟩
  simp [results,Tryz.results156,go_sem,dV,Nd.zero,d0,d1,d2,d3]
theorem AK (h:bS w g sb fb ss F) {x k:Nat} (hx:x<=18446744073709551615) (ha:aY ss x k) (y:Int):
 Calls Tryz.prog 203 #[.pointer (some ⟨g,0,none⟩),.int .u64 x,.int .u64 y] w fun e w'=>e=.returned (.int .i64 0)/\bS w' g sb fb (ss.set k {ai ss k with nd:={(ai ss k).nd with next:=y}}) F/\ab (dN g sb fb) w w':=by
 have hf:=Lib.hid (AJ h hx ha)
 have hc:=h.vd
 have hl:=h.room
 have bg:=h.cells k ha.1
 have c5:=bg 5 (by omega)
 simp [sl] at c5
 obtain ⟨c5,f5⟩:=c5
 have hk:=ha.1
 have hS:=Lib.hid (h.K9 k ha.1 5 (by omega) (.int .u64 y) {ai ss k with nd:={(ai ss k).nd with next:=y}} rfl rfl)
 clear bg hx ha h
 go_enter Tryz.func203,Tryz.ntmps203
 go_wp2_with (go_at_call 134; refine hf.out.mono ?_; rintro e w' ⟨rfl,rfl⟩)
 go_ret
 exact ⟨rfl,hS.out⟩
def AL (w:World) (g sb fb:Nat) (ss ss':List Sl) (F:Bool) (fr:List Nat):Prop:=
 cR w g fb ss.length fr (S0 sb ss.length) (.bool F)/\af w sb 96 (ss'.flatMap sl).toArray/\g≠sb/\sb≠fb/\g≠fb
theorem AL.done {fr r:List Nat} {ss':List Sl} (h:AL w g sb fb ss ss' F fr) (hl:ss'.length=ss.length) (hr:1<=ss.length/\ss.length<=1024) (hP:cR w' g fb ss.length r (S0 sb ss.length) (.bool F)) (ho:ab (fun z=>z=g\/z=fb) w w') (hF:gj ss' r):bS w' g sb fb ss' F:=
 ⟨r,by rw [hl]; exact hP,h.2.1.only ho (by rintro (e | e); exact h.2.2.1 e.symm; exact h.2.2.2.1 e),hF,by rw [hl]; exact hr⟩
theorem La (h:bS w g sb fb ss F) (k:Nat) (hk:k<ss.length):∃ fr,gj ss fr/\
 AL ((((((w.setCell ⟨sb,k*6,none⟩ (.bool false)).setCell ⟨sb,k*6+1,none⟩ (.int .u64 ((ai ss k).gen+1))).setCell ⟨sb,k*6+2,none⟩ (.string ⟨#[]⟩)).setCell ⟨sb,k*6+3,none⟩ (.string ⟨#[]⟩)).setCell ⟨sb,k*6+4,none⟩ (.int .u32 0)).setCell ⟨sb,k*6+5,none⟩ (.int .u64 0)).drew
  g sb fb ss (ss.set k ⟨false,(ai ss k).gen+1,.zero⟩) F fr/\
 ab (·=sb) w ((((((w.setCell ⟨sb,k*6,none⟩ (.bool false)).setCell ⟨sb,k*6+1,none⟩ (.int .u64 ((ai ss k).gen+1))).setCell ⟨sb,k*6+2,none⟩ (.string ⟨#[]⟩)).setCell ⟨sb,k*6+3,none⟩ (.string ⟨#[]⟩)).setCell ⟨sb,k*6+4,none⟩ (.int .u32 0)).setCell ⟨sb,k*6+5,none⟩ (.int .u64 0)).drew:=by
 have aH:=h.ne
 obtain ⟨fr,hP,hB,hF,hr⟩:=h
 have ho:=((((((ab.refl (·=sb) w).setCell (p:=⟨sb,k*6,none⟩) (.inl rfl) (.bool false)).setCell (p:=⟨sb,k*6+1,none⟩) (.inl rfl) (.int .u64 ((ai ss k).gen+1))).setCell (p:=⟨sb,k*6+2,none⟩) (.inl rfl) (.string ⟨#[]⟩)).setCell (p:=⟨sb,k*6+3,none⟩) (.inl rfl) (.string ⟨#[]⟩)).setCell (p:=⟨sb,k*6+4,none⟩) (.inl rfl) (.int .u32 0)).setCell (p:=⟨sb,k*6+5,none⟩) (.inl rfl) (.int .u64 0)
 have aJ:=(((((hB.store (k*6) (.bool false)).store (k*6+1) (.int .u64 ((ai ss k).gen+1))).store (k*6+2) (.string ⟨#[]⟩)).store (k*6+3) (.string ⟨#[]⟩)).store (k*6+4) (.int .u32 0)).store (k*6+5) (.int .u64 0)
 have hS:=ES ss k hk ⟨false,(ai ss k).gen+1,.zero⟩
 have aw:=ho.drew
 refine ⟨fr,hF,⟨⟨hP.1.only aw aH.1,hP.2.only aw (fun b hb e=>aH.2.2 (by rw [<-e]; simpa [In] using hb.symm))⟩,?_,aH.1,aH.2.2,aH.2.1⟩,aw⟩
 refine af.only ?_ ((ab.refl (fun _=>False) _).drew) (by simp)
 rw [hS]
 simpa [Nd.zero] using aJ
set_option maxRecDepth 100000 in
set_option maxHeartbeats 1000000 in
theorem ET (h:bS w g sb fb ss F) {x k:Nat} (hx:x<=18446744073709551615) (ha:aY ss x k) (hg:(ai ss k).gen<=1000000):
 Calls Tryz.prog 101 #[.pointer (some ⟨g,0,none⟩),.int .u64 x] w fun e w'=>e=.returned (.int .i64 0)/\bS w' g sb fb (ss.set k ⟨false,(ai ss k).gen+1,.zero⟩) F/\ab (dN g sb fb) w w':=by
 have hf:=Lib.hid (AJ h hx ha)
 have hc:=h.vd
 have hl:=h.room
 have bg:=h.cells k ha.1
 have hk:=ha.1
 have c0:=bg 0 (by omega)
 have c1:=bg 1 (by omega)
 have c2:=bg 2 (by omega)
 have c3:=bg 3 (by omega)
 have c4:=bg 4 (by omega)
 have c5:=bg 5 (by omega)
 simp [sl] at c0 c1 c2 c3 c4 c5
 obtain ⟨c0,f0⟩:=c0
 obtain ⟨c1,f1⟩:=c1
 obtain ⟨c2,f2⟩:=c2
 obtain ⟨c3,f3⟩:=c3
 obtain ⟨c4,f4⟩:=c4
 obtain ⟨c5,f5⟩:=c5
 obtain ⟨fr,hF,hH,hO⟩:=La h k hk
 have bn:=hF.lt hk ha.2.1
 have hP:=Lib.hid (Lb hH.1 bn hl.2 k (by omega) hF.1)
 replace hF:=Lib.hid hF
 replace hH:=Lib.hid hH
 replace hO:=Lib.hid hO
 clear bg h
 replace ha:=Lib.hid ha
 go_enter Tryz.func101,Tryz.ntmps101
 go_upto_region 4 with (go_at_call 134; refine hf.out.mono ?_; rintro e w' ⟨rfl,rfl⟩)
 go_region
 all_goals
  go_wp2_with (go_at_call 135; refine hP.out.mono ?_; rintro e w2 ⟨rfl,bs⟩; replace bs:=Lib.hid bs)
  go_ret
  obtain ⟨r,bs,gU,pP,ae⟩:=bs.out
  refine ⟨rfl,hH.out.done (by simp) hl bs ae (hF.out.push hk ha.out.2.1 gU pP _ rfl),?_⟩
  exact (hO.out.mono (fun _ _ q=>.inr (.inl q))).trans' ae (fun x _ q=>q.elim .inl (fun q=>.inr (.inr q)))
end
end Go.Proofs.YtpanebgakndddaaGreat.Ar
