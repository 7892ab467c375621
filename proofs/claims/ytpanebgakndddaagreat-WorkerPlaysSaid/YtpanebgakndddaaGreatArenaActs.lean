/- A part. -/
import Derived.Test.YtpanebgakndddaaGreatArenaWalk
import Derived.Deep.MidRow
import Derived.BigRegion
set_option linter.unusedVariables false
set_option linter.unusedSimpArgs false
namespace Go.Proofs.YtpanebgakndddaaGreat.Ar
open Go Go.RowKit Hp K Rw Hm Hw Fl
set_option maxRecDepth 100000
section
variable {w w':World} {g sb fb:Nat} {ss:List Sl} {F:Bool}
theorem yO (h:b6 w g sb fb ss F) {x k:Nat} (hx:x<=18446744073709551615) (ha:bj ss x k):
 Calls Tryz.prog 156 #[.pointer (some ⟨g,0,none⟩),.int .u64 x] w fun e w'=>e=.returned (.tuple #[eg (aj ss k).nd,.int .i64 0])/\Below w.heap.size w w':=by
 have hf:Hid (∀ o,Calls Tryz.prog 134 #[.pointer (some ⟨g,0,none⟩),.int .u64 x] (w.alloc o) fun e w'=>e=.returned (.tuple #[.int .i64 k,.int .i64 0])/\w.alloc o=w'):=Lib.hid fun o=>Bx (h.alloc o) hx ha
 have hc:=h.vN
 have hl:=h.room
 have bo:=h.cells k ha.1
 have c2:=(bo 2 (by omega)).1
 have c3:=(bo 3 (by omega)).1
 have c4:=(bo 4 (by omega)).1
 have c5:=(bo 5 (by omega)).1
 simp [sl] at c2 c3 c4 c5
 have D4:g<w.heap.size:=(World.block_lt_of_cell? _ _ hc)
 have sU:sb<w.heap.size:=(World.block_lt_of_cell? _ _ c2)
 have hk:=ha.1
 clear h ha bo hx
 go_enter Tryz.func156,Tryz.ntmps156
 go_wp2_with (go_at_call 134; refine (hf.out _).mono ?_; rintro e w' ⟨rfl,rfl⟩)
 exact bodyPost_ret (v:=.tuple #[eg (aj ss k).nd,.int .i64 0]) (by simp [results,Tryz.results156,go_sem,eg]) rfl ⟨rfl,(Below.refl _ _).alloc (Nat.le_refl _) _⟩
theorem Mf (h:b6 w g sb fb ss F) {x:Nat} {c:Int} (hx:x<=18446744073709551615) (hb:oH ss x c):
 Calls Tryz.prog 156 #[.pointer (some ⟨g,0,none⟩),.int .u64 x] w fun e w'=>e=.returned (.tuple #[eg .zero,.int .i64 c])/\b6 w' g sb fb ss true/\ab (fo g sb fb) w w':=by
 have hf:Hid (∀ o,Calls Tryz.prog 134 #[.pointer (some ⟨g,0,none⟩),.int .u64 x] (w.alloc o) fun e w'=>e=.returned (.tuple #[.int .i64 0,.int .i64 c])/\b6 w' g sb fb ss true/\ab (fo g sb fb) (w.alloc o) w'):=Lib.hid fun o=>FQ (h.alloc o) hx hb
 have aV:∀ x,fo g sb fb x->x<w.heap.size:=h.lt
 have iM:¬fo g sb fb w.heap.size:=fun e=>Nat.lt_irrefl _ (aV _ e)
 replace aV:=Lib.hid aV
 replace iM:=Lib.hid iM
 rcases hb.code with rfl | rfl
 all_goals
  clear h hb hx
  go_enter Tryz.func156,Tryz.ntmps156
  go_wp2_with (go_at_call 134; refine (hf.out _).mono ?_; rintro e w1 ⟨rfl,cQ,ax⟩
               have aD:=(af.made w 67 #[.string ⟨#[]⟩,.string ⟨#[]⟩,.int .u32 0,.int .u64 0]).only ax iM.out
               have d0:=aD.cell 0
               have d1:=aD.cell 1
               have d2:=aD.cell 2
               have d3:=aD.cell 3
               simp at d0 d1 d2 d3
               have e0:=aD.frozen 0
               have e1:=aD.frozen 1
               have e2:=aD.frozen 2
               have e3:=aD.frozen 3
               replace cQ:=Lib.hid cQ
               replace ax:=Lib.hid ax)
  have qc:=(((((ab.refl (·=w.heap.size) w1).setCell (p:=⟨w.heap.size,0,none⟩) (.inl rfl) (.string ⟨#[]⟩)).setCell (p:=⟨w.heap.size,1,none⟩) (.inl rfl) (.string ⟨#[]⟩)).setCell (p:=⟨w.heap.size,2,none⟩) (.inl rfl) (.int .u32 0)).setCell (p:=⟨w.heap.size,3,none⟩) (.inl rfl) (.int .u64 0))
  have bw:=cQ.out.only qc (fun x hx e=>iM.out (e▸hx))
  have ae:=(((ab.refl (fo g sb fb) w).alloc _).trans' (S':=fo g sb fb) ax.out (fun _ _ q=>q)).trans' (S':=(·=w.heap.size)) qc (fun x hx e=>absurd e (Nat.ne_of_lt hx))
  clear qc aD e0 e1 e2 e3
  replace bw:=Lib.hid bw
  replace ae:=Lib.hid ae
  refine bodyPost_ret (v:=.tuple #[eg .zero,.int .i64 _]) ?_ rfl ⟨rfl,bw.out,ae.out⟩
  simp [results,Tryz.results156,go_sem,eg,Nd.zero,d0,d1,d2,d3]
theorem By (h:b6 w g sb fb ss F) {x k:Nat} (hx:x<=18446744073709551615) (ha:bj ss x k) (y:Int):
 Calls Tryz.prog 203 #[.pointer (some ⟨g,0,none⟩),.int .u64 x,.int .u64 y] w fun e w'=>e=.returned (.int .i64 0)/\b6 w' g sb fb (ss.set k {aj ss k with nd:={(aj ss k).nd with next:=y}}) F/\ab (fo g sb fb) w w':=by
 have hf:=Lib.hid (Bx h hx ha)
 have hc:=h.vN
 have hl:=h.room
 have bo:=h.cells k ha.1
 have c5:=bo 5 (by omega)
 simp [sl] at c5
 obtain ⟨c5,f5⟩:=c5
 have hk:=ha.1
 have hS:=Lib.hid (h.Mg k ha.1 5 (by omega) (.int .u64 y) {aj ss k with nd:={(aj ss k).nd with next:=y}} rfl rfl)
 clear bo hx ha h
 go_enter Tryz.func203,Tryz.ntmps203
 go_wp2_with (go_at_call 134; refine hf.out.mono ?_; rintro e w' ⟨rfl,rfl⟩)
 go_ret
 exact ⟨rfl,hS.out⟩
def Bz (w:World) (g sb fb:Nat) (ss ss':List Sl) (F:Bool) (fr:List Nat):Prop:=
 dk w g fb ss.length fr (S0 sb ss.length) (.bool F)/\af w sb 96 (ss'.flatMap sl).toArray/\g≠sb/\sb≠fb/\g≠fb
theorem Bz.done {fr r:List Nat} {ss':List Sl} (h:Bz w g sb fb ss ss' F fr) (hl:ss'.length=ss.length) (hr:1<=ss.length/\ss.length<=1024) (hP:dk w' g fb ss.length r (S0 sb ss.length) (.bool F)) (ho:ab (fun z=>z=g\/z=fb) w w') (hF:gn ss' r):b6 w' g sb fb ss' F:=
 ⟨r,by rw [hl]; exact hP,h.2.1.only ho (by rintro (e | e); exact h.2.2.1 e.symm; exact h.2.2.2.1 e),hF,by rw [hl]; exact hr⟩
theorem Mh (h:b6 w g sb fb ss F) (k:Nat) (hk:k<ss.length):∃ fr,gn ss fr/\
 Bz ((((((w.setCell ⟨sb,k*6,none⟩ (.bool false)).setCell ⟨sb,k*6+1,none⟩ (.int .u64 ((aj ss k).gen+1))).setCell ⟨sb,k*6+2,none⟩ (.string ⟨#[]⟩)).setCell ⟨sb,k*6+3,none⟩ (.string ⟨#[]⟩)).setCell ⟨sb,k*6+4,none⟩ (.int .u32 0)).setCell ⟨sb,k*6+5,none⟩ (.int .u64 0)).drew
  g sb fb ss (ss.set k ⟨false,(aj ss k).gen+1,.zero⟩) F fr/\
 ab (·=sb) w ((((((w.setCell ⟨sb,k*6,none⟩ (.bool false)).setCell ⟨sb,k*6+1,none⟩ (.int .u64 ((aj ss k).gen+1))).setCell ⟨sb,k*6+2,none⟩ (.string ⟨#[]⟩)).setCell ⟨sb,k*6+3,none⟩ (.string ⟨#[]⟩)).setCell ⟨sb,k*6+4,none⟩ (.int .u32 0)).setCell ⟨sb,k*6+5,none⟩ (.int .u64 0)).drew:=by
 have aL:=h.ne
 obtain ⟨fr,hP,hB,hF,hr⟩:=h
 have ho:=((((((ab.refl (·=sb) w).setCell (p:=⟨sb,k*6,none⟩) (.inl rfl) (.bool false)).setCell (p:=⟨sb,k*6+1,none⟩) (.inl rfl) (.int .u64 ((aj ss k).gen+1))).setCell (p:=⟨sb,k*6+2,none⟩) (.inl rfl) (.string ⟨#[]⟩)).setCell (p:=⟨sb,k*6+3,none⟩) (.inl rfl) (.string ⟨#[]⟩)).setCell (p:=⟨sb,k*6+4,none⟩) (.inl rfl) (.int .u32 0)).setCell (p:=⟨sb,k*6+5,none⟩) (.inl rfl) (.int .u64 0)
 have aD:=(((((hB.store (k*6) (.bool false)).store (k*6+1) (.int .u64 ((aj ss k).gen+1))).store (k*6+2) (.string ⟨#[]⟩)).store (k*6+3) (.string ⟨#[]⟩)).store (k*6+4) (.int .u32 0)).store (k*6+5) (.int .u64 0)
 have hS:=FR ss k hk ⟨false,(aj ss k).gen+1,.zero⟩
 have ax:=ho.drew
 refine ⟨fr,hF,⟨⟨hP.1.only ax aL.1,hP.2.only ax (fun b hb e=>aL.2.2 (by rw [<-e]; simpa [In] using hb.symm))⟩,?_,aL.1,aL.2.2,aL.2.1⟩,ax⟩
 refine af.only ?_ ((ab.refl (fun _=>False) _).drew) (by simp)
 rw [hS]
 simpa [Nd.zero] using aD
set_option maxRecDepth 100000 in
set_option maxHeartbeats 1000000 in
theorem Mi (h:b6 w g sb fb ss F) {x k:Nat} (hx:x<=18446744073709551615) (ha:bj ss x k) (hg:(aj ss k).gen<=1000000):
 Calls Tryz.prog 101 #[.pointer (some ⟨g,0,none⟩),.int .u64 x] w fun e w'=>e=.returned (.int .i64 0)/\b6 w' g sb fb (ss.set k ⟨false,(aj ss k).gen+1,.zero⟩) F/\ab (fo g sb fb) w w':=by
 have hf:=Lib.hid (Bx h hx ha)
 have hc:=h.vN
 have hl:=h.room
 have bo:=h.cells k ha.1
 have hk:=ha.1
 have c0:=bo 0 (by omega)
 have c1:=bo 1 (by omega)
 have c2:=bo 2 (by omega)
 have c3:=bo 3 (by omega)
 have c4:=bo 4 (by omega)
 have c5:=bo 5 (by omega)
 simp [sl] at c0 c1 c2 c3 c4 c5
 obtain ⟨c0,f0⟩:=c0
 obtain ⟨c1,f1⟩:=c1
 obtain ⟨c2,f2⟩:=c2
 obtain ⟨c3,f3⟩:=c3
 obtain ⟨c4,f4⟩:=c4
 obtain ⟨c5,f5⟩:=c5
 obtain ⟨fr,hF,hH,hO⟩:=Mh h k hk
 have aV:=hF.lt hk ha.2.1
 have hP:=Lib.hid (Mj hH.1 aV hl.2 k (by omega) hF.1)
 replace hF:=Lib.hid hF
 replace hH:=Lib.hid hH
 replace hO:=Lib.hid hO
 clear bo h
 replace ha:=Lib.hid ha
 go_enter Tryz.func101,Tryz.ntmps101
 go_upto_region 4 with (go_at_call 134; refine hf.out.mono ?_; rintro e w' ⟨rfl,rfl⟩)
 go_region
 all_goals
  go_wp2_with (go_at_call 135; refine hP.out.mono ?_; rintro e w2 ⟨rfl,bn⟩; replace bn:=Lib.hid bn)
  go_ret
  obtain ⟨r,bn,gW,qd,ae⟩:=bn.out
  refine ⟨rfl,hH.out.done (by simp) hl bn ae (hF.out.push hk ha.out.2.1 gW qd _ rfl),?_⟩
  exact (hO.out.mono (fun _ _ q=>.inr (.inl q))).trans' ae (fun x _ q=>q.elim .inl (fun q=>.inr (.inr q)))
end
end Go.Proofs.YtpanebgakndddaaGreat.Ar
