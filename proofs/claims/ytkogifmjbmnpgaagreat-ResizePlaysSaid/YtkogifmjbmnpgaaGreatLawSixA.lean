/- What the statements of layer 6 use: a memory that is whole; the document's example. -/
import Derived.Test.YtkogifmjbmnpgaaGreatQsbrE
import Derived.Test.YtkogifmjbmnpgaaGreatLawFiveA
import Derived.Test.YtkogifmjbmnpgaaGreatMade
set_option linter.unusedVariables false
set_option linter.unusedSimpArgs false
namespace Go.Proofs.YtkogifmjbmnpgaaGreat.LawSix
open Go Go.RowKit Hp K Fl Rw Hm Ar Mm Me LK Qs
set_option maxRecDepth 100000
set_option maxHeartbeats 1000000 in
theorem awake (w:World):Calls Tryz.prog 97 #[] w fun e w'=>e=.returned (.bool true)∧Below w.heap.size w w':=by
 have hN:=Lib.hid (made_yes 1 2 w (by omega) (by omega))
 go_enter Tryz.func97,Tryz.ntmps97
 go_wp2_with fail
 refine hN.out.mono ?_
 rintro e w1 ⟨M,rfl,hM,hlo,hB,h1,h2,h3,h4,h5,h6,h7⟩
 clear hN
 have hE:=Lib.hid (enter_any 1 w1)
 replace hM:=Lib.hid hM
 replace hlo:=Lib.hid hlo
 replace hB:=Lib.hid hB
 replace h1:=Lib.hid h1
 replace h4:=Lib.hid h4
 replace h5:=Lib.hid h5
 clear h2 h3 h6 h7
 go_wp2_with fail
 refine hE.out.mono ?_
 rintro e w2 ⟨rfl,hE2,hB2⟩
 have hS:=Lib.hid (sync_any 0 w2)
 replace hM:=Lib.hid (hM.out.below hB2)
 replace hE2:=Lib.hid hE2
 replace hB2:=Lib.hid hB2
 clear hE
 go_wp2_with fail
 refine hS.out.mono ?_
 rintro e w3 ⟨rfl,hW3,hB3⟩
 replace hM:=Lib.hid (hM.out.below hB3)
 have hE3:CmAt w3 w1.heap.size ⟨1,0,0⟩:=hE2.out.only (Only.ofBelow hB3 (fun _=>False)) (by simp)
 have hne:w1.heap.size≠w2.heap.size:=by have:=hE2.out.lt; omega
 have hB03:=Lib.hid (hB.out.trans ((hB2.out.trans (hB3.mono hB2.out.size)).mono hB.out.size))
 have hge1:w.heap.size≤w1.heap.size:=hB.out.size
 have hge2:w.heap.size≤w2.heap.size:=by have:=hB2.out.size; omega
 clear hS hE2 hB hB2 hB3
 generalize w1.heap.size=fe at*
 generalize w2.heap.size=fs at*
 have hF1:=finish_coming hM.out hE3 (by simp) (by rw [h1.out]; simp) (by simp) (by simp) 9 (by omega)
 have e1:fin (fun _=>true) stC (fun s=>decide (s.2.at_=1)) 9 (M.xs,(⟨1,0,0⟩:Cm))=(2,true,[1,0,0,1,0],⟨1,2,1⟩):=by rw [h1.out]; rfl
 rw [e1] at hF1
 replace hF1:=Lib.hid hF1
 replace hW3:=Lib.hid hW3
 replace hge1:=Lib.hid hge1
 replace hge2:=Lib.hid hge2
 replace hne:=Lib.hid hne
 clear e1 hE3
 go_wp2_with fail
 refine hF1.out.mono ?_
 rintro e w4 ⟨rfl,hM4,hC4,hO4⟩
 have hW4:WtAt w4 fs ⟨0,0,0,0⟩:=hW3.out.only hO4 (by
  rintro (q | q)
  · exact (hW3.out.far hM.out) q
  · exact hne.out q.symm)
 have hF2:=finish_wait (n:=2) hM4 hW4 h5.out ⟨by omega,by simp,by simp,by rw [h4.out]; simp,by simp,by simp,by simp⟩ 9 (by omega)
 have e2:fin rdW (stW 2) dnW 9 ([1,0,0,1,0],M.hs,(⟨0,0,0,0⟩:Wt))=(3,false,[2,0,0,1,0],[0, -1, -1, -1, -1, -1],⟨0,2,2,1⟩):=by rw [h4.out]; rfl
 rw [e2] at hF2
 replace hF2:=Lib.hid hF2
 replace hO4:=Lib.hid hO4
 replace hM4:=Lib.hid hM4
 clear e2 hC4 hW4 hF1
 go_wp2_with fail
 refine hF2.out.mono ?_
 rintro e w5 ⟨rfl,hM5,hW5,hO5⟩
 have low:∀ (a b:World) (f:Nat),Below w.heap.size w a→Only (fun x=>mfoot M x∨x=f) a b→w.heap.size≤f→Below w.heap.size w b:=fun a b f ha ho hf=>ha.trans (ho.toBelow ha.size (fun x hx q=>by
  rcases q with q | q
  · have:=hlo.out x q; omega
  · omega))
 replace low:=Lib.hid low
 have hB5:=low.out _ _ _ (low.out _ _ _ hB03.out hO4.out hge1.out) hO5 hge2.out
 have hL:=Lib.hid (leave_any 1 w5)
 replace hM5:=Lib.hid hM5
 replace hW5:=Lib.hid hW5
 replace hB5:=Lib.hid hB5
 clear hO5 hO4 hM4 hF2 hM hW3 hB03 hge1 hne
 go_wp2_with fail
 refine hL.out.mono ?_
 rintro e w6 ⟨rfl,hG6,hB6⟩
 have hM6:=hM5.out.below hB6
 have hW6:WtAt w6 fs ⟨0,2,2,1⟩:=hW5.out.only (Only.ofBelow hB6 (fun _=>False)) (by simp)
 have hge3:w.heap.size≤w5.heap.size:=hB5.out.size
 have hne:w5.heap.size≠fs:=by have:=hW5.out.lt; omega
 have hB6':=Lib.hid (hB5.out.trans (hB6.mono hge3))
 generalize w5.heap.size=fl at*
 have hI6:Hid (Calls Tryz.prog 133 #[ptr M.m,.int .i64 1] w6 fun e w'=>e=.returned (.bool true)∧∃ n,w'=w6.drewN n):=Lib.hid (in_any hM6 1 (by simp) (by omega))
 replace hG6:=Lib.hid hG6
 replace hM6:=Lib.hid hM6
 replace hW6:=Lib.hid hW6
 replace hge3:=Lib.hid hge3
 replace hne:=Lib.hid hne
 clear hB6 hL hB5 hM5 hW5
 go_wp2_with fail
 refine hI6.out.mono ?_
 rintro e w7 ⟨rfl,nq,rfl⟩
 have hM7:=hM6.out.drewN nq
 have hW7:WtAt (w6.drewN nq) fs ⟨0,2,2,1⟩:=hW6.out.only ((Only.refl (fun _=>False) w6).drewN nq) (by simp)
 have hG7:GgAt (w6.drewN nq) fl 1 0:=hG6.out.only ((Only.refl (fun _=>False) w6).drewN nq) (by simp)
 have hB7:Below w.heap.size w (w6.drewN nq):=hB6'.out.trans ⟨rfl,rfl,rfl,Nat.le_refl _,fun _ _=>rfl⟩
 have hGf:=hG7.far hM7
 have hWf:=hW7.far hM7
 generalize w6.drewN nq=w7 at*
 have hF3:=Lib.hid (finish_going hM7 hG7 (by simp) (by omega) 9 (by omega) (by omega))
 replace hB7:=Lib.hid hB7
 replace hW7:=Lib.hid hW7
 replace hWf:=Lib.hid hWf
 clear hM7 hG7 hM6 hW6 hG6 hI6 hB6' hGf
 go_wp2_with fail
 refine hF3.out.mono ?_
 rintro e w8 ⟨rfl,hM8,hG8,hO8⟩
 have hW8:WtAt w8 fs ⟨0,2,2,1⟩:=hW7.out.only hO8 (by
  rintro (q | q)
  · exact hWf.out q
  · exact hne.out q.symm)
 have hB8:=Lib.hid (low.out _ _ _ hB7.out hO8 hge3.out)
 have hF4:=finish_wait (n:=2) hM8 hW8 h5.out ⟨by omega,by simp,by simp,by simp,by simp,by simp,by simp [Lo.hol]⟩ 9 (by omega)
 have e3:fin rdW (stW 2) dnW 9 ([2,0,0,1,0].set (2+1) 0,[0, -1, -1, -1, -1, -1],(⟨0,2,2,1⟩:Wt))=(2,true,[2,0,0,0,0],[-1, -1, -1, -1, -1, -1],⟨0,4,2,2⟩):=by rfl
 have hF4':Calls Tryz.prog 9 #[ptr M.m,.iface 156 (ptr fs),.int .i64 9] w8 fun e w'=>e=.returned (.tuple #[.int .i64 2,.bool true])∧InvW w8 M fs ([2,0,0,0,0],[-1, -1, -1, -1, -1, -1],⟨0,4,2,2⟩) w':=by
  simp only at hF4
  rw [e3] at hF4
  exact hF4
 replace hF4':=Lib.hid hF4'
 clear e3 hF4 hW7 hWf hB7 hF3 hO8 hG8 hM8 hW8
 go_wp2_with fail
 refine hF4'.out.mono ?_
 rintro e w9 ⟨rfl,hM9,hW9,hO9⟩
 have hB9:=Lib.hid (low.out _ _ _ hB8.out hO9 hge2.out)
 replace hM9:=Lib.hid hM9
 clear hF4' hO9 hW9 hB8
 go_wp2_with fail
 refine (LawFive.awake w9).mono ?_
 rintro e w10 ⟨rfl,hB10⟩
 have hM10:=hM9.out.below hB10
 have hB:=Lib.hid (hB9.out.trans (hB10.mono hB9.out.size))
 have hI:Hid (Calls Tryz.prog 133 #[ptr M.m,.int .i64 1] w10 fun e w'=>e=.returned (.bool false)∧∃ n,w'=w10.drewN n):=Lib.hid (in_any hM10 1 (by simp) (by omega))
 clear hM10 hB10 hB9 hM9
 go_wp2_with (go_at_call 133; refine hI.out.mono ?_; rintro e w' ⟨rfl,nq,rfl⟩)
 go_ret
 exact ⟨rfl,hB.out.trans ⟨rfl,rfl,rfl,Nat.le_refl _,fun _ _=>rfl⟩⟩
end Go.Proofs.YtkogifmjbmnpgaaGreat.LawSix
