/- Walks over layer 6 (qsbr): Step, of each of the three. -/
import Derived.Test.YtpobbnllcoabhaaGreatDoorQsbrB
set_option linter.unusedVariables false
set_option linter.unusedSimpArgs false
namespace Go.Proofs.YtpobbnllcoabhaaGreatDoor.Qs
open Go Go.RowKit Hp K Fl Rw Hm Ar Mm Me
set_option maxRecDepth 100000
def fnv (n:Nat):Value:=.func (.func n) #[] #[]
theorem enters_take (args:Array Value) (w:World):(callFunc 208 args).run Tryz.prog w=.ok (.enter 208 args) w:=by kernel_rfl
theorem enters_raise (args:Array Value) (w:World):(callFunc 209 args).run Tryz.prog w=.ok (.enter 209 args) w:=by kernel_rfl
theorem enters_look (args:Array Value) (w:World):(callFunc 210 args).run Tryz.prog w=.ok (.enter 210 args) w:=by kernel_rfl
theorem enters_free (args:Array Value) (w:World):(callFunc 211 args).run Tryz.prog w=.ok (.enter 211 args) w:=by kernel_rfl
theorem enters_load (args:Array Value) (w:World):(callFunc 148 args).run Tryz.prog w=.ok (.enter 148 args) w:=by kernel_rfl
theorem enters_store (args:Array Value) (w:World):(callFunc 149 args).run Tryz.prog w=.ok (.enter 149 args) w:=by kernel_rfl
theorem enters_out (args:Array Value) (w:World):(callFunc 184 args).run Tryz.prog w=.ok (.enter 184 args) w:=by kernel_rfl
def stepsW:Array Value:=#[fnv 208,fnv 209,fnv 210,fnv 211]
def stepsC:Array Value:=#[fnv 148,fnv 149]
def stepsG:Array Value:=#[fnv 184]
def Listed (b:Nat) (l:Array Value) (w:World):Prop:=∀ i,i<l.size→w.cell? ⟨b,i,none⟩=l[i]?
theorem steps_wait (w:World):Calls Tryz.prog 206 #[] w fun e w'=>e=.returned (.slice (some ⟨w.heap.size,0,none⟩) 4 4)∧Listed w.heap.size stepsW w'∧Below w.heap.size w w':=by
 go_enter Tryz.func206,Tryz.ntmps206
 go_wp2
 go_ret
 refine ⟨rfl,fun i hi=>?_,(Below.refl _ _).alloc (Nat.le_refl _) _⟩
 exact (Blk.made w _ _).cell i
theorem steps_coming (w:World):Calls Tryz.prog 115 #[] w fun e w'=>e=.returned (.slice (some ⟨w.heap.size,0,none⟩) 2 2)∧Listed w.heap.size stepsC w'∧Below w.heap.size w w':=by
 go_enter Tryz.func115,Tryz.ntmps115
 go_wp2
 go_ret
 refine ⟨rfl,fun i hi=>?_,(Below.refl _ _).alloc (Nat.le_refl _) _⟩
 exact (Blk.made w _ _).cell i
theorem steps_going (w:World):Calls Tryz.prog 172 #[] w fun e w'=>e=.returned (.slice (some ⟨w.heap.size,0,none⟩) 1 1)∧Listed w.heap.size stepsG w'∧Below w.heap.size w w':=by
 go_enter Tryz.func172,Tryz.ntmps172
 go_wp2
 go_ret
 refine ⟨rfl,fun i hi=>?_,(Below.refl _ _).alloc (Nat.le_refl _) _⟩
 exact (Blk.made w _ _).cell i
def Stepped (P:World→Prop) (f at_:Nat) (c:Bool) (w':World):Prop:=∃ w1,P w1∧w'=if c=true then w1.setCell ⟨f,1,none⟩ (.int .i64 ((at_+1:Nat):Int)) else w1
section
variable {w:World} {M:Mo} {f:Nat} {W:Wt} {C:Cm}
theorem step_Wait {F:Nat} {m:Value} {c:Bool} {P:World→Prop} (hf:WtAt w f W) (ha:W.at_<4) (hs:stepsW[W.at_]?=some (fnv F)) (eF:∀ args w,(callFunc F args).run Tryz.prog w=.ok (.enter F args) w)
 (hF:∀ w2,Below w.heap.size w w2→Calls Tryz.prog F #[ptr f,m] w2 fun e w'=>e=.returned (.bool c)∧P w') (hP:∀ w',P w'→w'.cell? ⟨f,1,none⟩=some (.int .i64 W.at_)∧w'.frozen? ⟨f,1,none⟩=false):
 Calls Tryz.prog 201 #[ptr f,m] w fun e w'=>e=.returned (.bool (decide ((if c=true then W.at_+1 else W.at_)=4)))∧Stepped P f W.at_ c w':=by
 have hG:Hid (∀ w3,Below w.heap.size w w3→Listed w.heap.size stepsW w3→Calls Tryz.prog 205 #[ptr f,m,.pointer (some ⟨f,1,none⟩),.slice (some ⟨w.heap.size,0,none⟩) 4 4] w3 fun e w'=>
  e=.returned (.bool (decide ((if c=true then W.at_+1 else W.at_)=4)))∧Stepped P f W.at_ c w'):=Lib.hid fun w3 hb hl=>by
  have hf3:=hf.only (Only.ofBelow hb (fun _=>False)) (by simp)
  exact goOn_Wait (n:=4) (by omega) ha (WtAt.hd hf3 |>.2.1) (by rw [hl _ ha]; exact hs) eF (hF w3 hb) hP
 clear hf hF hP hs eF
 generalize (if c=true then W.at_+1 else W.at_)=z at*
 go_enter Tryz.func201,Tryz.ntmps201
 go_wp2_with fail
 go_region_held3 (fun _=>True) (trivial)
  (first
    | (go_at_call 206
       refine (steps_wait _).mono ?_
       rintro e w2 ⟨rfl,hl2,hb2⟩
       have hg2:=hG.out w2 ((show Below w.heap.size w w.drew from ⟨rfl,rfl,rfl,Nat.le_refl _,fun _ _=>rfl⟩).trans hb2) hl2
       replace hg2:=Lib.hid hg2
       clear hl2 hb2)
    | (go_at_call 205
       refine hg2.out.mono ?_
       rintro e w3 ⟨rfl,hS3⟩
       replace hS3:=Lib.hid hS3))
 all_goals
  go_wp2_with fail
  go_ret
  exact ⟨rfl,hS3.out⟩
theorem step_Coming {F:Nat} {m:Value} {c:Bool} {P:World→Prop} (hf:CmAt w f C) (ha:C.at_<2) (hs:stepsC[C.at_]?=some (fnv F)) (eF:∀ args w,(callFunc F args).run Tryz.prog w=.ok (.enter F args) w)
 (hF:∀ w2,Below w.heap.size w w2→Calls Tryz.prog F #[ptr f,m] w2 fun e w'=>e=.returned (.bool c)∧P w') (hP:∀ w',P w'→w'.cell? ⟨f,1,none⟩=some (.int .i64 C.at_)∧w'.frozen? ⟨f,1,none⟩=false):
 Calls Tryz.prog 84 #[ptr f,m] w fun e w'=>e=.returned (.bool (decide ((if c=true then C.at_+1 else C.at_)=2)))∧Stepped P f C.at_ c w':=by
 have hG:Hid (∀ w3,Below w.heap.size w w3→Listed w.heap.size stepsC w3→Calls Tryz.prog 114 #[ptr f,m,.pointer (some ⟨f,1,none⟩),.slice (some ⟨w.heap.size,0,none⟩) 2 2] w3 fun e w'=>
  e=.returned (.bool (decide ((if c=true then C.at_+1 else C.at_)=2)))∧Stepped P f C.at_ c w'):=Lib.hid fun w3 hb hl=>by
  have hf3:=hf.only (Only.ofBelow hb (fun _=>False)) (by simp)
  exact goOn_Coming (n:=2) (by omega) ha (CmAt.hd hf3 |>.2.1) (by rw [hl _ ha]; exact hs) eF (hF w3 hb) hP
 clear hf hF hP hs eF
 generalize (if c=true then C.at_+1 else C.at_)=z at*
 go_enter Tryz.func84,Tryz.ntmps84
 go_wp2_with fail
 go_region_held3 (fun _=>True) (trivial)
  (first
    | (go_at_call 115
       refine (steps_coming _).mono ?_
       rintro e w2 ⟨rfl,hl2,hb2⟩
       have hg2:=hG.out w2 ((show Below w.heap.size w w.drew from ⟨rfl,rfl,rfl,Nat.le_refl _,fun _ _=>rfl⟩).trans hb2) hl2
       replace hg2:=Lib.hid hg2
       clear hl2 hb2)
    | (go_at_call 114
       refine hg2.out.mono ?_
       rintro e w3 ⟨rfl,hS3⟩
       replace hS3:=Lib.hid hS3))
 all_goals
  go_wp2_with fail
  go_ret
  exact ⟨rfl,hS3.out⟩
theorem step_Going {F k g:Nat} {m:Value} {c:Bool} {P:World→Prop} (hf:GgAt w f k g) (ha:g<1) (hs:stepsG[g]?=some (fnv F)) (eF:∀ args w,(callFunc F args).run Tryz.prog w=.ok (.enter F args) w)
 (hF:∀ w2,Below w.heap.size w w2→Calls Tryz.prog F #[ptr f,m] w2 fun e w'=>e=.returned (.bool c)∧P w') (hP:∀ w',P w'→w'.cell? ⟨f,1,none⟩=some (.int .i64 g)∧w'.frozen? ⟨f,1,none⟩=false):
 Calls Tryz.prog 151 #[ptr f,m] w fun e w'=>e=.returned (.bool (decide ((if c=true then g+1 else g)=1)))∧Stepped P f g c w':=by
 have hG:Hid (∀ w3,Below w.heap.size w w3→Listed w.heap.size stepsG w3→Calls Tryz.prog 171 #[ptr f,m,.pointer (some ⟨f,1,none⟩),.slice (some ⟨w.heap.size,0,none⟩) 1 1] w3 fun e w'=>
  e=.returned (.bool (decide ((if c=true then g+1 else g)=1)))∧Stepped P f g c w'):=Lib.hid fun w3 hb hl=>by
  have hf3:=hf.only (Only.ofBelow hb (fun _=>False)) (by simp)
  exact goOn_Going (n:=1) (by omega) ha (hf3.cell 1) (by rw [hl _ ha]; exact hs) eF (hF w3 hb) hP
 clear hf hF hP hs eF
 generalize (if c=true then g+1 else g)=z at*
 go_enter Tryz.func151,Tryz.ntmps151
 go_wp2_with fail
 go_region_held3 (fun _=>True) (trivial)
  (first
    | (go_at_call 172
       refine (steps_going _).mono ?_
       rintro e w2 ⟨rfl,hl2,hb2⟩
       have hg2:=hG.out w2 ((show Below w.heap.size w w.drew from ⟨rfl,rfl,rfl,Nat.le_refl _,fun _ _=>rfl⟩).trans hb2) hl2
       replace hg2:=Lib.hid hg2
       clear hl2 hb2)
    | (go_at_call 171
       refine hg2.out.mono ?_
       rintro e w3 ⟨rfl,hS3⟩
       replace hS3:=Lib.hid hS3))
 all_goals
  go_wp2_with fail
  go_ret
  exact ⟨rfl,hS3.out⟩
end
end Go.Proofs.YtpobbnllcoabhaaGreatDoor.Qs
