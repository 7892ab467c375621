/- A part. -/
import Derived.Test.YtpanebgakndddaaGreatQsbrB
set_option linter.unusedVariables false
set_option linter.unusedSimpArgs false
namespace Go.Proofs.YtpanebgakndddaaGreat.Qs
open Go Go.RowKit Hp K Fl Rw Hm Ar Mm Me
set_option maxRecDepth 100000
def oG (n:Nat):Value:=.func (.func n) #[] #[]
theorem RO (args:Array Value) (w:World):(callFunc 130 args).run Tryz.prog w=.ok (.enter 130 args) w:=by kernel_rfl
theorem RP (args:Array Value) (w:World):(callFunc 131 args).run Tryz.prog w=.ok (.enter 131 args) w:=by kernel_rfl
theorem RQ (args:Array Value) (w:World):(callFunc 132 args).run Tryz.prog w=.ok (.enter 132 args) w:=by kernel_rfl
theorem RR (args:Array Value) (w:World):(callFunc 133 args).run Tryz.prog w=.ok (.enter 133 args) w:=by kernel_rfl
theorem RS (args:Array Value) (w:World):(callFunc 211 args).run Tryz.prog w=.ok (.enter 211 args) w:=by kernel_rfl
theorem RT (args:Array Value) (w:World):(callFunc 212 args).run Tryz.prog w=.ok (.enter 212 args) w:=by kernel_rfl
theorem RU (args:Array Value) (w:World):(callFunc 238 args).run Tryz.prog w=.ok (.enter 238 args) w:=by kernel_rfl
def Cs:Array Value:=#[oG 130,oG 131,oG 132,oG 133]
def Cu:Array Value:=#[oG 211,oG 212]
def Cv:Array Value:=#[oG 238]
def sq (b:Nat) (l:Array Value) (w:World):Prop:=∀ i,i<l.size->w.cell? ⟨b,i,none⟩=l[i]?
theorem RV (w:World):Calls Tryz.prog 100 #[] w fun e w'=>e=.returned (.slice (some ⟨w.heap.size,0,none⟩) 4 4)/\sq w.heap.size Cs w'/\Below w.heap.size w w':=by
 go_enter Tryz.func100,Tryz.ntmps100
 go_wp2
 go_ret
 refine ⟨rfl,fun i hi=>?_,(Below.refl _ _).alloc (Nat.le_refl _) _⟩
 exact (af.made w _ _).cell i
theorem RW (w:World):Calls Tryz.prog 193 #[] w fun e w'=>e=.returned (.slice (some ⟨w.heap.size,0,none⟩) 2 2)/\sq w.heap.size Cu w'/\Below w.heap.size w w':=by
 go_enter Tryz.func193,Tryz.ntmps193
 go_wp2
 go_ret
 refine ⟨rfl,fun i hi=>?_,(Below.refl _ _).alloc (Nat.le_refl _) _⟩
 exact (af.made w _ _).cell i
theorem RX (w:World):Calls Tryz.prog 227 #[] w fun e w'=>e=.returned (.slice (some ⟨w.heap.size,0,none⟩) 1 1)/\sq w.heap.size Cv w'/\Below w.heap.size w w':=by
 go_enter Tryz.func227,Tryz.ntmps227
 go_wp2
 go_ret
 refine ⟨rfl,fun i hi=>?_,(Below.refl _ _).alloc (Nat.le_refl _) _⟩
 exact (af.made w _ _).cell i
def Stepped (P:World->Prop) (f at_:Nat) (c:Bool) (w':World):Prop:=∃ w1,P w1/\w'=if c=true then w1.setCell ⟨f,1,none⟩ (.int .i64 ((at_+1:Nat):Int)) else w1
section
variable {w:World} {M:Mo} {f:Nat} {W:Wt} {C:Cm}
theorem yL {F:Nat} {m:Value} {c:Bool} {P:World->Prop} (hf:cZ w f W) (ha:W.at_<4) (hs:Cs[W.at_]?=some (oG F)) (eF:∀ args w,(callFunc F args).run Tryz.prog w=.ok (.enter F args) w)
 (hF:∀ w2,Below w.heap.size w w2->Calls Tryz.prog F #[ptr f,m] w2 fun e w'=>e=.returned (.bool c)/\P w') (hP:∀ w',P w'->w'.cell? ⟨f,1,none⟩=some (.int .i64 W.at_)/\w'.frozen? ⟨f,1,none⟩=false):
 Calls Tryz.prog 74 #[ptr f,m] w fun e w'=>e=.returned (.bool (decide ((if c=true then W.at_+1 else W.at_)=4)))/\Stepped P f W.at_ c w':=by
 have hG:Hid (∀ w3,Below w.heap.size w w3->sq w.heap.size Cs w3->Calls Tryz.prog 99 #[ptr f,m,.pointer (some ⟨f,1,none⟩),.slice (some ⟨w.heap.size,0,none⟩) 4 4] w3 fun e w'=>
  e=.returned (.bool (decide ((if c=true then W.at_+1 else W.at_)=4)))/\Stepped P f W.at_ c w'):=Lib.hid fun w3 hb hl=>by
  have gh:=hf.only (ab.aD hb (fun _=>False)) (by simp)
  exact RH (n:=4) (by omega) ha (cZ.hd gh |>.2.1) (by rw [hl _ ha]; exact hs) eF (hF w3 hb) hP
 clear hf hF hP hs eF
 generalize (if c=true then W.at_+1 else W.at_)=z at*
 go_enter Tryz.func74,Tryz.ntmps74
 go_wp2_with fail
 go_region_held3 (fun _=>True) (trivial)
  (first
    | (go_at_call 100
       refine (RV _).mono ?_
       rintro e w2 ⟨rfl,fD,au⟩
       have n6:=hG.out w2 ((show Below w.heap.size w w.drew from ⟨rfl,rfl,rfl,Nat.le_refl _,fun _ _=>rfl⟩).trans au) fD
       replace n6:=Lib.hid n6
       clear fD au)
    | (go_at_call 99
       refine n6.out.mono ?_
       rintro e w3 ⟨rfl,cM⟩
       replace cM:=Lib.hid cM))
 all_goals
  go_wp2_with fail
  go_ret
  exact ⟨rfl,cM.out⟩
theorem H8 {F:Nat} {m:Value} {c:Bool} {P:World->Prop} (hf:gr w f C) (ha:C.at_<2) (hs:Cu[C.at_]?=some (oG F)) (eF:∀ args w,(callFunc F args).run Tryz.prog w=.ok (.enter F args) w)
 (hF:∀ w2,Below w.heap.size w w2->Calls Tryz.prog F #[ptr f,m] w2 fun e w'=>e=.returned (.bool c)/\P w') (hP:∀ w',P w'->w'.cell? ⟨f,1,none⟩=some (.int .i64 C.at_)/\w'.frozen? ⟨f,1,none⟩=false):
 Calls Tryz.prog 159 #[ptr f,m] w fun e w'=>e=.returned (.bool (decide ((if c=true then C.at_+1 else C.at_)=2)))/\Stepped P f C.at_ c w':=by
 have hG:Hid (∀ w3,Below w.heap.size w w3->sq w.heap.size Cu w3->Calls Tryz.prog 192 #[ptr f,m,.pointer (some ⟨f,1,none⟩),.slice (some ⟨w.heap.size,0,none⟩) 2 2] w3 fun e w'=>
  e=.returned (.bool (decide ((if c=true then C.at_+1 else C.at_)=2)))/\Stepped P f C.at_ c w'):=Lib.hid fun w3 hb hl=>by
  have gh:=hf.only (ab.aD hb (fun _=>False)) (by simp)
  exact RJ (n:=2) (by omega) ha (gr.hd gh |>.2.1) (by rw [hl _ ha]; exact hs) eF (hF w3 hb) hP
 clear hf hF hP hs eF
 generalize (if c=true then C.at_+1 else C.at_)=z at*
 go_enter Tryz.func159,Tryz.ntmps159
 go_wp2_with fail
 go_region_held3 (fun _=>True) (trivial)
  (first
    | (go_at_call 193
       refine (RW _).mono ?_
       rintro e w2 ⟨rfl,fD,au⟩
       have n6:=hG.out w2 ((show Below w.heap.size w w.drew from ⟨rfl,rfl,rfl,Nat.le_refl _,fun _ _=>rfl⟩).trans au) fD
       replace n6:=Lib.hid n6
       clear fD au)
    | (go_at_call 192
       refine n6.out.mono ?_
       rintro e w3 ⟨rfl,cM⟩
       replace cM:=Lib.hid cM))
 all_goals
  go_wp2_with fail
  go_ret
  exact ⟨rfl,cM.out⟩
theorem RY {F k g:Nat} {m:Value} {c:Bool} {P:World->Prop} (hf:jE w f k g) (ha:g<1) (hs:Cv[g]?=some (oG F)) (eF:∀ args w,(callFunc F args).run Tryz.prog w=.ok (.enter F args) w)
 (hF:∀ w2,Below w.heap.size w w2->Calls Tryz.prog F #[ptr f,m] w2 fun e w'=>e=.returned (.bool c)/\P w') (hP:∀ w',P w'->w'.cell? ⟨f,1,none⟩=some (.int .i64 g)/\w'.frozen? ⟨f,1,none⟩=false):
 Calls Tryz.prog 213 #[ptr f,m] w fun e w'=>e=.returned (.bool (decide ((if c=true then g+1 else g)=1)))/\Stepped P f g c w':=by
 have hG:Hid (∀ w3,Below w.heap.size w w3->sq w.heap.size Cv w3->Calls Tryz.prog 226 #[ptr f,m,.pointer (some ⟨f,1,none⟩),.slice (some ⟨w.heap.size,0,none⟩) 1 1] w3 fun e w'=>
  e=.returned (.bool (decide ((if c=true then g+1 else g)=1)))/\Stepped P f g c w'):=Lib.hid fun w3 hb hl=>by
  have gh:=hf.only (ab.aD hb (fun _=>False)) (by simp)
  exact RI (n:=1) (by omega) ha (gh.cell 1) (by rw [hl _ ha]; exact hs) eF (hF w3 hb) hP
 clear hf hF hP hs eF
 generalize (if c=true then g+1 else g)=z at*
 go_enter Tryz.func213,Tryz.ntmps213
 go_wp2_with fail
 go_region_held3 (fun _=>True) (trivial)
  (first
    | (go_at_call 227
       refine (RX _).mono ?_
       rintro e w2 ⟨rfl,fD,au⟩
       have n6:=hG.out w2 ((show Below w.heap.size w w.drew from ⟨rfl,rfl,rfl,Nat.le_refl _,fun _ _=>rfl⟩).trans au) fD
       replace n6:=Lib.hid n6
       clear fD au)
    | (go_at_call 226
       refine n6.out.mono ?_
       rintro e w3 ⟨rfl,cM⟩
       replace cM:=Lib.hid cM))
 all_goals
  go_wp2_with fail
  go_ret
  exact ⟨rfl,cM.out⟩
end
end Go.Proofs.YtpanebgakndddaaGreat.Qs
