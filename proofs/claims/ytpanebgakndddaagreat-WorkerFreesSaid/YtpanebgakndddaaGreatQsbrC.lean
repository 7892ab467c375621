/- A part. -/
import Derived.Test.YtpanebgakndddaaGreatQsbrB
set_option linter.unusedVariables false
set_option linter.unusedSimpArgs false
namespace Go.Proofs.YtpanebgakndddaaGreat.Qs
open Go Go.RowKit Hp K Fl Rw Hm Ar Mm Me
set_option maxRecDepth 100000
def oL (n:Nat):Value:=.func (.func n) #[] #[]
theorem R6 (args:Array Value) (w:World):(callFunc 130 args).run Tryz.prog w=.ok (.enter 130 args) w:=by kernel_rfl
theorem R7 (args:Array Value) (w:World):(callFunc 131 args).run Tryz.prog w=.ok (.enter 131 args) w:=by kernel_rfl
theorem R8 (args:Array Value) (w:World):(callFunc 132 args).run Tryz.prog w=.ok (.enter 132 args) w:=by kernel_rfl
theorem R9 (args:Array Value) (w:World):(callFunc 133 args).run Tryz.prog w=.ok (.enter 133 args) w:=by kernel_rfl
theorem Sb (args:Array Value) (w:World):(callFunc 211 args).run Tryz.prog w=.ok (.enter 211 args) w:=by kernel_rfl
theorem Sd (args:Array Value) (w:World):(callFunc 212 args).run Tryz.prog w=.ok (.enter 212 args) w:=by kernel_rfl
theorem Se (args:Array Value) (w:World):(callFunc 238 args).run Tryz.prog w=.ok (.enter 238 args) w:=by kernel_rfl
def CI:Array Value:=#[oL 130,oL 131,oL 132,oL 133]
def CJ:Array Value:=#[oL 211,oL 212]
def CK:Array Value:=#[oL 238]
def sD (b:Nat) (l:Array Value) (w:World):Prop:=∀ i,i<l.size->w.cell? ⟨b,i,none⟩=l[i]?
theorem Sf (w:World):Calls Tryz.prog 100 #[] w fun e w'=>e=.returned (.slice (some ⟨w.heap.size,0,none⟩) 4 4)/\sD w.heap.size CI w'/\Below w.heap.size w w':=by
 go_enter Tryz.func100,Tryz.ntmps100
 go_wp2
 go_ret
 refine ⟨rfl,fun i hi=>?_,(Below.refl _ _).alloc (Nat.le_refl _) _⟩
 exact (af.made w _ _).cell i
theorem Sg (w:World):Calls Tryz.prog 193 #[] w fun e w'=>e=.returned (.slice (some ⟨w.heap.size,0,none⟩) 2 2)/\sD w.heap.size CJ w'/\Below w.heap.size w w':=by
 go_enter Tryz.func193,Tryz.ntmps193
 go_wp2
 go_ret
 refine ⟨rfl,fun i hi=>?_,(Below.refl _ _).alloc (Nat.le_refl _) _⟩
 exact (af.made w _ _).cell i
theorem Si (w:World):Calls Tryz.prog 227 #[] w fun e w'=>e=.returned (.slice (some ⟨w.heap.size,0,none⟩) 1 1)/\sD w.heap.size CK w'/\Below w.heap.size w w':=by
 go_enter Tryz.func227,Tryz.ntmps227
 go_wp2
 go_ret
 refine ⟨rfl,fun i hi=>?_,(Below.refl _ _).alloc (Nat.le_refl _) _⟩
 exact (af.made w _ _).cell i
def Stepped (P:World->Prop) (f at_:Nat) (c:Bool) (w':World):Prop:=∃ w1,P w1/\w'=if c=true then w1.setCell ⟨f,1,none⟩ (.int .i64 ((at_+1:Nat):Int)) else w1
section
variable {w:World} {M:Mo} {f:Nat} {W:Wt} {C:Cm}
theorem yT {F:Nat} {m:Value} {c:Bool} {P:World->Prop} (hf:cZ w f W) (ha:W.at_<4) (hs:CI[W.at_]?=some (oL F)) (eF:∀ args w,(callFunc F args).run Tryz.prog w=.ok (.enter F args) w)
 (hF:∀ w2,Below w.heap.size w w2->Calls Tryz.prog F #[ptr f,m] w2 fun e w'=>e=.returned (.bool c)/\P w') (hP:∀ w',P w'->w'.cell? ⟨f,1,none⟩=some (.int .i64 W.at_)/\w'.frozen? ⟨f,1,none⟩=false):
 Calls Tryz.prog 74 #[ptr f,m] w fun e w'=>e=.returned (.bool (decide ((if c=true then W.at_+1 else W.at_)=4)))/\Stepped P f W.at_ c w':=by
 have hG:Hid (∀ w3,Below w.heap.size w w3->sD w.heap.size CI w3->Calls Tryz.prog 99 #[ptr f,m,.pointer (some ⟨f,1,none⟩),.slice (some ⟨w.heap.size,0,none⟩) 4 4] w3 fun e w'=>
  e=.returned (.bool (decide ((if c=true then W.at_+1 else W.at_)=4)))/\Stepped P f W.at_ c w'):=Lib.hid fun w3 hb hl=>by
  have gi:=hf.only (ab.aD hb (fun _=>False)) (by simp)
  exact RU (n:=4) (by omega) ha (cZ.hd gi |>.2.1) (by rw [hl _ ha]; exact hs) eF (hF w3 hb) hP
 clear hf hF hP hs eF
 generalize (if c=true then W.at_+1 else W.at_)=z at*
 go_enter Tryz.func74,Tryz.ntmps74
 go_wp2_with fail
 go_region_held3 (fun _=>True) (trivial)
  (first
    | (go_at_call 100
       refine (Sf _).mono ?_
       rintro e w2 ⟨rfl,fG,au⟩
       have ob:=hG.out w2 ((show Below w.heap.size w w.drew from ⟨rfl,rfl,rfl,Nat.le_refl _,fun _ _=>rfl⟩).trans au) fG
       replace ob:=Lib.hid ob
       clear fG au)
    | (go_at_call 99
       refine ob.out.mono ?_
       rintro e w3 ⟨rfl,cK⟩
       replace cK:=Lib.hid cK))
 all_goals
  go_wp2_with fail
  go_ret
  exact ⟨rfl,cK.out⟩
theorem Ik {F:Nat} {m:Value} {c:Bool} {P:World->Prop} (hf:gu w f C) (ha:C.at_<2) (hs:CJ[C.at_]?=some (oL F)) (eF:∀ args w,(callFunc F args).run Tryz.prog w=.ok (.enter F args) w)
 (hF:∀ w2,Below w.heap.size w w2->Calls Tryz.prog F #[ptr f,m] w2 fun e w'=>e=.returned (.bool c)/\P w') (hP:∀ w',P w'->w'.cell? ⟨f,1,none⟩=some (.int .i64 C.at_)/\w'.frozen? ⟨f,1,none⟩=false):
 Calls Tryz.prog 159 #[ptr f,m] w fun e w'=>e=.returned (.bool (decide ((if c=true then C.at_+1 else C.at_)=2)))/\Stepped P f C.at_ c w':=by
 have hG:Hid (∀ w3,Below w.heap.size w w3->sD w.heap.size CJ w3->Calls Tryz.prog 192 #[ptr f,m,.pointer (some ⟨f,1,none⟩),.slice (some ⟨w.heap.size,0,none⟩) 2 2] w3 fun e w'=>
  e=.returned (.bool (decide ((if c=true then C.at_+1 else C.at_)=2)))/\Stepped P f C.at_ c w'):=Lib.hid fun w3 hb hl=>by
  have gi:=hf.only (ab.aD hb (fun _=>False)) (by simp)
  exact RW (n:=2) (by omega) ha (gu.hd gi |>.2.1) (by rw [hl _ ha]; exact hs) eF (hF w3 hb) hP
 clear hf hF hP hs eF
 generalize (if c=true then C.at_+1 else C.at_)=z at*
 go_enter Tryz.func159,Tryz.ntmps159
 go_wp2_with fail
 go_region_held3 (fun _=>True) (trivial)
  (first
    | (go_at_call 193
       refine (Sg _).mono ?_
       rintro e w2 ⟨rfl,fG,au⟩
       have ob:=hG.out w2 ((show Below w.heap.size w w.drew from ⟨rfl,rfl,rfl,Nat.le_refl _,fun _ _=>rfl⟩).trans au) fG
       replace ob:=Lib.hid ob
       clear fG au)
    | (go_at_call 192
       refine ob.out.mono ?_
       rintro e w3 ⟨rfl,cK⟩
       replace cK:=Lib.hid cK))
 all_goals
  go_wp2_with fail
  go_ret
  exact ⟨rfl,cK.out⟩
theorem Sj {F k g:Nat} {m:Value} {c:Bool} {P:World->Prop} (hf:jK w f k g) (ha:g<1) (hs:CK[g]?=some (oL F)) (eF:∀ args w,(callFunc F args).run Tryz.prog w=.ok (.enter F args) w)
 (hF:∀ w2,Below w.heap.size w w2->Calls Tryz.prog F #[ptr f,m] w2 fun e w'=>e=.returned (.bool c)/\P w') (hP:∀ w',P w'->w'.cell? ⟨f,1,none⟩=some (.int .i64 g)/\w'.frozen? ⟨f,1,none⟩=false):
 Calls Tryz.prog 213 #[ptr f,m] w fun e w'=>e=.returned (.bool (decide ((if c=true then g+1 else g)=1)))/\Stepped P f g c w':=by
 have hG:Hid (∀ w3,Below w.heap.size w w3->sD w.heap.size CK w3->Calls Tryz.prog 226 #[ptr f,m,.pointer (some ⟨f,1,none⟩),.slice (some ⟨w.heap.size,0,none⟩) 1 1] w3 fun e w'=>
  e=.returned (.bool (decide ((if c=true then g+1 else g)=1)))/\Stepped P f g c w'):=Lib.hid fun w3 hb hl=>by
  have gi:=hf.only (ab.aD hb (fun _=>False)) (by simp)
  exact RV (n:=1) (by omega) ha (gi.cell 1) (by rw [hl _ ha]; exact hs) eF (hF w3 hb) hP
 clear hf hF hP hs eF
 generalize (if c=true then g+1 else g)=z at*
 go_enter Tryz.func213,Tryz.ntmps213
 go_wp2_with fail
 go_region_held3 (fun _=>True) (trivial)
  (first
    | (go_at_call 227
       refine (Si _).mono ?_
       rintro e w2 ⟨rfl,fG,au⟩
       have ob:=hG.out w2 ((show Below w.heap.size w w.drew from ⟨rfl,rfl,rfl,Nat.le_refl _,fun _ _=>rfl⟩).trans au) fG
       replace ob:=Lib.hid ob
       clear fG au)
    | (go_at_call 226
       refine ob.out.mono ?_
       rintro e w3 ⟨rfl,cK⟩
       replace cK:=Lib.hid cK))
 all_goals
  go_wp2_with fail
  go_ret
  exact ⟨rfl,cK.out⟩
end
end Go.Proofs.YtpanebgakndddaaGreat.Qs
