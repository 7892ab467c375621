/- A part. -/
import Derived.Test.YtpanebgakndddaaGreatQsbrB
set_option linter.unusedVariables false
set_option linter.unusedSimpArgs false
namespace Go.Proofs.YtpanebgakndddaaGreat.Qs
open Go Go.RowKit Hp K Fl Rw Hm Ar Mm Me
set_option maxRecDepth 100000
def o6 (n:Nat):Value:=.func (.func n) #[] #[]
theorem S1 (args:Array Value) (w:World):(callFunc 130 args).run Tryz.prog w=.ok (.enter 130 args) w:=by kernel_rfl
theorem S3 (args:Array Value) (w:World):(callFunc 131 args).run Tryz.prog w=.ok (.enter 131 args) w:=by kernel_rfl
theorem S4 (args:Array Value) (w:World):(callFunc 132 args).run Tryz.prog w=.ok (.enter 132 args) w:=by kernel_rfl
theorem S5 (args:Array Value) (w:World):(callFunc 133 args).run Tryz.prog w=.ok (.enter 133 args) w:=by kernel_rfl
theorem S6 (args:Array Value) (w:World):(callFunc 211 args).run Tryz.prog w=.ok (.enter 211 args) w:=by kernel_rfl
theorem S7 (args:Array Value) (w:World):(callFunc 212 args).run Tryz.prog w=.ok (.enter 212 args) w:=by kernel_rfl
theorem S8 (args:Array Value) (w:World):(callFunc 238 args).run Tryz.prog w=.ok (.enter 238 args) w:=by kernel_rfl
def Dj:Array Value:=#[o6 130,o6 131,o6 132,o6 133]
def Dk:Array Value:=#[o6 211,o6 212]
def Dm:Array Value:=#[o6 238]
def uF (b:Nat) (l:Array Value) (w:World):Prop:=∀ i,i<l.size->w.cell? ⟨b,i,none⟩=l[i]?
theorem Tb (w:World):Calls Tryz.prog 100 #[] w fun e w'=>e=.returned (.slice (some ⟨w.heap.size,0,none⟩) 4 4)/\uF w.heap.size Dj w'/\Below w.heap.size w w':=by
 go_enter Tryz.func100,Tryz.ntmps100
 go_wp2
 go_ret
 refine ⟨rfl,fun i hi=>?_,(Below.refl _ _).alloc (Nat.le_refl _) _⟩
 exact (af.made w _ _).cell i
theorem Tc (w:World):Calls Tryz.prog 193 #[] w fun e w'=>e=.returned (.slice (some ⟨w.heap.size,0,none⟩) 2 2)/\uF w.heap.size Dk w'/\Below w.heap.size w w':=by
 go_enter Tryz.func193,Tryz.ntmps193
 go_wp2
 go_ret
 refine ⟨rfl,fun i hi=>?_,(Below.refl _ _).alloc (Nat.le_refl _) _⟩
 exact (af.made w _ _).cell i
theorem Td (w:World):Calls Tryz.prog 227 #[] w fun e w'=>e=.returned (.slice (some ⟨w.heap.size,0,none⟩) 1 1)/\uF w.heap.size Dm w'/\Below w.heap.size w w':=by
 go_enter Tryz.func227,Tryz.ntmps227
 go_wp2
 go_ret
 refine ⟨rfl,fun i hi=>?_,(Below.refl _ _).alloc (Nat.le_refl _) _⟩
 exact (af.made w _ _).cell i
def Stepped (P:World->Prop) (f at_:Nat) (c:Bool) (w':World):Prop:=∃ w1,P w1/\w'=if c=true then w1.setCell ⟨f,1,none⟩ (.int .i64 ((at_+1:Nat):Int)) else w1
section
variable {w:World} {M:Mo} {f:Nat} {W:Wt} {C:Cm}
theorem zP {F:Nat} {m:Value} {c:Bool} {P:World->Prop} (hf:dr w f W) (ha:W.at_<4) (hs:Dj[W.at_]?=some (o6 F)) (eF:∀ args w,(callFunc F args).run Tryz.prog w=.ok (.enter F args) w)
 (hF:∀ w2,Below w.heap.size w w2->Calls Tryz.prog F #[ptr f,m] w2 fun e w'=>e=.returned (.bool c)/\P w') (hP:∀ w',P w'->w'.cell? ⟨f,1,none⟩=some (.int .i64 W.at_)/\w'.frozen? ⟨f,1,none⟩=false):
 Calls Tryz.prog 74 #[ptr f,m] w fun e w'=>e=.returned (.bool (decide ((if c=true then W.at_+1 else W.at_)=4)))/\Stepped P f W.at_ c w':=by
 have hG:Hid (∀ w3,Below w.heap.size w w3->uF w.heap.size Dj w3->Calls Tryz.prog 99 #[ptr f,m,.pointer (some ⟨f,1,none⟩),.slice (some ⟨w.heap.size,0,none⟩) 4 4] w3 fun e w'=>
  e=.returned (.bool (decide ((if c=true then W.at_+1 else W.at_)=4)))/\Stepped P f W.at_ c w'):=Lib.hid fun w3 hb hl=>by
  have gi:=hf.only (ab.aA hb (fun _=>False)) (by simp)
  exact SS (n:=4) (by omega) ha (dr.hd gi |>.2.1) (by rw [hl _ ha]; exact hs) eF (hF w3 hb) hP
 clear hf hF hP hs eF
 generalize (if c=true then W.at_+1 else W.at_)=z at*
 go_enter Tryz.func74,Tryz.ntmps74
 go_wp2_with fail
 go_region_held3 (fun _=>True) (trivial)
  (first
    | (go_at_call 100
       refine (Tb _).mono ?_
       rintro e w2 ⟨rfl,fK,au⟩
       have oD:=hG.out w2 ((show Below w.heap.size w w.drew from ⟨rfl,rfl,rfl,Nat.le_refl _,fun _ _=>rfl⟩).trans au) fK
       replace oD:=Lib.hid oD
       clear fK au)
    | (go_at_call 99
       refine oD.out.mono ?_
       rintro e w3 ⟨rfl,eN⟩
       replace eN:=Lib.hid eN))
 all_goals
  go_wp2_with fail
  go_ret
  exact ⟨rfl,eN.out⟩
theorem Jb {F:Nat} {m:Value} {c:Bool} {P:World->Prop} (hf:gv w f C) (ha:C.at_<2) (hs:Dk[C.at_]?=some (o6 F)) (eF:∀ args w,(callFunc F args).run Tryz.prog w=.ok (.enter F args) w)
 (hF:∀ w2,Below w.heap.size w w2->Calls Tryz.prog F #[ptr f,m] w2 fun e w'=>e=.returned (.bool c)/\P w') (hP:∀ w',P w'->w'.cell? ⟨f,1,none⟩=some (.int .i64 C.at_)/\w'.frozen? ⟨f,1,none⟩=false):
 Calls Tryz.prog 159 #[ptr f,m] w fun e w'=>e=.returned (.bool (decide ((if c=true then C.at_+1 else C.at_)=2)))/\Stepped P f C.at_ c w':=by
 have hG:Hid (∀ w3,Below w.heap.size w w3->uF w.heap.size Dk w3->Calls Tryz.prog 192 #[ptr f,m,.pointer (some ⟨f,1,none⟩),.slice (some ⟨w.heap.size,0,none⟩) 2 2] w3 fun e w'=>
  e=.returned (.bool (decide ((if c=true then C.at_+1 else C.at_)=2)))/\Stepped P f C.at_ c w'):=Lib.hid fun w3 hb hl=>by
  have gi:=hf.only (ab.aA hb (fun _=>False)) (by simp)
  exact SV (n:=2) (by omega) ha (gv.hd gi |>.2.1) (by rw [hl _ ha]; exact hs) eF (hF w3 hb) hP
 clear hf hF hP hs eF
 generalize (if c=true then C.at_+1 else C.at_)=z at*
 go_enter Tryz.func159,Tryz.ntmps159
 go_wp2_with fail
 go_region_held3 (fun _=>True) (trivial)
  (first
    | (go_at_call 193
       refine (Tc _).mono ?_
       rintro e w2 ⟨rfl,fK,au⟩
       have oD:=hG.out w2 ((show Below w.heap.size w w.drew from ⟨rfl,rfl,rfl,Nat.le_refl _,fun _ _=>rfl⟩).trans au) fK
       replace oD:=Lib.hid oD
       clear fK au)
    | (go_at_call 192
       refine oD.out.mono ?_
       rintro e w3 ⟨rfl,eN⟩
       replace eN:=Lib.hid eN))
 all_goals
  go_wp2_with fail
  go_ret
  exact ⟨rfl,eN.out⟩
theorem Te {F k g:Nat} {m:Value} {c:Bool} {P:World->Prop} (hf:jG w f k g) (ha:g<1) (hs:Dm[g]?=some (o6 F)) (eF:∀ args w,(callFunc F args).run Tryz.prog w=.ok (.enter F args) w)
 (hF:∀ w2,Below w.heap.size w w2->Calls Tryz.prog F #[ptr f,m] w2 fun e w'=>e=.returned (.bool c)/\P w') (hP:∀ w',P w'->w'.cell? ⟨f,1,none⟩=some (.int .i64 g)/\w'.frozen? ⟨f,1,none⟩=false):
 Calls Tryz.prog 213 #[ptr f,m] w fun e w'=>e=.returned (.bool (decide ((if c=true then g+1 else g)=1)))/\Stepped P f g c w':=by
 have hG:Hid (∀ w3,Below w.heap.size w w3->uF w.heap.size Dm w3->Calls Tryz.prog 226 #[ptr f,m,.pointer (some ⟨f,1,none⟩),.slice (some ⟨w.heap.size,0,none⟩) 1 1] w3 fun e w'=>
  e=.returned (.bool (decide ((if c=true then g+1 else g)=1)))/\Stepped P f g c w'):=Lib.hid fun w3 hb hl=>by
  have gi:=hf.only (ab.aA hb (fun _=>False)) (by simp)
  exact SU (n:=1) (by omega) ha (gi.cell 1) (by rw [hl _ ha]; exact hs) eF (hF w3 hb) hP
 clear hf hF hP hs eF
 generalize (if c=true then g+1 else g)=z at*
 go_enter Tryz.func213,Tryz.ntmps213
 go_wp2_with fail
 go_region_held3 (fun _=>True) (trivial)
  (first
    | (go_at_call 227
       refine (Td _).mono ?_
       rintro e w2 ⟨rfl,fK,au⟩
       have oD:=hG.out w2 ((show Below w.heap.size w w.drew from ⟨rfl,rfl,rfl,Nat.le_refl _,fun _ _=>rfl⟩).trans au) fK
       replace oD:=Lib.hid oD
       clear fK au)
    | (go_at_call 226
       refine oD.out.mono ?_
       rintro e w3 ⟨rfl,eN⟩
       replace eN:=Lib.hid eN))
 all_goals
  go_wp2_with fail
  go_ret
  exact ⟨rfl,eN.out⟩
end
end Go.Proofs.YtpanebgakndddaaGreat.Qs
