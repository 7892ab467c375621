/- Walks and plain mathematics, put together in their order: RzU, RzV, RzW, RzX, RzY, FnA, ThE, FoA, FnC. -/
import Derived.Test.YtkogifmjbmnpgaaGreatPart11
import Derived.Test.YtkogifmjbmnpgaaGreatFnvWalk
import Derived.Test.YtkogifmjbmnpgaaGreatLawSixA
import Derived.Test.YtkogifmjbmnpgaaGreatFinishN
set_option linter.unusedVariables false
set_option linter.unusedSimpArgs false
namespace Go.Proofs.YtkogifmjbmnpgaaGreat.Zr
open Go Go.RowKit Hp K Fl Rw Hm Ar Mm Wk Pc Me Mq Pu Pn Gt Qs Zp Mx LawTh Bs
set_option maxRecDepth 100000
structure Ra where
 f:Nat
 tv:Value
 ga:Gw.Gl
 sa:Sw.Sc
def hld (nx:Nat):Nat:=if nx=0 then 0 else if nx≤5 then nx-1 else if nx=6 then 5 else 12-nx
def rrv (f nx:Nat) (tv:Value):Value:=if 1≤nx∧nx≤5 then wfm 31 (ptr f) else if nx=6 then .func (.method "Ready") #[tv] #[] else wf0 33
def rnv (f nx:Nat):Value:=if nx=0 then wfm 34 (ptr f) else if nx≤5 then wfm 32 (ptr f) else if nx=6 then wfm 137 (ptr f) else if nx≤11 then wfm 103 (ptr f) else wf0 104
def rcs (k z:Int) (u2 u3:Value) (e:Int) (h:Nat) (tv:Value):Array Value:=#[.int .i64 k,.int .i64 z,u2,u3,.int .i64 e,.int .i64 h,tv]
def rzc (a:Ra) (R:Rz):Array Value:=rcs R.worker R.size (rrv a.f R.nx a.tv) (rnv a.f R.nx) R.err (hld R.nx) a.tv
abbrev Rb (w:World) (f:Nat) (k z:Int) (u2 u3:Value) (e:Int) (h:Nat) (tv:Value):Prop:=Blk w f 77 (rcs k z u2 u3 e h tv)
structure RzAt (w:World) (a:Ra) (R:Rz):Prop where
 blk:Blk w a.f 77 (rzc a R)
 gro:∀ G,R.nx=6→R.inn=.gro G→a.tv=.iface 124 (ptr a.ga.f)∧Gw.GrAt w a.ga G
 shr:∀ G,R.nx=6→R.inn=.shr G→a.tv=.iface 126 (ptr a.sa.f)∧Sw.ShAt w a.sa G
def rfoot (a:Ra) (R:Rz) (x:Nat):Prop:=x=a.f∨(∃ G,R.nx=6∧R.inn=.gro G∧Gw.gfoot a.ga G x)∨∃ G,R.nx=6∧R.inn=.shr G∧Sw.sfoot a.sa G x
abbrev rzL:Lay Ra Rz:=⟨Ra.f,RzAt,rfoot⟩
section
variable {w w':World} {M:Mo} {a:Ra} {R:Rz} {f h:Nat} {k z e:Int} {u2 u3 tv:Value}
theorem rz_lt (h:rzL.At w a R) {x:Nat} (hx:rzL.foot a R x):x<w.heap.size:=by
 rcases hx with rfl | ⟨G,q1,q2,q3⟩ | ⟨G,q1,q2,q3⟩
 · exact h.blk.lt
 · exact (h.gro G q1 q2).2.lt q3
 · exact (h.shr G q1 q2).2.lt q3
theorem rz_far (h:rzL.At w a R) (hM:MemAt w M) {x:Nat} (hx:rzL.foot a R x):¬mfoot M x:=by
 rcases hx with rfl | ⟨G,q1,q2,q3⟩ | ⟨G,q1,q2,q3⟩
 · exact fun hm=>(hM.ty hm).apart (blk_ty h.blk) (by decide)
 · exact (h.gro G q1 q2).2.far hM q3
 · exact (h.shr G q1 q2).2.far hM q3
theorem rz_only {S:Nat→Prop} (h:rzL.At w a R) (ho:Only S w w') (hn:∀ x,rzL.foot a R x→¬S x):rzL.At w' a R where
 blk:=h.blk.only ho (hn _ (.inl rfl))
 gro G q1 q2:=⟨(h.gro G q1 q2).1,(h.gro G q1 q2).2.only ho (fun x hx=>hn x (.inr (.inl ⟨G,q1,q2,hx⟩)))⟩
 shr G q1 q2:=⟨(h.shr G q1 q2).1,(h.shr G q1 q2).2.only ho (fun x hx=>hn x (.inr (.inr ⟨G,q1,q2,hx⟩)))⟩
theorem rz_below (h:rzL.At w a R) (hb:Below w.heap.size w w'):rzL.At w' a R:=rz_only h (Only.ofBelow hb (fun _=>False)) (by simp)
theorem RzAt.plain (h:Blk w a.f 77 (rzc a R)) (hn:R.nx≠6):RzAt w a R:=⟨h,fun _ q=>absurd q hn,fun _ q=>absurd q hn⟩
theorem rfoot_plain (hn:R.nx≠6) {x:Nat} (hx:rfoot a R x):x=a.f:=by
 rcases hx with q | ⟨_,q,_⟩ | ⟨_,q,_⟩
 · exact q
 · exact absurd q hn
 · exact absurd q hn
theorem rb_cells (hb:Rb w f k z u2 u3 e h tv):w.cell? ⟨f,0,none⟩=some (.int .i64 k)∧w.cell? ⟨f,1,none⟩=some (.int .i64 z)∧w.cell? ⟨f,2,none⟩=some u2∧w.cell? ⟨f,3,none⟩=some u3∧w.cell? ⟨f,4,none⟩=some (.int .i64 e)∧w.cell? ⟨f,5,none⟩=some (.int .i64 h)∧w.cell? ⟨f,6,none⟩=some tv:=
 ⟨hb.cell 0,hb.cell 1,hb.cell 2,hb.cell 3,hb.cell 4,hb.cell 5,hb.cell 6⟩
theorem rb_far {h:Nat} (hb:Rb w f k z u2 u3 e h tv) (hM:MemAt w M):¬mfoot M f:=fun hm=>(hM.ty hm).apart (blk_ty hb) (by decide)
theorem power_all (n:Int) (w:World):Calls Tryz.prog 29 #[.int .i64 n] w fun e w'=>e=.returned (.bool (FM.power n))∧w'=w:=by
 by_cases h1:n≤9223372036854775807
 · by_cases h0: -9223372036854775808≤n
   · exact Fnv.power_any n w h0 h1
   · have hp:FM.power n=false:=by
      cases h:FM.power n with
      | false=>rfl
      | true=>have:=FM.power_bd h; omega
     have a:¬1≤n:=by omega
     rw [hp]
     clear h0 h1
     go_enter Tryz.func29,Tryz.ntmps29
     go_wp2
     go_ret
     exact ⟨rfl,rfl⟩
 · have hp:FM.power n=false:=by
    cases h:FM.power n with
    | false=>rfl
    | true=>have:=FM.power_bd h; omega
   have a:1≤n:=by omega
   have b:¬n≤65536:=by omega
   rw [hp]
   clear h1
   go_enter Tryz.func29,Tryz.ntmps29
   go_wp2
   go_ret
   exact ⟨rfl,rfl⟩
theorem always_any (m:Value) (w:World):Calls Tryz.prog 33 #[m] w fun e w'=>e=.returned (.bool true)∧w'=w:=by
 go_enter Tryz.func33,Tryz.ntmps33
 go_wp2
 go_ret
 exact ⟨rfl,rfl⟩
theorem goOn_any {F1 F2:Fn} {b1 b2:Array Value} {h:Nat} (hb:Rb w f k z u2 u3 e h tv):
 Calls Tryz.prog 30 #[ptr f,.func F1 b1 #[],.func F2 b2 #[]] w fun x w'=>x=.returned (.tuple #[])∧Rb w' f k z (.func F1 b1 #[]) (.func F2 b2 #[]) e h tv∧Only (·=f) w w':=by
 have c2:=hb.cell 2
 have c3:=hb.cell 3
 have z2:=hb.frozen 2
 have z3:=hb.frozen 3
 simp only [rcs,List.getElem?_toArray,List.getElem?_cons_succ,List.getElem?_cons_zero] at c2 c3
 have hE:Hid (Rb ((w.setCell ⟨f,2,none⟩ (.func F1 b1 #[])).setCell ⟨f,3,none⟩ (.func F2 b2 #[])) f k z (.func F1 b1 #[]) (.func F2 b2 #[]) e h tv):=Lib.hid ((hb.store 2 _).store 3 _)
 have hO:Hid (Only (·=f) w ((w.setCell ⟨f,2,none⟩ (.func F1 b1 #[])).setCell ⟨f,3,none⟩ (.func F2 b2 #[]))):=Lib.hid (((Only.refl (·=f) w).setCell (p:=⟨f,2,none⟩) (.inl rfl) _).setCell (p:=⟨f,3,none⟩) (.inl rfl) _)
 clear hb
 go_enter Tryz.func30,Tryz.ntmps30
 go_wp2
 go_end0
 exact ⟨rfl,hE.out,hO.out⟩
theorem end_any {h:Nat} (hb:Rb w f k z u2 u3 e h tv):
 Calls Tryz.prog 72 #[ptr f] w fun x w'=>x=.returned (.bool true)∧Rb w' f k z (wf0 33) (wf0 104) e h tv∧Only (·=f) w w':=by
 have hG:=Lib.hid (goOn_any (F1:=.func 33) (F2:=.func 104) (b1:=#[]) (b2:=#[]) hb)
 clear hb
 go_enter Tryz.func72,Tryz.ntmps72
 go_wp2_with fail
 refine hG.out.mono ?_
 rintro e w' ⟨rfl,hB,hO⟩
 replace hB:=Lib.hid hB
 replace hO:=Lib.hid hO
 clear hG
 go_wp2_with fail
 go_ret
 exact ⟨rfl,hB.out,hO.out⟩
def newRz (k z:Int):Rz:=⟨k,z,if FM.power z=true then 1 else 0,0,.none⟩
theorem new_resize (k z:Int) (w:World):Calls Tryz.prog 8 #[.int .i64 k,.int .i64 z] w fun e w'=>∃ a:Ra,e=.returned (ptr (rzL.f a))∧rzL.At w' a (newRz k z)∧(∀ x,rzL.foot a (newRz k z) x→w.heap.size≤x)∧Below w.heap.size w w':=by
 obtain ⟨w2,hw2⟩:∃ w2,w2=w.alloc (.cells #[.int .i64 k,.int .i64 z,.nilFunc,.nilFunc,.int .i64 0,.int .i64 0,.nilIface] 77):=⟨_,rfl⟩
 have hF2:Rb w2 w.heap.size k z .nilFunc .nilFunc 0 0 .nilIface:=by rw [hw2]; exact Blk.made w _ _
 have hB2:Below w.heap.size w w2:=by rw [hw2]; exact (Below.refl _ _).alloc (Nat.le_refl _) _
 obtain ⟨f,hf⟩:∃ f,f=w.heap.size:=⟨_,rfl⟩
 rw [← hf] at hF2
 have hfw:w.heap.size≤f:=by omega
 have hP:=Lib.hid (power_all z)
 have hb2:∀ w1,Only (·=f) w2 w1→Below w.heap.size w w1:=fun w1 hO=>hB2.trans (hO.toBelow hB2.size (fun x hx q=>by omega))
 replace hb2:=Lib.hid hb2
 cases hp:FM.power z with
 | true=>
   have hgo:=Lib.hid (goOn_any (F1:=.func 31) (F2:=.func 32) (b1:=#[ptr f]) (b2:=#[ptr f]) hF2)
   have hn:newRz k z=⟨k,z,1,0,.none⟩:=by unfold newRz; rw [hp]; rfl
   rw [hn]
   rw [hp] at hP
   clear hF2 hB2 hn hp
   go_enter Tryz.func8,Tryz.ntmps8
   go_upto_region 2 with (fail)
   rw [← hw2,← hf]
   clear hw2 hf
   go_wp2_with fail
   refine (hP.out _).mono ?_
   rintro e w' ⟨rfl,rfl⟩
   clear hP
   go_wp2_with fail
   refine hgo.out.mono ?_
   rintro e w1 ⟨rfl,hB,hO⟩
   have hE:Hid (RzAt w1 ⟨f,.nilIface,⟨0,.nilIface,.nilIface,0,0,none,0,0,none,0,[],none,0,[]⟩,⟨0,.nilIface,0,0⟩⟩ ⟨k,z,1,0,.none⟩):=Lib.hid (RzAt.plain hB (by simp))
   have hBl:=Lib.hid (hb2.out _ hO)
   clear hgo hB hO hb2
   go_wp2_with fail
   go_ret
   exact ⟨_,rfl,hE.out,fun x hx=>by rw [rfoot_plain (by simp) hx]; exact hfw,hBl.out⟩
 | false=>
   have hgo:=Lib.hid (goOn_any (F1:=.func 33) (F2:=.func 34) (b1:=#[]) (b2:=#[ptr f]) hF2)
   have hn:newRz k z=⟨k,z,0,0,.none⟩:=by unfold newRz; rw [hp]; rfl
   rw [hn]
   rw [hp] at hP
   clear hF2 hB2 hn hp
   go_enter Tryz.func8,Tryz.ntmps8
   go_upto_region 2 with (fail)
   rw [← hw2,← hf]
   clear hw2 hf
   go_wp2_with fail
   refine (hP.out _).mono ?_
   rintro e w' ⟨rfl,rfl⟩
   clear hP
   go_wp2_with fail
   refine hgo.out.mono ?_
   rintro e w1 ⟨rfl,hB,hO⟩
   have hE:Hid (RzAt w1 ⟨f,.nilIface,⟨0,.nilIface,.nilIface,0,0,none,0,0,none,0,[],none,0,[]⟩,⟨0,.nilIface,0,0⟩⟩ ⟨k,z,0,0,.none⟩):=Lib.hid (RzAt.plain hB (by simp))
   have hBl:=Lib.hid (hb2.out _ hO)
   clear hgo hB hO hb2
   go_wp2_with fail
   go_ret
   exact ⟨_,rfl,hE.out,fun x hx=>by rw [rfoot_plain (by simp) hx]; exact hfw,hBl.out⟩
theorem rz_err (h:rzL.At w a R):Calls Tryz.prog 11 #[ptr (rzL.f a)] w fun e w'=>e=.returned (.int .i64 R.err)∧w'=w:=by
 have c4:=(rb_cells h.blk).2.2.2.2.1
 show Calls _ _ #[ptr a.f] _ _
 clear h
 go_enter Tryz.func11,Tryz.ntmps11
 go_wp2_with fail
 go_ret
 exact ⟨rfl,rfl⟩
theorem step_fm {F:Nat} {cv m:Value} {c:Bool} {P:World→Prop} (c3:w.cell? ⟨f,3,none⟩=some (wfm F cv)) (eF:∀ args w,(callFunc F args).run Tryz.prog w=.ok (.enter F args) w)
 (hF:Calls Tryz.prog F #[cv,m] w fun e w'=>e=.returned (.bool c)∧P w'):Calls Tryz.prog 235 #[ptr f,m] w fun e w'=>e=.returned (.bool c)∧P w':=by
 replace hF:=Lib.hid hF
 go_enter Tryz.func235,Tryz.ntmps235
 go_wp2_with fail
 refine hF.out.mono ?_
 rintro e w' ⟨rfl,hPw⟩
 replace hPw:=Lib.hid hPw
 clear c3
 go_wp2_with fail
 go_ret
 exact ⟨rfl,hPw.out⟩
theorem ready_f0 {m:Value} (c2:w.cell? ⟨f,2,none⟩=some (wf0 33)):Calls Tryz.prog 234 #[ptr f,m] w fun e w'=>e=.returned (.bool true)∧Below w.heap.size w w':=by
 have eF:∀ args w,(callFunc 33 args).run Tryz.prog w=.ok (.enter 33 args) w:=fun _ _=>by kernel_rfl
 have hA:=Lib.hid (always_any m w)
 go_enter Tryz.func234,Tryz.ntmps234
 go_wp2_with fail
 refine hA.out.mono ?_
 rintro e w' ⟨rfl,hw⟩
 obtain rfl:w=w':=hw.symm
 clear hA c2
 go_wp2_with fail
 go_ret
 exact ⟨rfl,Below.refl _ _⟩
theorem ready_fm {F:Nat} {cv m:Value} {c:Bool} (c2:w.cell? ⟨f,2,none⟩=some (wfm F cv)) (eF:∀ args w,(callFunc F args).run Tryz.prog w=.ok (.enter F args) w)
 (hF:Calls Tryz.prog F #[cv,m] w fun e w'=>e=.returned (.bool c)∧Below w.heap.size w w'):Calls Tryz.prog 234 #[ptr f,m] w fun e w'=>e=.returned (.bool c)∧Below w.heap.size w w':=by
 replace hF:=Lib.hid hF
 go_enter Tryz.func234,Tryz.ntmps234
 go_wp2_with fail
 refine hF.out.mono ?_
 rintro e w' ⟨rfl,hb⟩
 replace hb:=Lib.hid hb
 clear c2
 go_wp2_with fail
 go_ret
 exact ⟨rfl,hb.out⟩
theorem ready_by {T:TypeId} {fr b:Nat} {m:Value} {c:Bool} (c2:w.cell? ⟨f,2,none⟩=some (.func (.method "Ready") #[.iface T (ptr b)] #[])) (mr:∀ (w:World) (f:Nat),(method (f+1) T (.pointer (some ⟨b,0,none⟩)) "Ready").run Tryz.prog w=.ok (fr,.pointer (some ⟨b,0,none⟩)) w)
 (er:∀ args w,(callFunc fr args).run Tryz.prog w=.ok (.enter fr args) w) (hF:Calls Tryz.prog fr #[ptr b,m] w fun e w'=>e=.returned (.bool c)∧Below w.heap.size w w'):Calls Tryz.prog 234 #[ptr f,m] w fun e w'=>e=.returned (.bool c)∧Below w.heap.size w w':=by
 replace hF:=Lib.hid hF
 go_enter Tryz.func234,Tryz.ntmps234
 go_wp2_with fail
 refine hF.out.mono ?_
 rintro e w' ⟨rfl,hb⟩
 replace hb:=Lib.hid hb
 clear c2
 go_wp2_with fail
 go_ret
 exact ⟨rfl,hb.out⟩
end
end Go.Proofs.YtkogifmjbmnpgaaGreat.Zr
namespace Go.Proofs.YtkogifmjbmnpgaaGreat.Zr
open Go Go.RowKit Hp K Fl Rw Hm Ar Mm Wk Pc Me Mq Pu Pn Gt Qs Zp Mx LawTh Bs
set_option maxRecDepth 100000
def lkB (h:Nat):Nat:=if h=0 then 5 else h
section
variable {w w':World} {M:Mo} {a:Ra} {R:Rz} {f h b:Nat} {k z e:Int} {u2 u3 tv:Value}
theorem lock_behind (h:Nat) (w:World):Calls Tryz.prog 69 #[.int .i64 h] w fun e w'=>e=.returned (.int .i64 (lkB h))∧w'=w:=by
 unfold lkB
 by_cases h0:h=0
 · subst h0
   go_enter Tryz.func69,Tryz.ntmps69
   go_wp2
   go_ret
   exact ⟨rfl,rfl⟩
 · rw [if_neg h0]
   have hz:¬((h:Int)=0):=by omega
   go_enter Tryz.func69,Tryz.ntmps69
   go_wp2
   go_ret
   exact ⟨rfl,rfl⟩
theorem lkB_lt (hh:h≤4):lkB h<6:=by unfold lkB; split<;>omega
set_option maxHeartbeats 1000000 in
theorem mayTake_any (hM:MemAt w M) (hb:Rb w f k z u2 u3 e h tv) (hk:0≤k) (hh:h≤4) (hl:M.hs.length=6):
 Calls Tryz.prog 31 #[ptr f,ptr M.m] w fun x w'=>x=.returned (.bool (decide (Lo.hol M.hs (lkB h)= -1)))∧Below w.heap.size w w':=by
 obtain ⟨c0,c1,c2,c3,c4,c5,c6⟩:=rb_cells hb
 have d1:=hM.hd.2.1
 have hLB:=Lib.hid (fun w=>lock_behind h w)
 have hk':decide (0≤k)=true:=by simpa using hk
 have hO:=Lib.hid (fun nq=>Lo.holder_in (hM.drewN nq).2.2.1 (lkB h) (by rw [hl]; exact lkB_lt hh))
 have hbd:=Lo.hol_bd hM.2.2.1.2.2.1 (lkB h)
 clear hM hb c1 c2 c3 c4 c6 hl
 generalize Lo.hol M.hs (lkB h)=v at*
 generalize lkB h=j at*
 go_enter Tryz.func31,Tryz.ntmps31
 go_wp2_with fail
 go_quiet (first
  | (go_at_call 69; exact Calls.quiet_of_same (hLB.out _))
  | (go_at_call 68; exact Calls.quiet_of_same (hO.out _)))
 go_wp2_with fail
 go_ret
 exact ⟨K.ret_bool (by simp [BEq.beq]),rfl,rfl,rfl,Nat.le_refl _,fun _ _=>rfl⟩
theorem refuse_step (hb:Rb w f k z u2 u3 e h tv) (m:Value):
 Calls Tryz.prog 34 #[ptr f,m] w fun x w'=>x=.returned (.bool true)∧Rb w' f k z (wf0 33) (wf0 104) 5 h tv∧Only (·=f) w w':=by
 have c4:=(rb_cells hb).2.2.2.2.1
 have z4:=hb.frozen 4
 have hS:Rb (w.setCell ⟨f,4,none⟩ (.int .i64 5)) f k z u2 u3 5 h tv:=hb.store 4 _
 have hO:=Lib.hid ((Only.refl (·=f) w).setCell (p:=⟨f,4,none⟩) (.inl rfl) (.int .i64 5))
 have hE:=Lib.hid (end_any hS)
 clear hb hS
 go_enter Tryz.func34,Tryz.ntmps34
 go_wp2_with fail
 refine hE.out.mono ?_
 rintro e w' ⟨rfl,hB,hO2⟩
 replace hB:=Lib.hid hB
 have hO3:=Lib.hid (hO.out.trans hO2)
 clear hE hO hO2 c4 z4
 go_wp2_with fail
 go_ret
 exact ⟨rfl,hB.out,hO3.out⟩
theorem goOnBy_any {T:TypeId} (hb:Rb w f k z u2 u3 e h tv):
 Calls Tryz.prog 102 #[ptr f,.iface T (ptr b)] w fun x w'=>x=.returned (.tuple #[])∧Rb w' f k z (.func (.method "Ready") #[.iface T (ptr b)] #[]) (wfm 137 (ptr f)) e h (.iface T (ptr b))∧Only (·=f) w w':=by
 have c6:=(rb_cells hb).2.2.2.2.2.2
 have z6:=hb.frozen 6
 have hS:Rb (w.setCell ⟨f,6,none⟩ (.iface T (ptr b))) f k z u2 u3 e h (.iface T (ptr b)):=hb.store 6 _
 have hO:=Lib.hid ((Only.refl (·=f) w).setCell (p:=⟨f,6,none⟩) (.inl rfl) (.iface T (ptr b)))
 have hE:=Lib.hid (goOn_any (F1:=.method "Ready") (F2:=.func 137) (b1:=#[.iface T (ptr b)]) (b2:=#[ptr f]) hS)
 clear hb hS
 go_enter Tryz.func102,Tryz.ntmps102
 go_wp2_with fail
 refine hE.out.mono ?_
 rintro e w' ⟨rfl,hB,hO2⟩
 replace hB:=Lib.hid hB
 have hO3:=Lib.hid (hO.out.trans hO2)
 clear hE hO hO2 c6 z6
 go_wp2_with fail
 go_end0
 exact ⟨rfl,hB.out,hO3.out⟩
set_option maxHeartbeats 1000000 in
theorem choose_any (hM:MemAt w M) (hx:1<M.xs.length) (ga:Gw.Gl) (sa:Sw.Sc) (R:Rz) (hb:Rb w f R.worker R.size u2 u3 R.err 5 tv):
 Calls Tryz.prog 71 #[ptr f,ptr M.m] w fun x w'=>x=.returned (.tuple #[])∧∃ a':Ra,a'.f=f∧RzAt w' a' (look (lm M) R)∧(∀ x,rfoot a' (look (lm M) R) x→x=f∨w.heap.size≤x)∧Only (·=f) w w':=by
 obtain ⟨c0,c1,c2,c3,c4,c5,c6⟩:=rb_cells hb
 have hN:=now_any hM hx
 unfold look
 unfold dv at hN
 have lf:=hb.lt
 have HB:=Lib.hid hb
 replace hN:=Lib.hid hN
 show Calls _ _ _ _ (fun x w'=>x=_∧∃ a':Ra,a'.f=f∧RzAt w' a' (if ((now M.xs M.ds).1:Int)=R.size then {R with nx:=7} else if ((now M.xs M.ds).1:Int)<R.size then {R with nx:=6,inn:=.gro (Gw.newGro R.worker)} else {R with nx:=6,inn:=.shr (Sw.newShr R.worker)})∧(∀ x,rfoot a' (if ((now M.xs M.ds).1:Int)=R.size then {R with nx:=7} else if ((now M.xs M.ds).1:Int)<R.size then {R with nx:=6,inn:=.gro (Gw.newGro R.worker)} else {R with nx:=6,inn:=.shr (Sw.newShr R.worker)}) x→x=f∨w.heap.size≤x)∧Only (·=f) w w')
 obtain ⟨n,hn⟩:∃ n,n=(now M.xs M.ds).1:=⟨_,rfl⟩
 obtain ⟨B,hB⟩:∃ B,B=(now M.xs M.ds).2:=⟨_,rfl⟩
 rw [← hn]
 rw [← hn,← hB] at hN
 have hfd:∀ w,(Instr.field 51 (.agg #[.int .i64 n,.int .i64 B]) 0).run Tryz.prog w=.ok (.int .i64 n) w:=fun w=>rfl
 have hg:=Lib.hid (fun w=>Gw.new_grow R.worker w)
 have hs:=Lib.hid (fun w=>Sw.new_shrink R.worker w)
 have lM:=hM.1.lt
 clear hM hb hn hB c2 c3 c4 c5 c6 hx
 by_cases q1:(n:Int)<R.size
 · rw [if_neg (by omega),if_pos q1]
   clear hs
   go_enter Tryz.func71,Tryz.ntmps71
   go_wp2_with fail
   refine hN.out.mono ?_
   rintro e1 w1 ⟨rfl,hb1⟩
   have hB1:Rb w1 f R.worker R.size u2 u3 R.err 5 tv:=HB.out.only (Only.ofBelow hb1 (fun _=>False)) (by simp)
   have k0:=(rb_cells hB1).1
   have k1:=(rb_cells hB1).2.1
   replace hB1:=Lib.hid hB1
   have hO1:=Lib.hid (Only.ofBelow hb1 (·=f))
   clear hN hb1 c0 c1 HB
   go_wp2_with fail
   refine (hg.out _).mono ?_
   rintro e2 w2 ⟨ga,rfl,hG,hlo,hb2⟩
   have hB2:=Lib.hid (hB1.out.only (Only.ofBelow hb2 (fun _=>False)) (by simp))
   have hO2:=Lib.hid (hO1.out.trans (Only.ofBelow hb2 (·=f)))
   have hlo2:=Lib.hid (fun x hx=>Nat.le_trans hO1.out.size (hlo x hx))
   have hf2:=Lib.hid (fun x hx=>show ¬x=f from fun e=>by have h1:=hlo x hx; have h2:=hB1.out.lt; omega)
   replace hG:=Lib.hid hG
   have hby:=Lib.hid (goOnBy_any (T:=124) (b:=ga.f) hB2.out)
   clear hlo hb2 hg k0 k1 hB1 hO1
   go_wp2_with fail
   refine hby.out.mono ?_
   rintro e3 w3 ⟨rfl,hB3,hO3⟩
   have hR:Hid (RzAt w3 ⟨f,.iface 124 (ptr ga.f),ga,sa⟩ {R with nx:=6,inn:=.gro (Gw.newGro R.worker)}):=Lib.hid ⟨hB3,fun G _ hG'=>⟨rfl,by
    injection hG' with hG'
    rw [← hG']
    exact hG.out.only hO3 hf2.out⟩,fun G _ q=>by simp at q⟩
   have hO4:=Lib.hid (hO2.out.trans hO3)
   clear hby hB3 hO3 hO2
   go_wp2_with fail
   go_end0
   refine ⟨rfl,_,rfl,hR.out,fun x hx=>?_,hO4.out⟩
   rcases hx with q | ⟨G,_,q2,q3⟩ | ⟨G,_,q2,_⟩
   · exact .inl q
   · injection q2 with q2
     subst q2
     exact .inr (hlo2.out x q3)
   · simp at q2
 · by_cases q2:(n:Int) > R.size
   · rw [if_neg (by omega),if_neg q1]
     clear hg
     go_enter Tryz.func71,Tryz.ntmps71
     go_wp2_with fail
     refine hN.out.mono ?_
     rintro e1 w1 ⟨rfl,hb1⟩
     have hB1:Rb w1 f R.worker R.size u2 u3 R.err 5 tv:=HB.out.only (Only.ofBelow hb1 (fun _=>False)) (by simp)
     have k0:=(rb_cells hB1).1
     have k1:=(rb_cells hB1).2.1
     replace hB1:=Lib.hid hB1
     have hO1:=Lib.hid (Only.ofBelow hb1 (·=f))
     clear hN hb1 c0 c1 HB
     go_wp2_with fail
     refine (hs.out _).mono ?_
     rintro e2 w2 ⟨sa,rfl,hG,hlo,hb2⟩
     have hB2:=Lib.hid (hB1.out.only (Only.ofBelow hb2 (fun _=>False)) (by simp))
     have hO2:=Lib.hid (hO1.out.trans (Only.ofBelow hb2 (·=f)))
     have hlo2:=Lib.hid (fun x hx=>Nat.le_trans hO1.out.size (hlo x hx))
     have hf2:=Lib.hid (fun x hx=>show ¬x=f from fun e=>by have h1:=hlo x hx; have h2:=hB1.out.lt; omega)
     replace hG:=Lib.hid hG
     have hby:=Lib.hid (goOnBy_any (T:=126) (b:=sa.f) hB2.out)
     clear hlo hb2 hs k0 k1 hB1 hO1
     go_wp2_with fail
     refine hby.out.mono ?_
     rintro e3 w3 ⟨rfl,hB3,hO3⟩
     have hR:Hid (RzAt w3 ⟨f,.iface 126 (ptr sa.f),ga,sa⟩ {R with nx:=6,inn:=.shr (Sw.newShr R.worker)}):=Lib.hid ⟨hB3,fun G _ q=>by simp at q,fun G _ hG'=>⟨rfl,by
      injection hG' with hG'
      rw [← hG']
      exact hG.out.only hO3 hf2.out⟩⟩
     have hO4:=Lib.hid (hO2.out.trans hO3)
     clear hby hB3 hO3 hO2
     go_wp2_with fail
     go_end0
     refine ⟨rfl,_,rfl,hR.out,fun x hx=>?_,hO4.out⟩
     rcases hx with q | ⟨G,_,q2,_⟩ | ⟨G,_,q2,q3⟩
     · exact .inl q
     · simp at q2
     · injection q2 with q2
       subst q2
       exact .inr (hlo2.out x q3)
   · rw [if_pos (by omega)]
     clear hg hs
     go_enter Tryz.func71,Tryz.ntmps71
     go_wp2_with fail
     refine hN.out.mono ?_
     rintro e1 w1 ⟨rfl,hb1⟩
     have hB1:Rb w1 f R.worker R.size u2 u3 R.err 5 tv:=HB.out.only (Only.ofBelow hb1 (fun _=>False)) (by simp)
     have k1:=(rb_cells hB1).2.1
     replace hB1:=Lib.hid hB1
     have hO1:=Lib.hid (Only.ofBelow hb1 (·=f))
     have hgo:=Lib.hid (goOn_any (F1:=.func 33) (F2:=.func 103) (b1:=#[]) (b2:=#[ptr f]) hB1.out)
     clear hN hb1 c0 c1 HB
     go_wp2_with fail
     refine hgo.out.mono ?_
     rintro e3 w3 ⟨rfl,hB3,hO3⟩
     have hR:Hid (RzAt w3 ⟨f,tv,ga,sa⟩ {R with nx:=7}):=Lib.hid (RzAt.plain hB3 (by simp))
     have hO4:=Lib.hid (hO1.out.trans hO3)
     clear hgo hB3 hO3 hO1 hB1 k1
     go_wp2_with fail
     go_end0
     exact ⟨rfl,_,rfl,hR.out,fun x hx=>.inl (rfoot_plain (by simp) hx),hO4.out⟩
end
end Go.Proofs.YtkogifmjbmnpgaaGreat.Zr
namespace Go.Proofs.YtkogifmjbmnpgaaGreat.Zr
open Go Go.RowKit Hp K Fl Rw Hm Ar Mm Wk Pc Me Mq Pu Pn Gt Qs Zp Mx LawTh Bs
set_option maxRecDepth 100000
section
variable {w w':World} {M:Mo} {a:Ra} {R:Rz} {f h b:Nat} {k z e:Int} {u2 u3 tv:Value}
theorem foot_locks:∀ x,Lo.foot M.lg M.lb x→mfoot M x:=fun _ h=>.inr (.inr (.inl h))
theorem mem_store (hM:MemAt w M) (hb:Rb w f k z u2 u3 e h tv) (hO:Only (·=f) w w'):MemAt w' M:=hM.only hO (fun x hx q=>by subst q; exact rb_far hb hM hx)
set_option maxHeartbeats 2000000 in
theorem take_more (hM:MemAt w M) (hb:Rb w f k z u2 u3 e h tv) (hk:0≤k∧k≤1000) (hh:h<4) (hl:M.hs.length=6) (hf:Lo.hol M.hs (lkB h)<0):
 Calls Tryz.prog 32 #[ptr f,ptr M.m] w fun x w'=>x=.returned (.bool false)∧MemAt w' {M with hs:=M.hs.set (lkB h) k}∧Rb w' f k z u2 u3 e (h+1) tv∧Only (fun x=>mfoot M x∨x=f) w w':=by
 have d1:=hM.hd.2.1
 have c0:=(rb_cells hb).1
 have c5:=(rb_cells hb).2.2.2.2.2.1
 have hLB:=Lib.hid (fun w=>lock_behind h w)
 have hT:=Lib.hid (fun nq=>Lo.try_free (hM.drewN nq).2.2.1 (lkB h) (by rw [hl]; exact lkB_lt (by omega)) k hk.1 (by omega) hf)
 have HM:=Lib.hid hM
 have HB:=Lib.hid hb
 have lM:=hM.1.lt
 have lf:=hb.lt
 have hh5:¬((h:Int)+1=5):=by omega
 clear hM hb hl hf
 generalize lkB h=j at*
 go_enter Tryz.func32,Tryz.ntmps32
 go_wp2_with fail
 go_region_held3 (fun w'=>w'.cell? ⟨M.m,1,none⟩=some (ptr M.lg)∧w'.cell? ⟨f,0,none⟩=some (.int .i64 k)∧w'.cell? ⟨f,5,none⟩=some (.int .i64 h)) (go_keep)
  (first
    | (go_at_call 69
       refine (hLB.out _).mono ?_
       rintro e w3 ⟨rfl,rfl⟩)
    | (go_at_call 70
       refine (hT.out 1).mono ?_
       rintro e w2 ⟨rfl,hL2,hO2⟩
       have hO2':=((Only.refl (Lo.foot M.lg M.lb) w).drewN 1).trans hO2
       have hM2:=HM.out.locks hL2 hO2'
       have hB2:=HB.out.only hO2' (fun hx=>rb_far HB.out HM.out (foot_locks _ hx))
       have s1:=hM2.hd.2.1
       have s2:=(rb_cells hB2).1
       have s3:=(rb_cells hB2).2.2.2.2.2.1
       have z5:=hB2.frozen 5
       simp at s1
       replace hO2':=Lib.hid hO2'
       replace hM2:=Lib.hid hM2
       replace hB2:=Lib.hid hB2
       clear hL2 hO2))
 all_goals
  go_wp2_with fail
  have hS:Rb (w2.setCell ⟨f,5,none⟩ (.int .i64 ((h:Int)+1))) f k z u2 u3 e (h+1) tv:=hB2.out.store 5 _
  have hOS:=(Only.refl (·=f) w2).setCell (p:=⟨f,5,none⟩) (.inl rfl) (.int .i64 ((h:Int)+1))
  have hMS:=mem_store hM2.out hB2.out hOS
  have hOO:=(hO2'.out.mono (fun x _ q=>(.inl (foot_locks _ q):mfoot M x∨x=f))).trans (hOS.mono (fun x _ q=>.inr q))
  go_ret
  exact ⟨rfl,hMS,hS,hOO⟩
set_option maxHeartbeats 2000000 in
theorem take_last (hM:MemAt w M) (ga:Gw.Gl) (sa:Sw.Sc) (R:Rz) (hb:Rb w f R.worker R.size u2 u3 R.err 4 tv) (hk:0≤R.worker∧R.worker≤1000) (hl:M.hs.length=6) (hx:1<M.xs.length) (hf:Lo.hol M.hs 4<0):
 Calls Tryz.prog 32 #[ptr f,ptr M.m] w fun x w'=>x=.returned (.bool false)∧MemAt w' {M with hs:=M.hs.set 4 R.worker}∧Only (fun x=>mfoot M x∨x=f) w w'∧∃ a':Ra,a'.f=f∧RzAt w' a' (look (lm M) R)∧∀ x,rfoot a' (look (lm M) R) x→x=f∨w.heap.size≤x:=by
 have d1:=hM.hd.2.1
 have c0:=(rb_cells hb).1
 have c5:=(rb_cells hb).2.2.2.2.2.1
 have hLB:=Lib.hid (fun w=>lock_behind 4 w)
 have hT:=Lib.hid (fun nq=>Lo.try_free (hM.drewN nq).2.2.1 4 (by rw [hl]; omega) R.worker hk.1 (by omega) hf)
 have hlk:lkB 4=4:=rfl
 rw [hlk] at hLB
 have HM:=Lib.hid hM
 have HB:=Lib.hid hb
 have lM:=hM.1.lt
 have lf:=hb.lt
 clear hM hb hl hf hlk
 go_enter Tryz.func32,Tryz.ntmps32
 go_wp2_with fail
 go_region_held3 (fun w'=>w'.cell? ⟨M.m,1,none⟩=some (ptr M.lg)∧w'.cell? ⟨f,0,none⟩=some (.int .i64 R.worker)∧w'.cell? ⟨f,5,none⟩=some (.int .i64 4)) (go_keep)
  (first
    | (go_at_call 69
       refine (hLB.out _).mono ?_
       rintro e w3 ⟨rfl,rfl⟩)
    | (go_at_call 70
       refine (hT.out 1).mono ?_
       rintro e w2 ⟨rfl,hL2,hO2⟩
       have hO2':=((Only.refl (Lo.foot M.lg M.lb) w).drewN 1).trans hO2
       have hM2:=HM.out.locks hL2 hO2'
       have hB2:=HB.out.only hO2' (fun hx=>rb_far HB.out HM.out (foot_locks _ hx))
       have s1:=hM2.hd.2.1
       have s2:=(rb_cells hB2).1
       have s3:=(rb_cells hB2).2.2.2.2.2.1
       have z5:=hB2.frozen 5
       simp at s1
       replace hO2':=Lib.hid hO2'
       replace hM2:=Lib.hid hM2
       replace hB2:=Lib.hid hB2
       clear hL2 hO2))
 all_goals
  go_wp2_with fail
  have hS:Rb (w2.setCell ⟨f,5,none⟩ (.int .i64 5)) f R.worker R.size u2 u3 R.err 5 tv:=hB2.out.store 5 _
  have hOS:=(Only.refl (·=f) w2).setCell (p:=⟨f,5,none⟩) (.inl rfl) (.int .i64 5)
  have hMS:=mem_store hM2.out hB2.out hOS
  have hOO:=(hO2'.out.mono (fun x _ q=>(.inl (foot_locks _ q):mfoot M x∨x=f))).trans (hOS.mono (fun x _ q=>.inr q))
  have hC:=Lib.hid (choose_any hMS hx ga sa R hS)
  replace hMS:=Lib.hid hMS
  replace hOO:=Lib.hid hOO
  replace hS:=Lib.hid hS
  clear hOS s1 s2 s3 z5
  refine hC.out.mono ?_
  rintro e1 w3 ⟨rfl,a',ha,hR,hfo,hO3⟩
  have hM3:=Lib.hid (mem_store hMS.out hS.out hO3)
  have hO4:=Lib.hid (hOO.out.trans (hO3.mono (fun x _ q=>.inr q)))
  have hfo':=Lib.hid (fun x hx=>(hfo x hx).imp id (fun q=>Nat.le_trans hOO.out.size q))
  replace hR:=Lib.hid hR
  clear hC hO3 hfo hS
  go_wp2_with fail
  go_ret
  exact ⟨rfl,hM3.out,hO4.out,a',ha,hR.out,hfo'.out⟩
set_option maxHeartbeats 2000000 in
theorem free_more (hM:MemAt w M) (hb:Rb w f k z u2 u3 e (h+1) tv) (hk:0≤k) (h1:1≤h) (hh:h≤4) (hl:M.hs.length=6) (hf:Lo.hol M.hs h=k):
 Calls Tryz.prog 103 #[ptr f,ptr M.m] w fun x w'=>x=.returned (.bool false)∧MemAt w' {M with hs:=M.hs.set h (-1)}∧Rb w' f k z u2 u3 e h tv∧Only (fun x=>mfoot M x∨x=f) w w':=by
 have c5:=(rb_cells hb).2.2.2.2.2.1
 have z5:=hb.frozen 5
 have hS:Rb (w.setCell ⟨f,5,none⟩ (.int .i64 h)) f k z u2 u3 e h tv:=hb.store 5 _
 have hOS:=(Only.refl (·=f) w).setCell (p:=⟨f,5,none⟩) (.inl rfl) (.int .i64 h)
 have hMS:=mem_store hM hb hOS
 have hLB:=Lib.hid (fun w=>lock_behind h w)
 have hT:=Lib.hid (fun nq=>Lo.free_own (hMS.drewN nq).2.2.1 h (by rw [hl]; omega) k hk hf)
 have hlk:lkB h=h:=if_neg (by omega)
 rw [hlk] at hLB
 have e5:((h+1:Nat):Int)-1=h:=by omega
 have hne:M.m≠f:=fun e=>rb_far hb hM (.inl e.symm)
 have d1:=hM.hd.2.1
 replace hMS:=Lib.hid hMS
 replace hS:=Lib.hid hS
 replace hOS:=Lib.hid hOS
 clear hM hb hl hf hlk
 go_enter Tryz.func103,Tryz.ntmps103
 go_upto_region 2 with (fail)
 have hpos:(0:Int)<(h:Int):=by omega
 clear c5 z5 hne d1
 generalize w.setCell ⟨f,5,none⟩ (.int .i64 h)=w1 at*
 have c0:=(rb_cells hS.out).1
 have c5:=(rb_cells hS.out).2.2.2.2.2.1
 have d1:=hMS.out.hd.2.1
 have lM:=hMS.out.1.lt
 have lf:=hS.out.lt
 go_wp2_with fail
 go_region_held3 (fun w'=>w'.cell? ⟨M.m,1,none⟩=some (ptr M.lg)∧w'.cell? ⟨f,0,none⟩=some (.int .i64 k)∧w'.cell? ⟨f,5,none⟩=some (.int .i64 h)) (go_keep)
  (first
    | (go_at_call 69
       refine (hLB.out _).mono ?_
       rintro e w3 ⟨rfl,rfl⟩)
    | (go_at_call 138
       refine (hT.out 1).mono ?_
       rintro e w2 ⟨rfl,hL2,hO2⟩
       have hO2':=((Only.refl (Lo.foot M.lg M.lb) w1).drewN 1).trans hO2
       have hM2:=hMS.out.locks hL2 hO2'
       have hB2:=hS.out.only hO2' (fun hx=>rb_far hS.out hMS.out (foot_locks _ hx))
       have s1:=hM2.hd.2.1
       have s2:=(rb_cells hB2).1
       have s3:=(rb_cells hB2).2.2.2.2.2.1
       simp at s1
       have hO4:=Lib.hid ((hOS.out.mono (fun x _ q=>(.inr q:mfoot M x∨x=f))).trans (hO2'.mono (fun x _ q=>.inl (foot_locks _ q))))
       replace hO2':=Lib.hid hO2'
       replace hM2:=Lib.hid hM2
       replace hB2:=Lib.hid hB2
       clear hL2 hO2))
 all_goals
  go_wp2_with fail
  go_ret
  exact ⟨rfl,hM2.out,hB2.out,hO4.out⟩
set_option maxHeartbeats 2000000 in
theorem free_last (hM:MemAt w M) (hb:Rb w f k z u2 u3 e 1 tv) (hk:0≤k) (hl:M.hs.length=6) (hf:Lo.hol M.hs 5=k):
 Calls Tryz.prog 103 #[ptr f,ptr M.m] w fun x w'=>x=.returned (.bool true)∧MemAt w' {M with hs:=M.hs.set 5 (-1)}∧Rb w' f k z (wf0 33) (wf0 104) e 0 tv∧Only (fun x=>mfoot M x∨x=f) w w':=by
 have c5:=(rb_cells hb).2.2.2.2.2.1
 have z5:=hb.frozen 5
 have hS:Rb (w.setCell ⟨f,5,none⟩ (.int .i64 0)) f k z u2 u3 e 0 tv:=hb.store 5 _
 have hOS:=(Only.refl (·=f) w).setCell (p:=⟨f,5,none⟩) (.inl rfl) (.int .i64 0)
 have hMS:=mem_store hM hb hOS
 have hLB:=Lib.hid (fun w=>lock_behind 0 w)
 have hT:=Lib.hid (fun nq=>Lo.free_own (hMS.drewN nq).2.2.1 5 (by rw [hl]; omega) k hk hf)
 have hlk:lkB 0=5:=rfl
 rw [hlk] at hLB
 have hne:M.m≠f:=fun e=>rb_far hb hM (.inl e.symm)
 have d1:=hM.hd.2.1
 replace hMS:=Lib.hid hMS
 replace hS:=Lib.hid hS
 replace hOS:=Lib.hid hOS
 clear hM hb hl hf hlk
 go_enter Tryz.func103,Tryz.ntmps103
 go_upto_region 2 with (fail)
 clear c5 z5 hne d1
 generalize w.setCell ⟨f,5,none⟩ (.int .i64 0)=w1 at*
 have c0:=(rb_cells hS.out).1
 have c5:=(rb_cells hS.out).2.2.2.2.2.1
 have d1:=hMS.out.hd.2.1
 have lM:=hMS.out.1.lt
 have lf:=hS.out.lt
 go_wp2_with fail
 go_region_held3 (fun w'=>w'.cell? ⟨M.m,1,none⟩=some (ptr M.lg)∧w'.cell? ⟨f,0,none⟩=some (.int .i64 k)∧w'.cell? ⟨f,5,none⟩=some (.int .i64 0)) (go_keep)
  (first
    | (go_at_call 69
       refine (hLB.out _).mono ?_
       rintro e w3 ⟨rfl,rfl⟩)
    | (go_at_call 138
       refine (hT.out 1).mono ?_
       rintro e w2 ⟨rfl,hL2,hO2⟩
       have hO2':=((Only.refl (Lo.foot M.lg M.lb) w1).drewN 1).trans hO2
       have hM2:=hMS.out.locks hL2 hO2'
       have hB2:=hS.out.only hO2' (fun hx=>rb_far hS.out hMS.out (foot_locks _ hx))
       have s1:=hM2.hd.2.1
       have s2:=(rb_cells hB2).1
       have s3:=(rb_cells hB2).2.2.2.2.2.1
       simp at s1
       have hO4:=Lib.hid ((hOS.out.mono (fun x _ q=>(.inr q:mfoot M x∨x=f))).trans (hO2'.mono (fun x _ q=>.inl (foot_locks _ q))))
       replace hO2':=Lib.hid hO2'
       replace hM2:=Lib.hid hM2
       replace hB2:=Lib.hid hB2
       clear hL2 hO2))
 all_goals
  have hE:=Lib.hid (end_any hB2.out)
  go_wp2_with fail
  refine hE.out.mono ?_
  rintro e1 w3 ⟨rfl,hB3,hO3⟩
  have hM3:=Lib.hid (mem_store hM2.out hB2.out hO3)
  have hO5:=Lib.hid (hO4.out.trans (hO3.mono (fun x _ q=>.inr q)))
  replace hB3:=Lib.hid hB3
  clear hE hO3 hB2
  go_wp2_with fail
  go_ret
  exact ⟨rfl,hM3.out,hB3.out,hO5.out⟩
end
end Go.Proofs.YtkogifmjbmnpgaaGreat.Zr
namespace Go.Proofs.YtkogifmjbmnpgaaGreat.Zr
open Go Go.RowKit Hp K Fl Rw Hm Ar Mm Wk Pc Me Mq Pu Pn Gt Qs Zp Mx LawTh Bs
set_option maxRecDepth 100000
section
variable {w w':World} {M:Mo} {a:Ra} {R:Rz} {f h b:Nat} {k z e:Int} {u2 u3 tv:Value}
theorem turn_go {T:TypeId} {fs:Nat} {m:Value} {P:World→Prop} (hb:Rb w f k z u2 u3 e h (.iface T (ptr b))) (ms:∀ (w:World) (f:Nat),(method (f+1) T (.pointer (some ⟨b,0,none⟩)) "Step").run Tryz.prog w=.ok (fs,.pointer (some ⟨b,0,none⟩)) w)
 (es:∀ args w,(callFunc fs args).run Tryz.prog w=.ok (.enter fs args) w) (hF:Calls Tryz.prog fs #[ptr b,m] w fun e w'=>e=.returned (.bool false)∧P w'):Calls Tryz.prog 137 #[ptr f,m] w fun e w'=>e=.returned (.bool false)∧P w':=by
 have c6:=(rb_cells hb).2.2.2.2.2.2
 replace hF:=Lib.hid hF
 clear hb
 go_enter Tryz.func137,Tryz.ntmps137
 go_wp2_with fail
 refine hF.out.mono ?_
 rintro e w' ⟨rfl,hP⟩
 replace hP:=Lib.hid hP
 clear c6
 go_wp2_with fail
 go_ret
 exact ⟨rfl,hP.out⟩
def Tn (w:World) (M:Mo) (f b:Nat) (k z e:Int) (u2 u3 tv:Value) (fe:Nat) (er:Int) (L':Lm) (S:Nat→Prop) (w':World):Prop:=
 ∃ M',MemAt w' M'∧M'.m=M.m∧lm M'=L'∧Kin w M M'∧Rb w' f k z u2 u3 e 5 tv∧Calls Tryz.prog fe #[ptr b] w' (fun x w''=>x=.returned (.int .i64 er)∧w''=w')∧Only S w w'
set_option maxHeartbeats 1000000 in
theorem turn_over {T:TypeId} {fs fe:Nat} {er:Int} {L':Lm} {S:Nat→Prop} (ga:Gw.Gl) (sa:Sw.Sc) (R:Rz) (hb:Rb w f R.worker R.size u2 u3 R.err 5 (.iface T (ptr b))) (ms:∀ (w:World) (f:Nat),(method (f+1) T (.pointer (some ⟨b,0,none⟩)) "Step").run Tryz.prog w=.ok (fs,.pointer (some ⟨b,0,none⟩)) w)
 (es:∀ args w,(callFunc fs args).run Tryz.prog w=.ok (.enter fs args) w) (me:∀ (w:World) (f:Nat),(method (f+1) T (.pointer (some ⟨b,0,none⟩)) "Err").run Tryz.prog w=.ok (fe,.pointer (some ⟨b,0,none⟩)) w) (ee:∀ args w,(callFunc fe args).run Tryz.prog w=.ok (.enter fe args) w)
 (hx:1<L'.xs.length) (hF:Calls Tryz.prog fs #[ptr b,ptr M.m] w fun e w'=>e=.returned (.bool true)∧Tn w M f b R.worker R.size R.err u2 u3 (.iface T (ptr b)) fe er L' S w'):
 Calls Tryz.prog 137 #[ptr f,ptr M.m] w fun e w'=>e=.returned (.bool false)∧∃ M',MemAt w' M'∧lm M'=L'∧Kin w M M'∧Only (fun x=>S x∨x=f) w w'∧∃ a':Ra,a'.f=f∧RzAt w' a' (after L' R er)∧∀ x,rfoot a' (after L' R er) x→x=f∨w.heap.size≤x:=by
 have c6:=(rb_cells hb).2.2.2.2.2.2
 replace hF:=Lib.hid hF
 clear hb
 unfold after
 by_cases h0:er=0
 · rw [if_pos h0]
   subst h0
   go_enter Tryz.func137,Tryz.ntmps137
   go_wp2_with fail
   refine hF.out.mono ?_
   rintro e w1 ⟨rfl,M',hM,hm,hL,hK,hb,hE,hO⟩
   have c6:=(rb_cells hb).2.2.2.2.2.2
   have c4:=(rb_cells hb).2.2.2.2.1
   have z4:=hb.frozen 4
   replace hE:=Lib.hid hE
   clear hF
   go_wp2_with fail
   refine hE.out.mono ?_
   rintro e w2 ⟨rfl,hw2⟩
   obtain rfl:w1=w2:=hw2.symm
   have hS:Rb (w1.setCell ⟨f,4,none⟩ (.int .i64 0)) f R.worker R.size u2 u3 0 5 (.iface T (ptr b)):=hb.store 4 _
   have hOS:=(Only.refl (·=f) w1).setCell (p:=⟨f,4,none⟩) (.inl rfl) (.int .i64 0)
   have hMS:=mem_store hM hb hOS
   have hC:=Lib.hid (choose_any hMS (by have:(lm M').xs=L'.xs:=by rw [hL]
                                        have e:M'.xs=L'.xs:=this
                                        rw [e]; exact hx) ga sa {R with err:=0} hS)
   rw [hm,hL] at hC
   have hO2:=Lib.hid ((hO.mono (fun x _ q=>(.inl q:S x∨x=f))).trans (hOS.mono (fun x _ q=>.inr q)))
   replace hMS:=Lib.hid hMS
   replace hS:=Lib.hid hS
   replace hK:=Lib.hid hK
   replace hL:=Lib.hid hL
   clear hE hM hm hb hO hOS
   go_wp2_with fail
   refine hC.out.mono ?_
   rintro e1 w3 ⟨rfl,a',ha,hR,hfo,hO3⟩
   have hM3:=Lib.hid (mem_store hMS.out hS.out hO3)
   have hO4:=Lib.hid (hO2.out.trans (hO3.mono (fun x _ q=>.inr q)))
   have hfo':=Lib.hid (fun x hx=>(hfo x hx).imp id (fun q=>Nat.le_trans hO2.out.size q))
   replace hR:=Lib.hid hR
   clear hC hO3 hfo hS hMS hO2 c4 c6 z4
   go_wp2_with fail
   go_ret
   exact ⟨rfl,M',hM3.out,hL.out,hK.out,hO4.out,a',ha,hR.out,hfo'.out⟩
 · rw [if_neg h0]
   go_enter Tryz.func137,Tryz.ntmps137
   go_wp2_with fail
   refine hF.out.mono ?_
   rintro e w1 ⟨rfl,M',hM,hm,hL,hK,hb,hE,hO⟩
   have c6:=(rb_cells hb).2.2.2.2.2.2
   have c4:=(rb_cells hb).2.2.2.2.1
   have z4:=hb.frozen 4
   replace hE:=Lib.hid hE
   clear hF
   go_wp2_with fail
   refine hE.out.mono ?_
   rintro e w2 ⟨rfl,hw2⟩
   obtain rfl:w1=w2:=hw2.symm
   have hS:Rb (w1.setCell ⟨f,4,none⟩ (.int .i64 er)) f R.worker R.size u2 u3 er 5 (.iface T (ptr b)):=hb.store 4 _
   have hOS:=(Only.refl (·=f) w1).setCell (p:=⟨f,4,none⟩) (.inl rfl) (.int .i64 er)
   have hMS:=mem_store hM hb hOS
   have hC:=Lib.hid (goOn_any (F1:=.func 33) (F2:=.func 103) (b1:=#[]) (b2:=#[ptr f]) hS)
   have hO2:=Lib.hid ((hO.mono (fun x _ q=>(.inl q:S x∨x=f))).trans (hOS.mono (fun x _ q=>.inr q)))
   replace hMS:=Lib.hid hMS
   replace hS:=Lib.hid hS
   replace hK:=Lib.hid hK
   replace hL:=Lib.hid hL
   clear hE hM hm hb hO hOS
   go_wp2_with fail
   refine hC.out.mono ?_
   rintro e1 w3 ⟨rfl,hB3,hO3⟩
   have hR:Hid (RzAt w3 ⟨f,.iface T (ptr b),ga,sa⟩ {R with err:=er,nx:=7}):=Lib.hid (RzAt.plain hB3 (by simp))
   have hM3:=Lib.hid (mem_store hMS.out hS.out hO3)
   have hO4:=Lib.hid (hO2.out.trans (hO3.mono (fun x _ q=>.inr q)))
   clear hC hO3 hS hMS hO2 c4 c6 z4 hB3
   go_wp2_with fail
   go_ret
   exact ⟨rfl,M',hM3.out,hL.out,hK.out,hO4.out,_,rfl,hR.out,fun x hx=>.inl (rfoot_plain (by simp) hx)⟩
end
end Go.Proofs.YtkogifmjbmnpgaaGreat.Zr
namespace Go.Proofs.YtkogifmjbmnpgaaGreat.Zr
open Go Go.RowKit Hp K Fl Rw Hm Ar Mm Wk Pc Me Mq Pu Pn Gt Qs Zp Mx LawTh Bs
set_option maxRecDepth 100000
theorem wstep_xl (n:Nat) (xs hs:List Int) (W:Wt):xs.length≤(wstep n xs hs W).1.length:=by
 unfold wstep
 split
 · exact Nat.le_refl _
 split
 · simp
 split
 · exact Nat.le_refl _
 · exact Nat.le_refl _
theorem gstep_xl (L:Lm) (G:Gw.Gr):L.xs.length≤(Gw.gstep L G).1.xs.length:=by
 unfold Gw.gstep
 split
 · exact Nat.le_refl _
 split
 · split
   · simp
   · exact Nat.le_refl _
 split
 · exact Nat.le_refl _
 split
 · exact Nat.le_refl _
 split
 · simp
 split
 · simp
 split
 · exact wstep_xl _ _ _ _
 · split
   · exact Nat.le_refl _
   · exact Nat.le_refl _
theorem sstep_xl (L:Lm) (G:Sw.Sh):L.xs.length≤(Sw.sstep L G).1.xs.length:=by
 unfold Sw.sstep
 split
 · exact Nat.le_refl _
 split
 · split
   · simp
   · exact Nat.le_refl _
 split
 · exact Nat.le_refl _
 split
 · exact Nat.le_refl _
 split
 · exact Nat.le_refl _
 split
 · exact Nat.le_refl _
 split
 · simp
 split
 · simp
 · exact wstep_xl _ _ _ _
theorem gro_err {w:World} {a:Gw.Gl} {G:Gw.Gr} (h:Gw.GrAt w a G):Calls Tryz.prog 61 #[ptr a.f] w fun e w'=>e=.returned (.int .i64 G.err)∧w'=w:=by
 have c3:=(Gw.own_hd h.blk).2.2.2.1
 clear h
 go_enter Tryz.func61,Tryz.ntmps61
 go_wp2_with fail
 go_ret
 exact ⟨rfl,rfl⟩
theorem me_gro (b:Nat) (w:World) (f:Nat):(method (f+1) 124 (.pointer (some ⟨b,0,none⟩)) "Err").run Tryz.prog w=.ok (61,.pointer (some ⟨b,0,none⟩)) w:=by kernel_rfl
theorem me_shr (b:Nat) (w:World) (f:Nat):(method (f+1) 126 (.pointer (some ⟨b,0,none⟩)) "Err").run Tryz.prog w=.ok (63,.pointer (some ⟨b,0,none⟩)) w:=by kernel_rfl
theorem ee_gro (args:Array Value) (w:World):(callFunc 61 args).run Tryz.prog w=.ok (.enter 61 args) w:=by kernel_rfl
theorem ee_shr (args:Array Value) (w:World):(callFunc 63 args).run Tryz.prog w=.ok (.enter 63 args) w:=by kernel_rfl
theorem er_mt (args:Array Value) (w:World):(callFunc 31 args).run Tryz.prog w=.ok (.enter 31 args) w:=by kernel_rfl
theorem es_rf (args:Array Value) (w:World):(callFunc 34 args).run Tryz.prog w=.ok (.enter 34 args) w:=by kernel_rfl
theorem es_tk (args:Array Value) (w:World):(callFunc 32 args).run Tryz.prog w=.ok (.enter 32 args) w:=by kernel_rfl
theorem es_tn (args:Array Value) (w:World):(callFunc 137 args).run Tryz.prog w=.ok (.enter 137 args) w:=by kernel_rfl
theorem es_fr (args:Array Value) (w:World):(callFunc 103 args).run Tryz.prog w=.ok (.enter 103 args) w:=by kernel_rfl
section
variable {w w':World} {M:Mo} {a:Ra} {R:Rz}
theorem lkB_of {nx:Nat} (h:1≤nx∧nx≤5):lkB (hld nx)=lockOf nx:=by
 have e:hld nx=nx-1:=by unfold hld; rw [if_neg (by omega),if_pos h.2]
 rw [e]
 unfold lkB lockOf
 by_cases q:nx=1
 · rw [if_pos q,if_pos (by omega)]
 · rw [if_neg q,if_neg (by omega)]
theorem rz_ready (hM:MemAt w M) (h:RzAt w a R) (ok:Okrz (lm M) R):Calls Tryz.prog 234 #[ptr a.f,ptr M.m] w fun e w'=>e=.returned (.bool (rready (lm M) R))∧Below w.heap.size w w':=by
 have c2:=(rb_cells h.blk).2.2.1
 unfold rrv at c2
 unfold rready
 by_cases q1:1≤R.nx∧R.nx≤5
 · rw [if_pos q1] at c2 ⊢
   have hwk:=ok.wk (by omega)
   have h4:hld R.nx≤4:=by unfold hld; rw [if_neg (by omega),if_pos q1.2]; omega
   have hm:=mayTake_any hM h.blk hwk.1 h4 ok.hl
   rw [lkB_of q1] at hm
   rw [show decide (0≤R.worker∧Lo.hol (lm M).hs (lockOf R.nx)= -1)=decide (Lo.hol M.hs (lockOf R.nx)= -1) by
    by_cases e:Lo.hol M.hs (lockOf R.nx)= -1
    · rw [decide_eq_true e,decide_eq_true ⟨hwk.1,e⟩]
    · rw [decide_eq_false e,decide_eq_false (fun q=>e q.2)]]
   exact ready_fm c2 er_mt hm
 rw [if_neg q1] at c2 ⊢
 by_cases q6:R.nx=6
 · rw [if_pos q6] at c2 ⊢
   rcases ok.inn q6 with ⟨G,e,hG⟩ | ⟨G,e,hG⟩
   · obtain ⟨t1,t2⟩:=h.gro G q6 e
     rw [t1] at c2
     rw [e]
     exact ready_by c2 (Gw.gro_frm.mr _) Gw.gro_frm.er (Gw.gro_frm.ready hM t2 hG)
   · obtain ⟨t1,t2⟩:=h.shr G q6 e
     rw [t1] at c2
     rw [e]
     exact ready_by c2 (Sw.shr_frm.mr _) Sw.shr_frm.er (Sw.shr_frm.ready hM t2 hG)
 · rw [if_neg q6] at c2 ⊢
   exact ready_f0 c2
theorem stp_lock {i:Nat} {v:Int} {R':Rz} (hn:R'.nx≠6) (hw:R'.worker=R.worker∧R'.size=R.size∧R'.err=R.err) (hM':MemAt w' {M with hs:=M.hs.set i v}) (hB:Rb w' a.f R.worker R.size (rrv a.f R'.nx a.tv) (rnv a.f R'.nx) R.err (hld R'.nx) a.tv) (hO:Only (fun x=>mfoot M x∨x=a.f) w w'):
 rzL.Stp w M a R {lm M with hs:=M.hs.set i v} R' w':=by
 have hB':RzAt w' a R':=RzAt.plain (by unfold rzc; rw [hw.1,hw.2.1,hw.2.2]; exact hB) hn
 exact ⟨_,a,hM',rfl,⟨rfl,rfl,rfl,rfl,fun x q=>.inl q⟩,hB',rfl,fun x hx=>.inl (.inl (rfoot_plain hn hx)),hO.mono (fun x _ q=>q.imp id .inl)⟩
theorem own_gro (h:RzAt w a R) {G:Gw.Gr} (hG:Gw.GrAt w a.ga G):¬Gw.gfoot a.ga G a.f:=fun hx=>by
 rcases hG.ty hx with q | ⟨ms,q⟩
 · exact q.apart (blk_ty h.blk) (by decide)
 · exact q.no (blk_ty h.blk)
theorem own_shr (h:RzAt w a R) {G:Sw.Sh} (hG:Sw.ShAt w a.sa G):¬Sw.sfoot a.sa G a.f:=fun hx=>by
 rcases hG.ty hx with q | ⟨ms,q⟩
 · exact q.apart (blk_ty h.blk) (by decide)
 · exact q.no (blk_ty h.blk)
theorem turn_gro (hM:MemAt w M) (h:RzAt w a R) (h6:R.nx=6) {G:Gw.Gr} (e:R.inn=.gro G) (ok:Gw.Okgr (lm M) G) (hx:1<M.xs.length) (hr:Gw.gready (lm M) G=true):
 Calls Tryz.prog 137 #[ptr a.f,ptr M.m] w fun x w'=>x=.returned (.bool false)∧rzL.Stp w M a R (Gw.gstep (lm M) G).1 (if Gw.gdone (lm M) G=true then after (Gw.gstep (lm M) G).1 {R with inn:=.gro (Gw.gstep (lm M) G).2} (Gw.gstep (lm M) G).2.err else {R with inn:=.gro (Gw.gstep (lm M) G).2}) w':=by
 obtain ⟨t1,t2⟩:=h.gro G h6 e
 have hst:=Gw.gro_frm.step hM t2 ok hr
 have hself:=own_gro h t2
 have hfar:¬mfoot M a.f:=rb_far h.blk hM
 have hblk:Rb w a.f R.worker R.size (rrv a.f R.nx a.tv) (rnv a.f R.nx) R.err (hld R.nx) a.tv:=h.blk
 have hh:hld R.nx=5:=by rw [h6]; rfl
 cases hd:Gw.gdone (lm M) G with
 | false=>
   rw [if_neg (by simp)]
   rw [t1] at hblk
   rw [hd] at hst
   refine (turn_go hblk (Gw.gro_frm.ms _) Gw.gro_frm.es hst).mono ?_
   rintro x w' ⟨rfl,M',ga',r1,r2,r3,r4,r5,r6,r7⟩
   refine ⟨rfl,M',{a with ga:=ga'},r1,r2,r3,⟨?_,fun G' _ q=>?_,fun G' _ q=>by simp at q⟩,rfl,fun x hx=>?_,r7.mono (fun x _ q=>q.imp id (fun q=>.inr (.inl ⟨G,h6,e,q⟩)))⟩
   · exact h.blk.only r7 (fun q=>q.elim hfar hself)
   · injection q with q
     subst q
     exact ⟨by rw [show ga'.f=a.ga.f from r5]; exact t1,r4⟩
   · rcases hx with q | ⟨G',_,q2,q3⟩ | ⟨G',_,q2,_⟩
     · exact .inl (.inl q)
     · injection q2 with q2
       subst q2
       exact (r6 x q3).imp (fun q=>.inr (.inl ⟨G,h6,e,q⟩)) id
     · simp at q2
 | true=>
   rw [if_pos rfl]
   rw [hh,t1] at hblk
   rw [hd] at hst
   have hxl:1<(Gw.gstep (lm M) G).1.xs.length:=by
    have:=gstep_xl (lm M) G
    have e:1<(lm M).xs.length:=hx
    omega
   refine (turn_over (fe:=61) (er:=(Gw.gstep (lm M) G).2.err) (L':=(Gw.gstep (lm M) G).1) (S:=fun x=>mfoot M x∨Gw.gfoot a.ga G x) a.ga a.sa {R with inn:=.gro (Gw.gstep (lm M) G).2} hblk (Gw.gro_frm.ms _) Gw.gro_frm.es (me_gro _) ee_gro hxl (hst.mono ?_)).mono ?_
   · rintro x w' ⟨rfl,M',ga',r1,r2,r3,r4,r5,r6,r7⟩
     have hE:=gro_err r4
     rw [show ga'.f=a.ga.f from r5] at hE
     exact ⟨rfl,M',r1,r3.m,r2,r3,hblk.only r7 (fun q=>q.elim hfar hself),hE,r7⟩
   · rintro x w' ⟨rfl,M',r1,r2,r3,r4,a',r5,r6,r7⟩
     refine ⟨rfl,M',a',r1,r2,r3,r6,r5,fun x hx=>(r7 x hx).imp .inl id,r4.mono (fun x _ q=>?_)⟩
     rcases q with (q | q) | q
     · exact .inl q
     · exact .inr (.inr (.inl ⟨G,h6,e,q⟩))
     · exact .inr (.inl q)
theorem turn_shr (hM:MemAt w M) (h:RzAt w a R) (h6:R.nx=6) {G:Sw.Sh} (e:R.inn=.shr G) (ok:Sw.Oksh (lm M) G) (hx:1<M.xs.length) (hr:Sw.sready (lm M) G=true):
 Calls Tryz.prog 137 #[ptr a.f,ptr M.m] w fun x w'=>x=.returned (.bool false)∧rzL.Stp w M a R (Sw.sstep (lm M) G).1 (if Sw.sdone (lm M) G=true then after (Sw.sstep (lm M) G).1 {R with inn:=.shr (Sw.sstep (lm M) G).2} (Sw.sstep (lm M) G).2.err else {R with inn:=.shr (Sw.sstep (lm M) G).2}) w':=by
 obtain ⟨t1,t2⟩:=h.shr G h6 e
 have hst:=Sw.shr_frm.step hM t2 ok hr
 have hself:=own_shr h t2
 have hfar:¬mfoot M a.f:=rb_far h.blk hM
 have hblk:Rb w a.f R.worker R.size (rrv a.f R.nx a.tv) (rnv a.f R.nx) R.err (hld R.nx) a.tv:=h.blk
 have hh:hld R.nx=5:=by rw [h6]; rfl
 cases hd:Sw.sdone (lm M) G with
 | false=>
   rw [if_neg (by simp)]
   rw [t1] at hblk
   rw [hd] at hst
   refine (turn_go hblk (Sw.shr_frm.ms _) Sw.shr_frm.es hst).mono ?_
   rintro x w' ⟨rfl,M',sa',r1,r2,r3,r4,r5,r6,r7⟩
   refine ⟨rfl,M',{a with sa:=sa'},r1,r2,r3,⟨?_,fun G' _ q=>by simp at q,fun G' _ q=>?_⟩,rfl,fun x hx=>?_,r7.mono (fun x _ q=>q.imp id (fun q=>.inr (.inr ⟨G,h6,e,q⟩)))⟩
   · exact h.blk.only r7 (fun q=>q.elim hfar hself)
   · injection q with q
     subst q
     exact ⟨by rw [show sa'.f=a.sa.f from r5]; exact t1,r4⟩
   · rcases hx with q | ⟨G',_,q2,_⟩ | ⟨G',_,q2,q3⟩
     · exact .inl (.inl q)
     · simp at q2
     · injection q2 with q2
       subst q2
       exact (r6 x q3).imp (fun q=>.inr (.inr ⟨G,h6,e,q⟩)) id
 | true=>
   rw [if_pos rfl]
   rw [hh,t1] at hblk
   rw [hd] at hst
   have hxl:1<(Sw.sstep (lm M) G).1.xs.length:=by
    have:=sstep_xl (lm M) G
    have e:1<(lm M).xs.length:=hx
    omega
   refine (turn_over (fe:=63) (er:=(Sw.sstep (lm M) G).2.err) (L':=(Sw.sstep (lm M) G).1) (S:=fun x=>mfoot M x∨Sw.sfoot a.sa G x) a.ga a.sa {R with inn:=.shr (Sw.sstep (lm M) G).2} hblk (Sw.shr_frm.ms _) Sw.shr_frm.es (me_shr _) ee_shr hxl (hst.mono ?_)).mono ?_
   · rintro x w' ⟨rfl,M',sa',r1,r2,r3,r4,r5,r6,r7⟩
     have hE:=Sw.err_any r4
     rw [show sa'.f=a.sa.f from r5] at hE
     exact ⟨rfl,M',r1,r3.m,r2,r3,hblk.only r7 (fun q=>q.elim hfar hself),hE,r7⟩
   · rintro x w' ⟨rfl,M',r1,r2,r3,r4,a',r5,r6,r7⟩
     refine ⟨rfl,M',a',r1,r2,r3,r6,r5,fun x hx=>(r7 x hx).imp .inl id,r4.mono (fun x _ q=>?_)⟩
     rcases q with (q | q) | q
     · exact .inl q
     · exact .inr (.inr (.inr ⟨G,h6,e,q⟩))
     · exact .inr (.inl q)
theorem rz_step (hM:MemAt w M) (h:RzAt w a R) (ok:Okrz (lm M) R) (hr:rready (lm M) R=true):
 Calls Tryz.prog 235 #[ptr a.f,ptr M.m] w fun e w'=>e=.returned (.bool (rdone (lm M) R))∧rzL.Stp w M a R (rstep (lm M) R).1 (rstep (lm M) R).2 w':=by
 have c3:=(rb_cells h.blk).2.2.2.1
 unfold rnv at c3
 have hnx:=ok.nx
 have hB:Rb w a.f R.worker R.size (rrv a.f R.nx a.tv) (rnv a.f R.nx) R.err (hld R.nx) a.tv:=h.blk
 by_cases e0:R.nx=0
 · rw [if_pos e0] at c3
   rw [show rdone (lm M) R=true from decide_eq_true (.inl e0)]
   have es:rstep (lm M) R=(lm M,{R with err:=5,nx:=12}):=by unfold rstep; rw [if_pos e0]
   rw [es]
   refine step_fm c3 es_rf ((refuse_step hB (ptr M.m)).mono ?_)
   rintro x w' ⟨rfl,hB',hO⟩
   have hR:RzAt w' a {R with err:=5,nx:=12}:=RzAt.plain (by rw [e0] at hB'; exact hB') (by simp)
   exact ⟨rfl,M,a,mem_store hM hB hO,rfl,Kin.refl _ _,hR,rfl,fun x hx=>.inl (.inl (rfoot_plain (by simp) hx)),hO.mono (fun x _ q=>.inr (.inl q))⟩
 rw [if_neg e0] at c3
 have hwk:=ok.wk e0
 by_cases e5:R.nx≤5
 · rw [if_pos e5] at c3
   have hh:hld R.nx=R.nx-1:=by unfold hld; rw [if_neg e0,if_pos e5]
   have hq:1≤R.nx∧R.nx≤5:=⟨by omega,e5⟩
   rw [show rdone (lm M) R=false from decide_eq_false (by omega)]
   unfold rready at hr
   rw [if_pos hq] at hr
   have hfree:=(of_decide_eq_true hr).2
   rw [← lkB_of hq,hh] at hfree
   have hfree:Lo.hol M.hs (lkB (R.nx-1))<0:=by
    have:Lo.hol M.hs (lkB (R.nx-1))= -1:=hfree
    omega
   by_cases e4:R.nx=5
   · have es:rstep (lm M) R=({lm M with hs:=M.hs.set 4 R.worker},look (lm M) R):=by
      unfold rstep; rw [if_neg e0,if_neg (by omega),if_neg (by omega),if_pos e4]
     rw [es]
     rw [hh,e4] at hB
     rw [e4] at hfree
     refine step_fm c3 es_tk ((take_last hM a.ga a.sa R hB hwk ok.hl ok.x1 hfree).mono ?_)
     rintro x w' ⟨rfl,hM',hO,a',ha,hR,hfo⟩
     exact ⟨rfl,_,a',hM',rfl,⟨rfl,rfl,rfl,rfl,fun x q=>.inl q⟩,hR,ha,fun x hx=>(hfo x hx).imp .inl id,hO.mono (fun x _ q=>q.imp id .inl)⟩
   · have hl4:R.nx-1<4:=by omega
     have es:rstep (lm M) R=({lm M with hs:=M.hs.set (lkB (R.nx-1)) R.worker},{R with nx:=R.nx+1}):=by
      unfold rstep lkB
      rw [if_neg e0]
      by_cases e1:R.nx=1
      · rw [if_pos e1,if_pos (by omega),e1]
      · rw [if_neg e1,if_pos (by omega),if_neg (by omega)]
     rw [es]
     rw [hh] at hB
     refine step_fm c3 es_tk ((take_more hM hB hwk hl4 ok.hl hfree).mono ?_)
     rintro x w' ⟨rfl,hM',hB',hO⟩
     refine ⟨rfl,stp_lock (by show R.nx+1≠6; omega) ⟨rfl,rfl,rfl⟩ hM' ?_ hO⟩
     have h1:rrv a.f (R.nx+1) a.tv=rrv a.f R.nx a.tv:=by unfold rrv; rw [if_pos (by omega),if_pos hq]
     have h2:rnv a.f (R.nx+1)=rnv a.f R.nx:=by unfold rnv; rw [if_neg (by omega),if_pos (by omega),if_neg e0,if_pos e5]
     have h3:hld (R.nx+1)=R.nx-1+1:=by unfold hld; rw [if_neg (by omega),if_pos (by omega)]; omega
     show Rb w' a.f R.worker R.size (rrv a.f (R.nx+1) a.tv) (rnv a.f (R.nx+1)) R.err (hld (R.nx+1)) a.tv
     rw [h1,h2,h3]
     exact hB'
 rw [if_neg e5] at c3
 by_cases e6:R.nx=6
 · rw [if_pos e6] at c3
   rw [show rdone (lm M) R=false from decide_eq_false (by omega)]
   unfold rready at hr
   rw [if_neg (by omega),if_pos e6] at hr
   rcases ok.inn e6 with ⟨G,e,hG⟩ | ⟨G,e,hG⟩
   · rw [e] at hr
     have es:rstep (lm M) R=((Gw.gstep (lm M) G).1,if Gw.gdone (lm M) G=true then after (Gw.gstep (lm M) G).1 {R with inn:=.gro (Gw.gstep (lm M) G).2} (Gw.gstep (lm M) G).2.err else {R with inn:=.gro (Gw.gstep (lm M) G).2}):=by
      unfold rstep; rw [if_neg e0,if_neg (by omega),if_neg (by omega),if_neg (by omega),if_pos e6,e]
     rw [es]
     exact step_fm c3 es_tn (turn_gro hM h e6 e hG ok.x1 hr)
   · rw [e] at hr
     have es:rstep (lm M) R=((Sw.sstep (lm M) G).1,if Sw.sdone (lm M) G=true then after (Sw.sstep (lm M) G).1 {R with inn:=.shr (Sw.sstep (lm M) G).2} (Sw.sstep (lm M) G).2.err else {R with inn:=.shr (Sw.sstep (lm M) G).2}):=by
      unfold rstep; rw [if_neg e0,if_neg (by omega),if_neg (by omega),if_neg (by omega),if_pos e6,e]
     rw [es]
     exact step_fm c3 es_tn (turn_shr hM h e6 e hG ok.x1 hr)
 rw [if_neg e6,if_pos hnx] at c3
 have hh:hld R.nx=12-R.nx:=by unfold hld; rw [if_neg e0,if_neg e5,if_neg e6]
 have hrv:rrv a.f R.nx a.tv=wf0 33:=by unfold rrv; rw [if_neg (by omega),if_neg e6]
 have hnv:rnv a.f R.nx=wfm 103 (ptr a.f):=by unfold rnv; rw [if_neg e0,if_neg e5,if_neg e6,if_pos hnx]
 by_cases e10:R.nx≤10
 · rw [show rdone (lm M) R=false from decide_eq_false (by omega)]
   have es:rstep (lm M) R=({lm M with hs:=M.hs.set (11-R.nx) (-1)},{R with nx:=R.nx+1}):=by
    unfold rstep; rw [if_neg e0,if_neg (by omega),if_neg (by omega),if_neg (by omega),if_neg e6,if_pos e10]
   rw [es]
   have hld':=ok.held (by omega) e10
   rw [hh,show 12-R.nx=11-R.nx+1 by omega] at hB
   refine step_fm c3 es_fr ((free_more hM hB hwk.1 (by omega) (by omega) ok.hl hld').mono ?_)
   rintro x w' ⟨rfl,hM',hB',hO⟩
   refine ⟨rfl,stp_lock (by show R.nx+1≠6; omega) ⟨rfl,rfl,rfl⟩ hM' ?_ hO⟩
   have h1:rrv a.f (R.nx+1) a.tv=rrv a.f R.nx a.tv:=by rw [hrv]; unfold rrv; rw [if_neg (by omega),if_neg (by omega)]
   have h2:rnv a.f (R.nx+1)=rnv a.f R.nx:=by rw [hnv]; unfold rnv; rw [if_neg (by omega),if_neg (by omega),if_neg (by omega),if_pos (by omega)]
   have h3:hld (R.nx+1)=11-R.nx:=by unfold hld; rw [if_neg (by omega),if_neg (by omega),if_neg (by omega)]; omega
   show Rb w' a.f R.worker R.size (rrv a.f (R.nx+1) a.tv) (rnv a.f (R.nx+1)) R.err (hld (R.nx+1)) a.tv
   rw [h1,h2,h3]
   exact hB'
 · have e11:R.nx=11:=by omega
   rw [show rdone (lm M) R=true from decide_eq_true (.inr (by omega))]
   have es:rstep (lm M) R=({lm M with hs:=M.hs.set 5 (-1)},{R with nx:=12}):=by
    unfold rstep; rw [if_neg e0,if_neg (by omega),if_neg (by omega),if_neg (by omega),if_neg e6,if_neg e10]
   rw [es]
   rw [hh,e11] at hB
   refine step_fm c3 es_fr ((free_last hM hB hwk.1 ok.hl (ok.last e11)).mono ?_)
   rintro x w' ⟨rfl,hM',hB',hO⟩
   exact ⟨rfl,stp_lock (by show 12≠6; omega) ⟨rfl,rfl,rfl⟩ hM' hB' hO⟩
end
theorem rz_frm:Frm rzL 35 234 235 Okrz rready rstep rdone where
 below h hb:=rz_below h hb
 mr b w f:=by kernel_rfl
 ms b w f:=by kernel_rfl
 er args w:=by kernel_rfl
 es args w:=by kernel_rfl
 ready hM h ok:=rz_ready hM h ok
 step hM h ok hr:=rz_step hM h ok hr
end Go.Proofs.YtkogifmjbmnpgaaGreat.Zr
namespace Go.Proofs.YtkogifmjbmnpgaaGreat.LawFn
open Go Go.RowKit Hp K Fl Rw Hm Ar Mm Me LK Qs Wk Pc Pn Mq Pu Zp Mx LawTh Bs Zr LawEl
theorem fin_just {S:Type} {rd:S→Bool} {st:S→S} {dn:S→Bool} (R:Nat→S→Prop) (h:∀ k s,R k s→rd s=true∧1≤k∧(dn s=true→k=1)∧(dn s=false→R (k-1) (st s))):
 ∀ K k s,R k s→k≤K→∃ s',fin rd st dn K s=(k,true,s'):=by
 intro K
 induction K with
 | zero=>
   intro k s hR hk
   have:=(h k s hR).2.1
   omega
 | succ K ih=>
   intro k s hR hk
   obtain ⟨h1,h2,h3,h4⟩:=h k s hR
   unfold fin
   rw [if_pos h1]
   cases hd:dn s with
   | true=>
     rw [if_pos rfl,h3 hd]
     exact ⟨_,rfl⟩
   | false=>
     obtain ⟨s',e⟩:=ih (k-1) (st s) (h4 hd) (by omega)
     rw [if_neg (by simp),e]
     exact ⟨s',by simp only; rw [show k-1+1=k by omega]⟩
def left (nx:Nat):Nat:=if nx≤5 then 11-nx else 12-nx
def Idle (L0:Lm) (H:List Nat) (N:Num) (s:Nat) (l:List Pr) (xs:List Int) (ds:List (Nat×Nat)) (k:Nat) (S:Lm×Rz):Prop:=
 (∃ k0,Lone L0 H N s l k0 S)∧S.1.xs=xs∧S.1.ds=ds∧S.2.size=((now xs ds).1:Int)∧1≤S.2.nx∧S.2.nx≠6∧S.2.nx≤11∧k=left S.2.nx
theorem idle_step {L0:Lm} {H:List Nat} {N:Num} {s:Nat} {l:List Pr} {xs:List Int} {ds:List (Nat×Nat)} {k:Nat} {S:Lm×Rz} (h:Idle L0 H N s l xs ds k S):rready S.1 S.2=true∧1≤k∧(rdone S.1 S.2=true→k=1)∧(rdone S.1 S.2=false→Idle L0 H N s l xs ds (k-1) (rstep S.1 S.2))∧(rstep S.1 S.2).1.xs=xs∧(rstep S.1 S.2).1.ds=ds:=by
 obtain ⟨⟨k0,hL⟩,h1,h2,h3,h4,h5,h6,rfl⟩:=h
 obtain ⟨a1,a2,a3,a4,a5⟩:=hL.step
 have hlk:1≤left S.2.nx:=by unfold left; split<;>omega
 have hx:(rstep S.1 S.2).1.xs=xs∧(rstep S.1 S.2).1.ds=ds∧(rdone S.1 S.2=false→(rstep S.1 S.2).2.size=S.2.size∧(rstep S.1 S.2).2.nx=if S.2.nx=5 then 7 else S.2.nx+1):=by
  unfold rstep rdone
  rw [if_neg (by omega)]
  by_cases q1:S.2.nx=1
  · rw [if_pos q1]; exact ⟨h1,h2,fun _=>⟨rfl,by rw [q1]; rfl⟩⟩
  rw [if_neg q1]
  by_cases q2:S.2.nx≤4
  · rw [if_pos q2]; exact ⟨h1,h2,fun _=>⟨rfl,by rw [if_neg (by omega)]⟩⟩
  rw [if_neg q2]
  by_cases q3:S.2.nx=5
  · rw [if_pos q3]
    have e:Zr.look S.1 S.2={S.2 with nx:=7}:=by unfold Zr.look; rw [h1,h2,if_pos h3.symm]
    exact ⟨h1,h2,fun _=>by rw [e]; exact ⟨rfl,by rw [if_pos q3]⟩⟩
  rw [if_neg q3,if_neg h5]
  by_cases q4:S.2.nx≤10
  · rw [if_pos q4]; exact ⟨h1,h2,fun _=>⟨rfl,by rw [if_neg (by omega)]⟩⟩
  · rw [if_neg q4]; exact ⟨h1,h2,fun q=>by have:=of_decide_eq_false q; omega⟩
 refine ⟨a2,hlk,fun hd=>?_,fun hd=>?_,hx.1,hx.2.1⟩
 · unfold rdone at hd
   have:=of_decide_eq_true hd
   unfold left
   rw [if_neg (by omega)]
   omega
 · obtain ⟨b1,b2,b3⟩:=hx
   obtain ⟨b4,b5⟩:=b3 hd
   have hn:¬(S.2.nx=0∨11≤S.2.nx):=of_decide_eq_false hd
   refine ⟨⟨_,a5 hd⟩,b1,b2,by rw [b4]; exact h3,?_,?_,?_,?_⟩
   · rw [b5]; split<;>omega
   · rw [b5]; split<;>omega
   · rw [b5]; split<;>omega
   · rw [b5]
     unfold left
     by_cases q:S.2.nx=5
     · rw [if_pos q,q]; rfl
     · rw [if_neg q]
       split<;>split<;>omega
def Num1 (L:Lm) (t:Nat):Prop:=L.xs.length≤10+512*t∧L.ds.length≤1+8*t∧1≤Cl.nth L.xs 0∧Cl.nth L.xs 0≤1+20000*t
theorem pow_le {a b:Nat} (h:2 ^ a≤2 ^ b):a≤b:=by
 rcases Nat.lt_or_ge b a with q | q
 · have:=Nat.pow_lt_pow_right (show 1<2 by omega) q
   omega
 · exact q
theorem pow2 {n:Nat} (h:FM.power (n:Int)=true):∃ b,b≤16∧n=2 ^ b:=by
 obtain ⟨b,hb,e⟩:=(FM.power_iff _).1 h
 exact ⟨b,hb,by exact_mod_cast e⟩
theorem pow8 {b:Nat} (h:2 ^ b≤256):b≤8:=pow_le (b:=8) h
theorem ways_to (few n s:Nat) (hf:few≤30) (hn:FM.power (n:Int)=true) (hs:FM.power (s:Int)=true) (hn8:n≤256) (hs8:s≤256):∃ c x t a,Ways few s n c x t a∧c≤19900∧x≤512∧t≤8∧a≤30*256:=by
 obtain ⟨b,hb,rfl⟩:=pow2 hn
 obtain ⟨k,hk,rfl⟩:=pow2 hs
 have hb8:=pow8 hn8
 have hk8:=pow8 hs8
 by_cases h:b≤k
 · obtain ⟨c,x,hu⟩:=up_to few k hk (k-b) b (by omega)
   obtain ⟨e1,e2,e3⟩:=hu.eqs
   have m1:(k-b)*(15+12*few)≤8*375:=Nat.mul_le_mul (by omega) (by omega)
   have m2:(2*few+4)*2 ^ k≤64*256:=Nat.mul_le_mul (by omega) hs8
   exact ⟨c,x,k-b,0,.inl hu,by omega,by omega,by omega,by omega⟩
 · obtain ⟨c,x,a,hu⟩:=dn_to few k (b-k) b (by omega) hb
   obtain ⟨e1,e2,e3,e4⟩:=hu.eqs
   have m1:(b-k)*14≤8*14:=Nat.mul_le_mul_right _ (by omega)
   have m2:(few+4)*2 ^ b≤34*256:=Nat.mul_le_mul (by omega) hn8
   have m3:few*2 ^ b≤30*256:=Nat.mul_le_mul hf hn8
   have m4:x≤2 ^ b:=Nat.le.intro e2
   exact ⟨c,x,b-k,a,.inr hu,by omega,by omega,by omega,by omega⟩
section
variable {W0 w:World} {M:Mo} {n B:Nat} {cs:Nat→List Mq.Hp} {l:List Pr} {G:Nat}
def RzS (W0 w w':World) (M:Mo) (l:List Pr) (s G t:Nat) (i:Int) (a:Ra) (k n:Nat):Prop:=
 ∃ (M':Mo) (a':Ra) (R':Rz) (B':Nat) (cs':Nat→List Mq.Hp),S11 W0 w' M' none 0 []∧M'.m=M.m∧rzL.At w' a' R'∧rzL.f a'=rzL.f a∧R'.err=0∧Mp (lm M') s B' cs' l G∧M'.ss.length=M.ss.length∧M'.k=M.k∧M'.ws=M.ws∧Num1 (lm M') (t+1)∧(n=s→k=10∧M'.xs.length=M.xs.length)∧Only (fun x=>mfoot M x∨rzL.foot a (newRz i s) x) w w'∧∀ x,rzL.foot a' R' x→rzL.foot a (newRz i s) x∨w.heap.size≤x
theorem resize_w {t:Nat} (h:S11 W0 w M none 0 []) (hm:Mp (lm M) n B cs l G) (hG:G≤1000000) (hl:l.length≤30) (hnum:Num1 (lm M) t) (ht:t≤11) {s:Nat} (hs:FM.power (s:Int)=true) {c x tt ca:Nat} (hw:Ways l.length s n c x tt ca) (hc:c≤19900) (hx:x≤512) (htt:tt≤8) (hca:ca≤30*256) (K:Nat) (hK:c+10≤K∧K≤1000000) {a:Ra} {i:Int} (hi:0≤i∧i≤1000) (hP:rzL.At w a (newRz i s)) (hlow:∀ x,rzL.foot a (newRz i s) x→W0.heap.size≤x):
 Calls Tryz.prog 9 #[ptr M.m,.iface 35 (ptr (rzL.f a)),.int .i64 K] w fun e w'=>∃ k:Nat,e=.returned (.tuple #[.int .i64 k,.bool true])∧RzS W0 w w' M l s G t i a k n:=by
 obtain ⟨u1,u2,u3,u4⟩:=hnum
 have v1:M.xs.length≤10+512*t:=u1
 have v2:M.ds.length≤1+8*t:=u2
 have hrest:=rest_of hm hG u3 (by omega) (by omega) (cap:=1000) ⟨by omega,by omega⟩
 have hfl:=Zr.Mp.flat_len hm
 have hwa:Ways (rsOf n B 1000 cs).few s (rsOf n B 1000 cs).n c x tt ca:=by
  show Ways (flat n cs).length s n c x tt ca
  rw [hfl]
  exact hw
 have hnw:newRz i s=⟨i,s,1,0,.none⟩:=by unfold newRz; rw [if_pos hs]
 have hone:Lone (lm M) (allh n cs) ⟨10+512*(t+1),1+8*(t+1),1+20000*((t:Int)+1)⟩ s l (c+10) (lm M,newRz i s):=by
  refine ⟨.rest (rsOf n B 1000 cs),fun _ _ _=>True,c+10,ca,Nat.le_refl _,hrest,⟨⟨by rw [hnw]; exact hi,by rw [hnw],by rw [hnw],Zr.Kp.refl _,by show M.hs.length=6; have:M.hs=List.replicate 6 (-1):=hm.hs; rw [this]; simp,fun j a b=>?_,?_,⟨by simp only; omega,by simp only; omega,by simp only; omega⟩,List.Perm.refl _⟩,.take (rsOf n B 1000 cs) c x tt ca (by rw [hnw]; exact ⟨Nat.le_refl _,by simp⟩) hwa (by rw [hnw]; simp only; omega) (Nat.le_refl _) (by show 1000+ca≤_; omega) (by simp only; omega) (by simp only; omega)⟩,hm.zero⟩
  · have:M.hs=List.replicate 6 (-1):=hm.hs
    show Lo.hol M.hs j=hsF (newRz i s).nx (newRz i s).worker j
    rw [hnw,this]
    unfold hsF Lo.hol
    simp only [List.getD_eq_getElem?_getD,List.getElem?_replicate]
    rw [if_pos (by omega)]
    by_cases q:j=5
    · rw [if_pos q]; rfl
    · rw [if_neg q,if_neg (by omega)]; rfl
  · show Cl.nth (lm M).xs 0+_≤1+20000*((t:Int)+1)
    omega
 have hfin:=finish_frm rz_frm h.mem hP (Lone (lm M) (allh n cs) ⟨10+512*(t+1),1+8*(t+1),1+20000*((t:Int)+1)⟩ s l) (fun S=>Qr (lm M) (allh n cs) ⟨10+512*(t+1),1+8*(t+1),1+20000*((t:Int)+1)⟩ s l S.1 S.2∧∀ i:Nat,(i:Int)<S.1.k→Cl.nth S.1.xs (2+i)=0) (fun k S hS=>hS.step) (c+10) K hone hK.1 hK.2
 refine hfin.mono fun e w' q=>?_
 obtain ⟨k,S,q1,⟨q2,q3⟩,⟨⟨Y,r1,r2,r3,r4,r5,r6,r7,r8,r9,r10⟩,r11⟩,M',a',g1,g2,g3,g4,g5,g6,g7⟩:=q
 refine ⟨k,q1,M',a',S.2,Y.B,Y.cs,h.moved g1 g3.foot g7 (fun x q=>?_) (fun x hx=>by simp [In] at hx),g3.m,g4,g5,r3,?_,?_,?_,?_,?_,fun hns=>?_,g7,g6⟩
 · rcases q with q | q
   · exact h.lom x q
   · exact hlow x q
 · have:=Zr.mp_of hm r1 r7 r6 r11 r5 r4
   rw [r2] at this
   rw [g2]
   exact this
 · have:(lm M').ss=S.1.ss:=by rw [g2]
   have e:M'.ss=S.1.ss:=this
   rw [e]; exact r6.ss
 · have:(lm M').k=S.1.k:=by rw [g2]
   have e:M'.k=S.1.k:=this
   rw [e]; exact r6.k
 · have:(lm M').ws=S.1.ws:=by rw [g2]
   have e:M'.ws=S.1.ws:=this
   rw [e]; exact r6.ws
 · rw [g2]
   refine ⟨r9,r10,r1.base.p1,?_⟩
   have:((t+1:Nat):Int)=(t:Int)+1:=by omega
   rw [this]
   exact r8
 · subst hns
   have hidle:Idle (lm M) (allh n cs) ⟨10+512*(t+1),1+8*(t+1),1+20000*((t:Int)+1)⟩ n l M.xs M.ds 10 (lm M,newRz i n):=by
    have hnow:Me.now M.xs M.ds=(n,B):=hm.now
    exact ⟨⟨_,hone⟩,rfl,rfl,by rw [hnw,hnow],by rw [hnw]; simp,by rw [hnw]; simp,by rw [hnw]; simp,by rw [hnw]; rfl⟩
   obtain ⟨S',hS'⟩:=fin_just (rd:=fun s:Lm×Rz=>rready s.1 s.2) (st:=fun s=>rstep s.1 s.2) (dn:=fun s=>rdone s.1 s.2) (Idle (lm M) (allh n cs) ⟨10+512*(t+1),1+8*(t+1),1+20000*((t:Int)+1)⟩ n l M.xs M.ds) (fun k S hS=>by obtain ⟨a1,a2,a3,a4,_,_⟩:=idle_step hS; exact ⟨a1,a2,a3,a4⟩) K 10 _ hidle (by omega)
   obtain ⟨n9,S9,e9,_,hx9⟩:=fin_steps (rd:=fun s:Lm×Rz=>rready s.1 s.2) (st:=fun s=>rstep s.1 s.2) (dn:=fun s=>rdone s.1 s.2) (Idle (lm M) (allh n cs) ⟨10+512*(t+1),1+8*(t+1),1+20000*((t:Int)+1)⟩ n l M.xs M.ds) (fun S=>S.1.xs=M.xs) (fun k S hS=>by obtain ⟨a1,a2,a3,a4,a5,_⟩:=idle_step hS; exact ⟨a1,a2,fun _=>a5,a4⟩) K 10 _ hidle (by omega)
   rw [q3] at hS' e9
   injection hS' with e1 e2
   injection e9 with e3 e4
   injection e4 with _ e5
   refine ⟨e1,?_⟩
   have:(lm M').xs=S.1.xs:=by rw [g2]
   have e:M'.xs=S.1.xs:=this
   rw [e,e5,hx9]
theorem resize_s {t:Nat} (h:S11 W0 w M none 0 []) (hm:Mp (lm M) n B cs l G) (hG:G≤1000000) (hl:l.length≤30) (hnum:Num1 (lm M) t) (ht:t≤11) (hn8:n≤256) {s:Nat} (hs:FM.power (s:Int)=true) (hs8:s≤256) {a:Ra} {i:Int} (hi:0≤i∧i≤1000) (hP:rzL.At w a (newRz i s)) (hlow:∀ x,rzL.foot a (newRz i s) x→W0.heap.size≤x):
 Calls Tryz.prog 9 #[ptr M.m,.iface 35 (ptr (rzL.f a)),.int .i64 20000] w fun e w'=>∃ k:Nat,e=.returned (.tuple #[.int .i64 k,.bool true])∧RzS W0 w w' M l s G t i a k n:=by
 obtain ⟨c,x,tt,ca,hw,hc,hx,htt,hca⟩:=ways_to l.length n s hl hm.pw hs hn8 hs8
 exact resize_w h hm hG hl hnum ht hs hw hc hx htt hca 20000 ⟨by omega,by omega⟩ hi hP hlow
def RfS (W0 w w':World) (M:Mo) (a:Ra) (i z:Int):Prop:=
 ∃ (M':Mo) (a':Ra) (R':Rz),S11 W0 w' M' none 0 []∧M'.m=M.m∧rzL.At w' a' R'∧rzL.f a'=rzL.f a∧R'.err=5∧lm M'=lm M∧Only (fun x=>mfoot M x∨rzL.foot a (newRz i z) x) w w'
theorem refuse_s (h:S11 W0 w M none 0 []) (hm:Mp (lm M) n B cs l G) {z:Int} (hz:FM.power z=false) {a:Ra} {i:Int} (hP:rzL.At w a (newRz i z)) (hlow:∀ x,rzL.foot a (newRz i z) x→W0.heap.size≤x) (K:Nat) (hK:1≤K∧K≤1000000):
 Calls Tryz.prog 9 #[ptr M.m,.iface 35 (ptr (rzL.f a)),.int .i64 K] w fun e w'=>e=.returned (.tuple #[.int .i64 1,.bool true])∧RfS W0 w w' M a i z:=by
 have hnw:newRz i z=⟨i,z,0,0,.none⟩:=by unfold newRz; rw [if_neg (by rw [hz]; simp)]
 have hkB:2+M.k≤B:=hm.kB
 have hk:1≤M.k∧M.k≤8:=hm.k
 have hxl:B+n≤M.xs.length:=hm.xl
 have hhs:M.hs=List.replicate 6 (-1):=hm.hs
 have hok:Okrz (lm M) (newRz i z):=⟨by rw [hnw]; simp,by show 1<M.xs.length; omega,by show M.hs.length=6; rw [hhs]; simp,fun q=>absurd (by rw [hnw]) q,fun j=>(hm.tb j).1,fun q=>by rw [hnw] at q; simp at q,fun q=>by rw [hnw] at q; simp at q,fun q=>by rw [hnw] at q; simp at q⟩
 have hst:rstep (lm M) (newRz i z)=(lm M,{newRz i z with err:=5,nx:=12}):=by unfold rstep; rw [if_pos (by rw [hnw])]
 have hrd:rready (lm M) (newRz i z)=true:=by unfold rready; rw [hnw]; simp
 have hdn:rdone (lm M) (newRz i z)=true:=by unfold rdone; rw [hnw]; simp
 refine (finish_frm rz_frm h.mem hP (fun k S=>k=1∧S=(lm M,newRz i z)) (fun S=>S=(lm M,{newRz i z with err:=5,nx:=12})) (fun k S hS=>by
  obtain ⟨rfl,rfl⟩:=hS
  exact ⟨hok,hrd,Nat.le_refl _,fun _=>hst,fun q=>by rw [hdn] at q; simp at q⟩) 1 K ⟨rfl,rfl⟩ hK.1 hK.2).mono fun e w' q=>?_
 obtain ⟨k,S,q1,⟨q2,q3⟩,q4,M',a',g1,g2,g3,g4,g5,g6,g7⟩:=q
 obtain ⟨S',hS'⟩:=fin_just (rd:=fun s:Lm×Rz=>rready s.1 s.2) (st:=fun s=>rstep s.1 s.2) (dn:=fun s=>rdone s.1 s.2) (fun k S=>k=1∧S=(lm M,newRz i z)) (fun k S hS=>by
  obtain ⟨rfl,rfl⟩:=hS
  exact ⟨hrd,Nat.le_refl _,fun _=>rfl,fun q=>by rw [hdn] at q; simp at q⟩) K 1 (lm M,newRz i z) ⟨rfl,rfl⟩ hK.1
 rw [q3] at hS'
 injection hS' with e1 _
 rw [e1] at q1
 rw [q4] at g2 g4
 refine ⟨q1,M',a',_,h.moved g1 g3.foot g7 (fun x q=>?_) (fun x hx=>by simp [In] at hx),g3.m,g4,g5,rfl,g2,g7⟩
 rcases q with q | q
 · exact h.lom x q
 · exact hlow x q
end
end Go.Proofs.YtkogifmjbmnpgaaGreat.LawFn
namespace Go.Proofs.YtkogifmjbmnpgaaGreat.LawTh
open Go Go.RowKit Hp K Fl Rw Hm Ar Mm Me LK Qs Wk Pc Pn Mq Zp Mx Gw LawSix
set_option maxRecDepth 100000
theorem err_any {w:World} {a:Gl} {G:Gr} (h:GrAt w a G):Calls Tryz.prog 61 #[ptr a.f] w fun e w'=>e=.returned (.int .i64 G.err)∧w=w':=by
 have c:=(own_hd h.blk).2.2.2.1
 clear h
 go_enter Tryz.func61,Tryz.ntmps61
 go_wp2_with fail
 go_ret
 exact ⟨rfl,rfl⟩
/-! ### the example's steps are eight-/
def L0:Lm:=⟨[1,0,0,0],List.replicate 6 (-1),[.zero],false,1,[(1,3)],[]⟩
def it:Nat→Lm×Gr
 | 0=>(L0,newGro 0)
 | n+1=>gstep (it n).1 (it n).2
def g1:Gr:={newGro 0 with el:=(1,3),nx:=2}
def L2:Lm:={L0 with xs:=[1,0,0,0,0,0],ds:=[(1,3),(2,4)]}
def g2:Gr:={g1 with num:=1,err:=0,nw:=(2,4),nx:=3}
def g3:Gr:={g2 with half:=2,bucket:=1,nx:=6}
def L4:Lm:={L2 with xs:=[1,1,0,0,0,0]}
def g4:Gr:={g3 with W:=⟨0,0,0,0⟩,nx:=7}
def L5:Lm:={L4 with hs:=0::List.replicate 5 (-1)}
def g5:Gr:={g4 with W:=⟨0,1,0,0⟩}
def L6:Lm:={L5 with xs:=[2,1,0,0,0,0]}
def g6:Gr:={g5 with W:=⟨0,2,2,0⟩}
def g7:Gr:={g6 with W:=⟨0,3,2,1⟩}
def L8:Lm:={L6 with hs:=List.replicate 6 (-1)}
def g8:Gr:={g7 with W:=⟨0,4,2,1⟩,nx:=9}
theorem it1:it 1=(L0,g1):=by kernel_rfl
theorem it2:it 2=(L2,g2):=by
 show gstep (it 1).1 (it 1).2=_
 rw [it1]; kernel_rfl
theorem it3:it 3=(L2,g3):=by
 show gstep (it 2).1 (it 2).2=_
 rw [it2]; kernel_rfl
theorem it4:it 4=(L4,g4):=by
 show gstep (it 3).1 (it 3).2=_
 rw [it3]; kernel_rfl
theorem it5:it 5=(L5,g5):=by
 show gstep (it 4).1 (it 4).2=_
 rw [it4]; kernel_rfl
theorem it6:it 6=(L6,g6):=by
 show gstep (it 5).1 (it 5).2=_
 rw [it5]; kernel_rfl
theorem it7:it 7=(L6,g7):=by
 show gstep (it 6).1 (it 6).2=_
 rw [it6]; kernel_rfl
theorem it8:it 8=(L8,g8):=by
 show gstep (it 7).1 (it 7).2=_
 rw [it7]; kernel_rfl
theorem okg_of {L:Lm} {G:Gr} (h1:1≤G.nx∧G.nx≤8) (h2:1<L.xs.length∧0<L.hs.length∧L.ds.length≤900000) (h3:G.nx≠1→G.el.1≤65536∧G.el.2≤4000000) (h4:G.bucket≤1000000) (h5:G.pass.length≤100000∧G.later.length≤100000) (h6:G.later=[])
 (h7:G.nx=3→G.el.2+G.bucket<L.xs.length) (h8:G.nx=6→0≤G.num∧G.num≤1000000) (h9:G.nx=7→0≤L.k∧Qs.Okw L.k.toNat L.xs L.hs G.W) (n4:G.nx≠4) (n5:G.nx≠5) (n8:G.nx≠8):Okgr L G:=
 ⟨h1,h2.1,h2.2.1,h2.2.2,h3,h4,h5,fun _=>h6,h7,fun q=>absurd q n4,fun q=>absurd q n5,h8,h9,fun q=>absurd q n8⟩
theorem okw_of {L:Lm} {W:Wt} (hk:L.k=1) (h1:W.at_≤3) (h2:W.worker=0) (h3:0<L.hs.length) (h4:3≤L.xs.length) (h5:W.passed≤1000∧(W.at_≤2→W.passed<1)) (h6:W.at_≠0→Lo.hol L.hs 0=0):0≤L.k∧Qs.Okw L.k.toNat L.xs L.hs W:=by
 rw [hk]
 exact ⟨by omega,⟨by decide,h1,by omega,h3,h4,h5,by rw [h2]; exact h6⟩⟩
theorem it_ok (j:Nat) (hj:j≤7):Okgr (it j).1 (it j).2∧gready (it j).1 (it j).2=true∧gdone (it j).1 (it j).2=decide (j=7):=by
 have:j=0∨j=1∨j=2∨j=3∨j=4∨j=5∨j=6∨j=7:=by omega
 rcases this with rfl | rfl | rfl | rfl | rfl | rfl | rfl | rfl
 · exact ⟨okg_of (by decide) (by decide) (by decide) (by decide) (by decide) rfl (by decide) (by decide) (fun q=>absurd q (by decide)) (by decide) (by decide) (by decide),by kernel_rfl,by kernel_rfl⟩
 · rw [it1]; exact ⟨okg_of (by decide) (by decide) (by decide) (by decide) (by decide) rfl (by decide) (by decide) (fun q=>absurd q (by decide)) (by decide) (by decide) (by decide),by kernel_rfl,by kernel_rfl⟩
 · rw [it2]; exact ⟨okg_of (by decide) (by decide) (by decide) (by decide) (by decide) rfl (by decide) (by decide) (fun q=>absurd q (by decide)) (by decide) (by decide) (by decide),by kernel_rfl,by kernel_rfl⟩
 · rw [it3]; exact ⟨okg_of (by decide) (by decide) (by decide) (by decide) (by decide) rfl (by decide) (by decide) (fun q=>absurd q (by decide)) (by decide) (by decide) (by decide),by kernel_rfl,by kernel_rfl⟩
 · rw [it4]; exact ⟨okg_of (by decide) (by decide) (by decide) (by decide) (by decide) rfl (by decide) (by decide) (fun _=>okw_of rfl (by decide) rfl (by decide) (by decide) (by decide) (by decide)) (by decide) (by decide) (by decide),by kernel_rfl,by kernel_rfl⟩
 · rw [it5]; exact ⟨okg_of (by decide) (by decide) (by decide) (by decide) (by decide) rfl (by decide) (by decide) (fun _=>okw_of rfl (by decide) rfl (by decide) (by decide) (by decide) (by decide)) (by decide) (by decide) (by decide),by kernel_rfl,by kernel_rfl⟩
 · rw [it6]; exact ⟨okg_of (by decide) (by decide) (by decide) (by decide) (by decide) rfl (by decide) (by decide) (fun _=>okw_of rfl (by decide) rfl (by decide) (by decide) (by decide) (by decide)) (by decide) (by decide) (by decide),by kernel_rfl,by kernel_rfl⟩
 · rw [it7]; exact ⟨okg_of (by decide) (by decide) (by decide) (by decide) (by decide) rfl (by decide) (by decide) (fun _=>okw_of rfl (by decide) rfl (by decide) (by decide) (by decide) (by decide)) (by decide) (by decide) (by decide),by kernel_rfl,by kernel_rfl⟩
theorem low_gro {W0 a b:World} {M:Mo} {g:Gl} {G:Gr} (ha:Below W0.heap.size W0 a) (hlo:∀ x,mfoot M x→W0.heap.size≤x) (hg:∀ x,gfoot g G x→W0.heap.size≤x) (ho:Only (fun x=>mfoot M x∨gfoot g G x) a b):Below W0.heap.size W0 b:=
 ha.trans (ho.toBelow ha.size (fun x hx q=>by
  rcases q with q | q
  · have:=hlo x q; omega
  · have:=hg x q; omega))
set_option maxHeartbeats 2000000 in
theorem awake (w:World):Calls Tryz.prog 26 #[] w fun e w'=>e=.returned (.bool true)∧Below w.heap.size w w':=by
 have hN:=Lib.hid (made_yes 1 1 w (by omega) (by omega))
 have hA:=Lib.hid (fun w=>LawTen.awake w)
 have hNg:=Lib.hid (fun w=>new_grow 0 w)
 go_enter Tryz.func26,Tryz.ntmps26
 go_wp2_with fail
 refine hN.out.mono ?_
 rintro e w1 ⟨M,rfl,hM,hlo,hB,h1,h2,h3,h4,h5,h6,h7⟩
 have hL:lm M=L0:=by
  unfold lm L0
  rw [h1,h2,h3,h4,h5,h6,h7]
  rfl
 replace hL:=Lib.hid hL
 replace hM:=Lib.hid hM
 replace hlo:=Lib.hid hlo
 replace hB:=Lib.hid hB
 clear hN h1 h2 h3 h4 h5 h6 h7
 go_wp2_with fail
 refine (hNg.out _).mono ?_
 rintro e w2 ⟨a,rfl,hG2,hlow2,hB2⟩
 have hM2:=hM.out.below hB2
 have hB02:=Lib.hid (hB.out.trans (hB2.mono hB.out.size))
 have hlg:=Lib.hid (fun x hx=>Nat.le_trans hB.out.size (hlow2 x hx))
 have hFn:=finish_frm gro_frm hM2 (show grL.At w2 a (newGro 0) from hG2) (fun k s=>∃ j,j+k=8∧j≤7∧s=it j) (fun s=>s=it 8) (fun k s hs=>by
  obtain ⟨j,h1,h2,rfl⟩:=hs
  obtain ⟨a1,a2,a3⟩:=it_ok j h2
  refine ⟨a1,a2,by omega,fun hd=>?_,fun hd=>⟨j+1,by omega,?_,rfl⟩⟩
  · rw [a3] at hd
    have:j=7:=of_decide_eq_true hd
    subst this
    rfl
  · rw [a3] at hd
    have:¬j=7:=of_decide_eq_false hd
    omega) 8 100 ⟨0,by omega,by omega,by rw [hL.out]; rfl⟩ (by omega) (by omega)
 have hF2:Hid (Calls Tryz.prog 9 #[ptr M.m,.iface 124 (ptr a.f),.int .i64 100] w2 fun e w'=>∃ (n:Nat) (M':Mo) (a':Gl),e=.returned (.tuple #[.int .i64 n,.bool true])∧MemAt w' M'∧lm M'=L8∧M'.m=M.m∧GrAt w' a' g8∧a'.f=a.f∧Below w.heap.size w w'):=Lib.hid (hFn.mono fun e w' q=>by
  obtain ⟨n,s,q1,_,q2,M',a',r1,r2,r3,r4,r5,r6,r7⟩:=q
  rw [q2,it8] at r2 r4
  exact ⟨n,M',a',q1,r1,r2,r3.m,r4,r5,low_gro hB02.out hlo.out hlg.out r7⟩)
 clear hFn hNg hG2 hlow2 hB2 hM2 hM hB hL
 go_wp2_with fail
 refine hF2.out.mono ?_
 rintro e w3 ⟨n,M',a',rfl,hM3,hL3,em,hG3,ea,hB3⟩
 have x3:M'.xs=[2,1,0,0,0,0]:=congrArg Lm.xs hL3
 have d3:M'.ds=[(1,3),(2,4)]:=congrArg Lm.ds hL3
 have s3:M'.ss=[.zero]:=congrArg Lm.ss hL3
 have hE:=fun wx (hb:Below w3.heap.size w3 wx)=>err_any (hG3.below hb)
 rw [ea] at hE
 have hNw:=fun wx (hb:Below w3.heap.size w3 wx)=>now_any (hM3.below hb) (by rw [x3]; simp)
 have hRc:=fun wx (hb:Below w3.heap.size w3 wx)=>reach_any (hM3.below hb) (by
  rw [x3,d3]
  intro i hi
  have:i=0∨i=1:=by simp at hi; omega
  rcases this with rfl | rfl<;>decide) (by rw [x3]; simp) (by
  rw [s3]
  intro k
  rcases k with _ | k
  · decide
  · simp [at',List.getD]; decide) (by rw [s3]; simp) [] (by
  rw [x3,d3,s3]
  unfold Rch
  have h0:∀ b,b<2→first [2,1,0,0,0,0] [(1,3),(2,4)] b=0:=fun b hb=>by
   have:b=0∨b=1:=by omega
   rcases this with rfl | rfl<;>rfl
  have hst:∀ met,Ch [Sl.zero] met 0 []:=fun met=>.stop (.inl fun k hk=>by
   have:=hk.2.2
   omega)
  show Rh [Sl.zero] (first [2,1,0,0,0,0] [(1,3),(2,4)]) 2 []
  exact .succ (all:=[]) (t:=[]) (.succ (all:=[]) (t:=[]) .zero (by rw [h0 0 (by omega)]; exact hst _)) (by rw [h0 1 (by omega)]; exact hst _))
 have hnw:Me.now M'.xs M'.ds=(2,4):=by rw [x3,d3]; rfl
 have hge:g8.err=0:=rfl
 rw [hnw,em] at hNw
 rw [em] at hRc
 rw [hge] at hE
 unfold dv at hNw
 have hfd:∀ w,(Instr.field 51 (.agg #[.int .i64 2,.int .i64 4]) 0).run Tryz.prog w=.ok (.int .i64 2) w:=fun w=>rfl
 replace hE:=Lib.hid hE
 replace hNw:=Lib.hid hNw
 replace hRc:=Lib.hid hRc
 replace hB3:=Lib.hid hB3
 clear hF2 hM3 hL3 em hG3 ea x3 d3 s3 hnw hge hlo hlg hB02
 go_wp2_with fail
 refine (hA.out _).mono ?_
 rintro e w4 ⟨rfl,hB4⟩
 replace hB4:=Lib.hid hB4
 clear hA
 go_wp2_with fail
 refine (hE.out _ hB4.out).mono ?_
 rintro e w' ⟨rfl,rfl⟩
 clear hE
 go_wp2_with fail
 refine (hNw.out _ hB4.out).mono ?_
 rintro e w5 ⟨rfl,hB5⟩
 have hB35:=Lib.hid (hB4.out.trans (hB5.mono hB4.out.size))
 clear hB5 hB4 hNw
 go_wp2_with fail
 refine (hRc.out _ hB35.out).mono ?_
 rintro e w6 ⟨Ac,capc,rfl,hRw,hB6,hin⟩
 have hBx:=Lib.hid (hB3.out.trans ((hB35.out.trans (hB6.mono hB35.out.size)).mono hB3.out.size))
 clear hRw hin hB6 hB35 hB3 hRc
 go_wp2_with fail
 go_ret
 exact ⟨rfl,hBx.out⟩
end Go.Proofs.YtkogifmjbmnpgaaGreat.LawTh
namespace Go.Proofs.YtkogifmjbmnpgaaGreat.LawFo
open Go Go.RowKit Hp K Fl Rw Hm Ar Mm Me LK Qs Wk Pc Pn Mx Sw LawSix
set_option maxRecDepth 100000
abbrev L0:Lm:=⟨[1,0,0,0],[-1, -1, -1, -1, -1, -1],[.zero],false,1,[(1,3)],[]⟩
abbrev s1:Sh:=⟨0,2,0,(1,3),(0,0),0,0,0,0,0,0,[],⟨0,0,0,0⟩⟩
abbrev s2:Sh:=⟨0,10,5,(1,3),(0,0), -1,0,0,0,0,0,[],⟨0,0,0,0⟩⟩
theorem st0:sstep L0 (newShr 0)=(L0,s1):=by kernel_rfl
theorem st1:sstep L0 s1=(L0,s2):=by kernel_rfl
theorem okA:Oksh L0 (newShr 0)∧sready L0 (newShr 0)=true∧sdone L0 (newShr 0)=false:=
 ⟨⟨by decide,by decide,by decide,by decide,by decide,by decide,by decide,by decide,by decide,by decide,fun q=>absurd q (by decide),fun q=>absurd q (by decide),by decide,by decide,fun q=>absurd q (by decide)⟩,by kernel_rfl,by kernel_rfl⟩
theorem okB:Oksh L0 s1∧sready L0 s1=true∧sdone L0 s1=true:=
 ⟨⟨by decide,by decide,by decide,by decide,by decide,by decide,by decide,by decide,by decide,by decide,fun q=>absurd q (by decide),fun q=>absurd q (by decide),by decide,by decide,fun q=>absurd q (by decide)⟩,by kernel_rfl,by kernel_rfl⟩
theorem low_shr {W0 a b:World} {M:Mo} {g:Sc} {G:Sh} (ha:Below W0.heap.size W0 a) (hlo:∀ x,mfoot M x→W0.heap.size≤x) (hg:∀ x,sfoot g G x→W0.heap.size≤x) (ho:Only (fun x=>mfoot M x∨sfoot g G x) a b):Below W0.heap.size W0 b:=
 ha.trans (ho.toBelow ha.size (fun x hx q=>by
  rcases q with q | q
  · have:=hlo x q; omega
  · have:=hg x q; omega))
set_option maxHeartbeats 2000000 in
theorem awake (w:World):Calls Tryz.prog 27 #[] w fun e w'=>e=.returned (.bool true)∧Below w.heap.size w w':=by
 have hN:=Lib.hid (made_yes 1 1 w (by omega) (by omega))
 have hA:=Lib.hid (fun w=>LawTh.awake w)
 have hNg:=Lib.hid (fun w=>new_shrink 0 w)
 go_enter Tryz.func27,Tryz.ntmps27
 go_wp2_with fail
 refine hN.out.mono ?_
 rintro e w1 ⟨M,rfl,hM,hlo,hB,h1,h2,h3,h4,h5,h6,h7⟩
 have hL:lm M=L0:=by
  unfold lm L0
  rw [h1,h2,h3,h4,h5,h6,h7]
  rfl
 replace hL:=Lib.hid hL
 replace hM:=Lib.hid hM
 replace hlo:=Lib.hid hlo
 replace hB:=Lib.hid hB
 clear hN h1 h2 h3 h4 h5 h6 h7
 go_wp2_with fail
 refine (hNg.out _).mono ?_
 rintro e w2 ⟨a,rfl,hG2,hlow2,hB2⟩
 have hM2:=hM.out.below hB2
 have hB02:=Lib.hid (hB.out.trans (hB2.mono hB.out.size))
 have hlg:=Lib.hid (fun x hx=>Nat.le_trans hB.out.size (hlow2 x hx))
 have hFn:=finish_frm shr_frm hM2 (show shL.At w2 a (newShr 0) from hG2) (fun k s=>(k=2∧s=(L0,newShr 0))∨(k=1∧s=(L0,s1))) (fun s=>s=(L0,s2)) (fun k s hs=>by
  rcases hs with ⟨rfl,rfl⟩ | ⟨rfl,rfl⟩
  · obtain ⟨a1,a2,a3⟩:=okA
    exact ⟨a1,a2,by omega,fun hd=>by rw [a3] at hd; simp at hd,fun _=>.inr ⟨rfl,st0⟩⟩
  · obtain ⟨a1,a2,a3⟩:=okB
    exact ⟨a1,a2,by omega,fun _=>st1,fun hd=>by rw [a3] at hd; simp at hd⟩) 2 100 (.inl ⟨rfl,by rw [hL.out]⟩) (by omega) (by omega)
 have hF2:Hid (Calls Tryz.prog 9 #[ptr M.m,.iface 126 (ptr a.f),.int .i64 100] w2 fun e w'=>∃ (n:Nat) (M':Mo) (a':Sc),e=.returned (.tuple #[.int .i64 n,.bool true])∧MemAt w' M'∧lm M'=L0∧M'.m=M.m∧ShAt w' a' s2∧a'.f=a.f∧Below w.heap.size w w'):=Lib.hid (hFn.mono fun e w' q=>by
  obtain ⟨n,s,q1,_,q2,M',a',r1,r2,r3,r4,r5,r6,r7⟩:=q
  rw [q2] at r2 r4
  exact ⟨n,M',a',q1,r1,r2,r3.m,r4,r5,low_shr hB02.out hlo.out hlg.out r7⟩)
 clear hFn hNg hG2 hlow2 hB2 hM2 hM hB hL
 go_wp2_with fail
 refine hF2.out.mono ?_
 rintro e w3 ⟨n,M',a',rfl,hM3,hL3,em,hG3,ea,hB3⟩
 have x3:M'.xs=[1,0,0,0]:=congrArg Lm.xs hL3
 have d3:M'.ds=[(1,3)]:=congrArg Lm.ds hL3
 have hE:=fun wx (hb:Below w3.heap.size w3 wx)=>err_any (hG3.below hb)
 rw [ea] at hE
 have hNw:=fun wx (hb:Below w3.heap.size w3 wx)=>now_any (hM3.below hb) (by rw [x3]; simp)
 have hnw:Me.now M'.xs M'.ds=(1,3):=by rw [x3,d3]; rfl
 have hge:s2.err=5:=rfl
 rw [hnw,em] at hNw
 rw [hge] at hE
 unfold dv at hNw
 have hfd:∀ w,(Instr.field 51 (.agg #[.int .i64 1,.int .i64 3]) 0).run Tryz.prog w=.ok (.int .i64 1) w:=fun w=>rfl
 replace hE:=Lib.hid hE
 replace hNw:=Lib.hid hNw
 replace hB3:=Lib.hid hB3
 clear hF2 hM3 hL3 em hG3 ea x3 d3 hnw hge hlo hlg hB02
 go_wp2_with fail
 refine (hA.out _).mono ?_
 rintro e w4 ⟨rfl,hB4⟩
 replace hB4:=Lib.hid hB4
 clear hA
 go_wp2_with fail
 refine (hE.out _ hB4.out).mono ?_
 rintro e w' ⟨rfl,rfl⟩
 clear hE
 go_wp2_with fail
 refine (hNw.out _ hB4.out).mono ?_
 rintro e w5 ⟨rfl,hB5⟩
 have hBx:=Lib.hid (hB3.out.trans ((hB4.out.trans (hB5.mono hB4.out.size)).mono hB3.out.size))
 clear hB5 hB4 hNw
 go_wp2_with fail
 go_ret
 exact ⟨rfl,hBx.out⟩
end Go.Proofs.YtkogifmjbmnpgaaGreat.LawFo
namespace Go.Proofs.YtkogifmjbmnpgaaGreat.LawFn
open Go Go.RowKit Hp K Fl Rw Hm Ar Mm Me LK Qs Wk Re LawSix Pn Pc Mq Pu LawTen LawEl LawTw Dl Zr
set_option maxRecDepth 100000
theorem num_made {w w1:World} {n k:Nat} {M:Mo} (h:MadeP w n k M w1) (hk:k≤6):Num1 (lm M) 0:=by
 obtain ⟨hM,hlo,hB,h1,h2,h3,h4,h5,h6,h7⟩:=h
 refine ⟨?_,?_,?_,?_⟩
 · show M.xs.length≤_; rw [h1]; simp; omega
 · show M.ds.length≤_; rw [h6]; simp
 · show 1≤Cl.nth M.xs 0; rw [h1]; exact Int.le_refl _
 · show Cl.nth M.xs 0≤_; rw [h1]; exact Int.le_refl _
theorem s11_made {w w1:World} {n k:Nat} {M:Mo} (h:MadeP w n k M w1):S11 w w1 M none 0 []:=by
 obtain ⟨hM,hlo,hB,_⟩:=h
 exact ⟨hM,Row.nil _ _ _ _,hB,hlo,by simp [In]⟩
theorem held_none {hs:List Int} (h:hs=List.replicate 6 (-1)) (i:Nat):(Lo.heldTo hs (i:Int) hs.length).length=0:=by
 subst h
 rw [List.length_eq_zero_iff]
 unfold Lo.heldTo
 rw [List.filter_eq_nil_iff]
 intro j _
 simp only [decide_eq_true_eq]
 intro q
 have h2:=q.2
 unfold Lo.hol at h2
 rw [List.getD_eq_getElem?_getD,List.getElem?_replicate] at h2
 split at h2<;>simp at h2<;>omega
section
variable {W0 w wx:World} {M:Mo} {n B G:Nat} {cs:Nat→List Mq.Hp} {l:List Pr}
theorem now_s (h:S11 W0 w M none 0 []) (hm:Mp (lm M) n B cs l G) (hb:Below w.heap.size w wx):Calls Tryz.prog 16 #[ptr M.m] wx fun e w'=>e=.returned (.agg #[.int .i64 n,.int .i64 B])∧Below wx.heap.size wx w':=by
 have hkB:2+M.k≤B:=hm.kB
 have hk:1≤M.k∧M.k≤8:=hm.k
 have hxl:B+n≤M.xs.length:=hm.xl
 have hnw:Me.now M.xs M.ds=(n,B):=hm.now
 have:=now_any (h.mem.below hb) (by omega)
 rw [hnw] at this
 exact this
theorem held_s (h:S11 W0 w M none 0 []) (hm:Mp (lm M) n B cs l G) (hb:Below w.heap.size w wx):wx.cell? ⟨M.m,1,none⟩=some (ptr M.lg)∧∀ i:Nat,Calls Tryz.prog 19 #[ptr M.lg,.int .i64 i] wx fun e w'=>∃ A cap,e=.returned (.slice A (0:Nat) cap)∧Below wx.heap.size wx w':=by
 have hM:=h.mem.below hb
 have hhs:M.hs=List.replicate 6 (-1):=hm.hs
 refine ⟨hM.hd.2.1,fun i=>(Lo.held_any hM.2.2.1 (i:Int)).mono fun e w' q=>?_⟩
 obtain ⟨A,cap,q1,_,_,q4⟩:=q
 rw [held_none hhs i] at q1
 exact ⟨A,cap,q1,q4⟩
end
theorem up8:∃ c x t a,Ways ([]:List Pr).length 8 1 c x t a∧c≤100∧x≤512∧t≤8∧a≤30*256:=by
 obtain ⟨c,x,hu⟩:=up_to 0 3 (by omega) 3 0 (by omega)
 obtain ⟨e1,e2,e3⟩:=hu.eqs
 exact ⟨c,x,3,0,.inl hu,by omega,by omega,by omega,by omega⟩
set_option maxHeartbeats 2000000 in
theorem awake (w:World):Calls Tryz.prog 5 #[] w fun e w'=>e=.returned (.bool true)∧Below w.heap.size w w':=by
 have hN:=Lib.hid (made_yes 1 1 w (by omega) (by omega))
 have hA2:=Lib.hid (fun w=>LawTw.awake w)
 have hA3:=Lib.hid (fun w=>LawTh.awake w)
 have hA4:=Lib.hid (fun w=>LawFo.awake w)
 have hNg:=Lib.hid (fun z w=>new_resize 0 z w)
 go_enter Tryz.func5,Tryz.ntmps5
 go_wp2_with fail
 refine hN.out.mono ?_
 rintro e w1 ⟨M,rfl,hMd⟩
 have hmp:=mp_made hMd (by omega) (by omega)
 have hnum:=num_made hMd (by omega)
 have hS:=s11_made hMd
 replace hmp:=Lib.hid hmp
 replace hnum:=Lib.hid hnum
 replace hS:=Lib.hid hS
 clear hN hMd
 go_wp2_with fail
 refine (hNg.out 8 _).mono ?_
 rintro e w2 ⟨a,rfl,hR2,hl2,hB2⟩
 have hS2:=Lib.hid (hS.out.down hB2)
 have hl2':=Lib.hid (fun x hx=>Nat.le_trans hS.out.below.size (hl2 x hx))
 replace hR2:=Lib.hid hR2
 clear hl2 hB2 hS
 go_wp2_with fail
 refine (hNg.out 3 _).mono ?_
 rintro e w3 ⟨b,rfl,hR3,hl3,hB3⟩
 have hS3:=hS2.out.down hB3
 have hRa:=rz_only hR2.out (Only.ofBelow hB3 (fun _=>False)) (by simp)
 have hlb:=Lib.hid (fun x hx=>Nat.le_trans hS2.out.below.size (hl3 x hx))
 have hab:=Lib.hid (fun x (hx:rzL.foot b (newRz 0 3) x)=>show ¬(mfoot M x∨rzL.foot a (newRz 0 8) x) from fun q=>by
  rcases q with q | q
  · exact rz_far hR3 hS3.mem hx q
  · have:=rz_lt hR2.out q
    have:=hl3 x hx
    omega)
 obtain ⟨c,x,t,ca,hwy,hc,hx,ht,hca⟩:=up8
 have hFn:=resize_w hS3 hmp.out (by omega) (by simp) hnum.out (by omega) (s:=8) (by decide) hwy (by omega) hx ht hca 500 ⟨by omega,by omega⟩ (i:=0) (by omega) hRa hl2'.out
 have hla:=Lib.hid (fun x hx=>rz_lt (a:=a) (R:=newRz 0 8) (x:=x) hR2.out hx)
 have hlb3:=Lib.hid hl3
 replace hR3:=Lib.hid hR3
 replace hFn:=Lib.hid hFn
 clear hNg hl3 hB3 hS3 hRa hS2 hR2 hl2' hwy hmp hnum
 go_wp2_with fail
 refine hFn.out.mono ?_
 rintro e w4 ⟨k,rfl,M4,a4,R4,B4,cs4,hS4,em4,hRa4,ea4,he4,hmp4,hsl4,hk4,hws4,hnum4, -,hO4,hf4⟩
 have hRb:=rz_only hR3.out hO4 hab.out
 have hF2:=refuse_s hS4 hmp4 (z:=3) (by decide) hRb hlb.out 500 ⟨by omega,by omega⟩
 rw [em4] at hF2
 have hF3:Hid (Calls Tryz.prog 9 #[ptr M.m,.iface 35 (ptr (rzL.f b)),.int .i64 500] w4 fun e w'=>e=.returned (.tuple #[.int .i64 1,.bool true])∧Below w.heap.size w w'∧(∀ wx,Below w'.heap.size w' wx→Calls Tryz.prog 11 #[ptr (rzL.f a)] wx fun e w''=>e=.returned (.int .i64 0)∧w''=wx)∧(∀ wx,Below w'.heap.size w' wx→Calls Tryz.prog 11 #[ptr (rzL.f b)] wx fun e w''=>e=.returned (.int .i64 5)∧w''=wx)∧(∀ wx,Below w'.heap.size w' wx→Calls Tryz.prog 16 #[ptr M.m] wx fun e w''=>e=.returned (.agg #[.int .i64 8,.int .i64 B4])∧Below wx.heap.size wx w'')∧∃ lk,∀ wx,Below w'.heap.size w' wx→wx.cell? ⟨M.m,1,none⟩=some (ptr lk)∧Calls Tryz.prog 19 #[ptr lk,.int .i64 0] wx fun e w''=>∃ A cap,e=.returned (.slice A 0 cap)∧Below wx.heap.size wx w''):=Lib.hid (hF2.mono fun e w' q=>by
  obtain ⟨q1,M5,a5,R5,hS5,em5,hRb5,eb5,he5,hl5,hO5⟩:=q
  have hRa5:=rz_only hRa4 hO5 (fun x hx q=>by
   rcases q with q | q
   · exact rz_far hRa4 hS4.mem hx q
   · have h1:=rz_lt hR3.out q
     have h2:=hlb3.out x q
     rcases hf4 x hx with q | q
     · have h3:=hla.out x q; omega
     · omega)
  have hmp5:Mp (lm M5) 8 B4 cs4 [] 0:=by rw [hl5]; exact hmp4
  refine ⟨q1,hS5.below,fun wx hb=>?_,fun wx hb=>?_,fun wx hb=>?_,M5.lg,fun wx hb=>?_⟩
  · have:=rz_err (rz_frm.below hRa5 hb)
    rw [ea4,he4] at this
    exact this
  · have:=rz_err (rz_frm.below hRb5 hb)
    rw [eb5,he5] at this
    exact this
  · have:=now_s hS5 hmp5 hb
    rw [em5,em4] at this
    exact this
  · have:=held_s hS5 hmp5 hb
    rw [em5,em4] at this
    exact ⟨this.1,this.2 0⟩)
 have hB04:=Lib.hid hS4.below
 clear hF2 hRb hFn hS4 em4 hRa4 ea4 he4 hmp4 hsl4 hk4 hws4 hnum4 hO4 hf4 hR3 hlb hab hla hlb3
 go_wp2_with fail
 refine hF3.out.mono ?_
 rintro e w5 ⟨rfl,hB5,hEa,hEb,hNw,lk,hHd⟩
 replace hB5:=Lib.hid hB5
 replace hEa:=Lib.hid hEa
 replace hEb:=Lib.hid hEb
 replace hNw:=Lib.hid hNw
 replace hHd:=Lib.hid hHd
 have hfd:∀ w,(Instr.field 51 (.agg #[.int .i64 8,.int .i64 B4]) 0).run Tryz.prog w=.ok (.int .i64 8) w:=fun w=>rfl
 clear hF3 hB04
 go_wp2_with fail
 refine (hA2.out _).mono ?_
 rintro e w6 ⟨rfl,hb6⟩
 have hB6:=Lib.hid hb6
 clear hb6 hA2
 go_wp2_with fail
 refine (hA3.out _).mono ?_
 rintro e w7 ⟨rfl,hb7⟩
 have hB7:=Lib.hid (hB6.out.trans (hb7.mono hB6.out.size))
 clear hb7 hB6 hA3
 go_wp2_with fail
 refine (hA4.out _).mono ?_
 rintro e w8 ⟨rfl,hb8⟩
 have hB8:=Lib.hid (hB7.out.trans (hb8.mono hB7.out.size))
 clear hb8 hB7 hA4
 go_wp2_with fail
 refine (hEa.out _ hB8.out).mono ?_
 rintro e w' ⟨rfl,rfl⟩
 clear hEa
 go_wp2_with fail
 refine (hNw.out _ hB8.out).mono ?_
 rintro e w9 ⟨rfl,hb9⟩
 have hB9:=Lib.hid (hB8.out.trans (hb9.mono hB8.out.size))
 have hc9:=(hHd.out _ hB9.out).1
 have hH9:=Lib.hid (hHd.out _ hB9.out).2
 clear hb9 hB8 hNw hHd
 go_wp2_with fail
 refine hH9.out.mono ?_
 rintro e w10 ⟨A,cap,rfl,hb10⟩
 have hB10:=Lib.hid (hB9.out.trans (hb10.mono hB9.out.size))
 clear hb10 hB9 hH9 hc9
 go_wp2_with fail
 refine (hEb.out _ hB10.out).mono ?_
 rintro e w' ⟨rfl,rfl⟩
 have hBx:=Lib.hid (hB5.out.trans (hB10.out.mono hB5.out.size))
 clear hEb hB5 hB10
 go_wp2_with fail
 go_ret
 exact ⟨rfl,hBx.out⟩
end Go.Proofs.YtkogifmjbmnpgaaGreat.LawFn
