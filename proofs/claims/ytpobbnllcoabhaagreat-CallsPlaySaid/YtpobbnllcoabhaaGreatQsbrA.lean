/- Walks over layer 6 (qsbr): what a wait's parts answer, and which blocks they write. -/
import Derived.Test.YtpobbnllcoabhaaGreatMemNew
import Derived.Deep.RegionHeld3
set_option linter.unusedVariables false
set_option linter.unusedSimpArgs false
namespace Go.Proofs.YtpobbnllcoabhaaGreat.Qs
open Go Go.RowKit Hp K Fl Rw Hm Ar Mm Me
set_option maxRecDepth 100000
structure Wt where
 worker:Int
 at_:Nat
 period:Int
 passed:Nat
def wtc (W:Wt):Array Value:=#[.int .i64 W.worker,.int .i64 W.at_,.int .u64 W.period,.int .i64 W.passed]
def WtAt (w:World) (f:Nat) (W:Wt):Prop:=Blk w f 153 (wtc W)
def passB (xs:List Int) (W:Wt):Bool:=decide (Cl.nth xs (2+W.passed)=0∨W.period≤Cl.nth xs (2+W.passed))
def takeB (hs:List Int) (W:Wt):Bool:=decide (0≤W.worker∧Lo.hol hs 0= -1)
def readyB (xs hs:List Int) (W:Wt):Bool:=if W.at_=0 then takeB hs W else if W.at_=2 then passB xs W else true
theorem WtAt.hd {w:World} {f:Nat} {W:Wt} (h:WtAt w f W):w.cell? ⟨f,0,none⟩=some (.int .i64 W.worker)∧w.cell? ⟨f,1,none⟩=some (.int .i64 W.at_)∧w.cell? ⟨f,2,none⟩=some (.int .u64 W.period)∧w.cell? ⟨f,3,none⟩=some (.int .i64 W.passed):=
 ⟨h.cell 0,h.cell 1,h.cell 2,h.cell 3⟩
theorem WtAt.far {w:World} {f:Nat} {W:Wt} (h:WtAt w f W) {M:Mo} (hM:MemAt w M):¬mfoot M f:=fun hx=>(hM.ty hx).apart (blk_ty h) (by decide)
theorem sync_any (k:Int) (w:World):Calls Tryz.prog 51 #[.int .i64 k] w fun e w'=>e=.returned (ptr w.heap.size)∧WtAt w' w.heap.size ⟨k,0,0,0⟩∧Below w.heap.size w w':=by
 go_enter Tryz.func51,Tryz.ntmps51
 go_wp2
 go_ret
 exact ⟨rfl,Blk.made w _ _,(Below.refl _ _).alloc (Nat.le_refl _) _⟩
section
variable {w:World} {M:Mo} {f:Nat} {W:Wt}
theorem load_at (hM:MemAt w M) (k:Nat) (hk:2+k<M.xs.length):
 Calls Tryz.prog 54 #[ptr M.g,.int .i64 (2+(k:Int))] w fun e w'=>e=.returned (.tuple #[.int .u64 (Cl.nth M.xs (2+k)),.int .i64 0])∧w'=w:=by
 have:=Cl.load_in hM.2.1 (2+k) hk
 rw [Int.natCast_add] at this
 exact this
theorem pass_any (hM:MemAt w M) (hf:WtAt w f W) (hk:2+W.passed<M.xs.length) (hp:W.passed≤1000):
 Calls Tryz.prog 218 #[ptr f,ptr M.m] w fun e w'=>e=.returned (.bool (passB M.xs W))∧∃ n,w'=w.drewN n:=by
 have hL:=Lib.hid (fun nq=>load_at (hM.drewN nq) W.passed hk)
 have hlen:=hM.2.1.2.2.2
 have hbd:=Cl.getD_bd hM.2.1.2.2.1 (2+W.passed)
 obtain ⟨c0,c1,c2,c3⟩:=hf.hd
 have d0:=hM.hd.1
 have hpb:passB M.xs W=decide (Cl.nth M.xs (2+W.passed)=0∨W.period≤Cl.nth M.xs (2+W.passed)):=rfl
 rw [hpb]
 clear hpb
 generalize Cl.nth M.xs (2+W.passed)=z at*
 clear hM hf
 go_enter Tryz.func218,Tryz.ntmps218
 go_wp2
 go_quiet (first
  | (go_at_call 47; exact Calls.quiet_of_same ((counter_any _ _ (by omega) (by omega)).mono fun _ _ h=>⟨h.1,h.2.symm⟩))
  | (go_at_call 54; exact Calls.quiet_of_same (hL.out _)))
 by_cases hz:z=0
 · subst hz
   go_wp2
   go_ret
   exact ⟨rfl,_,rfl⟩
 · have hz':(z==0)=false:=by simpa using hz
   go_wp2
   go_ret
   refine ⟨K.ret_bool ?_,_,rfl⟩
   simp [hz]
theorem in_any (hM:MemAt w M) (k:Nat) (hk:2+k<M.xs.length) (hp:k≤1000):
 Calls Tryz.prog 120 #[ptr M.m,.int .i64 k] w fun e w'=>e=.returned (.bool (decide (Cl.nth M.xs (2+k)≠0)))∧∃ n,w'=w.drewN n:=by
 have hL:=Lib.hid (fun nq=>load_at (hM.drewN nq) k hk)
 have hbd:=Cl.getD_bd hM.2.1.2.2.1 (2+k)
 have d0:=hM.hd.1
 generalize Cl.nth M.xs (2+k)=z at*
 clear hM
 go_enter Tryz.func120,Tryz.ntmps120
 go_wp2
 go_quiet (first
  | (go_at_call 47; exact Calls.quiet_of_same ((counter_any _ _ (by omega) (by omega)).mono fun _ _ h=>⟨h.1,h.2.symm⟩))
  | (go_at_call 54; exact Calls.quiet_of_same (hL.out _)))
 go_wp2
 go_ret
 refine ⟨K.ret_bool ?_,_,rfl⟩
 by_cases hz:z=0<;>simp [hz]
theorem mayTake_any (hM:MemAt w M) (hf:WtAt w f W) (hk:0<M.hs.length):
 Calls Tryz.prog 217 #[ptr f,ptr M.m] w fun e w'=>e=.returned (.bool (takeB M.hs W))∧w=w':=by
 have hL:=Lib.hid (Lo.holder_in hM.2.2.1 0 hk)
 have hb:=Lo.hol_bd hM.2.2.1.2.2.1 0
 obtain ⟨c0,c1,c2,c3⟩:=hf.hd
 have d1:=hM.hd.2.1
 have hpb:takeB M.hs W=decide (0≤W.worker∧Lo.hol M.hs 0= -1):=rfl
 rw [hpb]
 clear hpb
 generalize Lo.hol M.hs 0=z at*
 clear hM hf
 by_cases hw:0≤W.worker
 · go_enter Tryz.func217,Tryz.ntmps217
   go_wp2_with (go_at_call 79; refine hL.out.mono ?_; rintro e w' ⟨rfl,rfl⟩)
   go_ret
   refine ⟨K.ret_bool ?_,rfl⟩
   by_cases hz:z= -1<;>simp [hz,hw]
 · have hw':decide (0≤W.worker)=false:=by simpa using hw
   go_enter Tryz.func217,Tryz.ntmps217
   go_wp2_with fail
   go_ret
   refine ⟨K.ret_bool ?_,rfl⟩
   simp [hw]
theorem ready_any (hM:MemAt w M) (hf:WtAt w f W) (hk:0<M.hs.length) (hp:W.at_=2→2+W.passed<M.xs.length∧W.passed≤1000) (ha:W.at_≤1000):
 Calls Tryz.prog 214 #[ptr f,ptr M.m] w fun e w'=>e=.returned (.bool (readyB M.xs M.hs W))∧∃ n,w'=w.drewN n:=by
 obtain ⟨c0,c1,c2,c3⟩:=hf.hd
 unfold readyB
 by_cases h0:W.at_=0
 · have hT:=Lib.hid (mayTake_any hM hf hk)
   rw [if_pos h0]
   rw [h0] at c1
   generalize takeB M.hs W=z at*
   clear hM hf hp ha
   go_enter Tryz.func214,Tryz.ntmps214
   go_wp2_with (go_at_call 217; refine hT.out.mono ?_; rintro e w' ⟨rfl,rfl⟩)
   go_ret
   exact ⟨rfl,0,rfl⟩
 · rw [if_neg h0]
   by_cases h2:W.at_=2
   · have hT:=Lib.hid (pass_any hM hf (hp h2).1 (hp h2).2)
     rw [if_pos h2]
     rw [h2] at c1
     generalize passB M.xs W=z at*
     clear hM hf hp ha h0
     go_enter Tryz.func214,Tryz.ntmps214
     go_wp2_with (go_at_call 218; refine hT.out.mono ?_; rintro e w' ⟨rfl,n,rfl⟩)
     go_ret
     exact ⟨rfl,_,rfl⟩
   · rw [if_neg h2]
     have e0:((W.at_:Int)==0)=false:=by rw [beq_eq_false_iff_ne]; omega
     have e2:((W.at_:Int)==2)=false:=by rw [beq_eq_false_iff_ne]; omega
     generalize W.at_=z at*
     clear hM hf hp h0 h2
     go_enter Tryz.func214,Tryz.ntmps214
     go_wp2_with fail
     go_ret
     exact ⟨rfl,0,rfl⟩
theorem goOn_Wait {n F at_ sb:Nat} {m:Value} {c:Bool} {P:World→Prop} (hn:n≤10) (ha:at_<n) (h1:w.cell? ⟨f,1,none⟩=some (.int .i64 at_)) (h2:w.cell? ⟨sb,at_,none⟩=some (.func (.func F) #[] #[]))
 (eF:∀ args w,(callFunc F args).run Tryz.prog w=.ok (.enter F args) w) (hF:Calls Tryz.prog F #[ptr f,m] w fun e w'=>e=.returned (.bool c)∧P w') (hP:∀ w',P w'→w'.cell? ⟨f,1,none⟩=some (.int .i64 at_)∧w'.frozen? ⟨f,1,none⟩=false):
 Calls Tryz.prog 219 #[ptr f,m,.pointer (some ⟨f,1,none⟩),.slice (some ⟨sb,0,none⟩) n n] w fun e w'=>
  e=.returned (.bool (decide ((if c=true then at_+1 else at_)=n)))∧∃ w1,P w1∧w'=if c=true then w1.setCell ⟨f,1,none⟩ (.int .i64 ((at_+1:Nat):Int)) else w1:=by
 have h3:¬(n≤at_):=by omega
 have h4:decide ((at_:Int)<(n:Int))=true:=by simp; omega
 replace hF:=Lib.hid hF
 replace hP:=Lib.hid hP
 cases c with
 | true=>
   go_enter Tryz.func219,Tryz.ntmps219
   go_wp2_with fail
   refine hF.out.mono ?_
   rintro e w' ⟨rfl,hPw⟩
   obtain ⟨k1,k2⟩:=hP.out w' hPw
   replace hPw:=Lib.hid hPw
   clear h1 h2
   go_wp2_with fail
   go_ret
   refine ⟨K.ret_bool ?_,w',hPw.out,by simp⟩
   by_cases e:at_+1=n
   · have e':(at_:Int)+1=(n:Int):=by omega
     simp [e,e']
   · have e':¬(at_:Int)+1=(n:Int):=by omega
     simp [e,e']
 | false=>
   go_enter Tryz.func219,Tryz.ntmps219
   go_wp2_with fail
   refine hF.out.mono ?_
   rintro e w' ⟨rfl,hPw⟩
   obtain ⟨k1,k2⟩:=hP.out w' hPw
   replace hPw:=Lib.hid hPw
   clear h1 h2
   go_wp2_with fail
   go_ret
   refine ⟨K.ret_bool ?_,hPw.out⟩
   have e:¬at_=n:=by omega
   have e':¬(at_:Int)=(n:Int):=by omega
   simp [e,e']
theorem goOn_Going {n F at_ sb:Nat} {m:Value} {c:Bool} {P:World→Prop} (hn:n≤10) (ha:at_<n) (h1:w.cell? ⟨f,1,none⟩=some (.int .i64 at_)) (h2:w.cell? ⟨sb,at_,none⟩=some (.func (.func F) #[] #[]))
 (eF:∀ args w,(callFunc F args).run Tryz.prog w=.ok (.enter F args) w) (hF:Calls Tryz.prog F #[ptr f,m] w fun e w'=>e=.returned (.bool c)∧P w') (hP:∀ w',P w'→w'.cell? ⟨f,1,none⟩=some (.int .i64 at_)∧w'.frozen? ⟨f,1,none⟩=false):
 Calls Tryz.prog 194 #[ptr f,m,.pointer (some ⟨f,1,none⟩),.slice (some ⟨sb,0,none⟩) n n] w fun e w'=>
  e=.returned (.bool (decide ((if c=true then at_+1 else at_)=n)))∧∃ w1,P w1∧w'=if c=true then w1.setCell ⟨f,1,none⟩ (.int .i64 ((at_+1:Nat):Int)) else w1:=by
 have h3:¬(n≤at_):=by omega
 have h4:decide ((at_:Int)<(n:Int))=true:=by simp; omega
 replace hF:=Lib.hid hF
 replace hP:=Lib.hid hP
 cases c with
 | true=>
   go_enter Tryz.func194,Tryz.ntmps194
   go_wp2_with fail
   refine hF.out.mono ?_
   rintro e w' ⟨rfl,hPw⟩
   obtain ⟨k1,k2⟩:=hP.out w' hPw
   replace hPw:=Lib.hid hPw
   clear h1 h2
   go_wp2_with fail
   go_ret
   refine ⟨K.ret_bool ?_,w',hPw.out,by simp⟩
   by_cases e:at_+1=n
   · have e':(at_:Int)+1=(n:Int):=by omega
     simp [e,e']
   · have e':¬(at_:Int)+1=(n:Int):=by omega
     simp [e,e']
 | false=>
   go_enter Tryz.func194,Tryz.ntmps194
   go_wp2_with fail
   refine hF.out.mono ?_
   rintro e w' ⟨rfl,hPw⟩
   obtain ⟨k1,k2⟩:=hP.out w' hPw
   replace hPw:=Lib.hid hPw
   clear h1 h2
   go_wp2_with fail
   go_ret
   refine ⟨K.ret_bool ?_,hPw.out⟩
   have e:¬at_=n:=by omega
   have e':¬(at_:Int)=(n:Int):=by omega
   simp [e,e']
theorem goOn_Coming {n F at_ sb:Nat} {m:Value} {c:Bool} {P:World→Prop} (hn:n≤10) (ha:at_<n) (h1:w.cell? ⟨f,1,none⟩=some (.int .i64 at_)) (h2:w.cell? ⟨sb,at_,none⟩=some (.func (.func F) #[] #[]))
 (eF:∀ args w,(callFunc F args).run Tryz.prog w=.ok (.enter F args) w) (hF:Calls Tryz.prog F #[ptr f,m] w fun e w'=>e=.returned (.bool c)∧P w') (hP:∀ w',P w'→w'.cell? ⟨f,1,none⟩=some (.int .i64 at_)∧w'.frozen? ⟨f,1,none⟩=false):
 Calls Tryz.prog 154 #[ptr f,m,.pointer (some ⟨f,1,none⟩),.slice (some ⟨sb,0,none⟩) n n] w fun e w'=>
  e=.returned (.bool (decide ((if c=true then at_+1 else at_)=n)))∧∃ w1,P w1∧w'=if c=true then w1.setCell ⟨f,1,none⟩ (.int .i64 ((at_+1:Nat):Int)) else w1:=by
 have h3:¬(n≤at_):=by omega
 have h4:decide ((at_:Int)<(n:Int))=true:=by simp; omega
 replace hF:=Lib.hid hF
 replace hP:=Lib.hid hP
 cases c with
 | true=>
   go_enter Tryz.func154,Tryz.ntmps154
   go_wp2_with fail
   refine hF.out.mono ?_
   rintro e w' ⟨rfl,hPw⟩
   obtain ⟨k1,k2⟩:=hP.out w' hPw
   replace hPw:=Lib.hid hPw
   clear h1 h2
   go_wp2_with fail
   go_ret
   refine ⟨K.ret_bool ?_,w',hPw.out,by simp⟩
   by_cases e:at_+1=n
   · have e':(at_:Int)+1=(n:Int):=by omega
     simp [e,e']
   · have e':¬(at_:Int)+1=(n:Int):=by omega
     simp [e,e']
 | false=>
   go_enter Tryz.func154,Tryz.ntmps154
   go_wp2_with fail
   refine hF.out.mono ?_
   rintro e w' ⟨rfl,hPw⟩
   obtain ⟨k1,k2⟩:=hP.out w' hPw
   replace hPw:=Lib.hid hPw
   clear h1 h2
   go_wp2_with fail
   go_ret
   refine ⟨K.ret_bool ?_,hPw.out⟩
   have e:¬at_=n:=by omega
   have e':¬(at_:Int)=(n:Int):=by omega
   simp [e,e']
end
end Go.Proofs.YtpobbnllcoabhaaGreat.Qs
