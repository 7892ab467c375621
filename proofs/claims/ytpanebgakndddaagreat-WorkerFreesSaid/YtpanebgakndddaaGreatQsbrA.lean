/- A part. -/
import Derived.Test.YtpanebgakndddaaGreatMemNew
import Derived.Deep.RegionHeld3
set_option linter.unusedVariables false
set_option linter.unusedSimpArgs false
namespace Go.Proofs.YtpanebgakndddaaGreat.Qs
open Go Go.RowKit Hp K Fl Rw Hm Ar Mm Me
set_option maxRecDepth 100000
structure Wt where
 worker:Int
 at_:Nat
 period:Int
 bm:Nat
def ui (W:Wt):Array Value:=#[.int .i64 W.worker,.int .i64 W.at_,.int .u64 W.period,.int .i64 W.bm]
def cZ (w:World) (f:Nat) (W:Wt):Prop:=af w f 157 (ui W)
def oK (xs:List Int) (W:Wt):Bool:=decide (Cl.nth xs (2+W.bm)=0\/W.period<=Cl.nth xs (2+W.bm))
def pH (hs:List Int) (W:Wt):Bool:=decide (0<=W.worker/\Lo.aE hs 0= -1)
def fQ (xs hs:List Int) (W:Wt):Bool:=if W.at_=0 then pH hs W else if W.at_=2 then oK xs W else true
theorem cZ.hd {w:World} {f:Nat} {W:Wt} (h:cZ w f W):w.cell? ⟨f,0,none⟩=some (.int .i64 W.worker)/\w.cell? ⟨f,1,none⟩=some (.int .i64 W.at_)/\w.cell? ⟨f,2,none⟩=some (.int .u64 W.period)/\w.cell? ⟨f,3,none⟩=some (.int .i64 W.bm):=
 ⟨h.cell 0,h.cell 1,h.cell 2,h.cell 3⟩
theorem cZ.aA {w:World} {f:Nat} {W:Wt} (h:cZ w f W) {M:Mo} (hM:ah w M):¬ao M f:=fun hx=>(hM.ty hx).apart (aV h) (by decide)
theorem yD (k:Int) (w:World):Calls Tryz.prog 54 #[.int .i64 k] w fun e w'=>e=.returned (ptr w.heap.size)/\cZ w' w.heap.size ⟨k,0,0,0⟩/\Below w.heap.size w w':=by
 go_enter Tryz.func54,Tryz.ntmps54
 go_wp2
 go_ret
 exact ⟨rfl,af.made w _ _,(Below.refl _ _).alloc (Nat.le_refl _) _⟩
section
variable {w:World} {M:Mo} {f:Nat} {W:Wt}
theorem Ig (hM:ah w M) (k:Nat) (hk:2+k<M.xs.length):
 Calls Tryz.prog 90 #[ptr M.g,.int .i64 (2+(k:Int))] w fun e w'=>e=.returned (.tuple #[.int .u64 (Cl.nth M.xs (2+k)),.int .i64 0])/\w'=w:=by
 have:=Cl.mM hM.2.1 (2+k) hk
 rw [Int.natCast_add] at this
 exact this
theorem Ih (hM:ah w M) (hf:cZ w f W) (hk:2+W.bm<M.xs.length) (hp:W.bm<=1000):
 Calls Tryz.prog 72 #[ptr f,ptr M.m] w fun e w'=>e=.returned (.bool (oK M.xs W))/\∃ n,w'=w.drewN n:=by
 have hL:=Lib.hid (fun nq=>Ig (hM.drewN nq) W.bm hk)
 have hlen:=hM.2.1.2.2.2
 have iy:=Cl.eX hM.2.1.2.2.1 (2+W.bm)
 obtain ⟨c0,c1,c2,c3⟩:=hf.hd
 have d0:=hM.hd.1
 have ka:oK M.xs W=decide (Cl.nth M.xs (2+W.bm)=0\/W.period<=Cl.nth M.xs (2+W.bm)):=rfl
 rw [ka]
 clear ka
 generalize Cl.nth M.xs (2+W.bm)=z at*
 clear hM hf
 go_enter Tryz.func72,Tryz.ntmps72
 go_wp2
 go_quiet (first
  | (go_at_call 43; exact Calls.quiet_of_same ((wb _ _ (by omega) (by omega)).mono fun _ _ h=>⟨h.1,h.2.symm⟩))
  | (go_at_call 90; exact Calls.quiet_of_same (hL.out _)))
 by_cases hz:z=0
 ·subst hz
  go_wp2
  go_ret
  exact ⟨rfl,_,rfl⟩
 ·have XA:(z==0)=false:=by simpa using hz
  go_wp2
  go_ret
  refine ⟨K.je ?_,_,rfl⟩
  simp [hz]
theorem Hz (hM:ah w M) (k:Nat) (hk:2+k<M.xs.length) (hp:k<=1000):
 Calls Tryz.prog 152 #[ptr M.m,.int .i64 k] w fun e w'=>e=.returned (.bool (decide (Cl.nth M.xs (2+k)≠0)))/\∃ n,w'=w.drewN n:=by
 have hL:=Lib.hid (fun nq=>Ig (hM.drewN nq) k hk)
 have iy:=Cl.eX hM.2.1.2.2.1 (2+k)
 have d0:=hM.hd.1
 generalize Cl.nth M.xs (2+k)=z at*
 clear hM
 go_enter Tryz.func152,Tryz.ntmps152
 go_wp2
 go_quiet (first
  | (go_at_call 43; exact Calls.quiet_of_same ((wb _ _ (by omega) (by omega)).mono fun _ _ h=>⟨h.1,h.2.symm⟩))
  | (go_at_call 90; exact Calls.quiet_of_same (hL.out _)))
 go_wp2
 go_ret
 refine ⟨K.je ?_,_,rfl⟩
 by_cases hz:z=0<;>simp [hz]
theorem we (hM:ah w M) (hf:cZ w f W) (hk:0<M.hs.length):
 Calls Tryz.prog 71 #[ptr f,ptr M.m] w fun e w'=>e=.returned (.bool (pH M.hs W))/\w=w':=by
 have hL:=Lib.hid (Lo.tC hM.2.2.1 0 hk)
 have hb:=Lo.yN hM.2.2.1.2.2.1 0
 obtain ⟨c0,c1,c2,c3⟩:=hf.hd
 have d1:=hM.hd.2.1
 have ka:pH M.hs W=decide (0<=W.worker/\Lo.aE M.hs 0= -1):=rfl
 rw [ka]
 clear ka
 generalize Lo.aE M.hs 0=z at*
 clear hM hf
 by_cases hw:0<=W.worker
 ·go_enter Tryz.func71,Tryz.ntmps71
  go_wp2_with (go_at_call 97; refine hL.out.mono ?_; rintro e w' ⟨rfl,rfl⟩)
  go_ret
  refine ⟨K.je ?_,rfl⟩
  by_cases hz:z= -1<;>simp [hz,hw]
 ·have DY:decide (0<=W.worker)=false:=by simpa using hw
  go_enter Tryz.func71,Tryz.ntmps71
  go_wp2_with fail
  go_ret
  refine ⟨K.je ?_,rfl⟩
  simp [hw]
theorem oC (hM:ah w M) (hf:cZ w f W) (hk:0<M.hs.length) (hp:W.at_=2->2+W.bm<M.xs.length/\W.bm<=1000) (ha:W.at_<=1000):
 Calls Tryz.prog 56 #[ptr f,ptr M.m] w fun e w'=>e=.returned (.bool (fQ M.xs M.hs W))/\∃ n,w'=w.drewN n:=by
 obtain ⟨c0,c1,c2,c3⟩:=hf.hd
 unfold fQ
 by_cases h0:W.at_=0
 ·have hT:=Lib.hid (we hM hf hk)
  rw [if_pos h0]
  rw [h0] at c1
  generalize pH M.hs W=z at*
  clear hM hf hp ha
  go_enter Tryz.func56,Tryz.ntmps56
  go_wp2_with (go_at_call 71; refine hT.out.mono ?_; rintro e w' ⟨rfl,rfl⟩)
  go_ret
  exact ⟨rfl,0,rfl⟩
 ·rw [if_neg h0]
  by_cases h2:W.at_=2
  ·have hT:=Lib.hid (Ih hM hf (hp h2).1 (hp h2).2)
   rw [if_pos h2]
   rw [h2] at c1
   generalize oK M.xs W=z at*
   clear hM hf hp ha h0
   go_enter Tryz.func56,Tryz.ntmps56
   go_wp2_with (go_at_call 72; refine hT.out.mono ?_; rintro e w' ⟨rfl,n,rfl⟩)
   go_ret
   exact ⟨rfl,_,rfl⟩
  ·rw [if_neg h2]
   have e0:((W.at_:Int)==0)=false:=by rw [beq_eq_false_iff_ne]; omega
   have e2:((W.at_:Int)==2)=false:=by rw [beq_eq_false_iff_ne]; omega
   generalize W.at_=z at*
   clear hM hf hp h0 h2
   go_enter Tryz.func56,Tryz.ntmps56
   go_wp2_with fail
   go_ret
   exact ⟨rfl,0,rfl⟩
theorem RU {n F at_ sb:Nat} {m:Value} {c:Bool} {P:World->Prop} (hn:n<=10) (ha:at_<n) (h1:w.cell? ⟨f,1,none⟩=some (.int .i64 at_)) (h2:w.cell? ⟨sb,at_,none⟩=some (.func (.func F) #[] #[]))
 (eF:∀ args w,(callFunc F args).run Tryz.prog w=.ok (.enter F args) w) (hF:Calls Tryz.prog F #[ptr f,m] w fun e w'=>e=.returned (.bool c)/\P w') (hP:∀ w',P w'->w'.cell? ⟨f,1,none⟩=some (.int .i64 at_)/\w'.frozen? ⟨f,1,none⟩=false):
 Calls Tryz.prog 99 #[ptr f,m,.pointer (some ⟨f,1,none⟩),.slice (some ⟨sb,0,none⟩) n n] w fun e w'=>
  e=.returned (.bool (decide ((if c=true then at_+1 else at_)=n)))/\∃ w1,P w1/\w'=if c=true then w1.setCell ⟨f,1,none⟩ (.int .i64 ((at_+1:Nat):Int)) else w1:=by
 have h3:¬(n<=at_):=by omega
 have h4:decide ((at_:Int)<(n:Int))=true:=by simp; omega
 replace hF:=Lib.hid hF
 replace hP:=Lib.hid hP
 cases c with
 | true=>
   go_enter Tryz.func99,Tryz.ntmps99
   go_wp2_with fail
   refine hF.out.mono ?_
   rintro e w' ⟨rfl,bj⟩
   obtain ⟨k1,k2⟩:=hP.out w' bj
   replace bj:=Lib.hid bj
   clear h1 h2
   go_wp2_with fail
   go_ret
   refine ⟨K.je ?_,w',bj.out,by simp⟩
   by_cases e:at_+1=n
   ·have e':(at_:Int)+1=(n:Int):=by omega
    simp [e,e']
   ·have e':¬(at_:Int)+1=(n:Int):=by omega
    simp [e,e']
 | false=>
   go_enter Tryz.func99,Tryz.ntmps99
   go_wp2_with fail
   refine hF.out.mono ?_
   rintro e w' ⟨rfl,bj⟩
   obtain ⟨k1,k2⟩:=hP.out w' bj
   replace bj:=Lib.hid bj
   clear h1 h2
   go_wp2_with fail
   go_ret
   refine ⟨K.je ?_,bj.out⟩
   have e:¬at_=n:=by omega
   have e':¬(at_:Int)=(n:Int):=by omega
   simp [e,e']
theorem RV {n F at_ sb:Nat} {m:Value} {c:Bool} {P:World->Prop} (hn:n<=10) (ha:at_<n) (h1:w.cell? ⟨f,1,none⟩=some (.int .i64 at_)) (h2:w.cell? ⟨sb,at_,none⟩=some (.func (.func F) #[] #[]))
 (eF:∀ args w,(callFunc F args).run Tryz.prog w=.ok (.enter F args) w) (hF:Calls Tryz.prog F #[ptr f,m] w fun e w'=>e=.returned (.bool c)/\P w') (hP:∀ w',P w'->w'.cell? ⟨f,1,none⟩=some (.int .i64 at_)/\w'.frozen? ⟨f,1,none⟩=false):
 Calls Tryz.prog 226 #[ptr f,m,.pointer (some ⟨f,1,none⟩),.slice (some ⟨sb,0,none⟩) n n] w fun e w'=>
  e=.returned (.bool (decide ((if c=true then at_+1 else at_)=n)))/\∃ w1,P w1/\w'=if c=true then w1.setCell ⟨f,1,none⟩ (.int .i64 ((at_+1:Nat):Int)) else w1:=by
 have h3:¬(n<=at_):=by omega
 have h4:decide ((at_:Int)<(n:Int))=true:=by simp; omega
 replace hF:=Lib.hid hF
 replace hP:=Lib.hid hP
 cases c with
 | true=>
   go_enter Tryz.func226,Tryz.ntmps226
   go_wp2_with fail
   refine hF.out.mono ?_
   rintro e w' ⟨rfl,bj⟩
   obtain ⟨k1,k2⟩:=hP.out w' bj
   replace bj:=Lib.hid bj
   clear h1 h2
   go_wp2_with fail
   go_ret
   refine ⟨K.je ?_,w',bj.out,by simp⟩
   by_cases e:at_+1=n
   ·have e':(at_:Int)+1=(n:Int):=by omega
    simp [e,e']
   ·have e':¬(at_:Int)+1=(n:Int):=by omega
    simp [e,e']
 | false=>
   go_enter Tryz.func226,Tryz.ntmps226
   go_wp2_with fail
   refine hF.out.mono ?_
   rintro e w' ⟨rfl,bj⟩
   obtain ⟨k1,k2⟩:=hP.out w' bj
   replace bj:=Lib.hid bj
   clear h1 h2
   go_wp2_with fail
   go_ret
   refine ⟨K.je ?_,bj.out⟩
   have e:¬at_=n:=by omega
   have e':¬(at_:Int)=(n:Int):=by omega
   simp [e,e']
theorem RW {n F at_ sb:Nat} {m:Value} {c:Bool} {P:World->Prop} (hn:n<=10) (ha:at_<n) (h1:w.cell? ⟨f,1,none⟩=some (.int .i64 at_)) (h2:w.cell? ⟨sb,at_,none⟩=some (.func (.func F) #[] #[]))
 (eF:∀ args w,(callFunc F args).run Tryz.prog w=.ok (.enter F args) w) (hF:Calls Tryz.prog F #[ptr f,m] w fun e w'=>e=.returned (.bool c)/\P w') (hP:∀ w',P w'->w'.cell? ⟨f,1,none⟩=some (.int .i64 at_)/\w'.frozen? ⟨f,1,none⟩=false):
 Calls Tryz.prog 192 #[ptr f,m,.pointer (some ⟨f,1,none⟩),.slice (some ⟨sb,0,none⟩) n n] w fun e w'=>
  e=.returned (.bool (decide ((if c=true then at_+1 else at_)=n)))/\∃ w1,P w1/\w'=if c=true then w1.setCell ⟨f,1,none⟩ (.int .i64 ((at_+1:Nat):Int)) else w1:=by
 have h3:¬(n<=at_):=by omega
 have h4:decide ((at_:Int)<(n:Int))=true:=by simp; omega
 replace hF:=Lib.hid hF
 replace hP:=Lib.hid hP
 cases c with
 | true=>
   go_enter Tryz.func192,Tryz.ntmps192
   go_wp2_with fail
   refine hF.out.mono ?_
   rintro e w' ⟨rfl,bj⟩
   obtain ⟨k1,k2⟩:=hP.out w' bj
   replace bj:=Lib.hid bj
   clear h1 h2
   go_wp2_with fail
   go_ret
   refine ⟨K.je ?_,w',bj.out,by simp⟩
   by_cases e:at_+1=n
   ·have e':(at_:Int)+1=(n:Int):=by omega
    simp [e,e']
   ·have e':¬(at_:Int)+1=(n:Int):=by omega
    simp [e,e']
 | false=>
   go_enter Tryz.func192,Tryz.ntmps192
   go_wp2_with fail
   refine hF.out.mono ?_
   rintro e w' ⟨rfl,bj⟩
   obtain ⟨k1,k2⟩:=hP.out w' bj
   replace bj:=Lib.hid bj
   clear h1 h2
   go_wp2_with fail
   go_ret
   refine ⟨K.je ?_,bj.out⟩
   have e:¬at_=n:=by omega
   have e':¬(at_:Int)=(n:Int):=by omega
   simp [e,e']
end
end Go.Proofs.YtpanebgakndddaaGreat.Qs
