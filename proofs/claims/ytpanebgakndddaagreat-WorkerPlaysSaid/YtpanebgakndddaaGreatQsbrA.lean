/- A part. -/
import Derived.Test.YtpanebgakndddaaGreatMemNew
import Derived.Deep.RegionHeld3
set_option linter.unusedVariables false
set_option linter.unusedSimpArgs false
namespace Go.Proofs.YtpanebgakndddaaGreat.Qs
open Go Go.RowKit Hp K Fl Rw Hm Ar Mm Me
set_option maxRecDepth 100000
structure Wt where
 worker:Int
 at_:Nat
 period:Int
 bF:Nat
def uE (W:Wt):Array Value:=#[.int .i64 W.worker,.int .i64 W.at_,.int .u64 W.period,.int .i64 W.bF]
def dr (w:World) (f:Nat) (W:Wt):Prop:=af w f 157 (uE W)
def pT (xs:List Int) (W:Wt):Bool:=decide (Cl.nth xs (2+W.bF)=0\/W.period<=Cl.nth xs (2+W.bF))
def qX (hs:List Int) (W:Wt):Bool:=decide (0<=W.worker/\Lo.aF hs 0= -1)
def iI (xs hs:List Int) (W:Wt):Bool:=if W.at_=0 then qX hs W else if W.at_=2 then pT xs W else true
theorem dr.hd {w:World} {f:Nat} {W:Wt} (h:dr w f W):w.cell? ⟨f,0,none⟩=some (.int .i64 W.worker)/\w.cell? ⟨f,1,none⟩=some (.int .i64 W.at_)/\w.cell? ⟨f,2,none⟩=some (.int .u64 W.period)/\w.cell? ⟨f,3,none⟩=some (.int .i64 W.bF):=
 ⟨h.cell 0,h.cell 1,h.cell 2,h.cell 3⟩
theorem dr.aB {w:World} {f:Nat} {W:Wt} (h:dr w f W) {M:Mo} (hM:ah w M):¬aq M f:=fun hx=>(hM.ty hx).apart (bm h) (by decide)
theorem CA (k:Int) (w:World):Calls Tryz.prog 54 #[.int .i64 k] w fun e w'=>e=.returned (ptr w.heap.size)/\dr w' w.heap.size ⟨k,0,0,0⟩/\Below w.heap.size w w':=by
 go_enter Tryz.func54,Tryz.ntmps54
 go_wp2
 go_ret
 exact ⟨rfl,af.made w _ _,(Below.refl _ _).alloc (Nat.le_refl _) _⟩
section
variable {w:World} {M:Mo} {f:Nat} {W:Wt}
theorem I7 (hM:ah w M) (k:Nat) (hk:2+k<M.xs.length):
 Calls Tryz.prog 90 #[ptr M.g,.int .i64 (2+(k:Int))] w fun e w'=>e=.returned (.tuple #[.int .u64 (Cl.nth M.xs (2+k)),.int .i64 0])/\w'=w:=by
 have:=Cl.nh hM.2.1 (2+k) hk
 rw [Int.natCast_add] at this
 exact this
theorem I8 (hM:ah w M) (hf:dr w f W) (hk:2+W.bF<M.xs.length) (hp:W.bF<=1000):
 Calls Tryz.prog 72 #[ptr f,ptr M.m] w fun e w'=>e=.returned (.bool (pT M.xs W))/\∃ n,w'=w.drewN n:=by
 have hL:=Lib.hid (fun nq=>I7 (hM.drewN nq) W.bF hk)
 have hlen:=hM.2.1.2.2.2
 have gH:=Cl.eU hM.2.1.2.2.1 (2+W.bF)
 obtain ⟨c0,c1,c2,c3⟩:=hf.hd
 have d0:=hM.hd.1
 have kc:pT M.xs W=decide (Cl.nth M.xs (2+W.bF)=0\/W.period<=Cl.nth M.xs (2+W.bF)):=rfl
 rw [kc]
 clear kc
 generalize Cl.nth M.xs (2+W.bF)=z at*
 clear hM hf
 go_enter Tryz.func72,Tryz.ntmps72
 go_wp2
 go_quiet (first
  | (go_at_call 43; exact Calls.quiet_of_same ((xc _ _ (by omega) (by omega)).mono fun _ _ h=>⟨h.1,h.2.symm⟩))
  | (go_at_call 90; exact Calls.quiet_of_same (hL.out _)))
 by_cases hz:z=0
 ·subst hz
  go_wp2
  go_ret
  exact ⟨rfl,_,rfl⟩
 ·have Yh:(z==0)=false:=by simpa using hz
  go_wp2
  go_ret
  refine ⟨K.kZ ?_,_,rfl⟩
  simp [hz]
theorem ID (hM:ah w M) (k:Nat) (hk:2+k<M.xs.length) (hp:k<=1000):
 Calls Tryz.prog 152 #[ptr M.m,.int .i64 k] w fun e w'=>e=.returned (.bool (decide (Cl.nth M.xs (2+k)≠0)))/\∃ n,w'=w.drewN n:=by
 have hL:=Lib.hid (fun nq=>I7 (hM.drewN nq) k hk)
 have gH:=Cl.eU hM.2.1.2.2.1 (2+k)
 have d0:=hM.hd.1
 generalize Cl.nth M.xs (2+k)=z at*
 clear hM
 go_enter Tryz.func152,Tryz.ntmps152
 go_wp2
 go_quiet (first
  | (go_at_call 43; exact Calls.quiet_of_same ((xc _ _ (by omega) (by omega)).mono fun _ _ h=>⟨h.1,h.2.symm⟩))
  | (go_at_call 90; exact Calls.quiet_of_same (hL.out _)))
 go_wp2
 go_ret
 refine ⟨K.kZ ?_,_,rfl⟩
 by_cases hz:z=0<;>simp [hz]
theorem xf (hM:ah w M) (hf:dr w f W) (hk:0<M.hs.length):
 Calls Tryz.prog 71 #[ptr f,ptr M.m] w fun e w'=>e=.returned (.bool (qX M.hs W))/\w=w':=by
 have hL:=Lib.hid (Lo.tR hM.2.2.1 0 hk)
 have hb:=Lo.zJ hM.2.2.1.2.2.1 0
 obtain ⟨c0,c1,c2,c3⟩:=hf.hd
 have d1:=hM.hd.2.1
 have kc:qX M.hs W=decide (0<=W.worker/\Lo.aF M.hs 0= -1):=rfl
 rw [kc]
 clear kc
 generalize Lo.aF M.hs 0=z at*
 clear hM hf
 by_cases hw:0<=W.worker
 ·go_enter Tryz.func71,Tryz.ntmps71
  go_wp2_with (go_at_call 97; refine hL.out.mono ?_; rintro e w' ⟨rfl,rfl⟩)
  go_ret
  refine ⟨K.kZ ?_,rfl⟩
  by_cases hz:z= -1<;>simp [hz,hw]
 ·have yc:decide (0<=W.worker)=false:=by simpa using hw
  go_enter Tryz.func71,Tryz.ntmps71
  go_wp2_with fail
  go_ret
  refine ⟨K.kZ ?_,rfl⟩
  simp [hw]
theorem pM (hM:ah w M) (hf:dr w f W) (hk:0<M.hs.length) (hp:W.at_=2->2+W.bF<M.xs.length/\W.bF<=1000) (ha:W.at_<=1000):
 Calls Tryz.prog 56 #[ptr f,ptr M.m] w fun e w'=>e=.returned (.bool (iI M.xs M.hs W))/\∃ n,w'=w.drewN n:=by
 obtain ⟨c0,c1,c2,c3⟩:=hf.hd
 unfold iI
 by_cases h0:W.at_=0
 ·have hT:=Lib.hid (xf hM hf hk)
  rw [if_pos h0]
  rw [h0] at c1
  generalize qX M.hs W=z at*
  clear hM hf hp ha
  go_enter Tryz.func56,Tryz.ntmps56
  go_wp2_with (go_at_call 71; refine hT.out.mono ?_; rintro e w' ⟨rfl,rfl⟩)
  go_ret
  exact ⟨rfl,0,rfl⟩
 ·rw [if_neg h0]
  by_cases h2:W.at_=2
  ·have hT:=Lib.hid (I8 hM hf (hp h2).1 (hp h2).2)
   rw [if_pos h2]
   rw [h2] at c1
   generalize pT M.xs W=z at*
   clear hM hf hp ha h0
   go_enter Tryz.func56,Tryz.ntmps56
   go_wp2_with (go_at_call 72; refine hT.out.mono ?_; rintro e w' ⟨rfl,n,rfl⟩)
   go_ret
   exact ⟨rfl,_,rfl⟩
  ·rw [if_neg h2]
   have e0:((W.at_:Int)==0)=false:=by rw [beq_eq_false_iff_ne]; omega
   have e2:((W.at_:Int)==2)=false:=by rw [beq_eq_false_iff_ne]; omega
   generalize W.at_=z at*
   clear hM hf hp h0 h2
   go_enter Tryz.func56,Tryz.ntmps56
   go_wp2_with fail
   go_ret
   exact ⟨rfl,0,rfl⟩
theorem SS {n F at_ sb:Nat} {m:Value} {c:Bool} {P:World->Prop} (hn:n<=10) (ha:at_<n) (h1:w.cell? ⟨f,1,none⟩=some (.int .i64 at_)) (h2:w.cell? ⟨sb,at_,none⟩=some (.func (.func F) #[] #[]))
 (eF:∀ args w,(callFunc F args).run Tryz.prog w=.ok (.enter F args) w) (hF:Calls Tryz.prog F #[ptr f,m] w fun e w'=>e=.returned (.bool c)/\P w') (hP:∀ w',P w'->w'.cell? ⟨f,1,none⟩=some (.int .i64 at_)/\w'.frozen? ⟨f,1,none⟩=false):
 Calls Tryz.prog 99 #[ptr f,m,.pointer (some ⟨f,1,none⟩),.slice (some ⟨sb,0,none⟩) n n] w fun e w'=>
  e=.returned (.bool (decide ((if c=true then at_+1 else at_)=n)))/\∃ w1,P w1/\w'=if c=true then w1.setCell ⟨f,1,none⟩ (.int .i64 ((at_+1:Nat):Int)) else w1:=by
 have h3:¬(n<=at_):=by omega
 have h4:decide ((at_:Int)<(n:Int))=true:=by simp; omega
 replace hF:=Lib.hid hF
 replace hP:=Lib.hid hP
 cases c with
 | true=>
   go_enter Tryz.func99,Tryz.ntmps99
   go_wp2_with fail
   refine hF.out.mono ?_
   rintro e w' ⟨rfl,bq⟩
   obtain ⟨k1,k2⟩:=hP.out w' bq
   replace bq:=Lib.hid bq
   clear h1 h2
   go_wp2_with fail
   go_ret
   refine ⟨K.kZ ?_,w',bq.out,by simp⟩
   by_cases e:at_+1=n
   ·have e':(at_:Int)+1=(n:Int):=by omega
    simp [e,e']
   ·have e':¬(at_:Int)+1=(n:Int):=by omega
    simp [e,e']
 | false=>
   go_enter Tryz.func99,Tryz.ntmps99
   go_wp2_with fail
   refine hF.out.mono ?_
   rintro e w' ⟨rfl,bq⟩
   obtain ⟨k1,k2⟩:=hP.out w' bq
   replace bq:=Lib.hid bq
   clear h1 h2
   go_wp2_with fail
   go_ret
   refine ⟨K.kZ ?_,bq.out⟩
   have e:¬at_=n:=by omega
   have e':¬(at_:Int)=(n:Int):=by omega
   simp [e,e']
theorem SU {n F at_ sb:Nat} {m:Value} {c:Bool} {P:World->Prop} (hn:n<=10) (ha:at_<n) (h1:w.cell? ⟨f,1,none⟩=some (.int .i64 at_)) (h2:w.cell? ⟨sb,at_,none⟩=some (.func (.func F) #[] #[]))
 (eF:∀ args w,(callFunc F args).run Tryz.prog w=.ok (.enter F args) w) (hF:Calls Tryz.prog F #[ptr f,m] w fun e w'=>e=.returned (.bool c)/\P w') (hP:∀ w',P w'->w'.cell? ⟨f,1,none⟩=some (.int .i64 at_)/\w'.frozen? ⟨f,1,none⟩=false):
 Calls Tryz.prog 226 #[ptr f,m,.pointer (some ⟨f,1,none⟩),.slice (some ⟨sb,0,none⟩) n n] w fun e w'=>
  e=.returned (.bool (decide ((if c=true then at_+1 else at_)=n)))/\∃ w1,P w1/\w'=if c=true then w1.setCell ⟨f,1,none⟩ (.int .i64 ((at_+1:Nat):Int)) else w1:=by
 have h3:¬(n<=at_):=by omega
 have h4:decide ((at_:Int)<(n:Int))=true:=by simp; omega
 replace hF:=Lib.hid hF
 replace hP:=Lib.hid hP
 cases c with
 | true=>
   go_enter Tryz.func226,Tryz.ntmps226
   go_wp2_with fail
   refine hF.out.mono ?_
   rintro e w' ⟨rfl,bq⟩
   obtain ⟨k1,k2⟩:=hP.out w' bq
   replace bq:=Lib.hid bq
   clear h1 h2
   go_wp2_with fail
   go_ret
   refine ⟨K.kZ ?_,w',bq.out,by simp⟩
   by_cases e:at_+1=n
   ·have e':(at_:Int)+1=(n:Int):=by omega
    simp [e,e']
   ·have e':¬(at_:Int)+1=(n:Int):=by omega
    simp [e,e']
 | false=>
   go_enter Tryz.func226,Tryz.ntmps226
   go_wp2_with fail
   refine hF.out.mono ?_
   rintro e w' ⟨rfl,bq⟩
   obtain ⟨k1,k2⟩:=hP.out w' bq
   replace bq:=Lib.hid bq
   clear h1 h2
   go_wp2_with fail
   go_ret
   refine ⟨K.kZ ?_,bq.out⟩
   have e:¬at_=n:=by omega
   have e':¬(at_:Int)=(n:Int):=by omega
   simp [e,e']
theorem SV {n F at_ sb:Nat} {m:Value} {c:Bool} {P:World->Prop} (hn:n<=10) (ha:at_<n) (h1:w.cell? ⟨f,1,none⟩=some (.int .i64 at_)) (h2:w.cell? ⟨sb,at_,none⟩=some (.func (.func F) #[] #[]))
 (eF:∀ args w,(callFunc F args).run Tryz.prog w=.ok (.enter F args) w) (hF:Calls Tryz.prog F #[ptr f,m] w fun e w'=>e=.returned (.bool c)/\P w') (hP:∀ w',P w'->w'.cell? ⟨f,1,none⟩=some (.int .i64 at_)/\w'.frozen? ⟨f,1,none⟩=false):
 Calls Tryz.prog 192 #[ptr f,m,.pointer (some ⟨f,1,none⟩),.slice (some ⟨sb,0,none⟩) n n] w fun e w'=>
  e=.returned (.bool (decide ((if c=true then at_+1 else at_)=n)))/\∃ w1,P w1/\w'=if c=true then w1.setCell ⟨f,1,none⟩ (.int .i64 ((at_+1:Nat):Int)) else w1:=by
 have h3:¬(n<=at_):=by omega
 have h4:decide ((at_:Int)<(n:Int))=true:=by simp; omega
 replace hF:=Lib.hid hF
 replace hP:=Lib.hid hP
 cases c with
 | true=>
   go_enter Tryz.func192,Tryz.ntmps192
   go_wp2_with fail
   refine hF.out.mono ?_
   rintro e w' ⟨rfl,bq⟩
   obtain ⟨k1,k2⟩:=hP.out w' bq
   replace bq:=Lib.hid bq
   clear h1 h2
   go_wp2_with fail
   go_ret
   refine ⟨K.kZ ?_,w',bq.out,by simp⟩
   by_cases e:at_+1=n
   ·have e':(at_:Int)+1=(n:Int):=by omega
    simp [e,e']
   ·have e':¬(at_:Int)+1=(n:Int):=by omega
    simp [e,e']
 | false=>
   go_enter Tryz.func192,Tryz.ntmps192
   go_wp2_with fail
   refine hF.out.mono ?_
   rintro e w' ⟨rfl,bq⟩
   obtain ⟨k1,k2⟩:=hP.out w' bq
   replace bq:=Lib.hid bq
   clear h1 h2
   go_wp2_with fail
   go_ret
   refine ⟨K.kZ ?_,bq.out⟩
   have e:¬at_=n:=by omega
   have e':¬(at_:Int)=(n:Int):=by omega
   simp [e,e']
end
end Go.Proofs.YtpanebgakndddaaGreat.Qs
