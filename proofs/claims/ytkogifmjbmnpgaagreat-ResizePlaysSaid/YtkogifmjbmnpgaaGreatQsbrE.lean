/- Layer 6 (qsbr): frames behind mem.Finish. -/
import Derived.Test.YtkogifmjbmnpgaaGreatQsbrD
import Derived.Test.YtkogifmjbmnpgaaGreatFinish
set_option linter.unusedVariables false
set_option linter.unusedSimpArgs false
namespace Go.Proofs.YtkogifmjbmnpgaaGreat.Qs
open Go Go.RowKit Hp K Fl Rw Hm Ar Mm Me
set_option maxRecDepth 100000
theorem mrW (a:Addr) (w:World) (f:Nat):(method (f+1) 156 (.pointer (some a)) "Ready").run Tryz.prog w=.ok (204,.pointer (some a)) w:=by kernel_rfl
theorem msW (a:Addr) (w:World) (f:Nat):(method (f+1) 156 (.pointer (some a)) "Step").run Tryz.prog w=.ok (205,.pointer (some a)) w:=by kernel_rfl
theorem mrC (a:Addr) (w:World) (f:Nat):(method (f+1) 177 (.pointer (some a)) "Ready").run Tryz.prog w=.ok (253,.pointer (some a)) w:=by kernel_rfl
theorem msC (a:Addr) (w:World) (f:Nat):(method (f+1) 177 (.pointer (some a)) "Step").run Tryz.prog w=.ok (148,.pointer (some a)) w:=by kernel_rfl
theorem mrG (a:Addr) (w:World) (f:Nat):(method (f+1) 179 (.pointer (some a)) "Ready").run Tryz.prog w=.ok (254,.pointer (some a)) w:=by kernel_rfl
theorem msG (a:Addr) (w:World) (f:Nat):(method (f+1) 179 (.pointer (some a)) "Step").run Tryz.prog w=.ok (180,.pointer (some a)) w:=by kernel_rfl
theorem erW (args:Array Value) (w:World):(callFunc 204 args).run Tryz.prog w=.ok (.enter 204 args) w:=by kernel_rfl
theorem esW (args:Array Value) (w:World):(callFunc 205 args).run Tryz.prog w=.ok (.enter 205 args) w:=by kernel_rfl
theorem erC (args:Array Value) (w:World):(callFunc 253 args).run Tryz.prog w=.ok (.enter 253 args) w:=by kernel_rfl
theorem esC (args:Array Value) (w:World):(callFunc 148 args).run Tryz.prog w=.ok (.enter 148 args) w:=by kernel_rfl
theorem erG (args:Array Value) (w:World):(callFunc 254 args).run Tryz.prog w=.ok (.enter 254 args) w:=by kernel_rfl
theorem esG (args:Array Value) (w:World):(callFunc 180 args).run Tryz.prog w=.ok (.enter 180 args) w:=by kernel_rfl
section
variable {w:World} {M:Mo} {f:Nat} {W:Wt} {C:Cm}
def rdW (s:List Int×List Int×Wt):Bool:=readyB s.1 s.2.1 s.2.2
def stW (n:Nat) (s:List Int×List Int×Wt):List Int×List Int×Wt:=wstep n s.1 s.2.1 s.2.2
def dnW (s:List Int×List Int×Wt):Bool:=decide (s.2.2.at_=3)
def InvW (w0:World) (M:Mo) (f:Nat) (s:List Int×List Int×Wt) (w:World):Prop:=MemAt w {M with xs:=s.1,hs:=s.2.1}∧WtAt w f s.2.2∧Only (fun x=>mfoot M x∨x=f) w0 w
theorem finish_wait {n:Nat} (hM:MemAt w M) (hf:WtAt w f W) (hn:M.k=n) (ok:Okw n M.xs M.hs W) (K:Nat) (hK:K≤1000000):
 Calls Tryz.prog 9 #[ptr M.m,.iface 156 (ptr f),.int .i64 K] w fun e w'=>e=.returned (.tuple #[.int .i64 (fin rdW (stW n) dnW K (M.xs,M.hs,W)).1,.bool (fin rdW (stW n) dnW K (M.xs,M.hs,W)).2.1])∧
  InvW w M f (fin rdW (stW n) dnW K (M.xs,M.hs,W)).2.2 w':=by
 refine finish_gen 156 204 205 f (ptr M.m) (InvW w M f) (fun s=>Okw n s.1 s.2.1 s.2.2) rdW (stW n) dnW (mrW _) (msW _) erW esW ?_ ?_ ?_ K hK (M.xs,M.hs,W) ok w ⟨hM,hf,Only.refl _ _⟩
 · rintro s w1 ⟨h1,h2,h3⟩ ok
   exact (ready_any h1 h2 ok.hl (fun q=>by have:=ok.passed; have:=ok.xl; have:=ok.n1; exact ⟨by show 2+s.2.2.passed<s.1.length; omega,by omega⟩) (by have:=ok.at_; omega)).mono fun e w' ⟨h,nq,q⟩=>by
    subst q
    exact ⟨h,h1.drewN nq,h2.only ((Only.refl (fun _=>False) w1).drewN nq) (by simp),h3.drewN nq⟩
 · rintro s w1 ⟨h1,h2,h3⟩ ok hr
   exact (wait_step (M:={M with xs:=s.1,hs:=s.2.1}) h1 h2 hn ok hr).mono fun e w' h=>⟨h.1,h.2.1,h.2.2.1,h3.trans h.2.2.2⟩
 · intro s ok hr hd
   exact ok.step hr (by simpa [dnW] using hd)
def InvC (w0:World) (M:Mo) (f:Nat) (s:List Int×Cm) (w:World):Prop:=MemAt w {M with xs:=s.1}∧CmAt w f s.2∧Only (fun x=>mfoot M x∨x=f) w0 w
def stC (s:List Int×Cm):List Int×Cm:=cstep s.1 s.2
theorem finish_coming (hM:MemAt w M) (hf:CmAt w f C) (ha:C.at_≤1) (hk:2+C.worker<M.xs.length) (hp:C.worker≤1000) (hv:0≤C.period∧C.period≤18446744073709551615) (K:Nat) (hK:K≤1000000):
 Calls Tryz.prog 9 #[ptr M.m,.iface 177 (ptr f),.int .i64 K] w fun e w'=>e=.returned (.tuple #[.int .i64 (fin (fun _=>true) stC (fun s=>decide (s.2.at_=1)) K (M.xs,C)).1,.bool (fin (fun _=>true) stC (fun s=>decide (s.2.at_=1)) K (M.xs,C)).2.1])∧
  InvC w M f (fin (fun _=>true) stC (fun s=>decide (s.2.at_=1)) K (M.xs,C)).2.2 w':=by
 refine finish_gen 177 253 148 f (ptr M.m) (InvC w M f) (fun s=>s.2.at_≤1∧s.2.worker=C.worker∧s.1.length=M.xs.length∧(0≤s.2.period∧s.2.period≤18446744073709551615)∧(∀ x∈s.1,0≤x∧x≤18446744073709551615))
  (fun _=>true) stC (fun s=>decide (s.2.at_=1)) (mrC _) (msC _) erC esC ?_ ?_ ?_ K hK (M.xs,C) ⟨ha,rfl,rfl,hv,hM.2.1.2.2.1⟩ w ⟨hM,hf,Only.refl _ _⟩
 · rintro s w1 ⟨h1,h2,h3⟩ ok
   exact (coming_ready _ w1).mono fun e w' ⟨h,q⟩=>by
    subst q
    exact ⟨h,h1,h2,h3⟩
 · rintro s w1 ⟨h1,h2,h3⟩ ⟨o1,o2,o3,o4,o5⟩ hr
   exact (coming_step (M:={M with xs:=s.1}) h1 h2 o1 (by show 2+s.2.worker<s.1.length; omega) (by omega) o4).mono fun e w' h=>⟨h.1,h.2.1,h.2.2.1,h3.trans h.2.2.2⟩
 · rintro s ⟨o1,o2,o3,o4,o5⟩ hr hd
   have h0:s.2.at_=0:=by
    have:¬s.2.at_=1:=by simpa using hd
    omega
   have e:stC s=(s.1,{s.2 with period:=Cl.nth s.1 0,at_:=1}):=by unfold stC cstep; rw [if_pos h0]
   rw [e]
   exact ⟨by simp,o2,o3,Cl.getD_bd o5 0,o5⟩
theorem finish_going {k:Nat} (hM:MemAt w M) (hf:GgAt w f k 0) (hk:2+k<M.xs.length) (hp:k≤1000) (K:Nat) (hK:K≤1000000) (h1K:1≤K):
 Calls Tryz.prog 9 #[ptr M.m,.iface 179 (ptr f),.int .i64 K] w fun e w'=>e=.returned (.tuple #[.int .i64 1,.bool true])∧
  MemAt w' {M with xs:=M.xs.set (2+k) 0}∧GgAt w' f k 1∧Only (fun x=>mfoot M x∨x=f) w w':=by
 have h:=finish_gen 179 254 180 f (ptr M.m) (fun (s:Bool) w'=>MemAt w' {M with xs:=if s=true then M.xs.set (2+k) 0 else M.xs}∧GgAt w' f k (if s=true then 1 else 0)∧Only (fun x=>mfoot M x∨x=f) w w') (fun s=>s=false)
  (fun _=>true) (fun _=>true) (fun _=>true) (mrG _) (msG _) erG esG (fun s w1 h _=>(going_ready _ w1).mono fun e w' ⟨h',q⟩=>by
    subst q
    exact ⟨h',h⟩) (fun s w1 h o _=>by
    subst o
    exact (going_step (M:=M) h.1 h.2.1 hk hp).mono fun e w' h'=>⟨h'.1,h'.2.1,h'.2.2.1,h.2.2.trans h'.2.2.2⟩) (fun s _ _ h=>by simp at h) K hK false rfl w ⟨hM,hf,Only.refl _ _⟩
 obtain ⟨j,rfl⟩:∃ j,K=j+1:=⟨K-1,by omega⟩
 simpa [fin] using h
end
end Go.Proofs.YtkogifmjbmnpgaaGreat.Qs
