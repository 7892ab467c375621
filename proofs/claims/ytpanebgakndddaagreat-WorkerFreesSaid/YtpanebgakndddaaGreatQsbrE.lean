/- A part. -/
import Derived.Test.YtpanebgakndddaaGreatQsbrD
import Derived.Test.YtpanebgakndddaaGreatFinish
set_option linter.unusedVariables false
set_option linter.unusedSimpArgs false
namespace Go.Proofs.YtpanebgakndddaaGreat.Qs
open Go Go.RowKit Hp K Fl Rw Hm Ar Mm Me
set_option maxRecDepth 100000
theorem CL (a:Addr) (w:World) (f:Nat):(method (f+1) 124 (.pointer (some a)) "Ready").run Tryz.prog w=.ok (56,.pointer (some a)) w:=by kernel_rfl
theorem CM (a:Addr) (w:World) (f:Nat):(method (f+1) 124 (.pointer (some a)) "Step").run Tryz.prog w=.ok (74,.pointer (some a)) w:=by kernel_rfl
theorem So (a:Addr) (w:World) (f:Nat):(method (f+1) 207 (.pointer (some a)) "Ready").run Tryz.prog w=.ok (288,.pointer (some a)) w:=by kernel_rfl
theorem Sp (a:Addr) (w:World) (f:Nat):(method (f+1) 207 (.pointer (some a)) "Step").run Tryz.prog w=.ok (159,.pointer (some a)) w:=by kernel_rfl
theorem Sq (a:Addr) (w:World) (f:Nat):(method (f+1) 209 (.pointer (some a)) "Ready").run Tryz.prog w=.ok (289,.pointer (some a)) w:=by kernel_rfl
theorem Sr (a:Addr) (w:World) (f:Nat):(method (f+1) 209 (.pointer (some a)) "Step").run Tryz.prog w=.ok (213,.pointer (some a)) w:=by kernel_rfl
theorem CN (args:Array Value) (w:World):(callFunc 56 args).run Tryz.prog w=.ok (.enter 56 args) w:=by kernel_rfl
theorem CO (args:Array Value) (w:World):(callFunc 74 args).run Tryz.prog w=.ok (.enter 74 args) w:=by kernel_rfl
theorem Ss (args:Array Value) (w:World):(callFunc 288 args).run Tryz.prog w=.ok (.enter 288 args) w:=by kernel_rfl
theorem St (args:Array Value) (w:World):(callFunc 159 args).run Tryz.prog w=.ok (.enter 159 args) w:=by kernel_rfl
theorem Su (args:Array Value) (w:World):(callFunc 289 args).run Tryz.prog w=.ok (.enter 289 args) w:=by kernel_rfl
theorem Sv (args:Array Value) (w:World):(callFunc 213 args).run Tryz.prog w=.ok (.enter 213 args) w:=by kernel_rfl
section
variable {w:World} {M:Mo} {f:Nat} {W:Wt} {C:Cm}
def tX (s:List Int×List Int×Wt):Bool:=fQ s.1 s.2.1 s.2.2
def tY (n:Nat) (s:List Int×List Int×Wt):List Int×List Int×Wt:=aI n s.1 s.2.1 s.2.2
def so (s:List Int×List Int×Wt):Bool:=decide (s.2.2.at_=3)
def tZ (w0:World) (M:Mo) (f:Nat) (s:List Int×List Int×Wt) (w:World):Prop:=ah w {M with xs:=s.1,hs:=s.2.1}/\cZ w f s.2.2/\ab (fun x=>ao M x\/x=f) w0 w
theorem Hy {n:Nat} (hM:ah w M) (hf:cZ w f W) (hn:M.k=n) (ok:eB n M.xs M.hs W) (K:Nat) (hK:K<=1000000):
 Calls Tryz.prog 58 #[ptr M.m,.iface 124 (ptr f),.int .i64 K] w fun e w'=>e=.returned (.tuple #[.int .i64 (fin tX (tY n) so K (M.xs,M.hs,W)).1,.bool (fin tX (tY n) so K (M.xs,M.hs,W)).2.1])/\
  tZ w M f (fin tX (tY n) so K (M.xs,M.hs,W)).2.2 w':=by
 refine yr 124 56 74 f (ptr M.m) (tZ w M f) (fun s=>eB n s.1 s.2.1 s.2.2) tX (tY n) so (CL _) (CM _) CN CO ?_ ?_ ?_ K hK (M.xs,M.hs,W) ok w ⟨hM,hf,ab.refl _ _⟩
 ·rintro s w1 ⟨h1,h2,h3⟩ ok
  exact (oC h1 h2 ok.hl (fun q=>by have:=ok.bm; have:=ok.xl; have:=ok.n1; exact ⟨by show 2+s.2.2.bm<s.1.length; omega,by omega⟩) (by have:=ok.at_; omega)).mono fun e w' ⟨h,nq,q⟩=>by
   subst q
   exact ⟨h,h1.drewN nq,h2.only ((ab.refl (fun _=>False) w1).drewN nq) (by simp),h3.drewN nq⟩
 ·rintro s w1 ⟨h1,h2,h3⟩ ok hr
  exact (yE (M:={M with xs:=s.1,hs:=s.2.1}) h1 h2 hn ok hr).mono fun e w' h=>⟨h.1,h.2.1,h.2.2.1,h3.trans h.2.2.2⟩
 ·intro s ok hr hd
  exact ok.step hr (by simpa [so] using hd)
def Il (w0:World) (M:Mo) (f:Nat) (s:List Int×Cm) (w:World):Prop:=ah w {M with xs:=s.1}/\gu w f s.2/\ab (fun x=>ao M x\/x=f) w0 w
def sn (s:List Int×Cm):List Int×Cm:=gv s.1 s.2
theorem QL (hM:ah w M) (hf:gu w f C) (ha:C.at_<=1) (hk:2+C.worker<M.xs.length) (hp:C.worker<=1000) (hv:0<=C.period/\C.period<=18446744073709551615) (K:Nat) (hK:K<=1000000):
 Calls Tryz.prog 58 #[ptr M.m,.iface 207 (ptr f),.int .i64 K] w fun e w'=>e=.returned (.tuple #[.int .i64 (fin (fun _=>true) sn (fun s=>decide (s.2.at_=1)) K (M.xs,C)).1,.bool (fin (fun _=>true) sn (fun s=>decide (s.2.at_=1)) K (M.xs,C)).2.1])/\
  Il w M f (fin (fun _=>true) sn (fun s=>decide (s.2.at_=1)) K (M.xs,C)).2.2 w':=by
 refine yr 207 288 159 f (ptr M.m) (Il w M f) (fun s=>s.2.at_<=1/\s.2.worker=C.worker/\s.1.length=M.xs.length/\(0<=s.2.period/\s.2.period<=18446744073709551615)/\(∀ x∈s.1,0<=x/\x<=18446744073709551615))
  (fun _=>true) sn (fun s=>decide (s.2.at_=1)) (So _) (Sp _) Ss St ?_ ?_ ?_ K hK (M.xs,C) ⟨ha,rfl,rfl,hv,hM.2.1.2.2.1⟩ w ⟨hM,hf,ab.refl _ _⟩
 ·rintro s w1 ⟨h1,h2,h3⟩ ok
  exact (Sm _ w1).mono fun e w' ⟨h,q⟩=>by
   subst q
   exact ⟨h,h1,h2,h3⟩
 ·rintro s w1 ⟨h1,h2,h3⟩ ⟨o1,o2,o3,o4,o5⟩ hr
  exact (Gz (M:={M with xs:=s.1}) h1 h2 o1 (by show 2+s.2.worker<s.1.length; omega) (by omega) o4).mono fun e w' h=>⟨h.1,h.2.1,h.2.2.1,h3.trans h.2.2.2⟩
 ·rintro s ⟨o1,o2,o3,o4,o5⟩ hr hd
  have h0:s.2.at_=0:=by
   have:¬s.2.at_=1:=by simpa using hd
   omega
  have e:sn s=(s.1,{s.2 with period:=Cl.nth s.1 0,at_:=1}):=by unfold sn gv; rw [if_pos h0]
  rw [e]
  exact ⟨by simp,o2,o3,Cl.eX o5 0,o5⟩
theorem QM {k:Nat} (hM:ah w M) (hf:jK w f k 0) (hk:2+k<M.xs.length) (hp:k<=1000) (K:Nat) (hK:K<=1000000) (XB:1<=K):
 Calls Tryz.prog 58 #[ptr M.m,.iface 209 (ptr f),.int .i64 K] w fun e w'=>e=.returned (.tuple #[.int .i64 1,.bool true])/\
  ah w' {M with xs:=M.xs.set (2+k) 0}/\jK w' f k 1/\ab (fun x=>ao M x\/x=f) w w':=by
 have h:=yr 209 289 213 f (ptr M.m) (fun (s:Bool) w'=>ah w' {M with xs:=if s=true then M.xs.set (2+k) 0 else M.xs}/\jK w' f k (if s=true then 1 else 0)/\ab (fun x=>ao M x\/x=f) w w') (fun s=>s=false)
  (fun _=>true) (fun _=>true) (fun _=>true) (Sq _) (Sr _) Su Sv (fun s w1 h _=>(Sn _ w1).mono fun e w' ⟨h',q⟩=>by
    subst q
    exact ⟨h',h⟩) (fun s w1 h o _=>by
    subst o
    exact (GD (M:=M) h.1 h.2.1 hk hp).mono fun e w' h'=>⟨h'.1,h'.2.1,h'.2.2.1,h.2.2.trans h'.2.2.2⟩) (fun s _ _ h=>by simp at h) K hK false rfl w ⟨hM,hf,ab.refl _ _⟩
 obtain ⟨j,rfl⟩:∃ j,K=j+1:=⟨K-1,by omega⟩
 simpa [fin] using h
end
end Go.Proofs.YtpanebgakndddaaGreat.Qs
