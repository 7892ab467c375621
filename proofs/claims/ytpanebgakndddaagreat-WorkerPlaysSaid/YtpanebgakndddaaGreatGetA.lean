/- A part. -/
import Derived.Test.YtpanebgakndddaaGreatWalkD
import Derived.Test.YtpanebgakndddaaGreatQsbrD
import Derived.Laws.EntriesVeiled
set_option linter.unusedVariables false
set_option linter.unusedSimpArgs false
namespace Go.Proofs.YtpanebgakndddaaGreat.Gt
open Go Go.RowKit Hp K Fl Rw Hm Ar Mm Me Qs Wk
set_option maxRecDepth 100000
structure Ge where
 key:ByteArray
 sum:Int
 nx:Nat
 C:Cm
 iY:Nat
 W:Wa
structure Ga where
 f:Nat
 c:Nat
 o:Nat
 w:Nat
def jX (a:Ga) (nx:Nat):Value:=if nx=1 then aU 126 (ptr a.f) else if nx=2 then aU 160 (ptr a.f) else if nx=3 then aU 195 (ptr a.f) else aU 213 (ptr a.o)
def Pq (a:Ga) (G:Ge):Array Value:=#[.string G.key,.int .u32 G.sum,jX a G.nx,ptr a.c,ptr a.o,ptr a.w]
abbrev Ge.wa (G:Ge) (b:Nat):Wa:={G.W with f:=b}
def dh (w:World) (a:Ga) (G:Ge):Prop:=af w a.f 213 (Pq a G)/\gv w a.c G.C/\jG w a.o G.C.worker G.iY/\b8 w (G.wa a.w)
def bC (a:Ga) (x:Nat):Prop:=x=a.f\/x=a.c\/x=a.o\/x=a.w
abbrev Ps:List TypeId:=[213,233,235,237]
def cellOf (s:Int) (d:Nat×Nat):Int:=if d.1=0 then-1 else (d.2:Int)+FM.bucket s d.1
section
variable {w w':World} {M:Mo} {a:Ga} {G:Ge}
theorem dh.ty (h:dh w a G) {x:Nat} (hx:bC a x):Ty w x Ps:=by
 obtain ⟨h1,h2,h3,h4⟩:=h
 rcases hx with rfl | rfl | rfl | rfl
 ·exact (bm h1).mono (by simp)
 ·exact (bm h2).mono (by simp)
 ·exact (bm h3).mono (by simp)
 ·exact (bm h4).mono (by simp)
theorem dh.aB (h:dh w a G) (hM:ah w M) {x:Nat} (hx:bC a x):¬aq M x:=fun hm=>(hM.ty hm).apart (h.ty hx) (by decide)
theorem dh.only {S:Nat->Prop} (h:dh w a G) (ho:ab S w w') (hn:∀ x,bC a x->¬S x):dh w' a G:=
 ⟨h.1.only ho (hn _ (.inl rfl)),h.2.1.only ho (hn _ (.inr (.inl rfl))),h.2.2.1.only ho (hn _ (.inr (.inr (.inl rfl)))),h.2.2.2.only ho (hn _ (.inr (.inr (.inr rfl))))⟩
theorem dh.below (h:dh w a G) (hb:Below w.heap.size w w'):dh w' a G:=h.only (ab.aA hb (fun _=>False)) (by simp)
theorem dh.hd (h:dh w a G):w.cell? ⟨a.f,0,none⟩=some (.string G.key)/\w.cell? ⟨a.f,1,none⟩=some (.int .u32 G.sum)/\w.cell? ⟨a.f,2,none⟩=some (jX a G.nx)/\w.cell? ⟨a.f,3,none⟩=some (ptr a.c)/\
 w.cell? ⟨a.f,4,none⟩=some (ptr a.o)/\w.cell? ⟨a.f,5,none⟩=some (ptr a.w):=
 ⟨h.1.cell 0,h.1.cell 1,h.1.cell 2,h.1.cell 3,h.1.cell 4,h.1.cell 5⟩
theorem dh.dc (h:dh w a G) (i:Nat):w.frozen? ⟨a.f,i,none⟩=false:=h.1.frozen i
theorem dh.apart (h:dh w a G):a.f≠a.c/\a.f≠a.o/\a.f≠a.w/\a.c≠a.o/\a.c≠a.w/\a.o≠a.w:=by
 obtain ⟨h1,h2,h3,h4⟩:=h
 exact ⟨h1.differ h2 (by decide),h1.differ h3 (by decide),h1.differ h4 (by decide),af.differ h2 h3 (by decide),af.differ h2 h4 (by decide),af.differ h3 h4 (by decide)⟩
theorem dh.next (h:dh w a G) (n:Nat):dh (w.setCell ⟨a.f,2,none⟩ (jX a n)) a {G with nx:=n}:=by
 have ho:=(ab.refl (·=a.f) w).setCell (p:=⟨a.f,2,none⟩) (.inl rfl) (jX a n)
 have ha:=h.apart
 exact ⟨h.1.store 2 (jX a n),h.2.1.only ho (fun e=>ha.1 e.symm),h.2.2.1.only ho (fun e=>ha.2.1 e.symm),h.2.2.2.only ho (fun e=>ha.2.2.1 e.symm)⟩
theorem pM (x m:Value) (w:World):Calls Tryz.prog 283 #[x,m] w fun e w'=>e=.returned (.bool true)/\w=w':=by
 go_enter Tryz.func283,Tryz.ntmps283
 go_wp2
 go_ret
 exact ⟨rfl,rfl⟩
theorem Gx (h:dh w a G):Calls Tryz.prog 95 #[ptr a.f] w fun e w'=>e=.returned (.tuple #[.string G.W.nd.val,.bool (decide (G.W.found≠0))])/\Below w.heap.size w w':=by
 have c:=h.hd.2.2.2.2.2
 have hR:=Cj h.2.2.2
 unfold eg at hR
 have e1:(G.wa a.w).found=G.W.found:=rfl
 have e2:(G.wa a.w).nd=G.W.nd:=rfl
 have e3:(G.wa a.w).f=a.w:=rfl
 rw [e1,e2,e3] at hR
 clear e1 e2 e3 h
 generalize decide (G.W.found≠0)=b at*
 generalize G.W.found=x at*
 generalize G.W.nd=n at*
 obtain ⟨nk,nv,ns,nn⟩:=n
 simp only at hR ⊢
 replace hR:=Lib.hid hR
 go_enter Tryz.func95,Tryz.ntmps95
 go_wp2_with fail
 refine hR.out.mono ?_
 rintro e w1 ⟨rfl,hb⟩
 have au:=Lib.hid ((hb.alloc (o:=.cells #[.string nk,.string nv,.int .u32 ns,.int .u64 nn] 67) hb.size))
 clear c
 go_wp2_with fail
 go_ret2
 exact ⟨rfl,au.out⟩
theorem wB {f:Nat} {s:Int} {key:ByteArray} (lf:f<w.heap.size) (c0:w.cell? ⟨f,0,none⟩=some (.string key)) (c1:w.cell? ⟨f,1,none⟩=some (.int .u32 s)) (c:Int):
 Calls Tryz.prog 125 #[ptr f,.int .i64 c] w fun e w'=>e=.returned (ptr w.heap.size)/\b8 w' (new w.heap.size c s key)/\Below w.heap.size w w':=by
 have hN:=Lib.hid (fun n=>Wk.nj c s key (w.drewN n))
 go_enter Tryz.func125,Tryz.ntmps125
 go_wp2_with fail
 go_region_held3 (fun w'=>w'.cell? ⟨f,0,none⟩=some (.string key)/\w'.cell? ⟨f,1,none⟩=some (.int .u32 s)) (go_keep)
  (first
    | (go_at_call 153
       refine (hN.out 1).mono ?_
       rintro e w2 ⟨rfl,h2,au⟩
       have d0:=(au.cell (p:=⟨f,0,none⟩) lf).trans c0
       have d1:=(au.cell (p:=⟨f,1,none⟩) lf).trans c1
       replace h2:=Lib.hid h2
       replace au:=Lib.hid au))
 all_goals
  go_wp2_with fail
  go_ret
  exact ⟨rfl,h2.out,(show Below w.heap.size w (w.drewN 1) from ⟨rfl,rfl,rfl,Nat.le_refl _,fun _ _=>rfl⟩).trans au.out⟩
set_option maxHeartbeats 1000000 in
theorem Pv (h:dh w a G) (d:Nat×Nat) (hd:d.1<=65536/\d.2<=4000000) (hs:0<=G.sum/\G.sum<4294967296):Calls Tryz.prog 194 #[ptr a.f,dv d] w fun e w'=>e=.returned (.int .i64 (cellOf G.sum d))/\Below w.heap.size w w':=by
 obtain ⟨c0,c1,_⟩:=h.hd
 have lf:=h.1.lt
 have hb:=qR G.sum d.1 hs.1
 unfold cellOf dv
 by_cases h0:d.1=0
 ·rw [if_pos h0,h0]
  clear h c0 c1 hb h0
  go_enter Tryz.func194,Tryz.ntmps194
  go_wp2_with fail
  go_ret
  exact ⟨rfl,(Below.refl _ _).alloc (Nat.le_refl _) _⟩
 ·rw [if_neg h0]
  have hB:=Lib.hid (fun w'=>lO.zp G.sum d.1 w' hs.1 hs.2 (by omega) (by omega))
  have e0:((d.1:Int)==0)=false:=by simp; omega
  generalize FM.bucket G.sum d.1=b at*
  generalize d.1=d1 at*
  generalize d.2=d2 at*
  have e1:IntKind.i64.wrap ((d2:Int)+b)=d2+b:=IntWalk.i64_in _ (by omega)
  have nf:=World.new_ne w ⟨a.f,1,none⟩ c1
  clear h h0
  go_enter Tryz.func194,Tryz.ntmps194
  go_wp2_with fail
  go_quiet ((go_at_call 201; exact Calls.quiet_of_same ((hB.out _).mono fun _ _ h=>⟨h.1,h.2⟩)))
  go_wp2_with fail
  go_ret
  exact ⟨rfl,((Below.refl _ _).alloc (Nat.le_refl _) _).trans ⟨rfl,rfl,rfl,by simp,fun _ _=>rfl⟩⟩
end
end Go.Proofs.YtpanebgakndddaaGreat.Gt
