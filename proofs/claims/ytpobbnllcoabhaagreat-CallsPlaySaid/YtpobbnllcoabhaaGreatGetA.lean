/- Walks over layer 10 (get): a get; what its parts answer, and which blocks they write. -/
import Derived.Test.YtpobbnllcoabhaaGreatWalkD
import Derived.Test.YtpobbnllcoabhaaGreatQsbrD
import Derived.Laws.EntriesVeiled
set_option linter.unusedVariables false
set_option linter.unusedSimpArgs false
namespace Go.Proofs.YtpobbnllcoabhaaGreat.Gt
open Go Go.RowKit Hp K Fl Rw Hm Ar Mm Me Qs Wk
set_option maxRecDepth 100000
structure Ge where
 key:ByteArray
 sum:Int
 nx:Nat
 C:Cm
 gat:Nat
 W:Wa
structure Ga where
 f:Nat
 c:Nat
 o:Nat
 w:Nat
def gnv (a:Ga) (nx:Nat):Value:=if nx=1 then wfm 100 (ptr a.f) else if nx=2 then wfm 126 (ptr a.f) else if nx=3 then wfm 157 (ptr a.f) else wfm 179 (ptr a.o)
def gec (a:Ga) (G:Ge):Array Value:=#[.string G.key,.int .u32 G.sum,gnv a G.nx,ptr a.c,ptr a.o,ptr a.w]
abbrev Ge.wa (G:Ge) (b:Nat):Wa:={G.W with f:=b}
def GeAt (w:World) (a:Ga) (G:Ge):Prop:=Blk w a.f 185 (gec a G)∧CmAt w a.c G.C∧GgAt w a.o G.C.worker G.gat∧WaAt w (G.wa a.w)
def gfoot (a:Ga) (x:Nat):Prop:=x=a.f∨x=a.c∨x=a.o∨x=a.w
abbrev getTypes:List TypeId:=[185,199,201,203]
def cellOf (s:Int) (d:Nat×Nat):Int:=if d.1=0 then-1 else (d.2:Int)+FM.bucket s d.1
section
variable {w w':World} {M:Mo} {a:Ga} {G:Ge}
theorem GeAt.ty (h:GeAt w a G) {x:Nat} (hx:gfoot a x):Ty w x getTypes:=by
 obtain ⟨h1,h2,h3,h4⟩:=h
 rcases hx with rfl | rfl | rfl | rfl
 · exact (blk_ty h1).mono (by simp)
 · exact (blk_ty h2).mono (by simp)
 · exact (blk_ty h3).mono (by simp)
 · exact (blk_ty h4).mono (by simp)
theorem GeAt.far (h:GeAt w a G) (hM:MemAt w M) {x:Nat} (hx:gfoot a x):¬mfoot M x:=fun hm=>(hM.ty hm).apart (h.ty hx) (by decide)
theorem GeAt.only {S:Nat→Prop} (h:GeAt w a G) (ho:Only S w w') (hn:∀ x,gfoot a x→¬S x):GeAt w' a G:=
 ⟨h.1.only ho (hn _ (.inl rfl)),h.2.1.only ho (hn _ (.inr (.inl rfl))),h.2.2.1.only ho (hn _ (.inr (.inr (.inl rfl)))),h.2.2.2.only ho (hn _ (.inr (.inr (.inr rfl))))⟩
theorem GeAt.below (h:GeAt w a G) (hb:Below w.heap.size w w'):GeAt w' a G:=h.only (Only.ofBelow hb (fun _=>False)) (by simp)
theorem GeAt.hd (h:GeAt w a G):w.cell? ⟨a.f,0,none⟩=some (.string G.key)∧w.cell? ⟨a.f,1,none⟩=some (.int .u32 G.sum)∧w.cell? ⟨a.f,2,none⟩=some (gnv a G.nx)∧w.cell? ⟨a.f,3,none⟩=some (ptr a.c)∧
 w.cell? ⟨a.f,4,none⟩=some (ptr a.o)∧w.cell? ⟨a.f,5,none⟩=some (ptr a.w):=
 ⟨h.1.cell 0,h.1.cell 1,h.1.cell 2,h.1.cell 3,h.1.cell 4,h.1.cell 5⟩
theorem GeAt.frz (h:GeAt w a G) (i:Nat):w.frozen? ⟨a.f,i,none⟩=false:=h.1.frozen i
theorem GeAt.apart (h:GeAt w a G):a.f≠a.c∧a.f≠a.o∧a.f≠a.w∧a.c≠a.o∧a.c≠a.w∧a.o≠a.w:=by
 obtain ⟨h1,h2,h3,h4⟩:=h
 exact ⟨h1.differ h2 (by decide),h1.differ h3 (by decide),h1.differ h4 (by decide),Blk.differ h2 h3 (by decide),Blk.differ h2 h4 (by decide),Blk.differ h3 h4 (by decide)⟩
theorem GeAt.next (h:GeAt w a G) (n:Nat):GeAt (w.setCell ⟨a.f,2,none⟩ (gnv a n)) a {G with nx:=n}:=by
 have ho:=(Only.refl (·=a.f) w).setCell (p:=⟨a.f,2,none⟩) (.inl rfl) (gnv a n)
 have ha:=h.apart
 exact ⟨h.1.store 2 (gnv a n),h.2.1.only ho (fun e=>ha.1 e.symm),h.2.2.1.only ho (fun e=>ha.2.1 e.symm),h.2.2.2.only ho (fun e=>ha.2.2.1 e.symm)⟩
theorem ready_any (x m:Value) (w:World):Calls Tryz.prog 271 #[x,m] w fun e w'=>e=.returned (.bool true)∧w=w':=by
 go_enter Tryz.func271,Tryz.ntmps271
 go_wp2
 go_ret
 exact ⟨rfl,rfl⟩
theorem val_any (h:GeAt w a G):Calls Tryz.prog 77 #[ptr a.f] w fun e w'=>e=.returned (.tuple #[.string G.W.nd.val,.bool (decide (G.W.found≠0))])∧Below w.heap.size w w':=by
 have c:=h.hd.2.2.2.2.2
 have hR:=found_any h.2.2.2
 unfold ndv at hR
 have e1:(G.wa a.w).found=G.W.found:=rfl
 have e2:(G.wa a.w).nd=G.W.nd:=rfl
 have e3:(G.wa a.w).f=a.w:=rfl
 rw [e1,e2,e3] at hR
 clear e1 e2 e3 h
 generalize decide (G.W.found≠0)=b at*
 generalize G.W.found=x at*
 generalize G.W.nd=n at*
 obtain ⟨nk,nv,ns,nn⟩:=n
 simp only at hR ⊢
 replace hR:=Lib.hid hR
 go_enter Tryz.func77,Tryz.ntmps77
 go_wp2_with fail
 refine hR.out.mono ?_
 rintro e w1 ⟨rfl,hb⟩
 have hb2:=Lib.hid ((hb.alloc (o:=.cells #[.string nk,.string nv,.int .u32 ns,.int .u64 nn] 88) hb.size))
 clear c
 go_wp2_with fail
 go_ret2
 exact ⟨rfl,hb2.out⟩
theorem walkFrom_any {f:Nat} {s:Int} {key:ByteArray} (lf:f<w.heap.size) (c0:w.cell? ⟨f,0,none⟩=some (.string key)) (c1:w.cell? ⟨f,1,none⟩=some (.int .u32 s)) (c:Int):
 Calls Tryz.prog 99 #[ptr f,.int .i64 c] w fun e w'=>e=.returned (ptr w.heap.size)∧WaAt w' (new w.heap.size c s key)∧Below w.heap.size w w':=by
 have hN:=Lib.hid (fun n=>Wk.new_any c s key (w.drewN n))
 go_enter Tryz.func99,Tryz.ntmps99
 go_wp2_with fail
 go_region_held3 (fun w'=>w'.cell? ⟨f,0,none⟩=some (.string key)∧w'.cell? ⟨f,1,none⟩=some (.int .u32 s)) (go_keep)
  (first
    | (go_at_call 121
       refine (hN.out 1).mono ?_
       rintro e w2 ⟨rfl,h2,hb2⟩
       have d0:=(hb2.cell (p:=⟨f,0,none⟩) lf).trans c0
       have d1:=(hb2.cell (p:=⟨f,1,none⟩) lf).trans c1
       replace h2:=Lib.hid h2
       replace hb2:=Lib.hid hb2))
 all_goals
  go_wp2_with fail
  go_ret
  exact ⟨rfl,h2.out,(show Below w.heap.size w (w.drewN 1) from ⟨rfl,rfl,rfl,Nat.le_refl _,fun _ _=>rfl⟩).trans hb2.out⟩
set_option maxHeartbeats 1000000 in
theorem cell_any (h:GeAt w a G) (d:Nat×Nat) (hd:d.1≤65536∧d.2≤4000000) (hs:0≤G.sum∧G.sum<4294967296):Calls Tryz.prog 156 #[ptr a.f,dv d] w fun e w'=>e=.returned (.int .i64 (cellOf G.sum d))∧Below w.heap.size w w':=by
 obtain ⟨c0,c1,_⟩:=h.hd
 have lf:=h.1.lt
 have hb:=bucket_bd G.sum d.1 hs.1
 unfold cellOf dv
 by_cases h0:d.1=0
 · rw [if_pos h0,h0]
   clear h c0 c1 hb h0
   go_enter Tryz.func156,Tryz.ntmps156
   go_wp2_with fail
   go_ret
   exact ⟨rfl,(Below.refl _ _).alloc (Nat.le_refl _) _⟩
 · rw [if_neg h0]
   have hB:=Lib.hid (fun w'=>Fnv.bucket_any G.sum d.1 w' hs.1 hs.2 (by omega) (by omega))
   have e0:((d.1:Int)==0)=false:=by simp; omega
   generalize FM.bucket G.sum d.1=b at*
   generalize d.1=d1 at*
   generalize d.2=d2 at*
   have e1:IntKind.i64.wrap ((d2:Int)+b)=d2+b:=IntWalk.i64_in _ (by omega)
   have nf:=World.new_ne w ⟨a.f,1,none⟩ c1
   clear h h0
   go_enter Tryz.func156,Tryz.ntmps156
   go_wp2_with fail
   go_quiet ((go_at_call 164; exact Calls.quiet_of_same ((hB.out _).mono fun _ _ h=>⟨h.1,h.2⟩)))
   go_wp2_with fail
   go_ret
   exact ⟨rfl,((Below.refl _ _).alloc (Nat.le_refl _) _).trans ⟨rfl,rfl,rfl,by simp,fun _ _=>rfl⟩⟩
end
end Go.Proofs.YtpobbnllcoabhaaGreat.Gt
