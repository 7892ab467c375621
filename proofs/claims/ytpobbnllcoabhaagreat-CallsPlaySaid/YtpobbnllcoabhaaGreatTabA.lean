/- Walks over layer 8 (table): a hold; what its parts answer, and which blocks they write. -/
import Derived.Test.YtpobbnllcoabhaaGreatMemNew
import Derived.Deep.RegionHeld3
import Derived.Laws.EntriesVeiled
set_option linter.unusedVariables false
set_option linter.unusedSimpArgs false
namespace Go.Proofs.YtpobbnllcoabhaaGreat.Ta
open Go Go.RowKit Hp K Fl Rw Hm Ar Mm Me
set_option maxRecDepth 100000
abbrev fn0 (F:Nat):Value:=.func (.func F) #[] #[]
abbrev fnm (F:Nat) (v:Value):Value:=.func (.func F) #[v] #[]
structure Ho where
 f:Nat
 worker:Int
 sum:Int
 nx:Nat
 num:Nat
 d:Nat×Nat
 lock:Nat
 holds:Bool
def rdv (nx f:Nat):Value:=if nx=2 then fnm 162 (ptr f) else fn0 133
def nxv (nx f:Nat):Value:=if nx=1 then fnm 134 (ptr f) else if nx=2 then fnm 163 (ptr f) else if nx=3 then fnm 185 (ptr f) else if nx=4 then fnm 197 (ptr f) else fn0 198
def hoc (H:Ho):Array Value:=#[.int .i64 H.worker,.int .u32 H.sum,rdv H.nx H.f,nxv H.nx H.f,.int .u64 H.num,.int .i64 H.d.1,.int .i64 H.d.2,.int .i64 H.lock,.bool H.holds]
def HoAt (w:World) (H:Ho):Prop:=Blk w H.f 206 (hoc H)
def lkn (s:Int) (d:Nat×Nat):Nat:=(1+FM.bucket s d.1 % 4).toNat
theorem lkn_eq {s:Int} (d:Nat×Nat) (hs:0≤s):1+FM.bucket s d.1 % 4=((lkn s d:Nat):Int):=by
 have:=bucket_bd s d.1 hs
 unfold lkn
 omega
theorem lkn_bd {s:Int} (d:Nat×Nat) (hs:0≤s):1≤lkn s d∧lkn s d≤4:=by
 have:=bucket_bd s d.1 hs
 unfold lkn
 omega
structure Okh (M:Mo) (H:Ho):Prop where
 sum:0≤H.sum∧H.sum<4294967296
 wk:0≤H.worker∧H.worker≤9223372036854775807
 hl:4<M.hs.length
 xl:1<M.xs.length
 num:H.num≤18446744073709551615
 dn:(tab M.ds H.num).1≤65536
theorem Okh.lb {M:Mo} {H:Ho} (h:Okh M H):lkn H.sum (tab M.ds H.num)<M.hs.length:=by
 have:=lkn_bd (tab M.ds H.num) h.sum.1
 have:=h.hl
 omega
section
variable {w w':World} {M:Mo} {H:Ho}
theorem HoAt.far (h:HoAt w H) (hM:MemAt w M):¬mfoot M H.f:=fun hx=>(hM.ty hx).apart (blk_ty h) (by decide)
theorem HoAt.only {S:Nat→Prop} (h:HoAt w H) (ho:Only S w w') (hn:¬S H.f):HoAt w' H:=Blk.only h ho hn
theorem HoAt.below (h:HoAt w H) (hb:Below w.heap.size w w'):HoAt w' H:=h.only (Only.ofBelow hb (fun _=>False)) (by simp)
theorem HoAt.drewN (h:HoAt w H) (n:Nat):HoAt (w.drewN n) H:=h.only ((Only.refl (fun _=>False) w).drewN n) (by simp)
theorem HoAt.hd (h:HoAt w H):w.cell? ⟨H.f,0,none⟩=some (.int .i64 H.worker)∧w.cell? ⟨H.f,1,none⟩=some (.int .u32 H.sum)∧w.cell? ⟨H.f,2,none⟩=some (rdv H.nx H.f)∧w.cell? ⟨H.f,3,none⟩=some (nxv H.nx H.f)∧
 w.cell? ⟨H.f,4,none⟩=some (.int .u64 H.num)∧w.cell? ⟨H.f,5,none⟩=some (.int .i64 H.d.1)∧w.cell? ⟨H.f,6,none⟩=some (.int .i64 H.d.2)∧w.cell? ⟨H.f,7,none⟩=some (.int .i64 H.lock)∧w.cell? ⟨H.f,8,none⟩=some (.bool H.holds):=
 ⟨h.cell 0,h.cell 1,h.cell 2,h.cell 3,h.cell 4,h.cell 5,h.cell 6,h.cell 7,h.cell 8⟩
end
theorem always_any (m:Value) (w:World):Calls Tryz.prog 133 #[m] w fun e w'=>e=.returned (.bool true)∧w'=w:=by
 go_enter Tryz.func133,Tryz.ntmps133
 go_wp2
 go_ret
 exact ⟨rfl,rfl⟩
theorem done_any (m:Value) (w:World):Calls Tryz.prog 198 #[m] w fun e w'=>e=.returned (.bool true)∧w'=w:=by
 go_enter Tryz.func198,Tryz.ntmps198
 go_wp2
 go_ret
 exact ⟨rfl,rfl⟩
theorem goOn_any {f F G:Nat} {a b:Array Value} {w:World} {u2 u3:Value} (c2:w.cell? ⟨f,2,none⟩=some u2) (c3:w.cell? ⟨f,3,none⟩=some u3) (z2:w.frozen? ⟨f,2,none⟩=false) (z3:w.frozen? ⟨f,3,none⟩=false):
 Calls Tryz.prog 132 #[ptr f,.func (.func F) a #[],.func (.func G) b #[]] w fun e w'=>e=.returned (.tuple #[])∧w'=(w.setCell ⟨f,2,none⟩ (.func (.func F) a #[])).setCell ⟨f,3,none⟩ (.func (.func G) b #[]):=by
 go_enter Tryz.func132,Tryz.ntmps132
 go_wp2
 go_end0
 exact ⟨rfl,rfl⟩
theorem new_hold (k s:Int) (w:World):Calls Tryz.prog 107 #[.int .i64 k,.int .u32 s] w fun e w'=>e=.returned (ptr w.heap.size)∧HoAt w' ⟨w.heap.size,k,s,1,0,(0,0),0,false⟩∧Below w.heap.size w w':=by
 go_enter Tryz.func107,Tryz.ntmps107
 go_wp2_with fail
 refine (goOn_any (u2:=.nilFunc) (u3:=.nilFunc) ((Blk.made w _ _).cell 2) ((Blk.made w _ _).cell 3) ((Blk.made w _ _).frozen 2) ((Blk.made w _ _).frozen 3)).mono ?_
 rintro e w1 ⟨rfl,hw⟩
 have hB:HoAt w1 ⟨w.heap.size,k,s,1,0,(0,0),0,false⟩:=by
  rw [hw]
  exact ((Blk.made w _ _).store 2 _).store 3 _
 have hb:Below w.heap.size w w1:=by
  rw [hw]
  exact (((Below.refl _ _).alloc (Nat.le_refl _) _).setCell (by simp) _).setCell (by simp) _
 replace hB:=Lib.hid hB
 replace hb:=Lib.hid hb
 clear hw
 go_wp2_with fail
 go_ret
 exact ⟨rfl,hB.out,hb.out⟩
section
variable {w:World} {M:Mo} {H:Ho}
theorem loaded_any (hM:MemAt w M) (hH:HoAt w H) (hn:H.num≤18446744073709551615):
 Calls Tryz.prog 184 #[ptr H.f,ptr M.m] w fun e w'=>e=.returned (dv (tab M.ds H.num))∧Below w.heap.size w w':=by
 obtain ⟨c0,c1,c2,c3,c4,c5,c6,c7,c8⟩:=hH.hd
 have hl:=row_len hM.2.2.2.2.1
 have lM:=hM.1.lt
 have lf:=hH.lt
 by_cases hg:9223372036854775807<H.num
 · rw [tab_none (by omega)]
   clear hM hH c0 c1 c2 c3 c5 c6 c7 c8
   generalize H.num=z at*
   generalize H.f=f at*
   go_enter Tryz.func184,Tryz.ntmps184
   go_wp2
   exact bodyPost_ret (v:=dv (0,0)) (by simp [results,Tryz.results184,go_sem,dv]) rfl ⟨rfl,by first | exact ((Below.refl _ _).alloc (Nat.le_refl _) _) | exact (((Below.refl _ _).alloc (Nat.le_refl _) _).setCell (by simp) _).setCell (by simp) _⟩
 · have hD:Hid (∀ o,Calls Tryz.prog 149 #[ptr M.m,.int .i64 H.num] (w.alloc o) fun e w'=>∃ b,e=.returned (.tuple #[.agg #[.int .i64 (tab M.ds H.num).1,.int .i64 (tab M.ds H.num).2],.bool b])∧Below (w.alloc o).heap.size (w.alloc o) w'):=Lib.hid fun o=>by
    by_cases hi:H.num<M.ds.length
    · exact (desc_in (hM.alloc o) H.num hi).mono fun e w' h=>⟨true,h⟩
    · rw [tab_none (by omega)]
      exact (desc_out (hM.alloc o) H.num (by omega) (by omega) (.inr (by omega))).mono fun e w' h=>⟨false,h⟩
   clear hM hH c0 c1 c2 c3 c5 c6 c7 c8
   have e1:IntKind.i64.wrap (H.num:Int)=H.num:=IntWalk.i64_in _ (by omega)
   generalize tab M.ds H.num=d at*
   generalize H.num=z at*
   generalize H.f=f at*
   go_enter Tryz.func184,Tryz.ntmps184
   go_wp2_with fail
   refine (hD.out _).mono ?_
   rintro e w1 ⟨b,rfl,hb⟩
   have hB1:Blk w1 w.heap.size 82 #[.int .i64 0,.int .i64 0]:=(Blk.made w _ _).only (Only.ofBelow hb (fun _=>False)) (by simp)
   have k0:=hB1.cell 0
   have k1:=hB1.cell 1
   have z0:=hB1.frozen 0
   have z1:=hB1.frozen 1
   simp at k0 k1
   have hlt:=hB1.lt
   have hb':Below w.heap.size w w1:=((Below.refl _ _).alloc (Nat.le_refl _) _).trans (hb.mono (by simp))
   replace hb':=Lib.hid hb'
   clear hb hB1 hD c4
   go_wp2_with fail
   exact bodyPost_ret (v:=dv d) (by simp [results,Tryz.results184,go_sem,dv,k0,k1,hlt]) rfl ⟨rfl,((hb'.out.setCell (by simp) _).setCell (by simp) _).alloc (by simp; omega) _⟩
end
end Go.Proofs.YtpobbnllcoabhaaGreat.Ta
