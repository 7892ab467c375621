/- A part. -/
import Derived.Test.YtpanebgakndddaaGreatMemNew
import Derived.Deep.RegionHeld3
import Derived.Laws.EntriesVeiled
set_option linter.unusedVariables false
set_option linter.unusedSimpArgs false
namespace Go.Proofs.YtpanebgakndddaaGreat.Ta
open Go Go.RowKit Hp K Fl Rw Hm Ar Mm Me
set_option maxRecDepth 100000
abbrev zZ (F:Nat):Value:=.func (.func F) #[] #[]
abbrev sP (F:Nat) (v:Value):Value:=.func (.func F) #[v] #[]
structure Ho where
 f:Nat
 worker:Int
 sum:Int
 nx:Nat
 num:Nat
 d:Nat×Nat
 lock:Nat
 holds:Bool
def rdv (nx f:Nat):Value:=if nx=2 then sP 199 (ptr f) else zZ 171
def xo (nx f:Nat):Value:=if nx=1 then sP 172 (ptr f) else if nx=2 then sP 200 (ptr f) else if nx=3 then sP 218 (ptr f) else if nx=4 then sP 228 (ptr f) else zZ 229
def DJ (H:Ho):Array Value:=#[.int .i64 H.worker,.int .u32 H.sum,rdv H.nx H.f,xo H.nx H.f,.int .u64 H.num,.int .i64 H.d.1,.int .i64 H.d.2,.int .i64 H.lock,.bool H.holds]
def cH (w:World) (H:Ho):Prop:=af w H.f 243 (DJ H)
def fy (s:Int) (d:Nat×Nat):Nat:=(1+FM.bucket s d.1 % 4).toNat
theorem US {s:Int} (d:Nat×Nat) (hs:0<=s):1+FM.bucket s d.1 % 4=((fy s d:Nat):Int):=by
 have:=qR s d.1 hs
 unfold fy
 omega
theorem xk {s:Int} (d:Nat×Nat) (hs:0<=s):1<=fy s d/\fy s d<=4:=by
 have:=qR s d.1 hs
 unfold fy
 omega
structure pZ (M:Mo) (H:Ho):Prop where
 sum:0<=H.sum/\H.sum<4294967296
 wk:0<=H.worker/\H.worker<=9223372036854775807
 hl:4<M.hs.length
 xl:1<M.xs.length
 num:H.num<=18446744073709551615
 dn:(aO M.ds H.num).1<=65536
theorem pZ.lb {M:Mo} {H:Ho} (h:pZ M H):fy H.sum (aO M.ds H.num)<M.hs.length:=by
 have:=xk (aO M.ds H.num) h.sum.1
 have:=h.hl
 omega
section
variable {w w':World} {M:Mo} {H:Ho}
theorem cH.aB (h:cH w H) (hM:ah w M):¬aq M H.f:=fun hx=>(hM.ty hx).apart (bm h) (by decide)
theorem cH.only {S:Nat->Prop} (h:cH w H) (ho:ab S w w') (hn:¬S H.f):cH w' H:=af.only h ho hn
theorem cH.below (h:cH w H) (hb:Below w.heap.size w w'):cH w' H:=h.only (ab.aA hb (fun _=>False)) (by simp)
theorem cH.drewN (h:cH w H) (n:Nat):cH (w.drewN n) H:=h.only ((ab.refl (fun _=>False) w).drewN n) (by simp)
theorem cH.hd (h:cH w H):w.cell? ⟨H.f,0,none⟩=some (.int .i64 H.worker)/\w.cell? ⟨H.f,1,none⟩=some (.int .u32 H.sum)/\w.cell? ⟨H.f,2,none⟩=some (rdv H.nx H.f)/\w.cell? ⟨H.f,3,none⟩=some (xo H.nx H.f)/\
 w.cell? ⟨H.f,4,none⟩=some (.int .u64 H.num)/\w.cell? ⟨H.f,5,none⟩=some (.int .i64 H.d.1)/\w.cell? ⟨H.f,6,none⟩=some (.int .i64 H.d.2)/\w.cell? ⟨H.f,7,none⟩=some (.int .i64 H.lock)/\w.cell? ⟨H.f,8,none⟩=some (.bool H.holds):=
 ⟨h.cell 0,h.cell 1,h.cell 2,h.cell 3,h.cell 4,h.cell 5,h.cell 6,h.cell 7,h.cell 8⟩
end
theorem sC (m:Value) (w:World):Calls Tryz.prog 171 #[m] w fun e w'=>e=.returned (.bool true)/\w'=w:=by
 go_enter Tryz.func171,Tryz.ntmps171
 go_wp2
 go_ret
 exact ⟨rfl,rfl⟩
theorem DK (m:Value) (w:World):Calls Tryz.prog 229 #[m] w fun e w'=>e=.returned (.bool true)/\w'=w:=by
 go_enter Tryz.func229,Tryz.ntmps229
 go_wp2
 go_ret
 exact ⟨rfl,rfl⟩
theorem et {f F G:Nat} {a b:Array Value} {w:World} {u2 u3:Value} (c2:w.cell? ⟨f,2,none⟩=some u2) (c3:w.cell? ⟨f,3,none⟩=some u3) (z2:w.frozen? ⟨f,2,none⟩=false) (z3:w.frozen? ⟨f,3,none⟩=false):
 Calls Tryz.prog 170 #[ptr f,.func (.func F) a #[],.func (.func G) b #[]] w fun e w'=>e=.returned (.tuple #[])/\w'=(w.setCell ⟨f,2,none⟩ (.func (.func F) a #[])).setCell ⟨f,3,none⟩ (.func (.func G) b #[]):=by
 go_enter Tryz.func170,Tryz.ntmps170
 go_wp2
 go_end0
 exact ⟨rfl,rfl⟩
theorem Iv (k s:Int) (w:World):Calls Tryz.prog 139 #[.int .i64 k,.int .u32 s] w fun e w'=>e=.returned (ptr w.heap.size)/\cH w' ⟨w.heap.size,k,s,1,0,(0,0),0,false⟩/\Below w.heap.size w w':=by
 go_enter Tryz.func139,Tryz.ntmps139
 go_wp2_with fail
 refine (et (u2:=.nilFunc) (u3:=.nilFunc) ((af.made w _ _).cell 2) ((af.made w _ _).cell 3) ((af.made w _ _).frozen 2) ((af.made w _ _).frozen 3)).mono ?_
 rintro e w1 ⟨rfl,hw⟩
 have hB:cH w1 ⟨w.heap.size,k,s,1,0,(0,0),0,false⟩:=by
  rw [hw]
  exact ((af.made w _ _).store 2 _).store 3 _
 have hb:Below w.heap.size w w1:=by
  rw [hw]
  exact (((Below.refl _ _).alloc (Nat.le_refl _) _).setCell (by simp) _).setCell (by simp) _
 replace hB:=Lib.hid hB
 replace hb:=Lib.hid hb
 clear hw
 go_wp2_with fail
 go_ret
 exact ⟨rfl,hB.out,hb.out⟩
section
variable {w:World} {M:Mo} {H:Ho}
theorem JU (hM:ah w M) (hH:cH w H) (hn:H.num<=18446744073709551615):
 Calls Tryz.prog 217 #[ptr H.f,ptr M.m] w fun e w'=>e=.returned (dv (aO M.ds H.num))/\Below w.heap.size w w':=by
 obtain ⟨c0,c1,c2,c3,c4,c5,c6,c7,c8⟩:=hH.hd
 have hl:=xd hM.2.2.2.2.1
 have lM:=hM.1.lt
 have lf:=hH.lt
 by_cases hg:9223372036854775807<H.num
 ·rw [sq (by omega)]
  clear hM hH c0 c1 c2 c3 c5 c6 c7 c8
  generalize H.num=z at*
  generalize H.f=f at*
  go_enter Tryz.func217,Tryz.ntmps217
  go_wp2
  exact bodyPost_ret (v:=dv (0,0)) (by simp [results,Tryz.results217,go_sem,dv]) rfl ⟨rfl,by first | exact ((Below.refl _ _).alloc (Nat.le_refl _) _) | exact (((Below.refl _ _).alloc (Nat.le_refl _) _).setCell (by simp) _).setCell (by simp) _⟩
 ·have hD:Hid (∀ o,Calls Tryz.prog 187 #[ptr M.m,.int .i64 H.num] (w.alloc o) fun e w'=>∃ b,e=.returned (.tuple #[.agg #[.int .i64 (aO M.ds H.num).1,.int .i64 (aO M.ds H.num).2],.bool b])/\Below (w.alloc o).heap.size (w.alloc o) w'):=Lib.hid fun o=>by
   by_cases hi:H.num<M.ds.length
   ·exact (CG (hM.alloc o) H.num hi).mono fun e w' h=>⟨true,h⟩
   ·rw [sq (by omega)]
    exact (Ss (hM.alloc o) H.num (by omega) (by omega) (.inr (by omega))).mono fun e w' h=>⟨false,h⟩
  clear hM hH c0 c1 c2 c3 c5 c6 c7 c8
  have e1:IntKind.i64.wrap (H.num:Int)=H.num:=IntWalk.i64_in _ (by omega)
  generalize aO M.ds H.num=d at*
  generalize H.num=z at*
  generalize H.f=f at*
  go_enter Tryz.func217,Tryz.ntmps217
  go_wp2_with fail
  refine (hD.out _).mono ?_
  rintro e w1 ⟨b,rfl,hb⟩
  have aD:af w1 w.heap.size 141 #[.int .i64 0,.int .i64 0]:=(af.made w _ _).only (ab.aA hb (fun _=>False)) (by simp)
  have k0:=aD.cell 0
  have k1:=aD.cell 1
  have z0:=aD.frozen 0
  have z1:=aD.frozen 1
  simp at k0 k1
  have aV:=aD.lt
  have cY:Below w.heap.size w w1:=((Below.refl _ _).alloc (Nat.le_refl _) _).trans (hb.mono (by simp))
  replace cY:=Lib.hid cY
  clear hb aD hD c4
  go_wp2_with fail
  exact bodyPost_ret (v:=dv d) (by simp [results,Tryz.results217,go_sem,dv,k0,k1,aV]) rfl ⟨rfl,((cY.out.setCell (by simp) _).setCell (by simp) _).alloc (by simp; omega) _⟩
end
end Go.Proofs.YtpanebgakndddaaGreat.Ta
