/- A part. -/
import Derived.Test.YtpanebgakndddaaGreatMemKit
import Derived.Test.YtpanebgakndddaaGreatFnvWalk
import Derived.Deep.QuietTactic
import Derived.BigQuiet
set_option linter.unusedVariables false
set_option linter.unusedSimpArgs false
namespace Go.Proofs.YtpanebgakndddaaGreat.Me
open Go Go.RowKit Hp K Fl Rw Hm Ar Mm
set_option maxRecDepth 100000
def dv (d:Nat×Nat):Value:=.agg #[.int .i64 d.1,.int .i64 d.2]
theorem xd {α:Type} {w:World} {e:TypeId} {c:Nat} {f:α->List Value} {A:Option Addr} {cap:Nat} {xs:List α} (h:Row w e c f A cap xs):xs.length<=9223372036854775807:=by
 have:=h.ui
 simp only [maxLen] at this
 omega
section
variable {w:World} {M:Mo}
theorem Sp (h:ah w M):Calls Tryz.prog 165 #[ptr M.m] w fun e w'=>e=.returned (.int .i64 M.k)/\w=w':=by
 have hc:=h.hd.2.2.2.1
 clear h
 go_enter Tryz.func165,Tryz.ntmps165
 go_wp2
 go_ret
 exact ⟨rfl,rfl⟩
theorem Sq (h:ah w M):Calls Tryz.prog 22 #[ptr M.m] w fun e w'=>e=.returned (.int .i64 M.ws.length)/\w=w':=by
 have hc:=h.hd.2.2.2.2.2
 have hl:=xd h.2.2.2.2.2
 clear h
 go_enter Tryz.func22,Tryz.ntmps22
 go_wp2
 go_ret
 exact ⟨rfl,rfl⟩
theorem xc (n:Int) (w:World) (h0: -1000000<=n) (h1:n<=1000000):Calls Tryz.prog 43 #[.int .i64 n] w fun e w'=>e=.returned (.int .i64 (2+n))/\w=w':=by
 go_enter Tryz.func43,Tryz.ntmps43
 go_wp2
 go_ret
 exact ⟨rfl,rfl⟩
theorem qR (s n:Int) (hs:0<=s):0<=FM.bucket s n/\FM.bucket s n<65536:=by
 unfold FM.bucket
 split
 ·rename_i hp
  have gH:=FM.eG hp
  exact ⟨Int.emod_nonneg _ (by omega),by have:=Int.emod_lt_of_pos s (show 0<n by omega); omega⟩
 ·omega
theorem Sr (s n:Int) (w:World) (xR:0<=s) (lI:s<4294967296) (h0: -9223372036854775808<=n) (h1:n<=9223372036854775807):
 Calls Tryz.prog 216 #[.int .u32 s,.int .i64 n] w fun e w'=>e=.returned (.int .i64 (1+FM.bucket s n % 4))/\w=w':=by
 have hb:=qR s n xR
 have hB:=Lib.hid (lO.zp s n w xR lI h0 h1)
 generalize FM.bucket s n=b at*
 go_enter Tryz.func216,Tryz.ntmps216
 go_wp2_with (go_at_call 201; refine hB.out.mono ?_; rintro e w' ⟨rfl,rfl⟩)
 go_ret
 exact ⟨rfl,rfl⟩
theorem CG (h:ah w M) (i:Nat) (hi:i<M.ds.length):Calls Tryz.prog 187 #[ptr M.m,.int .i64 i] w fun e w'=>e=.returned (.tuple #[dv (aO M.ds i),.bool true])/\Below w.heap.size w w':=by
 have hc:=h.hd.2.2.2.2.1
 have hl:=xd h.2.2.2.2.1
 obtain ⟨b,hT,hb,c0,c1⟩:=IU h.2.2.2.2.1 i hi
 rw [hT] at hc
 have hm:=h.1.lt
 clear h hT
 generalize aO M.ds i=d at*
 generalize M.ds.length=n at*
 generalize M.m=m at*
 go_enter Tryz.func187,Tryz.ntmps187
 go_wp2
 exact bodyPost_ret (v:=.tuple #[dv d,.bool true]) (by simp [results,Tryz.results187,go_sem,dv]) rfl ⟨rfl,by first | exact ((Below.refl _ _).alloc (Nat.le_refl _) _) | exact (((Below.refl _ _).alloc (Nat.le_refl _) _).setCell (by simp) _).setCell (by simp) _⟩
theorem Ss (h:ah w M) (i:Int) (h0: -9223372036854775808<=i) (h1:i<=9223372036854775807) (hi:i<0\/M.ds.length<=i):Calls Tryz.prog 187 #[ptr M.m,.int .i64 i] w fun e w'=>e=.returned (.tuple #[dv (0,0),.bool false])/\Below w.heap.size w w':=by
 have hc:=h.hd.2.2.2.2.1
 have hl:=xd h.2.2.2.2.1
 have hm:=h.1.lt
 clear h
 generalize M.ds.length=n at*
 generalize M.m=m at*
 by_cases hn:i<0
 ·go_enter Tryz.func187,Tryz.ntmps187
  go_wp2
  exact bodyPost_ret (v:=.tuple #[dv (0,0),.bool false]) (by simp [results,Tryz.results187,go_sem,dv]) rfl ⟨rfl,by first | exact ((Below.refl _ _).alloc (Nat.le_refl _) _) | exact (((Below.refl _ _).alloc (Nat.le_refl _) _).setCell (by simp) _).setCell (by simp) _⟩
 ·have hi:(n:Int)<=i:=by omega
  go_enter Tryz.func187,Tryz.ntmps187
  go_wp2
  exact bodyPost_ret (v:=.tuple #[dv (0,0),.bool false]) (by simp [results,Tryz.results187,go_sem,dv]) rfl ⟨rfl,by first | exact ((Below.refl _ _).alloc (Nat.le_refl _) _) | exact (((Below.refl _ _).alloc (Nat.le_refl _) _).setCell (by simp) _).setCell (by simp) _⟩
theorem pJ (h:ah w M) (hx:1<M.xs.length):Calls Tryz.prog 64 #[ptr M.m] w fun e w'=>e=.returned (dv (now M.xs M.ds))/\Below w.heap.size w w':=by
 have hL:Hid (∀ o,Calls Tryz.prog 90 #[ptr M.g,.int .i64 1] (w.alloc o) fun e w'=>e=.returned (.tuple #[.int .u64 (Cl.nth M.xs 1),.int .i64 0])/\w'=w.alloc o):=
  Lib.hid fun o=>Cl.nh (h.alloc o).2.1 1 hx
 have fg:=h.hd.1
 have hc:=h.hd.2.2.2.2.1
 have hl:=xd h.2.2.2.2.1
 have hm:=h.1.lt
 have gH:=Cl.eU h.2.1.2.2.1 1
 unfold now
 obtain ⟨z,hz⟩:=Int.eq_ofNat_of_zero_le gH.1
 rw [hz] at hL gH ⊢
 rw [Int.toNat_natCast]
 by_cases hi:z<M.ds.length
 ·obtain ⟨b,hT,hb,c0,c1⟩:=IU h.2.2.2.2.1 z hi
  rw [hT] at hc
  clear h hT hz hx
  generalize aO M.ds z=d at*
  generalize M.ds.length=n at*
  generalize M.m=m at*
  generalize M.g=g at*
  have yd:¬n<=z:=by omega
  go_enter Tryz.func64,Tryz.ntmps64
  go_wp2_with (go_at_call 90; refine (hL.out _).mono ?_; rintro e w' ⟨rfl,rfl⟩)
  exact bodyPost_ret (v:=dv d) (by simp [results,Tryz.results64,go_sem,dv]) rfl ⟨rfl,by first | exact ((Below.refl _ _).alloc (Nat.le_refl _) _) | exact (((Below.refl _ _).alloc (Nat.le_refl _) _).setCell (by simp) _).setCell (by simp) _⟩
 ·rw [sq (by omega)]
  clear h hz hx
  generalize M.ds.length=n at*
  generalize M.m=m at*
  generalize M.g=g at*
  have yd:n<=z:=by omega
  go_enter Tryz.func64,Tryz.ntmps64
  go_wp2_with (go_at_call 90; refine (hL.out _).mono ?_; rintro e w' ⟨rfl,rfl⟩)
  exact bodyPost_ret (v:=dv (0,0)) (by simp [results,Tryz.results64,go_sem,dv]) rfl ⟨rfl,by first | exact ((Below.refl _ _).alloc (Nat.le_refl _) _) | exact (((Below.refl _ _).alloc (Nat.le_refl _) _).setCell (by simp) _).setCell (by simp) _⟩
def dk (w:World) (M:Mo) (h:Nat) (w':World):Prop:=
 ∃ V' capV',ah w' {M with V:=V',capV:=capV',ws:=M.ws++[h]}/\ab (fun x=>x=M.m\/In M.V x) w w'/\∀ x,In V' x->In M.V x\/w.heap.size<=x
theorem St (h:ah w M) (x:Nat) (hn:M.ws.length<=1000000):Calls Tryz.prog 18 #[ptr M.m,.int .u64 x] w fun e w'=>e=.returned (.tuple #[])/\dk w M x w':=by
 have hc:=h.hd.2.2.2.2.2
 have hf:=h.1.frozen 5
 have H:=Lib.hid h
 obtain ⟨i0,cq,cy,cL,cz⟩:=info_parts IS
 have hT:=Lib.hid (fun (w1:World) (V':Option Addr) (cap':Nat) (hr:qZ w1 V' cap' (M.ws++[x])) (ho:ab (In M.V) w w1)=>h.wait hr ho)
 have hB:=Lib.hid (fun (w1:World) (ho:ab (In M.V) w w1)=>h.1.only ho (fun q=>(cw h.2.2.2.2.2 q).apart (bm h.1) (by decide)))
 generalize pe:M.ws.length=n at*
 replace pe:=Lib.hid pe
 clear h
 go_enter Tryz.func18,Tryz.ntmps18
 go_wp2_with (at_builtin
              refine kx w rfl (.tmp 8) (.tmp 10) 61 rfl 40 i0 (.int .u64 0) 1 8 Tryz.underlying61 cq cy cL cz rfl (by omega) bS (fun _=>rfl) (by intro x u hu; simp [bS] at hu; subst hu; rfl)
               M.V M.capV n M.ws pe.out x #[.int .u64 x] rfl rfl H.out.2.2.2.2.2 rfl (by simp only [maxLen]; omega) (by omega) ?_
              intro A2 cap2 w4 ka aN iz
              have az:=hB.out w4 aN
              have WN:=az.cell 5
              have En:=az.frozen 5
              have EY:=Lib.hid (hT.out w4 A2 cap2 ka aN)
              rw [List.length_append,pe.out] at EY)
 go_end0
 exact ⟨rfl,A2,cap2,EY.out.1,EY.out.2,iz⟩
theorem HV (h:ah w M) (n:Int) (h0: -9223372036854775808<=n) (h1:n<=9223372036854775807) (hp:FM.bl n=false):
 Calls Tryz.prog 46 #[ptr M.m,.int .i64 n] w fun e w'=>e=.returned (.tuple #[.int .i64 (-1),.int .i64 5])/\w=w':=by
 have hP:=Lib.hid (lO.qI n w h0 h1)
 rw [hp] at hP
 clear h hp
 go_enter Tryz.func46,Tryz.ntmps46
 go_wp2_with (go_at_call 68; refine hP.out.mono ?_; rintro e w' ⟨rfl,rfl⟩)
 go_ret2
 exact ⟨rfl,rfl⟩
theorem HU (h:ah w M) (n:Int) (h0: -9223372036854775808<=n) (h1:n<=9223372036854775807) (hp:FM.bl n=true) (hn:1048576-(M.xs.length:Int)<n):
 Calls Tryz.prog 46 #[ptr M.m,.int .i64 n] w fun e w'=>e=.returned (.tuple #[.int .i64 (-1),.int .i64 2])/\w=w':=by
 have hP:=Lib.hid (lO.qI n w h0 h1)
 rw [hp] at hP
 have hG:=Lib.hid (Cl.Nf h.2.1 n h0 h1 (.inr hn))
 have hc:=h.hd.1
 clear h hp hn
 go_enter Tryz.func46,Tryz.ntmps46
 go_wp2_with (first
  | (go_at_call 68; refine hP.out.mono ?_; rintro e w' ⟨rfl,rfl⟩)
  | (go_at_call 66; refine hG.out.mono ?_; rintro e w' ⟨rfl,rfl⟩))
 go_ret2
 exact ⟨rfl,rfl⟩
def IY (w:World) (M:Mo) (n:Nat) (w':World):Prop:=
 ∃ A' cap' T' capT',ah w' {M with A:=A',cap:=cap',xs:=M.xs++List.replicate n 0,T:=T',capT:=capT',ds:=M.ds++[(n,M.xs.length)]}/\ab (aq M) w w'/\
   (∀ x,In A' x->In M.A x\/w.heap.size<=x)/\∀ x,In T' x->In M.T x\/w.heap.size<=x
theorem CF (h:ah w M) (n:Nat) (hp:FM.bl n=true) (hn:M.xs.length+n<=1048576) (hd:M.ds.length<=1000000):
 Calls Tryz.prog 46 #[ptr M.m,.int .i64 n] w fun e w'=>e=.returned (.tuple #[.int .i64 M.ds.length,.int .i64 0])/\IY w M n w':=by
 have hP:=Lib.hid (lO.qI n w (by omega) (by omega))
 rw [hp] at hP
 have hG:=Lib.hid (Cl.Gq h.2.1 n hn)
 have hc:=h.hd.1
 have H:=Lib.hid h
 clear h hp
 obtain ⟨i0,cq,cy,cL,cz⟩:=info_parts R8
 generalize lT:M.ds.length=k at*
 generalize bz:M.xs.length=xl at*
 replace lT:=Lib.hid lT
 replace bz:=Lib.hid bz
 go_enter Tryz.func46,Tryz.ntmps46
 go_wp2_with (go_at_call 68; refine hP.out.mono ?_; rintro e w' ⟨rfl,hw⟩; obtain rfl:w=w':=hw.symm)
 refine hG.out.mono ?_
 rintro e w1 ⟨rfl,A1,cap1,nE,ax,cQ⟩
 have aw:=H.out.cells nE ax
 have oe:=aw.hd.2.2.2.2.1
 replace aw:=Lib.hid aw
 have aV:∀ x,In M.T x->x<w.heap.size:=fun x hx=>H.out.lt (.inr (.inr (.inr (.inr (.inl hx)))))
 have A7:ab (aq M) w w1:=ax.mono (fun x _ q=>.inr (.inl q))
 replace A7:=Lib.hid A7
 replace cQ:=Lib.hid cQ
 replace aV:=Lib.hid aV
 clear nE ax hG hP hc
 simp only [lT.out] at oe
 go_wp2_with (at_builtin
              refine kx w1 rfl (.tmp 27) (.tmp 31) 60 rfl 141 i0 (.agg #[.int .i64 0,.int .i64 0]) 2 16 Tryz.underlying60 cq cy cL cz rfl (by omega) re IT (by intro x u hu; simp [re] at hu; rcases hu with rfl | rfl<;>rfl)
               M.T M.capT k M.ds lT.out (n,xl) #[.int .i64 n,.int .i64 xl] rfl rfl aw.out.2.2.2.2.1 rfl (by simp only [maxLen]; omega) (by omega) ?_
              intro T2 cap2 w2 bG ae EZ
              have ag:=aw.out.1.only ae (fun q=>(cw aw.out.2.2.2.2.1 q).apart (bm aw.out.1) (by decide))
              have ev:=ag.cell 4
              have cI:=ag.frozen 4
              have aI:=Lib.hid (aw.out.tables bG ae)
              have AJ:=aI.out.1.hd.2.2.2.2.1
              rw [List.length_append,lT.out] at aI AJ
              replace ae:=Lib.hid ae
              replace EZ:=Lib.hid EZ
              clear ag oe bG)
 go_ret2
 refine ⟨rfl,A1,cap1,T2,cap2,by rw [bz.out]; exact aI.out.1,?_,cQ.out,fun x hx=>?_⟩
 ·refine A7.out.trans' aI.out.2 (fun x _ q=>?_)
  rcases q with q | q
  ·exact .inl q
  ·exact .inr (.inr (.inr (.inr (.inl q))))
 ·rcases EZ.out x hx with q | q
  ·exact .inl q
  ·exact .inr (Nat.le_trans A7.out.size q)
end
end Go.Proofs.YtpanebgakndddaaGreat.Me
