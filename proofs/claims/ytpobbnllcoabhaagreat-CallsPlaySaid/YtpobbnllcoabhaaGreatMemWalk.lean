/- Walks over layer 5 (mem): Workers, Waiting, Counter, WriterLock, Desc, Now, Retire, Take, Table. -/
import Derived.Test.YtpobbnllcoabhaaGreatMemKit
import Derived.Test.YtpobbnllcoabhaaGreatFnvWalk
import Derived.Deep.QuietTactic
import Derived.BigQuiet
set_option linter.unusedVariables false
set_option linter.unusedSimpArgs false
namespace Go.Proofs.YtpobbnllcoabhaaGreat.Me
open Go Go.RowKit Hp K Fl Rw Hm Ar Mm
set_option maxRecDepth 100000
def dv (d:Nat×Nat):Value:=.agg #[.int .i64 d.1,.int .i64 d.2]
theorem row_len {α:Type} {w:World} {e:TypeId} {c:Nat} {f:α→List Value} {A:Option Addr} {cap:Nat} {xs:List α} (h:Row w e c f A cap xs):xs.length≤9223372036854775807:=by
 have:=h.capLe
 simp only [maxLen] at this
 omega
section
variable {w:World} {M:Mo}
theorem workers_any (h:MemAt w M):Calls Tryz.prog 226 #[ptr M.m] w fun e w'=>e=.returned (.int .i64 M.k)∧w=w':=by
 have hc:=h.hd.2.2.2.1
 clear h
 go_enter Tryz.func226,Tryz.ntmps226
 go_wp2
 go_ret
 exact ⟨rfl,rfl⟩
theorem waiting_any (h:MemAt w M):Calls Tryz.prog 17 #[ptr M.m] w fun e w'=>e=.returned (.int .i64 M.ws.length)∧w=w':=by
 have hc:=h.hd.2.2.2.2.2
 have hl:=row_len h.2.2.2.2.2
 clear h
 go_enter Tryz.func17,Tryz.ntmps17
 go_wp2
 go_ret
 exact ⟨rfl,rfl⟩
theorem counter_any (n:Int) (w:World) (h0: -1000000≤n) (h1:n≤1000000):Calls Tryz.prog 47 #[.int .i64 n] w fun e w'=>e=.returned (.int .i64 (2+n))∧w=w':=by
 go_enter Tryz.func47,Tryz.ntmps47
 go_wp2
 go_ret
 exact ⟨rfl,rfl⟩
theorem bucket_bd (s n:Int) (hs:0≤s):0≤FM.bucket s n∧FM.bucket s n<65536:=by
 unfold FM.bucket
 split
 · rename_i hp
   have hbd:=FM.power_bd hp
   exact ⟨Int.emod_nonneg _ (by omega),by have:=Int.emod_lt_of_pos s (show 0<n by omega); omega⟩
 · omega
theorem writer_any (s n:Int) (w:World) (hs0:0≤s) (hs1:s<4294967296) (h0: -9223372036854775808≤n) (h1:n≤9223372036854775807):
 Calls Tryz.prog 183 #[.int .u32 s,.int .i64 n] w fun e w'=>e=.returned (.int .i64 (1+FM.bucket s n % 4))∧w=w':=by
 have hb:=bucket_bd s n hs0
 have hB:=Lib.hid (Fnv.bucket_any s n w hs0 hs1 h0 h1)
 generalize FM.bucket s n=b at*
 go_enter Tryz.func183,Tryz.ntmps183
 go_wp2_with (go_at_call 164; refine hB.out.mono ?_; rintro e w' ⟨rfl,rfl⟩)
 go_ret
 exact ⟨rfl,rfl⟩
theorem desc_in (h:MemAt w M) (i:Nat) (hi:i<M.ds.length):Calls Tryz.prog 149 #[ptr M.m,.int .i64 i] w fun e w'=>e=.returned (.tuple #[dv (tab M.ds i),.bool true])∧Below w.heap.size w w':=by
 have hc:=h.hd.2.2.2.2.1
 have hl:=row_len h.2.2.2.2.1
 obtain ⟨b,hT,hb,c0,c1⟩:=descs_at h.2.2.2.2.1 i hi
 rw [hT] at hc
 have hm:=h.1.lt
 clear h hT
 generalize tab M.ds i=d at*
 generalize M.ds.length=n at*
 generalize M.m=m at*
 go_enter Tryz.func149,Tryz.ntmps149
 go_wp2
 exact bodyPost_ret (v:=.tuple #[dv d,.bool true]) (by simp [results,Tryz.results149,go_sem,dv]) rfl ⟨rfl,by first | exact ((Below.refl _ _).alloc (Nat.le_refl _) _) | exact (((Below.refl _ _).alloc (Nat.le_refl _) _).setCell (by simp) _).setCell (by simp) _⟩
theorem desc_out (h:MemAt w M) (i:Int) (h0: -9223372036854775808≤i) (h1:i≤9223372036854775807) (hi:i<0∨M.ds.length≤i):Calls Tryz.prog 149 #[ptr M.m,.int .i64 i] w fun e w'=>e=.returned (.tuple #[dv (0,0),.bool false])∧Below w.heap.size w w':=by
 have hc:=h.hd.2.2.2.2.1
 have hl:=row_len h.2.2.2.2.1
 have hm:=h.1.lt
 clear h
 generalize M.ds.length=n at*
 generalize M.m=m at*
 by_cases hn:i<0
 · go_enter Tryz.func149,Tryz.ntmps149
   go_wp2
   exact bodyPost_ret (v:=.tuple #[dv (0,0),.bool false]) (by simp [results,Tryz.results149,go_sem,dv]) rfl ⟨rfl,by first | exact ((Below.refl _ _).alloc (Nat.le_refl _) _) | exact (((Below.refl _ _).alloc (Nat.le_refl _) _).setCell (by simp) _).setCell (by simp) _⟩
 · have hi:(n:Int)≤i:=by omega
   go_enter Tryz.func149,Tryz.ntmps149
   go_wp2
   exact bodyPost_ret (v:=.tuple #[dv (0,0),.bool false]) (by simp [results,Tryz.results149,go_sem,dv]) rfl ⟨rfl,by first | exact ((Below.refl _ _).alloc (Nat.le_refl _) _) | exact (((Below.refl _ _).alloc (Nat.le_refl _) _).setCell (by simp) _).setCell (by simp) _⟩
theorem now_any (h:MemAt w M) (hx:1<M.xs.length):Calls Tryz.prog 32 #[ptr M.m] w fun e w'=>e=.returned (dv (now M.xs M.ds))∧Below w.heap.size w w':=by
 have hL:Hid (∀ o,Calls Tryz.prog 54 #[ptr M.g,.int .i64 1] (w.alloc o) fun e w'=>e=.returned (.tuple #[.int .u64 (Cl.nth M.xs 1),.int .i64 0])∧w'=w.alloc o):=
  Lib.hid fun o=>Cl.load_in (h.alloc o).2.1 1 hx
 have hc0:=h.hd.1
 have hc:=h.hd.2.2.2.2.1
 have hl:=row_len h.2.2.2.2.1
 have hm:=h.1.lt
 have hbd:=Cl.getD_bd h.2.1.2.2.1 1
 unfold now
 obtain ⟨z,hz⟩:=Int.eq_ofNat_of_zero_le hbd.1
 rw [hz] at hL hbd ⊢
 rw [Int.toNat_natCast]
 by_cases hi:z<M.ds.length
 · obtain ⟨b,hT,hb,c0,c1⟩:=descs_at h.2.2.2.2.1 z hi
   rw [hT] at hc
   clear h hT hz hx
   generalize tab M.ds z=d at*
   generalize M.ds.length=n at*
   generalize M.m=m at*
   generalize M.g=g at*
   have hi':¬n≤z:=by omega
   go_enter Tryz.func32,Tryz.ntmps32
   go_wp2_with (go_at_call 54; refine (hL.out _).mono ?_; rintro e w' ⟨rfl,rfl⟩)
   exact bodyPost_ret (v:=dv d) (by simp [results,Tryz.results32,go_sem,dv]) rfl ⟨rfl,by first | exact ((Below.refl _ _).alloc (Nat.le_refl _) _) | exact (((Below.refl _ _).alloc (Nat.le_refl _) _).setCell (by simp) _).setCell (by simp) _⟩
 · rw [tab_none (by omega)]
   clear h hz hx
   generalize M.ds.length=n at*
   generalize M.m=m at*
   generalize M.g=g at*
   have hi':n≤z:=by omega
   go_enter Tryz.func32,Tryz.ntmps32
   go_wp2_with (go_at_call 54; refine (hL.out _).mono ?_; rintro e w' ⟨rfl,rfl⟩)
   exact bodyPost_ret (v:=dv (0,0)) (by simp [results,Tryz.results32,go_sem,dv]) rfl ⟨rfl,by first | exact ((Below.refl _ _).alloc (Nat.le_refl _) _) | exact (((Below.refl _ _).alloc (Nat.le_refl _) _).setCell (by simp) _).setCell (by simp) _⟩
def Put (w:World) (M:Mo) (h:Nat) (w':World):Prop:=
 ∃ V' capV',MemAt w' {M with V:=V',capV:=capV',ws:=M.ws++[h]}∧Only (fun x=>x=M.m∨In M.V x) w w'∧∀ x,In V' x→In M.V x∨w.heap.size≤x
theorem retire_any (h:MemAt w M) (x:Nat) (hn:M.ws.length≤1000000):Calls Tryz.prog 167 #[ptr M.m,.int .u64 x] w fun e w'=>e=.returned (.tuple #[])∧Put w M x w':=by
 have hc:=h.hd.2.2.2.2.2
 have hf:=h.1.frozen 5
 have H:=Lib.hid h
 obtain ⟨i0,hi0,hz0,hz1,hz2⟩:=info_parts info_handle
 have hT:=Lib.hid (fun (w1:World) (V':Option Addr) (cap':Nat) (hr:Hnds w1 V' cap' (M.ws++[x])) (ho:Only (In M.V) w w1)=>h.wait hr ho)
 have hB:=Lib.hid (fun (w1:World) (ho:Only (In M.V) w w1)=>h.1.only ho (fun q=>(row_ty h.2.2.2.2.2 q).apart (blk_ty h.1) (by decide)))
 generalize hws:M.ws.length=n at*
 replace hws:=Lib.hid hws
 clear h
 go_enter Tryz.func167,Tryz.ntmps167
 go_wp2_with (at_builtin
              refine wpList_append_one w rfl (.tmp 8) (.tmp 10) 37 rfl 73 i0 (.int .u64 0) 1 8 Tryz.underlying37 hi0 hz0 hz1 hz2 rfl (by omega) hnd (fun _=>rfl) (by intro x u hu; simp [hnd] at hu; subst hu; rfl)
               M.V M.capV n M.ws hws.out x #[.int .u64 x] rfl rfl H.out.2.2.2.2.2 rfl (by simp only [maxLen]; omega) (by omega) ?_
              intro A2 cap2 w4 hR4 hO4 hA4
              have hB4:=hB.out w4 hO4
              have hc4:=hB4.cell 5
              have hf4:=hB4.frozen 5
              have hT4:=Lib.hid (hT.out w4 A2 cap2 hR4 hO4)
              rw [List.length_append,hws.out] at hT4)
 go_end0
 exact ⟨rfl,A2,cap2,hT4.out.1,hT4.out.2,hA4⟩
theorem take_any (h:MemAt w M):Calls Tryz.prog 252 #[ptr M.m] w fun e w'=>e=.returned (.slice M.V M.ws.length M.capV)∧MemAt w' {M with V:=none,capV:=0,ws:=[]}∧Only (·=M.m) w w':=by
 have hc:=h.hd.2.2.2.2.2
 have hf:=h.1.frozen 5
 have hT:=Lib.hid (h.wait (V':=none) (cap':=0) (ws':=[]) (Row.nil w _ _ _) (Only.refl _ _)).1
 clear h
 go_enter Tryz.func252,Tryz.ntmps252
 go_wp2
 go_ret
 exact ⟨rfl,hT.out,(Only.refl (·=M.m) _).setCell (p:=⟨M.m,5,none⟩) (.inl rfl) _⟩
theorem table_no (h:MemAt w M) (n:Int) (h0: -9223372036854775808≤n) (h1:n≤9223372036854775807) (hp:FM.power n=false):
 Calls Tryz.prog 50 #[ptr M.m,.int .i64 n] w fun e w'=>e=.returned (.tuple #[.int .i64 (-1),.int .i64 5])∧w=w':=by
 have hP:=Lib.hid (Fnv.power_any n w h0 h1)
 rw [hp] at hP
 clear h hp
 go_enter Tryz.func50,Tryz.ntmps50
 go_wp2_with (go_at_call 58; refine hP.out.mono ?_; rintro e w' ⟨rfl,rfl⟩)
 go_ret2
 exact ⟨rfl,rfl⟩
theorem table_full (h:MemAt w M) (n:Int) (h0: -9223372036854775808≤n) (h1:n≤9223372036854775807) (hp:FM.power n=true) (hn:1048576-(M.xs.length:Int)<n):
 Calls Tryz.prog 50 #[ptr M.m,.int .i64 n] w fun e w'=>e=.returned (.tuple #[.int .i64 (-1),.int .i64 2])∧w=w':=by
 have hP:=Lib.hid (Fnv.power_any n w h0 h1)
 rw [hp] at hP
 have hG:=Lib.hid (Cl.grow_no h.2.1 n h0 h1 (.inr hn))
 have hc:=h.hd.1
 clear h hp hn
 go_enter Tryz.func50,Tryz.ntmps50
 go_wp2_with (first
  | (go_at_call 58; refine hP.out.mono ?_; rintro e w' ⟨rfl,rfl⟩)
  | (go_at_call 73; refine hG.out.mono ?_; rintro e w' ⟨rfl,rfl⟩))
 go_ret2
 exact ⟨rfl,rfl⟩
def Tabled (w:World) (M:Mo) (n:Nat) (w':World):Prop:=
 ∃ A' cap' T' capT',MemAt w' {M with A:=A',cap:=cap',xs:=M.xs++List.replicate n 0,T:=T',capT:=capT',ds:=M.ds++[(n,M.xs.length)]}∧Only (mfoot M) w w'∧
   (∀ x,In A' x→In M.A x∨w.heap.size≤x)∧∀ x,In T' x→In M.T x∨w.heap.size≤x
theorem table_ok (h:MemAt w M) (n:Nat) (hp:FM.power n=true) (hn:M.xs.length+n≤1048576) (hd:M.ds.length≤1000000):
 Calls Tryz.prog 50 #[ptr M.m,.int .i64 n] w fun e w'=>e=.returned (.tuple #[.int .i64 M.ds.length,.int .i64 0])∧Tabled w M n w':=by
 have hP:=Lib.hid (Fnv.power_any n w (by omega) (by omega))
 rw [hp] at hP
 have hG:=Lib.hid (Cl.grow_yes h.2.1 n hn)
 have hc:=h.hd.1
 have H:=Lib.hid h
 clear h hp
 obtain ⟨i0,hi0,hz0,hz1,hz2⟩:=info_parts info_desc
 generalize hdl:M.ds.length=k at*
 generalize hxl:M.xs.length=xl at*
 replace hdl:=Lib.hid hdl
 replace hxl:=Lib.hid hxl
 go_enter Tryz.func50,Tryz.ntmps50
 go_wp2_with (go_at_call 58; refine hP.out.mono ?_; rintro e w' ⟨rfl,hw⟩; obtain rfl:w=w':=hw.symm)
 refine hG.out.mono ?_
 rintro e w1 ⟨rfl,A1,cap1,hC1,hO1,hA1⟩
 have hM1:=H.out.cells hC1 hO1
 have hc1:=hM1.hd.2.2.2.2.1
 replace hM1:=Lib.hid hM1
 have hlt:∀ x,In M.T x→x<w.heap.size:=fun x hx=>H.out.lt (.inr (.inr (.inr (.inr (.inl hx)))))
 have hO1':Only (mfoot M) w w1:=hO1.mono (fun x _ q=>.inr (.inl q))
 replace hO1':=Lib.hid hO1'
 replace hA1:=Lib.hid hA1
 replace hlt:=Lib.hid hlt
 clear hC1 hO1 hG hP hc
 simp only [hdl.out] at hc1
 go_wp2_with (at_builtin
              refine wpList_append_one w1 rfl (.tmp 27) (.tmp 31) 36 rfl 82 i0 (.agg #[.int .i64 0,.int .i64 0]) 2 16 Tryz.underlying36 hi0 hz0 hz1 hz2 rfl (by omega) dsc dsc_len (by intro x u hu; simp [dsc] at hu; rcases hu with rfl | rfl<;>rfl)
               M.T M.capT k M.ds hdl.out (n,xl) #[.int .i64 n,.int .i64 xl] rfl rfl hM1.out.2.2.2.2.1 rfl (by simp only [maxLen]; omega) (by omega) ?_
              intro T2 cap2 w2 hR2 hO2 hT2
              have hB2:=hM1.out.1.only hO2 (fun q=>(row_ty hM1.out.2.2.2.2.1 q).apart (blk_ty hM1.out.1) (by decide))
              have hc2:=hB2.cell 4
              have hf2:=hB2.frozen 4
              have hM2:=Lib.hid (hM1.out.tables hR2 hO2)
              have hc3:=hM2.out.1.hd.2.2.2.2.1
              rw [List.length_append,hdl.out] at hM2 hc3
              replace hO2:=Lib.hid hO2
              replace hT2:=Lib.hid hT2
              clear hB2 hc1 hR2)
 go_ret2
 refine ⟨rfl,A1,cap1,T2,cap2,by rw [hxl.out]; exact hM2.out.1,?_,hA1.out,fun x hx=>?_⟩
 · refine hO1'.out.trans' hM2.out.2 (fun x _ q=>?_)
   rcases q with q | q
   · exact .inl q
   · exact .inr (.inr (.inr (.inr (.inl q))))
 · rcases hT2.out x hx with q | q
   · exact .inl q
   · exact .inr (Nat.le_trans hO1'.out.size q)
end
end Go.Proofs.YtpobbnllcoabhaaGreat.Me
