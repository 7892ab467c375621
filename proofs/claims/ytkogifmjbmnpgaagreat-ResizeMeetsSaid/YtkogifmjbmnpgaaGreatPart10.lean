/- Walks and plain mathematics, put together in their order: SeekC, PutA, PutB, PutD, PutE, PutG, SeekH, PutH. -/
import Derived.Test.YtkogifmjbmnpgaaGreatPart9
import Derived.Test.YtkogifmjbmnpgaaGreatMapA
import Derived.Test.YtkogifmjbmnpgaaGreatGetD
set_option linter.unusedVariables false
set_option linter.unusedSimpArgs false
namespace Go.Proofs.YtkogifmjbmnpgaaGreat.Pu
open Go Go.RowKit Hp K Fl Rw Hm Ar Mm Me Wk Ta Pn Pc
set_option maxRecDepth 100000
theorem lstep_desc {xs:List Int} {ds:List (Nat×Nat)} {s:List Int×Ho} (h:s.2.d.1≤65536∧s.2.d.2≤4000000) (ht:∀ i,(tab ds i).1≤65536∧(tab ds i).2≤4000000):(lstep xs ds s).2.d.1≤65536∧(lstep xs ds s).2.d.2≤4000000:=by
 unfold lstep
 split
 · exact h
 split
 · exact ht _
 split
 · split<;>exact h
 split<;>exact h
theorem sstep_fm {w:World} {F f:Nat} {cv m:Value} {c:Bool} {P:World→Prop} (c4:w.cell? ⟨f,3,none⟩=some (wfm F cv)) (eF:∀ args w,(callFunc F args).run Tryz.prog w=.ok (.enter F args) w)
 (hF:Calls Tryz.prog F #[cv,m] w fun e w'=>e=.returned (.bool c)∧P w'):Calls Tryz.prog 77 #[ptr f,m] w fun e w'=>e=.returned (.bool c)∧P w':=by
 replace hF:=Lib.hid hF
 go_enter Tryz.func77,Tryz.ntmps77
 go_wp2_with fail
 refine hF.out.mono ?_
 rintro e w' ⟨rfl,hPw⟩
 replace hPw:=Lib.hid hPw
 clear c4
 go_wp2_with fail
 go_ret
 exact ⟨rfl,hPw.out⟩
theorem sready_fm {w:World} {F f:Nat} {cv m:Value} {c:Bool} {P:World→Prop} (c3:w.cell? ⟨f,2,none⟩=some (wfm F cv)) (eF:∀ args w,(callFunc F args).run Tryz.prog w=.ok (.enter F args) w)
 (hF:Calls Tryz.prog F #[cv,m] w fun e w'=>e=.returned (.bool c)∧P w'):Calls Tryz.prog 239 #[ptr f,m] w fun e w'=>e=.returned (.bool c)∧P w':=by
 replace hF:=Lib.hid hF
 go_enter Tryz.func239,Tryz.ntmps239
 go_wp2_with fail
 refine hF.out.mono ?_
 rintro e w' ⟨rfl,hPw⟩
 replace hPw:=Lib.hid hPw
 clear c3
 go_wp2_with fail
 go_ret
 exact ⟨rfl,hPw.out⟩
theorem enters_hr (args:Array Value) (w:World):(callFunc 75 args).run Tryz.prog w=.ok (.enter 75 args) w:=by kernel_rfl
theorem enters_wr (args:Array Value) (w:World):(callFunc 112 args).run Tryz.prog w=.ok (.enter 112 args) w:=by kernel_rfl
theorem enters_ws (args:Array Value) (w:World):(callFunc 113 args).run Tryz.prog w=.ok (.enter 113 args) w:=by kernel_rfl
theorem enters_hb (args:Array Value) (w:World):(callFunc 76 args).run Tryz.prog w=.ok (.enter 76 args) w:=by kernel_rfl
section
variable {w w':World} {M:Mo} {a:Sa} {S:Sk}
theorem sk_ready (hM:MemAt w M) (h:SkAt w a S) (hl:S.ph=1→Okl M.xs M.ds (M.hs,S.H)):Calls Tryz.prog 239 #[ptr a.f,ptr M.m] w fun e w'=>e=.returned (.bool (sready (lm M) S))∧Below w.heap.size w w':=by
 have c3:=h.hd.2.2.1
 unfold srv at c3
 unfold sready
 split
 · rename_i h1
   rw [if_pos h1] at c3
   have:=hold_ready hM h.2.1 (hl h1).okh
   rw [hready_eq] at this
   exact sready_fm c3 enters_hr this
 · rename_i h1
   rw [if_neg h1] at c3
   exact sready_fm c3 enters_wr ((Wk.ready_any _ _ w).mono fun e w' q=>⟨q.1,q.2▸Below.refl _ _⟩)
theorem sk_step (hM:MemAt w M) (h:SkAt w a S) {r:Nat} (ok:Oks r (lm M) S) (hr:sready (lm M) S=true):
 Calls Tryz.prog 77 #[ptr a.f,ptr M.m] w fun e w'=>e=.returned (.bool (sdone (lm M) S))∧SStp w M a S (sstep (lm M) S).1 (sstep (lm M) S).2 w':=by
 have c4:=h.hd.2.2.2.1
 unfold snv at c4
 by_cases e1:S.ph=1
 · rw [if_pos e1] at c4
   have ed:sdone (lm M) S=false:=by unfold sdone; rw [if_pos e1]
   rw [ed]
   unfold sready at hr
   rw [if_pos e1] at hr
   exact sstep_fm c4 enters_hb (holdBucket_any hM h (ok.hd e1) (lstep_desc (ok.desc e1) ok.tb) ok.sum hr e1)
 · rw [if_neg e1] at c4
   have ed:sdone (lm M) S=Wk.gdone M.xs M.ss (M.F,S.W):=by unfold sdone; rw [if_neg e1]
   have es:sstep (lm M) S=({lm M with F:=(Wk.gstep M.xs M.ss (M.F,S.W)).1},{S with W:=(Wk.gstep M.xs M.ss (M.F,S.W)).2}):=by unfold sstep; rw [if_neg e1]
   rw [ed,es]
   have okw:=ok.wa e1
   have hS:=(walk_step hM h.2.2 ok.nexts (r:=r) ⟨okw.cell,okw.at_,okw.read,okw.nx⟩)
   rw [Gt.gdone_at,Gt.gstep_at] at hS
   refine sstep_fm c4 enters_ws (hS.mono fun e w' q=>⟨q.1,?_⟩)
   exact ⟨{M with F:=(Wk.gstep M.xs M.ss (M.F,S.W)).1},a,q.2.1,rfl,⟨rfl,rfl,rfl,rfl,fun _ y=>.inl y⟩,h.walked hM q.2.2.1 q.2.2.2,rfl,sfoot_to rfl rfl (.inl rfl),q.2.2.2.mono (fun x _ y=>y.imp id (fun e=>.inr (.inr e)))⟩
def slead (L:Lm) (S:Sk) (y:Nat):Lm:=if S.W.found≠0∧S.W.prev≠0 then {L with ss:=lnk L.ss S.W.prev y} else {L with xs:=L.xs.set S.cell.toNat y}
structure Okd (L:Lm) (S:Sk) (y:Nat):Prop where
 y:y≤18446744073709551615
 link:S.W.found≠0∧S.W.prev≠0→S.W.prev≤18446744073709551615∧∃ k,IsAt L.ss S.W.prev k
 cell:¬(S.W.found≠0∧S.W.prev≠0)→0≤S.cell∧S.cell<L.xs.length
def Led (w:World) (M:Mo) (a:Sa) (S:Sk) (L':Lm) (w':World):Prop:=∃ M',MemAt w' M'∧lm M'=L'∧Kin w M M'∧SkAt w' a S∧Only (mfoot M) w w'
set_option maxHeartbeats 2000000 in
theorem lead_link (hM:MemAt w M) (h:SkAt w a S) (hf:S.W.found≠0) (hp:S.W.prev≠0) (hb:S.W.prev≤18446744073709551615) {k:Nat} (hk:IsAt M.ss S.W.prev k) (y:Nat):
 Calls Tryz.prog 117 #[ptr a.f,ptr M.m,.int .u64 y] w fun e w'=>e=.returned (.tuple #[])∧Led w M a S (slead (lm M) S y) w':=by
 have hkk:(S.W.prev-1) % 65536=k:=(isAt_parts hM.2.2.2.1.room.2 hk).1
 have e:slead (lm M) S y={lm M with ss:=M.ss.set k {at' M.ss k with nd:={(at' M.ss k).nd with next:=(y:Int)}}}:=by
  unfold slead lnk
  rw [if_pos ⟨hf,hp⟩,hkk]
 rw [e]
 have hFd:=found_walk h
 rw [decide_eq_true hf] at hFd
 have hPv:∀ w1,Below w.heap.size w w1→Calls Tryz.prog 143 #[ptr a.w] w1 fun e w'=>e=.returned (.int .u64 S.W.prev)∧w1=w':=fun w1 hb1=>prev_any (h.below hb1).2.2
 have hA:=fun w1 (hb1:Below w.heap.size w w1)=>(link_ok (hM.below hb1).2.2.2.1 hb hk (y:Int)).mono fun e w2 q=>
  show e=.returned (.int .i64 0)∧Led w M a S {lm M with ss:=M.ss.set k {at' M.ss k with nd:={(at' M.ss k).nd with next:=(y:Int)}}} w2 from
   ⟨q.1,{M with ss:=M.ss.set k {at' M.ss k with nd:={(at' M.ss k).nd with next:=(y:Int)}}},(hM.below hb1).arena q.2.1 q.2.2,rfl,⟨rfl,rfl,rfl,rfl,fun _ y=>.inl y⟩,(h.below hb1).only q.2.2 (fun x hx q=>h.far hM hx (foot_arena _ q)),(Only.ofBelow hb1 _).trans (q.2.2.mono fun x _ q=>foot_arena _ q)⟩
 have bc:=Lib.hid (fun w1 (hb1:Below w.heap.size w w1)=>show w1.cell? ⟨a.f,6,none⟩=some (ptr a.w)∧w1.cell? ⟨M.m,2,none⟩=some (ptr M.ar) from
  ⟨(h.below hb1).hd.2.2.2.2.2.2,(hM.below hb1).hd.2.2.1⟩)
 have c7:=h.hd.2.2.2.2.2.2
 have e0:((S.W.prev:Int) != 0)=true:=by simp; omega
 have lf:=Lib.hid (fun w1 (hb1:Below w.heap.size w w1)=>(h.below hb1).1.lt)
 unfold ndv at hFd
 generalize {lm M with ss:=M.ss.set k {at' M.ss k with nd:={(at' M.ss k).nd with next:=(y:Int)}}}=L' at*
 generalize hxx:S.W.found=x at*
 generalize hyy:S.W.prev=pv at*
 generalize S.W.nd=n at*
 obtain ⟨nk,nv,ns,nn⟩:=n
 simp only at hFd
 replace hFd:=Lib.hid hFd
 replace hPv:=Lib.hid hPv
 replace hA:=Lib.hid hA
 clear hM h hf hp hb hk hkk e hxx hyy
 go_enter Tryz.func117,Tryz.ntmps117
 go_wp2_with fail
 refine hFd.out.mono ?_
 rintro e w1 ⟨rfl,hb1⟩
 obtain ⟨w2,hw2⟩:∃ w2,w2=w1.alloc (.cells #[.string nk,.string nv,.int .u32 ns,.int .u64 nn] 99):=⟨_,rfl⟩
 have hb2:Below w.heap.size w w2:=by rw [hw2]; exact hb1.alloc hb1.size _
 have k7:=(bc.out w1 hb1).1
 have lf1:=lf.out w1 hb1
 obtain ⟨j7,j2⟩:=bc.out w2 hb2
 have hP2:=Lib.hid (hPv.out w2 hb2)
 have hA2:=Lib.hid (hA.out w2 hb2)
 clear hb1 hb2 hFd hPv hA c7
 go_wp2_with fail
 rw [← hw2]
 clear hw2 k7
 refine hP2.out.mono ?_
 rintro e w3 ⟨rfl,rfl⟩
 clear hP2
 go_wp2_with fail
 refine hA2.out.mono ?_
 rintro e w3 ⟨rfl,hL⟩
 replace hL:=Lib.hid hL
 clear hA2
 go_wp2_with fail
 exact bodyPost_ret (v:=.tuple #[]) (by simp [results,Tryz.results117]) rfl ⟨rfl,hL.out⟩
set_option maxHeartbeats 2000000 in
theorem lead_store (hM:MemAt w M) (h:SkAt w a S) (hn:¬(S.W.found≠0∧S.W.prev≠0)) (hc:0≤S.cell∧S.cell<M.xs.length) (y:Nat) (hy:y≤18446744073709551615):
 Calls Tryz.prog 117 #[ptr a.f,ptr M.m,.int .u64 y] w fun e w'=>e=.returned (.tuple #[])∧Led w M a S (slead (lm M) S y) w':=by
 have e:slead (lm M) S y={lm M with xs:=M.xs.set S.cell.toNat (y:Int)}:=by
  unfold slead
  rw [if_neg hn]
 rw [e]
 obtain ⟨c,hcc⟩:=Int.eq_ofNat_of_zero_le hc.1
 have hFd:=found_walk h
 have hPv:∀ w1,Below w.heap.size w w1→Calls Tryz.prog 143 #[ptr a.w] w1 fun e w'=>e=.returned (.int .u64 S.W.prev)∧w1=w':=fun w1 hb1=>prev_any (h.below hb1).2.2
 have hA:=fun w1 (hb1:Below w.heap.size w w1)=>(Cl.store_in (hM.below hb1).2.1 c (by omega) (y:Int) (by omega) (by omega)).mono fun e w2 q=>
  show e=.returned (.int .i64 0)∧Led w M a S {lm M with xs:=M.xs.set c (y:Int)} w2 from
   ⟨q.1,{M with xs:=M.xs.set c (y:Int)},(hM.below hb1).cells q.2.1 q.2.2,rfl,⟨rfl,rfl,rfl,rfl,fun _ y=>.inl y⟩,(h.below hb1).only q.2.2 (fun x hx q=>h.far hM hx (foot_cells _ q)),(Only.ofBelow hb1 _).trans (q.2.2.mono fun x _ q=>foot_cells _ q)⟩
 have bc:=Lib.hid (fun w1 (hb1:Below w.heap.size w w1)=>show w1.cell? ⟨a.f,6,none⟩=some (ptr a.w)∧w1.cell? ⟨M.m,0,none⟩=some (ptr M.g)∧w1.cell? ⟨a.f,5,none⟩=some (.int .i64 (c:Int)) from
  ⟨(h.below hb1).hd.2.2.2.2.2.2,(hM.below hb1).hd.1,by rw [← hcc]; exact (h.below hb1).hd.2.2.2.2.2.1⟩)
 have c7:=h.hd.2.2.2.2.2.2
 have lf:=Lib.hid (fun w1 (hb1:Below w.heap.size w w1)=>(h.below hb1).1.lt)
 rw [hcc,Int.toNat_natCast]
 generalize {lm M with xs:=M.xs.set c (y:Int)}=L' at*
 unfold ndv at hFd
 have hfp:(S.W.found≠0∧S.W.prev=0)∨S.W.found=0:=by
  by_cases q:S.W.found=0
  · exact .inr q
  · exact .inl ⟨q,by by_cases q2:S.W.prev=0; exact q2; exact absurd ⟨q,q2⟩ hn⟩
 clear e hn hc
 rcases hfp with ⟨hf,hp⟩ | hf
 all_goals
  first
   | (rw [decide_eq_true hf] at hFd; rw [hp] at hPv)
   | rw [decide_eq_false (by simpa using hf)] at hFd
  generalize hxx:S.W.found=x at*
  generalize hyy:S.W.prev=pv at*
  generalize S.W.nd=n at*
  obtain ⟨nk,nv,ns,nn⟩:=n
  simp only at hFd
  replace hFd:=Lib.hid hFd
  replace hPv:=Lib.hid hPv
  replace hA:=Lib.hid hA
  replace hy:=Lib.hid hy
  replace hcc:=Lib.hid hcc
  try clear hp
  clear hM h hf hxx hyy
  go_enter Tryz.func117,Tryz.ntmps117
  go_wp2_with fail
  refine hFd.out.mono ?_
  rintro e w1 ⟨rfl,hb1⟩
  obtain ⟨w2,hw2⟩:∃ w2,w2=w1.alloc (.cells #[.string nk,.string nv,.int .u32 ns,.int .u64 nn] 99):=⟨_,rfl⟩
  have hb2:Below w.heap.size w w2:=by rw [hw2]; exact hb1.alloc hb1.size _
  have k7:=(bc.out w1 hb1).1
  have lf1:=lf.out w1 hb1
  obtain ⟨j7,j2,j5⟩:=bc.out w2 hb2
  have hP2:=Lib.hid (hPv.out w2 hb2)
  have hA2:=Lib.hid (fun n=>hA.out (w2.drewN n) (hb2.trans ⟨rfl,rfl,rfl,by simp,fun _ _=>rfl⟩))
  clear hb1 hb2 hFd hPv hA c7
  go_wp2_with fail
  rw [← hw2]
  clear hw2 k7
  refine hP2.out.mono ?_
  rintro e w3 ⟨rfl,rfl⟩
  clear hP2
  go_wp2_with fail
  go_region_held3 (fun w'=>w'.cell? ⟨M.m,0,none⟩=some (ptr M.g)∧w'.cell? ⟨a.f,5,none⟩=some (.int .i64 (c:Int))) (go_keep)
   (first
     | (go_at_call 52
        refine (hA2.out 1).mono ?_
        rintro e w3 ⟨rfl,hL⟩
        have hL':=Lib.hid hL
        obtain ⟨M3,hM3,e3,hK3,hS3,hO3⟩:=hL
        have s3:=hM3.hd.1
        have s5:=hS3.hd.2.2.2.2.2.1
        rw [hK3.m,hK3.g] at s3
        rw [hcc.out] at s5
        clear hM3 e3 hK3 hS3 hO3 hA2))
  all_goals
   go_wp2_with fail
   go_end0
   exact ⟨rfl,hL'.out⟩
theorem lead_any (hM:MemAt w M) (h:SkAt w a S) {y:Nat} (ok:Okd (lm M) S y):
 Calls Tryz.prog 117 #[ptr a.f,ptr M.m,.int .u64 y] w fun e w'=>e=.returned (.tuple #[])∧Led w M a S (slead (lm M) S y) w':=by
 by_cases hl:S.W.found≠0∧S.W.prev≠0
 · obtain ⟨hb,k,hk⟩:=ok.link hl
   exact lead_link hM h hl.1 hl.2 hb hk y
 · exact lead_store hM h hl (ok.cell hl) y ok.y
set_option maxHeartbeats 1000000 in
theorem drop_sk (hM:MemAt w M) (h:SkAt w a S) (hl:Okl M.xs M.ds (M.hs,S.H)) (hh:S.H.holds=true):
 Calls Tryz.prog 114 #[ptr a.f,ptr M.m] w fun e w'=>e=.returned (.tuple #[])∧MemAt w' {M with hs:=M.hs.set S.H.lock (-1)}∧SkAt w' a {S with H:={S.H with holds:=false}}∧Only (fun x=>mfoot M x∨sfoot a S x) w w':=by
 have ho:=hl.own (.inr (.inr hh))
 have hR:=(drop_yes hM h.2.1 hl.okh ho.1 ho.2 hh).mono fun e w' q=>show e=.returned (.bool true)∧(MemAt w' {M with hs:=M.hs.set S.H.lock (-1)}∧SkAt w' a {S with H:={S.H with holds:=false}}∧Only (fun x=>mfoot M x∨sfoot a S x) w w') from
  ⟨q.1,q.2.1,h.held hM q.2.2.1 rfl q.2.2.2,q.2.2.2.mono fun x _ y=>y.imp id fun e=>.inr (.inl e)⟩
 have c5:=h.hd.2.2.2.2.1
 replace hR:=Lib.hid hR
 clear h hM hl hh ho
 go_enter Tryz.func114,Tryz.ntmps114
 go_wp2_with fail
 refine hR.out.mono ?_
 rintro e w1 ⟨rfl,hD⟩
 replace hD:=Lib.hid hD
 clear hR c5
 go_wp2_with fail
 go_end0
 exact ⟨rfl,hD.out⟩
set_option maxHeartbeats 1000000 in
theorem new_seek (k s:Int) (key:ByteArray) (w:World):
 Calls Tryz.prog 36 #[.int .i64 k,.int .u32 s,.string key] w fun e w'=>∃ (a:Sa) (h:Nat),e=.returned (ptr a.f)∧SkAt w' a (newSk h k s key)∧(∀ x,sfoot a (newSk h k s key) x→w.heap.size≤x)∧Below w.heap.size w w':=by
 unfold newSk
 have hN:=Lib.hid (new_hold k s w)
 go_enter Tryz.func36,Tryz.ntmps36
 go_wp2_with fail
 refine hN.out.mono ?_
 rintro e w1 ⟨rfl,hH1,hB1⟩
 obtain ⟨h,hh⟩:∃ h,h=w.heap.size:=⟨_,rfl⟩
 rw [← hh] at hH1 ⊢
 obtain ⟨w2,hw2⟩:∃ w2,w2=w1.alloc (.cells #[.int .u32 s,.string key,.nilFunc,.nilFunc,ptr h,.int .i64 0,.pointer none] 142):=⟨_,rfl⟩
 have hF2:Blk w2 w1.heap.size 142 #[.int .u32 s,.string key,.nilFunc,.nilFunc,ptr h,.int .i64 0,.pointer none]:=by rw [hw2]; exact Blk.made w1 _ _
 have hB12:Below w1.heap.size w1 w2:=by rw [hw2]; exact (Below.refl _ _).alloc (Nat.le_refl _) _
 obtain ⟨f,hf⟩:∃ f,f=w1.heap.size:=⟨_,rfl⟩
 rw [← hf] at hF2
 have hfw:w.heap.size≤f:=by rw [hf]; exact hB1.size
 have hhw:w.heap.size≤h:=by omega
 have hB2:=hB1.trans (hB12.mono hB1.size)
 have hH2:=hH1.below hB12
 have hd:=hF2.differ hH2 (by decide)
 have hW:=Lib.hid (walkFrom_any hF2 rfl rfl rfl (-1))
 replace hH2:=Lib.hid hH2
 replace hB2:=Lib.hid hB2
 replace hd:=Lib.hid hd
 clear hN hH1 hB1 hB12 hF2 hh
 go_upto_region 2 with (fail)
 rw [← hw2,← hf]
 clear hw2 hf
 go_wp2_with fail
 refine hW.out.mono ?_
 rintro e w4 ⟨rfl,b,hb,hF4,hW4,hO4⟩
 have k3:=hF4.cell 2
 have k4:=hF4.cell 3
 have j5:=hF4.cell 4
 simp at k3 k4 j5
 have z3:=hF4.frozen 2
 have z4:=hF4.frozen 3
 have hH4:=hH2.out.only hO4 (fun e=>hd.out e.symm)
 have hB4:=hB2.out.trans (hO4.toBelow hB2.out.size (fun x hx e=>by subst e; omega))
 have hbw:w.heap.size≤b:=Nat.le_trans hB2.out.size hb
 have hd4:=hF4.differ hW4 (by decide)
 have hE:Hid (SkAt ((w4.setCell ⟨f,2,none⟩ (wfm 75 (ptr h))).setCell ⟨f,3,none⟩ (wfm 76 (ptr f))) ⟨f,b⟩ ⟨key,s,1,⟨h,k,s,1,0,(0,0),0,false⟩, -1,new 0 (-1) s key⟩):=Lib.hid
  ⟨(hF4.store 2 (wfm 75 (ptr h))).store 3 (wfm 76 (ptr f)),Blk.far (Blk.far hH4 (p:=⟨f,2,none⟩) (fun e=>hd.out e.symm) _) (p:=⟨f,3,none⟩) (fun e=>hd.out e.symm) _,
    Blk.far (Blk.far hW4 (p:=⟨f,2,none⟩) (fun e=>hd4 e.symm) _) (p:=⟨f,3,none⟩) (fun e=>hd4 e.symm) _⟩
 have hBx:=Lib.hid ((hB4.setCell (p:=⟨f,2,none⟩) hfw (wfm 75 (ptr h))).setCell (p:=⟨f,3,none⟩) hfw (wfm 76 (ptr f)))
 have hlow:Hid (∀ x,sfoot ⟨f,b⟩ ⟨key,s,1,⟨h,k,s,1,0,(0,0),0,false⟩, -1,new 0 (-1) s key⟩ x→w.heap.size≤x):=Lib.hid (by
  rintro x (q | q | q)<;>simp only at q<;>omega)
 clear hW hH2 hB2 hF4 hW4 hO4 hH4 hB4 hbw hd4 hb hd
 go_wp2_with fail
 go_ret
 exact ⟨_,_,rfl,hE.out,hlow.out,hBx.out⟩
end
end Go.Proofs.YtkogifmjbmnpgaaGreat.Pu
namespace Go.Proofs.YtkogifmjbmnpgaaGreat.Pu
open Go Go.RowKit Hp K Fl Rw Hm Ar Mm Me Wk Ta Pn Pc
set_option maxRecDepth 100000
structure Pt extends Sk where
 val:ByteArray
 nx:Nat
 err:Int
 mine:Nat
structure Qa where
 f:Nat
 s:Nat
 w:Nat
abbrev Qa.sa (a:Qa):Sa:=⟨a.s,a.w⟩
def pnv (nx f:Nat):Value:=if nx=2 then wfm 39 (ptr f) else if nx=3 then wfm 81 (ptr f)
 else if nx=4 then wfm 120 (ptr f) else if nx=5 then wfm 147 (ptr f) else if nx=6 then wfm 83 (ptr f) else wf0 121
def puc (a:Qa) (P:Pt):Array Value:=#[.string P.key,.string P.val,.int .u32 P.sum,ptr a.s,pnv P.nx a.f,.int .i64 P.err,.int .u64 P.mine]
def PuAt (w:World) (a:Qa) (P:Pt):Prop:=Blk w a.f 91 (puc a P)∧SkAt w a.sa P.toSk
def pfoot (a:Qa) (P:Pt) (x:Nat):Prop:=x=a.f∨sfoot a.sa P.toSk x
abbrev putTypes:List TypeId:=[91,142,167,188]
abbrev puL:Lay Qa Pt:=⟨Qa.f,PuAt,pfoot⟩
section
variable {w w':World} {M:Mo} {a:Qa} {P:Pt}
theorem PuAt.ty (h:PuAt w a P) {x:Nat} (hx:pfoot a P x):Ty w x putTypes:=by
 obtain ⟨h1,h2⟩:=h
 rcases hx with rfl | hx
 · exact (blk_ty h1).mono (by simp)
 · exact (h2.ty hx).mono (fun t ht=>List.mem_cons_of_mem _ ht)
theorem PuAt.far (h:PuAt w a P) (hM:MemAt w M) {x:Nat} (hx:pfoot a P x):¬mfoot M x:=fun hm=>(hM.ty hm).apart (h.ty hx) (by decide)
theorem PuAt.only {S:Nat→Prop} (h:PuAt w a P) (ho:Only S w w') (hn:∀ x,pfoot a P x→¬S x):PuAt w' a P:=
 ⟨h.1.only ho (hn _ (.inl rfl)),h.2.only ho (fun x hx=>hn _ (.inr hx))⟩
theorem PuAt.below (h:PuAt w a P) (hb:Below w.heap.size w w'):PuAt w' a P:=h.only (Only.ofBelow hb (fun _=>False)) (by simp)
theorem PuAt.drewN (h:PuAt w a P) (n:Nat):PuAt (w.drewN n) a P:=h.only ((Only.refl (fun _=>False) w).drewN n) (by simp)
theorem PuAt.hd (h:PuAt w a P):w.cell? ⟨a.f,0,none⟩=some (.string P.key)∧w.cell? ⟨a.f,1,none⟩=some (.string P.val)∧w.cell? ⟨a.f,2,none⟩=some (.int .u32 P.sum)∧w.cell? ⟨a.f,3,none⟩=some (ptr a.s)∧
 w.cell? ⟨a.f,4,none⟩=some (pnv P.nx a.f)∧w.cell? ⟨a.f,5,none⟩=some (.int .i64 P.err)∧w.cell? ⟨a.f,6,none⟩=some (.int .u64 P.mine):=
 ⟨h.1.cell 0,h.1.cell 1,h.1.cell 2,h.1.cell 3,h.1.cell 4,h.1.cell 5,h.1.cell 6⟩
theorem PuAt.frz (h:PuAt w a P) (i:Nat):w.frozen? ⟨a.f,i,none⟩=false:=h.1.frozen i
theorem PuAt.self (h:PuAt w a P) {x:Nat} (hx:sfoot a.sa P.toSk x):x≠a.f:=by
 rintro rfl
 exact (h.2.ty hx).apart (blk_ty h.1) (by decide)
theorem PuAt.own (h:PuAt w a P) {P':Pt} (hB:Blk w' a.f 91 (puc a P')) (ho:Only (·=a.f) w w') (eS:P'.toSk=P.toSk):PuAt w' a P':=
 ⟨hB,by rw [eS]; exact h.2.only ho (fun x hx e=>h.self hx e)⟩
theorem PuAt.next (h:PuAt w a P) (n:Nat):PuAt (w.setCell ⟨a.f,4,none⟩ (pnv n a.f)) a {P with nx:=n}:=
 h.own (h.1.store 4 (pnv n a.f)) ((Only.refl (·=a.f) w).setCell (p:=⟨a.f,4,none⟩) (.inl rfl) (pnv n a.f)) rfl
theorem PuAt.sought {S:Nat→Prop} {a':Sa} {S':Sk} (h:PuAt w a P) (hS:SkAt w' a' S') (ef:a'.f=a.s) (ek:S'.key=P.key) (es:S'.sum=P.sum) (ho:Only S w w') (hn:¬S a.f):PuAt w' {a with w:=a'.w} {P with toSk:=S'}:=by
 obtain ⟨f',b'⟩:=a'
 subst ef
 refine ⟨?_,hS⟩
 have:=h.1.only ho hn
 unfold puc at this ⊢
 simp only [ek,es]
 exact this
end
abbrev Stp (w:World) (M:Mo) (a:Qa) (P:Pt) (L':Lm) (P':Pt) (w':World):Prop:=puL.Stp w M a P L' P' w'
theorem pfoot_eq {a a':Qa} {P P':Pt} (ea:a'=a) (eS:P'.H.f=P.H.f) {n:Nat} (x:Nat) (q:pfoot a' P' x):pfoot a P x∨n≤x:=by
 subst ea
 rcases q with q | q | q | q
 · exact .inl (.inl q)
 · exact .inl (.inr (.inl q))
 · exact .inl (.inr (.inr (.inl (q.trans eS))))
 · exact .inl (.inr (.inr (.inr q)))
end Go.Proofs.YtkogifmjbmnpgaaGreat.Pu
namespace Go.Proofs.YtkogifmjbmnpgaaGreat.Pu
open Go Go.RowKit Hp K Fl Rw Hm Ar Mm Me Wk Ta Pn Pc
set_option maxRecDepth 100000
def fol (W:Wa):Int:=if W.found≠0 then W.nd.next else (W.first:Int)
def pstep (L:Lm) (P:Pt):Lm×Pt:=
 if P.nx=2 then ((sstep L P.toSk).1,{P with toSk:=(sstep L P.toSk).2,nx:=if sdone L P.toSk=true then (if (sstep L P.toSk).2.cell= -1 then 6 else 3) else 2})
 else if P.nx=3 then (match freePl L.ss with
  | some m=>({L with ss:=L.ss.set m ⟨true,(at' L.ss m).gen,⟨P.key,P.val,P.sum,fol P.W⟩⟩},{P with mine:=(at' L.ss m).gen*65536+m+1,err:=0,nx:=4})
  | none=>(L,{P with mine:=0,err:=4,nx:=6}))
 else if P.nx=4 then (slead L P.toSk P.mine,{P with mine:=P.W.found,nx:=if P.W.found≠0 then 5 else 6})
 else if P.nx=5 then ({L with ws:=L.ws++[P.mine]},{P with mine:=0,nx:=6})
 else ({L with hs:=L.hs.set P.H.lock (-1)},{P with H:={P.H with holds:=false},nx:=7})
def pready (L:Lm) (P:Pt):Bool:=sready L P.toSk
def pdone (_:Lm) (P:Pt):Bool:=decide (6≤P.nx)
structure Okp (L:Lm) (P:Pt):Prop where
 nx:2≤P.nx∧P.nx≤6
 ph:P.nx≠2→P.ph≠1
 sk:P.nx=2→∃ r,Oks r L P.toSk
 gen:P.nx=3→∀ k,(at' L.ss k).gen≤1000000
 lead:P.nx=4→Okd L P.toSk P.mine
 ret:P.nx=5→L.ws.length≤1000000
 drop:P.nx=6→Okl L.xs L.ds (L.hs,P.H)∧P.H.holds=true
theorem sstep_key (L:Lm) (S:Sk):(sstep L S).2.key=S.key∧(sstep L S).2.sum=S.sum:=by
 unfold sstep
 split
 · split<;>exact ⟨rfl,rfl⟩
 · exact ⟨rfl,rfl⟩
section
variable {w w':World} {M:Mo} {a:Qa} {P:Pt}
def Went (w:World) (M:Mo) (a:Qa) (P:Pt) (L':Lm) (P':Pt) (w':World):Prop:=
 ∃ M' b,MemAt w' M'∧lm M'=L'∧Kin w M M'∧PuAt w' {a with w:=b} P'∧(∀ x,pfoot {a with w:=b} P' x→pfoot a P x∨w.heap.size≤x)∧Only (fun x=>mfoot M x∨pfoot a P x) w w'
theorem Went.stp {L':Lm} {P':Pt} (h:Went w M a P L' P' w'):Stp w M a P L' P' w':=by
 obtain ⟨M',b,h1,h2,h3,h4,h5,h6⟩:=h
 exact ⟨M',{a with w:=b},h1,h2,h3,h4,rfl,h5,h6⟩
theorem sought_any (hM:MemAt w M) (h:PuAt w a P) {r:Nat} (ok:Oks r (lm M) P.toSk) (hr:sready (lm M) P.toSk=true):
 Calls Tryz.prog 77 #[ptr a.s,ptr M.m] w fun e w'=>e=.returned (.bool (sdone (lm M) P.toSk))∧Went w M a P (sstep (lm M) P.toSk).1 {P with toSk:=(sstep (lm M) P.toSk).2} w':=by
 refine (sk_step hM h.2 ok hr).mono fun e w' q=>⟨q.1,?_⟩
 obtain ⟨M',a',h1,h2,h3,h4,h5,h6,h7⟩:=q.2
 have hk:=sstep_key (lm M) P.toSk
 have hp:=h.sought h4 h5 hk.1 hk.2 h7 (by
  rintro (q | q)
  · exact h.far hM (.inl rfl) q
  · exact h.self q rfl)
 refine ⟨M',a'.w,h1,h2,h3,hp,?_,h7.mono fun x _ q=>q.imp id .inr⟩
 rintro x (q | q)
 · exact .inl (.inl q)
 · have e:a'=(⟨a.s,a'.w⟩:Sa):=by
    obtain ⟨f',b'⟩:=a'
    have:f'=a.s:=h5
    rw [this]
   exact (h6 x (by rw [e]; exact q)).imp .inr id
set_option maxHeartbeats 1000000 in
theorem goTo_any (hM:MemAt w M) (h:PuAt w a P) {r:Nat} (ok:Oks r (lm M) P.toSk) (hr:sready (lm M) P.toSk=true) (h2:P.nx=2):
 Calls Tryz.prog 39 #[ptr a.f,ptr M.m] w fun e w'=>e=.returned (.bool false)∧Stp w M a P (pstep (lm M) P).1 (pstep (lm M) P).2 w':=by
 have hS:=sought_any hM h ok hr
 have c3:=h.hd.2.2.2.1
 unfold pstep
 rw [if_pos h2]
 simp only
 cases hdn:sdone (lm M) P.toSk with
 | false=>
   rw [hdn] at hS
   rw [if_neg (by simp)]
   generalize sstep (lm M) P.toSk=z at*
   have hS':=hS.mono fun e w' q=>And.intro q.1 q.2.stp
   have eP:({P with toSk:=z.2,nx:=2}:Pt)={P with toSk:=z.2}:=by rw [← h2]
   rw [eP]
   replace hS:=Lib.hid hS'
   clear hdn h hM ok hr h2 eP hS'
   go_enter Tryz.func39,Tryz.ntmps39
   go_wp2_with fail
   refine hS.out.mono ?_
   rintro e w1 ⟨rfl,hW⟩
   replace hW:=Lib.hid hW
   clear hS c3
   go_wp2_with fail
   go_ret
   exact ⟨rfl,hW.out⟩
 | true=>
   rw [hdn] at hS
   rw [if_pos rfl]
   generalize sstep (lm M) P.toSk=z at*
   obtain ⟨L',S'⟩:=z
   simp only at hS ⊢
   replace hS:=Lib.hid hS
   have hfar:=Lib.hid (h.far hM (.inl rfl))
   clear hdn h hM ok hr h2
   obtain ⟨cb,hcb⟩:∃ cb,cb=decide (S'.cell= -1):=⟨_,rfl⟩
   have e6:(if S'.cell= -1 then 6 else 3:Nat)=if cb=true then 6 else 3:=by rw [hcb]; simp
   have hne:decide (S'.cell≠ -1)= !cb:=by rw [hcb]; simp
   rw [e6]
   clear e6 hcb
   cases cb
   all_goals
    replace hne:=Lib.hid hne
    first
     | rw [if_pos rfl]
     | rw [if_neg (by simp)]
    go_enter Tryz.func39,Tryz.ntmps39
    go_wp2_with fail
    refine hS.out.mono ?_
    rintro e w1 ⟨rfl,M1,b,hM1,el,hK,hP1,hf1,hO1⟩
    have k3:=hP1.hd.2.2.2.1
    have k4:=hP1.hd.2.2.2.2.1
    simp only at k3 k4
    have z4:=hP1.frz 4
    have hP3:=hP1.next 3
    have hP6:=Lib.hid (hP3.next 6)
    have hBk:=bucketed_any hP3.2
    simp only at hBk
    rw [hne.out] at hBk
    simp only [Bool.not_true,Bool.not_false] at hBk
    have hO3:=(Only.refl (·=a.f) w1).setCell (p:=⟨a.f,4,none⟩) (.inl rfl) (pnv 3 a.f)
    have hO6:=hO3.setCell (p:=⟨a.f,4,none⟩) (.inl rfl) (pnv 6 a.f)
    have far1:∀ x,mfoot M1 x→¬x=a.f:=fun x hx q=>hP1.far hM1 (.inl rfl) (q▸hx)
    have hM3:=Lib.hid (hM1.only hO3 far1)
    have hM6:=Lib.hid (hM1.only hO6 far1)
    have hO03:=Lib.hid (hO1.trans' hO3 (fun x _ q=>.inr (.inl q)))
    have hO06:=Lib.hid (hO1.trans' hO6 (fun x _ q=>.inr (.inl q)))
    have hBk3:=Lib.hid hBk
    replace hP3:=Lib.hid hP3
    replace hf1:=Lib.hid hf1
    replace hK:=Lib.hid hK
    replace el:=Lib.hid el
    clear hO3 hO6 hM1 hP1 hO1 hS c3 far1 hBk
    go_wp2_with fail
    refine hBk3.out.mono ?_
    rintro e w' ⟨rfl,rfl⟩
    clear hBk3
    go_wp2_with fail
    go_ret
    first
     | exact ⟨rfl,_,_,hM6.out,el.out,hK.out,hP6.out,rfl,hf1.out,hO06.out⟩
     | exact ⟨rfl,_,_,hM3.out,el.out,hK.out,hP3.out,rfl,hf1.out,hO03.out⟩
end
end Go.Proofs.YtkogifmjbmnpgaaGreat.Pu
namespace Go.Proofs.YtkogifmjbmnpgaaGreat.Pu
open Go Go.RowKit Hp K Fl Rw Hm Ar Mm Me Wk Ta Pn Pc
set_option maxRecDepth 100000
theorem put_foot {M:Mo} {x:Nat} {V':Option Addr} {capV':Nat} {ws':List Nat} {n:Nat} (hV:∀ x,In V' x→In M.V x∨n≤x) (q:mfoot {M with V:=V',capV:=capV',ws:=ws'} x):mfoot M x∨n≤x:=by
 rcases q with q | q | q | q | q | q
 · exact .inl (.inl q)
 · exact .inl (.inr (.inl q))
 · exact .inl (.inr (.inr (.inl q)))
 · exact .inl (.inr (.inr (.inr (.inl q))))
 · exact .inl (.inr (.inr (.inr (.inr (.inl q)))))
 · rcases hV x q with q | q
   · exact .inl (.inr (.inr (.inr (.inr (.inr q)))))
   · exact .inr q
def Waits (w:World) (M:Mo) (L':Lm) (w':World):Prop:=∃ M',MemAt w' M'∧lm M'=L'∧Kin w M M'∧Only (mfoot M) w w'
theorem waits_any {w:World} {M:Mo} (hM:MemAt w M) (x:Nat) (hn:M.ws.length≤1000000):
 Calls Tryz.prog 145 #[ptr M.m,.int .u64 x] w fun e w'=>e=.returned (.tuple #[])∧Waits w M {lm M with ws:=M.ws++[x]} w':=by
 refine (retire_any hM x hn).mono fun e w' q=>⟨q.1,?_⟩
 obtain ⟨V',capV',hM1,hO1,hV1⟩:=q.2
 refine ⟨_,hM1,rfl,⟨rfl,rfl,rfl,rfl,fun x q=>put_foot hV1 q⟩,hO1.mono (fun x _ q=>?_)⟩
 rcases q with q | q
 · exact .inl q
 · exact .inr (.inr (.inr (.inr (.inr q))))
section
variable {w w':World} {M:Mo} {a:Qa} {P:Pt}
theorem PuAt.went (h:PuAt w a P) (x n:Nat):PuAt (((w.setCell ⟨a.f,6,none⟩ (.int .u64 x)).setCell ⟨a.f,4,none⟩ (pnv 6 a.f)).setCell ⟨a.f,4,none⟩ (pnv n a.f)) a {P with mine:=x,nx:=n}∧
 Only (·=a.f) w (((w.setCell ⟨a.f,6,none⟩ (.int .u64 x)).setCell ⟨a.f,4,none⟩ (pnv 6 a.f)).setCell ⟨a.f,4,none⟩ (pnv n a.f)):=by
 have hP2:PuAt (w.setCell ⟨a.f,6,none⟩ (.int .u64 x)) a {P with mine:=x}:=h.own (by simpa [puc] using h.1.store 6 (.int .u64 x)) ((Only.refl (·=a.f) w).setCell (p:=⟨a.f,6,none⟩) (.inl rfl) (.int .u64 x)) rfl
 exact ⟨(hP2.next 6).next n,(((Only.refl (·=a.f) w).setCell (p:=⟨a.f,6,none⟩) (.inl rfl) (.int .u64 x)).setCell (p:=⟨a.f,4,none⟩) (.inl rfl) (pnv 6 a.f)).setCell (p:=⟨a.f,4,none⟩) (.inl rfl) (pnv n a.f)⟩
theorem PuAt.went6 (h:PuAt w a P) (x:Nat):PuAt ((w.setCell ⟨a.f,6,none⟩ (.int .u64 x)).setCell ⟨a.f,4,none⟩ (pnv 6 a.f)) a {P with mine:=x,nx:=6}∧
 Only (·=a.f) w ((w.setCell ⟨a.f,6,none⟩ (.int .u64 x)).setCell ⟨a.f,4,none⟩ (pnv 6 a.f)):=by
 have hP2:PuAt (w.setCell ⟨a.f,6,none⟩ (.int .u64 x)) a {P with mine:=x}:=h.own (by simpa [puc] using h.1.store 6 (.int .u64 x)) ((Only.refl (·=a.f) w).setCell (p:=⟨a.f,6,none⟩) (.inl rfl) (.int .u64 x)) rfl
 exact ⟨hP2.next 6,((Only.refl (·=a.f) w).setCell (p:=⟨a.f,6,none⟩) (.inl rfl) (.int .u64 x)).setCell (p:=⟨a.f,4,none⟩) (.inl rfl) (pnv 6 a.f)⟩
theorem Waits.stp {L':Lm} {P':Pt} {w1 w2:World} (h:Waits w M L' w1) (hP:PuAt w a P) (hM:MemAt w M) (hP2:PuAt w1 a P→PuAt w2 a P') (eS:P'.H.f=P.H.f) (ho:Only (·=a.f) w1 w2):Stp w M a P L' P' w2:=by
 obtain ⟨M1,hM1,el,hK,hO⟩:=h
 have hP1:=hP.only hO (fun x hx q=>hP.far hM hx q)
 exact ⟨M1,a,hM1.only ho (fun x hx q=>hP1.far hM1 (.inl rfl) (q▸hx)),el,hK,hP2 hP1,rfl,pfoot_eq rfl eS,(hO.mono (fun x _ q=>(.inl q:mfoot M x∨pfoot a P x))).trans' ho (fun x _ q=>.inr (.inl q))⟩
set_option maxHeartbeats 1000000 in
theorem retire_step (hM:MemAt w M) (h:PuAt w a P) (hn:M.ws.length≤1000000) (h5:P.nx=5):
 Calls Tryz.prog 147 #[ptr a.f,ptr M.m] w fun e w'=>e=.returned (.bool false)∧Stp w M a P (pstep (lm M) P).1 (pstep (lm M) P).2 w':=by
 have hR:=Lib.hid (waits_any hM P.mine hn)
 have c6:=h.hd.2.2.2.2.2.2
 have HP:=Lib.hid h
 have HM:=Lib.hid hM
 unfold pstep
 rw [if_neg (by omega),if_neg (by omega),if_neg (by omega),if_pos h5]
 clear h hM hn h5
 go_enter Tryz.func147,Tryz.ntmps147
 go_wp2_with fail
 refine hR.out.mono ?_
 rintro e w1 ⟨rfl,hW⟩
 have hP1:PuAt w1 a P:=by
  obtain ⟨M1,_,_,_,hO⟩:=hW
  exact HP.out.only hO (fun x hx q=>HP.out.far HM.out hx q)
 have k6:=hP1.hd.2.2.2.2.2.2
 have k4:=hP1.hd.2.2.2.2.1
 have z6:=hP1.frz 6
 have z4:=hP1.frz 4
 have hE:=Lib.hid (hW.stp HP.out HM.out (fun q=>(q.went6 0).1) rfl (hP1.went6 0).2)
 clear hP1 hW hR c6
 go_wp2_with fail
 go_ret
 exact ⟨rfl,hE.out⟩
set_option maxHeartbeats 1000000 in
theorem putIn_step (hM:MemAt w M) (h:PuAt w a P) (ok:Okd (lm M) P.toSk P.mine) (h4:P.nx=4):
 Calls Tryz.prog 120 #[ptr a.f,ptr M.m] w fun e w'=>e=.returned (.bool false)∧Stp w M a P (pstep (lm M) P).1 (pstep (lm M) P).2 w':=by
 have hR:=fun w1 (hb:Below w.heap.size w w1)=>(lead_any (hM.below hb) (h.2.below hb) ok).mono fun e w' q=>show e=.returned (.tuple #[])∧Waits w M (slead (lm M) P.toSk P.mine) w' from
  ⟨q.1,by obtain ⟨M',h1,h2,h3,_,h5⟩:=q.2; exact ⟨M',h1,h2,(Kin.refl w M).trans h3 hb.size,(Only.ofBelow hb _).trans h5⟩⟩
 replace hR:=fun n=>hR (w.drewN n) ⟨rfl,rfl,rfl,Nat.le_refl _,fun _ _=>rfl⟩
 have c3:=h.hd.2.2.2.1
 have c6:=h.hd.2.2.2.2.2.2
 have hfm:=Lib.hid (show M.m≠a.f from fun e=>h.far hM (.inl e) (.inl rfl))
 have HP:=Lib.hid h
 have HM:=Lib.hid hM
 unfold pstep
 rw [if_neg (by omega),if_neg (by omega),if_pos h4]
 generalize hLL:slead (lm M) P.toSk P.mine=L' at*
 obtain ⟨x,hxx⟩:∃ x,x=P.W.found:=⟨_,rfl⟩
 obtain ⟨n,hnn⟩:∃ n,n=P.W.nd:=⟨_,rfl⟩
 obtain ⟨nk,nv,ns,nn⟩:=n
 have hdx:∃ b,decide (x≠0)=b∧(if x≠0 then 5 else 6:Nat)=if b=true then 5 else 6:=⟨_,rfl,by simp⟩
 obtain ⟨b,hb,e5⟩:=hdx
 rw [← hxx]
 simp only [e5]
 replace hR:=Lib.hid hR
 replace hxx:=Lib.hid hxx
 replace hnn:=Lib.hid hnn
 replace hb:=Lib.hid hb
 have hEnd:Hid (∀ w1 w2 (P':Pt),Waits w M L' w1→(PuAt w1 a P→PuAt w2 a P')→P'.H.f=P.H.f→Only (·=a.f) w1 w2→Stp w M a P L' P' w2):=Lib.hid (fun w1 w2 P' hW hq eS ho=>hW.stp h hM hq eS ho)
 clear h hM h4 hLL ok e5
 go_enter Tryz.func120,Tryz.ntmps120
 go_wp2_with fail
 go_region_held3 (fun w'=>w'.cell? ⟨a.f,3,none⟩=some (ptr a.s)∧w'.cell? ⟨a.f,6,none⟩=some (.int .u64 P.mine)) (go_keep)
  (first
    | (go_at_call 117
       refine (hR.out 1).mono ?_
       rintro e w1 ⟨rfl,hW⟩
       have hP1:PuAt w1 a P:=by
        obtain ⟨M1,_,_,_,hO⟩:=hW
        exact HP.out.only hO (fun x hx q=>HP.out.far HM.out hx q)
       have k3:=hP1.hd.2.2.2.1
       have k6:=hP1.hd.2.2.2.2.2.2
       have hFd:=found_sk hP1.2
       unfold ndv at hFd
       rw [← hxx.out,← hnn.out,hb.out] at hFd
       simp only at hFd
       replace hFd:=Lib.hid hFd
       replace hP1:=Lib.hid hP1
       replace hW:=Lib.hid hW
       clear hR))
 all_goals
  go_wp2_with fail
  refine hFd.out.mono ?_
  rintro e w2 ⟨rfl,hb2⟩
  have hb3:=hb2.alloc (o:=.cells #[.string nk,.string nv,.int .u32 ns,.int .u64 nn] 99) hb2.size
  obtain ⟨w3,hw3⟩:∃ w3,w3=w2.alloc (.cells #[.string nk,.string nv,.int .u32 ns,.int .u64 nn] 99):=⟨_,rfl⟩
  rw [← hw3] at hb3
  have hP3:=hP1.out.below hb3
  have k6':=hP3.hd.2.2.2.2.2.2
  have k4':=hP3.hd.2.2.2.2.1
  have z6':=hP3.frz 6
  have z4':=hP3.frz 4
  have hW3:Waits w M L' w3:=by
   obtain ⟨M1,q1,q2,q3,q4⟩:=hW.out
   exact ⟨M1,q1.below hb3,q2,q3,q4.below hb3⟩
  have h5:=Lib.hid (hEnd.out _ _ _ hW3 (fun q=>(q.went x 5).1) rfl (hP3.went x 5).2)
  have h6:=Lib.hid (hEnd.out _ _ _ hW3 (fun q=>(q.went6 x).1) rfl (hP3.went6 x).2)
  clear hW3 hP3 hb3 hb2 hFd k3 k6 hW
  go_upto_region 3 with (fail)
  rw [← hw3]
  clear hw3
  cases b
  all_goals
   go_wp2_with fail
   go_ret
   first
    | exact ⟨rfl,h5.out⟩
    | exact ⟨rfl,h6.out⟩
set_option maxHeartbeats 1000000 in
theorem drop_step (hM:MemAt w M) (h:PuAt w a P) (hl:Okl M.xs M.ds (M.hs,P.H)) (hh:P.H.holds=true) (h6:P.nx=6):
 Calls Tryz.prog 83 #[ptr a.f,ptr M.m] w fun e w'=>e=.returned (.bool true)∧Stp w M a P (pstep (lm M) P).1 (pstep (lm M) P).2 w':=by
 have hR:=Lib.hid (drop_sk hM h.2 hl hh)
 have c3:=h.hd.2.2.2.1
 have HP:=Lib.hid h
 have HM:=Lib.hid hM
 unfold pstep
 rw [if_neg (by omega),if_neg (by omega),if_neg (by omega),if_neg (by omega)]
 clear h hM hl hh h6
 go_enter Tryz.func83,Tryz.ntmps83
 go_wp2_with fail
 refine hR.out.mono ?_
 rintro e w1 ⟨rfl,hM1,hS1,hO1⟩
 have hP1:=HP.out.sought hS1 rfl rfl rfl hO1 (by
  rintro (q | q)
  · exact HP.out.far HM.out (.inl rfl) q
  · exact HP.out.self q rfl)
 have k4:=hP1.hd.2.2.2.2.1
 have z4:=hP1.frz 4
 have hP3:=Lib.hid (hP1.next 7)
 have hO3:=(Only.refl (·=a.f) w1).setCell (p:=⟨a.f,4,none⟩) (.inl rfl) (pnv 7 a.f)
 have hM3:=Lib.hid (hM1.only hO3 (fun x hx q=>hP1.far hM1 (.inl rfl) (q▸hx)))
 have hO03:Hid (Only (fun x=>mfoot M x∨pfoot a P x) w _):=Lib.hid ((hO1.mono (fun x _ q=>q.imp id .inr)).trans' hO3 (fun x _ q=>.inr (.inl q)))
 clear hP1 hO3 hM1 hO1 hR c3 hS1
 go_wp2_with fail
 go_ret
 exact ⟨rfl,_,a,hM3.out,rfl,⟨rfl,rfl,rfl,rfl,fun _ q=>.inl q⟩,hP3.out,rfl,pfoot_eq rfl rfl,hO03.out⟩
end
end Go.Proofs.YtkogifmjbmnpgaaGreat.Pu
namespace Go.Proofs.YtkogifmjbmnpgaaGreat.Pu
open Go Go.RowKit Hp K Fl Rw Hm Ar Mm Me Wk Ta Pn Pc
set_option maxRecDepth 100000
section
variable {w w':World} {M:Mo} {a:Qa} {P:Pt}
theorem err_any (h:PuAt w a P):Calls Tryz.prog 14 #[ptr a.f] w fun e w'=>e=.returned (.int .i64 P.err)∧w=w':=by
 have c:=h.hd.2.2.2.2.2.1
 clear h
 go_enter Tryz.func14,Tryz.ntmps14
 go_wp2
 go_ret
 exact ⟨rfl,rfl⟩
theorem had_any (h:PuAt w a P):Calls Tryz.prog 93 #[ptr a.f] w fun e w'=>e=.returned (.bool (decide (P.W.found≠0)))∧Below w.heap.size w w':=by
 have c:=h.hd.2.2.2.1
 have hR:=found_sk h.2
 unfold ndv at hR
 generalize decide (P.W.found≠0)=b at*
 generalize P.W.found=x at*
 generalize P.W.nd=n at*
 obtain ⟨nk,nv,ns,nn⟩:=n
 simp only at hR
 replace hR:=Lib.hid hR
 clear h
 go_enter Tryz.func93,Tryz.ntmps93
 go_wp2_with fail
 refine hR.out.mono ?_
 rintro e w1 ⟨rfl,hb⟩
 have hb2:=Lib.hid ((hb.alloc (o:=.cells #[.string nk,.string nv,.int .u32 ns,.int .u64 nn] 99) hb.size))
 clear c hb
 go_wp2_with fail
 go_ret
 exact ⟨rfl,hb2.out⟩
theorem follower_any (h:PuAt w a P):Calls Tryz.prog 119 #[ptr a.f] w fun e w'=>e=.returned (.int .u64 (fol P.W))∧Below w.heap.size w w':=by
 have c7:=h.hd.2.2.2.1
 have hR:=found_sk h.2
 have HP:=Lib.hid h
 unfold ndv at hR
 unfold fol
 by_cases h0:P.W.found≠0
 · rw [if_pos h0]
   rw [decide_eq_true h0] at hR
   generalize P.W.found=x at*
   generalize P.W.nd=n at*
   obtain ⟨nk,nv,ns,nn⟩:=n
   simp only at hR ⊢
   replace hR:=Lib.hid hR
   clear h h0
   go_enter Tryz.func119,Tryz.ntmps119
   go_wp2_with fail
   refine hR.out.mono ?_
   rintro e w1 ⟨rfl,hb⟩
   have hb2:=Lib.hid ((hb.alloc (o:=.cells #[.string nk,.string nv,.int .u32 ns,.int .u64 nn] 99) hb.size))
   clear c7 hb
   go_wp2_with fail
   go_ret
   exact ⟨rfl,hb2.out⟩
 · rw [if_neg h0]
   rw [decide_eq_false h0] at hR
   generalize P.W.found=x at*
   generalize P.W.nd=n at*
   obtain ⟨nk,nv,ns,nn⟩:=n
   simp only at hR
   replace hR:=Lib.hid hR
   clear h h0
   go_enter Tryz.func119,Tryz.ntmps119
   go_wp2_with fail
   refine hR.out.mono ?_
   rintro e w1 ⟨rfl,hb⟩
   obtain ⟨w2,hw2⟩:∃ w2,w2=w1.alloc (.cells #[.string nk,.string nv,.int .u32 ns,.int .u64 nn] 99):=⟨_,rfl⟩
   have hb2:Below w.heap.size w w2:=by rw [hw2]; exact hb.alloc hb.size _
   have hP2:=HP.out.below hb2
   have d7:=hP2.hd.2.2.2.1
   have k7:=(HP.out.below hb).hd.2.2.2.1
   have lf1:=(HP.out.below hb).1.lt
   have hF2:=Lib.hid (first_sk hP2.2)
   replace hb2:=Lib.hid hb2
   clear hP2 hb c7
   go_wp2_with fail
   rw [← hw2]
   clear hw2
   refine hF2.out.mono ?_
   rintro e w3 ⟨rfl,rfl⟩
   clear hF2 d7 k7
   go_wp2_with fail
   go_ret
   exact ⟨rfl,hb2.out⟩
theorem PuAt.took (h:PuAt w a P) (x:Nat) (c:Int):PuAt ((w.setCell ⟨a.f,6,none⟩ (.int .u64 x)).setCell ⟨a.f,5,none⟩ (.int .i64 c)) a {P with mine:=x,err:=c}∧Only (·=a.f) w ((w.setCell ⟨a.f,6,none⟩ (.int .u64 x)).setCell ⟨a.f,5,none⟩ (.int .i64 c)):=by
 have ho:=((Only.refl (·=a.f) w).setCell (p:=⟨a.f,6,none⟩) (.inl rfl) (.int .u64 x)).setCell (p:=⟨a.f,5,none⟩) (.inl rfl) (.int .i64 c)
 exact ⟨h.own (by simpa [puc] using (h.1.store 6 (.int .u64 x)).store 5 (.int .i64 c)) ho rfl,ho⟩
set_option maxHeartbeats 2000000 in
theorem take_ok (hM:MemAt w M) (h:PuAt w a P) {m:Nat} (hm:Least M.ss m) (hg:(at' M.ss m).gen≤1000000) (h3:P.nx=3):
 Calls Tryz.prog 81 #[ptr a.f,ptr M.m] w fun e w'=>e=.returned (.bool false)∧Stp w M a P (pstep (lm M) P).1 (pstep (lm M) P).2 w':=by
 have e:pstep (lm M) P=({lm M with ss:=M.ss.set m ⟨true,(at' M.ss m).gen,⟨P.key,P.val,P.sum,fol P.W⟩⟩},{P with mine:=(at' M.ss m).gen*65536+m+1,err:=0,nx:=4}):=by
  unfold pstep
  rw [if_neg (by omega),if_pos h3]
  simp only [freePl_some.2 hm]
 rw [e]
 simp only
 have hF:=Lib.hid (fun n=>(follower_any (h.drewN n)).mono fun e w2 q=>show e=.returned (.int .u64 (fol P.W))∧Below w.heap.size w w2 from ⟨q.1,(show Below w.heap.size w (w.drewN n) from ⟨rfl,rfl,rfl,Nat.le_refl _,fun _ _=>rfl⟩).trans q.2⟩)
 have hA:=fun w1 (hb1:Below w.heap.size w w1)=>(alloc_ok (hM.below hb1).2.2.2.1 ⟨P.key,P.val,P.sum,fol P.W⟩ m hm hg).mono fun e w2 q=>
  show e=.returned (.tuple #[.int .u64 ((at' M.ss m).gen*65536+m+1:Nat),.int .i64 0])∧(MemAt w2 {M with ss:=M.ss.set m ⟨true,(at' M.ss m).gen,⟨P.key,P.val,P.sum,fol P.W⟩⟩}∧PuAt w2 a P∧Only (mfoot M) w w2) from
   ⟨q.1,(hM.below hb1).arena q.2.1 q.2.2,(h.below hb1).only q.2.2 (fun x hx q=>h.far hM hx (foot_arena _ q)),(Only.ofBelow hb1 _).trans (q.2.2.mono fun x _ q=>foot_arena _ q)⟩
 unfold ndv at hA
 obtain ⟨c0,c1,c2,_⟩:=h.hd
 have d2:=hM.hd.2.2.1
 have lf:=h.1.lt
 have lM:=hM.1.lt
 have bc:=Lib.hid (fun w1 (hb:Below w.heap.size w w1)=>show w1.cell? ⟨M.m,2,none⟩=some (ptr M.ar)∧w1.cell? ⟨a.f,0,none⟩=some (.string P.key)∧w1.cell? ⟨a.f,1,none⟩=some (.string P.val)∧w1.cell? ⟨a.f,2,none⟩=some (.int .u32 P.sum) from
  ⟨(hb.cell (p:=⟨M.m,2,none⟩) lM).trans d2,(hb.cell (p:=⟨a.f,0,none⟩) lf).trans c0,(hb.cell (p:=⟨a.f,1,none⟩) lf).trans c1,(hb.cell (p:=⟨a.f,2,none⟩) lf).trans c2⟩)
 generalize (at' M.ss m).gen*65536+m+1=x at*
 generalize M.ss.set m ⟨true,(at' M.ss m).gen,⟨P.key,P.val,P.sum,fol P.W⟩⟩=ss' at*
 have hfar:=Lib.hid (h.far hM (.inl rfl))
 have hfm:=Lib.hid (show M.m≠a.f from fun e=>h.far hM (.inl e) (.inl rfl))
 generalize fol P.W=fw at*
 replace hA:=Lib.hid hA
 replace h3:=Lib.hid h3
 clear hM h hm hg e
 have hne1:M.m≠a.f:=hfm.out
 have hne2:a.f≠M.m:=fun e=>hfm.out e.symm
 go_enter Tryz.func81,Tryz.ntmps81
 go_wp2_with fail
 go_region_held3 (fun w'=>w'.cell? ⟨M.m,2,none⟩=some (ptr M.ar)∧w'.cell? ⟨a.f,0,none⟩=some (.string P.key)∧w'.cell? ⟨a.f,1,none⟩=some (.string P.val)∧w'.cell? ⟨a.f,2,none⟩=some (.int .u32 P.sum)) ((go_split_ands; (refine ⟨?_,?_,?_,?_⟩<;>simp [World.cell?_setCell_other, *])))
  (first
    | (go_at_call 119
       refine (hF.out 1).mono ?_
       rintro e w2 ⟨rfl,hb2⟩
       have hA2:=Lib.hid (hA.out w2 hb2)
       obtain ⟨t1,t2,t3,t4⟩:=bc.out w2 hb2
       clear hb2)
    | (go_at_call 53
       refine hA2.out.mono ?_
       rintro e w3 ⟨rfl,hM3,hP3,hO3⟩
       obtain ⟨s0,s1,s2,_⟩:=hP3.hd
       have s3:=hM3.hd.2.2.1
       have s4:=hP3.hd.2.2.2.2.1
       have s8:=hP3.hd.2.2.2.2.2.1
       have s9:=hP3.hd.2.2.2.2.2.2
       have y4:=hP3.frz 4
       have y8:=hP3.frz 5
       have y9:=hP3.frz 6
       simp only at s3
       have hT:=hP3.took x 0
       have hN:=Lib.hid (hT.1.next 4)
       have hO4:=hT.2.setCell (p:=⟨a.f,4,none⟩) (.inl rfl) (pnv 4 a.f)
       have hM4:=Lib.hid (hM3.only hO4 (fun x hx q=>hfar.out (q▸hx)))
       have hO04:Hid (Only (fun x=>mfoot M x∨pfoot a P x) w _):=Lib.hid ((hO3.mono (fun x _ q=>(.inl q:mfoot M x∨pfoot a P x))).trans' hO4 (fun x _ q=>.inr (.inl q)))
       clear hM3 hP3 hO3 hT hO4 hA2))
 all_goals
  clear hne1 hne2
  go_wp2_with fail
  go_ret
  exact ⟨rfl,_,a,hM4.out,rfl,⟨rfl,rfl,rfl,rfl,fun _ q=>.inl q⟩,hN.out,rfl,pfoot_eq rfl rfl,hO04.out⟩
set_option maxHeartbeats 2000000 in
theorem take_full (hM:MemAt w M) (h:PuAt w a P) (hm:∀ k,k<M.ss.length→(at' M.ss k).taken=true) (h3:P.nx=3):
 Calls Tryz.prog 81 #[ptr a.f,ptr M.m] w fun e w'=>e=.returned (.bool false)∧Stp w M a P (pstep (lm M) P).1 (pstep (lm M) P).2 w':=by
 have e:pstep (lm M) P=(lm M,{P with mine:=0,err:=4,nx:=6}):=by
  unfold pstep
  rw [if_neg (by omega),if_pos h3]
  simp only [freePl_none.2 hm]
 rw [e]
 simp only
 have hF:=Lib.hid (fun n=>(follower_any (h.drewN n)).mono fun e w2 q=>show e=.returned (.int .u64 (fol P.W))∧Below w.heap.size w w2 from ⟨q.1,(show Below w.heap.size w (w.drewN n) from ⟨rfl,rfl,rfl,Nat.le_refl _,fun _ _=>rfl⟩).trans q.2⟩)
 have hA:=fun w1 (hb1:Below w.heap.size w w1)=>(alloc_full (hM.below hb1).2.2.2.1 ⟨P.key,P.val,P.sum,fol P.W⟩ hm).mono fun e w2 q=>
  show e=.returned (.tuple #[.int .u64 0,.int .i64 4])∧(MemAt w2 M∧PuAt w2 a P∧Below w.heap.size w w2) from
   ⟨q.1,(hM.below hb1).below q.2,(h.below hb1).below q.2,hb1.trans (q.2.mono hb1.size)⟩
 unfold ndv at hA
 obtain ⟨c0,c1,c2,_⟩:=h.hd
 have d2:=hM.hd.2.2.1
 have lf:=h.1.lt
 have lM:=hM.1.lt
 have bc:=Lib.hid (fun w1 (hb:Below w.heap.size w w1)=>show w1.cell? ⟨M.m,2,none⟩=some (ptr M.ar)∧w1.cell? ⟨a.f,0,none⟩=some (.string P.key)∧w1.cell? ⟨a.f,1,none⟩=some (.string P.val)∧w1.cell? ⟨a.f,2,none⟩=some (.int .u32 P.sum) from
  ⟨(hb.cell (p:=⟨M.m,2,none⟩) lM).trans d2,(hb.cell (p:=⟨a.f,0,none⟩) lf).trans c0,(hb.cell (p:=⟨a.f,1,none⟩) lf).trans c1,(hb.cell (p:=⟨a.f,2,none⟩) lf).trans c2⟩)
 have hfar:=Lib.hid (h.far hM (.inl rfl))
 have hfm:=Lib.hid (show M.m≠a.f from fun e=>h.far hM (.inl e) (.inl rfl))
 generalize fol P.W=fw at*
 replace hA:=Lib.hid hA
 replace h3:=Lib.hid h3
 clear hM h hm e
 have hne1:M.m≠a.f:=hfm.out
 have hne2:a.f≠M.m:=fun e=>hfm.out e.symm
 go_enter Tryz.func81,Tryz.ntmps81
 go_wp2_with fail
 go_region_held3 (fun w'=>w'.cell? ⟨M.m,2,none⟩=some (ptr M.ar)∧w'.cell? ⟨a.f,0,none⟩=some (.string P.key)∧w'.cell? ⟨a.f,1,none⟩=some (.string P.val)∧w'.cell? ⟨a.f,2,none⟩=some (.int .u32 P.sum)) ((go_split_ands; (refine ⟨?_,?_,?_,?_⟩<;>simp [World.cell?_setCell_other, *])))
  (first
    | (go_at_call 119
       refine (hF.out 1).mono ?_
       rintro e w2 ⟨rfl,hb2⟩
       have hA2:=Lib.hid (hA.out w2 hb2)
       obtain ⟨t1,t2,t3,t4⟩:=bc.out w2 hb2
       clear hb2)
    | (go_at_call 53
       refine hA2.out.mono ?_
       rintro e w3 ⟨rfl,hM3,hP3,hO3⟩
       obtain ⟨s0,s1,s2,_⟩:=hP3.hd
       have s3:=hM3.hd.2.2.1
       have s4:=hP3.hd.2.2.2.2.1
       have s8:=hP3.hd.2.2.2.2.2.1
       have s9:=hP3.hd.2.2.2.2.2.2
       have y4:=hP3.frz 4
       have y8:=hP3.frz 5
       have y9:=hP3.frz 6
       have hT:=hP3.took 0 4
       have hN4:=hT.1.next 4
       have hN:=Lib.hid (hN4.next 6)
       have hO4:=(hT.2.setCell (p:=⟨a.f,4,none⟩) (.inl rfl) (pnv 4 a.f)).setCell (p:=⟨a.f,4,none⟩) (.inl rfl) (pnv 6 a.f)
       have hM4:=Lib.hid (hM3.only hO4 (fun x hx q=>hfar.out (q▸hx)))
       have hO04:Hid (Only (fun x=>mfoot M x∨pfoot a P x) w _):=Lib.hid ((Only.ofBelow hO3 (fun x=>mfoot M x∨pfoot a P x)).trans' hO4 (fun x _ q=>.inr (.inl q)))
       clear hM3 hP3 hO3 hT hO4 hA2 hN4))
 all_goals
  clear hne1 hne2
  go_wp2_with fail
  go_ret
  exact ⟨rfl,_,a,hM4.out,rfl,⟨rfl,rfl,rfl,rfl,fun _ q=>.inl q⟩,hN.out,rfl,pfoot_eq rfl rfl,hO04.out⟩
end
def newPut (h:Nat) (k:Int) (key val:ByteArray):Pt:=⟨newSk h k (sm key) key,val,2,0,0⟩
set_option maxHeartbeats 1000000 in
theorem new_any (k:Int) (key val:ByteArray) (hk:key.size≤maxLen) (w:World):
 Calls Tryz.prog 13 #[.int .i64 k,.string key,.string val] w fun e w'=>∃ (a:Qa) (h:Nat),e=.returned (ptr a.f)∧PuAt w' a (newPut h k key val)∧(∀ x,pfoot a (newPut h k key val) x→w.heap.size≤x)∧Below w.heap.size w w':=by
 have hS:=Lib.hid (Fnv.sum_any key w hk)
 unfold newPut sm
 generalize hs:FM.sum key.data.toList=s at*
 replace hs:=Lib.hid hs
 go_enter Tryz.func13,Tryz.ntmps13
 go_wp2_with fail
 refine hS.out.mono ?_
 rintro e w0 ⟨rfl,hw⟩
 obtain rfl:w=w0:=hw.symm
 clear hS hw
 obtain ⟨w1,hw1⟩:∃ w1,w1=w.alloc (.cells #[.string key,.string val,.int .u32 s,.pointer none,.nilFunc,.int .i64 0,.int .u64 0] 91):=⟨_,rfl⟩
 have hF1:Blk w1 w.heap.size 91 #[.string key,.string val,.int .u32 s,.pointer none,.nilFunc,.int .i64 0,.int .u64 0]:=by rw [hw1]; exact Blk.made w _ _
 have hB1:Below w.heap.size w w1:=by rw [hw1]; exact (Below.refl _ _).alloc (Nat.le_refl _) _
 have hl1:w1.heap.size=w.heap.size+1:=by rw [hw1]; simp
 obtain ⟨f,hf⟩:∃ f,f=w.heap.size:=⟨_,rfl⟩
 rw [← hf] at hF1
 have hfw:w.heap.size≤f∧f<w1.heap.size:=by omega
 have hN:=Lib.hid (new_seek k s key w1)
 have c2:=hF1.cell 2
 simp at c2
 replace hF1:=Lib.hid hF1
 replace hB1:=Lib.hid hB1
 replace hl1:=Lib.hid hl1
 go_upto_region 2 with (fail)
 rw [← hw1,← hf]
 clear hw1 hf
 go_wp2_with fail
 refine hN.out.mono ?_
 rintro e w2 ⟨a,h,rfl,hS2,hlo2,hB2⟩
 have hF2:=hF1.out.only (Only.ofBelow hB2 (fun _=>False)) (by simp)
 have hB02:=hB1.out.trans (hB2.mono hB1.out.size)
 have k3:=hF2.cell 3
 have k4:=hF2.cell 4
 simp at k3 k4
 have z3:=hF2.frozen 3
 have z4:=hF2.frozen 4
 have hB4:=Lib.hid ((hB02.setCell (p:=⟨f,3,none⟩) hfw.1 (ptr a.f)).setCell (p:=⟨f,4,none⟩) hfw.1 (wfm 39 (ptr f)))
 have hO:=((Only.refl (·=f) w2).setCell (p:=⟨f,3,none⟩) (.inl rfl) (ptr a.f)).setCell (p:=⟨f,4,none⟩) (.inl rfl) (wfm 39 (ptr f))
 have hne:∀ x,sfoot a (newSk h k s key) x→¬x=f:=fun x hx e=>by have:=hlo2 x hx; omega
 have hE:Hid (PuAt ((w2.setCell ⟨f,3,none⟩ (ptr a.f)).setCell ⟨f,4,none⟩ (wfm 39 (ptr f))) ⟨f,a.f,a.w⟩ ⟨newSk h k s key,val,2,0,0⟩):=Lib.hid
  ⟨(hF2.store 3 (ptr a.f)).store 4 (wfm 39 (ptr f)),hS2.only hO hne⟩
 have hlow:Hid (∀ x,pfoot ⟨f,a.f,a.w⟩ ⟨newSk h k s key,val,2,0,0⟩ x→w.heap.size≤x):=Lib.hid (by
  have hz:=hB1.out.size
  rintro x (q | q)
  · simp only at q; omega
  · exact Nat.le_trans hz (hlo2 x q))
 clear hN hF1 hB1 hl1 hF2 hB02 hB2 hO hne hS2 hlo2 c2
 go_wp2_with fail
 go_ret
 exact ⟨_,_,rfl,hE.out,hlow.out,hB4.out⟩
end Go.Proofs.YtkogifmjbmnpgaaGreat.Pu
namespace Go.Proofs.YtkogifmjbmnpgaaGreat.Pu
open Go Go.RowKit Hp K Fl Rw Hm Ar Mm Me Wk Ta Pn Pc
set_option maxRecDepth 100000
theorem pstep_fm {w:World} {F f:Nat} {cv m:Value} {c:Bool} {P:World→Prop} (c4:w.cell? ⟨f,4,none⟩=some (wfm F cv)) (eF:∀ args w,(callFunc F args).run Tryz.prog w=.ok (.enter F args) w)
 (hF:Calls Tryz.prog F #[cv,m] w fun e w'=>e=.returned (.bool c)∧P w'):Calls Tryz.prog 241 #[ptr f,m] w fun e w'=>e=.returned (.bool c)∧P w':=by
 replace hF:=Lib.hid hF
 go_enter Tryz.func241,Tryz.ntmps241
 go_wp2_with fail
 refine hF.out.mono ?_
 rintro e w' ⟨rfl,hPw⟩
 replace hPw:=Lib.hid hPw
 clear c4
 go_wp2_with fail
 go_ret
 exact ⟨rfl,hPw.out⟩
theorem enters_p2 (args:Array Value) (w:World):(callFunc 39 args).run Tryz.prog w=.ok (.enter 39 args) w:=by kernel_rfl
theorem enters_p3 (args:Array Value) (w:World):(callFunc 81 args).run Tryz.prog w=.ok (.enter 81 args) w:=by kernel_rfl
theorem enters_p4 (args:Array Value) (w:World):(callFunc 120 args).run Tryz.prog w=.ok (.enter 120 args) w:=by kernel_rfl
theorem enters_p5 (args:Array Value) (w:World):(callFunc 147 args).run Tryz.prog w=.ok (.enter 147 args) w:=by kernel_rfl
theorem enters_p6 (args:Array Value) (w:World):(callFunc 83 args).run Tryz.prog w=.ok (.enter 83 args) w:=by kernel_rfl
section
variable {w w':World} {M:Mo} {a:Qa} {P:Pt}
theorem put_ready (hM:MemAt w M) (h:PuAt w a P) (hl:P.ph=1→Okl M.xs M.ds (M.hs,P.H)):Calls Tryz.prog 240 #[ptr a.f,ptr M.m] w fun e w'=>e=.returned (.bool (pready (lm M) P))∧Below w.heap.size w w':=by
 have c3:=h.hd.2.2.2.1
 have hR:=sk_ready hM h.2 hl
 unfold pready
 generalize sready (lm M) P.toSk=b at*
 replace hR:=Lib.hid hR
 clear hM h hl
 go_enter Tryz.func240,Tryz.ntmps240
 go_wp2_with fail
 refine hR.out.mono ?_
 rintro e w' ⟨rfl,hb⟩
 replace hb:=Lib.hid hb
 clear c3
 go_wp2_with fail
 go_ret
 exact ⟨rfl,hb.out⟩
theorem put_step (hM:MemAt w M) (h:PuAt w a P) (ok:Okp (lm M) P) (hr:pready (lm M) P=true):
 Calls Tryz.prog 241 #[ptr a.f,ptr M.m] w fun e w'=>e=.returned (.bool (pdone (lm M) P))∧Stp w M a P (pstep (lm M) P).1 (pstep (lm M) P).2 w':=by
 have c4:=h.hd.2.2.2.2.1
 unfold pnv at c4
 have hnx:=ok.nx
 unfold pdone
 by_cases e2:P.nx=2
 · rw [if_pos e2] at c4
   rw [show decide (6≤P.nx)=false by simp; omega]
   obtain ⟨r,o⟩:=ok.sk e2
   exact pstep_fm c4 enters_p2 (goTo_any hM h o hr e2)
 rw [if_neg e2] at c4
 by_cases e3:P.nx=3
 · rw [if_pos e3] at c4
   rw [show decide (6≤P.nx)=false by simp; omega]
   cases hf:freePl M.ss with
   | some m=>exact pstep_fm c4 enters_p3 (take_ok hM h (freePl_some.1 hf) (ok.gen e3 m) e3)
   | none=>exact pstep_fm c4 enters_p3 (take_full hM h (freePl_none.1 hf) e3)
 rw [if_neg e3] at c4
 by_cases e4:P.nx=4
 · rw [if_pos e4] at c4
   rw [show decide (6≤P.nx)=false by simp; omega]
   exact pstep_fm c4 enters_p4 (putIn_step hM h (ok.lead e4) e4)
 rw [if_neg e4] at c4
 by_cases e5:P.nx=5
 · rw [if_pos e5] at c4
   rw [show decide (6≤P.nx)=false by simp; omega]
   exact pstep_fm c4 enters_p5 (retire_step hM h (ok.ret e5) e5)
 rw [if_neg e5] at c4
 have e6:P.nx=6:=by omega
 rw [if_pos e6] at c4
 rw [show decide (6≤P.nx)=true by simp; omega]
 exact pstep_fm c4 enters_p6 (drop_step hM h (ok.drop e6).1 (ok.drop e6).2 e6)
end
theorem put_frm:Frm puL 46 240 241 Okp pready pstep pdone where
 below h hb:=h.below hb
 mr b w f:=by kernel_rfl
 ms b w f:=by kernel_rfl
 er args w:=by kernel_rfl
 es args w:=by kernel_rfl
 ready {w M a p} hM h ok:=put_ready hM h (fun q=>by
  by_cases e2:p.nx=2
  · obtain ⟨r,o⟩:=ok.sk e2
    exact o.hd q
  · exact absurd q (ok.ph e2))
 step hM h ok hr:=put_step hM h ok hr
end Go.Proofs.YtkogifmjbmnpgaaGreat.Pu
namespace Go.Proofs.YtkogifmjbmnpgaaGreat.Pu
open Go Go.RowKit Hp K Fl Rw Hm Ar Mm Me Wk Ta Pn Pc Mq
set_option maxRecDepth 100000
section
variable {xs:List Int} {ds:List (Nat×Nat)} {s:List Int×Ho}
theorem lstep1 (h:s.2.nx=1):lstep xs ds s=(s.1,{s.2 with nx:=2,num:=(Cl.nth xs 1).toNat}):=by unfold lstep; rw [if_pos h]
theorem lstep2 (h:s.2.nx=2):lstep xs ds s=(s.1.set (lkn s.2.sum (tab ds s.2.num)) s.2.worker,{s.2 with nx:=3,d:=tab ds s.2.num,lock:=lkn s.2.sum (tab ds s.2.num)}):=by unfold lstep; rw [if_neg (by omega),if_pos h]
theorem lstep3 (h:s.2.nx=3) (he:Cl.nth xs 1=s.2.num):lstep xs ds s=(s.1,{s.2 with nx:=5,holds:=true}):=by unfold lstep; rw [if_neg (by omega),if_neg (by omega),if_pos h,if_pos he]
end
section
variable {L:Lm} {S:Sk}
theorem sstep1 (h:S.ph=1):sstep L S=({L with hs:=(lstep L.xs L.ds (L.hs,S.H)).1},if ldone L.xs (L.hs,S.H)=true then {S with H:=(lstep L.xs L.ds (L.hs,S.H)).2,cell:=pcell S.sum (lstep L.xs L.ds (L.hs,S.H)).2,W:=new 0 (pcell S.sum (lstep L.xs L.ds (L.hs,S.H)).2) S.sum S.key,ph:=2} else {S with H:=(lstep L.xs L.ds (L.hs,S.H)).2}):=by
 unfold sstep; rw [if_pos h]
theorem sstep2 (h:S.ph=2):sstep L S=({L with F:=(Wk.gstep L.xs L.ss (L.F,S.W)).1},{S with W:=(Wk.gstep L.xs L.ss (L.F,S.W)).2}):=by
 unfold sstep; rw [if_neg (by omega)]
theorem sdone1 (h:S.ph=1):sdone L S=false:=by unfold sdone; rw [if_pos h]
theorem sdone2 (h:S.ph=2):sdone L S=Wk.gdone L.xs L.ss (L.F,S.W):=by unfold sdone; rw [if_neg (by omega)]
theorem sready2 (h:S.ph≠1):sready L S=true:=by unfold sready; rw [if_neg h]
end
structure Ep where
 L:Lm
 key:ByteArray
 val:ByteArray
 i:Int
 h:Nat
 d:Nat×Nat
 c:Nat
 q:List Mq.Hp
abbrev Ep.word (E:Ep):Nat:=(Cl.nth E.L.xs E.c).toNat
abbrev Ep.lock (E:Ep):Nat:=lkn (sm E.key) E.d
abbrev Ep.num (E:Ep):Nat:=(Cl.nth E.L.xs 1).toNat
abbrev Ep.hs (E:Ep):List Int:=E.L.hs.set E.lock E.i
structure Ep.Ok (E:Ep):Prop where
 len:E.L.ss.length≤1024
 nexts:Nexts E.L.ss
 tb:∀ i,(tab E.L.ds i).1≤65536∧(tab E.L.ds i).2≤4000000
 wk:0≤E.i∧E.i≤1000
 xb:∀ x∈E.L.xs,0≤x∧x≤18446744073709551615
 hs:E.L.hs=List.replicate 6 (-1)
 now:Me.now E.L.xs E.L.ds=E.d
 d0:E.d.1≠0
 cell:(E.c:Int)=E.d.2+FM.bucket (sm E.key) E.d.1
 cx:E.c<E.L.xs.length
 x1:1<E.L.xs.length
 ch:Cx E.L.ss E.word E.q
 gen:∀ k,(at' E.L.ss k).gen≤1000000
 ws:E.L.ws.length≤1000000
 ql:E.q.length≤1024
abbrev Ep.H (E:Ep):Ho:=⟨E.h,E.i,sm E.key,5,E.num,E.d,E.lock,true⟩
def Fnd (E:Ep) (W:Wa):Prop:=(W.found=0∧E.key∉kys E.q∧W.first=E.word)∨
 ∃ (pre:List Mq.Hp) (x:Nat) (p:Pr) (t:List Mq.Hp) (z k:Nat),E.q=pre++(x,p)::t∧p.1=E.key∧W.found=x∧IsAt E.L.ss x k∧(at' E.L.ss k).nd=ndp p z∧W.nd=ndp p z∧Cx E.L.ss z t∧W.prev=lastH pre
abbrev Ep.s (E:Ep) (H:Ho) (W:Wa):Sk:=⟨E.key,sm E.key,2,H,E.c,W⟩
abbrev Ep.n (E:Ep) (H:Ho):Sk:={newSk E.h E.i (sm E.key) E.key with H:=H}
inductive Rs (E:Ep):Nat→Lm×Sk→Prop
 | a1:Rs E (4+E.q.length) (E.L,newSk E.h E.i (sm E.key) E.key)
 | a2:Rs E (3+E.q.length) (E.L,E.n ⟨E.h,E.i,sm E.key,2,E.num,(0,0),0,false⟩)
 | a3:Rs E (2+E.q.length) ({E.L with hs:=E.hs},E.n ⟨E.h,E.i,sm E.key,3,E.num,E.d,E.lock,false⟩)
 | w1:Rs E (1+E.q.length) ({E.L with hs:=E.hs},E.s E.H (Wk.new 0 E.c (sm E.key) E.key))
 | w2 (pre rest:List Mq.Hp) (W:Wa):E.q=pre++rest→rest≠[]→W.nx=2→Cx E.L.ss W.at_ rest→W.key=E.key→W.sum=sm E.key→W.first=E.word→W.prev=lastH pre→W.found=0→W.read=pre.length→W.cell=E.c→E.key∉kys pre→W.at_≤18446744073709551615→W.nd=.zero→
    Rs E rest.length ({E.L with hs:=E.hs},E.s E.H W)
section
variable {E:Ep} {k:Nat} {s:Lm×Sk}
theorem Ep.Ok.lk (hE:E.Ok):E.lock<6:=by
 have:=lkn_bd E.d (sm_bd E.key).1
 show lkn (sm E.key) E.d<6
 omega
theorem Ep.Ok.back (hE:E.Ok):E.hs.set E.lock (-1)=E.L.hs:=by
 show (E.L.hs.set E.lock E.i).set E.lock (-1)=_
 rw [List.set_set,hE.hs]
 apply List.ext_getElem
 · simp
 · intro i h1 h2
   rw [List.getElem_set,List.getElem_replicate]
   split<;>first | rfl | rw [List.getElem_replicate]
theorem Ep.Ok.hol (hE:E.Ok):Lo.hol E.hs E.lock=E.i:=by
 have:=hE.lk
 show Lo.hol (E.L.hs.set E.lock E.i) E.lock=_
 rw [hol_set (by rw [hE.hs]; simpa using this),if_pos rfl]
theorem Rs.pos (h:Rs E k s):1≤k:=by
 cases h with
 | w2 pre rest W h1 h2=>exact List.length_pos_iff.2 h2
 | _=>omega
theorem Ep.Ok.okl (hE:E.Ok):Okl E.L.xs E.L.ds (E.L.hs,⟨E.h,E.i,sm E.key,1,0,(0,0),0,false⟩):=by
 have hw:=hE.wk
 exact ⟨sm_bd _,⟨hw.1,by show E.i≤_; omega⟩,by show 4<E.L.hs.length; rw [hE.hs]; simp,hE.x1,by simp,Cl.getD_bd hE.xb 1,fun i=>(hE.tb i).1,by simp,by rintro (q | q | q)<;>simp at q,fun q=>by simp at q⟩
theorem Ep.Ok.okl2 (hE:E.Ok):Okl E.L.xs E.L.ds (E.L.hs,⟨E.h,E.i,sm E.key,2,E.num,(0,0),0,false⟩):=by
 have:=hE.okl.step (by unfold lready; rfl) (by unfold ldone; simp)
 rw [lstep1 rfl] at this
 exact this
theorem Ep.Ok.free (hE:E.Ok):lready E.L.ds (E.L.hs,⟨E.h,E.i,sm E.key,2,E.num,(0,0),0,false⟩)=true:=by
 have hn:tab E.L.ds E.num=E.d:=hE.now
 have hl:=hE.lk
 unfold lready
 rw [if_pos rfl]
 simp only [decide_eq_true_eq]
 rw [hn,hE.hs]
 unfold Lo.hol
 rw [List.getD_eq_getElem?_getD,List.getElem?_replicate]
 split<;>rfl
theorem Ep.Ok.okl3 (hE:E.Ok):Okl E.L.xs E.L.ds (E.hs,⟨E.h,E.i,sm E.key,3,E.num,E.d,E.lock,false⟩):=by
 have:=hE.okl2.step hE.free (by unfold ldone; simp)
 rw [lstep2 rfl] at this
 have hn:tab E.L.ds E.num=E.d:=hE.now
 simp only [hn] at this
 exact this
theorem Ep.Ok.okl5 (hE:E.Ok) {xs:List Int} {ds:List (Nat×Nat)} (hx:1<xs.length) (hd:ds=E.L.ds) (h1:0≤Cl.nth xs 1∧Cl.nth xs 1≤18446744073709551615):Okl xs ds (E.hs,E.H):=by
 have hw:=hE.wk
 have hl:=hE.lk
 subst hd
 refine ⟨sm_bd _,⟨hw.1,by show E.i≤_; omega⟩,by show 4<(E.L.hs.set E.lock E.i).length; rw [hE.hs]; simp,hx,?_,h1,fun i=>(hE.tb i).1,by simp,fun _=>⟨?_,hE.hol⟩,fun _=>by simp⟩
 · have:=Cl.getD_bd hE.xb 1
   show E.num≤_
   show (Cl.nth E.L.xs 1).toNat≤_
   omega
 · show E.lock<(E.L.hs.set E.lock E.i).length
   rw [hE.hs]
   simpa using hl
theorem nexts_lnk {ss:List Sl} (h:Nexts ss) (x y:Nat) (hy:y≤18446744073709551615):Nexts (lnk ss x y):=by
 unfold lnk
 by_cases hk:(x-1) % 65536<ss.length
 · exact h.set hk _ ⟨by simp only; omega,by simp only; omega⟩
 · rw [List.set_eq_of_length_le (by omega)]
   exact h
theorem Ep.Ok.word (hE:E.Ok):Wk.word E.L.xs E.c=E.word:=by
 have:=hE.cx
 unfold Wk.word
 rw [if_pos (by omega),Int.toNat_natCast]
theorem Ep.Ok.wordB (hE:E.Ok):E.word≤18446744073709551615:=by
 have:=Cl.getD_bd hE.xb E.c
 show (Cl.nth E.L.xs E.c).toNat≤_
 omega
theorem walk_load (hE:E.Ok) {F:Bool}:Wk.gstep E.L.xs E.L.ss (F,Wk.new 0 E.c (sm E.key) E.key)=(F,goTo {Wk.new 0 E.c (sm E.key) E.key with first:=E.word} E.word)∧Wk.gdone E.L.xs E.L.ss (F,Wk.new 0 E.c (sm E.key) E.key)=decide (E.word=0):=by
 have h:Wk.gstep E.L.xs E.L.ss (F,Wk.new 0 E.c (sm E.key) E.key)=(F,goTo {Wk.new 0 E.c (sm E.key) E.key with first:=E.word} E.word):=by
  unfold Wk.gstep
  simp only
  rw [if_pos (show (Wk.new 0 (E.c:Int) (sm E.key) E.key).nx=1 from rfl),show (Wk.new 0 (E.c:Int) (sm E.key) E.key).cell=(E.c:Int) from rfl,hE.word]
 refine ⟨h,?_⟩
 unfold Wk.gdone
 rw [h]
 exact goTo_nx _ _
theorem Rs.ok (hE:E.Ok) (h:Rs E k s):∃ r,Oks r s.1 s.2:=by
 have hsb:=sm_bd E.key
 have hbk:=bucket_bd (sm E.key) E.d.1 hsb.1
 have hd2:=(hE.tb E.num).2
 have hn:tab E.L.ds E.num=E.d:=hE.now
 rw [hn] at hd2
 have hc:=hE.cell
 cases h with
 | a1=>exact ⟨0,hsb,fun _=>hE.okl,fun _=>by simp [newSk],fun q=>absurd rfl q,hE.nexts,hE.tb⟩
 | a2=>exact ⟨0,hsb,fun _=>hE.okl2,fun _=>by simp,fun q=>absurd rfl q,hE.nexts,hE.tb⟩
 | a3=>exact ⟨0,hsb,fun _=>hE.okl3,fun _=>by rw [← hE.now]; exact hE.tb _,fun q=>absurd rfl q,hE.nexts,hE.tb⟩
 | w1=>exact ⟨0,hsb,fun q=>by simp at q,fun q=>by simp at q,fun _=>⟨by simp [Wk.new]; omega,by simp [Wk.new],by simp [Wk.new],by simp [Wk.new]⟩,hE.nexts,hE.tb⟩
 | w2 pre rest W h1 h2 h3 h4 h5 h6 h7 h8 h9 h10 h11 h12 h13 h14=>
   have hql:=hE.ql
   rw [h1,List.length_append] at hql
   exact ⟨0,hsb,fun q=>by simp at q,fun q=>by simp at q,fun _=>⟨by simp only [h11]; omega,h13,by simp only [h10]; omega,by simp only [h3]; omega⟩,hE.nexts,hE.tb⟩
theorem Rs.step (hE:E.Ok) (h:Rs E k s):sready s.1 s.2=true∧1≤k∧(sdone s.1 s.2=true→∃ W,Fnd E W∧(W.found=0→W.nd=.zero)∧sstep s.1 s.2=({E.L with hs:=E.hs},E.s E.H W))∧(sdone s.1 s.2=false→∃ j,j≤k-1∧Rs E j (sstep s.1 s.2)):=by
 have hn:tab E.L.ds E.num=E.d:=hE.now
 cases h with
 | a1=>
   refine ⟨rfl,by omega,fun q=>by rw [sdone1 rfl] at q; simp at q,fun _=>?_⟩
   have e:sstep E.L (newSk E.h E.i (sm E.key) E.key)=(E.L,E.n ⟨E.h,E.i,sm E.key,2,E.num,(0,0),0,false⟩):=by
    rw [sstep1 rfl]
    have e1:lstep E.L.xs E.L.ds (E.L.hs,(newSk E.h E.i (sm E.key) E.key).H)=(E.L.hs,⟨E.h,E.i,sm E.key,2,E.num,(0,0),0,false⟩):=lstep1 rfl
    have e2:ldone E.L.xs (E.L.hs,(newSk E.h E.i (sm E.key) E.key).H)=false:=by unfold ldone newSk; simp
    rw [e1,e2]
    rfl
   rw [e]
   exact ⟨_,by omega,.a2⟩
 | a2=>
   refine ⟨hE.free,by omega,fun q=>by rw [sdone1 rfl] at q; simp at q,fun _=>?_⟩
   have e:sstep E.L (E.n ⟨E.h,E.i,sm E.key,2,E.num,(0,0),0,false⟩)=({E.L with hs:=E.hs},E.n ⟨E.h,E.i,sm E.key,3,E.num,E.d,E.lock,false⟩):=by
    rw [sstep1 rfl]
    have e1:lstep E.L.xs E.L.ds (E.L.hs,(⟨E.h,E.i,sm E.key,2,E.num,(0,0),0,false⟩:Ho))=(E.hs,⟨E.h,E.i,sm E.key,3,E.num,E.d,E.lock,false⟩):=by
     rw [lstep2 rfl]
     simp only [hn]
    have e2:ldone E.L.xs (E.L.hs,(⟨E.h,E.i,sm E.key,2,E.num,(0,0),0,false⟩:Ho))=false:=by unfold ldone; simp
    simp only [e1,e2]
    rfl
   rw [e]
   exact ⟨_,by omega,.a3⟩
 | a3=>
   refine ⟨rfl,by omega,fun q=>by rw [sdone1 rfl] at q; simp at q,fun _=>?_⟩
   have hx1:Cl.nth E.L.xs 1=((E.num:Nat):Int):=by
    have:=Cl.getD_bd hE.xb 1
    show _=(((Cl.nth E.L.xs 1).toNat:Nat):Int)
    omega
   have hc:pcell (sm E.key) E.H=(E.c:Int):=by
    unfold pcell Gt.cellOf
    rw [if_pos rfl,if_neg hE.d0]
    exact hE.cell.symm
   have e:sstep {E.L with hs:=E.hs} (E.n ⟨E.h,E.i,sm E.key,3,E.num,E.d,E.lock,false⟩)=({E.L with hs:=E.hs},E.s E.H (Wk.new 0 E.c (sm E.key) E.key)):=by
    rw [sstep1 rfl]
    have e1:lstep E.L.xs E.L.ds (E.hs,(⟨E.h,E.i,sm E.key,3,E.num,E.d,E.lock,false⟩:Ho))=(E.hs,E.H):=lstep3 rfl hx1
    have e2:ldone E.L.xs (E.hs,(⟨E.h,E.i,sm E.key,3,E.num,E.d,E.lock,false⟩:Ho))=true:=by unfold ldone; exact decide_eq_true (.inl ⟨rfl,hx1⟩)
    simp only [e1,e2,if_true]
    show ({E.L with hs:=E.hs},({newSk E.h E.i (sm E.key) E.key with H:=E.H,cell:=pcell (sm E.key) E.H,W:=Wk.new 0 (pcell (sm E.key) E.H) (sm E.key) E.key,ph:=2}:Sk))=_
    rw [hc]
    rfl
   rw [e]
   exact ⟨_,by omega,.w1⟩
 | w1=>
   obtain ⟨g1,g2⟩:=walk_load hE (F:=E.L.F)
   have e:sstep {E.L with hs:=E.hs} (E.s E.H (Wk.new 0 E.c (sm E.key) E.key))=({E.L with hs:=E.hs},E.s E.H (goTo {Wk.new 0 E.c (sm E.key) E.key with first:=E.word} E.word)):=by
    rw [sstep2 rfl]
    simp only [g1]
   have ed:sdone {E.L with hs:=E.hs} (E.s E.H (Wk.new 0 E.c (sm E.key) E.key))=decide (E.word=0):=by
    rw [sdone2 rfl]
    simp only [g2]
   rw [e,ed]
   have hp:=hE.ch.pos
   refine ⟨sready2 (by simp),by omega,fun q=>?_,fun q=>?_⟩
   · have h0:E.word=0:=of_decide_eq_true q
     have hq:=hp.1 h0
     have hg:goTo {Wk.new 0 E.c (sm E.key) E.key with first:=E.word} E.word={Wk.new 0 E.c (sm E.key) E.key with first:=E.word,nx:=3}:=by unfold goTo; rw [if_pos h0]
     rw [hg]
     exact ⟨_,.inl ⟨rfl,by rw [hq]; simp,rfl⟩,fun _=>rfl,rfl⟩
   · have h0:¬E.word=0:=of_decide_eq_false q
     have hg:goTo {Wk.new 0 E.c (sm E.key) E.key with first:=E.word} E.word={Wk.new 0 E.c (sm E.key) E.key with first:=E.word,at_:=E.word,nx:=2}:=by unfold goTo; rw [if_neg h0]
     rw [hg]
     exact ⟨E.q.length,by omega,.w2 [] E.q {Wk.new 0 E.c (sm E.key) E.key with first:=E.word,at_:=E.word,nx:=2} rfl (fun q=>h0 (hp.2 q)) rfl hE.ch rfl rfl rfl rfl rfl rfl rfl (by simp) hE.wordB rfl⟩
 | w2 pre rest W h1 h2 h3 h4 h5 h6 h7 h8 h9 h10 h11 h12 h13 h14=>
   obtain ⟨e0,t,rfl⟩:∃ e t,rest=e::t:=by
    cases rest with
    | nil=>exact absurd rfl h2
    | cons e t=>exact ⟨e,t,rfl⟩
   obtain ⟨x,p⟩:=e0
   have hx:W.at_=x:=h4.head
   rw [hx] at h4
   obtain ⟨kk,z,hk,hnd,hc⟩:=h4.tail
   have hpl:=(pl_some hE.len).2 hk
   have hit_iff:hit W (ndp p z)=decide (p.1=E.key):=by
    unfold hit ndp
    simp only [h5,h6,decide_eq_decide]
    exact ⟨fun q=>q.2,fun q=>⟨by rw [q],q⟩⟩
   have hzb:z≤18446744073709551615:=by
    have:=(hE.nexts kk).2
    rw [hnd] at this
    unfold ndp at this
    simp only at this
    omega
   have g1:Wk.gstep E.L.xs E.L.ss (E.L.F,W)=(E.L.F,looks W (ndp p z)):=by
    unfold Wk.gstep
    simp only
    rw [if_neg (by omega),if_pos h3,hx,hpl]
    show (E.L.F,looks W (at' E.L.ss kk).nd)=_
    rw [hnd]
   have g2:Wk.gdone E.L.xs E.L.ss (E.L.F,W)=(decide (p.1=E.key)||decide (z=0)):=by
    unfold Wk.gdone
    rw [g1]
    show decide (3≤(looks W (ndp p z)).nx)=_
    rw [looks_nx]
    unfold lookD
    rw [hit_iff]
    rfl
   have e:sstep {E.L with hs:=E.hs} (E.s E.H W)=({E.L with hs:=E.hs},E.s E.H (looks W (ndp p z))):=by
    rw [sstep2 rfl]
    simp only [g1]
   have ed:sdone {E.L with hs:=E.hs} (E.s E.H W)=(decide (p.1=E.key)||decide (z=0)):=by
    rw [sdone2 rfl]
    simp only [g2]
   rw [e,ed]
   simp only [List.length_cons]
   refine ⟨sready2 (by simp),by omega,fun q=>?_,fun q=>?_⟩
   · by_cases hkey:p.1=E.key
     · have hl:looks W (ndp p z)={W with read:=W.read+1,found:=W.at_,nd:=ndp p z,nx:=3}:=by
        unfold looks
        rw [hit_iff,if_pos (by simp [hkey])]
       rw [hl]
       exact ⟨{W with read:=W.read+1,found:=W.at_,nd:=ndp p z,nx:=3},.inr ⟨pre,x,p,t,z,kk,h1,hkey,hx,hk,hnd,rfl,hc,h8⟩,fun q=>absurd (hx▸q) hk.pos,rfl⟩
     · have h0:z=0:=by simpa [hkey] using q
       have hl:looks W (ndp p z)=goTo {W with read:=W.read+1,prev:=W.at_} z:=by
        unfold looks
        rw [hit_iff,if_neg (by simp [hkey])]
        rfl
       rw [hl]
       have hqq:E.q=(pre++[(x,p)])++t:=by rw [h1]; simp
       have hky:E.key∉kys (pre++[(x,p)]):=by
        simp only [kys,List.map_append,List.map_cons,List.map_nil,List.mem_append,List.mem_singleton]
        rintro (q | q)
        · exact h12 q
        · exact hkey q.symm
       have ht:=hc.pos.1 h0
       have hg:goTo {W with read:=W.read+1,prev:=W.at_} z={W with read:=W.read+1,prev:=W.at_,nx:=3}:=by unfold goTo; rw [if_pos h0]
       rw [hg]
       refine ⟨{W with read:=W.read+1,prev:=W.at_,nx:=3},.inl ⟨h9,?_,h7⟩,fun _=>h14,rfl⟩
       rw [hqq,ht,List.append_nil]
       exact hky
   · have hkey:¬p.1=E.key:=fun e=>by simp [e] at q
     have h0:¬z=0:=fun e=>by simp [e] at q
     have hl:looks W (ndp p z)=goTo {W with read:=W.read+1,prev:=W.at_} z:=by
      unfold looks
      rw [hit_iff,if_neg (by simp [hkey])]
      rfl
     rw [hl]
     have hqq:E.q=(pre++[(x,p)])++t:=by rw [h1]; simp
     have hky:E.key∉kys (pre++[(x,p)]):=by
      simp only [kys,List.map_append,List.map_cons,List.map_nil,List.mem_append,List.mem_singleton]
      rintro (q | q)
      · exact h12 q
      · exact hkey q.symm
     have hg:goTo {W with read:=W.read+1,prev:=W.at_} z={W with read:=W.read+1,prev:=W.at_,at_:=z,nx:=2}:=by unfold goTo; rw [if_neg h0]
     rw [hg]
     exact ⟨t.length,by omega,.w2 (pre++[(x,p)]) t {W with read:=W.read+1,prev:=W.at_,at_:=z,nx:=2} hqq (fun q=>h0 (hc.pos.2 q)) rfl hc h5 h6 h7 (by rw [lastH_snoc]; exact hx) h9 (by simp [h10]) h11 hky hzb h14⟩
theorem Fnd.okd {W:Wa} (hE:E.Ok) (h:Fnd E W) {L:Lm} {H:Ho} {y:Nat} (hy:y≤18446744073709551615) (hx:E.c<L.xs.length) (hs:∀ x j,IsAt E.L.ss x j→IsAt L.ss x j):Okd L (E.s H W) y:=by
 refine ⟨hy,fun hl=>?_,fun _=>⟨by simp only; omega,by simp only; omega⟩⟩
 simp only at hl
 rcases h with ⟨h0,_⟩ | ⟨pre,x,p,t,z,kk,hq,hp,hx,hk,hnd,hW,hc,hpv⟩
 · exact absurd h0 hl.1
 · have hne:pre≠[]:=by
    rintro rfl
    exact hl.2 hpv
   obtain ⟨p0,e,rfl⟩:∃ p0 e,pre=p0++[e]:=⟨pre.dropLast,pre.getLast hne,(List.dropLast_concat_getLast hne).symm⟩
   rw [lastH_snoc] at hpv
   have hch:=hE.ch
   rw [hq] at hch
   obtain ⟨j,_,hj,_⟩:=hch.at e (by simp)
   refine ⟨?_,j,?_⟩
   · show W.prev≤_
     rw [hpv,hj.2.2]
     have:=hE.gen j
     have:=hj.1
     have:=hE.len
     omega
   · show IsAt L.ss W.prev j
     rw [hpv]
     exact hs _ _ hj
end
end Go.Proofs.YtkogifmjbmnpgaaGreat.Pu
namespace Go.Proofs.YtkogifmjbmnpgaaGreat.Pu
open Go Go.RowKit Hp K Fl Rw Hm Ar Mm Me Wk Ta Pn Pc Mq
set_option maxRecDepth 100000
section
variable {L:Lm} {P:Pt}
theorem pstep2 (h:P.nx=2):pstep L P=((sstep L P.toSk).1,{P with toSk:=(sstep L P.toSk).2,nx:=if sdone L P.toSk=true then (if (sstep L P.toSk).2.cell= -1 then 6 else 3) else 2}):=by
 unfold pstep; rw [if_pos h]
theorem pstep3 (h:P.nx=3) {m:Nat} (hm:Least L.ss m):pstep L P=({L with ss:=L.ss.set m ⟨true,(at' L.ss m).gen,⟨P.key,P.val,P.sum,fol P.W⟩⟩},{P with mine:=(at' L.ss m).gen*65536+m+1,err:=0,nx:=4}):=by
 unfold pstep; rw [if_neg (by omega),if_pos h]; simp only [freePl_some.2 hm]
theorem pstep3n (h:P.nx=3) (hm:freePl L.ss=none):pstep L P=(L,{P with mine:=0,err:=4,nx:=6}):=by
 unfold pstep; rw [if_neg (by omega),if_pos h]; simp only [hm]
theorem pstep4 (h:P.nx=4):pstep L P=(slead L P.toSk P.mine,{P with mine:=P.W.found,nx:=if P.W.found≠0 then 5 else 6}):=by
 unfold pstep; rw [if_neg (by omega),if_neg (by omega),if_pos h]
theorem pstep5 (h:P.nx=5):pstep L P=({L with ws:=L.ws++[P.mine]},{P with mine:=0,nx:=6}):=by
 unfold pstep; rw [if_neg (by omega),if_neg (by omega),if_neg (by omega),if_pos h]
theorem pstep6 (h:P.nx=6):pstep L P=({L with hs:=L.hs.set P.H.lock (-1)},{P with H:={P.H with holds:=false},nx:=7}):=by
 unfold pstep; rw [if_neg (by omega),if_neg (by omega),if_neg (by omega),if_neg (by omega)]
end
abbrev Ep.new (E:Ep) (m:Nat):Nat:=(at' E.L.ss m).gen*65536+m+1
abbrev Ep.ss (E:Ep) (W:Wa) (m:Nat):List Sl:=E.L.ss.set m ⟨true,(at' E.L.ss m).gen,⟨E.key,E.val,sm E.key,fol W⟩⟩
def putL (E:Ep) (W:Wa) (m:Nat):Lm:=if W.found≠0∧W.prev≠0 then {E.L with ss:=lnk (E.ss W m) W.prev (E.new m)} else {E.L with ss:=E.ss W m,xs:=E.L.xs.set E.c (E.new m:Nat)}
abbrev putW (E:Ep) (W:Wa):List Nat:=if W.found≠0 then E.L.ws++[W.found] else E.L.ws
abbrev Ep.p (E:Ep) (nx:Nat) (H:Ho) (W:Wa) (err:Int) (mine:Nat):Pt:=⟨E.s H W,E.val,nx,err,mine⟩
inductive Rp (E:Ep):Nat→Lm×Pt→Prop
 | s (k:Nat) (L:Lm) (S:Sk):Rs E k (L,S)→Rp E (4+k) (L,⟨S,E.val,2,0,0⟩)
 | t (W:Wa):Fnd E W→Rp E 4 ({E.L with hs:=E.hs},E.p 3 E.H W 0 0)
 | full (W:Wa):Fnd E W→freePl E.L.ss=none→Rp E 1 ({E.L with hs:=E.hs},E.p 6 E.H W 4 0)
 | p (W:Wa) (m:Nat):Fnd E W→Least E.L.ss m→Rp E 3 ({E.L with hs:=E.hs,ss:=E.ss W m},E.p 4 E.H W 0 (E.new m))
 | r (W:Wa) (m:Nat):Fnd E W→Least E.L.ss m→W.found≠0→Rp E 2 ({putL E W m with hs:=E.hs},E.p 5 E.H W 0 W.found)
 | d (W:Wa) (m:Nat):Fnd E W→Least E.L.ss m→Rp E 1 ({putL E W m with hs:=E.hs,ws:=putW E W},E.p 6 E.H W 0 0)
inductive Qp (E:Ep):Lm×Pt→Prop
 | full (W:Wa):Fnd E W→freePl E.L.ss=none→Qp E (E.L,E.p 7 {E.H with holds:=false} W 4 0)
 | done (W:Wa) (m:Nat):Fnd E W→Least E.L.ss m→Qp E ({putL E W m with ws:=putW E W},E.p 7 {E.H with holds:=false} W 0 0)
section
variable {E:Ep} {k:Nat} {s:Lm×Pt}
theorem putL_hs (E:Ep) (W:Wa) (m:Nat):(putL E W m).hs=E.L.hs∧(putL E W m).ds=E.L.ds∧(putL E W m).ws=E.L.ws∧(putL E W m).F=E.L.F∧(putL E W m).k=E.L.k:=by
 unfold putL
 split<;>exact ⟨rfl,rfl,rfl,rfl,rfl⟩
theorem putL_xl (E:Ep) (W:Wa) (m:Nat):(putL E W m).xs.length=E.L.xs.length:=by
 unfold putL
 split
 · rfl
 · simp
theorem Rp.pos (h:Rp E k s):1≤k:=by cases h<;>omega
theorem Fnd.bd (hE:E.Ok) {W:Wa} (h:Fnd E W):0≤fol W∧fol W≤18446744073709551615:=by
 unfold fol
 rcases h with ⟨h0,_,hf⟩ | ⟨pre,x,p,t,z,k,hq,hp,hx,hk,hnd,hW,hc,hpv⟩
 · rw [if_neg (by omega),hf]
   have:=Cl.getD_bd hE.xb E.c
   have h2:E.word=(Cl.nth E.L.xs E.c).toNat:=rfl
   generalize E.word=ew at*
   omega
 · rw [if_pos (by rw [hx]; exact hk.pos),hW,← hnd]
   exact hE.nexts k
theorem Ep.Ok.x1p (hE:E.Ok) (W:Wa) (m:Nat) (hm:Least E.L.ss m):0≤Cl.nth (putL E W m).xs 1∧Cl.nth (putL E W m).xs 1≤18446744073709551615:=by
 unfold putL
 split
 · exact Cl.getD_bd hE.xb 1
 · refine Cl.getD_bd (fun x hx=>?_) 1
   rcases List.mem_or_eq_of_mem_set hx with q | rfl
   · exact hE.xb x q
   · have:=hE.gen m
     have:=hm.1
     have:=hE.len
     show 0≤(((at' E.L.ss m).gen*65536+m+1:Nat):Int)∧(((at' E.L.ss m).gen*65536+m+1:Nat):Int)≤_
     omega
theorem Ep.Ok.new_bd (hE:E.Ok) {m:Nat} (hm:Least E.L.ss m):E.new m≤18446744073709551615:=by
 have:=hE.gen m
 have:=hm.1
 have:=hE.len
 show (at' E.L.ss m).gen*65536+m+1≤_
 omega
theorem Ep.Ok.nexts_ss (hE:E.Ok) {W:Wa} {m:Nat} (hf:Fnd E W) (hm:Least E.L.ss m):Nexts (E.ss W m):=hE.nexts.set hm.1 _ (hf.bd hE)
theorem Ep.Ok.live (_hE:E.Ok) {m:Nat} (hm:Least E.L.ss m) {W:Wa} {x j:Nat} (hj:IsAt E.L.ss x j):IsAt (E.ss W m) x j:=by
 have hjm:j≠m:=by
  rintro rfl
  have:=hj.2.1
  rw [hm.2.1] at this
  simp at this
 exact (isAt_turn hm.1 _ _ _).2 (by rw [if_neg hjm]; exact hj)
theorem Rp.ok (hE:E.Ok) (h:Rp E k s):Okp s.1 s.2:=by
 cases h with
 | s k L S h=>exact ⟨by simp,fun q=>by simp at q,fun _=>h.ok hE,fun q=>by simp at q,fun q=>by simp at q,fun q=>by simp at q,fun q=>by simp at q⟩
 | t W hf=>exact ⟨by simp,fun _=>by simp,fun q=>by simp at q,fun _=>hE.gen,fun q=>by simp at q,fun q=>by simp at q,fun q=>by simp at q⟩
 | full W hf hn=>exact ⟨by simp,fun _=>by simp,fun q=>by simp at q,fun q=>by simp at q,fun q=>by simp at q,fun q=>by simp at q,fun _=>⟨hE.okl5 hE.x1 rfl (Cl.getD_bd hE.xb 1),rfl⟩⟩
 | p W m hf hm=>exact ⟨by simp,fun _=>by simp,fun q=>by simp at q,fun q=>by simp at q,fun _=>hf.okd hE (hE.new_bd hm) hE.cx (fun x j hj=>hE.live hm hj),fun q=>by simp at q,fun q=>by simp at q⟩
 | r W m hf hm h0=>
   have hp:=putL_hs E W m
   exact ⟨by simp,fun _=>by simp,fun q=>by simp at q,fun q=>by simp at q,fun q=>by simp at q,fun _=>by show (putL E W m).ws.length≤_; rw [hp.2.2.1]; exact hE.ws,fun q=>by simp at q⟩
 | d W m hf hm=>
   have hp:=putL_hs E W m
   exact ⟨by simp,fun _=>by simp,fun q=>by simp at q,fun q=>by simp at q,fun q=>by simp at q,fun q=>by simp at q,fun _=>⟨hE.okl5 (by show 1<(putL E W m).xs.length; rw [putL_xl]; exact hE.x1) hp.2.1 (hE.x1p W m hm),rfl⟩⟩
def Rq (E:Ep) (k:Nat) (s:Lm×Pt):Prop:=∃ j,j≤k∧Rp E j s
theorem Rp.q {E:Ep} {j:Nat} {s:Lm×Pt} (h:Rp E j s) {k:Nat} (hk:j≤k):Rq E k s:=⟨j,hk,h⟩
theorem Ep.Ok.c0 (_hE:E.Ok):¬((E.c:Int)= -1):=by omega
theorem Rp.step (hE:E.Ok) (h:Rp E k s):pready s.1 s.2=true∧1≤k∧(pdone s.1 s.2=true→Qp E (pstep s.1 s.2))∧(pdone s.1 s.2=false→Rq E (k-1) (pstep s.1 s.2)):=by
 cases h with
 | s k L S h=>
   obtain ⟨h1,h2,h3,h4⟩:=h.step hE
   refine ⟨h1,by omega,fun q=>by simp [pdone] at q,fun _=>?_⟩
   rw [pstep2 rfl]
   simp only at h3 h4 ⊢
   cases hd:sdone L S with
   | true=>
     obtain ⟨W,hf,_,e⟩:=h3 hd
     rw [e]
     simp only [if_true,if_neg hE.c0]
     exact (Rp.t W hf).q (by omega)
   | false=>
     obtain ⟨j,hj,hr⟩:=h4 hd
     simp only [Bool.false_eq_true,if_false]
     have:=Rp.s (E:=E) j (sstep L S).1 (sstep L S).2 hr
     exact this.q (by omega)
 | t W hf=>
   refine ⟨rfl,by omega,fun q=>by simp [pdone] at q,fun _=>?_⟩
   cases hfr:freePl E.L.ss with
   | some m=>
     have hm:=freePl_some.1 hfr
     have e:pstep {E.L with hs:=E.hs} (E.p 3 E.H W 0 0)=({E.L with hs:=E.hs,ss:=E.ss W m},E.p 4 E.H W 0 (E.new m)):=pstep3 (L:={E.L with hs:=E.hs}) rfl hm
     rw [e]
     exact (Rp.p W m hf hm).q (by omega)
   | none=>
     have e:pstep {E.L with hs:=E.hs} (E.p 3 E.H W 0 0)=({E.L with hs:=E.hs},E.p 6 E.H W 4 0):=pstep3n (L:={E.L with hs:=E.hs}) rfl hfr
     rw [e]
     exact (Rp.full W hf hfr).q (by omega)
 | full W hf hfr=>
   refine ⟨rfl,by omega,fun _=>?_,fun q=>by simp [pdone] at q⟩
   have e:pstep {E.L with hs:=E.hs} (E.p 6 E.H W 4 0)=(E.L,E.p 7 {E.H with holds:=false} W 4 0):=by
    rw [pstep6 rfl]
    show (({E.L with hs:=E.hs.set E.lock (-1)}:Lm),_)=_
    rw [hE.back]
   rw [e]
   exact .full W hf hfr
 | p W m hf hm=>
   refine ⟨rfl,by omega,fun q=>by simp [pdone] at q,fun _=>?_⟩
   have e:pstep {E.L with hs:=E.hs,ss:=E.ss W m} (E.p 4 E.H W 0 (E.new m))=({putL E W m with hs:=E.hs},E.p (if W.found≠0 then 5 else 6) E.H W 0 W.found):=by
    rw [pstep4 rfl]
    refine Prod.ext ?_ rfl
    unfold putL slead
    by_cases hl:W.found≠0∧W.prev≠0
    · show (if W.found≠0∧W.prev≠0 then _ else _)=_
      rw [if_pos hl,if_pos hl]
    · show (if W.found≠0∧W.prev≠0 then _ else _)=_
      rw [if_neg hl,if_neg hl]
      show ({E.L with hs:=E.hs,ss:=E.ss W m,xs:=E.L.xs.set ((E.c:Nat):Int).toNat (E.new m:Nat)}:Lm)=_
      rw [Int.toNat_natCast]
   rw [e]
   by_cases h0:W.found≠0
   · rw [if_pos h0]
     exact (Rp.r W m hf hm h0).q (by omega)
   · rw [if_neg h0]
     have h0':W.found=0:=by omega
     have:=Rp.d W m hf hm
     have e2:({putL E W m with hs:=E.hs,ws:=putW E W}:Lm)={putL E W m with hs:=E.hs}:=by
      unfold putW
      rw [if_neg h0,← (putL_hs E W m).2.2.1]
     rw [e2] at this
     rw [h0']
     exact this.q (by omega)
 | r W m hf hm h0=>
   refine ⟨rfl,by omega,fun q=>by simp [pdone] at q,fun _=>?_⟩
   have e:pstep {putL E W m with hs:=E.hs} (E.p 5 E.H W 0 W.found)=({putL E W m with hs:=E.hs,ws:=putW E W},E.p 6 E.H W 0 0):=by
    rw [pstep5 rfl]
    refine Prod.ext ?_ rfl
    show ({putL E W m with hs:=E.hs,ws:=(putL E W m).ws++[W.found]}:Lm)=_
    unfold putW
    rw [if_pos h0,(putL_hs E W m).2.2.1]
   rw [e]
   exact (Rp.d W m hf hm).q (by omega)
 | d W m hf hm=>
   refine ⟨rfl,by omega,fun _=>?_,fun q=>by simp [pdone] at q⟩
   have e:pstep {putL E W m with hs:=E.hs,ws:=putW E W} (E.p 6 E.H W 0 0)=({putL E W m with ws:=putW E W},E.p 7 {E.H with holds:=false} W 0 0):=by
    rw [pstep6 rfl]
    show (({putL E W m with ws:=putW E W,hs:=E.hs.set E.lock (-1)}:Lm),_)=_
    rw [hE.back,← (putL_hs E W m).1]
   rw [e]
   exact .done W m hf hm
end
theorem put_ends {w:World} {M:Mo} {a:Qa} {key val:ByteArray} {i:Int} {h c:Nat} {d:Nat×Nat} {q:List Mq.Hp} (hM:MemAt w M) (hP:PuAt w a (newPut h i key val)) (hE:Ep.Ok ⟨lm M,key,val,i,h,d,c,q⟩) (K:Nat) (hK:8+q.length≤K∧K≤1000000):
 Calls Tryz.prog 9 #[ptr M.m,.iface 46 (ptr a.f),.int .i64 K] w fun e w'=>∃ (n:Nat) (s:Lm×Pt),e=.returned (.tuple #[.int .i64 n,.bool true])∧(n≤8+q.length∧fin (fun s:Lm×Pt=>pready s.1 s.2) (fun s=>pstep s.1 s.2) (fun s=>pdone s.1 s.2) K (lm M,newPut h i key val)=(n,true,s))∧Qp ⟨lm M,key,val,i,h,d,c,q⟩ s∧puL.Inv M a (newPut h i key val) w s w':=by
 refine finish_frm put_frm hM hP (Rq ⟨lm M,key,val,i,h,d,c,q⟩) (Qp ⟨lm M,key,val,i,h,d,c,q⟩) ?_ (8+q.length) K ?_ hK.1 hK.2
 · rintro k s ⟨j,hj,hr⟩
   obtain ⟨h1,h2,h3,h4⟩:=hr.step hE
   refine ⟨hr.ok hE,h1,by omega,h3,fun hd=>?_⟩
   obtain ⟨j',hj',hr'⟩:=h4 hd
   exact ⟨j',by omega,hr'⟩
 · exact (Rp.s (E:=⟨lm M,key,val,i,h,d,c,q⟩) (4+q.length) _ _ .a1).q (by omega)
end Go.Proofs.YtkogifmjbmnpgaaGreat.Pu
