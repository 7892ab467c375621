/- Walks over layer 9 (walk): a look at a node that can be read. -/
import Derived.Test.YtpobbnllcoabhaaGreatWalkB
import Derived.BigRegion
set_option linter.unusedVariables false
set_option linter.unusedSimpArgs false
namespace Go.Proofs.YtpobbnllcoabhaaGreat.Wk
open Go Go.RowKit Hp K Fl Rw Hm Ar Mm Me
set_option maxRecDepth 100000
def hit (W:Wa) (n:Nd):Bool:=decide (n.sum=W.sum∧n.key=W.key)
def looks (W:Wa) (n:Nd):Wa:=if hit W n=true then {W with read:=W.read+1,found:=W.at_,nd:=n,nx:=3} else goTo {W with read:=W.read+1,prev:=W.at_} n.next.toNat
theorem bytes_ne {a b:ByteArray} (h:a≠b):(a.toList==b.toList)=false:=by
 rw [ByteArray.toList_eq,ByteArray.toList_eq,beq_eq_false_iff_ne]
 intro e
 exact h (ByteArray.ext (Array.toList_inj.1 e))
def lookD (W:Wa) (n:Nd):Bool:=hit W n||decide (n.next.toNat=0)
section
variable {w w':World} {M:Mo} {W:Wa}
set_option maxHeartbeats 4000000 in
theorem look_ok (hM:MemAt w M) (hW:WaAt w W) (hx:W.at_≤18446744073709551615) {k:Nat} (ha:IsAt M.ss W.at_ k) (hN:Nexts M.ss) (hr:W.read≤4611686018427387904):
 Calls Tryz.prog 191 #[ptr W.f,ptr M.m] w fun e w'=>e=.returned (.bool (lookD W (at' M.ss k).nd))∧WaAt w' (looks W (at' M.ss k).nd)∧Only (·=W.f) w w':=by
 obtain ⟨n,hn⟩:∃ n,n=(at' M.ss k).nd:=⟨_,rfl⟩
 have hR:=Lib.hid (fun (w1:World) (hb1:Below w.heap.size w w1)=>(read_ok (hM.below hb1).2.2.2.1 hx ha).mono fun e w2 h=>
  show e=.returned (.tuple #[.agg #[.string n.key,.string n.val,.int .u32 n.sum,.int .u64 n.next],.int .i64 0])∧(MemAt w2 M∧WaAt w2 W∧Below w.heap.size w w2∧Below w1.heap.size w1 w2) from
   ⟨by rw [hn]; exact h.1,(hM.below hb1).below h.2,(hW.below hb1).below h.2,hb1.trans (h.2.mono hb1.size),h.2⟩)
 have c4:=hW.hd.2.2.2.2.1
 have d2:=hM.hd.2.2.1
 have lW:=hW.lt
 have lM:=hM.1.lt
 have HW:=Lib.hid hW
 have nm:=World.new_ne w ⟨M.m,2,none⟩ d2
 have nw:=World.new_ne w ⟨W.f,4,none⟩ c4
 rw [← hn]
 have hnx:=(hN.at k).1
 rw [← hn] at hnx
 have hnb:=(hN.at k).2
 generalize nx M.ss k=z at*
 have hz:n.next.toNat=z:=by rw [hnx]; rfl
 replace hnx:=Lib.hid hnx
 replace hz:=Lib.hid hz
 clear hM hW hx hn ha hN
 go_enter Tryz.func191,Tryz.ntmps191
 go_upto_region 1 with (fail)
 go_cut [5,6] (fun p e wx=>Looked w wx M W n 0 (fun _=>False) p e)
 case first=>
  go_region_held3 (fun w'=>w'.cell? ⟨M.m,2,none⟩=some (ptr M.ar)∧w'.cell? ⟨W.f,4,none⟩=some (.int .u64 W.at_)) (go_keep)
   (first
     | (go_at_call 35
        refine (hR.out w.drew ⟨rfl,rfl,rfl,Nat.le_refl _,fun _ _=>rfl⟩).mono ?_
        rintro e w2 ⟨rfl,hM2,hW2,hO2,_⟩
        have d2':=hM2.hd.2.2.1
        have c4':=hW2.hd.2.2.2.2.1
        have hs2:=hO2.size
        replace hM2:=Lib.hid hM2
        replace hW2:=Lib.hid hW2
        replace hO2:=Lib.hid (Only.ofBelow hO2 (fun _=>False)))
     | (go_at_call 35
        refine (hR.out (w.alloc (.cells #[.string ⟨#[]⟩,.string ⟨#[]⟩,.int .u32 0,.int .u64 0] 88)).drew (((Below.refl w.heap.size w).alloc (Nat.le_refl _) _).trans ⟨rfl,rfl,rfl,by simp,fun _ _=>rfl⟩)).mono ?_
        rintro e w2 ⟨rfl,hM2,hW2,hO2,hO3⟩
        have hB2:Blk w2 w.heap.size 88 #[.string ⟨#[]⟩,.string ⟨#[]⟩,.int .u32 0,.int .u64 0]:=Blk.only (w:=(w.alloc (.cells #[.string ⟨#[]⟩,.string ⟨#[]⟩,.int .u32 0,.int .u64 0] 88)).drew) (Blk.made w _ _) (Only.ofBelow hO3 (fun _=>False)) (by simp)
        have d2':=hM2.hd.2.2.1
        have c4':=hW2.hd.2.2.2.2.1
        have hs2:=hO2.size
        have k0:=hB2.cell 0
        have k1:=hB2.cell 1
        have k2:=hB2.cell 2
        have k3:=hB2.cell 3
        simp at k0 k1 k2 k3
        have y0:=hB2.frozen 0
        have y1:=hB2.frozen 1
        have y2:=hB2.frozen 2
        have y3:=hB2.frozen 3
        replace hM2:=Lib.hid hM2
        replace hW2:=Lib.hid hW2
        replace hO2:=Lib.hid (Only.ofBelow hO2 (fun _=>False))
        replace hB2:=Lib.hid hB2))
  all_goals
   go_wp2_with fail
   go_meet
   first
    | exact looked_after (nd:=n) hM2.out hW2.out hO2.out
    | exact looked_ahead (nd:=n) hM2.out hW2.out hO2.out (Nat.le_refl _) hB2.out rfl rfl
 case rest=>
  obtain ⟨b,rfl,rfl,hb0,hB,hM1,hW1,hO1⟩:=hcut
  clear d2 hR c4
  have hW3:WaAt (wc.setCell ⟨W.f,7,none⟩ (.int .i64 (W.read+1:Nat))) {W with read:=W.read+1}:=Blk.store hW1 7 (.int .i64 (W.read+1:Nat))
  have hne:b≠W.f:=by have:=lW; omega
  have hB3:Blk (wc.setCell ⟨W.f,7,none⟩ (.int .i64 (W.read+1:Nat))) b 88 #[.string n.key,.string n.val,.int .u32 n.sum,.int .u64 n.next]:=Blk.far hB (fun e=>hne e) _
  have hO3:Only (·=W.f) w (wc.setCell ⟨W.f,7,none⟩ (.int .i64 (W.read+1:Nat))):=(show Only (·=W.f) w wc from hO1.mono (fun _ _ q=>q.elim)).setCell (p:=⟨W.f,7,none⟩) (.inl rfl) _
  have c7:=hW1.hd.2.2.2.2.2.2.2.1
  have z7:=hW1.frz 7
  rw [Int.natCast_add,Int.natCast_one] at hW3 hB3 hO3
  replace hB:=Lib.hid hB
  replace hM1:=Lib.hid hM1
  replace hW1:=Lib.hid hW1
  replace hO1:=Lib.hid hO1
  replace hW3:=Lib.hid hW3
  replace hB3:=Lib.hid hB3
  replace hO3:=Lib.hid hO3
  generalize hrd:W.read=r at*
  replace hrd:=Lib.hid hrd
  go_upto_region 5 with (fail)
  obtain ⟨w3,hw3⟩:∃ w3,w3=wc.setCell ⟨W.f,7,none⟩ (.int .i64 ((r:Int)+1)):=⟨_,rfl⟩
  rw [← hw3] at hW3 hB3 hO3 ⊢
  clear c7 z7 hB hW1 hO1 hM1 hw3
  obtain ⟨_,c1,c2,_,c4,_,c6,_,c8,c9,c10,c11,c12⟩:=hW3.out.hd
  simp only at c1 c2 c4 c6 c8 c9 c10 c11 c12
  have z6:=hW3.out.frz 6
  have z8:=hW3.out.frz 8
  have z9:=hW3.out.frz 9
  have z10:=hW3.out.frz 10
  have z11:=hW3.out.frz 11
  have z12:=hW3.out.frz 12
  simp only at z6 z8 z9 z10 z11 z12
  have k0:=hB3.out.cell 0
  have k1:=hB3.out.cell 1
  have k2:=hB3.out.cell 2
  have k3:=hB3.out.cell 3
  simp at k0 k1 k2 k3
  have HK:∀ w4,Only (·=W.f) w3 w4→Only (·=W.f) w w4:=fun w4 h=>hO3.out.trans h
  have HD:∀ nq,Only (·=W.f) w3 (w3.drewN nq):=fun nq=>(Only.refl _ _).drewN nq
  replace HK:=Lib.hid HK
  replace HD:=Lib.hid HD
  by_cases hs:n.sum=W.sum
  · by_cases hk:n.key=W.key
    · have e1:lookD W n=true:=by simp [lookD,hit,hs,hk]
      have e2:looks W n={W with read:=r+1,found:=W.at_,nd:=n,nx:=3}:=by simp [looks,hit,hs,hk,hrd.out]
      replace e1:=Lib.hid e1
      replace e2:=Lib.hid e2
      have hE:∀ w6,WaAt w6 {W with read:=r+1,found:=W.at_,nd:=n}→Only (·=W.f) w3 w6→Calls Tryz.prog 190 #[ptr W.f] w6 fun e w'=>e=.returned (.bool true)∧WaAt w' {W with read:=r+1,found:=W.at_,nd:=n,nx:=3}∧Only (·=W.f) w w':=fun w6 h1 h2=>(end_any h1).mono fun e w' q=>⟨q.1,q.2.1,hO3.out.trans (h2.trans q.2.2)⟩
      replace hE:=Lib.hid hE
      have hn3:{n with key:=W.key,sum:=W.sum}=n:=by rw [← hs,← hk]
      replace hn3:=Lib.hid hn3
      rw [hs] at k2
      rw [hk] at k0
      rw [hs,hk] at hB3
      clear hs hk
      go_quiet (fail)
      go_upto_region 6 with (fail)
      go_region
      all_goals
       have hW6:WaAt ((((((w3.drewN (nq+1)).setCell ⟨W.f,8,none⟩ (.int .u64 W.at_)).setCell ⟨W.f,9,none⟩ (.string W.key)).setCell ⟨W.f,10,none⟩ (.string n.val)).setCell ⟨W.f,11,none⟩ (.int .u32 W.sum)).setCell ⟨W.f,12,none⟩ (.int .u64 n.next)) {W with read:=r+1,found:=W.at_,nd:=n}:=by
        have h:=((((Blk.store (WaAt.drewN hW3.out (nq+1)) 8 (.int .u64 W.at_)).store 9 (.string W.key)).store 10 (.string n.val)).store 11 (.int .u32 W.sum)).store 12 (.int .u64 n.next)
        have e:({W with read:=r+1,found:=W.at_,nd:=n}:Wa)={W with read:=r+1,found:=W.at_,nd:={n with key:=W.key,sum:=W.sum}}:=by rw [hn3.out]
        rw [e]
        exact h
       have hO6:=((((((HD.out (nq+1)).setCell (p:=⟨W.f,8,none⟩) (.inl rfl) (.int .u64 W.at_)).setCell (p:=⟨W.f,9,none⟩) (.inl rfl) (.string W.key)).setCell (p:=⟨W.f,10,none⟩) (.inl rfl) (.string n.val)).setCell (p:=⟨W.f,11,none⟩) (.inl rfl) (.int .u32 W.sum)).setCell (p:=⟨W.f,12,none⟩) (.inl rfl) (.int .u64 n.next))
       have hE6:=Lib.hid (hE.out _ hW6 hO6)
       clear hW6 hO6 c1 c2 c4 c6 c8 c9 c10 c11 c12 z6 z8 z9 z10 z11 z12 k0 k1 k2 k3
       go_wp2_with fail
       refine hE6.out.mono ?_
       rintro e w7 ⟨rfl,hW7,hO7⟩
       replace hW7:=Lib.hid hW7
       replace hO7:=Lib.hid hO7
       clear hE6
       go_wp2_with fail
       go_ret
       rw [e1.out,e2.out]
       exact ⟨rfl,hW7.out,hO7.out⟩
    · have e1:lookD W n=decide (z=0):=by simp [lookD,hit,hk,hz.out]
      have e2:looks W n=goTo {W with read:=r+1,prev:=W.at_} z:=by simp [looks,hit,hk,hrd.out,hz.out]
      replace e1:=Lib.hid e1
      replace e2:=Lib.hid e2
      have hb2:(n.key.toList==W.key.toList)=false:=bytes_ne hk
      rw [hs] at k2
      rw [hnx.out] at k3
      clear hs hk
      go_quiet (fail)
      have hW5:WaAt ((w3.drewN nq).setCell ⟨W.f,6,none⟩ (.int .u64 W.at_)) {W with read:=r+1,prev:=W.at_}:=Blk.store (WaAt.drewN hW3.out nq) 6 (.int .u64 W.at_)
      have hO5:=Lib.hid ((hO3.out.drewN nq).setCell (p:=⟨W.f,6,none⟩) (.inl rfl) (.int .u64 W.at_))
      have hG:=Lib.hid (goOn_any hW5 z)
      clear hW5
      go_wp2_with fail
      refine hG.out.mono ?_
      rintro e w6 ⟨rfl,hW6,hO6⟩
      replace hO6:=Lib.hid (hO5.out.trans hO6)
      replace hW6:=Lib.hid hW6
      clear hG c1 c2 c4 c6 c8 c9 c10 c11 c12 z6 z8 z9 z10 z11 z12 k0 k1 k2 k3 hO5
      go_wp2_with fail
      go_ret
      rw [e1.out,e2.out]
      exact ⟨rfl,hW6.out,hO6.out⟩
  · have e1:lookD W n=decide (z=0):=by simp [lookD,hit,hs,hz.out]
    have e2:looks W n=goTo {W with read:=r+1,prev:=W.at_} z:=by simp [looks,hit,hs,hrd.out,hz.out]
    replace e1:=Lib.hid e1
    replace e2:=Lib.hid e2
    have hb2:(n.sum==W.sum)=false:=by simpa using hs
    rw [hnx.out] at k3
    clear hs
    go_quiet (fail)
    have hW5:WaAt ((w3.drewN nq).setCell ⟨W.f,6,none⟩ (.int .u64 W.at_)) {W with read:=r+1,prev:=W.at_}:=Blk.store (WaAt.drewN hW3.out nq) 6 (.int .u64 W.at_)
    have hO5:=Lib.hid ((hO3.out.drewN nq).setCell (p:=⟨W.f,6,none⟩) (.inl rfl) (.int .u64 W.at_))
    have hG:=Lib.hid (goOn_any hW5 z)
    clear hW5
    go_wp2_with fail
    refine hG.out.mono ?_
    rintro e w6 ⟨rfl,hW6,hO6⟩
    replace hO6:=Lib.hid (hO5.out.trans hO6)
    replace hW6:=Lib.hid hW6
    clear hG c1 c2 c4 c6 c8 c9 c10 c11 c12 z6 z8 z9 z10 z11 z12 k0 k1 k2 k3 hO5
    go_wp2_with fail
    go_ret
    rw [e1.out,e2.out]
    exact ⟨rfl,hW6.out,hO6.out⟩
end
end Go.Proofs.YtpobbnllcoabhaaGreat.Wk
