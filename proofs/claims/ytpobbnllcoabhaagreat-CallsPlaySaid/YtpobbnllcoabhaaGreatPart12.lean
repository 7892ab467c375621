/- Walks and plain mathematics, put together in their order: ClX, ClZ, ClM, ClS, One, ThE, FoA, LocksHeld, FnC, AwC. -/
import Derived.Test.YtpobbnllcoabhaaGreatPart11
import Derived.Test.YtpobbnllcoabhaaGreatGetB
import Derived.Test.YtpobbnllcoabhaaGreatWalkC
import Derived.Stop.Asserts
import Derived.Test.YtpobbnllcoabhaaGreatFinishN
import Derived.Test.YtpobbnllcoabhaaGreatLocksWalk
import Derived.Test.YtpobbnllcoabhaaGreatRowKit
set_option linter.unusedVariables false
set_option linter.unusedSimpArgs false
namespace Go.Proofs.YtpobbnllcoabhaaGreat.Ca
open Go Go.RowKit Hp K Fl Rw Hm Ar Mm Me LK Qs Wk Pc Pn Mq Pu Zp Mx LawTh Bs Zr
set_option maxRecDepth 100000
theorem known_any (k:Int) (w:World):Calls Tryz.prog 29 #[.int .i64 k] w fun e w'=>e=.returned (.bool (decide (0≤k∧k≤3)))∧w'=w:=by
 by_cases h1:0≤k
 · by_cases h2:k<4
   · rw [decide_eq_true ⟨h1,by omega⟩]
     go_enter Tryz.func29,Tryz.ntmps29
     go_wp2_with fail
     go_ret
     exact ⟨rfl,rfl⟩
   · rw [decide_eq_false (fun q=>h2 (by omega))]
     go_enter Tryz.func29,Tryz.ntmps29
     go_wp2_with fail
     go_ret
     exact ⟨rfl,rfl⟩
 · rw [decide_eq_false (fun q=>h1 q.1)]
   go_enter Tryz.func29,Tryz.ntmps29
   go_wp2_with fail
   go_ret
   exact ⟨rfl,rfl⟩
theorem iskey_any (key:ByteArray) (w:World):Calls Tryz.prog 30 #[.string key] w fun e w'=>e=.returned (.bool (decide (1≤key.size∧key.size≤32)))∧w'=w:=by
 by_cases h1:key=⟨#[]⟩
 · subst h1
   rw [decide_eq_false (by decide)]
   go_enter Tryz.func30,Tryz.ntmps30
   go_wp2_with fail
   go_ret
   exact ⟨rfl,rfl⟩
 · have hb0:=bytes_ne h1
   have hb:key.toList.isEmpty=false:=by
    cases hq:key.toList with
    | nil=>rw [hq] at hb0; simp [ByteArray.toList_eq] at hb0
    | cons x r=>rfl
   clear hb0
   have hs:1≤key.size:=by
    rcases Nat.eq_zero_or_pos key.size with q | q
    · exact absurd (ByteArray.ext (Array.eq_empty_of_size_eq_zero q)) h1
    · exact q
   generalize hks:key.size=ks at*
   have hks':(key.size:Int)=(ks:Int):=by rw [hks]
   clear h1
   by_cases h2:(ks:Int)≤32
   · rw [decide_eq_true ⟨hs,by omega⟩]
     clear hks hs
     go_enter Tryz.func30,Tryz.ntmps30
     go_wp2_with fail
     go_ret
     exact ⟨rfl,rfl⟩
   · rw [decide_eq_false (fun q=>h2 (by omega))]
     clear hks hs
     go_enter Tryz.func30,Tryz.ntmps30
     go_wp2_with fail
     go_ret
     exact ⟨rfl,rfl⟩
theorem isval_any (val:ByteArray) (w:World):Calls Tryz.prog 31 #[.string val] w fun e w'=>e=.returned (.bool (decide (val.size≤32)))∧w'=w:=by
 generalize hks:val.size=ks at*
 have hks':(val.size:Int)=(ks:Int):=by rw [hks]
 by_cases h2:(ks:Int)≤32
 · rw [decide_eq_true (by omega)]
   clear hks
   go_enter Tryz.func31,Tryz.ntmps31
   go_wp2_with fail
   go_ret
   exact ⟨rfl,rfl⟩
 · rw [decide_eq_false (by omega)]
   clear hks
   go_enter Tryz.func31,Tryz.ntmps31
   go_wp2_with fail
   go_ret
   exact ⟨rfl,rfl⟩
set_option maxHeartbeats 1000000 in
theorem check_any (c:Ct) (w:World):Calls Tryz.prog 13 #[ctv c] w fun e w'=>e=.returned (.int .i64 (chk c))∧Below w.heap.size w w':=by
 obtain ⟨k,key,val,z⟩:=c
 unfold ctv chk
 simp only
 have hB:=Lib.hid (below_1 w (.cells #[.int .i64 k,.string key,.string val,.int .i64 z] 30))
 have hK:=fun w=>known_any k w
 have hI:=fun w=>iskey_any key w
 have hV:=fun w=>isval_any val w
 generalize key.size=ks at*
 generalize val.size=vs at*
 by_cases h1:0≤k∧k≤3
 case neg=>
  rw [if_pos (by omega)]
  simp only [decide_eq_false h1] at hK
  replace hK:=Lib.hid hK
  replace hI:=Lib.hid hI
  replace hV:=Lib.hid hV
  go_enter Tryz.func13,Tryz.ntmps13
  go_wp2_with (first | (go_at_call 29; refine (hK.out _).mono ?_; rintro e w' ⟨rfl,rfl⟩) | (go_at_call 30; refine (hI.out _).mono ?_; rintro e w' ⟨rfl,rfl⟩) | (go_at_call 31; refine (hV.out _).mono ?_; rintro e w' ⟨rfl,rfl⟩))
  go_ret
  exact ⟨rfl,hB.out⟩
 simp only [decide_eq_true h1] at hK
 replace hK:=Lib.hid hK
 rw [if_neg (by omega)]
 by_cases h3:k=3
 · rw [if_neg (by omega)]
   subst h3
   replace hI:=Lib.hid hI
   replace hV:=Lib.hid hV
   clear h1
   go_enter Tryz.func13,Tryz.ntmps13
   go_wp2_with (first | (go_at_call 29; refine (hK.out _).mono ?_; rintro e w' ⟨rfl,rfl⟩) | (go_at_call 30; refine (hI.out _).mono ?_; rintro e w' ⟨rfl,rfl⟩) | (go_at_call 31; refine (hV.out _).mono ?_; rintro e w' ⟨rfl,rfl⟩))
   go_ret
   exact ⟨rfl,hB.out⟩
 have h3':k<3:=by omega
 clear h1
 by_cases h4:1≤ks∧ks≤32
 case neg=>
  rw [if_pos ⟨h3',by omega⟩]
  simp only [decide_eq_false h4] at hI
  replace hI:=Lib.hid hI
  replace hV:=Lib.hid hV
  clear h3' h4
  go_enter Tryz.func13,Tryz.ntmps13
  go_wp2_with (first | (go_at_call 29; refine (hK.out _).mono ?_; rintro e w' ⟨rfl,rfl⟩) | (go_at_call 30; refine (hI.out _).mono ?_; rintro e w' ⟨rfl,rfl⟩) | (go_at_call 31; refine (hV.out _).mono ?_; rintro e w' ⟨rfl,rfl⟩))
  go_ret
  exact ⟨rfl,hB.out⟩
 simp only [decide_eq_true h4] at hI
 replace hI:=Lib.hid hI
 by_cases h6:k=1
 · subst h6
   by_cases h7:vs≤32
   · rw [if_neg (by omega)]
     simp only [decide_eq_true h7] at hV
     replace hV:=Lib.hid hV
     clear h3' h3 h4 h7
     go_enter Tryz.func13,Tryz.ntmps13
     go_wp2_with (first | (go_at_call 29; refine (hK.out _).mono ?_; rintro e w' ⟨rfl,rfl⟩) | (go_at_call 30; refine (hI.out _).mono ?_; rintro e w' ⟨rfl,rfl⟩) | (go_at_call 31; refine (hV.out _).mono ?_; rintro e w' ⟨rfl,rfl⟩))
     go_ret
     exact ⟨rfl,hB.out⟩
   · rw [if_pos ⟨h3',.inr (.inr ⟨rfl,by omega⟩)⟩]
     simp only [decide_eq_false h7] at hV
     replace hV:=Lib.hid hV
     clear h3' h3 h4 h7
     go_enter Tryz.func13,Tryz.ntmps13
     go_wp2_with (first | (go_at_call 29; refine (hK.out _).mono ?_; rintro e w' ⟨rfl,rfl⟩) | (go_at_call 30; refine (hI.out _).mono ?_; rintro e w' ⟨rfl,rfl⟩) | (go_at_call 31; refine (hV.out _).mono ?_; rintro e w' ⟨rfl,rfl⟩))
     go_ret
     exact ⟨rfl,hB.out⟩
 · rw [if_neg (by omega)]
   replace hV:=Lib.hid hV
   clear h3' h4
   go_enter Tryz.func13,Tryz.ntmps13
   go_wp2_with (first | (go_at_call 29; refine (hK.out _).mono ?_; rintro e w' ⟨rfl,rfl⟩) | (go_at_call 30; refine (hI.out _).mono ?_; rintro e w' ⟨rfl,rfl⟩) | (go_at_call 31; refine (hV.out _).mono ?_; rintro e w' ⟨rfl,rfl⟩))
   go_ret
   exact ⟨rfl,hB.out⟩
section
variable {w w' w3 w4:World} {a:Cp} {C:Cl} {F:Fr} {f:Nat} {e:Int}
abbrev noGa:Gt.Ga:=⟨0,0,0,0⟩
abbrev noQa:Pu.Qa:=⟨0,0,0⟩
abbrev noRa:Zr.Ra:=⟨0,.nilIface,⟨0,.nilIface,.nilIface,0,0,none,0,0,none,0,[],none,0,[]⟩,⟨0,.nilIface,0,0⟩⟩
theorem chk_key {c:Ct} (h:chk c=0):0≤c.kind∧c.kind≤3:=by
 unfold chk at h
 by_cases q:c.kind<0∨3<c.kind
 · rw [if_pos q] at h; simp at h
 · omega
theorem inn_f {f:Nat} (h:Inn w a e F):Inn w {a with f:=f} e F:=by cases F<;>exact h
theorem ifoot_f {f x:Nat} (h:ifoot {a with f:=f} F x):ifoot a F x:=by cases F<;>exact h
theorem inn_tv (h:Inn w a e F):∃ T v,a.tv=.iface T v:=by
 cases F with
 | ref=>exact ⟨_,_,h⟩
 | get G=>exact ⟨_,_,h.1⟩
 | put P=>exact ⟨_,_,h.1⟩
 | del D=>exact ⟨_,_,h.1⟩
 | rz R=>exact ⟨_,_,h.1⟩
def IniF (i:Nat) (c:Ct) (F:Fr):Prop:=(chk c≠0→F=.ref)∧
 (chk c=0→F≠.ref∧(c.kind=0→F=.get (Gt.newGet i c.key))∧(c.kind=1→∃ h,F=.put (Pu.newPut h i c.key c.val))∧(c.kind=2→∃ h,F=.del (Dl.newDel h i c.key))∧(c.kind=3→F=.rz (Zr.newRz i c.size)))
def FrS (w:World) (i:Nat) (c:Ct) (e:Ending) (w':World):Prop:=∃ (a:Cp) (F:Fr),e=.returned a.tv∧IniF i c F∧Inn w' a (chk c) F∧(∀ x,ifoot a F x→w.heap.size≤x)∧Below w.heap.size w w'
end
set_option maxHeartbeats 2000000 in
theorem frame_any (i:Nat) (c:Ct) (hk:c.key.size≤maxLen) (w:World):Calls Tryz.prog 52 #[.int .i64 i,.agg #[.int .i64 c.kind,.string c.key,.string c.val,.int .i64 c.size]] w (FrS w i c):=by
 have hC:=Lib.hid (fun w=>show Calls Tryz.prog 13 #[.agg #[.int .i64 c.kind,.string c.key,.string c.val,.int .i64 c.size]] w (fun e w'=>e=.returned (.int .i64 (chk c))∧Below w.heap.size w w') from check_any c w)
 have hkn:=Lib.hid (fun h=>chk_key (c:=c) h)
 obtain ⟨w1,hw1⟩:∃ w1,w1=w.alloc (.cells #[.int .i64 c.kind,.string c.key,.string c.val,.int .i64 c.size] 30):=⟨_,rfl⟩
 have b1:Blk w1 w.heap.size 30 #[.int .i64 c.kind,.string c.key,.string c.val,.int .i64 c.size]:=by rw [hw1]; exact Blk.made w _ _
 have d1:Below w.heap.size w w1:=by rw [hw1]; exact below_1 _ _
 obtain ⟨p,hp⟩:∃ p,p=w.heap.size:=⟨_,rfl⟩
 rw [← hp] at b1
 have p0:=b1.cell 0
 have p1:=b1.cell 1
 have p2:=b1.cell 2
 have p3:=b1.cell 3
 simp at p0 p1 p2 p3
 have lp:=b1.lt
 go_enter Tryz.func52,Tryz.ntmps52
 go_upto_region 1 with (fail)
 rw [← hw1,← hp]
 clear hw1 hp
 go_upto_region 2 with (go_at_call 13; refine (hC.out _).mono ?_; rintro e w2 ⟨rfl,hb2⟩)
 have d2:=Lib.hid (d1.trans (hb2.mono d1.size))
 have b4:=b1.only (Only.ofBelow hb2 (fun _=>False)) (by simp)
 have p0:=b4.cell 0
 have p1:=b4.cell 1
 have p2:=b4.cell 2
 have p3:=b4.cell 3
 simp at p0 p1 p2 p3
 have lp:=b4.lt
 clear b1 d1 hC hb2 b4
 by_cases h0:chk c=0
 case neg=>
  have hE:Hid (FrS w i c (.returned (.iface 155 (.agg #[.int .i64 (chk c)]))) w2):=Lib.hid ⟨⟨0,.iface 155 (rfv (chk c)),noGa,noQa,noRa⟩,.ref,rfl,⟨fun _=>rfl,fun q=>absurd q h0⟩,rfl,fun x hx=>absurd hx (fun q=>q),d2.out⟩
  clear hkn d2
  go_wp2_with fail
  go_ret
  exact hE.out
 obtain ⟨k1,k2⟩:=hkn.out h0
 have hch:=Lib.hid h0
 clear hkn
 have hkk:c.kind=0∨c.kind=1∨c.kind=2∨c.kind=3:=by omega
 clear k1 k2
 rcases hkk with hkk | hkk | hkk | hkk
 · have hN:=Lib.hid (Gt.new_any i c.key hk w2)
   have hkh:=Lib.hid hkk
   rw [hkk] at p0
   clear hkk
   go_wp2_with fail
   refine hN.out.mono ?_
   rintro e w4 ⟨a,rfl,hG,hl,hb⟩
   have hE:Hid (FrS w i c (.returned (.iface 156 (ptr a.f))) w4):=Lib.hid (by
    have hkk:=hkh.out
    have h0:=hch.out
    refine ⟨⟨0,.iface 156 (ptr a.f),a,noQa,noRa⟩,.get (Gt.newGet i c.key),rfl,⟨fun q=>absurd h0 q,fun _=>⟨by simp,fun _=>rfl,fun q=>by omega,fun q=>by omega,fun q=>by omega⟩⟩,⟨rfl,hG⟩,fun x hx=>Nat.le_trans d2.out.size (hl x hx),d2.out.trans (hb.mono d2.out.size)⟩)
   clear hN hG hl hb d2 hk p0 p1 p2 p3 lp hkh h0 hch
   go_wp2_with fail
   go_ret
   exact hE.out
 · have hN:=Lib.hid (Pu.new_any i c.key c.val hk w2)
   have hkh:=Lib.hid hkk
   rw [hkk] at p0
   clear hkk
   go_wp2_with fail
   refine hN.out.mono ?_
   rintro e w4 ⟨a,h,rfl,hG,hl,hb⟩
   have hE:Hid (FrS w i c (.returned (.iface 158 (ptr a.f))) w4):=Lib.hid (by
    have hkk:=hkh.out
    have h0:=hch.out
    refine ⟨⟨0,.iface 158 (ptr a.f),noGa,a,noRa⟩,.put (Pu.newPut h i c.key c.val),rfl,⟨fun q=>absurd h0 q,fun _=>⟨by simp,fun q=>by omega,fun _=>⟨h,rfl⟩,fun q=>by omega,fun q=>by omega⟩⟩,⟨rfl,hG⟩,fun x hx=>Nat.le_trans d2.out.size (hl x hx),d2.out.trans (hb.mono d2.out.size)⟩)
   clear hN hG hl hb d2 hk p0 p1 p2 p3 lp hkh h0 hch
   go_wp2_with fail
   go_ret
   exact hE.out
 · have hN:=Lib.hid (Dl.new_any i c.key hk w2)
   have hkh:=Lib.hid hkk
   rw [hkk] at p0
   clear hkk
   go_wp2_with fail
   refine hN.out.mono ?_
   rintro e w4 ⟨a,h,rfl,hG,hl,hb⟩
   have hE:Hid (FrS w i c (.returned (.iface 135 (ptr a.f))) w4):=Lib.hid (by
    have hkk:=hkh.out
    have h0:=hch.out
    refine ⟨⟨0,.iface 135 (ptr a.f),noGa,a,noRa⟩,.del (Dl.newDel h i c.key),rfl,⟨fun q=>absurd h0 q,fun _=>⟨by simp,fun q=>by omega,fun q=>by omega,fun _=>⟨h,rfl⟩,fun q=>by omega⟩⟩,⟨rfl,hG⟩,fun x hx=>Nat.le_trans d2.out.size (hl x hx),d2.out.trans (hb.mono d2.out.size)⟩)
   clear hN hG hl hb d2 hk p0 p1 p2 p3 lp hkh h0 hch
   go_wp2_with fail
   go_ret
   exact hE.out
 · have hN:=Lib.hid (new_resize i c.size w2)
   have hkh:=Lib.hid hkk
   rw [hkk] at p0
   clear hkk
   go_wp2_with fail
   refine hN.out.mono ?_
   rintro e w4 ⟨a,rfl,hG,hl,hb⟩
   have hE:Hid (FrS w i c (.returned (.iface 94 (ptr (rzL.f a)))) w4):=Lib.hid (by
    have hkk:=hkh.out
    have h0:=hch.out
    refine ⟨⟨0,.iface 94 (ptr (rzL.f a)),noGa,noQa,a⟩,.rz (Zr.newRz i c.size),rfl,⟨fun q=>absurd h0 q,fun _=>⟨by simp,fun q=>by omega,fun q=>by omega,fun q=>by omega,fun _=>rfl⟩⟩,⟨rfl,hG⟩,fun x hx=>Nat.le_trans d2.out.size (hl x hx),d2.out.trans (hb.mono d2.out.size)⟩)
   clear hN hG hl hb d2 hk p0 p1 p2 p3 lp hkh h0 hch
   go_wp2_with fail
   go_ret
   exact hE.out
def NwS (w:World) (i:Nat) (c:Ct) (e:Ending) (w':World):Prop:=∃ (a:Cp) (C:Cl),e=.returned (ptr (clL.f a))∧Ini i c C∧clL.At w' a C∧(∀ x,clL.foot a C x→w.heap.size≤x)∧Below w.heap.size w w'
set_option maxHeartbeats 2000000 in
theorem new_call (i:Nat) (c:Ct) (hk:c.key.size≤maxLen) (w:World):Calls Tryz.prog 22 #[.int .i64 i,ctv c] w fun e w'=>∃ (a:Cp) (C:Cl),e=.returned (ptr (clL.f a))∧Ini i c C∧clL.At w' a C∧(∀ x,clL.foot a C x→w.heap.size≤x)∧Below w.heap.size w w':=by
 have hF:=Lib.hid (fun w=>frame_any i c hk w)
 show Calls Tryz.prog 22 #[.int .i64 i,.agg #[.int .i64 c.kind,.string c.key,.string c.val,.int .i64 c.size]] w (NwS w i c)
 obtain ⟨w1,hw1⟩:∃ w1,w1=w.alloc (.cells #[.int .i64 c.kind,.string c.key,.string c.val,.int .i64 c.size] 30):=⟨_,rfl⟩
 have b1:Blk w1 w.heap.size 30 #[.int .i64 c.kind,.string c.key,.string c.val,.int .i64 c.size]:=by rw [hw1]; exact Blk.made w _ _
 have d1:Below w.heap.size w w1:=by rw [hw1]; exact below_1 _ _
 obtain ⟨p,hp⟩:∃ p,p=w.heap.size:=⟨_,rfl⟩
 rw [← hp] at b1
 have p0:=b1.cell 0
 have p1:=b1.cell 1
 have p2:=b1.cell 2
 have p3:=b1.cell 3
 simp at p0 p1 p2 p3
 have lp:=b1.lt
 go_enter Tryz.func22,Tryz.ntmps22
 go_upto_region 1 with (fail)
 rw [← hw1,← hp]
 clear hw1 hp
 go_wp2_with (go_at_call 52; refine (hF.out _).mono ?_; rintro e w2 ⟨a,F,rfl,hI,hIn,hl,hb⟩; obtain ⟨T,v,htv⟩:=inn_tv hIn; rw [htv])
 have hE:Hid (NwS w i c (.returned (ptr w2.heap.size)) (w2.alloc (.cells #[.iface T v,.bool false] 116))):=Lib.hid (by
  have d2:=d1.trans (hb.mono d1.size)
  rw [← htv]
  have h3:=below_1 w2 (.cells #[a.tv,.bool false] 116)
  refine ⟨{a with f:=w2.heap.size},⟨F,chk c,false⟩,rfl,⟨rfl,rfl,hI.1,fun q=>(hI.2 q).2⟩,⟨Blk.made w2 _ _,?_,fun q=>?_⟩,fun x hx=>?_,d2.trans (h3.mono d2.size)⟩
  · exact inn_only (inn_f hIn) (Only.ofBelow h3 (fun _=>False)) (by simp)
  · by_cases h0:chk c=0
    · exact h0
    · exact absurd (hI.1 h0) q
  · rcases hx with rfl | hx
    · exact d2.size
    · exact Nat.le_trans d1.size (hl x (ifoot_f hx)))
 clear hF b1 d1 hI hIn hl hb p0 p1 p2 p3 lp htv
 go_wp2_with fail
 go_ret
 exact hE.out
end Go.Proofs.YtpobbnllcoabhaaGreat.Ca
namespace Go.Proofs.YtpobbnllcoabhaaGreat.Ca
open Go Go.RowKit Hp K Fl Rw Hm Ar Mm Me LK Qs Wk Pc Pn Mq Pu Zp Mx LawTh Bs Zr
set_option maxRecDepth 100000
theorem ta_get_get (b:Nat) (w:World):(Instr.typeAssert (.iface 156 (ptr b)) 112 156 true).run Tryz.prog w=.ok (.tuple #[ptr b,.bool true]) w:=by kernel_rfl
theorem ta_put_get (b:Nat) (w:World):(Instr.typeAssert (.iface 158 (ptr b)) 112 156 true).run Tryz.prog w=.ok (.tuple #[.pointer none,.bool false]) w:=by kernel_rfl
theorem ta_put_put (b:Nat) (w:World):(Instr.typeAssert (.iface 158 (ptr b)) 112 158 true).run Tryz.prog w=.ok (.tuple #[ptr b,.bool true]) w:=by kernel_rfl
theorem ta_del_get (b:Nat) (w:World):(Instr.typeAssert (.iface 135 (ptr b)) 112 156 true).run Tryz.prog w=.ok (.tuple #[.pointer none,.bool false]) w:=by kernel_rfl
theorem ta_del_put (b:Nat) (w:World):(Instr.typeAssert (.iface 135 (ptr b)) 112 158 true).run Tryz.prog w=.ok (.tuple #[.pointer none,.bool false]) w:=by kernel_rfl
theorem ta_del_del (b:Nat) (w:World):(Instr.typeAssert (.iface 135 (ptr b)) 112 135 true).run Tryz.prog w=.ok (.tuple #[ptr b,.bool true]) w:=by kernel_rfl
theorem ta_rz_get (b:Nat) (w:World):(Instr.typeAssert (.iface 94 (ptr b)) 112 156 true).run Tryz.prog w=.ok (.tuple #[.pointer none,.bool false]) w:=by kernel_rfl
theorem ta_rz_put (b:Nat) (w:World):(Instr.typeAssert (.iface 94 (ptr b)) 112 158 true).run Tryz.prog w=.ok (.tuple #[.pointer none,.bool false]) w:=by kernel_rfl
theorem ta_rz_del (b:Nat) (w:World):(Instr.typeAssert (.iface 94 (ptr b)) 112 135 true).run Tryz.prog w=.ok (.tuple #[.pointer none,.bool false]) w:=by kernel_rfl
theorem ta_rz_rz (b:Nat) (w:World):(Instr.typeAssert (.iface 94 (ptr b)) 112 94 true).run Tryz.prog w=.ok (.tuple #[ptr b,.bool true]) w:=by kernel_rfl
theorem ta_ref_get (e:Int) (w:World):(Instr.typeAssert (.iface 155 (rfv e)) 112 156 true).run Tryz.prog w=.ok (.tuple #[.pointer none,.bool false]) w:=by kernel_rfl
theorem ta_ref_put (e:Int) (w:World):(Instr.typeAssert (.iface 155 (rfv e)) 112 158 true).run Tryz.prog w=.ok (.tuple #[.pointer none,.bool false]) w:=by kernel_rfl
theorem ta_ref_del (e:Int) (w:World):(Instr.typeAssert (.iface 155 (rfv e)) 112 135 true).run Tryz.prog w=.ok (.tuple #[.pointer none,.bool false]) w:=by kernel_rfl
theorem ta_ref_rz (e:Int) (w:World):(Instr.typeAssert (.iface 155 (rfv e)) 112 94 true).run Tryz.prog w=.ok (.tuple #[.pointer none,.bool false]) w:=by kernel_rfl
theorem ta_ref_ref (e:Int) (w:World):(Instr.typeAssert (.iface 155 (rfv e)) 112 155 true).run Tryz.prog w=.ok (.tuple #[rfv e,.bool true]) w:=by kernel_rfl
section
variable {w w':World} {a:Cp} {C:Cl} {f b:Nat} {tv:Value} {e:Int}
theorem res_zero (hb:Blk w f 116 (ccs tv false)):Calls Tryz.prog 23 #[ptr f] w fun e w'=>e=.returned (.tuple #[.agg #[.int .i64 0,.bool false,.string ⟨#[]⟩],.bool false])∧Below w.heap.size w w':=by
 obtain ⟨w1,hw1⟩:∃ w1,w1=w.alloc (.cells #[.int .i64 0,.bool false,.string ⟨#[]⟩] 43):=⟨_,rfl⟩
 have b1:Blk w1 w.heap.size 43 #[.int .i64 0,.bool false,.string ⟨#[]⟩]:=by rw [hw1]; exact Blk.made w _ _
 have d1:Below w.heap.size w w1:=by rw [hw1]; exact below_1 _ _
 have hb1:=hb.only (Only.ofBelow d1 (fun _=>False)) (by simp)
 have c2:=(cb_cells hb1).2
 have lf:=hb1.lt
 have hne:f≠w.heap.size:=fun q=>by have:=hb.lt; omega
 obtain ⟨q,hq⟩:∃ q,q=w.heap.size:=⟨_,rfl⟩
 have hqw:w.heap.size≤q:=by omega
 rw [← hq] at b1 hne
 have g0:=b1.cell 0
 have g1:=b1.cell 1
 have g2:=b1.cell 2
 have z0:=b1.frozen 0
 have z1:=b1.frozen 1
 have z2:=b1.frozen 2
 simp at g0 g1 g2
 have lq:=b1.lt
 have hB:=Lib.hid (((d1.setCell (p:=⟨q,0,none⟩) hqw (.int .i64 0)).setCell (p:=⟨q,1,none⟩) hqw (.bool false)).setCell (p:=⟨q,2,none⟩) hqw (.string ⟨#[]⟩))
 clear hb hb1 b1 d1 hqw
 go_enter Tryz.func23,Tryz.ntmps23
 go_upto_region 1 with (fail)
 rw [← hw1,← hq]
 clear hw1 hq
 go_wp2_with fail
 exact bodyPost_ret (v:=.tuple #[.agg #[.int .i64 0,.bool false,.string ⟨#[]⟩],.bool false]) (by simp [results,Tryz.results23,go_sem,g0,g1,g2]) rfl ⟨rfl,hB.out⟩
theorem res_done {e1:Int} {h:Bool} {v:ByteArray} (hb:Blk w f 116 (ccs tv true)) (hA:∀ wx,Below w.heap.size w wx→Calls Tryz.prog 53 #[tv] wx fun e' w'=>e'=.returned (.agg #[.int .i64 e1,.bool h,.string v])∧Below wx.heap.size wx w'):
 Calls Tryz.prog 23 #[ptr f] w fun e' w'=>e'=.returned (.tuple #[.agg #[.int .i64 e1,.bool h,.string v],.bool true])∧Below w.heap.size w w':=by
 obtain ⟨w1,hw1⟩:∃ w1,w1=w.alloc (.cells #[.int .i64 0,.bool false,.string ⟨#[]⟩] 43):=⟨_,rfl⟩
 have b1:Blk w1 w.heap.size 43 #[.int .i64 0,.bool false,.string ⟨#[]⟩]:=by rw [hw1]; exact Blk.made w _ _
 have d1:Below w.heap.size w w1:=by rw [hw1]; exact below_1 _ _
 have hA2:=Lib.hid (hA w1 d1)
 have hb1:=hb.only (Only.ofBelow d1 (fun _=>False)) (by simp)
 have c0:=(cb_cells hb1).1
 have c2:=(cb_cells hb1).2
 have lf:=hb1.lt
 obtain ⟨q,hq⟩:∃ q,q=w.heap.size:=⟨_,rfl⟩
 have hqw:w.heap.size≤q:=by omega
 rw [← hq] at b1
 clear hb hb1 hA
 go_enter Tryz.func23,Tryz.ntmps23
 go_upto_region 1 with (fail)
 rw [← hw1,← hq]
 clear hw1 hq
 go_wp2_with fail
 refine hA2.out.mono ?_
 rintro e w3 ⟨rfl,hb3⟩
 have b3:=b1.only (Only.ofBelow hb3 (fun _=>False)) (by simp)
 have hB:=Lib.hid (d1.trans (hb3.mono d1.size))
 clear hA2 hb3 b1 d1
 clear c0 c2 lf
 have g0:=b3.cell 0
 have g1:=b3.cell 1
 have g2:=b3.cell 2
 have z0:=b3.frozen 0
 have z1:=b3.frozen 1
 have z2:=b3.frozen 2
 simp at g0 g1 g2
 have lq:=b3.lt
 clear b3
 go_wp2_with fail
 refine bodyPost_ret (v:=.tuple #[.agg #[.int .i64 e1,.bool h,.string v],.bool true]) (by simp [results,Tryz.results23,go_sem,g0,g1,g2]) rfl ⟨rfl,?_⟩
 repeat' first | exact hB.out | (refine Below.setCell ?_ ?_ _) | exact hqw
set_option maxHeartbeats 1000000 in
theorem aw_get {v:ByteArray} {h:Bool} (hF:∀ wx,Below w.heap.size w wx→Calls Tryz.prog 77 #[ptr b] wx fun e' w'=>e'=.returned (.tuple #[.string v,.bool h])∧Below wx.heap.size wx w'):
 Calls Tryz.prog 53 #[.iface 156 (ptr b)] w fun e' w'=>e'=.returned (.agg #[.int .i64 0,.bool h,.string v])∧Below w.heap.size w w':=by
 obtain ⟨w1,hw1⟩:∃ w1,w1=w.alloc (.cells #[.int .i64 0,.bool false,.string ⟨#[]⟩] 43):=⟨_,rfl⟩
 have b1:Blk w1 w.heap.size 43 #[.int .i64 0,.bool false,.string ⟨#[]⟩]:=by rw [hw1]; exact Blk.made w _ _
 have d1:Below w.heap.size w w1:=by rw [hw1]; exact below_1 _ _
 have hF2:=Lib.hid (hF w1 d1)
 obtain ⟨q,hq⟩:∃ q,q=w.heap.size:=⟨_,rfl⟩
 have hqw:w.heap.size≤q:=by omega
 rw [← hq] at b1
 have ta0:=ta_get_get b
 clear hF
 go_enter Tryz.func53,Tryz.ntmps53
 go_upto_region 1 with (fail)
 rw [← hw1,← hq]
 clear hw1 hq
 go_wp2_with fail
 refine hF2.out.mono ?_
 rintro e w3 ⟨rfl,hb3⟩
 have b3:=b1.only (Only.ofBelow hb3 (fun _=>False)) (by simp)
 have hB:=Lib.hid (d1.trans (hb3.mono d1.size))
 clear hF2 hb3 b1 d1
 have g0:=b3.cell 0
 have g1:=b3.cell 1
 have g2:=b3.cell 2
 have z0:=b3.frozen 0
 have z1:=b3.frozen 1
 have z2:=b3.frozen 2
 simp at g0 g1 g2
 have lq:=b3.lt
 clear b3
 go_wp2_with fail
 refine bodyPost_ret (v:=.agg #[.int .i64 0,.bool h,.string v]) (by simp [results,Tryz.results53,go_sem,g0,g1,g2]) rfl ⟨rfl,?_⟩
 repeat' first | exact hB.out | (refine Below.setCell ?_ ?_ _) | exact hqw
set_option maxHeartbeats 1000000 in
theorem aw_put {h:Bool} (hF:∀ wx,Below w.heap.size w wx→Calls Tryz.prog 78 #[ptr b] wx fun e' w'=>e'=.returned (.agg #[.int .i64 e,.bool h,.string ⟨#[]⟩])∧Below wx.heap.size wx w'):
 Calls Tryz.prog 53 #[.iface 158 (ptr b)] w fun e' w'=>e'=.returned (.agg #[.int .i64 e,.bool h,.string ⟨#[]⟩])∧Below w.heap.size w w':=by
 obtain ⟨w1,hw1⟩:∃ w1,w1=w.alloc (.cells #[.int .i64 0,.bool false,.string ⟨#[]⟩] 43):=⟨_,rfl⟩
 have b1:Blk w1 w.heap.size 43 #[.int .i64 0,.bool false,.string ⟨#[]⟩]:=by rw [hw1]; exact Blk.made w _ _
 have d1:Below w.heap.size w w1:=by rw [hw1]; exact below_1 _ _
 have hF2:=Lib.hid (hF w1 d1)
 obtain ⟨q,hq⟩:∃ q,q=w.heap.size:=⟨_,rfl⟩
 have hqw:w.heap.size≤q:=by omega
 rw [← hq] at b1
 have ta0:=ta_put_get b
 have ta1:=ta_put_put b
 clear hF
 go_enter Tryz.func53,Tryz.ntmps53
 go_upto_region 1 with (fail)
 rw [← hw1,← hq]
 clear hw1 hq
 go_wp2_with fail
 refine hF2.out.mono ?_
 rintro e w3 ⟨rfl,hb3⟩
 have b3:=b1.only (Only.ofBelow hb3 (fun _=>False)) (by simp)
 have hB:=Lib.hid (d1.trans (hb3.mono d1.size))
 clear hF2 hb3 b1 d1
 have g0:=b3.cell 0
 have g1:=b3.cell 1
 have g2:=b3.cell 2
 have z0:=b3.frozen 0
 have z1:=b3.frozen 1
 have z2:=b3.frozen 2
 simp at g0 g1 g2
 have lq:=b3.lt
 clear b3
 go_wp2_with fail
 refine bodyPost_ret (v:=.agg #[.int .i64 e,.bool h,.string ⟨#[]⟩]) (by simp [results,Tryz.results53,go_sem,g0,g1,g2]) rfl ⟨rfl,?_⟩
 repeat' first | exact hB.out | (refine Below.setCell ?_ ?_ _) | exact hqw
set_option maxHeartbeats 1000000 in
theorem aw_del {v:ByteArray} {h:Bool} (hF:∀ wx,Below w.heap.size w wx→Calls Tryz.prog 65 #[ptr b] wx fun e' w'=>e'=.returned (.tuple #[.string v,.bool h])∧Below wx.heap.size wx w'):
 Calls Tryz.prog 53 #[.iface 135 (ptr b)] w fun e' w'=>e'=.returned (.agg #[.int .i64 0,.bool h,.string v])∧Below w.heap.size w w':=by
 obtain ⟨w1,hw1⟩:∃ w1,w1=w.alloc (.cells #[.int .i64 0,.bool false,.string ⟨#[]⟩] 43):=⟨_,rfl⟩
 have b1:Blk w1 w.heap.size 43 #[.int .i64 0,.bool false,.string ⟨#[]⟩]:=by rw [hw1]; exact Blk.made w _ _
 have d1:Below w.heap.size w w1:=by rw [hw1]; exact below_1 _ _
 have hF2:=Lib.hid (hF w1 d1)
 obtain ⟨q,hq⟩:∃ q,q=w.heap.size:=⟨_,rfl⟩
 have hqw:w.heap.size≤q:=by omega
 rw [← hq] at b1
 have ta0:=ta_del_get b
 have ta1:=ta_del_put b
 have ta2:=ta_del_del b
 clear hF
 go_enter Tryz.func53,Tryz.ntmps53
 go_upto_region 1 with (fail)
 rw [← hw1,← hq]
 clear hw1 hq
 go_wp2_with fail
 refine hF2.out.mono ?_
 rintro e w3 ⟨rfl,hb3⟩
 have b3:=b1.only (Only.ofBelow hb3 (fun _=>False)) (by simp)
 have hB:=Lib.hid (d1.trans (hb3.mono d1.size))
 clear hF2 hb3 b1 d1
 have g0:=b3.cell 0
 have g1:=b3.cell 1
 have g2:=b3.cell 2
 have z0:=b3.frozen 0
 have z1:=b3.frozen 1
 have z2:=b3.frozen 2
 simp at g0 g1 g2
 have lq:=b3.lt
 clear b3
 go_wp2_with fail
 refine bodyPost_ret (v:=.agg #[.int .i64 0,.bool h,.string v]) (by simp [results,Tryz.results53,go_sem,g0,g1,g2]) rfl ⟨rfl,?_⟩
 repeat' first | exact hB.out | (refine Below.setCell ?_ ?_ _) | exact hqw
set_option maxHeartbeats 1000000 in
theorem aw_rz (hF:∀ wx,Below w.heap.size w wx→Calls Tryz.prog 43 #[ptr b] wx fun e' w'=>e'=.returned (.int .i64 e)∧Below wx.heap.size wx w'):
 Calls Tryz.prog 53 #[.iface 94 (ptr b)] w fun e' w'=>e'=.returned (.agg #[.int .i64 e,.bool false,.string ⟨#[]⟩])∧Below w.heap.size w w':=by
 obtain ⟨w1,hw1⟩:∃ w1,w1=w.alloc (.cells #[.int .i64 0,.bool false,.string ⟨#[]⟩] 43):=⟨_,rfl⟩
 have b1:Blk w1 w.heap.size 43 #[.int .i64 0,.bool false,.string ⟨#[]⟩]:=by rw [hw1]; exact Blk.made w _ _
 have d1:Below w.heap.size w w1:=by rw [hw1]; exact below_1 _ _
 have hF2:=Lib.hid (hF w1 d1)
 obtain ⟨q,hq⟩:∃ q,q=w.heap.size:=⟨_,rfl⟩
 have hqw:w.heap.size≤q:=by omega
 rw [← hq] at b1
 have ta0:=ta_rz_get b
 have ta1:=ta_rz_put b
 have ta2:=ta_rz_del b
 have ta3:=ta_rz_rz b
 clear hF
 go_enter Tryz.func53,Tryz.ntmps53
 go_upto_region 1 with (fail)
 rw [← hw1,← hq]
 clear hw1 hq
 go_wp2_with fail
 refine hF2.out.mono ?_
 rintro e w3 ⟨rfl,hb3⟩
 have b3:=b1.only (Only.ofBelow hb3 (fun _=>False)) (by simp)
 have hB:=Lib.hid (d1.trans (hb3.mono d1.size))
 clear hF2 hb3 b1 d1
 have g0:=b3.cell 0
 have g1:=b3.cell 1
 have g2:=b3.cell 2
 have z0:=b3.frozen 0
 have z1:=b3.frozen 1
 have z2:=b3.frozen 2
 simp at g0 g1 g2
 have lq:=b3.lt
 clear b3
 go_wp2_with fail
 refine bodyPost_ret (v:=.agg #[.int .i64 e,.bool false,.string ⟨#[]⟩]) (by simp [results,Tryz.results53,go_sem,g0,g1,g2]) rfl ⟨rfl,?_⟩
 repeat' first | exact hB.out | (refine Below.setCell ?_ ?_ _) | exact hqw
set_option maxHeartbeats 1000000 in
theorem aw_ref:
 Calls Tryz.prog 53 #[.iface 155 (rfv e)] w fun e' w'=>e'=.returned (.agg #[.int .i64 e,.bool false,.string ⟨#[]⟩])∧Below w.heap.size w w':=by
 obtain ⟨w1,hw1⟩:∃ w1,w1=w.alloc (.cells #[.int .i64 0,.bool false,.string ⟨#[]⟩] 43):=⟨_,rfl⟩
 have b1:Blk w1 w.heap.size 43 #[.int .i64 0,.bool false,.string ⟨#[]⟩]:=by rw [hw1]; exact Blk.made w _ _
 have d1:Below w.heap.size w w1:=by rw [hw1]; exact below_1 _ _
 obtain ⟨q,hq⟩:∃ q,q=w.heap.size:=⟨_,rfl⟩
 have hqw:w.heap.size≤q:=by omega
 rw [← hq] at b1
 have ta0:=ta_ref_get e
 have ta1:=ta_ref_put e
 have ta2:=ta_ref_del e
 have ta3:=ta_ref_rz e
 have ta4:=ta_ref_ref e
 obtain ⟨w2,hw2⟩:∃ w2,w2=w1.alloc (.cells #[.int .i64 e] 155):=⟨_,rfl⟩
 have b2:Blk w2 w1.heap.size 155 #[.int .i64 e]:=by rw [hw2]; exact Blk.made w1 _ _
 have d2:Below w1.heap.size w1 w2:=by rw [hw2]; exact below_1 _ _
 have b3:=b1.only (Only.ofBelow d2 (fun _=>False)) (by simp)
 have hB:=Lib.hid (d1.trans (d2.mono d1.size))
 have r0:=b2.cell 0
 simp at r0
 have lr:=b2.lt
 clear b1 b2 d1 d2
 go_enter Tryz.func53,Tryz.ntmps53
 go_upto_region 1 with (fail)
 rw [← hw1,← hq]
 clear hw1 hq
 go_upto_region 18 with (fail)
 rw [← hw2]
 obtain ⟨rb,hrb⟩:∃ rb,rb=w1.heap.size:=⟨_,rfl⟩
 rw [← hrb] at r0 lr ⊢
 clear hw2 hrb ta0 ta1 ta2 ta3 ta4
 have g0:=b3.cell 0
 have g1:=b3.cell 1
 have g2:=b3.cell 2
 have z0:=b3.frozen 0
 have z1:=b3.frozen 1
 have z2:=b3.frozen 2
 simp at g0 g1 g2
 have lq:=b3.lt
 clear b3
 go_wp2_with fail
 refine bodyPost_ret (v:=.agg #[.int .i64 e,.bool false,.string ⟨#[]⟩]) (by simp [results,Tryz.results53,go_sem,g0,g1,g2]) rfl ⟨rfl,?_⟩
 repeat' first | exact hB.out | (refine Below.setCell ?_ ?_ _) | exact hqw
set_option maxHeartbeats 1000000 in
theorem pa_err (he:e≠0) (hF:∀ wx,Below w.heap.size w wx→Calls Tryz.prog 88 #[ptr b] wx fun e' w'=>e'=.returned (.int .i64 e)∧Below wx.heap.size wx w')
 :
 Calls Tryz.prog 78 #[ptr b] w fun e' w'=>e'=.returned (.agg #[.int .i64 e,.bool false,.string ⟨#[]⟩])∧Below w.heap.size w w':=by
 obtain ⟨w1,hw1⟩:∃ w1,w1=w.alloc (.cells #[.int .i64 0,.bool false,.string ⟨#[]⟩] 43):=⟨_,rfl⟩
 have b1:Blk w1 w.heap.size 43 #[.int .i64 0,.bool false,.string ⟨#[]⟩]:=by rw [hw1]; exact Blk.made w _ _
 have d1:Below w.heap.size w w1:=by rw [hw1]; exact below_1 _ _
 have hF2:=Lib.hid (hF w1 d1)
 obtain ⟨q,hq⟩:∃ q,q=w.heap.size:=⟨_,rfl⟩
 have hqw:w.heap.size≤q:=by omega
 rw [← hq] at b1
 clear hF
 go_enter Tryz.func78,Tryz.ntmps78
 go_upto_region 1 with (fail)
 rw [← hw1,← hq]
 clear hw1 hq
 go_wp2_with fail
 refine hF2.out.mono ?_
 rintro e w3 ⟨rfl,hb3⟩
 have b3:=b1.only (Only.ofBelow hb3 (fun _=>False)) (by simp)
 have hB:=Lib.hid (d1.trans (hb3.mono d1.size))
 clear hF2 hb3 b1 d1
 have g0:=b3.cell 0
 have g1:=b3.cell 1
 have g2:=b3.cell 2
 have z0:=b3.frozen 0
 have z1:=b3.frozen 1
 have z2:=b3.frozen 2
 simp at g0 g1 g2
 have lq:=b3.lt
 clear b3
 go_wp2_with fail
 refine bodyPost_ret (v:=.agg #[.int .i64 e,.bool false,.string ⟨#[]⟩]) (by simp [results,Tryz.results78,go_sem,g0,g1,g2]) rfl ⟨rfl,?_⟩
 repeat' first | exact hB.out | (refine Below.setCell ?_ ?_ _) | exact hqw
set_option maxHeartbeats 1000000 in
theorem pa_ok {h:Bool} (hF:∀ wx,Below w.heap.size w wx→Calls Tryz.prog 88 #[ptr b] wx fun e' w'=>e'=.returned (.int .i64 0)∧Below wx.heap.size wx w')
 (hH:∀ wx,Below w.heap.size w wx→Calls Tryz.prog 89 #[ptr b] wx fun e w'=>e=.returned (.bool h)∧Below wx.heap.size wx w'):
 Calls Tryz.prog 78 #[ptr b] w fun e' w'=>e'=.returned (.agg #[.int .i64 0,.bool h,.string ⟨#[]⟩])∧Below w.heap.size w w':=by
 obtain ⟨w1,hw1⟩:∃ w1,w1=w.alloc (.cells #[.int .i64 0,.bool false,.string ⟨#[]⟩] 43):=⟨_,rfl⟩
 have b1:Blk w1 w.heap.size 43 #[.int .i64 0,.bool false,.string ⟨#[]⟩]:=by rw [hw1]; exact Blk.made w _ _
 have d1:Below w.heap.size w w1:=by rw [hw1]; exact below_1 _ _
 have hF2:=Lib.hid (hF w1 d1)
 obtain ⟨q,hq⟩:∃ q,q=w.heap.size:=⟨_,rfl⟩
 have hqw:w.heap.size≤q:=by omega
 rw [← hq] at b1
 clear hF
 replace hH:=Lib.hid hH
 go_enter Tryz.func78,Tryz.ntmps78
 go_upto_region 1 with (fail)
 rw [← hw1,← hq]
 clear hw1 hq
 go_wp2_with fail
 refine hF2.out.mono ?_
 rintro e w2 ⟨rfl,hb2⟩
 have b1:=b1.only (Only.ofBelow hb2 (fun _=>False)) (by simp)
 have d1:=d1.trans (hb2.mono d1.size)
 have hH2:=Lib.hid (hH.out w2 d1)
 clear hF2 hb2 hH
 go_wp2_with fail
 refine hH2.out.mono ?_
 rintro e w3 ⟨rfl,hb3⟩
 have b3:=b1.only (Only.ofBelow hb3 (fun _=>False)) (by simp)
 have hB:=Lib.hid (d1.trans (hb3.mono d1.size))
 clear hH2 hb3 b1 d1
 have g0:=b3.cell 0
 have g1:=b3.cell 1
 have g2:=b3.cell 2
 have z0:=b3.frozen 0
 have z1:=b3.frozen 1
 have z2:=b3.frozen 2
 simp at g0 g1 g2
 have lq:=b3.lt
 clear b3
 go_wp2_with fail
 refine bodyPost_ret (v:=.agg #[.int .i64 0,.bool h,.string ⟨#[]⟩]) (by simp [results,Tryz.results78,go_sem,g0,g1,g2]) rfl ⟨rfl,?_⟩
 repeat' first | exact hB.out | (refine Below.setCell ?_ ?_ _) | exact hqw
end
end Go.Proofs.YtpobbnllcoabhaaGreat.Ca
namespace Go.Proofs.YtpobbnllcoabhaaGreat.Ca
open Go Go.RowKit Hp K Fl Rw Hm Ar Mm Me LK Qs Wk Pc Pn Mq Pu Zp Mx LawTh Bs Zr
set_option maxRecDepth 100000
theorem mi_get (v:Value) (x:TypeId) (w:World):(Instr.typeAssert (.iface 156 v) x 119 true).run Tryz.prog w=.ok (.tuple #[.nilIface,.bool false]) w:=run_typeAssert_lacksB Tryz.underlying119 (by kernel_rfl) (by kernel_rfl) v x w
theorem mi_rz (v:Value) (x:TypeId) (w:World):(Instr.typeAssert (.iface 94 v) x 119 true).run Tryz.prog w=.ok (.tuple #[.nilIface,.bool false]) w:=run_typeAssert_lacksB Tryz.underlying119 (by kernel_rfl) (by kernel_rfl) v x w
theorem mi_put (v:Value) (x:TypeId) (w:World):(Instr.typeAssert (.iface 158 v) x 119 true).run Tryz.prog w=.ok (.tuple #[.iface 158 v,.bool true]) w:=run_typeAssert_hasB Tryz.underlying119 (by kernel_rfl) v x w
theorem mi_del (v:Value) (x:TypeId) (w:World):(Instr.typeAssert (.iface 135 v) x 119 true).run Tryz.prog w=.ok (.tuple #[.iface 135 v,.bool true]) w:=run_typeAssert_hasB Tryz.underlying119 (by kernel_rfl) v x w
theorem mi_ref (v:Value) (x:TypeId) (w:World):(Instr.typeAssert (.iface 155 v) x 119 true).run Tryz.prog w=.ok (.tuple #[.nilIface,.bool false]) w:=run_typeAssert_lacksB Tryz.underlying119 (by kernel_rfl) (by kernel_rfl) v x w
theorem mm_put (b:Nat) (w:World) (f:Nat):(method (f+1) 158 (.pointer (some ⟨b,0,none⟩)) "Mine").run Tryz.prog w=.ok (273,.pointer (some ⟨b,0,none⟩)) w:=by kernel_rfl
theorem mm_del (b:Nat) (w:World) (f:Nat):(method (f+1) 135 (.pointer (some ⟨b,0,none⟩)) "Mine").run Tryz.prog w=.ok (260,.pointer (some ⟨b,0,none⟩)) w:=by kernel_rfl
theorem em_put (args:Array Value) (w:World):(callFunc 273 args).run Tryz.prog w=.ok (.enter 273 args) w:=by kernel_rfl
theorem em_del (args:Array Value) (w:World):(callFunc 260 args).run Tryz.prog w=.ok (.enter 260 args) w:=by kernel_rfl
section
variable {w w':World} {a:Cp} {C:Cl} {f b:Nat} {tv:Value} {e:Int} {d:Bool}
theorem mine_none (hb:Blk w f 116 (ccs tv d)) (ht:∀ w,(Instr.typeAssert tv 112 119 true).run Tryz.prog w=.ok (.tuple #[.nilIface,.bool false]) w):
 Calls Tryz.prog 24 #[ptr f] w fun e w'=>e=.returned (.int .u64 0)∧Below w.heap.size w w':=by
 have c0:=(cb_cells hb).1
 have lf:=hb.lt
 clear hb
 go_enter Tryz.func24,Tryz.ntmps24
 go_wp2_with fail
 go_ret
 exact ⟨rfl,Below.refl _ _⟩
theorem mine_some {T:TypeId} {fm:Nat} {n:Nat} (hb:Blk w f 116 (ccs (.iface T (ptr b)) d)) (ht:∀ w,(Instr.typeAssert (.iface T (ptr b)) 112 119 true).run Tryz.prog w=.ok (.tuple #[.iface T (ptr b),.bool true]) w)
 (mm:∀ (w:World) (f:Nat),(method (f+1) T (.pointer (some ⟨b,0,none⟩)) "Mine").run Tryz.prog w=.ok (fm,.pointer (some ⟨b,0,none⟩)) w) (em:∀ args w,(callFunc fm args).run Tryz.prog w=.ok (.enter fm args) w) (hF:Calls Tryz.prog fm #[ptr b] w fun e w'=>e=.returned (.int .u64 n)∧w=w'):
 Calls Tryz.prog 24 #[ptr f] w fun e w'=>e=.returned (.int .u64 n)∧Below w.heap.size w w':=by
 have c0:=(cb_cells hb).1
 have lf:=hb.lt
 replace hF:=Lib.hid hF
 clear hb
 go_enter Tryz.func24,Tryz.ntmps24
 go_wp2_with fail
 refine hF.out.mono ?_
 rintro e w' ⟨rfl,rfl⟩
 go_wp2_with fail
 go_ret
 exact ⟨rfl,Below.refl _ _⟩
theorem mine_any (h:clL.At w a C):Calls Tryz.prog 24 #[ptr (clL.f a)] w fun e w'=>e=.returned (.int .u64 (mine C))∧Below w.heap.size w w':=by
 obtain ⟨hb,hI,h0⟩:=h
 obtain ⟨F,er,d⟩:=C
 cases F with
 | ref=>exact mine_none hb (fun w=>by rw [show a.tv=.iface 155 (rfv er) from hI]; exact mi_ref _ _ w)
 | get G=>exact mine_none hb (fun w=>by rw [hI.1]; exact mi_get _ _ w)
 | rz R=>exact mine_none hb (fun w=>by rw [hI.1]; exact mi_rz _ _ w)
 | put P=>
   rw [hI.1] at hb
   exact mine_some hb (fun w=>mi_put _ _ w) (mm_put _) em_put (Pu.mine_any hI.2)
 | del D=>
   rw [hI.1] at hb
   exact mine_some hb (fun w=>mi_del _ _ w) (mm_del _) em_del (Dl.mine_any hI.2)
theorem res_any (h:clL.At w a C):Calls Tryz.prog 23 #[ptr (clL.f a)] w fun e w'=>e=.returned (.tuple #[.agg #[.int .i64 (ans C).1,.bool (ans C).2.1,.string (ans C).2.2],.bool C.done])∧Below w.heap.size w w':=by
 obtain ⟨hb,hI,h0⟩:=h
 obtain ⟨F,er,d⟩:=C
 cases d with
 | false=>exact res_zero hb
 | true=>
   refine res_done hb (fun wx hx=>?_)
   cases F with
   | ref=>
     rw [show a.tv=.iface 155 (rfv er) from hI]
     exact aw_ref
   | get G=>
     rw [hI.1]
     exact aw_get (fun wy hy=>Gt.val_any (hI.2.below (hx.trans (hy.mono hx.size))))
   | del D=>
     rw [hI.1]
     exact aw_del (fun wy hy=>Dl.had_any (hI.2.below (hx.trans (hy.mono hx.size))))
   | rz R=>
     rw [hI.1]
     exact aw_rz (fun wy hy=>(rz_err (rz_below hI.2 (hx.trans (hy.mono hx.size)))).mono fun e w' q=>⟨q.1,by rw [q.2]; exact Below.refl _ _⟩)
   | put P=>
     rw [hI.1]
     by_cases hp:P.err=0
     · have:ans ⟨.put P,er,true⟩=(0,decide (P.W.found≠0),⟨#[]⟩):=by show (if P.err=0 then _ else _)=_; rw [if_pos hp]
       rw [this]
       refine aw_put (fun wy hy=>?_)
       have hP:=hI.2.below (hx.trans (hy.mono hx.size))
       exact pa_ok (fun wz hz=>(Pu.err_any (hP.below hz)).mono (fun e w' q=>⟨by rw [q.1,hp],by rw [← q.2]; exact Below.refl _ _⟩)) (fun wz hz=>Pu.had_any (hP.below hz))
     · have:ans ⟨.put P,er,true⟩=(P.err,false,⟨#[]⟩):=by show (if P.err=0 then _ else _)=_; rw [if_neg hp]
       rw [this]
       refine aw_put (fun wy hy=>?_)
       have hP:=hI.2.below (hx.trans (hy.mono hx.size))
       exact pa_err hp (fun wz hz=>(Pu.err_any (hP.below hz)).mono (fun e w' q=>⟨q.1,by rw [← q.2]; exact Below.refl _ _⟩))
end
end Go.Proofs.YtpobbnllcoabhaaGreat.Ca
namespace Go.Proofs.YtpobbnllcoabhaaGreat.Ca
open Go Go.RowKit Hp K Fl Rw Hm Ar Mm Me LK Qs Wk Re LawSix Pc Pn Mq Pu Zp Mx LawTh Bs Dl Zr LawTen LawEl LawFn
section
variable {W0 w w':World} {M:Mo} {A:Option Addr} {cap:Nat} {l lr:List Pr} {n B G t:Nat} {cs:Nat→List Mq.Hp} {c:Ct} {i:Nat} {a:Cp} {C:Cl}
theorem fin_s {s:Lm×Cl} (h:S11 W0 w M A cap lr) (hP:clL.At w a C) (hlow:∀ x,clL.foot a C x→W0.heap.size≤x) (hI:clL.Inv M a C w s w'):∃ M' a',S11 W0 w' M' A cap lr∧M'.m=M.m∧lm M'=s.1∧clL.At w' a' s.2∧clL.f a'=clL.f a∧Only (fun x=>mfoot M x∨clL.foot a C x) w w':=by
 obtain ⟨M',a',r1,r2,r3,r4,r5,r7,r8⟩:=hI
 refine ⟨M',a',h.moved r1 r3.foot r8 (fun x q=>?_) (fun x hx q=>?_),r3.m,r2,r4,r5,r8⟩
 · rcases q with q | q
   · exact h.lom x q
   · exact hlow x q
 · rcases q with q | q
   · exact h.ap_mem hx q
   · exact cl_row hP q (row_ty h.row hx)
def ClS (W0 w':World) (M:Mo) (A:Option Addr) (cap:Nat) (lr l:List Pr) (G t:Nat) (c:Ct) (a:Cp):Prop:=
 ∃ (M':Mo) (a':Cp) (C':Cl) (n' B' G':Nat) (cs':Nat→List Mq.Hp),S11 W0 w' M' A cap lr∧M'.m=M.m∧clL.At w' a' C'∧clL.f a'=clL.f a∧C'.done=true∧mine C'=0∧M'.ss.length=M.ss.length∧M'.k=M.k∧Num1 (lm M') (t+1)∧n'≤256∧G'≤G+1∧
   ((chk c=0∧c.kind=1∧freePl M.ss=none∧ans C'=(4,false,⟨#[]⟩)∧Mp (lm M') n' B' cs' l G')∨(¬(chk c=0∧c.kind=1∧freePl M.ss=none)∧ans C'=docA l c∧∀ l',DocL l l' c→Mp (lm M') n' B' cs' l' G'))
theorem call_s (h:S11 W0 w M A cap lr) (hm:Mp (lm M) n B cs l G) (hG:G≤900000) (hl:l.length≤30) (hnum:Num1 (lm M) t) (ht:t≤200) (hn8:n≤256) (hs8:c.size≤256∨65536<c.size) (hi:(i:Int)<M.k) (hC:Ini i c C) (hP:clL.At w a C) (hlow:∀ x,clL.foot a C x→W0.heap.size≤x):
 Calls Tryz.prog 21 #[ptr M.m,.iface 69 (ptr (clL.f a)),.int .i64 30000] w fun e w'=>((∃ k:Nat,e=.returned (.tuple #[.int .i64 k,.bool true]))∧Only (fun x=>mfoot M x∨clL.foot a C x) w w')∧ClS W0 w' M A cap lr l G t c a:=by
 have hk8:1≤M.k∧M.k≤8:=hm.k
 have hi1:0≤(i:Int)∧(i:Int)≤1000:=by omega
 have hnum1:Num1 (lm M) (t+1):=by obtain ⟨u1,u2,u3,u4⟩:=hnum; exact ⟨by omega,by omega,u3,by omega⟩
 have hkB:2+M.k≤B:=hm.kB
 have hlen:M.ss.length≤1024:=hm.small.2
 have hq2:∀ b,b<n→(cs b).length≤1024:=fun b hb=>by have:=(Mp.ql2 hm).1 b hb; have e:(lm M).ss.length=M.ss.length:=rfl; omega
 obtain ⟨c1,c2,c3,c4⟩:=hC
 by_cases h0:chk c=0
 case neg=>
  have hfr:=c3 h0
  have eC:C=⟨.ref,chk c,false⟩:=by cases C; simp only at c1 c2 hfr; rw [c1,c2,hfr]
  subst eC
  refine (finish_frm cl_frm h.mem hP (fun k s=>k=1∧s=(lm M,(⟨.ref,chk c,false⟩:Cl))) (fun s=>s=(lm M,(⟨.ref,chk c,true⟩:Cl))) (fun k s hs=>by
   obtain ⟨rfl,rfl⟩:=hs
   exact ⟨trivial,rfl,Nat.le_refl _,fun _=>rfl,fun q=>by simp [cldn] at q⟩) 1 30000 ⟨rfl,rfl⟩ (by omega) (by omega)).mono fun e w' q=>?_
  obtain ⟨k,s,q1,_,q4,hI⟩:=q
  obtain ⟨M',a',g1,g2,g3,g4,g5,g6⟩:=fin_s h hP hlow hI
  rw [q4] at g3 g4
  have e1:M'.ss=M.ss:=congrArg Lm.ss g3
  have e2:M'.k=M.k:=congrArg Lm.k g3
  refine ⟨⟨⟨k,q1⟩,g6⟩,M',a',_,n,B,G,cs,g1,g2,g4,g5,rfl,rfl,by rw [e1],e2,by rw [g3]; exact hnum1,hn8,by omega,.inr ⟨fun q=>h0 q.1,?_,fun l' hl'=>?_⟩⟩
  · unfold docA; rw [if_pos h0]; rfl
  · unfold DocL at hl'
    rw [if_neg (fun q=>h0 q.1),if_neg (fun q=>h0 q.1)] at hl'
    rw [hl',g3]; exact hm
 obtain ⟨k0,k1,k2,k3⟩:=c4 h0
 have hkind:c.kind=0∨c.kind=1∨c.kind=2∨c.kind=3:=by
  unfold chk at h0
  split at h0
  · omega
  · omega
 rcases hkind with hk | hk | hk | hk
 ·
  have hfr:=k0 hk
  have eC:C=⟨.get (Gt.newGet i c.key),0,false⟩:=by cases C; simp only at c1 c2 hfr; rw [c1,c2,hfr,h0]
  subst eC
  obtain ⟨hE,hlk⟩:=ev_map hm c.key hi
  have hq:=hq2 (bkt c.key n) (bkt_lt hm.pw c.key).1
  refine (finish_frm cl_frm h.mem hP (fun k s=>∃ P d,s.2=(⟨.get P,0,d⟩:Cl)∧Gt.Rg ⟨M.ds,M.ss,M.xs,M.F,c.key,i,prs (cs (bkt c.key n)),(cs (bkt c.key n)).length⟩ (lm M) k (s.1,P)) (fun s=>∃ P,s.2=(⟨.get P,0,true⟩:Cl)∧Gt.Qg ⟨M.ds,M.ss,M.xs,M.F,c.key,i,prs (cs (bkt c.key n)),(cs (bkt c.key n)).length⟩ (lm M) (s.1,P))
   (lift_get (fun k s hs=>Gt.Rg.step hE ⟨rfl,rfl,rfl,rfl⟩ hs) 0) (5+(cs (bkt c.key n)).length) 30000 ⟨_,_,rfl,0,Gt.Gv.begin hE,by simp only; omega,rfl,rfl,rfl,rfl,rfl⟩ (by omega) (by omega)).mono fun e w' q=>?_
  obtain ⟨k,s,q1,_,⟨P,q4,q5,q6⟩,hI⟩:=q
  obtain ⟨M',a',g1,g2,g3,g4,g5,g6⟩:=fin_s h hP hlow hI
  have g3:lm M'=lm M:=g3.trans q5
  rw [q4] at g4
  have e1:M'.ss=M.ss:=congrArg Lm.ss g3
  have e2:M'.k=M.k:=congrArg Lm.k g3
  have q6:Gt.Fits (Pc.lk (prs (cs (bkt c.key n))) c.key) P.W:=q6
  rw [hlk] at q6
  refine ⟨⟨⟨k,q1⟩,g6⟩,M',a',_,n,B,G,cs,g1,g2,g4,g5,rfl,rfl,by rw [e1],e2,by rw [g3]; exact hnum1,hn8,by omega,.inr ⟨fun q=>by omega,?_,fun l' hl'=>?_⟩⟩
  · unfold docA
    rw [if_neg (by omega),if_pos hk]
    show ((0:Int),decide (P.W.found≠0),P.W.nd.val)=_
    rw [q6.1,q6.2]
  · unfold DocL at hl'
    rw [if_neg (fun q=>by omega),if_neg (fun q=>by omega)] at hl'
    rw [hl',g3]; exact hm
 ·
  obtain ⟨hh,hfr⟩:=k1 hk
  have eC:C=⟨.put (Pu.newPut hh i c.key c.val),0,false⟩:=by cases C; simp only at c1 c2 hfr; rw [c1,c2,hfr,h0]
  subst eC
  have hE:=hm.eok (key:=c.key) (val:=c.val) (i:=i) (hb:=hh) (by omega) hi1
  have hq:=hq2 (bkt c.key n) (bkt_lt hm.pw c.key).1
  refine (finish_frm cl_frm h.mem hP (fun k s=>∃ P d,s.2=(⟨.put P,0,d⟩:Cl)∧Rq (Mp.ep (lm M) n B cs c.key c.val i hh) k (s.1,P)) (fun s=>∃ P,s.2=(⟨.put P,0,true⟩:Cl)∧Qp (Mp.ep (lm M) n B cs c.key c.val i hh) (s.1,P))
   (lift_put (fun k s hs=>by
     obtain ⟨j,hj,hr⟩:=hs
     obtain ⟨h1,h2,h3,h4⟩:=hr.step hE
     refine ⟨hr.ok hE,h1,by omega,h3,fun hd=>?_⟩
     obtain ⟨j',hj',hr'⟩:=h4 hd
     exact ⟨j',by omega,hr'⟩) 0) (8+(cs (bkt c.key n)).length) 30000 ⟨_,_,rfl,(Rp.s (E:=Mp.ep (lm M) n B cs c.key c.val i hh) (4+(cs (bkt c.key n)).length) _ _ .a1).q (by omega)⟩ (by omega) (by omega)).mono fun e w' q=>?_
  obtain ⟨k,s,q1,_,⟨P,q4,q5⟩,hI⟩:=q
  obtain ⟨M',a',g1,g2,g3,g4,g5,g6⟩:=fin_s h hP hlow hI
  obtain ⟨m1,m2,m3⟩:=put_map hm (by omega) hi1 q5
  have hcz:=cz_put (by show B+bkt c.key n≠0; omega) q5
  have hcz:Cz (lm M) s.1:=hcz
  rw [q4] at g4
  rw [← g3] at hcz
  simp only at m1 m2 m3
  rcases m3 with ⟨p1,p2,p3⟩ | ⟨p1,p2,p3,p4,p5,cs',p6⟩
  · have g3:lm M'=lm M:=g3.trans p2
    have e1:M'.ss=M.ss:=congrArg Lm.ss g3
    have e2:M'.k=M.k:=congrArg Lm.k g3
    refine ⟨⟨⟨k,q1⟩,g6⟩,M',a',_,n,B,G,cs,g1,g2,g4,g5,rfl,m2,by rw [e1],e2,by rw [g3]; exact hnum1,hn8,by omega,.inl ⟨h0,hk,p1,?_,by rw [g3]; exact hm⟩⟩
    show (if P.err=0 then ((0:Int),decide (P.W.found≠0),(⟨#[]⟩:ByteArray)) else (P.err,false,⟨#[]⟩))=_
    rw [p3,if_neg (by omega)]
  · have e1:M'.ss=s.1.ss:=by rw [← g3]
    have e2:M'.k=s.1.k:=by rw [← g3]
    refine ⟨⟨⟨k,q1⟩,g6⟩,M',a',_,n,B,G+1,cs',g1,g2,g4,g5,rfl,m2,by rw [e1]; exact p4,by rw [e2]; exact p5,num_cz hnum hcz,hn8,by omega,.inr ⟨fun q=>?_,?_,fun l' hl'=>?_⟩⟩
    · have q3:freePl (lm M).ss=none:=q.2.2
      rw [q3] at p1
      simp at p1
    · unfold docA
      rw [if_neg (by omega),if_neg (by omega),if_pos hk]
      show (if P.err=0 then ((0:Int),decide (P.W.found≠0),(⟨#[]⟩:ByteArray)) else (P.err,false,⟨#[]⟩))=_
      rw [if_pos p2,m1]
    · unfold DocL at hl'
      rw [if_pos ⟨h0,hk⟩] at hl'
      rw [g3]
      exact p6 l' (upd_of hm.ln hl')
 ·
  obtain ⟨hh,hfr⟩:=k2 hk
  have eC:C=⟨.del (Dl.newDel hh i c.key),0,false⟩:=by cases C; simp only at c1 c2 hfr; rw [c1,c2,hfr,h0]
  subst eC
  have hE:=hm.eok (key:=c.key) (val:=⟨#[]⟩) (i:=i) (hb:=hh) (by omega) hi1
  have hq:=hq2 (bkt c.key n) (bkt_lt hm.pw c.key).1
  refine (finish_frm cl_frm h.mem hP (fun k s=>∃ P d,s.2=(⟨.del P,0,d⟩:Cl)∧Dl.Rdq (Mp.ep (lm M) n B cs c.key ⟨#[]⟩ i hh) k (s.1,P)) (fun s=>∃ P,s.2=(⟨.del P,0,true⟩:Cl)∧Dl.Qd (Mp.ep (lm M) n B cs c.key ⟨#[]⟩ i hh) (s.1,P))
   (lift_del (fun k s hs=>by
     obtain ⟨j,hj,hr⟩:=hs
     obtain ⟨h1,h2,h3,h4⟩:=Dl.Rd.step hE hr
     refine ⟨Dl.Rd.ok hE hr,h1,by omega,h3,fun hd=>?_⟩
     obtain ⟨j',hj',hr'⟩:=h4 hd
     exact ⟨j',by omega,hr'⟩) 0) (7+(cs (bkt c.key n)).length) 30000 ⟨_,_,rfl,(Dl.Rd.s (E:=Mp.ep (lm M) n B cs c.key ⟨#[]⟩ i hh) (4+(cs (bkt c.key n)).length) _ _ .a1).q (by omega)⟩ (by omega) (by omega)).mono fun e w' q=>?_
  obtain ⟨k,s,q1,_,⟨P,q4,W,hf,hz,q5⟩,hI⟩:=q
  obtain ⟨M',a',g1,g2,g3,g4,g5,g6⟩:=fin_s h hP hlow hI
  obtain ⟨m1,m2,m3,cs',m4⟩:=del_map hm hf
  injection q5 with q5 q6
  have hd:lm M'=delL (lm M) (B+bkt c.key n) W:=g3.trans q5
  have hlk:=fnd_lk hm hf
  have hval:=fnd_val hm hf hz
  rw [q4] at g4
  have q6:P=Dl.Ep.t (Mp.ep (lm M) n B cs c.key ⟨#[]⟩ i hh) 7 {Ep.H (Mp.ep (lm M) n B cs c.key ⟨#[]⟩ i hh) with holds:=false} W 0:=q6
  have e1:M'.ss=(lm M').ss:=rfl
  have e2:M'.k=(lm M').k:=rfl
  refine ⟨⟨⟨k,q1⟩,g6⟩,M',a',_,n,B,G,cs',g1,g2,g4,g5,rfl,by rw [q6]; rfl,by rw [e1,hd,m2],by rw [e2,hd,m3],num_cz hnum (by rw [hd]; exact cz_del (by omega)),hn8,by omega,.inr ⟨fun q=>by omega,?_,fun l' hl'=>?_⟩⟩
  · unfold docA
    rw [if_neg (by omega),if_neg (by omega),if_neg (by omega),if_pos hk]
    show ((0:Int),decide (P.W.found≠0),P.W.nd.val)=_
    rw [q6]
    show ((0:Int),decide (W.found≠0),W.nd.val)=_
    rw [hlk,hval]
  · unfold DocL at hl'
    rw [if_neg (fun q=>by omega),if_pos ⟨h0,hk⟩] at hl'
    rw [hd]
    exact m4 l' (del_of hm.ln hl')
 ·
  have hfr:=k3 hk
  have eC:C=⟨.rz (Zr.newRz i c.size),0,false⟩:=by cases C; simp only at c1 c2 hfr; rw [c1,c2,hfr,h0]
  subst eC
  cases hp:FM.power c.size with
  | false=>
    refine (finish_frm cl_frm h.mem hP (fun k s=>∃ P d,s.2=(⟨.rz P,0,d⟩:Cl)∧k=1∧(s.1,P)=(lm M,Zr.newRz i c.size)) (fun s=>∃ P,s.2=(⟨.rz P,0,true⟩:Cl)∧(s.1,P)=(lm M,{Zr.newRz i c.size with err:=5,nx:=12}))
     (lift_rz (R:=fun k s=>k=1∧s=(lm M,Zr.newRz i c.size)) (Q:=fun s=>s=(lm M,{Zr.newRz i c.size with err:=5,nx:=12})) (fun k s hs=>refuse_start hm hp k s hs) 0) 1 30000 ⟨_,_,rfl,rfl,rfl⟩ (by omega) (by omega)).mono fun e w' q=>?_
    obtain ⟨k,s,q1,_,⟨P,q4,q5⟩,hI⟩:=q
    obtain ⟨M',a',g1,g2,g3,g4,g5,g6⟩:=fin_s h hP hlow hI
    injection q5 with q5 q6
    have g3:lm M'=lm M:=g3.trans q5
    rw [q4] at g4
    have e1:M'.ss=M.ss:=congrArg Lm.ss g3
    have e2:M'.k=M.k:=congrArg Lm.k g3
    refine ⟨⟨⟨k,q1⟩,g6⟩,M',a',_,n,B,G,cs,g1,g2,g4,g5,rfl,rfl,by rw [e1],e2,by rw [g3]; exact hnum1,hn8,by omega,.inr ⟨fun q=>by omega,?_,fun l' hl'=>?_⟩⟩
    · unfold docA
      rw [if_neg (by omega),if_neg (by omega),if_neg (by omega),if_neg (by omega),if_neg (by rw [hp]; simp)]
      show (P.err,false,(⟨#[]⟩:ByteArray))=_
      rw [q6]
    · unfold DocL at hl'
      rw [if_neg (fun q=>by omega),if_neg (fun q=>by omega)] at hl'
      rw [hl',g3]; exact hm
  | true=>
    have hsz:=FM.power_bd hp
    obtain ⟨z,hz⟩:=Int.eq_ofNat_of_zero_le (show 0≤c.size by omega)
    have hz8:z≤256:=by omega
    rw [hz] at hp hP hlow
    obtain ⟨cc,x,tt,ca,hw,hc,hx,htt,hca⟩:=ways_to l.length n z hl hm.pw hp hn8 hz8
    have hone:=lone_start hm (by omega) hl hnum ht hp hw hc hx htt hca hi1
    refine (finish_frm cl_frm h.mem hP (fun k s=>∃ P d,s.2=(⟨.rz P,0,d⟩:Cl)∧Lone (lm M) (allh n cs) ⟨10+512*(t+1),1+8*(t+1),1+20000*((t:Int)+1)⟩ z l k (s.1,P)) (fun s=>∃ P,s.2=(⟨.rz P,0,true⟩:Cl)∧Qr (lm M) (allh n cs) ⟨10+512*(t+1),1+8*(t+1),1+20000*((t:Int)+1)⟩ z l s.1 P∧∀ i:Nat,(i:Int)<s.1.k→Cl.nth s.1.xs (2+i)=0)
     (lift_rz (R:=Lone (lm M) (allh n cs) ⟨10+512*(t+1),1+8*(t+1),1+20000*((t:Int)+1)⟩ z l) (Q:=fun s=>Qr (lm M) (allh n cs) ⟨10+512*(t+1),1+8*(t+1),1+20000*((t:Int)+1)⟩ z l s.1 s.2∧∀ i:Nat,(i:Int)<s.1.k→Cl.nth s.1.xs (2+i)=0) (fun k s hs=>hs.step) 0) (cc+10) 30000 ⟨_,_,rfl,hone⟩ (by omega) (by omega)).mono fun e w' q=>?_
    obtain ⟨k,s,q1,_,⟨P,q4,q5,q6⟩,hI⟩:=q
    obtain ⟨M',a',g1,g2,g3,g4,g5,g6⟩:=fin_s h hP hlow hI
    obtain ⟨p1,⟨B',cs',p2⟩,p3,p4,p5,p6⟩:=lone_end hm q5 q6
    rw [q4] at g4
    rw [← g3] at p2 p3 p4 p6
    refine ⟨⟨⟨k,q1⟩,by rw [hz]; exact g6⟩,M',a',_,z,B',G,cs',g1,g2,g4,g5,rfl,rfl,p3,p4,p6,hz8,by omega,.inr ⟨fun q=>by omega,?_,fun l' hl'=>?_⟩⟩
    · unfold docA
      rw [if_neg (by omega),if_neg (by omega),if_neg (by omega),if_neg (by omega),hz,if_pos hp]
      show (P.err,false,(⟨#[]⟩:ByteArray))=_
      rw [p1]
    · unfold DocL at hl'
      rw [if_neg (fun q=>by omega),if_neg (fun q=>by omega)] at hl'
      rw [hl']; exact p2
end
end Go.Proofs.YtpobbnllcoabhaaGreat.Ca
namespace Go.Proofs.YtpobbnllcoabhaaGreat.Ca
open Go Go.RowKit Hp K Fl Rw Hm Ar Mm Me LK Qs Wk Re LawSix Pc Pn Mq Pu Zp Mx LawTh Bs Dl Zr LawTen LawEl LawFn
set_option maxRecDepth 100000
theorem ini_done {i:Nat} {c:Ct} {C:Cl} (h:Ini i c C):C.done=false∧ans C=(0,false,⟨#[]⟩):=⟨h.1,by unfold ans; rw [h.1]; rfl⟩
def OneS (W0 w':World) (M:Mo) (A:Option Addr) (cap:Nat) (lr l:List Pr) (G t:Nat) (c:Ct) (x:Int×Bool×ByteArray):Prop:=
 ∃ (M':Mo) (n' B' G':Nat) (cs':Nat→List Mq.Hp),S11 W0 w' M' A cap lr∧M'.m=M.m∧M'.ss.length=M.ss.length∧M'.k=M.k∧Num1 (lm M') (t+1)∧n'≤256∧G'≤G+1∧
   ((chk c=0∧c.kind=1∧freePl M.ss=none∧x=(4,false,⟨#[]⟩)∧Mp (lm M') n' B' cs' l G')∨(¬(chk c=0∧c.kind=1∧freePl M.ss=none)∧x=docA l c∧∀ l',DocL l l' c→Mp (lm M') n' B' cs' l' G'))
set_option maxHeartbeats 4000000 in
theorem one_any {W0 w:World} {M:Mo} {A:Option Addr} {cap:Nat} {l lr:List Pr} {n B G t:Nat} {cs:Nat→List Mq.Hp} {c:Ct} {i:Nat} (h:S11 W0 w M A cap lr) (hm:Mp (lm M) n B cs l G) (hG:G≤900000) (hl:l.length≤30) (hnum:Num1 (lm M) t) (ht:t≤200) (hn8:n≤256) (hs8:c.size≤256∨65536<c.size) (hi:(i:Int)<M.k) (hk:c.key.size≤maxLen):
 Calls Tryz.prog 9 #[ptr M.m,.int .i64 i,ctv c] w fun e w'=>∃ x,e=.returned (.tuple #[anv x,.bool true])∧OneS W0 w' M A cap lr l G t c x∧Only (mfoot M) w w':=by
 obtain ⟨w1,hw1⟩:∃ w1,w1=w.alloc (.cells #[.int .i64 c.kind,.string c.key,.string c.val,.int .i64 c.size] 30):=⟨_,rfl⟩
 obtain ⟨w2,hw2⟩:∃ w2,w2=w1.alloc (.cells #[.int .i64 0,.bool false,.string ⟨#[]⟩] 43):=⟨_,rfl⟩
 have b1:Blk w1 w.heap.size 30 #[.int .i64 c.kind,.string c.key,.string c.val,.int .i64 c.size]:=by rw [hw1]; exact Blk.made w _ _
 have d1:Below w.heap.size w w1:=by rw [hw1]; exact below_1 _ _
 have b2:Blk w2 w1.heap.size 43 #[.int .i64 0,.bool false,.string ⟨#[]⟩]:=by rw [hw2]; exact Blk.made w1 _ _
 have d2:Below w1.heap.size w1 w2:=by rw [hw2]; exact below_1 _ _
 have b12:=b1.only (Only.ofBelow d2 (fun _=>False)) (by simp)
 have hzz:w.heap.size≤w1.heap.size:=d1.size
 have hd:=d1.trans (d2.mono d1.size)
 obtain ⟨p,hp⟩:∃ p,p=w.heap.size:=⟨_,rfl⟩
 have hs1:w1.heap.size=w.heap.size+1:=by rw [hw1]; exact Array.size_push _
 obtain ⟨q,hq0⟩:∃ q,q=w1.heap.size:=⟨_,rfl⟩
 have hq:q=p+1:=by omega
 rw [← hp] at b12
 rw [← hq0] at b2
 have p0:=b12.cell 0
 have p1:=b12.cell 1
 have p2:=b12.cell 2
 have p3:=b12.cell 3
 simp at p0 p1 p2 p3
 have lp:=b12.lt
 have S2:=h.down hd
 have hB0:=Lib.hid S2.below.size
 have hd':=Lib.hid hd
 have hqw:w.heap.size≤q:=by omega
 have HM:=Lib.hid S2.mem
 have hlow0:W0.heap.size≤q:=by have:=h.below.size; omega
 have hNw:=Lib.hid (fun w=>new_call i c hk w)
 have hFi:=Lib.hid (fun w3 a C (hb:Below w2.heap.size w2 w3) (hI:Ini i c C) (hP:clL.At w3 a C) (hlo:∀ x,clL.foot a C x→w2.heap.size≤x)=>call_s (S2.down hb) hm hG hl hnum ht hn8 hs8 hi hI hP (fun x hx=>Nat.le_trans S2.below.size (hlo x hx)))
 replace b2:=Lib.hid b2
 unfold ctv
 unfold ctv at hNw
 clear h hm hnum hd S2 b1 d1 d2 b12 hzz hk hs8
 go_enter Tryz.func9,Tryz.ntmps9
 go_upto_region 1 with (fail)
 rw [← hw1,← hw2,← hp,← hq]
 clear hw1 hw2 hp hq hq0 hs1
 go_wp2_with fail
 refine (hNw.out _).mono ?_
 rintro e w3 ⟨a,C,rfl,hI,hP,hlo,hb3⟩
 have hF3:=Lib.hid (fun w4 (hb:Below w3.heap.size w3 w4)=>hFi.out w4 a C (hb3.trans (hb.mono hb3.size)) hI (cl_frm.below hP hb) hlo)
 obtain ⟨i1,i2⟩:=ini_done hI
 have hR:=res_any hP
 rw [i1,i2] at hR
 have hb2':=b2.out.only (Only.ofBelow hb3 (fun _=>False)) (by simp)
 replace hR:=Lib.hid hR
 go_wp2_with fail
 refine hR.out.mono ?_
 rintro e w4 ⟨rfl,hb4⟩
 go_wp2_with fail
 have hb5:Below w3.heap.size w3 (w4.alloc (.cells #[.int .i64 0,.bool false,.string ⟨#[]⟩] 43)):=hb4.alloc hb4.size _
 have hF5:=hF3.out _ hb5
 have hq5:=b2.out.only (Only.ofBelow (hb3.trans (hb5.mono hb3.size)) (fun _=>False)) (by simp)
 generalize w4.alloc (.cells #[.int .i64 0,.bool false,.string ⟨#[]⟩] 43)=w5 at*
 refine hF5.mono ?_
 rintro e w6 ⟨⟨⟨k,rfl⟩,hO⟩,M',a',C',n',B',G',cs',s1,s2,s3,s4,s5,s6,s7,s8,s9,s10,s11,s12⟩
 have hlq:q<w2.heap.size:=b2.out.lt
 have hq6:=hq5.only hO (fun g=>by
  rcases g with g | g
  · exact (HM.out.below (hb3.trans (hb5.mono hb3.size))).ty g |>.apart (blk_ty hq5) (by decide)
  · have:=hlo q g; omega)
 have hO0:Only (mfoot M) w w6:=(Only.ofBelow (hd'.out.trans ((hb3.trans (hb5.mono hb3.size)).mono hd'.out.size)) (mfoot M)).trans' hO (fun x hx g=>g.elim id (fun g=>by have:=hlo x g; have:=hd'.out.size; omega))
 have hMn:=mine_any s3
 rw [s6,s4] at hMn
 have hRs:=Lib.hid (fun wx (hb:Below w6.heap.size w6 wx)=>by
  have:=res_any (cl_frm.below s3 hb)
  rw [s4,s5] at this
  exact this)
 have hEnd:=Lib.hid (fun wx (hb:Below w6.heap.size w6 wx) u1 u2 u3=>show OneS W0 (((wx.setCell ⟨q,0,none⟩ u1).setCell ⟨q,1,none⟩ u2).setCell ⟨q,2,none⟩ u3) M A cap lr l G t c (ans C')∧Only (mfoot M) w (((wx.setCell ⟨q,0,none⟩ u1).setCell ⟨q,1,none⟩ u2).setCell ⟨q,2,none⟩ u3) from by
  have hqx:=hq6.only (Only.ofBelow hb (fun _=>False)) (by simp)
  have hO3:=(((Only.refl (·=q) wx).setCell (p:=⟨q,0,none⟩) (.inl rfl) u1).setCell (p:=⟨q,1,none⟩) (.inl rfl) u2).setCell (p:=⟨q,2,none⟩) (.inl rfl) u3
  have sx:=s1.down hb
  refine ⟨⟨M',n',B',G',cs',sx.moved (sx.mem.only hO3 (fun x hx e=>by subst e; exact (sx.mem.ty hx).apart (blk_ty hqx) (by decide))) (fun x hx=>.inl hx) hO3 (fun x e=>by subst e; exact hlow0) (fun x hx e=>by subst e; exact sx.apart hx (by decide) (blk_ty hqx)),s2,s7,s8,s9,s10,s11,s12⟩,(hO0.below hb).trans' hO3 (fun x hx e=>by subst e; omega)⟩)
 have hQ:=Lib.hid (fun wx (hb:Below w6.heap.size w6 wx)=>hq6.only (Only.ofBelow hb (fun _=>False)) (by simp))
 generalize ans C'=x at*
 replace hMn:=Lib.hid hMn
 clear hF5 hF3 hq5 hq6 s1 s2 s3 s4 s5 s6 s7 s8 s9 s10 s11 s12 hO hlo hb3 hb4 hb5 hb2' hI hP hR hNw hFi p0 p1 p2 p3 lp HM i1 i2
 go_wp2_with fail
 refine hMn.out.mono ?_
 rintro e w7 ⟨rfl,hb7⟩
 have hR7:=Lib.hid (hRs.out w7 hb7)
 replace hb7:=Lib.hid hb7
 clear hMn hRs
 go_wp2_with fail
 refine hR7.out.mono ?_
 rintro e w8 ⟨rfl,hb8⟩
 have hb68:=hb7.out.trans (hb8.mono hb7.out.size)
 have hq8:=hQ.out w8 hb68
 have f0:=hq8.cell 0
 have f1:=hq8.cell 1
 have f2:=hq8.cell 2
 have z0:=hq8.frozen 0
 have z1:=hq8.frozen 1
 have z2:=hq8.frozen 2
 simp at f0 f1 f2
 have lq:=hq8.lt
 have hE8:=Lib.hid (hEnd.out w8 hb68 (.int .i64 x.1) (.bool x.2.1) (.string x.2.2))
 clear hR7 hEnd hQ hb7 hb8 hb68 hq8 b2
 go_wp2_with fail
 refine bodyPost_ret (v:=.tuple #[.agg #[.int .i64 x.1,.bool x.2.1,.string x.2.2],.bool true]) (by simp [results,Tryz.results9,go_sem,f0,f1,f2]) rfl ⟨x,rfl,hE8.out⟩
end Go.Proofs.YtpobbnllcoabhaaGreat.Ca
namespace Go.Proofs.YtpobbnllcoabhaaGreat.LawTh
open Go Go.RowKit Hp K Fl Rw Hm Ar Mm Me LK Qs Wk Pc Pn Mq Zp Mx Gw LawSix
set_option maxRecDepth 100000
theorem err_any {w:World} {a:Gl} {G:Gr} (h:GrAt w a G):Calls Tryz.prog 69 #[ptr a.f] w fun e w'=>e=.returned (.int .i64 G.err)∧w=w':=by
 have c:=(own_hd h.blk).2.2.2.1
 clear h
 go_enter Tryz.func69,Tryz.ntmps69
 go_wp2_with fail
 go_ret
 exact ⟨rfl,rfl⟩
/-! ### the example's steps are eight-/
def L0:Lm:=⟨[1,0,0,0],List.replicate 6 (-1),[.zero],false,1,[(1,3)],[]⟩
def it:Nat→Lm×Gr
 | 0=>(L0,newGro 0)
 | n+1=>gstep (it n).1 (it n).2
def g1:Gr:={newGro 0 with el:=(1,3),nx:=2}
def L2:Lm:={L0 with xs:=[1,0,0,0,0,0],ds:=[(1,3),(2,4)]}
def g2:Gr:={g1 with num:=1,err:=0,nw:=(2,4),nx:=3}
def g3:Gr:={g2 with half:=2,bucket:=1,nx:=6}
def L4:Lm:={L2 with xs:=[1,1,0,0,0,0]}
def g4:Gr:={g3 with W:=⟨0,0,0,0⟩,nx:=7}
def L5:Lm:={L4 with hs:=0::List.replicate 5 (-1)}
def g5:Gr:={g4 with W:=⟨0,1,0,0⟩}
def L6:Lm:={L5 with xs:=[2,1,0,0,0,0]}
def g6:Gr:={g5 with W:=⟨0,2,2,0⟩}
def g7:Gr:={g6 with W:=⟨0,3,2,1⟩}
def L8:Lm:={L6 with hs:=List.replicate 6 (-1)}
def g8:Gr:={g7 with W:=⟨0,4,2,1⟩,nx:=9}
theorem it1:it 1=(L0,g1):=by kernel_rfl
theorem it2:it 2=(L2,g2):=by
 show gstep (it 1).1 (it 1).2=_
 rw [it1]; kernel_rfl
theorem it3:it 3=(L2,g3):=by
 show gstep (it 2).1 (it 2).2=_
 rw [it2]; kernel_rfl
theorem it4:it 4=(L4,g4):=by
 show gstep (it 3).1 (it 3).2=_
 rw [it3]; kernel_rfl
theorem it5:it 5=(L5,g5):=by
 show gstep (it 4).1 (it 4).2=_
 rw [it4]; kernel_rfl
theorem it6:it 6=(L6,g6):=by
 show gstep (it 5).1 (it 5).2=_
 rw [it5]; kernel_rfl
theorem it7:it 7=(L6,g7):=by
 show gstep (it 6).1 (it 6).2=_
 rw [it6]; kernel_rfl
theorem it8:it 8=(L8,g8):=by
 show gstep (it 7).1 (it 7).2=_
 rw [it7]; kernel_rfl
theorem okg_of {L:Lm} {G:Gr} (h1:1≤G.nx∧G.nx≤8) (h2:1<L.xs.length∧0<L.hs.length∧L.ds.length≤900000) (h3:G.nx≠1→G.el.1≤65536∧G.el.2≤4000000) (h4:G.bucket≤1000000) (h5:G.pass.length≤100000∧G.later.length≤100000) (h6:G.later=[])
 (h7:G.nx=3→G.el.2+G.bucket<L.xs.length) (h8:G.nx=6→0≤G.num∧G.num≤1000000) (h9:G.nx=7→0≤L.k∧Qs.Okw L.k.toNat L.xs L.hs G.W) (n4:G.nx≠4) (n5:G.nx≠5) (n8:G.nx≠8):Okgr L G:=
 ⟨h1,h2.1,h2.2.1,h2.2.2,h3,h4,h5,fun _=>h6,h7,fun q=>absurd q n4,fun q=>absurd q n5,h8,h9,fun q=>absurd q n8⟩
theorem okw_of {L:Lm} {W:Wt} (hk:L.k=1) (h1:W.at_≤3) (h2:W.worker=0) (h3:0<L.hs.length) (h4:3≤L.xs.length) (h5:W.passed≤1000∧(W.at_≤2→W.passed<1)) (h6:W.at_≠0→Lo.hol L.hs 0=0):0≤L.k∧Qs.Okw L.k.toNat L.xs L.hs W:=by
 rw [hk]
 exact ⟨by omega,⟨by decide,h1,by omega,h3,h4,h5,by rw [h2]; exact h6⟩⟩
theorem it_ok (j:Nat) (hj:j≤7):Okgr (it j).1 (it j).2∧gready (it j).1 (it j).2=true∧gdone (it j).1 (it j).2=decide (j=7):=by
 have:j=0∨j=1∨j=2∨j=3∨j=4∨j=5∨j=6∨j=7:=by omega
 rcases this with rfl | rfl | rfl | rfl | rfl | rfl | rfl | rfl
 · exact ⟨okg_of (by decide) (by decide) (by decide) (by decide) (by decide) rfl (by decide) (by decide) (fun q=>absurd q (by decide)) (by decide) (by decide) (by decide),by kernel_rfl,by kernel_rfl⟩
 · rw [it1]; exact ⟨okg_of (by decide) (by decide) (by decide) (by decide) (by decide) rfl (by decide) (by decide) (fun q=>absurd q (by decide)) (by decide) (by decide) (by decide),by kernel_rfl,by kernel_rfl⟩
 · rw [it2]; exact ⟨okg_of (by decide) (by decide) (by decide) (by decide) (by decide) rfl (by decide) (by decide) (fun q=>absurd q (by decide)) (by decide) (by decide) (by decide),by kernel_rfl,by kernel_rfl⟩
 · rw [it3]; exact ⟨okg_of (by decide) (by decide) (by decide) (by decide) (by decide) rfl (by decide) (by decide) (fun q=>absurd q (by decide)) (by decide) (by decide) (by decide),by kernel_rfl,by kernel_rfl⟩
 · rw [it4]; exact ⟨okg_of (by decide) (by decide) (by decide) (by decide) (by decide) rfl (by decide) (by decide) (fun _=>okw_of rfl (by decide) rfl (by decide) (by decide) (by decide) (by decide)) (by decide) (by decide) (by decide),by kernel_rfl,by kernel_rfl⟩
 · rw [it5]; exact ⟨okg_of (by decide) (by decide) (by decide) (by decide) (by decide) rfl (by decide) (by decide) (fun _=>okw_of rfl (by decide) rfl (by decide) (by decide) (by decide) (by decide)) (by decide) (by decide) (by decide),by kernel_rfl,by kernel_rfl⟩
 · rw [it6]; exact ⟨okg_of (by decide) (by decide) (by decide) (by decide) (by decide) rfl (by decide) (by decide) (fun _=>okw_of rfl (by decide) rfl (by decide) (by decide) (by decide) (by decide)) (by decide) (by decide) (by decide),by kernel_rfl,by kernel_rfl⟩
 · rw [it7]; exact ⟨okg_of (by decide) (by decide) (by decide) (by decide) (by decide) rfl (by decide) (by decide) (fun _=>okw_of rfl (by decide) rfl (by decide) (by decide) (by decide) (by decide)) (by decide) (by decide) (by decide),by kernel_rfl,by kernel_rfl⟩
theorem low_gro {W0 a b:World} {M:Mo} {g:Gl} {G:Gr} (ha:Below W0.heap.size W0 a) (hlo:∀ x,mfoot M x→W0.heap.size≤x) (hg:∀ x,gfoot g G x→W0.heap.size≤x) (ho:Only (fun x=>mfoot M x∨gfoot g G x) a b):Below W0.heap.size W0 b:=
 ha.trans (ho.toBelow ha.size (fun x hx q=>by
  rcases q with q | q
  · have:=hlo x q; omega
  · have:=hg x q; omega))
set_option maxHeartbeats 2000000 in
theorem awake (w:World):Calls Tryz.prog 41 #[] w fun e w'=>e=.returned (.bool true)∧Below w.heap.size w w':=by
 have hN:=Lib.hid (made_yes 1 1 w (by omega) (by omega))
 have hA:=Lib.hid (fun w=>LawTen.awake w)
 have hNg:=Lib.hid (fun w=>new_grow 0 w)
 go_enter Tryz.func41,Tryz.ntmps41
 go_wp2_with fail
 refine hN.out.mono ?_
 rintro e w1 ⟨M,rfl,hM,hlo,hB,h1,h2,h3,h4,h5,h6,h7⟩
 have hL:lm M=L0:=by
  unfold lm L0
  rw [h1,h2,h3,h4,h5,h6,h7]
  rfl
 replace hL:=Lib.hid hL
 replace hM:=Lib.hid hM
 replace hlo:=Lib.hid hlo
 replace hB:=Lib.hid hB
 clear hN h1 h2 h3 h4 h5 h6 h7
 go_wp2_with fail
 refine (hNg.out _).mono ?_
 rintro e w2 ⟨a,rfl,hG2,hlow2,hB2⟩
 have hM2:=hM.out.below hB2
 have hB02:=Lib.hid (hB.out.trans (hB2.mono hB.out.size))
 have hlg:=Lib.hid (fun x hx=>Nat.le_trans hB.out.size (hlow2 x hx))
 have hFn:=finish_frm gro_frm hM2 (show grL.At w2 a (newGro 0) from hG2) (fun k s=>∃ j,j+k=8∧j≤7∧s=it j) (fun s=>s=it 8) (fun k s hs=>by
  obtain ⟨j,h1,h2,rfl⟩:=hs
  obtain ⟨a1,a2,a3⟩:=it_ok j h2
  refine ⟨a1,a2,by omega,fun hd=>?_,fun hd=>⟨j+1,by omega,?_,rfl⟩⟩
  · rw [a3] at hd
    have:j=7:=of_decide_eq_true hd
    subst this
    rfl
  · rw [a3] at hd
    have:¬j=7:=of_decide_eq_false hd
    omega) 8 100 ⟨0,by omega,by omega,by rw [hL.out]; rfl⟩ (by omega) (by omega)
 have hF2:Hid (Calls Tryz.prog 21 #[ptr M.m,.iface 138 (ptr a.f),.int .i64 100] w2 fun e w'=>∃ (n:Nat) (M':Mo) (a':Gl),e=.returned (.tuple #[.int .i64 n,.bool true])∧MemAt w' M'∧lm M'=L8∧M'.m=M.m∧GrAt w' a' g8∧a'.f=a.f∧Below w.heap.size w w'):=Lib.hid (hFn.mono fun e w' q=>by
  obtain ⟨n,s,q1,_,q2,M',a',r1,r2,r3,r4,r5,r6,r7⟩:=q
  rw [q2,it8] at r2 r4
  exact ⟨n,M',a',q1,r1,r2,r3.m,r4,r5,low_gro hB02.out hlo.out hlg.out r7⟩)
 clear hFn hNg hG2 hlow2 hB2 hM2 hM hB hL
 go_wp2_with fail
 refine hF2.out.mono ?_
 rintro e w3 ⟨n,M',a',rfl,hM3,hL3,em,hG3,ea,hB3⟩
 have x3:M'.xs=[2,1,0,0,0,0]:=congrArg Lm.xs hL3
 have d3:M'.ds=[(1,3),(2,4)]:=congrArg Lm.ds hL3
 have s3:M'.ss=[.zero]:=congrArg Lm.ss hL3
 have hE:=fun wx (hb:Below w3.heap.size w3 wx)=>err_any (hG3.below hb)
 rw [ea] at hE
 have hNw:=fun wx (hb:Below w3.heap.size w3 wx)=>now_any (hM3.below hb) (by rw [x3]; simp)
 have hRc:=fun wx (hb:Below w3.heap.size w3 wx)=>reach_any (hM3.below hb) (by
  rw [x3,d3]
  intro i hi
  have:i=0∨i=1:=by simp at hi; omega
  rcases this with rfl | rfl<;>decide) (by rw [x3]; simp) (by
  rw [s3]
  intro k
  rcases k with _ | k
  · decide
  · simp [at',List.getD]; decide) (by rw [s3]; simp) [] (by
  rw [x3,d3,s3]
  unfold Rch
  have h0:∀ b,b<2→first [2,1,0,0,0,0] [(1,3),(2,4)] b=0:=fun b hb=>by
   have:b=0∨b=1:=by omega
   rcases this with rfl | rfl<;>rfl
  have hst:∀ met,Ch [Sl.zero] met 0 []:=fun met=>.stop (.inl fun k hk=>by
   have:=hk.2.2
   omega)
  show Rh [Sl.zero] (first [2,1,0,0,0,0] [(1,3),(2,4)]) 2 []
  exact .succ (all:=[]) (t:=[]) (.succ (all:=[]) (t:=[]) .zero (by rw [h0 0 (by omega)]; exact hst _)) (by rw [h0 1 (by omega)]; exact hst _))
 have hnw:Me.now M'.xs M'.ds=(2,4):=by rw [x3,d3]; rfl
 have hge:g8.err=0:=rfl
 rw [hnw,em] at hNw
 rw [em] at hRc
 rw [hge] at hE
 unfold dv at hNw
 have hfd:∀ w,(Instr.field 82 (.agg #[.int .i64 2,.int .i64 4]) 0).run Tryz.prog w=.ok (.int .i64 2) w:=fun w=>rfl
 replace hE:=Lib.hid hE
 replace hNw:=Lib.hid hNw
 replace hRc:=Lib.hid hRc
 replace hB3:=Lib.hid hB3
 clear hF2 hM3 hL3 em hG3 ea x3 d3 s3 hnw hge hlo hlg hB02
 go_wp2_with fail
 refine (hA.out _).mono ?_
 rintro e w4 ⟨rfl,hB4⟩
 replace hB4:=Lib.hid hB4
 clear hA
 go_wp2_with fail
 refine (hE.out _ hB4.out).mono ?_
 rintro e w' ⟨rfl,rfl⟩
 clear hE
 go_wp2_with fail
 refine (hNw.out _ hB4.out).mono ?_
 rintro e w5 ⟨rfl,hB5⟩
 have hB35:=Lib.hid (hB4.out.trans (hB5.mono hB4.out.size))
 clear hB5 hB4 hNw
 go_wp2_with fail
 refine (hRc.out _ hB35.out).mono ?_
 rintro e w6 ⟨Ac,capc,rfl,hRw,hB6,hin⟩
 have hBx:=Lib.hid (hB3.out.trans ((hB35.out.trans (hB6.mono hB35.out.size)).mono hB3.out.size))
 clear hRw hin hB6 hB35 hB3 hRc
 go_wp2_with fail
 go_ret
 exact ⟨rfl,hBx.out⟩
end Go.Proofs.YtpobbnllcoabhaaGreat.LawTh
namespace Go.Proofs.YtpobbnllcoabhaaGreat.LawFo
open Go Go.RowKit Hp K Fl Rw Hm Ar Mm Me LK Qs Wk Pc Pn Mx Sw LawSix
set_option maxRecDepth 100000
abbrev L0:Lm:=⟨[1,0,0,0],[-1, -1, -1, -1, -1, -1],[.zero],false,1,[(1,3)],[]⟩
abbrev s1:Sh:=⟨0,2,0,(1,3),(0,0),0,0,0,0,0,0,[],⟨0,0,0,0⟩⟩
abbrev s2:Sh:=⟨0,10,5,(1,3),(0,0), -1,0,0,0,0,0,[],⟨0,0,0,0⟩⟩
theorem st0:sstep L0 (newShr 0)=(L0,s1):=by kernel_rfl
theorem st1:sstep L0 s1=(L0,s2):=by kernel_rfl
theorem okA:Oksh L0 (newShr 0)∧sready L0 (newShr 0)=true∧sdone L0 (newShr 0)=false:=
 ⟨⟨by decide,by decide,by decide,by decide,by decide,by decide,by decide,by decide,by decide,by decide,fun q=>absurd q (by decide),fun q=>absurd q (by decide),by decide,by decide,fun q=>absurd q (by decide)⟩,by kernel_rfl,by kernel_rfl⟩
theorem okB:Oksh L0 s1∧sready L0 s1=true∧sdone L0 s1=true:=
 ⟨⟨by decide,by decide,by decide,by decide,by decide,by decide,by decide,by decide,by decide,by decide,fun q=>absurd q (by decide),fun q=>absurd q (by decide),by decide,by decide,fun q=>absurd q (by decide)⟩,by kernel_rfl,by kernel_rfl⟩
theorem low_shr {W0 a b:World} {M:Mo} {g:Sc} {G:Sh} (ha:Below W0.heap.size W0 a) (hlo:∀ x,mfoot M x→W0.heap.size≤x) (hg:∀ x,sfoot g G x→W0.heap.size≤x) (ho:Only (fun x=>mfoot M x∨sfoot g G x) a b):Below W0.heap.size W0 b:=
 ha.trans (ho.toBelow ha.size (fun x hx q=>by
  rcases q with q | q
  · have:=hlo x q; omega
  · have:=hg x q; omega))
set_option maxHeartbeats 2000000 in
theorem awake (w:World):Calls Tryz.prog 42 #[] w fun e w'=>e=.returned (.bool true)∧Below w.heap.size w w':=by
 have hN:=Lib.hid (made_yes 1 1 w (by omega) (by omega))
 have hA:=Lib.hid (fun w=>LawTh.awake w)
 have hNg:=Lib.hid (fun w=>new_shrink 0 w)
 go_enter Tryz.func42,Tryz.ntmps42
 go_wp2_with fail
 refine hN.out.mono ?_
 rintro e w1 ⟨M,rfl,hM,hlo,hB,h1,h2,h3,h4,h5,h6,h7⟩
 have hL:lm M=L0:=by
  unfold lm L0
  rw [h1,h2,h3,h4,h5,h6,h7]
  rfl
 replace hL:=Lib.hid hL
 replace hM:=Lib.hid hM
 replace hlo:=Lib.hid hlo
 replace hB:=Lib.hid hB
 clear hN h1 h2 h3 h4 h5 h6 h7
 go_wp2_with fail
 refine (hNg.out _).mono ?_
 rintro e w2 ⟨a,rfl,hG2,hlow2,hB2⟩
 have hM2:=hM.out.below hB2
 have hB02:=Lib.hid (hB.out.trans (hB2.mono hB.out.size))
 have hlg:=Lib.hid (fun x hx=>Nat.le_trans hB.out.size (hlow2 x hx))
 have hFn:=finish_frm shr_frm hM2 (show shL.At w2 a (newShr 0) from hG2) (fun k s=>(k=2∧s=(L0,newShr 0))∨(k=1∧s=(L0,s1))) (fun s=>s=(L0,s2)) (fun k s hs=>by
  rcases hs with ⟨rfl,rfl⟩ | ⟨rfl,rfl⟩
  · obtain ⟨a1,a2,a3⟩:=okA
    exact ⟨a1,a2,by omega,fun hd=>by rw [a3] at hd; simp at hd,fun _=>.inr ⟨rfl,st0⟩⟩
  · obtain ⟨a1,a2,a3⟩:=okB
    exact ⟨a1,a2,by omega,fun _=>st1,fun hd=>by rw [a3] at hd; simp at hd⟩) 2 100 (.inl ⟨rfl,by rw [hL.out]⟩) (by omega) (by omega)
 have hF2:Hid (Calls Tryz.prog 21 #[ptr M.m,.iface 140 (ptr a.f),.int .i64 100] w2 fun e w'=>∃ (n:Nat) (M':Mo) (a':Sc),e=.returned (.tuple #[.int .i64 n,.bool true])∧MemAt w' M'∧lm M'=L0∧M'.m=M.m∧ShAt w' a' s2∧a'.f=a.f∧Below w.heap.size w w'):=Lib.hid (hFn.mono fun e w' q=>by
  obtain ⟨n,s,q1,_,q2,M',a',r1,r2,r3,r4,r5,r6,r7⟩:=q
  rw [q2] at r2 r4
  exact ⟨n,M',a',q1,r1,r2,r3.m,r4,r5,low_shr hB02.out hlo.out hlg.out r7⟩)
 clear hFn hNg hG2 hlow2 hB2 hM2 hM hB hL
 go_wp2_with fail
 refine hF2.out.mono ?_
 rintro e w3 ⟨n,M',a',rfl,hM3,hL3,em,hG3,ea,hB3⟩
 have x3:M'.xs=[1,0,0,0]:=congrArg Lm.xs hL3
 have d3:M'.ds=[(1,3)]:=congrArg Lm.ds hL3
 have hE:=fun wx (hb:Below w3.heap.size w3 wx)=>err_any (hG3.below hb)
 rw [ea] at hE
 have hNw:=fun wx (hb:Below w3.heap.size w3 wx)=>now_any (hM3.below hb) (by rw [x3]; simp)
 have hnw:Me.now M'.xs M'.ds=(1,3):=by rw [x3,d3]; rfl
 have hge:s2.err=5:=rfl
 rw [hnw,em] at hNw
 rw [hge] at hE
 unfold dv at hNw
 have hfd:∀ w,(Instr.field 82 (.agg #[.int .i64 1,.int .i64 3]) 0).run Tryz.prog w=.ok (.int .i64 1) w:=fun w=>rfl
 replace hE:=Lib.hid hE
 replace hNw:=Lib.hid hNw
 replace hB3:=Lib.hid hB3
 clear hF2 hM3 hL3 em hG3 ea x3 d3 hnw hge hlo hlg hB02
 go_wp2_with fail
 refine (hA.out _).mono ?_
 rintro e w4 ⟨rfl,hB4⟩
 replace hB4:=Lib.hid hB4
 clear hA
 go_wp2_with fail
 refine (hE.out _ hB4.out).mono ?_
 rintro e w' ⟨rfl,rfl⟩
 clear hE
 go_wp2_with fail
 refine (hNw.out _ hB4.out).mono ?_
 rintro e w5 ⟨rfl,hB5⟩
 have hBx:=Lib.hid (hB3.out.trans ((hB4.out.trans (hB5.mono hB4.out.size)).mono hB3.out.size))
 clear hB5 hB4 hNw
 go_wp2_with fail
 go_ret
 exact ⟨rfl,hBx.out⟩
end Go.Proofs.YtpobbnllcoabhaaGreat.LawFo
namespace Go.Proofs.YtpobbnllcoabhaaGreat.Lo
open Go Go.RowKit Hp K Fl Rw
def heldTo (hs:List Int) (n:Int) (k:Nat):List Nat:=(List.range k).filter fun i=>decide (0≤n∧hol hs i=n)
def int1 (x:Nat):List Value:=[.int .i64 (x:Int)]
abbrev Ints (w:World) (A:Option Addr) (cap:Nat) (xs:List Nat):Prop:=Row w 3 1 int1 A cap xs
theorem heldTo_yes {hs:List Int} {n:Int} {k:Nat} (h:0≤n∧hol hs k=n):heldTo hs n (k+1)=heldTo hs n k++[k]:=by
 unfold heldTo
 rw [List.range_succ,List.filter_append]
 simp only [h,and_self,decide_true,List.filter_cons_of_pos,List.filter_nil]
theorem heldTo_no {hs:List Int} {n:Int} {k:Nat} (h:¬(0≤n∧hol hs k=n)):heldTo hs n (k+1)=heldTo hs n k:=by
 unfold heldTo
 rw [List.range_succ,List.filter_append]
 rw [List.filter_cons_of_neg (by simpa using h)]
 simp
theorem heldTo_le (hs:List Int) (n:Int) (k:Nat):(heldTo hs n k).length≤k:=by
 unfold heldTo
 exact Nat.le_trans (List.length_filter_le _ _) (by simp)
def HeldInv (W w:World) (g b:Nat) (hs:List Int) (n:Int) (v:Value) (k:Nat):Prop:=
 Below W.heap.size W w∧LocksAt w g b hs∧∃ A cap,v=.slice A (heldTo hs n k).length cap∧Ints w A cap (heldTo hs n k)∧∀ x,In A x→W.heap.size≤x
theorem held_any {W:World} {g b:Nat} {hs:List Int} (h:LocksAt W g b hs) (n:Int):
 Calls Tryz.prog 44 #[.pointer (some ⟨g,0,none⟩),.int .i64 n] W fun e w'=>
  ∃ A cap,e=.returned (.slice A (heldTo hs n hs.length).length cap)∧Ints w' A cap (heldTo hs n hs.length)∧(∀ x,In A x→W.heap.size≤x)∧Below W.heap.size W w':=by
 have hc:W.cell? ⟨g,0,none⟩=some (.slice (some ⟨b,0,none⟩) hs.length hs.length):=h.1.cell 0
 have hl:=h.2.2.2
 have hI:=Lib.hid (show HeldInv W W g b hs n (.slice none 0 0) 0 from ⟨Below.refl _ _,h,none,0,rfl,Row.nil _ _ _ _,by simp [In]⟩)
 obtain ⟨i0,hi0,hz0,hz1,hz2⟩:=info_parts info_int
 clear h
 go_enter Tryz.func44,Tryz.ntmps44
 go_wp2_with fail
 go_loopw [5,12] (fun v i wr=>∃ k:Nat,k≤hs.length∧i=.int .i64 k∧HeldInv W wr g b hs n v k) (fun _ i _=>hs.length-(intOf i).toNat)
 case atStart=>exact ⟨0,Nat.zero_le _,rfl,hI.out⟩
 case round=>
  rename_i v i wr
  obtain ⟨k,hk,rfl,hB,hL,A,cap,rfl,hR,hA⟩:=hrel
  by_cases hlt:k<hs.length
  · have c0:=at0 hL k hlt
    have c1:=at1 hL k hlt
    have hc:wr.cell? ⟨g,0,none⟩=some (.slice (some ⟨b,0,none⟩) hs.length hs.length):=hL.1.cell 0
    have hs':=Lib.hid (held_says (hol hs k) n)
    have hkl:=heldTo_le hs n k
    replace hL:=Lib.hid hL
    replace hR:=Lib.hid hR
    replace hA:=Lib.hid hA
    replace hB:=Lib.hid hB
    have hlen:=Lib.hid (rfl:(heldTo hs n k).length=(heldTo hs n k).length)
    generalize decide (0≤hol hs k)=p at*
    generalize (if 0≤hol hs k then hol hs k else 0)=q at*
    generalize hm:(heldTo hs n k).length=m at*
    replace hm:=Lib.hid hm
    by_cases hh:0≤n∧hol hs k=n
    · have hd:=Lib.hid (show decide (0≤n∧hol hs k=n)=true from decide_eq_true hh)
      replace hh:=Lib.hid hh
      go_wp2_with (first
       | (go_at_call 72; refine (held_by _ _ _ _).mono ?_; rintro e w1 ⟨rfl,hb1⟩; rw [hs'.out,hd.out]
          have hR1:=hR.out.only (Only.ofBelow hb1 (fun _=>False)) (by simp)
          replace hb1:=Lib.hid hb1)
       | (at_builtin
          refine wpList_append_one w1 rfl (.tmp 24) (.tmp 26) 65 rfl 3 i0 (.int .i64 0) 1 8 Tryz.underlying65 hi0 hz0 hz1 hz2 rfl (by omega) int1 (fun _=>rfl) (by intro x u hu; simp [int1] at hu; subst hu; rfl)
           A cap m (heldTo hs n k) hm.out k #[.int .i64 k] rfl rfl hR1 rfl (by simp only [maxLen]; omega) (by omega) ?_
          intro A1 cap1 w2 hR2 hO2 hA2))
      go_roundw
      case rel=>
       have hO:=(Only.ofBelow hb1.out (In A)).trans hO2
       refine ⟨k+1,by omega,by go_num,hB.out.trans (hO.toBelow hB.out.size (fun x hx hi=>by have:=hA.out x hi; omega)),hL.out.only hO ?_,A1,cap1,?_,?_,fun x hi=>?_⟩
       · rintro x (rfl | rfl)
         · exact hR.out.differ hL.out.1 (by decide)
         · exact hR.out.differ hL.out.2.1 (by decide)
       · rw [heldTo_yes hh.out,List.length_append,hm.out]
         rfl
       · rw [heldTo_yes hh.out]
         exact hR2
       · rcases hA2 x hi with q | q
         · exact hA.out x q
         · have h1:=hb1.out.size
           have h2:=hB.out.size
           omega
      case measure=>simp [intOf]; omega
    · have hd:=Lib.hid (show decide (0≤n∧hol hs k=n)=false from decide_eq_false hh)
      replace hh:=Lib.hid hh
      go_wp2_with (first
       | (go_at_call 72; refine (held_by _ _ _ _).mono ?_; rintro e w1 ⟨rfl,hb1⟩; rw [hs'.out,hd.out]; replace hb1:=Lib.hid hb1))
      go_roundw
      case rel=>
       have hO:=Only.ofBelow hb1.out (fun _=>False)
       refine ⟨k+1,by omega,by go_num,hB.out.trans (hb1.out.mono hB.out.size),hL.out.only hO (by simp),A,cap,?_,?_,hA.out⟩
       · rw [heldTo_no hh.out,hm.out]
       · rw [heldTo_no hh.out]
         exact hR.out.only hO (by simp)
      case measure=>simp [intOf]; omega
  · obtain rfl:k=hs.length:=by omega
    replace hL:=Lib.hid hL
    replace hR:=Lib.hid hR
    replace hA:=Lib.hid hA
    replace hB:=Lib.hid hB
    go_wp2_with fail
    go_ret
    exact ⟨A,cap,rfl,hR.out,hA.out,hB.out⟩
end Go.Proofs.YtpobbnllcoabhaaGreat.Lo
namespace Go.Proofs.YtpobbnllcoabhaaGreat.LawFn
open Go Go.RowKit Hp K Fl Rw Hm Ar Mm Me LK Qs Wk Re LawSix Pn Pc Mq Pu LawTen LawEl LawTw Dl Zr
set_option maxRecDepth 100000
theorem num_made {w w1:World} {n k:Nat} {M:Mo} (h:MadeP w n k M w1) (hk:k≤6):Num1 (lm M) 0:=by
 obtain ⟨hM,hlo,hB,h1,h2,h3,h4,h5,h6,h7⟩:=h
 refine ⟨?_,?_,?_,?_⟩
 · show M.xs.length≤_; rw [h1]; simp; omega
 · show M.ds.length≤_; rw [h6]; simp
 · show 1≤Cl.nth M.xs 0; rw [h1]; exact Int.le_refl _
 · show Cl.nth M.xs 0≤_; rw [h1]; exact Int.le_refl _
theorem s11_made {w w1:World} {n k:Nat} {M:Mo} (h:MadeP w n k M w1):S11 w w1 M none 0 []:=by
 obtain ⟨hM,hlo,hB,_⟩:=h
 exact ⟨hM,Row.nil _ _ _ _,hB,hlo,by simp [In]⟩
theorem held_none {hs:List Int} (h:hs=List.replicate 6 (-1)) (i:Nat):(Lo.heldTo hs (i:Int) hs.length).length=0:=by
 subst h
 rw [List.length_eq_zero_iff]
 unfold Lo.heldTo
 rw [List.filter_eq_nil_iff]
 intro j _
 simp only [decide_eq_true_eq]
 intro q
 have h2:=q.2
 unfold Lo.hol at h2
 rw [List.getD_eq_getElem?_getD,List.getElem?_replicate] at h2
 split at h2<;>simp at h2<;>omega
section
variable {W0 w wx:World} {M:Mo} {n B G:Nat} {cs:Nat→List Mq.Hp} {l:List Pr}
theorem now_s (h:S11 W0 w M none 0 []) (hm:Mp (lm M) n B cs l G) (hb:Below w.heap.size w wx):Calls Tryz.prog 32 #[ptr M.m] wx fun e w'=>e=.returned (.agg #[.int .i64 n,.int .i64 B])∧Below wx.heap.size wx w':=by
 have hkB:2+M.k≤B:=hm.kB
 have hk:1≤M.k∧M.k≤8:=hm.k
 have hxl:B+n≤M.xs.length:=hm.xl
 have hnw:Me.now M.xs M.ds=(n,B):=hm.now
 have:=now_any (h.mem.below hb) (by omega)
 rw [hnw] at this
 exact this
theorem held_s (h:S11 W0 w M none 0 []) (hm:Mp (lm M) n B cs l G) (hb:Below w.heap.size w wx):wx.cell? ⟨M.m,1,none⟩=some (ptr M.lg)∧∀ i:Nat,Calls Tryz.prog 44 #[ptr M.lg,.int .i64 i] wx fun e w'=>∃ A cap,e=.returned (.slice A (0:Nat) cap)∧Below wx.heap.size wx w':=by
 have hM:=h.mem.below hb
 have hhs:M.hs=List.replicate 6 (-1):=hm.hs
 refine ⟨hM.hd.2.1,fun i=>(Lo.held_any hM.2.2.1 (i:Int)).mono fun e w' q=>?_⟩
 obtain ⟨A,cap,q1,_,_,q4⟩:=q
 rw [held_none hhs i] at q1
 exact ⟨A,cap,q1,q4⟩
end
theorem up8:∃ c x t a,Ways ([]:List Pr).length 8 1 c x t a∧c≤100∧x≤512∧t≤8∧a≤30*256:=by
 obtain ⟨c,x,hu⟩:=up_to 0 3 (by omega) 3 0 (by omega)
 obtain ⟨e1,e2,e3⟩:=hu.eqs
 exact ⟨c,x,3,0,.inl hu,by omega,by omega,by omega,by omega⟩
set_option maxHeartbeats 2000000 in
theorem awake (w:World):Calls Tryz.prog 18 #[] w fun e w'=>e=.returned (.bool true)∧Below w.heap.size w w':=by
 have hN:=Lib.hid (made_yes 1 1 w (by omega) (by omega))
 have hA2:=Lib.hid (fun w=>LawTw.awake w)
 have hA3:=Lib.hid (fun w=>LawTh.awake w)
 have hA4:=Lib.hid (fun w=>LawFo.awake w)
 have hNg:=Lib.hid (fun z w=>new_resize 0 z w)
 go_enter Tryz.func18,Tryz.ntmps18
 go_wp2_with fail
 refine hN.out.mono ?_
 rintro e w1 ⟨M,rfl,hMd⟩
 have hmp:=mp_made hMd (by omega) (by omega)
 have hnum:=num_made hMd (by omega)
 have hS:=s11_made hMd
 replace hmp:=Lib.hid hmp
 replace hnum:=Lib.hid hnum
 replace hS:=Lib.hid hS
 clear hN hMd
 go_wp2_with fail
 refine (hNg.out 8 _).mono ?_
 rintro e w2 ⟨a,rfl,hR2,hl2,hB2⟩
 have hS2:=Lib.hid (hS.out.down hB2)
 have hl2':=Lib.hid (fun x hx=>Nat.le_trans hS.out.below.size (hl2 x hx))
 replace hR2:=Lib.hid hR2
 clear hl2 hB2 hS
 go_wp2_with fail
 refine (hNg.out 3 _).mono ?_
 rintro e w3 ⟨b,rfl,hR3,hl3,hB3⟩
 have hS3:=hS2.out.down hB3
 have hRa:=rz_only hR2.out (Only.ofBelow hB3 (fun _=>False)) (by simp)
 have hlb:=Lib.hid (fun x hx=>Nat.le_trans hS2.out.below.size (hl3 x hx))
 have hab:=Lib.hid (fun x (hx:rzL.foot b (newRz 0 3) x)=>show ¬(mfoot M x∨rzL.foot a (newRz 0 8) x) from fun q=>by
  rcases q with q | q
  · exact rz_far hR3 hS3.mem hx q
  · have:=rz_lt hR2.out q
    have:=hl3 x hx
    omega)
 obtain ⟨c,x,t,ca,hwy,hc,hx,ht,hca⟩:=up8
 have hFn:=resize_w hS3 hmp.out (by omega) (by simp) hnum.out (by omega) (s:=8) (by decide) hwy (by omega) hx ht hca 500 ⟨by omega,by omega⟩ (i:=0) (by omega) hRa hl2'.out
 have hla:=Lib.hid (fun x hx=>rz_lt (a:=a) (R:=newRz 0 8) (x:=x) hR2.out hx)
 have hlb3:=Lib.hid hl3
 replace hR3:=Lib.hid hR3
 replace hFn:=Lib.hid hFn
 clear hNg hl3 hB3 hS3 hRa hS2 hR2 hl2' hwy hmp hnum
 go_wp2_with fail
 refine hFn.out.mono ?_
 rintro e w4 ⟨k,rfl,M4,a4,R4,B4,cs4,hS4,em4,hRa4,ea4,he4,hmp4,hsl4,hk4,hws4,hnum4, -,hO4,hf4⟩
 have hRb:=rz_only hR3.out hO4 hab.out
 have hF2:=refuse_s hS4 hmp4 (z:=3) (by decide) hRb hlb.out 500 ⟨by omega,by omega⟩
 rw [em4] at hF2
 have hF3:Hid (Calls Tryz.prog 21 #[ptr M.m,.iface 94 (ptr (rzL.f b)),.int .i64 500] w4 fun e w'=>e=.returned (.tuple #[.int .i64 1,.bool true])∧Below w.heap.size w w'∧(∀ wx,Below w'.heap.size w' wx→Calls Tryz.prog 43 #[ptr (rzL.f a)] wx fun e w''=>e=.returned (.int .i64 0)∧w''=wx)∧(∀ wx,Below w'.heap.size w' wx→Calls Tryz.prog 43 #[ptr (rzL.f b)] wx fun e w''=>e=.returned (.int .i64 5)∧w''=wx)∧(∀ wx,Below w'.heap.size w' wx→Calls Tryz.prog 32 #[ptr M.m] wx fun e w''=>e=.returned (.agg #[.int .i64 8,.int .i64 B4])∧Below wx.heap.size wx w'')∧∃ lk,∀ wx,Below w'.heap.size w' wx→wx.cell? ⟨M.m,1,none⟩=some (ptr lk)∧Calls Tryz.prog 44 #[ptr lk,.int .i64 0] wx fun e w''=>∃ A cap,e=.returned (.slice A 0 cap)∧Below wx.heap.size wx w''):=Lib.hid (hF2.mono fun e w' q=>by
  obtain ⟨q1,M5,a5,R5,hS5,em5,hRb5,eb5,he5,hl5,hO5⟩:=q
  have hRa5:=rz_only hRa4 hO5 (fun x hx q=>by
   rcases q with q | q
   · exact rz_far hRa4 hS4.mem hx q
   · have h1:=rz_lt hR3.out q
     have h2:=hlb3.out x q
     rcases hf4 x hx with q | q
     · have h3:=hla.out x q; omega
     · omega)
  have hmp5:Mp (lm M5) 8 B4 cs4 [] 0:=by rw [hl5]; exact hmp4
  refine ⟨q1,hS5.below,fun wx hb=>?_,fun wx hb=>?_,fun wx hb=>?_,M5.lg,fun wx hb=>?_⟩
  · have:=rz_err (rz_frm.below hRa5 hb)
    rw [ea4,he4] at this
    exact this
  · have:=rz_err (rz_frm.below hRb5 hb)
    rw [eb5,he5] at this
    exact this
  · have:=now_s hS5 hmp5 hb
    rw [em5,em4] at this
    exact this
  · have:=held_s hS5 hmp5 hb
    rw [em5,em4] at this
    exact ⟨this.1,this.2 0⟩)
 have hB04:=Lib.hid hS4.below
 clear hF2 hRb hFn hS4 em4 hRa4 ea4 he4 hmp4 hsl4 hk4 hws4 hnum4 hO4 hf4 hR3 hlb hab hla hlb3
 go_wp2_with fail
 refine hF3.out.mono ?_
 rintro e w5 ⟨rfl,hB5,hEa,hEb,hNw,lk,hHd⟩
 replace hB5:=Lib.hid hB5
 replace hEa:=Lib.hid hEa
 replace hEb:=Lib.hid hEb
 replace hNw:=Lib.hid hNw
 replace hHd:=Lib.hid hHd
 have hfd:∀ w,(Instr.field 82 (.agg #[.int .i64 8,.int .i64 B4]) 0).run Tryz.prog w=.ok (.int .i64 8) w:=fun w=>rfl
 clear hF3 hB04
 go_wp2_with fail
 refine (hA2.out _).mono ?_
 rintro e w6 ⟨rfl,hb6⟩
 have hB6:=Lib.hid hb6
 clear hb6 hA2
 go_wp2_with fail
 refine (hA3.out _).mono ?_
 rintro e w7 ⟨rfl,hb7⟩
 have hB7:=Lib.hid (hB6.out.trans (hb7.mono hB6.out.size))
 clear hb7 hB6 hA3
 go_wp2_with fail
 refine (hA4.out _).mono ?_
 rintro e w8 ⟨rfl,hb8⟩
 have hB8:=Lib.hid (hB7.out.trans (hb8.mono hB7.out.size))
 clear hb8 hB7 hA4
 go_wp2_with fail
 refine (hEa.out _ hB8.out).mono ?_
 rintro e w' ⟨rfl,rfl⟩
 clear hEa
 go_wp2_with fail
 refine (hNw.out _ hB8.out).mono ?_
 rintro e w9 ⟨rfl,hb9⟩
 have hB9:=Lib.hid (hB8.out.trans (hb9.mono hB8.out.size))
 have hc9:=(hHd.out _ hB9.out).1
 have hH9:=Lib.hid (hHd.out _ hB9.out).2
 clear hb9 hB8 hNw hHd
 go_wp2_with fail
 refine hH9.out.mono ?_
 rintro e w10 ⟨A,cap,rfl,hb10⟩
 have hB10:=Lib.hid (hB9.out.trans (hb10.mono hB9.out.size))
 clear hb10 hB9 hH9 hc9
 go_wp2_with fail
 refine (hEb.out _ hB10.out).mono ?_
 rintro e w' ⟨rfl,rfl⟩
 have hBx:=Lib.hid (hB5.out.trans (hB10.out.mono hB5.out.size))
 clear hEb hB5 hB10
 go_wp2_with fail
 go_ret
 exact ⟨rfl,hBx.out⟩
end Go.Proofs.YtpobbnllcoabhaaGreat.LawFn
namespace Go.Proofs.YtpobbnllcoabhaaGreat.Ca
open Go Go.RowKit Hp K Fl Rw Hm Ar Mm Me LK Qs Wk Re LawSix Pc Pn Mq Pu Zp Mx LawTh Bs Dl Zr LawTen LawEl LawFn
set_option maxRecDepth 100000
def aK:ByteArray:=⟨#[97]⟩
def aX:ByteArray:=⟨#[120]⟩
theorem chk_a (k:Int) (v:ByteArray) (hk:0≤k∧k≤2) (hv:v.size≤32):chk ⟨k,aK,v,0⟩=0:=by
 unfold chk
 simp only
 rw [if_neg (by omega),if_neg]
 rintro ⟨_,h | h | ⟨_,h⟩⟩
 · exact absurd h (by decide)
 · exact absurd h (by decide)
 · omega
theorem doc_put:docA [] ⟨1,aK,aX,0⟩=(0,false,⟨#[]⟩):=by
 unfold docA
 rw [if_neg (by rw [chk_a 1 aX (by omega) (by decide)]; simp)]
 rfl
theorem doc_get:docA [(aK,aX)] ⟨0,aK,⟨#[]⟩,0⟩=(0,true,aX):=by
 unfold docA
 rw [if_neg (by rw [chk_a 0 ⟨#[]⟩ (by omega) (by decide)]; simp)]
 simp [Pc.lk]
theorem doc_del:docA [(aK,aX)] ⟨2,aK,⟨#[]⟩,0⟩=(0,true,aX):=by
 unfold docA
 rw [if_neg (by rw [chk_a 2 ⟨#[]⟩ (by omega) (by decide)]; simp)]
 simp [Pc.lk]
theorem doc_none:docA [] ⟨0,aK,⟨#[]⟩,0⟩=(0,false,⟨#[]⟩):=by
 unfold docA
 rw [if_neg (by rw [chk_a 0 ⟨#[]⟩ (by omega) (by decide)]; simp)]
 rfl
def Am (W0 w:World) (m:Nat) (l:List Pr) (j:Nat):Prop:=∃ (M:Mo) (n B G:Nat) (cs:Nat→List Mq.Hp),S11 W0 w M none 0 []∧M.m=m∧Mp (lm M) n B cs l G∧G≤j∧M.ss.length=2∧M.k=1∧Num1 (lm M) j∧n≤256
theorem am_down {W0 w w':World} {m j:Nat} {l:List Pr} (h:Am W0 w m l j) (hb:Below w.heap.size w w'):Am W0 w' m l j:=by
 obtain ⟨M,n,B,G,cs,h1,h2⟩:=h
 exact ⟨M,n,B,G,cs,h1.down hb,h2⟩
theorem am_below {W0 w:World} {m j:Nat} {l:List Pr} (h:Am W0 w m l j):Below W0.heap.size W0 w:=by
 obtain ⟨M,n,B,G,cs,h1,h2⟩:=h
 exact h1.below
def Rs (w w':World):Prop:=∀ x cs,Blk w x 43 cs→Blk w' x 43 cs
theorem key_le {c:Ct} (hc:chk c=0) (hk:c.kind≤2):c.key.size≤32:=by
 unfold chk at hc
 split at hc
 · omega
 · split at hc
   · omega
   · omega
theorem am_one {W0 w:World} {m j:Nat} {l l':List Pr} (h:Am W0 w m l j) (hj:j≤20) (c:Ct) (hc:chk c=0) (hkind:c.kind≤2) (h1':c.kind≠1) (hl:l.length≤1) (hd:DocL l l' c) (hs:c.size=0):
 Calls Tryz.prog 9 #[ptr m,.int .i64 0,ctv c] w fun e w'=>e=.returned (.tuple #[anv (docA l c),.bool true])∧Am W0 w' m l' (j+1)∧Rs w w':=by
 obtain ⟨M,n,B,G,cs,h1,h2,h3,h4,h5,h6,h7,h8⟩:=h
 have hk:=key_le hc hkind
 have:=one_any (c:=c) (i:=0) (t:=j) h1 h3 (by omega) (by omega) h7 (by omega) h8 (.inl (by omega)) (by rw [h6]; omega) (by unfold maxLen; omega)
 rw [h2] at this
 refine this.mono fun e w' q=>?_
 obtain ⟨x,q1,⟨M',n',B',G',cs',s1,s2,s3,s4,s5,s6,s7,s8⟩,hO⟩:=q
 have hR:Rs w w':=fun y ys hb=>hb.only hO (fun g=>(h1.mem.ty g).apart (blk_ty hb) (by decide))
 rcases s8 with ⟨r1,r2,r3,_⟩ | ⟨_,r2,r3⟩
 · exact absurd r2 h1'
 · exact ⟨by rw [q1,r2],⟨M',n',B',G',cs',s1,s2.trans h2,r3 l' hd,by omega,s3.trans h5,s4.trans h6,s5,s6⟩,hR⟩
theorem am_put {W0 w:World} {M:Mo} (h:MadeP W0 2 1 M w):
 Calls Tryz.prog 9 #[ptr M.m,.int .i64 0,ctv ⟨1,aK,aX,0⟩] w fun e w'=>e=.returned (.tuple #[anv (0,false,⟨#[]⟩),.bool true])∧Am W0 w' M.m [(aK,aX)] 1∧Rs w w':=by
 have hmp:=mp_made h (by omega) (by omega)
 have hnum:=num_made h (by omega)
 have hS:=s11_made h
 obtain ⟨_,_,_,g1,g2,g3,g4,g5,g6,g7⟩:=h
 have hss:M.ss.length=2:=by rw [g2]; simp
 have:=one_any (c:=⟨1,aK,aX,0⟩) (i:=0) (t:=0) hS hmp (by omega) (by simp) hnum (by omega) (by omega) (.inl (by simp)) (by rw [g5]; simp) (by unfold maxLen; decide)
 refine this.mono fun e w' q=>?_
 obtain ⟨x,q1,⟨M',n',B',G',cs',s1,s2,s3,s4,s5,s6,s7,s8⟩,hO⟩:=q
 have hR:Rs w w':=fun y ys hb=>hb.only hO (fun g=>(hS.mem.ty g).apart (blk_ty hb) (by decide))
 have hc:=chk_a 1 aX (by omega) (by decide)
 rcases s8 with ⟨r1,r2,r3,_⟩ | ⟨_,r2,r3⟩
 · exfalso
   have h1:=(freePl_frees M.ss).1 r3
   have h2:(frees M.ss M.ss.length).length+M.ws.length+([]:List Pr).length=M.ss.length:=(Mp.ql2 hmp).2
   rw [g7,hss] at h2
   rw [hss] at h1
   simp at h2
   omega
 · have hd:DocL [] [(aK,aX)] ⟨1,aK,aX,0⟩:=by
    unfold DocL
    rw [if_pos ⟨hc,rfl⟩]
    exact List.Perm.refl _
   exact ⟨by rw [q1,r2,doc_put],⟨M',n',B',G',cs',s1,s2,r3 _ hd,by omega,s3.trans hss,s4.trans g5,s5,s6⟩,hR⟩
set_option maxHeartbeats 4000000 in
theorem awake (w:World):Calls Tryz.prog 4 #[] w fun e w'=>e=.returned (.bool true)∧Below w.heap.size w w':=by
 have hN:=Lib.hid (made_yes 2 1 w (by omega) (by omega))
 have hA:=Lib.hid (fun w=>LawFn.awake w)
 have c1:=chk_a 0 ⟨#[]⟩ (by omega) (by decide)
 have c2:=chk_a 2 ⟨#[]⟩ (by omega) (by decide)
 have d1:DocL [(aK,aX)] [(aK,aX)] ⟨0,aK,⟨#[]⟩,0⟩:=by unfold DocL; rw [if_neg (by simp),if_neg (by simp)]
 have d2:DocL [(aK,aX)] [] ⟨2,aK,⟨#[]⟩,0⟩:=by unfold DocL; rw [if_neg (by simp),if_pos ⟨c2,rfl⟩]; simp
 have d3:DocL [] [] ⟨0,aK,⟨#[]⟩,0⟩:=by unfold DocL; rw [if_neg (by simp),if_neg (by simp)]
 have h1:=Lib.hid (fun w1 M (h:MadeP w 2 1 M w1)=>am_put h)
 have h2:=Lib.hid (fun w1 m (h:Am w w1 m [(aK,aX)] 1)=>am_one h (by omega) ⟨0,aK,⟨#[]⟩,0⟩ c1 (by simp) (by simp) (by simp) d1 rfl)
 have h3:=Lib.hid (fun w1 m (h:Am w w1 m [(aK,aX)] 2)=>am_one h (by omega) ⟨2,aK,⟨#[]⟩,0⟩ c2 (by simp) (by simp) (by simp) d2 rfl)
 have h4:=Lib.hid (fun w1 m (h:Am w w1 m [] 3)=>am_one h (by omega) ⟨0,aK,⟨#[]⟩,0⟩ c1 (by simp) (by simp) (by simp) d3 rfl)
 rw [doc_get] at h2
 rw [doc_del] at h3
 rw [doc_none] at h4
 simp only [ctv,anv,aK,aX] at h1 h2 h3 h4
 clear c1 c2 d1 d2 d3
 go_enter Tryz.func4,Tryz.ntmps4
 go_wp2_with fail
 refine hN.out.mono ?_
 rintro e w1 ⟨M,rfl,hM⟩
 have g1:=h1.out w1 M hM
 clear hN h1 hM
 replace g1:=Lib.hid g1
 go_wp2_with fail
 refine g1.out.mono ?_
 rintro e w2 ⟨rfl,hA2, -⟩
 go_wp2_with fail
 obtain ⟨v1,hv1⟩:∃ v,v=w2.alloc (.cells #[.int .i64 0,.bool false,.string ⟨#[]⟩] 43):=⟨_,rfl⟩
 have b1:Blk v1 w2.heap.size 43 #[.int .i64 0,.bool false,.string ⟨#[]⟩]:=by rw [hv1]; exact Blk.made w2 _ _
 have l1:Below w2.heap.size w2 v1:=by rw [hv1]; exact below_1 _ _
 have A1:=am_down hA2 l1
 rw [← hv1]
 clear hv1 hA2
 obtain ⟨x1,hx1⟩:∃ x,x=w2.heap.size:=⟨_,rfl⟩
 rw [← hx1] at b1 ⊢
 clear l1 hx1
 have r1:=Lib.hid (h2.out v1 M.m A1)
 clear h2 A1
 refine r1.out.mono ?_
 rintro e w3 ⟨rfl,hA3,hR3⟩
 replace b1:=hR3 _ _ b1
 clear r1 hR3
 go_wp2_with fail
 obtain ⟨v2,hv2⟩:∃ v,v=w3.alloc (.cells #[.int .i64 0,.bool true,.string ⟨#[120]⟩] 43):=⟨_,rfl⟩
 have b2:Blk v2 w3.heap.size 43 #[.int .i64 0,.bool true,.string ⟨#[120]⟩]:=by rw [hv2]; exact Blk.made w3 _ _
 have l2:Below w3.heap.size w3 v2:=by rw [hv2]; exact below_1 _ _
 have A2:=am_down hA3 l2
 rw [← hv2]
 clear hv2 hA3
 obtain ⟨x2,hx2⟩:∃ x,x=w3.heap.size:=⟨_,rfl⟩
 rw [← hx2] at b2 ⊢
 replace b1:=b1.only (Only.ofBelow l2 (fun _=>False)) (by simp)
 clear l2 hx2
 have r2:=Lib.hid (h3.out v2 M.m A2)
 clear h3 A2
 refine r2.out.mono ?_
 rintro e w4 ⟨rfl,hA4,hR4⟩
 replace b1:=hR4 _ _ b1
 replace b2:=hR4 _ _ b2
 clear r2 hR4
 go_wp2_with fail
 obtain ⟨v3,hv3⟩:∃ v,v=w4.alloc (.cells #[.int .i64 0,.bool true,.string ⟨#[120]⟩] 43):=⟨_,rfl⟩
 have b3:Blk v3 w4.heap.size 43 #[.int .i64 0,.bool true,.string ⟨#[120]⟩]:=by rw [hv3]; exact Blk.made w4 _ _
 have l3:Below w4.heap.size w4 v3:=by rw [hv3]; exact below_1 _ _
 have A3:=am_down hA4 l3
 rw [← hv3]
 clear hv3 hA4
 obtain ⟨x3,hx3⟩:∃ x,x=w4.heap.size:=⟨_,rfl⟩
 rw [← hx3] at b3 ⊢
 replace b1:=b1.only (Only.ofBelow l3 (fun _=>False)) (by simp)
 replace b2:=b2.only (Only.ofBelow l3 (fun _=>False)) (by simp)
 clear l3 hx3
 have r3:=Lib.hid (h4.out v3 M.m A3)
 clear h4 A3
 refine r3.out.mono ?_
 rintro e w5 ⟨rfl,hA5,hR5⟩
 replace b1:=hR5 _ _ b1
 replace b2:=hR5 _ _ b2
 replace b3:=hR5 _ _ b3
 clear r3 hR5
 go_wp2_with fail
 obtain ⟨v4,hv4⟩:∃ v,v=w5.alloc (.cells #[.int .i64 0,.bool false,.string ⟨#[]⟩] 43):=⟨_,rfl⟩
 have b4:Blk v4 w5.heap.size 43 #[.int .i64 0,.bool false,.string ⟨#[]⟩]:=by rw [hv4]; exact Blk.made w5 _ _
 have l4:Below w5.heap.size w5 v4:=by rw [hv4]; exact below_1 _ _
 have A4:=am_down hA5 l4
 rw [← hv4]
 clear hv4 hA5
 obtain ⟨x4,hx4⟩:∃ x,x=w5.heap.size:=⟨_,rfl⟩
 rw [← hx4] at b4 ⊢
 replace b1:=b1.only (Only.ofBelow l4 (fun _=>False)) (by simp)
 replace b2:=b2.only (Only.ofBelow l4 (fun _=>False)) (by simp)
 replace b3:=b3.only (Only.ofBelow l4 (fun _=>False)) (by simp)
 clear l4 hx4
 have hBb:=Lib.hid (am_below A4)
 clear A4
 refine (hA.out _).mono ?_
 rintro e w9 ⟨rfl,hB9⟩
 replace b1:=b1.only (Only.ofBelow hB9 (fun _=>False)) (by simp)
 replace b2:=b2.only (Only.ofBelow hB9 (fun _=>False)) (by simp)
 replace b3:=b3.only (Only.ofBelow hB9 (fun _=>False)) (by simp)
 replace b4:=b4.only (Only.ofBelow hB9 (fun _=>False)) (by simp)
 have hBx:=Lib.hid (hBb.out.trans (hB9.mono hBb.out.size))
 have f10:=b1.cell 0
 have f11:=b1.cell 1
 have f12:=b1.cell 2
 have q1:=b1.lt
 have f20:=b2.cell 0
 have f21:=b2.cell 1
 have f22:=b2.cell 2
 have q2:=b2.lt
 have f30:=b3.cell 0
 have f31:=b3.cell 1
 have f32:=b3.cell 2
 have q3:=b3.lt
 have f40:=b4.cell 0
 have f41:=b4.cell 1
 have f42:=b4.cell 2
 have q4:=b4.lt
 simp at f10 f11 f12 f20 f21 f22 f30 f31 f32 f40 f41 f42
 clear b1 b2 b3 b4 hB9 hBb hA
 go_wp2_with fail
 go_ret
 exact ⟨rfl,hBx.out⟩
end Go.Proofs.YtpobbnllcoabhaaGreat.Ca
