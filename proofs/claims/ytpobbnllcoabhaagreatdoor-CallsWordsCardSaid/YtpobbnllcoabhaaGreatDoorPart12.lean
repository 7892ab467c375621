/- Walks and plain mathematics, put together in their order: FoA, LocksHeld, FnC, AwC, ClT, Wds, Tbl. -/
import Derived.Test.YtpobbnllcoabhaaGreatDoorPart11
import Derived.Test.YtpobbnllcoabhaaGreatDoorLocksWalk
import Derived.Test.YtpobbnllcoabhaaGreatDoorRowKit
import Derived.OpenShut
import Derived.LaidMore
import Derived.Lay
import Derived.ProofKit
import Derived.Stop.Joined
set_option linter.unusedVariables false
set_option linter.unusedSimpArgs false
namespace Go.Proofs.YtpobbnllcoabhaaGreatDoor.LawFo
open Go Go.RowKit Hp K Fl Rw Hm Ar Mm Me LK Qs Wk Pc Pn Mx Sw LawSix
set_option maxRecDepth 100000
abbrev L0:Lm:=⟨[1,0,0,0],[-1, -1, -1, -1, -1, -1],[.zero],false,1,[(1,3)],[]⟩
abbrev s1:Sh:=⟨0,2,0,(1,3),(0,0),0,0,0,0,0,0,[],⟨0,0,0,0⟩⟩
abbrev s2:Sh:=⟨0,10,5,(1,3),(0,0), -1,0,0,0,0,0,[],⟨0,0,0,0⟩⟩
theorem st0:sstep L0 (newShr 0)=(L0,s1):=by kernel_rfl
theorem st1:sstep L0 s1=(L0,s2):=by kernel_rfl
theorem okA:Oksh L0 (newShr 0)∧sready L0 (newShr 0)=true∧sdone L0 (newShr 0)=false:=
 ⟨⟨by decide,by decide,by decide,by decide,by decide,by decide,by decide,by decide,by decide,by decide,fun q=>absurd q (by decide),fun q=>absurd q (by decide),by decide,by decide,fun q=>absurd q (by decide)⟩,by kernel_rfl,by kernel_rfl⟩
theorem okB:Oksh L0 s1∧sready L0 s1=true∧sdone L0 s1=true:=
 ⟨⟨by decide,by decide,by decide,by decide,by decide,by decide,by decide,by decide,by decide,by decide,fun q=>absurd q (by decide),fun q=>absurd q (by decide),by decide,by decide,fun q=>absurd q (by decide)⟩,by kernel_rfl,by kernel_rfl⟩
theorem low_shr {W0 a b:World} {M:Mo} {g:Sc} {G:Sh} (ha:Below W0.heap.size W0 a) (hlo:∀ x,mfoot M x→W0.heap.size≤x) (hg:∀ x,sfoot g G x→W0.heap.size≤x) (ho:Only (fun x=>mfoot M x∨sfoot g G x) a b):Below W0.heap.size W0 b:=
 ha.trans (ho.toBelow ha.size (fun x hx q=>by
  rcases q with q | q
  · have:=hlo x q; omega
  · have:=hg x q; omega))
set_option maxHeartbeats 2000000 in
theorem awake (w:World):Calls Tryz.prog 27 #[] w fun e w'=>e=.returned (.bool true)∧Below w.heap.size w w':=by
 have hN:=Lib.hid (made_yes 1 1 w (by omega) (by omega))
 have hA:=Lib.hid (fun w=>LawTh.awake w)
 have hNg:=Lib.hid (fun w=>new_shrink 0 w)
 go_enter Tryz.func27,Tryz.ntmps27
 go_wp2_with fail
 refine hN.out.mono ?_
 rintro e w1 ⟨M,rfl,hM,hlo,hB,h1,h2,h3,h4,h5,h6,h7⟩
 have hL:lm M=L0:=by
  unfold lm L0
  rw [h1,h2,h3,h4,h5,h6,h7]
  rfl
 replace hL:=Lib.hid hL
 replace hM:=Lib.hid hM
 replace hlo:=Lib.hid hlo
 replace hB:=Lib.hid hB
 clear hN h1 h2 h3 h4 h5 h6 h7
 go_wp2_with fail
 refine (hNg.out _).mono ?_
 rintro e w2 ⟨a,rfl,hG2,hlow2,hB2⟩
 have hM2:=hM.out.below hB2
 have hB02:=Lib.hid (hB.out.trans (hB2.mono hB.out.size))
 have hlg:=Lib.hid (fun x hx=>Nat.le_trans hB.out.size (hlow2 x hx))
 have hFn:=finish_frm shr_frm hM2 (show shL.At w2 a (newShr 0) from hG2) (fun k s=>(k=2∧s=(L0,newShr 0))∨(k=1∧s=(L0,s1))) (fun s=>s=(L0,s2)) (fun k s hs=>by
  rcases hs with ⟨rfl,rfl⟩ | ⟨rfl,rfl⟩
  · obtain ⟨a1,a2,a3⟩:=okA
    exact ⟨a1,a2,by omega,fun hd=>by rw [a3] at hd; simp at hd,fun _=>.inr ⟨rfl,st0⟩⟩
  · obtain ⟨a1,a2,a3⟩:=okB
    exact ⟨a1,a2,by omega,fun _=>st1,fun hd=>by rw [a3] at hd; simp at hd⟩) 2 100 (.inl ⟨rfl,by rw [hL.out]⟩) (by omega) (by omega)
 have hF2:Hid (Calls Tryz.prog 9 #[ptr M.m,.iface 115 (ptr a.f),.int .i64 100] w2 fun e w'=>∃ (n:Nat) (M':Mo) (a':Sc),e=.returned (.tuple #[.int .i64 n,.bool true])∧MemAt w' M'∧lm M'=L0∧M'.m=M.m∧ShAt w' a' s2∧a'.f=a.f∧Below w.heap.size w w'):=Lib.hid (hFn.mono fun e w' q=>by
  obtain ⟨n,s,q1,_,q2,M',a',r1,r2,r3,r4,r5,r6,r7⟩:=q
  rw [q2] at r2 r4
  exact ⟨n,M',a',q1,r1,r2,r3.m,r4,r5,low_shr hB02.out hlo.out hlg.out r7⟩)
 clear hFn hNg hG2 hlow2 hB2 hM2 hM hB hL
 go_wp2_with fail
 refine hF2.out.mono ?_
 rintro e w3 ⟨n,M',a',rfl,hM3,hL3,em,hG3,ea,hB3⟩
 have x3:M'.xs=[1,0,0,0]:=congrArg Lm.xs hL3
 have d3:M'.ds=[(1,3)]:=congrArg Lm.ds hL3
 have hE:=fun wx (hb:Below w3.heap.size w3 wx)=>err_any (hG3.below hb)
 rw [ea] at hE
 have hNw:=fun wx (hb:Below w3.heap.size w3 wx)=>now_any (hM3.below hb) (by rw [x3]; simp)
 have hnw:Me.now M'.xs M'.ds=(1,3):=by rw [x3,d3]; rfl
 have hge:s2.err=5:=rfl
 rw [hnw,em] at hNw
 rw [hge] at hE
 unfold dv at hNw
 have hfd:∀ w,(Instr.field 76 (.agg #[.int .i64 1,.int .i64 3]) 0).run Tryz.prog w=.ok (.int .i64 1) w:=fun w=>rfl
 replace hE:=Lib.hid hE
 replace hNw:=Lib.hid hNw
 replace hB3:=Lib.hid hB3
 clear hF2 hM3 hL3 em hG3 ea x3 d3 hnw hge hlo hlg hB02
 go_wp2_with fail
 refine (hA.out _).mono ?_
 rintro e w4 ⟨rfl,hB4⟩
 replace hB4:=Lib.hid hB4
 clear hA
 go_wp2_with fail
 refine (hE.out _ hB4.out).mono ?_
 rintro e w' ⟨rfl,rfl⟩
 clear hE
 go_wp2_with fail
 refine (hNw.out _ hB4.out).mono ?_
 rintro e w5 ⟨rfl,hB5⟩
 have hBx:=Lib.hid (hB3.out.trans ((hB4.out.trans (hB5.mono hB4.out.size)).mono hB3.out.size))
 clear hB5 hB4 hNw
 go_wp2_with fail
 go_ret
 exact ⟨rfl,hBx.out⟩
end Go.Proofs.YtpobbnllcoabhaaGreatDoor.LawFo
namespace Go.Proofs.YtpobbnllcoabhaaGreatDoor.Lo
open Go Go.RowKit Hp K Fl Rw
def heldTo (hs:List Int) (n:Int) (k:Nat):List Nat:=(List.range k).filter fun i=>decide (0≤n∧hol hs i=n)
def int1 (x:Nat):List Value:=[.int .i64 (x:Int)]
abbrev Ints (w:World) (A:Option Addr) (cap:Nat) (xs:List Nat):Prop:=Row w 3 1 int1 A cap xs
theorem heldTo_yes {hs:List Int} {n:Int} {k:Nat} (h:0≤n∧hol hs k=n):heldTo hs n (k+1)=heldTo hs n k++[k]:=by
 unfold heldTo
 rw [List.range_succ,List.filter_append]
 simp only [h,and_self,decide_true,List.filter_cons_of_pos,List.filter_nil]
theorem heldTo_no {hs:List Int} {n:Int} {k:Nat} (h:¬(0≤n∧hol hs k=n)):heldTo hs n (k+1)=heldTo hs n k:=by
 unfold heldTo
 rw [List.range_succ,List.filter_append]
 rw [List.filter_cons_of_neg (by simpa using h)]
 simp
theorem heldTo_le (hs:List Int) (n:Int) (k:Nat):(heldTo hs n k).length≤k:=by
 unfold heldTo
 exact Nat.le_trans (List.length_filter_le _ _) (by simp)
def HeldInv (W w:World) (g b:Nat) (hs:List Int) (n:Int) (v:Value) (k:Nat):Prop:=
 Below W.heap.size W w∧LocksAt w g b hs∧∃ A cap,v=.slice A (heldTo hs n k).length cap∧Ints w A cap (heldTo hs n k)∧∀ x,In A x→W.heap.size≤x
theorem held_any {W:World} {g b:Nat} {hs:List Int} (h:LocksAt W g b hs) (n:Int):
 Calls Tryz.prog 30 #[.pointer (some ⟨g,0,none⟩),.int .i64 n] W fun e w'=>
  ∃ A cap,e=.returned (.slice A (heldTo hs n hs.length).length cap)∧Ints w' A cap (heldTo hs n hs.length)∧(∀ x,In A x→W.heap.size≤x)∧Below W.heap.size W w':=by
 have hc:W.cell? ⟨g,0,none⟩=some (.slice (some ⟨b,0,none⟩) hs.length hs.length):=h.1.cell 0
 have hl:=h.2.2.2
 have hI:=Lib.hid (show HeldInv W W g b hs n (.slice none 0 0) 0 from ⟨Below.refl _ _,h,none,0,rfl,Row.nil _ _ _ _,by simp [In]⟩)
 obtain ⟨i0,hi0,hz0,hz1,hz2⟩:=info_parts info_int
 clear h
 go_enter Tryz.func30,Tryz.ntmps30
 go_wp2_with fail
 go_loopw [5,12] (fun v i wr=>∃ k:Nat,k≤hs.length∧i=.int .i64 k∧HeldInv W wr g b hs n v k) (fun _ i _=>hs.length-(intOf i).toNat)
 case atStart=>exact ⟨0,Nat.zero_le _,rfl,hI.out⟩
 case round=>
  rename_i v i wr
  obtain ⟨k,hk,rfl,hB,hL,A,cap,rfl,hR,hA⟩:=hrel
  by_cases hlt:k<hs.length
  · have c0:=at0 hL k hlt
    have c1:=at1 hL k hlt
    have hc:wr.cell? ⟨g,0,none⟩=some (.slice (some ⟨b,0,none⟩) hs.length hs.length):=hL.1.cell 0
    have hs':=Lib.hid (held_says (hol hs k) n)
    have hkl:=heldTo_le hs n k
    replace hL:=Lib.hid hL
    replace hR:=Lib.hid hR
    replace hA:=Lib.hid hA
    replace hB:=Lib.hid hB
    have hlen:=Lib.hid (rfl:(heldTo hs n k).length=(heldTo hs n k).length)
    generalize decide (0≤hol hs k)=p at*
    generalize (if 0≤hol hs k then hol hs k else 0)=q at*
    generalize hm:(heldTo hs n k).length=m at*
    replace hm:=Lib.hid hm
    by_cases hh:0≤n∧hol hs k=n
    · have hd:=Lib.hid (show decide (0≤n∧hol hs k=n)=true from decide_eq_true hh)
      replace hh:=Lib.hid hh
      go_wp2_with (first
       | (go_at_call 55; refine (held_by _ _ _ _).mono ?_; rintro e w1 ⟨rfl,hb1⟩; rw [hs'.out,hd.out]
          have hR1:=hR.out.only (Only.ofBelow hb1 (fun _=>False)) (by simp)
          replace hb1:=Lib.hid hb1)
       | (at_builtin
          refine wpList_append_one w1 rfl (.tmp 24) (.tmp 26) 78 rfl 3 i0 (.int .i64 0) 1 8 Tryz.underlying78 hi0 hz0 hz1 hz2 rfl (by omega) int1 (fun _=>rfl) (by intro x u hu; simp [int1] at hu; subst hu; rfl)
           A cap m (heldTo hs n k) hm.out k #[.int .i64 k] rfl rfl hR1 rfl (by simp only [maxLen]; omega) (by omega) ?_
          intro A1 cap1 w2 hR2 hO2 hA2))
      go_roundw
      case rel=>
       have hO:=(Only.ofBelow hb1.out (In A)).trans hO2
       refine ⟨k+1,by omega,by go_num,hB.out.trans (hO.toBelow hB.out.size (fun x hx hi=>by have:=hA.out x hi; omega)),hL.out.only hO ?_,A1,cap1,?_,?_,fun x hi=>?_⟩
       · rintro x (rfl | rfl)
         · exact hR.out.differ hL.out.1 (by decide)
         · exact hR.out.differ hL.out.2.1 (by decide)
       · rw [heldTo_yes hh.out,List.length_append,hm.out]
         rfl
       · rw [heldTo_yes hh.out]
         exact hR2
       · rcases hA2 x hi with q | q
         · exact hA.out x q
         · have h1:=hb1.out.size
           have h2:=hB.out.size
           omega
      case measure=>simp [intOf]; omega
    · have hd:=Lib.hid (show decide (0≤n∧hol hs k=n)=false from decide_eq_false hh)
      replace hh:=Lib.hid hh
      go_wp2_with (first
       | (go_at_call 55; refine (held_by _ _ _ _).mono ?_; rintro e w1 ⟨rfl,hb1⟩; rw [hs'.out,hd.out]; replace hb1:=Lib.hid hb1))
      go_roundw
      case rel=>
       have hO:=Only.ofBelow hb1.out (fun _=>False)
       refine ⟨k+1,by omega,by go_num,hB.out.trans (hb1.out.mono hB.out.size),hL.out.only hO (by simp),A,cap,?_,?_,hA.out⟩
       · rw [heldTo_no hh.out,hm.out]
       · rw [heldTo_no hh.out]
         exact hR.out.only hO (by simp)
      case measure=>simp [intOf]; omega
  · obtain rfl:k=hs.length:=by omega
    replace hL:=Lib.hid hL
    replace hR:=Lib.hid hR
    replace hA:=Lib.hid hA
    replace hB:=Lib.hid hB
    go_wp2_with fail
    go_ret
    exact ⟨A,cap,rfl,hR.out,hA.out,hB.out⟩
end Go.Proofs.YtpobbnllcoabhaaGreatDoor.Lo
namespace Go.Proofs.YtpobbnllcoabhaaGreatDoor.LawFn
open Go Go.RowKit Hp K Fl Rw Hm Ar Mm Me LK Qs Wk Re LawSix Pn Pc Mq Pu LawTen LawEl LawTw Dl Zr
set_option maxRecDepth 100000
theorem num_made {w w1:World} {n k:Nat} {M:Mo} (h:MadeP w n k M w1) (hk:k≤6):Num1 (lm M) 0:=by
 obtain ⟨hM,hlo,hB,h1,h2,h3,h4,h5,h6,h7⟩:=h
 refine ⟨?_,?_,?_,?_⟩
 · show M.xs.length≤_; rw [h1]; simp; omega
 · show M.ds.length≤_; rw [h6]; simp
 · show 1≤Cl.nth M.xs 0; rw [h1]; exact Int.le_refl _
 · show Cl.nth M.xs 0≤_; rw [h1]; exact Int.le_refl _
theorem s11_made {w w1:World} {n k:Nat} {M:Mo} (h:MadeP w n k M w1):S11 w w1 M none 0 []:=by
 obtain ⟨hM,hlo,hB,_⟩:=h
 exact ⟨hM,Row.nil _ _ _ _,hB,hlo,by simp [In]⟩
theorem held_none {hs:List Int} (h:hs=List.replicate 6 (-1)) (i:Nat):(Lo.heldTo hs (i:Int) hs.length).length=0:=by
 subst h
 rw [List.length_eq_zero_iff]
 unfold Lo.heldTo
 rw [List.filter_eq_nil_iff]
 intro j _
 simp only [decide_eq_true_eq]
 intro q
 have h2:=q.2
 unfold Lo.hol at h2
 rw [List.getD_eq_getElem?_getD,List.getElem?_replicate] at h2
 split at h2<;>simp at h2<;>omega
section
variable {W0 w wx:World} {M:Mo} {n B G:Nat} {cs:Nat→List Mq.Hp} {l:List Pr}
theorem now_s (h:S11 W0 w M none 0 []) (hm:Mp (lm M) n B cs l G) (hb:Below w.heap.size w wx):Calls Tryz.prog 29 #[ptr M.m] wx fun e w'=>e=.returned (.agg #[.int .i64 n,.int .i64 B])∧Below wx.heap.size wx w':=by
 have hkB:2+M.k≤B:=hm.kB
 have hk:1≤M.k∧M.k≤8:=hm.k
 have hxl:B+n≤M.xs.length:=hm.xl
 have hnw:Me.now M.xs M.ds=(n,B):=hm.now
 have:=now_any (h.mem.below hb) (by omega)
 rw [hnw] at this
 exact this
theorem held_s (h:S11 W0 w M none 0 []) (hm:Mp (lm M) n B cs l G) (hb:Below w.heap.size w wx):wx.cell? ⟨M.m,1,none⟩=some (ptr M.lg)∧∀ i:Nat,Calls Tryz.prog 30 #[ptr M.lg,.int .i64 i] wx fun e w'=>∃ A cap,e=.returned (.slice A (0:Nat) cap)∧Below wx.heap.size wx w':=by
 have hM:=h.mem.below hb
 have hhs:M.hs=List.replicate 6 (-1):=hm.hs
 refine ⟨hM.hd.2.1,fun i=>(Lo.held_any hM.2.2.1 (i:Int)).mono fun e w' q=>?_⟩
 obtain ⟨A,cap,q1,_,_,q4⟩:=q
 rw [held_none hhs i] at q1
 exact ⟨A,cap,q1,q4⟩
end
theorem up8:∃ c x t a,Ways ([]:List Pr).length 8 1 c x t a∧c≤100∧x≤512∧t≤8∧a≤30*256:=by
 obtain ⟨c,x,hu⟩:=up_to 0 3 (by omega) 3 0 (by omega)
 obtain ⟨e1,e2,e3⟩:=hu.eqs
 exact ⟨c,x,3,0,.inl hu,by omega,by omega,by omega,by omega⟩
set_option maxHeartbeats 2000000 in
theorem awake (w:World):Calls Tryz.prog 14 #[] w fun e w'=>e=.returned (.bool true)∧Below w.heap.size w w':=by
 have hN:=Lib.hid (made_yes 1 1 w (by omega) (by omega))
 have hA2:=Lib.hid (fun w=>LawTw.awake w)
 have hA3:=Lib.hid (fun w=>LawTh.awake w)
 have hA4:=Lib.hid (fun w=>LawFo.awake w)
 have hNg:=Lib.hid (fun z w=>new_resize 0 z w)
 go_enter Tryz.func14,Tryz.ntmps14
 go_wp2_with fail
 refine hN.out.mono ?_
 rintro e w1 ⟨M,rfl,hMd⟩
 have hmp:=mp_made hMd (by omega) (by omega)
 have hnum:=num_made hMd (by omega)
 have hS:=s11_made hMd
 replace hmp:=Lib.hid hmp
 replace hnum:=Lib.hid hnum
 replace hS:=Lib.hid hS
 clear hN hMd
 go_wp2_with fail
 refine (hNg.out 8 _).mono ?_
 rintro e w2 ⟨a,rfl,hR2,hl2,hB2⟩
 have hS2:=Lib.hid (hS.out.down hB2)
 have hl2':=Lib.hid (fun x hx=>Nat.le_trans hS.out.below.size (hl2 x hx))
 replace hR2:=Lib.hid hR2
 clear hl2 hB2 hS
 go_wp2_with fail
 refine (hNg.out 3 _).mono ?_
 rintro e w3 ⟨b,rfl,hR3,hl3,hB3⟩
 have hS3:=hS2.out.down hB3
 have hRa:=rz_only hR2.out (Only.ofBelow hB3 (fun _=>False)) (by simp)
 have hlb:=Lib.hid (fun x hx=>Nat.le_trans hS2.out.below.size (hl3 x hx))
 have hab:=Lib.hid (fun x (hx:rzL.foot b (newRz 0 3) x)=>show ¬(mfoot M x∨rzL.foot a (newRz 0 8) x) from fun q=>by
  rcases q with q | q
  · exact rz_far hR3 hS3.mem hx q
  · have:=rz_lt hR2.out q
    have:=hl3 x hx
    omega)
 obtain ⟨c,x,t,ca,hwy,hc,hx,ht,hca⟩:=up8
 have hFn:=resize_w hS3 hmp.out (by omega) (by simp) hnum.out (by omega) (s:=8) (by decide) hwy (by omega) hx ht hca 500 ⟨by omega,by omega⟩ (i:=0) (by omega) hRa hl2'.out
 have hla:=Lib.hid (fun x hx=>rz_lt (a:=a) (R:=newRz 0 8) (x:=x) hR2.out hx)
 have hlb3:=Lib.hid hl3
 replace hR3:=Lib.hid hR3
 replace hFn:=Lib.hid hFn
 clear hNg hl3 hB3 hS3 hRa hS2 hR2 hl2' hwy hmp hnum
 go_wp2_with fail
 refine hFn.out.mono ?_
 rintro e w4 ⟨k,rfl,M4,a4,R4,B4,cs4,hS4,em4,hRa4,ea4,he4,hmp4,hsl4,hk4,hws4,hnum4, -,hO4,hf4⟩
 have hRb:=rz_only hR3.out hO4 hab.out
 have hF2:=refuse_s hS4 hmp4 (z:=3) (by decide) hRb hlb.out 500 ⟨by omega,by omega⟩
 rw [em4] at hF2
 have hF3:Hid (Calls Tryz.prog 9 #[ptr M.m,.iface 72 (ptr (rzL.f b)),.int .i64 500] w4 fun e w'=>e=.returned (.tuple #[.int .i64 1,.bool true])∧Below w.heap.size w w'∧(∀ wx,Below w'.heap.size w' wx→Calls Tryz.prog 28 #[ptr (rzL.f a)] wx fun e w''=>e=.returned (.int .i64 0)∧w''=wx)∧(∀ wx,Below w'.heap.size w' wx→Calls Tryz.prog 28 #[ptr (rzL.f b)] wx fun e w''=>e=.returned (.int .i64 5)∧w''=wx)∧(∀ wx,Below w'.heap.size w' wx→Calls Tryz.prog 29 #[ptr M.m] wx fun e w''=>e=.returned (.agg #[.int .i64 8,.int .i64 B4])∧Below wx.heap.size wx w'')∧∃ lk,∀ wx,Below w'.heap.size w' wx→wx.cell? ⟨M.m,1,none⟩=some (ptr lk)∧Calls Tryz.prog 30 #[ptr lk,.int .i64 0] wx fun e w''=>∃ A cap,e=.returned (.slice A 0 cap)∧Below wx.heap.size wx w''):=Lib.hid (hF2.mono fun e w' q=>by
  obtain ⟨q1,M5,a5,R5,hS5,em5,hRb5,eb5,he5,hl5,hO5⟩:=q
  have hRa5:=rz_only hRa4 hO5 (fun x hx q=>by
   rcases q with q | q
   · exact rz_far hRa4 hS4.mem hx q
   · have h1:=rz_lt hR3.out q
     have h2:=hlb3.out x q
     rcases hf4 x hx with q | q
     · have h3:=hla.out x q; omega
     · omega)
  have hmp5:Mp (lm M5) 8 B4 cs4 [] 0:=by rw [hl5]; exact hmp4
  refine ⟨q1,hS5.below,fun wx hb=>?_,fun wx hb=>?_,fun wx hb=>?_,M5.lg,fun wx hb=>?_⟩
  · have:=rz_err (rz_frm.below hRa5 hb)
    rw [ea4,he4] at this
    exact this
  · have:=rz_err (rz_frm.below hRb5 hb)
    rw [eb5,he5] at this
    exact this
  · have:=now_s hS5 hmp5 hb
    rw [em5,em4] at this
    exact this
  · have:=held_s hS5 hmp5 hb
    rw [em5,em4] at this
    exact ⟨this.1,this.2 0⟩)
 have hB04:=Lib.hid hS4.below
 clear hF2 hRb hFn hS4 em4 hRa4 ea4 he4 hmp4 hsl4 hk4 hws4 hnum4 hO4 hf4 hR3 hlb hab hla hlb3
 go_wp2_with fail
 refine hF3.out.mono ?_
 rintro e w5 ⟨rfl,hB5,hEa,hEb,hNw,lk,hHd⟩
 replace hB5:=Lib.hid hB5
 replace hEa:=Lib.hid hEa
 replace hEb:=Lib.hid hEb
 replace hNw:=Lib.hid hNw
 replace hHd:=Lib.hid hHd
 have hfd:∀ w,(Instr.field 76 (.agg #[.int .i64 8,.int .i64 B4]) 0).run Tryz.prog w=.ok (.int .i64 8) w:=fun w=>rfl
 clear hF3 hB04
 go_wp2_with fail
 refine (hA2.out _).mono ?_
 rintro e w6 ⟨rfl,hb6⟩
 have hB6:=Lib.hid hb6
 clear hb6 hA2
 go_wp2_with fail
 refine (hA3.out _).mono ?_
 rintro e w7 ⟨rfl,hb7⟩
 have hB7:=Lib.hid (hB6.out.trans (hb7.mono hB6.out.size))
 clear hb7 hB6 hA3
 go_wp2_with fail
 refine (hA4.out _).mono ?_
 rintro e w8 ⟨rfl,hb8⟩
 have hB8:=Lib.hid (hB7.out.trans (hb8.mono hB7.out.size))
 clear hb8 hB7 hA4
 go_wp2_with fail
 refine (hEa.out _ hB8.out).mono ?_
 rintro e w' ⟨rfl,rfl⟩
 clear hEa
 go_wp2_with fail
 refine (hNw.out _ hB8.out).mono ?_
 rintro e w9 ⟨rfl,hb9⟩
 have hB9:=Lib.hid (hB8.out.trans (hb9.mono hB8.out.size))
 have hc9:=(hHd.out _ hB9.out).1
 have hH9:=Lib.hid (hHd.out _ hB9.out).2
 clear hb9 hB8 hNw hHd
 go_wp2_with fail
 refine hH9.out.mono ?_
 rintro e w10 ⟨A,cap,rfl,hb10⟩
 have hB10:=Lib.hid (hB9.out.trans (hb10.mono hB9.out.size))
 clear hb10 hB9 hH9 hc9
 go_wp2_with fail
 refine (hEb.out _ hB10.out).mono ?_
 rintro e w' ⟨rfl,rfl⟩
 have hBx:=Lib.hid (hB5.out.trans (hB10.out.mono hB5.out.size))
 clear hEb hB5 hB10
 go_wp2_with fail
 go_ret
 exact ⟨rfl,hBx.out⟩
end Go.Proofs.YtpobbnllcoabhaaGreatDoor.LawFn
namespace Go.Proofs.YtpobbnllcoabhaaGreatDoor.Ca
open Go Go.RowKit Hp K Fl Rw Hm Ar Mm Me LK Qs Wk Re LawSix Pc Pn Mq Pu Zp Mx LawTh Bs Dl Zr LawTen LawEl LawFn
set_option maxRecDepth 100000
def aK:ByteArray:=⟨#[97]⟩
def aX:ByteArray:=⟨#[120]⟩
theorem chk_a (k:Int) (v:ByteArray) (hk:0≤k∧k≤2) (hv:v.size≤32):chk ⟨k,aK,v,0⟩=0:=by
 unfold chk
 simp only
 rw [if_neg (by omega),if_neg]
 rintro ⟨_,h | h | ⟨_,h⟩⟩
 · exact absurd h (by decide)
 · exact absurd h (by decide)
 · omega
theorem doc_put:docA [] ⟨1,aK,aX,0⟩=(0,false,⟨#[]⟩):=by
 unfold docA
 rw [if_neg (by rw [chk_a 1 aX (by omega) (by decide)]; simp)]
 rfl
theorem doc_get:docA [(aK,aX)] ⟨0,aK,⟨#[]⟩,0⟩=(0,true,aX):=by
 unfold docA
 rw [if_neg (by rw [chk_a 0 ⟨#[]⟩ (by omega) (by decide)]; simp)]
 simp [Pc.lk]
theorem doc_del:docA [(aK,aX)] ⟨2,aK,⟨#[]⟩,0⟩=(0,true,aX):=by
 unfold docA
 rw [if_neg (by rw [chk_a 2 ⟨#[]⟩ (by omega) (by decide)]; simp)]
 simp [Pc.lk]
theorem doc_none:docA [] ⟨0,aK,⟨#[]⟩,0⟩=(0,false,⟨#[]⟩):=by
 unfold docA
 rw [if_neg (by rw [chk_a 0 ⟨#[]⟩ (by omega) (by decide)]; simp)]
 rfl
def Am (W0 w:World) (m:Nat) (l:List Pr) (j:Nat):Prop:=∃ (M:Mo) (n B G:Nat) (cs:Nat→List Mq.Hp),S11 W0 w M none 0 []∧M.m=m∧Mp (lm M) n B cs l G∧G≤j∧M.ss.length=2∧M.k=1∧Num1 (lm M) j∧n≤256
theorem am_down {W0 w w':World} {m j:Nat} {l:List Pr} (h:Am W0 w m l j) (hb:Below w.heap.size w w'):Am W0 w' m l j:=by
 obtain ⟨M,n,B,G,cs,h1,h2⟩:=h
 exact ⟨M,n,B,G,cs,h1.down hb,h2⟩
theorem am_below {W0 w:World} {m j:Nat} {l:List Pr} (h:Am W0 w m l j):Below W0.heap.size W0 w:=by
 obtain ⟨M,n,B,G,cs,h1,h2⟩:=h
 exact h1.below
def Rs (w w':World):Prop:=∀ x cs,Blk w x 36 cs→Blk w' x 36 cs
theorem key_le {c:Ct} (hc:chk c=0) (hk:c.kind≤2):c.key.size≤32:=by
 unfold chk at hc
 split at hc
 · omega
 · split at hc
   · omega
   · omega
theorem am_one {W0 w:World} {m j:Nat} {l l':List Pr} (h:Am W0 w m l j) (hj:j≤20) (c:Ct) (hc:chk c=0) (hkind:c.kind≤2) (h1':c.kind≠1) (hl:l.length≤1) (hd:DocL l l' c) (hs:c.size=0):
 Calls Tryz.prog 13 #[ptr m,.int .i64 0,ctv c] w fun e w'=>e=.returned (.tuple #[anv (docA l c),.bool true])∧Am W0 w' m l' (j+1)∧Rs w w':=by
 obtain ⟨M,n,B,G,cs,h1,h2,h3,h4,h5,h6,h7,h8⟩:=h
 have hk:=key_le hc hkind
 have:=one_any (c:=c) (i:=0) (t:=j) h1 h3 (by omega) (by omega) h7 (by omega) h8 (.inl (by omega)) (by rw [h6]; omega) (by unfold maxLen; omega)
 rw [h2] at this
 refine this.mono fun e w' q=>?_
 obtain ⟨x,q1,⟨M',n',B',G',cs',s1,s2,s3,s4,s5,s6,s7,s8⟩,hO⟩:=q
 have hR:Rs w w':=fun y ys hb=>hb.only hO (fun g=>(h1.mem.ty g).apart (blk_ty hb) (by decide))
 rcases s8 with ⟨r1,r2,r3,_⟩ | ⟨_,r2,r3⟩
 · exact absurd r2 h1'
 · exact ⟨by rw [q1,r2],⟨M',n',B',G',cs',s1,s2.trans h2,r3 l' hd,by omega,s3.trans h5,s4.trans h6,s5,s6⟩,hR⟩
theorem am_put {W0 w:World} {M:Mo} (h:MadeP W0 2 1 M w):
 Calls Tryz.prog 13 #[ptr M.m,.int .i64 0,ctv ⟨1,aK,aX,0⟩] w fun e w'=>e=.returned (.tuple #[anv (0,false,⟨#[]⟩),.bool true])∧Am W0 w' M.m [(aK,aX)] 1∧Rs w w':=by
 have hmp:=mp_made h (by omega) (by omega)
 have hnum:=num_made h (by omega)
 have hS:=s11_made h
 obtain ⟨_,_,_,g1,g2,g3,g4,g5,g6,g7⟩:=h
 have hss:M.ss.length=2:=by rw [g2]; simp
 have:=one_any (c:=⟨1,aK,aX,0⟩) (i:=0) (t:=0) hS hmp (by omega) (by simp) hnum (by omega) (by omega) (.inl (by simp)) (by rw [g5]; simp) (by unfold maxLen; decide)
 refine this.mono fun e w' q=>?_
 obtain ⟨x,q1,⟨M',n',B',G',cs',s1,s2,s3,s4,s5,s6,s7,s8⟩,hO⟩:=q
 have hR:Rs w w':=fun y ys hb=>hb.only hO (fun g=>(hS.mem.ty g).apart (blk_ty hb) (by decide))
 have hc:=chk_a 1 aX (by omega) (by decide)
 rcases s8 with ⟨r1,r2,r3,_⟩ | ⟨_,r2,r3⟩
 · exfalso
   have h1:=(freePl_frees M.ss).1 r3
   have h2:(frees M.ss M.ss.length).length+M.ws.length+([]:List Pr).length=M.ss.length:=(Mp.ql2 hmp).2
   rw [g7,hss] at h2
   rw [hss] at h1
   simp at h2
   omega
 · have hd:DocL [] [(aK,aX)] ⟨1,aK,aX,0⟩:=by
    unfold DocL
    rw [if_pos ⟨hc,rfl⟩]
    exact List.Perm.refl _
   exact ⟨by rw [q1,r2,doc_put],⟨M',n',B',G',cs',s1,s2,r3 _ hd,by omega,s3.trans hss,s4.trans g5,s5,s6⟩,hR⟩
set_option maxHeartbeats 4000000 in
theorem awake (w:World):Calls Tryz.prog 7 #[] w fun e w'=>e=.returned (.bool true)∧Below w.heap.size w w':=by
 have hN:=Lib.hid (made_yes 2 1 w (by omega) (by omega))
 have hA:=Lib.hid (fun w=>LawFn.awake w)
 have c1:=chk_a 0 ⟨#[]⟩ (by omega) (by decide)
 have c2:=chk_a 2 ⟨#[]⟩ (by omega) (by decide)
 have d1:DocL [(aK,aX)] [(aK,aX)] ⟨0,aK,⟨#[]⟩,0⟩:=by unfold DocL; rw [if_neg (by simp),if_neg (by simp)]
 have d2:DocL [(aK,aX)] [] ⟨2,aK,⟨#[]⟩,0⟩:=by unfold DocL; rw [if_neg (by simp),if_pos ⟨c2,rfl⟩]; simp
 have d3:DocL [] [] ⟨0,aK,⟨#[]⟩,0⟩:=by unfold DocL; rw [if_neg (by simp),if_neg (by simp)]
 have h1:=Lib.hid (fun w1 M (h:MadeP w 2 1 M w1)=>am_put h)
 have h2:=Lib.hid (fun w1 m (h:Am w w1 m [(aK,aX)] 1)=>am_one h (by omega) ⟨0,aK,⟨#[]⟩,0⟩ c1 (by simp) (by simp) (by simp) d1 rfl)
 have h3:=Lib.hid (fun w1 m (h:Am w w1 m [(aK,aX)] 2)=>am_one h (by omega) ⟨2,aK,⟨#[]⟩,0⟩ c2 (by simp) (by simp) (by simp) d2 rfl)
 have h4:=Lib.hid (fun w1 m (h:Am w w1 m [] 3)=>am_one h (by omega) ⟨0,aK,⟨#[]⟩,0⟩ c1 (by simp) (by simp) (by simp) d3 rfl)
 rw [doc_get] at h2
 rw [doc_del] at h3
 rw [doc_none] at h4
 simp only [ctv,anv,aK,aX] at h1 h2 h3 h4
 clear c1 c2 d1 d2 d3
 go_enter Tryz.func7,Tryz.ntmps7
 go_wp2_with fail
 refine hN.out.mono ?_
 rintro e w1 ⟨M,rfl,hM⟩
 have g1:=h1.out w1 M hM
 clear hN h1 hM
 replace g1:=Lib.hid g1
 go_wp2_with fail
 refine g1.out.mono ?_
 rintro e w2 ⟨rfl,hA2, -⟩
 go_wp2_with fail
 obtain ⟨v1,hv1⟩:∃ v,v=w2.alloc (.cells #[.int .i64 0,.bool false,.string ⟨#[]⟩] 36):=⟨_,rfl⟩
 have b1:Blk v1 w2.heap.size 36 #[.int .i64 0,.bool false,.string ⟨#[]⟩]:=by rw [hv1]; exact Blk.made w2 _ _
 have l1:Below w2.heap.size w2 v1:=by rw [hv1]; exact below_1 _ _
 have A1:=am_down hA2 l1
 rw [← hv1]
 clear hv1 hA2
 obtain ⟨x1,hx1⟩:∃ x,x=w2.heap.size:=⟨_,rfl⟩
 rw [← hx1] at b1 ⊢
 clear l1 hx1
 have r1:=Lib.hid (h2.out v1 M.m A1)
 clear h2 A1
 refine r1.out.mono ?_
 rintro e w3 ⟨rfl,hA3,hR3⟩
 replace b1:=hR3 _ _ b1
 clear r1 hR3
 go_wp2_with fail
 obtain ⟨v2,hv2⟩:∃ v,v=w3.alloc (.cells #[.int .i64 0,.bool true,.string ⟨#[120]⟩] 36):=⟨_,rfl⟩
 have b2:Blk v2 w3.heap.size 36 #[.int .i64 0,.bool true,.string ⟨#[120]⟩]:=by rw [hv2]; exact Blk.made w3 _ _
 have l2:Below w3.heap.size w3 v2:=by rw [hv2]; exact below_1 _ _
 have A2:=am_down hA3 l2
 rw [← hv2]
 clear hv2 hA3
 obtain ⟨x2,hx2⟩:∃ x,x=w3.heap.size:=⟨_,rfl⟩
 rw [← hx2] at b2 ⊢
 replace b1:=b1.only (Only.ofBelow l2 (fun _=>False)) (by simp)
 clear l2 hx2
 have r2:=Lib.hid (h3.out v2 M.m A2)
 clear h3 A2
 refine r2.out.mono ?_
 rintro e w4 ⟨rfl,hA4,hR4⟩
 replace b1:=hR4 _ _ b1
 replace b2:=hR4 _ _ b2
 clear r2 hR4
 go_wp2_with fail
 obtain ⟨v3,hv3⟩:∃ v,v=w4.alloc (.cells #[.int .i64 0,.bool true,.string ⟨#[120]⟩] 36):=⟨_,rfl⟩
 have b3:Blk v3 w4.heap.size 36 #[.int .i64 0,.bool true,.string ⟨#[120]⟩]:=by rw [hv3]; exact Blk.made w4 _ _
 have l3:Below w4.heap.size w4 v3:=by rw [hv3]; exact below_1 _ _
 have A3:=am_down hA4 l3
 rw [← hv3]
 clear hv3 hA4
 obtain ⟨x3,hx3⟩:∃ x,x=w4.heap.size:=⟨_,rfl⟩
 rw [← hx3] at b3 ⊢
 replace b1:=b1.only (Only.ofBelow l3 (fun _=>False)) (by simp)
 replace b2:=b2.only (Only.ofBelow l3 (fun _=>False)) (by simp)
 clear l3 hx3
 have r3:=Lib.hid (h4.out v3 M.m A3)
 clear h4 A3
 refine r3.out.mono ?_
 rintro e w5 ⟨rfl,hA5,hR5⟩
 replace b1:=hR5 _ _ b1
 replace b2:=hR5 _ _ b2
 replace b3:=hR5 _ _ b3
 clear r3 hR5
 go_wp2_with fail
 obtain ⟨v4,hv4⟩:∃ v,v=w5.alloc (.cells #[.int .i64 0,.bool false,.string ⟨#[]⟩] 36):=⟨_,rfl⟩
 have b4:Blk v4 w5.heap.size 36 #[.int .i64 0,.bool false,.string ⟨#[]⟩]:=by rw [hv4]; exact Blk.made w5 _ _
 have l4:Below w5.heap.size w5 v4:=by rw [hv4]; exact below_1 _ _
 have A4:=am_down hA5 l4
 rw [← hv4]
 clear hv4 hA5
 obtain ⟨x4,hx4⟩:∃ x,x=w5.heap.size:=⟨_,rfl⟩
 rw [← hx4] at b4 ⊢
 replace b1:=b1.only (Only.ofBelow l4 (fun _=>False)) (by simp)
 replace b2:=b2.only (Only.ofBelow l4 (fun _=>False)) (by simp)
 replace b3:=b3.only (Only.ofBelow l4 (fun _=>False)) (by simp)
 clear l4 hx4
 have hBb:=Lib.hid (am_below A4)
 clear A4
 refine (hA.out _).mono ?_
 rintro e w9 ⟨rfl,hB9⟩
 replace b1:=b1.only (Only.ofBelow hB9 (fun _=>False)) (by simp)
 replace b2:=b2.only (Only.ofBelow hB9 (fun _=>False)) (by simp)
 replace b3:=b3.only (Only.ofBelow hB9 (fun _=>False)) (by simp)
 replace b4:=b4.only (Only.ofBelow hB9 (fun _=>False)) (by simp)
 have hBx:=Lib.hid (hBb.out.trans (hB9.mono hBb.out.size))
 have f10:=b1.cell 0
 have f11:=b1.cell 1
 have f12:=b1.cell 2
 have q1:=b1.lt
 have f20:=b2.cell 0
 have f21:=b2.cell 1
 have f22:=b2.cell 2
 have q2:=b2.lt
 have f30:=b3.cell 0
 have f31:=b3.cell 1
 have f32:=b3.cell 2
 have q3:=b3.lt
 have f40:=b4.cell 0
 have f41:=b4.cell 1
 have f42:=b4.cell 2
 have q4:=b4.lt
 simp at f10 f11 f12 f20 f21 f22 f30 f31 f32 f40 f41 f42
 clear b1 b2 b3 b4 hB9 hBb hA
 go_wp2_with fail
 go_ret
 exact ⟨rfl,hBx.out⟩
end Go.Proofs.YtpobbnllcoabhaaGreatDoor.Ca
namespace Go.Proofs.YtpobbnllcoabhaaGreatDoor.Ca
open Go Go.RowKit Hp K Fl Rw Hm Ar Mm Me LK Qs Wk Pc Pn Mq Pu Zp Mx LawTh Bs Zr
set_option maxRecDepth 100000
def Wt (w:World):Prop:=0<w.heap.size∧w.cell? ⟨0,0,none⟩=some (.string ⟨#[103,101,116]⟩)∧w.cell? ⟨0,1,none⟩=some (.string ⟨#[112,117,116]⟩)∧w.cell? ⟨0,2,none⟩=some (.string ⟨#[100,101,108,101,116,101]⟩)∧w.cell? ⟨0,3,none⟩=some (.string ⟨#[114,101,115,105,122,101]⟩)
theorem Wt.below {w w':World} (h:Wt w) (hb:Below w.heap.size w w'):Wt w':=by
 obtain ⟨h0,h1,h2,h3,h4⟩:=h
 have hz:=Nat.lt_of_lt_of_le h0 hb.size
 have e:=fun i=>hb.cell (p:=⟨0,i,none⟩) h0
 exact ⟨hz,(e 0).trans h1,(e 1).trans h2,(e 2).trans h3,(e 3).trans h4⟩
theorem str_any (k:Int) (w:World) (h:Wt w):Calls Tryz.prog 5 #[.int .i64 k] w fun e w'=>e=.returned (.string (wrd k))∧Below w.heap.size w w':=by
 unfold wrd
 obtain ⟨hz,h0,h1,h2,h3⟩:=h
 by_cases hk:0≤k∧k≤3
 · have hkk:k=0∨k=1∨k=2∨k=3:=by omega
   have hK:=fun w=>known_any k w
   simp only [decide_eq_true hk] at hK
   replace hK:=Lib.hid hK
   clear hk
   rcases hkk with rfl | rfl | rfl | rfl
   all_goals
    go_enter Tryz.func5,Tryz.ntmps5
    go_wp2_with (go_at_call 12; refine (hK.out _).mono ?_; rintro e w' ⟨rfl,rfl⟩)
    go_ret
    exact ⟨rfl,Below.refl _ _⟩
 · have hK:=fun w=>known_any k w
   simp only [decide_eq_false hk] at hK
   replace hK:=Lib.hid hK
   rw [if_pos (by omega)]
   go_enter Tryz.func5,Tryz.ntmps5
   go_wp2_with (go_at_call 12; refine (hK.out _).mono ?_; rintro e w' ⟨rfl,rfl⟩)
   go_ret
   exact ⟨rfl,Below.refl _ _⟩
end Go.Proofs.YtpobbnllcoabhaaGreatDoor.Ca
namespace Go.Proofs.YtpobbnllcoabhaaGreatDoor.Ca
open Go Go.RowKit Hp K Fl Rw Hm Ar Mm Me LK Qs Wk Re LawSix Pc Pn Mq Pu Zp Mx LawTh Bs Dl Zr LawTen LawEl LawFn
set_option maxRecDepth 100000
theorem ref_fin {W0 w:World} {M:Mo} {A:Option Addr} {cap:Nat} {lr:List Pr} {i:Nat} {c:Ct} {C:Cl} {a:Cp} (h:S11 W0 w M A cap lr) (hC:Ini i c C) (h0:chk c≠0) (hP:clL.At w a C) (hlow:∀ x,clL.foot a C x→W0.heap.size≤x) (K:Nat) (hK:1≤K∧K≤1000000):
 Calls Tryz.prog 9 #[ptr M.m,.iface 28 (ptr (clL.f a)),.int .i64 K] w fun e w'=>e=.returned (.tuple #[.int .i64 1,.bool true])∧∃ a' C',clL.At w' a' C'∧clL.f a'=clL.f a∧C'.done=true∧ans C'=(chk c,false,⟨#[]⟩)∧Below W0.heap.size W0 w':=by
 obtain ⟨c1,c2,c3,c4⟩:=hC
 have hfr:=c3 h0
 have eC:C=⟨.ref,chk c,false⟩:=by cases C; simp only at c1 c2 hfr; rw [c1,c2,hfr]
 subst eC
 refine (finish_frm cl_frm h.mem hP (fun k s=>k=1∧s=(lm M,(⟨.ref,chk c,false⟩:Cl))) (fun s=>s=(lm M,(⟨.ref,chk c,true⟩:Cl))) (fun k s hs=>by
  obtain ⟨rfl,rfl⟩:=hs
  exact ⟨trivial,rfl,Nat.le_refl _,fun _=>rfl,fun q=>by simp [cldn] at q⟩) 1 K ⟨rfl,rfl⟩ hK.1 hK.2).mono fun e w' q=>?_
 obtain ⟨k,s,q1,⟨_,q3⟩,q4,hI⟩:=q
 obtain ⟨M',a',g1,g2,g3,g4,g5,g6⟩:=fin_s h hP hlow hI
 rw [q4] at g4
 obtain ⟨S',hS'⟩:=fin_just (rd:=fun s:Lm×Cl=>clrd s.1 s.2) (st:=fun s=>clst s.1 s.2) (dn:=fun s=>cldn s.1 s.2) (fun k s=>k=1∧s=(lm M,(⟨.ref,chk c,false⟩:Cl))) (fun k s hs=>by
  obtain ⟨rfl,rfl⟩:=hs
  exact ⟨rfl,Nat.le_refl _,fun _=>rfl,fun q=>by simp [cldn] at q⟩) K 1 _ ⟨rfl,rfl⟩ hK.1
 rw [q3] at hS'
 injection hS' with e1 _
 rw [e1] at q1
 exact ⟨q1,a',_,g4,g5,rfl,rfl,g1.below⟩
theorem chk_kind {k:Int} (h:¬(0≤k∧k≤3)):chk ⟨k,aK,⟨#[]⟩,0⟩=1:=by
 unfold chk
 rw [if_pos (by simp only; omega)]
set_option maxHeartbeats 4000000 in
theorem words (k:Int) (W0:World) (hW0:Wt W0):Calls Tryz.prog 3 #[.int .i64 k] W0 fun e w'=>e=.returned (.bool true)∧Below W0.heap.size W0 w':=by
 have hN:=Lib.hid (made_yes 1 1 W0 (by omega) (by omega))
 have hA:=Lib.hid (fun w=>awake w)
 have hSt:=Lib.hid (fun w (h:Wt w)=>str_any k w h)
 replace hW0:=Lib.hid hW0
 have hWd:=Lib.hid (fun w=>word_any k w)
 generalize wrd k=s at*
 have hse:(s.toList==s.toList)=true:=by simp
 by_cases hk:0≤k∧k≤3
 · obtain ⟨k1,k2⟩:=hk
   go_enter Tryz.func3,Tryz.ntmps3
   go_wp2_with fail
   refine hN.out.mono ?_
   rintro e w1 ⟨M,rfl,hM⟩
   have hB1:=Lib.hid (s11_made hM).below
   have hT1:=Lib.hid (hW0.out.below hB1.out)
   clear hN hM hW0
   go_wp2_with fail
   refine (hSt.out _ hT1.out).mono ?_
   rintro e w2 ⟨rfl,hB2⟩
   have hB12:=Lib.hid (hB1.out.trans (hB2.mono hB1.out.size))
   clear hB1 hB2 hSt hT1
   go_wp2_with fail
   refine (hWd.out _).mono ?_
   rintro e w3 ⟨rfl,hB3⟩
   have hB13:=Lib.hid (hB12.out.trans (hB3.mono hB12.out.size))
   clear hB12 hB3 hWd
   go_wp2_with fail
   refine (hA.out _).mono ?_
   rintro e w4 ⟨rfl,hB4⟩
   have hB14:=Lib.hid (hB13.out.trans (hB4.mono hB13.out.size))
   clear hB13 hB4 hA
   go_wp2_with fail
   go_ret
   exact ⟨rfl,hB14.out⟩
 · have hc:=chk_kind hk
   have hkd:decide (0≤k)=true→decide (k≤3)=false:=by
    intro q
    have q:=of_decide_eq_true q
    exact decide_eq_false (by omega)
   have hNw:=Lib.hid (fun w=>new_call 0 ⟨k,aK,⟨#[]⟩,0⟩ (by unfold maxLen; show (1:Nat)≤_; omega) w)
   have hFi:=Lib.hid (fun w1 M (h:MadeP W0 1 1 M w1) w2 a C (hb:Below w1.heap.size w1 w2) (hI:Ini 0 ⟨k,aK,⟨#[]⟩,0⟩ C) (hP:clL.At w2 a C) (hlo:∀ x,clL.foot a C x→w1.heap.size≤x)=>ref_fin ((s11_made h).down hb) hI (by rw [hc]; omega) hP (fun x hx=>Nat.le_trans (s11_made h).below.size (hlo x hx)) 9 (by omega))
   rw [hc] at hFi
   simp only [ctv,aK] at hNw hFi
   clear hc
   go_enter Tryz.func3,Tryz.ntmps3
   go_wp2_with fail
   refine hN.out.mono ?_
   rintro e w1 ⟨M,rfl,hM⟩
   have hF1:=Lib.hid (hFi.out w1 M hM)
   have hT1:=Lib.hid (hW0.out.below (s11_made hM).below)
   clear hN hM hFi hW0
   go_wp2_with fail
   refine (hSt.out _ hT1.out).mono ?_
   rintro e w2 ⟨rfl,hB2⟩
   replace hB2:=Lib.hid hB2
   clear hSt hT1
   go_wp2_with fail
   refine (hWd.out _).mono ?_
   rintro e w3 ⟨rfl,hB3⟩
   have hB13:=Lib.hid (hB2.out.trans (hB3.mono hB2.out.size))
   clear hB2 hB3 hWd
   go_upto_region 4 with (fail)
   go_upto_region 6 with (fail)
   all_goals
    go_wp2_with fail
    refine (hNw.out _).mono ?_
    rintro e w4 ⟨a,C,rfl,hI,hP,hlo,hB4⟩
    have hF4:=Lib.hid (hF1.out w4 a C (hB13.out.trans (hB4.mono hB13.out.size)) hI hP (fun x hx=>Nat.le_trans hB13.out.size (hlo x hx)))
    clear hI hP hlo hB4 hF1 hNw hB13
    go_wp2_with fail
    refine hF4.out.mono ?_
    rintro e w5 ⟨rfl,a',C',hP',ef,hd,hans,hB5⟩
    have hR:=res_any hP'
    have ef':clL.f a'=clL.f a:=ef
    rw [ef',hd,hans] at hR
    replace hR:=Lib.hid hR
    replace hB5:=Lib.hid hB5
    clear hF4 hP' ef ef' hd hans
    go_wp2_with fail
    refine hR.out.mono ?_
    rintro e w6 ⟨rfl,hB6⟩
    have hB06:=hB5.out.trans (hB6.mono hB5.out.size)
    obtain ⟨w7,hw7⟩:∃ w7,w7=w6.alloc (.cells #[.int .i64 1,.bool false,.string ⟨#[]⟩] 36):=⟨_,rfl⟩
    have b7:Blk w7 w6.heap.size 36 #[.int .i64 1,.bool false,.string ⟨#[]⟩]:=by rw [hw7]; exact Blk.made w6 _ _
    have hB07:=hB06.trans ((show Below w6.heap.size w6 w7 by rw [hw7]; exact below_1 _ _).mono hB06.size)
    obtain ⟨p,hp⟩:∃ p,p=w6.heap.size:=⟨_,rfl⟩
    rw [← hp] at b7
    clear hR hB5 hB6 hB06
    go_upto_region 11 with (fail)
    rw [← hw7,← hp]
    clear hw7 hp
    replace hB07:=Lib.hid hB07
    go_wp2_with fail
    refine (hA.out _).mono ?_
    rintro e w8 ⟨rfl,hB8⟩
    have b8:=b7.only (Only.ofBelow hB8 (fun _=>False)) (by simp)
    have f0:=b8.cell 0
    have f1:=b8.cell 1
    have f2:=b8.cell 2
    simp at f0 f1 f2
    have lp:=b8.lt
    have hBx:=Lib.hid (hB07.out.trans (hB8.mono hB07.out.size))
    clear b7 b8 hB8 hB07 hA
    go_wp2_with fail
    go_ret
    exact ⟨rfl,hBx.out⟩
end Go.Proofs.YtpobbnllcoabhaaGreatDoor.Ca
namespace Go.Proofs.YtpobbnllcoabhaaGreatDoor.Ca
open Go Go.RowKit Go.WideShapes Go.ChangeShapes Go.ChangeAt Hp
set_option maxRecDepth 100000
theorem str_cell {W:World} {g:Nat} {cs:Array Value} {s:ByteArray} {i:Nat} {bs:List UInt8} {H:Type} {d:DataW H} (hc:W.cell? ⟨g,i,none⟩=cs[i]?) (e:(cs.toList.drop i).take 1=[.string s]) (hd:d=.lit (.string s.data.toList)) (hb:d=.lit (.string bs)):W.cell? ⟨g,i,none⟩=some (.string ⟨bs.toArray⟩):=by
 have h0:((cs.toList.drop i).take 1)[0]?=some (.string s):=by rw [e]; rfl
 rw [hc]
 rw [hd] at hb
 have hb:=Lit.string.inj (DataW.lit.inj hb)
 have hs:s=⟨bs.toArray⟩:=by rw [← hb]
 rw [← hs]
 simpa using h0
theorem wt_of_laid {W:World} (h:laidMetH Tryz.prog [("quietus/calls.words",Rows.laid_quietus_calls_words)] W):Wt W:=by
 rw [MakeChecks.laidMetH_plain _ _ _ (by kernel_rfl)] at h
 obtain ⟨ps,⟨g,t,cs,fuel,p,q,hg,ht,hv,hd,_,_⟩,_,_⟩:=h
 obtain rfl:=Option.some.inj ((show Tryz.prog.globalNamed "quietus/calls.words" =some 0 by kernel_rfl).symm.trans hg)
 obtain rfl:=Option.some.inj ((show (Tryz.prog.globals[0]?).map (·.type)=some 49 by kernel_rfl).symm.trans ht)
 obtain ⟨xs,m,_,ex,_,hl,hel⟩:=DataW.trod_array Tryz.underlying49 hd
 have c9:Tryz.prog.cellsOf 9=1:=by kernel_rfl
 obtain ⟨x0,x1,x2,x3,rfl⟩:∃ a b c d,xs=[a,b,c,d]:=by
  match xs,hl with
  | [a,b,c,d],_=>exact ⟨a,b,c,d,rfl⟩
 have hx:=DataW.agg.inj (Prod.mk.inj ex).1
 simp only [List.map_cons,List.map_nil,List.cons.injEq,and_true] at hx
 obtain ⟨y0,y1,y2,y3⟩:=hx
 have hE:=fun i hi=>hel i hi
 simp only [c9,Nat.mul_one] at hE
 have hc:=fun i=>World.var?_cell hg hv i
 obtain ⟨s0,e0,f0,_⟩:=DataW.trod_string Tryz.underlying9 (hE 0 (by omega))
 obtain ⟨s1,e1,f1,_⟩:=DataW.trod_string Tryz.underlying9 (hE 1 (by omega))
 obtain ⟨s2,e2,f2,_⟩:=DataW.trod_string Tryz.underlying9 (hE 2 (by omega))
 obtain ⟨s3,e3,f3,_⟩:=DataW.trod_string Tryz.underlying9 (hE 3 (by omega))
 have g0:=str_cell (hc 0) e0 (congrArg Prod.fst f0) y0.symm
 have g1:=str_cell (hc 1) e1 (congrArg Prod.fst f1) y1.symm
 have g2:=str_cell (hc 2) e2 (congrArg Prod.fst f2) y2.symm
 have g3:=str_cell (hc 3) e3 (congrArg Prod.fst f3) y3.symm
 refine ⟨?_,g0,g1,g2,g3⟩
 rcases Nat.lt_or_ge 0 W.heap.size with q | q
 · exact q
 · have hn:W.heap[0]?=none:=Array.getElem?_eq_none q
   simp [World.cell?,hn] at g0
end Go.Proofs.YtpobbnllcoabhaaGreatDoor.Ca
