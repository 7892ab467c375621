/- Walks and plain mathematics, put together in their order: ShrD, ShrE, ShrF, ShrG, ZipA, WayA, WayC, ZipB, ZipD, JoinA, ZipE. -/
import Derived.Test.YtpobbnllcoabhaaGreatDoorPart3
import Derived.Test.YtpobbnllcoabhaaGreatDoorGetD
import Derived.Test.YtpobbnllcoabhaaGreatDoorLm
import Derived.Test.YtpobbnllcoabhaaGreatDoorQsbrD
set_option linter.unusedVariables false
set_option linter.unusedSimpArgs false
namespace Go.Proofs.YtpobbnllcoabhaaGreatDoor.Sw
open Go Go.RowKit Hp K Fl Rw Hm Ar Mm Me Qs Wk Pn
set_option maxRecDepth 100000
section
variable {w w':World} {M:Mo} {a:Sc} {G:Sh}
theorem toNext_nx (G:Sh):(toNext G).nx≠5∧(toNext G).nx≠9:=by
 unfold toNext
 simp only
 split<;>omega
theorem toStore_nx (G:Sh):(toStore G).nx≠5∧(toStore G).nx≠9:=by
 unfold toStore
 split
 · split
   · exact toNext_nx G
   · simp
 · simp
theorem endFirst_nx (G:Sh):(endFirst G).nx≠5∧(endFirst G).nx≠9:=by
 unfold endFirst
 split
 · exact toStore_nx _
 · split
   · exact toStore_nx _
   · simp
theorem come_at {w2:World} {x:Nat} (hO:Own w2 a (comeTo G x)) (hm:a.mv=.map (some a.B)) (hM:Me.Met w2 a.B G.met):ShAt w2 a (comeTo G x):=by
 refine ⟨hO,fun _=>⟨hm,?_⟩,fun q=>?_⟩
 · unfold comeTo at*
   split
   · rename_i hq
     rename_i q
     rw [if_pos hq] at q
     exact absurd q (endFirst_nx G).1
   · exact hM
 · unfold comeTo at q
   split at q
   · exact absurd q (endFirst_nx G).2
   · simp at q
set_option maxHeartbeats 4000000 in
theorem loadSecond_step (hM:MemAt w M) (h:ShAt w a G) (hx:G.el.2+(G.bucket+G.nw.1)<M.xs.length) (he:G.el.2≤4000000) (hb:G.bucket≤1000000) (hn:G.nw.1≤100000) (hf:G.fi≤18446744073709551615):
 Calls Tryz.prog 168 #[ptr a.f,ptr M.m] w fun e w'=>e=.returned (.bool false)∧shL.Stp w M a G (lm M) (begun {G with sec:=(Cl.nth M.xs (G.el.2+(G.bucket+G.nw.1))).toNat}) w':=by
 have hsb:(Cl.nth M.xs (G.el.2+(G.bucket+G.nw.1))).toNat≤18446744073709551615:=by
  have:=Cl.getD_bd hM.2.1.2.2.1 (G.el.2+(G.bucket+G.nw.1))
  omega
 have hBg:=fun n=>begin_any (hM.drewN n) (h.drewN n).blk (G.bucket+G.nw.1) (by omega) hx he
 have e2:((G.bucket+G.nw.1:Nat):Int)=(G.bucket:Int)+(G.nw.1:Int):=by omega
 rw [e2] at hBg
 have ew:IntKind.i64.wrap ((G.bucket:Int)+(G.nw.1:Int))=(G.bucket:Int)+(G.nw.1:Int):=IntWalk.i64_in _ (by omega)
 generalize (Cl.nth M.xs (G.el.2+(G.bucket+G.nw.1))).toNat=z at*
 have c6:=h.blk.cell 6
 have c9:=h.blk.cell 9
 simp only [shc,List.getElem?_toArray,List.getElem?_cons_succ,List.getElem?_cons_zero] at c6 c9
 have HM:=Lib.hid hM
 have HG:=Lib.hid h
 replace hBg:=Lib.hid hBg
 replace hsb:=Lib.hid hsb
 clear hM h hx e2
 go_enter Tryz.func168,Tryz.ntmps168
 go_wp2_with fail
 go_region_held3 (fun w'=>w'.cell? ⟨a.f,6,none⟩=some (.int .i64 G.nw.1)∧w'.cell? ⟨a.f,9,none⟩=some (.int .i64 G.bucket)) ((go_split_ands; (refine ⟨?_,?_⟩<;>simp [World.cell?_setCell_other, *])))
  (first
    | (go_at_call 167
       refine (hBg.out 1).mono ?_
       rintro e w1 ⟨rfl,n,hw⟩
       have hG1:Own w1 a G:=by rw [hw]; exact Blk.only (Blk.only HG.out.blk ((Only.refl (fun _=>False) w).drewN 1) (by simp)) ((Only.refl (fun _=>False) _).drewN n) (by simp)
       have hO1:Only (·=a.f) w w1:=by rw [hw]; exact ((Only.refl _ w).drewN 1).drewN n
       have p6:=hG1.cell 6
       have p9:=hG1.cell 9
       have p11:=hG1.cell 11
       have y11:=hG1.frozen 11
       simp only [shc,List.getElem?_toArray,List.getElem?_cons_succ,List.getElem?_cons_zero] at p6 p9 p11
       replace hG1:=Lib.hid hG1
       replace hO1:=Lib.hid hO1
       clear hw hBg c6 c9))
 have hB2:Own (w1.setCell ⟨a.f,11,none⟩ (.int .u64 z)) a {G with sec:=z}:=hG1.out.store 11 (.int .u64 z)
 have hO2:=hO1.out.trans (only1 (c:=a.f) w1 11 (.int .u64 z))
 generalize w1.setCell ⟨a.f,11,none⟩ (.int .u64 (z:Int))=w2 at*
 clear p6 p9 p11 y11 hG1 hO1
 have c10:=hB2.cell 10
 have c11:=hB2.cell 11
 have c13:=hB2.cell 13
 have c14:=hB2.cell 14
 have z13:=hB2.frozen 13
 have z14:=hB2.frozen 14
 simp only [shc,List.getElem?_toArray,List.getElem?_cons_succ,List.getElem?_cons_zero] at c10 c11 c13 c14
 have hEnd:Hid (∀ w3,Own w3 a (toStore {G with sec:=z})→Only (·=a.f) w2 w3→shL.Stp w M a G (lm M) (toStore {G with sec:=z}) w3):=Lib.hid fun w3 h3 h4=>
  stp_same HM.out (a':=a) (ShAt.plain h3 (toStore_nx _)) rfl (sfoot_plain (toStore_nx _)) HG.out (hO2.trans h4) (fun x q=>.inl q)
 by_cases h0:G.fi=0
 · have e:Hid (begun {G with sec:=z}=toStore {G with sec:=z}):=Lib.hid (by unfold begun; rw [if_pos (.inl h0)])
   rw [h0] at c10
   have hN:=Lib.hid (toStore_any hB2 (by show G.bucket≤_; omega) (by show G.nw.1≤_; omega))
   clear hB2 hO2 h0
   go_wp2_with fail
   refine hN.out.mono ?_
   rintro e w3 ⟨rfl,hO3,hY3⟩
   have hS:=Lib.hid (hEnd.out w3 hO3 hY3)
   clear hN hO3 hY3 hEnd c10 c11 c13 c14 z13 z14
   go_wp2_with fail
   go_ret
   exact ⟨rfl,by rw [e.out]; exact hS.out⟩
 have q0:((G.fi:Int)==0)=false:=by simp; omega
 by_cases h1:z=0
 · have e:Hid (begun {G with sec:=z}=toStore {G with sec:=z}):=Lib.hid (by unfold begun; rw [if_pos (.inr h1)])
   have hN:=Lib.hid (toStore_any hB2 (by show G.bucket≤_; omega) (by show G.nw.1≤_; omega))
   rw [h1] at c11
   clear hB2 hO2 h0 h1
   go_wp2_with fail
   refine hN.out.mono ?_
   rintro e w3 ⟨rfl,hO3,hY3⟩
   have hS:=Lib.hid (hEnd.out w3 hO3 hY3)
   clear hN hO3 hY3 hEnd c10 c11 c13 c14 z13 z14
   go_wp2_with fail
   go_ret
   exact ⟨rfl,by rw [e.out]; exact hS.out⟩
 have q1:((z:Int)==0)=false:=by simp; omega
 have e:Hid (begun {G with sec:=z}=comeTo {G with sec:=z,la:=0,met:=[]} G.fi):=Lib.hid (by unfold begun; rw [if_neg (by simp [h0,h1])])
 clear h0 h1 hEnd
 obtain ⟨B,hB⟩:∃ B,B=w2.heap.size:=⟨_,rfl⟩
 have hmm:=@run_makeMap Tryz.prog
 have hB3:Own (w2.alloc (.map #[] 0)) a {G with sec:=z}:=Blk.only hB2 ((Only.refl (fun _=>False) w2).alloc _) (by simp)
 have hM3:Me.Met (w2.alloc (.map #[] 0)) B []:=by rw [hB]; exact Me.Met.made w2
 have hB4:Own (((w2.alloc (.map #[] 0)).setCell ⟨a.f,13,none⟩ (.int .u64 0)).setCell ⟨a.f,14,none⟩ (.map (some B))) {a with mv:=.map (some B),B:=B} {G with sec:=z,la:=0,met:=[]}:=(hB3.store 13 (.int .u64 0)).store 14 (.map (some B))
 have hO4:=only2 (c:=a.f) (w2.alloc (.map #[] 0)) 13 14 (.int .u64 0) (.map (some B))
 have hM4:=hM3.only hO4 (own_B hB3 hM3)
 have hO5:=Lib.hid ((hO2.alloc (.map #[] 0)).trans hO4)
 have g10:=hB4.cell 10
 simp only [shc,List.getElem?_toArray,List.getElem?_cons_succ,List.getElem?_cons_zero] at g10
 have hC:=Lib.hid (comeTo_any hB4 rfl hM4 (by show z≤_; exact hsb.out) (by show G.bucket≤_; omega) (by show G.nw.1≤_; omega) hf)
 have hlt:Hid (w.heap.size≤B):=Lib.hid (by rw [hB]; exact hO2.size)
 have hne:=Lib.hid (own_B hB4 hM4)
 replace hM4:=Lib.hid hM4
 have k13:=hB3.cell 13
 have k14:=hB3.cell 14
 have y13:=hB3.frozen 13
 have y14:=hB3.frozen 14
 simp only [shc,List.getElem?_toArray,List.getElem?_cons_succ,List.getElem?_cons_zero] at k13 k14
 clear hB2 hO2 hB3 hM3 hB4 hO4
 rw [hB] at g10
 go_wp2_with fail
 rw [← hB]
 clear hmm hB c10 c11 c13 c14 z13 z14 k13 k14 y13 y14
 refine hC.out.mono ?_
 rintro e w3 ⟨rfl,hO3,hY3⟩
 have hS:Hid (shL.Stp w M a G (lm M) (comeTo {G with sec:=z,la:=0,met:=[]} G.fi) w3):=Lib.hid (by
  have hA:=come_at hO3 rfl (hM4.out.only hY3 hne.out)
  refine stp_same HM.out (a':={a with mv:=.map (some B),B:=B}) hA rfl ?_ HG.out (hO5.out.trans hY3) (fun x q=>.inl q)
  rintro x (q | ⟨_,q⟩ | ⟨q,_⟩)
  · exact .inl (.inl q)
  · rw [q]; exact .inr hlt.out
  · exfalso
    unfold comeTo at q
    split at q
    · exact (endFirst_nx _).2 q
    · simp at q)
 clear hC hO3 hY3 g10
 go_wp2_with fail
 go_ret
 exact ⟨rfl,by rw [e.out]; exact hS.out⟩
end
end Go.Proofs.YtpobbnllcoabhaaGreatDoor.Sw
namespace Go.Proofs.YtpobbnllcoabhaaGreatDoor.Sw
open Go Go.RowKit Hp K Fl Rw Hm Ar Mm Me Qs Wk Pn
set_option maxRecDepth 100000
section
variable {w w':World} {M:Mo} {a:Sc} {G:Sh}
def Lkd (w wx:World) (nd:Nd) (p e:Value):Prop:=
 ∃ b,p=ptr b∧e=.int .i64 0∧w.heap.size≤b∧Blk wx b 139 #[.string nd.key,.string nd.val,.int .u32 nd.sum,.int .u64 nd.next]∧Below w.heap.size w wx
theorem met_run {B:Nat} {ms:List Nat} (h:Me.Met w B ms) (hl:ms.length≤1000000) {y:Nat} (hy:y≤18446744073709551615):
 ∃ w',(Instr.mapUpdate 151 (.map (some B)) (.int .u64 y) (.bool true)).run Tryz.prog w=.ok () w'∧Me.Met w' B (y::ms)∧Only (·=B) w w':=by
 obtain ⟨n,D,hM,hn,hat⟩:=h
 obtain ⟨w',hrun,hM',hg⟩:=hM.update keyed Tryz.underlying151 (by unfold maxLen; omega) (mkey hy) (plainElem_bool Tryz.underlying4 true)
 exact ⟨w',hrun,met_put hy hM hM' hn hat,(Only.refl (·=B) w).grown hg (fun z hz=>.inl (by injection hz with hz; exact hz.symm))⟩
set_option maxHeartbeats 4000000 in
theorem read_step (hM:MemAt w M) (h:ShAt w a G) (h5:G.nx=5) (live:IsAt M.ss G.at_ ((G.at_-1) % 65536)) (hat:G.at_≤18446744073709551615) (hnx:0≤(at' M.ss ((G.at_-1) % 65536)).nd.next∧(at' M.ss ((G.at_-1) % 65536)).nd.next≤18446744073709551615)
 (hml:G.met.length≤100000) (hsec:G.sec≤18446744073709551615) (hb:G.bucket≤1000000) (hn:G.nw.1≤1000000):
 Calls Tryz.prog 194 #[ptr a.f,ptr M.m] w fun e w'=>e=.returned (.bool false)∧shL.Stp w M a G (lm M) (comeTo {G with la:=G.at_,met:=G.at_::G.met} (at' M.ss ((G.at_-1) % 65536)).nd.next.toNat) w':=by
 have hR:=Lib.hid (fun (w1:World) (hb1:Below w.heap.size w w1)=>(read_ok (hM.below hb1).2.2.2.1 hat live).mono fun e w2 q=>show e=.returned (.tuple #[ndv (at' M.ss ((G.at_-1) % 65536)).nd,.int .i64 0])∧(Below w.heap.size w w2∧Below w1.heap.size w1 w2) from
  ⟨q.1,hb1.trans (q.2.mono hb1.size),q.2⟩)
 obtain ⟨hmv,hMet⟩:=h.c5 h5
 generalize hnd:(at' M.ss ((G.at_-1) % 65536)).nd=nd at*
 have c12:=h.blk.cell 12
 simp only [shc,List.getElem?_toArray,List.getElem?_cons_succ,List.getElem?_cons_zero] at c12
 have d2:=hM.hd.2.2.1
 have lM:=hM.1.lt
 have lG:=h.blk.lt
 have HM:=Lib.hid hM
 have HG:=Lib.hid h
 have nm:=World.new_ne w ⟨M.m,2,none⟩ d2
 have nw:=World.new_ne w ⟨a.f,12,none⟩ c12
 unfold ndv at hR
 replace live:=Lib.hid live
 replace hnx:=Lib.hid hnx
 replace hml:=Lib.hid hml
 replace hsec:=Lib.hid hsec
 replace hb:=Lib.hid hb
 replace hn:=Lib.hid hn
 replace hat:=Lib.hid hat
 replace h5:=Lib.hid h5
 replace hMet:=Lib.hid hMet
 replace hmv:=Lib.hid hmv
 replace hnd:=Lib.hid hnd
 clear hM h
 go_enter Tryz.func194,Tryz.ntmps194
 go_upto_region 1 with (fail)
 go_cut [5,6] (fun p e wx=>Lkd w wx nd p e)
 case first=>
  go_region_held3 (fun w'=>w'.cell? ⟨M.m,2,none⟩=some (ptr M.ar)∧w'.cell? ⟨a.f,12,none⟩=some (.int .u64 G.at_)) (go_keep)
   (first
     | (go_at_call 110
        refine (hR.out w.drew ⟨rfl,rfl,rfl,Nat.le_refl _,fun _ _=>rfl⟩).mono ?_
        rintro e w2 ⟨rfl,hb2,_⟩
        have d2':=(hb2.cell (p:=⟨M.m,2,none⟩) lM).trans d2
        have c12':=(hb2.cell (p:=⟨a.f,12,none⟩) lG).trans c12
        have hs2:=hb2.size
        replace hb2:=Lib.hid hb2)
     | (go_at_call 110
        refine (hR.out (w.alloc (.cells #[.string ⟨#[]⟩,.string ⟨#[]⟩,.int .u32 0,.int .u64 0] 139)).drew (((Below.refl w.heap.size w).alloc (Nat.le_refl _) _).trans ⟨rfl,rfl,rfl,by simp,fun _ _=>rfl⟩)).mono ?_
        rintro e w2 ⟨rfl,hb2,hb3⟩
        have hB2:Blk w2 w.heap.size 139 #[.string ⟨#[]⟩,.string ⟨#[]⟩,.int .u32 0,.int .u64 0]:=Blk.only (w:=(w.alloc (.cells #[.string ⟨#[]⟩,.string ⟨#[]⟩,.int .u32 0,.int .u64 0] 139)).drew) (Blk.made w _ _) (Only.ofBelow hb3 (fun _=>False)) (by simp)
        have d2':=(hb2.cell (p:=⟨M.m,2,none⟩) lM).trans d2
        have c12':=(hb2.cell (p:=⟨a.f,12,none⟩) lG).trans c12
        have hs2:=hb2.size
        have k0:=hB2.cell 0
        have k1:=hB2.cell 1
        have k2:=hB2.cell 2
        have k3:=hB2.cell 3
        simp at k0 k1 k2 k3
        have y0:=hB2.frozen 0
        have y1:=hB2.frozen 1
        have y2:=hB2.frozen 2
        have y3:=hB2.frozen 3
        replace hb2:=Lib.hid hb2
        replace hB2:=Lib.hid hB2))
  all_goals
   go_wp2_with fail
   go_meet
   first
    | exact ⟨_,rfl,rfl,hs2,Blk.made w2 _ _,hb2.out.alloc hs2 _⟩
    | exact ⟨_,rfl,rfl,Nat.le_refl _,(((hB2.out.store 0 _).store 1 _).store 2 _).store 3 _,(((hb2.out.setCell (p:=⟨w.heap.size,0,none⟩) (Nat.le_refl _) _).setCell (p:=⟨w.heap.size,1,none⟩) (Nat.le_refl _) _).setCell (p:=⟨w.heap.size,2,none⟩) (Nat.le_refl _) _).setCell (p:=⟨w.heap.size,3,none⟩) (Nat.le_refl _) _⟩
 case rest=>
  obtain ⟨b,rfl,rfl,hb0,hB,hb1⟩:=hcut
  clear hR c12 d2 nm nw
  have hG1:Own wc a G:=HG.out.blk.only (Only.ofBelow hb1 (fun _=>False)) (by simp)
  have hM1:Me.Met wc a.B G.met:=hMet.out.only (Only.ofBelow hb1 (fun _=>False)) (by simp)
  have c12:=hG1.cell 12
  have c13:=hG1.cell 13
  have z13:=hG1.frozen 13
  simp only [shc,List.getElem?_toArray,List.getElem?_cons_succ,List.getElem?_cons_zero] at c12 c13
  obtain ⟨z,hz⟩:=Int.eq_ofNat_of_zero_le hnx.out.1
  rw [hz] at hB
  have hzb:=Lib.hid (show z≤18446744073709551615 by have:=hnx.out; omega)
  have hnz:Hid (nd.next.toNat=z):=Lib.hid (by rw [hz]; rfl)
  have hG2:Own (wc.setCell ⟨a.f,13,none⟩ (.int .u64 G.at_)) a {G with la:=G.at_}:=hG1.store 13 (.int .u64 G.at_)
  have hO2:=only1 (c:=a.f) wc 13 (.int .u64 G.at_)
  have hBf:=own_B hG1 hM1
  have hM2:=hM1.only hO2 hBf
  have hbf:b≠a.f:=fun e=>by have:=HG.out.blk.lt; omega
  have hbB:b≠a.B:=fun e=>by have:=hMet.out.lt; omega
  have hN2:=hB.only hO2 hbf
  have hOw:=(Only.ofBelow hb1 (sfoot a G)).trans' hO2 (fun x _ q=>.inl q)
  replace hG1:=Lib.hid hG1
  replace hM1:=Lib.hid hM1
  replace hB:=Lib.hid hB
  replace hb1:=Lib.hid hb1
  replace hG2:=Lib.hid hG2
  replace hO2:=Lib.hid hO2
  replace hM2:=Lib.hid hM2
  replace hN2:=Lib.hid hN2
  replace hOw:=Lib.hid hOw
  go_upto_region 6 with (fail)
  generalize wc.setCell ⟨a.f,13,none⟩ (.int .u64 (G.at_:Int))=w2 at*
  clear c12 c13 z13 hG1 hM1 hB hb1 hO2
  have c12:=hG2.out.cell 12
  have c14:=hG2.out.cell 14
  simp only [shc,List.getElem?_toArray,List.getElem?_cons_succ,List.getElem?_cons_zero,hmv.out] at c12 c14
  obtain ⟨w3,hrun,hM3,hO3⟩:=met_run (hM2.out.only ((Only.refl (fun _=>False) w2).drew) (by simp)) (by have:=hml.out; omega) hat.out
  have hG3:Own w3 a {G with la:=G.at_,met:=G.at_::G.met}:=(hG2.out.only ((Only.refl (fun _=>False) w2).drew) (by simp)).only hO3 hBf.symm
  have hN3:=(hN2.out.only ((Only.refl (fun _=>False) w2).drew) (by simp)).only hO3 hbB
  have p12:=hG3.cell 12
  have p14:=hG3.cell 14
  have k3:=hN3.cell 3
  simp only [shc,List.getElem?_toArray,List.getElem?_cons_succ,List.getElem?_cons_zero,hmv.out] at p12 p14 k3
  have hC:=Lib.hid (comeTo_any hG3 hmv.out hM3 hsec.out hb.out hn.out hzb.out)
  have hOw3:=Lib.hid ((hOw.out.drew).trans' hO3 (fun x _ q=>.inr (.inl ⟨h5.out,q⟩)))
  replace hM3:=Lib.hid hM3
  clear hO3 hG3 hN3
  go_region_held3 (fun w'=>w'.cell? ⟨a.f,12,none⟩=some (.int .u64 G.at_)∧w'.cell? ⟨a.f,14,none⟩=some (.map (some a.B))) (go_keep)
   (fail)
  clear hrun c12 c14 p12 p14
  go_wp2_with fail
  refine hC.out.mono ?_
  rintro e w4 ⟨rfl,hG4,hO4⟩
  have hS:Hid (shL.Stp w M a G (lm M) (comeTo {G with la:=G.at_,met:=G.at_::G.met} z) w4):=Lib.hid (by
   have hA:=come_at hG4 hmv.out (hM3.out.only hO4 hBf)
   refine stp_same HM.out (a':=a) hA rfl ?_ HG.out (hOw3.out.trans' hO4 (fun x _ q=>.inl q)) (fun x q=>q)
   rintro x (q | ⟨_,q⟩ | ⟨q,_⟩)
   · exact .inl (.inl q)
   · exact .inl (.inr (.inl ⟨h5.out,q⟩))
   · exfalso
     unfold comeTo at q
     split at q
     · exact (endFirst_nx _).2 q
     · simp at q)
  clear hC hG4 hO4 k3
  go_wp2_with fail
  go_ret
  exact ⟨rfl,by rw [hnz.out]; exact hS.out⟩
end
end Go.Proofs.YtpobbnllcoabhaaGreatDoor.Sw
namespace Go.Proofs.YtpobbnllcoabhaaGreatDoor.Sw
open Go Go.RowKit Hp K Fl Rw Hm Ar Mm Me Qs Wk Pn
set_option maxRecDepth 100000
section
variable {w w':World} {M:Mo} {a:Sc} {G:Sh}
theorem lnk_eq {ss:List Sl} {x y k:Nat} (hl:ss.length≤1024) (hk:IsAt ss x k):Pu.lnk ss x y=ss.set k {at' ss k with nd:={(at' ss k).nd with next:=(y:Int)}}:=by
 unfold Pu.lnk
 rw [(isAt_parts hl hk).1]
def Linked (w:World) (M:Mo) (a:Sc) (G:Sh) (x y:Nat) (w':World):Prop:=MemAt w' {M with ss:=Pu.lnk M.ss x y}∧ShAt w' a G∧Only (mfoot M) w w'
theorem linked_any (hM:MemAt w M) (h:ShAt w a G) {x k:Nat} (hx:x≤18446744073709551615) (hk:IsAt M.ss x k) (y:Nat) (w1:World) (h0:Only (fun _=>False) w w1):
 Calls Tryz.prog 158 #[ptr M.ar,.int .u64 x,.int .u64 y] w1 fun e w'=>e=.returned (.int .i64 0)∧Linked w M a G x y w':=by
 have hM0:MemAt w1 M:=hM.only h0 (by simp)
 refine (link_ok hM0.2.2.2.1 hx hk (y:Int)).mono fun e w' q=>?_
 have ho:Only (mfoot M) w w':=(h0.mono (fun x _ q=>q.elim)).trans' q.2.2 (fun x _ q=>.inr (.inr (.inr (.inl q))))
 refine ⟨q.1,?_,h.only ho (fun x hx q=>h.far hM hx q),ho⟩
 rw [lnk_eq hM.2.2.2.1.room.2 hk]
 exact hM0.arena q.2.1 q.2.2
set_option maxHeartbeats 2000000 in
theorem join_step (hM:MemAt w M) (h:ShAt w a G) {k:Nat} (hx:G.la≤18446744073709551615) (hk:IsAt M.ss G.la k) (hb:G.bucket≤1000000) (hn:G.nw.1≤1000000):
 Calls Tryz.prog 198 #[ptr a.f,ptr M.m] w fun e w'=>e=.returned (.bool false)∧shL.Stp w M a G {lm M with ss:=Pu.lnk M.ss G.la G.sec} (toStore G) w':=by
 have hLk:=Lib.hid (linked_any hM h hx hk G.sec)
 have c11:=h.blk.cell 11
 have c13:=h.blk.cell 13
 simp only [shc,List.getElem?_toArray,List.getElem?_cons_succ,List.getElem?_cons_zero] at c11 c13
 have d2:=hM.hd.2.2.1
 have HM:=Lib.hid hM
 have HG:=Lib.hid h
 clear hM h
 go_enter Tryz.func198,Tryz.ntmps198
 go_wp2_with fail
 go_region_held3 (fun w'=>w'.cell? ⟨M.m,2,none⟩=some (ptr M.ar)∧w'.cell? ⟨a.f,11,none⟩=some (.int .u64 G.sec)∧w'.cell? ⟨a.f,13,none⟩=some (.int .u64 G.la)) (go_keep)
  (first
    | (go_at_call 158
       refine (hLk.out (w.drewN 1) ((Only.refl (fun _=>False) w).drewN 1)).mono ?_
       rintro e w1 ⟨rfl,hM1,hG1,hOw⟩
       have p11:=hG1.blk.cell 11
       have p13:=hG1.blk.cell 13
       have p2:=hM1.hd.2.2.1
       simp only [shc,List.getElem?_toArray,List.getElem?_cons_succ,List.getElem?_cons_zero] at p11 p13
       have hT:=Lib.hid (toStore_any hG1.blk hb hn)
       replace hM1:=Lib.hid hM1
       replace hG1:=Lib.hid hG1
       replace hOw:=Lib.hid hOw
       clear hLk))
 clear p11 p13 p2
 go_wp2_with fail
 refine hT.out.mono ?_
 rintro e w2 ⟨rfl,hB2,hO2⟩
 have hE:Hid (shL.Stp w M a G {lm M with ss:=Pu.lnk M.ss G.la G.sec} (toStore G) w2):=Lib.hid
  ⟨_,a,hM1.out.only hO2 (fun x hx e=>hG1.out.far hM1.out (x:=a.f) (.inl rfl) (e▸hx)),rfl,⟨rfl,rfl,rfl,rfl,fun x q=>.inl q⟩,ShAt.plain hB2 (toStore_nx _),rfl,sfoot_plain (toStore_nx _),
   (hOw.out.mono (fun x _ q=>(.inl q:mfoot M x∨sfoot a G x))).trans' hO2 (fun x _ q=>.inr (.inl q))⟩
 clear hB2 hO2 hT
 go_wp2_with fail
 go_ret
 exact ⟨rfl,hE.out⟩
def Stored (w:World) (M:Mo) (a:Sc) (G:Sh) (k x:Nat) (w':World):Prop:=MemAt w' {M with xs:=M.xs.set k (x:Int)}∧ShAt w' a G∧Only (mfoot M) w w'
theorem stored_any (hM:MemAt w M) (h:ShAt w a G) (k:Nat) (hk:k<M.xs.length) (x:Nat) (hx:x≤18446744073709551615) (w1:World) (h0:Only (fun _=>False) w w1):
 Calls Tryz.prog 21 #[ptr M.g,.int .i64 k,.int .u64 x] w1 fun e w'=>e=.returned (.int .i64 0)∧Stored w M a G k x w':=
 (Cl.store_in (hM.only h0 (by simp)).2.1 k hk (x:Int) (by omega) (by omega)).mono fun e w' q=>by
   have ho:Only (mfoot M) w w':=(h0.mono (fun x _ q=>q.elim)).trans' q.2.2 (fun x _ q=>.inr (.inl q))
   exact ⟨q.1,(hM.only h0 (by simp)).cells q.2.1 q.2.2,h.only ho (fun x hx q=>h.far hM hx q),ho⟩
set_option maxHeartbeats 2000000 in
theorem store_step (hM:MemAt w M) (h:ShAt w a G) (hx:G.nw.2+G.bucket<M.xs.length) (hf:G.fi≤18446744073709551615) (hw:G.nw.2≤4000000) (hb:G.bucket≤1000000) (hn:G.nw.1≤1000000):
 Calls Tryz.prog 192 #[ptr a.f,ptr M.m] w fun e w'=>e=.returned (.bool false)∧shL.Stp w M a G {lm M with xs:=M.xs.set (G.nw.2+G.bucket) ((G.fi:Nat):Int)} (toNext G) w':=by
 have hSt:=stored_any hM h (G.nw.2+G.bucket) hx G.fi hf
 have e1:((G.nw.2+G.bucket:Nat):Int)=(G.nw.2:Int)+(G.bucket:Int):=by omega
 rw [e1] at hSt
 have ew:IntKind.i64.wrap ((G.nw.2:Int)+(G.bucket:Int))=(G.nw.2:Int)+(G.bucket:Int):=IntWalk.i64_in _ (by omega)
 have c7:=h.blk.cell 7
 have c9:=h.blk.cell 9
 have c10:=h.blk.cell 10
 simp only [shc,List.getElem?_toArray,List.getElem?_cons_succ,List.getElem?_cons_zero] at c7 c9 c10
 have d0:=hM.hd.1
 replace hSt:=Lib.hid hSt
 have HM:=Lib.hid hM
 have HG:=Lib.hid h
 clear hM h hx e1
 go_enter Tryz.func192,Tryz.ntmps192
 go_wp2_with fail
 go_region_held3 (fun w'=>w'.cell? ⟨M.m,0,none⟩=some (ptr M.g)∧w'.cell? ⟨a.f,7,none⟩=some (.int .i64 G.nw.2)∧w'.cell? ⟨a.f,9,none⟩=some (.int .i64 G.bucket)∧w'.cell? ⟨a.f,10,none⟩=some (.int .u64 G.fi)) (go_keep)
  (first
    | (go_at_call 21
       refine (hSt.out (w.drewN 1) ((Only.refl (fun _=>False) w).drewN 1)).mono ?_
       rintro e w1 ⟨rfl,hM1,hG1,hOw⟩
       have p7:=hG1.blk.cell 7
       have p9:=hG1.blk.cell 9
       have p10:=hG1.blk.cell 10
       have p0:=hM1.hd.1
       simp only [shc,List.getElem?_toArray,List.getElem?_cons_succ,List.getElem?_cons_zero] at p7 p9 p10
       have hT:=Lib.hid (toNext_any hG1.blk hb hn)
       replace hM1:=Lib.hid hM1
       replace hG1:=Lib.hid hG1
       replace hOw:=Lib.hid hOw
       clear hSt))
 clear p7 p9 p10 p0
 go_wp2_with fail
 refine hT.out.mono ?_
 rintro e w2 ⟨rfl,hB2,hO2⟩
 have hE:Hid (shL.Stp w M a G {lm M with xs:=M.xs.set (G.nw.2+G.bucket) ((G.fi:Nat):Int)} (toNext G) w2):=Lib.hid
  ⟨_,a,hM1.out.only hO2 (fun x hx e=>hG1.out.far hM1.out (x:=a.f) (.inl rfl) (e▸hx)),rfl,⟨rfl,rfl,rfl,rfl,fun x q=>.inl q⟩,ShAt.plain hB2 (toNext_nx _),rfl,sfoot_plain (toNext_nx _),
   (hOw.out.mono (fun x _ q=>(.inl q:mfoot M x∨sfoot a G x))).trans' hO2 (fun x _ q=>.inr (.inl q))⟩
 clear hB2 hO2 hT
 go_wp2_with fail
 go_ret
 exact ⟨rfl,hE.out⟩
set_option maxHeartbeats 2000000 in
theorem count_step (hM:MemAt w M) (h:ShAt w a G) (hx:1<M.xs.length) (hn:0≤G.num∧G.num≤1000000):
 Calls Tryz.prog 197 #[ptr a.f,ptr M.m] w fun e w'=>e=.returned (.bool false)∧shL.Stp w M a G {lm M with xs:=M.xs.set 1 G.num} {G with W:=⟨G.worker,0,0,0⟩,nx:=9} w':=by
 obtain ⟨z,hz⟩:=Int.eq_ofNat_of_zero_le hn.1
 have c8:=h.blk.cell 8
 simp only [shc,List.getElem?_toArray,List.getElem?_cons_succ,List.getElem?_cons_zero] at c8
 have hSt:=stored_any hM h 1 hx z (by omega)
 rw [hz] at c8
 have ez:IntKind.u64.wrap (z:Int)=z:=by rw [IntKind.wrap_u64]; omega
 have d0:=hM.hd.1
 replace hSt:=Lib.hid hSt
 have hSy:=Lib.hid (sync_any G.worker)
 have HM:=Lib.hid hM
 have HG:=Lib.hid h
 replace hz:=Lib.hid hz
 clear h hM hn
 go_enter Tryz.func197,Tryz.ntmps197
 go_wp2_with fail
 go_region_held3 (fun w'=>w'.cell? ⟨M.m,0,none⟩=some (ptr M.g)∧w'.cell? ⟨a.f,8,none⟩=some (.int .i64 z)) (go_keep)
  (first
    | (go_at_call 21
       refine (hSt.out (w.drewN 1) ((Only.refl (fun _=>False) w).drewN 1)).mono ?_
       rintro e w1 ⟨rfl,hM1,hG1,hOw⟩
       have p0:=hG1.blk.cell 0
       have p8:=hG1.blk.cell 8
       have p00:=hM1.hd.1
       simp only [shc,List.getElem?_toArray,List.getElem?_cons_succ,List.getElem?_cons_zero,hz.out] at p0 p8
       replace hM1:=Lib.hid hM1
       replace hG1:=Lib.hid hG1
       replace hOw:=Lib.hid hOw
       clear hSt))
 clear p8 p00
 go_wp2_with fail
 refine (hSy.out _).mono ?_
 rintro e w2 ⟨rfl,hW2,hb2⟩
 obtain ⟨b,hb⟩:∃ b,b=w1.heap.size:=⟨_,rfl⟩
 rw [← hb] at hW2 ⊢
 have hG2:Own w2 a G:=hG1.out.blk.only (Only.ofBelow hb2 (fun _=>False)) (by simp)
 have d1:=hG2.cell 1
 have d2:=hG2.cell 2
 have y1:=hG2.frozen 1
 have y2:=hG2.frozen 2
 simp only [shc,List.getElem?_toArray,List.getElem?_cons_succ,List.getElem?_cons_zero] at d1 d2
 have hE:Own ((w2.setCell ⟨a.f,1,none⟩ (wfm 200 (ptr b))).setCell ⟨a.f,2,none⟩ (wfm 201 (ptr b))) {a with w:=b} {G with W:=⟨G.worker,0,0,0⟩,nx:=9}:=
  (hG2.store 1 (wfm 200 (ptr b))).store 2 (wfm 201 (ptr b))
 have hO2:=only2 (c:=a.f) w2 1 2 (wfm 200 (ptr b)) (wfm 201 (ptr b))
 have hO3:=(Only.ofBelow hb2 (·=a.f)).trans hO2
 have hne:b≠a.f:=fun e=>by have:=hG1.out.blk.lt; omega
 have hW3:=hW2.only hO2 hne
 have hS:Hid (shL.Stp w M a G {lm M with xs:=M.xs.set 1 (z:Int)} {G with W:=⟨G.worker,0,0,0⟩,nx:=9} ((w2.setCell ⟨a.f,1,none⟩ (wfm 200 (ptr b))).setCell ⟨a.f,2,none⟩ (wfm 201 (ptr b)))):=Lib.hid (by
  refine ⟨_,{a with w:=b},hM1.out.only hO3 (fun x hx e=>hG1.out.far hM1.out (x:=a.f) (.inl rfl) (e▸hx)),rfl,⟨rfl,rfl,rfl,rfl,fun x q=>.inl q⟩,⟨hE,fun q=>by simp at q,fun _=>hW3⟩,rfl,fun x hx=>?_,(hOw.out.mono (fun x _ q=>(.inl q:mfoot M x∨sfoot a G x))).trans' hO3 (fun x _ q=>.inr (.inl q))⟩
  rcases hx with q | ⟨q,_⟩ | ⟨_,q⟩
  · exact .inl (.inl q)
  · simp at q
  · have hs:=hOw.out.size
    rw [q]
    exact .inr (by show w.heap.size≤b; omega))
 generalize srv a G.nx=u1 at*
 generalize snv a G.nx=u2 at*
 clear hSy hW2 hb2 hG2 hE hO2 hO3 hne hW3 p0 hb
 go_wp2_with fail
 go_ret
 exact ⟨rfl,by
  have q:=hS.out
  rw [← hz.out] at q
  exact q⟩
theorem wait_stp {n:Nat} (hM:MemAt w M) (h:ShAt w a G) (h9:G.nx=9) (hn:M.k=n) (ok:Okw n M.xs M.hs G.W) (hr:readyB M.xs M.hs G.W=true):
 Calls Tryz.prog 201 #[ptr a.w,ptr M.m] w fun e w'=>e=.returned (.bool (decide (G.W.at_=3)))∧
  shL.Stp w M a G {lm M with xs:=(wstep n M.xs M.hs G.W).1,hs:=(wstep n M.xs M.hs G.W).2.1} {G with W:=(wstep n M.xs M.hs G.W).2.2} w':=by
 have hW:=h.wt h9
 refine (wait_step hM hW hn ok hr).mono fun e w1 q=>⟨q.1,_,a,q.2.1,rfl,⟨rfl,rfl,rfl,rfl,fun x q=>.inl q⟩,⟨h.blk.only q.2.2.2 ?_,fun q=>by simp only at q; omega,fun _=>q.2.2.1⟩,rfl,fun x q=>.inl q,q.2.2.2.mono (fun x _ y=>y.imp id (fun e=>.inr (.inr ⟨h9,e⟩)))⟩
 rintro (q | q)
 · exact h.far hM (.inl rfl) q
 · exact h.blk.differ hW (by decide) q
end
end Go.Proofs.YtpobbnllcoabhaaGreatDoor.Sw
namespace Go.Proofs.YtpobbnllcoabhaaGreatDoor.Sw
open Go Go.RowKit Hp K Fl Rw Hm Ar Mm Me Qs Wk Pn
set_option maxRecDepth 100000
def newShr (k:Int):Sh:=⟨k,1,0,(0,0),(0,0),0,0,0,0,0,0,[],⟨0,0,0,0⟩⟩
theorem goOn_at {w:World} {f F:Nat} {b:Array Value} {u1 u2:Value} (c1:w.cell? ⟨f,1,none⟩=some u1) (c2:w.cell? ⟨f,2,none⟩=some u2) (z1:w.frozen? ⟨f,1,none⟩=false) (z2:w.frozen? ⟨f,2,none⟩=false):
 Calls Tryz.prog 81 #[ptr f,.func (.func F) b #[]] w fun e w'=>e=.returned (.tuple #[])∧w'=(w.setCell ⟨f,1,none⟩ (wf0 111)).setCell ⟨f,2,none⟩ (.func (.func F) b #[]):=by
 go_enter Tryz.func81,Tryz.ntmps81
 go_wp2
 go_end0
 exact ⟨rfl,rfl⟩
theorem new_shrink (k:Int) (w:World):Calls Tryz.prog 52 #[.int .i64 k] w fun e w'=>∃ a:Sc,e=.returned (ptr a.f)∧ShAt w' a (newShr k)∧(∀ x,sfoot a (newShr k) x→w.heap.size≤x)∧Below w.heap.size w w':=by
 obtain ⟨w2,hw2⟩:∃ w2,w2=w.alloc (.cells #[.int .i64 k,.nilFunc,.nilFunc,.int .i64 0,.int .i64 0,.int .i64 0,.int .i64 0,.int .i64 0,.int .i64 0,.int .i64 0,.int .u64 0,.int .u64 0,.int .u64 0,.int .u64 0,.map none] 154):=⟨_,rfl⟩
 have hF2:Blk w2 w.heap.size 154 #[.int .i64 k,.nilFunc,.nilFunc,.int .i64 0,.int .i64 0,.int .i64 0,.int .i64 0,.int .i64 0,.int .i64 0,.int .i64 0,.int .u64 0,.int .u64 0,.int .u64 0,.int .u64 0,.map none]:=by rw [hw2]; exact Blk.made w _ _
 have hB2:Below w.heap.size w w2:=by rw [hw2]; exact (Below.refl _ _).alloc (Nat.le_refl _) _
 obtain ⟨f,hf⟩:∃ f,f=w.heap.size:=⟨_,rfl⟩
 rw [← hf] at hF2
 have hfw:w.heap.size≤f:=by omega
 have hgo:=Lib.hid (goOn_at (F:=82) (b:=#[ptr f]) (hF2.cell 1) (hF2.cell 2) (hF2.frozen 1) (hF2.frozen 2))
 have hE:Hid (ShAt ((w2.setCell ⟨f,1,none⟩ (wf0 111)).setCell ⟨f,2,none⟩ (wfm 82 (ptr f))) ⟨f,.map none,0,0⟩ (newShr k)):=Lib.hid
  ⟨(hF2.store 1 (wf0 111)).store 2 (wfm 82 (ptr f)),fun q=>by simp [newShr] at q,fun q=>by simp [newShr] at q⟩
 have hlo:Hid (∀ x,sfoot ⟨f,.map none,0,0⟩ (newShr k) x→w.heap.size≤x):=Lib.hid (by
  rintro x (rfl | ⟨q,_⟩ | ⟨q,_⟩)
  · exact hfw
  · simp [newShr] at q
  · simp [newShr] at q)
 have hB:=Lib.hid ((hB2.setCell (p:=⟨f,1,none⟩) hfw (wf0 111)).setCell (p:=⟨f,2,none⟩) hfw (wfm 82 (ptr f)))
 clear hF2 hB2 hfw
 go_enter Tryz.func52,Tryz.ntmps52
 go_upto_region 2 with (fail)
 rw [← hw2,← hf]
 clear hw2 hf
 go_wp2_with fail
 refine hgo.out.mono ?_
 rintro e w1 ⟨rfl,hw1⟩
 rw [← hw1] at hE hB
 clear hw1 hgo
 go_wp2_with fail
 go_ret
 exact ⟨_,rfl,hE.out,hlo.out,hB.out⟩
theorem err_any {w:World} {a:Sc} {G:Sh} (h:ShAt w a G):Calls Tryz.prog 53 #[ptr a.f] w fun e w'=>e=.returned (.int .i64 G.err)∧w'=w:=by
 have c3:=h.blk.cell 3
 simp only [shc,List.getElem?_toArray,List.getElem?_cons_succ,List.getElem?_cons_zero] at c3
 clear h
 go_enter Tryz.func53,Tryz.ntmps53
 go_wp2_with fail
 go_ret
 exact ⟨rfl,rfl⟩
theorem sstep_fm {w:World} {F f:Nat} {cv m:Value} {c:Bool} {P:World→Prop} (c2:w.cell? ⟨f,2,none⟩=some (wfm F cv)) (eF:∀ args w,(callFunc F args).run Tryz.prog w=.ok (.enter F args) w)
 (hF:Calls Tryz.prog F #[cv,m] w fun e w'=>e=.returned (.bool c)∧P w'):Calls Tryz.prog 253 #[ptr f,m] w fun e w'=>e=.returned (.bool c)∧P w':=by
 replace hF:=Lib.hid hF
 go_enter Tryz.func253,Tryz.ntmps253
 go_wp2_with fail
 refine hF.out.mono ?_
 rintro e w' ⟨rfl,hPw⟩
 replace hPw:=Lib.hid hPw
 clear c2
 go_wp2_with fail
 go_ret
 exact ⟨rfl,hPw.out⟩
theorem sready_f0 {w:World} {f:Nat} {m:Value} (c1:w.cell? ⟨f,1,none⟩=some (wf0 111)):Calls Tryz.prog 252 #[ptr f,m] w fun e w'=>e=.returned (.bool true)∧Below w.heap.size w w':=by
 have eF:∀ args w,(callFunc 111 args).run Tryz.prog w=.ok (.enter 111 args) w:=fun _ _=>by kernel_rfl
 have hA:=Lib.hid (always_any m w)
 go_enter Tryz.func252,Tryz.ntmps252
 go_wp2_with fail
 refine hA.out.mono ?_
 rintro e w' ⟨rfl,hw⟩
 obtain rfl:w=w':=hw.symm
 clear hA c1
 go_wp2_with fail
 go_ret
 exact ⟨rfl,Below.refl _ _⟩
theorem sready_fm {w:World} {F f:Nat} {cv m:Value} {c:Bool} (c1:w.cell? ⟨f,1,none⟩=some (wfm F cv)) (eF:∀ args w,(callFunc F args).run Tryz.prog w=.ok (.enter F args) w)
 (hF:Calls Tryz.prog F #[cv,m] w fun e w'=>e=.returned (.bool c)∧∃ n,w'=w.drewN n):Calls Tryz.prog 252 #[ptr f,m] w fun e w'=>e=.returned (.bool c)∧Below w.heap.size w w':=by
 replace hF:=Lib.hid hF
 go_enter Tryz.func252,Tryz.ntmps252
 go_wp2_with fail
 refine hF.out.mono ?_
 rintro e w' ⟨rfl,n,rfl⟩
 clear c1
 go_wp2_with fail
 go_ret
 exact ⟨rfl,rfl,rfl,rfl,Nat.le_refl _,fun _ _=>rfl⟩
theorem enters_s1 (args:Array Value) (w:World):(callFunc 82 args).run Tryz.prog w=.ok (.enter 82 args) w:=by kernel_rfl
theorem enters_s2 (args:Array Value) (w:World):(callFunc 112 args).run Tryz.prog w=.ok (.enter 112 args) w:=by kernel_rfl
theorem enters_s3 (args:Array Value) (w:World):(callFunc 146 args).run Tryz.prog w=.ok (.enter 146 args) w:=by kernel_rfl
theorem enters_s4 (args:Array Value) (w:World):(callFunc 168 args).run Tryz.prog w=.ok (.enter 168 args) w:=by kernel_rfl
theorem enters_s5 (args:Array Value) (w:World):(callFunc 194 args).run Tryz.prog w=.ok (.enter 194 args) w:=by kernel_rfl
theorem enters_s6 (args:Array Value) (w:World):(callFunc 198 args).run Tryz.prog w=.ok (.enter 198 args) w:=by kernel_rfl
theorem enters_s7 (args:Array Value) (w:World):(callFunc 192 args).run Tryz.prog w=.ok (.enter 192 args) w:=by kernel_rfl
theorem enters_s8 (args:Array Value) (w:World):(callFunc 197 args).run Tryz.prog w=.ok (.enter 197 args) w:=by kernel_rfl
theorem enters_s9 (args:Array Value) (w:World):(callFunc 201 args).run Tryz.prog w=.ok (.enter 201 args) w:=by kernel_rfl
theorem enters_sw (args:Array Value) (w:World):(callFunc 200 args).run Tryz.prog w=.ok (.enter 200 args) w:=by kernel_rfl
section
variable {w w':World} {M:Mo} {a:Sc} {G:Sh}
theorem shr_ready (hM:MemAt w M) (h:ShAt w a G) (ok:Oksh (lm M) G):Calls Tryz.prog 252 #[ptr a.f,ptr M.m] w fun e w'=>e=.returned (.bool (sready (lm M) G))∧Below w.heap.size w w':=by
 have c1:=(own_hd h.blk).2.1
 unfold srv at c1
 unfold sready
 by_cases h9:G.nx=9
 · rw [if_pos h9] at c1 ⊢
   obtain ⟨o1,o2⟩:=ok.c9 h9
   have hp:=o2.passed
   have hx:M.k.toNat+2≤M.xs.length:=o2.xl
   have hp2:G.W.at_≤2→G.W.passed<M.k.toNat:=hp.2
   exact sready_fm c1 enters_sw (Qs.ready_any hM (h.wt h9) o2.hl (fun q=>by have:=hp2 (by omega); exact ⟨by omega,by omega⟩) (by have:=o2.at_; omega))
 · rw [if_neg h9] at c1 ⊢
   exact sready_f0 c1
theorem shr_step (hM:MemAt w M) (h:ShAt w a G) (ok:Oksh (lm M) G) (hr:sready (lm M) G=true):
 Calls Tryz.prog 253 #[ptr a.f,ptr M.m] w fun e w'=>e=.returned (.bool (sdone (lm M) G))∧shL.Stp w M a G (sstep (lm M) G).1 (sstep (lm M) G).2 w':=by
 have c2:=(own_hd h.blk).2.2.1
 unfold snv at c2
 have hnx:=ok.nx
 have hbk:=ok.bk
 have hnw:=ok.nw
 have hhb:=ok.hb
 by_cases e1:G.nx=1
 · rw [if_pos e1] at c2
   rw [show sdone (lm M) G=false by unfold sdone; rw [if_neg (by omega),if_neg (by omega)]; simp; omega]
   exact sstep_fm c2 enters_s1 (load_step hM h ok.x1 e1)
 rw [if_neg e1] at c2
 obtain ⟨el1,el2⟩:=ok.el e1
 by_cases e2:G.nx=2
 · rw [if_pos e2] at c2
   have ed:sdone (lm M) G= !decide (FM.power ((G.el.1 / 2:Nat):Int)=true∧M.xs.length+G.el.1 / 2≤1048576):=by unfold sdone; rw [if_pos e2]
   by_cases hp:FM.power ((G.el.1 / 2:Nat):Int)=true∧M.xs.length+G.el.1 / 2≤1048576
   · have es:sstep (lm M) G=({lm M with xs:=M.xs++List.replicate (G.el.1 / 2) 0,ds:=M.ds++[(G.el.1 / 2,M.xs.length)]},{G with num:=M.ds.length,err:=0,nw:=(G.el.1 / 2,M.xs.length),nx:=3}):=by
      unfold sstep; rw [if_neg e1,if_pos e2,if_pos hp]
     rw [ed,es,show (!decide (FM.power ((G.el.1 / 2:Nat):Int)=true∧M.xs.length+G.el.1 / 2≤1048576))=false by simp only [decide_eq_true hp]; rfl]
     exact sstep_fm c2 enters_s2 (table_made hM h el1 ok.ds hp.1 hp.2)
   · have es:sstep (lm M) G=(lm M,{G with num:= -1,err:=if FM.power ((G.el.1 / 2:Nat):Int)=true then 2 else 5,nx:=10}):=by
      unfold sstep; rw [if_neg e1,if_pos e2,if_neg hp]
     rw [ed,es,show (!decide (FM.power ((G.el.1 / 2:Nat):Int)=true∧M.xs.length+G.el.1 / 2≤1048576))=true by simp only [decide_eq_false hp]; rfl]
     exact sstep_fm c2 enters_s2 (table_fails hM h el1 hp)
 rw [if_neg e2] at c2
 by_cases e3:G.nx=3
 · rw [if_pos e3] at c2
   rw [show sdone (lm M) G=false by unfold sdone; rw [if_neg (by omega),if_neg (by omega)]; simp; omega]
   have es:sstep (lm M) G=(lm M,{G with fi:=(Cl.nth M.xs (G.el.2+G.bucket)).toNat,nx:=4}):=by unfold sstep; rw [if_neg e1,if_neg e2,if_pos e3]
   rw [es]
   exact sstep_fm c2 enters_s3 (loadFirst_step hM h (ok.c3 e3) el2 hbk)
 rw [if_neg e3] at c2
 by_cases e4:G.nx=4
 · rw [if_pos e4] at c2
   rw [show sdone (lm M) G=false by unfold sdone; rw [if_neg (by omega),if_neg (by omega)]; simp; omega]
   have es:sstep (lm M) G=(lm M,begun {G with sec:=(Cl.nth M.xs (G.el.2+(G.bucket+G.nw.1))).toNat}):=by unfold sstep; rw [if_neg e1,if_neg e2,if_neg e3,if_pos e4]
   rw [es]
   exact sstep_fm c2 enters_s4 (loadSecond_step hM h (ok.c4 e4) el2 (by omega) (by omega) hhb.1)
 rw [if_neg e4] at c2
 by_cases e5:G.nx=5
 · rw [if_pos e5] at c2
   rw [show sdone (lm M) G=false by unfold sdone; rw [if_neg (by omega),if_neg (by omega)]; simp; omega]
   have es:sstep (lm M) G=(lm M,comeTo {G with la:=G.at_,met:=G.at_::G.met} (at' M.ss ((G.at_-1) % 65536)).nd.next.toNat):=by unfold sstep; rw [if_neg e1,if_neg e2,if_neg e3,if_neg e4,if_pos e5]
   rw [es]
   obtain ⟨o1,o2,o3,o4⟩:=ok.c5 e5
   exact sstep_fm c2 enters_s5 (read_step hM h e5 o1 o2 o3 o4 hhb.2 hbk (by omega))
 rw [if_neg e5] at c2
 by_cases e6:G.nx=6
 · rw [if_pos e6] at c2
   rw [show sdone (lm M) G=false by unfold sdone; rw [if_neg (by omega),if_neg (by omega)]; simp; omega]
   have es:sstep (lm M) G=({lm M with ss:=Pu.lnk M.ss G.la G.sec},toStore G):=by unfold sstep; rw [if_neg e1,if_neg e2,if_neg e3,if_neg e4,if_neg e5,if_pos e6]
   rw [es]
   obtain ⟨o1,k,o2⟩:=ok.c6 e6
   exact sstep_fm c2 enters_s6 (join_step hM h o1 o2 hbk (by omega))
 rw [if_neg e6] at c2
 by_cases e7:G.nx=7
 · rw [if_pos e7] at c2
   rw [show sdone (lm M) G=false by unfold sdone; rw [if_neg (by omega),if_neg (by omega)]; simp; omega]
   have es:sstep (lm M) G=({lm M with xs:=M.xs.set (G.nw.2+G.bucket) ((G.fi:Nat):Int)},toNext G):=by unfold sstep; rw [if_neg e1,if_neg e2,if_neg e3,if_neg e4,if_neg e5,if_neg e6,if_pos e7]
   rw [es]
   exact sstep_fm c2 enters_s7 (store_step hM h (ok.c7 e7) hhb.1 hnw.2 hbk (by omega))
 rw [if_neg e7] at c2
 by_cases e8:G.nx=8
 · rw [if_pos e8] at c2
   rw [show sdone (lm M) G=false by unfold sdone; rw [if_neg (by omega),if_neg (by omega)]; simp; omega]
   have es:sstep (lm M) G=({lm M with xs:=M.xs.set 1 G.num},{G with W:=⟨G.worker,0,0,0⟩,nx:=9}):=by unfold sstep; rw [if_neg e1,if_neg e2,if_neg e3,if_neg e4,if_neg e5,if_neg e6,if_neg e7,if_pos e8]
   rw [es]
   exact sstep_fm c2 enters_s8 (count_step hM h ok.x1 (ok.c8 e8))
 rw [if_neg e8] at c2
 have e9:G.nx=9:=by omega
 rw [if_pos e9] at c2
 have ed:sdone (lm M) G=decide (G.W.at_=3):=by unfold sdone; rw [if_neg (by omega),if_pos e9]
 have es:sstep (lm M) G=({lm M with xs:=(wstep M.k.toNat M.xs M.hs G.W).1,hs:=(wstep M.k.toNat M.xs M.hs G.W).2.1},{G with W:=(wstep M.k.toNat M.xs M.hs G.W).2.2}):=by
  unfold sstep; rw [if_neg e1,if_neg e2,if_neg e3,if_neg e4,if_neg e5,if_neg e6,if_neg e7,if_neg e8]
 rw [ed,es]
 obtain ⟨o1,o2⟩:=ok.c9 e9
 unfold sready at hr
 rw [if_pos e9] at hr
 exact sstep_fm c2 enters_s9 (wait_stp hM h e9 (n:=M.k.toNat) (by have:0≤M.k:=o1; omega) o2 hr)
end
theorem shr_frm:Frm shL 115 252 253 Oksh sready sstep sdone where
 below h hb:=h.below hb
 mr b w f:=by kernel_rfl
 ms b w f:=by kernel_rfl
 er args w:=by kernel_rfl
 es args w:=by kernel_rfl
 ready hM h ok:=shr_ready hM h ok
 step hM h ok hr:=shr_step hM h ok hr
end Go.Proofs.YtpobbnllcoabhaaGreatDoor.Sw
namespace Go.Proofs.YtpobbnllcoabhaaGreatDoor.Zp
open Go Hm Ar Mm Wk Pc Me Mq Pu Pn
def hdH (q:List Mq.Hp):Nat:=match q with
 | []=>0
 | e::_=>e.1
theorem Cx.hd {ss:List Sl} {x:Nat} {q:List Mq.Hp} (h:Cx ss x q):x=hdH q:=by
 cases h with
 | nil=>rfl
 | cons a b c=>rfl
theorem Cx.back {ss:List Sl}:∀ (pre:List Mq.Hp) {q:List Mq.Hp} {x:Nat},Cx ss x (pre++q)→Cx ss (hdH q) q:=by
 intro pre
 induction pre with
 | nil=>
   intro q x h
   have h':Cx ss x q:=h
   rw [← Cx.hd h']
   exact h'
 | cons e t ih=>
   intro q x h
   cases h with
   | cons a b c=>exact ih c
theorem lnk_at {ss:List Sl} {x y j:Nat} (hl:ss.length≤1024) (hj:IsAt ss x j) (k:Nat):at' (lnk ss x y) k=if k=j then {at' ss j with nd:={(at' ss j).nd with next:=(y:Int)}} else at' ss k:=by
 have hjp:(x-1) % 65536=j:=(isAt_parts hl hj).1
 unfold lnk
 rw [hjp,at_set hj.1]
theorem lnk_len (ss:List Sl) (x y:Nat):(lnk ss x y).length=ss.length:=by unfold lnk; simp
theorem lnk_live {ss:List Sl} {x y j:Nat} (hl:ss.length≤1024) (hj:IsAt ss x j) {u k:Nat} (hk:IsAt ss u k):IsAt (lnk ss x y) u k:=by
 have h:=lnk_at (y:=y) hl hj k
 refine ⟨by rw [lnk_len]; exact hk.1,?_,?_⟩
 · rw [h]; split
   · rename_i e; subst e; exact hk.2.1
   · exact hk.2.1
 · rw [h]; split
   · rename_i e; subst e; exact hk.2.2
   · exact hk.2.2
theorem lnk_keep {ss:List Sl} {x y j:Nat} (hl:ss.length≤1024) (hj:IsAt ss x j) {u k:Nat} (hk:IsAt ss u k) (hu:u≠x):IsAt (lnk ss x y) u k∧(at' (lnk ss x y) k).nd=(at' ss k).nd:=by
 refine ⟨lnk_live hl hj hk,?_⟩
 rw [lnk_at hl hj,if_neg]
 rintro rfl
 exact hu (by rw [hk.2.2,hj.2.2])
theorem Cx.aside {ss:List Sl} {x y j p:Nat} {q:List Mq.Hp} (hl:ss.length≤1024) (hj:IsAt ss x j) (h:Cx ss p q) (hx:x∉hds q):Cx (lnk ss x y) p q:=
 h.keep fun u hu k hk=>lnk_keep hl hj hk (fun e=>hx (e▸hu))
theorem Cx.relink {ss:List Sl} {j:Nat} {e:Mq.Hp} {d t:List Mq.Hp} (hl:ss.length≤1024) (hj:IsAt ss e.1 j):∀ (pre:List Mq.Hp) (p:Nat),Cx ss p (pre++e::(d++t))→(hds (pre++e::(d++t))).Nodup→Cx (lnk ss e.1 (hdH t)) p (pre++e::t):=by
 intro pre
 induction pre with
 | nil=>
   intro p h hn
   have hn':e.1∉hds (d++t):=(List.nodup_cons.1 hn).1
   cases h with
   | @cons _ k z pp _ a b c=>
     have hkj:k=j:=a.uniq hl hj
     subst hkj
     have ht:Cx (lnk ss p (hdH t)) (hdH t) t:=Cx.aside hl a (Cx.back d c) (fun q=>hn' (by
      simp only [hds,List.map_append,List.mem_append]
      exact .inr q))
     refine .cons (lnk_live hl a a) (z:=hdH t) ?_ ht
     rw [lnk_at hl a,if_pos rfl]
     simp only [b]
     rfl
 | cons e0 r ih=>
   intro p h hn
   have hn':=List.nodup_cons.1 hn
   cases h with
   | @cons _ k z pp _ a b c=>
     have hne:p≠e.1:=by
      rintro rfl
      exact hn'.1 (by simp [hds])
     have:=lnk_keep (y:=hdH t) hl hj a hne
     exact .cons this.1 (this.2.trans b) (ih _ c hn'.2)
structure Zip (ss:List Sl) (σ:ByteArray→Bool) (All:List Mq.Hp) (s:Bool) (x y:Nat) (u r v rest:List Mq.Hp):Prop where
 own:Cx ss x (u++r++rest)
 oth:Cx ss y (v++rest)
 su:∀ e∈u++r,σ e.2.1=s
 sv:∀ e∈v,σ e.2.1= !s
 hd:∀ e t,rest=e::t→σ e.2.1= !s
 ne:rest≠[]→r≠[]
 nd:(hds (u++r++v++rest)).Nodup
 fs:All.filter (fun e=>σ e.2.1==s)=u++r++rest.filter (fun e=>σ e.2.1==s)
 fv:All.filter (fun e=>σ e.2.1== !s)=v++rest.filter (fun e=>σ e.2.1== !s)
section
variable {ss:List Sl} {σ:ByteArray→Bool} {All:List Mq.Hp} {s:Bool} {x y:Nat} {u r v rest:List Mq.Hp}
theorem filter_all {q:List Mq.Hp} {b:Bool} (h:∀ e∈q,σ e.2.1=b):q.filter (fun e=>σ e.2.1==b)=q:=List.filter_eq_self.2 fun e he=>by simp [h e he]
theorem filter_none {q:List Mq.Hp} {b:Bool} (h:∀ e∈q,σ e.2.1= !b):q.filter (fun e=>σ e.2.1==b)=[]:=List.filter_eq_nil_iff.2 fun e he=>by simp [h e he]
theorem zip_new (h:Cx ss x All) (hn:(hds All).Nodup):∃ s r rest,All=r++rest∧Zip ss σ All s x (hdH rest) [] r [] rest:=by
 cases All with
 | nil=>
   refine ⟨true,[],[],rfl,⟨h,.nil,by simp,by simp,by simp,by simp,by simp,by simp,by simp⟩⟩
 | cons e t=>
   have hsp:(e::t)=(e::t).takeWhile (fun a=>σ a.2.1==σ e.2.1)++(e::t).dropWhile (fun a=>σ a.2.1==σ e.2.1):=(List.takeWhile_append_dropWhile).symm
   obtain ⟨r,hr⟩:∃ r,r=(e::t).takeWhile (fun a=>σ a.2.1==σ e.2.1):=⟨_,rfl⟩
   obtain ⟨rest,hrest⟩:∃ q,q=(e::t).dropWhile (fun a=>σ a.2.1==σ e.2.1):=⟨_,rfl⟩
   rw [← hr,← hrest] at hsp
   have hr1:∀ a∈r,σ a.2.1=σ e.2.1:=fun a ha=>by
    rw [hr] at ha
    have:∀ (l:List Mq.Hp),a∈l.takeWhile (fun a=>σ a.2.1==σ e.2.1)→σ a.2.1=σ e.2.1:=by
     intro l
     induction l with
     | nil=>intro q; simp at q
     | cons b l ih=>
       intro q
       rw [List.takeWhile_cons] at q
       split at q
       · rename_i hb
         rcases List.mem_cons.1 q with rfl | q
         · simpa using hb
         · exact ih q
       · simp at q
    exact this _ ha
   have hr2:∀ a t',rest=a::t'→σ a.2.1= !(σ e.2.1):=fun a t' q=>by
    have:∀ (l:List Mq.Hp),l.dropWhile (fun a=>σ a.2.1==σ e.2.1)=a::t'→σ a.2.1= !(σ e.2.1):=by
     intro l
     induction l with
     | nil=>intro q; simp at q
     | cons b l ih=>
       intro q
       rw [List.dropWhile_cons] at q
       split at q
       · exact ih q
       · rename_i hb
         injection q with q1 _
         subst q1
         revert hb
         cases σ b.2.1<;>cases σ e.2.1<;>simp
    exact this _ (hrest▸q)
   have hr3:r≠[]:=by
    rw [hr,List.takeWhile_cons,if_pos (by simp)]
    simp
   refine ⟨σ e.2.1,r,rest,hsp,⟨by rw [List.nil_append,← hsp]; exact h,?_,by simpa using hr1,by simp,hr2,fun _=>hr3,by rw [List.nil_append,List.append_nil,← hsp]; exact hn,?_,?_⟩⟩
   · rw [hsp] at h
     exact Cx.back r h
   · rw [hsp,List.filter_append,filter_all hr1,List.nil_append]
   · rw [hsp,List.filter_append]
     have:=filter_none (σ:=σ) (b:= !(σ e.2.1)) (q:=r) (by simpa using hr1)
     rw [this]
theorem not_r {a:Nat} (h:Zip ss σ All s x y u r v rest) (ha:a∈hds (u++r)):a∉hds (v++rest):=by
 have:=h.nd
 rw [show u++r++v++rest=(u++r)++(v++rest) by simp] at this
 simp only [hds,List.map_append] at this ha ⊢
 intro q
 rw [show List.map (fun x=>x.1) u++List.map (fun x=>x.1) r++(List.map (fun x=>x.1) v++List.map (fun x=>x.1) rest)=(List.map (fun x=>x.1) u++List.map (fun x=>x.1) r)++(List.map (fun x=>x.1) v++List.map (fun x=>x.1) rest) by simp] at this
 exact (List.nodup_append.1 this).2.2 a (by simpa using ha) a (by simpa using q) rfl
theorem Zip.link (h:Zip ss σ All s x y u r v rest) (hl:ss.length≤1024) {r0 d t:List Mq.Hp} {e:Mq.Hp} (hr:r=r0++[e]) (hd:rest=d++t) (hd0:d≠[]) (hds':∀ a∈d,σ a.2.1= !s) (ht:∀ a t',t=a::t'→σ a.2.1=s):
 Zip (lnk ss e.1 (hdH t)) σ All (!s) y x v d (u++r) t:=by
 subst hr hd
 have hown:=h.own
 rw [show u++(r0++[e])++(d++t)=(u++r0)++e::(d++t) by simp] at hown
 obtain ⟨j,_,hj,_⟩:=hown.at e (by simp)
 have hnd:=h.nd
 have hn1:(hds ((u++r0)++e::(d++t))).Nodup:=by
  have:(hds ((u++r0)++e::(d++t))).Sublist (hds (u++(r0++[e])++v++(d++t))):=by
   apply List.Sublist.map
   rw [show u++r0++e::(d++t)=(u++(r0++[e]))++(d++t) by simp,show u++(r0++[e])++v++(d++t)=(u++(r0++[e]))++(v++(d++t)) by simp]
   exact List.Sublist.append_left (List.sublist_append_right _ _) _
  exact this.nodup hnd
 refine ⟨?_,?_,?_,?_,?_,fun _=>hd0,?_,?_,?_⟩
 · have:=Cx.aside (y:=hdH t) hl hj h.oth (not_r h (by simp [hds]))
   simpa using this
 · have:=Cx.relink hl hj (u++r0) x hown hn1
   simpa using this
 · intro a ha
   rcases List.mem_append.1 ha with q | q
   · exact h.sv a q
   · exact hds' a q
 · intro a ha
   rw [Bool.not_not]
   exact h.su a ha
 · intro a t' q
   rw [Bool.not_not]
   exact ht a t' q
 · have hp:(hds (v++d++(u++(r0++[e]))++t)).Perm (hds (u++(r0++[e])++v++(d++t))):=by
    apply List.Perm.map
    rw [show u++(r0++[e])++v++(d++t)=(u++(r0++[e])++(v++d))++t by simp]
    exact List.Perm.append_right t List.perm_append_comm
   exact hp.nodup_iff.2 hnd
 · have hfv:=h.fv
   rw [hfv,List.filter_append,filter_all hds',List.append_assoc]
 · have hfs:=h.fs
   rw [Bool.not_not,hfs,List.filter_append,filter_none hds',List.nil_append]
theorem Zip.parted (h:Zip ss σ All s x y u r v []):Cx ss x (All.filter fun e=>σ e.2.1==s)∧Cx ss y (All.filter fun e=>σ e.2.1== !s):=by
 have h1:=h.own
 have h2:=h.oth
 have h3:=h.fs
 have h4:=h.fv
 simp only [List.filter_nil,List.append_nil] at h1 h2 h3 h4
 rw [h3,h4]
 exact ⟨h1,h2⟩
end
/-! ### readers-/
def Std (σ:ByteArray→Bool) (s:Bool) (u r v rest:List Mq.Hp) (old:Prop) (key:ByteArray) (q:List Mq.Hp):Prop:=
 (σ key=s∧q<:+u++r++rest)∨(σ key= !s∧q<:+v++rest)∨(old∧σ key= !s∧q<:+r++rest)
section
variable {ss:List Sl} {σ:ByteArray→Bool} {All:List Mq.Hp} {s:Bool} {x y:Nat} {u r v rest q:List Mq.Hp} {old:Prop} {key:ByteArray}
theorem Std.next {e:Mq.Hp} (h:Std σ s u r v rest old key (e::q)):Std σ s u r v rest old key q:=by
 have hq:q<:+e::q:=List.suffix_cons _ _
 rcases h with ⟨a,b⟩ | ⟨a,b⟩ | ⟨o,a,b⟩
 · exact .inl ⟨a,hq.trans b⟩
 · exact .inr (.inl ⟨a,hq.trans b⟩)
 · exact .inr (.inr ⟨o,a,hq.trans b⟩)
theorem Std.mono {old':Prop} (h:Std σ s u r v rest old key q) (ho:old→old'):Std σ s u r v rest old' key q:=by
 rcases h with h | h | ⟨o,h⟩
 · exact .inl h
 · exact .inr (.inl h)
 · exact .inr (.inr ⟨ho o,h⟩)
theorem lk_skip {a d t:List Mq.Hp} {key:ByteArray} (hk:∀ e∈d,e.2.1≠key):lk (prs (a++(d++t))) key=lk (prs (a++t)) key:=by
 induction a with
 | cons e a ih=>
   simp only [List.cons_append,prs,List.map_cons,lk]
   simp only [prs] at ih
   rw [ih]
 | nil=>
   simp only [List.nil_append]
   induction d with
   | nil=>rfl
   | cons e d ih=>
     simp only [List.cons_append,prs,List.map_cons,lk]
     rw [if_neg (hk e (by simp))]
     exact ih fun e he=>hk e (List.mem_cons_of_mem _ he)
theorem suffix_split {a b q:List Mq.Hp} (h:q<:+a++b):q<:+b∨∃ a',a'≠[]∧a'<:+a∧q=a'++b:=by
 obtain ⟨p,hp⟩:=h
 rcases List.append_eq_append_iff.1 hp with ⟨c,h1,h2⟩ | ⟨c,h1,h2⟩
 · by_cases hc:c=[]
   · subst hc
     exact .inl ⟨[],by simpa using h2⟩
   · exact .inr ⟨c,hc,⟨p,h1.symm⟩,h2⟩
 · exact .inl ⟨c,h2.symm⟩
theorem suffix_last {a:List Mq.Hp} {c:List Mq.Hp} {e:Mq.Hp} (h:c<:+a++[e]) (hc:c≠[]):∃ c0,c=c0++[e]:=by
 obtain ⟨p,hp⟩:=h
 have h1:c=c.dropLast++[c.getLast hc]:=(List.dropLast_concat_getLast hc).symm
 rw [h1,← List.append_assoc] at hp
 have:=List.append_inj' hp rfl
 have h2:c.getLast hc=e:=by simpa using this.2
 exact ⟨c.dropLast,by rw [← h2]; exact h1⟩
theorem Std.link (h:Zip ss σ All s x y u r v rest) (hl:ss.length≤1024) {r0 d t:List Mq.Hp} {e:Mq.Hp} (hr:r=r0++[e]) (hd:rest=d++t) (hds':∀ a∈d,σ a.2.1= !s) {p:Nat} (hq:Cx ss p q) (hst:Std σ s u r v rest False key q):
 ∃ q',Cx (lnk ss e.1 (hdH t)) p q'∧lk (prs q') key=lk (prs q) key∧q'.length≤q.length∧Std σ (!s) v d (u++r) t True key q':=by
 subst hr hd
 have hown:=h.own
 obtain ⟨j,_,hj,_⟩:=hown.at e (by simp)
 have hnn:∀ {q:List Mq.Hp},q<:+v++(d++t)→e.1∉hds q:=fun hs hm=>not_r h (a:=e.1) (by simp [hds]) ((hs.map (·.1)).subset hm)
 rcases hst with ⟨hk,hs⟩ | ⟨hk,hs⟩ | ⟨hf,_⟩
 · have hkd:∀ a∈d,a.2.1≠key:=fun a ha q=>by
    have:=hds' a ha
    rw [q,hk] at this
    revert this
    cases s<;>simp
   rcases suffix_split hs with hs1 | ⟨c,hc,hcs,rfl⟩
   ·
    refine ⟨q,Cx.aside hl hj hq (hnn (hs1.trans (List.suffix_append _ _))),rfl,Nat.le_refl _,?_⟩
    rcases suffix_split hs1 with hs2 | ⟨c,hc,hcs,rfl⟩
    · exact .inr (.inl ⟨by rw [Bool.not_not]; exact hk,hs2.trans (List.suffix_append _ _)⟩)
    · exact .inr (.inr ⟨trivial,by rw [Bool.not_not]; exact hk,by
       obtain ⟨a,ha⟩:=hcs
       exact ⟨a,by rw [← List.append_assoc,ha]⟩⟩)
   ·
    rw [← List.append_assoc] at hcs
    obtain ⟨c0,rfl⟩:=suffix_last hcs hc
    have hn1:(hds (c0++e::(d++t))).Nodup:=by
     have h1:(c0++[e]++(d++t)).Sublist (u++(r0++[e])++v++(d++t)):=by
      rw [show u++(r0++[e])++v++(d++t)=(u++r0++[e])++(v++(d++t)) by simp]
      exact List.Sublist.append hcs.sublist (List.sublist_append_right _ _)
     rw [show c0++e::(d++t)=c0++[e]++(d++t) by simp]
     exact (h1.map _).nodup h.nd
    rw [show c0++[e]++(d++t)=c0++e::(d++t) by simp] at hq
    refine ⟨c0++e::t,Cx.relink hl hj c0 p hq hn1,?_,by simp,?_⟩
    · rw [show c0++e::t=(c0++[e])++t by simp,lk_skip hkd]
    · refine .inr (.inl ⟨by rw [Bool.not_not]; exact hk,?_⟩)
      obtain ⟨a,ha⟩:=hcs
      exact ⟨a,by rw [show u++(r0++[e])++t=(u++r0++[e])++t by simp,← ha]; simp⟩
 · refine ⟨q,Cx.aside hl hj hq (hnn hs),rfl,Nat.le_refl _,.inl ⟨hk,?_⟩⟩
   rw [List.append_assoc]
   exact hs
 · exact absurd hf id
end
end Go.Proofs.YtpobbnllcoabhaaGreatDoor.Zp
namespace Go.Proofs.YtpobbnllcoabhaaGreatDoor.Zp
open Go Hm Ar Mm Wk Pc Me Mq Pn Gt Qs
structure Wy where
 Pos:(Nat→Prop)→ByteArray→List Mq.Hp→Prop
 Cel:(Nat→Prop)→ByteArray→Nat→Prop
 few:Nat
 cap:Nat
 pub:Bool
structure Wy.Ok (Y:Wy) (L:Lm) (l:List Pr):Prop where
 k:1≤L.k∧L.k≤8
 wl:∀ w:Nat,(w:Int)<L.k→2+w<L.xs.length
 xb:∀ x∈L.xs,0≤x∧x≤18446744073709551615
 nexts:Nexts L.ss
 len:L.ss.length≤1024
 F:L.F=false
 p1:1≤Cl.nth L.xs 0
 tb:∀ i,(tab L.ds i).1≤65536∧(tab L.ds i).2≤4000000
 few:Y.few≤900∧Y.few≤Y.cap∧Y.cap≤1000000
 next:∀ {o:Nat→Prop} {key:ByteArray} {e:Mq.Hp} {q:List Mq.Hp},Y.Pos o key (e::q)→Y.Pos o key q
 mono:∀ {o o':Nat→Prop} {key:ByteArray} {q:List Mq.Hp},(∀ e,o e→o' e)→Y.Pos o key q→Y.Pos o' key q
 celm:∀ {o o':Nat→Prop} {key:ByteArray} {c:Nat},(∀ e,o e→o' e)→Y.Cel o key c→Y.Cel o' key c
 cel:∀ {o:Nat→Prop} {key:ByteArray} {c:Nat},Y.Cel o key c→c≤5000000∧∃ q,Cx L.ss (word L.xs c) q∧Y.Pos o key q∧Pc.lk (prs q) key=Pc.lk l key∧q.length≤Y.few
 now:∀ (o:Nat→Prop) (key:ByteArray),(Y.pub=false→∀ e,o e)→∃ c:Nat,Gt.cellOf (sm key) (Me.now L.xs L.ds)=(c:Int)∧Y.Cel o key c
section
variable {Y Y':Wy} {L L':Lm} {l:List Pr} {old old':Int→Nat→Prop} {w k:Nat} {key:ByteArray} {G:Gt.Ge}
inductive Rph (Y:Wy) (L:Lm) (l:List Pr) (old:Int→Nat→Prop) (key:ByteArray) (G:Gt.Ge):Nat→Prop
 | come:G.nx=1→G.C.at_=0→Rph Y L l old key G (Y.few+5)
 | put:G.nx=1→G.C.at_=1→Rph Y L l old key G (Y.few+4)
 | load:G.nx=2→Rph Y L l old key G (Y.few+3)
 | first (c:Nat):G.nx=3→G.W=new 0 (c:Int) (sm key) key→c≤5000000→Y.Cel (old G.C.period) key c→Rph Y L l old key G (Y.few+2)
 | look (q:List Mq.Hp):G.nx=3→G.W.nx=2→G.W.key=key→G.W.sum=sm key→G.W.found=0→G.W.nd.val=⟨#[]⟩→q≠[]→Cx L.ss G.W.at_ q→Y.Pos (old G.C.period) key q→
    Pc.lk (prs q) key=Pc.lk l key→G.W.read+q.length≤Y.cap→G.W.at_≤18446744073709551615→ -9223372036854775808≤G.W.cell∧G.W.cell≤9223372036854775807→Rph Y L l old key G (q.length+1)
 | leave:G.nx=4→Gt.Fits (Pc.lk l key) G.W→Rph Y L l old key G 1
structure Rok (Y:Wy) (L:Lm) (l:List Pr) (old:Int→Nat→Prop) (w:Nat) (key:ByteArray) (G:Gt.Ge) (k:Nat):Prop where
 ky:G.key=key
 sum:G.sum=sm key
 wk:G.C.worker=w
 gat:G.gat=0
 pd:0≤G.C.period∧G.C.period≤18446744073709551615
 cnt:Cl.nth L.xs (2+w)=if 2≤G.nx then G.C.period else 0
 pr:(G.nx=1∧G.C.at_=0)∨(1≤G.C.period∧G.C.period≤Cl.nth L.xs 0)
 ph:Rph Y L l old key G k
theorem Rok.to (h:Rok Y L l old w key G k) (hc:Cl.nth L'.xs (2+w)=Cl.nth L.xs (2+w)) (h0:Cl.nth L.xs 0≤Cl.nth L'.xs 0) (hs:L'.ss=L.ss) (hf:Y'.few=Y.few) (hcp:Y.cap≤Y'.cap)
 (hC:∀ c,2≤G.nx→Y.Cel (old G.C.period) key c→Y'.Cel (old' G.C.period) key c) (hP:∀ q,2≤G.nx→Y.Pos (old G.C.period) key q→Y'.Pos (old' G.C.period) key q):Rok Y' L' l old' w key G k:=by
 refine ⟨h.ky,h.sum,h.wk,h.gat,h.pd,by rw [hc]; exact h.cnt,h.pr.imp id (fun q=>⟨q.1,Int.le_trans q.2 h0⟩),?_⟩
 cases h.ph with
 | come a b=>rw [← hf]; exact .come a b
 | put a b=>rw [← hf]; exact .put a b
 | load a=>rw [← hf]; exact .load a
 | first c a b hcb q=>rw [← hf]; exact .first c a b hcb (hC c (by omega) q)
 | look q a1 a2 a3 a4 a5 a6 a7 a8 a9 a10 a11 a12 a13=>exact .look q a1 a2 a3 a4 a5 a6 a7 (by rw [hs]; exact a8) (hP q (by omega) a9) a10 (by omega) a12 a13
 | leave a b=>exact .leave a b
theorem Rok.moved (h:Rok Y L l old w key G k) (hc:Cl.nth L'.xs (2+w)=Cl.nth L.xs (2+w)) (h0:Cl.nth L.xs 0≤Cl.nth L'.xs 0) (hs:L'.ss=L.ss):Rok Y L' l old w key G k:=
 h.to hc h0 hs rfl (Nat.le_refl _) (fun _ _ q=>q) (fun _ _ q=>q)
theorem Rok.mono (hY:Y.Ok L l) (h:Rok Y L l old w key G k) (ho:2≤G.nx→∀ e,old G.C.period e→old' G.C.period e):Rok Y L l old' w key G k:=
 h.to rfl (Int.le_refl _) rfl rfl (Nat.le_refl _) (fun _ hx=>hY.celm (ho hx)) (fun _ hx=>hY.mono (ho hx))
end
end Go.Proofs.YtpobbnllcoabhaaGreatDoor.Zp
namespace Go.Proofs.YtpobbnllcoabhaaGreatDoor.Zp
open Go Hm Ar Mm Wk Pc Me Mq Pn Gt Qs
def oldW (W:Wt) (w:Nat) (p:Int) (_:Nat):Prop:=W.at_≤1∨(W.at_=2∧W.passed≤w∧p<W.period)
theorem oldW_over {W:Wt} (h:3≤W.at_) (w:Nat) (p:Int) (e:Nat):¬oldW W w p e:=by
 rintro (q | q)<;>omega
section
variable {Y:Wy} {L:Lm} {l:List Pr} {w k n:Nat} {key:ByteArray} {G:Gt.Ge} {W:Wt}
theorem sum64_in {x:Int} (h0:0≤x) (h1:x≤4611686018427387904):Cl.sum64 x 1=x+1:=by
 unfold Cl.sum64
 omega
theorem Rok.waits (hY:Y.Ok L l) (hb:Cl.nth L.xs 0≤4611686018427387904) (hr:readyB L.xs L.hs W=true) (hp0:W.at_≤1→W.passed=0) (h3:W.at_≤3) (hw:w<n) (hn:(n:Int)≤L.k) (h:Rok Y L l (oldW W w) w key G k):
 Rok Y {L with xs:=(wstep n L.xs L.hs W).1,hs:=(wstep n L.xs L.hs W).2.1} l (oldW (wstep n L.xs L.hs W).2.2 w) w key G k:=by
 have hk:=hY.k
 have hxl:=hY.wl 0 (by omega)
 have h0:=Cl.getD_bd hY.xb 0
 have hs:=sum64_in h0.1 hb
 unfold wstep
 split
 · have ho:2≤G.nx→∀ e,oldW W w G.C.period e→oldW {W with at_:=1} w G.C.period e:=fun _ _ _=>.inl (by simp)
   exact h.to (L':={L with hs:=L.hs.set 0 W.worker}) rfl (Int.le_refl _) rfl rfl (Nat.le_refl _) (fun _ hx=>hY.celm (ho hx)) (fun _ hx=>hY.mono (ho hx))
 split
 · rename_i h1
   have hn:∀ i,i≠0→Cl.nth (L.xs.set 0 (Cl.sum64 (Cl.nth L.xs 0) 1)) i=Cl.nth L.xs i:=fun i hi=>by
    rw [nth_set _ _ _ (by omega),if_neg hi]
   have ho:2≤G.nx→∀ e,oldW W w G.C.period e→oldW {W with period:=Cl.sum64 (Cl.nth L.xs 0) 1,at_:=2} w G.C.period e:=fun hx _ _=>by
    refine .inr ⟨rfl,?_,?_⟩
    · show W.passed≤w
      rw [hp0 (by omega)]
      exact Nat.zero_le _
    · show G.C.period<Cl.sum64 (Cl.nth L.xs 0) 1
      rw [hs]
      have:=h.pr.resolve_left (fun q=>by omega)
      omega
   refine h.to (L':={L with xs:=L.xs.set 0 (Cl.sum64 (Cl.nth L.xs 0) 1)}) (hn _ (by omega)) ?_ rfl rfl (Nat.le_refl _) (fun _ hx=>hY.celm (ho hx)) (fun _ hx=>hY.mono (ho hx))
   show _≤Cl.nth (L.xs.set 0 (Cl.sum64 (Cl.nth L.xs 0) 1)) 0
   rw [nth_set _ _ _ (by omega),if_pos rfl,hs]
   omega
 split
 · rename_i h2
   refine h.mono hY fun hx _ ho=>?_
   have hc:=h.cnt
   rw [if_pos hx] at hc
   have hp:=h.pr.resolve_left (fun q=>by omega)
   rcases ho with q | ⟨_,q1,q2⟩
   · omega
   unfold readyB passB at hr
   rw [if_neg (by omega),if_pos h2] at hr
   have hr:=of_decide_eq_true hr
   have hne:W.passed≠w:=by
    intro e
    rw [e,hc] at hr
    omega
   refine .inr ⟨?_,?_,q2⟩
   · show (if n≤W.passed+1 then 3 else 2)=2
     rw [if_neg (by omega)]
   · show W.passed+1≤w
     omega
 · have ho:2≤G.nx→∀ e,oldW W w G.C.period e→oldW {W with at_:=4} w G.C.period e:=fun _ _ ho=>by
    rcases ho with q | q<;>omega
   exact h.to (L':={L with hs:=L.hs.set 0 (-1)}) rfl (Int.le_refl _) rfl rfl (Nat.le_refl _) (fun _ hx=>hY.celm (ho hx)) (fun _ hx=>hY.mono (ho hx))
end
structure Rn where
 w:Nat
 keys:List ByteArray
 g:Option Gt.Ge
 n:Nat
def Rn.key (R:Rn):ByteArray:=R.keys.getD (R.n % R.keys.length) ⟨#[]⟩
def RnOk (Y:Wy) (L:Lm) (l:List Pr) (old:Nat→Int→Nat→Prop) (R:Rn) (k:Nat):Prop:=
 match R.g with
 | none=>Cl.nth L.xs (2+R.w)=0∧k=0
 | some G=>Rok Y L l (old R.w) R.w R.key G k
section
variable {Y Y':Wy} {L L':Lm} {l:List Pr} {old old':Nat→Int→Nat→Prop} {R O:Rn} {k k':Nat}
theorem RnOk.moved (h:RnOk Y L l old R k) (hc:Cl.nth L'.xs (2+R.w)=Cl.nth L.xs (2+R.w)) (h0:Cl.nth L.xs 0≤Cl.nth L'.xs 0) (hs:L'.ss=L.ss):RnOk Y L' l old R k:=by
 unfold RnOk at h ⊢
 split
 · rename_i q
   rw [q] at h
   exact ⟨hc.trans h.1,h.2⟩
 · rename_i G q
   rw [q] at h
   exact h.moved hc h0 hs
theorem RnOk.to {L':Lm} (h:RnOk Y L l old R k) (hc:Cl.nth L'.xs (2+R.w)=Cl.nth L.xs (2+R.w)) (h0:Cl.nth L.xs 0≤Cl.nth L'.xs 0) (hs:L'.ss=L.ss) (hf:Y'.few=Y.few) (hcp:Y.cap≤Y'.cap)
 (hC:∀ key c p,Y.Cel (old R.w p) key c→Y'.Cel (old' R.w p) key c) (hP:∀ key q p,Y.Pos (old R.w p) key q→Y'.Pos (old' R.w p) key q):RnOk Y' L' l old' R k:=by
 unfold RnOk at h ⊢
 split
 · rename_i q
   rw [q] at h
   exact ⟨hc.trans h.1,h.2⟩
 · rename_i G q
   rw [q] at h
   exact h.to hc h0 hs hf hcp (fun _ _=>hC _ _ _) (fun _ _=>hP _ _ _)
theorem RnOk.waits {n:Nat} {W:Wt} (hY:Y.Ok L l) (hb:Cl.nth L.xs 0≤4611686018427387904) (hr:readyB L.xs L.hs W=true) (hp0:W.at_≤1→W.passed=0) (h3:W.at_≤3) (hw:R.w<n) (hn:(n:Int)≤L.k) (h:RnOk Y L l (oldW W) R k):
 RnOk Y {L with xs:=(wstep n L.xs L.hs W).1,hs:=(wstep n L.xs L.hs W).2.1} l (oldW (wstep n L.xs L.hs W).2.2) R k:=by
 unfold RnOk at h ⊢
 split
 · rename_i q
   rw [q] at h
   refine ⟨?_,h.2⟩
   show Cl.nth (wstep n L.xs L.hs W).1 _=_
   unfold wstep
   split
   · exact h.1
   split
   · have hxl:=hY.wl R.w (by omega)
     show Cl.nth (L.xs.set 0 _) _=_
     rw [nth_set _ _ _ (by omega),if_neg (by omega)]
     exact h.1
   split<;>exact h.1
 · rename_i G q
   rw [q] at h
   exact Rok.waits hY hb hr hp0 h3 hw hn h
end
end Go.Proofs.YtpobbnllcoabhaaGreatDoor.Zp
namespace Go.Proofs.YtpobbnllcoabhaaGreatDoor.Zp
open Go Hm Ar Mm Wk Pc Me Mq Pu Pn Gt
def sd (n:Nat) (key:ByteArray):Bool:=decide (n≤bkt key (2*n))
theorem bkt_mod {n:Nat} (hp:FM.power n=true) (key:ByteArray):bkt key n=(sm key).toNat % n:=by
 have h:=sm_bd key
 have hn:=FM.power_bd hp
 unfold bkt FM.bucket
 rw [if_pos hp]
 obtain ⟨a,ha⟩:=Int.eq_ofNat_of_zero_le h.1
 rw [ha]
 simp only [Int.toNat_natCast]
 rw [← Int.natCast_emod,Int.toNat_natCast]
theorem bkt_two {n:Nat} (hp:FM.power n=true) (hp2:FM.power ((2*n:Nat):Int)=true) (key:ByteArray):bkt key (2*n) % n=bkt key n∧bkt key (2*n)<2*n∧bkt key (2*n)=bkt key n+(if sd n key=true then n else 0):=by
 have h1:=bkt_mod hp key
 have h2:=bkt_mod hp2 key
 have hn:=FM.power_bd hp
 have h3:bkt key (2*n) % n=bkt key n:=by
  rw [h1,h2,Nat.mod_mul_left_mod]
 have h4:bkt key (2*n)<2*n:=by rw [h2]; exact Nat.mod_lt _ (by omega)
 refine ⟨h3,h4,?_⟩
 have h5:bkt key n<n:=by rw [h1]; exact Nat.mod_lt _ (by omega)
 unfold sd
 by_cases q:n≤bkt key (2*n)
 · rw [if_pos (by simp [q])]
   have:bkt key (2*n) % n=bkt key (2*n)-n:=by
    rw [Nat.mod_eq_sub_mod q,Nat.mod_eq_of_lt (by omega)]
   omega
 · rw [if_neg (by simp [q])]
   rw [Nat.mod_eq_of_lt (by omega)] at h3
   omega
structure Zs where
 n:Nat
 B:Nat
 B2:Nat
 few:Nat
 cap:Nat
 pub:Bool
 All:Nat→List Mq.Hp
 s:Nat→Bool
 X:Nat→Nat
 Y:Nat→Nat
 u:Nat→List Mq.Hp
 r:Nat→List Mq.Hp
 v:Nat→List Mq.Hp
 rest:Nat→List Mq.Hp
def Zs.head (Z:Zs) (b:Nat):Nat:=if decide (Z.n≤b)=Z.s (b % Z.n) then Z.X (b % Z.n) else Z.Y (b % Z.n)
def Zs.fresh (Z:Zs) (e:Nat):Prop:=Z.u e=[]∧Z.v e=[]∧Z.All e=Z.r e++Z.rest e
structure Zs.Ok (Z:Zs) (L:Lm) (l:List Pr):Prop where
 pw:FM.power Z.n=true
 pw2:FM.power ((2*Z.n:Nat):Int)=true
 now:Me.now L.xs L.ds=if Z.pub=true then (2*Z.n,Z.B2) else (Z.n,Z.B)
 tb:∀ i,(tab L.ds i).1≤65536∧(tab L.ds i).2≤4000000
 k:1≤L.k∧L.k≤8
 kB:2+L.k≤Z.B
 xl:Z.B+Z.n≤L.xs.length∧Z.B+Z.n≤Z.B2∧(Z.pub=true→Z.B2+2*Z.n≤L.xs.length)
 bb:Z.B2≤4000000
 xb:∀ x∈L.xs,0≤x∧x≤18446744073709551615
 nexts:Nexts L.ss
 len:L.ss.length≤1024
 elder:∀ e,e<Z.n→Cl.nth L.xs (Z.B+e)=((hdH (Z.All e):Nat):Int)
 newer:Z.pub=true→∀ b,b<2*Z.n→Cl.nth L.xs (Z.B2+b)=((Z.head b:Nat):Int)
 zip:∀ e,e<Z.n→Zip L.ss (sd Z.n) (Z.All e) (Z.s e) (Z.X e) (Z.Y e) (Z.u e) (Z.r e) (Z.v e) (Z.rest e)
 lk:∀ key,Pc.lk l key=Pc.lk (prs (Z.All (bkt key Z.n))) key
 F:L.F=false
 p1:1≤Cl.nth L.xs 0
 few:(∀ e,e<Z.n→(Z.All e).length≤Z.few)∧Z.few≤900∧Z.few≤Z.cap∧Z.cap≤1000000
 fr:Z.pub=false→∀ e,e<Z.n→Z.fresh e
 dj:∀ e e',e<Z.n→e'<Z.n→e≠e'→∀ a∈hds (Z.All e),a∉hds (Z.All e')
theorem Zip.length {ss:List Sl} {σ:ByteArray→Bool} {All:List Mq.Hp} {s:Bool} {x y:Nat} {u r v rest:List Mq.Hp} (h:Zip ss σ All s x y u r v rest):u.length+r.length+v.length+rest.length=All.length:=by
 have hf:∀ (q:List Mq.Hp),(q.filter fun e=>σ e.2.1==s).length+(q.filter fun e=>σ e.2.1== !s).length=q.length:=by
  intro q
  induction q with
  | nil=>rfl
  | cons e t ih=>
    rw [List.filter_cons,List.filter_cons]
    cases σ e.2.1<;>cases s<;>simp at ih ⊢<;>omega
 have h1:=hf All
 have h2:=hf rest
 rw [h.fs,h.fv] at h1
 simp only [List.length_append] at h1
 omega
section
variable {Z:Zs} {L:Lm} {l:List Pr} {w:Nat}
theorem Zs.Ok.way (hZ:Z.Ok L l) (key:ByteArray):∃ q,Cx L.ss (Z.head (bkt key (2*Z.n))) q∧Std (sd Z.n) (Z.s (bkt key Z.n)) (Z.u (bkt key Z.n)) (Z.r (bkt key Z.n)) (Z.v (bkt key Z.n)) (Z.rest (bkt key Z.n)) False key q∧Pc.lk (prs q) key=Pc.lk l key∧q.length≤(Z.All (bkt key Z.n)).length:=by
 obtain ⟨h1,h2,h3⟩:=bkt_two hZ.pw hZ.pw2 key
 have he:bkt key Z.n<Z.n:=(bkt_lt hZ.pw key).1
 have hz:=hZ.zip _ he
 have hsd:decide (Z.n≤bkt key (2*Z.n))=sd Z.n key:=rfl
 have hlk:∀ (q:List Mq.Hp) (b:Bool),b=sd Z.n key→Pc.lk (prs (q.filter fun e=>sd Z.n e.2.1==b)) key=Pc.lk (prs q) key:=by
  intro q b hb
  induction q with
  | nil=>rfl
  | cons e t ih=>
    rw [List.filter_cons]
    by_cases hk:e.2.1=key
    · rw [if_pos (by rw [hk,hb]; simp)]
      simp only [prs,List.map_cons,Pc.lk,if_pos hk]
    · split
      · simp only [prs,List.map_cons,Pc.lk,if_neg hk] at ih ⊢
        exact ih
      · simp only [prs,List.map_cons,Pc.lk,if_neg hk] at ih ⊢
        exact ih
 have hall:=hZ.lk key
 unfold Zs.head
 rw [h1,hsd]
 by_cases hs:sd Z.n key=Z.s (bkt key Z.n)
 · rw [if_pos hs]
   refine ⟨_,hz.own,.inl ⟨hs,List.suffix_refl _⟩,?_,by have:=Zip.length hz; simp only [List.length_append]; omega⟩
   rw [hall,← hlk (Z.All (bkt key Z.n)) (Z.s (bkt key Z.n)) hs.symm,hz.fs,← hlk (Z.u (bkt key Z.n)++Z.r (bkt key Z.n)++Z.rest (bkt key Z.n)) (Z.s (bkt key Z.n)) hs.symm,List.filter_append,filter_all hz.su]
 · rw [if_neg hs]
   have hs':sd Z.n key= !(Z.s (bkt key Z.n)):=by
    revert hs
    cases sd Z.n key<;>cases Z.s (bkt key Z.n)<;>simp
   refine ⟨_,hz.oth,.inr (.inl ⟨hs',List.suffix_refl _⟩),?_,by have:=Zip.length hz; simp only [List.length_append]; omega⟩
   rw [hall,← hlk (Z.All (bkt key Z.n)) (!(Z.s (bkt key Z.n))) hs'.symm,hz.fv,← hlk (Z.v (bkt key Z.n)++Z.rest (bkt key Z.n)) (!(Z.s (bkt key Z.n))) hs'.symm,List.filter_append,filter_all hz.sv]
theorem Zs.Ok.elderWay (hZ:Z.Ok L l) (key:ByteArray) (hf:Z.fresh (bkt key Z.n)) {o:Prop} (ho:o):Cx L.ss (hdH (Z.All (bkt key Z.n))) (Z.All (bkt key Z.n))∧Std (sd Z.n) (Z.s (bkt key Z.n)) (Z.u (bkt key Z.n)) (Z.r (bkt key Z.n)) (Z.v (bkt key Z.n)) (Z.rest (bkt key Z.n)) o key (Z.All (bkt key Z.n)):=by
 have he:bkt key Z.n<Z.n:=(bkt_lt hZ.pw key).1
 have hz:=hZ.zip _ he
 obtain ⟨f1,f2,f3⟩:=hf
 have hc:Cx L.ss (Z.X (bkt key Z.n)) (Z.All (bkt key Z.n)):=by
  have:=hz.own
  rw [f1,List.nil_append,← f3] at this
  exact this
 refine ⟨by rw [← Cx.hd hc]; exact hc,?_⟩
 by_cases hs:sd Z.n key=Z.s (bkt key Z.n)
 · exact .inl ⟨hs,by rw [f1,List.nil_append,← f3]; exact List.suffix_refl _⟩
 · refine .inr (.inr ⟨ho,?_,by rw [← f3]; exact List.suffix_refl _⟩)
   revert hs
   cases sd Z.n key<;>cases Z.s (bkt key Z.n)<;>simp
def Zs.wy (Z:Zs):Wy:=⟨fun o key q=>Std (sd Z.n) (Z.s (bkt key Z.n)) (Z.u (bkt key Z.n)) (Z.r (bkt key Z.n)) (Z.v (bkt key Z.n)) (Z.rest (bkt key Z.n)) (o (bkt key Z.n)) key q,
 fun o key c=>(c=Z.B2+bkt key (2*Z.n)∧Z.pub=true)∨(c=Z.B+bkt key Z.n∧o (bkt key Z.n)∧Z.fresh (bkt key Z.n)),Z.few,Z.cap,Z.pub⟩
theorem Zs.Ok.wl (hZ:Z.Ok L l) (w:Nat) (hw:(w:Int)<L.k):2+w<L.xs.length:=by
 have hkB:=hZ.kB
 have hxl:=hZ.xl.1
 have hn:=FM.power_bd hZ.pw
 omega
theorem Zs.Ok.ways (hZ:Z.Ok L l):Z.wy.Ok L l:=by
 have hbd:=hZ.bb
 have hxl:=hZ.xl
 have hn1:=FM.power_bd hZ.pw
 refine ⟨hZ.k,hZ.wl,hZ.xb,hZ.nexts,hZ.len,hZ.F,hZ.p1,hZ.tb,hZ.few.2,fun h=>Std.next h,fun ho h=>Std.mono h (ho _),fun ho h=>h.imp id (fun q=>⟨q.1,ho _ q.2.1,q.2.2⟩),fun {o key c} hc=>?_,fun o key ho=>?_⟩
 · obtain ⟨t1,t2,t3⟩:=bkt_two hZ.pw hZ.pw2 key
   have he:bkt key Z.n<Z.n:=(bkt_lt hZ.pw key).1
   rcases hc with ⟨rfl,hp⟩ | ⟨rfl,ho,hf⟩
   · obtain ⟨q,q1,q2,q3,q4⟩:=hZ.way key
     have hw1:word L.xs ((Z.B2+bkt key (2*Z.n):Nat):Int)=Z.head (bkt key (2*Z.n)):=by
      unfold word
      rw [if_pos (by have:=hxl.2.2 hp; omega),Int.toNat_natCast,hZ.newer hp _ t2,Int.toNat_natCast]
     rw [hw1]
     exact ⟨by omega,q,q1,q2.mono (fun f=>absurd f id),q3,Nat.le_trans q4 (hZ.few.1 _ he)⟩
   · obtain ⟨q1,q2⟩:=hZ.elderWay key hf ho
     have hw1:word L.xs ((Z.B+bkt key Z.n:Nat):Int)=hdH (Z.All (bkt key Z.n)):=by
      unfold word
      rw [if_pos (by omega),Int.toNat_natCast,hZ.elder _ he,Int.toNat_natCast]
     rw [hw1]
     exact ⟨by omega,_,q1,q2,(hZ.lk key).symm,hZ.few.1 _ he⟩
 · have he:bkt key Z.n<Z.n:=(bkt_lt hZ.pw key).1
   have hnow:=hZ.now
   cases hp:Z.pub with
   | true=>
     rw [hp,if_pos rfl] at hnow
     refine ⟨Z.B2+bkt key (2*Z.n),?_,.inl ⟨rfl,hp⟩⟩
     rw [hnow]
     unfold Gt.cellOf
     simp only
     rw [if_neg (by omega),(bkt_lt hZ.pw2 key).2]
     simp
   | false=>
     rw [hp,if_neg (by simp)] at hnow
     refine ⟨Z.B+bkt key Z.n,?_,.inr ⟨rfl,ho hp _,hZ.fr hp _ he⟩⟩
     rw [hnow]
     unfold Gt.cellOf
     simp only
     rw [if_neg (by omega),(bkt_lt hZ.pw key).2]
     simp
end
end Go.Proofs.YtpobbnllcoabhaaGreatDoor.Zp
namespace Go.Proofs.YtpobbnllcoabhaaGreatDoor.Zp
open Go Hm Ar Mm Wk Pc Me Mq Pu Pn Gt Qs
theorem Zip.sub {ss:List Sl} {σ:ByteArray→Bool} {All:List Mq.Hp} {s:Bool} {x y:Nat} {u r v rest:List Mq.Hp} (h:Zip ss σ All s x y u r v rest):∀ a∈u++r++v++rest,a∈All:=by
 intro a ha
 have h1:∀ b,a∈All.filter (fun e=>σ e.2.1==b)→a∈All:=fun b q=>(List.mem_filter.1 q).1
 have ha:a∈u++r∨a∈v∨a∈rest:=by
  simp only [List.mem_append] at ha ⊢
  rcases ha with ((q | q) | q) | q
  · exact .inl (.inl q)
  · exact .inl (.inr q)
  · exact .inr (.inl q)
  · exact .inr (.inr q)
 rcases ha with q | q | q
 · exact h1 s (by rw [h.fs]; exact List.mem_append_left _ q)
 · exact h1 (!s) (by rw [h.fv]; exact List.mem_append_left _ q)
 · by_cases hs:σ a.2.1=s
   · exact h1 s (by rw [h.fs]; exact List.mem_append_right _ (List.mem_filter.2 ⟨q,by simp [hs]⟩))
   · exact h1 (!s) (by rw [h.fv]; exact List.mem_append_right _ (List.mem_filter.2 ⟨q,by revert hs; cases σ a.2.1<;>cases s<;>simp⟩))
theorem Zip.aside {ss:List Sl} {σ:ByteArray→Bool} {All:List Mq.Hp} {s:Bool} {x y:Nat} {u r v rest:List Mq.Hp} (h:Zip ss σ All s x y u r v rest) (hl:ss.length≤1024) {a z j:Nat} (hj:IsAt ss a j) (ha:a∉hds All):Zip (lnk ss a z) σ All s x y u r v rest:=by
 have hsub:∀ q:List Mq.Hp,(∀ b∈q,b∈u++r++v++rest)→a∉hds q:=fun q hq hm=>by
  obtain ⟨b,hb,rfl⟩:=List.mem_map.1 hm
  exact ha (List.mem_map.2 ⟨b,h.sub b (hq b hb),rfl⟩)
 exact {h with own:=Cx.aside hl hj h.own (hsub _ fun b hb=>by simp only [List.mem_append] at hb ⊢; rcases hb with (q | q) | q<;>simp [q]),oth:=Cx.aside hl hj h.oth (hsub _ fun b hb=>by simp only [List.mem_append] at hb ⊢; rcases hb with q | q<;>simp [q])}
def turnF {α:Type} (f:Nat→α) (e:Nat) (a:α) (i:Nat):α:=if i=e then a else f i
theorem turnF_at {α:Type} (f:Nat→α) (e:Nat) (a:α):turnF f e a e=a:=by simp [turnF]
theorem turnF_ne {α:Type} (f:Nat→α) {e i:Nat} (a:α) (h:i≠e):turnF f e a i=f i:=by simp [turnF,h]
def Zs.linked (Z:Zs) (e:Nat) (d t:List Mq.Hp):Zs:=
 {Z with s:=turnF Z.s e (!Z.s e),X:=turnF Z.X e (Z.Y e),Y:=turnF Z.Y e (Z.X e),u:=turnF Z.u e (Z.v e),r:=turnF Z.r e d,v:=turnF Z.v e (Z.u e++Z.r e),rest:=turnF Z.rest e t}
section
variable {Z:Zs} {L:Lm} {l:List Pr} {old old':Int→Nat→Prop} {oldn oldn':Nat→Int→Nat→Prop} {w k e:Nat} {key:ByteArray} {G:Gt.Ge} {r0 d t:List Mq.Hp} {a:Mq.Hp}
theorem Zs.linked_head (Z:Zs) (e:Nat) (d t:List Mq.Hp) (b:Nat):(Z.linked e d t).head b=Z.head b:=by
 unfold Zs.head Zs.linked
 simp only
 by_cases h:b % Z.n=e
 · rw [h,turnF_at,turnF_at,turnF_at]
   cases decide (Z.n≤b)<;>cases Z.s e<;>simp
 · rw [turnF_ne _ _ h,turnF_ne _ _ h,turnF_ne _ _ h]
theorem Zs.Ok.linked (hZ:Z.Ok L l) (hpub:Z.pub=true) (he:e<Z.n) (hr:Z.r e=r0++[a]) (hd:Z.rest e=d++t) (hd0:d≠[]) (hds':∀ b∈d,sd Z.n b.2.1= !Z.s e) (ht:∀ b t',t=b::t'→sd Z.n b.2.1=Z.s e) (hbt:hdH t≤18446744073709551615):
 (Z.linked e d t).Ok {L with ss:=lnk L.ss a.1 (hdH t)} l:=by
 have hz:=hZ.zip e he
 have hza:=hz.own
 rw [hr] at hza
 obtain ⟨j,_,hj,_⟩:=hza.at a (by simp)
 have ha:a.1∈hds (Z.All e):=List.mem_map.2 ⟨a,hz.sub a (by rw [hr]; simp),rfl⟩
 have hlink:=Zip.link hz hZ.len hr hd hd0 hds' ht
 refine {hZ with nexts:=?_,len:=?_,newer:=?_,zip:=?_,fr:=fun q=>by have q:Z.pub=false:=q; rw [hpub] at q; simp at q}
 · show Nexts (lnk L.ss a.1 (hdH t))
   unfold lnk
   by_cases hk:(a.1-1) % 65536<L.ss.length
   · exact hZ.nexts.set hk _ ⟨by simp only; omega,by simp only; omega⟩
   · rw [List.set_eq_of_length_le (by omega)]
     exact hZ.nexts
 · show (lnk L.ss a.1 (hdH t)).length≤_
   rw [lnk_len]
   exact hZ.len
 · intro hp b hb
   rw [Zs.linked_head]
   exact hZ.newer hp b hb
 · intro i hi
   show Zip (lnk L.ss a.1 (hdH t)) (sd Z.n) (Z.All i) (turnF Z.s e (!Z.s e) i) (turnF Z.X e (Z.Y e) i) (turnF Z.Y e (Z.X e) i) (turnF Z.u e (Z.v e) i) (turnF Z.r e d i) (turnF Z.v e (Z.u e++Z.r e) i) (turnF Z.rest e t i)
   by_cases hie:i=e
   · subst hie
     simp only [turnF_at]
     exact hlink
   · simp only [turnF_ne _ _ hie]
     exact Zip.aside (hZ.zip i hi) hZ.len hj (hZ.dj e i he hi (fun q=>hie q.symm) _ ha)
theorem Rok.linked (hZ:Z.Ok L l) (he:e<Z.n) (hr:Z.r e=r0++[a]) (hd:Z.rest e=d++t) (hds':∀ b∈d,sd Z.n b.2.1= !Z.s e) (hold:∀ p,¬old p e) (hold':∀ p,old' p e) (hke:∀ p i,i≠e→old p i→old' p i) (h:Rok Z.wy L l old w key G k):
 ∃ k',k'≤k∧Rok (Z.linked e d t).wy {L with ss:=lnk L.ss a.1 (hdH t)} l old' w key G k':=by
 have hz:=hZ.zip e he
 have hza:=hz.own
 rw [hr] at hza
 obtain ⟨j,_,hj,_⟩:=hza.at a (by simp)
 have ha:a.1∈hds (Z.All e):=List.mem_map.2 ⟨a,hz.sub a (by rw [hr]; simp),rfl⟩
 have mk:∀ k',k'≤k→Rph (Z.linked e d t).wy {L with ss:=lnk L.ss a.1 (hdH t)} l old' key G k'→∃ k',k'≤k∧Rok (Z.linked e d t).wy {L with ss:=lnk L.ss a.1 (hdH t)} l old' w key G k':=fun k' hk' hp=>⟨k',hk',⟨h.ky,h.sum,h.wk,h.gat,h.pd,h.cnt,h.pr,hp⟩⟩
 cases h.ph with
 | come a b=>exact mk _ (Nat.le_refl _) (.come a b)
 | put a b=>exact mk _ (Nat.le_refl _) (.put a b)
 | load a=>exact mk _ (Nat.le_refl _) (.load a)
 | first c a1 b hcb hc=>
   rcases hc with hc | ⟨hc,ho,hfr⟩
   · exact mk _ (Nat.le_refl _) (.first c a1 b hcb (.inl hc))
   · by_cases hie:bkt key Z.n=e
     · exact absurd (hie▸ho) (hold _)
     · refine mk _ (Nat.le_refl _) (.first c a1 b hcb (.inr ⟨hc,hke _ _ hie ho,?_⟩))
       obtain ⟨f1,f2,f3⟩:=hfr
       refine ⟨?_,?_,?_⟩
       · show turnF Z.u e (Z.v e) (bkt key Z.n)=[]
         rw [turnF_ne _ _ hie]; exact f1
       · show turnF Z.v e (Z.u e++Z.r e) (bkt key Z.n)=[]
         rw [turnF_ne _ _ hie]; exact f2
       · show Z.All (bkt key Z.n)=turnF Z.r e d (bkt key Z.n)++turnF Z.rest e t (bkt key Z.n)
         rw [turnF_ne _ _ hie,turnF_ne _ _ hie]; exact f3
 | look q a1 a2 a3 a4 a5 a6 a7 a8 a9 a10 a11 a12 a13=>
   have hpos:G.W.at_≠0:=fun q=>a7 (a8.pos.1 q)
   by_cases hie:bkt key Z.n=e
   · have a9':Std (sd Z.n) (Z.s e) (Z.u e) (Z.r e) (Z.v e) (Z.rest e) False key q:=by
      have a9:=Std.mono a9 (fun o=>hold _ (hie▸o))
      rw [hie] at a9
      exact a9
     obtain ⟨q',p1,p2,p3,p4⟩:=Std.link hz hZ.len hr hd hds' a8 a9'
     refine mk (q'.length+1) (by omega) (.look q' a1 a2 a3 a4 a5 a6 (fun e=>hpos (p1.pos.2 e)) p1 ?_ (p2.trans a10) (Nat.le_trans (Nat.add_le_add_left p3 _) a11) a12 a13)
     show Std (sd Z.n) (turnF Z.s e (!Z.s e) (bkt key Z.n)) (turnF Z.u e (Z.v e) (bkt key Z.n)) (turnF Z.r e d (bkt key Z.n)) (turnF Z.v e (Z.u e++Z.r e) (bkt key Z.n)) (turnF Z.rest e t (bkt key Z.n)) _ key q'
     rw [hie]
     simp only [turnF_at]
     exact p4.mono fun _=>by
      have:old' G.C.period (bkt key Z.n):=by rw [hie]; exact hold' _
      exact this
   · have hb:bkt key Z.n<Z.n:=(bkt_lt hZ.pw key).1
     have hzb:=hZ.zip _ hb
     have hna:a.1∉hds (Z.All (bkt key Z.n)):=hZ.dj e _ he hb (fun q=>hie q.symm) _ ha
     have hnq:a.1∉hds q:=fun hm=>by
      obtain ⟨b,hbq,hbe⟩:=List.mem_map.1 hm
      refine hna (List.mem_map.2 ⟨b,hzb.sub b ?_,hbe⟩)
      rcases a9 with ⟨_,s⟩ | ⟨_,s⟩ | ⟨_,_,s⟩
      · have:=s.subset hbq
        simp only [List.mem_append] at this ⊢
        rcases this with (q | q) | q<;>simp [q]
      · have:=s.subset hbq
        simp only [List.mem_append] at this ⊢
        rcases this with q | q<;>simp [q]
      · have:=s.subset hbq
        simp only [List.mem_append] at this ⊢
        rcases this with q | q<;>simp [q]
     refine mk (q.length+1) (Nat.le_refl _) (.look q a1 a2 a3 a4 a5 a6 a7 (Cx.aside hZ.len hj a8 hnq) ?_ a10 a11 a12 a13)
     show Std (sd Z.n) (turnF Z.s e (!Z.s e) (bkt key Z.n)) (turnF Z.u e (Z.v e) (bkt key Z.n)) (turnF Z.r e d (bkt key Z.n)) (turnF Z.v e (Z.u e++Z.r e) (bkt key Z.n)) (turnF Z.rest e t (bkt key Z.n)) _ key q
     simp only [turnF_ne _ _ hie]
     exact Std.mono a9 (hke _ _ hie)
 | leave a b=>exact mk _ (Nat.le_refl _) (.leave a b)
theorem Zs.Ok.cells (hZ:Z.Ok L l) {xs' hs':List Int} {ds':List (Nat×Nat)} {ws':List Nat} (h1:∀ i,Z.B≤i→i<Z.B+Z.n→Cl.nth xs' i=Cl.nth L.xs i) (h2:Z.pub=true→∀ b,b<2*Z.n→Cl.nth xs' (Z.B2+b)=Cl.nth L.xs (Z.B2+b)) (hl:L.xs.length≤xs'.length)
 (hxb:∀ x∈xs',0≤x∧x≤18446744073709551615) (hnow:Me.now xs' ds'=Me.now L.xs L.ds) (htb:∀ i,(tab ds' i).1≤65536∧(tab ds' i).2≤4000000) (hp1:1≤Cl.nth xs' 0):Z.Ok {L with xs:=xs',ds:=ds',hs:=hs',ws:=ws'} l:=
 {hZ with now:=by show Me.now xs' ds'=_; rw [hnow]; exact hZ.now,tb:=htb,xl:=by have:=hZ.xl; exact ⟨Nat.le_trans this.1 hl,this.2.1,fun p=>Nat.le_trans (this.2.2 p) hl⟩,xb:=hxb,elder:=fun i hi=>by show Cl.nth xs' _=_; rw [h1 _ (by omega) (by omega)]; exact hZ.elder i hi,newer:=fun p b hb=>by show Cl.nth xs' _=_; rw [h2 p b hb]; exact hZ.newer p b hb,p1:=hp1}
theorem Zs.Ok.publish (hZ:Z.Ok L l) (_hp:Z.pub=false) {xs':List Int} (h1:∀ i,i≠1→Cl.nth xs' i=Cl.nth L.xs i) (hl:xs'.length=L.xs.length) (hxb:∀ x∈xs',0≤x∧x≤18446744073709551615) (hnow:Me.now xs' L.ds=(2*Z.n,Z.B2)) (h2:Z.B2+2*Z.n≤L.xs.length) (hnew:∀ b,b<2*Z.n→Cl.nth L.xs (Z.B2+b)=((Z.head b:Nat):Int)):Zs.Ok {Z with pub:=true} {L with xs:=xs'} l:=by
 have hkB:=hZ.kB
 have hk:=hZ.k
 have hxl:=hZ.xl
 exact {hZ with now:=hnow,xl:=⟨by show _≤xs'.length; rw [hl]; exact hxl.1,hxl.2.1,fun _=>by show _≤xs'.length; rw [hl]; exact h2⟩,xb:=hxb,elder:=fun i hi=>by show Cl.nth xs' (Z.B+i)=_; rw [h1 _ (by omega)]; exact hZ.elder i hi,newer:=fun _ b hb=>by show Cl.nth xs' (Z.B2+b)=_; rw [h1 _ (by omega)]; exact hnew b hb,fr:=fun q=>by simp at q,p1:=by show 1≤Cl.nth xs' 0; rw [h1 _ (by omega)]; exact hZ.p1}
theorem RnOk.publish {R:Rn} (h:RnOk Z.wy L l oldn R k):RnOk {Z with pub:=true}.wy L l oldn R k:=
 h.to rfl (Int.le_refl _) rfl rfl (Nat.le_refl _) (fun _ _ _ q=>q.imp (fun q=>⟨q.1,rfl⟩) id) (fun _ _ _ q=>q)
theorem RnOk.mono {R:Rn} (hY:Z.wy.Ok L l) (h:RnOk Z.wy L l oldn R k) (ho:∀ p e,oldn R.w p e→oldn' R.w p e):RnOk Z.wy L l oldn' R k:=
 h.to rfl (Int.le_refl _) rfl rfl (Nat.le_refl _) (fun _ _ _=>hY.celm (ho _)) (fun _ _ _=>hY.mono (ho _))
theorem Zs.Ok.parted (hZ:Z.Ok L l) (hp:∀ e,e<Z.n→Z.rest e=[]) {b:Nat} (hb:b<2*Z.n):Cx L.ss (Z.head b) ((Z.All (b % Z.n)).filter fun a=>sd Z.n a.2.1==decide (Z.n≤b)):=by
 have hn:=FM.power_bd hZ.pw
 have he:b % Z.n<Z.n:=Nat.mod_lt _ (by omega)
 have hz:=hZ.zip _ he
 rw [hp _ he] at hz
 obtain ⟨h1,h2⟩:=hz.parted
 unfold Zs.head
 by_cases hs:decide (Z.n≤b)=Z.s (b % Z.n)
 · rw [if_pos hs,hs]
   exact h1
 · rw [if_neg hs]
   have:decide (Z.n≤b)= !(Z.s (b % Z.n)):=by
    revert hs
    cases decide (Z.n≤b)<;>cases Z.s (b % Z.n)<;>simp
   rw [this]
   exact h2
theorem RnOk.linked {R:Rn} (hZ:Z.Ok L l) (he:e<Z.n) (hr:Z.r e=r0++[a]) (hd:Z.rest e=d++t) (hds':∀ b∈d,sd Z.n b.2.1= !Z.s e) (hold:∀ p,¬oldn R.w p e) (hold':∀ p,oldn' R.w p e) (hke:∀ p i,i≠e→oldn R.w p i→oldn' R.w p i) (h:RnOk Z.wy L l oldn R k):
 ∃ k',k'≤k∧RnOk (Z.linked e d t).wy {L with ss:=lnk L.ss a.1 (hdH t)} l oldn' R k':=by
 unfold RnOk at h ⊢
 split
 · rename_i q
   rw [q] at h
   exact ⟨k,Nat.le_refl _,h⟩
 · rename_i G q
   rw [q] at h
   exact Rok.linked hZ he hr hd hds' hold hold' hke h
end
end Go.Proofs.YtpobbnllcoabhaaGreatDoor.Zp
namespace Go.Proofs.YtpobbnllcoabhaaGreatDoor.Zp
open Go Hm Ar Mm Wk Pc Me Mq Pu Pn Gt Qs
structure Js where
 n:Nat
 B:Nat
 B2:Nat
 few:Nat
 cap:Nat
 pub:Bool
 C:Nat→List Mq.Hp
 jn:Nat→Bool
def Js.two (J:Js) (e:Nat):List Mq.Hp:=J.C e++J.C (e+J.n)
def Js.way (J:Js) (b:Nat):List Mq.Hp:=if b<J.n∧J.jn b=true∧J.C b≠[] then J.two b else J.C b
structure Js.Ok (J:Js) (L:Lm) (l:List Pr):Prop where
 pw:FM.power J.n=true
 pw2:FM.power ((2*J.n:Nat):Int)=true
 now:Me.now L.xs L.ds=if J.pub=true then (J.n,J.B2) else (2*J.n,J.B)
 tb:∀ i,(tab L.ds i).1≤65536∧(tab L.ds i).2≤4000000
 k:1≤L.k∧L.k≤8
 kB:2+L.k≤J.B
 xl:J.B+2*J.n≤L.xs.length∧J.B+2*J.n≤J.B2∧(J.pub=true→J.B2+J.n≤L.xs.length)
 bb:J.B2≤4000000
 xb:∀ x∈L.xs,0≤x∧x≤18446744073709551615
 nexts:Nexts L.ss
 len:L.ss.length≤1024
 elder:∀ b,b<2*J.n→Cl.nth L.xs (J.B+b)=((hdH (J.C b):Nat):Int)
 newer:J.pub=true→∀ e,e<J.n→Cl.nth L.xs (J.B2+e)=((hdH (J.two e):Nat):Int)
 all:J.pub=true→∀ e,e<J.n→J.jn e=true
 chain:∀ b,b<2*J.n→Cx L.ss (hdH (J.C b)) (J.way b)
 lk:∀ key,Pc.lk l key=Pc.lk (prs (J.C (bkt key (2*J.n)))) key
 own:∀ b,b<2*J.n→∀ a∈J.C b,bkt a.2.1 (2*J.n)=b
 F:L.F=false
 p1:1≤Cl.nth L.xs 0
 few:(∀ e,e<J.n→(J.two e).length≤J.few)∧J.few≤900∧J.few≤J.cap∧J.cap≤1000000
 nd:∀ b,b<2*J.n→(hds (J.C b)).Nodup
 dj:∀ b b',b<2*J.n→b'<2*J.n→b≠b'→∀ a∈hds (J.C b),a∉hds (J.C b')
def Js.wy (J:Js):Wy:=⟨fun _ key q=>q<:+J.way (bkt key (2*J.n))∨(J.pub=true∧q<:+J.two (bkt key J.n)),
 fun o key c=>(c=J.B+bkt key (2*J.n)∧(J.pub=false∨o 0))∨(c=J.B2+bkt key J.n∧J.pub=true),J.few,J.cap,true⟩
section
variable {J:Js} {L:Lm} {l:List Pr} {old old':Int→Nat→Prop} {w k e:Nat} {key:ByteArray} {G:Gt.Ge}
theorem Js.Ok.bk (hJ:J.Ok L l) (key:ByteArray):bkt key J.n<J.n∧bkt key (2*J.n)<2*J.n∧(bkt key (2*J.n)=bkt key J.n∨bkt key (2*J.n)=bkt key J.n+J.n):=by
 obtain ⟨h1,h2,h3⟩:=bkt_two hJ.pw hJ.pw2 key
 refine ⟨(bkt_lt hJ.pw key).1,h2,?_⟩
 split at h3<;>omega
theorem Js.Ok.ne (hJ:J.Ok L l) {b:Nat} (hb:b<2*J.n) (hk:b≠bkt key (2*J.n)):∀ a∈J.C b,a.2.1≠key:=fun a ha q=>by
 have:=hJ.own b hb a ha
 rw [q] at this
 exact hk this.symm
theorem lk_back {a d:List Mq.Hp} {key:ByteArray} (hk:∀ e∈d,e.2.1≠key):Pc.lk (prs (a++d)) key=Pc.lk (prs a) key:=by
 have:=lk_skip (a:=a) (d:=d) (t:=[]) hk
 simpa using this
theorem lk_front {a d:List Mq.Hp} {key:ByteArray} (hk:∀ e∈a,e.2.1≠key):Pc.lk (prs (a++d)) key=Pc.lk (prs d) key:=by
 have:=lk_skip (a:=[]) (d:=a) (t:=d) hk
 simpa using this
theorem Js.Ok.way_lk (hJ:J.Ok L l) (key:ByteArray):Pc.lk (prs (J.way (bkt key (2*J.n)))) key=Pc.lk l key:=by
 obtain ⟨h1,h2,h3⟩:=hJ.bk key
 rw [hJ.lk key]
 unfold Js.way
 split
 · rename_i q
   exact lk_back (hJ.ne (by omega) (by omega))
 · rfl
theorem Js.Ok.two_lk (hJ:J.Ok L l) (key:ByteArray):Pc.lk (prs (J.two (bkt key J.n))) key=Pc.lk l key:=by
 obtain ⟨h1,h2,h3⟩:=hJ.bk key
 rw [hJ.lk key]
 unfold Js.two
 have hn:=FM.power_bd hJ.pw
 rcases h3 with q | q
 · rw [lk_back (hJ.ne (by omega) (by omega)),q]
 · rw [lk_front (hJ.ne (by omega) (by omega)),q]
theorem Js.Ok.way_few (hJ:J.Ok L l) {b:Nat} (hb:b<2*J.n):(J.way b).length≤J.few:=by
 have h:=hJ.few.1
 unfold Js.way
 split
 · rename_i q
   exact h b q.1
 · by_cases q:b<J.n
   · have:=h b q
     unfold Js.two at this
     rw [List.length_append] at this
     omega
   · have:=h (b-J.n) (by omega)
     unfold Js.two at this
     rw [List.length_append,show b-J.n+J.n=b by omega] at this
     omega
theorem Js.Ok.both (hJ:J.Ok L l) (hp:J.pub=true) (he:e<J.n):Cx L.ss (hdH (J.two e)) (J.two e):=by
 have h1:=hJ.chain e (by omega)
 by_cases hc:J.C e=[]
 · have h2:=hJ.chain (e+J.n) (by omega)
   unfold Js.way at h2
   rw [if_neg (by omega)] at h2
   unfold Js.two
   rw [hc,List.nil_append]
   exact h2
 · unfold Js.way at h1
   rw [if_pos ⟨he,hJ.all hp e he,hc⟩] at h1
   have:hdH (J.two e)=hdH (J.C e):=by
    unfold Js.two hdH
    cases hq:J.C e with
    | nil=>exact absurd hq hc
    | cons a t=>rfl
   rw [this]
   exact h1
theorem Js.Ok.ways (hJ:J.Ok L l):J.wy.Ok L l:=by
 have hbd:=hJ.bb
 have hxl:=hJ.xl
 have hkB:=hJ.kB
 have hn1:=FM.power_bd hJ.pw
 refine ⟨hJ.k,fun w hw=>by omega,hJ.xb,hJ.nexts,hJ.len,hJ.F,hJ.p1,hJ.tb,hJ.few.2,fun {o key e q} h=>h.imp (fun h=>(List.suffix_cons _ _).trans h) (fun h=>⟨h.1,(List.suffix_cons _ _).trans h.2⟩),fun _ h=>h,fun ho h=>h.imp (fun q=>⟨q.1,q.2.imp id (ho 0)⟩) id,fun {o key c} hc=>?_,fun o key _=>?_⟩
 · obtain ⟨h1,h2,h3⟩:=hJ.bk key
   rcases hc with ⟨rfl,_⟩ | ⟨rfl,hp⟩
   · have hw1:word L.xs ((J.B+bkt key (2*J.n):Nat):Int)=hdH (J.C (bkt key (2*J.n))):=by
      unfold word
      rw [if_pos (by omega),Int.toNat_natCast,hJ.elder _ h2,Int.toNat_natCast]
     rw [hw1]
     exact ⟨by omega,_,hJ.chain _ h2,.inl (List.suffix_refl _),hJ.way_lk key,hJ.way_few h2⟩
   · have hw1:word L.xs ((J.B2+bkt key J.n:Nat):Int)=hdH (J.two (bkt key J.n)):=by
      unfold word
      rw [if_pos (by have:=hxl.2.2 hp; omega),Int.toNat_natCast,hJ.newer hp _ h1,Int.toNat_natCast]
     rw [hw1]
     exact ⟨by omega,_,hJ.both hp h1,.inr ⟨hp,List.suffix_refl _⟩,hJ.two_lk key,hJ.few.1 _ h1⟩
 · obtain ⟨h1,h2,h3⟩:=hJ.bk key
   have hnow:=hJ.now
   cases hp:J.pub with
   | true=>
     rw [hp,if_pos rfl] at hnow
     refine ⟨J.B2+bkt key J.n,?_,.inr ⟨rfl,hp⟩⟩
     rw [hnow]
     unfold Gt.cellOf
     simp only
     rw [if_neg (by omega),(bkt_lt hJ.pw key).2]
     simp
   | false=>
     rw [hp,if_neg (by simp)] at hnow
     refine ⟨J.B+bkt key (2*J.n),?_,.inl ⟨rfl,.inl hp⟩⟩
     rw [hnow]
     unfold Gt.cellOf
     simp only
     rw [if_neg (by omega),(bkt_lt hJ.pw2 key).2]
     simp
def Js.linked (J:Js) (e:Nat):Js:={J with jn:=turnF J.jn e true,cap:=J.cap+(J.C (e+J.n)).length}
theorem Js.linked_way (J:Js) (e b:Nat) (h:b≠e):(J.linked e).way b=J.way b:=by
 unfold Js.way Js.linked Js.two
 simp only [turnF_ne _ _ h]
theorem Cx.hang {ss:List Sl} {j:Nat} {a:Mq.Hp} {t:List Mq.Hp} (hl:ss.length≤1024) (hj:IsAt ss a.1 j) (ht:Cx ss (hdH t) t) (ha:a.1∉hds t):∀ (pre:List Mq.Hp) (p:Nat),Cx ss p (pre++[a])→(hds (pre++[a])).Nodup→Cx (lnk ss a.1 (hdH t)) p (pre++a::t):=by
 intro pre
 induction pre with
 | nil=>
   intro p h _
   cases h with
   | @cons _ k z pp _ b c d=>
     refine .cons (lnk_live hl b b) (z:=hdH t) ?_ (Cx.aside hl b ht ha)
     rw [lnk_at hl b,if_pos rfl]
     simp only [c]
     rfl
 | cons e0 r ih=>
   intro p h hn
   have hn':=List.nodup_cons.1 hn
   cases h with
   | @cons _ k z pp _ b c d=>
     have hne:p≠a.1:=by
      rintro rfl
      exact hn'.1 (by simp [hds])
     have:=lnk_keep (y:=hdH t) hl hj b hne
     exact .cons this.1 (this.2.trans c) (ih _ d hn'.2)
theorem Js.Ok.linked (hJ:J.Ok L l) (hp:J.pub=false) (he:e<J.n) (hjn:J.jn e=false) {c0:List Mq.Hp} {a:Mq.Hp} (hc:J.C e=c0++[a]) (hcap:J.cap+(J.C (e+J.n)).length≤1000000):
 (J.linked e).Ok {L with ss:=lnk L.ss a.1 (hdH (J.C (e+J.n)))} l:=by
 have hch:=hJ.chain e (by omega)
 have hwe:J.way e=J.C e:=by unfold Js.way; rw [if_neg (by simp [hjn])]
 rw [hwe,hc] at hch
 obtain ⟨j,_,hj,_⟩:=hch.at a (by simp)
 have hae:a.1∈hds (J.C e):=by rw [hc]; simp
 have hways:∀ b,b<2*J.n→b≠e→a.1∉hds (J.way b):=by
  intro b hb hne
  unfold Js.way
  split
  · rename_i q
    unfold Js.two
    simp only [hds,List.map_append,List.mem_append]
    rintro (q1 | q1)
    · exact hJ.dj e b (by omega) hb (fun q=>hne q.symm) _ hae q1
    · exact hJ.dj e (b+J.n) (by omega) (by omega) (by omega) _ hae q1
  · exact hJ.dj e b (by omega) hb (fun q=>hne q.symm) _ hae
 have hb2:=hJ.chain (e+J.n) (by omega)
 have hw2:J.way (e+J.n)=J.C (e+J.n):=by unfold Js.way; rw [if_neg (by omega)]
 rw [hw2] at hb2
 have hzb:hdH (J.C (e+J.n))≤18446744073709551615:=by
  have:=hJ.elder (e+J.n) (by omega)
  have:=Cl.getD_bd hJ.xb (J.B+(e+J.n))
  omega
 refine {hJ with nexts:=?_,len:=?_,chain:=?_,newer:=fun q=>?_,all:=fun q=>?_,few:=⟨hJ.few.1,hJ.few.2.1,by have:=hJ.few.2.2.1; show J.few≤J.cap+_; omega,hcap⟩}
 · show Nexts (lnk L.ss a.1 (hdH (J.C (e+J.n))))
   unfold lnk
   by_cases hk:(a.1-1) % 65536<L.ss.length
   · exact hJ.nexts.set hk _ ⟨by simp only; omega,by simp only; omega⟩
   · rw [List.set_eq_of_length_le (by omega)]
     exact hJ.nexts
 · show (lnk L.ss a.1 _).length≤_
   rw [lnk_len]
   exact hJ.len
 · have q:J.pub=true:=q
   rw [hp] at q; simp at q
 · have q:J.pub=true:=q
   rw [hp] at q; simp at q
 · intro b hb
   have hb:b<2*J.n:=hb
   show Cx (lnk L.ss a.1 (hdH (J.C (e+J.n)))) (hdH (J.C b)) ((J.linked e).way b)
   by_cases hbe:b=e
   · subst hbe
     have:(J.linked b).way b=c0++a::J.C (b+J.n):=by
      unfold Js.way Js.linked Js.two
      simp only [turnF_at]
      rw [if_pos ⟨he,by simp,by rw [hc]; simp⟩,hc]
      simp
     rw [this]
     exact Cx.hang hJ.len hj hb2 (hJ.dj b (b+J.n) (by omega) (by omega) (by omega) _ hae) c0 _ (by rw [hc]; exact hch) (by rw [← hc]; exact hJ.nd b hb)
   · rw [Js.linked_way J e b hbe]
     exact Cx.aside hJ.len hj (hJ.chain b hb) (hways b hb hbe)
theorem Rok.joined (hJ:J.Ok L l) (hp:J.pub=false) (he:e<J.n) (hjn:J.jn e=false) {c0:List Mq.Hp} {a:Mq.Hp} (hc:J.C e=c0++[a]) (h:Rok J.wy L l old w key G k):
 ∃ k',k'≤k+(J.C (e+J.n)).length∧Rok (J.linked e).wy {L with ss:=lnk L.ss a.1 (hdH (J.C (e+J.n)))} l old w key G k':=by
 have hch:=hJ.chain e (by omega)
 have hwe:J.way e=J.C e:=by unfold Js.way; rw [if_neg (by simp [hjn])]
 rw [hwe,hc] at hch
 obtain ⟨j,_,hj,_⟩:=hch.at a (by simp)
 have hae:a.1∈hds (J.C e):=by rw [hc]; simp
 obtain ⟨b1,b2,b3⟩:=hJ.bk key
 have mk:∀ k',k'≤k+(J.C (e+J.n)).length→Rph (J.linked e).wy {L with ss:=lnk L.ss a.1 (hdH (J.C (e+J.n)))} l old key G k'→∃ k',k'≤k+(J.C (e+J.n)).length∧Rok (J.linked e).wy {L with ss:=lnk L.ss a.1 (hdH (J.C (e+J.n)))} l old w key G k':=fun k' hk' hp=>⟨k',hk',⟨h.ky,h.sum,h.wk,h.gat,h.pd,h.cnt,h.pr,hp⟩⟩
 cases h.ph with
 | come a b=>exact mk _ (Nat.le_add_right (J.few+5) _) (.come a b)
 | put a b=>exact mk _ (Nat.le_add_right (J.few+4) _) (.put a b)
 | load a=>exact mk _ (Nat.le_add_right (J.few+3) _) (.load a)
 | first c a1 b hcb q=>exact mk _ (Nat.le_add_right (J.few+2) _) (.first c a1 b hcb q)
 | look q a1 a2 a3 a4 a5 a6 a7 a8 a9 a10 a11 a12 a13=>
   have a11:G.W.read+q.length≤J.cap:=a11
   have hq:q<:+J.way (bkt key (2*J.n)):=by
    rcases a9 with q | ⟨q,_⟩
    · exact q
    · rw [hp] at q; simp at q
   by_cases hbe:bkt key (2*J.n)=e
   · rw [hbe,hwe,hc] at hq
     obtain ⟨q0,rfl⟩:=suffix_last hq a7
     obtain ⟨p0,hp0⟩:=hq
     have hnd:(hds (q0++[a])).Nodup:=by
      have:=hJ.nd e (by omega)
      rw [hc,← hp0] at this
      simp only [hds,List.map_append] at this ⊢
      exact (List.nodup_append.1 this).2.1
     have hb2:=hJ.chain (e+J.n) (by omega)
     have hw2:J.way (e+J.n)=J.C (e+J.n):=by unfold Js.way; rw [if_neg (by omega)]
     rw [hw2] at hb2
     have hx:=Cx.hang hJ.len hj hb2 (hJ.dj e (e+J.n) (by omega) (by omega) (by omega) _ hae) q0 _ a8 hnd
     rw [show q0++a::J.C (e+J.n)=(q0++[a])++J.C (e+J.n) by simp] at hx
     refine mk ((q0++[a]++J.C (e+J.n)).length+1) (by simp only [List.length_append]; omega) (.look (q0++[a]++J.C (e+J.n)) a1 a2 a3 a4 a5 a6 (by simp) hx (.inl ?_) ?_ ?_ a12 a13)
     · have:(J.linked e).way (bkt key (2*(J.linked e).n))=J.C e++J.C (e+J.n):=by
        show (J.linked e).way (bkt key (2*J.n))=_
        rw [hbe]
        unfold Js.way Js.linked Js.two
        simp only [turnF_at]
        rw [if_pos ⟨he,by simp,by rw [hc]; simp⟩]
       rw [this,hc,← hp0]
       exact ⟨p0,by simp⟩
     · rw [lk_back (hJ.ne (by omega) (by omega))]
       exact a10
     · show G.W.read+_≤J.cap+(J.C (e+J.n)).length
       simp only [List.length_append] at a11 ⊢
       omega
   · have hna:a.1∉hds q:=fun hm=>by
      have hm:=(hq.map (·.1)).subset hm
      unfold Js.way at hm
      split at hm
      · unfold Js.two at hm
        simp only [hds,List.map_append,List.mem_append] at hm
        rcases hm with hm | hm
        · exact hJ.dj e _ (by omega) b2 (fun q=>hbe q.symm) _ hae hm
        · exact hJ.dj e (bkt key (2*J.n)+J.n) (by omega) (by omega) (by omega) _ hae hm
      · exact hJ.dj e _ (by omega) b2 (fun q=>hbe q.symm) _ hae hm
     refine mk (q.length+1) (by omega) (.look q a1 a2 a3 a4 a5 a6 a7 (Cx.aside hJ.len hj a8 hna) (.inl ?_) a10 (by show _≤J.cap+_; omega) a12 a13)
     show q<:+(J.linked e).way (bkt key (2*J.n))
     rw [Js.linked_way J e _ hbe]
     exact hq
 | leave a b=>exact mk _ (by omega) (.leave a b)
end
end Go.Proofs.YtpobbnllcoabhaaGreatDoor.Zp
namespace Go.Proofs.YtpobbnllcoabhaaGreatDoor.Zp
open Go Hm Ar Mm Wk Pc Me Mq Pu Pn Gt Qs
section
variable {Z:Zs} {L:Lm} {l:List Pr} {n:Nat} {W:Wt}
theorem Zs.Ok.waits (hZ:Z.Ok L l) (hb:Cl.nth L.xs 0≤4611686018427387904):Z.Ok {L with xs:=(wstep n L.xs L.hs W).1,hs:=(wstep n L.xs L.hs W).2.1} l:=by
 have hkB:=hZ.kB
 have hk:=hZ.k
 have hxl:=hZ.xl
 have h0:=Cl.getD_bd hZ.xb 0
 have hs:=sum64_in h0.1 hb
 unfold wstep
 split
 · exact hZ.cells (fun _ _ _=>rfl) (fun _ _ _=>rfl) (Nat.le_refl _) hZ.xb rfl hZ.tb hZ.p1
 split
 · have hn:∀ i,i≠0→Cl.nth (L.xs.set 0 (Cl.sum64 (Cl.nth L.xs 0) 1)) i=Cl.nth L.xs i:=fun i hi=>by
    rw [nth_set _ _ _ (by omega),if_neg hi]
   refine hZ.cells (fun i h1 _=>hn i (by omega)) (fun _ b _=>hn _ (by omega)) (by simp) (fun x hx=>?_) ?_ hZ.tb ?_
   · rcases List.mem_or_eq_of_mem_set hx with q | rfl
     · exact hZ.xb x q
     · rw [hs]; omega
   · unfold Me.now
     rw [hn 1 (by omega)]
   · rw [nth_set _ _ _ (by omega),if_pos rfl,hs]
     have:=hZ.p1
     omega
 split
 · exact hZ.cells (fun _ _ _=>rfl) (fun _ _ _=>rfl) (Nat.le_refl _) hZ.xb rfl hZ.tb hZ.p1
 · exact hZ.cells (fun _ _ _=>rfl) (fun _ _ _=>rfl) (Nat.le_refl _) hZ.xb rfl hZ.tb hZ.p1
end
end Go.Proofs.YtpobbnllcoabhaaGreatDoor.Zp
