/- Walks over layer 5 (mem): Chain, Reach. -/
import Derived.Test.YtkogifmjbmnpgaaGreatMemChain
set_option linter.unusedVariables false
set_option linter.unusedSimpArgs false
namespace Go.Proofs.YtkogifmjbmnpgaaGreat.Me
open Go Go.RowKit Hp K Fl Rw Hm Ar Mm
set_option maxRecDepth 100000
def first (xs:List Int) (ds:List (Nat×Nat)) (b:Nat):Nat:=(Cl.nth xs ((now xs ds).2+b)).toNat
def Chn (xs:List Int) (ds:List (Nat×Nat)) (ss:List Sl) (i:Int) (t:List Nat):Prop:=if 0≤i∧i<(now xs ds).1 then Ch ss [] (first xs ds i.toNat) t else t=[]
def Rch (xs:List Int) (ds:List (Nat×Nat)) (ss:List Sl) (t:List Nat):Prop:=Rh ss (first xs ds) (now xs ds).1 t
def Lists (w:World) (ty:TypeId) (t:List Nat) (e:Ending) (w':World):Prop:=
 ∃ A cap,e=.returned (.slice A t.length cap)∧Row w' ty 1 hnd A cap t∧Below w.heap.size w w'∧∀ x,In A x→w.heap.size≤x
section
variable {w:World} {M:Mo}
def RInv (w wr:World) (M:Mo) (B q:Nat) (d:Nat×Nat) (f:Nat→Nat) (v:Value) (b:Nat):Prop:=
 ∃ (A:Option Addr) (cap:Nat) (all ms:List Nat),v=.slice A all.length cap∧Rh M.ss f b all∧Hnds wr A cap all∧Met wr B ms∧(∀ x,x∈all↔x∈ms)∧ms.length≤all.length∧
   MemAt wr M∧Blk wr q 51 #[.int .i64 d.1,.int .i64 d.2]∧Below w.heap.size w wr∧(∀ x,In A x→w.heap.size≤x)∧w.heap.size≤B
set_option maxHeartbeats 1000000 in
theorem reach_any (h:MemAt w M) (hT:Tabs M.xs M.ds) (hx:1<M.xs.length) (hN:Nexts M.ss) (hl:M.ss.length≤1024) (t:List Nat) (ht:Rch M.xs M.ds M.ss t):
 Calls Tryz.prog 24 #[ptr M.m] w (Lists w 87 t):=by
 have hNow:=now_any h hx
 have hTn:=hT.now
 have H:=Lib.hid h
 have hxl:=h.2.1.2.2.2
 unfold Rch at ht
 obtain ⟨⟨d1,d2⟩,hd⟩:∃ d,now M.xs M.ds=d:=⟨_,rfl⟩
 have hfst:first M.xs M.ds=fun b=>(Cl.nth M.xs (d2+b)).toNat:=by unfold first; rw [hd]
 rw [hd] at hNow hTn
 rw [hd,hfst] at ht
 simp only at ht hTn
 clear hfst hd h
 unfold dv at hNow
 replace hNow:=Lib.hid hNow
 have hF:Hid (∀ w2 A cap all B ms u k,k<d1→MemAt w2 M→Hnds w2 A cap all→all.length≤1024→Met w2 B ms→ms.length≤1024→(∀ x,In A x→¬mfoot M x)→Ch M.ss ms (Cl.nth M.xs (d2+k)).toNat u→Calls Tryz.prog 56 #[ptr M.m,.slice A all.length cap,.int .i64 ((d2:Int)+(k:Int)),.map (some B)] w2 (Followed w2 B A all ms u)):=Lib.hid fun w2 A cap all B ms u k hk h2 ha hal hm hml hap hu=>by
  have htn:=hTn.2.1 (by omega)
  have:=follow_any h2 hN hl (d2+k) (by omega) A cap all ha (by omega) B ms hm (by omega) hap u hu
  rw [Int.natCast_add] at this
  exact this
 clear hT hN hx
 have htn1:=hTn.1
 have htn2:=hTn.2.2
 replace hTn:=Lib.hid hTn
 replace ht:=Lib.hid ht
 have hmm:=@run_makeMap Tryz.prog
 go_enter Tryz.func24,Tryz.ntmps24
 go_wp2_with (go_at_call 16; refine hNow.out.mono ?_; rintro e w1 ⟨rfl,hB1⟩
              have hM1:=Lib.hid (H.out.below hB1)
              replace hB1:=Lib.hid hB1)
 have H0:=Lib.hid (show RInv w ((w1.alloc (.cells #[.int .i64 d1,.int .i64 d2] 51)).alloc (.map #[] 0)) M (w1.heap.size+1) w1.heap.size (d1,d2) (fun b=>(Cl.nth M.xs (d2+b)).toNat) (.slice none 0 0) 0 from by
  have hs:=hB1.out.size
  refine ⟨none,0,[],[],rfl,.zero,Row.nil _ _ _ _,?_,by simp,by simp,(hM1.out.alloc _).alloc _,(Blk.made w1 _ _).alloc _,?_,by simp [In],by omega⟩
  · have:=Met.made (w1.alloc (.cells #[.int .i64 d1,.int .i64 d2] 51))
    simpa using this
  · exact (hB1.out.alloc hs _).alloc (by simp; omega) _)
 go_wp2_with fail
 clear hmm
 go_loopw [4,12] (fun v i wr=>∃ b:Nat,b≤d1∧i=.int .i64 b∧RInv w wr M (w1.heap.size+1) w1.heap.size (d1,d2) (fun b=>(Cl.nth M.xs (d2+b)).toNat) v b) (fun _ i _=>d1-(intOf i).toNat)
 case atStart=>exact ⟨0,Nat.zero_le _,rfl,H0.out⟩
 case round=>
  obtain ⟨b,hb,rfl,A,cap,all,ms,rfl,hR,hA,hM,hiff,hml,hMe,hQ,hB,hA',hBw⟩:=hrel
  clear H0
  have hale:=rh_le hl hR
  by_cases hlt:b<d1
  · obtain ⟨u,hu⟩:=ch_any M.ss hl all (Cl.nth M.xs (d2+b)).toNat
    have hFu:=Lib.hid (hF.out wr A cap all (w1.heap.size+1) ms u b hlt hMe hA (by omega) hM (by omega) (fun x hx hm=>by
     have h1:=hA' x hx
     have h2:=H.out.lt hm
     omega) (ch_congr hu ms hiff))
    have c0:=hQ.cell 0
    have c1:=hQ.cell 1
    simp at c0 c1
    replace hA:=Lib.hid hA
    replace hM:=Lib.hid hM
    replace hMe:=Lib.hid hMe
    replace hQ:=Lib.hid hQ
    replace hB:=Lib.hid hB
    replace hA':=Lib.hid hA'
    have hR':=Lib.hid (Rh.succ hR hu)
    have hul:=ch_le hl hu
    replace hiff:=Lib.hid hiff
    clear hu hR
    generalize hal:all.length=al at*
    replace hal:=Lib.hid hal
    go_wp2_with (go_at_call 56
                 refine hFu.out.mono ?_
                 rintro e w2 ⟨A2,cap2,rfl,hA2,hM2,hO2,hi2⟩
                 have hi2':=Lib.hid (fun y (hy:In A2 y)=>show w.heap.size≤y from by
                  rcases hi2 y hy with q | q
                  · exact hA'.out y q
                  · have:=hB.out.size
                    omega)
                 have hMe2:=Lib.hid (hMe.out.only hO2 (fun y hm q=>by
                  have h2:=H.out.lt hm
                  rcases q with q | q
                  · omega
                  · have:=hA'.out y q
                    omega))
                 have hQ2:=Lib.hid (hQ.out.only hO2 (fun q=>by
                  rcases q with q | q
                  · omega
                  · exact (row_ty hA.out q).apart (blk_ty hQ.out) (by decide)))
                 have hB2:=Lib.hid (hB.out.trans (hO2.toBelow hB.out.size (fun y hy q=>by
                  rcases q with q | q
                  · omega
                  · have:=hA'.out y q
                    omega)))
                 replace hA2:=Lib.hid hA2
                 replace hM2:=Lib.hid hM2
                 clear hO2 hi2 c0 c1)
    go_roundw
    case rel=>
     refine ⟨b+1,by omega,by go_num,A2,cap2,all++u,u.reverse++ms,by rw [List.length_append],hR'.out,hA2.out,hM2.out,fun x=>?_,?_,hMe2.out,hQ2.out,hB2.out,hi2'.out,hBw⟩
     · have:=hiff.out x
       simp [this,or_comm]
     · have:=hal.out
       simp
       omega
    case measure=>simp [intOf]; omega
  · obtain rfl:b=d1:=by omega
    obtain rfl:=rh_det hl ht.out _ hR
    have c0:=hQ.cell 0
    simp at c0
    replace hA:=Lib.hid hA
    replace hB:=Lib.hid hB
    replace hA':=Lib.hid hA'
    clear hM hMe hiff hR hQ
    go_wp2_with fail
    go_ret
    exact ⟨A,cap,rfl,hA.out,hB.out,hA'.out⟩
end
end Go.Proofs.YtkogifmjbmnpgaaGreat.Me
