/- A part. -/
import Derived.Test.YtpanebgakndddaaGreatWalkB
import Derived.BigRegion
set_option linter.unusedVariables false
set_option linter.unusedSimpArgs false
namespace Go.Proofs.YtpanebgakndddaaGreat.Wk
open Go Go.RowKit Hp K Fl Rw Hm Ar Mm Me
set_option maxRecDepth 100000
def mG (W:Wa) (n:Nd):Bool:=decide (n.sum=W.sum/\n.key=W.key)
def looks (W:Wa) (n:Nd):Wa:=if mG W n=true then {W with read:=W.read+1,found:=W.at_,nd:=n,nx:=3} else dB {W with read:=W.read+1,prev:=W.at_} n.next.toNat
theorem wi {a b:ByteArray} (h:a≠b):(a.toList==b.toList)=false:=by
 rw [ByteArray.toList_eq,ByteArray.toList_eq,beq_eq_false_iff_ne]
 intro e
 exact h (ByteArray.ext (Array.toList_inj.1 e))
def nV (W:Wa) (n:Nd):Bool:=mG W n||decide (n.next.toNat=0)
section
variable {w w':World} {M:Mo} {W:Wa}
set_option maxHeartbeats 4000000 in
theorem look_ok (hM:ah w M) (hW:b8 w W) (hx:W.at_<=18446744073709551615) {k:Nat} (ha:bj M.ss W.at_ k) (hN:ff M.ss) (hr:W.read<=4611686018427387904):
 Calls Tryz.prog 223 #[ptr W.f,ptr M.m] w fun e w'=>e=.returned (.bool (nV W (aj M.ss k).nd))/\b8 w' (looks W (aj M.ss k).nd)/\ab (·=W.f) w w':=by
 obtain ⟨n,hn⟩:∃ n,n=(aj M.ss k).nd:=⟨_,rfl⟩
 have hR:=Lib.hid (fun (w1:World) (av:Below w.heap.size w w1)=>(yO (hM.below av).2.2.2.1 hx ha).mono fun e w2 h=>
  show e=.returned (.tuple #[.agg #[.string n.key,.string n.val,.int .u32 n.sum,.int .u64 n.next],.int .i64 0])/\(ah w2 M/\b8 w2 W/\Below w.heap.size w w2/\Below w1.heap.size w1 w2) from
   ⟨by rw [hn]; exact h.1,(hM.below av).below h.2,(hW.below av).below h.2,av.trans (h.2.mono av.size),h.2⟩)
 have c4:=hW.hd.2.2.2.2.1
 have d2:=hM.hd.2.2.1
 have lW:=hW.lt
 have lM:=hM.1.lt
 have HW:=Lib.hid hW
 have nm:=World.new_ne w ⟨M.m,2,none⟩ d2
 have nw:=World.new_ne w ⟨W.f,4,none⟩ c4
 rw [<-hn]
 have fC:=(hN.at k).1
 rw [<-hn] at fC
 have ma:=(hN.at k).2
 generalize nx M.ss k=z at*
 have hz:n.next.toNat=z:=by rw [fC]; rfl
 replace fC:=Lib.hid fC
 replace hz:=Lib.hid hz
 clear hM hW hx hn ha hN
 go_enter Tryz.func223,Tryz.ntmps223
 go_upto_region 1 with (fail)
 go_cut [5,6] (fun p e wx=>Ad w wx M W n 0 (fun _=>False) p e)
 case first=>
  go_region_held3 (fun w'=>w'.cell? ⟨M.m,2,none⟩=some (ptr M.ar)/\w'.cell? ⟨W.f,4,none⟩=some (.int .u64 W.at_)) (go_keep)
   (first
     | (go_at_call 156
        refine (hR.out w.drew ⟨rfl,rfl,rfl,Nat.le_refl _,fun _ _=>rfl⟩).mono ?_
        rintro e w2 ⟨rfl,aI,fk,ae,_⟩
        have d2':=aI.hd.2.2.1
        have c4':=fk.hd.2.2.2.2.1
        have fU:=ae.size
        replace aI:=Lib.hid aI
        replace fk:=Lib.hid fk
        replace ae:=Lib.hid (ab.aA ae (fun _=>False)))
     | (go_at_call 156
        refine (hR.out (w.alloc (.cells #[.string ⟨#[]⟩,.string ⟨#[]⟩,.int .u32 0,.int .u64 0] 67)).drew (((Below.refl w.heap.size w).alloc (Nat.le_refl _) _).trans ⟨rfl,rfl,rfl,by simp,fun _ _=>rfl⟩)).mono ?_
        rintro e w2 ⟨rfl,aI,fk,ae,an⟩
        have ag:af w2 w.heap.size 67 #[.string ⟨#[]⟩,.string ⟨#[]⟩,.int .u32 0,.int .u64 0]:=af.only (w:=(w.alloc (.cells #[.string ⟨#[]⟩,.string ⟨#[]⟩,.int .u32 0,.int .u64 0] 67)).drew) (af.made w _ _) (ab.aA an (fun _=>False)) (by simp)
        have d2':=aI.hd.2.2.1
        have c4':=fk.hd.2.2.2.2.1
        have fU:=ae.size
        have k0:=ag.cell 0
        have k1:=ag.cell 1
        have k2:=ag.cell 2
        have k3:=ag.cell 3
        simp at k0 k1 k2 k3
        have y0:=ag.frozen 0
        have y1:=ag.frozen 1
        have y2:=ag.frozen 2
        have y3:=ag.frozen 3
        replace aI:=Lib.hid aI
        replace fk:=Lib.hid fk
        replace ae:=Lib.hid (ab.aA ae (fun _=>False))
        replace ag:=Lib.hid ag))
  all_goals
   go_wp2_with fail
   go_meet
   first
    | exact J6 (nd:=n) aI.out fk.out ae.out
    | exact J7 (nd:=n) aI.out fk.out ae.out (Nat.le_refl _) ag.out rfl rfl
 case rest=>
  obtain ⟨b,rfl,rfl,bW,hB,aw,jz,ax⟩:=hcut
  clear d2 hR c4
  have dw:b8 (wc.setCell ⟨W.f,7,none⟩ (.int .i64 (W.read+1:Nat))) {W with read:=W.read+1}:=af.store jz 7 (.int .i64 (W.read+1:Nat))
  have aL:b≠W.f:=by have:=lW; omega
  have ay:af (wc.setCell ⟨W.f,7,none⟩ (.int .i64 (W.read+1:Nat))) b 67 #[.string n.key,.string n.val,.int .u32 n.sum,.int .u64 n.next]:=af.aB hB (fun e=>aL e) _
  have an:ab (·=W.f) w (wc.setCell ⟨W.f,7,none⟩ (.int .i64 (W.read+1:Nat))):=(show ab (·=W.f) w wc from ax.mono (fun _ _ q=>q.elim)).setCell (p:=⟨W.f,7,none⟩) (.inl rfl) _
  have c7:=jz.hd.2.2.2.2.2.2.2.1
  have z7:=jz.dc 7
  rw [Int.natCast_add,Int.natCast_one] at dw ay an
  replace hB:=Lib.hid hB
  replace aw:=Lib.hid aw
  replace jz:=Lib.hid jz
  replace ax:=Lib.hid ax
  replace dw:=Lib.hid dw
  replace ay:=Lib.hid ay
  replace an:=Lib.hid an
  generalize jt:W.read=r at*
  replace jt:=Lib.hid jt
  go_upto_region 5 with (fail)
  obtain ⟨w3,cX⟩:∃ w3,w3=wc.setCell ⟨W.f,7,none⟩ (.int .i64 ((r:Int)+1)):=⟨_,rfl⟩
  rw [<-cX] at dw ay an ⊢
  clear c7 z7 hB jz ax aw cX
  obtain ⟨_,c1,c2,_,c4,_,c6,_,c8,c9,c10,c11,c12⟩:=dw.out.hd
  simp only at c1 c2 c4 c6 c8 c9 c10 c11 c12
  have z6:=dw.out.dc 6
  have z8:=dw.out.dc 8
  have z9:=dw.out.dc 9
  have z10:=dw.out.dc 10
  have z11:=dw.out.dc 11
  have z12:=dw.out.dc 12
  simp only at z6 z8 z9 z10 z11 z12
  have k0:=ay.out.cell 0
  have k1:=ay.out.cell 1
  have k2:=ay.out.cell 2
  have k3:=ay.out.cell 3
  simp at k0 k1 k2 k3
  have HK:∀ w4,ab (·=W.f) w3 w4->ab (·=W.f) w w4:=fun w4 h=>an.out.trans h
  have HD:∀ nq,ab (·=W.f) w3 (w3.drewN nq):=fun nq=>(ab.refl _ _).drewN nq
  replace HK:=Lib.hid HK
  replace HD:=Lib.hid HD
  by_cases hs:n.sum=W.sum
  ·by_cases hk:n.key=W.key
   ·have e1:nV W n=true:=by simp [nV,mG,hs,hk]
    have e2:looks W n={W with read:=r+1,found:=W.at_,nd:=n,nx:=3}:=by simp [looks,mG,hs,hk,jt.out]
    replace e1:=Lib.hid e1
    replace e2:=Lib.hid e2
    have hE:∀ w6,b8 w6 {W with read:=r+1,found:=W.at_,nd:=n}->ab (·=W.f) w3 w6->Calls Tryz.prog 222 #[ptr W.f] w6 fun e w'=>e=.returned (.bool true)/\b8 w' {W with read:=r+1,found:=W.at_,nd:=n,nx:=3}/\ab (·=W.f) w w':=fun w6 h1 h2=>(nY h1).mono fun e w' q=>⟨q.1,q.2.1,an.out.trans (h2.trans q.2.2)⟩
    replace hE:=Lib.hid hE
    have gC:{n with key:=W.key,sum:=W.sum}=n:=by rw [<-hs,<-hk]
    replace gC:=Lib.hid gC
    rw [hs] at k2
    rw [hk] at k0
    rw [hs,hk] at ay
    clear hs hk
    go_quiet (fail)
    go_upto_region 6 with (fail)
    go_region
    all_goals
     have iR:b8 ((((((w3.drewN (nq+1)).setCell ⟨W.f,8,none⟩ (.int .u64 W.at_)).setCell ⟨W.f,9,none⟩ (.string W.key)).setCell ⟨W.f,10,none⟩ (.string n.val)).setCell ⟨W.f,11,none⟩ (.int .u32 W.sum)).setCell ⟨W.f,12,none⟩ (.int .u64 n.next)) {W with read:=r+1,found:=W.at_,nd:=n}:=by
      have h:=((((af.store (b8.drewN dw.out (nq+1)) 8 (.int .u64 W.at_)).store 9 (.string W.key)).store 10 (.string n.val)).store 11 (.int .u32 W.sum)).store 12 (.int .u64 n.next)
      have e:({W with read:=r+1,found:=W.at_,nd:=n}:Wa)={W with read:=r+1,found:=W.at_,nd:={n with key:=W.key,sum:=W.sum}}:=by rw [gC.out]
      rw [e]
      exact h
     have eB:=((((((HD.out (nq+1)).setCell (p:=⟨W.f,8,none⟩) (.inl rfl) (.int .u64 W.at_)).setCell (p:=⟨W.f,9,none⟩) (.inl rfl) (.string W.key)).setCell (p:=⟨W.f,10,none⟩) (.inl rfl) (.string n.val)).setCell (p:=⟨W.f,11,none⟩) (.inl rfl) (.int .u32 W.sum)).setCell (p:=⟨W.f,12,none⟩) (.inl rfl) (.int .u64 n.next))
     have sX:=Lib.hid (hE.out _ iR eB)
     clear iR eB c1 c2 c4 c6 c8 c9 c10 c11 c12 z6 z8 z9 z10 z11 z12 k0 k1 k2 k3
     go_wp2_with fail
     refine sX.out.mono ?_
     rintro e w7 ⟨rfl,qz,Fs⟩
     replace qz:=Lib.hid qz
     replace Fs:=Lib.hid Fs
     clear sX
     go_wp2_with fail
     go_ret
     rw [e1.out,e2.out]
     exact ⟨rfl,qz.out,Fs.out⟩
   ·have e1:nV W n=decide (z=0):=by simp [nV,mG,hk,hz.out]
    have e2:looks W n=dB {W with read:=r+1,prev:=W.at_} z:=by simp [looks,mG,hk,jt.out,hz.out]
    replace e1:=Lib.hid e1
    replace e2:=Lib.hid e2
    have au:(n.key.toList==W.key.toList)=false:=wi hk
    rw [hs] at k2
    rw [fC.out] at k3
    clear hs hk
    go_quiet (fail)
    have mq:b8 ((w3.drewN nq).setCell ⟨W.f,6,none⟩ (.int .u64 W.at_)) {W with read:=r+1,prev:=W.at_}:=af.store (b8.drewN dw.out nq) 6 (.int .u64 W.at_)
    have bN:=Lib.hid ((an.out.drewN nq).setCell (p:=⟨W.f,6,none⟩) (.inl rfl) (.int .u64 W.at_))
    have hG:=Lib.hid (et mq z)
    clear mq
    go_wp2_with fail
    refine hG.out.mono ?_
    rintro e w6 ⟨rfl,iR,eB⟩
    replace eB:=Lib.hid (bN.out.trans eB)
    replace iR:=Lib.hid iR
    clear hG c1 c2 c4 c6 c8 c9 c10 c11 c12 z6 z8 z9 z10 z11 z12 k0 k1 k2 k3 bN
    go_wp2_with fail
    go_ret
    rw [e1.out,e2.out]
    exact ⟨rfl,iR.out,eB.out⟩
  ·have e1:nV W n=decide (z=0):=by simp [nV,mG,hs,hz.out]
   have e2:looks W n=dB {W with read:=r+1,prev:=W.at_} z:=by simp [looks,mG,hs,jt.out,hz.out]
   replace e1:=Lib.hid e1
   replace e2:=Lib.hid e2
   have au:(n.sum==W.sum)=false:=by simpa using hs
   rw [fC.out] at k3
   clear hs
   go_quiet (fail)
   have mq:b8 ((w3.drewN nq).setCell ⟨W.f,6,none⟩ (.int .u64 W.at_)) {W with read:=r+1,prev:=W.at_}:=af.store (b8.drewN dw.out nq) 6 (.int .u64 W.at_)
   have bN:=Lib.hid ((an.out.drewN nq).setCell (p:=⟨W.f,6,none⟩) (.inl rfl) (.int .u64 W.at_))
   have hG:=Lib.hid (et mq z)
   clear mq
   go_wp2_with fail
   refine hG.out.mono ?_
   rintro e w6 ⟨rfl,iR,eB⟩
   replace eB:=Lib.hid (bN.out.trans eB)
   replace iR:=Lib.hid iR
   clear hG c1 c2 c4 c6 c8 c9 c10 c11 c12 z6 z8 z9 z10 z11 z12 k0 k1 k2 k3 bN
   go_wp2_with fail
   go_ret
   rw [e1.out,e2.out]
   exact ⟨rfl,iR.out,eB.out⟩
end
end Go.Proofs.YtpanebgakndddaaGreat.Wk
