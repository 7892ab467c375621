/- Walks over layer 5 (mem): the map of handles that were met; follow, Chain, Reach. -/
import Derived.Test.YtkogifmjbmnpgaaGreatMemWalk
import Derived.ArgAppend
import Derived.Lib.AppendZeros
import Derived.Maps.Own
import Derived.Maps.OwnOps
import Derived.Maps.Views
set_option linter.unusedVariables false
set_option linter.unusedSimpArgs false
namespace Go.Proofs.YtkogifmjbmnpgaaGreat.Me
open Go Go.RowKit Hp K Fl Rw Hm Ar Mm
set_option maxRecDepth 100000
/-! ### the map-/
abbrev DH:=DataW Unit
abbrev MKey (x:Nat):Lit:=.int .u64 x
abbrev MVal (v:Bool):DH:=.lit (.bool v)
def Met (w:World) (B:Nat) (ms:List Nat):Prop:=∃ (n:Nat) (D:DH),w.ownsMap Tryz.prog 87 (plainElem Tryz.prog 4) B n D∧n≤ms.length∧∀ x,x≤18446744073709551615→D.atKey (MKey x) (MVal false)=MVal (decide (x∈ms))
theorem keyed:Maps.Keyed Tryz.prog 87:=Maps.int_keyed Tryz.underlying87
theorem zeroB (w:World):(zeroValue 4).run Tryz.prog w=.ok (.bool false) w:=by kernel_rfl
theorem lit_u64 {x:Nat} (hx:x≤18446744073709551615):(Lit.int .u64 (x:Int)).wf=true:=by
 simp [Lit.wf,IntKind.min,IntKind.max,IntKind.signed,IntKind.bits]; omega
theorem mkey {x:Nat} (hx:x≤18446744073709551615):keyOf Tryz.prog 87 (.int .u64 x)=some (MKey x):=Maps.keyOf_int_mk Tryz.underlying87 (lit_u64 hx)
theorem key_lit {x:Nat} (hx:x≤18446744073709551615):WideAt.IsKeyLit (MKey x):=keyed.key (mkey hx)
theorem Met.made (w:World):Met (w.alloc (.map #[] 0)) w.heap.size []:=
 ⟨0,.map [],World.ownsMap_made _ _ _ _,Nat.le_refl _,fun x _=>by simp [DataW.atKey]⟩
theorem Met.lt {w:World} {B:Nat} {ms:List Nat} (h:Met w B ms):B<w.heap.size:=by obtain ⟨n,D,hm,r⟩:=h; exact hm.lt
theorem Met.only {S:Nat→Prop} {w w':World} {B:Nat} {ms:List Nat} (h:Met w B ms) (ho:Only S w w') (hn:¬S B):Met w' B ms:=by
 obtain ⟨n,D,hm,r⟩:=h
 have hlt:=hm.lt
 obtain ⟨es,clock,hb,F,hs,hD⟩:=hm
 exact ⟨n,D,⟨es,clock,(ho.block B hlt hn).trans hb,F,hs,hD⟩,r⟩
theorem Met.no {w:World} {B:Nat} {ms:List Nat} (h:Met w B ms) {ts:List TypeId} (ht:Ty w B ts):False:=by
 obtain ⟨n,D,hm,r⟩:=h
 obtain ⟨es,clock,hb,_⟩:=hm
 obtain ⟨t,cs,hb',_⟩:=ht
 have e:=hb.symm.trans hb'
 injection e with e
 injection e
theorem Met.look {w:World} {B:Nat} {ms:List Nat} (h:Met w B ms) {x:Nat} (hx:x≤18446744073709551615):(Instr.lookup 121 (.map (some B)) (.int .u64 x) false).run Tryz.prog w=.ok (.bool (decide (x∈ms))) w:=by
 obtain ⟨n,D,hm,_,hat⟩:=h
 obtain ⟨v,ps,hrun,hv⟩:=hm.lookup keyed Tryz.underlying121 (zeroB w) (plainElem_bool Tryz.underlying4 false) (mkey hx)
 rw [hrun]
 rw [hat x hx] at hv
 unfold plainElem at hv
 rw [Tryz.underlying4] at hv
 cases v<;>simp at hv
 rw [hv.1]
theorem met_put {w:World} {B n:Nat} {D:DH} {ms:List Nat} {x:Nat} (hx:x≤18446744073709551615) {w0:World} {n0:Nat} (hm0:w0.ownsMap Tryz.prog 87 (plainElem Tryz.prog 4) B n0 D) (hm:w.ownsMap Tryz.prog 87 (plainElem Tryz.prog 4) B (n+1) (D.put (MKey x) (MVal true))) (hn:n≤ms.length) (hat:∀ x,x≤18446744073709551615→D.atKey (MKey x) (MVal false)=MVal (decide (x∈ms))):Met w B (x::ms):=by
 have hD:Maps.IsMap D:=by obtain ⟨es,clock,_,_,_,hD⟩:=hm0; exact ⟨_,hD⟩
 refine ⟨n+1,_,hm,by simp; omega,fun y hy=>?_⟩
 by_cases e:y=x
 · subst e
   rw [Maps.atKey_put_same hD (key_lit hx)]
   simp
 · have hne:MKey y≠MKey x:=fun h=>by
    injection h with _ h
    exact e (by omega)
   rw [Maps.atKey_put_other hne,hat y hy]
   simp [e]
theorem wpList_met {w:World} {ops:Array Oper} {rest:List Oper} {o:Oper} {a:Act} {Q:Exit→Act→World→Prop} (hgd:o.guard=none) (m x v:Operand)
 (hop:o.op=Op.mapUpdate 121 m x v) (B:Nat) (ms:List Nat) (h:Met w B ms) (hl:ms.length≤1000000) (y:Nat) (hy:y≤18446744073709551615)
 (hm:a.eval m=.map (some B)) (hx:a.eval x=.int .u64 y) (hv:a.eval v=.bool true)
 (hK:∀ w',Met w' B (y::ms)→Only (·=B) w w'→wpList Tryz.prog ops Q rest (a.put o.dst undef) w'):wpList Tryz.prog ops Q (o::rest) a w:=by
 obtain ⟨n,D,hM,hn,hat⟩:=h
 refine wpList_mapUpdate_own w hgd m x v 121 hop 87 4 keyed Tryz.underlying121 _ B n D hm hM (by unfold maxLen; omega) _ _ _ hx hv (mkey hy) (MVal true) [] (plainElem_bool Tryz.underlying4 true) ?_
 intro w' hM' hg
 exact hK w' (met_put hy hM hM' hn hat) ((Only.refl (·=B) w).grown hg (fun z hz=>.inl (by injection hz with hz; exact hz.symm)))
/-! ### follow-/
def FInv (w wr:World) (M:Mo) (B:Nat) (A0:Option Addr) (all ms t:List Nat) (v hv:Value):Prop:=
 ∃ (A:Option Addr) (cap:Nat) (out:List Nat) (x:Nat) (rest:List Nat),v=.slice A (all.length+out.length) cap∧hv=.int .u64 x∧Hnds wr A cap (all++out)∧Met wr B (out.reverse++ms)∧
   t=out++rest∧Ch M.ss (out.reverse++ms) x rest∧Only (fun x=>x=B∨In A0 x) w wr∧(∀ x,In A x→In A0 x∨w.heap.size≤x)∧x≤18446744073709551615
def Followed (w:World) (B:Nat) (A0:Option Addr) (all ms t:List Nat) (e:Ending) (w':World):Prop:=
 ∃ A cap,e=.returned (.slice A (all.length+t.length) cap)∧Hnds w' A cap (all++t)∧Met w' B (t.reverse++ms)∧Only (fun x=>x=B∨In A0 x) w w'∧∀ x,In A x→In A0 x∨w.heap.size≤x
set_option maxHeartbeats 4000000 in
theorem follow_any {w:World} {M:Mo} (h:MemAt w M) (hN:Nexts M.ss) (hl:M.ss.length≤1024) (c:Nat) (hc:c<M.xs.length) (A0:Option Addr) (cap0:Nat) (all:List Nat) (hA:Hnds w A0 cap0 all) (hall:all.length≤100000)
 (B:Nat) (ms:List Nat) (hM:Met w B ms) (hms:ms.length≤100000) (hap:∀ x,In A0 x→¬mfoot M x) (t:List Nat) (ht:Ch M.ss ms (Cl.nth M.xs c).toNat t):
 Calls Tryz.prog 56 #[ptr M.m,.slice A0 all.length cap0,.int .i64 c,.map (some B)] w (Followed w B A0 all ms t):=by
 have hbd:=Cl.getD_bd h.2.1.2.2.1 c
 have hL:=Cl.load_in h.2.1 c hc
 obtain ⟨x0,hx0⟩:=Int.eq_ofNat_of_zero_le hbd.1
 rw [hx0] at hL hbd ht
 rw [Int.toNat_natCast] at ht
 replace hL:=Lib.hid hL
 have hc0:=h.hd.1
 have htl:=ch_le hl ht
 have H:=Lib.hid h
 have H0:=Lib.hid (show FInv w w M B A0 all ms t (.slice A0 all.length cap0) (.int .u64 x0) from ⟨A0,cap0,[],x0,t,rfl,rfl,by simpa using hA,by simpa using hM,rfl,by simpa using ht,Only.refl _ _,fun x hx=>.inl hx,by omega⟩)
 replace hap:=Lib.hid hap
 replace hN:=Lib.hid hN
 have hBm:=Lib.hid (fun x (hx:mfoot M x) (e:x=B)=>hM.no (by rw [← e]; exact h.ty hx))
 have hBA:=Lib.hid (fun (hx:In A0 B)=>hM.no (row_ty hA hx))
 clear h hA hM ht hx0 hbd hc
 obtain ⟨i0,hi0,hz0,hz1,hz2⟩:=info_parts info_handle
 generalize hal:all.length=al at*
 replace hal:=Lib.hid hal
 go_enter Tryz.func56,Tryz.ntmps56
 go_wp2_with (go_at_call 42; refine hL.out.mono ?_; rintro e w' ⟨rfl,hw⟩; obtain rfl:w=w':=hw.symm)
 clear hL hc0
 go_loopw [1,11] (fun v hv wr=>FInv w wr M B A0 all ms t v hv) (fun v _ _=>(match v with | .slice _ n _=>al+t.length-n | _=>0))
 case atStart=>exact H0.out
 case round=>
  obtain ⟨A,cap,out,x,rest,rfl,rfl,hA,hM,hte,hch,hO,hA',hx⟩:=hrel
  clear H0
  have hMe:=H.out.only hO (fun y hy q=>by
   rcases q with q | q
   · exact hBm.out y hy q
   · exact hap.out y q hy)
  have m2:=hMe.hd.2.2.1
  have hlk:=hM.look hx
  have hol:out.length≤1024:=by have:t.length=out.length+rest.length:=by rw [hte,List.length_append]
                               omega
  replace hA:=Lib.hid hA
  replace hM:=Lib.hid hM
  replace hO:=Lib.hid hO
  replace hA':=Lib.hid hA'
  replace hMe:=Lib.hid hMe
  rw [hal.out]
  cases hch with
  | stop hs=>
    rcases bad_or M.ss x with ⟨k,hk⟩ | ⟨cd,hcd⟩
    · have hLv:=Lib.hid (live_ok hMe.out.2.2.2.1 hx hk)
      have hin:decide (x∈out.reverse++ms)=true:=by
       rcases hs with q | q
       · exact absurd hk (q k)
       · simpa using q
      rw [hin] at hlk
      replace hte:=Lib.hid hte
      clear hs hin hk
      go_wp2_with (go_at_call 44; refine hLv.out.mono ?_; rintro e w' ⟨rfl,rfl⟩)
      go_ret
      have e1:=hte.out
      rw [List.append_nil] at e1
      subst e1
      exact ⟨A,cap,by rw [hal.out]; rfl,hA.out,hM.out,hO.out,hA'.out⟩
    · have hLv:=Lib.hid (live_bad hMe.out.2.2.2.1 hx hcd)
      replace hte:=Lib.hid hte
      clear hs hcd hlk
      go_wp2_with (go_at_call 44; refine hLv.out.mono ?_; rintro e w' ⟨rfl,rfl⟩)
      go_ret
      have e1:=hte.out
      rw [List.append_nil] at e1
      subst e1
      exact ⟨A,cap,by rw [hal.out]; rfl,hA.out,hM.out,hO.out,hA'.out⟩
  | @go _ _ k t' hk hnm hr=>
    have hLv:=Lib.hid (live_ok hMe.out.2.2.2.1 hx hk)
    have hin:decide (x∈out.reverse++ms)=false:=by simpa using hnm
    rw [hin] at hlk
    replace hte:=Lib.hid hte
    replace hr:=Lib.hid hr
    replace hk:=Lib.hid hk
    clear hin hnm
    go_wp2_with (first
     | (go_at_call 44; refine hLv.out.mono ?_; rintro e w' ⟨rfl,rfl⟩)
     | (at_mapUpdate
        refine wpList_met rfl _ _ _ rfl B (out.reverse++ms) hM.out (by simp; omega) x hx rfl rfl rfl ?_
        intro w1 hM1 hO1
        have hMe1:=Lib.hid (hMe.out.only hO1 (fun y hy q=>hBm.out y hy q))
        have hA1:=Lib.hid (hA.out.only hO1 (fun y hy q=>by
         subst q
         exact hM.out.no (row_ty hA.out hy)))
        replace hM1:=Lib.hid hM1
        replace hO1:=Lib.hid hO1
        clear m2 hlk)
     | (at_builtin
        refine wpList_append_one w1 rfl (.tmp 38) (.tmp 40) 31 rfl 87 i0 (.int .u64 0) 1 8 Tryz.underlying31 hi0 hz0 hz1 hz2 rfl (by omega) hnd (fun _=>rfl) (by intro x u hu; simp [hnd] at hu; subst hu; rfl)
         A cap (al+out.length) (all++out) (by rw [List.length_append,hal.out]) x #[.int .u64 x] rfl rfl hA1.out rfl (by simp only [maxLen]; omega) (by omega) ?_
        intro A2 cap2 w2 hR2 hO2 hA2
        have hlo:∀ y,In A y→mfoot M y→False:=fun y hy hm=>by
         have h1:=H.out.lt hm
         rcases hA'.out y hy with q | q
         · exact hap.out y q hm
         · omega
        have hMe2:=hMe1.out.only hO2 (fun y hm hy=>hlo y hy hm)
        have hM2:=Lib.hid (hM1.out.only hO2 (fun hy=>hM1.out.no (row_ty hA1.out hy)))
        have m2:=hMe2.hd.2.2.1
        have hRd:=read_ok hMe2.2.2.2.1 hx hk.out
        obtain ⟨e1,e2⟩:=hN.out.at k
        have hOn:=Lib.hid ((hO.out.trans' hO1.out (fun y _ q=>.inl q)).trans' (S:=fun x=>x=B∨In A0 x) hO2 (fun y hy q=>by
         rcases hA'.out y q with q | q
         · exact .inr q
         · omega))
        generalize (at' M.ss k).nd=dd at*
        obtain ⟨ky,vl,sm,nxt⟩:=dd
        simp only at e1
        subst e1
        generalize nx M.ss k=nk at*
        unfold ndv at hRd
        replace hRd:=Lib.hid hRd
        replace hMe2:=Lib.hid hMe2
        replace hR2:=Lib.hid hR2
        replace hA2:=Lib.hid (fun y (hy:In A2 y)=>show In A0 y∨w.heap.size≤y from by
         rcases hA2 y hy with q | q
         · exact hA'.out y q
         · exact .inr (Nat.le_trans (hO.out.trans' hO1.out (fun y _ q=>.inl q)).size q))
        clear hlo hO2)
     | (go_at_call 45
        refine hRd.out.mono ?_
        rintro e w3 ⟨rfl,hB3⟩
        replace hB3:=Lib.hid hB3
        clear m2))
    go_roundw
    case rel=>
     have hOf:=(Only.refl (fun _=>False) w2).below hB3.out
     refine ⟨A2,cap2,out++[x],nk,t',by rw [hal.out,List.length_append]; rfl,rfl,?_,?_,by rw [List.append_assoc]; exact hte.out,by simpa using hr.out,?_,hA2.out,e2⟩
     · rw [← List.append_assoc]
       exact hR2.out.only (hOf.alloc _) (by simp)
     · have:(out++[x]).reverse++ms=x::(out.reverse++ms):=by simp
       rw [this]
       exact hM2.out.only (hOf.alloc _) (by simp)
     · exact (hOn.out.below hB3.out).alloc _
    case measure=>
     have:=hte.out
     have h1:t.length=out.length+(t'.length+1):=by rw [this]; simp
     simp
     omega
end Go.Proofs.YtkogifmjbmnpgaaGreat.Me
