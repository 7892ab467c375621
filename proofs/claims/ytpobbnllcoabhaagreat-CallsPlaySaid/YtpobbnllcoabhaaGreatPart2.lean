/- Walks and plain mathematics, put together in their order: MemChain, MemReach, MapA, SeekH, PutE, PutG, PutH, QsbrE, RetA, RetB. -/
import Derived.Test.YtpobbnllcoabhaaGreatPart1
import Derived.Test.YtpobbnllcoabhaaGreatMemWalk
import Derived.ArgAppend
import Derived.Lib.AppendZeros
import Derived.Maps.Own
import Derived.Maps.OwnOps
import Derived.Maps.Views
import Derived.Test.YtpobbnllcoabhaaGreatPairs
import Derived.Test.YtpobbnllcoabhaaGreatGetD
import Derived.Test.YtpobbnllcoabhaaGreatQsbrD
import Derived.Test.YtpobbnllcoabhaaGreatFinish
import Derived.Laws.CopyOwn
set_option linter.unusedVariables false
set_option linter.unusedSimpArgs false
namespace Go.Proofs.YtpobbnllcoabhaaGreat.Me
open Go Go.RowKit Hp K Fl Rw Hm Ar Mm
set_option maxRecDepth 100000
/-! ### the map-/
abbrev DH:=DataW Unit
abbrev MKey (x:Nat):Lit:=.int .u64 x
abbrev MVal (v:Bool):DH:=.lit (.bool v)
def Met (w:World) (B:Nat) (ms:List Nat):Prop:=∃ (n:Nat) (D:DH),w.ownsMap Tryz.prog 73 (plainElem Tryz.prog 4) B n D∧n≤ms.length∧∀ x,x≤18446744073709551615→D.atKey (MKey x) (MVal false)=MVal (decide (x∈ms))
theorem keyed:Maps.Keyed Tryz.prog 73:=Maps.int_keyed Tryz.underlying73
theorem zeroB (w:World):(zeroValue 4).run Tryz.prog w=.ok (.bool false) w:=by kernel_rfl
theorem lit_u64 {x:Nat} (hx:x≤18446744073709551615):(Lit.int .u64 (x:Int)).wf=true:=by
 simp [Lit.wf,IntKind.min,IntKind.max,IntKind.signed,IntKind.bits]; omega
theorem mkey {x:Nat} (hx:x≤18446744073709551615):keyOf Tryz.prog 73 (.int .u64 x)=some (MKey x):=Maps.keyOf_int_mk Tryz.underlying73 (lit_u64 hx)
theorem key_lit {x:Nat} (hx:x≤18446744073709551615):WideAt.IsKeyLit (MKey x):=keyed.key (mkey hx)
theorem Met.made (w:World):Met (w.alloc (.map #[] 0)) w.heap.size []:=
 ⟨0,.map [],World.ownsMap_made _ _ _ _,Nat.le_refl _,fun x _=>by simp [DataW.atKey]⟩
theorem Met.lt {w:World} {B:Nat} {ms:List Nat} (h:Met w B ms):B<w.heap.size:=by obtain ⟨n,D,hm,r⟩:=h; exact hm.lt
theorem Met.only {S:Nat→Prop} {w w':World} {B:Nat} {ms:List Nat} (h:Met w B ms) (ho:Only S w w') (hn:¬S B):Met w' B ms:=by
 obtain ⟨n,D,hm,r⟩:=h
 have hlt:=hm.lt
 obtain ⟨es,clock,hb,F,hs,hD⟩:=hm
 exact ⟨n,D,⟨es,clock,(ho.block B hlt hn).trans hb,F,hs,hD⟩,r⟩
theorem Met.no {w:World} {B:Nat} {ms:List Nat} (h:Met w B ms) {ts:List TypeId} (ht:Ty w B ts):False:=by
 obtain ⟨n,D,hm,r⟩:=h
 obtain ⟨es,clock,hb,_⟩:=hm
 obtain ⟨t,cs,hb',_⟩:=ht
 have e:=hb.symm.trans hb'
 injection e with e
 injection e
theorem Met.look {w:World} {B:Nat} {ms:List Nat} (h:Met w B ms) {x:Nat} (hx:x≤18446744073709551615):(Instr.lookup 126 (.map (some B)) (.int .u64 x) false).run Tryz.prog w=.ok (.bool (decide (x∈ms))) w:=by
 obtain ⟨n,D,hm,_,hat⟩:=h
 obtain ⟨v,ps,hrun,hv⟩:=hm.lookup keyed Tryz.underlying126 (zeroB w) (plainElem_bool Tryz.underlying4 false) (mkey hx)
 rw [hrun]
 rw [hat x hx] at hv
 unfold plainElem at hv
 rw [Tryz.underlying4] at hv
 cases v<;>simp at hv
 rw [hv.1]
theorem met_put {w:World} {B n:Nat} {D:DH} {ms:List Nat} {x:Nat} (hx:x≤18446744073709551615) {w0:World} {n0:Nat} (hm0:w0.ownsMap Tryz.prog 73 (plainElem Tryz.prog 4) B n0 D) (hm:w.ownsMap Tryz.prog 73 (plainElem Tryz.prog 4) B (n+1) (D.put (MKey x) (MVal true))) (hn:n≤ms.length) (hat:∀ x,x≤18446744073709551615→D.atKey (MKey x) (MVal false)=MVal (decide (x∈ms))):Met w B (x::ms):=by
 have hD:Maps.IsMap D:=by obtain ⟨es,clock,_,_,_,hD⟩:=hm0; exact ⟨_,hD⟩
 refine ⟨n+1,_,hm,by simp; omega,fun y hy=>?_⟩
 by_cases e:y=x
 · subst e
   rw [Maps.atKey_put_same hD (key_lit hx)]
   simp
 · have hne:MKey y≠MKey x:=fun h=>by
    injection h with _ h
    exact e (by omega)
   rw [Maps.atKey_put_other hne,hat y hy]
   simp [e]
theorem wpList_met {w:World} {ops:Array Oper} {rest:List Oper} {o:Oper} {a:Act} {Q:Exit→Act→World→Prop} (hgd:o.guard=none) (m x v:Operand)
 (hop:o.op=Op.mapUpdate 126 m x v) (B:Nat) (ms:List Nat) (h:Met w B ms) (hl:ms.length≤1000000) (y:Nat) (hy:y≤18446744073709551615)
 (hm:a.eval m=.map (some B)) (hx:a.eval x=.int .u64 y) (hv:a.eval v=.bool true)
 (hK:∀ w',Met w' B (y::ms)→Only (·=B) w w'→wpList Tryz.prog ops Q rest (a.put o.dst undef) w'):wpList Tryz.prog ops Q (o::rest) a w:=by
 obtain ⟨n,D,hM,hn,hat⟩:=h
 refine wpList_mapUpdate_own w hgd m x v 126 hop 73 4 keyed Tryz.underlying126 _ B n D hm hM (by unfold maxLen; omega) _ _ _ hx hv (mkey hy) (MVal true) [] (plainElem_bool Tryz.underlying4 true) ?_
 intro w' hM' hg
 exact hK w' (met_put hy hM hM' hn hat) ((Only.refl (·=B) w).grown hg (fun z hz=>.inl (by injection hz with hz; exact hz.symm)))
/-! ### follow-/
def FInv (w wr:World) (M:Mo) (B:Nat) (A0:Option Addr) (all ms t:List Nat) (v hv:Value):Prop:=
 ∃ (A:Option Addr) (cap:Nat) (out:List Nat) (x:Nat) (rest:List Nat),v=.slice A (all.length+out.length) cap∧hv=.int .u64 x∧Hnds wr A cap (all++out)∧Met wr B (out.reverse++ms)∧
   t=out++rest∧Ch M.ss (out.reverse++ms) x rest∧Only (fun x=>x=B∨In A0 x) w wr∧(∀ x,In A x→In A0 x∨w.heap.size≤x)∧x≤18446744073709551615
def Followed (w:World) (B:Nat) (A0:Option Addr) (all ms t:List Nat) (e:Ending) (w':World):Prop:=
 ∃ A cap,e=.returned (.slice A (all.length+t.length) cap)∧Hnds w' A cap (all++t)∧Met w' B (t.reverse++ms)∧Only (fun x=>x=B∨In A0 x) w w'∧∀ x,In A x→In A0 x∨w.heap.size≤x
set_option maxHeartbeats 4000000 in
theorem follow_any {w:World} {M:Mo} (h:MemAt w M) (hN:Nexts M.ss) (hl:M.ss.length≤1024) (c:Nat) (hc:c<M.xs.length) (A0:Option Addr) (cap0:Nat) (all:List Nat) (hA:Hnds w A0 cap0 all) (hall:all.length≤100000)
 (B:Nat) (ms:List Nat) (hM:Met w B ms) (hms:ms.length≤100000) (hap:∀ x,In A0 x→¬mfoot M x) (t:List Nat) (ht:Ch M.ss ms (Cl.nth M.xs c).toNat t):
 Calls Tryz.prog 55 #[ptr M.m,.slice A0 all.length cap0,.int .i64 c,.map (some B)] w (Followed w B A0 all ms t):=by
 have hbd:=Cl.getD_bd h.2.1.2.2.1 c
 have hL:=Cl.load_in h.2.1 c hc
 obtain ⟨x0,hx0⟩:=Int.eq_ofNat_of_zero_le hbd.1
 rw [hx0] at hL hbd ht
 rw [Int.toNat_natCast] at ht
 replace hL:=Lib.hid hL
 have hc0:=h.hd.1
 have htl:=ch_le hl ht
 have H:=Lib.hid h
 have H0:=Lib.hid (show FInv w w M B A0 all ms t (.slice A0 all.length cap0) (.int .u64 x0) from ⟨A0,cap0,[],x0,t,rfl,rfl,by simpa using hA,by simpa using hM,rfl,by simpa using ht,Only.refl _ _,fun x hx=>.inl hx,by omega⟩)
 replace hap:=Lib.hid hap
 replace hN:=Lib.hid hN
 have hBm:=Lib.hid (fun x (hx:mfoot M x) (e:x=B)=>hM.no (by rw [← e]; exact h.ty hx))
 have hBA:=Lib.hid (fun (hx:In A0 B)=>hM.no (row_ty hA hx))
 clear h hA hM ht hx0 hbd hc
 obtain ⟨i0,hi0,hz0,hz1,hz2⟩:=info_parts info_handle
 generalize hal:all.length=al at*
 replace hal:=Lib.hid hal
 go_enter Tryz.func55,Tryz.ntmps55
 go_wp2_with (go_at_call 54; refine hL.out.mono ?_; rintro e w' ⟨rfl,hw⟩; obtain rfl:w=w':=hw.symm)
 clear hL hc0
 go_loopw [1,11] (fun v hv wr=>FInv w wr M B A0 all ms t v hv) (fun v _ _=>(match v with | .slice _ n _=>al+t.length-n | _=>0))
 case atStart=>exact H0.out
 case round=>
  obtain ⟨A,cap,out,x,rest,rfl,rfl,hA,hM,hte,hch,hO,hA',hx⟩:=hrel
  clear H0
  have hMe:=H.out.only hO (fun y hy q=>by
   rcases q with q | q
   · exact hBm.out y hy q
   · exact hap.out y q hy)
  have m2:=hMe.hd.2.2.1
  have hlk:=hM.look hx
  have hol:out.length≤1024:=by have:t.length=out.length+rest.length:=by rw [hte,List.length_append]
                               omega
  replace hA:=Lib.hid hA
  replace hM:=Lib.hid hM
  replace hO:=Lib.hid hO
  replace hA':=Lib.hid hA'
  replace hMe:=Lib.hid hMe
  rw [hal.out]
  cases hch with
  | stop hs=>
    rcases bad_or M.ss x with ⟨k,hk⟩ | ⟨cd,hcd⟩
    · have hLv:=Lib.hid (live_ok hMe.out.2.2.2.1 hx hk)
      have hin:decide (x∈out.reverse++ms)=true:=by
       rcases hs with q | q
       · exact absurd hk (q k)
       · simpa using q
      rw [hin] at hlk
      replace hte:=Lib.hid hte
      clear hs hin hk
      go_wp2_with (go_at_call 34; refine hLv.out.mono ?_; rintro e w' ⟨rfl,rfl⟩)
      go_ret
      have e1:=hte.out
      rw [List.append_nil] at e1
      subst e1
      exact ⟨A,cap,by rw [hal.out]; rfl,hA.out,hM.out,hO.out,hA'.out⟩
    · have hLv:=Lib.hid (live_bad hMe.out.2.2.2.1 hx hcd)
      replace hte:=Lib.hid hte
      clear hs hcd hlk
      go_wp2_with (go_at_call 34; refine hLv.out.mono ?_; rintro e w' ⟨rfl,rfl⟩)
      go_ret
      have e1:=hte.out
      rw [List.append_nil] at e1
      subst e1
      exact ⟨A,cap,by rw [hal.out]; rfl,hA.out,hM.out,hO.out,hA'.out⟩
  | @go _ _ k t' hk hnm hr=>
    have hLv:=Lib.hid (live_ok hMe.out.2.2.2.1 hx hk)
    have hin:decide (x∈out.reverse++ms)=false:=by simpa using hnm
    rw [hin] at hlk
    replace hte:=Lib.hid hte
    replace hr:=Lib.hid hr
    replace hk:=Lib.hid hk
    clear hin hnm
    go_wp2_with (first
     | (go_at_call 34; refine hLv.out.mono ?_; rintro e w' ⟨rfl,rfl⟩)
     | (at_mapUpdate
        refine wpList_met rfl _ _ _ rfl B (out.reverse++ms) hM.out (by simp; omega) x hx rfl rfl rfl ?_
        intro w1 hM1 hO1
        have hMe1:=Lib.hid (hMe.out.only hO1 (fun y hy q=>hBm.out y hy q))
        have hA1:=Lib.hid (hA.out.only hO1 (fun y hy q=>by
         subst q
         exact hM.out.no (row_ty hA.out hy)))
        replace hM1:=Lib.hid hM1
        replace hO1:=Lib.hid hO1
        clear m2 hlk)
     | (at_builtin
        refine wpList_append_one w1 rfl (.tmp 38) (.tmp 40) 37 rfl 73 i0 (.int .u64 0) 1 8 Tryz.underlying37 hi0 hz0 hz1 hz2 rfl (by omega) hnd (fun _=>rfl) (by intro x u hu; simp [hnd] at hu; subst hu; rfl)
         A cap (al+out.length) (all++out) (by rw [List.length_append,hal.out]) x #[.int .u64 x] rfl rfl hA1.out rfl (by simp only [maxLen]; omega) (by omega) ?_
        intro A2 cap2 w2 hR2 hO2 hA2
        have hlo:∀ y,In A y→mfoot M y→False:=fun y hy hm=>by
         have h1:=H.out.lt hm
         rcases hA'.out y hy with q | q
         · exact hap.out y q hm
         · omega
        have hMe2:=hMe1.out.only hO2 (fun y hm hy=>hlo y hy hm)
        have hM2:=Lib.hid (hM1.out.only hO2 (fun hy=>hM1.out.no (row_ty hA1.out hy)))
        have m2:=hMe2.hd.2.2.1
        have hRd:=read_ok hMe2.2.2.2.1 hx hk.out
        obtain ⟨e1,e2⟩:=hN.out.at k
        have hOn:=Lib.hid ((hO.out.trans' hO1.out (fun y _ q=>.inl q)).trans' (S:=fun x=>x=B∨In A0 x) hO2 (fun y hy q=>by
         rcases hA'.out y q with q | q
         · exact .inr q
         · omega))
        generalize (at' M.ss k).nd=dd at*
        obtain ⟨ky,vl,sm,nxt⟩:=dd
        simp only at e1
        subst e1
        generalize nx M.ss k=nk at*
        unfold ndv at hRd
        replace hRd:=Lib.hid hRd
        replace hMe2:=Lib.hid hMe2
        replace hR2:=Lib.hid hR2
        replace hA2:=Lib.hid (fun y (hy:In A2 y)=>show In A0 y∨w.heap.size≤y from by
         rcases hA2 y hy with q | q
         · exact hA'.out y q
         · exact .inr (Nat.le_trans (hO.out.trans' hO1.out (fun y _ q=>.inl q)).size q))
        clear hlo hO2)
     | (go_at_call 35
        refine hRd.out.mono ?_
        rintro e w3 ⟨rfl,hB3⟩
        replace hB3:=Lib.hid hB3
        clear m2))
    go_roundw
    case rel=>
     have hOf:=(Only.refl (fun _=>False) w2).below hB3.out
     refine ⟨A2,cap2,out++[x],nk,t',by rw [hal.out,List.length_append]; rfl,rfl,?_,?_,by rw [List.append_assoc]; exact hte.out,by simpa using hr.out,?_,hA2.out,e2⟩
     · rw [← List.append_assoc]
       exact hR2.out.only (hOf.alloc _) (by simp)
     · have:(out++[x]).reverse++ms=x::(out.reverse++ms):=by simp
       rw [this]
       exact hM2.out.only (hOf.alloc _) (by simp)
     · exact (hOn.out.below hB3.out).alloc _
    case measure=>
     have:=hte.out
     have h1:t.length=out.length+(t'.length+1):=by rw [this]; simp
     simp
     omega
end Go.Proofs.YtpobbnllcoabhaaGreat.Me
namespace Go.Proofs.YtpobbnllcoabhaaGreat.Me
open Go Go.RowKit Hp K Fl Rw Hm Ar Mm
set_option maxRecDepth 100000
def first (xs:List Int) (ds:List (Nat×Nat)) (b:Nat):Nat:=(Cl.nth xs ((now xs ds).2+b)).toNat
def Chn (xs:List Int) (ds:List (Nat×Nat)) (ss:List Sl) (i:Int) (t:List Nat):Prop:=if 0≤i∧i<(now xs ds).1 then Ch ss [] (first xs ds i.toNat) t else t=[]
def Rch (xs:List Int) (ds:List (Nat×Nat)) (ss:List Sl) (t:List Nat):Prop:=Rh ss (first xs ds) (now xs ds).1 t
def Lists (w:World) (ty:TypeId) (t:List Nat) (e:Ending) (w':World):Prop:=
 ∃ A cap,e=.returned (.slice A t.length cap)∧Row w' ty 1 hnd A cap t∧Below w.heap.size w w'∧∀ x,In A x→w.heap.size≤x
section
variable {w:World} {M:Mo}
set_option maxHeartbeats 1000000 in
theorem chain_any (h:MemAt w M) (hT:Tabs M.xs M.ds) (hx:1<M.xs.length) (hN:Nexts M.ss) (hl:M.ss.length≤1024) (i:Int) (h0: -9223372036854775808≤i) (h1:i≤9223372036854775807) (t:List Nat) (ht:Chn M.xs M.ds M.ss i t):
 Calls Tryz.prog 33 #[ptr M.m,.int .i64 i] w (Lists w 73 t):=by
 have hNow:=now_any h hx
 have hTn:=hT.now
 have H:=Lib.hid h
 have hxl:=h.2.1.2.2.2
 unfold Chn at ht
 obtain ⟨⟨d1,d2⟩,hd⟩:∃ d,now M.xs M.ds=d:=⟨_,rfl⟩
 have hfst:first M.xs M.ds=fun b=>(Cl.nth M.xs (d2+b)).toNat:=by unfold first; rw [hd]
 rw [hd] at hNow hTn
 rw [hd,hfst] at ht
 simp only at ht hTn
 clear hfst hd h
 unfold dv at hNow
 replace hNow:=Lib.hid hNow
 by_cases hi:0≤i∧i<d1
 · rw [if_pos hi] at ht
   obtain ⟨k,rfl⟩:=Int.eq_ofNat_of_zero_le hi.1
   rw [Int.toNat_natCast] at ht
   have hk:k<d1:=by omega
   have htn:=hTn.2.1 (by omega)
   have hF:Hid (∀ w2 B,MemAt w2 M→Met w2 B []→Calls Tryz.prog 55 #[ptr M.m,.slice none 0 0,.int .i64 ((d2:Int)+(k:Int)),.map (some B)] w2 (Followed w2 B none [] [] t)):=Lib.hid fun w2 B h2 hm=>by
    have:=follow_any h2 hN hl (d2+k) (by omega) none 0 [] (Row.nil _ _ _ _) (by simp) B [] hm (by simp) (by simp [In]) t ht
    rw [Int.natCast_add] at this
    exact this
   clear ht hT hTn hN hx h0 h1
   have hmm:=@run_makeMap Tryz.prog
   go_enter Tryz.func33,Tryz.ntmps33
   go_wp2_with (first
    | (go_at_call 32; refine hNow.out.mono ?_; rintro e w1 ⟨rfl,hB1⟩
       have hM1:=Lib.hid (((H.out.below hB1).alloc (.cells #[.int .i64 d1,.int .i64 d2] 82)).alloc (.map #[] 0))
       have hMt:=Met.made (w1.alloc (.cells #[.int .i64 d1,.int .i64 d2] 82))
       rw [World.size_alloc] at hMt
       have hB1a:=Lib.hid ((hB1.alloc (o:=.cells #[.int .i64 d1,.int .i64 d2] 82) hB1.size).alloc (o:=.map #[] 0) (by have:=hB1.size; simp; omega))
       have hFF:=Lib.hid (hF.out _ _ hM1.out hMt)
       replace hMt:=Lib.hid hMt
       replace hB1:=Lib.hid hB1)
    | (go_at_call 55
       refine hFF.out.mono ?_
       rintro e w2 ⟨A2,cap2,rfl,hA2,hM2,hO2,hi2⟩
       have hs1:=hB1.out.size
       have hB2:=Lib.hid (hB1a.out.trans (hO2.toBelow hB1a.out.size (fun y hy q=>by
        rcases q with q | q
        · omega
        · simp [In] at q)))
       have hi2':=Lib.hid (fun y (hy:In A2 y)=>show w.heap.size≤y from by
        rcases hi2 y hy with q | q
        · simp [In] at q
        · have:=hB1.out.size
          simp at q
          omega)
       replace hA2:=Lib.hid hA2
       clear hM2 hO2 hi2))
   go_ret
   exact ⟨A2,cap2,by simp,hA2.out,hB2.out,hi2'.out⟩
 · rw [if_neg hi] at ht
   subst ht
   clear hT hTn hN hx
   by_cases hn:i<0
   · go_enter Tryz.func33,Tryz.ntmps33
     go_wp2_with (go_at_call 32; refine hNow.out.mono ?_; rintro e w1 ⟨rfl,hB1⟩; replace hB1:=Lib.hid hB1)
     go_ret
     exact ⟨none,0,rfl,Row.nil _ _ _ _,hB1.out.trans ((Below.refl _ _).alloc hB1.out.size _),by simp [In]⟩
   · have hi:(d1:Int)≤i:=by omega
     go_enter Tryz.func33,Tryz.ntmps33
     go_wp2_with (go_at_call 32; refine hNow.out.mono ?_; rintro e w1 ⟨rfl,hB1⟩; replace hB1:=Lib.hid hB1)
     go_ret
     exact ⟨none,0,rfl,Row.nil _ _ _ _,hB1.out.trans ((Below.refl _ _).alloc hB1.out.size _),by simp [In]⟩
def RInv (w wr:World) (M:Mo) (B q:Nat) (d:Nat×Nat) (f:Nat→Nat) (v:Value) (b:Nat):Prop:=
 ∃ (A:Option Addr) (cap:Nat) (all ms:List Nat),v=.slice A all.length cap∧Rh M.ss f b all∧Hnds wr A cap all∧Met wr B ms∧(∀ x,x∈all↔x∈ms)∧ms.length≤all.length∧
   MemAt wr M∧Blk wr q 82 #[.int .i64 d.1,.int .i64 d.2]∧Below w.heap.size w wr∧(∀ x,In A x→w.heap.size≤x)∧w.heap.size≤B
set_option maxHeartbeats 1000000 in
theorem reach_any (h:MemAt w M) (hT:Tabs M.xs M.ds) (hx:1<M.xs.length) (hN:Nexts M.ss) (hl:M.ss.length≤1024) (t:List Nat) (ht:Rch M.xs M.ds M.ss t):
 Calls Tryz.prog 38 #[ptr M.m] w (Lists w 73 t):=by
 have hNow:=now_any h hx
 have hTn:=hT.now
 have H:=Lib.hid h
 have hxl:=h.2.1.2.2.2
 unfold Rch at ht
 obtain ⟨⟨d1,d2⟩,hd⟩:∃ d,now M.xs M.ds=d:=⟨_,rfl⟩
 have hfst:first M.xs M.ds=fun b=>(Cl.nth M.xs (d2+b)).toNat:=by unfold first; rw [hd]
 rw [hd] at hNow hTn
 rw [hd,hfst] at ht
 simp only at ht hTn
 clear hfst hd h
 unfold dv at hNow
 replace hNow:=Lib.hid hNow
 have hF:Hid (∀ w2 A cap all B ms u k,k<d1→MemAt w2 M→Hnds w2 A cap all→all.length≤1024→Met w2 B ms→ms.length≤1024→(∀ x,In A x→¬mfoot M x)→Ch M.ss ms (Cl.nth M.xs (d2+k)).toNat u→Calls Tryz.prog 55 #[ptr M.m,.slice A all.length cap,.int .i64 ((d2:Int)+(k:Int)),.map (some B)] w2 (Followed w2 B A all ms u)):=Lib.hid fun w2 A cap all B ms u k hk h2 ha hal hm hml hap hu=>by
  have htn:=hTn.2.1 (by omega)
  have:=follow_any h2 hN hl (d2+k) (by omega) A cap all ha (by omega) B ms hm (by omega) hap u hu
  rw [Int.natCast_add] at this
  exact this
 clear hT hN hx
 have htn1:=hTn.1
 have htn2:=hTn.2.2
 replace hTn:=Lib.hid hTn
 replace ht:=Lib.hid ht
 have hmm:=@run_makeMap Tryz.prog
 go_enter Tryz.func38,Tryz.ntmps38
 go_wp2_with (go_at_call 32; refine hNow.out.mono ?_; rintro e w1 ⟨rfl,hB1⟩
              have hM1:=Lib.hid (H.out.below hB1)
              replace hB1:=Lib.hid hB1)
 have H0:=Lib.hid (show RInv w ((w1.alloc (.cells #[.int .i64 d1,.int .i64 d2] 82)).alloc (.map #[] 0)) M (w1.heap.size+1) w1.heap.size (d1,d2) (fun b=>(Cl.nth M.xs (d2+b)).toNat) (.slice none 0 0) 0 from by
  have hs:=hB1.out.size
  refine ⟨none,0,[],[],rfl,.zero,Row.nil _ _ _ _,?_,by simp,by simp,(hM1.out.alloc _).alloc _,(Blk.made w1 _ _).alloc _,?_,by simp [In],by omega⟩
  · have:=Met.made (w1.alloc (.cells #[.int .i64 d1,.int .i64 d2] 82))
    simpa using this
  · exact (hB1.out.alloc hs _).alloc (by simp; omega) _)
 go_wp2_with fail
 clear hmm
 go_loopw [4,12] (fun v i wr=>∃ b:Nat,b≤d1∧i=.int .i64 b∧RInv w wr M (w1.heap.size+1) w1.heap.size (d1,d2) (fun b=>(Cl.nth M.xs (d2+b)).toNat) v b) (fun _ i _=>d1-(intOf i).toNat)
 case atStart=>exact ⟨0,Nat.zero_le _,rfl,H0.out⟩
 case round=>
  obtain ⟨b,hb,rfl,A,cap,all,ms,rfl,hR,hA,hM,hiff,hml,hMe,hQ,hB,hA',hBw⟩:=hrel
  clear H0
  have hale:=rh_le hl hR
  by_cases hlt:b<d1
  · obtain ⟨u,hu⟩:=ch_any M.ss hl all (Cl.nth M.xs (d2+b)).toNat
    have hFu:=Lib.hid (hF.out wr A cap all (w1.heap.size+1) ms u b hlt hMe hA (by omega) hM (by omega) (fun x hx hm=>by
     have h1:=hA' x hx
     have h2:=H.out.lt hm
     omega) (ch_congr hu ms hiff))
    have c0:=hQ.cell 0
    have c1:=hQ.cell 1
    simp at c0 c1
    replace hA:=Lib.hid hA
    replace hM:=Lib.hid hM
    replace hMe:=Lib.hid hMe
    replace hQ:=Lib.hid hQ
    replace hB:=Lib.hid hB
    replace hA':=Lib.hid hA'
    have hR':=Lib.hid (Rh.succ hR hu)
    have hul:=ch_le hl hu
    replace hiff:=Lib.hid hiff
    clear hu hR
    generalize hal:all.length=al at*
    replace hal:=Lib.hid hal
    go_wp2_with (go_at_call 55
                 refine hFu.out.mono ?_
                 rintro e w2 ⟨A2,cap2,rfl,hA2,hM2,hO2,hi2⟩
                 have hi2':=Lib.hid (fun y (hy:In A2 y)=>show w.heap.size≤y from by
                  rcases hi2 y hy with q | q
                  · exact hA'.out y q
                  · have:=hB.out.size
                    omega)
                 have hMe2:=Lib.hid (hMe.out.only hO2 (fun y hm q=>by
                  have h2:=H.out.lt hm
                  rcases q with q | q
                  · omega
                  · have:=hA'.out y q
                    omega))
                 have hQ2:=Lib.hid (hQ.out.only hO2 (fun q=>by
                  rcases q with q | q
                  · omega
                  · exact (row_ty hA.out q).apart (blk_ty hQ.out) (by decide)))
                 have hB2:=Lib.hid (hB.out.trans (hO2.toBelow hB.out.size (fun y hy q=>by
                  rcases q with q | q
                  · omega
                  · have:=hA'.out y q
                    omega)))
                 replace hA2:=Lib.hid hA2
                 replace hM2:=Lib.hid hM2
                 clear hO2 hi2 c0 c1)
    go_roundw
    case rel=>
     refine ⟨b+1,by omega,by go_num,A2,cap2,all++u,u.reverse++ms,by rw [List.length_append],hR'.out,hA2.out,hM2.out,fun x=>?_,?_,hMe2.out,hQ2.out,hB2.out,hi2'.out,hBw⟩
     · have:=hiff.out x
       simp [this,or_comm]
     · have:=hal.out
       simp
       omega
    case measure=>simp [intOf]; omega
  · obtain rfl:b=d1:=by omega
    obtain rfl:=rh_det hl ht.out _ hR
    have c0:=hQ.cell 0
    simp at c0
    replace hA:=Lib.hid hA
    replace hB:=Lib.hid hB
    replace hA':=Lib.hid hA'
    clear hM hMe hiff hR hQ
    go_wp2_with fail
    go_ret
    exact ⟨A,cap,rfl,hA.out,hB.out,hA'.out⟩
end
end Go.Proofs.YtpobbnllcoabhaaGreat.Me
namespace Go.Proofs.YtpobbnllcoabhaaGreat.Mq
open Go Hm Ar Mm Wk Pc Me
abbrev Hp:=Nat×Pr
abbrev hds (q:List Hp):List Nat:=q.map (·.1)
abbrev prs (q:List Hp):List Pr:=q.map (·.2)
abbrev kys (q:List Hp):List ByteArray:=q.map (·.2.1)
inductive Cx (ss:List Sl):Nat→List Hp→Prop
 | nil:Cx ss 0 []
 | cons {x k z:Nat} {p:Pr} {t:List Hp}:IsAt ss x k→(at' ss k).nd=ndp p z→Cx ss z t→Cx ss x ((x,p)::t)
section
variable {ss ss':List Sl} {x:Nat} {q:List Hp}
theorem Cx.cn (h:Cx ss x q):Cn ss x (prs q):=by
 induction h with
 | nil=>exact .nil
 | cons a b _ ih=>exact .cons a b ih
theorem Cx.pos (h:Cx ss x q):x=0↔q=[]:=by
 cases h with
 | nil=>simp
 | cons a b c=>simp [a.pos]
theorem Cx.ch (h:Cx ss x q):∀ met,(∀ y∈hds q,y∉met)→(hds q).Nodup→Ch ss met x (hds q):=by
 induction h with
 | nil=>intro met _ _; exact .stop (.inl fun k hk=>hk.pos rfl)
 | @cons x k z p t a b c ih=>
   intro met hm hn
   have hn':x∉hds t∧(hds t).Nodup:=List.nodup_cons.1 hn
   refine .go a (hm x (by simp)) ?_
   have e:nx ss k=z:=by unfold nx; rw [b]; rfl
   rw [e]
   refine ih (x::met) (fun y hy q=>?_) hn'.2
   rcases List.mem_cons.1 q with rfl | q
   · exact hn'.1 hy
   · exact hm y (List.mem_cons_of_mem _ hy) q
theorem Cx.at (h:Cx ss x q):∀ e∈q,∃ k z,IsAt ss e.1 k∧(at' ss k).nd=ndp e.2 z:=by
 induction h with
 | nil=>simp
 | @cons x k z p t a b c ih=>
   intro e he
   rcases List.mem_cons.1 he with rfl | he
   · exact ⟨k,z,a,b⟩
   · exact ih e he
theorem Cx.keep (h:Cx ss x q):(∀ y∈hds q,∀ k,IsAt ss y k→IsAt ss' y k∧(at' ss' k).nd=(at' ss k).nd)→Cx ss' x q:=by
 induction h with
 | nil=>intro _; exact .nil
 | @cons x k z p t a b c ih=>
   intro hk
   have:=hk x (by simp) k a
   exact .cons this.1 (this.2.trans b) (ih fun y hy=>hk y (List.mem_cons_of_mem _ hy))
theorem Cx.tail {p:Pr} {t:List Hp} (h:Cx ss x ((x,p)::t)):∃ k z,IsAt ss x k∧(at' ss k).nd=ndp p z∧Cx ss z t:=by
 cases h with
 | cons a b c=>exact ⟨_,_,a,b,c⟩
theorem Cx.head {e:Hp} {t:List Hp} (h:Cx ss x (e::t)):x=e.1:=by
 cases h with
 | cons a b c=>rfl
def lastH (pre:List Hp):Nat:=(hds pre).getLastD 0
theorem lastH_snoc (pre:List Hp) (e:Hp):lastH (pre++[e])=e.1:=by simp [lastH]
theorem lastH_ne {pre:List Hp} (h:Cx ss x (pre++q)) (hp:pre≠[]):lastH pre≠0:=by
 obtain ⟨p0,e,rfl⟩:∃ p0 e,pre=p0++[e]:=⟨pre.dropLast,pre.getLast hp,(List.dropLast_concat_getLast hp).symm⟩
 rw [lastH_snoc]
 obtain ⟨k,z,hk,_⟩:=h.at e (by simp)
 exact hk.pos
theorem Cx.swap {m h kp z:Nat} {e e':Hp} {pr:Pr} {t:List Hp} (hh:IsAt ss' h m) (hnd:(at' ss' m).nd=ndp pr z) (ht:Cx ss' z t):∀ (pre:List Hp) (x:Nat),Cx ss x (pre++e::e'::t)→
 IsAt ss e.1 kp→IsAt ss' e.1 kp→(at' ss' kp).nd=ndp e.2 h→(∀ y∈hds pre,∀ k,IsAt ss y k→IsAt ss' y k∧(at' ss' k).nd=(at' ss k).nd)→Cx ss' x (pre++e::(h,pr)::t):=by
 intro pre
 induction pre with
 | nil=>
   intro x hc h1 h2 h3 _
   cases hc with
   | cons a b c=>exact .cons h2 h3 (.cons hh hnd ht)
 | cons e0 r ih=>
   intro x hc h1 h2 h3 hk
   cases hc with
   | @cons _ k z0 p _ a b c=>
     have:=hk x (by simp) k a
     exact .cons this.1 (this.2.trans b) (ih _ c h1 h2 h3 fun y hy=>hk y (List.mem_cons_of_mem _ hy))
end
/-! ### what is found-/
theorem lk_none {q:List Pr} {key:ByteArray}:lk q key=none↔key∉q.map (·.1):=by
 induction q with
 | nil=>simp [lk]
 | cons p t ih=>
   unfold lk
   by_cases h:p.1=key
   · rw [if_pos h]; simp [h]
   · rw [if_neg h,ih]
     simp [show ¬key=p.1 from fun e=>h e.symm]
theorem lk_mem {q:List Pr} {p:Pr} (hn:(q.map (·.1)).Nodup) (hp:p∈q):lk q p.1=some p.2:=by
 induction q with
 | nil=>simp at hp
 | cons a t ih=>
   have hn':a.1∉t.map (·.1)∧(t.map (·.1)).Nodup:=List.nodup_cons.1 hn
   unfold lk
   rcases List.mem_cons.1 hp with rfl | hp
   · rw [if_pos rfl]
   · rw [if_neg (fun e=>hn'.1 (by rw [e]; exact List.mem_map_of_mem hp)),ih hn'.2 hp]
theorem lk_some_mem {q:List Pr} {key v:ByteArray} (h:lk q key=some v):(key,v)∈q:=by
 induction q with
 | nil=>simp [lk] at h
 | cons a t ih=>
   unfold lk at h
   split at h
   · rename_i e
     injection h with h
     subst h; subst e
     exact List.mem_cons_self
   · exact List.mem_cons_of_mem _ (ih h)
theorem lk_perm {q q':List Pr} (hn:(q.map (·.1)).Nodup) (hp:q.Perm q') (key:ByteArray):lk q key=lk q' key:=by
 have hn':(q'.map (·.1)).Nodup:=(hp.map _).nodup_iff.1 hn
 cases h:lk q key with
 | none=>
   rw [lk_none] at h
   exact ((lk_none.2 fun e=>h ((hp.map _).mem_iff.2 e))).symm
 | some v=>
   have:=hp.mem_iff.1 (lk_some_mem h)
   exact (lk_mem hn' this).symm
structure Upd (l l':List Pr) (key val:ByteArray):Prop where
 nd:(l'.map (·.1)).Nodup
 lk:∀ k,Pc.lk l' k=if k=key then some val else Pc.lk l k
 len:l'.length=if (Pc.lk l key).isSome then l.length else l.length+1
theorem filter_len {l:List Pr} (hn:(l.map (·.1)).Nodup) (key:ByteArray):(l.filter fun p=>decide (p.1≠key)).length+(if (Pc.lk l key).isSome then 1 else 0)=l.length:=by
 induction l with
 | nil=>simp [lk]
 | cons p t ih=>
   have hn':p.1∉t.map (·.1)∧(t.map (·.1)).Nodup:=List.nodup_cons.1 hn
   have:=ih hn'.2
   by_cases h:p.1=key
   · have h0:lk t key=none:=lk_none.2 (by rw [← h]; exact hn'.1)
     rw [h0] at this
     simp only [Option.isSome_none,Bool.false_eq_true,if_false,Nat.add_zero] at this
     simp only [List.filter_cons,h,ne_eq,not_true_eq_false,decide_false,Bool.false_eq_true,if_false,lk,if_true,Option.isSome_some,List.length_cons]
     simp only [ne_eq] at this
     omega
   · simp only [List.filter_cons,h,ne_eq,not_false_eq_true,decide_true,if_true,lk,if_false,List.length_cons]
     simp only [ne_eq] at this
     omega
theorem lk_filter (l:List Pr) (key k:ByteArray):lk (l.filter fun p=>decide (p.1≠key)) k=if k=key then none else lk l k:=by
 induction l with
 | nil=>simp [lk]
 | cons p t ih=>
   by_cases h:p.1=key
   · rw [List.filter_cons,if_neg (by simp [h]),ih]
     split
     · rfl
     · rename_i hk
       conv=>rhs; unfold lk
       rw [if_neg (fun e=>hk (by rw [← e,h]))]
   · rw [List.filter_cons,if_pos (by simp [h])]
     unfold lk
     split
     · rename_i e
       rw [if_neg (fun q=>h (by rw [e,q]))]
     · exact ih
theorem upd_of {l l':List Pr} {key val:ByteArray} (hn:(l.map (·.1)).Nodup) (hp:l'.Perm ((key,val)::l.filter fun p=>decide (p.1≠key))):Upd l l' key val:=by
 have hf:((((key,val)::l.filter fun p=>decide (p.1≠key)):List Pr).map (·.1)).Nodup:=by
  rw [List.map_cons,List.nodup_cons]
  refine ⟨fun q=>?_,(List.filter_sublist.map _).nodup hn⟩
  obtain ⟨p,hp,e⟩:=List.mem_map.1 q
  have:=(List.mem_filter.1 hp).2
  simp [e] at this
 have hn':(l'.map (·.1)).Nodup:=(hp.map _).nodup_iff.2 hf
 refine ⟨hn',fun k=>?_,?_⟩
 · rw [lk_perm hn' hp]
   unfold lk
   by_cases e:key=k
   · rw [if_pos e,if_pos e.symm]
   · rw [if_neg e,if_neg (fun q=>e q.symm),lk_filter,if_neg (fun q=>e q.symm)]
     cases l<;>rfl
 · rw [hp.length_eq,List.length_cons]
   have:=filter_len hn key
   split
   · rename_i e; rw [if_pos e] at this; omega
   · rename_i e; rw [if_neg e] at this; omega
def bkt (key:ByteArray) (n:Nat):Nat:=(FM.bucket (sm key) n).toNat
theorem bkt_lt {n:Nat} (hp:FM.power n=true) (key:ByteArray):bkt key n<n∧FM.bucket (sm key) n=(bkt key n:Nat):=by
 have:=bucket_lt hp (sm key) (sm_bd key).1
 unfold bkt
 omega
end Go.Proofs.YtpobbnllcoabhaaGreat.Mq
namespace Go.Proofs.YtpobbnllcoabhaaGreat.Pu
open Go Go.RowKit Hp K Fl Rw Hm Ar Mm Me Wk Ta Pn Pc Mq
set_option maxRecDepth 100000
section
variable {xs:List Int} {ds:List (Nat×Nat)} {s:List Int×Ho}
theorem lstep1 (h:s.2.nx=1):lstep xs ds s=(s.1,{s.2 with nx:=2,num:=(Cl.nth xs 1).toNat}):=by unfold lstep; rw [if_pos h]
theorem lstep2 (h:s.2.nx=2):lstep xs ds s=(s.1.set (lkn s.2.sum (tab ds s.2.num)) s.2.worker,{s.2 with nx:=3,d:=tab ds s.2.num,lock:=lkn s.2.sum (tab ds s.2.num)}):=by unfold lstep; rw [if_neg (by omega),if_pos h]
theorem lstep3 (h:s.2.nx=3) (he:Cl.nth xs 1=s.2.num):lstep xs ds s=(s.1,{s.2 with nx:=5,holds:=true}):=by unfold lstep; rw [if_neg (by omega),if_neg (by omega),if_pos h,if_pos he]
end
section
variable {L:Lm} {S:Sk}
theorem sstep1 (h:S.ph=1):sstep L S=({L with hs:=(lstep L.xs L.ds (L.hs,S.H)).1},if ldone L.xs (L.hs,S.H)=true then {S with H:=(lstep L.xs L.ds (L.hs,S.H)).2,cell:=pcell S.sum (lstep L.xs L.ds (L.hs,S.H)).2,W:=new 0 (pcell S.sum (lstep L.xs L.ds (L.hs,S.H)).2) S.sum S.key,ph:=2} else {S with H:=(lstep L.xs L.ds (L.hs,S.H)).2}):=by
 unfold sstep; rw [if_pos h]
theorem sstep2 (h:S.ph=2):sstep L S=({L with F:=(Wk.gstep L.xs L.ss (L.F,S.W)).1},{S with W:=(Wk.gstep L.xs L.ss (L.F,S.W)).2}):=by
 unfold sstep; rw [if_neg (by omega)]
theorem sdone1 (h:S.ph=1):sdone L S=false:=by unfold sdone; rw [if_pos h]
theorem sdone2 (h:S.ph=2):sdone L S=Wk.gdone L.xs L.ss (L.F,S.W):=by unfold sdone; rw [if_neg (by omega)]
theorem sready2 (h:S.ph≠1):sready L S=true:=by unfold sready; rw [if_neg h]
end
structure Ep where
 L:Lm
 key:ByteArray
 val:ByteArray
 i:Int
 h:Nat
 d:Nat×Nat
 c:Nat
 q:List Mq.Hp
abbrev Ep.word (E:Ep):Nat:=(Cl.nth E.L.xs E.c).toNat
abbrev Ep.lock (E:Ep):Nat:=lkn (sm E.key) E.d
abbrev Ep.num (E:Ep):Nat:=(Cl.nth E.L.xs 1).toNat
abbrev Ep.hs (E:Ep):List Int:=E.L.hs.set E.lock E.i
structure Ep.Ok (E:Ep):Prop where
 len:E.L.ss.length≤1024
 nexts:Nexts E.L.ss
 tb:∀ i,(tab E.L.ds i).1≤65536∧(tab E.L.ds i).2≤4000000
 wk:0≤E.i∧E.i≤1000
 xb:∀ x∈E.L.xs,0≤x∧x≤18446744073709551615
 hs:E.L.hs=List.replicate 6 (-1)
 now:Me.now E.L.xs E.L.ds=E.d
 d0:E.d.1≠0
 cell:(E.c:Int)=E.d.2+FM.bucket (sm E.key) E.d.1
 cx:E.c<E.L.xs.length
 x1:1<E.L.xs.length
 ch:Cx E.L.ss E.word E.q
 gen:∀ k,(at' E.L.ss k).gen≤1000000
 ws:E.L.ws.length≤1000000
 ql:E.q.length≤1024
abbrev Ep.H (E:Ep):Ho:=⟨E.h,E.i,sm E.key,5,E.num,E.d,E.lock,true⟩
def Fnd (E:Ep) (W:Wa):Prop:=(W.found=0∧E.key∉kys E.q∧W.first=E.word)∨
 ∃ (pre:List Mq.Hp) (x:Nat) (p:Pr) (t:List Mq.Hp) (z k:Nat),E.q=pre++(x,p)::t∧p.1=E.key∧W.found=x∧IsAt E.L.ss x k∧(at' E.L.ss k).nd=ndp p z∧W.nd=ndp p z∧Cx E.L.ss z t∧W.prev=lastH pre
abbrev Ep.s (E:Ep) (H:Ho) (W:Wa):Sk:=⟨E.key,sm E.key,2,H,E.c,W⟩
abbrev Ep.n (E:Ep) (H:Ho):Sk:={newSk E.h E.i (sm E.key) E.key with H:=H}
inductive Rs (E:Ep):Nat→Lm×Sk→Prop
 | a1:Rs E (4+E.q.length) (E.L,newSk E.h E.i (sm E.key) E.key)
 | a2:Rs E (3+E.q.length) (E.L,E.n ⟨E.h,E.i,sm E.key,2,E.num,(0,0),0,false⟩)
 | a3:Rs E (2+E.q.length) ({E.L with hs:=E.hs},E.n ⟨E.h,E.i,sm E.key,3,E.num,E.d,E.lock,false⟩)
 | w1:Rs E (1+E.q.length) ({E.L with hs:=E.hs},E.s E.H (Wk.new 0 E.c (sm E.key) E.key))
 | w2 (pre rest:List Mq.Hp) (W:Wa):E.q=pre++rest→rest≠[]→W.nx=2→Cx E.L.ss W.at_ rest→W.key=E.key→W.sum=sm E.key→W.first=E.word→W.prev=lastH pre→W.found=0→W.read=pre.length→W.cell=E.c→E.key∉kys pre→W.at_≤18446744073709551615→W.nd=.zero→
    Rs E rest.length ({E.L with hs:=E.hs},E.s E.H W)
section
variable {E:Ep} {k:Nat} {s:Lm×Sk}
theorem Ep.Ok.lk (hE:E.Ok):E.lock<6:=by
 have:=lkn_bd E.d (sm_bd E.key).1
 show lkn (sm E.key) E.d<6
 omega
theorem Ep.Ok.back (hE:E.Ok):E.hs.set E.lock (-1)=E.L.hs:=by
 show (E.L.hs.set E.lock E.i).set E.lock (-1)=_
 rw [List.set_set,hE.hs]
 apply List.ext_getElem
 · simp
 · intro i h1 h2
   rw [List.getElem_set,List.getElem_replicate]
   split<;>first | rfl | rw [List.getElem_replicate]
theorem Ep.Ok.hol (hE:E.Ok):Lo.hol E.hs E.lock=E.i:=by
 have:=hE.lk
 show Lo.hol (E.L.hs.set E.lock E.i) E.lock=_
 rw [hol_set (by rw [hE.hs]; simpa using this),if_pos rfl]
theorem Rs.pos (h:Rs E k s):1≤k:=by
 cases h with
 | w2 pre rest W h1 h2=>exact List.length_pos_iff.2 h2
 | _=>omega
theorem Ep.Ok.okl (hE:E.Ok):Okl E.L.xs E.L.ds (E.L.hs,⟨E.h,E.i,sm E.key,1,0,(0,0),0,false⟩):=by
 have hw:=hE.wk
 exact ⟨sm_bd _,⟨hw.1,by show E.i≤_; omega⟩,by show 4<E.L.hs.length; rw [hE.hs]; simp,hE.x1,by simp,Cl.getD_bd hE.xb 1,fun i=>(hE.tb i).1,by simp,by rintro (q | q | q)<;>simp at q,fun q=>by simp at q⟩
theorem Ep.Ok.okl2 (hE:E.Ok):Okl E.L.xs E.L.ds (E.L.hs,⟨E.h,E.i,sm E.key,2,E.num,(0,0),0,false⟩):=by
 have:=hE.okl.step (by unfold lready; rfl) (by unfold ldone; simp)
 rw [lstep1 rfl] at this
 exact this
theorem Ep.Ok.free (hE:E.Ok):lready E.L.ds (E.L.hs,⟨E.h,E.i,sm E.key,2,E.num,(0,0),0,false⟩)=true:=by
 have hn:tab E.L.ds E.num=E.d:=hE.now
 have hl:=hE.lk
 unfold lready
 rw [if_pos rfl]
 simp only [decide_eq_true_eq]
 rw [hn,hE.hs]
 unfold Lo.hol
 rw [List.getD_eq_getElem?_getD,List.getElem?_replicate]
 split<;>rfl
theorem Ep.Ok.okl3 (hE:E.Ok):Okl E.L.xs E.L.ds (E.hs,⟨E.h,E.i,sm E.key,3,E.num,E.d,E.lock,false⟩):=by
 have:=hE.okl2.step hE.free (by unfold ldone; simp)
 rw [lstep2 rfl] at this
 have hn:tab E.L.ds E.num=E.d:=hE.now
 simp only [hn] at this
 exact this
theorem Ep.Ok.okl5 (hE:E.Ok) {xs:List Int} {ds:List (Nat×Nat)} (hx:1<xs.length) (hd:ds=E.L.ds) (h1:0≤Cl.nth xs 1∧Cl.nth xs 1≤18446744073709551615):Okl xs ds (E.hs,E.H):=by
 have hw:=hE.wk
 have hl:=hE.lk
 subst hd
 refine ⟨sm_bd _,⟨hw.1,by show E.i≤_; omega⟩,by show 4<(E.L.hs.set E.lock E.i).length; rw [hE.hs]; simp,hx,?_,h1,fun i=>(hE.tb i).1,by simp,fun _=>⟨?_,hE.hol⟩,fun _=>by simp⟩
 · have:=Cl.getD_bd hE.xb 1
   show E.num≤_
   show (Cl.nth E.L.xs 1).toNat≤_
   omega
 · show E.lock<(E.L.hs.set E.lock E.i).length
   rw [hE.hs]
   simpa using hl
theorem nexts_lnk {ss:List Sl} (h:Nexts ss) (x y:Nat) (hy:y≤18446744073709551615):Nexts (lnk ss x y):=by
 unfold lnk
 by_cases hk:(x-1) % 65536<ss.length
 · exact h.set hk _ ⟨by simp only; omega,by simp only; omega⟩
 · rw [List.set_eq_of_length_le (by omega)]
   exact h
theorem Ep.Ok.word (hE:E.Ok):Wk.word E.L.xs E.c=E.word:=by
 have:=hE.cx
 unfold Wk.word
 rw [if_pos (by omega),Int.toNat_natCast]
theorem Ep.Ok.wordB (hE:E.Ok):E.word≤18446744073709551615:=by
 have:=Cl.getD_bd hE.xb E.c
 show (Cl.nth E.L.xs E.c).toNat≤_
 omega
theorem walk_load (hE:E.Ok) {F:Bool}:Wk.gstep E.L.xs E.L.ss (F,Wk.new 0 E.c (sm E.key) E.key)=(F,goTo {Wk.new 0 E.c (sm E.key) E.key with first:=E.word} E.word)∧Wk.gdone E.L.xs E.L.ss (F,Wk.new 0 E.c (sm E.key) E.key)=decide (E.word=0):=by
 have h:Wk.gstep E.L.xs E.L.ss (F,Wk.new 0 E.c (sm E.key) E.key)=(F,goTo {Wk.new 0 E.c (sm E.key) E.key with first:=E.word} E.word):=by
  unfold Wk.gstep
  simp only
  rw [if_pos (show (Wk.new 0 (E.c:Int) (sm E.key) E.key).nx=1 from rfl),show (Wk.new 0 (E.c:Int) (sm E.key) E.key).cell=(E.c:Int) from rfl,hE.word]
 refine ⟨h,?_⟩
 unfold Wk.gdone
 rw [h]
 exact goTo_nx _ _
theorem Rs.ok (hE:E.Ok) (h:Rs E k s):∃ r,Oks r s.1 s.2:=by
 have hsb:=sm_bd E.key
 have hbk:=bucket_bd (sm E.key) E.d.1 hsb.1
 have hd2:=(hE.tb E.num).2
 have hn:tab E.L.ds E.num=E.d:=hE.now
 rw [hn] at hd2
 have hc:=hE.cell
 cases h with
 | a1=>exact ⟨0,hsb,fun _=>hE.okl,fun _=>by simp [newSk],fun q=>absurd rfl q,hE.nexts,hE.tb⟩
 | a2=>exact ⟨0,hsb,fun _=>hE.okl2,fun _=>by simp,fun q=>absurd rfl q,hE.nexts,hE.tb⟩
 | a3=>exact ⟨0,hsb,fun _=>hE.okl3,fun _=>by rw [← hE.now]; exact hE.tb _,fun q=>absurd rfl q,hE.nexts,hE.tb⟩
 | w1=>exact ⟨0,hsb,fun q=>by simp at q,fun q=>by simp at q,fun _=>⟨by simp [Wk.new]; omega,by simp [Wk.new],by simp [Wk.new],by simp [Wk.new]⟩,hE.nexts,hE.tb⟩
 | w2 pre rest W h1 h2 h3 h4 h5 h6 h7 h8 h9 h10 h11 h12 h13 h14=>
   have hql:=hE.ql
   rw [h1,List.length_append] at hql
   exact ⟨0,hsb,fun q=>by simp at q,fun q=>by simp at q,fun _=>⟨by simp only [h11]; omega,h13,by simp only [h10]; omega,by simp only [h3]; omega⟩,hE.nexts,hE.tb⟩
theorem Rs.step (hE:E.Ok) (h:Rs E k s):sready s.1 s.2=true∧1≤k∧(sdone s.1 s.2=true→∃ W,Fnd E W∧(W.found=0→W.nd=.zero)∧sstep s.1 s.2=({E.L with hs:=E.hs},E.s E.H W))∧(sdone s.1 s.2=false→∃ j,j≤k-1∧Rs E j (sstep s.1 s.2)):=by
 have hn:tab E.L.ds E.num=E.d:=hE.now
 cases h with
 | a1=>
   refine ⟨rfl,by omega,fun q=>by rw [sdone1 rfl] at q; simp at q,fun _=>?_⟩
   have e:sstep E.L (newSk E.h E.i (sm E.key) E.key)=(E.L,E.n ⟨E.h,E.i,sm E.key,2,E.num,(0,0),0,false⟩):=by
    rw [sstep1 rfl]
    have e1:lstep E.L.xs E.L.ds (E.L.hs,(newSk E.h E.i (sm E.key) E.key).H)=(E.L.hs,⟨E.h,E.i,sm E.key,2,E.num,(0,0),0,false⟩):=lstep1 rfl
    have e2:ldone E.L.xs (E.L.hs,(newSk E.h E.i (sm E.key) E.key).H)=false:=by unfold ldone newSk; simp
    rw [e1,e2]
    rfl
   rw [e]
   exact ⟨_,by omega,.a2⟩
 | a2=>
   refine ⟨hE.free,by omega,fun q=>by rw [sdone1 rfl] at q; simp at q,fun _=>?_⟩
   have e:sstep E.L (E.n ⟨E.h,E.i,sm E.key,2,E.num,(0,0),0,false⟩)=({E.L with hs:=E.hs},E.n ⟨E.h,E.i,sm E.key,3,E.num,E.d,E.lock,false⟩):=by
    rw [sstep1 rfl]
    have e1:lstep E.L.xs E.L.ds (E.L.hs,(⟨E.h,E.i,sm E.key,2,E.num,(0,0),0,false⟩:Ho))=(E.hs,⟨E.h,E.i,sm E.key,3,E.num,E.d,E.lock,false⟩):=by
     rw [lstep2 rfl]
     simp only [hn]
    have e2:ldone E.L.xs (E.L.hs,(⟨E.h,E.i,sm E.key,2,E.num,(0,0),0,false⟩:Ho))=false:=by unfold ldone; simp
    simp only [e1,e2]
    rfl
   rw [e]
   exact ⟨_,by omega,.a3⟩
 | a3=>
   refine ⟨rfl,by omega,fun q=>by rw [sdone1 rfl] at q; simp at q,fun _=>?_⟩
   have hx1:Cl.nth E.L.xs 1=((E.num:Nat):Int):=by
    have:=Cl.getD_bd hE.xb 1
    show _=(((Cl.nth E.L.xs 1).toNat:Nat):Int)
    omega
   have hc:pcell (sm E.key) E.H=(E.c:Int):=by
    unfold pcell Gt.cellOf
    rw [if_pos rfl,if_neg hE.d0]
    exact hE.cell.symm
   have e:sstep {E.L with hs:=E.hs} (E.n ⟨E.h,E.i,sm E.key,3,E.num,E.d,E.lock,false⟩)=({E.L with hs:=E.hs},E.s E.H (Wk.new 0 E.c (sm E.key) E.key)):=by
    rw [sstep1 rfl]
    have e1:lstep E.L.xs E.L.ds (E.hs,(⟨E.h,E.i,sm E.key,3,E.num,E.d,E.lock,false⟩:Ho))=(E.hs,E.H):=lstep3 rfl hx1
    have e2:ldone E.L.xs (E.hs,(⟨E.h,E.i,sm E.key,3,E.num,E.d,E.lock,false⟩:Ho))=true:=by unfold ldone; exact decide_eq_true (.inl ⟨rfl,hx1⟩)
    simp only [e1,e2,if_true]
    show ({E.L with hs:=E.hs},({newSk E.h E.i (sm E.key) E.key with H:=E.H,cell:=pcell (sm E.key) E.H,W:=Wk.new 0 (pcell (sm E.key) E.H) (sm E.key) E.key,ph:=2}:Sk))=_
    rw [hc]
    rfl
   rw [e]
   exact ⟨_,by omega,.w1⟩
 | w1=>
   obtain ⟨g1,g2⟩:=walk_load hE (F:=E.L.F)
   have e:sstep {E.L with hs:=E.hs} (E.s E.H (Wk.new 0 E.c (sm E.key) E.key))=({E.L with hs:=E.hs},E.s E.H (goTo {Wk.new 0 E.c (sm E.key) E.key with first:=E.word} E.word)):=by
    rw [sstep2 rfl]
    simp only [g1]
   have ed:sdone {E.L with hs:=E.hs} (E.s E.H (Wk.new 0 E.c (sm E.key) E.key))=decide (E.word=0):=by
    rw [sdone2 rfl]
    simp only [g2]
   rw [e,ed]
   have hp:=hE.ch.pos
   refine ⟨sready2 (by simp),by omega,fun q=>?_,fun q=>?_⟩
   · have h0:E.word=0:=of_decide_eq_true q
     have hq:=hp.1 h0
     have hg:goTo {Wk.new 0 E.c (sm E.key) E.key with first:=E.word} E.word={Wk.new 0 E.c (sm E.key) E.key with first:=E.word,nx:=3}:=by unfold goTo; rw [if_pos h0]
     rw [hg]
     exact ⟨_,.inl ⟨rfl,by rw [hq]; simp,rfl⟩,fun _=>rfl,rfl⟩
   · have h0:¬E.word=0:=of_decide_eq_false q
     have hg:goTo {Wk.new 0 E.c (sm E.key) E.key with first:=E.word} E.word={Wk.new 0 E.c (sm E.key) E.key with first:=E.word,at_:=E.word,nx:=2}:=by unfold goTo; rw [if_neg h0]
     rw [hg]
     exact ⟨E.q.length,by omega,.w2 [] E.q {Wk.new 0 E.c (sm E.key) E.key with first:=E.word,at_:=E.word,nx:=2} rfl (fun q=>h0 (hp.2 q)) rfl hE.ch rfl rfl rfl rfl rfl rfl rfl (by simp) hE.wordB rfl⟩
 | w2 pre rest W h1 h2 h3 h4 h5 h6 h7 h8 h9 h10 h11 h12 h13 h14=>
   obtain ⟨e0,t,rfl⟩:∃ e t,rest=e::t:=by
    cases rest with
    | nil=>exact absurd rfl h2
    | cons e t=>exact ⟨e,t,rfl⟩
   obtain ⟨x,p⟩:=e0
   have hx:W.at_=x:=h4.head
   rw [hx] at h4
   obtain ⟨kk,z,hk,hnd,hc⟩:=h4.tail
   have hpl:=(pl_some hE.len).2 hk
   have hit_iff:hit W (ndp p z)=decide (p.1=E.key):=by
    unfold hit ndp
    simp only [h5,h6,decide_eq_decide]
    exact ⟨fun q=>q.2,fun q=>⟨by rw [q],q⟩⟩
   have hzb:z≤18446744073709551615:=by
    have:=(hE.nexts kk).2
    rw [hnd] at this
    unfold ndp at this
    simp only at this
    omega
   have g1:Wk.gstep E.L.xs E.L.ss (E.L.F,W)=(E.L.F,looks W (ndp p z)):=by
    unfold Wk.gstep
    simp only
    rw [if_neg (by omega),if_pos h3,hx,hpl]
    show (E.L.F,looks W (at' E.L.ss kk).nd)=_
    rw [hnd]
   have g2:Wk.gdone E.L.xs E.L.ss (E.L.F,W)=(decide (p.1=E.key)||decide (z=0)):=by
    unfold Wk.gdone
    rw [g1]
    show decide (3≤(looks W (ndp p z)).nx)=_
    rw [looks_nx]
    unfold lookD
    rw [hit_iff]
    rfl
   have e:sstep {E.L with hs:=E.hs} (E.s E.H W)=({E.L with hs:=E.hs},E.s E.H (looks W (ndp p z))):=by
    rw [sstep2 rfl]
    simp only [g1]
   have ed:sdone {E.L with hs:=E.hs} (E.s E.H W)=(decide (p.1=E.key)||decide (z=0)):=by
    rw [sdone2 rfl]
    simp only [g2]
   rw [e,ed]
   simp only [List.length_cons]
   refine ⟨sready2 (by simp),by omega,fun q=>?_,fun q=>?_⟩
   · by_cases hkey:p.1=E.key
     · have hl:looks W (ndp p z)={W with read:=W.read+1,found:=W.at_,nd:=ndp p z,nx:=3}:=by
        unfold looks
        rw [hit_iff,if_pos (by simp [hkey])]
       rw [hl]
       exact ⟨{W with read:=W.read+1,found:=W.at_,nd:=ndp p z,nx:=3},.inr ⟨pre,x,p,t,z,kk,h1,hkey,hx,hk,hnd,rfl,hc,h8⟩,fun q=>absurd (hx▸q) hk.pos,rfl⟩
     · have h0:z=0:=by simpa [hkey] using q
       have hl:looks W (ndp p z)=goTo {W with read:=W.read+1,prev:=W.at_} z:=by
        unfold looks
        rw [hit_iff,if_neg (by simp [hkey])]
        rfl
       rw [hl]
       have hqq:E.q=(pre++[(x,p)])++t:=by rw [h1]; simp
       have hky:E.key∉kys (pre++[(x,p)]):=by
        simp only [kys,List.map_append,List.map_cons,List.map_nil,List.mem_append,List.mem_singleton]
        rintro (q | q)
        · exact h12 q
        · exact hkey q.symm
       have ht:=hc.pos.1 h0
       have hg:goTo {W with read:=W.read+1,prev:=W.at_} z={W with read:=W.read+1,prev:=W.at_,nx:=3}:=by unfold goTo; rw [if_pos h0]
       rw [hg]
       refine ⟨{W with read:=W.read+1,prev:=W.at_,nx:=3},.inl ⟨h9,?_,h7⟩,fun _=>h14,rfl⟩
       rw [hqq,ht,List.append_nil]
       exact hky
   · have hkey:¬p.1=E.key:=fun e=>by simp [e] at q
     have h0:¬z=0:=fun e=>by simp [e] at q
     have hl:looks W (ndp p z)=goTo {W with read:=W.read+1,prev:=W.at_} z:=by
      unfold looks
      rw [hit_iff,if_neg (by simp [hkey])]
      rfl
     rw [hl]
     have hqq:E.q=(pre++[(x,p)])++t:=by rw [h1]; simp
     have hky:E.key∉kys (pre++[(x,p)]):=by
      simp only [kys,List.map_append,List.map_cons,List.map_nil,List.mem_append,List.mem_singleton]
      rintro (q | q)
      · exact h12 q
      · exact hkey q.symm
     have hg:goTo {W with read:=W.read+1,prev:=W.at_} z={W with read:=W.read+1,prev:=W.at_,at_:=z,nx:=2}:=by unfold goTo; rw [if_neg h0]
     rw [hg]
     exact ⟨t.length,by omega,.w2 (pre++[(x,p)]) t {W with read:=W.read+1,prev:=W.at_,at_:=z,nx:=2} hqq (fun q=>h0 (hc.pos.2 q)) rfl hc h5 h6 h7 (by rw [lastH_snoc]; exact hx) h9 (by simp [h10]) h11 hky hzb h14⟩
theorem Fnd.okd {W:Wa} (hE:E.Ok) (h:Fnd E W) {L:Lm} {H:Ho} {y:Nat} (hy:y≤18446744073709551615) (hx:E.c<L.xs.length) (hs:∀ x j,IsAt E.L.ss x j→IsAt L.ss x j):Okd L (E.s H W) y:=by
 refine ⟨hy,fun hl=>?_,fun _=>⟨by simp only; omega,by simp only; omega⟩⟩
 simp only at hl
 rcases h with ⟨h0,_⟩ | ⟨pre,x,p,t,z,kk,hq,hp,hx,hk,hnd,hW,hc,hpv⟩
 · exact absurd h0 hl.1
 · have hne:pre≠[]:=by
    rintro rfl
    exact hl.2 hpv
   obtain ⟨p0,e,rfl⟩:∃ p0 e,pre=p0++[e]:=⟨pre.dropLast,pre.getLast hne,(List.dropLast_concat_getLast hne).symm⟩
   rw [lastH_snoc] at hpv
   have hch:=hE.ch
   rw [hq] at hch
   obtain ⟨j,_,hj,_⟩:=hch.at e (by simp)
   refine ⟨?_,j,?_⟩
   · show W.prev≤_
     rw [hpv,hj.2.2]
     have:=hE.gen j
     have:=hj.1
     have:=hE.len
     omega
   · show IsAt L.ss W.prev j
     rw [hpv]
     exact hs _ _ hj
end
end Go.Proofs.YtpobbnllcoabhaaGreat.Pu
namespace Go.Proofs.YtpobbnllcoabhaaGreat.Pu
open Go Go.RowKit Hp K Fl Rw Hm Ar Mm Me Wk Ta Pn Pc
set_option maxRecDepth 100000
section
variable {w w':World} {M:Mo} {a:Qa} {P:Pt}
theorem err_any (h:PuAt w a P):Calls Tryz.prog 88 #[ptr a.f] w fun e w'=>e=.returned (.int .i64 P.err)∧w=w':=by
 have c:=h.hd.2.2.2.2.2.1
 clear h
 go_enter Tryz.func88,Tryz.ntmps88
 go_wp2
 go_ret
 exact ⟨rfl,rfl⟩
theorem mine_any (h:PuAt w a P):Calls Tryz.prog 273 #[ptr a.f] w fun e w'=>e=.returned (.int .u64 P.mine)∧w=w':=by
 have c:=h.hd.2.2.2.2.2.2
 clear h
 go_enter Tryz.func273,Tryz.ntmps273
 go_wp2
 go_ret
 exact ⟨rfl,rfl⟩
theorem had_any (h:PuAt w a P):Calls Tryz.prog 89 #[ptr a.f] w fun e w'=>e=.returned (.bool (decide (P.W.found≠0)))∧Below w.heap.size w w':=by
 have c:=h.hd.2.2.2.1
 have hR:=found_sk h.2
 unfold ndv at hR
 generalize decide (P.W.found≠0)=b at*
 generalize P.W.found=x at*
 generalize P.W.nd=n at*
 obtain ⟨nk,nv,ns,nn⟩:=n
 simp only at hR
 replace hR:=Lib.hid hR
 clear h
 go_enter Tryz.func89,Tryz.ntmps89
 go_wp2_with fail
 refine hR.out.mono ?_
 rintro e w1 ⟨rfl,hb⟩
 have hb2:=Lib.hid ((hb.alloc (o:=.cells #[.string nk,.string nv,.int .u32 ns,.int .u64 nn] 88) hb.size))
 clear c hb
 go_wp2_with fail
 go_ret
 exact ⟨rfl,hb2.out⟩
theorem follower_any (h:PuAt w a P):Calls Tryz.prog 159 #[ptr a.f] w fun e w'=>e=.returned (.int .u64 (fol P.W))∧Below w.heap.size w w':=by
 have c7:=h.hd.2.2.2.1
 have hR:=found_sk h.2
 have HP:=Lib.hid h
 unfold ndv at hR
 unfold fol
 by_cases h0:P.W.found≠0
 · rw [if_pos h0]
   rw [decide_eq_true h0] at hR
   generalize P.W.found=x at*
   generalize P.W.nd=n at*
   obtain ⟨nk,nv,ns,nn⟩:=n
   simp only at hR ⊢
   replace hR:=Lib.hid hR
   clear h h0
   go_enter Tryz.func159,Tryz.ntmps159
   go_wp2_with fail
   refine hR.out.mono ?_
   rintro e w1 ⟨rfl,hb⟩
   have hb2:=Lib.hid ((hb.alloc (o:=.cells #[.string nk,.string nv,.int .u32 ns,.int .u64 nn] 88) hb.size))
   clear c7 hb
   go_wp2_with fail
   go_ret
   exact ⟨rfl,hb2.out⟩
 · rw [if_neg h0]
   rw [decide_eq_false h0] at hR
   generalize P.W.found=x at*
   generalize P.W.nd=n at*
   obtain ⟨nk,nv,ns,nn⟩:=n
   simp only at hR
   replace hR:=Lib.hid hR
   clear h h0
   go_enter Tryz.func159,Tryz.ntmps159
   go_wp2_with fail
   refine hR.out.mono ?_
   rintro e w1 ⟨rfl,hb⟩
   obtain ⟨w2,hw2⟩:∃ w2,w2=w1.alloc (.cells #[.string nk,.string nv,.int .u32 ns,.int .u64 nn] 88):=⟨_,rfl⟩
   have hb2:Below w.heap.size w w2:=by rw [hw2]; exact hb.alloc hb.size _
   have hP2:=HP.out.below hb2
   have d7:=hP2.hd.2.2.2.1
   have k7:=(HP.out.below hb).hd.2.2.2.1
   have lf1:=(HP.out.below hb).1.lt
   have hF2:=Lib.hid (first_sk hP2.2)
   replace hb2:=Lib.hid hb2
   clear hP2 hb c7
   go_wp2_with fail
   rw [← hw2]
   clear hw2
   refine hF2.out.mono ?_
   rintro e w3 ⟨rfl,rfl⟩
   clear hF2 d7 k7
   go_wp2_with fail
   go_ret
   exact ⟨rfl,hb2.out⟩
theorem PuAt.took (h:PuAt w a P) (x:Nat) (c:Int):PuAt ((w.setCell ⟨a.f,6,none⟩ (.int .u64 x)).setCell ⟨a.f,5,none⟩ (.int .i64 c)) a {P with mine:=x,err:=c}∧Only (·=a.f) w ((w.setCell ⟨a.f,6,none⟩ (.int .u64 x)).setCell ⟨a.f,5,none⟩ (.int .i64 c)):=by
 have ho:=((Only.refl (·=a.f) w).setCell (p:=⟨a.f,6,none⟩) (.inl rfl) (.int .u64 x)).setCell (p:=⟨a.f,5,none⟩) (.inl rfl) (.int .i64 c)
 exact ⟨h.own (by simpa [puc] using (h.1.store 6 (.int .u64 x)).store 5 (.int .i64 c)) ho rfl,ho⟩
set_option maxHeartbeats 2000000 in
theorem take_ok (hM:MemAt w M) (h:PuAt w a P) {m:Nat} (hm:Least M.ss m) (hg:(at' M.ss m).gen≤1000000) (h3:P.nx=3):
 Calls Tryz.prog 127 #[ptr a.f,ptr M.m] w fun e w'=>e=.returned (.bool false)∧Stp w M a P (pstep (lm M) P).1 (pstep (lm M) P).2 w':=by
 have e:pstep (lm M) P=({lm M with ss:=M.ss.set m ⟨true,(at' M.ss m).gen,⟨P.key,P.val,P.sum,fol P.W⟩⟩},{P with mine:=(at' M.ss m).gen*65536+m+1,err:=0,nx:=4}):=by
  unfold pstep
  rw [if_neg (by omega),if_pos h3]
  simp only [freePl_some.2 hm]
 rw [e]
 simp only
 have hF:=Lib.hid (fun n=>(follower_any (h.drewN n)).mono fun e w2 q=>show e=.returned (.int .u64 (fol P.W))∧Below w.heap.size w w2 from ⟨q.1,(show Below w.heap.size w (w.drewN n) from ⟨rfl,rfl,rfl,Nat.le_refl _,fun _ _=>rfl⟩).trans q.2⟩)
 have hA:=fun w1 (hb1:Below w.heap.size w w1)=>(alloc_ok (hM.below hb1).2.2.2.1 ⟨P.key,P.val,P.sum,fol P.W⟩ m hm hg).mono fun e w2 q=>
  show e=.returned (.tuple #[.int .u64 ((at' M.ss m).gen*65536+m+1:Nat),.int .i64 0])∧(MemAt w2 {M with ss:=M.ss.set m ⟨true,(at' M.ss m).gen,⟨P.key,P.val,P.sum,fol P.W⟩⟩}∧PuAt w2 a P∧Only (mfoot M) w w2) from
   ⟨q.1,(hM.below hb1).arena q.2.1 q.2.2,(h.below hb1).only q.2.2 (fun x hx q=>h.far hM hx (foot_arena _ q)),(Only.ofBelow hb1 _).trans (q.2.2.mono fun x _ q=>foot_arena _ q)⟩
 unfold ndv at hA
 obtain ⟨c0,c1,c2,_⟩:=h.hd
 have d2:=hM.hd.2.2.1
 have lf:=h.1.lt
 have lM:=hM.1.lt
 have bc:=Lib.hid (fun w1 (hb:Below w.heap.size w w1)=>show w1.cell? ⟨M.m,2,none⟩=some (ptr M.ar)∧w1.cell? ⟨a.f,0,none⟩=some (.string P.key)∧w1.cell? ⟨a.f,1,none⟩=some (.string P.val)∧w1.cell? ⟨a.f,2,none⟩=some (.int .u32 P.sum) from
  ⟨(hb.cell (p:=⟨M.m,2,none⟩) lM).trans d2,(hb.cell (p:=⟨a.f,0,none⟩) lf).trans c0,(hb.cell (p:=⟨a.f,1,none⟩) lf).trans c1,(hb.cell (p:=⟨a.f,2,none⟩) lf).trans c2⟩)
 generalize (at' M.ss m).gen*65536+m+1=x at*
 generalize M.ss.set m ⟨true,(at' M.ss m).gen,⟨P.key,P.val,P.sum,fol P.W⟩⟩=ss' at*
 have hfar:=Lib.hid (h.far hM (.inl rfl))
 have hfm:=Lib.hid (show M.m≠a.f from fun e=>h.far hM (.inl e) (.inl rfl))
 generalize fol P.W=fw at*
 replace hA:=Lib.hid hA
 replace h3:=Lib.hid h3
 clear hM h hm hg e
 have hne1:M.m≠a.f:=hfm.out
 have hne2:a.f≠M.m:=fun e=>hfm.out e.symm
 go_enter Tryz.func127,Tryz.ntmps127
 go_wp2_with fail
 go_region_held3 (fun w'=>w'.cell? ⟨M.m,2,none⟩=some (ptr M.ar)∧w'.cell? ⟨a.f,0,none⟩=some (.string P.key)∧w'.cell? ⟨a.f,1,none⟩=some (.string P.val)∧w'.cell? ⟨a.f,2,none⟩=some (.int .u32 P.sum)) ((go_split_ands; (refine ⟨?_,?_,?_,?_⟩<;>simp [World.cell?_setCell_other, *])))
  (first
    | (go_at_call 159
       refine (hF.out 1).mono ?_
       rintro e w2 ⟨rfl,hb2⟩
       have hA2:=Lib.hid (hA.out w2 hb2)
       obtain ⟨t1,t2,t3,t4⟩:=bc.out w2 hb2
       clear hb2)
    | (go_at_call 158
       refine hA2.out.mono ?_
       rintro e w3 ⟨rfl,hM3,hP3,hO3⟩
       obtain ⟨s0,s1,s2,_⟩:=hP3.hd
       have s3:=hM3.hd.2.2.1
       have s4:=hP3.hd.2.2.2.2.1
       have s8:=hP3.hd.2.2.2.2.2.1
       have s9:=hP3.hd.2.2.2.2.2.2
       have y4:=hP3.frz 4
       have y8:=hP3.frz 5
       have y9:=hP3.frz 6
       simp only at s3
       have hT:=hP3.took x 0
       have hN:=Lib.hid (hT.1.next 4)
       have hO4:=hT.2.setCell (p:=⟨a.f,4,none⟩) (.inl rfl) (pnv 4 a.f)
       have hM4:=Lib.hid (hM3.only hO4 (fun x hx q=>hfar.out (q▸hx)))
       have hO04:Hid (Only (fun x=>mfoot M x∨pfoot a P x) w _):=Lib.hid ((hO3.mono (fun x _ q=>(.inl q:mfoot M x∨pfoot a P x))).trans' hO4 (fun x _ q=>.inr (.inl q)))
       clear hM3 hP3 hO3 hT hO4 hA2))
 all_goals
  clear hne1 hne2
  go_wp2_with fail
  go_ret
  exact ⟨rfl,_,a,hM4.out,rfl,⟨rfl,rfl,rfl,rfl,fun _ q=>.inl q⟩,hN.out,rfl,pfoot_eq rfl rfl,hO04.out⟩
set_option maxHeartbeats 2000000 in
theorem take_full (hM:MemAt w M) (h:PuAt w a P) (hm:∀ k,k<M.ss.length→(at' M.ss k).taken=true) (h3:P.nx=3):
 Calls Tryz.prog 127 #[ptr a.f,ptr M.m] w fun e w'=>e=.returned (.bool false)∧Stp w M a P (pstep (lm M) P).1 (pstep (lm M) P).2 w':=by
 have e:pstep (lm M) P=(lm M,{P with mine:=0,err:=4,nx:=6}):=by
  unfold pstep
  rw [if_neg (by omega),if_pos h3]
  simp only [freePl_none.2 hm]
 rw [e]
 simp only
 have hF:=Lib.hid (fun n=>(follower_any (h.drewN n)).mono fun e w2 q=>show e=.returned (.int .u64 (fol P.W))∧Below w.heap.size w w2 from ⟨q.1,(show Below w.heap.size w (w.drewN n) from ⟨rfl,rfl,rfl,Nat.le_refl _,fun _ _=>rfl⟩).trans q.2⟩)
 have hA:=fun w1 (hb1:Below w.heap.size w w1)=>(alloc_full (hM.below hb1).2.2.2.1 ⟨P.key,P.val,P.sum,fol P.W⟩ hm).mono fun e w2 q=>
  show e=.returned (.tuple #[.int .u64 0,.int .i64 4])∧(MemAt w2 M∧PuAt w2 a P∧Below w.heap.size w w2) from
   ⟨q.1,(hM.below hb1).below q.2,(h.below hb1).below q.2,hb1.trans (q.2.mono hb1.size)⟩
 unfold ndv at hA
 obtain ⟨c0,c1,c2,_⟩:=h.hd
 have d2:=hM.hd.2.2.1
 have lf:=h.1.lt
 have lM:=hM.1.lt
 have bc:=Lib.hid (fun w1 (hb:Below w.heap.size w w1)=>show w1.cell? ⟨M.m,2,none⟩=some (ptr M.ar)∧w1.cell? ⟨a.f,0,none⟩=some (.string P.key)∧w1.cell? ⟨a.f,1,none⟩=some (.string P.val)∧w1.cell? ⟨a.f,2,none⟩=some (.int .u32 P.sum) from
  ⟨(hb.cell (p:=⟨M.m,2,none⟩) lM).trans d2,(hb.cell (p:=⟨a.f,0,none⟩) lf).trans c0,(hb.cell (p:=⟨a.f,1,none⟩) lf).trans c1,(hb.cell (p:=⟨a.f,2,none⟩) lf).trans c2⟩)
 have hfar:=Lib.hid (h.far hM (.inl rfl))
 have hfm:=Lib.hid (show M.m≠a.f from fun e=>h.far hM (.inl e) (.inl rfl))
 generalize fol P.W=fw at*
 replace hA:=Lib.hid hA
 replace h3:=Lib.hid h3
 clear hM h hm e
 have hne1:M.m≠a.f:=hfm.out
 have hne2:a.f≠M.m:=fun e=>hfm.out e.symm
 go_enter Tryz.func127,Tryz.ntmps127
 go_wp2_with fail
 go_region_held3 (fun w'=>w'.cell? ⟨M.m,2,none⟩=some (ptr M.ar)∧w'.cell? ⟨a.f,0,none⟩=some (.string P.key)∧w'.cell? ⟨a.f,1,none⟩=some (.string P.val)∧w'.cell? ⟨a.f,2,none⟩=some (.int .u32 P.sum)) ((go_split_ands; (refine ⟨?_,?_,?_,?_⟩<;>simp [World.cell?_setCell_other, *])))
  (first
    | (go_at_call 159
       refine (hF.out 1).mono ?_
       rintro e w2 ⟨rfl,hb2⟩
       have hA2:=Lib.hid (hA.out w2 hb2)
       obtain ⟨t1,t2,t3,t4⟩:=bc.out w2 hb2
       clear hb2)
    | (go_at_call 158
       refine hA2.out.mono ?_
       rintro e w3 ⟨rfl,hM3,hP3,hO3⟩
       obtain ⟨s0,s1,s2,_⟩:=hP3.hd
       have s3:=hM3.hd.2.2.1
       have s4:=hP3.hd.2.2.2.2.1
       have s8:=hP3.hd.2.2.2.2.2.1
       have s9:=hP3.hd.2.2.2.2.2.2
       have y4:=hP3.frz 4
       have y8:=hP3.frz 5
       have y9:=hP3.frz 6
       have hT:=hP3.took 0 4
       have hN4:=hT.1.next 4
       have hN:=Lib.hid (hN4.next 6)
       have hO4:=(hT.2.setCell (p:=⟨a.f,4,none⟩) (.inl rfl) (pnv 4 a.f)).setCell (p:=⟨a.f,4,none⟩) (.inl rfl) (pnv 6 a.f)
       have hM4:=Lib.hid (hM3.only hO4 (fun x hx q=>hfar.out (q▸hx)))
       have hO04:Hid (Only (fun x=>mfoot M x∨pfoot a P x) w _):=Lib.hid ((Only.ofBelow hO3 (fun x=>mfoot M x∨pfoot a P x)).trans' hO4 (fun x _ q=>.inr (.inl q)))
       clear hM3 hP3 hO3 hT hO4 hA2 hN4))
 all_goals
  clear hne1 hne2
  go_wp2_with fail
  go_ret
  exact ⟨rfl,_,a,hM4.out,rfl,⟨rfl,rfl,rfl,rfl,fun _ q=>.inl q⟩,hN.out,rfl,pfoot_eq rfl rfl,hO04.out⟩
end
def newPut (h:Nat) (k:Int) (key val:ByteArray):Pt:=⟨newSk h k (sm key) key,val,2,0,0⟩
set_option maxHeartbeats 1000000 in
theorem new_any (k:Int) (key val:ByteArray) (hk:key.size≤maxLen) (w:World):
 Calls Tryz.prog 76 #[.int .i64 k,.string key,.string val] w fun e w'=>∃ (a:Qa) (h:Nat),e=.returned (ptr a.f)∧PuAt w' a (newPut h k key val)∧(∀ x,pfoot a (newPut h k key val) x→w.heap.size≤x)∧Below w.heap.size w w':=by
 have hS:=Lib.hid (Fnv.sum_any key w hk)
 unfold newPut sm
 generalize hs:FM.sum key.data.toList=s at*
 replace hs:=Lib.hid hs
 go_enter Tryz.func76,Tryz.ntmps76
 go_wp2_with fail
 refine hS.out.mono ?_
 rintro e w0 ⟨rfl,hw⟩
 obtain rfl:w=w0:=hw.symm
 clear hS hw
 obtain ⟨w1,hw1⟩:∃ w1,w1=w.alloc (.cells #[.string key,.string val,.int .u32 s,.pointer none,.nilFunc,.int .i64 0,.int .u64 0] 188):=⟨_,rfl⟩
 have hF1:Blk w1 w.heap.size 188 #[.string key,.string val,.int .u32 s,.pointer none,.nilFunc,.int .i64 0,.int .u64 0]:=by rw [hw1]; exact Blk.made w _ _
 have hB1:Below w.heap.size w w1:=by rw [hw1]; exact (Below.refl _ _).alloc (Nat.le_refl _) _
 have hl1:w1.heap.size=w.heap.size+1:=by rw [hw1]; simp
 obtain ⟨f,hf⟩:∃ f,f=w.heap.size:=⟨_,rfl⟩
 rw [← hf] at hF1
 have hfw:w.heap.size≤f∧f<w1.heap.size:=by omega
 have hN:=Lib.hid (new_seek k s key w1)
 have c2:=hF1.cell 2
 simp at c2
 replace hF1:=Lib.hid hF1
 replace hB1:=Lib.hid hB1
 replace hl1:=Lib.hid hl1
 go_upto_region 2 with (fail)
 rw [← hw1,← hf]
 clear hw1 hf
 go_wp2_with fail
 refine hN.out.mono ?_
 rintro e w2 ⟨a,h,rfl,hS2,hlo2,hB2⟩
 have hF2:=hF1.out.only (Only.ofBelow hB2 (fun _=>False)) (by simp)
 have hB02:=hB1.out.trans (hB2.mono hB1.out.size)
 have k3:=hF2.cell 3
 have k4:=hF2.cell 4
 simp at k3 k4
 have z3:=hF2.frozen 3
 have z4:=hF2.frozen 4
 have hB4:=Lib.hid ((hB02.setCell (p:=⟨f,3,none⟩) hfw.1 (ptr a.f)).setCell (p:=⟨f,4,none⟩) hfw.1 (wfm 101 (ptr f)))
 have hO:=((Only.refl (·=f) w2).setCell (p:=⟨f,3,none⟩) (.inl rfl) (ptr a.f)).setCell (p:=⟨f,4,none⟩) (.inl rfl) (wfm 101 (ptr f))
 have hne:∀ x,sfoot a (newSk h k s key) x→¬x=f:=fun x hx e=>by have:=hlo2 x hx; omega
 have hE:Hid (PuAt ((w2.setCell ⟨f,3,none⟩ (ptr a.f)).setCell ⟨f,4,none⟩ (wfm 101 (ptr f))) ⟨f,a.f,a.w⟩ ⟨newSk h k s key,val,2,0,0⟩):=Lib.hid
  ⟨(hF2.store 3 (ptr a.f)).store 4 (wfm 101 (ptr f)),hS2.only hO hne⟩
 have hlow:Hid (∀ x,pfoot ⟨f,a.f,a.w⟩ ⟨newSk h k s key,val,2,0,0⟩ x→w.heap.size≤x):=Lib.hid (by
  have hz:=hB1.out.size
  rintro x (q | q)
  · simp only at q; omega
  · exact Nat.le_trans hz (hlo2 x q))
 clear hN hF1 hB1 hl1 hF2 hB02 hB2 hO hne hS2 hlo2 c2
 go_wp2_with fail
 go_ret
 exact ⟨_,_,rfl,hE.out,hlow.out,hB4.out⟩
end Go.Proofs.YtpobbnllcoabhaaGreat.Pu
namespace Go.Proofs.YtpobbnllcoabhaaGreat.Pu
open Go Go.RowKit Hp K Fl Rw Hm Ar Mm Me Wk Ta Pn Pc
set_option maxRecDepth 100000
theorem pstep_fm {w:World} {F f:Nat} {cv m:Value} {c:Bool} {P:World→Prop} (c4:w.cell? ⟨f,4,none⟩=some (wfm F cv)) (eF:∀ args w,(callFunc F args).run Tryz.prog w=.ok (.enter F args) w)
 (hF:Calls Tryz.prog F #[cv,m] w fun e w'=>e=.returned (.bool c)∧P w'):Calls Tryz.prog 275 #[ptr f,m] w fun e w'=>e=.returned (.bool c)∧P w':=by
 replace hF:=Lib.hid hF
 go_enter Tryz.func275,Tryz.ntmps275
 go_wp2_with fail
 refine hF.out.mono ?_
 rintro e w' ⟨rfl,hPw⟩
 replace hPw:=Lib.hid hPw
 clear c4
 go_wp2_with fail
 go_ret
 exact ⟨rfl,hPw.out⟩
theorem enters_p2 (args:Array Value) (w:World):(callFunc 101 args).run Tryz.prog w=.ok (.enter 101 args) w:=by kernel_rfl
theorem enters_p3 (args:Array Value) (w:World):(callFunc 127 args).run Tryz.prog w=.ok (.enter 127 args) w:=by kernel_rfl
theorem enters_p4 (args:Array Value) (w:World):(callFunc 160 args).run Tryz.prog w=.ok (.enter 160 args) w:=by kernel_rfl
theorem enters_p5 (args:Array Value) (w:World):(callFunc 182 args).run Tryz.prog w=.ok (.enter 182 args) w:=by kernel_rfl
theorem enters_p6 (args:Array Value) (w:World):(callFunc 129 args).run Tryz.prog w=.ok (.enter 129 args) w:=by kernel_rfl
section
variable {w w':World} {M:Mo} {a:Qa} {P:Pt}
theorem put_ready (hM:MemAt w M) (h:PuAt w a P) (hl:P.ph=1→Okl M.xs M.ds (M.hs,P.H)):Calls Tryz.prog 274 #[ptr a.f,ptr M.m] w fun e w'=>e=.returned (.bool (pready (lm M) P))∧Below w.heap.size w w':=by
 have c3:=h.hd.2.2.2.1
 have hR:=sk_ready hM h.2 hl
 unfold pready
 generalize sready (lm M) P.toSk=b at*
 replace hR:=Lib.hid hR
 clear hM h hl
 go_enter Tryz.func274,Tryz.ntmps274
 go_wp2_with fail
 refine hR.out.mono ?_
 rintro e w' ⟨rfl,hb⟩
 replace hb:=Lib.hid hb
 clear c3
 go_wp2_with fail
 go_ret
 exact ⟨rfl,hb.out⟩
theorem put_step (hM:MemAt w M) (h:PuAt w a P) (ok:Okp (lm M) P) (hr:pready (lm M) P=true):
 Calls Tryz.prog 275 #[ptr a.f,ptr M.m] w fun e w'=>e=.returned (.bool (pdone (lm M) P))∧Stp w M a P (pstep (lm M) P).1 (pstep (lm M) P).2 w':=by
 have c4:=h.hd.2.2.2.2.1
 unfold pnv at c4
 have hnx:=ok.nx
 unfold pdone
 by_cases e2:P.nx=2
 · rw [if_pos e2] at c4
   rw [show decide (6≤P.nx)=false by simp; omega]
   obtain ⟨r,o⟩:=ok.sk e2
   exact pstep_fm c4 enters_p2 (goTo_any hM h o hr e2)
 rw [if_neg e2] at c4
 by_cases e3:P.nx=3
 · rw [if_pos e3] at c4
   rw [show decide (6≤P.nx)=false by simp; omega]
   cases hf:freePl M.ss with
   | some m=>exact pstep_fm c4 enters_p3 (take_ok hM h (freePl_some.1 hf) (ok.gen e3 m) e3)
   | none=>exact pstep_fm c4 enters_p3 (take_full hM h (freePl_none.1 hf) e3)
 rw [if_neg e3] at c4
 by_cases e4:P.nx=4
 · rw [if_pos e4] at c4
   rw [show decide (6≤P.nx)=false by simp; omega]
   exact pstep_fm c4 enters_p4 (putIn_step hM h (ok.lead e4) e4)
 rw [if_neg e4] at c4
 by_cases e5:P.nx=5
 · rw [if_pos e5] at c4
   rw [show decide (6≤P.nx)=false by simp; omega]
   exact pstep_fm c4 enters_p5 (retire_step hM h (ok.ret e5) e5)
 rw [if_neg e5] at c4
 have e6:P.nx=6:=by omega
 rw [if_pos e6] at c4
 rw [show decide (6≤P.nx)=true by simp; omega]
 exact pstep_fm c4 enters_p6 (drop_step hM h (ok.drop e6).1 (ok.drop e6).2 e6)
end
theorem put_frm:Frm puL 158 274 275 Okp pready pstep pdone where
 below h hb:=h.below hb
 mr b w f:=by kernel_rfl
 ms b w f:=by kernel_rfl
 er args w:=by kernel_rfl
 es args w:=by kernel_rfl
 ready {w M a p} hM h ok:=put_ready hM h (fun q=>by
  by_cases e2:p.nx=2
  · obtain ⟨r,o⟩:=ok.sk e2
    exact o.hd q
  · exact absurd q (ok.ph e2))
 step hM h ok hr:=put_step hM h ok hr
end Go.Proofs.YtpobbnllcoabhaaGreat.Pu
namespace Go.Proofs.YtpobbnllcoabhaaGreat.Pu
open Go Go.RowKit Hp K Fl Rw Hm Ar Mm Me Wk Ta Pn Pc Mq
set_option maxRecDepth 100000
section
variable {L:Lm} {P:Pt}
theorem pstep2 (h:P.nx=2):pstep L P=((sstep L P.toSk).1,{P with toSk:=(sstep L P.toSk).2,nx:=if sdone L P.toSk=true then (if (sstep L P.toSk).2.cell= -1 then 6 else 3) else 2}):=by
 unfold pstep; rw [if_pos h]
theorem pstep3 (h:P.nx=3) {m:Nat} (hm:Least L.ss m):pstep L P=({L with ss:=L.ss.set m ⟨true,(at' L.ss m).gen,⟨P.key,P.val,P.sum,fol P.W⟩⟩},{P with mine:=(at' L.ss m).gen*65536+m+1,err:=0,nx:=4}):=by
 unfold pstep; rw [if_neg (by omega),if_pos h]; simp only [freePl_some.2 hm]
theorem pstep3n (h:P.nx=3) (hm:freePl L.ss=none):pstep L P=(L,{P with mine:=0,err:=4,nx:=6}):=by
 unfold pstep; rw [if_neg (by omega),if_pos h]; simp only [hm]
theorem pstep4 (h:P.nx=4):pstep L P=(slead L P.toSk P.mine,{P with mine:=P.W.found,nx:=if P.W.found≠0 then 5 else 6}):=by
 unfold pstep; rw [if_neg (by omega),if_neg (by omega),if_pos h]
theorem pstep5 (h:P.nx=5):pstep L P=({L with ws:=L.ws++[P.mine]},{P with mine:=0,nx:=6}):=by
 unfold pstep; rw [if_neg (by omega),if_neg (by omega),if_neg (by omega),if_pos h]
theorem pstep6 (h:P.nx=6):pstep L P=({L with hs:=L.hs.set P.H.lock (-1)},{P with H:={P.H with holds:=false},nx:=7}):=by
 unfold pstep; rw [if_neg (by omega),if_neg (by omega),if_neg (by omega),if_neg (by omega)]
end
abbrev Ep.new (E:Ep) (m:Nat):Nat:=(at' E.L.ss m).gen*65536+m+1
abbrev Ep.ss (E:Ep) (W:Wa) (m:Nat):List Sl:=E.L.ss.set m ⟨true,(at' E.L.ss m).gen,⟨E.key,E.val,sm E.key,fol W⟩⟩
def putL (E:Ep) (W:Wa) (m:Nat):Lm:=if W.found≠0∧W.prev≠0 then {E.L with ss:=lnk (E.ss W m) W.prev (E.new m)} else {E.L with ss:=E.ss W m,xs:=E.L.xs.set E.c (E.new m:Nat)}
abbrev putW (E:Ep) (W:Wa):List Nat:=if W.found≠0 then E.L.ws++[W.found] else E.L.ws
abbrev Ep.p (E:Ep) (nx:Nat) (H:Ho) (W:Wa) (err:Int) (mine:Nat):Pt:=⟨E.s H W,E.val,nx,err,mine⟩
inductive Rp (E:Ep):Nat→Lm×Pt→Prop
 | s (k:Nat) (L:Lm) (S:Sk):Rs E k (L,S)→Rp E (4+k) (L,⟨S,E.val,2,0,0⟩)
 | t (W:Wa):Fnd E W→Rp E 4 ({E.L with hs:=E.hs},E.p 3 E.H W 0 0)
 | full (W:Wa):Fnd E W→freePl E.L.ss=none→Rp E 1 ({E.L with hs:=E.hs},E.p 6 E.H W 4 0)
 | p (W:Wa) (m:Nat):Fnd E W→Least E.L.ss m→Rp E 3 ({E.L with hs:=E.hs,ss:=E.ss W m},E.p 4 E.H W 0 (E.new m))
 | r (W:Wa) (m:Nat):Fnd E W→Least E.L.ss m→W.found≠0→Rp E 2 ({putL E W m with hs:=E.hs},E.p 5 E.H W 0 W.found)
 | d (W:Wa) (m:Nat):Fnd E W→Least E.L.ss m→Rp E 1 ({putL E W m with hs:=E.hs,ws:=putW E W},E.p 6 E.H W 0 0)
inductive Qp (E:Ep):Lm×Pt→Prop
 | full (W:Wa):Fnd E W→freePl E.L.ss=none→Qp E (E.L,E.p 7 {E.H with holds:=false} W 4 0)
 | done (W:Wa) (m:Nat):Fnd E W→Least E.L.ss m→Qp E ({putL E W m with ws:=putW E W},E.p 7 {E.H with holds:=false} W 0 0)
section
variable {E:Ep} {k:Nat} {s:Lm×Pt}
theorem putL_hs (E:Ep) (W:Wa) (m:Nat):(putL E W m).hs=E.L.hs∧(putL E W m).ds=E.L.ds∧(putL E W m).ws=E.L.ws∧(putL E W m).F=E.L.F∧(putL E W m).k=E.L.k:=by
 unfold putL
 split<;>exact ⟨rfl,rfl,rfl,rfl,rfl⟩
theorem putL_xl (E:Ep) (W:Wa) (m:Nat):(putL E W m).xs.length=E.L.xs.length:=by
 unfold putL
 split
 · rfl
 · simp
theorem Rp.pos (h:Rp E k s):1≤k:=by cases h<;>omega
theorem Fnd.bd (hE:E.Ok) {W:Wa} (h:Fnd E W):0≤fol W∧fol W≤18446744073709551615:=by
 unfold fol
 rcases h with ⟨h0,_,hf⟩ | ⟨pre,x,p,t,z,k,hq,hp,hx,hk,hnd,hW,hc,hpv⟩
 · rw [if_neg (by omega),hf]
   have:=Cl.getD_bd hE.xb E.c
   have h2:E.word=(Cl.nth E.L.xs E.c).toNat:=rfl
   generalize E.word=ew at*
   omega
 · rw [if_pos (by rw [hx]; exact hk.pos),hW,← hnd]
   exact hE.nexts k
theorem Ep.Ok.x1p (hE:E.Ok) (W:Wa) (m:Nat) (hm:Least E.L.ss m):0≤Cl.nth (putL E W m).xs 1∧Cl.nth (putL E W m).xs 1≤18446744073709551615:=by
 unfold putL
 split
 · exact Cl.getD_bd hE.xb 1
 · refine Cl.getD_bd (fun x hx=>?_) 1
   rcases List.mem_or_eq_of_mem_set hx with q | rfl
   · exact hE.xb x q
   · have:=hE.gen m
     have:=hm.1
     have:=hE.len
     show 0≤(((at' E.L.ss m).gen*65536+m+1:Nat):Int)∧(((at' E.L.ss m).gen*65536+m+1:Nat):Int)≤_
     omega
theorem Ep.Ok.new_bd (hE:E.Ok) {m:Nat} (hm:Least E.L.ss m):E.new m≤18446744073709551615:=by
 have:=hE.gen m
 have:=hm.1
 have:=hE.len
 show (at' E.L.ss m).gen*65536+m+1≤_
 omega
theorem Ep.Ok.nexts_ss (hE:E.Ok) {W:Wa} {m:Nat} (hf:Fnd E W) (hm:Least E.L.ss m):Nexts (E.ss W m):=hE.nexts.set hm.1 _ (hf.bd hE)
theorem Ep.Ok.live (_hE:E.Ok) {m:Nat} (hm:Least E.L.ss m) {W:Wa} {x j:Nat} (hj:IsAt E.L.ss x j):IsAt (E.ss W m) x j:=by
 have hjm:j≠m:=by
  rintro rfl
  have:=hj.2.1
  rw [hm.2.1] at this
  simp at this
 exact (isAt_turn hm.1 _ _ _).2 (by rw [if_neg hjm]; exact hj)
theorem Rp.ok (hE:E.Ok) (h:Rp E k s):Okp s.1 s.2:=by
 cases h with
 | s k L S h=>exact ⟨by simp,fun q=>by simp at q,fun _=>h.ok hE,fun q=>by simp at q,fun q=>by simp at q,fun q=>by simp at q,fun q=>by simp at q⟩
 | t W hf=>exact ⟨by simp,fun _=>by simp,fun q=>by simp at q,fun _=>hE.gen,fun q=>by simp at q,fun q=>by simp at q,fun q=>by simp at q⟩
 | full W hf hn=>exact ⟨by simp,fun _=>by simp,fun q=>by simp at q,fun q=>by simp at q,fun q=>by simp at q,fun q=>by simp at q,fun _=>⟨hE.okl5 hE.x1 rfl (Cl.getD_bd hE.xb 1),rfl⟩⟩
 | p W m hf hm=>exact ⟨by simp,fun _=>by simp,fun q=>by simp at q,fun q=>by simp at q,fun _=>hf.okd hE (hE.new_bd hm) hE.cx (fun x j hj=>hE.live hm hj),fun q=>by simp at q,fun q=>by simp at q⟩
 | r W m hf hm h0=>
   have hp:=putL_hs E W m
   exact ⟨by simp,fun _=>by simp,fun q=>by simp at q,fun q=>by simp at q,fun q=>by simp at q,fun _=>by show (putL E W m).ws.length≤_; rw [hp.2.2.1]; exact hE.ws,fun q=>by simp at q⟩
 | d W m hf hm=>
   have hp:=putL_hs E W m
   exact ⟨by simp,fun _=>by simp,fun q=>by simp at q,fun q=>by simp at q,fun q=>by simp at q,fun q=>by simp at q,fun _=>⟨hE.okl5 (by show 1<(putL E W m).xs.length; rw [putL_xl]; exact hE.x1) hp.2.1 (hE.x1p W m hm),rfl⟩⟩
def Rq (E:Ep) (k:Nat) (s:Lm×Pt):Prop:=∃ j,j≤k∧Rp E j s
theorem Rp.q {E:Ep} {j:Nat} {s:Lm×Pt} (h:Rp E j s) {k:Nat} (hk:j≤k):Rq E k s:=⟨j,hk,h⟩
theorem Ep.Ok.c0 (_hE:E.Ok):¬((E.c:Int)= -1):=by omega
theorem Rp.step (hE:E.Ok) (h:Rp E k s):pready s.1 s.2=true∧1≤k∧(pdone s.1 s.2=true→Qp E (pstep s.1 s.2))∧(pdone s.1 s.2=false→Rq E (k-1) (pstep s.1 s.2)):=by
 cases h with
 | s k L S h=>
   obtain ⟨h1,h2,h3,h4⟩:=h.step hE
   refine ⟨h1,by omega,fun q=>by simp [pdone] at q,fun _=>?_⟩
   rw [pstep2 rfl]
   simp only at h3 h4 ⊢
   cases hd:sdone L S with
   | true=>
     obtain ⟨W,hf,_,e⟩:=h3 hd
     rw [e]
     simp only [if_true,if_neg hE.c0]
     exact (Rp.t W hf).q (by omega)
   | false=>
     obtain ⟨j,hj,hr⟩:=h4 hd
     simp only [Bool.false_eq_true,if_false]
     have:=Rp.s (E:=E) j (sstep L S).1 (sstep L S).2 hr
     exact this.q (by omega)
 | t W hf=>
   refine ⟨rfl,by omega,fun q=>by simp [pdone] at q,fun _=>?_⟩
   cases hfr:freePl E.L.ss with
   | some m=>
     have hm:=freePl_some.1 hfr
     have e:pstep {E.L with hs:=E.hs} (E.p 3 E.H W 0 0)=({E.L with hs:=E.hs,ss:=E.ss W m},E.p 4 E.H W 0 (E.new m)):=pstep3 (L:={E.L with hs:=E.hs}) rfl hm
     rw [e]
     exact (Rp.p W m hf hm).q (by omega)
   | none=>
     have e:pstep {E.L with hs:=E.hs} (E.p 3 E.H W 0 0)=({E.L with hs:=E.hs},E.p 6 E.H W 4 0):=pstep3n (L:={E.L with hs:=E.hs}) rfl hfr
     rw [e]
     exact (Rp.full W hf hfr).q (by omega)
 | full W hf hfr=>
   refine ⟨rfl,by omega,fun _=>?_,fun q=>by simp [pdone] at q⟩
   have e:pstep {E.L with hs:=E.hs} (E.p 6 E.H W 4 0)=(E.L,E.p 7 {E.H with holds:=false} W 4 0):=by
    rw [pstep6 rfl]
    show (({E.L with hs:=E.hs.set E.lock (-1)}:Lm),_)=_
    rw [hE.back]
   rw [e]
   exact .full W hf hfr
 | p W m hf hm=>
   refine ⟨rfl,by omega,fun q=>by simp [pdone] at q,fun _=>?_⟩
   have e:pstep {E.L with hs:=E.hs,ss:=E.ss W m} (E.p 4 E.H W 0 (E.new m))=({putL E W m with hs:=E.hs},E.p (if W.found≠0 then 5 else 6) E.H W 0 W.found):=by
    rw [pstep4 rfl]
    refine Prod.ext ?_ rfl
    unfold putL slead
    by_cases hl:W.found≠0∧W.prev≠0
    · show (if W.found≠0∧W.prev≠0 then _ else _)=_
      rw [if_pos hl,if_pos hl]
    · show (if W.found≠0∧W.prev≠0 then _ else _)=_
      rw [if_neg hl,if_neg hl]
      show ({E.L with hs:=E.hs,ss:=E.ss W m,xs:=E.L.xs.set ((E.c:Nat):Int).toNat (E.new m:Nat)}:Lm)=_
      rw [Int.toNat_natCast]
   rw [e]
   by_cases h0:W.found≠0
   · rw [if_pos h0]
     exact (Rp.r W m hf hm h0).q (by omega)
   · rw [if_neg h0]
     have h0':W.found=0:=by omega
     have:=Rp.d W m hf hm
     have e2:({putL E W m with hs:=E.hs,ws:=putW E W}:Lm)={putL E W m with hs:=E.hs}:=by
      unfold putW
      rw [if_neg h0,← (putL_hs E W m).2.2.1]
     rw [e2] at this
     rw [h0']
     exact this.q (by omega)
 | r W m hf hm h0=>
   refine ⟨rfl,by omega,fun q=>by simp [pdone] at q,fun _=>?_⟩
   have e:pstep {putL E W m with hs:=E.hs} (E.p 5 E.H W 0 W.found)=({putL E W m with hs:=E.hs,ws:=putW E W},E.p 6 E.H W 0 0):=by
    rw [pstep5 rfl]
    refine Prod.ext ?_ rfl
    show ({putL E W m with hs:=E.hs,ws:=(putL E W m).ws++[W.found]}:Lm)=_
    unfold putW
    rw [if_pos h0,(putL_hs E W m).2.2.1]
   rw [e]
   exact (Rp.d W m hf hm).q (by omega)
 | d W m hf hm=>
   refine ⟨rfl,by omega,fun _=>?_,fun q=>by simp [pdone] at q⟩
   have e:pstep {putL E W m with hs:=E.hs,ws:=putW E W} (E.p 6 E.H W 0 0)=({putL E W m with ws:=putW E W},E.p 7 {E.H with holds:=false} W 0 0):=by
    rw [pstep6 rfl]
    show (({putL E W m with ws:=putW E W,hs:=E.hs.set E.lock (-1)}:Lm),_)=_
    rw [hE.back,← (putL_hs E W m).1]
   rw [e]
   exact .done W m hf hm
end
theorem put_ends {w:World} {M:Mo} {a:Qa} {key val:ByteArray} {i:Int} {h c:Nat} {d:Nat×Nat} {q:List Mq.Hp} (hM:MemAt w M) (hP:PuAt w a (newPut h i key val)) (hE:Ep.Ok ⟨lm M,key,val,i,h,d,c,q⟩) (K:Nat) (hK:8+q.length≤K∧K≤1000000):
 Calls Tryz.prog 21 #[ptr M.m,.iface 158 (ptr a.f),.int .i64 K] w fun e w'=>∃ (n:Nat) (s:Lm×Pt),e=.returned (.tuple #[.int .i64 n,.bool true])∧(n≤8+q.length∧fin (fun s:Lm×Pt=>pready s.1 s.2) (fun s=>pstep s.1 s.2) (fun s=>pdone s.1 s.2) K (lm M,newPut h i key val)=(n,true,s))∧Qp ⟨lm M,key,val,i,h,d,c,q⟩ s∧puL.Inv M a (newPut h i key val) w s w':=by
 refine finish_frm put_frm hM hP (Rq ⟨lm M,key,val,i,h,d,c,q⟩) (Qp ⟨lm M,key,val,i,h,d,c,q⟩) ?_ (8+q.length) K ?_ hK.1 hK.2
 · rintro k s ⟨j,hj,hr⟩
   obtain ⟨h1,h2,h3,h4⟩:=hr.step hE
   refine ⟨hr.ok hE,h1,by omega,h3,fun hd=>?_⟩
   obtain ⟨j',hj',hr'⟩:=h4 hd
   exact ⟨j',by omega,hr'⟩
 · exact (Rp.s (E:=⟨lm M,key,val,i,h,d,c,q⟩) (4+q.length) _ _ .a1).q (by omega)
end Go.Proofs.YtpobbnllcoabhaaGreat.Pu
namespace Go.Proofs.YtpobbnllcoabhaaGreat.Qs
open Go Go.RowKit Hp K Fl Rw Hm Ar Mm Me
set_option maxRecDepth 100000
theorem mrW (a:Addr) (w:World) (f:Nat):(method (f+1) 107 (.pointer (some a)) "Ready").run Tryz.prog w=.ok (214,.pointer (some a)) w:=by kernel_rfl
theorem msW (a:Addr) (w:World) (f:Nat):(method (f+1) 107 (.pointer (some a)) "Step").run Tryz.prog w=.ok (215,.pointer (some a)) w:=by kernel_rfl
theorem mrC (a:Addr) (w:World) (f:Nat):(method (f+1) 179 (.pointer (some a)) "Ready").run Tryz.prog w=.ok (276,.pointer (some a)) w:=by kernel_rfl
theorem msC (a:Addr) (w:World) (f:Nat):(method (f+1) 179 (.pointer (some a)) "Step").run Tryz.prog w=.ok (125,.pointer (some a)) w:=by kernel_rfl
theorem mrG (a:Addr) (w:World) (f:Nat):(method (f+1) 181 (.pointer (some a)) "Ready").run Tryz.prog w=.ok (277,.pointer (some a)) w:=by kernel_rfl
theorem msG (a:Addr) (w:World) (f:Nat):(method (f+1) 181 (.pointer (some a)) "Step").run Tryz.prog w=.ok (179,.pointer (some a)) w:=by kernel_rfl
theorem erW (args:Array Value) (w:World):(callFunc 214 args).run Tryz.prog w=.ok (.enter 214 args) w:=by kernel_rfl
theorem esW (args:Array Value) (w:World):(callFunc 215 args).run Tryz.prog w=.ok (.enter 215 args) w:=by kernel_rfl
theorem erC (args:Array Value) (w:World):(callFunc 276 args).run Tryz.prog w=.ok (.enter 276 args) w:=by kernel_rfl
theorem esC (args:Array Value) (w:World):(callFunc 125 args).run Tryz.prog w=.ok (.enter 125 args) w:=by kernel_rfl
theorem erG (args:Array Value) (w:World):(callFunc 277 args).run Tryz.prog w=.ok (.enter 277 args) w:=by kernel_rfl
theorem esG (args:Array Value) (w:World):(callFunc 179 args).run Tryz.prog w=.ok (.enter 179 args) w:=by kernel_rfl
section
variable {w:World} {M:Mo} {f:Nat} {W:Wt} {C:Cm}
def rdW (s:List Int×List Int×Wt):Bool:=readyB s.1 s.2.1 s.2.2
def stW (n:Nat) (s:List Int×List Int×Wt):List Int×List Int×Wt:=wstep n s.1 s.2.1 s.2.2
def dnW (s:List Int×List Int×Wt):Bool:=decide (s.2.2.at_=3)
def InvW (w0:World) (M:Mo) (f:Nat) (s:List Int×List Int×Wt) (w:World):Prop:=MemAt w {M with xs:=s.1,hs:=s.2.1}∧WtAt w f s.2.2∧Only (fun x=>mfoot M x∨x=f) w0 w
theorem finish_wait {n:Nat} (hM:MemAt w M) (hf:WtAt w f W) (hn:M.k=n) (ok:Okw n M.xs M.hs W) (K:Nat) (hK:K≤1000000):
 Calls Tryz.prog 21 #[ptr M.m,.iface 107 (ptr f),.int .i64 K] w fun e w'=>e=.returned (.tuple #[.int .i64 (fin rdW (stW n) dnW K (M.xs,M.hs,W)).1,.bool (fin rdW (stW n) dnW K (M.xs,M.hs,W)).2.1])∧
  InvW w M f (fin rdW (stW n) dnW K (M.xs,M.hs,W)).2.2 w':=by
 refine finish_gen 107 214 215 f (ptr M.m) (InvW w M f) (fun s=>Okw n s.1 s.2.1 s.2.2) rdW (stW n) dnW (mrW _) (msW _) erW esW ?_ ?_ ?_ K hK (M.xs,M.hs,W) ok w ⟨hM,hf,Only.refl _ _⟩
 · rintro s w1 ⟨h1,h2,h3⟩ ok
   exact (ready_any h1 h2 ok.hl (fun q=>by have:=ok.passed; have:=ok.xl; have:=ok.n1; exact ⟨by show 2+s.2.2.passed<s.1.length; omega,by omega⟩) (by have:=ok.at_; omega)).mono fun e w' ⟨h,nq,q⟩=>by
    subst q
    exact ⟨h,h1.drewN nq,h2.only ((Only.refl (fun _=>False) w1).drewN nq) (by simp),h3.drewN nq⟩
 · rintro s w1 ⟨h1,h2,h3⟩ ok hr
   exact (wait_step (M:={M with xs:=s.1,hs:=s.2.1}) h1 h2 hn ok hr).mono fun e w' h=>⟨h.1,h.2.1,h.2.2.1,h3.trans h.2.2.2⟩
 · intro s ok hr hd
   exact ok.step hr (by simpa [dnW] using hd)
def InvC (w0:World) (M:Mo) (f:Nat) (s:List Int×Cm) (w:World):Prop:=MemAt w {M with xs:=s.1}∧CmAt w f s.2∧Only (fun x=>mfoot M x∨x=f) w0 w
def stC (s:List Int×Cm):List Int×Cm:=cstep s.1 s.2
theorem finish_coming (hM:MemAt w M) (hf:CmAt w f C) (ha:C.at_≤1) (hk:2+C.worker<M.xs.length) (hp:C.worker≤1000) (hv:0≤C.period∧C.period≤18446744073709551615) (K:Nat) (hK:K≤1000000):
 Calls Tryz.prog 21 #[ptr M.m,.iface 179 (ptr f),.int .i64 K] w fun e w'=>e=.returned (.tuple #[.int .i64 (fin (fun _=>true) stC (fun s=>decide (s.2.at_=1)) K (M.xs,C)).1,.bool (fin (fun _=>true) stC (fun s=>decide (s.2.at_=1)) K (M.xs,C)).2.1])∧
  InvC w M f (fin (fun _=>true) stC (fun s=>decide (s.2.at_=1)) K (M.xs,C)).2.2 w':=by
 refine finish_gen 179 276 125 f (ptr M.m) (InvC w M f) (fun s=>s.2.at_≤1∧s.2.worker=C.worker∧s.1.length=M.xs.length∧(0≤s.2.period∧s.2.period≤18446744073709551615)∧(∀ x∈s.1,0≤x∧x≤18446744073709551615))
  (fun _=>true) stC (fun s=>decide (s.2.at_=1)) (mrC _) (msC _) erC esC ?_ ?_ ?_ K hK (M.xs,C) ⟨ha,rfl,rfl,hv,hM.2.1.2.2.1⟩ w ⟨hM,hf,Only.refl _ _⟩
 · rintro s w1 ⟨h1,h2,h3⟩ ok
   exact (coming_ready _ w1).mono fun e w' ⟨h,q⟩=>by
    subst q
    exact ⟨h,h1,h2,h3⟩
 · rintro s w1 ⟨h1,h2,h3⟩ ⟨o1,o2,o3,o4,o5⟩ hr
   exact (coming_step (M:={M with xs:=s.1}) h1 h2 o1 (by show 2+s.2.worker<s.1.length; omega) (by omega) o4).mono fun e w' h=>⟨h.1,h.2.1,h.2.2.1,h3.trans h.2.2.2⟩
 · rintro s ⟨o1,o2,o3,o4,o5⟩ hr hd
   have h0:s.2.at_=0:=by
    have:¬s.2.at_=1:=by simpa using hd
    omega
   have e:stC s=(s.1,{s.2 with period:=Cl.nth s.1 0,at_:=1}):=by unfold stC cstep; rw [if_pos h0]
   rw [e]
   exact ⟨by simp,o2,o3,Cl.getD_bd o5 0,o5⟩
theorem finish_going {k:Nat} (hM:MemAt w M) (hf:GgAt w f k 0) (hk:2+k<M.xs.length) (hp:k≤1000) (K:Nat) (hK:K≤1000000) (h1K:1≤K):
 Calls Tryz.prog 21 #[ptr M.m,.iface 181 (ptr f),.int .i64 K] w fun e w'=>e=.returned (.tuple #[.int .i64 1,.bool true])∧
  MemAt w' {M with xs:=M.xs.set (2+k) 0}∧GgAt w' f k 1∧Only (fun x=>mfoot M x∨x=f) w w':=by
 have h:=finish_gen 181 277 179 f (ptr M.m) (fun (s:Bool) w'=>MemAt w' {M with xs:=if s=true then M.xs.set (2+k) 0 else M.xs}∧GgAt w' f k (if s=true then 1 else 0)∧Only (fun x=>mfoot M x∨x=f) w w') (fun s=>s=false)
  (fun _=>true) (fun _=>true) (fun _=>true) (mrG _) (msG _) erG esG (fun s w1 h _=>(going_ready _ w1).mono fun e w' ⟨h',q⟩=>by
    subst q
    exact ⟨h',h⟩) (fun s w1 h o _=>by
    subst o
    exact (going_step (M:=M) h.1 h.2.1 hk hp).mono fun e w' h'=>⟨h'.1,h'.2.1,h'.2.2.1,h.2.2.trans h'.2.2.2⟩) (fun s _ _ h=>by simp at h) K hK false rfl w ⟨hM,hf,Only.refl _ _⟩
 obtain ⟨j,rfl⟩:∃ j,K=j+1:=⟨K-1,by omega⟩
 simpa [fin] using h
end
end Go.Proofs.YtpobbnllcoabhaaGreat.Qs
namespace Go.Proofs.YtpobbnllcoabhaaGreat.Re
open Go Go.RowKit Hp K Fl Rw Hm Ar Mm Me Qs
set_option maxRecDepth 100000
structure Dr where
 f:Nat
 fw:Nat
 at_:Nat
 W:Wt
 A:Option Addr
 cap:Nat
 left:List Nat
def drc (D:Dr):Array Value:=#[.int .i64 D.at_,ptr D.fw,.slice D.A D.left.length D.cap]
def Lft (w:World) (A:Option Addr) (l:List Nat):Prop:=l=[]∨∃ b o cs,A=some ⟨b,o,none⟩∧Blk w b 73 cs∧∀ i,i<l.length→cs[o+i]?=some (.int .u64 (nth l i:Nat))
def dfoot (D:Dr) (x:Nat):Prop:=x=D.f∨x=D.fw∨(D.left≠[]∧In D.A x)
structure DrAt (w:World) (D:Dr):Prop where
 blk:Blk w D.f 110 (drc D)
 wt:WtAt w D.fw D.W
 lft:Lft w D.A D.left
 sz:D.left.length≤D.cap∧D.cap≤maxLen
theorem Lft.only {S:Nat→Prop} {w w':World} {A:Option Addr} {l:List Nat} (h:Lft w A l) (ho:Only S w w') (hn:∀ x,l≠[]→In A x→¬S x):Lft w' A l:=by
 rcases h with h | ⟨b,o,cs,rfl,hb,hc⟩
 · exact .inl h
 · by_cases e:l=[]
   · exact .inl e
   · exact .inr ⟨b,o,cs,rfl,hb.only ho (hn b e rfl),hc⟩
theorem DrAt.only {S:Nat→Prop} {w w':World} {D:Dr} (h:DrAt w D) (ho:Only S w w') (hn:∀ x,dfoot D x→¬S x):DrAt w' D:=
 ⟨h.blk.only ho (hn _ (.inl rfl)),h.wt.only ho (hn _ (.inr (.inl rfl))),h.lft.only ho (fun x hl hx=>hn x (.inr (.inr ⟨hl,hx⟩))),h.sz⟩
theorem DrAt.below {w w':World} {D:Dr} (h:DrAt w D) (hb:Below w.heap.size w w'):DrAt w' D:=h.only (S:=fun _=>False) (Only.ofBelow hb _) (by simp)
theorem DrAt.drewN {w:World} {D:Dr} (h:DrAt w D) (n:Nat):DrAt (w.drewN n) D:=h.only (S:=fun _=>False) ((Only.refl _ _).drewN n) (by simp)
theorem DrAt.hd {w:World} {D:Dr} (h:DrAt w D):w.cell? ⟨D.f,0,none⟩=some (.int .i64 D.at_)∧w.cell? ⟨D.f,1,none⟩=some (ptr D.fw)∧w.cell? ⟨D.f,2,none⟩=some (.slice D.A D.left.length D.cap):=
 ⟨h.blk.cell 0,h.blk.cell 1,h.blk.cell 2⟩
theorem DrAt.far {w:World} {D:Dr} (h:DrAt w D) {M:Mo} (hM:MemAt w M):¬mfoot M D.f∧¬mfoot M D.fw:=
 ⟨fun hx=>(hM.ty hx).apart (blk_ty h.blk) (by decide),h.wt.far hM⟩
theorem DrAt.ne {w:World} {D:Dr} (h:DrAt w D):D.f≠D.fw:=h.blk.differ h.wt (by decide)
theorem new_drain (k:Int) (w:World):Calls Tryz.prog 20 #[.int .i64 k] w fun e w'=>∃ f,e=.returned (ptr f)∧w.heap.size<f∧DrAt w' ⟨f,w.heap.size,0,⟨k,0,0,0⟩,none,0,[]⟩∧Below w.heap.size w w':=by
 have hS:=Lib.hid (sync_any k w)
 go_enter Tryz.func20,Tryz.ntmps20
 go_wp2_with fail
 refine hS.out.mono ?_
 rintro e w1 ⟨rfl,hW,hb⟩
 have hW2:=Lib.hid (show WtAt (w1.alloc (.cells #[.int .i64 0,ptr w.heap.size,.slice none 0 0] 110)) w.heap.size ⟨k,0,0,0⟩ from hW.alloc _)
 have hlt:w.heap.size<w1.heap.size:=hW.lt
 have hb2:=Lib.hid (hb.alloc (o:=.cells #[.int .i64 0,ptr w.heap.size,.slice none 0 0] 110) (Nat.le_of_lt hlt))
 clear hW hb hS
 go_wp2_with fail
 go_ret
 exact ⟨w1.heap.size,rfl,hlt,⟨Blk.made w1 _ _,hW2.out,.inl rfl,Nat.le_refl _,Nat.zero_le _⟩,hb2.out⟩
def dready (M:Mo) (D:Dr):Bool:=if D.at_=0 then decide (0<M.ws.length) else if D.at_=1 then readyB M.xs M.hs D.W else true
section
variable {w:World} {M:Mo} {D:Dr}
theorem ready_drain (hM:MemAt w M) (hD:DrAt w D) (hk:0<M.hs.length) (hp:D.at_=1→D.W.at_≤1000∧(D.W.at_=2→2+D.W.passed<M.xs.length∧D.W.passed≤1000)) (ha:D.at_≤1000):
 Calls Tryz.prog 247 #[ptr D.f,ptr M.m] w fun e w'=>e=.returned (.bool (dready M D))∧∃ n,w'=w.drewN n:=by
 obtain ⟨c0,c1,c2⟩:=hD.hd
 unfold dready
 by_cases h0:D.at_=0
 · have hT:=Lib.hid (waiting_any hM)
   rw [if_pos h0]
   rw [h0] at c0
   generalize M.ws.length=z at*
   clear hM hD hp ha
   go_enter Tryz.func247,Tryz.ntmps247
   go_wp2_with (go_at_call 17; refine hT.out.mono ?_; rintro e w' ⟨rfl,rfl⟩)
   go_ret
   refine ⟨K.ret_bool ?_,0,rfl⟩
   simp
 · rw [if_neg h0]
   by_cases h1:D.at_=1
   · have hT:=Lib.hid (ready_any hM hD.wt hk (hp h1).2 (hp h1).1)
     rw [if_pos h1]
     rw [h1] at c0
     generalize readyB M.xs M.hs D.W=z at*
     clear hM hD hp ha h0
     go_enter Tryz.func247,Tryz.ntmps247
     go_wp2_with (go_at_call 214; refine hT.out.mono ?_; rintro e w' ⟨rfl,n,rfl⟩)
     go_ret
     exact ⟨rfl,_,rfl⟩
   · rw [if_neg h1]
     have e0:((D.at_:Int)==0)=false:=by rw [beq_eq_false_iff_ne]; omega
     have e1:((D.at_:Int)==1)=false:=by rw [beq_eq_false_iff_ne]; omega
     generalize D.at_=z at*
     clear hM hD hp h0 h1
     go_enter Tryz.func247,Tryz.ntmps247
     go_wp2_with fail
     go_ret
     exact ⟨rfl,0,rfl⟩
end
/-! ### a step-/
def mval (F:Nat) (v:Value):Value:=.func (.func F) #[v] #[]
def stepsD (D:Dr):Array Value:=#[mval 250 (ptr D.f),mval 215 (ptr D.fw),mval 251 (ptr D.f)]
theorem enters_dtake (args:Array Value) (w:World):(callFunc 250 args).run Tryz.prog w=.ok (.enter 250 args) w:=by kernel_rfl
theorem enters_dstep (args:Array Value) (w:World):(callFunc 215 args).run Tryz.prog w=.ok (.enter 215 args) w:=by kernel_rfl
theorem enters_dfree (args:Array Value) (w:World):(callFunc 251 args).run Tryz.prog w=.ok (.enter 251 args) w:=by kernel_rfl
section
variable {w:World} {M:Mo} {D:Dr}
theorem steps_drain (hD:DrAt w D):Calls Tryz.prog 249 #[ptr D.f] w fun e w'=>e=.returned (.slice (some ⟨w.heap.size,0,none⟩) 3 3)∧Listed w.heap.size (stepsD D) w'∧Below w.heap.size w w':=by
 obtain ⟨c0,c1,c2⟩:=hD.hd
 have hlt:=hD.blk.lt
 clear hD
 go_enter Tryz.func249,Tryz.ntmps249
 go_wp2
 go_ret
 refine ⟨rfl,fun i hi=>?_,(Below.refl _ _).alloc (Nat.le_refl _) _⟩
 exact (Blk.made w _ _).cell i
def SteppedD (P:World→Prop) (f at_:Nat) (c:Bool) (w':World):Prop:=∃ w1,P w1∧w'=if c=true then w1.setCell ⟨f,0,none⟩ (.int .i64 ((at_+1:Nat):Int)) else w1
theorem step_Drain {F:Nat} {cv m:Value} {c:Bool} {P:World→Prop} (hD:DrAt w D) (ha:D.at_<3) (hs:(stepsD D)[D.at_]?=some (mval F cv)) (eF:∀ args w,(callFunc F args).run Tryz.prog w=.ok (.enter F args) w)
 (hF:∀ w2,Below w.heap.size w w2→Calls Tryz.prog F #[cv,m] w2 fun e w'=>e=.returned (.bool c)∧P w') (hP:∀ w',P w'→w'.cell? ⟨D.f,0,none⟩=some (.int .i64 D.at_)∧w'.frozen? ⟨D.f,0,none⟩=false):
 Calls Tryz.prog 248 #[ptr D.f,m] w fun e w'=>e=.returned (.bool (decide ((if c=true then D.at_+1 else D.at_)=3)))∧SteppedD P D.f D.at_ c w':=by
 have hS:=Lib.hid (steps_drain hD)
 have hc:=Lib.hid (fun w2 (hb:Below w.heap.size w w2)=>(hD.below hb).hd.1)
 have hlt:=hD.blk.lt
 replace hF:=Lib.hid hF
 replace hP:=Lib.hid hP
 have ha3:D.at_≤2:=by omega
 replace hs:=Lib.hid hs
 have hsz:Hid (D.at_<(stepsD D).size):=Lib.hid (by show D.at_<3; omega)
 clear hD ha
 generalize D.at_=at_ at*
 generalize D.f=f at*
 go_enter Tryz.func248,Tryz.ntmps248
 go_wp2_with fail
 refine hS.out.mono ?_
 rintro e w2 ⟨rfl,hl2,hb2⟩
 have c0:=hc.out w2 hb2
 have c1:=hl2 _ hsz.out
 rw [hs.out] at c1
 unfold mval at c1
 replace hF:=Lib.hid (hF.out w2 hb2)
 have h3:¬(3≤at_):=by omega
 have h4:decide ((at_:Int)<(3:Int))=true:=by simp; omega
 clear hl2 hb2 hS hc
 generalize w.heap.size=sb at*
 cases c with
 | true=>
   go_wp2_with fail
   refine hF.out.mono ?_
   rintro e w' ⟨rfl,hPw⟩
   obtain ⟨k1,k2⟩:=hP.out w' hPw
   replace hPw:=Lib.hid hPw
   clear c0 c1
   go_wp2_with fail
   go_ret
   refine ⟨K.ret_bool ?_,w',hPw.out,by simp⟩
   rcases (by omega:at_=0∨at_=1∨at_=2) with h | h | h<;>simp [h]
 | false=>
   go_wp2_with fail
   refine hF.out.mono ?_
   rintro e w' ⟨rfl,hPw⟩
   obtain ⟨k1,k2⟩:=hP.out w' hPw
   replace hPw:=Lib.hid hPw
   clear c0 c1
   go_wp2_with fail
   go_ret
   refine ⟨K.ret_bool ?_,w',hPw.out,by simp⟩
   rcases (by omega:at_=0∨at_=1∨at_=2) with h | h | h<;>simp [h]
end
end Go.Proofs.YtpobbnllcoabhaaGreat.Re
namespace Go.Proofs.YtpobbnllcoabhaaGreat.Re
open Go Go.RowKit Hp K Fl Rw Hm Ar Mm Me Qs
set_option maxRecDepth 100000
theorem hnds_lft {w:World} {A:Option Addr} {cap:Nat} {l:List Nat} (h:Hnds w A cap l):Lft w A l:=by
 by_cases e:l=[]
 · exact .inl e
 · have hp:0<l.length:=List.length_pos_iff.2 e
   obtain ⟨b,hA,_⟩:=hnds_at h 0 hp
   obtain ⟨cs,hb⟩:=row_blk h (x:=b) (by rw [hA]; rfl)
   refine .inr ⟨b,0,cs,hA,hb,fun i hi=>?_⟩
   obtain ⟨b',hA',_,hc,_⟩:=hnds_at h i hi
   have:b'=b:=by rw [hA] at hA'; injection hA' with q; injection q with q; exact q.symm
   subst this
   rw [hb.cell] at hc
   rw [Nat.zero_add]
   exact hc
theorem DrAt.ty {w:World} {D:Dr} (h:DrAt w D) {x:Nat} (hx:dfoot D x):Ty w x [110,153,73]:=by
 rcases hx with rfl | rfl | ⟨hl,hx⟩
 · exact (blk_ty h.blk).mono (by simp)
 · exact (blk_ty h.wt).mono (by simp)
 · rcases h.lft with q | ⟨b,o,cs,hA,hb,_⟩
   · exact absurd q hl
   · rw [hA] at hx
     have:b=x:=by simpa [In] using hx
     subst this
     exact (blk_ty hb).mono (by simp)
section
variable {w:World} {M:Mo} {D:Dr}
theorem take_fn (hM:MemAt w M) (hD:DrAt w D) (hl:M.ws≠[]) (h0:D.left=[]):
 Calls Tryz.prog 250 #[ptr D.f,ptr M.m] w fun e w'=>e=.returned (.bool true)∧MemAt w' {M with V:=none,capV:=0,ws:=[]}∧
  DrAt w' {D with A:=M.V,cap:=M.capV,left:=M.ws}∧Only (fun x=>x=M.m∨x=D.f) w w':=by
 have hT:=Lib.hid (take_any hM)
 have HM:=Lib.hid hM
 have HD:=Lib.hid hD
 have hlen:=row_len hM.2.2.2.2.2
 have hsz:=hM.2.2.2.2.2.capLe
 have hpos:0<M.ws.length:=List.length_pos_iff.2 hl
 have hfm:=hD.far hM
 have hne:=hD.ne
 have lts:=hD.blk.lt
 clear hM hD
 replace hl:=Lib.hid hl
 replace h0:=Lib.hid h0
 generalize hn:M.ws.length=n at*
 go_enter Tryz.func250,Tryz.ntmps250
 go_wp2_with fail
 refine hT.out.mono ?_
 rintro e w1 ⟨rfl,hM1,hO1⟩
 have hD1:DrAt w1 D:=HD.out.only hO1 (fun x hx q=>(HD.out.ty hx).apart (by subst q; exact blk_ty HM.out.1) (by decide))
 have hL1:Lft w1 M.V M.ws:=(hnds_lft HM.out.2.2.2.2.2).only hO1 (fun x _ hx q=>(row_ty HM.out.2.2.2.2.2 hx).apart (by subst q; exact blk_ty HM.out.1) (by decide))
 have hVf:∀ x,M.ws≠[]→In M.V x→x≠D.f:=fun x _ hx q=>(row_ty HM.out.2.2.2.2.2 hx).apart (by subst q; exact blk_ty HD.out.blk) (by decide)
 have s2:=hD1.hd.2.2
 have z2:=hD1.blk.frozen 2
 have hO:=(Only.refl (·=D.f) w1).setCell (p:=⟨D.f,2,none⟩) (.inl rfl) (.slice M.V n M.capV)
 have hM3:=Lib.hid (hM1.only hO (fun x hx e=>by
  subst e
  have hx':mfoot M D.f:=by
   rcases hx with q | q | q | q | q | q
   · exact .inl q
   · exact .inr (.inl q)
   · exact .inr (.inr (.inl q))
   · exact .inr (.inr (.inr (.inl q)))
   · exact .inr (.inr (.inr (.inr (.inl q))))
   · simp [In] at q
  exact hfm.1 hx'))
 have hD3:Hid (DrAt (w1.setCell ⟨D.f,2,none⟩ (.slice M.V n M.capV)) {D with A:=M.V,cap:=M.capV,left:=M.ws}):=Lib.hid ⟨by
  have:=hD1.blk.store 2 (.slice M.V n M.capV)
  rw [← hn] at this ⊢
  exact this,hD1.wt.only hO (fun e=>hne e.symm),hL1.only hO (fun x hx hi=>hVf x hx hi),by show M.ws.length≤M.capV; have:=hsz.1; omega,hsz.2⟩
 have hO3:=Lib.hid ((hO1.mono (S':=fun x=>x=M.m∨x=D.f) (fun x _ q=>.inl q)).setCell (p:=⟨D.f,2,none⟩) (.inl (.inr rfl)) (.slice M.V n M.capV))
 clear hT hM1 hO1 hD1 hL1 hVf hO hn
 go_wp2_with fail
 go_ret
 exact ⟨rfl,hM3.out,hD3.out,hO3.out⟩
end
end Go.Proofs.YtpobbnllcoabhaaGreat.Re
