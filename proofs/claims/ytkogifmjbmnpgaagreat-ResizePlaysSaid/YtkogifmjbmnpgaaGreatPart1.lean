/- Walks and plain mathematics, put together in their order: LawNineA, LawFnv, TenA, MemChain, MemReach, MapA, ElA, Lm, Frm, TabA, TabB, TabC. -/
import Derived.Test.YtkogifmjbmnpgaaGreatWalkD
import Derived.Test.YtkogifmjbmnpgaaGreatLawFiveA
import Derived.Test.YtkogifmjbmnpgaaGreatMade
import Derived.Test.YtkogifmjbmnpgaaGreatFnvWalk
import Derived.Test.YtkogifmjbmnpgaaGreatPairs
import Derived.Test.YtkogifmjbmnpgaaGreatGetC
import Derived.Test.YtkogifmjbmnpgaaGreatLawSixA
import Derived.Test.YtkogifmjbmnpgaaGreatMemWalk
import Derived.ArgAppend
import Derived.Lib.AppendZeros
import Derived.Maps.Own
import Derived.Maps.OwnOps
import Derived.Maps.Views
import Derived.Test.YtkogifmjbmnpgaaGreatRowKit
import Derived.Laws.Cover1
import Derived.Test.YtkogifmjbmnpgaaGreatFinish
import Derived.Test.YtkogifmjbmnpgaaGreatGetA
import Derived.Test.YtkogifmjbmnpgaaGreatFinishN
import Derived.Test.YtkogifmjbmnpgaaGreatMemNew
import Derived.Deep.RegionHeld3
import Derived.Laws.EntriesVeiled
set_option linter.unusedVariables false
set_option linter.unusedSimpArgs false
namespace Go.Proofs.YtkogifmjbmnpgaaGreat.LawNine
open Go Go.RowKit Hp K Fl Rw Hm Ar Mm Me LK Wk LawSix
set_option maxRecDepth 100000
theorem nexts_zero (n:Nat):Nexts (List.replicate n .zero):=fun k=>by
 simp only [at',List.getD,List.getElem?_replicate]
 split<;>simp [Sl.zero,Nd.zero]
theorem low_only {W0 a b:World} {M:Mo} {f:Nat} (ha:Below W0.heap.size W0 a) (hlo:∀ x,mfoot M x→W0.heap.size≤x) (hf:W0.heap.size≤f) (ho:Only (fun x=>mfoot M x∨x=f) a b):Below W0.heap.size W0 b:=
 ha.trans (ho.toBelow ha.size (fun x hx q=>by
  rcases q with q | q
  · have:=hlo x q; omega
  · omega))
theorem fin_empty (f:Nat) (k:ByteArray) (ss:List Sl) (F:Bool):wfin [1,0,0,0] ss 5 (F,new f 3 0 k)=(1,true,(F,{new f 3 0 k with nx:=3})):=by
 simp [wfin,fin,gstep,gdone,goTo,word,new,Cl.nth]
set_option maxHeartbeats 1000000 in
theorem awake (w:World):Calls Tryz.prog 98 #[] w fun e w'=>e=.returned (.bool true)∧Below w.heap.size w w':=by
 have hN:=Lib.hid (made_yes 1 1 w (by omega) (by omega))
 go_enter Tryz.func98,Tryz.ntmps98
 go_wp2_with fail
 refine hN.out.mono ?_
 rintro e w1 ⟨M,rfl,hM,hlo,hB,h1,h2,h3,h4,h5,h6,h7⟩
 clear hN
 have hE:=Lib.hid (new_any 3 0 ⟨#[97]⟩ w1)
 replace hM:=Lib.hid hM
 replace hlo:=Lib.hid hlo
 replace hB:=Lib.hid hB
 replace h1:=Lib.hid h1
 replace h2:=Lib.hid h2
 clear h3 h7 h5 h4 h6
 go_wp2_with fail
 refine hE.out.mono ?_
 rintro e w2 ⟨rfl,hE2,hB2⟩
 have hM2:=hM.out.below hB2
 have hge:w.heap.size≤w1.heap.size:=hB.out.size
 have hB02:=Lib.hid (hB.out.trans (hB2.mono hge))
 have hF:=finish_walk hM2 hE2 (by rw [h2.out]; exact nexts_zero 1) 5 (by omega) ⟨by simp [new],by simp [new],by simp [new],by simp [new]⟩
 rw [h1.out,show (1:Int)::List.replicate (1+2) 0=[1,0,0,0] from rfl,fin_empty] at hF
 replace hF:=Lib.hid hF
 clear hM hE hB2 hE2 hM2 hB
 generalize w1.heap.size=f at*
 replace hge:=Lib.hid hge
 go_wp2_with fail
 refine hF.out.mono ?_
 rintro e w3 ⟨rfl,hM3,hW3,_,hO3⟩
 have hB3:=Lib.hid (low_only hB02.out hlo.out hge.out hO3)
 have hFd:Hid (Calls Tryz.prog 116 #[ptr f] w3 fun e w'=>e=.returned (.tuple #[.int .u64 0,.agg #[.string ⟨#[]⟩,.string ⟨#[]⟩,.int .u32 0,.int .u64 0],.bool false])∧Below w3.heap.size w3 w'):=Lib.hid (found_any hW3)
 replace hM3:=Lib.hid hM3
 replace hW3:=Lib.hid hW3
 clear hF hO3 hB02
 go_wp2_with fail
 refine hFd.out.mono ?_
 rintro e w4 ⟨rfl,hB4⟩
 have hW4:=hW3.out.below hB4
 have hB04:=Lib.hid (hB3.out.trans (hB4.mono hB3.out.size))
 have lf:=hW4.lt
 replace hW4:=Lib.hid hW4
 clear hM3 hW3 hB3 hB4 hFd
 go_wp2_with fail
 refine (LawFive.awake _).mono ?_
 rintro e w5 ⟨rfl,hB5⟩
 have hB45:Below w4.heap.size w4 w5:=((Below.refl _ _).alloc (Nat.le_refl _) _).trans (hB5.mono (by simp))
 have hB05:=Lib.hid (hB04.out.trans (hB45.mono hB04.out.size))
 have hFi:Hid (Calls Tryz.prog 134 #[ptr f] w5 fun e w'=>e=.returned (.int .u64 0)∧w5=w'):=Lib.hid (first_any (hW4.out.below hB45))
 clear hB5 hB45 hB04 hW4
 go_wp2_with (go_at_call 134; refine hFi.out.mono ?_; rintro e w' ⟨rfl,rfl⟩)
 go_ret
 exact ⟨rfl,hB05.out⟩
end Go.Proofs.YtkogifmjbmnpgaaGreat.LawNine
namespace Go.Proofs.YtkogifmjbmnpgaaGreat.LawFnv
open Go.RowKit Fnv
set_option maxHeartbeats 400000 in
theorem refpower_any (n:Int) (w:World) (h0: -9223372036854775808≤n) (h1:n≤9223372036854775807):
 Calls Tryz.prog 35 #[.int .i64 n] w fun e w'=>e=.returned (.bool (FM.power n))∧w'=w:=by
 go_enter Tryz.func35,Tryz.ntmps35
 go_wp2
 go_loop [3] (fun i=>∃ k:Nat,k≤17∧i=.int .i64 ((2 ^ k:Nat):Int)∧∀ j:Nat,j<k→n≠((2 ^ j:Nat):Int)) (fun i=>(200000-intOf i).toNat)
 case atStart=>exact ⟨0,by omega,rfl,fun j hj=>absurd hj (by omega)⟩
 case round=>
  obtain ⟨k,hk,rfl,hno⟩:=hrel
  have hno:=Lib.hid hno
  have hpos:0<2 ^ k:=Nat.two_pow_pos k
  by_cases hk16:k≤16
  · have hle:2 ^ k≤2 ^ 16:=Nat.pow_le_pow_right (by omega) hk16
    have hd:=Lib.hid (Nat.pow_succ 2 k)
    generalize hq:2 ^ k=q at*
    have hq:=Lib.hid hq
    by_cases he:n=(q:Int)
    · have hp:FM.power n=true:=(FM.power_iff n).2 ⟨k,hk16,by rw [hq.out]; exact he⟩
      have hle':(q:Int)≤65536:=by omega
      obtain rfl:=he
      go_wp2
      go_ret
      exact ⟨rfl,rfl⟩
    · have hle':(q:Int)≤65536:=by omega
      have he':(((q:Nat):Int)==n)=false:=by rw [beq_eq_false_iff_ne]; omega
      go_wp2
      go_round
      case rel=>exact ⟨k+1,by omega,by rw [hd.out]; go_num,fun j hj=>by
       by_cases hjk:j=k
       · subst hjk; rw [hq.out]; exact he
       · exact hno.out j (by omega)⟩
      case measure=>simp [intOf]; omega
  · obtain rfl:k=17:=by omega
    have hp:FM.power n=false:=by
     cases h:FM.power n with
     | false=>rfl
     | true=>
       obtain ⟨j,hj,hn⟩:=(FM.power_iff n).1 h
       exact absurd hn (hno.out j (by omega))
    clear hno
    go_wp2
    go_ret
    exact ⟨rfl,rfl⟩
set_option maxHeartbeats 400000 in
theorem refbucket_any (s n:Int) (w:World) (hs0:0≤s) (hs1:s<4294967296) (h0: -9223372036854775808≤n) (h1:n≤9223372036854775807):
 Calls Tryz.prog 48 #[.int .u32 s,.int .i64 n] w fun e w'=>e=.returned (.int .i64 (FM.bucket s n))∧w'=w:=by
 cases hp:FM.power n with
 | false=>
   have hb:FM.bucket s n=0:=by unfold FM.bucket; rw [hp]; rfl
   have hb:=Lib.hid hb
   go_enter Tryz.func48,Tryz.ntmps48
   go_wp2_with (go_at_call 35; refine (refpower_any n _ h0 h1).mono ?_; rintro e w' ⟨rfl,rfl⟩)
   go_ret
   exact ⟨ret_int hb.out.symm,rfl⟩
 | true=>
   have hb:FM.bucket s n=s % n:=by unfold FM.bucket; rw [hp]; rfl
   have hb:=Lib.hid hb
   have hbd:=FM.power_bd hp
   have hr:0≤s % n∧s % n<65536:=⟨Int.emod_nonneg _ (by omega),by have:=Int.emod_lt_of_pos s (show 0<n by omega); omega⟩
   go_enter Tryz.func48,Tryz.ntmps48
   go_wp2_with (go_at_call 35; refine (refpower_any n _ h0 h1).mono ?_; rintro e w' ⟨rfl,rfl⟩)
   go_ret
   exact ⟨ret_int hb.out.symm,rfl⟩
set_option maxHeartbeats 400000 in
theorem refsum_any (s:ByteArray) (w:World) (hs:s.size≤maxLen):
 Calls Tryz.prog 47 #[.string s] w fun e w'=>e=.returned (.int .u32 (FM.sum s.data.toList))∧w'=w:=by
 unfold maxLen at hs
 go_enter Tryz.func47,Tryz.ntmps47
 go_wp2
 go_loop [3,4] (fun n i=>∃ k:Nat,k≤s.size∧i=.int .i64 k∧n=.int .u64 (FM.sum (s.data.toList.take k))) (fun _ i=>s.size-(intOf i).toNat)
 case atStart=>exact ⟨0,Nat.zero_le _,rfl,rfl⟩
 case round=>
  obtain ⟨k,hk,rfl,rfl⟩:=hrel
  have hl:=FM.sum_lt (s.data.toList.take k)
  by_cases hlt:k<s.size
  · have hx:=Lib.hid (FM.ref_step_i (s.data.toList.take k) s[k])
    have ht:=Lib.hid (FM.take_snoc s k hlt)
    go_wp2
    go_round
    case rel=>exact ⟨k+1,by omega,by go_num,by rw [ht.out,hx.out]⟩
    case measure=>simp [intOf]; omega
  · go_wp2
    go_ret
    exact ⟨ret_int (by rw [List.take_of_length_le (by simp; omega)]),rfl⟩
end Go.Proofs.YtkogifmjbmnpgaaGreat.LawFnv
namespace Go.Proofs.YtkogifmjbmnpgaaGreat.LawTen
open Go Go.RowKit Hp K Fl Rw Hm Ar Mm Me LK Qs Wk Gt Pc LawSix
set_option maxRecDepth 100000
def PairsAt (w:World) (A:Option Addr) (l:List Pr):Prop:=∀ i,i<l.length→∃ b o:Nat,A=some ⟨b,o,none⟩∧b<w.heap.size∧
 w.cell? ⟨b,o+i*2,none⟩=some (.string (pat l i).1)∧w.cell? ⟨b,o+i*2+1,none⟩=some (.string (pat l i).2)∧(pat l i).1.size≤140737488355328∧(pat l i).2.size≤140737488355328
theorem PairsAt.below {w w':World} {A:Option Addr} {l:List Pr} (h:PairsAt w A l) (hb:Below w.heap.size w w'):PairsAt w' A l:=fun i hi=>by
 obtain ⟨b,o,h1,h2,h3,h4,h5⟩:=h i hi
 exact ⟨b,o,h1,by have:=hb.size; omega,(hb.cell (p:=⟨b,_,none⟩) h2).trans h3,(hb.cell (p:=⟨b,_,none⟩) h2).trans h4,h5⟩
def lkv (o:Option ByteArray):Value:=.tuple #[.string (o.getD ⟨#[]⟩),.bool o.isSome]
set_option maxHeartbeats 1000000 in
theorem ref_any (w:World) (l:List Pr) (A:Option Addr) (cap:Nat) (hl:l.length≤maxLen) (hP:PairsAt w A l) (key:ByteArray):
 Calls Tryz.prog 46 #[.slice A l.length cap,.string key] w fun e w'=>e=.returned (lkv (lk l key))∧w=w':=by
 unfold maxLen at hl
 replace hP:=Lib.hid hP
 have h0:Hid (lk (l.drop 0) key=lk l key):=Lib.hid rfl
 generalize hz:lk l key=z at*
 replace hz:=Lib.hid hz
 generalize hln:l.length=len at*
 replace hln:=Lib.hid hln
 go_enter Tryz.func46,Tryz.ntmps46
 go_wp2_with fail
 go_loop [6] (fun i=>∃ n:Nat,n≤len∧i=.int .i64 n∧Hid (lk (l.drop n) key=z)) (fun i=>len-(intOf i).toNat)
 case atStart=>exact ⟨0,Nat.zero_le _,rfl,h0⟩
 case round=>
  obtain ⟨n,hn,rfl,hf⟩:=hrel
  clear h0
  by_cases hlt:n<len
  · obtain ⟨b,o,rfl,hb,c0,c1,s0,s1⟩:=hP.out n (by rw [hln.out]; exact hlt)
    have e1:=hf.out
    have hd:l.drop n=pat l n::l.drop (n+1):=by
     have:=hln.out
     rw [List.drop_eq_getElem_cons (by omega)]
     congr 1
     simp [pat,List.getD,show n<l.length by omega]
    rw [hd] at e1
    generalize hp:pat l n=p at*
    obtain ⟨pk,pv⟩:=p
    simp only at c0 c1 s0 s1 e1
    replace hp:=Lib.hid hp
    clear hf hd
    by_cases h2:pk=key
    · subst h2
      have e2:some pv=z:=by rw [← e1]; simp [lk]
      replace e2:=Lib.hid e2
      clear e1
      go_wp2_with fail
      go_ret2
      rw [← e2.out]
      exact ⟨rfl,rfl⟩
    · have e2:lk (l.drop (n+1)) key=z:=by rw [← e1]; simp [lk,h2]
      replace e2:=Lib.hid e2
      have b2:=bytes_ne h2
      clear h2 e1
      go_wp2_with fail
      go_round
      case rel=>exact ⟨n+1,by omega,by go_num,e2⟩
      case measure=>simp [intOf]; omega
  · obtain rfl:n=len:=by omega
    have e1:=hf.out
    have hnl:=hln.out
    rw [← hnl,List.drop_length] at e1
    have e2:z=none:=by rw [← e1]; rfl
    subst e2
    clear hf e1 hnl
    go_wp2_with fail
    go_ret2
    exact ⟨rfl,rfl⟩
end Go.Proofs.YtkogifmjbmnpgaaGreat.LawTen
namespace Go.Proofs.YtkogifmjbmnpgaaGreat.Me
open Go Go.RowKit Hp K Fl Rw Hm Ar Mm
set_option maxRecDepth 100000
/-! ### the map-/
abbrev DH:=DataW Unit
abbrev MKey (x:Nat):Lit:=.int .u64 x
abbrev MVal (v:Bool):DH:=.lit (.bool v)
def Met (w:World) (B:Nat) (ms:List Nat):Prop:=∃ (n:Nat) (D:DH),w.ownsMap Tryz.prog 87 (plainElem Tryz.prog 4) B n D∧n≤ms.length∧∀ x,x≤18446744073709551615→D.atKey (MKey x) (MVal false)=MVal (decide (x∈ms))
theorem keyed:Maps.Keyed Tryz.prog 87:=Maps.int_keyed Tryz.underlying87
theorem zeroB (w:World):(zeroValue 4).run Tryz.prog w=.ok (.bool false) w:=by kernel_rfl
theorem lit_u64 {x:Nat} (hx:x≤18446744073709551615):(Lit.int .u64 (x:Int)).wf=true:=by
 simp [Lit.wf,IntKind.min,IntKind.max,IntKind.signed,IntKind.bits]; omega
theorem mkey {x:Nat} (hx:x≤18446744073709551615):keyOf Tryz.prog 87 (.int .u64 x)=some (MKey x):=Maps.keyOf_int_mk Tryz.underlying87 (lit_u64 hx)
theorem key_lit {x:Nat} (hx:x≤18446744073709551615):WideAt.IsKeyLit (MKey x):=keyed.key (mkey hx)
theorem Met.made (w:World):Met (w.alloc (.map #[] 0)) w.heap.size []:=
 ⟨0,.map [],World.ownsMap_made _ _ _ _,Nat.le_refl _,fun x _=>by simp [DataW.atKey]⟩
theorem Met.lt {w:World} {B:Nat} {ms:List Nat} (h:Met w B ms):B<w.heap.size:=by obtain ⟨n,D,hm,r⟩:=h; exact hm.lt
theorem Met.only {S:Nat→Prop} {w w':World} {B:Nat} {ms:List Nat} (h:Met w B ms) (ho:Only S w w') (hn:¬S B):Met w' B ms:=by
 obtain ⟨n,D,hm,r⟩:=h
 have hlt:=hm.lt
 obtain ⟨es,clock,hb,F,hs,hD⟩:=hm
 exact ⟨n,D,⟨es,clock,(ho.block B hlt hn).trans hb,F,hs,hD⟩,r⟩
theorem Met.no {w:World} {B:Nat} {ms:List Nat} (h:Met w B ms) {ts:List TypeId} (ht:Ty w B ts):False:=by
 obtain ⟨n,D,hm,r⟩:=h
 obtain ⟨es,clock,hb,_⟩:=hm
 obtain ⟨t,cs,hb',_⟩:=ht
 have e:=hb.symm.trans hb'
 injection e with e
 injection e
theorem Met.look {w:World} {B:Nat} {ms:List Nat} (h:Met w B ms) {x:Nat} (hx:x≤18446744073709551615):(Instr.lookup 121 (.map (some B)) (.int .u64 x) false).run Tryz.prog w=.ok (.bool (decide (x∈ms))) w:=by
 obtain ⟨n,D,hm,_,hat⟩:=h
 obtain ⟨v,ps,hrun,hv⟩:=hm.lookup keyed Tryz.underlying121 (zeroB w) (plainElem_bool Tryz.underlying4 false) (mkey hx)
 rw [hrun]
 rw [hat x hx] at hv
 unfold plainElem at hv
 rw [Tryz.underlying4] at hv
 cases v<;>simp at hv
 rw [hv.1]
theorem met_put {w:World} {B n:Nat} {D:DH} {ms:List Nat} {x:Nat} (hx:x≤18446744073709551615) {w0:World} {n0:Nat} (hm0:w0.ownsMap Tryz.prog 87 (plainElem Tryz.prog 4) B n0 D) (hm:w.ownsMap Tryz.prog 87 (plainElem Tryz.prog 4) B (n+1) (D.put (MKey x) (MVal true))) (hn:n≤ms.length) (hat:∀ x,x≤18446744073709551615→D.atKey (MKey x) (MVal false)=MVal (decide (x∈ms))):Met w B (x::ms):=by
 have hD:Maps.IsMap D:=by obtain ⟨es,clock,_,_,_,hD⟩:=hm0; exact ⟨_,hD⟩
 refine ⟨n+1,_,hm,by simp; omega,fun y hy=>?_⟩
 by_cases e:y=x
 · subst e
   rw [Maps.atKey_put_same hD (key_lit hx)]
   simp
 · have hne:MKey y≠MKey x:=fun h=>by
    injection h with _ h
    exact e (by omega)
   rw [Maps.atKey_put_other hne,hat y hy]
   simp [e]
theorem wpList_met {w:World} {ops:Array Oper} {rest:List Oper} {o:Oper} {a:Act} {Q:Exit→Act→World→Prop} (hgd:o.guard=none) (m x v:Operand)
 (hop:o.op=Op.mapUpdate 121 m x v) (B:Nat) (ms:List Nat) (h:Met w B ms) (hl:ms.length≤1000000) (y:Nat) (hy:y≤18446744073709551615)
 (hm:a.eval m=.map (some B)) (hx:a.eval x=.int .u64 y) (hv:a.eval v=.bool true)
 (hK:∀ w',Met w' B (y::ms)→Only (·=B) w w'→wpList Tryz.prog ops Q rest (a.put o.dst undef) w'):wpList Tryz.prog ops Q (o::rest) a w:=by
 obtain ⟨n,D,hM,hn,hat⟩:=h
 refine wpList_mapUpdate_own w hgd m x v 121 hop 87 4 keyed Tryz.underlying121 _ B n D hm hM (by unfold maxLen; omega) _ _ _ hx hv (mkey hy) (MVal true) [] (plainElem_bool Tryz.underlying4 true) ?_
 intro w' hM' hg
 exact hK w' (met_put hy hM hM' hn hat) ((Only.refl (·=B) w).grown hg (fun z hz=>.inl (by injection hz with hz; exact hz.symm)))
/-! ### follow-/
def FInv (w wr:World) (M:Mo) (B:Nat) (A0:Option Addr) (all ms t:List Nat) (v hv:Value):Prop:=
 ∃ (A:Option Addr) (cap:Nat) (out:List Nat) (x:Nat) (rest:List Nat),v=.slice A (all.length+out.length) cap∧hv=.int .u64 x∧Hnds wr A cap (all++out)∧Met wr B (out.reverse++ms)∧
   t=out++rest∧Ch M.ss (out.reverse++ms) x rest∧Only (fun x=>x=B∨In A0 x) w wr∧(∀ x,In A x→In A0 x∨w.heap.size≤x)∧x≤18446744073709551615
def Followed (w:World) (B:Nat) (A0:Option Addr) (all ms t:List Nat) (e:Ending) (w':World):Prop:=
 ∃ A cap,e=.returned (.slice A (all.length+t.length) cap)∧Hnds w' A cap (all++t)∧Met w' B (t.reverse++ms)∧Only (fun x=>x=B∨In A0 x) w w'∧∀ x,In A x→In A0 x∨w.heap.size≤x
set_option maxHeartbeats 4000000 in
theorem follow_any {w:World} {M:Mo} (h:MemAt w M) (hN:Nexts M.ss) (hl:M.ss.length≤1024) (c:Nat) (hc:c<M.xs.length) (A0:Option Addr) (cap0:Nat) (all:List Nat) (hA:Hnds w A0 cap0 all) (hall:all.length≤100000)
 (B:Nat) (ms:List Nat) (hM:Met w B ms) (hms:ms.length≤100000) (hap:∀ x,In A0 x→¬mfoot M x) (t:List Nat) (ht:Ch M.ss ms (Cl.nth M.xs c).toNat t):
 Calls Tryz.prog 56 #[ptr M.m,.slice A0 all.length cap0,.int .i64 c,.map (some B)] w (Followed w B A0 all ms t):=by
 have hbd:=Cl.getD_bd h.2.1.2.2.1 c
 have hL:=Cl.load_in h.2.1 c hc
 obtain ⟨x0,hx0⟩:=Int.eq_ofNat_of_zero_le hbd.1
 rw [hx0] at hL hbd ht
 rw [Int.toNat_natCast] at ht
 replace hL:=Lib.hid hL
 have hc0:=h.hd.1
 have htl:=ch_le hl ht
 have H:=Lib.hid h
 have H0:=Lib.hid (show FInv w w M B A0 all ms t (.slice A0 all.length cap0) (.int .u64 x0) from ⟨A0,cap0,[],x0,t,rfl,rfl,by simpa using hA,by simpa using hM,rfl,by simpa using ht,Only.refl _ _,fun x hx=>.inl hx,by omega⟩)
 replace hap:=Lib.hid hap
 replace hN:=Lib.hid hN
 have hBm:=Lib.hid (fun x (hx:mfoot M x) (e:x=B)=>hM.no (by rw [← e]; exact h.ty hx))
 have hBA:=Lib.hid (fun (hx:In A0 B)=>hM.no (row_ty hA hx))
 clear h hA hM ht hx0 hbd hc
 obtain ⟨i0,hi0,hz0,hz1,hz2⟩:=info_parts info_handle
 generalize hal:all.length=al at*
 replace hal:=Lib.hid hal
 go_enter Tryz.func56,Tryz.ntmps56
 go_wp2_with (go_at_call 42; refine hL.out.mono ?_; rintro e w' ⟨rfl,hw⟩; obtain rfl:w=w':=hw.symm)
 clear hL hc0
 go_loopw [1,11] (fun v hv wr=>FInv w wr M B A0 all ms t v hv) (fun v _ _=>(match v with | .slice _ n _=>al+t.length-n | _=>0))
 case atStart=>exact H0.out
 case round=>
  obtain ⟨A,cap,out,x,rest,rfl,rfl,hA,hM,hte,hch,hO,hA',hx⟩:=hrel
  clear H0
  have hMe:=H.out.only hO (fun y hy q=>by
   rcases q with q | q
   · exact hBm.out y hy q
   · exact hap.out y q hy)
  have m2:=hMe.hd.2.2.1
  have hlk:=hM.look hx
  have hol:out.length≤1024:=by have:t.length=out.length+rest.length:=by rw [hte,List.length_append]
                               omega
  replace hA:=Lib.hid hA
  replace hM:=Lib.hid hM
  replace hO:=Lib.hid hO
  replace hA':=Lib.hid hA'
  replace hMe:=Lib.hid hMe
  rw [hal.out]
  cases hch with
  | stop hs=>
    rcases bad_or M.ss x with ⟨k,hk⟩ | ⟨cd,hcd⟩
    · have hLv:=Lib.hid (live_ok hMe.out.2.2.2.1 hx hk)
      have hin:decide (x∈out.reverse++ms)=true:=by
       rcases hs with q | q
       · exact absurd hk (q k)
       · simpa using q
      rw [hin] at hlk
      replace hte:=Lib.hid hte
      clear hs hin hk
      go_wp2_with (go_at_call 44; refine hLv.out.mono ?_; rintro e w' ⟨rfl,rfl⟩)
      go_ret
      have e1:=hte.out
      rw [List.append_nil] at e1
      subst e1
      exact ⟨A,cap,by rw [hal.out]; rfl,hA.out,hM.out,hO.out,hA'.out⟩
    · have hLv:=Lib.hid (live_bad hMe.out.2.2.2.1 hx hcd)
      replace hte:=Lib.hid hte
      clear hs hcd hlk
      go_wp2_with (go_at_call 44; refine hLv.out.mono ?_; rintro e w' ⟨rfl,rfl⟩)
      go_ret
      have e1:=hte.out
      rw [List.append_nil] at e1
      subst e1
      exact ⟨A,cap,by rw [hal.out]; rfl,hA.out,hM.out,hO.out,hA'.out⟩
  | @go _ _ k t' hk hnm hr=>
    have hLv:=Lib.hid (live_ok hMe.out.2.2.2.1 hx hk)
    have hin:decide (x∈out.reverse++ms)=false:=by simpa using hnm
    rw [hin] at hlk
    replace hte:=Lib.hid hte
    replace hr:=Lib.hid hr
    replace hk:=Lib.hid hk
    clear hin hnm
    go_wp2_with (first
     | (go_at_call 44; refine hLv.out.mono ?_; rintro e w' ⟨rfl,rfl⟩)
     | (at_mapUpdate
        refine wpList_met rfl _ _ _ rfl B (out.reverse++ms) hM.out (by simp; omega) x hx rfl rfl rfl ?_
        intro w1 hM1 hO1
        have hMe1:=Lib.hid (hMe.out.only hO1 (fun y hy q=>hBm.out y hy q))
        have hA1:=Lib.hid (hA.out.only hO1 (fun y hy q=>by
         subst q
         exact hM.out.no (row_ty hA.out hy)))
        replace hM1:=Lib.hid hM1
        replace hO1:=Lib.hid hO1
        clear m2 hlk)
     | (at_builtin
        refine wpList_append_one w1 rfl (.tmp 38) (.tmp 40) 31 rfl 87 i0 (.int .u64 0) 1 8 Tryz.underlying31 hi0 hz0 hz1 hz2 rfl (by omega) hnd (fun _=>rfl) (by intro x u hu; simp [hnd] at hu; subst hu; rfl)
         A cap (al+out.length) (all++out) (by rw [List.length_append,hal.out]) x #[.int .u64 x] rfl rfl hA1.out rfl (by simp only [maxLen]; omega) (by omega) ?_
        intro A2 cap2 w2 hR2 hO2 hA2
        have hlo:∀ y,In A y→mfoot M y→False:=fun y hy hm=>by
         have h1:=H.out.lt hm
         rcases hA'.out y hy with q | q
         · exact hap.out y q hm
         · omega
        have hMe2:=hMe1.out.only hO2 (fun y hm hy=>hlo y hy hm)
        have hM2:=Lib.hid (hM1.out.only hO2 (fun hy=>hM1.out.no (row_ty hA1.out hy)))
        have m2:=hMe2.hd.2.2.1
        have hRd:=read_ok hMe2.2.2.2.1 hx hk.out
        obtain ⟨e1,e2⟩:=hN.out.at k
        have hOn:=Lib.hid ((hO.out.trans' hO1.out (fun y _ q=>.inl q)).trans' (S:=fun x=>x=B∨In A0 x) hO2 (fun y hy q=>by
         rcases hA'.out y q with q | q
         · exact .inr q
         · omega))
        generalize (at' M.ss k).nd=dd at*
        obtain ⟨ky,vl,sm,nxt⟩:=dd
        simp only at e1
        subst e1
        generalize nx M.ss k=nk at*
        unfold ndv at hRd
        replace hRd:=Lib.hid hRd
        replace hMe2:=Lib.hid hMe2
        replace hR2:=Lib.hid hR2
        replace hA2:=Lib.hid (fun y (hy:In A2 y)=>show In A0 y∨w.heap.size≤y from by
         rcases hA2 y hy with q | q
         · exact hA'.out y q
         · exact .inr (Nat.le_trans (hO.out.trans' hO1.out (fun y _ q=>.inl q)).size q))
        clear hlo hO2)
     | (go_at_call 45
        refine hRd.out.mono ?_
        rintro e w3 ⟨rfl,hB3⟩
        replace hB3:=Lib.hid hB3
        clear m2))
    go_roundw
    case rel=>
     have hOf:=(Only.refl (fun _=>False) w2).below hB3.out
     refine ⟨A2,cap2,out++[x],nk,t',by rw [hal.out,List.length_append]; rfl,rfl,?_,?_,by rw [List.append_assoc]; exact hte.out,by simpa using hr.out,?_,hA2.out,e2⟩
     · rw [← List.append_assoc]
       exact hR2.out.only (hOf.alloc _) (by simp)
     · have:(out++[x]).reverse++ms=x::(out.reverse++ms):=by simp
       rw [this]
       exact hM2.out.only (hOf.alloc _) (by simp)
     · exact (hOn.out.below hB3.out).alloc _
    case measure=>
     have:=hte.out
     have h1:t.length=out.length+(t'.length+1):=by rw [this]; simp
     simp
     omega
end Go.Proofs.YtkogifmjbmnpgaaGreat.Me
namespace Go.Proofs.YtkogifmjbmnpgaaGreat.Me
open Go Go.RowKit Hp K Fl Rw Hm Ar Mm
set_option maxRecDepth 100000
def first (xs:List Int) (ds:List (Nat×Nat)) (b:Nat):Nat:=(Cl.nth xs ((now xs ds).2+b)).toNat
def Chn (xs:List Int) (ds:List (Nat×Nat)) (ss:List Sl) (i:Int) (t:List Nat):Prop:=if 0≤i∧i<(now xs ds).1 then Ch ss [] (first xs ds i.toNat) t else t=[]
def Rch (xs:List Int) (ds:List (Nat×Nat)) (ss:List Sl) (t:List Nat):Prop:=Rh ss (first xs ds) (now xs ds).1 t
def Lists (w:World) (ty:TypeId) (t:List Nat) (e:Ending) (w':World):Prop:=
 ∃ A cap,e=.returned (.slice A t.length cap)∧Row w' ty 1 hnd A cap t∧Below w.heap.size w w'∧∀ x,In A x→w.heap.size≤x
section
variable {w:World} {M:Mo}
set_option maxHeartbeats 1000000 in
theorem chain_any (h:MemAt w M) (hT:Tabs M.xs M.ds) (hx:1<M.xs.length) (hN:Nexts M.ss) (hl:M.ss.length≤1024) (i:Int) (h0: -9223372036854775808≤i) (h1:i≤9223372036854775807) (t:List Nat) (ht:Chn M.xs M.ds M.ss i t):
 Calls Tryz.prog 43 #[ptr M.m,.int .i64 i] w (Lists w 87 t):=by
 have hNow:=now_any h hx
 have hTn:=hT.now
 have H:=Lib.hid h
 have hxl:=h.2.1.2.2.2
 unfold Chn at ht
 obtain ⟨⟨d1,d2⟩,hd⟩:∃ d,now M.xs M.ds=d:=⟨_,rfl⟩
 have hfst:first M.xs M.ds=fun b=>(Cl.nth M.xs (d2+b)).toNat:=by unfold first; rw [hd]
 rw [hd] at hNow hTn
 rw [hd,hfst] at ht
 simp only at ht hTn
 clear hfst hd h
 unfold dv at hNow
 replace hNow:=Lib.hid hNow
 by_cases hi:0≤i∧i<d1
 · rw [if_pos hi] at ht
   obtain ⟨k,rfl⟩:=Int.eq_ofNat_of_zero_le hi.1
   rw [Int.toNat_natCast] at ht
   have hk:k<d1:=by omega
   have htn:=hTn.2.1 (by omega)
   have hF:Hid (∀ w2 B,MemAt w2 M→Met w2 B []→Calls Tryz.prog 56 #[ptr M.m,.slice none 0 0,.int .i64 ((d2:Int)+(k:Int)),.map (some B)] w2 (Followed w2 B none [] [] t)):=Lib.hid fun w2 B h2 hm=>by
    have:=follow_any h2 hN hl (d2+k) (by omega) none 0 [] (Row.nil _ _ _ _) (by simp) B [] hm (by simp) (by simp [In]) t ht
    rw [Int.natCast_add] at this
    exact this
   clear ht hT hTn hN hx h0 h1
   have hmm:=@run_makeMap Tryz.prog
   go_enter Tryz.func43,Tryz.ntmps43
   go_wp2_with (first
    | (go_at_call 16; refine hNow.out.mono ?_; rintro e w1 ⟨rfl,hB1⟩
       have hM1:=Lib.hid (((H.out.below hB1).alloc (.cells #[.int .i64 d1,.int .i64 d2] 51)).alloc (.map #[] 0))
       have hMt:=Met.made (w1.alloc (.cells #[.int .i64 d1,.int .i64 d2] 51))
       rw [World.size_alloc] at hMt
       have hB1a:=Lib.hid ((hB1.alloc (o:=.cells #[.int .i64 d1,.int .i64 d2] 51) hB1.size).alloc (o:=.map #[] 0) (by have:=hB1.size; simp; omega))
       have hFF:=Lib.hid (hF.out _ _ hM1.out hMt)
       replace hMt:=Lib.hid hMt
       replace hB1:=Lib.hid hB1)
    | (go_at_call 56
       refine hFF.out.mono ?_
       rintro e w2 ⟨A2,cap2,rfl,hA2,hM2,hO2,hi2⟩
       have hs1:=hB1.out.size
       have hB2:=Lib.hid (hB1a.out.trans (hO2.toBelow hB1a.out.size (fun y hy q=>by
        rcases q with q | q
        · omega
        · simp [In] at q)))
       have hi2':=Lib.hid (fun y (hy:In A2 y)=>show w.heap.size≤y from by
        rcases hi2 y hy with q | q
        · simp [In] at q
        · have:=hB1.out.size
          simp at q
          omega)
       replace hA2:=Lib.hid hA2
       clear hM2 hO2 hi2))
   go_ret
   exact ⟨A2,cap2,by simp,hA2.out,hB2.out,hi2'.out⟩
 · rw [if_neg hi] at ht
   subst ht
   clear hT hTn hN hx
   by_cases hn:i<0
   · go_enter Tryz.func43,Tryz.ntmps43
     go_wp2_with (go_at_call 16; refine hNow.out.mono ?_; rintro e w1 ⟨rfl,hB1⟩; replace hB1:=Lib.hid hB1)
     go_ret
     exact ⟨none,0,rfl,Row.nil _ _ _ _,hB1.out.trans ((Below.refl _ _).alloc hB1.out.size _),by simp [In]⟩
   · have hi:(d1:Int)≤i:=by omega
     go_enter Tryz.func43,Tryz.ntmps43
     go_wp2_with (go_at_call 16; refine hNow.out.mono ?_; rintro e w1 ⟨rfl,hB1⟩; replace hB1:=Lib.hid hB1)
     go_ret
     exact ⟨none,0,rfl,Row.nil _ _ _ _,hB1.out.trans ((Below.refl _ _).alloc hB1.out.size _),by simp [In]⟩
def RInv (w wr:World) (M:Mo) (B q:Nat) (d:Nat×Nat) (f:Nat→Nat) (v:Value) (b:Nat):Prop:=
 ∃ (A:Option Addr) (cap:Nat) (all ms:List Nat),v=.slice A all.length cap∧Rh M.ss f b all∧Hnds wr A cap all∧Met wr B ms∧(∀ x,x∈all↔x∈ms)∧ms.length≤all.length∧
   MemAt wr M∧Blk wr q 51 #[.int .i64 d.1,.int .i64 d.2]∧Below w.heap.size w wr∧(∀ x,In A x→w.heap.size≤x)∧w.heap.size≤B
set_option maxHeartbeats 1000000 in
theorem reach_any (h:MemAt w M) (hT:Tabs M.xs M.ds) (hx:1<M.xs.length) (hN:Nexts M.ss) (hl:M.ss.length≤1024) (t:List Nat) (ht:Rch M.xs M.ds M.ss t):
 Calls Tryz.prog 24 #[ptr M.m] w (Lists w 87 t):=by
 have hNow:=now_any h hx
 have hTn:=hT.now
 have H:=Lib.hid h
 have hxl:=h.2.1.2.2.2
 unfold Rch at ht
 obtain ⟨⟨d1,d2⟩,hd⟩:∃ d,now M.xs M.ds=d:=⟨_,rfl⟩
 have hfst:first M.xs M.ds=fun b=>(Cl.nth M.xs (d2+b)).toNat:=by unfold first; rw [hd]
 rw [hd] at hNow hTn
 rw [hd,hfst] at ht
 simp only at ht hTn
 clear hfst hd h
 unfold dv at hNow
 replace hNow:=Lib.hid hNow
 have hF:Hid (∀ w2 A cap all B ms u k,k<d1→MemAt w2 M→Hnds w2 A cap all→all.length≤1024→Met w2 B ms→ms.length≤1024→(∀ x,In A x→¬mfoot M x)→Ch M.ss ms (Cl.nth M.xs (d2+k)).toNat u→Calls Tryz.prog 56 #[ptr M.m,.slice A all.length cap,.int .i64 ((d2:Int)+(k:Int)),.map (some B)] w2 (Followed w2 B A all ms u)):=Lib.hid fun w2 A cap all B ms u k hk h2 ha hal hm hml hap hu=>by
  have htn:=hTn.2.1 (by omega)
  have:=follow_any h2 hN hl (d2+k) (by omega) A cap all ha (by omega) B ms hm (by omega) hap u hu
  rw [Int.natCast_add] at this
  exact this
 clear hT hN hx
 have htn1:=hTn.1
 have htn2:=hTn.2.2
 replace hTn:=Lib.hid hTn
 replace ht:=Lib.hid ht
 have hmm:=@run_makeMap Tryz.prog
 go_enter Tryz.func24,Tryz.ntmps24
 go_wp2_with (go_at_call 16; refine hNow.out.mono ?_; rintro e w1 ⟨rfl,hB1⟩
              have hM1:=Lib.hid (H.out.below hB1)
              replace hB1:=Lib.hid hB1)
 have H0:=Lib.hid (show RInv w ((w1.alloc (.cells #[.int .i64 d1,.int .i64 d2] 51)).alloc (.map #[] 0)) M (w1.heap.size+1) w1.heap.size (d1,d2) (fun b=>(Cl.nth M.xs (d2+b)).toNat) (.slice none 0 0) 0 from by
  have hs:=hB1.out.size
  refine ⟨none,0,[],[],rfl,.zero,Row.nil _ _ _ _,?_,by simp,by simp,(hM1.out.alloc _).alloc _,(Blk.made w1 _ _).alloc _,?_,by simp [In],by omega⟩
  · have:=Met.made (w1.alloc (.cells #[.int .i64 d1,.int .i64 d2] 51))
    simpa using this
  · exact (hB1.out.alloc hs _).alloc (by simp; omega) _)
 go_wp2_with fail
 clear hmm
 go_loopw [4,12] (fun v i wr=>∃ b:Nat,b≤d1∧i=.int .i64 b∧RInv w wr M (w1.heap.size+1) w1.heap.size (d1,d2) (fun b=>(Cl.nth M.xs (d2+b)).toNat) v b) (fun _ i _=>d1-(intOf i).toNat)
 case atStart=>exact ⟨0,Nat.zero_le _,rfl,H0.out⟩
 case round=>
  obtain ⟨b,hb,rfl,A,cap,all,ms,rfl,hR,hA,hM,hiff,hml,hMe,hQ,hB,hA',hBw⟩:=hrel
  clear H0
  have hale:=rh_le hl hR
  by_cases hlt:b<d1
  · obtain ⟨u,hu⟩:=ch_any M.ss hl all (Cl.nth M.xs (d2+b)).toNat
    have hFu:=Lib.hid (hF.out wr A cap all (w1.heap.size+1) ms u b hlt hMe hA (by omega) hM (by omega) (fun x hx hm=>by
     have h1:=hA' x hx
     have h2:=H.out.lt hm
     omega) (ch_congr hu ms hiff))
    have c0:=hQ.cell 0
    have c1:=hQ.cell 1
    simp at c0 c1
    replace hA:=Lib.hid hA
    replace hM:=Lib.hid hM
    replace hMe:=Lib.hid hMe
    replace hQ:=Lib.hid hQ
    replace hB:=Lib.hid hB
    replace hA':=Lib.hid hA'
    have hR':=Lib.hid (Rh.succ hR hu)
    have hul:=ch_le hl hu
    replace hiff:=Lib.hid hiff
    clear hu hR
    generalize hal:all.length=al at*
    replace hal:=Lib.hid hal
    go_wp2_with (go_at_call 56
                 refine hFu.out.mono ?_
                 rintro e w2 ⟨A2,cap2,rfl,hA2,hM2,hO2,hi2⟩
                 have hi2':=Lib.hid (fun y (hy:In A2 y)=>show w.heap.size≤y from by
                  rcases hi2 y hy with q | q
                  · exact hA'.out y q
                  · have:=hB.out.size
                    omega)
                 have hMe2:=Lib.hid (hMe.out.only hO2 (fun y hm q=>by
                  have h2:=H.out.lt hm
                  rcases q with q | q
                  · omega
                  · have:=hA'.out y q
                    omega))
                 have hQ2:=Lib.hid (hQ.out.only hO2 (fun q=>by
                  rcases q with q | q
                  · omega
                  · exact (row_ty hA.out q).apart (blk_ty hQ.out) (by decide)))
                 have hB2:=Lib.hid (hB.out.trans (hO2.toBelow hB.out.size (fun y hy q=>by
                  rcases q with q | q
                  · omega
                  · have:=hA'.out y q
                    omega)))
                 replace hA2:=Lib.hid hA2
                 replace hM2:=Lib.hid hM2
                 clear hO2 hi2 c0 c1)
    go_roundw
    case rel=>
     refine ⟨b+1,by omega,by go_num,A2,cap2,all++u,u.reverse++ms,by rw [List.length_append],hR'.out,hA2.out,hM2.out,fun x=>?_,?_,hMe2.out,hQ2.out,hB2.out,hi2'.out,hBw⟩
     · have:=hiff.out x
       simp [this,or_comm]
     · have:=hal.out
       simp
       omega
    case measure=>simp [intOf]; omega
  · obtain rfl:b=d1:=by omega
    obtain rfl:=rh_det hl ht.out _ hR
    have c0:=hQ.cell 0
    simp at c0
    replace hA:=Lib.hid hA
    replace hB:=Lib.hid hB
    replace hA':=Lib.hid hA'
    clear hM hMe hiff hR hQ
    go_wp2_with fail
    go_ret
    exact ⟨A,cap,rfl,hA.out,hB.out,hA'.out⟩
end
end Go.Proofs.YtkogifmjbmnpgaaGreat.Me
namespace Go.Proofs.YtkogifmjbmnpgaaGreat.Mq
open Go Hm Ar Mm Wk Pc Me
abbrev Hp:=Nat×Pr
abbrev hds (q:List Hp):List Nat:=q.map (·.1)
abbrev prs (q:List Hp):List Pr:=q.map (·.2)
abbrev kys (q:List Hp):List ByteArray:=q.map (·.2.1)
inductive Cx (ss:List Sl):Nat→List Hp→Prop
 | nil:Cx ss 0 []
 | cons {x k z:Nat} {p:Pr} {t:List Hp}:IsAt ss x k→(at' ss k).nd=ndp p z→Cx ss z t→Cx ss x ((x,p)::t)
section
variable {ss ss':List Sl} {x:Nat} {q:List Hp}
theorem Cx.pos (h:Cx ss x q):x=0↔q=[]:=by
 cases h with
 | nil=>simp
 | cons a b c=>simp [a.pos]
theorem Cx.ch (h:Cx ss x q):∀ met,(∀ y∈hds q,y∉met)→(hds q).Nodup→Ch ss met x (hds q):=by
 induction h with
 | nil=>intro met _ _; exact .stop (.inl fun k hk=>hk.pos rfl)
 | @cons x k z p t a b c ih=>
   intro met hm hn
   have hn':x∉hds t∧(hds t).Nodup:=List.nodup_cons.1 hn
   refine .go a (hm x (by simp)) ?_
   have e:nx ss k=z:=by unfold nx; rw [b]; rfl
   rw [e]
   refine ih (x::met) (fun y hy q=>?_) hn'.2
   rcases List.mem_cons.1 q with rfl | q
   · exact hn'.1 hy
   · exact hm y (List.mem_cons_of_mem _ hy) q
theorem Cx.at (h:Cx ss x q):∀ e∈q,∃ k z,IsAt ss e.1 k∧(at' ss k).nd=ndp e.2 z:=by
 induction h with
 | nil=>simp
 | @cons x k z p t a b c ih=>
   intro e he
   rcases List.mem_cons.1 he with rfl | he
   · exact ⟨k,z,a,b⟩
   · exact ih e he
theorem Cx.keep (h:Cx ss x q):(∀ y∈hds q,∀ k,IsAt ss y k→IsAt ss' y k∧(at' ss' k).nd=(at' ss k).nd)→Cx ss' x q:=by
 induction h with
 | nil=>intro _; exact .nil
 | @cons x k z p t a b c ih=>
   intro hk
   have:=hk x (by simp) k a
   exact .cons this.1 (this.2.trans b) (ih fun y hy=>hk y (List.mem_cons_of_mem _ hy))
theorem Cx.tail {p:Pr} {t:List Hp} (h:Cx ss x ((x,p)::t)):∃ k z,IsAt ss x k∧(at' ss k).nd=ndp p z∧Cx ss z t:=by
 cases h with
 | cons a b c=>exact ⟨_,_,a,b,c⟩
theorem Cx.head {e:Hp} {t:List Hp} (h:Cx ss x (e::t)):x=e.1:=by
 cases h with
 | cons a b c=>rfl
def lastH (pre:List Hp):Nat:=(hds pre).getLastD 0
theorem lastH_snoc (pre:List Hp) (e:Hp):lastH (pre++[e])=e.1:=by simp [lastH]
theorem lastH_ne {pre:List Hp} (h:Cx ss x (pre++q)) (hp:pre≠[]):lastH pre≠0:=by
 obtain ⟨p0,e,rfl⟩:∃ p0 e,pre=p0++[e]:=⟨pre.dropLast,pre.getLast hp,(List.dropLast_concat_getLast hp).symm⟩
 rw [lastH_snoc]
 obtain ⟨k,z,hk,_⟩:=h.at e (by simp)
 exact hk.pos
theorem Cx.swap {m h kp z:Nat} {e e':Hp} {pr:Pr} {t:List Hp} (hh:IsAt ss' h m) (hnd:(at' ss' m).nd=ndp pr z) (ht:Cx ss' z t):∀ (pre:List Hp) (x:Nat),Cx ss x (pre++e::e'::t)→
 IsAt ss e.1 kp→IsAt ss' e.1 kp→(at' ss' kp).nd=ndp e.2 h→(∀ y∈hds pre,∀ k,IsAt ss y k→IsAt ss' y k∧(at' ss' k).nd=(at' ss k).nd)→Cx ss' x (pre++e::(h,pr)::t):=by
 intro pre
 induction pre with
 | nil=>
   intro x hc h1 h2 h3 _
   cases hc with
   | cons a b c=>exact .cons h2 h3 (.cons hh hnd ht)
 | cons e0 r ih=>
   intro x hc h1 h2 h3 hk
   cases hc with
   | @cons _ k z0 p _ a b c=>
     have:=hk x (by simp) k a
     exact .cons this.1 (this.2.trans b) (ih _ c h1 h2 h3 fun y hy=>hk y (List.mem_cons_of_mem _ hy))
end
/-! ### what is found-/
theorem lk_none {q:List Pr} {key:ByteArray}:lk q key=none↔key∉q.map (·.1):=by
 induction q with
 | nil=>simp [lk]
 | cons p t ih=>
   unfold lk
   by_cases h:p.1=key
   · rw [if_pos h]; simp [h]
   · rw [if_neg h,ih]
     simp [show ¬key=p.1 from fun e=>h e.symm]
theorem lk_mem {q:List Pr} {p:Pr} (hn:(q.map (·.1)).Nodup) (hp:p∈q):lk q p.1=some p.2:=by
 induction q with
 | nil=>simp at hp
 | cons a t ih=>
   have hn':a.1∉t.map (·.1)∧(t.map (·.1)).Nodup:=List.nodup_cons.1 hn
   unfold lk
   rcases List.mem_cons.1 hp with rfl | hp
   · rw [if_pos rfl]
   · rw [if_neg (fun e=>hn'.1 (by rw [e]; exact List.mem_map_of_mem hp)),ih hn'.2 hp]
theorem lk_some_mem {q:List Pr} {key v:ByteArray} (h:lk q key=some v):(key,v)∈q:=by
 induction q with
 | nil=>simp [lk] at h
 | cons a t ih=>
   unfold lk at h
   split at h
   · rename_i e
     injection h with h
     subst h; subst e
     exact List.mem_cons_self
   · exact List.mem_cons_of_mem _ (ih h)
theorem lk_perm {q q':List Pr} (hn:(q.map (·.1)).Nodup) (hp:q.Perm q') (key:ByteArray):lk q key=lk q' key:=by
 have hn':(q'.map (·.1)).Nodup:=(hp.map _).nodup_iff.1 hn
 cases h:lk q key with
 | none=>
   rw [lk_none] at h
   exact ((lk_none.2 fun e=>h ((hp.map _).mem_iff.2 e))).symm
 | some v=>
   have:=hp.mem_iff.1 (lk_some_mem h)
   exact (lk_mem hn' this).symm
structure Upd (l l':List Pr) (key val:ByteArray):Prop where
 nd:(l'.map (·.1)).Nodup
 lk:∀ k,Pc.lk l' k=if k=key then some val else Pc.lk l k
 len:l'.length=if (Pc.lk l key).isSome then l.length else l.length+1
theorem filter_len {l:List Pr} (hn:(l.map (·.1)).Nodup) (key:ByteArray):(l.filter fun p=>decide (p.1≠key)).length+(if (Pc.lk l key).isSome then 1 else 0)=l.length:=by
 induction l with
 | nil=>simp [lk]
 | cons p t ih=>
   have hn':p.1∉t.map (·.1)∧(t.map (·.1)).Nodup:=List.nodup_cons.1 hn
   have:=ih hn'.2
   by_cases h:p.1=key
   · have h0:lk t key=none:=lk_none.2 (by rw [← h]; exact hn'.1)
     rw [h0] at this
     simp only [Option.isSome_none,Bool.false_eq_true,if_false,Nat.add_zero] at this
     simp only [List.filter_cons,h,ne_eq,not_true_eq_false,decide_false,Bool.false_eq_true,if_false,lk,if_true,Option.isSome_some,List.length_cons]
     simp only [ne_eq] at this
     omega
   · simp only [List.filter_cons,h,ne_eq,not_false_eq_true,decide_true,if_true,lk,if_false,List.length_cons]
     simp only [ne_eq] at this
     omega
theorem lk_filter (l:List Pr) (key k:ByteArray):lk (l.filter fun p=>decide (p.1≠key)) k=if k=key then none else lk l k:=by
 induction l with
 | nil=>simp [lk]
 | cons p t ih=>
   by_cases h:p.1=key
   · rw [List.filter_cons,if_neg (by simp [h]),ih]
     split
     · rfl
     · rename_i hk
       conv=>rhs; unfold lk
       rw [if_neg (fun e=>hk (by rw [← e,h]))]
   · rw [List.filter_cons,if_pos (by simp [h])]
     unfold lk
     split
     · rename_i e
       rw [if_neg (fun q=>h (by rw [e,q]))]
     · exact ih
theorem upd_of {l l':List Pr} {key val:ByteArray} (hn:(l.map (·.1)).Nodup) (hp:l'.Perm ((key,val)::l.filter fun p=>decide (p.1≠key))):Upd l l' key val:=by
 have hf:((((key,val)::l.filter fun p=>decide (p.1≠key)):List Pr).map (·.1)).Nodup:=by
  rw [List.map_cons,List.nodup_cons]
  refine ⟨fun q=>?_,(List.filter_sublist.map _).nodup hn⟩
  obtain ⟨p,hp,e⟩:=List.mem_map.1 q
  have:=(List.mem_filter.1 hp).2
  simp [e] at this
 have hn':(l'.map (·.1)).Nodup:=(hp.map _).nodup_iff.2 hf
 refine ⟨hn',fun k=>?_,?_⟩
 · rw [lk_perm hn' hp]
   unfold lk
   by_cases e:key=k
   · rw [if_pos e,if_pos e.symm]
   · rw [if_neg e,if_neg (fun q=>e q.symm),lk_filter,if_neg (fun q=>e q.symm)]
     cases l<;>rfl
 · rw [hp.length_eq,List.length_cons]
   have:=filter_len hn key
   split
   · rename_i e; rw [if_pos e] at this; omega
   · rename_i e; rw [if_neg e] at this; omega
def bkt (key:ByteArray) (n:Nat):Nat:=(FM.bucket (sm key) n).toNat
theorem bkt_lt {n:Nat} (hp:FM.power n=true) (key:ByteArray):bkt key n<n∧FM.bucket (sm key) n=(bkt key n:Nat):=by
 have:=bucket_lt hp (sm key) (sm_bd key).1
 unfold bkt
 omega
end Go.Proofs.YtkogifmjbmnpgaaGreat.Mq
namespace Go.Proofs.YtkogifmjbmnpgaaGreat.LawEl
open Go Go.RowKit Hp K Fl Rw Hm Ar Mm Me LK Wk Pc LawTen
set_option maxRecDepth 100000
def prc (p:Pr):List Value:=[.string p.1,.string p.2]
theorem prc_len (p:Pr):(prc p).length=2:=rfl
abbrev Prs (w:World) (A:Option Addr) (cap:Nat) (l:List Pr):Prop:=Row w 59 2 prc A cap l
def Short (l:List Pr):Prop:=∀ p∈l,p.1.size≤200∧p.2.size≤200
theorem prs_pairs {w:World} {A:Option Addr} {cap:Nat} {l:List Pr} (h:Prs w A cap l) (hs:Short l):PairsAt w A l:=by
 intro i hi
 obtain ⟨b,e,hb,hc⟩:=h.cells prc_len i hi
 have c0:=(hc 0 (by omega)).1
 have c1:=(hc 1 (by omega)).1
 have hp:pat l i=l[i]:=by simp [pat,List.getD,hi]
 have hsz:=hs _ (List.getElem_mem hi)
 refine ⟨b,0,e,hb,?_,?_,by rw [hp]; omega,by rw [hp]; omega⟩
 · rw [hp]; simpa [prc] using c0
 · rw [hp]; simpa [prc] using c1
theorem info_pair:(Tryz.prog.info? 59).map (fun i=>(i.zero,i.size,i.bytes))=some (some (.agg #[.string ⟨#[]⟩,.string ⟨#[]⟩]),2,32):=by kernel_rfl
def PInv (W w:World) (l:List Pr) (key val:ByteArray) (v:Value) (d:Bool) (k:Nat):Prop:=
 ∃ (A:Option Addr) (cap:Nat) (o:List Pr),v=.slice A o.length cap∧Prs w A cap o∧(∀ x,In A x→W.heap.size≤x)∧Below W.heap.size W w∧o.length≤k+1∧
   o.Perm ((if d=true then [(key,val)] else [])++(l.take k).filter fun p=>decide (p.1≠key))
def PutR (W:World) (l:List Pr) (key val:ByteArray) (e:Ending) (w:World):Prop:=
 ∃ (A:Option Addr) (cap:Nat) (o:List Pr),e=.returned (.slice A o.length cap)∧Prs w A cap o∧(∀ x,In A x→W.heap.size≤x)∧Below W.heap.size W w∧o.Perm ((key,val)::l.filter fun p=>decide (p.1≠key))
theorem take_yes {l:List Pr} {k:Nat} {key:ByteArray} (hk:k<l.length) (h:(pat l k).1≠key):((l.take (k+1)).filter fun p=>decide (p.1≠key))=((l.take k).filter fun p=>decide (p.1≠key))++[pat l k]:=by
 have e:l[k]?=some (pat l k):=by simp [pat,List.getD,hk]
 rw [List.take_add_one,e,List.filter_append]
 simp [h]
theorem take_no {l:List Pr} {k:Nat} {key:ByteArray} (hk:k<l.length) (h:(pat l k).1=key):((l.take (k+1)).filter fun p=>decide (p.1≠key))=(l.take k).filter fun p=>decide (p.1≠key):=by
 have e:l[k]?=some (pat l k):=by simp [pat,List.getD,hk]
 rw [List.take_add_one,e,List.filter_append]
 simp [h]
set_option maxHeartbeats 1000000 in
theorem refput_any (W:World) (l:List Pr) (A:Option Addr) (cap:Nat) (hl:l.length≤1000000) (hP:PairsAt W A l) (key val:ByteArray):
 Calls Tryz.prog 41 #[.slice A l.length cap,.string key,.string val] W (PutR W l key val):=by
 have hI:=Lib.hid (show PInv W W l key val (.slice none 0 0) false 0 from ⟨none,0,[],rfl,Row.nil _ _ _ _,by simp [In],Below.refl _ _,by simp,by simp⟩)
 obtain ⟨i0,hi0,hz0,hz1,hz2⟩:=info_parts info_pair
 replace hP:=Lib.hid hP
 generalize hln:l.length=len at*
 replace hln:=Lib.hid hln
 go_enter Tryz.func41,Tryz.ntmps41
 go_wp2_with fail
 go_loopw [7,8,9] (fun v d i wr=>∃ (k:Nat) (c:Bool),k≤len∧i=.int .i64 k∧d=.bool c∧PInv W wr l key val v c k) (fun _ _ i _=>len-(intOf i).toNat)
 case atStart=>exact ⟨0,false,Nat.zero_le _,rfl,rfl,hI.out⟩
 case round=>
  obtain ⟨k,c,hk,rfl,rfl,A1,cap1,o,rfl,hR,hA,hB,hol,hp⟩:=hrel
  clear hI
  generalize hom:o.length=m at*
  replace hom:=Lib.hid hom
  replace hR:=Lib.hid hR
  replace hA:=Lib.hid hA
  replace hp:=Lib.hid hp
  by_cases hlt:k<len
  · obtain ⟨b,of,rfl,hb,c0,c1,s0,s1⟩:=hP.out k (by rw [hln.out]; exact hlt)
    rw [← hB.cell (p:=⟨b,_,none⟩) hb] at c0 c1
    have hbr:b<wr.heap.size:=by have:=hB.size; omega
    replace hB:=Lib.hid hB
    have hty:=fun q=>take_yes (l:=l) (k:=k) (key:=key) (by rw [hln.out]; exact hlt) q
    have htn:=fun q=>take_no (l:=l) (k:=k) (key:=key) (by rw [hln.out]; exact hlt) q
    generalize hpp:pat l k=p at*
    obtain ⟨pk,pv⟩:=p
    simp only at c0 c1 s0 s1 hty htn
    replace hty:=Lib.hid hty
    replace htn:=Lib.hid htn
    replace hpp:=Lib.hid hpp
    have hsz:=hB.out.size
    have tf:(true=true)=True:=by simp
    by_cases hk2:pk=key
    · have hn:=htn.out hk2
      subst hk2
      cases c with
      | true=>
        go_wp2_with fail
        go_roundw
        case rel=>exact ⟨k+1,true,by omega,by go_num,rfl,A1,cap1,o,by rw [hom.out],hR.out,hA.out,hB.out,by have:=hom.out; omega,by rw [hn]; exact hp.out⟩
        case measure=>simp [intOf]; omega
      | false=>
        cases hbl:Op.bytesLess pk.toList pk.toList with
        | true=>
          go_wp2_with fail
          go_roundw
          case rel=>exact ⟨k+1,false,by omega,by go_num,rfl,A1,cap1,o,by rw [hom.out],hR.out,hA.out,hB.out,by have:=hom.out; omega,by rw [hn]; exact hp.out⟩
          case measure=>simp [intOf]; omega
        | false=>
          go_wp2_with
           (at_builtin
            refine wpList_append_one wr rfl (.tmp 27) (.tmp 31) 48 rfl 59 i0 (.agg #[.string ⟨#[]⟩,.string ⟨#[]⟩]) 2 32 Tryz.underlying48 hi0 hz0 hz1 hz2 rfl (by omega) prc (fun _=>rfl) (by intro x u hu; simp [prc] at hu; rcases hu with rfl | rfl<;>rfl)
             A1 cap1 m o hom.out (pk,val) #[.string pk,.string val] rfl rfl hR.out rfl (by simp only [maxLen]; omega) (by omega) ?_
            intro A2 cap2 w2 hR2 hO2 hA2
            have hcc0:w2.cell? ⟨b,of+k*2,none⟩=some (.string pk):=by
             rw [hO2.cell (p:=⟨b,_,none⟩) hbr (fun q=>by have:=hA.out b q; omega)]; exact c0
            have HP:=Lib.hid (show PInv W w2 l pk val (.slice A2 (m+1) cap2) true (k+1) from ⟨A2,cap2,o++[(pk,val)],by rw [List.length_append,hom.out]; rfl,hR2,fun x hx=>by
             rcases hA2 x hx with q | q
             · exact hA.out x q
             · omega,hB.out.trans (hO2.toBelow hsz (fun x hx q=>by have:=hA.out x q; omega)),by rw [List.length_append,hom.out]; simp; omega,by
             rw [hn]
             refine (List.perm_append_comm).trans ?_
             have:=hp.out
             simp only [if_true]
             exact List.Perm.cons _ (by simpa using this)⟩)
            clear c0 hR2 hO2 hA2)
          go_roundw
          case rel=>exact ⟨k+1,true,by omega,by go_num,rfl,HP.out⟩
          case measure=>simp [intOf]; omega
    · have hy:=hty.out hk2
      have hb2:=bytes_ne hk2
      replace hk2:=Lib.hid hk2
      have hone:∀ (w2:World) (A2:Option Addr) (cap2:Nat) (c:Bool),Hid (o.Perm ((if c=true then [(key,val)] else [])++List.filter (fun p=>decide (p.1≠key)) (List.take k l)))→Prs w2 A2 cap2 (o++[(pk,pv)])→Only (In A1) wr w2→(∀ x,In A2 x→In A1 x∨wr.heap.size≤x)→PInv W w2 l key val (.slice A2 (m+1) cap2) c (k+1):=fun w2 A2 cap2 c hp hR2 hO2 hA2=>
       ⟨A2,cap2,o++[(pk,pv)],by rw [List.length_append,hom.out]; rfl,hR2,fun x hx=>by
        rcases hA2 x hx with q | q
        · exact hA.out x q
        · omega,hB.out.trans (hO2.toBelow hsz (fun x hx q=>by have:=hA.out x q; omega)),by rw [List.length_append,hom.out]; simp; omega,by
        rw [hy,← List.append_assoc]
        exact List.Perm.append_right _ hp.out⟩
      replace hone:=Lib.hid hone
      cases c with
      | true=>
        go_wp2_with
         (at_builtin
          refine wpList_append_one wr rfl (.tmp 40) (.tmp 45) 48 rfl 59 i0 (.agg #[.string ⟨#[]⟩,.string ⟨#[]⟩]) 2 32 Tryz.underlying48 hi0 hz0 hz1 hz2 rfl (by omega) prc (fun _=>rfl) (by intro x u hu; simp [prc] at hu; rcases hu with rfl | rfl<;>rfl)
           A1 cap1 m o hom.out (pk,pv) #[.string pk,.string pv] rfl rfl hR.out rfl (by simp only [maxLen]; omega) (by omega) ?_
          intro A2 cap2 w2 hR2 hO2 hA2)
        have HP:=Lib.hid (hone.out w2 A2 cap2 true hp hR2 hO2 hA2)
        clear hR2 hO2 hA2
        go_wp2_with fail
        go_roundw
        case rel=>exact ⟨k+1,true,by omega,by go_num,rfl,HP.out⟩
        case measure=>simp [intOf]; omega
      | false=>
        cases hbl:Op.bytesLess pk.toList key.toList with
        | true=>
          go_wp2_with
           (at_builtin
            refine wpList_append_one wr rfl (.tmp 40) (.tmp 45) 48 rfl 59 i0 (.agg #[.string ⟨#[]⟩,.string ⟨#[]⟩]) 2 32 Tryz.underlying48 hi0 hz0 hz1 hz2 rfl (by omega) prc (fun _=>rfl) (by intro x u hu; simp [prc] at hu; rcases hu with rfl | rfl<;>rfl)
             A1 cap1 m o hom.out (pk,pv) #[.string pk,.string pv] rfl rfl hR.out rfl (by simp only [maxLen]; omega) (by omega) ?_
            intro A2 cap2 w2 hR2 hO2 hA2)
          have HP:=Lib.hid (hone.out w2 A2 cap2 false hp hR2 hO2 hA2)
          clear hR2 hO2 hA2
          go_wp2_with fail
          go_roundw
          case rel=>exact ⟨k+1,false,by omega,by go_num,rfl,HP.out⟩
          case measure=>simp [intOf]; omega
        | false=>
          go_wp2_with (first
           | (at_builtin
              refine wpList_append_one wr rfl (.tmp 27) (.tmp 31) 48 rfl 59 i0 (.agg #[.string ⟨#[]⟩,.string ⟨#[]⟩]) 2 32 Tryz.underlying48 hi0 hz0 hz1 hz2 rfl (by omega) prc (fun _=>rfl) (by intro x u hu; simp [prc] at hu; rcases hu with rfl | rfl<;>rfl)
               A1 cap1 m o hom.out (key,val) #[.string key,.string val] rfl rfl hR.out rfl (by simp only [maxLen]; omega) (by omega) ?_
              intro A2 cap2 w2 hR2 hO2 hA2
              have hcc0:w2.cell? ⟨b,of+k*2,none⟩=some (.string pk):=by
               rw [hO2.cell (p:=⟨b,_,none⟩) hbr (fun q=>by have:=hA.out b q; omega)]; exact c0
              have hcc1:w2.cell? ⟨b,of+k*2+1,none⟩=some (.string pv):=by
               rw [hO2.cell (p:=⟨b,_,none⟩) hbr (fun q=>by have:=hA.out b q; omega)]; exact c1
              have hsz2:=hO2.size
              have hB2:=Lib.hid (hB.out.trans (hO2.toBelow hsz (fun x hx q=>by have:=hA.out x q; omega)))
              have hA2':=Lib.hid (fun x (hx:In A2 x)=>show W.heap.size≤x from by
               rcases hA2 x hx with q | q
               · exact hA.out x q
               · omega)
              replace hR2:=Lib.hid hR2
              have hom2:=Lib.hid (show (o++[(key,val)]).length=m+1 by rw [List.length_append,hom.out]; rfl)
              clear c0 c1 hO2 hA2)
           | (at_builtin
              refine wpList_append_one w2 rfl (.tmp 40) (.tmp 45) 48 rfl 59 i0 (.agg #[.string ⟨#[]⟩,.string ⟨#[]⟩]) 2 32 Tryz.underlying48 hi0 hz0 hz1 hz2 rfl (by omega) prc (fun _=>rfl) (by intro x u hu; simp [prc] at hu; rcases hu with rfl | rfl<;>rfl)
               A2 cap2 (m+1) (o++[(key,val)]) hom2.out (pk,pv) #[.string pk,.string pv] rfl rfl hR2.out rfl (by simp only [maxLen]; omega) (by omega) ?_
              intro A3 cap3 w3 hR3 hO3 hA3
              have HP:=Lib.hid (show PInv W w3 l key val (.slice A3 (m+1+1) cap3) true (k+1) from ⟨A3,cap3,o++[(key,val)]++[(pk,pv)],by rw [List.length_append,hom2.out]; rfl,hR3,fun x hx=>by
               rcases hA3 x hx with q | q
               · exact hA2'.out x q
               · omega,hB2.out.trans (hO3.toBelow hB2.out.size (fun x hx q=>by have:=hA2'.out x q; omega)),by rw [List.length_append,hom2.out]; simp; have:=hom.out; have:=hp.out.length_eq; have:=List.length_filter_le (fun p:Pr=>decide (p.1≠key)) (List.take k l); simp at*; omega,by
               rw [hy]
               have:=hp.out
               simp only [if_true]
               simp only [Bool.false_eq_true,if_false,List.nil_append] at this
               rw [List.append_assoc]
               refine (List.Perm.append_right _ this).trans ?_
               rw [← List.append_assoc,← List.append_assoc]
               exact List.Perm.append_right _ List.perm_append_comm⟩)
              clear hR3 hO3 hA3))
          go_roundw
          case rel=>exact ⟨k+1,true,by omega,by go_num,rfl,HP.out⟩
          case measure=>simp [intOf]; omega
  · obtain rfl:k=len:=by omega
    have hpe:=hp.out
    have e1:List.take k l=l:=by rw [← hln.out]; exact List.take_length
    rw [e1] at hpe
    cases c with
    | true=>
      replace hpe:=Lib.hid hpe
      replace hB:=Lib.hid hB
      clear e1 hp
      go_wp2_with fail
      go_ret
      exact ⟨A1,cap1,o,by rw [hom.out]; rfl,hR.out,hA.out,hB.out,by simpa using hpe.out⟩
    | false=>
      replace hpe:=Lib.hid hpe
      replace hB:=Lib.hid hB
      clear e1 hp
      go_wp2_with
       (at_builtin
        refine wpList_append_one wr rfl (.tmp 49) (.tmp 53) 48 rfl 59 i0 (.agg #[.string ⟨#[]⟩,.string ⟨#[]⟩]) 2 32 Tryz.underlying48 hi0 hz0 hz1 hz2 rfl (by omega) prc (fun _=>rfl) (by intro x u hu; simp [prc] at hu; rcases hu with rfl | rfl<;>rfl)
         A1 cap1 m o hom.out (key,val) #[.string key,.string val] rfl rfl hR.out rfl (by simp only [maxLen]; omega) (by omega) ?_
        intro A2 cap2 w2 hR2 hO2 hA2)
      have hsz:=hB.out.size
      have HP:=Lib.hid (show Prs w2 A2 cap2 (o++[(key,val)])∧(∀ x,In A2 x→W.heap.size≤x)∧Below W.heap.size W w2 from ⟨hR2,fun x hx=>by
       rcases hA2 x hx with q | q
       · exact hA.out x q
       · omega,hB.out.trans (hO2.toBelow hsz (fun x hx q=>by have:=hA.out x q; omega))⟩)
      clear hR2 hO2 hA2
      go_wp2_with fail
      go_ret
      refine ⟨A2,cap2,o++[(key,val)],by rw [List.length_append,hom.out]; rfl,HP.out.1,HP.out.2.1,HP.out.2.2,?_⟩
      have:=hpe.out
      simp only [Bool.false_eq_true,if_false,List.nil_append] at this
      exact List.perm_append_comm.trans (List.Perm.cons _ this)
end Go.Proofs.YtkogifmjbmnpgaaGreat.LawEl
namespace Go.Proofs.YtkogifmjbmnpgaaGreat.Pn
open Go Go.RowKit Hp K Fl Rw Hm Ar Mm Me
set_option maxRecDepth 100000
structure Lm where
 xs:List Int
 hs:List Int
 ss:List Sl
 F:Bool
 k:Int
 ds:List (Nat×Nat)
 ws:List Nat
abbrev lm (M:Mo):Lm:=⟨M.xs,M.hs,M.ss,M.F,M.k,M.ds,M.ws⟩
structure Kin (w:World) (M M':Mo):Prop where
 m:M'.m=M.m
 g:M'.g=M.g
 lg:M'.lg=M.lg
 ar:M'.ar=M.ar
 foot:∀ x,mfoot M' x→mfoot M x∨w.heap.size≤x
theorem Kin.refl (w:World) (M:Mo):Kin w M M:=⟨rfl,rfl,rfl,rfl,fun _ h=>.inl h⟩
theorem Kin.trans {w w':World} {M M' M'':Mo} (h:Kin w M M') (h':Kin w' M' M'') (hs:w.heap.size≤w'.heap.size):Kin w M M'':=
 ⟨h'.m.trans h.m,h'.g.trans h.g,h'.lg.trans h.lg,h'.ar.trans h.ar,fun x hx=>by
  rcases h'.foot x hx with q | q
  · exact h.foot x q
  · exact .inr (Nat.le_trans hs q)⟩
def freePl (ss:List Sl):Option Nat:=(List.range ss.length).find? fun i=> !(at' ss i).taken
theorem freePl_some {ss:List Sl} {m:Nat}:freePl ss=some m↔Least ss m:=by
 unfold freePl Least
 rw [List.find?_range_eq_some]
 simp only [List.mem_range,Bool.not_eq_true',Bool.not_eq_eq_eq_not,Bool.not_true,Bool.not_false]
 constructor
 · rintro ⟨a,b,c⟩
   exact ⟨b,a,c⟩
 · rintro ⟨a,b,c⟩
   exact ⟨b,a,c⟩
theorem freePl_none {ss:List Sl}:freePl ss=none↔∀ k,k<ss.length→(at' ss k).taken=true:=by
 unfold freePl
 rw [List.find?_range_eq_none]
 simp
theorem fin_steps {S:Type} {rd:S→Bool} {st:S→S} {dn:S→Bool} (R:Nat→S→Prop) (Q:S→Prop)
 (h:∀ k s,R k s→rd s=true∧1≤k∧(dn s=true→Q (st s))∧(dn s=false→R (k-1) (st s))):
 ∀ K k s,R k s→k≤K→∃ n s',fin rd st dn K s=(n,true,s')∧n≤k∧Q s':=by
 intro K
 induction K with
 | zero=>
   intro k s hR hk
   have:=(h k s hR).2.1
   omega
 | succ K ih=>
   intro k s hR hk
   obtain ⟨h1,h2,h3,h4⟩:=h k s hR
   unfold fin
   rw [if_pos h1]
   cases hd:dn s with
   | true=>exact ⟨1,_,by simp,h2,h3 hd⟩
   | false=>
     obtain ⟨n,s',e,hn,hq⟩:=ih (k-1) (st s) (h4 hd) (by omega)
     exact ⟨n+1,s',by rw [if_neg (by simp),e],by omega,hq⟩
end Go.Proofs.YtkogifmjbmnpgaaGreat.Pn
namespace Go.Proofs.YtkogifmjbmnpgaaGreat.Pn
open Go Go.RowKit Hp K Fl Rw Hm Ar Mm Me
set_option maxRecDepth 100000
structure Lay (A P:Type) where
 f:A→Nat
 At:World→A→P→Prop
 foot:A→P→Nat→Prop
section
variable {A P:Type}
def Lay.Stp (X:Lay A P) (w:World) (M:Mo) (a:A) (p:P) (L':Lm) (p':P) (w':World):Prop:=
 ∃ M' a',MemAt w' M'∧lm M'=L'∧Kin w M M'∧X.At w' a' p'∧X.f a'=X.f a∧(∀ x,X.foot a' p' x→X.foot a p x∨w.heap.size≤x)∧Only (fun x=>mfoot M x∨X.foot a p x) w w'
def Lay.Inv (X:Lay A P) (M0:Mo) (a0:A) (p0:P) (w0:World) (s:Lm×P) (w:World):Prop:=
 ∃ M a,MemAt w M∧lm M=s.1∧Kin w0 M0 M∧X.At w a s.2∧X.f a=X.f a0∧(∀ x,X.foot a s.2 x→X.foot a0 p0 x∨w0.heap.size≤x)∧Only (fun x=>mfoot M0 x∨X.foot a0 p0 x) w0 w
structure Frm (X:Lay A P) (T:TypeId) (fr fs:Nat) (Ok:Lm→P→Prop) (rd:Lm→P→Bool) (st:Lm→P→Lm×P) (dn:Lm→P→Bool):Prop where
 below:∀ {w w':World} {a:A} {p:P},X.At w a p→Below w.heap.size w w'→X.At w' a p
 mr:∀ (b:Nat) (w:World) (f:Nat),(method (f+1) T (.pointer (some ⟨b,0,none⟩)) "Ready").run Tryz.prog w=.ok (fr,.pointer (some ⟨b,0,none⟩)) w
 ms:∀ (b:Nat) (w:World) (f:Nat),(method (f+1) T (.pointer (some ⟨b,0,none⟩)) "Step").run Tryz.prog w=.ok (fs,.pointer (some ⟨b,0,none⟩)) w
 er:∀ args w,(callFunc fr args).run Tryz.prog w=.ok (.enter fr args) w
 es:∀ args w,(callFunc fs args).run Tryz.prog w=.ok (.enter fs args) w
 ready:∀ {w:World} {M:Mo} {a:A} {p:P},MemAt w M→X.At w a p→Ok (lm M) p→Calls Tryz.prog fr #[ptr (X.f a),ptr M.m] w fun e w'=>e=.returned (.bool (rd (lm M) p))∧Below w.heap.size w w'
 step:∀ {w:World} {M:Mo} {a:A} {p:P},MemAt w M→X.At w a p→Ok (lm M) p→rd (lm M) p=true→Calls Tryz.prog fs #[ptr (X.f a),ptr M.m] w fun e w'=>e=.returned (.bool (dn (lm M) p))∧X.Stp w M a p (st (lm M) p).1 (st (lm M) p).2 w'
variable {X:Lay A P} {T:TypeId} {fr fs:Nat} {Ok:Lm→P→Prop} {rd:Lm→P→Bool} {st:Lm→P→Lm×P} {dn:Lm→P→Bool}
variable {w w0:World} {M0:Mo} {a0:A} {p0:P} {s:Lm×P}
theorem Lay.Inv.start {M:Mo} {a:A} {p:P} (hM:MemAt w M) (hP:X.At w a p):X.Inv M a p w (lm M,p) w:=⟨M,a,hM,rfl,Kin.refl _ _,hP,rfl,fun _ q=>.inl q,Only.refl _ _⟩
theorem Lay.Inv.stepped (F:Frm X T fr fs Ok rd st dn) (h:X.Inv M0 a0 p0 w0 s w) (ok:Ok s.1 s.2) (hr:rd s.1 s.2=true):
 Calls Tryz.prog fs #[ptr (X.f a0),ptr M0.m] w fun e w'=>e=.returned (.bool (dn s.1 s.2))∧X.Inv M0 a0 p0 w0 (st s.1 s.2) w':=by
 obtain ⟨M,a,hM,e,hK,hP,ea,hf,hO⟩:=h
 have hs:=F.step hM hP (by rw [e]; exact ok) (by rw [e]; exact hr)
 rw [e,hK.m,ea] at hs
 refine hs.mono fun e1 w' q=>⟨q.1,?_⟩
 obtain ⟨M',a',hM',e',hK',hP',ea',hf',hO'⟩:=q.2
 have hsz:=hO.size
 refine ⟨M',a',hM',e',hK.trans hK' hsz,hP',ea'.trans ea,?_,hO.trans' hO' ?_⟩
 · intro x q
   rcases hf' x q with q | q
   · exact hf x q
   · exact .inr (by omega)
 · rintro x hx (q | q)
   · rcases hK.foot x q with q | q
     · exact .inl q
     · omega
   · rcases hf x q with q | q
     · exact .inr q
     · omega
theorem Lay.Inv.readied (F:Frm X T fr fs Ok rd st dn) (h:X.Inv M0 a0 p0 w0 s w) (ok:Ok s.1 s.2):
 Calls Tryz.prog fr #[ptr (X.f a0),ptr M0.m] w fun e w'=>e=.returned (.bool (rd s.1 s.2))∧X.Inv M0 a0 p0 w0 s w':=by
 obtain ⟨M,a,hM,e,hK,hP,ea,hf,hO⟩:=h
 have hs:=F.ready hM hP (by rw [e]; exact ok)
 rw [e,hK.m,ea] at hs
 exact hs.mono fun e1 w' q=>⟨q.1,M,a,hM.below q.2,e,hK,F.below hP q.2,ea,hf,hO.below q.2⟩
theorem finish_frm (F:Frm X T fr fs Ok rd st dn) {M:Mo} {a:A} {p:P} (hM:MemAt w M) (hP:X.At w a p) (R:Nat→Lm×P→Prop) (Q:Lm×P→Prop)
 (hR:∀ k s,R k s→Ok s.1 s.2∧rd s.1 s.2=true∧1≤k∧(dn s.1 s.2=true→Q (st s.1 s.2))∧(dn s.1 s.2=false→R (k-1) (st s.1 s.2)))
 (k K:Nat) (h0:R k (lm M,p)) (hk:k≤K) (hK:K≤1000000):
 Calls Tryz.prog 9 #[ptr M.m,.iface T (ptr (X.f a)),.int .i64 K] w fun e w'=>∃ (n:Nat) (s:Lm×P),e=.returned (.tuple #[.int .i64 n,.bool true])∧(n≤k∧fin (fun s:Lm×P=>rd s.1 s.2) (fun s=>st s.1 s.2) (fun s=>dn s.1 s.2) K (lm M,p)=(n,true,s))∧Q s∧X.Inv M a p w s w':=by
 obtain ⟨n,s',e,hn,hq⟩:=fin_steps (rd:=fun s:Lm×P=>rd s.1 s.2) (st:=fun s=>st s.1 s.2) (dn:=fun s=>dn s.1 s.2) R Q (fun k s h=>(hR k s h).2) K k (lm M,p) h0 hk
 have:=finish_n T fr fs (X.f a) (ptr M.m) (X.Inv M a p w) (fun _ s=>∃ k,R k s) (fun s:Lm×P=>rd s.1 s.2) (fun s=>st s.1 s.2) (fun s=>dn s.1 s.2)
  (F.mr _) (F.ms _) F.er F.es ?_ ?_ ?_ K hK (lm M,p) ⟨k,h0⟩ w (Lay.Inv.start hM hP)
 · rw [e] at this
   exact this.mono fun e1 w' q=>⟨n,s',q.1,⟨hn,e⟩,hq,q.2⟩
 · rintro _ s w1 hI ⟨k,hr⟩
   exact hI.readied F (hR k s hr).1
 · rintro _ s w1 hI ⟨k,hr⟩ hrd
   exact hI.stepped F (hR k s hr).1 hrd
 · rintro _ s ⟨k,hr⟩ hrd hd
   exact ⟨k-1,(hR k s hr).2.2.2.2 hd⟩
end
end Go.Proofs.YtkogifmjbmnpgaaGreat.Pn
namespace Go.Proofs.YtkogifmjbmnpgaaGreat.Ta
open Go Go.RowKit Hp K Fl Rw Hm Ar Mm Me
set_option maxRecDepth 100000
abbrev fn0 (F:Nat):Value:=.func (.func F) #[] #[]
abbrev fnm (F:Nat) (v:Value):Value:=.func (.func F) #[v] #[]
structure Ho where
 f:Nat
 worker:Int
 sum:Int
 nx:Nat
 num:Nat
 d:Nat×Nat
 lock:Nat
 holds:Bool
def rdv (nx f:Nat):Value:=if nx=2 then fnm 139 (ptr f) else fn0 106
def nxv (nx f:Nat):Value:=if nx=1 then fnm 107 (ptr f) else if nx=2 then fnm 140 (ptr f) else if nx=3 then fnm 160 (ptr f) else if nx=4 then fnm 174 (ptr f) else fn0 175
def hoc (H:Ho):Array Value:=#[.int .i64 H.worker,.int .u32 H.sum,rdv H.nx H.f,nxv H.nx H.f,.int .u64 H.num,.int .i64 H.d.1,.int .i64 H.d.2,.int .i64 H.lock,.bool H.holds]
def HoAt (w:World) (H:Ho):Prop:=Blk w H.f 167 (hoc H)
def lkn (s:Int) (d:Nat×Nat):Nat:=(1+FM.bucket s d.1 % 4).toNat
theorem lkn_eq {s:Int} (d:Nat×Nat) (hs:0≤s):1+FM.bucket s d.1 % 4=((lkn s d:Nat):Int):=by
 have:=bucket_bd s d.1 hs
 unfold lkn
 omega
theorem lkn_bd {s:Int} (d:Nat×Nat) (hs:0≤s):1≤lkn s d∧lkn s d≤4:=by
 have:=bucket_bd s d.1 hs
 unfold lkn
 omega
structure Okh (M:Mo) (H:Ho):Prop where
 sum:0≤H.sum∧H.sum<4294967296
 wk:0≤H.worker∧H.worker≤9223372036854775807
 hl:4<M.hs.length
 xl:1<M.xs.length
 num:H.num≤18446744073709551615
 dn:(tab M.ds H.num).1≤65536
theorem Okh.lb {M:Mo} {H:Ho} (h:Okh M H):lkn H.sum (tab M.ds H.num)<M.hs.length:=by
 have:=lkn_bd (tab M.ds H.num) h.sum.1
 have:=h.hl
 omega
section
variable {w w':World} {M:Mo} {H:Ho}
theorem HoAt.far (h:HoAt w H) (hM:MemAt w M):¬mfoot M H.f:=fun hx=>(hM.ty hx).apart (blk_ty h) (by decide)
theorem HoAt.only {S:Nat→Prop} (h:HoAt w H) (ho:Only S w w') (hn:¬S H.f):HoAt w' H:=Blk.only h ho hn
theorem HoAt.below (h:HoAt w H) (hb:Below w.heap.size w w'):HoAt w' H:=h.only (Only.ofBelow hb (fun _=>False)) (by simp)
theorem HoAt.drewN (h:HoAt w H) (n:Nat):HoAt (w.drewN n) H:=h.only ((Only.refl (fun _=>False) w).drewN n) (by simp)
theorem HoAt.hd (h:HoAt w H):w.cell? ⟨H.f,0,none⟩=some (.int .i64 H.worker)∧w.cell? ⟨H.f,1,none⟩=some (.int .u32 H.sum)∧w.cell? ⟨H.f,2,none⟩=some (rdv H.nx H.f)∧w.cell? ⟨H.f,3,none⟩=some (nxv H.nx H.f)∧
 w.cell? ⟨H.f,4,none⟩=some (.int .u64 H.num)∧w.cell? ⟨H.f,5,none⟩=some (.int .i64 H.d.1)∧w.cell? ⟨H.f,6,none⟩=some (.int .i64 H.d.2)∧w.cell? ⟨H.f,7,none⟩=some (.int .i64 H.lock)∧w.cell? ⟨H.f,8,none⟩=some (.bool H.holds):=
 ⟨h.cell 0,h.cell 1,h.cell 2,h.cell 3,h.cell 4,h.cell 5,h.cell 6,h.cell 7,h.cell 8⟩
end
theorem always_any (m:Value) (w:World):Calls Tryz.prog 106 #[m] w fun e w'=>e=.returned (.bool true)∧w'=w:=by
 go_enter Tryz.func106,Tryz.ntmps106
 go_wp2
 go_ret
 exact ⟨rfl,rfl⟩
theorem done_any (m:Value) (w:World):Calls Tryz.prog 175 #[m] w fun e w'=>e=.returned (.bool true)∧w'=w:=by
 go_enter Tryz.func175,Tryz.ntmps175
 go_wp2
 go_ret
 exact ⟨rfl,rfl⟩
theorem goOn_any {f F G:Nat} {a b:Array Value} {w:World} {u2 u3:Value} (c2:w.cell? ⟨f,2,none⟩=some u2) (c3:w.cell? ⟨f,3,none⟩=some u3) (z2:w.frozen? ⟨f,2,none⟩=false) (z3:w.frozen? ⟨f,3,none⟩=false):
 Calls Tryz.prog 105 #[ptr f,.func (.func F) a #[],.func (.func G) b #[]] w fun e w'=>e=.returned (.tuple #[])∧w'=(w.setCell ⟨f,2,none⟩ (.func (.func F) a #[])).setCell ⟨f,3,none⟩ (.func (.func G) b #[]):=by
 go_enter Tryz.func105,Tryz.ntmps105
 go_wp2
 go_end0
 exact ⟨rfl,rfl⟩
theorem new_hold (k s:Int) (w:World):Calls Tryz.prog 73 #[.int .i64 k,.int .u32 s] w fun e w'=>e=.returned (ptr w.heap.size)∧HoAt w' ⟨w.heap.size,k,s,1,0,(0,0),0,false⟩∧Below w.heap.size w w':=by
 go_enter Tryz.func73,Tryz.ntmps73
 go_wp2_with fail
 refine (goOn_any (u2:=.nilFunc) (u3:=.nilFunc) ((Blk.made w _ _).cell 2) ((Blk.made w _ _).cell 3) ((Blk.made w _ _).frozen 2) ((Blk.made w _ _).frozen 3)).mono ?_
 rintro e w1 ⟨rfl,hw⟩
 have hB:HoAt w1 ⟨w.heap.size,k,s,1,0,(0,0),0,false⟩:=by
  rw [hw]
  exact ((Blk.made w _ _).store 2 _).store 3 _
 have hb:Below w.heap.size w w1:=by
  rw [hw]
  exact (((Below.refl _ _).alloc (Nat.le_refl _) _).setCell (by simp) _).setCell (by simp) _
 replace hB:=Lib.hid hB
 replace hb:=Lib.hid hb
 clear hw
 go_wp2_with fail
 go_ret
 exact ⟨rfl,hB.out,hb.out⟩
section
variable {w:World} {M:Mo} {H:Ho}
theorem loaded_any (hM:MemAt w M) (hH:HoAt w H) (hn:H.num≤18446744073709551615):
 Calls Tryz.prog 159 #[ptr H.f,ptr M.m] w fun e w'=>e=.returned (dv (tab M.ds H.num))∧Below w.heap.size w w':=by
 obtain ⟨c0,c1,c2,c3,c4,c5,c6,c7,c8⟩:=hH.hd
 have hl:=row_len hM.2.2.2.2.1
 have lM:=hM.1.lt
 have lf:=hH.lt
 by_cases hg:9223372036854775807<H.num
 · rw [tab_none (by omega)]
   clear hM hH c0 c1 c2 c3 c5 c6 c7 c8
   generalize H.num=z at*
   generalize H.f=f at*
   go_enter Tryz.func159,Tryz.ntmps159
   go_wp2
   exact bodyPost_ret (v:=dv (0,0)) (by simp [results,Tryz.results159,go_sem,dv]) rfl ⟨rfl,by first | exact ((Below.refl _ _).alloc (Nat.le_refl _) _) | exact (((Below.refl _ _).alloc (Nat.le_refl _) _).setCell (by simp) _).setCell (by simp) _⟩
 · have hD:Hid (∀ o,Calls Tryz.prog 51 #[ptr M.m,.int .i64 H.num] (w.alloc o) fun e w'=>∃ b,e=.returned (.tuple #[.agg #[.int .i64 (tab M.ds H.num).1,.int .i64 (tab M.ds H.num).2],.bool b])∧Below (w.alloc o).heap.size (w.alloc o) w'):=Lib.hid fun o=>by
    by_cases hi:H.num<M.ds.length
    · exact (desc_in (hM.alloc o) H.num hi).mono fun e w' h=>⟨true,h⟩
    · rw [tab_none (by omega)]
      exact (desc_out (hM.alloc o) H.num (by omega) (by omega) (.inr (by omega))).mono fun e w' h=>⟨false,h⟩
   clear hM hH c0 c1 c2 c3 c5 c6 c7 c8
   have e1:IntKind.i64.wrap (H.num:Int)=H.num:=IntWalk.i64_in _ (by omega)
   generalize tab M.ds H.num=d at*
   generalize H.num=z at*
   generalize H.f=f at*
   go_enter Tryz.func159,Tryz.ntmps159
   go_wp2_with fail
   refine (hD.out _).mono ?_
   rintro e w1 ⟨b,rfl,hb⟩
   have hB1:Blk w1 w.heap.size 51 #[.int .i64 0,.int .i64 0]:=(Blk.made w _ _).only (Only.ofBelow hb (fun _=>False)) (by simp)
   have k0:=hB1.cell 0
   have k1:=hB1.cell 1
   have z0:=hB1.frozen 0
   have z1:=hB1.frozen 1
   simp at k0 k1
   have hlt:=hB1.lt
   have hb':Below w.heap.size w w1:=((Below.refl _ _).alloc (Nat.le_refl _) _).trans (hb.mono (by simp))
   replace hb':=Lib.hid hb'
   clear hb hB1 hD c4
   go_wp2_with fail
   exact bodyPost_ret (v:=dv d) (by simp [results,Tryz.results159,go_sem,dv,k0,k1,hlt]) rfl ⟨rfl,((hb'.out.setCell (by simp) _).setCell (by simp) _).alloc (by simp; omega) _⟩
end
end Go.Proofs.YtkogifmjbmnpgaaGreat.Ta
namespace Go.Proofs.YtkogifmjbmnpgaaGreat.Ta
open Go Go.RowKit Hp K Fl Rw Hm Ar Mm Me
set_option maxRecDepth 100000
theorem desc_n (a b:Int) (w:World):(Instr.field 51 (.agg #[.int .i64 a,.int .i64 b]) 0).run Tryz.prog w=.ok (.int .i64 a) w:=by kernel_rfl
section
variable {w w':World} {M:Mo} {H:Ho}
theorem foot_cells:∀ x,Cl.foot M.g M.A x→mfoot M x:=fun _ h=>.inr (.inl h)
theorem foot_locks:∀ x,Lo.foot M.lg M.lb x→mfoot M x:=fun _ h=>.inr (.inr (.inl h))
theorem HoAt.keep {S:Nat→Prop} (h:HoAt w H) (hM:MemAt w M) (ho:Only S w w') (hS:∀ x,S x→mfoot M x):HoAt w' H:=h.only ho (fun hs=>h.far hM (hS _ hs))
theorem writer_lk {s:Int} {d:Nat×Nat} (hs:0≤s∧s<4294967296) (hd:d.1≤65536) (w:World):Calls Tryz.prog 158 #[.int .u32 s,.int .i64 d.1] w fun e w'=>e=.returned (.int .i64 (lkn s d))∧w=w':=by
 have h:=writer_any s d.1 w hs.1 hs.2 (by omega) (by omega)
 rw [lkn_eq d hs.1] at h
 exact h
def freeB (M:Mo) (H:Ho):Bool:=decide (Lo.hol M.hs (lkn H.sum (tab M.ds H.num))= -1)
set_option maxHeartbeats 1000000 in
theorem mayTake_any (hM:MemAt w M) (hH:HoAt w H) (ok:Okh M H):
 Calls Tryz.prog 139 #[ptr H.f,ptr M.m] w fun e w'=>e=.returned (.bool (freeB M H))∧Below w.heap.size w w':=by
 obtain ⟨c0,c1,c2,c3,c4,c5,c6,c7,c8⟩:=hH.hd
 have d1:=hM.hd.2.1
 have lM:=hM.1.lt
 have lf:=hH.lt
 have hL:=Lib.hid (fun nq=>(loaded_any (hM.drewN nq) (hH.drewN nq) ok.num).mono fun e w2 h=>And.intro h.1 (show Below w.heap.size w w2 from (show Below w.heap.size w (w.drewN nq) from ⟨rfl,rfl,rfl,Nat.le_refl _,fun _ _=>rfl⟩).trans h.2))
 have hW:=Lib.hid (fun w=>writer_lk (d:=tab M.ds H.num) ok.sum ok.dn w)
 have hO:=Lib.hid (fun w' (hb:Below w.heap.size w w')=>Lo.holder_in (hM.below hb).2.2.1 _ ok.lb)
 have hk:=lkn_bd (tab M.ds H.num) ok.sum.1
 have hb:=Lo.hol_bd hM.2.2.1.2.2.1 (lkn H.sum (tab M.ds H.num))
 have hw:=ok.wk.1
 have hw':decide (0≤H.worker)=true:=by simpa using hw
 have hFB:freeB M H=decide (Lo.hol M.hs (lkn H.sum (tab M.ds H.num))= -1):=rfl
 rw [hFB]
 unfold dv at hL
 clear hFB hM hH ok c2 c3 c4 c5 c6 c7 c8
 generalize Lo.hol M.hs (lkn H.sum (tab M.ds H.num))=z at*
 generalize lkn H.sum (tab M.ds H.num)=k at*
 generalize tab M.ds H.num=d at*
 generalize H.f=f at*
 have bc:∀ w',Below w.heap.size w w'→w'.cell? ⟨M.m,1,none⟩=some (ptr M.lg)∧w'.cell? ⟨f,0,none⟩=some (.int .i64 H.worker)∧w'.cell? ⟨f,1,none⟩=some (.int .u32 H.sum):=fun w' hb=>by
  have h:=bcell hb
  exact ⟨(h.1 _ 1 lM).trans d1,(h.1 _ 0 lf).trans c0,(h.1 _ 1 lf).trans c1⟩
 replace bc:=Lib.hid bc
 have dn:=desc_n
 go_enter Tryz.func139,Tryz.ntmps139
 go_wp2_with fail
 go_region_held3 (fun w'=>w'.cell? ⟨M.m,1,none⟩=some (ptr M.lg)∧w'.cell? ⟨f,0,none⟩=some (.int .i64 H.worker)∧w'.cell? ⟨f,1,none⟩=some (.int .u32 H.sum)) (go_keep)
  (first
    | (go_at_call 159
       refine (hL.out 1).mono ?_
       rintro e w2 ⟨rfl,hb2⟩
       obtain ⟨s1,s2,s3⟩:=bc.out w2 hb2
       have hO2:=Lib.hid (hO.out w2 hb2)
       replace hb2:=Lib.hid hb2)
    | (go_at_call 158
       refine (hW.out _).mono ?_
       rintro e w3 ⟨rfl,rfl⟩)
    | (go_at_call 68
       refine hO2.out.mono ?_
       rintro e w4 ⟨rfl,hw4⟩
       obtain rfl:w2=w4:=hw4.symm))
 all_goals
  go_wp2_with fail
  go_ret
  exact ⟨K.ret_bool (by simp [BEq.beq]),hb2.out⟩
theorem HoAt.goes (h:Blk w H.f 167 (hoc H)) (n:Nat):Blk ((w.setCell ⟨H.f,2,none⟩ (rdv n H.f)).setCell ⟨H.f,3,none⟩ (nxv n H.f)) H.f 167 (hoc {H with nx:=n}):=(h.store 2 _).store 3 _
theorem HoAt.frz (h:HoAt w H):w.frozen? ⟨H.f,2,none⟩=false∧w.frozen? ⟨H.f,3,none⟩=false∧w.frozen? ⟨H.f,4,none⟩=false∧w.frozen? ⟨H.f,5,none⟩=false∧w.frozen? ⟨H.f,6,none⟩=false∧w.frozen? ⟨H.f,7,none⟩=false∧w.frozen? ⟨H.f,8,none⟩=false:=
 ⟨h.frozen 2,h.frozen 3,h.frozen 4,h.frozen 5,h.frozen 6,h.frozen 7,h.frozen 8⟩
theorem goOn_goes (h:HoAt w H) {F G n:Nat} {a b:Array Value} (e1:rdv n H.f=.func (.func F) a #[]) (e2:nxv n H.f=.func (.func G) b #[]):
 Calls Tryz.prog 105 #[ptr H.f,.func (.func F) a #[],.func (.func G) b #[]] w fun e w'=>e=.returned (.tuple #[])∧HoAt w' {H with nx:=n}∧Only (·=H.f) w w':=by
 refine (goOn_any h.hd.2.2.1 h.hd.2.2.2.1 h.frz.1 h.frz.2.1).mono ?_
 rintro e w' ⟨rfl,rfl⟩
 refine ⟨rfl,?_,((Only.refl (·=H.f) w).setCell (.inl rfl) _).setCell (.inl rfl) _⟩
 have:=HoAt.goes h n
 rw [e1,e2] at this
 exact this
theorem load_any (hM:MemAt w M) (hH:HoAt w H) (hx:1<M.xs.length):
 Calls Tryz.prog 107 #[ptr H.f,ptr M.m] w fun e w'=>e=.returned (.bool false)∧HoAt w' {H with nx:=2,num:=(Cl.nth M.xs 1).toNat}∧Only (·=H.f) w w':=by
 have hL:=Lib.hid (Cl.load_in hM.2.1 1 hx)
 have c4:=hH.hd.2.2.2.2.1
 have z4:=hH.frz.2.2.1
 have d0:=hM.hd.1
 have hv:=Cl.getD_bd hM.2.1.2.2.1 1
 obtain ⟨z,hz⟩:=Int.eq_ofNat_of_zero_le hv.1
 rw [hz] at hL ⊢
 rw [Int.toNat_natCast]
 have HH:=Lib.hid hH
 clear hM hH hv hz
 go_enter Tryz.func107,Tryz.ntmps107
 go_wp2_with (go_at_call 42; refine hL.out.mono ?_; rintro e w' ⟨rfl,hw⟩; obtain rfl:w=w':=hw.symm)
 have hS:HoAt (w.setCell ⟨H.f,4,none⟩ (.int .u64 z)) {H with num:=z}:=Blk.store HH.out 4 _
 have hS2:=Lib.hid (((Only.refl (·=H.f) w).setCell (p:=⟨H.f,4,none⟩) (.inl rfl) (.int .u64 z)))
 refine (goOn_goes hS (n:=2) rfl rfl).mono ?_
 rintro e w2 ⟨rfl,hB2,hO2⟩
 replace hB2:=Lib.hid hB2
 replace hO2:=Lib.hid hO2
 clear hS
 go_wp2_with fail
 go_ret
 exact ⟨rfl,hB2.out,hS2.out.trans hO2.out⟩
end
end Go.Proofs.YtkogifmjbmnpgaaGreat.Ta
namespace Go.Proofs.YtkogifmjbmnpgaaGreat.Ta
open Go Go.RowKit Hp K Fl Rw Hm Ar Mm Me
set_option maxRecDepth 100000
section
variable {w w':World} {M:Mo} {H:Ho}
set_option maxHeartbeats 2000000 in
theorem take_free (hM:MemAt w M) (hH:HoAt w H) (ok:Okh M H) (hf:Lo.hol M.hs (lkn H.sum (tab M.ds H.num))<0):
 Calls Tryz.prog 140 #[ptr H.f,ptr M.m] w fun e w'=>e=.returned (.bool false)∧MemAt w' {M with hs:=M.hs.set (lkn H.sum (tab M.ds H.num)) H.worker}∧
  HoAt w' {H with nx:=3,d:=tab M.ds H.num,lock:=lkn H.sum (tab M.ds H.num)}∧Only (fun x=>mfoot M x∨x=H.f) w w':=by
 obtain ⟨c0,c1,c2,c3,c4,c5,c6,c7,c8⟩:=hH.hd
 have d1:=hM.hd.2.1
 have lM:=hM.1.lt
 have lf:=hH.lt
 have hL:=Lib.hid (loaded_any hM hH ok.num)
 have hW:=Lib.hid (fun w=>writer_lk (d:=tab M.ds H.num) ok.sum ok.dn w)
 have hk:=lkn_bd (tab M.ds H.num) ok.sum.1
 have hT:=Lib.hid (fun w' (hb:Below w.heap.size w w') nq=>Lo.try_free ((hM.below hb).drewN nq).2.2.1 _ ok.lb H.worker ok.wk.1 ok.wk.2 hf)
 have HM:=Lib.hid hM
 have HH:=Lib.hid hH
 have bc:∀ w',Below w.heap.size w w'→w'.cell? ⟨M.m,1,none⟩=some (ptr M.lg)∧w'.cell? ⟨H.f,0,none⟩=some (.int .i64 H.worker)∧w'.cell? ⟨H.f,1,none⟩=some (.int .u32 H.sum):=fun w' hb=>by
  have h:=bcell hb
  exact ⟨(h.1 _ 1 lM).trans d1,(h.1 _ 0 lf).trans c0,(h.1 _ 1 lf).trans c1⟩
 replace bc:=Lib.hid bc
 unfold dv at hL
 clear hM hH ok hf c0 c1 c2 c3 c4 c5 c6 c7 c8 d1
 generalize hkk:lkn H.sum (tab M.ds H.num)=k at*
 generalize hdd:tab M.ds H.num=d at*
 replace hkk:=Lib.hid hkk
 replace hdd:=Lib.hid hdd
 go_enter Tryz.func140,Tryz.ntmps140
 go_wp2_with fail
 refine hL.out.mono ?_
 rintro e w1 ⟨rfl,hb1⟩
 have hsz:=hb1.size
 obtain ⟨s1,s2,s3⟩:=bc.out w1 hb1
 replace hb1:=Lib.hid hb1
 have lM1:M.m<w1.heap.size:=by omega
 have lf1:H.f<w1.heap.size:=by omega
 clear hL
 go_wp2_with fail
 obtain ⟨b,hbb⟩:∃ b,b=w1.heap.size:=⟨_,rfl⟩
 rw [← hbb]
 have hB:Blk (w1.alloc (.cells #[.int .i64 d.1,.int .i64 d.2] 51)) b 51 #[.int .i64 d.1,.int .i64 d.2]:=by rw [hbb]; exact Blk.made w1 _ _
 have hb2:=hb1.out.alloc (o:=.cells #[.int .i64 d.1,.int .i64 d.2] 51) hsz
 generalize w1.alloc (.cells #[.int .i64 d.1,.int .i64 d.2] 51)=w2 at*
 replace hbb:=Lib.hid hbb
 clear s1 s2 s3
 obtain ⟨s1,s2,s3⟩:=bc.out w2 hb2
 have k0:=hB.cell 0
 have k1:=hB.cell 1
 simp at k0 k1
 have hsz2:=hb2.size
 have lb:=hB.lt
 replace hB:=Lib.hid hB
 replace hb2:=Lib.hid hb2
 have dn:=desc_n
 go_quiet ((go_at_call 158; exact Calls.quiet_of_same ((hW.out _).mono fun _ _ h=>⟨h.1,h.2.symm⟩)))
 obtain ⟨w3,hw3⟩:∃ w3,w3=w2.drewN nq:=⟨_,rfl⟩
 have hB3:Blk w3 b 51 #[.int .i64 d.1,.int .i64 d.2]:=by rw [hw3]; exact hB.out
 have hb3:Below w.heap.size w w3:=by rw [hw3]; exact hb2.out.trans ⟨rfl,rfl,rfl,Nat.le_refl _,fun _ _=>rfl⟩
 rw [← hw3]
 replace hw3:=Lib.hid hw3
 clear s1 s2 s3 k0 k1
 obtain ⟨s1,s2,s3⟩:=bc.out w3 hb3
 have hT3:=Lib.hid (hT.out w3 hb3 1)
 have hX3:=Lib.hid (fun w4 (hL:Lo.LocksAt w4 M.lg M.lb (M.hs.set k H.worker)) (hO:Only (Lo.foot M.lg M.lb) (w3.drewN 1) w4)=>by
  have hO':Only (Lo.foot M.lg M.lb) w3 w4:=((Only.refl (Lo.foot M.lg M.lb) w3).drewN 1).trans hO
  have hM3:=HM.out.below hb3
  have hH3:=HH.out.below hb3
  exact (⟨hM3.locks hL hO',hH3.keep hM3 hO' foot_locks,Blk.only hB3 hO' (fun hx=>(locks_ty hM3.2.2.1 hx).apart (blk_ty hB3) (by decide)),(Only.ofBelow hb3 (fun x=>mfoot M x∨x=H.f)).trans (hO'.mono (fun x _ q=>.inl (foot_locks _ q)))⟩:
   MemAt w4 {M with hs:=M.hs.set k H.worker}∧HoAt w4 H∧Blk w4 b 51 #[.int .i64 d.1,.int .i64 d.2]∧Only (fun x=>mfoot M x∨x=H.f) w w4))
 replace hB3:=Lib.hid hB3
 replace hb3:=Lib.hid hb3
 clear hB hb2 hT hW
 go_wp2_with fail
 go_region_held3 (fun w'=>w'.cell? ⟨M.m,1,none⟩=some (ptr M.lg)∧w'.cell? ⟨H.f,0,none⟩=some (.int .i64 H.worker)) (go_keep)
  (first
    | (go_at_call 70
       refine hT3.out.mono ?_
       rintro e w4 ⟨rfl,hL4,hO4⟩
       obtain ⟨hM4,hH4,hB4,hO4'⟩:=hX3.out w4 hL4 hO4
       have t1:=hM4.hd.2.1
       have t2:=hH4.hd.1
       have t5:=hH4.hd.2.2.2.2.2.1
       have t6:=hH4.hd.2.2.2.2.2.2.1
       have t7:=hH4.hd.2.2.2.2.2.2.2.1
       obtain ⟨_,_,_,y5,y6,y7,_⟩:=hH4.frz
       have k0:=hB4.cell 0
       have k1:=hB4.cell 1
       simp at t1 k0 k1
       replace hM4:=Lib.hid hM4
       replace hH4:=Lib.hid hH4
       replace hB4:=Lib.hid hB4
       replace hO4':=Lib.hid hO4'
       clear hL4 hO4))
 all_goals
  go_wp2_with fail
  have hS:HoAt (((w4.setCell ⟨H.f,5,none⟩ (.int .i64 d.1)).setCell ⟨H.f,6,none⟩ (.int .i64 d.2)).setCell ⟨H.f,7,none⟩ (.int .i64 k)) {H with d:=d,lock:=k}:=((hH4.out.store 5 _).store 6 _).store 7 _
  have hOS:=Lib.hid ((((hO4'.out.setCell (p:=⟨H.f,5,none⟩) (.inl (.inr rfl)) (.int .i64 d.1)).setCell (p:=⟨H.f,6,none⟩) (.inl (.inr rfl)) (.int .i64 d.2))).setCell (p:=⟨H.f,7,none⟩) (.inl (.inr rfl)) (.int .i64 k))
  have hMS:=hM4.out.only (((((Only.refl (·=H.f) w4).setCell (p:=⟨H.f,5,none⟩) (.inl rfl) (.int .i64 d.1)).setCell (p:=⟨H.f,6,none⟩) (.inl rfl) (.int .i64 d.2))).setCell (p:=⟨H.f,7,none⟩) (.inl rfl) (.int .i64 k)) (fun x hx q=>by subst q; exact hH4.out.far hM4.out hx)
  refine (goOn_goes hS (n:=3) rfl rfl).mono ?_
  rintro e w5 ⟨rfl,hH5,hO5⟩
  have hM5:=Lib.hid (hMS.only hO5 (fun x hx q=>by subst q; exact hS.far hMS hx))
  replace hH5:=Lib.hid hH5
  have hO5':=Lib.hid (hOS.out.trans (hO5.mono (fun x _ q=>.inr q)))
  clear hS hMS hO5 t1 t2 t5 t6 t7 y5 y6 y7 k0 k1 s1 s2 s3
  go_wp2_with fail
  go_ret
  exact ⟨rfl,hM5.out,hH5.out,hO5'.out⟩
end
end Go.Proofs.YtkogifmjbmnpgaaGreat.Ta
