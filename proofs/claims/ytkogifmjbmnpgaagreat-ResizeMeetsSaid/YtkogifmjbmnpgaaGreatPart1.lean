/- Walks and plain mathematics, put together in their order: QsbrE, AwakeOne, LawKit, LawTwoA, AwakeThree, AwakeFour, LawFiveA, Made, LawSixA, LawNineA, LawFnv, TenA, Frm, MixA, ThG, MixB, MixC, Bytes. -/
import Derived.Test.YtkogifmjbmnpgaaGreatQsbrD
import Derived.Test.YtkogifmjbmnpgaaGreatFinish
import Derived.Test.YtkogifmjbmnpgaaGreatFnvWalk
import Derived.Test.YtkogifmjbmnpgaaGreatKit
import Derived.Carry
import Derived.ProofKit
import Derived.OpenShut
import Derived.Below
import Derived.Deep.Slices
import Derived.Deep.Fields
import Derived.Test.YtkogifmjbmnpgaaGreatRows
import Derived.Test.YtkogifmjbmnpgaaGreatCellsWalk
import Derived.Test.YtkogifmjbmnpgaaGreatLocksWalk
import Derived.Test.YtkogifmjbmnpgaaGreatRowKit
import Derived.Test.YtkogifmjbmnpgaaGreatArenaMake
import Derived.Test.YtkogifmjbmnpgaaGreatMemNew
import Derived.Test.YtkogifmjbmnpgaaGreatWalkD
import Derived.Test.YtkogifmjbmnpgaaGreatPairs
import Derived.Test.YtkogifmjbmnpgaaGreatGetC
import Derived.Test.YtkogifmjbmnpgaaGreatLm
import Derived.Test.YtkogifmjbmnpgaaGreatFinishN
import Derived.Test.YtkogifmjbmnpgaaGreatGetD
import Derived.Test.YtkogifmjbmnpgaaGreatWayC
import Derived.Deep.DeepCutAuto
import Derived.Deep.CutBlock
set_option linter.unusedVariables false
set_option linter.unusedSimpArgs false
namespace Go.Proofs.YtkogifmjbmnpgaaGreat.Qs
open Go Go.RowKit Hp K Fl Rw Hm Ar Mm Me
set_option maxRecDepth 100000
theorem mrW (a:Addr) (w:World) (f:Nat):(method (f+1) 156 (.pointer (some a)) "Ready").run Tryz.prog w=.ok (204,.pointer (some a)) w:=by kernel_rfl
theorem msW (a:Addr) (w:World) (f:Nat):(method (f+1) 156 (.pointer (some a)) "Step").run Tryz.prog w=.ok (205,.pointer (some a)) w:=by kernel_rfl
theorem mrC (a:Addr) (w:World) (f:Nat):(method (f+1) 177 (.pointer (some a)) "Ready").run Tryz.prog w=.ok (253,.pointer (some a)) w:=by kernel_rfl
theorem msC (a:Addr) (w:World) (f:Nat):(method (f+1) 177 (.pointer (some a)) "Step").run Tryz.prog w=.ok (148,.pointer (some a)) w:=by kernel_rfl
theorem mrG (a:Addr) (w:World) (f:Nat):(method (f+1) 179 (.pointer (some a)) "Ready").run Tryz.prog w=.ok (254,.pointer (some a)) w:=by kernel_rfl
theorem msG (a:Addr) (w:World) (f:Nat):(method (f+1) 179 (.pointer (some a)) "Step").run Tryz.prog w=.ok (180,.pointer (some a)) w:=by kernel_rfl
theorem erW (args:Array Value) (w:World):(callFunc 204 args).run Tryz.prog w=.ok (.enter 204 args) w:=by kernel_rfl
theorem esW (args:Array Value) (w:World):(callFunc 205 args).run Tryz.prog w=.ok (.enter 205 args) w:=by kernel_rfl
theorem erC (args:Array Value) (w:World):(callFunc 253 args).run Tryz.prog w=.ok (.enter 253 args) w:=by kernel_rfl
theorem esC (args:Array Value) (w:World):(callFunc 148 args).run Tryz.prog w=.ok (.enter 148 args) w:=by kernel_rfl
theorem erG (args:Array Value) (w:World):(callFunc 254 args).run Tryz.prog w=.ok (.enter 254 args) w:=by kernel_rfl
theorem esG (args:Array Value) (w:World):(callFunc 180 args).run Tryz.prog w=.ok (.enter 180 args) w:=by kernel_rfl
section
variable {w:World} {M:Mo} {f:Nat} {W:Wt} {C:Cm}
def rdW (s:List Int×List Int×Wt):Bool:=readyB s.1 s.2.1 s.2.2
def stW (n:Nat) (s:List Int×List Int×Wt):List Int×List Int×Wt:=wstep n s.1 s.2.1 s.2.2
def dnW (s:List Int×List Int×Wt):Bool:=decide (s.2.2.at_=3)
def InvW (w0:World) (M:Mo) (f:Nat) (s:List Int×List Int×Wt) (w:World):Prop:=MemAt w {M with xs:=s.1,hs:=s.2.1}∧WtAt w f s.2.2∧Only (fun x=>mfoot M x∨x=f) w0 w
theorem finish_wait {n:Nat} (hM:MemAt w M) (hf:WtAt w f W) (hn:M.k=n) (ok:Okw n M.xs M.hs W) (K:Nat) (hK:K≤1000000):
 Calls Tryz.prog 9 #[ptr M.m,.iface 156 (ptr f),.int .i64 K] w fun e w'=>e=.returned (.tuple #[.int .i64 (fin rdW (stW n) dnW K (M.xs,M.hs,W)).1,.bool (fin rdW (stW n) dnW K (M.xs,M.hs,W)).2.1])∧
  InvW w M f (fin rdW (stW n) dnW K (M.xs,M.hs,W)).2.2 w':=by
 refine finish_gen 156 204 205 f (ptr M.m) (InvW w M f) (fun s=>Okw n s.1 s.2.1 s.2.2) rdW (stW n) dnW (mrW _) (msW _) erW esW ?_ ?_ ?_ K hK (M.xs,M.hs,W) ok w ⟨hM,hf,Only.refl _ _⟩
 · rintro s w1 ⟨h1,h2,h3⟩ ok
   exact (ready_any h1 h2 ok.hl (fun q=>by have:=ok.passed; have:=ok.xl; have:=ok.n1; exact ⟨by show 2+s.2.2.passed<s.1.length; omega,by omega⟩) (by have:=ok.at_; omega)).mono fun e w' ⟨h,nq,q⟩=>by
    subst q
    exact ⟨h,h1.drewN nq,h2.only ((Only.refl (fun _=>False) w1).drewN nq) (by simp),h3.drewN nq⟩
 · rintro s w1 ⟨h1,h2,h3⟩ ok hr
   exact (wait_step (M:={M with xs:=s.1,hs:=s.2.1}) h1 h2 hn ok hr).mono fun e w' h=>⟨h.1,h.2.1,h.2.2.1,h3.trans h.2.2.2⟩
 · intro s ok hr hd
   exact ok.step hr (by simpa [dnW] using hd)
def InvC (w0:World) (M:Mo) (f:Nat) (s:List Int×Cm) (w:World):Prop:=MemAt w {M with xs:=s.1}∧CmAt w f s.2∧Only (fun x=>mfoot M x∨x=f) w0 w
def stC (s:List Int×Cm):List Int×Cm:=cstep s.1 s.2
theorem finish_coming (hM:MemAt w M) (hf:CmAt w f C) (ha:C.at_≤1) (hk:2+C.worker<M.xs.length) (hp:C.worker≤1000) (hv:0≤C.period∧C.period≤18446744073709551615) (K:Nat) (hK:K≤1000000):
 Calls Tryz.prog 9 #[ptr M.m,.iface 177 (ptr f),.int .i64 K] w fun e w'=>e=.returned (.tuple #[.int .i64 (fin (fun _=>true) stC (fun s=>decide (s.2.at_=1)) K (M.xs,C)).1,.bool (fin (fun _=>true) stC (fun s=>decide (s.2.at_=1)) K (M.xs,C)).2.1])∧
  InvC w M f (fin (fun _=>true) stC (fun s=>decide (s.2.at_=1)) K (M.xs,C)).2.2 w':=by
 refine finish_gen 177 253 148 f (ptr M.m) (InvC w M f) (fun s=>s.2.at_≤1∧s.2.worker=C.worker∧s.1.length=M.xs.length∧(0≤s.2.period∧s.2.period≤18446744073709551615)∧(∀ x∈s.1,0≤x∧x≤18446744073709551615))
  (fun _=>true) stC (fun s=>decide (s.2.at_=1)) (mrC _) (msC _) erC esC ?_ ?_ ?_ K hK (M.xs,C) ⟨ha,rfl,rfl,hv,hM.2.1.2.2.1⟩ w ⟨hM,hf,Only.refl _ _⟩
 · rintro s w1 ⟨h1,h2,h3⟩ ok
   exact (coming_ready _ w1).mono fun e w' ⟨h,q⟩=>by
    subst q
    exact ⟨h,h1,h2,h3⟩
 · rintro s w1 ⟨h1,h2,h3⟩ ⟨o1,o2,o3,o4,o5⟩ hr
   exact (coming_step (M:={M with xs:=s.1}) h1 h2 o1 (by show 2+s.2.worker<s.1.length; omega) (by omega) o4).mono fun e w' h=>⟨h.1,h.2.1,h.2.2.1,h3.trans h.2.2.2⟩
 · rintro s ⟨o1,o2,o3,o4,o5⟩ hr hd
   have h0:s.2.at_=0:=by
    have:¬s.2.at_=1:=by simpa using hd
    omega
   have e:stC s=(s.1,{s.2 with period:=Cl.nth s.1 0,at_:=1}):=by unfold stC cstep; rw [if_pos h0]
   rw [e]
   exact ⟨by simp,o2,o3,Cl.getD_bd o5 0,o5⟩
theorem finish_going {k:Nat} (hM:MemAt w M) (hf:GgAt w f k 0) (hk:2+k<M.xs.length) (hp:k≤1000) (K:Nat) (hK:K≤1000000) (h1K:1≤K):
 Calls Tryz.prog 9 #[ptr M.m,.iface 179 (ptr f),.int .i64 K] w fun e w'=>e=.returned (.tuple #[.int .i64 1,.bool true])∧
  MemAt w' {M with xs:=M.xs.set (2+k) 0}∧GgAt w' f k 1∧Only (fun x=>mfoot M x∨x=f) w w':=by
 have h:=finish_gen 179 254 180 f (ptr M.m) (fun (s:Bool) w'=>MemAt w' {M with xs:=if s=true then M.xs.set (2+k) 0 else M.xs}∧GgAt w' f k (if s=true then 1 else 0)∧Only (fun x=>mfoot M x∨x=f) w w') (fun s=>s=false)
  (fun _=>true) (fun _=>true) (fun _=>true) (mrG _) (msG _) erG esG (fun s w1 h _=>(going_ready _ w1).mono fun e w' ⟨h',q⟩=>by
    subst q
    exact ⟨h',h⟩) (fun s w1 h o _=>by
    subst o
    exact (going_step (M:=M) h.1 h.2.1 hk hp).mono fun e w' h'=>⟨h'.1,h'.2.1,h'.2.2.1,h.2.2.trans h'.2.2.2⟩) (fun s _ _ h=>by simp at h) K hK false rfl w ⟨hM,hf,Only.refl _ _⟩
 obtain ⟨j,rfl⟩:∃ j,K=j+1:=⟨K-1,by omega⟩
 simpa [fin] using h
end
end Go.Proofs.YtkogifmjbmnpgaaGreat.Qs
namespace Go.Proofs.YtkogifmjbmnpgaaGreat.AwOne
open Go.RowKit Fnv
theorem sum_a:FM.sum [97]=3826002220:=by decide+kernel
set_option maxHeartbeats 400000 in
theorem awake (w:World):Calls Tryz.prog 150 #[] w fun e w'=>e=.returned (.bool true)∧w'=w:=by
 go_enter Tryz.func150,Tryz.ntmps150
 go_wp2_with fail
 refine (sum_any ⟨#[97]⟩ _ (by decide)).mono ?_
 rintro e w' ⟨rfl,rfl⟩
 rw [show FM.sum (ByteArray.mk #[97]).data.toList=3826002220 from sum_a]
 go_wp2_with fail
 refine (power_any 8 _ (by omega) (by omega)).mono ?_
 rintro e w' ⟨rfl,rfl⟩
 rw [show FM.power 8=true from by decide]
 go_wp2_with fail
 refine (power_any 0 _ (by omega) (by omega)).mono ?_
 rintro e w' ⟨rfl,rfl⟩
 rw [show FM.power 0=false from by decide]
 go_wp2
 go_ret
 exact ⟨rfl,rfl⟩
end Go.Proofs.YtkogifmjbmnpgaaGreat.AwOne
namespace Go.Proofs.YtkogifmjbmnpgaaGreat.LK
open Go.RowKit Go.WideShapes Go.ChangeShapes
theorem own:ownKnob Tryz.prog.godebug=none:=by kernel_rfl
theorem all_stay {H:Type} {enc:TypeId×Value→H} {P:Program} {W W':World} (hl:laidOutB P=true) (hB:Below W.heap.size W W'):
 ∀ (ts:List TypeId) (vs:List Value) (ds:List (DataW H)) (ps:List MemPlace),(∀ t∈ts,P.readableRec t=true∧t<P.types.size)→(∀ p∈ps,p.block<W.heap.size)→
   DataW.TrodAll enc P W 0 (fun _=>true) true ts vs ds ps→DataW.TrodAll enc P W' 0 (fun b=>decide (b<W.heap.size)) true ts vs ds ps
 | [],[],[],_,_,_,h=>h
 | t::ts,v::vs,d::ds,ps,ht,hp,h=>by
   obtain ⟨p,q,h1,h2,rfl⟩:=h
   have hp1:∀ x∈p,x.block<W.heap.size:=fun x hx=>hp x (List.mem_append_left _ hx)
   have hp2:∀ x∈q,x.block<W.heap.size:=fun x hx=>hp x (List.mem_append_right _ hx)
   exact ⟨p,q,Below.trod hl (ht t (List.mem_cons_self ..)).1 (ht t (List.mem_cons_self ..)).2 h1 hB hp1,all_stay hl hB ts vs ds q (fun x hx=>ht x (List.mem_cons_of_mem _ hx)) hp2 h2,rfl⟩
 | [],[],_::_,_,_,_,h=>h.elim
 | [],_::_,_,_,_,_,h=>h.elim
 | _::_,[],_,_,_,_,h=>h.elim
 | _::_,_::_,[],_,_,_,h=>h.elim
theorem plain_of {w:World} {a:Addr} {u:Value} (h:w.cell? a=some u):∃ b o,a=⟨b,o,none⟩∧b<w.heap.size:=by
 have hlt:=World.block_lt_of_cell? w a h
 obtain ⟨b,o,sp⟩:=a
 unfold World.cell? at h
 cases sp with
 | none=>exact ⟨b,o,rfl,hlt⟩
 | some s=>
   exfalso
   revert h
   simp only [Option.isSome_some,if_true]
   split<;>simp
theorem rows_raw {H:Type} {enc:TypeId×Value→H} {P:Program} {w:World} {base:Nat} {spare:Nat→Bool} {held:Bool} {r:Reach} {b0:Nat} {t e:TypeId} {v:Value} {d:DataW H} {p:List MemPlace} {C:Nat}
 (ht:P.underlying t=some (.slice e)) (hC:P.cellsOf e=C) (h0:0<C)
 (hv:Value.okWide P w r b0 t v) (h:DataW.Trod enc P w base spare held t v d p):
 ∃ (A:Option Addr) (len cap:Nat),v=.slice A len cap∧len≤maxLen∧∀ i,i<len→∃ (b o:Nat) (cs:List Value),A=some ⟨b,o,none⟩∧b<w.heap.size∧cs.length=C∧
   (∀ j,j<C→w.cell? ⟨b,o+(i*C+j),none⟩=cs[j]?)∧∃ (n:Nat) (y:DataW H×List MemPlace),DataW.trod enc P w base spare held n e cs=some y:=by
 obtain ⟨A,len,cap,rfl⟩:=okWide_slice ht hv
 obtain ⟨fuel,hf⟩:=h
 have hcs:(Value.slice A len cap).cells.toList=[.slice A len cap]:=rfl
 rw [hcs] at hf
 rcases Go.Deep.open_slice ht hf with ⟨h0,_⟩ | ⟨a,len',cap',m,n,D,Pl,hcs',_,hl,hm,hmm,_,hi⟩
 · injection h0 with h0 _
   injection h0 with h1 h2 h3
   subst h1; subst h2; subst h3
   exact ⟨_,_,_,rfl,by simp [maxLen],fun i hi=>by omega⟩
 · injection hcs' with h0 _
   injection h0 with h1 h2 h3
   subst h1; subst h2; subst h3
   have hlm:len≤m:=by rw [hmm]; split<;>omega
   refine ⟨_,_,_,rfl,Nat.le_trans hl hm,fun i hlt=>?_⟩
   obtain ⟨cs',hc,ht'⟩:=hi i (by omega)
   rw [hC] at hc
   obtain ⟨_,hcl,hat⟩:=World.cells?_some hc
   have hpl:∃ b o,a=⟨b,o,none⟩∧b<w.heap.size:=by
    obtain ⟨cs0,hc0,_⟩:=hi 0 (by omega)
    rw [hC] at hc0
    obtain ⟨_,hcl0,hat0⟩:=World.cells?_some hc0
    have h1:=hat0 0 h0
    rw [List.getElem?_eq_getElem (by omega)] at h1
    refine plain_of (a:=a) (w:=w) (by simpa [Addr.add] using h1)
   obtain ⟨b,o,rfl,hb⟩:=hpl
   exact ⟨b,o,cs',rfl,hb,hcl,fun j hj=>by rw [← hat j hj,Addr.add_lit,Addr.add_lit,Nat.add_assoc],n,_,ht'⟩
theorem post_true {H:Type} {enc:TypeId×Value→H} {P:Program} {f:Func} {s:ChangeSpec} {apart fresh handsOn:Bool} {W W':World} {args:Array Value} {ds:List (DataW H)} {before:List MemPlace} {tb:TypeId}
 (hl:laidOutB P=true) (hts:(f.params.toList.all fun t=>P.readableRec t&&decide (t<P.types.size))=true) (hv:s.vars=[]) (hr:f.resultTypes=#[tb]) (hb:P.underlying tb=some .bool)
 (hs1:(s.fn H (ds++[])).results=[.lit (.bool true)]) (hs2:(s.fn H (ds++[])).args=ds) (hs3:(s.fn H (ds++[])).vars=[])
 (hW:DataW.Whole enc P f.params.toList s.vars apart W args.toList ds [] before) (hB:Below W.heap.size W W'):
 s.post enc P f apart fresh handsOn false W args (.bool true) W':=by
 have hW':=hW
 obtain ⟨p,q,hA,hV,rfl,hz,hn⟩:=hW
 rw [hv] at hV
 have hq:q=[]:=hV
 subst hq
 have hlt:∀ x∈p++[],x.block<W.heap.size:=fun x hx=>hW'.lt x hx
 simp only [List.append_nil] at hlt
 refine ⟨ds,[],_,[],p,[],hW',?_,?_,?_,?_,fun h=>by cases h⟩
 · rw [hr,hs1]
   exact trodAll_mk1 (shut_bool hb _)
 · rw [hs2]
   exact all_stay hl hB _ _ _ _ (fun t ht=>by simpa using List.all_eq_true.1 hts t ht) hlt hA
 · rw [hv,hs3]
   exact rfl
 · refine World.keptBut_mono (fun x hx=>?_) (hB.frame (·∈p))
   exact ⟨by simpa using hx,Or.inr (Or.inl hx)⟩
end Go.Proofs.YtkogifmjbmnpgaaGreat.LK
namespace Go.Proofs.YtkogifmjbmnpgaaGreat.LawTwo
open Go Go.RowKit Hp K Cl LK
set_option maxRecDepth 100000
theorem foot_new {B g:Nat} {A:Option Addr} (hg:B≤g) (hA:∀ b,A.map (·.block)=some b→B≤b):∀ x,x<B→¬foot g A x:=by
 rintro x hx (h | h)
 · omega
 · have:=hA x h; omega
theorem awake (w:World):Calls Tryz.prog 151 #[] w fun e w'=>e=.returned (.bool true)∧Below w.heap.size w w':=by
 go_enter Tryz.func151,Tryz.ntmps151
 go_wp2_with fail
 refine (new_yes w 1 (by omega)).mono ?_
 rintro e w1 ⟨rfl,hb,A,cap,hC,hA⟩
 have hF:=foot_new (Nat.le_refl w.heap.size) (fun b hb=>Nat.le_of_lt (hA b hb))
 have hb1:=Lib.hid hb
 have hF1:=Lib.hid hF
 clear hb hA hF
 have hadd:=Lib.hid (add_in hC 0 (by simp) 3)
 rw [show sum64 (nth (List.replicate 1 0) 0) 3=3 from by decide,show (List.replicate 1 (0:Int)).set 0 3=[3] from rfl] at hadd
 clear hC
 go_wp2_with fail
 refine hadd.out.mono ?_
 rintro e w2 ⟨rfl,hC,hO⟩
 have hb2:=Lib.hid (hb1.out.trans (hO.toBelow hb1.out.size hF1.out))
 clear hadd hO hb1
 have hsw:=Lib.hid (swap_yes hC 0 (by simp) 3 9 rfl (by omega) (by omega))
 rw [show ([3]:List Int).set 0 9=[9] from rfl] at hsw
 clear hC
 go_wp2_with fail
 refine hsw.out.mono ?_
 rintro e w3 ⟨rfl,hC,hO⟩
 have hb3:=Lib.hid (hb2.out.trans (hO.toBelow hb2.out.size hF1.out))
 clear hsw hO hb2
 have hlo:=Lib.hid (load_in hC 0 (by simp))
 rw [show nth [9] 0=9 from rfl] at hlo
 clear hC
 go_wp2_with (go_at_call 42; refine hlo.out.mono ?_; rintro e w' ⟨rfl,rfl⟩)
 go_ret
 exact ⟨rfl,hb3.out⟩
end Go.Proofs.YtkogifmjbmnpgaaGreat.LawTwo
namespace Go.Proofs.YtkogifmjbmnpgaaGreat.AwThree
open Go Go.RowKit Hp K Fl Rw Lo LK
set_option maxRecDepth 100000
theorem foot_new {B g b:Nat} (hg:B≤g) (hb:B≤b):∀ x,x<B→¬foot g b x:=by
 rintro x hx (h | h)<;>omega
theorem awake (w:World):Calls Tryz.prog 152 #[] w fun e w'=>e=.returned (.bool true)∧Below w.heap.size w w':=by
 go_enter Tryz.func152,Tryz.ntmps152
 go_wp2_with fail
 refine (new_yes w 1 (by omega)).mono ?_
 rintro e w1 ⟨g,b,rfl,hL,hg,hb,hB⟩
 have hF:=Lib.hid (foot_new hg hb)
 have t1:=Lib.hid (try_free hL 0 (by simp) 5 (by omega) (by omega) (by decide))
 replace hB:=Lib.hid hB
 clear hL hg hb
 go_wp2_with fail
 refine t1.out.mono ?_
 rintro e w2 ⟨rfl,hL,hO⟩
 rw [show (List.replicate 1 (-1:Int)).set 0 5=[5] from rfl] at hL
 have hB2:=Lib.hid (hB.out.trans (hO.toBelow hB.out.size hF.out))
 have t2:=Lib.hid (try_held hL 0 (by simp) 6 (by omega) (by decide))
 have t3:=Lib.hid (free_other hL 0 (by simp) 6 (by omega) (by decide))
 replace hL:=Lib.hid hL
 clear t1 hO hB
 go_wp2_with fail
 refine t2.out.mono ?_
 rintro e w' ⟨rfl,rfl⟩
 go_wp2_with fail
 refine t3.out.mono ?_
 rintro e w3 ⟨rfl,hb3⟩
 have hB3:=Lib.hid (hB2.out.trans (hb3.mono hB2.out.size))
 have t4:=Lib.hid (holder_in (hL.out.only (Only.ofBelow hb3 (fun _=>False)) (by simp)) 0 (by simp))
 rw [show hol [5] 0=5 from rfl] at t4
 clear t2 t3 hb3 hB2 hL
 go_wp2_with (go_at_call 68; refine t4.out.mono ?_; rintro e w' ⟨rfl,rfl⟩)
 go_ret
 exact ⟨rfl,hB3.out⟩
end Go.Proofs.YtkogifmjbmnpgaaGreat.AwThree
namespace Go.Proofs.YtkogifmjbmnpgaaGreat.AwFour
open Go Go.RowKit Hp K Fl Rw Hm Hw Ar LK
def n0:Nd:=.zero
def s1:List Sl:=(List.replicate 2 Sl.zero).set 0 ⟨true,0,n0⟩
def s2:List Sl:=s1.set 1 ⟨true,0,n0⟩
def s3:List Sl:=s2.set 0 ⟨false,1,.zero⟩
theorem afoot_new {B g sb fb:Nat} (h:∀ x,afoot g sb fb x→B≤x):∀ x,x<B→¬afoot g sb fb x:=fun x hx hf=>by have:=h x hf; omega
theorem l1:Least (List.replicate 2 Sl.zero) 0:=⟨by simp,rfl,fun j hj=>by omega⟩
theorem l2:Least s1 1:=⟨by simp [s1],rfl,fun j hj=>by
 have:j=0:=by omega
 subst this
 rfl⟩
theorem i3:IsAt s2 1 0:=⟨by simp [s2,s1],rfl,rfl⟩
theorem l4:Least s3 0:=⟨by simp [s3,s2,s1],rfl,fun j hj=>by omega⟩
set_option maxRecDepth 100000 in
theorem awake (w:World):Calls Tryz.prog 153 #[] w fun e w'=>e=.returned (.bool true)∧Below w.heap.size w w':=by
 have hN:=Lib.hid (new_yes w 2 (by omega))
 go_enter Tryz.func153,Tryz.ntmps153
 go_wp2_with fail
 refine hN.out.mono ?_
 rintro e w1 ⟨g,sb,fb,rfl,hA1,hlo,hB1⟩
 replace hlo:=Lib.hid (afoot_new hlo)
 have a1:Hid (Calls Tryz.prog 53 #[.pointer (some ⟨g,0,none⟩),ndv n0] w1 fun e w'=>e=.returned (.tuple #[.int .u64 1,.int .i64 0])∧ArenaAt w' g sb fb s1 false∧Only (afoot g sb fb) w1 w'):=
  Lib.hid ((alloc_ok hA1 n0 0 l1 (Nat.zero_le _)).mono fun _ _ h=>h)
 replace hB1:=Lib.hid hB1
 clear hA1 hN
 go_wp2_with fail
 refine a1.out.mono ?_
 rintro e w2 ⟨rfl,hA2,hO2⟩
 have hB2:=Lib.hid (hB1.out.trans (hO2.toBelow hB1.out.size hlo.out))
 have a2:Hid (Calls Tryz.prog 53 #[.pointer (some ⟨g,0,none⟩),ndv n0] w2 fun e w'=>e=.returned (.tuple #[.int .u64 2,.int .i64 0])∧ArenaAt w' g sb fb s2 false∧Only (afoot g sb fb) w2 w'):=
  Lib.hid ((alloc_ok hA2 n0 1 l2 (Nat.zero_le _)).mono fun _ _ h=>h)
 clear hA2 hO2 hB1 a1
 go_wp2_with fail
 refine a2.out.mono ?_
 rintro e w3 ⟨rfl,hA3,hO3⟩
 have hB3:=Lib.hid (hB2.out.trans (hO3.toBelow hB2.out.size hlo.out))
 have a3:Hid (Calls Tryz.prog 168 #[.pointer (some ⟨g,0,none⟩),.int .u64 1] w3 fun e w'=>e=.returned (.int .i64 0)∧ArenaAt w' g sb fb s3 false∧Only (afoot g sb fb) w3 w'):=
  Lib.hid ((free_ok hA3 (x:=1) (k:=0) (by omega) i3 (Nat.zero_le _)).mono fun _ _ h=>h)
 clear hA3 hO3 hB2 a2
 go_wp2_with fail
 refine a3.out.mono ?_
 rintro e w4 ⟨rfl,hA4,hO4⟩
 have hB4:=Lib.hid (hB3.out.trans (hO4.toBelow hB3.out.size hlo.out))
 have a4:Hid (Calls Tryz.prog 53 #[.pointer (some ⟨g,0,none⟩),ndv n0] w4 fun e w'=>e=.returned (.tuple #[.int .u64 65537,.int .i64 0])∧ArenaAt w' g sb fb (s3.set 0 ⟨true,1,n0⟩) false∧Only (afoot g sb fb) w4 w'):=
  Lib.hid ((alloc_ok hA4 n0 0 l4 (by show 1≤1000000; omega)).mono fun _ _ h=>h)
 clear hA4 hO4 hB3 a3
 go_wp2_with fail
 refine a4.out.mono ?_
 rintro e w5 ⟨rfl,hA5,hO5⟩
 have hB5:=Lib.hid (hB4.out.trans (hO5.toBelow hB4.out.size hlo.out))
 have a5:=Lib.hid (fault_any hA5)
 clear hA5 hO5 hB4 a4
 go_wp2_with fail
 refine a5.out.mono ?_
 rintro e w6 ⟨rfl,rfl⟩
 go_wp2_with fail
 go_ret
 exact ⟨rfl,hB5.out⟩
end Go.Proofs.YtkogifmjbmnpgaaGreat.AwFour
namespace Go.Proofs.YtkogifmjbmnpgaaGreat.LawFive
open Go Go.RowKit Hp K Fl Rw Hm Ar Mm Me LK
set_option maxRecDepth 100000
theorem one (w:World):Calls Tryz.prog 150 #[] w fun e w'=>e=.returned (.bool true)∧w=w':=(AwOne.awake w).mono fun _ _ h=>⟨h.1,h.2.symm⟩
set_option maxHeartbeats 1000000 in
theorem awake (w:World):Calls Tryz.prog 127 #[] w fun e w'=>e=.returned (.bool true)∧Below w.heap.size w w':=by
 have hN:=Lib.hid (mem_yes 4 2 w (by omega) (by omega))
 go_enter Tryz.func127,Tryz.ntmps127
 go_wp2_with fail
 refine hN.out.mono ?_
 rintro e w1 ⟨M,rfl,hM,hlo,hB,h1,h2,h3,h4,h5,h6,h7⟩
 have hLd:=Lib.hid (Cl.load_in hM.2.1 0 (by rw [h1]; simp))
 rw [h1,show Cl.nth (1::List.replicate (2+2) 0) 0=1 from rfl] at hLd
 obtain ⟨c0,c1,c2,_⟩:=hM.hd
 have hlen:∀ w',Below w1.heap.size w1 w'→Calls Tryz.prog 7 #[ptr M.g] w' fun e w''=>e=.returned (.int .i64 5)∧w'=w'':=fun w' hb=>by
  have:=(Cl.len_any (hM.below hb).2.1)
  rw [h1] at this
  exact this.mono fun _ _ h=>⟨h.1,h.2.symm⟩
 have hnow:∀ w',Below w1.heap.size w1 w'→Calls Tryz.prog 16 #[ptr M.m] w' fun e w''=>e=.returned (.agg #[.int .i64 1,.int .i64 4])∧Below w'.heap.size w' w'':=fun w' hb=>by
  have:=now_any (hM.below hb) (by rw [h1]; simp)
  rw [h1,h6] at this
  exact this
 have hcell:∀ w',Below w1.heap.size w1 w'→w'.cell? ⟨M.m,0,none⟩=some (ptr M.g):=fun w' hb=>(hM.below hb).hd.1
 replace hlen:=Lib.hid hlen
 replace hnow:=Lib.hid hnow
 replace hcell:=Lib.hid hcell
 replace hB:=Lib.hid hB
 clear hN hM hlo h1 h2 h3 h4 h5 h6 h7
 go_wp2_with (first
  | (go_at_call 42; refine hLd.out.mono ?_; rintro e w' ⟨rfl,hw⟩; obtain rfl:w1=w':=hw.symm)
  | (go_at_call 150; refine (one _).mono ?_; rintro e w' ⟨rfl,rfl⟩))
 refine (LawTwo.awake w1).mono ?_
 rintro e w2 ⟨rfl,hB2⟩
 have hc2:=hcell.out w2 hB2
 replace hB2:=Lib.hid hB2
 go_wp2_with fail
 refine (AwThree.awake w2).mono ?_
 rintro e w3 ⟨rfl,hB3⟩
 replace hB3:=Lib.hid (hB2.out.trans (hB3.mono hB2.out.size))
 clear hc2
 go_wp2_with fail
 refine (AwFour.awake w3).mono ?_
 rintro e w4 ⟨rfl,hB4⟩
 replace hB4:=Lib.hid (hB3.out.trans (hB4.mono hB3.out.size))
 have hc4:=hcell.out w4 hB4.out
 have hl4:=Lib.hid (hlen.out w4 hB4.out)
 have hn4:=Lib.hid (hnow.out w4 hB4.out)
 clear c0 c1 c2
 go_wp2_with (first
  | (go_at_call 7; refine hl4.out.mono ?_; rintro e w' ⟨rfl,rfl⟩)
  | (go_at_call 16; refine hn4.out.mono ?_; rintro e w5 ⟨rfl,hB5⟩
     replace hB5:=Lib.hid (hB.out.trans ((hB4.out.trans (hB5.mono hB4.out.size)).mono hB.out.size))))
 go_ret
 exact ⟨rfl,hB5.out⟩
/-! ### names-/
end Go.Proofs.YtkogifmjbmnpgaaGreat.LawFive
namespace Go.Proofs.YtkogifmjbmnpgaaGreat.LawSix
open Go Go.RowKit Hp K Fl Rw Hm Ar Mm Me
set_option maxRecDepth 100000
def MadeP (w:World) (n k:Nat) (M:Mo) (w':World):Prop:=
 MemAt w' M∧(∀ x,mfoot M x→w.heap.size≤x)∧Below w.heap.size w w'∧M.xs=1::List.replicate (k+2) 0∧M.ss=List.replicate n .zero∧M.F=false∧M.hs=List.replicate 6 (-1)∧M.k=k∧M.ds=[(1,k+2)]∧M.ws=[]
theorem made_yes (n k:Nat) (w:World) (hn:1≤n∧n≤1024) (hk:1≤k∧k≤8):Calls Tryz.prog 6 #[.int .i64 n,.int .i64 k] w fun e w'=>∃ M,e=.returned (ptr M.m)∧MadeP w n k M w':=by
 have hN:=Lib.hid (mem_yes n k w hn hk)
 go_enter Tryz.func6,Tryz.ntmps6
 go_wp2_with fail
 refine hN.out.mono ?_
 rintro e w1 ⟨M,rfl,hM⟩
 obtain ⟨c0,c1,c2,_⟩:=hM.1.hd
 replace hM:=Lib.hid hM
 clear hN
 go_wp2_with fail
 go_ret
 exact ⟨M,rfl,hM.out⟩
end Go.Proofs.YtkogifmjbmnpgaaGreat.LawSix
namespace Go.Proofs.YtkogifmjbmnpgaaGreat.LawSix
open Go Go.RowKit Hp K Fl Rw Hm Ar Mm Me LK Qs
set_option maxRecDepth 100000
set_option maxHeartbeats 1000000 in
theorem awake (w:World):Calls Tryz.prog 97 #[] w fun e w'=>e=.returned (.bool true)∧Below w.heap.size w w':=by
 have hN:=Lib.hid (made_yes 1 2 w (by omega) (by omega))
 go_enter Tryz.func97,Tryz.ntmps97
 go_wp2_with fail
 refine hN.out.mono ?_
 rintro e w1 ⟨M,rfl,hM,hlo,hB,h1,h2,h3,h4,h5,h6,h7⟩
 clear hN
 have hE:=Lib.hid (enter_any 1 w1)
 replace hM:=Lib.hid hM
 replace hlo:=Lib.hid hlo
 replace hB:=Lib.hid hB
 replace h1:=Lib.hid h1
 replace h4:=Lib.hid h4
 replace h5:=Lib.hid h5
 clear h2 h3 h6 h7
 go_wp2_with fail
 refine hE.out.mono ?_
 rintro e w2 ⟨rfl,hE2,hB2⟩
 have hS:=Lib.hid (sync_any 0 w2)
 replace hM:=Lib.hid (hM.out.below hB2)
 replace hE2:=Lib.hid hE2
 replace hB2:=Lib.hid hB2
 clear hE
 go_wp2_with fail
 refine hS.out.mono ?_
 rintro e w3 ⟨rfl,hW3,hB3⟩
 replace hM:=Lib.hid (hM.out.below hB3)
 have hE3:CmAt w3 w1.heap.size ⟨1,0,0⟩:=hE2.out.only (Only.ofBelow hB3 (fun _=>False)) (by simp)
 have hne:w1.heap.size≠w2.heap.size:=by have:=hE2.out.lt; omega
 have hB03:=Lib.hid (hB.out.trans ((hB2.out.trans (hB3.mono hB2.out.size)).mono hB.out.size))
 have hge1:w.heap.size≤w1.heap.size:=hB.out.size
 have hge2:w.heap.size≤w2.heap.size:=by have:=hB2.out.size; omega
 clear hS hE2 hB hB2 hB3
 generalize w1.heap.size=fe at*
 generalize w2.heap.size=fs at*
 have hF1:=finish_coming hM.out hE3 (by simp) (by rw [h1.out]; simp) (by simp) (by simp) 9 (by omega)
 have e1:fin (fun _=>true) stC (fun s=>decide (s.2.at_=1)) 9 (M.xs,(⟨1,0,0⟩:Cm))=(2,true,[1,0,0,1,0],⟨1,2,1⟩):=by rw [h1.out]; rfl
 rw [e1] at hF1
 replace hF1:=Lib.hid hF1
 replace hW3:=Lib.hid hW3
 replace hge1:=Lib.hid hge1
 replace hge2:=Lib.hid hge2
 replace hne:=Lib.hid hne
 clear e1 hE3
 go_wp2_with fail
 refine hF1.out.mono ?_
 rintro e w4 ⟨rfl,hM4,hC4,hO4⟩
 have hW4:WtAt w4 fs ⟨0,0,0,0⟩:=hW3.out.only hO4 (by
  rintro (q | q)
  · exact (hW3.out.far hM.out) q
  · exact hne.out q.symm)
 have hF2:=finish_wait (n:=2) hM4 hW4 h5.out ⟨by omega,by simp,by simp,by rw [h4.out]; simp,by simp,by simp,by simp⟩ 9 (by omega)
 have e2:fin rdW (stW 2) dnW 9 ([1,0,0,1,0],M.hs,(⟨0,0,0,0⟩:Wt))=(3,false,[2,0,0,1,0],[0, -1, -1, -1, -1, -1],⟨0,2,2,1⟩):=by rw [h4.out]; rfl
 rw [e2] at hF2
 replace hF2:=Lib.hid hF2
 replace hO4:=Lib.hid hO4
 replace hM4:=Lib.hid hM4
 clear e2 hC4 hW4 hF1
 go_wp2_with fail
 refine hF2.out.mono ?_
 rintro e w5 ⟨rfl,hM5,hW5,hO5⟩
 have low:∀ (a b:World) (f:Nat),Below w.heap.size w a→Only (fun x=>mfoot M x∨x=f) a b→w.heap.size≤f→Below w.heap.size w b:=fun a b f ha ho hf=>ha.trans (ho.toBelow ha.size (fun x hx q=>by
  rcases q with q | q
  · have:=hlo.out x q; omega
  · omega))
 replace low:=Lib.hid low
 have hB5:=low.out _ _ _ (low.out _ _ _ hB03.out hO4.out hge1.out) hO5 hge2.out
 have hL:=Lib.hid (leave_any 1 w5)
 replace hM5:=Lib.hid hM5
 replace hW5:=Lib.hid hW5
 replace hB5:=Lib.hid hB5
 clear hO5 hO4 hM4 hF2 hM hW3 hB03 hge1 hne
 go_wp2_with fail
 refine hL.out.mono ?_
 rintro e w6 ⟨rfl,hG6,hB6⟩
 have hM6:=hM5.out.below hB6
 have hW6:WtAt w6 fs ⟨0,2,2,1⟩:=hW5.out.only (Only.ofBelow hB6 (fun _=>False)) (by simp)
 have hge3:w.heap.size≤w5.heap.size:=hB5.out.size
 have hne:w5.heap.size≠fs:=by have:=hW5.out.lt; omega
 have hB6':=Lib.hid (hB5.out.trans (hB6.mono hge3))
 generalize w5.heap.size=fl at*
 have hI6:Hid (Calls Tryz.prog 133 #[ptr M.m,.int .i64 1] w6 fun e w'=>e=.returned (.bool true)∧∃ n,w'=w6.drewN n):=Lib.hid (in_any hM6 1 (by simp) (by omega))
 replace hG6:=Lib.hid hG6
 replace hM6:=Lib.hid hM6
 replace hW6:=Lib.hid hW6
 replace hge3:=Lib.hid hge3
 replace hne:=Lib.hid hne
 clear hB6 hL hB5 hM5 hW5
 go_wp2_with fail
 refine hI6.out.mono ?_
 rintro e w7 ⟨rfl,nq,rfl⟩
 have hM7:=hM6.out.drewN nq
 have hW7:WtAt (w6.drewN nq) fs ⟨0,2,2,1⟩:=hW6.out.only ((Only.refl (fun _=>False) w6).drewN nq) (by simp)
 have hG7:GgAt (w6.drewN nq) fl 1 0:=hG6.out.only ((Only.refl (fun _=>False) w6).drewN nq) (by simp)
 have hB7:Below w.heap.size w (w6.drewN nq):=hB6'.out.trans ⟨rfl,rfl,rfl,Nat.le_refl _,fun _ _=>rfl⟩
 have hGf:=hG7.far hM7
 have hWf:=hW7.far hM7
 generalize w6.drewN nq=w7 at*
 have hF3:=Lib.hid (finish_going hM7 hG7 (by simp) (by omega) 9 (by omega) (by omega))
 replace hB7:=Lib.hid hB7
 replace hW7:=Lib.hid hW7
 replace hWf:=Lib.hid hWf
 clear hM7 hG7 hM6 hW6 hG6 hI6 hB6' hGf
 go_wp2_with fail
 refine hF3.out.mono ?_
 rintro e w8 ⟨rfl,hM8,hG8,hO8⟩
 have hW8:WtAt w8 fs ⟨0,2,2,1⟩:=hW7.out.only hO8 (by
  rintro (q | q)
  · exact hWf.out q
  · exact hne.out q.symm)
 have hB8:=Lib.hid (low.out _ _ _ hB7.out hO8 hge3.out)
 have hF4:=finish_wait (n:=2) hM8 hW8 h5.out ⟨by omega,by simp,by simp,by simp,by simp,by simp,by simp [Lo.hol]⟩ 9 (by omega)
 have e3:fin rdW (stW 2) dnW 9 ([2,0,0,1,0].set (2+1) 0,[0, -1, -1, -1, -1, -1],(⟨0,2,2,1⟩:Wt))=(2,true,[2,0,0,0,0],[-1, -1, -1, -1, -1, -1],⟨0,4,2,2⟩):=by rfl
 have hF4':Calls Tryz.prog 9 #[ptr M.m,.iface 156 (ptr fs),.int .i64 9] w8 fun e w'=>e=.returned (.tuple #[.int .i64 2,.bool true])∧InvW w8 M fs ([2,0,0,0,0],[-1, -1, -1, -1, -1, -1],⟨0,4,2,2⟩) w':=by
  simp only at hF4
  rw [e3] at hF4
  exact hF4
 replace hF4':=Lib.hid hF4'
 clear e3 hF4 hW7 hWf hB7 hF3 hO8 hG8 hM8 hW8
 go_wp2_with fail
 refine hF4'.out.mono ?_
 rintro e w9 ⟨rfl,hM9,hW9,hO9⟩
 have hB9:=Lib.hid (low.out _ _ _ hB8.out hO9 hge2.out)
 replace hM9:=Lib.hid hM9
 clear hF4' hO9 hW9 hB8
 go_wp2_with fail
 refine (LawFive.awake w9).mono ?_
 rintro e w10 ⟨rfl,hB10⟩
 have hM10:=hM9.out.below hB10
 have hB:=Lib.hid (hB9.out.trans (hB10.mono hB9.out.size))
 have hI:Hid (Calls Tryz.prog 133 #[ptr M.m,.int .i64 1] w10 fun e w'=>e=.returned (.bool false)∧∃ n,w'=w10.drewN n):=Lib.hid (in_any hM10 1 (by simp) (by omega))
 clear hM10 hB10 hB9 hM9
 go_wp2_with (go_at_call 133; refine hI.out.mono ?_; rintro e w' ⟨rfl,nq,rfl⟩)
 go_ret
 exact ⟨rfl,hB.out.trans ⟨rfl,rfl,rfl,Nat.le_refl _,fun _ _=>rfl⟩⟩
end Go.Proofs.YtkogifmjbmnpgaaGreat.LawSix
namespace Go.Proofs.YtkogifmjbmnpgaaGreat.LawNine
open Go Go.RowKit Hp K Fl Rw Hm Ar Mm Me LK Wk LawSix
set_option maxRecDepth 100000
theorem nexts_zero (n:Nat):Nexts (List.replicate n .zero):=fun k=>by
 simp only [at',List.getD,List.getElem?_replicate]
 split<;>simp [Sl.zero,Nd.zero]
theorem low_only {W0 a b:World} {M:Mo} {f:Nat} (ha:Below W0.heap.size W0 a) (hlo:∀ x,mfoot M x→W0.heap.size≤x) (hf:W0.heap.size≤f) (ho:Only (fun x=>mfoot M x∨x=f) a b):Below W0.heap.size W0 b:=
 ha.trans (ho.toBelow ha.size (fun x hx q=>by
  rcases q with q | q
  · have:=hlo x q; omega
  · omega))
theorem fin_empty (f:Nat) (k:ByteArray) (ss:List Sl) (F:Bool):wfin [1,0,0,0] ss 5 (F,new f 3 0 k)=(1,true,(F,{new f 3 0 k with nx:=3})):=by
 simp [wfin,fin,gstep,gdone,goTo,word,new,Cl.nth]
set_option maxHeartbeats 1000000 in
theorem awake (w:World):Calls Tryz.prog 98 #[] w fun e w'=>e=.returned (.bool true)∧Below w.heap.size w w':=by
 have hN:=Lib.hid (made_yes 1 1 w (by omega) (by omega))
 go_enter Tryz.func98,Tryz.ntmps98
 go_wp2_with fail
 refine hN.out.mono ?_
 rintro e w1 ⟨M,rfl,hM,hlo,hB,h1,h2,h3,h4,h5,h6,h7⟩
 clear hN
 have hE:=Lib.hid (new_any 3 0 ⟨#[97]⟩ w1)
 replace hM:=Lib.hid hM
 replace hlo:=Lib.hid hlo
 replace hB:=Lib.hid hB
 replace h1:=Lib.hid h1
 replace h2:=Lib.hid h2
 clear h3 h7 h5 h4 h6
 go_wp2_with fail
 refine hE.out.mono ?_
 rintro e w2 ⟨rfl,hE2,hB2⟩
 have hM2:=hM.out.below hB2
 have hge:w.heap.size≤w1.heap.size:=hB.out.size
 have hB02:=Lib.hid (hB.out.trans (hB2.mono hge))
 have hF:=finish_walk hM2 hE2 (by rw [h2.out]; exact nexts_zero 1) 5 (by omega) ⟨by simp [new],by simp [new],by simp [new],by simp [new]⟩
 rw [h1.out,show (1:Int)::List.replicate (1+2) 0=[1,0,0,0] from rfl,fin_empty] at hF
 replace hF:=Lib.hid hF
 clear hM hE hB2 hE2 hM2 hB
 generalize w1.heap.size=f at*
 replace hge:=Lib.hid hge
 go_wp2_with fail
 refine hF.out.mono ?_
 rintro e w3 ⟨rfl,hM3,hW3,_,hO3⟩
 have hB3:=Lib.hid (low_only hB02.out hlo.out hge.out hO3)
 have hFd:Hid (Calls Tryz.prog 116 #[ptr f] w3 fun e w'=>e=.returned (.tuple #[.int .u64 0,.agg #[.string ⟨#[]⟩,.string ⟨#[]⟩,.int .u32 0,.int .u64 0],.bool false])∧Below w3.heap.size w3 w'):=Lib.hid (found_any hW3)
 replace hM3:=Lib.hid hM3
 replace hW3:=Lib.hid hW3
 clear hF hO3 hB02
 go_wp2_with fail
 refine hFd.out.mono ?_
 rintro e w4 ⟨rfl,hB4⟩
 have hW4:=hW3.out.below hB4
 have hB04:=Lib.hid (hB3.out.trans (hB4.mono hB3.out.size))
 have lf:=hW4.lt
 replace hW4:=Lib.hid hW4
 clear hM3 hW3 hB3 hB4 hFd
 go_wp2_with fail
 refine (LawFive.awake _).mono ?_
 rintro e w5 ⟨rfl,hB5⟩
 have hB45:Below w4.heap.size w4 w5:=((Below.refl _ _).alloc (Nat.le_refl _) _).trans (hB5.mono (by simp))
 have hB05:=Lib.hid (hB04.out.trans (hB45.mono hB04.out.size))
 have hFi:Hid (Calls Tryz.prog 134 #[ptr f] w5 fun e w'=>e=.returned (.int .u64 0)∧w5=w'):=Lib.hid (first_any (hW4.out.below hB45))
 clear hB5 hB45 hB04 hW4
 go_wp2_with (go_at_call 134; refine hFi.out.mono ?_; rintro e w' ⟨rfl,rfl⟩)
 go_ret
 exact ⟨rfl,hB05.out⟩
end Go.Proofs.YtkogifmjbmnpgaaGreat.LawNine
namespace Go.Proofs.YtkogifmjbmnpgaaGreat.LawFnv
open Go.RowKit Fnv
set_option maxHeartbeats 400000 in
theorem refpower_any (n:Int) (w:World) (h0: -9223372036854775808≤n) (h1:n≤9223372036854775807):
 Calls Tryz.prog 35 #[.int .i64 n] w fun e w'=>e=.returned (.bool (FM.power n))∧w'=w:=by
 go_enter Tryz.func35,Tryz.ntmps35
 go_wp2
 go_loop [3] (fun i=>∃ k:Nat,k≤17∧i=.int .i64 ((2 ^ k:Nat):Int)∧∀ j:Nat,j<k→n≠((2 ^ j:Nat):Int)) (fun i=>(200000-intOf i).toNat)
 case atStart=>exact ⟨0,by omega,rfl,fun j hj=>absurd hj (by omega)⟩
 case round=>
  obtain ⟨k,hk,rfl,hno⟩:=hrel
  have hno:=Lib.hid hno
  have hpos:0<2 ^ k:=Nat.two_pow_pos k
  by_cases hk16:k≤16
  · have hle:2 ^ k≤2 ^ 16:=Nat.pow_le_pow_right (by omega) hk16
    have hd:=Lib.hid (Nat.pow_succ 2 k)
    generalize hq:2 ^ k=q at*
    have hq:=Lib.hid hq
    by_cases he:n=(q:Int)
    · have hp:FM.power n=true:=(FM.power_iff n).2 ⟨k,hk16,by rw [hq.out]; exact he⟩
      have hle':(q:Int)≤65536:=by omega
      obtain rfl:=he
      go_wp2
      go_ret
      exact ⟨rfl,rfl⟩
    · have hle':(q:Int)≤65536:=by omega
      have he':(((q:Nat):Int)==n)=false:=by rw [beq_eq_false_iff_ne]; omega
      go_wp2
      go_round
      case rel=>exact ⟨k+1,by omega,by rw [hd.out]; go_num,fun j hj=>by
       by_cases hjk:j=k
       · subst hjk; rw [hq.out]; exact he
       · exact hno.out j (by omega)⟩
      case measure=>simp [intOf]; omega
  · obtain rfl:k=17:=by omega
    have hp:FM.power n=false:=by
     cases h:FM.power n with
     | false=>rfl
     | true=>
       obtain ⟨j,hj,hn⟩:=(FM.power_iff n).1 h
       exact absurd hn (hno.out j (by omega))
    clear hno
    go_wp2
    go_ret
    exact ⟨rfl,rfl⟩
set_option maxHeartbeats 400000 in
theorem refbucket_any (s n:Int) (w:World) (hs0:0≤s) (hs1:s<4294967296) (h0: -9223372036854775808≤n) (h1:n≤9223372036854775807):
 Calls Tryz.prog 48 #[.int .u32 s,.int .i64 n] w fun e w'=>e=.returned (.int .i64 (FM.bucket s n))∧w'=w:=by
 cases hp:FM.power n with
 | false=>
   have hb:FM.bucket s n=0:=by unfold FM.bucket; rw [hp]; rfl
   have hb:=Lib.hid hb
   go_enter Tryz.func48,Tryz.ntmps48
   go_wp2_with (go_at_call 35; refine (refpower_any n _ h0 h1).mono ?_; rintro e w' ⟨rfl,rfl⟩)
   go_ret
   exact ⟨ret_int hb.out.symm,rfl⟩
 | true=>
   have hb:FM.bucket s n=s % n:=by unfold FM.bucket; rw [hp]; rfl
   have hb:=Lib.hid hb
   have hbd:=FM.power_bd hp
   have hr:0≤s % n∧s % n<65536:=⟨Int.emod_nonneg _ (by omega),by have:=Int.emod_lt_of_pos s (show 0<n by omega); omega⟩
   go_enter Tryz.func48,Tryz.ntmps48
   go_wp2_with (go_at_call 35; refine (refpower_any n _ h0 h1).mono ?_; rintro e w' ⟨rfl,rfl⟩)
   go_ret
   exact ⟨ret_int hb.out.symm,rfl⟩
set_option maxHeartbeats 400000 in
theorem refsum_any (s:ByteArray) (w:World) (hs:s.size≤maxLen):
 Calls Tryz.prog 47 #[.string s] w fun e w'=>e=.returned (.int .u32 (FM.sum s.data.toList))∧w'=w:=by
 unfold maxLen at hs
 go_enter Tryz.func47,Tryz.ntmps47
 go_wp2
 go_loop [3,4] (fun n i=>∃ k:Nat,k≤s.size∧i=.int .i64 k∧n=.int .u64 (FM.sum (s.data.toList.take k))) (fun _ i=>s.size-(intOf i).toNat)
 case atStart=>exact ⟨0,Nat.zero_le _,rfl,rfl⟩
 case round=>
  obtain ⟨k,hk,rfl,rfl⟩:=hrel
  have hl:=FM.sum_lt (s.data.toList.take k)
  by_cases hlt:k<s.size
  · have hx:=Lib.hid (FM.ref_step_i (s.data.toList.take k) s[k])
    have ht:=Lib.hid (FM.take_snoc s k hlt)
    go_wp2
    go_round
    case rel=>exact ⟨k+1,by omega,by go_num,by rw [ht.out,hx.out]⟩
    case measure=>simp [intOf]; omega
  · go_wp2
    go_ret
    exact ⟨ret_int (by rw [List.take_of_length_le (by simp; omega)]),rfl⟩
end Go.Proofs.YtkogifmjbmnpgaaGreat.LawFnv
namespace Go.Proofs.YtkogifmjbmnpgaaGreat.LawTen
open Go Go.RowKit Hp K Fl Rw Hm Ar Mm Me LK Qs Wk Gt Pc LawSix
set_option maxRecDepth 100000
def PairsAt (w:World) (A:Option Addr) (l:List Pr):Prop:=∀ i,i<l.length→∃ b o:Nat,A=some ⟨b,o,none⟩∧b<w.heap.size∧
 w.cell? ⟨b,o+i*2,none⟩=some (.string (pat l i).1)∧w.cell? ⟨b,o+i*2+1,none⟩=some (.string (pat l i).2)∧(pat l i).1.size≤140737488355328∧(pat l i).2.size≤140737488355328
theorem PairsAt.below {w w':World} {A:Option Addr} {l:List Pr} (h:PairsAt w A l) (hb:Below w.heap.size w w'):PairsAt w' A l:=fun i hi=>by
 obtain ⟨b,o,h1,h2,h3,h4,h5⟩:=h i hi
 exact ⟨b,o,h1,by have:=hb.size; omega,(hb.cell (p:=⟨b,_,none⟩) h2).trans h3,(hb.cell (p:=⟨b,_,none⟩) h2).trans h4,h5⟩
def lkv (o:Option ByteArray):Value:=.tuple #[.string (o.getD ⟨#[]⟩),.bool o.isSome]
set_option maxHeartbeats 1000000 in
theorem ref_any (w:World) (l:List Pr) (A:Option Addr) (cap:Nat) (hl:l.length≤maxLen) (hP:PairsAt w A l) (key:ByteArray):
 Calls Tryz.prog 46 #[.slice A l.length cap,.string key] w fun e w'=>e=.returned (lkv (lk l key))∧w=w':=by
 unfold maxLen at hl
 replace hP:=Lib.hid hP
 have h0:Hid (lk (l.drop 0) key=lk l key):=Lib.hid rfl
 generalize hz:lk l key=z at*
 replace hz:=Lib.hid hz
 generalize hln:l.length=len at*
 replace hln:=Lib.hid hln
 go_enter Tryz.func46,Tryz.ntmps46
 go_wp2_with fail
 go_loop [6] (fun i=>∃ n:Nat,n≤len∧i=.int .i64 n∧Hid (lk (l.drop n) key=z)) (fun i=>len-(intOf i).toNat)
 case atStart=>exact ⟨0,Nat.zero_le _,rfl,h0⟩
 case round=>
  obtain ⟨n,hn,rfl,hf⟩:=hrel
  clear h0
  by_cases hlt:n<len
  · obtain ⟨b,o,rfl,hb,c0,c1,s0,s1⟩:=hP.out n (by rw [hln.out]; exact hlt)
    have e1:=hf.out
    have hd:l.drop n=pat l n::l.drop (n+1):=by
     have:=hln.out
     rw [List.drop_eq_getElem_cons (by omega)]
     congr 1
     simp [pat,List.getD,show n<l.length by omega]
    rw [hd] at e1
    generalize hp:pat l n=p at*
    obtain ⟨pk,pv⟩:=p
    simp only at c0 c1 s0 s1 e1
    replace hp:=Lib.hid hp
    clear hf hd
    by_cases h2:pk=key
    · subst h2
      have e2:some pv=z:=by rw [← e1]; simp [lk]
      replace e2:=Lib.hid e2
      clear e1
      go_wp2_with fail
      go_ret2
      rw [← e2.out]
      exact ⟨rfl,rfl⟩
    · have e2:lk (l.drop (n+1)) key=z:=by rw [← e1]; simp [lk,h2]
      replace e2:=Lib.hid e2
      have b2:=bytes_ne h2
      clear h2 e1
      go_wp2_with fail
      go_round
      case rel=>exact ⟨n+1,by omega,by go_num,e2⟩
      case measure=>simp [intOf]; omega
  · obtain rfl:n=len:=by omega
    have e1:=hf.out
    have hnl:=hln.out
    rw [← hnl,List.drop_length] at e1
    have e2:z=none:=by rw [← e1]; rfl
    subst e2
    clear hf e1 hnl
    go_wp2_with fail
    go_ret2
    exact ⟨rfl,rfl⟩
end Go.Proofs.YtkogifmjbmnpgaaGreat.LawTen
namespace Go.Proofs.YtkogifmjbmnpgaaGreat.Pn
open Go Go.RowKit Hp K Fl Rw Hm Ar Mm Me
set_option maxRecDepth 100000
structure Lay (A P:Type) where
 f:A→Nat
 At:World→A→P→Prop
 foot:A→P→Nat→Prop
section
variable {A P:Type}
def Lay.Stp (X:Lay A P) (w:World) (M:Mo) (a:A) (p:P) (L':Lm) (p':P) (w':World):Prop:=
 ∃ M' a',MemAt w' M'∧lm M'=L'∧Kin w M M'∧X.At w' a' p'∧X.f a'=X.f a∧(∀ x,X.foot a' p' x→X.foot a p x∨w.heap.size≤x)∧Only (fun x=>mfoot M x∨X.foot a p x) w w'
def Lay.Inv (X:Lay A P) (M0:Mo) (a0:A) (p0:P) (w0:World) (s:Lm×P) (w:World):Prop:=
 ∃ M a,MemAt w M∧lm M=s.1∧Kin w0 M0 M∧X.At w a s.2∧X.f a=X.f a0∧(∀ x,X.foot a s.2 x→X.foot a0 p0 x∨w0.heap.size≤x)∧Only (fun x=>mfoot M0 x∨X.foot a0 p0 x) w0 w
structure Frm (X:Lay A P) (T:TypeId) (fr fs:Nat) (Ok:Lm→P→Prop) (rd:Lm→P→Bool) (st:Lm→P→Lm×P) (dn:Lm→P→Bool):Prop where
 below:∀ {w w':World} {a:A} {p:P},X.At w a p→Below w.heap.size w w'→X.At w' a p
 mr:∀ (b:Nat) (w:World) (f:Nat),(method (f+1) T (.pointer (some ⟨b,0,none⟩)) "Ready").run Tryz.prog w=.ok (fr,.pointer (some ⟨b,0,none⟩)) w
 ms:∀ (b:Nat) (w:World) (f:Nat),(method (f+1) T (.pointer (some ⟨b,0,none⟩)) "Step").run Tryz.prog w=.ok (fs,.pointer (some ⟨b,0,none⟩)) w
 er:∀ args w,(callFunc fr args).run Tryz.prog w=.ok (.enter fr args) w
 es:∀ args w,(callFunc fs args).run Tryz.prog w=.ok (.enter fs args) w
 ready:∀ {w:World} {M:Mo} {a:A} {p:P},MemAt w M→X.At w a p→Ok (lm M) p→Calls Tryz.prog fr #[ptr (X.f a),ptr M.m] w fun e w'=>e=.returned (.bool (rd (lm M) p))∧Below w.heap.size w w'
 step:∀ {w:World} {M:Mo} {a:A} {p:P},MemAt w M→X.At w a p→Ok (lm M) p→rd (lm M) p=true→Calls Tryz.prog fs #[ptr (X.f a),ptr M.m] w fun e w'=>e=.returned (.bool (dn (lm M) p))∧X.Stp w M a p (st (lm M) p).1 (st (lm M) p).2 w'
variable {X:Lay A P} {T:TypeId} {fr fs:Nat} {Ok:Lm→P→Prop} {rd:Lm→P→Bool} {st:Lm→P→Lm×P} {dn:Lm→P→Bool}
variable {w w0:World} {M0:Mo} {a0:A} {p0:P} {s:Lm×P}
theorem Lay.Inv.start {M:Mo} {a:A} {p:P} (hM:MemAt w M) (hP:X.At w a p):X.Inv M a p w (lm M,p) w:=⟨M,a,hM,rfl,Kin.refl _ _,hP,rfl,fun _ q=>.inl q,Only.refl _ _⟩
theorem Lay.Inv.stepped (F:Frm X T fr fs Ok rd st dn) (h:X.Inv M0 a0 p0 w0 s w) (ok:Ok s.1 s.2) (hr:rd s.1 s.2=true):
 Calls Tryz.prog fs #[ptr (X.f a0),ptr M0.m] w fun e w'=>e=.returned (.bool (dn s.1 s.2))∧X.Inv M0 a0 p0 w0 (st s.1 s.2) w':=by
 obtain ⟨M,a,hM,e,hK,hP,ea,hf,hO⟩:=h
 have hs:=F.step hM hP (by rw [e]; exact ok) (by rw [e]; exact hr)
 rw [e,hK.m,ea] at hs
 refine hs.mono fun e1 w' q=>⟨q.1,?_⟩
 obtain ⟨M',a',hM',e',hK',hP',ea',hf',hO'⟩:=q.2
 have hsz:=hO.size
 refine ⟨M',a',hM',e',hK.trans hK' hsz,hP',ea'.trans ea,?_,hO.trans' hO' ?_⟩
 · intro x q
   rcases hf' x q with q | q
   · exact hf x q
   · exact .inr (by omega)
 · rintro x hx (q | q)
   · rcases hK.foot x q with q | q
     · exact .inl q
     · omega
   · rcases hf x q with q | q
     · exact .inr q
     · omega
theorem Lay.Inv.readied (F:Frm X T fr fs Ok rd st dn) (h:X.Inv M0 a0 p0 w0 s w) (ok:Ok s.1 s.2):
 Calls Tryz.prog fr #[ptr (X.f a0),ptr M0.m] w fun e w'=>e=.returned (.bool (rd s.1 s.2))∧X.Inv M0 a0 p0 w0 s w':=by
 obtain ⟨M,a,hM,e,hK,hP,ea,hf,hO⟩:=h
 have hs:=F.ready hM hP (by rw [e]; exact ok)
 rw [e,hK.m,ea] at hs
 exact hs.mono fun e1 w' q=>⟨q.1,M,a,hM.below q.2,e,hK,F.below hP q.2,ea,hf,hO.below q.2⟩
theorem finish_frm (F:Frm X T fr fs Ok rd st dn) {M:Mo} {a:A} {p:P} (hM:MemAt w M) (hP:X.At w a p) (R:Nat→Lm×P→Prop) (Q:Lm×P→Prop)
 (hR:∀ k s,R k s→Ok s.1 s.2∧rd s.1 s.2=true∧1≤k∧(dn s.1 s.2=true→Q (st s.1 s.2))∧(dn s.1 s.2=false→R (k-1) (st s.1 s.2)))
 (k K:Nat) (h0:R k (lm M,p)) (hk:k≤K) (hK:K≤1000000):
 Calls Tryz.prog 9 #[ptr M.m,.iface T (ptr (X.f a)),.int .i64 K] w fun e w'=>∃ (n:Nat) (s:Lm×P),e=.returned (.tuple #[.int .i64 n,.bool true])∧(n≤k∧fin (fun s:Lm×P=>rd s.1 s.2) (fun s=>st s.1 s.2) (fun s=>dn s.1 s.2) K (lm M,p)=(n,true,s))∧Q s∧X.Inv M a p w s w':=by
 obtain ⟨n,s',e,hn,hq⟩:=fin_steps (rd:=fun s:Lm×P=>rd s.1 s.2) (st:=fun s=>st s.1 s.2) (dn:=fun s=>dn s.1 s.2) R Q (fun k s h=>(hR k s h).2) K k (lm M,p) h0 hk
 have:=finish_n T fr fs (X.f a) (ptr M.m) (X.Inv M a p w) (fun _ s=>∃ k,R k s) (fun s:Lm×P=>rd s.1 s.2) (fun s=>st s.1 s.2) (fun s=>dn s.1 s.2)
  (F.mr _) (F.ms _) F.er F.es ?_ ?_ ?_ K hK (lm M,p) ⟨k,h0⟩ w (Lay.Inv.start hM hP)
 · rw [e] at this
   exact this.mono fun e1 w' q=>⟨n,s',q.1,⟨hn,e⟩,hq,q.2⟩
 · rintro _ s w1 hI ⟨k,hr⟩
   exact hI.readied F (hR k s hr).1
 · rintro _ s w1 hI ⟨k,hr⟩ hrd
   exact hI.stepped F (hR k s hr).1 hrd
 · rintro _ s ⟨k,hr⟩ hrd hd
   exact ⟨k-1,(hR k s hr).2.2.2.2 hd⟩
end
end Go.Proofs.YtkogifmjbmnpgaaGreat.Pn
namespace Go.Proofs.YtkogifmjbmnpgaaGreat.Mx
open Go Go.RowKit Hp K Fl Rw Hm Ar Mm Me Wk Pn
set_option maxRecDepth 100000
structure Ob where
 at_:World→Prop
 foot:Nat→Prop
 keep:∀ {w w':World} {S:Nat→Prop},at_ w→Only S w w'→(∀ x,foot x→¬S x)→at_ w'
 lt:∀ {w:World} {x:Nat},at_ w→foot x→x<w.heap.size
def Ob.apart (a b:Ob):Prop:=∀ x,a.foot x→¬b.foot x
theorem Ob.apart.symm {a b:Ob} (h:a.apart b):b.apart a:=fun x hb ha=>h x ha hb
def Ob.from (a' a:Ob) (n:Nat):Prop:=∀ x,a'.foot x→a.foot x∨n≤x
theorem Ob.from.apart {a a' b:Ob} {w:World} (h:a'.from a w.heap.size) (hb:b.at_ w) (hd:a.apart b):a'.apart b:=fun x hx hbx=>by
 rcases h x hx with q | q
 · exact hd x q hbx
 · have:=b.lt hb hbx; omega
structure H4 (W0 w:World) (m f a b:Ob):Prop where
 hm:m.at_ w
 hf:f.at_ w
 ha:a.at_ w
 hb:b.at_ w
 mf:m.apart f
 ma:m.apart a
 mb:m.apart b
 fa:f.apart a
 fb:f.apart b
 ab:a.apart b
 below:Below W0.heap.size W0 w
 low:∀ x,m.foot x∨f.foot x∨a.foot x∨b.foot x→W0.heap.size≤x
section
variable {W0 w w':World} {m f a b m' f' a':Ob}
theorem H4.swap (h:H4 W0 w m f a b):H4 W0 w m f b a:=
 ⟨h.hm,h.hf,h.hb,h.ha,h.mf,h.mb,h.ma,h.fb,h.fa,h.ab.symm,h.below,fun x q=>h.low x (by rcases q with q | q | q | q<;>simp [q])⟩
theorem H4.turn (h:H4 W0 w m f a b):H4 W0 w m a f b:=
 ⟨h.hm,h.ha,h.hf,h.hb,h.ma,h.mf,h.mb,h.fa.symm,h.ab,h.fb,h.below,fun x q=>h.low x (by rcases q with q | q | q | q<;>simp [q])⟩
theorem H4.down (h:H4 W0 w m f a b) (hb:Below w.heap.size w w'):H4 W0 w' m f a b:=
 have ho:=Only.ofBelow hb (fun _=>False)
 ⟨m.keep h.hm ho (by simp),f.keep h.hf ho (by simp),a.keep h.ha ho (by simp),b.keep h.hb ho (by simp),h.mf,h.ma,h.mb,h.fa,h.fb,h.ab,h.below.trans (hb.mono h.below.size),h.low⟩
theorem H4.step (h:H4 W0 w m f a b) (hm:m'.at_ w') (hf:f'.at_ w') (hmf:m'.apart f') (em:m'.from m w.heap.size) (ef:f'.from f w.heap.size) (ho:Only (fun x=>m.foot x∨f.foot x) w w'):H4 W0 w' m' f' a b:=
 have ka:a.at_ w':=a.keep h.ha ho (fun x hx q=>q.elim (fun q=>h.ma x q hx) (fun q=>h.fa x q hx))
 have kb:b.at_ w':=b.keep h.hb ho (fun x hx q=>q.elim (fun q=>h.mb x q hx) (fun q=>h.fb x q hx))
 ⟨hm,hf,ka,kb,hmf,em.apart h.ha h.ma,em.apart h.hb h.mb,ef.apart h.ha h.fa,ef.apart h.hb h.fb,h.ab,
  h.below.trans (ho.toBelow h.below.size (fun x hx q=>by have:=h.low x (q.elim .inl (fun q=>.inr (.inl q))); omega)),fun x q=>by
   have hz:=h.below.size
   rcases q with q | q | q | q
   · rcases em x q with q | q
     · exact h.low x (.inl q)
     · omega
   · rcases ef x q with q | q
     · exact h.low x (.inr (.inl q))
     · omega
   · exact h.low x (.inr (.inr (.inl q)))
   · exact h.low x (.inr (.inr (.inr q)))⟩
end
def obM (M:Mo):Ob:=⟨fun w=>MemAt w M,mfoot M,fun h ho hn=>h.only ho (fun x hx=>hn x hx),fun h hx=>h.lt hx⟩
def obX {A P:Type} (X:Lay A P) (hk:∀ {w w':World} {a:A} {p:P} {S:Nat→Prop},X.At w a p→Only S w w'→(∀ x,X.foot a p x→¬S x)→X.At w' a p) (hl:∀ {w:World} {a:A} {p:P} {x:Nat},X.At w a p→X.foot a p x→x<w.heap.size) (a:A) (p:P):Ob:=
 ⟨fun w=>X.At w a p,X.foot a p,hk,hl⟩
end Go.Proofs.YtkogifmjbmnpgaaGreat.Mx
namespace Go.Proofs.YtkogifmjbmnpgaaGreat.LawTh
open Go Go.RowKit Hp K Fl Rw Hm Ar Mm Me LK Qs Wk Pc Pn Mx Zp LawTen
set_option maxRecDepth 100000
def StrsAt (w:World) (A:Option Addr) (ks:List ByteArray):Prop:=∀ i,i<ks.length→∃ b o:Nat,A=some ⟨b,o,none⟩∧b<w.heap.size∧w.cell? ⟨b,o+i,none⟩=some (.string (ks.getD i ⟨#[]⟩))∧(ks.getD i ⟨#[]⟩).size≤140737488355328
theorem StrsAt.below {w w':World} {A:Option Addr} {ks:List ByteArray} (h:StrsAt w A ks) (hb:Below w.heap.size w w'):StrsAt w' A ks:=fun i hi=>by
 obtain ⟨b,o,h1,h2,h3,h4⟩:=h i hi
 exact ⟨b,o,h1,by have:=hb.size; omega,(hb.cell (p:=⟨b,_,none⟩) h2).trans h3,h4⟩
structure Ra where
 r:Nat
 KA:Option Addr
 kcap:Nat
 ga:Gt.Ga
def rgv (r:Ra) (g:Option Gt.Ge):Value:=match g with
 | none=>.pointer none
 | some _=>ptr r.ga.f
def rnc (r:Ra) (R:Rn):Array Value:=#[.int .i64 R.w,.slice r.KA R.keys.length r.kcap,rgv r R.g,.int .i64 R.n]
def RnAt (w:World) (r:Ra) (R:Rn):Prop:=Blk w r.r 64 (rnc r R)∧∀ G,R.g=some G→Gt.GeAt w r.ga G
def rnfoot (r:Ra) (R:Rn) (x:Nat):Prop:=x=r.r∨(R.g.isSome=true∧Gt.gfoot r.ga x)
section
variable {w w' W0:World} {M:Mo} {r:Ra} {R:Rn}
theorem RnAt.only {S:Nat→Prop} (h:RnAt w r R) (ho:Only S w w') (hn:∀ x,rnfoot r R x→¬S x):RnAt w' r R:=
 ⟨h.1.only ho (hn _ (.inl rfl)),fun G hG=>(h.2 G hG).only ho (fun x hx=>hn x (.inr ⟨by rw [hG]; rfl,hx⟩))⟩
theorem RnAt.lt (h:RnAt w r R) {x:Nat} (hx:rnfoot r R x):x<w.heap.size:=by
 rcases hx with rfl | ⟨hs,hx⟩
 · exact h.1.lt
 · obtain ⟨G,hG⟩:=Option.isSome_iff_exists.1 hs
   exact ((h.2 G hG).ty hx).lt
abbrev runTypes:List TypeId:=64::Gt.getTypes
theorem RnAt.ty (h:RnAt w r R) {x:Nat} (hx:rnfoot r R x):Ty w x runTypes:=by
 rcases hx with rfl | ⟨hs,hx⟩
 · exact (blk_ty h.1).mono (by simp)
 · obtain ⟨G,hG⟩:=Option.isSome_iff_exists.1 hs
   exact ((h.2 G hG).ty hx).mono (by simp)
theorem RnAt.far (h:RnAt w r R) (hM:MemAt w M) {x:Nat} (hx:rnfoot r R x):¬mfoot M x:=fun hm=>(hM.ty hm).apart (h.ty hx) (by decide)
theorem RnAt.self (h:RnAt w r R) {a:Gt.Ga} {G:Gt.Ge} (hG:Gt.GeAt w a G):¬Gt.gfoot a r.r:=fun hx=>(hG.ty hx).apart (blk_ty h.1) (by decide)
def obR (r:Ra) (R:Rn):Ob:=⟨fun w=>RnAt w r R,rnfoot r R,fun h ho hn=>h.only ho hn,fun h hx=>h.lt hx⟩
set_option maxHeartbeats 1000000 in
theorem busy_any (h:RnAt w r R):Calls Tryz.prog 54 #[ptr r.r] w fun e w'=>e=.returned (.bool R.g.isSome)∧w=w':=by
 have c:=h.1.cell 2
 simp only [rnc,List.getElem?_toArray,List.getElem?_cons_succ,List.getElem?_cons_zero] at c
 unfold rgv at c
 cases hg:R.g with
 | none=>
   rw [hg] at c
   simp only at c
   clear h hg
   go_enter Tryz.func54,Tryz.ntmps54
   go_wp2_with fail
   go_ret
   exact ⟨rfl,rfl⟩
 | some G=>
   rw [hg] at c
   simp only at c
   clear h hg
   go_enter Tryz.func54,Tryz.ntmps54
   go_wp2_with fail
   go_ret
   exact ⟨rfl,rfl⟩
set_option maxHeartbeats 1000000 in
theorem step_idle (h:RnAt w r R) (h0:R.keys=[]) (m l:Value):Calls Tryz.prog 55 #[ptr r.r,m,l] w fun e w'=>e=.returned (.bool true)∧w=w':=by
 have c:=h.1.cell 1
 simp only [rnc,List.getElem?_toArray,List.getElem?_cons_succ,List.getElem?_cons_zero,h0,List.length_nil] at c
 clear h h0
 go_enter Tryz.func55,Tryz.ntmps55
 go_wp2_with fail
 go_ret
 exact ⟨rfl,rfl⟩
def Ran (w:World) (M:Mo) (r:Ra) (R:Rn) (w':World):Prop:=∃ M' r',MemAt w' M'∧lm M'=R.mem (lm M)∧M'.m=M.m∧(∀ x,mfoot M' x→mfoot M x)∧RnAt w' r' (R.next (lm M))∧(r'.r=r.r∧r'.KA=r.KA∧r'.kcap=r.kcap)∧
 (∀ x,rnfoot r' (R.next (lm M)) x→rnfoot r R x∨w.heap.size≤x)∧Only (fun x=>mfoot M x∨rnfoot r R x) w w'
def Has (w:World) (M:Mo) (r:Ra) (R:Rn) (wx:World):Prop:=∃ ga:Gt.Ga,Gt.GeAt wx ga R.get∧Blk wx r.r 64 #[.int .i64 R.w,.slice r.KA R.keys.length r.kcap,ptr ga.f,.int .i64 R.n]∧MemAt wx M∧(∀ x,Gt.gfoot ga x→rnfoot r R x∨w.heap.size≤x)∧Only (fun x=>mfoot M x∨rnfoot r R x) w wx
theorem ran_go {w3 w4:World} {ga a':Gt.Ga} (hd:Gt.ggdn R.get=false) (hG:Gt.GeAt w3 ga R.get) (hB:Blk w3 r.r 64 #[.int .i64 R.w,.slice r.KA R.keys.length r.kcap,ptr ga.f,.int .i64 R.n]) (hM:MemAt w3 M) (hfo:∀ x,Gt.gfoot ga x→rnfoot r R x∨w.heap.size≤x) (hO:Only (fun x=>mfoot M x∨rnfoot r R x) w w3)
 (hmv:Gt.Moved w3 ga a') (hM4:MemAt w4 {M with xs:=(R.st (lm M)).1,F:=(R.st (lm M)).2.1}) (hG4:Gt.GeAt w4 a' (R.st (lm M)).2.2) (hO4:Only (fun x=>mfoot M x∨Gt.gfoot ga x) w3 w4):Ran w M r R w4:=by
 have hsz:=hO.size
 obtain ⟨m1,m2,m3,m4⟩:=hmv
 have hnx:R.next (lm M)={R with g:=some (R.st (lm M)).2.2}:=by unfold Rn.next; rw [if_neg (by rw [hd]; simp)]
 have hself:¬Gt.gfoot ga r.r:=fun hx=>(hG.ty hx).apart (blk_ty hB) (by decide)
 have hfar:¬mfoot M r.r:=fun hx=>(hM.ty hx).apart (blk_ty hB) (by decide)
 have hB4:=hB.only hO4 (fun q=>q.elim hfar hself)
 refine ⟨_,{r with ga:=a'},hM4,rfl,rfl,fun x h=>h,?_,⟨rfl,rfl,rfl⟩,fun x hx=>?_,hO.trans' hO4 (fun x hx q=>?_)⟩
 · rw [hnx]
   refine ⟨?_,fun G e=>?_⟩
   · unfold rnc rgv
     simp only [m1]
     exact hB4
   · injection e with e
     rw [← e]
     exact hG4
 · rcases hx with q | ⟨_,q⟩
   · exact .inl (.inl q)
   · have q:x=a'.f∨x=a'.c∨x=a'.o∨x=a'.w:=q
     rcases q with q | q | q | q
     · exact hfo x (.inl (q.trans m1))
     · exact hfo x (.inr (.inl (q.trans m2)))
     · exact hfo x (.inr (.inr (.inl (q.trans m3))))
     · rcases m4 with m4 | m4
       · exact hfo x (.inr (.inr (.inr (q.trans m4))))
       · exact .inr (by omega)
 · rcases q with q | q
   · exact .inl q
   · rcases hfo x q with q | q
     · exact .inr q
     · omega
theorem ran_over {w3 w4 w5:World} {ga:Gt.Ga} (hd:Gt.ggdn R.get=true) (hG:Gt.GeAt w3 ga R.get) (hB:Blk w3 r.r 64 #[.int .i64 R.w,.slice r.KA R.keys.length r.kcap,ptr ga.f,.int .i64 R.n]) (hM:MemAt w3 M) (hfo:∀ x,Gt.gfoot ga x→rnfoot r R x∨w.heap.size≤x) (hO:Only (fun x=>mfoot M x∨rnfoot r R x) w w3)
 (hM4:MemAt w4 {M with xs:=(R.st (lm M)).1,F:=(R.st (lm M)).2.1}) (hO4:Only (fun x=>mfoot M x∨Gt.gfoot ga x) w3 w4) (hB5:Below w4.heap.size w4 w5):Ran w M r R ((w5.setCell ⟨r.r,2,none⟩ (.pointer none)).setCell ⟨r.r,3,none⟩ (.int .i64 ((R.n:Int)+1))):=by
 have hnx:R.next (lm M)={R with g:=none,n:=R.n+1}:=by unfold Rn.next; rw [if_pos hd]
 have hself:¬Gt.gfoot ga r.r:=fun hx=>(hG.ty hx).apart (blk_ty hB) (by decide)
 have hfar:¬mfoot M r.r:=fun hx=>(hM.ty hx).apart (blk_ty hB) (by decide)
 have hB4:=(hB.only hO4 (fun q=>q.elim hfar hself)).only (Only.ofBelow hB5 (fun _=>False)) (by simp)
 have hO6:=((Only.refl (·=r.r) w5).setCell (p:=⟨r.r,2,none⟩) (.inl rfl) (.pointer none)).setCell (p:=⟨r.r,3,none⟩) (.inl rfl) (.int .i64 ((R.n:Int)+1))
 refine ⟨_,r,(hM4.below hB5).only hO6 (fun x hx e=>hfar (e▸hx)),rfl,rfl,fun x h=>h,?_,⟨rfl,rfl,rfl⟩,fun x hx=>?_,((hO.trans' hO4 (fun x hx q=>?_)).below hB5).trans' hO6 (fun x _ e=>.inr (.inl e))⟩
 · rw [hnx]
   refine ⟨?_,fun G e=>by simp at e⟩
   have:=(hB4.store 2 (.pointer none)).store 3 (.int .i64 ((R.n:Int)+1))
   simp only [List.setIfInBounds_toArray,List.set_cons_zero,List.set_cons_succ] at this
   unfold rnc rgv
   simp only [Int.natCast_add,Int.natCast_one]
   exact this
 · rw [hnx] at hx
   rcases hx with q | ⟨q,_⟩
   · exact .inl (.inl q)
   · simp at q
 · rcases q with q | q
   · exact .inl q
   · rcases hfo x q with q | q
     · exact .inr q
     · omega
set_option maxHeartbeats 4000000 in
theorem step_any {A:Option Addr} {cap:Nat} {l:List Pr} (hM:MemAt w M) (h:RnAt w r R) (hB:Below W0.heap.size W0 w) (hlow:∀ x,mfoot M x∨rnfoot r R x→W0.heap.size≤x) (hK:StrsAt W0 r.KA R.keys) (hP:PairsAt W0 A l) (hl:l.length≤1000)
 (hne:R.keys≠[]) (hkl:R.keys.length≤10) (hn:R.n≤30000) (ok:Gt.Okg 1 M.ds M.ss M.xs R.get) (hf:Gt.ggdn R.get=true→Gt.Fits (Pc.lk l R.key) (R.st (lm M)).2.2.W):
 Calls Tryz.prog 55 #[ptr r.r,ptr M.m,.slice A l.length cap] w fun e w'=>e=.returned (.bool true)∧Ran w M r R w':=by
 have c0:=h.1.cell 0
 have c1:=h.1.cell 1
 have c2:=h.1.cell 2
 have c3:=h.1.cell 3
 have z2:=h.1.frozen 2
 simp only [rnc,List.getElem?_toArray,List.getElem?_cons_succ,List.getElem?_cons_zero] at c0 c1 c2 c3
 obtain ⟨kl,hkl'⟩:∃ kl,kl=R.keys.length:=⟨_,rfl⟩
 have hkl0:0<R.keys.length:=List.length_pos_iff.2 hne
 obtain ⟨i,hi⟩:∃ i,i=R.n % R.keys.length:=⟨_,rfl⟩
 have hil:i<R.keys.length:=by rw [hi]; exact Nat.mod_lt _ hkl0
 obtain ⟨kb,ko,hKA,hkb,kc,ks⟩:=hK i hil
 have hkey:R.key=R.keys.getD i ⟨#[]⟩:=by unfold Rn.key; rw [hi]
 rw [← hkey] at kc ks
 have kcw:=(hB.cell (p:=⟨kb,ko+i,none⟩) hkb).trans kc
 have hkbw:kb<w.heap.size:=by have:=hB.size; omega
 have t1:¬((kl:Int)=0):=by omega
 have t2:(R.n:Int).tmod (kl:Int)=(i:Int):=by rw [hi,hkl',Int.ofNat_tmod]
 have t3:IntKind.i64.wrap (i:Int)=(i:Int):=IntWalk.i64_in _ (by omega)
 have t4:(i:Int)<(kl:Int):=by omega
 have t5:¬(kl=0):=by omega
 rw [← hkl',hKA] at c1
 have HM:=Lib.hid hM
 have HR:=Lib.hid h
 have hRf:Hid (∀ wx,Only (fun x=>mfoot M x∨rnfoot r R x) w wx→Calls Tryz.prog 46 #[.slice A l.length cap,.string R.key] wx fun e w'=>e=.returned (lkv (lk l R.key))∧wx=w'):=Lib.hid fun wx ho=>
  ref_any wx l A cap (by simp only [maxLen]; omega) (hP.below (hB.trans (ho.toBelow hB.size (fun x hx q=>by have:=hlow x q; omega)))) R.key
 have hNw:=Lib.hid (fun wx=>Gt.new_any R.w R.key (by simp only [maxLen]; omega) wx)
 replace ok:=Lib.hid ok
 replace hf:=Lib.hid hf
 obtain ⟨key,hkk⟩:∃ key,key=R.key:=⟨_,rfl⟩
 rw [← hkk] at kcw hRf hNw
 generalize hnn:R.n=n at*
 generalize hww:R.w=wk at*
 clear hM h hB hlow hK hP hl hne kc hkey hkl0 ks hi hil
 rw [← hkl'] at hkl
 have hklh:=Lib.hid hkl'
 clear hkl'
 replace hkk:=Lib.hid hkk
 replace hKA:=Lib.hid hKA
 go_enter Tryz.func55,Tryz.ntmps55
 go_wp2_with fail
 go_region_held3 (fun w'=>w'.cell? ⟨r.r,1,none⟩=some (.slice (some ⟨kb,ko,none⟩) kl r.kcap)∧w'.cell? ⟨r.r,3,none⟩=some (.int .i64 n)∧w'.cell? ⟨kb,ko+i,none⟩=some (.string key)) (go_keep) (fail)
 have hOd:Only (fun x=>mfoot M x∨rnfoot r R x) w w.drew:=(Only.refl _ w).drew
 have HMd:MemAt w.drew M:=HM.out.only ((Only.refl (fun _=>False) w).drew) (by simp)
 have HRd:RnAt w.drew r R:=HR.out.only ((Only.refl (fun _=>False) w).drew) (by simp)
 have hszd:w.drew.heap.size=w.heap.size:=rfl
 replace c0:w.drew.cell? ⟨r.r,0,none⟩=some (.int .i64 wk):=c0
 replace c2:w.drew.cell? ⟨r.r,2,none⟩=some (rgv r R.g):=c2
 replace z2:w.drew.frozen? ⟨r.r,2,none⟩=false:=z2
 replace HMd:=Lib.hid HMd
 replace HRd:=Lib.hid HRd
 replace hOd:=Lib.hid hOd
 clear c1 c3 kcw t1 t2 t3 t4 t5 hkl hkbw hkb
 generalize w.drew=wd at*
 replace hszd:=Lib.hid hszd
 cases hg:R.g with
 | none=>
   rw [hg] at c2
   unfold rgv at c2
   simp only at c2
   go_wp2_with fail
   refine (hNw.out _).mono ?_
   rintro e w2 ⟨ga,rfl,hG2,hlo2,hB2⟩
   have hRd2:RnAt w2 r R:=HRd.out.only (Only.ofBelow hB2 (fun _=>False)) (by simp)
   have hB3:=hRd2.1.store 2 (ptr ga.f)
   have z3:=hRd2.1.frozen 2
   have k3:=hRd2.1.cell 2
   unfold rnc rgv at k3
   rw [hg] at k3
   simp only [List.getElem?_toArray,List.getElem?_cons_succ,List.getElem?_cons_zero] at k3
   have hself:=hRd2.self hG2
   have hx:Hid (Has w M r R (w2.setCell ⟨r.r,2,none⟩ (ptr ga.f))):=Lib.hid (by
    have hO3:=(Only.refl (·=r.r) w2).setCell (p:=⟨r.r,2,none⟩) (.inl rfl) (ptr ga.f)
    refine ⟨ga,?_,?_,?_,fun x hx=>.inr (by have:=hlo2 x hx; have:=hszd.out; omega),?_⟩
    · have e:R.get=Gt.newGet wk key:=by unfold Rn.get; rw [hg,hkk.out,hww]; rfl
      rw [e]
      exact hG2.only hO3 (fun x hx e=>hself (e▸hx))
    · have:=hB3
      unfold rnc at this
      simp only [List.setIfInBounds_toArray,List.set_cons_zero,List.set_cons_succ] at this
      exact this
    · exact (HMd.out.below hB2).only hO3 (fun x hx e=>HRd.out.far HMd.out (x:=r.r) (.inl rfl) (e▸hx))
    · exact (hOd.out.below hB2).trans' hO3 (fun x _ e=>.inr (.inl e)))
   clear hB3 hG2 hlo2 hB2 hRd2 hself c2 c0 z2
   go_upto_region 6 with (fail)
   generalize w2.setCell ⟨r.r,2,none⟩ (ptr ga.f)=w3 at*
   clear HMd HRd hOd hszd hNw HR HM hKA hklh
   obtain ⟨gb,hG,hB,hM3,hfo,hO3⟩:=hx.out
   have q2:=hB.cell 2
   simp only [List.getElem?_toArray,List.getElem?_cons_succ,List.getElem?_cons_zero] at q2
   have hSt:=Lib.hid (Gt.get_step hM3 hG (r:=0) ok.out)
   have hRy:Hid (Calls Tryz.prog 90 #[ptr gb.f,ptr M.m] w3 fun e w'=>e=.returned (.bool true)∧w3=w'):=Lib.hid (Gt.ready_any _ _ w3)
   have H3:=Lib.hid (And.intro hG (And.intro hB (And.intro hM3 (And.intro hfo hO3))))
   clear hG hB hM3 hfo hO3 hx
   go_wp2_with fail
   refine hRy.out.mono ?_
   rintro e w' ⟨rfl,rfl⟩
   clear hRy
   go_wp2_with fail
   refine hSt.out.mono ?_
   rintro e w4 ⟨rfl,a',hmv,hM4,hG4,hO4⟩
   obtain ⟨hG,hB,hM3,hfo,hO3⟩:=H3.out
   clear hSt H3 q2
   cases hd:Gt.ggdn R.get with
   | false=>
     have hE:=Lib.hid (ran_go hd hG hB hM3 hfo hO3 hmv hM4 hG4 hO4)
     clear hG hB hM3 hfo hO3 hmv hM4 hG4 hO4
     go_wp2_with fail
     go_ret
     exact ⟨rfl,hE.out⟩
   | true=>
     have hft:=hf.out hd
     have hself:¬Gt.gfoot gb r.r:=fun hx=>(hG.ty hx).apart (blk_ty hB) (by decide)
     have hfar:¬mfoot M r.r:=fun hx=>(hM3.ty hx).apart (blk_ty hB) (by decide)
     have hB4:=hB.only hO4 (fun q=>q.elim hfar hself)
     have p2:=hB4.cell 2
     have p3:=hB4.cell 3
     simp only [List.getElem?_toArray,List.getElem?_cons_succ,List.getElem?_cons_zero,hnn] at p2 p3
     have e4:a'.f=gb.f:=hmv.1
     have hVl:=Gt.val_any hG4
     have hst:(Gt.ggst M.ds M.ss (M.xs,M.F,R.get)).2.2=(R.st (lm M)).2.2:=rfl
     rw [hst,hft.1,hft.2,e4,← hkk.out] at hVl
     replace hVl:=Lib.hid hVl
     have hO04:Only (fun x=>mfoot M x∨rnfoot r R x) w w4:=hO3.trans' hO4 (fun x hx q=>by
      rcases q with q | q
      · exact .inl q
      · rcases hfo x q with q | q
        · exact .inr q
        · omega)
     replace hO04:=Lib.hid hO04
     have hE:Hid (∀ w5,Below w4.heap.size w4 w5→Ran w M r R ((w5.setCell ⟨r.r,2,none⟩ (.pointer none)).setCell ⟨r.r,3,none⟩ (.int .i64 ((n:Int)+1)))):=Lib.hid fun w5 hb=>by
      have:=ran_over hd hG hB hM3 hfo hO3 hM4 hO4 hb
      rw [hnn] at this
      exact this
     have hBk:=Lib.hid hB4
     have t6:IntKind.i64.wrap ((n:Int)+1)=(n:Int)+1:=IntWalk.i64_in _ (by omega)
     clear hG hB hM3 hfo hO3 hmv hM4 hG4 hO4 hself hfar hB4 hst hft e4
     go_wp2_with fail
     refine hVl.out.mono ?_
     rintro e w5 ⟨rfl,hB5⟩
     have hRx:=Lib.hid (hRf.out w5 (hO04.out.below hB5))
     have hE5:=Lib.hid (hE.out w5 hB5)
     have hBk5:=hBk.out.only (Only.ofBelow hB5 (fun _=>False)) (by simp)
     have v2:=hBk5.cell 2
     have v3:=hBk5.cell 3
     have u2:=hBk5.frozen 2
     have u3:=hBk5.frozen 3
     simp only [List.getElem?_toArray,List.getElem?_cons_succ,List.getElem?_cons_zero,hnn] at v2 v3
     unfold lkv at hRx
     generalize (Pc.lk l key).getD ⟨#[]⟩=zz at*
     generalize (Pc.lk l key).isSome=bb at*
     clear hVl hE hBk hO04 hRf hB5 hBk5 p2 p3 hf ok
     go_wp2_with fail
     refine hRx.out.mono ?_
     rintro e w' ⟨rfl,rfl⟩
     clear hRx
     go_wp2_with fail
     go_ret
     exact ⟨rfl,hE5.out⟩
 | some G=>
   rw [hg] at c2
   unfold rgv at c2
   simp only at c2
   have hx:Hid (Has w M r R wd):=Lib.hid (by
    refine ⟨r.ga,?_,?_,HMd.out,fun x hx=>.inl (.inr ⟨by rw [hg]; rfl,hx⟩),hOd.out⟩
    · have e:R.get=G:=by unfold Rn.get; rw [hg]; rfl
      rw [e]
      exact HRd.out.2 G hg
    · have:=HRd.out.1
      unfold rnc rgv at this
      rw [hg] at this
      exact this)
   go_upto_region 6 with (fail)
   generalize wd=w3 at*
   clear c2 c0 z2
   have z2:w3.frozen? ⟨r.r,2,none⟩=false:=HRd.out.1.frozen 2
   clear HMd HRd hOd hszd hNw HR HM hKA hklh
   obtain ⟨gb,hG,hB,hM3,hfo,hO3⟩:=hx.out
   have q2:=hB.cell 2
   simp only [List.getElem?_toArray,List.getElem?_cons_succ,List.getElem?_cons_zero] at q2
   have hSt:=Lib.hid (Gt.get_step hM3 hG (r:=0) ok.out)
   have hRy:Hid (Calls Tryz.prog 90 #[ptr gb.f,ptr M.m] w3 fun e w'=>e=.returned (.bool true)∧w3=w'):=Lib.hid (Gt.ready_any _ _ w3)
   have H3:=Lib.hid (And.intro hG (And.intro hB (And.intro hM3 (And.intro hfo hO3))))
   clear hG hB hM3 hfo hO3 hx
   go_wp2_with fail
   refine hRy.out.mono ?_
   rintro e w' ⟨rfl,rfl⟩
   clear hRy
   go_wp2_with fail
   refine hSt.out.mono ?_
   rintro e w4 ⟨rfl,a',hmv,hM4,hG4,hO4⟩
   obtain ⟨hG,hB,hM3,hfo,hO3⟩:=H3.out
   clear hSt H3 q2
   cases hd:Gt.ggdn R.get with
   | false=>
     have hE:=Lib.hid (ran_go hd hG hB hM3 hfo hO3 hmv hM4 hG4 hO4)
     clear hG hB hM3 hfo hO3 hmv hM4 hG4 hO4
     go_wp2_with fail
     go_ret
     exact ⟨rfl,hE.out⟩
   | true=>
     have hft:=hf.out hd
     have hself:¬Gt.gfoot gb r.r:=fun hx=>(hG.ty hx).apart (blk_ty hB) (by decide)
     have hfar:¬mfoot M r.r:=fun hx=>(hM3.ty hx).apart (blk_ty hB) (by decide)
     have hB4:=hB.only hO4 (fun q=>q.elim hfar hself)
     have p2:=hB4.cell 2
     have p3:=hB4.cell 3
     simp only [List.getElem?_toArray,List.getElem?_cons_succ,List.getElem?_cons_zero,hnn] at p2 p3
     have e4:a'.f=gb.f:=hmv.1
     have hVl:=Gt.val_any hG4
     have hst:(Gt.ggst M.ds M.ss (M.xs,M.F,R.get)).2.2=(R.st (lm M)).2.2:=rfl
     rw [hst,hft.1,hft.2,e4,← hkk.out] at hVl
     replace hVl:=Lib.hid hVl
     have hO04:Only (fun x=>mfoot M x∨rnfoot r R x) w w4:=hO3.trans' hO4 (fun x hx q=>by
      rcases q with q | q
      · exact .inl q
      · rcases hfo x q with q | q
        · exact .inr q
        · omega)
     replace hO04:=Lib.hid hO04
     have hE:Hid (∀ w5,Below w4.heap.size w4 w5→Ran w M r R ((w5.setCell ⟨r.r,2,none⟩ (.pointer none)).setCell ⟨r.r,3,none⟩ (.int .i64 ((n:Int)+1)))):=Lib.hid fun w5 hb=>by
      have:=ran_over hd hG hB hM3 hfo hO3 hM4 hO4 hb
      rw [hnn] at this
      exact this
     have hBk:=Lib.hid hB4
     have t6:IntKind.i64.wrap ((n:Int)+1)=(n:Int)+1:=IntWalk.i64_in _ (by omega)
     clear hG hB hM3 hfo hO3 hmv hM4 hG4 hO4 hself hfar hB4 hst hft e4
     go_wp2_with fail
     refine hVl.out.mono ?_
     rintro e w5 ⟨rfl,hB5⟩
     have hRx:=Lib.hid (hRf.out w5 (hO04.out.below hB5))
     have hE5:=Lib.hid (hE.out w5 hB5)
     have hBk5:=hBk.out.only (Only.ofBelow hB5 (fun _=>False)) (by simp)
     have v2:=hBk5.cell 2
     have v3:=hBk5.cell 3
     have u2:=hBk5.frozen 2
     have u3:=hBk5.frozen 3
     simp only [List.getElem?_toArray,List.getElem?_cons_succ,List.getElem?_cons_zero,hnn] at v2 v3
     unfold lkv at hRx
     generalize (Pc.lk l key).getD ⟨#[]⟩=zz at*
     generalize (Pc.lk l key).isSome=bb at*
     clear hVl hE hBk hO04 hRf hB5 hBk5 p2 p3 hf ok
     go_wp2_with fail
     refine hRx.out.mono ?_
     rintro e w' ⟨rfl,rfl⟩
     clear hRx
     go_wp2_with fail
     go_ret
     exact ⟨rfl,hE5.out⟩
end
end Go.Proofs.YtkogifmjbmnpgaaGreat.LawTh
namespace Go.Proofs.YtkogifmjbmnpgaaGreat.Mx
open Go Hm Ar Mm Wk Pc Me Mq Pn Gt Qs Zp
structure GLaw {P D:Type} (wy:D→Wy) (DOk:D→Lm→Prop) (Ok:Lm→P→Prop) (rd:Lm→P→Bool) (st:Lm→P→Lm×P) (dn:Lm→P→Bool) (l:List Pr) (J:D→(Nat→Int→Nat→Prop)→Lm→P→Nat→Nat→Prop) (Q:Lm→P→Prop):Prop where
 ways:∀ {Z L},DOk Z L→(wy Z).Ok L l
 few:∀ {Z L},DOk Z L→(wy Z).few≤35
 k3:∀ {Z L},DOk Z L→3≤L.k
 ctr:∀ {Z L},DOk Z L→∀ (w:Nat) (p:Int),w=1∨w=2→0≤p→p≤18446744073709551615→DOk Z {L with xs:=L.xs.set (2+w) p}
 ok:∀ {Z old L p m c},J Z old L p m c→DOk Z L→Ok L p
 pub:∀ {Z old L p m c},J Z old L p m c→(wy Z).pub=false→∀ w x e,old w x e
 pos:∀ {Z old L p m c},J Z old L p m c→DOk Z L→1≤m
 wait:∀ {Z old L p m c},J Z old L p m c→DOk Z L→rd L p=false→Cl.nth L.xs 3≠0∨Cl.nth L.xs 4≠0
 over:∀ {Z old L p m c},J Z old L p m c→DOk Z L→rd L p=true→dn L p=true→Q (st L p).1 (st L p).2
 go:∀ {Z old L p m c},J Z old L p m c→DOk Z L→rd L p=true→dn L p=false→∃ Z' old' m' c' j,m'+1≤m∧c'+j≤c∧J Z' old' (st L p).1 (st L p).2 m' c'∧DOk Z' (st L p).1∧
  (∀ (R:Rn) (k:Nat),R.w=1∨R.w=2→RnOk (wy Z) L l old R k→∃ k',k'≤k+j∧RnOk (wy Z') (st L p).1 l old' R k')∧Cl.nth (st L p).1.xs 3=Cl.nth L.xs 3∧Cl.nth (st L p).1.xs 4=Cl.nth L.xs 4
 stays:∀ {Z old L p m c},J Z old L p m c→DOk Z L→∀ (w:Nat) (p':Int),w=1∨w=2→J Z old {L with xs:=L.xs.set (2+w) p'} p m c
structure Ms (P:Type) where
 L:Lm
 p:P
 a:Rn
 b:Rn
section
variable {P D:Type} {wy:D→Wy} {DOk:D→Lm→Prop} {Ok:Lm→P→Prop} {rd:Lm→P→Bool} {st:Lm→P→Lm×P} {dn:Lm→P→Bool} {l:List Pr} {J:D→(Nat→Int→Nat→Prop)→Lm→P→Nat→Nat→Prop} {Q:Lm→P→Prop} {len M0 D0 i:Nat} {S:Ms P}
def Turns (len T i Ψ:Nat) (ba bb:Bool):Prop:=(len+2) / 3≤i / 3→∃ f:Nat,f≤1∧Ψ+i / 3+f≤T+(len+2) / 3∧(f=0→i % 3=0∨(i % 3=1∧(ba=true∨bb=true))∨(i % 3=2∧bb=true))
def MInv (wy:D→Wy) (DOk:D→Lm→Prop) (J:D→(Nat→Int→Nat→Prop)→Lm→P→Nat→Nat→Prop) (l:List Pr) (len M0 D0:Nat) (i:Nat) (S:Ms P):Prop:=
 ∃ Z old m c ka kb,DOk Z S.L∧J Z old S.L S.p m c∧RnOk (wy Z) S.L l old S.a ka∧RnOk (wy Z) S.L l old S.b kb∧S.a.w=1∧S.b.w=2∧S.a.n≤i∧S.b.n≤i∧
   (m≤M0∧c≤D0)∧ka+c≤40+D0∧kb+c≤40+D0∧(S.a.g.isSome=false→ka=0)∧(S.b.g.isSome=false→kb=0)∧
   (len≤i→Turns len (M0+80+2*D0) i (m+(ka+c)+(kb+c)) S.a.g.isSome S.b.g.isSome)
theorem Turns.start {T Ψ:Nat} {ba bb:Bool} (h:Ψ≤T) (hi:i≤len):Turns len T i Ψ ba bb:=fun q=>by
 have h1:i / 3=(len+2) / 3:=by omega
 have h2:i % 3=0:=by omega
 exact ⟨0,by omega,by omega,fun _=>.inl h2⟩
theorem Turns.near {T Ψ Ψ':Nat} {ba bb ba' bb':Bool} (h:Turns len T i Ψ ba bb) (hΨ:Ψ'+1≤Ψ) (hT:Ψ'≤T):Turns len T (i+1) Ψ' ba' bb':=fun q=>by
 by_cases hq:(len+2) / 3≤i / 3
 · obtain ⟨f,h1,h2,h3⟩:=h hq
   by_cases hm:i % 3=2
   · exact ⟨0,by omega,by omega,fun _=>.inl (by omega)⟩
   · exact ⟨1,by omega,by omega,fun q=>by omega⟩
 · exact ⟨0,by omega,by omega,fun _=>.inl (by omega)⟩
theorem Turns.same {T Ψ:Nat} {ba bb ba' bb':Bool} (h:Turns len T i Ψ ba bb) (hT:Ψ≤T) (h0:i % 3=0→ba'=true∨bb'=true) (h1:i % 3=1→(ba=true∨bb=true)→bb'=true) (h2:i % 3=2→bb=false):Turns len T (i+1) Ψ ba' bb':=fun q=>by
 by_cases hq:(len+2) / 3≤i / 3
 · obtain ⟨f,g1,g2,g3⟩:=h hq
   have hm:i % 3=0∨i % 3=1∨i % 3=2:=by omega
   rcases hm with hm | hm | hm
   · exact ⟨f,g1,by omega,fun e=>.inr (.inl ⟨by omega,h0 hm⟩)⟩
   · refine ⟨f,g1,by omega,fun e=>.inr (.inr ⟨by omega,?_⟩)⟩
     rcases g3 e with q | ⟨_,q⟩ | ⟨q,_⟩
     · omega
     · exact h1 hm q
     · omega
   · have hf:f=1:=by
      by_cases e:f=0
      · rcases g3 e with q | ⟨q,_⟩ | ⟨_,q⟩
        · omega
        · omega
        · rw [h2 hm] at q; simp at q
      · omega
     exact ⟨0,by omega,by omega,fun _=>.inl (by omega)⟩
 · exact ⟨0,by omega,by omega,fun _=>.inl (by omega)⟩
theorem MInv.flag (F:GLaw wy DOk Ok rd st dn l J Q) (h:MInv wy DOk J l len M0 D0 i S):S.L.F=false:=by
 obtain ⟨Z,old,m,c,ka,kb,hZ,_⟩:=h
 exact (F.ways hZ).F
theorem MInv.ok (F:GLaw wy DOk Ok rd st dn l J Q) (h:MInv wy DOk J l len M0 D0 i S):Ok S.L S.p:=by
 obtain ⟨Z,old,m,c,ka,kb,hZ,hJ,_⟩:=h
 exact F.ok hJ hZ
theorem MInv.n (h:MInv wy DOk J l len M0 D0 i S):S.a.n≤i∧S.b.n≤i:=by
 obtain ⟨Z,old,m,c,ka,kb,hZ,hJ,h1,h2,h3,h4,h5,h6,_⟩:=h
 exact ⟨h5,h6⟩
theorem MInv.ends (h:MInv wy DOk J l len M0 D0 i S) (hT:3*(M0+80+2*D0)+6≤20000) (hi:len+20000≤i):False:=by
 obtain ⟨Z,old,m,c,ka,kb,hZ,hJ,h1,h2,h3,h4,h5,h6,h7,h8,h9,h10,h11,h12⟩:=h
 obtain ⟨f,g1,g2,_⟩:=h12 (by omega) (by omega)
 omega
theorem MInv.over (F:GLaw wy DOk Ok rd st dn l J Q) (h:MInv wy DOk J l len M0 D0 i S) (hr:rd S.L S.p=true) (hd:dn S.L S.p=true):Q (st S.L S.p).1 (st S.L S.p).2:=by
 obtain ⟨Z,old,m,c,ka,kb,hZ,hJ,_⟩:=h
 exact F.over hJ hZ hr hd
theorem MInv.go (F:GLaw wy DOk Ok rd st dn l J Q) (h:MInv wy DOk J l len M0 D0 i S) (hr:rd S.L S.p=true) (hd:dn S.L S.p=false):MInv wy DOk J l len M0 D0 (i+1) ⟨(st S.L S.p).1,(st S.L S.p).2,S.a,S.b⟩:=by
 obtain ⟨Z,old,m,c,ka,kb,hZ,hJ,h1,h2,h3,h4,h5,h6,h7,h8,h9,h10,h11,h12⟩:=h
 obtain ⟨Z',old',m',c',j,q1,q2,q3,q4,q5,_,_⟩:=F.go hJ hZ hr hd
 obtain ⟨ka',a1,a2⟩:=q5 S.a ka (.inl h3) h1
 obtain ⟨kb',b1,b2⟩:=q5 S.b kb (.inr h4) h2
 have zero:∀ {R:Rn} {k:Nat},RnOk (wy Z') (st S.L S.p).1 l old' R k→R.g.isSome=false→k=0:=fun {R k} hR hg=>by
  unfold RnOk at hR
  split at hR
  · exact hR.2
  · rename_i q; rw [q] at hg; simp at hg
 refine ⟨Z',old',m',c',ka',kb',q4,q3,a2,b2,h3,h4,by show S.a.n≤_; omega,by show S.b.n≤_; omega,⟨by omega,by omega⟩,by omega,by omega,zero a2,zero b2,fun hi=>?_⟩
 by_cases hl:len≤i
 · exact Turns.near (h12 hl) (by omega) (by omega)
 · exact Turns.start (by omega) (by omega)
theorem MInv.wait (F:GLaw wy DOk Ok rd st dn l J Q) (h:MInv wy DOk J l len M0 D0 i S) (hr:rd S.L S.p=false) (hp:len≤i→i % 3=0):MInv wy DOk J l len M0 D0 (i+1) S:=by
 obtain ⟨Z,old,m,c,ka,kb,hZ,hJ,h1,h2,h3,h4,h5,h6,h7,h8,h9,h10,h11,h12⟩:=h
 have busy:∀ {R:Rn} {k:Nat},RnOk (wy Z) S.L l old R k→Cl.nth S.L.xs (2+R.w)≠0→R.g.isSome=true:=fun {R k} hR hc=>by
  unfold RnOk at hR
  split at hR
  · exact absurd hR.1 hc
  · rename_i q; rw [q]; rfl
 refine ⟨Z,old,m,c,ka,kb,hZ,hJ,h1,h2,h3,h4,by omega,by omega,h7,h8,h9,h10,h11,fun hi=>?_⟩
 by_cases hl:len≤i
 · refine Turns.same (h12 hl) (by omega) (fun _=>?_) (fun q=>by have:=hp hl; omega) (fun q=>by have:=hp hl; omega)
   rcases F.wait hJ hZ hr with q | q
   · exact .inl (busy h1 (by rw [h3]; exact q))
   · exact .inr (busy h2 (by rw [h4]; exact q))
 · exact Turns.start (by omega) (by omega)
theorem MInv.idleA (h:MInv wy DOk J l len M0 D0 i S) (hp:len≤i→i % 3=1∧S.a.g.isSome=false):MInv wy DOk J l len M0 D0 (i+1) S:=by
 obtain ⟨Z,old,m,c,ka,kb,hZ,hJ,h1,h2,h3,h4,h5,h6,h7,h8,h9,h10,h11,h12⟩:=h
 refine ⟨Z,old,m,c,ka,kb,hZ,hJ,h1,h2,h3,h4,by omega,by omega,h7,h8,h9,h10,h11,fun hi=>?_⟩
 by_cases hl:len≤i
 · obtain ⟨p1,p2⟩:=hp hl
   exact Turns.same (h12 hl) (by omega) (fun q=>by omega) (fun _ q=>by rw [p2] at q; simpa using q) (fun q=>by omega)
 · exact Turns.start (by omega) (by omega)
theorem MInv.idleB (h:MInv wy DOk J l len M0 D0 i S) (hp:len≤i→i % 3=2∧S.b.g.isSome=false):MInv wy DOk J l len M0 D0 (i+1) S:=by
 obtain ⟨Z,old,m,c,ka,kb,hZ,hJ,h1,h2,h3,h4,h5,h6,h7,h8,h9,h10,h11,h12⟩:=h
 refine ⟨Z,old,m,c,ka,kb,hZ,hJ,h1,h2,h3,h4,by omega,by omega,h7,h8,h9,h10,h11,fun hi=>?_⟩
 by_cases hl:len≤i
 · obtain ⟨p1,p2⟩:=hp hl
   exact Turns.same (h12 hl) (by omega) (fun q=>by omega) (fun q=>by omega) (fun _=>p2)
 · exact Turns.start (by omega) (by omega)
theorem next_n (R:Rn) (L:Lm):(R.next L).n≤R.n+1∧(R.next L).w=R.w∧(R.next L).keys=R.keys:=by
 unfold Rn.next
 split
 · exact ⟨Nat.le_refl _,rfl,rfl⟩
 · exact ⟨Nat.le_succ _,rfl,rfl⟩
theorem MInv.stepA (F:GLaw wy DOk Ok rd st dn l J Q) (h:MInv wy DOk J l len M0 D0 i S) (hp:len≤i→i % 3=1∧S.a.g.isSome=true):
 (∀ r,r≤4000000000000000000→Okg r S.L.ds S.L.ss S.L.xs S.a.get)∧(Gt.ggdn S.a.get=true→Gt.Fits (Pc.lk l S.a.key) (S.a.st S.L).2.2.W)∧(S.a.mem S.L).F=false∧MInv wy DOk J l len M0 D0 (i+1) ⟨S.a.mem S.L,S.p,S.a.next S.L,S.b⟩:=by
 obtain ⟨Z,old,m,c,ka,kb,hZ,hJ,h1,h2,h3,h4,h5,h6,h7,h8,h9,h10,h11,h12⟩:=h
 have hk:=F.k3 hZ
 have hpub:=F.pub hJ
 have hY:=F.ways hZ
 obtain ⟨g1,g2,g3,g4,g5,j,g6,g7,g8,g9⟩:=h1.step hY hpub (by rw [h3]; omega) (by rw [h3,h4]; omega) h2
 have hfew:=F.few hZ
 have hDJ:DOk Z (S.a.mem S.L)∧J Z old (S.a.mem S.L) S.p m c:=by
  rcases g4 with ⟨p,p0,p1,e⟩ | e
  · rw [e]
    exact ⟨F.ctr hZ _ p (.inl h3) p0 p1,F.stays hJ hZ _ p (.inl h3)⟩
  · rw [e]
    exact ⟨hZ,hJ⟩
 obtain ⟨n1,n2,n3⟩:=next_n S.a S.L
 have hj:j≤40∨j+1≤ka:=by
  cases hg:S.a.g.isSome with
  | true=>exact .inr (g7 hg)
  | false=>have:=h10 hg; exact .inl (by omega)
 have hjc:j+c≤40+D0:=by omega
 refine ⟨g1,g2,g3,Z,old,m,c,j,kb,hDJ.1,hDJ.2,g6,g5,by show (S.a.next S.L).w=1; rw [n2]; exact h3,h4,by show (S.a.next S.L).n≤_; omega,by show S.b.n≤_; omega,h7,hjc,h9,g9,h11,fun hi=>?_⟩
 by_cases hl:len≤i
 · obtain ⟨p1,p2⟩:=hp hl
   have:=g7 p2
   exact Turns.near (h12 hl) (by omega) (by omega)
 · exact Turns.start (by omega) (by omega)
theorem MInv.stepB (F:GLaw wy DOk Ok rd st dn l J Q) (h:MInv wy DOk J l len M0 D0 i S) (hp:len≤i→i % 3=2∧S.b.g.isSome=true):
 (∀ r,r≤4000000000000000000→Okg r S.L.ds S.L.ss S.L.xs S.b.get)∧(Gt.ggdn S.b.get=true→Gt.Fits (Pc.lk l S.b.key) (S.b.st S.L).2.2.W)∧(S.b.mem S.L).F=false∧MInv wy DOk J l len M0 D0 (i+1) ⟨S.b.mem S.L,S.p,S.a,S.b.next S.L⟩:=by
 obtain ⟨Z,old,m,c,ka,kb,hZ,hJ,h1,h2,h3,h4,h5,h6,h7,h8,h9,h10,h11,h12⟩:=h
 have hk:=F.k3 hZ
 have hpub:=F.pub hJ
 have hY:=F.ways hZ
 obtain ⟨g1,g2,g3,g4,g5,j,g6,g7,g8,g9⟩:=h2.step hY hpub (by rw [h4]; omega) (by rw [h3,h4]; omega) h1
 have hfew:=F.few hZ
 have hDJ:DOk Z (S.b.mem S.L)∧J Z old (S.b.mem S.L) S.p m c:=by
  rcases g4 with ⟨p,p0,p1,e⟩ | e
  · rw [e]
    exact ⟨F.ctr hZ _ p (.inr h4) p0 p1,F.stays hJ hZ _ p (.inr h4)⟩
  · rw [e]
    exact ⟨hZ,hJ⟩
 obtain ⟨n1,n2,n3⟩:=next_n S.b S.L
 have hj:j≤40∨j+1≤kb:=by
  cases hg:S.b.g.isSome with
  | true=>exact .inr (g7 hg)
  | false=>have:=h11 hg; exact .inl (by omega)
 have hjc:j+c≤40+D0:=by omega
 refine ⟨g1,g2,g3,Z,old,m,c,ka,j,hDJ.1,hDJ.2,g5,g6,h3,by show (S.b.next S.L).w=2; rw [n2]; exact h4,by show S.a.n≤_; omega,by show (S.b.next S.L).n≤_; omega,h7,h8,hjc,h10,g9,fun hi=>?_⟩
 by_cases hl:len≤i
 · obtain ⟨p1,p2⟩:=hp hl
   have:=g7 p2
   exact Turns.near (h12 hl) (by omega) (by omega)
 · exact Turns.start (by omega) (by omega)
end
end Go.Proofs.YtkogifmjbmnpgaaGreat.Mx
namespace Go.Proofs.YtkogifmjbmnpgaaGreat.Mg
open Go Go.RowKit Hp K Fl Rw Hm Ar Mm Me LK Qs Wk Pc Pn Mx Zp LawTen LawTh
set_option maxRecDepth 100000
structure Env (T:TypeId) (fr fs:Nat):Type 1 where
 A:Type
 P:Type
 D:Type
 X:Lay A P
 Ok:Lm→P→Prop
 rd:Lm→P→Bool
 st:Lm→P→Lm×P
 dn:Lm→P→Bool
 wy:D→Wy
 DOk:D→Lm→Prop
 l:List Pr
 J:D→(Nat→Int→Nat→Prop)→Lm→P→Nat→Nat→Prop
 Q:Lm→P→Prop
 F:Frm X T fr fs Ok rd st dn
 G:GLaw wy DOk Ok rd st dn l J Q
 only:∀ {w w':World} {a:A} {p:P} {S:Nat→Prop},X.At w a p→Only S w w'→(∀ x,X.foot a p x→¬S x)→X.At w' a p
 lt:∀ {w:World} {a:A} {p:P} {x:Nat},X.At w a p→X.foot a p x→x<w.heap.size
 far:∀ {w:World} {M:Mo} {a:A} {p:P} {x:Nat},X.At w a p→MemAt w M→X.foot a p x→¬mfoot M x
 M0:Nat
 D0:Nat
 hT:3*(M0+80+2*D0)+6≤20000
def Env.ob {T:TypeId} {fr fs:Nat} (E:Env T fr fs) (a:E.A) (p:E.P):Ob:=obX E.X (fun h ho hn=>E.only h ho hn) (fun h hx=>E.lt h hx) a p
structure Mc where
 m:Nat
 f:Nat
 r0:Nat
 r1:Nat
 ka:List ByteArray
 kb:List ByteArray
 KA:Option Addr
 KB:Option Addr
 len:Nat
def Is1 (r:Ra) (R:Rn) (b:Nat) (ks:List ByteArray) (A:Option Addr):Prop:=r.r=b∧r.KA=A∧R.keys=ks∧(ks=[]→R.g=none)
def Mst {T:TypeId} {fr fs:Nat} (E:Env T fr fs) (W0:World) (C:Mc) (Q:Lm→E.P→Rn→Rn→Prop) (i:Nat) (w:World):Prop:=
 ∃ M a p ra rb Ra Rb,H4 W0 w (obM M) (E.ob a p) (obR ra Ra) (obR rb Rb)∧MInv E.wy E.DOk E.J E.l C.len E.M0 E.D0 i ⟨lm M,p,Ra,Rb⟩∧M.m=C.m∧E.X.f a=C.f∧Is1 ra Ra C.r0 C.ka C.KA∧Is1 rb Rb C.r1 C.kb C.KB∧Q (lm M) p Ra Rb
def Fin {T:TypeId} {fr fs:Nat} (E:Env T fr fs) (W0:World) (C:Mc) (w:World):Prop:=∃ M a p,MemAt w M∧M.m=C.m∧E.X.At w a p∧E.X.f a=C.f∧E.Q (lm M) p∧Below W0.heap.size W0 w
abbrev Any {P:Type}:Lm→P→Rn→Rn→Prop:=fun _ _ _ _=>True
section
variable {T:TypeId} {fr fs:Nat} {E:Env T fr fs} {W0 w w':World} {C:Mc} {Q Q':Lm→E.P→Rn→Rn→Prop} {i:Nat}
theorem Mst.down (h:Mst E W0 C Q i w) (hb:Below w.heap.size w w'):Mst E W0 C Q i w':=by
 obtain ⟨M,a,p,ra,rb,Ra,Rb,h1,h2,h3,h4,h5,h6,h7⟩:=h
 exact ⟨M,a,p,ra,rb,Ra,Rb,h1.down hb,h2,h3,h4,h5,h6,h7⟩
theorem Mst.ends (h:Mst E W0 C Q i w) (hi:C.len+20000≤i):False:=by
 obtain ⟨M,a,p,ra,rb,Ra,Rb,h1,h2,_⟩:=h
 exact h2.ends E.hT hi
theorem Mst.fault (h:Mst E W0 C Q i w):∃ ar,w.cell? ⟨C.m,2,none⟩=some (ptr ar)∧C.m<w.heap.size∧Calls Tryz.prog 18 #[ptr ar] w fun e w'=>e=.returned (.bool false)∧w=w':=by
 obtain ⟨M,a,p,ra,rb,Ra,Rb,h1,h2,h3,_⟩:=h
 have hM:MemAt w M:=h1.hm
 have hF:M.F=false:=h2.flag E.G
 have hf:=fault_any hM.2.2.2.1
 rw [hF] at hf
 exact ⟨M.ar,by rw [← h3]; exact hM.hd.2.2.1,by rw [← h3]; exact hM.1.lt,hf⟩
theorem Mst.ready (h:Mst E W0 C Q i w):Calls Tryz.prog fr #[ptr C.f,ptr C.m] w fun e w'=>∃ b,e=.returned (.bool b)∧Mst E W0 C (fun L p _ _=>E.rd L p=b) i w':=by
 obtain ⟨M,a,p,ra,rb,Ra,Rb,h1,h2,h3,h4,h5,h6,_⟩:=h
 have hr:=E.F.ready h1.hm (show E.X.At w a p from h1.hf) (h2.ok E.G)
 rw [h4,h3] at hr
 exact hr.mono fun e w' q=>⟨_,q.1,M,a,p,ra,rb,Ra,Rb,h1.down q.2,h2,h3,h4,h5,h6,rfl⟩
theorem Mst.step (h:Mst E W0 C (fun L p _ _=>E.rd L p=true) i w):Calls Tryz.prog fs #[ptr C.f,ptr C.m] w fun e w'=>(e=.returned (.bool true)∧Fin E W0 C w')∨(e=.returned (.bool false)∧Mst E W0 C Any (i+1) w'):=by
 obtain ⟨M,a,p,ra,rb,Ra,Rb,h1,h2,h3,h4,h5,h6,h7⟩:=h
 have hs:=E.F.step h1.hm (show E.X.At w a p from h1.hf) (h2.ok E.G) h7
 rw [h4,h3] at hs
 refine hs.mono fun e1 w' q=>?_
 obtain ⟨q1,M',a',r1,r2,r3,r4,r5,r6,r7⟩:=q
 cases hd:E.dn (lm M) p with
 | true=>
   have hQ:E.Q (E.st (lm M) p).1 (E.st (lm M) p).2:=h2.over E.G h7 hd
   refine .inl ⟨by rw [q1,hd],M',a',(E.st (lm M) p).2,r1,r3.m.trans h3,r4,r5.trans h4,by rw [r2]; exact hQ,h1.below.trans (r7.toBelow h1.below.size fun x hx q=>?_)⟩
   have:=h1.low x (q.elim .inl fun q=>.inr (.inl q))
   omega
 | false=>
   have hg:=h2.go E.G h7 hd
   refine .inr ⟨by rw [q1,hd],M',a',(E.st (lm M) p).2,ra,rb,Ra,Rb,h1.step r1 r4 (fun x hx hg=>E.far r4 r1 hg hx) r3.foot r6 r7,?_,r3.m.trans h3,r5.trans h4,h5,h6,trivial⟩
   rw [r2]
   exact hg
theorem Mst.wait (h:Mst E W0 C (fun L p _ _=>E.rd L p=false) i w) (hp:C.len≤i→i % 3=0):Mst E W0 C Any (i+1) w:=by
 obtain ⟨M,a,p,ra,rb,Ra,Rb,h1,h2,h3,h4,h5,h6,h7⟩:=h
 exact ⟨M,a,p,ra,rb,Ra,Rb,h1,h2.wait E.G h7 hp,h3,h4,h5,h6,trivial⟩
theorem Mst.busyA (h:Mst E W0 C Q i w):Calls Tryz.prog 54 #[ptr C.r0] w fun e w'=>(∃ b,e=.returned (.bool b)∧Mst E W0 C (fun _ _ Ra _=>Ra.g.isSome=b) i w)∧w=w':=by
 obtain ⟨M,a,p,ra,rb,Ra,Rb,h1,h2,h3,h4,h5,h6,_⟩:=h
 have hb:=busy_any (show RnAt w ra Ra from h1.ha)
 rw [h5.1] at hb
 exact hb.mono fun e w' q=>⟨⟨_,q.1,M,a,p,ra,rb,Ra,Rb,h1,h2,h3,h4,h5,h6,rfl⟩,q.2⟩
theorem Mst.busyB (h:Mst E W0 C Q i w):Calls Tryz.prog 54 #[ptr C.r1] w fun e w'=>(∃ b,e=.returned (.bool b)∧Mst E W0 C (fun _ _ _ Rb=>Rb.g.isSome=b) i w)∧w=w':=by
 obtain ⟨M,a,p,ra,rb,Ra,Rb,h1,h2,h3,h4,h5,h6,_⟩:=h
 have hb:=busy_any (show RnAt w rb Rb from h1.hb)
 rw [h6.1] at hb
 exact hb.mono fun e w' q=>⟨⟨_,q.1,M,a,p,ra,rb,Ra,Rb,h1,h2,h3,h4,h5,h6,rfl⟩,q.2⟩
theorem Mst.idleA (h:Mst E W0 C (fun _ _ Ra _=>Ra.g.isSome=false) i w) (hp:C.len≤i→i % 3=1):Mst E W0 C Any (i+1) w:=by
 obtain ⟨M,a,p,ra,rb,Ra,Rb,h1,h2,h3,h4,h5,h6,h7⟩:=h
 exact ⟨M,a,p,ra,rb,Ra,Rb,h1,h2.idleA (fun q=>⟨hp q,h7⟩),h3,h4,h5,h6,trivial⟩
theorem Mst.idleB (h:Mst E W0 C (fun _ _ _ Rb=>Rb.g.isSome=false) i w) (hp:C.len≤i→i % 3=2):Mst E W0 C Any (i+1) w:=by
 obtain ⟨M,a,p,ra,rb,Ra,Rb,h1,h2,h3,h4,h5,h6,h7⟩:=h
 exact ⟨M,a,p,ra,rb,Ra,Rb,h1,h2.idleB (fun q=>⟨hp q,h7⟩),h3,h4,h5,h6,trivial⟩
theorem next_keys (R:Rn) (L:Lm):(R.next L).keys=R.keys:=(next_n R L).2.2
theorem Mst.stepA (h:Mst E W0 C Q i w) (hq:C.len≤i→i % 3=1∧∀ L p Ra Rb,Q L p Ra Rb→Ra.g.isSome=true) (hi:i≤30000) (hK:StrsAt W0 C.KA C.ka) (hk:C.ka.length≤10) {A:Option Addr} {cap:Nat} (hP:PairsAt W0 A E.l) (hl:E.l.length≤1000):
 Calls Tryz.prog 55 #[ptr C.r0,ptr C.m,.slice A E.l.length cap] w fun e w'=>e=.returned (.bool true)∧Mst E W0 C Any (i+1) w':=by
 obtain ⟨M,a,p,ra,rb,Ra,Rb,h1,h2,h3,h4,h5,h6,h7⟩:=h
 obtain ⟨a1,a2,a3,a4⟩:=h5
 have hR:RnAt w ra Ra:=h1.ha
 by_cases hne:C.ka=[]
 · have hs:=step_idle hR (a3.trans hne) (ptr C.m) (.slice A E.l.length cap)
   rw [a1] at hs
   refine hs.mono fun e w' q=>⟨q.1,?_⟩
   rw [← q.2]
   refine ⟨M,a,p,ra,rb,Ra,Rb,h1,h2.idleA (fun q=>⟨(hq q).1,?_⟩),h3,h4,⟨a1,a2,a3,a4⟩,h6,trivial⟩
   show Ra.g.isSome=false
   rw [a4 hne]; rfl
 · obtain ⟨b1,b2,b3,b4⟩:=h2.stepA E.G (fun q=>⟨(hq q).1,(hq q).2 _ _ _ _ h7⟩)
   have hn:=h2.n.1
   have hn:Ra.n≤i:=hn
   have hs:=step_any (W0:=W0) (A:=A) (cap:=cap) (l:=E.l) h1.hm hR h1.below (fun x q=>h1.low x (q.elim .inl fun q=>.inr (.inr (.inl q)))) (by rw [a2,a3]; exact hK) hP hl (by rw [a3]; exact hne) (by rw [a3]; exact hk) (by omega) (b1 1 (by omega)) b2
   rw [a1,h3] at hs
   refine hs.mono fun e w' q=>⟨q.1,?_⟩
   obtain ⟨M',r',c1,c2,c3,c4,c5,⟨c6,c7,c8⟩,c9,c10⟩:=q.2
   have h4':=(h1.turn.step (m':=obM M') (f':=obR r' (Ra.next (lm M))) c1 c5 (fun x hx hr=>c5.far c1 hr hx) (fun x hx=>.inl (c4 x hx)) c9 c10).turn
   refine ⟨M',a,p,r',rb,Ra.next (lm M),Rb,h4',?_,c3.trans h3,h4,⟨c6.trans a1,c7.trans a2,(next_keys _ _).trans a3,fun q=>absurd q hne⟩,h6,trivial⟩
   rw [c2]
   exact b4
theorem Mst.stepB (h:Mst E W0 C Q i w) (hq:C.len≤i→i % 3=2∧∀ L p Ra Rb,Q L p Ra Rb→Rb.g.isSome=true) (hi:i≤30000) (hK:StrsAt W0 C.KB C.kb) (hk:C.kb.length≤10) {A:Option Addr} {cap:Nat} (hP:PairsAt W0 A E.l) (hl:E.l.length≤1000):
 Calls Tryz.prog 55 #[ptr C.r1,ptr C.m,.slice A E.l.length cap] w fun e w'=>e=.returned (.bool true)∧Mst E W0 C Any (i+1) w':=by
 obtain ⟨M,a,p,ra,rb,Ra,Rb,h1,h2,h3,h4,h5,h6,h7⟩:=h
 obtain ⟨a1,a2,a3,a4⟩:=h6
 have hR:RnAt w rb Rb:=h1.hb
 by_cases hne:C.kb=[]
 · have hs:=step_idle hR (a3.trans hne) (ptr C.m) (.slice A E.l.length cap)
   rw [a1] at hs
   refine hs.mono fun e w' q=>⟨q.1,?_⟩
   rw [← q.2]
   refine ⟨M,a,p,ra,rb,Ra,Rb,h1,h2.idleB (fun q=>⟨(hq q).1,?_⟩),h3,h4,h5,⟨a1,a2,a3,a4⟩,trivial⟩
   show Rb.g.isSome=false
   rw [a4 hne]; rfl
 · obtain ⟨b1,b2,b3,b4⟩:=h2.stepB E.G (fun q=>⟨(hq q).1,(hq q).2 _ _ _ _ h7⟩)
   have hn:=h2.n.2
   have hn:Rb.n≤i:=hn
   have hs:=step_any (W0:=W0) (A:=A) (cap:=cap) (l:=E.l) h1.hm hR h1.below (fun x q=>h1.low x (q.elim .inl fun q=>.inr (.inr (.inr q)))) (by rw [a2,a3]; exact hK) hP hl (by rw [a3]; exact hne) (by rw [a3]; exact hk) (by omega) (b1 1 (by omega)) b2
   rw [a1,h3] at hs
   refine hs.mono fun e w' q=>⟨q.1,?_⟩
   obtain ⟨M',r',c1,c2,c3,c4,c5,⟨c6,c7,c8⟩,c9,c10⟩:=q.2
   have h4':=(h1.swap.turn.step (m':=obM M') (f':=obR r' (Rb.next (lm M))) c1 c5 (fun x hx hr=>c5.far c1 hr hx) (fun x hx=>.inl (c4 x hx)) c9 c10).turn.swap
   refine ⟨M',a,p,ra,r',Ra,Rb.next (lm M),h4',?_,c3.trans h3,h4,h5,⟨c6.trans a1,c7.trans a2,(next_keys _ _).trans a3,fun q=>absurd q hne⟩,trivial⟩
   rw [c2]
   exact b4
end
end Go.Proofs.YtkogifmjbmnpgaaGreat.Mg
namespace Go.Proofs.YtkogifmjbmnpgaaGreat.LK
open Go Go.RowKit Go.WideShapes Go.ChangeShapes
def BytesAt (w:World) (A:Option Addr) (len:Nat):Prop:=∀ i,i<len→∃ (b o x:Nat),A=some ⟨b,o,none⟩∧b<w.heap.size∧w.cell? ⟨b,o+i,none⟩=some (.int .u8 (x:Int))∧x≤255
set_option maxRecDepth 100000 in
theorem bytes_of {H:Type} {enc:TypeId×Value→H} {w:World} {base:Nat} {spare:Nat→Bool} {held:Bool} {r:Reach} {b0:Nat} {v:Value} {d:DataW H} {p:List MemPlace}
 (hv:Value.okWide Tryz.prog w r b0 57 v) (h:DataW.Trod enc Tryz.prog w base spare held 57 v d p):
 ∃ (A:Option Addr) (len cap:Nat),v=.slice A len cap∧len≤maxLen∧BytesAt w A len:=by
 obtain ⟨A,len,cap,rfl,hl,hrow⟩:=rows_raw (C:=1) Tryz.underlying57 (by kernel_rfl) (by decide) hv h
 refine ⟨A,len,cap,rfl,hl,fun i hi=>?_⟩
 obtain ⟨b,o,cs,rfl,hb,hcl,hat,n,y,ht⟩:=hrow i hi
 obtain ⟨x,rfl,_,hw⟩:=DataW.trod_int Tryz.underlying5 ht
 have hx:0≤x∧x≤255:=by
  simp [Lit.wf,IntKind.min,IntKind.max,IntKind.signed,IntKind.bits] at hw
  omega
 obtain ⟨z,rfl⟩:=Int.eq_ofNat_of_zero_le hx.1
 exact ⟨b,o,z,rfl,hb,by simpa using hat 0 (by omega),by omega⟩
end Go.Proofs.YtkogifmjbmnpgaaGreat.LK
