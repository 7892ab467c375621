/- Walks over layer 9 (walk): a look at a node: it is found, the chain goes on, or nobody can say how. -/
import Derived.Test.YtpobbnllcoabhaaGreatDoorWalkA
import Derived.Deep.DeepCutAuto
set_option linter.unusedVariables false
set_option linter.unusedSimpArgs false
namespace Go.Proofs.YtpobbnllcoabhaaGreatDoor.Wk
open Go Go.RowKit Hp K Fl Rw Hm Ar Mm Me
set_option maxRecDepth 100000
def pl (ss:List Sl) (x:Nat):Option Nat:=if x≠0∧(x-1) % 65536<ss.length∧(at' ss ((x-1) % 65536)).taken=true∧(at' ss ((x-1) % 65536)).gen=(x-1) / 65536 then some ((x-1) % 65536) else none
theorem pl_some {ss:List Sl} {x k:Nat} (hl:ss.length≤1024):pl ss x=some k↔IsAt ss x k:=by
 unfold pl
 constructor
 · intro h
   split at h
   · rename_i q
     injection h with h
     obtain ⟨k',hk'⟩:=(isAt_iff hl q.1).2 q.2
     rw [(isAt_parts hl hk').1] at h
     subst h
     exact hk'
   · simp at h
 · intro h
   have h2:=isAt_parts hl h
   rw [if_pos ⟨h.pos,(isAt_iff hl h.pos).1 ⟨k,h⟩⟩,h2.1]
theorem pl_none {ss:List Sl} {x:Nat} (hl:ss.length≤1024) (h:pl ss x=none):∃ c,Bad ss x c:=by
 rcases bad_or ss x with ⟨k,hk⟩ | h'
 · rw [(pl_some hl).2 hk] at h; simp at h
 · exact h'
section
variable {w w':World} {M:Mo} {W:Wa}
theorem foot_arena:∀ x,afoot M.ar M.sb M.fb x→mfoot M x:=fun _ h=>.inr (.inr (.inr (.inl h)))
def Looked (w wx:World) (M':Mo) (W:Wa) (nd:Nd) (c:Int) (S:Nat→Prop) (p e:Value):Prop:=
 ∃ b,p=ptr b∧e=.int .i64 c∧w.heap.size≤b∧Blk wx b 139 #[.string nd.key,.string nd.val,.int .u32 nd.sum,.int .u64 nd.next]∧MemAt wx M'∧WaAt wx W∧Only S w wx
theorem looked_after {w w2:World} {M':Mo} {nd:Nd} {c:Int} {S:Nat→Prop} (hM:MemAt w2 M') (hW:WaAt w2 W) (hO:Only S w w2):
 Looked w (w2.alloc (.cells #[.string nd.key,.string nd.val,.int .u32 nd.sum,.int .u64 nd.next] 139)) M' W nd c S (ptr w2.heap.size) (.int .i64 c):=
 ⟨_,rfl,rfl,hO.size,Blk.made w2 _ _,hM.alloc _,hW.only ((Only.refl (fun _=>False) _).alloc _) (by simp),hO.alloc _⟩
theorem looked_ahead {w w2 w3:World} {M':Mo} {nd:Nd} {c:Int} {S:Nat→Prop} {b:Nat} {cs:Array Value} (hM:MemAt w2 M') (hW:WaAt w2 W) (hO:Only S w w2) (hb:w.heap.size≤b) (hB:Blk w2 b 139 cs) (hcs:cs.size=4)
 (hw:w3=(((w2.setCell ⟨b,0,none⟩ (.string nd.key)).setCell ⟨b,1,none⟩ (.string nd.val)).setCell ⟨b,2,none⟩ (.int .u32 nd.sum)).setCell ⟨b,3,none⟩ (.int .u64 nd.next)):
 Looked w w3 M' W nd c S (ptr b) (.int .i64 c):=by
 have hO2:Only (·=b) w2 w3:=by
  rw [hw]
  exact ((((Only.refl (·=b) w2).setCell (p:=⟨b,0,none⟩) (.inl rfl) _).setCell (p:=⟨b,1,none⟩) (.inl rfl) _).setCell (p:=⟨b,2,none⟩) (.inl rfl) _).setCell (p:=⟨b,3,none⟩) (.inl rfl) _
 refine ⟨_,rfl,rfl,hb,?_,hM.only hO2 (fun x hx e=>(hM.ty hx).apart (blk_ty (e▸hB)) (by decide)),hW.only hO2 (fun e=>(blk_ty hW).apart (blk_ty (e▸hB)) (by decide)),hO.trans' hO2 (fun x hx e=>absurd hx (by omega))⟩
 rw [hw]
 have h4:=(((hB.store 0 (.string nd.key)).store 1 (.string nd.val)).store 2 (.int .u32 nd.sum)).store 3 (.int .u64 nd.next)
 obtain ⟨l⟩:=cs
 match l,hcs with
 | [_,_,_,_],_=>exact h4
set_option maxHeartbeats 2000000 in
theorem look_bad (hM:MemAt w M) (hW:WaAt w W) (hx:W.at_≤18446744073709551615) {c:Int} (hb:Bad M.ss W.at_ c):
 Calls Tryz.prog 170 #[ptr W.f,ptr M.m] w fun e w'=>e=.returned (.bool true)∧MemAt w' {M with F:=true}∧WaAt w' {W with nx:=3}∧Only (fun x=>mfoot M x∨x=W.f) w w':=by
 have hR:=Lib.hid (fun (w1:World) (hb1:Below w.heap.size w w1)=>(read_bad (hM.below hb1).2.2.2.1 hx hb).mono fun e w2 h=>
  show e=.returned (.tuple #[.agg #[.string ⟨#[]⟩,.string ⟨#[]⟩,.int .u32 0,.int .u64 0],.int .i64 c])∧(MemAt w2 {M with F:=true}∧WaAt w2 W∧Only (mfoot M) w w2∧Only (mfoot M) w1 w2) from
   ⟨h.1,(hM.below hb1).arena h.2.1 h.2.2,(hW.below hb1).only h.2.2 (fun q=>hW.far hM (foot_arena _ q)),(Only.ofBelow hb1 _).trans (h.2.2.mono fun x _ q=>foot_arena _ q),h.2.2.mono fun x _ q=>foot_arena _ q⟩)
 have c4:=hW.hd.2.2.2.2.1
 have d2:=hM.hd.2.2.1
 have lW:=hW.lt
 have lM:=hM.1.lt
 have hmf:=Lib.hid (fun x (q:mfoot M x)=>hM.lt q)
 have hc:(c==0)=false∧(c != 0)=true:=by rcases hb.code with rfl | rfl<;>simp
 obtain ⟨hc1,hc2⟩:=hc
 replace hb:=Lib.hid hb
 have HW:=Lib.hid hW
 have nm:=World.new_ne w ⟨M.m,2,none⟩ d2
 have nw:=World.new_ne w ⟨W.f,4,none⟩ c4
 clear hM hW hx
 go_enter Tryz.func170,Tryz.ntmps170
 go_upto_region 1 with (fail)
 go_cut [5,6] (fun p e wx=>Looked w wx {M with F:=true} W .zero c (mfoot M) p e)
 case first=>
  go_region_held3 (fun w'=>w'.cell? ⟨M.m,2,none⟩=some (ptr M.ar)∧w'.cell? ⟨W.f,4,none⟩=some (.int .u64 W.at_)) (go_keep)
   (first
     | (go_at_call 110
        refine (hR.out w.drew ⟨rfl,rfl,rfl,Nat.le_refl _,fun _ _=>rfl⟩).mono ?_
        rintro e w2 ⟨rfl,hM2,hW2,hO2,_⟩
        have d2':=hM2.hd.2.2.1
        have c4':=hW2.hd.2.2.2.2.1
        simp only at d2'
        have hs2:=hO2.size
        replace hM2:=Lib.hid hM2
        replace hW2:=Lib.hid hW2
        replace hO2:=Lib.hid hO2)
     | (go_at_call 110
        refine (hR.out (w.alloc (.cells #[.string ⟨#[]⟩,.string ⟨#[]⟩,.int .u32 0,.int .u64 0] 139)).drew (((Below.refl w.heap.size w).alloc (Nat.le_refl _) _).trans ⟨rfl,rfl,rfl,by simp,fun _ _=>rfl⟩)).mono ?_
        rintro e w2 ⟨rfl,hM2,hW2,hO2,hO3⟩
        have hB2:Blk w2 w.heap.size 139 #[.string ⟨#[]⟩,.string ⟨#[]⟩,.int .u32 0,.int .u64 0]:=Blk.only (w:=(w.alloc (.cells #[.string ⟨#[]⟩,.string ⟨#[]⟩,.int .u32 0,.int .u64 0] 139)).drew) (Blk.made w _ _) hO3 (fun q=>Nat.lt_irrefl _ (hmf.out _ q))
        have d2':=hM2.hd.2.2.1
        have c4':=hW2.hd.2.2.2.2.1
        simp only at d2'
        have hs2:=hO2.size
        have k0:=hB2.cell 0
        have k1:=hB2.cell 1
        have k2:=hB2.cell 2
        have k3:=hB2.cell 3
        simp at k0 k1 k2 k3
        have y0:=hB2.frozen 0
        have y1:=hB2.frozen 1
        have y2:=hB2.frozen 2
        have y3:=hB2.frozen 3
        replace hM2:=Lib.hid hM2
        replace hW2:=Lib.hid hW2
        replace hO2:=Lib.hid hO2
        replace hB2:=Lib.hid hB2))
  all_goals
   go_wp2_with fail
   go_meet
   first
    | exact looked_after (nd:=.zero) hM2.out hW2.out hO2.out
    | exact looked_ahead (nd:=.zero) hM2.out hW2.out hO2.out (Nat.le_refl _) hB2.out rfl rfl
 case rest=>
  obtain ⟨b,rfl,rfl,hb0,hB,hM1,hW1,hO1⟩:=hcut
  have hE:=Lib.hid (end_any hW1)
  have hK:=Lib.hid (fun (w3:World) (ho:Only (·=W.f) wc w3)=>(⟨hM1.only ho (fun x hx e=>hW1.far hM1 (e▸hx)),(hO1.mono (fun _ _ q=>.inl q)).trans' ho (fun _ _ q=>.inr q)⟩:MemAt w3 {M with F:=true}∧Only (fun x=>mfoot M x∨x=W.f) w w3))
  clear hB hM1 hW1 hO1 hb0 c4 d2 hR
  go_wp2_with fail
  refine hE.out.mono ?_
  rintro e w3 ⟨rfl,hW3,hO3⟩
  have hK3:=Lib.hid (hK.out w3 hO3)
  replace hW3:=Lib.hid hW3
  clear hE hO3 hK
  go_wp2_with fail
  go_ret
  exact ⟨rfl,hK3.out.1,hW3.out,hK3.out.2⟩
end
end Go.Proofs.YtpobbnllcoabhaaGreatDoor.Wk
