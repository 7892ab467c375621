/- Layer 5 (mem): what lies behind a memory, which blocks, apart from each other by their types; how it stands when a part of it turns. -/
import Derived.Test.YtpobbnllcoabhaaGreatMemMath
import Derived.Test.YtpobbnllcoabhaaGreatCellsWalk
import Derived.Test.YtpobbnllcoabhaaGreatLocksWalk
import Derived.Test.YtpobbnllcoabhaaGreatArenaMake
import Derived.Test.YtpobbnllcoabhaaGreatRowKit
set_option linter.unusedVariables false
set_option linter.unusedSimpArgs false
namespace Go.Proofs.YtpobbnllcoabhaaGreat.Me
open Go Go.RowKit Hp K Fl Rw Hm Ar Mm
set_option maxRecDepth 100000
/-! ### blocks by their types-/
def Ty (w:World) (x:Nat) (ts:List TypeId):Prop:=∃ t cs,Blk w x t cs∧t∈ts
theorem Ty.apart {w:World} {x:Nat} {ts us:List TypeId} (h:Ty w x ts) (h':Ty w x us) (hd:∀ t∈ts,t∉us):False:=by
 obtain ⟨t,cs,hb,ht⟩:=h
 obtain ⟨u,cs',hb',hu⟩:=h'
 by_cases e:t=u
 · subst e; exact hd t ht hu
 · exact absurd rfl (hb.differ hb' e)
theorem Ty.lt {w:World} {x:Nat} {ts:List TypeId} (h:Ty w x ts):x<w.heap.size:=by obtain ⟨t,cs,hb,_⟩:=h; exact hb.lt
theorem blk_ty {w:World} {x:Nat} {t:TypeId} {cs:Array Value} (h:Blk w x t cs):Ty w x [t]:=⟨t,cs,h,by simp⟩
theorem row_blk {α:Type} {w:World} {e:TypeId} {c:Nat} {f:α→List Value} {A:Option Addr} {cap:Nat} {xs:List α} (h:Row w e c f A cap xs) {x:Nat} (hx:In A x):∃ cs,Blk w x e cs:=by
 rcases h.2 with ⟨q,_⟩ | ⟨g,cap1,cur,hv,_,hg,_⟩
 · injection q with q; subst q; simp [In] at hx
 · injection hv with h3; subst h3
   have:g=x:=by simpa [In] using hx
   subst this
   exact ⟨cur,hg⟩
theorem row_ty {α:Type} {w:World} {e:TypeId} {c:Nat} {f:α→List Value} {A:Option Addr} {cap:Nat} {xs:List α} (h:Row w e c f A cap xs) {x:Nat} (hx:In A x):Ty w x [e]:=by
 obtain ⟨cs,hb⟩:=row_blk h hx
 exact ⟨e,cs,hb,by simp⟩
theorem Ty.mono {w:World} {x:Nat} {ts us:List TypeId} (h:Ty w x ts) (hs:∀ t∈ts,t∈us):Ty w x us:=by
 obtain ⟨t,cs,hb,ht⟩:=h; exact ⟨t,cs,hb,hs t ht⟩
theorem cells_ty {w:World} {g:Nat} {A:Option Addr} {cap:Nat} {xs:List Int} (h:Cl.CellsAt w g A cap xs) {x:Nat} (hx:Cl.foot g A x):Ty w x [149,72]:=by
 rcases hx with rfl | hx
 · exact ⟨_,_,h.1,by simp⟩
 · rcases h.2.1.2 with ⟨q,_⟩ | ⟨g,cap1,cur,hv,_,hg,_⟩
   · injection q with q; subst q; simp at hx
   · injection hv with h3; subst h3
     have:g=x:=by simpa using hx
     subst this
     exact ⟨_,_,hg,by simp⟩
theorem locks_ty {w:World} {g b:Nat} {hs:List Int} (h:Lo.LocksAt w g b hs) {x:Nat} (hx:Lo.foot g b x):Ty w x [144,146]:=by
 rcases hx with rfl | rfl
 · exact ⟨_,_,h.1,by simp⟩
 · exact ⟨_,_,h.2.1,by simp⟩
theorem arena_ty {w:World} {g sb fb:Nat} {ss:List Sl} {F:Bool} (h:ArenaAt w g sb fb ss F) {x:Nat} (hx:afoot g sb fb x):Ty w x [68,129,3]:=by
 obtain ⟨fr,hP,hB,_⟩:=h
 rcases hx with rfl | rfl | rfl
 · exact ⟨_,_,hP.1,by simp⟩
 · exact ⟨_,_,hB,by simp⟩
 · obtain ⟨cs,hc⟩:=row_blk hP.2 (x:=x) rfl
   exact ⟨_,cs,hc,by simp⟩
theorem cells_only {S:Nat→Prop} {w w':World} {g:Nat} {A:Option Addr} {cap:Nat} {xs:List Int} (h:Cl.CellsAt w g A cap xs) (ho:Only S w w') (hn:∀ x,Cl.foot g A x→¬S x):Cl.CellsAt w' g A cap xs:=
 ⟨h.1.only ho (hn g (.inl rfl)),own_only h.2.1 ho (fun b hb=>hn b (.inr (by rw [own_block] at hb; exact hb))),h.2.2⟩
/-! ### a memory-/
def hnd (h:Nat):List Value:=[.int .u64 h]
theorem hnd_len (h:Nat):(hnd h).length=1:=rfl
def dsc (d:Nat×Nat):List Value:=[.int .i64 d.1,.int .i64 d.2]
theorem dsc_len (d:Nat×Nat):(dsc d).length=2:=rfl
abbrev Hnds (w:World) (A:Option Addr) (cap:Nat) (hs:List Nat):Prop:=Row w 73 1 hnd A cap hs
structure Mo where
 m:Nat
 g:Nat
 A:Option Addr
 cap:Nat
 xs:List Int
 lg:Nat
 lb:Nat
 hs:List Int
 ar:Nat
 sb:Nat
 fb:Nat
 ss:List Sl
 F:Bool
 k:Int
 T:Option Addr
 capT:Nat
 ds:List (Nat×Nat)
 V:Option Addr
 capV:Nat
 ws:List Nat
abbrev ptr (b:Nat):Value:=.pointer (some ⟨b,0,none⟩)
def hdr (M:Mo):Array Value:=#[ptr M.g,ptr M.lg,ptr M.ar,.int .i64 M.k,.slice M.T M.ds.length M.capT,.slice M.V M.ws.length M.capV]
def MemAt (w:World) (M:Mo):Prop:=
 Blk w M.m 39 (hdr M)∧Cl.CellsAt w M.g M.A M.cap M.xs∧Lo.LocksAt w M.lg M.lb M.hs∧ArenaAt w M.ar M.sb M.fb M.ss M.F∧Row w 82 2 dsc M.T M.capT M.ds∧Hnds w M.V M.capV M.ws
def mfoot (M:Mo) (x:Nat):Prop:=x=M.m∨Cl.foot M.g M.A x∨Lo.foot M.lg M.lb x∨afoot M.ar M.sb M.fb x∨In M.T x∨In M.V x
abbrev memTypes:List TypeId:=[39,149,72,144,146,68,129,3,82,73]
section
variable {w w':World} {M:Mo}
theorem MemAt.ty (h:MemAt w M) {x:Nat} (hx:mfoot M x):Ty w x memTypes:=by
 obtain ⟨h1,h2,h3,h4,h5,h6⟩:=h
 rcases hx with rfl | hx | hx | hx | hx | hx
 · exact (blk_ty h1).mono (by simp)
 · exact (cells_ty h2 hx).mono (by simp)
 · exact (locks_ty h3 hx).mono (by simp)
 · exact (arena_ty h4 hx).mono (by simp)
 · exact (row_ty h5 hx).mono (by simp)
 · exact (row_ty h6 hx).mono (by simp)
theorem MemAt.lt (h:MemAt w M) {x:Nat} (hx:mfoot M x):x<w.heap.size:=(h.ty hx).lt
theorem MemAt.only {S:Nat→Prop} (h:MemAt w M) (ho:Only S w w') (hn:∀ x,mfoot M x→¬S x):MemAt w' M:=by
 obtain ⟨h1,h2,h3,h4,h5,h6⟩:=h
 exact ⟨h1.only ho (hn _ (.inl rfl)),cells_only h2 ho (fun x hx=>hn x (.inr (.inl hx))),h3.only ho (fun x hx=>hn x (.inr (.inr (.inl hx)))),h4.only ho (fun x hx=>hn x (.inr (.inr (.inr (.inl hx))))),
  h5.only ho (fun x hx=>hn x (.inr (.inr (.inr (.inr (.inl hx)))))),h6.only ho (fun x hx=>hn x (.inr (.inr (.inr (.inr (.inr hx))))))⟩
theorem MemAt.below (h:MemAt w M) (hb:Below w.heap.size w w'):MemAt w' M:=h.only (S:=fun _=>False) (Only.ofBelow hb _) (by simp)
theorem MemAt.alloc (h:MemAt w M) (o:Obj):MemAt (w.alloc o) M:=h.only (S:=fun _=>False) ((Only.refl _ _).alloc o) (by simp)
theorem MemAt.drewN (h:MemAt w M) (n:Nat):MemAt (w.drewN n) M:=h.only (S:=fun _=>False) ((Only.refl _ _).drewN n) (by simp)
theorem MemAt.hd (h:MemAt w M):w.cell? ⟨M.m,0,none⟩=some (ptr M.g)∧w.cell? ⟨M.m,1,none⟩=some (ptr M.lg)∧w.cell? ⟨M.m,2,none⟩=some (ptr M.ar)∧w.cell? ⟨M.m,3,none⟩=some (.int .i64 M.k)∧
 w.cell? ⟨M.m,4,none⟩=some (.slice M.T M.ds.length M.capT)∧w.cell? ⟨M.m,5,none⟩=some (.slice M.V M.ws.length M.capV):=
 ⟨h.1.cell 0,h.1.cell 1,h.1.cell 2,h.1.cell 3,h.1.cell 4,h.1.cell 5⟩
theorem MemAt.cells {A':Option Addr} {cap':Nat} {xs':List Int} (h:MemAt w M) (hC:Cl.CellsAt w' M.g A' cap' xs') (ho:Only (Cl.foot M.g M.A) w w'):MemAt w' {M with A:=A',cap:=cap',xs:=xs'}:=by
 obtain ⟨h1,h2,h3,h4,h5,h6⟩:=h
 have hS:=fun x=>cells_ty h2 (x:=x)
 exact ⟨h1.only ho (fun q=>(hS _ q).apart (blk_ty h1) (by decide)),hC,h3.only ho (fun x hx q=>(hS _ q).apart (locks_ty h3 hx) (by decide)),h4.only ho (fun x hx q=>(hS _ q).apart (arena_ty h4 hx) (by decide)),
  h5.only ho (fun x hx q=>(hS _ q).apart (row_ty h5 hx) (by decide)),h6.only ho (fun x hx q=>(hS _ q).apart (row_ty h6 hx) (by decide))⟩
theorem MemAt.arena {ss':List Sl} {F':Bool} (h:MemAt w M) (hC:ArenaAt w' M.ar M.sb M.fb ss' F') (ho:Only (afoot M.ar M.sb M.fb) w w'):MemAt w' {M with ss:=ss',F:=F'}:=by
 obtain ⟨h1,h2,h3,h4,h5,h6⟩:=h
 have hS:=fun x=>arena_ty h4 (x:=x)
 exact ⟨h1.only ho (fun q=>(hS _ q).apart (blk_ty h1) (by decide)),cells_only h2 ho (fun x hx q=>(hS _ q).apart (cells_ty h2 hx) (by decide)),h3.only ho (fun x hx q=>(hS _ q).apart (locks_ty h3 hx) (by decide)),hC,
  h5.only ho (fun x hx q=>(hS _ q).apart (row_ty h5 hx) (by decide)),h6.only ho (fun x hx q=>(hS _ q).apart (row_ty h6 hx) (by decide))⟩
theorem MemAt.locks {hs':List Int} (h:MemAt w M) (hC:Lo.LocksAt w' M.lg M.lb hs') (ho:Only (Lo.foot M.lg M.lb) w w'):MemAt w' {M with hs:=hs'}:=by
 obtain ⟨h1,h2,h3,h4,h5,h6⟩:=h
 have hS:=fun x=>locks_ty h3 (x:=x)
 exact ⟨h1.only ho (fun q=>(hS _ q).apart (blk_ty h1) (by decide)),cells_only h2 ho (fun x hx q=>(hS _ q).apart (cells_ty h2 hx) (by decide)),hC,h4.only ho (fun x hx q=>(hS _ q).apart (arena_ty h4 hx) (by decide)),
  h5.only ho (fun x hx q=>(hS _ q).apart (row_ty h5 hx) (by decide)),h6.only ho (fun x hx q=>(hS _ q).apart (row_ty h6 hx) (by decide))⟩
theorem MemAt.tables {w1:World} {T':Option Addr} {cap':Nat} {ds':List (Nat×Nat)} (h:MemAt w M) (hT:Row w1 82 2 dsc T' cap' ds') (ho:Only (In M.T) w w1):
 MemAt (w1.setCell ⟨M.m,4,none⟩ (.slice T' ds'.length cap')) {M with T:=T',capT:=cap',ds:=ds'}∧Only (fun x=>x=M.m∨In M.T x) w (w1.setCell ⟨M.m,4,none⟩ (.slice T' ds'.length cap')):=by
 obtain ⟨h1,h2,h3,h4,h5,h6⟩:=h
 have hS:=fun x=>row_ty h5 (x:=x)
 have hm:=h1.only ho (fun q=>(hS _ q).apart (blk_ty h1) (by decide))
 have ho2:=(Only.refl (·=M.m) w1).setCell (p:=⟨M.m,4,none⟩) (.inl rfl) (.slice T' ds'.length cap')
 have hall:Only (fun x=>x=M.m∨In M.T x) w (w1.setCell ⟨M.m,4,none⟩ (.slice T' ds'.length cap')):=(ho.mono (fun x _ q=>.inr q)).trans' ho2 (fun x _ q=>.inl q)
 have ap:∀ {x:Nat} {us:List TypeId},Ty w x us→(∀ t∈us,t∉[39,82])→¬(x=M.m∨In M.T x):=fun {x us} hx hd q=>by
  rcases q with rfl | q
  · exact hx.apart ((blk_ty h1).mono (us:=[39,82]) (by simp)) hd
  · exact hx.apart ((hS _ q).mono (us:=[39,82]) (by simp)) hd
 refine ⟨⟨by simpa [hdr] using hm.store 4 (.slice T' ds'.length cap'),cells_only h2 hall (fun x hx=>ap (cells_ty h2 hx) (by decide)),h3.only hall (fun x hx=>ap (locks_ty h3 hx) (by decide)),h4.only hall (fun x hx=>ap (arena_ty h4 hx) (by decide)),
  hT.only ho2 (fun x hx q=>(row_ty hT hx).apart (by subst q; exact blk_ty hm) (by decide)),h6.only hall (fun x hx=>ap (row_ty h6 hx) (by decide))⟩,hall⟩
theorem MemAt.wait {w1:World} {V':Option Addr} {cap':Nat} {ws':List Nat} (h:MemAt w M) (hT:Hnds w1 V' cap' ws') (ho:Only (In M.V) w w1):
 MemAt (w1.setCell ⟨M.m,5,none⟩ (.slice V' ws'.length cap')) {M with V:=V',capV:=cap',ws:=ws'}∧Only (fun x=>x=M.m∨In M.V x) w (w1.setCell ⟨M.m,5,none⟩ (.slice V' ws'.length cap')):=by
 obtain ⟨h1,h2,h3,h4,h5,h6⟩:=h
 have hS:=fun x=>row_ty h6 (x:=x)
 have hm:=h1.only ho (fun q=>(hS _ q).apart (blk_ty h1) (by decide))
 have ho2:=(Only.refl (·=M.m) w1).setCell (p:=⟨M.m,5,none⟩) (.inl rfl) (.slice V' ws'.length cap')
 have hall:Only (fun x=>x=M.m∨In M.V x) w (w1.setCell ⟨M.m,5,none⟩ (.slice V' ws'.length cap')):=(ho.mono (fun x _ q=>.inr q)).trans' ho2 (fun x _ q=>.inl q)
 have ap:∀ {x:Nat} {us:List TypeId},Ty w x us→(∀ t∈us,t∉[39,73])→¬(x=M.m∨In M.V x):=fun {x us} hx hd q=>by
  rcases q with rfl | q
  · exact hx.apart ((blk_ty h1).mono (us:=[39,73]) (by simp)) hd
  · exact hx.apart ((hS _ q).mono (us:=[39,73]) (by simp)) hd
 refine ⟨⟨by simpa [hdr] using hm.store 5 (.slice V' ws'.length cap'),cells_only h2 hall (fun x hx=>ap (cells_ty h2 hx) (by decide)),h3.only hall (fun x hx=>ap (locks_ty h3 hx) (by decide)),h4.only hall (fun x hx=>ap (arena_ty h4 hx) (by decide)),
  h5.only hall (fun x hx=>ap (row_ty h5 hx) (by decide)),hT.only ho2 (fun x hx q=>(row_ty hT hx).apart (by subst q; exact blk_ty hm) (by decide))⟩,hall⟩
end
/-! ### tables-/
def tab (ds:List (Nat×Nat)) (i:Nat):Nat×Nat:=ds.getD i (0,0)
def now (xs:List Int) (ds:List (Nat×Nat)):Nat×Nat:=tab ds (Cl.nth xs 1).toNat
theorem tab_get {ds:List (Nat×Nat)} {i:Nat} (h:i<ds.length):tab ds i=ds[i]:=by simp [tab,List.getD,h]
theorem tab_none {ds:List (Nat×Nat)} {i:Nat} (h:ds.length≤i):tab ds i=(0,0):=by simp [tab,List.getD,h]
theorem descs_at {w:World} {e:TypeId} {A:Option Addr} {cap:Nat} {ds:List (Nat×Nat)} (h:Row w e 2 dsc A cap ds) (i:Nat) (hi:i<ds.length):
 ∃ b,A=some ⟨b,0,none⟩∧b<w.heap.size∧w.cell? ⟨b,i*2,none⟩=some (.int .i64 (tab ds i).1)∧w.cell? ⟨b,i*2+1,none⟩=some (.int .i64 (tab ds i).2):=by
 obtain ⟨b,e,hb,hc⟩:=h.cells dsc_len i hi
 have c0:=(hc 0 (by omega)).1
 have c1:=(hc 1 (by omega)).1
 rw [← tab_get hi] at c0 c1
 exact ⟨b,e,hb,by simpa [dsc] using c0,by simpa [dsc] using c1⟩
theorem hnds_at {w:World} {e:TypeId} {A:Option Addr} {cap:Nat} {hs:List Nat} (h:Row w e 1 hnd A cap hs) (k:Nat) (hk:k<hs.length):∃ b,A=some ⟨b,0,none⟩∧b<w.heap.size∧w.cell? ⟨b,k,none⟩=some (.int .u64 (nth hs k:Nat))∧w.frozen? ⟨b,k,none⟩=false:=by
 obtain ⟨b,e,hb,hc⟩:=h.cells hnd_len k hk
 refine ⟨b,e,hb,?_⟩
 have h0:=hc 0 (by omega)
 simp [hnd] at h0
 rw [nth_get hk]
 exact h0
def Tabs (xs:List Int) (ds:List (Nat×Nat)):Prop:=∀ i,i<ds.length→1≤(tab ds i).1∧(tab ds i).1≤65536∧(tab ds i).2+(tab ds i).1≤xs.length
theorem Tabs.now {xs:List Int} {ds:List (Nat×Nat)} (h:Tabs xs ds):(now xs ds).1≤65536∧(0<(Me.now xs ds).1→(Me.now xs ds).2+(Me.now xs ds).1≤xs.length)∧(Me.now xs ds).2≤1048576+xs.length:=by
 unfold Me.now
 by_cases hi:(Cl.nth xs 1).toNat<ds.length
 · have:=h _ hi
   omega
 · rw [tab_none (by omega)]
   simp
theorem bcell {W w1:World} (hb:Below W.heap.size W w1):(∀ b o,b<W.heap.size→w1.cell? ⟨b,o,none⟩=W.cell? ⟨b,o,none⟩)∧(∀ b o,b<W.heap.size→w1.frozen? ⟨b,o,none⟩=W.frozen? ⟨b,o,none⟩):=
 ⟨fun b o h=>hb.cell (p:=⟨b,o,none⟩) h,fun b o h=>hb.frozen (p:=⟨b,o,none⟩) h⟩
theorem info_handle:(Tryz.prog.info? 73).map (fun i=>(i.zero,i.size,i.bytes))=some (some (.int .u64 0),1,8):=by kernel_rfl
theorem info_desc:(Tryz.prog.info? 82).map (fun i=>(i.zero,i.size,i.bytes))=some (some (.agg #[.int .i64 0,.int .i64 0]),2,16):=by kernel_rfl
end Go.Proofs.YtpobbnllcoabhaaGreat.Me
