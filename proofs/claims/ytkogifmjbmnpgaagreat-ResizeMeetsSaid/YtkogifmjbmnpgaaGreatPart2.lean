/- Walks and plain mathematics, put together in their order: MixD, Lnk, ShrA, ShrB, ShrC, RegN, RowRun, ShrD, ShrE, ShrF, ShrG. -/
import Derived.Test.YtkogifmjbmnpgaaGreatPart1
import Derived.Test.YtkogifmjbmnpgaaGreatLm
import Derived.Test.YtkogifmjbmnpgaaGreatMemChain
import Derived.Laws.EntriesVeiled
import Derived.Deep.QuietTactic
import Derived.Deep.DeepCutAuto
import Derived.Deep.RegionHeld3
import Derived.OrdersHeld
import Derived.StillTail
import Derived.Test.YtkogifmjbmnpgaaGreatRowKit
set_option linter.unusedVariables false
set_option linter.unusedSimpArgs false
namespace Go.Proofs.YtkogifmjbmnpgaaGreat.Mg
open Go Go.RowKit Hp K Fl Rw Hm Ar Mm Me LK Qs Wk Pc Pn Mx Zp LawTen LawTh
set_option maxRecDepth 100000
section
variable {T:TypeId} {fr fs:Nat} {E:Env T fr fs} {W0 w:World} {C:Mc}
set_option maxHeartbeats 4000000 in
theorem mix_any (h0:Mst E W0 C Any 0 w) (hB:Below W0.heap.size W0 w) {A PA:Option Addr} {cap pcap:Nat} (hP:PairsAt W0 A E.l) (hl:E.l.length≤1000) (hK:StrsAt W0 C.KA C.ka∧C.ka.length≤10) (hK':StrsAt W0 C.KB C.kb∧C.kb.length≤10) (hlen:C.len≤600) (hpk:BytesAt W0 PA C.len):
 Calls Tryz.prog 23 #[ptr C.m,.iface T (ptr C.f),ptr C.r0,ptr C.r1,.slice A E.l.length cap,.slice PA C.len pcap] w fun e w'=>e=.returned (.bool true)∧Fin E W0 C w':=by
 have mr:=E.F.mr C.f
 have ms:=E.F.ms C.f
 have er:=E.F.er
 have es:=E.F.es
 have hMi:Hid (∀ i wr,Mst E W0 C Any i wr→Below W0.heap.size W0 wr):=Lib.hid (fun i wr h=>by
  obtain ⟨M,a,p,ra,rb,Ra,Rb,h1,_⟩:=h
  exact h1.below)
 have hSA:=Lib.hid (fun (Q:Lm→E.P→Rn→Rn→Prop) i wr (h:Mst E W0 C Q i wr) hq hi=>h.stepA hq hi hK.1 hK.2 (A:=A) (cap:=cap) hP hl)
 have hSB:=Lib.hid (fun (Q:Lm→E.P→Rn→Rn→Prop) i wr (h:Mst E W0 C Q i wr) hq hi=>h.stepB hq hi hK'.1 hK'.2 (A:=A) (cap:=cap) hP hl)
 replace hpk:=Lib.hid hpk
 replace h0:=Lib.hid h0
 generalize hln:C.len=len at*
 replace hln:=Lib.hid hln
 clear hP hl hK hK' hB
 go_enter Tryz.func23,Tryz.ntmps23
 go_wp2_with fail
 go_loopw [13] (fun c wr=>∃ i:Nat,i≤len+20000∧c=.int .i64 i∧Mst E W0 C Any i wr) (fun c _=>len+20000-(intOf c).toNat)
 case atStart=>exact ⟨0,Nat.zero_le _,rfl,h0.out⟩
 case round=>
  obtain ⟨i,hi,rfl,H⟩:=hrel
  clear h0
  have hilt:i<len+20000:=by
   rcases Nat.lt_or_ge i (len+20000) with q | q
   · exact q
   · exact (H.ends (by rw [hln.out]; exact q)).elim
  have hBr:=hMi.out i wr H
  clear hMi
  have t0:IntKind.i64.wrap ((len:Int)+20000)=(len:Int)+20000:=IntWalk.i64_in _ (by omega)
  have t1:(i:Int).tmod 3=((i % 3:Nat):Int):=by rw [show (3:Int)=((3:Nat):Int) from rfl,Int.ofNat_tmod]
  replace H:=Lib.hid H
  by_cases hlt:i<len
  · obtain ⟨b,o,v,rfl,hb,hc,hv⟩:=hpk.out i hlt
    have hcr:=(hBr.cell (p:=⟨b,o+i,none⟩) hb).trans hc
    have hbr:b<wr.heap.size:=by have:=hBr.size; omega
    have t2:(v:Int).tmod 3=((v % 3:Nat):Int):=by rw [show (3:Int)=((3:Nat):Int) from rfl,Int.ofNat_tmod]
    obtain ⟨pv,hpv⟩:∃ pv,pv=v % 3:=⟨_,rfl⟩
    have hp3:pv<3:=by omega
    rw [← hpv] at t2
    have hmi:i % 3≤2:=by omega
    have hno:Hid (C.len≤i→False):=Lib.hid (by rw [hln.out]; omega)
    clear hBr hc hb hpv
    generalize i % 3=im at*
    have:pv=0∨pv=1∨pv=2:=by omega
    rcases this with rfl | rfl | rfl
    · have hr:=Lib.hid H.out.ready
      go_wp2_with fail
      refine hr.out.mono ?_
      rintro e w2 ⟨bb,rfl,h2⟩
      clear hr H
      cases bb with
      | false=>
        have h3:=Lib.hid (h2.wait (fun q=>(hno.out q).elim))
        clear h2
        obtain ⟨ar,cF,lF,hF⟩:=h3.out.fault
        replace hF:=Lib.hid hF
        go_wp2_with fail
        refine hF.out.mono ?_
        rintro e w' ⟨rfl,rfl⟩
        clear hF cF
        go_wp2_with fail
        go_roundw
        case rel=>exact ⟨i+1,by omega,by go_num,h3.out⟩
        case measure=>simp [intOf]; omega
      | true=>
        have hs:=Lib.hid h2.step
        clear h2
        go_wp2_with fail
        refine hs.out.mono ?_
        rintro e w3 (⟨rfl,hQ⟩ | ⟨rfl,h3⟩)
        · replace hQ:=Lib.hid hQ
          clear hs
          go_wp2_with fail
          go_ret
          exact ⟨rfl,hQ.out⟩
        · replace h3:=Lib.hid h3
          clear hs
          obtain ⟨ar,cF,lF,hF⟩:=h3.out.fault
          replace hF:=Lib.hid hF
          go_wp2_with fail
          refine hF.out.mono ?_
          rintro e w' ⟨rfl,rfl⟩
          clear hF cF
          go_wp2_with fail
          go_roundw
          case rel=>exact ⟨i+1,by omega,by go_num,h3.out⟩
          case measure=>simp [intOf]; omega
    · have hs:=Lib.hid (hSA.out Any i _ H.out (fun q=>absurd q (by omega)) (by omega))
      clear H
      go_wp2_with fail
      refine hs.out.mono ?_
      rintro e w3 ⟨rfl,h3⟩
      replace h3:=Lib.hid h3
      clear hs
      obtain ⟨ar,cF,lF,hF⟩:=h3.out.fault
      replace hF:=Lib.hid hF
      go_wp2_with fail
      refine hF.out.mono ?_
      rintro e w' ⟨rfl,rfl⟩
      clear hF cF
      go_wp2_with fail
      go_roundw
      case rel=>exact ⟨i+1,by omega,by go_num,h3.out⟩
      case measure=>simp [intOf]; omega
    · have hs:=Lib.hid (hSB.out Any i _ H.out (fun q=>absurd q (by omega)) (by omega))
      clear H
      go_wp2_with fail
      refine hs.out.mono ?_
      rintro e w3 ⟨rfl,h3⟩
      replace h3:=Lib.hid h3
      clear hs
      obtain ⟨ar,cF,lF,hF⟩:=h3.out.fault
      replace hF:=Lib.hid hF
      go_wp2_with fail
      refine hF.out.mono ?_
      rintro e w' ⟨rfl,rfl⟩
      clear hF cF
      go_wp2_with fail
      go_roundw
      case rel=>exact ⟨i+1,by omega,by go_num,h3.out⟩
      case measure=>simp [intOf]; omega
  · have hge:Hid (len≤i):=Lib.hid (by omega)
    obtain ⟨pv,hpv⟩:∃ pv,pv=i % 3:=⟨_,rfl⟩
    have hp3:pv<3:=by omega
    rw [← hpv] at t1
    replace hpv:=Lib.hid hpv
    clear hBr
    have:pv=0∨pv=1∨pv=2:=by omega
    rcases this with rfl | rfl | rfl
    · have hr:=Lib.hid H.out.ready
      go_wp2_with fail
      refine hr.out.mono ?_
      rintro e w2 ⟨bb,rfl,h2⟩
      clear hr H
      cases bb with
      | false=>
        have h3:=Lib.hid (h2.wait (fun _=>hpv.out.symm))
        clear h2
        obtain ⟨ar,cF,lF,hF⟩:=h3.out.fault
        replace hF:=Lib.hid hF
        go_wp2_with fail
        refine hF.out.mono ?_
        rintro e w' ⟨rfl,rfl⟩
        clear hF cF
        go_wp2_with fail
        go_roundw
        case rel=>exact ⟨i+1,by omega,by go_num,h3.out⟩
        case measure=>simp [intOf]; omega
      | true=>
        have hs:=Lib.hid h2.step
        clear h2
        go_wp2_with fail
        refine hs.out.mono ?_
        rintro e w3 (⟨rfl,hQ⟩ | ⟨rfl,h3⟩)
        · replace hQ:=Lib.hid hQ
          clear hs
          go_wp2_with fail
          go_ret
          exact ⟨rfl,hQ.out⟩
        · replace h3:=Lib.hid h3
          clear hs
          obtain ⟨ar,cF,lF,hF⟩:=h3.out.fault
          replace hF:=Lib.hid hF
          go_wp2_with fail
          refine hF.out.mono ?_
          rintro e w' ⟨rfl,rfl⟩
          clear hF cF
          go_wp2_with fail
          go_roundw
          case rel=>exact ⟨i+1,by omega,by go_num,h3.out⟩
          case measure=>simp [intOf]; omega
    · have hb:=Lib.hid H.out.busyA
      go_wp2_with fail
      refine hb.out.mono ?_
      rintro e w' ⟨⟨bb,rfl,h2⟩,rfl⟩
      clear hb H
      cases bb with
      | false=>
        have h3:=Lib.hid (h2.idleA (fun _=>hpv.out.symm))
        clear h2
        obtain ⟨ar,cF,lF,hF⟩:=h3.out.fault
        replace hF:=Lib.hid hF
        go_wp2_with fail
        refine hF.out.mono ?_
        rintro e w' ⟨rfl,rfl⟩
        clear hF cF
        go_wp2_with fail
        go_roundw
        case rel=>exact ⟨i+1,by omega,by go_num,h3.out⟩
        case measure=>simp [intOf]; omega
      | true=>
        have hs:=Lib.hid (hSA.out (fun _ _ Ra _=>Ra.g.isSome=true) i _ h2 (fun _=>⟨hpv.out.symm,fun _ _ _ _ q=>q⟩) (by omega))
        clear h2
        go_wp2_with fail
        refine hs.out.mono ?_
        rintro e w3 ⟨rfl,h3⟩
        replace h3:=Lib.hid h3
        clear hs
        obtain ⟨ar,cF,lF,hF⟩:=h3.out.fault
        replace hF:=Lib.hid hF
        go_wp2_with fail
        refine hF.out.mono ?_
        rintro e w' ⟨rfl,rfl⟩
        clear hF cF
        go_wp2_with fail
        go_roundw
        case rel=>exact ⟨i+1,by omega,by go_num,h3.out⟩
        case measure=>simp [intOf]; omega
    · have hb:=Lib.hid H.out.busyB
      go_wp2_with fail
      refine hb.out.mono ?_
      rintro e w' ⟨⟨bb,rfl,h2⟩,rfl⟩
      clear hb H
      cases bb with
      | false=>
        have h3:=Lib.hid (h2.idleB (fun _=>hpv.out.symm))
        clear h2
        obtain ⟨ar,cF,lF,hF⟩:=h3.out.fault
        replace hF:=Lib.hid hF
        go_wp2_with fail
        refine hF.out.mono ?_
        rintro e w' ⟨rfl,rfl⟩
        clear hF cF
        go_wp2_with fail
        go_roundw
        case rel=>exact ⟨i+1,by omega,by go_num,h3.out⟩
        case measure=>simp [intOf]; omega
      | true=>
        have hs:=Lib.hid (hSB.out (fun _ _ _ Rb=>Rb.g.isSome=true) i _ h2 (fun _=>⟨hpv.out.symm,fun _ _ _ _ q=>q⟩) (by omega))
        clear h2
        go_wp2_with fail
        refine hs.out.mono ?_
        rintro e w3 ⟨rfl,h3⟩
        replace h3:=Lib.hid h3
        clear hs
        obtain ⟨ar,cF,lF,hF⟩:=h3.out.fault
        replace hF:=Lib.hid hF
        go_wp2_with fail
        refine hF.out.mono ?_
        rintro e w' ⟨rfl,rfl⟩
        clear hF cF
        go_wp2_with fail
        go_roundw
        case rel=>exact ⟨i+1,by omega,by go_num,h3.out⟩
        case measure=>simp [intOf]; omega
end
end Go.Proofs.YtkogifmjbmnpgaaGreat.Mg
namespace Go.Proofs.YtkogifmjbmnpgaaGreat.Pu
open Go Hm Ar Mm Me
def lnk (ss:List Sl) (x y:Nat):List Sl:=ss.set ((x-1) % 65536) {at' ss ((x-1) % 65536) with nd:={(at' ss ((x-1) % 65536)).nd with next:=(y:Int)}}
end Go.Proofs.YtkogifmjbmnpgaaGreat.Pu
namespace Go.Proofs.YtkogifmjbmnpgaaGreat.Sw
open Go Go.RowKit Hp K Fl Rw Hm Ar Mm Me Qs Wk Pn
set_option maxRecDepth 100000
structure Sh where
 worker:Int
 nx:Nat
 err:Int
 el:Nat×Nat
 nw:Nat×Nat
 num:Int
 bucket:Nat
 fi:Nat
 sec:Nat
 at_:Nat
 la:Nat
 met:List Nat
 W:Wt
structure Sc where
 f:Nat
 mv:Value
 B:Nat
 w:Nat
def srv (a:Sc) (nx:Nat):Value:=if nx=9 then wfm 204 (ptr a.w) else wf0 135
def snv (a:Sc) (nx:Nat):Value:=if nx=1 then wfm 100 (ptr a.f) else if nx=2 then wfm 136 (ptr a.f) else if nx=3 then wfm 157 (ptr a.f)
 else if nx=4 then wfm 173 (ptr a.f) else if nx=5 then wfm 197 (ptr a.f) else if nx=6 then wfm 202 (ptr a.f)
 else if nx=7 then wfm 195 (ptr a.f) else if nx=8 then wfm 201 (ptr a.f) else if nx=9 then wfm 205 (ptr a.w) else wf0 156
def shc (a:Sc) (G:Sh):Array Value:=#[.int .i64 G.worker,srv a G.nx,snv a G.nx,.int .i64 G.err,.int .i64 G.el.1,.int .i64 G.el.2,.int .i64 G.nw.1,.int .i64 G.nw.2,.int .i64 G.num,.int .i64 G.bucket,.int .u64 G.fi,.int .u64 G.sec,.int .u64 G.at_,.int .u64 G.la,a.mv]
abbrev Own (w:World) (a:Sc) (G:Sh):Prop:=Blk w a.f 162 (shc a G)
structure ShAt (w:World) (a:Sc) (G:Sh):Prop where
 blk:Own w a G
 c5:G.nx=5→a.mv=.map (some a.B)∧Me.Met w a.B G.met
 wt:G.nx=9→WtAt w a.w G.W
def sfoot (a:Sc) (G:Sh) (x:Nat):Prop:=x=a.f∨(G.nx=5∧x=a.B)∨(G.nx=9∧x=a.w)
abbrev shL:Lay Sc Sh:=⟨Sc.f,ShAt,sfoot⟩
section
variable {w w':World} {M:Mo} {a:Sc} {G:Sh}
theorem ShAt.ty (h:ShAt w a G) {x:Nat} (hx:sfoot a G x):Ty w x [162,197]∨∃ ms,Me.Met w x ms:=by
 rcases hx with rfl | ⟨hn,rfl⟩ | ⟨hn,rfl⟩
 · exact .inl ((blk_ty h.blk).mono (by simp))
 · exact .inr ⟨_,(h.c5 hn).2⟩
 · exact .inl ((blk_ty (h.wt hn)).mono (by simp))
theorem ShAt.lt (h:ShAt w a G) {x:Nat} (hx:sfoot a G x):x<w.heap.size:=by
 rcases h.ty hx with q | ⟨ms,q⟩
 · exact q.lt
 · exact q.lt
theorem ShAt.far (h:ShAt w a G) (hM:MemAt w M) {x:Nat} (hx:sfoot a G x):¬mfoot M x:=fun hm=>by
 rcases h.ty hx with q | ⟨ms,q⟩
 · exact (hM.ty hm).apart q (by decide)
 · exact q.no (hM.ty hm)
theorem ShAt.only {S:Nat→Prop} (h:ShAt w a G) (ho:Only S w w') (hn:∀ x,sfoot a G x→¬S x):ShAt w' a G where
 blk:=h.blk.only ho (hn _ (.inl rfl))
 c5 q:=⟨(h.c5 q).1,(h.c5 q).2.only ho (hn _ (.inr (.inl ⟨q,rfl⟩)))⟩
 wt q:=(h.wt q).only ho (hn _ (.inr (.inr ⟨q,rfl⟩)))
theorem ShAt.below (h:ShAt w a G) (hb:Below w.heap.size w w'):ShAt w' a G:=h.only (Only.ofBelow hb (fun _=>False)) (by simp)
theorem ShAt.drewN (h:ShAt w a G) (n:Nat):ShAt (w.drewN n) a G:=h.only ((Only.refl (fun _=>False) w).drewN n) (by simp)
theorem own_hd (h:Own w a G):w.cell? ⟨a.f,0,none⟩=some (.int .i64 G.worker)∧w.cell? ⟨a.f,1,none⟩=some (srv a G.nx)∧w.cell? ⟨a.f,2,none⟩=some (snv a G.nx)∧w.cell? ⟨a.f,3,none⟩=some (.int .i64 G.err)∧
 w.cell? ⟨a.f,4,none⟩=some (.int .i64 G.el.1)∧w.cell? ⟨a.f,5,none⟩=some (.int .i64 G.el.2)∧w.cell? ⟨a.f,6,none⟩=some (.int .i64 G.nw.1)∧w.cell? ⟨a.f,7,none⟩=some (.int .i64 G.nw.2)∧
 w.cell? ⟨a.f,8,none⟩=some (.int .i64 G.num)∧w.cell? ⟨a.f,9,none⟩=some (.int .i64 G.bucket)∧w.cell? ⟨a.f,10,none⟩=some (.int .u64 G.fi)∧w.cell? ⟨a.f,11,none⟩=some (.int .u64 G.sec)∧
 w.cell? ⟨a.f,12,none⟩=some (.int .u64 G.at_)∧w.cell? ⟨a.f,13,none⟩=some (.int .u64 G.la)∧w.cell? ⟨a.f,14,none⟩=some a.mv:=
 ⟨h.cell 0,h.cell 1,h.cell 2,h.cell 3,h.cell 4,h.cell 5,h.cell 6,h.cell 7,h.cell 8,h.cell 9,h.cell 10,h.cell 11,h.cell 12,h.cell 13,h.cell 14⟩
theorem own_B (h:Own w a G) {B:Nat} {ms:List Nat} (hm:Me.Met w B ms):B≠a.f:=fun e=>hm.no (by rw [e]; exact blk_ty h)
end
/-! ### its steps as plain data-/
def toNext (G:Sh):Sh:={G with bucket:=G.bucket+1,nx:=if G.bucket+1=G.nw.1 then 8 else 3}
def toStore (G:Sh):Sh:=if G.fi=0 then (if G.sec=0 then toNext G else {G with fi:=G.sec,nx:=7}) else {G with nx:=7}
def endFirst (G:Sh):Sh:=if G.la=0 then toStore {G with fi:=0} else if G.sec∈G.met then toStore G else {G with nx:=6}
def comeTo (G:Sh) (x:Nat):Sh:=if x=0∨x∈G.met then endFirst G else {G with at_:=x,nx:=5}
def begun (G:Sh):Sh:=if G.fi=0∨G.sec=0 then toStore G else comeTo {G with la:=0,met:=[]} G.fi
def sstep (L:Lm) (G:Sh):Lm×Sh:=
 if G.nx=1 then (L,{G with el:=now L.xs L.ds,nx:=2})
 else if G.nx=2 then
  (if FM.power ((G.el.1 / 2:Nat):Int)=true∧L.xs.length+G.el.1 / 2≤1048576 then
    ({L with xs:=L.xs++List.replicate (G.el.1 / 2) 0,ds:=L.ds++[(G.el.1 / 2,L.xs.length)]},{G with num:=L.ds.length,err:=0,nw:=(G.el.1 / 2,L.xs.length),nx:=3})
  else (L,{G with num:= -1,err:=if FM.power ((G.el.1 / 2:Nat):Int)=true then 2 else 5,nx:=10}))
 else if G.nx=3 then (L,{G with fi:=(Cl.nth L.xs (G.el.2+G.bucket)).toNat,nx:=4})
 else if G.nx=4 then (L,begun {G with sec:=(Cl.nth L.xs (G.el.2+(G.bucket+G.nw.1))).toNat})
 else if G.nx=5 then (L,comeTo {G with la:=G.at_,met:=G.at_::G.met} (at' L.ss ((G.at_-1) % 65536)).nd.next.toNat)
 else if G.nx=6 then ({L with ss:=Pu.lnk L.ss G.la G.sec},toStore G)
 else if G.nx=7 then ({L with xs:=L.xs.set (G.nw.2+G.bucket) ((G.fi:Nat):Int)},toNext G)
 else if G.nx=8 then ({L with xs:=L.xs.set 1 G.num},{G with W:=⟨G.worker,0,0,0⟩,nx:=9})
 else ({L with xs:=(wstep L.k.toNat L.xs L.hs G.W).1,hs:=(wstep L.k.toNat L.xs L.hs G.W).2.1},{G with W:=(wstep L.k.toNat L.xs L.hs G.W).2.2})
def sready (L:Lm) (G:Sh):Bool:=if G.nx=9 then readyB L.xs L.hs G.W else true
def sdone (L:Lm) (G:Sh):Bool:=
 if G.nx=2 then !decide (FM.power ((G.el.1 / 2:Nat):Int)=true∧L.xs.length+G.el.1 / 2≤1048576) else if G.nx=9 then decide (G.W.at_=3) else decide (10≤G.nx)
structure Oksh (L:Lm) (G:Sh):Prop where
 nx:1≤G.nx∧G.nx≤9
 x1:1<L.xs.length
 hl:0<L.hs.length
 ds:L.ds.length≤900000
 el:G.nx≠1→G.el.1≤65536∧G.el.2≤4000000
 nw:G.nw.1≤65536∧G.nw.2≤4000000
 bk:G.bucket≤1000000
 hb:G.fi≤18446744073709551615∧G.sec≤18446744073709551615
 c3:G.nx=3→G.el.2+G.bucket<L.xs.length
 c4:G.nx=4→G.el.2+(G.bucket+G.nw.1)<L.xs.length
 c5:G.nx=5→IsAt L.ss G.at_ ((G.at_-1) % 65536)∧G.at_≤18446744073709551615∧(0≤(at' L.ss ((G.at_-1) % 65536)).nd.next∧(at' L.ss ((G.at_-1) % 65536)).nd.next≤18446744073709551615)∧G.met.length≤100000
 c6:G.nx=6→G.la≤18446744073709551615∧∃ k,IsAt L.ss G.la k
 c7:G.nx=7→G.nw.2+G.bucket<L.xs.length
 c8:G.nx=8→0≤G.num∧G.num≤1000000
 c9:G.nx=9→0≤L.k∧Qs.Okw L.k.toNat L.xs L.hs G.W
end Go.Proofs.YtkogifmjbmnpgaaGreat.Sw
namespace Go.Proofs.YtkogifmjbmnpgaaGreat.Sw
open Go Go.RowKit Hp K Fl Rw Hm Ar Mm Me Qs Wk Pn
set_option maxRecDepth 100000
theorem always_any (m:Value) (w:World):Calls Tryz.prog 135 #[m] w fun e w'=>e=.returned (.bool true)∧w'=w:=by
 go_enter Tryz.func135,Tryz.ntmps135
 go_wp2
 go_ret
 exact ⟨rfl,rfl⟩
section
variable {w w':World} {M:Mo} {a:Sc} {G:Sh}
theorem only2 {c:Nat} (w:World) (i j:Nat) (u v:Value):Only (·=c) w ((w.setCell ⟨c,i,none⟩ u).setCell ⟨c,j,none⟩ v):=
 ((Only.refl (·=c) w).setCell (p:=⟨c,i,none⟩) (.inl rfl) _).setCell (p:=⟨c,j,none⟩) (.inl rfl) _
theorem only1 {c:Nat} (w:World) (i:Nat) (u:Value):Only (·=c) w (w.setCell ⟨c,i,none⟩ u):=(Only.refl (·=c) w).setCell (p:=⟨c,i,none⟩) (.inl rfl) _
theorem own_next (h:Own w a G) {n:Nat} (hn:n≠9):Own ((w.setCell ⟨a.f,1,none⟩ (wf0 135)).setCell ⟨a.f,2,none⟩ (snv a n)) a {G with nx:=n}:=by
 have e:shc a {G with nx:=n}=((shc a G).setIfInBounds 1 (wf0 135)).setIfInBounds 2 (snv a n):=by
  unfold shc srv
  rw [if_neg hn]
  rfl
 unfold Own
 rw [e]
 exact (Blk.store h 1 _).store 2 _
theorem goOn_any (h:Own w a G) {n F:Nat} {b:Array Value} (hn:n≠9) (e:snv a n=.func (.func F) b #[]):
 Calls Tryz.prog 99 #[ptr a.f,.func (.func F) b #[]] w fun e w'=>e=.returned (.tuple #[])∧Own w' a {G with nx:=n}∧Only (·=a.f) w w':=by
 have c1:=h.cell 1
 have c2:=h.cell 2
 have z1:=h.frozen 1
 have z2:=h.frozen 2
 simp only [shc,List.getElem?_toArray,List.getElem?_cons_succ,List.getElem?_cons_zero] at c1 c2
 have hE:=Lib.hid (own_next h hn)
 rw [e] at hE
 have hO:=Lib.hid (only2 (c:=a.f) w 1 2 (wf0 135) (.func (.func F) b #[]))
 generalize srv a G.nx=u1 at*
 generalize snv a G.nx=u2 at*
 clear h e
 go_enter Tryz.func99,Tryz.ntmps99
 go_wp2
 go_end0
 exact ⟨rfl,hE.out,hO.out⟩
set_option maxHeartbeats 2000000 in
theorem toNext_any (h:Own w a G) (hb:G.bucket≤1000000) (hn:G.nw.1≤1000000):
 Calls Tryz.prog 194 #[ptr a.f] w fun e w'=>e=.returned (.tuple #[])∧Own w' a (toNext G)∧Only (·=a.f) w w':=by
 have c9:=h.cell 9
 have z9:=h.frozen 9
 simp only [shc,List.getElem?_toArray,List.getElem?_cons_succ,List.getElem?_cons_zero] at c9
 have hX2:Own (w.setCell ⟨a.f,9,none⟩ (.int .i64 ((G.bucket:Int)+1))) a {G with bucket:=G.bucket+1}:=Blk.store h 9 (.int .i64 (G.bucket+1))
 have hO3:=Lib.hid (only1 (c:=a.f) w 9 (.int .i64 (G.bucket+1)))
 have hG:=Lib.hid (goOn_any hX2 (n:=3) (by omega) rfl)
 clear h hX2
 go_enter Tryz.func194,Tryz.ntmps194
 go_wp2_with fail
 refine hG.out.mono ?_
 rintro e w2 ⟨rfl,hO2,hY2⟩
 have p9:=hO2.cell 9
 have p6:=hO2.cell 6
 simp only [shc,List.getElem?_toArray,List.getElem?_cons_succ,List.getElem?_cons_zero] at p6 p9
 have hY4:=Lib.hid (hO3.out.trans hY2)
 have hG6:=Lib.hid (fun n=>goOn_any (G:={G with bucket:=G.bucket+1,nx:=3}) (Blk.only hO2 ((Only.refl (fun _=>False) w2).drewN n) (by simp):Own (w2.drewN n) a {G with bucket:=G.bucket+1,nx:=3}) (n:=8) (by omega) rfl)
 replace hO2:=Lib.hid hO2
 clear hY2 hO3 c9 z9 hG
 by_cases hq:G.bucket+1=G.nw.1
 · have q1:(((G.bucket+1:Nat):Int)==(G.nw.1:Int))=true:=by simp; omega
   have e6:Hid (toNext G={G with bucket:=G.bucket+1,nx:=8}):=Lib.hid (by
    unfold toNext
    rw [if_pos hq])
   clear hq
   go_wp2_with fail
   go_quiet (fail)
   clear p6 p9
   go_wp2_with fail
   refine (hG6.out _).mono ?_
   rintro e w3 ⟨rfl,hO5,hY5⟩
   have hYY:=Lib.hid ((hY4.out.drewN nq).trans hY5)
   replace hO5:=Lib.hid hO5
   clear hY5 hG6
   go_wp2_with fail
   go_end0
   exact ⟨rfl,by rw [e6.out]; exact hO5.out,hYY.out⟩
 · have q1:(((G.bucket+1:Nat):Int)==(G.nw.1:Int))=false:=by simp; omega
   have e6:Hid (toNext G={G with bucket:=G.bucket+1,nx:=3}):=Lib.hid (by
    unfold toNext
    rw [if_neg hq])
   clear hq
   go_wp2_with fail
   go_quiet (fail)
   have hO5:=Lib.hid (Blk.only hO2.out ((Only.refl (fun _=>False) w2).drewN nq) (by simp))
   have hYY:=Lib.hid (hY4.out.drewN nq)
   clear p6 p9 hG6
   go_wp2_with fail
   go_end0
   exact ⟨rfl,by rw [e6.out]; exact hO5.out,hYY.out⟩
set_option maxHeartbeats 2000000 in
theorem toStore_any (h:Own w a G) (hb:G.bucket≤1000000) (hn:G.nw.1≤1000000):
 Calls Tryz.prog 185 #[ptr a.f] w fun e w'=>e=.returned (.tuple #[])∧Own w' a (toStore G)∧Only (·=a.f) w w':=by
 have c10:=h.cell 10
 have c11:=h.cell 11
 have z10:=h.frozen 10
 simp only [shc,List.getElem?_toArray,List.getElem?_cons_succ,List.getElem?_cons_zero] at c10 c11
 by_cases h0:G.fi=0
 · have hX:Own (w.setCell ⟨a.f,10,none⟩ (.int .u64 G.sec)) a {G with fi:=G.sec}:=Blk.store h 10 (.int .u64 G.sec)
   have hO:=Lib.hid (only1 (c:=a.f) w 10 (.int .u64 G.sec))
   rw [h0] at c10
   by_cases h1:G.sec=0
   · have e:Hid (toStore G=toNext {G with fi:=G.sec}):=Lib.hid (by
      unfold toStore
      rw [if_pos h0,if_pos h1]
      unfold toNext
      rw [h0,h1])
     rw [h1] at c11
     have hN:=toNext_any hX hb hn
     rw [h1] at hN hO e
     replace hN:=Lib.hid hN
     clear h hX h0
     go_enter Tryz.func185,Tryz.ntmps185
     go_wp2_with fail
     refine hN.out.mono ?_
     rintro e w2 ⟨rfl,hO2,hY2⟩
     have hYY:=Lib.hid (hO.out.trans hY2)
     replace hO2:=Lib.hid hO2
     clear hY2 hN hO c10 c11 z10
     go_wp2_with fail
     exact bodyPost_ret (v:=.tuple #[]) (by simp [results,Tryz.results185]) rfl ⟨rfl,by rw [e.out]; exact hO2.out,hYY.out⟩
   · have e:Hid (toStore G={G with fi:=G.sec,nx:=7}):=Lib.hid (by
      unfold toStore
      rw [if_pos h0,if_neg h1])
     have q1:((G.sec:Int)==0)=false:=by simp; omega
     have hN:=Lib.hid (goOn_any hX (n:=7) (by omega) rfl)
     clear h hX h0 h1
     go_enter Tryz.func185,Tryz.ntmps185
     go_wp2_with fail
     refine hN.out.mono ?_
     rintro e w2 ⟨rfl,hO2,hY2⟩
     have hYY:=Lib.hid (hO.out.trans hY2)
     replace hO2:=Lib.hid hO2
     clear hY2 hN hO c10 c11 z10
     go_wp2_with fail
     go_end0
     exact ⟨rfl,by rw [e.out]; exact hO2.out,hYY.out⟩
 · have e:Hid (toStore G={G with nx:=7}):=Lib.hid (by
    unfold toStore
    rw [if_neg h0])
   have q1:((G.fi:Int)==0)=false:=by simp; omega
   have hN:=Lib.hid (goOn_any h (n:=7) (by omega) rfl)
   clear h h0
   go_enter Tryz.func185,Tryz.ntmps185
   go_wp2_with fail
   refine hN.out.mono ?_
   rintro e w2 ⟨rfl,hO2,hY2⟩
   replace hY2:=Lib.hid hY2
   replace hO2:=Lib.hid hO2
   clear hN c10 c11 z10
   go_wp2_with fail
   go_end0
   exact ⟨rfl,by rw [e.out]; exact hO2.out,hY2.out⟩
set_option maxHeartbeats 2000000 in
theorem endFirst_any (h:Own w a G) (hm:a.mv=.map (some a.B)) (hM:Me.Met w a.B G.met) (hs:G.sec≤18446744073709551615) (hb:G.bucket≤1000000) (hn:G.nw.1≤1000000):
 Calls Tryz.prog 196 #[ptr a.f] w fun e w'=>e=.returned (.tuple #[])∧Own w' a (endFirst G)∧Only (·=a.f) w w':=by
 have c10:=h.cell 10
 have c11:=h.cell 11
 have c13:=h.cell 13
 have c14:=h.cell 14
 have z10:=h.frozen 10
 simp only [shc,List.getElem?_toArray,List.getElem?_cons_succ,List.getElem?_cons_zero,hm] at c10 c11 c13 c14
 by_cases h0:G.la=0
 · have hX:Own (w.setCell ⟨a.f,10,none⟩ (.int .u64 0)) a {G with fi:=0}:=Blk.store h 10 (.int .u64 0)
   have hO:=Lib.hid (only1 (c:=a.f) w 10 (.int .u64 0))
   rw [h0] at c13
   have e:Hid (endFirst G=toStore {G with fi:=0}):=Lib.hid (by
    unfold endFirst
    rw [if_pos h0])
   have hN:=Lib.hid (toStore_any hX hb hn)
   clear h hX h0 hM
   go_enter Tryz.func196,Tryz.ntmps196
   go_wp2_with fail
   refine hN.out.mono ?_
   rintro e w2 ⟨rfl,hO2,hY2⟩
   have hYY:=Lib.hid (hO.out.trans hY2)
   replace hO2:=Lib.hid hO2
   clear hY2 hN hO c10 c11 c13 c14 z10
   go_wp2_with fail
   go_end0
   exact ⟨rfl,by rw [e.out]; exact hO2.out,hYY.out⟩
 · have q1:((G.la:Int)==0)=false:=by simp; omega
   have hL:=fun n=>(hM.only ((Only.refl (fun _=>False) w).drewN n) (by simp)).look hs
   by_cases h1:G.sec∈G.met
   · rw [show decide (G.sec∈G.met)=true by simpa using h1] at hL
     have e:Hid (endFirst G=toStore G):=Lib.hid (by
      unfold endFirst
      rw [if_neg h0,if_pos h1])
     have hN:=Lib.hid (fun n=>toStore_any (Blk.only h ((Only.refl (fun _=>False) w).drewN n) (by simp):Own (w.drewN n) a G) hb hn)
     have hO:=Lib.hid (fun n=>(Only.refl (·=a.f) w).drewN n)
     clear h h0 h1 hM
     go_enter Tryz.func196,Tryz.ntmps196
     go_wp2_with fail
     go_quiet (fail)
     go_wp2_with fail
     refine (hN.out nq).mono ?_
     rintro e w2 ⟨rfl,hO2,hY2⟩
     have hYY:=Lib.hid ((hO.out nq).trans hY2)
     replace hO2:=Lib.hid hO2
     clear hY2 hN hO hL c10 c11 c13 c14 z10
     go_wp2_with fail
     go_end0
     exact ⟨rfl,by rw [e.out]; exact hO2.out,hYY.out⟩
   · rw [show decide (G.sec∈G.met)=false by simpa using h1] at hL
     have e:Hid (endFirst G={G with nx:=6}):=Lib.hid (by
      unfold endFirst
      rw [if_neg h0,if_neg h1])
     have hN:=Lib.hid (fun n=>goOn_any (Blk.only h ((Only.refl (fun _=>False) w).drewN n) (by simp):Own (w.drewN n) a G) (n:=6) (by omega) rfl)
     have hO:=Lib.hid (fun n=>(Only.refl (·=a.f) w).drewN n)
     clear h h0 h1 hM
     go_enter Tryz.func196,Tryz.ntmps196
     go_wp2_with fail
     go_quiet (fail)
     go_wp2_with fail
     refine (hN.out nq).mono ?_
     rintro e w2 ⟨rfl,hO2,hY2⟩
     have hYY:=Lib.hid ((hO.out nq).trans hY2)
     replace hO2:=Lib.hid hO2
     clear hY2 hN hO hL c10 c11 c13 c14 z10
     go_wp2_with fail
     go_end0
     exact ⟨rfl,by rw [e.out]; exact hO2.out,hYY.out⟩
set_option maxHeartbeats 2000000 in
theorem comeTo_any (h:Own w a G) (hm:a.mv=.map (some a.B)) (hM:Me.Met w a.B G.met) (hs:G.sec≤18446744073709551615) (hb:G.bucket≤1000000) (hn:G.nw.1≤1000000) {x:Nat} (hx:x≤18446744073709551615):
 Calls Tryz.prog 186 #[ptr a.f,.int .u64 x] w fun e w'=>e=.returned (.tuple #[])∧Own w' a (comeTo G x)∧Only (·=a.f) w w':=by
 have c12:=h.cell 12
 have c14:=h.cell 14
 have z12:=h.frozen 12
 simp only [shc,List.getElem?_toArray,List.getElem?_cons_succ,List.getElem?_cons_zero,hm] at c12 c14
 have hE:=Lib.hid (endFirst_any h hm hM hs hb hn)
 by_cases h0:x=0
 · subst h0
   have e:Hid (comeTo G 0=endFirst G):=Lib.hid (by unfold comeTo; rw [if_pos (.inl rfl)])
   clear h hM
   go_enter Tryz.func186,Tryz.ntmps186
   go_wp2_with fail
   refine hE.out.mono ?_
   rintro e w1 ⟨rfl,hO2,hY2⟩
   replace hY2:=Lib.hid hY2
   replace hO2:=Lib.hid hO2
   clear hE c12 c14 z12
   go_wp2_with fail
   exact bodyPost_ret (v:=.tuple #[]) (by simp [results,Tryz.results186]) rfl ⟨rfl,by rw [e.out]; exact hO2.out,hY2.out⟩
 · have q1:((x:Int)==0)=false:=by simp; omega
   have hL:=hM.look hx
   by_cases h1:x∈G.met
   · rw [show decide (x∈G.met)=true by simpa using h1] at hL
     have e:Hid (comeTo G x=endFirst G):=Lib.hid (by unfold comeTo; rw [if_pos (.inr h1)])
     clear h hM h1 h0
     go_enter Tryz.func186,Tryz.ntmps186
     go_wp2_with fail
     refine hE.out.mono ?_
     rintro e w1 ⟨rfl,hO2,hY2⟩
     replace hY2:=Lib.hid hY2
     replace hO2:=Lib.hid hO2
     clear hE c12 c14 z12 hL
     go_wp2_with fail
     exact bodyPost_ret (v:=.tuple #[]) (by simp [results,Tryz.results186]) rfl ⟨rfl,by rw [e.out]; exact hO2.out,hY2.out⟩
   · rw [show decide (x∈G.met)=false by simpa using h1] at hL
     have e:Hid (comeTo G x={G with at_:=x,nx:=5}):=Lib.hid (by unfold comeTo; rw [if_neg (by simp [h0,h1])])
     have hB1:Own (w.setCell ⟨a.f,12,none⟩ (.int .u64 x)) a {G with at_:=x}:=Blk.store h 12 (.int .u64 x)
     have hO1:=Lib.hid (only1 (c:=a.f) w 12 (.int .u64 x))
     have hG:=Lib.hid (goOn_any hB1 (n:=5) (by omega) rfl)
     clear h hM h1 h0 hE hB1
     go_enter Tryz.func186,Tryz.ntmps186
     go_wp2_with fail
     refine hG.out.mono ?_
     rintro e w2 ⟨rfl,hB2,hO2⟩
     have hO:=Lib.hid (hO1.out.trans hO2)
     replace hB2:=Lib.hid hB2
     clear hO2 hO1 hG c12 c14 z12 hL
     go_wp2_with fail
     go_end0
     exact ⟨rfl,by rw [e.out]; exact hB2.out,hO.out⟩
end
end Go.Proofs.YtkogifmjbmnpgaaGreat.Sw
namespace Go.Proofs.YtkogifmjbmnpgaaGreat.Sw
open Go Go.RowKit Hp K Fl Rw Hm Ar Mm Me Qs Wk Pn
set_option maxRecDepth 100000
section
variable {w w':World} {M:Mo} {a:Sc} {G:Sh}
theorem stp_same {S:Nat→Prop} {a':Sc} {G':Sh} (hM:MemAt w M) (hG:ShAt w' a' G') (hf:a'.f=a.f) (hfo:∀ x,sfoot a' G' x→sfoot a G x∨w.heap.size≤x) (h:ShAt w a G) (hO:Only S w w') (hS:∀ x,S x→sfoot a G x):shL.Stp w M a G (lm M) G' w':=
 ⟨M,a',hM.only hO (fun x hx hs=>h.far hM (hS x hs) hx),rfl,Kin.refl _ _,hG,hf,hfo,hO.mono (fun x _ q=>.inr (hS x q))⟩
theorem ShAt.plain (hB:Own w' a G) (hn:G.nx≠5∧G.nx≠9):ShAt w' a G:=⟨hB,fun q=>absurd q hn.1,fun q=>absurd q hn.2⟩
theorem sfoot_plain {G':Sh} (hn:G'.nx≠5∧G'.nx≠9) {k:Nat} (x:Nat) (hx:sfoot a G' x):sfoot a G x∨k≤x:=by
 rcases hx with rfl | ⟨q,_⟩ | ⟨q,_⟩
 · exact .inl (.inl rfl)
 · exact absurd q hn.1
 · exact absurd q hn.2
set_option maxHeartbeats 2000000 in
theorem load_step (hM:MemAt w M) (h:ShAt w a G) (hx:1<M.xs.length) (h1:G.nx=1):Calls Tryz.prog 100 #[ptr a.f,ptr M.m] w fun e w'=>e=.returned (.bool false)∧shL.Stp w M a G (sstep (lm M) G).1 (sstep (lm M) G).2 w':=by
 have hN:=Lib.hid (now_any hM hx)
 unfold sstep
 rw [if_pos h1]
 show Calls _ _ _ _ fun e w'=>_∧shL.Stp w M a G (lm M) {G with el:=now M.xs M.ds,nx:=2} w'
 generalize now M.xs M.ds=d at*
 unfold dv at hN
 have HM:=Lib.hid hM
 have HG:=Lib.hid h
 clear hM h
 go_enter Tryz.func100,Tryz.ntmps100
 go_wp2_with fail
 refine hN.out.mono ?_
 rintro e w1 ⟨rfl,hB1⟩
 have hG1:=HG.out.below hB1
 have c4:=hG1.blk.cell 4
 have c5:=hG1.blk.cell 5
 have z4:=hG1.blk.frozen 4
 have z5:=hG1.blk.frozen 5
 simp only [shc,List.getElem?_toArray,List.getElem?_cons_succ,List.getElem?_cons_zero] at c4 c5
 have hB2:Own ((w1.setCell ⟨a.f,4,none⟩ (.int .i64 d.1)).setCell ⟨a.f,5,none⟩ (.int .i64 d.2)) a {G with el:=d}:=(hG1.blk.store 4 (.int .i64 d.1)).store 5 (.int .i64 d.2)
 have hO2:=only2 (c:=a.f) w1 4 5 (.int .i64 d.1) (.int .i64 d.2)
 have hGo:=Lib.hid (goOn_any hB2 (n:=2) (by omega) rfl)
 have hO3:=Lib.hid ((Only.ofBelow hB1 (·=a.f)).trans hO2)
 clear hB2 hO2 hN hB1
 replace hG1:=Lib.hid hG1
 go_wp2_with fail
 refine hGo.out.mono ?_
 rintro e w3 ⟨rfl,hB3,hO4⟩
 have hE:Hid (shL.Stp w M a G (lm M) {G with el:=d,nx:=2} w3):=Lib.hid
  (stp_same HM.out (a':=a) (ShAt.plain hB3 (by simp)) rfl (sfoot_plain (by simp)) HG.out (hO3.out.trans hO4) (fun x q=>.inl q))
 clear hB3 hO4 hGo c4 c5 z4 z5
 go_wp2_with fail
 go_ret
 exact ⟨rfl,hE.out⟩
theorem half_tdiv (n:Nat):(n:Int).tdiv 2=((n / 2:Nat):Int):=by
 rw [Int.tdiv_eq_ediv_of_nonneg (by omega)]
 omega
set_option maxHeartbeats 2000000 in
theorem table_fails (hM:MemAt w M) (h:ShAt w a G) (he:G.el.1≤65536) (hp:¬(FM.power ((G.el.1 / 2:Nat):Int)=true∧M.xs.length+G.el.1 / 2≤1048576)):
 Calls Tryz.prog 136 #[ptr a.f,ptr M.m] w fun e w'=>e=.returned (.bool true)∧shL.Stp w M a G (lm M) {G with num:= -1,err:=if FM.power ((G.el.1 / 2:Nat):Int)=true then 2 else 5,nx:=10} w':=by
 obtain ⟨n2,hn2⟩:∃ n,n=G.el.1 / 2:=⟨_,rfl⟩
 have hd:=half_tdiv G.el.1
 rw [← hn2] at hp hd ⊢
 obtain ⟨c,hc,hcv,hT⟩:∃ c:Int,(c != 0)=true∧c=(if FM.power (n2:Int)=true then 2 else 5)∧Calls Tryz.prog 50 #[ptr M.m,.int .i64 (n2:Int)] w fun e w'=>e=.returned (.tuple #[.int .i64 (-1),.int .i64 c])∧w=w':=by
  cases hpw:FM.power (n2:Int) with
  | true=>
    refine ⟨2,rfl,by simp,table_full hM _ (by omega) (by omega) hpw ?_⟩
    have:¬M.xs.length+n2≤1048576:=fun q=>hp ⟨hpw,q⟩
    omega
  | false=>exact ⟨5,rfl,by simp,table_no hM _ (by omega) (by omega) hpw⟩
 rw [← hcv]
 have hw2:IntKind.i64.wrap (n2:Int)=n2:=IntWalk.i64_in _ (by omega)
 replace hT:=Lib.hid hT
 have c3:=h.blk.cell 3
 have c4:=h.blk.cell 4
 have c8:=h.blk.cell 8
 have z3:=h.blk.frozen 3
 have z8:=h.blk.frozen 8
 simp only [shc,List.getElem?_toArray,List.getElem?_cons_succ,List.getElem?_cons_zero] at c3 c4 c8
 have hB2:Own ((w.setCell ⟨a.f,8,none⟩ (.int .i64 (-1))).setCell ⟨a.f,3,none⟩ (.int .i64 c)) a {G with num:= -1,err:=c}:=(h.blk.store 8 (.int .i64 (-1))).store 3 (.int .i64 c)
 have hO2:=Lib.hid (only2 (c:=a.f) w 8 3 (.int .i64 (-1)) (.int .i64 c))
 have hE:=Lib.hid (goOn_any hB2 (n:=10) (by omega) rfl)
 have HM:=Lib.hid hM
 have HG:=Lib.hid h
 clear hM h hB2 hp hcv
 replace hn2:=Lib.hid hn2
 go_enter Tryz.func136,Tryz.ntmps136
 go_wp2_with fail
 refine hT.out.mono ?_
 rintro e w1 ⟨rfl,hw⟩
 obtain rfl:w=w1:=hw
 clear hT
 go_wp2_with fail
 refine hE.out.mono ?_
 rintro e w2 ⟨rfl,hB3,hO3⟩
 have hS:Hid (shL.Stp w M a G (lm M) {G with num:= -1,err:=c,nx:=10} w2):=Lib.hid
  (stp_same HM.out (a':=a) (ShAt.plain hB3 (by simp)) rfl (sfoot_plain (by simp)) HG.out (hO2.out.trans hO3) (fun x q=>.inl q))
 clear hB3 hO3 hE c3 c4 c8 z3 z8
 go_wp2_with fail
 go_ret
 exact ⟨rfl,hS.out⟩
theorem kin_tabled {A' T':Option Addr} {cap' capT':Nat} {xs':List Int} {ds':List (Nat×Nat)} (hA:∀ x,In A' x→In M.A x∨w.heap.size≤x) (hT:∀ x,In T' x→In M.T x∨w.heap.size≤x):Kin w M {M with A:=A',cap:=cap',xs:=xs',T:=T',capT:=capT',ds:=ds'}:=by
 refine ⟨rfl,rfl,rfl,rfl,?_⟩
 rintro x (q | q | q | q | q | q)
 · exact .inl (.inl q)
 · rcases q with q | q
   · exact .inl (.inr (.inl (.inl q)))
   · rcases hA x q with q | q
     · exact .inl (.inr (.inl (.inr q)))
     · exact .inr q
 · exact .inl (.inr (.inr (.inl q)))
 · exact .inl (.inr (.inr (.inr (.inl q))))
 · rcases hT x q with q | q
   · exact .inl (.inr (.inr (.inr (.inr (.inl q)))))
   · exact .inr q
 · exact .inl (.inr (.inr (.inr (.inr (.inr q)))))
set_option maxHeartbeats 2000000 in
theorem table_made (hM:MemAt w M) (h:ShAt w a G) (he:G.el.1≤65536) (hds:M.ds.length≤900000) (hp:FM.power ((G.el.1 / 2:Nat):Int)=true) (hx:M.xs.length+G.el.1 / 2≤1048576):
 Calls Tryz.prog 136 #[ptr a.f,ptr M.m] w fun e w'=>e=.returned (.bool false)∧shL.Stp w M a G {lm M with xs:=M.xs++List.replicate (G.el.1 / 2) 0,ds:=M.ds++[(G.el.1 / 2,M.xs.length)]} {G with num:=M.ds.length,err:=0,nw:=(G.el.1 / 2,M.xs.length),nx:=3} w':=by
 have hT:=table_ok hM (G.el.1 / 2) hp hx (by omega)
 replace hT:=Lib.hid hT
 have c4:=h.blk.cell 4
 simp only [shc,List.getElem?_toArray,List.getElem?_cons_succ,List.getElem?_cons_zero] at c4
 have HM:=Lib.hid hM
 have HG:=Lib.hid h
 have hd:=half_tdiv G.el.1
 obtain ⟨dn,hdn⟩:∃ n,n=M.ds.length:=⟨_,rfl⟩
 obtain ⟨xn,hxn⟩:∃ n,n=M.xs.length:=⟨_,rfl⟩
 obtain ⟨n2,hn2⟩:∃ n,n=G.el.1 / 2:=⟨_,rfl⟩
 rw [← hdn] at hds
 rw [← hn2] at hd
 have hw2:IntKind.i64.wrap (n2:Int)=n2:=IntWalk.i64_in _ (by omega)
 simp only [← hdn,← hxn,← hn2] at hT ⊢
 replace hdn:=Lib.hid hdn
 replace hxn:=Lib.hid hxn
 replace hn2:=Lib.hid hn2
 clear hM h hp hx
 go_enter Tryz.func136,Tryz.ntmps136
 go_wp2_with fail
 refine hT.out.mono ?_
 rintro e w1 ⟨rfl,A',cap',T',capT',hM1,hO1,hA1,hT1⟩
 have hG1:=HG.out.only hO1 (fun x hx q=>HG.out.far HM.out hx q)
 have d3:=hG1.blk.cell 3
 have d8:=hG1.blk.cell 8
 have y3:=hG1.blk.frozen 3
 have y8:=hG1.blk.frozen 8
 simp only [shc,List.getElem?_toArray,List.getElem?_cons_succ,List.getElem?_cons_zero] at d3 d8
 have hB2:Own ((w1.setCell ⟨a.f,8,none⟩ (.int .i64 dn)).setCell ⟨a.f,3,none⟩ (.int .i64 0)) a {G with num:=dn,err:=0}:=(hG1.blk.store 8 (.int .i64 dn)).store 3 (.int .i64 0)
 have hO2:=only2 (c:=a.f) w1 8 3 (.int .i64 dn) (.int .i64 0)
 have hfar:=hG1.far hM1 (x:=a.f) (.inl rfl)
 have hM2:=hM1.only hO2 (fun x hx e=>hfar (e▸hx))
 have hD:=desc_in hM2 dn (by rw [hdn.out]; simp)
 have htab:tab (M.ds++[(n2,M.xs.length)]) dn=(n2,xn):=by unfold tab; rw [hdn.out,hxn.out]; simp
 rw [htab] at hD
 unfold dv at hD
 replace hD:=Lib.hid hD
 have k8:=hB2.cell 8
 have k3:=hB2.cell 3
 simp only [shc,List.getElem?_toArray,List.getElem?_cons_succ,List.getElem?_cons_zero] at k3 k8
 replace hB2:=Lib.hid hB2
 replace hO2:=Lib.hid hO2
 replace hM2:=Lib.hid hM2
 replace hO1:=Lib.hid hO1
 replace hfar:=Lib.hid hfar
 have hK:=Lib.hid (kin_tabled (w:=w) (M:=M) (cap':=cap') (capT':=capT') (xs':=M.xs++List.replicate n2 0) (ds':=M.ds++[(n2,M.xs.length)]) hA1 hT1)
 clear hT c4 hM1 hA1 hT1 htab hG1
 go_wp2_with fail
 refine hD.out.mono ?_
 rintro e w3 ⟨rfl,hb3⟩
 have hB3:=hB2.out.only (Only.ofBelow hb3 (fun _=>False)) (by simp)
 have p6:=hB3.cell 6
 have p7:=hB3.cell 7
 have q6:=hB3.frozen 6
 have q7:=hB3.frozen 7
 simp only [shc,List.getElem?_toArray,List.getElem?_cons_succ,List.getElem?_cons_zero] at p6 p7
 have hB4:Own ((w3.setCell ⟨a.f,6,none⟩ (.int .i64 n2)).setCell ⟨a.f,7,none⟩ (.int .i64 xn)) a {G with num:=dn,err:=0,nw:=(n2,xn)}:=(hB3.store 6 (.int .i64 n2)).store 7 (.int .i64 xn)
 have hO4:=only2 (c:=a.f) w3 6 7 (.int .i64 n2) (.int .i64 xn)
 have hO34:=(Only.ofBelow hb3 (·=a.f)).trans hO4
 have hGo:=Lib.hid (goOn_any hB4 (n:=3) (by omega) rfl)
 replace hO34:=Lib.hid hO34
 clear hb3 hB3 hB4 hO4 hD k3 k8 d3 d8 y3 y8
 go_wp2_with fail
 refine hGo.out.mono ?_
 rintro e w5 ⟨rfl,hB5,hO5⟩
 have hO25:=hO34.out.trans hO5
 have hO15:=hO2.out.trans hO25
 have hS:Hid (shL.Stp w M a G {lm M with xs:=M.xs++List.replicate n2 0,ds:=M.ds++[(n2,xn)]} {G with num:=dn,err:=0,nw:=(n2,xn),nx:=3} w5):=Lib.hid (by
  have hOa:Only (fun x=>mfoot M x∨sfoot a G x) w w5:=(hO1.out.mono (fun x _ q=>.inl q)).trans' hO15 (fun x _ q=>.inr (.inl q))
  exact ⟨_,a,hM2.out.only hO25 (fun x hx e=>hfar.out (e▸hx)),by rw [hxn.out],hK.out,ShAt.plain hB5 (by simp),rfl,sfoot_plain (by simp),hOa⟩)
 clear hB5 hO5 hO15 hO25 hGo
 go_wp2_with fail
 go_ret
 exact ⟨rfl,hS.out⟩
set_option maxHeartbeats 2000000 in
theorem begin_any (hM:MemAt w M) (h:Own w a G) (k:Nat) (hk:k≤2000000) (hx:G.el.2+k<M.xs.length) (he:G.el.2≤4000000):
 Calls Tryz.prog 172 #[ptr a.f,ptr M.m,.int .i64 k] w fun e w'=>e=.returned (.int .u64 ((Cl.nth M.xs (G.el.2+k)).toNat:Int))∧∃ n,w'=w.drewN n:=by
 have hL:=fun n=>Cl.load_in (hM.drewN n).2.1 (G.el.2+k) hx
 have hbd:=Cl.getD_bd hM.2.1.2.2.1 (G.el.2+k)
 obtain ⟨z,hz⟩:=Int.eq_ofNat_of_zero_le hbd.1
 rw [hz] at hL ⊢
 rw [Int.toNat_natCast]
 have e2:((G.el.2+k:Nat):Int)=(G.el.2:Int)+(k:Int):=by omega
 rw [e2] at hL
 replace hL:=Lib.hid hL
 have d0:=hM.hd.1
 have c5:=h.cell 5
 simp only [shc,List.getElem?_toArray,List.getElem?_cons_succ,List.getElem?_cons_zero] at c5
 have ew:IntKind.i64.wrap ((G.el.2:Int)+(k:Int))=(G.el.2:Int)+(k:Int):=IntWalk.i64_in _ (by omega)
 clear hM h hz hbd hx e2
 go_enter Tryz.func172,Tryz.ntmps172
 go_wp2_with fail
 go_quiet ((go_at_call 42; exact Calls.quiet_of_same ((hL.out _).mono fun _ _ h=>⟨h.1,h.2⟩)))
 clear hL d0 c5
 go_wp2_with fail
 go_ret
 exact ⟨rfl,_,rfl⟩
set_option maxHeartbeats 2000000 in
theorem loadFirst_step (hM:MemAt w M) (h:ShAt w a G) (hx:G.el.2+G.bucket<M.xs.length) (he:G.el.2≤4000000) (hb:G.bucket≤1000000):
 Calls Tryz.prog 157 #[ptr a.f,ptr M.m] w fun e w'=>e=.returned (.bool false)∧shL.Stp w M a G (lm M) {G with fi:=(Cl.nth M.xs (G.el.2+G.bucket)).toNat,nx:=4} w':=by
 have hBg:=Lib.hid (begin_any hM h.blk G.bucket (by omega) hx he)
 have c9:=h.blk.cell 9
 simp only [shc,List.getElem?_toArray,List.getElem?_cons_succ,List.getElem?_cons_zero] at c9
 have HM:=Lib.hid hM
 have HG:=Lib.hid h
 generalize (Cl.nth M.xs (G.el.2+G.bucket)).toNat=z at*
 clear hM h
 go_enter Tryz.func157,Tryz.ntmps157
 go_wp2_with fail
 refine hBg.out.mono ?_
 rintro e w1 ⟨rfl,n,hw⟩
 have hG1:Own w1 a G:=by rw [hw]; exact Blk.only HG.out.blk ((Only.refl (fun _=>False) w).drewN n) (by simp)
 have hO1:Only (·=a.f) w w1:=by rw [hw]; exact (Only.refl _ w).drewN n
 clear hw hBg c9
 have d10:=hG1.cell 10
 have y10:=hG1.frozen 10
 simp only [shc,List.getElem?_toArray,List.getElem?_cons_succ,List.getElem?_cons_zero] at d10
 have hB2:Own (w1.setCell ⟨a.f,10,none⟩ (.int .u64 z)) a {G with fi:=z}:=hG1.store 10 (.int .u64 z)
 have hGo:=Lib.hid (goOn_any hB2 (n:=4) (by omega) rfl)
 have hO2:=Lib.hid (hO1.trans (only1 (c:=a.f) w1 10 (.int .u64 z)))
 clear hG1 hO1 hB2
 go_wp2_with fail
 refine hGo.out.mono ?_
 rintro e w3 ⟨rfl,hB3,hO4⟩
 have hE:Hid (shL.Stp w M a G (lm M) {G with fi:=z,nx:=4} w3):=Lib.hid
  (stp_same HM.out (a':=a) (ShAt.plain hB3 (by simp)) rfl (sfoot_plain (by simp)) HG.out (hO2.out.trans hO4) (fun x q=>.inl q))
 clear hB3 hO4 hGo d10 y10
 go_wp2_with fail
 go_ret
 exact ⟨rfl,hE.out⟩
end
end Go.Proofs.YtkogifmjbmnpgaaGreat.Sw
namespace Go.Proofs.YtkogifmjbmnpgaaGreat.Rn
open Go
def wpN (P:Program) (md:Region.Mode) (ops:Array Oper) (Q:Exit→Act→World→Prop) (S:World→Prop) (till:Nat→Bool):Nat→Array Bool→Act→World→Prop
 | 0,listed,a,w=>Region.ready md ops listed=[]∧Q .normal a w
 | f+1,listed,a,w=>(Region.ready md ops listed=[]→Q .normal a w)∧
    ∀ i∈Region.ready md ops listed,wpOp P ops Q i (fun a' w'=>(till i=true∧wpAny P md ops Q f (listed.setIfInBounds i true) a' w')∨(till i=false∧S w'∧wpN P md ops Q S till f (listed.setIfInBounds i true) a' w')) a w
section
variable {P:Program} {ops:Array Oper} {Q:Exit→Act→World→Prop} {md:Region.Mode} {S:World→Prop} {till:Nat→Bool}
theorem wpN_any:∀ (f:Nat) (listed:Array Bool) (a:Act) (w:World),wpN P md ops Q S till f listed a w→wpAny P md ops Q f listed a w
 | 0,_,_,_,h=>h
 | f+1,_,_,_,h=>⟨h.1,fun i hi=>wpOp_mono (fun a' w' h'=>by
    rcases h' with ⟨_,h'⟩ | ⟨_,_,h'⟩
    · exact h'
    · exact wpN_any f _ a' w' h') (h.2 i hi)⟩
theorem wpN_first {i:Nat} {oi:Oper} {v:Value} (hi:ops[i]?=some oi) (hsel:∀ (j:Nat) (o:Oper) cs b,ops[j]?=some o→o.op≠.select cs b)
 (hQ:∀ c a w,Q (.panic c) (a.put oi.dst v) w→Q (.panic c) a w) (hti:till i=false) (htw:∀ j,till j=true→Region.waitsFor md ops j i=true):
 ∀ (f:Nat) (listed:Array Bool) (a:Act) (w:World),
   (∀ j oj,ops[j]?=some oj→j≠i→listed.getD j true=false→(∀ e∈oj.after,Region.binds md e=true→e.on≠i)→oi.apart ops oj=true)→
   i∈Region.ready md ops listed→YieldsIf P ops S oi v a→S w→
   wpN P md ops Q S till f (listed.setIfInBounds i true) (a.put oi.dst v) w→wpN P md ops Q S till (f+1) listed a w:=by
 intro f
 induction f with
 | zero=>
   intro listed a w _ hr hy hS H
   refine ⟨fun h=>absurd hr (by rw [h]; simp),fun j hj=>?_⟩
   by_cases hji:j=i
   · rw [hji]
     exact hy.wpOp hi hS (.inr ⟨hti,hS,H⟩)
   · have h0:=ready_mono hj hji
     rw [H.1] at h0
     simp at h0
 | succ f ih=>
   intro listed a w hfree hr hy hS H
   refine ⟨fun h=>absurd hr (by rw [h]; simp),fun j hj=>?_⟩
   by_cases hji:j=i
   · rw [hji]
     exact hy.wpOp hi hS (.inr ⟨hti,hS,H⟩)
   · obtain ⟨hun,oj,hoj,hall⟩:=mem_ready.1 hj
     have hnot:∀ e∈oj.after,Region.binds md e=true→e.on≠i:=fun e he hb heq=>by
      have h1:=hall e he hb
      have h0:=(mem_ready.1 hr).1
      rw [heq,getD_both h0] at h1
      simp at h1
     have htj:till j=false:=by
      cases ht:till j with
      | false=>rfl
      | true=>
        obtain ⟨o',ho',e,he,hb,hon⟩:=Region.waitsFor_spec (htw j ht)
        rw [hoj] at ho'
        injection ho' with ho'
        subst ho'
        exact absurd hon (hnot e he hb)
     have h1:=H.2 j (ready_mono hj hji)
     refine wpOp_mono (fun a' w' h3=>?_) (wpOp_putIf hoj (hfree j oj hoj hji hun hnot) (fun cs b=>hsel i oi cs b hi) (fun cs b=>hsel j oj cs b hoj) hQ hy h1)
     obtain ⟨hy',h3⟩:=h3
     rcases h3 with ⟨ht,_⟩ | ⟨_,hS',h3⟩
     · rw [htj] at ht
       simp at ht
     · refine .inr ⟨htj,hS',ih _ _ _ ?_ (ready_mono hr (Ne.symm hji)) hy' hS' (by rw [Array.setIfInBounds_comm _ _ hji]; exact h3)⟩
       intro k ok hk hki hku hno
       refine hfree k ok hk hki ?_ hno
       by_cases hjk:j=k
       · rw [← hjk]; exact hun
       · rwa [getD_set_ne true hjk] at hku
theorem wpN_take {i:Nat} {oi:Oper} {v:Value} {f:Nat} {listed:Array Bool} {a:Act} {w:World} (hi:ops[i]?=some oi)
 (hs:Region.noSelect ops=true) (hf:Region.free md ops listed i=true) (hr:(Region.ready md ops listed).contains i=true) (hti:till i=false)
 (htw:∀ j,till j=true→Region.waitsFor md ops j i=true)
 (hQ:∀ c a w,Q (.panic c) (a.put oi.dst v) w→Q (.panic c) a w) (hy:YieldsIf P ops S oi v a) (hS:S w)
 (h:wpN P md ops Q S till f (listed.setIfInBounds i true) (a.put oi.dst v) w):wpN P md ops Q S till (f+1) listed a w:=
 wpN_first hi (Region.noSelect_spec hs) hQ hti htw f listed a w (Region.free_spec hi hf) (by simpa using hr) hy hS h
theorem wpOp_of {i:Nat} {o:Oper} {a:Act} {w:World} {K:Act→World→Prop} (hi:ops[i]?=some o) (h:if Region.wanted o (yielded ops a.tmps)=true then Oper.wp P o a w K Q else K (a.put o.dst undef) w):wpOp P ops Q i K a w:=by
 unfold wpOp
 simp only [hi]
 split
 · rename_i hw
   rw [if_pos hw] at h
   exact .inl h
 · rename_i hw
   rw [if_neg hw] at h
   exact h
theorem wpN_first0 {i:Nat} {oi:Oper} {v:Value} (hi:ops[i]?=some oi) (hsel:∀ (j:Nat) (o:Oper) cs b,ops[j]?=some o→o.op≠.select cs b)
 (hQ:∀ c a w,Q (.panic c) (a.put oi.dst v) w→Q (.panic c) a w) (hti:till i=false):
 ∀ (f:Nat) (listed:Array Bool) (a:Act) (w:World),
   (∀ j oj,ops[j]?=some oj→j≠i→listed.getD j true=false→(∀ e∈oj.after,Region.binds md e=true→e.on≠i)→oi.apart ops oj=true)→
   i∈Region.ready md ops listed→YieldsIf P ops (fun _=>True) oi v a→S w→
   wpN P md ops Q S till f (listed.setIfInBounds i true) (a.put oi.dst v) w→wpN P md ops Q S till (f+1) listed a w:=by
 intro f
 induction f with
 | zero=>
   intro listed a w _ hr hy hS H
   refine ⟨fun h=>absurd hr (by rw [h]; simp),fun j hj=>?_⟩
   by_cases hji:j=i
   · rw [hji]
     exact hy.wpOp hi trivial (.inr ⟨hti,hS,H⟩)
   · have h0:=ready_mono hj hji
     rw [H.1] at h0
     simp at h0
 | succ f ih=>
   intro listed a w hfree hr hy hS H
   refine ⟨fun h=>absurd hr (by rw [h]; simp),fun j hj=>?_⟩
   by_cases hji:j=i
   · rw [hji]
     exact hy.wpOp hi trivial (.inr ⟨hti,hS,H⟩)
   · obtain ⟨hun,oj,hoj,hall⟩:=mem_ready.1 hj
     have hnot:∀ e∈oj.after,Region.binds md e=true→e.on≠i:=fun e he hb heq=>by
      have h1:=hall e he hb
      have h0:=(mem_ready.1 hr).1
      rw [heq,getD_both h0] at h1
      simp at h1
     have hfr:∀ k ok,ops[k]?=some ok→k≠i→(listed.setIfInBounds j true).getD k true=false→(∀ e∈ok.after,Region.binds md e=true→e.on≠i)→oi.apart ops ok=true:=fun k ok hk hki hku hno=>by
      refine hfree k ok hk hki ?_ hno
      by_cases hjk:j=k
      · rw [← hjk]; exact hun
      · rwa [getD_set_ne true hjk] at hku
     have h1:=H.2 j (ready_mono hj hji)
     refine wpOp_mono (fun a' w' h3=>?_) (wpOp_putIf hoj (hfree j oj hoj hji hun hnot) (fun cs b=>hsel i oi cs b hi) (fun cs b=>hsel j oj cs b hoj) hQ hy h1)
     obtain ⟨hy',h3⟩:=h3
     rcases h3 with ⟨ht,h3⟩ | ⟨htj,hS',h3⟩
     · refine .inl ⟨ht,wpAny_first hi hsel hQ f _ _ _ hfr (ready_mono hr (Ne.symm hji)) ?_ (by rw [Array.setIfInBounds_comm _ _ hji]; exact h3)⟩
       rcases hy' with ⟨h1,h2⟩ | h1
       · exact .inl ⟨h1,fun w=>h2 w trivial⟩
       · exact .inr h1
     · exact .inr ⟨htj,hS',ih _ _ _ hfr (ready_mono hr (Ne.symm hji)) hy' hS' (by rw [Array.setIfInBounds_comm _ _ hji]; exact h3)⟩
theorem wpN_take0 {i:Nat} {oi:Oper} {v:Value} {f:Nat} {listed:Array Bool} {a:Act} {w:World} (hi:ops[i]?=some oi)
 (hs:Region.noSelect ops=true) (hf:Region.free md ops listed i=true) (hr:(Region.ready md ops listed).contains i=true) (hti:till i=false)
 (hQ:∀ c a w,Q (.panic c) (a.put oi.dst v) w→Q (.panic c) a w) (hy:YieldsIf P ops (fun _=>True) oi v a) (hS:S w)
 (h:wpN P md ops Q S till f (listed.setIfInBounds i true) (a.put oi.dst v) w):wpN P md ops Q S till (f+1) listed a w:=
 wpN_first0 hi (Region.noSelect_spec hs) hQ hti f listed a w (Region.free_spec hi hf) (by simpa using hr) hy hS h
theorem wpN_one {i:Nat} {o:Oper} {f:Nat} {listed:Array Bool} {a:Act} {w:World} (hr:Region.ready md ops listed=[i]) (hi:ops[i]?=some o) (hti:till i=false)
 (h:∀ K:Act→World→Prop,(∀ a' w',S w'→wpN P md ops Q S till f (listed.setIfInBounds i true) a' w'→K a' w')→if Region.wanted o (yielded ops a.tmps)=true then Oper.wp P o a w K Q else K (a.put o.dst undef) w):
 wpN P md ops Q S till (f+1) listed a w:=by
 refine ⟨fun h=>absurd (hr.symm.trans h) (by simp),fun j hj=>?_⟩
 rw [hr] at hj
 have hji:j=i:=by simpa using hj
 subst hji
 exact wpOp_of hi (h _ fun a' w' hS hw=>Or.inr ⟨hti,hS,hw⟩)
theorem wpN_seq (l:List Oper) (k:Nat) {listed:Array Bool} {a:Act} {w:World} (hl:∀ j,l[j]?=ops[k+j]?) (hB:Region.seqB md ops l.length k listed=true) (h:wpList P ops Q l a w)
 (hk:till k=true∨l=[]):wpN P md ops Q S till l.length listed a w:=by
 have hA:=wpAny_of_seq l k listed a w hl hB h
 cases l with
 | nil=>exact hA
 | cons o l=>
   refine ⟨hA.1,fun i hi=>?_⟩
   have hr:Region.ready md ops listed=[k]:=by
    simp only [List.length_cons,Region.seqB,Bool.and_eq_true,decide_eq_true_eq] at hB
    exact hB.1
   rw [hr] at hi
   have hik:i=k:=by simpa using hi
   subst hik
   have htk:till i=true:=by
    rcases hk with h | h
    · exact h
    · cases h
   exact wpOp_mono (fun a' w' h'=>.inl ⟨htk,h'⟩) (hA.2 i (by rw [hr]; simp))
theorem wpN_tail {f:Nat} (k:Nat) {listed:Array Bool} {a:Act} {w:World} (hf:(ops.toList.drop k).length=f) (hB:Region.seqB md ops f k listed=true) (hk:till k=true) (h:wpList P ops Q (ops.toList.drop k) a w):
 wpN P md ops Q S till f listed a w:=by
 subst hf
 exact wpN_seq _ k (fun j=>by rw [List.getElem?_drop,Array.getElem?_toList]) hB h (.inl hk)
theorem wp_region_N {id:Nat} {a:Act} {w:World} (S:World→Prop) (till:Nat→Bool) (hm:P.follows .mixedOrders=true) (h:wpN P .any ops Q S till ops.size (Array.replicate ops.size false) a w.drew):
 (Code.region id ops true).wp P Q a w:=wp_region_any hm (wpN_any _ _ _ _ h)
end
end Go.Proofs.YtkogifmjbmnpgaaGreat.Rn
namespace Go.Proofs.YtkogifmjbmnpgaaGreat.Rw
open Go Go.RowKit Hp Fl
section
variable {P:Program}
theorem step_app {ops:Array Oper} {o:Oper} {a:Act} {w:World} {K:Act→World→Prop} {Q:Exit→Act→World→Prop} {E:Prop}
 (hg:o.guard=none) (s x:Operand) (t:TypeId) (hop:o.op=Op.call {callee:=Callee.builtin Builtin.append,args:=#[s,x],argTypes:=#[t,t]})
 (vs vx:Value) (hs:a.eval s=vs) (hx:a.eval x=vx) {v:Value} {w':World} (hrun:(Builtin.append_ #[t,t] o.type #[vs,vx]).run P w=.ok v w')
 (hK:K (a.put o.dst v) w'):if Region.wanted o (yielded ops a.tmps)=true then Oper.wp P o a w K Q else E:=by
 have hw:Region.wanted o (yielded ops a.tmps)=true:=by simp [Region.wanted,hg]
 rw [if_pos hw]
 unfold Oper.wp
 simp [execOp,hop,resolve,invoke,builtin,hs,hx,hrun,Result.andThen]
 exact hK
theorem run_one {α:Type} (w:World) (t ty e:TypeId) (i:TypeInfo) (z:Value) (c bytes:Nat) (ht:P.underlying t=some (.slice e)) (hi:P.info? e=some i) (hz:i.zero=some z) (hsize:i.size=c) (hby:i.bytes=bytes) (hzs:z.cells.size=c) (hsz:0<c)
 (f:α→List Value) (hf:∀ x,(f x).length=c) (h1:∀ x,∀ u∈f x,u.oneCell'=true) {A:Option Addr} {cap n:Nat} {xs:List α} (hn:xs.length=n) (h:Row w e c f A cap xs) (y:α) (ad:Addr) (cx:Nat)
 (hc:∀ (j:Nat) (u:Value),(f y)[j]?=some u→w.cell? (ad.add j)=some u) (h63:n+1≤maxLen) (hbytes:(n+1)*bytes≤140737488355328):
 ∃ A' cap' w',(Builtin.append_ #[t,t] ty #[.slice A n cap,.slice (some ad) 1 cx]).run P w=.ok (.slice A' (n+1) cap') w'∧Row w' e c f A' cap' (xs++[y])∧Only (In A) w w'∧∀ b,In A' b→In A b∨w.heap.size≤b:=by
 subst hn
 have e1:(xs++[y]).flatMap f=xs.flatMap f++f y:=by simp
 obtain ⟨v',w',hrun,hown,hg,_,hat⟩:=run_append_own_at (P:=P) w 0 t ty e i z c bytes ht hi hz hsize hby hzs hsz (.slice A xs.length cap) xs.length (xs.flatMap f) h ad 1 cx (f y) (by rw [hf,Nat.one_mul]) hc (h1 y) h63 hbytes (Nat.zero_le _)
 obtain ⟨A',cap',rfl⟩:=own_slice hown
 refine ⟨A',cap',w',hrun,?_,(Only.refl (In A) w).grown hg (fun b hb=>.inl (by rw [own_block] at hb; exact hb)),fun b hb=>?_⟩
 · rw [Row,e1,List.length_append]
   exact hown
 · rw [own_block,own_block] at hat
   rcases hat with q | q
   · exact .inl (by rw [In,← q]; exact hb)
   · refine .inr ?_
     rw [In,q] at hb
     injection hb with hb
     omega
end
end Go.Proofs.YtkogifmjbmnpgaaGreat.Rw
namespace Go.Proofs.YtkogifmjbmnpgaaGreat.Sw
open Go Go.RowKit Hp K Fl Rw Hm Ar Mm Me Qs Wk Pn
set_option maxRecDepth 100000
section
variable {w w':World} {M:Mo} {a:Sc} {G:Sh}
theorem toNext_nx (G:Sh):(toNext G).nx≠5∧(toNext G).nx≠9:=by
 unfold toNext
 simp only
 split<;>omega
theorem toStore_nx (G:Sh):(toStore G).nx≠5∧(toStore G).nx≠9:=by
 unfold toStore
 split
 · split
   · exact toNext_nx G
   · simp
 · simp
theorem endFirst_nx (G:Sh):(endFirst G).nx≠5∧(endFirst G).nx≠9:=by
 unfold endFirst
 split
 · exact toStore_nx _
 · split
   · exact toStore_nx _
   · simp
theorem come_at {w2:World} {x:Nat} (hO:Own w2 a (comeTo G x)) (hm:a.mv=.map (some a.B)) (hM:Me.Met w2 a.B G.met):ShAt w2 a (comeTo G x):=by
 refine ⟨hO,fun _=>⟨hm,?_⟩,fun q=>?_⟩
 · unfold comeTo at*
   split
   · rename_i hq
     rename_i q
     rw [if_pos hq] at q
     exact absurd q (endFirst_nx G).1
   · exact hM
 · unfold comeTo at q
   split at q
   · exact absurd q (endFirst_nx G).2
   · simp at q
set_option maxHeartbeats 4000000 in
theorem loadSecond_step (hM:MemAt w M) (h:ShAt w a G) (hx:G.el.2+(G.bucket+G.nw.1)<M.xs.length) (he:G.el.2≤4000000) (hb:G.bucket≤1000000) (hn:G.nw.1≤100000) (hf:G.fi≤18446744073709551615):
 Calls Tryz.prog 173 #[ptr a.f,ptr M.m] w fun e w'=>e=.returned (.bool false)∧shL.Stp w M a G (lm M) (begun {G with sec:=(Cl.nth M.xs (G.el.2+(G.bucket+G.nw.1))).toNat}) w':=by
 have hsb:(Cl.nth M.xs (G.el.2+(G.bucket+G.nw.1))).toNat≤18446744073709551615:=by
  have:=Cl.getD_bd hM.2.1.2.2.1 (G.el.2+(G.bucket+G.nw.1))
  omega
 have hBg:=fun n=>begin_any (hM.drewN n) (h.drewN n).blk (G.bucket+G.nw.1) (by omega) hx he
 have e2:((G.bucket+G.nw.1:Nat):Int)=(G.bucket:Int)+(G.nw.1:Int):=by omega
 rw [e2] at hBg
 have ew:IntKind.i64.wrap ((G.bucket:Int)+(G.nw.1:Int))=(G.bucket:Int)+(G.nw.1:Int):=IntWalk.i64_in _ (by omega)
 generalize (Cl.nth M.xs (G.el.2+(G.bucket+G.nw.1))).toNat=z at*
 have c6:=h.blk.cell 6
 have c9:=h.blk.cell 9
 simp only [shc,List.getElem?_toArray,List.getElem?_cons_succ,List.getElem?_cons_zero] at c6 c9
 have HM:=Lib.hid hM
 have HG:=Lib.hid h
 replace hBg:=Lib.hid hBg
 replace hsb:=Lib.hid hsb
 clear hM h hx e2
 go_enter Tryz.func173,Tryz.ntmps173
 go_wp2_with fail
 go_region_held3 (fun w'=>w'.cell? ⟨a.f,6,none⟩=some (.int .i64 G.nw.1)∧w'.cell? ⟨a.f,9,none⟩=some (.int .i64 G.bucket)) ((go_split_ands; (refine ⟨?_,?_⟩<;>simp [World.cell?_setCell_other, *])))
  (first
    | (go_at_call 172
       refine (hBg.out 1).mono ?_
       rintro e w1 ⟨rfl,n,hw⟩
       have hG1:Own w1 a G:=by rw [hw]; exact Blk.only (Blk.only HG.out.blk ((Only.refl (fun _=>False) w).drewN 1) (by simp)) ((Only.refl (fun _=>False) _).drewN n) (by simp)
       have hO1:Only (·=a.f) w w1:=by rw [hw]; exact ((Only.refl _ w).drewN 1).drewN n
       have p6:=hG1.cell 6
       have p9:=hG1.cell 9
       have p11:=hG1.cell 11
       have y11:=hG1.frozen 11
       simp only [shc,List.getElem?_toArray,List.getElem?_cons_succ,List.getElem?_cons_zero] at p6 p9 p11
       replace hG1:=Lib.hid hG1
       replace hO1:=Lib.hid hO1
       clear hw hBg c6 c9))
 have hB2:Own (w1.setCell ⟨a.f,11,none⟩ (.int .u64 z)) a {G with sec:=z}:=hG1.out.store 11 (.int .u64 z)
 have hO2:=hO1.out.trans (only1 (c:=a.f) w1 11 (.int .u64 z))
 generalize w1.setCell ⟨a.f,11,none⟩ (.int .u64 (z:Int))=w2 at*
 clear p6 p9 p11 y11 hG1 hO1
 have c10:=hB2.cell 10
 have c11:=hB2.cell 11
 have c13:=hB2.cell 13
 have c14:=hB2.cell 14
 have z13:=hB2.frozen 13
 have z14:=hB2.frozen 14
 simp only [shc,List.getElem?_toArray,List.getElem?_cons_succ,List.getElem?_cons_zero] at c10 c11 c13 c14
 have hEnd:Hid (∀ w3,Own w3 a (toStore {G with sec:=z})→Only (·=a.f) w2 w3→shL.Stp w M a G (lm M) (toStore {G with sec:=z}) w3):=Lib.hid fun w3 h3 h4=>
  stp_same HM.out (a':=a) (ShAt.plain h3 (toStore_nx _)) rfl (sfoot_plain (toStore_nx _)) HG.out (hO2.trans h4) (fun x q=>.inl q)
 by_cases h0:G.fi=0
 · have e:Hid (begun {G with sec:=z}=toStore {G with sec:=z}):=Lib.hid (by unfold begun; rw [if_pos (.inl h0)])
   rw [h0] at c10
   have hN:=Lib.hid (toStore_any hB2 (by show G.bucket≤_; omega) (by show G.nw.1≤_; omega))
   clear hB2 hO2 h0
   go_wp2_with fail
   refine hN.out.mono ?_
   rintro e w3 ⟨rfl,hO3,hY3⟩
   have hS:=Lib.hid (hEnd.out w3 hO3 hY3)
   clear hN hO3 hY3 hEnd c10 c11 c13 c14 z13 z14
   go_wp2_with fail
   go_ret
   exact ⟨rfl,by rw [e.out]; exact hS.out⟩
 have q0:((G.fi:Int)==0)=false:=by simp; omega
 by_cases h1:z=0
 · have e:Hid (begun {G with sec:=z}=toStore {G with sec:=z}):=Lib.hid (by unfold begun; rw [if_pos (.inr h1)])
   have hN:=Lib.hid (toStore_any hB2 (by show G.bucket≤_; omega) (by show G.nw.1≤_; omega))
   rw [h1] at c11
   clear hB2 hO2 h0 h1
   go_wp2_with fail
   refine hN.out.mono ?_
   rintro e w3 ⟨rfl,hO3,hY3⟩
   have hS:=Lib.hid (hEnd.out w3 hO3 hY3)
   clear hN hO3 hY3 hEnd c10 c11 c13 c14 z13 z14
   go_wp2_with fail
   go_ret
   exact ⟨rfl,by rw [e.out]; exact hS.out⟩
 have q1:((z:Int)==0)=false:=by simp; omega
 have e:Hid (begun {G with sec:=z}=comeTo {G with sec:=z,la:=0,met:=[]} G.fi):=Lib.hid (by unfold begun; rw [if_neg (by simp [h0,h1])])
 clear h0 h1 hEnd
 obtain ⟨B,hB⟩:∃ B,B=w2.heap.size:=⟨_,rfl⟩
 have hmm:=@run_makeMap Tryz.prog
 have hB3:Own (w2.alloc (.map #[] 0)) a {G with sec:=z}:=Blk.only hB2 ((Only.refl (fun _=>False) w2).alloc _) (by simp)
 have hM3:Me.Met (w2.alloc (.map #[] 0)) B []:=by rw [hB]; exact Me.Met.made w2
 have hB4:Own (((w2.alloc (.map #[] 0)).setCell ⟨a.f,13,none⟩ (.int .u64 0)).setCell ⟨a.f,14,none⟩ (.map (some B))) {a with mv:=.map (some B),B:=B} {G with sec:=z,la:=0,met:=[]}:=(hB3.store 13 (.int .u64 0)).store 14 (.map (some B))
 have hO4:=only2 (c:=a.f) (w2.alloc (.map #[] 0)) 13 14 (.int .u64 0) (.map (some B))
 have hM4:=hM3.only hO4 (own_B hB3 hM3)
 have hO5:=Lib.hid ((hO2.alloc (.map #[] 0)).trans hO4)
 have g10:=hB4.cell 10
 simp only [shc,List.getElem?_toArray,List.getElem?_cons_succ,List.getElem?_cons_zero] at g10
 have hC:=Lib.hid (comeTo_any hB4 rfl hM4 (by show z≤_; exact hsb.out) (by show G.bucket≤_; omega) (by show G.nw.1≤_; omega) hf)
 have hlt:Hid (w.heap.size≤B):=Lib.hid (by rw [hB]; exact hO2.size)
 have hne:=Lib.hid (own_B hB4 hM4)
 replace hM4:=Lib.hid hM4
 have k13:=hB3.cell 13
 have k14:=hB3.cell 14
 have y13:=hB3.frozen 13
 have y14:=hB3.frozen 14
 simp only [shc,List.getElem?_toArray,List.getElem?_cons_succ,List.getElem?_cons_zero] at k13 k14
 clear hB2 hO2 hB3 hM3 hB4 hO4
 rw [hB] at g10
 go_wp2_with fail
 rw [← hB]
 clear hmm hB c10 c11 c13 c14 z13 z14 k13 k14 y13 y14
 refine hC.out.mono ?_
 rintro e w3 ⟨rfl,hO3,hY3⟩
 have hS:Hid (shL.Stp w M a G (lm M) (comeTo {G with sec:=z,la:=0,met:=[]} G.fi) w3):=Lib.hid (by
  have hA:=come_at hO3 rfl (hM4.out.only hY3 hne.out)
  refine stp_same HM.out (a':={a with mv:=.map (some B),B:=B}) hA rfl ?_ HG.out (hO5.out.trans hY3) (fun x q=>.inl q)
  rintro x (q | ⟨_,q⟩ | ⟨q,_⟩)
  · exact .inl (.inl q)
  · rw [q]; exact .inr hlt.out
  · exfalso
    unfold comeTo at q
    split at q
    · exact (endFirst_nx _).2 q
    · simp at q)
 clear hC hO3 hY3 g10
 go_wp2_with fail
 go_ret
 exact ⟨rfl,by rw [e.out]; exact hS.out⟩
end
end Go.Proofs.YtkogifmjbmnpgaaGreat.Sw
namespace Go.Proofs.YtkogifmjbmnpgaaGreat.Sw
open Go Go.RowKit Hp K Fl Rw Hm Ar Mm Me Qs Wk Pn
set_option maxRecDepth 100000
section
variable {w w':World} {M:Mo} {a:Sc} {G:Sh}
def Lkd (w wx:World) (nd:Nd) (p e:Value):Prop:=
 ∃ b,p=ptr b∧e=.int .i64 0∧w.heap.size≤b∧Blk wx b 99 #[.string nd.key,.string nd.val,.int .u32 nd.sum,.int .u64 nd.next]∧Below w.heap.size w wx
theorem met_run {B:Nat} {ms:List Nat} (h:Me.Met w B ms) (hl:ms.length≤1000000) {y:Nat} (hy:y≤18446744073709551615):
 ∃ w',(Instr.mapUpdate 121 (.map (some B)) (.int .u64 y) (.bool true)).run Tryz.prog w=.ok () w'∧Me.Met w' B (y::ms)∧Only (·=B) w w':=by
 obtain ⟨n,D,hM,hn,hat⟩:=h
 obtain ⟨w',hrun,hM',hg⟩:=hM.update keyed Tryz.underlying121 (by unfold maxLen; omega) (mkey hy) (plainElem_bool Tryz.underlying4 true)
 exact ⟨w',hrun,met_put hy hM hM' hn hat,(Only.refl (·=B) w).grown hg (fun z hz=>.inl (by injection hz with hz; exact hz.symm))⟩
set_option maxHeartbeats 4000000 in
theorem read_step (hM:MemAt w M) (h:ShAt w a G) (h5:G.nx=5) (live:IsAt M.ss G.at_ ((G.at_-1) % 65536)) (hat:G.at_≤18446744073709551615) (hnx:0≤(at' M.ss ((G.at_-1) % 65536)).nd.next∧(at' M.ss ((G.at_-1) % 65536)).nd.next≤18446744073709551615)
 (hml:G.met.length≤100000) (hsec:G.sec≤18446744073709551615) (hb:G.bucket≤1000000) (hn:G.nw.1≤1000000):
 Calls Tryz.prog 197 #[ptr a.f,ptr M.m] w fun e w'=>e=.returned (.bool false)∧shL.Stp w M a G (lm M) (comeTo {G with la:=G.at_,met:=G.at_::G.met} (at' M.ss ((G.at_-1) % 65536)).nd.next.toNat) w':=by
 have hR:=Lib.hid (fun (w1:World) (hb1:Below w.heap.size w w1)=>(read_ok (hM.below hb1).2.2.2.1 hat live).mono fun e w2 q=>show e=.returned (.tuple #[ndv (at' M.ss ((G.at_-1) % 65536)).nd,.int .i64 0])∧(Below w.heap.size w w2∧Below w1.heap.size w1 w2) from
  ⟨q.1,hb1.trans (q.2.mono hb1.size),q.2⟩)
 obtain ⟨hmv,hMet⟩:=h.c5 h5
 generalize hnd:(at' M.ss ((G.at_-1) % 65536)).nd=nd at*
 have c12:=h.blk.cell 12
 simp only [shc,List.getElem?_toArray,List.getElem?_cons_succ,List.getElem?_cons_zero] at c12
 have d2:=hM.hd.2.2.1
 have lM:=hM.1.lt
 have lG:=h.blk.lt
 have HM:=Lib.hid hM
 have HG:=Lib.hid h
 have nm:=World.new_ne w ⟨M.m,2,none⟩ d2
 have nw:=World.new_ne w ⟨a.f,12,none⟩ c12
 unfold ndv at hR
 replace live:=Lib.hid live
 replace hnx:=Lib.hid hnx
 replace hml:=Lib.hid hml
 replace hsec:=Lib.hid hsec
 replace hb:=Lib.hid hb
 replace hn:=Lib.hid hn
 replace hat:=Lib.hid hat
 replace h5:=Lib.hid h5
 replace hMet:=Lib.hid hMet
 replace hmv:=Lib.hid hmv
 replace hnd:=Lib.hid hnd
 clear hM h
 go_enter Tryz.func197,Tryz.ntmps197
 go_upto_region 1 with (fail)
 go_cut [5,6] (fun p e wx=>Lkd w wx nd p e)
 case first=>
  go_region_held3 (fun w'=>w'.cell? ⟨M.m,2,none⟩=some (ptr M.ar)∧w'.cell? ⟨a.f,12,none⟩=some (.int .u64 G.at_)) (go_keep)
   (first
     | (go_at_call 45
        refine (hR.out w.drew ⟨rfl,rfl,rfl,Nat.le_refl _,fun _ _=>rfl⟩).mono ?_
        rintro e w2 ⟨rfl,hb2,_⟩
        have d2':=(hb2.cell (p:=⟨M.m,2,none⟩) lM).trans d2
        have c12':=(hb2.cell (p:=⟨a.f,12,none⟩) lG).trans c12
        have hs2:=hb2.size
        replace hb2:=Lib.hid hb2)
     | (go_at_call 45
        refine (hR.out (w.alloc (.cells #[.string ⟨#[]⟩,.string ⟨#[]⟩,.int .u32 0,.int .u64 0] 99)).drew (((Below.refl w.heap.size w).alloc (Nat.le_refl _) _).trans ⟨rfl,rfl,rfl,by simp,fun _ _=>rfl⟩)).mono ?_
        rintro e w2 ⟨rfl,hb2,hb3⟩
        have hB2:Blk w2 w.heap.size 99 #[.string ⟨#[]⟩,.string ⟨#[]⟩,.int .u32 0,.int .u64 0]:=Blk.only (w:=(w.alloc (.cells #[.string ⟨#[]⟩,.string ⟨#[]⟩,.int .u32 0,.int .u64 0] 99)).drew) (Blk.made w _ _) (Only.ofBelow hb3 (fun _=>False)) (by simp)
        have d2':=(hb2.cell (p:=⟨M.m,2,none⟩) lM).trans d2
        have c12':=(hb2.cell (p:=⟨a.f,12,none⟩) lG).trans c12
        have hs2:=hb2.size
        have k0:=hB2.cell 0
        have k1:=hB2.cell 1
        have k2:=hB2.cell 2
        have k3:=hB2.cell 3
        simp at k0 k1 k2 k3
        have y0:=hB2.frozen 0
        have y1:=hB2.frozen 1
        have y2:=hB2.frozen 2
        have y3:=hB2.frozen 3
        replace hb2:=Lib.hid hb2
        replace hB2:=Lib.hid hB2))
  all_goals
   go_wp2_with fail
   go_meet
   first
    | exact ⟨_,rfl,rfl,hs2,Blk.made w2 _ _,hb2.out.alloc hs2 _⟩
    | exact ⟨_,rfl,rfl,Nat.le_refl _,(((hB2.out.store 0 _).store 1 _).store 2 _).store 3 _,(((hb2.out.setCell (p:=⟨w.heap.size,0,none⟩) (Nat.le_refl _) _).setCell (p:=⟨w.heap.size,1,none⟩) (Nat.le_refl _) _).setCell (p:=⟨w.heap.size,2,none⟩) (Nat.le_refl _) _).setCell (p:=⟨w.heap.size,3,none⟩) (Nat.le_refl _) _⟩
 case rest=>
  obtain ⟨b,rfl,rfl,hb0,hB,hb1⟩:=hcut
  clear hR c12 d2 nm nw
  have hG1:Own wc a G:=HG.out.blk.only (Only.ofBelow hb1 (fun _=>False)) (by simp)
  have hM1:Me.Met wc a.B G.met:=hMet.out.only (Only.ofBelow hb1 (fun _=>False)) (by simp)
  have c12:=hG1.cell 12
  have c13:=hG1.cell 13
  have z13:=hG1.frozen 13
  simp only [shc,List.getElem?_toArray,List.getElem?_cons_succ,List.getElem?_cons_zero] at c12 c13
  obtain ⟨z,hz⟩:=Int.eq_ofNat_of_zero_le hnx.out.1
  rw [hz] at hB
  have hzb:=Lib.hid (show z≤18446744073709551615 by have:=hnx.out; omega)
  have hnz:Hid (nd.next.toNat=z):=Lib.hid (by rw [hz]; rfl)
  have hG2:Own (wc.setCell ⟨a.f,13,none⟩ (.int .u64 G.at_)) a {G with la:=G.at_}:=hG1.store 13 (.int .u64 G.at_)
  have hO2:=only1 (c:=a.f) wc 13 (.int .u64 G.at_)
  have hBf:=own_B hG1 hM1
  have hM2:=hM1.only hO2 hBf
  have hbf:b≠a.f:=fun e=>by have:=HG.out.blk.lt; omega
  have hbB:b≠a.B:=fun e=>by have:=hMet.out.lt; omega
  have hN2:=hB.only hO2 hbf
  have hOw:=(Only.ofBelow hb1 (sfoot a G)).trans' hO2 (fun x _ q=>.inl q)
  replace hG1:=Lib.hid hG1
  replace hM1:=Lib.hid hM1
  replace hB:=Lib.hid hB
  replace hb1:=Lib.hid hb1
  replace hG2:=Lib.hid hG2
  replace hO2:=Lib.hid hO2
  replace hM2:=Lib.hid hM2
  replace hN2:=Lib.hid hN2
  replace hOw:=Lib.hid hOw
  go_upto_region 6 with (fail)
  generalize wc.setCell ⟨a.f,13,none⟩ (.int .u64 (G.at_:Int))=w2 at*
  clear c12 c13 z13 hG1 hM1 hB hb1 hO2
  have c12:=hG2.out.cell 12
  have c14:=hG2.out.cell 14
  simp only [shc,List.getElem?_toArray,List.getElem?_cons_succ,List.getElem?_cons_zero,hmv.out] at c12 c14
  obtain ⟨w3,hrun,hM3,hO3⟩:=met_run (hM2.out.only ((Only.refl (fun _=>False) w2).drew) (by simp)) (by have:=hml.out; omega) hat.out
  have hG3:Own w3 a {G with la:=G.at_,met:=G.at_::G.met}:=(hG2.out.only ((Only.refl (fun _=>False) w2).drew) (by simp)).only hO3 hBf.symm
  have hN3:=(hN2.out.only ((Only.refl (fun _=>False) w2).drew) (by simp)).only hO3 hbB
  have p12:=hG3.cell 12
  have p14:=hG3.cell 14
  have k3:=hN3.cell 3
  simp only [shc,List.getElem?_toArray,List.getElem?_cons_succ,List.getElem?_cons_zero,hmv.out] at p12 p14 k3
  have hC:=Lib.hid (comeTo_any hG3 hmv.out hM3 hsec.out hb.out hn.out hzb.out)
  have hOw3:=Lib.hid ((hOw.out.drew).trans' hO3 (fun x _ q=>.inr (.inl ⟨h5.out,q⟩)))
  replace hM3:=Lib.hid hM3
  clear hO3 hG3 hN3
  go_region_held3 (fun w'=>w'.cell? ⟨a.f,12,none⟩=some (.int .u64 G.at_)∧w'.cell? ⟨a.f,14,none⟩=some (.map (some a.B))) (go_keep)
   (fail)
  clear hrun c12 c14 p12 p14
  go_wp2_with fail
  refine hC.out.mono ?_
  rintro e w4 ⟨rfl,hG4,hO4⟩
  have hS:Hid (shL.Stp w M a G (lm M) (comeTo {G with la:=G.at_,met:=G.at_::G.met} z) w4):=Lib.hid (by
   have hA:=come_at hG4 hmv.out (hM3.out.only hO4 hBf)
   refine stp_same HM.out (a':=a) hA rfl ?_ HG.out (hOw3.out.trans' hO4 (fun x _ q=>.inl q)) (fun x q=>q)
   rintro x (q | ⟨_,q⟩ | ⟨q,_⟩)
   · exact .inl (.inl q)
   · exact .inl (.inr (.inl ⟨h5.out,q⟩))
   · exfalso
     unfold comeTo at q
     split at q
     · exact (endFirst_nx _).2 q
     · simp at q)
  clear hC hG4 hO4 k3
  go_wp2_with fail
  go_ret
  exact ⟨rfl,by rw [hnz.out]; exact hS.out⟩
end
end Go.Proofs.YtkogifmjbmnpgaaGreat.Sw
namespace Go.Proofs.YtkogifmjbmnpgaaGreat.Sw
open Go Go.RowKit Hp K Fl Rw Hm Ar Mm Me Qs Wk Pn
set_option maxRecDepth 100000
section
variable {w w':World} {M:Mo} {a:Sc} {G:Sh}
theorem lnk_eq {ss:List Sl} {x y k:Nat} (hl:ss.length≤1024) (hk:IsAt ss x k):Pu.lnk ss x y=ss.set k {at' ss k with nd:={(at' ss k).nd with next:=(y:Int)}}:=by
 unfold Pu.lnk
 rw [(isAt_parts hl hk).1]
def Linked (w:World) (M:Mo) (a:Sc) (G:Sh) (x y:Nat) (w':World):Prop:=MemAt w' {M with ss:=Pu.lnk M.ss x y}∧ShAt w' a G∧Only (mfoot M) w w'
theorem linked_any (hM:MemAt w M) (h:ShAt w a G) {x k:Nat} (hx:x≤18446744073709551615) (hk:IsAt M.ss x k) (y:Nat) (w1:World) (h0:Only (fun _=>False) w w1):
 Calls Tryz.prog 144 #[ptr M.ar,.int .u64 x,.int .u64 y] w1 fun e w'=>e=.returned (.int .i64 0)∧Linked w M a G x y w':=by
 have hM0:MemAt w1 M:=hM.only h0 (by simp)
 refine (link_ok hM0.2.2.2.1 hx hk (y:Int)).mono fun e w' q=>?_
 have ho:Only (mfoot M) w w':=(h0.mono (fun x _ q=>q.elim)).trans' q.2.2 (fun x _ q=>.inr (.inr (.inr (.inl q))))
 refine ⟨q.1,?_,h.only ho (fun x hx q=>h.far hM hx q),ho⟩
 rw [lnk_eq hM.2.2.2.1.room.2 hk]
 exact hM0.arena q.2.1 q.2.2
set_option maxHeartbeats 2000000 in
theorem join_step (hM:MemAt w M) (h:ShAt w a G) {k:Nat} (hx:G.la≤18446744073709551615) (hk:IsAt M.ss G.la k) (hb:G.bucket≤1000000) (hn:G.nw.1≤1000000):
 Calls Tryz.prog 202 #[ptr a.f,ptr M.m] w fun e w'=>e=.returned (.bool false)∧shL.Stp w M a G {lm M with ss:=Pu.lnk M.ss G.la G.sec} (toStore G) w':=by
 have hLk:=Lib.hid (linked_any hM h hx hk G.sec)
 have c11:=h.blk.cell 11
 have c13:=h.blk.cell 13
 simp only [shc,List.getElem?_toArray,List.getElem?_cons_succ,List.getElem?_cons_zero] at c11 c13
 have d2:=hM.hd.2.2.1
 have HM:=Lib.hid hM
 have HG:=Lib.hid h
 clear hM h
 go_enter Tryz.func202,Tryz.ntmps202
 go_wp2_with fail
 go_region_held3 (fun w'=>w'.cell? ⟨M.m,2,none⟩=some (ptr M.ar)∧w'.cell? ⟨a.f,11,none⟩=some (.int .u64 G.sec)∧w'.cell? ⟨a.f,13,none⟩=some (.int .u64 G.la)) (go_keep)
  (first
    | (go_at_call 144
       refine (hLk.out (w.drewN 1) ((Only.refl (fun _=>False) w).drewN 1)).mono ?_
       rintro e w1 ⟨rfl,hM1,hG1,hOw⟩
       have p11:=hG1.blk.cell 11
       have p13:=hG1.blk.cell 13
       have p2:=hM1.hd.2.2.1
       simp only [shc,List.getElem?_toArray,List.getElem?_cons_succ,List.getElem?_cons_zero] at p11 p13
       have hT:=Lib.hid (toStore_any hG1.blk hb hn)
       replace hM1:=Lib.hid hM1
       replace hG1:=Lib.hid hG1
       replace hOw:=Lib.hid hOw
       clear hLk))
 clear p11 p13 p2
 go_wp2_with fail
 refine hT.out.mono ?_
 rintro e w2 ⟨rfl,hB2,hO2⟩
 have hE:Hid (shL.Stp w M a G {lm M with ss:=Pu.lnk M.ss G.la G.sec} (toStore G) w2):=Lib.hid
  ⟨_,a,hM1.out.only hO2 (fun x hx e=>hG1.out.far hM1.out (x:=a.f) (.inl rfl) (e▸hx)),rfl,⟨rfl,rfl,rfl,rfl,fun x q=>.inl q⟩,ShAt.plain hB2 (toStore_nx _),rfl,sfoot_plain (toStore_nx _),
   (hOw.out.mono (fun x _ q=>(.inl q:mfoot M x∨sfoot a G x))).trans' hO2 (fun x _ q=>.inr (.inl q))⟩
 clear hB2 hO2 hT
 go_wp2_with fail
 go_ret
 exact ⟨rfl,hE.out⟩
def Stored (w:World) (M:Mo) (a:Sc) (G:Sh) (k x:Nat) (w':World):Prop:=MemAt w' {M with xs:=M.xs.set k (x:Int)}∧ShAt w' a G∧Only (mfoot M) w w'
theorem stored_any (hM:MemAt w M) (h:ShAt w a G) (k:Nat) (hk:k<M.xs.length) (x:Nat) (hx:x≤18446744073709551615) (w1:World) (h0:Only (fun _=>False) w w1):
 Calls Tryz.prog 52 #[ptr M.g,.int .i64 k,.int .u64 x] w1 fun e w'=>e=.returned (.int .i64 0)∧Stored w M a G k x w':=
 (Cl.store_in (hM.only h0 (by simp)).2.1 k hk (x:Int) (by omega) (by omega)).mono fun e w' q=>by
   have ho:Only (mfoot M) w w':=(h0.mono (fun x _ q=>q.elim)).trans' q.2.2 (fun x _ q=>.inr (.inl q))
   exact ⟨q.1,(hM.only h0 (by simp)).cells q.2.1 q.2.2,h.only ho (fun x hx q=>h.far hM hx q),ho⟩
set_option maxHeartbeats 2000000 in
theorem store_step (hM:MemAt w M) (h:ShAt w a G) (hx:G.nw.2+G.bucket<M.xs.length) (hf:G.fi≤18446744073709551615) (hw:G.nw.2≤4000000) (hb:G.bucket≤1000000) (hn:G.nw.1≤1000000):
 Calls Tryz.prog 195 #[ptr a.f,ptr M.m] w fun e w'=>e=.returned (.bool false)∧shL.Stp w M a G {lm M with xs:=M.xs.set (G.nw.2+G.bucket) ((G.fi:Nat):Int)} (toNext G) w':=by
 have hSt:=stored_any hM h (G.nw.2+G.bucket) hx G.fi hf
 have e1:((G.nw.2+G.bucket:Nat):Int)=(G.nw.2:Int)+(G.bucket:Int):=by omega
 rw [e1] at hSt
 have ew:IntKind.i64.wrap ((G.nw.2:Int)+(G.bucket:Int))=(G.nw.2:Int)+(G.bucket:Int):=IntWalk.i64_in _ (by omega)
 have c7:=h.blk.cell 7
 have c9:=h.blk.cell 9
 have c10:=h.blk.cell 10
 simp only [shc,List.getElem?_toArray,List.getElem?_cons_succ,List.getElem?_cons_zero] at c7 c9 c10
 have d0:=hM.hd.1
 replace hSt:=Lib.hid hSt
 have HM:=Lib.hid hM
 have HG:=Lib.hid h
 clear hM h hx e1
 go_enter Tryz.func195,Tryz.ntmps195
 go_wp2_with fail
 go_region_held3 (fun w'=>w'.cell? ⟨M.m,0,none⟩=some (ptr M.g)∧w'.cell? ⟨a.f,7,none⟩=some (.int .i64 G.nw.2)∧w'.cell? ⟨a.f,9,none⟩=some (.int .i64 G.bucket)∧w'.cell? ⟨a.f,10,none⟩=some (.int .u64 G.fi)) (go_keep)
  (first
    | (go_at_call 52
       refine (hSt.out (w.drewN 1) ((Only.refl (fun _=>False) w).drewN 1)).mono ?_
       rintro e w1 ⟨rfl,hM1,hG1,hOw⟩
       have p7:=hG1.blk.cell 7
       have p9:=hG1.blk.cell 9
       have p10:=hG1.blk.cell 10
       have p0:=hM1.hd.1
       simp only [shc,List.getElem?_toArray,List.getElem?_cons_succ,List.getElem?_cons_zero] at p7 p9 p10
       have hT:=Lib.hid (toNext_any hG1.blk hb hn)
       replace hM1:=Lib.hid hM1
       replace hG1:=Lib.hid hG1
       replace hOw:=Lib.hid hOw
       clear hSt))
 clear p7 p9 p10 p0
 go_wp2_with fail
 refine hT.out.mono ?_
 rintro e w2 ⟨rfl,hB2,hO2⟩
 have hE:Hid (shL.Stp w M a G {lm M with xs:=M.xs.set (G.nw.2+G.bucket) ((G.fi:Nat):Int)} (toNext G) w2):=Lib.hid
  ⟨_,a,hM1.out.only hO2 (fun x hx e=>hG1.out.far hM1.out (x:=a.f) (.inl rfl) (e▸hx)),rfl,⟨rfl,rfl,rfl,rfl,fun x q=>.inl q⟩,ShAt.plain hB2 (toNext_nx _),rfl,sfoot_plain (toNext_nx _),
   (hOw.out.mono (fun x _ q=>(.inl q:mfoot M x∨sfoot a G x))).trans' hO2 (fun x _ q=>.inr (.inl q))⟩
 clear hB2 hO2 hT
 go_wp2_with fail
 go_ret
 exact ⟨rfl,hE.out⟩
set_option maxHeartbeats 2000000 in
theorem count_step (hM:MemAt w M) (h:ShAt w a G) (hx:1<M.xs.length) (hn:0≤G.num∧G.num≤1000000):
 Calls Tryz.prog 201 #[ptr a.f,ptr M.m] w fun e w'=>e=.returned (.bool false)∧shL.Stp w M a G {lm M with xs:=M.xs.set 1 G.num} {G with W:=⟨G.worker,0,0,0⟩,nx:=9} w':=by
 obtain ⟨z,hz⟩:=Int.eq_ofNat_of_zero_le hn.1
 have c8:=h.blk.cell 8
 simp only [shc,List.getElem?_toArray,List.getElem?_cons_succ,List.getElem?_cons_zero] at c8
 have hSt:=stored_any hM h 1 hx z (by omega)
 rw [hz] at c8
 have ez:IntKind.u64.wrap (z:Int)=z:=by rw [IntKind.wrap_u64]; omega
 have d0:=hM.hd.1
 replace hSt:=Lib.hid hSt
 have hSy:=Lib.hid (sync_any G.worker)
 have HM:=Lib.hid hM
 have HG:=Lib.hid h
 replace hz:=Lib.hid hz
 clear h hM hn
 go_enter Tryz.func201,Tryz.ntmps201
 go_wp2_with fail
 go_region_held3 (fun w'=>w'.cell? ⟨M.m,0,none⟩=some (ptr M.g)∧w'.cell? ⟨a.f,8,none⟩=some (.int .i64 z)) (go_keep)
  (first
    | (go_at_call 52
       refine (hSt.out (w.drewN 1) ((Only.refl (fun _=>False) w).drewN 1)).mono ?_
       rintro e w1 ⟨rfl,hM1,hG1,hOw⟩
       have p0:=hG1.blk.cell 0
       have p8:=hG1.blk.cell 8
       have p00:=hM1.hd.1
       simp only [shc,List.getElem?_toArray,List.getElem?_cons_succ,List.getElem?_cons_zero,hz.out] at p0 p8
       replace hM1:=Lib.hid hM1
       replace hG1:=Lib.hid hG1
       replace hOw:=Lib.hid hOw
       clear hSt))
 clear p8 p00
 go_wp2_with fail
 refine (hSy.out _).mono ?_
 rintro e w2 ⟨rfl,hW2,hb2⟩
 obtain ⟨b,hb⟩:∃ b,b=w1.heap.size:=⟨_,rfl⟩
 rw [← hb] at hW2 ⊢
 have hG2:Own w2 a G:=hG1.out.blk.only (Only.ofBelow hb2 (fun _=>False)) (by simp)
 have d1:=hG2.cell 1
 have d2:=hG2.cell 2
 have y1:=hG2.frozen 1
 have y2:=hG2.frozen 2
 simp only [shc,List.getElem?_toArray,List.getElem?_cons_succ,List.getElem?_cons_zero] at d1 d2
 have hE:Own ((w2.setCell ⟨a.f,1,none⟩ (wfm 204 (ptr b))).setCell ⟨a.f,2,none⟩ (wfm 205 (ptr b))) {a with w:=b} {G with W:=⟨G.worker,0,0,0⟩,nx:=9}:=
  (hG2.store 1 (wfm 204 (ptr b))).store 2 (wfm 205 (ptr b))
 have hO2:=only2 (c:=a.f) w2 1 2 (wfm 204 (ptr b)) (wfm 205 (ptr b))
 have hO3:=(Only.ofBelow hb2 (·=a.f)).trans hO2
 have hne:b≠a.f:=fun e=>by have:=hG1.out.blk.lt; omega
 have hW3:=hW2.only hO2 hne
 have hS:Hid (shL.Stp w M a G {lm M with xs:=M.xs.set 1 (z:Int)} {G with W:=⟨G.worker,0,0,0⟩,nx:=9} ((w2.setCell ⟨a.f,1,none⟩ (wfm 204 (ptr b))).setCell ⟨a.f,2,none⟩ (wfm 205 (ptr b)))):=Lib.hid (by
  refine ⟨_,{a with w:=b},hM1.out.only hO3 (fun x hx e=>hG1.out.far hM1.out (x:=a.f) (.inl rfl) (e▸hx)),rfl,⟨rfl,rfl,rfl,rfl,fun x q=>.inl q⟩,⟨hE,fun q=>by simp at q,fun _=>hW3⟩,rfl,fun x hx=>?_,(hOw.out.mono (fun x _ q=>(.inl q:mfoot M x∨sfoot a G x))).trans' hO3 (fun x _ q=>.inr (.inl q))⟩
  rcases hx with q | ⟨q,_⟩ | ⟨_,q⟩
  · exact .inl (.inl q)
  · simp at q
  · have hs:=hOw.out.size
    rw [q]
    exact .inr (by show w.heap.size≤b; omega))
 generalize srv a G.nx=u1 at*
 generalize snv a G.nx=u2 at*
 clear hSy hW2 hb2 hG2 hE hO2 hO3 hne hW3 p0 hb
 go_wp2_with fail
 go_ret
 exact ⟨rfl,by
  have q:=hS.out
  rw [← hz.out] at q
  exact q⟩
theorem wait_stp {n:Nat} (hM:MemAt w M) (h:ShAt w a G) (h9:G.nx=9) (hn:M.k=n) (ok:Okw n M.xs M.hs G.W) (hr:readyB M.xs M.hs G.W=true):
 Calls Tryz.prog 205 #[ptr a.w,ptr M.m] w fun e w'=>e=.returned (.bool (decide (G.W.at_=3)))∧
  shL.Stp w M a G {lm M with xs:=(wstep n M.xs M.hs G.W).1,hs:=(wstep n M.xs M.hs G.W).2.1} {G with W:=(wstep n M.xs M.hs G.W).2.2} w':=by
 have hW:=h.wt h9
 refine (wait_step hM hW hn ok hr).mono fun e w1 q=>⟨q.1,_,a,q.2.1,rfl,⟨rfl,rfl,rfl,rfl,fun x q=>.inl q⟩,⟨h.blk.only q.2.2.2 ?_,fun q=>by simp only at q; omega,fun _=>q.2.2.1⟩,rfl,fun x q=>.inl q,q.2.2.2.mono (fun x _ y=>y.imp id (fun e=>.inr (.inr ⟨h9,e⟩)))⟩
 rintro (q | q)
 · exact h.far hM (.inl rfl) q
 · exact h.blk.differ hW (by decide) q
end
end Go.Proofs.YtkogifmjbmnpgaaGreat.Sw
namespace Go.Proofs.YtkogifmjbmnpgaaGreat.Sw
open Go Go.RowKit Hp K Fl Rw Hm Ar Mm Me Qs Wk Pn
set_option maxRecDepth 100000
def newShr (k:Int):Sh:=⟨k,1,0,(0,0),(0,0),0,0,0,0,0,0,[],⟨0,0,0,0⟩⟩
theorem goOn_at {w:World} {f F:Nat} {b:Array Value} {u1 u2:Value} (c1:w.cell? ⟨f,1,none⟩=some u1) (c2:w.cell? ⟨f,2,none⟩=some u2) (z1:w.frozen? ⟨f,1,none⟩=false) (z2:w.frozen? ⟨f,2,none⟩=false):
 Calls Tryz.prog 99 #[ptr f,.func (.func F) b #[]] w fun e w'=>e=.returned (.tuple #[])∧w'=(w.setCell ⟨f,1,none⟩ (wf0 135)).setCell ⟨f,2,none⟩ (.func (.func F) b #[]):=by
 go_enter Tryz.func99,Tryz.ntmps99
 go_wp2
 go_end0
 exact ⟨rfl,rfl⟩
theorem new_shrink (k:Int) (w:World):Calls Tryz.prog 62 #[.int .i64 k] w fun e w'=>∃ a:Sc,e=.returned (ptr a.f)∧ShAt w' a (newShr k)∧(∀ x,sfoot a (newShr k) x→w.heap.size≤x)∧Below w.heap.size w w':=by
 obtain ⟨w2,hw2⟩:∃ w2,w2=w.alloc (.cells #[.int .i64 k,.nilFunc,.nilFunc,.int .i64 0,.int .i64 0,.int .i64 0,.int .i64 0,.int .i64 0,.int .i64 0,.int .i64 0,.int .u64 0,.int .u64 0,.int .u64 0,.int .u64 0,.map none] 162):=⟨_,rfl⟩
 have hF2:Blk w2 w.heap.size 162 #[.int .i64 k,.nilFunc,.nilFunc,.int .i64 0,.int .i64 0,.int .i64 0,.int .i64 0,.int .i64 0,.int .i64 0,.int .i64 0,.int .u64 0,.int .u64 0,.int .u64 0,.int .u64 0,.map none]:=by rw [hw2]; exact Blk.made w _ _
 have hB2:Below w.heap.size w w2:=by rw [hw2]; exact (Below.refl _ _).alloc (Nat.le_refl _) _
 obtain ⟨f,hf⟩:∃ f,f=w.heap.size:=⟨_,rfl⟩
 rw [← hf] at hF2
 have hfw:w.heap.size≤f:=by omega
 have hgo:=Lib.hid (goOn_at (F:=100) (b:=#[ptr f]) (hF2.cell 1) (hF2.cell 2) (hF2.frozen 1) (hF2.frozen 2))
 have hE:Hid (ShAt ((w2.setCell ⟨f,1,none⟩ (wf0 135)).setCell ⟨f,2,none⟩ (wfm 100 (ptr f))) ⟨f,.map none,0,0⟩ (newShr k)):=Lib.hid
  ⟨(hF2.store 1 (wf0 135)).store 2 (wfm 100 (ptr f)),fun q=>by simp [newShr] at q,fun q=>by simp [newShr] at q⟩
 have hlo:Hid (∀ x,sfoot ⟨f,.map none,0,0⟩ (newShr k) x→w.heap.size≤x):=Lib.hid (by
  rintro x (rfl | ⟨q,_⟩ | ⟨q,_⟩)
  · exact hfw
  · simp [newShr] at q
  · simp [newShr] at q)
 have hB:=Lib.hid ((hB2.setCell (p:=⟨f,1,none⟩) hfw (wf0 135)).setCell (p:=⟨f,2,none⟩) hfw (wfm 100 (ptr f)))
 clear hF2 hB2 hfw
 go_enter Tryz.func62,Tryz.ntmps62
 go_upto_region 2 with (fail)
 rw [← hw2,← hf]
 clear hw2 hf
 go_wp2_with fail
 refine hgo.out.mono ?_
 rintro e w1 ⟨rfl,hw1⟩
 rw [← hw1] at hE hB
 clear hw1 hgo
 go_wp2_with fail
 go_ret
 exact ⟨_,rfl,hE.out,hlo.out,hB.out⟩
theorem err_any {w:World} {a:Sc} {G:Sh} (h:ShAt w a G):Calls Tryz.prog 63 #[ptr a.f] w fun e w'=>e=.returned (.int .i64 G.err)∧w'=w:=by
 have c3:=h.blk.cell 3
 simp only [shc,List.getElem?_toArray,List.getElem?_cons_succ,List.getElem?_cons_zero] at c3
 clear h
 go_enter Tryz.func63,Tryz.ntmps63
 go_wp2_with fail
 go_ret
 exact ⟨rfl,rfl⟩
theorem sstep_fm {w:World} {F f:Nat} {cv m:Value} {c:Bool} {P:World→Prop} (c2:w.cell? ⟨f,2,none⟩=some (wfm F cv)) (eF:∀ args w,(callFunc F args).run Tryz.prog w=.ok (.enter F args) w)
 (hF:Calls Tryz.prog F #[cv,m] w fun e w'=>e=.returned (.bool c)∧P w'):Calls Tryz.prog 249 #[ptr f,m] w fun e w'=>e=.returned (.bool c)∧P w':=by
 replace hF:=Lib.hid hF
 go_enter Tryz.func249,Tryz.ntmps249
 go_wp2_with fail
 refine hF.out.mono ?_
 rintro e w' ⟨rfl,hPw⟩
 replace hPw:=Lib.hid hPw
 clear c2
 go_wp2_with fail
 go_ret
 exact ⟨rfl,hPw.out⟩
theorem sready_f0 {w:World} {f:Nat} {m:Value} (c1:w.cell? ⟨f,1,none⟩=some (wf0 135)):Calls Tryz.prog 248 #[ptr f,m] w fun e w'=>e=.returned (.bool true)∧Below w.heap.size w w':=by
 have eF:∀ args w,(callFunc 135 args).run Tryz.prog w=.ok (.enter 135 args) w:=fun _ _=>by kernel_rfl
 have hA:=Lib.hid (always_any m w)
 go_enter Tryz.func248,Tryz.ntmps248
 go_wp2_with fail
 refine hA.out.mono ?_
 rintro e w' ⟨rfl,hw⟩
 obtain rfl:w=w':=hw.symm
 clear hA c1
 go_wp2_with fail
 go_ret
 exact ⟨rfl,Below.refl _ _⟩
theorem sready_fm {w:World} {F f:Nat} {cv m:Value} {c:Bool} (c1:w.cell? ⟨f,1,none⟩=some (wfm F cv)) (eF:∀ args w,(callFunc F args).run Tryz.prog w=.ok (.enter F args) w)
 (hF:Calls Tryz.prog F #[cv,m] w fun e w'=>e=.returned (.bool c)∧∃ n,w'=w.drewN n):Calls Tryz.prog 248 #[ptr f,m] w fun e w'=>e=.returned (.bool c)∧Below w.heap.size w w':=by
 replace hF:=Lib.hid hF
 go_enter Tryz.func248,Tryz.ntmps248
 go_wp2_with fail
 refine hF.out.mono ?_
 rintro e w' ⟨rfl,n,rfl⟩
 clear c1
 go_wp2_with fail
 go_ret
 exact ⟨rfl,rfl,rfl,rfl,Nat.le_refl _,fun _ _=>rfl⟩
theorem enters_s1 (args:Array Value) (w:World):(callFunc 100 args).run Tryz.prog w=.ok (.enter 100 args) w:=by kernel_rfl
theorem enters_s2 (args:Array Value) (w:World):(callFunc 136 args).run Tryz.prog w=.ok (.enter 136 args) w:=by kernel_rfl
theorem enters_s3 (args:Array Value) (w:World):(callFunc 157 args).run Tryz.prog w=.ok (.enter 157 args) w:=by kernel_rfl
theorem enters_s4 (args:Array Value) (w:World):(callFunc 173 args).run Tryz.prog w=.ok (.enter 173 args) w:=by kernel_rfl
theorem enters_s5 (args:Array Value) (w:World):(callFunc 197 args).run Tryz.prog w=.ok (.enter 197 args) w:=by kernel_rfl
theorem enters_s6 (args:Array Value) (w:World):(callFunc 202 args).run Tryz.prog w=.ok (.enter 202 args) w:=by kernel_rfl
theorem enters_s7 (args:Array Value) (w:World):(callFunc 195 args).run Tryz.prog w=.ok (.enter 195 args) w:=by kernel_rfl
theorem enters_s8 (args:Array Value) (w:World):(callFunc 201 args).run Tryz.prog w=.ok (.enter 201 args) w:=by kernel_rfl
theorem enters_s9 (args:Array Value) (w:World):(callFunc 205 args).run Tryz.prog w=.ok (.enter 205 args) w:=by kernel_rfl
theorem enters_sw (args:Array Value) (w:World):(callFunc 204 args).run Tryz.prog w=.ok (.enter 204 args) w:=by kernel_rfl
section
variable {w w':World} {M:Mo} {a:Sc} {G:Sh}
theorem shr_ready (hM:MemAt w M) (h:ShAt w a G) (ok:Oksh (lm M) G):Calls Tryz.prog 248 #[ptr a.f,ptr M.m] w fun e w'=>e=.returned (.bool (sready (lm M) G))∧Below w.heap.size w w':=by
 have c1:=(own_hd h.blk).2.1
 unfold srv at c1
 unfold sready
 by_cases h9:G.nx=9
 · rw [if_pos h9] at c1 ⊢
   obtain ⟨o1,o2⟩:=ok.c9 h9
   have hp:=o2.passed
   have hx:M.k.toNat+2≤M.xs.length:=o2.xl
   have hp2:G.W.at_≤2→G.W.passed<M.k.toNat:=hp.2
   exact sready_fm c1 enters_sw (Qs.ready_any hM (h.wt h9) o2.hl (fun q=>by have:=hp2 (by omega); exact ⟨by omega,by omega⟩) (by have:=o2.at_; omega))
 · rw [if_neg h9] at c1 ⊢
   exact sready_f0 c1
theorem shr_step (hM:MemAt w M) (h:ShAt w a G) (ok:Oksh (lm M) G) (hr:sready (lm M) G=true):
 Calls Tryz.prog 249 #[ptr a.f,ptr M.m] w fun e w'=>e=.returned (.bool (sdone (lm M) G))∧shL.Stp w M a G (sstep (lm M) G).1 (sstep (lm M) G).2 w':=by
 have c2:=(own_hd h.blk).2.2.1
 unfold snv at c2
 have hnx:=ok.nx
 have hbk:=ok.bk
 have hnw:=ok.nw
 have hhb:=ok.hb
 by_cases e1:G.nx=1
 · rw [if_pos e1] at c2
   rw [show sdone (lm M) G=false by unfold sdone; rw [if_neg (by omega),if_neg (by omega)]; simp; omega]
   exact sstep_fm c2 enters_s1 (load_step hM h ok.x1 e1)
 rw [if_neg e1] at c2
 obtain ⟨el1,el2⟩:=ok.el e1
 by_cases e2:G.nx=2
 · rw [if_pos e2] at c2
   have ed:sdone (lm M) G= !decide (FM.power ((G.el.1 / 2:Nat):Int)=true∧M.xs.length+G.el.1 / 2≤1048576):=by unfold sdone; rw [if_pos e2]
   by_cases hp:FM.power ((G.el.1 / 2:Nat):Int)=true∧M.xs.length+G.el.1 / 2≤1048576
   · have es:sstep (lm M) G=({lm M with xs:=M.xs++List.replicate (G.el.1 / 2) 0,ds:=M.ds++[(G.el.1 / 2,M.xs.length)]},{G with num:=M.ds.length,err:=0,nw:=(G.el.1 / 2,M.xs.length),nx:=3}):=by
      unfold sstep; rw [if_neg e1,if_pos e2,if_pos hp]
     rw [ed,es,show (!decide (FM.power ((G.el.1 / 2:Nat):Int)=true∧M.xs.length+G.el.1 / 2≤1048576))=false by simp only [decide_eq_true hp]; rfl]
     exact sstep_fm c2 enters_s2 (table_made hM h el1 ok.ds hp.1 hp.2)
   · have es:sstep (lm M) G=(lm M,{G with num:= -1,err:=if FM.power ((G.el.1 / 2:Nat):Int)=true then 2 else 5,nx:=10}):=by
      unfold sstep; rw [if_neg e1,if_pos e2,if_neg hp]
     rw [ed,es,show (!decide (FM.power ((G.el.1 / 2:Nat):Int)=true∧M.xs.length+G.el.1 / 2≤1048576))=true by simp only [decide_eq_false hp]; rfl]
     exact sstep_fm c2 enters_s2 (table_fails hM h el1 hp)
 rw [if_neg e2] at c2
 by_cases e3:G.nx=3
 · rw [if_pos e3] at c2
   rw [show sdone (lm M) G=false by unfold sdone; rw [if_neg (by omega),if_neg (by omega)]; simp; omega]
   have es:sstep (lm M) G=(lm M,{G with fi:=(Cl.nth M.xs (G.el.2+G.bucket)).toNat,nx:=4}):=by unfold sstep; rw [if_neg e1,if_neg e2,if_pos e3]
   rw [es]
   exact sstep_fm c2 enters_s3 (loadFirst_step hM h (ok.c3 e3) el2 hbk)
 rw [if_neg e3] at c2
 by_cases e4:G.nx=4
 · rw [if_pos e4] at c2
   rw [show sdone (lm M) G=false by unfold sdone; rw [if_neg (by omega),if_neg (by omega)]; simp; omega]
   have es:sstep (lm M) G=(lm M,begun {G with sec:=(Cl.nth M.xs (G.el.2+(G.bucket+G.nw.1))).toNat}):=by unfold sstep; rw [if_neg e1,if_neg e2,if_neg e3,if_pos e4]
   rw [es]
   exact sstep_fm c2 enters_s4 (loadSecond_step hM h (ok.c4 e4) el2 (by omega) (by omega) hhb.1)
 rw [if_neg e4] at c2
 by_cases e5:G.nx=5
 · rw [if_pos e5] at c2
   rw [show sdone (lm M) G=false by unfold sdone; rw [if_neg (by omega),if_neg (by omega)]; simp; omega]
   have es:sstep (lm M) G=(lm M,comeTo {G with la:=G.at_,met:=G.at_::G.met} (at' M.ss ((G.at_-1) % 65536)).nd.next.toNat):=by unfold sstep; rw [if_neg e1,if_neg e2,if_neg e3,if_neg e4,if_pos e5]
   rw [es]
   obtain ⟨o1,o2,o3,o4⟩:=ok.c5 e5
   exact sstep_fm c2 enters_s5 (read_step hM h e5 o1 o2 o3 o4 hhb.2 hbk (by omega))
 rw [if_neg e5] at c2
 by_cases e6:G.nx=6
 · rw [if_pos e6] at c2
   rw [show sdone (lm M) G=false by unfold sdone; rw [if_neg (by omega),if_neg (by omega)]; simp; omega]
   have es:sstep (lm M) G=({lm M with ss:=Pu.lnk M.ss G.la G.sec},toStore G):=by unfold sstep; rw [if_neg e1,if_neg e2,if_neg e3,if_neg e4,if_neg e5,if_pos e6]
   rw [es]
   obtain ⟨o1,k,o2⟩:=ok.c6 e6
   exact sstep_fm c2 enters_s6 (join_step hM h o1 o2 hbk (by omega))
 rw [if_neg e6] at c2
 by_cases e7:G.nx=7
 · rw [if_pos e7] at c2
   rw [show sdone (lm M) G=false by unfold sdone; rw [if_neg (by omega),if_neg (by omega)]; simp; omega]
   have es:sstep (lm M) G=({lm M with xs:=M.xs.set (G.nw.2+G.bucket) ((G.fi:Nat):Int)},toNext G):=by unfold sstep; rw [if_neg e1,if_neg e2,if_neg e3,if_neg e4,if_neg e5,if_neg e6,if_pos e7]
   rw [es]
   exact sstep_fm c2 enters_s7 (store_step hM h (ok.c7 e7) hhb.1 hnw.2 hbk (by omega))
 rw [if_neg e7] at c2
 by_cases e8:G.nx=8
 · rw [if_pos e8] at c2
   rw [show sdone (lm M) G=false by unfold sdone; rw [if_neg (by omega),if_neg (by omega)]; simp; omega]
   have es:sstep (lm M) G=({lm M with xs:=M.xs.set 1 G.num},{G with W:=⟨G.worker,0,0,0⟩,nx:=9}):=by unfold sstep; rw [if_neg e1,if_neg e2,if_neg e3,if_neg e4,if_neg e5,if_neg e6,if_neg e7,if_pos e8]
   rw [es]
   exact sstep_fm c2 enters_s8 (count_step hM h ok.x1 (ok.c8 e8))
 rw [if_neg e8] at c2
 have e9:G.nx=9:=by omega
 rw [if_pos e9] at c2
 have ed:sdone (lm M) G=decide (G.W.at_=3):=by unfold sdone; rw [if_neg (by omega),if_pos e9]
 have es:sstep (lm M) G=({lm M with xs:=(wstep M.k.toNat M.xs M.hs G.W).1,hs:=(wstep M.k.toNat M.xs M.hs G.W).2.1},{G with W:=(wstep M.k.toNat M.xs M.hs G.W).2.2}):=by
  unfold sstep; rw [if_neg e1,if_neg e2,if_neg e3,if_neg e4,if_neg e5,if_neg e6,if_neg e7,if_neg e8]
 rw [ed,es]
 obtain ⟨o1,o2⟩:=ok.c9 e9
 unfold sready at hr
 rw [if_pos e9] at hr
 exact sstep_fm c2 enters_s9 (wait_stp hM h e9 (n:=M.k.toNat) (by have:0≤M.k:=o1; omega) o2 hr)
end
theorem shr_frm:Frm shL 126 248 249 Oksh sready sstep sdone where
 below h hb:=h.below hb
 mr b w f:=by kernel_rfl
 ms b w f:=by kernel_rfl
 er args w:=by kernel_rfl
 es args w:=by kernel_rfl
 ready hM h ok:=shr_ready hM h ok
 step hM h ok hr:=shr_step hM h ok hr
end Go.Proofs.YtkogifmjbmnpgaaGreat.Sw
