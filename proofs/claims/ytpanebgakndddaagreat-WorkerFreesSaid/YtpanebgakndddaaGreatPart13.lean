/- Walks and plain mathematics, put together in their order: AwC, CpA, AnA, WkP, CopyN, WkA, WkB, WkC, WkD, WkE, WkF, WkG, WkH, WkI, WkW, AwR, Bytes. -/
import Derived.Test.YtpanebgakndddaaGreatPart12
import Derived.Test.YtpanebgakndddaaGreatFnvWalk
import Derived.Deep.DeepCutAuto
import Derived.Deep.CutBlock
import Derived.Test.YtpanebgakndddaaGreatRowKit
import Derived.Laws.Cover1
import Derived.Test.YtpanebgakndddaaGreatHeap
import Derived.Laws.CopyOwn
import Derived.Deep.RegionHeld3
import Derived.Test.DbgTool
import Derived.Test.YtpanebgakndddaaGreatLawKit
set_option linter.unusedVariables false
set_option linter.unusedSimpArgs false
namespace Go.Proofs.YtpanebgakndddaaGreat.Ca
open Go Go.RowKit Hp K Fl Rw Hm Ar Mm Me LK Qs Wk Re ff Pc Pn Mq Pu Zp Mx cK Bs Dl Zr jj jk ld
set_option maxRecDepth 100000
def aK:ByteArray:=⟨#[97]⟩
def aX:ByteArray:=⟨#[120]⟩
theorem rG (k:Int) (v:ByteArray) (hk:0<=k/\k<=2) (hv:v.size<=32):di ⟨k,aK,v,0⟩=0:=by
 unfold di
 simp only
 rw [if_neg (by omega),if_neg]
 rintro ⟨_,h | h | ⟨_,h⟩⟩
 ·exact absurd h (by decide)
 ·exact absurd h (by decide)
 ·omega
theorem Li:gy [] ⟨1,aK,aX,0⟩=(0,false,⟨#[]⟩):=by
 unfold gy
 rw [if_neg (by rw [rG 1 aX (by omega) (by decide)]; simp)]
 rfl
theorem Lj:gy [(aK,aX)] ⟨0,aK,⟨#[]⟩,0⟩=(0,true,aX):=by
 unfold gy
 rw [if_neg (by rw [rG 0 ⟨#[]⟩ (by omega) (by decide)]; simp)]
 simp [Pc.lk]
theorem Lk:gy [(aK,aX)] ⟨2,aK,⟨#[]⟩,0⟩=(0,true,aX):=by
 unfold gy
 rw [if_neg (by rw [rG 2 ⟨#[]⟩ (by omega) (by decide)]; simp)]
 simp [Pc.lk]
theorem Ll:gy [] ⟨0,aK,⟨#[]⟩,0⟩=(0,false,⟨#[]⟩):=by
 unfold gy
 rw [if_neg (by rw [rG 0 ⟨#[]⟩ (by omega) (by decide)]; simp)]
 rfl
def Am (W0 w:World) (m:Nat) (l:List Pr) (j:Nat):Prop:=∃ (M:Mo) (n B G:Nat) (cs:Nat->List Mq.Hp),eE W0 w M none 0 []/\M.m=m/\Mp (lm M) n B cs l G/\G<=j/\M.ss.length=2/\M.k=1/\ki (lm M) j/\n<=256
theorem xP {W0 w w':World} {m j:Nat} {l:List Pr} (h:Am W0 w m l j) (hb:Below w.heap.size w w'):Am W0 w' m l j:=by
 obtain ⟨M,n,B,G,cs,h1,h2⟩:=h
 exact ⟨M,n,B,G,cs,h1.down hb,h2⟩
theorem Ln {W0 w:World} {m j:Nat} {l:List Pr} (h:Am W0 w m l j):Below W0.heap.size W0 w:=by
 obtain ⟨M,n,B,G,cs,h1,h2⟩:=h
 exact h1.below
def Rs (w w':World):Prop:=∀ x cs,af w x 44 cs->af w' x 44 cs
theorem Lp {c:Ct} (hc:di c=0) (hk:c.kind<=2):c.key.size<=32:=by
 unfold di at hc
 split at hc
 ·omega
 ·split at hc
  ·omega
  ·omega
theorem AG {W0 w:World} {m j:Nat} {l l':List Pr} (h:Am W0 w m l j) (hj:j<=20) (c:Ct) (hc:di c=0) (wm:c.kind<=2) (pN:c.kind≠1) (hl:l.length<=1) (hd:gz l l' c) (hs:c.size=0):
 Calls Tryz.prog 39 #[ptr m,.int .i64 0,o8 c] w fun e w'=>e=.returned (.tuple #[xQ (gy l c),.bool true])/\Am W0 w' m l' (j+1)/\Rs w w':=by
 obtain ⟨M,n,B,G,cs,h1,h2,h3,h4,h5,h6,h7,h8⟩:=h
 have hk:=Lp hc wm
 have:=EX (c:=c) (i:=0) (t:=j) h1 h3 (by omega) (by omega) h7 (by omega) h8 (.inl (by omega)) (by rw [h6]; omega) (by unfold maxLen; omega)
 rw [h2] at this
 refine this.mono fun e w' q=>?_
 obtain ⟨x,q1,⟨M',n',B',G',cs',s1,s2,s3,s4,s5,s6,s7,s8⟩,hO⟩:=q
 have hR:Rs w w':=fun y ys hb=>hb.only hO (fun g=>(h1.mem.ty g).apart (bj hb) (by decide))
 rcases s8 with ⟨r1,r2,r3,_⟩ | ⟨_,r2,r3⟩
 ·exact absurd r2 pN
 ·exact ⟨by rw [q1,r2],⟨M',n',B',G',cs',s1,s2.trans h2,r3 l' hd,by omega,s3.trans h5,s4.trans h6,s5,s6⟩,hR⟩
theorem Lq {W0 w:World} {M:Mo} (h:od W0 2 1 M w):
 Calls Tryz.prog 39 #[ptr M.m,.int .i64 0,o8 ⟨1,aK,aX,0⟩] w fun e w'=>e=.returned (.tuple #[xQ (0,false,⟨#[]⟩),.bool true])/\Am W0 w' M.m [(aK,aX)] 1/\Rs w w':=by
 have kW:=uZ h (by omega) (by omega)
 have fX:=AH h (by omega)
 have hS:=xR h
 obtain ⟨_,_,_,g1,g2,g3,g4,g5,g6,g7⟩:=h
 have uj:M.ss.length=2:=by rw [g2]; simp
 have:=EX (c:=⟨1,aK,aX,0⟩) (i:=0) (t:=0) hS kW (by omega) (by simp) fX (by omega) (by omega) (.inl (by simp)) (by rw [g5]; simp) (by unfold maxLen; decide)
 refine this.mono fun e w' q=>?_
 obtain ⟨x,q1,⟨M',n',B',G',cs',s1,s2,s3,s4,s5,s6,s7,s8⟩,hO⟩:=q
 have hR:Rs w w':=fun y ys hb=>hb.only hO (fun g=>(hS.mem.ty g).apart (bj hb) (by decide))
 have hc:=rG 1 aX (by omega) (by decide)
 rcases s8 with ⟨r1,r2,r3,_⟩ | ⟨_,r2,r3⟩
 ·exfalso
  have h1:=(EY M.ss).1 r3
  have h2:(dC M.ss M.ss.length).length+M.ws.length+([]:List Pr).length=M.ss.length:=(Mp.xS kW).2
  rw [g7,uj] at h2
  rw [uj] at h1
  simp at h2
  omega
 ·have hd:gz [] [(aK,aX)] ⟨1,aK,aX,0⟩:=by
   unfold gz
   rw [if_pos ⟨hc,rfl⟩]
   exact List.Perm.refl _
  exact ⟨by rw [q1,r2,Li],⟨M',n',B',G',cs',s1,s2,r3 _ hd,by omega,s3.trans uj,s4.trans g5,s5,s6⟩,hR⟩
set_option maxHeartbeats 4000000 in
theorem et (w:World):Calls Tryz.prog 26 #[] w fun e w'=>e=.returned (.bool true)/\Below w.heap.size w w':=by
 have hN:=Lib.hid (mI 2 1 w (by omega) (by omega))
 have hA:=Lib.hid (fun w=>ld.et w)
 have c1:=rG 0 ⟨#[]⟩ (by omega) (by decide)
 have c2:=rG 2 ⟨#[]⟩ (by omega) (by decide)
 have d1:gz [(aK,aX)] [(aK,aX)] ⟨0,aK,⟨#[]⟩,0⟩:=by unfold gz; rw [if_neg (by simp),if_neg (by simp)]
 have d2:gz [(aK,aX)] [] ⟨2,aK,⟨#[]⟩,0⟩:=by unfold gz; rw [if_neg (by simp),if_pos ⟨c2,rfl⟩]; simp
 have d3:gz [] [] ⟨0,aK,⟨#[]⟩,0⟩:=by unfold gz; rw [if_neg (by simp),if_neg (by simp)]
 have h1:=Lib.hid (fun w1 M (h:od w 2 1 M w1)=>Lq h)
 have h2:=Lib.hid (fun w1 m (h:Am w w1 m [(aK,aX)] 1)=>AG h (by omega) ⟨0,aK,⟨#[]⟩,0⟩ c1 (by simp) (by simp) (by simp) d1 rfl)
 have h3:=Lib.hid (fun w1 m (h:Am w w1 m [(aK,aX)] 2)=>AG h (by omega) ⟨2,aK,⟨#[]⟩,0⟩ c2 (by simp) (by simp) (by simp) d2 rfl)
 have h4:=Lib.hid (fun w1 m (h:Am w w1 m [] 3)=>AG h (by omega) ⟨0,aK,⟨#[]⟩,0⟩ c1 (by simp) (by simp) (by simp) d3 rfl)
 rw [Lj] at h2
 rw [Lk] at h3
 rw [Ll] at h4
 simp only [o8,xQ,aK,aX] at h1 h2 h3 h4
 clear c1 c2 d1 d2 d3
 go_enter Tryz.func26,Tryz.ntmps26
 go_wp2_with fail
 refine hN.out.mono ?_
 rintro e w1 ⟨M,rfl,hM⟩
 have g1:=h1.out w1 M hM
 clear hN h1 hM
 replace g1:=Lib.hid g1
 go_wp2_with fail
 refine g1.out.mono ?_
 rintro e w2 ⟨rfl,bH, -⟩
 go_wp2_with fail
 obtain ⟨v1,zi⟩:∃ v,v=w2.alloc (.cells #[.int .i64 0,.bool false,.string ⟨#[]⟩] 44):=⟨_,rfl⟩
 have b1:af v1 w2.heap.size 44 #[.int .i64 0,.bool false,.string ⟨#[]⟩]:=by rw [zi]; exact af.made w2 _ _
 have l1:Below w2.heap.size w2 v1:=by rw [zi]; exact below_1 _ _
 have A1:=xP bH l1
 rw [<-zi]
 clear zi bH
 obtain ⟨x1,sD⟩:∃ x,x=w2.heap.size:=⟨_,rfl⟩
 rw [<-sD] at b1 ⊢
 clear l1 sD
 have r1:=Lib.hid (h2.out v1 M.m A1)
 clear h2 A1
 refine r1.out.mono ?_
 rintro e w3 ⟨rfl,iZ,kD⟩
 replace b1:=kD _ _ b1
 clear r1 kD
 go_wp2_with fail
 obtain ⟨v2,zk⟩:∃ v,v=w3.alloc (.cells #[.int .i64 0,.bool true,.string ⟨#[120]⟩] 44):=⟨_,rfl⟩
 have b2:af v2 w3.heap.size 44 #[.int .i64 0,.bool true,.string ⟨#[120]⟩]:=by rw [zk]; exact af.made w3 _ _
 have l2:Below w3.heap.size w3 v2:=by rw [zk]; exact below_1 _ _
 have A2:=xP iZ l2
 rw [<-zk]
 clear zk iZ
 obtain ⟨x2,Jl⟩:∃ x,x=w3.heap.size:=⟨_,rfl⟩
 rw [<-Jl] at b2 ⊢
 replace b1:=b1.only (ab.aD l2 (fun _=>False)) (by simp)
 clear l2 Jl
 have r2:=Lib.hid (h3.out v2 M.m A2)
 clear h3 A2
 refine r2.out.mono ?_
 rintro e w4 ⟨rfl,fY,lE⟩
 replace b1:=lE _ _ b1
 replace b2:=lE _ _ b2
 clear r2 lE
 go_wp2_with fail
 obtain ⟨v3,zl⟩:∃ v,v=w4.alloc (.cells #[.int .i64 0,.bool true,.string ⟨#[120]⟩] 44):=⟨_,rfl⟩
 have b3:af v3 w4.heap.size 44 #[.int .i64 0,.bool true,.string ⟨#[120]⟩]:=by rw [zl]; exact af.made w4 _ _
 have l3:Below w4.heap.size w4 v3:=by rw [zl]; exact below_1 _ _
 have A3:=xP fY l3
 rw [<-zl]
 clear zl fY
 obtain ⟨x3,Jm⟩:∃ x,x=w4.heap.size:=⟨_,rfl⟩
 rw [<-Jm] at b3 ⊢
 replace b1:=b1.only (ab.aD l3 (fun _=>False)) (by simp)
 replace b2:=b2.only (ab.aD l3 (fun _=>False)) (by simp)
 clear l3 Jm
 have r3:=Lib.hid (h4.out v3 M.m A3)
 clear h4 A3
 refine r3.out.mono ?_
 rintro e w5 ⟨rfl,nK,zm⟩
 replace b1:=zm _ _ b1
 replace b2:=zm _ _ b2
 replace b3:=zm _ _ b3
 clear r3 zm
 go_wp2_with fail
 obtain ⟨v4,zn⟩:∃ v,v=w5.alloc (.cells #[.int .i64 0,.bool false,.string ⟨#[]⟩] 44):=⟨_,rfl⟩
 have b4:af v4 w5.heap.size 44 #[.int .i64 0,.bool false,.string ⟨#[]⟩]:=by rw [zn]; exact af.made w5 _ _
 have l4:Below w5.heap.size w5 v4:=by rw [zn]; exact below_1 _ _
 have A4:=xP nK l4
 rw [<-zn]
 clear zn nK
 obtain ⟨x4,Jn⟩:∃ x,x=w5.heap.size:=⟨_,rfl⟩
 rw [<-Jn] at b4 ⊢
 replace b1:=b1.only (ab.aD l4 (fun _=>False)) (by simp)
 replace b2:=b2.only (ab.aD l4 (fun _=>False)) (by simp)
 replace b3:=b3.only (ab.aD l4 (fun _=>False)) (by simp)
 clear l4 Jn
 have Dd:=Lib.hid (Ln A4)
 clear A4
 refine (hA.out _).mono ?_
 rintro e w9 ⟨rfl,kE⟩
 replace b1:=b1.only (ab.aD kE (fun _=>False)) (by simp)
 replace b2:=b2.only (ab.aD kE (fun _=>False)) (by simp)
 replace b3:=b3.only (ab.aD kE (fun _=>False)) (by simp)
 replace b4:=b4.only (ab.aD kE (fun _=>False)) (by simp)
 have nL:=Lib.hid (Dd.out.trans (kE.mono Dd.out.size))
 have f10:=b1.cell 0
 have f11:=b1.cell 1
 have f12:=b1.cell 2
 have q1:=b1.lt
 have f20:=b2.cell 0
 have f21:=b2.cell 1
 have f22:=b2.cell 2
 have q2:=b2.lt
 have f30:=b3.cell 0
 have f31:=b3.cell 1
 have f32:=b3.cell 2
 have q3:=b3.lt
 have f40:=b4.cell 0
 have f41:=b4.cell 1
 have f42:=b4.cell 2
 have q4:=b4.lt
 simp at f10 f11 f12 f20 f21 f22 f30 f31 f32 f40 f41 f42
 clear b1 b2 b3 b4 kE Dd hA
 go_wp2_with fail
 go_ret
 exact ⟨rfl,nL.out⟩
end Go.Proofs.YtpanebgakndddaaGreat.Ca
namespace Go.Proofs.YtpanebgakndddaaGreat.Ca
open Go Go.RowKit Hp K Fl Rw Hm Ar Mm Me LK Qs Wk Re ff Pc Pn Mq Pu Zp Mx cK Bs Dl Zr jj jk mG ld
set_option maxRecDepth 100000
abbrev cat (l:List Ct) (i:Nat):Ct:=l.getD i ⟨0,⟨#[]⟩,⟨#[]⟩,0⟩
def Ba (w:World) (A:Option Addr) (l:List Ct):Prop:=∀ i,i<l.length->∃ b o:Nat,A=some ⟨b,o,none⟩/\b<w.heap.size/\
 w.cell? ⟨b,o+i*4,none⟩=some (.int .i64 (cat l i).kind)/\w.cell? ⟨b,o+i*4+1,none⟩=some (.string (cat l i).key)/\w.cell? ⟨b,o+i*4+2,none⟩=some (.string (cat l i).val)/\w.cell? ⟨b,o+i*4+3,none⟩=some (.int .i64 (cat l i).size)/\
 ((cat l i).key.size<=140737488355328/\(cat l i).val.size<=140737488355328)/\(-9223372036854775808<=(cat l i).size/\(cat l i).size<=9223372036854775807)
end Go.Proofs.YtpanebgakndddaaGreat.Ca
namespace Go.Proofs.YtpanebgakndddaaGreat.Wo
open Go Go.RowKit Hp K Fl Rw Hm Ar Mm Me Wk Pc Mq LK jj jk mG Ca
set_option maxRecDepth 100000
abbrev An:=Int×Bool×ByteArray
end Go.Proofs.YtpanebgakndddaaGreat.Wo
namespace Go.Proofs.YtpanebgakndddaaGreat.Wo
open Go Go.RowKit Hp K Fl Rw Hm Ar Mm Me LK Qs Wk Re ff Pc Pn Mq Pu Zp Mx cK Bs Dl Zr jj jk ld Ca
structure Ws where
 num:Nat
 idx:Nat
 bY:Int
 left:List Ct
 run:Option (Ct×Cl)
section
variable {l:List Ct} {ls:Nat->List Pr} {n k:Nat}
def kM (s:Ws) (now:Int) (L:Lm) (c:Ct) (C:Cl) (bY:Int) (left:List Ct):Ws:=
 if eu L C=true then ⟨s.num,s.idx+1,bY,left,none⟩ else ⟨s.num,s.idx,bY,left,some (c,(bK L C).2)⟩
end
end Go.Proofs.YtpanebgakndddaaGreat.Wo
namespace Go.Proofs.YtpanebgakndddaaGreat.FD
open Go Go.RowKit Hp
theorem run_copy_cells {P:Program} (w:World) (dT sT ty elem:TypeId) (size g dLen dCap:Nat) (sp:Option Addr) (sLen sCap n:Nat) (cur:List Value) (t:TypeId) (cs:List Value)
 (hu:P.underlying dT=some (.slice elem)) (hs:(P.info? elem).map (·.size)=some size)
 (hg:w.heap[g]?=some (.cells cur.toArray t (0,0))) (hn:Nat.min sLen dLen=n) (hc:cs.length=n*size)
 (oQ:n≠0->∃ a,sp=some a/\∀ j v,cs[j]?=some v->w.cell? (a.add j)=some v) (wF:cs.length<=cur.length) (h1:∀ v∈cs,v.oneCell'=true):
 (Builtin.copy_ #[dT,sT] ty #[.slice (some ⟨g,0,none⟩) dLen dCap,.slice sp sLen sCap]).run P w=.ok (goInt n) (w.setRow g (cs++cur.drop cs.length).toArray):=by
 cases hq:P.info? elem with
 | none=>simp [hq] at hs
 | some i=>
   have hi:i.size=size:=by simpa [hq] using hs
   have bs:=run_storeCells_at P g 0 t cs 0 cur.toArray w hg (by simpa using wF) h1
   by_cases h0:n=0
   ·subst h0
    have eB:cs=[]:=List.eq_nil_of_length_eq_zero (by rw [hc,Nat.zero_mul])
    subst eB
    have hl:∀ (x:Addr),(loadCells x 0).run P w=.ok #[] w:=fun x=>by simpa using run_loadCells_list (P:=P) w x [] (by simp)
    have im:w.setRow g ([]++cur.drop 0).toArray=w:=by simpa using setRow_self w g _ t (0,0) hg
    cases sp<;>simp [Builtin.copy_,run_underlying hu,Builtin.lenOf,Builtin.firstCells,sizeOf,typeInfo,hq,hi,hn,storeCells,hl]<;>simpa using im.symm
   ·obtain ⟨a,rfl,Dh⟩:=oQ h0
    have hl:=run_loadCells_list (P:=P) w a cs Dh
    simp [Builtin.copy_,run_underlying hu,Builtin.lenOf,Builtin.firstCells,sizeOf,typeInfo,hq,hi,hn,<-hc,hl,bs]
theorem M9 {P:Program} {w:World} {ops:Array Oper} {rest:List Oper} {o:Oper} {a:Act} {Q:Exit->Act->World->Prop} (pQ:o.guard=none) (d s:Operand) (dT sT:TypeId)
 (ho:o.op=.call {callee:=.builtin .copy,args:=#[d,s],argTypes:=#[dT,sT]}) (elem:TypeId) (hu:P.underlying dT=some (.slice elem)) (size:Nat) (cQ:(P.info? elem).map (·.size)=some size)
 (g dLen dCap:Nat) (sp:Option Addr) (sLen sCap n:Nat) (hd:a.eval d=.slice (some ⟨g,0,none⟩) dLen dCap) (hs:a.eval s=.slice sp sLen sCap)
 (cur:List Value) (t:TypeId) (hg:w.heap[g]?=some (.cells cur.toArray t (0,0))) (cs:List Value) (hn:Nat.min sLen dLen=n) (hc:cs.length=n*size)
 (oQ:n≠0->∃ a,sp=some a/\∀ j v,cs[j]?=some v->w.cell? (a.add j)=some v) (wF:cs.length<=cur.length) (h1:∀ v∈cs,v.oneCell'=true)
 (h:∀ w',Hid (af w' g t (cs++cur.drop cs.length).toArray)->Hid (ab (·=g) w w')->wpList P ops Q rest (a.put o.dst (goInt n)) w'):wpList P ops Q (o::rest) a w:=by
 refine wpList_plain pQ fun K hK=>?_
 have fI:=run_copy_cells (P:=P) w dT sT o.type elem size g dLen dCap sp sLen sCap n cur t cs hu cQ hg hn hc oQ wF h1
 unfold Oper.wp
 simp [execOp,ho,resolve,invoke,builtin,hd,hs,fI,Result.andThen]
 exact hK _ _ (h _ (show _=_ by simpa using setRow_heap w g _ _ t _ hg) ⟨rfl,rfl,rfl,by simp [World.setRow],fun k _ hn=>setRow_other w g k _ hn⟩)
end Go.Proofs.YtpanebgakndddaaGreat.FD
namespace Go.Proofs.YtpanebgakndddaaGreat.Wo
open Go Go.RowKit Hp K Fl Rw Hm Ar Mm Me LK Qs Wk Pc Pn Mq Pu Zp Mx cK Bs Zr Ca
set_option maxRecDepth 100000
def oe (num idx:Int) (c:Ct) (bY en:Int) (x:An):Value:=.agg #[.int .i64 num,.int .i64 idx,.int .i64 c.kind,.string c.key,.string c.val,.int .i64 c.size,.int .i64 bY,.int .i64 en,.int .i64 x.1,.bool x.2.1,.string x.2.2]
def xT:Value:=oe 0 0 ⟨0,⟨#[]⟩,⟨#[]⟩,0⟩ 0 0 (0,false,⟨#[]⟩)
def og (s:Ws) (now:Int) (L:Lm) (c:Ct) (C:Cl) (bY:Int):Value:=.tuple #[if eu L C=true then oe s.num s.idx c bY now (de (bK L C).2) else xT,.bool (eu L C)]
structure Wp where
 f:Nat
 A:Option Addr
 cap:Nat
 r:Cp
def dD (num:Int) (A:Option Addr) (n cap:Nat) (ix:Int) (run:Value) (ew ei:Int) (c:Ct) (eb:Int):Array Value:=
 #[.int .i64 num,.slice A n cap,.int .i64 ix,run,.int .i64 ew,.int .i64 ei,.int .i64 c.kind,.string c.key,.string c.val,.int .i64 c.size,.int .i64 eb,.int .i64 0,.int .i64 0,.bool false,.string ⟨#[]⟩]
abbrev dE:Ct:=⟨0,⟨#[]⟩,⟨#[]⟩,0⟩
def oJ (a:Wp) (s:Ws):Array Value:=match s.run with
 | none=>dD s.num a.A s.left.length a.cap s.idx (.pointer none) 0 0 dE 0
 | some p=>dD s.num a.A s.left.length a.cap (s.idx+1:Nat) (ptr a.r.f) s.num s.idx p.1 s.bY
def I8 (cs:Array Value) (o:Nat) (c:Ct):Prop:=cs[o]?=some (.int .i64 c.kind)/\cs[o+1]?=some (.string c.key)/\cs[o+2]?=some (.string c.val)/\cs[o+3]?=some (.int .i64 c.size)
def mV (w:World) (A:Option Addr) (l:List Ct):Prop:=l=[]\/∃ b o cs,A=some ⟨b,o,none⟩/\af w b 31 cs/\∀ i c,l[i]?=some c->I8 cs (o+i*4) c
structure Uz (w:World) (a:Wp) (s:Ws):Prop where
 an:af w a.f 77 (oJ a s)
 jT:mV w a.A s.left
 sz:s.left.length<=a.cap/\s.idx+a.cap+(if s.run.isSome=true then 1 else 0)<=1000
 run:∀ p,s.run=some p->cy.At w a.r p.2
def UA (a:Wp) (s:Ws) (x:Nat):Prop:=x=a.f\/(s.left≠[]/\In a.A x)\/∃ p,s.run=some p/\cy.aR a.r p.2 x
abbrev bQ:iD Wp Ws:=⟨Wp.f,Uz,UA⟩
section
variable {w w':World} {M:Mo} {a:Wp} {s:Ws} {A:Option Addr} {l:List Ct} {S:Nat->Prop}
theorem mV.only (h:mV w A l) (ho:ab S w w') (hn:∀ x,l≠[]->In A x->¬S x):mV w' A l:=by
 rcases h with h | ⟨b,o,cs,rfl,hb,hc⟩
 ·exact .inl h
 ·by_cases e:l=[]
  ·exact .inl e
  ·exact .inr ⟨b,o,cs,rfl,hb.only ho (hn b e rfl),hc⟩
theorem mV.ty (h:mV w A l) {x:Nat} (hl:l≠[]) (hx:In A x):Ty w x [31]:=by
 rcases h with h | ⟨b,o,cs,rfl,hb,hc⟩
 ·exact absurd h hl
 ·obtain rfl:b=x:=by simpa [In] using hx
  exact bj hb
theorem za {C:Cl} {a:Cp} {x:Nat} (h:cy.At w a C) (hx:cy.aR a C x) {ts:List TypeId} (ht:Ty w x ts) (hd:∀ t∈ts,t∉118::x6):False:=by
 rcases hx with rfl | hx
 ·exact ht.apart (bj h.an) (fun t q r=>hd t q (by simp at r; simp [r]))
 ·exact x7 h.inn hx ht (fun t q r=>hd t q (List.mem_cons_of_mem _ r))
theorem AK (h:bQ.At w a s) (ho:ab S w w') (hn:∀ x,bQ.aR a s x->¬S x):bQ.At w' a s:=
 ⟨h.an.only ho (hn _ (.inl rfl)),h.jT.only ho (fun x hl hx=>hn x (.inr (.inl ⟨hl,hx⟩))),h.sz,fun p hp=>A7 (h.run p hp) ho (fun x hx=>hn x (.inr (.inr ⟨p,hp,hx⟩)))⟩
theorem uh (h:bQ.At w a s) (hb:Below w.heap.size w w'):bQ.At w' a s:=AK h (ab.aD hb (fun _=>False)) (by simp)
theorem wh {x:Nat} (h:bQ.At w a s) (hM:ah w M) (hx:bQ.aR a s x):¬ao M x:=fun q=>by
 rcases hx with rfl | ⟨hl,hx⟩ | ⟨p,hp,hx⟩
 ·exact (hM.ty q).apart (bj h.an) (by decide)
 ·exact (hM.ty q).apart (h.jT.ty hl hx) (by decide)
 ·exact A8 (h.run p hp) hM hx q
theorem I9 {t:TypeId} {cs:Array Value} {f:Nat} (hb:af w f t cs) (ht:t∉118::x6) {C:Cl} {r:Cp} (h:cy.At w r C) {x:Nat} (hx:cy.aR r C x):x≠f:=by
 rintro rfl
 exact za h hx (bj hb) (by simpa using ht)
theorem AL (h:bQ.At w a s):Calls Tryz.prog 11 #[ptr (bQ.f a)] w fun e w'=>e=.returned (.bool (decide (s.run.isSome=true\/s.left≠[])))/\Below w.heap.size w w':=by
 obtain ⟨hb,hl,hz,hr⟩:=h
 obtain ⟨num,idx,bY,left,run⟩:=s
 obtain ⟨f,A,cap,r⟩:=a
 have hz:left.length<=cap/\idx+cap+(if run.isSome=true then 1 else 0)<=1000:=hz
 have hz:left.length<=1000:=by omega
 cases run with
 | some p=>
   have c3:=hb.cell 3
   simp [oJ,dD] at c3
   rw [decide_eq_true (.inl rfl)]
   clear hb hl hr hz
   go_enter Tryz.func11,Tryz.ntmps11
   go_wp2_with fail
   go_ret
   exact ⟨rfl,Below.refl _ _⟩
 | none=>
   have c1:=hb.cell 1
   have c3:=hb.cell 3
   simp [oJ,dD] at c1 c3
   have e:decide ((none:Option (Ct×Cl)).isSome=true\/left≠[])=decide (0<left.length):=by
    cases left<;>simp
   have e:decide ((⟨num,idx,bY,left,none⟩:Ws).run.isSome=true\/(⟨num,idx,bY,left,none⟩:Ws).left≠[])=decide (0<left.length):=e
   rw [e]
   clear e hb hl hr
   generalize left.length=n at*
   by_cases q:0<n
   ·rw [decide_eq_true q]
    have q':(0:Int)<n:=by omega
    go_enter Tryz.func11,Tryz.ntmps11
    go_wp2_with fail
    go_ret
    exact ⟨rfl,Below.refl _ _⟩
   ·rw [decide_eq_false q]
    obtain rfl:n=0:=by omega
    clear q
    go_enter Tryz.func11,Tryz.ntmps11
    go_wp2_with fail
    go_ret
    exact ⟨rfl,Below.refl _ _⟩
end
end Go.Proofs.YtpanebgakndddaaGreat.Wo
namespace Go.Proofs.YtpanebgakndddaaGreat.Wo
open Go Go.RowKit Hp K Fl Rw Hm Ar Mm Me LK Qs Wk Pc Pn Mq Pu Zp Mx cK Bs Zr Ca
set_option maxRecDepth 100000
def gF (w:World) (f o:Nat):List Value->World
 | []=>w
 | v::r=>gF (w.setCell ⟨f,o,none⟩ v) f (o+1) r
def ui (cs:Array Value) (o:Nat):List Value->Array Value
 | []=>cs
 | v::r=>ui (cs.setIfInBounds o v) (o+1) r
theorem C2 {f:Nat} {t:TypeId}:∀ {l:List Value} {o:Nat} {cs:Array Value} {w:World},af w f t cs->af (gF w f o l) f t (ui cs o l)
 | [],_,_,_,h=>h
 | v::r,o,_,_,h=>C2 (l:=r) (h.store o v)
theorem sB {f:Nat} {W:World}:∀ {l:List Value} {o:Nat} {w:World},ab (·=f) W w->ab (·=f) W (gF w f o l)
 | [],_,_,h=>h
 | v::r,o,_,h=>sB (l:=r) (h.setCell (p:=⟨f,o,none⟩) (.inl rfl) v)
def oK (A:Option Addr) (cap:Nat):Option Addr:=if cap=1 then A else A.map (·.add 4)
theorem Ja {A:Option Addr} {cap x:Nat}:In (oK A cap) x↔In A x:=by
 unfold oK In
 split
 ·rfl
 ·cases A<;>simp [Addr.add]
theorem UB {w:World} {A:Option Addr} {cap:Nat} {c:Ct} {r:List Ct} (h:mV w A (c::r)) (hc:cap=1->r=[]):mV w (oK A cap) r:=by
 by_cases e:r=[]
 ·exact .inl e
 ·rcases h with h | ⟨b,o,cs,rfl,hb,bf⟩
  ·simp at h
  ·refine .inr ⟨b,o+4,cs,?_,hb,fun i c hi=>?_⟩
   ·unfold oK
    rw [if_neg (fun q=>e (hc q))]
    rfl
   ·have:=bf (i+1) c (by simpa using hi)
    rw [show o+4+i*4=o+(i+1)*4 by omega]
    exact this
theorem W5 {w:World} {f:Nat} {t:TypeId} {cs:Array Value} (h:af w f t cs):af w.drew f t cs:=h
abbrev lC (ew ei:Int) (c:Ct) (eb:Int):List Value:=[.int .i64 ew,.int .i64 ei,.int .i64 c.kind,.string c.key,.string c.val,.int .i64 c.size,.int .i64 eb,.int .i64 0,.int .i64 0,.bool false,.string ⟨#[]⟩]
theorem Jb {num:Int} {A:Option Addr} {n cap:Nat} {ix:Int} {run:Value} {ew ei ew' ei' eb eb':Int} {c c':Ct}:ui (dD num A n cap ix run ew ei c eb) 4 (lC ew' ei' c' eb')=dD num A n cap ix run ew' ei' c' eb':=by simp [ui,dD]
theorem UC {w:World} {f:Nat} {num:Int} {A:Option Addr} {n cap:Nat} {ix:Int} {run:Value} {ew ei ew' ei' eb eb':Int} {c c':Ct} (h:af w f 77 (dD num A n cap ix run ew ei c eb)):
 af (gF w f 4 (lC ew' ei' c' eb')).drew f 77 (dD num A n cap ix run ew' ei' c' eb')/\ab (·=f) w (gF w f 4 (lC ew' ei' c' eb')).drew:=by
 have h1:af (gF w f 4 (lC ew' ei' c' eb')) f 77 (ui (dD num A n cap ix run ew ei c eb) 4 (lC ew' ei' c' eb')):=C2 h
 have h2:ab (·=f) w (gF w f 4 (lC ew' ei' c' eb')):=sB (ab.refl _ _)
 rw [Jb] at h1
 generalize gF w f 4 (lC ew' ei' c' eb')=w1 at*
 exact ⟨blk_drew h1,h2.drew⟩
theorem UD {num:Int} {A A3:Option Addr} {n cap n3 cap3:Nat} {ix ix3:Int} {run run3:Value} {ew ei eb:Int} {c:Ct}:
 (((dD num A n cap ix run ew ei c eb).setIfInBounds 3 run3).setIfInBounds 1 (.slice A3 n3 cap3)).setIfInBounds 2 (.int .i64 ix3)=dD num A3 n3 cap3 ix3 run3 ew ei c eb:=by simp [dD]
def wi (w:World) (a:Wp) (s:Ws) (c:Ct) (t:List Ct) (now:Int) (e:Ending) (w':World):Prop:=
 e=.returned (.tuple #[])/\∃ (r:Cp) (C:Cl),jA s.num c C/\bQ.At w' ⟨a.f,oK a.A a.cap,a.cap-1,r⟩ ⟨s.num,s.idx,now,t,some (c,C)⟩/\(∀ x,cy.aR r C x->w.heap.size<=x)/\ab (·=a.f) w w'
set_option maxHeartbeats 2000000 in
theorem yS {w:World} {a:Wp} {s:Ws} {c:Ct} {t:List Ct} (h:bQ.At w a s) (h0:s.run=none) (h1:s.left=c::t) (hk:c.key.size<=maxLen) (now:Int):
 Calls Tryz.prog 31 #[ptr a.f,.int .i64 now] w (wi w a s c t now):=by
 obtain ⟨hb,hl,hz,hr⟩:=h
 obtain ⟨num,idx,bY,left,run⟩:=s
 obtain ⟨f,A,cap,r⟩:=a
 obtain rfl:run=none:=h0
 obtain rfl:left=c::t:=h1
 clear hr
 replace hz:t.length+1<=cap/\idx+cap<=1000:=hz
 replace hl:mV w A (c::t):=hl
 obtain ⟨b,o,cs,hA,fT,bf⟩:∃ b o cs,A=some ⟨b,o,none⟩/\af w b 31 cs/\∀ i x,(c::t)[i]?=some x->I8 cs (o+i*4) x:=by
  rcases hl with q | q
  ·simp at q
  ·exact q
 obtain rfl:A=some ⟨b,o,none⟩:=hA
 obtain ⟨d0,d1,d2,d3⟩:=bf 0 c rfl
 simp only [Nat.zero_mul,Nat.add_zero] at d0 d1 d2 d3
 rw [<-fT.cell] at d0 d1 d2 d3
 replace hb:af w f 77 (dD num (some ⟨b,o,none⟩) (t.length+1) cap idx (.pointer none) 0 0 dE 0):=hb
 have aH:f≠b:=hb.differ fT (by decide)
 have hN:=Lib.hid (fun w=>show Calls Tryz.prog 52 #[.int .i64 num,.agg #[.int .i64 c.kind,.string c.key,.string c.val,.int .i64 c.size]] w (A9 w num c) from FC num c hk w)
 have eL:∀ w3 A3 (r:Cp) (C:Cl),jA num c C->cy.At w3 r C->(∀ x,cy.aR r C x->w.heap.size<=x)->ab (·=f) w w3->af w3 f 77 (dD num A3 t.length (cap-1) (idx+1:Nat) (ptr r.f) num idx c now)->A3=oK (some ⟨b,o,none⟩) cap->
  wi w ⟨f,some ⟨b,o,none⟩,cap,r⟩ ⟨num,idx,bY,c::t,none⟩ c t now (.returned (.tuple #[])) w3:=by
  intro w3 A3 r C hI hC hf hO hB iZ
  subst iZ
  refine ⟨rfl,r,C,hI,⟨hB,?_,⟨?_,?_⟩,fun p hp=>?_⟩,hf,hO⟩
  ·refine (UB (cap:=cap) hl (fun q=>?_)).only hO (fun x hx hi e=>?_)
   ·cases t with
    | nil=>rfl
    | cons _ _=>simp at hz; omega
   ·rw [Ja] at hi
    obtain rfl:b=x:=by simpa [In] using hi
    exact aH e.symm
  ·show t.length<=cap-1
   omega
  ·show idx+(cap-1)+1<=1000
   omega
  ·have hp:some (c,C)=some p:=hp
   simp only [Option.some.injEq] at hp
   subst hp
   exact hC
 have c0:=hb.cell 0
 have c1:=hb.cell 1
 have c2:=hb.cell 2
 have c4:=hb.cell 4
 have c5:=hb.cell 5
 have c6:=hb.cell 6
 have c7:=hb.cell 7
 have c8:=hb.cell 8
 have c9:=hb.cell 9
 have c10:=hb.cell 10
 have c11:=hb.cell 11
 have c12:=hb.cell 12
 have c13:=hb.cell 13
 have c14:=hb.cell 14
 simp [dD] at c0 c1 c2 c4 c5 c6 c7 c8 c9 c10 c11 c12 c13 c14
 have lf:=hb.lt
 have lb:=fT.lt
 have z:∀ i,w.frozen? ⟨f,i,none⟩=false:=fun i=>hb.frozen i
 have z4:=z 4
 have z5:=z 5
 have z6:=z 6
 have z7:=z 7
 have z8:=z 8
 have z9:=z 9
 have z10:=z 10
 have z11:=z 11
 have z12:=z 12
 have z13:=z 13
 have z14:=z 14
 replace hb:=Lib.hid hb
 replace fT:=Lib.hid fT
 replace bf:=Lib.hid bf
 replace hl:=Lib.hid hl
 replace eL:=Lib.hid eL
 replace hk:=Lib.hid hk
 clear z
 obtain ⟨kind,key,val,size⟩:=c
 generalize hn:t.length=n at*
 replace hn:=Lib.hid hn
 show Calls _ _ #[ptr f,.int .i64 now] w _
 obtain ⟨w1,aO⟩:∃ w1,w1=(gF w f 4 (lC num idx ⟨kind,key,val,size⟩ now)).drew:=⟨_,rfl⟩
 obtain ⟨B1,O1⟩:af w1 f 77 (dD num (some ⟨b,o,none⟩) (n+1) cap idx (.pointer none) num idx ⟨kind,key,val,size⟩ now)/\ab (·=f) w w1:=by rw [aO]; exact UC hb.out
 have R1:=fT.out.only O1 (fun q=>aH q.symm)
 replace O1:=Lib.hid O1
 replace B1:=Lib.hid B1
 replace R1:=Lib.hid R1
 go_enter Tryz.func31,Tryz.ntmps31
 go_wp2_with fail
 go_region_held3 (fun w'=>w'.cell? ⟨f,0,none⟩=some (.int .i64 num)/\w'.cell? ⟨f,1,none⟩=some (.slice (some ⟨b,o,none⟩) (n+1) cap)/\w'.cell? ⟨f,2,none⟩=some (.int .i64 idx)/\w'.cell? ⟨b,o,none⟩=some (.int .i64 kind)/\w'.cell? ⟨b,o+1,none⟩=some (.string key)/\w'.cell? ⟨b,o+2,none⟩=some (.string val)/\w'.cell? ⟨b,o+3,none⟩=some (.int .i64 size)) ((go_split_ands; (refine ⟨?_,?_,?_,?_,?_,?_,?_⟩<;>simp [World.cell?_setCell_other, *]))) (fail)
 change Exit.then _ _ _ _ (gF w f 4 (lC num idx ⟨kind,key,val,size⟩ now)).drew
 rw [<-aO]
 clear z4 z5 z6 z7 z8 z9 z10 z11 z12 z13 z14 c4 c5 c6 c7 c8 c9 c10 c11 c12 c13 c14 c0 c1 c2 lf lb d0 d1 d2 d3
 have c0:=B1.out.cell 0
 have c1:=B1.out.cell 1
 have c3:=B1.out.cell 3
 simp [dD] at c0 c1 c3
 have z3:=B1.out.frozen 3
 have lf:=B1.out.lt
 have lb:=R1.out.lt
 obtain ⟨d0,d1,d2,d3⟩:=bf.out 0 _ rfl
 simp only [Nat.zero_mul,Nat.add_zero] at d0 d1 d2 d3
 rw [<-R1.out.cell] at d0 d1 d2 d3
 clear aO
 go_wp2_with fail
 go_region_held3 (fun w'=>w'.cell? ⟨f,0,none⟩=some (.int .i64 num)/\w'.cell? ⟨f,1,none⟩=some (.slice (some ⟨b,o,none⟩) (n+1) cap)/\w'.cell? ⟨b,o,none⟩=some (.int .i64 kind)/\w'.cell? ⟨b,o+1,none⟩=some (.string key)/\w'.cell? ⟨b,o+2,none⟩=some (.string val)/\w'.cell? ⟨b,o+3,none⟩=some (.int .i64 size)) ((go_split_ands; (refine ⟨?_,?_,?_,?_,?_,?_⟩<;>simp [World.cell?_setCell_other, *])))
  (first
    | (go_at_call 52
       refine (hN.out _).mono ?_
       rintro e w2 ⟨q,C,rfl,hI,hC,hq,au⟩
       have B2:=B1.out.only ((ab.refl (fun _=>False) w1).drew.trans (ab.aD au (fun _=>False))) (by simp)
       have R2:=R1.out.only ((ab.refl (fun _=>False) w1).drew.trans (ab.aD au (fun _=>False))) (by simp)
       have c0:=B2.cell 0
       have c1:=B2.cell 1
       have c3:=B2.cell 3
       simp [dD] at c0 c1 c3
       have z3:=B2.frozen 3
       have lf:=B2.lt
       have lb:=R2.lt
       obtain ⟨d0,d1,d2,d3⟩:=bf.out 0 _ rfl
       simp only [Nat.zero_mul,Nat.add_zero] at d0 d1 d2 d3
       rw [<-R2.cell] at d0 d1 d2 d3
       replace hI:=Lib.hid hI
       replace hC:=Lib.hid hC
       replace hq:=Lib.hid hq
       replace au:=Lib.hid au
       replace B2:=Lib.hid B2
       replace R2:=Lib.hid R2))
 have hE:Hid (∀ A3,A3=oK (some ⟨b,o,none⟩) cap->wi w ⟨f,some ⟨b,o,none⟩,cap,r⟩ ⟨num,idx,bY,⟨kind,key,val,size⟩::t,none⟩ ⟨kind,key,val,size⟩ t now (.returned (.tuple #[]))
  (((w2.setCell ⟨f,3,none⟩ (ptr q.f)).setCell ⟨f,1,none⟩ (.slice A3 n (cap-1))).setCell ⟨f,2,none⟩ (.int .i64 (idx+1:Nat)))):=Lib.hid (by
  intro A3 iZ
  have ae:ab (·=f) w w2:=(O1.out.drew).trans (ab.aD au.out _)
  have aq:=(((ab.refl (·=f) w2).setCell (p:=⟨f,3,none⟩) (.inl rfl) (ptr q.f)).setCell (p:=⟨f,1,none⟩) (.inl rfl) (.slice A3 n (cap-1))).setCell (p:=⟨f,2,none⟩) (.inl rfl) (.int .i64 (idx+1:Nat))
  have ay:=((B2.out.store 3 (ptr q.f)).store 1 (.slice A3 n (cap-1))).store 2 (.int .i64 (idx+1:Nat))
  rw [UD] at ay
  refine eL.out _ A3 q C hI.out (A7 hC.out aq (fun x hx e=>I9 B2.out (by decide) hC.out hx e)) (fun x hx=>Nat.le_trans O1.out.size (hq.out x hx)) (ae.trans aq) ay iZ)
 have B3:=B2.out.store 3 (ptr q.f)
 have R3:=R2.out.aA (p:=⟨f,3,none⟩) (fun e=>aH e.symm) (ptr q.f)
 obtain ⟨w3,dR⟩:∃ w3,w3=w2.setCell ⟨f,3,none⟩ (ptr q.f):=⟨_,rfl⟩
 rw [<-dR] at B3 R3 hE ⊢
 clear c0 c1 c3 z3 lf lb d0 d1 d2 d3
 have c1:=B3.cell 1
 have c2:=B3.cell 2
 simp [dD] at c1 c2
 have z1:=B3.frozen 1
 have z2:=B3.frozen 2
 have lf:=B3.lt
 have XF:(idx:Int)<=1000:=by omega
 have hle:(1:Int)<=n+1:=by omega
 have jh:(n:Int)<=1000:=by omega
 clear dR bf hl hb eL hN O1 B1 R1 hq au hC hI aH fT B2 R2 B3 R3
 by_cases h1:cap=1
 ·obtain rfl:n=0:=by omega
  subst h1
  simp only [Nat.zero_add] at c1
  have hF:=Lib.hid (hE.out (some ⟨b,o,none⟩) (by simp [oK]))
  clear hE
  go_wp2_with fail
  go_end0
  exact hF.out
 ·have hF:=Lib.hid (hE.out (some ⟨b,o+4,none⟩) (by simp [oK,h1,Addr.add]))
  clear hE
  go_wp2_with fail
  go_end0
  exact hF.out
end Go.Proofs.YtpanebgakndddaaGreat.Wo
namespace Go.Proofs.YtpanebgakndddaaGreat.Wo
open Go Go.RowKit Hp K Fl Rw Hm Ar Mm Me LK Qs Wk Pc Pn Mq Pu Zp Mx cK Bs Zr Ca
set_option maxRecDepth 100000
theorem C3 {f g:Nat} {W:World}:∀ {l:List Value} {o:Nat} {w:World},ab (·=f) W w->W.heap.size<=g->ab (·=f) W (gF w g o l)
 | [],_,_,h,_=>h
 | v::r,o,_,h,hg=>C3 (l:=r) (h.setCell (p:=⟨g,o,none⟩) (.inr hg) v) hg
theorem C4 {f g:Nat} {t:TypeId} {cs:Array Value}:∀ {l:List Value} {o:Nat} {w:World},af w f t cs->f≠g->af (gF w g o l) f t cs
 | [],_,_,h,_=>h
 | v::r,o,_,h,hg=>C4 (l:=r) (h.aA (p:=⟨g,o,none⟩) hg v) hg
theorem UE {num:Int} {A:Option Addr} {n cap:Nat} {ix:Int} {run run':Value} {ew ei eb:Int} {c:Ct}:(dD num A n cap ix run ew ei c eb).setIfInBounds 3 run'=dD num A n cap ix run' ew ei c eb:=by simp [dD]
def C5 (w:World) (a:Wp) (s:Ws) (c:Ct) (C:Cl) (now:Int) (e:Ending) (w':World):Prop:=
 e=.returned (oe s.num s.idx c s.bY now (de C))/\bQ.At w' a ⟨s.num,s.idx+1,s.bY,s.left,none⟩/\ab (·=a.f) w w'
def dW (num idx:Int) (c:Ct) (bY en:Int) (x:An):Array Value:=#[.int .i64 num,.int .i64 idx,.int .i64 c.kind,.string c.key,.string c.val,.int .i64 c.size,.int .i64 bY,.int .i64 en,.int .i64 x.1,.bool x.2.1,.string x.2.2]
set_option maxHeartbeats 2000000 in
theorem nA {w:World} {a:Wp} {s:Ws} {c:Ct} {C:Cl} (h:bQ.At w a s) (h0:s.run=some (c,C)) (now:Int):
 Calls Tryz.prog 33 #[ptr a.f,.int .i64 now] w (C5 w a s c C now):=by
 have hR:=Lib.hid (fun w1 (hb:Below w.heap.size w w1)=>show Calls Tryz.prog 53 #[ptr a.r.f] w1 fun e w'=>e=.returned (.tuple #[.agg #[.int .i64 (de C).1,.bool (de C).2.1,.string (de C).2.2],.bool C.done])/\Below w1.heap.size w1 w' from AT (Fx (h.run _ h0) hb))
 obtain ⟨hb,hl,hz,hr⟩:=h
 obtain ⟨num,idx,bY,left,run⟩:=s
 obtain ⟨f,A,cap,r⟩:=a
 obtain rfl:run=some (c,C):=h0
 replace hz:left.length<=cap/\idx+cap+1<=1000:=hz
 replace hl:mV w A left:=hl
 replace hb:af w f 77 (dD num A left.length cap (idx+1:Nat) (ptr r.f) num idx c bY):=hb
 have eL:∀ w3,ab (·=f) w w3->af w3 f 77 (dD num A left.length cap (idx+1:Nat) (.pointer none) 0 0 dE 0)->
  C5 w ⟨f,A,cap,r⟩ ⟨num,idx,bY,left,some (c,C)⟩ c C now (.returned (oe num idx c bY now (de C))) w3:=by
  intro w3 hO hB
  refine ⟨rfl,⟨hB,mV.only hl hO (fun x hx hi e=>?_),⟨hz.1,by show idx+1+cap+0<=1000; omega⟩,fun p hp=>?_⟩,hO⟩
  ·exact (mV.ty hl hx hi).apart (bj (show af w x _ _ from e▸hb)) (by decide)
  ·exact absurd hp (by simp)
 have cc:∀ i,w.cell? ⟨f,i,none⟩=(dD num A left.length cap (idx+1:Nat) (ptr r.f) num idx c bY)[i]?:=fun i=>hb.cell i
 have c3:=cc 3
 have c4:=cc 4
 have c5:=cc 5
 have c6:=cc 6
 have c7:=cc 7
 have c8:=cc 8
 have c9:=cc 9
 have c10:=cc 10
 have c11:=cc 11
 have c12:=cc 12
 have c13:=cc 13
 have c14:=cc 14
 simp [dD] at c3 c4 c5 c6 c7 c8 c9 c10 c11 c12 c13 c14
 have lf:=hb.lt
 replace hb:=Lib.hid hb
 replace hl:=Lib.hid hl
 replace eL:=Lib.hid eL
 clear hr
 clear cc
 obtain ⟨kind,key,val,size⟩:=c
 show Calls _ _ #[ptr f,.int .i64 now] w _
 go_enter Tryz.func33,Tryz.ntmps33
 go_upto_region 3 with (fail)
 obtain ⟨w1,aO⟩:∃ w1,w1=(w.alloc (.cells (dW 0 0 dE 0 0 (0,false,⟨#[]⟩)) 46)).alloc (.cells (dW num idx ⟨kind,key,val,size⟩ bY now (0,false,⟨#[]⟩)) 46):=⟨_,rfl⟩
 have d1:Below w.heap.size w w1:=by rw [aO]; exact (below_1 _ _).trans ((below_1 _ _).mono (by simp))
 have e1:af w1 (w.heap.size+1) 46 (dW num idx ⟨kind,key,val,size⟩ bY now (0,false,⟨#[]⟩)):=by
  have:=af.made (w.alloc (.cells (dW 0 0 dE 0 0 (0,false,⟨#[]⟩)) 46)) 46 (dW num idx ⟨kind,key,val,size⟩ bY now (0,false,⟨#[]⟩))
  rw [<-aO] at this
  simpa using this
 have e0:af w1 w.heap.size 46 (dW 0 0 dE 0 0 (0,false,⟨#[]⟩)):=by rw [aO]; exact (af.made w _ _).alloc _
 have Ax:=Lib.hid (hR.out w1 d1)
 obtain ⟨p,hp⟩:∃ p,p=w.heap.size:=⟨_,rfl⟩
 change Code.wp _ _ _ _ ((w.alloc (.cells (dW 0 0 dE 0 0 (0,false,⟨#[]⟩)) 46)).alloc (.cells (dW num idx ⟨kind,key,val,size⟩ bY now (0,false,⟨#[]⟩)) 46))
 rw [<-aO,<-hp]
 rw [<-hp] at e1 e0
 have b1:=hb.out.only (ab.aD d1 (fun _=>False)) (by simp)
 have c3:=b1.cell 3
 simp [dD] at c3
 have qj:f<p:=by omega
 clear c4 c5 c6 c7 c8 c9 c10 c11 c12 c13 c14 hR aO lf
 replace d1:=Lib.hid d1
 replace e1:=Lib.hid e1
 replace e0:=Lib.hid e0
 replace b1:=Lib.hid b1
 clear c3
 have c3:w1.cell? ⟨f,3,none⟩=some (ptr r.f):=b1.out.cell 3
 replace hp:=Lib.hid hp
 go_wp2_with fail
 refine Ax.out.mono ?_
 rintro e w2 ⟨rfl,au⟩
 have x1:=e1.out.only (ab.aD au (fun _=>False)) (by simp)
 have x0:=e0.out.only (ab.aD au (fun _=>False)) (by simp)
 have b2:=b1.out.only (ab.aD au (fun _=>False)) (by simp)
 have d2:Below w.heap.size w w2:=d1.out.trans (au.mono d1.out.size)
 generalize hx:de C=xx at*
 obtain ⟨xe,xh,xv⟩:=xx
 have hE:Hid (C5 w ⟨f,A,cap,r⟩ ⟨num,idx,bY,left,some (⟨kind,key,val,size⟩,C)⟩ ⟨kind,key,val,size⟩ C now (.returned (oe num idx ⟨kind,key,val,size⟩ bY now (xe,xh,xv)))
  (gF (gF ((gF w2 (p+1) 8 [.int .i64 xe,.bool xh,.string xv]).setCell ⟨f,3,none⟩ (.pointer none)) f 4 (lC 0 0 dE 0)) p 0 [.int .i64 num,.int .i64 idx,.int .i64 kind,.string key,.string val,.int .i64 size,.int .i64 bY,.int .i64 now,.int .i64 xe,.bool xh,.string xv])):=Lib.hid (by
  have fK:=d2.size
  have tq:=hp.out
  have o1:ab (·=f) w (gF w2 (p+1) 8 [.int .i64 xe,.bool xh,.string xv]):=C3 (ab.aD d2 _) (by omega)
  have q1:=C4 (l:=[.int .i64 xe,.bool xh,.string xv]) (g:=p+1) (o:=8) b2 (by omega)
  generalize gF w2 (p+1) 8 [.int .i64 xe,.bool xh,.string xv]=w3 at*
  have o2:=o1.setCell (p:=⟨f,3,none⟩) (.inl rfl) (.pointer none)
  have q2:=q1.store 3 (.pointer none)
  rw [UE] at q2
  generalize w3.setCell ⟨f,3,none⟩ (.pointer none)=w4 at*
  have o3:ab (·=f) w (gF w4 f 4 (lC 0 0 dE 0)):=sB o2
  have q3:af (gF w4 f 4 (lC 0 0 dE 0)) f 77 (ui _ 4 (lC 0 0 dE 0)):=C2 q2
  rw [Jb] at q3
  generalize gF w4 f 4 (lC 0 0 dE 0)=w5 at*
  have o4:=C3 (l:=[.int .i64 num,.int .i64 idx,.int .i64 kind,.string key,.string val,.int .i64 size,.int .i64 bY,.int .i64 now,.int .i64 xe,.bool xh,.string xv]) (g:=p) (o:=0) o3 (by omega)
  have q4:=C4 (l:=[.int .i64 num,.int .i64 idx,.int .i64 kind,.string key,.string val,.int .i64 size,.int .i64 bY,.int .i64 now,.int .i64 xe,.bool xh,.string xv]) (g:=p) (o:=0) q3 (by omega)
  exact eL.out _ o4 q4)
 have u0:=x1.cell 0
 have u1:=x1.cell 1
 have u2:=x1.cell 2
 have u3:=x1.cell 3
 have u4:=x1.cell 4
 have u5:=x1.cell 5
 have u6:=x1.cell 6
 have u7:=x1.cell 7
 have u8:=x1.cell 8
 have u9:=x1.cell 9
 have u10:=x1.cell 10
 have v8:=x1.frozen 8
 have v9:=x1.frozen 9
 have v10:=x1.frozen 10
 have f3:=b2.cell 3
 have y3:=b2.frozen 3
 have f4:=b2.cell 4
 have y4:=b2.frozen 4
 have f5:=b2.cell 5
 have y5:=b2.frozen 5
 have f6:=b2.cell 6
 have y6:=b2.frozen 6
 have f7:=b2.cell 7
 have y7:=b2.frozen 7
 have f8:=b2.cell 8
 have y8:=b2.frozen 8
 have f9:=b2.cell 9
 have y9:=b2.frozen 9
 have f10:=b2.cell 10
 have y10:=b2.frozen 10
 have f11:=b2.cell 11
 have y11:=b2.frozen 11
 have f12:=b2.cell 12
 have y12:=b2.frozen 12
 have f13:=b2.cell 13
 have y13:=b2.frozen 13
 have f14:=b2.cell 14
 have y14:=b2.frozen 14
 have s0:=x0.cell 0
 have t0:=x0.frozen 0
 have s1:=x0.cell 1
 have t1:=x0.frozen 1
 have s2:=x0.cell 2
 have t2:=x0.frozen 2
 have s3:=x0.cell 3
 have t3:=x0.frozen 3
 have s4:=x0.cell 4
 have t4:=x0.frozen 4
 have s5:=x0.cell 5
 have t5:=x0.frozen 5
 have s6:=x0.cell 6
 have t6:=x0.frozen 6
 have s7:=x0.cell 7
 have t7:=x0.frozen 7
 have s8:=x0.cell 8
 have t8:=x0.frozen 8
 have s9:=x0.cell 9
 have t9:=x0.frozen 9
 have s10:=x0.cell 10
 have t10:=x0.frozen 10
 simp [dD,dW] at u0 u1 u2 u3 u4 u5 u6 u7 u8 u9 u10 f3 f4 f5 f6 f7 f8 f9 f10 f11 f12 f13 f14 s0 s1 s2 s3 s4 s5 s6 s7 s8 s9 s10
 have lf:=b2.lt
 have l1:=x1.lt
 have Ad:f≠p+1:=by omega
 have Ae:f≠p:=by omega
 clear Ax au x1 x0 b2 d2 eL hb hl d1 e1 e0 b1 c3 hp
 go_wp2_with fail
 exact bodyPost_ret (v:=.agg #[.int .i64 num,.int .i64 idx,.int .i64 kind,.string key,.string val,.int .i64 size,.int .i64 bY,.int .i64 now,.int .i64 xe,.bool xh,.string xv])
  (by simp [results,Tryz.results33,go_sem, *]) rfl hE.out
end Go.Proofs.YtpanebgakndddaaGreat.Wo
namespace Go.Proofs.YtpanebgakndddaaGreat.Wo
open Go Go.RowKit Hp K Fl Rw Hm Ar Mm Me LK Qs Wk Pc Pn Mq Pu Zp Mx cK Bs Zr Ca
set_option maxRecDepth 100000
section
variable {w w0 w1 w2 w3:World} {M:Mo} {a a1:Wp} {s s1:Ws} {c:Ct} {C C':Cl} {L':Lm}
theorem Ls (hM:ah w M) (h:bQ.At w a s) (ok:∀ p,s.run=some p->jB (lm M) p.2):Calls Tryz.prog 12 #[ptr (bQ.f a),ptr M.m] w fun e w'=>e=.returned (.bool (match s.run with | none=>decide (s.left≠[]) | some p=>iA (lm M) p.2))/\Below w.heap.size w w':=by
 have hL:=AL h
 have hC:=fun p hp=>Fy hM (h.run p hp) (ok p hp)
 obtain ⟨hb,hl,hz,hr⟩:=h
 obtain ⟨num,idx,bY,left,run⟩:=s
 obtain ⟨f,A,cap,r⟩:=a
 have hL:Calls Tryz.prog 11 #[ptr f] w fun e w'=>e=.returned (.bool (decide (run.isSome=true\/left≠[])))/\Below w.heap.size w w':=hL
 have c3:=hb.cell 3
 cases run with
 | none=>
   simp [oJ,dD] at c3
   have e:decide ((none:Option (Ct×Cl)).isSome=true\/left≠[])=decide (left≠[]):=by
    congr 1
    simp
   rw [e] at hL
   show Calls Tryz.prog 12 #[ptr f,ptr M.m] w fun e w'=>e=.returned (.bool (decide (left≠[])))/\Below w.heap.size w w'
   generalize decide (left≠[])=q at*
   replace hL:=Lib.hid hL
   clear e hb hl hr hC ok hM hz
   go_enter Tryz.func12,Tryz.ntmps12
   go_wp2_with fail
   refine hL.out.mono ?_
   rintro e w' ⟨rfl,hb⟩
   replace hb:=Lib.hid hb
   clear hL c3
   go_wp2_with fail
   go_ret
   exact ⟨rfl,hb.out⟩
 | some p=>
   simp [oJ,dD] at c3
   have hC:Calls Tryz.prog 29 #[ptr r.f,ptr M.m] w fun e w'=>e=.returned (.bool (iA (lm M) p.2))/\Below w.heap.size w w':=hC p rfl
   show Calls Tryz.prog 12 #[ptr f,ptr M.m] w fun e w'=>e=.returned (.bool (iA (lm M) p.2))/\Below w.heap.size w w'
   generalize iA (lm M) p.2=q at*
   replace hC:=Lib.hid hC
   clear hL hb hl hr ok hM hz
   go_enter Tryz.func12,Tryz.ntmps12
   go_wp2_with fail
   refine hC.out.mono ?_
   rintro e w' ⟨rfl,hb⟩
   replace hb:=Lib.hid hb
   clear hC c3
   go_wp2_with fail
   go_ret
   exact ⟨rfl,hb.out⟩
end
end Go.Proofs.YtpanebgakndddaaGreat.Wo
namespace Go.Proofs.YtpanebgakndddaaGreat.Wo
open Go Go.RowKit Hp K Fl Rw Hm Ar Mm Me LK Qs Wk Pc Pn Mq Pu Zp Mx cK Bs Zr Ca
set_option maxRecDepth 100000
section
variable {w w0 w1 w2 w3:World} {M:Mo} {a a1:Wp} {s s1 s2:Ws} {c:Ct} {C C':Cl} {L':Lm} {e:Ending} {now:Int}
theorem UF (hM:ah w M) (h:bQ.At w a s) (hO:ab (·=a.f) w w1) (h1:bQ.At w1 a1 s1) (hf:a1.f=a.f) (n7:∀ x,bQ.aR a1 s1 x->bQ.aR a s x\/w.heap.size<=x) (hr:s1.run=some (c,C)) (hs:cy.ba w1 M a1.r C L' C' w2):
 bQ.ba w M a s L' {s1 with run:=some (c,C')} w2:=by
 obtain ⟨M',r',q1,q2,q3,q4,q5,q6,q7⟩:=hs
 have av:ah w1 M:=hM.only hO (fun x hx e=>wh h hM (.inl e) hx)
 have mY:=h1.run _ hr
 have cQ:=hO.size
 have ax:=h1.an
 have qi:¬(ao M a1.f\/cy.aR a1.r C a1.f):=fun q=>by
  rcases q with q | q
  ·exact wh h1 av (.inl rfl) q
  ·exact I9 ax (by decide) mY q rfl
 refine ⟨M',{a1 with r:=r'},q1,q2,?_,⟨?_,?_,?_,?_⟩,hf,?_,?_⟩
 ·exact ⟨q3.m,q3.g,q3.lg,q3.ar,fun x hx=>(q3.aR x hx).imp id (fun q=>Nat.le_trans cQ q)⟩
 ·have:=ax.only q7 qi
  have e:oJ {a1 with r:=r'} {s1 with run:=some (c,C')}=oJ a1 s1:=by
   unfold oJ
   rw [hr]
   show dD _ _ _ _ _ (ptr r'.f) _ _ _ _=dD _ _ _ _ _ (ptr a1.r.f) _ _ _ _
   rw [show r'.f=a1.r.f from q5]
  rw [<-e] at this
  exact this
 ·refine h1.jT.only q7 (fun x hl hx q=>?_)
  rcases q with q | q
  ·exact wh h1 av (.inr (.inl ⟨hl,hx⟩)) q
  ·exact za mY q (h1.jT.ty hl hx) (by decide)
 ·have:=h1.sz
  rw [hr] at this
  exact this
 ·intro p hp
  have hp:some (c,C')=some p:=hp
  simp only [Option.some.injEq] at hp
  subst hp
  exact q4
 ·intro x hx
  rcases hx with hx | ⟨hl,hx⟩ | ⟨p,hp,hx⟩
  ·exact .inl (.inl (hx.trans hf))
  ·exact n7 x (.inr (.inl ⟨hl,hx⟩))
  ·have hp:some (c,C')=some p:=hp
   simp only [Option.some.injEq] at hp
   subst hp
   rcases q6 x hx with q | q
   ·exact n7 x (.inr (.inr ⟨_,hr,q⟩))
   ·exact .inr (Nat.le_trans cQ q)
 ·refine (hO.mono (fun x _ q=>.inr (.inl q))).trans' q7 (fun x hx q=>?_)
  rcases q with q | q
  ·exact .inl q
  ·rcases n7 x (.inr (.inr ⟨_,hr,q⟩)) with q | q
   ·exact .inr q
   ·omega
theorem zb (hs:bQ.ba w M a s L' s2 w2) {p:Nat} (hp:w.heap.size<=p) {cs:Array Value} (hb:af w2 p 46 cs) (hO:ab (·=p) w2 w3):bQ.ba w M a s L' s2 w3:=by
 obtain ⟨M',a',q1,q2,q3,q4,q5,q6,q7⟩:=hs
 refine ⟨M',a',q1.only hO (fun x hx e=>?_),q2,q3,AK q4 hO (fun x hx e=>?_),q5,q6,q7.trans' hO (fun x hx e=>?_)⟩
 ·subst e
  exact (q1.ty hx).apart (bj hb) (by decide)
 ·subst e
  rcases hx with hx | ⟨hl,hx⟩ | ⟨p',tq,hx⟩
  ·rw [hx] at hb
   exact (bj hb).apart (bj q4.an) (by decide)
  ·exact (q4.jT.ty hl hx).apart (bj hb) (by decide)
  ·exact za (q4.run _ tq) hx (bj hb) (by decide)
 ·subst e
  omega
theorem UG {r:Cp} (hM:ah w1 M) (hC:cy.At w1 r C) (hs:cy.ba w1 M r C L' C' w2) {p:Nat} {cs:Array Value} (hb:af w1 p 46 cs):af w2 p 46 cs:=by
 obtain ⟨M',r',q1,q2,q3,q4,q5,q6,q7⟩:=hs
 refine hb.only q7 (fun q=>?_)
 rcases q with q | q
 ·exact (hM.ty q).apart (bj hb) (by decide)
 ·exact za hC q (bj hb) (by decide)
end
end Go.Proofs.YtpanebgakndddaaGreat.Wo
namespace Go.Proofs.YtpanebgakndddaaGreat.Wo
open Go Go.RowKit Hp K Fl Rw Hm Ar Mm Me LK Qs Wk Pc Pn Mq Pu Zp Mx cK Bs Zr Ca
set_option maxRecDepth 100000
def wj (w:World) (M:Mo) (a:Wp) (s:Ws) (c:Ct) (C:Cl) (now bY:Int) (left:List Ct) (e:Ending) (w':World):Prop:=
 e=.returned (og s now (lm M) c C bY)/\bQ.ba w M a s (bK (lm M) C).1 (kM s now (lm M) c C bY left) w'
def C6 (w:World) (M:Mo) (a:Wp) (s:Ws) (L':Lm) (s2:Ws) (c:Ct) (C':Cl) (now:Int) (w2:World) (e:Ending) (w3:World):Prop:=
 e=.returned (oe s2.num s2.idx c s2.bY now (de C'))/\bQ.ba w M a s L' ⟨s2.num,s2.idx+1,s2.bY,s2.left,none⟩ w3/\ab (·=a.f) w2 w3
section
variable {w w1 w2 w3:World} {M:Mo} {a a1:Wp} {s s1 s2:Ws} {c:Ct} {C C':Cl} {L':Lm} {now:Int} {f:Nat} {p:Nat}
theorem Jd (hs:bQ.ba w M a s L' s2 w2) (hr:s2.run=some (c,C')) (now:Int):Calls Tryz.prog 33 #[ptr a.f,.int .i64 now] w2 (C6 w M a s L' s2 c C' now w2):=by
 have hs':=hs
 obtain ⟨M',a',q1,q2,q3,q4,q5,q6,q7⟩:=hs
 have:=nA q4 hr now
 rw [show a'.f=a.f from q5] at this
 refine this.mono fun e w3 r=>?_
 obtain ⟨r1,r2,r3⟩:=r
 rw [show a'.f=a.f from q5] at r3
 refine ⟨r1,⟨M',a',q1.only r3 (fun x hx e=>wh q4 q1 (.inl (e.trans q5.symm)) hx),q2,q3,r2,q5,fun x hx=>?_,?_⟩,r3⟩
 ·rcases hx with hx | ⟨hl,hx⟩ | ⟨p,hp,hx⟩
  ·exact q6 x (.inl hx)
  ·exact q6 x (.inr (.inl ⟨hl,hx⟩))
  ·exact absurd hp (by simp)
 ·exact q7.trans (r3.mono (fun x _ e=>.inr (.inl e)))
theorem Je {L:Lm} {bY:Int} {left:List Ct} (h:eu L C=true):kM s now L c C bY left=⟨s.num,s.idx+1,bY,left,none⟩:=by unfold kM; rw [if_pos h]
theorem Jf {L:Lm} {bY:Int} {left:List Ct} (h:eu L C=false):kM s now L c C bY left=⟨s.num,s.idx,bY,left,some (c,(bK L C).2)⟩:=by unfold kM; rw [if_neg (by rw [h]; simp)]
structure dO (w:World) (M:Mo) (a:Wp) (s s1:Ws) (c:Ct) (C:Cl) (f p r:Nat) (w1:World):Prop where
 fa:f=a.f
 res:af w1 p 46 (dW 0 0 dE 0 0 (0,false,⟨#[]⟩))
 pn:w.heap.size<=p
 pf:p≠f
 run:w1.cell? ⟨f,3,none⟩=some (ptr r)
 lt:f<w1.heap.size
 step:Calls Tryz.prog 32 #[ptr r,ptr M.m] w1 fun e w2=>e=.returned (.bool (eu (lm M) C))/\(bQ.ba w M a s (bK (lm M) C).1 {s1 with run:=some (c,(bK (lm M) C).2)} w2/\af w2 p 46 (dW 0 0 dE 0 0 (0,false,⟨#[]⟩)))
theorem C7 (hM:ah w M) (h:bQ.At w a s) (hO:ab (·=a.f) w w1) (h1:bQ.At w1 a1 s1) (hf:a1.f=a.f) (n7:∀ x,bQ.aR a1 s1 x->bQ.aR a s x\/w.heap.size<=x) (hr:s1.run=some (c,C)) (hp:af w1 p 46 (dW 0 0 dE 0 0 (0,false,⟨#[]⟩))) (eQ:w.heap.size<=p)
 (ok:jB (lm M) C) (rd:iA (lm M) C=true):dO w M a s s1 c C a.f p a1.r.f w1:=by
 have av:ah w1 M:=hM.only hO (fun x hx e=>wh h hM (.inl e) hx)
 have hb:=h1.an
 rw [hf] at hb
 refine ⟨rfl,hp,eQ,hp.differ hb (by decide),?_,hb.lt,?_⟩
 ·rw [hb.cell]
  unfold oJ
  rw [hr]
  rfl
 ·refine (Fz av (h1.run _ hr) ok rd).mono fun e w2 q=>⟨q.1,UF hM h hO h1 hf n7 hr q.2,UG av (h1.run _ hr) q.2 hp⟩
end
end Go.Proofs.YtpanebgakndddaaGreat.Wo
namespace Go.Proofs.YtpanebgakndddaaGreat.Wo
open Go Go.RowKit Hp K Fl Rw Hm Ar Mm Me LK Qs Wk Pc Pn Mq Pu Zp Mx cK Bs Zr Ca
set_option maxRecDepth 100000
section
variable {w:World} {M:Mo} {a:Wp} {s:Ws} {c:Ct} {C:Cl}
theorem C8 (h:bQ.At w a s) (hl:s.run.isSome=true\/s.left≠[]) {w1:World} (hb:Below w.heap.size w w1):Calls Tryz.prog 11 #[ptr a.f] w1 fun e w'=>e=.returned (.bool true)/\Below w1.heap.size w1 w':=by
 have:=AL (uh h hb)
 rw [decide_eq_true hl] at this
 exact this
set_option maxHeartbeats 2000000 in
theorem UH (hM:ah w M) (h:bQ.At w a s) (h0:s.run=some (c,C)) (ok:jB (lm M) C) (rd:iA (lm M) C=true) (hd:eu (lm M) C=false) (now:Int):
 Calls Tryz.prog 14 #[ptr a.f,ptr M.m,.int .i64 now] w (wj w M a s c C now s.bY s.left):=by
 have hL:=Lib.hid (fun w1 (hb:Below w.heap.size w w1)=>C8 h (.inl (by rw [h0]; rfl)) hb)
 have hD:=Lib.hid (fun w1 p (hb:Below w.heap.size w w1) (hp:af w1 p 46 (dW 0 0 dE 0 0 (0,false,⟨#[]⟩))) (eQ:w.heap.size<=p)=>C7 hM h (ab.aD hb _) (uh h hb) rfl (fun x q=>.inl q) h0 hp eQ ok rd)
 have hE:=Lib.hid (fun w3 p (eQ:w.heap.size<=p) (q:bQ.ba w M a s (bK (lm M) C).1 {s with run:=some (c,(bK (lm M) C).2)} w3) (q2:af w3 p 46 (dW 0 0 dE 0 0 (0,false,⟨#[]⟩)))=>
  show wj w M a s c C now s.bY s.left (.returned (.tuple #[.agg #[.int .i64 0,.int .i64 0,.int .i64 0,.string ⟨#[]⟩,.string ⟨#[]⟩,.int .i64 0,.int .i64 0,.int .i64 0,.int .i64 0,.bool false,.string ⟨#[]⟩],.bool false])) (gF w3 p 0 [.int .i64 0,.int .i64 0,.int .i64 0,.string ⟨#[]⟩,.string ⟨#[]⟩,.int .i64 0,.int .i64 0,.int .i64 0,.int .i64 0,.bool false,.string ⟨#[]⟩]) from by
   refine ⟨?_,?_⟩
   ·unfold og
    rw [hd]
    rfl
   ·rw [Jf hd]
    exact zb q eQ q2 (sB (ab.refl _ _)))
 generalize hf:a.f=f at*
 generalize xL:a.r.f=rf at*
 clear h hM ok rd h0
 replace hd:=Lib.hid hd
 replace hf:=Lib.hid hf
 replace xL:=Lib.hid xL
 obtain ⟨w1,aO⟩:∃ w1,w1=w.alloc (.cells (dW 0 0 dE 0 0 (0,false,⟨#[]⟩)) 46):=⟨_,rfl⟩
 have d1:Below w.heap.size w w1:=by rw [aO]; exact below_1 _ _
 have e1:af w1 w.heap.size 46 (dW 0 0 dE 0 0 (0,false,⟨#[]⟩)):=by rw [aO]; exact af.made _ _ _
 have gd:=Lib.hid (hL.out w1 d1)
 obtain ⟨p,hp⟩:∃ p,p=w.heap.size:=⟨_,rfl⟩
 rw [<-hp] at e1
 replace d1:=Lib.hid d1
 replace e1:=Lib.hid e1
 clear hL
 go_enter Tryz.func14,Tryz.ntmps14
 go_upto_region 1 with (fail)
 change Code.wp _ _ _ _ (w.alloc (.cells (dW 0 0 dE 0 0 (0,false,⟨#[]⟩)) 46))
 rw [<-aO,<-hp]
 clear aO
 go_wp2_with fail
 refine gd.out.mono ?_
 rintro e w2 ⟨rfl,hb⟩
 have x:=e1.out.only (ab.aD hb (fun _=>False)) (by simp)
 have fS:=hD.out w2 p (d1.out.trans (hb.mono d1.out.size)) x (by omega)
 have c3:=fS.run
 have lf:=fS.lt
 have bs:=fS.step
 have gI:=Lib.hid (hE.out ·p (by omega))
 rw [hd.out] at bs
 replace bs:=Lib.hid bs
 clear x e1 hb d1 gd fS hD hE hp
 go_wp2_with fail
 refine bs.out.mono ?_
 rintro e w3 ⟨rfl,hS,ck⟩
 have hF:=Lib.hid (gI.out w3 hS ck)
 have s0:=ck.cell 0
 have t0:=ck.frozen 0
 have s1:=ck.cell 1
 have t1:=ck.frozen 1
 have s2:=ck.cell 2
 have t2:=ck.frozen 2
 have s3:=ck.cell 3
 have t3:=ck.frozen 3
 have s4:=ck.cell 4
 have t4:=ck.frozen 4
 have s5:=ck.cell 5
 have t5:=ck.frozen 5
 have s6:=ck.cell 6
 have t6:=ck.frozen 6
 have s7:=ck.cell 7
 have t7:=ck.frozen 7
 have s8:=ck.cell 8
 have t8:=ck.frozen 8
 have s9:=ck.cell 9
 have t9:=ck.frozen 9
 have s10:=ck.cell 10
 have t10:=ck.frozen 10
 simp [dW] at s0 s1 s2 s3 s4 s5 s6 s7 s8 s9 s10
 clear hS ck bs gI c3 lf
 go_wp2_with fail
 exact bodyPost_ret (v:=.tuple #[.agg #[.int .i64 0,.int .i64 0,.int .i64 0,.string ⟨#[]⟩,.string ⟨#[]⟩,.int .i64 0,.int .i64 0,.int .i64 0,.int .i64 0,.bool false,.string ⟨#[]⟩],.bool false])
  (by simp [results,Tryz.results14,go_sem, *]) rfl hF.out
set_option maxHeartbeats 2000000 in
theorem UI (hM:ah w M) (h:bQ.At w a s) (h0:s.run=some (c,C)) (ok:jB (lm M) C) (rd:iA (lm M) C=true) (hd:eu (lm M) C=true) (now:Int):
 Calls Tryz.prog 14 #[ptr a.f,ptr M.m,.int .i64 now] w (wj w M a s c C now s.bY s.left):=by
 have hL:=Lib.hid (fun w1 (hb:Below w.heap.size w w1)=>C8 h (.inl (by rw [h0]; rfl)) hb)
 have hD:=Lib.hid (fun w1 p (hb:Below w.heap.size w w1) (hp:af w1 p 46 (dW 0 0 dE 0 0 (0,false,⟨#[]⟩))) (eQ:w.heap.size<=p)=>C7 hM h (ab.aD hb _) (uh h hb) rfl (fun x q=>.inl q) h0 hp eQ ok rd)
 have hN:=Lib.hid (fun w3 (q:bQ.ba w M a s (bK (lm M) C).1 {s with run:=some (c,(bK (lm M) C).2)} w3)=>Jd q rfl now)
 have hE:=Lib.hid (fun w3 w4 p e (eQ:w.heap.size<=p) (qj:p≠a.f) (q:C6 w M a s (bK (lm M) C).1 {s with run:=some (c,(bK (lm M) C).2)} c (bK (lm M) C).2 now w3 e w4) (q2:af w3 p 46 (dW 0 0 dE 0 0 (0,false,⟨#[]⟩)))=>
  show e=.returned (.agg #[.int .i64 s.num,.int .i64 s.idx,.int .i64 c.kind,.string c.key,.string c.val,.int .i64 c.size,.int .i64 s.bY,.int .i64 now,.int .i64 (de (bK (lm M) C).2).1,.bool (de (bK (lm M) C).2).2.1,.string (de (bK (lm M) C).2).2.2])/\af w4 p 46 (dW 0 0 dE 0 0 (0,false,⟨#[]⟩))/\
   wj w M a s c C now s.bY s.left (.returned (.tuple #[.agg #[.int .i64 s.num,.int .i64 s.idx,.int .i64 c.kind,.string c.key,.string c.val,.int .i64 c.size,.int .i64 s.bY,.int .i64 now,.int .i64 (de (bK (lm M) C).2).1,.bool (de (bK (lm M) C).2).2.1,.string (de (bK (lm M) C).2).2.2],.bool true])) (gF w4 p 0 [.int .i64 s.num,.int .i64 s.idx,.int .i64 c.kind,.string c.key,.string c.val,.int .i64 c.size,.int .i64 s.bY,.int .i64 now,.int .i64 (de (bK (lm M) C).2).1,.bool (de (bK (lm M) C).2).2.1,.string (de (bK (lm M) C).2).2.2]) from by
   obtain ⟨q1,q3,q4⟩:=q
   have hb:=q2.only q4 qj
   refine ⟨q1,hb,?_,?_⟩
   ·unfold og
    rw [hd]
    rfl
   ·rw [Je hd]
    exact zb q3 eQ hb (sB (ab.refl _ _)))
 obtain ⟨kind,key,val,size⟩:=c
 obtain ⟨num,idx,bY,left,run⟩:=s
 generalize hx:de (bK (lm M) C).2=xx at*
 obtain ⟨xe,xh,xv⟩:=xx
 simp only at hE hN
 generalize hf:a.f=f at*
 generalize xL:a.r.f=rf at*
 clear h hM ok rd h0
 replace hd:=Lib.hid hd
 replace hx:=Lib.hid hx
 replace hf:=Lib.hid hf
 replace xL:=Lib.hid xL
 obtain ⟨w1,aO⟩:∃ w1,w1=w.alloc (.cells (dW 0 0 dE 0 0 (0,false,⟨#[]⟩)) 46):=⟨_,rfl⟩
 have d1:Below w.heap.size w w1:=by rw [aO]; exact below_1 _ _
 have e1:af w1 w.heap.size 46 (dW 0 0 dE 0 0 (0,false,⟨#[]⟩)):=by rw [aO]; exact af.made _ _ _
 have gd:=Lib.hid (hL.out w1 d1)
 obtain ⟨p,hp⟩:∃ p,p=w.heap.size:=⟨_,rfl⟩
 rw [<-hp] at e1
 replace d1:=Lib.hid d1
 replace e1:=Lib.hid e1
 clear hL
 go_enter Tryz.func14,Tryz.ntmps14
 go_upto_region 1 with (fail)
 change Code.wp _ _ _ _ (w.alloc (.cells (dW 0 0 dE 0 0 (0,false,⟨#[]⟩)) 46))
 rw [<-aO,<-hp]
 clear aO
 go_wp2_with fail
 refine gd.out.mono ?_
 rintro e w2 ⟨rfl,hb⟩
 have x:=e1.out.only (ab.aD hb (fun _=>False)) (by simp)
 have fS:=hD.out w2 p (d1.out.trans (hb.mono d1.out.size)) x (by omega)
 have c3:=fS.run
 have lf:=fS.lt
 have bs:=fS.step
 have qj:=fS.pf
 have gI:=Lib.hid (fun w3 w4 e=>hE.out w3 w4 p e (by omega) qj)
 rw [hd.out] at bs
 replace bs:=Lib.hid bs
 clear x e1 hb d1 gd fS hD hE hp
 go_wp2_with fail
 refine bs.out.mono ?_
 rintro e w3 ⟨rfl,hS,ck⟩
 have eN:=Lib.hid (hN.out w3 hS)
 have nY:=Lib.hid (fun w4 e q=>gI.out w3 w4 e q ck)
 clear hS ck bs gI c3 lf hN
 go_wp2_with fail
 refine eN.out.mono ?_
 rintro e w4 q
 obtain ⟨rfl,az,hF⟩:=nY.out w4 e q
 have s0:=az.cell 0
 have t0:=az.frozen 0
 have s1:=az.cell 1
 have t1:=az.frozen 1
 have s2:=az.cell 2
 have t2:=az.frozen 2
 have s3:=az.cell 3
 have t3:=az.frozen 3
 have s4:=az.cell 4
 have t4:=az.frozen 4
 have s5:=az.cell 5
 have t5:=az.frozen 5
 have s6:=az.cell 6
 have t6:=az.frozen 6
 have s7:=az.cell 7
 have t7:=az.frozen 7
 have s8:=az.cell 8
 have t8:=az.frozen 8
 have s9:=az.cell 9
 have t9:=az.frozen 9
 have s10:=az.cell 10
 have t10:=az.frozen 10
 simp [dW] at s0 s1 s2 s3 s4 s5 s6 s7 s8 s9 s10
 replace hF:=Lib.hid hF
 clear q az nY eN
 go_wp2_with fail
 exact bodyPost_ret (v:=.tuple #[.agg #[.int .i64 num,.int .i64 idx,.int .i64 kind,.string key,.string val,.int .i64 size,.int .i64 bY,.int .i64 now,.int .i64 xe,.bool xh,.string xv],.bool true])
  (by simp [results,Tryz.results14,go_sem, *]) rfl hF.out
end
end Go.Proofs.YtpanebgakndddaaGreat.Wo
namespace Go.Proofs.YtpanebgakndddaaGreat.Wo
open Go Go.RowKit Hp K Fl Rw Hm Ar Mm Me LK Qs Wk Pc Pn Mq Pu Zp Mx cK Bs Zr Ca
set_option maxRecDepth 100000
def C9 (w:World) (M:Mo) (a:Wp) (s:Ws) (c:Ct) (t:List Ct) (now:Int) (e:Ending) (w':World):Prop:=∃ C,jA s.num c C/\wj w M a s c C now now t e w'
section
variable {w w2 w3:World} {M:Mo} {a:Wp} {s:Ws} {c:Ct} {C:Cl} {t:List Ct} {p:Nat} {now:Int} {e:Ending}
theorem UJ (hM:ah w M) (h:bQ.At w a s) (h0:s.run=none) (h1:s.left=c::t) (hb:Below w.heap.size w w2) (hB:wi w2 a s c t now e w3) (ok:∀ C,jA s.num c C->jB (lm M) C/\iA (lm M) C=true)
 (hp:af w2 p 46 (dW 0 0 dE 0 0 (0,false,⟨#[]⟩))) (eQ:w.heap.size<=p):e=.returned (.tuple #[])/\∃ C r,jA s.num c C/\dO w M a s ⟨s.num,s.idx,now,t,some (c,C)⟩ c C a.f p r w3:=by
 obtain ⟨q0,r,C,q1,q2,q3,q4⟩:=hB
 have hO:ab (·=a.f) w w3:=(ab.aD hb _).trans q4
 have ct:=(uh h hb).an
 refine ⟨q0,C,r.f,q1,C7 (a1:=⟨a.f,oK a.A a.cap,a.cap-1,r⟩) hM h hO q2 rfl (fun x hx=>?_) rfl (hp.only q4 (fun q=>hp.differ ct (by decide) q)) eQ (ok C q1).1 (ok C q1).2⟩
 rcases hx with hx | ⟨hl,hx⟩ | ⟨p',tq,hx⟩
 ·exact .inl (.inl hx)
 ·exact .inl (.inr (.inl ⟨by rw [h1]; simp,Ja.1 hx⟩))
 ·have tq:some (c,C)=some p':=tq
  simp only [Option.some.injEq] at tq
  subst tq
  exact .inr (Nat.le_trans hb.size (q3 x hx))
set_option maxHeartbeats 2000000 in
theorem UK (hM:ah w M) (h:bQ.At w a s) (h0:s.run=none) (h1:s.left=c::t) (hk:c.key.size<=maxLen) (ok:∀ C,jA s.num c C->jB (lm M) C/\iA (lm M) C=true) (now:Int):
 Calls Tryz.prog 14 #[ptr a.f,ptr M.m,.int .i64 now] w (C9 w M a s c t now):=by
 have hL:=Lib.hid (fun w1 (hb:Below w.heap.size w w1)=>C8 h (.inr (by rw [h1]; simp)) hb)
 have qT:=Lib.hid (fun w1 (hb:Below w.heap.size w w1)=>show w1.cell? ⟨a.f,3,none⟩=some (.pointer none) from by
  have ax:=(uh h hb).an
  rw [ax.cell]
  unfold oJ
  rw [h0]
  rfl)
 have hG:=Lib.hid (fun w1 (hb:Below w.heap.size w w1)=>yS (uh h hb) h0 h1 hk now)
 have hD:=Lib.hid (fun w2 w3 p e (hb:Below w.heap.size w w2) (hB:wi w2 a s c t now e w3) (hp:af w2 p 46 (dW 0 0 dE 0 0 (0,false,⟨#[]⟩))) (eQ:w.heap.size<=p)=>UJ hM h h0 h1 hb hB ok hp eQ)
 have hE:=Lib.hid (fun w3 p C (hI:jA s.num c C) (hd:eu (lm M) C=false) (eQ:w.heap.size<=p) (q:bQ.ba w M a s (bK (lm M) C).1 ⟨s.num,s.idx,now,t,some (c,(bK (lm M) C).2)⟩ w3) (q2:af w3 p 46 (dW 0 0 dE 0 0 (0,false,⟨#[]⟩)))=>
  show C9 w M a s c t now (.returned (.tuple #[.agg #[.int .i64 0,.int .i64 0,.int .i64 0,.string ⟨#[]⟩,.string ⟨#[]⟩,.int .i64 0,.int .i64 0,.int .i64 0,.int .i64 0,.bool false,.string ⟨#[]⟩],.bool false])) (gF w3 p 0 [.int .i64 0,.int .i64 0,.int .i64 0,.string ⟨#[]⟩,.string ⟨#[]⟩,.int .i64 0,.int .i64 0,.int .i64 0,.int .i64 0,.bool false,.string ⟨#[]⟩]) from by
   refine ⟨C,hI,?_,?_⟩
   ·unfold og
    rw [hd]
    rfl
   ·rw [Jf hd]
    exact zb q eQ q2 (sB (ab.refl _ _)))
 have hN:=Lib.hid (fun w3 C (q:bQ.ba w M a s (bK (lm M) C).1 ⟨s.num,s.idx,now,t,some (c,(bK (lm M) C).2)⟩ w3)=>Jd q rfl now)
 have hY:=Lib.hid (fun w3 w4 p e C (hI:jA s.num c C) (hd:eu (lm M) C=true) (eQ:w.heap.size<=p) (qj:p≠a.f) (q:C6 w M a s (bK (lm M) C).1 ⟨s.num,s.idx,now,t,some (c,(bK (lm M) C).2)⟩ c (bK (lm M) C).2 now w3 e w4) (q2:af w3 p 46 (dW 0 0 dE 0 0 (0,false,⟨#[]⟩)))=>
  show e=.returned (.agg #[.int .i64 s.num,.int .i64 s.idx,.int .i64 c.kind,.string c.key,.string c.val,.int .i64 c.size,.int .i64 now,.int .i64 now,.int .i64 (de (bK (lm M) C).2).1,.bool (de (bK (lm M) C).2).2.1,.string (de (bK (lm M) C).2).2.2])/\af w4 p 46 (dW 0 0 dE 0 0 (0,false,⟨#[]⟩))/\
   C9 w M a s c t now (.returned (.tuple #[.agg #[.int .i64 s.num,.int .i64 s.idx,.int .i64 c.kind,.string c.key,.string c.val,.int .i64 c.size,.int .i64 now,.int .i64 now,.int .i64 (de (bK (lm M) C).2).1,.bool (de (bK (lm M) C).2).2.1,.string (de (bK (lm M) C).2).2.2],.bool true])) (gF w4 p 0 [.int .i64 s.num,.int .i64 s.idx,.int .i64 c.kind,.string c.key,.string c.val,.int .i64 c.size,.int .i64 now,.int .i64 now,.int .i64 (de (bK (lm M) C).2).1,.bool (de (bK (lm M) C).2).2.1,.string (de (bK (lm M) C).2).2.2]) from by
   obtain ⟨q1,q3,q4⟩:=q
   have hb:=q2.only q4 qj
   refine ⟨q1,hb,C,hI,?_,?_⟩
   ·unfold og
    rw [hd]
    rfl
   ·rw [Je hd]
    exact zb q3 eQ hb (sB (ab.refl _ _)))
 obtain ⟨kind,key,val,size⟩:=c
 obtain ⟨num,idx,bY,left,run⟩:=s
 simp only at hE hN hY hD
 generalize hf:a.f=f at*
 clear h hM ok h0 h1 hk
 replace hf:=Lib.hid hf
 obtain ⟨w1,aO⟩:∃ w1,w1=w.alloc (.cells (dW 0 0 dE 0 0 (0,false,⟨#[]⟩)) 46):=⟨_,rfl⟩
 have d1:Below w.heap.size w w1:=by rw [aO]; exact below_1 _ _
 have e1:af w1 w.heap.size 46 (dW 0 0 dE 0 0 (0,false,⟨#[]⟩)):=by rw [aO]; exact af.made _ _ _
 have gd:=Lib.hid (hL.out w1 d1)
 obtain ⟨p,hp⟩:∃ p,p=w.heap.size:=⟨_,rfl⟩
 rw [<-hp] at e1
 replace d1:=Lib.hid d1
 replace e1:=Lib.hid e1
 clear hL
 go_enter Tryz.func14,Tryz.ntmps14
 go_upto_region 1 with (fail)
 change Code.wp _ _ _ _ (w.alloc (.cells (dW 0 0 dE 0 0 (0,false,⟨#[]⟩)) 46))
 rw [<-aO,<-hp]
 have eQ:w.heap.size<=p:=by omega
 clear aO hp
 go_wp2_with fail
 refine gd.out.mono ?_
 rintro e w2 ⟨rfl,hb⟩
 have d2:=d1.out.trans (hb.mono d1.out.size)
 have x:=e1.out.only (ab.aD hb (fun _=>False)) (by simp)
 have du:=Lib.hid (hG.out w2 d2)
 have dL:=Lib.hid (fun w3 e q=>hD.out w2 w3 p e d2 q x eQ)
 have c3:=qT.out w2 d2
 clear x e1 hb d1 gd hD qT hG d2
 go_wp2_with fail
 refine du.out.mono ?_
 intro e w3 q
 obtain ⟨rfl,C,rf,hI,fS⟩:=dL.out w3 e q
 clear c3 q du dL
 have c3:=fS.run
 have lf:=fS.lt
 have bs:=fS.step
 have qj:=fS.pf
 have gI:=Lib.hid (fun w3 hd=>hE.out w3 p C hI hd eQ)
 have dc:=Lib.hid (fun w3 w4 e hd=>hY.out w3 w4 p e C hI hd eQ qj)
 have lH:=Lib.hid (fun w3=>hN.out w3 C)
 clear fS hE hY hN eQ hI qj
 cases hd:eu (lm M) C with
 | false=>
   rw [hd] at bs
   have nY:=Lib.hid (fun w3=>gI.out w3 hd)
   replace bs:=Lib.hid bs
   clear gI dc lH hd
   go_wp2_with fail
   refine bs.out.mono ?_
   rintro e w4 ⟨rfl,hS,ck⟩
   have hF:=Lib.hid (nY.out w4 hS ck)
   have s0:=ck.cell 0
   have t0:=ck.frozen 0
   have s1:=ck.cell 1
   have t1:=ck.frozen 1
   have s2:=ck.cell 2
   have t2:=ck.frozen 2
   have s3:=ck.cell 3
   have t3:=ck.frozen 3
   have s4:=ck.cell 4
   have t4:=ck.frozen 4
   have s5:=ck.cell 5
   have t5:=ck.frozen 5
   have s6:=ck.cell 6
   have t6:=ck.frozen 6
   have s7:=ck.cell 7
   have t7:=ck.frozen 7
   have s8:=ck.cell 8
   have t8:=ck.frozen 8
   have s9:=ck.cell 9
   have t9:=ck.frozen 9
   have s10:=ck.cell 10
   have t10:=ck.frozen 10
   simp [dW] at s0 s1 s2 s3 s4 s5 s6 s7 s8 s9 s10
   clear hS ck bs nY c3 lf
   go_wp2_with fail
   exact bodyPost_ret (v:=.tuple #[.agg #[.int .i64 0,.int .i64 0,.int .i64 0,.string ⟨#[]⟩,.string ⟨#[]⟩,.int .i64 0,.int .i64 0,.int .i64 0,.int .i64 0,.bool false,.string ⟨#[]⟩],.bool false])
    (by simp [results,Tryz.results14,go_sem, *]) rfl hF.out
 | true=>
   rw [hd] at bs
   have kH:=Lib.hid (fun w3 w4 e=>dc.out w3 w4 e hd)
   replace bs:=Lib.hid bs
   clear gI dc hd
   generalize hx:de (bK (lm M) C).2=xx at*
   obtain ⟨xe,xh,xv⟩:=xx
   simp only at kH
   replace hx:=Lib.hid hx
   go_wp2_with fail
   refine bs.out.mono ?_
   rintro e w4 ⟨rfl,hS,ck⟩
   have eN:=Lib.hid (lH.out w4 hS)
   have nY:=Lib.hid (fun w5 e q=>kH.out w4 w5 e q ck)
   clear hS ck bs kH c3 lf lH
   go_wp2_with fail
   refine eN.out.mono ?_
   rintro e w5 q
   obtain ⟨rfl,az,hF⟩:=nY.out w5 e q
   have s0:=az.cell 0
   have t0:=az.frozen 0
   have s1:=az.cell 1
   have t1:=az.frozen 1
   have s2:=az.cell 2
   have t2:=az.frozen 2
   have s3:=az.cell 3
   have t3:=az.frozen 3
   have s4:=az.cell 4
   have t4:=az.frozen 4
   have s5:=az.cell 5
   have t5:=az.frozen 5
   have s6:=az.cell 6
   have t6:=az.frozen 6
   have s7:=az.cell 7
   have t7:=az.frozen 7
   have s8:=az.cell 8
   have t8:=az.frozen 8
   have s9:=az.cell 9
   have t9:=az.frozen 9
   have s10:=az.cell 10
   have t10:=az.frozen 10
   simp [dW] at s0 s1 s2 s3 s4 s5 s6 s7 s8 s9 s10
   replace hF:=Lib.hid hF
   clear q az nY eN
   go_wp2_with fail
   exact bodyPost_ret (v:=.tuple #[.agg #[.int .i64 num,.int .i64 idx,.int .i64 kind,.string key,.string val,.int .i64 size,.int .i64 now,.int .i64 now,.int .i64 xe,.bool xh,.string xv],.bool true])
    (by simp [results,Tryz.results14,go_sem, *]) rfl hF.out
end
end Go.Proofs.YtpanebgakndddaaGreat.Wo
namespace Go.Proofs.YtpanebgakndddaaGreat.Wo
open Go Go.RowKit Hp K Fl Rw Hm Ar Mm Me LK Qs Wk Pc Pn Mq Pu Zp Mx cK Bs Zr Ca
set_option maxRecDepth 100000
theorem UL:(Tryz.prog.info? 31).map (fun i=>(i.zero,i.size,i.bytes))=some (some (.agg #[.int .i64 0,.string ⟨#[]⟩,.string ⟨#[]⟩,.int .i64 0]),4,48):=by kernel_rfl
def mj (c:Ct):List Value:=[.int .i64 c.kind,.string c.key,.string c.val,.int .i64 c.size]
theorem zc (c:Ct):(mj c).length=4:=rfl
theorem UM (l:List Ct):∀ v∈l.flatMap mj,v.oneCell'=true:=by
 intro v hv
 obtain ⟨c,_,hc⟩:=List.mem_flatMap.1 hv
 simp [mj] at hc
 rcases hc with rfl | rfl | rfl | rfl<;>rfl
theorem UN {w:World} {A:Option Addr} {l:List Ct} (h:Ba w A l) (hl:l.length≠0):∃ a,A=some a/\∀ j v,(l.flatMap mj)[j]?=some v->w.cell? (a.add j)=some v:=by
 obtain ⟨b,o,hA,hb,_⟩:=h 0 (by omega)
 refine ⟨⟨b,o,none⟩,hA,fun j v hv=>?_⟩
 have hj:j<(l.flatMap mj).length:=(List.getElem?_eq_some_iff.1 hv).1
 rw [lU zc] at hj
 have e:j=j / 4*4+j % 4:=by omega
 have hm:j % 4<4:=by omega
 have hi:j / 4<l.length:=by omega
 rw [e,ob zc _ _ _ hm] at hv
 rw [Addr.add_lit]
 obtain ⟨b',o',dq,cN,k0,k1,k2,k3,_⟩:=h (j / 4) hi
 rw [hA] at dq
 simp only [Option.some.injEq,Addr.mk.injEq] at dq
 obtain ⟨rfl,rfl,_⟩:=dq
 have hx:l[j / 4]?=some (cat l (j / 4)):=by simp [cat,List.getD,hi]
 rw [hx] at hv
 simp only [Option.bind_some] at hv
 generalize j / 4=i at*
 generalize j % 4=m at*
 subst e
 rw [show o+(i*4+m)=o+i*4+m by omega]
 have:m=0\/m=1\/m=2\/m=3:=by omega
 rcases this with rfl | rfl | rfl | rfl
 ·rw [show o+i*4+0=o+i*4 by omega,k0]; exact hv
 ·rw [k1]; exact hv
 ·rw [k2]; exact hv
 ·rw [k3]; exact hv
def Da (W:World) (i:Nat) (l:List Ct) (e:Ending) (w':World):Prop:=∃ a,e=.returned (ptr (bQ.f a))/\bQ.At w' a ⟨i,0,0,l,none⟩/\(∀ x,bQ.aR a ⟨i,0,0,l,none⟩ x->W.heap.size<=x)/\Below W.heap.size W w'
set_option maxHeartbeats 2000000 in
theorem UO (i:Nat) (l:List Ct) (A:Option Addr) (cap:Nat) (W:World) (hl:l.length<=1000) (hA:Ba W A l):Calls Tryz.prog 7 #[.int .i64 i,.slice A l.length cap] W (Da W i l):=by
 obtain ⟨i0,cW,cP,cT,dh⟩:=info_parts UL
 have cQ:(Tryz.prog.info? 31).map (·.size)=some 4:=by rw [cW]; simp [cT]
 have oQ:=Lib.hid (fun w1 (hb:Below W.heap.size W w1)=>fun h0=>UN (w:=w1) (A:=A) (l:=l) (fun i hi=>by
  obtain ⟨b,o,k0,k1,k2,k3,k4,k5,k6⟩:=hA i hi
  have hc:∀ o,w1.cell? ⟨b,o,none⟩=W.cell? ⟨b,o,none⟩:=fun o=>hb.cell (p:=⟨b,o,none⟩) k1
  exact ⟨b,o,k0,Nat.lt_of_lt_of_le k1 hb.size,by rw [hc]; exact k2,by rw [hc]; exact k3,by rw [hc]; exact k4,by rw [hc]; exact k5,k6⟩) h0)
 have m7:(l.flatMap mj).length=l.length*4:=lU zc l
 have m8:=Lib.hid (UM l)
 have eL:∀ w3 b f cs,W.heap.size<=b->W.heap.size<=f->Below W.heap.size W w3->af w3 b 31 (l.flatMap mj++cs).toArray->af w3 f 77 (dD i (some ⟨b,0,none⟩) l.length l.length 0 (.pointer none) 0 0 dE 0)->Da W i l (.returned (ptr f)) w3:=by
  intro w3 b f cs h1 h2 h3 h4 h5
  refine ⟨⟨f,some ⟨b,0,none⟩,l.length,⟨0,.nilIface,vo,ya,vp⟩⟩,rfl,⟨h5,.inr ⟨b,0,_,rfl,h4,fun j c hj=>?_⟩,⟨Nat.le_refl _,by show 0+l.length+0<=1000; omega⟩,fun p hp=>by simp at hp⟩,fun x hx=>?_,h3⟩
  ·have nh:j<l.length:=(List.getElem?_eq_some_iff.1 hj).1
   have hk:∀ k,k<4->(l.flatMap mj++cs).toArray[0+j*4+k]?=(mj c)[k]?:=fun k hk=>by
    rw [Nat.zero_add,List.getElem?_toArray,List.getElem?_append_left (by rw [m7]; omega),ob zc _ _ _ hk,hj]
    rfl
   exact ⟨hk 0 (by omega),hk 1 (by omega),hk 2 (by omega),hk 3 (by omega)⟩
  ·rcases hx with rfl | ⟨_,hx⟩ | ⟨p,hp,_⟩
   ·exact h2
   ·obtain rfl:b=x:=by simpa [In] using hx
    exact h1
   ·simp at hp
 replace eL:=Lib.hid eL
 generalize hn:l.length=n at*
 replace hn:=Lib.hid hn
 replace m7:=Lib.hid m7
 clear hA
 go_enter Tryz.func7,Tryz.ntmps7
 go_upto_region 2 with (at_make
                        refine wpList_make_full _ rfl (.tmp 8) (.tmp 8) 22 rfl W.heap.size 31 i0 _ 4 Tryz.underlying22 cW cP cT .i64 .i64 n n n rfl rfl rfl rfl (by rw [dh]; omega) (by simp only [maxLen]; omega) (Nat.le_refl _) ?_
                        intro w2 dY hg
                        have iQ:=(B6 dY).1
                        have au:Below W.heap.size W w2:=((ab.refl (fun _=>False) W).grown hg (by simp)).toBelow (Nat.le_refl _) (by simp)
                        obtain ⟨zs,tl⟩:∃ zs,zs=(madeCells (Value.agg #[.int .i64 0,.string ⟨#[]⟩,.string ⟨#[]⟩,.int .i64 0]).cells (n*4)).toList:=⟨_,rfl⟩
                        have EF:zs.length=n*4:=by rw [tl]; simp [madeCells]
                        rw [<-tl] at iQ
                        replace EF:=Lib.hid EF
                        replace au:=Lib.hid au
                        replace iQ:=Lib.hid iQ
                        clear dY hg tl)
 obtain ⟨w3,dR⟩:∃ w3,w3=w2.alloc (.cells (dD i (some ⟨W.heap.size,0,none⟩) n n 0 (.pointer none) 0 0 dE 0) 77):=⟨_,rfl⟩
 have uV:=iQ.out.alloc (.cells (dD i (some ⟨W.heap.size,0,none⟩) n n 0 (.pointer none) 0 0 dE 0) 77)
 have gh:=af.made w2 77 (dD i (some ⟨W.heap.size,0,none⟩) n n 0 (.pointer none) 0 0 dE 0)
 have aZ:Below W.heap.size W w3:=by rw [dR]; exact au.out.trans ((below_1 _ _).mono au.out.size)
 rw [<-dR] at uV gh
 change Code.wp _ _ _ _ (w2.alloc (.cells (dD i (some ⟨W.heap.size,0,none⟩) n n 0 (.pointer none) 0 0 dE 0) 77))
 rw [<-dR]
 have hle:W.heap.size<=w2.heap.size:=au.out.size
 obtain ⟨f,hf⟩:∃ f,f=w2.heap.size:=⟨_,rfl⟩
 obtain ⟨b,hb⟩:∃ b,b=W.heap.size:=⟨_,rfl⟩
 rw [<-hf] at gh hle ⊢
 rw [<-hb] at gh uV ⊢
 have c1:=gh.cell 1
 simp [dD] at c1
 have lf:=gh.lt
 have aH:f≠b:=gh.differ uV (by decide)
 have Dh:=Lib.hid (oQ.out w3 aZ)
 have xE:Hid (Nat.min n n=n):=Lib.hid (Nat.min_self n)
 have n7:Hid ((l.flatMap mj).length<=zs.length):=Lib.hid (by rw [m7.out,EF.out]; exact Nat.le_refl _)
 replace uV:Hid (w3.heap[b]?=some (.cells zs.toArray 31 (0,0))):=Lib.hid uV
 have hG:Hid (∀ w',af w' b 31 (l.flatMap mj++zs.drop (l.flatMap mj).length).toArray->ab (·=b) w3 w'->Da W i l (.returned (ptr f)) w'):=Lib.hid (fun w' q1 q2=>by
  refine eL.out w' b f _ (by omega) (by omega) (aZ.trans (q2.toBelow (by have:=aZ.size; omega) (fun x hx e=>?_))) q1 (gh.only q2 (fun e=>aH e))
  omega)
 replace hb:=Lib.hid hb
 replace hf:=Lib.hid hf
 clear dR gh aZ iQ au eL oQ aH hle
 go_wp2_with (with_reducible refine FD.M9 rfl (.tmp 15) (.tmp 16) 22 22 rfl 31 Tryz.underlying22 4 cQ b n n A n cap n rfl rfl zs 31 uV.out (l.flatMap mj) xE.out m7.out Dh.out n7.out m8.out ?_
              intro w4 WO aL)
 go_ret
 exact hG.out _ WO.out aL.out
end Go.Proofs.YtpanebgakndddaaGreat.Wo
namespace Go.Proofs.YtpanebgakndddaaGreat.Wo
open Go Go.RowKit Hp K Fl Rw Hm Ar Mm Me LK Qs Wk Pc Pn Mq Pu Zp Mx cK Bs Zr Ca
section
variable {w:World} {M:Mo} {a:Wp} {s:Ws} {c:Ct} {t:List Ct} {C:Cl}
theorem Lx (i:Nat) (l:List Ct) (A:Option Addr) (cap:Nat) (W:World) (hl:l.length<=20) (hA:Ba W A l):Calls Tryz.prog 7 #[.int .i64 i,.slice A l.length cap] W fun e w'=>∃ a,e=.returned (ptr (bQ.f a))/\bQ.At w' a ⟨i,0,0,l,none⟩/\(∀ x,bQ.aR a ⟨i,0,0,l,none⟩ x->W.heap.size<=x)/\Below W.heap.size W w':=UO i l A cap W (by omega) hA
theorem Lt (hM:ah w M) (h:bQ.At w a s) (h0:s.run=none) (h1:s.left=c::t) (hk:c.key.size<=maxLen) (ok:∀ C,jA s.num c C->jB (lm M) C/\iA (lm M) C=true) (now:Int):
 Calls Tryz.prog 14 #[ptr (bQ.f a),ptr M.m,.int .i64 now] w fun e w'=>∃ C,jA s.num c C/\e=.returned (og s now (lm M) c C now)/\bQ.ba w M a s (bK (lm M) C).1 (kM s now (lm M) c C now t) w':=UK hM h h0 h1 hk ok now
theorem Lu (hM:ah w M) (h:bQ.At w a s) (h0:s.run=some (c,C)) (ok:jB (lm M) C) (rd:iA (lm M) C=true) (now:Int):
 Calls Tryz.prog 14 #[ptr (bQ.f a),ptr M.m,.int .i64 now] w fun e w'=>e=.returned (og s now (lm M) c C s.bY)/\bQ.ba w M a s (bK (lm M) C).1 (kM s now (lm M) c C s.bY s.left) w':=by
 cases hd:eu (lm M) C with
 | true=>exact UI hM h h0 ok rd hd now
 | false=>exact UH hM h h0 ok rd hd now
end
end Go.Proofs.YtpanebgakndddaaGreat.Wo
namespace Go.Proofs.YtpanebgakndddaaGreat.Wo
open Go Go.RowKit Hp K Fl Rw Hm Ar Mm Me LK Qs Wk Re ff Pc Pn Mq Pu Zp Mx cK Bs Dl Zr jj jk mG ld Ca
set_option maxRecDepth 100000
abbrev c1:Ct:=⟨0,aK,⟨#[]⟩,0⟩
def C1:Cl:=⟨.get (Gt.mJ 0 aK),0,false⟩
def it:Nat->Lm×Cl
 | 0=>(mG.L0,C1)
 | n+1=>bK (it n).1 (it n).2
theorem va:eu (it 0).1 (it 0).2=false/\eu (it 1).1 (it 1).2=false/\eu (it 2).1 (it 2).2=false/\eu (it 3).1 (it 3).2=false/\eu (it 4).1 (it 4).2=true:=
 ⟨by kernel_rfl,by kernel_rfl,by kernel_rfl,by kernel_rfl,by kernel_rfl⟩
theorem AI {n:Nat} (h:n<4):eu (it n).1 (it n).2=false:=by
 have:n=0\/n=1\/n=2\/n=3:=by omega
 rcases this with rfl | rfl | rfl | rfl
 ·exact va.1
 ·exact va.2.1
 ·exact va.2.2.1
 ·exact va.2.2.2.1
theorem EZ {C:Cl} (h:jA 0 c1 C):C=C1:=by
 obtain ⟨h1,h2,h3,h4⟩:=h
 have hc:di c1=0:=by kernel_rfl
 have hf:=(h4 hc).1 rfl
 cases C
 simp only at h1 h2 hf
 rw [h1,h2,hf,hc]
 rfl
theorem E0 {W0 w:World} {M:Mo} (h:od W0 1 1 M w):lm M=mG.L0:=by
 obtain ⟨_,_,_,h1,h2,h3,h4,h5,h6,h7⟩:=h
 show (⟨M.xs,M.hs,M.ss,M.F,M.k,M.ds,M.ws⟩:Lm)=_
 rw [h1,h2,h3,h4,h5,h6,h7]
 rfl
theorem AJ {W0 w:World} {M:Mo} (h:od W0 1 1 M w):∀ n,n<=4->jB (it n).1 (it n).2/\iA (it n).1 (it n).2=true:=by
 have hm:=uZ h (by omega) (by omega)
 have fX:=AH h (by omega)
 have oL:jA 0 c1 C1:=by
  have hc:di c1=0:=by kernel_rfl
  exact ⟨rfl,hc.symm,fun q=>absurd hc q,fun _=>⟨fun _=>rfl,fun q=>by simp at q,fun q=>by simp at q,fun q=>by simp at q⟩⟩
 rw [E0 h] at hm fX
 obtain ⟨R,k,_,r2,r3⟩:=Lr hm (by omega) (by simp) fX (by omega) (by omega) (c:=c1) (.inl (by decide)) (i:=0) (by decide) oL (by decide)
 have hR:∀ n,n<=4->∃ k,R k (it n):=by
  intro n
  induction n with
  | zero=>intro _; exact ⟨k,r2⟩
  | succ n ih=>
    intro hn
    obtain ⟨k,hk⟩:=ih (by omega)
    obtain ⟨_,_,_,_,q5⟩:=r3 k _ hk
    exact ⟨k-1,q5 (AI (by omega))⟩
 intro n hn
 obtain ⟨k,hk⟩:=hR n hn
 obtain ⟨q1,q2,_⟩:=r3 k _ hk
 exact ⟨q1,q2⟩
def lV (n:Nat):Ws:=if n=0 then ⟨0,0,0,[c1],none⟩ else if n<=4 then ⟨0,0,0,[],some (c1,(it n).2)⟩ else ⟨0,1,0,[],none⟩
def AS (W0 w:World) (m f n:Nat):Prop:=∃ (M:Mo) (a:Wp),M.m=m/\eE W0 w M none 0 []/\bQ.At w a (lV n)/\bQ.f a=f/\(∀ x,bQ.aR a (lV n) x->W0.heap.size<=x)/\(n<=4->lm M=(it n).1)
section
variable {W0 w w':World} {m f n:Nat}
theorem AS.down (h:AS W0 w m f n) (hb:Below w.heap.size w w'):AS W0 w' m f n:=by
 obtain ⟨M,a,h1,h2,h3,h4,h5,h6⟩:=h
 exact ⟨M,a,h1,h2.down hb,AK h3 (ab.aD hb (fun _=>False)) (by simp),h4,h5,h6⟩
theorem AS.below (h:AS W0 w m f n):Below W0.heap.size W0 w:=by
 obtain ⟨M,a,h1,h2,h3⟩:=h
 exact h2.below
theorem AS.left (h:AS W0 w m f n) (hn:n<=5):Calls Tryz.prog 11 #[ptr f] w fun e w'=>e=.returned (.bool (decide (n<=4)))/\Below w.heap.size w w':=by
 obtain ⟨M,a,h1,h2,h3,rfl,h5⟩:=h
 refine (AL h3).mono fun e w' q=>⟨?_,q.2⟩
 rw [q.1]
 congr 2
 unfold lV
 by_cases q0:n=0
 ·subst q0; simp
 ·by_cases q4:n<=4
  ·simp [q0,q4]
  ·simp [q0,q4]
theorem AS.ready (h:AS W0 w m f 5):Calls Tryz.prog 12 #[ptr f,ptr m] w fun e w'=>e=.returned (.bool false)/\Below w.heap.size w w':=by
 obtain ⟨M,a,rfl,h2,h3,rfl,h5⟩:=h
 refine (Ls h2.mem h3 (fun p hp=>by simp [lV] at hp)).mono fun e w' q=>⟨?_,q.2⟩
 rw [q.1]
 simp [lV]
theorem AS.rH {M:Mo} {a:Wp} {s:Ws} {L':Lm} (h2:eE W0 w M none 0 []) (h5:∀ x,bQ.aR a s x->W0.heap.size<=x) (hs:bQ.ba w M a s L' (lV n) w') (hL:n<=4->L'=(it n).1):AS W0 w' M.m (bQ.f a) n:=by
 obtain ⟨M',a',r1,r2,r3,r4,r5,r6,r7⟩:=hs
 have nM:=h2.jl (M':=M') (w':=w') r1 r3.aR r7 (fun x q=>?_) (fun x hx q=>by simp [In] at hx)
 ·refine ⟨M',a',r3.m,nM,r4,r5,fun x hx=>?_,fun q=>r2.trans (hL q)⟩
  rcases r6 x hx with q | q
  ·exact h5 x q
  ·have:=h2.below.size; omega
 ·rcases q with q | q
  ·exact h2.kj x q
  ·exact h5 x q
theorem AS.step (h:AS W0 w m f n) (fk:∀ n,n<=4->jB (it n).1 (it n).2/\iA (it n).1 (it n).2=true) (hn:n<=4):Calls Tryz.prog 14 #[ptr f,ptr m,.int .i64 n] w fun e w'=>
 AS W0 w' m f (n+1)/\(n<4->e=.returned (.tuple #[xT,.bool false]))/\(n=4->e=.returned (.tuple #[oe 0 0 c1 0 4 (de (it 5).2),.bool true])):=by
 obtain ⟨M,a,rfl,h2,h3,rfl,h5,h6⟩:=h
 have hL:=h6 hn
 obtain ⟨o1,o2⟩:=fk n hn
 by_cases h0:n=0
 ·subst h0
  have hL:lm M=mG.L0:=hL
  refine (Lt h2.mem h3 rfl (c:=c1) (t:=[]) rfl (by unfold maxLen; decide) (fun C hC=>by rw [EZ hC,hL]; exact ⟨o1,o2⟩) (((0:Nat):Int))).mono fun e w' q=>?_
  obtain ⟨C,hC,q1,q2⟩:=q
  have mY:=EZ hC
  subst mY
  rw [hL] at q1 q2
  have hd:eu mG.L0 C1=false:=AI (n:=0) (by omega)
  have e1:kM (lV 0) ((0:Nat):Int) mG.L0 c1 C1 ((0:Nat):Int) []=lV 1:=by
   unfold kM
   rw [hd]
   rfl
  rw [e1] at q2
  refine ⟨AS.rH h2 h5 q2 (fun _=>rfl),fun _=>?_,fun q=>by omega⟩
  rw [q1]
  unfold og
  rw [hd]
  rfl
 ·have hs:lV n=⟨0,0,0,[],some (c1,(it n).2)⟩:=by unfold lV; rw [if_neg h0,if_pos hn]
  rw [hs] at h3 h5
  rw [<-hL] at o1 o2
  refine (Lu h2.mem h3 rfl o1 o2 (n:Int)).mono fun e w' q=>?_
  obtain ⟨q1,q2⟩:=q
  rw [hL] at q1 q2
  by_cases h4:n<4
  ·have hd:=AI h4
   have e1:kM (⟨0,0,0,[],some (c1,(it n).2)⟩:Ws) (n:Int) (it n).1 c1 (it n).2 0 []=lV (n+1):=by
    unfold kM lV
    rw [hd,if_neg (by simp),if_neg (by omega),if_pos (by omega)]
    rfl
   have q2:bQ.ba w M a (⟨0,0,0,[],some (c1,(it n).2)⟩:Ws) (bK (it n).1 (it n).2).1 (kM (⟨0,0,0,[],some (c1,(it n).2)⟩:Ws) (n:Int) (it n).1 c1 (it n).2 0 []) w':=q2
   rw [e1] at q2
   refine ⟨AS.rH h2 h5 q2 (fun _=>rfl),fun _=>?_,fun q=>by omega⟩
   rw [q1]
   unfold og
   rw [hd]
   rfl
  ·obtain rfl:n=4:=by omega
   have hd:=va.2.2.2.2
   have e1:kM (⟨0,0,0,[],some (c1,(it 4).2)⟩:Ws) ((4:Nat):Int) (it 4).1 c1 (it 4).2 0 []=lV 5:=by
    unfold kM
    rw [hd]
    rfl
   have q2:bQ.ba w M a (⟨0,0,0,[],some (c1,(it 4).2)⟩:Ws) (bK (it 4).1 (it 4).2).1 (kM (⟨0,0,0,[],some (c1,(it 4).2)⟩:Ws) ((4:Nat):Int) (it 4).1 c1 (it 4).2 0 []) w':=q2
   rw [e1] at q2
   refine ⟨AS.rH h2 h5 q2 (fun q=>by omega),fun q=>by omega,fun _=>?_⟩
   rw [q1]
   unfold og
   rw [hd]
   rfl
end
theorem Lv {W0 w1 w2:World} {M:Mo} {a:Wp} (h:od W0 1 1 M w1) (hb:Below w1.heap.size w1 w2) (hA:bQ.At w2 a ⟨0,0,0,[c1],none⟩) (hl:∀ x,bQ.aR a ⟨0,0,0,[c1],none⟩ x->w1.heap.size<=x):AS W0 w2 M.m (bQ.f a) 0:=
 ⟨M,a,rfl,(xR h).down hb,hA,rfl,fun x hx=>Nat.le_trans (xR h).below.size (hl x hx),fun _=>E0 h⟩
set_option maxHeartbeats 4000000 in
theorem Lw (W0:World):Calls Tryz.prog 5 #[] W0 fun e w'=>e=.returned (.bool true)/\Below W0.heap.size W0 w':=by
 have hN:=Lib.hid (mI 1 1 W0 (by omega) (by omega))
 have hA:=Lib.hid (fun w=>Ca.et w)
 go_enter Tryz.func5,Tryz.ntmps5
 go_wp2_with fail
 refine hN.out.mono ?_
 rintro e w1 ⟨M,rfl,hM⟩
 have fk:=Lib.hid (AJ hM)
 replace hM:=Lib.hid hM
 clear hN
 go_wp2_with fail
 obtain ⟨w2,bl⟩:∃ w2,w2=w1.alloc (.cells #[.int .i64 0,.string ⟨#[97]⟩,.string ⟨#[]⟩,.int .i64 0] 31):=⟨_,rfl⟩
 have b2:af w2 w1.heap.size 31 #[.int .i64 0,.string ⟨#[97]⟩,.string ⟨#[]⟩,.int .i64 0]:=by rw [bl]; exact af.made w1 _ _
 have d2:Below w1.heap.size w1 w2:=by rw [bl]; exact below_1 _ _
 obtain ⟨p,hp⟩:∃ p,p=w1.heap.size:=⟨_,rfl⟩
 rw [<-bl,<-hp]
 rw [<-hp] at b2
 have fA:=Lx 0 [c1] (some ⟨p,0,none⟩) 1 w2 (by simp) (fun i hi=>by
  obtain rfl:i=0:=by simpa using hi
  exact ⟨p,0,rfl,b2.lt,b2.cell 0,b2.cell 1,b2.cell 2,b2.cell 3,⟨by decide,by decide⟩,by decide⟩)
 have Jo:=fA.mono (fun e w' q=>show ∃ f,e=.returned (ptr f)/\AS W0 w' M.m f 0 from by
  obtain ⟨a,q1,q2,q3,q4⟩:=q
  exact ⟨_,q1,Lv hM.out (d2.trans (q4.mono d2.size)) q2 (fun x hx=>Nat.le_trans d2.size (q3 x hx))⟩)
 clear fA b2 d2 hM hp bl
 refine Jo.mono ?_
 rintro e w3 ⟨f,rfl,cM⟩
 replace cM:=Lib.hid cM
 generalize M.m=m at*
 clear Jo
 go_wp2_with fail
 go_loopw [18] (fun jv wx=>∃ n:Nat,n<=4/\jv=.int .i64 n/\AS W0 wx m f n) (fun jv _=>4-(intOf jv).toNat)
 case atStart=>exact ⟨0,by omega,rfl,cM.out⟩
 case round=>
  obtain ⟨n,hn,rfl,hS⟩:=lD
  clear cM
  by_cases bn:n<4
  case pos=>
   have db:=Lib.hid ((hS.step fk.out hn).mono fun e w' q=>show e=.returned (.tuple #[xT,.bool false])/\AS W0 w' m f (n+1) from ⟨q.2.1 bn,q.1⟩)
   clear hS
   go_wp2_with fail
   refine db.out.mono ?_
   rintro e w4 ⟨rfl,jJ⟩
   obtain ⟨w5,qN⟩:∃ w5,w5=w4.alloc (.cells #[.int .i64 0,.int .i64 0,.int .i64 0,.string ⟨#[]⟩,.string ⟨#[]⟩,.int .i64 0,.int .i64 0,.int .i64 0,.int .i64 0,.bool false,.string ⟨#[]⟩] 46):=⟨_,rfl⟩
   have iI:AS W0 w5 m f (n+1):=jJ.down (by rw [qN]; exact below_1 _ _)
   obtain ⟨eb,uk⟩:∃ eb,eb=w4.heap.size:=⟨_,rfl⟩
   have jY:=iI.left (by omega)
   rw [decide_eq_true (show n+1<=4 by omega)] at jY
   replace jY:=Lib.hid jY
   replace iI:=Lib.hid iI
   clear db jJ
   unfold xT oe
   go_upto_region 9 with (fail)
   rw [<-qN,<-uk]
   clear qN uk
   go_wp2_with fail
   refine jY.out.mono ?_
   rintro e w6 ⟨rfl,kX⟩
   have sE:=Lib.hid (iI.out.down kX)
   clear jY iI kX
   go_wp2_with fail
   go_roundw
   case rel=>exact ⟨n+1,by omega,by go_num,sE.out⟩
   case measure=>simp [intOf]; omega
  case neg=>
   obtain rfl:n=4:=by omega
   obtain ⟨⟨xe,xh,xv⟩,hx⟩:∃ x,x=de (it 5).2:=⟨_,rfl⟩
   have db:=Lib.hid ((hS.step fk.out hn).mono fun e w' q=>show e=.returned (.tuple #[oe 0 0 c1 0 4 (xe,xh,xv),.bool true])/\AS W0 w' m f 5 from ⟨by rw [hx]; exact q.2.2 rfl,q.1⟩)
   clear hS hx
   go_wp2_with fail
   refine db.out.mono ?_
   rintro e w4 ⟨rfl,jJ⟩
   obtain ⟨w5,qN⟩:∃ w5,w5=w4.alloc (.cells #[.int .i64 0,.int .i64 0,.int .i64 0,.string ⟨#[97]⟩,.string ⟨#[]⟩,.int .i64 0,.int .i64 0,.int .i64 4,.int .i64 xe,.bool xh,.string xv] 46):=⟨_,rfl⟩
   have iI:AS W0 w5 m f 5:=jJ.down (by rw [qN]; exact below_1 _ _)
   have wo:af w5 w4.heap.size 46 #[.int .i64 0,.int .i64 0,.int .i64 0,.string ⟨#[97]⟩,.string ⟨#[]⟩,.int .i64 0,.int .i64 0,.int .i64 4,.int .i64 xe,.bool xh,.string xv]:=by rw [qN]; exact af.made w4 _ _
   obtain ⟨eb,uk⟩:∃ eb,eb=w4.heap.size:=⟨_,rfl⟩
   rw [<-uk] at wo
   replace iI:=Lib.hid iI
   replace wo:=Lib.hid wo
   clear db jJ
   unfold oe
   simp only [c1,aK]
   go_upto_region 13 with (fail)
   rw [<-qN,<-uk]
   clear qN uk
   go_wp2_with fail
   refine (hA.out _).mono ?_
   rintro e w6 ⟨rfl,kX⟩
   have sE:=iI.out.down kX
   have sF:=wo.out.only (ab.aD kX (fun _=>False)) (by simp)
   have g6:=sF.cell 6
   have g7:=sF.cell 7
   simp at g6 g7
   have gl:=sF.lt
   have jY:=sE.left (by omega)
   rw [decide_eq_false (show ¬5<=4 by omega)] at jY
   replace jY:=Lib.hid jY
   replace sE:=Lib.hid sE
   clear sF wo iI kX hA
   go_wp2_with fail
   refine jY.out.mono ?_
   rintro e w7 ⟨rfl,mZ⟩
   have pO:=sE.out.down mZ
   have jZ:=Lib.hid pO.ready
   have m5:=Lib.hid pO.below
   clear jY sE mZ pO g6 g7 gl
   go_wp2_with fail
   refine jZ.out.mono ?_
   rintro e w8 ⟨rfl,oN⟩
   have hE:=Lib.hid (m5.out.trans (oN.mono m5.out.size))
   clear jZ oN m5
   go_wp2_with fail
   go_ret
   exact ⟨rfl,hE.out⟩
end Go.Proofs.YtpanebgakndddaaGreat.Wo
namespace Go.Proofs.YtpanebgakndddaaGreat.LK
open Go Go.RowKit Go.WideShapes Go.ChangeShapes
def E5 (w:World) (A:Option Addr) (len:Nat):Prop:=∀ i,i<len->∃ (b o x:Nat),A=some ⟨b,o,none⟩/\b<w.heap.size/\w.cell? ⟨b,o+i,none⟩=some (.int .u8 (x:Int))/\x<=255
set_option maxRecDepth 100000 in
theorem LM {H:Type} {enc:TypeId×Value->H} {w:World} {base:Nat} {spare:Nat->Bool} {held:Bool} {r:Reach} {b0:Nat} {v:Value} {d:DataW H} {p:List MemPlace}
 (hv:Value.okWide Tryz.prog w r b0 53 v) (h:DataW.Trod enc Tryz.prog w base spare held 53 v d p):
 ∃ (A:Option Addr) (len cap:Nat),v=.slice A len cap/\len<=maxLen/\E5 w A len:=by
 obtain ⟨A,len,cap,rfl,hl,UT⟩:=LN (C:=1) Tryz.underlying53 (by kernel_rfl) (by decide) hv h
 refine ⟨A,len,cap,rfl,hl,fun i hi=>?_⟩
 obtain ⟨b,o,cs,rfl,hb,m7,bO,n,y,ht⟩:=UT i hi
 obtain ⟨x,rfl,_,hw⟩:=DataW.trod_int Tryz.underlying5 ht
 have hx:0<=x/\x<=255:=by
  simp [Lit.wf,IntKind.min,IntKind.max,IntKind.signed,IntKind.bits] at hw
  omega
 obtain ⟨z,rfl⟩:=Int.eq_ofNat_of_zero_le hx.1
 exact ⟨b,o,z,rfl,hb,by simpa using bO 0 (by omega),by omega⟩
end Go.Proofs.YtpanebgakndddaaGreat.LK
