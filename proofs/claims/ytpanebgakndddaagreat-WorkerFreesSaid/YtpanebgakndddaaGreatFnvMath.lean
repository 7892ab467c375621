/- A part. -/
import Derived.WalkKit
set_option linter.unusedVariables false
set_option linter.unusedSimpArgs false
namespace Go.Proofs.YtpanebgakndddaaGreat.FM
def step (h:Nat) (c:Nat):Nat:=((h ^^^ c)*16777619) % 4294967296
def sum (l:List UInt8):Nat:=l.foldl (fun h c=>step h c.toNat) 2166136261
theorem N2 (h c:Nat):step h c<4294967296:=Nat.mod_lt _ (by decide)
theorem N3 (l:List UInt8) (c:UInt8):sum (l++[c])=step (sum l) c.toNat:=by
 unfold sum; rw [List.foldl_append,List.foldl_cons,List.foldl_nil]
theorem N4 (l:List UInt8):∀ h,h<4294967296->l.foldl (fun h c=>step h c.toNat) h<4294967296:=by
 induction l with
 | nil=>intro h hh; exact hh
 | cons c l ih=>intro h hh; exact ih _ (N2 _ _)
theorem By (l:List UInt8):sum l<4294967296:=N4 l _ (by decide)
def Bz:List Int:=[1,2,4,8,16,32,64,128,256,512,1024,2048,4096,8192,16384,32768,65536]
def bo (n:Int):Bool:=Bz.contains n
def bucket (s n:Int):Int:=if bo n then s % n else 0
theorem Bw (n:Int):bo n=true↔∃ k:Nat,k<=16/\n=((2 ^ k:Nat):Int):=by
 constructor
 ·intro h
  simp only [bo,Bz,List.contains_eq_mem,decide_eq_true_eq,List.mem_cons,List.not_mem_nil,or_false] at h
  rcases h with h | h | h | h | h | h | h | h | h | h | h | h | h | h | h | h | h<;>subst h
  all_goals first | exact ⟨0,by decide,rfl⟩ | exact ⟨1,by decide,rfl⟩ | exact ⟨2,by decide,rfl⟩ | exact ⟨3,by decide,rfl⟩ | exact ⟨4,by decide,rfl⟩ | exact ⟨5,by decide,rfl⟩ | exact ⟨6,by decide,rfl⟩ | exact ⟨7,by decide,rfl⟩ | exact ⟨8,by decide,rfl⟩ | exact ⟨9,by decide,rfl⟩ | exact ⟨10,by decide,rfl⟩ | exact ⟨11,by decide,rfl⟩ | exact ⟨12,by decide,rfl⟩ | exact ⟨13,by decide,rfl⟩ | exact ⟨14,by decide,rfl⟩ | exact ⟨15,by decide,rfl⟩ | exact ⟨16,by decide,rfl⟩
 ·rintro ⟨k,hk,rfl⟩
  have:k=0\/k=1\/k=2\/k=3\/k=4\/k=5\/k=6\/k=7\/k=8\/k=9\/k=10\/k=11\/k=12\/k=13\/k=14\/k=15\/k=16:=by omega
  rcases this with h | h | h | h | h | h | h | h | h | h | h | h | h | h | h | h | h<;>subst h<;>decide
theorem eW {n:Int} (h:bo n=true):1<=n/\n<=65536:=by
 simp only [bo,Bz,List.contains_eq_mem,decide_eq_true_eq,List.mem_cons,List.not_mem_nil,or_false] at h
 omega
theorem N5 (b:Nat):∀ n,0<n->n<2 ^ (b+1)->(n&&& (n-1)=0↔∃ k,k<=b/\n=2 ^ k):=by
 induction b with
 | zero=>
   intro n h0 h1
   obtain rfl:n=1:=by omega
   exact ⟨fun _=>⟨0,by omega,rfl⟩,fun _=>rfl⟩
 | succ b ih=>
   intro n h0 h1
   have hp:2 ^ (b+1+1)=2*2 ^ (b+1):=by rw [Nat.pow_succ]; omega
   by_cases ho:n % 2=1
   ·have e:n&&& (n-1)=2*(n / 2):=by
     apply Nat.eq_of_testBit_eq
     intro i
     cases i with
     | zero=>
       have e1:(n-1).testBit 0=false:=by rw [Nat.testBit_zero]; exact decide_eq_false (by omega)
       have e2:(2*(n / 2)).testBit 0=false:=by rw [Nat.testBit_zero]; exact decide_eq_false (by omega)
       rw [Nat.testBit_and,e1,e2,Bool.and_false]
     | succ i=>
       rw [Nat.testBit_and,Nat.testBit_succ,Nat.testBit_succ,Nat.testBit_succ,show (n-1) / 2=n / 2 by omega,show 2*(n / 2) / 2=n / 2 by omega,Bool.and_self]
    rw [e]
    constructor
    ·intro h; exact ⟨0,by omega,by omega⟩
    ·rintro ⟨k,hk,hn⟩
     cases k with
     | zero=>omega
     | succ k=>rw [Nat.pow_succ] at hn; omega
   ·have e:n&&& (n-1)=2*(n / 2&&& (n / 2-1)):=by
     apply Nat.eq_of_testBit_eq
     intro i
     cases i with
     | zero=>
       have e1:n.testBit 0=false:=by rw [Nat.testBit_zero]; exact decide_eq_false ho
       have e2:(2*(n / 2&&& (n / 2-1))).testBit 0=false:=by rw [Nat.testBit_zero]; exact decide_eq_false (by omega)
       rw [Nat.testBit_and,e1,e2,Bool.false_and]
     | succ i=>
       rw [Nat.testBit_and,Nat.testBit_succ,Nat.testBit_succ,Nat.testBit_succ,show (n-1) / 2=n / 2-1 by omega,show 2*(n / 2&&& (n / 2-1)) / 2=n / 2&&& (n / 2-1) by omega,Nat.testBit_and]
    have:=ih (n / 2) (by omega) (by omega)
    rw [e]
    constructor
    ·intro h
     obtain ⟨k,hk,hn⟩:=this.1 (by omega)
     exact ⟨k+1,by omega,by rw [Nat.pow_succ]; omega⟩
    ·rintro ⟨k,hk,hn⟩
     cases k with
     | zero=>rw [Nat.pow_zero] at hn; omega
     | succ k=>rw [Nat.pow_succ] at hn; have:=this.2 ⟨k,by omega,by omega⟩; omega
theorem N6 (a b:Nat) (ha:a<2 ^ 62) (hb:b<2 ^ 62):bits .and .i64 (a:Int) (b:Int)=((a&&& b:Nat):Int):=
 (bits_nat .i64 62 (by decide) (fun n h0 h1=>IntWalk.i64_in n (by omega)) a b ha hb).1
theorem N7 (n:Int) (h0:1<=n) (h1:n<=65536):(bits .and .i64 n (n-1)==0)=bo n:=by
 obtain ⟨m,rfl⟩:=Int.eq_ofNat_of_zero_le (show 0<=n by omega)
 have e:((m:Int)-1)=((m-1:Nat):Int):=by omega
 rw [e,N6 m (m-1) (by omega) (by omega)]
 have:=N5 16 m (by omega) (by omega)
 rw [Bool.eq_iff_iff,Bw,beq_iff_eq]
 constructor
 ·intro h
  obtain ⟨k,hk,hm⟩:=this.1 (by omega)
  exact ⟨k,hk,by omega⟩
 ·rintro ⟨k,hk,hm⟩
  have:=this.2 ⟨k,hk,by omega⟩
  omega
theorem N8 (a b:Nat) (ha:a<4294967296) (hb:b<4294967296):
 bits .xor .u32 (a:Int) (b:Int)=((a ^^^ b:Nat):Int):=by
 have hx:a ^^^ b<2 ^ 32:=Nat.xor_lt_two_pow (by omega) (by omega)
 have h1:(BitVec.ofInt 32 (a:Int)).toNat=a:=by
  rw [BitVec.ofInt_natCast,BitVec.toNat_ofNat]; exact Nat.mod_eq_of_lt (by omega)
 have h2:(BitVec.ofInt 32 (b:Int)).toNat=b:=by
  rw [BitVec.ofInt_natCast,BitVec.toNat_ofNat]; exact Nat.mod_eq_of_lt (by omega)
 show IntKind.u32.wrap ((BitVec.ofInt 32 (a:Int) ^^^ BitVec.ofInt 32 (b:Int)).toNat:Int)=_
 rw [BitVec.toNat_xor,h1,h2,IntKind.wrap_u32]
 omega
theorem N9 (l:List UInt8) (c:UInt8):
 bits .xor .u32 ((sum l:Nat):Int) ((c.toNat:Int) % 4294967296)*16777619 % 4294967296=((sum (l++[c]):Nat):Int):=by
 have hc:=c.toNat_lt
 rw [show ((c.toNat:Int) % 4294967296)=((c.toNat:Nat):Int) from by omega,N8 _ _ (By l) (by omega),N3]
 unfold step
 omega
theorem Oa (s:ByteArray) (k:Nat) (h:k<s.size):s.data.toList.take (k+1)=s.data.toList.take k++[s[k]]:=by
 rw [List.take_succ_eq_append_getElem (by simpa using h)]; rfl
end Go.Proofs.YtpanebgakndddaaGreat.FM
