/- A part. -/
import Derived.Test.YtpanebgakndddaaGreatRows
import Derived.Test.YtpanebgakndddaaGreatFnvMath
import Derived.Deep.QuietTactic
import Derived.BigQuiet
import Derived.Lib.Hide
set_option linter.unusedVariables false
set_option linter.unusedSimpArgs false
namespace Go.Proofs.YtpanebgakndddaaGreat.lO
open Go.RowKit
theorem Ci {k:IntKind} {a b:Int} (h:a=b):Ending.returned (.int k a)=.returned (.int k b):=by rw [h]
theorem kZ {a b:Bool} (h:a=b):Ending.returned (.bool a)=.returned (.bool b):=by rw [h]
set_option maxHeartbeats 400000 in
theorem qI (n:Int) (w:World) (h0: -9223372036854775808<=n) (h1:n<=9223372036854775807):
 Calls Tryz.prog 68 #[.int .i64 n] w fun e w'=>e=.returned (.bool (FM.bl n))/\w'=w:=by
 by_cases a:1<=n
 ·by_cases b:n<=65536
  ·have hp:=Lib.hid (FM.Pe n a b)
   go_enter Tryz.func68,Tryz.ntmps68
   go_wp2
   go_ret
   exact ⟨kZ hp.out,rfl⟩
  ·have hp:FM.bl n=false:=by
    cases h:FM.bl n with
    | false=>rfl
    | true=>have:=FM.eG h; omega
   go_enter Tryz.func68,Tryz.ntmps68
   go_wp2
   go_ret
   exact ⟨rfl,rfl⟩
 ·have hp:FM.bl n=false:=by
   cases h:FM.bl n with
   | false=>rfl
   | true=>have:=FM.eG h; omega
  go_enter Tryz.func68,Tryz.ntmps68
  go_wp2
  go_ret
  exact ⟨rfl,rfl⟩
set_option maxHeartbeats 400000 in
theorem zp (s n:Int) (w:World) (xR:0<=s) (lI:s<4294967296) (h0: -9223372036854775808<=n) (h1:n<=9223372036854775807):
 Calls Tryz.prog 201 #[.int .u32 s,.int .i64 n] w fun e w'=>e=.returned (.int .i64 (FM.bucket s n))/\w'=w:=by
 cases hp:FM.bl n with
 | false=>
   have hb:FM.bucket s n=0:=by unfold FM.bucket; rw [hp]; rfl
   have hb:=Lib.hid hb
   go_enter Tryz.func201,Tryz.ntmps201
   go_wp2_with (go_at_call 68; refine (qI n _ h0 h1).mono ?_; rintro e w' ⟨rfl,rfl⟩)
   go_ret
   exact ⟨Ci hb.out.symm,rfl⟩
 | true=>
   have hb:FM.bucket s n=s % n:=by unfold FM.bucket; rw [hp]; rfl
   have hb:=Lib.hid hb
   have gH:=FM.eG hp
   have hr:0<=s % n/\s % n<65536:=⟨Int.emod_nonneg _ (by omega),by have:=Int.emod_lt_of_pos s (show 0<n by omega); omega⟩
   go_enter Tryz.func201,Tryz.ntmps201
   go_wp2_with (go_at_call 68; refine (qI n _ h0 h1).mono ?_; rintro e w' ⟨rfl,rfl⟩)
   go_ret
   exact ⟨Ci hb.out.symm,rfl⟩
set_option maxHeartbeats 400000 in
theorem yT (s:ByteArray) (w:World) (hs:s.size<=maxLen):
 Calls Tryz.prog 107 #[.string s] w fun e w'=>e=.returned (.int .u32 (FM.sum s.data.toList))/\w'=w:=by
 unfold maxLen at hs
 go_enter Tryz.func107,Tryz.ntmps107
 go_wp2
 go_loop [3,7] (fun n i=>∃ k:Nat,k<=s.size/\i=.int .i64 k/\n=.int .u32 (FM.sum (s.data.toList.take k))) (fun _ i=>s.size-(intOf i).toNat)
 case atStart=>exact ⟨0,Nat.zero_le _,rfl,rfl⟩
 case round=>
  obtain ⟨k,hk,rfl,rfl⟩:=hrel
  have hl:=FM.Cf (s.data.toList.take k)
  by_cases aV:k<s.size
  ·have hx:=Lib.hid (FM.Pg (s.data.toList.take k) s[k])
   have ht:=Lib.hid (FM.Ph s k aV)
   go_wp2
   go_round
   case rel=>exact ⟨k+1,by omega,by go_num,by rw [ht.out,hx.out]⟩
   case measure=>simp [intOf]; omega
  ·go_wp2
   go_ret
   exact ⟨Ci (by rw [List.take_of_length_le (by simp; omega)]),rfl⟩
end Go.Proofs.YtpanebgakndddaaGreat.lO
