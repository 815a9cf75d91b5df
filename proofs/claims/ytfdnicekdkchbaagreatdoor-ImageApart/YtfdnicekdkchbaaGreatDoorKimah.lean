/- Load -/
import Derived.WalkLawsBesides
import Derived.Test.YtfdnicekdkchbaaGreatDoorRows
import Derived.Test.YtfdnicekdkchbaaGreatDoorKimaa
namespace Go.Proofs.YtfdnicekdkchbaaGreatDoor
set_option linter.unusedVariables false
set_option linter.unusedSimpArgs false
section
set_option maxRecDepth 100000
open Go.RowKit
theorem fits_any(n:Int)(w:World) :
  Calls Tryz.prog 154 #[.int .i64 n] w fun e w'=>e = .returned (.bool (fitB n))∧w=w':=by
 by_cases h:0≤n
 ·by_cases h2:n≤4611686018427387903
  ·go_enter Tryz.func154,Tryz.ntmps154
   go_wp2
   go_ret
   exact⟨ret_bool (fitB_t h h2).symm,rfl⟩
  ·go_enter Tryz.func154,Tryz.ntmps154
   go_wp2
   go_ret
   exact⟨ret_bool (fitB_f (by omega)).symm,rfl⟩
 ·go_enter Tryz.func154,Tryz.ntmps154
  go_wp2
  go_ret
  exact⟨ret_bool (fitB_f (by omega)).symm,rfl⟩
theorem holds_any(ao:Option Addr)(len cap:Nat)(n:Int)(w:World)(hl:len≤9223372036854775807) :
  Calls Tryz.prog 78 #[.slice ao len cap,.int .i64 n] w fun e w'=>e = .returned (.bool (hasB len n))∧w=w':=by
 by_cases h:0≤n
 ·by_cases h2:n<(len:Int) / 8
  ·go_enter Tryz.func78,Tryz.ntmps78
   go_wp2
   go_ret
   exact⟨ret_bool (hasB_t h h2).symm,rfl⟩
  ·go_enter Tryz.func78,Tryz.ntmps78
   go_wp2
   go_ret
   exact⟨ret_bool (hasB_f (by omega)).symm,rfl⟩
 ·go_enter Tryz.func78,Tryz.ntmps78
  go_wp2
  go_ret
  exact⟨ret_bool (hasB_f (by omega)).symm,rfl⟩
theorem load_any(b off len cap:Nat)(zs:List Int)(w:World)(h8:8≤len)(hz:zs.length=len)(hb:Bytes zs)
  (hc:∀i,i<len→w.cell? ⟨b,off+i,none⟩=some (.int .u8 (zs.getD i 0))) :
  Calls Tryz.prog 79 #[.slice (some ⟨b,off,none⟩) len cap] w fun e w' =>
   e = .returned (.tuple #[.int .i64 (wN (zs.take 8)),.bool (wB (zs.take 8))])∧w=w':=by
 go_enter Tryz.func79,Tryz.ntmps79
 go_wp2
 go_loop [4,6] (fun n i=>∃k:Nat,k≤8∧i = .int .i64 k∧n = .int .u64 (le (zs.take k))) (fun _ i=>8-(intOf i).toNat)
 case atStart=>exact⟨0,Nat.zero_le _,rfl,rfl⟩
 case round =>
  obtain⟨k,hk,rfl,rfl⟩:=hrel
  by_cases hlt:k<8
  ·have hcell:=hc k (by omega)
   have hbk:=hb.at k
   have HS:Hid (le (zs.take (k+1))=le (zs.take k)+256 ^ k*zs[k]?.getD 0):=le_take_succ zs k (by omega)
   have HB:Hid (0≤le (zs.take k)∧le (zs.take k)<256 ^ k):=le_take_bound hb k (by omega)
   go_wp2
   go_round
   case rel=>exact⟨k+1,by omega,by go_num,by rw [HS.out,or_place k hlt _ _ HB.out.1 HB.out.2 hbk.1 hbk.2]⟩
   case measure=>simp [intOf];omega
  ·obtain rfl:k=8:=by omega
   have hbd:=(le_take_bound hb 8 (by omega)).1
   by_cases hmax:le (zs.take 8)≤4611686018427387903
   ·go_wp2
    go_ret2
    exact⟨ret_ib (wN_t hmax).symm (wB_t hmax).symm,rfl⟩
   ·go_wp2
    go_ret2
    exact⟨ret_ib (wN_f (by omega)).symm (wB_f (by omega)).symm,rfl⟩
end
end Go.Proofs.YtfdnicekdkchbaaGreatDoor
