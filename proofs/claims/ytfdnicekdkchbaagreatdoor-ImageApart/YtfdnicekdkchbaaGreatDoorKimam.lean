/- ClsA -/
import Derived.Deep.RegionHeld3
import Derived.Test.YtfdnicekdkchbaaGreatDoorKimad
namespace Go.Proofs.YtfdnicekdkchbaaGreatDoor
set_option linter.unusedVariables false
set_option linter.unusedSimpArgs false
section
set_option maxRecDepth 100000
open Go.RowKit
set_option maxRecDepth 100000
structure Cws(w:World):Prop where
 lt:1<w.heap.size
 spot:∀i,i<6→w.cell? ⟨1,i,none⟩=some (.int .i64 (szL.getD i 0))
theorem Cws.off{F:Nat→Prop}{w w':World}(h:Cws w)(ho:Off F w w')(hn:¬F 1):Cws w' :=
 ⟨Nat.lt_of_lt_of_le h.lt ho.size,fun i hi=>by rw [World.cell?_of_block (a:=⟨1,i,none⟩) (ho.block _ h.lt hn)];exact h.spot i hi⟩
theorem Cws.kept{w w':World}(h:Cws w)(hb:Below w.heap.size w w'):Cws w':=h.off (F:=fun _=>False) (Off.of_below hb) (fun h=>h)
theorem clsOf_any(n:Int)(w:World)(T:Cws w) :
  Calls Tryz.prog 248 #[.int .i64 n] w fun e w'=>e = .returned (.tuple #[.int .i64 (clN n),.bool (clB n)])∧w=w':=by
 by_cases h1:n<1
 ·obtain⟨e1,e2⟩:=cl_f (n:=n) (by omega)
  rw [e1,e2]
  go_enter Tryz.func248,Tryz.ntmps248
  go_wp2
  go_ret2
  exact⟨rfl,rfl⟩
 ·have h1':1≤n:=by omega
  have c0:w.cell? ⟨1,0,none⟩=some (.int .i64 2):=T.spot 0 (by omega)
  have c1:w.cell? ⟨1,1,none⟩=some (.int .i64 3):=T.spot 1 (by omega)
  have c2:w.cell? ⟨1,2,none⟩=some (.int .i64 5):=T.spot 2 (by omega)
  have c3:w.cell? ⟨1,3,none⟩=some (.int .i64 7):=T.spot 3 (by omega)
  have c4:w.cell? ⟨1,4,none⟩=some (.int .i64 10):=T.spot 4 (by omega)
  have c5:w.cell? ⟨1,5,none⟩=some (.int .i64 15):=T.spot 5 (by omega)
  go_enter Tryz.func248,Tryz.ntmps248
  go_wp2
  clear c0 c1 c2 c3 c4 c5
  go_loop [9] (fun i=>∃k:Nat,k≤6∧i = .int .i64 k∧Hid (∀i,i<k→¬n≤8*szL.getD i 0)) (fun i=>6-(intOf i).toNat)
  case atStart=>exact⟨0,Nat.zero_le _,rfl,hid (fun i h=>absurd h (by omega))⟩
  case round =>
   obtain⟨k,hk,rfl,HN⟩:=hrel
   have yes:∀m:Int,k<6→8*szL.getD k 0=m→n≤m→Hid ((clN n:Int)=k∧clB n=true):=fun m h6 he h=>hid (by
    obtain⟨a,b⟩:=clN_at h6 h1' (by rw [he];exact h) HN.out
    exact⟨by rw [a],b⟩)
   have no:∀m:Int,8*szL.getD k 0=m→¬n≤m→Hid (∀i,i<k+1→¬n≤8*szL.getD i 0):=fun m he h=>hid (fun i hi=>by
    by_cases c:i<k
    ·exact HN.out i c
    ·obtain rfl:i=k:=by omega
     rw [he];exact h)
   rcases(show k=0∨k=1∨k=2∨k=3∨k=4∨k=5∨k=6 by omega)with rfl | rfl | rfl | rfl | rfl | rfl | rfl
   ·have ik:∀w,(Instr.index 281 (.agg #[.int .i64 2,.int .i64 3,.int .i64 5,.int .i64 7,.int .i64 10,.int .i64 15]) (.int .i64 0)).run Tryz.prog w = .ok (.int .i64 2) w:=fun _=>by kernel_rfl
    by_cases hs:n≤16
    ·have HY:=yes 16 (by omega) rfl hs
     clear yes no HN
     go_wp2
     go_ret2
     exact⟨by rw [HY.out.1,HY.out.2];rfl,rfl⟩
    ·have HM:=no 16 rfl hs
     clear yes no HN
     go_wp2
     go_round
     case rel=>exact⟨1,by omega,by go_num,HM⟩
     case measure=>simp [intOf]
   ·have ik:∀w,(Instr.index 281 (.agg #[.int .i64 2,.int .i64 3,.int .i64 5,.int .i64 7,.int .i64 10,.int .i64 15]) (.int .i64 1)).run Tryz.prog w = .ok (.int .i64 3) w:=fun _=>by kernel_rfl
    by_cases hs:n≤24
    ·have HY:=yes 24 (by omega) rfl hs
     clear yes no HN
     go_wp2
     go_ret2
     exact⟨by rw [HY.out.1,HY.out.2];rfl,rfl⟩
    ·have HM:=no 24 rfl hs
     clear yes no HN
     go_wp2
     go_round
     case rel=>exact⟨2,by omega,by go_num,HM⟩
     case measure=>simp [intOf]
   ·have ik:∀w,(Instr.index 281 (.agg #[.int .i64 2,.int .i64 3,.int .i64 5,.int .i64 7,.int .i64 10,.int .i64 15]) (.int .i64 2)).run Tryz.prog w = .ok (.int .i64 5) w:=fun _=>by kernel_rfl
    by_cases hs:n≤40
    ·have HY:=yes 40 (by omega) rfl hs
     clear yes no HN
     go_wp2
     go_ret2
     exact⟨by rw [HY.out.1,HY.out.2];rfl,rfl⟩
    ·have HM:=no 40 rfl hs
     clear yes no HN
     go_wp2
     go_round
     case rel=>exact⟨3,by omega,by go_num,HM⟩
     case measure=>simp [intOf]
   ·have ik:∀w,(Instr.index 281 (.agg #[.int .i64 2,.int .i64 3,.int .i64 5,.int .i64 7,.int .i64 10,.int .i64 15]) (.int .i64 3)).run Tryz.prog w = .ok (.int .i64 7) w:=fun _=>by kernel_rfl
    by_cases hs:n≤56
    ·have HY:=yes 56 (by omega) rfl hs
     clear yes no HN
     go_wp2
     go_ret2
     exact⟨by rw [HY.out.1,HY.out.2];rfl,rfl⟩
    ·have HM:=no 56 rfl hs
     clear yes no HN
     go_wp2
     go_round
     case rel=>exact⟨4,by omega,by go_num,HM⟩
     case measure=>simp [intOf]
   ·have ik:∀w,(Instr.index 281 (.agg #[.int .i64 2,.int .i64 3,.int .i64 5,.int .i64 7,.int .i64 10,.int .i64 15]) (.int .i64 4)).run Tryz.prog w = .ok (.int .i64 10) w:=fun _=>by kernel_rfl
    by_cases hs:n≤80
    ·have HY:=yes 80 (by omega) rfl hs
     clear yes no HN
     go_wp2
     go_ret2
     exact⟨by rw [HY.out.1,HY.out.2];rfl,rfl⟩
    ·have HM:=no 80 rfl hs
     clear yes no HN
     go_wp2
     go_round
     case rel=>exact⟨5,by omega,by go_num,HM⟩
     case measure=>simp [intOf]
   ·have ik:∀w,(Instr.index 281 (.agg #[.int .i64 2,.int .i64 3,.int .i64 5,.int .i64 7,.int .i64 10,.int .i64 15]) (.int .i64 5)).run Tryz.prog w = .ok (.int .i64 15) w:=fun _=>by kernel_rfl
    by_cases hs:n≤120
    ·have HY:=yes 120 (by omega) rfl hs
     clear yes no HN
     go_wp2
     go_ret2
     exact⟨by rw [HY.out.1,HY.out.2];rfl,rfl⟩
    ·have HM:=no 120 rfl hs
     clear yes no HN
     go_wp2
     go_round
     case rel=>exact⟨6,by omega,by go_num,HM⟩
     case measure=>simp [intOf]
   ·have HO:Hid (clN n=0∧clB n=false):=hid (cl_out HN.out)
    clear yes no HN
    go_wp2
    go_ret2
    exact⟨by rw [HO.out.1,HO.out.2];rfl,rfl⟩
theorem words_any(c:Int)(w:World)(T:Cws w) :
  Calls Tryz.prog 253 #[.int .i64 c] w fun e w'=>e = .returned (.tuple #[.int .i64 (wdN c),.int .i64 (wdE c)])∧w=w':=by
 rcases cls_cases c with(rfl | rfl | rfl | rfl | rfl | rfl) | h
 ·have c0:w.cell? ⟨1,0,none⟩=some (.int .i64 2):=T.spot 0 (by omega)
  have e1:wdN 0=2:=by decide
  have e2:wdE 0=0:=by decide
  rw [e1,e2]
  clear e1 e2
  go_enter Tryz.func253,Tryz.ntmps253
  go_wp2
  go_ret2
  exact⟨rfl,rfl⟩
 ·have c0:w.cell? ⟨1,1,none⟩=some (.int .i64 3):=T.spot 1 (by omega)
  have e1:wdN 1=3:=by decide
  have e2:wdE 1=0:=by decide
  rw [e1,e2]
  clear e1 e2
  go_enter Tryz.func253,Tryz.ntmps253
  go_wp2
  go_ret2
  exact⟨rfl,rfl⟩
 ·have c0:w.cell? ⟨1,2,none⟩=some (.int .i64 5):=T.spot 2 (by omega)
  have e1:wdN 2=5:=by decide
  have e2:wdE 2=0:=by decide
  rw [e1,e2]
  clear e1 e2
  go_enter Tryz.func253,Tryz.ntmps253
  go_wp2
  go_ret2
  exact⟨rfl,rfl⟩
 ·have c0:w.cell? ⟨1,3,none⟩=some (.int .i64 7):=T.spot 3 (by omega)
  have e1:wdN 3=7:=by decide
  have e2:wdE 3=0:=by decide
  rw [e1,e2]
  clear e1 e2
  go_enter Tryz.func253,Tryz.ntmps253
  go_wp2
  go_ret2
  exact⟨rfl,rfl⟩
 ·have c0:w.cell? ⟨1,4,none⟩=some (.int .i64 10):=T.spot 4 (by omega)
  have e1:wdN 4=10:=by decide
  have e2:wdE 4=0:=by decide
  rw [e1,e2]
  clear e1 e2
  go_enter Tryz.func253,Tryz.ntmps253
  go_wp2
  go_ret2
  exact⟨rfl,rfl⟩
 ·have c0:w.cell? ⟨1,5,none⟩=some (.int .i64 15):=T.spot 5 (by omega)
  have e1:wdN 5=15:=by decide
  have e2:wdE 5=0:=by decide
  rw [e1,e2]
  clear e1 e2
  go_enter Tryz.func253,Tryz.ntmps253
  go_wp2
  go_ret2
  exact⟨rfl,rfl⟩
 ·rw [wdN_out h,wdE_out h]
  by_cases h1:c<0
  ·clear h
   go_enter Tryz.func253,Tryz.ntmps253
   go_wp2
   go_ret2
   exact⟨rfl,rfl⟩
  ·have h2:6≤c:=by omega
   clear h
   go_enter Tryz.func253,Tryz.ntmps253
   go_wp2
   go_ret2
   exact⟨rfl,rfl⟩
theorem cells_any(c:Int)(w:World)(T:Cws w) :
  Calls Tryz.prog 267 #[.int .i64 c] w fun e w'=>e = .returned (.tuple #[.int .i64 (ceN c),.int .i64 (wdE c)])∧w=w':=by
 have cW:=words_any c w T
 rcases cls_cases c with(rfl | rfl | rfl | rfl | rfl | rfl) | h
 ·rw [show wdN 0=2 by decide,show wdE 0=0 by decide] at cW
  rw [show ceN 0=14 by decide,show wdE 0=0 by decide]
  clear T
  go_enter Tryz.func267,Tryz.ntmps267
  go_wp2_with (go_at_call 253;with_reducible refine cW.mono ?_;rintro e w' ⟨rfl,rfl⟩)
  go_ret2
  exact⟨rfl,rfl⟩
 ·rw [show wdN 1=3 by decide,show wdE 1=0 by decide] at cW
  rw [show ceN 1=9 by decide,show wdE 1=0 by decide]
  clear T
  go_enter Tryz.func267,Tryz.ntmps267
  go_wp2_with (go_at_call 253;with_reducible refine cW.mono ?_;rintro e w' ⟨rfl,rfl⟩)
  go_ret2
  exact⟨rfl,rfl⟩
 ·rw [show wdN 2=5 by decide,show wdE 2=0 by decide] at cW
  rw [show ceN 2=5 by decide,show wdE 2=0 by decide]
  clear T
  go_enter Tryz.func267,Tryz.ntmps267
  go_wp2_with (go_at_call 253;with_reducible refine cW.mono ?_;rintro e w' ⟨rfl,rfl⟩)
  go_ret2
  exact⟨rfl,rfl⟩
 ·rw [show wdN 3=7 by decide,show wdE 3=0 by decide] at cW
  rw [show ceN 3=4 by decide,show wdE 3=0 by decide]
  clear T
  go_enter Tryz.func267,Tryz.ntmps267
  go_wp2_with (go_at_call 253;with_reducible refine cW.mono ?_;rintro e w' ⟨rfl,rfl⟩)
  go_ret2
  exact⟨rfl,rfl⟩
 ·rw [show wdN 4=10 by decide,show wdE 4=0 by decide] at cW
  rw [show ceN 4=2 by decide,show wdE 4=0 by decide]
  clear T
  go_enter Tryz.func267,Tryz.ntmps267
  go_wp2_with (go_at_call 253;with_reducible refine cW.mono ?_;rintro e w' ⟨rfl,rfl⟩)
  go_ret2
  exact⟨rfl,rfl⟩
 ·rw [show wdN 5=15 by decide,show wdE 5=0 by decide] at cW
  rw [show ceN 5=1 by decide,show wdE 5=0 by decide]
  clear T
  go_enter Tryz.func267,Tryz.ntmps267
  go_wp2_with (go_at_call 253;with_reducible refine cW.mono ?_;rintro e w' ⟨rfl,rfl⟩)
  go_ret2
  exact⟨rfl,rfl⟩
 ·rw [wdN_out h,wdE_out h] at cW
  rw [ceN_out h,wdE_out h]
  clear T h
  go_enter Tryz.func267,Tryz.ntmps267
  go_wp2_with (go_at_call 253;with_reducible refine cW.mono ?_;rintro e w' ⟨rfl,rfl⟩)
  go_ret2
  exact⟨rfl,rfl⟩
def laB(n:Int):Bool:=decide (120<n∧n≤2048)
theorem large_any(n:Int)(w:World)(T:Cws w) :
  Calls Tryz.prog 265 #[.int .i64 n] w fun e w'=>e = .returned (.bool (laB n))∧w=w':=by
 have cO:=clsOf_any n w T
 by_cases h1:n≤0
 ·rw [(cl_f (n:=n) (by omega)).1,(cl_f (n:=n) (by omega)).2] at cO
  rw [show laB n=false from decide_eq_false (by omega)]
  clear T
  go_enter Tryz.func265,Tryz.ntmps265
  go_wp2_with (go_at_call 248;with_reducible refine cO.mono ?_;rintro e w' ⟨rfl,rfl⟩)
  go_ret
  exact⟨rfl,rfl⟩
 ·by_cases h2:n≤120
  ·rw [cl_b (n:=n) (by omega)] at cO
   rw [show laB n=false from decide_eq_false (by omega)]
   have h3:0<n:=by omega
   have h4:n≤2048:=by omega
   clear T
   go_enter Tryz.func265,Tryz.ntmps265
   go_wp2_with (go_at_call 248;with_reducible refine cO.mono ?_;rintro e w' ⟨rfl,rfl⟩)
   go_ret
   exact⟨rfl,rfl⟩
  ·rw [(cl_f (n:=n) (by omega)).1,(cl_f (n:=n) (by omega)).2] at cO
   have h3:0<n:=by omega
   by_cases h4:n≤2048
   ·rw [show laB n=true from decide_eq_true (by omega)]
    clear T
    go_enter Tryz.func265,Tryz.ntmps265
    go_wp2_with (go_at_call 248;with_reducible refine cO.mono ?_;rintro e w' ⟨rfl,rfl⟩)
    go_ret
    exact⟨rfl,rfl⟩
   ·rw [show laB n=false from decide_eq_false (by omega)]
    clear T
    go_enter Tryz.func265,Tryz.ntmps265
    go_wp2_with (go_at_call 248;with_reducible refine cO.mono ?_;rintro e w' ⟨rfl,rfl⟩)
    go_ret
    exact⟨rfl,rfl⟩
theorem pages_any(n:Int)(w:World)(T:Cws w) :
  Calls Tryz.prog 250 #[.int .i64 n] w fun e w'=>e = .returned (.tuple #[.int .i64 (pgN n),.int .i64 (pgE n)])∧w=w':=by
 have cO:=large_any n w T
 by_cases h:120<n∧n≤2048
 ·rw [show laB n=true from decide_eq_true h] at cO
  rw [(pg_t h).1,(pg_t h).2]
  obtain⟨h1,h2⟩:=h
  have w1:IntKind.i64.wrap (n+256)=n+256:=IntWalk.i64_in _ ⟨by omega,by omega⟩
  have w2:IntKind.i64.wrap (n+256-1)=n+255:=by rw [IntWalk.i64_in _ ⟨by omega,by omega⟩];omega
  have w3:Int.tdiv (n+255) 256=(n+255) / 256:=Int.tdiv_eq_ediv_of_nonneg (by omega)
  have w4:IntKind.i64.wrap ((n+255) / 256)=(n+255) / 256:=IntWalk.i64_in _ ⟨by omega,by omega⟩
  clear T
  go_enter Tryz.func250,Tryz.ntmps250
  go_wp2_with (go_at_call 265;with_reducible refine cO.mono ?_;rintro e w' ⟨rfl,rfl⟩)
  go_ret2
  exact⟨rfl,rfl⟩
 ·rw [show laB n=false from decide_eq_false h] at cO
  rw [(pg_f h).1,(pg_f h).2]
  clear T h
  go_enter Tryz.func250,Tryz.ntmps250
  go_wp2_with (go_at_call 265;with_reducible refine cO.mono ?_;rintro e w' ⟨rfl,rfl⟩)
  go_ret2
  exact⟨rfl,rfl⟩
theorem cell_any(c k:Int)(w:World)(T:Cws w) :
  Calls Tryz.prog 254 #[.int .i64 c,.int .i64 k] w fun e w'=>e = .returned (.tuple #[.int .i64 (ctN c k),.int .i64 (ctE c k)])∧w=w':=by
 have cW:=cells_any c w T
 by_cases hk:CtOk c k
 ·rw [(ct_t hk).1,(ct_t hk).2]
  have hc:=hk.cls
  obtain⟨h1,h2⟩:=hk
  rcases(show c=0∨c=1∨c=2∨c=3∨c=4∨c=5 by omega)with rfl | rfl | rfl | rfl | rfl | rfl
  ·have c0:w.cell? ⟨1,0,none⟩=some (.int .i64 2):=T.spot 0 (by omega)
   rw [show ceN 0=14 by decide,show wdE 0=0 by decide] at cW
   rw [show wdN 0=2 by decide]
   rw [show ceN 0=14 by decide] at h2
   have w1:IntKind.i64.wrap (k*2)=k*2:=IntWalk.i64_in _ ⟨by omega,by omega⟩
   have w2:IntKind.i64.wrap (4+k*2)=4+k*2:=IntWalk.i64_in _ ⟨by omega,by omega⟩
   clear T hc
   go_enter Tryz.func254,Tryz.ntmps254
   go_wp2_with (go_at_call 267;with_reducible refine cW.mono ?_;rintro e w' ⟨rfl,rfl⟩)
   go_ret2
   exact⟨rfl,rfl⟩
  ·have c0:w.cell? ⟨1,1,none⟩=some (.int .i64 3):=T.spot 1 (by omega)
   rw [show ceN 1=9 by decide,show wdE 1=0 by decide] at cW
   rw [show wdN 1=3 by decide]
   rw [show ceN 1=9 by decide] at h2
   have w1:IntKind.i64.wrap (k*3)=k*3:=IntWalk.i64_in _ ⟨by omega,by omega⟩
   have w2:IntKind.i64.wrap (4+k*3)=4+k*3:=IntWalk.i64_in _ ⟨by omega,by omega⟩
   clear T hc
   go_enter Tryz.func254,Tryz.ntmps254
   go_wp2_with (go_at_call 267;with_reducible refine cW.mono ?_;rintro e w' ⟨rfl,rfl⟩)
   go_ret2
   exact⟨rfl,rfl⟩
  ·have c0:w.cell? ⟨1,2,none⟩=some (.int .i64 5):=T.spot 2 (by omega)
   rw [show ceN 2=5 by decide,show wdE 2=0 by decide] at cW
   rw [show wdN 2=5 by decide]
   rw [show ceN 2=5 by decide] at h2
   have w1:IntKind.i64.wrap (k*5)=k*5:=IntWalk.i64_in _ ⟨by omega,by omega⟩
   have w2:IntKind.i64.wrap (4+k*5)=4+k*5:=IntWalk.i64_in _ ⟨by omega,by omega⟩
   clear T hc
   go_enter Tryz.func254,Tryz.ntmps254
   go_wp2_with (go_at_call 267;with_reducible refine cW.mono ?_;rintro e w' ⟨rfl,rfl⟩)
   go_ret2
   exact⟨rfl,rfl⟩
  ·have c0:w.cell? ⟨1,3,none⟩=some (.int .i64 7):=T.spot 3 (by omega)
   rw [show ceN 3=4 by decide,show wdE 3=0 by decide] at cW
   rw [show wdN 3=7 by decide]
   rw [show ceN 3=4 by decide] at h2
   have w1:IntKind.i64.wrap (k*7)=k*7:=IntWalk.i64_in _ ⟨by omega,by omega⟩
   have w2:IntKind.i64.wrap (4+k*7)=4+k*7:=IntWalk.i64_in _ ⟨by omega,by omega⟩
   clear T hc
   go_enter Tryz.func254,Tryz.ntmps254
   go_wp2_with (go_at_call 267;with_reducible refine cW.mono ?_;rintro e w' ⟨rfl,rfl⟩)
   go_ret2
   exact⟨rfl,rfl⟩
  ·have c0:w.cell? ⟨1,4,none⟩=some (.int .i64 10):=T.spot 4 (by omega)
   rw [show ceN 4=2 by decide,show wdE 4=0 by decide] at cW
   rw [show wdN 4=10 by decide]
   rw [show ceN 4=2 by decide] at h2
   have w1:IntKind.i64.wrap (k*10)=k*10:=IntWalk.i64_in _ ⟨by omega,by omega⟩
   have w2:IntKind.i64.wrap (4+k*10)=4+k*10:=IntWalk.i64_in _ ⟨by omega,by omega⟩
   clear T hc
   go_enter Tryz.func254,Tryz.ntmps254
   go_wp2_with (go_at_call 267;with_reducible refine cW.mono ?_;rintro e w' ⟨rfl,rfl⟩)
   go_ret2
   exact⟨rfl,rfl⟩
  ·have c0:w.cell? ⟨1,5,none⟩=some (.int .i64 15):=T.spot 5 (by omega)
   rw [show ceN 5=1 by decide,show wdE 5=0 by decide] at cW
   rw [show wdN 5=15 by decide]
   rw [show ceN 5=1 by decide] at h2
   have w1:IntKind.i64.wrap (k*15)=k*15:=IntWalk.i64_in _ ⟨by omega,by omega⟩
   have w2:IntKind.i64.wrap (4+k*15)=4+k*15:=IntWalk.i64_in _ ⟨by omega,by omega⟩
   clear T hc
   go_enter Tryz.func254,Tryz.ntmps254
   go_wp2_with (go_at_call 267;with_reducible refine cW.mono ?_;rintro e w' ⟨rfl,rfl⟩)
   go_ret2
   exact⟨rfl,rfl⟩
 ·rw [(ct_f hk).1,(ct_f hk).2]
  by_cases hc:0≤c∧c<6
  ·rw [wdE_in hc] at cW
   by_cases h1:k<0
   ·clear T hc hk
    generalize ceN c=m at *
    go_enter Tryz.func254,Tryz.ntmps254
    go_wp2_with (go_at_call 267;with_reducible refine cW.mono ?_;rintro e w' ⟨rfl,rfl⟩)
    go_ret2
    exact⟨rfl,rfl⟩
   ·have h2:ceN c≤k:=by unfold CtOk at hk;omega
    clear T hc hk
    generalize ceN c=m at *
    go_enter Tryz.func254,Tryz.ntmps254
    go_wp2_with (go_at_call 267;with_reducible refine cW.mono ?_;rintro e w' ⟨rfl,rfl⟩)
    go_ret2
    exact⟨rfl,rfl⟩
  ·rw [wdE_out hc] at cW
   clear T hc hk
   generalize ceN c=m at *
   go_enter Tryz.func254,Tryz.ntmps254
   go_wp2_with (go_at_call 267;with_reducible refine cW.mono ?_;rintro e w' ⟨rfl,rfl⟩)
   go_ret2
   exact⟨rfl,rfl⟩
theorem which_any(c o:Int)(ho:o≤9223372036854775807)(w:World)(T:Cws w) :
  Calls Tryz.prog 256 #[.int .i64 c,.int .i64 o] w fun e w'=>e = .returned (.tuple #[.int .i64 (whN c o),.bool (whB c o)])∧w=w':=by
 have cW:=cells_any c w T
 by_cases hc:0≤c∧c<6
 ·by_cases h4:o<4
  ·have hk:¬WhOk c o:=fun h=>by have:=h.1;omega
   rw [(wh_f hk).1,(wh_f hk).2]
   rw [wdE_in hc] at cW
   clear T hc hk
   generalize ceN c=m at *
   go_enter Tryz.func256,Tryz.ntmps256
   go_wp2_with (go_at_call 267;with_reducible refine cW.mono ?_;rintro e w' ⟨rfl,rfl⟩)
   go_ret2
   exact⟨rfl,rfl⟩
  ·have w0:IntKind.i64.wrap (o-4)=o-4:=IntWalk.i64_in _ ⟨by omega,by omega⟩
   rcases(show c=0∨c=1∨c=2∨c=3∨c=4∨c=5 by omega)with rfl | rfl | rfl | rfl | rfl | rfl
   ·have c0:w.cell? ⟨1,0,none⟩=some (.int .i64 2):=T.spot 0 (by omega)
    rw [show ceN 0=14 by decide,show wdE 0=0 by decide] at cW
    have w1:Int.tdiv (o-4) 2=(o-4) / 2:=Int.tdiv_eq_ediv_of_nonneg (by omega)
    have w2:IntKind.i64.wrap ((o-4) / 2)=(o-4) / 2:=IntWalk.i64_in _ ⟨by omega,by omega⟩
    have w3:Int.tmod (o-4) 2=(o-4) % 2:=Int.tmod_eq_emod_of_nonneg (by omega)
    by_cases hk:WhOk 0 o
    ·rw [(wh_t hk).1,(wh_t hk).2,show wdN 0=2 by decide]
     have h2:(o-4) / 2<14:=hk.2.1
     have h3:(o-4) % 2=0:=hk.2.2
     clear T hc hk ho
     go_enter Tryz.func256,Tryz.ntmps256
     go_wp2_with (go_at_call 267;with_reducible refine cW.mono ?_;rintro e w' ⟨rfl,rfl⟩)
     go_ret2
     exact⟨rfl,rfl⟩
    ·rw [(wh_f hk).1,(wh_f hk).2]
     by_cases h2:14≤(o-4) / 2
     ·clear T hc hk ho
      go_enter Tryz.func256,Tryz.ntmps256
      go_wp2_with (go_at_call 267;with_reducible refine cW.mono ?_;rintro e w' ⟨rfl,rfl⟩)
      go_ret2
      exact⟨rfl,rfl⟩
     ·have h3:¬(o-4) % 2=0:=fun h=>hk ⟨by omega,show(o-4) / 2<14 by omega,h⟩
      have h5:((o-4) % 2 != 0)=true:=by simpa using h3
      clear T hc hk ho
      go_enter Tryz.func256,Tryz.ntmps256
      go_wp2_with (go_at_call 267;with_reducible refine cW.mono ?_;rintro e w' ⟨rfl,rfl⟩)
      go_ret2
      exact⟨rfl,rfl⟩
   ·have c0:w.cell? ⟨1,1,none⟩=some (.int .i64 3):=T.spot 1 (by omega)
    rw [show ceN 1=9 by decide,show wdE 1=0 by decide] at cW
    have w1:Int.tdiv (o-4) 3=(o-4) / 3:=Int.tdiv_eq_ediv_of_nonneg (by omega)
    have w2:IntKind.i64.wrap ((o-4) / 3)=(o-4) / 3:=IntWalk.i64_in _ ⟨by omega,by omega⟩
    have w3:Int.tmod (o-4) 3=(o-4) % 3:=Int.tmod_eq_emod_of_nonneg (by omega)
    by_cases hk:WhOk 1 o
    ·rw [(wh_t hk).1,(wh_t hk).2,show wdN 1=3 by decide]
     have h2:(o-4) / 3<9:=hk.2.1
     have h3:(o-4) % 3=0:=hk.2.2
     clear T hc hk ho
     go_enter Tryz.func256,Tryz.ntmps256
     go_wp2_with (go_at_call 267;with_reducible refine cW.mono ?_;rintro e w' ⟨rfl,rfl⟩)
     go_ret2
     exact⟨rfl,rfl⟩
    ·rw [(wh_f hk).1,(wh_f hk).2]
     by_cases h2:9≤(o-4) / 3
     ·clear T hc hk ho
      go_enter Tryz.func256,Tryz.ntmps256
      go_wp2_with (go_at_call 267;with_reducible refine cW.mono ?_;rintro e w' ⟨rfl,rfl⟩)
      go_ret2
      exact⟨rfl,rfl⟩
     ·have h3:¬(o-4) % 3=0:=fun h=>hk ⟨by omega,show(o-4) / 3<9 by omega,h⟩
      have h5:((o-4) % 3 != 0)=true:=by simpa using h3
      clear T hc hk ho
      go_enter Tryz.func256,Tryz.ntmps256
      go_wp2_with (go_at_call 267;with_reducible refine cW.mono ?_;rintro e w' ⟨rfl,rfl⟩)
      go_ret2
      exact⟨rfl,rfl⟩
   ·have c0:w.cell? ⟨1,2,none⟩=some (.int .i64 5):=T.spot 2 (by omega)
    rw [show ceN 2=5 by decide,show wdE 2=0 by decide] at cW
    have w1:Int.tdiv (o-4) 5=(o-4) / 5:=Int.tdiv_eq_ediv_of_nonneg (by omega)
    have w2:IntKind.i64.wrap ((o-4) / 5)=(o-4) / 5:=IntWalk.i64_in _ ⟨by omega,by omega⟩
    have w3:Int.tmod (o-4) 5=(o-4) % 5:=Int.tmod_eq_emod_of_nonneg (by omega)
    by_cases hk:WhOk 2 o
    ·rw [(wh_t hk).1,(wh_t hk).2,show wdN 2=5 by decide]
     have h2:(o-4) / 5<5:=hk.2.1
     have h3:(o-4) % 5=0:=hk.2.2
     clear T hc hk ho
     go_enter Tryz.func256,Tryz.ntmps256
     go_wp2_with (go_at_call 267;with_reducible refine cW.mono ?_;rintro e w' ⟨rfl,rfl⟩)
     go_ret2
     exact⟨rfl,rfl⟩
    ·rw [(wh_f hk).1,(wh_f hk).2]
     by_cases h2:5≤(o-4) / 5
     ·clear T hc hk ho
      go_enter Tryz.func256,Tryz.ntmps256
      go_wp2_with (go_at_call 267;with_reducible refine cW.mono ?_;rintro e w' ⟨rfl,rfl⟩)
      go_ret2
      exact⟨rfl,rfl⟩
     ·have h3:¬(o-4) % 5=0:=fun h=>hk ⟨by omega,show(o-4) / 5<5 by omega,h⟩
      have h5:((o-4) % 5 != 0)=true:=by simpa using h3
      clear T hc hk ho
      go_enter Tryz.func256,Tryz.ntmps256
      go_wp2_with (go_at_call 267;with_reducible refine cW.mono ?_;rintro e w' ⟨rfl,rfl⟩)
      go_ret2
      exact⟨rfl,rfl⟩
   ·have c0:w.cell? ⟨1,3,none⟩=some (.int .i64 7):=T.spot 3 (by omega)
    rw [show ceN 3=4 by decide,show wdE 3=0 by decide] at cW
    have w1:Int.tdiv (o-4) 7=(o-4) / 7:=Int.tdiv_eq_ediv_of_nonneg (by omega)
    have w2:IntKind.i64.wrap ((o-4) / 7)=(o-4) / 7:=IntWalk.i64_in _ ⟨by omega,by omega⟩
    have w3:Int.tmod (o-4) 7=(o-4) % 7:=Int.tmod_eq_emod_of_nonneg (by omega)
    by_cases hk:WhOk 3 o
    ·rw [(wh_t hk).1,(wh_t hk).2,show wdN 3=7 by decide]
     have h2:(o-4) / 7<4:=hk.2.1
     have h3:(o-4) % 7=0:=hk.2.2
     clear T hc hk ho
     go_enter Tryz.func256,Tryz.ntmps256
     go_wp2_with (go_at_call 267;with_reducible refine cW.mono ?_;rintro e w' ⟨rfl,rfl⟩)
     go_ret2
     exact⟨rfl,rfl⟩
    ·rw [(wh_f hk).1,(wh_f hk).2]
     by_cases h2:4≤(o-4) / 7
     ·clear T hc hk ho
      go_enter Tryz.func256,Tryz.ntmps256
      go_wp2_with (go_at_call 267;with_reducible refine cW.mono ?_;rintro e w' ⟨rfl,rfl⟩)
      go_ret2
      exact⟨rfl,rfl⟩
     ·have h3:¬(o-4) % 7=0:=fun h=>hk ⟨by omega,show(o-4) / 7<4 by omega,h⟩
      have h5:((o-4) % 7 != 0)=true:=by simpa using h3
      clear T hc hk ho
      go_enter Tryz.func256,Tryz.ntmps256
      go_wp2_with (go_at_call 267;with_reducible refine cW.mono ?_;rintro e w' ⟨rfl,rfl⟩)
      go_ret2
      exact⟨rfl,rfl⟩
   ·have c0:w.cell? ⟨1,4,none⟩=some (.int .i64 10):=T.spot 4 (by omega)
    rw [show ceN 4=2 by decide,show wdE 4=0 by decide] at cW
    have w1:Int.tdiv (o-4) 10=(o-4) / 10:=Int.tdiv_eq_ediv_of_nonneg (by omega)
    have w2:IntKind.i64.wrap ((o-4) / 10)=(o-4) / 10:=IntWalk.i64_in _ ⟨by omega,by omega⟩
    have w3:Int.tmod (o-4) 10=(o-4) % 10:=Int.tmod_eq_emod_of_nonneg (by omega)
    by_cases hk:WhOk 4 o
    ·rw [(wh_t hk).1,(wh_t hk).2,show wdN 4=10 by decide]
     have h2:(o-4) / 10<2:=hk.2.1
     have h3:(o-4) % 10=0:=hk.2.2
     clear T hc hk ho
     go_enter Tryz.func256,Tryz.ntmps256
     go_wp2_with (go_at_call 267;with_reducible refine cW.mono ?_;rintro e w' ⟨rfl,rfl⟩)
     go_ret2
     exact⟨rfl,rfl⟩
    ·rw [(wh_f hk).1,(wh_f hk).2]
     by_cases h2:2≤(o-4) / 10
     ·clear T hc hk ho
      go_enter Tryz.func256,Tryz.ntmps256
      go_wp2_with (go_at_call 267;with_reducible refine cW.mono ?_;rintro e w' ⟨rfl,rfl⟩)
      go_ret2
      exact⟨rfl,rfl⟩
     ·have h3:¬(o-4) % 10=0:=fun h=>hk ⟨by omega,show(o-4) / 10<2 by omega,h⟩
      have h5:((o-4) % 10 != 0)=true:=by simpa using h3
      clear T hc hk ho
      go_enter Tryz.func256,Tryz.ntmps256
      go_wp2_with (go_at_call 267;with_reducible refine cW.mono ?_;rintro e w' ⟨rfl,rfl⟩)
      go_ret2
      exact⟨rfl,rfl⟩
   ·have c0:w.cell? ⟨1,5,none⟩=some (.int .i64 15):=T.spot 5 (by omega)
    rw [show ceN 5=1 by decide,show wdE 5=0 by decide] at cW
    have w1:Int.tdiv (o-4) 15=(o-4) / 15:=Int.tdiv_eq_ediv_of_nonneg (by omega)
    have w2:IntKind.i64.wrap ((o-4) / 15)=(o-4) / 15:=IntWalk.i64_in _ ⟨by omega,by omega⟩
    have w3:Int.tmod (o-4) 15=(o-4) % 15:=Int.tmod_eq_emod_of_nonneg (by omega)
    by_cases hk:WhOk 5 o
    ·rw [(wh_t hk).1,(wh_t hk).2,show wdN 5=15 by decide]
     have h2:(o-4) / 15<1:=hk.2.1
     have h3:(o-4) % 15=0:=hk.2.2
     clear T hc hk ho
     go_enter Tryz.func256,Tryz.ntmps256
     go_wp2_with (go_at_call 267;with_reducible refine cW.mono ?_;rintro e w' ⟨rfl,rfl⟩)
     go_ret2
     exact⟨rfl,rfl⟩
    ·rw [(wh_f hk).1,(wh_f hk).2]
     by_cases h2:1≤(o-4) / 15
     ·clear T hc hk ho
      go_enter Tryz.func256,Tryz.ntmps256
      go_wp2_with (go_at_call 267;with_reducible refine cW.mono ?_;rintro e w' ⟨rfl,rfl⟩)
      go_ret2
      exact⟨rfl,rfl⟩
     ·have h3:¬(o-4) % 15=0:=fun h=>hk ⟨by omega,show(o-4) / 15<1 by omega,h⟩
      have h5:((o-4) % 15 != 0)=true:=by simpa using h3
      clear T hc hk ho
      go_enter Tryz.func256,Tryz.ntmps256
      go_wp2_with (go_at_call 267;with_reducible refine cW.mono ?_;rintro e w' ⟨rfl,rfl⟩)
      go_ret2
      exact⟨rfl,rfl⟩
 ·have hk:¬WhOk c o:=whOk_out hc
  rw [(wh_f hk).1,(wh_f hk).2]
  rw [wdE_out hc] at cW
  clear T hc hk
  generalize ceN c=m at *
  go_enter Tryz.func256,Tryz.ntmps256
  go_wp2_with (go_at_call 267;with_reducible refine cW.mono ?_;rintro e w' ⟨rfl,rfl⟩)
  go_ret2
  exact⟨rfl,rfl⟩
end
end Go.Proofs.YtfdnicekdkchbaaGreatDoor
