/- RefHand · HandQ -/
import Derived.Lib.OthersKept
import Derived.Test.YtfdnicekdkchbaaGreatDoorKimac
namespace Go.Proofs.YtfdnicekdkchbaaGreatDoor
set_option linter.unusedVariables false
set_option linter.unusedSimpArgs false
section
set_option maxRecDepth 100000
open Go.RowKit
set_option maxRecDepth 100000
theorem box_cells{w w1:World}{a b:Value}{T:TypeId}(hb:Below (w.alloc (.cells #[a,b] T)).heap.size (w.alloc (.cells #[a,b] T)) w1):w1.cell? ⟨w.heap.size,0,none⟩=some a∧w1.cell? ⟨w.heap.size,1,none⟩=some b:=by
 have e:w1.heap[w.heap.size]? = some (.cells #[a,b] T (0,0)):=by
  rw [hb.block _ (by simp)]
  show(w.heap.push _)[w.heap.size]? = _
  simp
 constructor
 ·rw [Lib.cell_of_heap e];rfl
 ·rw [Lib.cell_of_heap e];rfl
theorem hRight_any(I G:Int)(w:World) :
  Calls Tryz.prog 189 #[.agg #[.int .i64 I,.int .i64 G]] w fun e w'=>e = .returned (.bool (rightHB I G))∧Below w.heap.size w w':=by
 go_enter Tryz.func189,Tryz.ntmps189
 go_wp2
 all_goals (go_ret;refine⟨ret_bool ?_,(Below.refl _ w).alloc (Nat.le_refl _) _⟩)
 all_goals (rw [Bool.eq_iff_iff,rightHB_iff];simp only [decide_eq_true_eq,Bool.false_eq_true,false_iff];omega)
theorem hCode_any(I G:Int)(w:World) :
  Calls Tryz.prog 247 #[.agg #[.int .i64 I,.int .i64 G]] w fun e w'=>e = .returned (.tuple #[.int .i64 (codN I G),.int .i64 (codE I G)])∧Below w.heap.size w w':=by
 have hb:Below w.heap.size w (w.alloc (.cells #[.int .i64 I,.int .i64 G] 61)):=(Below.refl _ w).alloc (Nat.le_refl _) _
 by_cases h:RightH I G
 ·have hr:=hRight_any I G
  rw [rightHB_t h] at hr
  rw [(cod_t h).1,(cod_t h).2]
  have h':0≤I∧I<32∧0≤G∧G≤65535:=h
  have hc:Hid (codeH I G=I*65536+G+1):=rfl
  go_enter Tryz.func247,Tryz.ntmps247
  go_wp2_with (first | (go_at_call 189;with_reducible refine(hr _).mono ?_;rintro e w1 ⟨rfl,hb1⟩;obtain⟨c0,c1⟩:=box_cells hb1))
  go_ret2
  refine⟨?_,next hb hb1⟩
  rw [hc.out]
  rfl
 ·have hr:=hRight_any I G
  rw [rightHB_f h] at hr
  rw [(cod_f h).1,(cod_f h).2]
  go_enter Tryz.func247,Tryz.ntmps247
  go_wp2_with (first | (go_at_call 189;with_reducible refine(hr _).mono ?_;rintro e w1 ⟨rfl,hb1⟩))
  go_ret2
  exact⟨rfl,next hb hb1⟩
theorem hOf_any(n:Int)(w:World)(h0 : -9223372036854775808≤n)(h1:n≤9223372036854775807) :
  Calls Tryz.prog 227 #[.int .i64 n] w fun e w'=>e = .returned (.tuple #[.agg #[.int .i64 (ofI n),.int .i64 (ofG n)],.bool (ofHB n)])∧Below w.heap.size w w':=by
 by_cases h:1≤n∧n≤2097152
 ·obtain⟨e1,e2,e3⟩:=ofH_t h
  rw [e1,e2,e3]
  go_enter Tryz.func227,Tryz.ntmps227
  go_wp2
  all_goals first | (exfalso;omega) | (refine bodyPost_ret (v:=.tuple #[.agg #[.int .i64 ((n-1) / 65536),.int .i64 ((n-1) % 65536)],.bool true]) (by simp [results,Tryz.results227,go_sem]) rfl ⟨rfl,(Below.refl _ w).alloc (Nat.le_refl _) _⟩)
 ·obtain⟨e1,e2,e3⟩:=ofH_f h
  rw [e1,e2,e3]
  go_enter Tryz.func227,Tryz.ntmps227
  go_wp2
  all_goals first | (exfalso;omega) | (refine bodyPost_ret (v:=.tuple #[.agg #[.int .i64 0,.int .i64 0],.bool false]) (by simp [results,Tryz.results227,go_sem]) rfl ⟨rfl,(Below.refl _ w).alloc (Nat.le_refl _) _⟩)
end
end Go.Proofs.YtfdnicekdkchbaaGreatDoor
