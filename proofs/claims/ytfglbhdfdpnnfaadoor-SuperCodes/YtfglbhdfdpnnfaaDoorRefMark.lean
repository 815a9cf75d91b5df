/- joistref02.Seal by its contract. -/
import Derived.Test.YtfglbhdfdpnnfaaDoorSeal
import Derived.Test.YtfglbhdfdpnnfaaDoorRefSum
import Derived.Test.YtfglbhdfdpnnfaaDoorRefBytes
namespace Go.Proofs.YtfglbhdfdpnnfaaDoor
set_option maxRecDepth 100000
open Go.RowKit

theorem made_none (w : World) : (w.alloc (.cells #[] 5)).ownsRow w.heap.size 5 1 (.slice (some ⟨w.heap.size, 0, none⟩) 0 0) 0 (([] : List Int).map (Value.int .u8)) := World.ownsRow_made w #[] 0 (Nat.le_refl _) (Nat.zero_le _) rfl

theorem refseal_any (ao : Option Addr) (n cap : Nat) (zs : List Int) (w : World) (hsl : Sl .u8 w ao n cap zs) (hb : Bytes zs) (hn : n + 8 ≤ 140737488355328) :
    Calls Tryd.prog 24 #[.slice ao n cap] w fun e w' => ∃ bo c, e = .returned (.slice bo (n + 8) c) ∧ Own .u8 5 w.heap.size w' bo (n + 8) c (zs ++ bys (sumN 0 zs : Nat) 8) ∧ Below w.heap.size w w' := by
  obtain ⟨hs0, hs1⟩ := fitB_and (sum_fits hb)
  have hn0 : n ≤ 140737488355328 := by omega
  have hn1 : 0 + n ≤ 140737488355328 := by omega
  have ba : Below w.heap.size w (w.alloc (.cells #[] 5)) := (Below.refl _ _).alloc (Nat.le_refl _) _
  have hsa := hsl.below ba
  have hmade := made_none w
  generalize hS : sumN 0 zs = s at *
  go_enter Tryd.func24, Tryd.ntmps24
  go_wp2_with (first
    | (at_builtin; refine append_sl rfl (.tmp 3) (.tmp 4) rfl w.heap.size _ 0 [] rfl hmade _ n cap zs rfl hsa hn1 ba.size ?_; intro bo c' w1 hown hgrow _; simp only [Nat.zero_add, List.nil_append] at hown; have b1 := ba.grown hgrow ba.size (fun b hb' => (hmade.lt b hb').1); have hs1' := hsl.below b1)
    | (go_at_call 37; refine (refsum_any _ _ _ zs _ hs1' hb hn0).mono ?_; rintro e w' ⟨rfl, rfl⟩; rw [hS])
    | (go_at_call 36; refine (bytes_any (s : Int) _ hs0 hs1).mono ?_; rintro e w2 ⟨g, c2, rfl, hown2, hbel⟩; have b2 := next b1 hbel; have hown' := hown.below hbel)
    | (at_builtin; refine append_sl rfl (.tmp 5) (.tmp 8) rfl w.heap.size _ n zs rfl hown'.row _ 8 c2 _ rfl hown2.sl hn b2.size ?_; intro bo3 c3 w3 hown3 hgrow3 _; have b3 := b2.grown hgrow3 b2.size (fun b hb' => (hown'.row.lt b hb').1)))
  go_ret
  exact ⟨bo3, c3, rfl, hown3, b3⟩
end Go.Proofs.YtfglbhdfdpnnfaaDoor
