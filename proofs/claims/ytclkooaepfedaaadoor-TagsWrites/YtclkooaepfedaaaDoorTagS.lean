/- Both writers by one contract each. -/
import Derived.Test.YtclkooaepfedaaaDoorTagW
import Derived.Test.YtclkooaepfedaaaDoorMhA
import Derived.Test.YtclkooaepfedaaaDoorRefTagA
import Derived.Test.YtclkooaepfedaaaDoorMhB
namespace Go.Proofs.YtclkooaepfedaaaDoor
set_option maxRecDepth 100000
open Go.RowKit
set_option linter.unusedVariables false

/-- What is written of blocks and data. -/
def WrP (f t : Int) (l : List Blk) (ds : List (List Int)) (M : Nat) (zs hs : List Int) (er : Int) : Prop :=
  ((RightP f t (spL l) ∧ HoldB l ds) ∧ HeapB f t l ds zs ∧ M = 8 * (t - f).toNat ∧ hs = hdL (gapsL f t (spL l)) ∧ er = 0) ∨ (¬ (RightP f t (spL l) ∧ HoldB l ds) ∧ M = 0 ∧ zs = [] ∧ hs = [] ∧ er = 1)
theorem WrP.one {f t : Int} {l : List Blk} {ds : List (List Int)} {M M' : Nat} {zs hs zs' hs' : List Int} {er er' : Int} (h : WrP f t l ds M zs hs er) (h' : WrP f t l ds M' zs' hs' er') : M' = M ∧ zs' = zs ∧ hs' = hs ∧ er' = er := by
  rcases h with ⟨a, b, c, d, e⟩ | ⟨a, b, c, d, e⟩ <;> rcases h' with ⟨a', b', c', d', e'⟩ | ⟨a', b', c', d', e'⟩
  · exact ⟨by rw [c, c'], heap_one b' b, by rw [d, d'], by rw [e, e']⟩
  · exact absurd a a'
  · exact absurd a' a
  · exact ⟨by rw [b, b'], by rw [c, c'], by rw [d, d'], by rw [e, e']⟩
theorem sl_nil (k : IntKind) (w : World) : Sl k w none 0 0 [] := ⟨rfl, Nat.le_refl _, fun _ => rfl, fun h => absurd h (by omega)⟩
theorem write_wr (f t : Int) (ao : Option Addr) (n cap : Nat) (l : List Blk) (bo : Option Addr) (m cap' : Nat) (A : Nat → Option Addr) (N C : Nat → Nat) (ds : List (List Int)) (w : World) (T : Mst w) (h : Bs w ao n cap l) (hd : Rd w bo m cap' A N C ds) (hn : n ≤ 99999) (hm : m ≤ 9223372036854775807) :
    Calls Tryd.prog 11 #[.int .i64 f, .int .i64 t, .slice ao n cap, .slice bo m cap'] w fun e w' => ∃ xo M xc ho nh hx er zs hs, e = .returned (.tuple #[.slice xo M xc, .slice ho nh hx, .int .i64 er]) ∧ WrP f t l ds M zs hs er ∧ Sl .u8 w' xo M xc zs ∧ Rowd w' w.heap.size xo M xc (blk xo) ∧ Sl .i64 w' ho nh hx hs ∧ nh ≤ 7 ∧ Below w.heap.size w w' := by
  by_cases hR : RightP f t (spL l) ∧ HoldB l ds
  · refine (write_ok f t ao n cap l bo m cap' A N C ds w T h hd (by omega) hm hR.1 hR.2).mono ?_
    rintro e w' ⟨xg, hg, zs, rfl, k1, k2, k3, _, k4⟩
    exact ⟨_, _, _, _, _, _, _, zs, _, rfl, Or.inl ⟨hR, k1, rfl, rfl, rfl⟩, k2.sl, k2.rowb, k3, Nat.le_refl _, k4⟩
  · refine (write_bad f t ao n cap l bo m cap' A N C ds w h hd (by omega) hm hR).mono ?_
    rintro e w' ⟨rfl, k⟩
    exact ⟨_, _, _, _, _, _, _, [], [], rfl, Or.inr ⟨hR, rfl, rfl, rfl, rfl⟩, sl_nil _ _, rowd_nil _ _, sl_nil _ _, by omega, k⟩
theorem rwrite_wr (f t : Int) (ao : Option Addr) (n cap : Nat) (l : List Blk) (bo : Option Addr) (m cap' : Nat) (A : Nat → Option Addr) (N C : Nat → Nat) (ds : List (List Int)) (w : World) (h : Bs w ao n cap l) (hd : Rd w bo m cap' A N C ds) (hn : n ≤ 99999) (hm : m ≤ 9223372036854775807) :
    Calls Tryd.prog 12 #[.int .i64 f, .int .i64 t, .slice ao n cap, .slice bo m cap'] w fun e w' => ∃ xo M xc ho nh hx er zs hs, e = .returned (.tuple #[.slice xo M xc, .slice ho nh hx, .int .i64 er]) ∧ WrP f t l ds M zs hs er ∧ Sl .u8 w' xo M xc zs ∧ Sl .i64 w' ho nh hx hs ∧ nh ≤ 7 ∧ Below w.heap.size w w' := by
  by_cases hR : RightP f t (spL l) ∧ HoldB l ds
  · refine (rwrite_ok f t ao n cap l bo m cap' A N C ds w h hd hn hm hR.1 hR.2).mono ?_
    rintro e w' ⟨xo, xc, hg, zs, rfl, k1, k2, k3, k4⟩
    exact ⟨_, _, _, _, _, _, _, zs, _, rfl, Or.inl ⟨hR, k1, rfl, rfl, rfl⟩, k2, k3, Nat.le_refl _, k4⟩
  · refine (rwrite_bad f t ao n cap l bo m cap' A N C ds w h hd (by omega) hm hR).mono ?_
    rintro e w' ⟨rfl, k⟩
    exact ⟨_, _, _, _, _, _, _, [], [], rfl, Or.inr ⟨hR, rfl, rfl, rfl, rfl⟩, sl_nil _ _, sl_nil _ _, by omega, k⟩
end Go.Proofs.YtclkooaepfedaaaDoor
