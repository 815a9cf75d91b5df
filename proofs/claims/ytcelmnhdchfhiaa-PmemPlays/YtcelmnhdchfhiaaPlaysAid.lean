/- 'PmemPlays': calls told so that its walk can use them. -/
import Derived.Test.YtcelmnhdchfhiaaSit
import Derived.Test.YtcelmnhdchfhiaaSmall
namespace Go.Proofs.Ytcelmnhdchfhiaa
open Go.RowKit
set_option linter.unusedVariables false

theorem lent_some (ao : Option Addr) (n cap : Nat) (zs : List Int) (w : World) (h : Sl .u8 w ao n cap zs) (hn : n ≤ 140737488355328) :
    Calls Try.prog 9 #[.slice ao n cap] w fun e w' => ∃ g, e = .returned (.slice (some ⟨g, 0, none⟩) n (n + 1)) ∧ Lentd w' g zs ∧ w.heap.size ≤ g ∧ Below w.heap.size w w' :=
  (lent_any ao n cap zs w h hn).mono fun e w' ⟨h1, h2, h3⟩ => ⟨_, h1, h2, Nat.le_refl _, h3⟩
theorem sl_none (w : World) : Sl .u8 w none 0 0 [] := ⟨rfl, Nat.le_refl _, fun _ => rfl, fun h => absurd h (by omega)⟩
theorem store_does {w : World} {F : Nat → Prop} {p : Nat} {S : St} (hd : Dev w F p S) (at_ : Int) (ao : Option Addr) (n cap : Nat) (ys : List Int) (ha : Rg at_) (hsl : Sl .u8 w ao n cap ys) (hby : Bytes ys) (hc9 : cap ≤ 9223372036854775807) (hno : 0 < n → ∀ c, ao = some c → ¬ F c.block) :
    Calls Try.prog 16 #[.pointer (some ⟨p, 0, none⟩), .int .i64 at_, .slice ao n cap] w fun e w' => e = .returned (.int .i64 (stepE S at_ n)) ∧ ∃ F', Dev w' F' p (Does (fun T => storeS T at_.toNat ys) S at_ n) ∧ Goes F w F' w' := store_all hd at_ ao n cap ys ha hsl hby hc9 hno
theorem flush_does {w : World} {F : Nat → Prop} {p : Nat} {S : St} (hd : Dev w F p S) (at_ n : Int) (ha : Rg at_) (hn : Rg n) :
    Calls Try.prog 18 #[.pointer (some ⟨p, 0, none⟩), .int .i64 at_, .int .i64 n] w fun e w' => e = .returned (.int .i64 (stepE S at_ n)) ∧ Dev w' F p (Does (fun T => flushS T (lineA at_.toNat n.toNat) (lineB at_.toNat n.toNat)) S at_ n) ∧ Goes F w F w' := flush_all hd at_ n ha hn
theorem fence_does {w : World} {F : Nat → Prop} {p : Nat} {S : St} (hd : Dev w F p S) :
    Calls Try.prog 20 #[.pointer (some ⟨p, 0, none⟩)] w fun e w' => e = .returned (.int .i64 (stepE S 0 0)) ∧ Dev w' F p (Does fenceS S 0 0) ∧ Goes F w F w' := fence_all hd
end Go.Proofs.Ytcelmnhdchfhiaa
