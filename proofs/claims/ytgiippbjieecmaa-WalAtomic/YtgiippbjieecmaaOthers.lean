/- joistlaw05.others by its contract: the lines that are not the log's. -/
import Derived.Test.YtgiippbjieecmaaRefWR
import Derived.Test.YtgiippbjieecmaaApp
namespace Go.Proofs.Ytgiippbjieecmaa
set_option maxRecDepth 100000
open Go.RowKit
set_option linter.unusedVariables false

/-- Of the first k lines those that are not the log's. -/
def othersN (g : Lg) (z : List Int) : Nat → List Int
  | 0 => []
  | k + 1 => if mineG g (k : Int) = true then othersN g z k else othersN g z k ++ (z.drop (64 * k)).take 64
theorem othersN_len (g : Lg) (z : List Int) (k : Nat) : (othersN g z k).length ≤ 64 * k := by
  induction k with
  | zero => exact Nat.le_refl _
  | succ k ih =>
    unfold othersN
    split
    · omega
    · simp only [List.length_append, List.length_take]; omega
theorem othersN_bytes {g : Lg} {z : List Int} (h : Bytes z) (k : Nat) : Bytes (othersN g z k) := by
  induction k with
  | zero => intro x hx; cases hx
  | succ k ih =>
    unfold othersN
    split
    · exact ih
    · exact ih.append (bytes_sub h _ _)
theorem othersN_congr {g : Lg} {y z : List Int} {k : Nat} (h : ∀ j, j < k → mineG g (j : Int) = false → lineAt y j = lineAt z j) : othersN g y k = othersN g z k := by
  induction k with
  | zero => rfl
  | succ k ih =>
    have i := ih (fun j hj => h j (by omega))
    unfold othersN
    cases e : mineG g (k : Int) with
    | true => rw [if_pos rfl, if_pos rfl, i]
    | false =>
      rw [if_neg (by simp), if_neg (by simp), i]
      have := h k (by omega) e
      unfold lineAt at this
      rw [this]
set_option maxHeartbeats 1600000 in
theorem others_any (M F R : Int) (ao : Option Addr) (n cap : Nat) (z : List Int) (w : World) (hg : (Lg.mk M F R).Ok) (hsl : Sl .u8 w ao n cap z) (hn : n ≤ 8192) :
    Calls Try.prog 29 #[.agg #[.int .i64 M, .int .i64 F, .int .i64 R], .slice ao n cap] w fun e w' => e = .returned (.string (strOfNums (othersN ⟨M, F, R⟩ z (n / 64)))) ∧ Below w.heap.size w w' := by
  have hb := (Below.refl w.heap.size w).alloc (Nat.le_refl _) (.cells #[.int .i64 M, .int .i64 F, .int .i64 R] 23)
  have hL := logAt_new w M F R
  have hlen := hsl.len
  have hroom := hsl.room
  have eq : (n : Int) / 64 = ((n / 64 : Nat) : Int) := by omega
  obtain ⟨N, hN⟩ : ∃ N, N = n / 64 := ⟨_, rfl⟩
  have hN1 : 64 * N ≤ n := by omega
  rw [← hN] at eq ⊢
  clear hN hlen
  go_enter Try.func29, Try.ntmps29
  go_wp2
  go_loopw [5, 6] (fun q i wr => ∃ (k : Nat) (bo : Option Addr) (L m : Nat), k ≤ N ∧ i = .int .i64 k ∧ q = .slice bo L m ∧ L ≤ 64 * k ∧ Own .u8 5 (w.heap.size + 1) wr bo L m (othersN ⟨M, F, R⟩ z k) ∧ Below (w.heap.size + 1) (w.alloc (.cells #[.int .i64 M, .int .i64 F, .int .i64 R] 23)) wr) (fun _ i _ => N - (RowKit.intOf i).toNat)
  case atStart => exact ⟨0, none, 0, 0, Nat.zero_le _, rfl, rfl, Nat.le_refl _, ⟨rfl, World.ownsRow_nil _ _ _ _⟩, Below.refl _ _⟩
  case round =>
    obtain ⟨k, bo, L, m, hk, rfl, rfl, hLk, hown, hbel⟩ := hrel
    have hLr := hL.upto hbel (by omega)
    obtain ⟨c0, c1, c2⟩ := And.intro hLr.c0 (And.intro hLr.c1 hLr.c2)
    have hsw := hbel.size
    have hsz0 : (w.alloc (.cells #[.int .i64 M, .int .i64 F, .int .i64 R] 23)).heap.size = w.heap.size + 1 := by simp
    have hbr : Below w.heap.size w wr := hb.trans (hbel.mono (by omega))
    by_cases hlt : k < N
    · have hki : (k : Int) < (N : Int) := by omega
      have hrg : Rg (k : Int) := by unfold Rg; omega
      have cM := refmine_any M F R (k : Int) wr hg hrg
      have HB := hid (And.intro hbel hbr)
      have HOW := hid hown
      have HS := hid (hsl.below hbr)
      have kw1 : IntKind.i64.wrap (64 * (k : Int)) = ((64 * k : Nat) : Int) := by rw [wrap64_small (by omega) (by omega)]; omega
      have kw2 : IntKind.i64.wrap (64 * ((k : Int) + 1)) = ((64 * k + 64 : Nat) : Int) := by rw [wrap64_small (by omega) (by omega)]; omega
      have k64 : 64 * k + 64 ≤ n := by omega
      cases hm : mineG ⟨M, F, R⟩ (k : Int) with
      | true =>
        have HON := hid (show othersN ⟨M, F, R⟩ z (k + 1) = othersN ⟨M, F, R⟩ z k by show (if _ then _ else _) = _; rw [if_pos hm])
        rw [hm] at cM
        clear hown hbel hbr hLr hsl
        go_wp2_with (first
          | (go_at_call 16; with_reducible refine cM.mono ?_; rintro e w1 ⟨rfl, hb1⟩))
        go_roundw
        case rel => exact ⟨k + 1, bo, L, m, by omega, by go_num, rfl, by omega, by rw [HON.out]; exact HOW.out.below hb1, HB.out.1.trans (hb1.mono (by omega))⟩
        case measure => simp [RowKit.intOf]; omega
      | false =>
        have HON := hid (show othersN ⟨M, F, R⟩ z (k + 1) = othersN ⟨M, F, R⟩ z k ++ (z.drop (64 * k)).take 64 by show (if _ then _ else _) = _; rw [if_neg (by rw [hm]; simp)])
        rw [hm] at cM
        obtain ⟨b, off, rfl, hbl, _⟩ := (HS.out).here (by omega)
        have HP := hid (show Sl .u8 wr (some ⟨b, off + 64 * k, none⟩) 64 (cap - 64 * k) ((z.drop (64 * k)).take 64) by
          have hp := (HS.out).sliced (64 * k) (64 * k + 64) (by omega) (by omega)
          rw [if_neg (by omega), show 64 * k + 64 - 64 * k = 64 by omega] at hp
          simpa [Addr.add_lit] using hp)
        have hcn : ¬ cap = 64 * k := by omega
        have q3 : 64 * k + 64 - 64 * k = 64 := by omega
        have hLm : L + 64 ≤ 140737488355328 := by omega
        clear hown hbel hbr hLr hsl
        go_wp2_with (first
          | (go_at_call 16; with_reducible refine cM.mono ?_; rintro e w1 ⟨rfl, hb1⟩; have hs1 := hb1.size; have hB1 : w.heap.size + 1 ≤ w1.heap.size := (by omega); have hp1 := (HP.out).below hb1; have ho1 := (HOW.out).below hb1)
          | (at_builtin; refine append_sl rfl (.tmp 18) (.tmp 25) rfl (w.heap.size + 1) _ L _ rfl ho1.row _ 64 _ _ (by first | rfl | (rw [q3]; rfl)) hp1 hLm hB1 ?_; intro bo' c' w' hown' hgrow _))
        go_roundw
        case rel => exact ⟨k + 1, bo', L + 64, c', by omega, by go_num, rfl, by omega, by rw [HON.out]; exact hown', (HB.out.1.trans (hb1.mono (by omega))).grown hgrow (by omega) (fun b hb' => (ho1.row.lt b hb').1)⟩
        case measure => simp [RowKit.intOf]; omega
    · obtain rfl : k = N := by omega
      have ht := hown.sl.text (P := Try.prog) Try.underlying27 Try.underlying5 Try.underlying9
      have HB := hid hbr
      clear hown hbel hbr hLr hsl c0 c1 c2
      have hki : ¬ ((k : Int) < (k : Int)) := by omega
      go_wp2
      go_ret
      exact ⟨rfl, HB.out⟩
end Go.Proofs.Ytgiippbjieecmaa
