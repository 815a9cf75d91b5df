/- table.Free by its contract. -/
import Derived.Test.YtijfiaggneeibaaTabD
namespace Go.Proofs.Ytijfiaggneeibaa
set_option maxRecDepth 100000
open Go.RowKit
set_option linter.unusedVariables false
set_option linter.unusedSimpArgs false
set_option maxRecDepth 100000

theorem MayS.rgs {s : Slt} (h : MayS s) : RgS s := by
  obtain ⟨h1, h2⟩ := h
  refine ⟨⟨?_, ?_⟩, ⟨?_, ?_⟩, ⟨?_, ?_⟩⟩ <;> omega
theorem free_tb (ao : Option Addr) (n cap : Nat) (l : List Slt) (k : Int) (w : World) (h : Tb w ao n cap l) (hcap : cap ≤ 9223372036854775807) :
    Calls Try.prog 23 #[.slice ao n cap, .int .i64 k] w fun e w' => ∃ bo m c, e = .returned (.tuple #[.slice bo m c, .int .i64 (frE l k)]) ∧ OwT w.heap.size w' bo m c (frL l k) ∧ Below w.heap.size w w' := by
  have hl := h.len
  have hroom := h.room
  have hn : n ≤ 9223372036854775807 := by omega
  have cR := right_tb ao n cap l w h hn
  by_cases hr : RightT l
  · rw [rightB_t hr] at cR
    have cH := holds_tb ao n cap k
    by_cases hk : 0 ≤ k ∧ k < n
    · rw [decide_eq_true hk] at cH
      obtain ⟨i, rfl⟩ := Int.eq_ofNat_of_zero_le hk.1
      have hi : i < n := by omega
      obtain ⟨b, off, rfl, hbl, _⟩ := h.here (by omega)
      have hlen := hr.len
      have hm := hr.may (show i < l.length by omega)
      have HF : Hid ((sg l i).live = true → FrOk l (i : Int)) := fun e => ⟨hr, by omega, by omega, by simpa using e⟩
      have HG : Hid ((sg l i).live = false → ¬ FrOk l (i : Int)) := fun e h2 => by
        have := h2.2.2.2
        simp only [Int.toNat_natCast] at this
        rw [e] at this
        cases this
      have hki : (i : Int) < (n : Int) := by omega
      have cW : ∀ wr, Below w.heap.size w wr → Calls Try.prog 40 #[.slice (some ⟨b, off, none⟩) n cap, .int .i64 i, .agg #[.int .i64 (min ((sg l i).gen + 1) 65535), .bool false, .bool false, .int .i64 0, .int .i64 0]] wr fun e w' => ∃ bo c, e = .returned (.slice bo n c) ∧ OwT wr.heap.size w' bo n c (l.set i (frS (sg l i))) ∧ Below wr.heap.size wr w' := fun wr hb => with_tb b off n cap i l (frS (sg l i)) wr (h.below hb) hi (by omega) (frS_may hm).rgs hcap
      have hg : 0 ≤ (sg l i).gen ∧ (sg l i).gen ≤ 65535 := hm.1
      have HL : Hid (FrOk l (i : Int) → frE l (i : Int) = 0 ∧ frL l (i : Int) = l.set i (frS (sg l i))) := fun e => by have := fr_t e; simpa using this
      cases hlv : (sg l i).live with
      | true =>
        obtain ⟨e1, e2⟩ := HL.out (HF.out hlv)
        rw [e1, e2]
        obtain ⟨g, hgg⟩ : ∃ g, (sg l i).gen = g := ⟨_, rfl⟩
        rw [hgg] at cW hg
        have Hat : Hid (∀ wr, Below w.heap.size w wr → S5 wr b (off + i * 5) (sg l i)) := fun wr hb => h.at hb hi
        clear HF HG HL h hr e1 e2 hlen hk
        go_enter Try.func23, Try.ntmps23
        go_wp2_with (first
          | (go_at_call 17; with_reducible refine cR.mono ?_; rintro e w1 ⟨rfl, hb1⟩; obtain ⟨c0, c1, _, _, _⟩ := Hat.out w1 hb1; rw [hlv] at c1; rw [hgg] at c0)
          | (go_at_call 35; with_reducible refine (cH _ hn).mono ?_; rintro e w' ⟨rfl, rfl⟩)
          | (go_at_call 40; with_reducible refine (cW _ hb1).mono ?_; rintro e w2 ⟨bo, c, rfl, ho2, hb2⟩))
        all_goals (go_ret2; exact ⟨bo, n, c, rfl, ho2.mono hb1.size, next hb1 hb2⟩)
      | false =>
        obtain ⟨e1, e2⟩ := fr_f (HG.out hlv)
        rw [e1, e2]
        have Hat : Hid (∀ wr, Below w.heap.size w wr → S5 wr b (off + i * 5) (sg l i)) := fun wr hb => h.at hb hi
        clear HF HG HL h hr e1 e2 hlen hk cW
        go_enter Try.func23, Try.ntmps23
        go_wp2_with (first
          | (go_at_call 17; with_reducible refine cR.mono ?_; rintro e w1 ⟨rfl, hb1⟩; obtain ⟨c0, c1, _, _, _⟩ := Hat.out w1 hb1; rw [hlv] at c1)
          | (go_at_call 35; with_reducible refine (cH _ hn).mono ?_; rintro e w' ⟨rfl, rfl⟩))
        go_ret2
        exact ⟨none, 0, 0, rfl, owT_nil _ _, hb1⟩
    · rw [decide_eq_false hk] at cH
      obtain ⟨e1, e2⟩ := fr_f (l := l) (k := k) (fun h2 => hk ⟨h2.2.1, by have := h2.2.2.1; omega⟩)
      rw [e1, e2]
      clear h hr e1 e2 hk
      go_enter Try.func23, Try.ntmps23
      go_wp2_with (first
        | (go_at_call 17; with_reducible refine cR.mono ?_; rintro e w1 ⟨rfl, hb1⟩)
        | (go_at_call 35; with_reducible refine (cH _ hn).mono ?_; rintro e w' ⟨rfl, rfl⟩))
      go_ret2
      exact ⟨none, 0, 0, rfl, owT_nil _ _, hb1⟩
  · rw [rightB_f hr] at cR
    obtain ⟨e1, e2⟩ := fr_f (l := l) (k := k) (fun h2 => hr h2.1)
    rw [e1, e2]
    clear h hr e1 e2
    go_enter Try.func23, Try.ntmps23
    go_wp2_with (first
      | (go_at_call 17; with_reducible refine cR.mono ?_; rintro e w1 ⟨rfl, hb1⟩))
    go_ret2
    exact ⟨none, 0, 0, rfl, owT_nil _ _, hb1⟩
end Go.Proofs.Ytijfiaggneeibaa
