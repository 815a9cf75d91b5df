/- joistref08.Free and Take by their contracts. -/
import Derived.Test.YtijfiaggneeibaaRefTabB
import Derived.Test.YtijfiaggneeibaaTabF
namespace Go.Proofs.Ytijfiaggneeibaa
set_option maxRecDepth 100000
open Go.RowKit
set_option linter.unusedVariables false
set_option linter.unusedSimpArgs false
set_option maxRecDepth 100000

/-- '[]api.Slot{}' in new memory. -/
theorem own_empty (B : Nat) (w : World) (hB : B ≤ w.heap.size) : (w.alloc (.cells #[] 39)).ownsRow B 39 5 (.slice (some ⟨w.heap.size, 0, none⟩) 0 0) 0 (cellsT []) :=
  World.ownsRow_made w #[] 0 hB (by unfold maxLen; omega) rfl
theorem nextA'' {w a : World} (h : Below w.heap.size w a) (o : Obj) : Below w.heap.size w (a.alloc o) := h.alloc h.size o
set_option maxHeartbeats 1000000 in
theorem rfree_tb (ao : Option Addr) (n cap : Nat) (l : List Slt) (k : Int) (w : World) (h : Tb w ao n cap l) (hcap : cap ≤ 9223372036854775807) :
    Calls Try.prog 25 #[.slice ao n cap, .int .i64 k] w fun e w' => ∃ bo m c, e = .returned (.tuple #[.slice bo m c, .int .i64 (frE l k)]) ∧ OwT w.heap.size w' bo m c (frL l k) ∧ Below w.heap.size w w' := by
  have hl := h.len
  have hroom := h.room
  have hn : n ≤ 9223372036854775807 := by omega
  have cR := rright_tb ao n cap l w h hn
  by_cases hr : RightT l
  · rw [rightB_t hr] at cR
    by_cases hk0 : 0 ≤ k
    · obtain ⟨i, rfl⟩ := Int.eq_ofNat_of_zero_le hk0
      have u0 : ¬ ((i : Int) < 0) := by omega
      by_cases hi : i < n
      · have u1 : ¬ ((n : Int) ≤ (i : Int)) := by omega
        have u2 : ¬ (n ≤ i) := by omega
        obtain ⟨b, off, rfl, hbl, _⟩ := h.here (by omega)
        have hlen := hr.len
        have hm := hr.may (show i < l.length by omega)
        have HF : Hid ((sg l i).live = true → FrOk l (i : Int)) := fun e => ⟨hr, by omega, by omega, by simpa using e⟩
        have HG : Hid ((sg l i).live = false → ¬ FrOk l (i : Int)) := fun e h2 => by
          have := h2.2.2.2
          simp only [Int.toNat_natCast] at this
          rw [e] at this
          cases this
        have hki : (i : Int) < (n : Int) := by omega
        have hg : 0 ≤ (sg l i).gen ∧ (sg l i).gen ≤ 65535 := hm.1
        have HL : Hid (FrOk l (i : Int) → frE l (i : Int) = 0 ∧ frL l (i : Int) = l.set i (frS (sg l i))) := fun e => by have := fr_t e; simpa using this
        have Hat : Hid (∀ wr, Below w.heap.size w wr → S5 wr b (off + i * 5) (sg l i)) := fun wr hb => h.at hb hi
        cases hlv : (sg l i).live with
        | true =>
          obtain ⟨e1, e2⟩ := HL.out (HF.out hlv)
          rw [e1, e2]
          obtain ⟨g, hgg⟩ : ∃ g, (sg l i).gen = g := ⟨_, rfl⟩
          have hrs : RgS (frS (sg l i)) := (frS_may hm).rgs
          have HS : Hid (frS (sg l i) = ⟨min (g + 1) 65535, false, false, 0, 0⟩) := hid (by rw [← hgg]; rfl)
          rw [hgg] at hg
          have HT := hid h
          have hb32 : (0 + n) * 32 ≤ 140737488355328 := by omega
          generalize frS (sg l i) = s at *
          clear HF HG HL h hr e1 e2 hlen hm
          go_enter Try.func25, Try.ntmps25
          go_wp2_with (first
            | (go_at_call 18; with_reducible refine cR.mono ?_; rintro e w1 ⟨rfl, hb1⟩; obtain ⟨c0, c1, _, _, _⟩ := Hat.out w1 hb1; rw [hlv] at c1; rw [hgg] at c0)
            | (at_builtin; refine append_tb rfl (.tmp 30) (.tmp 31) rfl w.heap.size _ 0 [] rfl (own_empty w.heap.size w1 hb1.size) (by intro x hx; cases hx) (some ⟨b, off, none⟩) n cap l rfl (HT.out.below (nextA'' hb1 _)) hb32 (Nat.le_trans hb1.size (by simp)) ?_))
          intro bo c' w2 ho2 hg2
          have b2 : Below w.heap.size w w2 := (nextA'' hb1 (.cells #[] 39)).grown hg2 (Nat.le_trans hb1.size (by simp)) (by intro j hj; cases hj; exact hb1.size)
          obtain ⟨g2, rfl, _, _⟩ := ho2.shape (by omega)
          obtain ⟨d0, d1, _, _, _⟩ := Hat.out w2 b2
          rw [hgg] at d0
          have s2 := ho2.tb.at (Below.refl _ _) hi
          rw [Nat.zero_add] at s2
          obtain ⟨q0, q1, q2, q3, q4⟩ := s2
          have f0 := ho2.free (i * 5)
          have f1 := ho2.free (i * 5 + 1)
          have f2 := ho2.free (i * 5 + 2)
          have f3 := ho2.free (i * 5 + 3)
          have f4 := ho2.free (i * 5 + 4)
          have HO := hid (ho2.set hi hrs)
          rw [HS.out] at HO
          have hgw : w.heap.size ≤ g2 := (ho2.row.lt g2 rfl).1
          clear ho2 hg2 hrs
          go_wp2
          all_goals
            go_ret2
            exact ⟨some ⟨g2, 0, none⟩, n, c', rfl, by rw [HS.out]; exact HO.out, ((((b2.setCell hgw _).setCell hgw _).setCell hgw _).setCell hgw _).setCell hgw _⟩
        | false =>
          obtain ⟨e1, e2⟩ := fr_f (HG.out hlv)
          rw [e1, e2]
          clear HF HG HL h hr e1 e2 hlen
          go_enter Try.func25, Try.ntmps25
          go_wp2_with (first
            | (go_at_call 18; with_reducible refine cR.mono ?_; rintro e w1 ⟨rfl, hb1⟩; obtain ⟨c0, c1, _, _, _⟩ := Hat.out w1 hb1; rw [hlv] at c1))
          go_ret2
          exact ⟨none, 0, 0, rfl, owT_nil _ _, hb1⟩
      · have u1 : (n : Int) ≤ (i : Int) := by omega
        have u2 : n ≤ i := by omega
        obtain ⟨e1, e2⟩ := fr_f (l := l) (k := i) (fun h2 => hi (by have := h2.2.2.1; omega))
        rw [e1, e2]
        clear h hr e1 e2
        go_enter Try.func25, Try.ntmps25
        go_wp2_with (first
          | (go_at_call 18; with_reducible refine cR.mono ?_; rintro e w1 ⟨rfl, hb1⟩))
        go_ret2
        exact ⟨none, 0, 0, rfl, owT_nil _ _, hb1⟩
    · have u0 : k < 0 := by omega
      obtain ⟨e1, e2⟩ := fr_f (l := l) (k := k) (fun h2 => hk0 h2.2.1)
      rw [e1, e2]
      clear h hr e1 e2
      go_enter Try.func25, Try.ntmps25
      go_wp2_with (first
        | (go_at_call 18; with_reducible refine cR.mono ?_; rintro e w1 ⟨rfl, hb1⟩))
      go_ret2
      exact ⟨none, 0, 0, rfl, owT_nil _ _, hb1⟩
  · rw [rightB_f hr] at cR
    obtain ⟨e1, e2⟩ := fr_f (l := l) (k := k) (fun h2 => hr h2.1)
    rw [e1, e2]
    clear h hr e1 e2
    go_enter Try.func25, Try.ntmps25
    go_wp2_with (first
      | (go_at_call 18; with_reducible refine cR.mono ?_; rintro e w1 ⟨rfl, hb1⟩))
    go_ret2
    exact ⟨none, 0, 0, rfl, owT_nil _ _, hb1⟩
end Go.Proofs.Ytijfiaggneeibaa
