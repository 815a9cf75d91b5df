/- joistref06.Read by its contract. -/
import Derived.Test.YtmefepjjlhphnaaDoorRefNames
import Derived.Test.YtmefepjjlhphnaaDoorNRead
namespace Go.Proofs.YtmefepjjlhphnaaDoor
set_option maxRecDepth 100000
open Go.RowKit
set_option linter.unusedVariables false
set_option linter.unusedSimpArgs false

/-- All from k on are 0. -/
def ZerosFrom (zs : List Int) (k : Nat) : Prop := ∀ j, k ≤ j → j < 16 → zs.getD j 0 = 0
theorem ZerosFrom.strip {zs : List Int} {k : Nat} (h : ZerosFrom zs k) (hl : zs.length = 16) (hk : k ≤ 16) (hb : Bytes zs) (hne : 0 < k → zs.getD (k - 1) 0 ≠ 0) : strip (un zs) = (un zs).take k := by
  refine strip_take (un zs) k (by rw [un_length]; omega) (fun j h1 h2 => ?_) (fun h0 => ?_)
  · rw [un_length] at h2
    rw [un_getD, h j h1 (by omega)]
    rfl
  · rw [un_getD]
    have h1 := hne h0
    have h2 : 0 ≤ zs.getD (k - 1) 0 ∧ zs.getD (k - 1) 0 ≤ 255 := by
      rw [List.getD_eq_getElem?_getD]; exact hb.at _
    obtain ⟨z, hz⟩ : ∃ z, zs.getD (k - 1) 0 = z := ⟨_, rfl⟩
    rw [hz] at h1 h2 ⊢
    intro e
    have h3 := congrArg UInt8.toNat e
    simp at h3
    omega

set_option maxRecDepth 100000
theorem refRead_any (ao : Option Addr) (n cap : Nat) (zs : List Int) (w : World) (h : Sl .u8 w ao n cap zs) (hb : Bytes zs) (hc : cap ≤ 9223372036854775807) :
    Calls Tryd.prog 26 #[.slice ao n cap] w fun e w' => e = .returned (.tuple #[.string ⟨(readT zs).toArray⟩, .bool (readB zs)]) ∧ w = w' := by
  have hlen := h.len
  by_cases hn : n = 16
  · subst hn
    obtain ⟨b, off, rfl, hbl, hcell⟩ := h.here (by omega)
    have hroom := h.room
    have HC : Hid (∀ i, i < 16 → w.cell? ⟨b, off + i, none⟩ = some (.int .u8 (zs.getD i 0))) := hcell
    obtain ⟨t, ht⟩ : ∃ t, strip (un zs) = t := ⟨_, rfl⟩
    have hrB : readB zs = okS t := by rw [readB_eq hlen, ht]
    have hT : readB zs = true → readT zs = t := fun k => by rw [readT_t k, ht]
    have hF : readB zs = false → readT zs = [] := readT_f
    have htl : t.length ≤ 16 := by rw [← ht]; have := (strip_le (un zs)).1; rw [un_length] at this; omega
    have hsz : (⟨t.toArray⟩ : ByteArray).size ≤ 9223372036854775807 := by rw [mk_size]; omega
    have c10 := fun w => refRight_any ⟨t.toArray⟩ w hsz
    rw [mk_list] at c10
    have HX : Hid (∀ k, k ≤ 16 → ZerosFrom zs k → (0 < k → zs.getD (k - 1) 0 ≠ 0) → (convert 23 9 (.slice (some ⟨b, off, none⟩) k cap)).run Tryd.prog w = .ok (.string ⟨t.toArray⟩) w) := fun k hk hz hne => by
      have e := hz.strip hlen hk hb hne
      rw [(h.short k hk).text (P := Tryd.prog) Tryd.underlying23 Tryd.underlying5 Tryd.underlying9, str_un, un_take, ← e, ht]
    clear hcell h hb hlen ht
    by_cases hl : t = []
    · subst hl
      have hB : readB zs = true := hrB
      have hN : nameB [] = false := rfl
      rw [hN] at c10
      rw [hB, hT hB]
      clear hT hF hrB hB htl hsz hN
      go_enter Tryd.func26, Tryd.ntmps26
      go_wp2
      go_loop [4] (fun t => ∃ k : Nat, k ≤ 16 ∧ t = .int .i64 k ∧ Hid (ZerosFrom zs k)) (fun t => (intOf t).toNat)
      case atStart => exact ⟨16, Nat.le_refl _, rfl, fun j h1 h2 => absurd h1 (by omega)⟩
      case round =>
        obtain ⟨k, hk, rfl, hzf⟩ := hrel
        by_cases h0 : 0 < k
        · have h0' : 0 < (k : Int) := by omega
          obtain ⟨z, hz⟩ : ∃ z, zs.getD (k - 1) 0 = z := ⟨_, rfl⟩
          have hce := HC.out (k - 1) (by omega)
          rw [hz] at hce
          by_cases hz0 : z = 0
          · have hzf' : Hid (ZerosFrom zs (k - 1)) := fun j h1 h2 => by
              by_cases e : j = k - 1
              · rw [e, hz]; exact hz0
              · exact hzf j (by omega) h2
            subst hz0
            clear hz
            go_wp2
            refine ⟨⟨k - 1, by omega, by rw [show ((k - 1 : Nat) : Int) = (k : Int) - 1 by omega], hzf'⟩, ?_⟩
            simp only [intOf]
            omega
          · have hz0' : (z == 0) = false := beq_eq_false_iff_ne.2 hz0
            have htx := HX.out k hk hzf (fun _ => by rw [hz]; exact hz0)
            clear hz
            go_wp2_with (first | (go_at_call 41; with_reducible refine (c10 _).mono ?_; rintro e w1 ⟨rfl, rfl⟩))
            go_ret2
            exact ⟨rfl, rfl⟩
        · obtain rfl : k = 0 := by omega
          have htx := HX.out 0 hk hzf (fun e => absurd e (by omega))
          go_wp2_with (first | (go_at_call 41; with_reducible refine (c10 _).mono ?_; rintro e w1 ⟨rfl, rfl⟩))
          go_ret2
          exact ⟨rfl, rfl⟩
    · have hq : ¬ (⟨t.toArray⟩ : ByteArray).toList = [] := eqb_ne (by rw [mk_list]; exact hl)
      have he := emp_f hq
      rw [okS_ne hl] at hrB
      obtain ⟨x, hx⟩ : ∃ x, (⟨t.toArray⟩ : ByteArray) = x := ⟨_, rfl⟩
      rw [hx] at hq he c10 HX
      cases hB : nameB t with
      | true =>
        rw [hB] at hrB c10
        rw [hrB, hT hrB, hx]
        clear hT hF hrB hB hx hsz htl hl
        go_enter Tryd.func26, Tryd.ntmps26
        go_wp2
        go_loop [4] (fun t => ∃ k : Nat, k ≤ 16 ∧ t = .int .i64 k ∧ Hid (ZerosFrom zs k)) (fun t => (intOf t).toNat)
        case atStart => exact ⟨16, Nat.le_refl _, rfl, fun j h1 h2 => absurd h1 (by omega)⟩
        case round =>
          obtain ⟨k, hk, rfl, hzf⟩ := hrel
          by_cases h0 : 0 < k
          · have h0' : 0 < (k : Int) := by omega
            obtain ⟨z, hz⟩ : ∃ z, zs.getD (k - 1) 0 = z := ⟨_, rfl⟩
            have hce := HC.out (k - 1) (by omega)
            rw [hz] at hce
            by_cases hz0 : z = 0
            · have hzf' : Hid (ZerosFrom zs (k - 1)) := fun j h1 h2 => by
                by_cases e : j = k - 1
                · rw [e, hz]; exact hz0
                · exact hzf j (by omega) h2
              subst hz0
              clear hz
              go_wp2
              refine ⟨⟨k - 1, by omega, by rw [show ((k - 1 : Nat) : Int) = (k : Int) - 1 by omega], hzf'⟩, ?_⟩
              simp only [intOf]
              omega
            · have hz0' : (z == 0) = false := beq_eq_false_iff_ne.2 hz0
              have htx := HX.out k hk hzf (fun _ => by rw [hz]; exact hz0)
              clear hz
              go_wp2_with (first | (go_at_call 41; with_reducible refine (c10 _).mono ?_; rintro e w1 ⟨rfl, rfl⟩))
              go_ret2
              exact ⟨rfl, rfl⟩
          · obtain rfl : k = 0 := by omega
            have htx := HX.out 0 hk hzf (fun e => absurd e (by omega))
            go_wp2_with (first | (go_at_call 41; with_reducible refine (c10 _).mono ?_; rintro e w1 ⟨rfl, rfl⟩))
            go_ret2
            exact ⟨rfl, rfl⟩
      | false =>
        rw [hB] at hrB c10
        rw [hrB, hF hrB]
        clear hT hF hrB hB hx hsz htl hl
        go_enter Tryd.func26, Tryd.ntmps26
        go_wp2
        go_loop [4] (fun t => ∃ k : Nat, k ≤ 16 ∧ t = .int .i64 k ∧ Hid (ZerosFrom zs k)) (fun t => (intOf t).toNat)
        case atStart => exact ⟨16, Nat.le_refl _, rfl, fun j h1 h2 => absurd h1 (by omega)⟩
        case round =>
          obtain ⟨k, hk, rfl, hzf⟩ := hrel
          by_cases h0 : 0 < k
          · have h0' : 0 < (k : Int) := by omega
            obtain ⟨z, hz⟩ : ∃ z, zs.getD (k - 1) 0 = z := ⟨_, rfl⟩
            have hce := HC.out (k - 1) (by omega)
            rw [hz] at hce
            by_cases hz0 : z = 0
            · have hzf' : Hid (ZerosFrom zs (k - 1)) := fun j h1 h2 => by
                by_cases e : j = k - 1
                · rw [e, hz]; exact hz0
                · exact hzf j (by omega) h2
              subst hz0
              clear hz
              go_wp2
              refine ⟨⟨k - 1, by omega, by rw [show ((k - 1 : Nat) : Int) = (k : Int) - 1 by omega], hzf'⟩, ?_⟩
              simp only [intOf]
              omega
            · have hz0' : (z == 0) = false := beq_eq_false_iff_ne.2 hz0
              have htx := HX.out k hk hzf (fun _ => by rw [hz]; exact hz0)
              clear hz
              go_wp2_with (first | (go_at_call 41; with_reducible refine (c10 _).mono ?_; rintro e w1 ⟨rfl, rfl⟩))
              go_ret2
              exact ⟨rfl, rfl⟩
          · obtain rfl : k = 0 := by omega
            have htx := HX.out 0 hk hzf (fun e => absurd e (by omega))
            go_wp2_with (first | (go_at_call 41; with_reducible refine (c10 _).mono ?_; rintro e w1 ⟨rfl, rfl⟩))
            go_ret2
            exact ⟨rfl, rfl⟩
  · obtain ⟨e1, e2⟩ := readB_len (zs := zs) (by omega)
    rw [e1, e2]
    have hni : ((n : Int) != 16) = true := by simp; omega
    go_enter Tryd.func26, Tryd.ntmps26
    go_wp2
    go_ret2
    exact ⟨rfl, rfl⟩
end Go.Proofs.YtmefepjjlhphnaaDoor
