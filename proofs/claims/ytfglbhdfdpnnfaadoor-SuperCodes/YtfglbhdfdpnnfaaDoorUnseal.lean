/- crc.Open by its contract. -/
import Derived.Test.YtfglbhdfdpnnfaaDoorSeal
import Derived.Test.YtfglbhdfdpnnfaaDoorGet
namespace Go.Proofs.YtfglbhdfdpnnfaaDoor
set_option maxRecDepth 100000
open Go.RowKit

/-- Are these bytes sealed? What was. -/
def opB (zs : List Int) : Bool := decide (8 ≤ zs.length ∧ zs.drop (zs.length - 8) = bys (sumN 0 (zs.take (zs.length - 8)) : Nat) 8)
def opR (zs : List Int) : List Int := if opB zs then zs.take (zs.length - 8) else []
theorem opB_few {zs : List Int} (h : ¬ 8 ≤ zs.length) : opB zs = false := by simp [opB, h]
theorem opR_f {zs : List Int} (h : opB zs = false) : opR zs = [] := by simp [opR, h]
theorem opR_t {zs : List Int} (h : opB zs = true) : opR zs = zs.take (zs.length - 8) := by simp [opR, h]
theorem cut_zero {d : List Int} (h : d.length = 8) : cut d 0 = d := by
  unfold cut
  rw [Nat.mul_zero, List.drop_zero]
  exact List.take_of_length_le (by omega)
/-- As the code tells it. -/
theorem opB_code {zs : List Int} (hb : Bytes zs) (k : Nat) (hk : zs.length = k + 8) : opB zs = (getB (zs.drop k) 0 && (getN (zs.drop k) 0 == ((sumN 0 (zs.take k) : Nat) : Int))) := by
  have hl : (zs.drop k).length = 8 := by simp; omega
  have hh : hasB (zs.drop k).length 0 = true := by rw [hl]; decide
  have hd := hb.drop k
  have hf := sum_fits (hb.take k)
  have e : zs.length - 8 = k := by omega
  unfold opB
  rw [e]
  generalize sumN 0 (zs.take k) = s at *
  generalize zs.drop k = d at *
  have h8 : 8 ≤ zs.length := by omega
  have hc := cut_zero hl
  simp only [h8, true_and, getB, getN, hh, Bool.true_and, if_true, Int.toNat_zero, hc]
  rw [Bool.eq_iff_iff]
  simp only [decide_eq_true_eq, Bool.and_eq_true, beq_iff_eq]
  constructor
  · intro h
    subst h
    have := word_bys hf
    exact ⟨this.2, this.1⟩
  · rintro ⟨h1, h2⟩
    have := (bys_cut hd 0 (by omega) (by rw [hc]; exact h1)).2
    rw [hc, h2] at this
    exact this.symm
/-- What was sealed opens. -/
theorem opB_seal {zs : List Int} (_hb : Bytes zs) : opB (zs ++ bys (sumN 0 zs : Nat) 8) = true ∧ opR (zs ++ bys (sumN 0 zs : Nat) 8) = zs := by
  have hl : (zs ++ bys (sumN 0 zs : Nat) 8).length = zs.length + 8 := by simp [bys_length]
  have ht : (zs ++ bys (sumN 0 zs : Nat) 8).take zs.length = zs := by rw [List.take_append_of_le_length (Nat.le_refl _), List.take_length]
  have hd : (zs ++ bys (sumN 0 zs : Nat) 8).drop zs.length = bys (sumN 0 zs : Nat) 8 := by rw [List.drop_append, List.drop_of_length_le (Nat.le_refl _), Nat.sub_self, List.drop_zero, List.nil_append]
  have h : opB (zs ++ bys (sumN 0 zs : Nat) 8) = true := by
    unfold opB
    rw [hl, Nat.add_sub_cancel, ht, hd]
    simp
  refine ⟨h, ?_⟩
  rw [opR_t h, hl, Nat.add_sub_cancel, ht]

theorem open_any (ao : Option Addr) (n cap : Nat) (zs : List Int) (w : World) (hsl : Sl .u8 w ao n cap zs) (hb : Bytes zs) (hn : n ≤ 140737488355328) :
    Calls Tryd.prog 34 #[.slice ao n cap] w fun e w' => ∃ bo m c, e = .returned (.tuple #[.slice bo m c, .bool (opB zs)]) ∧ Own .u8 5 w.heap.size w' bo m c (opR zs) ∧ Below w.heap.size w w' := by
  have hlen := hsl.len
  have hroom := hsl.room
  by_cases h8 : 8 ≤ n
  · obtain ⟨k, rfl⟩ : ∃ k, n = k + 8 := ⟨n - 8, by omega⟩
    have hop := opB_code hb k hlen
    obtain ⟨b, off, rfl, hlt, hc⟩ := hsl.here (by omega)
    have s1 : Sl .u8 w (some ⟨b, off + k, none⟩) 8 (cap - k) (zs.drop k) := by
      refine ⟨by simp; omega, by omega, (by intro h; cases h), fun _ => ⟨b, off + k, rfl, hlt, fun i hi => ?_⟩⟩
      rw [Nat.add_assoc, hc (k + i) (by omega), getD_drop]
    have s2 : Sl .u8 w (some ⟨b, off, none⟩) k cap (zs.take k) := by
      refine ⟨by simp; omega, by omega, (by intro h; cases h), fun _ => ⟨b, off, rfl, hlt, fun i hi => ?_⟩⟩
      rw [hc i (by omega)]
      simp [List.getD, hi]
    have b1 := hb.drop k
    have b2 := hb.take k
    have hk : k ≤ 140737488355328 := by omega
    have HR : Hid (opB zs = true → opR zs = zs.take k) := fun h => by rw [opR_t h, hlen, Nat.add_sub_cancel]
    have HRf : Hid (opB zs = false → opR zs = []) := fun h => opR_f h
    clear hc
    generalize opB zs = B at *
    generalize opR zs = R at *
    generalize hx : getN (zs.drop k) 0 = x at *
    generalize hy : getB (zs.drop k) 0 = y at *
    generalize hs : sumN 0 (zs.take k) = s at *
    cases y with
    | false =>
      obtain rfl : B = false := by simpa using hop
      clear hop
      go_enter Tryd.func34, Tryd.ntmps34
      go_wp2_with (first
        | (go_at_call 43; refine (get_any _ _ _ (zs.drop k) 0 _ s1 b1 (by omega)).mono ?_; rintro e w' ⟨rfl, rfl⟩; rw [hx, hy]))
      go_ret2
      rw [HRf.out trivial]
      exact ⟨none, 0, 0, rfl, own_nil _ _ _ _, Below.refl _ _⟩
    | true =>
      by_cases hxs : x = (s : Int)
      · obtain rfl : B = true := by rw [hop, hxs]; simp
        clear hop
        go_enter Tryd.func34, Tryd.ntmps34
        go_wp2_with (first
          | (go_at_call 43; refine (get_any _ _ _ (zs.drop k) 0 _ s1 b1 (by omega)).mono ?_; rintro e w' ⟨rfl, rfl⟩; rw [hx, hy])
          | (go_at_call 32; refine (sum_any _ _ _ (zs.take k) _ s2 b2 hk).mono ?_; rintro e w' ⟨rfl, rfl⟩; rw [hs])
          | (go_at_call 44; refine (clone_all _ _ _ (zs.take k) _ s2 hk).mono ?_; rintro e w2 ⟨bo, c, rfl, hown, hbel⟩))
        go_ret2
        rw [HR.out trivial]
        exact ⟨bo, k, c, rfl, hown, hbel⟩
      · obtain rfl : B = false := by rw [hop]; simp [hxs]
        clear hop
        have hne : (x != (s : Int)) = true := by simpa using hxs
        go_enter Tryd.func34, Tryd.ntmps34
        go_wp2_with (first
          | (go_at_call 43; refine (get_any _ _ _ (zs.drop k) 0 _ s1 b1 (by omega)).mono ?_; rintro e w' ⟨rfl, rfl⟩; rw [hx, hy])
          | (go_at_call 32; refine (sum_any _ _ _ (zs.take k) _ s2 b2 hk).mono ?_; rintro e w' ⟨rfl, rfl⟩; rw [hs]))
        go_ret2
        rw [HRf.out trivial]
        exact ⟨none, 0, 0, rfl, own_nil _ _ _ _, Below.refl _ _⟩
  · have hop : opB zs = false := opB_few (by omega)
    have hr := opR_f hop
    go_enter Tryd.func34, Tryd.ntmps34
    go_wp2
    go_ret2
    rw [hop, hr]
    exact ⟨none, 0, 0, rfl, own_nil _ _ _ _, Below.refl _ _⟩
end Go.Proofs.YtfglbhdfdpnnfaaDoor
