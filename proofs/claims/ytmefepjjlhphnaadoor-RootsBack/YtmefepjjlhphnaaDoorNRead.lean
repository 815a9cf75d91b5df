/- names.Read by its contract. -/
import Derived.Test.YtmefepjjlhphnaaDoorNBytes
import Derived.Test.YtmefepjjlhphnaaDoorLibs
namespace Go.Proofs.YtmefepjjlhphnaaDoor
set_option maxRecDepth 100000
open Go.RowKit
set_option linter.unusedVariables false
set_option linter.unusedSimpArgs false

theorem Sl.short {k : IntKind} {w : World} {ao : Option Addr} {n cap : Nat} {zs : List Int} (h : Sl k w ao n cap zs) (m : Nat) (hm : m ≤ n) : Sl k w ao m cap (zs.take m) := by
  have hl := h.len
  have hr := h.room
  refine ⟨by rw [List.length_take]; omega, by omega, h.void, fun hp => ?_⟩
  obtain ⟨b, off, e, hlt, hc⟩ := h.here (by omega)
  refine ⟨b, off, e, hlt, fun i hi => ?_⟩
  rw [hc i (by omega)]
  simp [List.getD, List.getElem?_take, hi]
theorem Sl.bytesAt {w : World} {ao : Option Addr} {n cap : Nat} {zs : List Int} (h : Sl .u8 w ao n cap zs) (hb : Bytes zs) : Lib.BytesAt w ao n (un zs) := by
  intro hp
  obtain ⟨b, off, e, hlt, hc⟩ := h.here hp
  refine ⟨b, off, e, fun i hi => ?_⟩
  rw [hc i hi, un_getD]
  have h2 : 0 ≤ zs.getD i 0 ∧ zs.getD i 0 ≤ 255 := by
    rw [List.getD_eq_getElem?_getD]; exact hb.at i
  obtain ⟨z, hz⟩ : ∃ z, zs.getD i 0 = z := ⟨_, rfl⟩
  rw [hz] at h2 ⊢
  have h3 : ((UInt8.ofNat z.toNat).toNat : Int) = z := by
    simp
    omega
  rw [h3]
theorem mk_list (l : List UInt8) : (⟨l.toArray⟩ : ByteArray).data.toList = l := by simp
theorem mk_size (l : List UInt8) : (⟨l.toArray⟩ : ByteArray).size = l.length := by simp [ByteArray.size]

set_option maxRecDepth 100000
theorem nread_any (ao : Option Addr) (n cap : Nat) (zs : List Int) (w : World) (h : Sl .u8 w ao n cap zs) (hb : Bytes zs) (hc : cap ≤ 9223372036854775807) :
    Calls Tryd.prog 38 #[.slice ao n cap] w fun e w' => e = .returned (.tuple #[.string ⟨(readT zs).toArray⟩, .bool (readB zs)]) ∧ Below w.heap.size w w' := by
  have hlen := h.len
  by_cases hn : n = 16
  · have hz : zs.length = 16 := by omega
    have hst := strip_le (un zs)
    rw [un_length] at hst
    have htr := fun w1 (h1 : Lib.BytesAt w1 ao n (un zs)) => trim_right ao n cap (un zs) 0 w1 (by rw [un_length]; exact hlen) h.room hc h1 (by omega) (by decide)
    have hat := h.bytesAt hb
    obtain ⟨K, hK⟩ : ∃ K, (strip (un zs)).length = K := ⟨_, rfl⟩
    have hK' : (Lib.trimRightS (un zs) [0]).length = K := hK
    rw [hK'] at htr
    rw [hK] at hst
    have htx : (convert 23 9 (.slice ao K cap)).run Tryd.prog w = .ok (.string ⟨(strip (un zs)).toArray⟩) w := by
      have := (h.short K (by omega)).text (P := Tryd.prog) Tryd.underlying23 Tryd.underlying5 Tryd.underlying9
      rw [this, str_un, un_take, ← hst.2]
    obtain ⟨t, ht⟩ : ∃ t, strip (un zs) = t := ⟨_, rfl⟩
    have hrB : readB zs = okS t := by rw [readB_eq hz, ht]
    have hsz : (⟨t.toArray⟩ : ByteArray).size ≤ 9223372036854775807 := by rw [mk_size, ← ht, hK]; omega
    have hT : readB zs = true → readT zs = t := fun k => by rw [readT_t k, ht]
    have hF : readB zs = false → readT zs = [] := readT_f
    rw [ht] at htx
    clear hst hK hK' ht hlen h hb hz
    subst hn
    by_cases hl : t = []
    · subst hl
      have hB : readB zs = true := hrB
      rw [hB, hT hB]
      clear hT hF hrB
      go_enter Tryd.func38, Tryd.ntmps38
      go_wp2_with (first | (go_at_call 53; refine (htr _ hat).mono ?_; rintro e w1 ⟨rfl, rfl⟩))
      go_ret2
      exact ⟨rfl, Below.refl _ _⟩
    · have hq : ¬ (⟨t.toArray⟩ : ByteArray).toList = [] := eqb_ne (by rw [mk_list]; exact hl)
      have he := emp_f hq
      have hr := nright_any ⟨t.toArray⟩ w hsz
      rw [mk_list] at hr
      rw [okS_ne hl] at hrB
      obtain ⟨x, hx⟩ : ∃ x, (⟨t.toArray⟩ : ByteArray) = x := ⟨_, rfl⟩
      rw [hx] at hq he hr htx
      cases hB : nameB t with
      | true =>
        rw [hB] at hrB hr
        rw [hrB, hT hrB, hx]
        clear hT hF hrB hB hx hsz
        go_enter Tryd.func38, Tryd.ntmps38
        go_wp2_with (first | (go_at_call 53; refine (htr _ hat).mono ?_; rintro e w1 ⟨rfl, rfl⟩) | (go_at_call 45; refine hr.mono ?_; rintro e w1 ⟨rfl, hb1⟩))
        go_ret2
        exact ⟨rfl, hb1⟩
      | false =>
        rw [hB] at hrB hr
        rw [hrB, hF hrB]
        clear hT hF hrB hB hx hsz
        go_enter Tryd.func38, Tryd.ntmps38
        go_wp2_with (first | (go_at_call 53; refine (htr _ hat).mono ?_; rintro e w1 ⟨rfl, rfl⟩) | (go_at_call 45; refine hr.mono ?_; rintro e w1 ⟨rfl, hb1⟩))
        go_ret2
        exact ⟨rfl, hb1⟩
  · obtain ⟨e1, e2⟩ := readB_len (zs := zs) (by omega)
    rw [e1, e2]
    have hni : ((n : Int) != 16) = true := by simp; omega
    go_enter Tryd.func38, Tryd.ntmps38
    go_wp2
    go_ret2
    exact ⟨rfl, Below.refl _ _⟩
end Go.Proofs.YtmefepjjlhphnaaDoor
