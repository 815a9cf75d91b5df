/- joistref14.Read by its contract. -/
import Derived.Test.YthkloknongkpdaaMtG
import Derived.Test.YthkloknongkpdaaRefTreC
import Derived.Test.YthkloknongkpdaaRefGet
namespace Go.Proofs.Ythkloknongkpdaa
set_option maxRecDepth 100000
open Go.RowKit
set_option linter.unusedVariables false
set_option linter.unusedSimpArgs false
set_option maxRecDepth 100000

theorem trGet {zs : List Int} (hb : Bytes zs) (x : Int) : 0 ≤ getN zs x ∧ getN zs x ≤ 4611686018427387903 := by
  unfold getN
  by_cases h : hasB zs.length x = true
  · rw [if_pos h]
    unfold wN
    by_cases c : le (cut zs x.toNat) ≤ 4611686018427387903
    · rw [if_pos c]
      exact ⟨(le_bound (cut_bytes hb _)).1, c⟩
    · rw [if_neg c]; omega
  · rw [if_neg h]; omega
theorem trText {a b : List Int} (ha : Bytes a) (hb : Bytes b) (h : ¬ a = b) : ((strOfNums a).toList == (strOfNums b).toList) = false := by
  rw [Lib.strOfNums_toList, Lib.strOfNums_toList]
  have key : a.map (fun z : Int => z.toNat.toUInt8) = b.map (fun z : Int => z.toNat.toUInt8) → a = b := by
    intro h
    apply List.ext_getElem?
    intro i
    have h1 := congrArg (·[i]?) h
    simp only [List.getElem?_map] at h1
    rcases e1 : a[i]? with _ | x <;> rcases e2 : b[i]? with _ | y <;> rw [e1, e2] at h1 <;> simp only [Option.map_some, Option.map_none, Option.some.injEq, reduceCtorEq] at h1 ⊢
    have hx := ha x (List.mem_of_getElem? e1)
    have hy := hb y (List.mem_of_getElem? e2)
    have h2 := congrArg UInt8.toNat h1
    simp at h2
    omega
  simp only [beq_eq_false_iff_ne]
  exact fun e => h (key e)
/-- What the first i nodes and k pairs of the next tell. -/
def dcK (g : Nat → Int) (i k : Nat) : List Blk := dcL g i ++ (List.range k).map (fun k => ⟨g (16 * i + (1 + 2 * k)), g (16 * i + (2 + 2 * k)) / 4, g (16 * i + (2 + 2 * k)) % 4⟩)
theorem dcK_zero (g : Nat → Int) (i : Nat) : dcK g i 0 = dcL g i := by simp [dcK]
theorem dcK_next (g : Nat → Int) (i k : Nat) : dcK g i (k + 1) = dcK g i k ++ [⟨g (16 * i + (1 + 2 * k)), g (16 * i + (2 + 2 * k)) / 4, g (16 * i + (2 + 2 * k)) % 4⟩] := by simp [dcK, List.range_succ]
/-- How many pairs of node i are read. -/
def dcC (g : Nat → Int) (i : Nat) : Nat := if g (16 * i) % 2 = 1 then min (g (16 * i) / 2).toNat 7 else 0
theorem dcK_all (g : Nat → Int) (i : Nat) : dcK g i (dcC g i) = dcL g (i + 1) := by
  unfold dcK dcC dcL
  rw [List.range_succ, List.flatMap_append]
  congr 1
  simp only [List.flatMap_cons, List.flatMap_nil, List.append_nil]
  unfold dcN
  simp only [Nat.add_zero]
  by_cases h : g (16 * i) % 2 = 1
  · rw [if_pos h, if_pos h]
  · rw [if_neg h, if_neg h]; rfl
theorem RdX.size {P : Int} {b : List Int} (h : RdX P b) : b.length % 128 = 0 ∧ 1 ≤ b.length / 128 ∧ b.length / 128 ≤ 13 ∧ 0 ≤ P ∧ P ≤ 64 := by
  obtain ⟨h1, h2⟩ := wtE_0.1 h.2.1
  have h3 := (h2.nodes h1).2.1
  have h4 := h2.2
  exact ⟨h.1, by omega, by omega, h1.1.1, h1.1.2⟩
theorem rread_no (P : Int) (ao : Option Addr) (n cap : Nat) (zs : List Int) (w : World) (hl : zs.length = n) (hn : n ≤ 140737488355328) (h : ¬ (n % 128 = 0 ∧ 1 ≤ n / 128 ∧ n / 128 ≤ 13 ∧ 0 ≤ P ∧ P ≤ 64)) :
    Calls Try.prog 25 #[.int .i64 P, .slice ao n cap] w fun e w' => ∃ bo m c, e = .returned (.tuple #[.slice bo m c, .bool (rxR P zs)]) ∧ OwX w.heap.size w' bo m c (rxL P zs) ∧ Below w.heap.size w w' := by
  have hok : ¬ RdX P zs := fun e => h (by have := e.size; rwa [hl] at this)
  rw [(rx_f hok).1, (rx_f hok).2]
  have cM := fun w' => rnodes_any 64 (by omega) w'
  simp only [nt_64] at cM
  have x1 : Int.tdiv (n : Int) 128 = ((n / 128 : Nat) : Int) := by rw [Int.tdiv_eq_ediv_of_nonneg (by omega)]; omega
  have x3 : Int.tmod (n : Int) 128 = ((n % 128 : Nat) : Int) := by rw [Int.tmod_eq_emod_of_nonneg (by omega)]; omega
  have x1' : (n : Int) / 128 = ((n / 128 : Nat) : Int) := by omega
  have x3' : (n : Int) % 128 = ((n % 128 : Nat) : Int) := by omega
  have x2 : IntKind.i64.wrap ((n / 128 : Nat) : Int) = ((n / 128 : Nat) : Int) := IntWalk.i64_in _ ⟨by omega, by omega⟩
  have hd : ((((n % 128 : Nat) : Int) != 0) = true) ∨ ((((n % 128 : Nat) : Int) != 0) = false ∧ ((n / 128 : Nat) : Int) < 1) ∨ ((((n % 128 : Nat) : Int) != 0) = false ∧ ¬ ((n / 128 : Nat) : Int) < 1 ∧ 13 < ((n / 128 : Nat) : Int)) ∨ ((((n % 128 : Nat) : Int) != 0) = false ∧ ¬ ((n / 128 : Nat) : Int) < 1 ∧ ¬ 13 < ((n / 128 : Nat) : Int) ∧ P < 0) ∨ ((((n % 128 : Nat) : Int) != 0) = false ∧ ¬ ((n / 128 : Nat) : Int) < 1 ∧ ¬ 13 < ((n / 128 : Nat) : Int) ∧ ¬ P < 0 ∧ 64 < P) := by
    simp only [bne_iff_ne, ne_eq, bne_eq_false_iff_eq]
    omega
  generalize n / 128 = q at *
  generalize n % 128 = r at *
  clear h hok hl
  rcases hd with d1 | ⟨d1, d2⟩ | ⟨d1, d2, d3⟩ | ⟨d1, d2, d3, d4⟩ | ⟨d1, d2, d3, d4, d5⟩
  · go_enter Try.func25, Try.ntmps25
    go_wp2_with (first
      | (go_at_call 17; with_reducible refine (cM _).mono ?_; rintro e w' ⟨rfl, rfl⟩))
    go_ret2
    exact ⟨none, 0, 0, rfl, owX_nil _ _, Below.refl _ _⟩
  · go_enter Try.func25, Try.ntmps25
    go_wp2_with (first
      | (go_at_call 17; with_reducible refine (cM _).mono ?_; rintro e w' ⟨rfl, rfl⟩))
    go_ret2
    exact ⟨none, 0, 0, rfl, owX_nil _ _, Below.refl _ _⟩
  · go_enter Try.func25, Try.ntmps25
    go_wp2_with (first
      | (go_at_call 17; with_reducible refine (cM _).mono ?_; rintro e w' ⟨rfl, rfl⟩))
    go_ret2
    exact ⟨none, 0, 0, rfl, owX_nil _ _, Below.refl _ _⟩
  · go_enter Try.func25, Try.ntmps25
    go_wp2_with (first
      | (go_at_call 17; with_reducible refine (cM _).mono ?_; rintro e w' ⟨rfl, rfl⟩))
    go_ret2
    exact ⟨none, 0, 0, rfl, owX_nil _ _, Below.refl _ _⟩
  · go_enter Try.func25, Try.ntmps25
    go_wp2_with (first
      | (go_at_call 17; with_reducible refine (cM _).mono ?_; rintro e w' ⟨rfl, rfl⟩))
    go_ret2
    exact ⟨none, 0, 0, rfl, owX_nil _ _, Below.refl _ _⟩
set_option maxHeartbeats 4000000 in
theorem rread_in (P : Int) (ao : Option Addr) (n cap : Nat) (zs : List Int) (w : World) (h : Sl .u8 w ao n cap zs) (hby : Bytes zs) (room : Nat) (hq : n = 128 * room) (hr1 : 1 ≤ room) (hr2 : room ≤ 13) (hP0 : 0 ≤ P) (hP1 : P ≤ 64) :
    Calls Try.prog 25 #[.int .i64 P, .slice ao n cap] w fun e w' => ∃ bo m c, e = .returned (.tuple #[.slice bo m c, .bool (rxR P zs)]) ∧ OwX w.heap.size w' bo m c (rxL P zs) ∧ Below w.heap.size w w' := by
  have hl := h.len
  have cM := fun w' => rnodes_any 64 (by omega) w'
  simp only [nt_64] at cM
  have hn : n ≤ 140737488355328 := by omega
  have x1 : Int.tdiv (n : Int) 128 = (room : Int) := by rw [Int.tdiv_eq_ediv_of_nonneg (by omega)]; omega
  have x1' : (n : Int) / 128 = (room : Int) := by omega
  have x3 : Int.tmod (n : Int) 128 = 0 := by rw [Int.tmod_eq_emod_of_nonneg (by omega)]; omega
  have x3' : (n : Int) % 128 = 0 := by omega
  have d2 : ¬ ((room : Int) < 1) := by omega
  have d3 : ¬ (13 < (room : Int)) := by omega
  have d4 : ¬ (P < 0) := by omega
  have d5 : ¬ (64 < P) := by omega
  have Hh := hid h
  have HDC : Hid (dcB zs = dcL (fun p => getN zs (p : Nat)) room) := hid (by unfold dcB; rw [hl, hq, show 128 * room / 128 = room by omega])
  have HRD : Hid (RdX P zs ↔ wtE P room (dcB zs) = 0 ∧ wtL P room (dcB zs) = zs) := hid (by
    unfold RdX
    rw [hl, hq, show 128 * room / 128 = room by omega]
    exact ⟨fun c => c.2, fun c => ⟨by omega, c⟩⟩)
  have HQ := hid hq
  clear h hq
  go_enter Try.func25, Try.ntmps25
  go_wp2_with (first
    | (go_at_call 17; with_reducible refine (cM _).mono ?_; rintro e w' ⟨rfl, rfl⟩))
  go_loopw [7, 8] (fun s7 s8 wr => ∃ (i : Nat) (bo : Option Addr) (m c : Nat), i ≤ room ∧ s7 = .slice bo m c ∧ s8 = .int .i64 i ∧ m ≤ 7 * i ∧ Hid (OwX w.heap.size wr bo m c (dcL (fun p => getN zs (p : Nat)) i)) ∧ Below w.heap.size w wr) (fun _ s8 _ => room - (intOf s8).toNat)
  case atStart => exact ⟨0, none, 0, 0, Nat.zero_le _, rfl, rfl, Nat.le_refl _, hid (owX_nil _ _), Below.refl _ _⟩
  case round =>
    obtain ⟨i, bo, m, c, hi, rfl, rfl, hm, HO, hb⟩ := hrel
    by_cases hlt : i < room
    · have hii : (i : Int) < (room : Int) := by omega
      have x2 : IntKind.i64.wrap ((i : Int) + 1) = ((i + 1 : Nat) : Int) := by rw [IntWalk.i64_in _ ⟨by omega, by omega⟩]; omega
      have HK0 : Hid (OwX w.heap.size wr bo m c (dcK (fun p => getN zs (p : Nat)) i 0)) := hid (by rw [dcK_zero]; exact HO.out)
      have HKA := hid (dcK_all (fun p => getN zs (p : Nat)) i)
      have hf := trGet hby ((16 * i : Nat) : Int)
      have cH := refget_any ao n cap zs ((16 * i : Nat) : Int) wr (Hh.out.below hb) hby hn
      have y1 : IntKind.i64.wrap (16 * (i : Int)) = ((16 * i : Nat) : Int) := by rw [IntWalk.i64_in _ ⟨by omega, by omega⟩]; omega
      have hC : dcC (fun p => getN zs (p : Nat)) i = if getN zs ((16 * i : Nat) : Int) % 2 = 1 then min (getN zs ((16 * i : Nat) : Int) / 2).toNat 7 else 0 := rfl
      have hi16 : 16 * i ≤ 208 := by omega
      generalize getB zs ((16 * i : Nat) : Int) = Bh at cH
      generalize getN zs ((16 * i : Nat) : Int) = H at *
      obtain ⟨p, hp⟩ : ∃ p, 16 * i = p := ⟨_, rfl⟩
      rw [hp] at y1 cH
      obtain ⟨Q, hQ⟩ : ∃ Q, H / 2 = Q := ⟨_, rfl⟩
      obtain ⟨R, hR⟩ : ∃ R, H % 2 = R := ⟨_, rfl⟩
      have z1 : Int.tdiv H 2 = Q := by rw [Int.tdiv_eq_ediv_of_nonneg (by omega)]; omega
      have z2 : Int.tmod H 2 = R := by rw [Int.tmod_eq_emod_of_nonneg (by omega)]; omega
      have z3 : IntKind.i64.wrap Q = Q := IntWalk.i64_in _ ⟨by omega, by omega⟩
      have hQ0 : 0 ≤ Q := by omega
      rw [hQ, hR] at hC
      generalize dcC (fun p => getN zs (p : Nat)) i = K at *
      have HPI := hid hp
      have z1' := hQ
      have z2' := hR
      clear HO hf hp hQ hR
      by_cases h7 : 7 < Q
      · have h7' := h7
        have hK : (R = 1 ∧ K = 7) ∨ (¬ R = 1 ∧ K = 0) := by
          by_cases c : R = 1
          · left; rw [if_pos c] at hC; exact ⟨c, by omega⟩
          · right; rw [if_neg c] at hC; exact ⟨c, hC⟩
        clear hC
        go_wp2_with (first
          | (go_at_call 40; with_reducible refine cH.mono ?_; rintro e w' ⟨rfl, rfl⟩))
        go_loopw [7, 11] (fun s7 s11 wr => ∃ (k : Nat) (bo : Option Addr) (m c : Nat), k ≤ K ∧ s7 = .slice bo m c ∧ s11 = .int .i64 k ∧ m ≤ 7 * i + k ∧ Hid (OwX w.heap.size wr bo m c (dcK (fun p => getN zs (p : Nat)) i k)) ∧ Below w.heap.size w wr) (fun _ s11 _ => K - (intOf s11).toNat)
        case atStart => exact ⟨0, bo, m, c, Nat.zero_le _, rfl, rfl, hm, HK0, hb⟩
        case round =>
          clear HK0
          obtain ⟨k, bo, m, c, hk, rfl, rfl, hmk, HO, hbk⟩ := hrel
          by_cases hlk : k < K
          · have hR1 : (R == 1) = true := by simp; omega
            have hkl : (k : Int) < 7 := by omega
            have hK7 : K ≤ 7 := by omega
            have HNX : Hid (dcK (fun p => getN zs (p : Nat)) i (k + 1) = dcK (fun p => getN zs (p : Nat)) i k ++ [⟨getN zs ((16 * i + (1 + 2 * k) : Nat) : Int), getN zs ((16 * i + (2 + 2 * k) : Nat) : Int) / 4, getN zs ((16 * i + (2 + 2 * k) : Nat) : Int) % 4⟩]) := hid (dcK_next (fun p => getN zs (p : Nat)) i k)
            have cA := refget_any ao n cap zs ((16 * i + (1 + 2 * k) : Nat) : Int) wr (Hh.out.below hbk) hby hn
            have cV := refget_any ao n cap zs ((16 * i + (2 + 2 * k) : Nat) : Int) wr (Hh.out.below hbk) hby hn
            have hA := trGet hby ((16 * i + (1 + 2 * k) : Nat) : Int)
            have hV := trGet hby ((16 * i + (2 + 2 * k) : Nat) : Int)
            have u1 : IntKind.i64.wrap ((p : Int) + 1) = ((p + 1 : Nat) : Int) := by have := HPI.out; rw [IntWalk.i64_in _ ⟨by omega, by omega⟩]; omega
            have u2 : IntKind.i64.wrap ((p : Int) + 2) = ((p + 2 : Nat) : Int) := by have := HPI.out; rw [IntWalk.i64_in _ ⟨by omega, by omega⟩]; omega
            have u3 : IntKind.i64.wrap (2 * (k : Int)) = ((2 * k : Nat) : Int) := by rw [IntWalk.i64_in _ ⟨by omega, by omega⟩]; omega
            have u4 : IntKind.i64.wrap (((p + 1 : Nat) : Int) + ((2 * k : Nat) : Int)) = ((16 * i + (1 + 2 * k) : Nat) : Int) := by have := HPI.out; rw [IntWalk.i64_in _ ⟨by omega, by omega⟩]; omega
            have u5 : IntKind.i64.wrap (((p + 2 : Nat) : Int) + ((2 * k : Nat) : Int)) = ((16 * i + (2 + 2 * k) : Nat) : Int) := by have := HPI.out; rw [IntWalk.i64_in _ ⟨by omega, by omega⟩]; omega
            have u6 : IntKind.i64.wrap ((k : Int) + 1) = ((k + 1 : Nat) : Int) := by rw [IntWalk.i64_in _ ⟨by omega, by omega⟩]; omega
            generalize getB zs ((16 * i + (1 + 2 * k) : Nat) : Int) = B1 at *
            generalize getB zs ((16 * i + (2 + 2 * k) : Nat) : Int) = B2 at *
            generalize getN zs ((16 * i + (1 + 2 * k) : Nat) : Int) = A at *
            generalize getN zs ((16 * i + (2 + 2 * k) : Nat) : Int) = V at *
            generalize 16 * i + (1 + 2 * k) = p1 at *
            generalize 16 * i + (2 + 2 * k) = p2 at *
            generalize p + 1 = p3 at *
            generalize p + 2 = p4 at *
            generalize 2 * k = p5 at *
            obtain ⟨D, hD⟩ : ∃ D, V / 4 = D := ⟨_, rfl⟩
            obtain ⟨E, hE⟩ : ∃ E, V % 4 = E := ⟨_, rfl⟩
            have v1 : Int.tdiv V 4 = D := by rw [Int.tdiv_eq_ediv_of_nonneg (by omega)]; omega
            have v2 : Int.tmod V 4 = E := by rw [Int.tmod_eq_emod_of_nonneg (by omega)]; omega
            have v3 : IntKind.i64.wrap D = D := IntWalk.i64_in _ ⟨by omega, by omega⟩
            rw [hD, hE] at HNX
            have hrg : RgB ⟨A, D, E⟩ := ⟨by unfold Rg; show _ ≤ A ∧ A ≤ _; omega, by unfold Rg; show _ ≤ D ∧ D ≤ _; omega, by unfold Rg; show _ ≤ E ∧ E ≤ _; omega⟩
            have HP := hid (bs_ext wr wr.heap.size ⟨A, D, E⟩ rfl hrg)
            have hoA := HO.out.below ((Below.refl _ wr).alloc (Nat.le_refl _) (.cells #[.int .i64 A, .int .i64 D, .int .i64 E] 42))
            have hbA := hbk.alloc hbk.size (.cells #[.int .i64 A, .int .i64 D, .int .i64 E] 42)
            have hbA' := hbA.size
            have h24 : (m + 1) * 24 ≤ 140737488355328 := by omega
            clear HO hA hV HPI hrg
            go_wp2_with (first
              | (go_at_call 40; with_reducible refine cA.mono ?_; rintro e w' ⟨rfl, rfl⟩)
              | (go_at_call 40; with_reducible refine cV.mono ?_; rintro e w' ⟨rfl, rfl⟩)
              | (at_builtin; refine append_xs rfl (.tmp 88) (.tmp 95) rfl w.heap.size _ m _ rfl hoA.row hoA.rg (some ⟨wr.heap.size, 0, none⟩) 1 1 [⟨A, D, E⟩] rfl HP.out h24 hbA' ?_; intro bo2 c2 w2 ho2 hg2; have HO2 := hid ho2; have hb2 : Below w.heap.size w w2 := hbA.grown hg2 hbA' (fun j hj => (hoA.row.lt j hj).1); clear ho2 hg2))
            go_roundw
            case rel => exact ⟨k + 1, bo2, m + 1, c2, by omega, rfl, rfl, by omega, by rw [HNX.out]; exact HO2, hb2⟩
            case measure => simp [intOf]; omega
          · obtain rfl : K = k := by omega
            have hO := HO.out
            rw [HKA.out] at hO
            have HO1 := hid hO
            clear HO hO
            by_cases hkl : (K : Int) < 7
            · have hR1 : (R == 1) = false := by simp; omega
              go_wp2
              go_roundw
              case rel => exact ⟨i + 1, bo, m, c, by omega, rfl, rfl, by omega, HO1, hbk⟩
              case measure => simp [intOf]; omega
            · go_wp2
              go_roundw
              case rel => exact ⟨i + 1, bo, m, c, by omega, rfl, rfl, by omega, HO1, hbk⟩
              case measure => simp [intOf]; omega
      · have h7' := h7
        have hK : (R = 1 ∧ K = Q.toNat) ∨ (¬ R = 1 ∧ K = 0) := by
          by_cases c : R = 1
          · left; rw [if_pos c] at hC; exact ⟨c, by omega⟩
          · right; rw [if_neg c] at hC; exact ⟨c, hC⟩
        clear hC
        go_wp2_with (first
          | (go_at_call 40; with_reducible refine cH.mono ?_; rintro e w' ⟨rfl, rfl⟩))
        go_loopw [7, 11] (fun s7 s11 wr => ∃ (k : Nat) (bo : Option Addr) (m c : Nat), k ≤ K ∧ s7 = .slice bo m c ∧ s11 = .int .i64 k ∧ m ≤ 7 * i + k ∧ Hid (OwX w.heap.size wr bo m c (dcK (fun p => getN zs (p : Nat)) i k)) ∧ Below w.heap.size w wr) (fun _ s11 _ => K - (intOf s11).toNat)
        case atStart => exact ⟨0, bo, m, c, Nat.zero_le _, rfl, rfl, hm, HK0, hb⟩
        case round =>
          clear HK0
          obtain ⟨k, bo, m, c, hk, rfl, rfl, hmk, HO, hbk⟩ := hrel
          by_cases hlk : k < K
          · have hR1 : (R == 1) = true := by simp; omega
            have hkl : (k : Int) < Q := by omega
            have hK7 : K ≤ 7 := by omega
            have HNX : Hid (dcK (fun p => getN zs (p : Nat)) i (k + 1) = dcK (fun p => getN zs (p : Nat)) i k ++ [⟨getN zs ((16 * i + (1 + 2 * k) : Nat) : Int), getN zs ((16 * i + (2 + 2 * k) : Nat) : Int) / 4, getN zs ((16 * i + (2 + 2 * k) : Nat) : Int) % 4⟩]) := hid (dcK_next (fun p => getN zs (p : Nat)) i k)
            have cA := refget_any ao n cap zs ((16 * i + (1 + 2 * k) : Nat) : Int) wr (Hh.out.below hbk) hby hn
            have cV := refget_any ao n cap zs ((16 * i + (2 + 2 * k) : Nat) : Int) wr (Hh.out.below hbk) hby hn
            have hA := trGet hby ((16 * i + (1 + 2 * k) : Nat) : Int)
            have hV := trGet hby ((16 * i + (2 + 2 * k) : Nat) : Int)
            have u1 : IntKind.i64.wrap ((p : Int) + 1) = ((p + 1 : Nat) : Int) := by have := HPI.out; rw [IntWalk.i64_in _ ⟨by omega, by omega⟩]; omega
            have u2 : IntKind.i64.wrap ((p : Int) + 2) = ((p + 2 : Nat) : Int) := by have := HPI.out; rw [IntWalk.i64_in _ ⟨by omega, by omega⟩]; omega
            have u3 : IntKind.i64.wrap (2 * (k : Int)) = ((2 * k : Nat) : Int) := by rw [IntWalk.i64_in _ ⟨by omega, by omega⟩]; omega
            have u4 : IntKind.i64.wrap (((p + 1 : Nat) : Int) + ((2 * k : Nat) : Int)) = ((16 * i + (1 + 2 * k) : Nat) : Int) := by have := HPI.out; rw [IntWalk.i64_in _ ⟨by omega, by omega⟩]; omega
            have u5 : IntKind.i64.wrap (((p + 2 : Nat) : Int) + ((2 * k : Nat) : Int)) = ((16 * i + (2 + 2 * k) : Nat) : Int) := by have := HPI.out; rw [IntWalk.i64_in _ ⟨by omega, by omega⟩]; omega
            have u6 : IntKind.i64.wrap ((k : Int) + 1) = ((k + 1 : Nat) : Int) := by rw [IntWalk.i64_in _ ⟨by omega, by omega⟩]; omega
            generalize getB zs ((16 * i + (1 + 2 * k) : Nat) : Int) = B1 at *
            generalize getB zs ((16 * i + (2 + 2 * k) : Nat) : Int) = B2 at *
            generalize getN zs ((16 * i + (1 + 2 * k) : Nat) : Int) = A at *
            generalize getN zs ((16 * i + (2 + 2 * k) : Nat) : Int) = V at *
            generalize 16 * i + (1 + 2 * k) = p1 at *
            generalize 16 * i + (2 + 2 * k) = p2 at *
            generalize p + 1 = p3 at *
            generalize p + 2 = p4 at *
            generalize 2 * k = p5 at *
            obtain ⟨D, hD⟩ : ∃ D, V / 4 = D := ⟨_, rfl⟩
            obtain ⟨E, hE⟩ : ∃ E, V % 4 = E := ⟨_, rfl⟩
            have v1 : Int.tdiv V 4 = D := by rw [Int.tdiv_eq_ediv_of_nonneg (by omega)]; omega
            have v2 : Int.tmod V 4 = E := by rw [Int.tmod_eq_emod_of_nonneg (by omega)]; omega
            have v3 : IntKind.i64.wrap D = D := IntWalk.i64_in _ ⟨by omega, by omega⟩
            rw [hD, hE] at HNX
            have hrg : RgB ⟨A, D, E⟩ := ⟨by unfold Rg; show _ ≤ A ∧ A ≤ _; omega, by unfold Rg; show _ ≤ D ∧ D ≤ _; omega, by unfold Rg; show _ ≤ E ∧ E ≤ _; omega⟩
            have HP := hid (bs_ext wr wr.heap.size ⟨A, D, E⟩ rfl hrg)
            have hoA := HO.out.below ((Below.refl _ wr).alloc (Nat.le_refl _) (.cells #[.int .i64 A, .int .i64 D, .int .i64 E] 42))
            have hbA := hbk.alloc hbk.size (.cells #[.int .i64 A, .int .i64 D, .int .i64 E] 42)
            have hbA' := hbA.size
            have h24 : (m + 1) * 24 ≤ 140737488355328 := by omega
            clear HO hA hV HPI hrg
            go_wp2_with (first
              | (go_at_call 40; with_reducible refine cA.mono ?_; rintro e w' ⟨rfl, rfl⟩)
              | (go_at_call 40; with_reducible refine cV.mono ?_; rintro e w' ⟨rfl, rfl⟩)
              | (at_builtin; refine append_xs rfl (.tmp 88) (.tmp 95) rfl w.heap.size _ m _ rfl hoA.row hoA.rg (some ⟨wr.heap.size, 0, none⟩) 1 1 [⟨A, D, E⟩] rfl HP.out h24 hbA' ?_; intro bo2 c2 w2 ho2 hg2; have HO2 := hid ho2; have hb2 : Below w.heap.size w w2 := hbA.grown hg2 hbA' (fun j hj => (hoA.row.lt j hj).1); clear ho2 hg2))
            go_roundw
            case rel => exact ⟨k + 1, bo2, m + 1, c2, by omega, rfl, rfl, by omega, by rw [HNX.out]; exact HO2, hb2⟩
            case measure => simp [intOf]; omega
          · obtain rfl : K = k := by omega
            have hO := HO.out
            rw [HKA.out] at hO
            have HO1 := hid hO
            clear HO hO
            by_cases hkl : (K : Int) < Q
            · have hR1 : (R == 1) = false := by simp; omega
              go_wp2
              go_roundw
              case rel => exact ⟨i + 1, bo, m, c, by omega, rfl, rfl, by omega, HO1, hbk⟩
              case measure => simp [intOf]; omega
            · go_wp2
              go_roundw
              case rel => exact ⟨i + 1, bo, m, c, by omega, rfl, rfl, by omega, HO1, hbk⟩
              case measure => simp [intOf]; omega
    · have hii : ¬ ((i : Int) < (room : Int)) := by omega
      obtain rfl : i = room := by omega
      rw [← HDC.out] at HO
      have cW := rwrite_bs P i bo m c (dcB zs) wr HO.out.bs (by omega)
      have Ho := HO
      have hbX : Bytes (wtL P i (dcB zs)) := by
        unfold wtL
        split
        · exact ofL_bytes _
        · intro z hz; cases hz
      by_cases he : wtE P i (dcB zs) = 0
      · by_cases hx : wtL P i (dcB zs) = zs
        · have HD := hid (rx_t (HRD.out.2 ⟨he, hx⟩))
          rw [he, hx] at cW
          have hq : ((strOfNums zs).toList == (strOfNums zs).toList) = true := by simp
          clear he hx hbX HRD HDC HO
          generalize dcB zs = L at *
          go_wp2_with (first
          | (go_at_call 19; with_reducible refine cW.mono ?_; rintro e w5 ⟨a5, m5, k5, rfl, o5, hb5⟩; have b5 := next hb hb5; have O5 := hid (Ho.out.below hb5); have tx := o5.sl.text (P := Try.prog) Try.underlying32 Try.underlying5 Try.underlying9; have ty := (Hh.out.below b5).text (P := Try.prog) Try.underlying32 Try.underlying5 Try.underlying9))
          go_ret2
          exact ⟨bo, m, c, by rw [HD.out.2]; rfl, by rw [HD.out.1]; exact O5.out, b5⟩
        · have HD := hid (rx_f (P := P) (b := zs) (fun e => hx (HRD.out.1 e).2))
          rw [he] at cW
          have hq := trText hbX hby hx
          clear he hx hbX HRD HDC HO
          generalize wtL P i (dcB zs) = X at *
          generalize dcB zs = L at *
          go_wp2_with (first
          | (go_at_call 19; with_reducible refine cW.mono ?_; rintro e w5 ⟨a5, m5, k5, rfl, o5, hb5⟩; have b5 := next hb hb5; have O5 := hid (Ho.out.below hb5); have tx := o5.sl.text (P := Try.prog) Try.underlying32 Try.underlying5 Try.underlying9; have ty := (Hh.out.below b5).text (P := Try.prog) Try.underlying32 Try.underlying5 Try.underlying9))
          go_ret2
          exact ⟨none, 0, 0, by rw [HD.out.2]; rfl, by rw [HD.out.1]; exact owX_nil _ _, b5⟩
      · have HD := hid (rx_f (P := P) (b := zs) (fun e => he (HRD.out.1 e).1))
        have hq : ((wtE P i (dcB zs)) != 0) = true := by simpa using he
        clear he hbX HRD HDC HO
        generalize wtL P i (dcB zs) = X at *
        generalize wtE P i (dcB zs) = Y at *
        generalize dcB zs = L at *
        go_wp2_with (first
          | (go_at_call 19; with_reducible refine cW.mono ?_; rintro e w5 ⟨a5, m5, k5, rfl, o5, hb5⟩; have b5 := next hb hb5; have O5 := hid (Ho.out.below hb5); have tx := o5.sl.text (P := Try.prog) Try.underlying32 Try.underlying5 Try.underlying9; have ty := (Hh.out.below b5).text (P := Try.prog) Try.underlying32 Try.underlying5 Try.underlying9))
        go_ret2
        exact ⟨none, 0, 0, by rw [HD.out.2]; rfl, by rw [HD.out.1]; exact owX_nil _ _, b5⟩
/-- joistref14.Read. -/
theorem rreadX_sl (P : Int) (ao : Option Addr) (n cap : Nat) (zs : List Int) (w : World) (h : Sl .u8 w ao n cap zs) (hby : Bytes zs) (hn : n ≤ 140737488355328) :
    Calls Try.prog 25 #[.int .i64 P, .slice ao n cap] w fun e w' => ∃ bo m c, e = .returned (.tuple #[.slice bo m c, .bool (rxR P zs)]) ∧ OwX w.heap.size w' bo m c (rxL P zs) ∧ Below w.heap.size w w' := by
  by_cases c : n % 128 = 0 ∧ 1 ≤ n / 128 ∧ n / 128 ≤ 13 ∧ 0 ≤ P ∧ P ≤ 64
  · exact rread_in P ao n cap zs w h hby (n / 128) (by omega) c.2.1 c.2.2.1 c.2.2.2.1 c.2.2.2.2
  · exact rread_no P ao n cap zs w h.len hn c
end Go.Proofs.Ythkloknongkpdaa
