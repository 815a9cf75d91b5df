/- pages.Runs by its contract. -/
import Derived.Test.YtlghhhhgfnnjgabDoorRefPagB
namespace Go.Proofs.YtlghhhhgfnnjgabDoor
set_option maxRecDepth 100000
open Go.RowKit
set_option linter.unusedVariables false
set_option linter.unusedSimpArgs false
set_option maxRecDepth 100000

theorem OwP.last {B : Nat} {w : World} {g n cap : Nat} {l : List Spn} {x : Spn} {z : Int} (h : OwP B w (some ⟨g, 0, none⟩) n cap (l ++ [x])) (hz : Rg z) :
    OwP B (w.setCell ⟨g, l.length * 2 + 1, none⟩ (.int .i64 z)) (some ⟨g, 0, none⟩) n cap (l ++ [⟨x.pos, z⟩]) := by
  refine ⟨by have := h.len; simpa using this, ?_, fun s hs => ?_⟩
  · have e : cellsP (l ++ [⟨x.pos, z⟩]) = (cellsP (l ++ [x])).set (l.length * 2 + 1) (.int .i64 z) := by
      rw [cellsP_append, cellsP_append, List.set_append_right _ _ (by rw [cellsP_length]; omega), cellsP_length]
      rw [show l.length * 2 + 1 - l.length * 2 = 1 by omega]
      rfl
    rw [e]
    exact (h.row.stored _ _).1
  · rcases List.mem_append.1 hs with hs | hs
    · exact h.rg s (List.mem_append.2 (Or.inl hs))
    · have hx := h.rg x (List.mem_append.2 (Or.inr (by simp)))
      rw [List.mem_singleton.1 hs]
      exact ⟨hx.1, hz⟩
theorem OwP.lastAt {B : Nat} {w : World} {ao : Option Addr} {n cap : Nat} {l : List Spn} {x : Spn} (h : OwP B w ao n cap (l ++ [x])) : n = l.length + 1 ∧ ∃ g, ao = some ⟨g, 0, none⟩ ∧ B ≤ g ∧ w.cell? ⟨g, l.length * 2 + 1, none⟩ = some (.int .i64 x.sz) ∧ w.frozen? ⟨g, l.length * 2 + 1, none⟩ = false := by
  have hn : n = l.length + 1 := by have := h.len; simpa using this.symm
  obtain ⟨g, rfl, hg, _⟩ := h.shape (by omega)
  refine ⟨hn, g, rfl, hg, ?_, h.free _⟩
  obtain ⟨_, c1⟩ := h.ps.at (Below.refl _ _) (i := l.length) (by omega)
  have e : pa (l ++ [x]) l.length = x := by simp [pa, List.getD]
  rw [e, Nat.zero_add] at c1
  exact c1
/-- What is laid of the rows behind k pages: the last one may go on. -/
def RunI (ks : List Int) (k : Nat) (g : List Spn) : Prop :=
  ((k = 0 ∨ ka ks (k - 1) ≠ -1) ∧ g = rnK ks k) ∨ ∃ (A : List Spn) (a : Nat), a < k ∧ (∀ j, a ≤ j → j < k → ka ks j = -1) ∧ rnK ks k = A ++ [⟨a, rlN ks a⟩] ∧ g = A ++ [⟨a, (k : Int) - a⟩]
theorem runI_zero (ks : List Int) : RunI ks 0 [] := .inl ⟨.inl rfl, rfl⟩
theorem open_end {ks : List Int} {a k : Nat} (hak : a < k) (hf : ∀ j, a ≤ j → j < k → ka ks j = -1) (he : ka ks k ≠ -1) : rlN ks a = k - a :=
  rl_eq (fun j hj => hf _ (by omega) (by omega)) (by rw [show a + (k - a) = k by omega]; exact he)
theorem RunI.not {ks : List Int} {k : Nat} {g : List Spn} (h : RunI ks k g) (he : ka ks k ≠ -1) : RunI ks (k + 1) g := by
  have hs : rnK ks (k + 1) = rnK ks k := rn_skip fun hs => he hs.1
  refine .inl ⟨.inr (by simpa using he), ?_⟩
  rw [hs]
  rcases h with ⟨_, e⟩ | ⟨A, a, hak, hf, e1, e2⟩
  · exact e
  · rw [e1, e2, open_end hak hf he]
    congr 3
    omega
theorem RunI.done {ks : List Int} {k : Nat} {g : List Spn} (h : RunI ks k g) (hk : k = ks.length) : g = rnL ks := by
  subst hk
  rcases h with ⟨_, e⟩ | ⟨A, a, hak, hf, e1, e2⟩
  · exact e
  · have he : ka ks ks.length ≠ -1 := by rw [ka_past (Nat.le_refl _)]; omega
    have := open_end hak hf he
    unfold rnL
    rw [e1, e2, this]
    congr 3
    omega
theorem RunI.new {ks : List Int} {k : Nat} {g : List Spn} (h : RunI ks k g) (he : ka ks k = -1) (hc : k = 0 ∨ ka ks (k - 1) ≠ -1) : RunI ks (k + 1) (g ++ [⟨k, 1⟩]) := by
  have hg : g = rnK ks k := by
    rcases h with ⟨_, e⟩ | ⟨A, a, hak, hf, e1, e2⟩
    · exact e
    · rcases hc with hc | hc
      · omega
      · exact absurd (hf (k - 1) (by omega) (by omega)) hc
  refine .inr ⟨g, k, by omega, fun j h1 h2 => by rw [show j = k by omega]; exact he, by rw [hg]; exact rn_at ⟨he, hc⟩, ?_⟩
  congr 3
  omega
theorem RunI.more {ks : List Int} {k : Nat} {g : List Spn} (h : RunI ks k g) (he : ka ks k = -1) (h0 : k ≠ 0) (hc : ka ks (k - 1) = -1) : ∃ (A : List Spn) (a z : Int), g = A ++ [⟨a, z⟩] ∧ 0 ≤ z ∧ z ≤ k ∧ RunI ks (k + 1) (A ++ [⟨a, z + 1⟩]) := by
  rcases h with ⟨h1, _⟩ | ⟨A, a, hak, hf, e1, e2⟩
  · rcases h1 with h1 | h1
    · exact absurd h1 h0
    · exact absurd hc h1
  · refine ⟨A, a, (k : Int) - a, e2, by omega, by omega, .inr ⟨A, a, by omega, fun j h1 h2 => ?_, ?_, ?_⟩⟩
    · by_cases e : j = k
      · rw [e]; exact he
      · exact hf j h1 (by omega)
    · rw [rn_skip fun hs => ?_]
      · exact e1
      · rcases hs.2 with h | h
        · exact h0 h
        · exact h hc
    · congr 3
      omega
set_option maxHeartbeats 1000000 in
theorem runs_sl (ao : Option Addr) (n cap : Nat) (ks : List Int) (w : World) (h : Sl .i64 w ao n cap ks) (hn : n ≤ 1048576) :
    Calls Tryd.prog 5 #[.slice ao n cap] w fun e w' => ∃ bo m c, e = .returned (.slice bo m c) ∧ OwP w.heap.size w' bo m c (rnL ks) ∧ Below w.heap.size w w' := by
  have hl := h.len
  go_enter Tryd.func5, Tryd.ntmps5
  go_wp2
  go_loopw [3, 8] (fun s3 s8 wr => ∃ (k : Nat) (bo : Option Addr) (m c : Nat) (g : List Spn), k ≤ n ∧ s3 = .slice bo m c ∧ s8 = .int .i64 k ∧ Hid (RunI ks k g) ∧ m ≤ k ∧ Hid (OwP w.heap.size wr bo m c g) ∧ Below w.heap.size w wr) (fun _ s8 _ => n - (intOf s8).toNat)
  case atStart => exact ⟨0, none, 0, 0, [], Nat.zero_le _, rfl, rfl, hid (runI_zero ks), Nat.le_refl _, hid (owP_nil _ _), Below.refl _ _⟩
  case round =>
    obtain ⟨k, bo, m, c, g, hk, rfl, rfl, HR, hm, HO, hb⟩ := hrel
    by_cases hlt : k < n
    · obtain ⟨b, o, rfl, _, _⟩ := h.here (by omega)
      have c0 := h.kat hb hlt
      have hki : (k : Int) < (n : Int) := by omega
      by_cases hf : ka ks k = -1
      · rw [hf] at c0
        by_cases h0 : k = 0
        · have HN := hid (HR.out.new hf (.inl h0))
          have hrg : RgP ⟨k, 0⟩ := ⟨by unfold Rg; show _ ≤ (k : Int) ∧ (k : Int) ≤ _; omega, by unfold Rg; show _ ≤ (0 : Int) ∧ (0 : Int) ≤ _; omega⟩
          have HP := hid (ps_span wr wr.heap.size ⟨k, 0⟩ rfl hrg)
          have hoA := HO.out.below ((Below.refl _ wr).alloc (Nat.le_refl _) (.cells #[.int .i64 (k : Int), .int .i64 0] 29))
          have hbA := hb.alloc hb.size (.cells #[.int .i64 (k : Int), .int .i64 0] 29)
          have hbA' := hbA.size
          have h16 : (m + 1) * 16 ≤ 140737488355328 := by omega
          have HGL : Hid (g.length = m) := hid HO.out.len
          have x1 : IntKind.i64.wrap (((m + 1 : Nat) : Int) - 1) = (m : Int) := by rw [IntWalk.i64_in _ ⟨by omega, by omega⟩]; omega
          have x1' : IntKind.i64.wrap ((m : Int) + 1 - 1) = (m : Int) := by rw [IntWalk.i64_in _ ⟨by omega, by omega⟩]; omega
          have hmi : (m : Int) < (m : Int) + 1 := by omega
          have hkd : ((k : Int) == 0) = true := by simp; omega
          clear hf h0 HR HO h
          go_wp2_with (at_builtin; refine append_ps rfl (.tmp 25) (.tmp 28) rfl w.heap.size _ m _ rfl hoA.row hoA.rg (some ⟨wr.heap.size, 0, none⟩) 1 1 [⟨k, 0⟩] rfl HP.out h16 hbA' ?_; intro bo2 c2 w2 ho2 hg2; have hb2 : Below w.heap.size w w2 := hbA.grown hg2 hbA' (fun j hj => (hoA.row.lt j hj).1); have HO2 := hid ho2; obtain ⟨-, r, rfl, hrB, d1, d2⟩ := ho2.lastAt; rw [HGL.out] at d1 d2; clear ho2 hg2)
          go_roundw
          case rel => exact ⟨k + 1, some ⟨r, 0, none⟩, m + 1, c2, _, by omega, rfl, by go_num, HN, by omega, hid (by have := HO2.out.last (z := 1) (by unfold Rg; omega); rwa [HGL.out] at this), hb2.trans ((Off.setCell (F := fun j => j = r) (Off.refl _ w2) ⟨r, m * 2 + 1, none⟩ (.int .i64 1) rfl).below (fun j hj => by omega) hb2.size)⟩
          case measure => simp [intOf]; omega
        · have hkd : ((k : Int) == 0) = false := by simp; omega
          have x2 : IntKind.i64.wrap ((k : Int) - 1) = ((k - 1 : Nat) : Int) := by rw [IntWalk.i64_in _ ⟨by omega, by omega⟩]; omega
          have x3 : ((k - 1 : Nat) : Int) < (n : Int) := by omega
          have c1 := h.kat hb (show k - 1 < n by omega)
          by_cases hp : ka ks (k - 1) = -1
          · rw [hp] at c1
            obtain ⟨A, a, z, rfl, z0, z1, hN⟩ := HR.out.more hf h0 hp
            have HN := hid hN
            obtain ⟨hlm, r, rfl, hrB, d1, d2⟩ := HO.out.lastAt
            have HLM : Hid (A.length = m - 1) := hid (by omega)
            have hm1 : 1 ≤ m := by omega
            rw [HLM.out] at d1 d2
            simp only at d1 d2
            have x1 : IntKind.i64.wrap ((m : Int) - 1) = ((m - 1 : Nat) : Int) := by rw [IntWalk.i64_in _ ⟨by omega, by omega⟩]; omega
            have x4 : ((m - 1 : Nat) : Int) < (m : Int) := by omega
            have x5 : IntKind.i64.wrap (z + 1) = z + 1 := IntWalk.i64_in _ ⟨by omega, by omega⟩
            have hsz := hb.size
            clear hf h0 HR h hN hp hlm
            go_wp2
            go_roundw
            case rel => exact ⟨k + 1, some ⟨r, 0, none⟩, m, c, _, by omega, rfl, by go_num, HN, by omega, hid (by have := HO.out.last (z := z + 1) (by unfold Rg; omega); rwa [HLM.out] at this), hb.trans ((Off.setCell (F := fun j => j = r) (Off.refl _ wr) ⟨r, (m - 1) * 2 + 1, none⟩ (.int .i64 (z + 1)) rfl).below (fun j hj => by omega) hsz)⟩
            case measure => simp [intOf]; omega
          · have HN := hid (HR.out.new hf (.inr hp))
            have hpd : (ka ks (k - 1) != -1) = true := by simpa using hp
            generalize ka ks (k - 1) = v at c1 hpd hp
            clear hp
            have hrg : RgP ⟨k, 0⟩ := ⟨by unfold Rg; show _ ≤ (k : Int) ∧ (k : Int) ≤ _; omega, by unfold Rg; show _ ≤ (0 : Int) ∧ (0 : Int) ≤ _; omega⟩
            have HP := hid (ps_span wr wr.heap.size ⟨k, 0⟩ rfl hrg)
            have hoA := HO.out.below ((Below.refl _ wr).alloc (Nat.le_refl _) (.cells #[.int .i64 (k : Int), .int .i64 0] 29))
            have hbA := hb.alloc hb.size (.cells #[.int .i64 (k : Int), .int .i64 0] 29)
            have hbA' := hbA.size
            have h16 : (m + 1) * 16 ≤ 140737488355328 := by omega
            have HGL : Hid (g.length = m) := hid HO.out.len
            have x1 : IntKind.i64.wrap (((m + 1 : Nat) : Int) - 1) = (m : Int) := by rw [IntWalk.i64_in _ ⟨by omega, by omega⟩]; omega
            have x1' : IntKind.i64.wrap ((m : Int) + 1 - 1) = (m : Int) := by rw [IntWalk.i64_in _ ⟨by omega, by omega⟩]; omega
            have hmi : (m : Int) < (m : Int) + 1 := by omega
            clear hf h0 HR HO h
            go_wp2_with (at_builtin; refine append_ps rfl (.tmp 25) (.tmp 28) rfl w.heap.size _ m _ rfl hoA.row hoA.rg (some ⟨wr.heap.size, 0, none⟩) 1 1 [⟨k, 0⟩] rfl HP.out h16 hbA' ?_; intro bo2 c2 w2 ho2 hg2; have hb2 : Below w.heap.size w w2 := hbA.grown hg2 hbA' (fun j hj => (hoA.row.lt j hj).1); have HO2 := hid ho2; obtain ⟨-, r, rfl, hrB, d1, d2⟩ := ho2.lastAt; rw [HGL.out] at d1 d2; clear ho2 hg2)
            go_roundw
            case rel => exact ⟨k + 1, some ⟨r, 0, none⟩, m + 1, c2, _, by omega, rfl, by go_num, HN, by omega, hid (by have := HO2.out.last (z := 1) (by unfold Rg; omega); rwa [HGL.out] at this), hb2.trans ((Off.setCell (F := fun j => j = r) (Off.refl _ w2) ⟨r, m * 2 + 1, none⟩ (.int .i64 1) rfl).below (fun j hj => by omega) hb2.size)⟩
            case measure => simp [intOf]; omega
      · have HN := hid (HR.out.not hf)
        have hf3 : (ka ks k != -1) = true := by simpa using hf
        generalize ka ks k = v at c0 hf3 hf
        clear hf h HR
        go_wp2
        go_roundw
        case rel => exact ⟨k + 1, bo, m, c, g, by omega, rfl, by go_num, HN, by omega, HO, hb⟩
        case measure => simp [intOf]; omega
    · obtain rfl : k = n := by omega
      have HE : Hid (g = rnL ks) := hid (HR.out.done (by omega))
      clear h HR
      go_wp2
      go_ret
      exact ⟨bo, m, c, rfl, by rw [← HE.out]; exact HO.out, hb⟩
end Go.Proofs.YtlghhhhgfnnjgabDoor
