/- pages' freeCell and placeSmall by their contracts. -/
import Derived.Test.YtlghhhhgfnnjgabDoorHpE
import Derived.Test.YtlghhhhgfnnjgabDoorClsA
import Derived.Deep.MidRow
namespace Go.Proofs.YtlghhhhgfnnjgabDoor
set_option maxRecDepth 100000
open Go.RowKit
set_option linter.unusedVariables false
set_option linter.unusedSimpArgs false
set_option maxRecDepth 100000

/-- A page's cells. -/
def pgF (s : HpS) (i j : Nat) : Value := if j = 0 then .int .i64 (s.kd i) else .bool (s.tk i (j - 1))
def pgC (s : HpS) (i : Nat) : List Value := (List.range 33).map (pgF s i)
theorem pgC_len (s : HpS) (i : Nat) : (pgC s i).length = 33 := by simp [pgC]
theorem pgC_one (s : HpS) (i : Nat) : (pgC s i).toArray.all (·.oneCell') = true := Array.all_eq_true_iff_forall_mem.2 (fun v hv => by
  simp only [pgC, List.mem_toArray, List.mem_map] at hv
  obtain ⟨j, _, rfl⟩ := hv
  unfold pgF
  split <;> rfl)
theorem Hpb.page {w : World} {b N : Nat} {s : HpS} (h : Hpb w b N s) {i : Nat} (hi : i < N) (hN : N ≤ 64) : w.rangeAt b (i * 33) (pgC s i) := fun j v hv => by
  have hj : j < 33 := by have := (List.getElem?_eq_some_iff.1 hv).1; rwa [pgC_len] at this
  have e : v = pgF s i j := by
    have : (pgC s i)[j]? = some (pgF s i j) := by simp [pgC, hj]
    rw [this] at hv
    exact (Option.some.inj hv).symm
  rw [h.cell (by omega), e]
  congr 1
  unfold pgF
  by_cases h0 : j = 0
  · subst h0
    rw [if_pos rfl, Nat.add_zero, hpF_kd hi hN]
  · rw [if_neg h0]
    have := hpF_tk (N := N) (s := s) (i := i) (j := j - 1) (by omega) (by omega)
    rw [show i * 33 + 1 + (j - 1) = i * 33 + j by omega] at this
    exact this
/-- A page in a block of its own. -/
def Pgb (w : World) (b : Nat) (s : HpS) (i : Nat) : Prop := w.heap[b]? = some (.cells (pgC s i).toArray 39 (0, 0))
theorem Pgb.kept {w w' : World} {b i : Nat} {s : HpS} (h : Pgb w b s i) (hb : Below w.heap.size w w') : Pgb w' b s i := (hb.block b (Array.getElem?_eq_some_iff.1 h).1).trans h
theorem Pgb.kind {w : World} {b i : Nat} {s : HpS} (h : Pgb w b s i) : w.cell? ⟨b, 0, none⟩ = some (.int .i64 (s.kd i)) := by
  rw [cell_of_row w b 0 _ 39 (0, 0) h]
  simp [pgC, pgF]
theorem Pgb.word {w : World} {b i j : Nat} {s : HpS} (h : Pgb w b s i) (hj : j < 32) : w.cell? ⟨b, 1 + j, none⟩ = some (.bool (s.tk i j)) := by
  rw [cell_of_row w b (1 + j) _ 39 (0, 0) h]
  simp [pgC, pgF, show 1 + j < 33 by omega]
/-- All cells of a class are taken in a page. -/
def FullC (s : HpS) (c k M : Nat) : Prop := ∀ i : Nat, i < M → s.tk k (ctN c i).toNat = true
/-- What freeCell tells. -/
def FcR (N : Nat) (s : HpS) (kind : Int) (c M : Nat) (x : Int) (b : Bool) : Prop :=
  (b = true ∧ ∃ k i : Nat, k < N ∧ i < M ∧ s.kd k = kind ∧ s.tk k (ctN c i).toNat = false ∧ FullC s c k i ∧ (∀ q, q < k → s.kd q = kind → FullC s c q M) ∧ x = (k : Int) * 32 + ctN c i) ∨
  (b = false ∧ x = 0 ∧ ∀ q, q < N → s.kd q = kind → FullC s c q M)
theorem pg_size : (Tryd.prog.info? 39).map (·.size) = some 33 := by kernel_rfl
set_option maxHeartbeats 2000000 in
theorem freeCell_hp (b N : Nat) (s : HpS) (kind : Int) (c M : Nat) (w : World) (T : Cws w) (h : Hpb w b N s) (hN : N ≤ 64) (hc : c < 6) (hM : ceN c = M) :
    Calls Tryd.prog 16 #[.pointer (some ⟨b, 0, none⟩), .int .i64 kind, .int .i64 (c : Int)] w fun e w' => ∃ x r, e = .returned (.tuple #[.int .i64 x, .bool r]) ∧ FcR N s kind c M x r ∧ Below w.heap.size w w' := by
  have cC := cells_any c w T
  rw [hM] at cC
  have c9 := h.count
  have hlt := h.lt
  have hN' : (N : Int) ≤ 64 := by omega
  have hM14 : M ≤ 14 := by have := (cls_in (c := (c : Int)) ⟨by omega, by omega⟩); omega
  have HC1 : Hid (∀ i : Nat, i < M → 4 ≤ ctN c i ∧ ctN c i < 32) := hid (fun i hi => ctN_in ⟨by omega, by rw [hM]; omega⟩)
  go_enter Tryd.func16, Tryd.ntmps16
  go_wp2_with (go_at_call 20; with_reducible refine cC.mono ?_; rintro e w' ⟨rfl, rfl⟩)
  go_quiet (fail)
  go_wp2
  have HT := hid T
  have HH := hid h
  have HB0 : Hid (∀ q, Below w.heap.size w (w.drewN q)) := hid (fun q => below_drewN (Below.refl _ _) q)
  clear T h cC c9
  go_loopw [29] (fun s29 wr => ∃ k : Nat, k ≤ N ∧ s29 = .int .i64 k ∧ Hid (∀ q, q < k → s.kd q = kind → FullC s c q M) ∧ Below w.heap.size w wr) (fun s29 _ => N - (intOf s29).toNat)
  case atStart => exact ⟨0, Nat.zero_le _, rfl, hid (fun q hq => absurd hq (by omega)), HB0.out _⟩
  case round =>
    obtain ⟨k, hk, rfl, HQ, hb⟩ := hrel
    clear HB0
    by_cases hltk : k < N
    · have hki : (k : Int) < (N : Int) := by omega
      have hpg := (HH.out.kept hb).page hltk hN
      have hbA : Below wr.heap.size wr (wr.alloc (.cells (pgC s k).toArray 39)) := (Below.refl _ _).alloc (Nat.le_refl _) _
      have HPG : Hid (Pgb (wr.alloc (.cells (pgC s k).toArray 39)) wr.heap.size s k) := hid (heap_alloc_new wr _)
      have hbB := next hb hbA
      go_upto_region 4 with (fail)
      go_step
      go_step
      go_step
      go_step
      go_step
      go_step
      go_step
      refine wpList_load_mid rfl 39 (.tmp 32) rfl b (k * 33) rfl (pgC s k) _ hpg Tryd.underlying39 rfl (by rw [pgC_len]; exact pg_size) ?_
      simp only [Act.put, List.setIfInBounds_toArray, List.set_cons_zero, List.set_cons_succ]
      have hpc1 := pgC_one s k
      have hpcl := pgC_len s k
      generalize pgC s k = PC at *
      go_step
      go_step
      go_step
      go_step
      go_step
      go_step
      refine wpList_store_row rfl 39 (.tmp 11) (.tmp 33) rfl wr.heap.size PC.toArray rfl rfl 39 _ (heap_alloc_last wr _) (by rw [List.size_toArray, hpcl]; exact pg_size) (by rw [show PC.toArray.size = 33 from hpcl]; rfl) hpc1 ?_
      rw [World.setRow_alloc_new]
      simp only [Act.put]
      have hws : wr.heap.size < (wr.alloc (.cells PC.toArray 39)).heap.size := by simp
      have HWZ : Hid ((wr.alloc (.cells PC.toArray 39)).heap.size = wr.heap.size + 1) := hid (by simp)
      clear hpg hbA hpc1 hpcl
      generalize wr.alloc (.cells PC.toArray 39) = W1 at *
      have d0 := HPG.out.kind
      by_cases hkd : s.kd k = kind
      · rw [hkd] at d0
        have hdk : (kind != kind) = false := by simp
        have HKD := hid hkd
        clear hkd
        go_wp2
        go_loopw [39] (fun s39 wq => ∃ i : Nat, i ≤ M ∧ s39 = .int .i64 i ∧ Hid (FullC s c k i) ∧ W1 = wq) (fun s39 _ => M - (intOf s39).toNat)
        case atStart => exact ⟨0, Nat.zero_le _, rfl, hid (fun i hi => absurd hi (by omega)), rfl⟩
        case round =>
          obtain ⟨i, hi, rfl, HF, rfl⟩ := hrel
          by_cases hlti : i < M
          · have hii : (i : Int) < (M : Int) := by omega
            have cE := cell_any c i W1 (HT.out.kept hbB)
            obtain ⟨o1, o2⟩ := HC1.out i hlti
            obtain ⟨j, hj⟩ : ∃ j : Nat, ctN c i = j := ⟨(ctN c i).toNat, by omega⟩
            rw [hj] at cE o1 o2
            have hj32 : (j : Int) < 32 := by omega
            have d1 := HPG.out.word (show j < 32 by omega)
            have HJ : Hid ((ctN c i).toNat = j) := hid (by rw [hj]; rfl)
            have HJ2 := hid hj
            clear hj
            cases htk : s.tk k j with
            | true =>
              rw [htk] at d1
              have HF2 : Hid (FullC s c k (i + 1)) := hid (fun q hq => by
                by_cases e : q < i
                · exact HF.out q e
                · obtain rfl : q = i := by omega
                  rw [HJ.out]; exact htk)
              clear HF htk HQ HKD HPG HH HT HJ HJ2
              go_wp2_with (go_at_call 21; with_reducible refine cE.mono ?_; rintro e w' ⟨rfl, rfl⟩)
              go_roundw
              case rel => exact ⟨i + 1, by omega, by go_num, HF2, trivial⟩
              case measure => simp [intOf]; omega
            | false =>
              rw [htk] at d1
              have x1 : IntKind.i64.wrap ((k : Int) * 32) = (k : Int) * 32 := IntWalk.i64_in _ ⟨by omega, by omega⟩
              have x2 : IntKind.i64.wrap ((k : Int) * 32 + (j : Int)) = (k : Int) * 32 + (j : Int) := IntWalk.i64_in _ ⟨by omega, by omega⟩
              have HR : Hid (FcR N s kind c M ((k : Int) * 32 + (j : Int)) true) := hid (.inl ⟨rfl, k, i, hltk, hlti, HKD.out, by rw [HJ.out]; exact htk, HF.out, HQ.out, by rw [HJ2.out]⟩)
              clear HF htk HQ HKD HPG HH HT HJ HJ2
              go_wp2_with (go_at_call 21; with_reducible refine cE.mono ?_; rintro e w' ⟨rfl, rfl⟩)
              go_ret2
              exact ⟨_, true, rfl, HR.out, hbB⟩
          · obtain rfl : M = i := by omega
            have HQ2 : Hid (∀ q, q < k + 1 → s.kd q = kind → FullC s c q M) := hid (fun q hq hk' => by
              by_cases e : q < k
              · exact HQ.out q e hk'
              · obtain rfl : q = k := by omega
                exact HF.out)
            clear HF HQ HPG
            go_wp2
            go_roundw
            case rel => exact ⟨k + 1, by omega, by go_num, HQ2, hbB⟩
            case measure => simp [intOf]; omega
      · have hdk : (s.kd k != kind) = true := by simpa using hkd
        have HQ2 : Hid (∀ q, q < k + 1 → s.kd q = kind → FullC s c q M) := hid (fun q hq hk' => by
          by_cases e : q < k
          · exact HQ.out q e hk'
          · obtain rfl : q = k := by omega
            exact absurd hk' hkd)
        generalize s.kd k = v at d0 hdk
        clear hkd HQ HPG
        go_wp2
        go_roundw
        case rel => exact ⟨k + 1, by omega, by go_num, HQ2, hbB⟩
        case measure => simp [intOf]; omega
    · obtain rfl : N = k := by omega
      have HF : Hid (FcR N s kind c M 0 false) := hid (.inr ⟨rfl, rfl, HQ.out⟩)
      clear HQ
      go_wp2
      go_ret2
      exact ⟨0, false, rfl, HF.out, hb⟩
end Go.Proofs.YtlghhhhgfnnjgabDoor
