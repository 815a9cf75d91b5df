/- RootB · RootC: these texts, one behind another. -/
import Derived.Test.YtpbljjbhfhfmgaaGreatDoorMxRootA
import Derived.Test.YtpbljjbhfhfmgaaGreatDoorMxNBytes
import Derived.Lib.UnsafeStr
import Derived.Lib.BufferWrite
import Derived.Deep.RegionHeld3
import Derived.Laws.ResultCell
/- strings.Clone; slices.Clone of roots; roots.with by their contracts. -/
namespace Go.Proofs.YtpbljjbhfhfmgaaGreatDoor
set_option maxRecDepth 100000
open Go.RowKit
set_option linter.unusedVariables false
set_option linter.unusedSimpArgs false
set_option maxRecDepth 100000

theorem uns_at {w : World} {g : Nat} {s : ByteArray} (h0 : s.size ≠ 0) (hlim : s.size ≤ 140737488355328) (hg : Hid (w.heap[g]? = some (.cells (Lib.byteCells s.data.toList ++ (List.replicate s.size (Value.int .u8 0)).drop s.size).toArray 5 (0, 0)))) :
    (Builtin.unsafeString_ #[117, 3] 9 #[.pointer (some ⟨g, 0, none⟩), .int .i64 (s.size : Nat)]).run Tryz.prog w = .ok (.string s) (w.freeze ⟨g, 0, none⟩ s.size) := by
  obtain ⟨i0, hi, hz0, hz1, hz2⟩ := info_parts Tryz.info5
  have hco : Tryz.prog.cellsOf 5 = 1 := by simp [Program.cellsOf, hi, hz1]
  have hne : s.data.toList ≠ [] := fun e => h0 (by rw [Lib.size_eq, e]; rfl)
  obtain ⟨Y, hY⟩ : ∃ Y, Y = (Lib.byteCells s.data.toList ++ (List.replicate s.size (Value.int .u8 0)).drop s.size).toArray := ⟨_, rfl⟩
  have hYl : Y.toList = Lib.byteCells s.data.toList := by
    rw [hY, List.toList_toArray, List.drop_of_length_le (by simp), List.append_nil]
  have hYs : Y.size = s.size := by rw [← Array.length_toList, hYl, Lib.byteCells_length, ← Lib.size_eq]
  have hg' : w.heap[g]? = some (.cells Y 5 (0, 0)) := by rw [hY]; exact hg.out
  have h := Lib.run_unsafeString_row (P := Tryz.prog) w 117 3 9 5 Tryz.underlying117 hco g Y.size (by unfold World.shape?; rw [hg']) s.data.toList hne (by rw [← Lib.size_eq]; omega) (by rw [← Lib.size_eq]; omega)
    (fun j x hx => by
      rw [Addr.add_lit, Nat.zero_add, cell_of_row w g j Y 5 (0, 0) hg', ← Array.getElem?_toList, hYl]
      simp [Lib.byteCells, hx])
  rw [← Lib.size_eq] at h
  exact h
theorem sliteClone_any (s : ByteArray) (w : World) (hlim : s.size ≤ 140737488355328) :
    Calls Tryz.prog 65 #[.string s] w fun e w' => e = .returned (.string s) ∧ Below w.heap.size w w' := by
  by_cases h0 : s.size = 0
  · have hs : s = ⟨#[]⟩ := by
      apply ByteArray.ext
      exact Array.eq_empty_of_size_eq_zero h0
    subst hs
    go_enter Tryz.func65, Tryz.ntmps65
    go_wp2
    go_ret
    exact ⟨rfl, Below.refl _ _⟩
  · obtain ⟨i0, hi, hz0, hz1, hz2⟩ := info_parts Tryz.info5
    have hI : ((s.size : Int) == 0) = false := beq_eq_false_iff_ne.2 (by omega)
    have hI2 : (0 : Int) < (s.size : Int) := by omega
    have HU : Hid (∀ w2 : World, Hid (w2.heap[w.heap.size]? = some (.cells (Lib.byteCells s.data.toList ++ (List.replicate s.size (Value.int .u8 0)).drop s.size).toArray 5 (0, 0))) → (Builtin.unsafeString_ #[117, 3] 9 #[.pointer (some ⟨w.heap.size, 0, none⟩), .int .i64 (s.size : Nat)]).run Tryz.prog w2 = .ok (.string s) (w2.freeze ⟨w.heap.size, 0, none⟩ s.size)) := hid (fun w2 hg => uns_at h0 hlim hg)
    clear h0
    go_enter Tryz.func65, Tryz.ntmps65
    go_wp2_with (first
      | (at_make; refine wpList_make_some _ rfl _ _ 48 rfl 5 i0 (.int .u8 0) Tryz.underlying48 hi hz0 hz1 rfl .i64 .i64 _ _ s.size s.size rfl rfl rfl rfl (Nat.le_refl _) (by rw [hz2]; omega) (by unfold maxLen; omega) ?_; intro w1 HG1 hb1)
      | (with_reducible refine wpList_copy_str rfl (.tmp 10) (.tmp 11) 48 9 rfl 5 Tryz.underlying48 (by rw [hi]; simp [hz1]) _ s.size s.size rfl s rfl (List.replicate s.size (.int .u8 0)) 5 HG1.out (Nat.le_refl _) (by simp) w.heap.size w hb1 (Nat.le_refl _) ?_; intro w2 HG2 hb2; have hUS := HU.out w2 HG2))
    go_ret
    exact ⟨rfl, Lib.below_freeze hb2 (p := ⟨w.heap.size, 0, none⟩) (Nat.le_refl _) _⟩
theorem sclone_any (s : ByteArray) (w : World) (hlim : s.size ≤ 140737488355328) :
    Calls Tryz.prog 30 #[.string s] w fun e w' => e = .returned (.string s) ∧ Below w.heap.size w w' := by
  have cC := sliteClone_any s w hlim
  go_enter Tryz.func30, Tryz.ntmps30
  go_wp2_with (first | (go_at_call 65; with_reducible refine cC.mono ?_; rintro e w1 ⟨rfl, hb1⟩))
  go_ret
  exact ⟨rfl, hb1⟩
/-- '[]api.Root{}' in new memory. -/
theorem own_emptyR (B : Nat) (w : World) (hB : B ≤ w.heap.size) : (w.alloc (.cells #[] 52)).ownsRow B 52 3 (.slice (some ⟨w.heap.size, 0, none⟩) 0 0) 0 (cellsR []) :=
  World.ownsRow_made w #[] 0 hB (by unfold maxLen; omega) rfl
/-- slices.Clone of roots that are there. -/
theorem cloneR_any (b off n cap : Nat) (l : List Rt) (w : World) (h : Rs w (some ⟨b, off, none⟩) n cap l) (hn : n * 32 ≤ 140737488355328) :
    Calls Tryz.prog 64 #[.slice (some ⟨b, off, none⟩) n cap] w fun e w' => ∃ bo c, e = .returned (.slice bo n c) ∧ OwR w.heap.size w' bo n c l ∧ Below w.heap.size w w' := by
  have q22 : ∀ (w : World) (a : Option Addr) (n c n' c' : Nat), (binOp .eql 25 (.slice a n c) (.slice none n' c')).run Tryz.prog w = .ok (.bool a.isNone) w := fun w a n c n' c' => Lib.run_eql_slice_nil w _ _ a n c n' c' Tryz.underlying25
  have hbA : Below w.heap.size w (w.alloc (.cells #[] 52)) := (Below.refl _ _).alloc (Nat.le_refl _) _
  have HT := hid (h.below hbA)
  have hb32 : (0 + n) * 32 ≤ 140737488355328 := by omega
  clear h
  go_enter Tryz.func64, Tryz.ntmps64
  go_wp2_with (first
    | (at_builtin; refine append_rs rfl (.tmp 5) (.tmp 6) rfl w.heap.size _ 0 [] rfl (own_emptyR w.heap.size w (Nat.le_refl _)) (by intro x hx; cases hx) (some ⟨b, off, none⟩) n cap l rfl HT.out hb32 (by simp) ?_))
  intro bo c' w2 ho2 hg2
  have b2 : Below w.heap.size w w2 := hbA.grown hg2 (by simp) (by intro j hj; cases hj; exact Nat.le_refl _)
  clear hg2
  go_wp2
  go_ret
  exact ⟨bo, c', by simp, ho2, b2⟩
theorem cellsR_same (l : List Rt) {i : Nat} (h : i < l.length) : (cellsR l).set (i * 3) (.string (ra l i).nm) = cellsR l := by
  have g := cellsR_get l (i := i) (j := 0) h (by omega)
  rw [Nat.add_zero] at g
  apply List.ext_getElem?
  intro j
  by_cases e : i * 3 = j
  · subst e
    rw [List.getElem?_set_self (by rw [cellsR_length]; omega), g]
    rfl
  · rw [List.getElem?_set_ne e]
/-- A name laid over itself. -/
theorem OwR.again {B : Nat} {w : World} {g n cap : Nat} {l : List Rt} (h : OwR B w (some ⟨g, 0, none⟩) n cap l) {i : Nat} (hi : i < n) : OwR B (w.setCell ⟨g, i * 3, none⟩ (.string (ra l i).nm)) (some ⟨g, 0, none⟩) n cap l := by
  refine ⟨h.len, ?_, h.rg⟩
  have := (h.row.stored (i * 3) (.string (ra l i).nm)).1
  rwa [cellsR_same l (by rw [h.len]; exact hi)] at this
end Go.Proofs.YtpbljjbhfhfmgaaGreatDoor
/- roots.Right, check, have, Get, Set and Drop by their contracts. -/
namespace Go.Proofs.YtpbljjbhfhfmgaaGreatDoor
set_option maxRecDepth 100000
open Go.RowKit
set_option linter.unusedVariables false
set_option linter.unusedSimpArgs false
set_option maxRecDepth 100000

theorem Rs.short {w : World} {ao : Option Addr} {n cap : Nat} {l : List Rt} (h : Rs w ao n cap l) (m : Nat) (hm : m ≤ n) : Rs w ao m cap (l.take m) := by
  have hl := h.len
  have hr := h.room
  refine ⟨by rw [List.length_take]; omega, by omega, h.void, fun hp => ?_, fun s hs => h.rg s (List.mem_of_mem_take hs)⟩
  obtain ⟨b, off, e, hlt, hc⟩ := h.here (by omega)
  refine ⟨b, off, e, hlt, fun i hi => ?_⟩
  rw [ra_take hi]
  exact hc i (by omega)
set_option maxHeartbeats 1000000 in
theorem rightR_rs (ao : Option Addr) (n cap : Nat) (l : List Rt) (w : World) (h : Rs w ao n cap l) (hn : n ≤ 9223372036854775807) :
    Calls Tryz.prog 46 #[.slice ao n cap] w fun e w' => e = .returned (.bool (rightRB l)) ∧ Below w.heap.size w w' := by
  have hl := h.len
  by_cases hs : SizR (n : Int)
  · have hsb := sizRB_t hs
    go_enter Tryz.func46, Tryz.ntmps46
    go_wp2_with (go_at_call 75; with_reducible refine (sizedR_any _ _).mono ?_; rintro e w' ⟨rfl, rfl⟩; rw [hsb])
    go_loopw [13] (fun t wr => ∃ k : Nat, k ≤ n ∧ t = .int .i64 k ∧ Hid (∀ j, j < k → OkAt l j) ∧ Below w.heap.size w wr) (fun t _ => n - (intOf t).toNat)
    case atStart => exact ⟨0, Nat.zero_le _, rfl, hid (fun i hi => by omega), Below.refl _ _⟩
    case round =>
      obtain ⟨k, hk, rfl, HK, hb⟩ := hrel
      by_cases hlt : k < n
      · obtain ⟨b, off, rfl, _, _⟩ := h.here (by omega)
        obtain ⟨c0, c1, c2⟩ := h.at hb hlt
        have hroom := h.room
        have hki : (k : Int) < (n : Int) := by omega
        have hkc : k ≤ cap := by omega
        have HT : Hid (OkAt l k → ∀ i, i < k + 1 → OkAt l i) := fun hm i hi => by
          by_cases e : i = k
          · rw [e]; exact hm
          · exact HK.out i (by omega)
        have HF : Hid (¬ OkAt l k → false = rightRB l) := fun hm => (rightRB_f (fun hr => hm (hr.ok (by omega)))).symm
        have hbA : Below w.heap.size w (wr.alloc (ra l k).obj) := hb.alloc hb.size _
        have cM := fun w => may_rt (ra l k) w (h.rgs hlt)
        have h3 := r3_new wr (ra l k)
        have cN : ∀ w2, Below w.heap.size w w2 → Calls Tryz.prog 77 #[.slice (some ⟨b, off, none⟩) k cap, .string (ra l k).nm] w2 fun e w' => e = .returned (.tuple #[.int .i64 (plN (l.take k) (ra l k).nm : Nat), .bool (plB (l.take k) (ra l k).nm)]) ∧ Below w2.heap.size w2 w' := fun w2 hb2 => named_rs _ k cap (l.take k) _ w2 ((h.below hb2).short k (by omega)) (by omega)
        have HO : Hid (OkAt l k ↔ MayR (ra l k) ∧ ((ra l k).nm = emp ∨ plB (l.take k) (ra l k).nm = false)) := hid Iff.rfl
        generalize plB (l.take k) (ra l k).nm = pb at *
        generalize plN (l.take k) (ra l k).nm = pn at *
        generalize ra l k = r at *
        obtain ⟨nm, ix, gn⟩ := r
        simp only [Rt.obj] at c0 c1 c2 cM hbA h3 cN HO
        clear HK h hsb hs
        by_cases hm : MayR ⟨nm, ix, gn⟩
        · rw [mayRB_t hm] at cM
          go_wp2_with (first
            | (go_at_call 76; with_reducible refine (cM _).mono ?_; rintro e w3 ⟨rfl, hb3⟩))
          obtain ⟨d0, d1, d2⟩ := h3.below hb3
          have h33 := hid (h3.below hb3)
          have hb3' := next hbA hb3
          have cN' := cN _ hb3'.drew
          have hlt3 : wr.heap.size < w3.heap.size := World.block_lt_of_cell? w3 _ d0
          clear c0 c1 c2 cM h3 cN hb3
          go_region_held3 (fun w' => w'.cell? ⟨wr.heap.size, 0, none⟩ = some (.string nm)) (go_keep) (first
            | (go_at_call 77; with_reducible refine cN'.mono ?_; rintro e w4 ⟨rfl, hb4⟩; obtain ⟨f0, f1, f2⟩ := h33.out.below (next (Below.refl _ _).drew hb4)))
          have hb4' := next hb3'.drew hb4
          cases pb with
          | false =>
            have HT' := hid (HT.out (HO.out.2 ⟨hm, Or.inr rfl⟩))
            clear HT HF HO hm
            go_wp2
            go_roundw
            case rel => exact ⟨k + 1, by omega, by go_num, HT', hb4'⟩
            case measure => simp [intOf]; omega
          | true =>
            by_cases he : nm = emp
            · have HT' := hid (HT.out (HO.out.2 ⟨hm, Or.inl he⟩))
              have hq := emp_e he
              clear HT HF HO hm he
              go_wp2
              go_roundw
              case rel => exact ⟨k + 1, by omega, by go_num, HT', hb4'⟩
              case measure => simp [intOf]; omega
            · have HF' := hid (HF.out (fun e => by rcases (HO.out.1 e).2 with h1 | h1; exact he h1; cases h1))
              have hq := emp_n he
              have hq2 := emp_l he
              clear HT HF HO hm he
              go_wp2
              go_ret
              exact ⟨ret_bool HF'.out, hb4'⟩
        · rw [mayRB_f hm] at cM
          go_wp2_with (first
            | (go_at_call 76; with_reducible refine (cM _).mono ?_; rintro e w3 ⟨rfl, hb3⟩))
          go_ret
          exact ⟨ret_bool (HF.out (fun e => hm (HO.out.1 e).1)), next hbA hb3⟩
      · obtain rfl : k = n := by omega
        have HR : Hid (rightRB l = true) := hid (rightRB_t (rightR_of (by rw [hl]; exact hs) (fun j hj => HK.out j (by omega))))
        go_wp2
        go_ret
        exact ⟨ret_bool HR.out.symm, hb⟩
  · have hsb := sizRB_f hs
    have hr : rightRB l = false := rightRB_f (fun hr => hs (by have := hr.siz; rwa [hl] at this))
    rw [hr]
    go_enter Tryz.func46, Tryz.ntmps46
    go_wp2_with (go_at_call 75; with_reducible refine (sizedR_any _ _).mono ?_; rintro e w' ⟨rfl, rfl⟩; rw [hsb])
    go_ret
    exact ⟨rfl, Below.refl _ _⟩
/-- A handle in a block of its own. -/
def BxR (w : World) (b : Nat) (I G : Int) : Prop := w.heap[b]? = some (.cells #[.int .i64 I, .int .i64 G] 50 (0, 0))
theorem BxR.kept {w w' : World} {b : Nat} {I G : Int} (h : BxR w b I G) (hb : Below w.heap.size w w') : BxR w' b I G := (hb.block b (Array.getElem?_eq_some_iff.1 h).1).trans h
theorem BxR.cells {w : World} {b : Nat} {I G : Int} (h : BxR w b I G) : w.cell? ⟨b, 0, none⟩ = some (.int .i64 I) ∧ w.cell? ⟨b, 1, none⟩ = some (.int .i64 G) ∧ w.frozen? ⟨b, 0, none⟩ = false ∧ w.frozen? ⟨b, 1, none⟩ = false := by
  refine ⟨?_, ?_, frozen_of_row w b 0 _ 50 h, frozen_of_row w b 1 _ 50 h⟩
  · rw [cell_of_row w b 0 _ 50 (0, 0) h]; rfl
  · rw [cell_of_row w b 1 _ 50 (0, 0) h]; rfl
theorem bxR_new (w : World) (I G : Int) : BxR (w.alloc (.cells #[.int .i64 I, .int .i64 G] 50)) w.heap.size I G := heap_alloc_new w _
theorem BxR.more {w : World} {b : Nat} {I G : Int} (h : BxR w b I G) (o : Obj) : BxR (w.alloc o) b I G := h.kept ((Below.refl _ _).alloc (Nat.le_refl _) _)
end Go.Proofs.YtpbljjbhfhfmgaaGreatDoor
