/- joistref04.Apply by its contract. -/
import Derived.Test.YtjmmppphdmpceaaApply
import Derived.Test.YtjmmppphdmpceaaApp
namespace Go.Proofs.Ytjmmppphdmpceaa
open Go.RowKit
set_option linter.unusedVariables false

theorem splice_step {Z Y : List Int} {p k : Nat} (hk : k < Y.length) (hp : p + Y.length ≤ Z.length) : (splice Z p (Y.take k)).set (p + k) (Y.getD k 0) = splice Z p (Y.take (k + 1)) := by
  unfold splice
  have h1 : (Y.take k).length = k := by simp; omega
  have h2 : (Y.take (k + 1)).length = k + 1 := by simp; omega
  have h3 : (Z.take p).length = p := by simp; omega
  rw [h1, h2, List.set_append_right _ _ (by omega), h3, show p + k - p = k by omega, List.set_append_right _ _ (by omega), h1, Nat.sub_self, take_succ' Y k hk, List.append_assoc]
  congr 2
  have h4 : Z.drop (p + k) = Z[p + k]'(by omega) :: Z.drop (p + (k + 1)) := by rw [List.drop_eq_getElem_cons (by omega)]; rfl
  rw [h4, List.set_cons_zero]
  simp [List.getD]
theorem splice_zero {Z Y : List Int} {p : Nat} : splice Z p (Y.take 0) = Z := by simp [splice]

theorem refapply_part (ao : Option Addr) (n cap : Nat) (lo : Option Addr) (m lc : Nat) (w : World) (hn : n ≤ 9223372036854775807) (h : ¬ n % 64 = 0) :
    Calls Try.prog 18 #[.slice ao n cap, .slice lo m lc] w fun e w' => e = .returned (.tuple #[.slice none 0 0, .int .i64 1]) ∧ w = w' := by
  have h2 : ((n : Int) % 64 != 0) = true := by simp; omega
  go_enter Try.func18, Try.ntmps18
  go_wp2
  go_ret2
  exact ⟨rfl, rfl⟩

set_option maxRecDepth 100000 in
set_option maxHeartbeats 1000000 in
theorem refapply_any (ao : Option Addr) (n cap : Nat) (xs : List Int) (lo : Option Addr) (m lc : Nat) (D : Nat → ChD) (w : World) (hx : Sl .u8 w ao n cap xs) (h : Chs w lo m D) (h64 : n % 64 = 0) (hn : n ≤ 140737488355328) :
    Calls Try.prog 18 #[.slice ao n cap, .slice lo m lc] w fun e w' => Below w.heap.size w w' ∧
      (okA (n / 64) (saysN D m) = false → e = .returned (.tuple #[.slice none 0 0, .int .i64 1])) ∧
      (okA (n / 64) (saysN D m) = true → ∃ bo c, e = .returned (.tuple #[.slice bo n c, .int .i64 0]) ∧ Own .u8 5 w.heap.size w' bo n c (layN xs (saysN D m))) := by
  have h9 : n ≤ 9223372036854775807 := by omega
  have h2 : ((n : Int) % 64 != 0) = false := by simp; omega
  have hm9 := h.fit
  have lx := hx.len
  obtain ⟨N, rfl⟩ : ∃ N, n = 64 * N := ⟨n / 64, by omega⟩
  have hN : 64 * N / 64 = N := by omega
  have hN' : ((64 * N : Nat) : Int) / 64 = N := by omega
  rw [hN]
  have hb0 : Below w.heap.size w (w.alloc (.cells #[] 5)) := (Below.refl _ _).alloc (Nat.le_refl _) _
  have hmade : (w.alloc (.cells #[] 5)).ownsRow w.heap.size 5 1 (.slice (some ⟨w.heap.size, 0, none⟩) 0 0) 0 (([] : List Int).map (Value.int .u8)) := World.ownsRow_made w #[] 0 (Nat.le_refl _) (Nat.zero_le _) rfl
  have hx0 := hx.below hb0
  have hs0 : w.heap.size ≤ (w.alloc (.cells #[] 5)).heap.size := by simp
  have n64 : 0 + 64 * N ≤ 140737488355328 := by omega
  go_enter Try.func18, Try.ntmps18
  go_wp2_with (first
    | (at_builtin; refine append_sl rfl (.tmp 13) (.tmp 14) rfl w.heap.size _ 0 [] rfl hmade _ (64 * N) _ xs rfl hx0 n64 hs0 ?_; intro bo1 c1 w1 hcp hgr1 _;
       have hb1 : Below w.heap.size w w1 := hb0.grown hgr1 hs0 (fun b hb' => (hmade.lt b hb').1)))
  rw [Nat.zero_add, List.nil_append] at hcp
  clear hmade hx0 hs0 hgr1 hx
  go_loopw [7] (fun t wr => ∃ k : Nat, k ≤ m ∧ t = .int .i64 k ∧ Hid (okA N (saysN D k) = true) ∧ Own .u8 5 w.heap.size wr bo1 (64 * N) c1 (layN xs (saysN D k)) ∧ Below w.heap.size w wr) (fun t _ => m - (intOf t).toNat)
  case atStart => exact ⟨0, Nat.zero_le _, rfl, hid rfl, hcp, hb1⟩
  case round =>
    clear hcp hb1 hb0
    obtain ⟨k, hk, rfl, HK, hown, hb⟩ := hrel
    by_cases hlt : k < m
    · obtain ⟨b1, o1, rfl, hlb, _⟩ := h.here (by omega)
      obtain ⟨c1', c2', ok⟩ := h.later hb hlt
      have hki : (k : Int) < (m : Int) := by omega
      have hfl := ok.bs.len
      have hbc := ok.bm
      have hrm := ok.bs.room
      have HT : Hid (fitsB N (D k).line (D k).bl = true → okA N (saysN D (k + 1)) = true) := fun e => by rw [saysN_succ, okA_snoc, HK.out, ChD.says, hfl, e]; rfl
      have HF : Hid (fitsB N (D k).line (D k).bl = false → okA N (saysN D m) = false) := fun e => okA_false hlt (by rw [hfl]; exact e)
      have HS : Hid (layN xs (saysN D (k + 1)) = lay1 (layN xs (saysN D k)) (D k).says) := hid (by rw [saysN_succ, layN_snoc])
      have hok := h.ok k hlt
      obtain ⟨A, hA⟩ : ∃ A, A = D k := ⟨_, rfl⟩
      rw [← hA] at c1' c2' HT HF HS hbc hrm hok hfl
      have hC : Hid (∀ {w2 : World}, Below w.heap.size w w2 → w2.cell? ⟨b1, o1 + k * 2, none⟩ = some (.int .i64 A.line) ∧ w2.cell? ⟨b1, o1 + k * 2 + 1, none⟩ = some (.slice A.ba A.bl A.bc)) := hid (fun hb2 => by
        obtain ⟨d1, d2, _⟩ := h.later hb2 hlt
        rw [hA]
        exact ⟨d1, d2⟩)
      clear ok hA h
      by_cases f1 : A.line < 0
      · have f1' : decide (A.line < 0) = true := by simpa using f1
        have hf : fitsB N A.line A.bl = false := by simp [fitsB]; omega
        go_wp2
        go_ret2
        exact ⟨hb, fun _ => rfl, fun e => by rw [HF.out hf] at e; cases e⟩
      · have f1' : decide (A.line < 0) = false := by simpa using f1
        by_cases f2 : A.line < N
        · have f2' : decide ((N : Int) ≤ A.line) = false := by simpa using f2
          by_cases f3 : A.bl = 64
          · have f3' : ((A.bl : Int) != 64) = false := by simp; omega
            have hf : fitsB N A.line A.bl = true := fitsB_mk ⟨by omega, f2, f3⟩
            have HT' := hid (HT.out hf)
            clear HT HF
            obtain ⟨line, ba, bl, bc, bz⟩ := A
            simp only at c1' c2' hbc hrm hok f1 f2 f3 f1' f2' f3' hfl
            obtain ⟨q, rfl⟩ : ∃ q : Nat, line = q := ⟨line.toNat, by omega⟩
            subst f3
            obtain ⟨g, cg, hsh⟩ := own_shape hown.row (by omega)
            simp only [Value.slice.injEq] at hsh
            obtain ⟨rfl, _, rfl⟩ := hsh
            have hgw : w.heap.size ≤ g := by
              rcases hown.row.2 with ⟨hv, _⟩ | ⟨g', cap', cur, hv, hg, _⟩
              · simp at hv
              · simp only [Value.slice.injEq, Option.some.injEq, Addr.mk.injEq, and_true] at hv
                rw [hv.1]; exact hg
            have hqn : 64 * q + 64 ≤ 64 * N := by omega
            have hZl := hown.len
            have hYl : bz.length = 64 := hfl
            have HL : Hid (layN xs (saysN D (k + 1)) = splice (layN xs (saysN D k)) (64 * q) bz) := hid (by rw [HS.out]; rfl)
            clear HS
            generalize layN xs (saysN D k) = Z at *
            have HW : Hid (Own .u8 5 w.heap.size wr (some ⟨g, 0, none⟩) (64 * N) c1 (splice Z (64 * q) (bz.take 0))) := hid (by rw [splice_zero]; exact hown)
            have hlen0 : Z.length = 64 * N := hZl
            clear hown
            go_wp2
            go_loopw [8] (fun t wr2 => ∃ j : Nat, j ≤ 64 ∧ t = .int .i64 j ∧ Own .u8 5 w.heap.size wr2 (some ⟨g, 0, none⟩) (64 * N) c1 (splice Z (64 * q) (bz.take j)) ∧ Below w.heap.size w wr2) (fun t _ => 64 - (intOf t).toNat)
            case atStart => exact ⟨0, Nat.zero_le _, rfl, HW.out, hb⟩
            case round =>
              clear HW c1' c2'
              obtain ⟨j, hj, rfl, hown, hbj⟩ := hrel
              by_cases hlj : j < 64
              · have hji : (j : Int) < 64 := by omega
                obtain ⟨d1, d2⟩ := hC.out hbj
                have hbs : Sl .u8 wr ba 64 bc bz := hok.bs.below hbj
                obtain ⟨b2, o2, rfl, _, hcs⟩ := hbs.here (by omega)
                have d3 := hcs j hlj
                obtain ⟨y, hy⟩ : ∃ y, bz.getD j 0 = y := ⟨_, rfl⟩
                rw [hy] at d3
                obtain ⟨cur, hcur, hcs2, _⟩ := hown.block
                have hcap := hown.cap_le
                have hfr := frozen_of_row _ g (64 * q + j) cur 5 hcur
                have hcell : ∃ v, wr.cell? ⟨g, 64 * q + j, none⟩ = some v := by
                  rw [cell_of_row _ g (64 * q + j) cur 5 (0, 0) hcur]
                  have hsz : 64 * q + j < cur.size := by omega
                  exact ⟨cur[64 * q + j], Array.getElem?_eq_getElem hsz⟩
                obtain ⟨v, hcell⟩ := hcell
                have HN : Hid (Own .u8 5 w.heap.size (wr.drew.setCell ⟨g, 64 * q + j, none⟩ (.int .u8 y)) (some ⟨g, 0, none⟩) (64 * N) c1 (splice Z (64 * q) (bz.take (j + 1)))) := by
                  have hd : Own .u8 5 w.heap.size wr.drew (some ⟨g, 0, none⟩) (64 * N) c1 (splice Z (64 * q) (bz.take j)) := hown.below (Below.refl _ _).drew
                  have := hd.set (64 * q + j) y
                  rw [← hy, splice_step (by omega) (by omega)] at this
                  rw [hy] at this
                  exact this
                have hBd : Below w.heap.size w wr.drew := hbj.drew
                have e2 : 64 * q + j < 64 * N := by omega
                clear hown hcs hbs hok hcur
                go_wp2
                go_region
                all_goals
                  go_wp2
                  go_roundw
                  case rel => exact ⟨j + 1, by omega, by go_num, HN.out, hBd.setCell hgw _⟩
                  case measure => simp [intOf]; omega
              · obtain rfl : j = 64 := by omega
                have hown' : Own .u8 5 w.heap.size wr (some ⟨g, 0, none⟩) (64 * N) c1 (layN xs (saysN D (k + 1))) := by
                  rw [HL.out]; rw [List.take_of_length_le (by omega)] at hown; exact hown
                go_wp2
                go_roundw
                case rel => exact ⟨k + 1, by omega, by go_num, hid HT'.out, hown', hbj⟩
                case measure => simp [intOf]; omega
          · have f3' : ((A.bl : Int) != 64) = true := by simp; omega
            have hf : fitsB N A.line A.bl = false := by simp [fitsB]; omega
            go_wp2
            go_ret2
            exact ⟨hb, fun _ => rfl, fun e => by rw [HF.out hf] at e; cases e⟩
        · have f2' : decide ((N : Int) ≤ A.line) = true := by simpa using f2
          have hf : fitsB N A.line A.bl = false := by simp [fitsB]; omega
          go_wp2
          go_ret2
          exact ⟨hb, fun _ => rfl, fun e => by rw [HF.out hf] at e; cases e⟩
    · obtain rfl : k = m := by omega
      go_wp2
      go_ret2
      exact ⟨hb, (fun e => by rw [HK.out] at e; cases e), fun _ => ⟨_, _, rfl, hown⟩⟩
end Go.Proofs.Ytjmmppphdmpceaa
