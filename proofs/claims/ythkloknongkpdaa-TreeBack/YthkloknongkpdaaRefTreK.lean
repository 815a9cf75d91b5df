/- joistref14.Find by its contract. -/
import Derived.Test.YthkloknongkpdaaRefTreJ
import Derived.Test.YthkloknongkpdaaMtB
import Derived.Test.YthkloknongkpdaaMtC
namespace Go.Proofs.Ythkloknongkpdaa
set_option maxRecDepth 100000
open Go.RowKit
set_option linter.unusedVariables false
set_option linter.unusedSimpArgs false
set_option maxRecDepth 100000

theorem fn_drop {l : List Blk} {i : Nat} (h : i < l.length) (p : Int) : fnO (l.drop i) p = if HasX (ba l i) p then some (ba l i) else fnO (l.drop (i + 1)) p := by
  have e : l.drop i = ba l i :: l.drop (i + 1) := by rw [List.drop_eq_getElem_cons h]; simp [ba, List.getD, h]
  rw [e]
  unfold fnO
  rw [List.find?_cons]
  by_cases c : HasX (ba l i) p
  · rw [if_pos c, decide_eq_true c]
  · rw [if_neg c, decide_eq_false c]
theorem rx_len (P : Int) (b : List Int) : (rxL P b).length ≤ 64 ∧ ∀ x ∈ rxL P b, 0 ≤ x.pos ∧ x.pos ≤ 64 ∧ 1 ≤ x.sz ∧ x.sz ≤ 64 := by
  by_cases h : RdX P b
  · rw [(rx_t h).1]
    have h1 := (wtE_0.1 h.2.1).1
    exact ⟨h1.n64, fun x hx => ⟨(h1.ext hx).1, (h1.ext hx).2.1, (h1.ext hx).2.2.1, (h1.ext hx).2.2.2.1⟩⟩
  · rw [(rx_f h).1]
    exact ⟨Nat.zero_le _, fun x hx => by cases hx⟩
set_option maxHeartbeats 4000000 in
/-- joistref14.Find. -/
theorem rfindX_sl (P : Int) (ao : Option Addr) (n cap : Nat) (zs : List Int) (p : Int) (hp : Rg p) (w : World) (h : Sl .u8 w ao n cap zs) (hby : Bytes zs) (hn : n ≤ 140737488355328) :
    Calls Try.prog 26 #[.int .i64 P, .slice ao n cap, .int .i64 p] w fun e w' => e = .returned (.tuple #[.agg #[.int .i64 (fdX P zs p).pos, .int .i64 (fdX P zs p).sz, .int .i64 (fdX P zs p).ix], .bool (fdXB P zs p)]) ∧ Below w.heap.size w w' := by
  have hb0 : Below w.heap.size w (w.alloc (.cells #[.int .i64 0, .int .i64 0, .int .i64 0] 42)) := (Below.refl _ _).alloc (Nat.le_refl _) _
  have HX0 := hid (bxX_new w 0 0 0)
  have cR := rreadX_sl P ao n cap zs _ (h.below hb0) hby hn
  obtain ⟨hL, hX⟩ := rx_len P zs
  have HF : Hid (fdX P zs p = (fnO (rxL P zs) p).getD Blk.z ∧ fdXB P zs p = (fnO (rxL P zs) p).isSome) := hid ⟨rfl, rfl⟩
  have HE : Hid (rxR P zs = true ∨ rxL P zs = []) := hid (by
    by_cases c : RdX P zs
    · left; exact (rx_t c).2
    · right; exact (rx_f c).1)
  have hp1 := hp.1
  have hp2 := hp.2
  generalize fdX P zs p = F at *
  generalize fdXB P zs p = FB at *
  generalize rxL P zs = L at *
  generalize rxR P zs = R at *
  clear h hby
  go_enter Try.func26, Try.ntmps26
  go_wp2_with (first
    | (go_at_call 25; with_reducible refine cR.mono ?_; rintro e w1 ⟨bo, m, c, rfl, ho, hb1'⟩; have Ho := hid ho; have hml := ho.bs.len; have HX1 := hid (HX0.out.kept hb1'); have hb1 := next hb0 hb1'; clear ho hb1'))
  go_loopw [10] (fun s9 wr => ∃ (i : Nat), i ≤ m ∧ s9 = .int .i64 i ∧ Hid (fnO L p = fnO (L.drop i) p) ∧ Below w1.heap.size w1 wr) (fun s9 _ => m - (intOf s9).toNat)
  case atStart => exact ⟨0, Nat.zero_le _, rfl, hid rfl, Below.refl _ _⟩
  case round =>
    obtain ⟨i, hi, rfl, HI, hb⟩ := hrel
    by_cases hlt : i < m
    · have hR : R = true := by
        rcases HE.out with c | c
        · exact c
        · rw [c] at hml; simp at hml; omega
      subst hR
      have hii : (i : Int) < (m : Int) := by omega
      obtain ⟨g, rfl, hgl, _⟩ := Ho.out.shape (by omega)
      have hgl' : w.heap.size + 1 ≤ g := by simpa using hgl
      obtain ⟨c0, c1, c2⟩ := Ho.out.bs.at hb hlt
      have HXr := hid (HX1.out.kept hb)
      obtain ⟨q0, q1, q2, q3, q4, q5⟩ := HXr.out.cells
      simp only at q0 q1 q2
      have hx := hX _ (ba_mem (l := L) (i := i) (by omega))
      have HD := hid (fn_drop (l := L) (i := i) (by omega) p)
      have HBX : Hid (∀ o : Obj, Below w1.heap.size w1 (wr.alloc o)) := hid (fun o => hb.alloc hb.size o)
      have y1 : IntKind.i64.wrap ((i : Int) + 1) = ((i + 1 : Nat) : Int) := by rw [IntWalk.i64_in _ ⟨by omega, by omega⟩]; omega
      obtain ⟨x, hxe⟩ : ∃ x, ba L i = x := ⟨_, rfl⟩
      rw [hxe] at c0 c1 c2 hx HD
      obtain ⟨a, s, u⟩ := x
      simp only [Nat.zero_add] at c0 c1 c2 hx
      by_cases hh : HasX ⟨a, s, u⟩ p
      · have e1 : fnO L p = some ⟨a, s, u⟩ := by rw [HI.out, HD.out, if_pos hh]
        have HF2 : Hid (F = ⟨a, s, u⟩ ∧ FB = true) := hid (by have := HF.out; rw [e1] at this; exact ⟨this.1, this.2⟩)
        have h1 : a ≤ p := hh.1
        have h2 : p < a + s := hh.2
        have d1 : ¬ (p < a) := by omega
        have x1 : IntKind.i64.wrap (p - a) = p - a := IntWalk.i64_in _ ⟨by omega, by omega⟩
        have d2 : p - a < s := by omega
        clear hh HD HI HF e1 hxe HE
        obtain ⟨t0, _⟩ := (HXr.out.set0 a).cells
        obtain ⟨_, t1, _⟩ := ((HXr.out.set0 a).set1 s).cells
        obtain ⟨_, _, t2, _⟩ := (((HXr.out.set0 a).set1 s).set2 u).cells
        simp only at t0 t1 t2
        have hne : g ≠ w.heap.size := by omega
        have hbd := next hb1 hb
        go_wp2
        go_region_held3 (fun w' => w'.cell? ⟨g, i * 3, none⟩ = some (.int .i64 a) ∧ w'.cell? ⟨g, i * 3 + 1, none⟩ = some (.int .i64 s)) (go_keep) (fail)
        go_wp2
        refine bodyPost_ret (v := .tuple #[.agg #[.int .i64 a, .int .i64 s, .int .i64 u], .bool true]) (by simp [results, Try.results26, go_sem, t0, t1, t2]) rfl ⟨by rw [HF2.out.1, HF2.out.2], ?_⟩
        exact (((hbd.setCell (by simp) _).setCell (by simp) _).setCell (by simp) _).drew
      · have HN : Hid (fnO L p = fnO (L.drop (i + 1)) p) := hid (by rw [HI.out, HD.out, if_neg hh])
        clear HD HI hxe
        by_cases h1 : a ≤ p
        · have h2 : ¬ (p < a + s) := fun c => hh ⟨h1, c⟩
          have d1 : ¬ (p < a) := by omega
          have x1 : IntKind.i64.wrap (p - a) = p - a := IntWalk.i64_in _ ⟨by omega, by omega⟩
          have d2 : ¬ (p - a < s) := by omega
          clear hh
          go_wp2
          go_region_held3 (fun w' => w'.cell? ⟨g, i * 3, none⟩ = some (.int .i64 a) ∧ w'.cell? ⟨g, i * 3 + 1, none⟩ = some (.int .i64 s)) (go_keep) (fail)
          go_wp2
          go_roundw
          case rel => exact ⟨i + 1, by omega, rfl, HN, hb.drew⟩
          case measure => simp [intOf]; omega
        · have d1 : p < a := by omega
          have hd1 : decide (a ≤ p) = false := decide_eq_false h1
          clear hh
          go_wp2
          go_region
          go_wp2
          go_roundw
          case rel => exact ⟨i + 1, by omega, rfl, HN, hb.drew⟩
          case measure => simp [intOf]; omega
    · have hii : ¬ ((i : Int) < (m : Int)) := by omega
      have HXr := hid (HX1.out.kept hb)
      obtain ⟨q0, q1, q2, q3, q4, q5⟩ := HXr.out.cells
      simp only at q0 q1 q2
      have e1 : fnO L p = none := by rw [HI.out, List.drop_of_length_le (by omega)]; rfl
      have HF2 : Hid (F = Blk.z ∧ FB = false) := hid (by have := HF.out; rw [e1] at this; exact ⟨this.1, this.2⟩)
      clear HI HF e1 HE
      obtain ⟨t0, t1, t2, _⟩ := (HXr.out.set ⟨0, 0, 0⟩).cells
      simp only at t0 t1 t2
      go_wp2
      refine bodyPost_ret (v := .tuple #[.agg #[.int .i64 0, .int .i64 0, .int .i64 0], .bool false]) (by simp [results, Try.results26, go_sem, t0, t1, t2]) rfl ⟨by rw [HF2.out.1, HF2.out.2]; rfl, ?_⟩
      exact (((next hb1 hb).setCell (by simp) _).setCell (by simp) _).setCell (by simp) _
end Go.Proofs.Ythkloknongkpdaa
