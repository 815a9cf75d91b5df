/- GapE · GapF · GapC · RefGapB · RefPagA: these texts, one behind another. -/
import Derived.Test.YtpbljjbhfhfmgaaGreatDoorMxGapA
import Derived.Test.YtpbljjbhfhfmgaaGreatDoorMxInfo
import Derived.Deep.RegionWith
import Derived.Deep.RegionHeld3
import Derived.Test.YtpbljjbhfhfmgaaGreatDoorMxOff
import Derived.Test.YtpbljjbhfhfmgaaGreatDoorMxTabA
import Derived.Test.YtpbljjbhfhfmgaaGreatDoorMxClsA
import Derived.Test.YtpbljjbhfhfmgaaGreatDoorMxClsB
/- cmp.Or of numbers; gaps.better, Best by their contracts. -/
namespace Go.Proofs.YtpbljjbhfhfmgaaGreatDoor
set_option maxRecDepth 100000
open Go.RowKit
set_option linter.unusedVariables false
set_option linter.unusedSimpArgs false
set_option maxRecDepth 100000

/-- The first one that is not 0. -/
def orI : List Int → Int
  | [] => 0
  | z :: r => if z = 0 then orI r else z
theorem orI_zero {k : Nat} {zs : List Int} (h : zs.getD k 0 = 0) : orI (zs.drop k) = orI (zs.drop (k + 1)) := by
  by_cases hk : k < zs.length
  · rw [List.drop_eq_getElem_cons hk, orI, if_pos (by simpa [List.getD, List.getElem?_eq_getElem hk] using h)]
  · rw [List.drop_of_length_le (by omega), List.drop_of_length_le (by omega)]
theorem orI_not {k : Nat} {zs : List Int} (hk : k < zs.length) (h : zs.getD k 0 ≠ 0) : orI (zs.drop k) = zs.getD k 0 := by
  have e : zs[k] = zs.getD k 0 := by simp [List.getD, List.getElem?_eq_getElem hk]
  rw [List.drop_eq_getElem_cons hk, orI, e, if_neg h]
theorem orI_end {k : Nat} {zs : List Int} (hk : ¬ k < zs.length) : orI (zs.drop k) = 0 := by rw [List.drop_of_length_le (by omega)]; rfl
theorem or_any (ao : Option Addr) (n cap : Nat) (zs : List Int) (w : World) (hsl : Sl .i64 w ao n cap zs) (hn : n ≤ 9223372036854775807) :
    Calls Tryz.prog 41 #[.slice ao n cap] w fun e w' => e = .returned (.int .i64 (orI zs)) ∧ w = w' := by
  have hl := hsl.len
  go_enter Tryz.func41, Tryz.ntmps41
  go_wp2
  go_loopw [8] (fun s8 wr => ∃ k : Nat, k ≤ n ∧ s8 = .int .i64 k ∧ Hid (orI zs = orI (zs.drop k)) ∧ w = wr) (fun s8 _ => n - (intOf s8).toNat)
  case atStart => exact ⟨0, Nat.zero_le _, rfl, hid rfl, rfl⟩
  case round =>
    obtain ⟨k, hk, rfl, HO, rfl⟩ := hrel
    by_cases hlt : k < n
    · obtain ⟨b, o, rfl, _, hc⟩ := hsl.here (by omega)
      have c0 := hc k hlt
      have hki : (k : Int) < (n : Int) := by omega
      obtain ⟨z, hz⟩ : ∃ z, zs.getD k 0 = z := ⟨_, rfl⟩
      by_cases h0 : z = 0
      · have HN : Hid (orI zs = orI (zs.drop (k + 1))) := hid (by rw [HO.out]; exact orI_zero (by rw [hz]; exact h0))
        rw [hz, h0] at c0
        clear hc hsl HO hz h0
        go_wp2
        go_roundw
        case rel => exact ⟨k + 1, by omega, by go_num, HN, trivial⟩
        case measure => simp [intOf]; omega
      · have HN : Hid (orI zs = z) := hid (by rw [HO.out, orI_not (by omega) (by rw [hz]; exact h0), hz])
        rw [hz] at c0
        have h1 : (z != 0) = true := by simpa using h0
        clear hc hsl HO hz h0
        go_wp2
        go_ret
        exact ⟨by rw [HN.out]; rfl, rfl⟩
    · have HN : Hid (orI zs = 0) := hid (by rw [HO.out]; exact orI_end (by omega))
      obtain rfl : k = n := by omega
      clear hsl HO
      go_wp2
      go_ret
      exact ⟨by rw [HN.out]; rfl, rfl⟩
theorem or_btr (a b : Spn) : decide (orI [cmpI a.sz b.sz, cmpI a.pos b.pos] < 0) = btrB a b := by
  unfold btrB BtrP
  congr 1
  simp only [orI]
  by_cases h1 : a.sz < b.sz
  · rw [cmpI_less h1, if_neg (by omega)]; simp; omega
  · by_cases h2 : a.sz = b.sz
    · rw [cmpI_same h2, if_pos rfl]
      by_cases h3 : a.pos < b.pos
      · rw [cmpI_less h3, if_neg (by omega)]; simp; omega
      · by_cases h4 : a.pos = b.pos
        · rw [cmpI_same h4, if_pos rfl]; simp; omega
        · rw [cmpI_more h3 h4, if_neg (by omega)]; simp; omega
    · rw [cmpI_more h1 h2, if_neg (by omega)]; simp; omega
/-- Two numbers in a new block. -/
theorem sl_two (w : World) (k : Nat) (x y : Int) (hk : w.heap.size = k) : Sl .i64 (w.alloc (.cells #[.int .i64 x, .int .i64 y] 3)) (some ⟨k, 0, none⟩) 2 2 [x, y] := by
  subst hk
  refine ⟨rfl, Nat.le_refl _, (by intro h; cases h), fun _ => ⟨w.heap.size, 0, rfl, by simp, fun i hi => ?_⟩⟩
  rw [Nat.zero_add, cell_of_row _ w.heap.size i _ 3 (0, 0) (heap_alloc_new w _)]
  match i, hi with
  | 0, _ => rfl
  | 1, _ => rfl
end Go.Proofs.YtpbljjbhfhfmgaaGreatDoor
/- gaps.Best by its contract. -/
namespace Go.Proofs.YtpbljjbhfhfmgaaGreatDoor
set_option maxRecDepth 100000
open Go.RowKit
set_option linter.unusedVariables false
set_option linter.unusedSimpArgs false
set_option maxRecDepth 100000

/-- The two blocks with which Best begins: what is answered, the best one yet. -/
def bsW (w : World) : World := (w.alloc (Spn.obj Spn.z)).alloc (Spn.obj Spn.z)
theorem bsW_below (w : World) : Below w.heap.size w (bsW w) := ((Below.refl _ w).alloc (Nat.le_refl _) _).alloc (by simp) _
theorem bsW_r (w : World) : BxP (bsW w) w.heap.size Spn.z := (bxP_new w Spn.z).kept ((Below.refl _ _).alloc (Nat.le_refl _) _)
theorem bsW_b (w : World) : BxP (bsW w) (w.heap.size + 1) Spn.z := by
  have e := bxP_new (w.alloc (Spn.obj Spn.z)) Spn.z
  rwa [show (w.alloc (Spn.obj Spn.z)).heap.size = w.heap.size + 1 by simp] at e
/-- A span stored into one of two blocks: the other one stays. -/
theorem BxP.other {w : World} {b c : Nat} {s : Spn} {u v : Value} (h : BxP w b s) (hn : b ≠ c) : BxP ((w.setCell ⟨c, 0, none⟩ u).setCell ⟨c, 1, none⟩ v) b s :=
  h.off (F := fun j => j = c) (Off.setCell (F := fun j => j = c) (Off.setCell (F := fun j => j = c) (Off.refl _ _) ⟨c, 0, none⟩ u rfl) ⟨c, 1, none⟩ v rfl) hn
end Go.Proofs.YtpbljjbhfhfmgaaGreatDoor
/- gaps.goOver with the closure of Gaps; gaps.Gaps by its contract. -/
namespace Go.Proofs.YtpbljjbhfhfmgaaGreatDoor
set_option maxRecDepth 100000
open Go.RowKit
set_option linter.unusedVariables false
set_option linter.unusedSimpArgs false
set_option maxRecDepth 100000

/-- A variable of spans that a closure has caught. -/
def Slc (w : World) (b : Nat) (ao : Option Addr) (n cap : Nat) : Prop := w.heap[b]? = some (.cells #[.slice ao n cap] 81 (0, 0))
theorem Slc.lt {w : World} {b : Nat} {ao : Option Addr} {n cap : Nat} (h : Slc w b ao n cap) : b < w.heap.size := (Array.getElem?_eq_some_iff.1 h).1
theorem Slc.kept {w w' : World} {b : Nat} {ao : Option Addr} {n cap : Nat} (h : Slc w b ao n cap) (hb : Below w.heap.size w w') : Slc w' b ao n cap := (hb.block b h.lt).trans h
theorem Slc.off {F : Nat → Prop} {w w' : World} {b : Nat} {ao : Option Addr} {n cap : Nat} (h : Slc w b ao n cap) (ho : Off F w w') (hn : ¬ F b) : Slc w' b ao n cap := (ho.block b h.lt hn).trans h
theorem Slc.cell {w : World} {b : Nat} {ao : Option Addr} {n cap : Nat} (h : Slc w b ao n cap) : w.cell? ⟨b, 0, none⟩ = some (.slice ao n cap) ∧ w.frozen? ⟨b, 0, none⟩ = false := by
  refine ⟨?_, frozen_of_row w b 0 _ 81 h⟩
  rw [cell_of_row w b 0 _ 81 (0, 0) h]; rfl
theorem Slc.set {w : World} {b : Nat} {ao : Option Addr} {n cap : Nat} (h : Slc w b ao n cap) (bo : Option Addr) (m c : Nat) : Slc (w.setCell ⟨b, 0, none⟩ (.slice bo m c)) b bo m c := by
  unfold Slc
  rw [heap_setCell_same w b 0 _ 81 _ h]; rfl
theorem slc_new (w : World) (ao : Option Addr) (n cap : Nat) : Slc (w.alloc (.cells #[.slice ao n cap] 81)) w.heap.size ao n cap := heap_alloc_new w _
/-- '[]api.Span{s}'. -/
theorem ps_one (w : World) (k : Nat) (s : Spn) (hk : w.heap.size = k) (hs : RgP s) : Ps (w.alloc (.cells #[.int .i64 s.pos, .int .i64 s.sz] 104)) (some ⟨k, 0, none⟩) 1 1 [s] := by
  refine ⟨rfl, Nat.le_refl _, (by intro h; cases h), fun _ => ⟨k, 0, rfl, by simp; omega, fun i hi => ?_⟩, fun x hx => by rw [List.mem_singleton] at hx; rw [hx]; exact hs⟩
  obtain rfl : i = 0 := by omega
  subst hk
  exact (bxP_new w s).p2
/-- The block of a row. -/
def RowF (gb : Nat) (bo : Option Addr) (j : Nat) : Prop := j = gb ∨ ∃ a, bo = some a ∧ a.block = j
/-- What one visit finds. -/
def viL (s : Spn) : List Spn := if 0 < s.sz then [s] else []
theorem vi_t {s : Spn} (h : 0 < s.sz) : viL s = [s] := if_pos h
theorem vi_f {s : Spn} (h : ¬ 0 < s.sz) : viL s = [] := if_neg h
theorem gap1_vi (a b : Int) : viL ⟨a, b - a⟩ = gap1 a b := by
  by_cases h : a < b
  · rw [gap1_t h, vi_t (by simp only; omega)]
  · rw [gap1_f h, vi_f (by simp only; omega)]
theorem rowF_row {gb B : Nat} {bo : Option Addr} {m c : Nat} {g : List Spn} {w : World} (ho : OwP B w bo m c g) {j : Nat} (h1 : j ≠ gb) (h2 : j < B ∨ w.heap.size ≤ j) : ¬ RowF gb bo j := by
  rintro (h | ⟨a, e, h⟩)
  · exact h1 h
  · have := ho.row.lt j (by rw [e]; simp [Value.ownBlock, h])
    omega
/-- A span stored into a block of the call's own. -/
theorem two_set (b : Nat) (w3 : World) (u v : Value) : Off (fun j => j = b) w3 ((w3.setCell ⟨b, 0, none⟩ u).setCell ⟨b, 1, none⟩ v) :=
  Off.setCell (F := fun j => j = b) (Off.setCell (F := fun j => j = b) (Off.refl _ _) ⟨b, 0, none⟩ u rfl) ⟨b, 1, none⟩ v rfl
theorem two_slc {w w3 : World} {gb : Nat} {bo : Option Addr} {m c : Nat} {u v : Value} (h : Slc w3 gb bo m c) (hn : gb ≠ w.heap.size) : Slc ((w3.setCell ⟨w.heap.size, 0, none⟩ u).setCell ⟨w.heap.size, 1, none⟩ v) gb bo m c :=
  h.off (F := fun j => j = w.heap.size) (two_set _ _ _ _) hn
theorem two_own {w w3 : World} {bo : Option Addr} {m c : Nat} {g : List Spn} {u v : Value} (h : OwP (w.heap.size + 1) w3 bo m c g) : OwP (w.heap.size + 1) ((w3.setCell ⟨w.heap.size, 0, none⟩ u).setCell ⟨w.heap.size, 1, none⟩ v) bo m c g :=
  h.off (F := fun j => j = w.heap.size) (two_set _ _ _ _) (fun a ha e => by
    have := (h.row.lt a.block (by rw [ha]; rfl)).1
    omega)
theorem two_off {F : Nat → Prop} {w w3 : World} {u v : Value} (h : Off F w w3) : Off F w ((w3.setCell ⟨w.heap.size, 0, none⟩ u).setCell ⟨w.heap.size, 1, none⟩ v) :=
  h.trans (F' := fun j => j = w.heap.size) (two_set _ _ _ _) (fun j hj => Or.inr (by omega))
end Go.Proofs.YtpbljjbhfhfmgaaGreatDoor
/- joistref10.Right, Gaps, Behind by their contracts. -/
namespace Go.Proofs.YtpbljjbhfhfmgaaGreatDoor
set_option maxRecDepth 100000
open Go.RowKit
set_option linter.unusedVariables false
set_option linter.unusedSimpArgs false
set_option maxRecDepth 100000

/-- Where a block does not fit first, as the document asks. -/
theorem fit_not {f t : Int} {s : Spn} (h : ¬ FitP f t s) : s.pos < f ∨ (¬ s.pos < f ∧ t < s.pos) ∨ (¬ s.pos < f ∧ ¬ t < s.pos ∧ s.sz < 4) ∨ (¬ s.pos < f ∧ ¬ t < s.pos ∧ ¬ s.sz < 4 ∧ t - s.pos < s.sz) ∨ (¬ s.pos < f ∧ ¬ t < s.pos ∧ ¬ s.sz < 4 ∧ ¬ t - s.pos < s.sz ∧ (s.pos % 4 != 0) = true) ∨ (¬ s.pos < f ∧ ¬ t < s.pos ∧ ¬ s.sz < 4 ∧ ¬ t - s.pos < s.sz ∧ (s.pos % 4 != 0) = false ∧ (s.sz % 4 != 0) = true) := by
  unfold FitP at h
  by_cases a : s.pos < f
  · exact .inl a
  · by_cases b : t < s.pos
    · exact .inr (.inl ⟨a, b⟩)
    · by_cases c : s.sz < 4
      · exact .inr (.inr (.inl ⟨a, b, c⟩))
      · by_cases d : t - s.pos < s.sz
        · exact .inr (.inr (.inr (.inl ⟨a, b, c, d⟩)))
        · by_cases e : s.pos % 4 = 0
          · exact .inr (.inr (.inr (.inr (.inr ⟨a, b, c, d, by simpa using e, by simp; omega⟩))))
          · exact .inr (.inr (.inr (.inr (.inl ⟨a, b, c, d, by simpa using e⟩))))
theorem FitP.all {f t : Int} {s : Spn} (h : FitP f t s) : ¬ s.pos < f ∧ ¬ t < s.pos ∧ ¬ s.sz < 4 ∧ ¬ t - s.pos < s.sz ∧ (s.pos % 4 != 0) = false ∧ (s.sz % 4 != 0) = false := by
  obtain ⟨a, b, c, d, e⟩ := h
  exact ⟨by omega, by omega, by omega, by omega, by simpa using b, by simpa using e⟩
set_option maxHeartbeats 1000000 in
theorem rrightP_ps (f t : Int) (ao : Option Addr) (n cap : Nat) (l : List Spn) (w : World) (h : Ps w ao n cap l) (hn : n ≤ 9223372036854775807) :
    Calls Tryz.prog 52 #[.int .i64 f, .int .i64 t, .slice ao n cap] w fun e w' => e = .returned (.bool (rightPB f t l)) ∧ Below w.heap.size w w' := by
  have hl := h.len
  by_cases he : EndP f t
  · obtain ⟨u0, u1, u2, u3, u4⟩ := he.all
    have HR : Hid (∀ b, (LayP f t l ↔ b = true) → rightPB f t l = b) := fun b hb => by
      cases b with
      | true => exact rightPB_t ⟨he, hb.2 rfl⟩
      | false => exact rightPB_f fun h => by have := hb.1 h.2; cases this
    have ht : 0 ≤ t := by unfold EndP at he; omega
    have ht2 : t ≤ 2048 := by omega
    have hf0 : 0 ≤ f := by omega
    clear he
    go_enter Tryz.func52, Tryz.ntmps52
    go_wp2
    clear u0 u1 u2 u3 u4
    go_loopw [7, 8] (fun s7 s8 wr => ∃ (k : Nat) (g : Int), k ≤ n ∧ s7 = .int .i64 g ∧ s8 = .int .i64 k ∧ 0 ≤ g ∧ Hid (LayP f t l ↔ LayP g t (l.drop k)) ∧ Below w.heap.size w wr) (fun _ s8 _ => n - (intOf s8).toNat)
    case atStart => exact ⟨0, f, Nat.zero_le _, rfl, rfl, hf0, hid Iff.rfl, Below.refl _ _⟩
    case round =>
      obtain ⟨k, g, hk, rfl, rfl, hg, HL, hb⟩ := hrel
      by_cases hlt : k < n
      · obtain ⟨b, o, rfl, _, _⟩ := h.here (by omega)
        obtain ⟨c0, c1⟩ := h.at hb hlt
        have hrg := h.rgs hlt
        have hki : (k : Int) < (n : Int) := by omega
        have HD := hid (lay_drop (f := g) (t := t) (l := l) (k := k) (by omega))
        generalize pa l k = s at *
        by_cases hfit : FitP g t s
        · have HN : Hid (LayP f t l ↔ LayP s.fin t (l.drop (k + 1))) := hid (by rw [HL.out, HD.out]; exact ⟨fun h => h.2, fun h => ⟨hfit, h⟩⟩)
          obtain ⟨v0, v1, v2, v3, v4, v5⟩ := hfit.all
          obtain ⟨p, z⟩ := s
          simp only at c0 c1 v0 v1 v2 v3 v4 v5
          have w1 : IntKind.i64.wrap (t - p) = t - p := IntWalk.i64_in _ ⟨by omega, by omega⟩
          have w2 : IntKind.i64.wrap (p + z) = p + z := IntWalk.i64_in _ ⟨by omega, by omega⟩
          have hq : 0 ≤ p + z := by omega
          clear hfit HL HD h hrg
          go_wp2
          go_roundw
          case rel => exact ⟨k + 1, p + z, by omega, rfl, by go_num, hq, HN, hb.alloc hb.size _⟩
          case measure => simp [intOf]; omega
        · have HF : Hid (rightPB f t l = false) := hid (HR.out false (by rw [HL.out, HD.out]; exact ⟨fun h => absurd h.1 hfit, fun h => by cases h⟩))
          have hd := fit_not hfit
          obtain ⟨⟨g0, g1⟩, ⟨g2, g3⟩⟩ := hrg
          obtain ⟨p, z⟩ := s
          simp only at c0 c1 hd g0 g1 g2 g3
          clear hfit HL HD h
          have w1 : ¬ p < g → IntKind.i64.wrap (t - p) = t - p := fun h => IntWalk.i64_in _ ⟨by omega, by omega⟩
          rcases hd with d1 | ⟨d1, d2⟩ | ⟨d1, d2, d3⟩ | ⟨d1, d2, d3, d4⟩ | ⟨d1, d2, d3, d4, d5⟩ | ⟨d1, d2, d3, d4, d5, d6⟩
          all_goals
            first | (have w1' := w1 d1; clear w1) | clear w1
            go_wp2
            go_ret
            exact ⟨ret_bool HF.out.symm, hb.alloc hb.size _⟩
      · have HF : Hid (rightPB f t l = true) := hid (HR.out true (by rw [HL.out]; exact ⟨fun _ => rfl, fun _ => lay_end (by omega)⟩))
        obtain rfl : k = n := by omega
        go_wp2
        go_ret
        exact ⟨ret_bool HF.out.symm, hb⟩
  · have hf : rightPB f t l = false := rightPB_f fun h => he h.1
    rw [hf]
    clear h
    rcases end_not he with a | ⟨a, b⟩ | ⟨a, b, c⟩ | ⟨a, b, c, d⟩ | ⟨a, b, c, d, e⟩
    all_goals
      clear he
      go_enter Tryz.func52, Tryz.ntmps52
      go_wp2
      go_ret
      exact ⟨rfl, Below.refl _ _⟩
end Go.Proofs.YtpbljjbhfhfmgaaGreatDoor
/- joistref13.cell, span, taken by their contracts. -/
namespace Go.Proofs.YtpbljjbhfhfmgaaGreatDoor
set_option maxRecDepth 100000
open Go.RowKit
set_option linter.unusedVariables false
set_option linter.unusedSimpArgs false
set_option maxRecDepth 100000

theorem results_four {fn : Func} {t u v x : Tmp} (h : fn.results = #[.tmp t, .tmp u, .tmp v, .tmp x]) (tmps : Array Value) (P : Program) (w : World) :
    (results fn tmps).run P w = .ok (.tuple #[tmps.getD t undef, tmps.getD u undef, tmps.getD v undef, tmps.getD x undef]) w := by
  simp [results, h]

/-- The four answers of 'cell'. -/
def SmA (o : Spn) : Prop := (1 ≤ o.sz ∧ o.sz ≤ 120) ∧ 0 ≤ o.pos
instance (o : Spn) : Decidable (SmA o) := by unfold SmA; exact inferInstance
def cpN (o : Spn) : Int := if SmA o then pgA o else 0
def ccN (o : Spn) : Int := if SmA o then (clN o.sz : Int) else 0
def ckN (o : Spn) : Int := if SmA o then whN (clN o.sz) (o.pos % 32) else 0
def smPB (o : Spn) : Bool := decide (SmC o)
theorem sm_t {o : Spn} (h : SmC o) : cpN o = pgA o ∧ ccN o = clN o.sz ∧ smPB o = true := ⟨if_pos ⟨h.1, h.2.1⟩, if_pos ⟨h.1, h.2.1⟩, decide_eq_true h⟩
theorem sm_f {o : Spn} (h : ¬ SmC o) : smPB o = false := decide_eq_false h
theorem cell_no {o : Spn} (h : ¬ SmA o) : cpN o = 0 ∧ ccN o = 0 ∧ ckN o = 0 ∧ smPB o = false := ⟨if_neg h, if_neg h, if_neg h, decide_eq_false fun c => h ⟨c.1, c.2.1⟩⟩
theorem cell_yes {o : Spn} (h : SmA o) : cpN o = o.pos / 32 ∧ ccN o = clN o.sz ∧ ckN o = whN (clN o.sz) (o.pos % 32) ∧ smPB o = whB (clN o.sz) (o.pos % 32) := by
  refine ⟨if_pos h, if_pos h, if_pos h, ?_⟩
  unfold smPB whB
  exact decide_eq_decide.2 ⟨fun c => c.2.2, fun c => ⟨h.1, h.2, c⟩⟩

theorem rcellO_any (o : Spn) (w : World) (hr : RgP o) :
    Calls Tryz.prog 85 #[.agg #[.int .i64 o.pos, .int .i64 o.sz]] w fun e w' => e = .returned (.tuple #[.int .i64 (cpN o), .int .i64 (ccN o), .int .i64 (ckN o), .bool (smPB o)]) ∧ Below w.heap.size w w' := by
  have X1 := bxJ_new w o
  have hb1 : Below w.heap.size w (w.alloc o.ob) := (Below.refl _ w).alloc (Nat.le_refl _) _
  have cO := rof_any o.sz (w.alloc o.ob)
  obtain ⟨x0, x1, _, _⟩ := X1.cells
  by_cases hs : 1 ≤ o.sz ∧ o.sz ≤ 120
  · rw [cl_b hs] at cO
    by_cases hp : 0 ≤ o.pos
    · obtain ⟨e1, e2, e3, e4⟩ := cell_yes (o := o) ⟨hs, hp⟩
      rw [e1, e2, e3, e4]
      have cW := fun w' => rwhich_any (clN o.sz) (o.pos % 32) w'
      have y1 : Int.tmod o.pos 32 = o.pos % 32 := Int.tmod_eq_emod_of_nonneg hp
      have y2 : Int.tdiv o.pos 32 = o.pos / 32 := Int.tdiv_eq_ediv_of_nonneg hp
      have y3 : IntKind.i64.wrap (o.pos / 32) = o.pos / 32 := by
        obtain ⟨⟨g0, g1⟩, _⟩ := hr
        exact IntWalk.i64_in _ ⟨by omega, by omega⟩
      clear e1 e2 e3 e4
      generalize whN (clN o.sz) (o.pos % 32) = k at *
      generalize whB (clN o.sz) (o.pos % 32) = t at *
      generalize (clN o.sz : Int) = c at *
      have hp' : ¬ o.pos < 0 := by omega
      obtain ⟨p, z⟩ := o
      simp only [Spn.ob] at *
      clear hs
      go_enter Tryz.func85, Tryz.ntmps85
      go_wp2_with (first
        | (go_at_call 108; with_reducible refine cO.mono ?_; rintro e w2 ⟨rfl, hb2⟩; have X2 := X1.kept hb2; obtain ⟨z0, z1, _, _⟩ := X2.cells)
        | (go_at_call 109; with_reducible refine (cW _).mono ?_; rintro e w3 ⟨rfl, hb3⟩; have X3 := X2.kept hb3; obtain ⟨u0, u1, _, _⟩ := X3.cells))
      try simp only [Exit.inBlock, Exit.then]
      refine bodyPost_ret (results_four rfl _ _ _) rfl ?_
      exact ⟨rfl, next (next hb1 hb2) hb3⟩
    · obtain ⟨e1, e2, e3, e4⟩ := cell_no (o := o) (fun h => hp h.2)
      rw [e1, e2, e3, e4]
      clear e1 e2 e3 e4 hs
      generalize (clN o.sz : Int) = c at *
      obtain ⟨p, z⟩ := o
      simp only [Spn.ob] at *
      go_enter Tryz.func85, Tryz.ntmps85
      go_wp2_with (go_at_call 108; with_reducible refine cO.mono ?_; rintro e w2 ⟨rfl, hb2⟩; have X2 := X1.kept hb2; obtain ⟨z0, z1, _, _⟩ := X2.cells)
      try simp only [Exit.inBlock, Exit.then]
      refine bodyPost_ret (results_four rfl _ _ _) rfl ?_
      exact ⟨rfl, next hb1 hb2⟩
  · obtain ⟨e1, e2, e3, e4⟩ := cell_no (o := o) (fun h => hs h.1)
    rw [e1, e2, e3, e4]
    rw [(cl_f hs).1, (cl_f hs).2] at cO
    clear e1 e2 e3 e4 hs
    obtain ⟨p, z⟩ := o
    simp only [Spn.ob] at *
    go_enter Tryz.func85, Tryz.ntmps85
    go_wp2_with (go_at_call 108; with_reducible refine cO.mono ?_; rintro e w2 ⟨rfl, hb2⟩; have X2 := X1.kept hb2; obtain ⟨z0, z1, _, _⟩ := X2.cells)
    try simp only [Exit.inBlock, Exit.then]
    refine bodyPost_ret (results_four rfl _ _ _) rfl ?_
    exact ⟨rfl, next hb1 hb2⟩

/-- The answers of 'span'. -/
def LgA (o : Spn) : Prop := (120 < o.sz ∧ o.sz ≤ 2048) ∧ 0 ≤ o.pos ∧ o.pos % 32 = 0
instance (o : Spn) : Decidable (LgA o) := by unfold LgA; exact inferInstance
def spO (o : Spn) : Spn := if SmC o then ⟨o.pos / 32, 1⟩ else if LgA o then ⟨o.pos / 32, pgN o.sz⟩ else ⟨0, 0⟩
def inPB (P : Int) (o : Spn) : Bool := decide (InC P o)
theorem inB_t {P : Int} {o : Spn} (h : InC P o) : inPB P o = true := decide_eq_true h
theorem inB_f {P : Int} {o : Spn} (h : ¬ InC P o) : inPB P o = false := decide_eq_false h
theorem spO_in {P : Int} {o : Spn} (h : InC P o) : spO o = ⟨pgA o, pgK o⟩ := by
  by_cases hs : o.sz ≤ 120
  · unfold spO
    rw [if_pos (h.small hs).1, pgK_small hs]
    rfl
  · obtain ⟨l1, l2, l3, l4⟩ := h.large hs
    unfold spO
    rw [if_neg (fun c : SmC o => hs c.1.2), if_pos ⟨l1, l2, l3⟩, pgK_large hs]
    rfl
theorem sp_small {P : Int} {o : Spn} (h : SmC o) : spO o = ⟨o.pos / 32, 1⟩ ∧ inPB P o = decide (o.pos / 32 < P) := by
  refine ⟨if_pos h, ?_⟩
  unfold inPB
  refine decide_eq_decide.2 ⟨fun c => ?_, fun c => Or.inl ⟨h, c⟩⟩
  exact (c.small h.1.2).2
theorem sp_large {P : Int} {o : Spn} (h : LgA o) : spO o = ⟨o.pos / 32, pgN o.sz⟩ ∧ inPB P o = decide (o.pos / 32 + pgN o.sz ≤ P) := by
  have hn : ¬ SmC o := fun c => by have := c.1.2; have := h.1.1; omega
  refine ⟨by unfold spO; rw [if_neg hn, if_pos h], ?_⟩
  unfold inPB
  refine decide_eq_decide.2 ⟨fun c => ?_, fun c => Or.inr ⟨h.1, h.2.1, h.2.2, c⟩⟩
  rcases c with ⟨c, _⟩ | c
  · exact (hn c).elim
  · exact c.2.2.2
theorem sp_not {P : Int} {o : Spn} (h : ¬ SmC o) (h2 : ¬ LgA o) : spO o = ⟨0, 0⟩ ∧ inPB P o = false := by
  refine ⟨by unfold spO; rw [if_neg h, if_neg h2], inB_f fun c => ?_⟩
  rcases c with ⟨c, _⟩ | c
  · exact h c
  · exact h2 ⟨c.1, c.2.1, c.2.2.1⟩

theorem late_new (w1 : World) (b : Nat) (q K : Int) :
    (((w1.setCell ⟨b, 0, none⟩ (.int .i64 q)).setCell ⟨b, 1, none⟩ (.int .i64 K)).alloc (.cells #[.int .i64 q, .int .i64 K] 104)).drew.cell? ⟨w1.heap.size, 0, none⟩ = some (.int .i64 q) ∧
    (((w1.setCell ⟨b, 0, none⟩ (.int .i64 q)).setCell ⟨b, 1, none⟩ (.int .i64 K)).alloc (.cells #[.int .i64 q, .int .i64 K] 104)).drew.cell? ⟨w1.heap.size, 1, none⟩ = some (.int .i64 K) := by
  have h := (bxP_new' ((w1.setCell ⟨b, 0, none⟩ (.int .i64 q)).setCell ⟨b, 1, none⟩ (.int .i64 K)) q K).kept (Below.refl _ _).drew
  rw [show ((w1.setCell ⟨b, 0, none⟩ (.int .i64 q)).setCell ⟨b, 1, none⟩ (.int .i64 K)).heap.size = w1.heap.size by simp [World.setCell]] at h
  exact ⟨h.cells.1, h.cells.2.1⟩
theorem late_box {w1 : World} {b : Nat} {s : Spn} (h : BxP w1 b s) (q K : Int) :
    BxP (((w1.setCell ⟨b, 0, none⟩ (.int .i64 q)).setCell ⟨b, 1, none⟩ (.int .i64 K)).alloc (.cells #[.int .i64 q, .int .i64 K] 104)).drew b ⟨q, K⟩ :=
  (h.set ⟨q, K⟩).kept (((Below.refl _ _).alloc (Nat.le_refl _) _).drew)
theorem late_below {w w1 : World} {b : Nat} (h : Below w.heap.size w w1) (hb : w.heap.size ≤ b) (u v : Value) (o : Obj) :
    Below w.heap.size w (((w1.setCell ⟨b, 0, none⟩ u).setCell ⟨b, 1, none⟩ v).alloc o).drew :=
  (((h.setCell hb _).setCell hb _).alloc (by simpa [World.setCell] using h.size) _).drew

set_option maxHeartbeats 1000000 in
theorem rspan_any (P : Int) (o : Spn) (w : World) (hr : RgP o) (hP : P ≤ 9223372036854775807) :
    Calls Tryz.prog 84 #[.int .i64 P, .agg #[.int .i64 o.pos, .int .i64 o.sz]] w fun e w' => e = .returned (.tuple #[.agg #[.int .i64 (spO o).pos, .int .i64 (spO o).sz], .bool (inPB P o)]) ∧ Below w.heap.size w w' := by
  have hbA : Below w.heap.size w (w.alloc o.ob) := (Below.refl _ w).alloc (Nat.le_refl _) _
  have hbB : Below (w.alloc o.ob).heap.size (w.alloc o.ob) ((w.alloc o.ob).alloc (.cells #[.int .i64 0, .int .i64 0] 104)) := (Below.refl _ _).alloc (Nat.le_refl _) _
  have XA := (bxJ_new w o).kept hbB
  have XB := bxP_new' (w.alloc o.ob) 0 0
  have hb0 := next hbA hbB
  rw [show (w.alloc o.ob).heap.size = w.heap.size + 1 by simp] at XB
  have cC := rcellO_any o ((w.alloc o.ob).alloc (.cells #[.int .i64 0, .int .i64 0] 104)) hr
  obtain ⟨a0, a1, _, _⟩ := XA.cells
  clear hbA hbB
  by_cases hs : SmC o
  · obtain ⟨e1, e2⟩ := sp_small (P := P) hs
    rw [e1, e2]
    obtain ⟨f1, f2, f3⟩ := sm_t hs
    rw [f1, f2, f3] at cC
    rw [show pgA o = o.pos / 32 from rfl] at cC
    clear e1 e2 f1 f2 f3 hs hr
    generalize ckN o = kk at *
    generalize (clN o.sz : Int) = cc at *
    generalize o.pos / 32 = pg at *
    simp only [Spn.ob] at *
    go_enter Tryz.func84, Tryz.ntmps84
    go_wp2_with (go_at_call 85; with_reducible refine cC.mono ?_; rintro e w1 ⟨rfl, hb1⟩; have XB1 := XB.kept hb1; obtain ⟨r0, r1, r2, r3⟩ := XB1.cells; have hb2 := next hb0 hb1)
    obtain ⟨t0, t1, _, _⟩ := (XB1.set ⟨pg, 1⟩).cells
    simp only at t0 t1
    refine bodyPost_ret (v := .tuple #[.agg #[.int .i64 pg, .int .i64 1], .bool (decide (pg < P))]) (by simp [results, Tryz.results84, go_sem, t0, t1]) rfl ⟨rfl, ?_⟩
    exact (hb2.setCell (by simp) _).setCell (by simp) _
  · rw [sm_f hs] at cC
    generalize cpN o = pp at *
    generalize ccN o = cc at *
    generalize ckN o = kk at *
    have cP := fun w' => rpages_any o.sz w'
    by_cases hl : LgA o
    · obtain ⟨e1, e2⟩ := sp_large (P := P) hl
      rw [e1, e2]
      obtain ⟨l1, l2, l3⟩ := hl
      obtain ⟨g1, g2⟩ := pgN_in l1
      rw [(pg_t l1).2] at cP
      have y1 : Int.tmod o.pos 32 = o.pos % 32 := Int.tmod_eq_emod_of_nonneg l2
      have y2 : Int.tdiv o.pos 32 = o.pos / 32 := Int.tdiv_eq_ediv_of_nonneg l2
      have y3 : IntKind.i64.wrap (o.pos / 32) = o.pos / 32 := by
        obtain ⟨⟨g0, g1⟩, _⟩ := hr
        exact IntWalk.i64_in _ ⟨by omega, by omega⟩
      have y4 : (o.pos % 32 != 0) = false := by simpa using l3
      have hp0 : ¬ o.pos < 0 := by omega
      have q0 : 0 ≤ o.pos / 32 := by omega
      clear e1 e2 hs hr l1 l3
      generalize pgN o.sz = K at *
      obtain ⟨p, z⟩ := o
      simp only [Spn.ob] at *
      obtain ⟨q, hq⟩ : ∃ q, p / 32 = q := ⟨_, rfl⟩
      rw [hq] at y2 y3 q0 ⊢
      clear hq
      by_cases h1 : q ≤ P
      · have y5 : IntKind.i64.wrap (P - q) = P - q := IntWalk.i64_in _ ⟨by omega, by omega⟩
        by_cases h2 : K ≤ P - q
        · rw [decide_eq_true (show q + K ≤ P by omega)]
          go_enter Tryz.func84, Tryz.ntmps84
          go_wp2_with (first
            | (go_at_call 85; with_reducible refine cC.mono ?_; rintro e w1 ⟨rfl, hb1⟩; have XB1 := XB.kept hb1; obtain ⟨r0, r1, r2, r3⟩ := XB1.cells; have hb2 := next hb0 hb1; have XA1 := XA.kept hb1; obtain ⟨b0, b1, _, _⟩ := XA1.cells)
            | (go_at_call 107; with_reducible refine (cP _).mono ?_; rintro e w' ⟨rfl, rfl⟩))
          have hlt3 : w.heap.size + 1 < w1.heap.size := World.block_lt_of_cell? w1 _ r0
          have hne : w.heap.size + 1 ≠ w1.heap.size := by omega
          obtain ⟨v0, v1⟩ := late_new w1 (w.heap.size + 1) q K
          go_region_held3 (fun w' => w'.cell? ⟨w1.heap.size, 0, none⟩ = some (.int .i64 q) ∧ w'.cell? ⟨w1.heap.size, 1, none⟩ = some (.int .i64 K)) (go_keep) (fail)
          go_wp2
          obtain ⟨t0, t1, _, _⟩ := (late_box XB1 q K).cells
          simp only at t0 t1
          refine bodyPost_ret (v := .tuple #[.agg #[.int .i64 q, .int .i64 K], .bool true]) (by simp [results, Tryz.results84, go_sem, t0, t1]) rfl ⟨rfl, ?_⟩
          exact late_below hb2 (by omega) _ _ _
        · rw [decide_eq_false (show ¬ q + K ≤ P by omega)]
          have h2' : P - q < K := by omega
          have hd2 : decide (K ≤ P - q) = false := decide_eq_false h2
          go_enter Tryz.func84, Tryz.ntmps84
          go_wp2_with (first
            | (go_at_call 85; with_reducible refine cC.mono ?_; rintro e w1 ⟨rfl, hb1⟩; have XB1 := XB.kept hb1; obtain ⟨r0, r1, r2, r3⟩ := XB1.cells; have hb2 := next hb0 hb1; have XA1 := XA.kept hb1; obtain ⟨b0, b1, _, _⟩ := XA1.cells)
            | (go_at_call 107; with_reducible refine (cP _).mono ?_; rintro e w' ⟨rfl, rfl⟩))
          have hlt3 : w.heap.size + 1 < w1.heap.size := World.block_lt_of_cell? w1 _ r0
          have hne : w.heap.size + 1 ≠ w1.heap.size := by omega
          obtain ⟨v0, v1⟩ := late_new w1 (w.heap.size + 1) q K
          go_region_held3 (fun w' => w'.cell? ⟨w1.heap.size, 0, none⟩ = some (.int .i64 q) ∧ w'.cell? ⟨w1.heap.size, 1, none⟩ = some (.int .i64 K)) (go_keep) (fail)
          go_wp2
          obtain ⟨t0, t1, _, _⟩ := (late_box XB1 q K).cells
          simp only at t0 t1
          refine bodyPost_ret (v := .tuple #[.agg #[.int .i64 q, .int .i64 K], .bool false]) (by simp [results, Tryz.results84, go_sem, t0, t1]; try omega) rfl ⟨rfl, ?_⟩
          exact late_below hb2 (by omega) _ _ _
      · rw [decide_eq_false (show ¬ q + K ≤ P by omega)]
        go_enter Tryz.func84, Tryz.ntmps84
        go_wp2_with (first
          | (go_at_call 85; with_reducible refine cC.mono ?_; rintro e w1 ⟨rfl, hb1⟩; have XB1 := XB.kept hb1; obtain ⟨r0, r1, r2, r3⟩ := XB1.cells; have hb2 := next hb0 hb1; have XA1 := XA.kept hb1; obtain ⟨b0, b1, _, _⟩ := XA1.cells)
          | (go_at_call 107; with_reducible refine (cP _).mono ?_; rintro e w' ⟨rfl, rfl⟩))
        have hlt3 : w.heap.size + 1 < w1.heap.size := World.block_lt_of_cell? w1 _ r0
        have hne : w.heap.size + 1 ≠ w1.heap.size := by omega
        obtain ⟨v0, v1⟩ := late_new w1 (w.heap.size + 1) q K
        have hd0 : ¬ q ≤ P := by omega
        have hd1 : decide (q ≤ P) = false := decide_eq_false hd0
        go_region
        go_wp2
        obtain ⟨t0, t1, _, _⟩ := (late_box XB1 q K).cells
        simp only at t0 t1
        refine bodyPost_ret (v := .tuple #[.agg #[.int .i64 q, .int .i64 K], .bool false]) (by simp [results, Tryz.results84, go_sem, t0, t1]; try omega) rfl ⟨rfl, ?_⟩
        exact late_below hb2 (by omega) _ _ _
    · obtain ⟨e1, e2⟩ := sp_not (P := P) hs hl
      rw [e1, e2]
      clear e1 e2 hs hr
      have hd : (pgE o.sz = 1) ∨ (pgE o.sz = 0 ∧ o.pos < 0) ∨ (pgE o.sz = 0 ∧ ¬ o.pos < 0 ∧ Int.tmod o.pos 32 = o.pos % 32 ∧ (o.pos % 32 != 0) = true) := by
        unfold LgA at hl
        by_cases h1 : 120 < o.sz ∧ o.sz ≤ 2048
        · by_cases h2 : o.pos < 0
          · exact Or.inr (Or.inl ⟨(pg_t h1).2, h2⟩)
          · exact Or.inr (Or.inr ⟨(pg_t h1).2, h2, Int.tmod_eq_emod_of_nonneg (by omega), by simp; omega⟩)
        · exact Or.inl (pg_f h1).2
      clear hl
      generalize pgN o.sz = K at *
      generalize pgE o.sz = E at *
      obtain ⟨p, z⟩ := o
      simp only [Spn.ob] at *
      rcases hd with rfl | ⟨rfl, h1⟩ | ⟨rfl, h1, h2, h3⟩
      · go_enter Tryz.func84, Tryz.ntmps84
        go_wp2_with (first
          | (go_at_call 85; with_reducible refine cC.mono ?_; rintro e w1 ⟨rfl, hb1⟩; have XB1 := XB.kept hb1; obtain ⟨r0, r1, r2, r3⟩ := XB1.cells; have hb2 := next hb0 hb1; have XA1 := XA.kept hb1; obtain ⟨b0, b1, _, _⟩ := XA1.cells)
          | (go_at_call 107; with_reducible refine (cP _).mono ?_; rintro e w' ⟨rfl, rfl⟩))
        obtain ⟨t0, t1, _, _⟩ := (XB1.set ⟨0, 0⟩).cells
        simp only at t0 t1
        refine bodyPost_ret (v := .tuple #[.agg #[.int .i64 0, .int .i64 0], .bool false]) (by simp [results, Tryz.results84, go_sem, t0, t1]) rfl ⟨rfl, ?_⟩
        exact (hb2.setCell (by simp) _).setCell (by simp) _
      · go_enter Tryz.func84, Tryz.ntmps84
        go_wp2_with (first
          | (go_at_call 85; with_reducible refine cC.mono ?_; rintro e w1 ⟨rfl, hb1⟩; have XB1 := XB.kept hb1; obtain ⟨r0, r1, r2, r3⟩ := XB1.cells; have hb2 := next hb0 hb1; have XA1 := XA.kept hb1; obtain ⟨b0, b1, _, _⟩ := XA1.cells)
          | (go_at_call 107; with_reducible refine (cP _).mono ?_; rintro e w' ⟨rfl, rfl⟩))
        obtain ⟨t0, t1, _, _⟩ := (XB1.set ⟨0, 0⟩).cells
        simp only at t0 t1
        refine bodyPost_ret (v := .tuple #[.agg #[.int .i64 0, .int .i64 0], .bool false]) (by simp [results, Tryz.results84, go_sem, t0, t1]) rfl ⟨rfl, ?_⟩
        exact (hb2.setCell (by simp) _).setCell (by simp) _
      · go_enter Tryz.func84, Tryz.ntmps84
        go_wp2_with (first
          | (go_at_call 85; with_reducible refine cC.mono ?_; rintro e w1 ⟨rfl, hb1⟩; have XB1 := XB.kept hb1; obtain ⟨r0, r1, r2, r3⟩ := XB1.cells; have hb2 := next hb0 hb1; have XA1 := XA.kept hb1; obtain ⟨b0, b1, _, _⟩ := XA1.cells)
          | (go_at_call 107; with_reducible refine (cP _).mono ?_; rintro e w' ⟨rfl, rfl⟩))
        obtain ⟨t0, t1, _, _⟩ := (XB1.set ⟨0, 0⟩).cells
        simp only at t0 t1
        refine bodyPost_ret (v := .tuple #[.agg #[.int .i64 0, .int .i64 0], .bool false]) (by simp [results, Tryz.results84, go_sem, t0, t1]) rfl ⟨rfl, ?_⟩
        exact (hb2.setCell (by simp) _).setCell (by simp) _
end Go.Proofs.YtpbljjbhfhfmgaaGreatDoor
