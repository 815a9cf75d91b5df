/- table.lay and Bytes by their contracts. -/
import Derived.Test.YtijfiaggneeibaaTabF
import Derived.Test.YtijfiaggneeibaaOf
namespace Go.Proofs.Ytijfiaggneeibaa
set_option maxRecDepth 100000
open Go.RowKit
set_option linter.unusedVariables false
set_option linter.unusedSimpArgs false
set_option maxRecDepth 100000

theorem set_same (zs : List Int) (o : Nat) (x y : Int) : (zs.set o x).set o y = zs.set o y := by simp
theorem lay3_of {zs : List Int} {o : Nat} {s : Slt} {x : Int} (h : x = hdS s) : ((zs.set o x).set (o + 1) s.pos).set (o + 2) s.len = lay3 zs o s := by rw [h]; rfl
set_option maxHeartbeats 1000000 in
theorem tlay_any (B g off m : Nat) (zs : List Int) (s : Slt) (w : World) (ho : Own .i64 3 B w (some ⟨g, 0, none⟩) m m zs) (h : off + 4 ≤ m) (hm : m ≤ 1000) (hs : MayS s) :
    Calls Try.prog 41 #[.slice (some ⟨g, off, none⟩) (m - off) (m - off), .agg #[.int .i64 s.gen, .bool s.live, .bool s.two, .int .i64 s.pos, .int .i64 s.len]] w fun e w' => e = .returned (.tuple #[]) ∧ Own .i64 3 B w' (some ⟨g, 0, none⟩) m m (lay3 zs off s) ∧ Off (fun j => j = g) w w' := by
  have hg : g < w.heap.size := (ho.row.lt g rfl).2
  have hne : w.heap.size ≠ g := by omega
  have hne' : g ≠ w.heap.size := by omega
  have c0 := ho.at off (by omega) rfl
  have c1 := ho.at (off + 1) (by omega) rfl
  have c2 := ho.at (off + 2) (by omega) rfl
  have f0 := ho.row.frozenAt off
  have f1 := ho.row.frozenAt (off + 1)
  have f2 := ho.row.frozenAt (off + 2)
  have HO := hid ho
  have hgb := hs.1
  have l0 : (0 : Int) < ((m - off : Nat) : Int) := by omega
  have l1 : (1 : Int) < ((m - off : Nat) : Int) := by omega
  have l2 : (2 : Int) < ((m - off : Nat) : Int) := by omega
  generalize zs.getD off 0 = y0 at *
  generalize zs.getD (off + 1) 0 = y1 at *
  generalize zs.getD (off + 2) 0 = y2 at *
  generalize m - off = L at *
  obtain ⟨gn, lv, tw, p, ln⟩ := s
  simp only at *
  clear ho hs
  cases lv <;> cases tw
  all_goals
    go_enter Try.func41, Try.ntmps41
    go_wp2
  · go_end0
    have e : (((zs.set off (gn * 4)).set (off + 1) p).set (off + 2) ln) = lay3 zs off ⟨gn, false, false, p, ln⟩ := by exact lay3_of (s := ⟨gn, false, false, p, ln⟩) (x := gn * 4) (by simp [hdS]; omega)
    refine ⟨rfl, ?_, ?_⟩
    · rw [← e]
      exact (((HO.out.set off (gn * 4)).set (off + 1) p).set (off + 2) ln).below (Below.alloc (Below.refl _ _) (Nat.le_refl _) _)
    · exact ((((Off.refl (fun j => j = g) w).setCell ⟨g, off, none⟩ _ rfl).setCell ⟨g, off + 1, none⟩ _ rfl).setCell ⟨g, off + 2, none⟩ _ rfl).trans (Off.of_below (F := fun _ => False) (Below.alloc (Below.refl _ _) (Nat.le_refl _) _)) (fun _ h => h.elim)
  · go_end0
    have e : ((((zs.set off (gn * 4)).set off (gn * 4 + 1)).set (off + 1) p).set (off + 2) ln) = lay3 zs off ⟨gn, false, true, p, ln⟩ := by rw [set_same]; exact lay3_of (s := ⟨gn, false, true, p, ln⟩) (x := gn * 4 + 1) (by simp [hdS]; omega)
    refine ⟨rfl, ?_, ?_⟩
    · rw [← e]
      exact ((((HO.out.set off (gn * 4)).set off (gn * 4 + 1)).set (off + 1) p).set (off + 2) ln).below (Below.alloc (Below.refl _ _) (Nat.le_refl _) _)
    · exact (((((Off.refl (fun j => j = g) w).setCell ⟨g, off, none⟩ _ rfl).setCell ⟨g, off, none⟩ _ rfl).setCell ⟨g, off + 1, none⟩ _ rfl).setCell ⟨g, off + 2, none⟩ _ rfl).trans (Off.of_below (F := fun _ => False) (Below.alloc (Below.refl _ _) (Nat.le_refl _) _)) (fun _ h => h.elim)
  · go_end0
    have e : ((((zs.set off (gn * 4)).set off (gn * 4 + 2)).set (off + 1) p).set (off + 2) ln) = lay3 zs off ⟨gn, true, false, p, ln⟩ := by rw [set_same]; exact lay3_of (s := ⟨gn, true, false, p, ln⟩) (x := gn * 4 + 2) (by simp [hdS]; omega)
    refine ⟨rfl, ?_, ?_⟩
    · rw [← e]
      exact ((((HO.out.set off (gn * 4)).set off (gn * 4 + 2)).set (off + 1) p).set (off + 2) ln).below (Below.alloc (Below.refl _ _) (Nat.le_refl _) _)
    · exact (((((Off.refl (fun j => j = g) w).setCell ⟨g, off, none⟩ _ rfl).setCell ⟨g, off, none⟩ _ rfl).setCell ⟨g, off + 1, none⟩ _ rfl).setCell ⟨g, off + 2, none⟩ _ rfl).trans (Off.of_below (F := fun _ => False) (Below.alloc (Below.refl _ _) (Nat.le_refl _) _)) (fun _ h => h.elim)
  · go_end0
    have e : (((((zs.set off (gn * 4)).set off (gn * 4 + 2)).set off (gn * 4 + 2 + 1)).set (off + 1) p).set (off + 2) ln) = lay3 zs off ⟨gn, true, true, p, ln⟩ := by rw [set_same, set_same]; exact lay3_of (s := ⟨gn, true, true, p, ln⟩) (x := gn * 4 + 2 + 1) (by simp [hdS]; omega)
    refine ⟨rfl, ?_, ?_⟩
    · rw [← e]
      exact (((((HO.out.set off (gn * 4)).set off (gn * 4 + 2)).set off (gn * 4 + 2 + 1)).set (off + 1) p).set (off + 2) ln).below (Below.alloc (Below.refl _ _) (Nat.le_refl _) _)
    · exact ((((((Off.refl (fun j => j = g) w).setCell ⟨g, off, none⟩ _ rfl).setCell ⟨g, off, none⟩ _ rfl).setCell ⟨g, off, none⟩ _ rfl).setCell ⟨g, off + 1, none⟩ _ rfl).setCell ⟨g, off + 2, none⟩ _ rfl).trans (Off.of_below (F := fun _ => False) (Below.alloc (Below.refl _ _) (Nat.le_refl _) _)) (fun _ h => h.elim)
end Go.Proofs.Ytijfiaggneeibaa
