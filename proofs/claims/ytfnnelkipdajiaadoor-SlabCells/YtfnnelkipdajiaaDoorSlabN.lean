/- Slabs in plain words: their bytes. -/
import Derived.Test.YtfnnelkipdajiaaDoorSlabM
namespace Go.Proofs.YtfnnelkipdajiaaDoor
set_option maxRecDepth 100000
set_option linter.unusedVariables false
set_option linter.unusedSimpArgs false

/-- Where a cell begins, and how much it holds, in bytes. -/
def cB (c k : Int) : Nat := (8 * (4 + k * wdN c)).toNat
def wB8 (c : Int) : Nat := (8 * wdN c).toNat
theorem cls6 {c : Int} (h : 0 ≤ c ∧ c < 6) : c = 0 ∨ c = 1 ∨ c = 2 ∨ c = 3 ∨ c = 4 ∨ c = 5 := by omega
theorem cB_in {c x : Int} (h : CtOk c x) : 32 ≤ cB c x ∧ cB c x + wB8 c ≤ 256 ∧ 16 ≤ wB8 c ∧ wB8 c ≤ 120 ∧ (cB c x : Int) = 8 * ctN c x ∧ (wB8 c : Int) = 8 * wdN c := by
  have hc := h.cls
  have h1 := h.1
  have h2 := h.2
  rw [(ct_t h).1]
  unfold cB wB8
  rcases cls6 hc with rfl | rfl | rfl | rfl | rfl | rfl <;> simp only [wdN, ceN] at h2 ⊢ <;> simp at h2 ⊢ <;> omega
theorem cB_step {c x y : Int} (hc : 0 ≤ c ∧ c < 6) (h0 : 0 ≤ x) (h : x < y) : cB c x + wB8 c ≤ cB c y := by
  unfold cB wB8
  rcases cls6 hc with rfl | rfl | rfl | rfl | rfl | rfl <;> simp only [wdN] <;> simp <;> omega
theorem CelOk.ct {c : Int} {l : List Int} (h : CelOk (ceN c) l) {i : Nat} (hi : i < l.length) : CtOk c (cA l i) := ⟨(h i hi).1, (h i hi).2.1⟩
theorem splice_at {L cs : List Int} {i : Nat} (h : i + cs.length ≤ L.length) (p : Nat) : (splice L i cs).getD p 0 = if i ≤ p ∧ p < i + cs.length then cs.getD (p - i) 0 else L.getD p 0 := by
  unfold splice
  simp only [List.getD]
  by_cases c1 : p < i
  · rw [if_neg (by omega), List.getElem?_append_left (by rw [List.length_take]; omega), List.getElem?_take, if_pos c1]
  · rw [List.getElem?_append_right (by rw [List.length_take]; omega), List.length_take, show min i L.length = i by omega]
    by_cases c2 : p < i + cs.length
    · rw [if_pos ⟨by omega, c2⟩, List.getElem?_append_left (by omega)]
    · rw [if_neg (by omega), List.getElem?_append_right (by omega), List.getElem?_drop, show i + cs.length + (p - i - cs.length) = p by omega]
/-- A slab's head, bytes 0 behind. -/
def swZ (c : Int) (l : List Int) (nx pv : Int) : List Int := ofL [c + 1, btS l, nx, pv] ++ List.replicate 224 0
theorem swZ_len (c : Int) (l : List Int) (nx pv : Int) : (swZ c l nx pv).length = 256 := by unfold swZ; rw [List.length_append, ofL_length, List.length_replicate]; rfl
theorem swZ_zero {c : Int} {l : List Int} {nx pv : Int} {p : Nat} (h : 32 ≤ p) : (swZ c l nx pv).getD p 0 = 0 := by
  unfold swZ
  simp only [List.getD]
  rw [List.getElem?_append_right (by rw [ofL_length]; exact h), List.getElem?_replicate]
  split <;> rfl
/-- The bytes when k cells are laid. -/
def swK (c : Int) (l : List Int) (ds : List (List Int)) (nx pv : Int) : Nat → List Int
  | 0 => swZ c l nx pv
  | k + 1 => splice (swK c l ds nx pv k) (cB c (cA l k)) (da ds k)
/-- A slab. -/
def SlbOk (c : Int) (l : List Int) (ds : List (List Int)) (nx pv : Int) : Prop := BitOk c l ∧ 0 < l.length ∧ l.length = ds.length ∧ (0 ≤ nx ∧ nx ≤ 64) ∧ (0 ≤ pv ∧ pv ≤ 64) ∧ ∀ i, i < l.length → (da ds i).length ≤ wB8 c
instance (c : Int) (l : List Int) (ds : List (List Int)) (nx pv : Int) : Decidable (SlbOk c l ds nx pv) := by unfold SlbOk; exact inferInstance
theorem SlbOk.fit {c : Int} {l : List Int} {ds : List (List Int)} {nx pv : Int} (h : SlbOk c l ds nx pv) {i : Nat} (hi : i < l.length) : 32 ≤ cB c (cA l i) ∧ cB c (cA l i) + (da ds i).length ≤ 256 ∧ (da ds i).length ≤ wB8 c := by
  have h1 := cB_in (h.1.2.ct hi)
  have h2 := h.2.2.2.2.2 i hi
  omega
theorem swK_len {c : Int} {l : List Int} {ds : List (List Int)} {nx pv : Int} (h : SlbOk c l ds nx pv) : ∀ {k : Nat}, k ≤ l.length → (swK c l ds nx pv k).length = 256 := by
  intro k
  induction k with
  | zero => intro _; exact swZ_len _ _ _ _
  | succ k ih =>
    intro hk
    have := ih (by omega)
    have hf := h.fit (i := k) (by omega)
    show (splice _ _ _).length = 256
    rw [length_splice _ _ _ (by omega)]
    exact this
/-- Each byte: a cell's, or as in the beginning. -/
theorem swK_at {c : Int} {l : List Int} {ds : List (List Int)} {nx pv : Int} (h : SlbOk c l ds nx pv) : ∀ {k : Nat}, k ≤ l.length → ∀ p,
    (∀ i, i < k → cB c (cA l i) ≤ p → p < cB c (cA l i) + wB8 c → (swK c l ds nx pv k).getD p 0 = (da ds i).getD (p - cB c (cA l i)) 0) ∧
    ((∀ i, i < k → ¬ (cB c (cA l i) ≤ p ∧ p < cB c (cA l i) + wB8 c)) → (swK c l ds nx pv k).getD p 0 = (swZ c l nx pv).getD p 0) := by
  intro k
  induction k with
  | zero => intro _ p; exact ⟨fun i hi => by omega, fun _ => rfl⟩
  | succ k ih =>
    intro hk p
    obtain ⟨ih1, ih2⟩ := ih (by omega) p
    have hf := h.fit (i := k) (by omega)
    have hlen := swK_len h (k := k) (by omega)
    have hs := splice_at (L := swK c l ds nx pv k) (cs := da ds k) (i := cB c (cA l k)) (by omega) p
    have hdis : ∀ i, i < k → cB c (cA l i) + wB8 c ≤ cB c (cA l k) := fun i hi => cB_step h.1.1 (h.1.2 i (by omega)).1 (h.1.2.lt hi (by omega))
    show (∀ i, i < k + 1 → cB c (cA l i) ≤ p → p < cB c (cA l i) + wB8 c → (splice (swK c l ds nx pv k) (cB c (cA l k)) (da ds k)).getD p 0 = _) ∧ (_ → (splice (swK c l ds nx pv k) (cB c (cA l k)) (da ds k)).getD p 0 = _)
    rw [hs]
    refine ⟨fun i hi h1 h2 => ?_, fun hn => ?_⟩
    · by_cases e : i = k
      · subst e
        by_cases q : p < cB c (cA l i) + (da ds i).length
        · rw [if_pos ⟨h1, q⟩]
        · rw [if_neg (by omega)]
          rw [ih2 (fun j hj => by have := hdis j hj; omega), swZ_zero (by omega)]
          simp only [List.getD]
          rw [List.getElem?_eq_none (by omega)]
          rfl
      · have := hdis i (by omega)
        rw [if_neg (by omega)]
        exact ih1 i (by omega) h1 h2
    · have h0 := hn k (by omega)
      rw [if_neg (by omega)]
      exact ih2 (fun i hi => hn i (by omega))
def swE (c : Int) (l : List Int) (ds : List (List Int)) (nx pv : Int) : Int := if SlbOk c l ds nx pv then 0 else 1
def swL (c : Int) (l : List Int) (ds : List (List Int)) (nx pv : Int) : List Int := if SlbOk c l ds nx pv then swK c l ds nx pv l.length else []
theorem sw_t {c : Int} {l : List Int} {ds : List (List Int)} {nx pv : Int} (h : SlbOk c l ds nx pv) : swE c l ds nx pv = 0 ∧ swL c l ds nx pv = swK c l ds nx pv l.length := ⟨if_pos h, if_pos h⟩
theorem sw_f {c : Int} {l : List Int} {ds : List (List Int)} {nx pv : Int} (h : ¬ SlbOk c l ds nx pv) : swE c l ds nx pv = 1 ∧ swL c l ds nx pv = [] := ⟨if_neg h, if_neg h⟩
theorem swE_0 {c : Int} {l : List Int} {ds : List (List Int)} {nx pv : Int} : swE c l ds nx pv = 0 ↔ SlbOk c l ds nx pv := by
  unfold swE
  by_cases h : SlbOk c l ds nx pv
  · rw [if_pos h]; exact ⟨fun _ => h, fun _ => rfl⟩
  · rw [if_neg h]; exact ⟨fun e => by omega, fun e => (h e).elim⟩
theorem ext_by0 {a b : List Int} (h : a.length = b.length) (k : ∀ i, i < a.length → a.getD i 0 = b.getD i 0) : a = b := by
  apply List.ext_getElem?
  intro i
  by_cases hi : i < a.length
  · have := k i hi
    simp only [List.getD, List.getElem?_eq_getElem hi, List.getElem?_eq_getElem (show i < b.length by omega), Option.getD_some] at this
    rw [List.getElem?_eq_getElem hi, List.getElem?_eq_getElem (show i < b.length by omega), this]
  · rw [List.getElem?_eq_none (by omega), List.getElem?_eq_none (by omega)]
/-- Data with bytes 0 behind, as many as a cell holds. -/
def pdD (c : Int) (d : List Int) : List Int := d ++ List.replicate (wB8 c - d.length) 0
theorem pdD_len {c : Int} {d : List Int} (h : d.length ≤ wB8 c) : (pdD c d).length = wB8 c := by simp [pdD]; omega
theorem pdD_at (c : Int) (d : List Int) (i : Nat) : (pdD c d).getD i 0 = d.getD i 0 := by
  unfold pdD
  simp only [List.getD]
  by_cases h : i < d.length
  · rw [List.getElem?_append_left h]
  · rw [List.getElem?_append_right (by omega), List.getElem?_eq_none (l := d) (by omega), List.getElem?_replicate]
    split <;> rfl
theorem da_map (f : List Int → List Int) {ds : List (List Int)} {i : Nat} (h : i < ds.length) : da (ds.map f) i = f (da ds i) := by simp [da, List.getD, h]
theorem SlbOk.pad {c : Int} {l : List Int} {ds : List (List Int)} {nx pv : Int} (h : SlbOk c l ds nx pv) : SlbOk c l (ds.map (pdD c)) nx pv := by
  obtain ⟨h1, h2, h3, h4, h5, h6⟩ := h
  refine ⟨h1, h2, by rw [List.length_map]; exact h3, h4, h5, fun i hi => ?_⟩
  rw [da_map _ (by omega), pdD_len (h6 i hi)]
  exact Nat.le_refl _
theorem swK_pad {c : Int} {l : List Int} {ds : List (List Int)} {nx pv : Int} (h : SlbOk c l ds nx pv) : swK c l (ds.map (pdD c)) nx pv l.length = swK c l ds nx pv l.length := by
  have h' := h.pad
  refine ext_by0 (by rw [swK_len h' (Nat.le_refl _), swK_len h (Nat.le_refl _)]) fun p hp => ?_
  obtain ⟨a1, a2⟩ := swK_at h (k := l.length) (Nat.le_refl _) p
  obtain ⟨b1, b2⟩ := swK_at h' (k := l.length) (Nat.le_refl _) p
  by_cases c0 : ∃ i, i < l.length ∧ cB c (cA l i) ≤ p ∧ p < cB c (cA l i) + wB8 c
  · obtain ⟨i, hi, q1, q2⟩ := c0
    rw [a1 i hi q1 q2, b1 i hi q1 q2, da_map _ (by have := h.2.2.1; omega), pdD_at]
  · have hn : ∀ i, i < l.length → ¬ (cB c (cA l i) ≤ p ∧ p < cB c (cA l i) + wB8 c) := fun i hi q => c0 ⟨i, hi, q⟩
    rw [a2 hn, b2 hn]
/-- A cell's bytes of what is written. -/
theorem swK_cell {c : Int} {l : List Int} {ds : List (List Int)} {nx pv : Int} (h : SlbOk c l ds nx pv) {i : Nat} (hi : i < l.length) : ((swK c l ds nx pv l.length).drop (cB c (cA l i))).take (wB8 c) = pdD c (da ds i) := by
  have hf := h.fit hi
  have hb := cB_in (h.1.2.ct hi)
  have hl := swK_len h (k := l.length) (Nat.le_refl _)
  refine ext_by0 (by rw [List.length_take, List.length_drop, pdD_len hf.2.2]; omega) fun p hp => ?_
  rw [List.length_take, List.length_drop] at hp
  rw [pdD_at]
  have h1 := (swK_at h (k := l.length) (Nat.le_refl _) (cB c (cA l i) + p)).1 i hi (by omega) (by omega)
  rw [show cB c (cA l i) + p - cB c (cA l i) = p by omega] at h1
  rw [← h1]
  simp only [List.getD]
  rw [List.getElem?_take, if_pos (by omega), List.getElem?_drop]
/-- Its head's words. -/
theorem swK_head {c : Int} {l : List Int} {ds : List (List Int)} {nx pv : Int} (h : SlbOk c l ds nx pv) : (swK c l ds nx pv l.length).take 32 = ofL [c + 1, btS l, nx, pv] := by
  have hl := swK_len h (k := l.length) (Nat.le_refl _)
  refine ext_by0 (by rw [List.length_take, hl, ofL_length]; rfl) fun p hp => ?_
  rw [List.length_take] at hp
  have h1 := (swK_at h (k := l.length) (Nat.le_refl _) p).2 (fun i hi q => by have := h.fit hi; omega)
  have h2 : ((swK c l ds nx pv l.length).take 32).getD p 0 = (swK c l ds nx pv l.length).getD p 0 := by
    simp only [List.getD]
    rw [List.getElem?_take, if_pos (by omega)]
  rw [h2, h1]
  unfold swZ
  simp only [List.getD]
  rw [List.getElem?_append_left (by rw [ofL_length]; show p < 4 * 8; omega)]
theorem getN_head {b : List Int} {ws : List Int} (hb : b.length = 256) (h : b.take 32 = ofL ws) (hw : ws.length = 4) (hok : okL ws = true) {p : Nat} (hp : p < 4) : getN b (p : Int) = ws.getD p 0 ∧ getB b (p : Int) = true := by
  have h1 := get_of hok p (by omega)
  rw [← h] at h1
  have hc : cut b p = cut (b.take 32) p := by
    unfold cut
    rw [List.drop_take, List.take_take]
    congr 1
    omega
  have hh : hasB b.length (p : Int) = true := by unfold hasB; simp; omega
  have hh2 : hasB (b.take 32).length (p : Int) = true := by unfold hasB; rw [List.length_take]; simp; omega
  constructor
  · rw [← h1.1]
    unfold getN
    rw [hh, hh2]
    simp only [Int.toNat_natCast]
    rw [hc]
  · rw [← h1.2]
    unfold getB
    rw [hh, hh2]
    simp only [Int.toNat_natCast]
    rw [hc]
/-- What bytes tell: class, bits, neighbors, cells and their data. -/
def rsC (b : List Int) : Int := getN b 0 - 1
def rsL (b : List Int) : List Int := srC (getN b 1) (ceN (rsC b)).toNat
def rsD (b : List Int) : List (List Int) := (rsL b).map (fun k => (b.drop (cB (rsC b) k)).take (wB8 (rsC b)))
/-- Bytes that are a slab's. -/
def RdS (b : List Int) : Prop := b.length = 256 ∧ SlbOk (rsC b) (rsL b) (rsD b) (getN b 2) (getN b 3) ∧ swL (rsC b) (rsL b) (rsD b) (getN b 2) (getN b 3) = b
instance (b : List Int) : Decidable (RdS b) := by unfold RdS; exact inferInstance
def rsB (b : List Int) : Bool := decide (RdS b)
theorem SlbOk.words {c : Int} {l : List Int} {ds : List (List Int)} {nx pv : Int} (h : SlbOk c l ds nx pv) : okL [c + 1, btS l, nx, pv] = true := by
  have hb := h.1.low
  have hc := h.1.1
  obtain ⟨_, _, _, h4, h5, _⟩ := h
  simp only [okL, List.all_cons, List.all_nil, Bool.and_true, Bool.and_eq_true]
  exact ⟨fitB_t (by omega) (by omega), fitB_t (by omega) (by omega), fitB_t (by omega) (by omega), fitB_t (by omega) (by omega)⟩
/-- What is written is read: data with bytes 0 behind. -/
theorem rd_sw {c : Int} {l : List Int} {ds : List (List Int)} {nx pv : Int} (h : SlbOk c l ds nx pv) :
    rsC (swL c l ds nx pv) = c ∧ rsL (swL c l ds nx pv) = l ∧ rsD (swL c l ds nx pv) = ds.map (pdD c) ∧ getN (swL c l ds nx pv) 2 = nx ∧ getN (swL c l ds nx pv) 3 = pv ∧ RdS (swL c l ds nx pv) := by
  have hl := swK_len h (k := l.length) (Nat.le_refl _)
  have hh := swK_head h
  have g : ∀ p : Nat, p < 4 → getN (swL c l ds nx pv) (p : Int) = [c + 1, btS l, nx, pv].getD p 0 := fun p hp => by rw [(sw_t h).2]; exact (getN_head hl hh rfl h.words hp).1
  have g0 : getN (swL c l ds nx pv) 0 = c + 1 := g 0 (by omega)
  have g1 : getN (swL c l ds nx pv) 1 = btS l := g 1 (by omega)
  have g2 : getN (swL c l ds nx pv) 2 = nx := g 2 (by omega)
  have g3 : getN (swL c l ds nx pv) 3 = pv := g 3 (by omega)
  have e1 : rsC (swL c l ds nx pv) = c := by unfold rsC; rw [g0]; omega
  have hce := cls_in h.1.1
  have e2 : rsL (swL c l ds nx pv) = l := by unfold rsL; rw [e1, g1]; exact srC_bt h.1.2 (by omega)
  have e3 : rsD (swL c l ds nx pv) = ds.map (pdD c) := by
    unfold rsD
    rw [e1, e2]
    have hlen := h.2.2.1
    apply List.ext_getElem?
    intro i
    by_cases hi : i < l.length
    · rw [List.getElem?_map, List.getElem?_map, List.getElem?_eq_getElem hi, List.getElem?_eq_getElem (show i < ds.length by omega)]
      simp only [Option.map_some]
      have k1 := swK_cell h hi
      have k2 : cA l i = l[i] := by simp [cA, List.getD, hi]
      have k3 : da ds i = ds[i]'(by omega) := by simp [da, List.getD, show i < ds.length by omega]
      rw [k2, k3] at k1
      rw [(sw_t h).2, k1]
    · rw [List.getElem?_eq_none (by simp; omega), List.getElem?_eq_none (by simp; omega)]
  refine ⟨e1, e2, e3, g2, g3, ?_⟩
  unfold RdS
  rw [e1, e2, e3, g2, g3]
  refine ⟨by rw [(sw_t h).2]; exact hl, h.pad, ?_⟩
  rw [(sw_t h.pad).2, (sw_t h).2, swK_pad h]
end Go.Proofs.YtfnnelkipdajiaaDoor
