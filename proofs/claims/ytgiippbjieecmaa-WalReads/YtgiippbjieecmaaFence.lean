/- pmem's Fence by its contract. -/
import Derived.Test.YtgiippbjieecmaaFlush
namespace Go.Proofs.Ytgiippbjieecmaa
set_option maxRecDepth 100000
open Go.RowKit Go.Maps

/-- Is line j flushed? -/
def flushed (S : St) (j : Nat) : Bool := match S.lin j with | some (_, true) => true | _ => false
def fenceP (S : St) (left : Nat → Bool) : St := { S with lin := fun j => if flushed S j = true ∧ left j = false then none else S.lin j }
def fenceS (S : St) : St := fenceP S (fun _ => false)
def fenceG (S : St) (g : Nat → Option Nat) (left : Nat → Bool) : Nat → Option Nat := fun j => if flushed S j = true ∧ left j = false then none else g j

theorem fenceP_start {S : St} {left : Nat → Bool} (h : ∀ j x, S.lin j = some x → left j = true) : fenceP S left = S := by
  refine St.ext' rfl rfl (fun j => ?_) rfl rfl
  show (if _ then none else S.lin j) = _
  cases hj : S.lin j with
  | none => simp
  | some x => simp [h j x hj]
theorem fenceG_start {S : St} {g : Nat → Option Nat} {left : Nat → Bool} (h : ∀ j x, S.lin j = some x → left j = true) : fenceG S g left = g := by
  funext j
  unfold fenceG flushed
  cases hj : S.lin j with
  | none => simp
  | some x => simp [h j x hj]
theorem fenceP_end {S : St} {left : Nat → Bool} (h : ∀ j, left j = false) : fenceP S left = fenceS S := by
  refine St.ext' rfl rfl (fun j => ?_) rfl rfl
  show (if _ then none else S.lin j) = (if _ then none else S.lin j)
  simp [h]
theorem fence_stays {S : St} {g : Nat → Option Nat} {left : Nat → Bool} {i : Nat} (h : flushed S i = false) : fenceP S (strike left i) = fenceP S left ∧ fenceG S g (strike left i) = fenceG S g left := by
  constructor
  · refine St.ext' rfl rfl (fun j => ?_) rfl rfl
    show (if _ then none else S.lin j) = (if _ then none else S.lin j)
    by_cases e : j = i
    · subst e; simp [h]
    · simp [strike, e]
  · funext j
    unfold fenceG
    by_cases e : j = i
    · subst e; simp [h]
    · simp [strike, e]
theorem fence_struck {S : St} {g : Nat → Option Nat} {left : Nat → Bool} {i : Nat} (h : flushed S i = true) : setLin (fenceP S left) i none = fenceP S (strike left i) ∧ laid (fenceG S g left) i none = fenceG S g (strike left i) := by
  constructor
  · refine St.ext' rfl rfl (fun j => ?_) rfl rfl
    show (if j = i then none else if _ then none else S.lin j) = (if _ then none else S.lin j)
    by_cases e : j = i
    · subst e; simp [h, strike]
    · simp [strike, e]
  · funext j
    unfold laid fenceG
    by_cases e : j = i
    · subst e; simp [h, strike]
    · simp [strike, e]

/-- A line is struck. -/
theorem DevAt.struck {w w' : World} {F : Nat → Prop} {p : Nat} {S : St} {sb sc bm : Nat} {g : Nat → Option Nat} (h : DevAt w F p S sb sc bm g) {i : Nat} (hg : w.grownBy w' (some bm)) (hm : MapAt w' bm (laid g i none) S.n) : DevAt w' F p (setLin S i none) sb sc bm (laid g i none) := by
  have old : ∀ k, F k → k ≠ bm → w'.heap[k]? = w.heap[k]? := fun k hk hn => hg.block k (h.bound k hk) (by simpa using hn)
  refine ⟨⟨h.ok.len, h.ok.n0, h.ok.n1, h.ok.a0, h.ok.a1, h.ok.byt, fun j zs fl hj => ?_⟩, (old p h.fp h.bm_ne.1.symm).trans h.obj, h.fp, h.fs, h.fm, own_same h.seen (old sb h.fs h.bm_ne.2.symm), hm, fun j l hj => ?_, fun j hj => ?_, fun j j' l h1 h2 => ?_, fun k hk => Nat.lt_of_lt_of_le (h.bound k hk) hg.size⟩
  · by_cases e : j = i
    · simp [setLin, e] at hj
    · simp [setLin, e] at hj; exact h.ok.lin j zs fl hj
  · by_cases e : j = i
    · simp [laid, e] at hj
    · simp [laid, e] at hj
      obtain ⟨xb, xc, zs, fl, e1, e2, e3, e4, e5, e6⟩ := h.lines j l hj
      refine ⟨xb, xc, zs, fl, by simp [setLin, e]; exact e1, e2, e3, e4, (old l e2 (lin_ne_map e5 h.map)).trans e5, own_same e6 (old xb e3 ?_)⟩
      intro e'
      obtain ⟨es, c, hmo⟩ := h.map.obj
      obtain ⟨cur, hc, _⟩ := e6.block
      rw [e', hmo] at hc; simp at hc
  · by_cases e : j = i
    · simp [setLin, e]
    · simp [laid, e] at hj
      simp [setLin, e]; exact h.void j hj
  · by_cases e : j = i
    · simp [laid, e] at h1
    · by_cases e' : j' = i
      · simp [laid, e'] at h2
      · simp [laid, e] at h1
        simp [laid, e'] at h2
        exact h.inj j j' l h1 h2

theorem fence_bad {w : World} {F : Nat → Prop} {p : Nat} {S : St} (hd : Dev w F p S) (hE : stepE S 0 0 ≠ 0) :
    Calls Try.prog 73 #[.pointer (some ⟨p, 0, none⟩)] w fun e w' => e = .returned (.int .i64 (stepE S 0 0)) ∧ Dev w' F p (stepS S 0 0) ∧ Goes F w F w' := by
  obtain ⟨sb, sc, bm, g, hd⟩ := hd
  have hc := step_at hd 0 0 (by omega) (by omega)
  have hfp := hd.fp
  obtain ⟨E, hE'⟩ : ∃ E, E = stepE S 0 0 := ⟨_, rfl⟩
  rw [← hE'] at hc hE ⊢
  clear hE'
  go_enter Try.func73, Try.ntmps73
  go_wp2_with (go_at_call 88; with_reducible refine hc.mono ?_; rintro e w' ⟨rfl, d1, g1, s1⟩)
  go_ret
  exact ⟨rfl, ⟨_, _, _, _, d1⟩, ⟨Off.of_grown g1 (fun j hj => by cases hj; exact Or.inl hfp), fun _ h => Or.inl h⟩⟩

set_option maxRecDepth 100000 in
theorem fence_good {w : World} {F : Nat → Prop} {p : Nat} {S : St} (hd : Dev w F p S) (hE : stepE S 0 0 = 0) :
    Calls Try.prog 73 #[.pointer (some ⟨p, 0, none⟩)] w fun e w' => e = .returned (.int .i64 0) ∧ Dev w' F p (fenceS (stepS S 0 0)) ∧ Goes F w F w' := by
  have hN := hd.ok.n1
  obtain ⟨sb, sc, bm, g, hd⟩ := hd
  have hc := step_at hd 0 0 (by omega) (by omega)
  have hfp := hd.fp
  rw [hE] at hc
  obtain ⟨T, hT⟩ : ∃ T, T = stepS S 0 0 := ⟨_, rfl⟩
  obtain ⟨_, t2, _⟩ := stepS_same S 0 0
  rw [← hT] at hc t2 ⊢
  rw [← t2] at hN
  clear hT hE t2
  go_enter Try.func73, Try.ntmps73
  go_wp2_with (first
    | (go_at_call 88; with_reducible refine hc.mono ?_; rintro e w1 ⟨rfl, d1, g1, s1⟩;
       obtain ⟨c0, c1, c2, c3⟩ := dev_cells d1.obj; have hmap := d1.map; have S1 : Hid (w1.heap.size = w.heap.size) := s1; clear s1)
    | (at_range; refine wpList_range_map _ rfl _ rfl bm g T.n rfl hmap ?_; intro w0 hrg0 hg0 hs0))
  go_frame
  have hst : ∀ j x, T.lin j = some x → (g j).isSome = true := by
    intro j x hj
    cases hgj : g j with
    | none => rw [d1.void j hgj] at hj; cases hj
    | some l => rfl
  go_loopw [4] (fun _ wr => ∃ (left : Nat → Bool), Rng wr bm w1.heap.size (fenceG T g left) T.n left ∧ DevAt wr F p (fenceP T left) sb sc bm (fenceG T g left) ∧ Off F w wr) (fun _ wr => wr.rangeLeft bm w1.heap.size)
  case atStart =>
    refine ⟨_, by rw [fenceG_start hst]; exact hrg0, ?_, ?_⟩
    · rw [fenceP_start hst, fenceG_start hst]
      exact d1.same hg0.size (fun k hk => hg0.block k (d1.bound k hk) (by simp))
    · exact (Off.of_grown g1 (fun j hj => by cases hj; exact Or.inl hfp)).trans (F' := fun _ => False) (Off.of_grown hg0 (fun j hj => by cases hj)) (fun _ h => h.elim)
  case round =>
    obtain ⟨left, hrg, hdl, hoff⟩ := hrel
    have hr1 : ∀ k, F k → k ≠ w1.heap.size := fun k hk => by have := d1.bound k hk; omega
    go_wp2_with (at_next; refine wpList_next_map _ rfl _ rfl bm w1.heap.size (fenceG T g left) T.n left hN rfl hrg ?_ ?_)
    · intro hl0
      go_wp2
      go_ret
      exact ⟨rfl, ⟨_, _, _, _, by rw [← fenceP_end hl0]; exact hdl⟩, hoff, fun _ h => Or.inl h⟩
    · intro q l w2 hgq hqN hlq hrg2 hlt2 hg2 hs2 hen
      have hd2 : DevAt w2 F p (fenceP T left) sb sc bm (fenceG T g left) := hdl.same hg2.size (fun k hk => hg2.block k (hdl.bound k hk) (by simpa using hr1 k hk))
      have hoff2 : Off F w w2 := hoff.trans (F' := fun k => k = w1.heap.size) (Off.of_grown hg2 (fun j hj => by cases hj; exact Or.inl rfl)) (fun k hk => Or.inr (by rw [hk, S1.out]; exact Nat.le_refl _))
      obtain ⟨xb, xc, zs, fl, e1, e2, e3, e4, e5, e6⟩ := hd2.lines q l hgq
      obtain ⟨l0, l1, l2⟩ := lin_cells e5
      obtain ⟨c0', c1', c2', c3'⟩ := dev_cells hd2.obj
      have hq9 : q ≤ 9223372036854775807 := by omega
      have hfl : flushed T q = fl := by
        have e1' : (if flushed T q = true ∧ left q = false then none else T.lin q) = some (zs, fl) := e1
        rw [hlq] at e1'
        simp at e1'
        simp only [flushed, e1']
        cases fl <;> rfl
      clear e1 hgq hdl hrg
      cases fl
      · have H2 : Hid (DevAt w2 F p (fenceP T (strike left q)) sb sc bm (fenceG T g (strike left q)) ∧ Rng w2 bm w1.heap.size (fenceG T g (strike left q)) T.n (strike left q)) := hid ⟨by rw [(fence_stays (g := g) hfl).1, (fence_stays (g := g) hfl).2]; exact hd2, by rw [(fence_stays (g := g) hfl).2]; exact hrg2⟩
        clear hfl
        go_wp2
        go_roundw
        case rel => exact ⟨strike left q, H2.out.2, H2.out.1, hoff2⟩
        case measure => exact hlt2
      · have HF : Hid (flushed T q = true) := hfl
        clear hfl
        go_wp2_with (at_delete; refine wpList_delete_map _ rfl _ _ rfl bm w1.heap.size (fenceG T g left) T.n _ rfl hrg2 q hq9 rfl ?_; intro w3 hrg3 hle3 hg3 hs3; go_frame)
        have hl2 : (fun j => (left j && (j != q)) && (j != q)) = strike left q := by funext j; simp [strike]
        have d3 := hd2.struck hg3 hrg3.map
        rw [(fence_struck (g := g) HF.out).1, (fence_struck (g := g) HF.out).2] at d3
        rw [(fence_struck (g := g) HF.out).2, hl2] at hrg3
        go_roundw
        case rel => exact ⟨strike left q, hrg3, d3, hoff2.trans (Off.of_grown hg3 (fun j hj => by cases hj; exact Or.inl hd2.fm)) (fun _ h => Or.inl h)⟩
        case measure => omega
end Go.Proofs.Ytgiippbjieecmaa
