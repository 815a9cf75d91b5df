/- pmem's New, Lines, View, Down, Arm, Load, linesOf by their contracts. -/
import Derived.Test.YtgiippbjieecmaaDev
import Derived.Lib.MinMax
namespace Go.Proofs.Ytgiippbjieecmaa
set_option maxRecDepth 100000
open Go.RowKit Go.Maps

def St.new (zs : List Int) : St := ⟨zs.length / 64, zs, fun _ => none, 0, false⟩
theorem St.new_ok {zs : List Int} (h0 : zs.length ≠ 0) (h1 : zs.length % 64 = 0) (h2 : zs.length / 64 ≤ 4096) (hb : Bytes zs) : (St.new zs).Ok :=
  ⟨by show zs.length = 64 * (zs.length / 64); omega, by show 1 ≤ zs.length / 64; omega, h2, by simp [St.new], by simp [St.new], hb, fun i zs fl h => by simp [St.new] at h⟩
def newOk (n : Nat) : Bool := decide (n ≠ 0 ∧ n % 64 = 0 ∧ n / 64 ≤ 4096)

theorem new_bad (ao : Option Addr) (n cap : Nat) (w : World) (hn : n ≤ 9223372036854775807) (hb : newOk n = false) :
    Calls Try.prog 23 #[.slice ao n cap] w fun e w' => e = .returned (.tuple #[.pointer none, .int .i64 1]) ∧ w = w' := by
  have hb' : ¬ (n ≠ 0 ∧ n % 64 = 0 ∧ n / 64 ≤ 4096) := by simpa [newOk] using hb
  clear hb
  by_cases h0 : n = 0
  · subst h0
    go_enter Try.func23, Try.ntmps23
    go_wp2
    go_ret2
    exact ⟨rfl, rfl⟩
  · by_cases h1 : n % 64 = 0
    · have h2 : 4096 < n / 64 := by omega
      clear hb'
      go_enter Try.func23, Try.ntmps23
      go_wp2
      go_ret2
      exact ⟨rfl, rfl⟩
    · clear hb'
      go_enter Try.func23, Try.ntmps23
      go_wp2
      go_ret2
      exact ⟨rfl, rfl⟩

theorem new_dev {w w1 : World} {sb n sc : Nat} {zs : List Int} (hown : Own .u8 5 w.heap.size w1 (some ⟨sb, 0, none⟩) n sc zs) (hbel : Below w.heap.size w w1) (hok : (St.new zs).Ok) :
    Dev ((w1.alloc (.map #[] 0)).alloc (.cells #[.slice (some ⟨sb, 0, none⟩) n sc, .map (some w1.heap.size), .int .i64 0, .bool false] 77)) (fun k => k = w1.heap.size + 1 ∨ k = sb ∨ k = w1.heap.size) (w1.heap.size + 1) (St.new zs) ∧
    (∀ k, (k = w1.heap.size + 1 ∨ k = sb ∨ k = w1.heap.size) → w.heap.size ≤ k) ∧ Below w.heap.size w ((w1.alloc (.map #[] 0)).alloc (.cells #[.slice (some ⟨sb, 0, none⟩) n sc, .map (some w1.heap.size), .int .i64 0, .bool false] 77)) := by
  have hs := hbel.size
  obtain ⟨cur, hc, _⟩ := hown.block
  have hsb : sb < w1.heap.size := (Array.getElem?_eq_some_iff.1 hc).1
  have hsb0 : w.heap.size ≤ sb := by
    rcases hown.row.2 with ⟨hv, _⟩ | ⟨g', cap', cur, hv, hg, _⟩
    · simp at hv
    · simp only [Value.slice.injEq, Option.some.injEq, Addr.mk.injEq, and_true] at hv
      rw [hv.1]; exact hg
  have b1 : Below w1.heap.size w1 (w1.alloc (.map #[] 0)) := (Below.refl _ _).alloc (Nat.le_refl _) _
  have s1 : (w1.alloc (.map #[] 0)).heap.size = w1.heap.size + 1 := by simp
  have b2 : Below (w1.alloc (.map #[] 0)).heap.size (w1.alloc (.map #[] 0)) ((w1.alloc (.map #[] 0)).alloc (.cells #[.slice (some ⟨sb, 0, none⟩) n sc, .map (some w1.heap.size), .int .i64 0, .bool false] 77)) := (Below.refl _ _).alloc (Nat.le_refl _) _
  have hl : zs.length = n := hown.len
  have b12 := next b1 b2
  refine ⟨⟨sb, sc, w1.heap.size, fun _ => none, hok, ?_, Or.inl rfl, Or.inr (Or.inl rfl), Or.inr (Or.inr rfl), ?_, ?_, fun i l h => (by cases h), fun _ _ => rfl, fun i j l h => (by cases h), ?_⟩, ?_, ?_⟩
  · rw [show w1.heap.size + 1 = (w1.alloc (.map #[] 0)).heap.size from s1.symm, (MapKept.heap_alloc _ _).1]
    show some (Obj.cells _ 77 (0, 0)) = some (Obj.cells _ 77 (0, 0))
    rw [← hl]; rfl
  · have := hown.below b12
    rw [show (St.new zs).seen.length = n from hl]
    exact this.mono (Nat.zero_le _)
  · exact (MapAt.made w1 _).kept (b2.block _ (by omega))
  · rintro k (rfl | rfl | rfl) <;> simp <;> omega
  · rintro k (rfl | rfl | rfl) <;> omega
  · exact next hbel b12

theorem new_good (ao : Option Addr) (n cap : Nat) (zs : List Int) (w : World) (hsl : Sl .u8 w ao n cap zs) (hby : Bytes zs) (hb : newOk n = true) :
    Calls Try.prog 23 #[.slice ao n cap] w fun e w' => ∃ p F, e = .returned (.tuple #[.pointer (some ⟨p, 0, none⟩), .int .i64 0]) ∧ Dev w' F p (St.new zs) ∧ (∀ k, F k → w.heap.size ≤ k) ∧ Below w.heap.size w w' := by
  have hb' : n ≠ 0 ∧ n % 64 = 0 ∧ n / 64 ≤ 4096 := by simpa [newOk] using hb
  obtain ⟨h0, h1, h2⟩ := hb'
  have hlen := hsl.len
  have hcl := clone_any ao n cap zs w hsl (by omega) (by omega)
  have hmm := @run_makeMap Try.prog
  have hok : (St.new zs).Ok := St.new_ok (by omega) (by omega) (by omega) hby
  have b0 : ((n : Int) == 0) = false := by simp; omega
  have b1 : decide (4096 < (n : Int) / 64) = false := by simp; omega
  have b2 : (n : Int) % 64 = 0 := by omega
  have hn : n ≤ 262144 := by omega
  clear hb h0 h1 h2 hlen hsl
  go_enter Try.func23, Try.ntmps23
  go_wp2_with (go_at_call 48; with_reducible refine hcl.mono ?_; rintro e w1 ⟨sb, sc, rfl, hown, hbel⟩)
  go_ret2
  obtain ⟨r1, r2, r3⟩ := new_dev hown hbel hok
  exact ⟨_, _, rfl, r1, r2, r3⟩

theorem view_any {w : World} {F : Nat → Prop} {p : Nat} {S : St} (hd : Dev w F p S) :
    Calls Try.prog 61 #[.pointer (some ⟨p, 0, none⟩)] w fun e w' => ∃ g c, e = .returned (.slice (some ⟨g, 0, none⟩) S.seen.length c) ∧ Own .u8 5 w.heap.size w' (some ⟨g, 0, none⟩) S.seen.length c S.seen ∧ Below w.heap.size w w' := by
  obtain ⟨sb, sc, bm, g, hd⟩ := hd
  obtain ⟨c0, c1, c2, c3⟩ := dev_cells hd.obj
  have hl := hd.ok.len
  have hn0 := hd.ok.n0
  have hn1 := hd.ok.n1
  have hcl := clone_any _ _ _ _ w hd.seen.sl (by omega) (by omega)
  clear hl hn0 hn1
  go_enter Try.func61, Try.ntmps61
  go_wp2_with (go_at_call 48; with_reducible refine hcl.mono ?_; rintro e w1 ⟨gb, gc, rfl, hown, hbel⟩)
  go_ret
  exact ⟨gb, gc, rfl, hown, hbel⟩

theorem down_any {w : World} {F : Nat → Prop} {p : Nat} {S : St} (hd : Dev w F p S) :
    Calls Try.prog 60 #[.pointer (some ⟨p, 0, none⟩)] w fun e w' => e = .returned (.bool S.down) ∧ w = w' := by
  obtain ⟨sb, sc, bm, g, hd⟩ := hd
  obtain ⟨c0, c1, c2, c3⟩ := dev_cells hd.obj
  go_enter Try.func60, Try.ntmps60
  go_wp2
  go_ret
  exact ⟨rfl, rfl⟩

theorem lines_any {w : World} {F : Nat → Prop} {p : Nat} {S : St} (hd : Dev w F p S) :
    Calls Try.prog 49 #[.pointer (some ⟨p, 0, none⟩)] w fun e w' => e = .returned (.int .i64 S.n) ∧ w = w' := by
  obtain ⟨sb, sc, bm, g, hd⟩ := hd
  obtain ⟨c0, c1, c2, c3⟩ := dev_cells hd.obj
  have hl := hd.ok.len
  have hn1 := hd.ok.n1
  rw [hl] at c0
  obtain ⟨K, hK⟩ : ∃ K, K = S.n := ⟨_, rfl⟩
  rw [← hK] at c0 hn1 ⊢
  clear hl hK
  go_enter Try.func49, Try.ntmps49
  go_wp2
  go_ret
  exact ⟨rfl, rfl⟩

theorem arm_any {w : World} {F : Nat → Prop} {p : Nat} {S : St} (hd : Dev w F p S) (n : Int) (hn : -9223372036854775808 ≤ n ∧ n ≤ 9223372036854775807) :
    Calls Try.prog 24 #[.pointer (some ⟨p, 0, none⟩), .int .i64 n] w fun e w' => e = .returned (.tuple #[]) ∧ Dev w' F p { S with armed := max n 0 } ∧ Goes F w F w' ∧ w'.heap.size = w.heap.size := by
  obtain ⟨sb, sc, bm, g, hd⟩ := hd
  obtain ⟨c0, c1, c2, c3⟩ := dev_cells hd.obj
  have f2 := dev_frozen hd.obj 2
  obtain ⟨d1, g1, s1⟩ := hd.stored (max n 0) (by omega) (by omega)
  go_enter Try.func24, Try.ntmps24
  go_wp2
  go_end0
  exact ⟨rfl, ⟨sb, sc, bm, g, d1⟩, ⟨Off.of_grown g1 (fun j hj => by cases hj; exact Or.inl hd.fp), fun _ h => Or.inl h⟩, s1⟩

def lineA (at_ n : Nat) : Nat := if n = 0 then 0 else at_ / 64
def lineB (at_ n : Nat) : Nat := if n = 0 then 0 else (at_ + n - 1) / 64 + 1
theorem linesOf_any (at_ n : Nat) (w : World) (h : at_ + n ≤ 262144) :
    Calls Try.prog 93 #[.int .i64 at_, .int .i64 n] w fun e w' => e = .returned (.tuple #[.int .i64 (lineA at_ n), .int .i64 (lineB at_ n)]) ∧ w = w' := by
  by_cases hn : n = 0
  · subst hn
    go_enter Try.func93, Try.ntmps93
    go_wp2
    go_ret2
    exact ⟨rfl, rfl⟩
  · have e1 : lineA at_ n = at_ / 64 := by simp [lineA, hn]
    have e2 : lineB at_ n = (at_ + n - 1) / 64 + 1 := by simp [lineB, hn]
    rw [e1, e2]
    clear e1 e2
    go_enter Try.func93, Try.ntmps93
    go_wp2
    go_ret2
    refine ⟨?_, rfl⟩
    have e3 : ((at_ : Int) + n - 1) / 64 + 1 = (((at_ + n - 1) / 64 + 1 : Nat) : Int) := by omega
    rw [← e3]
    rfl

theorem Sl.rowpart {k : IntKind} {w : World} {b n cap : Nat} {zs : List Int} (h : Sl k w (some ⟨b, 0, none⟩) n cap zs) (i m : Nat) (hij : i + m ≤ n) :
    Sl k w (if cap = i then some ⟨b, 0, none⟩ else some ⟨b, i, none⟩) m (cap - i) ((zs.drop i).take m) := by
  have h1 := h.sliced i (i + m) (by omega) hij
  rw [show i + m - i = m by omega] at h1
  have e1 : (if cap = i then some (⟨b, 0, none⟩ : Addr) else (some (⟨b, 0, none⟩ : Addr)).map (·.add (i * 1))) = (if cap = i then some ⟨b, 0, none⟩ else some ⟨b, i, none⟩) := by
    simp [Addr.add_lit]
  rw [e1] at h1
  exact h1

theorem checkE_zero {S : St} {at_ n : Int} (h : checkE S at_ n = 0) : S.down = false ∧ 0 ≤ at_ ∧ 0 ≤ n ∧ n ≤ S.seen.length - at_ := by
  unfold checkE at h
  cases hd : S.down
  · rw [if_neg (by simp [hd])] at h
    by_cases hh : at_ < 0 ∨ n < 0 ∨ n > S.seen.length - at_
    · rw [if_pos hh] at h; omega
    · exact ⟨rfl, by omega, by omega, by omega⟩
  · rw [if_pos hd] at h; omega

end Go.Proofs.Ytgiippbjieecmaa
