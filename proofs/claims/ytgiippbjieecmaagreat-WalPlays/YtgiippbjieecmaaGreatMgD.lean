/- DevA · Soil: these texts, one behind another. -/
import Derived.Test.YtgiippbjieecmaaGreatDev
import Derived.Lib.MinMax
/- pmem's New, Lines, View, Down, Arm, Load, linesOf by their contracts. -/
namespace Go.Proofs.YtgiippbjieecmaaGreat
set_option maxRecDepth 100000
open Go.RowKit Go.Maps

def St.new (zs : List Int) : St := ⟨zs.length / 64, zs, fun _ => none, 0, false⟩
theorem St.new_ok {zs : List Int} (h0 : zs.length ≠ 0) (h1 : zs.length % 64 = 0) (h2 : zs.length / 64 ≤ 4096) (hb : Bytes zs) : (St.new zs).Ok :=
  ⟨by show zs.length = 64 * (zs.length / 64); omega, by show 1 ≤ zs.length / 64; omega, h2, by simp [St.new], by simp [St.new], hb, fun i zs fl h => by simp [St.new] at h⟩
def newOk (n : Nat) : Bool := decide (n ≠ 0 ∧ n % 64 = 0 ∧ n / 64 ≤ 4096)

theorem new_bad (ao : Option Addr) (n cap : Nat) (w : World) (hn : n ≤ 9223372036854775807) (hb : newOk n = false) :
    Calls Tryz.prog 5 #[.slice ao n cap] w fun e w' => e = .returned (.tuple #[.pointer none, .int .i64 1]) ∧ w = w' := by
  have hb' : ¬ (n ≠ 0 ∧ n % 64 = 0 ∧ n / 64 ≤ 4096) := by simpa [newOk] using hb
  clear hb
  by_cases h0 : n = 0
  · subst h0
    go_enter Tryz.func5, Tryz.ntmps5
    go_wp2
    go_ret2
    exact ⟨rfl, rfl⟩
  · by_cases h1 : n % 64 = 0
    · have h2 : 4096 < n / 64 := by omega
      clear hb'
      go_enter Tryz.func5, Tryz.ntmps5
      go_wp2
      go_ret2
      exact ⟨rfl, rfl⟩
    · clear hb'
      go_enter Tryz.func5, Tryz.ntmps5
      go_wp2
      go_ret2
      exact ⟨rfl, rfl⟩

theorem new_dev {w w1 : World} {sb n sc : Nat} {zs : List Int} (hown : Own .u8 5 w.heap.size w1 (some ⟨sb, 0, none⟩) n sc zs) (hbel : Below w.heap.size w w1) (hok : (St.new zs).Ok) :
    Dev ((w1.alloc (.map #[] 0)).alloc (.cells #[.slice (some ⟨sb, 0, none⟩) n sc, .map (some w1.heap.size), .int .i64 0, .bool false] 54)) (fun k => k = w1.heap.size + 1 ∨ k = sb ∨ k = w1.heap.size) (w1.heap.size + 1) (St.new zs) ∧
    (∀ k, (k = w1.heap.size + 1 ∨ k = sb ∨ k = w1.heap.size) → w.heap.size ≤ k) ∧ Below w.heap.size w ((w1.alloc (.map #[] 0)).alloc (.cells #[.slice (some ⟨sb, 0, none⟩) n sc, .map (some w1.heap.size), .int .i64 0, .bool false] 54)) := by
  have hs := hbel.size
  obtain ⟨cur, hc, _⟩ := hown.block
  have hsb : sb < w1.heap.size := (Array.getElem?_eq_some_iff.1 hc).1
  have hsb0 : w.heap.size ≤ sb := by
    rcases hown.row.2 with ⟨hv, _⟩ | ⟨g', cap', cur, hv, hg, _⟩
    · simp at hv
    · simp only [Value.slice.injEq, Option.some.injEq, Addr.mk.injEq, and_true] at hv
      rw [hv.1]; exact hg
  have b1 : Below w1.heap.size w1 (w1.alloc (.map #[] 0)) := (Below.refl _ _).alloc (Nat.le_refl _) _
  have s1 : (w1.alloc (.map #[] 0)).heap.size = w1.heap.size + 1 := by simp
  have b2 : Below (w1.alloc (.map #[] 0)).heap.size (w1.alloc (.map #[] 0)) ((w1.alloc (.map #[] 0)).alloc (.cells #[.slice (some ⟨sb, 0, none⟩) n sc, .map (some w1.heap.size), .int .i64 0, .bool false] 54)) := (Below.refl _ _).alloc (Nat.le_refl _) _
  have hl : zs.length = n := hown.len
  have b12 := next b1 b2
  refine ⟨⟨sb, sc, w1.heap.size, fun _ => none, hok, ?_, Or.inl rfl, Or.inr (Or.inl rfl), Or.inr (Or.inr rfl), ?_, ?_, fun i l h => (by cases h), fun _ _ => rfl, fun i j l h => (by cases h), ?_⟩, ?_, ?_⟩
  · rw [show w1.heap.size + 1 = (w1.alloc (.map #[] 0)).heap.size from s1.symm, (MapKept.heap_alloc _ _).1]
    show some (Obj.cells _ 54 (0, 0)) = some (Obj.cells _ 54 (0, 0))
    rw [← hl]; rfl
  · have := hown.below b12
    rw [show (St.new zs).seen.length = n from hl]
    exact this.mono (Nat.zero_le _)
  · exact (MapAt.made w1 _).kept (b2.block _ (by omega))
  · rintro k (rfl | rfl | rfl) <;> simp <;> omega
  · rintro k (rfl | rfl | rfl) <;> omega
  · exact next hbel b12

theorem new_good (ao : Option Addr) (n cap : Nat) (zs : List Int) (w : World) (hsl : Sl .u8 w ao n cap zs) (hby : Bytes zs) (hb : newOk n = true) :
    Calls Tryz.prog 5 #[.slice ao n cap] w fun e w' => ∃ p F, e = .returned (.tuple #[.pointer (some ⟨p, 0, none⟩), .int .i64 0]) ∧ Dev w' F p (St.new zs) ∧ (∀ k, F k → w.heap.size ≤ k) ∧ Below w.heap.size w w' := by
  have hb' : n ≠ 0 ∧ n % 64 = 0 ∧ n / 64 ≤ 4096 := by simpa [newOk] using hb
  obtain ⟨h0, h1, h2⟩ := hb'
  have hlen := hsl.len
  have hcl := clone_any ao n cap zs w hsl (by omega) (by omega)
  have hmm := @run_makeMap Tryz.prog
  have hok : (St.new zs).Ok := St.new_ok (by omega) (by omega) (by omega) hby
  have b0 : ((n : Int) == 0) = false := by simp; omega
  have b1 : decide (4096 < (n : Int) / 64) = false := by simp; omega
  have b2 : (n : Int) % 64 = 0 := by omega
  have hn : n ≤ 262144 := by omega
  clear hb h0 h1 h2 hlen hsl
  go_enter Tryz.func5, Tryz.ntmps5
  go_wp2_with (go_at_call 25; with_reducible refine hcl.mono ?_; rintro e w1 ⟨sb, sc, rfl, hown, hbel⟩)
  go_ret2
  obtain ⟨r1, r2, r3⟩ := new_dev hown hbel hok
  exact ⟨_, _, rfl, r1, r2, r3⟩

theorem view_any {w : World} {F : Nat → Prop} {p : Nat} {S : St} (hd : Dev w F p S) :
    Calls Tryz.prog 18 #[.pointer (some ⟨p, 0, none⟩)] w fun e w' => ∃ g c, e = .returned (.slice (some ⟨g, 0, none⟩) S.seen.length c) ∧ Own .u8 5 w.heap.size w' (some ⟨g, 0, none⟩) S.seen.length c S.seen ∧ Below w.heap.size w w' := by
  obtain ⟨sb, sc, bm, g, hd⟩ := hd
  obtain ⟨c0, c1, c2, c3⟩ := dev_cells hd.obj
  have hl := hd.ok.len
  have hn0 := hd.ok.n0
  have hn1 := hd.ok.n1
  have hcl := clone_any _ _ _ _ w hd.seen.sl (by omega) (by omega)
  clear hl hn0 hn1
  go_enter Tryz.func18, Tryz.ntmps18
  go_wp2_with (go_at_call 25; with_reducible refine hcl.mono ?_; rintro e w1 ⟨gb, gc, rfl, hown, hbel⟩)
  go_ret
  exact ⟨gb, gc, rfl, hown, hbel⟩

theorem down_any {w : World} {F : Nat → Prop} {p : Nat} {S : St} (hd : Dev w F p S) :
    Calls Tryz.prog 20 #[.pointer (some ⟨p, 0, none⟩)] w fun e w' => e = .returned (.bool S.down) ∧ w = w' := by
  obtain ⟨sb, sc, bm, g, hd⟩ := hd
  obtain ⟨c0, c1, c2, c3⟩ := dev_cells hd.obj
  go_enter Tryz.func20, Tryz.ntmps20
  go_wp2
  go_ret
  exact ⟨rfl, rfl⟩

theorem lines_any {w : World} {F : Nat → Prop} {p : Nat} {S : St} (hd : Dev w F p S) :
    Calls Tryz.prog 26 #[.pointer (some ⟨p, 0, none⟩)] w fun e w' => e = .returned (.int .i64 S.n) ∧ w = w' := by
  obtain ⟨sb, sc, bm, g, hd⟩ := hd
  obtain ⟨c0, c1, c2, c3⟩ := dev_cells hd.obj
  have hl := hd.ok.len
  have hn1 := hd.ok.n1
  rw [hl] at c0
  obtain ⟨K, hK⟩ : ∃ K, K = S.n := ⟨_, rfl⟩
  rw [← hK] at c0 hn1 ⊢
  clear hl hK
  go_enter Tryz.func26, Tryz.ntmps26
  go_wp2
  go_ret
  exact ⟨rfl, rfl⟩

theorem arm_any {w : World} {F : Nat → Prop} {p : Nat} {S : St} (hd : Dev w F p S) (n : Int) (hn : -9223372036854775808 ≤ n ∧ n ≤ 9223372036854775807) :
    Calls Tryz.prog 12 #[.pointer (some ⟨p, 0, none⟩), .int .i64 n] w fun e w' => e = .returned (.tuple #[]) ∧ Dev w' F p { S with armed := max n 0 } ∧ Goes F w F w' ∧ w'.heap.size = w.heap.size := by
  obtain ⟨sb, sc, bm, g, hd⟩ := hd
  obtain ⟨c0, c1, c2, c3⟩ := dev_cells hd.obj
  have f2 := dev_frozen hd.obj 2
  obtain ⟨d1, g1, s1⟩ := hd.stored (max n 0) (by omega) (by omega)
  go_enter Tryz.func12, Tryz.ntmps12
  go_wp2
  go_end0
  exact ⟨rfl, ⟨sb, sc, bm, g, d1⟩, ⟨Off.of_grown g1 (fun j hj => by cases hj; exact Or.inl hd.fp), fun _ h => Or.inl h⟩, s1⟩

def lineA (at_ n : Nat) : Nat := if n = 0 then 0 else at_ / 64
def lineB (at_ n : Nat) : Nat := if n = 0 then 0 else (at_ + n - 1) / 64 + 1
theorem linesOf_any (at_ n : Nat) (w : World) (h : at_ + n ≤ 262144) :
    Calls Tryz.prog 90 #[.int .i64 at_, .int .i64 n] w fun e w' => e = .returned (.tuple #[.int .i64 (lineA at_ n), .int .i64 (lineB at_ n)]) ∧ w = w' := by
  by_cases hn : n = 0
  · subst hn
    go_enter Tryz.func90, Tryz.ntmps90
    go_wp2
    go_ret2
    exact ⟨rfl, rfl⟩
  · have e1 : lineA at_ n = at_ / 64 := by simp [lineA, hn]
    have e2 : lineB at_ n = (at_ + n - 1) / 64 + 1 := by simp [lineB, hn]
    rw [e1, e2]
    clear e1 e2
    go_enter Tryz.func90, Tryz.ntmps90
    go_wp2
    go_ret2
    refine ⟨?_, rfl⟩
    have e3 : ((at_ : Int) + n - 1) / 64 + 1 = (((at_ + n - 1) / 64 + 1 : Nat) : Int) := by omega
    rw [← e3]
    rfl

theorem Sl.rowpart {k : IntKind} {w : World} {b n cap : Nat} {zs : List Int} (h : Sl k w (some ⟨b, 0, none⟩) n cap zs) (i m : Nat) (hij : i + m ≤ n) :
    Sl k w (if cap = i then some ⟨b, 0, none⟩ else some ⟨b, i, none⟩) m (cap - i) ((zs.drop i).take m) := by
  have h1 := h.sliced i (i + m) (by omega) hij
  rw [show i + m - i = m by omega] at h1
  have e1 : (if cap = i then some (⟨b, 0, none⟩ : Addr) else (some (⟨b, 0, none⟩ : Addr)).map (·.add (i * 1))) = (if cap = i then some ⟨b, 0, none⟩ else some ⟨b, i, none⟩) := by
    simp [Addr.add_lit]
  rw [e1] at h1
  exact h1

theorem checkE_zero {S : St} {at_ n : Int} (h : checkE S at_ n = 0) : S.down = false ∧ 0 ≤ at_ ∧ 0 ≤ n ∧ n ≤ S.seen.length - at_ := by
  unfold checkE at h
  cases hd : S.down
  · rw [if_neg (by simp [hd])] at h
    by_cases hh : at_ < 0 ∨ n < 0 ∨ n > S.seen.length - at_
    · rw [if_pos hh] at h; omega
    · exact ⟨rfl, by omega, by omega, by omega⟩
  · rw [if_pos hd] at h; omega

end Go.Proofs.YtgiippbjieecmaaGreat
/- pmem's soil by its contract. -/
namespace Go.Proofs.YtgiippbjieecmaaGreat
set_option maxRecDepth 100000
open Go.RowKit Go.Maps

def lineAt (zs : List Int) (i : Nat) : List Int := (zs.drop (64 * i)).take 64
def setLin (S : St) (i : Nat) (v : Option (List Int × Bool)) : St := { S with lin := fun j => if j = i then v else S.lin j }
def soilL (S : St) (i : Nat) : List Int × Bool :=
  match S.lin i with
  | none => (lineAt S.seen i, false)
  | some (zs, _) => (zs, false)
def soilS (S : St) (i : Nat) : St := setLin S i (some (soilL S i))

theorem lineAt_len {S : St} (hok : S.Ok) {i : Nat} (hi : i < S.n) : (lineAt S.seen i).length = 64 := by
  have := hok.len
  simp [lineAt]; omega
theorem bytes_sub {zs : List Int} (h : Bytes zs) (i m : Nat) : Bytes ((zs.drop i).take m) := fun z hz => h z (List.mem_of_mem_drop (List.mem_of_mem_take hz))
theorem setLin_ok {S : St} (hok : S.Ok) {i : Nat} {zs : List Int} {fl : Bool} (hi : i < S.n) (hl : zs.length = 64) (hb : Bytes zs) : (setLin S i (some (zs, fl))).Ok := by
  refine ⟨hok.len, hok.n0, hok.n1, hok.a0, hok.a1, hok.byt, fun j zs' fl' h => ?_⟩
  by_cases e : j = i
  · subst e
    simp [setLin] at h
    obtain ⟨rfl, rfl⟩ := h
    exact ⟨hi, hl, hb⟩
  · simp [setLin, e] at h
    exact hok.lin j zs' fl' h

/-- A line's flag is set. -/
theorem DevAt.flag {w : World} {F : Nat → Prop} {p : Nat} {S : St} {sb sc bm : Nat} {g : Nat → Option Nat} (h : DevAt w F p S sb sc bm g) {i l : Nat} (hi : g i = some l) (b : Bool) : ∃ zs fl, S.lin i = some (zs, fl) ∧
    DevAt (w.setCell ⟨l, 1, none⟩ (.bool b)) F p (setLin S i (some (zs, b))) sb sc bm g ∧ w.grownBy (w.setCell ⟨l, 1, none⟩ (.bool b)) (some l) ∧ (w.setCell ⟨l, 1, none⟩ (.bool b)).heap.size = w.heap.size ∧ F l := by
  obtain ⟨xb, xc, zs, fl, e1, e2, e3, e4, e5, e6⟩ := h.lines i l hi
  obtain ⟨s1, s2, s3⟩ := setCell_obj e5 1 (.bool b)
  refine ⟨zs, fl, e1, ?_, s2, s3, e2⟩
  have hb : ∀ k, F k → k ≠ l → (w.setCell ⟨l, 1, none⟩ (.bool b)).heap[k]? = w.heap[k]? := fun k hk hn => s2.block k (h.bound k hk) (by simpa using hn)
  obtain ⟨o1, o2, o3⟩ := h.ok.lin i zs fl e1
  refine ⟨setLin_ok h.ok o1 o2 o3, (hb p h.fp (lin_ne_dev e5 h.obj).symm).trans h.obj, h.fp, h.fs, h.fm, own_same h.seen (hb sb h.fs (lin_ne_own e5 h.seen).symm), h.map.kept (hb bm h.fm (lin_ne_map e5 h.map).symm), fun j m hj => ?_, fun j hj => ?_, h.inj, fun k hk => by rw [s3]; exact h.bound k hk⟩
  · by_cases e : j = i
    · subst e
      rw [hi] at hj; cases hj
      exact ⟨xb, xc, zs, b, by simp [setLin], e2, e3, e4, by rw [s1]; simp [linObj], own_same e6 (hb xb e3 (lin_ne_own e5 e6).symm)⟩
    · obtain ⟨yb, yc, ys, yl, f1, f2, f3, f4, f5, f6⟩ := h.lines j m hj
      have hml : m ≠ l := fun e' => e (h.inj j i l (e' ▸ hj) hi)
      exact ⟨yb, yc, ys, yl, by simp [setLin, e]; exact f1, f2, f3, f4, (hb m f2 hml).trans f5, own_same f6 (hb yb f3 (lin_ne_own e5 f6).symm)⟩
  · by_cases e : j = i
    · subst e; rw [hi] at hj; cases hj
    · simp [setLin, e]; exact h.void j hj

theorem wpList_lookup_at (w : World) {ops : Array Oper} {rest : List Oper} {o : Oper} {a : Act} {Q : Exit → Act → World → Prop}
    (hg : o.guard = none) (m x : Operand) (hop : o.op = Op.lookup 52 m x false) (bm : Nat) (g : Nat → Option Nat) (N : Nat)
    (hm : a.eval m = .map (some bm)) (h : MapAt w bm g N) (i : Nat) (hi : i ≤ 9223372036854775807) (hx : a.eval x = .int .i64 i) (v : Value) (hv : ptrV (g i) = v)
    (hK : wpList Tryz.prog ops Q rest (a.put o.dst v) w) : wpList Tryz.prog ops Q (o :: rest) a w := by
  subst hv
  exact wpList_lookup_map w hg m x hop bm g N hm h i hi hx hK

theorem soil_old {w : World} {F : Nat → Prop} {p : Nat} {S : St} {sb sc bm : Nat} {g : Nat → Option Nat} (hd : DevAt w F p S sb sc bm g) (i l : Nat) (hi : g i = some l) :
    Calls Tryz.prog 91 #[.pointer (some ⟨p, 0, none⟩), .int .i64 i] w fun e w' => e = .returned (.tuple #[]) ∧ Dev w' F p (soilS S i) ∧ Goes F w F w' := by
  obtain ⟨c0, c1, c2, c3⟩ := dev_cells hd.obj
  have hiN := hd.map.lt hi
  have hN := hd.ok.n1
  have hmap := hd.map
  obtain ⟨xb, xc, zs, fl, e1, e2, e3, e4, e5, e6⟩ := hd.lines i l hi
  obtain ⟨l0, l1, l2⟩ := lin_cells e5
  obtain ⟨zs', fl', e1', d1, g1, s1, fl1⟩ := hd.flag hi false
  have hv : ptrV (g i) = .pointer (some ⟨l, 0, none⟩) := by rw [hi]; rfl
  have hi2 : i ≤ 9223372036854775807 := by omega
  have hS : soilS S i = setLin S i (some (zs', false)) := by simp [soilS, soilL, e1']
  rw [hS]
  have H1 : Hid (S.lin i = some (zs, fl)) := e1
  clear e1 e1' hS hi hiN hN
  go_enter Tryz.func91, Tryz.ntmps91
  go_wp2_with (at_lookup; refine wpList_lookup_at _ rfl _ _ rfl bm g S.n rfl hmap i hi2 rfl _ hv ?_)
  go_end0
  exact ⟨rfl, ⟨sb, sc, bm, g, d1⟩, ⟨Off.of_grown g1 (fun j hj => by cases hj; exact Or.inl fl1), fun _ h => Or.inl h⟩⟩

theorem cell_kept {w w' : World} {b i : Nat} (h : w'.heap[b]? = w.heap[b]?) : w'.cell? ⟨b, i, none⟩ = w.cell? ⟨b, i, none⟩ := World.cell?_of_block (a := ⟨b, i, none⟩) h
theorem alloc_block {w : World} {b : Nat} (h : b < w.heap.size) (o : Obj) : (w.alloc o).heap[b]? = w.heap[b]? := (MapKept.heap_alloc w o).2 b h
theorem Own.base {k : IntKind} {e : TypeId} {B : Nat} {w : World} {g n cap : Nat} {zs : List Int} (h : Own k e B w (some ⟨g, 0, none⟩) n cap zs) : B ≤ g ∧ g < w.heap.size := by
  rcases h.row.2 with ⟨hv, _⟩ | ⟨g', cap', cur, hv, hg, hh, _⟩
  · simp at hv
  · simp only [Value.slice.injEq, Option.some.injEq, Addr.mk.injEq, and_true] at hv
    rw [hv.1]; exact ⟨hg, (Array.getElem?_eq_some_iff.1 hh).1⟩

theorem soil_dev {w w1 w3 : World} {F : Nat → Prop} {p : Nat} {S : St} {sb sc bm : Nat} {g : Nat → Option Nat} (hd : DevAt w F p S sb sc bm g) {i xb xc : Nat} (hi : i < S.n) (hn : g i = none)
    (hx : Own .u8 5 w.heap.size w1 (some ⟨xb, 0, none⟩) 64 xc (lineAt S.seen i)) (hbel : Below w.heap.size w w1) (hm3 : MapAt w3 bm (laid g i (some w1.heap.size)) S.n) (hg3 : (w1.alloc (linObj xb xc false)).grownBy w3 (some bm)) :
    DevAt w3 (fun k => F k ∨ k = xb ∨ k = w1.heap.size) p (soilS S i) sb sc bm (laid g i (some w1.heap.size)) ∧ Goes F w (fun k => F k ∨ k = xb ∨ k = w1.heap.size) w3 := by
  have hs := hbel.size
  obtain ⟨x0, x1⟩ := hx.base
  have hsz : (w1.alloc (linObj xb xc false)).heap.size = w1.heap.size + 1 := by simp
  have hs3 := hg3.size
  have hbm := hd.bound bm hd.fm
  have old : ∀ k, k < w.heap.size → k ≠ bm → w3.heap[k]? = w.heap[k]? := fun k hk hn => by
    rw [hg3.block k (by omega) (by simpa using hn), alloc_block (by omega), hbel.block k hk]
  have mid : ∀ k, k < w1.heap.size → k ≠ bm → w3.heap[k]? = w1.heap[k]? := fun k hk hn => by
    rw [hg3.block k (by omega) (by simpa using hn), alloc_block hk]
  have hlb : w3.heap[w1.heap.size]? = some (linObj xb xc false) := by
    rw [hg3.block _ (by omega) (by simp; omega), (MapKept.heap_alloc w1 _).1]
  have hlin : S.lin i = none := hd.void i hn
  have hsoil : soilL S i = (lineAt S.seen i, false) := by simp [soilL, hlin]
  obtain ⟨m1, m2⟩ := hd.bm_ne
  refine ⟨⟨?_, (old p (hd.bound p hd.fp) m1.symm).trans hd.obj, Or.inl hd.fp, Or.inl hd.fs, Or.inl hd.fm, own_same hd.seen (old sb (hd.bound sb hd.fs) m2.symm), hm3, fun j l hj => ?_, fun j hj => ?_, fun j j' l h1 h2 => ?_, ?_⟩, ?_⟩
  · rw [soilS, hsoil]; exact setLin_ok hd.ok hi (lineAt_len hd.ok hi) (bytes_sub hd.ok.byt _ _)
  · by_cases e : j = i
    · subst e
      simp [laid] at hj
      subst hj
      refine ⟨xb, xc, lineAt S.seen j, false, by simp [soilS, setLin, hsoil], Or.inr (Or.inr rfl), Or.inr (Or.inl rfl), ?_, hlb, ?_⟩
      · have := hd.bound sb hd.fs; omega
      · exact (own_same hx (mid xb x1 (by omega))).mono (Nat.zero_le _)
    · simp [laid, e] at hj
      obtain ⟨yb, yc, ys, yl, f1, f2, f3, f4, f5, f6⟩ := hd.lines j l hj
      refine ⟨yb, yc, ys, yl, by simp [soilS, setLin, e]; exact f1, Or.inl f2, Or.inl f3, f4, (old l (hd.bound l f2) (lin_ne_map f5 hd.map)).trans f5, own_same f6 (old yb (hd.bound yb f3) ?_)⟩
      intro e'
      obtain ⟨es, c, hm⟩ := hd.map.obj
      obtain ⟨cur, hc, _⟩ := f6.block
      rw [e', hm] at hc; simp at hc
  · by_cases e : j = i
    · subst e; simp [laid] at hj
    · simp [laid, e] at hj
      simp [soilS, setLin, e]; exact hd.void j hj
  · by_cases e : j = i
    · by_cases e' : j' = i
      · rw [e, e']
      · simp [laid, e] at h1
        simp [laid, e'] at h2
        obtain ⟨_, _, _, _, _, f2, _⟩ := hd.lines j' l h2
        have := hd.bound l f2
        omega
    · by_cases e' : j' = i
      · simp [laid, e] at h1
        simp [laid, e'] at h2
        obtain ⟨_, _, _, _, _, f2, _⟩ := hd.lines j l h1
        have := hd.bound l f2
        omega
      · simp [laid, e] at h1
        simp [laid, e'] at h2
        exact hd.inj j j' l h1 h2
  · rintro k (hk | rfl | rfl)
    · have := hd.bound k hk; omega
    · omega
    · omega
  · refine ⟨⟨hg3.os.trans hbel.os, hg3.tape.trans hbel.tape, hg3.output.trans hbel.output, by omega, fun k hk hn => old k hk (fun e => hn (e ▸ hd.fm))⟩, ?_⟩
    rintro k (hk | rfl | rfl)
    · exact Or.inl hk
    · exact Or.inr x0
    · exact Or.inr hs

theorem soil_cells {w : World} {F : Nat → Prop} {p : Nat} {S : St} {sb sc bm : Nat} {g : Nat → Option Nat} (hd : DevAt w F p S sb sc bm g) {i l : Nat} (hi : g i = some l) :
    (∃ a c, w.cell? ⟨l, 0, none⟩ = some (.slice a 64 c)) ∧ (∃ fl, w.cell? ⟨l, 1, none⟩ = some (.bool fl)) ∧ w.frozen? ⟨l, 1, none⟩ = false := by
  obtain ⟨xb, xc, zs, fl, _, _, _, _, e5, _⟩ := hd.lines i l hi
  obtain ⟨l0, l1, l2⟩ := lin_cells e5
  exact ⟨⟨_, _, l0⟩, ⟨_, l1⟩, l2⟩
theorem soil_again {S : St} {i : Nat} {zs : List Int} {fl : Bool} (h : (soilS S i).lin i = some (zs, fl)) : setLin (soilS S i) i (some (zs, false)) = soilS S i := by
  have h1 : soilL S i = (zs, fl) := by simpa [soilS, setLin] using h
  have h2 : fl = false := by
    have : (soilL S i).2 = false := by unfold soilL; split <;> rfl
    rw [h1] at this; exact this
  subst h2
  unfold soilS setLin
  simp only [h1]
  congr 1
  funext j
  by_cases e : j = i <;> simp [e]

theorem soil_new {w : World} {F : Nat → Prop} {p : Nat} {S : St} {sb sc bm : Nat} {g : Nat → Option Nat} (hd : DevAt w F p S sb sc bm g) (i : Nat) (hi : i < S.n) (hn : g i = none) :
    Calls Tryz.prog 91 #[.pointer (some ⟨p, 0, none⟩), .int .i64 i] w fun e w' => e = .returned (.tuple #[]) ∧ ∃ F', Dev w' F' p (soilS S i) ∧ Goes F w F' w' := by
  obtain ⟨c0, c1, c2, c3⟩ := dev_cells hd.obj
  have hN := hd.ok.n1
  have hlen := hd.ok.len
  have hmap := hd.map
  have hpb := hd.bound p hd.fp
  have hmb := hd.bound bm hd.fm
  have hcap := hd.seen.cap_le
  have hv : ptrV (g i) = .pointer none := by rw [hn]; rfl
  have hi2 : i ≤ 9223372036854775807 := by omega
  have hsl := hd.seen.sl.rowpart (64 * i) 64 (by omega)
  rw [if_neg (by omega)] at hsl
  have hcl := clone_any _ _ _ _ w hsl (by omega) (by omega)
  obtain ⟨L, hL⟩ : ∃ L, L = S.seen.length := ⟨_, rfl⟩
  have hL1 : 64 * i + 64 ≤ L := by omega
  have hL2 : L ≤ 262144 := by omega
  rw [← hL] at c0 hcap
  have e64 : i * 64 = 64 * i := Nat.mul_comm _ _
  have HL : Hid (lineAt S.seen i = (S.seen.drop (64 * i)).take 64) := rfl
  rw [← HL.out] at hcl
  clear hL hlen hsl HL
  obtain ⟨LL, hLL⟩ : ∃ LL, LL = lineAt S.seen i := ⟨_, rfl⟩
  rw [← hLL] at hcl
  have HLL : Hid (LL = lineAt S.seen i) := hLL
  clear hLL
  go_enter Tryz.func91, Tryz.ntmps91
  go_wp2_with (first
    | (at_lookup; refine wpList_lookup_at _ rfl _ _ rfl bm g S.n rfl hmap i hi2 rfl _ hv ?_)
    | (go_at_call 25; with_reducible refine hcl.mono ?_; rintro e w1 ⟨xb, xc, rfl, hown, hbel⟩;
       have hs1 := hbel.size;
       have c1n : (w1.alloc (Obj.cells #[Value.slice (some ⟨xb, 0, none⟩) 64 xc, Value.bool false] 74)).cell? ⟨p, 1, none⟩ = some (.map (some bm)) := (cell_kept (alloc_block (by omega) _)).trans ((cell_kept (hbel.block p hpb)).trans c1);
       have hm2 : MapAt (w1.alloc (Obj.cells #[Value.slice (some ⟨xb, 0, none⟩) 64 xc, Value.bool false] 74)) bm g S.n := hmap.kept ((alloc_block (by omega) _).trans (hbel.block bm hmb)))
    | (at_mapUpdate; refine wpList_mapUpdate_map _ rfl _ _ _ rfl bm g S.n rfl hm2 hN i w1.heap.size hi rfl rfl ?_; intro w3 hm3 hg3;
       obtain ⟨hd3, hgo⟩ := soil_dev hd hi hn (by rw [← HLL.out]; exact hown) hbel hm3 hg3;
       obtain ⟨_, ⟨lf, l1⟩, l2⟩ := soil_cells hd3 (i := i) (l := w1.heap.size) (by simp [laid])))
  obtain ⟨zs', fl', e1', d1, g1, s1, fl1⟩ := hd3.flag (i := i) (l := w1.heap.size) (by simp [laid]) false
  go_end0
  rw [soil_again e1'] at d1
  exact ⟨rfl, _, ⟨_, _, _, _, d1⟩, hgo.trans ⟨Off.of_grown g1 (fun j hj => by cases hj; exact Or.inl fl1), fun _ h => Or.inl h⟩⟩
theorem soil_any {w : World} {F : Nat → Prop} {p : Nat} {S : St} (hd : Dev w F p S) (i : Nat) (hi : i < S.n) :
    Calls Tryz.prog 91 #[.pointer (some ⟨p, 0, none⟩), .int .i64 i] w fun e w' => e = .returned (.tuple #[]) ∧ ∃ F', Dev w' F' p (soilS S i) ∧ Goes F w F' w' := by
  obtain ⟨sb, sc, bm, g, hd⟩ := hd
  cases hg : g i with
  | none => exact soil_new hd i hi hg
  | some l => exact (soil_old hd i l hg).mono fun _ _ ⟨h1, h2, h3⟩ => ⟨h1, F, h2, h3⟩
end Go.Proofs.YtgiippbjieecmaaGreat
