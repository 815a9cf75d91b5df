/- A device in memory: what it holds, as a datum of the proof's own. -/
import Derived.Test.YtgiippbjieecmaaGreatMgE
import Derived.Test.YtgiippbjieecmaaGreatMgM
import Derived.Test.YtgiippbjieecmaaGreatClone
namespace Go.Proofs.YtgiippbjieecmaaGreat
set_option maxRecDepth 100000
open Go.RowKit Go.Maps

/-- n lines; what is seen; of each dirty line what lasts of it, and whether it is flushed. -/
structure St where
  n : Nat
  seen : List Int
  lin : Nat → Option (List Int × Bool)
  armed : Int
  down : Bool

structure St.Ok (S : St) : Prop where
  len : S.seen.length = 64 * S.n
  n0 : 1 ≤ S.n
  n1 : S.n ≤ 4096
  a0 : 0 ≤ S.armed
  a1 : S.armed ≤ 9223372036854775807
  byt : Bytes S.seen
  lin : ∀ i zs fl, S.lin i = some (zs, fl) → i < S.n ∧ zs.length = 64 ∧ Bytes zs

def devObj (sb n sc bm : Nat) (armed : Int) (down : Bool) : Obj := .cells #[.slice (some ⟨sb, 0, none⟩) n sc, .map (some bm), .int .i64 armed, .bool down] 54 (0, 0)
def linObj (xb xc : Nat) (fl : Bool) : Obj := .cells #[.slice (some ⟨xb, 0, none⟩) 64 xc, .bool fl] 74 (0, 0)

structure DevAt (w : World) (F : Nat → Prop) (p : Nat) (S : St) (sb sc bm : Nat) (g : Nat → Option Nat) : Prop where
  ok : S.Ok
  obj : w.heap[p]? = some (devObj sb S.seen.length sc bm S.armed S.down)
  fp : F p
  fs : F sb
  fm : F bm
  seen : Own .u8 5 0 w (some ⟨sb, 0, none⟩) S.seen.length sc S.seen
  map : MapAt w bm g S.n
  lines : ∀ i l, g i = some l → ∃ xb xc zs fl, S.lin i = some (zs, fl) ∧ F l ∧ F xb ∧ xb ≠ sb ∧ w.heap[l]? = some (linObj xb xc fl) ∧ Own .u8 5 0 w (some ⟨xb, 0, none⟩) 64 xc zs
  void : ∀ i, g i = none → S.lin i = none
  inj : ∀ i j l, g i = some l → g j = some l → i = j
  bound : ∀ k, F k → k < w.heap.size

def Dev (w : World) (F : Nat → Prop) (p : Nat) (S : St) : Prop := ∃ sb sc bm g, DevAt w F p S sb sc bm g

theorem DevAt.sb_ne {w : World} {F : Nat → Prop} {p : Nat} {S : St} {sb sc bm : Nat} {g : Nat → Option Nat} (h : DevAt w F p S sb sc bm g) : sb ≠ p := by
  intro e; obtain ⟨cur, hc, _⟩ := h.seen.block; rw [e, h.obj] at hc; simp [devObj] at hc
theorem DevAt.bm_ne {w : World} {F : Nat → Prop} {p : Nat} {S : St} {sb sc bm : Nat} {g : Nat → Option Nat} (h : DevAt w F p S sb sc bm g) : bm ≠ p ∧ bm ≠ sb := by
  obtain ⟨es, c, hm⟩ := h.map.obj
  constructor
  · intro e; rw [e, h.obj] at hm; simp [devObj] at hm
  · intro e; obtain ⟨cur, hc, _⟩ := h.seen.block; rw [e, hc] at hm; simp at hm
theorem lin_ne_dev {w : World} {l p sb n sc bm xb xc : Nat} {fl dn : Bool} {ar : Int} (h : w.heap[l]? = some (linObj xb xc fl)) (k : w.heap[p]? = some (devObj sb n sc bm ar dn)) : l ≠ p := by
  intro e; rw [e, k] at h; simp [devObj, linObj] at h
theorem lin_ne_own {w : World} {l xb xc : Nat} {fl : Bool} (h : w.heap[l]? = some (linObj xb xc fl)) {g n cap : Nat} {zs : List Int} (k : Own .u8 5 0 w (some ⟨g, 0, none⟩) n cap zs) : l ≠ g := by
  intro e; obtain ⟨cur, hc, _⟩ := k.block; rw [e, hc] at h; simp [linObj] at h
theorem lin_ne_map {w : World} {l xb xc bm N : Nat} {fl : Bool} {g : Nat → Option Nat} (h : w.heap[l]? = some (linObj xb xc fl)) (k : MapAt w bm g N) : l ≠ bm := by
  intro e; obtain ⟨es, c, hm⟩ := k.obj; rw [e, hm] at h; simp [linObj] at h

theorem own_same {k : IntKind} {e : TypeId} {B : Nat} {w w' : World} {g n cap : Nat} {zs : List Int} (h : Own k e B w (some ⟨g, 0, none⟩) n cap zs) (hb : w'.heap[g]? = w.heap[g]?) : Own k e B w' (some ⟨g, 0, none⟩) n cap zs := by
  refine ⟨h.len, h.row.1, ?_⟩
  rcases h.row.2 with hn | ⟨g', cap', cur, hv, hg, hh, r⟩
  · exact Or.inl hn
  · have e1 : g = g' := by simp only [Value.slice.injEq, Option.some.injEq, Addr.mk.injEq, and_true] at hv; exact hv.1
    subst e1
    exact Or.inr ⟨g, cap', cur, hv, hg, hb.trans hh, r⟩

/-- Another world, in which all of the device's blocks are the same. -/
theorem DevAt.same {w w' : World} {F : Nat → Prop} {p : Nat} {S : St} {sb sc bm : Nat} {g : Nat → Option Nat} (h : DevAt w F p S sb sc bm g) (hs : w.heap.size ≤ w'.heap.size) (hb : ∀ k, F k → w'.heap[k]? = w.heap[k]?) : DevAt w' F p S sb sc bm g := by
  refine ⟨h.ok, (hb p h.fp).trans h.obj, h.fp, h.fs, h.fm, own_same h.seen (hb sb h.fs), h.map.kept (hb bm h.fm), fun i l hi => ?_, h.void, h.inj, fun k hk => Nat.lt_of_lt_of_le (h.bound k hk) hs⟩
  obtain ⟨xb, xc, zs, fl, h1, h2, h3, h4, h5, h6⟩ := h.lines i l hi
  exact ⟨xb, xc, zs, fl, h1, h2, h3, h4, (hb l h2).trans h5, own_same h6 (hb xb h3)⟩
theorem Dev.off {w w' : World} {F G : Nat → Prop} {p : Nat} {S : St} (h : Dev w F p S) (ho : Off G w w') (hd : ∀ k, F k → ¬ G k) : Dev w' F p S := by
  obtain ⟨sb, sc, bm, g, h⟩ := h
  exact ⟨sb, sc, bm, g, h.same ho.size (fun k hk => ho.block k (h.bound k hk) (hd k hk))⟩
theorem Dev.below {w w' : World} {F : Nat → Prop} {p : Nat} {S : St} (h : Dev w F p S) (hb : Below w.heap.size w w') : Dev w' F p S := h.off (G := fun _ => False) (Off.of_below hb) (fun _ _ h => h)
theorem Dev.bound {w : World} {F : Nat → Prop} {p : Nat} {S : St} (h : Dev w F p S) : ∀ k, F k → k < w.heap.size := by obtain ⟨sb, sc, bm, g, h⟩ := h; exact h.bound
theorem Dev.ok {w : World} {F : Nat → Prop} {p : Nat} {S : St} (h : Dev w F p S) : S.Ok := by obtain ⟨sb, sc, bm, g, h⟩ := h; exact h.ok

/-- Only the device's own block has turned: other armed, down. -/
theorem DevAt.turned {w w' : World} {F : Nat → Prop} {p : Nat} {S : St} {sb sc bm : Nat} {g : Nat → Option Nat} (h : DevAt w F p S sb sc bm g) (hg : w.grownBy w' (some p)) (ar : Int) (dn : Bool) (h0 : 0 ≤ ar) (h1 : ar ≤ 9223372036854775807)
    (ho : w'.heap[p]? = some (devObj sb S.seen.length sc bm ar dn)) : DevAt w' F p { S with armed := ar, down := dn } sb sc bm g := by
  have hb : ∀ k, F k → k ≠ p → w'.heap[k]? = w.heap[k]? := fun k hk hn => hg.block k (h.bound k hk) (by simpa using hn)
  refine ⟨⟨h.ok.len, h.ok.n0, h.ok.n1, h0, h1, h.ok.byt, h.ok.lin⟩, ho, h.fp, h.fs, h.fm, own_same h.seen (hb sb h.fs h.sb_ne), h.map.kept (hb bm h.fm h.bm_ne.1), fun i l hi => ?_, h.void, h.inj, fun k hk => Nat.lt_of_lt_of_le (h.bound k hk) hg.size⟩
  obtain ⟨xb, xc, zs, fl, e1, e2, e3, e4, e5, e6⟩ := h.lines i l hi
  have hx : xb ≠ p := by intro e; obtain ⟨cur, hc, _⟩ := e6.block; rw [e, h.obj] at hc; simp [devObj] at hc
  exact ⟨xb, xc, zs, fl, e1, e2, e3, e4, (hb l e2 (lin_ne_dev e5 h.obj)).trans e5, own_same e6 (hb xb e3 hx)⟩

/-- A cell of a block is written. -/
theorem setCell_obj {w : World} {p : Nat} {c : Array Value} {T : TypeId} {f : Nat × Nat} (h : w.heap[p]? = some (.cells c T f)) (i : Nat) (v : Value) :
    (w.setCell ⟨p, i, none⟩ v).heap[p]? = some (.cells (c.setIfInBounds i v) T f) ∧ w.grownBy (w.setCell ⟨p, i, none⟩ v) (some p) ∧ (w.setCell ⟨p, i, none⟩ v).heap.size = w.heap.size := by
  have hlt := (Array.getElem?_eq_some_iff.1 h).1
  refine ⟨?_, ⟨rfl, rfl, rfl, by simp [World.setCell], fun k hk hn => ?_⟩, by simp [World.setCell]⟩
  · simp [World.setCell, Array.getElem?_modify, h]
  · have : p ≠ k := fun e => hn (by rw [e])
    simp [World.setCell, Array.getElem?_modify, this]

theorem dev_cells {w : World} {p sb n sc bm : Nat} {ar : Int} {dn : Bool} (h : w.heap[p]? = some (devObj sb n sc bm ar dn)) :
    w.cell? ⟨p, 0, none⟩ = some (.slice (some ⟨sb, 0, none⟩) n sc) ∧ w.cell? ⟨p, 1, none⟩ = some (.map (some bm)) ∧ w.cell? ⟨p, 2, none⟩ = some (.int .i64 ar) ∧ w.cell? ⟨p, 3, none⟩ = some (.bool dn) := by
  simp [World.cell?, h, devObj]
theorem dev_frozen {w : World} {p sb n sc bm : Nat} {ar : Int} {dn : Bool} (h : w.heap[p]? = some (devObj sb n sc bm ar dn)) (i : Nat) : w.frozen? ⟨p, i, none⟩ = false := by
  simp [World.frozen?, h, devObj]
theorem lin_cells {w : World} {l xb xc : Nat} {fl : Bool} (h : w.heap[l]? = some (linObj xb xc fl)) :
    w.cell? ⟨l, 0, none⟩ = some (.slice (some ⟨xb, 0, none⟩) 64 xc) ∧ w.cell? ⟨l, 1, none⟩ = some (.bool fl) ∧ w.frozen? ⟨l, 1, none⟩ = false := by
  simp [World.cell?, World.frozen?, h, linObj]

/-- What a call on n bytes from at on is told. -/
def checkE (S : St) (at_ n : Int) : Int := if S.down = true then 5 else if at_ < 0 ∨ n < 0 ∨ n > S.seen.length - at_ then 1 else 0
def stepE (S : St) (at_ n : Int) : Int := if checkE S at_ n ≠ 0 then checkE S at_ n else if S.armed = 1 then 5 else 0
def stepS (S : St) (at_ n : Int) : St := if checkE S at_ n ≠ 0 ∨ S.armed = 0 then S else { S with armed := S.armed - 1, down := decide (S.armed = 1) }

theorem check_any {w : World} {F : Nat → Prop} {p : Nat} {S : St} (hd : Dev w F p S) (at_ n : Int) (ha : -9223372036854775808 ≤ at_ ∧ at_ ≤ 9223372036854775807) (hn : -9223372036854775808 ≤ n ∧ n ≤ 9223372036854775807) :
    Calls Tryz.prog 92 #[.pointer (some ⟨p, 0, none⟩), .int .i64 at_, .int .i64 n] w fun e w' => e = .returned (.int .i64 (checkE S at_ n)) ∧ w = w' := by
  obtain ⟨sb, sc, bm, g, hd⟩ := hd
  obtain ⟨c0, c1, c2, c3⟩ := dev_cells hd.obj
  have hl := hd.ok.len
  have hn1 := hd.ok.n1
  obtain ⟨L, hL⟩ : ∃ L, L = S.seen.length := ⟨_, rfl⟩
  rw [← hL] at c0 hl
  have hE : checkE S at_ n = if S.down = true then 5 else if at_ < 0 ∨ n < 0 ∨ n > (L : Int) - at_ then 1 else 0 := by rw [hL]; rfl
  rw [hE]
  clear hE
  cases hdn : S.down
  · rw [hdn] at c3
    by_cases h1 : at_ < 0
    · go_enter Tryz.func92, Tryz.ntmps92
      go_wp2
      go_ret
      simp
    · by_cases h2 : n < 0
      · go_enter Tryz.func92, Tryz.ntmps92
        go_wp2
        go_ret
        simp
      · by_cases h3 : n > (L : Int) - at_
        · go_enter Tryz.func92, Tryz.ntmps92
          go_wp2
          go_ret
          simp
        · go_enter Tryz.func92, Tryz.ntmps92
          go_wp2
          go_ret
          simp
  · rw [hdn] at c3
    go_enter Tryz.func92, Tryz.ntmps92
    go_wp2
    go_ret
    simp

theorem DevAt.stored {w : World} {F : Nat → Prop} {p : Nat} {S : St} {sb sc bm : Nat} {g : Nat → Option Nat} (h : DevAt w F p S sb sc bm g) (ar : Int) (h0 : 0 ≤ ar) (h1 : ar ≤ 9223372036854775807) : DevAt (w.setCell ⟨p, 2, none⟩ (.int .i64 ar)) F p { S with armed := ar } sb sc bm g ∧ w.grownBy (w.setCell ⟨p, 2, none⟩ (.int .i64 ar)) (some p) ∧ (w.setCell ⟨p, 2, none⟩ (.int .i64 ar)).heap.size = w.heap.size := by
  obtain ⟨e1, e2, e3⟩ := setCell_obj h.obj 2 (.int .i64 ar)
  exact ⟨h.turned e2 ar S.down h0 h1 (by rw [e1]; simp [devObj]), e2, e3⟩
theorem DevAt.downed {w : World} {F : Nat → Prop} {p : Nat} {S : St} {sb sc bm : Nat} {g : Nat → Option Nat} (h : DevAt w F p S sb sc bm g) (dn : Bool) : DevAt (w.setCell ⟨p, 3, none⟩ (.bool dn)) F p { S with down := dn } sb sc bm g ∧ w.grownBy (w.setCell ⟨p, 3, none⟩ (.bool dn)) (some p) ∧ (w.setCell ⟨p, 3, none⟩ (.bool dn)).heap.size = w.heap.size := by
  obtain ⟨e1, e2, e3⟩ := setCell_obj h.obj 3 (.bool dn)
  exact ⟨h.turned e2 S.armed dn h.ok.a0 h.ok.a1 (by rw [e1]; simp [devObj]), e2, e3⟩

theorem step_at {w : World} {F : Nat → Prop} {p : Nat} {S : St} {sb sc bm : Nat} {g : Nat → Option Nat} (hd : DevAt w F p S sb sc bm g) (at_ n : Int) (ha : -9223372036854775808 ≤ at_ ∧ at_ ≤ 9223372036854775807) (hn : -9223372036854775808 ≤ n ∧ n ≤ 9223372036854775807) :
    Calls Tryz.prog 73 #[.pointer (some ⟨p, 0, none⟩), .int .i64 at_, .int .i64 n] w fun e w' => e = .returned (.int .i64 (stepE S at_ n)) ∧ DevAt w' F p (stepS S at_ n) sb sc bm g ∧ w.grownBy w' (some p) ∧ w'.heap.size = w.heap.size := by
  obtain ⟨c0, c1, c2, c3⟩ := dev_cells hd.obj
  have f2 := dev_frozen hd.obj 2
  have f3 := dev_frozen hd.obj 3
  have hc := check_any ⟨sb, sc, bm, g, hd⟩ at_ n ha hn
  have a0 := hd.ok.a0
  have a1 := hd.ok.a1
  obtain ⟨E, hE⟩ : ∃ E, E = checkE S at_ n := ⟨_, rfl⟩
  have eE : stepE S at_ n = if E ≠ 0 then E else if S.armed = 1 then 5 else 0 := by rw [hE]; rfl
  have eS : stepS S at_ n = if E ≠ 0 ∨ S.armed = 0 then S else { S with armed := S.armed - 1, down := decide (S.armed = 1) } := by rw [hE]; rfl
  have hdn : E = 0 → S.down = false := by
    intro h
    rw [hE] at h
    unfold checkE at h
    cases hh : S.down
    · rfl
    · rw [if_pos hh] at h; omega
  rw [← hE] at hc
  clear hE
  by_cases h1 : E ≠ 0
  · rw [eE, eS, if_pos h1, if_pos (Or.inl h1)]
    clear eE eS hdn
    go_enter Tryz.func73, Tryz.ntmps73
    go_wp2_with (go_at_call 92; with_reducible refine hc.mono ?_; rintro e w' ⟨rfl, rfl⟩)
    go_ret
    exact ⟨rfl, hd, World.grownBy.refl _ _, rfl⟩
  · obtain rfl : E = 0 := by omega
    have hdn := hdn rfl
    by_cases h2 : S.armed = 0
    · have e1 : stepE S at_ n = 0 := by rw [eE]; simp [h2]
      have e2 : stepS S at_ n = S := by rw [eS]; simp [h2]
      rw [e1, e2]
      clear eE eS e1 e2
      rw [h2] at c2
      clear h2
      go_enter Tryz.func73, Tryz.ntmps73
      go_wp2_with (go_at_call 92; with_reducible refine hc.mono ?_; rintro e w' ⟨rfl, rfl⟩)
      go_ret
      exact ⟨rfl, hd, World.grownBy.refl _ _, rfl⟩
    · by_cases h3 : S.armed = 1
      · obtain ⟨d1, g1, s1⟩ := hd.stored 0 (by omega) (by omega)
        obtain ⟨d2, g2, s2⟩ := d1.downed true
        have e1 : stepE S at_ n = 5 := by rw [eE]; simp [h3]
        have e2 : stepS S at_ n = { S with armed := 0, down := true } := by rw [eS]; simp [h3]
        rw [e1, e2]
        rw [h3] at c2
        clear h1 h2 h3 a0 a1 eE eS e1 e2 hdn
        go_enter Tryz.func73, Tryz.ntmps73
        go_wp2_with (go_at_call 92; with_reducible refine hc.mono ?_; rintro e w' ⟨rfl, rfl⟩)
        go_ret
        exact ⟨rfl, d2, grown_trans g1 g2, s2.trans s1⟩
      · obtain ⟨d1, g1, s1⟩ := hd.stored (S.armed - 1) (by omega) (by omega)
        have e1 : stepE S at_ n = 0 := by rw [eE]; simp [h3]
        have e2 : stepS S at_ n = { S with armed := S.armed - 1 } := by rw [eS]; simp [h2, h3, hdn]
        rw [e1, e2]
        clear eE eS e1 e2 hdn
        obtain ⟨A, hA⟩ : ∃ A, A = S.armed := ⟨_, rfl⟩
        rw [← hA] at c2 a0 a1 h2 h3 d1 g1 s1 ⊢
        clear hA
        go_enter Tryz.func73, Tryz.ntmps73
        go_wp2_with (go_at_call 92; with_reducible refine hc.mono ?_; rintro e w' ⟨rfl, rfl⟩)
        go_ret
        exact ⟨rfl, d1, g1, s1⟩
end Go.Proofs.YtgiippbjieecmaaGreat
