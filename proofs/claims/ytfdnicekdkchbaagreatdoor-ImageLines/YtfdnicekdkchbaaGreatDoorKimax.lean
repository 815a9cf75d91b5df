/- NBytes -/
import Derived.Lib.BufferWrite
import Derived.Test.YtfdnicekdkchbaaGreatDoorKimaf
namespace Go.Proofs.YtfdnicekdkchbaaGreatDoor
set_option linter.unusedVariables false
set_option linter.unusedSimpArgs false
section
set_option maxRecDepth 100000
open Go.RowKit
theorem wpList_copy_str{P:Program}{w:World}{ops:Array Oper}{rest:List Oper}{o:Oper}{a:Act}{Q:Exit→Act→World→Prop}(hgd:o.guard=none)(d s:Operand)(dT sT:TypeId)
  (ho:o.op = .call {callee:=.builtin .copy,args:=#[d,s],argTypes:=#[dT,sT]}) (elem:TypeId) (hu:P.underlying dT=some (.slice elem)) (hsz:(P.info? elem).map (·.size)=some 1)
  (g dLen dCap:Nat) (hd:a.eval d = .slice (some ⟨g,0,none⟩) dLen dCap) (x:ByteArray) (hs:a.eval s = .string x)
  (cur:List Value) (t:TypeId) (hg:w.heap[g]? = some (.cells cur.toArray t (0,0))) (hle:x.size≤dLen) (hfit:x.size≤cur.length) (B:Nat) (w0:World) (hb:Below B w0 w) (hBg:B≤g)
  (h:∀w',Hid (w'.heap[g]? = some (.cells (Lib.byteCells x.data.toList++cur.drop x.size).toArray t (0,0)))→Below B w0 w'→wpList P ops Q rest (a.put o.dst (goInt x.size)) w'):wpList P ops Q (o :: rest) a w:=by
 refine wpList_plain hgd fun K hK => ?_
 have hrun:=Lib.run_copy_row_string (P:=P) w dT sT o.type elem g 0 dLen dCap x cur.toArray t hu hsz hg hle (by simpa using hfit)
 unfold Oper.wp
 simp only [execOp,ho,resolve,invoke,builtin,hd,hs]
 simp [hd,hs,hrun,Result.andThen]
 refine hK _ _ (h _ ?_ (below_setRow hb hBg _))
 show _=_
 rw [setRow_heap w g _ _ t _ hg]
theorem eqb_nil{s:ByteArray}(h:s.data.toList = []):s.toList = []:=by rw [Lib.toList_data,h]
theorem eqb_ne{s:ByteArray}(h:s.data.toList ≠ []):¬s.toList = []:=by rw [Lib.toList_data];exact h
theorem emp_t{s:ByteArray}(h:s.toList = []):s.toList.isEmpty=true:=by rw [h];rfl
theorem emp_f{s:ByteArray}(h:¬s.toList = []):s.toList.isEmpty=false:=by
 cases e:s.toList with
 | nil=>exact absurd e h
 | cons _ _=>rfl
set_option maxRecDepth 100000
theorem bytes_ok(s:ByteArray)(w:World)(hs:s.size≤9223372036854775807)(h:okS s.data.toList=true) :
  Calls Tryz.prog 211 #[.string s] w fun e w'=>∃g,e = .returned (.tuple #[.slice (some ⟨g,0,none⟩) 16 16,.int .i64 0])∧Own .u8 5 w.heap.size w' (some ⟨g,0,none⟩) 16 16 (pad s.data.toList)∧Below w.heap.size w w':=by
 obtain⟨i0,hi,hz0,hz1,hz2⟩:=info_parts Tryz.info5
 have h16:s.size≤16:=(okS_le h).1
 have fin:∀(g:Nat) (w':World),w.heap.size≤g→Hid (w'.heap[g]? = some (.cells (Lib.byteCells s.data.toList++(List.replicate 16 (Value.int .u8 0)).drop s.size).toArray 5 (0,0)))→Own .u8 5 w.heap.size w' (some ⟨g,0,none⟩) 16 16 (pad s.data.toList):=by
  intro g w' hg hh
  have e:Lib.byteCells s.data.toList++(List.replicate 16 (Value.int .u8 0)).drop s.size=(pad s.data.toList).map (Value.int .u8):=by
   unfold pad nums Lib.byteCells
   rw [List.map_append,List.map_map,List.map_replicate,List.drop_replicate]
   rfl
  rw [e] at hh
  have hl:=pad_length (l:=s.data.toList) h16
  refine⟨hl,by rw [List.length_map,hl],Or.inr ⟨g,16,_,rfl,hg,hh.out,Nat.le_refl _,by decide,by simp [hl],?_⟩⟩
  rw [List.take_of_length_le (by simp [hl])]
 by_cases hl:s.data.toList = []
 ·have hq:=eqb_nil hl
  have he:=emp_t hq
  clear hl
  go_enter Tryz.func211,Tryz.ntmps211
  go_wp2_with (first
   | (at_make;refine wpList_make_some _ rfl _ _ 32 rfl 5 i0 (.int .u8 0) Tryz.underlying32 hi hz0 hz1 rfl .i64 .i64 _ _ 16 16 rfl rfl rfl rfl (by omega) (by rw [hz2];omega) (by unfold maxLen;omega) ?_;intro w1 HG1 hb1)
   | (with_reducible refine wpList_copy_str rfl (.tmp 13) (.tmp 14) 32 9 rfl 5 Tryz.underlying32 (by rw [hi];simp [hz1]) _ 16 16 rfl s rfl (List.replicate 16 (.int .u8 0)) 5 HG1.out h16 (by simpa using h16) w.heap.size w hb1 (Nat.le_refl _) ?_;intro w2 HG2 hb2))
  go_ret2
  exact⟨_,rfl,fin _ _ (Nat.le_refl _) HG2,hb2⟩
 ·have hq:=eqb_ne hl
  have he:=emp_f hq
  rw [okS_ne hl] at h
  clear hl
  go_enter Tryz.func211,Tryz.ntmps211
  go_wp2_with (first
   | (go_at_call 188;with_reducible refine(nright_any s _ hs).mono ?_;rintro e w0 ⟨rfl,hb0⟩)
   | (at_make;refine wpList_make_some _ rfl _ _ 32 rfl 5 i0 (.int .u8 0) Tryz.underlying32 hi hz0 hz1 rfl .i64 .i64 _ _ 16 16 rfl rfl rfl rfl (by omega) (by rw [hz2];omega) (by unfold maxLen;omega) ?_;intro w1 HG1 hb1)
   | (with_reducible refine wpList_copy_str rfl (.tmp 13) (.tmp 14) 32 9 rfl 5 Tryz.underlying32 (by rw [hi];simp [hz1]) _ 16 16 rfl s rfl (List.replicate 16 (.int .u8 0)) 5 HG1.out h16 (by simpa using h16) w.heap.size w (next hb0 hb1) hb0.size ?_;intro w2 HG2 hb2))
  go_ret2
  exact⟨_,rfl,fin _ _ hb0.size HG2,hb2⟩
end
end Go.Proofs.YtfdnicekdkchbaaGreatDoor
