/- Space: texts as values, a row's slices. -/
import Derived.Test.YthibiejneggmoaaDoorSpM
import Derived.Test.YthibiejneggmoaaDoorSxArr
import Derived.Test.YthibiejneggmoaaDoorSxAny
import Derived.Test.YthibiejneggmoaaDoorSxBase
import Derived.Test.YthibiejneggmoaaDoorSxRes
import Derived.Laws.Rows
import Derived.StillTailTactics
namespace Go.Proofs.YthibiejneggmoaaDoor
open Go Go.RowKit Go.BigFrame

/- Texts. -/
def chU (x : Int) : UInt8 := if x < 0 then 45 else UInt8.ofNat (48 + x.toNat)
theorem chU_int {x : Int} (h : -1 ≤ x ∧ x < 8) : ((chU x).toNat : Int) = chO x := by
  unfold chU chO
  split
  · rfl
  · rw [UInt8.toNat_ofNat']
    omega
def textB (O : Nat → Int) (k : Nat) : ByteArray := ⟨((List.range k).map fun p => chU (O p)).toArray⟩
theorem textB_succ (O : Nat → Int) (k : Nat) : textB O (k + 1) = textB O k ++ ⟨#[chU (O k)]⟩ := by
  unfold textB
  apply ByteArray.ext
  rw [List.range_succ, List.map_append]
  simp [ByteArray.data_append]
theorem textB_size (O : Nat → Int) (k : Nat) : (textB O k).size = k := by
  show ((List.range k).map _).toArray.size = k
  simp
theorem textB_at {O : Nat → Int} {k p : Nat} (h : p < k) : (textB O k)[p]? = some (chU (O p)) := by
  have hs : p < (textB O k).size := by rw [textB_size]; exact h
  rw [getElem?_pos (textB O k) p hs]
  congr 1
  show ((List.range k).map fun p => chU (O p)).toArray[p]'(by simpa using h) = _
  simp
theorem textB_congr {O P : Nat → Int} {k : Nat} (h : ∀ p, p < k → O p = P p) : textB O k = textB P k := by
  unfold textB
  congr 2
  refine List.map_congr_left fun p hp => ?_
  rw [h p (List.mem_range.1 hp)]
theorem bytes_beq (a b : ByteArray) : (a.toList == b.toList) = decide (a = b) := by
  rw [Bool.eq_iff_iff, beq_iff_eq, decide_eq_true_iff, ByteArray.toList_eq, ByteArray.toList_eq]
  exact ⟨fun h => ByteArray.ext (Array.toList_inj.1 h), fun h => by rw [h]⟩
section
variable {W : World} {a : Act} {o : Oper}
theorem run_idxS {x ix : Operand} {s : ByteArray} {j : Nat} {c : UInt8} {z : Int} (h : s[j]? = some c) (hz : (c.toNat : Int) = z) (ho : o.op = .index 9 x ix) (hx : a.eval x = .string s) (hix : a.eval ix = .int .i64 (j : Int)) : (execOp a.eval o).run Tryd.prog W = .ok (.value (.int .u8 z)) W := by
  obtain ⟨h1, h2⟩ := getElem?_eq_some_iff.1 h
  unfold execOp
  simp only [ho, hx, hix, Sem.run_bind]
  rw [run_index_string W _ s _ _ Tryd.underlying9, dif_pos ⟨by omega, by omega⟩]
  subst hz
  simp only [Int.toNat_natCast, h2, Result.andThen_ok]
  rfl
theorem run_cutL {x l : Operand} {s t : ByteArray} {k : Nat} (hk : k ≤ s.size) (ht : s.extract k s.size = t) (ho : o.op = .slice 9 x (some l) none none) (hx : a.eval x = .string s) (hl : a.eval l = .int .i64 (k : Int)) : (execOp a.eval o).run Tryd.prog W = .ok (.value (.string t)) W := by
  subst ht
  have h := run_slice_string_l W 9 s Tryd.underlying9 .i64 (k : Int) (by omega) (by omega)
  rw [Int.toNat_natCast] at h
  unfold execOp
  simp only [ho, hx, hl, Option.map_none, Option.map_some, Sem.run_bind, run_sliceAt_string W _ _ _ _ _ Tryd.underlying9, h, Result.andThen_ok]
  rfl
theorem run_cutH {x l : Operand} {s t : ByteArray} {k : Nat} (hk : k ≤ s.size) (ht : s.extract 0 k = t) (ho : o.op = .slice 9 x none (some l) none) (hx : a.eval x = .string s) (hl : a.eval l = .int .i64 (k : Int)) : (execOp a.eval o).run Tryd.prog W = .ok (.value (.string t)) W := by
  subst ht
  have h := run_slice_string_h W 9 s Tryd.underlying9 .i64 (k : Int) (by omega) (by omega)
  rw [Int.toNat_natCast] at h
  unfold execOp
  simp only [ho, hx, hl, Option.map_none, Option.map_some, Sem.run_bind, run_sliceAt_string W _ _ _ _ _ Tryd.underlying9, h, Result.andThen_ok]
  rfl
theorem run_addS {x y : Operand} {tt : TypeId} {s t u : ByteArray} (hn : s.size + t.size ≤ 9223372036854775807) (hu : s ++ t = u) (ho : o.op = .binOp .add 9 x y tt) (hx : a.eval x = .string s) (hy : a.eval y = .string t) : (execOp a.eval o).run Tryd.prog W = .ok (.value (.string u)) W := by
  subst hu
  have hg : (eqGuard .add 9 x y (.string s) (.string t)).run Tryd.prog W = .ok () W := by simp [eqGuard, go_sem]
  unfold execOp
  simp only [ho, hx, hy, Sem.run_bind, hg, Result.andThen_ok, binOp_string_add, run_string_add_sum W s t hn]
  rfl
theorem run_eqS {x y : Operand} {tt : TypeId} {s t : ByteArray} {b : Bool} (hb : decide (s = t) = b) (ho : o.op = .binOp .eql 9 x y tt) (hx : a.eval x = .string s) (hy : a.eval y = .string t) : (execOp a.eval o).run Tryd.prog W = .ok (.value (.bool b)) W := by
  subst hb
  have hg : (eqGuard .eql 9 x y (.string s) (.string t)).run Tryd.prog W = .ok () W := by simp [eqGuard, go_sem]
  unfold execOp
  simp only [ho, hx, hy, Sem.run_bind, hg, Result.andThen_ok, binOp_string_eql, Sem.run_pure]
  rw [bytes_beq]
/- A row's slices. -/
theorem run_tailI {x l : Operand} {p : Option Addr} {n c k : Nat} (hk : k ≤ n) (_hc : n ≤ c) (ho : o.op = .slice 22 x (some l) none none) (hx : a.eval x = .slice p n c) (hl : a.eval l = .int .i64 (k : Int)) : (execOp a.eval o).run Tryd.prog W = .ok (.value (.slice (if c = k then p else p.map fun a => a.add (k * elemI.k)) (n - k) (c - k))) W := by
  have hu : Tryd.prog.underlying 22 = some (.slice (Tryd.prog.elem 22)) := Tryd.underlying22
  have e : (Tryd.prog.info? 3).map (·.size) = some 1 := by kernel_rfl
  have he : Tryd.prog.elem 22 = 3 := by kernel_rfl
  obtain ⟨i0, h1, h2⟩ := Option.map_eq_some_iff.1 e
  have hs : (sizeOf 3).run Tryd.prog W = .ok 1 W := by simp [sizeOf, typeInfo, h1, h2, go_sem]
  have h3 := run_slice_l (P := Tryd.prog) W 22 p n c hu .i64 (k : Int) (Int.natCast_nonneg k) (by exact_mod_cast hk)
  rw [he, hs] at h3
  unfold execOp
  simp only [ho, hx, hl, Option.map_none, Option.map_some, Sem.run_bind, run_sliceAt_slice W _ _ _ _ _ hu, h3, Result.andThen_ok]
  cases p <;> simp [sliced, elemI, go_sem]
theorem run_headI {x h : Operand} {p : Option Addr} {n c k : Nat} (hk : k ≤ c) (ho : o.op = .slice 22 x none (some h) none) (hx : a.eval x = .slice p n c) (hh : a.eval h = .int .i64 (k : Int)) : (execOp a.eval o).run Tryd.prog W = .ok (.value (.slice p k c)) W := by
  have hu : Tryd.prog.underlying 22 = some (.slice (Tryd.prog.elem 22)) := Tryd.underlying22
  have e : (Tryd.prog.info? 3).map (·.size) = some 1 := by kernel_rfl
  have he : Tryd.prog.elem 22 = 3 := by kernel_rfl
  obtain ⟨i0, h1, h2⟩ := Option.map_eq_some_iff.1 e
  have hs : (sizeOf 3).run Tryd.prog W = .ok 1 W := by simp [sizeOf, typeInfo, h1, h2, go_sem]
  have h3 := run_slice_h (P := Tryd.prog) W 22 p n c hu .i64 (k : Int) (Int.natCast_nonneg k) (by exact_mod_cast hk)
  rw [he, hs] at h3
  unfold execOp
  simp only [ho, hx, hh, Option.map_none, Option.map_some, Sem.run_bind, run_sliceAt_slice W _ _ _ _ _ hu, h3, Result.andThen_ok]
  cases p <;> simp [sliced, go_sem]
end
end Go.Proofs.YthibiejneggmoaaDoor
