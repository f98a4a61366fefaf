/- Arrays of bytes in blocks of their own; a text out of one; an array filled from the front. -/
import Derived.Test.YthibiejneggmoaaDoorSxArr
import Derived.Laws.BytesArg
namespace Go.Proofs.YthibiejneggmoaaDoor
open Go Go.RowKit

/-- An array that is being filled: f up to k, z from there on. -/
def fillK {α : Type} (f : Nat → α) (z : α) (n k : Nat) : List α := (List.range k).map f ++ List.replicate (n - k) z
theorem fillK_zero {α : Type} (f : Nat → α) (z : α) (n : Nat) : fillK f z n 0 = List.replicate n z := rfl
theorem fillK_len {α : Type} {f : Nat → α} {z : α} {n k : Nat} (h : k ≤ n) : (fillK f z n k).length = n := by
  unfold fillK
  rw [List.length_append, List.length_map, List.length_range, List.length_replicate]
  omega
theorem fillK_end {α : Type} (f : Nat → α) (z : α) (n : Nat) : fillK f z n n = (List.range n).map f := by
  unfold fillK
  rw [Nat.sub_self, List.replicate_zero, List.append_nil]
theorem fillK_step {α : Type} {f : Nat → α} {z y : α} {n k : Nat} (h : k + 1 ≤ n) (hy : f k = y) : (fillK f z n k).set k y = fillK f z n (k + 1) := by
  subst hy
  unfold fillK
  rw [List.set_append_right k _ (by rw [List.length_map, List.length_range]; exact Nat.le_refl k), List.length_map, List.length_range, Nat.sub_self, show n - k = (n - (k + 1)) + 1 by omega, List.replicate_succ, List.set_cons_zero, List.range_succ, List.map_append, List.append_assoc]
  rfl
def uV (c : UInt8) : Value := .int .u8 (c.toNat : Int)
abbrev arrU (b : Nat) (t : TypeId) (l : List UInt8) : At := boxT b (.cells (l.map uV).toArray t (0, 0))
structure IsArrU (t : TypeId) (n : Nat) : Prop where
  under : Tryd.prog.underlying t = some (.array n 5)
  size : (Tryd.prog.info? t).map (·.size) = some n
theorem byte_size (W : World) : (sizeOf 5).run Tryd.prog W = .ok 1 W := by
  have e : (Tryd.prog.info? 5).map (·.size) = some 1 := by kernel_rfl
  obtain ⟨i0, h1, h2⟩ := Option.map_eq_some_iff.1 e
  simp [sizeOf, typeInfo, h1, h2, go_sem]
theorem nums_bytes (l : List UInt8) : strOfNums (l.map fun c => (c.toNat : Int)) = ⟨l.toArray⟩ := by
  unfold strOfNums
  rw [List.map_map]
  congr 2
  refine (List.map_congr_left fun c _ => ?_).trans (List.map_id l)
  simp
section
variable {W w : World} {H0 : Nat → Prop} {L : List At} {S : Nat → Prop} {ops : Array Oper} {Q : Act → World → Prop} {rest : List (Nat × Nat)} {a : Act} {i : Nat} {o : Oper} {d : Option Tmp} {t tt : TypeId} {n : Nat}
theorem wpS_addrArrU {x ix : Operand} {b j : Nat} (hA : IsArrU t n) (hi : ops[i]? = some o) (hw : Region.wanted o (yielded ops a.tmps) = true) (ho : o.op = .indexAddr t x ix) (hx : a.eval x = .pointer (some ⟨b, 0, none⟩)) (hix : a.eval ix = .int .i64 (j : Int)) (hj : j < n) (hd : o.dst = d)
    (h : wpS Tryd.prog ops S Q rest (a.put d (.pointer (some ⟨b, j, none⟩))) W) : wpS Tryd.prog ops S Q ((i, 1) :: rest) a W := by
  refine wpS_read hi hw ?_ hd h
  have hu : (underlying t).run Tryd.prog W = .ok (.array n 5) W := by simp [underlying, hA.under, go_sem]
  have hs := byte_size W
  unfold execOp
  simp only [ho, hx, hix, Instr.indexAt, asIntOf, Instr.sureAddr, Sem.run_bind, Sem.run_pure, Result.andThen_ok, hu]
  by_cases h1 : n ≤ 1
  · simp [hs, hj, addr_off, go_sem]
  · simp [hs, hj, addr_off, go_sem]
theorem wpS_setElU {x y : Operand} {b j : Nat} {zi : Int} {z : UInt8} {l : List UInt8} {L2 : List At} (hz : (z.toNat : Int) = zi) (hi : ops[i]? = some o) (hw : Region.wanted o (yielded ops a.tmps) = true) (ho : o.op = .store 5 x y) (hx : a.eval x = .pointer (some ⟨b, j, none⟩)) (hy : a.eval y = .int .u8 zi)
    (hm : Mem L H0 w W) (k : Nat) (hk : L[k]? = some (arrU b tt l)) (hL2 : L.eraseIdx k = L2) (hj : j < l.length) (hS : CovS L2 S) (hd : o.dst = none) (h : ∀ W', Mem (arrU b tt (l.set j z) :: L2) H0 w W' → GK S W W' → wpS Tryd.prog ops S Q rest a W') : wpS Tryd.prog ops S Q ((i, 3) :: rest) a W := by
  subst hL2
  subst hz
  refine wpS_store (v := uV z) (vs := [uV z]) (cs := l.map uV) (cs' := (l.set j z).map uV) hi hw ho hx hy rfl (by kernel_rfl) rfl hm k hk (by simp; omega) ?_ hS hd h
  rw [List.map_set]
  rfl
theorem wpS_sliceArrU {x : Operand} {b : Nat} (hA : IsArrU t n) (hi : ops[i]? = some o) (hw : Region.wanted o (yielded ops a.tmps) = true) (ho : o.op = .slice t x none none none) (hx : a.eval x = .pointer (some ⟨b, 0, none⟩)) (h0 : n ≠ 0) (hd : o.dst = d)
    (h : wpS Tryd.prog ops S Q rest (a.put d (.slice (some ⟨b, 0, none⟩) n n)) W) : wpS Tryd.prog ops S Q ((i, 1) :: rest) a W := by
  refine wpS_read hi hw ?_ hd h
  have hu : (underlying t).run Tryd.prog W = .ok (.array n 5) W := by simp [underlying, hA.under, go_sem]
  have hs := byte_size W
  unfold execOp
  simp only [ho, hx, Option.map_none, Instr.sliceAt, Instr.sliceBounds, Instr.sureAddr, Sem.run_bind, Sem.run_pure, Result.andThen_ok, hu, hs]
  simp [h0, addr_off, go_sem]
/-- The text of a row of bytes. -/
theorem wpS_textU {x : Operand} {b c : Nat} {l : List UInt8} (hi : ops[i]? = some o) (hw : Region.wanted o (yielded ops a.tmps) = true) (ho : o.op = .convert 36 9 x) (hx : a.eval x = .slice (some ⟨b, 0, none⟩) n c) (hm : Mem L H0 w W) (k : Nat) (hk : L[k]? = some (arrU b tt l)) (hn : l.length = n) (hd : o.dst = d)
    (h : wpS Tryd.prog ops S Q rest (a.put d (.string ⟨l.toArray⟩)) W) : wpS Tryd.prog ops S Q ((i, 1) :: rest) a W := by
  refine wpS_read hi hw ?_ hd h
  have hc := run_convert_bytes_arg (P := Tryd.prog) W 36 5 Tryd.underlying36 Tryd.underlying5 b 0 n c (l.map fun c => (c.toNat : Int)) (by rw [List.length_map, hn]) (fun j hj => by
    rw [Nat.zero_add, hm.cellL k hk j, List.getElem?_map, List.getD_eq_getElem?_getD, List.getElem?_map, List.getElem?_eq_getElem (by omega)]
    rfl) 9 Tryd.underlying9
  rw [nums_bytes] at hc
  unfold execOp
  simp only [ho, hx, Sem.run_bind, hc, Result.andThen_ok]
  rfl
end
end Go.Proofs.YthibiejneggmoaaDoor
