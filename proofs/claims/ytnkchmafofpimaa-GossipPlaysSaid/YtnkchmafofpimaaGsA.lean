/- The reference's teller: its cells. -/
import Derived.Test.YtnkchmafofpimaaGsO
import Derived.Test.YtnkchmafofpimaaRgV
namespace Go.Proofs.Ytnkchmafofpimaa
open Go Go.RowKit Go.BigFrame

/-- Eight rings' cells: their slices of targets are given. -/
def ksC (k : Nat → Rg) (z : Nat → Value) : List Value := (List.range 8).flatMap fun i => rgC (k i) (z i)
def hsC (h : Nat → Bool) : List Value := (List.range 8).map fun i => .bool (h i)
def tlC (self : Int) (po : Nat) (h : Nat → Bool) (k : Nat → Rg) (z : Nat → Value) : List Value := (.int .i64 self :: [.pointer (some ⟨po, 0, none⟩)]) ++ (ksC k z ++ hsC h)
section
variable {self : Int} {po : Nat} {h : Nat → Bool} {k : Nat → Rg} {z : Nat → Value}
theorem tlC_len : (tlC self po h k z).length = 354 := by kernel_rfl
theorem ks_at : ∀ (l : List Nat) (i j x : Nat) (u : Value), l[i]? = some x → (rgC (k x) (z x))[j]? = some u → (l.flatMap fun i => rgC (k i) (z i))[i * 43 + j]? = some u
  | [], i, j, x, u, h, _ => by simp at h
  | y :: l, 0, j, x, u, h, hu => by
    simp only [List.getElem?_cons_zero, Option.some.injEq] at h
    subst h
    rw [List.flatMap_cons, Nat.zero_mul, Nat.zero_add, List.getElem?_append_left (List.getElem?_eq_some_iff.1 hu).1]
    exact hu
  | y :: l, i + 1, j, x, u, h, hu => by
    rw [List.getElem?_cons_succ] at h
    have h1 := ks_at l i j x u h hu
    rw [List.flatMap_cons, List.getElem?_append_right (by rw [rgC_len]; omega)]
    rw [show (i + 1) * 43 + j - (rgC (k y) (z y)).length = i * 43 + j by rw [rgC_len]; omega]
    exact h1
theorem tlC_k {i : Nat} (hi : i < 8) : ∀ j u, (rgC (k i) (z i))[j]? = some u → (tlC self po h k z)[2 + i * 43 + j]? = some u := fun j u hu => by
  rw [Nat.add_assoc]
  exact sub_app _ (ksC k z) (hsC h) (ks_at _ i j i u (List.getElem?_range hi) hu)
theorem ksC_len : (ksC k z).length = 344 := by kernel_rfl
theorem tlC_h {i : Nat} (hi : i < 8) : (tlC self po h k z)[346 + i]? = some (.bool (h i)) := by
  have h1 := sub_app ((.int .i64 self :: [.pointer (some ⟨po, 0, none⟩)]) ++ ksC k z) (hsC h) [] (k := i) (u := .bool (h i)) (by unfold hsC; rw [List.getElem?_map, List.getElem?_range hi]; rfl)
  rw [List.append_nil, List.append_assoc, List.length_append, ksC_len] at h1
  exact h1
set_option maxRecDepth 100000 in
theorem tlC_setK {i : Nat} (hi : i < 8) (r : Rg) (s : Value) : putL (tlC self po h k z) (2 + i * 43) (rgC r s) = tlC self po h (upd k i r) (upd z i s) := by
  rcases (show i = 0 ∨ i = 1 ∨ i = 2 ∨ i = 3 ∨ i = 4 ∨ i = 5 ∨ i = 6 ∨ i = 7 from by omega) with rfl | rfl | rfl | rfl | rfl | rfl | rfl | rfl <;> kernel_rfl
set_option maxRecDepth 100000 in
theorem tlC_setH {i : Nat} (hi : i < 8) (b : Bool) : putL (tlC self po h k z) (346 + i) [.bool b] = tlC self po (upd h i b) k z := by
  rcases (show i = 0 ∨ i = 1 ∨ i = 2 ∨ i = 3 ∨ i = 4 ∨ i = 5 ∨ i = 6 ∨ i = 7 from by omega) with rfl | rfl | rfl | rfl | rfl | rfl | rfl | rfl <;> kernel_rfl
end
/-- Arrays of rings. -/
theorem rg_size (W : World) : (sizeOf 37).run Try.prog W = .ok 43 W := by
  have e : (Try.prog.info? 37).map (·.size) = some 43 := by kernel_rfl
  obtain ⟨i0, h1, h2⟩ := Option.map_eq_some_iff.1 e
  simp [sizeOf, typeInfo, h1, h2, go_sem]
section
variable {W : World} {a : Act} {o : Oper}
theorem run_addrRg {x ix : Operand} {b off : Nat} {n : Int} (hn : 0 ≤ n ∧ n < 8) (ho : o.op = .indexAddr 47 x ix) (hx : a.eval x = .pointer (some ⟨b, off, none⟩)) (hix : a.eval ix = .int .i64 n) : (execOp a.eval o).run Try.prog W = .ok (.value (.pointer (some ⟨b, off + n.toNat * 43, none⟩))) W := by
  obtain ⟨j, rfl⟩ := Int.eq_ofNat_of_zero_le hn.1
  have hj : j < 8 := by omega
  have hu : (underlying 47).run Try.prog W = .ok (.array 8 37) W := by simp [underlying, Try.underlying47, go_sem]
  have hs := rg_size W
  unfold execOp
  simp only [ho, hx, hix, Instr.indexAt, asIntOf, Instr.sureAddr, Sem.run_bind, Sem.run_pure, Result.andThen_ok, hu]
  simp [hs, addr_off, go_sem]
  omega
theorem run_addrHs {x ix : Operand} {b off : Nat} {n : Int} (hn : 0 ≤ n ∧ n < 8) (ho : o.op = .indexAddr 48 x ix) (hx : a.eval x = .pointer (some ⟨b, off, none⟩)) (hix : a.eval ix = .int .i64 n) : (execOp a.eval o).run Try.prog W = .ok (.value (.pointer (some ⟨b, off + n.toNat, none⟩))) W := by
  obtain ⟨j, rfl⟩ := Int.eq_ofNat_of_zero_le hn.1
  have hj : j < 8 := by omega
  have hu : (underlying 48).run Try.prog W = .ok (.array 8 4) W := by simp [underlying, Try.underlying48, go_sem]
  have hs := bool_size W
  unfold execOp
  simp only [ho, hx, hix, Instr.indexAt, asIntOf, Instr.sureAddr, Sem.run_bind, Sem.run_pure, Result.andThen_ok, hu]
  simp [hs, addr_off, go_sem]
  omega
end
end Go.Proofs.Ytnkchmafofpimaa
