/- Bags: three of them in an array, their rows; steps; a text of two bytes. -/
import Derived.Test.YtneeidedadlioaaBgB
import Derived.Laws.BytesArg
namespace Go.Proofs.Ytneeidedadlioaa
open Go Go.RowKit Go.BigFrame

def elemU : Elem Try.prog Int where
  enc x := [.int .u8 x]
  k := 1
  pos := by decide
  len _ := rfl
  one _ u hu := by
    simp only [List.mem_cons, List.not_mem_nil, or_false] at hu
    subst hu
    rfl
  t := 5
  sl := 56
  under := Try.underlying56
  z := .int .u8 0
  bytes := 1
  bpos := by decide
  info := by kernel_rfl
  zs := by kernel_rfl
/-- A step, as it is handed over. -/
abbrev Rw : Type := Int × Int × Int
def elemStp : Elem Try.prog Rw where
  enc x := [.int .i64 x.1, .int .i64 x.2.1, .int .i64 x.2.2]
  k := 3
  pos := by decide
  len _ := rfl
  one _ u hu := by
    simp only [List.mem_cons, List.not_mem_nil, or_false] at hu
    rcases hu with rfl | rfl | rfl <;> rfl
  t := 55
  sl := 22
  under := Try.underlying22
  z := .agg #[.int .i64 0, .int .i64 0, .int .i64 0]
  bytes := 24
  bpos := by decide
  info := by kernel_rfl
  zs := by kernel_rfl
/- Three bags. -/
abbrev hbC (x : Hb) : List Value := bgC x.f (.slice x.p x.n x.c)
def b3C (g : Nat → Hb) : List Value := hbC (g 0) ++ (hbC (g 1) ++ hbC (g 2))
abbrev b3V (g : Nat → Hb) : Value := .agg (b3C g).toArray
theorem sub_mid (A B C : List Value) {k : Nat} {u : Value} (h : B[k]? = some u) : (A ++ (B ++ C))[A.length + k]? = some u := by
  rw [List.getElem?_append_right (Nat.le_add_right _ _), Nat.add_sub_cancel_left, List.getElem?_append_left (List.getElem?_eq_some_iff.1 h).1]
  exact h
theorem b3C_sub {g : Nat → Hb} {w : Nat} (hw : w < 3) : ∀ k u, (hbC (g w))[k]? = some u → (b3C g)[w * 9 + k]? = some u := fun k u h => by
  rcases (show w = 0 ∨ w = 1 ∨ w = 2 by omega) with rfl | rfl | rfl
  · exact sub_mid [] (hbC (g 0)) _ h
  · exact sub_mid (hbC (g 0)) (hbC (g 1)) (hbC (g 2)) h
  · have h1 := sub_mid (hbC (g 0) ++ hbC (g 1)) (hbC (g 2)) [] h
    rw [List.append_nil, List.append_assoc] at h1
    exact h1
theorem b3C_vc {g : Nat → Hb} {w : Nat} (hw : w < 3) : ∀ k u, (vcC (g w).f)[k]? = some u → (b3C g)[w * 9 + k]? = some u := fun k u h => b3C_sub hw k u (by have := bgC_vc (sl := .slice (g w).p (g w).n (g w).c) k u h; rwa [Nat.zero_add] at this)
theorem b3C_len {g : Nat → Hb} : (b3C g).length = 27 := rfl
theorem b3C_set {g : Nat → Hb} {w : Nat} (hw : w < 3) (x : Hb) : putL (b3C g) (w * 9) (hbC x) = b3C (upd g w x) := by
  rcases (show w = 0 ∨ w = 1 ∨ w = 2 by omega) with rfl | rfl | rfl <;> kernel_rfl
theorem b3C_one (g : Nat → Hb) : ((b3C g).all Value.oneCell') = true := by kernel_rfl
theorem b3_under : Try.prog.underlying 28 = some (.array 3 27) := Try.underlying28
theorem bag_size (W : World) : (sizeOf 27).run Try.prog W = .ok 9 W := by
  have e : (Try.prog.info? 27).map (·.size) = some 9 := by kernel_rfl
  obtain ⟨i0, h1, h2⟩ := Option.map_eq_some_iff.1 e
  simp [sizeOf, typeInfo, h1, h2, go_sem]
theorem is3 : IsArr 53 3 := ⟨Try.underlying53, by kernel_rfl⟩
def n3C (n : Nat → Nat) : List Value := [.int .i64 (n 0 : Int), .int .i64 (n 1 : Int), .int .i64 (n 2 : Int)]
theorem n3C_at {n : Nat → Nat} {w : Nat} (hw : w < 3) : (n3C n)[w]? = some (.int .i64 (n w : Int)) := by
  rcases (show w = 0 ∨ w = 1 ∨ w = 2 by omega) with rfl | rfl | rfl <;> rfl
theorem n3C_set {n : Nat → Nat} {w : Nat} (hw : w < 3) (x : Nat) : putL (n3C n) w [.int .i64 (x : Int)] = n3C (upd n w x) := by
  rcases (show w = 0 ∨ w = 1 ∨ w = 2 by omega) with rfl | rfl | rfl <;> rfl
section
variable {W : World} {a : Act} {o : Oper}
theorem run_addrB3 {x ix : Operand} {b j : Nat} (hj : j < 3) (ho : o.op = .indexAddr 28 x ix) (hx : a.eval x = .pointer (some ⟨b, 0, none⟩)) (hix : a.eval ix = .int .i64 (j : Int)) : (execOp a.eval o).run Try.prog W = .ok (.value (.pointer (some ⟨b, j * 9, none⟩))) W := by
  have hu : (underlying 28).run Try.prog W = .ok (.array 3 27) W := by simp [underlying, go_sem]
  have hs := bag_size W
  unfold execOp
  simp only [ho, hx, hix, Instr.indexAt, asIntOf, Instr.sureAddr, Sem.run_bind, Sem.run_pure, Result.andThen_ok, hu]
  simp [hs, addr_off, go_sem]
  omega
theorem run_addrN3 {x ix : Operand} {b j : Nat} (hj : j < 3) (ho : o.op = .indexAddr 53 x ix) (hx : a.eval x = .pointer (some ⟨b, 0, none⟩)) (hix : a.eval ix = .int .i64 (j : Int)) : (execOp a.eval o).run Try.prog W = .ok (.value (.pointer (some ⟨b, j, none⟩))) W := by
  have hu : (underlying 53).run Try.prog W = .ok (.array 3 3) W := by simp [underlying, is3.under, go_sem]
  have hs := vint_size W
  unfold execOp
  simp only [ho, hx, hix, Instr.indexAt, asIntOf, Instr.sureAddr, Sem.run_bind, Sem.run_pure, Result.andThen_ok, hu]
  simp [hs, addr_off, go_sem]
  omega
/-- Two bytes, as a text. -/
theorem run_text2 {x : Operand} {b : Nat} {n1 n2 : Int} (hc0 : W.cell? ⟨b, 0, none⟩ = some (.int .u8 n1)) (hc1 : W.cell? ⟨b, 1, none⟩ = some (.int .u8 n2)) (ho : o.op = .convert 56 9 x) (hx : a.eval x = .slice (some ⟨b, 0, none⟩) 2 2) : (execOp a.eval o).run Try.prog W = .ok (.value (.string (strOfNums [n1, n2]))) W := by
  have h := run_convert_bytes_arg (P := Try.prog) W 56 5 Try.underlying56 Try.underlying5 b 0 2 2 [n1, n2] rfl (fun i hi => by
    rcases (show i = 0 ∨ i = 1 by omega) with rfl | rfl
    · exact hc0
    · exact hc1) 9 Try.underlying9
  unfold execOp
  simp only [ho, hx, Sem.run_bind, h, Result.andThen_ok]
  rfl
end
/- Three rows of values, each of its own. -/
def hb3 (b : Nat → Bg) (P : Nat → Option Addr × Nat) : Nat → Hb := fun w => ⟨(b w).k, (P w).1, (b w).v.length, (P w).2⟩
theorem hb3_upd (b : Nat → Bg) (P : Nat → Option Addr × Nat) (w : Nat) (x : Bg) (p : Option Addr) (c : Nat) : upd (hb3 b P) w ⟨x.k, p, x.v.length, c⟩ = hb3 (upd b w x) (upd P w (p, c)) := by
  funext i
  unfold hb3 upd
  by_cases h : i = w
  · simp only [if_pos h]
  · simp only [if_neg h]
def rowB (b : Nat → Bg) (P : Nat → Option Addr × Nat) (w : Nat) : At := rowT elemV (.slice (P w).1 (b w).v.length (P w).2) (b w).v
theorem reads3 {b : Nat → Bg} {P : Nat → Option Addr × Nat} {w : Nat} (hw : w < 3) {L : List At} : Reads elemV (listT (rowB b P 0 :: rowB b P 1 :: rowB b P 2 :: L)) (.slice (P w).1 (b w).v.length (P w).2) (b w).v := by
  rcases (show w = 0 ∨ w = 1 ∨ w = 2 by omega) with rfl | rfl | rfl
  · exact vL 0 rfl rowT_reads
  · exact vL 1 rfl rowT_reads
  · exact vL 2 rfl rowT_reads
theorem Mem.tail {A : At} {L : List At} {H0 : Nat → Prop} {w0 W : World} (h : Mem (A :: L) H0 w0 W) : Mem L H0 w0 W := by
  obtain ⟨H', hs, hf, hk⟩ := h
  obtain ⟨H1, H2, _, h2, _, hu⟩ := hs
  exact ⟨H2, h2, hf, fun k hk2 => hk k ((hu k).2 (.inr hk2))⟩
theorem Mem.setRow {b : Nat → Bg} {P : Nat → Option Addr × Nat} {x : Bg} {p : Option Addr} {c w : Nat} (hw : w < 3) {L : List At} {H0 : Nat → Prop} {w0 W : World} (h : Mem (rowT elemV (.slice p x.v.length c) x.v :: rowB b P 0 :: rowB b P 1 :: rowB b P 2 :: L) H0 w0 W) : Mem (rowB (upd b w x) (upd P w (p, c)) 0 :: rowB (upd b w x) (upd P w (p, c)) 1 :: rowB (upd b w x) (upd P w (p, c)) 2 :: L) H0 w0 W := by
  rcases (show w = 0 ∨ w = 1 ∨ w = 2 by omega) with rfl | rfl | rfl
  · exact Mem.tail (Mem.front h [1] rfl)
  · exact Mem.front (Mem.tail (Mem.front h [2] rfl)) [1] rfl
  · exact Mem.front (Mem.tail (Mem.front h [3] rfl)) [1, 1] rfl
theorem run_textR {W : World} {a : Act} {o : Oper} {x : Operand} {b : Nat} {n1 n2 : Int} (h : RowAt elemU W (.slice (some ⟨b, 0, none⟩) 2 2) [n1, n2]) (ho : o.op = .convert 56 9 x) (hx : a.eval x = .slice (some ⟨b, 0, none⟩) 2 2) : (execOp a.eval o).run Try.prog W = .ok (.value (.string (strOfNums [n1, n2]))) W := by
  rcases h with ⟨h, _⟩ | ⟨b', o', c', he, _, hc⟩
  · cases h
  · simp only [Value.slice.injEq, Option.some.injEq, Addr.mk.injEq] at he
    obtain ⟨⟨rfl, rfl, _⟩, _, _⟩ := he
    exact run_text2 (hc 0 n1 rfl 0 _ rfl) (hc 1 n2 rfl 0 _ rfl) ho hx
theorem upd_self {β : Type} (f : Nat → β) (w : Nat) (x : β) : upd f w x w = x := if_pos rfl
theorem n3C_atU {n : Nat → Nat} {w x : Nat} (hw : w < 3) : (n3C (upd n w x))[w]? = some (.int .i64 (x : Int)) := by
  rw [n3C_at hw, upd_self]
/-- What play returns: three bags, each with its row, or nothing that is looked at. -/
def playT (u : Value) : Option Tri → At
  | none => exT fun g : Nat → Hb => [prT (u = .tuple #[b3V g, .bool false])]
  | some T => exT fun P : Nat → Option Addr × Nat => [prT (u = .tuple #[b3V (hb3 T.b P), .bool true]), rowB T.b P 0, rowB T.b P 1, rowB T.b P 2]
theorem runT_none {tx : Nat → Nat → ByteArray} {l : List Stp} {k : Nat} (h : runT tx l k = none) : ∀ j, runT tx l (k + j) = none
  | 0 => h
  | j + 1 => by
    show runT tx l (k + j + 1) = none
    unfold runT
    rw [runT_none h j]
theorem runT_fail {tx : Nat → Nat → ByteArray} {l : List Stp} {k : Nat} {T : Tri} {s : Stp} (h : runT tx l k = some T) (hs : l[k]? = some s) (he : (actT tx T s).2 ≠ 0) {m : Nat} (hm : k < m) : runT tx l m = none := by
  obtain ⟨j, rfl⟩ := Nat.exists_eq_add_of_lt hm
  have h1 : runT tx l (k + 1) = none := by
    unfold runT
    rw [h]
    dsimp only
    rw [hs]
    exact if_neg he
  have := runT_none h1 j
  rwa [show k + 1 + j = k + j + 1 by omega] at this
theorem readsAt {b : Nat → Bg} {P : Nat → Option Addr × Nat} {l : List At} (i : Nat) (h0 : l[i]? = some (rowB b P 0)) (h1 : l[i + 1]? = some (rowB b P 1)) (h2 : l[i + 2]? = some (rowB b P 2)) {w : Nat} (hw : w < 3) : Reads elemV (listT l) (.slice (P w).1 (b w).v.length (P w).2) (b w).v := by
  rcases (show w = 0 ∨ w = 1 ∨ w = 2 by omega) with rfl | rfl | rfl
  · exact vL i h0 rowT_reads
  · exact vL (i + 1) h1 rowT_reads
  · exact vL (i + 2) h2 rowT_reads
theorem Mem.play {u : Value} {T : Tri} {L : List At} {H0 : Nat → Prop} {w W : World} (h : Mem (playT u (some T) :: L) H0 w W) : ∃ P, u = .tuple #[b3V (hb3 T.b P), .bool true] ∧ Mem (rowB T.b P 0 :: rowB T.b P 1 :: rowB T.b P 2 :: L) H0 w W := by
  obtain ⟨P, h⟩ := Mem.ex h
  obtain ⟨hu, h⟩ := Mem.pr h
  exact ⟨P, hu, h⟩
theorem Mem.play0 {u : Value} {L : List At} {H0 : Nat → Prop} {w W : World} (h : Mem (playT u none :: L) H0 w W) : ∃ g, u = .tuple #[b3V g, .bool false] ∧ Mem L H0 w W := by
  obtain ⟨P, h⟩ := Mem.ex h
  obtain ⟨hu, h⟩ := Mem.pr h
  exact ⟨P, hu, h⟩
theorem run_headP {a : Act} {o : Oper} {W : World} {x h : Operand} {p : Option Addr} {n c k : Nat} (hk : k ≤ c) (ho : o.op = .slice 22 x none (some h) none) (hx : a.eval x = .slice p n c) (hh : a.eval h = .int .i64 (k : Int)) : (execOp a.eval o).run Try.prog W = .ok (.value (.slice p k c)) W := by
  have hu : Try.prog.underlying 22 = some (.slice (Try.prog.elem 22)) := Try.underlying22
  have e : (Try.prog.info? 55).map (·.size) = some 3 := by kernel_rfl
  have he : Try.prog.elem 22 = 55 := by kernel_rfl
  obtain ⟨i0, h1, h2⟩ := Option.map_eq_some_iff.1 e
  have hs : (sizeOf 55).run Try.prog W = .ok 3 W := by simp [sizeOf, typeInfo, h1, h2, go_sem]
  have h3 := run_slice_h (P := Try.prog) W 22 p n c hu .i64 (k : Int) (Int.natCast_nonneg k) (by exact_mod_cast hk)
  rw [he, hs] at h3
  unfold execOp
  simp only [ho, hx, hh, Option.map_none, Option.map_some, Sem.run_bind, run_sliceAt_slice W _ _ _ _ _ hu, h3, Result.andThen_ok]
  cases p <;> simp [sliced, go_sem]
end Go.Proofs.Ytneeidedadlioaa
