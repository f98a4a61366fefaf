/- A part of an element of a row of one's own is set. -/
import Derived.Test.YtnahhbpaijfpbaaSxIns
import Derived.Test.YtnahhbpaijfpbaaLgO
namespace Go.Proofs.Ytnahhbpaijfpbaa
open Go Go.RowKit Go.BigFrame

section
variable {P : Program} {α : Type} {E : Elem P α} {W w : World} {H0 : Nat → Prop} {L : List At} {S : Nat → Prop} {ops : Array Oper} {Q : Act → World → Prop} {rest : List (Nat × Nat)} {a : Act} {i : Nat} {o : Oper} {d : Option Tmp}
theorem cells_set {v : Value} {q : Nat} (hq : q < E.k) : ∀ {xs : List α} {j : Nat} {x0 y0 : α}, xs[j]? = some x0 → (E.enc x0).set q v = E.enc y0 → (E.cells xs).set (j * E.k + q) v = E.cells (xs.set j y0)
  | [], j, _, _, h, _ => by simp at h
  | x :: l, 0, x0, y0, h, hn => by
    simp only [List.getElem?_cons_zero, Option.some.injEq] at h
    subst h
    rw [Nat.zero_mul, Nat.zero_add]
    show (E.enc x ++ E.cells l).set q v = E.enc y0 ++ E.cells l
    rw [List.set_append_left _ _ (by rw [E.len]; exact hq), hn]
  | x :: l, j + 1, x0, y0, h, hn => by
    rw [List.getElem?_cons_succ] at h
    show (E.enc x ++ E.cells l).set _ v = E.enc x ++ E.cells (l.set j y0)
    have e : (j + 1) * E.k + q = E.k + (j * E.k + q) := by rw [Nat.succ_mul]; omega
    rw [List.set_append_right _ _ (by rw [E.len, e]; omega), E.len, e, Nat.add_sub_cancel_left, cells_set hq h hn]
theorem wpS_addrE {x ix : Operand} {p : Option Addr} {n cap j : Nat} {xs : List α} (hi : ops[i]? = some o) (hw : Region.wanted o (yielded ops a.tmps) = true) (ho : o.op = .indexAddr E.sl x ix) (hx : a.eval x = .slice p n cap) (hix : a.eval ix = .int .i64 (j : Int)) (hm : Mem L H0 w W) (k : Nat) (hk : L[k]? = some (rowT E (.slice p n cap) xs)) (hj : j < xs.length) (hd : o.dst = d)
    (h : ∀ b, p = some ⟨b, 0, none⟩ → wpS P ops S Q rest (a.put d (.pointer (some ⟨b, j * E.k, none⟩))) W) : wpS P ops S Q ((i, 1) :: rest) a W := by
  have hm1 : Mem (rowT E (.slice p n cap) xs :: L.eraseIdx k) H0 w W := SEnd.mono hm fun _ h => stars_pick L k _ hk h
  obtain ⟨b, cur, hp, hn, _⟩ := hm1.rowOpen (by omega)
  obtain ⟨i0, hin, hz0, hz1, hz2⟩ := info_parts E.info
  refine wpS_read hi hw (v := .pointer (some ⟨b, j * E.k, none⟩)) ?_ hd (h b hp)
  subst hp
  have hu : (underlying E.sl).run P W = .ok (.slice E.t) W := by simp [underlying, E.under, go_sem]
  have hs : (sizeOf E.t).run P W = .ok E.k W := by simp [sizeOf, typeInfo, hin, hz1, go_sem]
  have hlt : j < n := by omega
  unfold execOp
  simp only [ho, hx, hix, Instr.indexAt, asIntOf, Sem.run_bind, Sem.run_pure, Result.andThen_ok, hu]
  simp [hs, hlt, addr_off, go_sem]
theorem wpS_setE {t : TypeId} {x y : Operand} {p : Option Addr} {b n cap j q : Nat} {v : Value} {xs : List α} {x0 y0 : α} {L2 : List At} (hi : ops[i]? = some o) (hw : Region.wanted o (yielded ops a.tmps) = true) (ho : o.op = .store t x y) (hx : a.eval x = .pointer (some ⟨b, j * E.k + q, none⟩)) (hy : a.eval y = v) (hv : v.cells.toList = [v]) (hn1 : (P.info? t).map (fun i => i.size) = some 1) (hone : ([v].all Value.oneCell') = true)
    (hm : Mem L H0 w W) (k : Nat) (hk : L[k]? = some (rowT E (.slice p n cap) xs)) (hp : p = some ⟨b, 0, none⟩) (hL2 : L.eraseIdx k = L2) (hq : q < E.k) (hxj : xs[j]? = some x0) (hnew : (E.enc x0).set q v = E.enc y0) (hS : CovS L2 S) (hd : o.dst = none) (h : ∀ W', Mem (rowT E (.slice p n cap) (xs.set j y0) :: L2) H0 w W' → GK S W W' → wpS P ops S Q rest a W') : wpS P ops S Q ((i, 3) :: rest) a W := by
  subst hL2
  have hj := (List.getElem?_eq_some_iff.1 hxj).1
  have hm1 : Mem (rowT E (.slice p n cap) xs :: L.eraseIdx k) H0 w W := SEnd.mono hm fun _ h => stars_pick L k _ hk h
  obtain ⟨g, cur, hp', hn, hc, hmx, hl, ht, hm2⟩ := hm1.rowOpen (by omega)
  rw [hp] at hp'
  simp only [Option.some.injEq, Addr.mk.injEq, and_true] at hp'
  subst hp' hp
  have hb : j * E.k + q < n * E.k := by
    rw [hn]
    exact Nat.lt_of_lt_of_le (show j * E.k + q < (j + 1) * E.k by rw [Nat.succ_mul]; omega) (Nat.mul_le_mul_right _ hj)
  have hb2 : n * E.k ≤ cap * E.k := Nat.mul_le_mul_right _ hc
  refine wpS_store (v := v) (vs := [v]) (cs := cur) (cs' := cur.set (j * E.k + q) v) hi hw ho hx hy hv hn1 hone hm2 0 rfl (by rw [List.length_singleton, hl]; omega) rfl hS hd fun W' hm3 hg => h W' ?_ hg
  refine Mem.rowClose (by rw [List.length_set, hn]) hc hmx (by rw [List.length_set, hl]) ?_ hm3
  rw [← cells_set hq hxj hnew, ← ht]
  exact List.take_set
end
end Go.Proofs.Ytnahhbpaijfpbaa
