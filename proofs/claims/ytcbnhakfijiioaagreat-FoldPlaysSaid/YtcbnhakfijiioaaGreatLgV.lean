/- LgV: LgV, LgO, LgW. -/
import Derived.Test.YtcbnhakfijiioaaGreatLgM
import Derived.Test.YtcbnhakfijiioaaGreatRgV
import Derived.Test.YtcbnhakfijiioaaGreatBgV
import Derived.Test.YtcbnhakfijiioaaGreatPB
namespace Go.Proofs.YtcbnhakfijiioaaGreat
section
open Go Go.RowKit Go.BigFrame
def ddC (d : Dd) (sv sr : Value) : List Value := [.int .i64 d.kind, .int .i64 d.n, .string d.key] ++ (bgC d.b.k sv ++ (rgC d.r sr ++ [.int .i64 d.part]))
abbrev ddV (d : Dd) (sv sr : Value) : Value := .agg (ddC d sv sr).toArray
section
variable {d : Dd} {sv sr : Value}
theorem ddC_all : ∀ k u, (ddC d sv sr)[k]? = some u → (ddC d sv sr)[0 + k]? = some u := fun k u h => by rwa [Nat.zero_add]
theorem ddC_bag : ∀ k u, (bgC d.b.k sv)[k]? = some u → (ddC d sv sr)[3 + k]? = some u := fun _ _ h => sub_app [_, _, _] _ _ h
theorem ddC_ring : ∀ k u, (rgC d.r sr)[k]? = some u → (ddC d sv sr)[12 + k]? = some u := fun k u h => by
 have h1 := sub_app ([Value.int .i64 d.kind, .int .i64 d.n, .string d.key] ++ bgC d.b.k sv) (rgC d.r sr) [.int .i64 d.part] h
 rw [List.append_assoc] at h1
 exact h1
theorem ddC_part : (ddC d sv sr)[55]? = some (.int .i64 d.part) := by kernel_rfl
theorem ddC_vals : (ddC d sv sr)[11]? = some sv := by kernel_rfl
theorem ddC_tgts : (ddC d sv sr)[22]? = some sr := by kernel_rfl
theorem ddC_setKind (z : Int) : putL (ddC d sv sr) 0 [.int .i64 z] = ddC ⟨z, d.n, d.key, d.b, d.r, d.part⟩ sv sr := by kernel_rfl
theorem ddC_setN (z : Int) : putL (ddC d sv sr) 1 [.int .i64 z] = ddC ⟨d.kind, z, d.key, d.b, d.r, d.part⟩ sv sr := by kernel_rfl
theorem ddC_setKey (s : ByteArray) : putL (ddC d sv sr) 2 [.string s] = ddC ⟨d.kind, d.n, s, d.b, d.r, d.part⟩ sv sr := by kernel_rfl
theorem ddC_setBag (x : Bg) (s : Value) : putL (ddC d sv sr) 3 (bgC x.k s) = ddC ⟨d.kind, d.n, d.key, x, d.r, d.part⟩ s sr := by kernel_rfl
theorem ddC_setRing (x : Rg) (s : Value) : putL (ddC d sv sr) 12 (rgC x s) = ddC ⟨d.kind, d.n, d.key, d.b, x, d.part⟩ sv s := by kernel_rfl
theorem ddC_setPart (z : Int) : putL (ddC d sv sr) 55 [.int .i64 z] = ddC ⟨d.kind, d.n, d.key, d.b, d.r, z⟩ sv sr := by kernel_rfl
theorem ddC_setVals (s : Value) : putL (ddC d sv sr) 11 [s] = ddC d s sr := by kernel_rfl
theorem ddC_setTgts (s : Value) : putL (ddC d sv sr) 22 [s] = ddC d sv s := by kernel_rfl
theorem ddC_one (p q : Option Addr) (n m c e : Nat) : ((ddC d (.slice p n c) (.slice q m e)).all Value.oneCell') = true := by kernel_rfl
end
structure DdR (R : At) (d : Dd) (sv sr : Value) : Prop where
 v : Reads elemV R sv d.b.v
 lv : d.b.v.length ≤ 4398046510976
 r : Reads elemI R sr d.r.p.2.2
 lr : d.r.p.2.2.length ≤ 1000
structure Dx where
 d : Dd
 vp : Option Addr
 vn : Nat
 vc : Nat
 rp : Option Addr
 rn : Nat
 rc : Nat
def Dx.sv (x : Dx) : Value := .slice x.vp x.vn x.vc
def Dx.sr (x : Dx) : Value := .slice x.rp x.rn x.rc
instance : Inhabited Dx := ⟨⟨noD, none, 0, 0, none, 0, 0⟩⟩
def Dx.enc (x : Dx) : List Value := ddC x.d (.slice x.vp x.vn x.vc) (.slice x.rp x.rn x.rc)
def elemDx : Elem Tryz.prog Dx where
 enc := Dx.enc
 k := 56
 pos := by decide
 len _ := rfl
 one x u hu := List.all_eq_true.1 (show x.enc.all Value.oneCell' = true by kernel_rfl) u hu
 t := 85
 sl := 82
 under := Tryz.underlying82
 z := .agg (default : Dx).enc.toArray
 bytes := 488
 bpos := by decide
 info := by kernel_rfl
 zs := by kernel_rfl
def DxR (R : At) (x : Dx) : Prop := DdR R x.d x.sv x.sr
end
section
open Go Go.RowKit Go.BigFrame
def rowsX (x : Dx) : List At := [rowT elemV x.sv x.d.b.v, rowT elemI x.sr x.d.r.p.2.2]
def ownX (xs : List Dx) : At := listT (xs.flatMap rowsX)
theorem vMem {α : Type} {E : Elem Tryz.prog α} {v : Value} {xs : List α} {l : List At} {A : At} (hA : A ∈ l) (hr : Reads E A v xs) : Reads E (listT l) v xs := by
 obtain ⟨i, hi⟩ := List.mem_iff_getElem?.1 hA
 exact vL i hi hr
theorem ownX_v {xs : List Dx} {x : Dx} (h : x ∈ xs) : Reads elemV (ownX xs) x.sv x.d.b.v := vMem (List.mem_flatMap.2 ⟨x, h, List.mem_cons_self⟩) rowT_reads
theorem ownX_r {xs : List Dx} {x : Dx} (h : x ∈ xs) : Reads elemI (ownX xs) x.sr x.d.r.p.2.2 := vMem (List.mem_flatMap.2 ⟨x, h, List.mem_cons_of_mem _ List.mem_cons_self⟩) rowT_reads
theorem ownX_reads {xs : List Dx} (h : ∀ d ∈ xs.map (fun x => x.d), mayD d = true) : ∀ x ∈ xs, DxR (ownX xs) x := fun x hx => by
 have hm := mayD_len (h x.d (List.mem_map.2 ⟨x, hx, rfl⟩))
 exact ⟨ownX_v hx, by omega, ownX_r hx, by omega⟩
def alT (u : Value) (l : List Dd) : At := exT fun s : List Dx × Option Addr × Nat => [prT (s.1.map (fun x => x.d) = l ∧ u = .slice s.2.1 s.1.length s.2.2), rowT elemDx (.slice s.2.1 s.1.length s.2.2) s.1, ownX s.1]
section
variable {L : List At} {H0 : Nat → Prop} {w W : World}
theorem Mem.alR {u : Value} {l : List Dd} (h : Mem (alT u l :: L) H0 w W) : ∃ (xs : List Dx) (p : Option Addr) (c : Nat), xs.map (fun x => x.d) = l ∧ u = .slice p xs.length c ∧ Mem (rowT elemDx (.slice p xs.length c) xs :: ownX xs :: L) H0 w W := by
 obtain ⟨s, h⟩ := Mem.ex h
 obtain ⟨hu, h⟩ := Mem.pr h
 exact ⟨s.1, s.2.1, s.2.2, hu.1, hu.2, h⟩
theorem Mem.toAlR {p : Option Addr} {c : Nat} {xs : List Dx} (h : Mem (rowT elemDx (.slice p xs.length c) xs :: ownX xs :: L) H0 w W) : Mem (alT (.slice p xs.length c) (xs.map fun x => x.d) :: L) H0 w W := Mem.addEx (xs, p, c) (Mem.addPr ⟨rfl, rfl⟩ h)
end
end
section
open Go Go.RowKit Go.BigFrame
section
variable {P : Program} {α : Type} {E : Elem P α} {W w : World} {H0 : Nat → Prop} {L : List At} {S : Nat → Prop} {ops : Array Oper} {Q : Act → World → Prop} {rest : List (Nat × Nat)} {a : Act} {i : Nat} {o : Oper} {d : Option Tmp}
theorem cells_set {v : Value} {q : Nat} (hq : q < E.k) : ∀ {xs : List α} {j : Nat} {x0 y0 : α}, xs[j]? = some x0 → (E.enc x0).set q v = E.enc y0 → (E.cells xs).set (j * E.k + q) v = E.cells (xs.set j y0)
 | [], j, _, _, h, _ => by simp at h
 | x :: l, 0, x0, y0, h, hn => by
  simp only [List.getElem?_cons_zero, Option.some.injEq] at h
  subst h
  rw [Nat.zero_mul, Nat.zero_add]
  show (E.enc x ++ E.cells l).set q v = E.enc y0 ++ E.cells l
  rw [List.set_append_left _ _ (by rw [E.len]; exact hq), hn]
 | x :: l, j + 1, x0, y0, h, hn => by
  rw [List.getElem?_cons_succ] at h
  show (E.enc x ++ E.cells l).set _ v = E.enc x ++ E.cells (l.set j y0)
  have e : (j + 1) * E.k + q = E.k + (j * E.k + q) := by rw [Nat.succ_mul]; omega
  rw [List.set_append_right _ _ (by rw [E.len, e]; omega), E.len, e, Nat.add_sub_cancel_left, cells_set hq h hn]
theorem wpS_addrE {x ix : Operand} {p : Option Addr} {n cap j : Nat} {xs : List α} (hi : ops[i]? = some o) (hw : Region.wanted o (yielded ops a.tmps) = true) (ho : o.op = .indexAddr E.sl x ix) (hx : a.eval x = .slice p n cap) (hix : a.eval ix = .int .i64 (j : Int)) (hm : Mem L H0 w W) (k : Nat) (hk : L[k]? = some (rowT E (.slice p n cap) xs)) (hj : j < xs.length) (hd : o.dst = d)
  (h : ∀ b, p = some ⟨b, 0, none⟩ → wpS P ops S Q rest (a.put d (.pointer (some ⟨b, j * E.k, none⟩))) W) : wpS P ops S Q ((i, 1) :: rest) a W := by
 have hm1 : Mem (rowT E (.slice p n cap) xs :: L.eraseIdx k) H0 w W := SEnd.mono hm fun _ h => stars_pick L k _ hk h
 obtain ⟨b, cur, hp, hn, _⟩ := hm1.rowOpen (by omega)
 obtain ⟨i0, hin, hz0, hz1, hz2⟩ := info_parts E.info
 refine wpS_read hi hw (v := .pointer (some ⟨b, j * E.k, none⟩)) ?_ hd (h b hp)
 subst hp
 have hu : (underlying E.sl).run P W = .ok (.slice E.t) W := by simp [underlying, E.under, go_sem]
 have hs : (sizeOf E.t).run P W = .ok E.k W := by simp [sizeOf, typeInfo, hin, hz1, go_sem]
 have hlt : j < n := by omega
 unfold execOp
 simp only [ho, hx, hix, Instr.indexAt, asIntOf, Sem.run_bind, Sem.run_pure, Result.andThen_ok, hu]
 simp [hs, hlt, addr_off, go_sem]
theorem wpS_setE {t : TypeId} {x y : Operand} {p : Option Addr} {b n cap j q : Nat} {v : Value} {xs : List α} {x0 y0 : α} {L2 : List At} (hi : ops[i]? = some o) (hw : Region.wanted o (yielded ops a.tmps) = true) (ho : o.op = .store t x y) (hx : a.eval x = .pointer (some ⟨b, j * E.k + q, none⟩)) (hy : a.eval y = v) (hv : v.cells.toList = [v]) (hn1 : (P.info? t).map (fun i => i.size) = some 1) (hone : ([v].all Value.oneCell') = true)
  (hm : Mem L H0 w W) (k : Nat) (hk : L[k]? = some (rowT E (.slice p n cap) xs)) (hp : p = some ⟨b, 0, none⟩) (hL2 : L.eraseIdx k = L2) (hq : q < E.k) (hxj : xs[j]? = some x0) (hnew : (E.enc x0).set q v = E.enc y0) (hS : CovS L2 S) (hd : o.dst = none) (h : ∀ W', Mem (rowT E (.slice p n cap) (xs.set j y0) :: L2) H0 w W' → GK S W W' → wpS P ops S Q rest a W') : wpS P ops S Q ((i, 3) :: rest) a W := by
 subst hL2
 have hj := (List.getElem?_eq_some_iff.1 hxj).1
 have hm1 : Mem (rowT E (.slice p n cap) xs :: L.eraseIdx k) H0 w W := SEnd.mono hm fun _ h => stars_pick L k _ hk h
 obtain ⟨g, cur, hp', hn, hc, hmx, hl, ht, hm2⟩ := hm1.rowOpen (by omega)
 rw [hp] at hp'
 simp only [Option.some.injEq, Addr.mk.injEq, and_true] at hp'
 subst hp' hp
 have hb : j * E.k + q < n * E.k := by
  rw [hn]
  exact Nat.lt_of_lt_of_le (show j * E.k + q < (j + 1) * E.k by rw [Nat.succ_mul]; omega) (Nat.mul_le_mul_right _ hj)
 have hb2 : n * E.k ≤ cap * E.k := Nat.mul_le_mul_right _ hc
 refine wpS_store (v := v) (vs := [v]) (cs := cur) (cs' := cur.set (j * E.k + q) v) hi hw ho hx hy hv hn1 hone hm2 0 rfl (by rw [List.length_singleton, hl]; omega) rfl hS hd fun W' hm3 hg => h W' ?_ hg
 refine Mem.rowClose (by rw [List.length_set, hn]) hc hmx (by rw [List.length_set, hl]) ?_ hm3
 rw [← cells_set hq hxj hnew, ← ht]
 exact List.take_set
end
end
end Go.Proofs.YtcbnhakfijiioaaGreat
