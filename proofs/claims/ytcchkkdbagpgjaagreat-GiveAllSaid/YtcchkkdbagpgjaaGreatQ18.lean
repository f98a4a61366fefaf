/- Q18: LgV, Q10. -/
import Derived.Test.YtcchkkdbagpgjaaGreatQ09
import Derived.Test.YtcchkkdbagpgjaaGreatRgV
import Derived.Test.YtcchkkdbagpgjaaGreatBgV
import Derived.Test.YtcchkkdbagpgjaaGreatPB
import Derived.Test.YtcchkkdbagpgjaaGreatQ12
import Derived.Test.YtcchkkdbagpgjaaGreatQ13
import Derived.Test.YtcchkkdbagpgjaaGreatQ16
import Derived.Test.YtcchkkdbagpgjaaGreatRgK
import Derived.Test.YtcchkkdbagpgjaaGreatPA
namespace Go.Proofs.YtcchkkdbagpgjaaGreat
section
open Go Go.RowKit Go.BigFrame
def ddC (d : Dd) (sv sr : Value) : List Value := [.int .i64 d.kind, .int .i64 d.n, .string d.key] ++ (bgC d.b.k sv ++ (rgC d.r sr ++ [.int .i64 d.part]))
abbrev ddV (d : Dd) (sv sr : Value) : Value := .agg (ddC d sv sr).toArray
section
variable {d : Dd} {sv sr : Value}
theorem ddC_all : ∀ k u, (ddC d sv sr)[k]? = some u → (ddC d sv sr)[0 + k]? = some u := fun k u h => by rwa [Nat.zero_add]
theorem ddC_bag : ∀ k u, (bgC d.b.k sv)[k]? = some u → (ddC d sv sr)[3 + k]? = some u := fun _ _ h => sub_app [_, _, _] _ _ h
theorem ddC_ring : ∀ k u, (rgC d.r sr)[k]? = some u → (ddC d sv sr)[12 + k]? = some u := fun k u h => by
 have h1 := sub_app ([Value.int .i64 d.kind, .int .i64 d.n, .string d.key] ++ bgC d.b.k sv) (rgC d.r sr) [.int .i64 d.part] h
 rw [List.append_assoc] at h1
 exact h1
theorem ddC_part : (ddC d sv sr)[55]? = some (.int .i64 d.part) := by kernel_rfl
theorem ddC_vals : (ddC d sv sr)[11]? = some sv := by kernel_rfl
theorem ddC_tgts : (ddC d sv sr)[22]? = some sr := by kernel_rfl
theorem ddC_setN (z : Int) : putL (ddC d sv sr) 1 [.int .i64 z] = ddC ⟨d.kind, z, d.key, d.b, d.r, d.part⟩ sv sr := by kernel_rfl
theorem ddC_setKey (s : ByteArray) : putL (ddC d sv sr) 2 [.string s] = ddC ⟨d.kind, d.n, s, d.b, d.r, d.part⟩ sv sr := by kernel_rfl
theorem ddC_setBag (x : Bg) (s : Value) : putL (ddC d sv sr) 3 (bgC x.k s) = ddC ⟨d.kind, d.n, d.key, x, d.r, d.part⟩ s sr := by kernel_rfl
theorem ddC_setRing (x : Rg) (s : Value) : putL (ddC d sv sr) 12 (rgC x s) = ddC ⟨d.kind, d.n, d.key, d.b, x, d.part⟩ sv s := by kernel_rfl
theorem ddC_setPart (z : Int) : putL (ddC d sv sr) 55 [.int .i64 z] = ddC ⟨d.kind, d.n, d.key, d.b, d.r, z⟩ sv sr := by kernel_rfl
theorem ddC_setVals (s : Value) : putL (ddC d sv sr) 11 [s] = ddC d s sr := by kernel_rfl
theorem ddC_setTgts (s : Value) : putL (ddC d sv sr) 22 [s] = ddC d sv s := by kernel_rfl
theorem ddC_one (p q : Option Addr) (n m c e : Nat) : ((ddC d (.slice p n c) (.slice q m e)).all Value.oneCell') = true := by kernel_rfl
end
structure DdR (R : At) (d : Dd) (sv sr : Value) : Prop where
 v : Reads elemV R sv d.b.v
 lv : d.b.v.length ≤ 4398046510976
 r : Reads elemI R sr d.r.p.2.2
 lr : d.r.p.2.2.length ≤ 1000
structure Dx where
 d : Dd
 vp : Option Addr
 vn : Nat
 vc : Nat
 rp : Option Addr
 rn : Nat
 rc : Nat
def Dx.sv (x : Dx) : Value := .slice x.vp x.vn x.vc
def Dx.sr (x : Dx) : Value := .slice x.rp x.rn x.rc
instance : Inhabited Dx := ⟨⟨noD, none, 0, 0, none, 0, 0⟩⟩
def Dx.enc (x : Dx) : List Value := ddC x.d (.slice x.vp x.vn x.vc) (.slice x.rp x.rn x.rc)
def elemDx : Elem Tryz.prog Dx where
 enc := Dx.enc
 k := 56
 pos := by decide
 len _ := rfl
 one x u hu := List.all_eq_true.1 (show x.enc.all Value.oneCell' = true by kernel_rfl) u hu
 t := 96
 sl := 93
 under := Tryz.underlying93
 z := .agg (default : Dx).enc.toArray
 bytes := 488
 bpos := by decide
 info := by kernel_rfl
 zs := by kernel_rfl
def DxR (R : At) (x : Dx) : Prop := DdR R x.d x.sv x.sr
end
section
open Go Go.RowKit Go.BigFrame
def rowsX (x : Dx) : List At := [rowT elemV x.sv x.d.b.v, rowT elemI x.sr x.d.r.p.2.2]
def ownX (xs : List Dx) : At := listT (xs.flatMap rowsX)
theorem vMem {α : Type} {E : Elem Tryz.prog α} {v : Value} {xs : List α} {l : List At} {A : At} (hA : A ∈ l) (hr : Reads E A v xs) : Reads E (listT l) v xs := by
 obtain ⟨i, hi⟩ := List.mem_iff_getElem?.1 hA
 exact vL i hi hr
theorem ownX_v {xs : List Dx} {x : Dx} (h : x ∈ xs) : Reads elemV (ownX xs) x.sv x.d.b.v := vMem (List.mem_flatMap.2 ⟨x, h, List.mem_cons_self⟩) rowT_reads
theorem ownX_r {xs : List Dx} {x : Dx} (h : x ∈ xs) : Reads elemI (ownX xs) x.sr x.d.r.p.2.2 := vMem (List.mem_flatMap.2 ⟨x, h, List.mem_cons_of_mem _ List.mem_cons_self⟩) rowT_reads
theorem ownX_reads {xs : List Dx} (h : ∀ d ∈ xs.map (fun x => x.d), mayD d = true) : ∀ x ∈ xs, DxR (ownX xs) x := fun x hx => by
 have hm := mayD_len (h x.d (List.mem_map.2 ⟨x, hx, rfl⟩))
 exact ⟨ownX_v hx, by omega, ownX_r hx, by omega⟩
def alT (u : Value) (l : List Dd) : At := exT fun s : List Dx × Option Addr × Nat => [prT (s.1.map (fun x => x.d) = l ∧ u = .slice s.2.1 s.1.length s.2.2), rowT elemDx (.slice s.2.1 s.1.length s.2.2) s.1, ownX s.1]
section
variable {L : List At} {H0 : Nat → Prop} {w W : World}
theorem Mem.alR {u : Value} {l : List Dd} (h : Mem (alT u l :: L) H0 w W) : ∃ (xs : List Dx) (p : Option Addr) (c : Nat), xs.map (fun x => x.d) = l ∧ u = .slice p xs.length c ∧ Mem (rowT elemDx (.slice p xs.length c) xs :: ownX xs :: L) H0 w W := by
 obtain ⟨s, h⟩ := Mem.ex h
 obtain ⟨hu, h⟩ := Mem.pr h
 exact ⟨s.1, s.2.1, s.2.2, hu.1, hu.2, h⟩
theorem Mem.toAlR {p : Option Addr} {c : Nat} {xs : List Dx} (h : Mem (rowT elemDx (.slice p xs.length c) xs :: ownX xs :: L) H0 w W) : Mem (alT (.slice p xs.length c) (xs.map fun x => x.d) :: L) H0 w W := Mem.addEx (xs, p, c) (Mem.addPr ⟨rfl, rfl⟩ h)
end
end
section
open Go Go.RowKit Go.BigFrame
section
variable {P : Program} {α : Type} {E : Elem P α} {W w : World} {H0 : Nat → Prop} {L : List At} {S : Nat → Prop} {ops : Array Oper} {Q : Act → World → Prop} {rest : List (Nat × Nat)} {a : Act} {i : Nat} {o : Oper} {d : Option Tmp}
theorem cells_set {v : Value} {q : Nat} (hq : q < E.k) : ∀ {xs : List α} {j : Nat} {x0 y0 : α}, xs[j]? = some x0 → (E.enc x0).set q v = E.enc y0 → (E.cells xs).set (j * E.k + q) v = E.cells (xs.set j y0)
 | [], j, _, _, h, _ => by simp at h
 | x :: l, 0, x0, y0, h, hn => by
  simp only [List.getElem?_cons_zero, Option.some.injEq] at h
  subst h
  rw [Nat.zero_mul, Nat.zero_add]
  show (E.enc x ++ E.cells l).set q v = E.enc y0 ++ E.cells l
  rw [List.set_append_left _ _ (by rw [E.len]; exact hq), hn]
 | x :: l, j + 1, x0, y0, h, hn => by
  rw [List.getElem?_cons_succ] at h
  show (E.enc x ++ E.cells l).set _ v = E.enc x ++ E.cells (l.set j y0)
  have e : (j + 1) * E.k + q = E.k + (j * E.k + q) := by rw [Nat.succ_mul]; omega
  rw [List.set_append_right _ _ (by rw [E.len, e]; omega), E.len, e, Nat.add_sub_cancel_left, cells_set hq h hn]
theorem wpS_addrE {x ix : Operand} {p : Option Addr} {n cap j : Nat} {xs : List α} (hi : ops[i]? = some o) (hw : Region.wanted o (yielded ops a.tmps) = true) (ho : o.op = .indexAddr E.sl x ix) (hx : a.eval x = .slice p n cap) (hix : a.eval ix = .int .i64 (j : Int)) (hm : Mem L H0 w W) (k : Nat) (hk : L[k]? = some (rowT E (.slice p n cap) xs)) (hj : j < xs.length) (hd : o.dst = d)
  (h : ∀ b, p = some ⟨b, 0, none⟩ → wpS P ops S Q rest (a.put d (.pointer (some ⟨b, j * E.k, none⟩))) W) : wpS P ops S Q ((i, 1) :: rest) a W := by
 have hm1 : Mem (rowT E (.slice p n cap) xs :: L.eraseIdx k) H0 w W := SEnd.mono hm fun _ h => stars_pick L k _ hk h
 obtain ⟨b, cur, hp, hn, _⟩ := hm1.rowOpen (by omega)
 obtain ⟨i0, hin, hz0, hz1, hz2⟩ := info_parts E.info
 refine wpS_read hi hw (v := .pointer (some ⟨b, j * E.k, none⟩)) ?_ hd (h b hp)
 subst hp
 have hu : (underlying E.sl).run P W = .ok (.slice E.t) W := by simp [underlying, E.under, go_sem]
 have hs : (sizeOf E.t).run P W = .ok E.k W := by simp [sizeOf, typeInfo, hin, hz1, go_sem]
 have hlt : j < n := by omega
 unfold execOp
 simp only [ho, hx, hix, Instr.indexAt, asIntOf, Sem.run_bind, Sem.run_pure, Result.andThen_ok, hu]
 simp [hs, hlt, addr_off, go_sem]
theorem wpS_setE {t : TypeId} {x y : Operand} {p : Option Addr} {b n cap j q : Nat} {v : Value} {xs : List α} {x0 y0 : α} {L2 : List At} (hi : ops[i]? = some o) (hw : Region.wanted o (yielded ops a.tmps) = true) (ho : o.op = .store t x y) (hx : a.eval x = .pointer (some ⟨b, j * E.k + q, none⟩)) (hy : a.eval y = v) (hv : v.cells.toList = [v]) (hn1 : (P.info? t).map (fun i => i.size) = some 1) (hone : ([v].all Value.oneCell') = true)
  (hm : Mem L H0 w W) (k : Nat) (hk : L[k]? = some (rowT E (.slice p n cap) xs)) (hp : p = some ⟨b, 0, none⟩) (hL2 : L.eraseIdx k = L2) (hq : q < E.k) (hxj : xs[j]? = some x0) (hnew : (E.enc x0).set q v = E.enc y0) (hS : CovS L2 S) (hd : o.dst = none) (h : ∀ W', Mem (rowT E (.slice p n cap) (xs.set j y0) :: L2) H0 w W' → GK S W W' → wpS P ops S Q rest a W') : wpS P ops S Q ((i, 3) :: rest) a W := by
 subst hL2
 have hj := (List.getElem?_eq_some_iff.1 hxj).1
 have hm1 : Mem (rowT E (.slice p n cap) xs :: L.eraseIdx k) H0 w W := SEnd.mono hm fun _ h => stars_pick L k _ hk h
 obtain ⟨g, cur, hp', hn, hc, hmx, hl, ht, hm2⟩ := hm1.rowOpen (by omega)
 rw [hp] at hp'
 simp only [Option.some.injEq, Addr.mk.injEq, and_true] at hp'
 subst hp' hp
 have hb : j * E.k + q < n * E.k := by
  rw [hn]
  exact Nat.lt_of_lt_of_le (show j * E.k + q < (j + 1) * E.k by rw [Nat.succ_mul]; omega) (Nat.mul_le_mul_right _ hj)
 have hb2 : n * E.k ≤ cap * E.k := Nat.mul_le_mul_right _ hc
 refine wpS_store (v := v) (vs := [v]) (cs := cur) (cs' := cur.set (j * E.k + q) v) hi hw ho hx hy hv hn1 hone hm2 0 rfl (by rw [List.length_singleton, hl]; omega) rfl hS hd fun W' hm3 hg => h W' ?_ hg
 refine Mem.rowClose (by rw [List.length_set, hn]) hc hmx (by rw [List.length_set, hl]) ?_ hm3
 rw [← cells_set hq hxj hnew, ← ht]
 exact List.take_set
end
end
end Go.Proofs.YtcchkkdbagpgjaaGreat
namespace Go.Proofs.YtcchkkdbagpgjaaGreat
open Go Go.RowKit Go.BigFrame
def prC (k : ByteArray) (f : Nat → Int) (sl : Value) : List Value := .string k :: bgC f sl
abbrev prV (k : ByteArray) (f : Nat → Int) (sl : Value) : Value := .agg (prC k f sl).toArray
section
variable {k : ByteArray} {f : Nat → Int} {sl : Value}
theorem prC_all : ∀ i u, (prC k f sl)[i]? = some u → (prC k f sl)[0 + i]? = some u := fun i u h => by rwa [Nat.zero_add]
theorem prC_one (p : Option Addr) (n c : Nat) : ((prC k f (.slice p n c)).all Value.oneCell') = true := by kernel_rfl
end
def pairT (u : Value) (k : ByteArray) (x : Bg) (b : Bool) : At := exT fun s : Option Addr × Nat => [prT (u = .tuple #[prV k x.k (.slice s.1 x.v.length s.2), .bool b]), rowT elemV (.slice s.1 x.v.length s.2) x.v]
theorem Mem.pair {u : Value} {k : ByteArray} {x : Bg} {b : Bool} {n : Nat} {L : List At} {H0 : Nat → Prop} {w W : World} (hn : x.v.length = n) (h : Mem (pairT u k x b :: L) H0 w W) : ∃ p c, u = .tuple #[prV k x.k (.slice p n c), .bool b] ∧ Mem (rowT elemV (.slice p n c) x.v :: L) H0 w W := by
 subst hn
 obtain ⟨s, h⟩ := Mem.ex h
 obtain ⟨hu, h⟩ := Mem.pr h
 exact ⟨s.1, s.2, hu, h⟩
def nextTl (F : Fd) (S : Vt) : ByteArray × Bg × Bool :=
 match (nextF F (keysV S F.part)).2 with
 | some k => (k, bagV S k, true)
 | none => (⟨#[]⟩, noB, false)
theorem nextTl_some {F : Fd} {S : Vt} {k : ByteArray} (h : (nextF F (keysV S F.part)).2 = some k) : nextTl F S = (k, bagV S k, true) := by
 unfold nextTl
 rw [h]
theorem nextTl_none {F : Fd} {S : Vt} (h : (nextF F (keysV S F.part)).2 = none) : nextTl F S = (⟨#[]⟩, noB, false) := by
 unfold nextTl
 rw [h]
end Go.Proofs.YtcchkkdbagpgjaaGreat
namespace Go.Proofs.YtcchkkdbagpgjaaGreat
open Go Go.RowKit Go.BigFrame
def msC (m : Ms) (sv sr sc : Value) : List Value := [.int .i64 m.kind, .int .i64 m.frm, .int .i64 m.dst, .int .i64 m.seq, .int .i64 m.re, .int .i64 m.abt, .int .i64 m.part, .int .i64 m.epoch, .string m.key] ++ (bgC m.b.k sv ++ (rgC m.r sr ++ [sc]))
abbrev msV (m : Ms) (sv sr sc : Value) : Value := .agg (msC m sv sr sc).toArray
section
variable {m : Ms} {sv sr sc : Value}
theorem msC_all : ∀ k u, (msC m sv sr sc)[k]? = some u → (msC m sv sr sc)[0 + k]? = some u := fun k u h => by rwa [Nat.zero_add]
theorem msC_bag : ∀ k u, (bgC m.b.k sv)[k]? = some u → (msC m sv sr sc)[9 + k]? = some u := fun _ _ h => sub_app [_, _, _, _, _, _, _, _, _] _ _ h
theorem msC_vals : (msC m sv sr sc)[17]? = some sv := by kernel_rfl
theorem msC_cl : (msC m sv sr sc)[61]? = some sc := by kernel_rfl
theorem msC_kind : (msC m sv sr sc)[0]? = some (.int .i64 m.kind) := rfl
theorem msC_frm : (msC m sv sr sc)[1]? = some (.int .i64 m.frm) := rfl
theorem msC_dst : (msC m sv sr sc)[2]? = some (.int .i64 m.dst) := rfl
theorem msC_seq : (msC m sv sr sc)[3]? = some (.int .i64 m.seq) := rfl
theorem msC_re : (msC m sv sr sc)[4]? = some (.int .i64 m.re) := rfl
theorem msC_abt : (msC m sv sr sc)[5]? = some (.int .i64 m.abt) := rfl
theorem msC_part : (msC m sv sr sc)[6]? = some (.int .i64 m.part) := rfl
theorem msC_epoch : (msC m sv sr sc)[7]? = some (.int .i64 m.epoch) := rfl
theorem msC_key : (msC m sv sr sc)[8]? = some (.string m.key) := rfl
theorem msC_setKind (z : Int) : (msC m sv sr sc).set 0 (.int .i64 z) = msC ⟨z, m.frm, m.dst, m.seq, m.re, m.abt, m.part, m.epoch, m.key, m.b, m.r⟩ sv sr sc := by kernel_rfl
theorem msC_setFrm (z : Int) : (msC m sv sr sc).set 1 (.int .i64 z) = msC ⟨m.kind, z, m.dst, m.seq, m.re, m.abt, m.part, m.epoch, m.key, m.b, m.r⟩ sv sr sc := by kernel_rfl
theorem msC_setDst (z : Int) : (msC m sv sr sc).set 2 (.int .i64 z) = msC ⟨m.kind, m.frm, z, m.seq, m.re, m.abt, m.part, m.epoch, m.key, m.b, m.r⟩ sv sr sc := by kernel_rfl
theorem msC_setSeq (z : Int) : (msC m sv sr sc).set 3 (.int .i64 z) = msC ⟨m.kind, m.frm, m.dst, z, m.re, m.abt, m.part, m.epoch, m.key, m.b, m.r⟩ sv sr sc := by kernel_rfl
theorem msC_setPart (z : Int) : (msC m sv sr sc).set 6 (.int .i64 z) = msC ⟨m.kind, m.frm, m.dst, m.seq, m.re, m.abt, z, m.epoch, m.key, m.b, m.r⟩ sv sr sc := by kernel_rfl
theorem msC_setEpoch (z : Int) : (msC m sv sr sc).set 7 (.int .i64 z) = msC ⟨m.kind, m.frm, m.dst, m.seq, m.re, m.abt, m.part, z, m.key, m.b, m.r⟩ sv sr sc := by kernel_rfl
theorem msC_setKey (z : ByteArray) : (msC m sv sr sc).set 8 (.string z) = msC ⟨m.kind, m.frm, m.dst, m.seq, m.re, m.abt, m.part, m.epoch, z, m.b, m.r⟩ sv sr sc := by kernel_rfl
theorem msC_setBag (x : Bg) (s : Value) : putL (msC m sv sr sc) 9 (bgC x.k s) = msC ⟨m.kind, m.frm, m.dst, m.seq, m.re, m.abt, m.part, m.epoch, m.key, x, m.r⟩ s sr sc := by kernel_rfl
theorem msC_one (p q r : Option Addr) (n c e f g h : Nat) : ((msC m (.slice p n c) (.slice q e f) (.slice r g h)).all Value.oneCell') = true := by kernel_rfl
end
structure Mx where
 m : Ms
 vp : Option Addr
 vn : Nat
 vc : Nat
 rp : Option Addr
 rn : Nat
 rc : Nat
 cp : Option Addr
 cn : Nat
 cc : Nat
def Mx.sv (x : Mx) : Value := .slice x.vp x.vn x.vc
instance : Inhabited Mx := ⟨⟨noMs, none, 0, 0, none, 0, 0, none, 0, 0⟩⟩
def Mx.enc (x : Mx) : List Value := msC x.m (.slice x.vp x.vn x.vc) (.slice x.rp x.rn x.rc) (.slice x.cp x.cn x.cc)
def elemMx : Elem Tryz.prog Mx where
 enc := Mx.enc
 k := 62
 pos := by decide
 len _ := rfl
 one x u hu := List.all_eq_true.1 (show x.enc.all Value.oneCell' = true by kernel_rfl) u hu
 t := 52
 sl := 57
 under := Tryz.underlying57
 z := .agg (default : Mx).enc.toArray
 bytes := 552
 bpos := by decide
 info := by kernel_rfl
 zs := by kernel_rfl
structure Cx where
 act : Int
 key : Int
 at_ : Int
 x : Mx
instance : Inhabited Cx := ⟨⟨0, 0, 0, default⟩⟩
def cxC (c : Cx) : List Value := [.int .i64 c.act, .int .i64 c.key, .int .i64 c.at_] ++ c.x.enc
theorem cxC_msg {c : Cx} : ∀ k u, (msC c.x.m (.slice c.x.vp c.x.vn c.x.vc) (.slice c.x.rp c.x.rn c.x.rc) (.slice c.x.cp c.x.cn c.x.cc))[k]? = some u → (cxC c)[3 + k]? = some u := fun k u h => by
 have h1 := sub_app [Value.int .i64 c.act, .int .i64 c.key, .int .i64 c.at_] c.x.enc [] (k := k) (u := u) h
 rwa [List.append_nil] at h1
theorem cxC_act {c : Cx} : (cxC c)[0]? = some (.int .i64 c.act) := rfl
theorem cxC_key {c : Cx} : (cxC c)[1]? = some (.int .i64 c.key) := rfl
theorem cxC_at {c : Cx} : (cxC c)[2]? = some (.int .i64 c.at_) := rfl
theorem cxC_name {c : Cx} : (cxC c)[11]? = some (.string c.x.m.key) := by kernel_rfl
theorem cxC_vals {c : Cx} : (cxC c)[20]? = some (.slice c.x.vp c.x.vn c.x.vc) := by kernel_rfl
def elemCx : Elem Tryz.prog Cx where
 enc := cxC
 k := 65
 pos := by decide
 len _ := rfl
 one x u hu := List.all_eq_true.1 (show (cxC x).all Value.oneCell' = true by kernel_rfl) u hu
 t := 54
 sl := 22
 under := Tryz.underlying22
 z := .agg (cxC default).toArray
 bytes := 576
 bpos := by decide
 info := by kernel_rfl
 zs := by kernel_rfl
structure OwnM (G : At) (x : Mx) : Prop where
 rd : Reads elemV G x.sv x.m.b.v
 n : x.vn = x.m.b.v.length ∧ x.rp = none ∧ x.rn = 0 ∧ x.rc = 0 ∧ x.cp = none ∧ x.cn = 0 ∧ x.cc = 0
def tellsT (G : At) (u : Value) (l : List Ms) : At := exT fun s : List Mx × Option Addr × Nat => [prT (u = .slice s.2.1 s.1.length s.2.2 ∧ s.1.map (fun x => x.m) = l ∧ ∀ x ∈ s.1, OwnM G x), rowT elemMx (.slice s.2.1 s.1.length s.2.2) s.1]
theorem Mem.tells {G : At} {u : Value} {l : List Ms} {L : List At} {H0 : Nat → Prop} {w W : World} (h : Mem (tellsT G u l :: L) H0 w W) : ∃ (xs : List Mx) (p : Option Addr) (c : Nat), u = .slice p xs.length c ∧ xs.map (fun x => x.m) = l ∧ (∀ x ∈ xs, OwnM G x) ∧ Mem (rowT elemMx (.slice p xs.length c) xs :: L) H0 w W := by
 obtain ⟨s, h⟩ := Mem.ex h
 obtain ⟨hu, h⟩ := Mem.pr h
 exact ⟨s.1, s.2.1, s.2.2, hu.1, hu.2.1, hu.2.2, h⟩
def numsT (u : Value) (l : List Int) : At := exT fun s : Option Addr × Nat => [prT (u = .slice s.1 l.length s.2), rowT elemI (.slice s.1 l.length s.2) l]
theorem Mem.nums {u : Value} {l : List Int} {n : Nat} {L : List At} {H0 : Nat → Prop} {w W : World} (hn : l.length = n) (h : Mem (numsT u l :: L) H0 w W) : ∃ p c, u = .slice p n c ∧ Mem (rowT elemI (.slice p n c) l :: L) H0 w W := by
 subst hn
 obtain ⟨s, h⟩ := Mem.ex h
 obtain ⟨hu, h⟩ := Mem.pr h
 exact ⟨s.1, s.2, hu, h⟩
end Go.Proofs.YtcchkkdbagpgjaaGreat
namespace Go.Proofs.YtcchkkdbagpgjaaGreat
section
open Go Go.ChangeShapes Go.WideShapes Go.ChangeAt Go.RowKit Go.Joins
set_option maxRecDepth 100000 in
theorem read_dot {H : Type} {enc : TypeId × Value → H} {w : World} {base : Nat} {spare : Nat → Bool} {held : Bool} {fuel : Nat} {cs : List Value} {x : DataW H × List MemPlace} (h : DataW.trod enc Tryz.prog w base spare held fuel 72 cs = some x) : ∃ y : En, cs = [.int .i64 y.1, .int .i64 y.2] := by
 have cellsInt : Tryz.prog.cellsOf 3 = 1 := by kernel_rfl
 have cellsE : Tryz.prog.cellsOf 72 = 2 := by kernel_rfl
 obtain ⟨xs, n, _, _, hlen, hxs, hf⟩ := DataW.trod_struct Tryz.underlying72 h
 have h0 : DataW.trod enc Tryz.prog w base spare held n 3 ((cs.drop 0).take (Tryz.prog.cellsOf 3)) = xs[0]? := hf 0 _ rfl
 have h1 : DataW.trod enc Tryz.prog w base spare held n 3 ((cs.drop 1).take (Tryz.prog.cellsOf 3)) = xs[1]? := hf 1 _ rfl
 rw [cellsInt] at h0 h1
 simp only [List.size_toArray, List.length_cons, List.length_nil, Nat.zero_add, Nat.reduceAdd] at hxs
 match cs, hlen.trans cellsE with
 | [a, b], _ =>
  match xs, hxs with
  | [y0, y1], _ =>
   obtain ⟨n0, e0, _⟩ := DataW.trod_int Tryz.underlying3 (h0.trans rfl)
   obtain ⟨n1, e1, _⟩ := DataW.trod_int Tryz.underlying3 (h1.trans rfl)
   simp at e0 e1
   subst e0 e1
   exact ⟨(n0, n1), rfl⟩
def vecD {H : Type} : DataW H := .agg (List.replicate 8 (.lit (.int .i64 0)))
def getV : Option Value → Int
 | some (.int _ n) => n
 | _ => 0
theorem getV_of {o : Option Value} {n : Int} (h : o = some (.int .i64 n)) : o = some (.int .i64 (getV o)) := by
 rw [h]
 rfl
set_option maxRecDepth 100000 in
theorem read_vec {H : Type} {enc : TypeId × Value → H} {w : World} {base : Nat} {spare : Nat → Bool} {held : Bool} {fuel : Nat} {cs : List Value} {x : DataW H × List MemPlace} (h : DataW.trod enc Tryz.prog w base spare held fuel 38 cs = some x) : ∃ f : Nat → Int, cs = vcC f := by
 have cInt : Tryz.prog.cellsOf 3 = 1 := by kernel_rfl
 have cV : Tryz.prog.cellsOf 38 = 8 := by kernel_rfl
 obtain ⟨zs, m, _, _, hlen, hzl, hz⟩ := DataW.trod_array Tryz.underlying38 h
 rw [cV] at hlen
 refine ⟨fun i => getV cs[i]?, ?_⟩
 apply List.ext_getElem?
 intro k
 by_cases h8 : k < 8
 ·rw [vcC_at h8]
  have h3 := hz k h8
  rw [cInt, Nat.mul_one, List.getElem?_eq_getElem (by omega)] at h3
  obtain ⟨n0, e0, _⟩ := DataW.trod_int Tryz.underlying3 h3
  have h4 : ((cs.drop k).take 1)[0]? = some (.int .i64 n0) := by rw [e0]; rfl
  rw [List.getElem?_take, if_pos (by decide), List.getElem?_drop] at h4
  exact getV_of h4
 ·rw [List.getElem?_eq_none (by omega), List.getElem?_eq_none (by rw [vcC_len]; omega)]
end
end Go.Proofs.YtcchkkdbagpgjaaGreat
namespace Go.Proofs.YtcchkkdbagpgjaaGreat
section
open Go Go.RowKit Go.BigFrame
theorem all_nextV {p : Nat → Prop} {k : Nat} (h : ∀ j, j < k → p j) (hk : p k) : ∀ j, j < k + 1 → p j := fun j hj => by
 rcases Nat.lt_or_eq_of_le (Nat.le_of_lt_succ hj) with h1 | rfl
 ·exact h j h1
 ·exact hk
def joinK (a b : Nat → Int) (k : Nat) : Nat → Int := fun i => if i < k then joinV a b i else a i
theorem joinK_zero (a b : Nat → Int) : joinK a b 0 = a := by funext i; exact if_neg (by omega)
theorem joinK_at (a b : Nat → Int) (k : Nat) : joinK a b k k = a k := if_neg (by omega)
theorem joinK_step (a b : Nat → Int) (k : Nat) : upd (joinK a b k) k (max (a k) (b k)) = joinK a b (k + 1) := by
 funext j
 unfold upd joinK
 by_cases h1 : j = k
 ·subst h1
  rw [if_pos rfl, if_pos (by omega)]
  rfl
 ·rw [if_neg h1]
  by_cases h2 : j < k
  ·rw [if_pos h2, if_pos (by omega)]
  ·rw [if_neg h2, if_neg (by omega)]
theorem joinK_end (a b : Nat → Int) : vcC (joinK a b 8) = vcC (joinV a b) := vcC_congr fun _i hi => if_pos hi
end
end Go.Proofs.YtcchkkdbagpgjaaGreat
