/- The landed vault: an object: a table of sixteen maps, whose bags' rows are read of what lies beside them. -/
import Derived.Test.YtcchkkdbagpgjaaGreatQ13
import Derived.Test.YtcchkkdbagpgjaaGreatLgX
import Derived.Test.YtcchkkdbagpgjaaGreatBgL
namespace Go.Proofs.YtcchkkdbagpgjaaGreat
open Go Go.RowKit Go.BigFrame
def mpC (mb : Nat → Option Nat) : List Value := (List.range 16).map fun i => .map (mb i)
def vtC (dl : Nat) (inc : Int) (r : Rg) (sl : Value) (has : Bool) (dots : Int) (mb : Nat → Option Nat) : List Value := [.pointer (some ⟨dl, 0, none⟩), .int .i64 inc] ++ (rgC r sl ++ ([.bool has, .int .i64 dots] ++ mpC mb))
def setM (mb : Nat → Option Nat) (j : Nat) (x : Option Nat) : Nat → Option Nat := fun i => if i = j then x else mb i
section
variable {dl : Nat} {inc : Int} {r : Rg} {sl : Value} {has : Bool} {dots : Int} {mb : Nat → Option Nat}
theorem mpC_at {i : Nat} (hi : i < 16) : (mpC mb)[i]? = some (.map (mb i)) := by
 unfold mpC
 rw [List.getElem?_map, List.getElem?_range hi]
 rfl
theorem vtC_len : (vtC dl inc r sl has dots mb).length = 63 := by kernel_rfl
theorem vtC_ledger : (vtC dl inc r sl has dots mb)[0]? = some (.pointer (some ⟨dl, 0, none⟩)) := rfl
theorem vtC_dots : (vtC dl inc r sl has dots mb)[46]? = some (.int .i64 dots) := by kernel_rfl
theorem vtC_bags : ∀ k u, (mpC mb)[k]? = some u → (vtC dl inc r sl has dots mb)[47 + k]? = some u := fun k u h => by
 have h1 := sub_app ([Value.pointer (some ⟨dl, 0, none⟩), .int .i64 inc] ++ (rgC r sl ++ [.bool has, .int .i64 dots])) (mpC mb) [] h
 rw [List.append_nil, List.append_assoc, List.append_assoc] at h1
 exact h1
theorem vtC_map {i : Nat} (hi : i < 16) : (vtC dl inc r sl has dots mb)[47 + i]? = some (.map (mb i)) := vtC_bags i _ (mpC_at hi)
theorem vtC_setInc (z : Int) : putL (vtC dl inc r sl has dots mb) 1 [.int .i64 z] = vtC dl z r sl has dots mb := by kernel_rfl
theorem vtC_setRing (x : Rg) (s : Value) : putL (vtC dl inc r sl has dots mb) 2 (rgC x s) = vtC dl inc x s has dots mb := by kernel_rfl
theorem vtC_setHas (b : Bool) : putL (vtC dl inc r sl has dots mb) 45 [.bool b] = vtC dl inc r sl b dots mb := by kernel_rfl
theorem vtC_setDots (z : Int) : putL (vtC dl inc r sl has dots mb) 46 [.int .i64 z] = vtC dl inc r sl has z mb := by kernel_rfl
theorem vtC_setMap (x : Option Nat) : ∀ {j : Nat}, j < 16 → putL (vtC dl inc r sl has dots mb) (47 + j) [.map x] = vtC dl inc r sl has dots (setM mb j x)
 | 0, _ => by kernel_rfl
 | 1, _ => by kernel_rfl
 | 2, _ => by kernel_rfl
 | 3, _ => by kernel_rfl
 | 4, _ => by kernel_rfl
 | 5, _ => by kernel_rfl
 | 6, _ => by kernel_rfl
 | 7, _ => by kernel_rfl
 | 8, _ => by kernel_rfl
 | 9, _ => by kernel_rfl
 | 10, _ => by kernel_rfl
 | 11, _ => by kernel_rfl
 | 12, _ => by kernel_rfl
 | 13, _ => by kernel_rfl
 | 14, _ => by kernel_rfl
 | 15, _ => by kernel_rfl
 | j + 16, h => absurd h (by omega)
end
/- Sixteen maps side by side; one of them taken out, laid back. -/
def mapsL (bk : Nat → Nat) (ms : Nat → Mp ByteArray Hv) : List At := (List.range 16).map fun i => mapT strK valB (bk i) (ms i)
def mapsT (bk : Nat → Nat) (ms : Nat → Mp ByteArray Hv) : At := listT (mapsL bk ms)
def restT (j : Nat) (bk : Nat → Nat) (ms : Nat → Mp ByteArray Hv) : At := listT ((mapsL bk ms).eraseIdx j)
def setMs (ms : Nat → Mp ByteArray Hv) (j : Nat) (M : Mp ByteArray Hv) : Nat → Mp ByteArray Hv := fun i => if i = j then M else ms i
theorem stars_put {W : World} : ∀ (l : List At) (i : Nat) (A : At) {H : Nat → Prop}, i < l.length → star A.p (stars (l.eraseIdx i)) W H → stars (l.set i A) W H
 | [], _, _, _, h, _ => absurd h (Nat.not_lt_zero _)
 | _ :: _, 0, _, _, _, h => h
 | _ :: l, i + 1, A, _, hi, h => star_mono (fun _ h => h) (fun _ h => stars_put l i A (Nat.lt_of_succ_lt_succ hi) h) (star_swap h)
section
variable {bk : Nat → Nat} {ms : Nat → Mp ByteArray Hv} {L : List At} {H0 : Nat → Prop} {w W : World} {j : Nat} {M : Mp ByteArray Hv}
theorem mapsL_len : (mapsL bk ms).length = 16 := rfl
theorem mapsL_at (hj : j < 16) : (mapsL bk ms)[j]? = some (mapT strK valB (bk j) (ms j)) := by
 unfold mapsL
 rw [List.getElem?_map, List.getElem?_range hj]
 rfl
theorem mapsL_set (hj : j < 16) : (mapsL bk ms).set j (mapT strK valB (bk j) M) = mapsL bk (setMs ms j M) := by
 apply List.ext_getElem?
 intro i
 rw [List.getElem?_set, mapsL_len]
 by_cases h : j = i
 ·subst h
  rw [if_pos rfl, if_pos hj, mapsL_at hj]
  unfold setMs
  rw [if_pos rfl]
 ·rw [if_neg h]
  by_cases hi : i < 16
  ·rw [mapsL_at hi, mapsL_at hi]
   unfold setMs
   rw [if_neg fun e => h e.symm]
  ·rw [List.getElem?_eq_none (by rw [mapsL_len]; omega), List.getElem?_eq_none (by rw [mapsL_len]; omega)]
theorem Mem.mapOut (hj : j < 16) (h : Mem (mapsT bk ms :: L) H0 w W) : Mem (mapT strK valB (bk j) (ms j) :: restT j bk ms :: L) H0 w W := SEnd.mono h fun _ h => star_assoc (star_mono (fun _ h => stars_pick (mapsL bk ms) j _ (mapsL_at hj) h) (fun _ h => h) h)
theorem Mem.mapIn (hj : j < 16) (h : Mem (mapT strK valB (bk j) M :: restT j bk ms :: L) H0 w W) : Mem (mapsT bk (setMs ms j M) :: L) H0 w W := SEnd.mono h fun _ h => star_mono (fun H h => by
 have h1 := stars_put (mapsL bk ms) j (mapT strK valB (bk j) M) hj h
 rw [mapsL_set hj] at h1
 exact h1) (fun _ h => h) (star_assoc' h)
theorem Mem.mapAt (h : Mem L H0 w W) (q : Nat) (hq : L[q]? = some (mapsT bk ms)) (hj : j < 16) : W.heap[bk j]? = some (.map (entE strK valB (ms j).es).toArray (ms j).clock) := h.have q hq fun H h => by
 obtain ⟨_, _, h1, _⟩ := stars_pick (mapsL bk ms) j _ (mapsL_at hj) h
 exact h1.1
theorem setMs_self (ms : Nat → Mp ByteArray Hv) (j : Nat) : setMs ms j (ms j) = ms := by
 funext i
 unfold setMs
 split
 ·rename_i h
  rw [h]
 ·rfl
theorem Mem.mapBack (hj : j < 16) (h : Mem (mapT strK valB (bk j) (ms j) :: restT j bk ms :: L) H0 w W) : Mem (mapsT bk ms :: L) H0 w W := by
 have := Mem.mapIn hj h
 rwa [setMs_self] at this
end
/- An element of the table: its address, its value; a map that is cleared. -/
theorem mp_size (W : World) : (sizeOf 89).run Tryz.prog W = .ok 1 W := by
 have e : (Tryz.prog.info? 89).map (·.size) = some 1 := by kernel_rfl
 obtain ⟨i0, h1, h2⟩ := Option.map_eq_some_iff.1 e
 simp [sizeOf, typeInfo, h1, h2, go_sem]
set_option maxRecDepth 100000 in
theorem mp_agg (W : World) : (isAgg 89).run Tryz.prog W = .ok false W := by
 have hu' : (underlying 89).run Tryz.prog W = .ok (.map 9 41) W := by simp [underlying, Tryz.underlying89, go_sem]
 unfold isAgg
 rw [Sem.run_bind, hu', Result.andThen_ok]
 simp [go_sem]
set_option maxRecDepth 100000 in
theorem mps_under (W : World) : (underlying 90).run Tryz.prog W = .ok (.array 16 89) W := by simp [underlying, Tryz.underlying90, go_sem]
section
variable {W w : World} {H0 : Nat → Prop} {L : List At} {S : Nat → Prop} {ops : Array Oper} {Q : Act → World → Prop} {rest : List (Nat × Nat)} {a : Act} {i : Nat} {o : Oper} {d : Option Tmp}
theorem run_addrMp {x ix : Operand} {b off j : Nat} (hj : j < 16) (ho : o.op = .indexAddr 90 x ix) (hx : a.eval x = .pointer (some ⟨b, off, none⟩)) (hix : a.eval ix = .int .i64 (j : Int)) : (execOp a.eval o).run Tryz.prog W = .ok (.value (.pointer (some ⟨b, off + j, none⟩))) W := by
 have hu := mps_under W
 have hs := mp_size W
 unfold execOp
 simp only [ho, hx, hix, Instr.indexAt, asIntOf, Instr.sureAddr, Sem.run_bind, Sem.run_pure, Result.andThen_ok, hu]
 simp [hs, addr_off, go_sem]
 omega
theorem run_indexMp {x ix : Operand} {mb : Nat → Option Nat} {j : Nat} (hj : j < 16) (ho : o.op = .index 90 x ix) (hx : a.eval x = .agg (mpC mb).toArray) (hix : a.eval ix = .int .i64 (j : Int)) : (execOp a.eval o).run Tryz.prog W = .ok (.value (.map (mb j))) W := by
 have hu := mps_under W
 have hs := mp_size W
 have hg := mp_agg W
 have hc : (mpC mb).toArray[j]? = some (.map (mb j)) := by rw [List.getElem?_toArray]; exact mpC_at hj
 unfold execOp
 simp only [ho, hx, hix, Instr.index, asIntOf, Sem.run_bind, Sem.run_pure, Result.andThen_ok, hu]
 rw [if_pos ⟨Int.natCast_nonneg j, by exact_mod_cast hj⟩]
 simp only [part, Sem.run_bind, hs, hg, Result.andThen_ok, Int.toNat_natCast, Nat.mul_one]
 rw [if_neg (by simp)]
 simp only [hc, Sem.run_pure, Result.andThen_ok]
end
section
variable {P : Program} {κ α : Type} [DecidableEq κ] {K : KeyK P κ} {val : α → Value} {ops : Array Oper} {S : Nat → Prop} {Q : Act → World → Prop} {a : Act} {W w : World} {H0 : Nat → Prop} {rest : List (Nat × Nat)} {i : Nat} {o : Oper} {L : List At} {d : Option Tmp}
theorem run_getD {x y : Operand} {b : Nat} {M : Mp κ α} {k : κ} {mt e : TypeId} {z : α} (hmt : P.underlying mt = some (.map K.kt e)) (he : (P.info? e).map (·.zero) = some (some (val z))) (hb : W.heap[b]? = some (.map (entE K val M.es).toArray M.clock))
  (ho : o.op = .lookup mt x y false) (hx : a.eval x = .map (some b)) (hy : a.eval y = K.key k) : (execOp a.eval o).run P W = .ok (.value (val ((M.get k).getD z))) W := by
 have h := run_getM (two := false) hmt he hb ho hx hy
 rw [h]
 cases M.get k <;> rfl
theorem run_getT {x y : Operand} {b : Nat} {M : Mp κ α} {k : κ} {mt e : TypeId} {z : α} {c : Bool} (hc : (M.get k).isSome = c) (hmt : P.underlying mt = some (.map K.kt e)) (he : (P.info? e).map (·.zero) = some (some (val z))) (hb : W.heap[b]? = some (.map (entE K val M.es).toArray M.clock))
  (ho : o.op = .lookup mt x y true) (hx : a.eval x = .map (some b)) (hy : a.eval y = K.key k) : (execOp a.eval o).run P W = .ok (.value (.tuple #[val ((M.get k).getD z), .bool c])) W := by
 have h := run_getM (two := true) hmt he hb ho hx hy
 rw [h, ← hc]
 cases M.get k <;> rfl
theorem wpS_clearM {mt e : TypeId} {x : Operand} {b : Nat} {M : Mp κ α} {L2 : List At} {ts : Array TypeId} (hts : ts[0]? = some mt) (hmt : P.underlying mt = some (.map K.kt e)) (hi : ops[i]? = some o) (hw : Region.wanted o (yielded ops a.tmps) = true) (ho : o.op = .call { callee := .builtin .clear, args := #[x], argTypes := ts }) (hx : a.eval x = .map (some b))
  (hm : Mem L H0 w W) (q : Nat) (hq : L[q]? = some (mapT K val b M)) (hL2 : L.eraseIdx q = L2) (hS : CovS L2 S) (hd : o.dst = none) (h : ∀ W', Mem (mapT K val b (⟨[], M.clock⟩ : Mp κ α) :: L2) H0 w W' → GK S W W' → wpS P ops S Q rest a W') : wpS P ops S Q ((i, 3) :: rest) a W := by
 subst hL2
 have hb := hm.box q hq
 obtain ⟨h1, h2⟩ := hm.setBox q hq (.map (entE K val ([] : List (κ × α × Nat))).toArray M.clock) hS
 have hg : (getObj b).run P W = .ok (.map (entE K val M.es).toArray M.clock) W := by simp [getObj, Sem.run, hb]
 have hr : (Builtin.clear_ ts o.type #[.map (some b)]).run P W = .ok (.tuple #[]) { W with heap := W.heap.setIfInBounds b (.map (entE K val ([] : List (κ × α × Nat))).toArray M.clock) } := by
  unfold Builtin.clear_
  simp only [hts, List.getElem?_toArray, List.getElem?_cons_zero, Sem.run_bind, run_underlying hmt, Result.andThen_ok, hg]
  rw [run_setObj hb]
  rfl
 refine wpS_eff hi hw (R := fun _ W' => W' = { W with heap := W.heap.setIfInBounds b (.map (entE K val ([] : List (κ × α × Nat))).toArray M.clock) }) ⟨.tuple #[], _, ?_, rfl⟩ (fun _ W' e => by subst e; exact h2) hd fun _ W' e => e ▸ h _ h1 h2
 unfold execOp
 simp only [ho, resolve, invoke, builtin, Sem.run_bind, Sem.run_pure, Result.andThen_ok, List.map_toArray, List.map_cons, List.map_nil, hx, hr]
end
def pK (k : ByteArray) : Nat := (ofK k).toNat
theorem pK_lt {k : ByteArray} (h : keyB k = true) : pK k < 16 := by
 have := ofK_range h
 unfold pK
 omega
theorem pK_of {k : ByteArray} (h : keyB k = true) : (pK k : Int) = ofK k := by
 have := ofK_range h
 unfold pK
 omega
structure Vs where
 rp : Option Addr
 rc : Nat
 bk : Nat → Nat
 ms : Nat → Mp ByteArray Hv
 G : At
structure VsOk (s : Vs) (S : Vt) : Prop where
 ring : Reads elemI s.G (.slice s.rp S.ring.p.2.2.length s.rc) S.ring.p.2.2
 mok : ∀ i, i < 16 → MpOk (s.ms i)
 own : ∀ i, i < 16 → ∀ e ∈ (s.ms i).es, ofK e.1 = (i : Int) ∧ getK S.b e.1 = some e.2.1.b ∧ e.2.1.n = e.2.1.b.v.length ∧ Reads elemV s.G (.slice e.2.1.p e.2.1.n e.2.1.c) e.2.1.b.v
 all : ∀ p ∈ S.b, ∃ e ∈ (s.ms (pK p.1)).es, e.1 = p.1
theorem reads_two {α : Type} {E : Elem Tryz.prog α} {A B : At} {v : Value} {xs : List α} (h : Reads E B v xs) : Reads E (listT [A, B]) v xs := fun W _ ⟨_, _, _, ⟨H3, _, h3, _, _, _⟩, _, _⟩ => h W H3 h3
theorem reads_one {α : Type} {E : Elem Tryz.prog α} {A B : At} {v : Value} {xs : List α} (h : Reads E A v xs) : Reads E (listT [A, B]) v xs := fun W _ ⟨H1, _, h1, _, _, _⟩ => h W H1 h1
theorem Mem.two {A B : At} {L : List At} {H0 : Nat → Prop} {w W : World} (h : Mem (A :: B :: L) H0 w W) : Mem (listT [A, B] :: L) H0 w W := SEnd.mono h fun _ h => star_mono (fun _ h => star_mono (fun _ h => h) (fun _ h => star_comm (starl_emp h)) h) (fun _ h => h) (star_assoc' h)
theorem setMs_at (ms : Nat → Mp ByteArray Hv) (j : Nat) (M : Mp ByteArray Hv) : setMs ms j M j = M := if_pos rfl
theorem setMs_ne (ms : Nat → Mp ByteArray Hv) {i j : Nat} (M : Mp ByteArray Hv) (h : i ≠ j) : setMs ms j M i = ms i := if_neg h
theorem VsOk.get {s : Vs} {S : Vt} (h : VsOk s S) {k : ByteArray} (hk : keyB k = true) : ((s.ms (pK k)).get k = none ∧ getK S.b k = none) ∨ ∃ x, (s.ms (pK k)).get k = some x ∧ getK S.b k = some x.b ∧ x.n = x.b.v.length ∧ Reads elemV s.G (.slice x.p x.n x.c) x.b.v := by
 have hp := pK_lt hk
 cases hg : (s.ms (pK k)).get k with
 | none =>
  refine .inl ⟨rfl, ?_⟩
  cases hq : getK S.b k with
  | none => rfl
  | some b =>
   obtain ⟨e, he, h1⟩ := h.all _ (getK_mem hq)
   exact absurd h1 (getE_none hg e he)
 | some x =>
  obtain ⟨n, hn⟩ := getE_mem hg
  obtain ⟨_, h2, h3, h4⟩ := h.own _ hp _ hn
  exact .inr ⟨x, rfl, h2, h3, h4⟩
theorem VsOk.bag {s : Vs} {S : Vt} (h : VsOk s S) {k : ByteArray} (hk : keyB k = true) : ((s.ms (pK k)).get k = none ∧ bagV S k = noB ∧ hasK S k = false) ∨ ∃ x, (s.ms (pK k)).get k = some x ∧ bagV S k = x.b ∧ hasK S k = true ∧ x.n = x.b.v.length ∧ Reads elemV s.G (.slice x.p x.n x.c) x.b.v := by
 unfold bagV hasK
 rcases h.get hk with ⟨h1, h2⟩ | ⟨x, h1, h2, h3, h4⟩
 ·rw [h2]
  exact .inl ⟨h1, rfl, rfl⟩
 ·rw [h2]
  exact .inr ⟨x, h1, rfl, rfl, h3, h4⟩
theorem VsOk.start {bk : Nat → Nat} : VsOk ⟨none, 0, bk, fun _ => Mp.no, listT []⟩ noVt := ⟨srcNil _, (fun _ _ => MpOk.no), (fun _ _ e he => by cases he), fun p hp => by cases hp⟩
theorem VsOk.inc {s : Vs} {S T : Vt} (h : VsOk s S) (hb : T.b = S.b) (hr : T.ring = S.ring) : VsOk s T := ⟨hr ▸ h.ring, h.mok, hb ▸ h.own, hb ▸ h.all⟩
theorem VsOk.newRing {s : Vs} {S T : Vt} (h : VsOk s S) (hb : T.b = S.b) {A : At} {p : Option Addr} {c : Nat} (hA : Reads elemI A (.slice p T.ring.p.2.2.length c) T.ring.p.2.2) : VsOk ⟨p, c, s.bk, s.ms, listT [A, s.G]⟩ T :=
 ⟨reads_one hA, h.mok, (by rw [hb]; exact fun i hi e he => ⟨(h.own i hi e he).1, (h.own i hi e he).2.1, (h.own i hi e he).2.2.1, reads_two (h.own i hi e he).2.2.2⟩), (by rw [hb]; exact h.all)⟩
theorem VsOk.put {s : Vs} {S T : Vt} (h : VsOk s S) {k : ByteArray} (hk : keyB k = true) {b : Bg} (hb : T.b = putK k b S.b) (hr : T.ring = S.ring) {A : At} {p : Option Addr} {c : Nat} (hA : Reads elemV A (.slice p b.v.length c) b.v) : VsOk ⟨s.rp, s.rc, s.bk, setMs s.ms (pK k) ((s.ms (pK k)).put k ⟨b, p, b.v.length, c⟩), listT [A, s.G]⟩ T := by
 have hp := pK_lt hk
 refine ⟨by rw [hr]; exact reads_two h.ring, fun i hi => ?_, fun i hi e he => ?_, fun q hq => ?_⟩
 ·by_cases hj : i = pK k
  ·show MpOk (setMs _ _ _ i)
   rw [hj, setMs_at]
   exact (h.mok _ hp).put _ _
  ·show MpOk (setMs _ _ _ i)
   rw [setMs_ne _ _ hj]
   exact h.mok i hi
 ·have he : e ∈ (setMs _ _ _ i).es := he
  show ofK e.1 = _ ∧ getK T.b e.1 = _ ∧ _ ∧ Reads elemV (listT [A, s.G]) _ _
  rw [hb]
  by_cases hj : i = pK k
  ·rw [hj, setMs_at] at he
   rcases Mp.mem_put' (h.mok _ hp) he with ⟨h1, h2⟩ | ⟨h1, h2⟩
   ·obtain ⟨k1, k2, k3, k4⟩ := h.own _ hp e h2
    exact ⟨by rw [hj]; exact k1, by rw [getK_other _ h1]; exact k2, k3, reads_two k4⟩
   ·rw [h1, h2]
    exact ⟨by rw [hj, pK_of hk], getK_put _ _ _, rfl, reads_one hA⟩
  ·rw [setMs_ne _ _ hj] at he
   obtain ⟨k1, k2, k3, k4⟩ := h.own i hi e he
   refine ⟨k1, ?_, k3, reads_two k4⟩
   rw [getK_other _ fun e1 => hj (by rw [e1] at k1; have := pK_of hk; omega)]
   exact k2
 ·rw [hb] at hq
  show ∃ e ∈ (setMs _ _ _ (pK q.1)).es, _
  by_cases hj : q.1 = k
  ·rw [hj, setMs_at]
   have hg : ((s.ms (pK k)).put k ⟨b, p, b.v.length, c⟩).get k = some ⟨b, p, b.v.length, c⟩ := by rw [Mp.get_put, if_pos rfl]
   obtain ⟨n, hn⟩ := getE_mem hg
   exact ⟨_, hn, rfl⟩
  ·rcases mem_putK hq with rfl | hq
   ·exact absurd rfl hj
   ·obtain ⟨e, he, h1⟩ := h.all q hq
    by_cases hpq : pK q.1 = pK k
    ·rw [hpq, setMs_at]
     rw [hpq] at he
     have hg : ((s.ms (pK k)).put k ⟨b, p, b.v.length, c⟩).get e.1 = some e.2.1 := by
      rw [Mp.get_put, if_neg (by rw [h1]; exact hj)]
      exact getE_of (h.mok _ hp).keys he
     obtain ⟨n, hn⟩ := getE_mem hg
     exact ⟨_, hn, h1⟩
    ·rw [setMs_ne _ _ hpq]
     exact ⟨e, he, h1⟩
theorem VsOk.drop {s : Vs} {S T : Vt} (h : VsOk s S) (hV : ∀ p ∈ S.b, keyB p.1 = true) {j : Nat} (_hj : j < 16) (hb : T.b = dropK (j : Int) S.b) (hr : T.ring = S.ring) {clock : Nat} : VsOk ⟨s.rp, s.rc, s.bk, setMs s.ms j ⟨[], clock⟩, s.G⟩ T := by
 refine ⟨by rw [hr]; exact h.ring, fun i hi => ?_, fun i hi e he => ?_, fun q hq => ?_⟩
 ·show MpOk (setMs _ _ _ i)
  by_cases hq : i = j
  ·rw [hq, setMs_at]
   exact ⟨List.nodup_nil, List.nodup_nil, fun _ h => by cases h⟩
  ·rw [setMs_ne _ _ hq]
   exact h.mok i hi
 ·have he : e ∈ (setMs _ _ _ i).es := he
  by_cases hq : i = j
  ·rw [hq, setMs_at] at he
   cases he
  ·rw [setMs_ne _ _ hq] at he
   obtain ⟨k1, k2, k3, k4⟩ := h.own i hi e he
   refine ⟨k1, ?_, k3, k4⟩
   rw [hb, getK_drop, if_neg (by omega)]
   exact k2
 ·rw [hb] at hq
  obtain ⟨h1, h2⟩ := List.mem_filter.1 hq
  obtain ⟨e, he, h3⟩ := h.all q h1
  have hne : pK q.1 ≠ j := by
   have hq2 := pK_of (hV q h1)
   have h2 : (!decide (ofK q.1 = (j : Int))) = true := h2
   intro hp
   rw [decide_eq_true (by omega)] at h2
   cases h2
  show ∃ e ∈ (setMs _ _ _ (pK q.1)).es, _
  rw [setMs_ne _ _ hne]
  exact ⟨e, he, h3⟩
theorem VsOk.perm {s : Vs} {S : Vt} (h : VsOk s S) (hV : VtOk S) {j : Nat} (hj : j < 16) : ((s.ms j).es.map fun e => e.1).Perm (keysV S (j : Int)) := by
 refine (List.perm_ext_iff_of_nodup (h.mok j hj).keys ?_).2 fun k => ?_
 ·exact (keysV_srt hV.srt (j : Int)).imp fun h => ltK_ne h
 ·rw [mem_keysV]
  constructor
  ·intro hk
   obtain ⟨e, he, rfl⟩ := List.mem_map.1 hk
   obtain ⟨k1, k2, _⟩ := h.own j hj e he
   exact ⟨⟨_, getK_mem k2⟩, k1⟩
  ·rintro ⟨⟨x, hx⟩, hk⟩
   obtain ⟨e, he, h1⟩ := h.all _ hx
   have : pK k = j := by unfold pK; omega
   rw [this] at he
   exact List.mem_map.2 ⟨e, he, h1⟩
theorem VsOk.len {s : Vs} {S : Vt} (h : VsOk s S) (hV : VtOk S) {j : Nat} (hj : j < 16) : (s.ms j).es.length = (keysV S (j : Int)).length := by
 rw [← (h.perm hV hj).length_eq, List.length_map]
def noHv : Hv := ⟨noB, none, 0, 0⟩
def ofV (s : Vs) (k : ByteArray) : Hv := ((s.ms (pK k)).get k).getD noHv
theorem VsOk.ofV {s : Vs} {S : Vt} (h : VsOk s S) {k : ByteArray} (hk : keyB k = true) : bagV S k = (ofV s k).b ∧ (ofV s k).n = (ofV s k).b.v.length ∧ Reads elemV s.G (.slice (ofV s k).p (ofV s k).n (ofV s k).c) (ofV s k).b.v ∧ ((s.ms (pK k)).get k).isSome = hasK S k := by
 unfold Go.Proofs.YtcchkkdbagpgjaaGreat.ofV
 rcases h.bag hk with ⟨h1, h2, h3⟩ | ⟨x, h1, h2, h3, h4, h5⟩
 ·rw [h1, h2, h3]
  exact ⟨rfl, rfl, vNil _, rfl⟩
 ·rw [h1, h2, h3]
  exact ⟨rfl, h4, h5, rfl⟩
def vtT (dv dl : Nat) (S : Vt) : At := exT fun s : Vs => [prT (VsOk s S), boxT dv (.cells (vtC dl S.inc S.ring (.slice s.rp S.ring.p.2.2.length s.rc) S.has S.dots (fun i => some (s.bk i))).toArray 92 (0, 0)), mapsT s.bk s.ms, s.G]
def vtN (u : Value) (dl : Nat) (S : Vt) : At := exT fun dv : Nat => [prT (u = .pointer (some ⟨dv, 0, none⟩)), vtT dv dl S]
section
variable {L : List At} {H0 : Nat → Prop} {w W : World}
theorem Mem.vtN {u : Value} {dl : Nat} {S : Vt} (h : Mem (vtN u dl S :: L) H0 w W) : ∃ dv, u = .pointer (some ⟨dv, 0, none⟩) ∧ Mem (vtT dv dl S :: L) H0 w W := by
 obtain ⟨s, h⟩ := Mem.ex h
 obtain ⟨hu, h⟩ := Mem.pr h
 exact ⟨s, hu, h⟩
theorem Mem.vt {dv dl : Nat} {S : Vt} (h : Mem (vtT dv dl S :: L) H0 w W) : ∃ s : Vs, VsOk s S ∧ Mem (boxT dv (.cells (vtC dl S.inc S.ring (.slice s.rp S.ring.p.2.2.length s.rc) S.has S.dots (fun i => some (s.bk i))).toArray 92 (0, 0)) :: mapsT s.bk s.ms :: s.G :: L) H0 w W := by
 obtain ⟨s, h⟩ := Mem.ex h
 obtain ⟨hu, h⟩ := Mem.pr h
 exact ⟨s, hu, h⟩
theorem Mem.toVt {dv dl : Nat} {S : Vt} (s : Vs) (hs : VsOk s S) (h : Mem (boxT dv (.cells (vtC dl S.inc S.ring (.slice s.rp S.ring.p.2.2.length s.rc) S.has S.dots (fun i => some (s.bk i))).toArray 92 (0, 0)) :: mapsT s.bk s.ms :: s.G :: L) H0 w W) : Mem (vtT dv dl S :: L) H0 w W := Mem.addEx s (Mem.addPr hs h)
end
end Go.Proofs.YtcchkkdbagpgjaaGreat
