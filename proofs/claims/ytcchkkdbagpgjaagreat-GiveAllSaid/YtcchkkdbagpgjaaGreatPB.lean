/- PB: SxInts, SxArr, SxBase, OpenRow, SxIns, SxMak, SxMap. -/
import Derived.Test.YtcchkkdbagpgjaaGreatProg
import Derived.Test.YtcchkkdbagpgjaaGreatPA
import Derived.Laws.OwnMore
import Derived.LoopN
import Derived.ProofKit
import Derived.OpenShut
import Derived.ChangeSame
import Derived.Carry
import Derived.Deep.Slices
import Derived.Deep.DeepHandedRow
import Derived.MakeChecks
import Derived.SizedLaws
import Derived.Lay
import Derived.Lib.AppendZeros
import Derived.Lib.Overlaps
import Derived.Laws.IdiomRangeMap
namespace Go.Proofs.YtcchkkdbagpgjaaGreat
open Go Go.RowKit

def elemI : Elem Tryz.prog Int where
  enc x := [.int .i64 x]
  k := 1
  pos := by decide
  len _ := rfl
  one _ u hu := by
    simp only [List.mem_singleton] at hu
    subst hu
    rfl
  t := 3
  sl := 42
  under := Tryz.underlying42
  z := .int .i64 0
  bytes := 8
  bpos := by decide
  info := by kernel_rfl
  zs := by kernel_rfl
def iV (x : Int) : Value := .int .i64 x
/-- A block of ints. -/
abbrev intsT (b : Nat) (l : List Int) : At := boxT b (.cells (l.map iV).toArray 3 (0, 0))
section
variable {W W' w : World} {H0 : Nat → Prop} {L : List At} {S : Nat → Prop} {ops : Array Oper} {Q : Act → World → Prop} {rest : List (Nat × Nat)} {a : Act} {i : Nat} {o : Oper} {d : Option Tmp}
theorem below_of_grown {W W' : World} (h : W.grownBy W' none) : Below W.heap.size W W' := ⟨h.os, h.tape, h.output, h.size, fun k hk => h.block k hk (by simp)⟩
theorem wpS_makeI {n : Nat} {x y : Operand} {dd : Tmp} (hi : ops[i]? = some o) (hw : Region.wanted o (yielded ops a.tmps) = true) (ho : o.op = .makeSlice 42 x y) (hx : a.eval x = .int .i64 (n : Int)) (hy : a.eval y = .int .i64 (n : Int)) (hn : n ≤ 1000000) (hm : Mem L H0 w W) (hS : CovS L S) (hd : o.dst = some dd)
    (h : ∀ b W', Mem (intsT b (List.replicate n 0) :: L) H0 w W' → GK S W W' → wpS Tryz.prog ops S Q rest (a.put (some dd) (.slice (some ⟨b, 0, none⟩) n n)) W') : wpS Tryz.prog ops S Q ((i, 3) :: rest) a W := by
  obtain ⟨ti, hti, hz0, hz1, hz2⟩ := info_parts elemI.info
  obtain ⟨w', hr, hown, hg⟩ := run_makeSlice_full (P := Tryz.prog) W 0 42 3 ti (.int .i64 0) 1 Tryz.underlying42 hti hz0 hz1 .i64 .i64 n (by omega) (by rw [hz2]; show 8 * n ≤ _; omega) (by unfold maxLen; omega) (Nat.zero_le _)
  have hb := below_of_grown hg
  have hcell : w'.heap[W.heap.size]? = some (.cells ((List.replicate n (0 : Int)).map iV).toArray 3 (0, 0)) := by
    rcases hown.2 with ⟨h1, _⟩ | ⟨g, cap, cur, hv, _, hh, _, _, hsz, ht⟩
    · simp at h1
    · simp only [Value.slice.injEq, Option.some.injEq, Addr.mk.injEq] at hv
      obtain ⟨⟨rfl, _, _⟩, _, rfl⟩ := hv
      rw [hh]
      have e : cur.toList = (List.replicate n (0 : Int)).map iV := by
        rw [List.take_of_length_le (by rw [Array.length_toList, hsz]; omega)] at ht
        rw [ht]
        rw [Nat.mul_one]
        unfold madeCells
        apply List.ext_getElem?
        intro j
        simp only [Array.toList_map, Array.toList_range, List.getElem?_map, List.map_replicate, List.getElem?_replicate]
        by_cases hj : j < n
        · simp [hj, iV, Value.cells, Nat.mod_one]
        · simp [hj]
      have e2 : cur = ((List.replicate n (0 : Int)).map iV).toArray := by rw [← e]
      rw [e2]
  refine wpS_eff hi hw (R := fun u W' => u = .slice (some ⟨W.heap.size, 0, none⟩) n n ∧ W' = w') ⟨_, _, ?_, rfl, rfl⟩ (fun v W' ⟨_, e⟩ => by subst e; exact GK.of_below hb (hS.lt hm)) hd fun u W' ⟨hu, hW⟩ => ?_
  · unfold execOp
    simp only [ho, hx, hy, Sem.run_bind, Sem.run_pure, Result.andThen_ok, hr]
  · subst hu hW
    exact h _ _ (SEnd.boxed (stars_owns L) hm hb (Nat.le_refl _) hcell) (GK.of_below hb (hS.lt hm))
end
end Go.Proofs.YtcchkkdbagpgjaaGreat
namespace Go.Proofs.YtcchkkdbagpgjaaGreat
open Go Go.RowKit

structure IsArr (t : TypeId) (n : Nat) : Prop where
  under : Tryz.prog.underlying t = some (.array n 3)
  size : (Tryz.prog.info? t).map (·.size) = some n
theorem int_size (W : World) : (sizeOf 3).run Tryz.prog W = .ok 1 W := by
  obtain ⟨i0, hin, hz0, hz1, hz2⟩ := info_parts elemI.info
  have e1 : (Tryz.prog.info? 3) = some i0 := hin
  have e2 : i0.size = 1 := hz1
  simp [sizeOf, typeInfo, e1, e2, go_sem]
theorem int_agg (W : World) : (isAgg 3).run Tryz.prog W = .ok false W := by
  have hu' : (underlying 3).run Tryz.prog W = .ok (.int .i64) W := by simp [underlying, Tryz.underlying3, go_sem]
  unfold isAgg
  rw [Sem.run_bind, hu', Result.andThen_ok]
  simp [go_sem]
/- Arrays of bools. -/
end Go.Proofs.YtcchkkdbagpgjaaGreat
namespace Go.Proofs.YtcchkkdbagpgjaaGreat
open Go Go.RowKit Go.BigFrame

theorem rounds_step {P : Program} {c : Code} {Q : Exit → Act → World → Prop} {n : Nat} {a : Act} {w : World} (h : c.wp P (Exit.then (Code.rounds P c Q n) Q) a w) : Code.rounds P c Q (n + 1) a w := h
theorem rowAt_src {P : Program} {α : Type} {E : Elem P α} {W : World} {v : Value} {l : List α} (h : SrcE E W v l) : RowAt E W v l := h.1
/-- Some objects as one. -/
def listT (l : List At) : At := ⟨stars l, stars_owns l⟩
theorem Does.ofList {pr : Program} {f : FuncId} {args : Array Value} {v : Value} {pre : List At} (h : Does pr f args [listT pre] v [listT pre]) : Does pr f args pre v pre := fun W H hs =>
  (h W H (star_comm (starl_emp hs))).mono fun _ _W' ⟨he, hr⟩ => ⟨he, hr.mono fun _ h => emp_right h⟩
theorem DoesU.ofList {pr : Program} {f : FuncId} {args : Array Value} {pre : List At} {q : Value → At} (h : DoesU pr f args [listT pre] fun u => [q u, listT pre]) : DoesU pr f args pre fun u => q u :: pre := fun W H hs =>
  (h W H (star_comm (starl_emp hs))).mono fun _ _W' ⟨u, he, hr⟩ => ⟨u, he, hr.mono fun _ h => star_mono (fun _ h => h) (fun _ h => emp_right h) h⟩
theorem rowOwn {v : Value} {xs : List Int} : ∀ W H, (rowT elemI v xs).p W H → RowAt elemI W v xs := fun W H h => rowAt_src (rowT_reads W H h)
def oldT (W : World) : At := ⟨OldA W, oldA_owns W⟩
theorem Does.gives {pr : Program} {f : FuncId} {args : Array Value} {v : Value} (h : Does pr f args [] v []) (W : World) : Gives pr f args W v := (h W (fun _ => False) (fun _ h => h)).mono fun _ W' ⟨he, hs⟩ => ⟨he, ⟨W', SEnd.ended hs⟩, rfl⟩
theorem Does.givesOld {pr : Program} {f : FuncId} {args : Array Value} {v : Value} {W : World} (h : Does pr f args [oldT W] v [oldT W]) : Gives pr f args W v :=
  (h W (fun k => k < W.heap.size) ⟨_, fun _ => False, oldA_self W, fun _ h => h, fun _ _ h => h, fun k => by simp⟩).mono fun _ W' ⟨he, hs⟩ => ⟨he, ⟨W', SEnd.ended (SEnd.noOld hs)⟩, rfl⟩
end Go.Proofs.YtcchkkdbagpgjaaGreat
namespace Go.Proofs.YtcchkkdbagpgjaaGreat
open Go Go.ChangeShapes Go.WideShapes Go.ChangeAt Go.RowKit Go.Joins

theorem own : ownKnob Tryz.prog.godebug = none := by kernel_rfl
theorem laidOut : laidOutB Tryz.prog = true := by kernel_rfl
theorem addr_spot (a : Addr) (w : World) (v : Value) (h : w.cell? a = some v) : a = ⟨a.block, a.off, none⟩ := by
  obtain ⟨b, o, sp⟩ := a
  cases sp with
  | none => rfl
  | some s =>
    exfalso
    unfold World.cell? at h
    revert h
    dsimp only
    split <;> simp

/-- An element that can be read of what a caller hands over. -/
structure Readable {α : Type} (E : Elem Tryz.prog α) : Prop where
  cells : Tryz.prog.cellsOf E.t = E.k
  bytes : Tryz.prog.bytesOf E.t = E.bytes
  read : ∀ {H : Type} {enc : TypeId × Value → H} {w : World} {base : Nat} {spare : Nat → Bool} {held : Bool} {fuel : Nat} {cs : List Value} {x : DataW H × List MemPlace}, DataW.trod enc Tryz.prog w base spare held fuel E.t cs = some x → ∃ y : α, cs = E.enc y

section
variable {α : Type} {E : Elem Tryz.prog α} {H : Type} {enc : TypeId × Value → H} {w : World} {base : Nat} {spare : Nat → Bool} {held : Bool}
set_option maxRecDepth 100000 in
theorem open_elems [Inhabited α] (hE : Readable E) {fuel : Nat} {cs : List Value} {x : DataW H × List MemPlace} (h : DataW.trod enc Tryz.prog w base spare held fuel E.sl cs = some x) :
    ∃ (v : Value) (l : List α), cs = [v] ∧ SrcE E w v l ∧ (l = [] ∨ ∃ es sp, x.1 = .slice es sp ∧ es.length = l.length) := by
  rcases Go.Deep.open_slice E.under h with ⟨rfl, _⟩ | ⟨a, len, cap, m, n, D, Pl, rfl, _, hlc, hcm, hm, hx, hi⟩
  · exact ⟨_, [], rfl, ⟨.inl ⟨rfl, _, _, rfl⟩, none, 0, rfl, Nat.le_refl _, fun _ => rfl⟩, .inl rfl⟩
  · rw [hE.cells] at hi
    have hlm : len ≤ m := by rw [hm]; split <;> omega
    have hok : ∀ l : List α, l.length = len → ∃ p c, Value.slice (some a) len cap = .slice p l.length c ∧ l.length ≤ c ∧ (p = none → c = 0) := fun l hl => ⟨some a, cap, by rw [hl], by omega, fun h => by cases h⟩
    have each : ∀ i, i < len → ∃ y : α, ∀ j u, (E.enc y)[j]? = some u → w.cell? ((a.add (i * E.k)).add j) = some u := by
      intro i hil
      obtain ⟨cs', hc, ht⟩ := hi i (by omega)
      obtain ⟨y, rfl⟩ := hE.read ht
      obtain ⟨hlen, _, hat⟩ := World.cells?_some hc
      refine ⟨y, fun j u hu => ?_⟩
      have hj : j < E.k := by have := (List.getElem?_eq_some_iff.1 hu).1; rw [E.len] at this; exact this
      rw [hat j hj]
      exact hu
    by_cases h0 : len = 0
    · subst h0
      exact ⟨_, [], rfl, ⟨.inl ⟨rfl, _, _, rfl⟩, hok [] rfl⟩, .inl rfl⟩
    · obtain ⟨f, hf⟩ : ∃ f : Nat → α, ∀ i, i < len → ∀ j u, (E.enc (f i))[j]? = some u → w.cell? ((a.add (i * E.k)).add j) = some u :=
        ⟨fun i => if h : i < len then Classical.choose (each i h) else default, fun i h => by
          dsimp only
          rw [dif_pos h]
          exact Classical.choose_spec (each i h)⟩
      have hz : ∃ u, w.cell? a = some u := by
        have hp : 0 < (E.enc (f 0)).length := by rw [E.len]; exact E.pos
        have := hf 0 (by omega) 0 _ (List.getElem?_eq_getElem hp)
        rw [show (a.add (0 * E.k)).add 0 = a by unfold Addr.add; simp] at this
        exact ⟨_, this⟩
      obtain ⟨u0, hz⟩ := hz
      have ha := addr_spot a w _ hz
      obtain ⟨b, o, hbo⟩ : ∃ b o, a = ⟨b, o, none⟩ := ⟨_, _, ha⟩
      subst hbo
      have hlt : b < w.heap.size := block_lt_of_cell hz
      refine ⟨_, (List.range len).map f, rfl, ⟨.inr ⟨b, o, cap, by simp, hlt, fun k c hk j u hu => ?_⟩, hok _ (by simp)⟩, .inr ⟨_, _, by rw [hx], by simp⟩⟩
      have hkl : k < len := by
        have := (List.getElem?_eq_some_iff.1 hk).1
        simpa using this
      have e : c = f k := by
        simp [List.getElem?_range hkl] at hk
        exact hk.symm
      rw [e] at hu
      have := hf k hkl j u hu
      simpa only [addr_off] using this
end

/-- A law's last step: what it answers is shut, and nothing that was there has turned. -/
theorem post_law {H : Type} {enc : TypeId × Value → H} {P : Program} {f : Func} {s : ChangeSpec} {W W' : World} {args : Array Value} {v : Value} {ds gs : List (DataW H)} {before pa pv : List MemPlace}
    (hW : DataW.Whole enc P f.params.toList s.vars false W args.toList ds gs before) (hb : Below W.heap.size W W')
    (hres : DataW.TrodAll enc P W' W.heap.size (fun _ => false) false f.resultTypes.toList (v.resultList f.resultTypes.size) (s.fn H (ds ++ gs)).results [])
    (hargs : DataW.TrodAll enc P W' 0 (fun b => decide (b < W.heap.size)) true f.params.toList args.toList (s.fn H (ds ++ gs)).args pa)
    (hvars : DataW.TrodVars enc P W' (fun b => decide (b < W.heap.size)) s.vars (s.fn H (ds ++ gs)).vars pv) (hp : before = pa ++ pv) : s.post enc P f false true false false W args v W' :=
  ⟨ds, gs, before, [], pa, pv, hW, hres, hargs, hvars, World.keptBut_mono (fun p h => ⟨h, Or.inr (by rw [hp] at h; simpa using h)⟩) (hb.frame (· ∈ before)), fun h => by cases h⟩

/-- What was read of the arguments reads as it did where nothing that was there has turned. -/
theorem below_trodAll {H : Type} {enc : TypeId × Value → H} {P : Program} (hl : laidOutB P = true) {W W' : World} (hb : Below W.heap.size W W') :
    ∀ {ts : List TypeId} {vs : List Value} {ds : List (DataW H)} {ps : List MemPlace}, (ts.all fun t => P.readableRec t && decide (t < P.types.size)) = true → DataW.TrodAll enc P W 0 (fun _ => true) true ts vs ds ps → (∀ x ∈ ps, x.block < W.heap.size) →
      DataW.TrodAll enc P W' 0 (fun b => decide (b < W.heap.size)) true ts vs ds ps
  | [], _, _, _, _, h, _ => by
    obtain ⟨rfl, rfl, rfl⟩ := trodAll_nil h
    exact trodAll_mk0
  | t :: ts, _, _, _, hr, h, hlt => by
    obtain ⟨v, vs1, d, ds1, a, b, rfl, rfl, rfl, h1, h2⟩ := trodAll_cons h
    simp only [List.all_cons, Bool.and_eq_true, decide_eq_true_eq] at hr
    exact trodAll_cons_mk (Below.trod hl hr.1.1 hr.1.2 h1 hb (fun x hx => hlt x (List.mem_append_left _ hx))) (below_trodAll hl hb hr.2 h2 (fun x hx => hlt x (List.mem_append_right _ hx)))
end Go.Proofs.YtcchkkdbagpgjaaGreat
namespace Go.Proofs.YtcchkkdbagpgjaaGreat
open Go Go.RowKit

theorem putL_eq : ∀ (vs l : List Value) (off : Nat), off + vs.length ≤ l.length → putL l off vs = l.take off ++ (vs ++ l.drop (off + vs.length))
  | [], l, off, _ => by
    show l = _
    rw [List.nil_append, List.length_nil, Nat.add_zero, List.take_append_drop]
  | v :: r, l, off, h => by
    rw [List.length_cons] at h
    show putL (l.set off v) (off + 1) r = _
    rw [putL_eq r _ (off + 1) (by rw [List.length_set]; omega), ← List.append_assoc, list_seg_step l off v r (by omega), List.append_assoc, List.length_cons]
theorem putL_mid {A B D vs : List Value} {off : Nat} (ha : A.length = off) (hb : B.length = vs.length) : putL (A ++ (B ++ D)) off vs = A ++ (vs ++ D) := by
  subst ha
  rw [putL_eq vs _ _ (by rw [List.length_append, List.length_append]; omega), List.take_left, ← hb, List.drop_append, List.drop_of_length_le (by omega), List.nil_append, show A.length + B.length - A.length = B.length by omega, List.drop_left]
/-- Room is made, then taken. -/
theorem putL_shift {A B R Y : List Value} {a : Nat} (ha : A.length = a) (hr : Y.length ≤ R.length) : putL (putL (A ++ (B ++ R)) (a + Y.length) B) a Y = A ++ (Y ++ (B ++ R.drop Y.length)) := by
  have e1 : A ++ (B ++ R) = (A ++ (B ++ R).take Y.length) ++ (((B ++ R).drop Y.length).take B.length ++ ((B ++ R).drop Y.length).drop B.length) := by
    rw [List.take_append_drop, List.append_assoc, List.take_append_drop]
  rw [e1, putL_mid (by rw [List.length_append, List.length_take, List.length_append]; omega) (by rw [List.length_take, List.length_drop, List.length_append]; omega), List.append_assoc, putL_mid ha (by rw [List.length_take, List.length_append]; omega)]
  congr 3
  rw [List.drop_drop, Nat.add_comm, ← List.drop_drop, List.drop_left]
/-- Two pieces are laid behind what is there. -/
theorem putL_two {A B Y Z : List Value} {a : Nat} (ha : A.length = a) (hz : Y.length + B.length ≤ Z.length) : putL (putL (A ++ Z) a Y) (a + Y.length) B = A ++ (Y ++ (B ++ Z.drop (Y.length + B.length))) := by
  have e1 : A ++ Z = A ++ (Z.take Y.length ++ Z.drop Y.length) := by rw [List.take_append_drop]
  have e2 : A ++ (Y ++ Z.drop Y.length) = (A ++ Y) ++ ((Z.drop Y.length).take B.length ++ (Z.drop Y.length).drop B.length) := by rw [List.take_append_drop, List.append_assoc]
  rw [e1, putL_mid ha (by rw [List.length_take]; omega), e2, putL_mid (by rw [List.length_append]; omega) (by rw [List.length_take, List.length_drop]; omega), List.append_assoc, List.drop_drop]
section
variable {P : Program} {α : Type} {E : Elem P α} {w W W' : World} {v v2 : Value} {xs l2 : List α} {H0 : Nat → Prop} {L rem : List At}
theorem Elem.take_cells {l : List α} {n : Nat} (hn : n ≤ l.length) : (E.cells l).take (n * E.k) = E.cells (l.take n) := by
  have h : E.cells l = E.cells (l.take n) ++ E.cells (l.drop n) := by rw [← E.cells_append, List.take_append_drop]
  have hl : (E.cells (l.take n)).length = n * E.k := by rw [E.cells_len, List.length_take, Nat.min_eq_left hn]
  rw [h, ← hl, List.take_left]
/-- A row of one's own, opened. -/
theorem Mem.rowOpen {p : Option Addr} {n c : Nat} (h : Mem (rowT E (.slice p n c) xs :: L) H0 w W) (hp : 0 < xs.length) : ∃ (g : Nat) (cur : List Value), p = some ⟨g, 0, none⟩ ∧ n = xs.length ∧ n ≤ c ∧ c ≤ maxLen ∧ cur.length = c * E.k ∧ cur.take (n * E.k) = E.cells xs ∧ Mem (boxT g (.cells cur.toArray E.t (0, 0)) :: L) H0 w W := by
  have h0 := h.have 0 rfl (p := ∃ g cap cur, Value.slice p n c = .slice (some ⟨g, 0, none⟩) xs.length cap ∧ W.heap[g]? = some (.cells cur E.t (0, 0)) ∧ xs.length ≤ cap ∧ cap ≤ maxLen ∧ cur.size = cap * E.k ∧ cur.toList.take (xs.length * E.k) = E.cells xs) fun H h => by
    rcases h.1.2 with ⟨_, e⟩ | ⟨g, cap, cur, e, _, hg, r⟩
    · omega
    · exact ⟨g, cap, cur, e, hg, r⟩
  obtain ⟨g, cap, cur, e, hg, h1, h2, h3, h4⟩ := h0
  simp only [Value.slice.injEq] at e
  obtain ⟨rfl, rfl, rfl⟩ := e
  refine ⟨g, cur.toList, rfl, rfl, h1, h2, by simpa using h3, h4, h.as fun H h => ⟨?_, fun k => ?_⟩⟩
  · simpa using hg
  · rw [h.2 k]
    simp [Value.ownBlock, eq_comm]
theorem row_cap {p : Option Addr} {n c : Nat} (h : SrcE E W (.slice p n c) xs) : xs.length ≤ c := by
  obtain ⟨_, _, _, e1, e2, _⟩ := h
  simp only [Value.slice.injEq] at e1
  omega
/-- A block is a row. -/
theorem Mem.rowClose {g n c : Nat} {cur : List Value} (hn : xs.length = n) (hc : n ≤ c) (hm : c ≤ maxLen) (hl : cur.length = c * E.k) (ht : cur.take (n * E.k) = E.cells xs) (h : Mem (boxT g (.cells cur.toArray E.t (0, 0)) :: L) H0 w W) : Mem (rowT E (.slice (some ⟨g, 0, none⟩) n c) xs :: L) H0 w W := h.as fun H h => by
  subst hn
  refine ⟨⟨E.cells_len xs, .inr ⟨g, c, cur.toArray, rfl, Nat.zero_le _, h.1, hc, hm, by simpa using hl, by simpa using ht⟩⟩, fun k => ?_⟩
  rw [h.2 k]
  simp [Value.ownBlock, eq_comm]
theorem Elem.elem_t : P.elem E.sl = E.t := by unfold Program.elem; rw [E.under]
theorem Elem.size_run (W : World) : (sizeOf E.t).run P W = .ok E.k W := by
  obtain ⟨i0, hi, hz0, hz1, hz2⟩ := info_parts E.info
  simp [sizeOf, typeInfo, hi, hz1, go_sem]
theorem run_tailE {o : Oper} {a : Act} {x l : Operand} {p : Option Addr} {n c k : Nat} (hk : k ≤ n) (ho : o.op = .slice E.sl x (some l) none none) (hx : a.eval x = .slice p n c) (hl : a.eval l = .int .i64 (k : Int)) : (execOp a.eval o).run P W = .ok (.value (.slice (if c = k then p else p.map fun a => a.add (k * E.k)) (n - k) (c - k))) W := by
  have hu : P.underlying E.sl = some (.slice (P.elem E.sl)) := by rw [E.elem_t]; exact E.under
  have hs : (sizeOf (P.elem E.sl)).run P W = .ok E.k W := by rw [E.elem_t]; exact E.size_run W
  have h3 := run_slice_l (P := P) W E.sl p n c hu .i64 (k : Int) (Int.natCast_nonneg k) (by exact_mod_cast hk)
  rw [hs] at h3
  unfold execOp
  simp only [ho, hx, hl, Option.map_none, Option.map_some, Sem.run_bind, run_sliceAt_slice W _ _ _ _ _ hu, h3, Result.andThen_ok]
  cases p <;> simp [sliced, go_sem]
theorem run_tailB {o : Oper} {a : Act} {x l : Operand} {b off n c k : Nat} (hk : k ≤ n) (hc : k < c) (ho : o.op = .slice E.sl x (some l) none none) (hx : a.eval x = .slice (some ⟨b, off, none⟩) n c) (hl : a.eval l = .int .i64 (k : Int)) : (execOp a.eval o).run P W = .ok (.value (.slice (some ⟨b, off + k * E.k, none⟩) (n - k) (c - k))) W := by
  rw [run_tailE hk ho hx hl, if_neg (by omega), Option.map_some, addr_off]
theorem run_headE {o : Oper} {a : Act} {x h : Operand} {p : Option Addr} {n c k : Nat} (hk : k ≤ c) (ho : o.op = .slice E.sl x none (some h) none) (hx : a.eval x = .slice p n c) (hh : a.eval h = .int .i64 (k : Int)) : (execOp a.eval o).run P W = .ok (.value (.slice p k c)) W := by
  have hu : P.underlying E.sl = some (.slice (P.elem E.sl)) := by rw [E.elem_t]; exact E.under
  have hs : (sizeOf (P.elem E.sl)).run P W = .ok E.k W := by rw [E.elem_t]; exact E.size_run W
  have h3 := run_slice_h (P := P) W E.sl p n c hu .i64 (k : Int) (Int.natCast_nonneg k) (by exact_mod_cast hk)
  rw [hs] at h3
  unfold execOp
  simp only [ho, hx, hh, Option.map_none, Option.map_some, Sem.run_bind, run_sliceAt_slice W _ _ _ _ _ hu, h3, Result.andThen_ok]
  cases p <;> simp [sliced, go_sem]
theorem run_copyE {g off dl dc sl sc n : Nat} {ad : Addr} {cur cs : List Value} {t ty : TypeId} (hg : W.heap[g]? = some (.cells cur.toArray t (0, 0))) (hn : Nat.min sl dl = n) (hl : cs.length = n * E.k) (hsrc : ∀ j u, cs[j]? = some u → W.cell? (ad.add j) = some u) (hfit : off + cs.length ≤ cur.length) (h1 : ∀ u ∈ cs, u.oneCell' = true) :
    (Builtin.copy_ #[E.sl, E.sl] ty #[.slice (some ⟨g, off, none⟩) dl dc, .slice (some ad) sl sc]).run P W = .ok (.int .i64 (n : Int)) { W with heap := W.heap.setIfInBounds g (.cells (putL cur off cs).toArray t (0, 0)) } := by
  have hf := run_firstCells_some (P := P) W E.k n ad sl sc cs hl hsrc
  have hst := run_storeCells (P := P) (b := g) (t := t) cs cur off 0 W hg (by omega) h1
  have hs := E.size_run W
  simp only [Builtin.copy_, run_underlying E.under, Builtin.lenOf, hs, hf, hn, hst, Sem.run_bind, Sem.run_pure, Result.andThen_ok, List.getElem?_toArray, List.getElem?_cons_zero, List.getElem?_cons_succ, Nat.add_zero]
  rfl
/-- append of so many zeros, where there is no room: a new block. -/
theorem run_zerosE {g i c m : Nat} {cs : List Value} {ti ty : TypeId} (hti : P.underlying ti = some (.int .i64)) (hl : cs.length = i * E.k) (hsrc : ∀ j u, cs[j]? = some u → W.cell? ((⟨g, 0, none⟩ : Addr).add j) = some u) (hm : 0 < m) (hroom : c < i + m) (hb : (i + m) * E.bytes ≤ 140737488355328) :
    ∃ cap z : _, ∃ Z : List Value, z = W.heap.size ∧ i + m ≤ cap ∧ cap ≤ maxLen ∧ Z.length = (cap - i) * E.k ∧ (Builtin.append_ #[E.sl, ti] ty #[.slice (some ⟨g, 0, none⟩) i c, .int .i64 (m : Int)]).run P W = .ok (.slice (some ⟨z, 0, none⟩) (i + m) cap) (W.drew.alloc (.cells (cs ++ Z).toArray E.t (0, 0))) := by
  obtain ⟨i0, hi, hz0, hz1, hz2⟩ := info_parts E.info
  have hbp := E.bpos
  have hkp := E.pos
  have hle : i + m ≤ 140737488355328 := Nat.le_trans (Nat.le_mul_of_pos_right _ hbp) hb
  have hge := grownCap_ge W (i + m) c E.t
  have hcm := grownCap_le_maxLen W (i + m) c E.t (by unfold maxLen; omega)
  have hw : IntKind.i64.wrap (m : Int) = m := by rw [IntKind.wrap_i64]; omega
  have hneg : ¬ ((m : Int) < 0) := by omega
  have hfit := growslice_fits (need := i + m) (old := c) (bytes := E.bytes) hroom hb
  have h48' : ¬ (281474976710656 < Builtin.nextslicecap (i + m) c * E.bytes) := by omega
  have hmb : m * E.bytes ≤ 140737488355328 := Nat.le_trans (Nat.mul_le_mul_right _ (by omega)) hb
  have h48i : ¬ (281474976710656 < (m : Int) * (E.bytes : Int)) := by
    rw [← Int.natCast_mul]
    omega
  have h63' : ¬ (9223372036854775807 < ((i : Int) + (m : Int))) := by omega
  have hn : ¬ (i + m ≤ c) := by omega
  have hns : ¬ (m * E.k = 0) := Nat.mul_ne_zero (by omega) (by omega)
  have hfo := run_firstCells_some (P := P) W.drew E.k i ⟨g, 0, none⟩ i c cs hl (by simpa using hsrc)
  refine ⟨grownCap W (i + m) c E.t, W.heap.size, (Builtin.zeroCells E.z.cells m ++ Builtin.zeroCells E.z.cells (grownCap W (i + m) c E.t - (i + m))).toList, rfl, hge, hcm, ?_, ?_⟩
  · simp only [Array.length_toList, Array.size_append, size_zeroCells, E.zs, ← Nat.add_mul]
    congr 1
    omega
  · simp [Builtin.append_, run_underlying E.under, run_underlying hti, sizeOf, typeInfo, zeroValue, hi, hz0, hz1, hz2, asInt, asIntOf, hw, hneg, h48i, hn, h63', h48', hns, Question.forced, hfo, newRow, grownCap]
    congr 2
    apply Array.ext'
    simp
theorem putL_len : ∀ (vs l : List Value) (off : Nat), (putL l off vs).length = l.length
  | [], _, _ => rfl
  | v :: r, l, off => by
    show (putL (l.set off v) (off + 1) r).length = _
    rw [putL_len r, List.length_set]
theorem Mem.ne_box {b b' : Nat} {o o' : Obj} (h : Mem (boxT b o :: boxT b' o' :: L) H0 w W) : b ≠ b' := by
  obtain ⟨H, ⟨H1, H2, h1, ⟨H3, H4, h3, h4, _, he'⟩, ha, _⟩, _⟩ := h
  rintro rfl
  exact ha b ((h1.2 b).2 rfl) ((he' b).2 (.inl ((h3.2 b).2 rfl)))
theorem Mem.boxCells0 {g : Nat} {cur : List Value} {t : TypeId} (h : Mem L H0 w W) (k : Nat) (hk : L[k]? = some (boxT g (.cells cur.toArray t (0, 0)))) {n : Nat} (hct : cur.take n = E.cells xs) : ∀ j u, (E.cells xs)[j]? = some u → W.cell? ((⟨g, 0, none⟩ : Addr).add j) = some u := fun j u hu => by
  rw [addr_off, Nat.zero_add, h.cellL k hk]
  rw [← hct, List.getElem?_take] at hu
  split at hu
  · exact hu
  · cases hu
theorem Mem.boxCells {g i : Nat} {cur : List Value} {t : TypeId} (h : Mem L H0 w W) (k : Nat) (hk : L[k]? = some (boxT g (.cells cur.toArray t (0, 0)))) {n : Nat} (hct : cur.take n = E.cells xs) (hi : i ≤ xs.length) : ∀ j u, (E.cells (xs.drop i))[j]? = some u → W.cell? ((⟨g, 0 + i * E.k, none⟩ : Addr).add j) = some u := fun j u hu => by
  have h1 : E.cells xs = E.cells (xs.take i) ++ E.cells (xs.drop i) := by rw [← E.cells_append, List.take_append_drop]
  have h2 : (E.cells (xs.take i)).length = i * E.k := by rw [E.cells_len, List.length_take, Nat.min_eq_left hi]
  have h3 : (E.cells xs)[i * E.k + j]? = some u := by rw [h1, List.getElem?_append_right (by omega), h2, Nat.add_sub_cancel_left]; exact hu
  have h4 := h.boxCells0 k hk hct (i * E.k + j) u h3
  rw [addr_off] at h4 ⊢
  rw [Nat.add_assoc]
  exact h4
theorem Elem.cells_one1 (y : α) : (E.cells [y]).length = E.k := by rw [E.cells_len, List.length_singleton, Nat.one_mul]
theorem Elem.cells_at_take {l : List α} {i : Nat} (hi : i ≤ l.length) : (E.cells (l.take i)).length = i * E.k := by rw [E.cells_len, List.length_take, Nat.min_eq_left hi]
theorem take_take_cells {cur : List Value} {i : Nat} (hct : cur.take (xs.length * E.k) = E.cells xs) (hi : i ≤ xs.length) : cur.take (i * E.k) = E.cells (xs.take i) := by
  rw [← E.take_cells hi, ← hct, List.take_take, Nat.min_eq_left (Nat.mul_le_mul_right _ hi)]
section
variable {y : α} {i n c cap : Nat} {Z cur : List Value}
theorem fitA (hZ : Z.length = (cap - i) * E.k) (hc : i + 1 ≤ cap) (hi : i ≤ xs.length) : (0 + i * E.k) + (E.cells [y]).length ≤ (E.cells (xs.take i) ++ Z).length := by
  rw [E.cells_one1, List.length_append, E.cells_at_take hi, hZ]
  have h1 : 1 * E.k ≤ (cap - i) * E.k := Nat.mul_le_mul_right _ (by omega)
  omega
theorem fitB {o1 : Nat} (hZ : Z.length = (cap - i) * E.k) (hc : xs.length + 1 ≤ cap) (hi : i ≤ xs.length) : (0 + (i + 1) * E.k) + (E.cells (xs.drop i)).length ≤ (putL (E.cells (xs.take i) ++ Z) o1 (E.cells [y])).length := by
  rw [putL_len, List.length_append, E.cells_at_take hi, hZ, E.cells_len, List.length_drop, ← Nat.add_mul, Nat.zero_add, ← Nat.add_mul]
  exact Nat.mul_le_mul_right _ (by omega)
theorem fitC (hcl : cur.length = c * E.k) (hc : xs.length + 1 ≤ c) (hi : i ≤ xs.length) : (0 + (i + 1) * E.k) + (E.cells (xs.drop i)).length ≤ cur.length := by
  rw [hcl, E.cells_len, List.length_drop, Nat.zero_add, ← Nat.add_mul]
  exact Nat.mul_le_mul_right _ (by omega)
theorem fitD {o1 : Nat} {l : List Value} (hcl : cur.length = c * E.k) (hc : xs.length + 1 ≤ c) (hi : i ≤ xs.length) : (0 + i * E.k) + (E.cells [y]).length ≤ (putL cur o1 l).length := by
  rw [putL_len, hcl, E.cells_one1, Nat.zero_add]
  have h1 : (i + 1) * E.k ≤ c * E.k := Nat.mul_le_mul_right _ (by omega)
  rw [Nat.add_mul] at h1
  omega
theorem ins_cells (_hi : i ≤ xs.length) : E.cells (xs.take i ++ y :: xs.drop i) = E.cells (xs.take i) ++ (E.cells [y] ++ E.cells (xs.drop i)) := by rw [E.cells_append, show y :: xs.drop i = [y] ++ xs.drop i from rfl, E.cells_append]
theorem ins_len (hi : i ≤ xs.length) : (xs.take i ++ y :: xs.drop i).length = xs.length + 1 := by
  rw [List.length_append, List.length_cons, List.length_take, List.length_drop]
  omega
theorem ins_two (hZ : Z.length = (cap - i) * E.k) (hc : xs.length + 1 ≤ cap) (hi : i ≤ xs.length) : (putL (putL (E.cells (xs.take i) ++ Z) (0 + i * E.k) (E.cells [y])) (0 + (i + 1) * E.k) (E.cells (xs.drop i))).take ((xs.length + 1) * E.k) = E.cells (xs.take i ++ y :: xs.drop i) := by
  have h0 : 0 + (i + 1) * E.k = i * E.k + (E.cells [y]).length := by rw [E.cells_one1, Nat.zero_add, Nat.add_mul, Nat.one_mul]
  have h1 : (E.cells [y]).length + (E.cells (xs.drop i)).length ≤ Z.length := by
    rw [E.cells_one1, E.cells_len, List.length_drop, hZ]
    have : (1 + (xs.length - i)) * E.k ≤ (cap - i) * E.k := Nat.mul_le_mul_right _ (by omega)
    rw [Nat.add_mul] at this
    omega
  rw [h0, Nat.zero_add, putL_two (E.cells_at_take hi) h1, ← ins_len (y := y) hi, ← E.cells_len, ins_cells hi]
  have e : ∀ A B C D : List Value, A ++ (B ++ (C ++ D)) = (A ++ (B ++ C)) ++ D := fun A B C D => by simp
  rw [e, List.take_left]
theorem ins_shift (hcl : cur.length = c * E.k) (hct : cur.take (xs.length * E.k) = E.cells xs) (hc : xs.length + 1 ≤ c) (hi : i ≤ xs.length) : (putL (putL cur (0 + (i + 1) * E.k) (E.cells (xs.drop i))) (0 + i * E.k) (E.cells [y])).take ((xs.length + 1) * E.k) = E.cells (xs.take i ++ y :: xs.drop i) := by
  have h0 : 0 + (i + 1) * E.k = i * E.k + (E.cells [y]).length := by rw [E.cells_one1, Nat.zero_add, Nat.add_mul, Nat.one_mul]
  have h1 : E.cells xs = E.cells (xs.take i) ++ E.cells (xs.drop i) := by rw [← E.cells_append, List.take_append_drop]
  have h2 : cur = E.cells (xs.take i) ++ (E.cells (xs.drop i) ++ cur.drop (xs.length * E.k)) := by rw [← List.append_assoc, ← h1, ← hct, List.take_append_drop]
  have h3 : (E.cells [y]).length ≤ (cur.drop (xs.length * E.k)).length := by
    rw [E.cells_one1, List.length_drop, hcl]
    have : (xs.length + 1) * E.k ≤ c * E.k := Nat.mul_le_mul_right _ hc
    rw [Nat.add_mul] at this
    omega
  obtain ⟨R, hR⟩ : ∃ R, cur.drop (xs.length * E.k) = R := ⟨_, rfl⟩
  rw [hR] at h2 h3
  rw [h2, h0, Nat.zero_add, putL_shift (E.cells_at_take hi) h3, ← ins_len (y := y) hi, ← E.cells_len, ins_cells hi]
  have e : ∀ A B C D : List Value, A ++ (B ++ (C ++ D)) = (A ++ (B ++ C)) ++ D := fun A B C D => by simp
  rw [e, List.take_left]
theorem len_two {o1 o2 : Nat} {l1 l2 : List Value} (hcl : cur.length = c * E.k) : (putL (putL cur o1 l1) o2 l2).length = c * E.k := by rw [putL_len, putL_len, hcl]
theorem len_zero (hZ : Z.length = (cap - i) * E.k) (hc : xs.length + 1 ≤ cap) (hi : i ≤ xs.length) : (E.cells (xs.take i) ++ Z).length = cap * E.k := by
  rw [List.length_append, E.cells_at_take hi, hZ, ← Nat.add_mul]
  congr 1
  omega
end
/-- Two slices in two blocks do not overlap. -/
theorem run_overlaps2 {f : FuncId} {fn : Func} {o : Oper} {a : Act} {x y : Operand} {tR : TypeId} {ts : Array TypeId} {b1 o1 n1 c1 b2 o2 n2 c2 : Nat} {cs1 cs2 : List Value} {t1 t2 : TypeId} (hf : P.funcs[f]? = some fn) (hname : (fn.name == "runtime.NumGoroutine") = false) (hb : fn.body.isNone = true) (hnx : Extern.findNext fn = none) (he : Extern.find fn = some (Extern.SlicesOverlaps.overlaps #[E.sl, E.sl] #[tR]))
    (ho : o.op = .call { callee := .value (.func f), args := #[x, y], argTypes := ts }) (hx : a.eval x = .slice (some ⟨b1, o1, none⟩) n1 c1) (hy : a.eval y = .slice (some ⟨b2, o2, none⟩) n2 c2) (hne : b1 ≠ b2) (h1 : W.heap[b1]? = some (.cells cs1.toArray t1 (0, 0))) (h2 : W.heap[b2]? = some (.cells cs2.toArray t2 (0, 0))) (h0 : cs2.length ≠ 0) : (execOp a.eval o).run P W = .ok (.value (.bool false)) W := by
  have hs1 : W.shape? b1 = some (t1, cs1.length) := by simp [World.shape?, h1]
  have hs2 : W.shape? b2 = some (t2, cs2.length) := by simp [World.shape?, h2]
  have hr : (callFunc f #[.slice (some ⟨b1, o1, none⟩) n1 c1, .slice (some ⟨b2, o2, none⟩) n2 c2]).run P W = .ok (.value (.bool false)) W := by
    rw [run_callFunc_extern hf hname hb hnx he, Lib.run_overlaps_apart W E.sl tR E.t E.under E.k (fun w => E.size_run w) ⟨b1, o1, none⟩ ⟨b2, o2, none⟩ n1 c1 n2 c2 hne t1 t2 _ _ hs1 hs2 h0 (by simp [World.frozen?, h1]) (by simp [World.frozen?, h1])]
    rfl
  have hxy : a.eval (.func f) = .func (.func f) #[] #[] := rfl
  unfold execOp
  simp only [ho, resolve, hxy, Deferred.ofValue, invoke, Sem.run_bind, Sem.run_pure, Result.andThen_ok, List.map_toArray, List.map_cons, List.map_nil, hx, hy]
  simpa using hr
end
section
variable {P : Program} {ops : Array Oper} {S : Nat → Prop} {Q : Act → World → Prop} {a : Act} {W w : World} {H0 : Nat → Prop} {rest : List (Nat × Nat)} {i : Nat} {o : Oper} {L pre post rem : List At} {d : Option Tmp} {α : Type} {E : Elem P α}
theorem wpS_copy {x y : Operand} {g off dl dc sl sc n : Nat} {ad : Addr} {cur cs : List Value} {t : TypeId} {L2 : List At} (hi : ops[i]? = some o) (hw : Region.wanted o (yielded ops a.tmps) = true) (ho : o.op = .call { callee := .builtin .copy, args := #[x, y], argTypes := #[E.sl, E.sl] }) (hx : a.eval x = .slice (some ⟨g, off, none⟩) dl dc) (hy : a.eval y = .slice (some ad) sl sc) (hm : Mem L H0 w W) (k : Nat) (hk : L[k]? = some (boxT g (.cells cur.toArray t (0, 0)))) (hL2 : L.eraseIdx k = L2)
    (hn : Nat.min sl dl = n) (hl : cs.length = n * E.k) (hsrc : ∀ j u, cs[j]? = some u → W.cell? (ad.add j) = some u) (hfit : off + cs.length ≤ cur.length) (h1 : ∀ u ∈ cs, u.oneCell' = true) (hS : CovS L2 S) (hd : o.dst = d)
    (h : ∀ W', Mem (boxT g (.cells (putL cur off cs).toArray t (0, 0)) :: L2) H0 w W' → GK S W W' → wpS P ops S Q rest (a.put d (.int .i64 (n : Int))) W') : wpS P ops S Q ((i, 3) :: rest) a W := by
  subst hL2
  obtain ⟨h2, h3⟩ := hm.setBox k hk (.cells (putL cur off cs).toArray t (0, 0)) hS
  have hr := run_copyE (E := E) (ty := o.type) (dc := dc) (sc := sc) (hm.box k hk) hn hl hsrc hfit h1
  refine wpS_eff hi hw (R := fun u W' => u = .int .i64 (n : Int) ∧ W' = { W with heap := W.heap.setIfInBounds g (.cells (putL cur off cs).toArray t (0, 0)) }) ⟨_, _, ?_, rfl, rfl⟩ (fun v W' ⟨_, e⟩ => by subst e; exact h3) hd fun u W' ⟨hu, hW⟩ => ?_
  · unfold execOp
    simp only [ho, resolve, invoke, builtin, Sem.run_bind, Sem.run_pure, Result.andThen_ok, List.map_toArray, List.map_cons, List.map_nil, hx, hy, hr]
  · subst hu hW
    exact h _ h2 h3
theorem wpS_funcC1 {fn : Fn} {x1 : Operand} {v1 : Value} (hi : ops[i]? = some o) (hw : Region.wanted o (yielded ops a.tmps) = true) (ho : o.op = .makeFunc fn #[] #[x1]) (h1 : a.eval x1 = v1) (hd : o.dst = d) (h : wpS P ops S Q rest (a.put d (.func fn #[] #[v1])) W) : wpS P ops S Q ((i, 0) :: rest) a W := wpS_func hi hw ho (by simp [h1]) hd h
/-- A call of a function value of two arguments. -/
theorem wpS_doesV2 {f : Nat} {x x1 x2 : Operand} {ts : Array TypeId} {first cap : Array Value} {args : Array Value} {v v1 v2 : Value} {out : List At} (hi : ops[i]? = some o) (hw : Region.wanted o (yielded ops a.tmps) = true) (ho : o.op = .call { callee := .value x, args := #[x1, x2], argTypes := ts }) (hx : a.eval x = .func (.func f) first cap) (eg : ∀ args w, (callFunc f args).run P w = .ok (.enter f args) w)
    (hc : Does P f args pre v post) (h1 : a.eval x1 = v1) (h2 : a.eval x2 = v2) (hargs : first ++ #[v1, v2] ++ cap = args) (hm : Mem L H0 w W) (idx : List Nat) (hsel : selA L idx = (pre, rem)) (hS : CovS rem S) (hout : post ++ rem = out) (hd : o.dst = d) (h : ∀ W', Mem out H0 w W' → GK S W W' → wpS P ops S Q rest (a.put d v) W') : wpS P ops S Q ((i, 3) :: rest) a W :=
  wpS_enter hi hw (run_callV ho hx eg (by rw [← hargs]; simp [h1, h2])) (R := fun u W' => u = v ∧ Mem (post ++ rem) H0 w W' ∧ GK S W W') ((hc.mem hm idx hsel hS).mono fun e W' ⟨he, h⟩ => ⟨v, he, rfl, h⟩) (fun _ _ h => h.2.2) hd fun u W' ⟨hu, h1, h2⟩ => by subst hu; exact h W' (hout ▸ h1) h2
/-- What leaves the world as it is. -/
theorem wpS_still {v : Value} (hi : ops[i]? = some o) (hw : Region.wanted o (yielded ops a.tmps) = true) (hrun : (execOp a.eval o).run P W = .ok (.value v) W) (hd : o.dst = d) (h : wpS P ops S Q rest (a.put d v) W) : wpS P ops S Q ((i, 3) :: rest) a W :=
  wpS_eff hi hw (R := fun u W' => u = v ∧ W' = W) ⟨_, _, hrun, rfl, rfl⟩ (fun _ _ ⟨_, e⟩ => by subst e; exact GK.refl S _) hd fun u W' ⟨hu, hW⟩ => by subst hu hW; exact h
theorem wpS_zeros {x y : Operand} {g i0 c m : Nat} {cur cs : List Value} {ti : TypeId} (hti : P.underlying ti = some (.int .i64)) (hi : ops[i]? = some o) (hw : Region.wanted o (yielded ops a.tmps) = true) (ho : o.op = .call { callee := .builtin .append, args := #[x, y], argTypes := #[E.sl, ti] }) (hx : a.eval x = .slice (some ⟨g, 0, none⟩) i0 c) (hy : a.eval y = .int .i64 (m : Int)) (hm : Mem L H0 w W) (k : Nat) (hk : L[k]? = some (boxT g (.cells cur.toArray E.t (0, 0))))
    (hcs : cur.take (i0 * E.k) = cs) (hl : cs.length = i0 * E.k) (hm0 : 0 < m) (hroom : c < i0 + m) (hb : (i0 + m) * E.bytes ≤ 140737488355328) (hS : CovS L S) (hd : o.dst = d)
    (h : ∀ b cap (Z : List Value) W', i0 + m ≤ cap → cap ≤ maxLen → Z.length = (cap - i0) * E.k → Mem (boxT b (.cells (cs ++ Z).toArray E.t (0, 0)) :: L) H0 w W' → GK S W W' → wpS P ops S Q rest (a.put d (.slice (some ⟨b, 0, none⟩) (i0 + m) cap)) W') : wpS P ops S Q ((i, 3) :: rest) a W := by
  have hsrc : ∀ j u, cs[j]? = some u → W.cell? ((⟨g, 0, none⟩ : Addr).add j) = some u := fun j u hu => by
    rw [addr_off, Nat.zero_add, hm.cellL k hk j]
    rw [← hcs, List.getElem?_take] at hu
    split at hu
    · exact hu
    · cases hu
  obtain ⟨cap, z, Z, rfl, h1, h2, h3, hr⟩ := run_zerosE (E := E) (W := W) (ty := o.type) hti hl hsrc hm0 hroom hb
  have hbel : Below W.heap.size W (W.drew.alloc (.cells (cs ++ Z).toArray E.t (0, 0))) := ext_alloc (ext_drew (ext_refl W)) _
  refine wpS_eff hi hw (R := fun u W' => u = .slice (some ⟨W.heap.size, 0, none⟩) (i0 + m) cap ∧ W' = W.drew.alloc (.cells (cs ++ Z).toArray E.t (0, 0))) ⟨_, _, ?_, rfl, rfl⟩ (fun v W' ⟨_, e⟩ => by subst e; exact GK.of_below hbel (hS.lt hm)) hd fun u W' ⟨hu, hW⟩ => ?_
  · unfold execOp
    simp only [ho, resolve, invoke, builtin, Sem.run_bind, Sem.run_pure, Result.andThen_ok, List.map_toArray, List.map_cons, List.map_nil, hx, hy, hr]
  · subst hu hW
    exact h _ _ _ _ h1 h2 h3 (SEnd.box (stars_owns L) hm.drew _) (GK.of_below hbel (hS.lt hm))
end
end Go.Proofs.YtcchkkdbagpgjaaGreat
namespace Go.Proofs.YtcchkkdbagpgjaaGreat
open Go Go.RowKit

section
variable {P : Program} {α : Type} {E : Elem P α}
theorem cells_replicate {z0 : α} (hz : E.z.cells.toList = E.enc z0) : ∀ (n j : Nat), j < n * E.k → (E.cells (List.replicate n z0))[j]? = some (E.z.cells[j % E.z.cells.size]!)
  | 0, j, h => by omega
  | n + 1, j, h => by
    rw [List.replicate_succ, Elem.cells_cons]
    have hk := E.pos
    by_cases hj : j < E.k
    · rw [List.getElem?_append_left (by rw [E.len]; exact hj), E.zs, Nat.mod_eq_of_lt hj, ← hz, Array.getElem?_toList, getElem!_pos _ _ (by rw [E.zs]; exact hj), Array.getElem?_eq_getElem (by rw [E.zs]; exact hj)]
    · rw [List.getElem?_append_right (by rw [E.len]; omega), E.len, cells_replicate hz n (j - E.k) (by rw [Nat.succ_mul] at h; omega), E.zs, Nat.mod_eq_sub_mod (by omega : E.k ≤ j)]
theorem made_cells {z0 : α} (hz : E.z.cells.toList = E.enc z0) (n : Nat) : (madeCells E.z.cells (n * E.k)).toList = E.cells (List.replicate n z0) := by
  apply List.ext_getElem?
  intro j
  by_cases hj : j < n * E.k
  · rw [cells_replicate hz n j hj]
    simp [madeCells, hj]
  · rw [List.getElem?_eq_none (by simp [madeCells]; omega), List.getElem?_eq_none (by rw [E.cells_len, List.length_replicate]; omega)]
theorem putL_take : ∀ (vs l : List Value) (off n : Nat), (putL l off vs).take n = putL (l.take n) off vs
  | [], _, _, _ => rfl
  | v :: r, l, off, n => by
    show (putL (l.set off v) (off + 1) r).take n = putL ((l.take n).set off v) (off + 1) r
    rw [putL_take r, List.take_set]
theorem cells_put {y0 : α} : ∀ {xs : List α} {j : Nat}, j < xs.length → putL (E.cells xs) (j * E.k) (E.enc y0) = E.cells (xs.set j y0)
  | [], j, h => by simp at h
  | x :: l, 0, h => by
    rw [Nat.zero_mul, Elem.cells_cons, putL_eq _ _ _ (by rw [List.length_append, E.len, E.len]; omega), List.take_zero, List.nil_append, Nat.zero_add, E.len, List.drop_left' (E.len x)]
    rfl
  | x :: l, j + 1, h => by
    have hl : j < l.length := by simpa using h
    have hlen := E.cells_len l
    have hb : (j + 1) * E.k ≤ l.length * E.k := Nat.mul_le_mul_right _ hl
    have hs : (j + 1) * E.k = E.k + j * E.k := by rw [Nat.succ_mul]; omega
    have ih := cells_put (y0 := y0) hl
    rw [putL_eq _ _ _ (by rw [E.len, hlen]; omega), E.len y0] at ih
    rw [hs, Elem.cells_cons, putL_eq _ _ _ (by rw [List.length_append, E.len, E.len, hlen]; omega), List.take_append, List.take_of_length_le (by rw [E.len]; omega), E.len x, Nat.add_sub_cancel_left, List.append_assoc, List.drop_append, E.len y0, List.drop_of_length_le (by rw [E.len]; omega), List.nil_append, E.len x, show E.k + j * E.k + E.k - E.k = j * E.k + E.k by omega, ih]
    rfl
end
section
variable {P : Program} {α : Type} {E : Elem P α} {W w : World} {H0 : Nat → Prop} {L : List At} {S : Nat → Prop} {ops : Array Oper} {Q : Act → World → Prop} {rest : List (Nat × Nat)} {a : Act} {i : Nat} {o : Oper} {d : Option Tmp} {xs : List α}
/-- A row of zeros. -/
theorem wpS_makeE {n : Nat} {x y : Operand} {dd : Tmp} {z0 : α} (hz : E.z.cells.toList = E.enc z0) (hi : ops[i]? = some o) (hw : Region.wanted o (yielded ops a.tmps) = true) (ho : o.op = .makeSlice E.sl x y) (hx : a.eval x = .int .i64 (n : Int)) (hy : a.eval y = .int .i64 (n : Int)) (hb : E.bytes * n ≤ 281474976710656) (hm : Mem L H0 w W) (hS : CovS L S) (hd : o.dst = some dd)
    (h : ∀ b W', Mem (rowT E (.slice (some ⟨b, 0, none⟩) n n) (List.replicate n z0) :: L) H0 w W' → GK S W W' → wpS P ops S Q rest (a.put (some dd) (.slice (some ⟨b, 0, none⟩) n n)) W') : wpS P ops S Q ((i, 3) :: rest) a W := by
  obtain ⟨ti, hti, hz0, hz1, hz2⟩ := info_parts E.info
  have hbp := E.bpos
  have hn : n ≤ maxLen := by
    have : n * 1 ≤ n * E.bytes := Nat.mul_le_mul_left _ hbp
    rw [Nat.mul_comm] at hb
    unfold maxLen
    omega
  obtain ⟨w', hr, hown, hg⟩ := run_make_full W W.heap.size E.sl E.t ti E.z E.k E.under hti hz0 hz1 .i64 .i64 n (by rw [hz2]; exact hb) hn (Nat.le_refl _)
  have hbl : Below W.heap.size W w' := ⟨hg.os, hg.tape, hg.output, hg.size, fun k hk => hg.block k hk (by simp)⟩
  rw [made_cells hz] at hown
  refine wpS_eff hi hw (R := fun u W' => u = .slice (some ⟨W.heap.size, 0, none⟩) n n ∧ W' = w') ⟨_, _, ?_, rfl, rfl⟩ (fun v W' ⟨_, e⟩ => by subst e; exact GK.of_below hbl (hS.lt hm)) hd fun u W' ⟨hu, hW⟩ => ?_
  · unfold execOp
    simp only [ho, hx, hy, Sem.run_bind, Sem.run_pure, Result.andThen_ok, hr]
  · subst hu hW
    refine h _ _ (SEnd.fresh (stars_owns L) (rowT E _ _).owns hm hbl (HQ := fun k => k = W.heap.size) ⟨?_, fun k => by simp [Value.ownBlock, eq_comm]⟩ fun k hk => Nat.le_of_eq hk.symm) (GK.of_below hbl (hS.lt hm))
    rw [List.length_replicate]
    refine ⟨hown.1, hown.2.imp id fun ⟨g, cap, cur, e, _, r⟩ => ⟨g, cap, cur, e, Nat.zero_le _, r⟩⟩
/-- An element set whole. -/
theorem wpS_putE {t : TypeId} {x y : Operand} {p : Option Addr} {b n cap j : Nat} {y0 : α} {L2 : List At} (ht : t = E.t) (hi : ops[i]? = some o) (hw : Region.wanted o (yielded ops a.tmps) = true) (ho : o.op = .store t x y) (hx : a.eval x = .pointer (some ⟨b, j * E.k, none⟩)) (hy : a.eval y = .agg (E.enc y0).toArray)
    (hm : Mem L H0 w W) (k : Nat) (hk : L[k]? = some (rowT E (.slice p n cap) xs)) (hp : p = some ⟨b, 0, none⟩) (hL2 : L.eraseIdx k = L2) (hj : j < xs.length) (hS : CovS L2 S) (hd : o.dst = none) (h : ∀ W', Mem (rowT E (.slice p n cap) (xs.set j y0) :: L2) H0 w W' → GK S W W' → wpS P ops S Q rest a W') : wpS P ops S Q ((i, 3) :: rest) a W := by
  subst hL2 ht
  have hm1 : Mem (rowT E (.slice p n cap) xs :: L.eraseIdx k) H0 w W := SEnd.mono hm fun _ h => stars_pick L k _ hk h
  obtain ⟨g, cur, hp', hn, hc, hmx, hl, hcur, hm2⟩ := hm1.rowOpen (by omega)
  rw [hp] at hp'
  simp only [Option.some.injEq, Addr.mk.injEq, and_true] at hp'
  subst hp' hp
  obtain ⟨i0, hin, hz0, hz1, hz2⟩ := info_parts E.info
  have hb : (j + 1) * E.k ≤ n * E.k := Nat.mul_le_mul_right _ (by omega)
  have hb2 : n * E.k ≤ cap * E.k := Nat.mul_le_mul_right _ hc
  rw [Nat.succ_mul] at hb
  refine wpS_store (v := .agg (E.enc y0).toArray) (vs := E.enc y0) (cs := cur) (cs' := putL cur (j * E.k) (E.enc y0)) hi hw ho hx hy (by simp [Value.cells]) (by rw [hin, E.len]; exact congrArg some hz1) (List.all_eq_true.2 (E.one y0)) hm2 0 rfl (by rw [E.len, hl]; omega) rfl hS hd fun W' hm3 hg => h W' ?_ hg
  refine Mem.rowClose (by rw [List.length_set, hn]) hc hmx (by rw [putL_len, hl]) ?_ hm3
  rw [putL_take, hcur, cells_put hj]
end
end Go.Proofs.YtcchkkdbagpgjaaGreat
namespace Go.Proofs.YtcchkkdbagpgjaaGreat
open Go Go.RowKit

section
variable {κ α : Type} [DecidableEq κ]
/-- A map: keys, values, stamps; and the next stamp. -/
structure Mp (κ α : Type) where
  es : List (κ × α × Nat)
  clock : Nat
def getE : List (κ × α × Nat) → κ → Option α
  | [], _ => none
  | e :: l, k => if k = e.1 then some e.2.1 else getE l k
def setE (k : κ) (a : α) : List (κ × α × Nat) → List (κ × α × Nat)
  | [] => []
  | e :: l => if k = e.1 then (k, a, e.2.2) :: l else e :: setE k a l
def delE (k : κ) : List (κ × α × Nat) → List (κ × α × Nat)
  | [] => []
  | e :: l => if k = e.1 then l else e :: delE k l
def findE (k : κ) (val : α → Value) : List (κ × α × Nat) → Nat → Option (Nat × Value)
  | [], _ => none
  | e :: l, i => if k = e.1 then some (i, val e.2.1) else findE k val l (i + 1)
def Mp.get (M : Mp κ α) (k : κ) : Option α := getE M.es k
def Mp.put (M : Mp κ α) (k : κ) (a : α) : Mp κ α := if (getE M.es k).isSome = true then ⟨setE k a M.es, M.clock⟩ else ⟨M.es ++ [(k, a, M.clock)], M.clock + 1⟩
def Mp.no : Mp κ α := ⟨[], 0⟩
structure MpOk (M : Mp κ α) : Prop where
  keys : (M.es.map fun e => e.1).Nodup
  borns : (M.es.map fun e => e.2.2).Nodup
  old : ∀ e ∈ M.es, e.2.2 < M.clock
theorem find_ways (k : κ) (a : α) (val : α → Value) : ∀ (l : List (κ × α × Nat)) (i : Nat), (∃ j e, l[j]? = some e ∧ e.1 = k ∧ findE k val l i = some (i + j, val e.2.1) ∧ getE l k = some e.2.1 ∧ setE k a l = l.set j (k, a, e.2.2) ∧ delE k l = l.eraseIdx j) ∨ (findE k val l i = none ∧ getE l k = none ∧ setE k a l = l ∧ delE k l = l ∧ ∀ e ∈ l, e.1 ≠ k)
  | [], _ => .inr ⟨rfl, rfl, rfl, rfl, fun _ h => by cases h⟩
  | e :: l, i => by
    unfold findE getE setE delE
    by_cases h : k = e.1
    · rw [if_pos h, if_pos h, if_pos h, if_pos h]
      exact .inl ⟨0, e, rfl, h.symm, rfl, rfl, rfl, rfl⟩
    · rw [if_neg h, if_neg h, if_neg h, if_neg h]
      rcases find_ways k a val l (i + 1) with ⟨j, x, h1, h2, h3, h4, h5, h6⟩ | ⟨h1, h2, h3, h4, h5⟩
      · exact .inl ⟨j + 1, x, h1, h2, by rw [h3]; congr 2; omega, h4, by rw [h5]; rfl, by rw [h6]; rfl⟩
      · refine .inr ⟨h1, h2, by rw [h3], by rw [h4], fun x hx => ?_⟩
        rcases List.mem_cons.1 hx with rfl | hx
        · exact fun e => h e.symm
        · exact h5 x hx
theorem getE_mem {l : List (κ × α × Nat)} {k : κ} {a : α} (h : getE l k = some a) : ∃ n, (k, a, n) ∈ l := by
  induction l with
  | nil => cases h
  | cons e l ih =>
    unfold getE at h
    split at h
    · rename_i hk
      refine ⟨e.2.2, ?_⟩
      rw [hk, ← Option.some.inj h]
      exact List.mem_cons_self
    · obtain ⟨n, hn⟩ := ih h
      exact ⟨n, List.mem_cons_of_mem _ hn⟩
theorem getE_none : ∀ {l : List (κ × α × Nat)} {k : κ}, getE l k = none → ∀ e ∈ l, e.1 ≠ k
  | [], _, _, _, h => by cases h
  | x :: l, k, h, e, he => by
    unfold getE at h
    split at h
    · cases h
    · rename_i hk
      rcases List.mem_cons.1 he with rfl | he
      · exact fun h => hk h.symm
      · exact getE_none h e he
theorem getE_of : ∀ {l : List (κ × α × Nat)}, (l.map fun e => e.1).Nodup → ∀ {e : κ × α × Nat}, e ∈ l → getE l e.1 = some e.2.1
  | x :: l, hn, e, he => by
    obtain ⟨h1, h2⟩ := List.nodup_cons.1 hn
    unfold getE
    rcases List.mem_cons.1 he with rfl | he
    · rw [if_pos rfl]
    · rw [if_neg fun h => h1 (List.mem_map.2 ⟨e, he, h⟩), getE_of h2 he]
theorem getE_set {k q : κ} {a : α} : ∀ {l : List (κ × α × Nat)}, getE (setE k a l) q = if q = k then (if (getE l k).isSome = true then some a else none) else getE l q
  | [] => by
    show none = _
    split <;> rfl
  | x :: l => by
    unfold setE
    by_cases h : k = x.1
    · rw [if_pos h]
      show (if q = k then some a else getE l q) = (if q = k then (if (if k = x.1 then some x.2.1 else getE l k).isSome = true then some a else none) else (if q = x.1 then some x.2.1 else getE l q))
      rw [if_pos h]
      by_cases hq : q = k
      · rw [if_pos hq, if_pos hq]
        rfl
      · rw [if_neg hq, if_neg hq, if_neg (by rw [← h]; exact hq)]
    · rw [if_neg h]
      show (if q = x.1 then some x.2.1 else getE (setE k a l) q) = (if q = k then (if (if k = x.1 then some x.2.1 else getE l k).isSome = true then some a else none) else (if q = x.1 then some x.2.1 else getE l q))
      rw [if_neg h, getE_set]
      by_cases hq : q = k
      · rw [if_pos hq, if_pos hq, if_neg (by rw [hq]; exact h)]
      · rw [if_neg hq, if_neg hq]
theorem getE_app {l : List (κ × α × Nat)} {k q : κ} {a : α} {n : Nat} (h : getE l k = none) : getE (l ++ [(k, a, n)]) q = if q = k then some a else getE l q := by
  induction l with
  | nil => rfl
  | cons x l ih =>
    unfold getE at h
    split at h
    · cases h
    · rename_i hk
      rw [List.cons_append]
      show (if q = x.1 then some x.2.1 else getE (l ++ [(k, a, n)]) q) = (if q = k then some a else (if q = x.1 then some x.2.1 else getE l q))
      rw [ih h]
      by_cases hq : q = k
      · rw [if_pos hq, if_pos hq, if_neg (by rw [hq]; exact hk)]
      · rw [if_neg hq, if_neg hq]
theorem Mp.get_put (M : Mp κ α) (k : κ) (a : α) (q : κ) : (M.put k a).get q = if q = k then some a else M.get q := by
  unfold Mp.put Mp.get
  cases h : getE M.es k with
  | none => exact getE_app h
  | some b =>
    show getE (setE k a M.es) q = _
    rw [getE_set, h]
    rfl
theorem mem_setE {k : κ} {a : α} : ∀ {l : List (κ × α × Nat)} {e : κ × α × Nat}, e ∈ setE k a l → e ∈ l ∨ (e.1 = k ∧ e.2.1 = a ∧ ∃ x ∈ l, x.1 = k ∧ x.2.2 = e.2.2)
  | x :: l, e, h => by
    unfold setE at h
    split at h
    · rename_i hk
      rcases List.mem_cons.1 h with rfl | h
      · exact .inr ⟨rfl, rfl, x, List.mem_cons_self, hk.symm, rfl⟩
      · exact .inl (List.mem_cons_of_mem _ h)
    · rcases List.mem_cons.1 h with rfl | h
      · exact .inl List.mem_cons_self
      · rcases mem_setE h with h | ⟨h1, h2, y, hy, h3⟩
        · exact .inl (List.mem_cons_of_mem _ h)
        · exact .inr ⟨h1, h2, y, List.mem_cons_of_mem _ hy, h3⟩
theorem setE_keys {k : κ} {a : α} : ∀ {l : List (κ × α × Nat)}, (setE k a l).map (fun e => e.1) = l.map fun e => e.1
  | [] => rfl
  | x :: l => by
    unfold setE
    split
    · rename_i hk
      rw [List.map_cons, List.map_cons, hk]
    · rw [List.map_cons, List.map_cons, setE_keys]
theorem setE_borns {k : κ} {a : α} : ∀ {l : List (κ × α × Nat)}, (setE k a l).map (fun e => e.2.2) = l.map fun e => e.2.2
  | [] => rfl
  | x :: l => by
    unfold setE
    split
    · rfl
    · rw [List.map_cons, List.map_cons, setE_borns]
omit [DecidableEq κ] in
theorem MpOk.no : MpOk (Mp.no : Mp κ α) := ⟨List.nodup_nil, List.nodup_nil, fun _ h => by cases h⟩
theorem MpOk.put {M : Mp κ α} (h : MpOk M) (k : κ) (a : α) : MpOk (M.put k a) := by
  unfold Mp.put
  cases hg : getE M.es k with
  | none =>
    refine ⟨?_, ?_, fun e he => ?_⟩
    · show ((M.es ++ [(k, a, M.clock)]).map fun e => e.1).Nodup
      rw [List.map_append]
      refine List.nodup_append.2 ⟨h.keys, by simp, fun x hx y hy => ?_⟩
      obtain ⟨e, he, rfl⟩ := List.mem_map.1 hx
      simp only [List.map_cons, List.map_nil, List.mem_singleton] at hy
      subst hy
      exact getE_none hg e he
    · show ((M.es ++ [(k, a, M.clock)]).map fun e => e.2.2).Nodup
      rw [List.map_append]
      refine List.nodup_append.2 ⟨h.borns, by simp, fun x hx y hy => ?_⟩
      obtain ⟨e, he, rfl⟩ := List.mem_map.1 hx
      simp only [List.map_cons, List.map_nil, List.mem_singleton] at hy
      subst hy
      exact Nat.ne_of_lt (h.old e he)
    · have he : e ∈ M.es ++ [(k, a, M.clock)] := he
      show e.2.2 < M.clock + 1
      rw [List.mem_append, List.mem_singleton] at he
      rcases he with he | rfl
      · exact Nat.lt_succ_of_lt (h.old e he)
      · exact Nat.lt_succ_self _
  | some b =>
    refine ⟨?_, ?_, fun e he => ?_⟩
    · show ((setE k a M.es).map fun e => e.1).Nodup
      rw [setE_keys]
      exact h.keys
    · show ((setE k a M.es).map fun e => e.2.2).Nodup
      rw [setE_borns]
      exact h.borns
    · rcases mem_setE he with he | ⟨_, _, x, hx, _, e2⟩
      · exact h.old e he
      · show e.2.2 < M.clock
        rw [← e2]
        exact h.old x hx
theorem Mp.mem_put {M : Mp κ α} {k : κ} {a : α} {e : κ × α × Nat} (h : e ∈ (M.put k a).es) : e ∈ M.es ∨ (e.1 = k ∧ e.2.1 = a) := by
  unfold Mp.put at h
  split at h
  · rcases mem_setE h with h | ⟨h1, h2, _⟩
    · exact .inl h
    · exact .inr ⟨h1, h2⟩
  · have h : e ∈ M.es ++ [(k, a, M.clock)] := h
    rw [List.mem_append, List.mem_singleton] at h
    rcases h with h | rfl
    · exact .inl h
    · exact .inr ⟨rfl, rfl⟩
end
/-- Keys of a type, as values. -/
structure KeyK (P : Program) (κ : Type) [DecidableEq κ] where
  kt : TypeId
  key : κ → Value
  check : ∀ (b : Bool) (k : κ) (W : World), (Instr.checkKey b 10000 kt (key k)).run P W = .ok () W
  find : ∀ {α : Type} (val : α → Value) (k : κ) (l : List (κ × α × Nat)) (W : World), (Instr.findKey kt (key k) (l.map fun e => { key := key e.1, val := val e.2.1, born := e.2.2 })).run P W = .ok (findE k val l 0) W
  stays : ∀ k, Instr.sameBits 10000 (key k) (key k) = true
section
variable {P : Program} {κ α : Type} [DecidableEq κ] (K : KeyK P κ) (val : α → Value)
def entE (l : List (κ × α × Nat)) : List MapEntry := l.map fun e => { key := K.key e.1, val := val e.2.1, born := e.2.2 }
def mapT (b : Nat) (M : Mp κ α) : At := boxT b (.map (entE K val M.es).toArray M.clock)
end
section
variable {P : Program} {κ α : Type} [DecidableEq κ] {K : KeyK P κ} {val : α → Value} {W w : World}
theorem run_getM {o : Oper} {a : Act} {x y : Operand} {b : Nat} {M : Mp κ α} {k : κ} {mt e : TypeId} {z : Value} {two : Bool} (hmt : P.underlying mt = some (.map K.kt e)) (he : (P.info? e).map (·.zero) = some (some z)) (hb : W.heap[b]? = some (.map (entE K val M.es).toArray M.clock))
    (ho : o.op = .lookup mt x y two) (hx : a.eval x = .map (some b)) (hy : a.eval y = K.key k) : (execOp a.eval o).run P W = .ok (.value (if two = true then .tuple #[((M.get k).map val).getD z, .bool (M.get k).isSome] else ((M.get k).map val).getD z)) W := by
  obtain ⟨i0, h1, h2⟩ := Option.map_eq_some_iff.1 he
  have hz : (zeroValue e).run P W = .ok z W := by simp [zeroValue, typeInfo, h1, h2, go_sem]
  have hg : (getObj b).run P W = .ok (.map (entE K val M.es).toArray M.clock) W := by simp [getObj, Sem.run, hb]
  have hf : (Instr.findKey K.kt (K.key k) (entE K val M.es)).run P W = .ok (findE k val M.es 0) W := K.find val k M.es W
  unfold execOp
  simp only [ho, hx, hy, Sem.run_bind]
  unfold Instr.lookup
  simp only [Sem.run_bind, run_underlying hmt, Result.andThen_ok, hg, Sem.run_pure, K.check]
  rw [hf, Result.andThen_ok]
  unfold Mp.get
  cases hq : getE M.es k with
  | none =>
    have h3 : findE k val M.es 0 = none := by
      cases hne : M.es with
      | nil => rfl
      | cons e0 l0 =>
        rcases find_ways k e0.2.1 val M.es 0 with ⟨_, _, _, _, _, h4, _⟩ | ⟨h4, _⟩
        · rw [hq] at h4; cases h4
        · rw [← hne]; exact h4
    rw [h3]
    simp only [Sem.run_bind, Sem.run_pure, Result.andThen_ok, hz]
    cases two <;> rfl
  | some x0 =>
    rcases find_ways k x0 val M.es 0 with ⟨j, e1, _, _, h3, h4, _⟩ | ⟨_, h4, _⟩
    · rw [hq] at h4
      rw [h3, ← Option.some.inj h4]
      simp only [Sem.run_bind, Sem.run_pure, Result.andThen_ok]
      cases two <;> rfl
    · rw [hq] at h4; cases h4
theorem run_lenM {o : Oper} {a : Act} {x : Operand} {b : Nat} {M : Mp κ α} {mt e : TypeId} (hmt : P.underlying mt = some (.map K.kt e)) (hb : W.heap[b]? = some (.map (entE K val M.es).toArray M.clock)) (ho : o.op = .call { callee := .builtin .len, args := #[x], argTypes := #[mt] }) (hx : a.eval x = .map (some b)) : (execOp a.eval o).run P W = .ok (.value (.int .i64 (M.es.length : Int))) W := by
  have hg : (getObj b).run P W = .ok (.map (entE K val M.es).toArray M.clock) W := by simp [getObj, Sem.run, hb]
  unfold execOp
  simp only [ho, resolve, invoke, builtin, Sem.run_bind, Sem.run_pure, Result.andThen_ok, List.map_toArray, List.map_cons, List.map_nil, hx]
  simp [Builtin.len_, run_underlying hmt, hg, goInt, entE, go_sem]
end
section
variable {P : Program} {κ α : Type} [DecidableEq κ] {K : KeyK P κ} {val : α → Value} {ops : Array Oper} {S : Nat → Prop} {Q : Act → World → Prop} {a : Act} {W w : World} {H0 : Nat → Prop} {rest : List (Nat × Nat)} {i : Nat} {o : Oper} {L : List At} {d : Option Tmp}
theorem wpS_mkM {mt : TypeId} {dd : Tmp} (K : KeyK P κ) (val : α → Value) (hi : ops[i]? = some o) (hw : Region.wanted o (yielded ops a.tmps) = true) (ho : o.op = .makeMap mt none) (hm : Mem L H0 w W) (hS : CovS L S) (hd : o.dst = some dd)
    (h : ∀ b W', Mem (mapT K val b (Mp.no : Mp κ α) :: L) H0 w W' → GK S W W' → wpS P ops S Q rest (a.put (some dd) (.map (some b))) W') : wpS P ops S Q ((i, 3) :: rest) a W := by
  refine wpS_eff hi hw (R := fun u W' => u = .map (some W.heap.size) ∧ W' = W.alloc (.map #[] 0)) ⟨_, _, ?_, rfl, rfl⟩ (fun v W' ⟨_, e⟩ => by subst e; exact GK.of_below (ext_alloc (ext_refl W) _) (hS.lt hm)) hd fun u W' ⟨hu, hW⟩ => ?_
  · unfold execOp
    simp only [ho, Option.map_none]
    simp [Instr.makeMap, newObj, Sem.run, go_sem]
    try rfl
  · subst hu hW
    exact h _ _ (SEnd.box (stars_owns L) hm _) (GK.of_below (ext_alloc (ext_refl W) _) (hS.lt hm))
theorem run_setObj {b : Nat} {es : Array MapEntry} {n : Nat} {o' : Obj} (hb : W.heap[b]? = some (.map es n)) : (setObj b o').run P W = .ok () { W with heap := W.heap.setIfInBounds b o' } := by simp [setObj, Sem.run, hb]
theorem entE_set (K : KeyK P κ) (val : α → Value) {l : List (κ × α × Nat)} {j : Nat} {e : κ × α × Nat} {x : α} (hj : l[j]? = some e) : (entE K val l).toArray.modify j (fun y => { y with key := K.key e.1, val := val x }) = (entE K val (l.set j (e.1, x, e.2.2))).toArray := by
  apply Array.ext'
  unfold entE
  rw [Array.toList_modify, List.map_set]
  show (l.map _).modify j _ = (l.map _).set j _
  apply List.ext_getElem?
  intro n
  rw [List.getElem?_modify, List.getElem?_set, List.getElem?_map]
  by_cases hn : j = n
  · subst hn
    have hlt := (List.getElem?_eq_some_iff.1 hj).1
    rw [hj]
    simp [hlt]
  · simp [hn]
theorem wpS_putM {mt e : TypeId} {x y z : Operand} {b : Nat} {M : Mp κ α} {k : κ} {v : α} {L2 : List At} (hmt : P.underlying mt = some (.map K.kt e)) (hi : ops[i]? = some o) (hw : Region.wanted o (yielded ops a.tmps) = true) (ho : o.op = .mapUpdate mt x y z) (hx : a.eval x = .map (some b)) (hy : a.eval y = K.key k) (hz : a.eval z = val v)
    (hm : Mem L H0 w W) (q : Nat) (hq : L[q]? = some (mapT K val b M)) (hL2 : L.eraseIdx q = L2) (hS : CovS L2 S) (hd : o.dst = none) (h : ∀ W', Mem (mapT K val b (M.put k v) :: L2) H0 w W' → GK S W W' → wpS P ops S Q rest a W') : wpS P ops S Q ((i, 3) :: rest) a W := by
  subst hL2
  have hb := hm.box q hq
  obtain ⟨h1, h2⟩ := hm.setBox q hq (.map (entE K val (M.put k v).es).toArray (M.put k v).clock) hS
  refine wpS_unit hi hw ?_ h2 hd (h _ h1 h2)
  have hg : (getObj b).run P W = .ok (.map (entE K val M.es).toArray M.clock) W := by simp [getObj, Sem.run, hb]
  have hf : (Instr.findKey K.kt (K.key k) (entE K val M.es)).run P W = .ok (findE k val M.es 0) W := K.find val k M.es W
  unfold execOp
  simp only [ho, hx, hy, hz, Sem.run_bind]
  unfold Instr.mapUpdate
  simp only [Sem.run_bind, run_underlying hmt, Result.andThen_ok, hg, K.check]
  rw [hf, Result.andThen_ok]
  rcases find_ways k v val M.es 0 with ⟨j, e1, h3, h4, h5, h6, h7, _⟩ | ⟨h5, h6, _, _, _⟩
  · have hk : ((entE K val M.es).toArray[0 + j]?.map (·.key)).getD (K.key k) = K.key k := by
      unfold entE
      simp [h3, h4]
    have hp : M.put k v = ⟨M.es.set j (k, v, e1.2.2), M.clock⟩ := by
      unfold Mp.put
      rw [if_pos (by rw [h6]; rfl), h7]
    have hst := K.stays k
    rw [h5, hp]
    dsimp only
    rw [hk]
    unfold Instr.keyThatStays
    rw [if_pos hst]
    simp only [Sem.run_bind, Sem.run_pure, Result.andThen_ok]
    have hes := entE_set K val (x := v) h3
    rw [h4] at hes
    rw [Nat.zero_add, hes, run_setObj hb]
    rfl
  · have hp : M.put k v = ⟨M.es ++ [(k, v, M.clock)], M.clock + 1⟩ := by
      unfold Mp.put
      rw [if_neg (by rw [h6]; exact Bool.false_ne_true)]
    rw [h5, hp]
    dsimp only
    have e1 : (entE K val M.es).toArray.push { key := K.key k, val := val v, born := M.clock } = (entE K val (M.es ++ [(k, v, M.clock)])).toArray := by unfold entE; simp
    rw [e1, run_setObj hb]
    rfl
end
end Go.Proofs.YtcchkkdbagpgjaaGreat
