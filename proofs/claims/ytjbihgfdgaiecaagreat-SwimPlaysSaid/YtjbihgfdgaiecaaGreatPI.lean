/- Stage 6: what every law ends with. -/
import Derived.Test.YtjbihgfdgaiecaaGreatPH
import Derived.Test.YtjbihgfdgaiecaaGreatPA
import Derived.Test.YtjbihgfdgaiecaaGreatProg
import Derived.ProofKit
import Derived.OpenShut
import Derived.ChangeSame
import Derived.Carry
import Derived.Deep.Slices
import Derived.Deep.DeepHandedRow
import Derived.MakeChecks
import Derived.SizedLaws
import Derived.Lay
namespace Go.Proofs.YtjbihgfdgaiecaaGreat
open Go Go.RowKit Go.BigFrame
theorem row_cell {P : Program} {α : Type} {E : Elem P α} {L : List At} {H : Nat → Prop} {w W : World} {b o n c : Nat} {xs : List α} (h : Mem L H w W) (i : Nat) (hi : L[i]? = some (rowT E (.slice (some ⟨b, o, none⟩) n c) xs)) (k : Nat) {x : α} (hk : xs[k]? = some x) : ∀ j u, (E.enc x)[j]? = some u → W.cell? ⟨b, o + k * E.k + j, none⟩ = some u := by
 have hs := h.src i hi rowT_reads
 rcases hs.1 with ⟨rfl, _⟩ | ⟨b', o', cap, he, _, hc⟩
 ·simp at hk
 ·simp only [Value.slice.injEq, Option.some.injEq, Addr.mk.injEq] at he
  obtain ⟨⟨rfl, rfl, _⟩, _⟩ := he
  exact hc k x hk
theorem row_cell0 {P : Program} {α : Type} {E : Elem P α} {L : List At} {H : Nat → Prop} {w W : World} {b o n c : Nat} {xs : List α} (h : Mem L H w W) (i : Nat) (hi : L[i]? = some (rowT E (.slice (some ⟨b, o, none⟩) n c) xs)) {x : α} (hk : xs[0]? = some x) : ∀ j u, (E.enc x)[j]? = some u → W.cell? ⟨b, o + j, none⟩ = some u := fun j u hu => by
 have := row_cell h i hi 0 hk j u hu
 rwa [Nat.zero_mul, Nat.add_zero] at this
theorem row_addr {P : Program} {α : Type} {E : Elem P α} {L : List At} {H : Nat → Prop} {w W : World} {v : Value} {xs : List α} (h : Mem L H w W) (i : Nat) (hi : L[i]? = some (rowT E v xs)) (hx : xs ≠ []) : ∃ b o c, v = .slice (some ⟨b, o, none⟩) xs.length c := by
 have hs := h.src i hi rowT_reads
 rcases hs.1 with ⟨rfl, _⟩ | ⟨b, o, cap, he, _, _⟩
 ·exact absurd rfl hx
 ·exact ⟨b, o, cap, he⟩
theorem cls_one {raws : List RawM} {m : MM} {L : List At} {H : Nat → Prop} {w W : World} (h : Mem (clsT raws [m] :: L) H w W) : ∃ p n cap, raws = [⟨m.kind, m.frm, m.dst, m.seq, m.for', m.about, p, n, cap⟩] ∧ Mem (rowT elemCl (.slice p n cap) m.claims :: L) H w W := by
 obtain ⟨H', ⟨H1, H2, h1, h2, ha, he⟩, hf, hg⟩ := h
 cases raws with
 | nil => exact h1.elim
 | cons r rs =>
  obtain ⟨⟨k1, k2, k3, k4, k5, k6⟩, hs⟩ := h1
  cases rs with
  | cons r2 rs => obtain ⟨_, _, _, hh, _⟩ := hs; exact hh.elim
  | nil =>
   refine ⟨r.p, r.n, r.cap, ?_, H', ⟨H1, H2, emp_right hs, h2, ha, he⟩, hf, hg⟩
   rw [← k1, ← k2, ← k3, ← k4, ← k5, ← k6]
theorem msgs_open1 {u : Value} {m : MM} {L : List At} {H : Nat → Prop} {w W : World} (h : Mem (msgsT u [m] :: L) H w W) : ∃ b o c p cap, u = .slice (some ⟨b, o, none⟩) 1 c ∧ Mem (rowT elemM (.slice (some ⟨b, o, none⟩) 1 c) [⟨m.kind, m.frm, m.dst, m.seq, m.for', m.about, p, m.claims.length, cap⟩] :: rowT elemCl (.slice p m.claims.length cap) m.claims :: L) H w W := by
 obtain ⟨raws, h1⟩ := msgs_open h
 have h2 : Mem (clsT raws [m] :: rowT elemM u raws :: L) H w W := Mem.front h1 [1] (pre := [clsT raws [m]]) (rem := rowT elemM u raws :: L) rfl
 obtain ⟨p, n, cap, rfl, h3⟩ := cls_one h2
 obtain ⟨p', cap', he⟩ := row_form (h3.src 0 rfl rowT_reads)
 simp only [Value.slice.injEq] at he
 obtain ⟨rfl, rfl, rfl⟩ := he
 have h4 : Mem (rowT elemM u _ :: rowT elemCl _ m.claims :: L) H w W := Mem.front h3 [1] (pre := [rowT elemM u _]) (rem := rowT elemCl _ m.claims :: L) rfl
 obtain ⟨b, o, c, hu⟩ := row_addr h4 0 rfl (by simp)
 subst hu
 exact ⟨b, o, c, _, _, rfl, h4⟩
theorem awake_tick : (tickD (newD 0 0) [1] 7).2 = [⟨1, 0, 1, 1, 0, 0, [⟨0, 0, 1⟩]⟩] := by kernel_rfl
set_option maxHeartbeats 4000000 in
set_option maxRecDepth 100000 in
theorem awake_d  : Does Tryz.prog 5 #[] [] (.bool true) [] := by
 intro w H hp
 have HM0 := Lib.hid (mem_refl hp)
 clear hp
 go_enter Tryz.func5, Tryz.ntmps5
 refine wp_seq ?_
 refine wp_region_N [(0, 1)] (by kernel_rfl) ?_
 refine wS1 [0] ?_
 repeat (go_big_quiet_step (fail))
 refine wpQuiet_nil ?_
 refine wpS_nil ?_
 refine then_normal ?_
 refine wp_seq ?_
 refine wp_region_N [(0, 3), (1, 1)] (by kernel_rfl) ?_
 refine wpS_doesU2 (i := 0) (d := some 3) (rem := []) rfl (by rfl) rfl Tryz.call6 (new_d 0 0 (by decide) (by decide)) rfl rfl HM0.out [] rfl covS_nil (fun _ => rfl) rfl ?_
 rintro u3 W2 hm1 -
 obtain ⟨bk, hm1e⟩ := Mem.ex hm1
 clear hm1
 obtain ⟨hm1u, hm1⟩ := Mem.pr hm1e
 clear hm1e
 subst hm1u
 have HM4 := Lib.hid hm1
 clear hm1
 simp only [Act.put, pA, pB, pC]
 refine wS1 [1] ?_
 repeat (go_big_quiet_step (fail))
 refine wpQuiet_nil ?_
 refine wpS_nil ?_
 refine then_normal ?_
 refine wp_seq ?_
 refine wp_region_N [(0, 1), (1, 3), (2, 3), (3, 1)] (by kernel_rfl) ?_
 refine wS1 [0] ?_
 repeat (go_big_quiet_step (fail))
 refine wpQuiet_nil ?_
 refine wpS_build1 elemI (i := 1) (dd := 5) (y := (1 : Int)) rfl (by rfl) rfl rfl rfl (by decide) HM4.out covS_nil rfl ?_
 rintro b7 W8 hm9 -
 have HM10 := Lib.hid hm9
 clear hm9
 simp only [Act.put, pA, pB, pC]
 refine wpS_doesU3 (i := 2) (d := some 6) (rem := []) rfl (by rfl) rfl Tryz.call15 (tick_d bk.d (newD 0 0) bk.pv bk.pq bk.po bk.pc (.slice (some ⟨b7, 0, none⟩) 1 1) 7 (rowT elemI (.slice (some ⟨b7, 0, none⟩) 1 1) [1]) [1] (fun W H h => rowAt_src (rowT_reads W H h)) (by decide) (lok_new (by decide) (by decide)) (by decide) (by decide) (by decide)) rfl rfl rfl HM10.out [0, 0, 0, 0, 0, 0] rfl covS_nil (fun _ => rfl) rfl ?_
 rintro u13 W12 hm11 -
 rw [awake_tick] at hm11
 obtain ⟨mb, mo, mc, mp, mcap, hm11u, hm11m⟩ := msgs_open1 hm11
 clear hm11
 subst hm11u
 have HM14 := Lib.hid hm11m
 clear hm11m
 simp only [Act.put, pA, pB, pC]
 refine wS1 [3] ?_
 repeat (go_big_quiet_step (fail))
 refine wpQuiet_nil ?_
 refine wpS_nil ?_
 refine then_normal ?_
 refine wp_seq ?_
 refine wp_region_N [(0, 1), (1, 1), (2, 1), (3, 1), (4, 1), (5, 1), (6, 1), (7, 1), (8, 1), (9, 1), (10, 1), (11, 1), (12, 1), (13, 1), (14, 1), (15, 1), (16, 1), (17, 1), (18, 1), (19, 1), (20, 1), (21, 1), (22, 1), (23, 1), (24, 1), (25, 1), (26, 1), (27, 1), (28, 1), (29, 1), (30, 1), (31, 1), (32, 1)] (by kernel_rfl) ?_
 have c0 : World.cell? _ ⟨mb, mo, none⟩ = some (.int .i64 1) := row_cell0 HM14.out 0 rfl rfl 0 _ rfl
 have c2 : World.cell? _ ⟨mb, mo + 2, none⟩ = some (.int .i64 1) := row_cell0 HM14.out 0 rfl rfl 2 _ rfl
 have c3 : World.cell? _ ⟨mb, mo + 3, none⟩ = some (.int .i64 1) := row_cell0 HM14.out 0 rfl rfl 3 _ rfl
 have c61 : World.cell? _ ⟨mb, mo + 61, none⟩ = some (.slice mp 1 mcap) := row_cell0 HM14.out 0 rfl rfl 61 _ rfl
 refine wS1 [0, 1, 2, 3, 4, 5, 6, 7, 8, 9, 10, 11, 12, 13, 14, 15, 16, 17, 18, 19, 20, 21, 22, 23, 24, 25, 26, 27, 28, 29, 30, 31, 32] ?_
 repeat (go_big_quiet_step (fail))
 refine wpQuiet_nil ?_
 refine wpS_nil ?_
 refine then_normal ?_
 refine wp_ret ?_
 refine bodyPost_ret (results_tmp rfl _ _ _) rfl ?_
 exact does_ret (Mem.only (M := []) HM14.out [] rfl) rfl rfl
end Go.Proofs.YtjbihgfdgaiecaaGreat

/- Arguments that are slices of whatever elements, opened; a law's last step where nothing that was there has turned. -/
namespace Go.Proofs.YtjbihgfdgaiecaaGreat
open Go Go.ChangeShapes Go.WideShapes Go.ChangeAt Go.RowKit Go.Joins
theorem own : ownKnob Tryz.prog.godebug = none := by kernel_rfl
theorem laidOut : laidOutB Tryz.prog = true := by kernel_rfl
theorem addr_spot (a : Addr) (w : World) (v : Value) (h : w.cell? a = some v) : a = ⟨a.block, a.off, none⟩ := by
 obtain ⟨b, o, sp⟩ := a
 cases sp with
 | none => rfl
 | some s =>
  exfalso
  unfold World.cell? at h
  revert h
  dsimp only
  split <;> simp
structure Readable {α : Type} (E : Elem Tryz.prog α) : Prop where
 cells : Tryz.prog.cellsOf E.t = E.k
 bytes : Tryz.prog.bytesOf E.t = E.bytes
 read : ∀ {H : Type} {enc : TypeId × Value → H} {w : World} {base : Nat} {spare : Nat → Bool} {held : Bool} {fuel : Nat} {cs : List Value} {x : DataW H × List MemPlace}, DataW.trod enc Tryz.prog w base spare held fuel E.t cs = some x → ∃ y : α, cs = E.enc y
section
variable {α : Type} {E : Elem Tryz.prog α} {H : Type} {enc : TypeId × Value → H} {w : World} {base : Nat} {spare : Nat → Bool} {held : Bool}
set_option maxRecDepth 100000 in
theorem open_elems [Inhabited α] (hE : Readable E) {fuel : Nat} {cs : List Value} {x : DataW H × List MemPlace} (h : DataW.trod enc Tryz.prog w base spare held fuel E.sl cs = some x) :
  ∃ (v : Value) (l : List α), cs = [v] ∧ SrcE E w v l ∧ (l = [] ∨ ∃ es sp, x.1 = .slice es sp ∧ es.length = l.length) := by
 rcases Go.Deep.open_slice E.under h with ⟨rfl, _⟩ | ⟨a, len, cap, m, n, D, Pl, rfl, _, hlc, hcm, hm, hx, hi⟩
 ·exact ⟨_, [], rfl, ⟨.inl ⟨rfl, _, _, rfl⟩, none, 0, rfl, Nat.le_refl _, fun _ => rfl⟩, .inl rfl⟩
 ·rw [hE.cells] at hi
  have hlm : len ≤ m := by rw [hm]; split <;> omega
  have hok : ∀ l : List α, l.length = len → ∃ p c, Value.slice (some a) len cap = .slice p l.length c ∧ l.length ≤ c ∧ (p = none → c = 0) := fun l hl => ⟨some a, cap, by rw [hl], by omega, fun h => by cases h⟩
  have each : ∀ i, i < len → ∃ y : α, ∀ j u, (E.enc y)[j]? = some u → w.cell? ((a.add (i * E.k)).add j) = some u := by
   intro i hil
   obtain ⟨cs', hc, ht⟩ := hi i (by omega)
   obtain ⟨y, rfl⟩ := hE.read ht
   obtain ⟨hlen, _, hat⟩ := World.cells?_some hc
   refine ⟨y, fun j u hu => ?_⟩
   have hj : j < E.k := by have := (List.getElem?_eq_some_iff.1 hu).1; rw [E.len] at this; exact this
   rw [hat j hj]
   exact hu
  by_cases h0 : len = 0
  ·subst h0
   exact ⟨_, [], rfl, ⟨.inl ⟨rfl, _, _, rfl⟩, hok [] rfl⟩, .inl rfl⟩
  ·obtain ⟨f, hf⟩ : ∃ f : Nat → α, ∀ i, i < len → ∀ j u, (E.enc (f i))[j]? = some u → w.cell? ((a.add (i * E.k)).add j) = some u :=
    ⟨fun i => if h : i < len then Classical.choose (each i h) else default, fun i h => by
     dsimp only
     rw [dif_pos h]
     exact Classical.choose_spec (each i h)⟩
   have hz : ∃ u, w.cell? a = some u := by
    have hp : 0 < (E.enc (f 0)).length := by rw [E.len]; exact E.pos
    have := hf 0 (by omega) 0 _ (List.getElem?_eq_getElem hp)
    rw [show (a.add (0 * E.k)).add 0 = a by unfold Addr.add; simp] at this
    exact ⟨_, this⟩
   obtain ⟨u0, hz⟩ := hz
   have ha := addr_spot a w _ hz
   obtain ⟨b, o, hbo⟩ : ∃ b o, a = ⟨b, o, none⟩ := ⟨_, _, ha⟩
   subst hbo
   have hlt : b < w.heap.size := block_lt_of_cell hz
   refine ⟨_, (List.range len).map f, rfl, ⟨.inr ⟨b, o, cap, by simp, hlt, fun k c hk j u hu => ?_⟩, hok _ (by simp)⟩, .inr ⟨_, _, by rw [hx], by simp⟩⟩
   have hkl : k < len := by
    have := (List.getElem?_eq_some_iff.1 hk).1
    simpa using this
   have e : c = f k := by
    simp [List.getElem?_range hkl] at hk
    exact hk.symm
   rw [e] at hu
   have := hf k hkl j u hu
   simpa only [addr_off] using this
set_option maxRecDepth 100000 in
theorem reach_srcE (hE : Readable E) {ts : List TypeId} {ds : List (DataW H)} {j : Nat} {d : DataW H} {l : List α} (hsz : (DataW.weightsEach Tryz.prog ts ds).all (· ≤ reachBytes) = true) (ht : ts[j]? = some E.sl) (hd : ds[j]? = some d) (h : l = [] ∨ ∃ es sp, d = .slice es sp ∧ es.length = l.length) : l.length * E.bytes ≤ 140737488351232 := by
 rcases h with rfl | ⟨es, sp, rfl, hl⟩
 ·simp
 ·have := List.all_eq_true.1 hsz _ (DataW.weights_mem_each ht hd ((es.length + sp.length) * Tryz.prog.bytesOf E.t) (by simp [DataW.weights, E.under]))
  rw [hE.bytes] at this
  have h2 : (es.length + sp.length) * E.bytes ≤ 140737488351232 := of_decide_eq_true this
  rw [← hl]
  exact Nat.le_trans (Nat.mul_le_mul_right _ (by omega)) h2
end
theorem post_law {H : Type} {enc : TypeId × Value → H} {P : Program} {f : Func} {s : ChangeSpec} {W W' : World} {args : Array Value} {v : Value} {ds gs : List (DataW H)} {before pa pv : List MemPlace}
  (hW : DataW.Whole enc P f.params.toList s.vars false W args.toList ds gs before) (hb : Below W.heap.size W W')
  (hres : DataW.TrodAll enc P W' W.heap.size (fun _ => false) false f.resultTypes.toList (v.resultList f.resultTypes.size) (s.fn H (ds ++ gs)).results [])
  (hargs : DataW.TrodAll enc P W' 0 (fun b => decide (b < W.heap.size)) true f.params.toList args.toList (s.fn H (ds ++ gs)).args pa)
  (hvars : DataW.TrodVars enc P W' (fun b => decide (b < W.heap.size)) s.vars (s.fn H (ds ++ gs)).vars pv) (hp : before = pa ++ pv) : s.post enc P f false true false false W args v W' :=
 ⟨ds, gs, before, [], pa, pv, hW, hres, hargs, hvars, World.keptBut_mono (fun p h => ⟨h, Or.inr (by rw [hp] at h; simpa using h)⟩) (hb.frame (· ∈ before)), fun h => by cases h⟩
theorem below_trodAll {H : Type} {enc : TypeId × Value → H} {P : Program} (hl : laidOutB P = true) {W W' : World} (hb : Below W.heap.size W W') :
  ∀ {ts : List TypeId} {vs : List Value} {ds : List (DataW H)} {ps : List MemPlace}, (ts.all fun t => P.readableRec t && decide (t < P.types.size)) = true → DataW.TrodAll enc P W 0 (fun _ => true) true ts vs ds ps → (∀ x ∈ ps, x.block < W.heap.size) →
   DataW.TrodAll enc P W' 0 (fun b => decide (b < W.heap.size)) true ts vs ds ps
 | [], _, _, _, _, h, _ => by
  obtain ⟨rfl, rfl, rfl⟩ := trodAll_nil h
  exact trodAll_mk0
 | t :: ts, _, _, _, hr, h, hlt => by
  obtain ⟨v, vs1, d, ds1, a, b, rfl, rfl, rfl, h1, h2⟩ := trodAll_cons h
  simp only [List.all_cons, Bool.and_eq_true, decide_eq_true_eq] at hr
  exact trodAll_cons_mk (Below.trod hl hr.1.1 hr.1.2 h1 hb (fun x hx => hlt x (List.mem_append_left _ hx))) (below_trodAll hl hb hr.2 h2 (fun x hx => hlt x (List.mem_append_right _ hx)))
end Go.Proofs.YtjbihgfdgaiecaaGreat
