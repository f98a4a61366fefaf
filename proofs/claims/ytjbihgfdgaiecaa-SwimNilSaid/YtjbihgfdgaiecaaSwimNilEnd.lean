/- SwimNil for every input: whatever the arguments, the law answers true, and nothing that was there has turned. -/
import Derived.Test.YtjbihgfdgaiecaaPI
import Derived.Test.YtjbihgfdgaiecaaChecked
import Derived.Test.YtjbihgfdgaiecaaRows
namespace Go.Proofs.Ytjbihgfdgaiecaa
open Go Go.RowKit Go.BigFrame

set_option maxRecDepth 100000 in
def callZero : Value := .agg #[.int .i64 0, .int .i64 0, .int .i64 0, .int .i64 0, .int .i64 0, .int .i64 0, .int .i64 0, .int .i64 0, .int .i64 0, .int .i64 0, .int .i64 0, .int .i64 0, .string ByteArray.empty, .int .i64 0, .int .i64 0, .int .i64 0, .int .i64 0, .int .i64 0, .int .i64 0, .int .i64 0, .int .i64 0, .slice none 0 0, .int .i64 0, .int .i64 0, .int .i64 0, .int .i64 0, .int .i64 0, .int .i64 0, .int .i64 0, .int .i64 0, .int .i64 0, .int .i64 0, .slice none 0 0, .int .i64 0, .int .i64 0, .int .i64 0, .int .i64 0, .int .i64 0, .int .i64 0, .int .i64 0, .int .i64 0, .int .i64 0, .int .i64 0, .int .i64 0, .int .i64 0, .int .i64 0, .int .i64 0, .int .i64 0, .int .i64 0, .int .i64 0, .int .i64 0, .int .i64 0, .int .i64 0, .int .i64 0, .int .i64 0, .int .i64 0, .int .i64 0, .int .i64 0, .int .i64 0, .int .i64 0, .int .i64 0, .int .i64 0, .int .i64 0, .int .i64 0, .int .i64 0, .slice none 0 0, .slice none 0 0, .int .u64 0]
set_option maxRecDepth 100000 in
def callZeroD {H : Type} : DataW H := .agg [.lit (.int .i64 0), .agg [.lit (.int .i64 0), .lit (.int .i64 0), .lit (.int .i64 0)], .agg [.lit (.int .i64 0), .lit (.int .i64 0), .lit (.int .i64 0), .lit (.int .i64 0), .lit (.int .i64 0), .lit (.int .i64 0), .lit (.int .i64 0), .lit (.int .i64 0), .lit (.string []), .agg [.agg [.lit (.int .i64 0), .lit (.int .i64 0), .lit (.int .i64 0), .lit (.int .i64 0), .lit (.int .i64 0), .lit (.int .i64 0), .lit (.int .i64 0), .lit (.int .i64 0)], .nil], .agg [.agg [.lit (.int .i64 0), .lit (.int .i64 0), .lit (.int .i64 0), .lit (.int .i64 0), .lit (.int .i64 0), .lit (.int .i64 0), .lit (.int .i64 0), .lit (.int .i64 0)], .agg [.lit (.int .i64 0), .lit (.int .i64 0), .nil], .agg [.agg [.lit (.int .i64 0), .lit (.int .i64 0)], .agg [.lit (.int .i64 0), .lit (.int .i64 0)], .agg [.lit (.int .i64 0), .lit (.int .i64 0)], .agg [.lit (.int .i64 0), .lit (.int .i64 0)], .agg [.lit (.int .i64 0), .lit (.int .i64 0)], .agg [.lit (.int .i64 0), .lit (.int .i64 0)], .agg [.lit (.int .i64 0), .lit (.int .i64 0)], .agg [.lit (.int .i64 0), .lit (.int .i64 0)], .agg [.lit (.int .i64 0), .lit (.int .i64 0)], .agg [.lit (.int .i64 0), .lit (.int .i64 0)], .agg [.lit (.int .i64 0), .lit (.int .i64 0)], .agg [.lit (.int .i64 0), .lit (.int .i64 0)], .agg [.lit (.int .i64 0), .lit (.int .i64 0)], .agg [.lit (.int .i64 0), .lit (.int .i64 0)], .agg [.lit (.int .i64 0), .lit (.int .i64 0)], .agg [.lit (.int .i64 0), .lit (.int .i64 0)]]], .nil], .nil, .lit (.int .u64 0)]
structure CallV where
  o : Int
  n : Int
  i : Int
  h : Int
  m : InM
  pp : Option Addr
  pn : Nat
  pc : Nat
  draw : Int
  hm : m.mid.length = 55
  d0 : 0 ≤ draw
  d1 : draw < 18446744073709551616
def CallV.enc (c : CallV) : List Value := [.int .i64 c.o, .int .i64 c.n, .int .i64 c.i, .int .i64 c.h] ++ (c.m.enc ++ [.slice c.pp c.pn c.pc, .int .u64 c.draw])
def CallV.val (c : CallV) : Value := .agg c.enc.toArray
theorem CallV.len (c : CallV) : c.enc.length = 68 := by unfold CallV.enc; simp [InM.enc_len c.hm]
theorem CallV.at_c (c : CallV) : ∀ k u, [Value.int .i64 c.n, .int .i64 c.i, .int .i64 c.h][k]? = some u → c.enc[1 + k]? = some u
  | 0, _, h => h
  | 1, _, h => h
  | 2, _, h => h
  | k + 3, _, h => by simp at h
theorem CallV.at_m (c : CallV) : ∀ k u, c.m.enc[k]? = some u → c.enc[4 + k]? = some u := fun k u h => by
  have hk : k < c.m.enc.length := (List.getElem?_eq_some_iff.1 h).1
  unfold CallV.enc
  rw [List.getElem?_append_right (by simp)]
  have : 4 + k - [Value.int .i64 c.o, .int .i64 c.n, .int .i64 c.i, .int .i64 c.h].length = k := by simp
  rw [this, List.getElem?_append_left hk, h]
theorem CallV.at_p (c : CallV) : c.enc[66]? = some (.slice c.pp c.pn c.pc) := by
  unfold CallV.enc
  rw [List.getElem?_append_right (by simp), List.getElem?_append_right (by simp [InM.enc_len c.hm])]
  simp [InM.enc_len c.hm]
theorem CallV.at_d (c : CallV) : c.enc[67]? = some (.int .u64 c.draw) := by
  unfold CallV.enc
  rw [List.getElem?_append_right (by simp), List.getElem?_append_right (by simp [InM.enc_len c.hm])]
  simp [InM.enc_len c.hm]
section
variable {P : Program} {w : World} {r : Reach} {b : Nat} {t : TypeId} {v : Value}
theorem cell_int {k : IntKind} (ht : P.underlying t = some (.int k)) (h : Cell.okWide P w r b t v) : ∃ n, v = .int k n ∧ k.min ≤ n ∧ n ≤ k.max := by
  simp only [Cell.okWide, ht] at h
  cases v <;> simp_all [Cell.ok, IntKind.has]
theorem cell_slice {e : TypeId} (ht : P.underlying t = some (.slice e)) (h : Cell.okWide P w r b t v) : ∃ a n c, v = .slice a n c := by
  simp only [Cell.okWide, ht] at h
  cases v <;> simp_all [Cell.ok]
end
theorem three_of {α : Type} {l : List α} (h : l.length = 3) : ∃ a b c, l = [a, b, c] := by
  match l, h with
  | [a, b, c], _ => exact ⟨a, b, c, rfl⟩
def callTs : List TypeId := [3, 3, 3, 3, 3, 3, 3, 3, 3, 3, 3, 3, 9, 3, 3, 3, 3, 3, 3, 3, 3, 26, 3, 3, 3, 3, 3, 3, 3, 3, 3, 3, 29, 3, 3, 3, 3, 3, 3, 3, 3, 3, 3, 3, 3, 3, 3, 3, 3, 3, 3, 3, 3, 3, 3, 3, 3, 3, 3, 3, 3, 3, 3, 3, 3, 37, 29, 40]
theorem callTs_is : Try.prog.cellTypes Try.prog.depth 42 = some callTs := by kernel_rfl
set_option maxRecDepth 100000 in
theorem open_callV {w : World} {r : Reach} {b : Nat} {v : Value} (hv : Value.okWide Try.prog w r b 42 v) : ∃ c : CallV, v = c.val := by
  simp only [Value.okWide, Try.underlying42] at hv
  obtain ⟨cs, rfl, hsz, ts, hts, -, hall⟩ := hv
  have hz : cs.size = 68 := hsz.trans (by kernel_rfl)
  obtain rfl : ts = callTs := Option.some.inj (hts.symm.trans callTs_is)
  obtain ⟨l, rfl⟩ : ∃ l : List Value, cs = l.toArray := ⟨cs.toList, by simp⟩
  have hl : l.length = 68 := by simpa using hz
  have hc : ∀ i v, l[i]? = some v → ∃ u, callTs[i % 68]? = some u ∧ Cell.okWide Try.prog w r b u v := fun i v h => hall i v (by simpa using h)
  clear hall hsz hz hts
  obtain ⟨x0, x1, x2, x3, x4, x5, x6, x7, x8, x9, q, rfl⟩ : ∃ x0 x1 x2 x3 x4 x5 x6 x7 x8 x9 q, l = x0 :: x1 :: x2 :: x3 :: x4 :: x5 :: x6 :: x7 :: x8 :: x9 :: q := by
    match l, hl with
    | x0 :: x1 :: x2 :: x3 :: x4 :: x5 :: x6 :: x7 :: x8 :: x9 :: q, _ => exact ⟨x0, x1, x2, x3, x4, x5, x6, x7, x8, x9, q, rfl⟩
  have hq : q.length = 58 := by simpa using hl
  obtain ⟨y, z, e, hd⟩ := three_of (l := q.drop 55) (by simp [hq])
  obtain ⟨mid, hmid⟩ : ∃ mid, q.take 55 = mid := ⟨_, rfl⟩
  have hm : mid.length = 55 := by rw [← hmid]; simp [hq]
  obtain rfl : q = mid ++ [y, z, e] := by rw [← hmid, ← hd, List.take_append_drop]
  clear hmid hd hq hl
  have g : ∀ j, (x0 :: x1 :: x2 :: x3 :: x4 :: x5 :: x6 :: x7 :: x8 :: x9 :: (mid ++ [y, z, e]))[65 + j]? = [y, z, e][j]? := fun j => by
    have e1 : (x0 :: x1 :: x2 :: x3 :: x4 :: x5 :: x6 :: x7 :: x8 :: x9 :: (mid ++ [y, z, e])) = ([x0, x1, x2, x3, x4, x5, x6, x7, x8, x9] ++ mid) ++ [y, z, e] := by simp
    rw [e1, List.getElem?_append_right (by simp [hm])]
    congr 1
    simp [hm]
  obtain ⟨a0, rfl, -, -⟩ : ∃ n, x0 = Value.int .i64 n ∧ IntKind.i64.min ≤ n ∧ n ≤ IntKind.i64.max := by
    obtain ⟨u, hu, h⟩ := hc 0 x0 rfl
    have e : callTs[0 % 68]? = some 3 := by kernel_rfl
    obtain rfl := Option.some.inj (e.symm.trans hu)
    exact cell_int Try.underlying3 h
  obtain ⟨a1, rfl, -, -⟩ : ∃ n, x1 = Value.int .i64 n ∧ IntKind.i64.min ≤ n ∧ n ≤ IntKind.i64.max := by
    obtain ⟨u, hu, h⟩ := hc 1 x1 rfl
    have e : callTs[1 % 68]? = some 3 := by kernel_rfl
    obtain rfl := Option.some.inj (e.symm.trans hu)
    exact cell_int Try.underlying3 h
  obtain ⟨a2, rfl, -, -⟩ : ∃ n, x2 = Value.int .i64 n ∧ IntKind.i64.min ≤ n ∧ n ≤ IntKind.i64.max := by
    obtain ⟨u, hu, h⟩ := hc 2 x2 rfl
    have e : callTs[2 % 68]? = some 3 := by kernel_rfl
    obtain rfl := Option.some.inj (e.symm.trans hu)
    exact cell_int Try.underlying3 h
  obtain ⟨a3, rfl, -, -⟩ : ∃ n, x3 = Value.int .i64 n ∧ IntKind.i64.min ≤ n ∧ n ≤ IntKind.i64.max := by
    obtain ⟨u, hu, h⟩ := hc 3 x3 rfl
    have e : callTs[3 % 68]? = some 3 := by kernel_rfl
    obtain rfl := Option.some.inj (e.symm.trans hu)
    exact cell_int Try.underlying3 h
  obtain ⟨a4, rfl, -, -⟩ : ∃ n, x4 = Value.int .i64 n ∧ IntKind.i64.min ≤ n ∧ n ≤ IntKind.i64.max := by
    obtain ⟨u, hu, h⟩ := hc 4 x4 rfl
    have e : callTs[4 % 68]? = some 3 := by kernel_rfl
    obtain rfl := Option.some.inj (e.symm.trans hu)
    exact cell_int Try.underlying3 h
  obtain ⟨a5, rfl, -, -⟩ : ∃ n, x5 = Value.int .i64 n ∧ IntKind.i64.min ≤ n ∧ n ≤ IntKind.i64.max := by
    obtain ⟨u, hu, h⟩ := hc 5 x5 rfl
    have e : callTs[5 % 68]? = some 3 := by kernel_rfl
    obtain rfl := Option.some.inj (e.symm.trans hu)
    exact cell_int Try.underlying3 h
  obtain ⟨a6, rfl, -, -⟩ : ∃ n, x6 = Value.int .i64 n ∧ IntKind.i64.min ≤ n ∧ n ≤ IntKind.i64.max := by
    obtain ⟨u, hu, h⟩ := hc 6 x6 rfl
    have e : callTs[6 % 68]? = some 3 := by kernel_rfl
    obtain rfl := Option.some.inj (e.symm.trans hu)
    exact cell_int Try.underlying3 h
  obtain ⟨a7, rfl, -, -⟩ : ∃ n, x7 = Value.int .i64 n ∧ IntKind.i64.min ≤ n ∧ n ≤ IntKind.i64.max := by
    obtain ⟨u, hu, h⟩ := hc 7 x7 rfl
    have e : callTs[7 % 68]? = some 3 := by kernel_rfl
    obtain rfl := Option.some.inj (e.symm.trans hu)
    exact cell_int Try.underlying3 h
  obtain ⟨a8, rfl, -, -⟩ : ∃ n, x8 = Value.int .i64 n ∧ IntKind.i64.min ≤ n ∧ n ≤ IntKind.i64.max := by
    obtain ⟨u, hu, h⟩ := hc 8 x8 rfl
    have e : callTs[8 % 68]? = some 3 := by kernel_rfl
    obtain rfl := Option.some.inj (e.symm.trans hu)
    exact cell_int Try.underlying3 h
  obtain ⟨a9, rfl, -, -⟩ : ∃ n, x9 = Value.int .i64 n ∧ IntKind.i64.min ≤ n ∧ n ≤ IntKind.i64.max := by
    obtain ⟨u, hu, h⟩ := hc 9 x9 rfl
    have e : callTs[9 % 68]? = some 3 := by kernel_rfl
    obtain rfl := Option.some.inj (e.symm.trans hu)
    exact cell_int Try.underlying3 h
  obtain ⟨s0a, s0n, s0c, rfl⟩ : ∃ a n c, y = Value.slice a n c := by
    obtain ⟨u, hu, h⟩ := hc 65 y (g 0)
    have e : callTs[65 % 68]? = some 37 := by kernel_rfl
    obtain rfl := Option.some.inj (e.symm.trans hu)
    exact cell_slice Try.underlying37 h
  obtain ⟨s1a, s1n, s1c, rfl⟩ : ∃ a n c, z = Value.slice a n c := by
    obtain ⟨u, hu, h⟩ := hc 66 z (g 1)
    have e : callTs[66 % 68]? = some 29 := by kernel_rfl
    obtain rfl := Option.some.inj (e.symm.trans hu)
    exact cell_slice Try.underlying29 h
  obtain ⟨dr, rfl, h0, h1⟩ : ∃ n, e = Value.int .u64 n ∧ IntKind.u64.min ≤ n ∧ n ≤ IntKind.u64.max := by
    obtain ⟨u, hu, h⟩ := hc 67 e (g 2)
    have e0 : callTs[67 % 68]? = some 40 := by kernel_rfl
    obtain rfl := Option.some.inj (e0.symm.trans hu)
    exact cell_int Try.underlying40 h
  have e1 : IntKind.u64.min = 0 := by decide
  have e2 : IntKind.u64.max = 18446744073709551615 := by decide
  refine ⟨⟨a0, a1, a2, a3, ⟨a4, a5, a6, a7, a8, a9, mid, s0a, s0n, s0c⟩, s1a, s1n, s1c, dr, hm, by omega, by omega⟩, ?_⟩
  simp [CallV.val, CallV.enc, InM.enc]
set_option maxRecDepth 100000 in
theorem open_callC {H : Type} {enc : TypeId × Value → H} {w W : World} {base : Nat} {sp : Nat → Bool} {held : Bool} {d : DataW H} {ps : List MemPlace} {r : Reach} {b : Nat} {v : Value} (hv : Value.okWide Try.prog w r b 42 v) (_ : DataW.Trod enc Try.prog W base sp held 42 v d ps) : ∃ c : CallV, v = c.val := open_callV hv
end Go.Proofs.Ytjbihgfdgaiecaa

/- SwimNil: its walk. -/
namespace Go.Proofs.Ytjbihgfdgaiecaa
open Go Go.RowKit Go.BigFrame

set_option maxHeartbeats 4000000 in
set_option maxRecDepth 100000 in
theorem nil_d (c : CallV) : Does Try.prog 3 #[c.val] [] (.bool true) [] := by
  intro w H hp
  have HM0 := Lib.hid (mem_refl hp)
  clear hp
  go_enter Try.func3, Try.ntmps3
  refine wp_seq ?_
  refine wp_region_N [(0, 3), (1, 1)] (by kernel_rfl) ?_
  refine wpS_boxA (i := 0) (dd := 1) rfl (by rfl) rfl rfl HM0.out covS_nil rfl ?_
  rintro b3 W2 hm1 -
  have HM4 := Lib.hid hm1
  clear hm1
  simp only [Act.put, List.setIfInBounds_toArray, List.set_cons_succ, List.set_cons_zero]
  refine wpS_this [1] rfl (by kernel_rfl) (by simp only [pickL, nthL, List.cons_append, List.nil_append]; rfl) ?_
  repeat (go_big_quiet_step (fail))
  refine wpQuiet_nil ?_
  refine wpS_nil ?_
  refine then_normal ?_
  refine wp_seq ?_
  refine wp_region_N [(0, 1)] (by kernel_rfl) ?_
  refine wpS_this [0] rfl (by kernel_rfl) (by simp only [pickL, nthL, List.cons_append, List.nil_append]; rfl) ?_
  repeat (go_big_quiet_step (fail))
  refine wpQuiet_nil ?_
  refine wpS_nil ?_
  refine then_normal ?_
  refine wp_seq ?_
  refine wp_region_N [(0, 1), (1, 1), (2, 1), (3, 1), (4, 1), (5, 3), (6, 1), (7, 1), (8, 1), (9, 1), (10, 1), (11, 1), (12, 3), (13, 1), (14, 1), (15, 1), (16, 1), (17, 1), (18, 1), (19, 1), (20, 3), (21, 1), (22, 1), (23, 1), (24, 1), (25, 3), (26, 1), (27, 1), (28, 1), (29, 1), (30, 1), (31, 1), (32, 1), (33, 1), (34, 3), (35, 1), (36, 1), (37, 1), (38, 1), (39, 1), (40, 3), (41, 1), (42, 1), (43, 1), (44, 1), (45, 1), (46, 3), (47, 1), (48, 1), (49, 1), (50, 1), (51, 3), (52, 1), (53, 1), (54, 1), (55, 1), (56, 3), (57, 1), (58, 1), (59, 1), (60, 3), (61, 1), (62, 1)] (by kernel_rfl) ?_
  refine wpS_this [0, 1] rfl (by kernel_rfl) (by simp only [pickL, nthL, List.cons_append, List.nil_append]; rfl) ?_
  repeat (go_big_quiet_step (fail))
  refine wpQuiet_nil ?_
  refine wpS_load1 (i := 2) (d := some 6) (u := .slice c.pp c.pn c.pc) rfl (by rfl) rfl rfl (((HM4.out.cellL 0 rfl 66).trans c.at_p)) Try.underlying29 rfl rfl ?_
  simp only [Act.put, List.setIfInBounds_toArray, List.set_cons_succ, List.set_cons_zero]
  refine wpS_this [3] rfl (by kernel_rfl) (by simp only [pickL, nthL, List.cons_append, List.nil_append]; rfl) ?_
  repeat (go_big_quiet_step (fail))
  refine wpQuiet_nil ?_
  refine wpS_load1 (i := 4) (d := some 8) (u := .int .u64 c.draw) rfl (by rfl) rfl rfl (((HM4.out.cellL 0 rfl 67).trans c.at_d)) Try.underlying40 rfl rfl ?_
  simp only [Act.put, List.setIfInBounds_toArray, List.set_cons_succ, List.set_cons_zero]
  refine wpS_does3 (i := 5) (d := some 9) (rem := [_]) (out := [_]) rfl (by rfl) rfl Try.call9 (tick_nobody (.slice c.pp c.pn c.pc) c.draw) rfl rfl rfl HM4.out [] rfl covS_nil rfl rfl ?_
  rintro W6 hm5 -
  have HM7 := Lib.hid hm5
  clear hm5
  simp only [Act.put, List.setIfInBounds_toArray, List.set_cons_succ, List.set_cons_zero]
  refine wpS_this [6, 7, 8, 9, 10] rfl (by kernel_rfl) (by simp only [pickL, nthL, List.cons_append, List.nil_append]; rfl) ?_
  repeat (go_big_quiet_step (fail))
  refine wpQuiet_nil ?_
  refine wpS_loadA (i := 11) (d := some 15) (cells := c.m.enc) rfl (by rfl) rfl rfl (fun k u hu => ((HM7.out.cellL 0 rfl (4 + k)).trans (c.at_m k u hu))) Try.underlying39 rfl (by rw [InM.enc_len c.hm]; kernel_rfl) rfl ?_
  simp only [Act.put, List.setIfInBounds_toArray, List.set_cons_succ, List.set_cons_zero]
  refine wpS_does2 (i := 12) (d := some 16) (rem := [_]) (out := [_]) rfl (by rfl) rfl Try.call10 (handle_nobody c.m) rfl rfl HM7.out [] rfl covS_nil rfl rfl ?_
  rintro W9 hm8 -
  have HM10 := Lib.hid hm8
  clear hm8
  simp only [Act.put, List.setIfInBounds_toArray, List.set_cons_succ, List.set_cons_zero]
  refine wpS_this [13, 14, 15, 16, 17, 18] rfl (by kernel_rfl) (by simp only [pickL, nthL, List.cons_append, List.nil_append]; rfl) ?_
  repeat (go_big_quiet_step (fail))
  refine wpQuiet_nil ?_
  refine wpS_loadA (i := 19) (d := some 23) (cells := [.int .i64 c.n, .int .i64 c.i, .int .i64 c.h]) rfl (by rfl) rfl rfl (fun k u hu => ((HM10.out.cellL 0 rfl (1 + k)).trans (c.at_c k u hu))) Try.underlying23 rfl (by kernel_rfl) rfl ?_
  simp only [Act.put, List.setIfInBounds_toArray, List.set_cons_succ, List.set_cons_zero]
  refine wpS_does2 (i := 20) (d := some 24) (rem := [_]) (out := [_]) rfl (by rfl) rfl Try.call11 (hear_nobody c.n c.i c.h) rfl rfl HM10.out [] rfl covS_nil rfl rfl ?_
  rintro W12 hm11 -
  have HM13 := Lib.hid hm11
  clear hm11
  simp only [Act.put, List.setIfInBounds_toArray, List.set_cons_succ, List.set_cons_zero]
  refine wpS_this [21, 22, 23, 24] rfl (by kernel_rfl) (by simp only [pickL, nthL, List.cons_append, List.nil_append]; rfl) ?_
  repeat (go_big_quiet_step (fail))
  refine wpQuiet_nil ?_
  refine wpS_does1 (i := 25) (d := some 29) (rem := [_]) (out := [_]) rfl (by rfl) rfl Try.call12 (leave_nobody) rfl HM13.out [] rfl covS_nil rfl rfl ?_
  rintro W15 hm14 -
  have HM16 := Lib.hid hm14
  clear hm14
  simp only [Act.put, List.setIfInBounds_toArray, List.set_cons_succ, List.set_cons_zero]
  refine wpS_this [26, 27, 28, 29, 30, 31, 32] rfl (by kernel_rfl) (by simp only [pickL, nthL, List.cons_append, List.nil_append]; rfl) ?_
  repeat (go_big_quiet_step (fail))
  refine wpQuiet_nil ?_
  refine wpS_load1 (i := 33) (d := some 37) (u := .int .i64 c.n) rfl (by rfl) rfl rfl (((HM16.out.cellL 0 rfl 1).trans rfl)) Try.underlying3 rfl rfl ?_
  simp only [Act.put, List.setIfInBounds_toArray, List.set_cons_succ, List.set_cons_zero]
  refine wpS_does2 (i := 34) (d := some 38) (rem := [_]) (out := [_]) rfl (by rfl) rfl Try.call13 (of_nobody c.n) rfl rfl HM16.out [] rfl covS_nil rfl rfl ?_
  rintro W18 hm17 -
  have HM19 := Lib.hid hm17
  clear hm17
  simp only [Act.put, List.setIfInBounds_toArray, List.set_cons_succ, List.set_cons_zero]
  refine wpS_this [35, 36, 37, 38, 39] rfl (by kernel_rfl) (by simp only [pickL, nthL, List.cons_append, List.nil_append]; rfl) ?_
  repeat (go_big_quiet_step (fail))
  refine wpQuiet_nil ?_
  refine wpS_does1 (i := 40) (d := some 44) (rem := [_]) (out := [_]) rfl (by rfl) rfl Try.call14 (all_nobody) rfl HM19.out [] rfl covS_nil rfl rfl ?_
  rintro W21 hm20 -
  have HM22 := Lib.hid hm20
  clear hm20
  simp only [Act.put, List.setIfInBounds_toArray, List.set_cons_succ, List.set_cons_zero]
  refine wpS_this [41, 42, 43, 44, 45] rfl (by kernel_rfl) (by simp only [pickL, nthL, List.cons_append, List.nil_append]; rfl) ?_
  repeat (go_big_quiet_step (fail))
  refine wpQuiet_nil ?_
  refine wpS_does1 (i := 46) (d := some 50) (rem := [_]) (out := [_]) rfl (by rfl) rfl Try.call15 (inc_nobody) rfl HM22.out [] rfl covS_nil rfl rfl ?_
  rintro W24 hm23 -
  have HM25 := Lib.hid hm23
  clear hm23
  simp only [Act.put, List.setIfInBounds_toArray, List.set_cons_succ, List.set_cons_zero]
  refine wpS_this [47, 48, 49, 50] rfl (by kernel_rfl) (by simp only [pickL, nthL, List.cons_append, List.nil_append]; rfl) ?_
  repeat (go_big_quiet_step (fail))
  refine wpQuiet_nil ?_
  refine wpS_does1 (i := 51) (d := some 55) (rem := [_]) (out := [_]) rfl (by rfl) rfl Try.call16 (now_nobody) rfl HM25.out [] rfl covS_nil rfl rfl ?_
  rintro W27 hm26 -
  have HM28 := Lib.hid hm26
  clear hm26
  simp only [Act.put, List.setIfInBounds_toArray, List.set_cons_succ, List.set_cons_zero]
  refine wpS_this [52, 53, 54, 55] rfl (by kernel_rfl) (by simp only [pickL, nthL, List.cons_append, List.nil_append]; rfl) ?_
  repeat (go_big_quiet_step (fail))
  refine wpQuiet_nil ?_
  refine wpS_does1 (i := 56) (d := some 60) (rem := [_]) (out := [_]) rfl (by rfl) rfl Try.call17 (over_nobody) rfl HM28.out [] rfl covS_nil rfl rfl ?_
  rintro W30 hm29 -
  have HM31 := Lib.hid hm29
  clear hm29
  simp only [Act.put, List.setIfInBounds_toArray, List.set_cons_succ, List.set_cons_zero]
  refine wpS_this [57, 58, 59] rfl (by kernel_rfl) (by simp only [pickL, nthL, List.cons_append, List.nil_append]; rfl) ?_
  repeat (go_big_quiet_step (fail))
  refine wpQuiet_nil ?_
  refine wpS_does0 (i := 60) (d := some 64) (rem := [_]) (out := [_]) rfl (by rfl) rfl Try.call18 (awake_d)  HM31.out [] rfl covS_nil rfl rfl ?_
  rintro W33 hm32 -
  have HM34 := Lib.hid hm32
  clear hm32
  simp only [Act.put, List.setIfInBounds_toArray, List.set_cons_succ, List.set_cons_zero]
  refine wpS_this [61, 62] rfl (by kernel_rfl) (by simp only [pickL, nthL, List.cons_append, List.nil_append]; rfl) ?_
  repeat (go_big_quiet_step (fail))
  refine wpQuiet_nil ?_
  refine wpS_nil ?_
  refine then_normal ?_
  refine wp_ret ?_
  refine bodyPost_ret (results_tmp rfl _ _ _) rfl ?_
  exact does_ret (Mem.only (M := []) HM34.out [] rfl) rfl rfl

theorem nilLaw (c : CallV) (W : World) : Gives Try.prog 3 #[c.val] W (.bool true) := (nil_d c).gives W
end Go.Proofs.Ytjbihgfdgaiecaa

namespace Go.Proofs.Ytjbihgfdgaiecaa.lawNil
open Go Go.ChangeShapes Go.WideShapes Go.ChangeAt Go.RowKit Go.Joins

set_option maxRecDepth 100000 in
theorem contract (H : Type) (enc : TypeId × Value → H) (W : World) (base : Nat) (args : Array Value) (ds gs : List (DataW H)) (before : List MemPlace)
    (hval : ∀ (j : Nat) t v, Try.f3.params[j]? = some t → args[j]? = some v → Value.okWide Try.prog W .any base t v)
    (hW : DataW.Whole enc Try.prog Try.f3.params.toList Rows.swimNilSpec.vars false W args.toList ds gs before)
    (hsz : (DataW.weightsEach Try.prog (Try.f3.params.toList ++ (OpenSpec.ofChange Rows.swimNilSpec).bare.plain.varTypes Try.prog) (ds ++ gs)).all (· ≤ reachBytes) = true) :
    Calls Try.prog 3 args W fun e W' => ∃ v, e = .returned v ∧ Rows.swimNilSpec.post enc Try.prog Try.f3 false true false false W args v W' := by
  have hW' := hW
  obtain ⟨p, q, hA0, hV, rfl, hfz, hnd⟩ := hW
  have hA : DataW.TrodAll enc Try.prog W 0 (fun _ => true) true Try.f3.params.toList args.toList ds p := hA0
  have hA' := hA
  rw [Try.params3] at hA hval
  obtain ⟨v0, vs0, d0, ds0, p0, q0, e0, rfl, rfl, g0, r0⟩ := trodAll_cons hA
  obtain ⟨e1, rfl, rfl⟩ := trodAll_nil r0
  obtain rfl : args = #[v0] := by
    apply Array.toList_inj.1
    rw [e0, e1]
  obtain ⟨rfl, rfl⟩ := trodVars_none hV
  obtain ⟨c0, rfl⟩ := open_callC (hval 0 _ v0 rfl rfl) g0
  have hlt := fun (x : MemPlace) hx => hW'.lt x hx
  simp only [List.append_nil] at hW' hlt hA'
  refine Calls.mono (nilLaw c0 W) fun e W' ⟨he, x, hx⟩ => ?_
  subst he
  subst hx
  exact ⟨_, rfl, post_law (pv := []) hW' x.below (trodAll_cons_mk (shut_bool Try.underlying4 _) trodAll_mk0) (below_trodAll laidOut x.below (by kernel_rfl) hA' hlt) rfl (by simp only [List.append_nil])⟩

theorem reads (os : Os) {H : Type} (enc : TypeId × Value → H) : ∃ places, DataW.whole enc Try.prog ((World.laidAll Try.prog os Rows.swimNilRow.laid).forCall (fun _ _ => 0) ⟨#[], #[callZero], []⟩).memory Try.f3.params.toList Rows.swimNilSpec.vars false (#[callZero] : Array Value).toList 8 = some ([callZeroD], [], places) :=
  ⟨[], by kernel_rfl⟩

set_option maxRecDepth 100000 in
theorem lifted (os : Os) (started : os.Started) (H : Type) (enc : TypeId × Value → H) (F : Stop.Interp) :
    ReturnsInHanded {} Try.checked os 3 .any ((OpenSpec.ofChange Rows.swimNilSpec).preRow enc Try.prog Try.f3 Rows.swimNilRow.domain false Rows.swimNilRow.laid) (((OpenSpec.ofChange Rows.swimNilSpec).at F).post enc Try.prog Try.f3 false true false false) := by
  obtain ⟨places, hx⟩ := reads os enc
  refine returnsInHanded_of_row (C := Try.checked) (s := OpenSpec.ofChange Rows.swimNilSpec) own started (by kernel_rfl) Try.func3
    (witness_row_at (enc := enc) (C := Try.checked) false (World.laidAll Try.prog os Rows.swimNilRow.laid) #[callZero] (World.laidAll_os _ _ _) (by kernel_rfl) (by kernel_rfl) (by kernel_rfl)
      (OpenSpec.preRow_of_cond 8 hx (by kernel_rfl) (fun k hk => by cases hk) (by kernel_rfl) (laidMet_laidAll _ (by kernel_rfl) (by kernel_rfl)))) ?_
  intro W base args ds gs before hval hW _ _ hsz _ _ _
  exact contract H enc W base args ds gs before hval hW hsz

theorem said : Rows.SwimNilSaid :=
  OpenClaim.holds_of_cond 3 Try.f3 rfl rfl rfl rfl rfl rfl rfl ⟨rfl, rfl, rfl, rfl, rfl⟩ rfl rfl rfl rfl rfl (by kernel_rfl) Try.func3 (by kernel_rfl)
    (of_decide_eq_true (by kernel_rfl)) (by unfold Func.isWrapper; first | (rw [if_pos (by decide +kernel)]; kernel_rfl) | (rw [if_neg (by decide +kernel)]; exact ⟨rfl, rfl⟩))
    (fun os started H enc _ F => by rw [OpenClaim.pre_eq_preRow]; exact lifted os started H enc F)
end Go.Proofs.Ytjbihgfdgaiecaa.lawNil
