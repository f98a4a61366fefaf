/- What can be read of what a caller hands over lies in single cells, whatever its type, where the types' parts tile it. -/
import Derived.Test.YtjbihgfdgaiecaaProg
import Derived.Test.YtjbihgfdgaiecaaPA
import Derived.Test.YtjbihgfdgaiecaaPI
import Derived.Test.YtjbihgfdgaiecaaPE
import Derived.ProofKit
import Derived.OpenShut
import Derived.ChangeSame
import Derived.Carry
namespace Go.Proofs.Ytjbihgfdgaiecaa
open Go Go.ChangeShapes Go.WideShapes Go.ChangeAt Go.RowKit

def tiles (P : Program) : List Field → Nat → Nat → Bool
  | [], o, n => o == n
  | f :: r, o, n => f.offset == o && tiles P r (o + P.cellsOf f.type) n
def laysB (P : Program) : Nat → TypeId → Bool
  | 0, _ => false
  | d + 1, t => match P.underlying t with
    | some (.struct fs) => tiles P fs.toList 0 (P.cellsOf t) && fs.toList.all fun f => laysB P d f.type
    | some (.array n e) => (P.cellsOf t == n * P.cellsOf e) && laysB P d e
    | _ => true
theorem tiled {P : Program} {k n : Nat} (hk : k < n) : ∀ (fs : List Field) (o : Nat), tiles P fs o n = true → o ≤ k → ∃ f ∈ fs, f.offset ≤ k ∧ k < f.offset + P.cellsOf f.type
  | [], o, h, ho => by
    simp [tiles] at h
    omega
  | f :: r, o, h, ho => by
    simp only [tiles, Bool.and_eq_true, beq_iff_eq] at h
    by_cases hlt : k < o + P.cellsOf f.type
    · exact ⟨f, List.mem_cons_self, by omega, by omega⟩
    · obtain ⟨g, hg, h1, h2⟩ := tiled hk r _ h.2 (by omega)
      exact ⟨g, List.mem_cons_of_mem _ hg, h1, h2⟩
theorem piece_mem {cs : List Value} {k o s : Nat} {u : Value} (hu : cs[k]? = some u) (h1 : o ≤ k) (h2 : k < o + s) : u ∈ (cs.drop o).take s := by
  refine List.mem_of_getElem? (i := k - o) ?_
  rw [List.getElem?_take, if_pos (by omega), List.getElem?_drop, show o + (k - o) = k by omega, hu]
theorem trod_one {P : Program} {H : Type} {enc : TypeId × Value → H} {w : World} {base : Nat} {spare : Nat → Bool} {held : Bool} : ∀ (d fuel : Nat) (t : TypeId) (cs : List Value) (x : DataW H × List MemPlace), laysB P d t = true → DataW.trod enc P w base spare held fuel t cs = some x → ∀ u ∈ cs, u.oneCell' = true
  | 0, _, _, _, _, h, _ => by simp [laysB] at h
  | d + 1, fuel, t, cs, x, h, hx => fun u hu => by
    obtain ⟨k, hk⟩ := List.mem_iff_getElem?.1 hu
    have hkl : k < cs.length := (List.getElem?_eq_some_iff.1 hk).1
    unfold laysB at h
    cases ht : P.underlying t with
    | none =>
      cases fuel with
      | zero => simp [DataW.trod] at hx
      | succ n => unfold DataW.trod at hx; rw [ht] at hx; simp at hx
    | some desc =>
      rw [ht] at h
      by_cases hs : ∃ fs, desc = .struct fs
      · obtain ⟨fs, rfl⟩ := hs
        simp only [Bool.and_eq_true, List.all_eq_true] at h
        obtain ⟨xs, n, rfl, -, hl, hxs, hp⟩ := DataW.trod_struct ht hx
        obtain ⟨f, hf, h1, h2⟩ := tiled (by omega) fs.toList 0 h.1 (Nat.zero_le k)
        obtain ⟨i, hi⟩ := List.mem_iff_getElem?.1 hf
        have hi' : fs[i]? = some f := by simpa using hi
        have hil : i < fs.size := (Array.getElem?_eq_some_iff.1 hi').1
        have := hp i f hi'
        rw [List.getElem?_eq_getElem (by omega)] at this
        exact trod_one d n f.type _ _ (h.2 f hf) this u (piece_mem hk h1 h2)
      · by_cases ha : ∃ n e, desc = .array n e
        · obtain ⟨n, e, rfl⟩ := ha
          simp only [Bool.and_eq_true, beq_iff_eq] at h
          cases fuel with
          | zero => simp [DataW.trod] at hx
          | succ m =>
            unfold DataW.trod at hx
            rw [ht] at hx
            simp only at hx
            split at hx
            · rename_i hl
              simp only [Option.map_eq_some_iff] at hx
              obtain ⟨xs, hm, -⟩ := hx
              have he : 0 < P.cellsOf e := by
                rcases Nat.eq_zero_or_pos (P.cellsOf e) with h0 | h0
                · rw [hl, h.1, h0, Nat.mul_zero] at hkl; omega
                · exact h0
              have hq : k / P.cellsOf e < n := by
                rw [Nat.div_lt_iff_lt_mul he, ← h.1, ← hl]; exact hkl
              have hg := mapM_some_get hm (k / P.cellsOf e) (k / P.cellsOf e) (by rw [List.getElem?_range hq])
              have hlen := mapM_some_length hm
              rw [List.length_range] at hlen
              rw [List.getElem?_eq_getElem (by omega)] at hg
              have h1 : k / P.cellsOf e * P.cellsOf e ≤ k := Nat.div_mul_le_self _ _
              have h2 : k < k / P.cellsOf e * P.cellsOf e + P.cellsOf e := by
                have h3 := Nat.div_add_mod k (P.cellsOf e)
                have h4 := Nat.mod_lt k he
                rw [Nat.mul_comm] at h3
                omega
              exact trod_one d m e _ _ h.2 hg u (piece_mem hk h1 h2)
            · simp at hx
        · cases fuel with
          | zero => simp [DataW.trod] at hx
          | succ m =>
            unfold DataW.trod at hx
            rw [ht] at hx
            split at hx <;> simp_all [Value.oneCell']
end Go.Proofs.Ytjbihgfdgaiecaa

/- A call of the law's own type: what its cells are. -/
namespace Go.Proofs.Ytjbihgfdgaiecaa
open Go Go.RowKit Go.BigFrame

set_option maxRecDepth 100000 in
def callZero : Value := .agg #[.int .i64 0, .int .i64 0, .int .i64 0, .int .i64 0, .int .i64 0, .int .i64 0, .int .i64 0, .int .i64 0, .int .i64 0, .int .i64 0, .int .i64 0, .int .i64 0, .string ByteArray.empty, .int .i64 0, .int .i64 0, .int .i64 0, .int .i64 0, .int .i64 0, .int .i64 0, .int .i64 0, .int .i64 0, .slice none 0 0, .int .i64 0, .int .i64 0, .int .i64 0, .int .i64 0, .int .i64 0, .int .i64 0, .int .i64 0, .int .i64 0, .int .i64 0, .int .i64 0, .slice none 0 0, .int .i64 0, .int .i64 0, .int .i64 0, .int .i64 0, .int .i64 0, .int .i64 0, .int .i64 0, .int .i64 0, .int .i64 0, .int .i64 0, .int .i64 0, .int .i64 0, .int .i64 0, .int .i64 0, .int .i64 0, .int .i64 0, .int .i64 0, .int .i64 0, .int .i64 0, .int .i64 0, .int .i64 0, .int .i64 0, .int .i64 0, .int .i64 0, .int .i64 0, .int .i64 0, .int .i64 0, .int .i64 0, .int .i64 0, .int .i64 0, .int .i64 0, .int .i64 0, .slice none 0 0, .slice none 0 0, .int .u64 0]
set_option maxRecDepth 100000 in
def callZeroD {H : Type} : DataW H := .agg [.lit (.int .i64 0), .agg [.lit (.int .i64 0), .lit (.int .i64 0), .lit (.int .i64 0)], .agg [.lit (.int .i64 0), .lit (.int .i64 0), .lit (.int .i64 0), .lit (.int .i64 0), .lit (.int .i64 0), .lit (.int .i64 0), .lit (.int .i64 0), .lit (.int .i64 0), .lit (.string []), .agg [.agg [.lit (.int .i64 0), .lit (.int .i64 0), .lit (.int .i64 0), .lit (.int .i64 0), .lit (.int .i64 0), .lit (.int .i64 0), .lit (.int .i64 0), .lit (.int .i64 0)], .nil], .agg [.agg [.lit (.int .i64 0), .lit (.int .i64 0), .lit (.int .i64 0), .lit (.int .i64 0), .lit (.int .i64 0), .lit (.int .i64 0), .lit (.int .i64 0), .lit (.int .i64 0)], .agg [.lit (.int .i64 0), .lit (.int .i64 0), .nil], .agg [.agg [.lit (.int .i64 0), .lit (.int .i64 0)], .agg [.lit (.int .i64 0), .lit (.int .i64 0)], .agg [.lit (.int .i64 0), .lit (.int .i64 0)], .agg [.lit (.int .i64 0), .lit (.int .i64 0)], .agg [.lit (.int .i64 0), .lit (.int .i64 0)], .agg [.lit (.int .i64 0), .lit (.int .i64 0)], .agg [.lit (.int .i64 0), .lit (.int .i64 0)], .agg [.lit (.int .i64 0), .lit (.int .i64 0)], .agg [.lit (.int .i64 0), .lit (.int .i64 0)], .agg [.lit (.int .i64 0), .lit (.int .i64 0)], .agg [.lit (.int .i64 0), .lit (.int .i64 0)], .agg [.lit (.int .i64 0), .lit (.int .i64 0)], .agg [.lit (.int .i64 0), .lit (.int .i64 0)], .agg [.lit (.int .i64 0), .lit (.int .i64 0)], .agg [.lit (.int .i64 0), .lit (.int .i64 0)], .agg [.lit (.int .i64 0), .lit (.int .i64 0)]]], .nil], .nil, .lit (.int .u64 0)]
structure CallV where
  o : Int
  n : Int
  i : Int
  h : Int
  m : InM
  pp : Option Addr
  pn : Nat
  pc : Nat
  draw : Int
  hm : m.mid.length = 55
  ho : ∀ u ∈ m.mid, u.oneCell' = true
  d0 : 0 ≤ draw
  d1 : draw < 18446744073709551616
def CallV.enc (c : CallV) : List Value := [.int .i64 c.o, .int .i64 c.n, .int .i64 c.i, .int .i64 c.h] ++ (c.m.enc ++ [.slice c.pp c.pn c.pc, .int .u64 c.draw])
def CallV.val (c : CallV) : Value := .agg c.enc.toArray
theorem CallV.len (c : CallV) : c.enc.length = 68 := by unfold CallV.enc; simp [InM.enc_len c.hm]
theorem CallV.at_c (c : CallV) : ∀ k u, [Value.int .i64 c.n, .int .i64 c.i, .int .i64 c.h][k]? = some u → c.enc[1 + k]? = some u
  | 0, _, h => h
  | 1, _, h => h
  | 2, _, h => h
  | k + 3, _, h => by simp at h
theorem CallV.at_m (c : CallV) : ∀ k u, c.m.enc[k]? = some u → c.enc[4 + k]? = some u := fun k u h => by
  have hk : k < c.m.enc.length := (List.getElem?_eq_some_iff.1 h).1
  unfold CallV.enc
  rw [List.getElem?_append_right (by simp)]
  have : 4 + k - [Value.int .i64 c.o, .int .i64 c.n, .int .i64 c.i, .int .i64 c.h].length = k := by simp
  rw [this, List.getElem?_append_left hk, h]
theorem CallV.at_p (c : CallV) : c.enc[66]? = some (.slice c.pp c.pn c.pc) := by
  unfold CallV.enc
  rw [List.getElem?_append_right (by simp), List.getElem?_append_right (by simp [InM.enc_len c.hm])]
  simp [InM.enc_len c.hm]
theorem CallV.at_d (c : CallV) : c.enc[67]? = some (.int .u64 c.draw) := by
  unfold CallV.enc
  rw [List.getElem?_append_right (by simp), List.getElem?_append_right (by simp [InM.enc_len c.hm])]
  simp [InM.enc_len c.hm]
section
variable {P : Program} {w : World} {r : Reach} {b : Nat} {t : TypeId} {v : Value}
theorem cell_int {k : IntKind} (ht : P.underlying t = some (.int k)) (h : Cell.okWide P w r b t v) : ∃ n, v = .int k n ∧ k.min ≤ n ∧ n ≤ k.max := by
  simp only [Cell.okWide, ht] at h
  cases v <;> simp_all [Cell.ok, IntKind.has]
theorem cell_slice {e : TypeId} (ht : P.underlying t = some (.slice e)) (h : Cell.okWide P w r b t v) : ∃ a n c, v = .slice a n c := by
  simp only [Cell.okWide, ht] at h
  cases v <;> simp_all [Cell.ok]
end
theorem three_of {α : Type} {l : List α} (h : l.length = 3) : ∃ a b c, l = [a, b, c] := by
  match l, h with
  | [a, b, c], _ => exact ⟨a, b, c, rfl⟩
def callTs : List TypeId := [3, 3, 3, 3, 3, 3, 3, 3, 3, 3, 3, 3, 9, 3, 3, 3, 3, 3, 3, 3, 3, 26, 3, 3, 3, 3, 3, 3, 3, 3, 3, 3, 29, 3, 3, 3, 3, 3, 3, 3, 3, 3, 3, 3, 3, 3, 3, 3, 3, 3, 3, 3, 3, 3, 3, 3, 3, 3, 3, 3, 3, 3, 3, 3, 3, 37, 29, 40]
theorem callTs_is : Try.prog.cellTypes Try.prog.depth 42 = some callTs := by kernel_rfl
theorem cell_one {P : Program} {w : World} {r : Reach} {b : Nat} {t : TypeId} {v : Value} (h : Cell.okWide P w r b t v) : v.oneCell' = true := by
  unfold Cell.okWide Cell.ok at h
  cases v <;> first | rfl | (exfalso; revert h; split <;> simp_all; done) | (exfalso; revert h; split <;> split <;> simp_all)
set_option maxRecDepth 100000 in
theorem call_of {l : List Value} (hl : l.length = 68) (hone : ∀ u ∈ l, u.oneCell' = true) (hi : ∀ i, i < 10 → ∃ n, l[i]? = some (.int .i64 n)) (h5 : ∃ a n c, l[65]? = some (.slice a n c)) (h6 : ∃ a n c, l[66]? = some (.slice a n c)) (h7 : ∃ n, l[67]? = some (.int .u64 n) ∧ 0 ≤ n ∧ n < 18446744073709551616) : ∃ c : CallV, l = c.enc := by
  obtain ⟨x0, x1, x2, x3, x4, x5, x6, x7, x8, x9, q, rfl⟩ : ∃ x0 x1 x2 x3 x4 x5 x6 x7 x8 x9 q, l = x0 :: x1 :: x2 :: x3 :: x4 :: x5 :: x6 :: x7 :: x8 :: x9 :: q := by
    match l, hl with
    | x0 :: x1 :: x2 :: x3 :: x4 :: x5 :: x6 :: x7 :: x8 :: x9 :: q, _ => exact ⟨x0, x1, x2, x3, x4, x5, x6, x7, x8, x9, q, rfl⟩
  have hq : q.length = 58 := by simpa using hl
  obtain ⟨y, z, e, hd⟩ := three_of (l := q.drop 55) (by simp [hq])
  obtain ⟨mid, hmid⟩ : ∃ mid, q.take 55 = mid := ⟨_, rfl⟩
  have hm : mid.length = 55 := by rw [← hmid]; simp [hq]
  have ho : ∀ u ∈ mid, u.oneCell' = true := fun u hu => hone u (by rw [← hmid] at hu; simp [List.mem_of_mem_take hu])
  obtain rfl : q = mid ++ [y, z, e] := by rw [← hmid, ← hd, List.take_append_drop]
  clear hmid hd hq hl hone
  have g : ∀ j, (x0 :: x1 :: x2 :: x3 :: x4 :: x5 :: x6 :: x7 :: x8 :: x9 :: (mid ++ [y, z, e]))[65 + j]? = [y, z, e][j]? := fun j => by
    have e1 : (x0 :: x1 :: x2 :: x3 :: x4 :: x5 :: x6 :: x7 :: x8 :: x9 :: (mid ++ [y, z, e])) = ([x0, x1, x2, x3, x4, x5, x6, x7, x8, x9] ++ mid) ++ [y, z, e] := by simp
    rw [e1, List.getElem?_append_right (by simp [hm])]
    congr 1
    simp [hm]
  obtain ⟨a0, ha0⟩ := hi 0 (by decide)
  obtain rfl : x0 = .int .i64 a0 := Option.some.inj ha0
  obtain ⟨a1, ha1⟩ := hi 1 (by decide)
  obtain rfl : x1 = .int .i64 a1 := Option.some.inj ha1
  obtain ⟨a2, ha2⟩ := hi 2 (by decide)
  obtain rfl : x2 = .int .i64 a2 := Option.some.inj ha2
  obtain ⟨a3, ha3⟩ := hi 3 (by decide)
  obtain rfl : x3 = .int .i64 a3 := Option.some.inj ha3
  obtain ⟨a4, ha4⟩ := hi 4 (by decide)
  obtain rfl : x4 = .int .i64 a4 := Option.some.inj ha4
  obtain ⟨a5, ha5⟩ := hi 5 (by decide)
  obtain rfl : x5 = .int .i64 a5 := Option.some.inj ha5
  obtain ⟨a6, ha6⟩ := hi 6 (by decide)
  obtain rfl : x6 = .int .i64 a6 := Option.some.inj ha6
  obtain ⟨a7, ha7⟩ := hi 7 (by decide)
  obtain rfl : x7 = .int .i64 a7 := Option.some.inj ha7
  obtain ⟨a8, ha8⟩ := hi 8 (by decide)
  obtain rfl : x8 = .int .i64 a8 := Option.some.inj ha8
  obtain ⟨a9, ha9⟩ := hi 9 (by decide)
  obtain rfl : x9 = .int .i64 a9 := Option.some.inj ha9
  obtain ⟨s0a, s0n, s0c, h5⟩ := h5
  obtain rfl : y = .slice s0a s0n s0c := Option.some.inj ((g 0).symm.trans h5)
  obtain ⟨s1a, s1n, s1c, h6⟩ := h6
  obtain rfl : z = .slice s1a s1n s1c := Option.some.inj ((g 1).symm.trans h6)
  obtain ⟨dr, h7, h8, h9⟩ := h7
  obtain rfl : e = .int .u64 dr := Option.some.inj ((g 2).symm.trans h7)
  refine ⟨⟨a0, a1, a2, a3, ⟨a4, a5, a6, a7, a8, a9, mid, s0a, s0n, s0c⟩, s1a, s1n, s1c, dr, hm, ho, h8, h9⟩, ?_⟩
  simp [CallV.enc, InM.enc]
theorem u64_is {n : Int} (h0 : IntKind.u64.min ≤ n) (h1 : n ≤ IntKind.u64.max) : 0 ≤ n ∧ n < 18446744073709551616 := by
  have e1 : IntKind.u64.min = 0 := by decide
  have e2 : IntKind.u64.max = 18446744073709551615 := by decide
  omega
set_option maxRecDepth 100000 in
theorem open_callV {w : World} {r : Reach} {b : Nat} {v : Value} (hv : Value.okWide Try.prog w r b 42 v) : ∃ c : CallV, v = c.val := by
  simp only [Value.okWide, Try.underlying42] at hv
  obtain ⟨cs, rfl, hsz, ts, hts, -, hall⟩ := hv
  have hz : cs.size = 68 := hsz.trans (by kernel_rfl)
  obtain rfl : ts = callTs := Option.some.inj (hts.symm.trans callTs_is)
  obtain ⟨l, rfl⟩ : ∃ l : List Value, cs = l.toArray := ⟨cs.toList, by simp⟩
  have hl : l.length = 68 := by simpa using hz
  have hc : ∀ i v, l[i]? = some v → ∃ u, callTs[i % 68]? = some u ∧ Cell.okWide Try.prog w r b u v := fun i v h => hall i v (by simpa using h)
  have hx : ∀ i, i < 68 → ∃ v u, l[i]? = some v ∧ callTs[i % 68]? = some u ∧ Cell.okWide Try.prog w r b u v := fun i h => by
    obtain ⟨u, h1, h2⟩ := hc i _ (List.getElem?_eq_getElem (by omega))
    exact ⟨_, u, List.getElem?_eq_getElem (by omega), h1, h2⟩
  have t0 : callTs[0 % 68]? = some 3 := by kernel_rfl
  have t1 : callTs[1 % 68]? = some 3 := by kernel_rfl
  have t2 : callTs[2 % 68]? = some 3 := by kernel_rfl
  have t3 : callTs[3 % 68]? = some 3 := by kernel_rfl
  have t4 : callTs[4 % 68]? = some 3 := by kernel_rfl
  have t5 : callTs[5 % 68]? = some 3 := by kernel_rfl
  have t6 : callTs[6 % 68]? = some 3 := by kernel_rfl
  have t7 : callTs[7 % 68]? = some 3 := by kernel_rfl
  have t8 : callTs[8 % 68]? = some 3 := by kernel_rfl
  have t9 : callTs[9 % 68]? = some 3 := by kernel_rfl
  have ht : ∀ i, i < 10 → callTs[i % 68]? = some 3 := by
    intro i h
    have : i = 0 ∨ i = 1 ∨ i = 2 ∨ i = 3 ∨ i = 4 ∨ i = 5 ∨ i = 6 ∨ i = 7 ∨ i = 8 ∨ i = 9 := by omega
    rcases this with rfl | rfl | rfl | rfl | rfl | rfl | rfl | rfl | rfl | rfl <;> assumption
  obtain ⟨c, hcl⟩ := call_of hl (fun u hu => by
    obtain ⟨i, hi⟩ := List.mem_iff_getElem?.1 hu
    obtain ⟨_, _, h⟩ := hc i u hi
    exact cell_one h) (fun i h => by
    obtain ⟨v, u, h1, h2, h3⟩ := hx i (by omega)
    obtain rfl := Option.some.inj ((ht i h).symm.trans h2)
    obtain ⟨n, rfl, -, -⟩ := cell_int Try.underlying3 h3
    exact ⟨n, h1⟩) (by
    obtain ⟨v, u, h1, h2, h3⟩ := hx 65 (by omega)
    have e : callTs[65 % 68]? = some 37 := by kernel_rfl
    obtain rfl := Option.some.inj (e.symm.trans h2)
    obtain ⟨a, n, c, rfl⟩ := cell_slice Try.underlying37 h3
    exact ⟨a, n, c, h1⟩) (by
    obtain ⟨v, u, h1, h2, h3⟩ := hx 66 (by omega)
    have e : callTs[66 % 68]? = some 29 := by kernel_rfl
    obtain rfl := Option.some.inj (e.symm.trans h2)
    obtain ⟨a, n, c, rfl⟩ := cell_slice Try.underlying29 h3
    exact ⟨a, n, c, h1⟩) (by
    obtain ⟨v, u, h1, h2, h3⟩ := hx 67 (by omega)
    have e : callTs[67 % 68]? = some 40 := by kernel_rfl
    obtain rfl := Option.some.inj (e.symm.trans h2)
    obtain ⟨n, rfl, h4, h5⟩ := cell_int Try.underlying40 h3
    exact ⟨n, h1, u64_is h4 h5⟩)
  exact ⟨c, by rw [hcl]; rfl⟩
set_option maxRecDepth 100000 in
theorem open_callC {H : Type} {enc : TypeId × Value → H} {w W : World} {base : Nat} {sp : Nat → Bool} {held : Bool} {d : DataW H} {ps : List MemPlace} {r : Reach} {b : Nat} {v : Value} (hv : Value.okWide Try.prog w r b 42 v) (_ : DataW.Trod enc Try.prog W base sp held 42 v d ps) : ∃ c : CallV, v = c.val := open_callV hv
end Go.Proofs.Ytjbihgfdgaiecaa

/- A row of calls that a caller hands over: what can be read of it. -/
namespace Go.Proofs.Ytjbihgfdgaiecaa
open Go Go.ChangeShapes Go.WideShapes Go.ChangeAt Go.RowKit Go.BigFrame

theorem one_at {l : List Value} {o : Nat} {v : Value} (h : (l.drop o).take 1 = [v]) : l[o]? = some v := by
  have := congrArg (·[0]?) h
  simpa [List.getElem?_take, List.getElem?_drop] using this
theorem sub_at {l : List Value} {a s o : Nat} {v : Value} (h : ((l.drop a).take s)[o]? = some v) : l[a + o]? = some v := by
  rw [List.getElem?_take] at h
  split at h
  · rwa [List.getElem?_drop] at h
  · cases h
section
variable {P : Program} {H : Type} {enc : TypeId × Value → H} {w : World} {base : Nat} {spare : Nat → Bool} {held : Bool} {fuel : Nat} {t : TypeId} {cs : List Value} {x : DataW H × List MemPlace}
theorem trod_sl {e : TypeId} (ht : P.underlying t = some (.slice e)) (h : DataW.trod enc P w base spare held fuel t cs = some x) : ∃ a n c, cs = [.slice a n c] := by
  cases fuel with
  | zero => simp [DataW.trod] at h
  | succ n =>
    unfold DataW.trod at h
    rw [ht] at h
    split at h <;> simp_all
end
theorem kInt : Try.prog.cellsOf 3 = 1 := by kernel_rfl
theorem kU64 : Try.prog.cellsOf 40 = 1 := by kernel_rfl
theorem kInts : Try.prog.cellsOf 29 = 1 := by kernel_rfl
theorem kCls : Try.prog.cellsOf 37 = 1 := by kernel_rfl
theorem kCl : Try.prog.cellsOf 23 = 3 := by kernel_rfl
theorem kMsg : Try.prog.cellsOf 39 = 62 := by kernel_rfl
def elemCall : Elem Try.prog CallV where
  enc := CallV.enc
  k := 68
  pos := by decide
  len := CallV.len
  one c u hu := by
    simp only [CallV.enc, InM.enc, List.mem_append, List.mem_cons, List.not_mem_nil, or_false] at hu
    rcases hu with (rfl | rfl | rfl | rfl) | (((rfl | rfl | rfl | rfl | rfl | rfl) | hu) | rfl) | rfl | rfl
    all_goals first | rfl | exact c.ho u hu
  t := 42
  sl := 55
  under := Try.underlying55
  z := callZero
  bytes := 616
  bpos := by decide
  info := by kernel_rfl
  zs := by kernel_rfl
theorem zeroMid : ∀ u ∈ (List.replicate 55 (Value.int .i64 0)), u.oneCell' = true := by decide
instance : Inhabited CallV := ⟨⟨0, 0, 0, 0, ⟨0, 0, 0, 0, 0, 0, List.replicate 55 (.int .i64 0), none, 0, 0⟩, none, 0, 0, 0, by decide, zeroMid, by decide, by decide⟩⟩
set_option maxRecDepth 100000 in
theorem readCall : Readable elemCall where
  cells := by kernel_rfl
  bytes := by kernel_rfl
  read := by
    intro H enc w base spare held fuel cs x h
    have hone := trod_one (P := Try.prog) 6 fuel 42 cs x (by kernel_rfl) h
    obtain ⟨xs, n, rfl, -, hl, hxs, hp⟩ := DataW.trod_struct Try.underlying42 h
    have hl : cs.length = 68 := hl.trans (by kernel_rfl)
    have hx : xs.length = 5 := hxs
    clear h hxs
    have p0 : DataW.trod enc Try.prog w base spare held n 3 ((cs.drop 0).take (Try.prog.cellsOf 3)) = xs[0]? := hp 0 _ rfl
    have p1 : DataW.trod enc Try.prog w base spare held n 23 ((cs.drop 1).take (Try.prog.cellsOf 23)) = xs[1]? := hp 1 _ rfl
    have p2 : DataW.trod enc Try.prog w base spare held n 39 ((cs.drop 4).take (Try.prog.cellsOf 39)) = xs[2]? := hp 2 _ rfl
    have p3 : DataW.trod enc Try.prog w base spare held n 29 ((cs.drop 66).take (Try.prog.cellsOf 29)) = xs[3]? := hp 3 _ rfl
    have p4 : DataW.trod enc Try.prog w base spare held n 40 ((cs.drop 67).take (Try.prog.cellsOf 40)) = xs[4]? := hp 4 _ rfl
    clear hp
    rw [List.getElem?_eq_getElem (by omega)] at p0 p1 p2 p3 p4
    rw [kInt] at p0
    rw [kCl] at p1
    rw [kMsg] at p2
    rw [kInts] at p3
    rw [kU64] at p4
    obtain ⟨i0, h0, -, -⟩ := DataW.trod_int Try.underlying3 p0
    have h0 := one_at h0
    obtain ⟨a3, n3, c3, h3⟩ := trod_sl Try.underlying29 p3
    have h3 := one_at h3
    obtain ⟨i4, h4, -, w4⟩ := DataW.trod_int Try.underlying40 p4
    have h4 := one_at h4
    obtain ⟨ys, m, -, -, -, hys, hq⟩ := DataW.trod_struct Try.underlying23 p1
    have hy : ys.length = 3 := hys
    have q0 : DataW.trod enc Try.prog w base spare held m 3 ((((cs.drop 1).take 3).drop 0).take (Try.prog.cellsOf 3)) = ys[0]? := hq 0 _ rfl
    have q1 : DataW.trod enc Try.prog w base spare held m 3 ((((cs.drop 1).take 3).drop 1).take (Try.prog.cellsOf 3)) = ys[1]? := hq 1 _ rfl
    have q2 : DataW.trod enc Try.prog w base spare held m 3 ((((cs.drop 1).take 3).drop 2).take (Try.prog.cellsOf 3)) = ys[2]? := hq 2 _ rfl
    clear hq hys
    rw [List.getElem?_eq_getElem (by omega), kInt] at q0 q1 q2
    obtain ⟨j0, g0, -, -⟩ := DataW.trod_int Try.underlying3 q0
    obtain ⟨j1, g1, -, -⟩ := DataW.trod_int Try.underlying3 q1
    obtain ⟨j2, g2, -, -⟩ := DataW.trod_int Try.underlying3 q2
    have g0 := sub_at (one_at g0)
    have g1 := sub_at (one_at g1)
    have g2 := sub_at (one_at g2)
    obtain ⟨zs, o, -, -, -, hzs, hr⟩ := DataW.trod_struct Try.underlying39 p2
    have hz : zs.length = 12 := hzs
    have r0 : DataW.trod enc Try.prog w base spare held o 3 ((((cs.drop 4).take 62).drop 0).take (Try.prog.cellsOf 3)) = zs[0]? := hr 0 _ rfl
    have r1 : DataW.trod enc Try.prog w base spare held o 3 ((((cs.drop 4).take 62).drop 1).take (Try.prog.cellsOf 3)) = zs[1]? := hr 1 _ rfl
    have r2 : DataW.trod enc Try.prog w base spare held o 3 ((((cs.drop 4).take 62).drop 2).take (Try.prog.cellsOf 3)) = zs[2]? := hr 2 _ rfl
    have r3 : DataW.trod enc Try.prog w base spare held o 3 ((((cs.drop 4).take 62).drop 3).take (Try.prog.cellsOf 3)) = zs[3]? := hr 3 _ rfl
    have r4 : DataW.trod enc Try.prog w base spare held o 3 ((((cs.drop 4).take 62).drop 4).take (Try.prog.cellsOf 3)) = zs[4]? := hr 4 _ rfl
    have r5 : DataW.trod enc Try.prog w base spare held o 3 ((((cs.drop 4).take 62).drop 5).take (Try.prog.cellsOf 3)) = zs[5]? := hr 5 _ rfl
    have r6 : DataW.trod enc Try.prog w base spare held o 37 ((((cs.drop 4).take 62).drop 61).take (Try.prog.cellsOf 37)) = zs[11]? := hr 11 _ rfl
    clear hr hzs
    rw [List.getElem?_eq_getElem (by omega), kInt] at r0 r1 r2 r3 r4 r5
    rw [List.getElem?_eq_getElem (by omega), kCls] at r6
    obtain ⟨k0, f0, -, -⟩ := DataW.trod_int Try.underlying3 r0
    obtain ⟨k1, f1, -, -⟩ := DataW.trod_int Try.underlying3 r1
    obtain ⟨k2, f2, -, -⟩ := DataW.trod_int Try.underlying3 r2
    obtain ⟨k3, f3, -, -⟩ := DataW.trod_int Try.underlying3 r3
    obtain ⟨k4, f4, -, -⟩ := DataW.trod_int Try.underlying3 r4
    obtain ⟨k5, f5, -, -⟩ := DataW.trod_int Try.underlying3 r5
    obtain ⟨a6, n6, c6, f6⟩ := trod_sl Try.underlying37 r6
    have f0 := sub_at (one_at f0)
    have f1 := sub_at (one_at f1)
    have f2 := sub_at (one_at f2)
    have f3 := sub_at (one_at f3)
    have f4 := sub_at (one_at f4)
    have f5 := sub_at (one_at f5)
    have f6 := sub_at (one_at f6)
    clear p0 p1 p2 p3 p4 q0 q1 q2 r0 r1 r2 r3 r4 r5 r6
    have w4 : IntKind.u64.min ≤ i4 ∧ i4 ≤ IntKind.u64.max := by simpa [Lit.wf] using w4
    exact call_of hl hone (fun i hi => by
      have : i = 0 ∨ i = 1 ∨ i = 2 ∨ i = 3 ∨ i = 4 ∨ i = 5 ∨ i = 6 ∨ i = 7 ∨ i = 8 ∨ i = 9 := by omega
      rcases this with rfl | rfl | rfl | rfl | rfl | rfl | rfl | rfl | rfl | rfl
      · exact ⟨_, h0⟩
      · exact ⟨_, g0⟩
      · exact ⟨_, g1⟩
      · exact ⟨_, g2⟩
      · exact ⟨_, f0⟩
      · exact ⟨_, f1⟩
      · exact ⟨_, f2⟩
      · exact ⟨_, f3⟩
      · exact ⟨_, f4⟩
      · exact ⟨_, f5⟩) ⟨_, _, _, f6⟩ ⟨_, _, _, h3⟩ ⟨_, h4, u64_is w4.1 w4.2⟩
end Go.Proofs.Ytjbihgfdgaiecaa

/- A whole value of many cells is laid into a variable of one's own. -/
namespace Go.Proofs.Ytjbihgfdgaiecaa
open Go Go.RowKit

theorem putL_all : ∀ (vs cs : List Value) (off : Nat), cs.length = off + vs.length → putL cs off vs = cs.take off ++ vs
  | [], cs, off, h => by
    simp only [putL, List.append_nil]
    rw [List.take_of_length_le (by simp only [List.length_nil] at h; omega)]
  | v :: vs, cs, off, h => by
    simp only [List.length_cons] at h
    rw [putL, putL_all vs (cs.set off v) (off + 1) (by rw [List.length_set]; omega)]
    have hlt : off < (cs.set off v).length := by rw [List.length_set]; omega
    rw [List.take_add_one, List.getElem?_eq_getElem hlt, List.getElem_set_self, List.take_set_of_le (Nat.le_refl _)]
    simp
theorem CallV.at_ms (c : CallV) : c.enc[65]? = some (.slice c.m.p c.m.n c.m.cap) := by
  refine c.at_m 61 _ ?_
  unfold InM.enc
  rw [List.getElem?_append_right (by simp [c.hm])]
  simp [c.hm]
def fitsC (j : Nat) (c : CallV) : Prop := j < 80 ∧ c.m.n ≤ 20 ∧ c.pn ≤ 20
noncomputable def lightB (cs : List CallV) : Bool := @decide (∀ j c, cs[j]? = some c → fitsC j c) (Classical.propDecidable _)
theorem lightB_no {cs : List CallV} {k : Nat} {c : CallV} (h : cs[k]? = some c) (hn : ¬ fitsC k c) : lightB cs = false := by
  unfold lightB
  exact @decide_eq_false _ (Classical.propDecidable _) fun ha => hn (ha k c h)
theorem lightB_yes {cs : List CallV} {k : Nat} (hk : cs.length ≤ k) (h : ∀ j c, j < k → cs[j]? = some c → fitsC j c) : lightB cs = true := by
  unfold lightB
  refine @decide_eq_true _ (Classical.propDecidable _) fun j c hj => h j c ?_ hj
  have := (List.getElem?_eq_some_iff.1 hj).1
  omega
section
variable {P : Program} {ops : Array Oper} {S : Nat → Prop} {Q : Act → World → Prop} {rest : List (Nat × Nat)} {a : Act} {W w : World} {L : List At} {H0 : Nat → Prop} {i : Nat} {o : Oper}
theorem wpS_storeW {t tt : TypeId} {x y : Operand} {b : Nat} {vs cs : List Value} {L2 : List At} (hi : ops[i]? = some o) (hw : Region.wanted o (yielded ops a.tmps) = true) (ho : o.op = .store t x y) (hx : a.eval x = .pointer (some ⟨b, 0, none⟩)) (hy : a.eval y = .agg vs.toArray) (hn : (P.info? t).map (fun i => i.size) = some cs.length) (hvs : vs.length = cs.length) (hone : ∀ u ∈ vs, u.oneCell' = true)
    (hm : Mem L H0 w W) (k : Nat) (hk : L[k]? = some (boxT b (.cells cs.toArray tt (0, 0)))) (hL2 : L.eraseIdx k = L2) (hS : CovS L2 S) (hd : o.dst = none) (h : ∀ W', Mem (boxT b (.cells vs.toArray tt (0, 0)) :: L2) H0 w W' → GK S W W' → wpS P ops S Q rest a W') : wpS P ops S Q ((i, 3) :: rest) a W := by
  subst hL2
  exact wpS_store (cs' := vs) hi hw ho hx hy (by simp [Value.cells]) (hvs ▸ hn) (List.all_eq_true.2 hone) hm k hk (by omega) (by rw [putL_all vs cs 0 (by omega)]; simp) hS hd h
end
end Go.Proofs.Ytjbihgfdgaiecaa

/- Rows that a caller hands over whose elements hold rows themselves: what can be read of both. -/
namespace Go.Proofs.Ytjbihgfdgaiecaa
open Go Go.ChangeShapes Go.WideShapes Go.ChangeAt Go.RowKit Go.Joins Go.BigFrame

structure ReadQ {α : Type} (E : Elem Try.prog α) (Q : World → α → Prop) : Prop where
  cells : Try.prog.cellsOf E.t = E.k
  bytes : Try.prog.bytesOf E.t = E.bytes
  read : ∀ {H : Type} {enc : TypeId × Value → H} {w : World} {base : Nat} {spare : Nat → Bool} {held : Bool} {fuel : Nat} {cs : List Value} {x : DataW H × List MemPlace}, DataW.trod enc Try.prog w base spare held fuel E.t cs = some x → ∃ y : α, cs = E.enc y ∧ Q w y
section
variable {α : Type} {E : Elem Try.prog α} {H : Type} {enc : TypeId × Value → H} {w : World} {base : Nat} {spare : Nat → Bool} {held : Bool}
set_option maxRecDepth 100000 in
theorem open_elemsQ [Inhabited α] {Q : World → α → Prop} (hE : ReadQ E Q) {fuel : Nat} {cs : List Value} {x : DataW H × List MemPlace} (h : DataW.trod enc Try.prog w base spare held fuel E.sl cs = some x) :
    ∃ (v : Value) (l : List α), cs = [v] ∧ SrcE E w v l ∧ (∀ y ∈ l, Q w y) ∧ (l = [] ∨ ∃ es sp, x.1 = .slice es sp ∧ es.length = l.length) := by
  rcases Go.Deep.open_slice E.under h with ⟨rfl, _⟩ | ⟨a, len, cap, m, n, D, Pl, rfl, _, hlc, hcm, hm, hx, hi⟩
  · exact ⟨_, [], rfl, ⟨.inl ⟨rfl, _, _, rfl⟩, none, 0, rfl, Nat.le_refl _, fun _ => rfl⟩, fun _ h => by simp at h, .inl rfl⟩
  · rw [hE.cells] at hi
    have hlm : len ≤ m := by rw [hm]; split <;> omega
    have hok : ∀ l : List α, l.length = len → ∃ p c, Value.slice (some a) len cap = .slice p l.length c ∧ l.length ≤ c ∧ (p = none → c = 0) := fun l hl => ⟨some a, cap, by rw [hl], by omega, fun h => by cases h⟩
    have each : ∀ i, i < len → ∃ y : α, (∀ j u, (E.enc y)[j]? = some u → w.cell? ((a.add (i * E.k)).add j) = some u) ∧ Q w y := by
      intro i hil
      obtain ⟨cs', hc, ht⟩ := hi i (by omega)
      obtain ⟨y, rfl, hQ⟩ := hE.read ht
      obtain ⟨hlen, _, hat⟩ := World.cells?_some hc
      refine ⟨y, fun j u hu => ?_, hQ⟩
      have hj : j < E.k := by have := (List.getElem?_eq_some_iff.1 hu).1; rw [E.len] at this; exact this
      rw [hat j hj]
      exact hu
    by_cases h0 : len = 0
    · subst h0
      exact ⟨_, [], rfl, ⟨.inl ⟨rfl, _, _, rfl⟩, hok [] rfl⟩, fun _ h => by simp at h, .inl rfl⟩
    · obtain ⟨f, hf⟩ : ∃ f : Nat → α, ∀ i, i < len → (∀ j u, (E.enc (f i))[j]? = some u → w.cell? ((a.add (i * E.k)).add j) = some u) ∧ Q w (f i) :=
        ⟨fun i => if h : i < len then Classical.choose (each i h) else default, fun i h => by
          dsimp only
          rw [dif_pos h]
          exact Classical.choose_spec (each i h)⟩
      have hz : ∃ u, w.cell? a = some u := by
        have hp : 0 < (E.enc (f 0)).length := by rw [E.len]; exact E.pos
        have := (hf 0 (by omega)).1 0 _ (List.getElem?_eq_getElem hp)
        rw [show (a.add (0 * E.k)).add 0 = a by unfold Addr.add; simp] at this
        exact ⟨_, this⟩
      obtain ⟨u0, hz⟩ := hz
      have ha := addr_spot a w _ hz
      obtain ⟨b, o, hbo⟩ : ∃ b o, a = ⟨b, o, none⟩ := ⟨_, _, ha⟩
      subst hbo
      have hlt : b < w.heap.size := block_lt_of_cell hz
      refine ⟨_, (List.range len).map f, rfl, ⟨.inr ⟨b, o, cap, by simp, hlt, fun k c hk j u hu => ?_⟩, hok _ (by simp)⟩, fun y hy => (by obtain ⟨i, hi, rfl⟩ := List.mem_map.1 hy; exact (hf i (List.mem_range.1 hi)).2), .inr ⟨_, _, by rw [hx], by simp⟩⟩
      have hkl : k < len := by
        have := (List.getElem?_eq_some_iff.1 hk).1
        simpa using this
      have e : c = f k := by
        simp [List.getElem?_range hkl] at hk
        exact hk.symm
      rw [e] at hu
      have := (hf k hkl).1 j u hu
      simpa only [addr_off] using this
set_option maxRecDepth 100000 in
theorem open_srcQ [Inhabited α] {Q : World → α → Prop} (hE : ReadQ E Q) {r : Reach} {b0 : Nat} {v : Value} {d : DataW H} {p : List MemPlace} (hv : Value.okWide Try.prog w r b0 E.sl v) (h : DataW.Trod enc Try.prog w base spare held E.sl v d p) :
    ∃ l : List α, SrcE E w v l ∧ (∀ y ∈ l, Q w y) ∧ (l = [] ∨ ∃ es sp, d = .slice es sp ∧ es.length = l.length) := by
  obtain ⟨a, len, cap, rfl⟩ := okWide_slice E.under hv
  obtain ⟨fuel, hf⟩ := h
  obtain ⟨v', l, hcs, hl, hq, hm⟩ := open_elemsQ hE hf
  obtain rfl : v' = .slice a len cap := by
    simp [Value.cells] at hcs
    exact hcs.symm
  exact ⟨l, hl, hq, hm⟩
end
theorem readI6 : Readable elemI where
  cells := by kernel_rfl
  bytes := by kernel_rfl
  read h := by
    obtain ⟨n, h, -, -⟩ := DataW.trod_int Try.underlying3 h
    exact ⟨n, h⟩
instance : Inhabited Cl := ⟨⟨0, 0, 0⟩⟩
theorem readCl : Readable elemCl where
  cells := by kernel_rfl
  bytes := by kernel_rfl
  read := by
    intro H enc w base spare held fuel cs x h
    obtain ⟨ys, m, -, -, hl, hys, hq⟩ := DataW.trod_struct Try.underlying23 h
    have hl : cs.length = 3 := hl.trans (by kernel_rfl)
    have hy : ys.length = 3 := hys
    have q0 : DataW.trod enc Try.prog w base spare held m 3 ((cs.drop 0).take (Try.prog.cellsOf 3)) = ys[0]? := hq 0 _ rfl
    have q1 : DataW.trod enc Try.prog w base spare held m 3 ((cs.drop 1).take (Try.prog.cellsOf 3)) = ys[1]? := hq 1 _ rfl
    have q2 : DataW.trod enc Try.prog w base spare held m 3 ((cs.drop 2).take (Try.prog.cellsOf 3)) = ys[2]? := hq 2 _ rfl
    rw [List.getElem?_eq_getElem (by omega), kInt] at q0 q1 q2
    obtain ⟨j0, g0, -, -⟩ := DataW.trod_int Try.underlying3 q0
    obtain ⟨j1, g1, -, -⟩ := DataW.trod_int Try.underlying3 q1
    obtain ⟨j2, g2, -, -⟩ := DataW.trod_int Try.underlying3 q2
    have g0 := one_at g0
    have g1 := one_at g1
    have g2 := one_at g2
    obtain ⟨a, b, c, rfl⟩ := three_of hl
    obtain rfl : a = .int .i64 j0 := Option.some.inj g0
    obtain rfl : b = .int .i64 j1 := Option.some.inj g1
    obtain rfl : c = .int .i64 j2 := Option.some.inj g2
    exact ⟨⟨j0, j1, j2⟩, rfl⟩
def CallQ (w : World) (y : CallV) : Prop := (∃ l, SrcE elemCl w (.slice y.m.p y.m.n y.m.cap) l) ∧ ∃ ps, SrcE elemI w (.slice y.pp y.pn y.pc) ps
set_option maxRecDepth 100000 in
theorem readCallQ : ReadQ elemCall CallQ where
  cells := by kernel_rfl
  bytes := by kernel_rfl
  read := by
    intro H enc w base spare held fuel cs x h
    have hone := trod_one (P := Try.prog) 6 fuel 42 cs x (by kernel_rfl) h
    obtain ⟨xs, n, rfl, -, hl, hxs, hp⟩ := DataW.trod_struct Try.underlying42 h
    have hl : cs.length = 68 := hl.trans (by kernel_rfl)
    have hx : xs.length = 5 := hxs
    clear h hxs
    have p0 : DataW.trod enc Try.prog w base spare held n 3 ((cs.drop 0).take (Try.prog.cellsOf 3)) = xs[0]? := hp 0 _ rfl
    have p1 : DataW.trod enc Try.prog w base spare held n 23 ((cs.drop 1).take (Try.prog.cellsOf 23)) = xs[1]? := hp 1 _ rfl
    have p2 : DataW.trod enc Try.prog w base spare held n 39 ((cs.drop 4).take (Try.prog.cellsOf 39)) = xs[2]? := hp 2 _ rfl
    have p3 : DataW.trod enc Try.prog w base spare held n 29 ((cs.drop 66).take (Try.prog.cellsOf 29)) = xs[3]? := hp 3 _ rfl
    have p4 : DataW.trod enc Try.prog w base spare held n 40 ((cs.drop 67).take (Try.prog.cellsOf 40)) = xs[4]? := hp 4 _ rfl
    clear hp
    rw [List.getElem?_eq_getElem (by omega)] at p0 p1 p2 p3 p4
    rw [kInt] at p0
    rw [kCl] at p1
    rw [kMsg] at p2
    rw [kInts] at p3
    rw [kU64] at p4
    obtain ⟨i0, h0, -, -⟩ := DataW.trod_int Try.underlying3 p0
    have h0 := one_at h0
    obtain ⟨v3, l3, h3, s3, -⟩ := open_elems readI6 p3
    obtain ⟨a3, n3, c3, e3⟩ := trod_sl Try.underlying29 p3
    obtain rfl : v3 = .slice a3 n3 c3 := List.cons.inj (h3.symm.trans e3) |>.1
    have h3 := one_at h3
    obtain ⟨i4, h4, -, w4⟩ := DataW.trod_int Try.underlying40 p4
    have h4 := one_at h4
    obtain ⟨ys, m, -, -, -, hys, hq⟩ := DataW.trod_struct Try.underlying23 p1
    have hy : ys.length = 3 := hys
    have q0 : DataW.trod enc Try.prog w base spare held m 3 ((((cs.drop 1).take 3).drop 0).take (Try.prog.cellsOf 3)) = ys[0]? := hq 0 _ rfl
    have q1 : DataW.trod enc Try.prog w base spare held m 3 ((((cs.drop 1).take 3).drop 1).take (Try.prog.cellsOf 3)) = ys[1]? := hq 1 _ rfl
    have q2 : DataW.trod enc Try.prog w base spare held m 3 ((((cs.drop 1).take 3).drop 2).take (Try.prog.cellsOf 3)) = ys[2]? := hq 2 _ rfl
    clear hq hys
    rw [List.getElem?_eq_getElem (by omega), kInt] at q0 q1 q2
    obtain ⟨j0, g0, -, -⟩ := DataW.trod_int Try.underlying3 q0
    obtain ⟨j1, g1, -, -⟩ := DataW.trod_int Try.underlying3 q1
    obtain ⟨j2, g2, -, -⟩ := DataW.trod_int Try.underlying3 q2
    have g0 := sub_at (one_at g0)
    have g1 := sub_at (one_at g1)
    have g2 := sub_at (one_at g2)
    obtain ⟨zs, o, -, -, -, hzs, hr⟩ := DataW.trod_struct Try.underlying39 p2
    have hz : zs.length = 12 := hzs
    have r0 : DataW.trod enc Try.prog w base spare held o 3 ((((cs.drop 4).take 62).drop 0).take (Try.prog.cellsOf 3)) = zs[0]? := hr 0 _ rfl
    have r1 : DataW.trod enc Try.prog w base spare held o 3 ((((cs.drop 4).take 62).drop 1).take (Try.prog.cellsOf 3)) = zs[1]? := hr 1 _ rfl
    have r2 : DataW.trod enc Try.prog w base spare held o 3 ((((cs.drop 4).take 62).drop 2).take (Try.prog.cellsOf 3)) = zs[2]? := hr 2 _ rfl
    have r3 : DataW.trod enc Try.prog w base spare held o 3 ((((cs.drop 4).take 62).drop 3).take (Try.prog.cellsOf 3)) = zs[3]? := hr 3 _ rfl
    have r4 : DataW.trod enc Try.prog w base spare held o 3 ((((cs.drop 4).take 62).drop 4).take (Try.prog.cellsOf 3)) = zs[4]? := hr 4 _ rfl
    have r5 : DataW.trod enc Try.prog w base spare held o 3 ((((cs.drop 4).take 62).drop 5).take (Try.prog.cellsOf 3)) = zs[5]? := hr 5 _ rfl
    have r6 : DataW.trod enc Try.prog w base spare held o 37 ((((cs.drop 4).take 62).drop 61).take (Try.prog.cellsOf 37)) = zs[11]? := hr 11 _ rfl
    clear hr hzs
    rw [List.getElem?_eq_getElem (by omega), kInt] at r0 r1 r2 r3 r4 r5
    rw [List.getElem?_eq_getElem (by omega), kCls] at r6
    obtain ⟨k0, f0, -, -⟩ := DataW.trod_int Try.underlying3 r0
    obtain ⟨k1, f1, -, -⟩ := DataW.trod_int Try.underlying3 r1
    obtain ⟨k2, f2, -, -⟩ := DataW.trod_int Try.underlying3 r2
    obtain ⟨k3, f3, -, -⟩ := DataW.trod_int Try.underlying3 r3
    obtain ⟨k4, f4, -, -⟩ := DataW.trod_int Try.underlying3 r4
    obtain ⟨k5, f5, -, -⟩ := DataW.trod_int Try.underlying3 r5
    obtain ⟨v6, l6, f6, s6, -⟩ := open_elems readCl r6
    obtain ⟨a6, n6, c6, e6⟩ := trod_sl Try.underlying37 r6
    obtain rfl : v6 = .slice a6 n6 c6 := List.cons.inj (f6.symm.trans e6) |>.1
    have f0 := sub_at (one_at f0)
    have f1 := sub_at (one_at f1)
    have f2 := sub_at (one_at f2)
    have f3 := sub_at (one_at f3)
    have f4 := sub_at (one_at f4)
    have f5 := sub_at (one_at f5)
    have f6 := sub_at (one_at f6)
    clear p0 p1 p2 p3 p4 q0 q1 q2 r0 r1 r2 r3 r4 r5 r6
    have w4 : IntKind.u64.min ≤ i4 ∧ i4 ≤ IntKind.u64.max := by simpa [Lit.wf] using w4
    obtain ⟨c, rfl⟩ := call_of hl hone (fun i hi => by
      have : i = 0 ∨ i = 1 ∨ i = 2 ∨ i = 3 ∨ i = 4 ∨ i = 5 ∨ i = 6 ∨ i = 7 ∨ i = 8 ∨ i = 9 := by omega
      rcases this with rfl | rfl | rfl | rfl | rfl | rfl | rfl | rfl | rfl | rfl
      · exact ⟨_, h0⟩
      · exact ⟨_, g0⟩
      · exact ⟨_, g1⟩
      · exact ⟨_, g2⟩
      · exact ⟨_, f0⟩
      · exact ⟨_, f1⟩
      · exact ⟨_, f2⟩
      · exact ⟨_, f3⟩
      · exact ⟨_, f4⟩
      · exact ⟨_, f5⟩) ⟨_, _, _, f6⟩ ⟨_, _, _, h3⟩ ⟨_, h4, u64_is w4.1 w4.2⟩
    have e6 := Option.some.inj (c.at_ms.symm.trans f6)
    have e3 := Option.some.inj (c.at_p.symm.trans h3)
    exact ⟨c, rfl, ⟨l6, e6 ▸ s6⟩, l3, e3 ▸ s3⟩
end Go.Proofs.Ytjbihgfdgaiecaa

/- Calls that are light enough. -/
namespace Go.Proofs.Ytjbihgfdgaiecaa
open Go Go.RowKit Go.BigFrame

theorem light_cases (k : Nat) (y : CallV) : (80 : Int) ≤ (k : Int) ∨ (¬ (80 : Int) ≤ (k : Int) ∧ (20 : Int) < (y.m.n : Int)) ∨ (¬ (80 : Int) ≤ (k : Int) ∧ ¬ (20 : Int) < (y.m.n : Int) ∧ (20 : Int) < (y.pn : Int)) ∨ (¬ (80 : Int) ≤ (k : Int) ∧ ¬ (20 : Int) < (y.m.n : Int) ∧ ¬ (20 : Int) < (y.pn : Int)) := by omega
set_option maxHeartbeats 4000000 in
set_option maxRecDepth 100000 in
theorem light_d (R : At) (v : Value) (cs : List CallV) (hR : ∀ W H, R.p W H → RowAt elemCall W v cs) : Does Try.prog 19 #[v] [R] (.bool (lightB cs)) [R] := by
  intro w H hp
  have HM0 := Lib.hid (mem_refl hp)
  clear hp
  obtain ⟨p, cap, rfl, -⟩ := (HM0.out.row 0 rfl hR).form
  go_enter Try.func19, Try.ntmps19
  refine wp_seq ?_
  refine wp_region_N [(0, 1)] (by kernel_rfl) ?_
  refine wpS_this [0] rfl (by kernel_rfl) (by simp only [pickL, nthL, List.cons_append, List.nil_append]; rfl) ?_
  repeat (go_big_quiet_step (fail))
  refine wpQuiet_nil ?_
  refine wpS_nil ?_
  refine then_normal ?_
  refine wp_seq ?_
  refine wp_seq ?_
  refine wp_region_N [(0, 1), (1, 1), (2, 1)] (by kernel_rfl) ?_
  refine wpS_this [0, 1, 2] rfl (by kernel_rfl) (by simp only [pickL, nthL, List.cons_append, List.nil_append]; rfl) ?_
  repeat (go_big_quiet_step (fail))
  refine wpQuiet_nil ?_
  refine wpS_nil ?_
  refine then_normal ?_
  refine wp_block ?_
  refine wp_loop_F [2, 3, 4, 7, 8, 9, 10, 11, 12, 13, 14, 15, 16, 17, 18, 19, 20, 21, 22, 23, 24, 25, 26, 27] (fun n vs W' => ∃ k : Nat, n = cs.length - k ∧ vs 7 = .int .i64 (k : Int) ∧ k ≤ cs.length ∧ (∀ j c, j < k → cs[j]? = some c → fitsC j c) ∧ Mem [R] H w W') (n0 := cs.length) ?_ ?_
  · exact ⟨0, rfl, rfl, Nat.zero_le _, fun j c hj _ => absurd hj (Nat.not_lt_zero j), (Mem.only (M := [_]) HM0.out [0] rfl)⟩
  rintro n vs W' ⟨k, rfl, e7, hk, hfit, hm⟩
  simp only [putAll, List.map_cons, List.map_nil, Act.put, List.setIfInBounds_toArray, List.set_cons_succ, List.set_cons_zero]
  rw [e7]
  clear e7
  have HM1 := Lib.hid hm
  clear hm
  refine wp_seq ?_
  refine wp_region_N [(0, 1)] (by kernel_rfl) ?_
  refine wpS_this [0] rfl (by kernel_rfl) (by simp only [pickL, nthL, List.cons_append, List.nil_append]; rfl) ?_
  repeat (go_big_quiet_step (fail))
  refine wpQuiet_nil ?_
  refine wpS_nil ?_
  refine then_normal ?_
  refine wp_seq ?_
  refine wp_cond_split rfl (fun h2 => ?_) (fun h2 => ?_)
  · have hk1 : k + 1 ≤ cs.length := by have : (k : Int) < (cs.length : Int) := (by simpa using h2); omega
    clear h2
    obtain ⟨y, hy⟩ : ∃ y, cs[k]? = some y := ⟨_, List.getElem?_eq_getElem hk1⟩
    refine wp_skip ?_
    refine then_normal ?_
    refine wp_seq ?_
    refine wp_block ?_
    refine wp_seq ?_
    refine wp_region_N [(0, 1), (1, 1), (2, 1), (3, 3), (4, 1), (5, 3)] (by kernel_rfl) ?_
    refine wpS_this [0] rfl (by kernel_rfl) (by simp only [pickL, nthL, List.cons_append, List.nil_append]; rfl) ?_
    repeat (go_big_quiet_step (fail))
    refine wpQuiet_nil ?_
    refine wpS_index (E := elemCall) (i := 1) (d := some 10) rfl (by rfl) rfl rfl rfl (HM1.out.row 0 rfl hR) (hy) rfl ?_
    intro eb3 eo4 hc5
    simp only [Act.put, List.setIfInBounds_toArray, List.set_cons_succ, List.set_cons_zero]
    refine wpS_loadA (i := 2) (d := some 11) (cells := y.enc) rfl (by rfl) rfl rfl hc5 Try.underlying42 rfl (by rw [CallV.len]; kernel_rfl) rfl ?_
    simp only [Act.put, List.setIfInBounds_toArray, List.set_cons_succ, List.set_cons_zero]
    refine wpS_alloc (i := 3) (dd := 4) (z := .agg #[.int .i64 0, .int .i64 0, .int .i64 0, .int .i64 0, .int .i64 0, .int .i64 0, .int .i64 0, .int .i64 0, .int .i64 0, .int .i64 0, .int .i64 0, .int .i64 0, .string ByteArray.empty, .int .i64 0, .int .i64 0, .int .i64 0, .int .i64 0, .int .i64 0, .int .i64 0, .int .i64 0, .int .i64 0, .slice none 0 0, .int .i64 0, .int .i64 0, .int .i64 0, .int .i64 0, .int .i64 0, .int .i64 0, .int .i64 0, .int .i64 0, .int .i64 0, .int .i64 0, .slice none 0 0, .int .i64 0, .int .i64 0, .int .i64 0, .int .i64 0, .int .i64 0, .int .i64 0, .int .i64 0, .int .i64 0, .int .i64 0, .int .i64 0, .int .i64 0, .int .i64 0, .int .i64 0, .int .i64 0, .int .i64 0, .int .i64 0, .int .i64 0, .int .i64 0, .int .i64 0, .int .i64 0, .int .i64 0, .int .i64 0, .int .i64 0, .int .i64 0, .int .i64 0, .int .i64 0, .int .i64 0, .int .i64 0, .int .i64 0, .int .i64 0, .int .i64 0, .int .i64 0, .slice none 0 0, .slice none 0 0, .int .u64 0]) (cs := #[.int .i64 0, .int .i64 0, .int .i64 0, .int .i64 0, .int .i64 0, .int .i64 0, .int .i64 0, .int .i64 0, .int .i64 0, .int .i64 0, .int .i64 0, .int .i64 0, .string ByteArray.empty, .int .i64 0, .int .i64 0, .int .i64 0, .int .i64 0, .int .i64 0, .int .i64 0, .int .i64 0, .int .i64 0, .slice none 0 0, .int .i64 0, .int .i64 0, .int .i64 0, .int .i64 0, .int .i64 0, .int .i64 0, .int .i64 0, .int .i64 0, .int .i64 0, .int .i64 0, .slice none 0 0, .int .i64 0, .int .i64 0, .int .i64 0, .int .i64 0, .int .i64 0, .int .i64 0, .int .i64 0, .int .i64 0, .int .i64 0, .int .i64 0, .int .i64 0, .int .i64 0, .int .i64 0, .int .i64 0, .int .i64 0, .int .i64 0, .int .i64 0, .int .i64 0, .int .i64 0, .int .i64 0, .int .i64 0, .int .i64 0, .int .i64 0, .int .i64 0, .int .i64 0, .int .i64 0, .int .i64 0, .int .i64 0, .int .i64 0, .int .i64 0, .int .i64 0, .int .i64 0, .slice none 0 0, .slice none 0 0, .int .u64 0]) rfl (by rfl) rfl (by kernel_rfl) rfl HM1.out covS_nil rfl ?_
    rintro b8 W7 hm6 -
    have HM9 := Lib.hid hm6
    clear hm6
    simp only [Act.put, List.setIfInBounds_toArray, List.set_cons_succ, List.set_cons_zero]
    refine wpS_this [4] rfl (by kernel_rfl) (by simp only [pickL, nthL, List.cons_append, List.nil_append]; rfl) ?_
    repeat (go_big_quiet_step (fail))
    refine wpQuiet_nil ?_
    refine wpS_storeW (i := 5) (vs := y.enc) (L2 := [_]) rfl (by rfl) rfl rfl rfl (by kernel_rfl) (by rw [CallV.len]; rfl) (fun u hu => elemCall.one y u hu) HM9.out 0 rfl rfl covS_nil rfl ?_
    rintro W11 hm10 -
    have HM12 := Lib.hid hm10
    clear hm10
    refine wpS_nil ?_
    refine then_normal ?_
    refine wp_seq ?_
    rcases light_cases k y with h80 | ⟨h80, hn⟩ | ⟨h80, hn, hp⟩ | ⟨h80, hn, hp⟩
    · have hbad : Hid (¬ fitsC k y) := Lib.hid (fun h => by have := h.1; omega)
      have g80 : decide ((80 : Int) ≤ (k : Int)) = true := decide_eq_true h80
      clear h80
      refine wp_region_N [(0, 1), (1, 1), (2, 1), (3, 1), (4, 1), (5, 1), (6, 1), (7, 1), (8, 1), (9, 1), (10, 1), (11, 1), (12, 1), (13, 1), (14, 1)] (by kernel_rfl) ?_
      refine wpS_this [0, 1, 2, 3, 4] rfl (by kernel_rfl) (by simp only [pickL, nthL, List.cons_append, List.nil_append]; rfl) ?_
      repeat (go_big_quiet_step (fail))
      refine wpQuiet_nil ?_
      refine wpS_skip (i := 5) (d := some 17) rfl (by rfl) rfl ?_
      simp only [Act.put, List.setIfInBounds_toArray, List.set_cons_succ, List.set_cons_zero]
      refine wpS_this [6, 7, 8, 9, 10] rfl (by kernel_rfl) (by simp only [pickL, nthL, List.cons_append, List.nil_append]; rfl) ?_
      repeat (go_big_quiet_step (fail))
      refine wpQuiet_nil ?_
      refine wpS_skip (i := 11) (d := some 23) rfl (by rfl) rfl ?_
      simp only [Act.put, List.setIfInBounds_toArray, List.set_cons_succ, List.set_cons_zero]
      refine wpS_this [12, 13, 14] rfl (by kernel_rfl) (by simp only [pickL, nthL, List.cons_append, List.nil_append]; rfl) ?_
      repeat (go_big_quiet_step (fail))
      refine wpQuiet_nil ?_
      refine wpS_nil ?_
      refine then_normal ?_
      refine wp_cond_true rfl ?_
      refine wp_seq ?_
      refine wp_region_N [(0, 1)] (by kernel_rfl) ?_
      refine wpS_this [0] rfl (by kernel_rfl) (by simp only [pickL, nthL, List.cons_append, List.nil_append]; rfl) ?_
      repeat (go_big_quiet_step (fail))
      refine wpQuiet_nil ?_
      refine wpS_nil ?_
      refine then_normal ?_
      refine wp_ret ?_
      refine block_ret (then_ret (then_ret (block_ret (then_ret ?_))))
      refine bodyPost_ret (results_tmp rfl _ _ _) rfl ?_
      rw [show lightB cs = false from lightB_no hy hbad.out]
      exact does_ret (Mem.only (M := [_]) HM12.out [1] rfl) rfl rfl
    · have hbad : Hid (¬ fitsC k y) := Lib.hid (fun h => by have := h.2.1; omega)
      have g80 : decide ((80 : Int) ≤ (k : Int)) = false := decide_eq_false h80
      have g20 : decide ((20 : Int) < (y.m.n : Int)) = true := decide_eq_true hn
      clear h80 hn
      refine wp_region_N [(0, 1), (1, 1), (2, 1), (3, 1), (4, 1), (5, 1), (6, 1), (7, 1), (8, 1), (9, 1), (10, 1), (11, 1), (12, 1), (13, 1), (14, 1)] (by kernel_rfl) ?_
      refine wpS_this [0, 1, 2, 3, 4] rfl (by kernel_rfl) (by simp only [pickL, nthL, List.cons_append, List.nil_append]; rfl) ?_
      repeat (go_big_quiet_step (fail))
      refine wpQuiet_nil ?_
      refine wpS_load1 (i := 5) (d := some 17) (u := .slice y.m.p y.m.n y.m.cap) rfl (by rfl) rfl rfl ((HM12.out.cellL 0 rfl 65).trans y.at_ms) Try.underlying37 rfl rfl ?_
      simp only [Act.put, List.setIfInBounds_toArray, List.set_cons_succ, List.set_cons_zero]
      refine wpS_this [6, 7, 8, 9, 10] rfl (by kernel_rfl) (by simp only [pickL, nthL, List.cons_append, List.nil_append]; rfl) ?_
      repeat (go_big_quiet_step (fail))
      refine wpQuiet_nil ?_
      refine wpS_skip (i := 11) (d := some 23) rfl (by rfl) rfl ?_
      simp only [Act.put, List.setIfInBounds_toArray, List.set_cons_succ, List.set_cons_zero]
      refine wpS_this [12, 13, 14] rfl (by kernel_rfl) (by simp only [pickL, nthL, List.cons_append, List.nil_append]; rfl) ?_
      repeat (go_big_quiet_step (fail))
      refine wpQuiet_nil ?_
      refine wpS_nil ?_
      refine then_normal ?_
      refine wp_cond_true rfl ?_
      refine wp_seq ?_
      refine wp_region_N [(0, 1)] (by kernel_rfl) ?_
      refine wpS_this [0] rfl (by kernel_rfl) (by simp only [pickL, nthL, List.cons_append, List.nil_append]; rfl) ?_
      repeat (go_big_quiet_step (fail))
      refine wpQuiet_nil ?_
      refine wpS_nil ?_
      refine then_normal ?_
      refine wp_ret ?_
      refine block_ret (then_ret (then_ret (block_ret (then_ret ?_))))
      refine bodyPost_ret (results_tmp rfl _ _ _) rfl ?_
      rw [show lightB cs = false from lightB_no hy hbad.out]
      exact does_ret (Mem.only (M := [_]) HM12.out [1] rfl) rfl rfl
    · have hbad : Hid (¬ fitsC k y) := Lib.hid (fun h => by have := h.2.2; omega)
      have g80 : decide ((80 : Int) ≤ (k : Int)) = false := decide_eq_false h80
      have g20 : decide ((20 : Int) < (y.m.n : Int)) = false := decide_eq_false hn
      have g21 : decide ((20 : Int) < (y.pn : Int)) = true := decide_eq_true hp
      clear h80 hn hp
      refine wp_region_N [(0, 1), (1, 1), (2, 1), (3, 1), (4, 1), (5, 1), (6, 1), (7, 1), (8, 1), (9, 1), (10, 1), (11, 1), (12, 1), (13, 1), (14, 1)] (by kernel_rfl) ?_
      refine wpS_this [0, 1, 2, 3, 4] rfl (by kernel_rfl) (by simp only [pickL, nthL, List.cons_append, List.nil_append]; rfl) ?_
      repeat (go_big_quiet_step (fail))
      refine wpQuiet_nil ?_
      refine wpS_load1 (i := 5) (d := some 17) (u := .slice y.m.p y.m.n y.m.cap) rfl (by rfl) rfl rfl ((HM12.out.cellL 0 rfl 65).trans y.at_ms) Try.underlying37 rfl rfl ?_
      simp only [Act.put, List.setIfInBounds_toArray, List.set_cons_succ, List.set_cons_zero]
      refine wpS_this [6, 7, 8, 9, 10] rfl (by kernel_rfl) (by simp only [pickL, nthL, List.cons_append, List.nil_append]; rfl) ?_
      repeat (go_big_quiet_step (fail))
      refine wpQuiet_nil ?_
      refine wpS_load1 (i := 11) (d := some 23) (u := .slice y.pp y.pn y.pc) rfl (by rfl) rfl rfl ((HM12.out.cellL 0 rfl 66).trans y.at_p) Try.underlying29 rfl rfl ?_
      simp only [Act.put, List.setIfInBounds_toArray, List.set_cons_succ, List.set_cons_zero]
      refine wpS_this [12, 13, 14] rfl (by kernel_rfl) (by simp only [pickL, nthL, List.cons_append, List.nil_append]; rfl) ?_
      repeat (go_big_quiet_step (fail))
      refine wpQuiet_nil ?_
      refine wpS_nil ?_
      refine then_normal ?_
      refine wp_cond_true rfl ?_
      refine wp_seq ?_
      refine wp_region_N [(0, 1)] (by kernel_rfl) ?_
      refine wpS_this [0] rfl (by kernel_rfl) (by simp only [pickL, nthL, List.cons_append, List.nil_append]; rfl) ?_
      repeat (go_big_quiet_step (fail))
      refine wpQuiet_nil ?_
      refine wpS_nil ?_
      refine then_normal ?_
      refine wp_ret ?_
      refine block_ret (then_ret (then_ret (block_ret (then_ret ?_))))
      refine bodyPost_ret (results_tmp rfl _ _ _) rfl ?_
      rw [show lightB cs = false from lightB_no hy hbad.out]
      exact does_ret (Mem.only (M := [_]) HM12.out [1] rfl) rfl rfl
    · have hk80 : k < 80 := by omega
      have hok : Hid (fitsC k y) := Lib.hid ⟨by omega, by omega, by omega⟩
      have g80 : decide ((80 : Int) ≤ (k : Int)) = false := decide_eq_false h80
      have g20 : decide ((20 : Int) < (y.m.n : Int)) = false := decide_eq_false hn
      have g21 : decide ((20 : Int) < (y.pn : Int)) = false := decide_eq_false hp
      clear h80 hn hp
      refine wp_region_N [(0, 1), (1, 1), (2, 1), (3, 1), (4, 1), (5, 1), (6, 1), (7, 1), (8, 1), (9, 1), (10, 1), (11, 1), (12, 1), (13, 1), (14, 1)] (by kernel_rfl) ?_
      refine wpS_this [0, 1, 2, 3, 4] rfl (by kernel_rfl) (by simp only [pickL, nthL, List.cons_append, List.nil_append]; rfl) ?_
      repeat (go_big_quiet_step (fail))
      refine wpQuiet_nil ?_
      refine wpS_load1 (i := 5) (d := some 17) (u := .slice y.m.p y.m.n y.m.cap) rfl (by rfl) rfl rfl ((HM12.out.cellL 0 rfl 65).trans y.at_ms) Try.underlying37 rfl rfl ?_
      simp only [Act.put, List.setIfInBounds_toArray, List.set_cons_succ, List.set_cons_zero]
      refine wpS_this [6, 7, 8, 9, 10] rfl (by kernel_rfl) (by simp only [pickL, nthL, List.cons_append, List.nil_append]; rfl) ?_
      repeat (go_big_quiet_step (fail))
      refine wpQuiet_nil ?_
      refine wpS_load1 (i := 11) (d := some 23) (u := .slice y.pp y.pn y.pc) rfl (by rfl) rfl rfl ((HM12.out.cellL 0 rfl 66).trans y.at_p) Try.underlying29 rfl rfl ?_
      simp only [Act.put, List.setIfInBounds_toArray, List.set_cons_succ, List.set_cons_zero]
      refine wpS_this [12, 13, 14] rfl (by kernel_rfl) (by simp only [pickL, nthL, List.cons_append, List.nil_append]; rfl) ?_
      repeat (go_big_quiet_step (fail))
      refine wpQuiet_nil ?_
      refine wpS_nil ?_
      refine then_normal ?_
      refine wp_cond_false rfl ?_
      refine wp_skip ?_
      refine block_normal ?_
      refine then_normal ?_
      refine wp_region_N [(0, 1), (1, 1)] (by kernel_rfl) ?_
      refine wpS_this [0, 1] rfl (by kernel_rfl) (by simp only [pickL, nthL, List.cons_append, List.nil_append]; rfl) ?_
      repeat (go_big_quiet_step (fail))
      refine wpQuiet_nil ?_
      refine wpS_nil ?_
      refine then_normal ?_
      refine ⟨by kernel_rfl, ?_⟩
      refine ⟨cs.length - (k + 1), by omega, k + 1, rfl, rfl, hk1, ?_, (Mem.only (M := [_]) HM12.out [1] rfl)⟩
      intro j c hj hc
      by_cases e : j < k
      · exact hfit j c e hc
      · obtain rfl : j = k := by omega
        rw [hy] at hc
        obtain rfl := Option.some.inj hc
        exact hok.out
  · have hge : Hid (cs.length ≤ k) := Lib.hid (by have : ¬ (k : Int) < (cs.length : Int) := (by simpa using h2); omega)
    clear h2
    refine wp_exit ?_
    refine then_exit (then_exit (block_exit ?_))
    refine then_normal ?_
    refine wp_seq ?_
    refine wp_region_N [(0, 1)] (by kernel_rfl) ?_
    refine wpS_this [0] rfl (by kernel_rfl) (by simp only [pickL, nthL, List.cons_append, List.nil_append]; rfl) ?_
    repeat (go_big_quiet_step (fail))
    refine wpQuiet_nil ?_
    refine wpS_nil ?_
    refine then_normal ?_
    refine wp_ret ?_
    refine bodyPost_ret (results_tmp rfl _ _ _) rfl ?_
    rw [show lightB cs = true from lightB_yes hge.out hfit]
    exact does_ret (Mem.only (M := [_]) HM1.out [0] rfl) rfl rfl

end Go.Proofs.Ytjbihgfdgaiecaa

/- SwimAnswers: its walk. -/
namespace Go.Proofs.Ytjbihgfdgaiecaa
open Go Go.RowKit Go.BigFrame

theorem hearM_nil (s : DS) : heardM s [] = s := rfl
theorem new_left (self inc : Int) : (newD self inc).left = false := rfl
theorem from_left {s : DS} (h : s.left = false) (frm : Int) : (fromD s frm).left = false := (up_fromD s frm).left.trans h
theorem from_self {s : DS} (frm : Int) : (fromD s frm).self = s.self := (up_fromD s frm).self
theorem kd_cases {k : Nat} {y : Int} (h : ([1, 2, 3] : List Int)[k]? = some y) : y = 1 ∨ y = 2 ∨ y = 3 := by
  match k, h with
  | 0, h => simp at h; omega
  | 1, h => simp at h; omega
  | 2, h => simp at h; omega
  | k + 3, h => simp at h
theorem hearD_asked (s : DS) (c : Cl) : (hearD s c).1.asked = s.asked := by
  unfold hearD
  split
  · split
    · rfl
    · split <;> rfl
  · split <;> rfl
theorem from_asked {s : DS} (frm : Int) : (fromD s frm).asked = s.asked := by
  unfold fromD
  split
  · rfl
  · exact hearD_asked _ _
theorem lok_post {s : DS} (h : LOk s) (kind dst seq fo ab : Int) : LOk (postD s kind dst seq fo ab).1 := by
  obtain ⟨Q, hQ⟩ := postD_rest s kind dst seq fo ab
  rw [hQ]
  exact ⟨h.self, h.inc, h.now, h.seq, h.asked⟩
theorem lok_hand {s : DS} (h : LOk s) (m : InM) : LOk (handL s m).1 := by
  unfold handL
  split
  · exact lok_post h _ _ _ _ _
  · split
    · unfold ackD
      split
      · split
        · exact ⟨h.self, h.inc, h.now, h.seq, by dsimp only; omega⟩
        · exact h
      · split
        · exact lok_post h _ _ _ _ _
        · exact h
    · split
      · unfold pingReqD
        split
        · exact lok_post h _ _ _ _ _
        · exact h
      · exact h
theorem lok_handle {s : DS} {m : InM} {l : List Cl} (h : LOk s) : LOk (handleD s (m.mm l)).1 := by
  by_cases h0 : m.dst = s.self
  · cases h1 : nodeB m.frm with
    | false =>
      have : handleD s (m.mm l) = (s, []) := by unfold handleD InM.mm; dsimp only; rw [if_pos (.inr (.inl h1))]
      rw [this]
      exact h
    | true =>
      by_cases h2 : m.frm = s.self
      · have : handleD s (m.mm l) = (s, []) := by unfold handleD InM.mm; dsimp only; rw [if_pos (.inr (.inr h2))]
        rw [this]
        exact h
      · rw [handleD_pass h0 h1 h2]
        exact lok_hand (lok_fromD (lok_heardM h l) m.frm) m
  · have : handleD s (m.mm l) = (s, []) := by unfold handleD InM.mm; dsimp only; rw [if_pos (.inl h0)]
    rw [this]
    exact h
set_option maxHeartbeats 4000000 in
set_option maxRecDepth 100000 in
theorem answers_d (frm about seq ton kind : Int) : Does Try.prog 6 #[.int .i64 frm, .int .i64 about, .int .i64 seq, .int .i64 ton, .int .i64 kind] [] (.bool true) [] := by
  intro w H hp
  have HM0 := Lib.hid (mem_refl hp)
  clear hp
  have HM0 := Lib.hid (Mem.nilRow elemCl HM0.out)
  go_enter Try.func6, Try.ntmps6
  refine wp_seq ?_
  refine wp_region_N [(0, 1)] (by kernel_rfl) ?_
  refine wpS_this [0] rfl (by kernel_rfl) (by simp only [pickL, nthL, List.cons_append, List.nil_append]; rfl) ?_
  repeat (go_big_quiet_step (fail))
  refine wpQuiet_nil ?_
  refine wpS_nil ?_
  refine then_normal ?_
  refine wp_seq ?_
  obtain ⟨K0, hK0, hm0, hm0'⟩ := mod_small 7 (by decide) (by decide) frm
  obtain ⟨K1, hK1, hm1', -⟩ := mod_small 8 (by decide) (by decide) about
  obtain ⟨K2, hK2, hm2', -⟩ := mod_small 3 (by decide) (by decide) kind
  refine wp_region_N [(0, 1), (1, 1), (2, 1), (3, 1), (4, 1), (5, 1), (6, 1), (7, 1), (8, 1), (9, 1), (10, 1)] (by kernel_rfl) ?_
  refine wpS_this [0, 1, 2, 3, 4, 5, 6, 7, 8, 9, 10] rfl (by kernel_rfl) (by simp only [pickL, nthL, List.cons_append, List.nil_append]; rfl) ?_
  repeat (go_big_quiet_step (fail))
  refine wpQuiet_nil ?_
  refine wpS_nil ?_
  refine then_normal ?_
  refine wp_seq ?_
  rw [hm1']
  obtain ⟨fr, hfr⟩ : ∃ x : Int, (1 + (K0 : Int)) = x := ⟨_, rfl⟩
  obtain ⟨ab, hab⟩ : ∃ x : Int, (K1 : Int) = x := ⟨_, rfl⟩
  rw [hfr, hab]
  have hfr8 : 1 ≤ fr ∧ fr < 8 := by omega
  have hab8 : 0 ≤ ab ∧ ab < 8 := by omega
  clear hfr hab hm0 hm0' hm1' hK0 hK1
  obtain ⟨kd, hkd⟩ : ∃ y, ([1, 2, 3] : List Int)[K2]? = some y := ⟨_, List.getElem?_eq_getElem (show K2 < 3 by omega)⟩
  refine wp_region_N [(0, 3), (1, 1), (2, 1), (3, 1), (4, 1), (5, 1), (6, 1), (7, 1)] (by kernel_rfl) ?_
  refine wpS_buildN elemI (i := 0) (dd := 22) (n := 3) (xs := [1, 2, 3]) (cs := #[.int .i64 1, .int .i64 2, .int .i64 3]) rfl (by rfl) (fun _ => by kernel_rfl) rfl rfl HM0.out covS_nil rfl ?_
  rintro b3 W4 hm5 -
  have HM6 := Lib.hid hm5
  clear hm5
  simp only [Act.put, List.setIfInBounds_toArray, List.set_cons_succ, List.set_cons_zero]
  refine wpS_this [1, 2, 3, 4] rfl (by kernel_rfl) (by simp only [pickL, nthL, List.cons_append, List.nil_append]; rfl) ?_
  repeat (go_big_quiet_step (fail))
  refine wpQuiet_nil ?_
  rw [hm2']
  refine wpS_index (E := elemI) (i := 5) (d := some 27) rfl (by rfl) rfl rfl rfl (rowAt_src (HM6.out.src 0 rfl rowT_reads)) (hkd) rfl ?_
  intro eb7 eo8 hc9
  simp only [Act.put, List.setIfInBounds_toArray, List.set_cons_succ, List.set_cons_zero]
  refine wpS_load1 (i := 6) (d := some 28) (u := .int .i64 kd) rfl (by rfl) rfl rfl (hc9 0 _ rfl) Try.underlying3 rfl rfl ?_
  simp only [Act.put, List.setIfInBounds_toArray, List.set_cons_succ, List.set_cons_zero]
  refine wpS_this [7] rfl (by kernel_rfl) (by simp only [pickL, nthL, List.cons_append, List.nil_append]; rfl) ?_
  repeat (go_big_quiet_step (fail))
  refine wpQuiet_nil ?_
  refine wpS_nil ?_
  refine then_normal ?_
  refine wp_seq ?_
  have h5 : (kd = 1) ∨ (kd = 2 ∧ ab = 0) ∨ (kd = 2 ∧ ¬ ab = 0) ∨ (kd = 3 ∧ ab = 0) ∨ (kd = 3 ∧ ¬ ab = 0) := by rcases kd_cases hkd with h | h | h <;> omega
  clear hkd
  rcases h5 with rfl | ⟨rfl, hz⟩ | ⟨rfl, hz⟩ | ⟨rfl, hz⟩ | ⟨rfl, hz⟩
  · have HP := handleD_pass (s := newD 0 4) (m := (⟨1, fr, 0, seq, ab, ab, msgMid, none, 0, 0⟩ : InM)) (l := []) rfl (by simp [nodeB]; omega) (show ¬ fr = 0 by omega)
    have HX : Hid ((handleD (newD 0 4) ((⟨1, fr, 0, seq, ab, ab, msgMid, none, 0, 0⟩ : InM).mm [])).2 = [⟨2, 0, fr, seq, ab, 0, claimsTo (fromD (newD 0 4) fr) fr⟩]) := Lib.hid (by rw [HP]; unfold handL; rw [if_pos rfl]; show (postD (fromD (newD 0 4) fr) 2 fr seq ab 0).2 = _; rw [postD_out (from_left (new_left 0 4) fr)]; show [(⟨2, (fromD (newD 0 4) fr).self, fr, seq, ab, 0, claimsTo (fromD (newD 0 4) fr) fr⟩ : MM)] = _; rw [from_self]; rfl)
    clear HP
    refine wp_region_N [(0, 3), (1, 1)] (by kernel_rfl) ?_
    refine wpS_doesU2 (i := 0) (d := some 29) (rem := [_, _]) rfl (by rfl) rfl Try.call21 (new_d 0 4 (by decide) (by decide)) rfl rfl HM6.out [] rfl covS_nil (fun _ => rfl) rfl ?_
    rintro u12 W11 hm10 -
    obtain ⟨bk, hm10e⟩ := Mem.ex hm10
    clear hm10
    obtain ⟨hm10u, hm10⟩ := Mem.pr hm10e
    clear hm10e
    subst hm10u
    have HM13 := Lib.hid hm10
    clear hm10
    simp only [Act.put, List.setIfInBounds_toArray, List.set_cons_succ, List.set_cons_zero]
    refine wpS_this [1] rfl (by kernel_rfl) (by simp only [pickL, nthL, List.cons_append, List.nil_append]; rfl) ?_
    repeat (go_big_quiet_step (fail))
    refine wpQuiet_nil ?_
    refine wpS_nil ?_
    refine then_normal ?_
    refine wp_seq ?_
    refine wp_region_N [(0, 1), (1, 1), (2, 1), (3, 1), (4, 1), (5, 1), (6, 1), (7, 3), (8, 1)] (by kernel_rfl) ?_
    refine wpS_this [0, 1, 2, 3, 4, 5] rfl (by kernel_rfl) (by simp only [pickL, nthL, List.cons_append, List.nil_append]; rfl) ?_
    repeat (go_big_quiet_step (fail))
    refine wpQuiet_nil ?_
    refine wpS_read (i := 6) (d := some 36) (v := .agg (InM.enc ⟨1, fr, 0, seq, ab, ab, msgMid, none, 0, 0⟩).toArray) rfl (by rfl) (by kernel_rfl) rfl ?_
    simp only [Act.put, List.setIfInBounds_toArray, List.set_cons_succ, List.set_cons_zero]
    refine wpS_doesU2 (i := 7) (d := some 37) (rem := [_]) rfl (by rfl) rfl Try.call10 (handle_d bk.d (newD 0 4) bk.pv bk.pq bk.po bk.pc (rowT elemCl (.slice none 0 0) []) (⟨1, fr, 0, seq, ab, ab, msgMid, none, 0, 0⟩ : InM) [] (fun W H h => rowAt_src (rowT_reads W H h)) (by decide) msgMid_len (lok_new (by decide) (by decide))) rfl rfl HM13.out [6, 0, 0, 0, 0, 0] rfl covS_nil (fun _ => rfl) rfl ?_
    rintro u16 W15 hm14 -
    rw [HX.out] at hm14
    obtain ⟨mb, mo, mc, mp, mcap, hm14u, hm14m⟩ := msgs_open1 hm14
    clear hm14
    subst hm14u
    have HM17 := Lib.hid hm14m
    clear hm14m
    simp only [Act.put, List.setIfInBounds_toArray, List.set_cons_succ, List.set_cons_zero]
    refine wpS_this [8] rfl (by kernel_rfl) (by simp only [pickL, nthL, List.cons_append, List.nil_append]; rfl) ?_
    repeat (go_big_quiet_step (fail))
    refine wpQuiet_nil ?_
    refine wpS_nil ?_
    refine then_normal ?_
    refine wp_seq ?_
    refine wp_block ?_
    refine wp_seq ?_
    refine wp_region_N [(0, 1), (1, 1), (2, 1)] (by kernel_rfl) ?_
    refine wpS_this [0, 1, 2] rfl (by kernel_rfl) (by simp only [pickL, nthL, List.cons_append, List.nil_append]; rfl) ?_
    repeat (go_big_quiet_step (fail))
    refine wpQuiet_nil ?_
    refine wpS_nil ?_
    refine then_normal ?_
    refine wp_cond_true rfl ?_
    refine wp_seq ?_
    refine wp_region_N [(0, 1), (1, 1), (2, 1), (3, 1), (4, 1), (5, 1), (6, 1), (7, 1), (8, 1), (9, 1), (10, 1), (11, 1), (12, 1), (13, 1), (14, 1), (15, 1), (16, 1), (17, 1), (18, 1), (19, 1), (20, 1), (21, 1), (22, 1), (23, 1), (24, 1), (25, 1), (26, 1), (27, 1), (28, 1), (29, 1), (30, 1), (31, 1), (32, 1), (33, 1), (34, 1), (35, 3), (36, 1), (37, 1)] (by kernel_rfl) ?_
    have c0 : World.cell? _ ⟨mb, mo, none⟩ = some (.int .i64 2) := row_cell0 HM17.out 0 rfl rfl 0 _ rfl
    have c2 : World.cell? _ ⟨mb, mo + 2, none⟩ = some (.int .i64 fr) := row_cell0 HM17.out 0 rfl rfl 2 _ rfl
    have c3 : World.cell? _ ⟨mb, mo + 3, none⟩ = some (.int .i64 seq) := row_cell0 HM17.out 0 rfl rfl 3 _ rfl
    have c4 : World.cell? _ ⟨mb, mo + 4, none⟩ = some (.int .i64 ab) := row_cell0 HM17.out 0 rfl rfl 4 _ rfl
    refine wpS_this [0, 1, 2, 3, 4, 5, 6, 7, 8, 9, 10, 11, 12, 13, 14, 15, 16, 17, 18, 19, 20, 21, 22, 23, 24, 25, 26, 27, 28, 29, 30, 31, 32, 33, 34] rfl (by kernel_rfl) (by simp only [pickL, nthL, List.cons_append, List.nil_append]; rfl) ?_
    repeat (go_big_quiet_step (fail))
    refine wpQuiet_nil ?_
    refine wpS_does0 (i := 35) (d := some 76) (rem := [_, _, _, _, _, _, _, _, _]) (out := [_, _, _, _, _, _, _, _, _]) rfl (by rfl) rfl Try.call18 (awake_d)  HM17.out [] rfl covS_nil rfl rfl ?_
    rintro W19 hm18 -
    have HM20 := Lib.hid hm18
    clear hm18
    simp only [Act.put, List.setIfInBounds_toArray, List.set_cons_succ, List.set_cons_zero]
    refine wpS_this [36, 37] rfl (by kernel_rfl) (by simp only [pickL, nthL, List.cons_append, List.nil_append]; rfl) ?_
    repeat (go_big_quiet_step (fail))
    refine wpQuiet_nil ?_
    refine wpS_nil ?_
    refine then_normal ?_
    refine wp_ret ?_
    refine block_ret (then_ret ?_)
    refine bodyPost_ret (results_tmp rfl _ _ _) rfl ?_
    exact does_ret (Mem.only (M := []) HM20.out [] rfl) rfl rfl
  · have HP := handleD_pass (s := newD 0 4) (m := (⟨2, fr, 0, seq, ab, ab, msgMid, none, 0, 0⟩ : InM)) (l := []) rfl (by simp [nodeB]; omega) (show ¬ fr = 0 by omega)
    have HX : Hid ((handleD (newD 0 4) ((⟨2, fr, 0, seq, ab, ab, msgMid, none, 0, 0⟩ : InM).mm [])).2 = []) := Lib.hid (by rw [HP]; unfold handL; rw [if_neg (show ¬ (2 : Int) = 1 by decide), if_pos rfl]; unfold ackD; rw [if_pos (by show ab = (fromD (newD 0 4) fr).self; rw [from_self]; exact hz), if_neg (fun h => by have h2 : 0 ≤ (fromD (newD 0 4) fr).asked := h.2; rw [from_asked] at h2; exact absurd h2 (by decide))])
    clear HP
    have gz : (ab != 0) = false := by rw [bne_eq_false_iff_eq]; exact hz
    clear hz
    refine wp_region_N [(0, 3), (1, 1)] (by kernel_rfl) ?_
    refine wpS_doesU2 (i := 0) (d := some 29) (rem := [_, _]) rfl (by rfl) rfl Try.call21 (new_d 0 4 (by decide) (by decide)) rfl rfl HM6.out [] rfl covS_nil (fun _ => rfl) rfl ?_
    rintro u23 W22 hm21 -
    obtain ⟨bk, hm21e⟩ := Mem.ex hm21
    clear hm21
    obtain ⟨hm21u, hm21⟩ := Mem.pr hm21e
    clear hm21e
    subst hm21u
    have HM24 := Lib.hid hm21
    clear hm21
    simp only [Act.put, List.setIfInBounds_toArray, List.set_cons_succ, List.set_cons_zero]
    refine wpS_this [1] rfl (by kernel_rfl) (by simp only [pickL, nthL, List.cons_append, List.nil_append]; rfl) ?_
    repeat (go_big_quiet_step (fail))
    refine wpQuiet_nil ?_
    refine wpS_nil ?_
    refine then_normal ?_
    refine wp_seq ?_
    refine wp_region_N [(0, 1), (1, 1), (2, 1), (3, 1), (4, 1), (5, 1), (6, 1), (7, 3), (8, 1)] (by kernel_rfl) ?_
    refine wpS_this [0, 1, 2, 3, 4, 5] rfl (by kernel_rfl) (by simp only [pickL, nthL, List.cons_append, List.nil_append]; rfl) ?_
    repeat (go_big_quiet_step (fail))
    refine wpQuiet_nil ?_
    refine wpS_read (i := 6) (d := some 36) (v := .agg (InM.enc ⟨2, fr, 0, seq, ab, ab, msgMid, none, 0, 0⟩).toArray) rfl (by rfl) (by kernel_rfl) rfl ?_
    simp only [Act.put, List.setIfInBounds_toArray, List.set_cons_succ, List.set_cons_zero]
    refine wpS_doesU2 (i := 7) (d := some 37) (rem := [_]) rfl (by rfl) rfl Try.call10 (handle_d bk.d (newD 0 4) bk.pv bk.pq bk.po bk.pc (rowT elemCl (.slice none 0 0) []) (⟨2, fr, 0, seq, ab, ab, msgMid, none, 0, 0⟩ : InM) [] (fun W H h => rowAt_src (rowT_reads W H h)) (by decide) msgMid_len (lok_new (by decide) (by decide))) rfl rfl HM24.out [6, 0, 0, 0, 0, 0] rfl covS_nil (fun _ => rfl) rfl ?_
    rintro u27 W26 hm25 -
    rw [HX.out] at hm25
    obtain ⟨zp, zc, hm25u, hm25m⟩ := msgs_open0 hm25
    clear hm25
    subst hm25u
    have HM28 := Lib.hid hm25m
    clear hm25m
    simp only [Act.put, List.setIfInBounds_toArray, List.set_cons_succ, List.set_cons_zero]
    refine wpS_this [8] rfl (by kernel_rfl) (by simp only [pickL, nthL, List.cons_append, List.nil_append]; rfl) ?_
    repeat (go_big_quiet_step (fail))
    refine wpQuiet_nil ?_
    refine wpS_nil ?_
    refine then_normal ?_
    refine wp_seq ?_
    refine wp_block ?_
    refine wp_seq ?_
    refine wp_region_N [(0, 1), (1, 1), (2, 1)] (by kernel_rfl) ?_
    refine wpS_this [0, 1, 2] rfl (by kernel_rfl) (by simp only [pickL, nthL, List.cons_append, List.nil_append]; rfl) ?_
    repeat (go_big_quiet_step (fail))
    refine wpQuiet_nil ?_
    refine wpS_nil ?_
    refine then_normal ?_
    refine wp_cond_false rfl ?_
    refine wp_seq ?_
    refine wp_region_N [(0, 1), (1, 1), (2, 1), (3, 1), (4, 1), (5, 1), (6, 1)] (by kernel_rfl) ?_
    refine wpS_this [0, 1, 2, 3, 4, 5, 6] rfl (by kernel_rfl) (by simp only [pickL, nthL, List.cons_append, List.nil_append]; rfl) ?_
    repeat (go_big_quiet_step (fail))
    refine wpQuiet_nil ?_
    refine wpS_nil ?_
    refine then_normal ?_
    refine wp_cond_false rfl ?_
    refine wp_seq ?_
    refine wp_region_N [(0, 1), (1, 1), (2, 1), (3, 1), (4, 1), (5, 1), (6, 1)] (by kernel_rfl) ?_
    refine wpS_this [0, 1, 2, 3, 4, 5, 6] rfl (by kernel_rfl) (by simp only [pickL, nthL, List.cons_append, List.nil_append]; rfl) ?_
    repeat (go_big_quiet_step (fail))
    refine wpQuiet_nil ?_
    refine wpS_nil ?_
    refine then_normal ?_
    refine wp_cond_false rfl ?_
    refine wp_skip ?_
    refine block_normal ?_
    refine then_normal ?_
    refine wp_seq ?_
    have HSelf : (handleD (newD 0 4) ((⟨2, fr, 0, seq, ab, ab, msgMid, none, 0, 0⟩ : InM).mm [])).1.self = 0 := (up_handleD (newD 0 4) ((⟨2, fr, 0, seq, ab, ab, msgMid, none, 0, 0⟩ : InM).mm [])).self
    have HOK := Lib.hid (lok_handle (s := newD 0 4) (m := (⟨2, fr, 0, seq, ab, ab, msgMid, none, 0, 0⟩ : InM)) (l := []) (lok_new (by decide) (by decide)))
    have HY : Hid ((handleD (handleD (newD 0 4) ((⟨2, fr, 0, seq, ab, ab, msgMid, none, 0, 0⟩ : InM).mm [])).1 ((⟨2, fr, 1, 0, 0, 0, msgMid, none, 0, 0⟩ : InM).mm [])).2 = []) := Lib.hid (by unfold handleD; rw [if_pos (.inl (by show ¬ (1 : Int) = (handleD (newD 0 4) ((⟨2, fr, 0, seq, ab, ab, msgMid, none, 0, 0⟩ : InM).mm [])).1.self; rw [HSelf]; decide))])
    clear HSelf
    refine wp_region_N [(0, 1), (1, 1), (2, 1), (3, 1), (4, 1), (5, 1), (6, 1), (7, 1), (8, 3), (9, 1), (10, 1), (11, 1), (12, 1), (13, 3), (14, 1), (15, 1)] (by kernel_rfl) ?_
    refine wpS_this [0, 1, 2, 3, 4, 5, 6] rfl (by kernel_rfl) (by simp only [pickL, nthL, List.cons_append, List.nil_append]; rfl) ?_
    repeat (go_big_quiet_step (fail))
    refine wpQuiet_nil ?_
    refine wpS_read (i := 7) (d := some 173) (v := .agg (InM.enc ⟨2, fr, 1, 0, 0, 0, msgMid, none, 0, 0⟩).toArray) rfl (by rfl) (by kernel_rfl) rfl ?_
    simp only [Act.put, List.setIfInBounds_toArray, List.set_cons_succ, List.set_cons_zero]
    refine wpS_doesU2 (i := 8) (d := some 174) (rem := [_]) rfl (by rfl) rfl Try.call10 (handle_d bk.d (handleD (newD 0 4) ((⟨2, fr, 0, seq, ab, ab, msgMid, none, 0, 0⟩ : InM).mm [])).1 bk.pv bk.pq bk.po bk.pc (rowT elemCl (.slice none 0 0) []) (⟨2, fr, 1, 0, 0, 0, msgMid, none, 0, 0⟩ : InM) [] (fun W H h => rowAt_src (rowT_reads W H h)) (by decide) msgMid_len HOK.out) rfl rfl HM28.out [0, 0, 0, 0, 0, 0] rfl covS_nil (fun _ => rfl) rfl ?_
    rintro u31 W30 hm29 -
    rw [HY.out] at hm29
    obtain ⟨zp, zc, hm29u, hm29m⟩ := msgs_open0 hm29
    clear hm29
    subst hm29u
    have HM32 := Lib.hid hm29m
    clear hm29m
    simp only [Act.put, List.setIfInBounds_toArray, List.set_cons_succ, List.set_cons_zero]
    refine wpS_this [9, 10, 11, 12] rfl (by kernel_rfl) (by simp only [pickL, nthL, List.cons_append, List.nil_append]; rfl) ?_
    repeat (go_big_quiet_step (fail))
    refine wpQuiet_nil ?_
    refine wpS_does0 (i := 13) (d := some 179) (rem := [_, _, _, _, _, _, _]) (out := [_, _, _, _, _, _, _]) rfl (by rfl) rfl Try.call18 (awake_d)  HM32.out [] rfl covS_nil rfl rfl ?_
    rintro W34 hm33 -
    have HM35 := Lib.hid hm33
    clear hm33
    simp only [Act.put, List.setIfInBounds_toArray, List.set_cons_succ, List.set_cons_zero]
    refine wpS_this [14, 15] rfl (by kernel_rfl) (by simp only [pickL, nthL, List.cons_append, List.nil_append]; rfl) ?_
    repeat (go_big_quiet_step (fail))
    refine wpQuiet_nil ?_
    refine wpS_nil ?_
    refine then_normal ?_
    refine wp_ret ?_
    refine bodyPost_ret (results_tmp rfl _ _ _) rfl ?_
    exact does_ret (Mem.only (M := []) HM35.out [] rfl) rfl rfl
  · have HP := handleD_pass (s := newD 0 4) (m := (⟨2, fr, 0, seq, ab, ab, msgMid, none, 0, 0⟩ : InM)) (l := []) rfl (by simp [nodeB]; omega) (show ¬ fr = 0 by omega)
    have HX : Hid ((handleD (newD 0 4) ((⟨2, fr, 0, seq, ab, ab, msgMid, none, 0, 0⟩ : InM).mm [])).2 = [⟨2, 0, ab, seq, ab, 0, claimsTo (fromD (newD 0 4) fr) ab⟩]) := Lib.hid (by rw [HP]; unfold handL; rw [if_neg (show ¬ (2 : Int) = 1 by decide), if_pos rfl]; unfold ackD; rw [if_neg (by show ¬ ab = (fromD (newD 0 4) fr).self; rw [from_self]; exact hz), if_pos (by simp [nodeB]; omega)]; show (postD (fromD (newD 0 4) fr) 2 ab seq ab 0).2 = _; rw [postD_out (from_left (new_left 0 4) fr)]; show [(⟨2, (fromD (newD 0 4) fr).self, ab, seq, ab, 0, claimsTo (fromD (newD 0 4) fr) ab⟩ : MM)] = _; rw [from_self]; rfl)
    clear HP
    have gz : (ab != 0) = true := by rw [bne_iff_ne]; exact hz
    clear hz
    refine wp_region_N [(0, 3), (1, 1)] (by kernel_rfl) ?_
    refine wpS_doesU2 (i := 0) (d := some 29) (rem := [_, _]) rfl (by rfl) rfl Try.call21 (new_d 0 4 (by decide) (by decide)) rfl rfl HM6.out [] rfl covS_nil (fun _ => rfl) rfl ?_
    rintro u38 W37 hm36 -
    obtain ⟨bk, hm36e⟩ := Mem.ex hm36
    clear hm36
    obtain ⟨hm36u, hm36⟩ := Mem.pr hm36e
    clear hm36e
    subst hm36u
    have HM39 := Lib.hid hm36
    clear hm36
    simp only [Act.put, List.setIfInBounds_toArray, List.set_cons_succ, List.set_cons_zero]
    refine wpS_this [1] rfl (by kernel_rfl) (by simp only [pickL, nthL, List.cons_append, List.nil_append]; rfl) ?_
    repeat (go_big_quiet_step (fail))
    refine wpQuiet_nil ?_
    refine wpS_nil ?_
    refine then_normal ?_
    refine wp_seq ?_
    refine wp_region_N [(0, 1), (1, 1), (2, 1), (3, 1), (4, 1), (5, 1), (6, 1), (7, 3), (8, 1)] (by kernel_rfl) ?_
    refine wpS_this [0, 1, 2, 3, 4, 5] rfl (by kernel_rfl) (by simp only [pickL, nthL, List.cons_append, List.nil_append]; rfl) ?_
    repeat (go_big_quiet_step (fail))
    refine wpQuiet_nil ?_
    refine wpS_read (i := 6) (d := some 36) (v := .agg (InM.enc ⟨2, fr, 0, seq, ab, ab, msgMid, none, 0, 0⟩).toArray) rfl (by rfl) (by kernel_rfl) rfl ?_
    simp only [Act.put, List.setIfInBounds_toArray, List.set_cons_succ, List.set_cons_zero]
    refine wpS_doesU2 (i := 7) (d := some 37) (rem := [_]) rfl (by rfl) rfl Try.call10 (handle_d bk.d (newD 0 4) bk.pv bk.pq bk.po bk.pc (rowT elemCl (.slice none 0 0) []) (⟨2, fr, 0, seq, ab, ab, msgMid, none, 0, 0⟩ : InM) [] (fun W H h => rowAt_src (rowT_reads W H h)) (by decide) msgMid_len (lok_new (by decide) (by decide))) rfl rfl HM39.out [6, 0, 0, 0, 0, 0] rfl covS_nil (fun _ => rfl) rfl ?_
    rintro u42 W41 hm40 -
    rw [HX.out] at hm40
    obtain ⟨mb, mo, mc, mp, mcap, hm40u, hm40m⟩ := msgs_open1 hm40
    clear hm40
    subst hm40u
    have HM43 := Lib.hid hm40m
    clear hm40m
    simp only [Act.put, List.setIfInBounds_toArray, List.set_cons_succ, List.set_cons_zero]
    refine wpS_this [8] rfl (by kernel_rfl) (by simp only [pickL, nthL, List.cons_append, List.nil_append]; rfl) ?_
    repeat (go_big_quiet_step (fail))
    refine wpQuiet_nil ?_
    refine wpS_nil ?_
    refine then_normal ?_
    refine wp_seq ?_
    refine wp_block ?_
    refine wp_seq ?_
    refine wp_region_N [(0, 1), (1, 1), (2, 1)] (by kernel_rfl) ?_
    refine wpS_this [0, 1, 2] rfl (by kernel_rfl) (by simp only [pickL, nthL, List.cons_append, List.nil_append]; rfl) ?_
    repeat (go_big_quiet_step (fail))
    refine wpQuiet_nil ?_
    refine wpS_nil ?_
    refine then_normal ?_
    refine wp_cond_false rfl ?_
    refine wp_seq ?_
    refine wp_region_N [(0, 1), (1, 1), (2, 1), (3, 1), (4, 1), (5, 1), (6, 1)] (by kernel_rfl) ?_
    refine wpS_this [0, 1, 2, 3, 4, 5, 6] rfl (by kernel_rfl) (by simp only [pickL, nthL, List.cons_append, List.nil_append]; rfl) ?_
    repeat (go_big_quiet_step (fail))
    refine wpQuiet_nil ?_
    refine wpS_nil ?_
    refine then_normal ?_
    refine wp_cond_true rfl ?_
    refine wp_seq ?_
    refine wp_region_N [(0, 1), (1, 1), (2, 1), (3, 1), (4, 1), (5, 1), (6, 1), (7, 1), (8, 1), (9, 1), (10, 1), (11, 1), (12, 1), (13, 1), (14, 1), (15, 1), (16, 1), (17, 1), (18, 1), (19, 1), (20, 1), (21, 1), (22, 1), (23, 1), (24, 1), (25, 1), (26, 1), (27, 1), (28, 1), (29, 1), (30, 1), (31, 1), (32, 1), (33, 1), (34, 1), (35, 3), (36, 1), (37, 1)] (by kernel_rfl) ?_
    have c0 : World.cell? _ ⟨mb, mo, none⟩ = some (.int .i64 2) := row_cell0 HM43.out 0 rfl rfl 0 _ rfl
    have c2 : World.cell? _ ⟨mb, mo + 2, none⟩ = some (.int .i64 ab) := row_cell0 HM43.out 0 rfl rfl 2 _ rfl
    have c3 : World.cell? _ ⟨mb, mo + 3, none⟩ = some (.int .i64 seq) := row_cell0 HM43.out 0 rfl rfl 3 _ rfl
    have c4 : World.cell? _ ⟨mb, mo + 4, none⟩ = some (.int .i64 ab) := row_cell0 HM43.out 0 rfl rfl 4 _ rfl
    refine wpS_this [0, 1, 2, 3, 4, 5, 6, 7, 8, 9, 10, 11, 12, 13, 14, 15, 16, 17, 18, 19, 20, 21, 22, 23, 24, 25, 26, 27, 28, 29, 30, 31, 32, 33, 34] rfl (by kernel_rfl) (by simp only [pickL, nthL, List.cons_append, List.nil_append]; rfl) ?_
    repeat (go_big_quiet_step (fail))
    refine wpQuiet_nil ?_
    refine wpS_does0 (i := 35) (d := some 120) (rem := [_, _, _, _, _, _, _, _, _]) (out := [_, _, _, _, _, _, _, _, _]) rfl (by rfl) rfl Try.call18 (awake_d)  HM43.out [] rfl covS_nil rfl rfl ?_
    rintro W45 hm44 -
    have HM46 := Lib.hid hm44
    clear hm44
    simp only [Act.put, List.setIfInBounds_toArray, List.set_cons_succ, List.set_cons_zero]
    refine wpS_this [36, 37] rfl (by kernel_rfl) (by simp only [pickL, nthL, List.cons_append, List.nil_append]; rfl) ?_
    repeat (go_big_quiet_step (fail))
    refine wpQuiet_nil ?_
    refine wpS_nil ?_
    refine then_normal ?_
    refine wp_ret ?_
    refine block_ret (then_ret ?_)
    refine bodyPost_ret (results_tmp rfl _ _ _) rfl ?_
    exact does_ret (Mem.only (M := []) HM46.out [] rfl) rfl rfl
  · have HP := handleD_pass (s := newD 0 4) (m := (⟨3, fr, 0, seq, ab, ab, msgMid, none, 0, 0⟩ : InM)) (l := []) rfl (by simp [nodeB]; omega) (show ¬ fr = 0 by omega)
    have HX : Hid ((handleD (newD 0 4) ((⟨3, fr, 0, seq, ab, ab, msgMid, none, 0, 0⟩ : InM).mm [])).2 = []) := Lib.hid (by rw [HP]; unfold handL; rw [if_neg (show ¬ (3 : Int) = 1 by decide), if_neg (show ¬ (3 : Int) = 2 by decide), if_pos rfl]; unfold pingReqD; rw [if_neg (fun h => h.2 (by show ab = (fromD (newD 0 4) fr).self; rw [from_self]; exact hz))])
    clear HP
    have gz : (ab != 0) = false := by rw [bne_eq_false_iff_eq]; exact hz
    clear hz
    refine wp_region_N [(0, 3), (1, 1)] (by kernel_rfl) ?_
    refine wpS_doesU2 (i := 0) (d := some 29) (rem := [_, _]) rfl (by rfl) rfl Try.call21 (new_d 0 4 (by decide) (by decide)) rfl rfl HM6.out [] rfl covS_nil (fun _ => rfl) rfl ?_
    rintro u49 W48 hm47 -
    obtain ⟨bk, hm47e⟩ := Mem.ex hm47
    clear hm47
    obtain ⟨hm47u, hm47⟩ := Mem.pr hm47e
    clear hm47e
    subst hm47u
    have HM50 := Lib.hid hm47
    clear hm47
    simp only [Act.put, List.setIfInBounds_toArray, List.set_cons_succ, List.set_cons_zero]
    refine wpS_this [1] rfl (by kernel_rfl) (by simp only [pickL, nthL, List.cons_append, List.nil_append]; rfl) ?_
    repeat (go_big_quiet_step (fail))
    refine wpQuiet_nil ?_
    refine wpS_nil ?_
    refine then_normal ?_
    refine wp_seq ?_
    refine wp_region_N [(0, 1), (1, 1), (2, 1), (3, 1), (4, 1), (5, 1), (6, 1), (7, 3), (8, 1)] (by kernel_rfl) ?_
    refine wpS_this [0, 1, 2, 3, 4, 5] rfl (by kernel_rfl) (by simp only [pickL, nthL, List.cons_append, List.nil_append]; rfl) ?_
    repeat (go_big_quiet_step (fail))
    refine wpQuiet_nil ?_
    refine wpS_read (i := 6) (d := some 36) (v := .agg (InM.enc ⟨3, fr, 0, seq, ab, ab, msgMid, none, 0, 0⟩).toArray) rfl (by rfl) (by kernel_rfl) rfl ?_
    simp only [Act.put, List.setIfInBounds_toArray, List.set_cons_succ, List.set_cons_zero]
    refine wpS_doesU2 (i := 7) (d := some 37) (rem := [_]) rfl (by rfl) rfl Try.call10 (handle_d bk.d (newD 0 4) bk.pv bk.pq bk.po bk.pc (rowT elemCl (.slice none 0 0) []) (⟨3, fr, 0, seq, ab, ab, msgMid, none, 0, 0⟩ : InM) [] (fun W H h => rowAt_src (rowT_reads W H h)) (by decide) msgMid_len (lok_new (by decide) (by decide))) rfl rfl HM50.out [6, 0, 0, 0, 0, 0] rfl covS_nil (fun _ => rfl) rfl ?_
    rintro u53 W52 hm51 -
    rw [HX.out] at hm51
    obtain ⟨zp, zc, hm51u, hm51m⟩ := msgs_open0 hm51
    clear hm51
    subst hm51u
    have HM54 := Lib.hid hm51m
    clear hm51m
    simp only [Act.put, List.setIfInBounds_toArray, List.set_cons_succ, List.set_cons_zero]
    refine wpS_this [8] rfl (by kernel_rfl) (by simp only [pickL, nthL, List.cons_append, List.nil_append]; rfl) ?_
    repeat (go_big_quiet_step (fail))
    refine wpQuiet_nil ?_
    refine wpS_nil ?_
    refine then_normal ?_
    refine wp_seq ?_
    refine wp_block ?_
    refine wp_seq ?_
    refine wp_region_N [(0, 1), (1, 1), (2, 1)] (by kernel_rfl) ?_
    refine wpS_this [0, 1, 2] rfl (by kernel_rfl) (by simp only [pickL, nthL, List.cons_append, List.nil_append]; rfl) ?_
    repeat (go_big_quiet_step (fail))
    refine wpQuiet_nil ?_
    refine wpS_nil ?_
    refine then_normal ?_
    refine wp_cond_false rfl ?_
    refine wp_seq ?_
    refine wp_region_N [(0, 1), (1, 1), (2, 1), (3, 1), (4, 1), (5, 1), (6, 1)] (by kernel_rfl) ?_
    refine wpS_this [0, 1, 2, 3, 4, 5, 6] rfl (by kernel_rfl) (by simp only [pickL, nthL, List.cons_append, List.nil_append]; rfl) ?_
    repeat (go_big_quiet_step (fail))
    refine wpQuiet_nil ?_
    refine wpS_nil ?_
    refine then_normal ?_
    refine wp_cond_false rfl ?_
    refine wp_seq ?_
    refine wp_region_N [(0, 1), (1, 1), (2, 1), (3, 1), (4, 1), (5, 1), (6, 1)] (by kernel_rfl) ?_
    refine wpS_this [0, 1, 2, 3, 4, 5, 6] rfl (by kernel_rfl) (by simp only [pickL, nthL, List.cons_append, List.nil_append]; rfl) ?_
    repeat (go_big_quiet_step (fail))
    refine wpQuiet_nil ?_
    refine wpS_nil ?_
    refine then_normal ?_
    refine wp_cond_false rfl ?_
    refine wp_skip ?_
    refine block_normal ?_
    refine then_normal ?_
    refine wp_seq ?_
    have HSelf : (handleD (newD 0 4) ((⟨3, fr, 0, seq, ab, ab, msgMid, none, 0, 0⟩ : InM).mm [])).1.self = 0 := (up_handleD (newD 0 4) ((⟨3, fr, 0, seq, ab, ab, msgMid, none, 0, 0⟩ : InM).mm [])).self
    have HOK := Lib.hid (lok_handle (s := newD 0 4) (m := (⟨3, fr, 0, seq, ab, ab, msgMid, none, 0, 0⟩ : InM)) (l := []) (lok_new (by decide) (by decide)))
    have HY : Hid ((handleD (handleD (newD 0 4) ((⟨3, fr, 0, seq, ab, ab, msgMid, none, 0, 0⟩ : InM).mm [])).1 ((⟨3, fr, 1, 0, 0, 0, msgMid, none, 0, 0⟩ : InM).mm [])).2 = []) := Lib.hid (by unfold handleD; rw [if_pos (.inl (by show ¬ (1 : Int) = (handleD (newD 0 4) ((⟨3, fr, 0, seq, ab, ab, msgMid, none, 0, 0⟩ : InM).mm [])).1.self; rw [HSelf]; decide))])
    clear HSelf
    refine wp_region_N [(0, 1), (1, 1), (2, 1), (3, 1), (4, 1), (5, 1), (6, 1), (7, 1), (8, 3), (9, 1), (10, 1), (11, 1), (12, 1), (13, 3), (14, 1), (15, 1)] (by kernel_rfl) ?_
    refine wpS_this [0, 1, 2, 3, 4, 5, 6] rfl (by kernel_rfl) (by simp only [pickL, nthL, List.cons_append, List.nil_append]; rfl) ?_
    repeat (go_big_quiet_step (fail))
    refine wpQuiet_nil ?_
    refine wpS_read (i := 7) (d := some 173) (v := .agg (InM.enc ⟨3, fr, 1, 0, 0, 0, msgMid, none, 0, 0⟩).toArray) rfl (by rfl) (by kernel_rfl) rfl ?_
    simp only [Act.put, List.setIfInBounds_toArray, List.set_cons_succ, List.set_cons_zero]
    refine wpS_doesU2 (i := 8) (d := some 174) (rem := [_]) rfl (by rfl) rfl Try.call10 (handle_d bk.d (handleD (newD 0 4) ((⟨3, fr, 0, seq, ab, ab, msgMid, none, 0, 0⟩ : InM).mm [])).1 bk.pv bk.pq bk.po bk.pc (rowT elemCl (.slice none 0 0) []) (⟨3, fr, 1, 0, 0, 0, msgMid, none, 0, 0⟩ : InM) [] (fun W H h => rowAt_src (rowT_reads W H h)) (by decide) msgMid_len HOK.out) rfl rfl HM54.out [0, 0, 0, 0, 0, 0] rfl covS_nil (fun _ => rfl) rfl ?_
    rintro u57 W56 hm55 -
    rw [HY.out] at hm55
    obtain ⟨zp, zc, hm55u, hm55m⟩ := msgs_open0 hm55
    clear hm55
    subst hm55u
    have HM58 := Lib.hid hm55m
    clear hm55m
    simp only [Act.put, List.setIfInBounds_toArray, List.set_cons_succ, List.set_cons_zero]
    refine wpS_this [9, 10, 11, 12] rfl (by kernel_rfl) (by simp only [pickL, nthL, List.cons_append, List.nil_append]; rfl) ?_
    repeat (go_big_quiet_step (fail))
    refine wpQuiet_nil ?_
    refine wpS_does0 (i := 13) (d := some 179) (rem := [_, _, _, _, _, _, _]) (out := [_, _, _, _, _, _, _]) rfl (by rfl) rfl Try.call18 (awake_d)  HM58.out [] rfl covS_nil rfl rfl ?_
    rintro W60 hm59 -
    have HM61 := Lib.hid hm59
    clear hm59
    simp only [Act.put, List.setIfInBounds_toArray, List.set_cons_succ, List.set_cons_zero]
    refine wpS_this [14, 15] rfl (by kernel_rfl) (by simp only [pickL, nthL, List.cons_append, List.nil_append]; rfl) ?_
    repeat (go_big_quiet_step (fail))
    refine wpQuiet_nil ?_
    refine wpS_nil ?_
    refine then_normal ?_
    refine wp_ret ?_
    refine bodyPost_ret (results_tmp rfl _ _ _) rfl ?_
    exact does_ret (Mem.only (M := []) HM61.out [] rfl) rfl rfl
  · have HP := handleD_pass (s := newD 0 4) (m := (⟨3, fr, 0, seq, ab, ab, msgMid, none, 0, 0⟩ : InM)) (l := []) rfl (by simp [nodeB]; omega) (show ¬ fr = 0 by omega)
    have HX : Hid ((handleD (newD 0 4) ((⟨3, fr, 0, seq, ab, ab, msgMid, none, 0, 0⟩ : InM).mm [])).2 = [⟨1, 0, ab, seq, fr, 0, claimsTo (fromD (newD 0 4) fr) ab⟩]) := Lib.hid (by rw [HP]; unfold handL; rw [if_neg (show ¬ (3 : Int) = 1 by decide), if_neg (show ¬ (3 : Int) = 2 by decide), if_pos rfl]; unfold pingReqD; rw [if_pos ⟨by simp [nodeB]; omega, by show ab ≠ (fromD (newD 0 4) fr).self; rw [from_self]; exact hz⟩]; show (postD (fromD (newD 0 4) fr) 1 ab seq fr 0).2 = _; rw [postD_out (from_left (new_left 0 4) fr)]; show [(⟨1, (fromD (newD 0 4) fr).self, ab, seq, fr, 0, claimsTo (fromD (newD 0 4) fr) ab⟩ : MM)] = _; rw [from_self]; rfl)
    clear HP
    have gz : (ab != 0) = true := by rw [bne_iff_ne]; exact hz
    clear hz
    refine wp_region_N [(0, 3), (1, 1)] (by kernel_rfl) ?_
    refine wpS_doesU2 (i := 0) (d := some 29) (rem := [_, _]) rfl (by rfl) rfl Try.call21 (new_d 0 4 (by decide) (by decide)) rfl rfl HM6.out [] rfl covS_nil (fun _ => rfl) rfl ?_
    rintro u64 W63 hm62 -
    obtain ⟨bk, hm62e⟩ := Mem.ex hm62
    clear hm62
    obtain ⟨hm62u, hm62⟩ := Mem.pr hm62e
    clear hm62e
    subst hm62u
    have HM65 := Lib.hid hm62
    clear hm62
    simp only [Act.put, List.setIfInBounds_toArray, List.set_cons_succ, List.set_cons_zero]
    refine wpS_this [1] rfl (by kernel_rfl) (by simp only [pickL, nthL, List.cons_append, List.nil_append]; rfl) ?_
    repeat (go_big_quiet_step (fail))
    refine wpQuiet_nil ?_
    refine wpS_nil ?_
    refine then_normal ?_
    refine wp_seq ?_
    refine wp_region_N [(0, 1), (1, 1), (2, 1), (3, 1), (4, 1), (5, 1), (6, 1), (7, 3), (8, 1)] (by kernel_rfl) ?_
    refine wpS_this [0, 1, 2, 3, 4, 5] rfl (by kernel_rfl) (by simp only [pickL, nthL, List.cons_append, List.nil_append]; rfl) ?_
    repeat (go_big_quiet_step (fail))
    refine wpQuiet_nil ?_
    refine wpS_read (i := 6) (d := some 36) (v := .agg (InM.enc ⟨3, fr, 0, seq, ab, ab, msgMid, none, 0, 0⟩).toArray) rfl (by rfl) (by kernel_rfl) rfl ?_
    simp only [Act.put, List.setIfInBounds_toArray, List.set_cons_succ, List.set_cons_zero]
    refine wpS_doesU2 (i := 7) (d := some 37) (rem := [_]) rfl (by rfl) rfl Try.call10 (handle_d bk.d (newD 0 4) bk.pv bk.pq bk.po bk.pc (rowT elemCl (.slice none 0 0) []) (⟨3, fr, 0, seq, ab, ab, msgMid, none, 0, 0⟩ : InM) [] (fun W H h => rowAt_src (rowT_reads W H h)) (by decide) msgMid_len (lok_new (by decide) (by decide))) rfl rfl HM65.out [6, 0, 0, 0, 0, 0] rfl covS_nil (fun _ => rfl) rfl ?_
    rintro u68 W67 hm66 -
    rw [HX.out] at hm66
    obtain ⟨mb, mo, mc, mp, mcap, hm66u, hm66m⟩ := msgs_open1 hm66
    clear hm66
    subst hm66u
    have HM69 := Lib.hid hm66m
    clear hm66m
    simp only [Act.put, List.setIfInBounds_toArray, List.set_cons_succ, List.set_cons_zero]
    refine wpS_this [8] rfl (by kernel_rfl) (by simp only [pickL, nthL, List.cons_append, List.nil_append]; rfl) ?_
    repeat (go_big_quiet_step (fail))
    refine wpQuiet_nil ?_
    refine wpS_nil ?_
    refine then_normal ?_
    refine wp_seq ?_
    refine wp_block ?_
    refine wp_seq ?_
    refine wp_region_N [(0, 1), (1, 1), (2, 1)] (by kernel_rfl) ?_
    refine wpS_this [0, 1, 2] rfl (by kernel_rfl) (by simp only [pickL, nthL, List.cons_append, List.nil_append]; rfl) ?_
    repeat (go_big_quiet_step (fail))
    refine wpQuiet_nil ?_
    refine wpS_nil ?_
    refine then_normal ?_
    refine wp_cond_false rfl ?_
    refine wp_seq ?_
    refine wp_region_N [(0, 1), (1, 1), (2, 1), (3, 1), (4, 1), (5, 1), (6, 1)] (by kernel_rfl) ?_
    refine wpS_this [0, 1, 2, 3, 4, 5, 6] rfl (by kernel_rfl) (by simp only [pickL, nthL, List.cons_append, List.nil_append]; rfl) ?_
    repeat (go_big_quiet_step (fail))
    refine wpQuiet_nil ?_
    refine wpS_nil ?_
    refine then_normal ?_
    refine wp_cond_false rfl ?_
    refine wp_seq ?_
    refine wp_region_N [(0, 1), (1, 1), (2, 1), (3, 1), (4, 1), (5, 1), (6, 1)] (by kernel_rfl) ?_
    refine wpS_this [0, 1, 2, 3, 4, 5, 6] rfl (by kernel_rfl) (by simp only [pickL, nthL, List.cons_append, List.nil_append]; rfl) ?_
    repeat (go_big_quiet_step (fail))
    refine wpQuiet_nil ?_
    refine wpS_nil ?_
    refine then_normal ?_
    refine wp_cond_true rfl ?_
    refine wp_seq ?_
    refine wp_region_N [(0, 1), (1, 1), (2, 1), (3, 1), (4, 1), (5, 1), (6, 1), (7, 1), (8, 1), (9, 1), (10, 1), (11, 1), (12, 1), (13, 1), (14, 1), (15, 1), (16, 1), (17, 1), (18, 1), (19, 1), (20, 1), (21, 1), (22, 1), (23, 1), (24, 1), (25, 1), (26, 1), (27, 1), (28, 1), (29, 1), (30, 1), (31, 1), (32, 1), (33, 1), (34, 1), (35, 3), (36, 1), (37, 1)] (by kernel_rfl) ?_
    have c0 : World.cell? _ ⟨mb, mo, none⟩ = some (.int .i64 1) := row_cell0 HM69.out 0 rfl rfl 0 _ rfl
    have c2 : World.cell? _ ⟨mb, mo + 2, none⟩ = some (.int .i64 ab) := row_cell0 HM69.out 0 rfl rfl 2 _ rfl
    have c3 : World.cell? _ ⟨mb, mo + 3, none⟩ = some (.int .i64 seq) := row_cell0 HM69.out 0 rfl rfl 3 _ rfl
    have c4 : World.cell? _ ⟨mb, mo + 4, none⟩ = some (.int .i64 fr) := row_cell0 HM69.out 0 rfl rfl 4 _ rfl
    refine wpS_this [0, 1, 2, 3, 4, 5, 6, 7, 8, 9, 10, 11, 12, 13, 14, 15, 16, 17, 18, 19, 20, 21, 22, 23, 24, 25, 26, 27, 28, 29, 30, 31, 32, 33, 34] rfl (by kernel_rfl) (by simp only [pickL, nthL, List.cons_append, List.nil_append]; rfl) ?_
    repeat (go_big_quiet_step (fail))
    refine wpQuiet_nil ?_
    refine wpS_does0 (i := 35) (d := some 164) (rem := [_, _, _, _, _, _, _, _, _]) (out := [_, _, _, _, _, _, _, _, _]) rfl (by rfl) rfl Try.call18 (awake_d)  HM69.out [] rfl covS_nil rfl rfl ?_
    rintro W71 hm70 -
    have HM72 := Lib.hid hm70
    clear hm70
    simp only [Act.put, List.setIfInBounds_toArray, List.set_cons_succ, List.set_cons_zero]
    refine wpS_this [36, 37] rfl (by kernel_rfl) (by simp only [pickL, nthL, List.cons_append, List.nil_append]; rfl) ?_
    repeat (go_big_quiet_step (fail))
    refine wpQuiet_nil ?_
    refine wpS_nil ?_
    refine then_normal ?_
    refine wp_ret ?_
    refine block_ret (then_ret ?_)
    refine bodyPost_ret (results_tmp rfl _ _ _) rfl ?_
    exact does_ret (Mem.only (M := []) HM72.out [] rfl) rfl rfl

theorem answersLaw (frm about seq ton kind : Int) (W : World) : Gives Try.prog 6 #[.int .i64 frm, .int .i64 about, .int .i64 seq, .int .i64 ton, .int .i64 kind] W (.bool true) := (answers_d frm about seq ton kind).gives W
end Go.Proofs.Ytjbihgfdgaiecaa

/- SwimLeaves: its walk. -/
namespace Go.Proofs.Ytjbihgfdgaiecaa
open Go Go.RowKit Go.BigFrame

def oldT (W : World) : At := ⟨OldA W, oldA_owns W⟩
theorem refNode_d (n : Int) : Does Try.prog 20 #[.int .i64 n] [] (.bool (nodeB n)) [] := Does.of_any fun W => refNode_any n W
structure LeftS (s : DS) (k : Nat) : Prop where
  left : s.left = true
  self : s.self = 2
  ok : LOk s
  mine : Mine s
  now : s.now ≤ (k : Int)
theorem leave_left {s : DS} (h : s.left = true) : (leaveD s).1 = s := by unfold leaveD; rw [if_pos h]
theorem left_first : LeftS (leaveD (newD 2 1)).1 0 := ⟨leaveD_left _, rfl, ⟨show 0 ≤ (2 : Int) ∧ (2 : Int) < 8 by decide, show 0 ≤ (1 : Int) ∧ (1 : Int) ≤ 1000000 by decide, show 0 ≤ (0 : Int) ∧ (0 : Int) ≤ 100000 by decide, show 0 ≤ (0 : Int) ∧ (0 : Int) ≤ 1000000 by decide, show -1 ≤ (-1 : Int) ∧ (-1 : Int) < 8 by decide⟩, mine_leaveD (mine_newD (by decide) (by decide)), by show (0 : Int) ≤ ((0 : Nat) : Int); decide⟩
theorem lok_hearCall {s : DS} (h : LOk s) (c : Cl) : LOk (hearCall s c).1 := by
  unfold hearCall
  split
  · exact h
  · exact lok_hear h c
theorem LeftS.hear {s : DS} {k : Nat} (h : LeftS s k) (c : Cl) : LeftS (hearCall s c).1 (k + 1) := ⟨(up_hearCall s c).left.trans h.left, (up_hearCall s c).self.trans h.self, lok_hearCall h.ok c, mine_hearCall h.mine c, by rw [(up_hearCall s c).now]; have := h.now; omega⟩
theorem LeftS.leave {s : DS} {k : Nat} (h : LeftS s k) : LeftS s (k + 1) := ⟨h.left, h.self, h.ok, h.mine, by have := h.now; omega⟩
theorem LeftS.handle {s : DS} {k : Nat} (h : LeftS s k) (m : InM) (l : List Cl) : LeftS (handleD s (m.mm l)).1 (k + 1) := ⟨(up_handleD s _).left.trans h.left, (up_handleD s _).self.trans h.self, lok_handle h.ok, mine_handleD h.mine _, by rw [(up_handleD s _).now]; have := h.now; omega⟩
theorem LeftS.tick {s : DS} {k : Nat} (h : LeftS s k) (hk : k < 80) : LeftS { s with now := s.now + 1 } (k + 1) := by
  have h1 := mine_tickD h.mine [] 0
  rw [tickD_left _ _ h.left] at h1
  exact ⟨h.left, h.self, ⟨h.ok.self, h.ok.inc, ⟨by have := h.ok.now; show 0 ≤ s.now + 1; omega, by have := h.now; show s.now + 1 ≤ 100000; omega⟩, h.ok.seq, h.ok.asked⟩, h1, by have := h.now; show s.now + 1 ≤ _; omega⟩
theorem LeftS.gone {s : DS} {k : Nat} (h : LeftS s k) : ∃ i, ofV s.V 2 = ⟨2, i, 4⟩ := by
  have h1 := gone_of h.mine h.left
  rw [h.self, ofV_node (by decide)] at h1
  rw [ofV_node (by decide)]
  exact ⟨_, by rw [← h1]⟩
theorem row_len {P : Program} {α : Type} {E : Elem P α} {W : World} {p : Option Addr} {n c : Nat} {l : List α} (h : RowAt E W (.slice p n c) l) : l.length = n := by
  obtain ⟨p', c', he, _⟩ := h.form
  simp only [Value.slice.injEq] at he
  exact he.2.1.symm
theorem light_at {cs : List CallV} (h : lightB cs = true) {k : Nat} {y : CallV} (hy : cs[k]? = some y) : fitsC k y := by
  unfold lightB at h
  exact @of_decide_eq_true _ (Classical.propDecidable _) h k y hy
theorem other_gone : ofV (hearCall (hearCall (newD 0 1) ⟨2, 1, 4⟩).1 ⟨2, 9, 1⟩).1.V 2 = ⟨2, 1, 4⟩ := by kernel_rfl
set_option maxHeartbeats 4000000 in
set_option maxRecDepth 100000 in
theorem leaves_d (W0 : World) (v : Value) (cs : List CallV) (hv : RowAt elemCall W0 v cs) (hq : ∀ y ∈ cs, CallQ W0 y) : Does Try.prog 8 #[v] [oldT W0] (.bool true) [oldT W0] := by
  intro w H hp
  have HM0 := Lib.hid (mem_refl hp)
  clear hp
  obtain ⟨p, cap, rfl, -⟩ := hv.form
  go_enter Try.func8, Try.ntmps8
  refine wp_seq ?_
  refine wp_region_N [(0, 1)] (by kernel_rfl) ?_
  refine wpS_this [0] rfl (by kernel_rfl) (by simp only [pickL, nthL, List.cons_append, List.nil_append]; rfl) ?_
  repeat (go_big_quiet_step (fail))
  refine wpQuiet_nil ?_
  refine wpS_nil ?_
  refine then_normal ?_
  refine wp_seq ?_
  refine wp_seq ?_
  cases hlb : lightB cs
  · skip
    refine wp_region_N [(0, 1), (1, 3), (2, 1)] (by kernel_rfl) ?_
    refine wpS_this [0] rfl (by kernel_rfl) (by simp only [pickL, nthL, List.cons_append, List.nil_append]; rfl) ?_
    repeat (go_big_quiet_step (fail))
    refine wpQuiet_nil ?_
    refine wpS_does1 (i := 1) (d := some 10) (rem := []) (out := [_]) rfl (by rfl) rfl Try.call19 (light_d (oldT W0) (.slice p cs.length cap) cs (fun W H h => OldA.row h hv)) rfl HM0.out [0] rfl covS_nil rfl rfl ?_
    rintro W2 hm1 -
    rw [hlb]
    have HM3 := Lib.hid hm1
    clear hm1
    simp only [Act.put, List.setIfInBounds_toArray, List.set_cons_succ, List.set_cons_zero]
    refine wpS_this [2] rfl (by kernel_rfl) (by simp only [pickL, nthL, List.cons_append, List.nil_append]; rfl) ?_
    repeat (go_big_quiet_step (fail))
    refine wpQuiet_nil ?_
    refine wpS_nil ?_
    refine then_normal ?_
    refine wp_cond_true rfl ?_
    refine wp_seq ?_
    refine wp_region_N [(0, 3), (1, 1)] (by kernel_rfl) ?_
    refine wpS_does0 (i := 0) (d := some 12) (rem := [_]) (out := [_]) rfl (by rfl) rfl Try.call18 (awake_d)  HM3.out [] rfl covS_nil rfl rfl ?_
    rintro W5 hm4 -
    have HM6 := Lib.hid hm4
    clear hm4
    simp only [Act.put, List.setIfInBounds_toArray, List.set_cons_succ, List.set_cons_zero]
    refine wpS_this [1] rfl (by kernel_rfl) (by simp only [pickL, nthL, List.cons_append, List.nil_append]; rfl) ?_
    repeat (go_big_quiet_step (fail))
    refine wpQuiet_nil ?_
    refine wpS_nil ?_
    refine then_normal ?_
    refine wp_ret ?_
    refine then_ret ?_
    refine bodyPost_ret (results_tmp rfl _ _ _) rfl ?_
    exact does_ret (Mem.only (M := [_]) HM6.out [0] rfl) rfl rfl
  · skip
    refine wp_region_N [(0, 1), (1, 3), (2, 1)] (by kernel_rfl) ?_
    refine wpS_this [0] rfl (by kernel_rfl) (by simp only [pickL, nthL, List.cons_append, List.nil_append]; rfl) ?_
    repeat (go_big_quiet_step (fail))
    refine wpQuiet_nil ?_
    refine wpS_does1 (i := 1) (d := some 10) (rem := []) (out := [_]) rfl (by rfl) rfl Try.call19 (light_d (oldT W0) (.slice p cs.length cap) cs (fun W H h => OldA.row h hv)) rfl HM0.out [0] rfl covS_nil rfl rfl ?_
    rintro W8 hm7 -
    rw [hlb]
    have HM9 := Lib.hid hm7
    clear hm7
    simp only [Act.put, List.setIfInBounds_toArray, List.set_cons_succ, List.set_cons_zero]
    refine wpS_this [2] rfl (by kernel_rfl) (by simp only [pickL, nthL, List.cons_append, List.nil_append]; rfl) ?_
    repeat (go_big_quiet_step (fail))
    refine wpQuiet_nil ?_
    refine wpS_nil ?_
    refine then_normal ?_
    refine wp_cond_false rfl ?_
    refine wp_skip ?_
    refine then_normal ?_
    refine wp_seq ?_
    refine wp_region_N [(0, 3), (1, 1)] (by kernel_rfl) ?_
    refine wpS_doesU2 (i := 0) (d := some 13) (rem := [_]) rfl (by rfl) rfl Try.call21 (new_d 2 1 (by decide) (by decide)) rfl rfl HM9.out [] rfl covS_nil (fun _ => rfl) rfl ?_
    rintro u12 W11 hm10 -
    obtain ⟨bk, hm10e⟩ := Mem.ex hm10
    clear hm10
    obtain ⟨hm10u, hm10⟩ := Mem.pr hm10e
    clear hm10e
    subst hm10u
    have HM13 := Lib.hid hm10
    clear hm10
    simp only [Act.put, List.setIfInBounds_toArray, List.set_cons_succ, List.set_cons_zero]
    refine wpS_this [1] rfl (by kernel_rfl) (by simp only [pickL, nthL, List.cons_append, List.nil_append]; rfl) ?_
    repeat (go_big_quiet_step (fail))
    refine wpQuiet_nil ?_
    refine wpS_nil ?_
    refine then_normal ?_
    refine wp_seq ?_
    refine wp_region_N [(0, 1), (1, 3), (2, 3), (3, 3)] (by kernel_rfl) ?_
    refine wpS_this [0] rfl (by kernel_rfl) (by simp only [pickL, nthL, List.cons_append, List.nil_append]; rfl) ?_
    repeat (go_big_quiet_step (fail))
    refine wpQuiet_nil ?_
    refine wpS_does1 (i := 1) (d := some 15) (rem := [_]) (out := [_, _, _, _, _, _]) rfl (by rfl) rfl Try.call12 (leave_d bk.d (newD 2 1) bk.pv bk.pq bk.po bk.pc) rfl HM13.out [0, 0, 0, 0, 0] rfl covS_nil rfl rfl ?_
    rintro W15 hm14 -
    rw [show cl3 (newD 2 1).self (newD 2 1).inc 4 = .agg #[.int .i64 2, .int .i64 1, .int .i64 4] from rfl]
    have HM16 := Lib.hid hm14
    clear hm14
    simp only [Act.put, List.setIfInBounds_toArray, List.set_cons_succ, List.set_cons_zero]
    refine wpS_alloc (i := 2) (dd := 4) (z := .agg #[.int .i64 0, .int .i64 0, .int .i64 0]) (cs := #[.int .i64 0, .int .i64 0, .int .i64 0]) rfl (by rfl) rfl (by kernel_rfl) rfl HM16.out covS_nil rfl ?_
    rintro b19 W18 hm17 -
    have HM20 := Lib.hid hm17
    clear hm17
    simp only [Act.put, List.setIfInBounds_toArray, List.set_cons_succ, List.set_cons_zero]
    refine wpS_storeA (i := 3) (L2 := [_, _, _, _, _, _]) (cs' := [_, _, _]) rfl (by rfl) rfl rfl rfl (by kernel_rfl) (by rfl) HM20.out 0 rfl rfl rfl rfl covS_nil rfl ?_
    rintro W22 hm21 -
    have HM23 := Lib.hid hm21
    clear hm21
    refine wpS_nil ?_
    refine then_normal ?_
    refine wp_seq ?_
    refine wp_region_N [(0, 1), (1, 3), (2, 1)] (by kernel_rfl) ?_
    refine wpS_this [0] rfl (by kernel_rfl) (by simp only [pickL, nthL, List.cons_append, List.nil_append]; rfl) ?_
    repeat (go_big_quiet_step (fail))
    refine wpQuiet_nil ?_
    refine wpS_does1 (i := 1) (d := some 17) (rem := [_, _, _, _, _, _]) (out := [_, _, _, _, _, _, _]) rfl (by rfl) rfl Try.call16 (now_d bk.d (leaveD (newD 2 1)).1 bk.pv bk.pq bk.po bk.pc) rfl HM23.out [1] rfl covS_nil rfl rfl ?_
    rintro W25 hm24 -
    have HM26 := Lib.hid hm24
    clear hm24
    simp only [Act.put, List.setIfInBounds_toArray, List.set_cons_succ, List.set_cons_zero]
    refine wpS_this [2] rfl (by kernel_rfl) (by simp only [pickL, nthL, List.cons_append, List.nil_append]; rfl) ?_
    repeat (go_big_quiet_step (fail))
    refine wpQuiet_nil ?_
    refine wpS_nil ?_
    refine then_normal ?_
    refine wp_seq ?_
    refine wp_seq ?_
    refine wp_region_N [(0, 1), (1, 1), (2, 1)] (by kernel_rfl) ?_
    refine wpS_this [0, 1, 2] rfl (by kernel_rfl) (by simp only [pickL, nthL, List.cons_append, List.nil_append]; rfl) ?_
    repeat (go_big_quiet_step (fail))
    refine wpQuiet_nil ?_
    refine wpS_nil ?_
    refine then_normal ?_
    refine wp_block ?_
    refine wp_loop_F [2, 5, 7, 20, 21, 22, 23, 24, 25, 26, 27, 28, 29, 30, 31, 32, 33, 34, 35, 36, 37, 38, 39, 40, 41, 42, 43, 44, 45, 46, 47, 48, 49, 50, 51, 52, 53, 54, 55, 56, 57] (fun n vs W' => ∃ (k : Nat) (s : DS), n = cs.length - k ∧ vs 20 = .int .i64 (k : Int) ∧ vs 5 = .int .i64 s.now ∧ k ≤ cs.length ∧ LeftS s k ∧ Mem (oldT W0 :: boxT b19 (.cells #[.int .i64 2, .int .i64 1, .int .i64 4] 23 (0, 0)) :: LP bk.d s bk.pv bk.pq bk.po bk.pc) H w W') (n0 := cs.length) ?_ ?_
    · exact ⟨0, _, rfl, rfl, rfl, Nat.zero_le _, left_first, (Mem.only (M := [_, _, _, _, _, _, _]) HM26.out [6, 1, 0, 0, 0, 0, 0] rfl)⟩
    rintro n vs W' ⟨k, s, rfl, e20, e5, hk, hs, hm⟩
    simp only [putAll, List.map_cons, List.map_nil, Act.put, List.setIfInBounds_toArray, List.set_cons_succ, List.set_cons_zero]
    rw [e20, e5]
    clear e20 e5
    have HM27 := Lib.hid hm
    clear hm
    refine wp_seq ?_
    refine wp_region_N [(0, 1)] (by kernel_rfl) ?_
    refine wpS_this [0] rfl (by kernel_rfl) (by simp only [pickL, nthL, List.cons_append, List.nil_append]; rfl) ?_
    repeat (go_big_quiet_step (fail))
    refine wpQuiet_nil ?_
    refine wpS_nil ?_
    refine then_normal ?_
    refine wp_seq ?_
    refine wp_cond_split rfl (fun h28 => ?_) (fun h28 => ?_)
    · have hk1 : k + 1 ≤ cs.length := by have : (k : Int) < (cs.length : Int) := (by simpa using h28); omega
      clear h28
      obtain ⟨y, hy⟩ : ∃ y, cs[k]? = some y := ⟨_, List.getElem?_eq_getElem hk1⟩
      have hfit := Lib.hid (light_at hlb hy)
      have hk80 : k < 80 := hfit.out.1
      obtain ⟨⟨ycl, hycl⟩, yps, hyps⟩ := hq y (List.mem_of_getElem? hy)
      have hycl := Lib.hid hycl.1
      have hyps := Lib.hid hyps.1
      refine wp_skip ?_
      refine then_normal ?_
      refine wp_seq ?_
      refine wp_block ?_
      refine wp_seq ?_
      refine wp_region_N [(0, 1), (1, 1), (2, 3), (3, 3)] (by kernel_rfl) ?_
      refine wpS_index (E := elemCall) (i := 0) (d := some 22) rfl (by rfl) rfl rfl rfl (HM27.out.row 0 rfl (fun W H h => OldA.row h hv)) (hy) rfl ?_
      intro eb29 eo30 hc31
      simp only [Act.put, List.setIfInBounds_toArray, List.set_cons_succ, List.set_cons_zero]
      refine wpS_loadA (i := 1) (d := some 23) (cells := y.enc) rfl (by rfl) rfl rfl hc31 Try.underlying42 rfl (by rw [CallV.len]; kernel_rfl) rfl ?_
      simp only [Act.put, List.setIfInBounds_toArray, List.set_cons_succ, List.set_cons_zero]
      refine wpS_alloc (i := 2) (dd := 7) (z := .agg #[.int .i64 0, .int .i64 0, .int .i64 0, .int .i64 0, .int .i64 0, .int .i64 0, .int .i64 0, .int .i64 0, .int .i64 0, .int .i64 0, .int .i64 0, .int .i64 0, .string ByteArray.empty, .int .i64 0, .int .i64 0, .int .i64 0, .int .i64 0, .int .i64 0, .int .i64 0, .int .i64 0, .int .i64 0, .slice none 0 0, .int .i64 0, .int .i64 0, .int .i64 0, .int .i64 0, .int .i64 0, .int .i64 0, .int .i64 0, .int .i64 0, .int .i64 0, .int .i64 0, .slice none 0 0, .int .i64 0, .int .i64 0, .int .i64 0, .int .i64 0, .int .i64 0, .int .i64 0, .int .i64 0, .int .i64 0, .int .i64 0, .int .i64 0, .int .i64 0, .int .i64 0, .int .i64 0, .int .i64 0, .int .i64 0, .int .i64 0, .int .i64 0, .int .i64 0, .int .i64 0, .int .i64 0, .int .i64 0, .int .i64 0, .int .i64 0, .int .i64 0, .int .i64 0, .int .i64 0, .int .i64 0, .int .i64 0, .int .i64 0, .int .i64 0, .int .i64 0, .int .i64 0, .slice none 0 0, .slice none 0 0, .int .u64 0]) (cs := #[.int .i64 0, .int .i64 0, .int .i64 0, .int .i64 0, .int .i64 0, .int .i64 0, .int .i64 0, .int .i64 0, .int .i64 0, .int .i64 0, .int .i64 0, .int .i64 0, .string ByteArray.empty, .int .i64 0, .int .i64 0, .int .i64 0, .int .i64 0, .int .i64 0, .int .i64 0, .int .i64 0, .int .i64 0, .slice none 0 0, .int .i64 0, .int .i64 0, .int .i64 0, .int .i64 0, .int .i64 0, .int .i64 0, .int .i64 0, .int .i64 0, .int .i64 0, .int .i64 0, .slice none 0 0, .int .i64 0, .int .i64 0, .int .i64 0, .int .i64 0, .int .i64 0, .int .i64 0, .int .i64 0, .int .i64 0, .int .i64 0, .int .i64 0, .int .i64 0, .int .i64 0, .int .i64 0, .int .i64 0, .int .i64 0, .int .i64 0, .int .i64 0, .int .i64 0, .int .i64 0, .int .i64 0, .int .i64 0, .int .i64 0, .int .i64 0, .int .i64 0, .int .i64 0, .int .i64 0, .int .i64 0, .int .i64 0, .int .i64 0, .int .i64 0, .int .i64 0, .int .i64 0, .slice none 0 0, .slice none 0 0, .int .u64 0]) rfl (by rfl) rfl (by kernel_rfl) rfl HM27.out covS_nil rfl ?_
      rintro b34 W33 hm32 -
      have HM35 := Lib.hid hm32
      clear hm32
      simp only [Act.put, List.setIfInBounds_toArray, List.set_cons_succ, List.set_cons_zero]
      refine wpS_storeW (i := 3) (vs := y.enc) (L2 := [_, _, _, _, _, _, _]) rfl (by rfl) rfl rfl rfl (by kernel_rfl) (by rw [CallV.len]; rfl) (fun u hu => elemCall.one y u hu) HM35.out 0 rfl rfl covS_nil rfl ?_
      rintro W37 hm36 -
      have HM38 := Lib.hid hm36
      clear hm36
      refine wpS_nil ?_
      refine then_normal ?_
      refine wp_seq ?_
      refine wp_region_N [(0, 1), (1, 1)] (by kernel_rfl) ?_
      refine wpS_this [0] rfl (by kernel_rfl) (by simp only [pickL, nthL, List.cons_append, List.nil_append]; rfl) ?_
      repeat (go_big_quiet_step (fail))
      refine wpQuiet_nil ?_
      refine wpS_load1 (i := 1) (d := some 25) (u := .int .i64 y.o) rfl (by rfl) rfl rfl (HM38.out.cellL 0 rfl 0) Try.underlying3 rfl rfl ?_
      simp only [Act.put, List.setIfInBounds_toArray, List.set_cons_succ, List.set_cons_zero]
      refine wpS_nil ?_
      refine then_normal ?_
      refine wp_block ?_
      refine wp_seq ?_
      refine wp_region_N [(0, 1), (1, 1)] (by kernel_rfl) ?_
      refine wpS_this [0, 1] rfl (by kernel_rfl) (by simp only [pickL, nthL, List.cons_append, List.nil_append]; rfl) ?_
      repeat (go_big_quiet_step (fail))
      refine wpQuiet_nil ?_
      refine wpS_nil ?_
      refine then_normal ?_
      refine wp_cond_split rfl (fun h39 => ?_) (fun h39 => ?_)
      · clear h39
        refine wp_region_N [(0, 1), (1, 1), (2, 1), (3, 3)] (by kernel_rfl) ?_
        refine wpS_this [0, 1] rfl (by kernel_rfl) (by simp only [pickL, nthL, List.cons_append, List.nil_append]; rfl) ?_
        repeat (go_big_quiet_step (fail))
        refine wpQuiet_nil ?_
        refine wpS_loadA (i := 2) (d := some 40) (cells := [.int .i64 y.n, .int .i64 y.i, .int .i64 y.h]) rfl (by rfl) rfl rfl (fun k u hu => ((HM38.out.cellL 0 rfl (1 + k)).trans (y.at_c k u hu))) Try.underlying23 rfl (by kernel_rfl) rfl ?_
        simp only [Act.put, List.setIfInBounds_toArray, List.set_cons_succ, List.set_cons_zero]
        refine wpS_does2 (i := 3) (d := some 41) (rem := [_, _, _]) (out := [_, _, _, _, _, _, _, _]) rfl (by rfl) rfl Try.call11 (hearCall_d bk.d s bk.pv bk.pq bk.po bk.pc y.n y.i y.h hs.ok) rfl rfl HM38.out [3, 3, 3, 3, 3] rfl covS_nil rfl rfl ?_
        rintro W41 hm40 -
        have HM42 := Lib.hid hm40
        clear hm40
        simp only [Act.put, List.setIfInBounds_toArray, List.set_cons_succ, List.set_cons_zero]
        refine wpS_nil ?_
        refine block_normal ?_
        refine block_normal ?_
        refine then_normal ?_
        refine wp_region_N [(0, 1), (1, 1)] (by kernel_rfl) ?_
        refine wpS_this [0, 1] rfl (by kernel_rfl) (by simp only [pickL, nthL, List.cons_append, List.nil_append]; rfl) ?_
        repeat (go_big_quiet_step (fail))
        refine wpQuiet_nil ?_
        refine wpS_nil ?_
        refine then_normal ?_
        refine ⟨by kernel_rfl, ?_⟩
        exact ⟨cs.length - (k + 1), by omega, k + 1, (hearCall s ⟨y.n, y.i, y.h⟩).1, rfl, rfl, (congrArg (Value.int .i64) (up_hearCall s _).now.symm), hk1, hs.hear _, (Mem.only (M := [_, _, _, _, _, _, _]) HM42.out [6, 6, 0, 0, 0, 0, 0] rfl)⟩
      · clear h39
        refine wp_seq ?_
        refine wp_region_N [(0, 1), (1, 1)] (by kernel_rfl) ?_
        refine wpS_this [0, 1] rfl (by kernel_rfl) (by simp only [pickL, nthL, List.cons_append, List.nil_append]; rfl) ?_
        repeat (go_big_quiet_step (fail))
        refine wpQuiet_nil ?_
        refine wpS_nil ?_
        refine then_normal ?_
        refine wp_cond_split rfl (fun h43 => ?_) (fun h43 => ?_)
        · clear h43
          refine wp_seq ?_
          refine wp_region_N [(0, 1), (1, 3), (2, 1), (3, 1)] (by kernel_rfl) ?_
          refine wpS_this [0] rfl (by kernel_rfl) (by simp only [pickL, nthL, List.cons_append, List.nil_append]; rfl) ?_
          repeat (go_big_quiet_step (fail))
          refine wpQuiet_nil ?_
          refine wpS_does1 (i := 1) (d := some 45) (rem := [_, _, _]) (out := [_, _, _, _, _, _, _, _]) rfl (by rfl) rfl Try.call12 (leave_d bk.d s bk.pv bk.pq bk.po bk.pc) rfl HM38.out [3, 3, 3, 3, 3] rfl covS_nil rfl rfl ?_
          rintro W45 hm44 -
          rw [leave_left hs.left] at hm44
          simp only [cl3]
          have HM46 := Lib.hid hm44
          clear hm44
          simp only [Act.put, List.setIfInBounds_toArray, List.set_cons_succ, List.set_cons_zero]
          refine wpS_read (i := 2) (d := some 46) (v := .int .i64 4) rfl (by rfl) (by rfl) rfl ?_
          simp only [Act.put, List.setIfInBounds_toArray, List.set_cons_succ, List.set_cons_zero]
          refine wpS_this [3] rfl (by kernel_rfl) (by simp only [pickL, nthL, List.cons_append, List.nil_append]; rfl) ?_
          repeat (go_big_quiet_step (fail))
          refine wpQuiet_nil ?_
          refine wpS_nil ?_
          refine then_normal ?_
          refine wp_cond_false rfl ?_
          refine wp_skip ?_
          refine block_normal ?_
          refine block_normal ?_
          refine then_normal ?_
          refine wp_region_N [(0, 1), (1, 1)] (by kernel_rfl) ?_
          refine wpS_this [0, 1] rfl (by kernel_rfl) (by simp only [pickL, nthL, List.cons_append, List.nil_append]; rfl) ?_
          repeat (go_big_quiet_step (fail))
          refine wpQuiet_nil ?_
          refine wpS_nil ?_
          refine then_normal ?_
          refine ⟨by kernel_rfl, ?_⟩
          exact ⟨cs.length - (k + 1), by omega, k + 1, s, rfl, rfl, rfl, hk1, hs.leave, (Mem.only (M := [_, _, _, _, _, _, _]) HM46.out [6, 6, 0, 0, 0, 0, 0] rfl)⟩
        · clear h43
          refine wp_seq ?_
          refine wp_seq ?_
          refine wp_region_N [(0, 1), (1, 1)] (by kernel_rfl) ?_
          refine wpS_this [0, 1] rfl (by kernel_rfl) (by simp only [pickL, nthL, List.cons_append, List.nil_append]; rfl) ?_
          repeat (go_big_quiet_step (fail))
          refine wpQuiet_nil ?_
          refine wpS_nil ?_
          refine then_normal ?_
          refine wp_cond_split rfl (fun h47 => ?_) (fun h47 => ?_)
          · clear h47
            refine wp_skip ?_
            refine then_normal ?_
            refine wp_cond_split rfl (fun h48 => ?_) (fun h48 => ?_)
            · clear h48
              refine wp_seq ?_
              refine wp_region_N [(0, 1), (1, 1), (2, 1), (3, 3), (4, 1), (5, 1)] (by kernel_rfl) ?_
              refine wpS_this [0, 1] rfl (by kernel_rfl) (by simp only [pickL, nthL, List.cons_append, List.nil_append]; rfl) ?_
              repeat (go_big_quiet_step (fail))
              refine wpQuiet_nil ?_
              refine wpS_loadA (i := 2) (d := some 53) (cells := y.m.enc) rfl (by rfl) rfl rfl (fun k u hu => ((HM38.out.cellL 0 rfl (4 + k)).trans (y.at_m k u hu))) Try.underlying39 rfl (by rw [InM.enc_len y.hm]; kernel_rfl) rfl ?_
              simp only [Act.put, List.setIfInBounds_toArray, List.set_cons_succ, List.set_cons_zero]
              refine wpS_doesU2 (i := 3) (d := some 54) (rem := [_, _]) rfl (by rfl) rfl Try.call10 (handle_d bk.d s bk.pv bk.pq bk.po bk.pc (oldT W0) y.m ycl (fun W H h => OldA.row h hycl.out) (by have := row_len hycl.out; have := hfit.out.2.1; omega) y.hm hs.ok) rfl rfl HM38.out [1, 2, 2, 2, 2, 2] rfl covS_nil (fun _ => rfl) rfl ?_
              rintro u51 W50 hm49 -
              rw [handleD_left _ hs.left] at hm49
              obtain ⟨zp, zc, hm49u, hm49m⟩ := msgs_open0 hm49
              clear hm49
              subst hm49u
              have HM52 := Lib.hid hm49m
              clear hm49m
              simp only [Act.put, List.setIfInBounds_toArray, List.set_cons_succ, List.set_cons_zero]
              refine wpS_this [4, 5] rfl (by kernel_rfl) (by simp only [pickL, nthL, List.cons_append, List.nil_append]; rfl) ?_
              repeat (go_big_quiet_step (fail))
              refine wpQuiet_nil ?_
              refine wpS_nil ?_
              refine then_normal ?_
              refine wp_cond_false rfl ?_
              refine wp_skip ?_
              refine block_normal ?_
              refine block_normal ?_
              refine then_normal ?_
              refine wp_region_N [(0, 1), (1, 1)] (by kernel_rfl) ?_
              refine wpS_this [0, 1] rfl (by kernel_rfl) (by simp only [pickL, nthL, List.cons_append, List.nil_append]; rfl) ?_
              repeat (go_big_quiet_step (fail))
              refine wpQuiet_nil ?_
              refine wpS_nil ?_
              refine then_normal ?_
              refine ⟨by kernel_rfl, ?_⟩
              exact ⟨cs.length - (k + 1), by omega, k + 1, (handleD s (y.m.mm ycl)).1, rfl, rfl, (congrArg (Value.int .i64) (up_handleD s _).now.symm), hk1, hs.handle _ _, (Mem.only (M := [_, _, _, _, _, _, _]) HM52.out [0, 6, 0, 0, 0, 0, 0] rfl)⟩
            · clear h48
              refine wp_seq ?_
              have hnb : 0 ≤ s.now ∧ s.now ≤ 100 := ⟨hs.ok.now.1, by have := hs.now; have := hfit.out.1; omega⟩
              refine wp_region_N [(0, 1), (1, 1), (2, 1)] (by kernel_rfl) ?_
              refine wpS_this [0, 1, 2] rfl (by kernel_rfl) (by simp only [pickL, nthL, List.cons_append, List.nil_append]; rfl) ?_
              repeat (go_big_quiet_step (fail))
              refine wpQuiet_nil ?_
              refine wpS_nil ?_
              refine then_normal ?_
              refine wp_seq ?_
              refine wp_region_N [(0, 1), (1, 1), (2, 1), (3, 1), (4, 1), (5, 3), (6, 1), (7, 1)] (by kernel_rfl) ?_
              refine wpS_this [0, 1] rfl (by kernel_rfl) (by simp only [pickL, nthL, List.cons_append, List.nil_append]; rfl) ?_
              repeat (go_big_quiet_step (fail))
              refine wpQuiet_nil ?_
              refine wpS_load1 (i := 2) (d := some 30) (u := .slice y.pp y.pn y.pc) rfl (by rfl) rfl rfl ((HM38.out.cellL 0 rfl 66).trans y.at_p) Try.underlying29 rfl rfl ?_
              simp only [Act.put, List.setIfInBounds_toArray, List.set_cons_succ, List.set_cons_zero]
              refine wpS_this [3] rfl (by kernel_rfl) (by simp only [pickL, nthL, List.cons_append, List.nil_append]; rfl) ?_
              repeat (go_big_quiet_step (fail))
              refine wpQuiet_nil ?_
              refine wpS_load1 (i := 4) (d := some 32) (u := .int .u64 y.draw) rfl (by rfl) rfl rfl ((HM38.out.cellL 0 rfl 67).trans y.at_d) Try.underlying40 rfl rfl ?_
              simp only [Act.put, List.setIfInBounds_toArray, List.set_cons_succ, List.set_cons_zero]
              refine wpS_doesU3 (i := 5) (d := some 33) (rem := [_, _]) rfl (by rfl) rfl Try.call9 (tick_d bk.d s bk.pv bk.pq bk.po bk.pc (.slice y.pp y.pn y.pc) y.draw (oldT W0) yps (fun W H h => OldA.row h hyps.out) (by have := row_len hyps.out; have := hfit.out.2.2; omega) hs.ok (by have := hs.now; have := hfit.out.1; omega) y.d0 y.d1) rfl rfl rfl HM38.out [1, 2, 2, 2, 2, 2] rfl covS_nil (fun _ => rfl) rfl ?_
              rintro u55 W54 hm53 -
              rw [tickD_left _ _ hs.left] at hm53
              dsimp only at hm53
              obtain ⟨zp, zc, hm53u, hm53m⟩ := msgs_open0 hm53
              clear hm53
              subst hm53u
              have HM56 := Lib.hid hm53m
              clear hm53m
              simp only [Act.put, List.setIfInBounds_toArray, List.set_cons_succ, List.set_cons_zero]
              refine wpS_this [6, 7] rfl (by kernel_rfl) (by simp only [pickL, nthL, List.cons_append, List.nil_append]; rfl) ?_
              repeat (go_big_quiet_step (fail))
              refine wpQuiet_nil ?_
              refine wpS_nil ?_
              refine then_normal ?_
              refine wp_cond_false rfl ?_
              refine wp_skip ?_
              refine block_normal ?_
              refine block_normal ?_
              refine then_normal ?_
              refine wp_region_N [(0, 1), (1, 1)] (by kernel_rfl) ?_
              refine wpS_this [0, 1] rfl (by kernel_rfl) (by simp only [pickL, nthL, List.cons_append, List.nil_append]; rfl) ?_
              repeat (go_big_quiet_step (fail))
              refine wpQuiet_nil ?_
              refine wpS_nil ?_
              refine then_normal ?_
              refine ⟨by kernel_rfl, ?_⟩
              exact ⟨cs.length - (k + 1), by omega, k + 1, { s with now := s.now + 1 }, rfl, rfl, rfl, hk1, hs.tick hfit.out.1, (Mem.only (M := [_, _, _, _, _, _, _]) HM56.out [0, 6, 0, 0, 0, 0, 0] rfl)⟩
          · clear h47
            refine wp_region_N [(0, 1), (1, 1)] (by kernel_rfl) ?_
            refine wpS_this [0, 1] rfl (by kernel_rfl) (by simp only [pickL, nthL, List.cons_append, List.nil_append]; rfl) ?_
            repeat (go_big_quiet_step (fail))
            refine wpQuiet_nil ?_
            refine wpS_nil ?_
            refine then_normal ?_
            refine wp_cond_split rfl (fun h57 => ?_) (fun h57 => ?_)
            · clear h57
              refine wp_seq ?_
              refine wp_region_N [(0, 1), (1, 1), (2, 1), (3, 3), (4, 1), (5, 1)] (by kernel_rfl) ?_
              refine wpS_this [0, 1] rfl (by kernel_rfl) (by simp only [pickL, nthL, List.cons_append, List.nil_append]; rfl) ?_
              repeat (go_big_quiet_step (fail))
              refine wpQuiet_nil ?_
              refine wpS_loadA (i := 2) (d := some 53) (cells := y.m.enc) rfl (by rfl) rfl rfl (fun k u hu => ((HM38.out.cellL 0 rfl (4 + k)).trans (y.at_m k u hu))) Try.underlying39 rfl (by rw [InM.enc_len y.hm]; kernel_rfl) rfl ?_
              simp only [Act.put, List.setIfInBounds_toArray, List.set_cons_succ, List.set_cons_zero]
              refine wpS_doesU2 (i := 3) (d := some 54) (rem := [_, _]) rfl (by rfl) rfl Try.call10 (handle_d bk.d s bk.pv bk.pq bk.po bk.pc (oldT W0) y.m ycl (fun W H h => OldA.row h hycl.out) (by have := row_len hycl.out; have := hfit.out.2.1; omega) y.hm hs.ok) rfl rfl HM38.out [1, 2, 2, 2, 2, 2] rfl covS_nil (fun _ => rfl) rfl ?_
              rintro u60 W59 hm58 -
              rw [handleD_left _ hs.left] at hm58
              obtain ⟨zp, zc, hm58u, hm58m⟩ := msgs_open0 hm58
              clear hm58
              subst hm58u
              have HM61 := Lib.hid hm58m
              clear hm58m
              simp only [Act.put, List.setIfInBounds_toArray, List.set_cons_succ, List.set_cons_zero]
              refine wpS_this [4, 5] rfl (by kernel_rfl) (by simp only [pickL, nthL, List.cons_append, List.nil_append]; rfl) ?_
              repeat (go_big_quiet_step (fail))
              refine wpQuiet_nil ?_
              refine wpS_nil ?_
              refine then_normal ?_
              refine wp_cond_false rfl ?_
              refine wp_skip ?_
              refine block_normal ?_
              refine block_normal ?_
              refine then_normal ?_
              refine wp_region_N [(0, 1), (1, 1)] (by kernel_rfl) ?_
              refine wpS_this [0, 1] rfl (by kernel_rfl) (by simp only [pickL, nthL, List.cons_append, List.nil_append]; rfl) ?_
              repeat (go_big_quiet_step (fail))
              refine wpQuiet_nil ?_
              refine wpS_nil ?_
              refine then_normal ?_
              refine ⟨by kernel_rfl, ?_⟩
              exact ⟨cs.length - (k + 1), by omega, k + 1, (handleD s (y.m.mm ycl)).1, rfl, rfl, (congrArg (Value.int .i64) (up_handleD s _).now.symm), hk1, hs.handle _ _, (Mem.only (M := [_, _, _, _, _, _, _]) HM61.out [0, 6, 0, 0, 0, 0, 0] rfl)⟩
            · clear h57
              refine wp_seq ?_
              have hnb : 0 ≤ s.now ∧ s.now ≤ 100 := ⟨hs.ok.now.1, by have := hs.now; have := hfit.out.1; omega⟩
              refine wp_region_N [(0, 1), (1, 1), (2, 1)] (by kernel_rfl) ?_
              refine wpS_this [0, 1, 2] rfl (by kernel_rfl) (by simp only [pickL, nthL, List.cons_append, List.nil_append]; rfl) ?_
              repeat (go_big_quiet_step (fail))
              refine wpQuiet_nil ?_
              refine wpS_nil ?_
              refine then_normal ?_
              refine wp_seq ?_
              refine wp_region_N [(0, 1), (1, 1), (2, 1), (3, 1), (4, 1), (5, 3), (6, 1), (7, 1)] (by kernel_rfl) ?_
              refine wpS_this [0, 1] rfl (by kernel_rfl) (by simp only [pickL, nthL, List.cons_append, List.nil_append]; rfl) ?_
              repeat (go_big_quiet_step (fail))
              refine wpQuiet_nil ?_
              refine wpS_load1 (i := 2) (d := some 30) (u := .slice y.pp y.pn y.pc) rfl (by rfl) rfl rfl ((HM38.out.cellL 0 rfl 66).trans y.at_p) Try.underlying29 rfl rfl ?_
              simp only [Act.put, List.setIfInBounds_toArray, List.set_cons_succ, List.set_cons_zero]
              refine wpS_this [3] rfl (by kernel_rfl) (by simp only [pickL, nthL, List.cons_append, List.nil_append]; rfl) ?_
              repeat (go_big_quiet_step (fail))
              refine wpQuiet_nil ?_
              refine wpS_load1 (i := 4) (d := some 32) (u := .int .u64 y.draw) rfl (by rfl) rfl rfl ((HM38.out.cellL 0 rfl 67).trans y.at_d) Try.underlying40 rfl rfl ?_
              simp only [Act.put, List.setIfInBounds_toArray, List.set_cons_succ, List.set_cons_zero]
              refine wpS_doesU3 (i := 5) (d := some 33) (rem := [_, _]) rfl (by rfl) rfl Try.call9 (tick_d bk.d s bk.pv bk.pq bk.po bk.pc (.slice y.pp y.pn y.pc) y.draw (oldT W0) yps (fun W H h => OldA.row h hyps.out) (by have := row_len hyps.out; have := hfit.out.2.2; omega) hs.ok (by have := hs.now; have := hfit.out.1; omega) y.d0 y.d1) rfl rfl rfl HM38.out [1, 2, 2, 2, 2, 2] rfl covS_nil (fun _ => rfl) rfl ?_
              rintro u64 W63 hm62 -
              rw [tickD_left _ _ hs.left] at hm62
              dsimp only at hm62
              obtain ⟨zp, zc, hm62u, hm62m⟩ := msgs_open0 hm62
              clear hm62
              subst hm62u
              have HM65 := Lib.hid hm62m
              clear hm62m
              simp only [Act.put, List.setIfInBounds_toArray, List.set_cons_succ, List.set_cons_zero]
              refine wpS_this [6, 7] rfl (by kernel_rfl) (by simp only [pickL, nthL, List.cons_append, List.nil_append]; rfl) ?_
              repeat (go_big_quiet_step (fail))
              refine wpQuiet_nil ?_
              refine wpS_nil ?_
              refine then_normal ?_
              refine wp_cond_false rfl ?_
              refine wp_skip ?_
              refine block_normal ?_
              refine block_normal ?_
              refine then_normal ?_
              refine wp_region_N [(0, 1), (1, 1)] (by kernel_rfl) ?_
              refine wpS_this [0, 1] rfl (by kernel_rfl) (by simp only [pickL, nthL, List.cons_append, List.nil_append]; rfl) ?_
              repeat (go_big_quiet_step (fail))
              refine wpQuiet_nil ?_
              refine wpS_nil ?_
              refine then_normal ?_
              refine ⟨by kernel_rfl, ?_⟩
              exact ⟨cs.length - (k + 1), by omega, k + 1, { s with now := s.now + 1 }, rfl, rfl, rfl, hk1, hs.tick hfit.out.1, (Mem.only (M := [_, _, _, _, _, _, _]) HM65.out [0, 6, 0, 0, 0, 0, 0] rfl)⟩
    · clear h28
      refine wp_exit ?_
      refine then_exit (then_exit (block_exit ?_))
      refine then_normal ?_
      refine wp_seq ?_
      refine wp_region_N [(0, 3), (1, 1)] (by kernel_rfl) ?_
      refine wpS_doesU2 (i := 0) (d := some 58) (rem := [_, _, _, _, _, _, _]) rfl (by rfl) rfl Try.call21 (new_d 0 1 (by decide) (by decide)) rfl rfl HM27.out [] rfl covS_nil (fun _ => rfl) rfl ?_
      rintro u68 W67 hm66 -
      obtain ⟨bb, hm66e⟩ := Mem.ex hm66
      clear hm66
      obtain ⟨hm66u, hm66⟩ := Mem.pr hm66e
      clear hm66e
      subst hm66u
      have HM69 := Lib.hid hm66
      clear hm66
      simp only [Act.put, List.setIfInBounds_toArray, List.set_cons_succ, List.set_cons_zero]
      refine wpS_this [1] rfl (by kernel_rfl) (by simp only [pickL, nthL, List.cons_append, List.nil_append]; rfl) ?_
      repeat (go_big_quiet_step (fail))
      refine wpQuiet_nil ?_
      refine wpS_nil ?_
      refine then_normal ?_
      refine wp_seq ?_
      refine wp_region_N [(0, 1), (1, 1), (2, 3)] (by kernel_rfl) ?_
      have Cb4 := Mem.cell HM69.out 6 rfl
      refine wpS_this [0, 1] rfl (by kernel_rfl) (by simp only [pickL, nthL, List.cons_append, List.nil_append]; rfl) ?_
      repeat (go_big_quiet_step (fail))
      refine wpQuiet_nil ?_
      clear Cb4
      refine wpS_does2 (i := 2) (d := some 61) (rem := [_, _, _, _, _, _, _]) (out := [_, _, _, _, _, _, _, _, _, _, _, _]) rfl (by rfl) rfl Try.call11 (hearCall_d bb.d (newD 0 1) bb.pv bb.pq bb.po bb.pc 2 1 4 (lok_new (by decide) (by decide))) rfl rfl HM69.out [0, 0, 0, 0, 0] rfl covS_nil rfl rfl ?_
      rintro W71 hm70 -
      have HM72 := Lib.hid hm70
      clear hm70
      simp only [Act.put, List.setIfInBounds_toArray, List.set_cons_succ, List.set_cons_zero]
      refine wpS_nil ?_
      refine then_normal ?_
      refine wp_seq ?_
      refine wp_region_N [(0, 1), (1, 1), (2, 3)] (by kernel_rfl) ?_
      refine wpS_this [0, 1] rfl (by kernel_rfl) (by simp only [pickL, nthL, List.cons_append, List.nil_append]; rfl) ?_
      repeat (go_big_quiet_step (fail))
      refine wpQuiet_nil ?_
      refine wpS_does2 (i := 2) (d := some 64) (rem := [_, _, _, _, _, _, _]) (out := [_, _, _, _, _, _, _, _, _, _, _, _]) rfl (by rfl) rfl Try.call11 (hearCall_d bb.d (hearCall (newD 0 1) ⟨2, 1, 4⟩).1 bb.pv bb.pq bb.po bb.pc 2 9 1 (lok_hearCall (lok_new (by decide) (by decide)) _)) rfl rfl HM72.out [0, 0, 0, 0, 0] rfl covS_nil rfl rfl ?_
      rintro W74 hm73 -
      have HM75 := Lib.hid hm73
      clear hm73
      simp only [Act.put, List.setIfInBounds_toArray, List.set_cons_succ, List.set_cons_zero]
      refine wpS_nil ?_
      refine then_normal ?_
      refine wp_seq ?_
      obtain ⟨gi, hgi⟩ := hs.gone
      have hgi := Lib.hid hgi
      refine wp_region_N [(0, 1), (1, 3), (2, 1), (3, 1), (4, 1), (5, 1), (6, 3), (7, 1), (8, 1), (9, 1), (10, 1), (11, 1), (12, 3), (13, 1), (14, 1), (15, 1), (16, 1), (17, 1), (18, 3), (19, 1), (20, 1), (21, 1), (22, 1), (23, 3), (24, 1), (25, 1), (26, 3), (27, 1), (28, 1)] (by kernel_rfl) ?_
      refine wpS_this [0] rfl (by kernel_rfl) (by simp only [pickL, nthL, List.cons_append, List.nil_append]; rfl) ?_
      repeat (go_big_quiet_step (fail))
      refine wpQuiet_nil ?_
      refine wpS_does1 (i := 1) (d := some 66) (rem := [_, _, _, _, _, _, _, _, _, _, _]) (out := [_, _, _, _, _, _, _, _, _, _, _, _]) rfl (by rfl) rfl Try.call16 (now_d bk.d s bk.pv bk.pq bk.po bk.pc) rfl HM75.out [7] rfl covS_nil rfl rfl ?_
      rintro W77 hm76 -
      have HM78 := Lib.hid hm76
      clear hm76
      simp only [Act.put, List.setIfInBounds_toArray, List.set_cons_succ, List.set_cons_zero]
      refine wpS_this [2, 3, 4, 5] rfl (by kernel_rfl) (by simp only [pickL, nthL, List.cons_append, List.nil_append]; rfl) ?_
      repeat (go_big_quiet_step (fail))
      refine wpQuiet_nil ?_
      refine wpS_does2 (i := 6) (d := some 71) (rem := [_, _, _, _, _, _, _, _, _, _]) (out := [_, _, _, _, _, _, _, _, _, _, _, _]) rfl (by rfl) rfl Try.call13 (of_d bk.d s bk.pv bk.pq bk.po bk.pc 2) rfl rfl HM78.out [0, 7] rfl covS_nil rfl rfl ?_
      rintro W80 hm79 -
      rw [hgi.out]
      simp only [cl3]
      have HM81 := Lib.hid hm79
      clear hm79
      simp only [Act.put, List.setIfInBounds_toArray, List.set_cons_succ, List.set_cons_zero]
      refine wpS_read (i := 7) (d := some 72) (v := .int .i64 4) rfl (by rfl) (by rfl) rfl ?_
      simp only [Act.put, List.setIfInBounds_toArray, List.set_cons_succ, List.set_cons_zero]
      refine wpS_this [8, 9, 10, 11] rfl (by kernel_rfl) (by simp only [pickL, nthL, List.cons_append, List.nil_append]; rfl) ?_
      repeat (go_big_quiet_step (fail))
      refine wpQuiet_nil ?_
      refine wpS_does2 (i := 12) (d := some 77) (rem := [_, _, _, _, _, _, _, _, _, _]) (out := [_, _, _, _, _, _, _, _, _, _, _, _]) rfl (by rfl) rfl Try.call13 (of_d bb.d (hearCall (hearCall (newD 0 1) ⟨2, 1, 4⟩).1 ⟨2, 9, 1⟩).1 bb.pv bb.pq bb.po bb.pc 2) rfl rfl HM81.out [2, 2] rfl covS_nil rfl rfl ?_
      rintro W83 hm82 -
      rw [other_gone]
      simp only [cl3]
      have HM84 := Lib.hid hm82
      clear hm82
      simp only [Act.put, List.setIfInBounds_toArray, List.set_cons_succ, List.set_cons_zero]
      refine wpS_read (i := 13) (d := some 78) (v := .int .i64 4) rfl (by rfl) (by rfl) rfl ?_
      simp only [Act.put, List.setIfInBounds_toArray, List.set_cons_succ, List.set_cons_zero]
      have Cb4 := Mem.cell HM84.out 8 rfl
      refine wpS_this [14, 15, 16, 17] rfl (by kernel_rfl) (by simp only [pickL, nthL, List.cons_append, List.nil_append]; rfl) ?_
      repeat (go_big_quiet_step (fail))
      refine wpQuiet_nil ?_
      clear Cb4
      refine wpS_does1 (i := 18) (d := some 83) (rem := [_, _, _, _, _, _, _, _, _, _, _, _]) (out := [_, _, _, _, _, _, _, _, _, _, _, _]) rfl (by rfl) rfl Try.call22 (may_d 2 1 4) rfl HM84.out [] rfl covS_nil rfl rfl ?_
      rintro W86 hm85 -
      rw [show mayK ⟨2, 1, 4⟩ = true from rfl]
      have HM87 := Lib.hid hm85
      clear hm85
      simp only [Act.put, List.setIfInBounds_toArray, List.set_cons_succ, List.set_cons_zero]
      have Cb4 := Mem.cell HM87.out 8 rfl
      refine wpS_this [19, 20, 21, 22] rfl (by kernel_rfl) (by simp only [pickL, nthL, List.cons_append, List.nil_append]; rfl) ?_
      repeat (go_big_quiet_step (fail))
      refine wpQuiet_nil ?_
      clear Cb4
      refine wpS_does1 (i := 23) (d := some 88) (rem := [_, _, _, _, _, _, _, _, _, _, _, _]) (out := [_, _, _, _, _, _, _, _, _, _, _, _]) rfl (by rfl) rfl Try.call20 (refNode_d 2) rfl HM87.out [] rfl covS_nil rfl rfl ?_
      rintro W89 hm88 -
      rw [show nodeB 2 = true from rfl]
      have HM90 := Lib.hid hm88
      clear hm88
      simp only [Act.put, List.setIfInBounds_toArray, List.set_cons_succ, List.set_cons_zero]
      refine wpS_this [24, 25] rfl (by kernel_rfl) (by simp only [pickL, nthL, List.cons_append, List.nil_append]; rfl) ?_
      repeat (go_big_quiet_step (fail))
      refine wpQuiet_nil ?_
      refine wpS_does0 (i := 26) (d := some 91) (rem := [_, _, _, _, _, _, _, _, _, _, _, _]) (out := [_, _, _, _, _, _, _, _, _, _, _, _]) rfl (by rfl) rfl Try.call18 (awake_d)  HM90.out [] rfl covS_nil rfl rfl ?_
      rintro W92 hm91 -
      have HM93 := Lib.hid hm91
      clear hm91
      simp only [Act.put, List.setIfInBounds_toArray, List.set_cons_succ, List.set_cons_zero]
      refine wpS_this [27, 28] rfl (by kernel_rfl) (by simp only [pickL, nthL, List.cons_append, List.nil_append]; rfl) ?_
      repeat (go_big_quiet_step (fail))
      refine wpQuiet_nil ?_
      refine wpS_nil ?_
      refine then_normal ?_
      refine wp_ret ?_
      refine bodyPost_ret (results_tmp rfl _ _ _) rfl ?_
      exact does_ret (Mem.only (M := [_]) HM93.out [7] rfl) rfl rfl

theorem Does.givesOld {pr : Program} {f : FuncId} {args : Array Value} {v : Value} {W : World} (h : Does pr f args [oldT W] v [oldT W]) : Gives pr f args W v :=
  (h W (fun k => k < W.heap.size) ⟨_, fun _ => False, oldA_self W, fun _ h => h, fun _ _ h => h, fun k => by simp⟩).mono fun _ W' ⟨he, hs⟩ => ⟨he, ⟨W', SEnd.ended (SEnd.noOld hs)⟩, rfl⟩
theorem leavesLaw (v : Value) (cs : List CallV) (W : World) (hv : RowAt elemCall W v cs) (hq : ∀ y ∈ cs, CallQ W y) : Gives Try.prog 8 #[v] W (.bool true) := (leaves_d W v cs hv hq).givesOld
end Go.Proofs.Ytjbihgfdgaiecaa

/- A cut behind a switch: what comes behind it is walked once. -/
namespace Go.Proofs.Ytjbihgfdgaiecaa
open Go Go.RowKit
section
variable {P : Program} {Q : Exit → Act → World → Prop} {c : Code} {a : Act} {w : World}
/-- A cut: what is behind it is walked once, over letters for the slots that lie ahead of it. -/
theorem wp_cut_F {K : Act → World → Prop} (slots : List Nat) (J : (Nat → Value) → World → Prop) (h1 : c.wp P (Exit.then (fun a' w' => maskF slots a' = maskF slots a ∧ J (fun s => a'.tmps.getD s undef) w') Q) a w)
    (h2 : ∀ vs w', J vs w' → Exit.then K Q .normal (putAll a (slots.map fun s => (s, vs s))) w') : c.wp P (Exit.then K Q) a w :=
  wp_mono h1 fun e a' w' he => by
    cases e with
    | normal =>
      obtain ⟨hm, hj⟩ := he
      have := h2 _ _ hj
      rw [← unmask hm] at this
      exact this
    | _ => exact he
end
end Go.Proofs.Ytjbihgfdgaiecaa
