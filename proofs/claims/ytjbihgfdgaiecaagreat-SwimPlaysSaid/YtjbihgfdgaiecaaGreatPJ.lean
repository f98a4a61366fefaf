/- What can be read of what a caller hands over lies in single cells, whatever its type, where the types' parts tile it. -/
import Derived.Test.YtjbihgfdgaiecaaGreatProg
import Derived.Test.YtjbihgfdgaiecaaGreatPA
import Derived.Test.YtjbihgfdgaiecaaGreatPI
import Derived.ProofKit
import Derived.OpenShut
import Derived.ChangeSame
import Derived.Carry
namespace Go.Proofs.YtjbihgfdgaiecaaGreat
open Go Go.ChangeShapes Go.WideShapes Go.ChangeAt Go.RowKit
def tiles (P : Program) : List Field → Nat → Nat → Bool
 | [], o, n => o == n
 | f :: r, o, n => f.offset == o && tiles P r (o + P.cellsOf f.type) n
def laysB (P : Program) : Nat → TypeId → Bool
 | 0, _ => false
 | d + 1, t => match P.underlying t with
  | some (.struct fs) => tiles P fs.toList 0 (P.cellsOf t) && fs.toList.all fun f => laysB P d f.type
  | some (.array n e) => (P.cellsOf t == n * P.cellsOf e) && laysB P d e
  | _ => true
theorem tiled {P : Program} {k n : Nat} (hk : k < n) : ∀ (fs : List Field) (o : Nat), tiles P fs o n = true → o ≤ k → ∃ f ∈ fs, f.offset ≤ k ∧ k < f.offset + P.cellsOf f.type
 | [], o, h, ho => by
  simp [tiles] at h
  omega
 | f :: r, o, h, ho => by
  simp only [tiles, Bool.and_eq_true, beq_iff_eq] at h
  by_cases hlt : k < o + P.cellsOf f.type
  ·exact ⟨f, List.mem_cons_self, by omega, by omega⟩
  ·obtain ⟨g, hg, h1, h2⟩ := tiled hk r _ h.2 (by omega)
   exact ⟨g, List.mem_cons_of_mem _ hg, h1, h2⟩
theorem piece_mem {cs : List Value} {k o s : Nat} {u : Value} (hu : cs[k]? = some u) (h1 : o ≤ k) (h2 : k < o + s) : u ∈ (cs.drop o).take s := by
 refine List.mem_of_getElem? (i := k - o) ?_
 rw [List.getElem?_take, if_pos (by omega), List.getElem?_drop, show o + (k - o) = k by omega, hu]
theorem trod_one {P : Program} {H : Type} {enc : TypeId × Value → H} {w : World} {base : Nat} {spare : Nat → Bool} {held : Bool} : ∀ (d fuel : Nat) (t : TypeId) (cs : List Value) (x : DataW H × List MemPlace), laysB P d t = true → DataW.trod enc P w base spare held fuel t cs = some x → ∀ u ∈ cs, u.oneCell' = true
 | 0, _, _, _, _, h, _ => by simp [laysB] at h
 | d + 1, fuel, t, cs, x, h, hx => fun u hu => by
  obtain ⟨k, hk⟩ := List.mem_iff_getElem?.1 hu
  have hkl : k < cs.length := (List.getElem?_eq_some_iff.1 hk).1
  unfold laysB at h
  cases ht : P.underlying t with
  | none =>
   cases fuel with
   | zero => simp [DataW.trod] at hx
   | succ n => unfold DataW.trod at hx; rw [ht] at hx; simp at hx
  | some desc =>
   rw [ht] at h
   by_cases hs : ∃ fs, desc = .struct fs
   ·obtain ⟨fs, rfl⟩ := hs
    simp only [Bool.and_eq_true, List.all_eq_true] at h
    obtain ⟨xs, n, rfl, -, hl, hxs, hp⟩ := DataW.trod_struct ht hx
    obtain ⟨f, hf, h1, h2⟩ := tiled (by omega) fs.toList 0 h.1 (Nat.zero_le k)
    obtain ⟨i, hi⟩ := List.mem_iff_getElem?.1 hf
    have hi' : fs[i]? = some f := by simpa using hi
    have hil : i < fs.size := (Array.getElem?_eq_some_iff.1 hi').1
    have := hp i f hi'
    rw [List.getElem?_eq_getElem (by omega)] at this
    exact trod_one d n f.type _ _ (h.2 f hf) this u (piece_mem hk h1 h2)
   ·by_cases ha : ∃ n e, desc = .array n e
    ·obtain ⟨n, e, rfl⟩ := ha
     simp only [Bool.and_eq_true, beq_iff_eq] at h
     cases fuel with
     | zero => simp [DataW.trod] at hx
     | succ m =>
      unfold DataW.trod at hx
      rw [ht] at hx
      simp only at hx
      split at hx
      ·rename_i hl
       simp only [Option.map_eq_some_iff] at hx
       obtain ⟨xs, hm, -⟩ := hx
       have he : 0 < P.cellsOf e := by
        rcases Nat.eq_zero_or_pos (P.cellsOf e) with h0 | h0
        ·rw [hl, h.1, h0, Nat.mul_zero] at hkl; omega
        ·exact h0
       have hq : k / P.cellsOf e < n := by
        rw [Nat.div_lt_iff_lt_mul he, ← h.1, ← hl]; exact hkl
       have hg := mapM_some_get hm (k / P.cellsOf e) (k / P.cellsOf e) (by rw [List.getElem?_range hq])
       have hlen := mapM_some_length hm
       rw [List.length_range] at hlen
       rw [List.getElem?_eq_getElem (by omega)] at hg
       have h1 : k / P.cellsOf e * P.cellsOf e ≤ k := Nat.div_mul_le_self _ _
       have h2 : k < k / P.cellsOf e * P.cellsOf e + P.cellsOf e := by
        have h3 := Nat.div_add_mod k (P.cellsOf e)
        have h4 := Nat.mod_lt k he
        rw [Nat.mul_comm] at h3
        omega
       exact trod_one d m e _ _ h.2 hg u (piece_mem hk h1 h2)
      ·simp at hx
    ·cases fuel with
     | zero => simp [DataW.trod] at hx
     | succ m =>
      unfold DataW.trod at hx
      rw [ht] at hx
      split at hx <;> simp_all [Value.oneCell']
end Go.Proofs.YtjbihgfdgaiecaaGreat

/- A call of the law's own type: what its cells are. -/
namespace Go.Proofs.YtjbihgfdgaiecaaGreat
open Go Go.RowKit Go.BigFrame
set_option maxRecDepth 100000 in
def callZero : Value := .agg #[.int .i64 0, .int .i64 0, .int .i64 0, .int .i64 0, .int .i64 0, .int .i64 0, .int .i64 0, .int .i64 0, .int .i64 0, .int .i64 0, .int .i64 0, .int .i64 0, .string ByteArray.empty, .int .i64 0, .int .i64 0, .int .i64 0, .int .i64 0, .int .i64 0, .int .i64 0, .int .i64 0, .int .i64 0, .slice none 0 0, .int .i64 0, .int .i64 0, .int .i64 0, .int .i64 0, .int .i64 0, .int .i64 0, .int .i64 0, .int .i64 0, .int .i64 0, .int .i64 0, .slice none 0 0, .int .i64 0, .int .i64 0, .int .i64 0, .int .i64 0, .int .i64 0, .int .i64 0, .int .i64 0, .int .i64 0, .int .i64 0, .int .i64 0, .int .i64 0, .int .i64 0, .int .i64 0, .int .i64 0, .int .i64 0, .int .i64 0, .int .i64 0, .int .i64 0, .int .i64 0, .int .i64 0, .int .i64 0, .int .i64 0, .int .i64 0, .int .i64 0, .int .i64 0, .int .i64 0, .int .i64 0, .int .i64 0, .int .i64 0, .int .i64 0, .int .i64 0, .int .i64 0, .slice none 0 0, .slice none 0 0, .int .u64 0]
structure CallV where
 o : Int
 n : Int
 i : Int
 h : Int
 m : InM
 pp : Option Addr
 pn : Nat
 pc : Nat
 draw : Int
 hm : m.mid.length = 55
 ho : ∀ u ∈ m.mid, u.oneCell' = true
 d0 : 0 ≤ draw
 d1 : draw < 18446744073709551616
def CallV.enc (c : CallV) : List Value := [.int .i64 c.o, .int .i64 c.n, .int .i64 c.i, .int .i64 c.h] ++ (c.m.enc ++ [.slice c.pp c.pn c.pc, .int .u64 c.draw])
theorem CallV.len (c : CallV) : c.enc.length = 68 := by unfold CallV.enc; simp [InM.enc_len c.hm]
theorem CallV.at_c (c : CallV) : ∀ k u, [Value.int .i64 c.n, .int .i64 c.i, .int .i64 c.h][k]? = some u → c.enc[1 + k]? = some u
 | 0, _, h => h
 | 1, _, h => h
 | 2, _, h => h
 | k + 3, _, h => by simp at h
theorem CallV.at_m (c : CallV) : ∀ k u, c.m.enc[k]? = some u → c.enc[4 + k]? = some u := fun k u h => by
 have hk : k < c.m.enc.length := (List.getElem?_eq_some_iff.1 h).1
 unfold CallV.enc
 rw [List.getElem?_append_right (by simp)]
 have : 4 + k - [Value.int .i64 c.o, .int .i64 c.n, .int .i64 c.i, .int .i64 c.h].length = k := by simp
 rw [this, List.getElem?_append_left hk, h]
theorem CallV.at_p (c : CallV) : c.enc[66]? = some (.slice c.pp c.pn c.pc) := by
 unfold CallV.enc
 rw [List.getElem?_append_right (by simp), List.getElem?_append_right (by simp [InM.enc_len c.hm])]
 simp [InM.enc_len c.hm]
theorem CallV.at_d (c : CallV) : c.enc[67]? = some (.int .u64 c.draw) := by
 unfold CallV.enc
 rw [List.getElem?_append_right (by simp), List.getElem?_append_right (by simp [InM.enc_len c.hm])]
 simp [InM.enc_len c.hm]
section
variable {P : Program} {w : World} {r : Reach} {b : Nat} {t : TypeId} {v : Value}
end
theorem three_of {α : Type} {l : List α} (h : l.length = 3) : ∃ a b c, l = [a, b, c] := by
 match l, h with
 | [a, b, c], _ => exact ⟨a, b, c, rfl⟩
set_option maxRecDepth 100000 in
theorem call_of {l : List Value} (hl : l.length = 68) (hone : ∀ u ∈ l, u.oneCell' = true) (hi : ∀ i, i < 10 → ∃ n, l[i]? = some (.int .i64 n)) (h5 : ∃ a n c, l[65]? = some (.slice a n c)) (h6 : ∃ a n c, l[66]? = some (.slice a n c)) (h7 : ∃ n, l[67]? = some (.int .u64 n) ∧ 0 ≤ n ∧ n < 18446744073709551616) : ∃ c : CallV, l = c.enc := by
 obtain ⟨x0, x1, x2, x3, x4, x5, x6, x7, x8, x9, q, rfl⟩ : ∃ x0 x1 x2 x3 x4 x5 x6 x7 x8 x9 q, l = x0 :: x1 :: x2 :: x3 :: x4 :: x5 :: x6 :: x7 :: x8 :: x9 :: q := by
  match l, hl with
  | x0 :: x1 :: x2 :: x3 :: x4 :: x5 :: x6 :: x7 :: x8 :: x9 :: q, _ => exact ⟨x0, x1, x2, x3, x4, x5, x6, x7, x8, x9, q, rfl⟩
 have hq : q.length = 58 := by simpa using hl
 obtain ⟨y, z, e, hd⟩ := three_of (l := q.drop 55) (by simp [hq])
 obtain ⟨mid, hmid⟩ : ∃ mid, q.take 55 = mid := ⟨_, rfl⟩
 have hm : mid.length = 55 := by rw [← hmid]; simp [hq]
 have ho : ∀ u ∈ mid, u.oneCell' = true := fun u hu => hone u (by rw [← hmid] at hu; simp [List.mem_of_mem_take hu])
 obtain rfl : q = mid ++ [y, z, e] := by rw [← hmid, ← hd, List.take_append_drop]
 clear hmid hd hq hl hone
 have g : ∀ j, (x0 :: x1 :: x2 :: x3 :: x4 :: x5 :: x6 :: x7 :: x8 :: x9 :: (mid ++ [y, z, e]))[65 + j]? = [y, z, e][j]? := fun j => by
  have e1 : (x0 :: x1 :: x2 :: x3 :: x4 :: x5 :: x6 :: x7 :: x8 :: x9 :: (mid ++ [y, z, e])) = ([x0, x1, x2, x3, x4, x5, x6, x7, x8, x9] ++ mid) ++ [y, z, e] := by simp
  rw [e1, List.getElem?_append_right (by simp [hm])]
  congr 1
  simp [hm]
 obtain ⟨a0, ha0⟩ := hi 0 (by decide)
 obtain rfl : x0 = .int .i64 a0 := Option.some.inj ha0
 obtain ⟨a1, ha1⟩ := hi 1 (by decide)
 obtain rfl : x1 = .int .i64 a1 := Option.some.inj ha1
 obtain ⟨a2, ha2⟩ := hi 2 (by decide)
 obtain rfl : x2 = .int .i64 a2 := Option.some.inj ha2
 obtain ⟨a3, ha3⟩ := hi 3 (by decide)
 obtain rfl : x3 = .int .i64 a3 := Option.some.inj ha3
 obtain ⟨a4, ha4⟩ := hi 4 (by decide)
 obtain rfl : x4 = .int .i64 a4 := Option.some.inj ha4
 obtain ⟨a5, ha5⟩ := hi 5 (by decide)
 obtain rfl : x5 = .int .i64 a5 := Option.some.inj ha5
 obtain ⟨a6, ha6⟩ := hi 6 (by decide)
 obtain rfl : x6 = .int .i64 a6 := Option.some.inj ha6
 obtain ⟨a7, ha7⟩ := hi 7 (by decide)
 obtain rfl : x7 = .int .i64 a7 := Option.some.inj ha7
 obtain ⟨a8, ha8⟩ := hi 8 (by decide)
 obtain rfl : x8 = .int .i64 a8 := Option.some.inj ha8
 obtain ⟨a9, ha9⟩ := hi 9 (by decide)
 obtain rfl : x9 = .int .i64 a9 := Option.some.inj ha9
 obtain ⟨s0a, s0n, s0c, h5⟩ := h5
 obtain rfl : y = .slice s0a s0n s0c := Option.some.inj ((g 0).symm.trans h5)
 obtain ⟨s1a, s1n, s1c, h6⟩ := h6
 obtain rfl : z = .slice s1a s1n s1c := Option.some.inj ((g 1).symm.trans h6)
 obtain ⟨dr, h7, h8, h9⟩ := h7
 obtain rfl : e = .int .u64 dr := Option.some.inj ((g 2).symm.trans h7)
 refine ⟨⟨a0, a1, a2, a3, ⟨a4, a5, a6, a7, a8, a9, mid, s0a, s0n, s0c⟩, s1a, s1n, s1c, dr, hm, ho, h8, h9⟩, ?_⟩
 simp [CallV.enc, InM.enc]
theorem u64_is {n : Int} (h0 : IntKind.u64.min ≤ n) (h1 : n ≤ IntKind.u64.max) : 0 ≤ n ∧ n < 18446744073709551616 := by
 have e1 : IntKind.u64.min = 0 := by decide
 have e2 : IntKind.u64.max = 18446744073709551615 := by decide
 omega
end Go.Proofs.YtjbihgfdgaiecaaGreat

/- A row of calls that a caller hands over: what can be read of it. -/
namespace Go.Proofs.YtjbihgfdgaiecaaGreat
open Go Go.ChangeShapes Go.WideShapes Go.ChangeAt Go.RowKit Go.BigFrame
theorem one_at {l : List Value} {o : Nat} {v : Value} (h : (l.drop o).take 1 = [v]) : l[o]? = some v := by
 have := congrArg (·[0]?) h
 simpa [List.getElem?_take, List.getElem?_drop] using this
theorem sub_at {l : List Value} {a s o : Nat} {v : Value} (h : ((l.drop a).take s)[o]? = some v) : l[a + o]? = some v := by
 rw [List.getElem?_take] at h
 split at h
 ·rwa [List.getElem?_drop] at h
 ·cases h
section
variable {P : Program} {H : Type} {enc : TypeId × Value → H} {w : World} {base : Nat} {spare : Nat → Bool} {held : Bool} {fuel : Nat} {t : TypeId} {cs : List Value} {x : DataW H × List MemPlace}
theorem trod_sl {e : TypeId} (ht : P.underlying t = some (.slice e)) (h : DataW.trod enc P w base spare held fuel t cs = some x) : ∃ a n c, cs = [.slice a n c] := by
 cases fuel with
 | zero => simp [DataW.trod] at h
 | succ n =>
  unfold DataW.trod at h
  rw [ht] at h
  split at h <;> simp_all
end
theorem kInt : Tryz.prog.cellsOf 3 = 1 := by kernel_rfl
theorem kU64 : Tryz.prog.cellsOf 47 = 1 := by kernel_rfl
theorem kInts : Tryz.prog.cellsOf 36 = 1 := by kernel_rfl
theorem kCls : Tryz.prog.cellsOf 44 = 1 := by kernel_rfl
theorem kCl : Tryz.prog.cellsOf 30 = 3 := by kernel_rfl
theorem kMsg : Tryz.prog.cellsOf 46 = 62 := by kernel_rfl
def elemCall : Elem Tryz.prog CallV where
 enc := CallV.enc
 k := 68
 pos := by decide
 len := CallV.len
 one c u hu := by
  simp only [CallV.enc, InM.enc, List.mem_append, List.mem_cons, List.not_mem_nil, or_false] at hu
  rcases hu with (rfl | rfl | rfl | rfl) | (((rfl | rfl | rfl | rfl | rfl | rfl) | hu) | rfl) | rfl | rfl
  all_goals first | rfl | exact c.ho u hu
 t := 49
 sl := 22
 under := Tryz.underlying22
 z := callZero
 bytes := 616
 bpos := by decide
 info := by kernel_rfl
 zs := by kernel_rfl
theorem zeroMid : ∀ u ∈ (List.replicate 55 (Value.int .i64 0)), u.oneCell' = true := by decide
instance : Inhabited CallV := ⟨⟨0, 0, 0, 0, ⟨0, 0, 0, 0, 0, 0, List.replicate 55 (.int .i64 0), none, 0, 0⟩, none, 0, 0, 0, by decide, zeroMid, by decide, by decide⟩⟩
set_option maxRecDepth 100000 in
theorem readCall : Readable elemCall where
 cells := by kernel_rfl
 bytes := by kernel_rfl
 read := by
  intro H enc w base spare held fuel cs x h
  have hone := trod_one (P := Tryz.prog) 6 fuel 49 cs x (by kernel_rfl) h
  obtain ⟨xs, n, rfl, -, hl, hxs, hp⟩ := DataW.trod_struct Tryz.underlying49 h
  have hl : cs.length = 68 := hl.trans (by kernel_rfl)
  have hx : xs.length = 5 := hxs
  clear h hxs
  have p0 : DataW.trod enc Tryz.prog w base spare held n 3 ((cs.drop 0).take (Tryz.prog.cellsOf 3)) = xs[0]? := hp 0 _ rfl
  have p1 : DataW.trod enc Tryz.prog w base spare held n 30 ((cs.drop 1).take (Tryz.prog.cellsOf 30)) = xs[1]? := hp 1 _ rfl
  have p2 : DataW.trod enc Tryz.prog w base spare held n 46 ((cs.drop 4).take (Tryz.prog.cellsOf 46)) = xs[2]? := hp 2 _ rfl
  have p3 : DataW.trod enc Tryz.prog w base spare held n 36 ((cs.drop 66).take (Tryz.prog.cellsOf 36)) = xs[3]? := hp 3 _ rfl
  have p4 : DataW.trod enc Tryz.prog w base spare held n 47 ((cs.drop 67).take (Tryz.prog.cellsOf 47)) = xs[4]? := hp 4 _ rfl
  clear hp
  rw [List.getElem?_eq_getElem (by omega)] at p0 p1 p2 p3 p4
  rw [kInt] at p0
  rw [kCl] at p1
  rw [kMsg] at p2
  rw [kInts] at p3
  rw [kU64] at p4
  obtain ⟨i0, h0, -, -⟩ := DataW.trod_int Tryz.underlying3 p0
  have h0 := one_at h0
  obtain ⟨a3, n3, c3, h3⟩ := trod_sl Tryz.underlying36 p3
  have h3 := one_at h3
  obtain ⟨i4, h4, -, w4⟩ := DataW.trod_int Tryz.underlying47 p4
  have h4 := one_at h4
  obtain ⟨ys, m, -, -, -, hys, hq⟩ := DataW.trod_struct Tryz.underlying30 p1
  have hy : ys.length = 3 := hys
  have q0 : DataW.trod enc Tryz.prog w base spare held m 3 ((((cs.drop 1).take 3).drop 0).take (Tryz.prog.cellsOf 3)) = ys[0]? := hq 0 _ rfl
  have q1 : DataW.trod enc Tryz.prog w base spare held m 3 ((((cs.drop 1).take 3).drop 1).take (Tryz.prog.cellsOf 3)) = ys[1]? := hq 1 _ rfl
  have q2 : DataW.trod enc Tryz.prog w base spare held m 3 ((((cs.drop 1).take 3).drop 2).take (Tryz.prog.cellsOf 3)) = ys[2]? := hq 2 _ rfl
  clear hq hys
  rw [List.getElem?_eq_getElem (by omega), kInt] at q0 q1 q2
  obtain ⟨j0, g0, -, -⟩ := DataW.trod_int Tryz.underlying3 q0
  obtain ⟨j1, g1, -, -⟩ := DataW.trod_int Tryz.underlying3 q1
  obtain ⟨j2, g2, -, -⟩ := DataW.trod_int Tryz.underlying3 q2
  have g0 := sub_at (one_at g0)
  have g1 := sub_at (one_at g1)
  have g2 := sub_at (one_at g2)
  obtain ⟨zs, o, -, -, -, hzs, hr⟩ := DataW.trod_struct Tryz.underlying46 p2
  have hz : zs.length = 12 := hzs
  have r0 : DataW.trod enc Tryz.prog w base spare held o 3 ((((cs.drop 4).take 62).drop 0).take (Tryz.prog.cellsOf 3)) = zs[0]? := hr 0 _ rfl
  have r1 : DataW.trod enc Tryz.prog w base spare held o 3 ((((cs.drop 4).take 62).drop 1).take (Tryz.prog.cellsOf 3)) = zs[1]? := hr 1 _ rfl
  have r2 : DataW.trod enc Tryz.prog w base spare held o 3 ((((cs.drop 4).take 62).drop 2).take (Tryz.prog.cellsOf 3)) = zs[2]? := hr 2 _ rfl
  have r3 : DataW.trod enc Tryz.prog w base spare held o 3 ((((cs.drop 4).take 62).drop 3).take (Tryz.prog.cellsOf 3)) = zs[3]? := hr 3 _ rfl
  have r4 : DataW.trod enc Tryz.prog w base spare held o 3 ((((cs.drop 4).take 62).drop 4).take (Tryz.prog.cellsOf 3)) = zs[4]? := hr 4 _ rfl
  have r5 : DataW.trod enc Tryz.prog w base spare held o 3 ((((cs.drop 4).take 62).drop 5).take (Tryz.prog.cellsOf 3)) = zs[5]? := hr 5 _ rfl
  have r6 : DataW.trod enc Tryz.prog w base spare held o 44 ((((cs.drop 4).take 62).drop 61).take (Tryz.prog.cellsOf 44)) = zs[11]? := hr 11 _ rfl
  clear hr hzs
  rw [List.getElem?_eq_getElem (by omega), kInt] at r0 r1 r2 r3 r4 r5
  rw [List.getElem?_eq_getElem (by omega), kCls] at r6
  obtain ⟨k0, f0, -, -⟩ := DataW.trod_int Tryz.underlying3 r0
  obtain ⟨k1, f1, -, -⟩ := DataW.trod_int Tryz.underlying3 r1
  obtain ⟨k2, f2, -, -⟩ := DataW.trod_int Tryz.underlying3 r2
  obtain ⟨k3, f3, -, -⟩ := DataW.trod_int Tryz.underlying3 r3
  obtain ⟨k4, f4, -, -⟩ := DataW.trod_int Tryz.underlying3 r4
  obtain ⟨k5, f5, -, -⟩ := DataW.trod_int Tryz.underlying3 r5
  obtain ⟨a6, n6, c6, f6⟩ := trod_sl Tryz.underlying44 r6
  have f0 := sub_at (one_at f0)
  have f1 := sub_at (one_at f1)
  have f2 := sub_at (one_at f2)
  have f3 := sub_at (one_at f3)
  have f4 := sub_at (one_at f4)
  have f5 := sub_at (one_at f5)
  have f6 := sub_at (one_at f6)
  clear p0 p1 p2 p3 p4 q0 q1 q2 r0 r1 r2 r3 r4 r5 r6
  have w4 : IntKind.u64.min ≤ i4 ∧ i4 ≤ IntKind.u64.max := by simpa [Lit.wf] using w4
  exact call_of hl hone (fun i hi => by
   have : i = 0 ∨ i = 1 ∨ i = 2 ∨ i = 3 ∨ i = 4 ∨ i = 5 ∨ i = 6 ∨ i = 7 ∨ i = 8 ∨ i = 9 := by omega
   rcases this with rfl | rfl | rfl | rfl | rfl | rfl | rfl | rfl | rfl | rfl
   ·exact ⟨_, h0⟩
   ·exact ⟨_, g0⟩
   ·exact ⟨_, g1⟩
   ·exact ⟨_, g2⟩
   ·exact ⟨_, f0⟩
   ·exact ⟨_, f1⟩
   ·exact ⟨_, f2⟩
   ·exact ⟨_, f3⟩
   ·exact ⟨_, f4⟩
   ·exact ⟨_, f5⟩) ⟨_, _, _, f6⟩ ⟨_, _, _, h3⟩ ⟨_, h4, u64_is w4.1 w4.2⟩
end Go.Proofs.YtjbihgfdgaiecaaGreat

/- A whole value of many cells is laid into a variable of one's own. -/
namespace Go.Proofs.YtjbihgfdgaiecaaGreat
open Go Go.RowKit
theorem putL_all : ∀ (vs cs : List Value) (off : Nat), cs.length = off + vs.length → putL cs off vs = cs.take off ++ vs
 | [], cs, off, h => by
  simp only [putL, List.append_nil]
  rw [List.take_of_length_le (by simp only [List.length_nil] at h; omega)]
 | v :: vs, cs, off, h => by
  simp only [List.length_cons] at h
  rw [putL, putL_all vs (cs.set off v) (off + 1) (by rw [List.length_set]; omega)]
  have hlt : off < (cs.set off v).length := by rw [List.length_set]; omega
  rw [List.take_add_one, List.getElem?_eq_getElem hlt, List.getElem_set_self, List.take_set_of_le (Nat.le_refl _)]
  simp
theorem CallV.at_ms (c : CallV) : c.enc[65]? = some (.slice c.m.p c.m.n c.m.cap) := by
 refine c.at_m 61 _ ?_
 unfold InM.enc
 rw [List.getElem?_append_right (by simp [c.hm])]
 simp [c.hm]
def fitsC (j : Nat) (c : CallV) : Prop := j < 80 ∧ c.m.n ≤ 20 ∧ c.pn ≤ 20
noncomputable def lightB (cs : List CallV) : Bool := @decide (∀ j c, cs[j]? = some c → fitsC j c) (Classical.propDecidable _)
theorem lightB_no {cs : List CallV} {k : Nat} {c : CallV} (h : cs[k]? = some c) (hn : ¬ fitsC k c) : lightB cs = false := by
 unfold lightB
 exact @decide_eq_false _ (Classical.propDecidable _) fun ha => hn (ha k c h)
theorem lightB_yes {cs : List CallV} {k : Nat} (hk : cs.length ≤ k) (h : ∀ j c, j < k → cs[j]? = some c → fitsC j c) : lightB cs = true := by
 unfold lightB
 refine @decide_eq_true _ (Classical.propDecidable _) fun j c hj => h j c ?_ hj
 have := (List.getElem?_eq_some_iff.1 hj).1
 omega
section
variable {P : Program} {ops : Array Oper} {S : Nat → Prop} {Q : Act → World → Prop} {rest : List (Nat × Nat)} {a : Act} {W w : World} {L : List At} {H0 : Nat → Prop} {i : Nat} {o : Oper}
theorem wpS_storeW {t tt : TypeId} {x y : Operand} {b : Nat} {vs cs : List Value} {L2 : List At} (hi : ops[i]? = some o) (hw : Region.wanted o (yielded ops a.tmps) = true) (ho : o.op = .store t x y) (hx : a.eval x = .pointer (some ⟨b, 0, none⟩)) (hy : a.eval y = .agg vs.toArray) (hn : (P.info? t).map (fun i => i.size) = some cs.length) (hvs : vs.length = cs.length) (hone : ∀ u ∈ vs, u.oneCell' = true)
  (hm : Mem L H0 w W) (k : Nat) (hk : L[k]? = some (boxT b (.cells cs.toArray tt (0, 0)))) (hL2 : L.eraseIdx k = L2) (hS : CovS L2 S) (hd : o.dst = none) (h : ∀ W', Mem (boxT b (.cells vs.toArray tt (0, 0)) :: L2) H0 w W' → GK S W W' → wpS P ops S Q rest a W') : wpS P ops S Q ((i, 3) :: rest) a W := by
 subst hL2
 exact wpS_store (cs' := vs) hi hw ho hx hy (by simp [Value.cells]) (hvs ▸ hn) (List.all_eq_true.2 hone) hm k hk (by omega) (by rw [putL_all vs cs 0 (by omega)]; simp) hS hd h
end
end Go.Proofs.YtjbihgfdgaiecaaGreat

/- Rows that a caller hands over whose elements hold rows themselves: what can be read of both. -/
namespace Go.Proofs.YtjbihgfdgaiecaaGreat
open Go Go.ChangeShapes Go.WideShapes Go.ChangeAt Go.RowKit Go.Joins Go.BigFrame
structure ReadQ {α : Type} (E : Elem Tryz.prog α) (Q : World → α → Prop) : Prop where
 cells : Tryz.prog.cellsOf E.t = E.k
 bytes : Tryz.prog.bytesOf E.t = E.bytes
 read : ∀ {H : Type} {enc : TypeId × Value → H} {w : World} {base : Nat} {spare : Nat → Bool} {held : Bool} {fuel : Nat} {cs : List Value} {x : DataW H × List MemPlace}, DataW.trod enc Tryz.prog w base spare held fuel E.t cs = some x → ∃ y : α, cs = E.enc y ∧ Q w y
section
variable {α : Type} {E : Elem Tryz.prog α} {H : Type} {enc : TypeId × Value → H} {w : World} {base : Nat} {spare : Nat → Bool} {held : Bool}
set_option maxRecDepth 100000 in
theorem open_elemsQ [Inhabited α] {Q : World → α → Prop} (hE : ReadQ E Q) {fuel : Nat} {cs : List Value} {x : DataW H × List MemPlace} (h : DataW.trod enc Tryz.prog w base spare held fuel E.sl cs = some x) :
  ∃ (v : Value) (l : List α), cs = [v] ∧ SrcE E w v l ∧ (∀ y ∈ l, Q w y) ∧ (l = [] ∨ ∃ es sp, x.1 = .slice es sp ∧ es.length = l.length) := by
 rcases Go.Deep.open_slice E.under h with ⟨rfl, _⟩ | ⟨a, len, cap, m, n, D, Pl, rfl, _, hlc, hcm, hm, hx, hi⟩
 ·exact ⟨_, [], rfl, ⟨.inl ⟨rfl, _, _, rfl⟩, none, 0, rfl, Nat.le_refl _, fun _ => rfl⟩, fun _ h => by simp at h, .inl rfl⟩
 ·rw [hE.cells] at hi
  have hlm : len ≤ m := by rw [hm]; split <;> omega
  have hok : ∀ l : List α, l.length = len → ∃ p c, Value.slice (some a) len cap = .slice p l.length c ∧ l.length ≤ c ∧ (p = none → c = 0) := fun l hl => ⟨some a, cap, by rw [hl], by omega, fun h => by cases h⟩
  have each : ∀ i, i < len → ∃ y : α, (∀ j u, (E.enc y)[j]? = some u → w.cell? ((a.add (i * E.k)).add j) = some u) ∧ Q w y := by
   intro i hil
   obtain ⟨cs', hc, ht⟩ := hi i (by omega)
   obtain ⟨y, rfl, hQ⟩ := hE.read ht
   obtain ⟨hlen, _, hat⟩ := World.cells?_some hc
   refine ⟨y, fun j u hu => ?_, hQ⟩
   have hj : j < E.k := by have := (List.getElem?_eq_some_iff.1 hu).1; rw [E.len] at this; exact this
   rw [hat j hj]
   exact hu
  by_cases h0 : len = 0
  ·subst h0
   exact ⟨_, [], rfl, ⟨.inl ⟨rfl, _, _, rfl⟩, hok [] rfl⟩, fun _ h => by simp at h, .inl rfl⟩
  ·obtain ⟨f, hf⟩ : ∃ f : Nat → α, ∀ i, i < len → (∀ j u, (E.enc (f i))[j]? = some u → w.cell? ((a.add (i * E.k)).add j) = some u) ∧ Q w (f i) :=
    ⟨fun i => if h : i < len then Classical.choose (each i h) else default, fun i h => by
     dsimp only
     rw [dif_pos h]
     exact Classical.choose_spec (each i h)⟩
   have hz : ∃ u, w.cell? a = some u := by
    have hp : 0 < (E.enc (f 0)).length := by rw [E.len]; exact E.pos
    have := (hf 0 (by omega)).1 0 _ (List.getElem?_eq_getElem hp)
    rw [show (a.add (0 * E.k)).add 0 = a by unfold Addr.add; simp] at this
    exact ⟨_, this⟩
   obtain ⟨u0, hz⟩ := hz
   have ha := addr_spot a w _ hz
   obtain ⟨b, o, hbo⟩ : ∃ b o, a = ⟨b, o, none⟩ := ⟨_, _, ha⟩
   subst hbo
   have hlt : b < w.heap.size := block_lt_of_cell hz
   refine ⟨_, (List.range len).map f, rfl, ⟨.inr ⟨b, o, cap, by simp, hlt, fun k c hk j u hu => ?_⟩, hok _ (by simp)⟩, fun y hy => (by obtain ⟨i, hi, rfl⟩ := List.mem_map.1 hy; exact (hf i (List.mem_range.1 hi)).2), .inr ⟨_, _, by rw [hx], by simp⟩⟩
   have hkl : k < len := by
    have := (List.getElem?_eq_some_iff.1 hk).1
    simpa using this
   have e : c = f k := by
    simp [List.getElem?_range hkl] at hk
    exact hk.symm
   rw [e] at hu
   have := (hf k hkl).1 j u hu
   simpa only [addr_off] using this
set_option maxRecDepth 100000 in
theorem open_srcQ [Inhabited α] {Q : World → α → Prop} (hE : ReadQ E Q) {r : Reach} {b0 : Nat} {v : Value} {d : DataW H} {p : List MemPlace} (hv : Value.okWide Tryz.prog w r b0 E.sl v) (h : DataW.Trod enc Tryz.prog w base spare held E.sl v d p) :
  ∃ l : List α, SrcE E w v l ∧ (∀ y ∈ l, Q w y) ∧ (l = [] ∨ ∃ es sp, d = .slice es sp ∧ es.length = l.length) := by
 obtain ⟨a, len, cap, rfl⟩ := okWide_slice E.under hv
 obtain ⟨fuel, hf⟩ := h
 obtain ⟨v', l, hcs, hl, hq, hm⟩ := open_elemsQ hE hf
 obtain rfl : v' = .slice a len cap := by
  simp [Value.cells] at hcs
  exact hcs.symm
 exact ⟨l, hl, hq, hm⟩
end
theorem readI6 : Readable elemI where
 cells := by kernel_rfl
 bytes := by kernel_rfl
 read h := by
  obtain ⟨n, h, -, -⟩ := DataW.trod_int Tryz.underlying3 h
  exact ⟨n, h⟩
instance : Inhabited Cl := ⟨⟨0, 0, 0⟩⟩
theorem readCl : Readable elemCl where
 cells := by kernel_rfl
 bytes := by kernel_rfl
 read := by
  intro H enc w base spare held fuel cs x h
  obtain ⟨ys, m, -, -, hl, hys, hq⟩ := DataW.trod_struct Tryz.underlying30 h
  have hl : cs.length = 3 := hl.trans (by kernel_rfl)
  have hy : ys.length = 3 := hys
  have q0 : DataW.trod enc Tryz.prog w base spare held m 3 ((cs.drop 0).take (Tryz.prog.cellsOf 3)) = ys[0]? := hq 0 _ rfl
  have q1 : DataW.trod enc Tryz.prog w base spare held m 3 ((cs.drop 1).take (Tryz.prog.cellsOf 3)) = ys[1]? := hq 1 _ rfl
  have q2 : DataW.trod enc Tryz.prog w base spare held m 3 ((cs.drop 2).take (Tryz.prog.cellsOf 3)) = ys[2]? := hq 2 _ rfl
  rw [List.getElem?_eq_getElem (by omega), kInt] at q0 q1 q2
  obtain ⟨j0, g0, -, -⟩ := DataW.trod_int Tryz.underlying3 q0
  obtain ⟨j1, g1, -, -⟩ := DataW.trod_int Tryz.underlying3 q1
  obtain ⟨j2, g2, -, -⟩ := DataW.trod_int Tryz.underlying3 q2
  have g0 := one_at g0
  have g1 := one_at g1
  have g2 := one_at g2
  obtain ⟨a, b, c, rfl⟩ := three_of hl
  obtain rfl : a = .int .i64 j0 := Option.some.inj g0
  obtain rfl : b = .int .i64 j1 := Option.some.inj g1
  obtain rfl : c = .int .i64 j2 := Option.some.inj g2
  exact ⟨⟨j0, j1, j2⟩, rfl⟩
def CallQ (w : World) (y : CallV) : Prop := (∃ l, SrcE elemCl w (.slice y.m.p y.m.n y.m.cap) l) ∧ ∃ ps, SrcE elemI w (.slice y.pp y.pn y.pc) ps
set_option maxRecDepth 100000 in
theorem readCallQ : ReadQ elemCall CallQ where
 cells := by kernel_rfl
 bytes := by kernel_rfl
 read := by
  intro H enc w base spare held fuel cs x h
  have hone := trod_one (P := Tryz.prog) 6 fuel 49 cs x (by kernel_rfl) h
  obtain ⟨xs, n, rfl, -, hl, hxs, hp⟩ := DataW.trod_struct Tryz.underlying49 h
  have hl : cs.length = 68 := hl.trans (by kernel_rfl)
  have hx : xs.length = 5 := hxs
  clear h hxs
  have p0 : DataW.trod enc Tryz.prog w base spare held n 3 ((cs.drop 0).take (Tryz.prog.cellsOf 3)) = xs[0]? := hp 0 _ rfl
  have p1 : DataW.trod enc Tryz.prog w base spare held n 30 ((cs.drop 1).take (Tryz.prog.cellsOf 30)) = xs[1]? := hp 1 _ rfl
  have p2 : DataW.trod enc Tryz.prog w base spare held n 46 ((cs.drop 4).take (Tryz.prog.cellsOf 46)) = xs[2]? := hp 2 _ rfl
  have p3 : DataW.trod enc Tryz.prog w base spare held n 36 ((cs.drop 66).take (Tryz.prog.cellsOf 36)) = xs[3]? := hp 3 _ rfl
  have p4 : DataW.trod enc Tryz.prog w base spare held n 47 ((cs.drop 67).take (Tryz.prog.cellsOf 47)) = xs[4]? := hp 4 _ rfl
  clear hp
  rw [List.getElem?_eq_getElem (by omega)] at p0 p1 p2 p3 p4
  rw [kInt] at p0
  rw [kCl] at p1
  rw [kMsg] at p2
  rw [kInts] at p3
  rw [kU64] at p4
  obtain ⟨i0, h0, -, -⟩ := DataW.trod_int Tryz.underlying3 p0
  have h0 := one_at h0
  obtain ⟨v3, l3, h3, s3, -⟩ := open_elems readI6 p3
  obtain ⟨a3, n3, c3, e3⟩ := trod_sl Tryz.underlying36 p3
  obtain rfl : v3 = .slice a3 n3 c3 := List.cons.inj (h3.symm.trans e3) |>.1
  have h3 := one_at h3
  obtain ⟨i4, h4, -, w4⟩ := DataW.trod_int Tryz.underlying47 p4
  have h4 := one_at h4
  obtain ⟨ys, m, -, -, -, hys, hq⟩ := DataW.trod_struct Tryz.underlying30 p1
  have hy : ys.length = 3 := hys
  have q0 : DataW.trod enc Tryz.prog w base spare held m 3 ((((cs.drop 1).take 3).drop 0).take (Tryz.prog.cellsOf 3)) = ys[0]? := hq 0 _ rfl
  have q1 : DataW.trod enc Tryz.prog w base spare held m 3 ((((cs.drop 1).take 3).drop 1).take (Tryz.prog.cellsOf 3)) = ys[1]? := hq 1 _ rfl
  have q2 : DataW.trod enc Tryz.prog w base spare held m 3 ((((cs.drop 1).take 3).drop 2).take (Tryz.prog.cellsOf 3)) = ys[2]? := hq 2 _ rfl
  clear hq hys
  rw [List.getElem?_eq_getElem (by omega), kInt] at q0 q1 q2
  obtain ⟨j0, g0, -, -⟩ := DataW.trod_int Tryz.underlying3 q0
  obtain ⟨j1, g1, -, -⟩ := DataW.trod_int Tryz.underlying3 q1
  obtain ⟨j2, g2, -, -⟩ := DataW.trod_int Tryz.underlying3 q2
  have g0 := sub_at (one_at g0)
  have g1 := sub_at (one_at g1)
  have g2 := sub_at (one_at g2)
  obtain ⟨zs, o, -, -, -, hzs, hr⟩ := DataW.trod_struct Tryz.underlying46 p2
  have hz : zs.length = 12 := hzs
  have r0 : DataW.trod enc Tryz.prog w base spare held o 3 ((((cs.drop 4).take 62).drop 0).take (Tryz.prog.cellsOf 3)) = zs[0]? := hr 0 _ rfl
  have r1 : DataW.trod enc Tryz.prog w base spare held o 3 ((((cs.drop 4).take 62).drop 1).take (Tryz.prog.cellsOf 3)) = zs[1]? := hr 1 _ rfl
  have r2 : DataW.trod enc Tryz.prog w base spare held o 3 ((((cs.drop 4).take 62).drop 2).take (Tryz.prog.cellsOf 3)) = zs[2]? := hr 2 _ rfl
  have r3 : DataW.trod enc Tryz.prog w base spare held o 3 ((((cs.drop 4).take 62).drop 3).take (Tryz.prog.cellsOf 3)) = zs[3]? := hr 3 _ rfl
  have r4 : DataW.trod enc Tryz.prog w base spare held o 3 ((((cs.drop 4).take 62).drop 4).take (Tryz.prog.cellsOf 3)) = zs[4]? := hr 4 _ rfl
  have r5 : DataW.trod enc Tryz.prog w base spare held o 3 ((((cs.drop 4).take 62).drop 5).take (Tryz.prog.cellsOf 3)) = zs[5]? := hr 5 _ rfl
  have r6 : DataW.trod enc Tryz.prog w base spare held o 44 ((((cs.drop 4).take 62).drop 61).take (Tryz.prog.cellsOf 44)) = zs[11]? := hr 11 _ rfl
  clear hr hzs
  rw [List.getElem?_eq_getElem (by omega), kInt] at r0 r1 r2 r3 r4 r5
  rw [List.getElem?_eq_getElem (by omega), kCls] at r6
  obtain ⟨k0, f0, -, -⟩ := DataW.trod_int Tryz.underlying3 r0
  obtain ⟨k1, f1, -, -⟩ := DataW.trod_int Tryz.underlying3 r1
  obtain ⟨k2, f2, -, -⟩ := DataW.trod_int Tryz.underlying3 r2
  obtain ⟨k3, f3, -, -⟩ := DataW.trod_int Tryz.underlying3 r3
  obtain ⟨k4, f4, -, -⟩ := DataW.trod_int Tryz.underlying3 r4
  obtain ⟨k5, f5, -, -⟩ := DataW.trod_int Tryz.underlying3 r5
  obtain ⟨v6, l6, f6, s6, -⟩ := open_elems readCl r6
  obtain ⟨a6, n6, c6, e6⟩ := trod_sl Tryz.underlying44 r6
  obtain rfl : v6 = .slice a6 n6 c6 := List.cons.inj (f6.symm.trans e6) |>.1
  have f0 := sub_at (one_at f0)
  have f1 := sub_at (one_at f1)
  have f2 := sub_at (one_at f2)
  have f3 := sub_at (one_at f3)
  have f4 := sub_at (one_at f4)
  have f5 := sub_at (one_at f5)
  have f6 := sub_at (one_at f6)
  clear p0 p1 p2 p3 p4 q0 q1 q2 r0 r1 r2 r3 r4 r5 r6
  have w4 : IntKind.u64.min ≤ i4 ∧ i4 ≤ IntKind.u64.max := by simpa [Lit.wf] using w4
  obtain ⟨c, rfl⟩ := call_of hl hone (fun i hi => by
   have : i = 0 ∨ i = 1 ∨ i = 2 ∨ i = 3 ∨ i = 4 ∨ i = 5 ∨ i = 6 ∨ i = 7 ∨ i = 8 ∨ i = 9 := by omega
   rcases this with rfl | rfl | rfl | rfl | rfl | rfl | rfl | rfl | rfl | rfl
   ·exact ⟨_, h0⟩
   ·exact ⟨_, g0⟩
   ·exact ⟨_, g1⟩
   ·exact ⟨_, g2⟩
   ·exact ⟨_, f0⟩
   ·exact ⟨_, f1⟩
   ·exact ⟨_, f2⟩
   ·exact ⟨_, f3⟩
   ·exact ⟨_, f4⟩
   ·exact ⟨_, f5⟩) ⟨_, _, _, f6⟩ ⟨_, _, _, h3⟩ ⟨_, h4, u64_is w4.1 w4.2⟩
  have e6 := Option.some.inj (c.at_ms.symm.trans f6)
  have e3 := Option.some.inj (c.at_p.symm.trans h3)
  exact ⟨c, rfl, ⟨l6, e6 ▸ s6⟩, l3, e3 ▸ s3⟩
end Go.Proofs.YtjbihgfdgaiecaaGreat

/- Calls that are light enough. -/
namespace Go.Proofs.YtjbihgfdgaiecaaGreat
open Go Go.RowKit Go.BigFrame
theorem light_cases (k : Nat) (y : CallV) : (80 : Int) ≤ (k : Int) ∨ (¬ (80 : Int) ≤ (k : Int) ∧ (20 : Int) < (y.m.n : Int)) ∨ (¬ (80 : Int) ≤ (k : Int) ∧ ¬ (20 : Int) < (y.m.n : Int) ∧ (20 : Int) < (y.pn : Int)) ∨ (¬ (80 : Int) ≤ (k : Int) ∧ ¬ (20 : Int) < (y.m.n : Int) ∧ ¬ (20 : Int) < (y.pn : Int)) := by omega
set_option maxHeartbeats 4000000 in
set_option maxRecDepth 100000 in
theorem light_d (R : At) (v : Value) (cs : List CallV) (hR : ∀ W H, R.p W H → RowAt elemCall W v cs) : Does Tryz.prog 4 #[v] [R] (.bool (lightB cs)) [R] := by
 intro w H hp
 have HM0 := Lib.hid (mem_refl hp)
 clear hp
 obtain ⟨p, cap, rfl, -⟩ := (HM0.out.row 0 rfl hR).form
 go_enter Tryz.func4, Tryz.ntmps4
 refine wp_seq ?_
 refine wp_region_N [(0, 1)] (by kernel_rfl) ?_
 refine wS1 [0] ?_
 repeat (go_big_quiet_step (fail))
 refine wpQuiet_nil ?_
 refine wpS_nil ?_
 refine then_normal ?_
 refine wp_seq ?_
 refine wp_seq ?_
 refine wp_region_N [(0, 1), (1, 1), (2, 1)] (by kernel_rfl) ?_
 refine wS1 [0, 1, 2] ?_
 repeat (go_big_quiet_step (fail))
 refine wpQuiet_nil ?_
 refine wpS_nil ?_
 refine then_normal ?_
 refine wp_block ?_
 refine wp_loop_F [2, 3, 4, 7, 8, 9, 10, 11, 12, 13, 14, 15, 16, 17, 18, 19, 20, 21, 22, 23, 24, 25, 26, 27] (fun n vs W' => ∃ k : Nat, n = cs.length - k ∧ vs 7 = .int .i64 (k : Int) ∧ k ≤ cs.length ∧ (∀ j c, j < k → cs[j]? = some c → fitsC j c) ∧ Mem [R] H w W') (n0 := cs.length) ?_ ?_
 ·exact ⟨0, rfl, rfl, Nat.zero_le _, fun j c hj _ => absurd hj (Nat.not_lt_zero j), (Mem.only (M := [_]) HM0.out [0] rfl)⟩
 rintro n vs W' ⟨k, rfl, e7, hk, hfit, hm⟩
 simp only [putAll, List.map_cons, List.map_nil, Act.put, List.setIfInBounds_toArray, List.set_cons_succ, List.set_cons_zero]
 rw [e7]
 clear e7
 have HM1 := Lib.hid hm
 clear hm
 refine wp_seq ?_
 refine wp_region_N [(0, 1)] (by kernel_rfl) ?_
 refine wS1 [0] ?_
 repeat (go_big_quiet_step (fail))
 refine wpQuiet_nil ?_
 refine wpS_nil ?_
 refine then_normal ?_
 refine wp_seq ?_
 refine wp_cond_split rfl (fun h2 => ?_) (fun h2 => ?_)
 ·have hk1 : k + 1 ≤ cs.length := by have : (k : Int) < (cs.length : Int) := (by simpa using h2); omega
  clear h2
  obtain ⟨y, hy⟩ : ∃ y, cs[k]? = some y := ⟨_, List.getElem?_eq_getElem hk1⟩
  refine wp_skip ?_
  refine then_normal ?_
  refine wp_seq ?_
  refine wp_block ?_
  refine wp_seq ?_
  refine wp_region_N [(0, 1), (1, 1), (2, 1), (3, 3), (4, 1), (5, 3)] (by kernel_rfl) ?_
  refine wS1 [0] ?_
  repeat (go_big_quiet_step (fail))
  refine wpQuiet_nil ?_
  refine wpS_index (E := elemCall) (i := 1) (d := some 10) rfl (by rfl) rfl rfl rfl (HM1.out.row 0 rfl hR) (hy) rfl ?_
  intro eb3 eo4 hc5
  simp only [Act.put, pA, pB, pC]
  refine wpS_loadA (i := 2) (d := some 11) (cells := y.enc) rfl (by rfl) rfl rfl hc5 Tryz.underlying49 rfl (by rw [CallV.len]; kernel_rfl) rfl ?_
  simp only [Act.put, pA, pB, pC]
  refine wpS_alloc (i := 3) (dd := 4) (z := .agg #[.int .i64 0, .int .i64 0, .int .i64 0, .int .i64 0, .int .i64 0, .int .i64 0, .int .i64 0, .int .i64 0, .int .i64 0, .int .i64 0, .int .i64 0, .int .i64 0, .string ByteArray.empty, .int .i64 0, .int .i64 0, .int .i64 0, .int .i64 0, .int .i64 0, .int .i64 0, .int .i64 0, .int .i64 0, .slice none 0 0, .int .i64 0, .int .i64 0, .int .i64 0, .int .i64 0, .int .i64 0, .int .i64 0, .int .i64 0, .int .i64 0, .int .i64 0, .int .i64 0, .slice none 0 0, .int .i64 0, .int .i64 0, .int .i64 0, .int .i64 0, .int .i64 0, .int .i64 0, .int .i64 0, .int .i64 0, .int .i64 0, .int .i64 0, .int .i64 0, .int .i64 0, .int .i64 0, .int .i64 0, .int .i64 0, .int .i64 0, .int .i64 0, .int .i64 0, .int .i64 0, .int .i64 0, .int .i64 0, .int .i64 0, .int .i64 0, .int .i64 0, .int .i64 0, .int .i64 0, .int .i64 0, .int .i64 0, .int .i64 0, .int .i64 0, .int .i64 0, .int .i64 0, .slice none 0 0, .slice none 0 0, .int .u64 0]) (cs := #[.int .i64 0, .int .i64 0, .int .i64 0, .int .i64 0, .int .i64 0, .int .i64 0, .int .i64 0, .int .i64 0, .int .i64 0, .int .i64 0, .int .i64 0, .int .i64 0, .string ByteArray.empty, .int .i64 0, .int .i64 0, .int .i64 0, .int .i64 0, .int .i64 0, .int .i64 0, .int .i64 0, .int .i64 0, .slice none 0 0, .int .i64 0, .int .i64 0, .int .i64 0, .int .i64 0, .int .i64 0, .int .i64 0, .int .i64 0, .int .i64 0, .int .i64 0, .int .i64 0, .slice none 0 0, .int .i64 0, .int .i64 0, .int .i64 0, .int .i64 0, .int .i64 0, .int .i64 0, .int .i64 0, .int .i64 0, .int .i64 0, .int .i64 0, .int .i64 0, .int .i64 0, .int .i64 0, .int .i64 0, .int .i64 0, .int .i64 0, .int .i64 0, .int .i64 0, .int .i64 0, .int .i64 0, .int .i64 0, .int .i64 0, .int .i64 0, .int .i64 0, .int .i64 0, .int .i64 0, .int .i64 0, .int .i64 0, .int .i64 0, .int .i64 0, .int .i64 0, .int .i64 0, .slice none 0 0, .slice none 0 0, .int .u64 0]) rfl (by rfl) rfl (by kernel_rfl) rfl HM1.out covS_nil rfl ?_
  rintro b8 W7 hm6 -
  have HM9 := Lib.hid hm6
  clear hm6
  simp only [Act.put, pA, pB, pC]
  refine wS1 [4] ?_
  repeat (go_big_quiet_step (fail))
  refine wpQuiet_nil ?_
  refine wpS_storeW (i := 5) (vs := y.enc) (L2 := [_]) rfl (by rfl) rfl rfl rfl (by kernel_rfl) (by rw [CallV.len]; rfl) (fun u hu => elemCall.one y u hu) HM9.out 0 rfl rfl covS_nil rfl ?_
  rintro W11 hm10 -
  have HM12 := Lib.hid hm10
  clear hm10
  refine wpS_nil ?_
  refine then_normal ?_
  refine wp_seq ?_
  rcases light_cases k y with h80 | ⟨h80, hn⟩ | ⟨h80, hn, hp⟩ | ⟨h80, hn, hp⟩
  ·have hbad : Hid (¬ fitsC k y) := Lib.hid (fun h => by have := h.1; omega)
   have g80 : decide ((80 : Int) ≤ (k : Int)) = true := decide_eq_true h80
   clear h80
   refine wp_region_N [(0, 1), (1, 1), (2, 1), (3, 1), (4, 1), (5, 1), (6, 1), (7, 1), (8, 1), (9, 1), (10, 1), (11, 1), (12, 1), (13, 1), (14, 1)] (by kernel_rfl) ?_
   refine wS1 [0, 1, 2, 3, 4] ?_
   repeat (go_big_quiet_step (fail))
   refine wpQuiet_nil ?_
   refine wpS_skip (i := 5) (d := some 17) rfl (by rfl) rfl ?_
   simp only [Act.put, pA, pB, pC]
   refine wS1 [6, 7, 8, 9, 10] ?_
   repeat (go_big_quiet_step (fail))
   refine wpQuiet_nil ?_
   refine wpS_skip (i := 11) (d := some 23) rfl (by rfl) rfl ?_
   simp only [Act.put, pA, pB, pC]
   refine wS1 [12, 13, 14] ?_
   repeat (go_big_quiet_step (fail))
   refine wpQuiet_nil ?_
   refine wpS_nil ?_
   refine then_normal ?_
   refine wp_cond_true rfl ?_
   refine wp_seq ?_
   refine wp_region_N [(0, 1)] (by kernel_rfl) ?_
   refine wS1 [0] ?_
   repeat (go_big_quiet_step (fail))
   refine wpQuiet_nil ?_
   refine wpS_nil ?_
   refine then_normal ?_
   refine wp_ret ?_
   refine block_ret (then_ret (then_ret (block_ret (then_ret ?_))))
   refine bodyPost_ret (results_tmp rfl _ _ _) rfl ?_
   rw [show lightB cs = false from lightB_no hy hbad.out]
   exact does_ret (Mem.only (M := [_]) HM12.out [1] rfl) rfl rfl
  ·have hbad : Hid (¬ fitsC k y) := Lib.hid (fun h => by have := h.2.1; omega)
   have g80 : decide ((80 : Int) ≤ (k : Int)) = false := decide_eq_false h80
   have g20 : decide ((20 : Int) < (y.m.n : Int)) = true := decide_eq_true hn
   clear h80 hn
   refine wp_region_N [(0, 1), (1, 1), (2, 1), (3, 1), (4, 1), (5, 1), (6, 1), (7, 1), (8, 1), (9, 1), (10, 1), (11, 1), (12, 1), (13, 1), (14, 1)] (by kernel_rfl) ?_
   refine wS1 [0, 1, 2, 3, 4] ?_
   repeat (go_big_quiet_step (fail))
   refine wpQuiet_nil ?_
   refine wpS_load1 (i := 5) (d := some 17) (u := .slice y.m.p y.m.n y.m.cap) rfl (by rfl) rfl rfl ((HM12.out.cellL 0 rfl 65).trans y.at_ms) Tryz.underlying44 rfl rfl ?_
   simp only [Act.put, pA, pB, pC]
   refine wS1 [6, 7, 8, 9, 10] ?_
   repeat (go_big_quiet_step (fail))
   refine wpQuiet_nil ?_
   refine wpS_skip (i := 11) (d := some 23) rfl (by rfl) rfl ?_
   simp only [Act.put, pA, pB, pC]
   refine wS1 [12, 13, 14] ?_
   repeat (go_big_quiet_step (fail))
   refine wpQuiet_nil ?_
   refine wpS_nil ?_
   refine then_normal ?_
   refine wp_cond_true rfl ?_
   refine wp_seq ?_
   refine wp_region_N [(0, 1)] (by kernel_rfl) ?_
   refine wS1 [0] ?_
   repeat (go_big_quiet_step (fail))
   refine wpQuiet_nil ?_
   refine wpS_nil ?_
   refine then_normal ?_
   refine wp_ret ?_
   refine block_ret (then_ret (then_ret (block_ret (then_ret ?_))))
   refine bodyPost_ret (results_tmp rfl _ _ _) rfl ?_
   rw [show lightB cs = false from lightB_no hy hbad.out]
   exact does_ret (Mem.only (M := [_]) HM12.out [1] rfl) rfl rfl
  ·have hbad : Hid (¬ fitsC k y) := Lib.hid (fun h => by have := h.2.2; omega)
   have g80 : decide ((80 : Int) ≤ (k : Int)) = false := decide_eq_false h80
   have g20 : decide ((20 : Int) < (y.m.n : Int)) = false := decide_eq_false hn
   have g21 : decide ((20 : Int) < (y.pn : Int)) = true := decide_eq_true hp
   clear h80 hn hp
   refine wp_region_N [(0, 1), (1, 1), (2, 1), (3, 1), (4, 1), (5, 1), (6, 1), (7, 1), (8, 1), (9, 1), (10, 1), (11, 1), (12, 1), (13, 1), (14, 1)] (by kernel_rfl) ?_
   refine wS1 [0, 1, 2, 3, 4] ?_
   repeat (go_big_quiet_step (fail))
   refine wpQuiet_nil ?_
   refine wpS_load1 (i := 5) (d := some 17) (u := .slice y.m.p y.m.n y.m.cap) rfl (by rfl) rfl rfl ((HM12.out.cellL 0 rfl 65).trans y.at_ms) Tryz.underlying44 rfl rfl ?_
   simp only [Act.put, pA, pB, pC]
   refine wS1 [6, 7, 8, 9, 10] ?_
   repeat (go_big_quiet_step (fail))
   refine wpQuiet_nil ?_
   refine wpS_load1 (i := 11) (d := some 23) (u := .slice y.pp y.pn y.pc) rfl (by rfl) rfl rfl ((HM12.out.cellL 0 rfl 66).trans y.at_p) Tryz.underlying36 rfl rfl ?_
   simp only [Act.put, pA, pB, pC]
   refine wS1 [12, 13, 14] ?_
   repeat (go_big_quiet_step (fail))
   refine wpQuiet_nil ?_
   refine wpS_nil ?_
   refine then_normal ?_
   refine wp_cond_true rfl ?_
   refine wp_seq ?_
   refine wp_region_N [(0, 1)] (by kernel_rfl) ?_
   refine wS1 [0] ?_
   repeat (go_big_quiet_step (fail))
   refine wpQuiet_nil ?_
   refine wpS_nil ?_
   refine then_normal ?_
   refine wp_ret ?_
   refine block_ret (then_ret (then_ret (block_ret (then_ret ?_))))
   refine bodyPost_ret (results_tmp rfl _ _ _) rfl ?_
   rw [show lightB cs = false from lightB_no hy hbad.out]
   exact does_ret (Mem.only (M := [_]) HM12.out [1] rfl) rfl rfl
  ·have hk80 : k < 80 := by omega
   have hok : Hid (fitsC k y) := Lib.hid ⟨by omega, by omega, by omega⟩
   have g80 : decide ((80 : Int) ≤ (k : Int)) = false := decide_eq_false h80
   have g20 : decide ((20 : Int) < (y.m.n : Int)) = false := decide_eq_false hn
   have g21 : decide ((20 : Int) < (y.pn : Int)) = false := decide_eq_false hp
   clear h80 hn hp
   refine wp_region_N [(0, 1), (1, 1), (2, 1), (3, 1), (4, 1), (5, 1), (6, 1), (7, 1), (8, 1), (9, 1), (10, 1), (11, 1), (12, 1), (13, 1), (14, 1)] (by kernel_rfl) ?_
   refine wS1 [0, 1, 2, 3, 4] ?_
   repeat (go_big_quiet_step (fail))
   refine wpQuiet_nil ?_
   refine wpS_load1 (i := 5) (d := some 17) (u := .slice y.m.p y.m.n y.m.cap) rfl (by rfl) rfl rfl ((HM12.out.cellL 0 rfl 65).trans y.at_ms) Tryz.underlying44 rfl rfl ?_
   simp only [Act.put, pA, pB, pC]
   refine wS1 [6, 7, 8, 9, 10] ?_
   repeat (go_big_quiet_step (fail))
   refine wpQuiet_nil ?_
   refine wpS_load1 (i := 11) (d := some 23) (u := .slice y.pp y.pn y.pc) rfl (by rfl) rfl rfl ((HM12.out.cellL 0 rfl 66).trans y.at_p) Tryz.underlying36 rfl rfl ?_
   simp only [Act.put, pA, pB, pC]
   refine wS1 [12, 13, 14] ?_
   repeat (go_big_quiet_step (fail))
   refine wpQuiet_nil ?_
   refine wpS_nil ?_
   refine then_normal ?_
   refine wp_cond_false rfl ?_
   refine wp_skip ?_
   refine block_normal ?_
   refine then_normal ?_
   refine wp_region_N [(0, 1), (1, 1)] (by kernel_rfl) ?_
   refine wS1 [0, 1] ?_
   repeat (go_big_quiet_step (fail))
   refine wpQuiet_nil ?_
   refine wpS_nil ?_
   refine then_normal ?_
   refine ⟨by kernel_rfl, ?_⟩
   refine ⟨cs.length - (k + 1), by omega, k + 1, rfl, rfl, hk1, ?_, (Mem.only (M := [_]) HM12.out [1] rfl)⟩
   intro j c hj hc
   by_cases e : j < k
   ·exact hfit j c e hc
   ·obtain rfl : j = k := by omega
    rw [hy] at hc
    obtain rfl := Option.some.inj hc
    exact hok.out
 ·have hge : Hid (cs.length ≤ k) := Lib.hid (by have : ¬ (k : Int) < (cs.length : Int) := (by simpa using h2); omega)
  clear h2
  refine wp_exit ?_
  refine then_exit (then_exit (block_exit ?_))
  refine then_normal ?_
  refine wp_seq ?_
  refine wp_region_N [(0, 1)] (by kernel_rfl) ?_
  refine wS1 [0] ?_
  repeat (go_big_quiet_step (fail))
  refine wpQuiet_nil ?_
  refine wpS_nil ?_
  refine then_normal ?_
  refine wp_ret ?_
  refine bodyPost_ret (results_tmp rfl _ _ _) rfl ?_
  rw [show lightB cs = true from lightB_yes hge.out hfit]
  exact does_ret (Mem.only (M := [_]) HM1.out [0] rfl) rfl rfl
end Go.Proofs.YtjbihgfdgaiecaaGreat
