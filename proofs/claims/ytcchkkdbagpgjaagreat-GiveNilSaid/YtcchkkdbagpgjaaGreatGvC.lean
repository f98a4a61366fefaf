/- Messages and calls that a caller hands over: their cells, what can be read of them, how long their bags' rows are. -/
import Derived.Test.YtcchkkdbagpgjaaGreatQ12
import Derived.Test.YtcchkkdbagpgjaaGreatLgD
import Derived.Test.YtcchkkdbagpgjaaGreatVcT
namespace Go.Proofs.YtcchkkdbagpgjaaGreat
open Go Go.ChangeShapes Go.WideShapes Go.ChangeAt Go.RowKit Go.Joins Go.BigFrame
def MxQ (w : World) (x : Mx) : Prop := SrcE elemV w x.sv x.m.b.v
def MxF {H : Type} (t : TypeId) (d : DataW H) (x : Mx) : Prop := ∀ N, (∀ n ∈ DataW.weights Tryz.prog t d, n ≤ N) → x.m.b.v.length * 32 ≤ N
section
variable {H : Type} {enc : TypeId × Value → H} {w : World} {base : Nat} {spare : Nat → Bool} {held : Bool}
theorem gpart_at {cs : List Value} {o n k : Nat} {l L : List Value} (hl : l.length = n) (h : (cs.drop o).take n = l) (hL : ∀ j u, l[j]? = some u → L[o + j]? = some u) (h1 : o ≤ k) (h2 : k < o + n) : cs[k]? = L[k]? := by
 have q := drop_take_at (cs := cs) (o := o) (n := n) (k := k - o) (by omega)
 rw [h, show o + (k - o) = k by omega] at q
 have hlt : k - o < l.length := by omega
 have g := hL (k - o) _ (List.getElem?_eq_getElem hlt)
 rw [show o + (k - o) = k by omega] at g
 rw [← q, List.getElem?_eq_getElem hlt]
 exact g.symm
theorem enc_ring {x : Mx} : ∀ k u, (rgC x.m.r (.slice x.rp x.rn x.rc))[k]? = some u → x.enc[18 + k]? = some u := fun k u h => by
 have h1 := sub_app ([Value.int .i64 x.m.kind, .int .i64 x.m.frm, .int .i64 x.m.dst, .int .i64 x.m.seq, .int .i64 x.m.re, .int .i64 x.m.abt, .int .i64 x.m.part, .int .i64 x.m.epoch, .string x.m.key] ++ bgC x.m.b.k (.slice x.vp x.vn x.vc)) (rgC x.m.r (.slice x.rp x.rn x.rc)) [.slice x.cp x.cn x.cc] h
 rw [List.append_assoc] at h1
 exact h1
set_option maxRecDepth 100000 in
theorem read_msg {fuel : Nat} {cs : List Value} {x : DataW H × List MemPlace} (h : DataW.trod enc Tryz.prog w base spare held fuel 52 cs = some x) :
  ∃ y : Mx, cs = y.enc ∧ MxQ w y ∧ MxF 52 x.1 y := by
 have cInt : Tryz.prog.cellsOf 3 = 1 := by kernel_rfl
 have cStr : Tryz.prog.cellsOf 9 = 1 := by kernel_rfl
 have cB : Tryz.prog.cellsOf 41 = 9 := by kernel_rfl
 have cR : Tryz.prog.cellsOf 49 = 43 := by kernel_rfl
 have cC : Tryz.prog.cellsOf 50 = 1 := by kernel_rfl
 obtain ⟨xs, n, _, hxx, hl, hxs, hp⟩ := DataW.trod_struct Tryz.underlying52 h
 have hl : cs.length = 62 := hl.trans (by kernel_rfl)
 have hx : xs.length = 12 := hxs
 clear h hxs
 have p0 : DataW.trod enc Tryz.prog w base spare held n 3 ((cs.drop 0).take (Tryz.prog.cellsOf 3)) = xs[0]? := hp 0 _ rfl
 have p1 : DataW.trod enc Tryz.prog w base spare held n 3 ((cs.drop 1).take (Tryz.prog.cellsOf 3)) = xs[1]? := hp 1 _ rfl
 have p2 : DataW.trod enc Tryz.prog w base spare held n 3 ((cs.drop 2).take (Tryz.prog.cellsOf 3)) = xs[2]? := hp 2 _ rfl
 have p3 : DataW.trod enc Tryz.prog w base spare held n 3 ((cs.drop 3).take (Tryz.prog.cellsOf 3)) = xs[3]? := hp 3 _ rfl
 have p4 : DataW.trod enc Tryz.prog w base spare held n 3 ((cs.drop 4).take (Tryz.prog.cellsOf 3)) = xs[4]? := hp 4 _ rfl
 have p5 : DataW.trod enc Tryz.prog w base spare held n 3 ((cs.drop 5).take (Tryz.prog.cellsOf 3)) = xs[5]? := hp 5 _ rfl
 have p6 : DataW.trod enc Tryz.prog w base spare held n 3 ((cs.drop 6).take (Tryz.prog.cellsOf 3)) = xs[6]? := hp 6 _ rfl
 have p7 : DataW.trod enc Tryz.prog w base spare held n 3 ((cs.drop 7).take (Tryz.prog.cellsOf 3)) = xs[7]? := hp 7 _ rfl
 have p8 : DataW.trod enc Tryz.prog w base spare held n 9 ((cs.drop 8).take (Tryz.prog.cellsOf 9)) = xs[8]? := hp 8 _ rfl
 have p9 : DataW.trod enc Tryz.prog w base spare held n 41 ((cs.drop 9).take (Tryz.prog.cellsOf 41)) = xs[9]? := hp 9 _ rfl
 have p10 : DataW.trod enc Tryz.prog w base spare held n 49 ((cs.drop 18).take (Tryz.prog.cellsOf 49)) = xs[10]? := hp 10 _ rfl
 have p11 : DataW.trod enc Tryz.prog w base spare held n 50 ((cs.drop 61).take (Tryz.prog.cellsOf 50)) = xs[11]? := hp 11 _ rfl
 clear hp
 have e9 : xs[9]? = some xs[9] := List.getElem?_eq_getElem (by omega)
 rw [List.getElem?_eq_getElem (by omega)] at p0 p1 p2 p3 p4 p5 p6 p7 p8 p9 p10 p11
 rw [cInt] at p0 p1 p2 p3 p4 p5 p6 p7
 rw [cStr] at p8
 rw [cB] at p9
 rw [cR] at p10
 rw [cC] at p11
 obtain ⟨i0, h0, -, -⟩ := DataW.trod_int Tryz.underlying3 p0
 obtain ⟨i1, h1, -, -⟩ := DataW.trod_int Tryz.underlying3 p1
 obtain ⟨i2, h2, -, -⟩ := DataW.trod_int Tryz.underlying3 p2
 obtain ⟨i3, h3, -, -⟩ := DataW.trod_int Tryz.underlying3 p3
 obtain ⟨i4, h4, -, -⟩ := DataW.trod_int Tryz.underlying3 p4
 obtain ⟨i5, h5, -, -⟩ := DataW.trod_int Tryz.underlying3 p5
 obtain ⟨i6, h6, -, -⟩ := DataW.trod_int Tryz.underlying3 p6
 obtain ⟨i7, h7, -, -⟩ := DataW.trod_int Tryz.underlying3 p7
 obtain ⟨s8, h8, -, -⟩ := DataW.trod_string Tryz.underlying9 p8
 obtain ⟨f9, v9, l9, h9, q9, w9⟩ := read_bag p9
 obtain ⟨⟨r10, v10⟩, h10, q10⟩ := read_ring p10
 dsimp only at h10 q10
 obtain ⟨ca, cn, cc, h11⟩ : ∃ (a : Option Addr) (n c : Nat), (cs.drop 61).take 1 = [.slice a n c] := by
  rcases DataW.trod_slice Tryz.underlying50 p11 with ⟨q, _⟩ | ⟨a, len, cap, _, _, _, _, q, _⟩
  ·exact ⟨none, 0, 0, q⟩
  ·exact ⟨some a, len, cap, q⟩
 obtain ⟨a9, c9, rfl⟩ := src_form q9
 obtain ⟨a10, c10, rfl⟩ := src_form q10
 have h0 := one_at h0
 have h1 := one_at h1
 have h2 := one_at h2
 have h3 := one_at h3
 have h4 := one_at h4
 have h5 := one_at h5
 have h6 := one_at h6
 have h7 := one_at h7
 have h8 := one_at h8
 have h11 := one_at h11
 obtain ⟨y, hy⟩ : ∃ y : Mx, y = ⟨⟨i0, i1, i2, i3, i4, i5, i6, i7, s8, ⟨f9, l9⟩, r10⟩, a9, l9.length, c9, a10, r10.p.2.2.length, c10, ca, cn, cc⟩ := ⟨_, rfl⟩
 refine ⟨y, ?_, by rw [hy]; exact q9, fun N hN => ?_⟩
 ·apply List.ext_getElem?
  intro k
  by_cases k0 : k = 0
  ·rw [k0, show y.enc[0]? = _ from msC_kind, hy]; exact h0
  by_cases k1 : k = 1
  ·rw [k1, show y.enc[1]? = _ from msC_frm, hy]; exact h1
  by_cases k2 : k = 2
  ·rw [k2, show y.enc[2]? = _ from msC_dst, hy]; exact h2
  by_cases k3 : k = 3
  ·rw [k3, show y.enc[3]? = _ from msC_seq, hy]; exact h3
  by_cases k4 : k = 4
  ·rw [k4, show y.enc[4]? = _ from msC_re, hy]; exact h4
  by_cases k5 : k = 5
  ·rw [k5, show y.enc[5]? = _ from msC_abt, hy]; exact h5
  by_cases k6 : k = 6
  ·rw [k6, show y.enc[6]? = _ from msC_part, hy]; exact h6
  by_cases k7 : k = 7
  ·rw [k7, show y.enc[7]? = _ from msC_epoch, hy]; exact h7
  by_cases k8 : k = 8
  ·rw [k8, show y.enc[8]? = _ from msC_key, hy]; exact h8
  by_cases k9 : k < 18
  ·exact gpart_at (o := 9) (n := 9) bgC_len h9 (by have e : ∀ k u, (bgC y.m.b.k (.slice y.vp y.vn y.vc))[k]? = some u → y.enc[9 + k]? = some u := msC_bag; rw [hy] at e ⊢; exact e) (by omega) (by omega)
  by_cases k10 : k < 61
  ·exact gpart_at (o := 18) (n := 43) rgC_len h10 (by have e := enc_ring (x := y); rw [hy] at e ⊢; exact e) (by omega) (by omega)
  by_cases k11 : k = 61
  ·rw [k11, show y.enc[61]? = _ from msC_cl, hy]; exact h11
  ·have hlen : y.enc.length = 62 := elemMx.len y
   rw [List.getElem?_eq_none (by omega), List.getElem?_eq_none (by omega)]
 ·subst hy
  rcases w9 with rfl | ⟨d0, es, sp, he, hn⟩
  ·exact Nat.zero_le _
  ·have hb : Tryz.prog.bytesOf 140 = 32 := by kernel_rfl
   have h6 : (es.length + sp.length) * Tryz.prog.bytesOf 140 ∈ DataW.weights Tryz.prog 41 xs[9].1 := by
    rw [he]
    simp [DataW.weights, DataW.weightsEach, Tryz.underlying41, Tryz.underlying39]
   have h7 : (es.length + sp.length) * Tryz.prog.bytesOf 140 ∈ DataW.weights Tryz.prog 52 x.1 := by
    rw [hxx]
    refine weights_part Tryz.underlying52 ?_
    exact DataW.weights_mem_each (j := 9) (t := 41) (d := xs[9].1) rfl (by rw [List.getElem?_map, e9]; rfl) _ h6
   have h8 := hN _ h7
   rw [hb] at h8
   show l9.length * 32 ≤ N
   omega
set_option maxRecDepth 100000 in
theorem open_msg {r : Reach} {b0 : Nat} {v : Value} {d : DataW H} {p : List MemPlace} (hv : Value.okWide Tryz.prog w r b0 52 v) (h : DataW.Trod enc Tryz.prog w base spare held 52 v d p) : ∃ y : Mx, v = .agg y.enc.toArray ∧ MxQ w y ∧ MxF 52 d y := by
 obtain ⟨cs, rfl, _⟩ := okWide_struct Tryz.underlying52 hv
 obtain ⟨fuel, hf⟩ := h
 obtain ⟨y, hc, hq, hF⟩ := read_msg hf
 have hc : (Value.agg cs).cells.toList = y.enc := hc
 refine ⟨y, ?_, hq, hF⟩
 congr 1
 apply Array.toList_inj.1
 simpa [Value.cells] using hc
end
section
variable {H : Type} {enc : TypeId × Value → H} {w : World} {base : Nat} {spare : Nat → Bool} {held : Bool}
theorem reach_msg {ts : List TypeId} {ds : List (DataW H)} {j : Nat} {d : DataW H} {y : Mx} (hsz : (DataW.weightsEach Tryz.prog ts ds).all (· ≤ reachBytes) = true) (ht : ts[j]? = some 52) (hd : ds[j]? = some d) (h : MxF 52 d y) : y.m.b.v.length ≤ 4398046510976 := by
 have := h _ (reach_fit hsz ht hd)
 omega
end
def msgZero : Value := .agg (default : Mx).enc.toArray
def msgZeroD {H : Type} : DataW H := .agg [.lit (.int .i64 0), .lit (.int .i64 0), .lit (.int .i64 0), .lit (.int .i64 0), .lit (.int .i64 0), .lit (.int .i64 0), .lit (.int .i64 0), .lit (.int .i64 0), .lit (.string []), bagD, ringZeroD, .nil]
end Go.Proofs.YtcchkkdbagpgjaaGreat
