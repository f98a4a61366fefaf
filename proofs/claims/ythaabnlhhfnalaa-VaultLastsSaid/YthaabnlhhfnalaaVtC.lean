/- A call that a caller hands over: its cells, what can be read of it, how long its rows are. -/
import Derived.Test.YthaabnlhhfnalaaLgD
import Derived.Test.YthaabnlhhfnalaaVtM
import Derived.Test.YthaabnlhhfnalaaVcT
namespace Go.Proofs.Ythaabnlhhfnalaa
open Go Go.ChangeShapes Go.WideShapes Go.ChangeAt Go.RowKit Go.Joins Go.BigFrame
structure Cv where
 op : Int
 n : Int
 node : Int
 key : ByteArray
 data : ByteArray
 r : Rg
 b : Bg
 known : Nat → Int
 rp : Option Addr
 rn : Nat
 rc : Nat
 vp : Option Addr
 vn : Nat
 vc : Nat
def Cv.sv (x : Cv) : Value := .slice x.vp x.vn x.vc
def Cv.sr (x : Cv) : Value := .slice x.rp x.rn x.rc
def cvC (x : Cv) : List Value := [.int .i64 x.op, .int .i64 x.n, .int .i64 x.node, .string x.key, .string x.data] ++ (rgC x.r (.slice x.rp x.rn x.rc) ++ (bgC x.b.k (.slice x.vp x.vn x.vc) ++ vcC x.known))
instance : Inhabited Cv := ⟨⟨0, 0, 0, ⟨#[]⟩, ⟨#[]⟩, noR, noB, fun _ => 0, none, 0, 0, none, 0, 0⟩⟩
def elemC : Elem Try.prog Cv where
 enc := cvC
 k := 65
 pos := by decide
 len _ := by kernel_rfl
 one x u hu := List.all_eq_true.1 (show (cvC x).all Value.oneCell' = true by kernel_rfl) u hu
 t := 45
 sl := 22
 under := Try.underlying22
 z := .agg (cvC default).toArray
 bytes := 568
 bpos := by decide
 info := by kernel_rfl
 zs := by kernel_rfl
section
variable {x : Cv}
theorem cvC_all : ∀ k u, (cvC x)[k]? = some u → (cvC x)[0 + k]? = some u := fun k u h => by rwa [Nat.zero_add]
theorem cvC_op : (cvC x)[0]? = some (.int .i64 x.op) := by kernel_rfl
theorem cvC_n : (cvC x)[1]? = some (.int .i64 x.n) := by kernel_rfl
theorem cvC_node : (cvC x)[2]? = some (.int .i64 x.node) := by kernel_rfl
theorem cvC_key : (cvC x)[3]? = some (.string x.key) := by kernel_rfl
theorem cvC_data : (cvC x)[4]? = some (.string x.data) := by kernel_rfl
theorem cvC_ring : ∀ k u, (rgC x.r (.slice x.rp x.rn x.rc))[k]? = some u → (cvC x)[5 + k]? = some u := fun _ _ h => sub_app [_, _, _, _, _] _ _ h
theorem cvC_bag : ∀ k u, (bgC x.b.k (.slice x.vp x.vn x.vc))[k]? = some u → (cvC x)[48 + k]? = some u := fun k u h => by
 have h1 := sub_app ([Value.int .i64 x.op, .int .i64 x.n, .int .i64 x.node, .string x.key, .string x.data] ++ rgC x.r (.slice x.rp x.rn x.rc)) (bgC x.b.k (.slice x.vp x.vn x.vc)) (vcC x.known) h
 rw [List.append_assoc] at h1
 exact h1
theorem cvC_known : ∀ k u, (vcC x.known)[k]? = some u → (cvC x)[57 + k]? = some u := fun k u h => by
 have h1 := sub_app ([Value.int .i64 x.op, .int .i64 x.n, .int .i64 x.node, .string x.key, .string x.data] ++ (rgC x.r (.slice x.rp x.rn x.rc) ++ bgC x.b.k (.slice x.vp x.vn x.vc))) (vcC x.known) [] h
 rw [List.append_nil, List.append_assoc, List.append_assoc] at h1
 exact h1
end
def CvQ (w : World) (y : Cv) : Prop := SrcE elemV w y.sv y.b.v ∧ SrcE elemI w y.sr y.r.p.2.2
def CvF {H : Type} (t : TypeId) (x : DataW H) (y : Cv) : Prop := ∀ N, (∀ n ∈ DataW.weights Try.prog t x, n ≤ N) → y.b.v.length * 32 ≤ N
section
variable {H : Type} {enc : TypeId × Value → H} {w : World} {base : Nat} {spare : Nat → Bool} {held : Bool}
theorem part_at {cs : List Value} {o n k : Nat} {l L : List Value} (hl : l.length = n) (h : (cs.drop o).take n = l) (hL : ∀ j u, l[j]? = some u → L[o + j]? = some u) (h1 : o ≤ k) (h2 : k < o + n) : cs[k]? = L[k]? := by
 have q := drop_take_at (cs := cs) (o := o) (n := n) (k := k - o) (by omega)
 rw [h, show o + (k - o) = k by omega] at q
 have hlt : k - o < l.length := by omega
 have g := hL (k - o) _ (List.getElem?_eq_getElem hlt)
 rw [show o + (k - o) = k by omega] at g
 rw [← q, List.getElem?_eq_getElem hlt]
 exact g.symm
set_option maxRecDepth 100000 in
theorem read_call {fuel : Nat} {cs : List Value} {x : DataW H × List MemPlace} (h : DataW.trod enc Try.prog w base spare held fuel 45 cs = some x) :
  ∃ y : Cv, cs = cvC y ∧ CvQ w y ∧ CvF 45 x.1 y := by
 have cInt : Try.prog.cellsOf 3 = 1 := by kernel_rfl
 have cStr : Try.prog.cellsOf 9 = 1 := by kernel_rfl
 have cB : Try.prog.cellsOf 43 = 9 := by kernel_rfl
 have cR : Try.prog.cellsOf 39 = 43 := by kernel_rfl
 have cV : Try.prog.cellsOf 40 = 8 := by kernel_rfl
 obtain ⟨xs, n, _, hxx, hl, hxs, hp⟩ := DataW.trod_struct Try.underlying45 h
 have hl : cs.length = 65 := hl.trans (by kernel_rfl)
 have hx : xs.length = 8 := hxs
 clear h hxs
 have p0 : DataW.trod enc Try.prog w base spare held n 3 ((cs.drop 0).take (Try.prog.cellsOf 3)) = xs[0]? := hp 0 _ rfl
 have p1 : DataW.trod enc Try.prog w base spare held n 3 ((cs.drop 1).take (Try.prog.cellsOf 3)) = xs[1]? := hp 1 _ rfl
 have p2 : DataW.trod enc Try.prog w base spare held n 3 ((cs.drop 2).take (Try.prog.cellsOf 3)) = xs[2]? := hp 2 _ rfl
 have p3 : DataW.trod enc Try.prog w base spare held n 9 ((cs.drop 3).take (Try.prog.cellsOf 9)) = xs[3]? := hp 3 _ rfl
 have p4 : DataW.trod enc Try.prog w base spare held n 9 ((cs.drop 4).take (Try.prog.cellsOf 9)) = xs[4]? := hp 4 _ rfl
 have p5 : DataW.trod enc Try.prog w base spare held n 39 ((cs.drop 5).take (Try.prog.cellsOf 39)) = xs[5]? := hp 5 _ rfl
 have p6 : DataW.trod enc Try.prog w base spare held n 43 ((cs.drop 48).take (Try.prog.cellsOf 43)) = xs[6]? := hp 6 _ rfl
 have p7 : DataW.trod enc Try.prog w base spare held n 40 ((cs.drop 57).take (Try.prog.cellsOf 40)) = xs[7]? := hp 7 _ rfl
 clear hp
 have e6 : xs[6]? = some xs[6] := List.getElem?_eq_getElem (by omega)
 rw [List.getElem?_eq_getElem (by omega)] at p0 p1 p2 p3 p4 p5 p6 p7
 rw [cInt] at p0 p1 p2
 rw [cStr] at p3 p4
 rw [cR] at p5
 rw [cB] at p6
 rw [cV] at p7
 obtain ⟨i0, h0, -, -⟩ := DataW.trod_int Try.underlying3 p0
 obtain ⟨i1, h1, -, -⟩ := DataW.trod_int Try.underlying3 p1
 obtain ⟨i2, h2, -, -⟩ := DataW.trod_int Try.underlying3 p2
 obtain ⟨s3, h3, -, -⟩ := DataW.trod_string Try.underlying9 p3
 obtain ⟨s4, h4, -, -⟩ := DataW.trod_string Try.underlying9 p4
 obtain ⟨⟨r5, v5⟩, h5, q5⟩ := read_ring p5
 dsimp only at h5 q5
 obtain ⟨f6, v6, l6, h6, q6, w6⟩ := read_bag p6
 obtain ⟨f7, h7⟩ := read_vec p7
 obtain ⟨a5, c5, rfl⟩ := src_form q5
 obtain ⟨a6, c6, rfl⟩ := src_form q6
 have h0 := one_at h0
 have h1 := one_at h1
 have h2 := one_at h2
 have h3 := one_at h3
 have h4 := one_at h4
 obtain ⟨y, hy⟩ : ∃ y : Cv, y = ⟨i0, i1, i2, s3, s4, r5, ⟨f6, l6⟩, f7, a5, r5.p.2.2.length, c5, a6, l6.length, c6⟩ := ⟨_, rfl⟩
 refine ⟨y, ?_, by rw [hy]; exact ⟨q6, q5⟩, fun N hN => ?_⟩
 ·apply List.ext_getElem?
  intro k
  by_cases k0 : k = 0
  ·rw [k0, cvC_op, hy]; exact h0
  by_cases k1 : k = 1
  ·rw [k1, cvC_n, hy]; exact h1
  by_cases k2 : k = 2
  ·rw [k2, cvC_node, hy]; exact h2
  by_cases k3 : k = 3
  ·rw [k3, cvC_key, hy]; exact h3
  by_cases k4 : k = 4
  ·rw [k4, cvC_data, hy]; exact h4
  by_cases k5 : k < 48
  ·exact part_at (o := 5) (n := 43) rgC_len h5 (by have e := cvC_ring (x := y); rw [hy] at e ⊢; exact e) (by omega) (by omega)
  by_cases k6 : k < 57
  ·exact part_at (o := 48) (n := 9) bgC_len h6 (by have e := cvC_bag (x := y); rw [hy] at e ⊢; exact e) (by omega) (by omega)
  by_cases k7 : k < 65
  ·exact part_at (o := 57) (n := 8) vcC_len h7 (by have e := cvC_known (x := y); rw [hy] at e ⊢; exact e) (by omega) (by omega)
  ·have hlen : (cvC y).length = 65 := elemC.len y
   rw [List.getElem?_eq_none (by omega), List.getElem?_eq_none (by omega)]
 ·subst hy
  rcases w6 with rfl | ⟨d0, es, sp, he, hn⟩
  ·exact Nat.zero_le _
  ·have hb : Try.prog.bytesOf 70 = 32 := by kernel_rfl
   have h6 : (es.length + sp.length) * Try.prog.bytesOf 70 ∈ DataW.weights Try.prog 43 xs[6].1 := by
    rw [he]
    simp [DataW.weights, DataW.weightsEach, Try.underlying43, Try.underlying41]
   have h7 : (es.length + sp.length) * Try.prog.bytesOf 70 ∈ DataW.weights Try.prog 45 x.1 := by
    rw [hxx]
    refine weights_part Try.underlying45 ?_
    exact DataW.weights_mem_each (j := 6) (t := 43) (d := xs[6].1) rfl (by rw [List.getElem?_map, e6]; rfl) _ h6
   have h8 := hN _ h7
   rw [hb] at h8
   show l6.length * 32 ≤ N
   omega
end
theorem readC : ReadP elemC fun w x y => CvQ w y ∧ CvF 45 x y where
 cells := by kernel_rfl
 bytes := by kernel_rfl
 read h := read_call h
section
variable {H : Type} {enc : TypeId × Value → H} {w : World} {base : Nat} {spare : Nat → Bool} {held : Bool}
set_option maxRecDepth 100000 in
theorem open_callC {r : Reach} {b0 : Nat} {v : Value} {d : DataW H} {p : List MemPlace} (hv : Value.okWide Try.prog w r b0 45 v) (h : DataW.Trod enc Try.prog w base spare held 45 v d p) : ∃ y : Cv, v = .agg (cvC y).toArray ∧ CvQ w y ∧ CvF 45 d y := by
 obtain ⟨cs, rfl, _⟩ := okWide_struct Try.underlying45 hv
 obtain ⟨fuel, hf⟩ := h
 obtain ⟨y, hc, hq, hF⟩ := read_call hf
 have hc : (Value.agg cs).cells.toList = cvC y := hc
 refine ⟨y, ?_, hq, hF⟩
 congr 1
 apply Array.toList_inj.1
 simpa [Value.cells] using hc
theorem reach_callC {ts : List TypeId} {ds : List (DataW H)} {j : Nat} {d : DataW H} {y : Cv} (hsz : (DataW.weightsEach Try.prog ts ds).all (· ≤ reachBytes) = true) (ht : ts[j]? = some 45) (hd : ds[j]? = some d) (h : CvF 45 d y) : y.b.v.length ≤ 4398046510976 := by
 have := h _ (reach_fit hsz ht hd)
 omega
set_option maxRecDepth 100000 in
theorem open_callsC {r : Reach} {b0 : Nat} {v : Value} {d : DataW H} {p : List MemPlace} (hv : Value.okWide Try.prog w r b0 22 v) (h : DataW.Trod enc Try.prog w base spare held 22 v d p) :
  ∃ l : List Cv, (∀ W H, (oldT w).p W H → RowAt elemC W v l) ∧ (l = [] ∨ ∃ es sp, d = .slice es sp ∧ es.length = l.length ∧ ∀ (i : Nat) (y : Cv), l[i]? = some y → ∃ e, es[i]? = some e ∧ CvQ w y ∧ CvF 45 e y) := by
 obtain ⟨a, len, cap, rfl⟩ := okWide_slice Try.underlying22 hv
 obtain ⟨fuel, hf⟩ := h
 obtain ⟨v', l, hcs, hl, hm⟩ := open_elemsP (E := elemC) readC hf
 obtain rfl : v' = .slice a len cap := by
  simp [Value.cells] at hcs
  exact hcs.symm
 exact ⟨l, fun _ _ hs => OldA.row hs hl.1, hm⟩
theorem reach_callsC {ts : List TypeId} {ds : List (DataW H)} {j : Nat} {d : DataW H} {l : List Cv} (hsz : (DataW.weightsEach Try.prog ts ds).all (· ≤ reachBytes) = true) (ht : ts[j]? = some 22) (hd : ds[j]? = some d) (h : l = [] ∨ ∃ es sp, d = .slice es sp ∧ es.length = l.length ∧ ∀ (i : Nat) (y : Cv), l[i]? = some y → ∃ e, es[i]? = some e ∧ CvQ w y ∧ CvF 45 e y) : ∀ y ∈ l, CvQ w y ∧ y.b.v.length ≤ 4398046510976 := fun y hy => by
 rcases h with rfl | ⟨es, sp, rfl, _, he⟩
 ·cases hy
 ·obtain ⟨i, hi⟩ := List.mem_iff_getElem?.1 hy
  obtain ⟨e, h1, h2, h3⟩ := he i y hi
  have := h3 _ fun n hn => reach_fit hsz ht hd n (weights_in Try.underlying22 h1 hn)
  exact ⟨h2, by omega⟩
end
def callCZero : Value := .agg (cvC default).toArray
def callCZeroD {H : Type} : DataW H := .agg [.lit (.int .i64 0), .lit (.int .i64 0), .lit (.int .i64 0), .lit (.string []), .lit (.string []), ringZeroD, bagD, .agg (List.replicate 8 (.lit (.int .i64 0)))]
end Go.Proofs.Ythaabnlhhfnalaa
