/- Keys of a map, sorted: slices.Sorted(maps.Keys(m)), by the shelf's contracts. -/
import Derived.Test.YtcchkkdbagpgjaaGreatVtA
import Derived.Test.YtcchkkdbagpgjaaGreatShelf
namespace Go.Proofs.YtcchkkdbagpgjaaGreat
open Go Go.RowKit Go.BigFrame
theorem less_lt : ∀ {a b : List UInt8}, Op.bytesLess a b = true → a < b
 | [], [], h => nomatch h
 | _ :: _, [], h => nomatch h
 | [], _ :: _, _ => List.nil_lt_cons _ _
 | a :: x, b :: y, h => by
  have q : (decide (a < b) || (a == b && Op.bytesLess x y)) = true := h
  simp only [Bool.or_eq_true, Bool.and_eq_true, decide_eq_true_eq, beq_iff_eq] at q
  rcases q with q | ⟨rfl, q⟩
  ·exact List.cons_lt_cons_iff.2 (.inl q)
  ·exact List.cons_lt_cons_iff.2 (.inr ⟨rfl, less_lt q⟩)
def bysK (k : ByteArray) : List UInt8 := k.data.toList
theorem bys_le {a b : ByteArray} (h : ltK a b) : bysK a ≤ bysK b := by
 unfold ltK at h
 rw [ByteArray.toList_eq, ByteArray.toList_eq] at h
 exact List.le_of_lt (less_lt h)
theorem sorted_keys {l : List ByteArray} (hl : l.Pairwise ltK) {ss : List (List UInt8)} (hp : ss.Perm (l.map bysK)) : ss.mergeSort (fun x y => decide (x ≤ y)) = l.map bysK := by
 have tr : ∀ a b c : List UInt8, decide (a ≤ b) = true → decide (b ≤ c) = true → decide (a ≤ c) = true := fun a b c h1 h2 => by simp only [decide_eq_true_eq] at *; exact List.le_trans h1 h2
 have to : ∀ a b : List UInt8, (decide (a ≤ b) || decide (b ≤ a)) = true := fun a b => by simp only [Bool.or_eq_true, decide_eq_true_eq]; exact List.le_total a b
 refine List.Perm.eq_of_pairwise (le := fun a b => decide (a ≤ b) = true) (fun a b _ _ h1 h2 => ?_) (List.pairwise_mergeSort tr to ss) (List.pairwise_map.2 (hl.imp fun h => decide_eq_true (bys_le h))) ((List.mergeSort_perm ss _).trans hp)
 simp only [decide_eq_true_eq] at h1 h2
 exact List.le_antisymm h1 h2
theorem cellsS : ∀ l : List ByteArray, elemS.cells l = l.map fun k => .string k
 | [] => rfl
 | k :: l => by
  show Value.string k :: elemS.cells l = _
  rw [cellsS l]
  rfl
def anyR : Value → Option (DataW Unit × List MemPlace) := fun _ => some (.nil, [])
set_option maxRecDepth 100000 in
theorem key_of {k : ByteArray} (hk : k.size ≤ 100) : keyOf Tryz.prog 9 (.string k) = some (.string (bysK k)) := by
 have h : k.size ≤ maxLen := by unfold maxLen; omega
 have hu : Tryz.prog.underlying 9 = some .string := Tryz.underlying9
 simp [keyOf, hu, mapKey, h, bysK]
set_option maxRecDepth 100000 in
theorem owns_map {W : World} {b : Nat} {M : Mp ByteArray Hv} (hb : W.heap[b]? = some (.map (entE strK valB M.es).toArray M.clock)) (hM : MpOk M) (hl : M.es.length ≤ 3000) (hk : ∀ e ∈ M.es, e.1.size ≤ 100) : ∃ D : DataW Unit, W.ownsMap Tryz.prog 9 anyR b M.es.length D ∧ Go.Maps.size D = M.es.length ∧ (Go.strKeys D).Perm (M.es.map fun e => bysK e.1) := by
 have hlen : (entE strK valB M.es).length = M.es.length := List.length_map _
 have hrg : ((entE strK valB M.es).map (Go.WideElems.rg Tryz.prog 9 anyR)) = M.es.map fun e => (Lit.string (bysK e.1), DataW.nil) := by
  unfold entE
  rw [List.map_map]
  refine List.map_congr_left fun e he => ?_
  show Go.WideElems.rg Tryz.prog 9 anyR { key := .string e.1, val := valB e.2.1, born := e.2.2 } = _
  unfold Go.WideElems.rg Go.WideElems.rd
  rw [key_of (hk e he)]
  rfl
 have hp := Go.WideShapes.sorted_perm (H := Unit) (M.es.map fun e => (Lit.string (bysK e.1), DataW.nil))
 refine ⟨.map ((M.es.map fun e => (Lit.string (bysK e.1), DataW.nil)).foldr DataW.insert []), ⟨_, _, hb, ⟨?_, ⟨fun x hx => ?_, ?_, ?_⟩, fun x hx => ?_⟩, ?_, ?_⟩, ?_, ?_⟩
 ·show (entE strK valB M.es).length ≤ maxLen
  rw [hlen]
  unfold maxLen
  omega
 ·obtain ⟨e, he, rfl⟩ := List.mem_map.1 hx
  exact hM.old e he
 ·show ((entE strK valB M.es).map _).Nodup
  unfold entE
  rw [List.map_map]
  exact hM.borns
 ·show ((entE strK valB M.es).map _).Nodup
  unfold entE
  rw [List.map_map]
  show (M.es.map fun e => Value.string e.1).Nodup
  have := hM.keys
  rw [List.nodup_iff_pairwise_ne, List.pairwise_map] at this ⊢
  exact this.imp fun h e => h (Value.string.inj e)
 ·obtain ⟨e, he, rfl⟩ := List.mem_map.1 hx
  refine ⟨(.string (bysK e.1), .nil), ?_⟩
  show Go.WideElems.rd Tryz.prog 9 anyR { key := .string e.1, val := valB e.2.1, born := e.2.2 } = _
  unfold Go.WideElems.rd
  rw [key_of (hk e he)]
  rfl
 ·show (entE strK valB M.es).length ≤ _
  rw [hlen]
  exact Nat.le_refl _
 ·show _ = DataW.map (((entE strK valB M.es).map _).foldr _ _)
  rw [hrg]
 ·show (List.foldr DataW.insert [] _).length = _
  rw [hp.length_eq, List.length_map]
 ·show (List.map (fun p : Lit × DataW Unit => Go.strOf p.1) (List.foldr DataW.insert [] _)).Perm _
  refine (hp.map _).trans ?_
  rw [List.map_map]
  exact List.Perm.refl _
theorem vsorts (m : Nat) : AnyZ.SortsIn Tryz.prog Tryz.sorted75_ren Fence.wide m :=
 ⟨fun blk off cap ss W hH hblk hsz => callsIn_wide.2 (AnyM.slices_Sort_string Tryz.sort122 blk off cap ss W hH hblk hsz),
 fun p cap W => callsIn_wide.2 (AnyM.slices_Sort_string_none Tryz.sort122 p cap W)⟩
def itV (c : Nat) : Value := .func (.func 123) #[] #[.pointer (some ⟨c, 0, none⟩)]
def itT (b : Nat) (u : Value) : At := exT fun c : Nat => [prT (u = itV c), boxT c (.cells #[.map (some b)] 89 (0, 0))]
theorem Mem.it {b : Nat} {u : Value} {L : List At} {H0 : Nat → Prop} {w W : World} (h : Mem (itT b u :: L) H0 w W) : ∃ c, u = itV c ∧ Mem (boxT c (.cells #[.map (some b)] 89 (0, 0)) :: L) H0 w W := by
 obtain ⟨c, h⟩ := Mem.ex h
 obtain ⟨hu, h⟩ := Mem.pr h
 exact ⟨c, hu, h⟩
theorem vmkeys_d (b : Nat) : DoesU Tryz.prog 76 #[.map (some b)] [] (fun u => [itT b u]) := fun W H hs => by
 refine (callsIn_wide.1 (AnyZ.keys_in Tryz.keys76 Fence.wide 5 trivial rfl (some b) W)).mono ?_
 rintro e w' ⟨rfl, rfl⟩
 have h : Mem [] H W W := mem_refl hs
 have h1 : Mem [boxT W.heap.size (.cells #[.map (some b)] 89 (0, 0))] H W _ := SEnd.box (stars_owns []) h _
 exact ⟨_, rfl, Mem.addEx W.heap.size (Mem.addPr rfl h1)⟩
theorem vsorted_d {s : Vs} {S : Vt} (hs : VsOk s S) (hV : VtOk S) (hl : S.b.length ≤ 3000) {j : Nat} (hj : j < 16) (c : Nat) : DoesU Tryz.prog 75 #[itV c] [boxT c (.cells #[.map (some (s.bk j))] 89 (0, 0)), mapsT s.bk s.ms] (fun u => [textsT u (keysV S (j : Int)), mapsT s.bk s.ms]) := fun W H hst => by
 have hm : Mem [boxT c (.cells #[.map (some (s.bk j))] 89 (0, 0)), mapsT s.bk s.ms] H W W := mem_refl hst
 have hc : W.cell? ⟨c, 0, none⟩ = some (.map (some (s.bk j))) := hm.cell 0 rfl 0
 have hclt : c < W.heap.size := (Array.getElem?_eq_some_iff.1 (hm.box 0 rfl)).1
 have hlen := hs.len hV hj
 have hle : (keysV S (j : Int)).length ≤ S.b.length := by rw [keysV_len]; exact List.countP_le_length
 obtain ⟨D, hown, hsz, hperm⟩ := owns_map (hm.mapAt 1 rfl hj) (hs.mok j hj) (by omega) (fun e he => by
  have h1 := (hs.own j hj e he).2.1
  have h2 := keyB_size (hV.key _ (getK_mem h1))
  exact Nat.le_trans h2 (by decide))
 have hseq := AnyZ.keys_gives (ρ := Tryz.keys76_ren) { Tryz.keys76 with } Fence.wide 2 trivial rfl (by omega) c (s.bk j) _ D W hclt hc hown
 have hcall := AnyZ.sorted_in Tryz.sorted75 Fence.wide 5 trivial trivial trivial trivial rfl (by omega) (vsorts _) Tryz.call122 123 #[.pointer (some ⟨c, 0, none⟩)] trivial Tryz.call123 _ _ (by rw [hsz]; unfold maxLen; omega) (by rw [hsz]; omega) W hseq
 refine (callsIn_wide.1 hcall).mono ?_
 rintro e w' ⟨v, ss, rfl, hS, hrow, -, hb⟩
 refine ⟨v, rfl, ?_⟩
 have hks : ss.mergeSort (fun x y => decide (x ≤ y)) = (keysV S (j : Int)).map bysK := sorted_keys (keysV_srt hV.srt _) (hS.trans (hperm.trans (by
  have := (hs.perm hV hj).map bysK
  rwa [List.map_map] at this)))
 have hsl : ss.length = (keysV S (j : Int)).length := by
  have := congrArg List.length hks
  rwa [List.length_mergeSort, List.length_map] at this
 rw [hks, List.map_map, hsl] at hrow
 have hcs : (keysV S (j : Int)).map (Go.Proofs.encStr ∘ bysK) = elemS.cells (keysV S (j : Int)) := by rw [cellsS]; rfl
 rw [hcs] at hrow
 have hm2 : Mem [mapsT s.bk s.ms] H W W := Mem.only hm [1] rfl
 have hrow0 : w'.ownsRow 0 elemS.t elemS.k v (keysV S (j : Int)).length (elemS.cells (keysV S (j : Int))) := by
  obtain ⟨h1, h2⟩ := hrow
  refine ⟨h1, ?_⟩
  rcases h2 with h2 | ⟨gb, cap, cur, k1, _, k3⟩
  ·exact .inl h2
  ·exact .inr ⟨gb, cap, cur, k1, Nat.zero_le _, k3⟩
 have hfr : Mem (rowT elemS v (keysV S (j : Int)) :: [mapsT s.bk s.ms]) H W w' := SEnd.fresh (stars_owns _) (rowT elemS v _).owns hm2 hb (HQ := fun k => v.ownBlock = some k) ⟨hrow0, fun _ => Iff.rfl⟩ fun k hk => (hrow.lt k hk).1
 obtain ⟨p, cap, rfl⟩ := row_form (Mem.src hfr 0 rfl rowT_reads)
 exact Mem.addEx (p, cap) (Mem.addPr rfl hfr)
end Go.Proofs.YtcchkkdbagpgjaaGreat
