/- The landed queue: Take. -/
import Derived.Test.YtlcmehighgmoeaaRumOut
namespace Go.Proofs.Ytlcmehighgmoeaa
open Go Go.RowKit

/-- What is put back: told once more, unless that was the last time. -/
def backOf (often : Nat) (O : List Td) : List Td := (O.map fun t => (⟨t.c, t.n + 1⟩ : Td)).filter fun t => decide (t.n < often)
theorem backOf_up {often : Nat} {O : List Td} {k : Nat} {t : Td} (hk : O[k]? = some t) (h : t.n + 1 < often) : backOf often (O.take (k + 1)) = backOf often (O.take k) ++ [⟨t.c, t.n + 1⟩] := by
  have : O.take (k + 1) = O.take k ++ [t] := by rw [List.take_add_one, hk]; rfl
  rw [this]
  simp [backOf, h]
theorem backOf_out {often : Nat} {O : List Td} {k : Nat} {t : Td} (hk : O[k]? = some t) (h : ¬ t.n + 1 < often) : backOf often (O.take (k + 1)) = backOf often (O.take k) := by
  have : O.take (k + 1) = O.take k ++ [t] := by rw [List.take_add_one, hk]; rfl
  rw [this]
  simp [backOf, h]
theorem claims_up {O : List Td} {k : Nat} {t : Td} (hk : O[k]? = some t) : (O.take (k + 1)).map (·.c) = (O.take k).map (·.c) ++ [t.c] := by
  rw [List.take_add_one, hk]; simp

structure TkInv (w : World) (q often : Nat) (F : Nat → Prop) (O rem : List Td) (v : Value) (k : Nat) (R : List Td) (u : Value) (W : World) (F1 : Nat → Prop) : Prop where
  rum : RumQ q often R W F1
  fr : Fr F w W
  sub : ∀ k, F1 k → F k ∨ w.heap.size ≤ k
  heap : IsHeap lessT R.length R
  perm : R.Perm (rem ++ backOf often (O.take k))
  out : W.ownsRow 0 60 4 v O.length (cellsT O)
  outb : ∀ b, v.ownBlock = some b → ¬ F1 b ∧ u.ownBlock ≠ some b
  row : W.ownsRow 0 28 3 u k (cellsOf ((O.take k).map (·.c)))
  rowb : ∀ b, u.ownBlock = some b → w.heap.size ≤ b ∧ ¬ F1 b

/-- The round's first part: a claim is appended, the telling's own copy is told once more. -/
structure TkMid (w : World) (q often : Nat) (F : Nat → Prop) (O rem : List Td) (v : Value) (k : Nat) (R : List Td) (u : Value) (b : Nat) (t : Td) (T' : Int) (W : World) (F1 : Nat → Prop) : Prop where
  rum : RumQ q often R W F1
  fr : Fr F w W
  sub : ∀ k, F1 k → F k ∨ w.heap.size ≤ k
  heap : IsHeap lessT R.length R
  perm : R.Perm (rem ++ backOf often (O.take k))
  out : W.ownsRow 0 60 4 v O.length (cellsT O)
  outb : ∀ b, v.ownBlock = some b → ¬ F1 b ∧ u.ownBlock ≠ some b
  row : W.ownsRow 0 28 3 u (k + 1) (cellsOf ((O.take (k + 1)).map (·.c)))
  rowb : ∀ b, u.ownBlock = some b → w.heap.size ≤ b ∧ ¬ F1 b
  lt : b < W.heap.size
  fz : ∀ j, W.frozen? ⟨b, j, none⟩ = false
  c0 : W.cell? ⟨b, 0, none⟩ = some (.int .i64 t.c.n)
  c1 : W.cell? ⟨b, 1, none⟩ = some (.int .i64 t.c.i)
  c2 : W.cell? ⟨b, 2, none⟩ = some (.int .i64 t.c.h)
  c3 : W.cell? ⟨b, 3, none⟩ = some (.int .i64 T')
  q0 : W.cell? ⟨q, 0, none⟩ = some (.int .i64 often)
  ql : q < W.heap.size

section
variable {w : World} {q often : Nat} {F : Nat → Prop} {O rem : List Td} {v : Value} {k : Nat} {R : List Td} {u : Value} {W : World} {F1 : Nat → Prop}

theorem RumQ.ofc {L : List Td} (h : RumQ q often L W F) : W.cell? ⟨q, 0, none⟩ = some (.int .i64 often) ∧ q < W.heap.size := by
  obtain ⟨p, cap, hc⟩ := h.cells
  exact ⟨hc.h0, hc.lt⟩

theorem TkInv.len (h : TkInv w q often F O rem v k R u W F1) : R.length ≤ rem.length + O.length := by
  have := h.perm.length_eq
  rw [List.length_append] at this
  have h2 : (backOf often (O.take k)).length ≤ O.length := by
    unfold backOf
    refine Nat.le_trans (List.length_filter_le _ _) ?_
    rw [List.length_map, List.length_take]
    omega
  omega
theorem TkInv.cells (h : TkInv w q often F O rem v k R u W F1) {g cap : Nat} (hv : v = .slice (some ⟨g, 0, none⟩) O.length cap) {t : Td} {j : Nat} (hk : O[j]? = some t) : W.cell? ⟨g, j * 4, none⟩ = some (.int .i64 t.c.n) ∧ W.cell? ⟨g, j * 4 + 1, none⟩ = some (.int .i64 t.c.i) ∧ W.cell? ⟨g, j * 4 + 2, none⟩ = some (.int .i64 t.c.h) ∧ W.cell? ⟨g, j * 4 + 3, none⟩ = some (.int .i64 t.n) := by
  have := h.out.cells (g := g) (by rw [hv]; rfl)
  obtain ⟨a0, a1, a2, a3⟩ := cellsT_at O j t hk
  simp only [addr_at] at this
  exact ⟨this _ _ a0, this _ _ a1, this _ _ a2, this _ _ a3⟩

theorem TkInv.append (h : TkInv w q often F O rem v k R u W F1) {t : Td} (hk : O[k]? = some t) {T T' : Int} {u' : Value} {W4 : World}
    (hown : W4.ownsRow 0 28 3 u' (k + 1) (cellsOf ((O.take k).map (·.c)) ++ [.int .i64 t.c.n, .int .i64 t.c.i, .int .i64 t.c.h]))
    (hg : ((W.alloc (.cells #[.int .i64 t.c.n, .int .i64 t.c.i, .int .i64 t.c.h, .int .i64 T] 60)).alloc (.cells #[.int .i64 t.c.n, .int .i64 t.c.i, .int .i64 t.c.h] 28)).grownBy W4 u.ownBlock)
    (hw : ∀ g, u'.ownBlock = some g → u.ownBlock = some g ∨ ((W.alloc (.cells #[.int .i64 t.c.n, .int .i64 t.c.i, .int .i64 t.c.h, .int .i64 T] 60)).alloc (.cells #[.int .i64 t.c.n, .int .i64 t.c.i, .int .i64 t.c.h] 28)).heap.size ≤ g) :
    TkMid w q often F O rem v k R u' W.heap.size t T' (W4.setCell ⟨W.heap.size, 3, none⟩ (.int .i64 T')) F1 ∧ W4.heap[W.heap.size]? = some (.cells #[.int .i64 t.c.n, .int .i64 t.c.i, .int .i64 t.c.h, .int .i64 T] 60 (0, 0)) := by
  have hF := (rumQ_owns q often R).lt W F1 h.rum
  have hvl := row_lt h.out
  have hul := row_lt h.row
  obtain ⟨W2, hW2⟩ : ∃ W2, ((W.alloc (.cells #[.int .i64 t.c.n, .int .i64 t.c.i, .int .i64 t.c.h, .int .i64 T] 60)).alloc (.cells #[.int .i64 t.c.n, .int .i64 t.c.i, .int .i64 t.c.h] 28)) = W2 := ⟨_, rfl⟩
  have hs2 : W2.heap.size = W.heap.size + 2 := by rw [← hW2]; simp
  have hb2 : Below W.heap.size W W2 := by rw [← hW2]; exact ext_alloc (ext_alloc (ext_refl W) _) _
  have hn2 : W2.heap[W.heap.size]? = some (.cells #[.int .i64 t.c.n, .int .i64 t.c.i, .int .i64 t.c.h, .int .i64 T] 60 (0, 0)) := by
    rw [← hW2]
    exact (Below.heap_alloc _ _ _ (by simp)).trans (heap_alloc_new W _)
  rw [hW2] at hg hw
  have hnu : some W.heap.size ≠ u.ownBlock := fun e => by have := hul _ e.symm; omega
  have hn4 : W4.heap[W.heap.size]? = _ := (hg.block _ (by omega) hnu).trans hn2
  -- what was there stays, but for u's block
  have hkeep : ∀ j, j < W.heap.size → some j ≠ u.ownBlock → (W4.setCell ⟨W.heap.size, 3, none⟩ (.int .i64 T')).heap[j]? = W.heap[j]? := fun j hj hne =>
    (Below.heap_setCell _ _ _ _ (by show j ≠ W.heap.size; omega)).trans ((hg.block j (by omega) hne).trans (hb2.block j hj))
  have hnu' : ∀ g, u'.ownBlock = some g → g ≠ W.heap.size := fun g hg' e => by
    rcases hw g hg' with h1 | h1
    · have := hul g h1; omega
    · omega
  have hfr : Fr F w (W4.setCell ⟨W.heap.size, 3, none⟩ (.int .i64 T')) := by
    have f2 : Fr F w W2 := h.fr.trans (G := F) (Fr.of_below hb2) fun _ hj => .inl hj
    have f4 : Fr F w W4 := f2.trans (G := fun j => w.heap.size ≤ j) (Fr.of_grownBy hg fun j hj => .inl (h.rowb j hj).1) fun j hj => .inr hj
    exact f4.set _ _ _ (.inr h.fr.size)
  have hrum := (rumQ_owns q often R).kept W (W4.setCell ⟨W.heap.size, 3, none⟩ (.int .i64 T')) F1 h.rum (by have := hg.size; simp; omega) fun j hj => hkeep j (hF j hj) fun e => (h.rowb j e.symm).2 hj
  have hset : (W4.setCell ⟨W.heap.size, 3, none⟩ (.int .i64 T')).heap[W.heap.size]? = some (.cells #[.int .i64 t.c.n, .int .i64 t.c.i, .int .i64 t.c.h, .int .i64 T'] 60 (0, 0)) := by
    rw [heap_setCell_same _ _ _ _ _ _ hn4]; rfl
  refine ⟨⟨hrum, hfr, h.sub, h.heap, h.perm, ?_, ?_, ?_, ?_, ?_, ?_, ?_, ?_, ?_, ?_, hrum.ofc.1, hrum.ofc.2⟩, hn4⟩
  · exact row_keeps h.out fun g hg' => hkeep g (hvl g hg') fun e => (h.outb g hg').2 e.symm
  · intro b hb
    refine ⟨(h.outb b hb).1, fun e => ?_⟩
    rcases hw b e with h1 | h1
    · exact (h.outb b hb).2 h1
    · have := hvl b hb; omega
  · rw [claims_up hk, cellsOf_snoc]
    exact row_keeps hown fun g hg' => Below.heap_setCell _ _ _ _ (hnu' g hg')
  · intro b hb
    rcases hw b hb with h1 | h1
    · exact h.rowb b h1
    · exact ⟨by have := h.fr.size; omega, fun hk => by have := hF b hk; omega⟩
  · have := hg.size
    simp
    omega
  · intro j; simp [World.frozen?, hset]
  · simp [World.cell?, hset]
  · simp [World.cell?, hset]
  · simp [World.cell?, hset]
  · simp [World.cell?, hset]

theorem TkMid.later {b : Nat} {t : Td} {T' : Int} (h : TkMid w q often F O rem v k R u b t T' W F1) (x : Later W) : TkMid w q often F O rem v k R u b t T' x.w F1 := by
  have hF := (rumQ_owns q often R).lt W F1 h.rum
  have hvl := row_lt h.out
  have hul := row_lt h.row
  refine ⟨(rumQ_owns q often R).kept W x.w F1 h.rum x.below.size fun j hj => x.below.block j (hF j hj), h.fr.later x, h.sub, h.heap, h.perm, row_keeps h.out fun g hg => x.below.block g (hvl g hg), h.outb, row_keeps h.row fun g hg => x.below.block g (hul g hg), h.rowb, Nat.lt_of_lt_of_le h.lt x.below.size, fun j => (x.below.frozen (p := ⟨b, j, none⟩) h.lt).trans (h.fz j), (x.below.cell (p := ⟨b, _, none⟩) h.lt).trans h.c0, (x.below.cell (p := ⟨b, _, none⟩) h.lt).trans h.c1, (x.below.cell (p := ⟨b, _, none⟩) h.lt).trans h.c2, (x.below.cell (p := ⟨b, _, none⟩) h.lt).trans h.c3, (x.below.cell (p := ⟨q, _, none⟩) h.ql).trans h.q0, Nat.lt_of_lt_of_le h.ql x.below.size⟩
/-- The claim was told for the last time. -/
theorem TkMid.gone {b : Nat} {t : Td} {T' : Int} (h : TkMid w q often F O rem v k R u b t T' W F1) (hk : O[k]? = some t) (hn : ¬ t.n + 1 < often) : TkInv w q often F O rem v (k + 1) R u W F1 :=
  ⟨h.rum, h.fr, h.sub, h.heap, by rw [backOf_out hk hn]; exact h.perm, h.out, h.outb, h.row, h.rowb⟩
/-- The claim goes back. -/
theorem TkMid.back {b : Nat} {t : Td} {T' : Int} (h : TkMid w q often F O rem v k R u b t T' W F1) (hk : O[k]? = some t) (hn : t.n + 1 < often) (hR : R.length ≤ 900) :
    Calls Try.prog 24 #[.iface 62 (.pointer (some ⟨q, 1, none⟩)), encT ⟨t.c, t.n + 1⟩] W fun e W' => ∃ r, e = .returned r ∧ Hid (∃ R' F2, R'.length = R.length + 1 ∧ TkInv w q often F O rem v (k + 1) R' u W' F2) := by
  refine (heapPush_any lessT_ordered (rheap q often F1 W) (rends q often F1 W) R ⟨t.c, t.n + 1⟩ W ⟨rEnd_refl h.rum, by omega⟩ h.heap (by omega)).mono ?_
  rintro e W' ⟨⟨r, he⟩, xs, ⟨⟨F2, h1, h2, h3⟩, _⟩, hp, hi⟩
  have hvl := row_lt h.out
  have hul := row_lt h.row
  refine ⟨r, he, Lib.hid ⟨xs, F2, by rw [hp.length_eq]; simp, h1, h.fr.trans h2 h.sub, fun j hj => ?_, hi, ?_, row_keeps h.out fun g hg => h2.block g (hvl g hg) (h.outb g hg).1, fun g hg => ⟨fun hk => ?_, (h.outb g hg).2⟩, row_keeps h.row fun g hg => h2.block g (hul g hg) (h.rowb g hg).2, fun g hg => ⟨(h.rowb g hg).1, fun hk => ?_⟩⟩⟩
  · rcases h3 j hj with h4 | h4
    · exact h.sub j h4
    · exact .inr (Nat.le_trans h.fr.size h4)
  · rw [backOf_up hk hn, ← List.append_assoc]
    exact hp.trans (h.perm.append_right _)
  · rcases h3 g hk with h4 | h4
    · exact (h.outb g hg).1 h4
    · have := hvl g hg; omega
  · rcases h3 g hk with h4 | h4
    · exact (h.rowb g hg).2 h4
    · have := hul g hg; omega
end

theorem row_base {W : World} {b : Nat} {e : TypeId} {size : Nat} {v : Value} {k : Nat} {xs : List Value} (h : W.ownsRow 0 e size v k xs) (hb : ∀ g, v.ownBlock = some g → b ≤ g) : W.ownsRow b e size v k xs := by
  refine ⟨h.1, ?_⟩
  rcases h.2 with h1 | ⟨g, cap, cur, rfl, _, rest⟩
  · exact .inl h1
  · exact .inr ⟨g, cap, cur, rfl, hb g rfl, rest⟩

/-- What Take gives: O was taken, rem was not; R is there behind it. -/
def TakeEnd (q often : Nat) (L : List Td) (n : Int) (F : Nat → Prop) (w : World) (e : Ending) (w' : World) : Prop :=
  ∃ u O rem R F1, e = .returned u ∧ Picked L O rem ∧ (O.length : Int) = min (max n 0) L.length ∧ w'.ownsRow w.heap.size 28 3 u O.length (cellsOf (O.map (·.c))) ∧ (∀ b, u.ownBlock = some b → ¬ F1 b) ∧
    IsHeap lessT R.length R ∧ R.Perm (rem ++ backOf often O) ∧ RumQ q often R w' F1 ∧ Fr F w w' ∧ ∀ k, F1 k → F k ∨ w.heap.size ≤ k

set_option maxHeartbeats 1000000 in
set_option maxRecDepth 100000 in
theorem takeR_nil (n : Int) (w : World) : Gives Try.prog 12 #[.pointer none, .int .i64 n] w (.slice none 0 0) := by
  unfold Gives
  go_enter Try.func12, Try.ntmps12
  go_wp2_with fail
  go_ret
  exact ⟨rfl, Later.ex (by repeat (first | exact ext_refl _ | refine ext_later ?_ _ | refine ext_alloc ?_ _ | refine ext_drew ?_ | refine ext_drewN ?_ _))⟩

set_option maxHeartbeats 4000000 in
set_option maxRecDepth 100000 in
/-- **Take.** -/
theorem takeR_any (q often : Nat) (L : List Td) (n : Int) (w : World) (F : Nat → Prop) (h : RumQ q often L w F) (hh : IsHeap lessT L.length L) (hL : L.length ≤ 100) (hO : Once L) (hT : ∀ t ∈ L, t.n < 1000) :
    Calls Try.prog 12 #[.pointer (some ⟨q, 0, none⟩), .int .i64 n] w (TakeEnd q often L n F w) := by
  obtain ⟨i1, hi1, hy0, hy1, hy2⟩ := info_parts infoClaim
  have HOut := Lib.hid (takeOut_any q often L n w F h hh hL hO)
  have HTn := Lib.hid hT
  have hlt := h.ofc.2
  clear h hh hO hT
  go_enter Try.func12, Try.ntmps12
  go_wp2_with fail
  refine HOut.out.mono ?_
  rintro e w1 ⟨v, O, rem, F1, rfl, hinv, hcnt⟩
  have hlen := hinv.len
  have hT1 : ∀ t ∈ O, t.n < 1000 := fun t ht => HTn.out t (hinv.picked.perm.subset (by simp [ht]))
  have H0 := Lib.hid (show TkInv w q often F O rem v 0 rem (.slice none 0 0) w1 F1 from ⟨hinv.rum, hinv.fr, hinv.sub, hinv.heap, by simp [backOf], hinv.row, fun b hb => ⟨(hinv.own b hb).2, by simp [Value.ownBlock]⟩, by rw [List.take_zero]; exact World.ownsRow_nil _ _ _ _, fun b hb => by simp [Value.ownBlock] at hb⟩)
  have HPk := Lib.hid hinv.picked
  have HC := Lib.hid hcnt
  obtain ⟨pv, cv, rfl⟩ := ownsRow_form hinv.row
  have HT1 := Lib.hid hT1
  clear hinv hcnt HOut HTn hT1
  have hcv := (show pv = none ∧ O.length = 0 ∨ ∃ g, pv = some ⟨g, 0, none⟩ from by
    rcases H0.out.out.2 with ⟨h1, h2⟩ | ⟨g, cap, cur, h1, _⟩
    · exact .inl ⟨by simpa using (Value.slice.inj h1).1, h2⟩
    · exact .inr ⟨g, (Value.slice.inj h1).1⟩)
  obtain ⟨v, hv⟩ : ∃ v, Value.slice pv O.length cv = v := ⟨_, rfl⟩
  have HV := Lib.hid hv
  rw [hv] at H0
  clear hv
  obtain ⟨w0, hw0⟩ : ∃ W, W = w1 := ⟨_, rfl⟩
  subst hw0
  go_wp2_with fail
  go_loopw [5, 16] (fun v5 v16 wr => ∃ (k : Nat) (R : List Td) (F1 : Nat → Prop), v16 = .int .i64 k ∧ k ≤ O.length ∧ TkInv w q often F O rem v k R v5 wr F1) (fun _ v16 _ => O.length - (intOf v16).toNat)
  case atStart => exact ⟨0, rem, F1, rfl, by omega, H0.out⟩
  case round =>
    clear H0
    obtain ⟨k, R, F2, rfl, hk, hinv⟩ := hrel
    have hRl := hinv.len
    by_cases hkl : k < O.length
    · obtain ⟨t, hkc⟩ : ∃ t, O[k]? = some t := ⟨_, List.getElem?_eq_getElem hkl⟩
      rcases hcv with ⟨_, h0⟩ | ⟨g, rfl⟩
      · omega
      obtain ⟨a0, a1, a2, a3⟩ := hinv.cells HV.out.symm hkc
      have hgl : g < wr.heap.size := row_lt hinv.out g (by rw [← HV.out]; rfl)
      have hgn : g ≠ wr.heap.size := by omega
      have htn := HT1.out t (List.mem_of_getElem? hkc)
      obtain ⟨⟨xn, xi, xh⟩, xt⟩ := t
      dsimp only at a0 a1 a2 a3 htn
      obtain ⟨T, hT⟩ : ∃ T : Int, (xt : Int) = T := ⟨_, rfl⟩
      have HT := Lib.hid hT
      rw [hT] at a3
      have hT0 : 0 ≤ T := by omega
      have hT1 : T < 1000 := by omega
      have hcn := cell_three_new (wr.alloc (.cells #[.int .i64 xn, .int .i64 xi, .int .i64 xh, .int .i64 T] 60)) (.int .i64 xn) (.int .i64 xi) (.int .i64 xh) 28
      rw [show (wr.alloc (.cells #[.int .i64 xn, .int .i64 xi, .int .i64 xh, .int .i64 T] 60)).heap.size = wr.heap.size + 1 from by simp] at hcn
      have HCN := Lib.hid hcn
      have HI := Lib.hid hinv
      have HK := Lib.hid hkc
      clear hcn hinv hkc hT htn
      go_upto_region 9 with (at_builtin; refine wpList_append_where rfl _ _ 32 rfl 28 i1 (.agg #[.int .i64 0, .int .i64 0, .int .i64 0]) 3 24 Try.underlying32 hi1 hy0 hy1 hy2 rfl (by decide) u5 k _ rfl ((HI.out.row.alloc _).alloc _) ⟨wr.heap.size + 1, 0, none⟩ 1 1 [.int .i64 xn, .int .i64 xi, .int .i64 xh] rfl rfl HCN.out (by simp [Value.oneCell']) (by unfold maxLen; omega) (by omega) ?_; intro u' w4 hown' hgrow hwh; have hn4 := (HI.out.append (T' := T) HK.out hown' hgrow hwh).2; have d3 : w4.cell? ⟨wr.heap.size, 3, none⟩ = some (.int .i64 T) := (by simp [World.cell?, hn4]); have d4 : w4.frozen? ⟨wr.heap.size, 3, none⟩ = false := (by simp [World.frozen?, hn4]); have d5 : wr.heap.size < w4.heap.size := (Array.getElem?_eq_some_iff.1 hn4).1; have HM := Lib.hid (HI.out.append (T' := T + 1) HK.out hown' hgrow hwh).1; clear hown' hgrow hwh hn4)
      obtain ⟨w5, hw5⟩ : ∃ W, w4.setCell ⟨wr.heap.size, 3, none⟩ (.int .i64 (T + 1)) = W := ⟨_, rfl⟩
      rw [hw5] at HM ⊢
      obtain ⟨b, hb⟩ : ∃ b, wr.heap.size = b := ⟨_, rfl⟩
      rw [hb] at HM ⊢
      have hm := HM.out
      have m0 := hm.c0
      have m1 := hm.c1
      have m2 := hm.c2
      have m3 := hm.c3
      have mq := hm.q0
      have ml := hm.lt
      have mql := hm.ql
      dsimp only at m0 m1 m2
      obtain ⟨OF, hOF⟩ : ∃ X : Int, (often : Int) = X := ⟨_, rfl⟩
      rw [hOF] at mq
      by_cases hbk : xt + 1 < often
      · have g1 : decide (T + 1 < OF) = true := by have := HT.out; simp; omega
        have HB : Hid (∀ x : Later w5, Calls Try.prog 24 #[.iface 62 (.pointer (some ⟨q, 1, none⟩)), .iface 60 (.agg #[.int .i64 xn, .int .i64 xi, .int .i64 xh, .int .i64 (T + 1)])] x.w fun e W' => ∃ r, e = .returned r ∧ Hid (∃ R' F3, R'.length = R.length + 1 ∧ TkInv w q often F O rem v (k + 1) R' u' W' F3)) := Lib.hid fun x => by
          have := (hm.later x).back HK.out hbk (by omega)
          rw [← HT.out]
          exact this
        clear hm hOF hbk hw5 hb d3 d4 d5 HCN HM HI a0 a1 a2 a3 hgl hgn
        go_quiet (fail)
        go_wp2_with fail
        have HB9 := Lib.hid (HB.out ⟨(w5.drewN nq).drew, ext_drew (ext_drewN (ext_refl w5) _)⟩)
        clear HB
        dsimp only at HB9
        go_region_law (refine stp_call2 rfl 24 _ _ _ rfl Try.call24 rfl rfl HB9.out ?_; intro r w6 HE)
        go_wp2_with fail
        go_roundw
        case rel =>
          obtain ⟨R', F3, _, hI⟩ := HE.out
          exact ⟨k + 1, R', F3, by go_num, by omega, hI⟩
        case measure => simp [intOf]; omega
      · have g1 : decide (T + 1 < OF) = false := by have := HT.out; simp; omega
        clear hm hOF hw5 hb d3 d4 d5 HCN HI a0 a1 a2 a3 hgl hgn
        go_quiet (fail)
        go_wp2_with fail
        go_roundw
        case rel => exact ⟨k + 1, R, F2, by go_num, by omega, (HM.out.later ⟨w5.drewN nq, ext_drewN (ext_refl w5) _⟩).gone HK.out hbk⟩
        case measure => simp [intOf]; omega
    · obtain rfl : k = O.length := by omega
      have HI := Lib.hid hinv
      clear hinv
      go_wp2_with fail
      go_ret
      have hI := HI.out
      have hp := hI.perm
      have hr := hI.row
      rw [List.take_length] at hp hr
      exact ⟨_, O, rem, R, F2, rfl, HPk.out, HC.out, row_base hr fun b hb => (hI.rowb b hb).1, fun b hb => (hI.rowb b hb).2, hI.heap, hp, hI.rum, hI.fr, hI.sub⟩
end Go.Proofs.Ytlcmehighgmoeaa
