/- Vaults: merges of bags that grow. -/
import Derived.Test.YthaabnlhhfnalaaVtE
import Derived.Test.YthaabnlhhfnalaaVtP
namespace Go.Proofs.Ythaabnlhhfnalaa
open Go Go.RowKit Go.BigFrame
def kM : ByteArray := ⟨#[107]⟩
def datX : En → ByteArray := fun _ => kX1
theorem kM_key : keyB kM = true := by decide +kernel
theorem sameB_comm {a b : Bg} (h : sameB a b = true) : sameB b a = true := sameB_iff.2 ⟨fun i hi => ((sameB_iff.1 h).1 i hi).symm, (sameB_iff.1 h).2.symm⟩
theorem sameB_trans {a b c : Bg} (h1 : sameB a b = true) (h2 : sameB b c = true) : sameB a c = true := sameB_iff.2 ⟨fun i hi => ((sameB_iff.1 h1).1 i hi).trans ((sameB_iff.1 h2).1 i hi), (sameB_iff.1 h1).2.trans (sameB_iff.1 h2).2⟩
theorem hasV_same {a b : Bg} (h : sameB a b = true) (d : En) : hasV a.k d = hasV b.k d := by
 have h1 := (sameB_iff.1 h).1
 rw [Bool.eq_iff_iff, hasV_iff, hasV_iff]
 constructor
 ·rintro ⟨h2, h3, h4⟩
  exact ⟨h2, h3, by rw [← h1 _ (by omega)]; exact h4⟩
 ·rintro ⟨h2, h3, h4⟩
  exact ⟨h2, h3, by rw [h1 _ (by omega)]; exact h4⟩
theorem stB_same {a b : Bg} (h : sameB a b = true) (d : En) : stB a d = stB b d := by
 unfold stB
 rw [hasV_same h d, (sameB_iff.1 h).2]
theorem leB_left_same {a b c : Bg} (h : sameB a b = true) (h1 : leB b c) : leB a c := ⟨fun i hi => by rw [(sameB_iff.1 h).1 i hi]; exact h1.1 i hi, fun d => by rw [stB_same h d]; exact h1.2 d⟩
theorem leB_right_same {a b c : Bg} (h1 : leB a b) (h : sameB b c = true) : leB a c := ⟨fun i hi => by rw [← (sameB_iff.1 h).1 i hi]; exact h1.1 i hi, fun d => by rw [← stB_same h d]; exact h1.2 d⟩
theorem dat_same {dat : En → ByteArray} {a b : Bg} (h : sameB a b = true) (hb : DatB dat b) : DatB dat a := fun x hx => hb x (by rw [← (sameB_iff.1 h).2]; exact hx)
theorem put_ok {b c : Bg} {kn : Nat → Int} {d : En} {t : ByteArray} (hb : MayB b) (h : putBR b kn d t = (c, 0)) : MayB c ∧ leB b c ∧ ∀ dat : En → ByteArray, DatB dat b → t = dat d → DatB dat c := by
 rcases put_ways5 h with ⟨_, _, q⟩ | ⟨_, _, _, q⟩ | ⟨_, _, _, _, q⟩ | ⟨_, _, _, _, _, q⟩ | ⟨_, _, _, _, _, _, q⟩ | ⟨_, _, _, _, _, _, _, q⟩ | ⟨_, h2, h3, h4, h5, h6, rfl, _⟩
 ·cases q
 ·cases q
 ·cases q
 ·cases q
 ·cases q
 ·cases q
 ·exact ⟨may_put hb h2 h3 h4 h5 h6, leB_put hb.toPre h3 h4, fun dat hd ht => dat_put hd ht⟩
structure Ch (bs : List Bg) (b : Bg) : Prop where
 last : bs[bs.length - 1]? = some b
 pos : 0 < bs.length
 zero : bs[0]? = some noB
 may : ∀ x ∈ bs, MayB x
 dat : ∀ x ∈ bs, DatB datX x
 le : ∀ (j m : Nat) (x y : Bg), j ≤ m → bs[j]? = some x → bs[m]? = some y → leB x y
theorem Ch.start : Ch [noB] noB where
 last := rfl
 pos := by decide
 zero := rfl
 may x hx := by rw [List.mem_singleton.1 hx]; exact may_noB
 dat x hx y hy := by
  rw [List.mem_singleton.1 hx] at hy
  cases hy
 le j m x y _ h1 h2 := by
  have e1 : x = noB := by simpa using List.mem_of_getElem? h1
  have e2 : y = noB := by simpa using List.mem_of_getElem? h2
  rw [e1, e2]
  exact leB_refl _
theorem snoc_at {α : Type} {l : List α} {c x : α} {j : Nat} (h : (l ++ [c])[j]? = some x) : (j < l.length ∧ l[j]? = some x) ∨ (j = l.length ∧ x = c) := by
 rcases Nat.lt_or_ge j l.length with hj | hj
 ·rw [List.getElem?_append_left hj] at h
  exact .inl ⟨hj, h⟩
 ·have h2 : j < (l ++ [c]).length := (List.getElem?_eq_some_iff.1 h).1
  rw [List.length_append, List.length_singleton] at h2
  obtain rfl : j = l.length := by omega
  exact .inr ⟨rfl, by simpa using h.symm⟩
theorem Ch.step {bs : List Bg} {b c : Bg} {kn : Nat → Int} {d : En} (h : Ch bs b) (hp : putBR b kn d kX1 = (c, 0)) : Ch (bs ++ [c]) c := by
 have hbm := List.mem_of_getElem? h.last
 obtain ⟨h1, h2, h3⟩ := put_ok (h.may b hbm) hp
 refine ⟨by simp, by simp, ?_, ?_, ?_, ?_⟩
 ·rw [List.getElem?_append_left h.pos]
  exact h.zero
 ·intro x hx
  rcases List.mem_append.1 hx with hx | hx
  ·exact h.may x hx
  ·rw [List.mem_singleton.1 hx]; exact h1
 ·intro x hx
  rcases List.mem_append.1 hx with hx | hx
  ·exact h.dat x hx
  ·rw [List.mem_singleton.1 hx]; exact h3 _ (h.dat b hbm) rfl
 ·intro j m x y hjm hx hy
  have hp := h.pos
  rcases snoc_at hx with ⟨hj, hx2⟩ | ⟨rfl, rfl⟩
  ·rcases snoc_at hy with ⟨hm, hy2⟩ | ⟨rfl, rfl⟩
   ·exact h.le j m x y hjm hx2 hy2
   ·exact leB_trans (h.le j (bs.length - 1) x b (by omega) hx2 h.last) h2
  ·rcases snoc_at hy with ⟨hm, hy⟩ | ⟨_, rfl⟩
   ·omega
   ·exact leB_refl _
structure Mg (X : Vl2) (bs : List Bg) (i m : Nat) : Prop where
 kept : Kept X
 room : X.2.room = 100
 len : X.2.l.length ≤ i
 dots : X.1.dots = 0
 num : X.1.b.length = 0 ∨ (X.1.b.length = 1 ∧ hasK X.1 kM = true)
 lt : m < bs.length
 same : ∀ b, bs[m]? = some b → sameB (bagV X.1 kM) b = true
theorem Mg.start {bs : List Bg} {b : Bg} (h : Ch bs b) : Mg (playD (newL 100).l, newL 100) bs 0 0 := ⟨Kept.open (LgOk.new 100), rfl, Nat.le_refl _, rfl, .inl rfl, h.pos, fun x hx => by
 rw [h.zero] at hx
 obtain rfl := Option.some.inj hx
 exact sameB_self _⟩
theorem Mg.merge {X : Vl2} {bs : List Bg} {b x : Bg} {i m j : Nat} (h : Mg X bs i m) (hc : Ch bs b) (hi : i < 100) (hj : bs[j]? = some x) : ∃ Y, mergeV X kM x = (Y, 0) ∧ Mg Y bs (i + 1) (max m j) ∧ (j ≤ m → Y = X) := by
 obtain ⟨y, hy⟩ : ∃ y, bs[m]? = some y := ⟨_, List.getElem?_eq_getElem h.lt⟩
 have hs := h.same y hy
 have hm := bagV_may h.kept.ok kM
 have hx := hc.may x (List.mem_of_getElem? hj)
 have dx := hc.dat x (List.mem_of_getElem? hj)
 have dm := dat_same hs (hc.dat y (List.mem_of_getElem? hy))
 have hjl : j < bs.length := (List.getElem?_eq_some_iff.1 hj).1
 have hf : ¬ fullV X.1 kM = true := by
  unfold fullV
  rw [decide_eq_false (by rcases h.num with q | q <;> omega), Bool.and_false]
  exact Bool.false_ne_true
 have hkx : keyB kM = true ∧ mayB x = true := ⟨kM_key, mayB_iff.2 hx⟩
 rcases Nat.lt_or_ge m j with hmj | hmj
 ·have hle : leB (bagV X.1 kM) x := leB_left_same hs (hc.le m j y x (by omega) hy hj)
  obtain ⟨_, q2, _, q4, _⟩ := below_of hm hx dm dx hle
  have hmx : max m j = j := by omega
  by_cases hb : belowB x (bagV X.1 kM) = true
  ·refine ⟨X, ?_, ?_, fun _ => rfl⟩
   ·unfold mergeV
    rw [if_pos hkx, if_neg hf, q2, if_pos rfl, if_pos hb]
   ·rw [hmx]
    refine ⟨h.kept, h.room, Nat.le_succ_of_le h.len, h.dots, h.num, hjl, fun z hz => ?_⟩
    rw [hj] at hz
    obtain rfl := Option.some.inj hz
    unfold belowB at hb
    rw [q2, Bool.and_eq_true] at hb
    exact sameB_trans (sameB_comm hb.2) q4
  ·have hjm : MayB (joinB x (bagV X.1 kM)) := by
    rcases join_of hx hm q2 with ⟨_, _, q⟩ | ⟨q, _⟩
    ·exact q
    ·cases q
   have hw := writeV_ok (X := X) (d := kbD X.1.dots kM (joinB x (bagV X.1 kM))) (bag_mayD kM_key hjm (by rw [h.dots]; decide)) (by rw [h.room]; have := h.len; omega)
   have he : mergeV X kM x = ((countD X.1 (kbD X.1.dots kM (joinB x (bagV X.1 kM))), ⟨X.2.room, X.2.sure, X.2.l ++ [kbD X.1.dots kM (joinB x (bagV X.1 kM))]⟩), 0) := by
    unfold mergeV
    rw [if_pos hkx, if_neg hf, q2, if_pos rfl, if_neg hb, hw]
   have hK := h.kept.merge kM x
   rw [he] at hK
   refine ⟨_, he, ?_, fun q => by omega⟩
   rw [hmx]
   refine ⟨hK, h.room, ?_, ?_, ?_, hjl, fun z hz => ?_⟩
   ·show (X.2.l ++ [_]).length ≤ i + 1
    rw [List.length_append]
    exact Nat.succ_le_succ h.len
   ·show (countD X.1 (kbD X.1.dots kM (joinB x (bagV X.1 kM)))).dots = 0
    rw [countD_3 (d := kbD X.1.dots kM (joinB x (bagV X.1 kM))) rfl]
    show max X.1.dots X.1.dots = 0
    rw [h.dots]
    rfl
   ·refine .inr ⟨?_, ?_⟩
    ·show (countD X.1 (kbD X.1.dots kM (joinB x (bagV X.1 kM)))).b.length = 1
     rw [len_put h.kept.ok (d := kbD X.1.dots kM (joinB x (bagV X.1 kM))) rfl]
     show (if hasK X.1 kM = true then X.1.b.length else X.1.b.length + 1) = 1
     rcases h.num with q | ⟨q, q'⟩
     ·have : hasK X.1 kM = false := by
       unfold hasK
       rw [List.length_eq_zero_iff.1 q]
       rfl
      rw [this, q]
      rfl
     ·rw [if_pos q', q]
    ·show hasK (countD X.1 (kbD X.1.dots kM (joinB x (bagV X.1 kM)))) kM = true
     rw [hasK_put (d := kbD X.1.dots kM (joinB x (bagV X.1 kM))) rfl, Bool.or_eq_true]
     exact .inr (decide_eq_true rfl)
   ·rw [hj] at hz
    obtain rfl := Option.some.inj hz
    show sameB (bagV (countD X.1 (kbD X.1.dots kM (joinB x (bagV X.1 kM)))) kM) x = true
    rw [bag_count (d := kbD X.1.dots kM (joinB x (bagV X.1 kM))) rfl]
    exact q4
 ·have hle : leB x (bagV X.1 kM) := leB_right_same (hc.le j m x y hmj hj hy) (sameB_comm hs)
  obtain ⟨q1, _, _, _, q5⟩ := below_of hx hm dx dm hle
  refine ⟨X, ?_, ?_, fun _ => rfl⟩
  ·unfold mergeV
   rw [if_pos hkx, if_neg hf, q1, if_pos rfl, if_pos q5]
  ·rw [show max m j = m by omega]
   exact ⟨h.kept, h.room, Nat.le_succ_of_le h.len, h.dots, h.num, h.lt, h.same⟩
theorem Mg.again {X : Vl2} {bs : List Bg} {b x : Bg} {i m j : Nat} (h : Mg X bs i m) (hc : Ch bs b) (hi : i < 100) (hm : bs.length ≤ m + 1) (hj : bs[j]? = some x) : mergeV X kM x = (X, 0) := by
 obtain ⟨Y, h1, _, h3⟩ := h.merge hc hi hj
 have hjl : j < bs.length := (List.getElem?_eq_some_iff.1 hj).1
 rw [h1, h3 (by omega)]
theorem Mg.done {X : Vl2} {bs : List Bg} {b : Bg} {i m : Nat} (h : Mg X bs i m) (hc : Ch bs b) (hm : bs.length ≤ m + 1) : sameB (bagV X.1 kM) b = true := by
 have h1 := h.lt
 refine h.same b ?_
 rw [show m = bs.length - 1 by omega]
 exact hc.last
theorem rot_last {N k m : Nat} (hk : k < N) (h : ∀ t, t < N → (t + k) % N ≤ m) : N ≤ m + 1 := by
 have h1 := h (N - 1 - k) (by omega)
 rw [show N - 1 - k + k = N - 1 by omega, Nat.mod_eq_of_lt (by omega)] at h1
 omega
theorem merge_nokey (X : Vl2) (b : Bg) : mergeV X ⟨#[]⟩ b = (X, 1) := by
 unfold mergeV
 rw [if_neg]
 rintro ⟨h, _⟩
 have : keyB ⟨#[]⟩ = false := by decide +kernel
 rw [this] at h
 cases h
structure Bs (hs : List Hb) (bs : List Bg) (R : At) : Prop where
 len : hs.length = bs.length
 rd : ∀ (j : Nat) (h : Hb) (b : Bg), hs[j]? = some h → bs[j]? = some b → h.f = b.k ∧ h.n = b.v.length ∧ Reads elemV R (.slice h.p h.n h.c) b.v
theorem Bs.start : Bs [⟨noB.k, none, 0, 0⟩] [noB] (listT []) := ⟨rfl, fun j h b h1 h2 => by
 have e1 : h = ⟨noB.k, none, 0, 0⟩ := by simpa using List.mem_of_getElem? h1
 have e2 : b = noB := by simpa using List.mem_of_getElem? h2
 rw [e1, e2]
 exact ⟨rfl, rfl, vNil _⟩⟩
theorem Bs.step {hs : List Hb} {bs : List Bg} {rs : List At} (h : Bs hs bs (listT rs)) (c : Bg) (p : Option Addr) (cc : Nat) : Bs (hs ++ [⟨c.k, p, c.v.length, cc⟩]) (bs ++ [c]) (listT (rowT elemV (.slice p c.v.length cc) c.v :: rs)) := by
 refine ⟨by rw [List.length_append, List.length_append, h.len]; rfl, fun j y b h1 h2 => ?_⟩
 have hl := h.len
 rcases snoc_at h1 with ⟨hj, h1⟩ | ⟨e, rfl⟩
 ·rcases snoc_at h2 with ⟨_, h2⟩ | ⟨e2, _⟩
  ·obtain ⟨q1, q2, q3⟩ := h.rd j y b h1 h2
   exact ⟨q1, q2, reads_more q3⟩
  ·omega
 ·rcases snoc_at h2 with ⟨hj, _⟩ | ⟨_, rfl⟩
  ·omega
  ·exact ⟨rfl, rfl, vL 0 rfl rowT_reads⟩
theorem Bs.at {hs : List Hb} {bs : List Bg} {R : At} (h : Bs hs bs R) {j : Nat} (hj : j < hs.length) : ∃ (p : Option Addr) (c : Nat) (b : Bg), hs[j]? = some ⟨b.k, p, b.v.length, c⟩ ∧ bs[j]? = some b ∧ Reads elemV R (.slice p b.v.length c) b.v := by
 obtain ⟨y, hy⟩ : ∃ y, hs[j]? = some y := ⟨_, List.getElem?_eq_getElem hj⟩
 obtain ⟨b, hb⟩ : ∃ b, bs[j]? = some b := ⟨_, List.getElem?_eq_getElem (by rw [← h.len]; exact hj)⟩
 obtain ⟨q1, q2, q3⟩ := h.rd j y b hy hb
 cases y with
 | mk f p n c =>
  dsimp only at q1 q2 q3
  subst q1
  subst q2
  exact ⟨p, c, b, hy, hb, q3⟩
section
variable {P : Program} {W : World} {a : Act} {o : Oper}
theorem run_remK {κ : IntKind} {T tt : TypeId} {X Y : Operand} {x z : Int} {m n : Nat} (hn : 0 < n) (hz : z = (n : Int)) (he : x = (m : Int)) (ho : o.op = .binOp .rem T X Y tt) (hx : a.eval X = .int κ x) (hy : a.eval Y = .int κ z) : (execOp a.eval o).run P W = .ok (.value (.int κ ((m % n : Nat) : Int))) W := by
 have h : Go.binOp .rem T (.int κ x) (.int κ z) = (pure (.int κ ((m % n : Nat) : Int)) : Sem Value) := by
  rw [binOp_rem]
  unfold Op.intDiv
  rw [if_neg (by omega), he, hz]
  show pure (Value.int κ ((m : Int).tmod (n : Int))) = _
  rw [Int.ofNat_tmod]
 unfold execOp
 simp only [ho, hx, hy, eqGuard_rem, h, Sem.run_bind, Sem.run_pure, Result.andThen_ok]
end
end Go.Proofs.Ythaabnlhhfnalaa
