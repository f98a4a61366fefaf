/- Q17: GvI, GvA. -/
import Derived.Test.YtcchkkdbagpgjaaGreatGvH
import Derived.Test.YtcchkkdbagpgjaaGreatQ13
namespace Go.Proofs.YtcchkkdbagpgjaaGreat
open Go Go.RowKit Go.BigFrame
def gkAt (g c : Nat) (G : Gv) (Y : List Pz) (L : List At) (H0 : Nat → Prop) (w : World) (xs : List Pz) (W : World) : Prop := Mem (gqT g c G xs :: pcsT Y :: L) H0 w W ∧ (∀ x ∈ xs, x ∈ Y) ∧ xs.length ≤ 1000
theorem gkload {b : Nat} {v : Value} {W : World} (h : W.cell? ⟨b, 5, none⟩ = some v) : (loadVar 109 ⟨b, 5, none⟩).run Tryz.prog W = .ok v W := by
 simp [loadVar, isAgg, go_sem, h]
theorem gkheap (g c : Nat) (G : Gv) (Y : List Pz) (L : List At) (H0 : Nat → Prop) (w : World) : HeapIf Tryz.prog (gpV g) lessP (gkAt g c G Y L H0 w) where
 size xs W h := by have := h.2.2; omega
 len xs W h := by
  obtain ⟨p, m, hm⟩ := Mem.gq h.1
  refine via_value (elem := 109) (f := 220) Tryz.underlying126 (by kernel_rfl) (gkload (Mem.cell hm 0 rfl 5)) Tryz.call220 ?_
  exact ((plen_d p xs.length m).mem hm [] rfl covS_nil).mono fun e W' ⟨he, h2, _⟩ => ⟨he, Mem.toGq rfl h2, h.2⟩
 less xs W i j x y h hi hj := by
  obtain ⟨p, m, hm⟩ := Mem.gq h.1
  refine via_value (elem := 109) (f := 221) Tryz.underlying126 (by kernel_rfl) (gkload (Mem.cell hm 0 rfl 5)) Tryz.call221 ?_
  exact ((pless_d p m xs Y i j x y hi hj (h.2.1 x (List.mem_of_getElem? hi)) (h.2.1 y (List.mem_of_getElem? hj))).mem hm [1, 1] rfl covS_nil).mono fun e W' ⟨he, h2, _⟩ => ⟨he, Mem.toGq rfl (Mem.front (pre := [_]) h2 [2] rfl), h.2⟩
 swap xs W i j x y h hi hj := by
  obtain ⟨p, m, hm⟩ := Mem.gq h.1
  refine via_value (elem := 109) (f := 222) Tryz.underlying126 (by kernel_rfl) (gkload (Mem.cell hm 0 rfl 5)) Tryz.call222 ?_
  exact ((pswap_d p m xs i j x y hi hj).mem hm [1] rfl covS_nil).mono fun e W' ⟨he, h2, _⟩ => ⟨⟨_, he⟩, Mem.toGq (swapL_len xs i j) (Mem.swap2 h2), fun z hz => h.2.1 z ((swapL_perm xs i j).subset hz), by rw [swapL_len]; exact h.2.2⟩
theorem gkpops (g c : Nat) (G : Gv) (Y : List Pz) (L : List At) (H0 : Nat → Prop) (w : World) : HeapPops Tryz.prog (gpV g) (fun x => encP x.b) (gkAt g c G Y L H0 w) where
 pop xs x W h := by
  have hl : xs.length + 1 ≤ 1000 := by have := h.2.2; rwa [List.length_append] at this
  refine via_pointer (n := Tryz.prog.types.size + Made.depth - 1 + 1) (by have : 0 < Made.depth := (by decide); omega) (method_pointer (f := 223) (elem := 109) Tryz.underlying126 (by kernel_rfl)) Tryz.call223 ?_
  exact ((ppopg_d g c G xs x hl).mem h.1 [0] rfl covS_nil).mono fun e W' ⟨he, h2, _⟩ => ⟨he, h2, fun z hz => h.2.1 z (List.mem_append.2 (.inl hz)), by omega⟩
def rkAt (r : Nat) (Y : List Pz) (L : List At) (H0 : Nat → Prop) (w : World) (xs : List Pz) (W : World) : Prop := Mem (rqT r xs :: pcsT Y :: L) H0 w W ∧ (∀ x ∈ xs, x ∈ Y) ∧ xs.length ≤ 1000
theorem rkload {b : Nat} {v : Value} {W : World} (h : W.cell? ⟨b, 0, none⟩ = some v) : (loadVar 109 ⟨b, 0, none⟩).run Tryz.prog W = .ok v W := by
 simp [loadVar, isAgg, go_sem, h]
theorem rkheap (r : Nat) (Y : List Pz) (L : List At) (H0 : Nat → Prop) (w : World) : HeapIf Tryz.prog (rpV r) lessP (rkAt r Y L H0 w) where
 size xs W h := by have := h.2.2; omega
 len xs W h := by
  obtain ⟨p, m, hm⟩ := Mem.rq h.1
  refine via_value (elem := 109) (f := 220) Tryz.underlying126 (by kernel_rfl) (rkload (Mem.cell hm 0 rfl 0)) Tryz.call220 ?_
  exact ((plen_d p xs.length m).mem hm [] rfl covS_nil).mono fun e W' ⟨he, h2, _⟩ => ⟨he, Mem.toRq rfl h2, h.2⟩
 less xs W i j x y h hi hj := by
  obtain ⟨p, m, hm⟩ := Mem.rq h.1
  refine via_value (elem := 109) (f := 221) Tryz.underlying126 (by kernel_rfl) (rkload (Mem.cell hm 0 rfl 0)) Tryz.call221 ?_
  exact ((pless_d p m xs Y i j x y hi hj (h.2.1 x (List.mem_of_getElem? hi)) (h.2.1 y (List.mem_of_getElem? hj))).mem hm [1, 1] rfl covS_nil).mono fun e W' ⟨he, h2, _⟩ => ⟨he, Mem.toRq rfl (Mem.front (pre := [_]) h2 [2] rfl), h.2⟩
 swap xs W i j x y h hi hj := by
  obtain ⟨p, m, hm⟩ := Mem.rq h.1
  refine via_value (elem := 109) (f := 222) Tryz.underlying126 (by kernel_rfl) (rkload (Mem.cell hm 0 rfl 0)) Tryz.call222 ?_
  exact ((pswap_d p m xs i j x y hi hj).mem hm [1] rfl covS_nil).mono fun e W' ⟨he, h2, _⟩ => ⟨⟨_, he⟩, Mem.toRq (swapL_len xs i j) (Mem.swap2 h2), fun z hz => h.2.1 z ((swapL_perm xs i j).subset hz), by rw [swapL_len]; exact h.2.2⟩
theorem rkpops (r : Nat) (Y : List Pz) (L : List At) (H0 : Nat → Prop) (w : World) : HeapPops Tryz.prog (rpV r) (fun x => encP x.b) (rkAt r Y L H0 w) where
 pop xs x W h := by
  have hl : xs.length + 1 ≤ 1000 := by have := h.2.2; rwa [List.length_append] at this
  refine via_pointer (n := Tryz.prog.types.size + Made.depth - 1 + 1) (by have : 0 < Made.depth := (by decide); omega) (method_pointer (f := 223) (elem := 109) Tryz.underlying126 (by kernel_rfl)) Tryz.call223 ?_
  exact ((ppopr_d r xs x hl).mem h.1 [0] rfl covS_nil).mono fun e W' ⟨he, h2, _⟩ => ⟨he, h2, fun z hz => h.2.1 z (List.mem_append.2 (.inl hz)), by omega⟩
theorem gpush_d (g c : Nat) (G : Gv) (D Y : List Pz) (x : Pz) (hY : ∀ z ∈ D, z ∈ Y) (hx : x ∈ Y) (hl : D.length < 1000) : DoesU Tryz.prog 88 #[gpV g, encP x.b] [ghT g c G D, pcsT Y] (fun _ => [ghT g c G (D ++ [x]), pcsT Y]) := fun W H hs => by
 obtain ⟨xs, h1, h2, hm⟩ := Mem.gh (L := [pcsT Y]) (mem_refl hs)
 have hlx : xs.length < 1000 := by rw [h2.length_eq]; exact hl
 have hP : Via Tryz.prog (gpV g) "Push" #[encP x.b] W fun e W' => (∃ v, e = .returned v) ∧ gkAt g c G Y [] H W (xs ++ [x]) W' := by
  refine via_pointer (n := Tryz.prog.types.size + Made.depth - 1 + 1) (by have : 0 < Made.depth := (by decide); omega) (method_pointer (f := 224) (elem := 109) Tryz.underlying126 (by kernel_rfl)) Tryz.call224 ?_
  exact ((ppush_d g c G xs x hlx).mem hm [0] rfl covS_nil).mono fun e W' ⟨he, h3, _⟩ => ⟨⟨_, he⟩, h3, (fun z hz => by
   rcases List.mem_append.1 hz with hz | hz
   ·exact hY z (h2.subset hz)
   ·rw [List.mem_singleton.1 hz]; exact hx), by rw [List.length_append]; exact hlx⟩
 refine (heapPush_of (enc := fun x : Pz => encP x.b) lessP_ordered (gkheap g c G Y [] H W) xs x W ⟨hm, (fun z hz => hY z (h2.subset hz)), Nat.le_of_lt hlx⟩ h1 hP).mono ?_
 rintro e W' ⟨⟨v, he⟩, ys, ⟨hy, _, _⟩, hp, hh⟩
 exact ⟨v, he, Mem.toGh hh (hp.trans (h2.append_right _)) hy⟩
theorem grem_d (g c : Nat) (G : Gv) (xs Y : List Pz) (i : Nat) (x : Pz) (hh : IsHeap lessP xs.length xs) (hY : ∀ z ∈ xs, z ∈ Y) (hl : xs.length ≤ 1000) (hx : xs[i]? = some x) : Does Tryz.prog 56 #[gpV g, .int .i64 (i : Int)] [gqT g c G xs, pcsT Y] (encP x.b) [exT fun ys : List Pz => [prT (IsHeap lessP ys.length ys ∧ (x :: ys).Perm xs), gqT g c G ys], pcsT Y] := fun W H hs => by
 refine (heapRemove_of (enc := fun x : Pz => encP x.b) lessP_ordered (gkheap g c G Y [] H W) (gkpops g c G Y [] H W) xs i x W ⟨mem_refl hs, hY, hl⟩ hh hx).mono ?_
 rintro e W' ⟨he, ys, ⟨hy, _, _⟩, hp, hh⟩
 exact ⟨he, Mem.addEx ys (Mem.addPr ⟨hh, hp⟩ hy)⟩
theorem rpop_d (r : Nat) (D Y : List Pz) (x : Pz) (hs : (x :: D).Pairwise fun a b => a.o.seq < b.o.seq) (hY : ∀ z ∈ x :: D, z ∈ Y) (hl : D.length < 1000) : Does Tryz.prog 117 #[rpV r] [rhT r (x :: D), pcsT Y] (encP x.b) [rhT r D, pcsT Y] := fun W H hst => by
 obtain ⟨xs, h1, h2, hm⟩ := Mem.rh (L := [pcsT Y]) (mem_refl hst)
 have hx : xs.length = D.length + 1 := h2.length_eq
 refine (heapPop_of (enc := fun x : Pz => encP x.b) lessP_ordered (rkheap r Y [] H W) (rkpops r Y [] H W) xs W ⟨hm, (fun z hz => hY z (h2.subset hz)), by omega⟩ h1 (by omega)).mono ?_
 rintro e W' ⟨y, ys, he, ⟨hy, _, _⟩, hp, hle, hh⟩
 have hp2 : (y :: ys).Perm (x :: D) := hp.trans h2
 have hyx : y = x := by
  rcases List.mem_cons.1 (hp2.subset List.mem_cons_self) with h | h
  ·exact h
  ·have h3 := (List.pairwise_cons.1 hs).1 y h
   have h4 : decide (x.o.seq < y.o.seq) = false := hle x (h2.symm.subset List.mem_cons_self)
   exact absurd h3 (of_decide_eq_false h4)
 subst hyx
 exact ⟨he, Mem.toRh hh hp2.cons_inv hy⟩
end Go.Proofs.YtcchkkdbagpgjaaGreat
namespace Go.Proofs.YtcchkkdbagpgjaaGreat
open Go
structure SameG (G H : Gv) : Prop where
 self : H.self = G.self
 part : H.part = G.part
 epoch : H.epoch = G.epoch
 dst : H.dst = G.dst
 ticks : H.ticks = G.ticks
 ends : H.ends = G.ends
theorem SameG.rfl' (G : Gv) : SameG G G := ⟨rfl, rfl, rfl, rfl, rfl, rfl⟩
theorem SameG.give {G H : Gv} (h : SameG G H) (o : Ot) : giveM H o = giveM G o := by
 unfold giveM
 rw [h.self, h.dst, h.part, h.epoch]
theorem SameG.giveF {G H : Gv} (h : SameG G H) : giveM H = giveM G := funext h.give
theorem fill_same (S : Vt) : ∀ (n : Nat) (G : Gv), SameG G (fillG S n G).1 ∧ (fillG S n G).1.out = G.out ++ (fillG S n G).2 ∧ (∀ o ∈ (fillG S n G).2, o.at_ = G.ticks) ∧ (fillG S n G).1.F.part = G.F.part
 | 0, G => ⟨SameG.rfl' G, (List.append_nil _).symm, (fun _ h => by cases h), rfl⟩
 | n + 1, G => by
  unfold fillG
  obtain ⟨F, o, hn⟩ : ∃ F o, nextF G.F (keysV S G.F.part) = (F, o) := ⟨_, _, rfl⟩
  have hp := next_part G.F (keysV S G.F.part)
  rw [hn] at hp ⊢
  cases o with
  | none => exact ⟨⟨rfl, rfl, rfl, rfl, rfl, rfl⟩, (List.append_nil _).symm, (fun _ h => by cases h), hp⟩
  | some k =>
   obtain ⟨h1, h2, h3, h4⟩ := fill_same S n ⟨G.self, G.part, G.epoch, G.dst, F, G.seq + 1, G.ticks, G.ends, G.out ++ [⟨G.seq + 1, k, bagV S k, G.ticks⟩]⟩
   refine ⟨⟨h1.self, h1.part, h1.epoch, h1.dst, h1.ticks, h1.ends⟩, h2.trans (by rw [List.append_assoc]; rfl), fun o ho => ?_, h4.trans hp⟩
   rcases List.mem_cons.1 ho with rfl | ho
   ·rfl
   ·exact h3 o ho
theorem fill_bag (S : Vt) : ∀ (n : Nat) (G : Gv), ∀ o ∈ (fillG S n G).2, o.b = bagV S o.key ∧ o.key ∈ keysV S G.F.part
 | 0, _ => fun _ h => by cases h
 | n + 1, G => by
  unfold fillG
  obtain ⟨F, o, hn⟩ : ∃ F o, nextF G.F (keysV S G.F.part) = (F, o) := ⟨_, _, rfl⟩
  have hp := next_part G.F (keysV S G.F.part)
  have hm := @next_mem G.F (keysV S G.F.part)
  rw [hn] at hp hm ⊢
  cases o with
  | none => exact fun _ h => by cases h
  | some k =>
   intro o ho
   rcases List.mem_cons.1 ho with rfl | ho
   ·exact ⟨rfl, hm rfl⟩
   ·have h1 := fill_bag S n _ o ho
    exact ⟨h1.1, by rw [← hp]; exact h1.2⟩
theorem fill_told {S : Vt} {P : Int} {ks : List ByteArray} (hk : keysV S P = ks) (hs : ks.Pairwise ltK) : ∀ (n : Nat) (G : Gv) (q : Nat), Told G.F ks q → q ≤ ks.length → G.F.part = P → (fillG S n G).2.length = min n (ks.length - q) ∧ Told (fillG S n G).1.F ks (q + (fillG S n G).2.length)
 | 0, G, q, hT, _, _ => ⟨(Nat.zero_min _).symm, hT⟩
 | n + 1, G, q, hT, hq, hp => by
  unfold fillG
  rw [hp, hk]
  obtain ⟨h1, h2, h3⟩ := hT.next hs
  have hpp := next_part G.F ks
  obtain ⟨F, o, hn⟩ : ∃ F o, nextF G.F ks = (F, o) := ⟨_, _, rfl⟩
  rw [hn] at h1 h2 h3 hpp ⊢
  cases o with
  | none =>
   have hl : ks.length ≤ q := List.getElem?_eq_none_iff.1 h1.symm
   refine ⟨?_, h3 hl⟩
   show 0 = _
   omega
  | some k =>
   have hl : q < ks.length := (List.getElem?_eq_some_iff.1 h1.symm).1
   obtain ⟨h4, h5⟩ := fill_told hk hs n ⟨G.self, G.part, G.epoch, G.dst, F, G.seq + 1, G.ticks, G.ends, G.out ++ [⟨G.seq + 1, k, bagV S k, G.ticks⟩]⟩ (q + 1) (h2 hl) hl (hpp.trans hp)
   refine ⟨?_, ?_⟩
   ·show (_ :: _).length = _
    rw [List.length_cons, h4]
    omega
   ·show Told _ ks (q + (_ :: _).length)
    rw [List.length_cons, show ∀ x, q + (x + 1) = q + 1 + x from fun x => by omega]
    exact h5
structure Ag (ep P : Int) (ks : List ByteArray) (f : List Ms) (n : Nat) (G : Gv) (a : Int) : Prop where
 ok : GvOk G
 nk : n = min 4 ks.length ∧ 1 ≤ n
 told : Told G.F ks n
 len : G.out.length = n
 at_ : ∀ o ∈ G.out, o.at_ = a
 ms : G.out.map (giveM G) = f
 is : G.self = 0 ∧ G.part = P ∧ G.epoch = ep ∧ G.dst = 1
theorem Ag.flen {ep P : Int} {ks : List ByteArray} {f : List Ms} {n : Nat} {G : Gv} {a : Int} (h : Ag ep P ks f n G a) : f.length = n := by
 rw [← h.ms, List.length_map, h.len]
theorem over_out {G : Gv} {S : Vt} (h : 1 ≤ G.out.length) : overG G S = false := by
 unfold overG
 cases ho : G.out with
 | nil => rw [ho] at h; cases h
 | cons x l => rfl
theorem Ag.first {ep P : Int} {ks : List ByteArray} {S : Vt} (he : 1 ≤ ep ∧ ep ≤ 1000000) (hP : 0 ≤ P ∧ P < 16) (hk : keysV S P = ks) (hs : ks.Pairwise ltK) (h0 : 1 ≤ ks.length) : ∃ (G1 : Gv) (f : List Ms), tickG (newG 0 P ep 1) S = (G1, f) ∧ Ag ep P ks f (min 4 ks.length) G1 1 ∧ G1.ticks = 1 := by
 have hN : GvOk (newG 0 P ep 1) := GvOk.new ⟨by decide, by decide, by decide, hP, he⟩
 obtain ⟨h1, h2, h3, h4⟩ := fill_same S 4 (agedG (newG 0 P ep 1))
 obtain ⟨h5, h6⟩ := fill_told hk hs 4 (agedG (newG 0 P ep 1)) 0 (Told.new P ks) (Nat.zero_le _) rfl
 have hout : (fillT (newG 0 P ep 1) S).1.out = (fillT (newG 0 P ep 1) S).2 := h2.trans (List.nil_append _)
 have hlen : (fillT (newG 0 P ep 1) S).1.out.length = min 4 ks.length := by rw [hout]; exact h5
 refine ⟨(fillT (newG 0 P ep 1) S).1, tellL (newG 0 P ep 1) S, tick_go (over_out (by rw [hlen]; omega)), ⟨hN.filled S, ⟨rfl, by omega⟩, ?_, hlen, fun o ho => ?_, ?_, ⟨h1.self, h1.part, h1.epoch, h1.dst⟩⟩, h1.ticks⟩
 ·have : Told (fillT (newG 0 P ep 1) S).1.F ks (0 + (fillT (newG 0 P ep 1) S).2.length) := h6
  rw [show (fillT (newG 0 P ep 1) S).2.length = min 4 ks.length from h5, Nat.zero_add] at this
  exact this
 ·rw [hout] at ho
  exact h3 o ho
 ·rw [hout]
  show _ = [] ++ (fillT (newG 0 P ep 1) S).2.map (giveM (newG 0 P ep 1))
  rw [List.nil_append, show giveM (fillT (newG 0 P ep 1) S).1 = giveM (agedG (newG 0 P ep 1)) from h1.giveF]
  rfl
def ansM (m : Ms) : Ms := ⟨6, 1, 0, m.seq, m.re, m.abt, m.part, m.epoch, m.key, m.b, m.r⟩
theorem isO_self {G : Gv} (o : Ot) : isO (ansM (giveM G o)) o = true := by
 unfold isO
 rw [decide_eq_true (show o.seq = (ansM (giveM G o)).seq from rfl), decide_eq_true (show o.key = (ansM (giveM G o)).key from rfl)]
 exact sameB_self o.b
theorem mine_ans {G : Gv} (h : G.self = 0 ∧ G.dst = 1) (o : Ot) : mineG G 6 (ansM (giveM G o)) = true := decide_eq_true ⟨rfl, h.2.symm, h.1.symm, rfl, rfl⟩
theorem got_ans {G : Gv} (h : G.self = 0 ∧ G.dst = 1) {o : Ot} (ho : o ∈ G.out) : gotB G (ansM (giveM G o)) = true := by
 unfold gotB
 rw [mine_ans h, Bool.true_and]
 exact List.any_eq_true.2 ⟨o, ho, isO_self o⟩
theorem got_no {G : Gv} {m : Ms} (h : gotB G m = false) : gotG G m = G := if_neg (by rw [h]; decide)
theorem Ag.got {ep P : Int} {ks : List ByteArray} {f : List Ms} {n : Nat} {G : Gv} {a : Int} (h : Ag ep P ks f n G a) {m : Ms} (hm : f[0]? = some m) : ∃ G2, gotB G (ansM m) = true ∧ gotG G (ansM m) = G2 ∧ GvOk G2 ∧ gotB G2 (ansM m) = false ∧ gotG G2 (ansM m) = G2 ∧ (seqsG G2).length + 1 = n := by
 rw [← h.ms, List.getElem?_map, Option.map_eq_some_iff] at hm
 obtain ⟨o, ho, rfl⟩ := hm
 have hl := h.len
 have hsrt := h.ok.srt
 have hb := got_ans ⟨h.is.1, h.is.2.2.2⟩ (List.mem_of_getElem? ho)
 obtain ⟨l, hlo⟩ : ∃ l, G.out = o :: l := by
  cases hG : G.out with
  | nil => rw [hG] at ho; cases ho
  | cons x l => rw [hG] at ho; cases ho; exact ⟨l, rfl⟩
 have hf : G.out.filter (fun x => decide (x.seq ≠ (ansM (giveM G o)).seq)) = l := by
  rw [hlo] at hsrt ⊢
  rw [List.filter_cons_of_neg (by rw [decide_eq_false (fun hne => hne rfl)]; decide)]
  refine List.filter_eq_self.2 fun x hx => decide_eq_true ?_
  have := (List.pairwise_cons.1 hsrt).1 x hx
  show x.seq ≠ o.seq
  omega
 have hG2 : gotG G (ansM (giveM G o)) = ⟨G.self, G.part, G.epoch, G.dst, G.F, G.seq, G.ticks, G.ends, l⟩ := by
  unfold gotG
  rw [if_pos hb, hf]
 have hok := h.ok.got (ansM (giveM G o))
 rw [hG2] at hok
 have hno : gotB ⟨G.self, G.part, G.epoch, G.dst, G.F, G.seq, G.ticks, G.ends, l⟩ (ansM (giveM G o)) = false := by
  unfold gotB
  rw [Bool.and_eq_false_iff]
  refine .inr (Bool.eq_false_iff.2 fun ha => ?_)
  obtain ⟨x, hx, hi⟩ := List.any_eq_true.1 ha
  rw [hlo] at hsrt
  have := (List.pairwise_cons.1 hsrt).1 x hx
  unfold isO at hi
  rw [Bool.and_eq_true] at hi
  have h2 : x.seq = o.seq := of_decide_eq_true hi.1
  omega
 refine ⟨_, hb, hG2, hok, hno, got_no hno, ?_⟩
 show (l.map _).length + 1 = n
 rw [List.length_map, ← hl, hlo]
 rfl
theorem first_bags {S : Vt} {ep P : Int} {G : Gv} {f : List Ms} (h : tickG (newG 0 P ep 1) S = (G, f)) : ∀ m ∈ f, m.kind = 5 → m.b = bagV S m.key ∧ m.key ∈ keysV S P := by
 have h1 : ∀ m ∈ tellL (newG 0 P ep 1) S, m.b = bagV S m.key ∧ m.key ∈ keysV S P := fun m hm => by
  rcases List.mem_append.1 hm with hm | hm
  ·cases hm
  ·obtain ⟨o, ho, rfl⟩ := List.mem_map.1 hm
   exact fill_bag S _ _ o ho
 unfold tickG at h
 split at h
 ·cases h
  intro m hm hk
  rcases List.mem_append.1 hm with hm | hm
  ·exact h1 m hm
  ·rw [List.mem_singleton.1 hm] at hk
   cases hk
 ·cases h
  exact fun m hm _ => h1 m hm
theorem Ag.one {ep P : Int} {ks : List ByteArray} {f : List Ms} {G : Gv} {a : Int} (h : Ag ep P ks f 1 G a) : ∃ o, G.out = [o] ∧ f = [giveM G o] := by
 obtain ⟨o, ho⟩ := List.length_eq_one_iff.1 h.len
 exact ⟨o, ho, by rw [← h.ms, ho]; rfl⟩
theorem Ag.wrong {ep P : Int} {ks : List ByteArray} {f : List Ms} {G : Gv} {a : Int} (h : Ag ep P ks f 1 G a) {o : Ot} (ho : G.out = [o]) {m : Ms} (hm : m.frm ≠ 1 ∨ m.part ≠ P ∨ m.epoch ≠ ep ∨ m.seq ≠ o.seq ∨ m.key ≠ o.key ∨ sameB o.b m.b = false) : gotB G m = false := by
 cases hb : gotB G m with
 | false => rfl
 | true =>
  unfold gotB at hb
  rw [Bool.and_eq_true, ho] at hb
  obtain ⟨_, h2, _, h4, h5⟩ : m.kind = 6 ∧ m.frm = G.dst ∧ m.dst = G.self ∧ m.part = G.part ∧ m.epoch = G.epoch := of_decide_eq_true hb.1
  rw [h.is.2.2.2] at h2
  rw [h.is.2.1] at h4
  rw [h.is.2.2.1] at h5
  obtain ⟨x, hx, hi⟩ := List.any_eq_true.1 hb.2
  rw [List.mem_singleton.1 hx] at hi
  unfold isO at hi
  rw [Bool.and_eq_true, Bool.and_eq_true] at hi
  have h6 : o.seq = m.seq := of_decide_eq_true hi.1
  have h7 : o.key = m.key := of_decide_eq_true hi.2.1
  have h8 := hi.2.2
  rcases hm with hm | hm | hm | hm | hm | hm
  ·exact absurd h2 hm
  ·exact absurd h4 hm
  ·exact absurd h5 hm
  ·exact absurd h6.symm hm
  ·exact absurd h7.symm hm
  ·rw [hm] at h8
   cases h8
theorem Ag.not_ended {ep P : Int} {ks : List ByteArray} {f : List Ms} {n : Nat} {G : Gv} {a : Int} (h : Ag ep P ks f n G a) (m : Ms) (S : Vt) : endedG G m S = false := by
 unfold endedG
 rw [over_out (by rw [h.len]; exact h.nk.2), Bool.and_false, Bool.and_false]
end Go.Proofs.YtcchkkdbagpgjaaGreat
