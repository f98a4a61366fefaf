/- Givers: all is told, and got. -/
import Derived.Test.YtcchkkdbagpgjaaGreatGvP
namespace Go.Proofs.YtcchkkdbagpgjaaGreat
open Go
theorem none_rest {F : Fd} {ks : List ByteArray} (h : (nextF F ks).2 = none) : restF (nextF F ks).1 ks = 0 := by
 rcases next_ways F ks with ⟨x, r, _, h2⟩ | ⟨x, _, _, h2⟩ | ⟨_, h3, h2⟩
 ·rw [h2] at h; cases h
 ·rw [h2] at h; cases h
 ·rw [h2]
  show 0 + (ks.filter (newK F)).length = 0
  rw [List.filter_eq_nil_iff.2 fun k hk => List.find?_eq_none.1 h3 k hk]
  rfl
theorem rest_none {F : Fd} {ks : List ByteArray} (h : restF F ks = 0) : (nextF F ks).2 = none := by
 have h1 : F.due = [] := List.length_eq_zero_iff.1 (by unfold restF at h; omega)
 have h2 : ks.filter (newK F) = [] := List.length_eq_zero_iff.1 (by unfold restF at h; omega)
 rcases next_ways F ks with ⟨x, r, h3, _⟩ | ⟨x, _, h3, _⟩ | ⟨_, _, h3⟩
 ·obtain ⟨_, h4, _⟩ := popD_some h3
  rw [h1] at h4
  cases h4
 ·exact absurd (List.mem_filter.2 ⟨List.mem_of_find?_eq_some h3, List.find?_some h3⟩) (by rw [h2]; exact List.not_mem_nil)
 ·rw [h3]
theorem rest_over {F : Fd} {ks : List ByteArray} (h : restF F ks = 0) : overF F ks = true := by
 unfold overF
 rw [rest_none h]
 rfl
theorem next_rest (F : Fd) (ks : List ByteArray) : restF (nextF F ks).1 ks ≤ restF F ks := by
 cases h : (nextF F ks).2 with
 | none => rw [none_rest h]; exact Nat.zero_le _
 | some k => exact Nat.le_of_lt (rest_next h)
theorem fill_rest {S : Vt} {P : Int} {ks : List ByteArray} (hk : keysV S P = ks) : ∀ (n : Nat) (G : Gv), G.F.part = P → restF (fillG S n G).1.F ks ≤ restF G.F ks
 | 0, _, _ => Nat.le_refl _
 | n + 1, G, hp => by
  unfold fillG
  rw [hp, hk]
  have h1 := next_rest G.F ks
  have hpp := next_part G.F ks
  obtain ⟨F, o, hn⟩ : ∃ F o, nextF G.F ks = (F, o) := ⟨_, _, rfl⟩
  rw [hn] at h1 hpp ⊢
  cases o with
  | none => exact h1
  | some k => exact Nat.le_trans (fill_rest hk n ⟨G.self, G.part, G.epoch, G.dst, F, G.seq + 1, G.ticks, G.ends, G.out ++ [⟨G.seq + 1, k, bagV S k, G.ticks⟩]⟩ (hpp.trans hp)) h1
structure Id (P : Int) (G : Gv) : Prop where
 ok : GvOk G
 is : G.self = 0 ∧ G.part = P ∧ G.epoch = 1 ∧ G.dst = 1
theorem Id.new {P : Int} (h : 0 ≤ P ∧ P < 16) : Id P (newG 0 P 1 1) := ⟨GvOk.new ⟨by decide, by decide, by decide, h, by decide⟩, rfl, rfl, rfl, rfl⟩
theorem Id.fpart {P : Int} {G : Gv} (h : Id P G) : G.F.part = P := h.ok.part.trans h.is.2.1
theorem Id.tick {P : Int} {G : Gv} (h : Id P G) (ho : G.out = []) {S : Vt} {ks : List ByteArray} (hk : keysV S P = ks) : (∃ G1, tickG G S = (G1, [endM G1]) ∧ Id P G1 ∧ G1.out = [] ∧ restF G1.F ks = 0 ∧ G1.ends = true) ∨ (∃ G1, tickG G S = (G1, G1.out.map (giveM G1)) ∧ Id P G1 ∧ restF G1.F ks < restF G.F ks ∧ (∀ o ∈ G1.out, ∃ k, o.b = bagV S k)) := by
 obtain ⟨h1, h2, _, h4⟩ := fill_same S 4 (agedG G)
 have hid : ∀ H : Gv, GvOk H → SameG (agedG G) H → Id P H := fun H hH hs => ⟨hH, hs.self.trans h.is.1, hs.part.trans h.is.2.1, hs.epoch.trans h.is.2.2.1, hs.dst.trans h.is.2.2.2⟩
 have hfT : fillT G S = fillG S 4 (agedG G) := by
  unfold fillT
  rw [ho]
  rfl
 have hok := h.ok.filled S
 rw [hfT] at hok
 have hout : (fillG S 4 (agedG G)).1.out = (fillG S 4 (agedG G)).2 := h2.trans (by rw [show (agedG G).out = [] from by show G.out.map _ = []; rw [ho]; rfl]; rfl)
 have htl : tellL G S = (fillG S 4 (agedG G)).2.map (giveM G) := by
  unfold tellL
  rw [ho, hfT]
  rfl
 have hgm : giveM (fillG S 4 (agedG G)).1 = giveM G := (h1.giveF : _ = giveM (agedG G))
 have hF : fillG S 4 (agedG G) = (match nextF G.F ks with
  | (F, some k) => ((fillG S 3 ⟨G.self, G.part, G.epoch, G.dst, F, G.seq + 1, G.ticks + 1, G.ends, (agedG G).out ++ [⟨G.seq + 1, k, bagV S k, G.ticks + 1⟩]⟩).1, (⟨G.seq + 1, k, bagV S k, G.ticks + 1⟩ : Ot) :: (fillG S 3 ⟨G.self, G.part, G.epoch, G.dst, F, G.seq + 1, G.ticks + 1, G.ends, (agedG G).out ++ [⟨G.seq + 1, k, bagV S k, G.ticks + 1⟩]⟩).2)
  | (F, none) => (⟨G.self, G.part, G.epoch, G.dst, F, G.seq, G.ticks + 1, G.ends, (agedG G).out⟩, [])) := by
  rw [← hk, ← h.fpart]
  rfl
 have hnr := next_rest G.F ks
 have hnp := next_part G.F ks
 cases hn : (nextF G.F ks).2 with
 | none =>
  have hr0 := none_rest hn
  obtain ⟨F, o, hn2⟩ : ∃ F o, nextF G.F ks = (F, o) := ⟨_, _, rfl⟩
  rw [hn2] at hn hr0 hF hnp
  obtain rfl : o = none := hn
  have hF2 : fillG S 4 (agedG G) = (⟨G.self, G.part, G.epoch, G.dst, F, G.seq, G.ticks + 1, G.ends, (agedG G).out⟩, []) := hF
  have hov : overG (fillT G S).1 S = true := by
   rw [hfT]
   unfold overG
   rw [hout, hF2]
   show (true && overF F (keysV S F.part)) = true
   rw [hnp, h.fpart, hk, rest_over hr0]
   rfl
  refine .inl ⟨endsG (fillT G S).1, ?_, ?_, ?_, ?_, rfl⟩
  ·rw [tick_end hov, htl, hF2]
   show (_, [endM G]) = _
   rw [show endM (endsG (fillT G S).1) = endM G from by rw [hfT, hF2]; rfl]
  ·rw [hfT]
   exact ⟨⟨hok.fd, hok.part, hok.may, hok.srt, hok.seq, hok.key, hok.len, hok.nn, hok.few, hok.at_⟩, h1.self.trans h.is.1, h1.part.trans h.is.2.1, h1.epoch.trans h.is.2.2.1, h1.dst.trans h.is.2.2.2⟩
  ·show (fillT G S).1.out = []
   rw [hfT, hout, hF2]
  ·show restF (fillT G S).1.F ks = 0
   rw [hfT, hF2]
   exact hr0
 | some k =>
  have hrl := rest_next hn
  obtain ⟨F, o, hn2⟩ : ∃ F o, nextF G.F ks = (F, o) := ⟨_, _, rfl⟩
  rw [hn2] at hn hrl hF hnp
  obtain rfl : o = some k := hn
  have hne : (fillG S 4 (agedG G)).2 ≠ [] := by
   rw [hF]
   exact List.cons_ne_nil _ _
  have hov : overG (fillT G S).1 S = false := over_out (by rw [hfT, hout]; exact List.length_pos_iff.2 hne)
  refine .inr ⟨(fillT G S).1, ?_, ?_, ?_, ?_⟩
  ·rw [tick_go hov, htl, hfT, hout, hgm]
  ·rw [hfT]
   exact hid _ hok h1
  ·rw [hfT, hF]
   exact Nat.lt_of_le_of_lt (fill_rest hk 3 _ (hnp.trans h.fpart)) hrl
  ·rw [hfT, hout]
   intro o ho
   exact ⟨o.key, (fill_bag S 4 _ o ho).1⟩
def outG (G : Gv) (os : List Ot) : Gv := ⟨G.self, G.part, G.epoch, G.dst, G.F, G.seq, G.ticks, G.ends, os⟩
theorem outG_self (G : Gv) : outG G G.out = G := rfl
theorem Id.got {P : Int} {G : Gv} {o : Ot} {os : List Ot} (h : Id P (outG G (o :: os))) : gotG (outG G (o :: os)) (ansM (giveM G o)) = outG G os ∧ Id P (outG G os) := by
 have hb : gotB (outG G (o :: os)) (ansM (giveM G o)) = true := got_ans (G := outG G (o :: os)) ⟨h.is.1, h.is.2.2.2⟩ List.mem_cons_self
 have hsrt : (o :: os).Pairwise fun a b => a.seq < b.seq := h.ok.srt
 have hf : (o :: os).filter (fun x => decide (x.seq ≠ (ansM (giveM G o)).seq)) = os := by
  rw [List.filter_cons_of_neg (by rw [decide_eq_false (fun hne => hne rfl)]; decide)]
  refine List.filter_eq_self.2 fun x hx => decide_eq_true ?_
  have := (List.pairwise_cons.1 hsrt).1 x hx
  show x.seq ≠ o.seq
  omega
 have he : gotG (outG G (o :: os)) (ansM (giveM G o)) = outG G os := by
  unfold gotG
  rw [if_pos hb]
  show outG G ((o :: os).filter _) = _
  rw [hf]
 have hok := h.ok.got (ansM (giveM G o))
 rw [he] at hok
 exact ⟨he, hok, h.is⟩
structure InT (P : Int) (w : Bool) (ms : List Ms) (G1 : Gv) (i : Nat) (G : Gv) (e : Bool) : Prop where
 id : Id P G
 ways : (w = true ∧ ms = [endM G1] ∧ G = G1 ∧ G1.out = [] ∧ (1 ≤ i → e = true)) ∨ (w = false ∧ e = false ∧ ∃ os, G = outG G1 os ∧ os.map (giveM G1) = ms.drop i)
theorem InT.at {P : Int} {w : Bool} {ms : List Ms} {G1 : Gv} {i : Nat} {G : Gv} {e : Bool} (h : InT P w ms G1 i G e) {m : Ms} (hm : ms[i]? = some m) : (w = true ∧ m.kind = 7 ∧ InT P w ms G1 (i + 1) G true) ∨ (w = false ∧ m.kind = 5 ∧ e = false ∧ ∃ G2, gotG G (ansM m) = G2 ∧ InT P w ms G1 (i + 1) G2 false) := by
 rcases h.ways with ⟨h1, h2, h3, h4, h5⟩ | ⟨h1, h2, os, h3, h4⟩
 ·refine .inl ⟨h1, ?_, h.id, .inl ⟨h1, h2, h3, h4, fun _ => rfl⟩⟩
  rw [h2] at hm
  have := List.mem_of_getElem? hm
  rw [List.mem_singleton.1 this]
  rfl
 ·have hd : ms.drop i = m :: ms.drop (i + 1) := by
   obtain ⟨hi, he⟩ := List.getElem?_eq_some_iff.1 hm
   rw [List.drop_eq_getElem_cons hi, he]
  rw [hd] at h4
  cases os with
  | nil => cases h4
  | cons o os =>
   obtain ⟨ha, hb⟩ := List.cons.inj h4
   subst h3
   obtain ⟨h6, h7⟩ := h.id.got
   refine .inr ⟨h1, by rw [← ha]; rfl, h2, outG G1 os, by rw [← ha]; exact h6, h7, .inr ⟨h1, rfl, os, rfl, hb⟩⟩
theorem InT.out {P : Int} {w : Bool} {ms : List Ms} {G1 : Gv} {i : Nat} {G : Gv} {e : Bool} (h : InT P w ms G1 i G e) (hi : ms.length ≤ i) : G.out = [] ∧ G.F = G1.F ∧ G.ends = G1.ends ∧ e = w ∧ G.ticks = G1.ticks := by
 rcases h.ways with ⟨h1, h2, h3, h4, h5⟩ | ⟨h1, h2, os, h3, h4⟩
 ·rw [h3]
  refine ⟨h4, rfl, rfl, ?_, rfl⟩
  rw [h1]
  exact h5 (by rw [h2] at hi; exact hi)
 ·rw [List.drop_eq_nil_iff.2 hi] at h4
  rw [h3, List.map_eq_nil_iff.1 h4]
  exact ⟨rfl, rfl, rfl, h2.trans h1.symm, rfl⟩
structure Tk (P : Int) (ks : List ByteArray) (b t : Nat) (G : Gv) (e : Bool) : Prop where
 id : Id P G
 tk : G.ticks ≤ (b : Int) + t
 out : G.out = []
 rest : (e = false ∧ restF G.F ks + t ≤ 20) ∨ (e = true ∧ restF G.F ks = 0 ∧ G.ends = true)
theorem Tk.tick {P : Int} {ks : List ByteArray} {b t : Nat} {G : Gv} {e : Bool} (h : Tk P ks b t G e) {S : Vt} (hS : VtOk S) (hk : keysV S P = ks) : ∃ (w : Bool) (G1 : Gv) (ms : List Ms), tickG G S = (G1, ms) ∧ InT P w ms G1 0 G1 e ∧ GvOk G1 ∧ (∀ m ∈ ms, m.b.v.length ≤ 32) ∧ ms.length ≤ 4 ∧ ∀ i G2 e2, ms.length ≤ i → InT P w ms G1 i G2 e2 → Tk P ks b (t + 1) G2 e2 := by
 have htk := h.tk
 rcases h.id.tick h.out hk with ⟨G1, h1, h2, h3, h4, h5⟩ | ⟨G1, h1, h2, h3, h4⟩
 ·have ht1 := tick_ticks G S
  rw [h1] at ht1
  dsimp only at ht1
  refine ⟨true, G1, _, h1, ⟨h2, .inl ⟨rfl, rfl, rfl, h3, fun h => by omega⟩⟩, h2.ok, fun m hm => ?_, (show 1 ≤ 4 by decide), fun i G2 e2 hi hI => ?_⟩
  ·rw [List.mem_singleton.1 hm]
   exact Nat.zero_le _
  ·obtain ⟨k1, k2, k3, k4, k5⟩ := hI.out hi
   exact ⟨hI.id, by rw [k5, ht1]; omega, k1, .inr ⟨k4, by rw [k2]; exact h4, k3.trans h5⟩⟩
 ·have ht1 := tick_ticks G S
  rw [h1] at ht1
  dsimp only at ht1
  have he : e = false := by
   rcases h.rest with ⟨h6, _⟩ | ⟨_, h6, _⟩
   ·exact h6
   ·omega
  have hr : restF G.F ks + t ≤ 20 := by
   rcases h.rest with ⟨_, h6⟩ | ⟨h6, _, _⟩
   ·exact h6
   ·rw [he] at h6; cases h6
  refine ⟨false, G1, _, h1, ⟨h2, .inr ⟨rfl, he, G1.out, (outG_self G1).symm, rfl⟩⟩, h2.ok, fun m hm => ?_, by rw [List.length_map]; exact h2.ok.len, fun i G2 e2 hi hI => ?_⟩
  ·obtain ⟨o, ho, rfl⟩ := List.mem_map.1 hm
   obtain ⟨k, hk⟩ := h4 o ho
   show o.b.v.length ≤ 32
   rw [hk]
   exact bagV_len hS k
  ·obtain ⟨k1, k2, k3, k4, k5⟩ := hI.out hi
   exact ⟨hI.id, by rw [k5, ht1]; omega, k1, .inl ⟨k4, by rw [k2]; omega⟩⟩
theorem Tk.done {P : Int} {ks : List ByteArray} {b t : Nat} {G : Gv} {e : Bool} (h : Tk P ks b t G e) (ht : 21 ≤ t) : e = true ∧ restF G.F ks = 0 ∧ G.ends = true := by
 rcases h.rest with ⟨_, h1⟩ | h1
 ·omega
 ·exact h1
def endedM (P : Int) : Ms := ⟨8, 1, 0, 0, 0, 0, P, 1, ⟨#[]⟩, noB, noR⟩
theorem Id.mine {P : Int} {G : Gv} (h : Id P G) : mineG G 8 (endedM P) = true := decide_eq_true ⟨rfl, h.is.2.2.2.symm, h.is.1.symm, h.is.2.1.symm, h.is.2.2.1.symm⟩
theorem Id.ended {P : Int} {G : Gv} (h : Id P G) (ho : G.out = []) {S : Vt} {ks : List ByteArray} (hk : keysV S P = ks) (hr : restF G.F ks = 0) : endedG G (endedM P) S = G.ends := by
 unfold endedG overG
 rw [h.mine, ho, h.fpart, hk, rest_over hr]
 show (true && (G.ends && true)) = G.ends
 rw [Bool.and_true, Bool.true_and]
theorem back_told {F : Fd} {ks : List ByteArray} (hr : restF F ks = 0) {k : ByteArray} (hk : k ∈ ks) : backB F k = decide (ofK k = F.part) ∧ (ofK k = F.part → (backF F k).due = [k] ∧ restF (backF F k) ks = 1) := by
 have h1 : F.due = [] := List.length_eq_zero_iff.1 (by unfold restF at hr; omega)
 have h2 : ks.filter (newK F) = [] := List.length_eq_zero_iff.1 (by unfold restF at hr; omega)
 have h3 : newK F k = false := Bool.eq_false_iff.2 (List.filter_eq_nil_iff.1 h2 k hk)
 have h4 : (F.any && !decide (ltK F.last k)) = true := by
  have h5 : (!F.any || decide (ltK F.last k)) = false := h3
  rw [Bool.or_eq_false_iff] at h5
  rw [h5.2, Bool.and_eq_true]
  exact ⟨by simpa using h5.1, rfl⟩
 have h5 : backB F k = decide (ofK k = F.part) := by
  unfold backB
  rw [h4, Bool.and_true]
 refine ⟨h5, fun hp => ?_⟩
 have h6 : backF F k = ⟨F.part, F.any, F.last, [k]⟩ := by
  unfold backF
  rw [if_pos (by rw [h5]; exact decide_eq_true hp), h1]
  rfl
 rw [h6]
 refine ⟨rfl, ?_⟩
 show 1 + (ks.filter (newK F)).length = 1
 rw [h2]
 rfl
theorem keys_ext {l m : List ByteArray} (hl : l.Pairwise ltK) (hm : m.Pairwise ltK) (h : ∀ k, k ∈ l ↔ k ∈ m) : l = m :=
 ((List.perm_ext_iff_of_nodup (hl.imp fun h => ltK_ne h) (hm.imp fun h => ltK_ne h)).2 h).eq_of_pairwise (fun _ _ _ _ h1 h2 => absurd (ltK_trans h1 h2) (ltK_irrefl _)) hl hm
theorem keys_again {X Y : Vl2} (hX : Kept X) (hY : Kept Y) {k : ByteArray} (h : ∀ q, hasK Y.1 q = (hasK X.1 q || decide (q = k))) (hk : hasK X.1 k = true) (n : Int) : keysV Y.1 n = keysV X.1 n := by
 refine keys_ext (keysV_srt hY.ok.srt n) (keysV_srt hX.ok.srt n) fun q => ?_
 rw [mem_keysV, mem_keysV, ← hasK_iff hY.ok.srt, ← hasK_iff hX.ok.srt, h q, Bool.or_eq_true, decide_eq_true_eq]
 constructor
 ·rintro ⟨h1 | rfl, h2⟩
  ·exact ⟨h1, h2⟩
  ·exact ⟨hk, h2⟩
 ·rintro ⟨h1, h2⟩
  exact ⟨.inl h1, h2⟩
structure Rd (kn : Int → ByteArray) (l : List Int) (X : Vl2) (m : Nat) : Prop where
 few : Few X m
 has : ∀ y ∈ l, hasK X.1 (kn y) = true
theorem Rd.late {kn : Int → ByteArray} (hkn : ∀ y, keyB (kn y) = true) {l : List Int} {X : Vl2} {m : Nat} (h : Rd kn l X m) (hm : m < 32) {P : Int} {G : Gv} (hG : Id P G) (ho : G.out = []) (hr : restF G.F (keysV X.1 P) = 0) (he : G.ends = true) {y : Int} (hy : y ∈ l) {t : ByteArray} (ht : t.size ≤ 64) : ∃ (Y : Vl2) (G2 : Gv), putV X 0 (kn y) (fun _ => 0) t = (Y, (0, (m : Int) + 1), 0) ∧ Rd kn l Y (m + 1) ∧ backB G.F (kn y) = decide (ofK (kn y) = P) ∧ wroteG G (kn y) = G2 ∧ Id P G2 ∧ G2.out = [] ∧ endedG G2 (endedM P) Y.1 = !decide (ofK (kn y) = P) ∧ restF G2.F (keysV Y.1 P) ≤ 20 ∧ G2.ticks = G.ticks := by
 obtain ⟨Y, h1, h2, h3, _⟩ := h.few.put hm (hkn y) ht
 have hk := h.has y hy
 have hks := keys_again h.few.kept h2.kept h3 hk P
 have hW : Id P (wroteG G (kn y)) := ⟨hG.ok.wrote _, hG.is⟩
 have hb : ofK (kn y) = P → kn y ∈ keysV X.1 P := fun hp => mem_keysV.2 ⟨(hasK_iff h.few.kept.ok.srt).1 hk, hp⟩
 refine ⟨Y, _, h1, ⟨h2, fun z hz => by rw [h3, h.has z hz]; rfl⟩, ?_, rfl, hW, ho, ?_, ?_⟩
 ·by_cases hp : ofK (kn y) = P
  ·rw [(back_told hr (hb hp)).1, hG.fpart]
  ·unfold backB
   rw [hG.fpart, decide_eq_false hp]
   rfl
 ·by_cases hp : ofK (kn y) = P
  ·rw [decide_eq_true hp]
   unfold endedG
   rw [show (wroteG G (kn y)).ends = false from if_pos (hp.trans hG.is.2.1.symm), Bool.false_and, Bool.and_false]
   rfl
  ·rw [decide_eq_false hp]
   have hF : (wroteG G (kn y)).F = G.F := by
    show backF G.F (kn y) = G.F
    unfold backF backB
    rw [hG.fpart, decide_eq_false hp]
    rfl
   rw [hW.ended ho (ks := keysV X.1 P) hks (by rw [hF]; exact hr)]
   exact (if_neg fun e => hp (e.trans hG.is.2.1)).trans he
 ·refine ⟨?_, rfl⟩
  rw [hks]
  show restF (backF G.F (kn y)) (keysV X.1 P) ≤ 20
  by_cases hp : ofK (kn y) = P
  ·rw [((back_told hr (hb hp)).2 (hp.trans hG.fpart.symm)).2]
   decide
  ·have hF : backF G.F (kn y) = G.F := by
    unfold backF backB
    rw [hG.fpart, decide_eq_false hp]
    rfl
   rw [hF, hr]
   exact Nat.zero_le _
theorem Rd.ks {kn : Int → ByteArray} {l : List Int} {X : Vl2} {m : Nat} (h : Rd kn l X m) (hm : m ≤ 20) (P : Int) : restF (newG 0 P 1 1).F (keysV X.1 P) ≤ 20 := by
 have h1 : ((keysV X.1 P).filter (newK (newF P))).length ≤ (keysV X.1 P).length := List.length_filter_le _ _
 have h2 : (keysV X.1 P).length ≤ X.1.b.length := by rw [keysV_len]; exact List.countP_le_length
 have h3 := h.few.bl
 show 0 + _ ≤ 20
 show 0 + ((keysV X.1 P).filter (newK (newF P))).length ≤ 20
 omega
end Go.Proofs.YtcchkkdbagpgjaaGreat
