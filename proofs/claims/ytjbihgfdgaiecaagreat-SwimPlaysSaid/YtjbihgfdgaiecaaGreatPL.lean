/- The reference's detector: a message that comes in; what Handle owes; whom it doesn't concern. -/
import Derived.Test.YtjbihgfdgaiecaaGreatPF
import Derived.Test.YtjbihgfdgaiecaaGreatPA
import Derived.LoopTactic
namespace Go.Proofs.YtjbihgfdgaiecaaGreat
open Go Go.RowKit Go.BigFrame
structure InM where
 kind : Int
 frm : Int
 dst : Int
 seq : Int
 for' : Int
 about : Int
 mid : List Value
 p : Option Addr
 n : Nat
 cap : Nat
def InM.enc (m : InM) : List Value := [.int .i64 m.kind, .int .i64 m.frm, .int .i64 m.dst, .int .i64 m.seq, .int .i64 m.for', .int .i64 m.about] ++ m.mid ++ [.slice m.p m.n m.cap]
def InM.mm (m : InM) (l : List Cl) : MM := ⟨m.kind, m.frm, m.dst, m.seq, m.for', m.about, l⟩
abbrev inO (m : InM) : Obj := .cells m.enc.toArray 46 (0, 0)
structure InAt (W : World) (q : Nat) (m : InM) : Prop where
 lt : q < W.heap.size
 c0 : W.cell? ⟨q, 0, none⟩ = some (.int .i64 m.kind)
 c1 : W.cell? ⟨q, 1, none⟩ = some (.int .i64 m.frm)
 c2 : W.cell? ⟨q, 2, none⟩ = some (.int .i64 m.dst)
 c3 : W.cell? ⟨q, 3, none⟩ = some (.int .i64 m.seq)
 c4 : W.cell? ⟨q, 4, none⟩ = some (.int .i64 m.for')
 c5 : W.cell? ⟨q, 5, none⟩ = some (.int .i64 m.about)
 c61 : W.cell? ⟨q, 61, none⟩ = some (.slice m.p m.n m.cap)
 f : ∀ j, W.frozen? ⟨q, j, none⟩ = false
theorem inAt {W : World} {q : Nat} {m : InM} (hm : m.mid.length = 55) (h : W.heap[q]? = some (inO m)) : InAt W q m := by
 have hc : ∀ j, W.cell? ⟨q, j, none⟩ = m.enc[j]? := fun j => by simp [World.cell?, h]
 have h61 : m.enc[61]? = some (.slice m.p m.n m.cap) := by
  unfold InM.enc
  rw [List.getElem?_append_right (by simp [hm])]
  simp [hm]
 exact ⟨(Array.getElem?_eq_some_iff.1 h).1, hc 0, hc 1, hc 2, hc 3, hc 4, hc 5, (hc 61).trans h61, fun j => by simp [World.frozen?, h]⟩
def ClsA : List RawM → List MM → Asn → Asn
 | [], [], P => P
 | r :: rs, m :: ms, P => pureA (r.kind = m.kind ∧ r.frm = m.frm ∧ r.dst = m.dst ∧ r.seq = m.seq ∧ r.for' = m.for' ∧ r.about = m.about) (star (RowO elemCl (.slice r.p r.n r.cap) m.claims) (ClsA rs ms P))
 | _, _, _ => fun _ _ => False
def MsgsA (u : Value) (ms : List MM) (P : Asn) : Asn := fun W H => ∃ raws, star (RowO elemM u raws) (ClsA raws ms P) W H
theorem clsA_owns {P : Asn} (hP : Owns P) : ∀ (rs : List RawM) (ms : List MM), Owns (ClsA rs ms P)
 | [], [] => hP
 | _ :: rs, _ :: ms => pureA_owns (star_owns (rowO_owns _ _ _) (clsA_owns hP rs ms))
 | [], _ :: _ => ⟨fun _ _ h => h.elim, fun _ _ _ h => h.elim⟩
 | _ :: _, [] => ⟨fun _ _ h => h.elim, fun _ _ _ h => h.elim⟩
theorem msgsA_owns {u : Value} {ms : List MM} {P : Asn} (hP : Owns P) : Owns (MsgsA u ms P) := exA_owns (P := fun raws => star (RowO elemM u raws) (ClsA raws ms P)) fun raws => star_owns (rowO_owns _ _ _) (clsA_owns hP raws ms)
theorem star_false {P : Asn} {H : Nat → Prop} {W : World} (h : P W H) (hn : RowO elemM (.slice none 0 0) [] W fun _ => False) : star (RowO elemM (.slice none 0 0) []) P W H := ⟨_, H, hn, h, fun _ h => h.elim, fun k => ⟨.inr, fun h => h.elim (fun h => h.elim) fun h => h⟩⟩
theorem msgs_none {P : Asn} {H : Nat → Prop} {W : World} (h : P W H) : MsgsA (.slice none 0 0) [] P W H := ⟨[], star_false h rowO_nil⟩
theorem msgs_sent {d : Nat} {s : DS} {kind dst seq for' about : Int} {u : Value} {W : World} {H : Nat → Prop} (h : SentA d s [] kind dst seq for' about u W H) : MsgsA u [⟨kind, s.self, dst, seq, for', about, claimsTo s dst⟩] (RDet d (sentD s)) W H := by
 obtain ⟨p, n, cap, h⟩ := h
 exact ⟨[⟨kind, s.self, dst, seq, for', about, p, n, cap⟩], star_mono (fun _ h => h) (fun _ h => (⟨⟨rfl, rfl, rfl, rfl, rfl, rfl⟩, h⟩ : pureA _ _ _ _)) h⟩
def HandEnd (d : Nat) (s : DS) (m : InM) (l : List Cl) (R : Asn) (H : Nat → Prop) (w : World) (e : Ending) (w' : World) : Prop := ∃ u, e = .returned u ∧ SEnd (star R (MsgsA u (handleD s (m.mm l)).2 (RDet d (handleD s (m.mm l)).1))) H w w'
set_option maxHeartbeats 4000000 in
set_option maxRecDepth 100000 in
theorem handleRD_not (d : Nat) (s : DS) (m : InM) (l : List Cl) (R : Asn) (hR : Owns R) (w : World) (H : Nat → Prop) (hp0 : star R (RDet d s) w H) (hm : m.mid.length = 55) (hbad : m.dst ≠ s.self ∨ nodeB m.frm = false ∨ m.frm = s.self) : Calls Tryz.prog 14 #[bptr d, .agg m.enc.toArray] w (HandEnd d s m l R H w) := by
 obtain ⟨hok, pv, pq, po, pc, hp⟩ := open_det hp0
 have HD : Hid (handleD s (m.mm l) = (s, [])) := Lib.hid (by unfold handleD InM.mm; dsimp only; rw [if_pos hbad])
 have HFin : Hid (∀ W', SEnd (star (BoxA w.heap.size (inO m)) (star R (RP d s pv pq po pc))) H w W' → HandEnd d s m l R H w (.returned (.slice none 0 0)) W') := Lib.hid fun W' hs => ⟨_, rfl, by rw [HD.out]; exact hs.drop.mono fun _ h => star_mono (fun _ h => h) (fun _ h => msgs_none ⟨hok, pv, pq, po, pc, h⟩) h⟩
 have hs1 := SEnd.box (star_owns hR (rp_owns d s pv pq po pc)) (sEnd_refl hp) (.cells m.enc.toArray 46)
 have HN : Hid (∀ W, Gives Tryz.prog 32 #[.int .i64 m.frm] W (.bool (nodeB m.frm))) := Lib.hid fun W => refNode_any m.frm W
 clear hp hp0 hok HD
 unfold bptr
 go_enter Tryz.func14, Tryz.ntmps14
 go_upto_region 1 with fail
 obtain ⟨q, hq⟩ : ∃ q, w.heap.size = q := ⟨_, rfl⟩
 obtain ⟨W1, hW1⟩ : ∃ W, w.alloc (.cells m.enc.toArray 46) = W := ⟨_, rfl⟩
 rw [hq] at HFin
 rw [hq, hW1] at hs1
 rw [hq, hW1]
 have HS1 := Lib.hid hs1
 have hd := rp_at hs1.assoc'
 have hi := inAt hm (SEnd.at hs1)
 have hlt := hd.lt
 have hql := hi.lt
 have d0 := hd.c0
 have m1 := hi.c1
 have m2 := hi.c2
 clear hs1 hq hW1 hd hi
 by_cases b0 : m.dst = s.self
 ·have g0 : (m.dst != s.self) = false := by rw [bne_eq_false_iff_eq]; exact b0
  by_cases b1 : nodeB m.frm = false
  ·rw [b1] at HN
   clear b0 b1 hbad
   refine wp_region_later (by kernel_rfl) (by kernel_rfl) ?_
   repeat (go_big_quiet_step (first | (go_at_call 32; with_reducible exact later_of (HN.out _))))
   refine wpQuiet_nil ?_
   rintro _ ⟨x2, rfl⟩
   have HS2 := Lib.hid (SEnd.later (star_owns (box_owns _ _) (star_owns hR (rp_owns d s pv pq po pc))) HS1.out x2)
   go_wp2_with fail
   go_ret
   exact HFin.out _ HS2.out
  ·have b1' : nodeB m.frm = true := by simpa using b1
   have b2 : m.frm = s.self := by rcases hbad with h | h | h; exact absurd b0 h; exact absurd h b1; exact h
   have g2 : (m.frm == s.self) = true := by rw [beq_iff_eq]; exact b2
   rw [b1'] at HN
   clear b0 b1 b1' b2 hbad
   refine wp_region_later (by kernel_rfl) (by kernel_rfl) ?_
   repeat (go_big_quiet_step (first | (go_at_call 32; with_reducible exact later_of (HN.out _))))
   refine wpQuiet_nil ?_
   rintro _ ⟨x2, rfl⟩
   have HS2 := Lib.hid (SEnd.later (star_owns (box_owns _ _) (star_owns hR (rp_owns d s pv pq po pc))) HS1.out x2)
   go_wp2_with fail
   go_ret
   exact HFin.out _ HS2.out
 ·have g0 : (m.dst != s.self) = true := by rw [bne_iff_ne]; exact b0
  clear b0 hbad
  refine wp_region_later (by kernel_rfl) (by kernel_rfl) ?_
  repeat (go_big_quiet_step (first | (go_at_call 32; with_reducible exact later_of (HN.out _))))
  refine wpQuiet_nil ?_
  rintro _ ⟨x2, rfl⟩
  have HS2 := Lib.hid (SEnd.later (star_owns (box_owns _ _) (star_owns hR (rp_owns d s pv pq po pc))) HS1.out x2)
  go_wp2_with fail
  go_ret
  exact HFin.out _ HS2.out
end Go.Proofs.YtjbihgfdgaiecaaGreat

/- The reference's detector: Handle, a message that concerns it. -/
namespace Go.Proofs.YtjbihgfdgaiecaaGreat
open Go Go.RowKit Go.BigFrame
theorem cellCl {W : World} {p : Option Addr} {n cap : Nat} {l : List Cl} (h : RowAt elemCl W (.slice p n cap) l) {k : Nat} {x : Cl} (hk : l[k]? = some x) : ∃ b o, p = some ⟨b, o, none⟩ ∧ W.cell? ⟨b, o + k * 3, none⟩ = some (.int .i64 x.n) ∧ W.cell? ⟨b, o + k * 3 + 1, none⟩ = some (.int .i64 x.i) ∧ W.cell? ⟨b, o + k * 3 + 2, none⟩ = some (.int .i64 x.h) := by
 obtain ⟨p', cap', he, hr⟩ := h.form
 obtain ⟨rfl, -, -⟩ := Value.slice.inj he
 rcases hr with h0 | ⟨b, o, rfl, _, hc⟩
 ·rw [h0] at hk; simp at hk
 ·exact ⟨b, o, rfl, hc k x hk 0 _ rfl, hc k x hk 1 _ rfl, hc k x hk 2 _ rfl⟩
theorem star_last4 {A B C D : Asn} {W : World} {H : Nat → Prop} (h : star A (star B (star C D)) W H) : star D (star A (star B C)) W H := star_in3 (star_mono (fun _ h => h) (fun _ h => star_mono (fun _ h => h) (fun _ h => star_comm h) h) h)
theorem star_unlast4 {A B C D : Asn} {W : World} {H : Nat → Prop} (h : star D (star A (star B C)) W H) : star A (star B (star C D)) W H := star_mono (fun _ h => h) (fun _ h => star_mono (fun _ h => h) (fun _ h => star_comm h) h) (star_out3 h)
def heardUp (s : DS) (l : List Cl) (k : Nat) : DS × Nat := (l.take k).foldl heardStep (s, 0)
theorem heardUp_succ {s : DS} {l : List Cl} {k : Nat} {c : Cl} (h : l[k]? = some c) : heardUp s l (k + 1) = heardStep (heardUp s l k) c := by
 unfold heardUp
 rw [List.take_add_one, h, Option.toList_some, List.foldl_append]
 rfl
theorem heardUp_all (s : DS) (l : List Cl) : (heardUp s l l.length).1 = heardM s l := by unfold heardUp; rw [List.take_length]; exact heardM_steps s l
def tailD (t : DS) (m : InM) : DS × List MM :=
 if m.kind = 2 ∧ m.for' = t.self then (if m.seq = t.seq ∧ 0 ≤ t.asked then { t with C := cutM (cutM t.C 1) 2, asked := -1 } else t, [])
 else if t.left then (t, [])
 else if m.kind = 1 then ((sendD t 2 m.frm m.seq m.for' 0).1, [(sendD t 2 m.frm m.seq m.for' 0).2])
 else if m.kind = 2 ∧ nodeB m.for' = true then ((sendD t 2 m.for' m.seq m.for' 0).1, [(sendD t 2 m.for' m.seq m.for' 0).2])
 else if m.kind = 3 ∧ nodeB m.about = true ∧ m.about ≠ t.self then ((sendD t 1 m.about m.seq m.frm 0).1, [(sendD t 1 m.about m.seq m.frm 0).2])
 else (t, [])
theorem handleD_tail {s : DS} {m : InM} {l : List Cl} (h : m.dst = s.self ∧ nodeB m.frm = true ∧ m.frm ≠ s.self) : handleD s (m.mm l) = tailD (fromD (heardM s l) m.frm) m := by
 unfold handleD InM.mm
 dsimp only
 rw [if_neg (by rintro (h1 | h1 | h1); exact h1 h.1; rw [h.2.1] at h1; cases h1; exact h.2.2 h1)]
 rfl
theorem to_send {A R D : Asn} {W : World} {H : Nat → Prop} (h : star A (star R D) W H) : star (star (RowO elemM (.slice none 0 0) []) D) (star A R) W H := star_mono (fun _ h => star_false h rowO_nil) (fun _ h => h) (star_comm (star_assoc' h))
theorem of_send {A R : Asn} {d : Nat} {s : DS} {kind dst seq for' about : Int} {u : Value} {W : World} {H : Nat → Prop} (h : star (SentA d s [] kind dst seq for' about u) (star A R) W H) : star A (star R (MsgsA u [(sendD s kind dst seq for' about).2] (RDet d (sendD s kind dst seq for' about).1))) W H := star_assoc (star_mono (fun _ h => h) (fun _ h => msgs_sent h) (star_comm h))
def LoopS (d : Nat) (s : DS) (m : InM) (l : List Cl) (R : Asn) (q : Nat) (H : Nat → Prop) (w : World) (k cnt : Nat) (W : World) : Prop :=
 ∃ s', heardUp s l k = (s', cnt) ∧ SEnd (star (BoxA q (inO m)) (star R (RDet d s'))) H w W
theorem open_det2 {A R : Asn} {d : Nat} {s : DS} {W w : World} {H0 : Nat → Prop} (_ : Owns R) (h : SEnd (star A (star R (RDet d s))) H0 w W) : DsOk s ∧ ∃ pv pq po pc, SEnd (star A (star R (RP d s pv pq po pc))) H0 w W := by
 obtain ⟨H, hs, hf, hn⟩ := h
 obtain ⟨H1, H2, ha, hb, hap, he⟩ := hs
 obtain ⟨hok, pv, pq, po, pc, hb⟩ := open_det hb
 exact ⟨hok, pv, pq, po, pc, H, ⟨H1, H2, ha, hb, hap, he⟩, hf, hn⟩
set_option maxHeartbeats 4000000 in
set_option maxRecDepth 100000 in
theorem handleRD_yes (d : Nat) (s : DS) (m : InM) (l : List Cl) (R : Asn) (hR : Owns R) (hread : ∀ W H, R W H → RowAt elemCl W (.slice m.p m.n m.cap) l) (w : World) (H : Nat → Prop) (hp0 : star R (RDet d s) w H) (hm : m.mid.length = 55) (hlen : l.length ≤ 1000000000) (hgood : m.dst = s.self ∧ nodeB m.frm = true ∧ m.frm ≠ s.self) : Calls Tryz.prog 14 #[bptr d, .agg m.enc.toArray] w (HandEnd d s m l R H w) := by
 obtain ⟨hok, pv, pq, po, pc, hp⟩ := open_det hp0
 have hs1 := SEnd.box (star_owns hR (rp_owns d s pv pq po pc)) (sEnd_refl hp) (.cells m.enc.toArray 46)
 obtain ⟨hg0, hg1, hg2⟩ := hgood
 have HN : Hid (∀ W, Gives Tryz.prog 32 #[.int .i64 m.frm] W (.bool true)) := Lib.hid fun W => (refNode_any m.frm W).cast (by rw [hg1])
 have g0 : (m.dst != s.self) = false := by rw [bne_eq_false_iff_eq]; exact hg0
 have g2 : (m.frm == s.self) = false := by rw [beq_eq_false_iff_ne]; exact hg2
 have HOk := Lib.hid hok
 have HR := Lib.hid hR
 have HRead := Lib.hid hread
 have HM55 := Lib.hid hm
 have HG := Lib.hid (And.intro hg0 (And.intro hg1 hg2))
 have HLen : Hid (m.n = l.length) := Lib.hid (by
  obtain ⟨H1, _, hr, _⟩ := hp0
  obtain ⟨_, _, he, _⟩ := (hread _ _ hr).form
  exact (Value.slice.inj he).2.1)
 clear hp hp0 hok hg0 hg1 hg2 hR hread hm
 unfold bptr
 go_enter Tryz.func14, Tryz.ntmps14
 go_upto_region 1 with fail
 obtain ⟨q, hq⟩ : ∃ q, w.heap.size = q := ⟨_, rfl⟩
 obtain ⟨W1, hW1⟩ : ∃ W, w.alloc (.cells m.enc.toArray 46) = W := ⟨_, rfl⟩
 rw [hq, hW1] at hs1
 rw [hq, hW1]
 have HS1 := Lib.hid hs1
 have hd := rp_at hs1.assoc'
 have hi := inAt HM55.out (SEnd.at hs1)
 have hlt := hd.lt
 have hql := hi.lt
 have d0 := hd.c0
 have m1 := hi.c1
 have m2 := hi.c2
 clear hs1 hq hW1 hd hi
 refine wp_region_later (by kernel_rfl) (by kernel_rfl) ?_
 repeat (go_big_quiet_step (first | (go_at_call 32; with_reducible exact later_of (HN.out _))))
 refine wpQuiet_nil ?_
 rintro _ ⟨x2, rfl⟩
 have hs2 := SEnd.later (star_owns (box_owns _ _) (star_owns HR.out (rp_owns d s pv pq po pc))) HS1.out x2
 obtain ⟨W2, hW2⟩ : ∃ W, x2.w = W := ⟨_, rfl⟩
 rw [hW2] at hs2 ⊢
 have hi := inAt HM55.out (SEnd.at hs2)
 have m61 := hi.c61
 have HL : Hid (LoopS d s m l R q H w 0 0 W2) := Lib.hid ⟨s, rfl, hs2.mono fun _ h => star_mono (fun _ h => h) (fun _ h => star_mono (fun _ h => h) (fun _ h => ⟨HOk.out, pv, pq, po, pc, h⟩) h) h⟩
 clear hs2 hW2 hi hlt hql d0 m1 m2 g0 g2 HS1 HOk HN
 obtain ⟨n, hn⟩ : ∃ n, m.n = n := ⟨_, rfl⟩
 have HNn := Lib.hid hn
 have hn9 : n ≤ 1000000000 := by have := HLen.out; omega
 rw [hn] at m61 HLen HRead
 obtain ⟨p, hpp⟩ : ∃ p, m.p = p := ⟨_, rfl⟩
 rw [hpp] at m61 HRead
 clear hn hpp
 go_wp2_with fail
 go_loopw [5, 34] (fun v5 v34 wr => ∃ k cnt : Nat, k ≤ n ∧ cnt ≤ 4 ∧ v34 = .int .i64 k ∧ v5 = .int .i64 cnt ∧ Hid (LoopS d s m l R q H w k cnt wr)) (fun _ v34 _ => n - (intOf v34).toNat)
 case atStart => exact ⟨0, 0, by omega, by omega, rfl, rfl, HL⟩
 case round =>
  obtain ⟨k, cnt, hk, hcnt, rfl, rfl, HA⟩ := hrel
  clear HL
  by_cases hkl : k < n
  ·obtain ⟨c, hkc⟩ : ∃ c, l[k]? = some c := ⟨_, List.getElem?_eq_getElem (by have := HLen.out; omega)⟩
   obtain ⟨s1, hup, hs⟩ := HA.out
   have HUp : Hid (heardUp s l (k + 1) = heardStep (s1, cnt) c) := Lib.hid (by rw [heardUp_succ hkc, hup])
   have HS := Lib.hid hs
   obtain ⟨b, o, rfl, a0, a1, a2⟩ := cellCl (by
    obtain ⟨Hx, hx⟩ := hs.get
    obtain ⟨_, _, _, ⟨_, _, hr, _⟩, _⟩ := hx
    exact HRead.out _ _ hr) hkc
   obtain ⟨cn, ci, ch⟩ := c
   dsimp only at a0 a1 a2
   clear hs HA hkc hup
   go_upto_region 7 with fail
   have hs1 := SEnd.box (star_owns (box_owns _ _) (star_owns HR.out (rdet_owns d s1))) HS.out (.cells #[.int .i64 cn, .int .i64 ci, .int .i64 ch] 30)
   obtain ⟨W3, hW3⟩ : ∃ W, wr.alloc (.cells #[.int .i64 cn, .int .i64 ci, .int .i64 ch] 30) = W := ⟨_, rfl⟩
   obtain ⟨r, hr⟩ : ∃ r, wr.heap.size = r := ⟨_, rfl⟩
   rw [hW3, hr] at hs1
   rw [hW3, hr]
   have HS3 := Lib.hid hs1
   have hbx := SEnd.at hs1
   obtain ⟨b0, b1, b2⟩ := boxCl hbx
   have hbl : r < W3.heap.size := (Array.getElem?_eq_some_iff.1 hbx).1
   clear hs1 hW3 hr a0 a1 a2 HS hbx
   have HRnd : Hid (∀ (s' : DS) (cnt' : Nat) (W : World), heardStep (s1, cnt) ⟨cn, ci, ch⟩ = (s', cnt') → SEnd (star (BoxA r (clO cn ci ch)) (star (BoxA q (inO m)) (star R (RDet d s')))) H w W → LoopS d s m l R q H w (k + 1) cnt' W) := Lib.hid fun s' cnt' W he hs => ⟨s', HUp.out.trans he, hs.drop⟩
   clear HUp
   obtain ⟨a, ha⟩ : ∃ a, mayB cn ci ch = a := ⟨_, rfl⟩
   obtain ⟨e, he⟩ : ∃ e, nothingB ci ch = e := ⟨_, rfl⟩
   have HMay : Hid (∀ W, Gives Tryz.prog 38 #[.agg #[.int .i64 cn, .int .i64 ci, .int .i64 ch]] W (.bool a)) := Lib.hid fun W => (refMay_any cn ci ch W).cast (by rw [ha])
   have HNot : Hid (∀ W, Gives Tryz.prog 39 #[.agg #[.int .i64 cn, .int .i64 ci, .int .i64 ch]] W (.bool e)) := Lib.hid fun W => (refNothing_any cn ci ch W).cast (by rw [he])
   have HStep : Hid (heardStep (s1, cnt) ⟨cn, ci, ch⟩ = if a = true ∧ cnt < 4 then (if e then s1 else (hearD s1 ⟨cn, ci, ch⟩).1, cnt + 1) else (s1, cnt)) := Lib.hid (by rw [← ha, ← he]; rfl)
   clear ha he
   have HOwn : Hid (Owns (star (BoxA r (clO cn ci ch)) (star (BoxA q (inO m)) (star R (RDet d s1))))) := Lib.hid (star_owns (box_owns _ _) (star_owns (box_owns _ _) (star_owns HR.out (rdet_owns d s1))))
   cases a with
   | false =>
    go_wp2_with fail
    refine Gives.mono' (HMay.out _) ?_
    intro x3
    have HS4 := Lib.hid (SEnd.later HOwn.out HS3.out x3)
    go_wp2_with fail
    go_roundw
    case rel => exact ⟨k + 1, cnt, by omega, hcnt, by go_num, rfl, Lib.hid (HRnd.out s1 cnt _ HStep.out HS4.out)⟩
    case measure => simp [intOf]; omega
   | true =>
    by_cases h4 : cnt < 4
    ·have g4 : decide ((cnt : Int) < 4) = true := by rw [decide_eq_true_eq]; omega
     rw [if_pos ⟨rfl, h4⟩] at HStep
     go_wp2_with fail
     refine Gives.mono' (HMay.out _) ?_
     intro x3
     have hs4 := SEnd.later HOwn.out HS3.out x3
     have HS4 := Lib.hid hs4
     obtain ⟨b0', b1', b2'⟩ := boxCl (SEnd.at hs4)
     clear hs4 b0 b1 b2 hbl HS3
     obtain ⟨W4, hW4⟩ : ∃ W, x3.w = W := ⟨_, rfl⟩
     rw [hW4] at HS4 b0' b1' b2' ⊢
     clear hW4
     cases e with
     | true =>
      go_wp2_with fail
      refine Gives.mono' (HNot.out _) ?_
      intro x5
      have HS5 := Lib.hid (SEnd.later HOwn.out HS4.out x5)
      go_wp2_with fail
      go_roundw
      case rel => exact ⟨k + 1, cnt + 1, by omega, by omega, by go_num, by go_num, Lib.hid (HRnd.out s1 (cnt + 1) _ HStep.out HS5.out)⟩
      case measure => simp [intOf]; omega
     | false =>
      go_wp2_with fail
      refine Gives.mono' (HNot.out _) ?_
      intro x5
      have hs5 := SEnd.later HOwn.out HS4.out x5
      have HS5 := Lib.hid hs5
      obtain ⟨c0, c1, c2⟩ := boxCl (SEnd.at hs5)
      clear hs5 b0' b1' b2' HS4
      obtain ⟨W5, hW5⟩ : ∃ W, x5.w = W := ⟨_, rfl⟩
      rw [hW5] at HS5 c0 c1 c2 ⊢
      clear hW5
      go_wp2_with fail
      refine (SEnd.callP HS5.out (P := RDet d s1) (Q := star (BoxA r (clO cn ci ch)) (star (BoxA q (inO m)) R)) (P' := RDet d (hearD s1 ⟨cn, ci, ch⟩).1) (fun _ _ h => star_last4 h) (star_owns (box_owns _ _) (star_owns (box_owns _ _) HR.out)) (hearRD_any d s1 ⟨cn, ci, ch⟩) (fun k => k = r) cov1 (fun _ _ h => star_unlast4 h)).mono ?_
      rintro _ w6 ⟨_, rfl, rfl, hs6, -⟩
      have HS6 := Lib.hid hs6
      clear hs6 c0 c1 c2 HS5
      go_wp2_with fail
      go_roundw
      case rel => exact ⟨k + 1, cnt + 1, by omega, by omega, by go_num, by go_num, Lib.hid (HRnd.out _ (cnt + 1) _ HStep.out HS6.out)⟩
      case measure => simp [intOf]; omega
    ·have g4 : decide ((cnt : Int) < 4) = false := by rw [decide_eq_false_iff_not]; omega
     rw [if_neg (fun h => h4 h.2)] at HStep
     go_wp2_with fail
     refine Gives.mono' (HMay.out _) ?_
     intro x3
     have HS4 := Lib.hid (SEnd.later HOwn.out HS3.out x3)
     go_wp2_with fail
     go_roundw
     case rel => exact ⟨k + 1, cnt, by omega, hcnt, by go_num, rfl, Lib.hid (HRnd.out s1 cnt _ HStep.out HS4.out)⟩
     case measure => simp [intOf]; omega
  ·obtain rfl : k = n := by omega
   obtain ⟨s1, hup, hs⟩ := HA.out
   have HS1d : Hid (heardM s l = s1) := Lib.hid (by rw [← heardUp_all, ← HLen.out, hup])
   obtain ⟨hok1, pv, pq, po, pc, hs1⟩ := open_det2 HR.out hs
   have HOk1 := Lib.hid hok1
   have HS2 := Lib.hid hs1
   have hd := rp_at hs1.assoc'
   have hi := inAt HM55.out (SEnd.at hs1)
   have hlt := hd.lt
   have hql := hi.lt
   have d7 := hd.c7
   have m1 := hi.c1
   unfold bptr at d7
   clear hs HA hup hd hi hs1 hok1 m61 HLen
   go_upto_region 12 with fail
   have HS6d := Lib.hid (SEnd.below (star_owns (box_owns _ _) (star_owns HR.out (rp_owns d s1 pv pq po pc))) HS2.out (ext_drew (ext_refl wr)))
   obtain ⟨⟨n2, i2, h2⟩, hc2⟩ : ∃ c, ofV s1.V m.frm = c := ⟨_, rfl⟩
   have HC2 := Lib.hid hc2
   have HOf2 : Hid (∀ W', Below wr.drew.heap.size wr.drew W' → Gives Tryz.prog 24 #[.pointer (some ⟨pv, 0, none⟩), .int .i64 m.frm] W' (.agg #[.int .i64 n2, .int .i64 i2, .int .i64 h2])) := Lib.hid fun W' hb => (rp_of (SEnd.below (star_owns (box_owns _ _) (star_owns HR.out (rp_owns d s1 pv pq po pc))) HS6d.out hb).assoc' m.frm).cast (by rw [hc2]; rfl)
   clear hc2
   refine wp_region_taken [8] (fun k => k = d ∨ k = q) (by kernel_rfl) (n := 9) rfl (fresh := Array.replicate 9 false) rfl ?_
   refine wpT_batchK [0, 1, 2, 3, 4, 5] 3 rfl (by kernel_rfl) (by kernel_rfl) (by simp only [pickL, nthL, List.cons_append, List.nil_append]; rfl) ?_
   repeat (go_big_quiet_step (fail))
   refine wpQuiet_nil ?_
   refine wpT_callAlloc2 (i := 6) (j := 7) (by kernel_rfl) (by decide) (by kernel_rfl) (by kernel_rfl) rfl rfl rfl rfl rfl Tryz.call24 (v0 := .pointer (some ⟨pv, 0, none⟩)) (v1 := .int .i64 m.frm) (by rfl) (by rfl) (x := 59) (y := 8) rfl rfl (by decide) (fun _ => by rfl) (fun _ => by rfl) (v := .agg #[.int .i64 n2, .int .i64 i2, .int .i64 h2]) (fun W' hb => HOf2.out W' hb) (o := .cells #[.int .i64 0, .int .i64 0, .int .i64 0] 30) (fun _ _ => by simp [execOp, go_sem]) (fun k hk => by rcases hk with rfl | rfl <;> assumption) ?_
   intro b2 W7 hb7 hn7 ho7
   simp only [Act.put, List.setIfInBounds_toArray, List.set_cons_succ, List.set_cons_zero]
   have e0 : W7.cell? ⟨b2, 0, none⟩ = some (.int .i64 0) := by simp [World.cell?, ho7]
   have e1 : W7.cell? ⟨b2, 1, none⟩ = some (.int .i64 0) := by simp [World.cell?, ho7]
   have e2 : W7.cell? ⟨b2, 2, none⟩ = some (.int .i64 0) := by simp [World.cell?, ho7]
   have ef : ∀ j, W7.frozen? ⟨b2, j, none⟩ = false := fun j => by simp [World.frozen?, ho7]
   have ef0 := ef 0
   have ef1 := ef 1
   have ef2 := ef 2
   have HS7 := Lib.hid (SEnd.fill (n := n2) (i := i2) (h := h2) (star_owns (box_owns _ _) (star_owns HR.out (rp_owns d s1 pv pq po pc))) (SEnd.boxed (star_owns (box_owns _ _) (star_owns HR.out (rp_owns d s1 pv pq po pc))) HS6d.out hb7 hn7 ho7))
   refine wpT_store (i := 8) (w' := ((W7.setCell ⟨b2, 0, none⟩ (.int .i64 n2)).setCell ⟨b2, 1, none⟩ (.int .i64 i2)).setCell ⟨b2, 2, none⟩ (.int .i64 h2)) (by kernel_rfl) rfl (by rfl) (by simp [execOp, go_sem, e0, e1, e2, ef0, ef1, ef2]) (.inl rfl) rfl ?_
   refine wpT_end (by kernel_rfl) ?_
   obtain ⟨W8, hW8⟩ : ∃ W, ((W7.setCell ⟨b2, 0, none⟩ (.int .i64 n2)).setCell ⟨b2, 1, none⟩ (.int .i64 i2)).setCell ⟨b2, 2, none⟩ (.int .i64 h2) = W := ⟨_, rfl⟩
   have hs8 := HS7.out
   rw [hW8] at hs8 ⊢
   have HS8 := Lib.hid hs8
   clear hW8 e0 e1 e2 ef ef0 ef1 ef2 hb7 hn7 ho7 HS7 HS6d HS2 HOf2 d7 m1 hlt hql hs8
   have HF : Hid (fromD s1 m.frm = if h2 = 4 then s1 else (hearD s1 ⟨m.frm, i2, 1⟩).1) := Lib.hid (by unfold fromD; rw [HC2.out])
   clear HC2
   obtain ⟨z0, z1, z2⟩ := boxCl (SEnd.at HS8.out)
   have hbl2 : b2 < W8.heap.size := (Array.getElem?_eq_some_iff.1 (SEnd.at HS8.out)).1
   have hi := inAt HM55.out (SEnd.at HS8.out.swap)
   have hql := hi.lt
   have m1 := hi.c1
   have HS8r : Hid (SEnd (star (BoxA b2 (clO n2 i2 h2)) (star (BoxA q (inO m)) (star R (RDet d s1)))) H w W8) := Lib.hid (HS8.out.mono fun _ h => star_mono (fun _ h => h) (fun _ h => star_mono (fun _ h => h) (fun _ h => star_mono (fun _ h => h) (fun _ h => ⟨HOk1.out, pv, pq, po, pc, h⟩) h) h) h)
   clear hi HS8 HOk1
   by_cases h4 : h2 = 4
   case' pos =>
    have g4 : (h2 != 4) = false := by rw [bne_eq_false_iff_eq]; exact h4
    have HF2 : Hid (fromD s1 m.frm = s1) := Lib.hid (by rw [HF.out, if_pos h4])
    obtain ⟨s2, hs2⟩ : ∃ s2, s1 = s2 := ⟨_, rfl⟩
    rw [hs2] at HS8r
    have HS2d : Hid (fromD (heardM s l) m.frm = s2) := Lib.hid (by rw [HS1d.out, HF2.out, hs2])
    clear h4 HF HF2 hs2 HS1d
    go_upto_region 15 with fail
    have HS9 := HS8r
    clear hbl2 z0 z1 z2 hql m1 g4 HS8r
    obtain ⟨w9, hw9⟩ : ∃ W, W8 = W := ⟨_, rfl⟩
    rw [hw9] at HS9 ⊢
    clear hw9
   case' neg =>
    have g4 : (h2 != 4) = true := by rw [bne_iff_ne]; exact h4
    have HF2 : Hid (fromD s1 m.frm = (hearD s1 ⟨m.frm, i2, 1⟩).1) := Lib.hid (by rw [HF.out, if_neg h4])
    clear h4 HF
    go_wp2_with fail
    refine (SEnd.callP HS8r.out (P := RDet d s1) (Q := star (BoxA b2 (clO n2 i2 h2)) (star (BoxA q (inO m)) R)) (P' := RDet d (hearD s1 ⟨m.frm, i2, 1⟩).1) (fun _ _ h => star_last4 h) (star_owns (box_owns _ _) (star_owns (box_owns _ _) HR.out)) (hearRD_any d s1 ⟨m.frm, i2, 1⟩) (fun k => k = b2) cov1 (fun _ _ h => star_unlast4 h)).mono ?_
    rintro _ w9 ⟨_, rfl, rfl, hs9, -⟩
    obtain ⟨s2, hs2⟩ : ∃ s2, (hearD s1 ⟨m.frm, i2, 1⟩).1 = s2 := ⟨_, rfl⟩
    rw [hs2] at hs9
    have HS2d : Hid (fromD (heardM s l) m.frm = s2) := Lib.hid (by rw [HS1d.out, HF2.out, hs2])
    have HS9 := Lib.hid hs9
    clear HF2 hs2 HS1d hs9
    clear hbl2 z0 z1 z2 hql m1 HS8r
    go_upto_region 15 with fail
    clear g4
   all_goals (
    have hs9 := HS9.out.drop
    have HDs : Hid (handleD s (m.mm l) = tailD s2 m) := Lib.hid (by rw [handleD_tail HG.out, HS2d.out])
    have HT := Lib.hid hs9
    obtain ⟨hok2, qv, qq, qo, qc, hs10⟩ := open_det2 HR.out hs9
    have HFinN : Hid (∀ (s' : DS) (W : World), tailD s2 m = (s', []) → DsOk s' → SEnd (star (BoxA q (inO m)) (star R (RP d s' qv qq qo qc))) H w W → HandEnd d s m l R H w (.returned (.slice none 0 0)) W) := Lib.hid fun s' W he hok' hs => ⟨_, rfl, by rw [HDs.out, he]; exact hs.drop.mono fun _ h => star_mono (fun _ h => h) (fun _ h => msgs_none ⟨hok', qv, qq, qo, qc, h⟩) h⟩
    have HOk2 := Lib.hid hok2
    have HS10 := Lib.hid hs10
    have hd := rp_at hs10.assoc'
    have hi := inAt HM55.out (SEnd.at hs10)
    have hlt := hd.lt
    have hql := hi.lt
    have d0 := hd.c0
    have m0 := hi.c0
    have m4 := hi.c4
    clear hd hi hs9 hs10 hok2 HS9 HS2d HG
    -- tail
    have HNf : Hid (∀ W, Gives Tryz.prog 32 #[.int .i64 m.for'] W (.bool (nodeB m.for'))) := Lib.hid fun W => refNode_any m.for' W
    have HNa : Hid (∀ W, Gives Tryz.prog 32 #[.int .i64 m.about] W (.bool (nodeB m.about))) := Lib.hid fun W => refNode_any m.about W
    have HFinS : Hid (∀ (u : Value) (s' : DS) (x : MM) (W : World), tailD s2 m = (s', [x]) → SEnd (star R (MsgsA u [x] (RDet d s'))) H w W → HandEnd d s m l R H w (.returned u) W) := Lib.hid fun u s' x W he hs => ⟨_, rfl, by rw [HDs.out, he]; exact hs⟩
    clear hlt hql d0 m0 m4 HDs HT
    have hd := rp_at HS10.out.assoc'
    have hi := inAt HM55.out (SEnd.at HS10.out)
    have hlt := hd.lt
    have hql := hi.lt
    have d0 := hd.c0
    have d3 := hd.c3
    have d4 := hd.c4
    have d6 := hd.c6
    have d10 := hd.c10
    have f4 := hd.f 4
    unfold bptr at d10
    have m0 := hi.c0
    have m1 := hi.c1
    have m3 := hi.c3
    have m4 := hi.c4
    have m5 := hi.c5
    clear hd hi
    by_cases k2 : m.kind = 2
    ·have g2 : (m.kind == 2) = true := beq_iff_eq.2 k2
     by_cases kf : m.for' = s2.self
     ·have gf : (m.for' == s2.self) = true := beq_iff_eq.2 kf
      go_quiet (fail)
      go_upto_region 16 with fail
      have HS11h := SEnd.below (star_owns (box_owns _ _) (star_owns HR.out (rp_owns d s2 qv qq qo qc))) HS10.out (ext_drewN (ext_refl w9) nq)
      clear hlt hql d0 d3 d4 d6 d10 f4 m0 m1 m3 m4 m5
      obtain ⟨w11, hw⟩ : ∃ W, w9.drewN nq = W := ⟨_, rfl⟩
      rw [hw] at HS11h ⊢
      have HS11 := Lib.hid HS11h
      clear hw HS11h HS10
      have hd := rp_at HS11.out.assoc'
      have hi := inAt HM55.out (SEnd.at HS11.out)
      have hlt := hd.lt
      have hql := hi.lt
      have d0 := hd.c0
      have d3 := hd.c3
      have d4 := hd.c4
      have d6 := hd.c6
      have d10 := hd.c10
      have f4 := hd.f 4
      unfold bptr at d10
      have m0 := hi.c0
      have m1 := hi.c1
      have m3 := hi.c3
      have m4 := hi.c4
      have m5 := hi.c5
      clear hd hi
      by_cases kq : m.seq = s2.seq
      ·have gq : (m.seq == s2.seq) = true := beq_iff_eq.2 kq
       by_cases ka : 0 ≤ s2.asked
       ·have ga : decide (0 ≤ s2.asked) = true := decide_eq_true ka
        have HTl : Hid (tailD s2 m = ({ s2 with C := cutM (cutM s2.C 1) 2, asked := -1 }, [])) := Lib.hid (by unfold tailD; rw [if_pos ⟨k2, kf⟩, if_pos ⟨kq, ka⟩])
        go_quiet (fail)
        go_upto_region 17 with fail
        have HS12h := SEnd.below (star_owns (box_owns _ _) (star_owns HR.out (rp_owns d s2 qv qq qo qc))) HS11.out (ext_drewN (ext_refl w11) nq)
        clear hlt hql d0 d3 d4 d6 d10 f4 m0 m1 m3 m4 m5
        obtain ⟨w12, hw⟩ : ∃ W, w11.drewN nq = W := ⟨_, rfl⟩
        rw [hw] at HS12h ⊢
        have HS12 := Lib.hid HS12h
        clear hw HS12h HS11
        have hd := rp_at HS12.out.assoc'
        have hi := inAt HM55.out (SEnd.at HS12.out)
        have hlt := hd.lt
        have hql := hi.lt
        have d0 := hd.c0
        have d3 := hd.c3
        have d4 := hd.c4
        have d6 := hd.c6
        have d10 := hd.c10
        have f4 := hd.f 4
        unfold bptr at d10
        have m0 := hi.c0
        have m1 := hi.c1
        have m3 := hi.c3
        have m4 := hi.c4
        have m5 := hi.c5
        clear hd hi
        go_wp2_with fail
        refine (rp_cut (star_owns (box_owns _ _) HR.out) HS12.out.assoc' 1 (fun _ => False) (fun _ _ _ _ h => h.elim)).mono ?_
        rintro _ w13 ⟨_, rfl, rfl, hs13, -⟩
        have HS13 : Hid (SEnd (star (BoxA q (inO m)) (star R (RP d { s2 with C := cutM s2.C 1 } qv qq qo qc))) H w w13) := Lib.hid hs13.assoc
        clear hs13 hlt hql d0 d3 d4 d6 d10 f4 m0 m1 m3 m4 m5
        have hd := rp_at HS13.out.assoc'
        have hi := inAt HM55.out (SEnd.at HS13.out)
        have hlt := hd.lt
        have hql := hi.lt
        have d0 := hd.c0
        have d3 := hd.c3
        have d4 := hd.c4
        have d6 := hd.c6
        have d10 := hd.c10
        have f4 := hd.f 4
        unfold bptr at d10
        have m0 := hi.c0
        have m1 := hi.c1
        have m3 := hi.c3
        have m4 := hi.c4
        have m5 := hi.c5
        clear hd hi
        go_wp2_with fail
        refine (rp_cut (star_owns (box_owns _ _) HR.out) HS13.out.assoc' 2 (fun _ => False) (fun _ _ _ _ h => h.elim)).mono ?_
        rintro _ w14 ⟨_, rfl, rfl, hs14, -⟩
        have HS14 : Hid (SEnd (star (BoxA q (inO m)) (star R (RP d { s2 with C := cutM (cutM s2.C 1) 2 } qv qq qo qc))) H w w14) := Lib.hid hs14.assoc
        clear hs14 hlt hql d0 d3 d4 d6 d10 f4 m0 m1 m3 m4 m5
        have hd := rp_at HS14.out.assoc'
        have hi := inAt HM55.out (SEnd.at HS14.out)
        have hlt := hd.lt
        have hql := hi.lt
        have d0 := hd.c0
        have d3 := hd.c3
        have d4 := hd.c4
        have d6 := hd.c6
        have d10 := hd.c10
        have f4 := hd.f 4
        unfold bptr at d10
        have m0 := hi.c0
        have m1 := hi.c1
        have m3 := hi.c3
        have m4 := hi.c4
        have m5 := hi.c5
        clear hd hi
        have HS15 : Hid (SEnd (star (BoxA q (inO m)) (star R (RP d { s2 with C := cutM (cutM s2.C 1) 2, asked := -1 } qv qq qo qc))) H w (w14.setCell ⟨d, 4, none⟩ (.int .i64 (-1)))) := Lib.hid (rp_store (star_owns (box_owns _ _) HR.out) HS14.out.assoc' 4 (.int .i64 (-1)) { s2 with C := cutM (cutM s2.C 1) 2, asked := -1 } rfl rfl rfl rfl rfl rfl).assoc
        go_wp2_with fail
        go_ret
        exact HFinN.out { s2 with C := cutM (cutM s2.C 1) 2, asked := -1 } _ HTl.out ⟨HOk2.out.self, HOk2.out.inc, HOk2.out.now, HOk2.out.seq, by show (-1 : Int) ≤ -1 ∧ (-1 : Int) < 8; omega⟩ HS15.out
       ·have ga : decide (0 ≤ s2.asked) = false := decide_eq_false ka
        have HTl : Hid (tailD s2 m = (s2, [])) := Lib.hid (by unfold tailD; rw [if_pos ⟨k2, kf⟩, if_neg (fun h => ka h.2)])
        go_quiet (fail)
        have HS12 := Lib.hid (SEnd.below (star_owns (box_owns _ _) (star_owns HR.out (rp_owns d s2 qv qq qo qc))) HS11.out (ext_drewN (ext_refl w11) nq))
        go_wp2_with fail
        go_ret
        exact HFinN.out s2 _ HTl.out HOk2.out HS12.out
      ·have gq : (m.seq == s2.seq) = false := beq_eq_false_iff_ne.2 kq
       have HTl : Hid (tailD s2 m = (s2, [])) := Lib.hid (by unfold tailD; rw [if_pos ⟨k2, kf⟩, if_neg (fun h => kq h.1)])
       go_quiet (fail)
       have HS12 := Lib.hid (SEnd.below (star_owns (box_owns _ _) (star_owns HR.out (rp_owns d s2 qv qq qo qc))) HS11.out (ext_drewN (ext_refl w11) nq))
       go_wp2_with fail
       go_ret
       exact HFinN.out s2 _ HTl.out HOk2.out HS12.out
     ·have gf : (m.for' == s2.self) = false := beq_eq_false_iff_ne.2 kf
      have hA : ¬ (m.kind = 2 ∧ m.for' = s2.self) := fun h => kf h.2
      go_quiet (fail)
      go_upto_region 20 with fail
      have HS11h := SEnd.below (star_owns (box_owns _ _) (star_owns HR.out (rp_owns d s2 qv qq qo qc))) HS10.out (ext_drewN (ext_refl w9) nq)
      clear hlt hql d0 d3 d4 d6 d10 f4 m0 m1 m3 m4 m5
      obtain ⟨w11, hw⟩ : ∃ W, w9.drewN nq = W := ⟨_, rfl⟩
      rw [hw] at HS11h ⊢
      have HS11 := Lib.hid HS11h
      clear hw HS11h HS10
      have hd := rp_at HS11.out.assoc'
      have hi := inAt HM55.out (SEnd.at HS11.out)
      have hlt := hd.lt
      have hql := hi.lt
      have d0 := hd.c0
      have d3 := hd.c3
      have d4 := hd.c4
      have d6 := hd.c6
      have d10 := hd.c10
      have f4 := hd.f 4
      unfold bptr at d10
      have m0 := hi.c0
      have m1 := hi.c1
      have m3 := hi.c3
      have m4 := hi.c4
      have m5 := hi.c5
      clear hd hi
      cases hl : s2.left with
      | true =>
       rw [hl] at d6
       have HTl : Hid (tailD s2 m = (s2, [])) := Lib.hid (by unfold tailD; rw [if_neg hA, if_pos hl])
       clear hl
       go_wp2_with fail
       go_ret
       exact HFinN.out s2 _ HTl.out HOk2.out HS11.out
      | false =>
       rw [hl] at d6
       have HTl : Hid (tailD s2 m = (if m.kind = 1 then ((sendD s2 2 m.frm m.seq m.for' 0).1, [(sendD s2 2 m.frm m.seq m.for' 0).2]) else if m.kind = 2 ∧ nodeB m.for' = true then ((sendD s2 2 m.for' m.seq m.for' 0).1, [(sendD s2 2 m.for' m.seq m.for' 0).2]) else if m.kind = 3 ∧ nodeB m.about = true ∧ m.about ≠ s2.self then ((sendD s2 1 m.about m.seq m.frm 0).1, [(sendD s2 1 m.about m.seq m.frm 0).2]) else (s2, []))) := Lib.hid (by unfold tailD; rw [if_neg hA, if_neg (by rw [hl]; decide)])
       clear hl
       have g1 : (m.kind == 1) = false := beq_eq_false_iff_ne.2 (by omega)
       rw [if_neg (by omega)] at HTl
       obtain ⟨b, hb⟩ : ∃ b, nodeB m.for' = b := ⟨_, rfl⟩
       rw [hb] at HTl HNf
       clear hb
       cases b with
       | true =>
        rw [if_pos ⟨k2, rfl⟩] at HTl
        go_wp2_with fail
        refine Gives.mono' (HNf.out _) ?_
        intro x12
        go_upto_region 24 with fail
        have HS12h := SEnd.below (star_owns (box_owns _ _) (star_owns HR.out (rp_owns d s2 qv qq qo qc))) HS11.out x12.below
        clear hlt hql d0 d3 d4 d6 d10 f4 m0 m1 m3 m4 m5
        obtain ⟨w12, hw⟩ : ∃ W, x12.w = W := ⟨_, rfl⟩
        rw [hw] at HS12h ⊢
        have HS12 := Lib.hid HS12h
        clear hw HS12h HS11
        have hd := rp_at HS12.out.assoc'
        have hi := inAt HM55.out (SEnd.at HS12.out)
        have hlt := hd.lt
        have hql := hi.lt
        have d0 := hd.c0
        have d3 := hd.c3
        have d4 := hd.c4
        have d6 := hd.c6
        have d10 := hd.c10
        have f4 := hd.f 4
        unfold bptr at d10
        have m0 := hi.c0
        have m1 := hi.c1
        have m3 := hi.c3
        have m4 := hi.c4
        have m5 := hi.c5
        clear hd hi
        go_wp2_with fail
        refine (SEnd.callF (SEnd.mono HS12.out fun _ h => star_mono (fun _ h => h) (fun _ h => star_mono (fun _ h => h) (fun _ h => (⟨HOk2.out, qv, qq, qo, qc, h⟩ : RDet d s2 _ _)) h) h) (to' := fun _ _ h => to_send h) (star_owns (box_owns _ _) HR.out) (sendRD_any d s2 (.slice none 0 0) [] 2 m.for' m.seq m.for' 0 (by simp)) (fun _ => False) (fun _ _ _ _ h => h.elim) (fun _ _ _ h => of_send h)).mono ?_
        rintro _ w20 ⟨u, rfl, hs20, -⟩
        have HS20 := Lib.hid hs20
        clear hs20 hlt hql d0 d3 d4 d6 d10 f4 m0 m1 m3 m4 m5
        go_wp2_with fail
        go_ret
        exact HFinS.out u _ _ _ HTl.out HS20.out.drop
       | false =>
        rw [if_neg (fun h => by cases h.2), if_neg (fun h => by have := h.1; omega)] at HTl
        have g3 : (m.kind == 3) = false := beq_eq_false_iff_ne.2 (by omega)
        go_wp2_with fail
        refine Gives.mono' (HNf.out _) ?_
        intro x12
        go_upto_region 25 with fail
        have HS12h := SEnd.below (star_owns (box_owns _ _) (star_owns HR.out (rp_owns d s2 qv qq qo qc))) HS11.out x12.below
        clear hlt hql d0 d3 d4 d6 d10 f4 m0 m1 m3 m4 m5
        obtain ⟨w12, hw⟩ : ∃ W, x12.w = W := ⟨_, rfl⟩
        rw [hw] at HS12h ⊢
        have HS12 := Lib.hid HS12h
        clear hw HS12h HS11
        have hd := rp_at HS12.out.assoc'
        have hi := inAt HM55.out (SEnd.at HS12.out)
        have hlt := hd.lt
        have hql := hi.lt
        have d0 := hd.c0
        have d3 := hd.c3
        have d4 := hd.c4
        have d6 := hd.c6
        have d10 := hd.c10
        have f4 := hd.f 4
        unfold bptr at d10
        have m0 := hi.c0
        have m1 := hi.c1
        have m3 := hi.c3
        have m4 := hi.c4
        have m5 := hi.c5
        clear hd hi
        refine wp_region_later (by kernel_rfl) (by kernel_rfl) ?_
        repeat (go_big_quiet_step (first | (go_at_call 32; with_reducible exact later_of (HNa.out _))))
        refine wpQuiet_nil ?_
        rintro _ ⟨x13, rfl⟩
        have HS13 := Lib.hid (SEnd.below (star_owns (box_owns _ _) (star_owns HR.out (rp_owns d s2 qv qq qo qc))) HS12.out x13.below)
        clear hlt hql d0 d3 d4 d6 d10 f4 m0 m1 m3 m4 m5
        go_wp2_with fail
        go_ret
        exact HFinN.out s2 _ HTl.out HOk2.out HS13.out
    ·have g2 : (m.kind == 2) = false := beq_eq_false_iff_ne.2 k2
     have hA : ¬ (m.kind = 2 ∧ m.for' = s2.self) := fun h => k2 h.1
     go_quiet (fail)
     go_upto_region 20 with fail
     have HS11h := SEnd.below (star_owns (box_owns _ _) (star_owns HR.out (rp_owns d s2 qv qq qo qc))) HS10.out (ext_drewN (ext_refl w9) nq)
     clear hlt hql d0 d3 d4 d6 d10 f4 m0 m1 m3 m4 m5
     obtain ⟨w11, hw⟩ : ∃ W, w9.drewN nq = W := ⟨_, rfl⟩
     rw [hw] at HS11h ⊢
     have HS11 := Lib.hid HS11h
     clear hw HS11h HS10
     have hd := rp_at HS11.out.assoc'
     have hi := inAt HM55.out (SEnd.at HS11.out)
     have hlt := hd.lt
     have hql := hi.lt
     have d0 := hd.c0
     have d3 := hd.c3
     have d4 := hd.c4
     have d6 := hd.c6
     have d10 := hd.c10
     have f4 := hd.f 4
     unfold bptr at d10
     have m0 := hi.c0
     have m1 := hi.c1
     have m3 := hi.c3
     have m4 := hi.c4
     have m5 := hi.c5
     clear hd hi
     cases hl : s2.left with
     | true =>
      rw [hl] at d6
      have HTl : Hid (tailD s2 m = (s2, [])) := Lib.hid (by unfold tailD; rw [if_neg hA, if_pos hl])
      clear hl
      go_wp2_with fail
      go_ret
      exact HFinN.out s2 _ HTl.out HOk2.out HS11.out
     | false =>
      rw [hl] at d6
      have HTl : Hid (tailD s2 m = (if m.kind = 1 then ((sendD s2 2 m.frm m.seq m.for' 0).1, [(sendD s2 2 m.frm m.seq m.for' 0).2]) else if m.kind = 2 ∧ nodeB m.for' = true then ((sendD s2 2 m.for' m.seq m.for' 0).1, [(sendD s2 2 m.for' m.seq m.for' 0).2]) else if m.kind = 3 ∧ nodeB m.about = true ∧ m.about ≠ s2.self then ((sendD s2 1 m.about m.seq m.frm 0).1, [(sendD s2 1 m.about m.seq m.frm 0).2]) else (s2, []))) := Lib.hid (by unfold tailD; rw [if_neg hA, if_neg (by rw [hl]; decide)])
      clear hl
      by_cases k1 : m.kind = 1
      ·have g1 : (m.kind == 1) = true := beq_iff_eq.2 k1
       rw [if_pos k1] at HTl
       clear k1 hA
       go_wp2_with fail
       refine (SEnd.callF (SEnd.mono HS11.out fun _ h => star_mono (fun _ h => h) (fun _ h => star_mono (fun _ h => h) (fun _ h => (⟨HOk2.out, qv, qq, qo, qc, h⟩ : RDet d s2 _ _)) h) h) (to' := fun _ _ h => to_send h) (star_owns (box_owns _ _) HR.out) (sendRD_any d s2 (.slice none 0 0) [] 2 m.frm m.seq m.for' 0 (by simp)) (fun _ => False) (fun _ _ _ _ h => h.elim) (fun _ _ _ h => of_send h)).mono ?_
       rintro _ w20 ⟨u, rfl, hs20, -⟩
       have HS20 := Lib.hid hs20
       clear hs20 hlt hql d0 d3 d4 d6 d10 f4 m0 m1 m3 m4 m5
       go_wp2_with fail
       go_ret
       exact HFinS.out u _ _ _ HTl.out HS20.out.drop
      ·have g1 : (m.kind == 1) = false := beq_eq_false_iff_ne.2 k1
       rw [if_neg k1, if_neg (fun h => k2 h.1)] at HTl
       go_upto_region 25 with fail
       have HS12 := HS11
       by_cases k3 : m.kind = 3
       ·have g3 : (m.kind == 3) = true := beq_iff_eq.2 k3
        obtain ⟨b, hb⟩ : ∃ b, nodeB m.about = b := ⟨_, rfl⟩
        rw [hb] at HTl HNa
        clear hb
        cases b with
        | true =>
         by_cases ks : m.about = s2.self
         ·have gs : (m.about != s2.self) = false := by rw [bne_eq_false_iff_eq]; exact ks
          rw [if_neg (fun h => h.2.2 ks)] at HTl
          clear ks
          refine wp_region_later (by kernel_rfl) (by kernel_rfl) ?_
          repeat (go_big_quiet_step (first | (go_at_call 32; with_reducible exact later_of (HNa.out _))))
          refine wpQuiet_nil ?_
          rintro _ ⟨x13, rfl⟩
          have HS13 := Lib.hid (SEnd.below (star_owns (box_owns _ _) (star_owns HR.out (rp_owns d s2 qv qq qo qc))) HS12.out x13.below)
          clear hlt hql d0 d3 d4 d6 d10 f4 m0 m1 m3 m4 m5
          go_wp2_with fail
          go_ret
          exact HFinN.out s2 _ HTl.out HOk2.out HS13.out
         ·have gs : (m.about != s2.self) = true := by rw [bne_iff_ne]; exact ks
          rw [if_pos ⟨k3, rfl, ks⟩] at HTl
          refine wp_region_later (by kernel_rfl) (by kernel_rfl) ?_
          repeat (go_big_quiet_step (first | (go_at_call 32; with_reducible exact later_of (HNa.out _))))
          refine wpQuiet_nil ?_
          rintro _ ⟨x13, rfl⟩
          go_upto_region 26 with fail
          have HS13h := SEnd.below (star_owns (box_owns _ _) (star_owns HR.out (rp_owns d s2 qv qq qo qc))) HS12.out x13.below
          clear hlt hql d0 d3 d4 d6 d10 f4 m0 m1 m3 m4 m5
          obtain ⟨w13, hw⟩ : ∃ W, x13.w = W := ⟨_, rfl⟩
          rw [hw] at HS13h ⊢
          have HS13 := Lib.hid HS13h
          clear hw HS13h HS12
          have hd := rp_at HS13.out.assoc'
          have hi := inAt HM55.out (SEnd.at HS13.out)
          have hlt := hd.lt
          have hql := hi.lt
          have d0 := hd.c0
          have d3 := hd.c3
          have d4 := hd.c4
          have d6 := hd.c6
          have d10 := hd.c10
          have f4 := hd.f 4
          unfold bptr at d10
          have m0 := hi.c0
          have m1 := hi.c1
          have m3 := hi.c3
          have m4 := hi.c4
          have m5 := hi.c5
          clear hd hi
          go_wp2_with fail
          refine (SEnd.callF (SEnd.mono HS13.out fun _ h => star_mono (fun _ h => h) (fun _ h => star_mono (fun _ h => h) (fun _ h => (⟨HOk2.out, qv, qq, qo, qc, h⟩ : RDet d s2 _ _)) h) h) (to' := fun _ _ h => to_send h) (star_owns (box_owns _ _) HR.out) (sendRD_any d s2 (.slice none 0 0) [] 1 m.about m.seq m.frm 0 (by simp)) (fun _ => False) (fun _ _ _ _ h => h.elim) (fun _ _ _ h => of_send h)).mono ?_
          rintro _ w20 ⟨u, rfl, hs20, -⟩
          have HS20 := Lib.hid hs20
          clear hs20 hlt hql d0 d3 d4 d6 d10 f4 m0 m1 m3 m4 m5
          go_wp2_with fail
          go_ret
          exact HFinS.out u _ _ _ HTl.out HS20.out.drop
        | false =>
         rw [if_neg (fun h => by cases h.2.1)] at HTl
         refine wp_region_later (by kernel_rfl) (by kernel_rfl) ?_
         repeat (go_big_quiet_step (first | (go_at_call 32; with_reducible exact later_of (HNa.out _))))
         refine wpQuiet_nil ?_
         rintro _ ⟨x13, rfl⟩
         have HS13 := Lib.hid (SEnd.below (star_owns (box_owns _ _) (star_owns HR.out (rp_owns d s2 qv qq qo qc))) HS12.out x13.below)
         clear hlt hql d0 d3 d4 d6 d10 f4 m0 m1 m3 m4 m5
         go_wp2_with fail
         go_ret
         exact HFinN.out s2 _ HTl.out HOk2.out HS13.out
       ·have g3 : (m.kind == 3) = false := beq_eq_false_iff_ne.2 k3
        rw [if_neg (fun h => k3 h.1)] at HTl
        refine wp_region_later (by kernel_rfl) (by kernel_rfl) ?_
        repeat (go_big_quiet_step (first | (go_at_call 32; with_reducible exact later_of (HNa.out _))))
        refine wpQuiet_nil ?_
        rintro _ ⟨x13, rfl⟩
        have HS13 := Lib.hid (SEnd.below (star_owns (box_owns _ _) (star_owns HR.out (rp_owns d s2 qv qq qo qc))) HS12.out x13.below)
        clear hlt hql d0 d3 d4 d6 d10 f4 m0 m1 m3 m4 m5
        go_wp2_with fail
        go_ret
        exact HFinN.out s2 _ HTl.out HOk2.out HS13.out)
theorem handleRD_any (d : Nat) (s : DS) (m : InM) (l : List Cl) (R : Asn) (hR : Owns R) (hread : ∀ W H, R W H → RowAt elemCl W (.slice m.p m.n m.cap) l) (hm : m.mid.length = 55) (hlen : l.length ≤ 1000000000) : Trip Tryz.prog 14 #[bptr d, .agg m.enc.toArray] (star R (RDet d s)) fun u => star R (MsgsA u (handleD s (m.mm l)).2 (RDet d (handleD s (m.mm l)).1)) := fun w H hp => by
 show Calls _ _ _ _ (HandEnd d s m l R H w)
 by_cases hg : m.dst = s.self ∧ nodeB m.frm = true ∧ m.frm ≠ s.self
 ·exact handleRD_yes d s m l R hR hread w H hp hm hlen hg
 ·refine handleRD_not d s m l R hR w H hp hm ?_
  by_cases h1 : m.dst = s.self
  ·by_cases h2 : nodeB m.frm = true
   ·exact .inr (.inr (Classical.byContradiction fun h3 => hg ⟨h1, h2, h3⟩))
   ·exact .inr (.inl (by simpa using h2))
  ·exact .inl h1
end Go.Proofs.YtjbihgfdgaiecaaGreat

/- Messages that went out, one after another: to send one more. -/
namespace Go.Proofs.YtjbihgfdgaiecaaGreat
open Go Go.RowKit
theorem clsA_len {P : Asn} {W : World} : ∀ {rs : List RawM} {ms : List MM} {H : Nat → Prop}, ClsA rs ms P W H → rs.length = ms.length
 | [], [], _, _ => rfl
 | _ :: rs, _ :: ms, _, h => by
  obtain ⟨_, _, _, _, h2, _⟩ := h
  rw [List.length_cons, List.length_cons, clsA_len h2]
 | [], _ :: _, _, h => h.elim
 | _ :: _, [], _, h => h.elim
theorem emp_left {P : Asn} {W : World} {H : Nat → Prop} (h : P W H) : star emp P W H := ⟨fun _ => False, H, fun _ h => h, h, fun _ h => h.elim, fun _ => ⟨.inr, fun h => h.elim (fun h => h.elim) fun h => h⟩⟩
theorem clsA_out {P : Asn} {W : World} : ∀ {rs : List RawM} {ms : List MM} {H : Nat → Prop}, ClsA rs ms P W H → star (ClsA rs ms emp) P W H
 | [], [], _, h => emp_left h
 | _ :: _, _ :: _, _, h => by
  obtain ⟨H1, H2, ⟨h1, h2⟩⟩ := star_assoc' (star_mono (fun _ h => h) (fun _ h => clsA_out h) h.2)
  exact ⟨H1, H2, ⟨h.1, h1⟩, h2⟩
 | [], _ :: _, _, h => h.elim
 | _ :: _, [], _, h => h.elim
theorem clsA_in {P : Asn} {W : World} : ∀ {rs : List RawM} {ms : List MM} {H : Nat → Prop}, star (ClsA rs ms emp) P W H → ClsA rs ms P W H
 | [], [], _, h => emp_right (star_comm h)
 | _ :: _, _ :: _, _, h => by
  obtain ⟨H1, H2, ⟨hp, h1⟩, h2⟩ := h
  exact ⟨hp, star_mono (fun _ h => h) (fun _ h => clsA_in h) (star_assoc ⟨H1, H2, h1, h2⟩)⟩
 | [], _ :: _, _, h => by obtain ⟨_, _, h, _⟩ := h; exact h.elim
 | _ :: _, [], _, h => by obtain ⟨_, _, h, _⟩ := h; exact h.elim
theorem clsA_snoc {P : Asn} {W : World} {r : RawM} {m : MM} (hf : r.kind = m.kind ∧ r.frm = m.frm ∧ r.dst = m.dst ∧ r.seq = m.seq ∧ r.for' = m.for' ∧ r.about = m.about) : ∀ {rs : List RawM} {ms : List MM} {H : Nat → Prop}, ClsA rs ms (star (RowO elemCl (.slice r.p r.n r.cap) m.claims) P) W H → ClsA (rs ++ [r]) (ms ++ [m]) P W H
 | [], [], _, h => ⟨hf, h⟩
 | _ :: _, _ :: _, _, h => ⟨h.1, star_mono (fun _ h => h) (fun _ h => clsA_snoc hf h) h.2⟩
 | [], _ :: _, _, h => h.elim
 | _ :: _, [], _, h => h.elim
theorem msgsA_out {P : Asn} {W : World} {u : Value} {ms : List MM} {H : Nat → Prop} (h : MsgsA u ms P W H) : star (MsgsA u ms emp) P W H := by
 obtain ⟨raws, h⟩ := h
 obtain ⟨H1, H2, h1, h2⟩ := star_assoc' (star_mono (fun _ h => h) (fun _ h => clsA_out h) h)
 exact ⟨H1, H2, ⟨raws, h1⟩, h2⟩
theorem msgsA_in {P : Asn} {W : World} {u : Value} {ms : List MM} {H : Nat → Prop} (h : star (MsgsA u ms emp) P W H) : MsgsA u ms P W H := by
 obtain ⟨H1, H2, ⟨raws, h1⟩, h2⟩ := h
 exact ⟨raws, star_mono (fun _ h => h) (fun _ h => clsA_in h) (star_assoc ⟨H1, H2, h1, h2⟩)⟩
theorem msgs_more {d : Nat} {s : DS} {raws : List RawM} {ms : List MM} {kind dst seq for' about : Int} {u : Value} {W : World} {H : Nat → Prop} (h : star (SentA d s raws kind dst seq for' about u) (ClsA raws ms emp) W H) : MsgsA u (ms ++ [(sendD s kind dst seq for' about).2]) (RDet d (sendD s kind dst seq for' about).1) W H := by
 obtain ⟨H1, H2, ⟨p, n, cap, h1⟩, h2⟩ := h
 exact ⟨raws ++ [⟨kind, s.self, dst, seq, for', about, p, n, cap⟩], star_mono (fun _ h => h) (fun _ h => clsA_snoc (r := ⟨kind, s.self, dst, seq, for', about, p, n, cap⟩) (m := (sendD s kind dst seq for' about).2) ⟨rfl, rfl, rfl, rfl, rfl, rfl⟩ (clsA_in (star_comm h))) (star_assoc ⟨H1, H2, h1, h2⟩)⟩
theorem sendMs_any (d : Nat) (s : DS) (v : Value) (ms : List MM) (kind dst seq for' about : Int) (hlen : ms.length ≤ 1000) : Trip Tryz.prog 49 #[bptr d, v, (RawM.mk kind 0 dst seq for' about none 0 0).val] (MsgsA v ms (RDet d s)) fun u => MsgsA u (ms ++ [(sendD s kind dst seq for' about).2]) (RDet d (sendD s kind dst seq for' about).1) := fun W H ⟨raws, h⟩ => by
 have hl : raws.length ≤ 1000 := by
  obtain ⟨_, _, _, h2, _⟩ := h
  rw [clsA_len h2]
  exact hlen
 refine (Trip.frame (sendRD_any d s v raws kind dst seq for' about hl) (clsA_owns emp_owns raws ms) W H (star_assoc' (star_mono (fun _ h => h) (fun _ h => star_comm (clsA_out h)) h))).mono ?_
 rintro e w' ⟨u, rfl, hs⟩
 exact ⟨u, rfl, hs.mono fun _ h => msgs_more h⟩
end Go.Proofs.YtjbihgfdgaiecaaGreat

/- The reference's detector: what Tick calls besides; Tick of who has left. -/
namespace Go.Proofs.YtjbihgfdgaiecaaGreat
open Go Go.RowKit
def TickEnd (d : Nat) (s : DS) (peers : List Int) (draw : Int) (R : Asn) (H : Nat → Prop) (w : World) (e : Ending) (w' : World) : Prop := ∃ u, e = .returned u ∧ SEnd (star R (MsgsA u (tickD s peers draw).2 (RDet d (tickD s peers draw).1))) H w w'
set_option maxHeartbeats 4000000 in
set_option maxRecDepth 100000 in
theorem tickRD_left (d : Nat) (s : DS) (v : Value) (peers : List Int) (draw : Int) (R : Asn) (hR : Owns R) (hl : s.left = true) (hnow : s.now < 100000) (w : World) (H : Nat → Prop) (hp0 : star R (RDet d s) w H) : Calls Tryz.prog 16 #[bptr d, v, .int .u64 draw] w (TickEnd d s peers draw R H w) := by
 obtain ⟨hok, pv, pq, po, pc, hp⟩ := open_det hp0
 have hs0 := sEnd_refl hp
 have h0 : 0 ≤ s.now := hok.now.1
 have HFin : Hid (∀ W', SEnd (star R (RP d { s with now := s.now + 1 } pv pq po pc)) H w W' → TickEnd d s peers draw R H w (.returned (.slice none 0 0)) W') := Lib.hid fun W' hs => ⟨_, rfl, by
  rw [tickD_left peers draw hl]
  exact hs.mono fun _ h => star_mono (fun _ h => h) (fun _ h => msgs_none ⟨⟨hok.self, hok.inc, ⟨by show 0 ≤ s.now + 1; omega, by show s.now + 1 ≤ 100000; omega⟩, hok.seq, hok.asked⟩, pv, pq, po, pc, h⟩) h⟩
 have HS := Lib.hid (rp_store hR hs0 2 (.int .i64 (s.now + 1)) { s with now := s.now + 1 } rfl rfl rfl rfl rfl rfl)
 have hd := rp_at hs0
 have hlt := hd.lt
 have d2 := hd.c2
 have d6 := hd.c6
 have f2 := hd.f 2
 rw [hl] at d6
 clear hp hp0 hok hs0 hd hl
 unfold bptr
 go_enter Tryz.func16, Tryz.ntmps16
 go_wp2_with fail
 go_ret
 exact HFin.out _ HS.out
section
variable {w W : World} {H0 : Nat → Prop} {B : Asn} {d pv pq po pc : Nat} {s : DS}
theorem cellsI_elem : ∀ l : List Int, cellsI l = elemI.cells l
 | [] => rfl
 | x :: l => by rw [Elem.cells_cons, ← cellsI_elem l]; rfl
theorem SEnd.madeI {P : Asn} {W' : World} {u : Value} {l : List Int} (hP : Owns P) (h : SEnd P H0 w W) (hm : MadeI W W' u l) : SEnd (star (RowO elemI u l) P) H0 w W' := by
 obtain ⟨hr, hb⟩ := hm
 rw [cellsI_elem] at hr
 exact SEnd.fresh (HQ := fun k => u.ownBlock = some k) hP (rowO_owns elemI u l) h hb ⟨row_zeroE hr, fun _ => .rfl⟩ fun k hk => (hr.lt k hk).1
theorem srcI_of {W : World} {v : Value} {l : List Int} (h : SrcE elemI W v l) : SrcI W v l := ⟨ints_rowAt h.1, h.2⟩
theorem ordR_nextR (R : Asn) (hR : Owns R) (m : Nat) (self : Int) (rest peers : List Int) (draw : Int) (v : Value) (hread : ∀ W H, R W H → RowAt elemI W v peers) (hl : peers.length * 8 ≤ 140737488351232) (h0 : 0 ≤ draw) (h1 : draw < 18446744073709551616) :
  Trip Tryz.prog 56 #[.pointer (some ⟨m, 0, none⟩), v, .int .u64 draw] (star (OrdRA m self rest) R) fun u => pureA (u = .int .i64 (nextOf self rest peers draw).1) (star (OrdRA m self (nextOf self rest peers draw).2) R) := fun W H h => by
 have hs : RowAt elemI W v peers := by
  obtain ⟨_, _, _, h2, _⟩ := h
  exact hread _ _ h2
 obtain ⟨H1, hP, -, hk⟩ := star_frame hR h
 refine (ordR_next m self rest peers draw v W H1 hP hs hl h0 h1).mono ?_
 rintro e W' ⟨u, rfl, hu⟩
 exact ⟨u, rfl, ((hk _ _ hu).1).mono fun _ ⟨H3, H4, ⟨hp, h3⟩, h4⟩ => ⟨hp, H3, H4, h3, h4⟩⟩
end
end Go.Proofs.YtjbihgfdgaiecaaGreat
