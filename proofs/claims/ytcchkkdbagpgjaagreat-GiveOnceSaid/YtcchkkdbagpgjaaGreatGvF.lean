/- The landed giver: a tick. -/
import Derived.Test.YtcchkkdbagpgjaaGreatGvD
import Derived.Test.YtcchkkdbagpgjaaGreatPA
namespace Go.Proofs.YtcchkkdbagpgjaaGreat
open Go Go.RowKit Go.BigFrame
set_option maxHeartbeats 4000000 in
set_option maxRecDepth 100000 in
theorem gend_y (g dv dl : Nat) (A : At) (G : Gv) (hG : GvOk G) (S : Vt) (hS : VtOk S) (hl : S.b.length ≤ 3000) (hov' : overG G S = true) : DoesU Tryz.prog 47 #[.pointer (some ⟨g, 0, none⟩), .pointer (some ⟨dv, 0, none⟩)] [gvT g A G, A, vtT dv dl S] (fun u => [gtT g A u (endsG G) [endM G], vtT dv dl S]) := by
 intro w H hp
 have HM0 := Lib.hid (mem_refl hp)
 clear hp
 obtain ⟨D, c, hDo', hDr', HM1'⟩ := Mem.gv HM0.out
 clear HM0
 have HM0 := Lib.hid HM1'
 clear HM1'
 have hDo := Lib.hid hDo'
 clear hDo'
 have hDr := Lib.hid hDr'
 clear hDr'
 have hov := Lib.hid hov'
 clear hov'
 go_enter Tryz.func47, Tryz.ntmps47
 refine wp_seq (wQ ?_)
 refine wp_seq (wp_seq ?_)
 obtain ⟨xs, hh', hp', HS1⟩ := Mem.gh (Mem.only (M := [_, _, _, _, _]) HM0.out [0, 0, 0, 0, 0] rfl)
 have hh := Lib.hid hh'
 clear hh'
 have hp := Lib.hid hp'
 clear hp'
 have HM2 := Lib.hid HS1
 clear HS1
 obtain ⟨p, m, HS3⟩ := Mem.gq (Mem.only (M := [_, _, _, _, _]) HM2.out [0, 0, 0, 0, 0] rfl)
 have HM4 := Lib.hid HS3
 clear HS3
 have hxl : Hid (G.out.length = xs.length) := Lib.hid (by rw [hp.out.length_eq, gv_len hDo.out])
 have HS5 := Mem.asL (Mem.only (M := [_, _, _, _, _, _]) HM4.out [4, 0, 0, 0, 0, 0] rfl)
 have HM6 := Lib.hid HS5
 clear HS5
 refine wN [(0, 1), (1, 1), (2, 3), (3, 1)] (wT [0, 1] ?_)
 refine wD2 2 [_, _, _] [_, _, _, _, _, _] Tryz.call59 (gisdone_d g c dv dl G p xs.length m hxl.out hG.fd S hS hl) HM6 [1, 2, 3] fun W8 hm7 => ?_
 rw [hov.out]
 have HM9 := Lib.hid hm7
 clear hm7
 refine wT [3] ?_
 refine wZ (wp_cond_false rfl (wp_skip (then_normal (wp_seq (wN [(0, 1), (1, 1), (2, 1), (3, 3)] (wT [0, 1, 2] ?_))))))
 refine wYh 3 (.bool _) [_, _, _, _, _] [.int .i64 G.self, .int .i64 G.part, .int .i64 G.epoch, .int .i64 G.dst, .pointer (some ⟨c, 0, none⟩), .slice p xs.length m, .int .i64 G.seq, .int .i64 G.ticks, .bool true] HM9 0 fun W11 HM12 => ?_
 refine wZ (wp_seq (wN [(0, 1), (1, 3), (2, 3), (3, 1)] (wT [0] ?_)))
 refine wD2h 1 [_, _, _, _, _] [_, _, _, _, _, _] Tryz.call89 (gmsg_d g c (endsG G) (.slice p xs.length m) 7) HM12 [0] fun W14 HM15 => ?_
 refine wpS_build1 elemMx (i := 2) (dd := 14) (y := mxOf (endM (endsG G)) none 0) rfl (by rfl) rfl rfl rfl (by decide) HM15.out covS_nil rfl ?_
 rintro b18 W19 hm20 -
 have HM21 := Lib.hid hm20
 clear hm20
 simp only [Act.put, List.setIfInBounds_toArray, List.set_cons_succ, List.set_cons_zero]
 refine wT [3] ?_
 refine wZ (wp_ret (bodyPost_ret (results_tmp rfl _ _ _) rfl ?_))
 have h3 := Mem.toGv (A := listT ([] ++ [A])) (G := endsG G) hDo.out (fun x hx => ⟨reads_la (rs := []) (hDr.out x hx).1, (hDr.out x hx).2⟩) (Mem.toGh (G := endsG G) hh.out hp.out (Mem.toGq (G := endsG G) rfl (Mem.only (M := [_, _, _, _, _, _, _]) HM21.out [1, 4, 1, 3, 0, 1, 0] rfl)))
 exact doesU_ret (post := fun u => [gtT g A u (endsG G) [endM G], vtT dv dl S]) (Mem.toGt (rs := []) (xs := [mxOf (endM (endsG G)) none 0]) rfl (fun x hx => by rw [List.mem_singleton.1 hx]; exact ⟨vNil _, rfl, rfl, rfl, rfl, rfl, rfl, rfl⟩) h3) rfl
set_option maxHeartbeats 4000000 in
set_option maxRecDepth 100000 in
theorem gend_n (g dv dl : Nat) (A : At) (G : Gv) (hG : GvOk G) (S : Vt) (hS : VtOk S) (hl : S.b.length ≤ 3000) (hov' : overG G S = false) : DoesU Tryz.prog 47 #[.pointer (some ⟨g, 0, none⟩), .pointer (some ⟨dv, 0, none⟩)] [gvT g A G, A, vtT dv dl S] (fun u => [gtT g A u G [], vtT dv dl S]) := by
 intro w H hp
 have HM0 := Lib.hid (mem_refl hp)
 clear hp
 obtain ⟨D, c, hDo', hDr', HM1'⟩ := Mem.gv HM0.out
 clear HM0
 have HM0 := Lib.hid HM1'
 clear HM1'
 have hDo := Lib.hid hDo'
 clear hDo'
 have hDr := Lib.hid hDr'
 clear hDr'
 have hov := Lib.hid hov'
 clear hov'
 go_enter Tryz.func47, Tryz.ntmps47
 refine wp_seq (wQ ?_)
 refine wp_seq (wp_seq ?_)
 obtain ⟨xs, hh', hp', HS1⟩ := Mem.gh (Mem.only (M := [_, _, _, _, _]) HM0.out [0, 0, 0, 0, 0] rfl)
 have hh := Lib.hid hh'
 clear hh'
 have hp := Lib.hid hp'
 clear hp'
 have HM2 := Lib.hid HS1
 clear HS1
 obtain ⟨p, m, HS3⟩ := Mem.gq (Mem.only (M := [_, _, _, _, _]) HM2.out [0, 0, 0, 0, 0] rfl)
 have HM4 := Lib.hid HS3
 clear HS3
 have hxl : Hid (G.out.length = xs.length) := Lib.hid (by rw [hp.out.length_eq, gv_len hDo.out])
 have HS5 := Mem.asL (Mem.only (M := [_, _, _, _, _, _]) HM4.out [4, 0, 0, 0, 0, 0] rfl)
 have HM6 := Lib.hid HS5
 clear HS5
 have HS7 := Mem.nilRow elemMx (Mem.only (M := [_, _, _, _, _, _]) HM6.out [0, 0, 0, 0, 0, 0] rfl)
 have HM8 := Lib.hid HS7
 clear HS7
 refine wN [(0, 1), (1, 1), (2, 3), (3, 1)] (wT [0, 1] ?_)
 refine wD2 2 [_, _, _, _] [_, _, _, _, _, _, _] Tryz.call59 (gisdone_d g c dv dl G p xs.length m hxl.out hG.fd S hS hl) HM8 [2, 3, 4] fun W10 hm9 => ?_
 rw [hov.out]
 have HM11 := Lib.hid hm9
 clear hm9
 refine wT [3] ?_
 refine wZ (wp_cond_true rfl (wp_seq (wQ ?_)))
 refine wp_ret (then_ret (bodyPost_ret (results_tmp rfl _ _ _) rfl ?_))
 have h3 := Mem.toGv (A := listT ([] ++ [A])) (G := G) hDo.out (fun x hx => ⟨reads_la (rs := []) (hDr.out x hx).1, (hDr.out x hx).2⟩) (Mem.toGh hh.out hp.out (Mem.toGq rfl (Mem.only (M := [_, _, _, _, _, _, _]) HM11.out [0, 4, 0, 3, 1, 1, 0] rfl)))
 exact doesU_ret (post := fun u => [gtT g A u G [], vtT dv dl S]) (Mem.toGt (rs := []) (xs := []) rfl (fun x hx => by cases hx) h3) rfl
section
variable {P : Program} {W w : World} {o : Oper} {a : Act} {d : Option Tmp} {ops : Array Oper} {i : Nat} {S : Nat → Prop} {Q : Act → World → Prop} {rest : List (Nat × Nat)} {L rem pre : List At} {H0 : Nat → Prop}
theorem wpS_doesUV1 {f : Nat} {x x1 : Operand} {ts : Array TypeId} {first cap : Array Value} {args : Array Value} {v1 : Value} {post : Value → List At} (hi : ops[i]? = some o) (hw : Region.wanted o (yielded ops a.tmps) = true) (ho : o.op = .call { callee := .value x, args := #[x1], argTypes := ts }) (hx : a.eval x = .func (.func f) first cap) (eg : ∀ args w, (callFunc f args).run P w = .ok (.enter f args) w)
  (hc : DoesU P f args pre post) (h1 : a.eval x1 = v1) (hargs : first ++ #[v1] ++ cap = args) (hm : Mem L H0 w W) (idx : List Nat) (hsel : selA L idx = (pre, rem)) (hS : CovS rem S) (hd : o.dst = d) (h : ∀ u W', Mem (post u ++ rem) H0 w W' → GK S W W' → wpS P ops S Q rest (a.put d u) W') : wpS P ops S Q ((i, 3) :: rest) a W :=
 wpS_enter hi hw (run_callV ho hx eg (by rw [← hargs]; simp [h1])) (R := fun u W' => Mem (post u ++ rem) H0 w W' ∧ GK S W W') (hc.mem hm idx hsel hS) (fun _ _ h => h.2) hd fun u W' h1 => h u W' h1.1 h1.2
end
def upG (G : Gv) : Gv := ⟨G.self, G.part, G.epoch, G.dst, G.F, G.seq, G.ticks + 1, G.ends, G.out⟩
theorem GvOk.up {G : Gv} (h : GvOk G) : GvOk (upG G) := ⟨h.fd, h.part, h.may, h.srt, h.seq, h.key, h.len, ⟨h.nn.1, by show 0 ≤ G.ticks + 1; have := h.nn.2; omega⟩, by show G.seq ≤ 4 * (G.ticks + 1); have := h.few; omega, fun o ho => by have := h.at_ o ho; show 0 ≤ o.at_ ∧ o.at_ ≤ G.ticks + 1; omega⟩
theorem la_app {r2 : List At} {m : List At} {W : World} {H : Nat → Prop} (h : (listT (r2 ++ m)).p W H) : ∃ H', (listT m).p W H' := by
 obtain ⟨_, H2, _, h2, _, _⟩ := stars_split h
 exact ⟨H2, h2⟩
theorem la_one {A : At} (W : World) (H : Nat → Prop) (h : (listT ([] ++ [A])).p W H) : ∃ H', A.p W H' := by
 rw [List.nil_append] at h
 exact ⟨H, emp_right h⟩
theorem la_flat {r2 m : List At} {W : World} {H : Nat → Prop} : (listT (r2 ++ [listT m])).p W H ↔ (listT (r2 ++ m)).p W H := ⟨fun h => stars_append (star_mono (fun _ h => h) (fun _ h => emp_right h) (stars_split h)), fun h => stars_append (star_mono (fun _ h => h) (fun _ h => star_comm (starl_emp h)) (stars_split h))⟩
theorem own_app {r2 rs : List At} {A : At} {x : Mx} (h : OwnM (listT (rs ++ [A])) x) : OwnM (listT ((r2 ++ rs) ++ [A])) x := ⟨h.rd.mono fun W H h => la_app (r2 := r2) (by rw [← List.append_assoc]; exact h), h.n⟩
theorem own_flat {r2 rs : List At} {A : At} {x : Mx} (h : OwnM (listT (r2 ++ [listT (rs ++ [A])])) x) : OwnM (listT ((r2 ++ rs) ++ [A])) x := ⟨h.rd.mono fun W H h => ⟨H, la_flat.2 (by rw [← List.append_assoc]; exact h)⟩, h.n⟩
section
variable {L : List At} {H0 : Nat → Prop} {w W : World} {g : Nat} {A B : At} {G : Gv} {u : Value} {l : List Ms} {rs r2 : List At}
theorem Mem.gvMono (hb : ∀ W H, B.p W H → ∃ H', A.p W H') (h : Mem (gvT g A G :: L) H0 w W) : Mem (gvT g B G :: L) H0 w W := by
 obtain ⟨D, c, h1, h2, h3⟩ := Mem.gv h
 exact Mem.toGv h1 (fun x hx => ⟨(h2 x hx).1.mono hb, (h2 x hx).2⟩) h3
theorem Mem.swap3 {A B C : At} (h : Mem (A :: B :: C :: L) H0 w W) : Mem (C :: B :: A :: L) H0 w W := Mem.front (pre := [_, _, _]) h [2, 1, 0] rfl
theorem Mem.gtFlat (h : Mem (gtT g (listT (rs ++ [A])) u G l :: L) H0 w W) : ∃ (r2 : List At) (xs : List Mx) (p : Option Addr) (c : Nat), u = .slice p xs.length c ∧ xs.map (fun x => x.m) = l ∧ (∀ x ∈ xs, OwnM (listT ((r2 ++ rs) ++ [A])) x) ∧ Mem (rowT elemMx (.slice p xs.length c) xs :: gvT g (listT ((r2 ++ rs) ++ [A])) G :: listT ((r2 ++ rs) ++ [A]) :: L) H0 w W := by
 obtain ⟨r2, h⟩ := Mem.gt h
 obtain ⟨xs, p, c, h1, h2, h3, h⟩ := Mem.tells h
 refine ⟨r2, xs, p, c, h1, h2, fun x hx => own_flat (h3 x hx), ?_⟩
 have h4 := (Mem.swap3 h).as (B := listT ((r2 ++ rs) ++ [A])) fun H h => by
  have := la_flat.1 h
  rwa [← List.append_assoc] at this
 have h5 := Mem.gvMono (B := listT ((r2 ++ rs) ++ [A])) (fun W H h => ⟨H, la_flat.2 (by rw [← List.append_assoc]; exact h)⟩) (Mem.swapGv h4)
 exact Mem.front (pre := [_, _, _]) h5 [2, 0, 0] rfl
end
theorem fill_T {G Gf : Gv} {S : Vt} {os : List Ot} (h : fillT G S = (Gf, os)) : fillG S (4 - (agedG G).out.length) (agedG G) = (Gf, os) := by
 rw [show (agedG G).out.length = G.out.length from List.length_map _]
 exact h
theorem fill_few {G : Gv} (h : GvOk G) : (agedG G).seq + ((4 - (agedG G).out.length : Nat) : Int) ≤ 4 * (agedG G).ticks := by
 rw [show (agedG G).out.length = G.out.length from List.length_map _]
 show G.seq + ((4 - G.out.length : Nat) : Int) ≤ 4 * (G.ticks + 1)
 have := h.few
 omega
theorem fill_endM {G Gf : Gv} {S : Vt} {os : List Ot} (h : fillT G S = (Gf, os)) : endM Gf = endM G := by
 have h1 := (fill_same S (4 - G.out.length) (agedG G)).1
 rw [show fillG S (4 - G.out.length) (agedG G) = (Gf, os) from h] at h1
 unfold endM
 rw [h1.self, h1.dst, h1.part, h1.epoch]
 rfl
theorem tell_T {G Gf : Gv} {S : Vt} {os : List Ot} (h : fillT G S = (Gf, os)) : tellL G S = (G.out.filter (oldO (G.ticks + 1))).map (giveM G) ++ os.map (giveM G) := by
 unfold tellL
 rw [h]
theorem len_of {xs : List Mx} {l : List Ms} (h : xs.map (fun x => x.m) = l) : xs.length = l.length := by rw [← h, List.length_map]
set_option maxHeartbeats 4000000 in
set_option maxRecDepth 100000 in
theorem gtick_y (g dv dl : Nat) (A : At) (G : Gv) (hG : GvOk G) (ht : G.ticks < 1000000) (S : Vt) (hS : VtOk S) (hl : S.b.length ≤ 3000) (Gf : Gv) (os : List Ot) (hfT' : fillT G S = (Gf, os)) (hov' : overG Gf S = true) : DoesU Tryz.prog 19 #[.pointer (some ⟨g, 0, none⟩), .pointer (some ⟨dv, 0, none⟩)] [gvT g A G, A, vtT dv dl S] (fun u => [gtT g A u (tickG G S).1 (tickG G S).2, vtT dv dl S]) := by
 intro w H hp
 have HM0 := Lib.hid (mem_refl hp)
 clear hp
 obtain ⟨D, c, hDo', hDr', HM1'⟩ := Mem.gv HM0.out
 clear HM0
 have HM0 := Lib.hid HM1'
 clear HM1'
 have hDo := Lib.hid hDo'
 clear hDo'
 have hDr := Lib.hid hDr'
 clear hDr'
 have hnt := hG.nn.2
 have hGf : Hid (GvOk Gf) := Lib.hid (by have h := hG.filled S; rw [hfT'] at h; exact h)
 have hos : Hid (os.length ≤ 4) := Lib.hid (by have h1 := (hG.filled S).len; have h2 := (fill_same S (4 - G.out.length) (agedG G)).2.1; rw [show fillG S (4 - G.out.length) (agedG G) = (Gf, os) from hfT'] at h2; rw [hfT', h2, List.length_append] at h1; dsimp only at h1; omega)
 have hfT := Lib.hid hfT'
 clear hfT'
 have hov := Lib.hid hov'
 clear hov'
 go_enter Tryz.func19, Tryz.ntmps19
 refine wp_seq (wQ ?_)
 refine wp_seq (wp_seq (wQ ?_))
 refine wp_cond_false rfl (wp_skip (then_normal (wp_seq ?_)))
 obtain ⟨xs, hh', hp', HS1⟩ := Mem.gh (Mem.only (M := [_, _, _, _, _]) HM0.out [0, 0, 0, 0, 0] rfl)
 have hh := Lib.hid hh'
 clear hh'
 have hp := Lib.hid hp'
 clear hp'
 have HM2 := Lib.hid HS1
 clear HS1
 obtain ⟨p, m, HS3⟩ := Mem.gq (Mem.only (M := [_, _, _, _, _]) HM2.out [0, 0, 0, 0, 0] rfl)
 have HM4 := Lib.hid HS3
 clear HS3
 refine wN [(0, 1), (1, 1), (2, 1), (3, 1), (4, 1), (5, 1), (6, 1), (7, 3)] ?_
 have Cbx := Mem.cell HM4.out 0 rfl
 refine wT [0, 1, 2, 3, 4, 5, 6] ?_
 clear Cbx
 refine wYh 7 (.int _ _) [_, _, _, _, _] [.int .i64 G.self, .int .i64 G.part, .int .i64 G.epoch, .int .i64 G.dst, .pointer (some ⟨c, 0, none⟩), .slice p xs.length m, .int .i64 G.seq, .int .i64 (G.ticks + 1), .bool G.ends] HM4 0 fun W6 HM7 => ?_
 refine wZ (wp_seq ?_)
 have HS8 := Mem.toGv (G := upG G) hDo.out hDr.out (Mem.toGh (G := upG G) hh.out hp.out (Mem.toGq (G := upG G) rfl (Mem.only (M := [_, _, _, _, _, _]) HM7.out [0, 0, 0, 0, 0, 0] rfl)))
 have HM9 := Lib.hid HS8
 clear HS8
 have HS10 := Mem.asL (Mem.only (M := [_, _, _]) HM9.out [1, 0, 0] rfl)
 have HM11 := Lib.hid HS10
 clear HS10
 have HS12 := Mem.gvMono (B := listT ([] ++ [A])) (A := A) la_one (Mem.only (M := [_, _, _]) HM11.out [1, 0, 0] rfl)
 have HM13 := Lib.hid HS12
 clear HS12
 have HS14 := Mem.nilRow elemMx (Mem.only (M := [_, _, _]) HM13.out [0, 0, 0] rfl)
 have HM15 := Lib.hid HS14
 clear HS14
 refine wQ ?_
 refine wp_seq (wp_seq (wN [(0, 1), (1, 0), (2, 1), (3, 0), (4, 1), (5, 0), (6, 1), (7, 1)] (wT [0] ?_)))
 refine wpS_func1 (i := 1) (d := some 22) (v := .pointer (some ⟨g, 0, none⟩)) rfl (by rfl) rfl rfl rfl ?_
 simp only [Act.put, List.setIfInBounds_toArray, List.set_cons_succ, List.set_cons_zero]
 refine wT [2] ?_
 refine wpS_func1 (i := 3) (d := some 24) (v := .pointer (some ⟨g, 0, none⟩)) rfl (by rfl) rfl rfl rfl ?_
 simp only [Act.put, List.setIfInBounds_toArray, List.set_cons_succ, List.set_cons_zero]
 refine wT [4] ?_
 refine wpS_func1 (i := 5) (d := some 26) (v := .pointer (some ⟨g, 0, none⟩)) rfl (by rfl) rfl rfl rfl ?_
 simp only [Act.put, List.setIfInBounds_toArray, List.set_cons_succ, List.set_cons_zero]
 refine wT [6, 7] ?_
 refine wZ (wp_block ?_)
 refine wp_loop_rounds 4 ?_
 refine rounds_step ?_
 refine wp_seq (wQ ?_)
 refine wp_seq (wp_cond_true rfl (wp_skip (then_normal (wp_seq (wp_block (wp_seq (wN [(0, 1), (1, 1)] ?_)))))))
 refine wR 0 (v := .func (.func 45) #[.pointer (some ⟨g, 0, none⟩)] #[]) (by kernel_rfl) ?_
 refine wT [1] ?_
 refine wZ (wN [(0, 1), (1, 1), (2, 1), (3, 3), (4, 3), (5, 1)] (wT [0, 1, 2] ?_))
 refine wpS_doesUV1 (i := 3) (d := some 34) (rem := [_, _]) rfl (by rfl) rfl rfl Tryz.call45 (gresend_d g (listT (([] : List At) ++ [A])) (upG G) hG.up (by show G.ticks + 1 ≤ 1000000; omega) (.pointer (some ⟨dv, 0, none⟩))) rfl rfl HM15.out [1, 1] rfl covS_nil rfl ?_
 rintro u18 W17 hm16 -
 obtain ⟨ra, xa, pa, ca, rfl, ham', hao', hm16q⟩ := Mem.gtFlat hm16
 clear hm16
 have ham := Lib.hid ham'
 clear ham'
 have hao := Lib.hid hao'
 clear hao'
 have hal : xa.length ≤ 4 := by rw [len_of ham.out]; exact Nat.le_trans (by rw [List.length_map]; exact List.length_filter_le _ _) hG.len
 have HM19 := Lib.hid hm16q
 clear hm16q
 simp only [Act.put, List.setIfInBounds_toArray, List.set_cons_succ, List.set_cons_zero]
 refine wpS_append (E := elemMx) (i := 4) (d := some 35) (L2 := [_, _, _, _]) rfl (by rfl) rfl HM19.out 3 rfl rfl (HM19.out.src 0 rfl rowT_reads) rfl (by show (0 + _) * 552 ≤ 140737488355328; omega) rfl covS_nil rfl ?_
 rintro u22 W23 hm24 -
 have HM25 := Lib.hid hm24
 clear hm24
 simp only [Act.put, List.setIfInBounds_toArray, List.set_cons_succ, List.set_cons_zero]
 obtain ⟨upa, uca, hup⟩ := row_form (Mem.src HM25.out 0 rfl rowT_reads)
 subst hup
 refine wT [5] ?_
 refine wpS_nil (block_normal (then_normal (wQ ?_)))
 refine rounds_step ?_
 refine wp_seq (wQ ?_)
 refine wp_seq (wp_cond_true rfl (wp_skip (then_normal (wp_seq (wp_block (wp_seq (wN [(0, 1), (1, 1)] ?_)))))))
 refine wR 0 (v := .func (.func 46) #[.pointer (some ⟨g, 0, none⟩)] #[]) (by kernel_rfl) ?_
 refine wT [1] ?_
 refine wZ (wN [(0, 1), (1, 1), (2, 1), (3, 3), (4, 3), (5, 1)] (wT [0, 1, 2] ?_))
 refine wpS_doesUV1 (i := 3) (d := some 34) (rem := [_, _]) rfl (by rfl) rfl rfl Tryz.call46 (gnext_d g dv dl (listT ((ra ++ []) ++ [A])) (agedG G) hG.aged (by show G.ticks + 1 ≤ 1000000; omega) (fill_few hG) S hS hl Gf os (fill_T hfT.out)) rfl rfl HM25.out [2, 2, 2] rfl covS_nil rfl ?_
 rintro u28 W27 hm26 -
 obtain ⟨rb, xb, pb, cb, rfl, hbm', hbo', hm26q⟩ := Mem.gtFlat hm26
 clear hm26
 have hbm := Lib.hid hbm'
 clear hbm'
 have hbo := Lib.hid hbo'
 clear hbo'
 have hbl : xb.length ≤ 4 := by rw [len_of hbm.out]; exact by rw [List.length_map]; exact hos.out
 have HM29 := Lib.hid hm26q
 clear hm26q
 simp only [Act.put, List.setIfInBounds_toArray, List.set_cons_succ, List.set_cons_zero]
 refine wpS_append (E := elemMx) (i := 4) (d := some 35) (L2 := [_, _, _, _, _]) rfl (by rfl) rfl HM29.out 4 rfl rfl (HM29.out.src 0 rfl rowT_reads) rfl (by rw [List.nil_append]; show _ * 552 ≤ 140737488355328; omega) rfl covS_nil rfl ?_
 rintro u32 W33 hm34 -
 have HM35 := Lib.hid hm34
 clear hm34
 simp only [Act.put, List.setIfInBounds_toArray, List.set_cons_succ, List.set_cons_zero]
 obtain ⟨upb, ucb, hup⟩ := row_form (Mem.src HM35.out 0 rfl rowT_reads)
 subst hup
 refine wT [5] ?_
 refine wpS_nil (block_normal (then_normal (wQ ?_)))
 refine rounds_step ?_
 refine wp_seq (wQ ?_)
 refine wp_seq (wp_cond_true rfl (wp_skip (then_normal (wp_seq (wp_block (wp_seq (wN [(0, 1), (1, 1)] ?_)))))))
 refine wR 0 (v := .func (.func 47) #[.pointer (some ⟨g, 0, none⟩)] #[]) (by kernel_rfl) ?_
 refine wT [1] ?_
 refine wZ (wN [(0, 1), (1, 1), (2, 1), (3, 3), (4, 3), (5, 1)] (wT [0, 1, 2] ?_))
 refine wpS_doesUV1 (i := 3) (d := some 34) (rem := [_, _, _]) rfl (by rfl) rfl rfl Tryz.call47 (gend_y g dv dl (listT ((rb ++ (ra ++ [])) ++ [A])) Gf hGf.out S hS hl hov.out) rfl rfl HM35.out [2, 2, 2] rfl covS_nil rfl ?_
 rintro u38 W37 hm36 -
 obtain ⟨rc, xc, pc, cc, rfl, hcm', hco', hm36q⟩ := Mem.gtFlat hm36
 clear hm36
 have hcm := Lib.hid hcm'
 clear hcm'
 have hco := Lib.hid hco'
 clear hco'
 have hcl : xc.length ≤ 4 := by rw [len_of hcm.out]; exact (by decide : 1 ≤ 4)
 have HM39 := Lib.hid hm36q
 clear hm36q
 simp only [Act.put, List.setIfInBounds_toArray, List.set_cons_succ, List.set_cons_zero]
 refine wpS_append (E := elemMx) (i := 4) (d := some 35) (L2 := [_, _, _, _, _, _]) rfl (by rfl) rfl HM39.out 4 rfl rfl (HM39.out.src 0 rfl rowT_reads) rfl (by rw [List.nil_append, List.length_append]; show _ * 552 ≤ 140737488355328; omega) rfl covS_nil rfl ?_
 rintro u42 W43 hm44 -
 have HM45 := Lib.hid hm44
 clear hm44
 simp only [Act.put, List.setIfInBounds_toArray, List.set_cons_succ, List.set_cons_zero]
 obtain ⟨upc, ucc, hup⟩ := row_form (Mem.src HM45.out 0 rfl rowT_reads)
 subst hup
 refine wT [5] ?_
 refine wpS_nil (block_normal (then_normal (wQ ?_)))
 refine rounds_step ?_
 refine wp_seq (wQ ?_)
 refine wp_seq (wp_cond_false rfl (wp_exit ?_))
 refine then_exit (then_exit (block_exit ?_))
 refine then_normal (wp_seq (wQ ?_))
 refine wp_ret (bodyPost_ret (results_tmp rfl _ _ _) rfl ?_)
 rw [show tickG G S = (endsG Gf, tellL G S ++ [endM G]) from by have h := tick_end (G := G) (S := S) (by rw [hfT.out]; exact hov.out); rw [hfT.out] at h; exact h]
 exact doesU_ret (post := fun u => [gtT g A u (endsG Gf) (tellL G S ++ [endM G]), vtT dv dl S]) (Mem.toGt (rs := (rc ++ (rb ++ (ra ++ [])))) (xs := [] ++ xa ++ xb ++ xc) (by rw [List.nil_append, List.map_append, List.map_append, ham.out, hbm.out, hcm.out, tell_T hfT.out, fill_endM hfT.out]; rfl) (fun x hx => (List.mem_append.1 hx).elim (fun hx => (List.mem_append.1 hx).elim (fun hx => own_app (own_app (hao.out x hx))) (fun hx => own_app (hbo.out x hx))) (fun hx => hco.out x hx)) (Mem.only (M := [_, _, _, _]) HM45.out [2, 0, 1, 1] rfl)) rfl
set_option maxHeartbeats 4000000 in
set_option maxRecDepth 100000 in
theorem gtick_n (g dv dl : Nat) (A : At) (G : Gv) (hG : GvOk G) (ht : G.ticks < 1000000) (S : Vt) (hS : VtOk S) (hl : S.b.length ≤ 3000) (Gf : Gv) (os : List Ot) (hfT' : fillT G S = (Gf, os)) (hov' : overG Gf S = false) : DoesU Tryz.prog 19 #[.pointer (some ⟨g, 0, none⟩), .pointer (some ⟨dv, 0, none⟩)] [gvT g A G, A, vtT dv dl S] (fun u => [gtT g A u (tickG G S).1 (tickG G S).2, vtT dv dl S]) := by
 intro w H hp
 have HM0 := Lib.hid (mem_refl hp)
 clear hp
 obtain ⟨D, c, hDo', hDr', HM1'⟩ := Mem.gv HM0.out
 clear HM0
 have HM0 := Lib.hid HM1'
 clear HM1'
 have hDo := Lib.hid hDo'
 clear hDo'
 have hDr := Lib.hid hDr'
 clear hDr'
 have hnt := hG.nn.2
 have hGf : Hid (GvOk Gf) := Lib.hid (by have h := hG.filled S; rw [hfT'] at h; exact h)
 have hos : Hid (os.length ≤ 4) := Lib.hid (by have h1 := (hG.filled S).len; have h2 := (fill_same S (4 - G.out.length) (agedG G)).2.1; rw [show fillG S (4 - G.out.length) (agedG G) = (Gf, os) from hfT'] at h2; rw [hfT', h2, List.length_append] at h1; dsimp only at h1; omega)
 have hfT := Lib.hid hfT'
 clear hfT'
 have hov := Lib.hid hov'
 clear hov'
 go_enter Tryz.func19, Tryz.ntmps19
 refine wp_seq (wQ ?_)
 refine wp_seq (wp_seq (wQ ?_))
 refine wp_cond_false rfl (wp_skip (then_normal (wp_seq ?_)))
 obtain ⟨xs, hh', hp', HS1⟩ := Mem.gh (Mem.only (M := [_, _, _, _, _]) HM0.out [0, 0, 0, 0, 0] rfl)
 have hh := Lib.hid hh'
 clear hh'
 have hp := Lib.hid hp'
 clear hp'
 have HM2 := Lib.hid HS1
 clear HS1
 obtain ⟨p, m, HS3⟩ := Mem.gq (Mem.only (M := [_, _, _, _, _]) HM2.out [0, 0, 0, 0, 0] rfl)
 have HM4 := Lib.hid HS3
 clear HS3
 refine wN [(0, 1), (1, 1), (2, 1), (3, 1), (4, 1), (5, 1), (6, 1), (7, 3)] ?_
 have Cbx := Mem.cell HM4.out 0 rfl
 refine wT [0, 1, 2, 3, 4, 5, 6] ?_
 clear Cbx
 refine wYh 7 (.int _ _) [_, _, _, _, _] [.int .i64 G.self, .int .i64 G.part, .int .i64 G.epoch, .int .i64 G.dst, .pointer (some ⟨c, 0, none⟩), .slice p xs.length m, .int .i64 G.seq, .int .i64 (G.ticks + 1), .bool G.ends] HM4 0 fun W6 HM7 => ?_
 refine wZ (wp_seq ?_)
 have HS8 := Mem.toGv (G := upG G) hDo.out hDr.out (Mem.toGh (G := upG G) hh.out hp.out (Mem.toGq (G := upG G) rfl (Mem.only (M := [_, _, _, _, _, _]) HM7.out [0, 0, 0, 0, 0, 0] rfl)))
 have HM9 := Lib.hid HS8
 clear HS8
 have HS10 := Mem.asL (Mem.only (M := [_, _, _]) HM9.out [1, 0, 0] rfl)
 have HM11 := Lib.hid HS10
 clear HS10
 have HS12 := Mem.gvMono (B := listT ([] ++ [A])) (A := A) la_one (Mem.only (M := [_, _, _]) HM11.out [1, 0, 0] rfl)
 have HM13 := Lib.hid HS12
 clear HS12
 have HS14 := Mem.nilRow elemMx (Mem.only (M := [_, _, _]) HM13.out [0, 0, 0] rfl)
 have HM15 := Lib.hid HS14
 clear HS14
 refine wQ ?_
 refine wp_seq (wp_seq (wN [(0, 1), (1, 0), (2, 1), (3, 0), (4, 1), (5, 0), (6, 1), (7, 1)] (wT [0] ?_)))
 refine wpS_func1 (i := 1) (d := some 22) (v := .pointer (some ⟨g, 0, none⟩)) rfl (by rfl) rfl rfl rfl ?_
 simp only [Act.put, List.setIfInBounds_toArray, List.set_cons_succ, List.set_cons_zero]
 refine wT [2] ?_
 refine wpS_func1 (i := 3) (d := some 24) (v := .pointer (some ⟨g, 0, none⟩)) rfl (by rfl) rfl rfl rfl ?_
 simp only [Act.put, List.setIfInBounds_toArray, List.set_cons_succ, List.set_cons_zero]
 refine wT [4] ?_
 refine wpS_func1 (i := 5) (d := some 26) (v := .pointer (some ⟨g, 0, none⟩)) rfl (by rfl) rfl rfl rfl ?_
 simp only [Act.put, List.setIfInBounds_toArray, List.set_cons_succ, List.set_cons_zero]
 refine wT [6, 7] ?_
 refine wZ (wp_block ?_)
 refine wp_loop_rounds 4 ?_
 refine rounds_step ?_
 refine wp_seq (wQ ?_)
 refine wp_seq (wp_cond_true rfl (wp_skip (then_normal (wp_seq (wp_block (wp_seq (wN [(0, 1), (1, 1)] ?_)))))))
 refine wR 0 (v := .func (.func 45) #[.pointer (some ⟨g, 0, none⟩)] #[]) (by kernel_rfl) ?_
 refine wT [1] ?_
 refine wZ (wN [(0, 1), (1, 1), (2, 1), (3, 3), (4, 3), (5, 1)] (wT [0, 1, 2] ?_))
 refine wpS_doesUV1 (i := 3) (d := some 34) (rem := [_, _]) rfl (by rfl) rfl rfl Tryz.call45 (gresend_d g (listT (([] : List At) ++ [A])) (upG G) hG.up (by show G.ticks + 1 ≤ 1000000; omega) (.pointer (some ⟨dv, 0, none⟩))) rfl rfl HM15.out [1, 1] rfl covS_nil rfl ?_
 rintro u18 W17 hm16 -
 obtain ⟨ra, xa, pa, ca, rfl, ham', hao', hm16q⟩ := Mem.gtFlat hm16
 clear hm16
 have ham := Lib.hid ham'
 clear ham'
 have hao := Lib.hid hao'
 clear hao'
 have hal : xa.length ≤ 4 := by rw [len_of ham.out]; exact Nat.le_trans (by rw [List.length_map]; exact List.length_filter_le _ _) hG.len
 have HM19 := Lib.hid hm16q
 clear hm16q
 simp only [Act.put, List.setIfInBounds_toArray, List.set_cons_succ, List.set_cons_zero]
 refine wpS_append (E := elemMx) (i := 4) (d := some 35) (L2 := [_, _, _, _]) rfl (by rfl) rfl HM19.out 3 rfl rfl (HM19.out.src 0 rfl rowT_reads) rfl (by show (0 + _) * 552 ≤ 140737488355328; omega) rfl covS_nil rfl ?_
 rintro u22 W23 hm24 -
 have HM25 := Lib.hid hm24
 clear hm24
 simp only [Act.put, List.setIfInBounds_toArray, List.set_cons_succ, List.set_cons_zero]
 obtain ⟨upa, uca, hup⟩ := row_form (Mem.src HM25.out 0 rfl rowT_reads)
 subst hup
 refine wT [5] ?_
 refine wpS_nil (block_normal (then_normal (wQ ?_)))
 refine rounds_step ?_
 refine wp_seq (wQ ?_)
 refine wp_seq (wp_cond_true rfl (wp_skip (then_normal (wp_seq (wp_block (wp_seq (wN [(0, 1), (1, 1)] ?_)))))))
 refine wR 0 (v := .func (.func 46) #[.pointer (some ⟨g, 0, none⟩)] #[]) (by kernel_rfl) ?_
 refine wT [1] ?_
 refine wZ (wN [(0, 1), (1, 1), (2, 1), (3, 3), (4, 3), (5, 1)] (wT [0, 1, 2] ?_))
 refine wpS_doesUV1 (i := 3) (d := some 34) (rem := [_, _]) rfl (by rfl) rfl rfl Tryz.call46 (gnext_d g dv dl (listT ((ra ++ []) ++ [A])) (agedG G) hG.aged (by show G.ticks + 1 ≤ 1000000; omega) (fill_few hG) S hS hl Gf os (fill_T hfT.out)) rfl rfl HM25.out [2, 2, 2] rfl covS_nil rfl ?_
 rintro u28 W27 hm26 -
 obtain ⟨rb, xb, pb, cb, rfl, hbm', hbo', hm26q⟩ := Mem.gtFlat hm26
 clear hm26
 have hbm := Lib.hid hbm'
 clear hbm'
 have hbo := Lib.hid hbo'
 clear hbo'
 have hbl : xb.length ≤ 4 := by rw [len_of hbm.out]; exact by rw [List.length_map]; exact hos.out
 have HM29 := Lib.hid hm26q
 clear hm26q
 simp only [Act.put, List.setIfInBounds_toArray, List.set_cons_succ, List.set_cons_zero]
 refine wpS_append (E := elemMx) (i := 4) (d := some 35) (L2 := [_, _, _, _, _]) rfl (by rfl) rfl HM29.out 4 rfl rfl (HM29.out.src 0 rfl rowT_reads) rfl (by rw [List.nil_append]; show _ * 552 ≤ 140737488355328; omega) rfl covS_nil rfl ?_
 rintro u32 W33 hm34 -
 have HM35 := Lib.hid hm34
 clear hm34
 simp only [Act.put, List.setIfInBounds_toArray, List.set_cons_succ, List.set_cons_zero]
 obtain ⟨upb, ucb, hup⟩ := row_form (Mem.src HM35.out 0 rfl rowT_reads)
 subst hup
 refine wT [5] ?_
 refine wpS_nil (block_normal (then_normal (wQ ?_)))
 refine rounds_step ?_
 refine wp_seq (wQ ?_)
 refine wp_seq (wp_cond_true rfl (wp_skip (then_normal (wp_seq (wp_block (wp_seq (wN [(0, 1), (1, 1)] ?_)))))))
 refine wR 0 (v := .func (.func 47) #[.pointer (some ⟨g, 0, none⟩)] #[]) (by kernel_rfl) ?_
 refine wT [1] ?_
 refine wZ (wN [(0, 1), (1, 1), (2, 1), (3, 3), (4, 3), (5, 1)] (wT [0, 1, 2] ?_))
 refine wpS_doesUV1 (i := 3) (d := some 34) (rem := [_, _, _]) rfl (by rfl) rfl rfl Tryz.call47 (gend_n g dv dl (listT ((rb ++ (ra ++ [])) ++ [A])) Gf hGf.out S hS hl hov.out) rfl rfl HM35.out [2, 2, 2] rfl covS_nil rfl ?_
 rintro u38 W37 hm36 -
 obtain ⟨rc, xc, pc, cc, rfl, hcm', hco', hm36q⟩ := Mem.gtFlat hm36
 clear hm36
 have hcm := Lib.hid hcm'
 clear hcm'
 have hco := Lib.hid hco'
 clear hco'
 have hcl : xc.length ≤ 4 := by rw [len_of hcm.out]; exact Nat.zero_le _
 have HM39 := Lib.hid hm36q
 clear hm36q
 simp only [Act.put, List.setIfInBounds_toArray, List.set_cons_succ, List.set_cons_zero]
 refine wpS_append (E := elemMx) (i := 4) (d := some 35) (L2 := [_, _, _, _, _, _]) rfl (by rfl) rfl HM39.out 4 rfl rfl (HM39.out.src 0 rfl rowT_reads) rfl (by rw [List.nil_append, List.length_append]; show _ * 552 ≤ 140737488355328; omega) rfl covS_nil rfl ?_
 rintro u42 W43 hm44 -
 have HM45 := Lib.hid hm44
 clear hm44
 simp only [Act.put, List.setIfInBounds_toArray, List.set_cons_succ, List.set_cons_zero]
 obtain ⟨upc, ucc, hup⟩ := row_form (Mem.src HM45.out 0 rfl rowT_reads)
 subst hup
 refine wT [5] ?_
 refine wpS_nil (block_normal (then_normal (wQ ?_)))
 refine rounds_step ?_
 refine wp_seq (wQ ?_)
 refine wp_seq (wp_cond_false rfl (wp_exit ?_))
 refine then_exit (then_exit (block_exit ?_))
 refine then_normal (wp_seq (wQ ?_))
 refine wp_ret (bodyPost_ret (results_tmp rfl _ _ _) rfl ?_)
 rw [show tickG G S = (Gf, tellL G S) from by have h := tick_go (G := G) (S := S) (by rw [hfT.out]; exact hov.out); rw [hfT.out] at h; exact h]
 exact doesU_ret (post := fun u => [gtT g A u Gf (tellL G S), vtT dv dl S]) (Mem.toGt (rs := (rc ++ (rb ++ (ra ++ [])))) (xs := [] ++ xa ++ xb ++ xc) (by rw [List.nil_append, List.map_append, List.map_append, ham.out, hbm.out, hcm.out, tell_T hfT.out]; exact List.append_nil _) (fun x hx => (List.mem_append.1 hx).elim (fun hx => (List.mem_append.1 hx).elim (fun hx => own_app (own_app (hao.out x hx))) (fun hx => own_app (hbo.out x hx))) (fun hx => hco.out x hx)) (Mem.only (M := [_, _, _, _]) HM45.out [2, 0, 1, 1] rfl)) rfl
theorem gtick_d (g dv dl : Nat) (A : At) (G : Gv) (hG : GvOk G) (ht : G.ticks < 1000000) (S : Vt) (hS : VtOk S) (hl : S.b.length ≤ 3000) : DoesU Tryz.prog 19 #[.pointer (some ⟨g, 0, none⟩), .pointer (some ⟨dv, 0, none⟩)] [gvT g A G, A, vtT dv dl S] (fun u => [gtT g A u (tickG G S).1 (tickG G S).2, vtT dv dl S]) := by
 obtain ⟨Gf, os, hf⟩ : ∃ Gf os, fillT G S = (Gf, os) := ⟨_, _, rfl⟩
 cases ho : overG Gf S with
 | true => exact gtick_y g dv dl A G hG ht S hS hl Gf os hf ho
 | false => exact gtick_n g dv dl A G hG ht S hS hl Gf os hf ho
end Go.Proofs.YtcchkkdbagpgjaaGreat
