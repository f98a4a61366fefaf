/- Deeds as values: their cells, who reads their rows. -/
import Derived.Test.YtnahhbpaijfpbaaLgM
import Derived.Test.YtnahhbpaijfpbaaRgV
import Derived.Test.YtnahhbpaijfpbaaBgV
namespace Go.Proofs.Ytnahhbpaijfpbaa
open Go Go.RowKit Go.BigFrame

/-- A deed's cells: the slices of its bag's values and of its ring's targets are given. -/
def ddC (d : Dd) (sv sr : Value) : List Value := [.int .i64 d.kind, .int .i64 d.n, .string d.key] ++ (bgC d.b.k sv ++ (rgC d.r sr ++ [.int .i64 d.part]))
abbrev ddV (d : Dd) (sv sr : Value) : Value := .agg (ddC d sv sr).toArray
section
variable {d : Dd} {sv sr : Value}
theorem ddC_len : (ddC d sv sr).length = 56 := by kernel_rfl
theorem ddC_all : ∀ k u, (ddC d sv sr)[k]? = some u → (ddC d sv sr)[0 + k]? = some u := fun k u h => by rwa [Nat.zero_add]
theorem ddC_bag : ∀ k u, (bgC d.b.k sv)[k]? = some u → (ddC d sv sr)[3 + k]? = some u := fun _ _ h => sub_app [_, _, _] _ _ h
theorem ddC_ring : ∀ k u, (rgC d.r sr)[k]? = some u → (ddC d sv sr)[12 + k]? = some u := fun k u h => by
  have h1 := sub_app ([Value.int .i64 d.kind, .int .i64 d.n, .string d.key] ++ bgC d.b.k sv) (rgC d.r sr) [.int .i64 d.part] h
  rw [List.append_assoc] at h1
  exact h1
theorem ddC_part : (ddC d sv sr)[55]? = some (.int .i64 d.part) := by kernel_rfl
theorem ddC_vals : (ddC d sv sr)[11]? = some sv := by kernel_rfl
theorem ddC_tgts : (ddC d sv sr)[22]? = some sr := by kernel_rfl
theorem ddC_setKind (z : Int) : putL (ddC d sv sr) 0 [.int .i64 z] = ddC ⟨z, d.n, d.key, d.b, d.r, d.part⟩ sv sr := by kernel_rfl
theorem ddC_setN (z : Int) : putL (ddC d sv sr) 1 [.int .i64 z] = ddC ⟨d.kind, z, d.key, d.b, d.r, d.part⟩ sv sr := by kernel_rfl
theorem ddC_setKey (s : ByteArray) : putL (ddC d sv sr) 2 [.string s] = ddC ⟨d.kind, d.n, s, d.b, d.r, d.part⟩ sv sr := by kernel_rfl
theorem ddC_setBag (x : Bg) (s : Value) : putL (ddC d sv sr) 3 (bgC x.k s) = ddC ⟨d.kind, d.n, d.key, x, d.r, d.part⟩ s sr := by kernel_rfl
theorem ddC_setRing (x : Rg) (s : Value) : putL (ddC d sv sr) 12 (rgC x s) = ddC ⟨d.kind, d.n, d.key, d.b, x, d.part⟩ sv s := by kernel_rfl
theorem ddC_setPart (z : Int) : putL (ddC d sv sr) 55 [.int .i64 z] = ddC ⟨d.kind, d.n, d.key, d.b, d.r, z⟩ sv sr := by kernel_rfl
theorem ddC_setVals (s : Value) : putL (ddC d sv sr) 11 [s] = ddC d s sr := by kernel_rfl
theorem ddC_setTgts (s : Value) : putL (ddC d sv sr) 22 [s] = ddC d sv s := by kernel_rfl
theorem ddC_one (p q : Option Addr) (n m c e : Nat) : ((ddC d (.slice p n c) (.slice q m e)).all Value.oneCell') = true := by kernel_rfl
end
/-- R reads a deed's rows. -/
structure DdR (R : At) (d : Dd) (sv sr : Value) : Prop where
  v : Reads elemV R sv d.b.v
  lv : d.b.v.length ≤ 4398046510976
  r : Reads elemI R sr d.r.p.2.2
  lr : d.r.p.2.2.length ≤ 1000
/-- A deed with its slices. -/
structure Dx where
  d : Dd
  vp : Option Addr
  vn : Nat
  vc : Nat
  rp : Option Addr
  rn : Nat
  rc : Nat
def Dx.sv (x : Dx) : Value := .slice x.vp x.vn x.vc
def Dx.sr (x : Dx) : Value := .slice x.rp x.rn x.rc
instance : Inhabited Dx := ⟨⟨noD, none, 0, 0, none, 0, 0⟩⟩
def Dx.enc (x : Dx) : List Value := ddC x.d (.slice x.vp x.vn x.vc) (.slice x.rp x.rn x.rc)
def elemDx : Elem Try.prog Dx where
  enc := Dx.enc
  k := 56
  pos := by decide
  len _ := rfl
  one x u hu := List.all_eq_true.1 (show x.enc.all Value.oneCell' = true by kernel_rfl) u hu
  t := 43
  sl := 52
  under := Try.underlying52
  z := .agg (default : Dx).enc.toArray
  bytes := 488
  bpos := by decide
  info := by kernel_rfl
  zs := by kernel_rfl
/-- R reads the rows of each of them. -/
def DxR (R : At) (x : Dx) : Prop := DdR R x.d x.sv x.sr
end Go.Proofs.Ytnahhbpaijfpbaa
