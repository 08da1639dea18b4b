/-
  How a module that came in is read.
-/
import Derived.Test.YthdpgachdegcgaaRows
import Derived.Test.YthdpgachdegcgaaMoArr
import Derived.WalkKit
import Derived.ProofKit
import Derived.OpenShut
import Derived.ShutString
import Derived.ChangeOld
import Derived.Below
import Derived.Lib.SmallJoins
import Derived.SizedLaws
namespace Go.Proofs.Ythdpgachdegcgaa
open Go.ChangeShapes Go.WideShapes Go.ChangeAt Go.RowKit Go.Deep
set_option linter.unusedVariables false
set_option maxRecDepth 100000

theorem own : ownKnob Try.prog.godebug = none := by kernel_rfl
theorem laidOut : laidOutB Try.prog = true := by kernel_rfl
theorem cellsType : Try.prog.cellsOf 82 = 1 := by kernel_rfl
theorem cellsInt : Try.prog.cellsOf 3 = 1 := by kernel_rfl
theorem cellsI64 : Try.prog.cellsOf 2 = 1 := by kernel_rfl
theorem cellsIns : Try.prog.cellsOf 37 = 2 := by kernel_rfl
theorem cellsCl : Try.prog.cellsOf 89 = 2 := by kernel_rfl
theorem cellsTb : Try.prog.cellsOf 87 = 2 := by kernel_rfl
theorem cellsAc : Try.prog.cellsOf 42 = 5 := by kernel_rfl
theorem cellsMo : Try.prog.cellsOf 25 = 1 := by kernel_rfl
theorem cellsTys : Try.prog.cellsOf 38 = 1 := by kernel_rfl
theorem cellsInss : Try.prog.cellsOf 39 = 1 := by kernel_rfl
theorem cellsCls : Try.prog.cellsOf 85 = 1 := by kernel_rfl
theorem cellsTbs : Try.prog.cellsOf 40 = 1 := by kernel_rfl
theorem cellsAcs : Try.prog.cellsOf 23 = 1 := by kernel_rfl

theorem i64_bounds {a : Int} (h : (Lit.int .i64 a).wf = true) : -9223372036854775808 ≤ a ∧ a ≤ 9223372036854775807 := by
  simpa [Lit.wf, IntKind.min, IntKind.max, IntKind.signed, IntKind.bits] using h

instance : Inhabited Ac := ⟨⟨[], [], [], [], []⟩⟩

section
variable {H : Type} {enc : TypeId × Value → H} {W : World} {sp : Nat → Bool} {held : Bool}

theorem arr_of {α : Type} [Inhabited α] {PV : World → List Value → α → Prop} {sz : Nat} {t e : TypeId} (ht : Try.prog.underlying t = some (.slice e)) (hc : Try.prog.cellsOf e = sz) (hpos : 0 < sz)
    (each : ∀ fuel cs x, DataW.trod enc Try.prog W 0 sp held fuel e cs = some x → cs.length = sz → ∃ y : α, PV W cs y) {fuel : Nat} {cs : List Value} {x : DataW H × List MemPlace}
    (h : DataW.trod enc Try.prog W 0 sp held fuel t cs = some x) : ∃ a n c l, cs = [.slice a n c] ∧ (n ≤ c ∧ c ≤ 9223372036854775807) ∧ Arr PV sz 0 W.heap.size W a n l := by
  rcases open_slice ht h with ⟨hcs, _⟩ | ⟨ad, len, cap, m, n, D, Pl, hcs, hb, hl, hm, hmm, hx, hel⟩
  · exact ⟨none, 0, 0, [], hcs, ⟨by omega, by omega⟩, Arr.nil _ _ _ _ _ _⟩
  · have hlm : len ≤ m := by rw [hmm]; split <;> omega
    unfold maxLen at hm
    refine ⟨some ad, len, cap, ?_⟩
    have each' : ∀ i, i < len → ∃ y : α, ∃ cs', (∀ j v, cs'[j]? = some v → W.cell? (ad.add (i * sz + j)) = some v) ∧ cs'.length = sz ∧ PV W cs' y := by
      intro i hi
      obtain ⟨cs', h1, h2⟩ := hel i (by omega)
      rw [hc] at h1
      obtain ⟨_, hlen, hcell⟩ := World.cells?_some h1
      obtain ⟨y, hy⟩ := each _ _ _ h2 hlen
      refine ⟨y, cs', fun j v hj => ?_, hlen, hy⟩
      have hjl := (List.getElem?_eq_some_iff.1 hj).1
      have := hcell j (by omega)
      rw [Addr.add_add] at this
      rw [this]; exact hj
    obtain ⟨Y, hY⟩ := choose_lt each'
    refine ⟨(List.range len).map Y, hcs, ⟨hl, by omega⟩, by simp, by omega, ?_⟩
    by_cases h0 : len = 0
    · exact .inl h0
    · right
      obtain ⟨cs0, g1, g2, _⟩ := hY 0 (by omega)
      obtain ⟨b, off, spot⟩ := ad
      have hc0 := g1 0 (cs0[0]'(by omega)) (List.getElem?_eq_getElem (by omega))
      have hspot : spot = none := by simpa [Addr.add] using World.cell?_spot hc0
      subst hspot
      have ea : ∀ j, (⟨b, off, none⟩ : Addr).add j = ⟨b, off + j, none⟩ := fun j => by unfold Addr.add; split <;> simp_all
      refine ⟨b, off, rfl, Nat.zero_le _, World.block_lt_of_cell? W _ (by rw [ea] at hc0; exact hc0), fun i y hy => ?_⟩
      have hi : i < len := by have := (List.getElem?_eq_some_iff.1 hy).1; simpa using this
      rw [List.getElem?_map, List.getElem?_range hi] at hy
      simp only [Option.map_some, Option.some.injEq] at hy
      subst hy
      obtain ⟨cs', g1, g2, g3⟩ := hY i hi
      exact ⟨cs', fun j v hj => by have := g1 j v hj; rw [ea, ← Nat.add_assoc] at this; exact this, g3⟩

theorem tys_of {fuel : Nat} {cs : List Value} {x : DataW H × List MemPlace} (h : DataW.trod enc Try.prog W 0 sp held fuel 38 cs = some x) : ∃ a n c l, cs = [.slice a n c] ∧ (n ≤ c ∧ c ≤ 9223372036854775807) ∧ TyA 0 W.heap.size W a n l :=
  arr_of Try.underlying38 cellsType (by omega) (fun fuel cs x h _ => by
    obtain ⟨k, rfl, _, hw⟩ := DataW.trod_int Try.underlying82 h
    exact ⟨k, rfl, i64_bounds hw⟩) h

theorem inss_of {fuel : Nat} {cs : List Value} {x : DataW H × List MemPlace} (h : DataW.trod enc Try.prog W 0 sp held fuel 39 cs = some x) : ∃ a n c l, cs = [.slice a n c] ∧ (n ≤ c ∧ c ≤ 9223372036854775807) ∧ PrA 0 W.heap.size W a n l :=
  arr_of Try.underlying39 cellsIns (by omega) (fun fuel cs x h hl => by
    obtain ⟨y0, y1, n, _, _, g0, g1⟩ := trod_struct2 Try.underlying37 h
    match cs, hl with
    | [v0, v1], _ =>
      simp only [cellsInt, cellsI64] at g0 g1
      simp at g0 g1
      obtain ⟨K, e0, _, w0⟩ := DataW.trod_int Try.underlying3 g0
      obtain ⟨L, e1, _, w1⟩ := DataW.trod_int Try.underlying2 g1
      simp at e0 e1
      subst e0 e1
      exact ⟨(K, L), rfl, i64_bounds w0, i64_bounds w1⟩) h

theorem cls_of {fuel : Nat} {cs : List Value} {x : DataW H × List MemPlace} (h : DataW.trod enc Try.prog W 0 sp held fuel 85 cs = some x) : ∃ a n c l, cs = [.slice a n c] ∧ (n ≤ c ∧ c ≤ 9223372036854775807) ∧ PrA 0 W.heap.size W a n l :=
  arr_of Try.underlying85 cellsCl (by omega) (fun fuel cs x h hl => by
    obtain ⟨y0, y1, n, _, _, g0, g1⟩ := trod_struct2 Try.underlying89 h
    match cs, hl with
    | [v0, v1], _ =>
      simp only [cellsInt] at g0 g1
      simp at g0 g1
      obtain ⟨K, e0, _, w0⟩ := DataW.trod_int Try.underlying3 g0
      obtain ⟨L, e1, _, w1⟩ := DataW.trod_int Try.underlying3 g1
      simp at e0 e1
      subst e0 e1
      exact ⟨(K, L), rfl, i64_bounds w0, i64_bounds w1⟩) h

theorem tbs_of {fuel : Nat} {cs : List Value} {x : DataW H × List MemPlace} (h : DataW.trod enc Try.prog W 0 sp held fuel 40 cs = some x) : ∃ a n c l, cs = [.slice a n c] ∧ (n ≤ c ∧ c ≤ 9223372036854775807) ∧ TbA 0 W.heap.size W a n l :=
  arr_of Try.underlying40 cellsTb (by omega) (fun fuel cs x h hl => by
    obtain ⟨y0, y1, n, _, _, g0, g1⟩ := trod_struct2 Try.underlying87 h
    match cs, hl with
    | [v0, v1], _ =>
      simp only [cellsInt, cellsCls] at g0 g1
      simp at g0 g1
      obtain ⟨a, n, c, l, e0, _, hA⟩ := cls_of g0
      obtain ⟨L, e1, _, w1⟩ := DataW.trod_int Try.underlying3 g1
      simp at e0 e1
      subst e0 e1
      exact ⟨(l, L), a, n, c, rfl, hA, i64_bounds w1⟩) h

def s5 (x0 x1 x2 x3 x4 : Option Addr × Nat × Nat) : Fin 5 → Option Addr × Nat × Nat
  | 0 => x0
  | 1 => x1
  | 2 => x2
  | 3 => x3
  | 4 => x4

theorem acs_of {fuel : Nat} {cs : List Value} {x : DataW H × List MemPlace} (h : DataW.trod enc Try.prog W 0 sp held fuel 23 cs = some x) : ∃ a n c l, cs = [.slice a n c] ∧ (n ≤ c ∧ c ≤ 9223372036854775807) ∧ AcA 0 W.heap.size W a n l :=
  arr_of Try.underlying23 cellsAc (by omega) (fun fuel cs x h hl => by
    obtain ⟨xs, n, _, _, _, hlen, hf⟩ := DataW.trod_struct Try.underlying42 h
    have hlen' : xs.length = 5 := hlen
    match cs, hl, xs, hlen' with
    | [v0, v1, v2, v3, v4], _, [y0, y1, y2, y3, y4], _ =>
      have g0 : DataW.trod enc Try.prog W 0 sp held n 38 [v0] = some y0 := hf 0 _ rfl
      have g1 : DataW.trod enc Try.prog W 0 sp held n 38 [v1] = some y1 := hf 1 _ rfl
      have g2 : DataW.trod enc Try.prog W 0 sp held n 38 [v2] = some y2 := hf 2 _ rfl
      have g3 : DataW.trod enc Try.prog W 0 sp held n 39 [v3] = some y3 := hf 3 _ rfl
      have g4 : DataW.trod enc Try.prog W 0 sp held n 40 [v4] = some y4 := hf 4 _ rfl
      obtain ⟨a0, n0, c0, l0, e0, _, A0⟩ := tys_of g0
      obtain ⟨a1, n1, c1, l1, e1, k1, A1⟩ := tys_of g1
      obtain ⟨a2, n2, c2, l2, e2, _, A2⟩ := tys_of g2
      obtain ⟨a3, n3, c3, l3, e3, _, A3⟩ := inss_of g3
      obtain ⟨a4, n4, c4, l4, e4, _, A4⟩ := tbs_of g4
      simp at e0 e1 e2 e3 e4
      subst e0 e1 e2 e3 e4
      exact ⟨⟨l0, l1, l2, l3, l4⟩, s5 (a0, n0, c0) (a1, n1, c1) (a2, n2, c2) (a3, n3, c3) (a4, n4, c4), rfl, A0, A1, A2, A3, A4, k1⟩) h
end

/-- a module that came in -/
theorem open_mo {H : Type} {enc : TypeId × Value → H} {W : World} {base : Nat} {v : Value} {d : DataW H} {p : List MemPlace}
    (hv : Value.okWide Try.prog W .any base 25 v) (h : DataW.Trod enc Try.prog W 0 (fun _ => true) true 25 v d p) :
    ∃ a n c m, v = moV a n c ∧ AcA 0 W.heap.size W a n m := by
  obtain ⟨cs, rfl, hsz⟩ := okWide_struct Try.underlying25 hv
  rw [cellsMo] at hsz
  obtain ⟨l⟩ := cs
  match l, hsz with
  | [v0], _ =>
    obtain ⟨fuel, hf⟩ := h
    obtain ⟨y0, n, _, _, h0⟩ := trod_struct1 Try.underlying25 hf
    simp only [cellsAcs] at h0
    simp [Value.cells] at h0
    obtain ⟨a, k, c, m, e, _, hA⟩ := acs_of h0
    simp at e
    subst e
    exact ⟨a, k, c, m, rfl, hA⟩

end Go.Proofs.Ythdpgachdegcgaa
