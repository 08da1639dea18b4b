/-
  How rows of things, and rows of numbers, that came in are read (over Arr0).
-/
import Derived.Test.YtpchnpdolhogdaaRows
import Derived.Test.YtpchnpdolhogdaaArr0
import Derived.WalkKit
import Derived.ProofKit
import Derived.OpenShut
import Derived.ShutString
import Derived.ChangeOld
import Derived.Below
import Derived.Lib.SmallJoins
import Derived.SizedLaws
namespace Go.Proofs.Ytpchnpdolhogdaa
open Go.ChangeShapes Go.WideShapes Go.ChangeAt Go.RowKit Go.Deep
set_option linter.unusedVariables false
set_option maxRecDepth 100000

theorem own : ownKnob Try.prog.godebug = none := by kernel_rfl
theorem laidOut : laidOutB Try.prog = true := by kernel_rfl

theorem i64_bounds {a : Int} (h : (Lit.int .i64 a).wf = true) : -9223372036854775808 ≤ a ∧ a ≤ 9223372036854775807 := by
  simpa [Lit.wf, IntKind.min, IntKind.max, IntKind.signed, IntKind.bits] using h

section
variable {H : Type} {enc : TypeId × Value → H} {W : World} {sp : Nat → Bool} {held : Bool}

theorem arr_of {α : Type} [Inhabited α] {PV : List Value → α → Prop} {sz : Nat} {t e : TypeId} (ht : Try.prog.underlying t = some (.slice e)) (hc : Try.prog.cellsOf e = sz) (hpos : 0 < sz)
    (each : ∀ fuel cs x, DataW.trod enc Try.prog W 0 sp held fuel e cs = some x → cs.length = sz → ∃ y : α, PV cs y) {fuel : Nat} {cs : List Value} {x : DataW H × List MemPlace}
    (h : DataW.trod enc Try.prog W 0 sp held fuel t cs = some x) : ∃ a n c l, cs = [.slice a n c] ∧ (n ≤ c ∧ c ≤ 9223372036854775807) ∧ Arr PV sz W.heap.size W a n l := by
  rcases open_slice ht h with ⟨hcs, _⟩ | ⟨ad, len, cap, m, n, D, Pl, hcs, hb, hl, hm, hmm, hx, hel⟩
  · exact ⟨none, 0, 0, [], hcs, ⟨by omega, by omega⟩, Arr.nil _ _ _ _ _⟩
  · have hlm : len ≤ m := by rw [hmm]; split <;> omega
    unfold maxLen at hm
    refine ⟨some ad, len, cap, ?_⟩
    have each' : ∀ i, i < len → ∃ y : α, ∃ cs', (∀ j v, cs'[j]? = some v → W.cell? (ad.add (i * sz + j)) = some v) ∧ cs'.length = sz ∧ PV cs' y := by
      intro i hi
      obtain ⟨cs', h1, h2⟩ := hel i (by omega)
      rw [hc] at h1
      obtain ⟨_, hlen, hcell⟩ := World.cells?_some h1
      obtain ⟨y, hy⟩ := each _ _ _ h2 hlen
      refine ⟨y, cs', fun j v hj => ?_, hlen, hy⟩
      have hjl := (List.getElem?_eq_some_iff.1 hj).1
      have := hcell j (by omega)
      rw [Addr.add_add] at this
      rw [this]; exact hj
    obtain ⟨Y, hY⟩ := choose_lt each'
    refine ⟨(List.range len).map Y, hcs, ⟨hl, by omega⟩, by simp, by omega, ?_⟩
    by_cases h0 : len = 0
    · exact .inl h0
    · right
      obtain ⟨cs0, g1, g2, _⟩ := hY 0 (by omega)
      obtain ⟨b, off, spot⟩ := ad
      have hc0 := g1 0 (cs0[0]'(by omega)) (List.getElem?_eq_getElem (by omega))
      have hspot : spot = none := by simpa [Addr.add] using World.cell?_spot hc0
      subst hspot
      have ea : ∀ j, (⟨b, off, none⟩ : Addr).add j = ⟨b, off + j, none⟩ := fun j => by unfold Addr.add; split <;> simp_all
      refine ⟨b, off, rfl, World.block_lt_of_cell? W _ (by rw [ea] at hc0; exact hc0), fun i y hy => ?_⟩
      have hi : i < len := by have := (List.getElem?_eq_some_iff.1 hy).1; simpa using this
      rw [List.getElem?_map, List.getElem?_range hi] at hy
      simp only [Option.map_some, Option.some.injEq] at hy
      subst hy
      obtain ⟨cs', g1, g2, g3⟩ := hY i hi
      exact ⟨cs', fun j v hj => by have := g1 j v hj; rw [ea, ← Nat.add_assoc] at this; exact this, g3⟩


theorem slice_len {t e : TypeId} (ht : Try.prog.underlying t = some (.slice e)) {fuel : Nat} {cs : List Value} {x : DataW H × List MemPlace} (h : DataW.trod enc Try.prog W 0 sp held fuel t cs = some x) :
    ∃ a n c, cs = [.slice a n c] ∧ ((x.1 = .nil ∧ n = 0) ∨ ∃ el r, x.1 = .slice el r ∧ el.length = n) := by
  rcases open_slice ht h with ⟨hcs, hx⟩ | ⟨ad, len, cap, m, n, D, Pl, hcs, hb, hl, hm, hmm, hx, hel⟩
  · exact ⟨none, 0, 0, hcs, .inl ⟨by rw [hx], rfl⟩⟩
  · exact ⟨some ad, len, cap, hcs, .inr ⟨_, _, by rw [hx], by simp⟩⟩
end

/-- a list that came in, with what the reach says of its length -/
theorem open_arr {H : Type} {enc : TypeId × Value → H} {W : World} {base : Nat} {v : Value} {d : DataW H} {p : List MemPlace} {α : Type} [Inhabited α] {PV : List Value → α → Prop} {sz by' : Nat} {t e : TypeId}
    (ht : Try.prog.underlying t = some (.slice e)) (hc : Try.prog.cellsOf e = sz) (hb : Try.prog.bytesOf e = by') (hpos : 0 < sz)
    (each : ∀ fuel cs (x : DataW H × List MemPlace), DataW.trod enc Try.prog W 0 (fun _ => true) true fuel e cs = some x → cs.length = sz → ∃ y : α, PV cs y)
    {ts : List TypeId} {ds : List (DataW H)} (hs : (DataW.weightsEach Try.prog ts ds).all (· ≤ reachBytes) = true) {j : Nat} (hj : ts[j]? = some t) (hd : ds[j]? = some d)
    (hv : Value.okWide Try.prog W .any base t v) (h : DataW.Trod enc Try.prog W 0 (fun _ => true) true t v d p) :
    ∃ a n c l, v = .slice a n c ∧ n * by' ≤ 140737488351232 ∧ Arr PV sz W.heap.size W a n l := by
  obtain ⟨a, len, cap, rfl⟩ := okWide_slice ht hv
  obtain ⟨fuel, hf⟩ := h
  obtain ⟨a0, n0, c0, l0, e0, ⟨q1, q2⟩, A0⟩ := arr_of ht hc hpos each hf
  obtain ⟨a1, n1, c1, e1, hl⟩ := slice_len ht hf
  simp [Value.cells] at e0 e1
  obtain ⟨rfl, rfl, rfl⟩ := e0
  obtain ⟨rfl, rfl, rfl⟩ := e1
  refine ⟨_, _, _, _, rfl, ?_, A0⟩
  rcases hl with ⟨_, rfl⟩ | ⟨el, r, hx, rfl⟩
  · omega
  · have hr := sized_slice hs hj (by rw [hd]; exact congrArg some hx) ht
    rw [hb] at hr
    have : el.length * by' ≤ (el.length + r.length) * by' := Nat.mul_le_mul_right _ (by omega)
    simp only [reachBytes] at hr
    omega

theorem cellsLong : Try.prog.cellsOf 2 = 1 := by kernel_rfl

theorem bytesLong : Try.prog.bytesOf 2 = 8 := by kernel_rfl

theorem cellsInt : Try.prog.cellsOf 3 = 1 := by kernel_rfl

theorem bytesInt : Try.prog.bytesOf 3 = 8 := by kernel_rfl

section
variable {H : Type} {enc : TypeId × Value → H} {W : World} {base : Nat} {v : Value} {d : DataW H} {p : List MemPlace} {ts : List TypeId} {ds : List (DataW H)} (hs : (DataW.weightsEach Try.prog ts ds).all (· ≤ reachBytes) = true)
include hs

theorem open_ints {j : Nat} (hj : ts[j]? = some 47) (hd : ds[j]? = some d) (hv : Value.okWide Try.prog W .any base 47 v) (h : DataW.Trod enc Try.prog W 0 (fun _ => true) true 47 v d p) :
    ∃ a n c l, v = .slice a n c ∧ n * 8 ≤ 140737488351232 ∧ NuA W.heap.size W a n l :=
  open_arr Try.underlying47 cellsInt bytesInt (by omega) (fun _ _ _ h hl => by
    obtain ⟨b, rfl, _, w⟩ := DataW.trod_int Try.underlying3 h
    exact ⟨b, rfl, i64_bounds w⟩) hs hj hd hv h

end

end Go.Proofs.Ytpchnpdolhogdaa
