/-
  How rows of scripts, moves and truths that came in are read.
-/
import Derived.Test.YtingpopcdihclaaRows
import Derived.Test.YtingpopcdihclaaDqArr
import Derived.WalkKit
import Derived.ProofKit
import Derived.OpenShut
import Derived.ShutString
import Derived.ChangeOld
import Derived.Below
import Derived.Lib.SmallJoins
import Derived.SizedLaws
namespace Go.Proofs.Ytingpopcdihclaa
open Go.ChangeShapes Go.WideShapes Go.ChangeAt Go.RowKit Go.Deep
set_option linter.unusedVariables false
set_option maxRecDepth 100000

theorem own : ownKnob Try.prog.godebug = none := by kernel_rfl
theorem laidOut : laidOutB Try.prog = true := by kernel_rfl
theorem cellsRow : Try.prog.cellsOf 54 = 2 := by kernel_rfl
theorem cellsMove : Try.prog.cellsOf 34 = 4 := by kernel_rfl
theorem cellsBool : Try.prog.cellsOf 4 = 1 := by kernel_rfl
theorem bytesRow : Try.prog.bytesOf 54 = 16 := by kernel_rfl
theorem bytesMove : Try.prog.bytesOf 34 = 32 := by kernel_rfl
theorem bytesBool : Try.prog.bytesOf 4 = 1 := by kernel_rfl

theorem i64_bounds {a : Int} (h : (Lit.int .i64 a).wf = true) : -9223372036854775808 ≤ a ∧ a ≤ 9223372036854775807 := by
  simpa [Lit.wf, IntKind.min, IntKind.max, IntKind.signed, IntKind.bits] using h

section
variable {H : Type} {enc : TypeId × Value → H} {W : World} {sp : Nat → Bool} {held : Bool}

theorem arr_of {α : Type} [Inhabited α] {PV : List Value → α → Prop} {sz : Nat} {t e : TypeId} (ht : Try.prog.underlying t = some (.slice e)) (hc : Try.prog.cellsOf e = sz) (hpos : 0 < sz)
    (each : ∀ fuel cs x, DataW.trod enc Try.prog W 0 sp held fuel e cs = some x → cs.length = sz → ∃ y : α, PV cs y) {fuel : Nat} {cs : List Value} {x : DataW H × List MemPlace}
    (h : DataW.trod enc Try.prog W 0 sp held fuel t cs = some x) : ∃ a n c l, cs = [.slice a n c] ∧ (n ≤ c ∧ c ≤ 9223372036854775807) ∧ Arr PV sz W.heap.size W a n l := by
  rcases open_slice ht h with ⟨hcs, _⟩ | ⟨ad, len, cap, m, n, D, Pl, hcs, hb, hl, hm, hmm, hx, hel⟩
  · exact ⟨none, 0, 0, [], hcs, ⟨by omega, by omega⟩, Arr.nil _ _ _ _ _⟩
  · have hlm : len ≤ m := by rw [hmm]; split <;> omega
    unfold maxLen at hm
    refine ⟨some ad, len, cap, ?_⟩
    have each' : ∀ i, i < len → ∃ y : α, ∃ cs', (∀ j v, cs'[j]? = some v → W.cell? (ad.add (i * sz + j)) = some v) ∧ cs'.length = sz ∧ PV cs' y := by
      intro i hi
      obtain ⟨cs', h1, h2⟩ := hel i (by omega)
      rw [hc] at h1
      obtain ⟨_, hlen, hcell⟩ := World.cells?_some h1
      obtain ⟨y, hy⟩ := each _ _ _ h2 hlen
      refine ⟨y, cs', fun j v hj => ?_, hlen, hy⟩
      have hjl := (List.getElem?_eq_some_iff.1 hj).1
      have := hcell j (by omega)
      rw [Addr.add_add] at this
      rw [this]; exact hj
    obtain ⟨Y, hY⟩ := choose_lt each'
    refine ⟨(List.range len).map Y, hcs, ⟨hl, by omega⟩, by simp, by omega, ?_⟩
    by_cases h0 : len = 0
    · exact .inl h0
    · right
      obtain ⟨cs0, g1, g2, _⟩ := hY 0 (by omega)
      obtain ⟨b, off, spot⟩ := ad
      have hc0 := g1 0 (cs0[0]'(by omega)) (List.getElem?_eq_getElem (by omega))
      have hspot : spot = none := by simpa [Addr.add] using World.cell?_spot hc0
      subst hspot
      have ea : ∀ j, (⟨b, off, none⟩ : Addr).add j = ⟨b, off + j, none⟩ := fun j => by unfold Addr.add; split <;> simp_all
      refine ⟨b, off, rfl, World.block_lt_of_cell? W _ (by rw [ea] at hc0; exact hc0), fun i y hy => ?_⟩
      have hi : i < len := by have := (List.getElem?_eq_some_iff.1 hy).1; simpa using this
      rw [List.getElem?_map, List.getElem?_range hi] at hy
      simp only [Option.map_some, Option.some.injEq] at hy
      subst hy
      obtain ⟨cs', g1, g2, g3⟩ := hY i hi
      exact ⟨cs', fun j v hj => by have := g1 j v hj; rw [ea, ← Nat.add_assoc] at this; exact this, g3⟩


instance : Inhabited Rw := ⟨⟨0, false⟩⟩
instance : Inhabited Mv := ⟨⟨false, 0, 0, 0⟩⟩

theorem rw_of {fuel : Nat} {cs : List Value} {x : DataW H × List MemPlace} (h : DataW.trod enc Try.prog W 0 sp held fuel 54 cs = some x) (hl : cs.length = 2) : ∃ y : Rw, RwV cs y := by
  match cs, hl with
  | [v0, v1], _ =>
    obtain ⟨xs, n, _, _, _, hlen, hg⟩ := DataW.trod_struct Try.underlying54 h
    have hlen' : xs.length = 2 := hlen
    match xs, hlen' with
    | [y0, y1], _ =>
      have g0 : DataW.trod enc Try.prog W 0 sp held n 3 [v0] = some y0 := hg 0 _ rfl
      have g1 : DataW.trod enc Try.prog W 0 sp held n 4 [v1] = some y1 := hg 1 _ rfl
      obtain ⟨K, e0, _, w0⟩ := DataW.trod_int Try.underlying3 g0
      obtain ⟨B, e1, _⟩ := DataW.trod_bool Try.underlying4 g1
      simp at e0 e1
      subst e0 e1
      exact ⟨⟨K, B⟩, rfl, i64_bounds w0⟩

theorem mv_of {fuel : Nat} {cs : List Value} {x : DataW H × List MemPlace} (h : DataW.trod enc Try.prog W 0 sp held fuel 34 cs = some x) (hl : cs.length = 4) : ∃ y : Mv, MvV cs y := by
  match cs, hl with
  | [v0, v1, v2, v3], _ =>
    obtain ⟨xs, n, _, _, _, hlen, hg⟩ := DataW.trod_struct Try.underlying34 h
    have hlen' : xs.length = 4 := hlen
    match xs, hlen' with
    | [y0, y1, y2, y3], _ =>
      have g0 : DataW.trod enc Try.prog W 0 sp held n 4 [v0] = some y0 := hg 0 _ rfl
      have g1 : DataW.trod enc Try.prog W 0 sp held n 3 [v1] = some y1 := hg 1 _ rfl
      have g2 : DataW.trod enc Try.prog W 0 sp held n 3 [v2] = some y2 := hg 2 _ rfl
      have g3 : DataW.trod enc Try.prog W 0 sp held n 2 [v3] = some y3 := hg 3 _ rfl
      obtain ⟨B, e0, _⟩ := DataW.trod_bool Try.underlying4 g0
      obtain ⟨N, e1, _, w1⟩ := DataW.trod_int Try.underlying3 g1
      obtain ⟨O, e2, _, w2⟩ := DataW.trod_int Try.underlying3 g2
      obtain ⟨V, e3, _, w3⟩ := DataW.trod_int Try.underlying2 g3
      simp at e0 e1 e2 e3
      subst e0 e1 e2 e3
      exact ⟨⟨B, N, O, V⟩, rfl, i64_bounds w1, i64_bounds w2, i64_bounds w3⟩

theorem slice_len {t e : TypeId} (ht : Try.prog.underlying t = some (.slice e)) {fuel : Nat} {cs : List Value} {x : DataW H × List MemPlace} (h : DataW.trod enc Try.prog W 0 sp held fuel t cs = some x) :
    ∃ a n c, cs = [.slice a n c] ∧ ((x.1 = .nil ∧ n = 0) ∨ ∃ el r, x.1 = .slice el r ∧ el.length = n) := by
  rcases open_slice ht h with ⟨hcs, hx⟩ | ⟨ad, len, cap, m, n, D, Pl, hcs, hb, hl, hm, hmm, hx, hel⟩
  · exact ⟨none, 0, 0, hcs, .inl ⟨by rw [hx], rfl⟩⟩
  · exact ⟨some ad, len, cap, hcs, .inr ⟨_, _, by rw [hx], by simp⟩⟩
end

/-- a list that came in, with what the reach says of its length -/
theorem open_arr {H : Type} {enc : TypeId × Value → H} {W : World} {base : Nat} {v : Value} {d : DataW H} {p : List MemPlace} {α : Type} [Inhabited α] {PV : List Value → α → Prop} {sz by' : Nat} {t e : TypeId}
    (ht : Try.prog.underlying t = some (.slice e)) (hc : Try.prog.cellsOf e = sz) (hb : Try.prog.bytesOf e = by') (hpos : 0 < sz)
    (each : ∀ fuel cs (x : DataW H × List MemPlace), DataW.trod enc Try.prog W 0 (fun _ => true) true fuel e cs = some x → cs.length = sz → ∃ y : α, PV cs y)
    {ts : List TypeId} {ds : List (DataW H)} (hs : (DataW.weightsEach Try.prog ts ds).all (· ≤ reachBytes) = true) {j : Nat} (hj : ts[j]? = some t) (hd : ds[j]? = some d)
    (hv : Value.okWide Try.prog W .any base t v) (h : DataW.Trod enc Try.prog W 0 (fun _ => true) true t v d p) :
    ∃ a n c l, v = .slice a n c ∧ n * by' ≤ 140737488351232 ∧ Arr PV sz W.heap.size W a n l := by
  obtain ⟨a, len, cap, rfl⟩ := okWide_slice ht hv
  obtain ⟨fuel, hf⟩ := h
  obtain ⟨a0, n0, c0, l0, e0, ⟨q1, q2⟩, A0⟩ := arr_of ht hc hpos each hf
  obtain ⟨a1, n1, c1, e1, hl⟩ := slice_len ht hf
  simp [Value.cells] at e0 e1
  obtain ⟨rfl, rfl, rfl⟩ := e0
  obtain ⟨rfl, rfl, rfl⟩ := e1
  refine ⟨_, _, _, _, rfl, ?_, A0⟩
  rcases hl with ⟨_, rfl⟩ | ⟨el, r, hx, rfl⟩
  · omega
  · have hr := sized_slice hs hj (by rw [hd]; exact congrArg some hx) ht
    rw [hb] at hr
    have : el.length * by' ≤ (el.length + r.length) * by' := Nat.mul_le_mul_right _ (by omega)
    simp only [reachBytes] at hr
    omega

section
variable {H : Type} {enc : TypeId × Value → H} {W : World} {base : Nat} {v : Value} {d : DataW H} {p : List MemPlace} {ts : List TypeId} {ds : List (DataW H)} (hs : (DataW.weightsEach Try.prog ts ds).all (· ≤ reachBytes) = true)
include hs
theorem open_rows {j : Nat} (hj : ts[j]? = some 50) (hd : ds[j]? = some d) (hv : Value.okWide Try.prog W .any base 50 v) (h : DataW.Trod enc Try.prog W 0 (fun _ => true) true 50 v d p) :
    ∃ a n c l, v = .slice a n c ∧ n * 16 ≤ 140737488351232 ∧ RwA W.heap.size W a n l :=
  open_arr Try.underlying50 cellsRow bytesRow (by omega) (fun _ _ _ h hl => rw_of h hl) hs hj hd hv h
theorem open_moves {j : Nat} (hj : ts[j]? = some 22) (hd : ds[j]? = some d) (hv : Value.okWide Try.prog W .any base 22 v) (h : DataW.Trod enc Try.prog W 0 (fun _ => true) true 22 v d p) :
    ∃ a n c l, v = .slice a n c ∧ n * 32 ≤ 140737488351232 ∧ MvA W.heap.size W a n l :=
  open_arr Try.underlying22 cellsMove bytesMove (by omega) (fun _ _ _ h hl => mv_of h hl) hs hj hd hv h
theorem open_bools {j : Nat} (hj : ts[j]? = some 51) (hd : ds[j]? = some d) (hv : Value.okWide Try.prog W .any base 51 v) (h : DataW.Trod enc Try.prog W 0 (fun _ => true) true 51 v d p) :
    ∃ a n c l, v = .slice a n c ∧ n * 1 ≤ 140737488351232 ∧ BoA W.heap.size W a n l :=
  open_arr Try.underlying51 cellsBool bytesBool (by omega) (fun _ _ _ h hl => by
    obtain ⟨b, rfl, _⟩ := DataW.trod_bool Try.underlying4 h
    exact ⟨b, rfl⟩) hs hj hd hv h
end

/-- a move that came in -/
theorem open_move {H : Type} {enc : TypeId × Value → H} {W : World} {base : Nat} {v : Value} {d : DataW H} {p : List MemPlace}
    (hv : Value.okWide Try.prog W .any base 34 v) (h : DataW.Trod enc Try.prog W 0 (fun _ => true) true 34 v d p) :
    ∃ m : Mv, v = .agg #[.bool m.bg, .int .i64 m.n, .int .i64 m.op, .int .i64 m.v] := by
  obtain ⟨cs, rfl, hsz⟩ := okWide_struct Try.underlying34 hv
  rw [cellsMove] at hsz
  obtain ⟨l⟩ := cs
  obtain ⟨fuel, hf⟩ := h
  obtain ⟨s, rfl, _⟩ := mv_of (cs := l) hf hsz
  exact ⟨s, rfl⟩

end Go.Proofs.Ytingpopcdihclaa
