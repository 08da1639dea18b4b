/-
  How moves, rows of a script that came in are read.
-/
import Derived.Test.YtpchnpdolhogdaaFrame0
import Derived.Test.YtpchnpdolhogdaaWdArr
namespace Go.Proofs.Ytpchnpdolhogdaa
open Go.ChangeShapes Go.WideShapes Go.ChangeAt Go.RowKit Go.Deep
set_option linter.unusedVariables false
set_option maxRecDepth 100000

theorem cellsMove : Try.prog.cellsOf 29 = 3 := by kernel_rfl
theorem bytesMove : Try.prog.bytesOf 29 = 24 := by kernel_rfl
theorem cellsRow : Try.prog.cellsOf 44 = 2 := by kernel_rfl
theorem bytesRow : Try.prog.bytesOf 44 = 16 := by kernel_rfl
instance : Inhabited Mv := ⟨⟨false, 0, 0⟩⟩
instance : Inhabited Rw := ⟨⟨0, 0⟩⟩

section
variable {H : Type} {enc : TypeId × Value → H} {W : World} {sp : Nat → Bool} {held : Bool}

theorem mv_of {fuel : Nat} {cs : List Value} {x : DataW H × List MemPlace} (h : DataW.trod enc Try.prog W 0 sp held fuel 29 cs = some x) (hl : cs.length = 3) : ∃ y : Mv, MvV cs y := by
  match cs, hl with
  | [v0, v1, v2], _ =>
    obtain ⟨xs, n, _, _, _, hlen, hg⟩ := DataW.trod_struct Try.underlying29 h
    have hlen' : xs.length = 3 := hlen
    match xs, hlen' with
    | [y0, y1, y2], _ =>
      have g0 : DataW.trod enc Try.prog W 0 sp held n 4 [v0] = some y0 := hg 0 _ rfl
      have g1 : DataW.trod enc Try.prog W 0 sp held n 3 [v1] = some y1 := hg 1 _ rfl
      have g2 : DataW.trod enc Try.prog W 0 sp held n 3 [v2] = some y2 := hg 2 _ rfl
      obtain ⟨B, e0, _⟩ := DataW.trod_bool Try.underlying4 g0
      obtain ⟨N, e1, _, w1⟩ := DataW.trod_int Try.underlying3 g1
      obtain ⟨V, e2, _, w2⟩ := DataW.trod_int Try.underlying3 g2
      simp at e0 e1 e2
      subst e0 e1 e2
      exact ⟨⟨B, N, V⟩, rfl, i64_bounds w1, i64_bounds w2⟩

theorem rw_of {fuel : Nat} {cs : List Value} {x : DataW H × List MemPlace} (h : DataW.trod enc Try.prog W 0 sp held fuel 44 cs = some x) (hl : cs.length = 2) : ∃ y : Rw, RwV cs y := by
  match cs, hl with
  | [v0, v1], _ =>
    obtain ⟨xs, n, _, _, _, hlen, hg⟩ := DataW.trod_struct Try.underlying44 h
    have hlen' : xs.length = 2 := hlen
    match xs, hlen' with
    | [y0, y1], _ =>
      have g0 : DataW.trod enc Try.prog W 0 sp held n 3 [v0] = some y0 := hg 0 _ rfl
      have g1 : DataW.trod enc Try.prog W 0 sp held n 3 [v1] = some y1 := hg 1 _ rfl
      obtain ⟨N, e0, _, w0⟩ := DataW.trod_int Try.underlying3 g0
      obtain ⟨V, e1, _, w1⟩ := DataW.trod_int Try.underlying3 g1
      simp at e0 e1
      subst e0 e1
      exact ⟨⟨N, V⟩, rfl, i64_bounds w0, i64_bounds w1⟩

end

section
variable {H : Type} {enc : TypeId × Value → H} {W : World} {base : Nat} {v : Value} {d : DataW H} {p : List MemPlace} {ts : List TypeId} {ds : List (DataW H)} (hs : (DataW.weightsEach Try.prog ts ds).all (· ≤ reachBytes) = true)
include hs
theorem open_moves {j : Nat} (hj : ts[j]? = some 22) (hd : ds[j]? = some d) (hv : Value.okWide Try.prog W .any base 22 v) (h : DataW.Trod enc Try.prog W 0 (fun _ => true) true 22 v d p) :
    ∃ a n c l, v = .slice a n c ∧ n * 24 ≤ 140737488351232 ∧ MvA W.heap.size W a n l :=
  open_arr Try.underlying22 cellsMove bytesMove (by omega) (fun _ _ _ h hl => mv_of h hl) hs hj hd hv h
theorem open_rows {j : Nat} (hj : ts[j]? = some 42) (hd : ds[j]? = some d) (hv : Value.okWide Try.prog W .any base 42 v) (h : DataW.Trod enc Try.prog W 0 (fun _ => true) true 42 v d p) :
    ∃ a n c l, v = .slice a n c ∧ n * 16 ≤ 140737488351232 ∧ RwA W.heap.size W a n l :=
  open_arr Try.underlying42 cellsRow bytesRow (by omega) (fun _ _ _ h hl => rw_of h hl) hs hj hd hv h
end

/-- a move that came in -/
theorem open_move {H : Type} {enc : TypeId × Value → H} {W : World} {base : Nat} {v : Value} {d : DataW H} {p : List MemPlace}
    (hv : Value.okWide Try.prog W .any base 29 v) (h : DataW.Trod enc Try.prog W 0 (fun _ => true) true 29 v d p) :
    ∃ m : Mv, v = .agg #[.bool m.bg, .int .i64 m.n, .int .i64 m.v] := by
  obtain ⟨cs, rfl, hsz⟩ := okWide_struct Try.underlying29 hv
  rw [cellsMove] at hsz
  obtain ⟨l⟩ := cs
  obtain ⟨fuel, hf⟩ := h
  obtain ⟨s, rfl, _⟩ := mv_of (cs := l) hf hsz
  exact ⟨s, rfl⟩

end Go.Proofs.Ytpchnpdolhogdaa
