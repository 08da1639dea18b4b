/-
  How a list of items that came in is read.
-/
import Derived.Test.YtcfadbogcoocoaaRows
import Derived.Test.YtcfadbogcoocoaaArgs
import Derived.WalkKit
import Derived.ProofKit
import Derived.OpenShut
import Derived.ShutString
import Derived.ChangeOld
import Derived.Below
import Derived.Lib.SmallJoins
namespace Go.Proofs.Ytcfadbogcoocoaa
open Go.ChangeShapes Go.WideShapes Go.ChangeAt Go.RowKit Go.Deep
set_option linter.unusedVariables false

theorem own : ownKnob Try.prog.godebug = none := by kernel_rfl
theorem laidOut : laidOutB Try.prog = true := by kernel_rfl
theorem cellsItem : Try.prog.cellsOf 31 = 4 := by kernel_rfl
theorem cellsInt : Try.prog.cellsOf 3 = 1 := by kernel_rfl
theorem cellsU64 : Try.prog.cellsOf 29 = 1 := by kernel_rfl
theorem cellsI64 : Try.prog.cellsOf 2 = 1 := by kernel_rfl
theorem cellsStr : Try.prog.cellsOf 9 = 1 := by kernel_rfl

theorem i64_bounds {a : Int} (h : (Lit.int .i64 a).wf = true) : -9223372036854775808 ≤ a ∧ a ≤ 9223372036854775807 := by
  simpa [Lit.wf, IntKind.min, IntKind.max, IntKind.signed, IntKind.bits] using h
theorem u64_bounds {a : Int} (h : (Lit.int .u64 a).wf = true) : 0 ≤ a ∧ a ≤ 18446744073709551615 := by
  simpa [Lit.wf, IntKind.min, IntKind.max, IntKind.signed, IntKind.bits] using h

/-- an item as data -/
def itemD {H : Type} (x : It) : DataW H := .agg [.lit (.int .i64 x.K), .lit (.int .u64 x.U), .lit (.int .i64 x.N), .lit (.string x.S.data.toList)]

theorem has_of {H : Type} {enc : TypeId × Value → H} {W : World} {sp : Nat → Bool} {held : Bool} {fuel : Nat} {a : Option Addr} {len cap : Nat} {d : DataW H} {p : List MemPlace}
    (h : DataW.trod enc Try.prog W 0 sp held fuel 22 [.slice a len cap] = some (d, p)) :
    ∃ its, Has W a len its ∧ ((d = .nil ∧ len = 0) ∨ ∃ r, d = .slice ((List.range len).map fun i => itemD (its i)) r) := by
  have inh : Inhabited It := ⟨⟨0, 0, 0, ⟨#[]⟩⟩⟩
  rcases open_slice Try.underlying22 h with ⟨hcs, hx⟩ | ⟨ad, l, c, m, n, D, Pl, hcs, hb, hl, hm, hmm, hx, hel⟩
  · simp at hcs hx
    obtain ⟨rfl, rfl, rfl⟩ := hcs
    exact ⟨fun _ => ⟨0, 0, 0, ⟨#[]⟩⟩, ⟨by omega, .inl rfl⟩, .inl ⟨hx.1, rfl⟩⟩
  · simp at hcs
    obtain ⟨rfl, rfl, rfl⟩ := hcs
    have hlm : len ≤ m := by rw [hmm]; split <;> omega
    simp only [Prod.mk.injEq] at hx
    have each : ∀ i, i < len → ∃ x : It, x.Ok ∧ W.cell? (ad.add (i * 4)) = some (.int .i64 x.K) ∧ W.cell? (ad.add (i * 4 + 1)) = some (.int .u64 x.U) ∧ W.cell? (ad.add (i * 4 + 2)) = some (.int .i64 x.N) ∧ W.cell? (ad.add (i * 4 + 3)) = some (.string x.S) ∧ D i = itemD x := by
      intro i hi
      obtain ⟨cs', h1, h2⟩ := hel i (by omega)
      rw [cellsItem] at h1
      obtain ⟨_, hlen, hcell⟩ := World.cells?_some h1
      obtain ⟨y0, y1, y2, y3, n', hxy, _, g0, g1, g2, g3⟩ := Joins.trod_struct4 Try.underlying31 h2
      match cs', hlen with
      | [v0, v1, v2, v3], _ =>
        simp only [cellsInt, cellsU64, cellsI64, cellsStr] at g0 g1 g2 g3
        simp at g0 g1 g2 g3
        obtain ⟨K, e0, rfl, wK⟩ := DataW.trod_int Try.underlying3 g0
        obtain ⟨U, e1, rfl, wU⟩ := DataW.trod_int Try.underlying29 g1
        obtain ⟨N, e2, rfl, wN⟩ := DataW.trod_int Try.underlying2 g2
        obtain ⟨s, e3, rfl, hs⟩ := DataW.trod_string Try.underlying9 g3
        simp at e0 e1 e2 e3
        subst e0 e1 e2 e3
        have f0 := hcell 0 (by omega)
        have f1 := hcell 1 (by omega)
        have f2 := hcell 2 (by omega)
        have f3 := hcell 3 (by omega)
        rw [add_add] at f0 f1 f2 f3
        simp only [Prod.mk.injEq] at hxy
        exact ⟨⟨K, U, N, s⟩, ⟨(i64_bounds wK).1, (i64_bounds wK).2, (u64_bounds wU).1, (u64_bounds wU).2, (i64_bounds wN).1, (i64_bounds wN).2, hs⟩, by simpa using f0, by simpa using f1, by simpa using f2, by simpa using f3, hxy.1⟩
    obtain ⟨its, hits⟩ := choose_lt each
    refine ⟨its, ⟨by unfold maxLen at hm; omega, ?_⟩, .inr ⟨_, by rw [hx.1, List.map_congr_left (fun i hi => (hits i (List.mem_range.1 hi)).2.2.2.2.2)]⟩⟩
    by_cases h0 : len = 0
    · exact .inl h0
    · right
      obtain ⟨b, off, spot⟩ := ad
      have hc := (hits 0 (by omega)).2.1
      have hspot : spot = none := by simpa [Addr.add] using World.cell?_spot hc
      subst hspot
      refine ⟨b, off, rfl, World.block_lt_of_cell? W _ hc, fun i hi => ?_⟩
      obtain ⟨ok, c0, c1, c2, c3, _⟩ := hits i hi
      have ea : ∀ j, (⟨b, off, none⟩ : Addr).add j = ⟨b, off + j, none⟩ := fun j => by unfold Addr.add; split <;> simp_all
      rw [ea] at c0 c1 c2 c3
      exact ⟨ok, c0, by rw [← Nat.add_assoc] at c1; exact c1, by rw [← Nat.add_assoc] at c2; exact c2, by rw [← Nat.add_assoc] at c3; exact c3⟩
end Go.Proofs.Ytcfadbogcoocoaa
