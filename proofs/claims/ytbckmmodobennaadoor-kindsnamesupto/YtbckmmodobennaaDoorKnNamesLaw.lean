/-
  KindsNames: for every type, list and text, of at most 1048576 values and bytes, the law returns true, and nothing that was there is changed.
-/
import Derived.Test.YtbckmmodobennaaDoorKnRefList
import Derived.Test.YtbckmmodobennaaDoorKnSame
namespace Go.Proofs.YtbckmmodobennaaDoor
open Go.RowKit
set_option linter.unusedVariables false

theorem same_lists {X : Nat → Int} {n : Nat} {Y : Nat → Int} {m : Nat} {l : List Int} (hx : listX X n = l) (hy : listX Y m = l) : sameX X n Y m = true := by
  unfold sameX
  rw [decide_eq_true_eq]
  have h : listX X n = listX Y m := hx.trans hy.symm
  have hl : n = m := by have := congrArg List.length h; simpa [listX] using this
  subst hl
  refine ⟨rfl, fun i hi => ?_⟩
  have := congrArg (·[i]?) h
  simpa [listX, List.getElem?_range hi] using this

theorem refSame_val {a : Option Addr} {n c : Nat} {X : Nat → Int} {b : Option Addr} {m d : Nat} {Y : Nat → Int} {w : World} {r : Bool} (h : sameX X n Y m = r) (hX : Row w a n X) (hY : Row w b m Y) :
    Calls Tryd.prog 25 #[.slice a n c, .slice b m d] w fun e w' => e = .returned (.bool r) ∧ ∃ q, w' = w.drewN q := by
  subst h; exact refSame_calls a n c X b m d Y w hX hY
theorem law_draws (W : World) (q : Nat) : Below W.heap.size W (W.drewN q) := ⟨rfl, rfl, rfl, Nat.le_refl _, fun _ _ => rfl⟩

set_option maxHeartbeats 4000000 in
theorem names_law (t : Int) (a : Option Addr) (n c : Nat) (X : Nat → Int) (s : ByteArray) (m : Int) (w : World) (hX : Row w a n X)
    (hn : n ≤ 1048576) (hs : s.size ≤ 1048576) (h0 : 0 < w.heap.size) (hm : w.cell? ⟨0, 0, none⟩ = some (.int .i64 m)) :
    Calls Tryd.prog 5 #[.int .i64 t, .slice a n c, .string s] w fun e w' => e = .returned (.bool true) ∧ Below w.heap.size w w' := by
  have Hm := hide hm
  clear hm
  have hsm : s.size ≤ maxLen := by unfold maxLen; omega
  go_enter Tryd.func5, Tryd.ntmps5
  go_wp2_with fail
  refine (lives_calls _).mono ?_
  rintro e w' ⟨rfl, rfl⟩
  go_wp2_with fail
  refine (parse_calls _ hsm _).mono ?_
  rintro e w' ⟨rfl, rfl⟩
  go_wp2_with fail
  refine (refParse_calls _ _).mono ?_
  rintro e w1 ⟨rfl, B1⟩
  generalize parseT s.data.toList = pt at *
  generalize parseB s.data.toList = pb at *
  go_wp2_with fail
  refine (parseAll_calls s m _ (by omega) ((B1.cell (by exact h0)).trans (unhide Hm))).mono ?_
  rintro e w2 ⟨v, nk, ck, Y, rfl, hY, hYl, hYn, B2⟩
  have B12 : Below w.heap.size w w2 := B1.trans (B2.mono B1.size)
  clear B1 B2
  go_wp2_with fail
  refine (refParseAll_calls s _ (by omega)).mono ?_
  rintro e w3 ⟨v', nk', ck', Y', rfl, hY', hYl', B3⟩
  have hsame := hide (same_lists hYl hYl')
  have hY3 := hY.below B3
  have B13 : Below w.heap.size w w3 := B12.trans (B3.mono B12.size)
  clear hYl hYl' hY B12 B3 hYn
  generalize listB s.data.toList = lb at *
  go_wp2_with fail
  refine (name_calls _ _).mono ?_
  rintro e w' ⟨rfl, rfl⟩
  go_wp2_with fail
  refine (refName_calls _ _).mono ?_
  rintro e w' ⟨rfl, rfl⟩
  generalize nameS t = nt at *
  go_wp2_with fail
  refine (names_calls _ _ _ X _ (hX.below B13) (by omega)).mono ?_
  rintro e w4 ⟨rfl, B4⟩
  have hY4 := hY3.below B4
  have hY4' := hY'.below B4
  have B14 : Below w.heap.size w w4 := B13.trans (B4.mono B13.size)
  clear hY3 hY' B13 B4
  go_wp2_with fail
  refine (refNames_calls _ _ _ X _ (hX.below B14) (by omega)).mono ?_
  rintro e w' ⟨rfl, rfl⟩
  generalize namesS X n = ns at *
  go_wp2_with fail
  refine (refSame_val (unhide hsame) hY4 hY4').mono ?_
  rintro e w5 ⟨rfl, q, hq⟩
  have Bt : Below w.heap.size w w5 := by rw [hq]; exact B14.trans ((law_draws w4 q).mono B14.size)
  clear hq B14
  go_wp2
  go_ret
  exact ⟨rfl, Bt⟩
end Go.Proofs.YtbckmmodobennaaDoor
