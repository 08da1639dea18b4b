/-
  Rows of 64-bit numbers that came in, with what is known of their room.
-/
import Derived.Test.YtingpopcdihclabFrames
namespace Go.Proofs.Ytingpopcdihclab
open Go.ChangeShapes Go.WideShapes Go.ChangeAt Go.RowKit Go.Deep
set_option linter.unusedVariables false
set_option maxRecDepth 100000

theorem slice_cap {H : Type} {enc : TypeId × Value → H} {W : World} {sp : Nat → Bool} {held : Bool} {t e : TypeId} (ht : Try.prog.underlying t = some (.slice e)) {fuel : Nat} {a : Option Addr} {n c : Nat} {x : DataW H × List MemPlace}
    (h : DataW.trod enc Try.prog W 0 sp held fuel t [.slice a n c] = some x) : n ≤ c := by
  rcases open_slice ht h with ⟨hcs, _⟩ | ⟨ad, len, cap, m, n', D, Pl, hcs, hb, hl, hm, hmm, hx, hel⟩
  · cases hcs; omega
  · cases hcs
    exact hl

theorem cap_of {H : Type} {enc : TypeId × Value → H} {W : World} {a : Option Addr} {n c : Nat} {d : DataW H} {p : List MemPlace} (h : DataW.Trod enc Try.prog W 0 (fun _ => true) true 42 (.slice a n c) d p) : n ≤ c := by
  obtain ⟨fuel, hf⟩ := h
  exact (slice_cap Try.underlying42 (by simpa [Value.cells] using hf))

end Go.Proofs.Ytingpopcdihclab
