/-
  HeapGives: with what sorted says.
-/
import Derived.Test.YtijiackjlgpgpaaHpGives
import Derived.Test.YtijiackjlgpgpaaHpSorted
namespace Go.Proofs.Ytijiackjlgpgpaa
open Go.RowKit
set_option linter.unusedVariables false

theorem sorted_says : SortedSays := fun w lo b n M S h hS hO => by
  obtain ⟨g, bm, h1, _, _⟩ := h.ex
  exact sorted_calls h1 hS hO

theorem gives_fr {w : World} (leave : Int) {a : Option Addr} {n c : Nat} {l : List Stp} (A : StA w.heap.size w a n l) (hn : n ≤ c) (hc : c ≤ 9223372036854775807) :
    Calls Try.prog 7 #[.slice a n c, .int .i64 leave] w fun e w' => e = .returned (.bool true) ∧ Fr (fun _ => False) w w' :=
  (gives_calls sorted_says leave A hn hc).mono fun e w' ⟨h1, h2⟩ => ⟨h1, Fr.ofBelow h2 _⟩

end Go.Proofs.Ytijiackjlgpgpaa
