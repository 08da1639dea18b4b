/-
  How an instruction that came in is read; the table of names, as the door lays it.
-/
import Derived.Test.YtemkmaegjjpkjaaDoorRows
import Derived.Test.YtemkmaegjjpkjaaDoorCards
import Derived.Test.YtemkmaegjjpkjaaDoorTie
import Derived.Test.YtemkmaegjjpkjaaDoorInRead
import Derived.ProofKit
import Derived.LaidMore
import Derived.OpenShut
import Derived.Stop.Joined
import Derived.SevenTiedAt
import Derived.ChangeOld
import Derived.Lib.SmallJoins
import Derived.SizedLaws
namespace Go.Proofs.YtemkmaegjjpkjaaDoor
open Go.ChangeShapes Go.WideShapes Go.ChangeAt Go.RowKit
set_option linter.unusedVariables false

theorem own : ownKnob Tryd.prog.godebug = none := by kernel_rfl
theorem laidOut : laidOutB Tryd.prog = true := by kernel_rfl

theorem i64_bounds {a : Int} (h : (Lit.int .i64 a).wf = true) : -9223372036854775808 ≤ a ∧ a ≤ 9223372036854775807 := by
  simpa [Lit.wf, IntKind.min, IntKind.max, IntKind.signed, IntKind.bits] using h

theorem gNames : Tryd.prog.globalNamed "callboy/instr.names" = some 0 := by kernel_rfl
theorem tNames : (Tryd.prog.globals[0]?).map (·.type) = some 39 := by kernel_rfl
theorem cStr : Tryd.prog.cellsOf 9 = 1 := by kernel_rfl
theorem cIns : Tryd.prog.cellsOf 23 = 2 := by kernel_rfl

def laidList : List (String × DataW Unit) := [("callboy/instr.names", Rows.laid_callboy_instr_names)]

theorem laid_nms : (Rows.laid_callboy_instr_names : DataW Unit) = .agg (nms.map fun n => .lit (.string n)) := rfl

/-- what the condition gives the walks -/
theorem tab_of {W : World} (h : laidMetH Tryd.prog laidList W) : Tab W := by
  rw [MakeChecks.laidMetH_plain _ _ _ (by kernel_rfl)] at h
  obtain ⟨ps, ⟨g0, t0, cs0, f0, p0, q0, hg0, ht0, hv0, hd0, _, _⟩, _⟩ := h
  obtain rfl := Option.some.inj (gNames.symm.trans hg0)
  obtain rfl := Option.some.inj (tNames.symm.trans ht0)
  obtain ⟨xs, m, _, hx, hlen, hn, hel⟩ := DataW.trod_array Tryd.underlying39 hd0
  rw [laid_nms] at hx
  simp only [Prod.mk.injEq, DataW.agg.injEq] at hx
  intro j v hv
  have hj : j < 27 := by
    have := (List.getElem?_eq_some_iff.1 hv).1
    simpa [tabL, nms_length] using this
  rw [tabL_at j hj] at hv
  cases hv
  have h1 := hel j hj
  rw [cStr, List.getElem?_eq_getElem (by omega)] at h1
  obtain ⟨s, hc, hy, _⟩ := DataW.trod_string Tryd.underlying9 h1
  have h2 : (nms.map fun n => (DataW.lit (.string n) : DataW Unit))[j]? = (xs.map (·.1))[j]? := by rw [hx.1]
  rw [List.getElem?_map, List.getElem?_map, List.getElem?_eq_getElem (l := xs) (by omega), List.getElem?_eq_getElem (l := nms) (by rw [nms_length]; exact hj), hy] at h2
  simp only [Option.map_some, Option.some.injEq, DataW.lit.injEq, Lit.string.injEq] at h2
  have e : nm j = nms[j]'(by rw [nms_length]; exact hj) := by unfold nm; rw [List.getD_eq_getElem?_getD, List.getElem?_eq_getElem (by rw [nms_length]; exact hj)]; rfl
  rw [e, h2, ba_of]
  have h3 := World.var?_cell hg0 hv0 j
  simp only [Nat.zero_add]
  rw [h3]
  have h4 : cs0.toList[j]? = some (.string s) := by
    have := congrArg (·[0]?) hc
    simp only [Nat.mul_one] at this
    simpa using this
  simpa using h4

/-- an instruction that came in -/
theorem open_ins {H : Type} {enc : TypeId × Value → H} {W : World} {base : Nat} {v : Value} {d : DataW H} {p : List MemPlace}
    (hv : Value.okWide Tryd.prog W .any base 23 v) (h : DataW.Trod enc Tryd.prog W 0 (fun _ => true) true 23 v d p) :
    ∃ op a : Int, v = insV op a ∧ (-9223372036854775808 ≤ op ∧ op ≤ 9223372036854775807) ∧ (-9223372036854775808 ≤ a ∧ a ≤ 9223372036854775807) := by
  obtain ⟨v0, v1, y0, y1, n, rfl, _, _, h0, h1⟩ := Go.Joins.open_agg2 Tryd.underlying23 (by kernel_rfl) cIns hv h
  obtain ⟨op, e0, _, w0⟩ := DataW.trod_int Tryd.underlying3 h0
  obtain ⟨a, e1, _, w1⟩ := DataW.trod_int Tryd.underlying2 h1
  simp only [List.cons.injEq, and_true] at e0 e1
  subst e0; subst e1
  exact ⟨op, a, rfl, i64_bounds w0, i64_bounds w1⟩

end Go.Proofs.YtemkmaegjjpkjaaDoor
