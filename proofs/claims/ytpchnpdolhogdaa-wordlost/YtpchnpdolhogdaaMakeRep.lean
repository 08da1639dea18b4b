/-
  make of a list of things of one cell each.
-/
import Derived.Test.YtpchnpdolhogdaaProg
import Derived.Test.YtpchnpdolhogdaaKit
import Derived.Laws.MakeOwn
import Derived.Laws.OwnMore
namespace Go.Proofs.Ytpchnpdolhogdaa
open Go.RowKit
set_option linter.unusedVariables false
set_option maxRecDepth 8192

/-- 'make([]T, n)', of one cell each: a new block of n zeros. -/
theorem wpList_make_rep {P : Program} (w : World) {ops : Array Oper} {rest : List Oper} {o : Oper} {a : Act} {Q : Exit → Act → World → Prop}
    (hg : o.guard = none) (l c : Operand) (t : TypeId) (hop : o.op = Op.makeSlice t l c)
    (e : TypeId) (z : Value) (bytes : Nat) (h1 : P.underlying t = some (.slice e)) (hin : (P.info? e).map (fun i => (i.zero, i.size, i.bytes)) = some (some z, 1, bytes)) (hzc : z.cells = #[z])
    (kl kc : IntKind) (n : Nat) (m m' : Int) (hl : a.eval l = .int kl m) (hc : a.eval c = .int kc m') (hm : m = n) (hm' : m' = n) (b2 : bytes * n ≤ 281474976710656) (b3 : n ≤ maxLen)
    (hK : ∀ cs : Array Value, cs.toList = List.replicate n z → wpList P ops Q rest (a.put o.dst (.slice (some ⟨w.heap.size, 0, none⟩) n n)) (w.alloc (.cells cs e))) :
    wpList P ops Q (o :: rest) a w := by
  subst hm hm'
  obtain ⟨i, h2, h3, h4, h5⟩ := info_parts hin
  refine wpList_plain hg fun K hK' => ?_
  have h63 : (n : Int) ≤ 9223372036854775807 := by simp only [maxLen] at b3; omega
  have hb : (i.bytes : Int) * (n : Int) ≤ 281474976710656 := by
    rw [h5]
    have h : ((bytes * n : Nat) : Int) ≤ 281474976710656 := by omega
    rwa [Int.natCast_mul] at h
  have hr := run_make (P := P) w t e i z h1 h2 h3 kl kc n n (by omega) (Int.le_refl _) hb h63
  simp only [Int.toNat_natCast] at hr
  unfold Oper.wp
  simp [execOp, hop, hl, hc, hr, Result.andThen]
  exact hK' _ _ (hK _ (by rw [h4, Nat.mul_one, hzc, toList_madeCells_one]))

end Go.Proofs.Ytpchnpdolhogdaa
