/-
  A map from numbers to places, told as a function. Of no program but for two types' numbers.
-/
import Derived.Test.YtijiackjlgpgpaaProg
import Derived.Test.YtijiackjlgpgpaaKit
import Derived.Maps.OwnSet
namespace Go.Proofs.Ytijiackjlgpgpaa
open Go.RowKit
set_option linter.unusedVariables false
set_option maxRecDepth 8192

theorem lawI : Maps.Keyed Try.prog 3 := Maps.int_keyed Try.underlying3
theorem zeroI (w : World) : (zeroValue 3).run Try.prog w = .ok (.int .i64 0) w := by kernel_rfl

def upd (f : Int → Option Nat) (t : Int) (o : Option Nat) : Int → Option Nat := fun t' => if t' = t then o else f t'

theorem upd_same (f : Int → Option Nat) (t : Int) (o : Option Nat) : upd f t o t = o := by simp [upd]
theorem upd_other (f : Int → Option Nat) {t t' : Int} (o : Option Nat) (h : t' ≠ t) : upd f t o t' = f t' := by simp [upd, h]

/-- the map in block bm reads as f, of at most N entries -/
def PM (w : World) (bm N : Nat) (f : Int → Option Nat) : Prop :=
  ∃ D : DataW Unit, w.ownsMap Try.prog 3 (plainElem Try.prog 3) bm (Maps.size D) D ∧ Maps.size D ≤ N ∧
    ∀ t, Maps.has D (.int .i64 t) = (f t).isSome ∧ ∀ i, f t = some i → ∀ z, D.atKey (.int .i64 t) z = .lit (.int .i64 (i : Int))

theorem owns_tight {P : Program} {k : TypeId} {R : Value → Option (DataW Unit × List MemPlace)} {w : World} {b n : Nat} {D : DataW Unit} (h : w.ownsMap P k R b n D) : w.ownsMap P k R b (Maps.size D) D := by
  obtain ⟨es, clock, hb, F, hs, rfl⟩ := h
  exact ⟨es, clock, hb, F, by simp [Maps.size, length_sorted], rfl⟩

theorem PM.fr {P : Nat → Prop} {w w' : World} {bm N : Nat} {f : Int → Option Nat} (h : PM w bm N f) (hf : Fr P w w') (hn : ¬ P bm) : PM w' bm N f := by
  obtain ⟨D, ⟨es, clock, hb, r⟩, h2⟩ := h
  exact ⟨D, ⟨es, clock, hf.blk hb hn, r⟩, h2⟩

theorem PM.mono {w : World} {bm N M : Nat} {f : Int → Option Nat} (h : PM w bm N f) (hn : N ≤ M) : PM w bm M f := by
  obtain ⟨D, h1, h2, h3⟩ := h
  exact ⟨D, h1, by omega, h3⟩

theorem PM.blk {w : World} {bm N : Nat} {f : Int → Option Nat} (h : PM w bm N f) : ∃ es clock, w.heap[bm]? = some (.map es clock) := by
  obtain ⟨D, ⟨es, clock, hb, r⟩, h2⟩ := h
  exact ⟨es, clock, hb⟩

theorem PM.made (w : World) : PM (w.alloc (.map #[] 0)) w.heap.size 0 (fun _ => none) := by
  refine ⟨.map [], World.ownsMap_made w _ _ _, Nat.le_refl _, fun t => ⟨rfl, fun i h => by cases h⟩⟩

theorem turned_fr {w w' : World} {b : Nat} (h : w.mapTurned w' b) : Fr (fun k => k = b) w w' :=
  (Fr.refl _ w).grown h.grown (fun k hk => by cases hk; exact .inr rfl)

theorem PM.put {w : World} {bm N : Nat} {f : Int → Option Nat} (h : PM w bm N f) (hN : N < 8388608) (t : Int) (ht : -9223372036854775808 ≤ t ∧ t ≤ 9223372036854775807) (i : Nat) (hi : i ≤ 8388608) :
    ∃ w', (Instr.mapUpdate 60 (.map (some bm)) (.int .i64 t) (.int .i64 (i : Int))).run Try.prog w = .ok () w' ∧ PM w' bm (if (f t).isSome then N else N + 1) (upd f t (some i)) ∧ Fr (fun k => k = bm) w w' := by
  obtain ⟨D, h1, h2, h3⟩ := h
  obtain ⟨w', hr, r1, r2⟩ := h1.store (t := 60) (e := 3) lawI Try.underlying60 (by unfold maxLen; omega) (Maps.keyOf_int_mk Try.underlying3 (WalkArith.wf_i64 ht)) (plainElem_int Try.underlying3 (WalkArith.wf_i64 (n := (i : Int)) (by omega)))
  refine ⟨w', hr, ⟨_, owns_tight r1, ?_, fun t' => ?_⟩, turned_fr r2⟩
  · rw [Maps.size_put (h1.tidy lawI), (h3 t).1]
    split <;> omega
  · by_cases e : t' = t
    · subst e
      rw [upd_same]
      refine ⟨by rw [Maps.has_put_same h1.isMap (k := .int .i64 t') trivial]; rfl, fun j hj z => ?_⟩
      cases hj
      exact Maps.atKey_put_same h1.isMap (k := .int .i64 t') trivial _ _
    · have e' : (Lit.int .i64 t') ≠ .int .i64 t := fun h => e (by injection h)
      rw [upd_other _ _ e, Maps.has_put_other e']
      refine ⟨(h3 t').1, fun j hj z => ?_⟩
      rw [Maps.atKey_put_other e']
      exact (h3 t').2 j hj z

theorem PM.del {w : World} {bm N : Nat} {f : Int → Option Nat} (h : PM w bm N f) (t : Int) (ht : -9223372036854775808 ≤ t ∧ t ≤ 9223372036854775807) (ty : TypeId) :
    ∃ w', (Builtin.delete_ #[60, 3] ty #[.map (some bm), .int .i64 t]).run Try.prog w = .ok (.tuple #[]) w' ∧ PM w' bm N (upd f t none) ∧ Fr (fun k => k = bm) w w' := by
  obtain ⟨D, h1, h2, h3⟩ := h
  obtain ⟨w', hr, r1, r2⟩ := h1.drop (t := 60) (e := 3) lawI Try.underlying60 (Maps.keyOf_int_mk Try.underlying3 (WalkArith.wf_i64 ht)) ty
  refine ⟨w', hr, ⟨_, owns_tight r1, ?_, fun t' => ?_⟩, turned_fr r2⟩
  · have := Maps.size_del (h1.tidy lawI) (k := .int .i64 t)
    omega
  · by_cases e : t' = t
    · subst e
      rw [upd_same]
      exact ⟨by rw [Maps.has_del_same]; rfl, fun j hj => by cases hj⟩
    · have e' : (Lit.int .i64 t') ≠ .int .i64 t := fun h => e (by injection h)
      rw [upd_other _ _ e, Maps.has_del_other e']
      refine ⟨(h3 t').1, fun j hj z => ?_⟩
      rw [Maps.atKey_del_other e']
      exact (h3 t').2 j hj z

theorem PM.look {w : World} {bm N : Nat} {f : Int → Option Nat} (h : PM w bm N f) (t : Int) (ht : -9223372036854775808 ≤ t ∧ t ≤ 9223372036854775807) :
    ∃ c : Int, (Instr.lookup 60 (.map (some bm)) (.int .i64 t) true).run Try.prog w = .ok (.tuple #[.int .i64 c, .bool (f t).isSome]) w ∧ ∀ i, f t = some i → c = (i : Int) := by
  obtain ⟨D, h1, h2, h3⟩ := h
  obtain ⟨v, ps, hr, hv⟩ := h1.look_ok (t := 60) (e := 3) lawI Try.underlying60 (zeroI _) (plainElem_int Try.underlying3 (by decide)) (Maps.keyOf_int_mk Try.underlying3 (WalkArith.wf_i64 ht))
  obtain ⟨c, rfl, hc, hw⟩ := plainElem_int_inv Try.underlying3 hv
  rw [(h3 t).1] at hr
  refine ⟨c, hr, fun i hi => ?_⟩
  have h4 := (h3 t).2 i hi (.lit (.int .i64 0))
  have h5 := congrArg Prod.fst hc
  dsimp only at h5
  rw [h4] at h5
  injection h5 with h6
  injection h6 with _ h7
  exact h7.symm

theorem step_delete {P : Program} {ops : Array Oper} {o : Oper} {a : Act} {w w' : World} {K : Act → World → Prop} {Q : Exit → Act → World → Prop} {E : Prop}
    (hg : o.guard = none) (m x : Operand) (t k : TypeId) (hop : o.op = Op.call { callee := Callee.builtin Builtin.delete, args := #[m, x], argTypes := #[t, k] })
    (M X : Value) (hm : a.eval m = M) (hx : a.eval x = X) (hrun : (Builtin.delete_ #[t, k] o.type #[M, X]).run P w = .ok (.tuple #[]) w')
    (h : K (a.put o.dst (.tuple #[])) w') :
    if Region.wanted o (yielded ops a.tmps) = true then Oper.wp P o a w K Q else E := by
  have hw : Region.wanted o (yielded ops a.tmps) = true := by simp [Region.wanted, hg]
  rw [if_pos hw]
  unfold Oper.wp
  simp [execOp, hop, resolve, invoke, builtin, hm, hx, hrun, Result.andThen]
  exact h

end Go.Proofs.Ytijiackjlgpgpaa
