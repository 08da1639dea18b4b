/-
  append inside a fence, with the block that it leaves. Of no program.
-/
import Derived.Test.YtijiackjlgpgpaaKit
import Derived.OwnWalkIn
import Derived.RangeFuncBox
namespace Go.Proofs.Ytijiackjlgpgpaa
open Go.RowKit
set_option linter.unusedVariables false

theorem owns_zero {w : World} {base : Nat} {e : TypeId} {size : Nat} {v : Value} {n : Nat} {xs : List Value} (h : w.ownsRow base e size v n xs) : w.ownsRow 0 e size v n xs := by
  refine ⟨h.1, ?_⟩
  rcases h.2 with h2 | ⟨g, cap, cur, rfl, hb, rest⟩
  · exact .inl h2
  · exact .inr ⟨g, cap, cur, rfl, Nat.zero_le _, rest⟩

theorem wpListIn_append_foot {F : Fence} {n : Nat} {P : Program} (w : World) {ops : Array Oper} {rest : List Oper} {o : Oper} {a : Act} {Q : Exit → Act → World → Prop}
    (hg : o.guard = none) (s x : Operand) (t : TypeId) (hop : o.op = Op.call { callee := Callee.builtin Builtin.append, args := #[s, x], argTypes := #[t, t] })
    (base : Nat) (e : TypeId) (z : Value) (size bytes : Nat) (h1 : P.underlying t = some (.slice e)) (hin : (P.info? e).map (fun i => (i.zero, i.size, i.bytes)) = some (some z, size, bytes)) (h6 : z.cells.size = size) (h7 : 0 < size)
    (v : Value) (k : Nat) (xs : List Value) (hs : a.eval s = v) (hown : w.ownsRow base e size v k xs) (ad : Addr) (m c : Nat) (news : List Value) (hx : a.eval x = .slice (some ad) m c) (hn : news.length = m * size)
    (hc : ∀ j u, news[j]? = some u → w.cell? (ad.add j) = some u) (h1c : ∀ u ∈ news, u.oneCell' = true) (b1 : k + m ≤ maxLen) (b2 : (k + m) * bytes ≤ 140737488355328) (b3 : base ≤ w.heap.size)
    (hK : ∀ v' w', w'.ownsRow base e size v' (k + m) (xs ++ news) → w.grownBy w' v.ownBlock → (v'.ownBlock = v.ownBlock ∨ v'.ownBlock = some w.heap.size) → wpListIn F n P ops Q rest (a.put o.dst v') w') :
    wpListIn F n P ops Q (o :: rest) a w := by
  obtain ⟨i, h2, h3, h4, h5⟩ := info_parts hin
  refine wpListIn_plain hg fun K hK' => ?_
  obtain ⟨v', w', hrun, r1, r2, r3⟩ := run_append_own (P := P) w base t o.type e i z size bytes h1 h2 h3 h4 h5 h6 h7 v k xs hown ad m c news hn hc h1c b1 b2 b3
  obtain ⟨v2, w2, hrun2, _, _, r4⟩ := run_append_foot (P := P) w t o.type e i z size bytes h1 h2 h3 h4 h5 h6 h7 v k xs (owns_zero hown) ad m c news hn hc h1c b1 b2
  rw [hrun] at hrun2
  simp only [Result.ok.injEq] at hrun2
  obtain ⟨rfl, rfl⟩ := hrun2
  unfold Oper.wpIn
  refine ⟨?_, ?_⟩
  · simp [Oper.about, hop, resolve, Target.leads, Sem.run_pure]
  · rw [Oper.semAt_plain F _ _ (by rw [hop]; intro c hc'; cases hc')]
    simp [execOp, hop, resolve, invoke, builtin, hs, hx, hrun, Result.andThen]
    exact hK' _ _ (hK v' w' r1 r2 r4)

/-- the block of the slice that a box holds -/
def rowBlk (W : World) (B : Nat) : Option Nat := match W.cell? ⟨B, 0, none⟩ with | some v => v.ownBlock | none => none

theorem rowBlk_boxed {W : World} {B : Nat} {t : TypeId} {v : Value} (h : Boxed W B t v) : rowBlk W B = v.ownBlock := by unfold rowBlk; rw [h.cell]
theorem rowBlk_same {W W' : World} {B : Nat} (h : W'.heap[B]? = W.heap[B]?) : rowBlk W' B = rowBlk W B := by unfold rowBlk World.cell?; simp only [h]

/-- what a round that appends to the slice in box B keeps: all cells but the box and the slice's own row, which stays or is new -/
structure KA (B : Nat) (W W' : World) : Prop where
  size : W.heap.size ≤ W'.heap.size
  row : rowBlk W' B = rowBlk W B ∨ ∀ k, rowBlk W' B = some k → W.heap.size ≤ k
  keep : ∀ k cs t, W.heap[k]? = some (.cells cs t (0, 0)) → k ≠ B → rowBlk W B ≠ some k → W'.heap[k]? = W.heap[k]?

theorem KA.trans {B : Nat} {X Y Z : World} (h : KA B X Y) (h' : KA B Y Z) : KA B X Z := by
  refine ⟨Nat.le_trans h.size h'.size, ?_, fun k cs t hk hB hr => ?_⟩
  · rcases h'.row with e | e
    · rcases h.row with f | f
      · exact .inl (e.trans f)
      · exact .inr fun k hk => f k (e ▸ hk)
    · exact .inr fun k hk => Nat.le_trans h.size (e k hk)
  · have e1 := h.keep k cs t hk hB hr
    refine (h'.keep k cs t (e1.trans hk) hB fun e => ?_).trans e1
    rcases h.row with f | f
    · exact hr (f ▸ e)
    · have := f k e
      have := lt_of_blk hk
      omega

theorem KA.refl (B : Nat) (W : World) : KA B W W := ⟨Nat.le_refl _, .inl rfl, fun _ _ _ _ _ _ => rfl⟩

theorem KA.put {B n : Nat} (hB : B < n) (W : World) (l : Nat) (o o' : Obj) (hl : n ≤ l) (h : W.heap[l]? = some o) (hc : o.isCells = false) (_ : o.isWalk = false) : KA B W (W.putObj l o') := by
  have e : ∀ k, k ≠ l → (W.putObj l o').heap[k]? = W.heap[k]? := fun k hk => by
    simp only [World.putObj]; rw [Array.getElem?_setIfInBounds, if_neg (by omega)]
  refine ⟨by simp [World.putObj], .inl (rowBlk_same (e B (by omega))), fun k cs t hk _ _ => e k ?_⟩
  rintro rfl
  rw [hk] at h; cases h; cases hc

theorem KA.append {B : Nat} {t : TypeId} {W w1 : World} {v v' : Value} {tmp : Obj} (hv : Boxed W B t v) (hne : v.ownBlock ≠ some B) (hg : (W.alloc tmp).grownBy w1 v.ownBlock) (hf : v'.ownBlock = v.ownBlock ∨ v'.ownBlock = some (W.alloc tmp).heap.size) : KA B W (w1.setCell ⟨B, 0, none⟩ v') := by
  have z := hg.size
  simp at z
  have e1 : Boxed w1 B t v := (hv.alloc tmp).kept hg (fun e => hne e.symm)
  refine ⟨by rw [World.setCell]; simp; omega, ?_, fun k cs ty hk hB hr => ?_⟩
  · rw [rowBlk_boxed (e1.set v'), rowBlk_boxed hv]
    rcases hf with hf | hf
    · exact .inl hf
    · refine .inr fun k hk => ?_
      rw [hf] at hk; cases hk; simp
  · rw [rowBlk_boxed hv] at hr
    rw [Below.heap_setCell _ _ _ _ (by exact hB), hg.block k (by have := lt_of_blk hk; simp; omega) (fun e => hr e.symm), Below.heap_alloc _ _ _ (lt_of_blk hk)]

end Go.Proofs.Ytijiackjlgpgpaa
