/-
  A slice that is held, cut at both ends and appended to: where its cells lie, and what append makes of it. Of no program.
-/
import Derived.Test.YtijiackjlgpgpaaKit
import Derived.Deep.Upon
namespace Go.Proofs.Ytijiackjlgpgpaa
open Go.RowKit
set_option linter.unusedVariables false

/-- the slice v of n elements of sz cells each, its block from lo on; the cells vs -/
def OS (w : World) (lo : Nat) (e : TypeId) (sz : Nat) (v : Value) (n : Nat) (vs : List Value) : Prop :=
  vs.length = n * sz ∧ ∃ a cap, v = .slice a n cap ∧ n ≤ cap ∧ cap ≤ maxLen ∧
    ((a = none ∧ cap = 0) ∨ ∃ g off cur, a = some ⟨g, off, none⟩ ∧ lo ≤ g ∧ w.heap[g]? = some (.cells cur e (0, 0)) ∧ off + cap * sz ≤ cur.size ∧ ∀ j u, vs[j]? = some u → cur[off + j]? = some u)

/-- the blocks that an append to such a slice may turn -/
def RowsOf (w : World) (lo : Nat) (e : TypeId) (k : Nat) : Prop := lo ≤ k ∧ ∃ cs, w.heap[k]? = some (.cells cs e (0, 0))

theorem OS.nil (w : World) (lo : Nat) (e : TypeId) (sz : Nat) : OS w lo e sz (.slice none 0 0) 0 [] :=
  ⟨by simp, none, 0, rfl, Nat.le_refl _, Nat.zero_le _, .inl ⟨rfl, rfl⟩⟩

theorem OS.fr {P : Nat → Prop} {w w' : World} {lo : Nat} {e : TypeId} {sz : Nat} {v : Value} {n : Nat} {vs : List Value} (h : OS w lo e sz v n vs) (hf : Fr P w w') (hP : ∀ k, RowsOf w lo e k → ¬ P k) : OS w' lo e sz v n vs := by
  obtain ⟨h1, a, cap, h2, h3, h4, h5⟩ := h
  refine ⟨h1, a, cap, h2, h3, h4, ?_⟩
  rcases h5 with h5 | ⟨g, off, cur, g1, g2, g3, g4⟩
  · exact .inl h5
  · exact .inr ⟨g, off, cur, g1, g2, hf.blk g3 (hP g ⟨g2, cur, g3⟩), g4⟩

theorem OS.lower {w : World} {lo lo' : Nat} {e : TypeId} {sz : Nat} {v : Value} {n : Nat} {vs : List Value} (h : OS w lo e sz v n vs) (hl : lo' ≤ lo) : OS w lo' e sz v n vs := by
  obtain ⟨h1, a, cap, h2, h3, h4, h5⟩ := h
  refine ⟨h1, a, cap, h2, h3, h4, ?_⟩
  rcases h5 with h5 | ⟨g, off, cur, g1, g2, g3, g4⟩
  · exact .inl h5
  · exact .inr ⟨g, off, cur, g1, by omega, g3, g4⟩

theorem OS.ofOwns {w : World} {lo : Nat} {e : TypeId} {sz : Nat} {v : Value} {n : Nat} {vs : List Value} (h : w.ownsRow lo e sz v n vs) : OS w lo e sz v n vs := by
  refine ⟨h.1, ?_⟩
  rcases h.2 with ⟨rfl, rfl⟩ | ⟨g, cap, cur, rfl, hb, hg, hn, hm, hs, ht⟩
  · exact ⟨none, 0, rfl, Nat.le_refl _, Nat.zero_le _, .inl ⟨rfl, rfl⟩⟩
  · refine ⟨_, cap, rfl, hn, hm, .inr ⟨g, 0, cur, rfl, hb, hg, by omega, fun j u hj => ?_⟩⟩
    have hl := (List.getElem?_eq_some_iff.1 hj).1
    have : cur.toList[j]? = some u := by
      rw [← ht, List.getElem?_take] at hj
      split at hj
      · exact hj
      · cases hj
    simpa using this

/-- a row of its own, just made -/
theorem OS.new {w : World} {lo : Nat} {e : TypeId} {sz n : Nat} {vs : List Value} (hl : vs.length = n * sz) (hn : n ≤ maxLen) (hlo : lo ≤ w.heap.size) : OS (w.alloc (.cells vs.toArray e)) lo e sz (.slice (some ⟨w.heap.size, 0, none⟩) n n) n vs :=
  ⟨hl, _, n, rfl, Nat.le_refl _, hn, .inr ⟨_, 0, _, rfl, hlo, blk_new _ _, by simp [hl], fun j u hj => by simpa using hj⟩⟩

theorem OS.cell {w : World} {lo : Nat} {e : TypeId} {sz : Nat} {v : Value} {n : Nat} {vs : List Value} (h : OS w lo e sz v n vs) : ∃ a cap, v = .slice a n cap ∧ n ≤ cap ∧ cap ≤ maxLen ∧ (0 < cap → ∃ g off, a = some ⟨g, off, none⟩ ∧ lo ≤ g ∧ (∀ j, j < cap * sz → ∃ u, w.cell? ⟨g, off + j, none⟩ = some u ∧ w.frozen? ⟨g, off + j, none⟩ = false) ∧ ∀ j u, vs[j]? = some u → w.cell? ⟨g, off + j, none⟩ = some u) := by
  obtain ⟨h1, a, cap, h2, h3, h4, h5⟩ := h
  refine ⟨a, cap, h2, h3, h4, fun hc => ?_⟩
  rcases h5 with h5 | ⟨g, off, cur, g1, g2, g3, g4, g5⟩
  · omega
  · refine ⟨g, off, g1, g2, fun j hj => ⟨cur[off + j]'(by omega), by rw [cell_at g3, Array.getElem?_eq_getElem (by omega)], free_at g3 _⟩, fun j u hj => by rw [cell_at g3]; exact g5 j u hj⟩

/-- v[k:] -/
theorem OS.drop {w : World} {lo : Nat} {e : TypeId} {sz : Nat} {v : Value} {n : Nat} {vs : List Value} (h : OS w lo e sz v n vs) (k : Nat) (hk : k ≤ n) : ∃ a cap, v = .slice a n cap ∧
    (∀ a' : Option Addr, (k < cap → ∃ g off, a = some ⟨g, off, none⟩ ∧ a' = some ⟨g, off + k * sz, none⟩) → (cap ≤ k → a' = a) → OS w lo e sz (.slice a' (n - k) (cap - k)) (n - k) (vs.drop (k * sz))) := by
  obtain ⟨h1, a, cap, h2, h3, h4, h5⟩ := h
  refine ⟨a, cap, h2, fun a' ha1 ha2 => ⟨by rw [List.length_drop, h1, Nat.sub_mul], a', cap - k, rfl, by omega, by omega, ?_⟩⟩
  rcases h5 with ⟨h5, h6⟩ | ⟨g, off, cur, g1, g2, g3, g4, g5⟩
  · left; exact ⟨by rw [ha2 (by omega), h5], by omega⟩
  · right
    by_cases hc : k < cap
    · obtain ⟨g', off', e1, rfl⟩ := ha1 hc
      rw [g1] at e1; cases e1
      refine ⟨g, off + k * sz, cur, rfl, g2, g3, ?_, fun j u hj => ?_⟩
      · rw [Nat.sub_mul]
        have : k * sz ≤ cap * sz := Nat.mul_le_mul_right _ (by omega)
        omega
      · rw [List.getElem?_drop] at hj
        have := g5 _ _ hj
        rwa [← Nat.add_assoc] at this
    · refine ⟨g, off, cur, by rw [ha2 (by omega), g1], g2, g3, ?_, fun j u hj => ?_⟩
      · rw [show cap - k = 0 by omega]; omega
      · rw [List.getElem?_drop] at hj
        have hl := (List.getElem?_eq_some_iff.1 hj).1
        obtain rfl : k = n := by omega
        omega

/-- v[:k] -/
theorem OS.take {w : World} {lo : Nat} {e : TypeId} {sz : Nat} {v : Value} {n : Nat} {vs : List Value} (h : OS w lo e sz v n vs) (k : Nat) (hk : k ≤ n) : ∃ a cap, v = .slice a n cap ∧ OS w lo e sz (.slice a k cap) k (vs.take (k * sz)) := by
  obtain ⟨h1, a, cap, h2, h3, h4, h5⟩ := h
  refine ⟨a, cap, h2, ?_, a, cap, rfl, by omega, h4, ?_⟩
  · rw [List.length_take, h1]
    have : k * sz ≤ n * sz := Nat.mul_le_mul_right _ hk
    omega
  · rcases h5 with h5 | ⟨g, off, cur, g1, g2, g3, g4, g5⟩
    · exact .inl h5
    · refine .inr ⟨g, off, cur, g1, g2, g3, g4, fun j u hj => g5 j u ?_⟩
      rw [List.getElem?_take] at hj
      split at hj
      · exact hj
      · cases hj

theorem blk_setCells {e : TypeId} {g : Nat} : ∀ (vs : List Value) (o : Nat) (w : World) (cur : Array Value), w.heap[g]? = some (.cells cur e (0, 0)) → ∃ cur', (w.setCells g o vs).heap[g]? = some (.cells cur' e (0, 0)) ∧ cur'.size = cur.size
  | [], _, _, cur, h => ⟨cur, h, rfl⟩
  | v :: r, o, w, cur, h => by
    obtain ⟨c', h1, h2⟩ := blk_setCells r (o + 1) (w.setCell ⟨g, o, none⟩ v) _ (blk_setCell (i := o) (u := v) h)
    exact ⟨c', h1, by rw [h2]; simp⟩

theorem fr_setCells (g : Nat) : ∀ (vs : List Value) (o : Nat) (w : World), Fr (fun k => k = g) w (w.setCells g o vs)
  | [], _, w => Fr.refl _ w
  | v :: r, o, w => (Fr.set1 w g o v).trans (fr_setCells g r (o + 1) _) (fun _ _ h => h) (fun _ _ h => h)

/-- what is appended: another slice of its kind, or none -/
theorem OS.src {P : Program} {w : World} {lo : Nat} {e : TypeId} {sz : Nat} {v : Value} {n : Nat} {vs : List Value} {tx e' : TypeId} (h : OS w lo e sz v n vs) (hk : P.underlying tx = some (.slice e')) (h1 : ∀ u ∈ vs, u.oneCell' = true) : Src P sz tx v n vs w := by
  obtain ⟨hl, a, cap, rfl, h3, h4, h5⟩ := h
  rcases h5 with ⟨rfl, rfl⟩ | ⟨g, off, cur, rfl, g2, g3, g4, g5⟩
  · obtain rfl : n = 0 := by omega
    obtain rfl : vs = [] := List.eq_nil_of_length_eq_zero (by simpa using hl)
    exact Src.ofNil w hk 0
  · exact Src.ofSlice w hk _ _ _ _ hl (fun j u hj => by rw [Addr.add_lit, cell_at g3]; exact g5 j u hj) h1

theorem run_append_os {P : Program} (w : World) (t ty e : TypeId) (i : TypeInfo) (z : Value) (sz bytes : Nat) (ht : P.underlying t = some (.slice e)) (hi : P.info? e = some i) (hz : i.zero = some z)
    (hsize : i.size = sz) (hby : i.bytes = bytes) (hzs : z.cells.size = sz) (lo : Nat) (v : Value) (n : Nat) (vs : List Value) (h : OS w lo e sz v n vs) (x : Value) (m : Nat) (news : List Value) (hs : Src P sz t x m news w)
    (h63 : n + m ≤ maxLen) (hbytes : (n + m) * bytes ≤ 140737488355328) (hlo : lo ≤ w.heap.size) :
    ∃ v' w', (Builtin.append_ #[t, t] ty #[v, x]).run P w = .ok v' w' ∧ OS w' lo e sz v' (n + m) (vs ++ news) ∧ Fr (RowsOf w lo e) w w' := by
  subst hsize hby
  have hll : (vs ++ news).length = (n + m) * i.size := by rw [List.length_append, h.1, hs.newsLen, Nat.add_mul]
  obtain ⟨hl, a, cap, rfl, h3, h4, h5⟩ := h
  by_cases hroom : n + m ≤ cap
  · rcases h5 with ⟨rfl, rfl⟩ | ⟨g, off, cur, rfl, g2, g3, g4, g5⟩
    · obtain ⟨rfl, rfl⟩ : n = 0 ∧ m = 0 := by omega
      have e1 : news = [] := List.eq_nil_of_length_eq_zero (by simpa using hs.newsLen)
      have e2 : vs = [] := List.eq_nil_of_length_eq_zero (by simpa using hl)
      subst e1 e2
      exact ⟨_, _, run_append_nothing (P := P) w t t ty e i ht hi none 0 0 (Nat.le_refl _) x hs, OS.nil _ _ _ _, Fr.refl _ _⟩
    · have hle : (n + m) * i.size ≤ cap * i.size := Nat.mul_le_mul_right _ hroom
      have hnl := hs.newsLen
      rw [Nat.add_mul] at hle
      have hcell : ∀ j, j < news.length → (w.cell? ⟨g, off + n * i.size + j, none⟩).isSome = true := fun j hj => by
        rw [cell_at g3, Array.getElem?_eq_getElem (by omega)]; rfl
      refine ⟨_, _, run_append_room_src (P := P) w t t ty e i ht hi g off n cap x m news hs hroom hcell (fun j hj => free_at g3 _), ?_, (fr_setCells g news _ w).mono (fun k _ hk => ⟨by omega, cur, by rw [hk]; exact g3⟩)⟩
      obtain ⟨cur', q1, q2⟩ := blk_setCells news (off + n * i.size) w cur g3
      refine ⟨hll, _, cap, rfl, hroom, h4, .inr ⟨g, off, cur', rfl, g2, q1, by omega, fun j u hj => ?_⟩⟩
      rw [← cell_at q1]
      by_cases hjl : j < vs.length
      · rw [List.getElem?_append_left hjl] at hj
        rw [World.cell?_setCells_out g news _ w ⟨g, off + j, none⟩ (fun _ _ => .inl (by dsimp only; omega)), cell_at g3]
        exact g5 j u hj
      · rw [List.getElem?_append_right (by omega)] at hj
        have hjn := (List.getElem?_eq_some_iff.1 hj).1
        have := World.cell?_setCells_in g news (off + n * i.size) w hcell (j - vs.length) hjn
        rw [show off + n * i.size + (j - vs.length) = off + j by omega] at this
        rw [this, ← hj, List.getElem?_eq_getElem hjn]
  · have hold : (Builtin.firstCells i.size n (.slice a n cap)).run P w.drew = .ok vs.toArray w.drew := by
      rcases h5 with ⟨rfl, rfl⟩ | ⟨g, off, cur, rfl, g2, g3, g4, g5⟩
      · obtain rfl : n = 0 := by omega
        have e2 : vs = [] := List.eq_nil_of_length_eq_zero (by simpa using hl)
        subst e2
        exact run_firstCells_none w.drew i.size 0 0 0
      · exact run_firstCells_some w.drew i.size n _ n cap vs hl (fun j u hj => by rw [Addr.add_lit]; exact (cell_at (w := w) g3 _).trans (g5 j u hj))
    have hsmall : n + m ≤ 9223372036854775807 := by simp only [maxLen] at h63; omega
    have hge := grownCap_ge w (n + m) cap e
    have hcm : grownCap w (n + m) cap e ≤ maxLen := grownCap_le_maxLen w (n + m) cap e h63
    refine ⟨_, _, run_append_grow_src (P := P) w t t ty e i z ht hi hz a n cap vs hold x m news hs (by omega) (by omega) (growslice_fits (by omega) hbytes), ?_, ((Fr.refl _ w).drew).alloc _⟩
    refine ⟨hll, _, _, rfl, hge, hcm, .inr ⟨_, 0, _, rfl, hlo, blk_new w.drew _, ?_, fun j u hj => ?_⟩⟩
    · simp only [Array.size_append, List.size_toArray, size_zeroCells, hzs, hll]
      rw [← Nat.add_mul, Nat.zero_add]
      exact Nat.le_of_eq (congrArg (· * i.size) (by omega))
    · have hjl := (List.getElem?_eq_some_iff.1 hj).1
      rw [Nat.zero_add, Array.getElem?_append_left (by simpa using hjl)]
      simpa using hj

theorem wpList_append_os {P : Program} (w : World) {ops : Array Oper} {rest : List Oper} {o : Oper} {a : Act} {Q : Exit → Act → World → Prop} (hgd : o.guard = none) (s x : Operand) (t : TypeId)
    (ho : o.op = .call { callee := .builtin .append, args := #[s, x], argTypes := #[t, t] })
    (e : TypeId) (z : Value) (sz bytes : Nat) (ht : P.underlying t = some (.slice e)) (hin : (P.info? e).map (fun i => (i.zero, i.size, i.bytes)) = some (some z, sz, bytes)) (hzs : z.cells.size = sz)
    (lo : Nat) (v : Value) (n : Nat) (vs : List Value) (hsv : a.eval s = v) (h : OS w lo e sz v n vs) (y : Value) (m : Nat) (news : List Value) (hx : a.eval x = y) (hs : Src P sz t y m news w)
    (h63 : n + m ≤ maxLen) (hbytes : (n + m) * bytes ≤ 140737488355328) (hlo : lo ≤ w.heap.size)
    (hK : ∀ v' w', OS w' lo e sz v' (n + m) (vs ++ news) → Fr (RowsOf w lo e) w w' → wpList P ops Q rest (a.put o.dst v') w') : wpList P ops Q (o :: rest) a w := by
  obtain ⟨i, h2, h3, h4, h5⟩ := info_parts hin
  obtain ⟨v', w', hr, r1, r2⟩ := run_append_os (P := P) w t o.type e i z sz bytes ht h2 h3 h4 h5 hzs lo v n vs h y m news hs h63 hbytes hlo
  refine wpList_plain hgd fun K hK' => ?_
  unfold Oper.wp execOp
  simp only [ho, resolve, invoke, builtin, Sem.run_bind, Sem.run_pure, Result.andThen_ok, List.map_toArray, List.map_cons, List.map_nil, hsv, hx, hr]
  exact hK' _ _ (hK v' w' r1 r2)

end Go.Proofs.Ytijiackjlgpgpaa
