/-
  A thing is laid into a heap.
-/
import Derived.Test.YtijiackjlgpgpaaHpRemove
namespace Go.Proofs.Ytijiackjlgpgpaa
open Go.RowKit
set_option linter.unusedVariables false
set_option maxRecDepth 8192

theorem step_append_info {P : Program} {ops : Array Oper} {o : Oper} {a : Act} {w : World} {K : Act → World → Prop} {Q : Exit → Act → World → Prop} {E : Prop}
    (hg : o.guard = none) (s x : Operand) (t : TypeId) (ho : o.op = .call { callee := .builtin .append, args := #[s, x], argTypes := #[t, t] })
    (e : TypeId) (z : Value) (size bytes : Nat) (ht : P.underlying t = some (.slice e)) (hin : (P.info? e).map (fun i => (i.zero, i.size, i.bytes)) = some (some z, size, bytes)) (hzs : z.cells.size = size) (hsz : 0 < size)
    (v : Value) (n : Nat) (xs : List Value) (hs : a.eval s = v) (hown : w.ownsRow 0 e size v n xs)
    (ad : Addr) (m c : Nat) (news : List Value) (hx : a.eval x = .slice (some ad) m c) (hl : news.length = m * size) (hnews : ∀ j u, news[j]? = some u → w.cell? (ad.add j) = some u) (h1 : ∀ u ∈ news, u.oneCell' = true)
    (h63 : n + m ≤ maxLen) (hbytes : (n + m) * bytes ≤ 140737488355328)
    (h : ∀ v' w', w'.ownsRow 0 e size v' (n + m) (xs ++ news) → w.grownBy w' v.ownBlock → (v'.ownBlock = v.ownBlock ∨ v'.ownBlock = some w.heap.size) → K (a.put o.dst v') w') :
    if Region.wanted o (yielded ops a.tmps) = true then Oper.wp P o a w K Q else E := by
  have hw : Region.wanted o (yielded ops a.tmps) = true := by simp [Region.wanted, hg]
  rw [if_pos hw]
  obtain ⟨i0, hi, hz0, hz1, hz2⟩ := info_parts hin
  exact wp_append_foot w s x t ho e i0 z size bytes ht hi hz0 hz1 hz2 hzs hsz v n xs hs hown ad m c news hx hl hnews h1 h63 hbytes h

theorem infoEn : (Try.prog.info? 65).map (fun i => (i.zero, i.size, i.bytes)) = some (some (enV ⟨0, 0, 0⟩), 3, 24) := by kernel_rfl

/-- what the cells of a list say -/
def Says (vs : List Value) (L : List (En Int)) : Prop := ∀ (i : Nat) (e : En Int), L[i]? = some e → vs[i * 3]? = some (.int .i64 e.t) ∧ vs[i * 3 + 1]? = some (.int .i64 e.k) ∧ vs[i * 3 + 2]? = some (.int .i64 e.x)

theorem Says.snoc {vs : List Value} {L : List (En Int)} (h : Says vs L) (hl : vs.length = L.length * 3) (e : En Int) : Says (vs ++ [.int .i64 e.t, .int .i64 e.k, .int .i64 e.x]) (L ++ [e]) := by
  intro i d hd
  rw [List.getElem?_append] at hd
  split at hd
  · obtain ⟨h1, h2, h3⟩ := h i d hd
    exact ⟨by rw [List.getElem?_append_left (by omega)]; exact h1, by rw [List.getElem?_append_left (by omega)]; exact h2, by rw [List.getElem?_append_left (by omega)]; exact h3⟩
  · have := (List.getElem?_eq_some_iff.1 hd).1
    simp at this
    obtain rfl : i = L.length := by omega
    simp at hd
    subst hd
    exact ⟨by rw [List.getElem?_append_right (by omega)]; simp [hl], by rw [List.getElem?_append_right (by omega)]; simp [hl], by rw [List.getElem?_append_right (by omega)]; simp [hl]⟩

theorem says_owns {w : World} {g cap : Nat} {L : List (En Int)} (h : Rw w g cap L) (hl : L.length ≤ cap) (hc : cap ≤ maxLen) : ∃ vs, w.ownsRow 0 65 3 (.slice (some ⟨g, 0, none⟩) L.length cap) L.length vs ∧ Says vs L ∧ vs.length = L.length * 3 := by
  obtain ⟨cs, h1, h2, h3⟩ := h
  have hle : L.length * 3 ≤ cap * 3 := Nat.mul_le_mul_right _ hl
  refine ⟨cs.toList.take (L.length * 3), ⟨by rw [List.length_take]; simp; omega, .inr ⟨g, cap, cs, rfl, Nat.zero_le _, h1, hl, hc, h2, rfl⟩⟩, fun i e he => ?_, by rw [List.length_take]; simp; omega⟩
  have hlt := (List.getElem?_eq_some_iff.1 he).1
  obtain ⟨a1, a2, a3⟩ := h3 i e he
  exact ⟨by rw [List.getElem?_take, if_pos (by omega)]; simpa using a1, by rw [List.getElem?_take, if_pos (by omega)]; simpa using a2, by rw [List.getElem?_take, if_pos (by omega)]; simpa using a3⟩

theorem owns_says {w : World} {v : Value} {L : List (En Int)} {vs : List Value} (h : w.ownsRow 0 65 3 v L.length vs) (hs : Says vs L) (hn : 0 < L.length) :
    ∃ g cap, v = .slice (some ⟨g, 0, none⟩) L.length cap ∧ Rw w g cap L ∧ L.length ≤ cap ∧ cap ≤ maxLen ∧ v.ownBlock = some g := by
  rcases h.2 with ⟨_, h2⟩ | ⟨g, cap, cur, rfl, hb, hg, hnc, hcm, hcs, htake⟩
  · omega
  · refine ⟨g, cap, rfl, ⟨cur, hg, hcs, fun i e he => ?_⟩, hnc, hcm, rfl⟩
    have up : ∀ (j : Nat) (u : Value), vs[j]? = some u → cur[j]? = some u := fun j u hj => by
      rw [← htake, List.getElem?_take] at hj
      split at hj
      · simpa using hj
      · cases hj
    obtain ⟨a1, a2, a3⟩ := hs i e he
    exact ⟨up _ _ a1, up _ _ a2, up _ _ a3⟩

/-- a heap whose places are there; its list may not be -/
structure Pre (w : World) (b bm n : Nat) (M L : List (En Int)) (f : Int → Option Nat) (v : Value) (vs : List Value) : Prop where
  blk : w.heap[b]? = some (.cells #[v, .map (some bm), .int .i64 (n : Int)] 62 (0, 0))
  own : w.ownsRow 0 65 3 v L.length vs
  says : Says vs L
  len : vs.length = L.length * 3
  map : PM w bm n f
  pl : PL L f
  ho : HO L
  pm : L.Perm M
  lenn : L.length ≤ n
  wf : ∀ (i : Nat) (e : En Int), L[i]? = some e → 1 ≤ e.k ∧ e.k ≤ (n : Int)

/-- the heap at b; g, bm: its list's block and its places' (b itself, while they aren't there); n tickets so far; the things M -/
def IsHp (w : World) (b g bm n : Nat) (M : List (En Int)) : Prop :=
  (M = [] ∧ n = 0 ∧ g = b ∧ bm = b ∧ w.heap[b]? = some (.cells #[.slice none 0 0, .map none, .int .i64 0] 62 (0, 0))) ∨
    ∃ cap L f, HL w b g bm cap n M L f ∧ HO L

theorem IsHp.fr {P : Nat → Prop} {w w' : World} {b g bm n : Nat} {M : List (En Int)} (h : IsHp w b g bm n M) (hf : Fr P w w') (h1 : ¬ P b) (h2 : ¬ P g) (h3 : ¬ P bm) : IsHp w' b g bm n M := by
  rcases h with ⟨rfl, rfl, rfl, rfl, h⟩ | ⟨cap, L, f, h, hO⟩
  · exact .inl ⟨rfl, rfl, rfl, rfl, hf.blk h h1⟩
  · exact .inr ⟨cap, L, f, ⟨h.is.fr hf h1 h2 h3, h.pl, h.pm⟩, hO⟩

theorem IsHp.up {w w' : World} {b g bm n : Nat} {M : List (En Int)} (h : IsHp w b g bm n M) (hf : Fr (fun _ => False) w w') : IsHp w' b g bm n M := h.fr hf (fun h => h) (fun h => h) (fun h => h)

end Go.Proofs.Ytijiackjlgpgpaa
