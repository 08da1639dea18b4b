/-
  A copy of a heap's list.
-/
import Derived.Test.YtijiackjlgpgpaaHpSort
import Derived.Test.YtijiackjlgpgpaaHpPut2
namespace Go.Proofs.Ytijiackjlgpgpaa
open Go.RowKit
set_option linter.unusedVariables false
set_option maxRecDepth 8192

theorem slEqNil (w : World) : (binOp .eql 59 (.slice none 0 0) (.slice none 0 0)).run Try.prog w = .ok (.bool true) w := by kernel_rfl

theorem slEqSome (a : Addr) (n c : Nat) (w : World) : (binOp .eql 59 (.slice (some a) n c) (.slice none 0 0)).run Try.prog w = .ok (.bool false) w := by kernel_rfl

theorem clone_nil (w : World) :
    Calls Try.prog 46 #[.slice none 0 0] w fun e w' => e = .returned (.slice none 0 0) ∧ w = w' := by
  have heq := slEqNil
  go_enter Try.func46, Try.ntmps46
  go_wp2
  go_ret
  exact ⟨rfl, rfl⟩

theorem empty_owns (w : World) : (w.alloc (.cells #[] 65)).ownsRow 0 65 3 (.slice (some ⟨w.heap.size, 0, none⟩) 0 0) 0 [] :=
  ⟨rfl, .inr ⟨w.heap.size, 0, #[], rfl, Nat.zero_le _, blk_new w _, Nat.le_refl _, Nat.zero_le _, rfl, rfl⟩⟩

set_option maxHeartbeats 2000000 in
theorem clone_calls {w : World} {g cap : Nat} {L : List (En Int)} (h : Rw w g cap L) (hl : L.length ≤ cap) (hc : cap ≤ maxLen) (hn : L.length ≤ 4194304) :
    Calls Try.prog 46 #[.slice (some ⟨g, 0, none⟩) L.length cap] w fun e w' => (∃ a c, e = .returned (.slice a L.length c) ∧ (0 < L.length → ∃ q, a = some ⟨q, 0, none⟩ ∧ w.heap.size ≤ q ∧ Rw w' q c L)) ∧ Fr (fun _ => False) w w' := by
  obtain ⟨vs, hown, hsays, hlen⟩ := says_owns h hl hc
  have hcells := hown.cells (g := g) rfl
  have hone : ∀ u ∈ vs, u.oneCell' = true := by
    intro u hu
    obtain ⟨j, hj⟩ := List.getElem?_of_mem hu
    have hjl := (List.getElem?_eq_some_iff.1 hj).1
    obtain ⟨e, he⟩ := get_some (L := L) (i := j / 3) (by omega)
    obtain ⟨b1, b2, b3⟩ := hsays _ e he
    rcases (show j % 3 = 0 ∨ j % 3 = 1 ∨ j % 3 = 2 by omega) with hm | hm | hm
    · rw [show j = j / 3 * 3 by omega, b1] at hj; cases hj; rfl
    · rw [show j = j / 3 * 3 + 1 by omega, b2] at hj; cases hj; rfl
    · rw [show j = j / 3 * 3 + 2 by omega, b3] at hj; cases hj; rfl
  have hE := empty_owns w
  have hS := hide hsays
  have hcl : ∀ (j : Nat) (u : Value), vs[j]? = some u → (w.alloc (.cells #[] 65)).cell? ((⟨g, 0, none⟩ : Addr).add j) = some u := fun j u hj => by
    have h1 := hcells j u hj
    rw [Addr.add_lit] at h1 ⊢
    exact (World.cell?_of_block (w := w) (a := ⟨g, 0 + j, none⟩) (((Fr.refl (fun _ => False) w).alloc (.cells #[] 65)).block g (World.block_lt_of_cell? w _ h1) (fun h => h))).trans h1
  have HL := hide hlen
  have HC := hide hcl
  have HW := hide hone
  clear hsays hlen hown hcells hcl hone
  obtain ⟨i0, hi, hz0, hz1, hz2⟩ := info_parts infoEn
  have HI := hide hi
  clear hi
  have heq := slEqSome
  go_enter Try.func46, Try.ntmps46
  go_wp2_with (at_builtin; refine wpList_append_foot _ rfl _ _ 59 rfl 65 i0 (enV ⟨0, 0, 0⟩) 3 24 Try.underlying59 (unhide HI) hz0 hz1 hz2 rfl (by decide) _ _ _ rfl hE ⟨g, 0, none⟩ L.length cap vs rfl (unhide HL) (unhide HC) (unhide HW) (by unfold maxLen; omega) (by omega) ?_)
  intro v' w2 ho hgr ha
  obtain ⟨a2, c2, rfl⟩ := slice_own ho
  go_wp2
  go_ret
  have hF : Fr (fun _ => False) w w2 := ((Fr.refl _ w).alloc _).grown hgr (fun g hg => .inl (by simp [Value.ownBlock] at hg; omega))
  try rw [Nat.zero_add, List.nil_append] at ho
  refine ⟨⟨a2, c2, by simp, fun hpos => ?_⟩, hF⟩
  try rw [Nat.zero_add] at ha
  obtain ⟨q, cp, e1, hR, q1, q2, hob⟩ := owns_says (v := .slice a2 L.length c2) ho (unhide hS) hpos
  injection e1 with e1 _ e3
  subst e1 e3
  rw [hob] at ha
  refine ⟨q, rfl, ?_, hR⟩
  rcases ha with e | e
  · simp [Value.ownBlock] at e; omega
  · injection e with e; subst e; simp

end Go.Proofs.Ytijiackjlgpgpaa
