/-
  slices.Clone of a list of instructions, and of a list of types: a list of its own with the same in it.
-/
import Derived.Test.YthdpgachdegcgaaMoRefRdC
import Derived.Lib.SliceRun
namespace Go.Proofs.Ythdpgachdegcgaa
open Go.RowKit
set_option linter.unusedVariables false
set_option maxRecDepth 100000

theorem pairV_get (l : List (Int × Int)) : ∀ (j : Nat) (u : Value), (pairV l)[j]? = some u → ∃ x, l[j / 2]? = some x ∧ [Value.int .i64 x.1, .int .i64 x.2][j % 2]? = some u := by
  induction l with
  | nil => intro j u h; simp [pairV] at h
  | cons a r ih =>
    intro j u h
    match j, h with
    | 0, h => exact ⟨a, by simp, by simpa [pairV, List.flatMap_cons] using h⟩
    | 1, h => exact ⟨a, by simp, by simpa [pairV, List.flatMap_cons] using h⟩
    | j + 2, h =>
      obtain ⟨x, h1, h2⟩ := ih j u (by simpa [pairV, List.flatMap_cons] using h)
      refine ⟨x, ?_, ?_⟩
      · rw [show (j + 2) / 2 = j / 2 + 1 by omega]; simpa using h1
      · rw [show (j + 2) % 2 = j % 2 by omega]; exact h2

theorem addr_add (b off j : Nat) : (⟨b, off, none⟩ : Addr).add j = ⟨b, off + j, none⟩ := by unfold Addr.add; split <;> simp_all

/-- the cells that a list of pairs lies in -/
theorem PrA.row {lo hi : Nat} {w : World} {p : Addr} {n : Nat} {l : List (Int × Int)} (h : PrA lo hi w (some p) n l) : ∀ (j : Nat) (u : Value), (pairV l)[j]? = some u → w.cell? (p.add j) = some u := by
  intro j u hu
  obtain ⟨x, h1, h2⟩ := pairV_get l j u hu
  have hl := h.len
  have hj : j / 2 < n := by rw [← hl]; exact (List.getElem?_eq_some_iff.1 h1).1
  obtain ⟨b, off, y, vs, e, _, _, h4, h5, rfl, _⟩ := Arr.at h hj
  cases e
  have e2 := h4.symm.trans h1
  simp only [Option.some.injEq] at e2
  subst e2
  rw [addr_add]
  have := h5 (j % 2) u h2
  rwa [show off + j / 2 * 2 + j % 2 = off + j by omega] at this

theorem TyA.cells {lo hi : Nat} {w : World} {p : Addr} {n : Nat} {l : List Int} (h : TyA lo hi w (some p) n l) : ∀ (j : Nat) (u : Value), (l.map (Value.int .i64))[j]? = some u → w.cell? (p.add j) = some u := by
  intro j u hu
  rw [List.getElem?_map] at hu
  obtain ⟨x, h1, rfl⟩ := Option.map_eq_some_iff.1 hu
  have hl := h.len
  have hj : j < n := by rw [← hl]; exact (List.getElem?_eq_some_iff.1 h1).1
  obtain ⟨b, off, t, e, _, _, h4, _, h5⟩ := TyA.get h hj
  cases e
  have e2 := h4.symm.trans h1
  simp only [Option.some.injEq] at e2
  subst e2
  rw [addr_add]
  exact h5

theorem pairV_one (l : List (Int × Int)) : ∀ u ∈ pairV l, u.oneCell' = true := by
  intro u hu
  simp only [pairV, List.mem_flatMap] at hu
  obtain ⟨p, _, hp⟩ := hu
  exact two_c2 _ _ u hp

set_option maxHeartbeats 1000000 in
theorem cloneI_calls {lo hi : Nat} {w : World} {a : Option Addr} {n : Nat} {l : List (Int × Int)} (h : PrA lo hi w a n l) (c : Nat) (hb : n ≤ 8796093022208) :
    Calls Try.prog 25 #[.slice a n c] w fun e w' => ∃ v, e = .returned v ∧ w'.ownsRow 0 37 2 v n (pairV l) ∧ (∀ g, v.ownBlock = some g → w.heap.size ≤ g) ∧ Fr (fun _ => False) w w' := by
  have hl := h.len
  have q : ∀ (w : World) (a : Option Addr) (n c n' c' : Nat), (binOp .eql 39 (.slice a n c) (.slice none n' c')).run Try.prog w = .ok (.bool a.isNone) w := fun w a n c n' c' => Lib.run_eql_slice_nil w _ _ a n c n' c' Try.underlying39
  cases a with
  | none =>
    have h0 : n = 0 := by
      rcases h.at' with h0 | ⟨b, off, e, _⟩
      · exact h0
      · cases e
    subst h0
    obtain rfl : l = [] := List.length_eq_zero_iff.1 hl
    go_enter Try.func25, Try.ntmps25
    go_wp2
    go_ret
    exact ⟨_, rfl, World.ownsRow_nil _ _ _ _, fun g hg => by simp [Value.ownBlock] at hg, Fr.refl _ _⟩
  | some p =>
    have HR := hide (PrA.row h)
    have hpl := pairV_len l
    clear h
    go_enter Try.func25, Try.ntmps25
    go_wp2_with (at_builtin; refine wpList_append_info _ rfl _ _ 39 rfl 37 (insV 0 0) 2 16 Try.underlying39 infoIn rfl (by decide) _ _ _ rfl (World.ownsRow_made w #[] 0 (Nat.zero_le _) (Nat.zero_le _) rfl) p n c (pairV l) rfl ?c0 ?c1 (pairV_one l) ?c3 ?c4 ?_)
    case c0 => omega
    case c1 =>
      intro j u hu
      exact Lib.cell?_alloc_some _ (unhide HR j u hu)
    case c3 => unfold maxLen; omega
    case c4 => omega
    intro v' w' ho hgr ha
    go_wp2
    go_ret
    refine ⟨v', rfl, by simpa using ho, ?_, ((Fr.refl _ w).alloc _).grown hgr (fun g hg => .inl (by simp [Value.ownBlock] at hg; omega))⟩
    intro g hg
    rcases ha with e | e
    · rw [e] at hg; simp [Value.ownBlock] at hg; omega
    · rw [e] at hg; cases hg; simp

end Go.Proofs.Ythdpgachdegcgaa
