/-
  Three things in a heap: the head of all laws of this layer; a row of steps cut short; a step's kind.
-/
import Derived.Test.YtijiackjlgpgpaaHpCalls
import Derived.Test.YtijiackjlgpgpaaHpPut2
import Derived.Test.YtijiackjlgpgpaaHpNil
namespace Go.Proofs.Ytijiackjlgpgpaa
open Go.RowKit
set_option linter.unusedVariables false
set_option maxRecDepth 8192

/-- the heap's blocks, from lo on -/
structure Hp (w : World) (lo b n : Nat) (M : List (En Int)) : Prop where
  ex : ∃ g bm, IsHp w b g bm n M ∧ lo ≤ g ∧ lo ≤ bm
  lob : lo ≤ b

theorem Hp.fr {P : Nat → Prop} {w w' : World} {lo b n : Nat} {M : List (En Int)} (h : Hp w lo b n M) (hf : Fr P w w') (hP : ∀ k, lo ≤ k → ¬ P k) : Hp w' lo b n M := by
  obtain ⟨⟨g, bm, h1, h2, h3⟩, h4⟩ := h
  exact ⟨⟨g, bm, h1.fr hf (hP _ h4) (hP _ h2) (hP _ h3), h2, h3⟩, h4⟩

theorem Hp.up {w w' : World} {lo b n : Nat} {M : List (En Int)} (h : Hp w lo b n M) (hf : Fr (fun _ => False) w w') : Hp w' lo b n M := h.fr hf (fun _ _ h => h)

/-- nothing below lo has turned -/
abbrev FrL (lo : Nat) := Fr (fun k => lo ≤ k)

/-- a block of a heap's: the heap itself, its list, its places -/
def HK (w : World) (k : Nat) : Prop := (∃ es c, w.heap[k]? = some (.map es c)) ∨ (∃ cs, w.heap[k]? = some (.cells cs 65 (0, 0))) ∨ ∃ cs, w.heap[k]? = some (.cells cs 62 (0, 0))

/-- of what was there only heaps' blocks from lo on have turned -/
abbrev FrH (lo : Nat) (w w' : World) := Fr (fun k => lo ≤ k ∧ HK w k) w w'

theorem Fr.l {lo : Nat} {w w' : World} (h : FrH lo w w') : FrL lo w w' := h.mono (fun _ _ h => h.1)

theorem IsHp.hk {w : World} {b g bm n : Nat} {M : List (En Int)} (h : IsHp w b g bm n M) {k : Nat} (hk : k = b ∨ k = g ∨ k = bm) : HK w k := by
  rcases h with ⟨_, _, rfl, rfl, h⟩ | ⟨cap, L, f, h, hO⟩
  · obtain rfl : k = bm := by omega
    exact .inr (.inr ⟨_, h⟩)
  · rcases hk with rfl | rfl | rfl
    · exact .inr (.inr ⟨_, h.is.blk⟩)
    · obtain ⟨cs, h1, _⟩ := h.is.row
      exact .inr (.inl ⟨cs, h1⟩)
    · obtain ⟨es, c, h1⟩ := h.is.map.blk
      exact .inl ⟨es, c, h1⟩

theorem gnew (w : World) :
    Calls Try.prog 12 #[] w fun e w' => e = .returned (.pointer (some ⟨w.heap.size, 0, none⟩)) ∧ Hp w' w.heap.size w.heap.size 0 [] ∧ Fr (fun _ => False) w w' :=
  (hnew_calls w).mono fun e w' ⟨h1, h2, h3⟩ => ⟨h1, ⟨⟨_, _, h2, Nat.le_refl _, Nat.le_refl _⟩, Nat.le_refl _⟩, h3⟩

theorem gput {w : World} {lo b n : Nat} {M : List (En Int)} (h : Hp w lo b n M) (hlo : lo ≤ w.heap.size) (hn : n < 4194304) (t x : Int) :
    Calls Try.prog 14 #[.pointer (some ⟨b, 0, none⟩), .int .i64 t, .int .i64 x] w fun e w' => e = .returned (.int .i64 ((n : Int) + 1)) ∧ Hp w' lo b (n + 1) (M ++ [⟨t, (n : Int) + 1, x⟩]) ∧ FrH lo w w' := by
  obtain ⟨⟨g, bm, h1, h2, h3⟩, h4⟩ := h
  refine (hput_calls h1 hn t x).mono fun e w' ⟨r1, ⟨g', bm', r2, r3, r4⟩, r5⟩ => ⟨r1, ⟨⟨g', bm', r2, by omega, by omega⟩, h4⟩, r5.mono (fun i _ h => ⟨by rcases h with h | h | h <;> omega, h1.hk h⟩)⟩

theorem gcancel {w : World} {lo b n : Nat} {M : List (En Int)} (h : Hp w lo b n M) (t : Int) (ht : -9223372036854775808 ≤ t ∧ t ≤ 9223372036854775807) :
    Calls Try.prog 16 #[.pointer (some ⟨b, 0, none⟩), .int .i64 t] w fun r w' => r = .returned (.bool (hasK M t)) ∧ Hp w' lo b n (del M t) ∧ FrH lo w w' := by
  obtain ⟨⟨g, bm, h1, h2, h3⟩, h4⟩ := h
  refine (hcancel_calls h1 t ht).mono fun e w' ⟨r1, r2, r5⟩ => ⟨r1, ⟨⟨g, bm, r2, by omega, by omega⟩, h4⟩, r5.mono (fun i _ h => ⟨by rcases h with h | h | h <;> omega, h1.hk h⟩)⟩

theorem gpop_yes {w : World} {lo b n : Nat} {M : List (En Int)} (h : Hp w lo b n M) (e : En Int) (he : Le M e) (now : Int) (ht : e.t ≤ now) :
    Calls Try.prog 18 #[.pointer (some ⟨b, 0, none⟩), .int .i64 now] w fun r w' => r = .returned (.tuple #[.int .i64 e.x, .int .i64 e.t, .bool true]) ∧ Hp w' lo b n (del M e.k) ∧ FrH lo w w' := by
  obtain ⟨⟨g, bm, h1, h2, h3⟩, h4⟩ := h
  refine (hpop_yes h1 e he now ht).mono fun e w' ⟨r1, r2, r5⟩ => ⟨r1, ⟨⟨g, bm, r2, by omega, by omega⟩, h4⟩, r5.mono (fun i _ h => ⟨by rcases h with h | h | h <;> omega, h1.hk h⟩)⟩

theorem gpop_no {w : World} {lo b n : Nat} {M : List (En Int)} (h : Hp w lo b n M) (e : En Int) (he : Le M e) (now : Int) (ht : now < e.t) :
    Calls Try.prog 18 #[.pointer (some ⟨b, 0, none⟩), .int .i64 now] w fun r w' => r = .returned (.tuple #[.int .i64 0, .int .i64 0, .bool false]) ∧ w = w' := by
  obtain ⟨⟨g, bm, h1, h2, h3⟩, h4⟩ := h
  exact hpop_no h1 e he now ht

theorem gpop_none {w : World} {lo b n : Nat} (h : Hp w lo b n []) (now : Int) :
    Calls Try.prog 18 #[.pointer (some ⟨b, 0, none⟩), .int .i64 now] w fun r w' => r = .returned (.tuple #[.int .i64 0, .int .i64 0, .bool false]) ∧ w = w' := by
  obtain ⟨⟨g, bm, h1, h2, h3⟩, h4⟩ := h
  exact hpop_none h1 now

theorem gnext_some {w : World} {lo b n : Nat} {M : List (En Int)} (h : Hp w lo b n M) (e : En Int) (he : Le M e) :
    Calls Try.prog 20 #[.pointer (some ⟨b, 0, none⟩)] w fun r w' => r = .returned (.tuple #[.int .i64 e.t, .bool true]) ∧ w = w' := by
  obtain ⟨⟨g, bm, h1, h2, h3⟩, h4⟩ := h
  exact hnext_some h1 e he

theorem gnext_none {w : World} {lo b n : Nat} (h : Hp w lo b n []) :
    Calls Try.prog 20 #[.pointer (some ⟨b, 0, none⟩)] w fun r w' => r = .returned (.tuple #[.int .i64 0, .bool false]) ∧ w = w' := by
  obtain ⟨⟨g, bm, h1, h2, h3⟩, h4⟩ := h
  exact hnext_none h1

theorem glen {w : World} {lo b n : Nat} {M : List (En Int)} (h : Hp w lo b n M) :
    Calls Try.prog 22 #[.pointer (some ⟨b, 0, none⟩)] w fun e w' => e = .returned (.int .i64 (M.length : Int)) ∧ w = w' := by
  obtain ⟨⟨g, bm, h1, h2, h3⟩, h4⟩ := h
  exact hlen_calls h1

theorem le_one (e : En Int) : Le [e] e := ⟨by simp, fun d hd => by simp at hd; subst hd; exact lt3_irrefl _⟩

set_option maxHeartbeats 2000000 in
theorem lives_calls (w : World) :
    Calls Try.prog 10 #[] w fun e w' => e = .returned (.bool true) ∧ Fr (fun _ => False) w w' := by
  obtain ⟨b, hb⟩ : ∃ b, b = w.heap.size := ⟨_, rfl⟩
  have HB := hide hb
  have HN := hide (gnew w)
  rw [← hb] at HN
  clear hb
  go_enter Try.func10, Try.ntmps10
  go_wp2_with fail
  refine (unhide HN).mono ?_
  rintro e w1 ⟨rfl, h1, hF1⟩
  have hs1 := hF1.size
  have HP1 := hide (gput h1 (by have := unhide HB; omega) (by omega) 5 1)
  go_wp2_with fail
  refine (unhide HP1).mono ?_
  rintro e w2 ⟨rfl, h2, hF2⟩
  have hs2 := hF2.size
  have HP2 := hide (gput h2 (by have := unhide HB; omega) (by omega) 3 2)
  go_wp2_with fail
  refine (unhide HP2).mono ?_
  rintro e w3 ⟨rfl, h3, hF3⟩
  have HC := hide (gcancel h3 1 (by omega))
  go_wp2_with fail
  refine (unhide HC).mono ?_
  rintro e w4 ⟨rfl, h4, hF4⟩
  have e4 : hasK ([] ++ [(⟨5, (0 : Nat) + 1, 1⟩ : En Int)] ++ [⟨3, ((0 + 1 : Nat) : Int) + 1, 2⟩]) 1 = true := by decide
  have e5 : del ([] ++ [(⟨5, (0 : Nat) + 1, 1⟩ : En Int)] ++ [⟨3, ((0 + 1 : Nat) : Int) + 1, 2⟩]) 1 = [⟨3, ((0 + 1 : Nat) : Int) + 1, 2⟩] := by rfl
  rw [e5] at h4
  rw [e4]
  have HO := hide (gpop_yes h4 _ (le_one _) 4 (by show (3 : Int) ≤ 4; omega))
  go_wp2_with fail
  refine (unhide HO).mono ?_
  rintro e w5 ⟨rfl, h5, hF5⟩
  have e6 : del [(⟨3, ((0 + 1 : Nat) : Int) + 1, 2⟩ : En Int)] (((0 + 1 : Nat) : Int) + 1) = [] := by rfl
  rw [e6] at h5
  have HL := hide (glen h5)
  go_wp2_with fail
  refine (unhide HL).mono ?_
  rintro e w6 ⟨rfl, rfl⟩
  go_wp2
  go_ret
  refine ⟨rfl, ?_⟩
  have hF := ((((hF1.trans hF2.l (T := fun k => b ≤ k) (fun _ _ h => h.elim) (fun _ _ h => h)).trans hF3.l (fun _ _ h => h) (fun _ _ h => h)).trans hF4.l (fun _ _ h => h) (fun _ _ h => h)).trans hF5.l (fun _ _ h => h) (fun _ _ h => h))
  exact hF.mono (fun i hi h => by have := unhide HB; omega)

end Go.Proofs.Ytijiackjlgpgpaa
