/-
  A heap of numbers and a heap of texts side by side.
-/
import Derived.Test.YtchmbnfalaijhaaHpModel
import Derived.Test.YtchmbnfalaijhaaHsCalls
import Derived.Test.YtchmbnfalaijhaaHsPut2
import Derived.Test.YtchmbnfalaijhaaHsNil
namespace Go.Proofs.Ytchmbnfalaijhaa
open Go.RowKit
set_option linter.unusedVariables false
set_option maxRecDepth 8192

/-- a block of one of the two heaps' -/
def HK2 (w : World) (k : Nat) : Prop := (∃ es c, w.heap[k]? = some (.map es c)) ∨ (∃ cs, w.heap[k]? = some (.cells cs 92 (0, 0))) ∨ (∃ cs, w.heap[k]? = some (.cells cs 90 (0, 0))) ∨
  (∃ cs, w.heap[k]? = some (.cells cs 100 (0, 0))) ∨ ∃ cs, w.heap[k]? = some (.cells cs 98 (0, 0))

abbrev FrK (lo : Nat) (w w' : World) := Fr (fun k => lo ≤ k ∧ HK2 w k) w w'

theorem FrK.l {lo : Nat} {w w' : World} (h : FrK lo w w') : FrL lo w w' := h.mono (fun _ _ h => h.1)

theorem HK.two {w : World} {k : Nat} (h : HK w k) : HK2 w k := by
  rcases h with h | h | h
  · exact .inl h
  · exact .inr (.inl h)
  · exact .inr (.inr (.inl h))

theorem Hs.IsHp.hk {w : World} {b g bm n : Nat} {M : List (En ByteArray)} (h : Hs.IsHp w b g bm n M) {k : Nat} (hk : k = b ∨ k = g ∨ k = bm) : HK2 w k := by
  rcases h with ⟨_, _, rfl, rfl, h⟩ | ⟨cap, L, f, h, hO⟩
  · obtain rfl : k = bm := by omega
    exact .inr (.inr (.inr (.inr ⟨_, h⟩)))
  · rcases hk with rfl | rfl | rfl
    · exact .inr (.inr (.inr (.inr ⟨_, h.is.blk⟩)))
    · obtain ⟨cs, h1, _⟩ := h.is.row
      exact .inr (.inr (.inr (.inl ⟨cs, h1⟩)))
    · obtain ⟨es, c, h1⟩ := h.is.map.blk
      exact .inl ⟨es, c, h1⟩

theorem IsHp.lts {w : World} {b g bm n : Nat} {M : List (En Int)} (h : IsHp w b g bm n M) : b < w.heap.size ∧ g < w.heap.size ∧ bm < w.heap.size := by
  have key : ∀ k, HK w k → k < w.heap.size := fun k h => by
    rcases h with ⟨_, _, h⟩ | ⟨_, h⟩ | ⟨_, h⟩ <;> exact lt_of_blk h
  exact ⟨key _ (h.hk (.inl rfl)), key _ (h.hk (.inr (.inl rfl))), key _ (h.hk (.inr (.inr rfl)))⟩

theorem Hs.IsHp.lts {w : World} {b g bm n : Nat} {M : List (En ByteArray)} (h : Hs.IsHp w b g bm n M) : b < w.heap.size ∧ g < w.heap.size ∧ bm < w.heap.size := by
  have key : ∀ k, HK2 w k → k < w.heap.size := fun k h => by
    rcases h with ⟨_, _, h⟩ | ⟨_, h⟩ | ⟨_, h⟩ | ⟨_, h⟩ | ⟨_, h⟩ <;> exact lt_of_blk h
  exact ⟨key _ (h.hk (.inl rfl)), key _ (h.hk (.inr (.inl rfl))), key _ (h.hk (.inr (.inr rfl)))⟩

/-- both heaps, their blocks apart and from lo on -/
def K2 (w : World) (lo a b n m : Nat) (M : List (En Int)) (M2 : List (En ByteArray)) : Prop :=
  ∃ g bm g2 bm2, IsHp w a g bm n M ∧ Hs.IsHp w b g2 bm2 m M2 ∧ (∀ i j, (i = a ∨ i = g ∨ i = bm) → (j = b ∨ j = g2 ∨ j = bm2) → i ≠ j) ∧ (∀ i, (i = a ∨ i = g ∨ i = bm ∨ i = b ∨ i = g2 ∨ i = bm2) → lo ≤ i)

theorem K2.up {w w' : World} {lo a b n m : Nat} {M : List (En Int)} {M2 : List (En ByteArray)} (h : K2 w lo a b n m M M2) (hf : Fr (fun _ => False) w w') : K2 w' lo a b n m M M2 := by
  obtain ⟨g, bm, g2, bm2, h1, h2, h3⟩ := h
  exact ⟨g, bm, g2, bm2, h1.up hf, h2.up hf, h3⟩

/-- what a call on the first heap leaves -/
theorem K2.one {w w' : World} {lo a b n m g bm g2 bm2 n' g' bm' : Nat} {M M' : List (En Int)} {M2 : List (En ByteArray)} (h1 : IsHp w a g bm n M) (h2 : Hs.IsHp w b g2 bm2 m M2) (h3 : ∀ i j, (i = a ∨ i = g ∨ i = bm) → (j = b ∨ j = g2 ∨ j = bm2) → i ≠ j) (h4 : ∀ i, (i = a ∨ i = g ∨ i = bm ∨ i = b ∨ i = g2 ∨ i = bm2) → lo ≤ i)
    (hlo : lo ≤ w.heap.size) (r : IsHp w' a g' bm' n' M') (r1 : g' = g ∨ w.heap.size ≤ g') (r2 : bm' = bm ∨ w.heap.size ≤ bm') (r3 : Fr (fun k => k = a ∨ k = g ∨ k = bm) w w') : K2 w' lo a b n' m M' M2 ∧ FrK lo w w' := by
  obtain ⟨l1, l2, l3⟩ := h2.lts
  refine ⟨⟨g', bm', g2, bm2, r, h2.fr r3 (fun h => h3 _ b h (.inl rfl) rfl) (fun h => h3 _ g2 h (.inr (.inl rfl)) rfl) (fun h => h3 _ bm2 h (.inr (.inr rfl)) rfl), fun i j hi hj e => ?_, fun i hi => ?_⟩, r3.mono (fun i _ h => ⟨h4 i (by rcases h with h | h | h <;> simp [h]), (h1.hk h).two⟩)⟩
  · rcases hi with hi | hi | hi
    · exact h3 i j (.inl hi) hj e
    · rcases r1 with r1 | r1
      · exact h3 i j (.inr (.inl (hi.trans r1))) hj e
      · rcases hj with hj | hj | hj <;> omega
    · rcases r2 with r2 | r2
      · exact h3 i j (.inr (.inr (hi.trans r2))) hj e
      · rcases hj with hj | hj | hj <;> omega
  · rcases hi with hi | hi | hi | hi | hi | hi
    · exact h4 i (.inl hi)
    · rcases r1 with r1 | r1
      · exact h4 i (.inr (.inl (hi.trans r1)))
      · omega
    · rcases r2 with r2 | r2
      · exact h4 i (.inr (.inr (.inl (hi.trans r2))))
      · omega
    · exact h4 i (.inr (.inr (.inr (.inl hi))))
    · exact h4 i (.inr (.inr (.inr (.inr (.inl hi)))))
    · exact h4 i (.inr (.inr (.inr (.inr (.inr hi)))))

theorem K2.two {w w' : World} {lo a b n m g bm g2 bm2 m' g' bm' : Nat} {M : List (En Int)} {M2 M2' : List (En ByteArray)} (h1 : IsHp w a g bm n M) (h2 : Hs.IsHp w b g2 bm2 m M2) (h3 : ∀ i j, (i = a ∨ i = g ∨ i = bm) → (j = b ∨ j = g2 ∨ j = bm2) → i ≠ j) (h4 : ∀ i, (i = a ∨ i = g ∨ i = bm ∨ i = b ∨ i = g2 ∨ i = bm2) → lo ≤ i)
    (hlo : lo ≤ w.heap.size) (r : Hs.IsHp w' b g' bm' m' M2') (r1 : g' = g2 ∨ w.heap.size ≤ g') (r2 : bm' = bm2 ∨ w.heap.size ≤ bm') (r3 : Fr (fun k => k = b ∨ k = g2 ∨ k = bm2) w w') : K2 w' lo a b n m' M M2' ∧ FrK lo w w' := by
  obtain ⟨l1, l2, l3⟩ := h1.lts
  refine ⟨⟨g, bm, g', bm', h1.fr r3 (fun h => h3 a _ (.inl rfl) h rfl) (fun h => h3 g _ (.inr (.inl rfl)) h rfl) (fun h => h3 bm _ (.inr (.inr rfl)) h rfl), r, fun i j hi hj e => ?_, fun i hi => ?_⟩, r3.mono (fun i _ h => ⟨h4 i (by rcases h with h | h | h <;> simp [h]), h2.hk h⟩)⟩
  · rcases hj with hj | hj | hj
    · exact h3 i j hi (.inl hj) e
    · rcases r1 with r1 | r1
      · exact h3 i j hi (.inr (.inl (hj.trans r1))) e
      · rcases hi with hi | hi | hi <;> omega
    · rcases r2 with r2 | r2
      · exact h3 i j hi (.inr (.inr (hj.trans r2))) e
      · rcases hi with hi | hi | hi <;> omega
  · rcases hi with hi | hi | hi | hi | hi | hi
    · exact h4 i (.inl hi)
    · exact h4 i (.inr (.inl hi))
    · exact h4 i (.inr (.inr (.inl hi)))
    · exact h4 i (.inr (.inr (.inr (.inl hi))))
    · rcases r1 with r1 | r1
      · exact h4 i (.inr (.inr (.inr (.inr (.inl (hi.trans r1))))))
      · omega
    · rcases r2 with r2 | r2
      · exact h4 i (.inr (.inr (.inr (.inr (.inr (hi.trans r2))))))
      · omega

section
variable {w : World} {lo a b n m : Nat} {M : List (En Int)} {M2 : List (En ByteArray)}

theorem k2_puta (h : K2 w lo a b n m M M2) (hlo : lo ≤ w.heap.size) (hn : n < 4194304) (t x : Int) :
    Calls Try.prog 25 #[.pointer (some ⟨a, 0, none⟩), .int .i64 t, .int .i64 x] w fun e w' => e = .returned (.int .i64 ((n : Int) + 1)) ∧ K2 w' lo a b (n + 1) m (M ++ [⟨t, (n : Int) + 1, x⟩]) M2 ∧ FrK lo w w' := by
  obtain ⟨g, bm, g2, bm2, h1, h2, h3, h4⟩ := h
  exact (hput_calls h1 hn t x).mono fun e w' ⟨r1, ⟨g', bm', r2, r3, r4⟩, r5⟩ => ⟨r1, K2.one h1 h2 h3 h4 hlo r2 r3 r4 r5⟩

theorem k2_putb (h : K2 w lo a b n m M M2) (hlo : lo ≤ w.heap.size) (hm : m < 4194304) (t : Int) (x : ByteArray) :
    Calls Try.prog 37 #[.pointer (some ⟨b, 0, none⟩), .int .i64 t, .string x] w fun e w' => e = .returned (.int .i64 ((m : Int) + 1)) ∧ K2 w' lo a b n (m + 1) M (M2 ++ [⟨t, (m : Int) + 1, x⟩]) ∧ FrK lo w w' := by
  obtain ⟨g, bm, g2, bm2, h1, h2, h3, h4⟩ := h
  exact (Hs.hput_calls h2 hm t x).mono fun e w' ⟨r1, ⟨g', bm', r2, r3, r4⟩, r5⟩ => ⟨r1, K2.two h1 h2 h3 h4 hlo r2 r3 r4 r5⟩

theorem k2_cana (h : K2 w lo a b n m M M2) (hlo : lo ≤ w.heap.size) (t : Int) (ht : -9223372036854775808 ≤ t ∧ t ≤ 9223372036854775807) :
    Calls Try.prog 27 #[.pointer (some ⟨a, 0, none⟩), .int .i64 t] w fun e w' => e = .returned (.bool (hasK M t)) ∧ K2 w' lo a b n m (del M t) M2 ∧ FrK lo w w' := by
  obtain ⟨g, bm, g2, bm2, h1, h2, h3, h4⟩ := h
  exact (hcancel_calls h1 t ht).mono fun e w' ⟨r1, r2, r5⟩ => ⟨r1, K2.one h1 h2 h3 h4 hlo r2 (.inl rfl) (.inl rfl) r5⟩

theorem k2_canb (h : K2 w lo a b n m M M2) (hlo : lo ≤ w.heap.size) (t : Int) (ht : -9223372036854775808 ≤ t ∧ t ≤ 9223372036854775807) :
    Calls Try.prog 38 #[.pointer (some ⟨b, 0, none⟩), .int .i64 t] w fun e w' => e = .returned (.bool (hasK M2 t)) ∧ K2 w' lo a b n m M (del M2 t) ∧ FrK lo w w' := by
  obtain ⟨g, bm, g2, bm2, h1, h2, h3, h4⟩ := h
  exact (Hs.hcancel_calls h2 t ht).mono fun e w' ⟨r1, r2, r5⟩ => ⟨r1, K2.two h1 h2 h3 h4 hlo r2 (.inl rfl) (.inl rfl) r5⟩

theorem k2_popa (h : K2 w lo a b n m M M2) (hlo : lo ≤ w.heap.size) (e : En Int) (he : Le M e) (now : Int) (ht : e.t ≤ now) :
    Calls Try.prog 29 #[.pointer (some ⟨a, 0, none⟩), .int .i64 now] w fun r w' => r = .returned (.tuple #[.int .i64 e.x, .int .i64 e.t, .bool true]) ∧ K2 w' lo a b n m (del M e.k) M2 ∧ FrK lo w w' := by
  obtain ⟨g, bm, g2, bm2, h1, h2, h3, h4⟩ := h
  exact (hpop_yes h1 e he now ht).mono fun e w' ⟨r1, r2, r5⟩ => ⟨r1, K2.one h1 h2 h3 h4 hlo r2 (.inl rfl) (.inl rfl) r5⟩

theorem k2_popb (h : K2 w lo a b n m M M2) (hlo : lo ≤ w.heap.size) (e : En ByteArray) (he : Le M2 e) (now : Int) (ht : e.t ≤ now) :
    Calls Try.prog 39 #[.pointer (some ⟨b, 0, none⟩), .int .i64 now] w fun r w' => r = .returned (.tuple #[.string e.x, .int .i64 e.t, .bool true]) ∧ K2 w' lo a b n m M (del M2 e.k) ∧ FrK lo w w' := by
  obtain ⟨g, bm, g2, bm2, h1, h2, h3, h4⟩ := h
  exact (Hs.hpop_yes h2 e he now ht).mono fun e w' ⟨r1, r2, r5⟩ => ⟨r1, K2.two h1 h2 h3 h4 hlo r2 (.inl rfl) (.inl rfl) r5⟩
end

end Go.Proofs.Ytchmbnfalaijhaa
