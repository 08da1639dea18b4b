/-
  A heap's things in order: sorted walked.
-/
import Derived.Test.YtijiackjlgpgpaaHpShelf
import Derived.Test.YtijiackjlgpgpaaHpClone
import Derived.Test.YtijiackjlgpgpaaHpAll
import Derived.Test.YtijiackjlgpgpaaHpCalls
import Derived.RangeFuncBound
namespace Go.Proofs.Ytijiackjlgpgpaa
open Go.RowKit Go.Shelf Go.Lib
set_option linter.unusedVariables false
set_option maxRecDepth 100000

theorem lt_cf (x y : En Int) : Go.Proofs.ltOf cf3 x y = ahB x y := rfl

theorem swo3 : Sort.SWO (Go.Proofs.ltOf cf3) where
  irrefl x := by rw [lt_cf]; exact ahB_no (lt3_irrefl x)
  trans x y z h1 h2 := by
    rw [lt_cf] at *
    have a := (ahB_iff _ _).1 h1
    have b := (ahB_iff _ _).1 h2
    exact (ahB_iff _ _).2 (by unfold lt3 at *; omega)
  ntrans x y z h1 h2 := by
    rw [lt_cf] at *
    have a : ¬ lt3 x y := fun h => by have := (ahB_iff _ _).2 h; rw [h1] at this; cases this
    have b : ¬ lt3 y z := fun h => by have := (ahB_iff _ _).2 h; rw [h2] at this; cases this
    exact ahB_no (by unfold lt3 at *; omega)

theorem cmpLays (blk off size : Nat) (w : World) : Go.Proofs.CmpLays Try.prog 48 #[] enc3 3 cf3 blk off size w :=
  fun _ _ _ _ x y => order_exact x.t x.k x.x y.t y.k y.x _

theorem sort_calls {w : World} {g cap : Nat} {L : List (En Int)} (h : Rw w g cap L) (c : Nat) (hn : L.length ≤ 4194304) :
    Calls Try.prog 47 #[.slice (some ⟨g, 0, none⟩) L.length c, .func (.func 48) #[] #[]] w fun e w' => e = .returned (.tuple #[]) ∧
      ∃ S : List (En Int), S.Perm L ∧ (∀ (i j : Nat) (x y : En Int), i < j → S[i]? = some x → S[j]? = some y → ¬ lt3 y x) ∧ Rw w' g cap S ∧ Fr (fun k => k = g) w w' := by
  have hH := holds_of_rw h
  have hle := h.le
  obtain ⟨cs, h1, h2, h3⟩ := h
  have eg : ∀ args w, (callFunc 48 args).run Try.prog w = .ok (.enter 48 args) w := enters_of Try.func48 (by kernel_rfl) rfl
  have hcon := AnyQ.slices_SortFunc Try.sortH 3 (fun w => by kernel_rfl) (fun w => by kernel_rfl) enc3 (fun _ => rfl) (fun x v hv => by simp [enc3] at hv; rcases hv with rfl | rfl | rfl <;> rfl) cf3 swo3 48 #[] g 0 c L.toArray w eg (cmpLays g 0 L.toArray.size w) hH (lt_of_blk h1) (by simp; omega)
  change Calls Try.prog 47 _ _ _ at hcon
  rw [show L.toArray.size = L.length by simp] at hcon
  refine hcon.mono fun e w' ⟨r1, d, n, os, hp, hs, hw⟩ => ?_
  subst hw
  have hsz : d.size = L.length := by have := hp.1; simpa using this
  have hpm := perm_of (d := L.toArray) (d' := d) (by rw [show L.toArray.size = L.length by simp]; exact hp)
  refine ⟨r1, d.toList, by simpa using hpm, fun i j x y hij hx hy => ?_, ⟨_, sw_blk d os h1, ?_, fun i e he => sw_at (by omega) he⟩, sw_fr w g n d os⟩
  · have hj := (List.getElem?_eq_some_iff.1 hy).1
    have hj' : j < d.size := by simpa using hj
    have h4 := hs i j (Nat.zero_le _) hij (by omega)
    rw [lt_cf] at h4
    have ex : d[i]! = x := by
      rw [getElem!_pos d i (by omega)]
      have := (List.getElem?_eq_some_iff.1 hx).2
      simpa using this
    have ey : d[j]! = y := by
      rw [getElem!_pos d j hj']
      have := (List.getElem?_eq_some_iff.1 hy).2
      simpa using this
    rw [ex, ey] at h4
    intro h5
    rw [(ahB_iff _ _).2 h5] at h4
    cases h4
  · simp [Sort.putCells, h2]

theorem sort_none (p : Option Addr) (c : Nat) (w : World) :
    Calls Try.prog 47 #[.slice p 0 c, .func (.func 48) #[] #[]] w fun e w' => e = .returned (.tuple #[]) ∧ w' = w :=
  AnyF.slices_SortFunc_none Try.sortH p c _ w

/-- two orders of the same things, both as they come out, are one -/
theorem one_order : ∀ (A B : List (En Int)), A.Perm B → A.Pairwise (fun a b => lt3 a b) → B.Pairwise (fun a b => lt3 a b) → A = B
  | [], B, h, _, _ => by simpa using h.length_eq.symm
  | a :: A, [], h, _, _ => by have := h.length_eq; simp at this
  | a :: A, b :: B, h, hA, hB => by
    rw [List.pairwise_cons] at hA hB
    have hab : a = b := by
      rcases List.mem_cons.1 (h.mem_iff.1 (List.mem_cons_self ..)) with e | e
      · exact e
      · rcases List.mem_cons.1 (h.mem_iff.2 (List.mem_cons_self ..)) with e2 | e2
        · exact e2.symm
        · exact absurd (hA.1 b e2) (lt3_asymm (hB.1 a e))
    subst hab
    rw [one_order A B (List.perm_cons a |>.1 h) hA.2 hB.2]

theorem pairs_of {L S : List (En Int)} {f : Int → Option Nat} (h : PL L f) (hp : S.Perm L) (hs : ∀ (i j : Nat) (x y : En Int), i < j → S[i]? = some x → S[j]? = some y → ¬ lt3 y x) : S.Pairwise (fun a b => lt3 a b) := by
  have hne : S.Pairwise (fun a b => a.k ≠ b.k) := by
    have h1 : L.Pairwise (fun a b => a.k ≠ b.k) := List.pairwise_iff_getElem.2 (fun i j hi hj hij e => by
      have := h.inj (List.getElem?_eq_getElem hi) (List.getElem?_eq_getElem hj) e
      omega)
    exact (hp.pairwise_iff (fun {a b} h => Ne.symm h)).2 h1
  refine List.pairwise_iff_getElem.2 fun i j hi hj hij => ?_
  have h2 := hs i j _ _ hij (List.getElem?_eq_getElem hi) (List.getElem?_eq_getElem hj)
  have h3 := List.pairwise_iff_getElem.1 hne i j hi hj hij
  unfold lt3 at *
  omega

set_option maxHeartbeats 2000000 in
theorem sorted_calls {w : World} {b g bm n : Nat} {M S : List (En Int)} (h : IsHp w b g bm n M) (hS : S.Perm M) (hO : S.Pairwise (fun a b => lt3 a b)) :
    Calls Try.prog 39 #[.pointer (some ⟨b, 0, none⟩)] w fun e w' => ∃ a c, e = .returned (.slice a S.length c) ∧ LE w' w.heap.size a S ∧ Fr (fun _ => False) w w' := by
  rcases h with ⟨rfl, rfl, rfl, rfl, h⟩ | ⟨cap, L, f, h, hHO⟩
  · obtain rfl : S = [] := by simpa using hS.length_eq
    have c0 := cell_at h 0
    simp at c0
    go_enter Try.func39, Try.ntmps39
    go_wp2_with (first
      | (go_at_call 46; refine (clone_nil _).mono ?_; rintro e w1 ⟨rfl, rfl⟩)
      | (go_at_call 47; refine (sort_none _ _ _).mono ?_; rintro e w2 ⟨rfl, rfl⟩))
    go_ret
    exact ⟨none, 0, rfl, .inl rfl, Fr.refl _ _⟩
  · have c0 := cell_at h.is.blk 0
    simp at c0
    have hm := h.is.most
    have hl := h.is.lenn
    have hlm : S.length = L.length := hS.length_eq.trans h.pm.length_eq.symm
    have HC := hide (clone_calls (show Rw w g cap L from h.is.row) h.is.len h.is.capm (by omega))
    rw [hlm]
    go_enter Try.func39, Try.ntmps39
    go_wp2_with fail
    refine (unhide HC).mono ?_
    rintro e w1 ⟨⟨a, c, rfl, hpos⟩, hF1⟩
    by_cases h0 : 0 < L.length
    · obtain ⟨q, rfl, hq, hR⟩ := hpos h0
      have HS := hide (sort_calls hR c (by omega))
      clear hm hl hlm
      go_wp2_with fail
      refine (unhide HS).mono ?_
      rintro e w2 ⟨rfl, S2, hp2, hs2, hR2, hF2⟩
      go_wp2
      go_ret
      have e1 : S = S2 := one_order S S2 (hS.trans (h.pm.symm.trans hp2.symm)) hO (pairs_of h.pl hp2 hs2)
      subst e1
      obtain ⟨cs, r1, _, r3⟩ := hR2
      exact ⟨some ⟨q, 0, none⟩, c, rfl, .inr ⟨q, rfl, hq, cs, r1, r3⟩, hF1.trans hF2 (fun _ _ h => h) (fun i hi e => by omega)⟩
    · have hL0 : L.length = 0 := by omega
      obtain rfl : L = [] := List.eq_nil_of_length_eq_zero hL0
      obtain rfl : S = [] := List.eq_nil_of_length_eq_zero (by simpa using hlm)
      go_wp2_with (go_at_call 47; refine (sort_none _ _ _).mono ?_; rintro e w2 ⟨rfl, rfl⟩)
      go_ret
      exact ⟨a, c, rfl, .inl rfl, hF1⟩

end Go.Proofs.Ytijiackjlgpgpaa
