/-
  What a heap's other calls do: Len, Next, Cancel, Pop.
-/
import Derived.Test.YtijiackjlgpgpaaHpPut
namespace Go.Proofs.Ytijiackjlgpgpaa
open Go.RowKit
set_option linter.unusedVariables false
set_option maxRecDepth 8192

theorem IsHp.head {w : World} {b g bm n : Nat} {M : List (En Int)} (h : IsHp w b g bm n M) : ∃ v mo, w.heap[b]? = some (.cells #[v, .map mo, .int .i64 (n : Int)] 62 (0, 0)) ∧ ∃ a c, v = .slice a M.length c := by
  rcases h with ⟨rfl, rfl, rfl, rfl, h⟩ | ⟨cap, L, f, h, hO⟩
  · exact ⟨_, _, h, none, 0, rfl⟩
  · refine ⟨_, _, h.is.blk, _, cap, by rw [h.pm.length_eq]⟩

theorem hlen_calls {w : World} {b g bm n : Nat} {M : List (En Int)} (h : IsHp w b g bm n M) :
    Calls Try.prog 22 #[.pointer (some ⟨b, 0, none⟩)] w fun e w' => e = .returned (.int .i64 (M.length : Int)) ∧ w = w' := by
  obtain ⟨v, mo, hB, a, c, rfl⟩ := h.head
  have c0 := cell_at hB 0
  simp at c0
  go_enter Try.func22, Try.ntmps22
  go_wp2
  go_ret
  exact ⟨rfl, rfl⟩

theorem hnext_none {w : World} {b g bm n : Nat} (h : IsHp w b g bm n []) :
    Calls Try.prog 20 #[.pointer (some ⟨b, 0, none⟩)] w fun e w' => e = .returned (.tuple #[.int .i64 0, .bool false]) ∧ w = w' := by
  have HL := hide (hlen_calls h)
  go_enter Try.func20, Try.ntmps20
  go_wp2_with (go_at_call 22; refine (unhide HL).mono ?_; rintro e w' ⟨rfl, rfl⟩)
  go_ret2
  exact ⟨rfl, rfl⟩

/-- what is due first stands at the head -/
theorem HL.first {w : World} {b g bm cap n : Nat} {M L : List (En Int)} {f : Int → Option Nat} (h : HL w b g bm cap n M L f) (hO : HO L) {e : En Int} (he : Le M e) : L[0]? = some e := by
  have hmem : e ∈ L := h.pm.mem_iff.2 he.1
  obtain ⟨i, hi⟩ := List.getElem?_of_mem hmem
  have hl := (List.getElem?_eq_some_iff.1 hi).1
  obtain ⟨d, hd⟩ := get_some (L := L) (i := 0) (by omega)
  have h1 := hO.least hd i e hi
  have h2 := he.2 d (h.pm.mem_iff.1 (List.mem_of_getElem? hd))
  have hk : e.k = d.k := by unfold lt3 at *; omega
  have := h.pl.inj hi hd hk
  subst this
  exact hi

theorem hnext_some {w : World} {b g bm n : Nat} {M : List (En Int)} (h : IsHp w b g bm n M) (e : En Int) (he : Le M e) :
    Calls Try.prog 20 #[.pointer (some ⟨b, 0, none⟩)] w fun r w' => r = .returned (.tuple #[.int .i64 e.t, .bool true]) ∧ w = w' := by
  have HL := hide (hlen_calls h)
  have hpos : M ≠ [] := fun q => by have := he.1; rw [q] at this; cases this
  have hlen : ((M.length : Int) == 0) = false := by
    have : M.length ≠ 0 := fun q => hpos (List.eq_nil_of_length_eq_zero q)
    simp; exact hpos
  have hl0 : (0 : Int) < (M.length : Int) := by
    have : M.length ≠ 0 := fun q => hpos (List.eq_nil_of_length_eq_zero q)
    omega
  rcases h with ⟨rfl, _⟩ | ⟨cap, L, f, h, hO⟩
  · exact absurd rfl hpos
  · have h0 := h.first hO he
    obtain ⟨a1, a2, a3⟩ := h.is.at3 h0
    have hB := h.is.blk
    rw [h.pm.length_eq] at hB
    have c0 := cell_at hB 0
    simp at c0 a1
    clear h0 a2 a3
    have HN := hide hpos
    clear hpos
    go_enter Try.func20, Try.ntmps20
    go_wp2_with (go_at_call 22; refine (unhide HL).mono ?_; rintro e w' ⟨rfl, rfl⟩)
    go_ret2
    exact ⟨rfl, rfl⟩

theorem hpop_none {w : World} {b g bm n : Nat} (h : IsHp w b g bm n []) (now : Int) :
    Calls Try.prog 18 #[.pointer (some ⟨b, 0, none⟩), .int .i64 now] w fun e w' => e = .returned (.tuple #[.int .i64 0, .int .i64 0, .bool false]) ∧ w = w' := by
  have HN := hide (hnext_none h)
  go_enter Try.func18, Try.ntmps18
  go_wp2_with (go_at_call 20; refine (unhide HN).mono ?_; rintro e w' ⟨rfl, rfl⟩)
  go_ret3
  exact ⟨rfl, rfl⟩

theorem hpop_no {w : World} {b g bm n : Nat} {M : List (En Int)} (h : IsHp w b g bm n M) (e : En Int) (he : Le M e) (now : Int) (ht : now < e.t) :
    Calls Try.prog 18 #[.pointer (some ⟨b, 0, none⟩), .int .i64 now] w fun r w' => r = .returned (.tuple #[.int .i64 0, .int .i64 0, .bool false]) ∧ w = w' := by
  have HN := hide (hnext_some h e he)
  have hg : e.t > now := ht
  go_enter Try.func18, Try.ntmps18
  go_wp2_with (go_at_call 20; refine (unhide HN).mono ?_; rintro e w' ⟨rfl, rfl⟩)
  go_ret3
  exact ⟨rfl, rfl⟩

theorem field2 (t k x : Int) (w : World) : (Instr.field 65 (.agg #[.int .i64 t, .int .i64 k, .int .i64 x]) 2).run Try.prog w = .ok (.int .i64 x) w := by kernel_rfl

theorem hpop_yes {w : World} {b g bm n : Nat} {M : List (En Int)} (h : IsHp w b g bm n M) (e : En Int) (he : Le M e) (now : Int) (ht : e.t ≤ now) :
    Calls Try.prog 18 #[.pointer (some ⟨b, 0, none⟩), .int .i64 now] w fun r w' => r = .returned (.tuple #[.int .i64 e.x, .int .i64 e.t, .bool true]) ∧ IsHp w' b g bm n (del M e.k) ∧ Fr (fun k => k = b ∨ k = g ∨ k = bm) w w' := by
  have HN := hide (hnext_some h e he)
  have hg : ¬ e.t > now := by omega
  rcases h with ⟨rfl, _⟩ | ⟨cap, L, f, h, hO⟩
  · cases he.1
  · have HR := hide (remove_calls h hO 0 e (h.first hO he))
    clear h
    have hfd := field2 e.t e.k e.x
    go_enter Try.func18, Try.ntmps18
    go_wp2_with (first
      | (go_at_call 20; refine (unhide HN).mono ?_; rintro e' w' ⟨rfl, rfl⟩)
      | (go_at_call 33; refine (unhide HR).mono ?_; unfold enV; rintro e' w2 ⟨rfl, ⟨L2, f2, hH2, hO2⟩, hF2⟩))
    go_ret3
    exact ⟨rfl, .inr ⟨cap, L2, f2, hH2, hO2⟩, hF2⟩

theorem lookNil (t : Int) (w : World) (ht : -9223372036854775808 ≤ t ∧ t ≤ 9223372036854775807) : (Instr.lookup 60 (.map none) (.int .i64 t) true).run Try.prog w = .ok (.tuple #[.int .i64 0, .bool false]) w := by
  have := Maps.look_nil (P := Try.prog) (w := w) (t := 60) (k := 3) (e := 3) true lawI Try.underlying60 (zeroI w) (Maps.keyOf_int_mk Try.underlying3 (WalkArith.wf_i64 ht))
  simpa using this

theorem hcancel_calls {w : World} {b g bm n : Nat} {M : List (En Int)} (h : IsHp w b g bm n M) (t : Int) (ht : -9223372036854775808 ≤ t ∧ t ≤ 9223372036854775807) :
    Calls Try.prog 16 #[.pointer (some ⟨b, 0, none⟩), .int .i64 t] w fun r w' => r = .returned (.bool (hasK M t)) ∧ IsHp w' b g bm n (del M t) ∧ Fr (fun k => k = b ∨ k = g ∨ k = bm) w w' := by
  rcases h with ⟨hM, hn, hg, hb, h⟩ | ⟨cap, L, f, h, hO⟩
  · have c1 := cell_at h 1
    simp at c1
    have HLK := lookNil t w ht
    subst hM
    have e1 : hasK ([] : List (En Int)) t = false := rfl
    rw [e1]
    go_enter Try.func16, Try.ntmps16
    go_wp2
    go_ret
    exact ⟨rfl, .inl ⟨rfl, hn, hg, hb, h⟩, Fr.refl _ w⟩
  · obtain ⟨c, hr, hc⟩ := h.is.map.look t ht
    have c1 := cell_at h.is.blk 1
    simp at c1
    cases hf : f t
    · have e1 : hasK M t = false := by
        cases hq : hasK M t
        · rfl
        · obtain ⟨e, he, hk⟩ := (hasK_iff M t).1 hq
          obtain ⟨i, hi⟩ := List.getElem?_of_mem (h.pm.mem_iff.2 he)
          have := (h.pl t i).2 ⟨e, hi, hk⟩
          rw [hf] at this; cases this
      rw [hf] at hr
      simp at hr
      rw [e1, del_of_not e1]
      clear hc hf
      go_enter Try.func16, Try.ntmps16
      go_wp2
      go_ret
      exact ⟨rfl, .inr ⟨cap, L, f, h, hO⟩, Fr.refl _ w⟩
    · rename_i i
      obtain ⟨e, he, rfl⟩ := (h.pl t i).1 hf
      have e1 : hasK M e.k = true := (hasK_iff M e.k).2 ⟨e, h.pm.mem_iff.1 (List.mem_of_getElem? he), rfl⟩
      have hci := hc i hf
      subst hci
      rw [hf] at hr
      simp at hr
      rw [e1]
      have HR := hide (remove_calls h hO i e he)
      clear hc hf he h
      go_enter Try.func16, Try.ntmps16
      go_wp2_with (go_at_call 33; refine (unhide HR).mono ?_; unfold enV; rintro e' w2 ⟨rfl, ⟨L2, f2, hH2, hO2⟩, hF2⟩)
      go_ret
      exact ⟨rfl, .inr ⟨cap, L2, f2, hH2, hO2⟩, hF2⟩

end Go.Proofs.Ytijiackjlgpgpaa
