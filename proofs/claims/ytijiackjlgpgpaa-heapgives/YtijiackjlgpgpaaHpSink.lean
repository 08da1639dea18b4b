/-
  A thing sinks in a heap.
-/
import Derived.Test.YtijiackjlgpgpaaHpRise
namespace Go.Proofs.Ytijiackjlgpgpaa
open Go.RowKit
set_option linter.unusedVariables false
set_option maxRecDepth 8192

/-- the first of p and those of its two that stand below c -/
def Fi {X : Type} (L : List (En X)) (p c m : Nat) : Prop :=
  (m = p ∨ 0 < m ∧ (m - 1) / 2 = p ∧ m < c) ∧ ∃ d, L[m]? = some d ∧ (∀ e, L[p]? = some e → m ≠ p → lt3 d e) ∧ ∀ i x, 0 < i → (i - 1) / 2 = p → i < c → L[i]? = some x → ¬ lt3 x d

theorem Fi.start {X : Type} {L : List (En X)} {p : Nat} {e : En X} (he : L[p]? = some e) : Fi L p (2 * p + 1) p :=
  ⟨.inl rfl, e, he, fun _ _ h => absurd rfl h, fun i x hi hp hc => by omega⟩

theorem Fi.same {X : Type} {L : List (En X)} {p c m : Nat} {d x : En X} (h : Fi L p c m) (hd : L[m]? = some d) (hx : L[c]? = some x) (hn : ¬ lt3 x d) : Fi L p (c + 1) m := by
  obtain ⟨h1, d', hd', h2, h3⟩ := h
  rw [hd] at hd'; cases hd'
  refine ⟨by omega, d, hd, h2, fun i y hi hp hc hy => ?_⟩
  by_cases e : i = c
  · subst e; rw [hx] at hy; cases hy; exact hn
  · exact h3 i y hi hp (by omega) hy

theorem Fi.next {X : Type} {L : List (En X)} {p c m : Nat} {d x : En X} (h : Fi L p c m) (hd : L[m]? = some d) (hx : L[c]? = some x) (hc0 : 0 < c) (hcp : (c - 1) / 2 = p) (hn : lt3 x d) : Fi L p (c + 1) c := by
  obtain ⟨h1, d', hd', h2, h3⟩ := h
  rw [hd] at hd'; cases hd'
  refine ⟨.inr ⟨hc0, hcp, by omega⟩, x, hx, fun e he _ => ?_, fun i y hi hp hc hy => ?_⟩
  · by_cases e1 : m = p
    · subst e1; rw [hd] at he; cases he; exact hn
    · have := h2 e he e1
      unfold lt3 at *; omega
  · by_cases e : i = c
    · subst e; rw [hx] at hy; cases hy; exact lt3_irrefl _
    · exact lt3_trans (lt3_asymm hn) (h3 i y hi hp (by omega) hy)

theorem Fi.stop {X : Type} {L : List (En X)} {p c : Nat} (hD : Dn L p) (h : Fi L p c p) (hc : 2 * p + 2 < c ∨ L.length ≤ c) : HO L := by
  obtain ⟨h1, d, hd, h2, h3⟩ := h
  exact hD.stop hd (fun i x hi hip hx => h3 i x hi hip (by have := (List.getElem?_eq_some_iff.1 hx).1; omega) hx)

theorem Fi.step {X : Type} {L : List (En X)} {p c m : Nat} (hD : Dn L p) (h : Fi L p c m) (hm : m ≠ p) (hc : 2 * p + 2 < c ∨ L.length ≤ c) {e d : En X} (he : L[p]? = some e) (hd : L[m]? = some d) : Dn ((L.set p d).set m e) m := by
  obtain ⟨h1, d', hd', h2, h3⟩ := h
  rw [hd] at hd'; cases hd'
  exact hD.step he hd (by omega) (by omega) (h2 e he hm) (fun i x hi hip hx => h3 i x hi hip (by have := (List.getElem?_eq_some_iff.1 hx).1; omega) hx)

set_option maxHeartbeats 4000000 in
theorem sink_calls {w : World} {b g bm cap n : Nat} {M L : List (En Int)} {f : Int → Option Nat} (h : HL w b g bm cap n M L f) (p : Nat) (hp : p < L.length) (hM : Dn L p) :
    Calls Try.prog 42 #[.pointer (some ⟨b, 0, none⟩), .int .i64 (p : Int)] w fun e w' => e = .returned (.tuple #[]) ∧ (∃ L' f', HL w' b g bm cap n M L' f' ∧ HO L') ∧ Fr (fun k => k = g ∨ k = bm) w w' := by
  have hm := h.is.most
  have hl := h.is.lenn
  have hlm := h.pm.length_eq
  have h0 : HL w b g bm cap n M L f ∧ Dn L p ∧ Fr (fun k => k = g ∨ k = bm) w w := ⟨h, hM, Fr.refl _ _⟩
  go_enter Try.func42, Try.ntmps42
  go_wp2
  go_loopw [1] (fun i wr => ∃ (q : Nat) (L' : List (En Int)) (f' : Int → Option Nat), i = .int .i64 q ∧ q < M.length ∧ HL wr b g bm cap n M L' f' ∧ Dn L' q ∧ Fr (fun k => k = g ∨ k = bm) w wr) (fun i _ => M.length - (intOf i).toNat)
  case atStart => exact ⟨p, L, f, rfl, by omega, h0⟩
  case round =>
    obtain ⟨q, L', f', rfl, hq, hH, hD, hF⟩ := hrel
    have hlen := hH.pm.length_eq
    clear h h0 hM
    obtain ⟨e, he⟩ := get_some (L := L') (i := q) (by omega)
    have hq' : q ≤ 4194304 := by omega
    have h1 : Fi L' q (2 * q + 1) q ∧ HL wr b g bm cap n M L' f' ∧ Fr (fun k => k = g ∨ k = bm) w wr := ⟨Fi.start he, hH, hF⟩
    go_wp2
    go_loopw [4, 5] (fun m c ws => ∃ (m' c' : Nat), m = .int .i64 m' ∧ c = .int .i64 c' ∧ 2 * q + 1 ≤ c' ∧ c' ≤ 2 * q + 3 ∧ m' < M.length ∧ Fi L' q c' m' ∧ HL ws b g bm cap n M L' f' ∧ Fr (fun k => k = g ∨ k = bm) w ws) (fun _ c _ => 2 * q + 3 - (intOf c).toNat)
    case atStart => exact ⟨q, 2 * q + 1, rfl, by go_num, by omega, by omega, hq, h1⟩
    case round =>
      obtain ⟨m', c', rfl, rfl, hc1, hc2, hm', hFi, hH2, hF2⟩ := hrel
      clear h1 hH hF
      have hB := hH2.is.blk
      have c0 := cell_at hB 0
      simp at c0
      by_cases hin : c' ≤ 2 * q + 2 ∧ c' < L'.length
      · obtain ⟨hi1, hi2⟩ := hin
        have hi3 : (c' : Int) ≤ 2 * (q : Int) + 2 := by omega
        have hi4 : (c' : Int) < (L'.length : Int) := by omega
        obtain ⟨x, hx⟩ := get_some hi2
        obtain ⟨d, hd⟩ := get_some (L := L') (i := m') (by omega)
        have HAH := hide (ahead_calls hH2.is c' m' x d hx hd)
        by_cases hc : lt3 x d
        · have hb := (ahB_iff x d).2 hc
          have hn := hFi.next hd hx (by omega) (by omega) hc
          clear hFi hc
          go_wp2_with (go_at_call 40; refine (unhide HAH).mono ?_; rintro e' w1 ⟨rfl, hF1⟩)
          exact ⟨⟨c', c' + 1, rfl, by go_num, by omega, by omega, by omega, hn, hH2.up hF1, hF2.trans hF1 (fun _ _ h => h) (fun _ _ h => h.elim)⟩, by simp [intOf]; omega⟩
        · have hb := ahB_no hc
          have hn := hFi.same hd hx hc
          clear hFi hc
          go_wp2_with (go_at_call 40; refine (unhide HAH).mono ?_; rintro e' w1 ⟨rfl, hF1⟩)
          exact ⟨⟨m', c' + 1, rfl, by go_num, by omega, by omega, by omega, hn, hH2.up hF1, hF2.trans hF1 (fun _ _ h => h) (fun _ _ h => h.elim)⟩, by simp [intOf]; omega⟩
      · have hend : 2 * q + 2 < c' ∨ L'.length ≤ c' := by omega
        by_cases hmq : m' = q
        · subst hmq
          have hO := hFi.stop hD hend
          clear hFi hD
          by_cases hi : c' ≤ 2 * m' + 2
          · have hi3 : (c' : Int) ≤ 2 * (m' : Int) + 2 := by omega
            have hi4 : ¬ (c' : Int) < (L'.length : Int) := by omega
            go_wp2
            exact bodyPost_ret (results_none rfl _ _ _) rfl ⟨rfl, ⟨L', ⟨f', hH2⟩, hO⟩, hF2⟩
          · have hi3 : ¬ (c' : Int) ≤ 2 * (m' : Int) + 2 := by omega
            go_wp2
            exact bodyPost_ret (results_none rfl _ _ _) rfl ⟨rfl, ⟨L', ⟨f', hH2⟩, hO⟩, hF2⟩
        · obtain ⟨d, hd⟩ := get_some (L := L') (i := m') (by omega)
          have hst := hFi.step hD hmq hend he hd
          have hlt : q < m' := by
            have := hFi.1
            omega
          have hne : ((m' : Int) == (q : Int)) = false := by simp; omega
          have HSW := hide (hl_swap hH2 q m' e d he hd (fun e => hmq e.symm))
          clear hFi hD hin
          by_cases hi : c' ≤ 2 * q + 2
          · have hi3 : (c' : Int) ≤ 2 * (q : Int) + 2 := by omega
            have hi4 : ¬ (c' : Int) < (L'.length : Int) := by omega
            go_wp2_with (go_at_call 41; refine (unhide HSW).mono ?_; rintro e' w2 ⟨rfl, hH3, hF3⟩)
            exact ⟨⟨m', _, _, rfl, hm', hH3, hst, hF2.trans hF3 (fun _ _ h => h) (fun _ _ h => h)⟩, by simp [intOf]; omega⟩
          · have hi3 : ¬ (c' : Int) ≤ 2 * (q : Int) + 2 := by omega
            go_wp2_with (go_at_call 41; refine (unhide HSW).mono ?_; rintro e' w2 ⟨rfl, hH3, hF3⟩)
            exact ⟨⟨m', _, _, rfl, hm', hH3, hst, hF2.trans hF3 (fun _ _ h => h) (fun _ _ h => h)⟩, by simp [intOf]; omega⟩

end Go.Proofs.Ytijiackjlgpgpaa
