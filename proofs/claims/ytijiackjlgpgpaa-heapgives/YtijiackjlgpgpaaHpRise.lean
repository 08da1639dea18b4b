/-
  A thing rises in a heap.
-/
import Derived.Test.YtijiackjlgpgpaaHpSwap
namespace Go.Proofs.Ytijiackjlgpgpaa
open Go.RowKit
set_option linter.unusedVariables false
set_option maxRecDepth 8192

/-- a heap at b whose list is some order of M, g and bm its two blocks -/
structure HL (w : World) (b g bm cap n : Nat) (M L : List (En Int)) (f : Int → Option Nat) : Prop where
  is : IsH w b g bm cap n L f
  pl : PL L f
  pm : L.Perm M

theorem HL.up {w w' : World} {b g bm cap n : Nat} {M L : List (En Int)} {f : Int → Option Nat} (h : HL w b g bm cap n M L f) (hf : Fr (fun _ => False) w w') : HL w' b g bm cap n M L f := ⟨h.is.up hf, h.pl, h.pm⟩

theorem hl_swap {w : World} {b g bm cap n : Nat} {M L : List (En Int)} {f : Int → Option Nat} (h : HL w b g bm cap n M L f) (i j : Nat) (e d : En Int) (he : L[i]? = some e) (hd : L[j]? = some d) (hij : i ≠ j) :
    Calls Try.prog 41 #[.pointer (some ⟨b, 0, none⟩), .int .i64 (i : Int), .int .i64 (j : Int)] w fun e' w' => e' = .returned (.tuple #[]) ∧ HL w' b g bm cap n M ((L.set i d).set j e) (upd (upd f d.k (some i)) e.k (some j)) ∧ Fr (fun k => k = g ∨ k = bm) w w' :=
  (swap_calls h.is h.pl i j e d he hd hij).mono fun e' w' ⟨h1, h2, h3⟩ => ⟨h1, ⟨h2, h.pl.swap he hd, (swap_perm he hd).trans h.pm⟩, h3⟩

set_option maxHeartbeats 2000000 in
theorem rise_calls {w : World} {b g bm cap n : Nat} {M L : List (En Int)} {f : Int → Option Nat} (h : HL w b g bm cap n M L f) (p : Nat) (hp : p < L.length) (hM : Mid L p) :
    Calls Try.prog 32 #[.pointer (some ⟨b, 0, none⟩), .int .i64 (p : Int)] w fun e w' => e = .returned (.tuple #[]) ∧ (∃ L' f', HL w' b g bm cap n M L' f' ∧ Dn L' p) ∧ Fr (fun k => k = g ∨ k = bm) w w' := by
  have hm := h.is.most
  have hl := h.is.lenn
  have hlm := h.pm.length_eq
  have h0 : HL w b g bm cap n M L f ∧ Ri L p p ∧ Fr (fun k => k = g ∨ k = bm) w w := ⟨h, hM.ri, Fr.refl _ _⟩
  go_enter Try.func32, Try.ntmps32
  go_wp2
  go_loopw [1] (fun i wr => ∃ (q : Nat) (L' : List (En Int)) (f' : Int → Option Nat), i = .int .i64 q ∧ q < M.length ∧ HL wr b g bm cap n M L' f' ∧ Ri L' p q ∧ Fr (fun k => k = g ∨ k = bm) w wr) (fun i _ => (intOf i).toNat)
  case atStart => exact ⟨p, L, f, rfl, by omega, h0⟩
  case round =>
    obtain ⟨q, L', f', rfl, hq, hH, hR, hF⟩ := hrel
    have hlen := hH.pm.length_eq
    clear h h0 hM
    by_cases hq0 : q = 0
    · subst hq0
      go_wp2
      go_end0
      exact ⟨rfl, ⟨L', f', hH, hR.head⟩, hF⟩
    · obtain ⟨a, ha⟩ : ∃ a, a = (q - 1) / 2 := ⟨_, rfl⟩
      have hqp : (0 : Int) < (q : Int) := by omega
      have hq' : q ≤ 4194304 := by omega
      have HA : Hid (((q : Int) - 1) / 2 = ((a : Nat) : Int)) := hide (by omega)
      have HA2 : Hid (((q : Int) - 1).tdiv 2 = ((a : Nat) : Int)) := hide (by rw [Int.tdiv_eq_ediv_of_nonneg (by omega)]; omega)
      obtain ⟨e, he⟩ := get_some (L := L') (i := q) (by omega)
      obtain ⟨d, hd⟩ := get_some (L := L') (i := a) (by omega)
      have haq : q ≠ a := by omega
      have haM : a < M.length := by omega
      by_cases hc : lt3 e d
      · have hb := (ahB_iff e d).2 hc
        have hst := ha ▸ hR.step (by omega) he (ha ▸ hd) hc
        have HQ := hide haq
        have HL1 := hide (fun w1 (hf : Fr (fun _ => False) _ w1) => hl_swap (hH.up hf) q a e d he hd haq)
        have HAH := hide (ahead_calls hH.is q a e d he hd)
        clear ha haq hc hR
        go_wp2_with (first
          | (go_at_call 40; (first | rw [unhide HA] | rw [unhide HA2] | skip); refine (unhide HAH).mono ?_; rintro e' w1 ⟨rfl, hF1⟩)
          | (go_at_call 41; (first | rw [unhide HA] | rw [unhide HA2] | skip); refine (unhide HL1 _ hF1).mono ?_; rintro e' w2 ⟨rfl, hH2, hF2⟩))
        exact ⟨⟨a, _, _, rfl, haM, hH2, hst, (hF.trans hF1 (fun _ _ h => h) (fun _ _ h => h.elim)).trans hF2 (fun _ _ h => h) (fun _ _ h => h)⟩, by simp [intOf]; have := unhide HQ; have := unhide HA; omega⟩
      · have hb := ahB_no hc
        have hst := hR.stop (fun x y hx hy => by rw [he] at hx; rw [← ha, hd] at hy; cases hx; cases hy; exact hc)
        have HAH := hide (ahead_calls hH.is q a e d he hd)
        clear ha haq hc hR
        go_wp2_with (go_at_call 40; (first | rw [unhide HA] | rw [unhide HA2] | skip); refine (unhide HAH).mono ?_; rintro e' w1 ⟨rfl, hF1⟩)
        exact bodyPost_ret (results_none rfl _ _ _) rfl ⟨rfl, ⟨L', f', hH.up hF1, hst⟩, hF.trans hF1 (fun _ _ h => h) (fun _ _ h => h.elim)⟩

end Go.Proofs.Ytijiackjlgpgpaa
