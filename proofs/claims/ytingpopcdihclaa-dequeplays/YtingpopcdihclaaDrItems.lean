/-
  The document's Items.
-/
import Derived.Test.YtingpopcdihclaaDrMem
import Derived.Test.YtingpopcdihclaaDqItems
import Derived.Test.YtingpopcdihclaaDqGoes
namespace Go.Proofs.Ytingpopcdihclaa
open Go.RowKit
set_option linter.unusedVariables false
set_option maxRecDepth 8192

/-- what stands between top and bottom -/
def itemsM (S : Nat) (d : Mq) : List Int := (List.range (d.bot - d.top).toNat).map (fun i : Nat => d.pl (ix S (d.top + i)))
theorem itemsM_len (S : Nat) (d : Mq) : (itemsM S d).length = (d.bot - d.top).toNat := by simp [itemsM]
theorem itemsM_at (S : Nat) (d : Mq) {j : Nat} (h : j < (d.bot - d.top).toNat) : (itemsM S d)[j]? = some (d.pl (ix S (d.top + j))) := by
  unfold itemsM; rw [List.getElem?_map, List.getElem?_range h]; rfl

set_option maxHeartbeats 4000000 in
theorem mitems_calls {w : World} {b g h S : Nat} {d : Mq} (m : IsM w b g h S d) (h0 : 0 ≤ d.top) (h1 : d.top ≤ 576460752303423488) (h2 : d.bot ≤ d.top + 64) :
    Calls Try.prog 22 #[.pointer (some ⟨b, 0, none⟩)] w fun e w' => ∃ v, e = .returned v ∧ LS w' w.heap.size v (itemsM S d) ∧ Fr (fun _ => False) w w' := by
  obtain ⟨L, hL⟩ : ∃ L, itemsM S d = L := ⟨_, rfl⟩
  have hlen := itemsM_len S d
  have hat := fun j (h : j < (d.bot - d.top).toNat) => itemsM_at S d h
  rw [hL] at hlen hat ⊢
  obtain ⟨z, hz⟩ : ∃ z, (d.bot - d.top).toNat = z := ⟨_, rfl⟩
  rw [hz] at hlen hat
  have hz64 : z ≤ 64 := by omega
  have hbi : d.bot ≤ d.top + z := by omega
  have hbi2 : z = 0 ∨ d.bot = d.top + z := by omega
  have HL := hide hlen
  have HAT := hide hat
  clear hL hlen hat hz
  have c0 := m.c0
  go_enter Try.func22, Try.ntmps22
  go_wp2
  go_loopw [3, 4] (fun l n wr => ∃ j : Nat, j ≤ z ∧ n = .int .i64 (d.top + j) ∧ OS wr w.heap.size 2 1 l j (rowV2 (L.take j)) ∧ Fr (fun _ => False) w wr) (fun _ n _ => (d.bot - intOf n).toNat)
  case atStart => exact ⟨0, Nat.zero_le _, by simp, by simpa [rowV2] using OS.nil _ _ _ _, Fr.refl _ _⟩
  case round =>
    obtain ⟨j, hj, rfl, hO, hF⟩ := hrel
    have hD := m.fr hF (fun h => h) (fun h => h) (fun h => h)
    have c1 := hD.c1
    have c2 := hD.c2
    by_cases hlt : j < z
    · have hx := unhide HAT j hlt
      obtain ⟨i, hi⟩ : ∃ i, ix S (d.top + j) = i := ⟨_, rfl⟩
      have hil : i < S := by rw [← hi]; exact ix_lt m.pos _
      rw [hi] at hx
      have HI := hide hi
      clear hi
      have cg := hD.cg hil
      have HX := hide hx
      clear hx
      obtain ⟨x, hxx⟩ : ∃ x, d.pl i = x := ⟨_, rfl⟩
      rw [hxx] at cg HX
      clear hxx
      obtain ⟨a, cap, rfl, _⟩ := hO.cell
      have HO := hide hO
      clear hO
      have hlo := hF.size
      have hI2 : d.top + (j : Int) < d.bot := by omega
      have hiS : (i : Int) < (S : Int) := by omega
      have hn0 : 0 ≤ d.top + (j : Int) := by omega
      have hn1 : d.top + (j : Int) ≤ 1152921504606846976 := by omega
      go_wp2
      go_region_law (first
        | (refine step_append_os rfl _ _ 29 rfl 2 (.int .i64 0) 1 8 Try.underlying29 Try.infoLong rfl w.heap.size _ j (rowV2 (L.take j)) rfl ((unhide HO).fr (((Fr.refl (fun _ => False) wr).drewN _).alloc _) (fun _ _ h => h)) _ 1 [.int .i64 x] rfl (Src.ofSlice _ Try.underlying29 _ 1 1 _ rfl (cell_one_new _ _ _) (by simp [Value.oneCell'])) (by unfold maxLen; omega) (by omega) (by simp; omega) ?_; intro v' w1 hO1 hF1)
        | (go_simp; go_at_call 32; refine (at_calls (hD.drewN _) (d.top + (j : Int)) ⟨hn0, hn1⟩ HI).mono ?_; rintro e w2 ⟨rfl, rfl⟩; dsimp only))
      all_goals
        go_wp2
        go_roundw
        case rel =>
          refine ⟨j + 1, by omega, by go_num, ?_, ?_⟩
          · have e : L.take (j + 1) = L.take j ++ [x] := by rw [List.take_add_one, HX.out]; rfl
            rw [e]; simpa [rowV2] using hO1
          · refine (((hF.drewN _).alloc (.cells #[.int .i64 x] 2))).trans hF1 (fun _ _ h => h) (fun i hi hk => ?_)
            have := hk.1
            omega
        case measure => simp [intOf]; omega
    · have hge : d.bot ≤ d.top + (j : Int) := by omega
      have hjm : j = z := by omega
      go_wp2
      go_ret
      refine ⟨_, rfl, ?_, hF⟩
      subst hjm
      rw [List.take_of_length_le (by rw [HL.out]; omega)] at hO
      unfold LS
      rw [HL.out]
      exact hO

end Go.Proofs.Ytingpopcdihclaa
