/-
  RingKinds: rings of numbers, of texts and of pairs do alike.
-/
import Derived.Test.YtkojdjeiblknhaaRpPop
import Derived.Test.YtkojdjeiblknhaaRsAll
import Derived.Test.YtkojdjeiblknhaaRgBound
import Derived.Laws.IdiomStrings
namespace Go.Proofs.Ytkojdjeiblknhaa
open Go.RowKit
set_option linter.unusedVariables false
set_option maxRecDepth 8192

/-- the text of one byte -/
def encS (x : Int) : ByteArray := ⟨#[UInt8.ofNat (x % 256).toNat]⟩

theorem conv_one {w : World} {b : Nat} {x : Int} (h : w.heap[b]? = some (.cells #[.int .u8 (x % 256)] 5 (0, 0))) :
    (convert 55 9 (.slice (some ⟨b, 0, none⟩) 1 1)).run Try.prog w = .ok (.string (encS x)) w := by
  refine run_convert_bytes_back w 55 9 5 ⟨b, 0, none⟩ 1 [UInt8.ofNat (x % 256).toNat] Try.underlying55 Try.underlying5 Try.underlying9 (fun j hj => ?_)
  obtain rfl : j = 0 := by simp at hj; omega
  have h0 := cell_at h 0
  simp only [Addr.add_lit, Nat.add_zero]
  rw [h0]
  simp
  omega

theorem conv_two (w : World) (o : Obj) (x : Int) :
    (convert 55 9 (.slice (some ⟨w.heap.size + 1, 0, none⟩) 1 1)).run Try.prog ((w.alloc o).alloc (.cells #[.int .u8 (x % 256)] 5)) = .ok (.string (encS x)) ((w.alloc o).alloc (.cells #[.int .u8 (x % 256)] 5)) := by
  refine conv_one ?_
  have := blk_new (w.alloc o) (.cells #[.int .u8 (x % 256)] 5)
  simpa using this

theorem snew2 {n : Int} {S : Nat} (h : clamp n = S) (w : World) :
    Calls Try.prog 28 #[.int .i64 n] w fun e w' => ∃ G, Hid (w.heap.size = G) ∧ e = .returned (.pointer (some ⟨G + 1, 0, none⟩)) ∧ Rs.Rg w' (G + 1) G S [] ∧ Fr (fun _ => False) w w' :=
  (Rs.rnew n w).mono fun e w' ⟨h1, h2, h3⟩ => ⟨_, hide rfl, h1, h ▸ h2, h3⟩
theorem pnew2 {n : Int} {S : Nat} (h : clamp n = S) (w : World) :
    Calls Try.prog 29 #[.int .i64 n] w fun e w' => ∃ G, Hid (w.heap.size = G) ∧ e = .returned (.pointer (some ⟨G + 1, 0, none⟩)) ∧ Rp.Rg w' (G + 1) G S [] ∧ Fr (fun _ => False) w w' :=
  (Rp.rnew n w).mono fun e w' ⟨h1, h2, h3⟩ => ⟨_, hide rfl, h1, h ▸ h2, h3⟩

set_option maxHeartbeats 60000000 in
theorem kinds_calls {w : World} (size : Int) {a1 : Option Addr} {n1 k1 : Nat} {ops : List (Int × Int)} (A1 : PrA w.heap.size w a1 n1 ops) :
    Calls Try.prog 6 #[.int .i64 size, .slice a1 n1 k1] w fun e w' => e = .returned (.bool true) ∧ Fr (fun _ => False) w w' := by
  have s1 := A1.small
  go_enter Try.func6, Try.ntmps6
  go_wp2_with (first
    | (go_at_call 9; refine (lives_calls _).mono ?_; rintro e w1 ⟨rfl, hF0⟩)
    | (go_at_call 10; refine (rnew2 _ _).mono ?_; rintro e w2 ⟨Ga, S, hG0, hS0, rfl, hA, hFa⟩)
    | (go_at_call 28; refine (snew2 (unhide hS0) _).mono ?_; rintro e w3 ⟨Gb, hG1, rfl, hB, hFb⟩)
    | (go_at_call 29; refine (pnew2 (unhide hS0) _).mono ?_; rintro e w4 ⟨Gc, hG2, rfl, hC, hFc⟩))
  have hS1 := clamp_pos size
  have hS2 := clamp_most size
  rw [hS0.out] at hS1 hS2
  have hGa : w.heap.size ≤ Ga := by rw [← hG0.out]; exact hF0.size
  have hGb : Ga + 1 < Gb := by rw [← hG1.out]; obtain ⟨f, h⟩ := hA; exact lt_of_blk h.blk
  have hGc : Gb + 1 < Gc := by rw [← hG2.out]; obtain ⟨f, h⟩ := hB; exact lt_of_blk h.blk
  have hF : Fr (fun _ => False) w w4 := ((hF0.trans hFa (fun _ _ h => h) (fun _ _ h => h)).trans hFb (fun _ _ h => h) (fun _ _ h => h)).trans hFc (fun _ _ h => h) (fun _ _ h => h)
  replace hA := (hA.fr hFb (fun h => h) (fun h => h)).fr hFc (fun h => h) (fun h => h)
  replace hB := hB.fr hFc (fun h => h) (fun h => h)
  clear hG0 hG1 hG2 hS0 hF0 hFa hFb hFc
  go_loopw [8] (fun i wr => ∃ (k : Nat) (p : List (Int × Int)), k ≤ n1 ∧ i = .int .i64 k ∧ Rg wr (Ga + 1) Ga S (p.map (·.1)) ∧ Rs.Rg wr (Gb + 1) Gb S (p.map (fun q => encS q.1)) ∧ Rp.Rg wr (Gc + 1) Gc S p ∧ Fr (fun _ => False) w wr) (fun i _ => n1 - (intOf i).toNat)
  case atStart => exact ⟨0, [], by omega, rfl, hA, hB, hC, hF⟩
  case round =>
    clear hA hB hC hF
    obtain ⟨k, p, hk, rfl, hA, hB, hC, hF⟩ := hrel
    by_cases hlt : k < n1
    · obtain ⟨ba, off, ⟨kk, x⟩, vs, rfl, hba, hx, hc, rfl, _, _⟩ := (A1.fr hF (fun _ h => h.elim)).at hlt
      have d0 : wr.cell? ⟨ba, off + k * 2, none⟩ = some (.int .i64 kk) := by simpa using hc 0 _ rfl
      have d1 : wr.cell? ⟨ba, off + k * 2 + 1, none⟩ = some (.int .i64 x) := by simpa using hc 1 _ rfl
      have hlt' : (k : Int) < (n1 : Int) := by omega
      have hcv := conv_two wr (.cells #[.int .i64 kk, .int .i64 x] 33) x
      have hzG : Gc + 1 < wr.heap.size := by obtain ⟨f, h⟩ := hC; exact lt_of_blk h.blk
      have hq : Fr (fun _ => False) wr ((wr.alloc (.cells #[.int .i64 kk, .int .i64 x] 33)).alloc (.cells #[.int .u8 (x % 256)] 5)) := ((Fr.refl _ wr).alloc _).alloc _
      have hO : ((wr.alloc (.cells #[.int .i64 kk, .int .i64 x] 33)).alloc (.cells #[.int .u8 (x % 256)] 5)).heap[wr.heap.size]? = some (.cells #[.int .i64 kk, .int .i64 x] 33 (0, 0)) := blk_alloc (blk_new wr _)
      have hcv := conv_two wr (.cells #[.int .i64 kk, .int .i64 x] 33) x
      have hzG : Gc + 1 < wr.heap.size := by obtain ⟨f, h⟩ := hC; exact lt_of_blk h.blk
      have hq : Fr (fun _ => False) wr ((wr.alloc (.cells #[.int .i64 kk, .int .i64 x] 33)).alloc (.cells #[.int .u8 (x % 256)] 5)) := ((Fr.refl _ wr).alloc _).alloc _
      have hO : ((wr.alloc (.cells #[.int .i64 kk, .int .i64 x] 33)).alloc (.cells #[.int .u8 (x % 256)] 5)).heap[wr.heap.size]? = some (.cells #[.int .i64 kk, .int .i64 x] 33 (0, 0)) := blk_alloc (blk_new wr _)
      have hcv := conv_two wr (.cells #[.int .i64 kk, .int .i64 x] 33) x
      have hzG : Gc + 1 < wr.heap.size := by obtain ⟨f, h⟩ := hC; exact lt_of_blk h.blk
      have hq : Fr (fun _ => False) wr ((wr.alloc (.cells #[.int .i64 kk, .int .i64 x] 33)).alloc (.cells #[.int .u8 (x % 256)] 5)) := ((Fr.refl _ wr).alloc _).alloc _
      have hO : ((wr.alloc (.cells #[.int .i64 kk, .int .i64 x] 33)).alloc (.cells #[.int .u8 (x % 256)] 5)).heap[wr.heap.size]? = some (.cells #[.int .i64 kk, .int .i64 x] 33 (0, 0)) := blk_alloc (blk_new wr _)
      go_upto_region 9 with fail
      replace hA := hA.fr hq (fun h => h) (fun h => h)
      replace hB := hB.fr hq (fun h => h) (fun h => h)
      replace hC := hC.fr hq (fun h => h) (fun h => h)
      replace hF := hF.trans hq (fun _ _ h => h) (fun _ _ h => h)
      clear hcv hq d0 d1 hx hc
      generalize (wr.alloc (.cells #[.int .i64 kk, .int .i64 x] 33)).alloc (.cells #[.int .u8 (x % 256)] 5) = wa at *
      generalize wr.heap.size = bo at *
      have c0 := cell_at hO 0
      have c1 := cell_at hO 1
      simp at c0 c1
      obtain ⟨ln, HLn⟩ : ∃ ln, p.length = ln := ⟨_, rfl⟩
      have HL0 := hide HLn
      have hLS := hC.len
      rw [HLn] at hLS
      clear HLn
      rcases kd_lt kk with hkd | hkd | hkd | hkd
      · by_cases hroom : ln < S
        · skip
          have HL : Hid ((p ++ [(x, (k : Int))]).length = ln + 1) := hide (by have := HL0.out; first | exact this | rfl | (simp at this ⊢; omega))
          go_wp2_with (first
            | (go_at_call 13; refine (kind_val hkd _ _).mono ?_; rintro e w1 ⟨rfl, hF1⟩; replace hA := hA.fr hF1 (fun h => h) (fun h => h); replace hB := hB.fr hF1 (fun h => h) (fun h => h); replace hC := hC.fr hF1 (fun h => h) (fun h => h); replace hO := hF1.blk hO (fun h => h); have c0 := cell_at hO 0; have c1 := cell_at hO 1; simp at c0 c1; replace hF := hF.trans hF1 (fun _ _ h => h) (fun _ _ h => h))
            | (go_at_call 14; refine (rput_ok hA (by have := HL0.out; simp; omega) _).mono ?_; rintro e w1 ⟨rfl, hA1, hF1⟩; replace hA := hA1; replace hB := hB.fr hF1 (by omega) (by omega); replace hC := hC.fr hF1 (by omega) (by omega); replace hO := hF1.blk hO (by omega); have c0 := cell_at hO 0; have c1 := cell_at hO 1; simp at c0 c1; replace hF := hF.ring hF1 (.inl (by omega)) (.inl (by omega)))
            | (go_at_call 30; refine (Rs.rput_ok hB (by have := HL0.out; simp; omega) _).mono ?_; rintro e w1 ⟨rfl, hB1, hF1⟩; replace hB := hB1; replace hA := hA.fr hF1 (by omega) (by omega); replace hC := hC.fr hF1 (by omega) (by omega); replace hO := hF1.blk hO (by omega); have c0 := cell_at hO 0; have c1 := cell_at hO 1; simp at c0 c1; replace hF := hF.ring hF1 (.inl (by omega)) (.inl (by omega)))
            | (go_at_call 31; refine (Rp.rput_ok hC (by have := HL0.out; simp; omega) _ _).mono ?_; rintro e w1 ⟨rfl, hC1, hF1⟩; replace hC := hC1; replace hA := hA.fr hF1 (by omega) (by omega); replace hB := hB.fr hF1 (by omega) (by omega); replace hO := hF1.blk hO (by omega); have c0 := cell_at hO 0; have c1 := cell_at hO 1; simp at c0 c1; replace hF := hF.ring hF1 (.inl (by omega)) (.inl (by omega)))
            | (go_at_call 22; refine (rlen (hA.fr (by first | exact Fr.refl (fun _ => False) _ | exact (Fr.refl (fun _ => False) _).alloc _ | exact ((Fr.refl (fun _ => False) _).alloc _).alloc _) (fun h => h) (fun h => h)) (n := ln + 1) (hide (by have := HL.out; first | exact this | rfl | (rw [List.length_map]; exact this) | (simp at this ⊢; omega)))).mono ?_; rintro e w1 ⟨rfl, rfl⟩)
            | (go_at_call 38; refine (Rs.rlen (hB.fr (by first | exact Fr.refl (fun _ => False) _ | exact (Fr.refl (fun _ => False) _).alloc _ | exact ((Fr.refl (fun _ => False) _).alloc _).alloc _) (fun h => h) (fun h => h)) (n := ln + 1) (hide (by have := HL.out; first | exact this | rfl | (rw [List.length_map]; exact this) | (simp at this ⊢; omega)))).mono ?_; rintro e w1 ⟨rfl, rfl⟩)
            | (go_at_call 39; refine (Rp.rlen (hC.fr (by first | exact Fr.refl (fun _ => False) _ | exact (Fr.refl (fun _ => False) _).alloc _ | exact ((Fr.refl (fun _ => False) _).alloc _).alloc _) (fun h => h) (fun h => h)) (n := ln + 1) (hide (by have := HL.out; first | exact this | rfl | (rw [List.length_map]; exact this) | (simp at this ⊢; omega)))).mono ?_; rintro e w1 ⟨rfl, rfl⟩))
          go_roundw
          case rel => exact ⟨k + 1, p ++ [(x, (k : Int))], by omega, by go_num, by simpa using hA, by simpa using hB, hC, hF⟩
          case measure => simp [intOf]; omega
        · skip
          have HL : Hid ((p).length = ln) := hide (by have := HL0.out; first | exact this | rfl | (simp at this ⊢; omega))
          go_wp2_with (first
            | (go_at_call 13; refine (kind_val hkd _ _).mono ?_; rintro e w1 ⟨rfl, hF1⟩; replace hA := hA.fr hF1 (fun h => h) (fun h => h); replace hB := hB.fr hF1 (fun h => h) (fun h => h); replace hC := hC.fr hF1 (fun h => h) (fun h => h); replace hO := hF1.blk hO (fun h => h); have c0 := cell_at hO 0; have c1 := cell_at hO 1; simp at c0 c1; replace hF := hF.trans hF1 (fun _ _ h => h) (fun _ _ h => h))
            | (go_at_call 14; refine (rput_full hA (by have := HL0.out; simp; omega) _).mono ?_; rintro e w1 ⟨rfl, hA1, hF1⟩; replace hA := hA1; replace hB := hB.fr hF1 (by omega) (by omega); replace hC := hC.fr hF1 (by omega) (by omega); replace hO := hF1.blk hO (by omega); have c0 := cell_at hO 0; have c1 := cell_at hO 1; simp at c0 c1; replace hF := hF.ring hF1 (.inl (by omega)) (.inl (by omega)))
            | (go_at_call 30; refine (Rs.rput_full hB (by have := HL0.out; simp; omega) _).mono ?_; rintro e w1 ⟨rfl, hB1, hF1⟩; replace hB := hB1; replace hA := hA.fr hF1 (by omega) (by omega); replace hC := hC.fr hF1 (by omega) (by omega); replace hO := hF1.blk hO (by omega); have c0 := cell_at hO 0; have c1 := cell_at hO 1; simp at c0 c1; replace hF := hF.ring hF1 (.inl (by omega)) (.inl (by omega)))
            | (go_at_call 31; refine (Rp.rput_full hC (by have := HL0.out; simp; omega) _ _).mono ?_; rintro e w1 ⟨rfl, hC1, hF1⟩; replace hC := hC1; replace hA := hA.fr hF1 (by omega) (by omega); replace hB := hB.fr hF1 (by omega) (by omega); replace hO := hF1.blk hO (by omega); have c0 := cell_at hO 0; have c1 := cell_at hO 1; simp at c0 c1; replace hF := hF.ring hF1 (.inl (by omega)) (.inl (by omega)))
            | (go_at_call 22; refine (rlen (hA.fr (by first | exact Fr.refl (fun _ => False) _ | exact (Fr.refl (fun _ => False) _).alloc _ | exact ((Fr.refl (fun _ => False) _).alloc _).alloc _) (fun h => h) (fun h => h)) (n := ln) (hide (by have := HL.out; first | exact this | rfl | (rw [List.length_map]; exact this) | (simp at this ⊢; omega)))).mono ?_; rintro e w1 ⟨rfl, rfl⟩)
            | (go_at_call 38; refine (Rs.rlen (hB.fr (by first | exact Fr.refl (fun _ => False) _ | exact (Fr.refl (fun _ => False) _).alloc _ | exact ((Fr.refl (fun _ => False) _).alloc _).alloc _) (fun h => h) (fun h => h)) (n := ln) (hide (by have := HL.out; first | exact this | rfl | (rw [List.length_map]; exact this) | (simp at this ⊢; omega)))).mono ?_; rintro e w1 ⟨rfl, rfl⟩)
            | (go_at_call 39; refine (Rp.rlen (hC.fr (by first | exact Fr.refl (fun _ => False) _ | exact (Fr.refl (fun _ => False) _).alloc _ | exact ((Fr.refl (fun _ => False) _).alloc _).alloc _) (fun h => h) (fun h => h)) (n := ln) (hide (by have := HL.out; first | exact this | rfl | (rw [List.length_map]; exact this) | (simp at this ⊢; omega)))).mono ?_; rintro e w1 ⟨rfl, rfl⟩))
          go_roundw
          case rel => exact ⟨k + 1, p, by omega, by go_num, by simpa using hA, by simpa using hB, hC, hF⟩
          case measure => simp [intOf]; omega
      · by_cases hroom : ln < S
        · skip
          have HL : Hid (((x, (k : Int)) :: p).length = ln + 1) := hide (by have := HL0.out; first | exact this | rfl | (simp at this ⊢; omega))
          go_wp2_with (first
            | (go_at_call 13; refine (kind_val hkd _ _).mono ?_; rintro e w1 ⟨rfl, hF1⟩; replace hA := hA.fr hF1 (fun h => h) (fun h => h); replace hB := hB.fr hF1 (fun h => h) (fun h => h); replace hC := hC.fr hF1 (fun h => h) (fun h => h); replace hO := hF1.blk hO (fun h => h); have c0 := cell_at hO 0; have c1 := cell_at hO 1; simp at c0 c1; replace hF := hF.trans hF1 (fun _ _ h => h) (fun _ _ h => h))
            | (go_at_call 16; refine (rpush_ok hA (by have := HL0.out; simp; omega) _).mono ?_; rintro e w1 ⟨rfl, hA1, hF1⟩; replace hA := hA1; replace hB := hB.fr hF1 (by omega) (by omega); replace hC := hC.fr hF1 (by omega) (by omega); replace hO := hF1.blk hO (by omega); have c0 := cell_at hO 0; have c1 := cell_at hO 1; simp at c0 c1; replace hF := hF.ring hF1 (.inl (by omega)) (.inl (by omega)))
            | (go_at_call 32; refine (Rs.rpush_ok hB (by have := HL0.out; simp; omega) _).mono ?_; rintro e w1 ⟨rfl, hB1, hF1⟩; replace hB := hB1; replace hA := hA.fr hF1 (by omega) (by omega); replace hC := hC.fr hF1 (by omega) (by omega); replace hO := hF1.blk hO (by omega); have c0 := cell_at hO 0; have c1 := cell_at hO 1; simp at c0 c1; replace hF := hF.ring hF1 (.inl (by omega)) (.inl (by omega)))
            | (go_at_call 33; refine (Rp.rpush_ok hC (by have := HL0.out; simp; omega) _ _).mono ?_; rintro e w1 ⟨rfl, hC1, hF1⟩; replace hC := hC1; replace hA := hA.fr hF1 (by omega) (by omega); replace hB := hB.fr hF1 (by omega) (by omega); replace hO := hF1.blk hO (by omega); have c0 := cell_at hO 0; have c1 := cell_at hO 1; simp at c0 c1; replace hF := hF.ring hF1 (.inl (by omega)) (.inl (by omega)))
            | (go_at_call 22; refine (rlen (hA.fr (by first | exact Fr.refl (fun _ => False) _ | exact (Fr.refl (fun _ => False) _).alloc _ | exact ((Fr.refl (fun _ => False) _).alloc _).alloc _) (fun h => h) (fun h => h)) (n := ln + 1) (hide (by have := HL.out; first | exact this | rfl | (rw [List.length_map]; exact this) | (simp at this ⊢; omega)))).mono ?_; rintro e w1 ⟨rfl, rfl⟩)
            | (go_at_call 38; refine (Rs.rlen (hB.fr (by first | exact Fr.refl (fun _ => False) _ | exact (Fr.refl (fun _ => False) _).alloc _ | exact ((Fr.refl (fun _ => False) _).alloc _).alloc _) (fun h => h) (fun h => h)) (n := ln + 1) (hide (by have := HL.out; first | exact this | rfl | (rw [List.length_map]; exact this) | (simp at this ⊢; omega)))).mono ?_; rintro e w1 ⟨rfl, rfl⟩)
            | (go_at_call 39; refine (Rp.rlen (hC.fr (by first | exact Fr.refl (fun _ => False) _ | exact (Fr.refl (fun _ => False) _).alloc _ | exact ((Fr.refl (fun _ => False) _).alloc _).alloc _) (fun h => h) (fun h => h)) (n := ln + 1) (hide (by have := HL.out; first | exact this | rfl | (rw [List.length_map]; exact this) | (simp at this ⊢; omega)))).mono ?_; rintro e w1 ⟨rfl, rfl⟩))
          go_roundw
          case rel => exact ⟨k + 1, (x, (k : Int)) :: p, by omega, by go_num, by simpa using hA, by simpa using hB, hC, hF⟩
          case measure => simp [intOf]; omega
        · skip
          have HL : Hid ((p).length = ln) := hide (by have := HL0.out; first | exact this | rfl | (simp at this ⊢; omega))
          go_wp2_with (first
            | (go_at_call 13; refine (kind_val hkd _ _).mono ?_; rintro e w1 ⟨rfl, hF1⟩; replace hA := hA.fr hF1 (fun h => h) (fun h => h); replace hB := hB.fr hF1 (fun h => h) (fun h => h); replace hC := hC.fr hF1 (fun h => h) (fun h => h); replace hO := hF1.blk hO (fun h => h); have c0 := cell_at hO 0; have c1 := cell_at hO 1; simp at c0 c1; replace hF := hF.trans hF1 (fun _ _ h => h) (fun _ _ h => h))
            | (go_at_call 16; refine (rpush_full hA (by have := HL0.out; simp; omega) _).mono ?_; rintro e w1 ⟨rfl, hA1, hF1⟩; replace hA := hA1; replace hB := hB.fr hF1 (by omega) (by omega); replace hC := hC.fr hF1 (by omega) (by omega); replace hO := hF1.blk hO (by omega); have c0 := cell_at hO 0; have c1 := cell_at hO 1; simp at c0 c1; replace hF := hF.ring hF1 (.inl (by omega)) (.inl (by omega)))
            | (go_at_call 32; refine (Rs.rpush_full hB (by have := HL0.out; simp; omega) _).mono ?_; rintro e w1 ⟨rfl, hB1, hF1⟩; replace hB := hB1; replace hA := hA.fr hF1 (by omega) (by omega); replace hC := hC.fr hF1 (by omega) (by omega); replace hO := hF1.blk hO (by omega); have c0 := cell_at hO 0; have c1 := cell_at hO 1; simp at c0 c1; replace hF := hF.ring hF1 (.inl (by omega)) (.inl (by omega)))
            | (go_at_call 33; refine (Rp.rpush_full hC (by have := HL0.out; simp; omega) _ _).mono ?_; rintro e w1 ⟨rfl, hC1, hF1⟩; replace hC := hC1; replace hA := hA.fr hF1 (by omega) (by omega); replace hB := hB.fr hF1 (by omega) (by omega); replace hO := hF1.blk hO (by omega); have c0 := cell_at hO 0; have c1 := cell_at hO 1; simp at c0 c1; replace hF := hF.ring hF1 (.inl (by omega)) (.inl (by omega)))
            | (go_at_call 22; refine (rlen (hA.fr (by first | exact Fr.refl (fun _ => False) _ | exact (Fr.refl (fun _ => False) _).alloc _ | exact ((Fr.refl (fun _ => False) _).alloc _).alloc _) (fun h => h) (fun h => h)) (n := ln) (hide (by have := HL.out; first | exact this | rfl | (rw [List.length_map]; exact this) | (simp at this ⊢; omega)))).mono ?_; rintro e w1 ⟨rfl, rfl⟩)
            | (go_at_call 38; refine (Rs.rlen (hB.fr (by first | exact Fr.refl (fun _ => False) _ | exact (Fr.refl (fun _ => False) _).alloc _ | exact ((Fr.refl (fun _ => False) _).alloc _).alloc _) (fun h => h) (fun h => h)) (n := ln) (hide (by have := HL.out; first | exact this | rfl | (rw [List.length_map]; exact this) | (simp at this ⊢; omega)))).mono ?_; rintro e w1 ⟨rfl, rfl⟩)
            | (go_at_call 39; refine (Rp.rlen (hC.fr (by first | exact Fr.refl (fun _ => False) _ | exact (Fr.refl (fun _ => False) _).alloc _ | exact ((Fr.refl (fun _ => False) _).alloc _).alloc _) (fun h => h) (fun h => h)) (n := ln) (hide (by have := HL.out; first | exact this | rfl | (rw [List.length_map]; exact this) | (simp at this ⊢; omega)))).mono ?_; rintro e w1 ⟨rfl, rfl⟩))
          go_roundw
          case rel => exact ⟨k + 1, p, by omega, by go_num, by simpa using hA, by simpa using hB, hC, hF⟩
          case measure => simp [intOf]; omega
      · rcases p with _ | ⟨⟨y, z⟩, p⟩
        · skip
          have HL : Hid ((([] : List (Int × Int))).length = 0) := hide (by have := HL0.out; first | exact this | rfl | (simp at this ⊢; omega))
          go_wp2_with (first
            | (go_at_call 13; refine (kind_val hkd _ _).mono ?_; rintro e w1 ⟨rfl, hF1⟩; replace hA := hA.fr hF1 (fun h => h) (fun h => h); replace hB := hB.fr hF1 (fun h => h) (fun h => h); replace hC := hC.fr hF1 (fun h => h) (fun h => h); replace hO := hF1.blk hO (fun h => h); have c0 := cell_at hO 0; have c1 := cell_at hO 1; simp at c0 c1; replace hF := hF.trans hF1 (fun _ _ h => h) (fun _ _ h => h))
            | (go_at_call 18; refine (rtake_none hA).mono ?_; rintro e w1 ⟨rfl, hA1, hF1⟩; replace hA := hA1; replace hB := hB.fr hF1 (by omega) (by omega); replace hC := hC.fr hF1 (by omega) (by omega); replace hO := hF1.blk hO (by omega); have c0 := cell_at hO 0; have c1 := cell_at hO 1; simp at c0 c1; replace hF := hF.ring hF1 (.inl (by omega)) (.inl (by omega)))
            | (go_at_call 34; refine (Rs.rtake_none hB).mono ?_; rintro e w1 ⟨rfl, hB1, hF1⟩; replace hB := hB1; replace hA := hA.fr hF1 (by omega) (by omega); replace hC := hC.fr hF1 (by omega) (by omega); replace hO := hF1.blk hO (by omega); have c0 := cell_at hO 0; have c1 := cell_at hO 1; simp at c0 c1; replace hF := hF.ring hF1 (.inl (by omega)) (.inl (by omega)))
            | (go_at_call 35; refine (Rp.rtake_none hC).mono ?_; rintro e w1 ⟨rfl, hC1, hF1⟩; replace hC := hC1; replace hA := hA.fr hF1 (by omega) (by omega); replace hB := hB.fr hF1 (by omega) (by omega); replace hO := hF1.blk hO (by omega); have c0 := cell_at hO 0; have c1 := cell_at hO 1; simp at c0 c1; replace hF := hF.ring hF1 (.inl (by omega)) (.inl (by omega)))
            | (go_at_call 22; refine (rlen (hA.fr (by first | exact Fr.refl (fun _ => False) _ | exact (Fr.refl (fun _ => False) _).alloc _ | exact ((Fr.refl (fun _ => False) _).alloc _).alloc _) (fun h => h) (fun h => h)) (n := 0) (hide (by have := HL.out; first | exact this | rfl | (rw [List.length_map]; exact this) | (simp at this ⊢; omega)))).mono ?_; rintro e w1 ⟨rfl, rfl⟩)
            | (go_at_call 38; refine (Rs.rlen (hB.fr (by first | exact Fr.refl (fun _ => False) _ | exact (Fr.refl (fun _ => False) _).alloc _ | exact ((Fr.refl (fun _ => False) _).alloc _).alloc _) (fun h => h) (fun h => h)) (n := 0) (hide (by have := HL.out; first | exact this | rfl | (rw [List.length_map]; exact this) | (simp at this ⊢; omega)))).mono ?_; rintro e w1 ⟨rfl, rfl⟩)
            | (go_at_call 39; refine (Rp.rlen (hC.fr (by first | exact Fr.refl (fun _ => False) _ | exact (Fr.refl (fun _ => False) _).alloc _ | exact ((Fr.refl (fun _ => False) _).alloc _).alloc _) (fun h => h) (fun h => h)) (n := 0) (hide (by have := HL.out; first | exact this | rfl | (rw [List.length_map]; exact this) | (simp at this ⊢; omega)))).mono ?_; rintro e w1 ⟨rfl, rfl⟩))
          go_roundw
          case rel => exact ⟨k + 1, ([] : List (Int × Int)), by omega, by go_num, hA.fr (by first | exact Fr.refl (fun _ => False) _ | exact (Fr.refl (fun _ => False) _).alloc _ | exact ((Fr.refl (fun _ => False) _).alloc _).alloc _) (fun h => h) (fun h => h), hB.fr (by first | exact Fr.refl (fun _ => False) _ | exact (Fr.refl (fun _ => False) _).alloc _ | exact ((Fr.refl (fun _ => False) _).alloc _).alloc _) (fun h => h) (fun h => h), hC.fr (by first | exact Fr.refl (fun _ => False) _ | exact (Fr.refl (fun _ => False) _).alloc _ | exact ((Fr.refl (fun _ => False) _).alloc _).alloc _) (fun h => h) (fun h => h), hF.trans (by first | exact Fr.refl (fun _ => False) _ | exact (Fr.refl (fun _ => False) _).alloc _ | exact ((Fr.refl (fun _ => False) _).alloc _).alloc _) (fun _ _ h => h) (fun _ _ h => h)⟩
          case measure => simp [intOf]; omega
        · obtain ⟨m, rfl⟩ : ∃ m, ln = m + 1 := ⟨p.length, HL0.out.symm⟩
          have HL : Hid ((p).length = m) := hide (by have := HL0.out; first | exact this | rfl | (simp at this ⊢; omega))
          go_wp2_with (first
            | (go_at_call 13; refine (kind_val hkd _ _).mono ?_; rintro e w1 ⟨rfl, hF1⟩; replace hA := hA.fr hF1 (fun h => h) (fun h => h); replace hB := hB.fr hF1 (fun h => h) (fun h => h); replace hC := hC.fr hF1 (fun h => h) (fun h => h); replace hO := hF1.blk hO (fun h => h); have c0 := cell_at hO 0; have c1 := cell_at hO 1; simp at c0 c1; replace hF := hF.trans hF1 (fun _ _ h => h) (fun _ _ h => h))
            | (go_at_call 18; refine (rtake_some (x := y) (l := p.map (·.1)) hA).mono ?_; rintro e w1 ⟨rfl, hA1, hF1⟩; replace hA := hA1; replace hB := hB.fr hF1 (by omega) (by omega); replace hC := hC.fr hF1 (by omega) (by omega); replace hO := hF1.blk hO (by omega); have c0 := cell_at hO 0; have c1 := cell_at hO 1; simp at c0 c1; replace hF := hF.ring hF1 (.inl (by omega)) (.inl (by omega)))
            | (go_at_call 34; refine (Rs.rtake_some (x := encS y) (l := p.map (fun q => encS q.1)) hB).mono ?_; rintro e w1 ⟨rfl, hB1, hF1⟩; replace hB := hB1; replace hA := hA.fr hF1 (by omega) (by omega); replace hC := hC.fr hF1 (by omega) (by omega); replace hO := hF1.blk hO (by omega); have c0 := cell_at hO 0; have c1 := cell_at hO 1; simp at c0 c1; replace hF := hF.ring hF1 (.inl (by omega)) (.inl (by omega)))
            | (go_at_call 35; refine (Rp.rtake_some hC).mono ?_; rintro e w1 ⟨rfl, hC1, hF1⟩; replace hC := hC1; replace hA := hA.fr hF1 (by omega) (by omega); replace hB := hB.fr hF1 (by omega) (by omega); replace hO := hF1.blk hO (by omega); have c0 := cell_at hO 0; have c1 := cell_at hO 1; simp at c0 c1; replace hF := hF.ring hF1 (.inl (by omega)) (.inl (by omega)); have hcv := conv_two w1 (.cells #[.int .i64 y, .int .i64 z] 54) y)
            | (go_at_call 22; refine (rlen (hA.fr (by first | exact Fr.refl (fun _ => False) _ | exact (Fr.refl (fun _ => False) _).alloc _ | exact ((Fr.refl (fun _ => False) _).alloc _).alloc _) (fun h => h) (fun h => h)) (n := m) (hide (by have := HL.out; first | exact this | rfl | (rw [List.length_map]; exact this) | (simp at this ⊢; omega)))).mono ?_; rintro e w1 ⟨rfl, rfl⟩)
            | (go_at_call 38; refine (Rs.rlen (hB.fr (by first | exact Fr.refl (fun _ => False) _ | exact (Fr.refl (fun _ => False) _).alloc _ | exact ((Fr.refl (fun _ => False) _).alloc _).alloc _) (fun h => h) (fun h => h)) (n := m) (hide (by have := HL.out; first | exact this | rfl | (rw [List.length_map]; exact this) | (simp at this ⊢; omega)))).mono ?_; rintro e w1 ⟨rfl, rfl⟩)
            | (go_at_call 39; refine (Rp.rlen (hC.fr (by first | exact Fr.refl (fun _ => False) _ | exact (Fr.refl (fun _ => False) _).alloc _ | exact ((Fr.refl (fun _ => False) _).alloc _).alloc _) (fun h => h) (fun h => h)) (n := m) (hide (by have := HL.out; first | exact this | rfl | (rw [List.length_map]; exact this) | (simp at this ⊢; omega)))).mono ?_; rintro e w1 ⟨rfl, rfl⟩))
          go_roundw
          case rel => exact ⟨k + 1, p, by omega, by go_num, hA.fr (by first | exact Fr.refl (fun _ => False) _ | exact (Fr.refl (fun _ => False) _).alloc _ | exact ((Fr.refl (fun _ => False) _).alloc _).alloc _) (fun h => h) (fun h => h), hB.fr (by first | exact Fr.refl (fun _ => False) _ | exact (Fr.refl (fun _ => False) _).alloc _ | exact ((Fr.refl (fun _ => False) _).alloc _).alloc _) (fun h => h) (fun h => h), hC.fr (by first | exact Fr.refl (fun _ => False) _ | exact (Fr.refl (fun _ => False) _).alloc _ | exact ((Fr.refl (fun _ => False) _).alloc _).alloc _) (fun h => h) (fun h => h), hF.trans (by first | exact Fr.refl (fun _ => False) _ | exact (Fr.refl (fun _ => False) _).alloc _ | exact ((Fr.refl (fun _ => False) _).alloc _).alloc _) (fun _ _ h => h) (fun _ _ h => h)⟩
          case measure => simp [intOf]; omega
      · rcases List.eq_nil_or_concat p with rfl | ⟨p2, ⟨y, z⟩, rfl⟩
        · skip
          have HL : Hid ((([] : List (Int × Int))).length = 0) := hide (by have := HL0.out; first | exact this | rfl | (simp at this ⊢; omega))
          go_wp2_with (first
            | (go_at_call 13; refine (kind_val hkd _ _).mono ?_; rintro e w1 ⟨rfl, hF1⟩; replace hA := hA.fr hF1 (fun h => h) (fun h => h); replace hB := hB.fr hF1 (fun h => h) (fun h => h); replace hC := hC.fr hF1 (fun h => h) (fun h => h); replace hO := hF1.blk hO (fun h => h); have c0 := cell_at hO 0; have c1 := cell_at hO 1; simp at c0 c1; replace hF := hF.trans hF1 (fun _ _ h => h) (fun _ _ h => h))
            | (go_at_call 20; refine (rpop_none hA).mono ?_; rintro e w1 ⟨rfl, hA1, hF1⟩; replace hA := hA1; replace hB := hB.fr hF1 (by omega) (by omega); replace hC := hC.fr hF1 (by omega) (by omega); replace hO := hF1.blk hO (by omega); have c0 := cell_at hO 0; have c1 := cell_at hO 1; simp at c0 c1; replace hF := hF.ring hF1 (.inl (by omega)) (.inl (by omega)))
            | (go_at_call 36; refine (Rs.rpop_none hB).mono ?_; rintro e w1 ⟨rfl, hB1, hF1⟩; replace hB := hB1; replace hA := hA.fr hF1 (by omega) (by omega); replace hC := hC.fr hF1 (by omega) (by omega); replace hO := hF1.blk hO (by omega); have c0 := cell_at hO 0; have c1 := cell_at hO 1; simp at c0 c1; replace hF := hF.ring hF1 (.inl (by omega)) (.inl (by omega)))
            | (go_at_call 37; refine (Rp.rpop_none hC).mono ?_; rintro e w1 ⟨rfl, hC1, hF1⟩; replace hC := hC1; replace hA := hA.fr hF1 (by omega) (by omega); replace hB := hB.fr hF1 (by omega) (by omega); replace hO := hF1.blk hO (by omega); have c0 := cell_at hO 0; have c1 := cell_at hO 1; simp at c0 c1; replace hF := hF.ring hF1 (.inl (by omega)) (.inl (by omega)))
            | (go_at_call 22; refine (rlen (hA.fr (by first | exact Fr.refl (fun _ => False) _ | exact (Fr.refl (fun _ => False) _).alloc _ | exact ((Fr.refl (fun _ => False) _).alloc _).alloc _) (fun h => h) (fun h => h)) (n := 0) (hide (by have := HL.out; first | exact this | rfl | (rw [List.length_map]; exact this) | (simp at this ⊢; omega)))).mono ?_; rintro e w1 ⟨rfl, rfl⟩)
            | (go_at_call 38; refine (Rs.rlen (hB.fr (by first | exact Fr.refl (fun _ => False) _ | exact (Fr.refl (fun _ => False) _).alloc _ | exact ((Fr.refl (fun _ => False) _).alloc _).alloc _) (fun h => h) (fun h => h)) (n := 0) (hide (by have := HL.out; first | exact this | rfl | (rw [List.length_map]; exact this) | (simp at this ⊢; omega)))).mono ?_; rintro e w1 ⟨rfl, rfl⟩)
            | (go_at_call 39; refine (Rp.rlen (hC.fr (by first | exact Fr.refl (fun _ => False) _ | exact (Fr.refl (fun _ => False) _).alloc _ | exact ((Fr.refl (fun _ => False) _).alloc _).alloc _) (fun h => h) (fun h => h)) (n := 0) (hide (by have := HL.out; first | exact this | rfl | (rw [List.length_map]; exact this) | (simp at this ⊢; omega)))).mono ?_; rintro e w1 ⟨rfl, rfl⟩))
          go_roundw
          case rel => exact ⟨k + 1, ([] : List (Int × Int)), by omega, by go_num, hA.fr (by first | exact Fr.refl (fun _ => False) _ | exact (Fr.refl (fun _ => False) _).alloc _ | exact ((Fr.refl (fun _ => False) _).alloc _).alloc _) (fun h => h) (fun h => h), hB.fr (by first | exact Fr.refl (fun _ => False) _ | exact (Fr.refl (fun _ => False) _).alloc _ | exact ((Fr.refl (fun _ => False) _).alloc _).alloc _) (fun h => h) (fun h => h), hC.fr (by first | exact Fr.refl (fun _ => False) _ | exact (Fr.refl (fun _ => False) _).alloc _ | exact ((Fr.refl (fun _ => False) _).alloc _).alloc _) (fun h => h) (fun h => h), hF.trans (by first | exact Fr.refl (fun _ => False) _ | exact (Fr.refl (fun _ => False) _).alloc _ | exact ((Fr.refl (fun _ => False) _).alloc _).alloc _) (fun _ _ h => h) (fun _ _ h => h)⟩
          case measure => simp [intOf]; omega
        · obtain ⟨m, rfl⟩ : ∃ m, ln = m + 1 := ⟨p2.length, by have := HL0.out; simp at this; omega⟩
          rw [List.concat_eq_append] at hA hB hC HL0
          simp only [List.map_append, List.map_cons, List.map_nil] at hA hB
          have HL : Hid ((p2).length = m) := hide (by have := HL0.out; first | exact this | rfl | (simp at this ⊢; omega))
          go_wp2_with (first
            | (go_at_call 13; refine (kind_val hkd _ _).mono ?_; rintro e w1 ⟨rfl, hF1⟩; replace hA := hA.fr hF1 (fun h => h) (fun h => h); replace hB := hB.fr hF1 (fun h => h) (fun h => h); replace hC := hC.fr hF1 (fun h => h) (fun h => h); replace hO := hF1.blk hO (fun h => h); have c0 := cell_at hO 0; have c1 := cell_at hO 1; simp at c0 c1; replace hF := hF.trans hF1 (fun _ _ h => h) (fun _ _ h => h))
            | (go_at_call 20; refine (rpop_some hA).mono ?_; rintro e w1 ⟨rfl, hA1, hF1⟩; replace hA := hA1; replace hB := hB.fr hF1 (by omega) (by omega); replace hC := hC.fr hF1 (by omega) (by omega); replace hO := hF1.blk hO (by omega); have c0 := cell_at hO 0; have c1 := cell_at hO 1; simp at c0 c1; replace hF := hF.ring hF1 (.inl (by omega)) (.inl (by omega)))
            | (go_at_call 36; refine (Rs.rpop_some hB).mono ?_; rintro e w1 ⟨rfl, hB1, hF1⟩; replace hB := hB1; replace hA := hA.fr hF1 (by omega) (by omega); replace hC := hC.fr hF1 (by omega) (by omega); replace hO := hF1.blk hO (by omega); have c0 := cell_at hO 0; have c1 := cell_at hO 1; simp at c0 c1; replace hF := hF.ring hF1 (.inl (by omega)) (.inl (by omega)))
            | (go_at_call 37; refine (Rp.rpop_some hC).mono ?_; rintro e w1 ⟨rfl, hC1, hF1⟩; replace hC := hC1; replace hA := hA.fr hF1 (by omega) (by omega); replace hB := hB.fr hF1 (by omega) (by omega); replace hO := hF1.blk hO (by omega); have c0 := cell_at hO 0; have c1 := cell_at hO 1; simp at c0 c1; replace hF := hF.ring hF1 (.inl (by omega)) (.inl (by omega)); have hcv := conv_two w1 (.cells #[.int .i64 y, .int .i64 z] 54) y)
            | (go_at_call 22; refine (rlen (hA.fr (by first | exact Fr.refl (fun _ => False) _ | exact (Fr.refl (fun _ => False) _).alloc _ | exact ((Fr.refl (fun _ => False) _).alloc _).alloc _) (fun h => h) (fun h => h)) (n := m) (hide (by have := HL.out; first | exact this | rfl | (rw [List.length_map]; exact this) | (simp at this ⊢; omega)))).mono ?_; rintro e w1 ⟨rfl, rfl⟩)
            | (go_at_call 38; refine (Rs.rlen (hB.fr (by first | exact Fr.refl (fun _ => False) _ | exact (Fr.refl (fun _ => False) _).alloc _ | exact ((Fr.refl (fun _ => False) _).alloc _).alloc _) (fun h => h) (fun h => h)) (n := m) (hide (by have := HL.out; first | exact this | rfl | (rw [List.length_map]; exact this) | (simp at this ⊢; omega)))).mono ?_; rintro e w1 ⟨rfl, rfl⟩)
            | (go_at_call 39; refine (Rp.rlen (hC.fr (by first | exact Fr.refl (fun _ => False) _ | exact (Fr.refl (fun _ => False) _).alloc _ | exact ((Fr.refl (fun _ => False) _).alloc _).alloc _) (fun h => h) (fun h => h)) (n := m) (hide (by have := HL.out; first | exact this | rfl | (rw [List.length_map]; exact this) | (simp at this ⊢; omega)))).mono ?_; rintro e w1 ⟨rfl, rfl⟩))
          go_roundw
          case rel => exact ⟨k + 1, p2, by omega, by go_num, hA.fr (by first | exact Fr.refl (fun _ => False) _ | exact (Fr.refl (fun _ => False) _).alloc _ | exact ((Fr.refl (fun _ => False) _).alloc _).alloc _) (fun h => h) (fun h => h), hB.fr (by first | exact Fr.refl (fun _ => False) _ | exact (Fr.refl (fun _ => False) _).alloc _ | exact ((Fr.refl (fun _ => False) _).alloc _).alloc _) (fun h => h) (fun h => h), hC.fr (by first | exact Fr.refl (fun _ => False) _ | exact (Fr.refl (fun _ => False) _).alloc _ | exact ((Fr.refl (fun _ => False) _).alloc _).alloc _) (fun h => h) (fun h => h), hF.trans (by first | exact Fr.refl (fun _ => False) _ | exact (Fr.refl (fun _ => False) _).alloc _ | exact ((Fr.refl (fun _ => False) _).alloc _).alloc _) (fun _ _ h => h) (fun _ _ h => h)⟩
          case measure => simp [intOf]; omega
    · obtain rfl : k = n1 := by omega
      go_wp2
      go_ret
      exact ⟨rfl, hF⟩

end Go.Proofs.Ytkojdjeiblknhaa
