/-
  Read of package instr: what stands at a text's beginning.
-/
import Derived.Test.YthdpgachdegcgaaInRead
namespace Go.Proofs.Ythdpgachdegcgaa
open Go.RowKit
set_option linter.unusedVariables false
set_option maxRecDepth 8192

theorem next_calls {w : World} {b : Nat} {l : List UInt8} (h : IsR w b l 0) (hl : l.length ≤ 9223372036854775807) :
    Calls Try.prog 101 #[.pointer (some ⟨b, 0, none⟩)] w fun e w' => e = .returned (.tuple #[insV (readN l).1 (readN l).2.1, .int .i64 (readN l).2.2.2]) ∧
      ((readN l).2.2.2 = 0 → IsR w' b (l.drop (readN l).2.2.1) 0) ∧ Fr (fun k => k = b) w w' := by
  cases l with
  | nil => exact (next_nil h).mono fun e w' ⟨he, hf⟩ => ⟨he, fun h => by simp [readN] at h, hf⟩
  | cons x r =>
    rw [readN]
    cases hx : isOpB x.toNat
    · exact (next_noop h hl hx).mono fun e w' ⟨he, hf⟩ => ⟨he, fun h => by simp at h, hf⟩
    · cases hh : hasB x.toNat
      · exact (next_plain h hl hx hh).mono fun e w' ⟨he, hR, hf⟩ => ⟨he, fun _ => hR, hf⟩
      · obtain ⟨n, k, er, hr⟩ : ∃ n k er, rd r 0 0 = (n, k, er) := ⟨_, _, _, rfl⟩
        have hre := rd_err r 0 0
        rw [hr] at hre ⊢
        simp only [Bool.true_eq_false, if_false]
        by_cases he : er = 0
        · subst he
          rw [if_neg (by simp)]
          cases hq : rightB x.toNat (sgn n)
          · exact (next_wrong h hl hx hh hr hq).mono fun e w' ⟨he, hf⟩ => ⟨he, fun h => by simp at h, hf⟩
          · exact (next_num h hl hx hh hr hq).mono fun e w' ⟨he, hR, hf⟩ => ⟨he, fun _ => by simpa [Nat.add_comm 1 k] using hR, hf⟩
        · rw [if_pos he]
          simp only at hre
          exact (next_err h hl hx hh hr (by omega)).mono fun e w' ⟨he2, hf⟩ => ⟨he2, fun h => by simp at h; omega, hf⟩

theorem sub_left (x n : Nat) (h : n ≤ x) (hx : x ≤ 9223372036854775807) : IntKind.i64.wrap ((x : Int) - ((x - n : Nat) : Int)) = (n : Int) := by
  rw [IntWalk.i64_left, w64 _ (by omega)]
  omega

theorem ret_ins3 {v : Value} {n n' e : Int} (h : n = n') : Ending.returned (.tuple #[v, .int .i64 n, .int .i64 e]) = .returned (.tuple #[v, .int .i64 n', .int .i64 e]) := by rw [h]

set_option maxHeartbeats 2000000 in
theorem readI_calls (s : ByteArray) (w : World) (hs : s.size ≤ 9223372036854775807) :
    Calls Try.prog 90 #[.string s] w fun e w' => e = .returned (.tuple #[insV (readN s.data.toList).1 (readN s.data.toList).2.1, .int .i64 (readN s.data.toList).2.2.1, .int .i64 (readN s.data.toList).2.2.2]) ∧ Fr (fun _ => False) w w' := by
  have hb := readN_back s.data.toList
  have hlen : s.data.toList.length = s.size := by simp
  have hll : s.data.toList.length ≤ 9223372036854775807 := by omega
  have HNX := fun (w : World) (b : Nat) (h : IsR w b s.data.toList 0) => next_calls h hll
  rw [hlen] at hb
  obtain ⟨op, a, n, er, hN⟩ : ∃ op a n er, readN s.data.toList = (op, a, n, er) := ⟨_, _, _, _, rfl⟩
  rw [hN] at hb
  simp only [hN] at HNX ⊢
  have hdl : (s.data.toList.drop n).length = s.size - n := by rw [List.length_drop, hlen]
  have HDL := hide hdl
  have HX := hide HNX
  have hs1 : (w.alloc (.cells #[.int .i64 0, .int .i64 0] 37)).heap.size = w.heap.size + 1 := by simp
  have hr1 : InsAt (w.alloc (.cells #[.int .i64 0, .int .i64 0] 37)) w.heap.size 0 0 := blk_new w _
  have hf1 : Fr (fun _ => False) w (w.alloc (.cells #[.int .i64 0, .int .i64 0] 37)) := (Fr.refl _ w).alloc _
  have HS1 := hide hs1
  clear HNX hN hdl hlen hll hs1
  rcases hb with ⟨he, rfl, rfl, rfl⟩ | ⟨he, hq, hle, _⟩
  · have he' : (er != 0) = true := bne_iff_ne.2 he
    go_enter Try.func90, Try.ntmps90
    go_wp2_with (first
      | (go_at_call 12; refine (read_calls s _).mono ?_; rw [unhide HS1]; rintro e w2 ⟨rfl, hR2, hF2⟩; have hr2 := hr1.fr hF2 (fun h => h); have hf2 := hf1.trans hF2 (T := fun _ => False) (fun _ _ h => h) (fun _ _ h => h))
      | (go_at_call 101; refine ((unhide HX) _ _ hR2).mono ?_; rintro e w3 ⟨rfl, hR3, hF3⟩; have hr3 := hr2.fr hF3 (by omega); have hf3 := hf2.trans hF3 (T := fun _ => False) (fun _ _ h => h) (fun _ _ h => by omega); have hlt3 := hr3.lt; have c0 := hr3.c0; have c1 := hr3.c1; have f0 := hr3.f0; have f1 := hr3.f1))
    exact bodyPost_ret (results_ins3 rfl _ _ _ 0 0 rfl ((hr3.set 0 0).fr ((Fr.refl (fun _ => False) _).alloc _) (fun h => h))) rfl ⟨rfl, ((hf3.setAt w.heap.size 0 _ (.inl (Nat.le_refl _))).setAt w.heap.size 1 _ (.inl (Nat.le_refl _))).alloc _⟩
  · simp only at he hle
    subst he
    go_enter Try.func90, Try.ntmps90
    go_wp2_with (first
      | (go_at_call 12; refine (read_calls s _).mono ?_; rw [unhide HS1]; rintro e w2 ⟨rfl, hR2, hF2⟩; have hr2 := hr1.fr hF2 (fun h => h); have hf2 := hf1.trans hF2 (T := fun _ => False) (fun _ _ h => h) (fun _ _ h => h))
      | (go_at_call 101; refine ((unhide HX) _ _ hR2).mono ?_; rintro e w3 ⟨rfl, hR3', hF3⟩; have hR3 := hR3' (by first | trivial | rfl); have hr3 := hr2.fr hF3 (by omega); have hf3 := hf2.trans hF3 (T := fun _ => False) (fun _ _ h => h) (fun _ _ h => by omega); have hlt3 := hr3.lt; have c0 := hr3.c0; have c1 := hr3.c1; have f0 := hr3.f0; have f1 := hr3.f1; clear hR3'))
    clear HX HS1 hr1 hf1 hR2 hF2 hr2 hf2 hF3 hq
    have hi4 : InsAt (w3.alloc (.cells #[.int .i64 op, .int .i64 a] 37)) w3.heap.size op a := blk_new w3 _
    have hR4 : IsR (w3.alloc (.cells #[.int .i64 op, .int .i64 a] 37)) (w.heap.size + 1) (s.data.toList.drop n) 0 := hR3.fr ((Fr.refl (fun _ => False) _).alloc _) (fun h => h)
    go_region_with (go_at_call 91; refine (left_calls (l := s.data.toList.drop n) (E := 0) (by exact hR4)).mono ?_; rw [unhide HDL]; rintro e w5 ⟨rfl, rfl⟩)
    all_goals go_wp2
    all_goals
      refine bodyPost_ret (results_ins3 rfl _ _ w.heap.size op a rfl ?_) rfl ⟨ret_ins3 ?_, ?_⟩
      · exact ((hr3.set op a).fr ((Fr.refl (fun _ => False) _).alloc _) (fun h => h)).fr ((Fr.refl (fun _ => False) _).drew) (fun h => h)
      · exact sub_left s.size n hle hs
      · exact (((hf3.setAt w.heap.size 0 _ (.inl (Nat.le_refl _))).setAt w.heap.size 1 _ (.inl (Nat.le_refl _))).alloc _).drew

end Go.Proofs.Ythdpgachdegcgaa
