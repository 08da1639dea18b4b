/-
  The reader of the reference: what its calls do, the same as reel's.
-/
import Derived.Test.YthdpgachdegcgaaRdCalls
namespace Go.Proofs.Ythdpgachdegcgaa
open Go.RowKit
set_option linter.unusedVariables false

/-- the reference's reader at block b -/
def IsM (w : World) (b : Nat) (l : List UInt8) (E : Int) : Prop :=
  w.heap[b]? = some (.cells #[.string (ba l), .int .i64 E] 55 (0, 0))

set_option maxHeartbeats 1000000 in
set_option maxRecDepth 100000 in
theorem refNumber (s : ByteArray) (w : World) (hs : s.size ≤ 9223372036854775807) :
    Calls Try.prog 57 #[.string s] w fun e w' => e = .returned (.tuple #[.int .u64 (rd s.data.toList 0 0).1, .int .i64 (rd s.data.toList 0 0).2.1, .int .i64 (rd s.data.toList 0 0).2.2]) ∧ w = w' := by
  go_enter Try.func57, Try.ntmps57
  go_wp2
  go_loop [5, 6] (fun n i => ∃ (k m : Nat), k ≤ s.size ∧ k ≤ 9 ∧ i = .int .i64 k ∧ n = .int .u64 m ∧ m < 2 ^ (7 * k) ∧ Hid (rd s.data.toList 0 0 = rd (s.data.toList.drop k) k m)) (fun _ i => s.size - (intOf i).toNat)
  case atStart => exact ⟨0, 0, by omega, by omega, rfl, rfl, by simp, rfl⟩
  case round =>
    obtain ⟨k, m, hk, hk9, rfl, rfl, hm, HR⟩ := hrel
    by_cases hlt : k < s.size
    · have hp := rd_at s k m hlt
      have HP : Hid (rd s.data.toList 0 0 = if k = 9 ∧ s[k].toNat > 1 then (0, 0, 4)
          else if s[k].toNat ≥ 128 then rd (s.data.toList.drop (k + 1)) (k + 1) (m + s[k].toNat % 128 * 2 ^ (7 * k))
          else if s[k].toNat = 0 ∧ k > 0 then (0, 0, 4)
          else (m + s[k].toNat % 128 * 2 ^ (7 * k), k + 1, 0)) := HR.out.trans hp
      clear hp HR
      have HF : Hid ((k = 9 → s[k].toNat ≤ 1) → m + s[k].toNat % 128 * 2 ^ (7 * k) < 18446744073709551616) := fits m s[k].toNat k hm hk9
      have hb256 : (s[k].toNat : Int) ≤ 255 := by have := s[k].toNat_lt; omega
      go_wp2
      case roundEnd =>
           go_round
           case rel =>
             have hc : 128 ≤ s[k].toNat := by omega
             have hq := HP.out
             have hf := HF.out (fun _ => by omega)
             rw [if_neg (by omega), if_pos hc] at hq
             exact ⟨k + 1, _, by omega, by omega, by go_num, by rw [wrap_sh m s[k].toNat k hf], next_fits m s[k].toNat k hm, hq⟩
           case measure => simp [intOf]; omega
      all_goals first
        | (go_ret3
           have hc : k = 9 ∧ s[k].toNat > 1 := ⟨by omega, by omega⟩
           have hq := HP.out
           rw [if_pos hc] at hq
           exact ⟨ret_rd (by rw [hq]; rfl) (by rw [hq]; rfl) (by rw [hq]; rfl), rfl⟩)
        | (go_ret3
           have hc : s[k].toNat = 0 ∧ k > 0 := ⟨by omega, by omega⟩
           have hq := HP.out
           rw [if_neg (by omega), if_neg (by omega), if_pos hc] at hq
           exact ⟨ret_rd (by rw [hq]; rfl) (by rw [hq]; rfl) (by rw [hq]; rfl), rfl⟩)
        | (go_ret3
           have hc : s[k].toNat < 128 := by omega
           have hq := HP.out
           have hf := HF.out (fun _ => by omega)
           rw [if_neg (by omega), if_neg (by omega), if_neg (by omega)] at hq
           refine ⟨ret_rd ?_ (by rw [hq]; first | rfl | (show _ = _; omega)) (by rw [hq]; rfl), rfl⟩
           rw [hq]
           first
             | exact wrap_sh m s[k].toNat k hf
             | (have h0 : s[k].toNat = 0 := by omega
                rw [h0] at hf ⊢
                simp only [Nat.zero_mod, Nat.zero_mul, Nat.add_zero] at hf ⊢
                exact wrap_sh0 m hf))
        | (go_ret3
           have h9 : k = 9 := by omega
           subst h9
           have hq := HP.out
           have hf := HF.out (fun _ => by omega)
           rw [if_neg (by omega), if_neg (by omega), if_neg (by omega)] at hq
           exact ⟨ret_rd (by rw [hq]; exact wrap_sh9 m s[9].toNat hf) (by rw [hq]; rfl) (by rw [hq]; rfl), rfl⟩)
    · have HE : Hid (rd s.data.toList 0 0 = (0, 0, 2)) := by
        show _ = _
        rw [HR.out, List.drop_of_length_le (by simp; omega), rd]
      clear HR
      go_wp2
      go_ret3
      exact ⟨ret_rd (by rw [HE.out]; rfl) (by rw [HE.out]; rfl) (by rw [HE.out]; rfl), rfl⟩

set_option maxHeartbeats 400000 in
theorem unfold_calls (x : Int) (w : World) (h0 : 0 ≤ x) (h1 : x ≤ 18446744073709551615) :
    Calls Try.prog 61 #[.int .u64 x] w fun e w' => e = .returned (.int .i64 (sgn x)) ∧ w = w' := by
  by_cases h : x % 2 = 1
  · have h' : (x % 2 == 1) = true := beq_iff_eq.2 h
    have e : -(x / 2) - 1 = sgn x := by unfold sgn; rw [if_neg (by omega)]
    have HE := hide e
    clear e h
    go_enter Try.func61, Try.ntmps61
    go_wp2
    go_ret
    exact ⟨ret_int (unhide HE), rfl⟩
  · have h' : (x % 2 == 1) = false := beq_eq_false_iff_ne.2 h
    have e : x / 2 = sgn x := by unfold sgn; rw [if_pos (by omega)]
    have HE := hide e
    clear e h
    go_enter Try.func61, Try.ntmps61
    go_wp2
    go_ret
    exact ⟨ret_int (unhide HE), rfl⟩

theorem IsM.set {w : World} {b : Nat} {l l' : List UInt8} {E E' : Int} (h : IsM w b l E) :
    IsM ((w.setCell ⟨b, 1, none⟩ (.int .i64 E')).setCell ⟨b, 0, none⟩ (.string (ba l'))) b l' E' ∧ Fr (fun k => k = b) w ((w.setCell ⟨b, 1, none⟩ (.int .i64 E')).setCell ⟨b, 0, none⟩ (.string (ba l'))) := by
  have h1 := blk_setCell (i := 1) (u := .int .i64 E') h
  have h2 := blk_setCell (i := 0) (u := .string (ba l')) h1
  exact ⟨h2, (Fr.set1 w b 1 _).setAt b 0 _ (.inr rfl)⟩

theorem IsM.setE {w : World} {b : Nat} {l : List UInt8} {E E' : Int} (h : IsM w b l E) :
    IsM (w.setCell ⟨b, 1, none⟩ (.int .i64 E')) b l E' ∧ Fr (fun k => k = b) w (w.setCell ⟨b, 1, none⟩ (.int .i64 E')) :=
  ⟨blk_setCell (i := 1) (u := .int .i64 E') h, Fr.set1 w b 1 _⟩

theorem IsM.setL {w : World} {b : Nat} {l l' : List UInt8} {E : Int} (h : IsM w b l E) :
    IsM (w.setCell ⟨b, 0, none⟩ (.string (ba l'))) b l' E ∧ Fr (fun k => k = b) w (w.setCell ⟨b, 0, none⟩ (.string (ba l'))) :=
  ⟨blk_setCell (i := 0) (u := .string (ba l')) h, Fr.set1 w b 0 _⟩

set_option maxHeartbeats 1000000 in
theorem mnum_calls {w : World} {b : Nat} {l : List UInt8} {E : Int} (h : IsM w b l E) (hl : l.length ≤ 9223372036854775807) :
    Calls Try.prog 37 #[.pointer (some ⟨b, 0, none⟩)] w fun e w' => e = .returned (.int .u64 (rnum l E).1) ∧ IsM w' b (rnum l E).2.1 (rnum l E).2.2 ∧ Fr (fun k => k = b) w w' := by
  by_cases hE : E = 0
  · subst hE
    have c0 := cell_at h 0
    have c1 := cell_at h 1
    have f0 := free_at h 0
    have f1 := free_at h 1
    simp at c0 c1
    have hsz := ba_size l
    have hr := rd_size l 0 0
    have hD := ba_drop l (rd l 0 0).2.1
    have e : rnum l 0 = ((rd l 0 0).1, l.drop (rd l 0 0).2.1, ((rd l 0 0).2.2 : Int)) := by simp [rnum]
    rw [e]
    clear e
    have hfn := refNumber (ba l)
    rw [ba_list] at hfn
    generalize (rd l 0 0).1 = n at *
    generalize (rd l 0 0).2.1 = k at *
    generalize (rd l 0 0).2.2 = er at *
    have HD := hide hD
    have hk : k ≤ (ba l).size := by omega
    have HS := hide hsz
    have hl2 : (ba l).size ≤ 9223372036854775807 := by omega
    clear hD hsz
    have HFN := hide hfn
    clear hfn
    go_enter Try.func37, Try.ntmps37
    go_wp2_with (first | (go_at_call 57; refine ((unhide HFN) _ hl2).mono ?_; rintro e w' ⟨rfl, rfl⟩))
    go_ret
    refine ⟨rfl, ?_⟩
    rw [unhide HD]
    exact h.set
  · have e : rnum l E = (0, l, E) := by simp [rnum, hE]
    rw [e]
    have hE' : (E != 0) = true := bne_iff_ne.2 hE
    have hE2 : (E == 0) = false := beq_eq_false_iff_ne.2 hE
    have c1 := cell_at h 1
    simp at c1
    clear e hE
    go_enter Try.func37, Try.ntmps37
    go_wp2
    go_ret
    exact ⟨rfl, h, Fr.refl _ _⟩

set_option maxHeartbeats 1000000 in
theorem mint_calls {w : World} {b : Nat} {l : List UInt8} {E : Int} (h : IsM w b l E) (hl : l.length ≤ 9223372036854775807) :
    Calls Try.prog 39 #[.pointer (some ⟨b, 0, none⟩)] w fun e w' => e = .returned (.int .i64 (sgn (rnum l E).1)) ∧ IsM w' b (rnum l E).2.1 (rnum l E).2.2 ∧ Fr (fun k => k = b) w w' := by
  have hn := rnum_lt l E
  have hN := mnum_calls h hl
  generalize (rnum l E).1 = n at *
  generalize (rnum l E).2.1 = l' at *
  generalize (rnum l E).2.2 = E' at *
  have HN := hide hN
  clear hN
  have hn' : (n : Int) ≤ 18446744073709551615 := by omega
  clear hn
  go_enter Try.func39, Try.ntmps39
  go_wp2_with (first | (go_at_call 37; refine (unhide HN).mono ?_; rintro e w' ⟨rfl, hR, hF⟩) | (go_at_call 61; refine (unfold_calls _ _ (by omega) hn').mono ?_; rintro e w2 ⟨rfl, rfl⟩))
  go_ret
  exact ⟨rfl, hR, hF⟩

set_option maxHeartbeats 1000000 in
theorem mbyte_calls {w : World} {b : Nat} {l : List UInt8} {E : Int} (h : IsM w b l E) (hl : l.length ≤ 9223372036854775807) :
    Calls Try.prog 16 #[.pointer (some ⟨b, 0, none⟩)] w fun e w' => e = .returned (.int .i64 (rbyte l E).1) ∧ IsM w' b (rbyte l E).2.1 (rbyte l E).2.2 ∧ Fr (fun k => k = b) w w' := by
  by_cases hE : E = 0
  · subst hE
    have c0 := cell_at h 0
    have c1 := cell_at h 1
    have f0 := free_at h 0
    have f1 := free_at h 1
    simp at c0 c1
    cases l with
    | nil =>
      have e : rbyte [] 0 = (0, [], 2) := rfl
      rw [e]
      have hz : (ba []).toList.isEmpty = true := by rw [ba_toList]; rfl
      clear e
      go_enter Try.func16, Try.ntmps16
      go_wp2
      go_ret
      exact ⟨rfl, h.setE⟩
    | cons x r =>
      have e : rbyte (x :: r) 0 = (x.toNat, r, 0) := rfl
      rw [e]
      have hz : (ba (x :: r)).toList.isEmpty = false := by rw [ba_toList]; rfl
      have hsz := ba_size (x :: r)
      have hlt : 0 < (ba (x :: r)).size := by rw [hsz]; simp
      have hlt1 : (1 : Int) ≤ ((ba (x :: r)).size : Int) := by omega
      have hg : (ba (x :: r))[0] = x := ba_get _ 0 hlt
      have hD := ba_drop (x :: r) 1
      simp only [List.drop_succ_cons, List.drop_zero] at hD
      have hl2 : (ba (x :: r)).size ≤ 9223372036854775807 := by omega
      have HD := hide hD
      clear e hsz hD
      generalize hs : ba (x :: r) = s at *
      have HS := hide hs
      clear hs
      go_enter Try.func16, Try.ntmps16
      go_wp2
      go_ret
      have hx := x.toNat_lt
      refine ⟨ret_int (w64 _ (by omega)), ?_⟩
      rw [unhide HD]
      exact h.setL
  · have e : rbyte l E = (0, l, E) := by simp [rbyte, hE]
    rw [e]
    have hE' : (E != 0) = true := bne_iff_ne.2 hE
    have hE2 : (E == 0) = false := beq_eq_false_iff_ne.2 hE
    have c1 := cell_at h 1
    simp at c1
    clear e hE
    go_enter Try.func16, Try.ntmps16
    go_wp2
    go_ret
    exact ⟨rfl, h, Fr.refl _ _⟩


set_option maxHeartbeats 400000 in
theorem mend_calls {w : World} {b : Nat} {l : List UInt8} {E : Int} (h : IsM w b l E) :
    Calls Try.prog 21 #[.pointer (some ⟨b, 0, none⟩)] w fun e w' => e = .returned (.int .i64 (rend l E)) ∧ w = w' := by
  have c0 := cell_at h 0
  have c1 := cell_at h 1
  simp at c0 c1
  have hz := ba_size l
  by_cases hE : E = 0
  · subst hE
    by_cases hl : l = []
    · have e : (0 : Int) = rend l 0 := by simp [rend, hl]
      have HE := hide e
      have hl' : ¬ (0 : Int) < ((ba l).size : Int) := by rw [hz, hl]; simp
      clear e hl hz
      go_enter Try.func21, Try.ntmps21
      go_wp2
      go_ret
      exact ⟨ret_int (unhide HE), rfl⟩
    · have e : (5 : Int) = rend l 0 := by simp [rend, hl]
      have HE := hide e
      have hl' : (0 : Int) < ((ba l).size : Int) := by rw [hz]; have := List.length_pos_iff.2 hl; omega
      clear e hl hz
      go_enter Try.func21, Try.ntmps21
      go_wp2
      go_ret
      exact ⟨ret_int (unhide HE), rfl⟩
  · have e : E = rend l E := by simp [rend, hE]
    have HE := hide e
    have hE' : (E != 0) = true := bne_iff_ne.2 hE
    clear e hE hz
    go_enter Try.func21, Try.ntmps21
    go_wp2
    go_ret
    exact ⟨ret_int (unhide HE), rfl⟩

end Go.Proofs.Ythdpgachdegcgaa
