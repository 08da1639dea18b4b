/-
  InstrBack walked.
-/
import Derived.Test.YtemkmaegjjpkjaaDoorInLives
namespace Go.Proofs.YtemkmaegjjpkjaaDoor
open Go.RowKit
set_option linter.unusedVariables false

/-- what Bytes answers -/
def bytS (op a : Int) : ByteArray := if rightB op a then ba (insB op a) else ⟨#[]⟩
def bytE (op a : Int) : Int := if rightB op a then 0 else 4

theorem bytesG (op a : Int) (w : World) :
    Calls Tryd.prog 18 #[insV op a] w fun e w' => e = .returned (.tuple #[.string (bytS op a), .int .i64 (bytE op a)]) ∧ Fr (fun _ => False) w w' := by
  unfold bytS bytE
  cases hq : rightB op a
  · exact bytesI_no op a w hq
  · exact bytesI_ok op a w hq

theorem readG (s : ByteArray) (w : World) (hs : s.size ≤ 9223372036854775807) {op a : Int} {n : Nat} {er : Int} (hN : readN s.data.toList = (op, a, n, er)) :
    Calls Tryd.prog 20 #[.string s] w fun e w' => e = .returned (.tuple #[insV op a, .int .i64 n, .int .i64 er]) ∧ Fr (fun _ => False) w w' := by
  have := readI_calls s w hs
  rw [hN] at this
  exact this

theorem ba_take (t : ByteArray) (k : Nat) : (t.extract 0 k).data.toList = t.data.toList.take k := by
  have := ba_extract t.data.toList 0 k
  rw [ba_of] at this
  rw [this, ba_list]
  simp

set_option maxHeartbeats 4000000 in
theorem iback_1 (op a : Int) (behind text : ByteArray) (w : World) (h : Tab w) (hb : behind.size ≤ 140737488351232) (ht : text.size ≤ 140737488351232) {op' a' : Int} {n' : Nat} {er' : Int} (hN : readN text.data.toList = (op', a', n', er')) (hq : rightB op a = false) (he : er' ≠ 0) :
    Calls Tryd.prog 6 #[insV op a, .string behind, .string text] w fun e w' => e = .returned (.bool true) ∧ Fr (fun _ => False) w w' := by
  have hf1 : Fr (fun _ => False) w (w.alloc (.cells #[.int .i64 op, .int .i64 a] 23)) := (Fr.refl _ w).alloc _
  have hr1 : InsAt (w.alloc (.cells #[.int .i64 op, .int .i64 a] 23)) w.heap.size op a := blk_new w _
  have hT1 := h.up hf1
  have hrd := fun w => readG text w (by omega) hN
  have hbk := readN_back text.data.toList
  rw [hN] at hbk
  have hlen : text.data.toList.length = text.size := by simp
  rw [hlen] at hbk
  clear hlen hN
  have HQ := hide hq
  have H1s : Hid (bytS op a = ⟨#[]⟩) := by show _ = _; simp [bytS, hq]
  have H1e : Hid (bytE op a = 4) := by show _ = _; simp [bytE, hq]
  clear hq
  obtain ⟨rfl, rfl, rfl⟩ : op' = 0 ∧ a' = 0 ∧ n' = 0 := by
    rcases hbk with ⟨_, h1, h2, h3⟩ | ⟨h1, _⟩
    · exact ⟨h1, h2, h3⟩
    · exact absurd h1 he
  have he' : (er' != 0) = true := bne_iff_ne.2 he
  have HR := hide hrd
  clear hrd he hbk
  go_enter Tryd.func6, Tryd.ntmps6
  go_wp2_with (first
    | (go_at_call 9; refine (lives_calls _ hT1).mono ?_; rintro e w2 ⟨rfl, hF2⟩; have hf2 := hf1.up hF2; have hr2 := hr1.fr hF2 (fun h => h); have c0 := hr2.c0; have c1 := hr2.c1)
    | (go_at_call 18; refine (bytesG _ _ _).mono ?_; rw [unhide H1s, unhide H1e]; rintro e w3 ⟨rfl, hF3⟩; have hf3 := hf2.up hF3; have hr3 := hr2.fr hF3 (fun h => h); have d0 := hr3.c0; have d1 := hr3.c1)
    | (go_at_call 12; refine (right_calls _ _ _).mono ?_; rw [unhide HQ]; rintro e w4 ⟨rfl, hF4⟩; have hf4 := hf3.up hF4; have hr4 := hr3.fr hF4 (fun h => h))
    | (go_at_call 20; refine ((unhide HR) _).mono ?_; rintro e w7 ⟨rfl, hF7⟩; have hf7 := hf4.up hF7; have hf7a := hf7.alloc (.cells #[.int .i64 0, .int .i64 0] 23)))
  go_ret
  exact ⟨rfl, hf7a⟩

set_option maxHeartbeats 4000000 in
theorem iback_2 (op a : Int) (behind text : ByteArray) (w : World) (h : Tab w) (hb : behind.size ≤ 140737488351232) (ht : text.size ≤ 140737488351232) {op' a' : Int} {n' : Nat} {er' : Int} (hN : readN text.data.toList = (op', a', n', er')) (hq : rightB op a = false) (he : er' = 0) :
    Calls Tryd.prog 6 #[insV op a, .string behind, .string text] w fun e w' => e = .returned (.bool true) ∧ Fr (fun _ => False) w w' := by
  have hf1 : Fr (fun _ => False) w (w.alloc (.cells #[.int .i64 op, .int .i64 a] 23)) := (Fr.refl _ w).alloc _
  have hr1 : InsAt (w.alloc (.cells #[.int .i64 op, .int .i64 a] 23)) w.heap.size op a := blk_new w _
  have hT1 := h.up hf1
  have hrd := fun w => readG text w (by omega) hN
  have hbk := readN_back text.data.toList
  rw [hN] at hbk
  have hlen : text.data.toList.length = text.size := by simp
  rw [hlen] at hbk
  clear hlen hN
  have HQ := hide hq
  have H1s : Hid (bytS op a = ⟨#[]⟩) := by show _ = _; simp [bytS, hq]
  have H1e : Hid (bytE op a = 4) := by show _ = _; simp [bytE, hq]
  clear hq
  subst he
  obtain ⟨hq', hle, htk⟩ : rightB op' a' = true ∧ n' ≤ text.size ∧ insB op' a' = text.data.toList.take n' := by
    rcases hbk with ⟨h1, _⟩ | ⟨_, h1, h2, h3⟩
    · exact absurd rfl h1
    · exact ⟨h1, h2, h3⟩
  have H2s : Hid (bytS op' a' = ba (insB op' a')) := by show _ = _; simp [bytS, hq']
  have H2e : Hid (bytE op' a' = 0) := by show _ = _; simp [bytE, hq']
  have hxx : ((ba (insB op' a')).toList == (text.extract 0 n').toList) = true := by
    rw [ba_toList, ByteArray.toList_eq, ba_take, htk]
    simp
  have HR := hide hrd
  have hle' : (n' : Int) ≤ (text.size : Int) := by omega
  clear hrd hbk hq' htk
  generalize ba (insB op' a') = t' at *
  go_enter Tryd.func6, Tryd.ntmps6
  go_wp2_with (first
    | (go_at_call 9; refine (lives_calls _ hT1).mono ?_; rintro e w2 ⟨rfl, hF2⟩; have hf2 := hf1.up hF2; have hr2 := hr1.fr hF2 (fun h => h); have c0 := hr2.c0; have c1 := hr2.c1)
    | (go_at_call 18; refine (bytesG _ _ _).mono ?_; rw [unhide H1s, unhide H1e]; rintro e w3 ⟨rfl, hF3⟩; have hf3 := hf2.up hF3; have hr3 := hr2.fr hF3 (fun h => h); have d0 := hr3.c0; have d1 := hr3.c1)
    | (go_at_call 12; refine (right_calls _ _ _).mono ?_; rw [unhide HQ]; rintro e w4 ⟨rfl, hF4⟩; have hf4 := hf3.up hF4; have hr4 := hr3.fr hF4 (fun h => h))
    | (go_at_call 20; refine ((unhide HR) _).mono ?_; rintro e w7 ⟨rfl, hF7⟩; have hf7 := hf4.up hF7; have hf7a := hf7.alloc (.cells #[.int .i64 op', .int .i64 a'] 23))
    | (go_at_call 18; refine (bytesG _ _ _).mono ?_; rw [unhide H2s, unhide H2e]; rintro e w8 ⟨rfl, hF8⟩; have hf8 := hf7a.up hF8))
  go_ret
  exact ⟨rfl, hf8⟩

set_option maxHeartbeats 4000000 in
theorem iback_3 (op a : Int) (behind text : ByteArray) (w : World) (h : Tab w) (hb : behind.size ≤ 140737488351232) (ht : text.size ≤ 140737488351232) {op' a' : Int} {n' : Nat} {er' : Int} (hN : readN text.data.toList = (op', a', n', er')) (hq : rightB op a = true) (he : er' ≠ 0) :
    Calls Tryd.prog 6 #[insV op a, .string behind, .string text] w fun e w' => e = .returned (.bool true) ∧ Fr (fun _ => False) w w' := by
  have hf1 : Fr (fun _ => False) w (w.alloc (.cells #[.int .i64 op, .int .i64 a] 23)) := (Fr.refl _ w).alloc _
  have hr1 : InsAt (w.alloc (.cells #[.int .i64 op, .int .i64 a] 23)) w.heap.size op a := blk_new w _
  have hT1 := h.up hf1
  have hrd := fun w => readG text w (by omega) hN
  have hbk := readN_back text.data.toList
  rw [hN] at hbk
  have hlen : text.data.toList.length = text.size := by simp
  rw [hlen] at hbk
  clear hlen hN
  have HQ := hide hq
  have H1s : Hid (bytS op a = ba (insB op a)) := by show _ = _; simp [bytS, hq]
  have H1e : Hid (bytE op a = 0) := by show _ = _; simp [bytE, hq]
  have hl11 := insB_length_le op a (.inr (right_fits hq))
  have hsz := ba_size (insB op a)
  have hpos : 1 ≤ (ba (insB op a)).size := by rw [hsz]; simp [insB]
  have h11 : (ba (insB op a)).size ≤ 11 := by omega
  have hda : ((ba (insB op a)) ++ behind).data.toList = insB op a ++ behind.data.toList := by rw [ByteArray.data_append, Array.toList_append, ba_list]
  have Na : Hid (readN ((ba (insB op a)) ++ behind).data.toList = (op, a, (ba (insB op a)).size, 0)) := by
    show _ = _
    rw [hda, readN_insB hq, hsz]
  have Nb : Hid (readN ((ba (insB op a)).extract 0 ((ba (insB op a)).size - 1)).data.toList = (0, 0, 0, 2)) := by
    show _ = _
    rw [ba_take, ba_list, hsz]
    exact readN_short hq
  have HSa : Hid (((ba (insB op a)) ++ behind).size ≤ 9223372036854775807) := by
    show _ ≤ _
    rw [ByteArray.size_append]
    omega
  have HSb : Hid (((ba (insB op a)).extract 0 ((ba (insB op a)).size - 1)).size ≤ 9223372036854775807) := by
    show _ ≤ _
    rw [ByteArray.size_extract]
    omega
  clear hq hl11 hsz hda
  generalize ba (insB op a) = t at *
  obtain ⟨rfl, rfl, rfl⟩ : op' = 0 ∧ a' = 0 ∧ n' = 0 := by
    rcases hbk with ⟨_, h1, h2, h3⟩ | ⟨h1, _⟩
    · exact ⟨h1, h2, h3⟩
    · exact absurd h1 he
  have he' : (er' != 0) = true := bne_iff_ne.2 he
  have HR := hide hrd
  clear hrd he hbk
  go_enter Tryd.func6, Tryd.ntmps6
  go_wp2_with (first
    | (go_at_call 9; refine (lives_calls _ hT1).mono ?_; rintro e w2 ⟨rfl, hF2⟩; have hf2 := hf1.up hF2; have hr2 := hr1.fr hF2 (fun h => h); have c0 := hr2.c0; have c1 := hr2.c1)
    | (go_at_call 18; refine (bytesG _ _ _).mono ?_; rw [unhide H1s, unhide H1e]; rintro e w3 ⟨rfl, hF3⟩; have hf3 := hf2.up hF3; have hr3 := hr2.fr hF3 (fun h => h); have d0 := hr3.c0; have d1 := hr3.c1)
    | (go_at_call 12; refine (right_calls _ _ _).mono ?_; rw [unhide HQ]; rintro e w4 ⟨rfl, hF4⟩; have hf4 := hf3.up hF4; have hr4 := hr3.fr hF4 (fun h => h))
    | (go_at_call 20; refine (readI_calls _ _ (by with_reducible exact unhide HSa)).mono ?_; rw [unhide Na]; rintro e w5 ⟨rfl, hF5⟩; have hf5 := (hf4.up hF5).alloc (.cells #[.int .i64 op, .int .i64 a] 23); have hr5 := (hr4.fr hF5 (fun h => h)).fr ((Fr.refl (fun _ => False) _).alloc (.cells #[.int .i64 op, .int .i64 a] 23)) (fun h => h); have hj5 : InsAt (w5.alloc (.cells #[.int .i64 op, .int .i64 a] 23)) w5.heap.size op a := blk_new w5 _)
    | (go_at_call 20; refine (readI_calls _ _ (by with_reducible exact unhide HSb)).mono ?_; rw [unhide Nb]; rintro e w6 ⟨rfl, hF6⟩; have hf6 := (hf5.up hF6).alloc (.cells #[.int .i64 0, .int .i64 0] 23); have hr6 := hr5.fr hF6 (fun h => h); have hj6 := hj5.fr hF6 (fun h => h); have e0 := hr6.c0; have e1 := hr6.c1; have g0 := hj6.c0; have g1 := hj6.c1; have lr6 := hr6.lt; have lj6 := hj6.lt)
    | (go_at_call 20; refine ((unhide HR) _).mono ?_; rintro e w7 ⟨rfl, hF7⟩; have hf7 := hf6.up hF7; have hf7a := hf7.alloc (.cells #[.int .i64 0, .int .i64 0] 23)))
  go_ret
  exact ⟨rfl, hf7a⟩

set_option maxHeartbeats 4000000 in
theorem iback_4 (op a : Int) (behind text : ByteArray) (w : World) (h : Tab w) (hb : behind.size ≤ 140737488351232) (ht : text.size ≤ 140737488351232) {op' a' : Int} {n' : Nat} {er' : Int} (hN : readN text.data.toList = (op', a', n', er')) (hq : rightB op a = true) (he : er' = 0) :
    Calls Tryd.prog 6 #[insV op a, .string behind, .string text] w fun e w' => e = .returned (.bool true) ∧ Fr (fun _ => False) w w' := by
  have hf1 : Fr (fun _ => False) w (w.alloc (.cells #[.int .i64 op, .int .i64 a] 23)) := (Fr.refl _ w).alloc _
  have hr1 : InsAt (w.alloc (.cells #[.int .i64 op, .int .i64 a] 23)) w.heap.size op a := blk_new w _
  have hT1 := h.up hf1
  have hrd := fun w => readG text w (by omega) hN
  have hbk := readN_back text.data.toList
  rw [hN] at hbk
  have hlen : text.data.toList.length = text.size := by simp
  rw [hlen] at hbk
  clear hlen hN
  have HQ := hide hq
  have H1s : Hid (bytS op a = ba (insB op a)) := by show _ = _; simp [bytS, hq]
  have H1e : Hid (bytE op a = 0) := by show _ = _; simp [bytE, hq]
  have hl11 := insB_length_le op a (.inr (right_fits hq))
  have hsz := ba_size (insB op a)
  have hpos : 1 ≤ (ba (insB op a)).size := by rw [hsz]; simp [insB]
  have h11 : (ba (insB op a)).size ≤ 11 := by omega
  have hda : ((ba (insB op a)) ++ behind).data.toList = insB op a ++ behind.data.toList := by rw [ByteArray.data_append, Array.toList_append, ba_list]
  have Na : Hid (readN ((ba (insB op a)) ++ behind).data.toList = (op, a, (ba (insB op a)).size, 0)) := by
    show _ = _
    rw [hda, readN_insB hq, hsz]
  have Nb : Hid (readN ((ba (insB op a)).extract 0 ((ba (insB op a)).size - 1)).data.toList = (0, 0, 0, 2)) := by
    show _ = _
    rw [ba_take, ba_list, hsz]
    exact readN_short hq
  have HSa : Hid (((ba (insB op a)) ++ behind).size ≤ 9223372036854775807) := by
    show _ ≤ _
    rw [ByteArray.size_append]
    omega
  have HSb : Hid (((ba (insB op a)).extract 0 ((ba (insB op a)).size - 1)).size ≤ 9223372036854775807) := by
    show _ ≤ _
    rw [ByteArray.size_extract]
    omega
  clear hq hl11 hsz hda
  generalize ba (insB op a) = t at *
  subst he
  obtain ⟨hq', hle, htk⟩ : rightB op' a' = true ∧ n' ≤ text.size ∧ insB op' a' = text.data.toList.take n' := by
    rcases hbk with ⟨h1, _⟩ | ⟨_, h1, h2, h3⟩
    · exact absurd rfl h1
    · exact ⟨h1, h2, h3⟩
  have H2s : Hid (bytS op' a' = ba (insB op' a')) := by show _ = _; simp [bytS, hq']
  have H2e : Hid (bytE op' a' = 0) := by show _ = _; simp [bytE, hq']
  have hxx : ((ba (insB op' a')).toList == (text.extract 0 n').toList) = true := by
    rw [ba_toList, ByteArray.toList_eq, ba_take, htk]
    simp
  have HR := hide hrd
  have hle' : (n' : Int) ≤ (text.size : Int) := by omega
  clear hrd hbk hq' htk
  generalize ba (insB op' a') = t' at *
  go_enter Tryd.func6, Tryd.ntmps6
  go_wp2_with (first
    | (go_at_call 9; refine (lives_calls _ hT1).mono ?_; rintro e w2 ⟨rfl, hF2⟩; have hf2 := hf1.up hF2; have hr2 := hr1.fr hF2 (fun h => h); have c0 := hr2.c0; have c1 := hr2.c1)
    | (go_at_call 18; refine (bytesG _ _ _).mono ?_; rw [unhide H1s, unhide H1e]; rintro e w3 ⟨rfl, hF3⟩; have hf3 := hf2.up hF3; have hr3 := hr2.fr hF3 (fun h => h); have d0 := hr3.c0; have d1 := hr3.c1)
    | (go_at_call 12; refine (right_calls _ _ _).mono ?_; rw [unhide HQ]; rintro e w4 ⟨rfl, hF4⟩; have hf4 := hf3.up hF4; have hr4 := hr3.fr hF4 (fun h => h))
    | (go_at_call 20; refine (readI_calls _ _ (by with_reducible exact unhide HSa)).mono ?_; rw [unhide Na]; rintro e w5 ⟨rfl, hF5⟩; have hf5 := (hf4.up hF5).alloc (.cells #[.int .i64 op, .int .i64 a] 23); have hr5 := (hr4.fr hF5 (fun h => h)).fr ((Fr.refl (fun _ => False) _).alloc (.cells #[.int .i64 op, .int .i64 a] 23)) (fun h => h); have hj5 : InsAt (w5.alloc (.cells #[.int .i64 op, .int .i64 a] 23)) w5.heap.size op a := blk_new w5 _)
    | (go_at_call 20; refine (readI_calls _ _ (by with_reducible exact unhide HSb)).mono ?_; rw [unhide Nb]; rintro e w6 ⟨rfl, hF6⟩; have hf6 := (hf5.up hF6).alloc (.cells #[.int .i64 0, .int .i64 0] 23); have hr6 := hr5.fr hF6 (fun h => h); have hj6 := hj5.fr hF6 (fun h => h); have e0 := hr6.c0; have e1 := hr6.c1; have g0 := hj6.c0; have g1 := hj6.c1; have lr6 := hr6.lt; have lj6 := hj6.lt)
    | (go_at_call 20; refine ((unhide HR) _).mono ?_; rintro e w7 ⟨rfl, hF7⟩; have hf7 := hf6.up hF7; have hf7a := hf7.alloc (.cells #[.int .i64 op', .int .i64 a'] 23))
    | (go_at_call 18; refine (bytesG _ _ _).mono ?_; rw [unhide H2s, unhide H2e]; rintro e w8 ⟨rfl, hF8⟩; have hf8 := hf7a.up hF8))
  go_ret
  exact ⟨rfl, hf8⟩

theorem iback_law (op a : Int) (behind text : ByteArray) (w : World) (h : Tab w) (hb : behind.size ≤ 140737488351232) (ht : text.size ≤ 140737488351232) :
    Calls Tryd.prog 6 #[insV op a, .string behind, .string text] w fun e w' => e = .returned (.bool true) ∧ Fr (fun _ => False) w w' := by
  obtain ⟨op', a', n', er', hN⟩ : ∃ op a n er, readN text.data.toList = (op, a, n, er) := ⟨_, _, _, _, rfl⟩
  by_cases he : er' = 0
  · cases hq : rightB op a
    · exact iback_2 op a behind text w h hb ht hN hq he
    · exact iback_4 op a behind text w h hb ht hN hq he
  · cases hq : rightB op a
    · exact iback_1 op a behind text w h hb ht hN hq he
    · exact iback_3 op a behind text w h hb ht hN hq he

end Go.Proofs.YtemkmaegjjpkjaaDoor
