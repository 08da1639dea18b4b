/-
  KindsBack: for every two lists and every text, of at most 1048576 values and bytes, the law returns true, and nothing that was there is changed.
-/
import Derived.Test.YtbckmmodobennaaDoorKnList
import Derived.Test.YtbckmmodobennaaDoorKnSame
namespace Go.Proofs.YtbckmmodobennaaDoor
open Go.RowKit
set_option linter.unusedVariables false

theorem same_list (X : Nat → Int) (n : Nat) (Y : Nat → Int) (m : Nat) : sameX X n Y m = decide (listX X n = listX Y m) := by
  unfold sameX
  rw [Bool.eq_iff_iff, decide_eq_true_eq, decide_eq_true_eq]
  constructor
  · rintro ⟨rfl, h⟩
    exact List.map_congr_left (fun i hi => h i (List.mem_range.1 hi))
  · intro h
    have hl : n = m := by have := congrArg List.length h; simpa [listX] using this
    subst hl
    refine ⟨rfl, fun i hi => ?_⟩
    have := congrArg (·[i]?) h
    simpa [listX, List.getElem?_range hi] using this

theorem namesS_eq (X : Nat → Int) (n : Nat) (Y : Nat → Int) (m : Nat) (hx : allX X n 8 = true) (hy : allX Y m 8 = true) : ((namesS X n).toList == (namesS Y m).toList) = sameX X n Y m := by
  rw [allX_list] at hx hy
  rw [ByteArray.toList_eq, ByteArray.toList_eq, same_list, Bool.eq_iff_iff, beq_iff_eq, decide_eq_true_eq]
  show namesL (listX X n) = namesL (listX Y m) ↔ _
  exact names_inj hx hy

theorem namesS_size (X : Nat → Int) (n : Nat) (hn : n ≤ 1048576) : (namesS X n).size ≤ 8388608 := by
  show (namesL (listX X n)).length ≤ _
  unfold namesL
  split
  · simp
  · split
    · have := join_len (ps := (listX X n).map nameL) (fun p hp => by obtain ⟨x, _, rfl⟩ := List.mem_map.1 hp; exact nameL_len x)
      rw [List.length_map, listX_length] at this
      omega
    · simp

theorem namesS_back (X : Nat → Int) (n : Nat) (hx : allX X n 8 = true) : listB (namesS X n).data.toList = true ∧ listL (namesS X n).data.toList = listX X n := by
  rw [allX_list] at hx
  exact names_back hx

theorem namesS_no (X : Nat → Int) (n : Nat) (hx : allX X n 8 = false) : namesS X n = ⟨#[]⟩ := by
  rw [allX_list] at hx
  unfold namesS; rw [namesL_no hx]

theorem all_val {a : Option Addr} {n cap : Nat} {X : Nat → Int} {m : Int} {b : Bool} {w : World} (h : allX X n m = b) (hR : Row w a n X) :
    Calls Tryd.prog 14 #[.slice a n cap, .int .i64 m] w fun e w' => e = .returned (.bool b) ∧ w = w' := by
  subst h; exact all_calls a n cap X m w hR
theorem same_val {a : Option Addr} {n c : Nat} {X : Nat → Int} {b : Option Addr} {m d : Nat} {Y : Nat → Int} {w : World} {r : Bool} (h : sameX X n Y m = r) (hX : Row w a n X) (hY : Row w b m Y) :
    Calls Tryd.prog 26 #[.slice a n c, .slice b m d] w fun e w' => e = .returned (.bool r) ∧ ∃ q, w' = w.drewN q := by
  subst h; exact same_calls a n c X b m d Y w hX hY
theorem back_draws (W : World) (q : Nat) : Below W.heap.size W (W.drewN q) := ⟨rfl, rfl, rfl, Nat.le_refl _, fun _ _ => rfl⟩

theorem parseAll_val {s : ByteArray} {m : Int} {w : World} {r : Bool} (hr : listB s.data.toList = r) (hs : s.size ≤ 8388608) (hm : w.cell? ⟨0, 0, none⟩ = some (.int .i64 m)) :
    Calls Tryd.prog 19 #[.string s] w fun e w' => ∃ v n c Y, e = .returned (.tuple #[.slice v n c, .bool r]) ∧ Row w' v n Y ∧ listX Y n = listL s.data.toList ∧ n ≤ 8388609 ∧ Below w.heap.size w w' := by
  subst hr; exact parseAll_calls s m w hs hm

/-- the last two lines of the law -/
theorem list_again {l : List UInt8} {Y : Nat → Int} {n : Nat} (h : listX Y n = listL l) (hb : listB l = true) : (namesS Y n).toList = l := by
  rw [ByteArray.toList_eq]
  show namesL (listX Y n) = l
  rw [h]; exact list_back hb

set_option maxHeartbeats 4000000 in
theorem back_law (a : Option Addr) (n c : Nat) (X : Nat → Int) (b : Option Addr) (k d : Nat) (Z : Nat → Int) (s : ByteArray) (m : Int) (w : World) (hX : Row w a n X) (hZ : Row w b k Z)
    (hn : n ≤ 1048576) (hk : k ≤ 1048576) (hs : s.size ≤ 1048576) (h0 : 0 < w.heap.size) (hm : w.cell? ⟨0, 0, none⟩ = some (.int .i64 m)) :
    Calls Tryd.prog 6 #[.slice a n c, .slice b k d, .string s] w fun e w' => e = .returned (.bool true) ∧ Below w.heap.size w w' := by
  have Hm := hide hm
  clear hm
  cases hx : allX X n 8
  · have HX := hide hx
    clear hx
    go_enter Tryd.func6, Tryd.ntmps6
    go_wp2_with fail
    refine (lives_calls _).mono ?_
    rintro e w' ⟨rfl, rfl⟩
    go_wp2_with fail
    refine (all_val (unhide HX) hX).mono ?_
    rintro e w' ⟨rfl, rfl⟩
    go_wp2_with fail
    refine (names_calls _ _ _ X _ hX (by omega)).mono ?_
    rintro e w1 ⟨rfl, B1⟩
    rw [namesS_no X n (unhide HX)]
    have Bt := B1
    cases hls : listB s.data.toList
    · have Hls := hide hls
      clear hls
      go_wp2_with fail
      refine (parseAll_val (m := m) (unhide Hls) (by omega) ((Bt.cell (by exact h0)).trans (unhide Hm))).mono ?_
      rintro e w8 ⟨v, nk, ck, Y, rfl, hY, hYl, hYn, B8⟩
      clear hYl
      go_wp2
      go_ret
      exact ⟨rfl, Bt.trans (B8.mono Bt.size)⟩
    · have Hls := hide hls
      clear hls
      go_wp2_with fail
      refine (parseAll_val (m := m) (unhide Hls) (by omega) ((Bt.cell (by exact h0)).trans (unhide Hm))).mono ?_
      rintro e w8 ⟨v, nk, ck, Y, rfl, hY, hYl, hYn, B8⟩
      have heq : ((namesS Y nk).toList == s.toList) = true := by rw [list_again hYl (unhide Hls), ByteArray.toList_eq]; exact beq_self_eq_true _
      clear hYl
      go_wp2_with fail
      refine (names_calls _ _ _ Y _ hY hYn).mono ?_
      rintro e w9 ⟨rfl, B9⟩
      go_wp2
      go_ret
      exact ⟨rfl, (Bt.trans (B8.mono Bt.size)).trans (B9.mono (Nat.le_trans Bt.size B8.size))⟩
  · have HX := hide hx
    clear hx
    cases hz : allX Z k 8
    · have HZ := hide hz
      clear hz
      go_enter Tryd.func6, Tryd.ntmps6
      go_wp2_with fail
      refine (lives_calls _).mono ?_
      rintro e w' ⟨rfl, rfl⟩
      go_wp2_with fail
      refine (all_val (unhide HX) hX).mono ?_
      rintro e w' ⟨rfl, rfl⟩
      go_wp2_with fail
      refine (names_calls _ _ _ X _ hX (by omega)).mono ?_
      rintro e w1 ⟨rfl, B1⟩

      go_wp2_with fail
      have hb2 := namesS_back X n (unhide HX)
      refine (parseAll_val (m := m) hb2.1 (namesS_size X n hn) ((B1.cell (by exact h0)).trans (unhide Hm))).mono ?_
      rintro e w2 ⟨v, nk, ck, Y, rfl, hY, hYl, hYn, B2⟩
      have hsm : Hid (sameX Y nk X n = true) := hide (by rw [same_list, decide_eq_true_eq, hYl, hb2.2])
      clear hb2 hYl
      have B12 : Below w.heap.size w w2 := B1.trans (B2.mono B1.size)
      clear B1 B2
      go_wp2_with fail
      refine (same_val (unhide hsm) hY (hX.below B12)).mono ?_
      rintro e w3 ⟨rfl, q, hq⟩
      have B3 : Below w.heap.size w w3 := by rw [hq]; exact B12.trans ((back_draws w2 q).mono B12.size)
      clear hq B12 hsm hY hYn
      go_wp2_with fail
      refine (all_val (unhide HZ) (hZ.below B3)).mono ?_
      rintro e w' ⟨rfl, rfl⟩
      have Bt := B3
      cases hls : listB s.data.toList
      · have Hls := hide hls
        clear hls
        go_wp2_with fail
        refine (parseAll_val (m := m) (unhide Hls) (by omega) ((Bt.cell (by exact h0)).trans (unhide Hm))).mono ?_
        rintro e w8 ⟨v, nk, ck, Y, rfl, hY, hYl, hYn, B8⟩
        clear hYl
        go_wp2
        go_ret
        exact ⟨rfl, Bt.trans (B8.mono Bt.size)⟩
      · have Hls := hide hls
        clear hls
        go_wp2_with fail
        refine (parseAll_val (m := m) (unhide Hls) (by omega) ((Bt.cell (by exact h0)).trans (unhide Hm))).mono ?_
        rintro e w8 ⟨v, nk, ck, Y, rfl, hY, hYl, hYn, B8⟩
        have heq : ((namesS Y nk).toList == s.toList) = true := by rw [list_again hYl (unhide Hls), ByteArray.toList_eq]; exact beq_self_eq_true _
        clear hYl
        go_wp2_with fail
        refine (names_calls _ _ _ Y _ hY hYn).mono ?_
        rintro e w9 ⟨rfl, B9⟩
        go_wp2
        go_ret
        exact ⟨rfl, (Bt.trans (B8.mono Bt.size)).trans (B9.mono (Nat.le_trans Bt.size B8.size))⟩
    · have HZ := hide hz
      have heq2 := namesS_eq X n Z k (unhide HX) hz
      clear hz
      cases hsa : sameX X n Z k
      all_goals
        rw [hsa] at heq2
        have Hsa := hide hsa
        clear hsa
        go_enter Tryd.func6, Tryd.ntmps6
        go_wp2_with fail
        refine (lives_calls _).mono ?_
        rintro e w' ⟨rfl, rfl⟩
        go_wp2_with fail
        refine (all_val (unhide HX) hX).mono ?_
        rintro e w' ⟨rfl, rfl⟩
        go_wp2_with fail
        refine (names_calls _ _ _ X _ hX (by omega)).mono ?_
        rintro e w1 ⟨rfl, B1⟩

        go_wp2_with fail
        have hb2 := namesS_back X n (unhide HX)
        refine (parseAll_val (m := m) hb2.1 (namesS_size X n hn) ((B1.cell (by exact h0)).trans (unhide Hm))).mono ?_
        rintro e w2 ⟨v, nk, ck, Y, rfl, hY, hYl, hYn, B2⟩
        have hsm : Hid (sameX Y nk X n = true) := hide (by rw [same_list, decide_eq_true_eq, hYl, hb2.2])
        clear hb2 hYl
        have B12 : Below w.heap.size w w2 := B1.trans (B2.mono B1.size)
        clear B1 B2
        go_wp2_with fail
        refine (same_val (unhide hsm) hY (hX.below B12)).mono ?_
        rintro e w3 ⟨rfl, q, hq⟩
        have B3 : Below w.heap.size w w3 := by rw [hq]; exact B12.trans ((back_draws w2 q).mono B12.size)
        clear hq B12 hsm hY hYn
        go_wp2_with fail
        refine (all_val (unhide HZ) (hZ.below B3)).mono ?_
        rintro e w' ⟨rfl, rfl⟩
        go_wp2_with fail
        refine (names_calls _ _ _ Z _ (hZ.below B3) (by omega)).mono ?_
        rintro e w4 ⟨rfl, B4⟩
        have B34 : Below w.heap.size w w4 := B3.trans (B4.mono B3.size)
        clear B3 B4
        go_wp2_with fail
        refine (same_val (unhide Hsa) (hX.below B34) (hZ.below B34)).mono ?_
        rintro e w5 ⟨rfl, q2, hq2⟩
        have Bt : Below w.heap.size w w5 := by rw [hq2]; exact B34.trans ((back_draws w4 q2).mono B34.size)
        clear hq2 B34
        cases hls : listB s.data.toList
        · have Hls := hide hls
          clear hls
          go_wp2_with fail
          refine (parseAll_val (m := m) (unhide Hls) (by omega) ((Bt.cell (by exact h0)).trans (unhide Hm))).mono ?_
          rintro e w8 ⟨v, nk, ck, Y, rfl, hY, hYl, hYn, B8⟩
          clear hYl
          go_wp2
          go_ret
          exact ⟨rfl, Bt.trans (B8.mono Bt.size)⟩
        · have Hls := hide hls
          clear hls
          go_wp2_with fail
          refine (parseAll_val (m := m) (unhide Hls) (by omega) ((Bt.cell (by exact h0)).trans (unhide Hm))).mono ?_
          rintro e w8 ⟨v, nk, ck, Y, rfl, hY, hYl, hYn, B8⟩
          have heq : ((namesS Y nk).toList == s.toList) = true := by rw [list_again hYl (unhide Hls), ByteArray.toList_eq]; exact beq_self_eq_true _
          clear hYl
          go_wp2_with fail
          refine (names_calls _ _ _ Y _ hY hYn).mono ?_
          rintro e w9 ⟨rfl, B9⟩
          go_wp2
          go_ret
          exact ⟨rfl, (Bt.trans (B8.mono Bt.size)).trans (B9.mono (Nat.le_trans Bt.size B8.size))⟩
end Go.Proofs.YtbckmmodobennaaDoor
