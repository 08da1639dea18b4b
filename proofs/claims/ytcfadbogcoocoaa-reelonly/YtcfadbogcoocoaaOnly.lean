/-
  ReelOnly: for every text within reach and every list of items the law returns true, and nothing that was there is changed.
-/
import Derived.Test.YtcfadbogcoocoaaOnlyPure
import Derived.Test.YtcfadbogcoocoaaLives
namespace Go.Proofs.Ytcfadbogcoocoaa
open Go.RowKit
set_option linter.unusedVariables false

/-- a reader and a writer beside one another, from block B on -/
structure RW (B : Nat) (w0 w : World) (br bw : Nat) (l : List UInt8) (E : Int) (L : Int) (v : Value) (s : List Int × Int) : Prop where
  rdr : IsR w br l E
  wtr : IsW w bw L v s.1 s.2
  Br : B ≤ br
  Bw : B ≤ bw
  V : ∀ k, v.ownBlock = some k → B ≤ k
  bel : Below B w0 w

theorem RW.ne {B : Nat} {w0 w : World} {br bw : Nat} {l : List UInt8} {E L : Int} {v : Value} {s : List Int × Int} (h : RW B w0 w br bw l E L v s) : bw ≠ br := by
  intro e
  have h1 := h.wtr.blk
  have h2 := h.rdr
  unfold IsR at h2
  rw [e, h2] at h1
  simp at h1

theorem RW.rne {B : Nat} {w0 w : World} {br bw : Nat} {l : List UInt8} {E L : Int} {v : Value} {s : List Int × Int} (h : RW B w0 w br bw l E L v s) : v.ownBlock ≠ some br := by
  intro hb
  rcases h.wtr.own.2 with ⟨rfl, hn⟩ | ⟨g, cap, cur, rfl, _, hg, _⟩
  · simp [Value.ownBlock] at hb
  · simp [Value.ownBlock] at hb
    subst hb
    have h2 := h.rdr
    unfold IsR at h2
    rw [h2] at hg
    simp at hg

theorem RW.read {B : Nat} {w0 w w' : World} {br bw : Nat} {l l' : List UInt8} {E E' L : Int} {v : Value} {s : List Int × Int} (h : RW B w0 w br bw l E L v s) (hR : IsR w' br l' E') (hF : Fr (fun k => k = br) w w') :
    RW B w0 w' br bw l' E' L v s := by
  have hlt := lt_of_blk h.rdr
  exact ⟨hR, h.wtr.fr hF h.ne (fun k hk e => h.rne (by rw [hk, e])), h.Br, h.Bw, h.V, h.bel.trans (hF.below (by have := h.Br; omega) (fun k hk e => by have := h.Br; omega))⟩

theorem RW.write {B : Nat} {w0 w w' : World} {br bw : Nat} {l : List UInt8} {E L : Int} {v v' : Value} {s t : List Int × Int} (h : RW B w0 w br bw l E L v s) (hW : IsW w' bw L v' t.1 t.2) (hF : Wrote w w' bw v v') :
    RW B w0 w' br bw l E L v' t := by
  obtain ⟨bl, vb⟩ := hF.below h.wtr h.Bw h.V
  exact ⟨hF.fr.blk h.rdr (fun e => by rcases e with e | e; exact h.ne e.symm; exact h.rne e), hW, h.Br, h.Bw, vb, h.bel.trans bl⟩

theorem RW.grow {B : Nat} {w0 w w' : World} {br bw : Nat} {l : List UInt8} {E L : Int} {v : Value} {s : List Int × Int} (h : RW B w0 w br bw l E L v s) (hF : Fr (fun _ => False) w w') (hB : B ≤ w.heap.size) :
    RW B w0 w' br bw l E L v s :=
  ⟨hF.blk h.rdr (fun e => e), h.wtr.fr hF (fun e => e) (fun _ _ e => e), h.Br, h.Bw, h.V, h.bel.trans (hF.below hB (fun _ _ e => e))⟩

set_option maxHeartbeats 4000000 in
set_option maxRecDepth 100000 in
theorem only_walk (T : ByteArray) (hT : T.size ≤ 140737488351232) (a : Option Addr) (la ca : Nat) (A : Nat → It) (w : World) (hA : Has w a la A) :
    Calls Try.prog 6 #[.string T, .slice a la ca] w fun e w' => e = .returned (.bool true) ∧ Below w.heap.size w w' := by
  have sa := hA.small
  have hTl : T.data.toList.length = T.size := (Lib.size_eq T).symm
  have hmax : max (T.size : Int) 0 = T.size := by omega
  have HTL := hide hTl
  have HMX := hide hmax
  clear hTl hmax
  go_enter Try.func6, Try.ntmps6
  go_wp2_with (go_at_call 10; refine (lives_calls _).mono ?_; rintro e w1 ⟨rfl, B1⟩)
  go_wp2_with fail
  refine (read_calls _ _).mono ?_
  rintro e w2 ⟨rfl, hR2, hF2⟩
  go_wp2_with fail
  refine (new_calls T.size _ (by omega) (by omega)).mono ?_
  rintro e w3 ⟨rfl, hW3, hF3⟩
  have hS : ∃ br bw, br = w1.heap.size ∧ bw = w2.heap.size ∧ RW w.heap.size w w3 br bw T.data.toList 0 T.size (.slice none 0 0) ([], 0) := by
    have z1 := B1.size
    have z2 : w1.heap.size < w2.heap.size := lt_of_blk hR2
    have b2 := hF2.below (B := w.heap.size) z1 (fun _ _ h => h)
    have b3 := hF3.below (B := w.heap.size) (by omega) (fun _ _ h => h)
    rw [unhide HMX] at hW3
    exact ⟨_, _, rfl, rfl, hF3.blk hR2 (fun h => h), hW3, z1, by omega, fun k hk => by simp [Value.ownBlock] at hk, (B1.trans b2).trans b3⟩
  obtain ⟨br, bw, e1, e2, hS⟩ := hS
  rw [← e1, ← e2]
  clear hR2 hW3 hF2 hF3 B1 e1 e2
  go_wp2_with fail
  go_loopw [7] (fun i wr => ∃ (k : Nat) (v : Value) (l : List UInt8) (E : Int) (s : List Int × Int), k ≤ la ∧ i = .int .i64 k ∧ RW w.heap.size w wr br bw l E T.size v s ∧ OnlyInv T.data.toList l E s ∧ l.length ≤ T.data.toList.length ∧ (s.1.length : Int) ≤ T.size ∧ ∃ bs, s.1 = ints bs)
    (fun i _ => la - (intOf i).toNat)
  case atStart => exact ⟨0, _, _, _, _, Nat.zero_le _, rfl, hS, .inr (.inl ⟨rfl, rfl⟩), Nat.le_refl _, by simp, [], rfl⟩
  case round =>
    clear hS
    obtain ⟨k, v, l, E, s, hk, rfl, hS, hI, hl, hsl, hbs⟩ := hrel
    have hl2 : l.length ≤ 9223372036854775807 := by rw [unhide HTL] at hl; omega
    by_cases hlt : k < la
    · obtain ⟨bb, off, rfl, hok, c0, c1, c2, c3⟩ := (hA.below hS.bel).get hlt
      generalize hx : A k = x at *
      have HX := hide hx
      clear hx
      obtain ⟨hk0, hk1, hu0, hu1, hn0, hn1, hs⟩ := hok
      have hzB : w.heap.size ≤ wr.heap.size := hS.bel.size
      have hc : x.K % 4 = 0 ∨ x.K % 4 = 1 ∨ x.K % 4 = 2 ∨ x.K % 4 = 3 := by omega
      go_wp2_with fail
      refine (kind_calls x.K x.U x.N x.S hk0 hk1 _).mono ?_
      rintro e w4 ⟨rfl, rfl⟩
      have hS4 := hS.grow ((Fr.refl (fun _ => False) wr).alloc (.cells #[.int .i64 x.K, .int .u64 x.U, .int .i64 x.N, .string x.S] 31)) hzB
      clear hS c0 c1 c2 c3
      generalize wr.alloc (.cells #[.int .i64 x.K, .int .u64 x.U, .int .i64 x.N, .string x.S] 31) = w4 at *
      rcases hc with hc | hc | hc | hc
      · have hk0' : (x.K % 4 == 0) = true := beq_iff_eq.2 hc
        clear hc
        have hnl := rnum_lt l E
        go_wp2_with fail
        refine (rnum_calls hS4.rdr hl2).mono ?_
        rintro e w5 ⟨rfl, hR, hF⟩
        have hS5 := hS4.read hR hF
        clear hS4 hR hF
        go_wp2_with fail
        refine (num_calls hS5.wtr _ (by omega) (by omega) (by omega) (by omega) (by omega) (.inr (by omega))).mono ?_
        rw [Int.toNat_natCast]
        rintro e w6 ⟨rfl, v', hW, hF⟩
        have hS6 := hS5.write hW hF
        clear hS5 hW hF
        have hI' := only_num hI
        rw [unhide HTL] at hI'
        go_wp2_with fail
        go_roundw
        case rel => exact ⟨k + 1, v', _, _, _, by omega, by go_num, hS6, hI', Nat.le_trans (rnum_le l E) hl, put_len hsl, put_ints hbs ⟨_, vb_ints _⟩⟩
        case measure => simp [intOf]; omega
      · have hk0' : (x.K % 4 == 0) = false := beq_eq_false_iff_ne.2 (by omega)
        have hk1' : (x.K % 4 == 1) = true := beq_iff_eq.2 hc
        clear hc
        have hnl := rnum_lt l E
        have hsg := sgn_fits _ hnl
        go_wp2_with fail
        refine (rint_calls hS4.rdr hl2).mono ?_
        rintro e w5 ⟨rfl, hR, hF⟩
        have hS5 := hS4.read hR hF
        clear hS4 hR hF
        go_wp2_with fail
        refine (int_calls hS5.wtr _ hsg.1 hsg.2 (by omega) (by omega) (by omega) (.inr (by omega))).mono ?_
        rw [zig_sgn]
        rintro e w6 ⟨rfl, v', hW, hF⟩
        have hS6 := hS5.write hW hF
        clear hS5 hW hF
        have hI' := only_num hI
        rw [unhide HTL] at hI'
        go_wp2_with fail
        go_roundw
        case rel => exact ⟨k + 1, v', _, _, _, by omega, by go_num, hS6, hI', Nat.le_trans (rnum_le l E) hl, put_len hsl, put_ints hbs ⟨_, vb_ints _⟩⟩
        case measure => simp [intOf]; omega
      · have hk0' : (x.K % 4 == 0) = false := beq_eq_false_iff_ne.2 (by omega)
        have hk1' : (x.K % 4 == 1) = false := beq_eq_false_iff_ne.2 (by omega)
        have hk2' : (x.K % 4 == 2) = true := beq_iff_eq.2 hc
        clear hc
        go_wp2_with fail
        refine (rbyte_calls hS4.rdr hl2).mono ?_
        rintro e w5 ⟨rfl, hR, hF⟩
        have hS5 := hS4.read hR hF
        clear hS4 hR hF
        go_wp2_with fail
        refine (byte_calls' hS5.wtr _ (by omega) (by omega) (by omega) (.inr (by omega))).mono ?_
        rintro e w6 ⟨rfl, v', hW, hF⟩
        have hS6 := hS5.write hW hF
        clear hS5 hW hF
        have hI' := only_byte hI
        rw [unhide HTL] at hI'
        go_wp2_with fail
        go_roundw
        case rel => exact ⟨k + 1, v', _, _, _, by omega, by go_num, hS6, hI', Nat.le_trans (rbyte_le l E) hl, byteStep_len hsl, byteStep_ints hbs⟩
        case measure => simp [intOf]; omega
      · have hk0' : (x.K % 4 == 0) = false := beq_eq_false_iff_ne.2 (by omega)
        have hk1' : (x.K % 4 == 1) = false := beq_eq_false_iff_ne.2 (by omega)
        have hk2' : (x.K % 4 == 2) = false := beq_eq_false_iff_ne.2 (by omega)
        have hk3' : (x.K % 4 == 3) = true := beq_iff_eq.2 hc
        clear hc
        have htl := rtext_len l E
        have hbz := ba_size (rtext l E).1
        go_wp2_with fail
        refine (rtext_calls hS4.rdr hl2).mono ?_
        rintro e w5 ⟨rfl, hR, hF⟩
        have hS5 := hS4.read hR hF
        clear hS4 hR hF
        go_wp2_with fail
        refine (text_calls' hS5.wtr _ (by omega) (by omega) (by omega) (by omega) (.inr (by omega))).mono ?_
        rintro e w6 ⟨rfl, v', hW, hF⟩
        have hS6 := hS5.write hW hF
        clear hS5 hW hF
        have hI' := only_text hI hl
        rw [unhide HTL] at hI'
        go_wp2_with fail
        go_roundw
        case rel => exact ⟨k + 1, v', _, _, _, by omega, by go_num, hS6, hI', Nat.le_trans (rtext_le l E) hl, textStep_len hsl, textStep_ints hbs⟩
        case measure => simp [intOf]; omega
    · have hkl : k = la := by omega
      clear hlt hk
      go_wp2_with fail
      refine (end_calls hS.rdr).mono ?_
      rintro e w4 ⟨rfl, rfl⟩
      obtain ⟨bs, hbs⟩ := hbs
      have hW := hS.wtr
      rw [hbs] at hW
      have hbel := hS.bel
      by_cases hend : rend l E = 0
      · have hq : E = 0 ∧ l = [] := by
          unfold rend at hend
          by_cases hE : E = 0
          · rw [if_neg (by simpa using hE)] at hend
            by_cases hl0 : l = []
            · exact ⟨hE, hl0⟩
            · rw [if_neg hl0] at hend; simp at hend
          · rw [if_pos hE] at hend; exact absurd hend hE
        obtain ⟨rfl, rfl⟩ := hq
        rw [hend]
        go_wp2_with fail
        refine (done_any hW).mono ?_
        rintro e w5 ⟨rfl, n5, rfl⟩
        have hB5 : Below w.heap.size w (wr.drewN n5) := ⟨hbel.os, hbel.tape, hbel.output, hbel.size, hbel.block⟩
        rcases hI with h | ⟨h0, h⟩ | ⟨h4, h⟩
        · exact absurd rfl h
        · rw [h0]
          have ebs : bs = T.data.toList := ints_inj (by rw [← hbs, ← h]; simp [ints])
          have et : doneText bs 0 = T := by rw [ebs]; simp [doneText]
          rw [et]
          clear ebs et h h0 hbs hS hW hend
          go_wp2_with fail
          go_ret
          exact ⟨rfl, hB5⟩
        · rw [h4]
          rw [unhide HTL] at h
          have hbig : (65535 : Int) < T.size := by omega
          clear h h4 hbs hS hW hend
          go_wp2_with fail
          all_goals go_ret
          all_goals exact ⟨rfl, hB5⟩
      · have hne : (rend l E != 0) = true := bne_iff_ne.2 hend
        clear hend
        go_wp2_with fail
        go_ret
        exact ⟨rfl, hbel⟩
end Go.Proofs.Ytcfadbogcoocoaa
