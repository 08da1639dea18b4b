/-
  ReelBack: where the items' bytes are few enough the law returns true, and nothing that was there is changed.
-/
import Derived.Test.YtcfadbogcoocoaaBackPure
import Derived.Test.YtcfadbogcoocoaaLives
import Derived.Deep.RegionWith
namespace Go.Proofs.Ytcfadbogcoocoaa
open Go.RowKit
set_option linter.unusedVariables false

theorem Has.ok {w : World} {a : Option Addr} {len : Nat} {its : Nat → It} (h : Has w a len its) : ∀ i, i < len → (its i).Ok := by
  intro i hi
  obtain ⟨_, _, _, ok, _⟩ := h.get hi
  exact ok

set_option maxHeartbeats 4000000 in
set_option maxRecDepth 100000 in
theorem back_walk (limit : Int) (hL0 : -9223372036854775808 ≤ limit) (hL1 : limit ≤ 9223372036854775807) (a : Option Addr) (la ca : Nat) (A : Nat → It) (w : World) (hA : Has w a la A) (hsum : sumB A la ≤ 8388608) :
    Calls Try.prog 5 #[.int .i64 limit, .slice a la ca] w fun e w' => e = .returned (.bool true) ∧ Below w.heap.size w w' := by
  have sa := hA.small
  have hok := hA.ok
  go_enter Try.func5, Try.ntmps5
  go_wp2_with (go_at_call 10; refine (lives_calls _).mono ?_; rintro e w1 ⟨rfl, B1⟩)
  go_wp2_with fail
  refine (new_calls limit _ hL0 hL1).mono ?_
  rintro e w2 ⟨rfl, hW2, hF2⟩
  have hm0 : 0 ≤ max limit 0 := by omega
  have hm1 : max limit 0 ≤ 9223372036854775807 := by omega
  generalize max limit 0 = L at *
  have hS : ∃ b, b = w1.heap.size ∧ w.heap.size ≤ b ∧ IsW w2 b L (.slice none 0 0) [] 0 ∧ Below w.heap.size w w2 := ⟨_, rfl, B1.size, hW2, B1.trans (hF2.below B1.size (fun _ _ h => h))⟩
  obtain ⟨b, eb, hBb, hW, hbel⟩ := hS
  rw [← eb]
  clear hW2 hF2 B1 eb
  go_wp2_with fail
  go_loopw [6] (fun i wr => ∃ (k : Nat) (v : Value), k ≤ la ∧ i = .int .i64 k ∧ IsW wr b L v (runW L A ([], 0) k).1 (runW L A ([], 0) k).2 ∧ (∀ g, v.ownBlock = some g → w.heap.size ≤ g) ∧ Below w.heap.size w wr)
    (fun i _ => la - (intOf i).toNat)
  case atStart => exact ⟨0, _, Nat.zero_le _, rfl, hW, fun g hg => by simp [Value.ownBlock] at hg, hbel⟩
  case round =>
    clear hW hbel
    obtain ⟨k, v, hk, rfl, hW, hV, hbel⟩ := hrel
    have hlen := runW_sum (L := L) (its := A) (s := ([], 0)) la hok k hk
    have hmon := sumB_mono (its := A) hk
    simp only [List.length_nil, Nat.zero_add] at hlen
    by_cases hlt : k < la
    · obtain ⟨bb, off, rfl, hokk, c0, c1, c2, c3⟩ := (hA.below hbel).get hlt
      go_wp2_with fail
      refine (write_calls hW (A k) hokk hm0 hm1 (by omega) (.inl (by omega))).mono ?_
      rintro e w5 ⟨rfl, v', hW', hF'⟩
      obtain ⟨bl, hV'⟩ := hF'.below hW hBb hV
      have hbel' := hbel.trans bl
      clear hW hF' hV hbel bl c0 c1 c2 c3
      go_wp2_with fail
      go_roundw
      case rel => exact ⟨k + 1, v', by omega, by go_num, hW', hV', hbel'⟩
      case measure => simp [intOf]; omega
    · have hkl : k = la := by omega
      subst hkl
      clear hlt hk hmon
      obtain ⟨bs, hbs⟩ := runW_ints (L := L) (its := A) (s := ([], 0)) ⟨[], rfl⟩ k
      have HB := hide hbs
      rw [hbs] at hW
      clear hbs
      generalize hE : (runW L A ([], 0) k).2 = E at *
      have HE := hide hE
      clear hE
      go_wp2_with fail
      refine (done_any hW).mono ?_
      rintro e w5 ⟨rfl, n5, rfl⟩
      have hB5 : Below w.heap.size w (wr.drewN n5) := ⟨hbel.os, hbel.tape, hbel.output, hbel.size, hbel.block⟩
      by_cases h0 : E = 0
      · subst h0
        have et : doneText bs 0 = ba bs := rfl
        rw [et]
        clear et hW hV hbel
        generalize wr.drewN n5 = w6 at *
        go_wp2_with fail
        refine (read_calls _ _).mono ?_
        rw [ba_list]
        rintro e w7 ⟨rfl, hR, hF⟩
        have hB7 := hB5.trans (hF.below hB5.size (fun _ _ h => h))
        obtain ⟨br, ebr, hBr⟩ : ∃ br, br = w6.heap.size ∧ w.heap.size ≤ br := ⟨_, rfl, hB5.size⟩
        rw [← ebr] at hR
        rw [← ebr]
        have hbsl : bs.length ≤ 9223372036854775807 := by
          have := unhide HB
          rw [this, ints_length] at hlen
          omega
        clear hB5 hF ebr hlen
        go_wp2_with fail
        go_loopw [10] (fun i wr => ∃ (m : Nat) (l : List UInt8), m ≤ k ∧ i = .int .i64 m ∧ IsR wr br l 0 ∧ l.length ≤ bs.length ∧ Hid ((runW L A ([], 0) k).1 = (runW L A ([], 0) m).1 ++ ints l) ∧ Below w.heap.size w wr)
          (fun i _ => k - (intOf i).toNat)
        case atStart => exact ⟨0, bs, Nat.zero_le _, rfl, hR, Nat.le_refl _, unhide HB, hB7⟩
        case round =>
          clear hR hB7
          obtain ⟨m, l, hm, rfl, hR, hl, hll, hbel⟩ := hrel
          have hl2 : l.length ≤ 9223372036854775807 := by omega
          by_cases hlt : m < k
          · obtain ⟨bb, off, rfl, hokk, c0, c1, c2, c3⟩ := (hA.below hbel).get hlt
            obtain ⟨zs, l', hib, rfl, hnext⟩ := back_next hlt (unhide HE) (unhide hll)
            have HN := hide hnext
            clear hnext hll
            generalize hx : A m = x at *
            have HX := hide hx
            clear hx
            have hok2 := hokk
            obtain ⟨hk0, hk1, hu0, hu1, hn0, hn1, hs⟩ := hokk
            have hc : x.K % 4 = 0 ∨ x.K % 4 = 1 ∨ x.K % 4 = 2 ∨ x.K % 4 = 3 := by omega
            go_wp2_with fail
            refine (kind_calls x.K x.U x.N x.S hk0 hk1 _).mono ?_
            rintro e w8 ⟨rfl, rfl⟩
            have hs1 : ∃ bx w8, bx = wr.heap.size ∧ w8 = (wr.alloc (.cells #[.int .i64 x.K, .int .u64 x.U, .int .i64 x.N, .string x.S] 31)).alloc (.cells #[.int .i64 x.K, .int .u64 x.U, .int .i64 x.N, .string x.S] 31) ∧
                w8.heap[bx]? = some (.cells #[.int .i64 x.K, .int .u64 x.U, .int .i64 x.N, .string x.S] 31 (0, 0)) ∧ IsR w8 br (zs ++ l') 0 ∧ Below w.heap.size w w8 ∧ br ≠ bx := by
              have hlt2 := lt_of_blk hR
              exact ⟨_, _, rfl, rfl, blk_alloc (blk_new wr _), blk_alloc (blk_alloc hR), (hbel.alloc hbel.size _).alloc (by have := hbel.size; simp; omega) _, by omega⟩
            obtain ⟨bx, w8, e1, e2, hxb, hR8, hB8, hne⟩ := hs1
            rw [← e1, ← e2]
            clear hR hbel c0 c1 c2 c3 e1 e2
            rcases hc with hc | hc | hc | hc
            · obtain ⟨un, hv, hbn⟩ : ∃ n : Nat, rnum (zs ++ l') 0 = (n, l', 0) ∧ (n : Int) = x.U := ⟨_, back_num hib hc hok2 l', by omega⟩
              have HV := hide hv
              have hk0' : (x.K % 4 == 0) = true := beq_iff_eq.2 hc
              clear hv hc
              have c1 := cell_at hxb 1
              simp at c1
              have hq : ((un : Int) == x.U) = true := beq_iff_eq.2 hbn
              clear hbn
              go_wp2_with fail
              go_region_with (go_at_call 24; refine (rnum_calls (l := zs ++ l') (E := 0) (by exact hR8) (by exact hl2)).mono ?_; rw [unhide HV]; rintro e w9 ⟨rfl, hR9, hF9⟩; have hx9 := hF9.blk hxb (fun e => hne e.symm); have d1 := cell_at hx9 1; simp at d1)
              all_goals
                have hF8 : Fr (fun k => k = br) w8 w9 := ⟨hF9.os, hF9.tape, hF9.output, hF9.size, hF9.block⟩
                have hB9 : Below w.heap.size w w9 := hB8.trans (hF8.below hB8.size (fun k hk e => by omega))
                clear hF9 hF8 hx9 d1
                go_wp2_with fail
                go_roundw
                case rel => exact ⟨m + 1, l', by omega, by go_num, hR9, by simp at hl; omega, HN, hB9⟩
                case measure => simp [intOf]; omega
            · have hv := back_int hib hc hok2 l'
              have HV := hide hv
              have hk0' : (x.K % 4 == 0) = false := beq_eq_false_iff_ne.2 (by omega)
              have hk1' : (x.K % 4 == 1) = true := beq_iff_eq.2 hc
              clear hv hc
              have c1 := cell_at hxb 2
              simp at c1
              skip
              go_wp2_with fail
              go_region_with (go_at_call 25; refine (rint_calls (l := zs ++ l') (E := 0) (by exact hR8) (by exact hl2)).mono ?_; rw [unhide HV, sgn_zig]; rintro e w9 ⟨rfl, hR9, hF9⟩; have hx9 := hF9.blk hxb (fun e => hne e.symm); have d1 := cell_at hx9 2; simp at d1)
              all_goals
                have hF8 : Fr (fun k => k = br) w8 w9 := ⟨hF9.os, hF9.tape, hF9.output, hF9.size, hF9.block⟩
                have hB9 : Below w.heap.size w w9 := hB8.trans (hF8.below hB8.size (fun k hk e => by omega))
                clear hF9 hF8 hx9 d1
                go_wp2_with fail
                go_roundw
                case rel => exact ⟨m + 1, l', by omega, by go_num, hR9, by simp at hl; omega, HN, hB9⟩
                case measure => simp [intOf]; omega
            · obtain ⟨by', hv, hbn⟩ := back_byte hib hc l'
              have HV := hide hv
              have hk0' : (x.K % 4 == 0) = false := beq_eq_false_iff_ne.2 (by omega)
              have hk1' : (x.K % 4 == 1) = false := beq_eq_false_iff_ne.2 (by omega)
              have hk2' : (x.K % 4 == 2) = true := beq_iff_eq.2 hc
              clear hv hc
              have c1 := cell_at hxb 2
              simp at c1
              have hq : ((by'.toNat : Int) == x.N) = true := beq_iff_eq.2 hbn
              clear hbn
              go_wp2_with fail
              go_region_with (go_at_call 26; refine (rbyte_calls (l := zs ++ l') (E := 0) (by exact hR8) (by exact hl2)).mono ?_; rw [unhide HV]; rintro e w9 ⟨rfl, hR9, hF9⟩; have hx9 := hF9.blk hxb (fun e => hne e.symm); have d1 := cell_at hx9 2; simp at d1)
              all_goals
                have hF8 : Fr (fun k => k = br) w8 w9 := ⟨hF9.os, hF9.tape, hF9.output, hF9.size, hF9.block⟩
                have hB9 : Below w.heap.size w w9 := hB8.trans (hF8.below hB8.size (fun k hk e => by omega))
                clear hF9 hF8 hx9 d1
                go_wp2_with fail
                go_roundw
                case rel => exact ⟨m + 1, l', by omega, by go_num, hR9, by simp at hl; omega, HN, hB9⟩
                case measure => simp [intOf]; omega
            · have hv := back_text hib hc l'
              have HV := hide hv
              have hk0' : (x.K % 4 == 0) = false := beq_eq_false_iff_ne.2 (by omega)
              have hk1' : (x.K % 4 == 1) = false := beq_eq_false_iff_ne.2 (by omega)
              have hk2' : (x.K % 4 == 2) = false := beq_eq_false_iff_ne.2 (by omega)
              have hk3' : (x.K % 4 == 3) = true := beq_iff_eq.2 hc
              clear hv hc
              have c1 := cell_at hxb 3
              simp at c1
              skip
              go_wp2_with fail
              go_region_with (go_at_call 27; refine (rtext_calls (l := zs ++ l') (E := 0) (by exact hR8) (by exact hl2)).mono ?_; rw [unhide HV, ba_of]; rintro e w9 ⟨rfl, hR9, hF9⟩; have hx9 := hF9.blk hxb (fun e => hne e.symm); have d1 := cell_at hx9 3; simp at d1)
              all_goals
                have hF8 : Fr (fun k => k = br) w8 w9 := ⟨hF9.os, hF9.tape, hF9.output, hF9.size, hF9.block⟩
                have hB9 : Below w.heap.size w w9 := hB8.trans (hF8.below hB8.size (fun k hk e => by omega))
                clear hF9 hF8 hx9 d1
                go_wp2_with fail
                go_roundw
                case rel => exact ⟨m + 1, l', by omega, by go_num, hR9, by simp at hl; omega, HN, hB9⟩
                case measure => simp [intOf]; omega
          · have hml : m = k := by omega
            subst hml
            have hl0 : l = [] := by
              have := unhide hll
              have e := congrArg List.length this
              simp only [List.length_append, ints_length] at e
              exact List.eq_nil_of_length_eq_zero (by omega)
            subst hl0
            clear hll hm
            have er : rend [] 0 = 0 := rfl
            go_wp2_with fail
            refine (end_calls hR).mono ?_
            rw [er]
            rintro e w8 ⟨rfl, rfl⟩
            go_wp2_with fail
            refine (left_calls hR).mono ?_
            rintro e w8 ⟨rfl, rfl⟩
            go_wp2_with fail
            go_ret
            exact ⟨rfl, hbel⟩
      · have hb0 : (E != 0) = true := bne_iff_ne.2 h0
        have et : doneText bs E = ⟨#[]⟩ := by simp [doneText, h0]
        rw [et]
        clear h0 et HB HE hW
        go_wp2_with fail
        go_ret
        exact ⟨rfl, hB5⟩
end Go.Proofs.Ytcfadbogcoocoaa
