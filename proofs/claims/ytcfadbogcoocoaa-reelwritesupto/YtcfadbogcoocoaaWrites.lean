/-
  ReelWrites: where the items' bytes are few enough the law returns true, and nothing that was there is changed.
-/
import Derived.Test.YtcfadbogcoocoaaModel
import Derived.Test.YtcfadbogcoocoaaBackPure
import Derived.Test.YtcfadbogcoocoaaLives
import Derived.Deep.RegionWith
namespace Go.Proofs.Ytcfadbogcoocoaa
open Go.RowKit
set_option linter.unusedVariables false

/-- reel's writer and the reference's, with the same bytes and the same error, from block B on -/
structure WV (B : Nat) (w0 w : World) (bw bv : Nat) (L : Int) (s : List Int × Int) (s2 : List Int × Int) (v u : Value) : Prop where
  wtr : IsW w bw L v s.1 s.2
  mdl : IsV w bv L u s2.1 s2.2
  ap : Apart v u
  Bw : B ≤ bw
  Bv : B ≤ bv
  VW : ∀ k, v.ownBlock = some k → B ≤ k
  VV : ∀ k, u.ownBlock = some k → B ≤ k
  bel : Below B w0 w

theorem wv_ne {w : World} {bw bv : Nat} {L L2 : Int} {v u : Value} {xs ys : List Int} {E F : Int} (h : IsW w bw L v xs E) (h2 : IsV w bv L2 u ys F) : bw ≠ bv ∧ v.ownBlock ≠ some bv ∧ u.ownBlock ≠ some bw := by
  refine ⟨?_, ?_, ?_⟩
  · intro e
    have h1 := h.blk
    rw [e, h2.blk] at h1
    simp at h1
  · intro hb
    rcases h.own.2 with ⟨rfl, hn⟩ | ⟨g, cap, cur, rfl, _, hg, _⟩
    · simp [Value.ownBlock] at hb
    · simp [Value.ownBlock] at hb
      subst hb
      rw [h2.blk] at hg
      simp at hg
  · intro hb
    rcases h2.own.2 with ⟨rfl, hn⟩ | ⟨g, cap, cur, rfl, _, hg, _⟩
    · simp [Value.ownBlock] at hb
    · simp [Value.ownBlock] at hb
      subst hb
      rw [h.blk] at hg
      simp at hg

theorem WV.go1 {B : Nat} {w0 w w' : World} {bw bv : Nat} {L : Int} {s s2 t : List Int × Int} {v u v' : Value} (h : WV B w0 w bw bv L s s2 v u) (hW : IsW w' bw L v' t.1 t.2) (hF : Wrote w w' bw v v') :
    WV B w0 w' bw bv L t s2 v' u := by
  obtain ⟨n1, n2, n3⟩ := wv_ne h.wtr h.mdl
  obtain ⟨bl, vb⟩ := hF.below h.wtr h.Bw h.VW
  refine ⟨hW, h.mdl.fr hF.fr ?_ ?_, ?_, h.Bw, h.Bv, vb, h.VV, h.bel.trans bl⟩
  · rintro (e | e)
    · exact n1 e.symm
    · exact n2 e
  · rintro k hk (e | e)
    · subst e; exact n3 hk
    · exact h.ap k e hk
  · intro k hk hk2
    rcases hF.at' with e | ⟨g, e, hg⟩
    · rw [e] at hk; exact h.ap k hk hk2
    · rw [e] at hk
      cases hk
      have := (h.mdl.own.lt _ hk2).2
      omega

theorem WV.go2 {B : Nat} {w0 w w' : World} {bw bv : Nat} {L : Int} {s s2 t : List Int × Int} {v u u' : Value} (h : WV B w0 w bw bv L s s2 v u) (hV : IsV w' bv L u' t.1 t.2) (hF : Wrote w w' bv u u') :
    WV B w0 w' bw bv L s t v u' := by
  obtain ⟨n1, n2, n3⟩ := wv_ne h.wtr h.mdl
  have hlt := lt_of_blk h.mdl.blk
  have bl : Below B w w' := hF.fr.below (by have := h.Bv; omega) (by
    rintro k hk (e | e)
    · have := h.Bv; omega
    · have := h.VV k e; omega)
  refine ⟨h.wtr.fr hF.fr ?_ ?_, hV, ?_, h.Bw, h.Bv, h.VW, ?_, h.bel.trans bl⟩
  · rintro (e | e)
    · exact n1 e
    · exact n3 e
  · rintro k hk (e | e)
    · subst e; exact n2 hk
    · exact h.ap k hk e
  · intro k hk hk2
    rcases hF.at' with e | ⟨g, e, hg⟩
    · rw [e] at hk2; exact h.ap k hk hk2
    · rw [e] at hk2
      cases hk2
      have := (h.wtr.own.lt _ hk).2
      omega
  · intro k hk
    rcases hF.at' with e | ⟨g, e, hg⟩
    · rw [e] at hk; exact h.VV k hk
    · rw [e] at hk; cases hk; have := h.Bv; omega

theorem WV.drew {B : Nat} {w0 w : World} {bw bv : Nat} {L : Int} {s s2 : List Int × Int} {v u : Value} (h : WV B w0 w bw bv L s s2 v u) : WV B w0 w.drew bw bv L s s2 v u :=
  ⟨h.wtr.fr (Fr.refl (fun _ => False) w).drew (fun h => h) (fun _ _ h => h), h.mdl.fr (Fr.refl (fun _ => False) w).drew (fun h => h) (fun _ _ h => h), h.ap, h.Bw, h.Bv, h.VW, h.VV, h.bel.drew⟩

theorem IsV.drewN {w : World} {b : Nat} {L : Int} {v : Value} {xs : List Int} {E : Int} (h : IsV w b L v xs E) (n : Nat) : IsV (w.drewN n) b L v xs E :=
  h.fr ((Fr.refl (fun _ => False) w).drewN n) (fun h => h) (fun _ _ h => h)

set_option maxHeartbeats 4000000 in
set_option maxRecDepth 100000 in
theorem writes_walk (limit : Int) (hL0 : -9223372036854775808 ≤ limit) (hL1 : limit ≤ 9223372036854775807) (a : Option Addr) (la ca : Nat) (A : Nat → It) (w : World) (hA : Has w a la A) (hok : ∀ i, i < la → (A i).Ok) (hsum : sumB A la ≤ 8388608) :
    Calls Try.prog 3 #[.int .i64 limit, .slice a la ca] w fun e w' => e = .returned (.bool true) ∧ Below w.heap.size w w' := by
  have sa := hA.small
  have hm0 : 0 ≤ max limit 0 := by omega
  have hm1 : max limit 0 ≤ 9223372036854775807 := by omega
  go_enter Try.func3, Try.ntmps3
  go_wp2_with (go_at_call 10; refine (lives_calls _).mono ?_; rintro e w1 ⟨rfl, B1⟩)
  go_wp2_with fail
  refine (new_calls limit _ hL0 hL1).mono ?_
  rintro e w2 ⟨rfl, hW2, hF2⟩
  go_wp2_with fail
  refine (vnew_calls limit _ hL0 hL1).mono ?_
  rintro e w3 ⟨rfl, hV3, hF3⟩
  have hS : ∃ bw bv, bw = w1.heap.size ∧ bv = w2.heap.size ∧ WV w.heap.size w w3 bw bv (max limit 0) ([], 0) ([], 0) (.slice none 0 0) (.slice none 0 0) := by
    have z1 := B1.size
    have z2 := hF2.size
    have b2 := hF2.below (B := w.heap.size) z1 (fun _ _ h => h)
    have b3 := hF3.below (B := w.heap.size) (by omega) (fun _ _ h => h)
    exact ⟨_, _, rfl, rfl, hW2.fr hF3 (fun h => h) (fun _ _ h => h), hV3, Apart.nil _ _, z1, by omega, fun k hk => by simp [Value.ownBlock] at hk, fun k hk => by simp [Value.ownBlock] at hk, (B1.trans b2).trans b3⟩
  obtain ⟨bw, bv, e1, e2, hS⟩ := hS
  rw [← e1, ← e2]
  clear hW2 hV3 hF2 hF3 B1 e1 e2
  go_wp2_with fail
  go_loopw [7] (fun i wr => ∃ (k : Nat) (v u : Value), k ≤ la ∧ i = .int .i64 k ∧ WV w.heap.size w wr bw bv (max limit 0) (runW (max limit 0) A ([], 0) k) (runW (max limit 0) A ([], 0) k) v u)
    (fun i _ => la - (intOf i).toNat)
  case atStart => exact ⟨0, _, _, Nat.zero_le _, rfl, hS⟩
  case round =>
    clear hS
    obtain ⟨k, v, u, hk, rfl, hS⟩ := hrel
    have hlen := runW_sum (L := max limit 0) (its := A) (s := ([], 0)) la hok k hk
    have hmon := sumB_mono (its := A) hk
    simp only [List.length_nil, Nat.zero_add] at hlen
    by_cases hlt : k < la
    · obtain ⟨bb, off, rfl, hokk, c0, c1, c2, c3⟩ := (hA.below hS.bel).get hlt
      go_wp2_with fail
      refine (write_calls hS.wtr (A k) hokk hm0 hm1 (by omega) (.inl (by omega))).mono ?_
      rintro e w5 ⟨rfl, v', hW', hF'⟩
      have hS5 := hS.go1 hW' hF'
      clear hS hW' hF' c0 c1 c2 c3
      obtain ⟨bb', off', e', _, c0, c1, c2, c3⟩ := (hA.below hS5.bel).get hlt
      cases e'
      go_wp2_with fail
      refine (model_calls hS5.mdl (A k) hokk hm0 hm1 (by omega) (.inl (by omega))).mono ?_
      rintro e w6 ⟨rfl, u', hV', hF'⟩
      have hS6 := hS5.go2 hV' hF'
      clear hS5 hV' hF' c0 c1 c2 c3
      have hlim := runW_len (L := max limit 0) (its := A) (s := ([], 0)) (by simpa using hm0) (k + 1)
      have hrw : runW (max limit 0) A ([], 0) (k + 1) = wstep (max limit 0) (runW (max limit 0) A ([], 0) k) (A k) := rfl
      rw [hrw] at hlim
      have hW6 : IsW w6.drew bw (max limit 0) v' (wstep (max limit 0) (runW (max limit 0) A ([], 0) k) (A k)).1 (wstep (max limit 0) (runW (max limit 0) A ([], 0) k) (A k)).2 := hS6.wtr.fr (Fr.refl (fun _ => False) w6).drew (fun h => h) (fun _ _ h => h)
      have hV6 := hS6.mdl
      have m0 := cell_at hV6.blk 0
      simp at m0
      obtain ⟨ua, uc, hu⟩ := hV6.slice
      rw [hu] at m0
      have HS6 := hide hS6
      have HRW := hide hrw
      clear hu hV6 hS6 hrw hlen hmon
      generalize wstep (max limit 0) (runW (max limit 0) A ([], 0) k) (A k) = t at *
      go_wp2_with fail
      go_region_with (go_at_call 15; refine (len_calls hW6).mono ?_; rintro e w7 ⟨rfl, rfl⟩)
      all_goals
        go_wp2_with fail
        go_roundw
        case rel => exact ⟨k + 1, v', u', by omega, by go_num, by rw [unhide HRW]; exact (unhide HS6).drew⟩
        case measure => simp [intOf]; omega
    · have hkl : k = la := by omega
      subst hkl
      clear hlt hk hmon hlen
      obtain ⟨bs, hbs⟩ := runW_ints (L := max limit 0) (its := A) (s := ([], 0)) ⟨[], rfl⟩ k
      have hW := hS.wtr
      have hV := hS.mdl
      have hbel := hS.bel
      rw [hbs] at hW hV
      clear hS hbs
      generalize (runW (max limit 0) A ([], 0) k).2 = E at *
      go_wp2_with fail
      refine (done_any hW).mono ?_
      rintro e w5 ⟨rfl, n5, rfl⟩
      go_wp2_with fail
      refine (vdone_calls (hV.drewN n5)).mono ?_
      rintro e w6 ⟨rfl, n6, rfl⟩
      go_wp2_with fail
      refine (done_any (hW.drewN (n5 + n6))).mono ?_
      rintro e w7 ⟨rfl, n7, rfl⟩
      have hB7 : Below w.heap.size w (wr.drewN (n5 + n6 + n7)) := ⟨hbel.os, hbel.tape, hbel.output, hbel.size, hbel.block⟩
      go_wp2_with fail
      go_ret
      exact ⟨by first | rfl | simp, hB7⟩
end Go.Proofs.Ytcfadbogcoocoaa
