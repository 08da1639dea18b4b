/-
  same: both readers read alike.
-/
import Derived.Test.YtcfadbogcoocoaaRefRd
import Derived.Test.YtcfadbogcoocoaaArgs
import Derived.Test.YtcfadbogcoocoaaLives
import Derived.Deep.RegionWith
namespace Go.Proofs.Ytcfadbogcoocoaa
open Go.RowKit
set_option linter.unusedVariables false

/-- where a reader stands behind the next thing -/
def sstep (l : List UInt8) (E : Int) (x : It) : List UInt8 × Int :=
  if x.K % 4 = 0 ∨ x.K % 4 = 1 then (rnum l E).2 else if x.K % 4 = 2 then (rbyte l E).2 else (rtext l E).2

/-- both readers, from block B on -/
structure RM (B : Nat) (w0 w : World) (br bm : Nat) (l : List UInt8) (E : Int) : Prop where
  rdr : IsR w br l E
  mdl : IsM w bm l E
  Br : B ≤ br
  Bm : B ≤ bm
  bel : Below B w0 w

theorem RM.ne {B : Nat} {w0 w : World} {br bm : Nat} {l : List UInt8} {E : Int} (h : RM B w0 w br bm l E) : br ≠ bm := by
  intro e
  have h1 := h.rdr
  have h2 := h.mdl
  unfold IsR at h1
  unfold IsM at h2
  rw [e, h2] at h1
  simp at h1

theorem IsR.fr {S : Nat → Prop} {w w' : World} {b : Nat} {l : List UInt8} {E : Int} (h : IsR w b l E) (hf : Fr S w w') (hb : ¬ S b) : IsR w' b l E := hf.blk h hb
theorem IsM.fr {S : Nat → Prop} {w w' : World} {b : Nat} {l : List UInt8} {E : Int} (h : IsM w b l E) (hf : Fr S w w') (hb : ¬ S b) : IsM w' b l E := hf.blk h hb

theorem two_fr {br bm : Nat} {w w1 w2 : World} (h1 : Fr (fun k => k = br) w w1) (h2 : Fr (fun k => k = bm) w1 w2) : Fr (fun k => k = br ∨ k = bm) w w2 :=
  h1.trans h2 (fun _ _ h => .inl h) (fun _ _ h => .inr h)

theorem alloc_fr {w : World} (o : Obj) : Fr (fun _ => False) w (w.alloc o) := (Fr.refl _ w).alloc o

set_option maxHeartbeats 1000000 in
theorem same_calls {w : World} {br bm : Nat} {l : List UInt8} {E : Int} (hR : IsR w br l E) (hM : IsM w bm l E) (hne : br ≠ bm) (hl : l.length ≤ 9223372036854775807) (x : It) (hx : x.Ok) :
    Calls Try.prog 19 #[.pointer (some ⟨br, 0, none⟩), .pointer (some ⟨bm, 0, none⟩), .agg x.val] w fun e w' => e = .returned (.bool true) ∧
      IsR w' br (sstep l E x).1 (sstep l E x).2 ∧ IsM w' bm (sstep l E x).1 (sstep l E x).2 ∧ Fr (fun k => k = br ∨ k = bm) w w' := by
  obtain ⟨K, U, N, S⟩ := x
  obtain ⟨hk0, hk1, hu0, hu1, hn0, hn1, hs⟩ := hx
  simp only [It.val]
  simp only at hk0 hk1 hu0 hu1 hn0 hn1 hs
  have hc : K % 4 = 0 ∨ K % 4 = 1 ∨ K % 4 = 2 ∨ K % 4 = 3 := by omega
  have hf2 : Fr (fun k => k = br ∨ k = bm) w ((w.alloc (.cells #[.int .i64 K, .int .u64 U, .int .i64 N, .string S] 31)).alloc (.cells #[.int .i64 K, .int .u64 U, .int .i64 N, .string S] 31)) := ((Fr.refl _ w).alloc _).alloc _
  have hR2 : IsR ((w.alloc (.cells #[.int .i64 K, .int .u64 U, .int .i64 N, .string S] 31)).alloc (.cells #[.int .i64 K, .int .u64 U, .int .i64 N, .string S] 31)) br l E := (hR.fr (alloc_fr _) (fun h => h)).fr (alloc_fr _) (fun h => h)
  have hM2 : IsM ((w.alloc (.cells #[.int .i64 K, .int .u64 U, .int .i64 N, .string S] 31)).alloc (.cells #[.int .i64 K, .int .u64 U, .int .i64 N, .string S] 31)) bm l E := (hM.fr (alloc_fr _) (fun h => h)).fr (alloc_fr _) (fun h => h)
  clear hR hM
  rcases hc with hc | hc | hc | hc
  · have e : sstep l E ⟨K, U, N, S⟩ = (rnum l E).2 := by simp [sstep, hc]
    rw [e]
    have hk0' : (K % 4 == 0) = true := beq_iff_eq.2 hc
    clear hc e
    go_enter Try.func19, Try.ntmps19
    go_wp2_with (first | (go_at_call 23; refine (kind_calls K U N S hk0 hk1 _).mono ?_; rintro e w' ⟨rfl, rfl⟩) | (go_at_call 24; refine (rnum_calls hR2 hl).mono ?_; rintro e w3 ⟨rfl, hR3, hF3⟩; have hM3 := hM2.fr hF3 (fun h => hne h.symm)) | (go_at_call 36; refine (mnum_calls hM3 hl).mono ?_; rintro e w4 ⟨rfl, hM4, hF4⟩))
    go_ret
    exact ⟨by simp, hR3.fr hF4 (fun h => hne h), hM4, hf2.trans (two_fr hF3 hF4) (fun _ _ h => h) (fun _ _ h => h)⟩
  · have e : sstep l E ⟨K, U, N, S⟩ = (rnum l E).2 := by simp [sstep, hc]
    rw [e]
    have hk0' : (K % 4 == 0) = false := beq_eq_false_iff_ne.2 (by omega)
    have hk1' : (K % 4 == 1) = true := beq_iff_eq.2 hc
    clear hc e
    go_enter Try.func19, Try.ntmps19
    go_wp2_with (first | (go_at_call 23; refine (kind_calls K U N S hk0 hk1 _).mono ?_; rintro e w' ⟨rfl, rfl⟩) | (go_at_call 25; refine (rint_calls hR2 hl).mono ?_; rintro e w3 ⟨rfl, hR3, hF3⟩; have hM3 := hM2.fr hF3 (fun h => hne h.symm)) | (go_at_call 37; refine (mint_calls hM3 hl).mono ?_; rintro e w4 ⟨rfl, hM4, hF4⟩))
    go_ret
    exact ⟨by simp, hR3.fr hF4 (fun h => hne h), hM4, hf2.trans (two_fr hF3 hF4) (fun _ _ h => h) (fun _ _ h => h)⟩
  · have e : sstep l E ⟨K, U, N, S⟩ = (rbyte l E).2 := by simp [sstep, hc]
    rw [e]
    have hk0' : (K % 4 == 0) = false := beq_eq_false_iff_ne.2 (by omega)
    have hk1' : (K % 4 == 1) = false := beq_eq_false_iff_ne.2 (by omega)
    have hk2' : (K % 4 == 2) = true := beq_iff_eq.2 hc
    clear hc e
    go_enter Try.func19, Try.ntmps19
    go_wp2_with (first | (go_at_call 23; refine (kind_calls K U N S hk0 hk1 _).mono ?_; rintro e w' ⟨rfl, rfl⟩) | (go_at_call 26; refine (rbyte_calls hR2 hl).mono ?_; rintro e w3 ⟨rfl, hR3, hF3⟩; have hM3 := hM2.fr hF3 (fun h => hne h.symm)) | (go_at_call 38; refine (mbyte_calls hM3 hl).mono ?_; rintro e w4 ⟨rfl, hM4, hF4⟩))
    go_ret
    exact ⟨by simp, hR3.fr hF4 (fun h => hne h), hM4, hf2.trans (two_fr hF3 hF4) (fun _ _ h => h) (fun _ _ h => h)⟩
  · have e : sstep l E ⟨K, U, N, S⟩ = (rtext l E).2 := by simp [sstep, hc]
    rw [e]
    have hk0' : (K % 4 == 0) = false := beq_eq_false_iff_ne.2 (by omega)
    have hk1' : (K % 4 == 1) = false := beq_eq_false_iff_ne.2 (by omega)
    have hk2' : (K % 4 == 2) = false := beq_eq_false_iff_ne.2 (by omega)
    clear hc e
    go_enter Try.func19, Try.ntmps19
    go_wp2_with (first | (go_at_call 23; refine (kind_calls K U N S hk0 hk1 _).mono ?_; rintro e w' ⟨rfl, rfl⟩) | (go_at_call 27; refine (rtext_calls hR2 hl).mono ?_; rintro e w3 ⟨rfl, hR3, hF3⟩; have hM3 := hM2.fr hF3 (fun h => hne h.symm)) | (go_at_call 39; refine (mtext_calls hM3 hl).mono ?_; rintro e w4 ⟨rfl, hM4, hF4⟩))
    go_ret
    exact ⟨by simp, hR3.fr hF4 (fun h => hne h), hM4, hf2.trans (two_fr hF3 hF4) (fun _ _ h => h) (fun _ _ h => h)⟩
end Go.Proofs.Ytcfadbogcoocoaa
