/-
  Read of the reference of layer 4.
-/
import Derived.Test.YthdpgachdegcgaaInRef
import Derived.Test.YthdpgachdegcgaaInReadI
import Derived.Test.YthdpgachdegcgaaRefRd
namespace Go.Proofs.Ythdpgachdegcgaa
open Go.RowKit
set_option linter.unusedVariables false
set_option maxRecDepth 100000

theorem IsM.fr {S : Nat → Prop} {w w' : World} {b : Nat} {l : List UInt8} {E : Int} (h : IsM w b l E) (hf : Fr S w w') (hb : ¬ S b) : IsM w' b l E := hf.blk h hb
theorem IsM.lt {w : World} {b : Nat} {l : List UInt8} {E : Int} (h : IsM w b l E) : b < w.heap.size := lt_of_blk h
theorem IsM.c0 {w : World} {b : Nat} {l : List UInt8} {E : Int} (h : IsM w b l E) : w.cell? ⟨b, 0, none⟩ = some (.string (ba l)) := cell_at h 0
theorem IsM.c1 {w : World} {b : Nat} {l : List UInt8} {E : Int} (h : IsM w b l E) : w.cell? ⟨b, 1, none⟩ = some (.int .i64 E) := cell_at h 1

set_option maxHeartbeats 2000000 in
theorem xread_nil (s : ByteArray) (w : World) (hs : s.size ≤ 9223372036854775807) (hl : s.data.toList = []) :
    Calls Try.prog 38 #[.string s] w fun e w' => e = .returned (.tuple #[insV 0 0, .int .i64 0, .int .i64 2]) ∧ Fr (fun _ => False) w w' := by
  have hlen : s.data.toList.length = s.size := by simp
  have hll : s.data.toList.length ≤ 9223372036854775807 := by omega
  have hr1 : InsAt (w.alloc (.cells #[.int .i64 0, .int .i64 0] 37)) w.heap.size 0 0 := blk_new w _
  have hf1 : Fr (fun _ => False) w (w.alloc (.cells #[.int .i64 0, .int .i64 0] 37)) := (Fr.refl _ w).alloc _
  have hM2 : IsM ((w.alloc (.cells #[.int .i64 0, .int .i64 0] 37)).alloc (.cells #[.string s, .int .i64 0] 55)) (w.heap.size + 1) s.data.toList 0 := by
    unfold IsM
    rw [ba_of]
    have := blk_new (w.alloc (.cells #[.int .i64 0, .int .i64 0] 37)) (.cells #[.string s, .int .i64 0] 55)
    simpa using this
  have hr2 := hr1.fr ((Fr.refl (fun _ => False) _).alloc (.cells #[.string s, .int .i64 0] 55)) (fun h => h)
  have hf2 := hf1.alloc (.cells #[.string s, .int .i64 0] 55)
  clear hr1 hf1 hlen
  rw [hl] at hM2 hll
  have hba : ba ([]) = s := by rw [← hl, ba_of]
  have HBA := hide hba
  clear hba
  have HB : Hid (rbyte [] 0 = (0, [], 2)) := rfl
  clear hl
  go_enter Try.func38, Try.ntmps38
  go_wp2_with (first
    | (go_at_call 16; refine (mbyte_calls hM2 hll).mono ?_; rw [unhide HB]; rintro e w3 ⟨rfl, hM3, hF3⟩; have hr3 := hr2.fr hF3 (by omega); have hf3 := hf2.trans hF3 (T := fun _ => False) (fun _ _ h => h) (fun _ _ h => by omega); have hlt3 := hr3.lt; have hlm3 := hM3.lt; have c0 := hr3.c0; have c1 := hr3.c1; have f0 := hr3.f0; have f1 := hr3.f1; have m0 := hM3.c0; have m1 := hM3.c1; clear hF3 hM2 hr2 hf2))
  go_region_with (fail)
  all_goals go_wp2
  all_goals
    refine bodyPost_ret (results_ins3 rfl _ _ w.heap.size (0) (0) rfl ?_) rfl ⟨rfl, ?_⟩
    · exact ((hr3.set (0) (0)).fr ((Fr.refl (fun _ => False) _).alloc _) (fun h => h)).fr ((Fr.refl (fun _ => False) _).drew) (fun h => h)
    · exact (((hf3.setAt w.heap.size 0 _ (.inl (Nat.le_refl _))).setAt w.heap.size 1 _ (.inl (Nat.le_refl _))).alloc _).drew

set_option maxHeartbeats 2000000 in
theorem xread_noop (s : ByteArray) (w : World) (hs : s.size ≤ 9223372036854775807) {x : UInt8} {r : List UInt8} (hl : s.data.toList = x :: r) (hx : isOpB x.toNat = false) :
    Calls Try.prog 38 #[.string s] w fun e w' => e = .returned (.tuple #[insV 0 0, .int .i64 0, .int .i64 9]) ∧ Fr (fun _ => False) w w' := by
  have hlen : s.data.toList.length = s.size := by simp
  have hll : s.data.toList.length ≤ 9223372036854775807 := by omega
  have hr1 : InsAt (w.alloc (.cells #[.int .i64 0, .int .i64 0] 37)) w.heap.size 0 0 := blk_new w _
  have hf1 : Fr (fun _ => False) w (w.alloc (.cells #[.int .i64 0, .int .i64 0] 37)) := (Fr.refl _ w).alloc _
  have hM2 : IsM ((w.alloc (.cells #[.int .i64 0, .int .i64 0] 37)).alloc (.cells #[.string s, .int .i64 0] 55)) (w.heap.size + 1) s.data.toList 0 := by
    unfold IsM
    rw [ba_of]
    have := blk_new (w.alloc (.cells #[.int .i64 0, .int .i64 0] 37)) (.cells #[.string s, .int .i64 0] 55)
    simpa using this
  have hr2 := hr1.fr ((Fr.refl (fun _ => False) _).alloc (.cells #[.string s, .int .i64 0] 55)) (fun h => h)
  have hf2 := hf1.alloc (.cells #[.string s, .int .i64 0] 55)
  clear hr1 hf1 hlen
  rw [hl] at hM2 hll
  have hba : ba (x :: r) = s := by rw [← hl, ba_of]
  have HBA := hide hba
  clear hba
  have HB : Hid (rbyte (x :: r) 0 = (x.toNat, r, 0)) := rfl
  have hsz : s.size = r.length + 1 := by
    have := congrArg List.length hl
    simpa using this
  have hlr : r.length ≤ 9223372036854775807 := by omega
  have hx8 := x.toNat_lt
  have HX := hide hx
  clear hl hx
  generalize x.toNat = op at *
  go_enter Try.func38, Try.ntmps38
  go_wp2_with (first
    | (go_at_call 16; refine (mbyte_calls hM2 hll).mono ?_; rw [unhide HB]; rintro e w3 ⟨rfl, hM3, hF3⟩; have hr3 := hr2.fr hF3 (by omega); have hf3 := hf2.trans hF3 (T := fun _ => False) (fun _ _ h => h) (fun _ _ h => by omega); have hlt3 := hr3.lt; have hlm3 := hM3.lt; have c0 := hr3.c0; have c1 := hr3.c1; have f0 := hr3.f0; have f1 := hr3.f1; have m0 := hM3.c0; have m1 := hM3.c1; clear hF3 hM2 hr2 hf2)
    | (go_at_call 58; refine (xis_calls _ _).mono ?_; rw [unhide HX]; rintro e w' ⟨rfl, rfl⟩))
  exact bodyPost_ret (results_ins3 rfl _ _ w.heap.size 0 0 rfl ((hr3.set 0 0).fr ((Fr.refl (fun _ => False) _).alloc _) (fun h => h))) rfl ⟨rfl, ((hf3.setAt w.heap.size 0 _ (.inl (Nat.le_refl _))).setAt w.heap.size 1 _ (.inl (Nat.le_refl _))).alloc _⟩

set_option maxHeartbeats 2000000 in
theorem xread_plain (s : ByteArray) (w : World) (hs : s.size ≤ 9223372036854775807) {x : UInt8} {r : List UInt8} (hl : s.data.toList = x :: r) (hx : isOpB x.toNat = true) (hh : hasB x.toNat = false) :
    Calls Try.prog 38 #[.string s] w fun e w' => e = .returned (.tuple #[insV x.toNat 0, .int .i64 1, .int .i64 0]) ∧ Fr (fun _ => False) w w' := by
  have hlen : s.data.toList.length = s.size := by simp
  have hll : s.data.toList.length ≤ 9223372036854775807 := by omega
  have hr1 : InsAt (w.alloc (.cells #[.int .i64 0, .int .i64 0] 37)) w.heap.size 0 0 := blk_new w _
  have hf1 : Fr (fun _ => False) w (w.alloc (.cells #[.int .i64 0, .int .i64 0] 37)) := (Fr.refl _ w).alloc _
  have hM2 : IsM ((w.alloc (.cells #[.int .i64 0, .int .i64 0] 37)).alloc (.cells #[.string s, .int .i64 0] 55)) (w.heap.size + 1) s.data.toList 0 := by
    unfold IsM
    rw [ba_of]
    have := blk_new (w.alloc (.cells #[.int .i64 0, .int .i64 0] 37)) (.cells #[.string s, .int .i64 0] 55)
    simpa using this
  have hr2 := hr1.fr ((Fr.refl (fun _ => False) _).alloc (.cells #[.string s, .int .i64 0] 55)) (fun h => h)
  have hf2 := hf1.alloc (.cells #[.string s, .int .i64 0] 55)
  clear hr1 hf1 hlen
  rw [hl] at hM2 hll
  have hba : ba (x :: r) = s := by rw [← hl, ba_of]
  have HBA := hide hba
  clear hba
  have HB : Hid (rbyte (x :: r) 0 = (x.toNat, r, 0)) := rfl
  have hsz : s.size = r.length + 1 := by
    have := congrArg List.length hl
    simpa using this
  have hlr : r.length ≤ 9223372036854775807 := by omega
  have hx8 := x.toNat_lt
  have HX := hide hx
  clear hl hx
  have HH := hide hh
  have hn := no_number hh
  have HQ : Hid (rightB x.toNat 0 = true) := by
    refine (rightB_iff _ _).2 ⟨unhide HX, ?_, ?_⟩
    · rw [hn.1]; omega
    · rw [hn.2]; omega
  have HSUB : Hid (IntKind.i64.wrap ((s.size : Int) - ((ba r).size : Int)) = 1) := by
    show _ = _
    rw [ba_size, IntWalk.i64_left, w64 _ (by omega)]
    omega
  clear hh hn hsz
  generalize x.toNat = op at *
  go_enter Try.func38, Try.ntmps38
  go_wp2_with (first
    | (go_at_call 16; refine (mbyte_calls hM2 hll).mono ?_; rw [unhide HB]; rintro e w3 ⟨rfl, hM3, hF3⟩; have hr3 := hr2.fr hF3 (by omega); have hf3 := hf2.trans hF3 (T := fun _ => False) (fun _ _ h => h) (fun _ _ h => by omega); have hlt3 := hr3.lt; have hlm3 := hM3.lt; have c0 := hr3.c0; have c1 := hr3.c1; have f0 := hr3.f0; have f1 := hr3.f1; have m0 := hM3.c0; have m1 := hM3.c1; clear hF3 hM2 hr2 hf2; have hi4 : InsAt (w3.alloc (.cells #[.int .i64 op, .int .i64 0] 37)) w3.heap.size op 0 := blk_new w3 _; have hr4 := hr3.fr ((Fr.refl (fun _ => False) _).alloc (.cells #[.int .i64 op, .int .i64 0] 37)) (fun h => h); have hM4 := hM3.fr ((Fr.refl (fun _ => False) _).alloc (.cells #[.int .i64 op, .int .i64 0] 37)) (fun h => h); have hf4 := hf3.alloc (.cells #[.int .i64 op, .int .i64 0] 37))
    | (go_at_call 58; refine (xis_calls _ _).mono ?_; rw [unhide HX]; rintro e w' ⟨rfl, rfl⟩)
    | (go_at_call 59; refine (xhas_calls _ _).mono ?_; rw [unhide HH]; rintro e w' ⟨rfl, rfl⟩)
    | (go_at_call 60; refine (xright_calls _ _ _ (by omega)).mono ?_; rw [unhide HQ]; rintro e w6 ⟨rfl, hF6⟩; have hi6 := hi4.fr hF6 (fun h => h); have hr6 := hr4.fr hF6 (fun h => h); have hM6 := hM4.fr hF6 (fun h => h); have hf6 := hf4.trans hF6 (T := fun _ => False) (fun _ _ h => h) (fun _ _ h => h); have e0 := hr6.c0; have e1 := hr6.c1; have g0 := hr6.f0; have g1 := hr6.f1; have d0 := hi6.c0; have d1 := hi6.c1; have n0 := hM6.c0; have n1 := hM6.c1))
  clear hi4 hr4 hM4 hf4 c0 c1 f0 f1 m0 m1 hM3 hr3 hf3
  go_region_with (fail)
  all_goals go_wp2
  all_goals
    refine bodyPost_ret (results_ins3 rfl _ _ w.heap.size (op) (0) rfl ?_) rfl ⟨ret_ins3 (by exact unhide HSUB), ?_⟩
    · exact (hr6.set (op) (0)).fr ((Fr.refl (fun _ => False) _).drew) (fun h => h)
    · exact ((hf6.setAt w.heap.size 0 _ (.inl (Nat.le_refl _))).setAt w.heap.size 1 _ (.inl (Nat.le_refl _))).drew

set_option maxHeartbeats 2000000 in
theorem xread_err (s : ByteArray) (w : World) (hs : s.size ≤ 9223372036854775807) {x : UInt8} {r : List UInt8} (hl : s.data.toList = x :: r) (hx : isOpB x.toNat = true) (hh : hasB x.toNat = true) {n k er : Nat} (hr : rd r 0 0 = (n, k, er)) (he : er ≠ 0) :
    Calls Try.prog 38 #[.string s] w fun e w' => e = .returned (.tuple #[insV 0 0, .int .i64 0, .int .i64 er]) ∧ Fr (fun _ => False) w w' := by
  have hlen : s.data.toList.length = s.size := by simp
  have hll : s.data.toList.length ≤ 9223372036854775807 := by omega
  have hr1 : InsAt (w.alloc (.cells #[.int .i64 0, .int .i64 0] 37)) w.heap.size 0 0 := blk_new w _
  have hf1 : Fr (fun _ => False) w (w.alloc (.cells #[.int .i64 0, .int .i64 0] 37)) := (Fr.refl _ w).alloc _
  have hM2 : IsM ((w.alloc (.cells #[.int .i64 0, .int .i64 0] 37)).alloc (.cells #[.string s, .int .i64 0] 55)) (w.heap.size + 1) s.data.toList 0 := by
    unfold IsM
    rw [ba_of]
    have := blk_new (w.alloc (.cells #[.int .i64 0, .int .i64 0] 37)) (.cells #[.string s, .int .i64 0] 55)
    simpa using this
  have hr2 := hr1.fr ((Fr.refl (fun _ => False) _).alloc (.cells #[.string s, .int .i64 0] 55)) (fun h => h)
  have hf2 := hf1.alloc (.cells #[.string s, .int .i64 0] 55)
  clear hr1 hf1 hlen
  rw [hl] at hM2 hll
  have hba : ba (x :: r) = s := by rw [← hl, ba_of]
  have HBA := hide hba
  clear hba
  have HB : Hid (rbyte (x :: r) 0 = (x.toNat, r, 0)) := rfl
  have hsz : s.size = r.length + 1 := by
    have := congrArg List.length hl
    simpa using this
  have hlr : r.length ≤ 9223372036854775807 := by omega
  have hx8 := x.toNat_lt
  have HX := hide hx
  clear hl hx
  have HH := hide hh
  have HN : Hid (rnum r 0 = (n, r.drop k, (er : Int))) := by
    show _ = _
    simp [rnum, hr]
  have he' : ((er : Int) != 0) = true := bne_iff_ne.2 (by omega)
  clear hh hr he hsz
  generalize x.toNat = op at *
  go_enter Try.func38, Try.ntmps38
  go_wp2_with (first
    | (go_at_call 16; refine (mbyte_calls hM2 hll).mono ?_; rw [unhide HB]; rintro e w3 ⟨rfl, hM3, hF3⟩; have hr3 := hr2.fr hF3 (by omega); have hf3 := hf2.trans hF3 (T := fun _ => False) (fun _ _ h => h) (fun _ _ h => by omega); have hlt3 := hr3.lt; have hlm3 := hM3.lt; have c0 := hr3.c0; have c1 := hr3.c1; have f0 := hr3.f0; have f1 := hr3.f1; have m0 := hM3.c0; have m1 := hM3.c1; clear hF3 hM2 hr2 hf2; have hi4 : InsAt (w3.alloc (.cells #[.int .i64 op, .int .i64 0] 37)) w3.heap.size op 0 := blk_new w3 _; have hr4 := hr3.fr ((Fr.refl (fun _ => False) _).alloc (.cells #[.int .i64 op, .int .i64 0] 37)) (fun h => h); have hM4 := hM3.fr ((Fr.refl (fun _ => False) _).alloc (.cells #[.int .i64 op, .int .i64 0] 37)) (fun h => h); have hf4 := hf3.alloc (.cells #[.int .i64 op, .int .i64 0] 37))
    | (go_at_call 58; refine (xis_calls _ _).mono ?_; rw [unhide HX]; rintro e w' ⟨rfl, rfl⟩)
    | (go_at_call 59; refine (xhas_calls _ _).mono ?_; rw [unhide HH]; rintro e w' ⟨rfl, rfl⟩)
    | (go_at_call 39; refine (mint_calls hM4 hlr).mono ?_; rw [unhide HN]; rintro e w5 ⟨rfl, hM5, hF5⟩; have hi5 := hi4.fr hF5 (by omega); have hr5 := hr4.fr hF5 (by omega); have hf5 := hf4.trans hF5 (T := fun _ => False) (fun _ _ h => h) (fun _ _ h => by omega); have b0 := hi5.c0; have b1 := hi5.c1; have bf := hi5.f1; have q0 := hr5.c0; have q1 := hr5.c1; have p0 := hr5.f0; have p1 := hr5.f1; have o0 := hM5.c0; have o1 := hM5.c1; have hi5' := hi5.set1 (sgn n); have hF5' : Fr (fun k => k = w3.heap.size) w5 (w5.setCell ⟨w3.heap.size, 1, none⟩ (.int .i64 (sgn n))) := Fr.set1 _ _ _ _; have hr5' := hr5.fr hF5' (by omega); have hM5' := hM5.fr hF5' (by omega); have hf5' := hf5.setAt w3.heap.size 1 (.int .i64 (sgn n)) (.inl (Nat.le_of_lt hlt3)); clear hF5' hF5))
  clear hi4 hr4 hM4 hf4 c0 c1 f0 f1 m0 m1 hM3 hr3 hf3 hi5 hf5 hM5
  go_region_with (fail)
  all_goals go_wp2
  all_goals
    refine bodyPost_ret (results_ins3 rfl _ _ w.heap.size (0) (0) rfl ?_) rfl ⟨rfl, ?_⟩
    · exact (hr5'.set (0) (0)).fr ((Fr.refl (fun _ => False) _).drew) (fun h => h)
    · exact ((hf5'.setAt w.heap.size 0 _ (.inl (Nat.le_refl _))).setAt w.heap.size 1 _ (.inl (Nat.le_refl _))).drew

set_option maxHeartbeats 2000000 in
theorem xread_wrong (s : ByteArray) (w : World) (hs : s.size ≤ 9223372036854775807) {x : UInt8} {r : List UInt8} (hl : s.data.toList = x :: r) (hx : isOpB x.toNat = true) (hh : hasB x.toNat = true) {n k : Nat} (hr : rd r 0 0 = (n, k, 0)) (hq : rightB x.toNat (sgn n) = false) :
    Calls Try.prog 38 #[.string s] w fun e w' => e = .returned (.tuple #[insV 0 0, .int .i64 0, .int .i64 4]) ∧ Fr (fun _ => False) w w' := by
  have hlen : s.data.toList.length = s.size := by simp
  have hll : s.data.toList.length ≤ 9223372036854775807 := by omega
  have hr1 : InsAt (w.alloc (.cells #[.int .i64 0, .int .i64 0] 37)) w.heap.size 0 0 := blk_new w _
  have hf1 : Fr (fun _ => False) w (w.alloc (.cells #[.int .i64 0, .int .i64 0] 37)) := (Fr.refl _ w).alloc _
  have hM2 : IsM ((w.alloc (.cells #[.int .i64 0, .int .i64 0] 37)).alloc (.cells #[.string s, .int .i64 0] 55)) (w.heap.size + 1) s.data.toList 0 := by
    unfold IsM
    rw [ba_of]
    have := blk_new (w.alloc (.cells #[.int .i64 0, .int .i64 0] 37)) (.cells #[.string s, .int .i64 0] 55)
    simpa using this
  have hr2 := hr1.fr ((Fr.refl (fun _ => False) _).alloc (.cells #[.string s, .int .i64 0] 55)) (fun h => h)
  have hf2 := hf1.alloc (.cells #[.string s, .int .i64 0] 55)
  clear hr1 hf1 hlen
  rw [hl] at hM2 hll
  have hba : ba (x :: r) = s := by rw [← hl, ba_of]
  have HBA := hide hba
  clear hba
  have HB : Hid (rbyte (x :: r) 0 = (x.toNat, r, 0)) := rfl
  have hsz : s.size = r.length + 1 := by
    have := congrArg List.length hl
    simpa using this
  have hlr : r.length ≤ 9223372036854775807 := by omega
  have hx8 := x.toNat_lt
  have HX := hide hx
  clear hl hx
  have HH := hide hh
  have HN : Hid (rnum r 0 = (n, r.drop k, (0 : Int))) := by
    show _ = _
    simp [rnum, hr]
  have hsg := sgn_fits n (by have := rd_lt r 0 0 (by omega) (by simp); rw [hr] at this; exact this)
  have HQ := hide hq
  clear hh hq hr hsz
  generalize x.toNat = op at *
  go_enter Try.func38, Try.ntmps38
  go_wp2_with (first
    | (go_at_call 16; refine (mbyte_calls hM2 hll).mono ?_; rw [unhide HB]; rintro e w3 ⟨rfl, hM3, hF3⟩; have hr3 := hr2.fr hF3 (by omega); have hf3 := hf2.trans hF3 (T := fun _ => False) (fun _ _ h => h) (fun _ _ h => by omega); have hlt3 := hr3.lt; have hlm3 := hM3.lt; have c0 := hr3.c0; have c1 := hr3.c1; have f0 := hr3.f0; have f1 := hr3.f1; have m0 := hM3.c0; have m1 := hM3.c1; clear hF3 hM2 hr2 hf2; have hi4 : InsAt (w3.alloc (.cells #[.int .i64 op, .int .i64 0] 37)) w3.heap.size op 0 := blk_new w3 _; have hr4 := hr3.fr ((Fr.refl (fun _ => False) _).alloc (.cells #[.int .i64 op, .int .i64 0] 37)) (fun h => h); have hM4 := hM3.fr ((Fr.refl (fun _ => False) _).alloc (.cells #[.int .i64 op, .int .i64 0] 37)) (fun h => h); have hf4 := hf3.alloc (.cells #[.int .i64 op, .int .i64 0] 37))
    | (go_at_call 58; refine (xis_calls _ _).mono ?_; rw [unhide HX]; rintro e w' ⟨rfl, rfl⟩)
    | (go_at_call 59; refine (xhas_calls _ _).mono ?_; rw [unhide HH]; rintro e w' ⟨rfl, rfl⟩)
    | (go_at_call 39; refine (mint_calls hM4 hlr).mono ?_; rw [unhide HN]; rintro e w5 ⟨rfl, hM5, hF5⟩; have hi5 := hi4.fr hF5 (by omega); have hr5 := hr4.fr hF5 (by omega); have hf5 := hf4.trans hF5 (T := fun _ => False) (fun _ _ h => h) (fun _ _ h => by omega); have b0 := hi5.c0; have b1 := hi5.c1; have bf := hi5.f1; have q0 := hr5.c0; have q1 := hr5.c1; have p0 := hr5.f0; have p1 := hr5.f1; have o0 := hM5.c0; have o1 := hM5.c1; have hi5' := hi5.set1 (sgn n); have hF5' : Fr (fun k => k = w3.heap.size) w5 (w5.setCell ⟨w3.heap.size, 1, none⟩ (.int .i64 (sgn n))) := Fr.set1 _ _ _ _; have hr5' := hr5.fr hF5' (by omega); have hM5' := hM5.fr hF5' (by omega); have hf5' := hf5.setAt w3.heap.size 1 (.int .i64 (sgn n)) (.inl (Nat.le_of_lt hlt3)); clear hF5' hF5)
    | (go_at_call 60; refine (xright_calls _ _ _ hsg).mono ?_; rw [unhide HQ]; rintro e w6 ⟨rfl, hF6⟩; have hi6 := hi5'.fr hF6 (fun h => h); have hr6 := hr5'.fr hF6 (fun h => h); have hM6 := hM5'.fr hF6 (fun h => h); have hf6 := hf5'.trans hF6 (T := fun _ => False) (fun _ _ h => h) (fun _ _ h => h); have e0 := hr6.c0; have e1 := hr6.c1; have g0 := hr6.f0; have g1 := hr6.f1; have d0 := hi6.c0; have d1 := hi6.c1; have n0 := hM6.c0; have n1 := hM6.c1))
  exact bodyPost_ret (results_ins3 rfl _ _ w.heap.size 0 0 rfl (hr6.set 0 0)) rfl ⟨rfl, (hf6.setAt w.heap.size 0 _ (.inl (Nat.le_refl _))).setAt w.heap.size 1 _ (.inl (Nat.le_refl _))⟩

set_option maxHeartbeats 2000000 in
theorem xread_num (s : ByteArray) (w : World) (hs : s.size ≤ 9223372036854775807) {x : UInt8} {r : List UInt8} (hl : s.data.toList = x :: r) (hx : isOpB x.toNat = true) (hh : hasB x.toNat = true) {n k : Nat} (hr : rd r 0 0 = (n, k, 0)) (hq : rightB x.toNat (sgn n) = true) :
    Calls Try.prog 38 #[.string s] w fun e w' => e = .returned (.tuple #[insV x.toNat (sgn n), .int .i64 ((1 + k : Nat) : Int), .int .i64 0]) ∧ Fr (fun _ => False) w w' := by
  have hlen : s.data.toList.length = s.size := by simp
  have hll : s.data.toList.length ≤ 9223372036854775807 := by omega
  have hr1 : InsAt (w.alloc (.cells #[.int .i64 0, .int .i64 0] 37)) w.heap.size 0 0 := blk_new w _
  have hf1 : Fr (fun _ => False) w (w.alloc (.cells #[.int .i64 0, .int .i64 0] 37)) := (Fr.refl _ w).alloc _
  have hM2 : IsM ((w.alloc (.cells #[.int .i64 0, .int .i64 0] 37)).alloc (.cells #[.string s, .int .i64 0] 55)) (w.heap.size + 1) s.data.toList 0 := by
    unfold IsM
    rw [ba_of]
    have := blk_new (w.alloc (.cells #[.int .i64 0, .int .i64 0] 37)) (.cells #[.string s, .int .i64 0] 55)
    simpa using this
  have hr2 := hr1.fr ((Fr.refl (fun _ => False) _).alloc (.cells #[.string s, .int .i64 0] 55)) (fun h => h)
  have hf2 := hf1.alloc (.cells #[.string s, .int .i64 0] 55)
  clear hr1 hf1 hlen
  rw [hl] at hM2 hll
  have hba : ba (x :: r) = s := by rw [← hl, ba_of]
  have HBA := hide hba
  clear hba
  have HB : Hid (rbyte (x :: r) 0 = (x.toNat, r, 0)) := rfl
  have hsz : s.size = r.length + 1 := by
    have := congrArg List.length hl
    simpa using this
  have hlr : r.length ≤ 9223372036854775807 := by omega
  have hx8 := x.toNat_lt
  have HX := hide hx
  clear hl hx
  have HH := hide hh
  have HN : Hid (rnum r 0 = (n, r.drop k, (0 : Int))) := by
    show _ = _
    simp [rnum, hr]
  have hsg := sgn_fits n (by have := rd_lt r 0 0 (by omega) (by simp); rw [hr] at this; exact this)
  have HQ := hide hq
  have HSUB : Hid (IntKind.i64.wrap ((s.size : Int) - ((ba (r.drop k)).size : Int)) = ((1 + k : Nat) : Int)) := by
    show _ = _
    have hk := rd_size r 0 0
    rw [hr] at hk
    simp only at hk
    rw [ba_size, List.length_drop, IntWalk.i64_left, w64 _ (by omega)]
    omega
  clear hh hq hr hsz
  generalize x.toNat = op at *
  generalize ((1 + k : Nat) : Int) = res at *
  go_enter Try.func38, Try.ntmps38
  go_wp2_with (first
    | (go_at_call 16; refine (mbyte_calls hM2 hll).mono ?_; rw [unhide HB]; rintro e w3 ⟨rfl, hM3, hF3⟩; have hr3 := hr2.fr hF3 (by omega); have hf3 := hf2.trans hF3 (T := fun _ => False) (fun _ _ h => h) (fun _ _ h => by omega); have hlt3 := hr3.lt; have hlm3 := hM3.lt; have c0 := hr3.c0; have c1 := hr3.c1; have f0 := hr3.f0; have f1 := hr3.f1; have m0 := hM3.c0; have m1 := hM3.c1; clear hF3 hM2 hr2 hf2; have hi4 : InsAt (w3.alloc (.cells #[.int .i64 op, .int .i64 0] 37)) w3.heap.size op 0 := blk_new w3 _; have hr4 := hr3.fr ((Fr.refl (fun _ => False) _).alloc (.cells #[.int .i64 op, .int .i64 0] 37)) (fun h => h); have hM4 := hM3.fr ((Fr.refl (fun _ => False) _).alloc (.cells #[.int .i64 op, .int .i64 0] 37)) (fun h => h); have hf4 := hf3.alloc (.cells #[.int .i64 op, .int .i64 0] 37))
    | (go_at_call 58; refine (xis_calls _ _).mono ?_; rw [unhide HX]; rintro e w' ⟨rfl, rfl⟩)
    | (go_at_call 59; refine (xhas_calls _ _).mono ?_; rw [unhide HH]; rintro e w' ⟨rfl, rfl⟩)
    | (go_at_call 39; refine (mint_calls hM4 hlr).mono ?_; rw [unhide HN]; rintro e w5 ⟨rfl, hM5, hF5⟩; have hi5 := hi4.fr hF5 (by omega); have hr5 := hr4.fr hF5 (by omega); have hf5 := hf4.trans hF5 (T := fun _ => False) (fun _ _ h => h) (fun _ _ h => by omega); have b0 := hi5.c0; have b1 := hi5.c1; have bf := hi5.f1; have q0 := hr5.c0; have q1 := hr5.c1; have p0 := hr5.f0; have p1 := hr5.f1; have o0 := hM5.c0; have o1 := hM5.c1; have hi5' := hi5.set1 (sgn n); have hF5' : Fr (fun k => k = w3.heap.size) w5 (w5.setCell ⟨w3.heap.size, 1, none⟩ (.int .i64 (sgn n))) := Fr.set1 _ _ _ _; have hr5' := hr5.fr hF5' (by omega); have hM5' := hM5.fr hF5' (by omega); have hf5' := hf5.setAt w3.heap.size 1 (.int .i64 (sgn n)) (.inl (Nat.le_of_lt hlt3)); clear hF5' hF5)
    | (go_at_call 60; refine (xright_calls _ _ _ hsg).mono ?_; rw [unhide HQ]; rintro e w6 ⟨rfl, hF6⟩; have hi6 := hi5'.fr hF6 (fun h => h); have hr6 := hr5'.fr hF6 (fun h => h); have hM6 := hM5'.fr hF6 (fun h => h); have hf6 := hf5'.trans hF6 (T := fun _ => False) (fun _ _ h => h) (fun _ _ h => h); have e0 := hr6.c0; have e1 := hr6.c1; have g0 := hr6.f0; have g1 := hr6.f1; have d0 := hi6.c0; have d1 := hi6.c1; have n0 := hM6.c0; have n1 := hM6.c1))
  clear hi4 hr4 hM4 hf4 c0 c1 f0 f1 m0 m1 hM3 hr3 hf3 hi5 hf5 hM5 hi5' hr5' hM5' hf5' b0 b1 bf q0 q1 p0 p1 o0 o1 hr5
  go_region_with (fail)
  all_goals go_wp2
  all_goals
    refine bodyPost_ret (results_ins3 rfl _ _ w.heap.size (op) (sgn n) rfl ?_) rfl ⟨ret_ins3 (by exact unhide HSUB), ?_⟩
    · exact (hr6.set (op) (sgn n)).fr ((Fr.refl (fun _ => False) _).drew) (fun h => h)
    · exact ((hf6.setAt w.heap.size 0 _ (.inl (Nat.le_refl _))).setAt w.heap.size 1 _ (.inl (Nat.le_refl _))).drew

theorem xread_calls (s : ByteArray) (w : World) (hs : s.size ≤ 9223372036854775807) :
    Calls Try.prog 38 #[.string s] w fun e w' => e = .returned (.tuple #[insV (readN s.data.toList).1 (readN s.data.toList).2.1, .int .i64 (readN s.data.toList).2.2.1, .int .i64 (readN s.data.toList).2.2.2]) ∧ Fr (fun _ => False) w w' := by
  cases hl : s.data.toList with
  | nil => exact xread_nil s w hs hl
  | cons x r =>
    rw [readN]
    cases hx : isOpB x.toNat
    · exact xread_noop s w hs hl hx
    · cases hh : hasB x.toNat
      · exact xread_plain s w hs hl hx hh
      · obtain ⟨n, k, er, hr⟩ : ∃ n k er, rd r 0 0 = (n, k, er) := ⟨_, _, _, rfl⟩
        rw [hr]
        simp only [Bool.true_eq_false, if_false]
        by_cases he : er = 0
        · subst he
          rw [if_neg (by simp)]
          cases hq : rightB x.toNat (sgn n)
          · exact xread_wrong s w hs hl hx hh hr hq
          · exact xread_num s w hs hl hx hh hr hq
        · rw [if_pos he]
          exact xread_err s w hs hl hx hh hr he

end Go.Proofs.Ythdpgachdegcgaa
