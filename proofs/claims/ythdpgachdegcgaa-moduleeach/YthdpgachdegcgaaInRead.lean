/-
  next and Read of package instr.
-/
import Derived.Test.YthdpgachdegcgaaInCalls
import Derived.Test.YthdpgachdegcgaaRdCalls
import Derived.Laws.ResultCell
import Derived.Deep.RegionWith
namespace Go.Proofs.Ythdpgachdegcgaa
open Go.RowKit
set_option linter.unusedVariables false
set_option maxRecDepth 8192

/-- an instruction in a block of its own -/
def InsAt (w : World) (b : Nat) (op a : Int) : Prop := w.heap[b]? = some (.cells #[.int .i64 op, .int .i64 a] 37 (0, 0))

theorem InsAt.fr {S : Nat → Prop} {w w' : World} {b : Nat} {op a : Int} (h : InsAt w b op a) (hf : Fr S w w') (hb : ¬ S b) : InsAt w' b op a := hf.blk h hb
theorem InsAt.lt {w : World} {b : Nat} {op a : Int} (h : InsAt w b op a) : b < w.heap.size := lt_of_blk h
theorem IsR.fr {S : Nat → Prop} {w w' : World} {b : Nat} {l : List UInt8} {E : Int} (h : IsR w b l E) (hf : Fr S w w') (hb : ¬ S b) : IsR w' b l E := hf.blk h hb
theorem IsR.lt {w : World} {b : Nat} {l : List UInt8} {E : Int} (h : IsR w b l E) : b < w.heap.size := lt_of_blk h
theorem InsAt.c0 {w : World} {b : Nat} {op a : Int} (h : InsAt w b op a) : w.cell? ⟨b, 0, none⟩ = some (.int .i64 op) := cell_at h 0
theorem InsAt.c1 {w : World} {b : Nat} {op a : Int} (h : InsAt w b op a) : w.cell? ⟨b, 1, none⟩ = some (.int .i64 a) := cell_at h 1
theorem InsAt.f0 {w : World} {b : Nat} {op a : Int} (h : InsAt w b op a) : w.frozen? ⟨b, 0, none⟩ = false := free_at h 0
theorem InsAt.f1 {w : World} {b : Nat} {op a : Int} (h : InsAt w b op a) : w.frozen? ⟨b, 1, none⟩ = false := free_at h 1
theorem InsAt.set {w : World} {b : Nat} {op a : Int} (h : InsAt w b op a) (op' a' : Int) : InsAt ((w.setCell ⟨b, 0, none⟩ (.int .i64 op')).setCell ⟨b, 1, none⟩ (.int .i64 a')) b op' a' := by
  have h1 := blk_setCell (i := 0) (u := .int .i64 op') h
  have h2 := blk_setCell (i := 1) (u := .int .i64 a') h1
  exact h2
theorem InsAt.set1 {w : World} {b : Nat} {op a : Int} (h : InsAt w b op a) (a' : Int) : InsAt (w.setCell ⟨b, 1, none⟩ (.int .i64 a')) b op a' := by
  have h1 := blk_setCell (i := 1) (u := .int .i64 a') h
  exact h1

theorem load_ins {w : World} {b : Nat} {op a : Int} (h : InsAt w b op a) :
    (loadVar 37 ⟨b, 0, none⟩).run Try.prog w = .ok (insV op a) w := by
  refine run_loadVar_mid w b 0 37 [.int .i64 op, .int .i64 a] _ ?_ Try.underlying37 rfl (by kernel_rfl)
  intro j v hv
  match j, hv with
  | 0, hv => simpa using h.c0.trans hv
  | 1, hv => simpa using h.c1.trans hv

theorem results_ins2 {fn : Func} {p u : Tmp} (h : fn.results = #[.cell p 37, .tmp u]) (tmps : Array Value) (w : World) (b : Nat) (op a : Int) (hp : tmps.getD p undef = .pointer (some ⟨b, 0, none⟩))
    (hb : InsAt w b op a) : (results fn tmps).run Try.prog w = .ok (.tuple #[insV op a, tmps.getD u undef]) w := by
  rw [results_cell_tmp h, hp]
  have := load_ins hb
  simp only [asAddr, Sem.run_pure, Result.andThen_ok, this]

theorem results_ins3 {fn : Func} {p u v : Tmp} (h : fn.results = #[.cell p 37, .tmp u, .tmp v]) (tmps : Array Value) (w : World) (b : Nat) (op a : Int) (hp : tmps.getD p undef = .pointer (some ⟨b, 0, none⟩))
    (hb : InsAt w b op a) : (results fn tmps).run Try.prog w = .ok (.tuple #[insV op a, tmps.getD u undef, tmps.getD v undef]) w := by
  have e : (results fn tmps).run Try.prog w = ((asAddr (tmps.getD p undef)).run Try.prog w).andThen fun a w₁ => ((loadVar 37 a).run Try.prog w₁).andThen fun x w₂ => .ok (.tuple #[x, tmps.getD u undef, tmps.getD v undef]) w₂ := by
    simp only [results, h]
    simp [Sem.run_bind, Result.andThen]
  have := load_ins hb
  rw [e, hp]
  simp only [asAddr, Sem.run_pure, Result.andThen_ok, this]

set_option maxHeartbeats 1000000 in
theorem next_nil {w : World} {b : Nat} (h : IsR w b [] 0) :
    Calls Try.prog 101 #[.pointer (some ⟨b, 0, none⟩)] w fun e w' => e = .returned (.tuple #[insV 0 0, .int .i64 2]) ∧ Fr (fun k => k = b) w w' := by
  go_enter Try.func101, Try.ntmps101
  go_wp2_with (first | (go_at_call 91; refine (left_calls (l := []) (E := 0) (IsR.fr h ((Fr.refl (fun _ => False) w).alloc _) (fun h => h))).mono ?_; rintro e w' ⟨rfl, rfl⟩))
  exact bodyPost_ret (results_ins2 rfl _ _ _ 0 0 rfl (blk_new w _)) rfl ⟨rfl, (Fr.refl _ w).alloc _⟩

set_option maxHeartbeats 2000000 in
theorem next_noop {w : World} {b : Nat} {x : UInt8} {r : List UInt8} (h : IsR w b (x :: r) 0) (hl : (x :: r).length ≤ 9223372036854775807) (hx : isOpB x.toNat = false) :
    Calls Try.prog 101 #[.pointer (some ⟨b, 0, none⟩)] w fun e w' => e = .returned (.tuple #[insV 0 0, .int .i64 9]) ∧ Fr (fun k => k = b) w w' := by
  have h1 : IsR (w.alloc (.cells #[.int .i64 0, .int .i64 0] 37)) b (x :: r) 0 := IsR.fr h ((Fr.refl (fun _ => False) w).alloc _) (fun h => h)
  have hr1 : InsAt (w.alloc (.cells #[.int .i64 0, .int .i64 0] 37)) w.heap.size 0 0 := blk_new w _
  have hlt := h.lt
  have hlen : (((x :: r).length : Nat) : Int) ≠ 0 := by simp only [List.length_cons]; omega
  have hlen' : ((((x :: r).length : Nat) : Int) == 0) = false := beq_eq_false_iff_ne.2 hlen
  clear hlen
  have HX := hide hx
  have HB : Hid (rbyte (x :: r) 0 = (x.toNat, r, 0)) := rfl
  have hf1 : Fr (fun k => k = b) w (w.alloc (.cells #[.int .i64 0, .int .i64 0] 37)) := (Fr.refl _ w).alloc _
  clear hx
  have hx8 := x.toNat_lt
  have hlr : r.length ≤ 9223372036854775807 := by simp only [List.length_cons] at hl; omega
  generalize x.toNat = op at *
  go_enter Try.func101, Try.ntmps101
  go_wp2_with (first
    | (go_at_call 91; refine (left_calls h1).mono ?_; rintro e w' ⟨rfl, rfl⟩)
    | (go_at_call 49; refine (rbyte_calls h1 hl).mono ?_; rw [unhide HB]; rintro e w2 ⟨rfl, hR2, hF2⟩; have hr2 := hr1.fr hF2 (by omega); have hf2 := hf1.trans hF2 (fun _ _ h => h) (fun _ _ h => h); have hlt2 := hr2.lt; have c0 := hr2.c0; have c1 := hr2.c1; have f0 := hr2.f0; have f1 := hr2.f1; clear hr1 hf1 hF2 h1)
    | (go_at_call 105; refine (isOp_calls _ _).mono ?_; rw [unhide HX]; rintro e w' ⟨rfl, rfl⟩))
  exact bodyPost_ret (results_ins2 rfl _ _ _ 0 0 rfl ((hr2.set 0 0).fr ((Fr.refl (fun _ => False) _).alloc _) (fun h => h))) rfl ⟨rfl, ((hf2.setAt w.heap.size 0 _ (.inl (Nat.le_refl _))).setAt w.heap.size 1 _ (.inl (Nat.le_refl _))).alloc _⟩

set_option maxHeartbeats 2000000 in
theorem next_plain {w : World} {b : Nat} {x : UInt8} {r : List UInt8} (h : IsR w b (x :: r) 0) (hl : (x :: r).length ≤ 9223372036854775807) (hx : isOpB x.toNat = true) (hh : hasB x.toNat = false) :
    Calls Try.prog 101 #[.pointer (some ⟨b, 0, none⟩)] w fun e w' => e = .returned (.tuple #[insV x.toNat 0, .int .i64 0]) ∧ IsR w' b r 0 ∧ Fr (fun k => k = b) w w' := by
  have h1 : IsR (w.alloc (.cells #[.int .i64 0, .int .i64 0] 37)) b (x :: r) 0 := IsR.fr h ((Fr.refl (fun _ => False) w).alloc _) (fun h => h)
  have hr1 : InsAt (w.alloc (.cells #[.int .i64 0, .int .i64 0] 37)) w.heap.size 0 0 := blk_new w _
  have hlt := h.lt
  have hlen : (((x :: r).length : Nat) : Int) ≠ 0 := by simp only [List.length_cons]; omega
  have hlen' : ((((x :: r).length : Nat) : Int) == 0) = false := beq_eq_false_iff_ne.2 hlen
  clear hlen
  have HX := hide hx
  have HB : Hid (rbyte (x :: r) 0 = (x.toNat, r, 0)) := rfl
  have hf1 : Fr (fun k => k = b) w (w.alloc (.cells #[.int .i64 0, .int .i64 0] 37)) := (Fr.refl _ w).alloc _
  clear hx
  have hx8 := x.toNat_lt
  have hlr : r.length ≤ 9223372036854775807 := by simp only [List.length_cons] at hl; omega
  have HH := hide hh
  have hn := no_number hh
  have HQ : Hid (rightB x.toNat 0 = true) := by
    refine (rightB_iff _ _).2 ⟨unhide HX, ?_, ?_⟩
    · rw [hn.1]; omega
    · rw [hn.2]; omega
  have HE : rend r 0 = 0 ∨ rend r 0 = 5 := by
    unfold rend
    by_cases hr : r = [] <;> simp [hr]
  clear hh hn
  generalize x.toNat = op at *
  rcases HE with hq | hq
  all_goals
    have HRE := hide hq
    clear hq
    go_enter Try.func101, Try.ntmps101
    go_wp2_with (first
      | (go_at_call 91; refine (left_calls h1).mono ?_; rintro e w' ⟨rfl, rfl⟩)
      | (go_at_call 49; refine (rbyte_calls h1 hl).mono ?_; rw [unhide HB]; rintro e w2 ⟨rfl, hR2, hF2⟩; have hr2 := hr1.fr hF2 (by omega); have hf2 := hf1.trans hF2 (fun _ _ h => h) (fun _ _ h => h); have hlt2 := hr2.lt; have c0 := hr2.c0; have c1 := hr2.c1; have f0 := hr2.f0; have f1 := hr2.f1; clear hr1 hf1 hF2 h1; have hi3 : InsAt (w2.alloc (.cells #[.int .i64 op, .int .i64 0] 37)) w2.heap.size op 0 := blk_new w2 _; have hr3 : InsAt (w2.alloc (.cells #[.int .i64 op, .int .i64 0] 37)) w.heap.size 0 0 := hr2.fr ((Fr.refl (fun _ => False) _).alloc _) (fun h => h); have hR3 : IsR (w2.alloc (.cells #[.int .i64 op, .int .i64 0] 37)) b r 0 := hR2.fr ((Fr.refl (fun _ => False) _).alloc _) (fun h => h); have hf3 : Fr (fun k => k = b) w (w2.alloc (.cells #[.int .i64 op, .int .i64 0] 37)) := hf2.alloc _; have hne : w.heap.size ≠ w2.heap.size := by omega)
      | (go_at_call 105; refine (isOp_calls _ _).mono ?_; rw [unhide HX]; rintro e w' ⟨rfl, rfl⟩)
      | (go_at_call 99; refine (has_calls _ _).mono ?_; rw [unhide HH]; rintro e w' ⟨rfl, rfl⟩)
      | (go_at_call 14; refine (end_calls hR3).mono ?_; rw [unhide HRE]; rintro e w' ⟨rfl, rfl⟩)
      | (go_at_call 96; refine (right_calls _ _ _).mono ?_; rw [unhide HQ]; rintro e w6 ⟨rfl, hF6⟩; have hi6 := hi3.fr hF6 (fun h => h); have hr6 := hr3.fr hF6 (fun h => h); have hR6 := hR3.fr hF6 (fun h => h); have hf6 := hf3.trans hF6 (T := fun k => k = b) (fun _ _ h => h) (fun _ _ h => h.elim); have e0 := hr6.c0; have e1 := hr6.c1; have g0 := hr6.f0; have g1 := hr6.f1; have d0 := hi6.c0; have d1 := hi6.c1))
    exact bodyPost_ret (results_ins2 rfl _ _ _ op 0 rfl (hr6.set op 0)) rfl ⟨rfl, hR6.fr (((Fr.refl (fun k => k = w.heap.size) _).setAt w.heap.size 0 _ (.inr rfl)).setAt w.heap.size 1 _ (.inr rfl)) (by omega), (hf6.setAt w.heap.size 0 _ (.inl (Nat.le_refl _))).setAt w.heap.size 1 _ (.inl (Nat.le_refl _))⟩

set_option maxHeartbeats 2000000 in
theorem next_err {w : World} {b : Nat} {x : UInt8} {r : List UInt8} (h : IsR w b (x :: r) 0) (hl : (x :: r).length ≤ 9223372036854775807) (hx : isOpB x.toNat = true) (hh : hasB x.toNat = true) {n k er : Nat} (hr : rd r 0 0 = (n, k, er)) (he : er = 2 ∨ er = 4) :
    Calls Try.prog 101 #[.pointer (some ⟨b, 0, none⟩)] w fun e w' => e = .returned (.tuple #[insV 0 0, .int .i64 er]) ∧ Fr (fun k => k = b) w w' := by
  have h1 : IsR (w.alloc (.cells #[.int .i64 0, .int .i64 0] 37)) b (x :: r) 0 := IsR.fr h ((Fr.refl (fun _ => False) w).alloc _) (fun h => h)
  have hr1 : InsAt (w.alloc (.cells #[.int .i64 0, .int .i64 0] 37)) w.heap.size 0 0 := blk_new w _
  have hlt := h.lt
  have hlen : (((x :: r).length : Nat) : Int) ≠ 0 := by simp only [List.length_cons]; omega
  have hlen' : ((((x :: r).length : Nat) : Int) == 0) = false := beq_eq_false_iff_ne.2 hlen
  clear hlen
  have HX := hide hx
  have HB : Hid (rbyte (x :: r) 0 = (x.toNat, r, 0)) := rfl
  have hf1 : Fr (fun k => k = b) w (w.alloc (.cells #[.int .i64 0, .int .i64 0] 37)) := (Fr.refl _ w).alloc _
  clear hx
  have hx8 := x.toNat_lt
  have hlr : r.length ≤ 9223372036854775807 := by simp only [List.length_cons] at hl; omega
  have HH := hide hh
  have HN : Hid (rnum r 0 = (n, r.drop k, (er : Int))) := by
    show _ = _
    simp [rnum, hr]
  have hq : rend (r.drop k) (er : Int) = er := by
    unfold rend
    rw [if_pos (by omega)]
  have HRE := hide hq
  clear hh hq hr
  generalize x.toNat = op at *
  rcases he with rfl | rfl
  all_goals
    go_enter Try.func101, Try.ntmps101
    go_wp2_with (first
      | (go_at_call 91; refine (left_calls h1).mono ?_; rintro e w' ⟨rfl, rfl⟩)
      | (go_at_call 49; refine (rbyte_calls h1 hl).mono ?_; rw [unhide HB]; rintro e w2 ⟨rfl, hR2, hF2⟩; have hr2 := hr1.fr hF2 (by omega); have hf2 := hf1.trans hF2 (fun _ _ h => h) (fun _ _ h => h); have hlt2 := hr2.lt; have c0 := hr2.c0; have c1 := hr2.c1; have f0 := hr2.f0; have f1 := hr2.f1; clear hr1 hf1 hF2 h1; have hi3 : InsAt (w2.alloc (.cells #[.int .i64 op, .int .i64 0] 37)) w2.heap.size op 0 := blk_new w2 _; have hr3 : InsAt (w2.alloc (.cells #[.int .i64 op, .int .i64 0] 37)) w.heap.size 0 0 := hr2.fr ((Fr.refl (fun _ => False) _).alloc _) (fun h => h); have hR3 : IsR (w2.alloc (.cells #[.int .i64 op, .int .i64 0] 37)) b r 0 := hR2.fr ((Fr.refl (fun _ => False) _).alloc _) (fun h => h); have hf3 : Fr (fun k => k = b) w (w2.alloc (.cells #[.int .i64 op, .int .i64 0] 37)) := hf2.alloc _; have hne : w.heap.size ≠ w2.heap.size := by omega)
      | (go_at_call 105; refine (isOp_calls _ _).mono ?_; rw [unhide HX]; rintro e w' ⟨rfl, rfl⟩)
      | (go_at_call 99; refine (has_calls _ _).mono ?_; rw [unhide HH]; rintro e w' ⟨rfl, rfl⟩)
      | (go_at_call 92; refine (rint_calls hR3 hlr).mono ?_; rw [unhide HN]; rintro e w4 ⟨rfl, hR4, hF4⟩; have hi4 := hi3.fr hF4 (by omega); have hr4 := hr3.fr hF4 (by omega); have hf4 := hf3.trans hF4 (fun _ _ h => h) (fun _ _ h => h); have b0 := hi4.c0; have b1 := hi4.c1; have bf := hi4.f1; have q0 := hr4.c0; have q1 := hr4.c1; have p0 := hr4.f0; have p1 := hr4.f1; have hi5 := hi4.set1 (sgn n); have hF5 : Fr (fun k => k = w2.heap.size) w4 (w4.setCell ⟨w2.heap.size, 1, none⟩ (.int .i64 (sgn n))) := Fr.set1 _ _ _ _; have hr5 := hr4.fr hF5 (by omega); have hR5 := hR4.fr hF5 (by omega); have hf5 := hf4.setAt w2.heap.size 1 (.int .i64 (sgn n)) (.inl (Nat.le_of_lt hlt2)); clear hF5)
      | (go_at_call 14; refine (end_calls hR5).mono ?_; rw [unhide HRE]; rintro e w' ⟨rfl, rfl⟩))
    exact bodyPost_ret (results_ins2 rfl _ _ _ 0 0 rfl (hr5.set 0 0)) rfl ⟨rfl, (hf5.setAt w.heap.size 0 _ (.inl (Nat.le_refl _))).setAt w.heap.size 1 _ (.inl (Nat.le_refl _))⟩

set_option maxHeartbeats 2000000 in
theorem next_wrong {w : World} {b : Nat} {x : UInt8} {r : List UInt8} (h : IsR w b (x :: r) 0) (hl : (x :: r).length ≤ 9223372036854775807) (hx : isOpB x.toNat = true) (hh : hasB x.toNat = true) {n k : Nat} (hr : rd r 0 0 = (n, k, 0)) (hq : rightB x.toNat (sgn n) = false) :
    Calls Try.prog 101 #[.pointer (some ⟨b, 0, none⟩)] w fun e w' => e = .returned (.tuple #[insV 0 0, .int .i64 4]) ∧ Fr (fun k => k = b) w w' := by
  have h1 : IsR (w.alloc (.cells #[.int .i64 0, .int .i64 0] 37)) b (x :: r) 0 := IsR.fr h ((Fr.refl (fun _ => False) w).alloc _) (fun h => h)
  have hr1 : InsAt (w.alloc (.cells #[.int .i64 0, .int .i64 0] 37)) w.heap.size 0 0 := blk_new w _
  have hlt := h.lt
  have hlen : (((x :: r).length : Nat) : Int) ≠ 0 := by simp only [List.length_cons]; omega
  have hlen' : ((((x :: r).length : Nat) : Int) == 0) = false := beq_eq_false_iff_ne.2 hlen
  clear hlen
  have HX := hide hx
  have HB : Hid (rbyte (x :: r) 0 = (x.toNat, r, 0)) := rfl
  have hf1 : Fr (fun k => k = b) w (w.alloc (.cells #[.int .i64 0, .int .i64 0] 37)) := (Fr.refl _ w).alloc _
  clear hx
  have hx8 := x.toNat_lt
  have hlr : r.length ≤ 9223372036854775807 := by simp only [List.length_cons] at hl; omega
  have HH := hide hh
  have HN : Hid (rnum r 0 = (n, r.drop k, (0 : Int))) := by
    show _ = _
    simp [rnum, hr]
  have HE : rend (r.drop k) 0 = 0 ∨ rend (r.drop k) 0 = 5 := by
    unfold rend
    by_cases hr : r.drop k = [] <;> simp [hr]
  have HQ := hide hq
  clear hh hq hr
  generalize x.toNat = op at *
  rcases HE with hq | hq
  all_goals
    have HRE := hide hq
    clear hq
    go_enter Try.func101, Try.ntmps101
    go_wp2_with (first
      | (go_at_call 91; refine (left_calls h1).mono ?_; rintro e w' ⟨rfl, rfl⟩)
      | (go_at_call 49; refine (rbyte_calls h1 hl).mono ?_; rw [unhide HB]; rintro e w2 ⟨rfl, hR2, hF2⟩; have hr2 := hr1.fr hF2 (by omega); have hf2 := hf1.trans hF2 (fun _ _ h => h) (fun _ _ h => h); have hlt2 := hr2.lt; have c0 := hr2.c0; have c1 := hr2.c1; have f0 := hr2.f0; have f1 := hr2.f1; clear hr1 hf1 hF2 h1; have hi3 : InsAt (w2.alloc (.cells #[.int .i64 op, .int .i64 0] 37)) w2.heap.size op 0 := blk_new w2 _; have hr3 : InsAt (w2.alloc (.cells #[.int .i64 op, .int .i64 0] 37)) w.heap.size 0 0 := hr2.fr ((Fr.refl (fun _ => False) _).alloc _) (fun h => h); have hR3 : IsR (w2.alloc (.cells #[.int .i64 op, .int .i64 0] 37)) b r 0 := hR2.fr ((Fr.refl (fun _ => False) _).alloc _) (fun h => h); have hf3 : Fr (fun k => k = b) w (w2.alloc (.cells #[.int .i64 op, .int .i64 0] 37)) := hf2.alloc _; have hne : w.heap.size ≠ w2.heap.size := by omega)
      | (go_at_call 105; refine (isOp_calls _ _).mono ?_; rw [unhide HX]; rintro e w' ⟨rfl, rfl⟩)
      | (go_at_call 99; refine (has_calls _ _).mono ?_; rw [unhide HH]; rintro e w' ⟨rfl, rfl⟩)
      | (go_at_call 92; refine (rint_calls hR3 hlr).mono ?_; rw [unhide HN]; rintro e w4 ⟨rfl, hR4, hF4⟩; have hi4 := hi3.fr hF4 (by omega); have hr4 := hr3.fr hF4 (by omega); have hf4 := hf3.trans hF4 (fun _ _ h => h) (fun _ _ h => h); have b0 := hi4.c0; have b1 := hi4.c1; have bf := hi4.f1; have q0 := hr4.c0; have q1 := hr4.c1; have p0 := hr4.f0; have p1 := hr4.f1; have hi5 := hi4.set1 (sgn n); have hF5 : Fr (fun k => k = w2.heap.size) w4 (w4.setCell ⟨w2.heap.size, 1, none⟩ (.int .i64 (sgn n))) := Fr.set1 _ _ _ _; have hr5 := hr4.fr hF5 (by omega); have hR5 := hR4.fr hF5 (by omega); have hf5 := hf4.setAt w2.heap.size 1 (.int .i64 (sgn n)) (.inl (Nat.le_of_lt hlt2)); clear hF5)
      | (go_at_call 14; refine (end_calls hR5).mono ?_; rw [unhide HRE]; rintro e w' ⟨rfl, rfl⟩)
      | (go_at_call 96; refine (right_calls _ _ _).mono ?_; rw [unhide HQ]; rintro e w6 ⟨rfl, hF6⟩; have hi6 := hi5.fr hF6 (fun h => h); have hr6 := hr5.fr hF6 (fun h => h); have hR6 := hR5.fr hF6 (fun h => h); have hf6 := hf5.trans hF6 (T := fun k => k = b) (fun _ _ h => h) (fun _ _ h => h.elim); have e0 := hr6.c0; have e1 := hr6.c1; have g0 := hr6.f0; have g1 := hr6.f1; have d0 := hi6.c0; have d1 := hi6.c1))
    exact bodyPost_ret (results_ins2 rfl _ _ _ 0 0 rfl (hr6.set 0 0)) rfl ⟨rfl, (hf6.setAt w.heap.size 0 _ (.inl (Nat.le_refl _))).setAt w.heap.size 1 _ (.inl (Nat.le_refl _))⟩

set_option maxHeartbeats 2000000 in
theorem next_num {w : World} {b : Nat} {x : UInt8} {r : List UInt8} (h : IsR w b (x :: r) 0) (hl : (x :: r).length ≤ 9223372036854775807) (hx : isOpB x.toNat = true) (hh : hasB x.toNat = true) {n k : Nat} (hr : rd r 0 0 = (n, k, 0)) (hq : rightB x.toNat (sgn n) = true) :
    Calls Try.prog 101 #[.pointer (some ⟨b, 0, none⟩)] w fun e w' => e = .returned (.tuple #[insV x.toNat (sgn n), .int .i64 0]) ∧ IsR w' b (r.drop k) 0 ∧ Fr (fun k => k = b) w w' := by
  have h1 : IsR (w.alloc (.cells #[.int .i64 0, .int .i64 0] 37)) b (x :: r) 0 := IsR.fr h ((Fr.refl (fun _ => False) w).alloc _) (fun h => h)
  have hr1 : InsAt (w.alloc (.cells #[.int .i64 0, .int .i64 0] 37)) w.heap.size 0 0 := blk_new w _
  have hlt := h.lt
  have hlen : (((x :: r).length : Nat) : Int) ≠ 0 := by simp only [List.length_cons]; omega
  have hlen' : ((((x :: r).length : Nat) : Int) == 0) = false := beq_eq_false_iff_ne.2 hlen
  clear hlen
  have HX := hide hx
  have HB : Hid (rbyte (x :: r) 0 = (x.toNat, r, 0)) := rfl
  have hf1 : Fr (fun k => k = b) w (w.alloc (.cells #[.int .i64 0, .int .i64 0] 37)) := (Fr.refl _ w).alloc _
  clear hx
  have hx8 := x.toNat_lt
  have hlr : r.length ≤ 9223372036854775807 := by simp only [List.length_cons] at hl; omega
  have HH := hide hh
  have HN : Hid (rnum r 0 = (n, r.drop k, (0 : Int))) := by
    show _ = _
    simp [rnum, hr]
  have HE : rend (r.drop k) 0 = 0 ∨ rend (r.drop k) 0 = 5 := by
    unfold rend
    by_cases hr : r.drop k = [] <;> simp [hr]
  have HQ := hide hq
  clear hh hq hr
  generalize x.toNat = op at *
  rcases HE with hq | hq
  all_goals
    have HRE := hide hq
    clear hq
    go_enter Try.func101, Try.ntmps101
    go_wp2_with (first
      | (go_at_call 91; refine (left_calls h1).mono ?_; rintro e w' ⟨rfl, rfl⟩)
      | (go_at_call 49; refine (rbyte_calls h1 hl).mono ?_; rw [unhide HB]; rintro e w2 ⟨rfl, hR2, hF2⟩; have hr2 := hr1.fr hF2 (by omega); have hf2 := hf1.trans hF2 (fun _ _ h => h) (fun _ _ h => h); have hlt2 := hr2.lt; have c0 := hr2.c0; have c1 := hr2.c1; have f0 := hr2.f0; have f1 := hr2.f1; clear hr1 hf1 hF2 h1; have hi3 : InsAt (w2.alloc (.cells #[.int .i64 op, .int .i64 0] 37)) w2.heap.size op 0 := blk_new w2 _; have hr3 : InsAt (w2.alloc (.cells #[.int .i64 op, .int .i64 0] 37)) w.heap.size 0 0 := hr2.fr ((Fr.refl (fun _ => False) _).alloc _) (fun h => h); have hR3 : IsR (w2.alloc (.cells #[.int .i64 op, .int .i64 0] 37)) b r 0 := hR2.fr ((Fr.refl (fun _ => False) _).alloc _) (fun h => h); have hf3 : Fr (fun k => k = b) w (w2.alloc (.cells #[.int .i64 op, .int .i64 0] 37)) := hf2.alloc _; have hne : w.heap.size ≠ w2.heap.size := by omega)
      | (go_at_call 105; refine (isOp_calls _ _).mono ?_; rw [unhide HX]; rintro e w' ⟨rfl, rfl⟩)
      | (go_at_call 99; refine (has_calls _ _).mono ?_; rw [unhide HH]; rintro e w' ⟨rfl, rfl⟩)
      | (go_at_call 92; refine (rint_calls hR3 hlr).mono ?_; rw [unhide HN]; rintro e w4 ⟨rfl, hR4, hF4⟩; have hi4 := hi3.fr hF4 (by omega); have hr4 := hr3.fr hF4 (by omega); have hf4 := hf3.trans hF4 (fun _ _ h => h) (fun _ _ h => h); have b0 := hi4.c0; have b1 := hi4.c1; have bf := hi4.f1; have q0 := hr4.c0; have q1 := hr4.c1; have p0 := hr4.f0; have p1 := hr4.f1; have hi5 := hi4.set1 (sgn n); have hF5 : Fr (fun k => k = w2.heap.size) w4 (w4.setCell ⟨w2.heap.size, 1, none⟩ (.int .i64 (sgn n))) := Fr.set1 _ _ _ _; have hr5 := hr4.fr hF5 (by omega); have hR5 := hR4.fr hF5 (by omega); have hf5 := hf4.setAt w2.heap.size 1 (.int .i64 (sgn n)) (.inl (Nat.le_of_lt hlt2)); clear hF5)
      | (go_at_call 14; refine (end_calls hR5).mono ?_; rw [unhide HRE]; rintro e w' ⟨rfl, rfl⟩)
      | (go_at_call 96; refine (right_calls _ _ _).mono ?_; rw [unhide HQ]; rintro e w6 ⟨rfl, hF6⟩; have hi6 := hi5.fr hF6 (fun h => h); have hr6 := hr5.fr hF6 (fun h => h); have hR6 := hR5.fr hF6 (fun h => h); have hf6 := hf5.trans hF6 (T := fun k => k = b) (fun _ _ h => h) (fun _ _ h => h.elim); have e0 := hr6.c0; have e1 := hr6.c1; have g0 := hr6.f0; have g1 := hr6.f1; have d0 := hi6.c0; have d1 := hi6.c1))
    exact bodyPost_ret (results_ins2 rfl _ _ _ op (sgn n) rfl (hr6.set op (sgn n))) rfl ⟨rfl, hR6.fr (((Fr.refl (fun k => k = w.heap.size) _).setAt w.heap.size 0 _ (.inr rfl)).setAt w.heap.size 1 _ (.inr rfl)) (by omega), (hf6.setAt w.heap.size 0 _ (.inl (Nat.le_refl _))).setAt w.heap.size 1 _ (.inl (Nat.le_refl _))⟩

end Go.Proofs.Ythdpgachdegcgaa
