/-
  What each access of the document's word does.
-/
import Derived.Test.YtpchnpdolhogdaaWxMem
import Derived.Deep.RegionHeld3
namespace Go.Proofs.Ytpchnpdolhogdaa
open Go.RowKit
set_option linter.unusedVariables false
set_option maxRecDepth 8192

/-- what an access of thread k's leaves and tells -/
def AX (w : World) (b h k : Nat) (d : Wd) (a : Ac) (e : Ending) (w' : World) : Prop :=
  e = .returned (.int .i64 a.came) ∧ IsX w' b h ((d.put a).set k a.pc) ∧ FrX b h w w'

section
variable {w : World} {b h : Nat} {d : Wd}

/-- the last store -/
theorem IsX.fin {w1 : World} {d1 : Wd} (m : IsX w1 b h d1) (hf : FrX b h w w1) {k : Nat} (hk : k < 8) (p : Nat) :
    IsX (xset4 w1 h (k * 4) (tI p)) b h (d1.set k p) ∧ FrX b h w (xset4 w1 h (k * 4) (tI p)) :=
  ⟨m.sth hk p, hf.trans (xset4_fr w1 h (k * 4) (tI p)) (fun _ _ h => h) (fun _ _ e => .inr e)⟩

set_option maxHeartbeats 1000000 in
theorem hold4 (m : IsX w b h d) :
    Calls Try.prog 23 #[.pointer (some ⟨b, 0, none⟩), .agg #[.bool true, .int .i64 1, .int .i64 1, .int .i64 0]] w (AX w b h 0 d (acc d.now d.held 4)) := by
  simp only [acc]
  by_cases hA : d.now = 1
  · rw [if_pos hA]
    have HC := hide (fun o => xchange_yes (m.al o) 2 hA)
    clear hA
    go_enter Try.func23, Try.ntmps23
    go_wp2_with (go_at_call 30; refine (unhide HC _).mono ?_; rintro e w1 ⟨rfl, h1, hF⟩; have c1 := h1.c1; have c2 := h1.c2; have f0 := h1.fb 0; have f2 := h1.fb 2; have hb := h1.ltb; have hh := h1.lth; have hne : ¬ h = b := (fun e => h1.nbh e.symm); have hne2 : ¬ b = h := h1.nbh; obtain ⟨g0, g1, g2, g3⟩ := h1.fs 0; obtain ⟨t0, t1, t2, t3⟩ := h1.ct (k := 0) (by omega))
    go_ret
    obtain ⟨r1, r2⟩ := (h1.sheld true).fin ((((Fr.refl (fun k => k = b ∨ k = h) w).alloc _).trans hF (fun _ _ h => h) (fun _ _ h => h)).setAt b 2 _ (.inr (.inl rfl))) (k := 0) (by omega) 0
    exact ⟨rfl, r1, r2⟩
  · rw [if_neg hA]
    have HC := hide (fun o => xchange_no (m.al o) 1 2 hA)
    have c0 := m.c0
    have c1 := m.c1
    have c2 := m.c2
    have f0 := m.fb 0
    have f2 := m.fb 2
    have hb := m.ltb
    have hh := m.lth
    have hne : ¬ h = b := fun e => m.nbh e.symm
    have hne2 : ¬ b = h := m.nbh
    obtain ⟨g0, g1, g2, g3⟩ := m.fs 0
    obtain ⟨t0, t1, t2, t3⟩ := m.ct (k := 0) (by omega)
    clear hA
    go_enter Try.func23, Try.ntmps23
    go_wp2_with (go_at_call 30; refine (unhide HC _).mono ?_; rintro e w1 ⟨rfl, rfl⟩)
    go_ret
    obtain ⟨r1, r2⟩ := m.fin (Fr.refl (fun k => k = b ∨ k = h) w) (k := 0) (by omega) 0
    exact ⟨rfl, r1.al _, r2.alloc _⟩

set_option maxHeartbeats 1000000 in
theorem hold5 (m : IsX w b h d) :
    Calls Try.prog 23 #[.pointer (some ⟨b, 0, none⟩), .agg #[.bool true, .int .i64 2, .int .i64 1, .int .i64 0]] w (AX w b h 0 d (acc d.now d.held 5)) := by
  simp only [acc]
  by_cases hA : d.now = 2
  · rw [if_pos hA]
    have HC := hide (fun o => xchange_yes (m.al o) 0 hA)
    clear hA
    go_enter Try.func23, Try.ntmps23
    go_wp2_with (go_at_call 30; refine (unhide HC _).mono ?_; rintro e w1 ⟨rfl, h1, hF⟩; have c1 := h1.c1; have c2 := h1.c2; have f0 := h1.fb 0; have f2 := h1.fb 2; have hb := h1.ltb; have hh := h1.lth; have hne : ¬ h = b := (fun e => h1.nbh e.symm); have hne2 : ¬ b = h := h1.nbh; obtain ⟨g0, g1, g2, g3⟩ := h1.fs 0; obtain ⟨t0, t1, t2, t3⟩ := h1.ct (k := 0) (by omega))
    go_ret
    obtain ⟨r1, r2⟩ := (h1.sheld false).fin ((((Fr.refl (fun k => k = b ∨ k = h) w).alloc _).trans hF (fun _ _ h => h) (fun _ _ h => h)).setAt b 2 _ (.inr (.inl rfl))) (k := 0) (by omega) 0
    exact ⟨rfl, r1, r2⟩
  · rw [if_neg hA]
    have HC := hide (fun o => xchange_no (m.al o) 2 0 hA)
    have c0 := m.c0
    have c1 := m.c1
    have c2 := m.c2
    have f0 := m.fb 0
    have f2 := m.fb 2
    have hb := m.ltb
    have hh := m.lth
    have hne : ¬ h = b := fun e => m.nbh e.symm
    have hne2 : ¬ b = h := m.nbh
    obtain ⟨g0, g1, g2, g3⟩ := m.fs 0
    obtain ⟨t0, t1, t2, t3⟩ := m.ct (k := 0) (by omega)
    clear hA
    go_enter Try.func23, Try.ntmps23
    go_wp2_with (go_at_call 30; refine (unhide HC _).mono ?_; rintro e w1 ⟨rfl, rfl⟩)
    go_region
    all_goals
      go_wp2
      go_ret
      obtain ⟨r1, r2⟩ := m.fin (Fr.refl (fun k => k = b ∨ k = h) w) (k := 0) (by omega) 6
      exact ⟨rfl, (r1.al _).same rfl, (r2.alloc _).drew⟩

set_option maxHeartbeats 1000000 in
theorem hold6 (m : IsX w b h d) :
    Calls Try.prog 23 #[.pointer (some ⟨b, 0, none⟩), .agg #[.bool true, .int .i64 2, .int .i64 2, .int .i64 0]] w (AX w b h 0 d (acc d.now d.held 6)) := by
  simp only [acc]
  by_cases hA : d.now = 3
  · rw [if_pos hA]
    have HC := hide (fun o => xchange_yes (m.al o) 2 hA)
    clear hA
    go_enter Try.func23, Try.ntmps23
    go_wp2_with (go_at_call 30; refine (unhide HC _).mono ?_; rintro e w1 ⟨rfl, h1, hF⟩; have c1 := h1.c1; have c2 := h1.c2; have f0 := h1.fb 0; have f2 := h1.fb 2; have hb := h1.ltb; have hh := h1.lth; have hne : ¬ h = b := (fun e => h1.nbh e.symm); have hne2 : ¬ b = h := h1.nbh; obtain ⟨g0, g1, g2, g3⟩ := h1.fs 0; obtain ⟨t0, t1, t2, t3⟩ := h1.ct (k := 0) (by omega))
    go_ret
    obtain ⟨r1, r2⟩ := h1.fin (((Fr.refl (fun k => k = b ∨ k = h) w).alloc _).trans hF (fun _ _ h => h) (fun _ _ h => h)) (k := 0) (by omega) 0
    exact ⟨rfl, r1, r2⟩
  · rw [if_neg hA]
    have HC := hide (fun o => xchange_no (m.al o) 3 2 hA)
    have c0 := m.c0
    have c1 := m.c1
    have c2 := m.c2
    have f0 := m.fb 0
    have f2 := m.fb 2
    have hb := m.ltb
    have hh := m.lth
    have hne : ¬ h = b := fun e => m.nbh e.symm
    have hne2 : ¬ b = h := m.nbh
    obtain ⟨g0, g1, g2, g3⟩ := m.fs 0
    obtain ⟨t0, t1, t2, t3⟩ := m.ct (k := 0) (by omega)
    clear hA
    go_enter Try.func23, Try.ntmps23
    go_wp2_with (go_at_call 30; refine (unhide HC _).mono ?_; rintro e w1 ⟨rfl, rfl⟩)
    go_ret
    obtain ⟨r1, r2⟩ := m.fin (Fr.refl (fun k => k = b ∨ k = h) w) (k := 0) (by omega) 0
    exact ⟨rfl, r1.al _, r2.alloc _⟩

set_option maxHeartbeats 1000000 in
theorem hold8 (m : IsX w b h d) :
    Calls Try.prog 23 #[.pointer (some ⟨b, 0, none⟩), .agg #[.bool true, .int .i64 4, .int .i64 1, .int .i64 0]] w (AX w b h 0 d (acc d.now d.held 8)) := by
  simp only [acc]
  have c0 := m.c0
  have c1 := m.c1
  have c2 := m.c2
  have f0 := m.fb 0
  have f2 := m.fb 2
  have hb := m.ltb
  have hh := m.lth
  have hne : ¬ h = b := fun e => m.nbh e.symm
  have hne2 : ¬ b = h := m.nbh
  obtain ⟨g0, g1, g2, g3⟩ := m.fs 0
  obtain ⟨t0, t1, t2, t3⟩ := m.ct (k := 0) (by omega)
  go_enter Try.func23, Try.ntmps23
  go_wp2
  go_ret
  obtain ⟨r1, r2⟩ := ((m.snow 4).sheld false).fin (((Fr.refl (fun k => k = b ∨ k = h) w).setAt b 0 _ (.inr (.inl rfl))).setAt b 2 _ (.inr (.inl rfl))) (k := 0) (by omega) 0
  exact ⟨rfl, r1.al _, r2.alloc _⟩

set_option maxHeartbeats 1000000 in
theorem hold7 (m : IsX w b h d) :
    Calls Try.prog 23 #[.pointer (some ⟨b, 0, none⟩), .agg #[.bool true, .int .i64 3, .int .i64 1, .int .i64 0]] w (AX w b h 0 d (acc d.now d.held 7)) := by
  simp only [acc]
  by_cases h2 : d.now = 2
  · rw [if_pos h2]
    have HC := hide (fun o => xchange_yes (m.al o) 1 h2)
    clear h2
    go_enter Try.func23, Try.ntmps23
    go_wp2_with fail
    refine (unhide HC _).mono ?_
    rintro e w1 ⟨rfl, h1, hF⟩
    have c1 := h1.c1
    have c2 := h1.c2
    have f0 := h1.fb 0
    have f2 := h1.fb 2
    have hb := h1.ltb
    have hh := h1.lth
    have hne : ¬ h = b := (fun e => h1.nbh e.symm)
    have hne2 : ¬ b = h := h1.nbh
    obtain ⟨g0, g1, g2, g3⟩ := h1.fs 0
    obtain ⟨t0, t1, t2, t3⟩ := h1.ct (k := 0) (by omega)
    go_wp2
    go_ret
    obtain ⟨r1, r2⟩ := (h1.sheld false).fin ((((Fr.refl (fun k => k = b ∨ k = h) w).alloc _).trans hF (fun _ _ h => h) (fun _ _ h => h)).setAt b 2 _ (.inr (.inl rfl))) (k := 0) (by omega) 0
    exact ⟨rfl, r1, r2⟩
  · rw [if_neg h2]
    have HC := hide (fun o => xchange_no (m.al o) 2 1 h2)
    by_cases h3 : d.now = 3
    · rw [if_pos h3]
      have HD := hide (fun o => xchange_yes (m.al o) 1 h3)
      clear h2 h3
      go_enter Try.func23, Try.ntmps23
      go_wp2_with fail
      refine (unhide HC _).mono ?_
      rintro e w1 ⟨rfl, rfl⟩
      go_wp2_with fail
      refine (unhide HD _).mono ?_
      rintro e w1 ⟨rfl, h1, hF⟩
      have c1 := h1.c1
      have c2 := h1.c2
      have f0 := h1.fb 0
      have f2 := h1.fb 2
      have hb := h1.ltb
      have hh := h1.lth
      have hne : ¬ h = b := (fun e => h1.nbh e.symm)
      have hne2 : ¬ b = h := h1.nbh
      obtain ⟨g0, g1, g2, g3⟩ := h1.fs 0
      obtain ⟨t0, t1, t2, t3⟩ := h1.ct (k := 0) (by omega)
      go_wp2
      go_ret
      obtain ⟨r1, r2⟩ := (h1.sheld false).fin ((((Fr.refl (fun k => k = b ∨ k = h) w).alloc _).trans hF (fun _ _ h => h) (fun _ _ h => h)).setAt b 2 _ (.inr (.inl rfl))) (k := 0) (by omega) 0
      exact ⟨rfl, r1, r2⟩
    · rw [if_neg h3]
      have HD := hide (fun o => xchange_no (m.al o) 3 1 h3)
      clear h2 h3
      have c0 := m.c0
      have c1 := m.c1
      have c2 := m.c2
      have f0 := m.fb 0
      have f2 := m.fb 2
      have hb := m.ltb
      have hh := m.lth
      have hne : ¬ h = b := fun e => m.nbh e.symm
      have hne2 : ¬ b = h := m.nbh
      obtain ⟨g0, g1, g2, g3⟩ := m.fs 0
      obtain ⟨t0, t1, t2, t3⟩ := m.ct (k := 0) (by omega)
      go_enter Try.func23, Try.ntmps23
      go_wp2_with fail
      refine (unhide HC _).mono ?_
      rintro e w1 ⟨rfl, rfl⟩
      go_wp2_with fail
      refine (unhide HD _).mono ?_
      rintro e w1 ⟨rfl, rfl⟩
      go_wp2
      go_ret
      obtain ⟨r1, r2⟩ := (m.sheld false).fin ((Fr.refl (fun k => k = b ∨ k = h) w).setAt b 2 _ (.inr (.inl rfl))) (k := 0) (by omega) 0
      exact ⟨rfl, r1.al _, r2.alloc _⟩

set_option maxHeartbeats 1000000 in
theorem wake2 (m : IsX w b h d) {k : Nat} (hk : k < 8) :
    Calls Try.prog 24 #[.pointer (some ⟨b, 0, none⟩), .int .i64 (k : Int), .agg #[.bool true, .int .i64 0, .int .i64 2, .int .i64 0]] w (AX w b h k d (acc d.now d.held 2)) := by
  have hk' : (k : Int) < 8 := by omega
  simp only [acc]
  by_cases hA : d.now = 0
  · rw [if_pos hA]
    have HC := hide (fun o => xchange_yes (m.al o) 1 hA)
    clear hA
    go_enter Try.func24, Try.ntmps24
    go_wp2_with (go_at_call 30; refine (unhide HC _).mono ?_; rintro e w1 ⟨rfl, h1, hF⟩; have c1 := h1.c1; have c2 := h1.c2; have f0 := h1.fb 0; have f2 := h1.fb 2; have hb := h1.ltb; have hh := h1.lth; have hne : ¬ h = b := (fun e => h1.nbh e.symm); have hne2 : ¬ b = h := h1.nbh; obtain ⟨g0, g1, g2, g3⟩ := h1.fs k; obtain ⟨t0, t1, t2, t3⟩ := h1.ct (k := k) hk)
    go_ret
    obtain ⟨r1, r2⟩ := h1.fin (((Fr.refl (fun k => k = b ∨ k = h) w).alloc _).trans hF (fun _ _ h => h) (fun _ _ h => h)) (k := k) hk 0
    exact ⟨rfl, r1, r2⟩
  · rw [if_neg hA]
    have HC := hide (fun o => xchange_no (m.al o) 0 1 hA)
    have c0 := m.c0
    have c1 := m.c1
    have c2 := m.c2
    have f0 := m.fb 0
    have f2 := m.fb 2
    have hb := m.ltb
    have hh := m.lth
    have hne : ¬ h = b := fun e => m.nbh e.symm
    have hne2 : ¬ b = h := m.nbh
    obtain ⟨g0, g1, g2, g3⟩ := m.fs k
    obtain ⟨t0, t1, t2, t3⟩ := m.ct (k := k) hk
    clear hA
    go_enter Try.func24, Try.ntmps24
    go_wp2_with (go_at_call 30; refine (unhide HC _).mono ?_; rintro e w1 ⟨rfl, rfl⟩)
    go_ret
    obtain ⟨r1, r2⟩ := m.fin (Fr.refl (fun k => k = b ∨ k = h) w) (k := k) hk 1
    exact ⟨rfl, r1.al _, r2.alloc _⟩

set_option maxHeartbeats 1000000 in
theorem wake3 (m : IsX w b h d) {k : Nat} (hk : k < 8) :
    Calls Try.prog 24 #[.pointer (some ⟨b, 0, none⟩), .int .i64 (k : Int), .agg #[.bool true, .int .i64 0, .int .i64 2, .int .i64 2]] w (AX w b h k d (acc d.now d.held 3)) := by
  have hk' : (k : Int) < 8 := by omega
  simp only [acc]
  by_cases hA : d.now = 2
  · rw [if_pos hA]
    have HC := hide (fun o => xchange_yes (m.al o) 3 hA)
    clear hA
    go_enter Try.func24, Try.ntmps24
    go_wp2_with (go_at_call 30; refine (unhide HC _).mono ?_; rintro e w1 ⟨rfl, h1, hF⟩; have c1 := h1.c1; have c2 := h1.c2; have f0 := h1.fb 0; have f2 := h1.fb 2; have hb := h1.ltb; have hh := h1.lth; have hne : ¬ h = b := (fun e => h1.nbh e.symm); have hne2 : ¬ b = h := h1.nbh; obtain ⟨g0, g1, g2, g3⟩ := h1.fs k; obtain ⟨t0, t1, t2, t3⟩ := h1.ct (k := k) hk)
    go_ret
    obtain ⟨r1, r2⟩ := h1.fin (((Fr.refl (fun k => k = b ∨ k = h) w).alloc _).trans hF (fun _ _ h => h) (fun _ _ h => h)) (k := k) hk 0
    exact ⟨rfl, r1, r2⟩
  · rw [if_neg hA]
    have HC := hide (fun o => xchange_no (m.al o) 2 3 hA)
    have c0 := m.c0
    have c1 := m.c1
    have c2 := m.c2
    have f0 := m.fb 0
    have f2 := m.fb 2
    have hb := m.ltb
    have hh := m.lth
    have hne : ¬ h = b := fun e => m.nbh e.symm
    have hne2 : ¬ b = h := m.nbh
    obtain ⟨g0, g1, g2, g3⟩ := m.fs k
    obtain ⟨t0, t1, t2, t3⟩ := m.ct (k := k) hk
    clear hA
    go_enter Try.func24, Try.ntmps24
    go_wp2_with (go_at_call 30; refine (unhide HC _).mono ?_; rintro e w1 ⟨rfl, rfl⟩)
    go_ret
    obtain ⟨r1, r2⟩ := m.fin (Fr.refl (fun k => k = b ∨ k = h) w) (k := k) hk 1
    exact ⟨rfl, r1.al _, r2.alloc _⟩

set_option maxHeartbeats 1000000 in
theorem wake1 (m : IsX w b h d) {k : Nat} (hk : k < 8) :
    Calls Try.prog 24 #[.pointer (some ⟨b, 0, none⟩), .int .i64 (k : Int), .agg #[.bool true, .int .i64 0, .int .i64 1, .int .i64 0]] w (AX w b h k d (acc d.now d.held 1)) := by
  have hk' : (k : Int) < 8 := by omega
  have e1 : ∀ x, d.now = x → w.cell? ⟨b, 0, none⟩ = some (.int .i64 x) := fun x e => e ▸ m.c0
  simp only [acc]
  have c1 := m.c1
  have c2 := m.c2
  have f0 := m.fb 0
  have f2 := m.fb 2
  have hb := m.ltb
  have hh := m.lth
  have hne : ¬ h = b := fun e => m.nbh e.symm
  have hne2 : ¬ b = h := m.nbh
  obtain ⟨g0, g1, g2, g3⟩ := m.fs k
  obtain ⟨t0, t1, t2, t3⟩ := m.ct (k := k) hk
  by_cases h0 : d.now = 0
  · have c0 := e1 0 h0
    rw [if_pos h0]
    have ed : d.put ⟨-1, d.now, d.held, 2⟩ = d := rfl
    clear h0 e1
    go_enter Try.func24, Try.ntmps24
    go_wp2
    go_region
    all_goals
      go_wp2
      go_ret
      obtain ⟨r1, r2⟩ := m.fin (Fr.refl (fun k => k = b ∨ k = h) w) hk 2
      exact ⟨rfl, (r1.al _).same rfl, (r2.alloc _).drew⟩
  · rw [if_neg h0]
    by_cases h2 : d.now = 2
    · have c0 := e1 2 h2
      rw [if_pos h2]
      clear h0 h2 e1
      go_enter Try.func24, Try.ntmps24
      go_wp2
      go_region
      all_goals
        go_wp2
        go_ret
        obtain ⟨r1, r2⟩ := m.fin (Fr.refl (fun k => k = b ∨ k = h) w) hk 3
        exact ⟨rfl, (r1.al _).same rfl, (r2.alloc _).drew⟩
    · rw [if_neg h2]
      have q0 : (d.now != 0) = true := by simpa using h0
      have q2 : (d.now != 2) = true := by simpa using h2
      have c0 := e1 _ rfl
      clear h0 h2 e1
      obtain ⟨n, hn⟩ : ∃ n, d.now = n := ⟨_, rfl⟩
      have HN := hide hn
      rw [hn] at c0 q0 q2 ⊢
      clear hn
      go_enter Try.func24, Try.ntmps24
      go_wp2
      go_ret
      obtain ⟨r1, r2⟩ := m.fin (Fr.refl (fun k => k = b ∨ k = h) w) hk 0
      have e : d.put ⟨0, n, d.held, 0⟩ = d := by unfold Wd.put; rw [← HN.out]
      exact ⟨rfl, by rw [e]; exact r1.al _, r2.alloc _⟩
end

end Go.Proofs.Ytpchnpdolhogdaa
