/-
  What the document's word's Step and Begin do.
-/
import Derived.Test.YtpchnpdolhogdaaWxAcc
namespace Go.Proofs.Ytpchnpdolhogdaa
open Go.RowKit
set_option linter.unusedVariables false
set_option maxRecDepth 8192

section
variable {w : World} {b h : Nat} {d : Wd}

theorem xstep_out (m : IsX w b h d) {n : Int} (hn : ¬ (0 ≤ n ∧ n < 8)) :
    Calls Try.prog 15 #[.pointer (some ⟨b, 0, none⟩), .int .i64 n] w fun e w' => e = .returned (.tuple #[.int .i64 0, .int .i64 1]) ∧ IsX w' b h d ∧ FrX b h w w' := by
  have h2 : n < 0 ∨ (0 ≤ n ∧ 8 ≤ n) := by omega
  clear hn
  rcases h2 with h0 | ⟨h0, h1⟩
  all_goals
    go_enter Try.func15, Try.ntmps15
    go_wp2
    go_ret2
    exact ⟨rfl, m, Fr.refl _ w⟩

theorem xstep_idle (m : IsX w b h d) {k : Nat} (hk : k < 8) (hp : d.pc k = 0) :
    Calls Try.prog 15 #[.pointer (some ⟨b, 0, none⟩), .int .i64 (k : Int)] w fun e w' => e = .returned (.tuple #[.int .i64 0, .int .i64 13]) ∧ IsX w' b h d ∧ FrX b h w w' := by
  have c1 := m.c1
  obtain ⟨t0, t1, t2, t3⟩ := m.ct hk
  rw [hp] at t0 t1 t2 t3
  simp only [tI] at t0 t1 t2 t3
  have hk' : (k : Int) < 8 := by omega
  have hb := m.ltb
  have hh := m.lth
  clear hp
  go_enter Try.func15, Try.ntmps15
  go_wp2
  go_ret2
  exact ⟨rfl, m.al _, (Fr.refl _ w).alloc _⟩

/-- the holder's step -/
theorem xstep_hold (m : IsX w b h d) {op made : Int} (ht : tI (d.pc 0) = ⟨true, op, made, 0⟩) (hm : 0 ≤ made ∧ made ≤ 8) {a : Ac}
    (HA : Hid (∀ w1, IsX w1 b h d → Calls Try.prog 23 #[.pointer (some ⟨b, 0, none⟩), .agg #[.bool true, .int .i64 op, .int .i64 (made + 1), .int .i64 0]] w1 (AX w1 b h 0 d a))) :
    Calls Try.prog 15 #[.pointer (some ⟨b, 0, none⟩), .int .i64 ((0 : Nat) : Int)] w fun e w' => e = .returned (.tuple #[.int .i64 a.came, .int .i64 0]) ∧ IsX w' b h ((d.put a).set 0 a.pc) ∧ FrX b h w w' := by
  have c1 := m.c1
  obtain ⟨t0, t1, t2, t3⟩ := m.ct (k := 0) (by omega)
  rw [ht] at t0 t1 t2 t3
  dsimp only at t0 t1 t2 t3
  obtain ⟨hm0, hm1⟩ := hm
  have hb := m.ltb
  have hh := m.lth
  clear ht
  go_enter Try.func15, Try.ntmps15
  go_wp2_with (go_at_call 23; refine (unhide HA _ (m.al _)).mono ?_; rintro e w1 ⟨rfl, h1, hF⟩)
  go_ret2
  exact ⟨rfl, h1, ((Fr.refl (fun k => k = b ∨ k = h) w).alloc _).trans hF (fun _ _ h => h) (fun _ _ h => h)⟩

/-- a waker's step -/
theorem xstep_wake (m : IsX w b h d) {k : Nat} (hk : k < 8) (hk0 : 0 < k) {made rd : Int} (ht : tI (d.pc k) = ⟨true, 0, made, rd⟩) (hm : 0 ≤ made ∧ made ≤ 8) {a : Ac}
    (HA : Hid (∀ w1, IsX w1 b h d → Calls Try.prog 24 #[.pointer (some ⟨b, 0, none⟩), .int .i64 (k : Int), .agg #[.bool true, .int .i64 0, .int .i64 (made + 1), .int .i64 rd]] w1 (AX w1 b h k d a))) :
    Calls Try.prog 15 #[.pointer (some ⟨b, 0, none⟩), .int .i64 (k : Int)] w fun e w' => e = .returned (.tuple #[.int .i64 a.came, .int .i64 0]) ∧ IsX w' b h ((d.put a).set k a.pc) ∧ FrX b h w w' := by
  have c1 := m.c1
  obtain ⟨t0, t1, t2, t3⟩ := m.ct hk
  rw [ht] at t0 t1 t2 t3
  dsimp only at t0 t1 t2 t3
  obtain ⟨hm0, hm1⟩ := hm
  have hb := m.ltb
  have hh := m.lth
  have hk' : (k : Int) < 8 := by omega
  have hkz : ((k : Int) == 0) = false := by simp; omega
  clear ht
  go_enter Try.func15, Try.ntmps15
  go_wp2_with (go_at_call 24; refine (unhide HA _ (m.al _)).mono ?_; rintro e w1 ⟨rfl, h1, hF⟩)
  go_ret2
  exact ⟨rfl, h1, ((Fr.refl (fun k => k = b ∨ k = h) w).alloc _).trans hF (fun _ _ h => h) (fun _ _ h => h)⟩

/-- a step of whoever has something under way -/
theorem xstep_busy (m : IsX w b h d) (o : Ow d) {k : Nat} (hk : k < 8) (hp : 0 < d.pc k) :
    Calls Try.prog 15 #[.pointer (some ⟨b, 0, none⟩), .int .i64 (k : Int)] w fun e w' => e = .returned (.tuple #[.int .i64 (wstp d k).2, .int .i64 0]) ∧ IsX w' b h (wstp d k).1 ∧ FrX b h w w' := by
  by_cases hz : k = 0
  · subst hz
    have h8 := o.le 0
    have h0 := o.zero
    have : d.pc 0 = 4 ∨ d.pc 0 = 5 ∨ d.pc 0 = 6 ∨ d.pc 0 = 7 ∨ d.pc 0 = 8 := by omega
    rcases this with q | q | q | q | q
    · have := xstep_hold m (op := 1) (made := 0) (by rw [q]; rfl) (by omega) (hide fun w1 m1 => hold4 m1)
      unfold wstp; rw [q]; exact this
    · have := xstep_hold m (op := 2) (made := 0) (by rw [q]; rfl) (by omega) (hide fun w1 m1 => hold5 m1)
      unfold wstp; rw [q]; exact this
    · have := xstep_hold m (op := 2) (made := 1) (by rw [q]; rfl) (by omega) (hide fun w1 m1 => hold6 m1)
      unfold wstp; rw [q]; exact this
    · have := xstep_hold m (op := 3) (made := 0) (by rw [q]; rfl) (by omega) (hide fun w1 m1 => hold7 m1)
      unfold wstp; rw [q]; exact this
    · have := xstep_hold m (op := 4) (made := 0) (by rw [q]; rfl) (by omega) (hide fun w1 m1 => hold8 m1)
      unfold wstp; rw [q]; exact this
  · have h3 := o.more k (by omega)
    have : d.pc k = 1 ∨ d.pc k = 2 ∨ d.pc k = 3 := by omega
    rcases this with q | q | q
    · have := xstep_wake m hk (by omega) (made := 0) (rd := 0) (by rw [q]; rfl) (by omega) (hide fun w1 m1 => wake1 m1 hk)
      unfold wstp; rw [q]; exact this
    · have := xstep_wake m hk (by omega) (made := 1) (rd := 0) (by rw [q]; rfl) (by omega) (hide fun w1 m1 => wake2 m1 hk)
      unfold wstp; rw [q]; exact this
    · have := xstep_wake m hk (by omega) (made := 1) (rd := 2) (by rw [q]; rfl) (by omega) (hide fun w1 m1 => wake3 m1 hk)
      unfold wstp; rw [q]; exact this

/-- it is no thread, or the op isn't the thread's -/
theorem xbegin_arg (m : IsX w b h d) {n op : Int} (hn : n < 0 ∨ (0 ≤ n ∧ 8 ≤ n) ∨ (0 < n ∧ n < 8 ∧ (op != 0) = true) ∨ (n = 0 ∧ (op < 1 ∨ (1 ≤ op ∧ 4 < op)))) :
    Calls Try.prog 13 #[.pointer (some ⟨b, 0, none⟩), .int .i64 n, .int .i64 op] w fun e w' => e = .returned (.int .i64 1) ∧ IsX w' b h d ∧ FrX b h w w' := by
  rcases hn with h0 | ⟨h0, h1⟩ | ⟨h0, h1, h2⟩ | ⟨rfl, h0 | ⟨h0, h1⟩⟩
  all_goals
    go_enter Try.func13, Try.ntmps13
    go_wp2
    go_ret
    exact ⟨rfl, m, Fr.refl _ w⟩

/-- a waker's Begin -/
theorem xbegin_wake (m : IsX w b h d) {k : Nat} (hk : k < 8) (hk0 : 0 < k) :
    Calls Try.prog 13 #[.pointer (some ⟨b, 0, none⟩), .int .i64 (k : Int), .int .i64 0] w fun e w' => e = .returned (.int .i64 (if 0 < d.pc k then 14 else 0)) ∧ IsX w' b h (if 0 < d.pc k then d else d.set k 1) ∧ FrX b h w w' := by
  have c1 := m.c1
  obtain ⟨t0, t1, t2, t3⟩ := m.ct hk
  obtain ⟨g0, g1, g2, g3⟩ := m.fs k
  have hk' : (k : Int) < 8 := by omega
  have hkp : (0 : Int) < (k : Int) := by omega
  have hkz : ((k : Int) == 0) = false := by simp; omega
  have hb := m.ltb
  have hh := m.lth
  have hs := (m.fin (Fr.refl (fun k => k = b ∨ k = h) w) hk 1)
  have HS := hide hs
  clear hs
  rw [tI_on] at t0
  by_cases hp : 0 < d.pc k
  · rw [if_pos hp, if_pos hp]
    rw [decide_eq_true hp] at t0
    clear hp
    go_enter Try.func13, Try.ntmps13
    go_wp2
    go_ret
    exact ⟨rfl, m, Fr.refl _ w⟩
  · rw [if_neg hp, if_neg hp]
    rw [decide_eq_false hp] at t0
    clear hp
    go_enter Try.func13, Try.ntmps13
    go_wp2
    go_ret
    exact ⟨rfl, (unhide HS).1, (unhide HS).2⟩

/-- the holder's -/
theorem xbegin_hold (m : IsX w b h d) {op : Int} {p : Nat} (h1 : 1 ≤ op) (h4 : op ≤ 4) (ht : tI p = ⟨true, op, 0, 0⟩) :
    Calls Try.prog 13 #[.pointer (some ⟨b, 0, none⟩), .int .i64 0, .int .i64 op] w fun e w' =>
      e = .returned (.int .i64 (if 0 < d.pc 0 then 14 else if d.held = true ↔ op = 1 then 13 else 0)) ∧ IsX w' b h (if 0 < d.pc 0 then d else if d.held = true ↔ op = 1 then d else d.set 0 p) ∧ FrX b h w w' := by
  have c1 := m.c1
  have c2 := m.c2
  obtain ⟨t0, t1, t2, t3⟩ := m.ct (k := 0) (by omega)
  obtain ⟨g0, g1, g2, g3⟩ := m.fs 0
  have hb := m.ltb
  have hh := m.lth
  have hs := (m.fin (Fr.refl (fun k => k = b ∨ k = h) w) (k := 0) (by omega) p)
  rw [ht] at hs
  have HS := hide hs
  clear hs ht
  rw [tI_on] at t0
  by_cases hp : 0 < d.pc 0
  · rw [if_pos hp, if_pos hp]
    rw [decide_eq_true hp] at t0
    clear hp
    go_enter Try.func13, Try.ntmps13
    go_wp2
    go_ret
    exact ⟨rfl, m, Fr.refl _ w⟩
  · rw [if_neg hp, if_neg hp]
    rw [decide_eq_false hp] at t0
    clear hp
    by_cases hs : d.held = true ↔ op = 1
    · rw [if_pos hs, if_pos hs]
      have hE : (op == 1) = d.held := by
        cases hd : d.held
        · rw [hd] at hs; simpa using hs
        · rw [hd] at hs; simpa using hs
      have hE2 : (d.held == d.held) = true := by simp
      clear hs
      have M := hide m
      clear m
      generalize d.held = hl at c2 hE hE2
      go_enter Try.func13, Try.ntmps13
      go_wp2
      go_ret
      exact ⟨rfl, unhide M, Fr.refl _ w⟩
    · rw [if_neg hs, if_neg hs]
      have hE : (op == 1) = !d.held := by
        cases hd : d.held
        · rw [hd] at hs; simpa using hs
        · rw [hd] at hs; simpa using hs
      have hE2 : ((!d.held) == d.held) = false := by simp
      clear hs
      generalize d.held = hl at c2 hE hE2
      go_enter Try.func13, Try.ntmps13
      go_wp2
      go_ret
      exact ⟨rfl, (unhide HS).1, (unhide HS).2⟩

theorem xbegin_calls (m : IsX w b h d) (n op : Int) :
    Calls Try.prog 13 #[.pointer (some ⟨b, 0, none⟩), .int .i64 n, .int .i64 op] w fun e w' => e = .returned (.int .i64 (bgn d n op).2) ∧ IsX w' b h (bgn d n op).1 ∧ FrX b h w w' := by
  unfold bgn
  by_cases hn : 0 ≤ n ∧ n < 8
  · rw [if_pos hn]
    obtain ⟨k, rfl⟩ : ∃ k : Nat, n = (k : Int) := ⟨n.toNat, by omega⟩
    rw [Int.toNat_natCast]
    have hk : k < 8 := by omega
    by_cases hz : k = 0
    · subst hz
      by_cases ho : 1 ≤ op ∧ op ≤ 4
      · have : op = 1 ∨ op = 2 ∨ op = 3 ∨ op = 4 := by omega
        rcases this with rfl | rfl | rfl | rfl
        · have := xbegin_hold m (op := 1) (p := 4) (by omega) (by omega) rfl
          rw [if_neg (show ¬ fpc 0 1 = 0 by decide)]
          by_cases hp : 0 < d.pc 0
          · rw [if_pos hp]; rw [if_pos hp, if_pos hp] at this; exact this
          · rw [if_neg hp]; rw [if_neg hp, if_neg hp] at this
            by_cases hs : d.held = true ↔ (1 : Int) = 1
            · rw [if_pos ⟨rfl, hs⟩]; rw [if_pos hs, if_pos hs] at this; exact this
            · rw [if_neg (fun e => hs e.2)]; rw [if_neg hs, if_neg hs] at this; exact this
        · have := xbegin_hold m (op := 2) (p := 5) (by omega) (by omega) rfl
          rw [if_neg (show ¬ fpc 0 2 = 0 by decide)]
          by_cases hp : 0 < d.pc 0
          · rw [if_pos hp]; rw [if_pos hp, if_pos hp] at this; exact this
          · rw [if_neg hp]; rw [if_neg hp, if_neg hp] at this
            by_cases hs : d.held = true ↔ (2 : Int) = 1
            · rw [if_pos ⟨rfl, hs⟩]; rw [if_pos hs, if_pos hs] at this; exact this
            · rw [if_neg (fun e => hs e.2)]; rw [if_neg hs, if_neg hs] at this; exact this
        · have := xbegin_hold m (op := 3) (p := 7) (by omega) (by omega) rfl
          rw [if_neg (show ¬ fpc 0 3 = 0 by decide)]
          by_cases hp : 0 < d.pc 0
          · rw [if_pos hp]; rw [if_pos hp, if_pos hp] at this; exact this
          · rw [if_neg hp]; rw [if_neg hp, if_neg hp] at this
            by_cases hs : d.held = true ↔ (3 : Int) = 1
            · rw [if_pos ⟨rfl, hs⟩]; rw [if_pos hs, if_pos hs] at this; exact this
            · rw [if_neg (fun e => hs e.2)]; rw [if_neg hs, if_neg hs] at this; exact this
        · have := xbegin_hold m (op := 4) (p := 8) (by omega) (by omega) rfl
          rw [if_neg (show ¬ fpc 0 4 = 0 by decide)]
          by_cases hp : 0 < d.pc 0
          · rw [if_pos hp]; rw [if_pos hp, if_pos hp] at this; exact this
          · rw [if_neg hp]; rw [if_neg hp, if_neg hp] at this
            by_cases hs : d.held = true ↔ (4 : Int) = 1
            · rw [if_pos ⟨rfl, hs⟩]; rw [if_pos hs, if_pos hs] at this; exact this
            · rw [if_neg (fun e => hs e.2)]; rw [if_neg hs, if_neg hs] at this; exact this
      · have e : fpc 0 op = 0 := by
          unfold fpc
          rw [if_pos rfl, if_neg (by omega), if_neg (by omega), if_neg (by omega), if_neg (by omega)]
        rw [if_pos e]
        exact xbegin_arg m (.inr (.inr (.inr ⟨rfl, by omega⟩)))
    · by_cases ho : op = 0
      · subst ho
        have e : fpc k 0 = 1 := by unfold fpc; rw [if_neg hz, if_pos rfl]
        have := xbegin_wake m hk (by omega)
        rw [e, if_neg (show ¬ 1 = 0 by omega)]
        by_cases hp : 0 < d.pc k
        · rw [if_pos hp]; rw [if_pos hp, if_pos hp] at this; exact this
        · rw [if_neg hp, if_neg (fun e => hz e.1)]; rw [if_neg hp, if_neg hp] at this; exact this
      · have e : fpc k op = 0 := by unfold fpc; rw [if_neg hz, if_neg ho]
        rw [if_pos e]
        exact xbegin_arg m (.inr (.inr (.inl ⟨by omega, by omega, by simpa using ho⟩)))
  · rw [if_neg hn]
    exact xbegin_arg m (by omega)
end

end Go.Proofs.Ytpchnpdolhogdaa
