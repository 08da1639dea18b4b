/-
  HeapPlays walked.
-/
import Derived.Test.YtchmbnfalaijhaaHxAll
import Derived.Test.YtchmbnfalaijhaaHpSorted
import Derived.Test.YtchmbnfalaijhaaHpModel
import Derived.Deep.RegionWith
import Derived.Deep.RegionHeld3
namespace Go.Proofs.Ytchmbnfalaijhaa
open Go.RowKit
set_option linter.unusedVariables false
set_option maxRecDepth 100000

theorem mk_hk {w : World} {k : Nat} (h : MK w k) (h2 : HK w k) : False := by
  rcases h with ⟨cs, h⟩ | ⟨cs, h⟩ <;> rcases h2 with ⟨es, c, h2⟩ | ⟨cs', h2⟩ | ⟨cs', h2⟩ <;> (rw [h] at h2; simp at h2)

theorem nohk {w : World} {lo q : Nat} {cs : Array Value} (h : w.heap[q]? = some (.cells cs 51 (0, 0))) : ¬ (lo ≤ q ∧ HK w q) := by
  rintro ⟨_, h1⟩
  rcases h1 with ⟨es, c, h1⟩ | ⟨cs', h1⟩ | ⟨cs', h1⟩ <;> (rw [h] at h1; simp at h1)

theorem nomk {w : World} {lo q : Nat} {cs : Array Value} (h : w.heap[q]? = some (.cells cs 51 (0, 0))) : ¬ (lo ≤ q ∧ MK w q) := by
  rintro ⟨_, h1⟩
  rcases h1 with ⟨cs', h1⟩ | ⟨cs', h1⟩ <;> (rw [h] at h1; simp at h1)

theorem Hp.frm {w w' : World} {lo b n : Nat} {M : List (En Int)} (h : Hp w lo b n M) (hf : FrM lo w w') : Hp w' lo b n M := by
  obtain ⟨⟨g, bm, h1, h2, h3⟩, h4⟩ := h
  have q : ∀ k, (k = b ∨ k = g ∨ k = bm) → ¬ (lo ≤ k ∧ MK w k) := fun k hk h => mk_hk h.2 (h1.hk hk)
  exact ⟨⟨g, bm, h1.fr hf (q _ (.inl rfl)) (q _ (.inr (.inl rfl))) (q _ (.inr (.inr rfl))), h2, h3⟩, h4⟩

theorem quiet_same {P : Program} {f : FuncId} {args : Array Value} {w : World} {n : Nat} {v : Value}
    (h : Calls P f args (w.drewN n) fun e w' => e = .returned v ∧ w.drewN n = w') : Calls P f args (w.drewN n) fun e w'' => e = .returned v ∧ ∃ m, w'' = w.drewN m :=
  h.mono fun _ _ ⟨he, hm⟩ => ⟨he, n, hm.symm⟩

/-- both heaps side by side -/
def P2 (w : World) (lo a b n1 n2 : Nat) (M1 M2 : List (En Int)) : Prop := Hp w lo a n1 M1 ∧ IsM w lo b n2 M2

section
variable {w w' : World} {lo a b n1 n2 : Nat} {M1 M2 : List (En Int)}

theorem P2.up (h : P2 w lo a b n1 n2 M1 M2) (hf : Fr (fun _ => False) w w') : P2 w' lo a b n1 n2 M1 M2 := ⟨h.1.up hf, h.2.up hf⟩

theorem P2.h (h : P2 w lo a b n1 n2 M1 M2) {n : Nat} {M : List (En Int)} (hh : Hp w' lo a n M) (hf : FrH lo w w') : P2 w' lo a b n n2 M M2 := ⟨hh, h.2.fr hf (fun k _ hk h => mk_hk hk h.2)⟩

theorem P2.m (h : P2 w lo a b n1 n2 M1 M2) {n : Nat} {M : List (En Int)} (hm : IsM w' lo b n M) (hf : FrM lo w w') : P2 w' lo a b n1 n M1 M := ⟨h.1.frm hf, hm⟩

theorem P2.row (h : P2 w lo a b n1 n2 M1 M2) : ∃ v c, w.cell? ⟨b, 0, none⟩ = some (.slice v M2.length c) := by
  obtain ⟨_, v, vs, h1, h2, h3, h4⟩ := h.2
  obtain ⟨a', c', rfl⟩ := slice_own (owns_zero3 h2)
  exact ⟨a', c', by rw [cell_at h1 0]; rfl⟩

theorem FrM.l {w w' : World} (h : FrM lo w w') : FrL lo w w' := h.mono (fun _ _ h => h.1)

theorem p_hput (h : P2 w lo a b n1 n2 M1 M2) (hlo : lo ≤ w.heap.size) (hn : n1 < 4194304) (t x : Int) :
    Calls Try.prog 25 #[.pointer (some ⟨a, 0, none⟩), .int .i64 t, .int .i64 x] w fun e w' => e = .returned (.int .i64 ((n1 : Int) + 1)) ∧ P2 w' lo a b (n1 + 1) n2 (M1 ++ [⟨t, (n1 : Int) + 1, x⟩]) M2 ∧ FrH lo w w' :=
  (gput h.1 hlo hn t x).mono fun e w' ⟨r1, r2, r3⟩ => ⟨r1, h.h r2 r3, r3⟩

theorem p_mput (h : P2 w lo a b n1 n2 M1 M2) (hn : n2 < 4194304) (hm : M2.length ≤ 4194304) (t x : Int) :
    Calls Try.prog 26 #[.pointer (some ⟨b, 0, none⟩), .int .i64 t, .int .i64 x] w fun e w' => e = .returned (.int .i64 ((n2 : Int) + 1)) ∧ P2 w' lo a b n1 (n2 + 1) M1 (M2 ++ [⟨t, (n2 : Int) + 1, x⟩]) ∧ FrM lo w w' :=
  (mput_calls h.2 hn hm t x).mono fun e w' ⟨r1, r2, r3⟩ => ⟨r1, h.m r2 r3, r3⟩

theorem p_hcan (h : P2 w lo a b n1 n2 M1 M2) (t : Int) (ht : -9223372036854775808 ≤ t ∧ t ≤ 9223372036854775807) :
    Calls Try.prog 27 #[.pointer (some ⟨a, 0, none⟩), .int .i64 t] w fun r w' => r = .returned (.bool (hasK M1 t)) ∧ P2 w' lo a b n1 n2 (del M1 t) M2 ∧ FrH lo w w' :=
  (gcancel h.1 t ht).mono fun e w' ⟨r1, r2, r3⟩ => ⟨r1, h.h r2 r3, r3⟩

theorem p_mcan (h : P2 w lo a b n1 n2 M1 M2) (hm : M2.length ≤ 4194304) (hp : M2.Pairwise (fun a b => a.k < b.k)) (t : Int) :
    Calls Try.prog 28 #[.pointer (some ⟨b, 0, none⟩), .int .i64 t] w fun r w' => r = .returned (.bool (hasK M2 t)) ∧ P2 w' lo a b n1 n2 M1 (del M2 t) ∧ FrM lo w w' :=
  (mcancel_calls h.2 hm hp t).mono fun e w' ⟨r1, r2, r3⟩ => ⟨r1, h.m r2 r3, r3⟩

theorem p_hpop (h : P2 w lo a b n1 n2 M1 M2) (e : En Int) (he : Le M1 e) (now : Int) (ht : e.t ≤ now) :
    Calls Try.prog 29 #[.pointer (some ⟨a, 0, none⟩), .int .i64 now] w fun r w' => r = .returned (.tuple #[.int .i64 e.x, .int .i64 e.t, .bool true]) ∧ P2 w' lo a b n1 n2 (del M1 e.k) M2 ∧ FrH lo w w' :=
  (gpop_yes h.1 e he now ht).mono fun e w' ⟨r1, r2, r3⟩ => ⟨r1, h.h r2 r3, r3⟩

theorem p_mpop (h : P2 w lo a b n1 n2 M1 M2) (hm : M2.length ≤ 4194304) (hp : M2.Pairwise (fun a b => a.k < b.k)) (e : En Int) (he : Le M2 e) (now : Int) (ht : e.t ≤ now) :
    Calls Try.prog 30 #[.pointer (some ⟨b, 0, none⟩), .int .i64 now] w fun r w' => r = .returned (.tuple #[.int .i64 e.x, .int .i64 e.t, .bool true]) ∧ P2 w' lo a b n1 n2 M1 (del M2 e.k) ∧ FrM lo w w' :=
  (mpop_yes h.2 hm hp e he now ht).mono fun e w' ⟨r1, r2, r3⟩ => ⟨r1, h.m r2 r3, r3⟩

theorem p_len (h : P2 w lo a b n1 n2 M1 M2) (q : Nat) : Calls Try.prog 33 #[.pointer (some ⟨a, 0, none⟩)] (w.drewN q) fun e w' => e = .returned (.int .i64 (M1.length : Int)) ∧ w.drewN q = w' :=
  glen (h.1.up ((Fr.refl _ w).drewN q))
end

def PyW (w0 : World) (a b k : Nat) (w : World) : Prop := ∃ n M, P2 w w0.heap.size a b n n M M ∧ Tk M n ∧ n ≤ k ∧ FrL w0.heap.size w0 w

theorem py_new {w0 w w2 : World} {a lo : Nat} (hl : w0.heap.size = lo) (h : Hp w2 w.heap.size a 0 []) (h1 : FrL w0.heap.size w0 w) (h2 : Fr (fun _ => False) w w2) :
    PyW w0 a w2.heap.size 0 (w2.alloc (.cells #[.slice none 0 0, .int .i64 0] 49)) := by
  have s1 := h1.size
  have s2 := h2.size
  refine ⟨0, [], ⟨(h.lower s1).up ((Fr.refl _ w2).alloc _), ⟨by omega, .slice none 0 0, [], by simpa using blk_new w2 _, nil_owns _ _ _, fun i e he => (by cases he), rfl⟩⟩, Tk.nil, Nat.le_refl _, (h1.trans h2 (fun _ _ h => h) (fun _ _ h => h.elim)).alloc _⟩

set_option maxHeartbeats 60000000 in
theorem plays_calls {w : World} {a : Option Addr} {n c : Nat} {l : List Stp} (A : StA w.heap.size w a n l) (hn : n ≤ c) (hc : c ≤ 9223372036854775807) :
    Calls Try.prog 4 #[.slice a n c] w fun e w' => e = .returned (.bool true) ∧ Fr (fun _ => False) w w' := by
  have A2 := A.take (min n 3000) (Nat.min_le_left _ _)
  have hN : min n 3000 ≤ 3000 := Nat.min_le_right _ _
  go_enter Try.func4, Try.ntmps4
  go_wp2_with fail
  refine (lives_calls _).mono ?_
  rintro e w1 ⟨rfl, hF1⟩
  go_wp2_with fail
  refine (early_calls _ a n c hn hc).mono ?_
  rintro e w1' ⟨rfl, rfl⟩
  go_wp2_with fail
  refine (gnew _).mono ?_
  rintro e w2 ⟨rfl, hH2, hF2⟩
  have h0 := py_new rfl hH2 (hF1.mono (fun _ _ h => h.elim)) hF2
  generalize l.take (min n 3000) = l2 at *
  generalize min n 3000 = N at *
  clear hH2 hF2 hF1
  generalize w1.heap.size = b at *
  go_wp2_with fail
  generalize w2.alloc (.cells #[.slice none 0 0, .int .i64 0] 49) = w3 at *
  generalize w2.heap.size = b2 at *
  go_loopw [5] (fun i wr => ∃ (k : Nat), i = .int .i64 k ∧ k ≤ N ∧ PyW w b b2 k wr) (fun i _ => N - (intOf i).toNat)
  case atStart => exact ⟨0, rfl, by omega, h0⟩
  case round =>
    obtain ⟨k, rfl, hk, m, M, hH, hTk, hmk, hF⟩ := hrel
    clear h0 A
    have hsz := hF.size
    have hML := hTk.len
    have hKP := hTk.1
    by_cases hlt : k < N
    · have hlt' : (k : Int) < (N : Int) := by omega
      obtain ⟨bb, off, s, rfl, hbb, hls, ⟨s0, s1, s2⟩, q0, q1, q2⟩ := (A2.fr hF (fun _ h => h)).stp hlt
      rcases kd_lt s.c with hkd | hkd | hkd | hkd
      · -- a Put
        go_upto_region 10 with fail
        have hO := blk_new wr (.cells #[.int .i64 s.c, .int .i64 s.t, .int .i64 s.x] 51)
        have hFq : Fr (fun _ => False) wr (wr.alloc (.cells #[.int .i64 s.c, .int .i64 s.t, .int .i64 s.x] 51)) := (Fr.refl _ wr).alloc _
        generalize wr.alloc (.cells #[.int .i64 s.c, .int .i64 s.t, .int .i64 s.x] 51) = wq at *
        have hFt := hF.trans hFq (fun _ _ h => h) (fun _ _ h => h.elim)
        have hHq := hH.up hFq
        clear hF hH s0 s1 s2
        have hqlo : w.heap.size ≤ wr.heap.size := hsz
        generalize wr.heap.size = q at *
        have o0 := cell_at hO 0
        have o1 := cell_at hO 1
        have o2 := cell_at hO 2
        simp at o0 o1 o2
        go_wp2_with fail
        refine (kind_val hkd _ _ _).mono ?_
        rintro e w3 ⟨rfl, hF3⟩
        have hO3 := hF3.blk hO (fun h => h)
        have hH3 := hHq.up hF3
        have hF3' := hFt.trans hF3 (fun _ _ h => h) (fun _ _ h => h.elim)
        clear hO hHq hFt hF3 o0 o1 o2 hFq
        have o1 := cell_at hO3 1
        have o2 := cell_at hO3 2
        simp at o1 o2
        have hlo := hF3'.size
        go_wp2_with fail
        go_region_held3 (fun w' => w'.cell? ⟨q, 1, none⟩ = some (.int .i64 s.t) ∧ w'.cell? ⟨q, 2, none⟩ = some (.int .i64 s.x)) ((first | go_keep | (refine ⟨?_, ?_⟩ <;> assumption)))
          ((first
            | (go_at_call 25; refine (p_hput (by first | exact hH3 | exact hH3.up ((Fr.refl _ _).drew)) (by exact hlo) (by omega) _ _).mono ?_; rintro e w4 ⟨rfl, hH4, hF4⟩; have hO4 := hF4.blk (show _ = _ from hO3) (nohk hO3); have p1 := cell_at hO4 1; have p2 := cell_at hO4 2; simp at p1 p2)
            | (go_at_call 26; refine (p_mput (by exact hH4) (by omega) (by omega) _ _).mono ?_; rintro e w5 ⟨rfl, hH5, hF5⟩; have hO5 := hF5.blk (show _ = _ from hO4) (nomk hO4); have p3 := cell_at hO5 1; have p4 := cell_at hO5 2; simp at p3 p4)))
        all_goals
          have hHn := hH5
          have hFn : FrL w.heap.size w w5 := ((hF3'.drew).trans hF4.l (fun _ _ h => h) (fun _ _ h => h)).trans hF5.l (fun _ _ h => h) (fun _ _ h => h)
          clear hH3 hH4 hH5 hF4 hF5 o1 o2 p1 p2 p3 p4 hO3 hO4 hO5
          obtain ⟨av, cv, v0⟩ := hHn.row
          go_wp2
          go_quiet ((go_at_call 33; exact quiet_same (p_len hHn _)))
          go_wp2
          exact ⟨⟨k + 1, by go_num, by omega, m + 1, _, hHn.up ((Fr.refl _ _).drewN _), hTk.put s.t s.x, by omega, hFn.drewN _⟩, by simp [intOf]; omega⟩
      · -- a Cancel
        go_upto_region 10 with fail
        have hO := blk_new wr (.cells #[.int .i64 s.c, .int .i64 s.t, .int .i64 s.x] 51)
        have hFq : Fr (fun _ => False) wr (wr.alloc (.cells #[.int .i64 s.c, .int .i64 s.t, .int .i64 s.x] 51)) := (Fr.refl _ wr).alloc _
        generalize wr.alloc (.cells #[.int .i64 s.c, .int .i64 s.t, .int .i64 s.x] 51) = wq at *
        have hFt := hF.trans hFq (fun _ _ h => h) (fun _ _ h => h.elim)
        have hHq := hH.up hFq
        clear hF hH s0 s1 s2
        have hqlo : w.heap.size ≤ wr.heap.size := hsz
        generalize wr.heap.size = q at *
        have o0 := cell_at hO 0
        have o1 := cell_at hO 1
        have o2 := cell_at hO 2
        simp at o0 o1 o2
        go_wp2_with fail
        refine (kind_val hkd _ _ _).mono ?_
        rintro e w3 ⟨rfl, hF3⟩
        have hO3 := hF3.blk hO (fun h => h)
        have hH3 := hHq.up hF3
        have hF3' := hFt.trans hF3 (fun _ _ h => h) (fun _ _ h => h.elim)
        clear hO hHq hFt hF3 o0 o1 o2 hFq
        have o1 := cell_at hO3 1
        have o2 := cell_at hO3 2
        simp at o1 o2
        have hlo := hF3'.size
        go_wp2_with fail
        go_region_with (first
          | (go_at_call 27; refine (p_hcan (by first | exact hH3 | exact hH3.up ((Fr.refl _ _).drew)) s.x q2).mono ?_; rintro e w4 ⟨rfl, hH4, hF4⟩; have hO4 := hF4.blk (show _ = _ from hO3) (nohk hO3); have p2 := cell_at hO4 2; simp at p2)
          | (go_at_call 28; refine (p_mcan (by exact hH4) (by omega) hKP s.x).mono ?_; rintro e w5 ⟨rfl, hH5, hF5⟩))
        all_goals
          have hHn := hH5
          have hFn : FrL w.heap.size w w5 := ((hF3'.drew).trans hF4.l (fun _ _ h => h) (fun _ _ h => h)).trans hF5.l (fun _ _ h => h) (fun _ _ h => h)
          clear hH3 hH4 hH5 hF4 hF5 o1 o2 p2 hO3 hO4
          obtain ⟨av, cv, v0⟩ := hHn.row
          go_wp2
          go_quiet ((go_at_call 33; exact quiet_same (p_len hHn _)))
          go_wp2
          exact ⟨⟨k + 1, by go_num, by omega, m, _, hHn.up ((Fr.refl _ _).drewN _), hTk.del s.x, by omega, hFn.drewN _⟩, by simp [intOf]; omega⟩
      · -- a Pop
        go_upto_region 10 with fail
        have hO := blk_new wr (.cells #[.int .i64 s.c, .int .i64 s.t, .int .i64 s.x] 51)
        have hFq : Fr (fun _ => False) wr (wr.alloc (.cells #[.int .i64 s.c, .int .i64 s.t, .int .i64 s.x] 51)) := (Fr.refl _ wr).alloc _
        generalize wr.alloc (.cells #[.int .i64 s.c, .int .i64 s.t, .int .i64 s.x] 51) = wq at *
        have hFt := hF.trans hFq (fun _ _ h => h) (fun _ _ h => h.elim)
        have hHq := hH.up hFq
        clear hF hH s0 s1 s2
        have hqlo : w.heap.size ≤ wr.heap.size := hsz
        generalize wr.heap.size = q at *
        have o0 := cell_at hO 0
        have o1 := cell_at hO 1
        have o2 := cell_at hO 2
        simp at o0 o1 o2
        go_wp2_with fail
        refine (kind_val hkd _ _ _).mono ?_
        rintro e w3 ⟨rfl, hF3⟩
        have hO3 := hF3.blk hO (fun h => h)
        have hH3 := hHq.up hF3
        have hF3' := hFt.trans hF3 (fun _ _ h => h) (fun _ _ h => h.elim)
        clear hO hHq hFt hF3 o0 o1 o2 hFq
        have o1 := cell_at hO3 1
        have o2 := cell_at hO3 2
        simp at o1 o2
        have hlo := hF3'.size
        by_cases hM0 : M = []
        · subst hM0
          have HA := hide (gpop_none hH3.1 s.t)
          have HB := hide (mpop_none hH3.2 s.t)
          go_wp2_with fail
          refine (unhide HA).mono ?_
          rintro e' w4 ⟨rfl, rfl⟩
          go_wp2_with fail
          refine (unhide HB).mono ?_
          rintro e' w5 ⟨rfl, hF5⟩
          have hHn := hH3.up hF5
          have hFn := hF3'.trans hF5 (fun _ _ h => h) (fun _ _ h => h.elim)
          clear hH3 hF5 o1 o2 hO3 hF3'
          obtain ⟨av, cv, v0⟩ := hHn.row
          go_wp2
          go_quiet ((go_at_call 33; exact quiet_same (p_len hHn _)))
          go_wp2
          exact ⟨⟨k + 1, by go_num, by omega, m, _, hHn.up ((Fr.refl _ _).drewN _), hTk, by omega, hFn.drewN _⟩, by simp [intOf]; omega⟩
        · obtain ⟨e, he⟩ := le_ex M hM0
          by_cases het : e.t ≤ s.t
          · have HA := hide (p_hpop hH3 e he s.t het)
            go_wp2_with fail
            refine (unhide HA).mono ?_
            rintro e' w4 ⟨rfl, hH4, hF4⟩
            have hO4 := hF4.blk hO3 (nohk hO3)
            have p1 := cell_at hO4 1
            simp at p1
            have HB := hide (p_mpop hH4 (by omega) hKP e he s.t het)
            clear o1 o2
            go_wp2_with fail
            refine (unhide HB).mono ?_
            rintro e' w5 ⟨rfl, hH5, hF5⟩
            have hHn := hH5
            have hFn : FrL w.heap.size w w5 := (hF3'.trans hF4.l (fun _ _ h => h) (fun _ _ h => h)).trans hF5.l (fun _ _ h => h) (fun _ _ h => h)
            clear hH3 hH4 hH5 hF4 hF5 p1 hO3 hO4
            obtain ⟨av, cv, v0⟩ := hHn.row
            go_wp2
            go_quiet ((go_at_call 33; exact quiet_same (p_len hHn _)))
            go_wp2
            exact ⟨⟨k + 1, by go_num, by omega, m, _, hHn.up ((Fr.refl _ _).drewN _), hTk.del e.k, by omega, hFn.drewN _⟩, by simp [intOf]; omega⟩
          · have HA := hide (gpop_no hH3.1 e he s.t (by omega))
            have HB := hide (mpop_no hH3.2 (by omega) hKP e he s.t (by omega))
            go_wp2_with fail
            refine (unhide HA).mono ?_
            rintro e' w4 ⟨rfl, rfl⟩
            go_wp2_with fail
            refine (unhide HB).mono ?_
            rintro e' w5 ⟨rfl, hF5⟩
            have hHn := hH3.up hF5
            have hFn := hF3'.trans hF5 (fun _ _ h => h) (fun _ _ h => h.elim)
            clear hH3 hF5 o1 o2 hO3 hF3'
            obtain ⟨av, cv, v0⟩ := hHn.row
            go_wp2
            go_quiet ((go_at_call 33; exact quiet_same (p_len hHn _)))
            go_wp2
            exact ⟨⟨k + 1, by go_num, by omega, m, _, hHn.up ((Fr.refl _ _).drewN _), hTk, by omega, hFn.drewN _⟩, by simp [intOf]; omega⟩
      · -- a Next
        go_upto_region 10 with fail
        have hO := blk_new wr (.cells #[.int .i64 s.c, .int .i64 s.t, .int .i64 s.x] 51)
        have hFq : Fr (fun _ => False) wr (wr.alloc (.cells #[.int .i64 s.c, .int .i64 s.t, .int .i64 s.x] 51)) := (Fr.refl _ wr).alloc _
        generalize wr.alloc (.cells #[.int .i64 s.c, .int .i64 s.t, .int .i64 s.x] 51) = wq at *
        have hFt := hF.trans hFq (fun _ _ h => h) (fun _ _ h => h.elim)
        have hHq := hH.up hFq
        clear hF hH s0 s1 s2
        have hqlo : w.heap.size ≤ wr.heap.size := hsz
        generalize wr.heap.size = q at *
        have o0 := cell_at hO 0
        have o1 := cell_at hO 1
        have o2 := cell_at hO 2
        simp at o0 o1 o2
        go_wp2_with fail
        refine (kind_val hkd _ _ _).mono ?_
        rintro e w3 ⟨rfl, hF3⟩
        have hO3 := hF3.blk hO (fun h => h)
        have hH3 := hHq.up hF3
        have hF3' := hFt.trans hF3 (fun _ _ h => h) (fun _ _ h => h.elim)
        clear hO hHq hFt hF3 o0 o1 o2 hFq
        have o1 := cell_at hO3 1
        have o2 := cell_at hO3 2
        simp at o1 o2
        have hlo := hF3'.size
        by_cases hM0 : M = []
        · subst hM0
          have HA := hide (gnext_none hH3.1)
          have HB := hide (mnext_none hH3.2)
          go_wp2_with fail
          refine (unhide HA).mono ?_
          rintro e' w4 ⟨rfl, rfl⟩
          go_wp2_with fail
          refine (unhide HB).mono ?_
          rintro e' w5 ⟨rfl, hF5⟩
          have hHn := hH3.up hF5
          have hFn := hF3'.trans hF5 (fun _ _ h => h) (fun _ _ h => h.elim)
          clear hH3 hF5 o1 o2 hO3 hF3'
          obtain ⟨av, cv, v0⟩ := hHn.row
          go_wp2
          go_quiet ((go_at_call 33; exact quiet_same (p_len hHn _)))
          go_wp2
          exact ⟨⟨k + 1, by go_num, by omega, m, _, hHn.up ((Fr.refl _ _).drewN _), hTk, by omega, hFn.drewN _⟩, by simp [intOf]; omega⟩
        · obtain ⟨e, he⟩ := le_ex M hM0
          have HA := hide (gnext_some hH3.1 e he)
          have HB := hide (mnext_some hH3.2 (by omega) hKP e he)
          go_wp2_with fail
          refine (unhide HA).mono ?_
          rintro e' w4 ⟨rfl, rfl⟩
          go_wp2_with fail
          refine (unhide HB).mono ?_
          rintro e' w5 ⟨rfl, hF5⟩
          have hHn := hH3.up hF5
          have hFn := hF3'.trans hF5 (fun _ _ h => h) (fun _ _ h => h.elim)
          clear hH3 hF5 o1 o2 hO3 hF3'
          obtain ⟨av, cv, v0⟩ := hHn.row
          go_wp2
          go_quiet ((go_at_call 33; exact quiet_same (p_len hHn _)))
          go_wp2
          exact ⟨⟨k + 1, by go_num, by omega, m, _, hHn.up ((Fr.refl _ _).drewN _), hTk, by omega, hFn.drewN _⟩, by simp [intOf]; omega⟩
    · have hlt' : ¬ (k : Int) < (N : Int) := by omega
      have HM := hide (mall_calls hH.2 (by omega) hKP)
      go_wp2_with fail
      refine (unhide HM).mono ?_
      rintro e' w6 ⟨⟨a6, c6, S, rfl, hS, hO, hSc, hA⟩, hF6⟩
      have hH6 := hH.up hF6
      have hSl : S.length ≤ 4194304 := by rw [hS.length_eq]; omega
      have HG := hide (given_calls (some ⟨b, 0, none⟩) S S w6 (n := S.length) (c := c6) hSl hA rfl (fun W hW => by
        obtain ⟨⟨g, bm, h1, h2, h3⟩, h4⟩ := hH6.1.up (Fr.ofBelow hW (fun _ => False))
        exact sorted_calls h1 hS hO))
      go_wp2_with fail
      refine (unhide HG).mono ?_
      rintro e' w7 ⟨rfl, hF7⟩
      go_wp2
      go_ret
      exact ⟨rfl, ((hF.trans hF6 (fun _ _ h => h) (fun _ _ h => h.elim)).trans hF7 (fun _ _ h => h) (fun _ _ h => h.elim)).mono (fun i hi h => by omega)⟩

end Go.Proofs.Ytchmbnfalaijhaa
