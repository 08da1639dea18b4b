/-
  HeapTickets walked.
-/
import Derived.Test.YtchmbnfalaijhaaHpModel
import Derived.Deep.DeepCutAuto
namespace Go.Proofs.Ytchmbnfalaijhaa
open Go.RowKit
set_option linter.unusedVariables false
set_option maxRecDepth 100000

/-- the tickets rise, and each thing is its ticket's number -/
structure TkI (M : List (En Int)) (m : Nat) : Prop where
  tk : Tk M m
  eq : ∀ e ∈ M, e.x = e.k

theorem TkI.put {M : List (En Int)} {m : Nat} (h : TkI M m) (t : Int) : TkI (M ++ [⟨t, (m : Int) + 1, (m : Int) + 1⟩]) (m + 1) :=
  ⟨h.tk.put t _, fun e he => by
    rcases List.mem_append.1 he with he | he
    · exact h.eq e he
    · simp at he; subst he; rfl⟩

theorem TkI.del {M : List (En Int)} {m : Nat} (h : TkI M m) (k : Int) : TkI (del M k) m := ⟨h.tk.del k, fun e he => h.eq e (List.mem_filter.1 he).1⟩

theorem nohk {w : World} {lo q : Nat} {cs : Array Value} (h : w.heap[q]? = some (.cells cs 51 (0, 0))) : ¬ (lo ≤ q ∧ HK w q) := by
  rintro ⟨_, h1⟩
  rcases h1 with ⟨es, c, h1⟩ | ⟨cs', h1⟩ | ⟨cs', h1⟩ <;> (rw [h] at h1; simp at h1)

/-- what stands at the head of each round -/
def TkW (w0 : World) (b k : Nat) (m : Nat) (w : World) : Prop := ∃ M, Hp w w0.heap.size b m M ∧ TkI M m ∧ m ≤ k ∧ FrL w0.heap.size w0 w

set_option maxHeartbeats 8000000 in
theorem tickets_calls {w : World} {a : Option Addr} {n c : Nat} {l : List Stp} (A : StA w.heap.size w a n l) (hn : n ≤ c) (hc : c ≤ 9223372036854775807) :
    Calls Try.prog 10 #[.slice a n c] w fun e w' => e = .returned (.bool true) ∧ Fr (fun _ => False) w w' := by
  have A2 := A.take (min n 3000) (Nat.min_le_left _ _)
  have hN : min n 3000 ≤ 3000 := Nat.min_le_right _ _
  go_enter Try.func10, Try.ntmps10
  go_wp2_with fail
  refine (lives_calls _).mono ?_
  rintro e w1 ⟨rfl, hF1⟩
  go_wp2_with fail
  refine (early_calls _ a n c hn hc).mono ?_
  rintro e w1' ⟨rfl, rfl⟩
  go_wp2_with fail
  refine (gnew _).mono ?_
  rintro e w2 ⟨rfl, hH2, hF2⟩
  have hs1 := hF1.size
  have h0 : TkW w w1.heap.size 0 0 w2 := ⟨[], hH2.lower hs1, ⟨Tk.nil, fun e he => by cases he⟩, Nat.le_refl _, (hF1.trans hF2 (fun _ _ h => h.elim) (fun _ _ h => h.elim))⟩
  generalize l.take (min n 3000) = l2 at *
  generalize min n 3000 = N at *
  generalize w1.heap.size = b at *
  go_wp2_with fail
  go_loopw [4, 5] (fun m i wr => ∃ (m' k : Nat), m = .int .i64 m' ∧ i = .int .i64 k ∧ k ≤ N ∧ TkW w b k m' wr) (fun _ i _ => N - (intOf i).toNat)
  case atStart => exact ⟨0, 0, rfl, rfl, by omega, h0⟩
  case round =>
    obtain ⟨m, k, rfl, rfl, hk, M, hH, hT, hmk, hF⟩ := hrel
    clear h0 hH2 hF2 hF1 A
    have hsz := hF.size
    by_cases hlt : k < N
    · have hlt' : (k : Int) < (N : Int) := by omega
      obtain ⟨bb, off, s, rfl, hbb, hls, ⟨s0, s1, s2⟩, q0, q1, q2⟩ := (A2.fr hF (fun _ h => h)).stp hlt
      rcases kd_lt s.c with hkd | hkd | hkd | hkd
      · -- a Put
        go_upto_region 10 with fail
        have hO := blk_new wr (.cells #[.int .i64 s.c, .int .i64 s.t, .int .i64 s.x] 51)
        have hFq : Fr (fun _ => False) wr (wr.alloc (.cells #[.int .i64 s.c, .int .i64 s.t, .int .i64 s.x] 51)) := (Fr.refl _ wr).alloc _
        have hq : w.heap.size ≤ wr.heap.size := hsz
        generalize wr.alloc (.cells #[.int .i64 s.c, .int .i64 s.t, .int .i64 s.x] 51) = wq at *
        have hFt := hF.trans hFq (fun _ _ h => h) (fun _ _ h => h.elim)
        have hHq := hH.up hFq
        clear hF hH s0 s1 s2
        generalize wr.heap.size = q at *
        have o0 := cell_at hO 0
        have o1 := cell_at hO 1
        have o2 := cell_at hO 2
        simp at o0 o1 o2
        go_wp2_with fail
        refine (kind_val hkd _ _ _).mono ?_
        rintro e w3 ⟨rfl, hF3⟩
        have hO3 := hF3.blk hO (fun h => h)
        have hH3 := hHq.up hF3
        have hF3' := hFt.trans hF3 (fun _ _ h => h) (fun _ _ h => h.elim)
        clear hO hHq hFt hF3 o0 o1 o2 hFq
        have o1 := cell_at hO3 1
        have o2 := cell_at hO3 2
        simp at o1 o2
        have hlo := hF3'.size
        have HPU := hide (gput hH3 hlo (by omega) s.t ((m : Int) + 1))
        go_wp2_with fail
        refine (unhide HPU).mono ?_
        rintro e w4 ⟨rfl, hH4, hF4⟩
        go_wp2
        exact ⟨⟨m + 1, k + 1, by go_num, by go_num, by omega, _, hH4, hT.put s.t, by omega, hF3'.trans hF4.l (fun _ _ h => h) (fun _ _ h => h)⟩, by simp [intOf]; omega⟩
      · -- a Cancel
        go_upto_region 10 with fail
        have hO := blk_new wr (.cells #[.int .i64 s.c, .int .i64 s.t, .int .i64 s.x] 51)
        have hFq : Fr (fun _ => False) wr (wr.alloc (.cells #[.int .i64 s.c, .int .i64 s.t, .int .i64 s.x] 51)) := (Fr.refl _ wr).alloc _
        have hq : w.heap.size ≤ wr.heap.size := hsz
        generalize wr.alloc (.cells #[.int .i64 s.c, .int .i64 s.t, .int .i64 s.x] 51) = wq at *
        have hFt := hF.trans hFq (fun _ _ h => h) (fun _ _ h => h.elim)
        have hHq := hH.up hFq
        clear hF hH s0 s1 s2
        generalize wr.heap.size = q at *
        have o0 := cell_at hO 0
        have o1 := cell_at hO 1
        have o2 := cell_at hO 2
        simp at o0 o1 o2
        go_wp2_with fail
        refine (kind_val hkd _ _ _).mono ?_
        rintro e w3 ⟨rfl, hF3⟩
        have hO3 := hF3.blk hO (fun h => h)
        have hH3 := hHq.up hF3
        have hF3' := hFt.trans hF3 (fun _ _ h => h) (fun _ _ h => h.elim)
        clear hO hHq hFt hF3 o0 o1 o2 hFq
        have o1 := cell_at hO3 1
        have o2 := cell_at hO3 2
        simp at o1 o2
        have hlo := hF3'.size
        have HLE := hide (glen hH3)
        have HCA := hide (gcancel hH3 s.x q2)
        go_wp2_with fail
        refine (unhide HLE).mono ?_
        rintro e w4 ⟨rfl, rfl⟩
        go_wp2_with fail
        refine (unhide HCA).mono ?_
        rintro e w4 ⟨rfl, hH4, hF4⟩
        have hF4' := hF3'.trans hF4.l (fun _ _ h => h) (fun _ _ h => h)
        have hT4 := hT.del s.x
        cases hk : hasK M s.x
        · go_wp2
          exact ⟨⟨m, k + 1, rfl, by go_num, by omega, _, hH4, hT4, by omega, hF4'⟩, by simp [intOf]; omega⟩
        · have hlen := Tk.delLen hT.tk.rise s.x hk
          have HCB := hide (gcancel hH4 s.x q2)
          have hgone := Tk.gone (M := M) s.x
          obtain ⟨y, hy, hyk⟩ := (hasK_iff M s.x).1 hk
          have hb := hT.tk.bd y hy
          rw [hyk] at hb
          have hO4 := hF4.blk hO3 (nohk hO3)
          have p2 := cell_at hO4 2
          simp at p2
          clear o1 o2
          have hlo4 := hF4'.size
          go_wp2_with fail
          refine (unhide HCB).mono ?_
          rw [hgone]
          rintro e w5 ⟨rfl, hH5, hF5⟩
          rw [del_of_not hgone] at hH5
          have hF5' := hF4'.trans hF5.l (fun _ _ h => h) (fun _ _ h => h)
          have hO5 := hF5.blk hO4 (nohk hO4)
          clear p2
          have p2 := cell_at hO5 2
          simp at p2
          have hlI : ((del M s.x).length : Int) = (M.length : Int) - 1 := by omega
          have HLF := glen hH5
          rw [hlI] at HLF
          replace HLF := hide HLF
          clear hlI
          obtain ⟨hb1, hb2⟩ := hb
          have hml := hT.tk.len
          have hml2 : 1 ≤ M.length := by omega
          clear hlen hk hyk hy HCB HCA HLE hgone
          go_wp2_with fail
          refine (unhide HLF).mono ?_
          rintro e w6 ⟨rfl, rfl⟩
          go_wp2
          exact ⟨⟨m, k + 1, rfl, by go_num, by omega, _, hH5, hT4, by omega, hF5'⟩, by simp [intOf]; omega⟩
      · -- a Pop
        go_upto_region 10 with fail
        have hO := blk_new wr (.cells #[.int .i64 s.c, .int .i64 s.t, .int .i64 s.x] 51)
        have hFq : Fr (fun _ => False) wr (wr.alloc (.cells #[.int .i64 s.c, .int .i64 s.t, .int .i64 s.x] 51)) := (Fr.refl _ wr).alloc _
        have hq : w.heap.size ≤ wr.heap.size := hsz
        generalize wr.alloc (.cells #[.int .i64 s.c, .int .i64 s.t, .int .i64 s.x] 51) = wq at *
        have hFt := hF.trans hFq (fun _ _ h => h) (fun _ _ h => h.elim)
        have hHq := hH.up hFq
        clear hF hH s0 s1 s2
        generalize wr.heap.size = q at *
        have o0 := cell_at hO 0
        have o1 := cell_at hO 1
        have o2 := cell_at hO 2
        simp at o0 o1 o2
        go_wp2_with fail
        refine (kind_val hkd _ _ _).mono ?_
        rintro e w3 ⟨rfl, hF3⟩
        have hO3 := hF3.blk hO (fun h => h)
        have hH3 := hHq.up hF3
        have hF3' := hFt.trans hF3 (fun _ _ h => h) (fun _ _ h => h.elim)
        clear hO hHq hFt hF3 o0 o1 o2 hFq
        have o1 := cell_at hO3 1
        have o2 := cell_at hO3 2
        simp at o1 o2
        have hlo := hF3'.size
        by_cases hM0 : M = []
        · subst hM0
          have HPO := hide (gpop_none hH3 s.t)
          go_wp2_with fail
          refine (unhide HPO).mono ?_
          rintro e w4 ⟨rfl, rfl⟩
          go_wp2
          exact ⟨⟨m, k + 1, rfl, by go_num, by omega, _, hH3, hT, by omega, hF3'⟩, by simp [intOf]; omega⟩
        · obtain ⟨e, he⟩ := le_ex M hM0
          by_cases het : e.t ≤ s.t
          · have HPO := hide (gpop_yes hH3 e he s.t het)
            have hxk := hT.eq e he.1
            have hb := hT.tk.bd e he.1
            rw [hxk] at HPO
            go_wp2_with fail
            refine (unhide HPO).mono ?_
            rintro e' w4 ⟨rfl, hH4, hF4⟩
            have hF4' := hF3'.trans hF4.l (fun _ _ h => h) (fun _ _ h => h)
            have hT4 := hT.del e.k
            have hgone := Tk.gone (M := M) e.k
            have HCB := hide (gcancel hH4 e.k (by have := hT.tk.len; omega))
            obtain ⟨hb1, hb2⟩ := hb
            have hlo4 := hF4'.size
            clear hxk o1 o2 HPO
            go_wp2_with fail
            refine (unhide HCB).mono ?_
            rw [hgone, del_of_not hgone]
            rintro e' w5 ⟨rfl, hH5, hF5⟩
            go_wp2
            exact ⟨⟨m, k + 1, rfl, by go_num, by omega, _, hH5, hT4, by omega, hF4'.trans hF5.l (fun _ _ h => h) (fun _ _ h => h)⟩, by simp [intOf]; omega⟩
          · have HPO := hide (gpop_no hH3 e he s.t (by omega))
            go_wp2_with fail
            refine (unhide HPO).mono ?_
            rintro e' w4 ⟨rfl, rfl⟩
            go_wp2
            exact ⟨⟨m, k + 1, rfl, by go_num, by omega, _, hH3, hT, by omega, hF3'⟩, by simp [intOf]; omega⟩
      · -- a Next: nothing
        go_upto_region 10 with fail
        have hO := blk_new wr (.cells #[.int .i64 s.c, .int .i64 s.t, .int .i64 s.x] 51)
        have hFq : Fr (fun _ => False) wr (wr.alloc (.cells #[.int .i64 s.c, .int .i64 s.t, .int .i64 s.x] 51)) := (Fr.refl _ wr).alloc _
        have hq : w.heap.size ≤ wr.heap.size := hsz
        generalize wr.alloc (.cells #[.int .i64 s.c, .int .i64 s.t, .int .i64 s.x] 51) = wq at *
        have hFt := hF.trans hFq (fun _ _ h => h) (fun _ _ h => h.elim)
        have hHq := hH.up hFq
        clear hF hH s0 s1 s2
        generalize wr.heap.size = q at *
        have o0 := cell_at hO 0
        have o1 := cell_at hO 1
        have o2 := cell_at hO 2
        simp at o0 o1 o2
        go_wp2_with fail
        refine (kind_val hkd _ _ _).mono ?_
        rintro e w3 ⟨rfl, hF3⟩
        have hO3 := hF3.blk hO (fun h => h)
        have hH3 := hHq.up hF3
        have hF3' := hFt.trans hF3 (fun _ _ h => h) (fun _ _ h => h.elim)
        clear hO hHq hFt hF3 o0 o1 o2 hFq
        have o1 := cell_at hO3 1
        have o2 := cell_at hO3 2
        simp at o1 o2
        have hlo := hF3'.size
        go_wp2
        exact ⟨⟨m, k + 1, rfl, by go_num, by omega, _, hH3, hT, by omega, hF3'⟩, by simp [intOf]; omega⟩
    · have hlt' : ¬ (k : Int) < (N : Int) := by omega
      have hl := hT.tk.len
      have hle : (M.length : Int) ≤ (m : Int) := by omega
      go_wp2_with (go_at_call 33; refine (glen hH).mono ?_; rintro e w3 ⟨rfl, rfl⟩)
      go_ret
      exact ⟨rfl, hF.mono (fun i hi h => by omega)⟩

end Go.Proofs.Ytchmbnfalaijhaa
