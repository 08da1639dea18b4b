/-
  HeapKinds walked.
-/
import Derived.Test.YtchmbnfalaijhaaHpTwo
import Derived.Deep.DeepCutAuto
import Derived.Deep.RegionWith
import Derived.Laws.IdiomStrings
namespace Go.Proofs.Ytchmbnfalaijhaa
open Go.RowKit
set_option linter.unusedVariables false
set_option maxRecDepth 100000

theorem nohk2 {w : World} {lo q : Nat} {cs : Array Value} (h : w.heap[q]? = some (.cells cs 51 (0, 0))) : ¬ (lo ≤ q ∧ HK2 w q) := by
  rintro ⟨_, h1⟩
  rcases h1 with ⟨es, c, h1⟩ | ⟨cs', h1⟩ | ⟨cs', h1⟩ | ⟨cs', h1⟩ | ⟨cs', h1⟩ <;> (rw [h] at h1; simp at h1)

/-- the text that stands for a number -/
def txt (x : Int) : ByteArray := ⟨#[UInt8.ofNat (x % 256).toNat]⟩

theorem conv_one {w : World} {b : Nat} {x : Int} (h : w.heap[b]? = some (.cells #[.int .u8 (x % 256)] 5 (0, 0))) :
    (convert 67 9 (.slice (some ⟨b, 0, none⟩) 1 1)).run Try.prog w = .ok (.string (txt x)) w := by
  refine run_convert_bytes_back w 67 9 5 ⟨b, 0, none⟩ 1 [UInt8.ofNat (x % 256).toNat] Try.underlying67 Try.underlying5 Try.underlying9 (fun j hj => ?_)
  obtain rfl : j = 0 := by simp at hj; omega
  have h0 := cell_at h 0
  simp only [Addr.add_lit, Nat.add_zero]
  rw [h0]
  simp
  omega

theorem conv_two (w : World) (o : Obj) (x : Int) :
    (convert 67 9 (.slice (some ⟨w.heap.size + 1, 0, none⟩) 1 1)).run Try.prog ((w.alloc o).alloc (.cells #[.int .u8 (x % 256)] 5)) = .ok (.string (txt x)) ((w.alloc o).alloc (.cells #[.int .u8 (x % 256)] 5)) := by
  refine conv_one ?_
  have := blk_new (w.alloc o) (.cells #[.int .u8 (x % 256)] 5)
  simpa using this

abbrev txts (M : List (En Int)) : List (En ByteArray) := M.map fun e => ⟨e.t, e.k, txt e.x⟩

theorem hasK_map (M : List (En Int)) (k : Int) : hasK (txts M) k = hasK M k := by unfold hasK; rw [List.any_map]; rfl
theorem del_map (M : List (En Int)) (k : Int) : del (txts M) k = txts (del M k) := by unfold del; rw [List.filter_map]; rfl
theorem le_map {M : List (En Int)} {e : En Int} (h : Le M e) : Le (txts M) ⟨e.t, e.k, txt e.x⟩ := by
  refine ⟨List.mem_map.2 ⟨e, h.1, rfl⟩, fun d hd => ?_⟩
  obtain ⟨c, hc, rfl⟩ := List.mem_map.1 hd
  exact h.2 c hc

section
variable {w : World} {lo a b n m : Nat} {M : List (En Int)} {M2 : List (En ByteArray)}

theorem k2_lena (h : K2 w lo a b n m M M2) : Calls Try.prog 33 #[.pointer (some ⟨a, 0, none⟩)] w fun e w' => e = .returned (.int .i64 (M.length : Int)) ∧ w = w' := by
  obtain ⟨g, bm, g2, bm2, h1, h2, h3, h4⟩ := h
  exact hlen_calls h1

theorem k2_lenb {n' : Nat} (h : K2 w lo a b n m M M2) (hn : M2.length = n') : Calls Try.prog 41 #[.pointer (some ⟨b, 0, none⟩)] w fun e w' => e = .returned (.int .i64 (n' : Int)) ∧ w = w' := by
  subst hn
  obtain ⟨g, bm, g2, bm2, h1, h2, h3, h4⟩ := h
  exact Hs.hlen_calls h2
end

def KdW (w0 : World) (a b k : Nat) (w : World) : Prop := ∃ n M, K2 w w0.heap.size a b n n M (txts M) ∧ n ≤ k ∧ FrL w0.heap.size w0 w

set_option maxHeartbeats 60000000 in
theorem kinds_calls {w : World} {a : Option Addr} {n c : Nat} {l : List Stp} (A : StA w.heap.size w a n l) (hn : n ≤ c) (hc : c ≤ 9223372036854775807) :
    Calls Try.prog 7 #[.slice a n c] w fun e w' => e = .returned (.bool true) ∧ Fr (fun _ => False) w w' := by
  have A2 := A.take (min n 3000) (Nat.min_le_left _ _)
  have hN : min n 3000 ≤ 3000 := Nat.min_le_right _ _
  go_enter Try.func7, Try.ntmps7
  go_wp2_with fail
  refine (lives_calls _).mono ?_
  rintro e w1 ⟨rfl, hF1⟩
  go_wp2_with fail
  refine (early_calls _ a n c hn hc).mono ?_
  rintro e w1' ⟨rfl, rfl⟩
  go_wp2_with fail
  refine (hnew_calls _).mono ?_
  rintro e w2 ⟨rfl, hH2, hF2⟩
  go_wp2_with fail
  refine (Hs.hnew_calls _).mono ?_
  rintro e w3 ⟨rfl, hH3, hF3⟩
  have hs1 := hF1.size
  have hs2 := hF2.size
  have hl2 := hH2.lts
  have h0 : KdW w w1.heap.size w2.heap.size 0 w3 := ⟨0, [], ⟨_, _, _, _, hH2.up hF3, hH3, fun i j hi hj => by omega, fun i hi => by omega⟩, Nat.le_refl _, (hF1.trans hF2 (fun _ _ h => h.elim) (fun _ _ h => h.elim)).trans hF3 (fun _ _ h => h) (fun _ _ h => h.elim)⟩
  generalize l.take (min n 3000) = l2 at *
  generalize min n 3000 = N at *
  clear hH2 hH3 hF3 hF2 hF1 hs1 hs2
  generalize w1.heap.size = b at *
  generalize w2.heap.size = b2 at *
  go_wp2_with fail
  go_loopw [5] (fun i wr => ∃ (k : Nat), i = .int .i64 k ∧ k ≤ N ∧ KdW w b b2 k wr) (fun i _ => N - (intOf i).toNat)
  case atStart => exact ⟨0, rfl, by omega, h0⟩
  case round =>
    obtain ⟨k, rfl, hk, m, M, hH, hmk, hF⟩ := hrel
    clear h0 A
    have hsz := hF.size
    by_cases hlt : k < N
    · have hlt' : (k : Int) < (N : Int) := by omega
      obtain ⟨bb, off, s, rfl, hbb, hls, ⟨s0, s1, s2⟩, q0, q1, q2⟩ := (A2.fr hF (fun _ h => h)).stp hlt
      rcases kd_lt s.c with hkd | hkd | hkd | hkd
      · -- a Put
        have hcv := conv_two wr (.cells #[.int .i64 s.c, .int .i64 s.t, .int .i64 s.x] 51) s.x
        go_upto_region 11 with fail
        have hO : ((wr.alloc (.cells #[.int .i64 s.c, .int .i64 s.t, .int .i64 s.x] 51)).alloc (.cells #[.int .u8 (s.x % 256)] 5)).heap[wr.heap.size]? = some (.cells #[.int .i64 s.c, .int .i64 s.t, .int .i64 s.x] 51 (0, 0)) := blk_alloc (blk_new wr _)
        have hFq : Fr (fun _ => False) wr ((wr.alloc (.cells #[.int .i64 s.c, .int .i64 s.t, .int .i64 s.x] 51)).alloc (.cells #[.int .u8 (s.x % 256)] 5)) := ((Fr.refl _ wr).alloc _).alloc _
        generalize (wr.alloc (.cells #[.int .i64 s.c, .int .i64 s.t, .int .i64 s.x] 51)).alloc (.cells #[.int .u8 (s.x % 256)] 5) = wq at *
        have hFt := hF.trans hFq (fun _ _ h => h) (fun _ _ h => h.elim)
        have hHq := hH.up hFq
        clear hF hH s0 s1 s2 hcv
        have hqlo : w.heap.size ≤ wr.heap.size := hsz
        generalize wr.heap.size = q at *
        have o0 := cell_at hO 0
        have o1 := cell_at hO 1
        have o2 := cell_at hO 2
        simp at o0 o1 o2
        go_wp2_with fail
        refine (kind_val hkd _ _ _).mono ?_
        rintro e w3 ⟨rfl, hF3⟩
        have hO3 := hF3.blk hO (fun h => h)
        have hH3 := hHq.up hF3
        have hF3' := hFt.trans hF3 (fun _ _ h => h) (fun _ _ h => h.elim)
        clear hO hHq hFt hF3 o0 o1 o2 hFq
        have o1 := cell_at hO3 1
        have o2 := cell_at hO3 2
        simp at o1 o2
        have hlo := hF3'.size
        go_wp2_with fail
        go_region_with (first
          | (go_at_call 25; refine (k2_puta (by first | exact hH3 | exact hH3.up ((Fr.refl _ _).drew)) (by exact hlo) (by omega) _ _).mono ?_; rintro e w4 ⟨rfl, hH4, hF4⟩; have hO4 := hF4.blk (show _ = _ from hO3) (nohk2 hO3); have p1 := cell_at hO4 1; have p2 := cell_at hO4 2; simp at p1 p2; have hlo4 := Nat.le_trans hlo hF4.size)
          | (go_at_call 37; refine (k2_putb (by exact hH4) (by exact hlo4) (by omega) _ _).mono ?_; rintro e w5 ⟨rfl, hH5, hF5⟩))
        all_goals
          have hHn : K2 w5 w.heap.size b b2 (m + 1) (m + 1) (M ++ [⟨s.t, (m : Int) + 1, s.x⟩]) (txts (M ++ [⟨s.t, (m : Int) + 1, s.x⟩])) := by
            have e1 : txts (M ++ [⟨s.t, (m : Int) + 1, s.x⟩]) = txts M ++ [⟨s.t, (m : Int) + 1, txt s.x⟩] := by simp [txts]
            rw [e1]; exact hH5
          have hFn : FrL w.heap.size w w5 := ((hF3'.drew).trans hF4.l (fun _ _ h => h) (fun _ _ h => h)).trans hF5.l (fun _ _ h => h) (fun _ _ h => h)
          clear hH3 hH4 hH5 hF4 hF5 o1 o2 p1 p2 hO3 hO4
          go_wp2_with (first
            | (go_at_call 33; refine (k2_lena (by exact hHn)).mono ?_; rintro e w8 ⟨rfl, rfl⟩)
            | (go_at_call 41; refine (k2_lenb (by exact hHn) (List.length_map _)).mono ?_; rintro e w8 ⟨rfl, rfl⟩))
          exact ⟨⟨k + 1, by go_num, by omega, m + 1, _, hHn, by omega, hFn⟩, by simp [intOf]; omega⟩
      · -- a Cancel
        have hcv := conv_two wr (.cells #[.int .i64 s.c, .int .i64 s.t, .int .i64 s.x] 51) s.x
        go_upto_region 11 with fail
        have hO : ((wr.alloc (.cells #[.int .i64 s.c, .int .i64 s.t, .int .i64 s.x] 51)).alloc (.cells #[.int .u8 (s.x % 256)] 5)).heap[wr.heap.size]? = some (.cells #[.int .i64 s.c, .int .i64 s.t, .int .i64 s.x] 51 (0, 0)) := blk_alloc (blk_new wr _)
        have hFq : Fr (fun _ => False) wr ((wr.alloc (.cells #[.int .i64 s.c, .int .i64 s.t, .int .i64 s.x] 51)).alloc (.cells #[.int .u8 (s.x % 256)] 5)) := ((Fr.refl _ wr).alloc _).alloc _
        generalize (wr.alloc (.cells #[.int .i64 s.c, .int .i64 s.t, .int .i64 s.x] 51)).alloc (.cells #[.int .u8 (s.x % 256)] 5) = wq at *
        have hFt := hF.trans hFq (fun _ _ h => h) (fun _ _ h => h.elim)
        have hHq := hH.up hFq
        clear hF hH s0 s1 s2 hcv
        have hqlo : w.heap.size ≤ wr.heap.size := hsz
        generalize wr.heap.size = q at *
        have o0 := cell_at hO 0
        have o1 := cell_at hO 1
        have o2 := cell_at hO 2
        simp at o0 o1 o2
        go_wp2_with fail
        refine (kind_val hkd _ _ _).mono ?_
        rintro e w3 ⟨rfl, hF3⟩
        have hO3 := hF3.blk hO (fun h => h)
        have hH3 := hHq.up hF3
        have hF3' := hFt.trans hF3 (fun _ _ h => h) (fun _ _ h => h.elim)
        clear hO hHq hFt hF3 o0 o1 o2 hFq
        have o1 := cell_at hO3 1
        have o2 := cell_at hO3 2
        simp at o1 o2
        have hlo := hF3'.size
        go_wp2_with fail
        go_region_with (first
          | (go_at_call 27; refine (k2_cana (by first | exact hH3 | exact hH3.up ((Fr.refl _ _).drew)) (by exact hlo) s.x q2).mono ?_; rintro e w4 ⟨rfl, hH4, hF4⟩; have hO4 := hF4.blk (show _ = _ from hO3) (nohk2 hO3); have p2 := cell_at hO4 2; simp at p2; have hlo4 := Nat.le_trans hlo hF4.size)
          | (go_at_call 38; refine (k2_canb (by exact hH4) (by exact hlo4) s.x q2).mono ?_; rw [hasK_map, del_map]; rintro e w5 ⟨rfl, hH5, hF5⟩))
        all_goals
          have hHn := hH5
          have hFn : FrL w.heap.size w w5 := ((hF3'.drew).trans hF4.l (fun _ _ h => h) (fun _ _ h => h)).trans hF5.l (fun _ _ h => h) (fun _ _ h => h)
          clear hH3 hH4 hH5 hF4 hF5 o1 o2 p2 hO3 hO4
          go_wp2_with (first
            | (go_at_call 33; refine (k2_lena (by exact hHn)).mono ?_; rintro e w8 ⟨rfl, rfl⟩)
            | (go_at_call 41; refine (k2_lenb (by exact hHn) (List.length_map _)).mono ?_; rintro e w8 ⟨rfl, rfl⟩))
          exact ⟨⟨k + 1, by go_num, by omega, m, _, hHn, by omega, hFn⟩, by simp [intOf]; omega⟩
      · -- a Pop
        have hcv := conv_two wr (.cells #[.int .i64 s.c, .int .i64 s.t, .int .i64 s.x] 51) s.x
        go_upto_region 11 with fail
        have hO : ((wr.alloc (.cells #[.int .i64 s.c, .int .i64 s.t, .int .i64 s.x] 51)).alloc (.cells #[.int .u8 (s.x % 256)] 5)).heap[wr.heap.size]? = some (.cells #[.int .i64 s.c, .int .i64 s.t, .int .i64 s.x] 51 (0, 0)) := blk_alloc (blk_new wr _)
        have hFq : Fr (fun _ => False) wr ((wr.alloc (.cells #[.int .i64 s.c, .int .i64 s.t, .int .i64 s.x] 51)).alloc (.cells #[.int .u8 (s.x % 256)] 5)) := ((Fr.refl _ wr).alloc _).alloc _
        generalize (wr.alloc (.cells #[.int .i64 s.c, .int .i64 s.t, .int .i64 s.x] 51)).alloc (.cells #[.int .u8 (s.x % 256)] 5) = wq at *
        have hFt := hF.trans hFq (fun _ _ h => h) (fun _ _ h => h.elim)
        have hHq := hH.up hFq
        clear hF hH s0 s1 s2 hcv
        have hqlo : w.heap.size ≤ wr.heap.size := hsz
        generalize wr.heap.size = q at *
        have o0 := cell_at hO 0
        have o1 := cell_at hO 1
        have o2 := cell_at hO 2
        simp at o0 o1 o2
        go_wp2_with fail
        refine (kind_val hkd _ _ _).mono ?_
        rintro e w3 ⟨rfl, hF3⟩
        have hO3 := hF3.blk hO (fun h => h)
        have hH3 := hHq.up hF3
        have hF3' := hFt.trans hF3 (fun _ _ h => h) (fun _ _ h => h.elim)
        clear hO hHq hFt hF3 o0 o1 o2 hFq
        have o1 := cell_at hO3 1
        have o2 := cell_at hO3 2
        simp at o1 o2
        have hlo := hF3'.size
        by_cases hM0 : M = []
        · subst hM0
          obtain ⟨g, bm, g2, bm2, h1, h2, h3, h4⟩ := id hH3
          have HA := hide (hpop_none h1 s.t)
          have HB := hide (Hs.hpop_none (h2 : Hs.IsHp _ _ _ _ _ []) s.t)
          have hHn := hH3
          clear h1 h2 h3 h4
          go_wp2_with (first
            | (go_at_call 29; refine (unhide HA).mono ?_; rintro e w8 ⟨rfl, rfl⟩)
            | (go_at_call 39; refine (unhide HB).mono ?_; rintro e w8 ⟨rfl, rfl⟩)
            | (go_at_call 33; refine (k2_lena (by exact hHn)).mono ?_; rintro e w8 ⟨rfl, rfl⟩)
            | (go_at_call 41; refine (k2_lenb (by exact hHn) (List.length_map _)).mono ?_; rintro e w8 ⟨rfl, rfl⟩))
          exact ⟨⟨k + 1, by go_num, by omega, m, _, hHn, by omega, hF3'⟩, by simp [intOf]; omega⟩
        · obtain ⟨e, he⟩ := le_ex M hM0
          by_cases het : e.t ≤ s.t
          · have HA := hide (k2_popa hH3 hlo e he s.t het)
            go_wp2_with fail
            refine (unhide HA).mono ?_
            rintro e' w4 ⟨rfl, hH4, hF4⟩
            have hO4 := hF4.blk hO3 (nohk2 hO3)
            have p1 := cell_at hO4 1
            simp at p1
            have hlo4 := Nat.le_trans hlo hF4.size
            have HB := k2_popb hH4 hlo4 ⟨e.t, e.k, txt e.x⟩ (le_map he) s.t het
            dsimp only at HB
            rw [del_map] at HB
            have HB' := hide HB
            clear HB o1 o2
            go_wp2_with fail
            refine (unhide HB').mono ?_
            rintro e' w5 ⟨rfl, hH5, hF5⟩
            have hHn := hH5
            have hFn : FrL w.heap.size w w5 := (hF3'.trans hF4.l (fun _ _ h => h) (fun _ _ h => h)).trans hF5.l (fun _ _ h => h) (fun _ _ h => h)
            have hcv := conv_one (w := w5.alloc (.cells #[.int .u8 (e.x % 256)] 5)) (x := e.x) (blk_new w5 _)
            have hHm := hHn.up ((Fr.refl _ w5).alloc (.cells #[.int .u8 (e.x % 256)] 5))
            have hFm := hFn.trans ((Fr.refl (fun _ => False) w5).alloc (.cells #[.int .u8 (e.x % 256)] 5)) (fun _ _ h => h) (fun _ _ h => h.elim)
            clear hH3 hH4 hH5 hF4 hF5 p1 hO3 hO4
            go_wp2_with (first
              | (go_at_call 33; refine (k2_lena (by exact hHm)).mono ?_; rintro e w8 ⟨rfl, rfl⟩)
              | (go_at_call 41; refine (k2_lenb (by exact hHm) (List.length_map _)).mono ?_; rintro e w8 ⟨rfl, rfl⟩))
            exact ⟨⟨k + 1, by go_num, by omega, m, _, hHm, by omega, hFm⟩, by simp [intOf]; omega⟩
          · obtain ⟨g, bm, g2, bm2, h1, h2, h3, h4⟩ := id hH3
            have HA := hide (hpop_no h1 e he s.t (by omega))
            have HB := hide (Hs.hpop_no h2 ⟨e.t, e.k, txt e.x⟩ (le_map he) s.t (by show s.t < e.t; omega))
            have hHn := hH3
            clear h1 h2 h3 h4
            go_wp2_with (first
              | (go_at_call 29; refine (unhide HA).mono ?_; rintro e w8 ⟨rfl, rfl⟩)
              | (go_at_call 39; refine (unhide HB).mono ?_; rintro e w8 ⟨rfl, rfl⟩)
              | (go_at_call 33; refine (k2_lena (by exact hHn)).mono ?_; rintro e w8 ⟨rfl, rfl⟩)
              | (go_at_call 41; refine (k2_lenb (by exact hHn) (List.length_map _)).mono ?_; rintro e w8 ⟨rfl, rfl⟩))
            exact ⟨⟨k + 1, by go_num, by omega, m, _, hHn, by omega, hF3'⟩, by simp [intOf]; omega⟩
      · -- a Next
        have hcv := conv_two wr (.cells #[.int .i64 s.c, .int .i64 s.t, .int .i64 s.x] 51) s.x
        go_upto_region 11 with fail
        have hO : ((wr.alloc (.cells #[.int .i64 s.c, .int .i64 s.t, .int .i64 s.x] 51)).alloc (.cells #[.int .u8 (s.x % 256)] 5)).heap[wr.heap.size]? = some (.cells #[.int .i64 s.c, .int .i64 s.t, .int .i64 s.x] 51 (0, 0)) := blk_alloc (blk_new wr _)
        have hFq : Fr (fun _ => False) wr ((wr.alloc (.cells #[.int .i64 s.c, .int .i64 s.t, .int .i64 s.x] 51)).alloc (.cells #[.int .u8 (s.x % 256)] 5)) := ((Fr.refl _ wr).alloc _).alloc _
        generalize (wr.alloc (.cells #[.int .i64 s.c, .int .i64 s.t, .int .i64 s.x] 51)).alloc (.cells #[.int .u8 (s.x % 256)] 5) = wq at *
        have hFt := hF.trans hFq (fun _ _ h => h) (fun _ _ h => h.elim)
        have hHq := hH.up hFq
        clear hF hH s0 s1 s2 hcv
        have hqlo : w.heap.size ≤ wr.heap.size := hsz
        generalize wr.heap.size = q at *
        have o0 := cell_at hO 0
        have o1 := cell_at hO 1
        have o2 := cell_at hO 2
        simp at o0 o1 o2
        go_wp2_with fail
        refine (kind_val hkd _ _ _).mono ?_
        rintro e w3 ⟨rfl, hF3⟩
        have hO3 := hF3.blk hO (fun h => h)
        have hH3 := hHq.up hF3
        have hF3' := hFt.trans hF3 (fun _ _ h => h) (fun _ _ h => h.elim)
        clear hO hHq hFt hF3 o0 o1 o2 hFq
        have o1 := cell_at hO3 1
        have o2 := cell_at hO3 2
        simp at o1 o2
        have hlo := hF3'.size
        by_cases hM0 : M = []
        · subst hM0
          obtain ⟨g, bm, g2, bm2, h1, h2, h3, h4⟩ := id hH3
          have HA := hide (hnext_none h1)
          have HB := hide (Hs.hnext_none (h2 : Hs.IsHp _ _ _ _ _ []))
          have hHn := hH3
          clear h1 h2 h3 h4
          go_wp2_with (first
            | (go_at_call 31; refine (unhide HA).mono ?_; rintro e w8 ⟨rfl, rfl⟩)
            | (go_at_call 40; refine (unhide HB).mono ?_; rintro e w8 ⟨rfl, rfl⟩)
            | (go_at_call 33; refine (k2_lena (by exact hHn)).mono ?_; rintro e w8 ⟨rfl, rfl⟩)
            | (go_at_call 41; refine (k2_lenb (by exact hHn) (List.length_map _)).mono ?_; rintro e w8 ⟨rfl, rfl⟩))
          exact ⟨⟨k + 1, by go_num, by omega, m, _, hHn, by omega, hF3'⟩, by simp [intOf]; omega⟩
        · obtain ⟨e, he⟩ := le_ex M hM0
          obtain ⟨g, bm, g2, bm2, h1, h2, h3, h4⟩ := id hH3
          have HA := hide (hnext_some h1 e he)
          have HB := hide (Hs.hnext_some h2 ⟨e.t, e.k, txt e.x⟩ (le_map he))
          have hHn := hH3
          clear h1 h2 h3 h4
          go_wp2_with (first
            | (go_at_call 31; refine (unhide HA).mono ?_; rintro e w8 ⟨rfl, rfl⟩)
            | (go_at_call 40; refine (unhide HB).mono ?_; rintro e w8 ⟨rfl, rfl⟩)
            | (go_at_call 33; refine (k2_lena (by exact hHn)).mono ?_; rintro e w8 ⟨rfl, rfl⟩)
            | (go_at_call 41; refine (k2_lenb (by exact hHn) (List.length_map _)).mono ?_; rintro e w8 ⟨rfl, rfl⟩))
          exact ⟨⟨k + 1, by go_num, by omega, m, _, hHn, by omega, hF3'⟩, by simp [intOf]; omega⟩
    · have hlt' : ¬ (k : Int) < (N : Int) := by omega
      go_wp2
      go_ret
      exact ⟨rfl, hF.mono (fun i hi h => by omega)⟩

end Go.Proofs.Ytchmbnfalaijhaa
