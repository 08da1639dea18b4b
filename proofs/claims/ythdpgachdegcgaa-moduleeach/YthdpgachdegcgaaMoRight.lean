/-
  Which modules are right: rightTimeout, rightClause, rightTables, rightCode, rightTypes, rightActor, rightModule, Right.
-/
import Derived.Test.YthdpgachdegcgaaMoLong
namespace Go.Proofs.Ythdpgachdegcgaa
open Go.RowKit
set_option linter.unusedVariables false
set_option maxRecDepth 8192

set_option maxHeartbeats 400000 in
theorem rtime_calls (n : Int) (w : World) : Calls Try.prog 93 #[.int .i64 n] w fun e w' => e = .returned (.bool (timeB n)) ∧ w = w' := by
  by_cases h : n ≥ -1
  · by_cases h2 : n < 200
    all_goals
      go_enter Try.func93, Try.ntmps93
      go_wp2
      go_ret
      exact ⟨mret_bool (by unfold timeB; simp; omega), rfl⟩
  · go_enter Try.func93, Try.ntmps93
    go_wp2
    go_ret
    exact ⟨mret_bool (by unfold timeB; simp; omega), rfl⟩

set_option maxHeartbeats 400000 in
theorem rclause_calls (p q : Int) (w : World) : Calls Try.prog 97 #[.agg #[.int .i64 p, .int .i64 q]] w fun e w' => e = .returned (.bool (clauseB (p, q))) ∧ Q0 w w' := by
  by_cases h : p ≥ 0
  · by_cases h2 : p < 8
    · by_cases h3 : q ≥ 0
      · by_cases h4 : q < 200
        all_goals
          go_enter Try.func97, Try.ntmps97
          go_wp2
          go_ret
          exact ⟨mret_bool (by unfold clauseB; simp; omega), (Fr.refl _ w).alloc _⟩
      · go_enter Try.func97, Try.ntmps97
        go_wp2
        go_ret
        exact ⟨mret_bool (by unfold clauseB; simp; omega), (Fr.refl _ w).alloc _⟩
    · go_enter Try.func97, Try.ntmps97
      go_wp2
      go_ret
      exact ⟨mret_bool (by unfold clauseB; simp; omega), (Fr.refl _ w).alloc _⟩
  · go_enter Try.func97, Try.ntmps97
    go_wp2
    go_ret
    exact ⟨mret_bool (by unfold clauseB; simp; omega), (Fr.refl _ w).alloc _⟩

theorem all_upto {α : Type} {f : α → Bool} {l : List α} (h : ∀ (j : Nat) (y : α), l[j]? = some y → f y = true) : l.all f = true :=
  List.all_eq_true.2 fun x hx => by obtain ⟨i, hi, rfl⟩ := List.getElem_of_mem hx; exact h i _ (List.getElem?_eq_getElem hi)
theorem all_not {α : Type} {f : α → Bool} {l : List α} {k : Nat} {x : α} (hx : l[k]? = some x) (h : f x = false) : l.all f = false :=
  List.all_eq_false.2 ⟨x, List.mem_of_getElem? hx, by simp [h]⟩
theorem below_step {α : Type} {f : α → Bool} {l : List α} {k : Nat} {x : α} (h : ∀ (j : Nat) (y : α), j < k → l[j]? = some y → f y = true) (hx : l[k]? = some x) (hf : f x = true) : ∀ (j : Nat) (y : α), j < k + 1 → l[j]? = some y → f y = true := by
  intro j y hj hy
  rcases Nat.lt_or_ge j k with h' | h'
  · exact h j y h' hy
  · obtain rfl : j = k := by omega
    rw [hx] at hy; cases hy; exact hf

set_option maxHeartbeats 1000000 in
theorem rcode_calls {lo hi : Nat} {w : World} {a : Option Addr} {n : Nat} {l : List (Int × Int)} (h : PrA lo hi w a n l) (c : Nat) :
    Calls Try.prog 79 #[.slice a n c] w fun e w' => e = .returned (.bool (rcodeB l)) ∧ Q0 w w' := by
  have hs := h.small
  go_enter Try.func79, Try.ntmps79
  go_wp2
  go_loopw [7] (fun ix w' => ∃ k : Nat, k ≤ n ∧ ix = .int .i64 k ∧ (∀ (j : Nat) y, j < k → l[j]? = some y → rightB y.1 y.2 = true) ∧ Q0 w w') (fun ix w' => n - (intOf ix).toNat)
  case atStart => exact ⟨0, Nat.zero_le _, rfl, fun j y hj => absurd hj (by omega), Fr.refl _ _⟩
  case round =>
    obtain ⟨k, hk, rfl, hall, hF⟩ := hrel
    have Hall := hide hall
    clear hall
    by_cases hlt : k < n
    · obtain ⟨b, off, p, q, rfl, _, _, hx, _, _, c0, c1⟩ := PrA.get (PrA.fr h hF q0_no) hlt
      have HX := hide hx
      clear hx
      cases hr : rightB p q
      · have hd := hide hr
        clear hr
        go_wp2_with (go_at_call 96; refine (right_calls _ _ _).mono ?_; rw [unhide hd]; rintro e w' ⟨rfl, hF2⟩)
        go_ret
        exact ⟨mret_bool (by unfold rcodeB; rw [all_not (unhide HX) (unhide hd)]; rfl), (hF.alloc _).then hF2⟩
      · have hd := hide hr
        clear hr
        go_wp2_with (go_at_call 96; refine (right_calls _ _ _).mono ?_; rw [unhide hd]; rintro e w' ⟨rfl, hF2⟩)
        go_roundw
        case rel => exact ⟨k + 1, by omega, by go_num, below_step (f := fun y => rightB y.1 y.2) (unhide Hall) (unhide HX) (unhide hd), (hF.alloc _).then hF2⟩
        case measure => simp [intOf]; omega
    · have HE : Hid (rcodeB l = decide (0 < n)) := hide (by
        have hl := h.len
        unfold rcodeB
        rw [all_upto (fun j y hy => unhide Hall j y (by have := (List.getElem?_eq_some_iff.1 hy).1; omega) hy)]
        cases l with
        | nil => simp at hl; subst hl; rfl
        | cons x r => simp at hl; simp; omega)
      go_wp2
      go_ret
      exact ⟨mret_bool (unhide HE).symm, hF⟩

set_option maxHeartbeats 1000000 in
theorem rtabs_calls {lo hi : Nat} {w : World} {a : Option Addr} {n : Nat} {l : List (List (Int × Int) × Int)} (h : TbA lo hi w a n l) (c : Nat) :
    Calls Try.prog 80 #[.slice a n c] w fun e w' => e = .returned (.bool (rtabsB l)) ∧ Q0 w w' := by
  have hs := h.small
  go_enter Try.func80, Try.ntmps80
  go_wp2
  go_loopw [9] (fun ix w' => ∃ k : Nat, k ≤ n ∧ ix = .int .i64 k ∧ (∀ (j : Nat) y, j < k → l[j]? = some y → rtabB y = true) ∧ Q0 w w') (fun ix w' => n - (intOf ix).toNat)
  case atStart => exact ⟨0, Nat.zero_le _, rfl, fun j y hj => absurd hj (by omega), Fr.refl _ _⟩
  case round =>
    obtain ⟨k, hk, rfl, hall, hF⟩ := hrel
    have Hall := hide hall
    clear hall
    by_cases hlt : k < n
    · obtain ⟨b, off, a', n', c', cl, tm, rfl, _, _, hx, hp, _, c0, c1⟩ := TbA.get (TbA.fr h hF q0_no) hlt
      have HX := hide hx
      have hps := hp.small
      clear hx
      cases hr : timeB tm
      · have hd := hide hr
        clear hr
        go_wp2_with (go_at_call 93; refine (rtime_calls _ _).mono ?_; rw [unhide hd]; rintro e w' ⟨rfl, rfl⟩)
        go_ret
        exact ⟨mret_bool (all_not (unhide HX) (by unfold rtabB; rw [unhide hd]; rfl)).symm, hF.alloc _⟩
      · have hd := hide hr
        clear hr
        have hp1 := hide (PrA.fr hp ((Fr.refl (fun _ => False) wr).alloc (.cells #[.slice a' n' c', .int .i64 tm] 87)) q0_no)
        have hF1 := hF.alloc (.cells #[.slice a' n' c', .int .i64 tm] 87)
        clear hp
        go_wp2_with (go_at_call 93; refine (rtime_calls _ _).mono ?_; rw [unhide hd]; rintro e w' ⟨rfl, rfl⟩)
        generalize wr.alloc (.cells #[.slice a' n' c', .int .i64 tm] 87) = w1 at *
        go_loopw [20] (fun ix w' => ∃ k : Nat, k ≤ n' ∧ ix = .int .i64 k ∧ (∀ (j : Nat) y, j < k → cl[j]? = some y → clauseB y = true) ∧ Q0 w1 w') (fun ix w' => n' - (intOf ix).toNat)
        case atStart => exact ⟨0, Nat.zero_le _, rfl, fun j y hj => absurd hj (by omega), Fr.refl _ _⟩
        case round =>
          obtain ⟨i, hi, rfl, hall2, hF2⟩ := hrel
          have Hall2 := hide hall2
          clear hall2
          by_cases hlt2 : i < n'
          · obtain ⟨b2, off2, p, q, rfl, _, _, hx2, _, _, d0, d1⟩ := PrA.get (PrA.fr (unhide hp1) hF2 q0_no) hlt2
            have HX2 := hide hx2
            clear hx2
            cases hr2 : clauseB (p, q)
            · have hd2 := hide hr2
              clear hr2
              go_wp2_with (go_at_call 97; refine (rclause_calls _ _ _).mono ?_; rw [unhide hd2]; rintro e w' ⟨rfl, hF3⟩)
              go_ret
              exact ⟨mret_bool (all_not (unhide HX) (by unfold rtabB; rw [all_not (unhide HX2) (unhide hd2)]; simp)).symm, (hF1.then (hF2.alloc _)).then hF3⟩
            · have hd2 := hide hr2
              clear hr2
              go_wp2_with (go_at_call 97; refine (rclause_calls _ _ _).mono ?_; rw [unhide hd2]; rintro e w' ⟨rfl, hF3⟩)
              go_roundw
              case rel => exact ⟨i + 1, by omega, by go_num, below_step (unhide Hall2) (unhide HX2) (unhide hd2), (hF2.alloc _).then hF3⟩
              case measure => simp [intOf]; omega
          · have HE := hide (show rtabB (cl, tm) = true by
              have hl := (unhide hp1).len
              unfold rtabB
              rw [all_upto (fun j y hy => unhide Hall2 j y (by have := (List.getElem?_eq_some_iff.1 hy).1; omega) hy)]
              simp; exact unhide hd)
            go_wp2
            go_roundw
            case rel => exact ⟨k + 1, by omega, by go_num, below_step (unhide Hall) (unhide HX) (unhide HE), hF1.then hF2⟩
            case measure => simp [intOf]; omega
    · have HE : Hid (rtabsB l = true) := hide (all_upto (fun j y hy => unhide Hall j y (by have := (List.getElem?_eq_some_iff.1 hy).1; have := h.len; omega) hy))
      go_wp2
      go_ret
      exact ⟨mret_bool (unhide HE).symm, hF⟩

theorem prefix_take (l k : List Int) : l.isPrefixOf k = decide (l = k.take l.length) := by
  rw [Bool.eq_iff_iff, List.isPrefixOf_iff_prefix, decide_eq_true_iff]
  constructor
  · rintro ⟨r, rfl⟩; simp
  · intro h; refine ⟨k.drop l.length, ?_⟩
    conv => lhs; lhs; rw [h]
    exact List.take_append_drop _ _
theorem prefix_long {l k : List Int} (h : k.length < l.length) : l.isPrefixOf k = false := by
  rw [Bool.eq_false_iff]; intro h'; have := (List.isPrefixOf_iff_prefix.1 h').length_le; omega

theorem ksame_val {lo hi lo' hi' : Nat} {w : World} {a a' : Option Addr} {n n' : Nat} {l l' : List Int} {r : Bool} (hr : decide (l = l') = r) (h : TyA lo hi w a n l) (h' : TyA lo' hi' w a' n' l') (c c' : Nat) :
    Calls Try.prog 45 #[.slice a n c, .slice a' n' c'] w fun e w' => e = .returned (.bool r) ∧ ∃ q, w' = w.drewN q := by
  subst hr; exact ksame_calls h h' c c'

/-- an actor in a block of its own -/
theorem acBox (w : World) (v0 v1 v2 v3 v4 : Value) : ∃ w1, w.alloc (.cells #[v0, v1, v2, v3, v4] 42) = w1 ∧ Q0 w w1 ∧ w1.cell? ⟨w.heap.size, 0, none⟩ = some v0 ∧ w1.cell? ⟨w.heap.size, 1, none⟩ = some v1 ∧ w1.cell? ⟨w.heap.size, 2, none⟩ = some v2 ∧ w1.cell? ⟨w.heap.size, 3, none⟩ = some v3 ∧ w1.cell? ⟨w.heap.size, 4, none⟩ = some v4 ∧
    w1.heap[w.heap.size]? = some (.cells #[v0, v1, v2, v3, v4] 42 (0, 0)) := by
  have hb := blk_new w (.cells #[v0, v1, v2, v3, v4] 42)
  exact ⟨_, rfl, (Fr.refl _ w).alloc _, cell_at hb 0, cell_at hb 1, cell_at hb 2, cell_at hb 3, cell_at hb 4, hb⟩

/-- an actor that is handed in: its five lists by name -/
theorem AcS.parts {lo hi : Nat} {w : World} {s : Fin 5 → Option Addr × Nat × Nat} {x : Ac} (h : AcS lo hi w s x) : ∃ a0 n0 c0 a1 n1 c1 a2 n2 c2 a3 n3 c3 a4 n4 c4, acV s = .agg #[.slice a0 n0 c0, .slice a1 n1 c1, .slice a2 n2 c2, .slice a3 n3 c3, .slice a4 n4 c4] ∧
    TyA lo hi w a0 n0 x.ps ∧ TyA lo hi w a1 n1 x.rs ∧ TyA lo hi w a2 n2 x.ms ∧ PrA lo hi w a3 n3 x.cs ∧ TbA lo hi w a4 n4 x.ts ∧ n1 ≤ c1 ∧ c1 ≤ 9223372036854775807 :=
  ⟨_, _, _, _, _, _, _, _, _, _, _, _, _, _, _, rfl, h.ps, h.rs, h.ms, h.cs, h.ts, h.rc.1, h.rc.2⟩

set_option maxHeartbeats 2000000 in
theorem rtypes_calls {lo hi : Nat} {w : World} {s : Fin 5 → Option Addr × Nat × Nat} {x : Ac} (h : AcS lo hi w s x) (m : Int) :
    Calls Try.prog 78 #[acV s, .int .i64 m] w fun e w' => e = .returned (.bool (rtypesB x m)) ∧ Q0 w w' := by
  obtain ⟨a0, n0, c0, a1, n1, c1, a2, n2, c2, a3, n3, c3, a4, n4, c4, hv, h0, h1, h2, h3, h4, r0, r1⟩ := h.parts
  rw [hv]
  have s0 := h0.small
  have s1 := h1.small
  have s2 := h2.small
  obtain ⟨w1, e1, hf1, k0, k1, k2, _⟩ := acBox w (.slice a0 n0 c0) (.slice a1 n1 c1) (.slice a2 n2 c2) (.slice a3 n3 c3) (.slice a4 n4 c4)
  have E1 := hide e1
  have HP := hide (TyA.fr h0 hf1 q0_no)
  have HR := hide (TyA.fr h1 hf1 q0_no)
  have HM := hide (TyA.fr h2 hf1 q0_no)
  clear h h0 h1 h2 h3 h4 hv e1
  have hpl := (unhide HP).len
  have hrl := (unhide HR).len
  have HL := hide hpl
  have HL2 := hide hrl
  clear hpl hrl
  cases hA1 : x.rs.all (krightB · m)
  · have H1 := hide hA1
    have HE := hide (show rtypesB x m = false by unfold rtypesB; rw [hA1]; rfl)
    clear hA1
    go_enter Try.func78, Try.ntmps78
    go_wp2
    rw [unhide E1]
    go_quiet ((go_at_call 95; exact quiet_same (kall_val (unhide H1) (TyA.drewN (unhide HR) _) _)))
    go_wp2
    go_ret
    exact ⟨mret_bool (unhide HE).symm, hf1.drewN _⟩
  cases hA2 : x.ms.all (krightB · m)
  · have H1 := hide hA1
    have H2 := hide hA2
    have CR := hide (fun (q c : Nat) => quiet_same (n := q) (kall_val hA1 (TyA.drewN (unhide HR) q) c))
    have CM := hide (fun (q c : Nat) => quiet_same (n := q) (kall_val hA2 (TyA.drewN (unhide HM) q) c))
    have HE := hide (show rtypesB x m = false by unfold rtypesB; rw [hA1, hA2]; rfl)
    clear hA1 hA2
    go_enter Try.func78, Try.ntmps78
    go_wp2
    rw [unhide E1]
    go_quiet ((go_at_call 95; first | with_reducible exact (unhide CR) _ _ | with_reducible exact (unhide CM) _ _))
    go_wp2
    go_ret
    exact ⟨mret_bool (unhide HE).symm, hf1.drewN _⟩
  have H1 := hide hA1
  have H2 := hide hA2
  have CR := hide (fun (q c : Nat) => quiet_same (n := q) (kall_val hA1 (TyA.drewN (unhide HR) q) c))
  have CM := hide (fun (q c : Nat) => quiet_same (n := q) (kall_val hA2 (TyA.drewN (unhide HM) q) c))
  by_cases hn : (n0 : Int) ≤ (n1 : Int)
  · have HE := hide (show rtypesB x m = decide (x.ps = x.rs.take n0) by unfold rtypesB; rw [hA1, hA2, prefix_take, unhide HL]; rfl)
    have HT := hide (Arr.take (unhide HR) (k := n0) (by omega))
    generalize hd : decide (x.ps = x.rs.take n0) = r at *
    have HD := hide hd
    clear hA1 hA2 hd
    have hc : (n0 : Int) ≤ (c1 : Int) := by omega
    have hc' : n0 ≤ c1 := by omega
    go_enter Try.func78, Try.ntmps78
    go_wp2
    rw [unhide E1]
    refine wp_region_quiet_lit (by kernel_rfl) (by kernel_rfl) ?_
    repeat (first | go_big_quiet_step (first
      | (go_at_call 95; first | with_reducible exact (unhide CR) _ _ | with_reducible exact (unhide CM) _ _)
      | (go_at_call 45; exact quiet_drew (ksame_val (unhide HD) (TyA.drewN (unhide HP) _) (TyA.drewN (unhide HT) _) _ _))) | quiet_step (first
      | (go_at_call 95; first | with_reducible exact (unhide CR) _ _ | with_reducible exact (unhide CM) _ _)
      | (go_at_call 45; exact quiet_drew (ksame_val (unhide HD) (TyA.drewN (unhide HP) _) (TyA.drewN (unhide HT) _) _ _))))
    refine wpQuiet_nil ?_
    intro _ hw'
    obtain ⟨nq, rfl⟩ := hw'
    go_wp2
    go_ret
    exact ⟨mret_bool (unhide HE).symm, hf1.drewN _⟩
  · have HE := hide (show rtypesB x m = false by unfold rtypesB; rw [hA1, hA2, prefix_long (by rw [unhide HL, unhide HL2]; omega)]; rfl)
    have hd1 : decide ((n0 : Int) ≤ (n1 : Int)) = false := decide_eq_false hn
    have hd2 : decide (n0 ≤ n1) = false := decide_eq_false (by omega)
    clear hA1 hA2
    go_enter Try.func78, Try.ntmps78
    go_wp2
    rw [unhide E1]
    go_quiet ((go_at_call 95; first | with_reducible exact (unhide CR) _ _ | with_reducible exact (unhide CM) _ _))
    go_wp2
    go_ret
    exact ⟨mret_bool (unhide HE).symm, hf1.drewN _⟩

set_option maxHeartbeats 2000000 in
theorem ractor_calls {lo hi : Nat} {w : World} {s : Fin 5 → Option Addr × Nat × Nat} {x : Ac} (h : AcS lo hi w s x) (m : Int) :
    Calls Try.prog 56 #[acV s, .int .i64 m] w fun e w' => e = .returned (.bool (rightA x m)) ∧ Q0 w w' := by
  have hf1 : Q0 w (w.alloc (.cells #[slV (s 0), slV (s 1), slV (s 2), slV (s 3), slV (s 4)] 42)) := (Fr.refl _ w).alloc _
  have hb1 : (w.alloc (.cells #[slV (s 0), slV (s 1), slV (s 2), slV (s 3), slV (s 4)] 42)).heap[w.heap.size]? = some (.cells #[slV (s 0), slV (s 1), slV (s 2), slV (s 3), slV (s 4)] 42 (0, 0)) := blk_new w _
  have H1 := hide (h.fr hf1 q0_no)
  clear h
  cases hA1 : rtypesB x m
  · have HE := hide (show rightA x m = false by unfold rightA; rw [hA1]; rfl)
    have H2 := hide hA1
    clear hA1
    go_enter Try.func56, Try.ntmps56
    go_wp2_with (go_at_call 78; refine (rtypes_calls (unhide H1) m).mono ?_; rw [unhide H2]; rintro e w2 ⟨rfl, hF2⟩)
    go_ret
    exact ⟨mret_bool (unhide HE).symm, hf1.then hF2⟩
  cases hA2 : rcodeB x.cs
  · have HE := hide (show rightA x m = false by unfold rightA; rw [hA1, hA2]; rfl)
    have H2 := hide hA1
    have H3 := hide hA2
    clear hA1 hA2
    go_enter Try.func56, Try.ntmps56
    go_wp2_with (first
      | (go_at_call 78; refine (rtypes_calls (unhide H1) m).mono ?_; rw [unhide H2]; rintro e w2 ⟨rfl, hF2⟩; have k3 := cell_at (hF2.blk hb1 (fun h => h)) 3; simp at k3; have H4 := hide ((unhide H1).fr hF2 q0_no))
      | (go_at_call 79; refine (rcode_calls (unhide H4).cs _).mono ?_; rw [unhide H3]; rintro e w3 ⟨rfl, hF3⟩))
    go_ret
    exact ⟨mret_bool (unhide HE).symm, (hf1.then hF2).then hF3⟩
  have HE := hide (show rightA x m = rtabsB x.ts by unfold rightA; rw [hA1, hA2]; rfl)
  have H2 := hide hA1
  have H3 := hide hA2
  clear hA1 hA2
  go_enter Try.func56, Try.ntmps56
  go_wp2_with (first
    | (go_at_call 78; refine (rtypes_calls (unhide H1) m).mono ?_; rw [unhide H2]; rintro e w2 ⟨rfl, hF2⟩; have b2 := hide (hF2.blk hb1 (fun h => h)); have k3 := cell_at (unhide b2) 3; simp at k3; have H4 := hide ((unhide H1).fr hF2 q0_no))
    | (go_at_call 79; refine (rcode_calls (unhide H4).cs _).mono ?_; rw [unhide H3]; rintro e w3 ⟨rfl, hF3⟩; have k4 := cell_at (hF3.blk (unhide b2) (fun h => h)) 4; simp at k4; have H5 := hide ((unhide H4).fr hF3 q0_no))
    | (go_at_call 80; refine (rtabs_calls (unhide H5).ts _).mono ?_; rintro e w4 ⟨rfl, hF4⟩))
  go_ret
  exact ⟨mret_bool (unhide HE).symm, ((hf1.then hF2).then hF3).then hF4⟩

end Go.Proofs.Ythdpgachdegcgaa
