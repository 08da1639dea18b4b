/-
  The document's Name, Types, Parse and Names: they answer as the plain functions say; they make memory of their own at most.
-/
import Derived.Test.YtbckmmodobennaaDoorKnNames
namespace Go.Proofs.YtbckmmodobennaaDoor
open Go.RowKit
set_option linter.unusedVariables false

set_option maxHeartbeats 1000000 in
theorem refName_pid (t k : Int) (d : UInt8) (w : World) (h : (t, k, d) ∈ [(16, 0, 48), (17, 1, 49), (18, 2, 50), (19, 3, 51), (20, 4, 52), (21, 5, 53), (22, 6, 54), (23, 7, 55)]) :
    Calls Tryd.prog 22 #[.int .i64 t] w fun e w' => e = .returned (.string ⟨#[112, 105, 100, d]⟩) ∧ w = w' := by
  simp only [List.mem_cons, Prod.mk.injEq, List.not_mem_nil, or_false] at h
  rcases h with ⟨rfl, rfl, rfl⟩ | ⟨rfl, rfl, rfl⟩ | ⟨rfl, rfl, rfl⟩ | ⟨rfl, rfl, rfl⟩ | ⟨rfl, rfl, rfl⟩ | ⟨rfl, rfl, rfl⟩ | ⟨rfl, rfl, rfl⟩ | ⟨rfl, rfl, rfl⟩
  all_goals
    go_enter Tryd.func22, Tryd.ntmps22
    go_wp2_with (go_at_call 11; refine (refActor_calls _ _).mono ?_; rintro e w' ⟨rfl, rfl⟩; rw [(act_yes (by omega) (by omega)).1, (act_yes (by omega) (by omega)).2])
    go_ret
    exact ⟨rfl, rfl⟩

set_option maxHeartbeats 1000000 in
theorem refName_calls (t : Int) (w : World) : Calls Tryd.prog 22 #[.int .i64 t] w fun e w' => e = .returned (.string (nameS t)) ∧ w = w' := by
  by_cases h1 : t = 1
  · subst h1
    go_enter Tryd.func22, Tryd.ntmps22
    go_wp2
    go_ret
    exact ⟨rfl, rfl⟩
  by_cases h2 : t = 2
  · subst h2
    go_enter Tryd.func22, Tryd.ntmps22
    go_wp2
    go_ret
    exact ⟨rfl, rfl⟩
  by_cases h : 16 ≤ t ∧ t < 24
  · have hc : t = 16 ∨ t = 17 ∨ t = 18 ∨ t = 19 ∨ t = 20 ∨ t = 21 ∨ t = 22 ∨ t = 23 := by omega
    clear h1 h2 h
    rcases hc with rfl | rfl | rfl | rfl | rfl | rfl | rfl | rfl
    · exact (refName_pid 16 0 48 w (by decide)).mono fun e w' h => h
    · exact (refName_pid 17 1 49 w (by decide)).mono fun e w' h => h
    · exact (refName_pid 18 2 50 w (by decide)).mono fun e w' h => h
    · exact (refName_pid 19 3 51 w (by decide)).mono fun e w' h => h
    · exact (refName_pid 20 4 52 w (by decide)).mono fun e w' h => h
    · exact (refName_pid 21 5 53 w (by decide)).mono fun e w' h => h
    · exact (refName_pid 22 6 54 w (by decide)).mono fun e w' h => h
    · exact (refName_pid 23 7 55 w (by decide)).mono fun e w' h => h
  · have hn : nameS t = ⟨#[]⟩ := by unfold nameS nameL; rw [if_neg h1, if_neg h2, if_neg h]
    rw [hn]
    have b1 : (t == 1) = false := beq_eq_false_iff_ne.2 h1
    have b2 : (t == 2) = false := beq_eq_false_iff_ne.2 h2
    have Ha := hide (act_no (t := t) (by omega)).1
    have Hb := hide (act_no (t := t) (by omega)).2
    clear h1 h2 h hn
    go_enter Tryd.func22, Tryd.ntmps22
    go_wp2_with (go_at_call 11; refine (refActor_calls _ _).mono ?_; rintro e w' ⟨rfl, rfl⟩; rw [unhide Ha, unhide Hb])
    go_ret
    exact ⟨rfl, rfl⟩

/-- what is owned is a row of types -/
theorem row_of_owns {w : World} {base n : Nat} {v : Value} {ys : List Int} (h : w.ownsRow base 22 1 v n (ys.map (Value.int .i64))) (hr : ∀ y ∈ ys, -9223372036854775808 ≤ y ∧ y ≤ 9223372036854775807) (hn : n ≤ 9223372036854775807) :
    ∃ a c, v = .slice a n c ∧ Row w a n (fun i => ys.getD i 0) ∧ n = ys.length := by
  have hl : n = ys.length := by have := h.1; simp at this; exact this.symm
  rcases h.2 with ⟨rfl, rfl⟩ | ⟨g, cap, cur, rfl, hb, hg, hnc, hcm, hcs, htake⟩
  · exact ⟨none, 0, rfl, ⟨by omega, .inl rfl⟩, hl⟩
  · refine ⟨_, cap, rfl, ⟨hn, .inr ⟨g, 0, rfl, lt_of_blk hg, fun i hi => ⟨?_, ?_⟩⟩⟩, hl⟩
    · apply hr
      rw [List.getD_eq_getElem?_getD, List.getElem?_eq_getElem (by omega : i < ys.length)]
      exact List.getElem_mem _
    · rw [Nat.zero_add, cell_at hg i]
      have e := congrArg (·[i]?) htake
      simp only [Nat.mul_one, List.getElem?_take, if_pos hi, Array.getElem?_toList, List.getElem?_map] at e
      rw [e, List.getElem?_eq_getElem (by omega : i < ys.length), List.getD_eq_getElem?_getD, List.getElem?_eq_getElem (by omega : i < ys.length)]
      rfl

theorem new_c1 (wr : World) (x : Value) (t : TypeId) : ∀ (j : Nat) (u : Value), [x][j]? = some u → (wr.alloc (Obj.cells #[x] t)).cell? ((⟨wr.heap.size, 0, none⟩ : Addr).add j) = some u := by
  intro j u hj
  match j, hj with
  | 0, hj => simp at hj; subst hj; simp [Addr.add]
theorem new_c2 (x : Int) (k : IntKind) : ∀ (u : Value), u ∈ [Value.int k x] → u.oneCell' = true := by
  intro u hu; simp at hu; subst hu; rfl

def typesL (k : Nat) : List Int := [1, 2] ++ (List.range k).map fun (j : Nat) => 16 + (j : Int)
theorem typesL_succ (k : Nat) : typesL (k + 1) = typesL k ++ [16 + (k : Int)] := by unfold typesL; rw [List.range_succ]; simp
theorem typesL_length (k : Nat) : (typesL k).length = k + 2 := by simp [typesL]

set_option maxHeartbeats 1000000 in
theorem types_calls (w : World) : Calls Tryd.prog 28 #[] w fun e w' => ∃ v, e = .returned v ∧ w'.ownsRow w.heap.size 22 1 v 10 ((typesL 8).map (Value.int .i64)) ∧ Below w.heap.size w w' := by
  obtain ⟨i, hi, hz0, hz1, hz2⟩ := info_parts infoType
  go_enter Tryd.func28, Tryd.ntmps28
  go_wp2
  go_loopw [1, 2] (fun v ix w' => ∃ k : Nat, k ≤ 8 ∧ ix = .int .i64 k ∧ w'.ownsRow w.heap.size 22 1 v (k + 2) ((typesL k).map (Value.int .i64)) ∧ Below w.heap.size w w') (fun v ix w' => 8 - (intOf ix).toNat)
  case atStart =>
    refine ⟨0, Nat.zero_le _, rfl, ⟨rfl, .inr ⟨w.heap.size, 2, #[.int .i64 1, .int .i64 2], rfl, Nat.le_refl _, blk_new _ _, by omega, by unfold maxLen; omega, rfl, rfl⟩⟩, (Below.refl _ _).alloc (Nat.le_refl _) _⟩
  case round =>
    obtain ⟨k, hk, rfl, hown, hbel⟩ := hrel
    by_cases hlt : k < 8
    · have hlt' : (k : Int) < 8 := by omega
      have hl := typesL_length k
      have HS := hide (typesL_succ k)
      go_wp2_with (at_builtin; refine wpList_append_own _ rfl _ _ 23 rfl w.heap.size 22 i (.int .i64 0) 1 8 Tryd.underlying23 hi hz0 hz1 hz2 rfl (by decide) _ _ _ rfl (hown.alloc _) ⟨wr.heap.size, 0, none⟩ 1 1 [.int .i64 (16 + (k : Int))] rfl rfl (new_c1 _ _ _) (new_c2 _ _) (by unfold maxLen; omega) (by omega) (by have := hbel.size; simp; omega) ?_)
      intro v' w' ho hgr hnn
      have hb' : Below w.heap.size w w' := (hbel.alloc hbel.size _).grown hgr (by have := hbel.size; simp; omega) (fun g hg => (hown.lt g hg).1)
      have ho' : w'.ownsRow w.heap.size 22 1 v' (k + 1 + 2) ((typesL (k + 1)).map (Value.int .i64)) := by
        rw [unhide HS, List.map_append, show k + 1 + 2 = k + 2 + 1 by omega]; exact ho
      clear ho hgr hnn hown hbel
      go_wp2
      go_roundw
      case rel => exact ⟨k + 1, by omega, by go_num, ho', hb'⟩
      case measure => simp [intOf]; omega
    · have hk8 : k = 8 := by omega
      subst hk8
      go_wp2
      go_ret
      exact ⟨_, rfl, hown, hbel⟩

def typeAt (j : Nat) : Int := (typesL 8).getD j 0
theorem typeAt_right {j : Nat} (h : j < 10) : rightB (typeAt j) 8 = true := by
  have : ∀ j : Fin 10, rightB (typeAt j.1) 8 = true := by decide
  exact this ⟨j, h⟩
theorem typeAt_all {t : Int} (h : rightB t 8 = true) : ∃ j, j < 10 ∧ typeAt j = t := by
  have hm := right8 h
  have key : ∀ t ∈ ([1, 2, 16, 17, 18, 19, 20, 21, 22, 23] : List Int), ∃ j, j < 10 ∧ typeAt j = t := by decide
  exact key t hm

theorem find_yes {l : List UInt8} {j : Nat} (hj : j < 10) (h : nameL (typeAt j) = l) : parseB l = true ∧ parseT l = typeAt j := by
  have := parse_name (typeAt_right hj)
  rw [h] at this
  exact ⟨this.1, this.2.1⟩
theorem find_no {l : List UInt8} (h : ∀ j, j < 10 → nameL (typeAt j) ≠ l) : parseB l = false ∧ parseT l = 0 := by
  cases hb : parseB l
  · exact ⟨rfl, parse_no hb⟩
  · obtain ⟨h1, h2⟩ := name_parse hb
    obtain ⟨j, hj, e⟩ := typeAt_all h2
    exact absurd (e ▸ h1) (h j hj)

set_option maxHeartbeats 1000000 in
theorem refParse_calls (s : ByteArray) (w : World) :
    Calls Tryd.prog 18 #[.string s] w fun e w' => e = .returned (.tuple #[.int .i64 (parseT s.data.toList), .bool (parseB s.data.toList)]) ∧ Below w.heap.size w w' := by
  go_enter Tryd.func18, Tryd.ntmps18
  go_wp2_with fail
  refine (types_calls _).mono ?_
  rintro e w1 ⟨v, rfl, hown, hbel⟩
  obtain ⟨a, c, rfl, hR, -⟩ := row_of_owns hown (by decide) (by omega)
  clear hown
  go_wp2
  go_loopw [5] (fun ix w' => ∃ k : Nat, k ≤ 10 ∧ ix = .int .i64 k ∧ (∀ j, j < k → nameL (typeAt j) ≠ s.data.toList) ∧ w' = w1) (fun ix w' => 10 - (intOf ix).toNat)
  case atStart => exact ⟨0, Nat.zero_le _, rfl, fun j hj => absurd hj (by omega), rfl⟩
  case round =>
    obtain ⟨k, hk, rfl, hall, rfl⟩ := hrel
    have Hall := hide hall
    clear hall
    by_cases hlt : k < 10
    · obtain ⟨b, off, rfl, _, _, hc0⟩ := hR.get hlt
      have hc : wr.cell? ⟨b, off + k, none⟩ = some (.int .i64 (typeAt k)) := hc0
      clear hc0
      have hlt' : (k : Int) < 10 := by omega
      by_cases he : nameL (typeAt k) = s.data.toList
      · have hb : ((nameS (typeAt k)).toList == s.toList) = true := by rw [ByteArray.toList_eq, ByteArray.toList_eq, beq_iff_eq]; exact he
        have HF := hide (find_yes hlt he)
        clear he
        go_wp2_with (go_at_call 22; refine (refName_calls _ _).mono ?_; rintro e w' ⟨rfl, rfl⟩)
        go_ret2
        rw [(unhide HF).1, (unhide HF).2]
        exact ⟨rfl, hbel⟩
      · have hb : ((nameS (typeAt k)).toList == s.toList) = false := by rw [ByteArray.toList_eq, ByteArray.toList_eq, beq_eq_false_iff_ne]; exact he
        have He := hide he
        clear he
        go_wp2_with (go_at_call 22; refine (refName_calls _ _).mono ?_; rintro e w' ⟨rfl, rfl⟩)
        go_roundw
        case rel => exact ⟨k + 1, by omega, by go_num, fun j hj => by rcases Nat.lt_or_ge j k with h | h; exact unhide Hall j h; rw [show j = k by omega]; exact unhide He, by trivial⟩
        case measure => simp [intOf]; omega
    · have hk10 : k = 10 := by omega
      subst hk10
      have HF := hide (find_no (unhide Hall))
      go_wp2
      go_ret2
      rw [(unhide HF).1, (unhide HF).2]
      exact ⟨rfl, hbel⟩

/-- the names so far -/
def preN (X : Nat → Int) : Nat → List UInt8
  | 0 => []
  | k + 1 => (if k = 0 then [] else preN X k ++ [44]) ++ nameL (X k)

theorem join_snoc {ps : List (List UInt8)} (h : ps ≠ []) (q : List UInt8) : Lib.join (ps ++ [q]) [44] = Lib.join ps [44] ++ [44] ++ q := by
  induction ps with
  | nil => exact absurd rfl h
  | cons p r ih =>
    by_cases hr : r = []
    · subst hr; rw [List.cons_append, List.nil_append, join_cons_ne (by simp), Lib.join_one, Lib.join_one]; simp
    · rw [List.cons_append, join_cons_ne (by simp), ih hr, join_cons_ne hr]; simp

theorem preN_join (X : Nat → Int) (n : Nat) (h : n ≠ 0) : preN X n = Lib.join ((listX X n).map nameL) [44] := by
  induction n with
  | zero => exact absurd rfl h
  | succ k ih =>
    unfold listX
    rw [List.range_succ, List.map_append, List.map_append]
    by_cases hk : k = 0
    · subst hk; simp [preN, Lib.join_one]
    · rw [preN, if_neg hk, ih hk]
      exact (join_snoc (fun e => hk (by simpa [listX] using e)) _).symm

theorem preN_len (X : Nat → Int) (n : Nat) : (preN X n).length ≤ 5 * n := by
  induction n with
  | zero => simp [preN]
  | succ k ih =>
    have := nameL_len (X k)
    unfold preN
    split
    · simp; omega
    · simp; omega

theorem app_data (a b : ByteArray) : (a ++ b).data.toList = a.data.toList ++ b.data.toList := by simp [ByteArray.data_append]

set_option maxHeartbeats 1000000 in
theorem refNames_calls (a : Option Addr) (n cap : Nat) (X : Nat → Int) (w : World) (hR : Row w a n X) (hn : n ≤ 8388609) :
    Calls Tryd.prog 24 #[.slice a n cap] w fun e w' => e = .returned (.string (namesS X n)) ∧ w = w' := by
  cases hal : allX X n 8
  · have hE : namesS X n = ⟨#[]⟩ := by rw [allX_list] at hal; unfold namesS; rw [namesL_no hal]
    rw [hE]
    have Hal := hide hal
    clear hal hE
    go_enter Tryd.func24, Tryd.ntmps24
    go_wp2_with (go_at_call 15; refine (refAll_calls _ _ _ _ _ _ hR).mono ?_; rintro e w' ⟨rfl, rfl⟩; rw [unhide Hal])
    go_ret
    exact ⟨rfl, rfl⟩
  · have Hal := hide hal
    clear hal
    go_enter Tryd.func24, Tryd.ntmps24
    go_wp2_with (go_at_call 15; refine (refAll_calls _ _ _ _ _ _ hR).mono ?_; rintro e w' ⟨rfl, rfl⟩; rw [unhide Hal])
    go_loop [3, 4] (fun t ix => ∃ (k : Nat) (b : ByteArray), k ≤ n ∧ ix = .int .i64 k ∧ t = .string b ∧ b.data.toList = preN X k) (fun t ix => n - (intOf ix).toNat)
    case atStart => exact ⟨0, _, Nat.zero_le _, rfl, rfl, rfl⟩
    case round =>
      obtain ⟨k, b, hk, rfl, rfl, hb⟩ := hrel
      have hbl : b.size ≤ 5 * k := by have := preN_len X k; rw [← hb] at this; simpa using this
      have Hb := hide hb
      clear hb
      by_cases hlt : k < n
      · obtain ⟨b0, off, rfl, _, _, hc⟩ := hR.get hlt
        have hnl : (nameS (X k)).size ≤ 4 := nameL_len (X k)
        by_cases hk0 : k = 0
        · have hk0' : ¬ (0 : Int) < (k : Int) := by omega
          have HE : Hid ((b ++ nameS (X k)).data.toList = preN X (k + 1)) := hide (by
            subst hk0
            rw [app_data, unhide Hb]; rfl)
          clear hk0
          go_wp2_with (go_at_call 22; refine (refName_calls _ _).mono ?_; rintro e w' ⟨rfl, rfl⟩)
          go_round
          case rel => exact ⟨k + 1, _, by omega, by go_num, rfl, unhide HE⟩
          case measure => simp [intOf]; omega
        · have hk0' : (0 : Int) < (k : Int) := by omega
          have HE : Hid ((b ++ ⟨#[44]⟩ ++ nameS (X k)).data.toList = preN X (k + 1)) := hide (by
            rw [app_data, app_data, unhide Hb, preN, if_neg hk0]; rfl)
          clear hk0
          go_wp2_with (go_at_call 22; refine (refName_calls _ _).mono ?_; rintro e w' ⟨rfl, rfl⟩)
          go_round
          case rel => exact ⟨k + 1, _, by omega, by go_num, rfl, unhide HE⟩
          case measure => simp [intOf]; omega
      · have hkn : k = n := by omega
        subst hkn
        by_cases hk0 : k = 0
        · subst hk0
          go_wp2
          go_ret
          exact ⟨rfl, rfl⟩
        · have hb0 : ((k : Int) == 0) = false := by rw [beq_eq_false_iff_ne]; omega
          have HE : Hid (namesS X k = b) := hide (by
            have h1 := unhide Hal
            rw [allX_list] at h1
            apply WideShapes.bytes_inj
            rw [unhide Hb, preN_join X k hk0, ← namesL_all (fun e => hk0 (listX_nil.1 e)) h1]
            simp [namesS])
          clear hk0
          go_wp2
          go_ret
          rw [unhide HE]
          exact ⟨rfl, rfl⟩
end Go.Proofs.YtbckmmodobennaaDoor
