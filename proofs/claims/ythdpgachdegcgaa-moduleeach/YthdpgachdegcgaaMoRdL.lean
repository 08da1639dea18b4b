/-
  The reader of a module's parts: code, clauses, timeout, tables.
-/
import Derived.Test.YthdpgachdegcgaaMoRdI
namespace Go.Proofs.Ythdpgachdegcgaa
open Go.RowKit
set_option linter.unusedVariables false
set_option maxRecDepth 8192

theorem set_other {w : World} {g p p' : Nat} {u v : Value} (h : w.cell? ⟨g, p, none⟩ = some v) (hp : p' ≠ p) : (w.setCell ⟨g, p', none⟩ u).cell? ⟨g, p, none⟩ = some v := by
  have hlt := World.block_lt_of_cell? w ⟨g, p, none⟩ h
  unfold World.cell? at h ⊢
  have e : (w.setCell ⟨g, p', none⟩ u).heap = w.heap.modify g (fun o => match o with | .cells c t m => .cells (c.setIfInBounds p' u) t m | o => o) := by
    unfold World.setCell; congr 1
  show (match (w.setCell ⟨g, p', none⟩ u).heap[g]? with | some (.cells c _ _) => _ | _ => none) = _
  rw [e, Array.getElem?_modify]
  simp only [if_true] at h ⊢
  cases ho : w.heap[g]? with
  | none => rw [ho] at h; simp at h
  | some o =>
    rw [ho] at h
    cases o with
    | cells c t m => simp at h ⊢; rw [Array.getElem?_setIfInBounds, if_neg hp]; exact h
    | _ => simp at h

theorem rIns_in (s : RS) : (-9223372036854775808 ≤ (rIns s).1.1 ∧ (rIns s).1.1 ≤ 9223372036854775807) ∧ (-9223372036854775808 ≤ (rIns s).1.2 ∧ (rIns s).1.2 ≤ 9223372036854775807) := by
  show (-9223372036854775808 ≤ (readN s.l).1 ∧ (readN s.l).1 ≤ 9223372036854775807) ∧ (-9223372036854775808 ≤ (readN s.l).2.1 ∧ (readN s.l).2.1 ≤ 9223372036854775807)
  rcases readN_back s.l with ⟨_, h1, h2, _⟩ | ⟨_, h, _⟩
  · rw [h1, h2]; omega
  · have h1 := right_fits h
    have h2 := (isOpB_iff _).1 (right_isOp h)
    omega

theorem rTime_in (s : RS) : -9223372036854775808 ≤ (rTime s).1 ∧ (rTime s).1 ≤ 9223372036854775807 := by
  unfold rTime
  split
  · rename_i h; simp [timeB] at h; show -9223372036854775808 ≤ sgn _ ∧ sgn _ ≤ 9223372036854775807; omega
  · show -9223372036854775808 ≤ (0 : Int) ∧ (0 : Int) ≤ 9223372036854775807; omega

set_option maxHeartbeats 1000000 in
theorem rdTime_calls {w : World} {q b : Nat} {Tx : List UInt8} {s : RS} (h : MR w q b Tx s) :
    Calls Try.prog 74 #[.pointer (some ⟨q, 0, none⟩)] w fun e w' => e = .returned (.int .i64 (rTime s).1) ∧ MR w' q b Tx (rTime s).2 ∧ Fr (QR q b) w w' := by
  have k0 := h.c0
  have H := hide h
  have hl := h.left
  clear h
  unfold rTime
  cases hn : timeB (sgn (rnum s.l s.E).1)
  · have HN := hide hn
    clear hn
    rw [if_neg (by simp)]
    go_enter Try.func74, Try.ntmps74
    go_wp2_with (first
      | (go_at_call 92; refine (rint_calls (unhide H).rd (by omega)).mono ?_; rintro e w2 ⟨rfl, hR, hF⟩; have H2 := hide ((unhide H).on hR hF (rnum_suf _ _)); have f2 := (unhide H2).f2; have c2 := (unhide H2).c2)
      | (go_at_call 93; refine (rtime_calls _ _).mono ?_; rw [unhide HN]; rintro e w' ⟨rfl, rfl⟩))
    go_ret
    exact ⟨rfl, (unhide H2).wrong.1, frQt (frQ hF) (unhide H2).wrong.2⟩
  · have HN := hide hn
    clear hn
    rw [if_pos (by simp)]
    go_enter Try.func74, Try.ntmps74
    go_wp2_with (first
      | (go_at_call 92; refine (rint_calls (unhide H).rd (by omega)).mono ?_; rintro e w2 ⟨rfl, hR, hF⟩)
      | (go_at_call 93; refine (rtime_calls _ _).mono ?_; rw [unhide HN]; rintro e w' ⟨rfl, rfl⟩))
    go_ret
    exact ⟨rfl, (unhide H).on hR hF (rnum_suf _ _), frQ hF⟩

set_option maxHeartbeats 2000000 in
theorem rdCode_calls {w : World} {q b : Nat} {Tx : List UInt8} {s : RS} (h : MR w q b Tx s) :
    Calls Try.prog 52 #[.pointer (some ⟨q, 0, none⟩)] w fun e w' => ∃ g n, e = .returned (.slice (some ⟨g, 0, none⟩) n n) ∧
      PrA w.heap.size w'.heap.size w' (some ⟨g, 0, none⟩) n (rCode s).1 ∧ MR w' q b Tx (rCode s).2 ∧ Fr (QR q b) w w' := by
  have hle := rUp_le 200 s
  have hup := upTo_calls h 200 (by omega)
  have hql := h.lt
  unfold rCode
  generalize rUp 200 s = p at *
  obtain ⟨N, s1⟩ := p
  dsimp only at *
  have HU := hide hup
  clear hup h
  go_enter Try.func52, Try.ntmps52
  go_wp2_with (first
    | (go_at_call 33; refine (unhide HU).mono ?_; rintro e w2 ⟨rfl, hM2, hF2⟩; have HM2 := hide hM2; clear hM2)
    | (at_make; refine wpList_make_n _ rfl _ _ 39 rfl 37 (insV 0 0) 2 16 Try.underlying39 infoIn .i64 .i64 N rfl rfl (by omega) (by unfold maxLen; omega) ?_; intro cs hcs))
  have hsz2 := hF2.size
  have HF3 : Hid (Fill (fun _ _ => PrV) 2 N w2.heap.size 37 (w2.alloc (.cells cs 37)) ([] : List (Int × Int))) := hide (Fill.start (blk_new w2 _) hcs)
  have q3 : Fr (fun _ => False) w2 (w2.alloc (.cells cs 37)) := (Fr.refl _ _).alloc _
  have HM3 := hide ((unhide HM2).q0 q3)
  have F3 := frQt hF2 (frQ0 (q := q) (b := b) q3)
  clear hcs hF2 HM2 q3
  generalize w2.alloc (.cells cs 37) = w3 at *
  generalize w2.heap.size = g at *
  go_loopw [10] (fun ix w' => ∃ (k : Nat), k ≤ N ∧ ix = .int .i64 k ∧ Fill (fun _ _ => PrV) 2 N g 37 w' (rep rIns k s1).1 ∧ MR w' q b Tx (rep rIns k s1).2 ∧ Fr (QR q b) w w') (fun ix w' => N - (intOf ix).toNat)
  case atStart => exact ⟨0, Nat.zero_le _, rfl, unhide HF3, unhide HM3, F3⟩
  case round =>
    clear F3 HF3 HM3
    obtain ⟨k, hk, rfl, hFl, hM, hF⟩ := hrel
    by_cases hlt : k < N
    · have HM := hide hM
      have HFl := hide hFl
      have HR := hide (show rep rIns (k + 1) s1 = ((rep rIns k s1).1 ++ [(rIns (rep rIns k s1).2).1], (rIns (rep rIns k s1).2).2) from rfl)
      have HL := hide (rep_length rIns k s1)
      clear hM hFl
      generalize hl0 : (rep rIns k s1).1 = l0 at *
      generalize hs0 : (rep rIns k s1).2 = s0 at *
      clear hl0 hs0
      have hglt := (unhide HFl).lt
      have hbx := rIns_in s0
      have HB := hide (rdIns_calls (unhide HM))
      generalize rIns s0 = p at *
      obtain ⟨⟨op, a⟩, s2⟩ := p
      dsimp only at *
      go_wp2_with (go_at_call 72; refine (unhide HB).mono ?_; rintro e w4 ⟨rfl, hM4, hF4⟩; have HFl4 := hide (Fill.fr niceP (unhide HFl) hF4 (fun k hk => by rcases hk with e | e <;> omega)); obtain ⟨u, o1, o2⟩ := (unhide HFl4).old (p := k * 2) (by omega); obtain ⟨u', o3, o4⟩ := (unhide HFl4).old (p := k * 2 + 1) (by omega); have hlt4 := (unhide HFl4).lt)
      go_roundw
      case rel =>
        have fs : Fr (fun k => k = g) w4 ((w4.setCell ⟨g, k * 2, none⟩ (.int .i64 op)).setCell ⟨g, k * 2 + 1, none⟩ (.int .i64 a)) := ((Fr.refl (fun k => k = g) w4).setAt _ _ _ (.inr rfl)).setAt _ _ _ (.inr rfl)
        have S1 := (unhide HFl4).set niceP (p := k * 2) (by rw [unhide HL]; omega) (.int .i64 op)
        have S2 := S1.set niceP (p := k * 2 + 1) (by rw [unhide HL]; omega) (.int .i64 a)
        refine ⟨k + 1, by omega, by go_num, ?_, ?_, ?_⟩
        · rw [unhide HR]
          refine S2.snoc (vs := [.int .i64 op, .int .i64 a]) rfl ?_ ⟨rfl, hbx⟩
          intro i v hi
          rw [unhide HL]
          match i, hi with
          | 0, hi => simp at hi; subst hi; exact set_other ((unhide HFl4).cell (by omega) _) (by omega)
          | 1, hi => simp at hi; subst hi; exact S1.cell (by omega) _
        · rw [unhide HR]; exact hM4.fr fs (by omega) (by omega)
        · exact ((frQt hF hF4).setAt _ _ _ (.inl (by omega))).setAt _ _ _ (.inl (by omega))
      case measure => simp [intOf]; omega
    · have hkN : k = N := by omega
      subst hkN
      go_wp2
      go_ret
      exact ⟨g, k, rfl, hFl.arr niceP (rep_length _ _ _) (by omega) hsz2, hM, hF⟩

set_option maxHeartbeats 2000000 in
theorem rdClauses_calls {w : World} {q b : Nat} {Tx : List UInt8} {s : RS} (h : MR w q b Tx s) :
    Calls Try.prog 73 #[.pointer (some ⟨q, 0, none⟩)] w fun e w' => ∃ g n, e = .returned (.slice (some ⟨g, 0, none⟩) n n) ∧
      PrA w.heap.size w'.heap.size w' (some ⟨g, 0, none⟩) n (rClauses s).1 ∧ MR w' q b Tx (rClauses s).2 ∧ Fr (QR q b) w w' := by
  have hle := rUp_le 8 s
  have hup := upTo_calls h 8 (by omega)
  have hql := h.lt
  unfold rClauses
  generalize rUp 8 s = p at *
  obtain ⟨N, s1⟩ := p
  dsimp only at *
  have HU := hide hup
  clear hup h
  go_enter Try.func73, Try.ntmps73
  go_wp2_with (first
    | (go_at_call 33; refine (unhide HU).mono ?_; rintro e w2 ⟨rfl, hM2, hF2⟩; have HM2 := hide hM2; clear hM2)
    | (at_make; refine wpList_make_n _ rfl _ _ 85 rfl 89 (insV 0 0) 2 16 Try.underlying85 infoCl .i64 .i64 N rfl rfl (by omega) (by unfold maxLen; omega) ?_; intro cs hcs))
  have hsz2 := hF2.size
  have HF3 : Hid (Fill (fun _ _ => PrV) 2 N w2.heap.size 89 (w2.alloc (.cells cs 89)) ([] : List (Int × Int))) := hide (Fill.start (blk_new w2 _) hcs)
  have q3 : Fr (fun _ => False) w2 (w2.alloc (.cells cs 89)) := (Fr.refl _ _).alloc _
  have HM3 := hide ((unhide HM2).q0 q3)
  have F3 := frQt hF2 (frQ0 (q := q) (b := b) q3)
  clear hcs hF2 HM2 q3
  generalize w2.alloc (.cells cs 89) = w3 at *
  generalize w2.heap.size = g at *
  go_loopw [10] (fun ix w' => ∃ (k : Nat), k ≤ N ∧ ix = .int .i64 k ∧ Fill (fun _ _ => PrV) 2 N g 89 w' (rep rClause k s1).1 ∧ MR w' q b Tx (rep rClause k s1).2 ∧ Fr (QR q b) w w') (fun ix w' => N - (intOf ix).toNat)
  case atStart => exact ⟨0, Nat.zero_le _, rfl, unhide HF3, unhide HM3, F3⟩
  case round =>
    clear F3 HF3 HM3
    obtain ⟨k, hk, rfl, hFl, hM, hF⟩ := hrel
    by_cases hlt : k < N
    · have HM := hide hM
      have HFl := hide hFl
      have HR := hide (show rep rClause (k + 1) s1 = ((rep rClause k s1).1 ++ [(rClause (rep rClause k s1).2).1], (rClause (rep rClause k s1).2).2) from rfl)
      have HL := hide (rep_length rClause k s1)
      clear hM hFl
      generalize hl0 : (rep rClause k s1).1 = l0 at *
      generalize hs0 : (rep rClause k s1).2 = s0 at *
      clear hl0 hs0
      have hglt := (unhide HFl).lt
      have hb1 := rUp_le 7 s0
      have hb2 := rUp_le 199 (rUp 7 s0).2
      have HB := hide (upTo_calls (unhide HM) 7 (by omega))
      have HC := hide (fun (w' : World) (h : MR w' q b Tx (rUp 7 s0).2) => upTo_calls h 199 (by omega))
      have HE := hide (show rClause s0 = ((((rUp 7 s0).1 : Int), ((rUp 199 (rUp 7 s0).2).1 : Int)), (rUp 199 (rUp 7 s0).2).2) from rfl)
      generalize rUp 7 s0 = p1 at *
      obtain ⟨t1, s2⟩ := p1
      dsimp only at *
      generalize rUp 199 s2 = p2 at *
      obtain ⟨t2, s3⟩ := p2
      dsimp only at *
      rw [unhide HE] at HR
      go_wp2_with fail
      refine (unhide HB).mono ?_
      rintro e w4 ⟨rfl, hM4, hF4⟩
      have HFl4 := hide (Fill.fr niceP (unhide HFl) hF4 (fun k hk => by rcases hk with e | e <;> omega))
      obtain ⟨u, o1, o2⟩ := (unhide HFl4).old (p := k * 2) (by omega)
      have hlt4 := (unhide HFl4).lt
      have S1 := hide ((unhide HFl4).set niceP (p := k * 2) (by rw [unhide HL]; omega) (.int .i64 t1))
      have X1 := hide ((unhide HFl4).cell (p := k * 2) (by omega) (.int .i64 t1))
      have fs1 := Fr.set1 w4 g (k * 2) (.int .i64 t1)
      have HM5 := hide (hM4.fr fs1 (by omega) (by omega))
      have F5 : Fr (QR q b) w (w4.setCell ⟨g, k * 2, none⟩ (.int .i64 t1)) := (frQt hF hF4).setAt _ _ _ (.inl (by omega))
      clear hM4 hF4 fs1
      go_wp2_with fail
      refine (unhide HC _ (unhide HM5)).mono ?_
      rintro e w6 ⟨rfl, hM6, hF6⟩
      clear o1 o2
      generalize w4.setCell ⟨g, k * 2, none⟩ (.int .i64 t1) = w5 at *
      have HFl6 := hide (Fill.fr niceP (unhide S1) hF6 (fun k hk => by rcases hk with e | e <;> omega))
      have X6 := hide (cell_fr hF6 (by show ¬ (g = q ∨ g = b); omega) (unhide X1))
      obtain ⟨u', o3, o4⟩ := (unhide HFl6).old (p := k * 2 + 1) (by omega)
      have hlt6 := (unhide HFl6).lt
      go_wp2
      go_roundw
      case rel =>
        have fs2 := Fr.set1 w6 g (k * 2 + 1) (.int .i64 t2)
        have S2 := (unhide HFl6).set niceP (p := k * 2 + 1) (by rw [unhide HL]; omega) (.int .i64 t2)
        refine ⟨k + 1, by omega, by go_num, ?_, ?_, ?_⟩
        · rw [unhide HR]
          refine S2.snoc (vs := [.int .i64 t1, .int .i64 t2]) rfl ?_ ⟨rfl, by constructor <;> omega, by constructor <;> omega⟩
          intro i v hi
          rw [unhide HL]
          match i, hi with
          | 0, hi => simp at hi; subst hi; exact set_other (unhide X6) (by omega)
          | 1, hi => simp at hi; subst hi; exact (unhide HFl6).cell (by omega) _
        · rw [unhide HR]; exact hM6.fr fs2 (by omega) (by omega)
        · exact (frQt F5 hF6).setAt _ _ _ (.inl (by omega))
      case measure => simp [intOf]; omega
    · have hkN : k = N := by omega
      subst hkN
      go_wp2
      go_ret
      exact ⟨g, k, rfl, hFl.arr niceP (rep_length _ _ _) (by omega) hsz2, hM, hF⟩

set_option maxHeartbeats 2000000 in
theorem rdTables_calls {w : World} {q b : Nat} {Tx : List UInt8} {s : RS} (h : MR w q b Tx s) :
    Calls Try.prog 53 #[.pointer (some ⟨q, 0, none⟩)] w fun e w' => ∃ g n, e = .returned (.slice (some ⟨g, 0, none⟩) n n) ∧
      TbA w.heap.size w'.heap.size w' (some ⟨g, 0, none⟩) n (rTables s).1 ∧ MR w' q b Tx (rTables s).2 ∧ Fr (QR q b) w w' := by
  have hle := rUp_le 8 s
  have hup := upTo_calls h 8 (by omega)
  have hql := h.lt
  unfold rTables
  generalize rUp 8 s = p at *
  obtain ⟨N, s1⟩ := p
  dsimp only at *
  have HU := hide hup
  clear hup h
  go_enter Try.func53, Try.ntmps53
  go_wp2_with (first
    | (go_at_call 33; refine (unhide HU).mono ?_; rintro e w2 ⟨rfl, hM2, hF2⟩; have HM2 := hide hM2; clear hM2)
    | (at_make; refine wpList_make_n _ rfl _ _ 40 rfl 87 (.agg #[.slice none 0 0, .int .i64 0]) 2 32 Try.underlying40 infoTb .i64 .i64 N rfl rfl (by omega) (by unfold maxLen; omega) ?_; intro cs hcs))
  have hsz2 := hF2.size
  have HF3 : Hid (Fill TbV 2 N w2.heap.size 87 (w2.alloc (.cells cs 87)) ([] : List (List (Int × Int) × Int))) := hide (Fill.start (blk_new w2 _) hcs)
  have q3 : Fr (fun _ => False) w2 (w2.alloc (.cells cs 87)) := (Fr.refl _ _).alloc _
  have HM3 := hide ((unhide HM2).q0 q3)
  have F3 := frQt hF2 (frQ0 (q := q) (b := b) q3)
  clear hcs hF2 HM2 q3
  generalize w2.alloc (.cells cs 87) = w3 at *
  generalize w2.heap.size = g at *
  go_loopw [10] (fun ix w' => ∃ (k : Nat), k ≤ N ∧ ix = .int .i64 k ∧ Fill TbV 2 N g 87 w' (rep rTable k s1).1 ∧ MR w' q b Tx (rep rTable k s1).2 ∧ Fr (QR q b) w w') (fun ix w' => N - (intOf ix).toNat)
  case atStart => exact ⟨0, Nat.zero_le _, rfl, unhide HF3, unhide HM3, F3⟩
  case round =>
    clear F3 HF3 HM3
    obtain ⟨k, hk, rfl, hFl, hM, hF⟩ := hrel
    by_cases hlt : k < N
    · have HM := hide hM
      have HFl := hide hFl
      have HR := hide (show rep rTable (k + 1) s1 = ((rep rTable k s1).1 ++ [(rTable (rep rTable k s1).2).1], (rTable (rep rTable k s1).2).2) from rfl)
      have HL := hide (rep_length rTable k s1)
      clear hM hFl
      generalize hl0 : (rep rTable k s1).1 = l0 at *
      generalize hs0 : (rep rTable k s1).2 = s0 at *
      clear hl0 hs0
      have hglt := (unhide HFl).lt
      have hb2 := rTime_in (rClauses s0).2
      have HB := hide (rdClauses_calls (unhide HM))
      have HC := hide (fun (w' : World) (h : MR w' q b Tx (rClauses s0).2) => rdTime_calls h)
      have HE := hide (show rTable s0 = (((rClauses s0).1, (rTime (rClauses s0).2).1), (rTime (rClauses s0).2).2) from rfl)
      generalize rClauses s0 = p1 at *
      obtain ⟨cl, s2⟩ := p1
      dsimp only at *
      generalize rTime s2 = p2 at *
      obtain ⟨tm, s3⟩ := p2
      dsimp only at *
      rw [unhide HE] at HR
      go_wp2_with fail
      refine (unhide HB).mono ?_
      rintro e w4 ⟨g2, n2, rfl, hA4, hM4, hF4⟩
      have HFl4 := hide (Fill.fr niceTb (unhide HFl) hF4 (fun k hk => by rcases hk with e | e <;> omega))
      obtain ⟨u, o1, o2⟩ := (unhide HFl4).old (p := k * 2) (by omega)
      have hlt4 := (unhide HFl4).lt
      have S1 := hide ((unhide HFl4).set niceTb (p := k * 2) (by rw [unhide HL]; omega) (.slice (some ⟨g2, 0, none⟩) n2 n2))
      have X1 := hide ((unhide HFl4).cell (p := k * 2) (by omega) (.slice (some ⟨g2, 0, none⟩) n2 n2))
      have fs1 := Fr.set1 w4 g (k * 2) (.slice (some ⟨g2, 0, none⟩) n2 n2)
      have HM5 := hide (hM4.fr fs1 (by omega) (by omega))
      have HA5 := hide (PrA.fr hA4 fs1 (fun k hk => by omega))
      have F5 : Fr (QR q b) w (w4.setCell ⟨g, k * 2, none⟩ (.slice (some ⟨g2, 0, none⟩) n2 n2)) := (frQt hF hF4).setAt _ _ _ (.inl (by omega))
      have hz4 := fs1.size
      clear hM4 hF4 fs1 hA4
      go_wp2_with fail
      refine (unhide HC _ (unhide HM5)).mono ?_
      rintro e w6 ⟨rfl, hM6, hF6⟩
      clear o1 o2
      generalize w4.setCell ⟨g, k * 2, none⟩ (.slice (some ⟨g2, 0, none⟩) n2 n2) = w5 at *
      have HFl6 := hide (Fill.fr niceTb (unhide S1) hF6 (fun k hk => by rcases hk with e | e <;> omega))
      have X6 := hide (cell_fr hF6 (by show ¬ (g = q ∨ g = b); omega) (unhide X1))
      have HA6 := hide (PrA.fr (unhide HA5) hF6 (fun k hk => by rcases hk with e | e <;> omega))
      have hz6 := hF6.size
      obtain ⟨u', o3, o4⟩ := (unhide HFl6).old (p := k * 2 + 1) (by omega)
      have hlt6 := (unhide HFl6).lt
      go_wp2
      go_roundw
      case rel =>
        have fs2 := Fr.set1 w6 g (k * 2 + 1) (.int .i64 tm)
        have hz7 := fs2.size
        have S2 := (unhide HFl6).set niceTb (p := k * 2 + 1) (by rw [unhide HL]; omega) (.int .i64 tm)
        refine ⟨k + 1, by omega, by go_num, ?_, ?_, ?_⟩
        · rw [unhide HR]
          refine S2.snoc (vs := [.slice (some ⟨g2, 0, none⟩) n2 n2, .int .i64 tm]) rfl ?_ ⟨_, _, _, rfl, PrA.wide (PrA.fr (unhide HA6) fs2 (fun k hk => by omega)) (by omega) (by omega), hb2⟩
          intro i v hi
          rw [unhide HL]
          match i, hi with
          | 0, hi => simp at hi; subst hi; exact set_other (unhide X6) (by omega)
          | 1, hi => simp at hi; subst hi; exact (unhide HFl6).cell (by omega) _
        · rw [unhide HR]; exact hM6.fr fs2 (by omega) (by omega)
        · exact (frQt F5 hF6).setAt _ _ _ (.inl (by omega))
      case measure => simp [intOf]; omega
    · have hkN : k = N := by omega
      subst hkN
      go_wp2
      go_ret
      exact ⟨g, k, rfl, hFl.arr niceTb (rep_length _ _ _) (by omega) hsz2, hM, hF⟩

end Go.Proofs.Ythdpgachdegcgaa
