/-
  The reader of a module's parts: module; and Read of package module.
-/
import Derived.Test.YthdpgachdegcgaaMoRdA
namespace Go.Proofs.Ythdpgachdegcgaa
open Go.RowKit
set_option linter.unusedVariables false
set_option maxRecDepth 8192

theorem load_mo {w : World} {b : Nat} {a : Option Addr} {n c : Nat} (h : w.heap[b]? = some (.cells #[.slice a n c] 25 (0, 0))) : (loadVar 25 ⟨b, 0, none⟩).run Try.prog w = .ok (moV a n c) w := by
  refine run_loadVar_mid w b 0 25 [_] _ ?_ Try.underlying25 rfl (by kernel_rfl)
  intro j v hv
  rw [Nat.zero_add, cell_at h]
  simpa using hv

theorem results_mo1 {fn : Func} {p : Tmp} (h : fn.results = #[.cell p 25]) (tmps : Array Value) (w : World) (b : Nat) {v : Value} (hp : tmps.getD p undef = .pointer (some ⟨b, 0, none⟩))
    (hb : (loadVar 25 ⟨b, 0, none⟩).run Try.prog w = .ok v w) : (results fn tmps).run Try.prog w = .ok v w := by
  have hp' : tmps[p]?.getD undef = .pointer (some ⟨b, 0, none⟩) := by simpa using hp
  simp only [results, h]
  simp [hp', asAddr, hb]

theorem results_mo2 {fn : Func} {p u : Tmp} (h : fn.results = #[.cell p 25, .tmp u]) (tmps : Array Value) (w : World) (b : Nat) {v : Value} (hp : tmps.getD p undef = .pointer (some ⟨b, 0, none⟩))
    (hb : (loadVar 25 ⟨b, 0, none⟩).run Try.prog w = .ok v w) : (results fn tmps).run Try.prog w = .ok (.tuple #[v, tmps.getD u undef]) w := by
  rw [results_cell_tmp h, hp]
  simp only [asAddr, Sem.run_pure, Result.andThen_ok, hb]

set_option maxHeartbeats 1000000 in
theorem rdModule_calls {w : World} {q b : Nat} {Tx : List UInt8} {s : RS} (h : MR w q b Tx s) :
    Calls Try.prog 13 #[.pointer (some ⟨q, 0, none⟩)] w fun e w' => ∃ g n, e = .returned (moV (some ⟨g, 0, none⟩) n n) ∧
      AcA w.heap.size w'.heap.size w' (some ⟨g, 0, none⟩) n (rMod s).1 ∧ MR w' q b Tx (rMod s).2 ∧ Fr (QR q b) w w' := by
  have hql := h.lt
  have q0 : Fr (fun _ => False) w (w.alloc (.cells #[.slice none 0 0] 25)) := (Fr.refl _ w).alloc _
  have r0 : (w.alloc (.cells #[.slice none 0 0] 25)).heap[w.heap.size]? = some (.cells #[.slice none 0 0] 25 (0, 0)) := blk_new w _
  have HM0 := hide (h.q0 q0)
  have R0 := hide r0
  have hle := rUp_le 8 (rMag 3 s)
  have HC := hide (fun (w' : World) (h : MR w' q b Tx (rMag 3 s)) => upTo_calls h 8 (by omega))
  have HG := hide (rdMagic_calls (unhide HM0))
  unfold rMod
  generalize rMag 3 s = sm at *
  generalize rUp 8 sm = p at *
  obtain ⟨N, s1⟩ := p
  dsimp only at *
  have F0 : Fr (QR q b) w (w.alloc (.cells #[.slice none 0 0] 25)) := frQ0 q0
  have z0 : w.heap.size + 1 ≤ (w.alloc (.cells #[.slice none 0 0] 25)).heap.size := by simp
  clear h q0 r0
  go_enter Try.func13, Try.ntmps13
  go_wp2_with fail
  refine (unhide HG).mono ?_
  rintro e w1 ⟨rfl, hM1, hF1⟩
  have z1 := hF1.size
  generalize w.alloc (.cells #[.slice none 0 0] 25) = x0 at *
  have R1 := hide (hF1.blk (unhide R0) (by show ¬ (w.heap.size = q ∨ w.heap.size = b); omega))
  have F1 := frQt F0 hF1
  have HM1 := hide hM1
  clear hM1 hF1 F0 HG HM0 R0
  go_wp2_with (first
    | (go_at_call 33; refine ((unhide HC) _ (unhide HM1)).mono ?_; rintro e w2 ⟨rfl, hM2, hF2⟩; have HM2 := hide hM2; clear hM2)
    | (at_make; refine wpList_make_n _ rfl _ _ 23 rfl 42 (.agg #[.slice none 0 0, .slice none 0 0, .slice none 0 0, .slice none 0 0, .slice none 0 0]) 5 120 Try.underlying23 infoAc .i64 .i64 N rfl rfl (by omega) (by unfold maxLen; omega) ?_; intro cs hcs))
  have z2 := hF2.size
  have q3 : Fr (fun _ => False) w2 (w2.alloc (.cells cs 42)) := (Fr.refl _ _).alloc _
  have HF3 : Hid (Fill AcV 5 N w2.heap.size 42 (w2.alloc (.cells cs 42)) ([] : List Ac)) := hide (Fill.start (blk_new w2 _) hcs)
  have R3 := hide (q3.blk (hF2.blk (unhide R1) (by show ¬ (w.heap.size = q ∨ w.heap.size = b); omega)) (fun h => h))
  have HM3 := hide ((unhide HM2).q0 q3)
  have F3 := frQt (frQt F1 hF2) (frQ0 (q := q) (b := b) q3)
  clear hcs hF2 HM2 q3 F1 R1
  generalize w2.alloc (.cells cs 42) = w3 at *
  generalize w2.heap.size = g at *
  go_loopw [12] (fun ix w' => ∃ (k : Nat), k ≤ N ∧ ix = .int .i64 k ∧ Fill AcV 5 N g 42 w' (rep rActor k s1).1 ∧ MR w' q b Tx (rep rActor k s1).2 ∧ Fr (QR q b) w w' ∧ w'.heap[w.heap.size]? = some (.cells #[.slice none 0 0] 25 (0, 0))) (fun ix w' => N - (intOf ix).toNat)
  case atStart => exact ⟨0, Nat.zero_le _, rfl, unhide HF3, unhide HM3, F3, unhide R3⟩
  case round =>
    clear F3 HF3 HM3 R3
    obtain ⟨k, hk, rfl, hFl, hM, hF, hR⟩ := hrel
    by_cases hlt : k < N
    · have HM := hide hM
      have HFl := hide hFl
      have HRb := hide hR
      have HR := hide (show rep rActor (k + 1) s1 = ((rep rActor k s1).1 ++ [(rActor (rep rActor k s1).2).1], (rActor (rep rActor k s1).2).2) from rfl)
      have HL := hide (rep_length rActor k s1)
      clear hM hFl hR
      generalize hl0 : (rep rActor k s1).1 = l0 at *
      generalize hs0 : (rep rActor k s1).2 = s0 at *
      clear hl0 hs0
      have hglt := (unhide HFl).lt
      have HB := hide (rdActor_calls (unhide HM))
      generalize rActor s0 = p at *
      obtain ⟨x, s2⟩ := p
      dsimp only at *
      go_wp2_with fail
      refine (unhide HB).mono ?_
      rintro e w4 ⟨sl, rfl, hS4, hM4, hF4⟩
      have HFl4 := hide (Fill.fr niceAc (unhide HFl) hF4 (fun k hk => by rcases hk with e | e <;> omega))
      have R4 := hide (hF4.blk (unhide HRb) (by show ¬ (w.heap.size = q ∨ w.heap.size = b); omega))
      obtain ⟨u0, o0, f0⟩ := (unhide HFl4).old (p := k * 5) (by omega)
      obtain ⟨u1, o1, f1⟩ := (unhide HFl4).old (p := k * 5 + 1) (by omega)
      obtain ⟨u2, o2, f2⟩ := (unhide HFl4).old (p := k * 5 + 2) (by omega)
      obtain ⟨u3, o3, f3⟩ := (unhide HFl4).old (p := k * 5 + 3) (by omega)
      obtain ⟨u4, o4, f4⟩ := (unhide HFl4).old (p := k * 5 + 4) (by omega)
      have hlt4 := (unhide HFl4).lt
      have HS4 := hide hS4
      have HM4 := hide hM4
      have F4 := frQt hF hF4
      clear hS4 hM4 hF4
      go_wp2
      go_roundw
      case rel =>
        have fs : Fr (fun k => k = g) w4 (((((w4.setCell ⟨g, k * 5, none⟩ (slV (sl 0))).setCell ⟨g, k * 5 + 1, none⟩ (slV (sl 1))).setCell ⟨g, k * 5 + 2, none⟩ (slV (sl 2))).setCell ⟨g, k * 5 + 3, none⟩ (slV (sl 3))).setCell ⟨g, k * 5 + 4, none⟩ (slV (sl 4))) := (((((Fr.refl (fun k => k = g) w4).setAt _ _ _ (.inr rfl)).setAt _ _ _ (.inr rfl)).setAt _ _ _ (.inr rfl)).setAt _ _ _ (.inr rfl)).setAt _ _ _ (.inr rfl)
        have S1 := (unhide HFl4).set niceAc (p := k * 5) (by rw [unhide HL]; omega) (slV (sl 0))
        have S2 := S1.set niceAc (p := k * 5 + 1) (by rw [unhide HL]; omega) (slV (sl 1))
        have S3 := S2.set niceAc (p := k * 5 + 2) (by rw [unhide HL]; omega) (slV (sl 2))
        have S4 := S3.set niceAc (p := k * 5 + 3) (by rw [unhide HL]; omega) (slV (sl 3))
        have S5 := S4.set niceAc (p := k * 5 + 4) (by rw [unhide HL]; omega) (slV (sl 4))
        have hz := fs.size
        refine ⟨k + 1, by omega, by go_num, ?_, ?_, ?_, ?_⟩
        · rw [unhide HR]
          refine S5.snoc (vs := [slV (sl 0), slV (sl 1), slV (sl 2), slV (sl 3), slV (sl 4)]) rfl ?_ ⟨sl, rfl, AcS.wide ((unhide HS4).fr fs (fun k hk => by omega)) (by omega) (by omega)⟩
          intro i v hi
          rw [unhide HL]
          match i, hi with
          | 0, hi => simp at hi; subst hi; exact set_other (set_other (set_other (set_other ((unhide HFl4).cell (by omega) _) (by omega)) (by omega)) (by omega)) (by omega)
          | 1, hi => simp at hi; subst hi; exact set_other (set_other (set_other (S1.cell (by omega) _) (by omega)) (by omega)) (by omega)
          | 2, hi => simp at hi; subst hi; exact set_other (set_other (S2.cell (by omega) _) (by omega)) (by omega)
          | 3, hi => simp at hi; subst hi; exact set_other (S3.cell (by omega) _) (by omega)
          | 4, hi => simp at hi; subst hi; exact S4.cell (by omega) _
        · rw [unhide HR]; exact (unhide HM4).fr fs (by omega) (by omega)
        · exact F4.trans fs (fun _ _ h => h) (fun i hi e => by omega)
        · exact fs.blk (unhide R4) (by omega)
      case measure => simp [intOf]; omega
    · have hkN : k = N := by omega
      subst hkN
      have y0 := cell_at hR 0
      have v0 := free_at hR 0
      simp at y0
      have HR := hide hR
      have HFl := hide hFl
      have HM := hide hM
      clear hR hFl hM
      go_wp2
      have fs := Fr.set1 wr w.heap.size 0 (.slice (some ⟨g, 0, none⟩) k k)
      have hz := fs.size
      have hb : (wr.setCell ⟨w.heap.size, 0, none⟩ (.slice (some ⟨g, 0, none⟩) k k)).heap[w.heap.size]? = some (.cells #[.slice (some ⟨g, 0, none⟩) k k] 25 (0, 0)) := blk_setCell (unhide HR)
      have hA : AcA (w.heap.size + 1) wr.heap.size wr (some ⟨g, 0, none⟩) k (rep rActor k s1).1 := (unhide HFl).arr niceAc (rep_length rActor k s1) (by omega) (lo := w.heap.size + 1) (by omega)
      have hA2 := AcA.fr hA fs (fun k hk => by omega)
      exact bodyPost_ret (results_mo1 rfl _ _ _ rfl (load_mo hb)) rfl ⟨g, k, rfl, AcA.wide hA2 (by omega) hz, (unhide HM).fr fs (by omega) (by omega), hF.trans fs (fun _ _ h => h) (fun i hi e => by omega)⟩

theorem okR_parts (m : List Ac) (s : RS) : okR m s = (!s.bad && (rend s.l s.E == 0) && (rightE m == 0)) := rfl

set_option maxHeartbeats 2000000 in
theorem mread_calls (t : ByteArray) (w : World) (ht : t.size ≤ 9223372036854775807) :
    Calls Try.prog 6 #[.string t] w fun e w' => ∃ a n, e = .returned (.tuple #[moV a n n, .int .i64 (readX t.data.toList).2]) ∧ AcA w.heap.size w'.heap.size w' a n (readX t.data.toList).1 ∧ Fr (fun _ => False) w w' := by
  have q0 : Fr (fun _ => False) w (w.alloc (.cells #[.slice none 0 0] 25)) := (Fr.refl _ w).alloc _
  have r0 : (w.alloc (.cells #[.slice none 0 0] 25)).heap[w.heap.size]? = some (.cells #[.slice none 0 0] 25 (0, 0)) := blk_new w _
  have hts : t.data.toList.length = t.size := by simp
  unfold readX
  by_cases hl : (t.size : Int) > 65536
  · rw [if_pos (by rw [hts]; omega)]
    clear hts
    go_enter Try.func6, Try.ntmps6
    go_wp2
    refine bodyPost_ret (results_mo2 rfl _ _ w.heap.size rfl (load_mo (a := none) (n := 0) (c := 0) ?_)) rfl ⟨none, 0, rfl, Arr.nil _ _ _ _ _ _, ?_⟩
    · first | exact r0 | exact blk_setCell r0
    · first | exact q0 | exact q0.setAt _ _ _ (.inl (Nat.le_refl _))
  · rw [if_neg (by rw [hts]; omega)]
    have hTl : t.data.toList.length ≤ 65536 := by rw [hts]; omega
    have R0 := hide r0
    have HT := hide hTl
    have Hba := hide (ba_of t)
    clear hts hTl r0
    generalize hTx : t.data.toList = Tx at *
    have HTx := hide hTx
    have HC := hide (fun (w' : World) (q b : Nat) (h : MR w' q b Tx ⟨Tx, 0, false⟩) => rdModule_calls h)
    generalize rMod ⟨Tx, 0, false⟩ = p at *
    obtain ⟨m, s⟩ := p
    dsimp only at *
    generalize hres : (if okR m s = true then (m, 0) else (([], 5) : List Ac × Int)) = res at *
    have HRes := hide hres
    clear hTx hres
    go_enter Try.func6, Try.ntmps6
    go_wp2_with fail
    refine (read_calls _ _).mono ?_
    rw [unhide HTx]
    rintro e w1 ⟨rfl, hR1, hF1⟩
    have zb : w.heap.size < (w.alloc (.cells #[.slice none 0 0] 25)).heap.size := by simp
    have R1 := hide (hF1.blk (unhide R0) (fun h => h))
    have hbl := hR1.lt
    have F1 := q0.then hF1
    have q2 : Fr (fun _ => False) w1 (w1.alloc (.cells #[.pointer (some ⟨(w.alloc (.cells #[.slice none 0 0] 25)).heap.size, 0, none⟩), .string t, .bool false] 49)) := (Fr.refl _ w1).alloc _
    have HM2 : Hid (MR (w1.alloc (.cells #[.pointer (some ⟨(w.alloc (.cells #[.slice none 0 0] 25)).heap.size, 0, none⟩), .string t, .bool false] 49)) w1.heap.size (w.alloc (.cells #[.slice none 0 0] 25)).heap.size Tx ⟨Tx, 0, false⟩) :=
      hide ⟨by rw [unhide Hba]; exact blk_new w1 _, hR1.fr q2 (fun h => h), ⟨[], rfl⟩, unhide HT⟩
    have R2 := hide (q2.blk (unhide R1) (fun h => h))
    have F2 := F1.then q2
    have z2 := q2.size
    have zq : w1.heap.size < (w1.alloc (.cells #[.pointer (some ⟨(w.alloc (.cells #[.slice none 0 0] 25)).heap.size, 0, none⟩), .string t, .bool false] 49)).heap.size := by simp
    clear q0 hF1 R0 R1 F1 q2 hR1
    generalize (w.alloc (.cells #[.slice none 0 0] 25)).heap.size = b at *
    go_wp2_with fail
    refine ((unhide HC) _ _ _ (unhide HM2)).mono ?_
    rintro e w3 ⟨g, n, rfl, hA3, hM3, hF3⟩
    generalize w1.alloc (.cells #[.pointer (some ⟨b, 0, none⟩), .string t, .bool false] 49) = x2 at *
    generalize w1.heap.size = q at *
    have z3 := hF3.size
    have q4 : Fr (fun _ => False) w3 (w3.alloc (.cells #[.slice (some ⟨g, 0, none⟩) n n] 25)) := (Fr.refl _ w3).alloc _
    have F3 : Fr (fun _ => False) w w3 := F2.trans hF3 (fun _ _ h => h) (fun i hi e => by rcases e with e | e <;> omega)
    have F4 := F3.then q4
    have R4 := hide (q4.blk (hF3.blk (unhide R2) (by show ¬ (w.heap.size = q ∨ w.heap.size = b); omega)) (fun h => h))
    have HM4 := hide (hM3.q0 q4)
    have HA4 := hide (AcA.fr hA3 q4 q0_no)
    have L4 := hide (show (w3.alloc (.cells #[.slice (some ⟨g, 0, none⟩) n n] 25)).heap[w3.heap.size]? = some (.cells #[.slice (some ⟨g, 0, none⟩) n n] 25 (0, 0)) from blk_new w3 _)
    have z4 : w3.heap.size ≤ (w3.alloc (.cells #[.slice (some ⟨g, 0, none⟩) n n] 25)).heap.size := q4.size
    have R3 := hide (hF3.blk (unhide R2) (by show ¬ (w.heap.size = q ∨ w.heap.size = b); omega))
    have c2 := hM3.c2
    have c0 := hM3.c0
    have hq3 := hM3.lt
    have y0 := cell_at (unhide R3) 0
    have y1 := free_at (unhide R3) 0
    have hr3 := lt_of_blk (unhide R3)
    simp at y0
    clear F2 R2 HM2 HC hA3 hM3 hF3 q4
    have HO := hide (okR_parts m s)
    cases hbad : s.bad
    · rw [hbad] at c2 HO
      by_cases hend : rend s.l s.E = 0
      · have hend' : (rend s.l s.E != 0) = false := by simp [hend]
        have Hend := hide hend
        by_cases hri : rightE m = 0
        · have hri' : (rightE m != 0) = false := by simp [hri]
          have HK := hide (show okR m s = true by rw [unhide HO, hend, hri]; rfl)
          have er := unhide HRes
          rw [if_pos (unhide HK)] at er
          subst er
          have Hri := hide hri
          clear hend hri HO hbad
          go_wp2_with (first
            | (go_at_call 14; refine (end_calls (unhide HM4).rd).mono ?_; rintro e w' ⟨rfl, rfl⟩)
            | (go_at_call 15; refine (mright_calls (unhide HA4) _).mono ?_; rintro e w6 ⟨rfl, hF6⟩; have d6 := cell_at (hF6.blk (unhide L4) (fun h => h)) 0; have R6 := hide (hF6.blk (unhide R4) (fun h => h)); have y6 := cell_at (unhide R6) 0; have y7 := free_at (unhide R6) 0; simp at d6 y6; have HA6 := hide (AcA.fr (unhide HA4) hF6 q0_no); have z6 := hF6.size; have F6 := F4.then hF6))
          have fs := Fr.set1 w6 w.heap.size 0 (.slice (some ⟨g, 0, none⟩) n n)
          have hz := fs.size
          have hb : (w6.setCell ⟨w.heap.size, 0, none⟩ (.slice (some ⟨g, 0, none⟩) n n)).heap[w.heap.size]? = some (.cells #[.slice (some ⟨g, 0, none⟩) n n] 25 (0, 0)) := blk_setCell (unhide R6)
          exact bodyPost_ret (results_mo2 rfl _ _ _ rfl (load_mo hb)) rfl ⟨some ⟨g, 0, none⟩, n, rfl, AcA.wide (AcA.fr (unhide HA6) fs (fun k hk => by omega)) (by omega) (by omega), F6.trans fs (fun _ _ h => h) (fun i hi e => by omega)⟩
        · have hri' : (rightE m != 0) = true := by simp [hri]
          have HK := hide (show ¬ okR m s = true by rw [unhide HO, hend]; simp [hri])
          have er := unhide HRes
          rw [if_neg (unhide HK)] at er
          subst er
          clear hend hri HO hbad
          go_wp2_with (first
            | (go_at_call 14; refine (end_calls (unhide HM4).rd).mono ?_; rintro e w' ⟨rfl, rfl⟩)
            | (go_at_call 15; refine (mright_calls (unhide HA4) _).mono ?_; rintro e w6 ⟨rfl, hF6⟩; have R6 := hide (hF6.blk (unhide R4) (fun h => h)); have y6 := cell_at (unhide R6) 0; have y7 := free_at (unhide R6) 0; simp at y6; have F6 := F4.then hF6))
          have fs := Fr.set1 w6 w.heap.size 0 (.slice none 0 0)
          have hb : (w6.setCell ⟨w.heap.size, 0, none⟩ (.slice none 0 0)).heap[w.heap.size]? = some (.cells #[.slice none 0 0] 25 (0, 0)) := blk_setCell (unhide R6)
          exact bodyPost_ret (results_mo2 rfl _ _ _ rfl (load_mo hb)) rfl ⟨none, 0, rfl, Arr.nil _ _ _ _ _ _, F6.trans fs (fun _ _ h => h) (fun i hi e => by omega)⟩

      · have hend' : (rend s.l s.E != 0) = true := by simp [hend]
        have HK := hide (show ¬ okR m s = true by rw [unhide HO]; simp [hend])
        have er := unhide HRes
        rw [if_neg (unhide HK)] at er
        subst er
        clear hend HO hbad
        go_wp2_with (go_at_call 14; refine (end_calls (unhide HM4).rd).mono ?_; rintro e w' ⟨rfl, rfl⟩)
        have fs := Fr.set1 w3 w.heap.size 0 (.slice none 0 0)
        have hb : ((w3.setCell ⟨w.heap.size, 0, none⟩ (.slice none 0 0)).alloc (.cells #[.slice (some ⟨g, 0, none⟩) n n] 25)).heap[w.heap.size]? = some (.cells #[.slice none 0 0] 25 (0, 0)) := blk_alloc (blk_setCell (unhide R3))
        exact bodyPost_ret (results_mo2 rfl _ _ _ rfl (load_mo hb)) rfl ⟨none, 0, rfl, Arr.nil _ _ _ _ _ _, (F3.trans fs (fun _ _ h => h) (fun i hi e => by omega)).alloc _⟩

    · rw [hbad] at c2 HO
      have HK := hide (show ¬ okR m s = true by rw [unhide HO]; simp)
      have er := unhide HRes
      rw [if_neg (unhide HK)] at er
      subst er
      clear HO hbad
      go_wp2
      have fs := Fr.set1 w3 w.heap.size 0 (.slice none 0 0)
      have hb : ((w3.setCell ⟨w.heap.size, 0, none⟩ (.slice none 0 0)).alloc (.cells #[.slice (some ⟨g, 0, none⟩) n n] 25)).heap[w.heap.size]? = some (.cells #[.slice none 0 0] 25 (0, 0)) := blk_alloc (blk_setCell (unhide R3))
      exact bodyPost_ret (results_mo2 rfl _ _ _ rfl (load_mo hb)) rfl ⟨none, 0, rfl, Arr.nil _ _ _ _ _ _, (F3.trans fs (fun _ _ h => h) (fun i hi e => by omega)).alloc _⟩

end Go.Proofs.Ythdpgachdegcgaa
