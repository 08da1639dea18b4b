/-
  The document's Bytes of modules.
-/
import Derived.Test.YtmmfmjaljgkobaaMoRefRightM
import Derived.Test.YtmmfmjaljgkobaaMoRefWr
import Derived.Test.YtmmfmjaljgkobaaMoWrM
namespace Go.Proofs.Ytmmfmjaljgkobaa
open Go.RowKit
set_option linter.unusedVariables false
set_option maxRecDepth 100000

theorem acB_len (x : Ac) : (acB x).length = (tyB x.ps).length + (tyB x.rs).length + (tyB x.ms).length + ((Lib.uvarint x.cs.length).length + (x.cs.flatMap (fun i : Int × Int => insB i.1 i.2)).length) + ((Lib.uvarint x.ts.length).length + (x.ts.flatMap tbB).length) := by
  simp only [acB, cdB, tsB, List.length_append]
theorem tbB_len (cl : List (Int × Int)) (tm : Int) : (tbB (cl, tm)).length = (Lib.uvarint cl.length).length + (cl.flatMap clB).length + (Lib.uvarint (Lib.zigzag tm)).length := by
  simp only [tbB, clsB, List.length_append]

set_option maxHeartbeats 4000000 in
theorem xmbytes_calls {lo hi : Nat} {w : World} {a : Option Addr} {n : Nat} {m : List Ac} (h : AcA lo hi w a n m) (hh : hi ≤ w.heap.size) (c : Nat) :
    Calls Try.prog 11 #[moV a n c] w fun e w' => e = .returned (.tuple #[.string (bytesT m), .int .i64 (rightE m)]) ∧ Q0 w w' := by
  have q1 : Q0 w (w.alloc (.cells #[.slice a n c] 24)) := (Fr.refl _ w).alloc _
  have b1 : (w.alloc (.cells #[.slice a n c] 24)).heap[w.heap.size]? = some (.cells #[.slice a n c] 24 (0, 0)) := blk_new w _
  have H1 := hide (AcA.fr h q1 q0_no)
  have HB := hide b1
  have hs := h.small
  have HN := hide h.len
  clear b1 h
  by_cases hr : rightE m = 0
  · have HE := hide hr
    have HT := hide (show bytesT m = ba (moB m) by unfold bytesT; rw [if_pos hr])
    obtain ⟨_, hr2⟩ := rightE_ok hr
    obtain ⟨_, hr3⟩ := rightM_yes hr2
    have HR := hide hr3
    have hz := moB_le hr
    have HZ := hide (show 3 + (Lib.uvarint n).length + (m.flatMap acB).length ≤ 65536 by
      unfold moB magB at hz; simp only [List.length_append, List.length_cons, List.length_nil, unhide HN] at hz; omega)
    clear hr hr2 hr3 hz
    go_enter Try.func11, Try.ntmps11
    go_wp2_with fail
    refine (xmright_calls (unhide H1) _).mono ?_
    rw [unhide HE]
    rintro e w2 ⟨rfl, hF2⟩
    have H2 := hide (AcA.fr (unhide H1) hF2 q0_no)
    have B2 := hide (hF2.blk (unhide HB) (fun h => h))
    have Q2 := hide (q1.then hF2)
    have hl2 := lt_of_blk (unhide B2)
    have z2 := Nat.le_trans q1.size hF2.size
    clear hF2
    go_wp2_with fail
    refine (vnew_calls 1048576 _ (by omega) (by omega)).mono ?_
    rw [show max (1048576 : Int) 0 = 1048576 from rfl]
    rintro e w3 ⟨rfl, hV3, hF3⟩
    have HV3 := hide (show V6 w3 w2.heap.size (.slice none 0 0) [] from hV3)
    have H3 := hide (AcA.fr (unhide H2) hF3 q0_no)
    have B3 := hide (hF3.blk (unhide B2) (fun h => h))
    have Q3 := hide ((unhide Q2).then hF3)
    have HO := hide (show Off hi w2.heap.size (.slice none 0 0) from ⟨by omega, fun k hk => by simp [Value.ownBlock] at hk⟩)
    clear hV3 hF3
    generalize w2.heap.size = b at *
    go_wp2_with fail
    refine (xbyte (unhide HV3) _ (by omega) (by simp)).mono ?_
    rintro e w4 ⟨rfl, v4, hV4, hF4⟩
    have HV4 := hide hV4
    clear hV4
    go_wp2_with fail
    refine (xbyte (unhide HV4) _ (by omega) (by simp)).mono ?_
    rintro e w5 ⟨rfl, v5, hV5, hF5⟩
    have HV5 := hide hV5
    have F5 := hF4.trans hF5
    clear hV5 hF4 hF5
    go_wp2_with fail
    refine (xbyte (unhide HV5) _ (by omega) (by simp)).mono ?_
    rintro e w6 ⟨rfl, v6, hV6, hF6⟩
    have HV6 := hide (show V6 w6 b v6 magB from hV6)
    have F6 := F5.trans hF6
    have keep : ∀ (w' : World) (v' : Value), Wrote w3 w' b (.slice none 0 0) v' → w'.heap[w.heap.size]? = some (.cells #[.slice a n c] 24 (0, 0)) := fun w' v' hw => hw.fr.blk (unhide B3) (by
      rintro (e | e)
      · omega
      · simp [Value.ownBlock] at e)
    have KP := hide keep
    have m6 := cell_at (unhide KP _ _ F6) 0
    simp at m6
    clear hV6 F5 hF6 keep
    go_wp2_with fail
    refine (xcount (unhide HV6) n hs (by have := unhide HZ; show (3 : Nat) + _ ≤ _; omega)).mono ?_
    rintro e w7 ⟨rfl, v7, hV7, hF7⟩
    have HV7 := hide hV7
    have F7 := F6.trans hF7
    have m7 := cell_at (unhide KP _ _ F7) 0
    simp at m7
    clear hV7 hF7 F6 m6
    go_wp2
    go_loopw [6] (fun ix w' => ∃ (k : Nat) (v' : Value), k ≤ n ∧ ix = .int .i64 k ∧ V6 w' b v' (magB ++ (Lib.uvarint n ++ (m.take k).flatMap acB)) ∧ Wrote w3 w' b (.slice none 0 0) v') (fun ix w' => n - (intOf ix).toNat)
    case atStart => exact ⟨0, v7, Nat.zero_le _, rfl, by simpa using unhide HV7, F7⟩
    case round =>
      clear F7 m7
      obtain ⟨k, v, hk, rfl, hV, hF⟩ := hrel
      have m1 := cell_at (unhide KP _ _ hF) 0
      simp at m1
      by_cases hlt : k < n
      · obtain ⟨blk, off, s, x, rfl, _, _, hx, hp, e0, e1, e2, e3, e4⟩ := AcA.get (AcA.fr (unhide H3) hF.fr (unhide HO).no) hlt
        have hrx : rightA x m.length = true := unhide HR x (List.mem_of_getElem? hx)
        obtain ⟨r1, r2, r3, r4, _, r5⟩ := rightA_yes hrx
        have R0 := hide (show ∀ t ∈ x.ps, 0 ≤ t ∧ t ≤ 255 from fun t ht => krightB_byte (r1 t (r3.subset ht)))
        have R1 := hide (show ∀ t ∈ x.rs, 0 ≤ t ∧ t ≤ 255 from fun t ht => krightB_byte (r1 t ht))
        have R2 := hide (show ∀ t ∈ x.ms, 0 ≤ t ∧ t ≤ 255 from fun t ht => krightB_byte (r2 t ht))
        have R3 := hide r4
        have R4 := hide r5
        have HS := hide (flat_take acB hx)
        have hlen := hide (show (magB ++ (Lib.uvarint n ++ (m.take k).flatMap acB)).length + (acB x).length ≤ 65536 by
          have h1 := unhide HZ
          have h2 := flat_upto acB m (k := k + 1) (by rw [unhide HN]; omega)
          rw [unhide HS] at h2
          simp only [magB, List.length_append, List.length_cons, List.length_nil] at h2 ⊢
          omega)
        generalize hZ1 : magB ++ (Lib.uvarint n ++ (m.take k).flatMap acB) = Z1 at *
        have HZ1 := hide hZ1
        have HB1 := hide (show Z1.length + (tyB x.ps).length + (tyB x.rs).length + (tyB x.ms).length + ((Lib.uvarint x.cs.length).length + (x.cs.flatMap (fun i : Int × Int => insB i.1 i.2)).length) + ((Lib.uvarint x.ts.length).length + (x.ts.flatMap tbB).length) ≤ 65536 by
          have := unhide hlen; rw [acB_len] at this; omega)
        have l3 := hide hp.cs.len
        have l4 := hide hp.ts.len
        have c3 := hp.cs.small
        have c4 := hp.ts.small
        have q4 : Q0 wr (wr.alloc (.cells #[slV (s 0), slV (s 1), slV (s 2), slV (s 3), slV (s 4)] 48)) := (Fr.refl _ wr).alloc _
        have k4 : (wr.alloc (.cells #[slV (s 0), slV (s 1), slV (s 2), slV (s 3), slV (s 4)] 48)).heap[wr.heap.size]? = some (.cells #[slV (s 0), slV (s 1), slV (s 2), slV (s 3), slV (s 4)] 48 (0, 0)) := blk_new wr _
        have K4 := hide k4
        have HVw := hide hV
        have HV4' := hide (V6.q0 hV q4)
        have HP4 := hide (hp.fr q4 q0_no)
        have HO4 := hide ((unhide HO).stepV (unhide HV3) hF)
        have FB := hide (hF.then q4)
        clear hV hx hp hrx r1 r2 r3 r4 r5 hZ1 hF k4 q4 hlen
        go_wp2_with fail
        refine (xtypes (unhide HV4') (unhide HP4).ps _ (unhide HO4) (unhide R0) (by have := unhide HB1; omega)).mono ?_
        generalize wr.alloc (.cells #[slV (s 0), slV (s 1), slV (s 2), slV (s 3), slV (s 4)] 48) = wA at *
        generalize wr = wK at *
        have KA : Hid (∀ (w' : World) (v' : Value), Wrote wA w' b v v' → w'.heap[wK.heap.size]? = some (.cells #[slV (s 0), slV (s 1), slV (s 2), slV (s 3), slV (s 4)] 48 (0, 0))) := hide (fun w' v' hw => keptV (unhide HVw) hw (Nat.le_refl _) (unhide K4))
        have GA : Hid (∀ (w' : World) (v' : Value), Wrote wA w' b v v' → AcS lo hi w' s x ∧ Off hi b v') := hide (fun w' v' hw => ⟨(unhide HP4).fr hw.fr (unhide HO4).no, (unhide HO4).stepV (unhide HV4') hw⟩)
        clear e0 e1 e2 e3 e4 m1
        rintro e t1 ⟨rfl, u1, hU1, G1⟩
        have U1 := hide hU1
        have p1 := cell_at (unhide KA _ _ G1) 1
        simp at p1
        clear hU1
        go_wp2_with fail
        refine (xtypes (unhide U1) (unhide GA _ _ G1).1.rs _ (unhide GA _ _ G1).2 (unhide R1) (by have := unhide HB1; simp only [List.length_append]; omega)).mono ?_
        rintro e t2 ⟨rfl, u2, hU2, hG2⟩
        have U2 := hide hU2
        have G2 := G1.trans hG2
        have p2 := cell_at (unhide KA _ _ G2) 2
        simp at p2
        clear hU2 hG2 G1 p1
        go_wp2_with fail
        refine (xtypes (unhide U2) (unhide GA _ _ G2).1.ms _ (unhide GA _ _ G2).2 (unhide R2) (by have := unhide HB1; simp only [List.length_append]; omega)).mono ?_
        rintro e t3 ⟨rfl, u3, hU3, hG3⟩
        have U3 := hide hU3
        have G3 := G2.trans hG3
        have p3 := cell_at (unhide KA _ _ G3) 3
        simp at p3
        clear hU3 hG3 G2 p2
        go_wp2_with fail
        refine (xcount (unhide U3) (s 3).2.1 c3 (by have := unhide HB1; rw [unhide l3] at this; simp only [List.length_append]; omega)).mono ?_
        rintro e t4 ⟨rfl, u4, hU4, hG4⟩
        have U4 := hide hU4
        have G4 := G3.trans hG4
        have p4 := cell_at (unhide KA _ _ G4) 3
        simp at p4
        generalize hZ2 : Z1 ++ tyB x.ps ++ tyB x.rs ++ tyB x.ms ++ Lib.uvarint (s 3).2.1 = Z2 at *
        have HB2 := hide (show Z2.length + (x.cs.flatMap (fun i : Int × Int => insB i.1 i.2)).length + ((Lib.uvarint x.ts.length).length + (x.ts.flatMap tbB).length) ≤ 65536 by
          have := unhide HB1; rw [unhide l3] at this; rw [← hZ2]; simp only [List.length_append]; omega)
        have HZ2 := hide hZ2
        clear hU4 hG4 G3 p3 hZ2
        go_wp2
        go_loopw [8] (fun ix w' => ∃ (j : Nat) (v' : Value), j ≤ (s 3).2.1 ∧ ix = .int .i64 j ∧ V6 w' b v' (Z2 ++ (x.cs.take j).flatMap (fun i : Int × Int => insB i.1 i.2)) ∧ Wrote wA w' b v v') (fun ix w' => (s 3).2.1 - (intOf ix).toNat)
        case atStart => exact ⟨0, u4, Nat.zero_le _, rfl, by simpa using unhide U4, G4⟩
        case round =>
          clear G4 p4
          obtain ⟨j, v', hj, rfl, hV, hF⟩ := hrel
          have p3 := cell_at (unhide KA _ _ hF) 3
          simp at p3
          by_cases hlt2 : j < (s 3).2.1
          · obtain ⟨b3, o3, op, ar, ea, _, _, hy, _, _, f0, f1⟩ := PrA.get (unhide GA _ _ hF).1.cs hlt2
            unfold slV at p3
            rw [ea] at p3
            have HR3 := hide (show rightB op ar = true from unhide R3 (op, ar) (List.mem_of_getElem? hy))
            have HS2 := hide (flat_take (fun i : Int × Int => insB i.1 i.2) hy)
            have hl2 := hide (show (Z2 ++ (x.cs.take j).flatMap (fun i : Int × Int => insB i.1 i.2)).length + (insB op ar).length ≤ 65536 by
              have h1 := unhide HB2
              have h2 := flat_upto (fun i : Int × Int => insB i.1 i.2) x.cs (k := j + 1) (by rw [unhide l3]; omega)
              rw [unhide HS2] at h2
              simp only [List.length_append] at h2 ⊢
              omega)
            have HVj := hide hV
            have hji : (j : Int) < ((s 3).2.1 : Int) := by omega
            clear hV hy ea
            go_wp2_with (go_at_call 26; refine (xput (unhide HVj) _ _ (unhide HR3) (unhide hl2)).mono ?_; rintro e w9 ⟨rfl, v9, hV9, hF9⟩)
            go_roundw
            case rel => exact ⟨j + 1, v9, by omega, by go_num, by rw [unhide HS2, ← List.append_assoc]; exact hV9, hF.trans hF9⟩
            case measure => simp [intOf]; omega
          · have HZ3 := hide (show Z2 ++ (x.cs.take j).flatMap (fun i : Int × Int => insB i.1 i.2) = Z2 ++ x.cs.flatMap (fun i : Int × Int => insB i.1 i.2) by rw [flat_all _ (by rw [unhide l3]; exact hlt2)])
            rw [unhide HZ3] at hV
            have HVc := hide hV
            have p4 := cell_at (unhide KA _ _ hF) 4
            simp at p4
            clear hV
            go_wp2_with fail
            refine (xcount (unhide HVc) (s 4).2.1 c4 (by have := unhide HB2; rw [unhide l4] at this; simp only [List.length_append]; omega)).mono ?_
            rintro e t6 ⟨rfl, u6, hU6, hG6⟩
            have U6 := hide hU6
            have G6 := hF.trans hG6
            have p5 := cell_at (unhide KA _ _ G6) 4
            simp at p5
            generalize hZ4 : Z2 ++ x.cs.flatMap (fun i : Int × Int => insB i.1 i.2) ++ Lib.uvarint (s 4).2.1 = Z4 at *
            have HB4 := hide (show Z4.length + (x.ts.flatMap tbB).length ≤ 65536 by
              have := unhide HB2; rw [unhide l4] at this; rw [← hZ4]; simp only [List.length_append]; omega)
            have HZ4 := hide hZ4
            clear hU6 hG6 hF p3 p4 hZ4
            go_wp2
            go_loopw [9] (fun ix w' => ∃ (j : Nat) (v' : Value), j ≤ (s 4).2.1 ∧ ix = .int .i64 j ∧ V6 w' b v' (Z4 ++ (x.ts.take j).flatMap tbB) ∧ Wrote wA w' b v v') (fun ix w' => (s 4).2.1 - (intOf ix).toNat)
            case atStart => exact ⟨0, u6, Nat.zero_le _, rfl, by simpa using unhide U6, G6⟩
            case round =>
              clear G6 p5
              obtain ⟨j, v', hj, rfl, hV, hF⟩ := hrel
              have p4 := cell_at (unhide KA _ _ hF) 4
              simp at p4
              by_cases hlt3 : j < (s 4).2.1
              · obtain ⟨b5, o5, a', n', c', cl, tm, ea, _, _, hy, hpc, htm, f0, f1⟩ := TbA.get (unhide GA _ _ hF).1.ts hlt3
                unfold slV at p4
                rw [ea] at p4
                have hrt : rtabB (cl, tm) = true := unhide R4 (cl, tm) (List.mem_of_getElem? hy)
                have RC := hide (show ∀ q ∈ cl, clauseB q = true by simp only [rtabB, Bool.and_eq_true, List.all_eq_true] at hrt; exact hrt.2)
                have HS3 := hide (flat_take tbB hy)
                have lc := hide hpc.len
                have cc := hpc.small
                have hl3 := hide (show (Z4 ++ (x.ts.take j).flatMap tbB).length + ((Lib.uvarint n').length + (cl.flatMap clB).length + (Lib.uvarint (Lib.zigzag tm)).length) ≤ 65536 by
                  have h1 := unhide HB4
                  have h2 := flat_upto tbB x.ts (k := j + 1) (by rw [unhide l4]; omega)
                  rw [unhide HS3] at h2
                  have h3 := tbB_len cl tm
                  rw [hpc.len] at h3
                  simp only [List.length_append] at h2 ⊢
                  omega)
                have hji : (j : Int) < ((s 4).2.1 : Int) := by omega
                have qT : Q0 wr (wr.alloc (.cells #[.slice a' n' c', .int .i64 tm] 65)) := (Fr.refl _ wr).alloc _
                have kT : (wr.alloc (.cells #[.slice a' n' c', .int .i64 tm] 65)).heap[wr.heap.size]? = some (.cells #[.slice a' n' c', .int .i64 tm] 65 (0, 0)) := blk_new wr _
                have KT := hide kT
                have HVj := hide hV
                have HVt := hide (V6.q0 hV qT)
                have HPc := hide (PrA.fr hpc qT q0_no)
                have HOt := hide (unhide GA _ _ hF).2
                have FT := hide (hF.then qT)
                generalize hZ5 : Z4 ++ (x.ts.take j).flatMap tbB = Z5 at *
                have HZ5 := hide hZ5
                clear hV hy ea hrt hpc kT hF hZ5 qT
                go_wp2_with fail
                refine (xcount (unhide HVt) n' cc (by have := unhide hl3; omega)).mono ?_
                generalize wr.alloc (.cells #[.slice a' n' c', .int .i64 tm] 65) = wT at *
                generalize wr = wJ at *
                have KTs : Hid (∀ (w' : World) (v'' : Value), Wrote wT w' b v' v'' → w'.heap[wJ.heap.size]? = some (.cells #[.slice a' n' c', .int .i64 tm] 65 (0, 0))) := hide (fun w' v'' hw => keptV (unhide HVj) hw (Nat.le_refl _) (unhide KT))
                clear f0 f1 p4
                rintro e t7 ⟨rfl, u7, hU7, G7⟩
                have U7 := hide hU7
                have p7 := cell_at (unhide KTs _ _ G7) 0
                simp at p7
                clear hU7
                go_wp2
                go_loopw [11] (fun ix w' => ∃ (i : Nat) (v'' : Value), i ≤ n' ∧ ix = .int .i64 i ∧ V6 w' b v'' (Z5 ++ Lib.uvarint n' ++ (cl.take i).flatMap clB) ∧ Wrote wT w' b v' v'') (fun ix w' => n' - (intOf ix).toNat)
                case atStart => exact ⟨0, u7, Nat.zero_le _, rfl, by simpa using unhide U7, G7⟩
                case round =>
                  clear G7 p7
                  obtain ⟨i, v'', hi', rfl, hV, hF⟩ := hrel
                  have p0 := cell_at (unhide KTs _ _ hF) 0
                  simp at p0
                  by_cases hlt4 : i < n'
                  · obtain ⟨b6, o6, p, z, rfl, _, _, hy, _, _, f0, f1⟩ := PrA.get (PrA.fr (unhide HPc) hF.fr (unhide HOt).no) hlt4
                    have hcl : clauseB (p, z) = true := unhide RC (p, z) (List.mem_of_getElem? hy)
                    have hpq : 0 ≤ p ∧ p < 8 ∧ 0 ≤ z ∧ z < 200 := by simp [clauseB] at hcl; omega
                    obtain ⟨hp0, hp1, hq0, hq1⟩ := hpq
                    have HS4 := hide (flat_take clB hy)
                    have hl4 := hide (show (Z5 ++ Lib.uvarint n' ++ (cl.take i).flatMap clB).length + ((Lib.uvarint p.toNat).length + (Lib.uvarint z.toNat).length) ≤ 65536 by
                      have h1 := unhide hl3
                      have h2 := flat_upto clB cl (k := i + 1) (by rw [unhide lc]; omega)
                      rw [unhide HS4] at h2
                      simp only [clB, List.length_append] at h2 ⊢
                      omega)
                    have hii : (i : Int) < (n' : Int) := by omega
                    have HVi := hide hV
                    clear hV hcl
                    go_wp2_with fail
                    refine (xnum (unhide HVi) _ (by omega) (by omega) (by have := unhide hl4; omega)).mono ?_
                    rintro e w9 ⟨rfl, v9, hV9, hF9⟩
                    have V9 := hide hV9
                    have G9 := hF.trans hF9
                    have p9 := cell_at (unhide KTs _ _ G9) 0
                    obtain ⟨b7, o7, p', z', ea', _, _, hy', _, _, g0, g1⟩ := PrA.get (PrA.fr (unhide HPc) G9.fr (unhide HOt).no) hlt4
                    obtain ⟨rfl, rfl⟩ : b6 = b7 ∧ o6 = o7 := by simpa using ea'
                    obtain ⟨rfl, rfl⟩ : p = p' ∧ z = z' := by have := hy.symm.trans hy'; simpa using this
                    simp at p9
                    clear hV9 hF9 hF f0 f1 p0 hy hy' ea'
                    go_wp2_with fail
                    refine (xnum (unhide V9) _ (by omega) (by omega) (by have := unhide hl4; simp only [List.length_append] at this ⊢; omega)).mono ?_
                    rintro e w10 ⟨rfl, v10, hV10, hF10⟩
                    go_wp2
                    go_roundw
                    case rel => exact ⟨i + 1, v10, by omega, by go_num, by rw [unhide HS4]; simp only [clB, List.append_assoc] at hV10 ⊢; exact hV10, G9.trans hF10⟩
                    case measure => simp [intOf]; omega
                  · have HZ6 := hide (show Z5 ++ Lib.uvarint n' ++ (cl.take i).flatMap clB = Z5 ++ clsB cl by
                      unfold clsB; rw [flat_all _ (by rw [unhide lc]; exact hlt4), unhide lc, List.append_assoc])
                    rw [unhide HZ6] at hV
                    have HVc := hide hV
                    have p1 := cell_at (unhide KTs _ _ hF) 1
                    simp at p1
                    have hl5 := hide (show (Z5 ++ clsB cl).length + (Lib.uvarint (Lib.zigzag tm)).length ≤ 65536 by
                      have := unhide hl3; simp only [clsB, unhide lc, List.length_append]; omega)
                    clear hV
                    go_wp2_with (go_at_call 27; refine (xint (unhide HVc) _ htm (unhide hl5)).mono ?_; rintro e w11 ⟨rfl, v11, hV11, hF11⟩)
                    go_roundw
                    case rel => exact ⟨j + 1, v11, by omega, by go_num, by
                      rw [unhide HS3, ← List.append_assoc, unhide HZ5]; unfold tbB; rw [← List.append_assoc]; exact hV11, (Wrote.trans (unhide FT) hF).trans hF11⟩
                    case measure => simp [intOf]; omega
              · have HEq := hide (show Z4 ++ (x.ts.take j).flatMap tbB = Z1 ++ acB x by
                  rw [flat_all _ (by rw [unhide l4]; exact hlt3), ← unhide HZ4, ← unhide HZ2]
                  simp only [acB, cdB, tsB, unhide l3, unhide l4, List.append_assoc])
                rw [unhide HEq] at hV
                have HVe := hide hV
                clear hV
                go_wp2
                go_roundw
                case rel => exact ⟨k + 1, v', by omega, by go_num, by
                  have e := unhide HVe
                  rw [← unhide HZ1] at e
                  rw [unhide HS]; simp only [List.append_assoc] at e ⊢; exact e, Wrote.trans (unhide FB) hF⟩
                case measure => simp [intOf]; omega
      · have HE2 := hide (show magB ++ (Lib.uvarint n ++ (m.take k).flatMap acB) = moB m by
          unfold moB; rw [flat_all _ (by rw [unhide HN]; exact hlt), unhide HN])
        have HV := hide hV
        have HVd := hide (show IsV wr b 1048576 v (ints (moB m)) 0 by rw [← unhide HE2]; exact unhide HV)
        have QF : Hid (Q0 w wr) := hide ((unhide Q3).trans hF.fr (fun _ _ h => h) (fun i hi e => by
          rcases e with e | e
          · omega
          · simp [Value.ownBlock] at e))
        clear hV
        go_wp2_with (go_at_call 28; refine (vdone_calls (unhide HVd)).mono ?_; rintro e w9 ⟨rfl, q9, rfl⟩)
        go_ret2
        rw [unhide HT, unhide HE]
        exact ⟨rfl, Fr.drewN (unhide QF) _⟩
  · have HT := hide (show bytesT m = ⟨#[]⟩ by unfold bytesT; rw [if_neg hr])
    have hne : (rightE m != 0) = true := bne_iff_ne.2 hr
    clear hr
    go_enter Try.func11, Try.ntmps11
    go_wp2_with (go_at_call 13; refine (xmright_calls (unhide H1) _).mono ?_; rintro e w2 ⟨rfl, hF2⟩)
    go_ret2
    rw [unhide HT]
    exact ⟨rfl, q1.then hF2⟩

end Go.Proofs.Ytmmfmjaljgkobaa
