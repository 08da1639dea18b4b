/-
  The reader of a module's parts: instr, code.
-/
import Derived.Test.YthdpgachdegcgaaMoRd
namespace Go.Proofs.Ythdpgachdegcgaa
open Go.RowKit
set_option linter.unusedVariables false
set_option maxRecDepth 8192

theorem results_ins1 {fn : Func} {p : Tmp} (h : fn.results = #[.cell p 37]) (tmps : Array Value) (w : World) (b : Nat) (op a : Int) (hp : tmps.getD p undef = .pointer (some ⟨b, 0, none⟩))
    (hb : InsAt w b op a) : (results fn tmps).run Try.prog w = .ok (insV op a) w := by
  have hp' : tmps[p]?.getD undef = .pointer (some ⟨b, 0, none⟩) := by simpa using hp
  have := load_ins hb
  simp only [results, h]
  simp [hp', asAddr, this]

/-- what every world of the statement has -/
structure IG (w0 : World) (q b : Nat) (Tx : List UInt8) (s : RS) (w : World) : Prop where
  mr : MR w q b Tx s
  fr : Fr (fun _ => False) w0 w
theorem IG.step {w0 w w' : World} {q b : Nat} {Tx : List UInt8} {s : RS} (hf : Fr (fun _ => False) w w') (h : IG w0 q b Tx s w) : IG w0 q b Tx s w' := ⟨h.mr.q0 hf, h.fr.then hf⟩
theorem IG.alloc {w0 w : World} {q b : Nat} {Tx : List UInt8} {s : RS} (h : IG w0 q b Tx s w) (o : Obj) : IG w0 q b Tx s (w.alloc o) := h.step ((Fr.refl _ _).alloc o)
theorem IG.setc {w0 w : World} {q b : Nat} {Tx : List UInt8} {s : RS} (h : IG w0 q b Tx s w) (hq : q < w0.heap.size ∧ b < w0.heap.size) {p : Addr} (hp : w0.heap.size ≤ p.block) (u : Value) : IG w0 q b Tx s (w.setCell p u) := by
  have f : Fr (fun k => k = p.block) w (w.setCell p u) := (Fr.refl (fun k => k = p.block) w).setCell (p := p) (.inr rfl) u
  exact ⟨h.mr.fr f (by omega) (by omega), h.fr.trans f (fun _ _ h => h) (fun i hi e => by omega)⟩
theorem IG.all {w0 w : World} {q b : Nat} {Tx : List UInt8} {s : RS} (h : IG w0 q b Tx s w) : w.cell? ⟨q, 0, none⟩ = some (.pointer (some ⟨b, 0, none⟩)) ∧ w.cell? ⟨q, 1, none⟩ = some (.string (ba Tx)) ∧ IG w0 q b Tx s w := ⟨h.mr.c0, h.mr.c1, h⟩

theorem readI_ba (l : List UInt8) (hl : l.length ≤ 65536) (w : World) :
    Calls Try.prog 90 #[.string (ba l)] w fun e w' => e = .returned (.tuple #[insV (readN l).1 (readN l).2.1, .int .i64 (readN l).2.2.1, .int .i64 (readN l).2.2.2]) ∧ Fr (fun _ => False) w w' := by
  have := readI_calls (ba l) w (by rw [ba_size]; omega)
  rwa [ba_list] at this

set_option maxHeartbeats 2000000 in
theorem rdIns_calls {w : World} {q b : Nat} {Tx : List UInt8} {s : RS} (h : MR w q b Tx s) :
    Calls Try.prog 72 #[.pointer (some ⟨q, 0, none⟩)] w fun e w' => e = .returned (insV (rIns s).1.1 (rIns s).1.2) ∧ MR w' q b Tx (rIns s).2 ∧ Fr (QR q b) w w' := by
  have hql := h.lt
  have hTl := h.len
  obtain ⟨pre, hT⟩ := h.suf
  have q1 : Fr (fun _ => False) w (w.alloc (.cells #[.int .i64 0, .int .i64 0] 37)) := (Fr.refl _ w).alloc _
  have b1 : InsAt (w.alloc (.cells #[.int .i64 0, .int .i64 0] 37)) w.heap.size 0 0 := blk_new w _
  have HG : Hid (IG w q b Tx s (w.alloc (.cells #[.int .i64 0, .int .i64 0] 37))) := hide ⟨h.q0 q1, q1⟩
  have HB := hide b1
  have HT := hide hT
  have hsz : (ba Tx).size ≤ 65536 := by rw [ba_size]; exact hTl
  have hll : s.l.length ≤ (ba Tx).size := by rw [ba_size, hT, List.length_append]; omega
  have hszI : ((ba Tx).size : Int) ≤ 65536 := by omega
  have hllI : (s.l.length : Int) ≤ ((ba Tx).size : Int) := by omega
  obtain ⟨d, hd⟩ : ∃ d : Nat, d + s.l.length = (ba Tx).size := ⟨(ba Tx).size - s.l.length, by omega⟩
  have hw1 : IntKind.i64.wrap (((ba Tx).size : Int) - (s.l.length : Int)) = (d : Int) := by rw [i64_id (by omega) (by omega)]; omega
  have hw2 : wrap64 (((ba Tx).size : Int) - (s.l.length : Int)) = (d : Int) := by rw [w64 _ (by omega)]; omega
  have hw3 : (0 : Int) ≤ (d : Int) := by omega
  have hw4 : (d : Int) ≤ ((ba Tx).size : Int) := by omega
  have HX := hide (show (ba Tx).extract d (ba Tx).size = ba s.l by rw [ba_drop]; congr 1; rw [ba_size, hT, List.length_append] at hd; rw [hT, show d = pre.length by omega]; simp)
  have HR := hide (readN_back s.l)
  have hl6 : s.l.length ≤ 65536 := by omega
  clear h b1 hT hd
  go_enter Try.func72, Try.ntmps72
  go_wp2
  generalize w.alloc (.cells #[.int .i64 0, .int .i64 0] 37) = w1 at *
  have hG := unhide HG
  have hD := hG.step ((Fr.refl _ _).drew)
  have hD2 : IG w q b Tx s (w1.alloc (.cells #[.int .i64 0, .int .i64 0] 37)).drew := (hG.alloc _).step ((Fr.refl _ _).drew)
  have hI : InsAt (w1.alloc (.cells #[.int .i64 0, .int .i64 0] 37)).drew w1.heap.size 0 0 := blk_new w1 _
  have hsz1 : w.heap.size ≤ w1.heap.size := q1.size
  have hB2 : InsAt (w1.alloc (.cells #[.int .i64 0, .int .i64 0] 37)).drew w.heap.size 0 0 := blk_alloc (unhide HB)
  have hB3 : InsAt w1.drew w.heap.size 0 0 := unhide HB
  go_region_held3 (fun w' => w'.cell? ⟨q, 0, none⟩ = some (.pointer (some ⟨b, 0, none⟩)) ∧ w'.cell? ⟨q, 1, none⟩ = some (.string (ba Tx)) ∧ IG w q b Tx s w') (first | exact IG.all (by assumption) | exact IG.all (IG.setc (by assumption) hql hsz1 _) | exact IG.all (IG.setc (IG.setc (by assumption) hql hsz1 _) hql hsz1 _) | exact IG.all (IG.alloc (by assumption) _) | exact IG.all (IG.setc (IG.alloc (by assumption) _) hql (IG.fr (by assumption)).size _) | exact IG.all (IG.setc (IG.setc (IG.alloc (by assumption) _) hql (IG.fr (by assumption)).size _) hql (IG.fr (by assumption)).size _))
    (first
    | (go_at_call 91; refine (left_calls (IG.mr (by first | assumption | (refine And.right (And.right ?_) <;> assumption))).rd).mono ?_; rintro e w' ⟨rfl, rfl⟩)
    | (go_at_call 90; rw [unhide HX]; refine (readI_ba _ hl6 _).mono ?_; rintro e w2 ⟨rfl, hF2⟩; first | (have hS : IG w q b Tx s w2 := IG.step hF2 hD; have hz2 := hF2.size) | (have hS : IG w q b Tx s w2 := IG.step hF2 hD2; have i2 := hI.fr hF2 (fun h => h); have i2a := i2.c0; have i2b := i2.c1; have i2c := i2.f0; have i2d := i2.f1; have hz2 := i2.lt)))
  all_goals
    have hbx := lt_of_blk (unhide HB)
    first
    | (have hI3 := hide (i2.set (readN s.l).1 (readN s.l).2.1)
       have hf3 : Fr (fun k => k = w1.heap.size) w2 ((w2.setCell ⟨w1.heap.size, 0, none⟩ (.int .i64 (readN s.l).1)).setCell ⟨w1.heap.size, 1, none⟩ (.int .i64 (readN s.l).2.1)) := ((Fr.refl (fun k => k = w1.heap.size) w2).setAt _ _ _ (.inr rfl)).setAt _ _ _ (.inr rfl)
       have hG3 := hide (((hS.setc hql (p := ⟨w1.heap.size, 0, none⟩) hsz1 (.int .i64 (readN s.l).1))).setc hql (p := ⟨w1.heap.size, 1, none⟩) hsz1 (.int .i64 (readN s.l).2.1))
       have hr3 := hide ((hB2.fr hF2 (fun h => h)).fr hf3 (by show ¬ (w.heap.size = w1.heap.size); omega))
       clear i2 i2a i2b i2c i2d hS hF2 hf3
       rename_i hHeld
       clear hHeld
       generalize (w2.setCell ⟨w1.heap.size, 0, none⟩ (.int .i64 (readN s.l).1)).setCell ⟨w1.heap.size, 1, none⟩ (.int .i64 (readN s.l).2.1) = W at *
       generalize w1.heap.size = p at *)
    | (have hI3 := hide (show InsAt (w2.alloc (.cells #[.int .i64 (readN s.l).1, .int .i64 (readN s.l).2.1] 37)) w2.heap.size (readN s.l).1 (readN s.l).2.1 from blk_new w2 _)
       have hG3 := hide (hS.alloc (.cells #[.int .i64 (readN s.l).1, .int .i64 (readN s.l).2.1] 37))
       have hr3 := hide ((hB3.fr hF2 (fun h => h)).fr ((Fr.refl (fun _ => False) w2).alloc (.cells #[.int .i64 (readN s.l).1, .int .i64 (readN s.l).2.1] 37)) (fun h => h))
       have hbx2 : w.heap.size < w2.heap.size := Nat.lt_of_lt_of_le hbx hz2
       clear hS hF2 hz2 hbx
       rename_i hHeld
       clear hHeld
       generalize w2.alloc (.cells #[.int .i64 (readN s.l).1, .int .i64 (readN s.l).2.1] 37) = W at *
       generalize w2.heap.size = p at *)
  all_goals
    have hp3 : w.heap.size < p := by assumption
    clear hD hD2 hI hG HG HB q1 hsz1 hB2 hB3
    have HRS := hide (show rIns s = (((readN s.l).1, (readN s.l).2.1), skip (readN s.l).2.2.1 ⟨s.l, s.E, s.bad || (readN s.l).2.2.2 != 0⟩) from rfl)
    have hn6 : (readN s.l).2.2.1 ≤ 65536 := by rcases unhide HR with ⟨_, _, _, e⟩ | ⟨_, _, e, _⟩ <;> omega
    have c2 := (unhide hG3).mr.c2
    have f2 := (unhide hG3).mr.f2
    have fq : Fr (QR q b) w W := frQ0 (unhide hG3).fr
    have HM := hide (unhide hG3).mr
    clear hw1 hw2 hw3 hw4 HX HR hll hszI hllI hsz HT hTl hl6 hG3
    generalize readN s.l = r at *
    obtain ⟨op, a, n, er⟩ := r
    dsimp only at *
    by_cases he : er = 0
    · have hb : (er != 0) = false := by simp [he]
      rw [hb, Bool.or_false] at HRS
      clear he
      go_wp2
      go_loopw [33] (fun ix w' => ∃ (k : Nat), k ≤ n ∧ ix = .int .i64 k ∧ MR w' q b Tx (skip k ⟨s.l, s.E, s.bad⟩) ∧ Fr (QR q b) W w') (fun ix w' => n - (intOf ix).toNat)
      case atStart => exact ⟨0, Nat.zero_le _, rfl, unhide HM, Fr.refl _ _⟩
      case round =>
        clear c2 f2
        obtain ⟨k, hk, rfl, hM, hF⟩ := hrel
        by_cases hlt : k < n
        · have k0 := hM.c0
          have HB := hide (by_calls hM)
          clear hM
          go_wp2_with (go_at_call 49; refine (unhide HB).mono ?_; rintro e w4 ⟨rfl, hM4, hF4⟩)
          go_roundw
          case rel => exact ⟨k + 1, by omega, by go_num, hM4, frQt hF (frQ hF4)⟩
          case measure => simp [intOf]; omega
        · have hkn : k = n := by omega
          subst hkn
          have I4 := (unhide hI3).fr hF (by show ¬ (p = q ∨ p = b); omega)
          have R4 := (unhide hr3).fr hF (by show ¬ (w.heap.size = q ∨ w.heap.size = b); omega)
          have c0 := I4.c0
          have c1 := I4.c1
          have g0 := R4.c0
          have g1 := R4.c1
          have f0 := R4.f0
          have f1 := R4.f1
          have HR4 := hide R4
          clear I4 R4
          go_wp2
          have fs : Fr (fun k => k = w.heap.size) wr ((wr.setCell ⟨w.heap.size, 0, none⟩ (.int .i64 op)).setCell ⟨w.heap.size, 1, none⟩ (.int .i64 a)) := ((Fr.refl (fun k => k = w.heap.size) wr).setAt _ _ _ (.inr rfl)).setAt _ _ _ (.inr rfl)
          rw [unhide HRS]
          exact bodyPost_ret (results_ins1 rfl _ _ _ _ _ rfl ((unhide HR4).set op a)) rfl ⟨rfl, hM.fr fs (by omega) (by omega), (frQt fq hF).trans fs (fun _ _ h => h) (fun i hi e => by omega)⟩
    · have hb : (er != 0) = true := by simp [he]
      rw [hb, Bool.or_true] at HRS
      have HM2 := hide (unhide HM).wrong.1
      have F2 := (unhide HM).wrong.2
      have HI2 := hide ((unhide hI3).fr F2 (by show ¬ (p = q ∨ p = b); omega))
      have Hr2 := hide ((unhide hr3).fr F2 (by show ¬ (w.heap.size = q ∨ w.heap.size = b); omega))
      have fq2 := frQt fq F2
      clear he HM hI3 hr3 fq F2
      go_wp2
      generalize W.setCell ⟨q, 2, none⟩ (.bool true) = W2 at *
      go_loopw [33] (fun ix w' => ∃ (k : Nat), k ≤ n ∧ ix = .int .i64 k ∧ MR w' q b Tx (skip k ⟨s.l, s.E, true⟩) ∧ Fr (QR q b) W2 w') (fun ix w' => n - (intOf ix).toNat)
      case atStart => exact ⟨0, Nat.zero_le _, rfl, unhide HM2, Fr.refl _ _⟩
      case round =>
        clear c2 f2
        obtain ⟨k, hk, rfl, hM, hF⟩ := hrel
        by_cases hlt : k < n
        · have k0 := hM.c0
          have HB := hide (by_calls hM)
          clear hM
          go_wp2_with (go_at_call 49; refine (unhide HB).mono ?_; rintro e w4 ⟨rfl, hM4, hF4⟩)
          go_roundw
          case rel => exact ⟨k + 1, by omega, by go_num, hM4, frQt hF (frQ hF4)⟩
          case measure => simp [intOf]; omega
        · have hkn : k = n := by omega
          subst hkn
          have I4 := (unhide HI2).fr hF (by show ¬ (p = q ∨ p = b); omega)
          have R4 := (unhide Hr2).fr hF (by show ¬ (w.heap.size = q ∨ w.heap.size = b); omega)
          have c0 := I4.c0
          have c1 := I4.c1
          have g0 := R4.c0
          have g1 := R4.c1
          have f0 := R4.f0
          have f1 := R4.f1
          have HR4 := hide R4
          clear I4 R4
          go_wp2
          have fs : Fr (fun k => k = w.heap.size) wr ((wr.setCell ⟨w.heap.size, 0, none⟩ (.int .i64 op)).setCell ⟨w.heap.size, 1, none⟩ (.int .i64 a)) := ((Fr.refl (fun k => k = w.heap.size) wr).setAt _ _ _ (.inr rfl)).setAt _ _ _ (.inr rfl)
          rw [unhide HRS]
          exact bodyPost_ret (results_ins1 rfl _ _ _ _ _ rfl ((unhide HR4).set op a)) rfl ⟨rfl, hM.fr fs (by omega) (by omega), (frQt fq2 hF).trans fs (fun _ _ h => h) (fun i hi e => by omega)⟩

end Go.Proofs.Ythdpgachdegcgaa
