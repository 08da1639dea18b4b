/-
  DequeOnce: each thing comes out once at most, none is lost.
-/
import Derived.Test.YtingpopcdihclaaDqFifo
import Derived.Test.YtingpopcdihclaaDqOncePlain
namespace Go.Proofs.Ytingpopcdihclaa
open Go.RowKit
set_option linter.unusedVariables false
set_option maxRecDepth 8192

theorem Try.infoBool : (Try.prog.info? 4).map (fun i => (i.zero, i.size, i.bytes)) = some (some (.bool false), 1, 1) := by kernel_rfl

/-- a block of n truths -/
def BA (w : World) (q n : Nat) (f : Nat → Bool) : Prop := ∃ cs : Array Value, w.heap[q]? = some (.cells cs 4 (0, 0)) ∧ cs.size = n ∧ ∀ i, i < n → cs[i]? = some (.bool (f i))

theorem BA.fr {P : Nat → Prop} {w w' : World} {q n : Nat} {f : Nat → Bool} (h : BA w q n f) (hf : Fr P w w') (hq : ¬ P q) : BA w' q n f := by
  obtain ⟨cs, h1, h2⟩ := h; exact ⟨cs, hf.blk h1 hq, h2⟩
theorem BA.lt {w : World} {q n : Nat} {f : Nat → Bool} (h : BA w q n f) : q < w.heap.size := by obtain ⟨cs, h1, _⟩ := h; exact lt_of_blk h1
theorem BA.c {w : World} {q n : Nat} {f : Nat → Bool} (h : BA w q n f) {i : Nat} (hi : i < n) : w.cell? ⟨q, i, none⟩ = some (.bool (f i)) := by
  obtain ⟨cs, h1, h2, h3⟩ := h; rw [cell_at h1]; exact h3 i hi
theorem BA.free {w : World} {q n : Nat} {f : Nat → Bool} (h : BA w q n f) (i : Nat) : w.frozen? ⟨q, i, none⟩ = false := by
  obtain ⟨cs, h1, h2, h3⟩ := h; exact free_at h1 i
theorem BA.put {w : World} {q n : Nat} {f : Nat → Bool} (h : BA w q n f) {i : Nat} (hi : i < n) : BA (w.setCell ⟨q, i, none⟩ (.bool true)) q n (put f i) := by
  obtain ⟨cs, h1, h2, h3⟩ := h
  refine ⟨_, blk_setCell h1, by simpa using h2, fun j hj => ?_⟩
  rw [Array.getElem?_setIfInBounds]
  by_cases e : i = j
  · subst e; rw [if_pos rfl, if_pos (by omega), put_at]
  · rw [if_neg e, h3 j hj, put_ne f (fun h => e h.symm)]
theorem BA.new {w : World} {n : Nat} {cs : Array Value} (h : cs.toList = List.replicate n (.bool false)) : BA (w.alloc (.cells cs 4)) w.heap.size n (fun _ => false) := by
  refine ⟨cs, blk_new _ _, ?_, fun i hi => ?_⟩
  · have := congrArg List.length h; simpa using this
  · rw [← Array.getElem?_toList, h, List.getElem?_replicate, if_pos hi]

/-- where the law stands: j rounds done of n1 and 48 -/
structure OnS (w0 : World) (G S qI N n1 : Nat) (j : Nat) (m : Int) (w : World) : Prop where
  ex : ∃ (d : Dq) (L K : List Int) (la : Int) (fI fO : Nat → Bool), IsD w (G + 1) G S d ∧ Inv S d L K ∧ Vals d L K la m ∧ 0 ≤ la ∧ Onc d L K m fI fO ∧ BA w qI N fI ∧ BA w (qI + 1) N fO ∧ d.top ≤ j ∧
    (n1 ≤ j → ∀ k, k < 8 → rem (d.th k).pc ≤ (n1 + 55 - k) / 8 - (j + 7 - k) / 8)
  m0 : 0 ≤ m
  mj : m ≤ j
  mn : m ≤ n1
  fr : Fr (fun _ => False) w0 w

theorem left_step {n1 j k i : Nat} (hj : j < n1 + 48) (hk : j % 8 = k) (hi : i < 8) (hik : i ≠ k) : (n1 + 55 - i) / 8 - (j + 7 - i) / 8 ≤ (n1 + 55 - i) / 8 - (j + 1 + 7 - i) / 8 := by omega
theorem left_own {n1 j k : Nat} (hj : j < n1 + 48) (hk : j % 8 = k) : (n1 + 55 - k) / 8 - (j + 7 - k) / 8 = (n1 + 55 - k) / 8 - (j + 1 + 7 - k) / 8 + 1 := by omega
theorem left_first {n1 k : Nat} (hk : k < 8) : 6 ≤ (n1 + 55 - k) / 8 - (n1 + 7 - k) / 8 := by omega
theorem left_last {n1 k : Nat} (hk : k < 8) : (n1 + 55 - k) / 8 - (n1 + 48 + 7 - k) / 8 = 0 := by omega

theorem Inv.pc14 {S : Nat} {d : Dq} {L K : List Int} (I : Inv S d L K) {k : Nat} (hk : k < 8) : (d.th k).pc ≤ 14 := by
  rcases Nat.eq_zero_or_pos k with rfl | h0
  · have hO := I.own
    unfold OwnI at hO
    omega
  · have hT := I.th k h0 hk
    unfold ThI at hT
    omega

theorem lastOf_ge {S : Nat} {d : Dq} {L K L' K' : List Int} {k : Nat} {la n : Int} {y : Dn} (V : Vals d L K la n) (hE : Ev S d k L K L' K' y) : la ≤ lastOf la y := by
  unfold lastOf
  split
  · rename_i h
    cases hE with
    | stole v => exact Int.le_of_lt (V.low v (by simp))
    | quiet => exact absurd h.1 (by decide)
    | pushed _ v => exact absurd h.2.2 (by show ¬ (0 : Int) = 2; omega)
    | full _ v => exact absurd h.2.2 (by show ¬ (0 : Int) = 2; omega)
    | took _ x => exact absurd h.1 (by decide)
    | popped _ v => exact absurd h.2.2 (by show ¬ (1 : Int) = 2; omega)
    | empty => exact absurd h.2.2 (by show ¬ (1 : Int) = 2; omega)
    | missed _ _ e hk he => exact absurd h.2.1 (by show ¬ e = 0; omega)
  · exact Int.le_refl _

/-- all that is known behind a step -/
theorem on_step {S : Nat} {d : Dq} {L K : List Int} {la n : Int} {k : Nat} {fI fO : Nat → Bool} (I : Inv S d L K) (V : Vals d L K la n) (hla : 0 ≤ la) (O : Onc d L K n fI fO) (hk8 : k < 8) (hp : 0 < (d.th k).pc) (hS : S ≤ 64) (hN : d.top ≤ 576460752303423488) :
    ∃ d2 y L2 K2 la2, (stp S d k).1 = d2 ∧ (stp S d k).2 = y ∧ Sd d k ∧ Inv S d2 L2 K2 ∧ Vals d2 L2 K2 la2 n ∧ 0 ≤ la2 ∧ d2.top ≤ d.top + 1 ∧ (∀ i, i ≠ k → d2.th i = d.th i) ∧ rem (d2.th k).pc + 1 ≤ rem (d.th k).pc ∧
    ((y.over = false ∧ Onc d2 L2 K2 n fI fO) ∨
    (y.over = true ∧ y.err ≠ 0 ∧ Onc d2 L2 K2 n fI fO) ∨
    (∃ v : Nat, 0 < v ∧ (v : Int) ≤ n ∧ y = ⟨true, 0, v, 0⟩ ∧ Onc d2 L2 K2 n (put fI v) fO) ∨
    (∃ v : Nat, ∃ op : Int, 0 < v ∧ (v : Int) ≤ n ∧ op ≠ 0 ∧ y = ⟨true, op, v, 0⟩ ∧ fO v = false ∧ Onc d2 L2 K2 n fI (put fO v))) := by
  obtain ⟨L2, K2, I2, hE, V2, hs, ht, _⟩ := law_step I V hk8 hp hS hN
  obtain ⟨h1, h2⟩ := pu_step I hk8 hp
  exact ⟨_, _, L2, K2, _, rfl, rfl, hs, I2, V2, by have := lastOf_ge V hE; omega, ht, fun i hi => stp_thi S d hi hs.pc.1 hs.pc.2, stp_rem S d hs.pc.1 hs.pc.2, onc_step O V hla hE (fun h => (h1 h).1) h2⟩

theorem nxt_n {d : Dq} {k : Nat} {p : Bool} {m : Int} {j : Nat} (h0 : 0 ≤ m) (h1 : m ≤ j) : 0 ≤ (nxt d k p m).2 ∧ (nxt d k p m).2 ≤ (j : Int) + 1 := by
  unfold nxt
  split
  · exact ⟨h0, by show m ≤ _; omega⟩
  · split
    · split
      · exact ⟨by show 0 ≤ m + 1; omega, by show m + 1 ≤ _; omega⟩
      · exact ⟨h0, by show m ≤ _; omega⟩
    · exact ⟨h0, by show m ≤ _; omega⟩

set_option maxHeartbeats 16000000 in
theorem once_calls {w : World} (size : Int) {a1 : Option Addr} {n1 k1 : Nat} {rows : List Rw} (A1 : RwA w.heap.size w a1 n1 rows) (hn1 : n1 * 16 ≤ 140737488351232) :
    Calls Try.prog 4 #[.int .i64 size, .slice a1 n1 k1] w fun e w' => e = .returned (.bool true) ∧ Fr (fun _ => False) w w' := by
  obtain ⟨N, hN⟩ : ∃ N, n1 + 2 = N := ⟨_, rfl⟩
  have hNI : (n1 : Int) + 2 = (N : Int) := by omega
  have hN48 : N ≤ 8796093022210 := by omega
  have hn48 : n1 ≤ 8796093022208 := by omega
  have HN2 := hide hN
  clear hN hn1
  go_enter Try.func4, Try.ntmps4
  go_wp2_with (first
    | (go_at_call 9; refine (lives_calls _).mono ?_; rintro e w1 ⟨rfl, hF0⟩)
    | (go_at_call 10; refine (dnew2 _ _).mono ?_; rintro e w2 ⟨G, S, hG0, hS0, rfl, hD, hF⟩)
    | (at_make; refine wpList_make_rep _ rfl _ _ 51 rfl 4 (.bool false) 1 Try.underlying51 Try.infoBool rfl _ _ N _ _ rfl rfl (by omega) (by omega) (by omega) (by unfold maxLen; omega) ?_; intro cs hcs))
  rename_i csI hcsI _ _
  have hS1 := clamp_pos size
  have hS2 := clamp_most size
  rw [hS0.out] at hS1 hS2
  have hG : w.heap.size ≤ G := by rw [← hG0.out]; exact hF0.size
  obtain ⟨qI, hqI⟩ : ∃ q, w2.heap.size = q := ⟨_, rfl⟩
  have hGq : G + 1 < qI := by rw [← hqI]; exact hD.lt
  have b1 := BA.new (w := w2) hcsI
  have b2 := BA.new (w := w2.alloc (.cells csI 4)) hcs
  have b1' := b1.fr ((Fr.refl (fun _ => False) _).alloc (.cells cs 4)) (fun h => h)
  have hFr := ((hF0.trans hF (T := fun _ => False) (fun _ _ h => h) (fun _ _ h => h)).alloc (.cells csI 4)).alloc (.cells cs 4)
  have hDD := (hD.al (.cells csI 4)).al (.cells cs 4)
  have hsz : (w2.alloc (.cells csI 4)).heap.size = qI + 1 := by simp; omega
  rw [hqI] at b1'
  rw [hsz] at b2
  have hst : OnS w G S qI N n1 0 0 ((w2.alloc (.cells csI 4)).alloc (.cells cs 4)) :=
    ⟨⟨Dq.new, [], [], 0, _, _, hDD, inv_new hS1, vals_new (S := S), by omega, onc_new rfl, b1', b2, by simp [Dq.new], fun h k hk => by simp [Dq.new, Rn.zero, rem]⟩, by omega, by omega, by omega, hFr⟩
  have hslots : Hid (w2.heap.size = qI) := hqI
  clear hG0 hS0 hF0 hF hD b1 b2 b1' hFr hDD hsz hqI
  simp only [hslots.out]
  go_loopw [6, 9] (fun n i wr => ∃ (j : Nat) (m : Int), j ≤ n1 + 48 ∧ i = .int .i64 j ∧ n = .int .i64 m ∧ OnS w G S qI N n1 j m wr) (fun _ i _ => n1 + 48 - (intOf i).toNat)
  case atStart => exact ⟨0, 0, by omega, rfl, rfl, hst⟩
  case round =>
    clear hst
    obtain ⟨j, m, hj, rfl, rfl, hZ⟩ := hrel
    obtain ⟨⟨d, L, K, la, fI, fO, hD, I, V, hla, O, hBI, hBO, htop, hrem⟩, hm0, hmj, hmn, hF⟩ := hZ
    have hltG := hD.lt
    have hltI := hBI.lt
    have hltO := hBO.lt
    have hszF := hF.size
    by_cases hlt : j < n1
    · obtain ⟨ba, off, ⟨t, p⟩, vs, rfl, hba, hx, hc, rfl, _⟩ := (A1.fr hF (fun _ h => h.elim)).at hlt
      have c0 : wr.cell? ⟨ba, off + j * 2, none⟩ = some (.int .i64 t) := by simpa using hc 0 _ rfl
      have c1 : wr.cell? ⟨ba, off + j * 2 + 1, none⟩ = some (.bool p) := by simpa using hc 1 _ rfl
      have hlt' : (j : Int) < (n1 : Int) := by omega
      have hlt2 : (j : Int) < (n1 : Int) + 48 := by omega
      clear hx hc
      obtain ⟨k, hk8, hk⟩ := thI_lt t
      obtain ⟨I1, hp1, ht1, ho1⟩ := nxt_inv I hk8 p m
      have V1 := nxt_vals V k p
      have O1 := onc_nxt O k p
      have HN := hide (next_calls hD hk hk8 p m ⟨hm0, by omega⟩)
      obtain ⟨hm10, hm11⟩ := nxt_n (d := d) (k := k) (p := p) hm0 hmj
      generalize (nxt d k p m).1 = d1 at *
      generalize (nxt d k p m).2 = m1 at *
      obtain ⟨d2, y, L2, K2, la2, hd2, hy, hs, I2, V2, hla2, ht2, hoth, hrm, hway⟩ := on_step I1 V1 hla O1 hk8 hp1 hS2 (by omega)
      have HST := hide (fun (w1 : World) (h1 : IsD w1 (G + 1) G S d1) => step_busy h1 hk8 hs)
      rw [hd2, hy] at HST
      have hmn1 : m1 ≤ (n1 : Int) := by omega
      have HR : Hid (n1 ≤ j + 1 → ∀ k, k < 8 → rem (d2.th k).pc ≤ (n1 + 55 - k) / 8 - (j + 1 + 7 - k) / 8) := fun h i hi => by
        have e : j + 1 = n1 := by omega
        have h1 := rem_le (I2.pc14 hi)
        have h2 := left_first (n1 := n1) hi
        rw [e]; omega
      clear V ho1 hs I O hd2 hy hoth hrm hrem I1 V1 O1 hmn
      rcases hway with ⟨hov, O2⟩ | ⟨hov, her, O2⟩ | ⟨u, hu0, hun, rfl, O2⟩ | ⟨u, op, hu0, hun, hop, rfl, hfo, O2⟩
      · obtain ⟨ov, op, v, er⟩ := y
        simp only at hov
        subst hov
        go_wp2_with (first
          | (go_at_call 23; refine (unhide HN).mono ?_; rintro e w1 ⟨rfl, hD1, hF1⟩; have e0 := cell_fr hF1 (by omega) c0; have e1 := cell_fr hF1 (by omega) c1)
          | (go_at_call 24; refine (thread_calls hk _ _).mono ?_; rintro e w2 ⟨rfl, hF2⟩; have hD2 := hD1.fr hF2 (fun h => h) (fun h => h); have hFx := hF1.trans hF2 (T := fun k => k = G + 1 ∨ k = G) (fun _ _ h => h) (fun _ _ h => h.elim))
          | (go_at_call 19; refine (busy_yes hD2 hk8 hp1).mono ?_; rintro e w' ⟨rfl, rfl⟩)
          | (go_at_call 15; refine (unhide HST _ hD2).mono ?_; rintro e w3 ⟨rfl, hD3, hF3⟩; unfold dnV; dsimp only; have bI := (hBI.fr hFx (by omega)).fr hF3 (by omega); have bO := (hBO.fr hFx (by omega)).fr hF3 (by omega)))
        go_roundw
        case rel => exact ⟨j + 1, m1, by omega, by go_num, rfl, ⟨⟨d2, L2, K2, la2, fI, fO, hD3.al _, I2, V2, hla2, O2, bI.fr ((Fr.refl (fun _ => False) _).alloc _) (fun h => h), bO.fr ((Fr.refl (fun _ => False) _).alloc _) (fun h => h), by omega, HR.out⟩, hm10, by omega, hmn1, ((hF.trans hFx (fun _ _ h => h) (fun i hi e => by omega)).deq hF3 (by omega) hG).alloc _⟩⟩
        case measure => simp [intOf]; omega
      · obtain ⟨ov, op, v, er⟩ := y
        simp only at hov her
        subst hov
        have her' : (er == 0) = false := by simpa using her
        clear her
        go_wp2_with (first
          | (go_at_call 23; refine (unhide HN).mono ?_; rintro e w1 ⟨rfl, hD1, hF1⟩; have e0 := cell_fr hF1 (by omega) c0; have e1 := cell_fr hF1 (by omega) c1)
          | (go_at_call 24; refine (thread_calls hk _ _).mono ?_; rintro e w2 ⟨rfl, hF2⟩; have hD2 := hD1.fr hF2 (fun h => h) (fun h => h); have hFx := hF1.trans hF2 (T := fun k => k = G + 1 ∨ k = G) (fun _ _ h => h) (fun _ _ h => h.elim))
          | (go_at_call 19; refine (busy_yes hD2 hk8 hp1).mono ?_; rintro e w' ⟨rfl, rfl⟩)
          | (go_at_call 15; refine (unhide HST _ hD2).mono ?_; rintro e w3 ⟨rfl, hD3, hF3⟩; unfold dnV; dsimp only; have bI := (hBI.fr hFx (by omega)).fr hF3 (by omega); have bO := (hBO.fr hFx (by omega)).fr hF3 (by omega)))
        go_roundw
        case rel => exact ⟨j + 1, m1, by omega, by go_num, rfl, ⟨⟨d2, L2, K2, la2, fI, fO, hD3.al _, I2, V2, hla2, O2, bI.fr ((Fr.refl (fun _ => False) _).alloc _) (fun h => h), bO.fr ((Fr.refl (fun _ => False) _).alloc _) (fun h => h), by omega, HR.out⟩, hm10, by omega, hmn1, ((hF.trans hFx (fun _ _ h => h) (fun i hi e => by omega)).deq hF3 (by omega) hG).alloc _⟩⟩
        case measure => simp [intOf]; omega
      · have hu1 : (1 : Int) ≤ (u : Int) := by omega
        have huN : (u : Int) < (N : Int) := by have := HN2.out; omega
        have huN' : u < N := by omega
        go_wp2_with (first
          | (go_at_call 23; refine (unhide HN).mono ?_; rintro e w1 ⟨rfl, hD1, hF1⟩; have e0 := cell_fr hF1 (by omega) c0; have e1 := cell_fr hF1 (by omega) c1)
          | (go_at_call 24; refine (thread_calls hk _ _).mono ?_; rintro e w2 ⟨rfl, hF2⟩; have hD2 := hD1.fr hF2 (fun h => h) (fun h => h); have hFx := hF1.trans hF2 (T := fun k => k = G + 1 ∨ k = G) (fun _ _ h => h) (fun _ _ h => h.elim))
          | (go_at_call 19; refine (busy_yes hD2 hk8 hp1).mono ?_; rintro e w' ⟨rfl, rfl⟩)
          | (go_at_call 15; refine (unhide HST _ hD2).mono ?_; rintro e w3 ⟨rfl, hD3, hF3⟩; unfold dnV; dsimp only; have bI := (hBI.fr hFx (by omega)).fr hF3 (by omega); have bO := (hBO.fr hFx (by omega)).fr hF3 (by omega); have z1 := bI.c huN'; have z2 := bI.free u; have zlt := bI.lt))
        go_roundw
        case rel => exact ⟨j + 1, m1, by omega, by go_num, rfl, ⟨⟨d2, L2, K2, la2, put fI u, fO, (hD3.fr (Fr.set1 _ qI u _) (show ¬ G + 1 = qI by omega) (show ¬ G = qI by omega)).al _, I2, V2, hla2, O2, (bI.put huN').fr ((Fr.refl (fun _ => False) _).alloc _) (fun h => h), (bO.fr (Fr.set1 _ qI u _) (show ¬ qI + 1 = qI by omega)).fr ((Fr.refl (fun _ => False) _).alloc _) (fun h => h), by omega, HR.out⟩, hm10, by omega, hmn1, (((hF.trans hFx (fun _ _ h => h) (fun i hi e => by omega)).deq hF3 (by omega) hG).setAt qI u _ (.inl (by omega))).alloc _⟩⟩
        case measure => simp [intOf]; omega
      · have hu1 : (1 : Int) ≤ (u : Int) := by omega
        have huN : (u : Int) < (N : Int) := by have := HN2.out; omega
        have huN' : u < N := by omega
        have hop' : (op == 0) = false := by simpa using hop
        clear hop
        go_wp2_with (first
          | (go_at_call 23; refine (unhide HN).mono ?_; rintro e w1 ⟨rfl, hD1, hF1⟩; have e0 := cell_fr hF1 (by omega) c0; have e1 := cell_fr hF1 (by omega) c1)
          | (go_at_call 24; refine (thread_calls hk _ _).mono ?_; rintro e w2 ⟨rfl, hF2⟩; have hD2 := hD1.fr hF2 (fun h => h) (fun h => h); have hFx := hF1.trans hF2 (T := fun k => k = G + 1 ∨ k = G) (fun _ _ h => h) (fun _ _ h => h.elim))
          | (go_at_call 19; refine (busy_yes hD2 hk8 hp1).mono ?_; rintro e w' ⟨rfl, rfl⟩)
          | (go_at_call 15; refine (unhide HST _ hD2).mono ?_; rintro e w3 ⟨rfl, hD3, hF3⟩; unfold dnV; dsimp only; have bI := (hBI.fr hFx (by omega)).fr hF3 (by omega); have bO := (hBO.fr hFx (by omega)).fr hF3 (by omega); have z1 := bO.c huN'; rw [hfo] at z1; have z2 := bO.free u; have zlt := bO.lt))
        go_roundw
        case rel => exact ⟨j + 1, m1, by omega, by go_num, rfl, ⟨⟨d2, L2, K2, la2, fI, put fO u, (hD3.fr (Fr.set1 _ (qI + 1) u _) (show ¬ G + 1 = qI + 1 by omega) (show ¬ G = qI + 1 by omega)).al _, I2, V2, hla2, O2, (bI.fr (Fr.set1 _ (qI + 1) u _) (show ¬ qI = qI + 1 by omega)).fr ((Fr.refl (fun _ => False) _).alloc _) (fun h => h), (bO.put huN').fr ((Fr.refl (fun _ => False) _).alloc _) (fun h => h), by omega, HR.out⟩, hm10, by omega, hmn1, (((hF.trans hFx (fun _ _ h => h) (fun i hi e => by omega)).deq hF3 (by omega) hG).setAt (qI + 1) u _ (.inl (by omega))).alloc _⟩⟩
        case measure => simp [intOf]; omega
    · by_cases hlt2 : j < n1 + 48
      · have hge : (n1 : Int) ≤ (j : Int) := by omega
        have hlt2' : (j : Int) < (n1 : Int) + 48 := by omega
        obtain ⟨k, hkj⟩ : ∃ k, j % 8 = k := ⟨_, rfl⟩
        have hk8 : k < 8 := by omega
        have hK : (j : Int) % 8 = (k : Int) := by omega
        have hT : (j : Int).tmod 8 = (k : Int) := by rw [Int.tmod_eq_emod_of_nonneg (by omega)]; exact hK
        have hrem0 := hrem (by omega)
        clear hrem
        by_cases hp1 : 0 < (d.th k).pc
        · obtain ⟨d2, y, L2, K2, la2, hd2, hy, hs, I2, V2, hla2, ht2, hoth, hrm, hway⟩ := on_step I V hla O hk8 hp1 hS2 (by omega)
          have HST := hide (fun (w1 : World) (h1 : IsD w1 (G + 1) G S d) => step_busy h1 hk8 hs)
          rw [hd2, hy] at HST
          have HR : Hid (n1 ≤ j + 1 → ∀ k, k < 8 → rem (d2.th k).pc ≤ (n1 + 55 - k) / 8 - (j + 1 + 7 - k) / 8) := fun h i hi => by
            by_cases hik : i = k
            · subst hik
              have := left_own hlt2 hkj
              have := hrem0 i hi
              omega
            · rw [hoth i hik]
              exact Nat.le_trans (hrem0 i hi) (left_step hlt2 hkj hi hik)
          have hD2 := hD
          have hFx : FrD (G + 1) G wr wr := Fr.refl _ _
          obtain ⟨m1, hm1⟩ : ∃ m1, m = m1 := ⟨_, rfl⟩
          subst hm1
          have hm10 := hm0
          have hmn1 := hmn
          clear V hs I O hd2 hy hoth hrm hrem0 hkj
          rcases hway with ⟨hov, O2⟩ | ⟨hov, her, O2⟩ | ⟨u, hu0, hun, rfl, O2⟩ | ⟨u, op, hu0, hun, hop, rfl, hfo, O2⟩
          · obtain ⟨ov, op, v, er⟩ := y
            simp only at hov
            subst hov
            go_wp2_with (first
              | (go_at_call 19; refine (busy_yes hD2 hk8 hp1).mono ?_; rintro e w' ⟨rfl, rfl⟩)
              | (go_at_call 15; refine (unhide HST _ hD2).mono ?_; rintro e w3 ⟨rfl, hD3, hF3⟩; unfold dnV; dsimp only; have bI := (hBI.fr hFx (by omega)).fr hF3 (by omega); have bO := (hBO.fr hFx (by omega)).fr hF3 (by omega)))
            go_roundw
            case rel => exact ⟨j + 1, m, by omega, by go_num, rfl, ⟨⟨d2, L2, K2, la2, fI, fO, hD3.al _, I2, V2, hla2, O2, bI.fr ((Fr.refl (fun _ => False) _).alloc _) (fun h => h), bO.fr ((Fr.refl (fun _ => False) _).alloc _) (fun h => h), by omega, HR.out⟩, hm10, by omega, hmn1, ((hF.trans hFx (fun _ _ h => h) (fun i hi e => by omega)).deq hF3 (by omega) hG).alloc _⟩⟩
            case measure => simp [intOf]; omega
          · obtain ⟨ov, op, v, er⟩ := y
            simp only at hov her
            subst hov
            have her' : (er == 0) = false := by simpa using her
            clear her
            go_wp2_with (first
              | (go_at_call 19; refine (busy_yes hD2 hk8 hp1).mono ?_; rintro e w' ⟨rfl, rfl⟩)
              | (go_at_call 15; refine (unhide HST _ hD2).mono ?_; rintro e w3 ⟨rfl, hD3, hF3⟩; unfold dnV; dsimp only; have bI := (hBI.fr hFx (by omega)).fr hF3 (by omega); have bO := (hBO.fr hFx (by omega)).fr hF3 (by omega)))
            go_roundw
            case rel => exact ⟨j + 1, m, by omega, by go_num, rfl, ⟨⟨d2, L2, K2, la2, fI, fO, hD3.al _, I2, V2, hla2, O2, bI.fr ((Fr.refl (fun _ => False) _).alloc _) (fun h => h), bO.fr ((Fr.refl (fun _ => False) _).alloc _) (fun h => h), by omega, HR.out⟩, hm10, by omega, hmn1, ((hF.trans hFx (fun _ _ h => h) (fun i hi e => by omega)).deq hF3 (by omega) hG).alloc _⟩⟩
            case measure => simp [intOf]; omega
          · have hu1 : (1 : Int) ≤ (u : Int) := by omega
            have huN : (u : Int) < (N : Int) := by have := HN2.out; omega
            have huN' : u < N := by omega
            go_wp2_with (first
              | (go_at_call 19; refine (busy_yes hD2 hk8 hp1).mono ?_; rintro e w' ⟨rfl, rfl⟩)
              | (go_at_call 15; refine (unhide HST _ hD2).mono ?_; rintro e w3 ⟨rfl, hD3, hF3⟩; unfold dnV; dsimp only; have bI := (hBI.fr hFx (by omega)).fr hF3 (by omega); have bO := (hBO.fr hFx (by omega)).fr hF3 (by omega); have z1 := bI.c huN'; have z2 := bI.free u; have zlt := bI.lt))
            go_roundw
            case rel => exact ⟨j + 1, m, by omega, by go_num, rfl, ⟨⟨d2, L2, K2, la2, put fI u, fO, (hD3.fr (Fr.set1 _ qI u _) (show ¬ G + 1 = qI by omega) (show ¬ G = qI by omega)).al _, I2, V2, hla2, O2, (bI.put huN').fr ((Fr.refl (fun _ => False) _).alloc _) (fun h => h), (bO.fr (Fr.set1 _ qI u _) (show ¬ qI + 1 = qI by omega)).fr ((Fr.refl (fun _ => False) _).alloc _) (fun h => h), by omega, HR.out⟩, hm10, by omega, hmn1, (((hF.trans hFx (fun _ _ h => h) (fun i hi e => by omega)).deq hF3 (by omega) hG).setAt qI u _ (.inl (by omega))).alloc _⟩⟩
            case measure => simp [intOf]; omega
          · have hu1 : (1 : Int) ≤ (u : Int) := by omega
            have huN : (u : Int) < (N : Int) := by have := HN2.out; omega
            have huN' : u < N := by omega
            have hop' : (op == 0) = false := by simpa using hop
            clear hop
            go_wp2_with (first
              | (go_at_call 19; refine (busy_yes hD2 hk8 hp1).mono ?_; rintro e w' ⟨rfl, rfl⟩)
              | (go_at_call 15; refine (unhide HST _ hD2).mono ?_; rintro e w3 ⟨rfl, hD3, hF3⟩; unfold dnV; dsimp only; have bI := (hBI.fr hFx (by omega)).fr hF3 (by omega); have bO := (hBO.fr hFx (by omega)).fr hF3 (by omega); have z1 := bO.c huN'; rw [hfo] at z1; have z2 := bO.free u; have zlt := bO.lt))
            go_roundw
            case rel => exact ⟨j + 1, m, by omega, by go_num, rfl, ⟨⟨d2, L2, K2, la2, fI, put fO u, (hD3.fr (Fr.set1 _ (qI + 1) u _) (show ¬ G + 1 = qI + 1 by omega) (show ¬ G = qI + 1 by omega)).al _, I2, V2, hla2, O2, (bI.fr (Fr.set1 _ (qI + 1) u _) (show ¬ qI = qI + 1 by omega)).fr ((Fr.refl (fun _ => False) _).alloc _) (fun h => h), (bO.put huN').fr ((Fr.refl (fun _ => False) _).alloc _) (fun h => h), by omega, HR.out⟩, hm10, by omega, hmn1, (((hF.trans hFx (fun _ _ h => h) (fun i hi e => by omega)).deq hF3 (by omega) hG).setAt (qI + 1) u _ (.inl (by omega))).alloc _⟩⟩
            case measure => simp [intOf]; omega
        · have HR : Hid (n1 ≤ j + 1 → ∀ k, k < 8 → rem (d.th k).pc ≤ (n1 + 55 - k) / 8 - (j + 1 + 7 - k) / 8) := fun h i hi => by
            by_cases hik : i = k
            · subst hik
              have e : (d.th i).pc = 0 := by omega
              rw [e]; exact Nat.zero_le _
            · exact Nat.le_trans (hrem0 i hi) (left_step hlt2 hkj hi hik)
          have hp0 : (d.th k).pc = 0 := by omega
          have HP := hide hp0
          clear hp0 hp1 hrem0 hkj
          go_wp2_with (go_at_call 19; refine (busy_no hD hk8 HP.out).mono ?_; rintro e w' ⟨rfl, rfl⟩)
          go_roundw
          case rel => exact ⟨j + 1, m, by omega, by go_num, rfl, ⟨⟨d, L, K, la, fI, fO, hD, I, V, hla, O, hBI, hBO, by omega, HR.out⟩, hm0, by omega, hmn, hF⟩⟩
          case measure => simp [intOf]; omega
      · have hje : j = n1 + 48 := by omega
        have hpc : ∀ k, k < 8 → (d.th k).pc = 0 := fun k hk => by
          have h1 := hrem (by omega) k hk
          rw [hje] at h1
          have h2 := left_last (n1 := n1) hk
          exact rem_zero (I.pc14 hk) (by omega)
        obtain ⟨hbt, rfl⟩ := own_idle I (hpc 0 (by omega))
        have hit := items_eq I hbt
        obtain ⟨o1, o2, _, _⟩ := O
        obtain ⟨v1, v2, v3, _, _⟩ := V
        simp only [List.append_nil] at o1 v1 v2 v3
        obtain ⟨q, rfl⟩ := Int.eq_ofNat_of_zero_le hm0
        try simp only [Int.ofNat_eq_natCast] at *
        have hqn : q ≤ n1 := by omega
        have h0 := I.t0
        have hl := I.len
        have HI := hide (fun (w1 : World) (h1 : IsD w1 (G + 1) G S d) => items_calls h1 h0 (by omega) (by omega))
        rw [hit] at HI
        have hge : (n1 : Int) + 48 ≤ (j : Int) := by omega
        have hge1 : (n1 : Int) ≤ (j : Int) := by omega
        have O1 := hide o1
        have O2 := hide o2
        have W1 := hide v1
        have W2 := hide v2
        have W3 := hide v3
        have HB := hide hbt
        have HI2 := hide I
        clear hit hbt hpc hrem hlt hlt2 hje o1 o2 v1 v2 v3 I hge1 hmn hmj htop
        obtain ⟨wo, hwo⟩ : ∃ wo, wo = wr := ⟨_, rfl⟩
        subst hwo
        go_wp2
        clear hge
        go_loopw [13, 14] (fun l v ws => ∃ (x : Nat), 1 ≤ x ∧ x ≤ q + 1 ∧ v = .int .i64 x ∧ LS ws wo.heap.size l (L.filter (fun y => y < (x : Int))) ∧ Fr (fun _ => False) wo ws) (fun _ v _ => q + 1 - (intOf v).toNat)
        case atStart =>
          refine ⟨1, by omega, by omega, rfl, ?_, Fr.refl _ _⟩
          have e : L.filter (fun y => y < ((1 : Nat) : Int)) = [] := List.filter_eq_nil_iff.2 (fun y hy => by have := W2.out y hy; simp; omega)
          rw [e]
          exact OS.nil _ _ _ _
        case round =>
          obtain ⟨x, hx1, hx2, rfl, hO, hFs⟩ := hrel
          by_cases hxq : x ≤ q
          · have hxN : x < N := by have := HN2.out; omega
            have hxN' : (x : Int) < (N : Int) := by omega
            have hxq' : (x : Int) ≤ (q : Int) := by omega
            have bI := hBI.fr hFs (fun h => h)
            have bO := hBO.fr hFs (fun h => h)
            have cI := bI.c hxN
            have cO := bO.c hxN
            have hlo := hFs.size
            have hmm := O1.out x
            have hsb := O2.out x
            cases hfo : fO x with
            | true =>
              have hfi := hsb hfo
              rw [hfo] at cO hmm
              rw [hfi] at cI hmm
              have hno : ¬ ((x : Int) ∈ L) := fun h => by have := hmm.2 h; simp at this
              have he := filter_no hno
              have HE := hide he
              clear hmm hsb hfi hfo hno he
              go_wp2
              go_roundw
              case rel => exact ⟨x + 1, by omega, by omega, by go_num, by rw [show ((x + 1 : Nat) : Int) = (x : Int) + 1 by omega, HE.out]; exact hO, hFs⟩
              case measure => simp [intOf]; omega
            | false =>
              rw [hfo] at cO hmm
              cases hfi : fI x with
              | true =>
                rw [hfi] at cI hmm
                have hyes : (x : Int) ∈ L := hmm.1 (by simp)
                have he := filter_le W1.out hyes
                have hcnt : (L.filter (fun y => y < (x : Int))).length ≤ 64 := Nat.le_trans (List.length_filter_le _ _) (by omega)
                obtain ⟨F, hFl⟩ : ∃ F, L.filter (fun y => y < (x : Int)) = F := ⟨_, rfl⟩
                rw [hFl] at hO he hcnt
                have HE := hide he
                clear hmm hsb hfi hfo hyes he hFl
                obtain ⟨al, cl, rfl, _⟩ := hO.cell
                have HO := hide hO
                clear hO
                go_wp2_with (at_builtin; refine wpList_append_os _ rfl _ _ 29 rfl 2 (.int .i64 0) 1 8 Try.underlying29 Try.infoLong rfl wo.heap.size _ F.length (rowV2 F) rfl ((unhide HO).fr ((Fr.refl (fun _ => False) _).alloc _) (fun _ _ h => h)) _ 1 [.int .i64 x] rfl (Src.ofSlice _ Try.underlying29 _ 1 1 _ rfl (cell_one_new _ _ _) (by simp [Value.oneCell'])) (by unfold maxLen; omega) (by omega) (by rw [World.size_alloc]; omega) ?_; intro v' w1 hO1 hF1)
                go_roundw
                case rel =>
                  refine ⟨x + 1, by omega, by omega, by go_num, ?_, ?_⟩
                  · rw [show ((x + 1 : Nat) : Int) = (x : Int) + 1 by omega]
                    unfold LS
                    rw [HE.out]
                    simpa [rowV2] using hO1
                  · refine (hFs.alloc (.cells #[.int .i64 x] 2)).trans hF1 (fun _ _ h => h) (fun i hi hk => ?_)
                    have := hk.1
                    omega
                case measure => simp [intOf]; omega
              | false =>
                rw [hfi] at cI hmm
                have hno : ¬ ((x : Int) ∈ L) := fun h => by have := hmm.2 h; simp at this
                have he := filter_no hno
                have HE := hide he
                clear hmm hsb hfi hfo hno he
                go_wp2
                go_roundw
                case rel => exact ⟨x + 1, by omega, by omega, by go_num, by rw [show ((x + 1 : Nat) : Int) = (x : Int) + 1 by omega, HE.out]; exact hO, hFs⟩
                case measure => simp [intOf]; omega
          · have hxe : x = q + 1 := by omega
            have hge : (q : Int) < (x : Int) := by omega
            have e : L.filter (fun y => y < (x : Int)) = L := List.filter_eq_self.2 (fun y hy => by have := W3.out y hy; simp; omega)
            rw [e] at hO
            clear e hxe hxq
            have hDs := hD.fr hFs (fun h => h) (fun h => h)
            go_wp2_with (first
              | (go_at_call 21; refine (unhide HI _ hDs).mono ?_; rintro e w4 ⟨vl, rfl, hL, hF4⟩)
              | (go_at_call 20; refine (same_true hL.sl (hO.sl.fr hF4) (by omega)).mono ?_; rintro e w5 ⟨rfl, hF5⟩))
            go_ret
            exact ⟨rfl, ((hF.trans hFs (fun _ _ h => h) (fun _ _ h => h)).trans hF4 (fun _ _ h => h) (fun _ _ h => h)).trans hF5 (fun _ _ h => h) (fun _ _ h => h)⟩

end Go.Proofs.Ytingpopcdihclaa
