/-
  DequeFifo: thieves take the oldest, the owner the newest.
-/
import Derived.Test.YtingpopcdihclaaDqNext
import Derived.LoopTactic
namespace Go.Proofs.Ytingpopcdihclaa
open Go.RowKit
set_option linter.unusedVariables false
set_option maxRecDepth 8192

theorem items_eq {S : Nat} {d : Dq} {L K : List Int} (I : Inv S d L K) (hb : d.bot = d.top + L.length) : itemsD S d = L := by
  apply List.ext_getElem?
  intro i
  have hl := itemsD_len S d
  by_cases h : i < L.length
  · rw [itemsD_at S d (by omega), List.getElem?_eq_getElem h]
    exact congrArg some (I.at' i _ (List.getElem?_eq_getElem h))
  · rw [List.getElem?_eq_none (by omega), List.getElem?_eq_none (by omega)]

theorem own_idle {S : Nat} {d : Dq} {L K : List Int} (I : Inv S d L K) (hp : (d.th 0).pc = 0) : d.bot = d.top + L.length ∧ K = [] := by
  rcases I.own with ⟨_, h1, h2⟩ | h
  · exact ⟨h1, h2⟩
  · omega

theorem vals_cast {d : Dq} {L K : List Int} {a c n : Int} (h : Vals d L K a n) (e : a = c) : Vals d L K c n := e ▸ h

/-- a step of the law's: all that is known behind it -/
theorem law_step {S : Nat} {d : Dq} {L K : List Int} {last n : Int} {k : Nat} (I : Inv S d L K) (V : Vals d L K last n) (hk8 : k < 8) (hp : 0 < (d.th k).pc) (hS : S ≤ 64) (hN : d.top ≤ 576460752303423488) :
    ∃ L' K', Inv S (stp S d k).1 L' K' ∧ Ev S d k L K L' K' (stp S d k).2 ∧ Vals (stp S d k).1 L' K' (lastOf last (stp S d k).2) n ∧ Sd d k ∧ (stp S d k).1.top ≤ d.top + 1 ∧ (k = 0 → (stp S d k).2.over = true → ((stp S d k).1.th 0).pc = 0) := by
  obtain ⟨L', K', I', hE⟩ := inv_step I hk8 hp
  obtain ⟨h1, h2⟩ := pu_step I hk8 hp
  have hs := I.sd hS hN hk8 hp
  refine ⟨L', K', I', hE, vals_step V hE h1 h2, hs, stp_top S d hs.pc.1 hs.pc.2, fun hk ho => ?_⟩
  subst hk
  have hO := I.own
  have h10 : (d.th 0).pc ≤ 10 := by unfold OwnI at hO; omega
  rcases stp_pc0 S d hp h10 with ⟨h1, _⟩ | ⟨h1, _⟩
  · exact h1
  · rw [h1] at ho; simp [Dn.none] at ho

theorem dnew2 (n : Int) (w : World) :
    Calls Try.prog 10 #[.int .i64 n] w fun e w' => ∃ G S, Hid (w.heap.size = G) ∧ Hid (clamp n = S) ∧ e = .returned (.pointer (some ⟨G + 1, 0, none⟩)) ∧ IsD w' (G + 1) G S Dq.new ∧ Fr (fun _ => False) w w' :=
  (dnew n w).mono fun e w' ⟨h1, h2, h3⟩ => ⟨_, _, hide rfl, hide rfl, h1, h2, h3⟩

/-- what was there when the law was called stands, but for the deque's blocks, that are newer -/
theorem Fr.deq {w0 w w' : World} {b g : Nat} (h : Fr (fun _ => False) w0 w) (k : FrD b g w w') (hb : w0.heap.size ≤ b) (hg : w0.heap.size ≤ g) : Fr (fun _ => False) w0 w' :=
  h.trans k (fun _ _ h => h) (fun i hi e => by omega)

set_option maxHeartbeats 8000000 in
theorem fifo_calls {w : World} (size : Int) {a1 : Option Addr} {n1 k1 : Nat} {rows : List Rw} (A1 : RwA w.heap.size w a1 n1 rows) (hn1 : n1 * 16 ≤ 140737488351232) :
    Calls Try.prog 6 #[.int .i64 size, .slice a1 n1 k1] w fun e w' => e = .returned (.bool true) ∧ Fr (fun _ => False) w w' := by
  go_enter Try.func6, Try.ntmps6
  go_wp2_with (first
    | (go_at_call 9; refine (lives_calls _).mono ?_; rintro e w1 ⟨rfl, hF0⟩)
    | (go_at_call 10; refine (dnew2 _ _).mono ?_; rintro e w2 ⟨G, S, hG0, hS0, rfl, hD, hF⟩))
  have hS1 := clamp_pos size
  have hS2 := clamp_most size
  rw [hS0.out] at hS1 hS2
  have hG : w.heap.size ≤ G := by rw [← hG0.out]; exact hF0.size
  have hFr := hF0.trans hF (T := fun _ => False) (fun _ _ h => h) (fun _ _ h => h)
  clear hG0 hS0 hF0 hF
  go_loopw [6, 7, 8] (fun n last i wr => ∃ (j : Nat) (d : Dq) (L K : List Int) (la m : Int), j ≤ n1 ∧ i = .int .i64 j ∧ n = .int .i64 m ∧ last = .int .i64 la ∧ IsD wr (G + 1) G S d ∧ Inv S d L K ∧ Vals d L K la m ∧ 0 ≤ m ∧ m ≤ j ∧ d.top ≤ j ∧ Fr (fun _ => False) w wr) (fun _ _ i _ => n1 - (intOf i).toNat)
  case atStart => exact ⟨0, Dq.new, [], [], 0, 0, by omega, rfl, rfl, rfl, hD, inv_new hS1, vals_new (S := S), by omega, by omega, by simp [Dq.new], hFr⟩
  case round =>
    clear hD hFr
    obtain ⟨j, d, L, K, la, m, hj, rfl, rfl, rfl, hD, I, V, hm0, hmj, htop, hF⟩ := hrel
    by_cases hlt : j < n1
    · obtain ⟨ba, off, ⟨t, p⟩, vs, rfl, hba, hx, hc, rfl, _⟩ := (A1.fr hF (fun _ h => h.elim)).at hlt
      have c0 : wr.cell? ⟨ba, off + j * 2, none⟩ = some (.int .i64 t) := by simpa using hc 0 _ rfl
      have c1 : wr.cell? ⟨ba, off + j * 2 + 1, none⟩ = some (.bool p) := by simpa using hc 1 _ rfl
      have hlt' : (j : Int) < (n1 : Int) := by omega
      clear hx hc
      obtain ⟨k, hk8, hk⟩ := thI_lt t
      obtain ⟨I1, hp1, ht1, ho1⟩ := nxt_inv I hk8 p m
      have V1 := nxt_vals V k p
      have HN := hide (next_calls hD hk hk8 p m ⟨hm0, by omega⟩)
      have hm1 : 0 ≤ (nxt d k p m).2 ∧ (nxt d k p m).2 ≤ (j : Int) + 1 := by
        unfold nxt
        split
        · exact ⟨hm0, by show m ≤ _; omega⟩
        · split
          · split
            · exact ⟨by show 0 ≤ m + 1; omega, by show m + 1 ≤ _; omega⟩
            · exact ⟨hm0, by show m ≤ _; omega⟩
          · exact ⟨hm0, by show m ≤ _; omega⟩
      obtain ⟨hm10, hm11⟩ := hm1
      generalize (nxt d k p m).1 = d1 at *
      generalize (nxt d k p m).2 = m1 at *
      obtain ⟨L2, K2, I2, hE, V2, hs, ht2, hov⟩ := law_step I1 V1 hk8 hp1 hS2 (by omega)
      have HST := hide (fun (w1 : World) (h1 : IsD w1 (G + 1) G S d1) => step_busy h1 hk8 hs)
      generalize (stp S d1 k).1 = d2 at *
      generalize (stp S d1 k).2 = y at *
      clear V hp1 ho1 hs I
      have hltG := hD.lt
      cases hE
      · have V3 := vals_cast V2 (show lastOf la _ = la by simp [lastOf, Dn.none])
        clear V2 hov
        go_wp2_with (first
          | (go_at_call 23; refine (unhide HN).mono ?_; rintro e w1 ⟨rfl, hD1, hF1⟩; have e0 := cell_fr hF1 (by omega) c0; have e1 := cell_fr hF1 (by omega) c1)
          | (go_at_call 24; refine (thread_calls hk _ _).mono ?_; rintro e w2 ⟨rfl, hF2⟩; have hD2 := hD1.fr hF2 (fun h => h) (fun h => h))
          | (go_at_call 15; refine (unhide HST _ hD2).mono ?_; rintro e w3 ⟨rfl, hD3, hF3⟩; unfold dnV; (try unfold Dn.none); dsimp only))
        go_roundw
        case rel => exact ⟨j + 1, d2, _, _, la, m1, by omega, by go_num, rfl, rfl, hD3.al _, I2, V3, hm10, by omega, by omega, ((((hF.deq hF1 (by omega) hG).trans hF2 (fun _ _ h => h) (fun _ _ h => h)).deq hF3 (by omega) hG).alloc _)⟩
        case measure => simp [intOf]; omega
      · rename_i v hk0 hp0 hv0
        clear hk0 hp0 hv0
        have V3 := vals_cast V2 (show lastOf la _ = la by simp [lastOf])
        clear V2 hov
        go_wp2_with (first
          | (go_at_call 23; refine (unhide HN).mono ?_; rintro e w1 ⟨rfl, hD1, hF1⟩; have e0 := cell_fr hF1 (by omega) c0; have e1 := cell_fr hF1 (by omega) c1)
          | (go_at_call 24; refine (thread_calls hk _ _).mono ?_; rintro e w2 ⟨rfl, hF2⟩; have hD2 := hD1.fr hF2 (fun h => h) (fun h => h))
          | (go_at_call 15; refine (unhide HST _ hD2).mono ?_; rintro e w3 ⟨rfl, hD3, hF3⟩; unfold dnV; (try unfold Dn.none); dsimp only))
        go_roundw
        case rel => exact ⟨j + 1, d2, _, _, la, m1, by omega, by go_num, rfl, rfl, hD3.al _, I2, V3, hm10, by omega, by omega, ((((hF.deq hF1 (by omega) hG).trans hF2 (fun _ _ h => h) (fun _ _ h => h)).deq hF3 (by omega) hG).alloc _)⟩
        case measure => simp [intOf]; omega
      · rename_i v hk0 hp0 hl0
        clear hk0 hp0 hl0
        have V3 := vals_cast V2 (show lastOf la _ = la by simp [lastOf])
        clear V2 hov
        go_wp2_with (first
          | (go_at_call 23; refine (unhide HN).mono ?_; rintro e w1 ⟨rfl, hD1, hF1⟩; have e0 := cell_fr hF1 (by omega) c0; have e1 := cell_fr hF1 (by omega) c1)
          | (go_at_call 24; refine (thread_calls hk _ _).mono ?_; rintro e w2 ⟨rfl, hF2⟩; have hD2 := hD1.fr hF2 (fun h => h) (fun h => h))
          | (go_at_call 15; refine (unhide HST _ hD2).mono ?_; rintro e w3 ⟨rfl, hD3, hF3⟩; unfold dnV; (try unfold Dn.none); dsimp only))
        go_roundw
        case rel => exact ⟨j + 1, d2, _, _, la, m1, by omega, by go_num, rfl, rfl, hD3.al _, I2, V3, hm10, by omega, by omega, ((((hF.deq hF1 (by omega) hG).trans hF2 (fun _ _ h => h) (fun _ _ h => h)).deq hF3 (by omega) hG).alloc _)⟩
        case measure => simp [intOf]; omega
      · rename_i x hk0 hp0
        clear hk0 hp0
        have V3 := vals_cast V2 (show lastOf la _ = la by simp [lastOf, Dn.none])
        clear V2 hov
        go_wp2_with (first
          | (go_at_call 23; refine (unhide HN).mono ?_; rintro e w1 ⟨rfl, hD1, hF1⟩; have e0 := cell_fr hF1 (by omega) c0; have e1 := cell_fr hF1 (by omega) c1)
          | (go_at_call 24; refine (thread_calls hk _ _).mono ?_; rintro e w2 ⟨rfl, hF2⟩; have hD2 := hD1.fr hF2 (fun h => h) (fun h => h))
          | (go_at_call 15; refine (unhide HST _ hD2).mono ?_; rintro e w3 ⟨rfl, hD3, hF3⟩; unfold dnV; (try unfold Dn.none); dsimp only))
        go_roundw
        case rel => exact ⟨j + 1, d2, _, _, la, m1, by omega, by go_num, rfl, rfl, hD3.al _, I2, V3, hm10, by omega, by omega, ((((hF.deq hF1 (by omega) hG).trans hF2 (fun _ _ h => h) (fun _ _ h => h)).deq hF3 (by omega) hG).alloc _)⟩
        case measure => simp [intOf]; omega
      · rename_i v hk0 hp0
        have hid := own_idle I2 (hov hk0 rfl)
        have hit := items_eq I2 hid.1
        have hvl : ∀ x ∈ L, x < v := fun x hx => (List.pairwise_append.1 V1.sort).2.2 x hx v (by simp)
        have V3 := vals_cast V2 (show lastOf la _ = la by simp [lastOf])
        have h0 := I2.t0
        have hl := I2.len
        have hb1 := hid.1
        have HI := hide (fun (w1 : World) (h1 : IsD w1 (G + 1) G S d2) => items_calls h1 h0 (by omega) (by omega))
        rw [hit] at HI
        clear V2 hov hid hit hb1 hk0 hp0
        go_wp2_with (first
          | (go_at_call 23; refine (unhide HN).mono ?_; rintro e w1 ⟨rfl, hD1, hF1⟩; have e0 := cell_fr hF1 (by omega) c0; have e1 := cell_fr hF1 (by omega) c1)
          | (go_at_call 24; refine (thread_calls hk _ _).mono ?_; rintro e w2 ⟨rfl, hF2⟩; have hD2 := hD1.fr hF2 (fun h => h) (fun h => h))
          | (go_at_call 15; refine (unhide HST _ hD2).mono ?_; rintro e w3 ⟨rfl, hD3, hF3⟩; unfold dnV; (try unfold Dn.none); dsimp only)
          | (go_at_call 21; refine (unhide HI _ (hD3.al _)).mono ?_; rintro e w4 ⟨vl, rfl, hL, hF4⟩; have hX := hF4.blk (blk_new _ _) (fun h => h); have x2 := (cell_at hX 2).trans rfl; obtain ⟨al, cl, rfl, hsl⟩ := hL.sl))
        go_loopw [12] (fun q wr => ∃ q1 : Nat, q1 ≤ L.length ∧ q = .int .i64 q1 ∧ Fr (fun _ => False) w4 wr) (fun q _ => L.length - (intOf q).toNat)
        case atStart => exact ⟨0, Nat.zero_le _, rfl, Fr.refl _ _⟩
        case round =>
          obtain ⟨q1, hq1, rfl, hF5⟩ := hrel
          by_cases hq : q1 < L.length
          · obtain ⟨x, hx⟩ : ∃ x, L[q1]? = some x := ⟨_, List.getElem?_eq_getElem hq⟩
            have hxv := hvl x (List.mem_of_getElem? hx)
            obtain ⟨bl, ol, rfl, hcl⟩ := hsl q1 x hx
            have d1 := cell_fr hF5 (fun h => h) hcl
            have d2 := cell_fr hF5 (fun h => h) x2
            have hq' : (q1 : Int) < (L.length : Int) := by omega
            clear hx hcl
            go_wp2
            go_quiet (fail)
            go_wp2
            go_roundw
            case rel => exact ⟨q1 + 1, by omega, by go_num, hF5.drewN _⟩
            case measure => simp [intOf]; omega
          · have hq' : (L.length : Int) ≤ (q1 : Int) := by omega
            go_wp2
            go_roundw
            case rel => exact ⟨j + 1, d2, L, [], la, m1, by omega, by go_num, rfl, rfl, ((hD3.al _).fr hF4 (fun h => h) (fun h => h)).fr hF5 (fun h => h) (fun h => h), I2, V3, hm10, by omega, by omega, (((((hF.deq hF1 (by omega) hG).trans hF2 (fun _ _ h => h) (fun _ _ h => h)).deq hF3 (by omega) hG).alloc _).trans hF4 (fun _ _ h => h) (fun _ _ h => h)).trans hF5 (fun _ _ h => h) (fun _ _ h => h)⟩
            case measure => simp [intOf]; omega
      · rename_i hk0 hp0
        clear hk0 hp0
        have V3 := vals_cast V2 (show lastOf la _ = la by simp [lastOf])
        clear V2 hov
        go_wp2_with (first
          | (go_at_call 23; refine (unhide HN).mono ?_; rintro e w1 ⟨rfl, hD1, hF1⟩; have e0 := cell_fr hF1 (by omega) c0; have e1 := cell_fr hF1 (by omega) c1)
          | (go_at_call 24; refine (thread_calls hk _ _).mono ?_; rintro e w2 ⟨rfl, hF2⟩; have hD2 := hD1.fr hF2 (fun h => h) (fun h => h))
          | (go_at_call 15; refine (unhide HST _ hD2).mono ?_; rintro e w3 ⟨rfl, hD3, hF3⟩; unfold dnV; (try unfold Dn.none); dsimp only))
        go_roundw
        case rel => exact ⟨j + 1, d2, _, _, la, m1, by omega, by go_num, rfl, rfl, hD3.al _, I2, V3, hm10, by omega, by omega, ((((hF.deq hF1 (by omega) hG).trans hF2 (fun _ _ h => h) (fun _ _ h => h)).deq hF3 (by omega) hG).alloc _)⟩
        case measure => simp [intOf]; omega
      · rename_i v hk0
        have hlv : la < v := V1.low v (by simp)
        clear hk0
        have V3 := vals_cast V2 (show lastOf la _ = v by simp [lastOf])
        clear V2 hov
        go_wp2_with (first
          | (go_at_call 23; refine (unhide HN).mono ?_; rintro e w1 ⟨rfl, hD1, hF1⟩; have e0 := cell_fr hF1 (by omega) c0; have e1 := cell_fr hF1 (by omega) c1)
          | (go_at_call 24; refine (thread_calls hk _ _).mono ?_; rintro e w2 ⟨rfl, hF2⟩; have hD2 := hD1.fr hF2 (fun h => h) (fun h => h))
          | (go_at_call 15; refine (unhide HST _ hD2).mono ?_; rintro e w3 ⟨rfl, hD3, hF3⟩; unfold dnV; (try unfold Dn.none); dsimp only))
        go_roundw
        case rel => exact ⟨j + 1, d2, _, _, v, m1, by omega, by go_num, rfl, rfl, hD3.al _, I2, V3, hm10, by omega, by omega, ((((hF.deq hF1 (by omega) hG).trans hF2 (fun _ _ h => h) (fun _ _ h => h)).deq hF3 (by omega) hG).alloc _)⟩
        case measure => simp [intOf]; omega
      · rename_i e hk0 he
        clear hk0
        rcases he with rfl | rfl
        · have V3 := vals_cast V2 (show lastOf la _ = la by simp [lastOf])
          clear V2 hov
          go_wp2_with (first
            | (go_at_call 23; refine (unhide HN).mono ?_; rintro e w1 ⟨rfl, hD1, hF1⟩; have e0 := cell_fr hF1 (by omega) c0; have e1 := cell_fr hF1 (by omega) c1)
            | (go_at_call 24; refine (thread_calls hk _ _).mono ?_; rintro e w2 ⟨rfl, hF2⟩; have hD2 := hD1.fr hF2 (fun h => h) (fun h => h))
            | (go_at_call 15; refine (unhide HST _ hD2).mono ?_; rintro e w3 ⟨rfl, hD3, hF3⟩; unfold dnV; (try unfold Dn.none); dsimp only))
          go_roundw
          case rel => exact ⟨j + 1, d2, _, _, la, m1, by omega, by go_num, rfl, rfl, hD3.al _, I2, V3, hm10, by omega, by omega, ((((hF.deq hF1 (by omega) hG).trans hF2 (fun _ _ h => h) (fun _ _ h => h)).deq hF3 (by omega) hG).alloc _)⟩
          case measure => simp [intOf]; omega
        · have V3 := vals_cast V2 (show lastOf la _ = la by simp [lastOf])
          clear V2 hov
          go_wp2_with (first
            | (go_at_call 23; refine (unhide HN).mono ?_; rintro e w1 ⟨rfl, hD1, hF1⟩; have e0 := cell_fr hF1 (by omega) c0; have e1 := cell_fr hF1 (by omega) c1)
            | (go_at_call 24; refine (thread_calls hk _ _).mono ?_; rintro e w2 ⟨rfl, hF2⟩; have hD2 := hD1.fr hF2 (fun h => h) (fun h => h))
            | (go_at_call 15; refine (unhide HST _ hD2).mono ?_; rintro e w3 ⟨rfl, hD3, hF3⟩; unfold dnV; (try unfold Dn.none); dsimp only))
          go_roundw
          case rel => exact ⟨j + 1, d2, _, _, la, m1, by omega, by go_num, rfl, rfl, hD3.al _, I2, V3, hm10, by omega, by omega, ((((hF.deq hF1 (by omega) hG).trans hF2 (fun _ _ h => h) (fun _ _ h => h)).deq hF3 (by omega) hG).alloc _)⟩
          case measure => simp [intOf]; omega
    · obtain rfl : j = n1 := by omega
      go_wp2
      go_ret
      exact ⟨rfl, hF⟩

end Go.Proofs.Ytingpopcdihclaa
