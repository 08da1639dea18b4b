/-
  MpscOrder: each value comes out once, what one putter put in its order.
-/
import Derived.Test.YtingpopcdihclabMqLinear
import Derived.Test.YtingpopcdihclabMqOrd
import Derived.Test.YtingpopcdihclabMqRun
namespace Go.Proofs.Ytingpopcdihclab
open Go.RowKit
set_option linter.unusedVariables false
set_option maxRecDepth 8192

/-- where the law stands: put f, got g, h: how many have changed head -/
def OrQ (w0 : World) (G B1 m j : Nat) (w : World) : Prop :=
  ∃ (q : Qu) (R : List Nat) (f g h : Nat → Int), Mp w G (G + 1) q ∧ Lin q R ∧ AI w B1 2 f ∧ AI w (B1 + 1) 2 g ∧ Ord (R.map q.v) g h ∧ PO q f h ∧ (∀ k, 8 ≤ k → q.th k = Rq.zero) ∧ RM q m j ∧
    (∀ k, 0 ≤ h k ∧ h k ≤ f k ∧ f k ≤ j) ∧ q.ids.length ≤ j + 1 ∧ R.length ≤ j ∧ Fr (fun _ => False) w0 w

theorem OrQ.mk {w0 w w' : World} {G B1 m j : Nat} {q : Qu} {R : List Nat} {f g h : Nat → Int} {V : List Int} (e : w'.heap = w.heap) (hM : Mp w G (G + 1) q) (L : Lin q R) (hf : AI w B1 2 f) (hg : AI w (B1 + 1) 2 g)
    (hO : Ord V g h) (hV : R.map q.v = V) (hP : PO q f h) (hX : ∀ k, 8 ≤ k → q.th k = Rq.zero) (hR : RM q m j) (hh : ∀ k, 0 ≤ h k ∧ h k ≤ f k ∧ f k ≤ j) (hi : q.ids.length ≤ j + 1) (hl : R.length ≤ j) (hF : Fr (fun _ => False) w0 w') : OrQ w0 G B1 m j w' :=
  ⟨q, R, f, g, h, hM.same e, L, hf.same e, hg.same e, hV ▸ hO, hP, hX, hR, hh, hi, hl, hF⟩

theorem PO.same {q q' : Qu} {f h : Nat → Int} {k : Nat} (H : PO q f h) (hv : q'.v = q.v) (ht : ∀ j, j ≠ k → q'.th j = q.th j) {f' h' : Nat → Int} (hf : ∀ j, j ≠ k → f' j = f j) (hh : ∀ j, j ≠ k → h' j = h j)
    (hk : (q'.th k).pc ≠ 1 ∧ (k ≠ 0 → (∀ x, q'.th k = ⟨2, some x, none⟩ → f' k = h' k + 1 ∧ q'.v x = 1000 * (k : Int) + (h' k + 1)) ∧ ((q'.th k).pc ≠ 2 → f' k = h' k))) : PO q' f' h' := by
  intro j hj
  by_cases e : j = k
  · subst e; exact hk
  · rw [ht j e, hv, hf j e, hh j e]; exact H j hj

theorem PO.beg {q q' : Qu} {f h : Nat → Int} {k x : Nat} {u : Int} (H : PO q f h) (W : Wf q) (hx : x ∉ q.ids) (hv : q'.v = fun i => if i = x then u else q.v i) (ht : ∀ j, j ≠ k → q'.th j = q.th j)
    (hz : q'.th k = ⟨2, some x, none⟩) (c : Int) (hc : c = h k + 1) (hu : u = 1000 * (k : Int) + (h k + 1)) : PO q' (upd f k c) h := by
  intro j hj
  by_cases e : j = k
  · subst e
    rw [hz]
    refine ⟨by show (2 : Nat) ≠ 1; omega, fun _ => ⟨fun y hy => ?_, fun h => absurd rfl h⟩⟩
    cases hy
    rw [upd_at, hv]
    exact ⟨hc, by simp [hu]⟩
  · rw [ht j e, upd_ne f c e, hv]
    refine ⟨(H j hj).1, fun h0 => ⟨fun y hy => ?_, ((H j hj).2 h0).2⟩⟩
    have hne : y ≠ x := fun ey => hx (ey ▸ W.node j y (by rw [hy]))
    have := ((H j hj).2 h0).1 y hy
    exact ⟨this.1, by show (if y = x then u else q.v y) = _; rw [if_neg hne]; exact this.2⟩

theorem quo_of {p : Nat} {s : Int} (h0 : 0 ≤ s) (h9 : s < 1000) : (1000 * (p : Int) + s).tdiv 1000 = (p : Int) ∧ (1000 * (p : Int) + s).tmod 1000 = s := by
  have hn : 0 ≤ 1000 * (p : Int) + s := by omega
  rw [Int.tdiv_eq_ediv_of_nonneg hn, Int.tmod_eq_emod_of_nonneg hn]
  omega

theorem quiet_same' {P : Program} {f : FuncId} {args : Array Value} {w : World} {n : Nat} {v : Value}
    (h : Calls P f args (w.drewN n) fun e w' => e = .returned v ∧ w.drewN n = w') : Calls P f args (w.drewN n) fun e w'' => e = .returned v ∧ ∃ m, w'' = w.drewN m :=
  h.mono fun _ _ ⟨he, hm⟩ => ⟨he, n, hm.symm⟩

set_option maxHeartbeats 16000000 in
theorem order_calls {w : World} {a1 : Option Addr} {n1 k1 : Nat} {rows : List Int} (A1 : NuA w.heap.size w a1 n1 rows) (hn1 : n1 * 8 ≤ 140737488351232) :
    Calls Try.prog 5 #[.slice a1 n1 k1] w fun e w' => e = .returned (.bool true) ∧ Fr (fun _ => False) w w' := by
  go_enter Try.func5, Try.ntmps5
  go_wp2_with (first
    | (go_at_call 9; refine (lives_calls _).mono ?_; rintro e w1 ⟨rfl, hF0⟩)
    | (go_at_call 10; refine (mnew _).mono ?_; rintro e w2 ⟨rfl, hM, hF1⟩)
    | (at_make; refine wpList_make_rep _ rfl _ _ 42 rfl 2 (.int .i64 0) 8 Try.underlying42 Try.infoLong rfl _ _ 8 _ _ rfl rfl rfl rfl (by omega) (by unfold maxLen; omega) ?_; (first | (have _h := hcs1; intro cs2 hcs2) | intro cs1 hcs1)))
  obtain ⟨G, hG⟩ : ∃ G, w1.heap.size = G := ⟨_, rfl⟩
  rw [hG] at hM
  simp only [hG]
  have hGw : w.heap.size ≤ G := by rw [← hG]; exact hF0.size
  have hFr := hF0.trans hF1 (T := fun _ => False) (fun _ _ h => h) (fun _ _ h => h)
  have hQl := hM.is.lt
  have hst : OrQ w G w2.heap.size (min n1 800) 0 ((w2.alloc (.cells cs1 2)).alloc (.cells cs2 2)) := by
    have h1 := (AI.new (w := w2) (T := 2) hcs1).fr ((Fr.refl (fun _ => False) _).alloc (.cells cs2 2)) (fun h => h)
    have h2 := AI.new (w := w2.alloc (.cells cs1 2)) (T := 2) hcs2
    rw [World.size_alloc] at h2
    exact ⟨Qu.new G, [], _, _, fun _ => 0, (hM.al _).al _, lin_new G, h1, h2, fun p _ _ => rfl, fun k hk => ⟨by show (0 : Nat) ≠ 1; omega, fun _ => ⟨fun x e => (by cases e), fun _ => rfl⟩⟩, fun _ _ => rfl,
      ⟨fun k hk => by show (if (0 : Nat) = 0 then 0 else _) ≤ 2; rw [if_pos rfl]; omega, fun t h1 h2 => by omega, fun t h1 h2 => by omega⟩, fun k => ⟨Int.le_refl _, Int.le_refl _, Int.le_refl _⟩, by simp [Qu.new], by simp, (hFr.alloc _).alloc _⟩
  obtain ⟨B1, hB1⟩ : ∃ B1, w2.heap.size = B1 := ⟨_, rfl⟩
  try simp only [World.size_alloc]
  rw [hB1] at hst hQl
  simp only [hB1]
  clear hM hF0 hF1 hFr hG hB1 hcs1 hcs2
  obtain ⟨m, hm⟩ : ∃ m, min n1 800 = m := ⟨_, rfl⟩
  rw [hm] at hst
  have HM := hide hm
  clear hm
  go_loopw [6] (fun i wr => ∃ j : Nat, j ≤ n1 + 32 ∧ j ≤ 900 ∧ i = .int .i64 j ∧ OrQ w G B1 m j wr) (fun i _ => 900 - (intOf i).toNat)
  case atStart => exact ⟨0, by omega, by omega, rfl, hst⟩
  case round =>
    clear hst
    obtain ⟨j, hj, hj9, rfl, q, R, f, g, h, hM, L, hf, hg, hO, hP, hX, hR, hh, hid, hRl, hF⟩ := hrel
    have HXX := hide hX
    clear hX
    have hlt1 := hf.lt
    have hlt2 := hg.lt
    have hne1 := hM.is.lt
    by_cases hlt : j < n1 + 32 ∧ j < 900
    · have hl1 : (j : Int) < (n1 : Int) + 32 := by omega
      have hl2 : (j : Int) < 900 := by omega
      by_cases hph : j < n1 ∧ j < 800
      · --P1
        obtain ⟨ba, off, t, rfl, hba, hx, ht64, c0w⟩ := A1.num hph.1
        have c0 := cell_fr hF (fun h => h) c0w
        have hlt' : (j : Int) < (n1 : Int) := by omega
        have hlt8 : (j : Int) < 800 := by omega
        have hjm : ¬ m ≤ j := by have := HM.out; omega
        clear hx
        obtain ⟨k, hk8, hk⟩ := thI_lt t
        have hmod : m ≤ j → j % 8 = k := fun h => absurd h hjm
        by_cases hk0 : k = 0
        · subst hk0
          by_cases hp : 0 < (q.th 0).pc
          · --P1B
            have hp0 := hp
            obtain ⟨q', y, R', hq, L', ⟨hv', hi', ht'⟩, hpc, hz, hE⟩ := ev_take L hM.wf hp (hP 0 (by omega)).1
            have hs := mstep hM (k := 0) (by omega) hp
            rw [hq] at hs
            have HS := hide hs
            have hP' : PO q' f h := hP.same (k := 0) hv' ht' (fun _ _ => rfl) (fun _ _ => rfl) ⟨by rw [hz]; show (0 : Nat) ≠ 1; omega, fun h => absurd rfl h⟩
            have hR' : RM q' m (j + 1) := hR.step hmod (.inl (by unfold rem'; rw [hz, if_pos (show Rq.zero.pc = 0 from rfl)]; exact Nat.zero_le _)) (fun i hi => rem_ne ht' hi)
            have hh' : ∀ k, 0 ≤ h k ∧ h k ≤ f k ∧ f k ≤ ((j + 1 : Nat) : Int) := fun k => by have := hh k; omega
            have hi2 : q'.ids.length ≤ j + 1 + 1 := by rw [hi']; omega
            clear hpc hq hs hP hR hh hz
            rcases hE with ⟨n, rfl, rfl⟩ | ⟨rfl, rfl, rfl⟩ | ⟨hRn, rfl, rfl⟩
            · have hV' : R'.map q'.v = R'.map q.v := by rw [hv']
              have hl2 : R'.length ≤ j + 1 := by simp at hRl; omega
              obtain ⟨p, hp1, hp7, hvn, hg0, hg9, hO'⟩ : Ord (q.v n :: R'.map q.v) g h := hO
              obtain ⟨hq1, hq2⟩ := quo_of (p := p) (s := g p + 1) (by omega) (by omega)
              rw [← hvn] at hq1 hq2
              generalize q.v n = vn at *
              obtain ⟨gp, hgp⟩ : ∃ gp, g p = gp := ⟨_, rfl⟩
              rw [hgp] at hq2 hvn hg0 hg9
              have HGP := hide hgp
              have hp8 : p < 8 := by omega
              have hv1 : -1000000 ≤ vn := by omega
              have hv2 : vn ≤ 1000000 := by omega
              have hn1' : ¬ ((p : Int) < 1) := by omega
              have hn8' : ¬ ((p : Int) ≥ 8) := by omega
              have hp8' : (p : Int) < 8 := by omega
              have hgw : IntKind.i64.wrap (gp + 1) = gp + 1 := by simp [IntKind.wrap, IntKind.signed, IntKind.bits]; omega
              have hgx : (gp + 1 != IntKind.i64.wrap (gp + 1)) = false := by rw [hgw]; simp
              clear L hp hvn hgp
              go_wp2_with (first
                | (go_at_call 16; refine (busy_in (k := 0) hM.is (by omega) true (by simp [hp0])).mono ?_; rintro e w' ⟨rfl, rfl⟩)
                | (go_at_call 14; refine (unhide HS).mono ?_; rintro e w3 ⟨rfl, hM3, hF3⟩; unfold qnV; dsimp only; have hf3 := hf.q hF3 (by decide) (by decide); have hg3 := hg.q hF3 (by decide) (by decide); have hc3 := hg3.cell hp8; rw [unhide HGP] at hc3; have hl3 := hg3.lt; have fr3 := hg3.free p; have hF3f := hF.qu hF3 hGw))
              go_quiet (fail)
              go_wp2
              have hgS := ((hg3.alo (.cells #[.bool true, .bool true, .int .i64 vn, .int .i64 0] 33)).same (w' := (w3.alloc (.cells #[.bool true, .bool true, .int .i64 vn, .int .i64 0] 33)).drewN nq) rfl).set hp8 (gp + 1)
              have hfS := ((hf3.alo (.cells #[.bool true, .bool true, .int .i64 vn, .int .i64 0] 33)).same (w' := (w3.alloc (.cells #[.bool true, .bool true, .int .i64 vn, .int .i64 0] 33)).drewN nq) rfl).st (B' := B1 + 1) (i := p) (u := .int .i64 (gp + 1)) (by omega)
              have hMS := ((hM3.al (.cells #[.bool true, .bool true, .int .i64 vn, .int .i64 0] 33)).same (w' := (w3.alloc (.cells #[.bool true, .bool true, .int .i64 vn, .int .i64 0] 33)).drewN nq) rfl).setI ((hg3.alo (.cells #[.bool true, .bool true, .int .i64 vn, .int .i64 0] 33)).same (w' := (w3.alloc (.cells #[.bool true, .bool true, .int .i64 vn, .int .i64 0] 33)).drewN nq) rfl) (by decide) (by decide) p (.int .i64 (gp + 1))
              rw [HGP.out] at hO'
              exact ⟨⟨j + 1, by omega, by omega, by go_num, OrQ.mk (w := ((w3.alloc (.cells #[.bool true, .bool true, .int .i64 vn, .int .i64 0] 33)).drewN nq).setCell ⟨B1 + 1, p, none⟩ (.int .i64 (gp + 1))) rfl hMS L' hfS hgS hO' hV' hP' (fun i hi => (ht' i (by omega)).trans (HXX.out i hi)) hR' hh' hi2 hl2 (((hF3f.alloc _).drewN _).setN (by omega))⟩, by simp [intOf]; omega⟩
            · have hOK := hO
              have hRK := hRl
              clear L hp
              go_wp2_with (first
                | (go_at_call 16; refine (busy_in (k := 0) hM.is (by omega) true (by simp [hp0])).mono ?_; rintro e w' ⟨rfl, rfl⟩)
                | (go_at_call 14; refine (unhide HS).mono ?_; rintro e w3 ⟨rfl, hM3, hF3⟩; unfold qnV; dsimp only; have hf3 := hf.q hF3 (by decide) (by decide); have hg3 := hg.q hF3 (by decide) (by decide); have hF3f := hF.qu hF3 hGw))
              go_roundw
              case rel => exact ⟨j + 1, by omega, by omega, by go_num, OrQ.mk (w := w3.alloc (.cells #[.bool true, .bool true, .int .i64 0, .int .i64 8] 33)) rfl (hM3.al _) L' (hf3.alo _) (hg3.alo _) hOK (by rw [hv']) hP' (fun i hi => (ht' i (by omega)).trans (HXX.out i hi)) hR' hh' hi2 (by simp) (hF3f.alloc _)⟩
              case measure => simp [intOf]; omega
            · have hOK := hO
              have hRK := hRl
              clear L hp
              go_wp2_with (first
                | (go_at_call 16; refine (busy_in (k := 0) hM.is (by omega) true (by simp [hp0])).mono ?_; rintro e w' ⟨rfl, rfl⟩)
                | (go_at_call 14; refine (unhide HS).mono ?_; rintro e w3 ⟨rfl, hM3, hF3⟩; unfold qnV; dsimp only; have hf3 := hf.q hF3 (by decide) (by decide); have hg3 := hg.q hF3 (by decide) (by decide); have hF3f := hF.qu hF3 hGw))
              go_roundw
              case rel => exact ⟨j + 1, by omega, by omega, by go_num, OrQ.mk (w := w3.alloc (.cells #[.bool true, .bool true, .int .i64 0, .int .i64 14] 33)) rfl (hM3.al _) L' (hf3.alo _) (hg3.alo _) hOK (by rw [hv']) hP' (fun i hi => (ht' i (by omega)).trans (HXX.out i hi)) hR' hh' hi2 (by omega) (hF3f.alloc _)⟩
              case measure => simp [intOf]; omega
          · --P1A
            have hidle : (q.th 0).pc = 0 := by omega
            have hth0 := L.idle 0 hidle
            obtain ⟨q', hq, L', ⟨hv', hi', ht'⟩, hpc⟩ := ev_t1 L.beg0 (qset_th _ _ _)
            have hs := fun (w1 : World) (h1 : Mp w1 G (G + 1) (q.set 0 ⟨1, none, none⟩)) => mstep h1 (k := 0) (by omega) (by rw [qset_th]; show 0 < 1; omega)
            rw [hq] at hs
            have HS := hide hs
            have HB := hide (fun (v : Int) => mbegin0 hM hth0 v)
            have ht2 : ∀ i, i ≠ 0 → q'.th i = q.th i := fun i hi => (ht' i hi).trans (qset_ne _ _ hi)
            have hP' : PO q' f h := hP.same (k := 0) hv' ht2 (fun _ _ => rfl) (fun _ _ => rfl) ⟨by rw [hpc]; omega, fun h => absurd rfl h⟩
            have hR' : RM q' m (j + 1) := hR.step hmod (.inr ⟨by omega, by unfold rem'; rw [hpc]; decide⟩) (fun i hi => rem_ne ht2 hi)
            have hh' : ∀ k, 0 ≤ h k ∧ h k ≤ f k ∧ f k ≤ ((j + 1 : Nat) : Int) := fun k => by have := hh k; omega
            have hi2 : q'.ids.length ≤ j + 1 + 1 := by rw [hi']; show q.ids.length ≤ _; omega
            have hV' : R.map q'.v = R.map q.v := by rw [hv']; rfl
            have hl2 : R.length ≤ j + 1 := by omega
            have hbz : (0 < (q.th 0).pc) ↔ false = true := by simp [hidle]
            have c1 := hf.cell (i := 0) (by omega)
            obtain ⟨f0, hf0⟩ : ∃ f0, f 0 = f0 := ⟨_, rfl⟩
            rw [hf0] at c1
            have hb0 : 0 ≤ f0 := by rw [← hf0]; have := hh 0; omega
            have hb9 : f0 ≤ 900 := by rw [← hf0]; have := hh 0; omega
            clear hs hq hpc L hp hP hR hh hf0
            go_wp2_with (first
              | (go_at_call 16; refine (busy_in (k := 0) hM.is (by omega) false hbz).mono ?_; rintro e w' ⟨rfl, rfl⟩)
              | (go_at_call 12; refine (unhide HB _).mono ?_; rintro e w2 ⟨rfl, hM2, hF2⟩; have hf2 := hf.q hF2 (by decide) (by decide); have hg2 := hg.q hF2 (by decide) (by decide))
              | (go_at_call 14; refine (unhide HS _ hM2).mono ?_; rintro e w3 ⟨rfl, hM3, hF3⟩; unfold qnV Qn.none; dsimp only; have hf3 := hf2.q hF3 (by decide) (by decide); have hg3 := hg2.q hF3 (by decide) (by decide); have hF3f := (hF.qu hF2 hGw).qu hF3 hGw))
            go_roundw
            case rel => exact ⟨j + 1, by omega, by omega, by go_num, OrQ.mk (w := w3.alloc (.cells #[.bool false, .bool false, .int .i64 0, .int .i64 0] 33)) rfl (hM3.al _) L' (hf3.alo _) (hg3.alo _) hO hV' hP' (fun i hi => (ht2 i (by omega)).trans (HXX.out i hi)) hR' hh' hi2 hl2 (hF3f.alloc _)⟩
            case measure => simp [intOf]; omega
        · have hkp : (0 : Int) < (k : Int) := by omega
          have hkz : ((k : Int) == 0) = false := by simp; omega
          have hk8' : (k : Int) < 8 := by omega
          have hkn : 0 < k := by omega
          have hd1 : decide (0 < k) = true := decide_eq_true hkn
          have hd2 : decide ((0 : Int) < (k : Int)) = true := decide_eq_true hkp
          have f1 := hf.free k
          by_cases hp : 0 < (q.th k).pc
          · rcases put_pc hM.wf hk0 hp (hP k hk8).1 with ⟨x, hr⟩ | ⟨x, p, hr⟩
            · --P1D
              have hp0 := hp
              obtain ⟨q', p, hq, L', ⟨hv', hi', ht'⟩, hz⟩ := ev_p2 L hM.wf hk0 hr
              have hs := mstep hM hk8 hp
              rw [hq] at hs
              have HS := hide hs
              obtain ⟨hpf, hpv⟩ := ((hP k hk8).2 hk0).1 x hr
              have hhk := hh k
              have hO' := hO.snoc (p := k) (by omega) (by omega) (by omega) (by omega)
              have hV' : (R ++ [x]).map q'.v = R.map q.v ++ [1000 * (k : Int) + (h k + 1)] := by rw [hv', List.map_append, ← hpv]; rfl
              have hP' : PO q' f (upd h k (h k + 1)) := hP.same (k := k) hv' ht' (fun _ _ => rfl) (fun i hi => upd_ne _ _ hi) ⟨by rw [hz]; show (3 : Nat) ≠ 1; omega, fun _ => ⟨fun y e => (by rw [hz] at e; cases e), fun _ => by rw [upd_at]; exact hpf⟩⟩
              have hR' : RM q' m (j + 1) := hR.step hmod (.inl (by unfold rem'; rw [hz, hr, if_neg (show ¬ (3 : Nat) = 0 by omega), if_neg hk0, if_neg (show ¬ (2 : Nat) = 0 by omega), if_neg hk0]; show 4 - 3 ≤ 4 - 2 - 1; omega)) (fun i hi => rem_ne ht' hi)
              have hh' : ∀ i, 0 ≤ upd h k (h k + 1) i ∧ upd h k (h k + 1) i ≤ f i ∧ f i ≤ ((j + 1 : Nat) : Int) := fun i => by
                by_cases e : i = k
                · subst e; rw [upd_at]; omega
                · rw [upd_ne _ _ e]; have := hh i; omega
              have hi2 : q'.ids.length ≤ j + 1 + 1 := by rw [hi']; omega
              have hl2 : (R ++ [x]).length ≤ j + 1 := by simp; omega
              have hbz : (0 < (q.th k).pc) ↔ true = true := by simp [hp]
              clear hs hq hpf hpv hz L hp hP hR hh hr hhk
              go_wp2_with (first
                | (go_at_call 16; refine (busy_in hM.is hk8 true hbz).mono ?_; rintro e w' ⟨rfl, rfl⟩)
                | (go_at_call 14; refine (unhide HS).mono ?_; rintro e w3 ⟨rfl, hM3, hF3⟩; unfold qnV Qn.none; dsimp only; have hf3 := hf.q hF3 (by decide) (by decide); have hg3 := hg.q hF3 (by decide) (by decide); have hF3f := hF.qu hF3 hGw))
              go_roundw
              case rel => exact ⟨j + 1, by omega, by omega, by go_num, OrQ.mk (w := w3.alloc (.cells #[.bool false, .bool false, .int .i64 0, .int .i64 0] 33)) rfl (hM3.al _) L' (hf3.alo _) (hg3.alo _) hO' hV' hP' (fun i hi => (ht' i (by omega)).trans (HXX.out i hi)) hR' hh' hi2 hl2 (hF3f.alloc _)⟩
              case measure => simp [intOf]; omega
            · --P1E
              have hp0 := hp
              obtain ⟨q', hq, L', ⟨hv', hi', ht'⟩, hz⟩ := ev_p3 L hk0 hr
              have hs := mstep hM hk8 hp
              rw [hq] at hs
              have HS := hide hs
              have hpf := ((hP k hk8).2 hk0).2 (by rw [hr]; show (3 : Nat) ≠ 2; omega)
              have hV' : R.map q'.v = R.map q.v := by rw [hv']
              have hP' : PO q' f h := hP.same (k := k) hv' ht' (fun _ _ => rfl) (fun _ _ => rfl) ⟨by rw [hz]; show (0 : Nat) ≠ 1; omega, fun _ => ⟨fun y e => (by rw [hz] at e; cases e), fun _ => hpf⟩⟩
              have hR' : RM q' m (j + 1) := hR.step hmod (.inl (by unfold rem'; rw [hz, if_pos (show Rq.zero.pc = 0 from rfl)]; exact Nat.zero_le _)) (fun i hi => rem_ne ht' hi)
              have hh' : ∀ k, 0 ≤ h k ∧ h k ≤ f k ∧ f k ≤ ((j + 1 : Nat) : Int) := fun k => by have := hh k; omega
              have hi2 : q'.ids.length ≤ j + 1 + 1 := by rw [hi']; omega
              have hl2 : R.length ≤ j + 1 := by omega
              have hbz : (0 < (q.th k).pc) ↔ true = true := by simp [hp]
              generalize q.v x = vx at HS
              clear hs hq hpf hz L hp hP hR hh hr
              go_wp2_with (first
                | (go_at_call 16; refine (busy_in hM.is hk8 true hbz).mono ?_; rintro e w' ⟨rfl, rfl⟩)
                | (go_at_call 14; refine (unhide HS).mono ?_; rintro e w3 ⟨rfl, hM3, hF3⟩; unfold qnV; dsimp only; have hf3 := hf.q hF3 (by decide) (by decide); have hg3 := hg.q hF3 (by decide) (by decide); have hF3f := hF.qu hF3 hGw))
              go_roundw
              case rel => exact ⟨j + 1, by omega, by omega, by go_num, OrQ.mk (w := w3.alloc (.cells #[.bool true, .bool false, .int .i64 vx, .int .i64 0] 33)) rfl (hM3.al _) L' (hf3.alo _) (hg3.alo _) hO hV' hP' (fun i hi => (ht' i (by omega)).trans (HXX.out i hi)) hR' hh' hi2 hl2 (hF3f.alloc _)⟩
              case measure => simp [intOf]; omega
          · --P1C
            have hidle : (q.th k).pc = 0 := by omega
            have hth0 := L.idle k hidle
            have hpf := ((hP k hk8).2 hk0).2 (by rw [hidle]; omega)
            have hhk := hh k
            obtain ⟨fk, hfk⟩ : ∃ fk, f k = fk := ⟨_, rfl⟩
            rw [hfk] at hpf hhk
            have hb0 : 0 ≤ fk := by omega
            have hb9 : fk ≤ 900 := by omega
            have hMs := hM.setI hf (by decide) (by decide) k (.int .i64 (fk + 1))
            have hfs := hf.set hk8 (fk + 1)
            have hgs := hg.st (B' := B1) (i := k) (u := .int .i64 (fk + 1)) (by omega)
            have hFs := hF.setN (B := B1) (i := k) (u := .int .i64 (fk + 1)) (by omega)
            have HB := hide (mbegin hMs hk8 hk0 hth0 (by omega) (1000 * (k : Int) + (fk + 1)))
            have hS := fun (x : Nat) (hx : x ∉ q.ids) => ev_p1 (L.beg hM.wf hx hk0 hth0 (1000 * (k : Int) + (fk + 1))) ((hM.wf.born x (1000 * (k : Int) + (fk + 1))).set (k := k) (r := ⟨1, some x, none⟩) (fun y e => (by cases e; exact List.mem_append_right _ (by simp))) (fun y e => (by cases e)) (Pc.p1 hk0 x)) hk0 (qset_th _ _ _)
            have HSS := hide hS
            have hRv : ∀ (x : Nat) (q' : Qu), x ∉ q.ids → q'.v = ((q.born x (1000 * (k : Int) + (fk + 1))).set k ⟨1, some x, none⟩).v → R.map q'.v = R.map q.v := fun x q' hx hv => by
              apply List.map_congr_left
              intro y hy
              have hne : y ≠ x := fun e => hx (e ▸ L.mem y (List.mem_cons_of_mem _ hy))
              rw [hv]
              simp [Qu.set, Qu.born, hne]
            have HRV := hide hRv
            have HPP := hide hP
            have HRR := hide hR
            have hh' : ∀ i, 0 ≤ h i ∧ h i ≤ upd f k (fk + 1) i ∧ upd f k (fk + 1) i ≤ ((j + 1 : Nat) : Int) := fun i => by
              by_cases e : i = k
              · subst e; rw [upd_at]; omega
              · rw [upd_ne _ _ e]; have := hh i; omega
            have HPF := hide hpf
            have hwf := hM.wf
            have hbz : (0 < (q.th k).pc) ↔ false = true := by simp [hidle]
            have hbz1 : ∀ x, (0 < (((q.born x (1000 * (k : Int) + (fk + 1))).set k ⟨1, some x, none⟩).th k).pc) ↔ true = true := fun x => by rw [qset_th]; simp
            have c1 := hf.cell hk8
            rw [hfk] at c1
            have hl2 : R.length ≤ j + 1 := by omega
            clear L hp hP hR hh hS hRv hidle hpf hhk hfk
            go_wp2_with (first
              | (go_at_call 16; refine (busy_in hM.is hk8 false hbz).mono ?_; rintro e w' ⟨rfl, rfl⟩)
              | (go_at_call 12; refine (unhide HB).mono ?_; rintro e w2 ⟨x, hx, rfl, hM2, hF2⟩; have hf2 := hfs.q hF2 (by decide) (by decide); have hg2 := hgs.q hF2 (by decide) (by decide); have hF2f := hFs.qu hF2 hGw; obtain ⟨q', hq, L', ⟨hv', hi', ht'⟩, hz⟩ := unhide HSS x hx; have HST := hide (mstep hM2 hk8 (by rw [qset_th]; exact Nat.zero_lt_one)); rw [hq] at HST; have HL' := hide L'; have HV' := hide hv'; have HI' := hide hi'; have HT' := hide ht'; have HZ := hide hz; clear L' hv' hi' ht' hz hq)
              | (go_at_call 14; refine (unhide HST).mono ?_; rintro e w3 ⟨rfl, hM3, hF3⟩; unfold qnV Qn.none; dsimp only; have hf3 := hf2.q hF3 (by decide) (by decide); have hg3 := hg2.q hF3 (by decide) (by decide); have hF3f := hF2f.qu hF3 hGw))
            have ht2 : ∀ i, i ≠ k → q'.th i = q.th i := fun i hi => (HT'.out i hi).trans (qset_ne _ _ hi)
            have hP' : PO q' (upd f k (fk + 1)) h := HPP.out.beg hwf hx HV'.out ht2 HZ.out _ (by rw [HPF.out]) (by rw [HPF.out])
            have hR' : RM q' m (j + 1) := HRR.out.step hmod (.inr ⟨by omega, by unfold rem'; rw [HZ.out, if_neg (show ¬ (2 : Nat) = 0 by omega), if_neg hk0]; show 4 - 2 ≤ 2; omega⟩) (fun i hi => rem_ne ht2 hi)
            have hi2 : q'.ids.length ≤ j + 1 + 1 := by
              rw [HI'.out]
              show (q.ids ++ [x]).length ≤ _
              simp
              omega
            have L' := HL'.out
            have hV' := HRV.out x q' hx HV'.out
            go_roundw
            case rel => exact ⟨j + 1, by omega, by omega, by go_num, OrQ.mk (w := w3.alloc (.cells #[.bool false, .bool false, .int .i64 0, .int .i64 0] 33)) rfl (hM3.al _) L' (hf3.alo _) (hg3.alo _) hO hV' hP' (fun i hi => (ht2 i (by omega)).trans (HXX.out i hi)) hR' hh' hi2 hl2 (hF3f.alloc _)⟩
            case measure => simp [intOf]; omega
      · --P2
        obtain ⟨k, hkj⟩ : ∃ k : Nat, j % 8 = k := ⟨_, rfl⟩
        have hk8 : k < 8 := by omega
        have hk : (j : Int) % 8 = (k : Int) := by omega
        have hmod : m ≤ j → j % 8 = k := fun _ => hkj
        have hjm : m ≤ j := by have := HM.out; omega
        have hph2 : ((j : Int) < (n1 : Int) ∧ ¬ ((j : Int) < 800)) ∨ ¬ ((j : Int) < (n1 : Int)) := by omega
        clear hkj
        rcases hph2 with ⟨hlt', hlt8⟩ | hlt'
        all_goals
          by_cases hk0 : k = 0
          · subst hk0
            by_cases hp : 0 < (q.th 0).pc
            · --P2B
              have hp0 := hp
              obtain ⟨q', y, R', hq, L', ⟨hv', hi', ht'⟩, hpc, hz, hE⟩ := ev_take L hM.wf hp (hP 0 (by omega)).1
              have hs := mstep hM (k := 0) (by omega) hp
              rw [hq] at hs
              have HS := hide hs
              have hP' : PO q' f h := hP.same (k := 0) hv' ht' (fun _ _ => rfl) (fun _ _ => rfl) ⟨by rw [hz]; show (0 : Nat) ≠ 1; omega, fun h => absurd rfl h⟩
              have hR' : RM q' m (j + 1) := hR.step hmod (.inl (by unfold rem'; rw [hz, if_pos (show Rq.zero.pc = 0 from rfl)]; exact Nat.zero_le _)) (fun i hi => rem_ne ht' hi)
              have hh' : ∀ k, 0 ≤ h k ∧ h k ≤ f k ∧ f k ≤ ((j + 1 : Nat) : Int) := fun k => by have := hh k; omega
              have hi2 : q'.ids.length ≤ j + 1 + 1 := by rw [hi']; omega
              clear hpc hq hs hP hR hh hz
              rcases hE with ⟨n, rfl, rfl⟩ | ⟨rfl, rfl, rfl⟩ | ⟨hRn, rfl, rfl⟩
              · have hV' : R'.map q'.v = R'.map q.v := by rw [hv']
                have hl2 : R'.length ≤ j + 1 := by simp at hRl; omega
                obtain ⟨p, hp1, hp7, hvn, hg0, hg9, hO'⟩ : Ord (q.v n :: R'.map q.v) g h := hO
                obtain ⟨hq1, hq2⟩ := quo_of (p := p) (s := g p + 1) (by omega) (by omega)
                rw [← hvn] at hq1 hq2
                generalize q.v n = vn at *
                obtain ⟨gp, hgp⟩ : ∃ gp, g p = gp := ⟨_, rfl⟩
                rw [hgp] at hq2 hvn hg0 hg9
                have HGP := hide hgp
                have hp8 : p < 8 := by omega
                have hv1 : -1000000 ≤ vn := by omega
                have hv2 : vn ≤ 1000000 := by omega
                have hn1' : ¬ ((p : Int) < 1) := by omega
                have hn8' : ¬ ((p : Int) ≥ 8) := by omega
                have hp8' : (p : Int) < 8 := by omega
                have hgw : IntKind.i64.wrap (gp + 1) = gp + 1 := by simp [IntKind.wrap, IntKind.signed, IntKind.bits]; omega
                have hgx : (gp + 1 != IntKind.i64.wrap (gp + 1)) = false := by rw [hgw]; simp
                clear L hp hvn hgp
                go_wp2_with (first
                  | (go_at_call 16; refine (busy_in (k := 0) hM.is (by omega) true (by simp [hp0])).mono ?_; rintro e w' ⟨rfl, rfl⟩)
                  | (go_at_call 14; refine (unhide HS).mono ?_; rintro e w3 ⟨rfl, hM3, hF3⟩; unfold qnV; dsimp only; have hf3 := hf.q hF3 (by decide) (by decide); have hg3 := hg.q hF3 (by decide) (by decide); have hc3 := hg3.cell hp8; rw [unhide HGP] at hc3; have hl3 := hg3.lt; have fr3 := hg3.free p; have hF3f := hF.qu hF3 hGw))
                go_quiet (fail)
                go_wp2
                have hgS := ((hg3.alo (.cells #[.bool true, .bool true, .int .i64 vn, .int .i64 0] 33)).same (w' := (w3.alloc (.cells #[.bool true, .bool true, .int .i64 vn, .int .i64 0] 33)).drewN nq) rfl).set hp8 (gp + 1)
                have hfS := ((hf3.alo (.cells #[.bool true, .bool true, .int .i64 vn, .int .i64 0] 33)).same (w' := (w3.alloc (.cells #[.bool true, .bool true, .int .i64 vn, .int .i64 0] 33)).drewN nq) rfl).st (B' := B1 + 1) (i := p) (u := .int .i64 (gp + 1)) (by omega)
                have hMS := ((hM3.al (.cells #[.bool true, .bool true, .int .i64 vn, .int .i64 0] 33)).same (w' := (w3.alloc (.cells #[.bool true, .bool true, .int .i64 vn, .int .i64 0] 33)).drewN nq) rfl).setI ((hg3.alo (.cells #[.bool true, .bool true, .int .i64 vn, .int .i64 0] 33)).same (w' := (w3.alloc (.cells #[.bool true, .bool true, .int .i64 vn, .int .i64 0] 33)).drewN nq) rfl) (by decide) (by decide) p (.int .i64 (gp + 1))
                rw [HGP.out] at hO'
                exact ⟨⟨j + 1, by omega, by omega, by go_num, OrQ.mk (w := ((w3.alloc (.cells #[.bool true, .bool true, .int .i64 vn, .int .i64 0] 33)).drewN nq).setCell ⟨B1 + 1, p, none⟩ (.int .i64 (gp + 1))) rfl hMS L' hfS hgS hO' hV' hP' (fun i hi => (ht' i (by omega)).trans (HXX.out i hi)) hR' hh' hi2 hl2 (((hF3f.alloc _).drewN _).setN (by omega))⟩, by simp [intOf]; omega⟩
              · have hOK := hO
                have hRK := hRl
                clear L hp
                go_wp2_with (first
                  | (go_at_call 16; refine (busy_in (k := 0) hM.is (by omega) true (by simp [hp0])).mono ?_; rintro e w' ⟨rfl, rfl⟩)
                  | (go_at_call 14; refine (unhide HS).mono ?_; rintro e w3 ⟨rfl, hM3, hF3⟩; unfold qnV; dsimp only; have hf3 := hf.q hF3 (by decide) (by decide); have hg3 := hg.q hF3 (by decide) (by decide); have hF3f := hF.qu hF3 hGw))
                go_roundw
                case rel => exact ⟨j + 1, by omega, by omega, by go_num, OrQ.mk (w := w3.alloc (.cells #[.bool true, .bool true, .int .i64 0, .int .i64 8] 33)) rfl (hM3.al _) L' (hf3.alo _) (hg3.alo _) hOK (by rw [hv']) hP' (fun i hi => (ht' i (by omega)).trans (HXX.out i hi)) hR' hh' hi2 (by simp) (hF3f.alloc _)⟩
                case measure => simp [intOf]; omega
              · have hOK := hO
                have hRK := hRl
                clear L hp
                go_wp2_with (first
                  | (go_at_call 16; refine (busy_in (k := 0) hM.is (by omega) true (by simp [hp0])).mono ?_; rintro e w' ⟨rfl, rfl⟩)
                  | (go_at_call 14; refine (unhide HS).mono ?_; rintro e w3 ⟨rfl, hM3, hF3⟩; unfold qnV; dsimp only; have hf3 := hf.q hF3 (by decide) (by decide); have hg3 := hg.q hF3 (by decide) (by decide); have hF3f := hF.qu hF3 hGw))
                go_roundw
                case rel => exact ⟨j + 1, by omega, by omega, by go_num, OrQ.mk (w := w3.alloc (.cells #[.bool true, .bool true, .int .i64 0, .int .i64 14] 33)) rfl (hM3.al _) L' (hf3.alo _) (hg3.alo _) hOK (by rw [hv']) hP' (fun i hi => (ht' i (by omega)).trans (HXX.out i hi)) hR' hh' hi2 (by omega) (hF3f.alloc _)⟩
                case measure => simp [intOf]; omega
            · --P2A
              have hidle : (q.th 0).pc = 0 := by omega
              have hR' : RM q m (j + 1) := hR.same hmod hidle
              have hh' : ∀ k, 0 ≤ h k ∧ h k ≤ f k ∧ f k ≤ ((j + 1 : Nat) : Int) := fun k => by have := hh k; omega
              have hbz : (0 < (q.th 0).pc) ↔ false = true := by simp [hidle]
              have HL' := hide L
              clear hp hR hh hidle L
              go_wp2_with (go_at_call 16; refine (busy_in (k := 0) hM.is (by omega) false hbz).mono ?_; rintro e w' ⟨rfl, rfl⟩)
              go_roundw
              case rel => exact ⟨j + 1, by omega, by omega, by go_num, OrQ.mk (w := wr) rfl hM HL'.out hf hg hO rfl hP HXX.out hR' hh' (by omega) (by omega) hF⟩
              case measure => simp [intOf]; omega
          · have hkp : (0 : Int) < (k : Int) := by omega
            have hkz : ((k : Int) == 0) = false := by simp; omega
            have hk8' : (k : Int) < 8 := by omega
            have hkn : 0 < k := by omega
            have hd1 : decide (0 < k) = true := decide_eq_true hkn
            have hd2 : decide ((0 : Int) < (k : Int)) = true := decide_eq_true hkp
            have f1 := hf.free k
            by_cases hp : 0 < (q.th k).pc
            · rcases put_pc hM.wf hk0 hp (hP k hk8).1 with ⟨x, hr⟩ | ⟨x, p, hr⟩
              · --P2D
                have hp0 := hp
                obtain ⟨q', p, hq, L', ⟨hv', hi', ht'⟩, hz⟩ := ev_p2 L hM.wf hk0 hr
                have hs := mstep hM hk8 hp
                rw [hq] at hs
                have HS := hide hs
                obtain ⟨hpf, hpv⟩ := ((hP k hk8).2 hk0).1 x hr
                have hhk := hh k
                have hO' := hO.snoc (p := k) (by omega) (by omega) (by omega) (by omega)
                have hV' : (R ++ [x]).map q'.v = R.map q.v ++ [1000 * (k : Int) + (h k + 1)] := by rw [hv', List.map_append, ← hpv]; rfl
                have hP' : PO q' f (upd h k (h k + 1)) := hP.same (k := k) hv' ht' (fun _ _ => rfl) (fun i hi => upd_ne _ _ hi) ⟨by rw [hz]; show (3 : Nat) ≠ 1; omega, fun _ => ⟨fun y e => (by rw [hz] at e; cases e), fun _ => by rw [upd_at]; exact hpf⟩⟩
                have hR' : RM q' m (j + 1) := hR.step hmod (.inl (by unfold rem'; rw [hz, hr, if_neg (show ¬ (3 : Nat) = 0 by omega), if_neg hk0, if_neg (show ¬ (2 : Nat) = 0 by omega), if_neg hk0]; show 4 - 3 ≤ 4 - 2 - 1; omega)) (fun i hi => rem_ne ht' hi)
                have hh' : ∀ i, 0 ≤ upd h k (h k + 1) i ∧ upd h k (h k + 1) i ≤ f i ∧ f i ≤ ((j + 1 : Nat) : Int) := fun i => by
                  by_cases e : i = k
                  · subst e; rw [upd_at]; omega
                  · rw [upd_ne _ _ e]; have := hh i; omega
                have hi2 : q'.ids.length ≤ j + 1 + 1 := by rw [hi']; omega
                have hl2 : (R ++ [x]).length ≤ j + 1 := by simp; omega
                have hbz : (0 < (q.th k).pc) ↔ true = true := by simp [hp]
                clear hs hq hpf hpv hz L hp hP hR hh hr hhk
                go_wp2_with (first
                  | (go_at_call 16; refine (busy_in hM.is hk8 true hbz).mono ?_; rintro e w' ⟨rfl, rfl⟩)
                  | (go_at_call 14; refine (unhide HS).mono ?_; rintro e w3 ⟨rfl, hM3, hF3⟩; unfold qnV Qn.none; dsimp only; have hf3 := hf.q hF3 (by decide) (by decide); have hg3 := hg.q hF3 (by decide) (by decide); have hF3f := hF.qu hF3 hGw))
                go_roundw
                case rel => exact ⟨j + 1, by omega, by omega, by go_num, OrQ.mk (w := w3.alloc (.cells #[.bool false, .bool false, .int .i64 0, .int .i64 0] 33)) rfl (hM3.al _) L' (hf3.alo _) (hg3.alo _) hO' hV' hP' (fun i hi => (ht' i (by omega)).trans (HXX.out i hi)) hR' hh' hi2 hl2 (hF3f.alloc _)⟩
                case measure => simp [intOf]; omega
              · --P2E
                have hp0 := hp
                obtain ⟨q', hq, L', ⟨hv', hi', ht'⟩, hz⟩ := ev_p3 L hk0 hr
                have hs := mstep hM hk8 hp
                rw [hq] at hs
                have HS := hide hs
                have hpf := ((hP k hk8).2 hk0).2 (by rw [hr]; show (3 : Nat) ≠ 2; omega)
                have hV' : R.map q'.v = R.map q.v := by rw [hv']
                have hP' : PO q' f h := hP.same (k := k) hv' ht' (fun _ _ => rfl) (fun _ _ => rfl) ⟨by rw [hz]; show (0 : Nat) ≠ 1; omega, fun _ => ⟨fun y e => (by rw [hz] at e; cases e), fun _ => hpf⟩⟩
                have hR' : RM q' m (j + 1) := hR.step hmod (.inl (by unfold rem'; rw [hz, if_pos (show Rq.zero.pc = 0 from rfl)]; exact Nat.zero_le _)) (fun i hi => rem_ne ht' hi)
                have hh' : ∀ k, 0 ≤ h k ∧ h k ≤ f k ∧ f k ≤ ((j + 1 : Nat) : Int) := fun k => by have := hh k; omega
                have hi2 : q'.ids.length ≤ j + 1 + 1 := by rw [hi']; omega
                have hl2 : R.length ≤ j + 1 := by omega
                have hbz : (0 < (q.th k).pc) ↔ true = true := by simp [hp]
                generalize q.v x = vx at HS
                clear hs hq hpf hz L hp hP hR hh hr
                go_wp2_with (first
                  | (go_at_call 16; refine (busy_in hM.is hk8 true hbz).mono ?_; rintro e w' ⟨rfl, rfl⟩)
                  | (go_at_call 14; refine (unhide HS).mono ?_; rintro e w3 ⟨rfl, hM3, hF3⟩; unfold qnV; dsimp only; have hf3 := hf.q hF3 (by decide) (by decide); have hg3 := hg.q hF3 (by decide) (by decide); have hF3f := hF.qu hF3 hGw))
                go_roundw
                case rel => exact ⟨j + 1, by omega, by omega, by go_num, OrQ.mk (w := w3.alloc (.cells #[.bool true, .bool false, .int .i64 vx, .int .i64 0] 33)) rfl (hM3.al _) L' (hf3.alo _) (hg3.alo _) hO hV' hP' (fun i hi => (ht' i (by omega)).trans (HXX.out i hi)) hR' hh' hi2 hl2 (hF3f.alloc _)⟩
                case measure => simp [intOf]; omega
            · --P2C
              have hidle : (q.th k).pc = 0 := by omega
              have hR' : RM q m (j + 1) := hR.same hmod hidle
              have hh' : ∀ k, 0 ≤ h k ∧ h k ≤ f k ∧ f k ≤ ((j + 1 : Nat) : Int) := fun k => by have := hh k; omega
              have hbz : (0 < (q.th k).pc) ↔ false = true := by simp [hidle]
              have HL' := hide L
              clear hp hR hh hidle L
              go_wp2_with (go_at_call 16; refine (busy_in hM.is hk8 false hbz).mono ?_; rintro e w' ⟨rfl, rfl⟩)
              go_roundw
              case rel => exact ⟨j + 1, by omega, by omega, by go_num, OrQ.mk (w := wr) rfl hM HL'.out hf hg hO rfl hP HXX.out hR' hh' (by omega) (by omega) hF⟩
              case measure => simp [intOf]; omega
    · --END
      have hjm : m + 16 ≤ j := by have := HM.out; omega
      have hz : ∀ k, k < 8 → q.th k = Rq.zero := fun k hk => by
        rcases hR.end hjm hk with h | h
        · exact L.idle k h
        · have hc := hM.wf.pc k
          generalize q.th k = r at hc h
          exfalso
          cases hc <;> simp [Rq.zero] at h
      have hzz : ∀ k, q.th k = Rq.zero := fun k => by
        by_cases hk : k < 8
        · exact hz k hk
        · exact HXX.out k (by omega)
      have hC := chn_all L hzz
      have HI := hide (mitems hM hC (by omega))
      obtain ⟨V, hV⟩ : ∃ V, R.map q.v = V := ⟨_, rfl⟩
      have hVl : V.length = R.length := by rw [← hV]; simp
      have hVl9 : V.length ≤ 900 := by omega
      have hPf : ∀ p, 1 ≤ p → p ≤ 7 → f p = h p := fun p h1 h7 => ((hP p (by omega)).2 (by omega)).2 (by rw [hz p (by omega)]; show (0 : Nat) ≠ 2; omega)
      rw [hV] at HI hO
      have HHF := hide hPf
      have HZ := hide hzz
      have hhb := hide hh
      have hnl : ¬ ((j : Int) < (n1 : Int) + 32) ∨ ¬ ((j : Int) < 900) := by omega
      clear L hP hR hz hC hVl hV hPf hh hzz hRl hid hjm
      have hends : (¬ ((j : Int) < (n1 : Int) + 32)) ∨ ((j : Int) < (n1 : Int) + 32 ∧ ¬ ((j : Int) < 900)) := by omega
      clear hnl
      rcases hends with hl1 | ⟨hl1, hl2⟩
      all_goals
        go_wp2_with (go_at_call 18; refine (unhide HI).mono ?_; rintro e w4 ⟨v, rfl, hLv, hF4⟩; obtain ⟨al, cl, rfl, -⟩ := hLv.cell)
        have hM4 := hM.up hF4
        have hf4 := hf.fr hF4 (fun h => h)
        have hg4 := hg.fr hF4 (fun h => h)
        have hF5 := hF.trans hF4 (T := fun _ => False) (fun _ _ h => h) (fun _ _ h => h)
        obtain ⟨NV, hNV⟩ : ∃ NV, V.length = NV := ⟨_, rfl⟩
        unfold LS at hLv
        rw [hNV] at hVl9 hLv ⊢
        have HNV := hide hNV
        generalize wr.heap.size = lo at *
        have hG4 := hM4.is.lt
        clear hM hf hg hF hF4 hNV hne1
        obtain ⟨wo, hwo⟩ : ∃ wo, wo = wr := ⟨_, rfl⟩
        subst hwo
        go_loopw [12, 13] (fun a _ wr => ∃ (i : Nat) (g' : Nat → Int), i ≤ NV ∧ a = .int .i64 i ∧ Mp wr G (G + 1) q ∧ AI wr B1 2 f ∧ AI wr (B1 + 1) 2 g' ∧ Ord (V.drop i) g' h ∧ OS wr lo 2 1 (.slice al NV cl) NV (rowV2 V) ∧ Fr (fun _ => False) w wr) (fun a _ _ => NV - (intOf a).toNat)
        case atStart => exact ⟨0, g, by omega, rfl, hM4, hf4, hg4, hO, hLv, hF5⟩
        case round =>
          clear hM4 hf4 hg4 hO hLv hF5
          obtain ⟨i, g', hi, rfl, hM, hf, hg, hO, hLv, hF⟩ := hrel
          have hlg := hg.lt
          have hlf := hf.lt
          by_cases hin : i < NV
          · obtain ⟨x, hx⟩ : ∃ x, V[i]? = some x := ⟨V[i]'(by have := HNV.out; omega), List.getElem?_eq_getElem _⟩
            have hdr : V.drop i = x :: V.drop (i + 1) := by
              rw [List.drop_eq_getElem_cons (by have := HNV.out; omega)]
              congr 1
              rw [List.getElem?_eq_getElem (by have := HNV.out; omega)] at hx
              exact Option.some.inj hx
            rw [hdr] at hO
            obtain ⟨p, hp1, hp7, hvn, hg0, hg9, hO'⟩ := hO
            obtain ⟨hq1, hq2⟩ := quo_of (p := p) (s := g' p + 1) (by omega) (by omega)
            rw [← hvn] at hq1 hq2
            obtain ⟨gp, hgp⟩ : ∃ gp, g' p = gp := ⟨_, rfl⟩
            rw [hgp] at hq2 hvn hg0 hg9 hO'
            have hp8 : p < 8 := by omega
            have hv1 : -1000000 ≤ x := by omega
            have hv2 : x ≤ 1000000 := by omega
            have hn1' : ¬ ((p : Int) < 1) := by omega
            have hn8' : ¬ ((p : Int) ≥ 8) := by omega
            have hp8' : (p : Int) < 8 := by omega
            have hin' : (i : Int) < (NV : Int) := by omega
            have hgw : IntKind.i64.wrap (gp + 1) = gp + 1 := by simp [IntKind.wrap, IntKind.signed, IntKind.bits]; omega
            have hgx : (gp + 1 != IntKind.i64.wrap (gp + 1)) = false := by rw [hgw]; simp
            have cg := hg.cell hp8
            rw [hgp] at cg
            have fg := hg.free p
            obtain ⟨al', cl', e', hcl1, hcl2, hcel⟩ := hLv.cell
            cases e'
            obtain ⟨gl, ol, rfl, hgl, _, hvs⟩ := hcel (by omega)
            have cx := hvs i (.int .i64 x) (by unfold rowV2; rw [List.getElem?_map, hx]; rfl)
            have hglx := World.block_lt_of_cell? wr ⟨gl, ol + i, none⟩ cx
            clear hvs hcel hvn hgp hx hdr
            go_wp2
            go_quiet (fail)
            go_wp2
            have hgS := (hg.same (w' := wr.drewN nq) rfl).set hp8 (gp + 1)
            have hfS := (hf.same (w' := wr.drewN nq) rfl).st (B' := B1 + 1) (i := p) (u := .int .i64 (gp + 1)) (by omega)
            have hMS := (hM.same (w' := wr.drewN nq) rfl).setI (hg.same (w' := wr.drewN nq) rfl) (by decide) (by decide) p (.int .i64 (gp + 1))
            have hLS := (hLv.same (w' := wr.drewN nq) rfl).st (B := B1 + 1) (i := p) (u := .int .i64 (gp + 1)) (by omega)
            exact ⟨⟨i + 1, _, by omega, by go_num, hMS, hfS, hgS, hO', hLS, (hF.drewN _).setN (by omega)⟩, by simp [intOf]; omega⟩
          · obtain rfl : i = NV := by omega
            rw [List.drop_eq_nil_of_le (by have := HNV.out; omega)] at hO
            have heq : ∀ p, 1 ≤ p → p ≤ 7 → g' p = f p := fun p h1 h7 => (hO p h1 h7).trans (HHF.out p h1 h7).symm
            have HEQ := hide heq
            clear hO heq hLv
            go_wp2
            obtain ⟨wp, hwp⟩ : ∃ wp, wp = wr := ⟨_, rfl⟩
            subst hwp
            go_loopw [14] (fun a wr => ∃ k : Nat, 1 ≤ k ∧ k ≤ 8 ∧ a = .int .i64 k ∧ Mp wr G (G + 1) q ∧ AI wr B1 2 f ∧ AI wr (B1 + 1) 2 g' ∧ Fr (fun _ => False) w wr) (fun a _ => 8 - (intOf a).toNat)
            case atStart => exact ⟨1, by omega, by omega, rfl, hM, hf, hg, hF⟩
            case round =>
              clear hM hf hg hF hlg hlf
              obtain ⟨k, hk1, hk8, rfl, hM, hf, hg, hF⟩ := hrel
              have hlg := hg.lt
              have hlf := hf.lt
              by_cases hkk : k < 8
              · have hkk' : (k : Int) < 8 := by omega
                have cf := hf.cell hkk
                have cg := hg.cell hkk
                rw [HEQ.out k hk1 (by omega)] at cg
                generalize f k = fk at cf cg
                have hbz : (0 < (q.th k).pc) ↔ false = true := by rw [HZ.out k]; simp [Rq.zero]
                have hBy := hide (fun n => busy_in ((hM.is).drewN n) hkk false hbz)
                go_wp2
                go_quiet ((go_at_call 16; exact quiet_same' (unhide hBy _)))
                go_wp2
                go_roundw
                case rel => exact ⟨k + 1, by omega, by omega, by go_num, hM.same rfl, hf.same rfl, hg.same rfl, hF.drewN _⟩
                case measure => simp [intOf]; omega
              · obtain rfl : k = 8 := by omega
                go_wp2
                go_ret
                exact ⟨rfl, hF⟩

end Go.Proofs.Ytingpopcdihclab
