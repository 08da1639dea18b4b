/-
  MpscLinear: as if each Put had been done at once at its second access, each Take at its last one.
-/
import Derived.Test.YtingpopcdihclabMqLives
import Derived.Test.YtingpopcdihclabMqArr
import Derived.Test.YtingpopcdihclabMqEv
import Derived.Test.YtingpopcdihclabApd
import Derived.Deep.RegionLaw
import Derived.Deep.DeepCutAuto
namespace Go.Proofs.Ytingpopcdihclab
open Go.RowKit
set_option linter.unusedVariables false
set_option maxRecDepth 8192

/-- a thread's number out of any number -/
theorem thI_lt (t : Int) : ∃ k : Nat, k < 8 ∧ wrap64 ((IntKind.u64.wrap t).tmod 8) = (k : Int) := by
  have h1 : 0 ≤ IntKind.u64.wrap t := by simp [IntKind.wrap, IntKind.signed, IntKind.bits]; omega
  obtain ⟨n, hn⟩ := Int.eq_ofNat_of_zero_le h1
  rw [hn]
  have e : (Int.ofNat n).tmod 8 = ((n % 8 : Nat) : Int) := rfl
  have h2 := Nat.mod_lt n (show 0 < 8 by omega)
  simp only [Int.ofNat_eq_natCast] at e ⊢
  rw [e]
  exact ⟨n % 8, h2, by unfold wrap64; omega⟩

/-- eight numbers in a block of their own -/
def AI (w : World) (B : Nat) (T : TypeId) (f : Nat → Int) : Prop := ∃ cs : Array Value, w.heap[B]? = some (.cells cs T (0, 0)) ∧ cs.size = 8 ∧ ∀ i, i < 8 → cs[i]? = some (.int .i64 (f i))

theorem AI.fr {P : Nat → Prop} {w w' : World} {B : Nat} {T : TypeId} {f : Nat → Int} (h : AI w B T f) (hf : Fr P w w') (hP : ¬ P B) : AI w' B T f := by
  obtain ⟨cs, h1, h2⟩ := h
  exact ⟨cs, hf.blk h1 hP, h2⟩
theorem AI.q {lo : Nat} {w w' : World} {B : Nat} {T : TypeId} {f : Nat → Int} (h : AI w B T f) (hf : FrQ lo w w') (h1 : T ≠ 66) (h2 : T ≠ 61) : AI w' B T f := by
  obtain ⟨cs, e, _⟩ := id h
  exact h.fr hf (nonq e h1 h2)
theorem AI.cell {w : World} {B : Nat} {T : TypeId} {f : Nat → Int} (h : AI w B T f) {i : Nat} (hi : i < 8) : w.cell? ⟨B, i, none⟩ = some (.int .i64 (f i)) := by
  obtain ⟨cs, h1, _, h3⟩ := h
  rw [cell_at h1]; exact h3 i hi
theorem AI.free {w : World} {B : Nat} {T : TypeId} {f : Nat → Int} (h : AI w B T f) (i : Nat) : w.frozen? ⟨B, i, none⟩ = false := by
  obtain ⟨cs, h1, _⟩ := h
  exact free_at h1 i
theorem AI.lt {w : World} {B : Nat} {T : TypeId} {f : Nat → Int} (h : AI w B T f) : B < w.heap.size := by
  obtain ⟨cs, h1, _⟩ := h
  exact lt_of_blk h1
theorem AI.set {w : World} {B : Nat} {T : TypeId} {f : Nat → Int} (h : AI w B T f) {k : Nat} (hk : k < 8) (x : Int) : AI (w.setCell ⟨B, k, none⟩ (.int .i64 x)) B T (upd f k x) := by
  obtain ⟨cs, h1, h2, h3⟩ := h
  refine ⟨_, blk_setCell h1, by simpa using h2, fun i hi => ?_⟩
  rw [Array.getElem?_setIfInBounds]
  by_cases e : k = i
  · subst e; rw [if_pos rfl, if_pos (by omega), upd_at]
  · rw [if_neg e, upd_ne f x (fun h => e h.symm)]; exact h3 i hi
theorem AI.new {w : World} {T : TypeId} {cs : Array Value} (h : cs.toList = List.replicate 8 (.int .i64 0)) : AI (w.alloc (.cells cs T)) w.heap.size T (fun _ => 0) := by
  refine ⟨cs, blk_new w _, by have := congrArg List.length h; simpa using this, fun i hi => ?_⟩
  rw [← Array.getElem?_toList, h, List.getElem?_replicate, if_pos hi]
theorem AI.ne {w : World} {B B' : Nat} {T T' : TypeId} {f f' : Nat → Int} (h : AI w B T f) (h' : AI w B' T' f') (hT : T ≠ T') : B ≠ B' := by
  rintro rfl
  obtain ⟨cs, e, _⟩ := h
  obtain ⟨cs', e', _⟩ := h'
  rw [e] at e'
  cases e'
  exact hT rfl

theorem Try.infoInt8 : (Try.prog.info? 3).map (fun i => (i.zero, i.size, i.bytes)) = some (some (.int .i64 0), 1, 8) := by kernel_rfl

/-- where the law stands: made f, what g, the list R's values -/
def LnQ (w0 : World) (G B1 B2 : Nat) (j : Nat) (m : Int) (lv : Value) (w : World) : Prop :=
  ∃ (q : Qu) (R : List Nat) (f g : Nat → Int), Mp w G (G + 1) q ∧ Lin q R ∧ AI w B1 3 f ∧ AI w B2 2 g ∧ LS w (B2 + 1) lv (R.map q.v) ∧
    PM q f g ∧
    0 ≤ m ∧ m ≤ j ∧ q.ids.length ≤ j + 1 ∧ R.length ≤ j ∧ Fr (fun _ => False) w0 w

theorem Mp.setI {w : World} {lo b B : Nat} {T : TypeId} {q : Qu} {f : Nat → Int} (h : Mp w lo b q) (hf : AI w B T f) (h1 : T ≠ 66) (h2 : T ≠ 61) (i : Nat) (u : Value) : Mp (w.setCell ⟨B, i, none⟩ u) lo b q :=
  h.fr (Fr.set1 w B i u) (fun k hk e => by subst e; obtain ⟨cs, e, _⟩ := hf; exact nonq e h1 h2 hk)

theorem Fr.setN {w0 w : World} {B i : Nat} {u : Value} (h : Fr (fun _ => False) w0 w) (hB : w0.heap.size ≤ B) : Fr (fun _ => False) w0 (w.setCell ⟨B, i, none⟩ u) := h.setAt B i u (.inl hB)
theorem Fr.qu {w0 w w' : World} {lo : Nat} (h : Fr (fun _ => False) w0 w) (hq : FrQ lo w w') (hlo : w0.heap.size ≤ lo) : Fr (fun _ => False) w0 w' := h.trans hq (fun _ _ h => h) (fun i hi h => by have := h.1; omega)
theorem OS.q {w w' : World} {lo lq sz : Nat} {T : TypeId} {v : Value} {n : Nat} {vs : List Value} (h : OS w lo T sz v n vs) (hf : FrQ lq w w') (h1 : T ≠ 66) (h2 : T ≠ 61) : OS w' lo T sz v n vs :=
  h.fr hf (fun k hk => by obtain ⟨_, cs, e⟩ := hk; exact nonq e h1 h2)
theorem OS.st {w : World} {lo sz : Nat} {T : TypeId} {v : Value} {n : Nat} {vs : List Value} (h : OS w lo T sz v n vs) {B i : Nat} {u : Value} (hB : B < lo) : OS (w.setCell ⟨B, i, none⟩ u) lo T sz v n vs :=
  h.fr (Fr.set1 w B i u) (fun k hk => by have := hk.1; omega)
theorem OS.alo {w : World} {lo sz : Nat} {T : TypeId} {v : Value} {n : Nat} {vs : List Value} (h : OS w lo T sz v n vs) (o : Obj) : OS (w.alloc o) lo T sz v n vs := h.fr ((Fr.refl (fun _ => False) w).alloc o) (fun _ _ h => h)
theorem OS.same {w w' : World} {lo sz : Nat} {T : TypeId} {v : Value} {n : Nat} {vs : List Value} (h : OS w lo T sz v n vs) (e : w'.heap = w.heap) : OS w' lo T sz v n vs := by unfold OS at *; rw [e]; exact h
theorem AI.same {w w' : World} {B : Nat} {T : TypeId} {f : Nat → Int} (h : AI w B T f) (e : w'.heap = w.heap) : AI w' B T f := by unfold AI at *; rw [e]; exact h
theorem AI.alo {w : World} {B : Nat} {T : TypeId} {f : Nat → Int} (h : AI w B T f) (o : Obj) : AI (w.alloc o) B T f := h.fr ((Fr.refl (fun _ => False) w).alloc o) (fun h => h)
theorem AI.st {w : World} {B : Nat} {T : TypeId} {f : Nat → Int} (h : AI w B T f) {B' i : Nat} {u : Value} (hB : B ≠ B') : AI (w.setCell ⟨B', i, none⟩ u) B T f := h.fr (Fr.set1 w B' i u) hB

/-- the law goes on: all that it must show again -/
theorem LnQ.mk {w0 w w' : World} {G B1 B2 j : Nat} {m : Int} {lv : Value} {q : Qu} {R : List Nat} {f g : Nat → Int} {n : Nat} (e : w'.heap = w.heap) (hM : Mp w G (G + 1) q) (L : Lin q R) (hf : AI w B1 3 f) (hg : AI w B2 2 g) {vl : List Int}
    (hO : OS w (B2 + 1) 2 1 lv n (rowV2 vl)) (hn : n = R.length) (hv : R.map q.v = vl) (hP : PM q f g) (h0 : 0 ≤ m) (hm : m ≤ j) (hi : q.ids.length ≤ j + 1) (hR : R.length ≤ j) (hF : Fr (fun _ => False) w0 w') : LnQ w0 G B1 B2 j m lv w' := by
  refine ⟨q, R, f, g, hM.same e, L, hf.same e, hg.same e, ?_, hP, h0, hm, hi, hR, hF⟩
  subst hv hn
  have := hO.same e
  unfold LS
  rw [List.length_map]
  exact this

set_option maxHeartbeats 8000000 in
theorem linear_calls {w : World} {a1 : Option Addr} {n1 k1 : Nat} {rows : List Int} (A1 : NuA w.heap.size w a1 n1 rows) (hn1 : n1 * 8 ≤ 140737488351232) :
    Calls Try.prog 4 #[.slice a1 n1 k1] w fun e w' => e = .returned (.bool true) ∧ Fr (fun _ => False) w w' := by
  go_enter Try.func4, Try.ntmps4
  go_wp2_with (first
    | (go_at_call 9; refine (lives_calls _).mono ?_; rintro e w1 ⟨rfl, hF0⟩)
    | (go_at_call 10; refine (mnew _).mono ?_; rintro e w2 ⟨rfl, hM, hF1⟩)
    | (at_make; refine wpList_make_rep _ rfl _ _ 50 rfl 3 (.int .i64 0) 8 Try.underlying50 Try.infoInt8 rfl _ _ 8 _ _ rfl rfl rfl rfl (by omega) (by unfold maxLen; omega) ?_; intro cs1 hcs1)
    | (at_make; refine wpList_make_rep _ rfl _ _ 42 rfl 2 (.int .i64 0) 8 Try.underlying42 Try.infoLong rfl _ _ 8 _ _ rfl rfl rfl rfl (by omega) (by unfold maxLen; omega) ?_; intro cs2 hcs2))
  obtain ⟨G, hG⟩ : ∃ G, w1.heap.size = G := ⟨_, rfl⟩
  rw [hG] at hM
  simp only [hG]
  have hGw : w.heap.size ≤ G := by rw [← hG]; exact hF0.size
  have hFr := hF0.trans hF1 (T := fun _ => False) (fun _ _ h => h) (fun _ _ h => h)
  have hQl := hM.is.lt
  have hst : LnQ w G w2.heap.size (w2.heap.size + 1) 0 0 (.slice none 0 0) ((w2.alloc (.cells cs1 3)).alloc (.cells cs2 2)) := by
    have h1 := (AI.new (w := w2) (T := 3) hcs1).fr ((Fr.refl (fun _ => False) _).alloc (.cells cs2 2)) (fun h => h)
    have h2 := AI.new (w := w2.alloc (.cells cs1 3)) (T := 2) hcs2
    rw [World.size_alloc] at h2
    exact ⟨Qu.new G, [], _, _, (hM.al _).al _, lin_new G, h1, h2, OS.nil _ _ _ _, fun k hk => ⟨by show (0 : Nat) ≠ 1; omega, fun h => absurd h (by show ¬ 0 < 0; omega)⟩, by omega, by omega, by simp [Qu.new], by simp, (hFr.alloc _).alloc _⟩
  obtain ⟨B1, hB1⟩ : ∃ B1, w2.heap.size = B1 := ⟨_, rfl⟩
  try simp only [World.size_alloc]
  rw [hB1] at hst hQl
  simp only [hB1]
  clear hM hF0 hF1 hFr hG hB1 hcs1 hcs2
  go_loopw [4, 7, 8] (fun l n i wr => ∃ (j : Nat) (m : Int), j ≤ n1 ∧ j ≤ 50000 ∧ i = .int .i64 j ∧ n = .int .i64 m ∧ LnQ w G B1 (B1 + 1) j m l wr) (fun _ _ i _ => n1 - (intOf i).toNat)
  case atStart => exact ⟨0, 0, by omega, by omega, rfl, rfl, hst⟩
  case round =>
    clear hst
    obtain ⟨j, m, hj, hj5, rfl, rfl, q, R, f, g, hM, L, hf, hg, hO, hP, hm0, hmj, hid, hRl, hF⟩ := hrel
    unfold LS at hO
    rw [List.length_map] at hO
    obtain ⟨N, hN⟩ : ∃ N, R.length = N := ⟨_, rfl⟩
    rw [hN] at hO hRl
    obtain ⟨la, lc, rfl, hlc1, hlc2, hlc3⟩ := hO.cell
    have HN := hide hN
    clear hN
    by_cases hlt : j < n1 ∧ j < 50000
    · obtain ⟨ba, off, t, rfl, hba, hx, ht64, c0w⟩ := A1.num hlt.1
      have c0 := cell_fr hF (fun h => h) c0w
      have hlt' : (j : Int) < (n1 : Int) := by omega
      have hlt5 : (j : Int) < 50000 := by omega
      clear hx
      obtain ⟨k, hk8, hk⟩ := thI_lt t
      by_cases hk0 : k = 0
      · subst hk0
        by_cases hp : 0 < (q.th 0).pc
        · have hp0 := hp
          --B
          obtain ⟨q', y, R', hq, L', ⟨hv', hi', ht'⟩, hpc, hz, hE⟩ := ev_take L hM.wf hp (hP 0 (by omega)).1
          have hf0 := ((hP 0 (by omega)).2 hp).1
          have hs := fun (w1 : World) (h1 : Mp w1 G (G + 1) q) => mstep h1 (k := 0) (by omega) hp
          rw [hq] at hs
          rw [hpc] at hf0
          replace hf0 : f 0 = 1 := hf0
          have hP' : PM q' (upd f 0 2) g := hP.step hv' ht' 2 (by rw [hz]; show (0 : Nat) ≠ 1; omega) (by rw [hz]; intro h; exact absurd h (by show ¬ 0 < 0; omega))
          have hi2 : q'.ids.length ≤ j + 1 := by rw [hi']; exact hid
          clear hpc hq
          have c1 := hf.cell (i := 0) (by omega)
          rw [hf0] at c1
          have f1 := hf.free 0
          have hlt1 := hf.lt
          have hne1 := hM.is.lt
          have hMs := hM.setI hf (by decide) (by decide) 0 (.int .i64 2)
          have hfs := hf.set (k := 0) (by omega) 2
          have hgs := hg.st (B' := B1) (i := 0) (u := .int .i64 2) (by omega)
          have hOs := hO.st (B := B1) (i := 0) (u := .int .i64 2) (by omega)
          have hFs := hF.setN (B := B1) (i := 0) (u := .int .i64 2) (by omega)
          have HS := hide hs
          clear hs
          rcases hE with ⟨n, rfl, rfl⟩ | ⟨rfl, rfl, rfl⟩ | ⟨hR, rfl, rfl⟩
          · --B1
            obtain ⟨N1, hN1⟩ : ∃ N1, R'.length = N1 := ⟨_, rfl⟩
            obtain rfl : N = N1 + 1 := by rw [← HN.out, ← hN1]; simp
            have HN1 := hide hN1
            obtain ⟨gl, ol, rfl, hbl, _, hvs⟩ := hlc3 (by omega)
            have hx0 := hvs 0 (.int .i64 (q.v n)) rfl
            rw [Nat.add_zero] at hx0
            obtain ⟨a8, c8, e8, hDr⟩ := hOs.drop 1 (by omega)
            simp at e8
            obtain ⟨rfl, rfl⟩ := e8
            have HDR := hide hDr
            have hxs : (wr.setCell ⟨B1, 0, none⟩ (.int .i64 2)).cell? ⟨gl, ol, none⟩ = some (.int .i64 (q.v n)) := cell_fr (Fr.set1 wr B1 0 (.int .i64 2)) (by omega) hx0
            have hmp : (R'.map q'.v) = R'.map q.v := by rw [hv']
            have hgl : ∀ w3, FrQ G (wr.setCell ⟨B1, 0, none⟩ (.int .i64 2)) w3 → w3.cell? ⟨gl, ol, none⟩ = some (.int .i64 (q.v n)) := fun w3 hf3 => by
              obtain ⟨cur, hcur⟩ : ∃ cur, (wr.setCell ⟨B1, 0, none⟩ (.int .i64 2)).heap[gl]? = some (.cells cur 2 (0, 0)) := by
                obtain ⟨_, a, cap, e, _, _, h5⟩ := hOs
                cases e
                rcases h5 with ⟨h5, _⟩ | ⟨g', off, cur, e1, _, e2, _⟩
                · cases h5
                · cases e1; exact ⟨cur, e2⟩
              exact cell_fr hf3 (nonq hcur (by decide) (by decide)) hxs
            have HGL := hide hgl
            generalize q.v n = vn at *
            clear hDr hgl hxs hx0 hvs hlc3 hN1 L hP hp
            go_wp2_with (first
              | (go_at_call 16; refine (busy_in (k := 0) hM.is (by omega) true (by simp [hp0])).mono ?_; rintro e w' ⟨rfl, rfl⟩)
              | (go_at_call 14; refine (unhide HS _ hMs).mono ?_; rintro e w3 ⟨rfl, hM3, hF3⟩; unfold qnV; dsimp only; have hf3 := hfs.q hF3 (by decide) (by decide); have hg3 := hgs.q hF3 (by decide) (by decide); have hx3 := unhide HGL _ hF3; have hc3 := hf3.cell (i := 0) (Nat.zero_lt_succ 7); rw [upd_at] at hc3; have hl3 := hf3.lt; have hgl3 : gl < w3.heap.size := World.block_lt_of_cell? w3 ⟨gl, ol, none⟩ hx3))
            go_quiet (fail)
            go_wp2
            go_quiet (fail)
            go_wp2
            go_roundw
            case rel =>
              have hfin : ∀ a', (1 < lc → ∃ g off, (some (⟨gl, ol, none⟩ : Addr)) = some ⟨g, off, none⟩ ∧ a' = some ⟨g, off + 1 * 1, none⟩) → (lc ≤ 1 → a' = some ⟨gl, ol, none⟩) → ∀ nq, ∃ (j_1 : Nat) (m' : Int), j_1 ≤ n1 ∧ j_1 ≤ 50000 ∧ Value.int IntKind.i64 ((j : Int) + 1) = Value.int IntKind.i64 (j_1 : Int) ∧ Value.int IntKind.i64 m = Value.int IntKind.i64 m' ∧ LnQ w G B1 (B1 + 1) j_1 m' (.slice a' N1 (lc - 1)) ((w3.alloc (.cells #[.bool true, .bool true, .int .i64 vn, .int .i64 0] 33)).drewN nq) := fun a' ha1 ha2 nq => by
                have hq := HDR.out a' ha1 ha2
                have hq1 : OS (wr.setCell ⟨B1, 0, none⟩ (.int .i64 2)) (B1 + 1 + 1) 2 1 (.slice a' N1 (lc - 1)) N1 (rowV2 (R'.map q.v)) := by simpa [rowV2] using hq
                exact ⟨j + 1, m, by omega, by omega, by go_num, rfl, LnQ.mk (w := w3.alloc (.cells #[.bool true, .bool true, .int .i64 vn, .int .i64 0] 33)) rfl (hM3.al _) L' (hf3.alo _) (hg3.alo _) ((hq1.q hF3 (by decide) (by decide)).alo _) HN1.out.symm hmp hP' hm0 (by omega) (by omega) (by rw [HN1.out]; omega) (((hFs.qu hF3 hGw).alloc _).drewN _)⟩
              by_cases hl1 : lc = 1
              · rw [if_pos hl1]
                exact hfin _ (fun h => by omega) (fun _ => rfl) _
              · rw [if_neg hl1]
                exact hfin _ (fun h => ⟨gl, ol, rfl, rfl⟩) (fun h => by omega) _
            case measure => simp [intOf]; omega
          · --B2
            clear hlc3 L hP hp
            obtain rfl : N = 0 := by rw [← HN.out]; rfl
            go_wp2_with (first
              | (go_at_call 16; refine (busy_in (k := 0) hM.is (by omega) true (by simp [hp0])).mono ?_; rintro e w' ⟨rfl, rfl⟩)
              | (go_at_call 14; refine (unhide HS _ hMs).mono ?_; rintro e w3 ⟨rfl, hM3, hF3⟩; unfold qnV; dsimp only; have hf3 := hfs.q hF3 (by decide) (by decide); have hg3 := hgs.q hF3 (by decide) (by decide); have hO3 := hOs.q hF3 (by decide) (by decide); have hc3 := hf3.cell (i := 0) (Nat.zero_lt_succ 7); rw [upd_at] at hc3; have hl3 := hf3.lt))
            go_quiet (fail)
            go_wp2
            go_roundw
            case rel => exact ⟨j + 1, m, by omega, by omega, by go_num, rfl, LnQ.mk (w := w3.alloc (.cells #[.bool true, .bool true, .int .i64 0, .int .i64 8] 33)) rfl (hM3.al _) L' (hf3.alo _) (hg3.alo _) (hO3.alo _) HN.out.symm (by rw [hv']) hP' hm0 (by omega) (by omega) (by simp) (((hFs.qu hF3 hGw).alloc _).drewN _)⟩
            case measure => simp [intOf]; omega
          · --B3
            clear hlc3 L hP hp
            have hNp : 0 < N := by rw [← HN.out]; exact List.length_pos_iff.2 hR
            go_wp2_with (first
              | (go_at_call 16; refine (busy_in (k := 0) hM.is (by omega) true (by simp [hp0])).mono ?_; rintro e w' ⟨rfl, rfl⟩)
              | (go_at_call 14; refine (unhide HS _ hMs).mono ?_; rintro e w3 ⟨rfl, hM3, hF3⟩; unfold qnV; dsimp only; have hf3 := hfs.q hF3 (by decide) (by decide); have hg3 := hgs.q hF3 (by decide) (by decide); have hO3 := hOs.q hF3 (by decide) (by decide); have hc3 := hf3.cell (i := 0) (Nat.zero_lt_succ 7); rw [upd_at] at hc3; have hl3 := hf3.lt))
            go_quiet (fail)
            go_wp2
            go_roundw
            case rel => exact ⟨j + 1, m, by omega, by omega, by go_num, rfl, LnQ.mk (w := w3.alloc (.cells #[.bool true, .bool true, .int .i64 0, .int .i64 14] 33)) rfl (hM3.al _) L' (hf3.alo _) (hg3.alo _) (hO3.alo _) HN.out.symm (by rw [hv']) hP' hm0 (by omega) (by omega) (by rw [HN.out]; omega) (((hFs.qu hF3 hGw).alloc _).drewN _)⟩
            case measure => simp [intOf]; omega
        · --A
          have hidle : (q.th 0).pc = 0 := by omega
          have hth0 := L.idle 0 hidle
          have L1 := L.beg0
          obtain ⟨q', hq, L', ⟨hv', hi', ht'⟩, hpc⟩ := ev_t1 L1 (qset_th _ _ _)
          have hs := fun (w1 : World) (h1 : Mp w1 G (G + 1) (q.set 0 ⟨1, none, none⟩)) => mstep h1 (k := 0) (by omega) (by rw [qset_th]; show 0 < 1; omega)
          rw [hq] at hs
          have HS := hide hs
          have hP' : PM q' (upd (upd f 0 0) 0 1) g := (hP.step (q' := q) rfl (fun _ _ => rfl) 0 (by rw [hidle]; omega) (by rw [hidle]; intro h; omega)).step hv' (fun j hj => (ht' j hj).trans (qset_ne _ _ hj)) 1 (by rw [hpc]; omega) (fun _ => ⟨by rw [hpc]; rfl, fun _ _ h => absurd rfl h⟩)
          have hi2 : q'.ids.length ≤ j + 1 := by rw [hi']; exact hid
          have c1 := hf.cell (i := 0) (by omega)
          have f1 := hf.free 0
          have hlt1 := hf.lt
          have hne1 := hM.is.lt
          have hMs := hM.setI hf (by decide) (by decide) 0 (.int .i64 0)
          have hfs := hf.set (k := 0) (by omega) 0
          have hgs := hg.st (B' := B1) (i := 0) (u := .int .i64 0) (by omega)
          have hOs := hO.st (B := B1) (i := 0) (u := .int .i64 0) (by omega)
          have hFs := hF.setN (B := B1) (i := 0) (u := .int .i64 0) (by omega)
          have HB := hide (fun (v : Int) => mbegin0 hMs hth0 v)
          clear hs hq hpc L hp hlc3 hP L1
          generalize f 0 = u0 at *
          go_wp2_with (first
            | (go_at_call 16; refine (busy_in (k := 0) hM.is (by omega) false (by simp [hidle])).mono ?_; rintro e w' ⟨rfl, rfl⟩)
            | (go_at_call 12; refine (unhide HB _).mono ?_; rintro e w2 ⟨rfl, hM2, hF2⟩; have hf2 := hfs.q hF2 (by decide) (by decide); have hg2 := hgs.q hF2 (by decide) (by decide); have hO2 := hOs.q hF2 (by decide) (by decide); have hc2 := hf2.cell (i := 0) (Nat.zero_lt_succ 7); rw [upd_at] at hc2; have hl2 := hf2.lt; have fr2 := hf2.free 0; have hMt := hM2.setI hf2 (by decide) (by decide) 0 (.int .i64 1); have hft := hf2.set (k := 0) (Nat.zero_lt_succ 7) 1; have hgt := hg2.st (B' := B1) (i := 0) (u := .int .i64 1) (by omega); have hOt := hO2.st (B := B1) (i := 0) (u := .int .i64 1) (by omega); have hFt := (hFs.qu hF2 hGw).setN (B := B1) (i := 0) (u := .int .i64 1) (by omega))
            | (go_at_call 14; refine (unhide HS _ hMt).mono ?_; rintro e w3 ⟨rfl, hM3, hF3⟩; unfold qnV Qn.none; dsimp only; have hf3 := hft.q hF3 (by decide) (by decide); have hg3 := hgt.q hF3 (by decide) (by decide); have hO3 := hOt.q hF3 (by decide) (by decide); have hc3 := hf3.cell (i := 0) (Nat.zero_lt_succ 7); rw [upd_at] at hc3; have hl3 := hf3.lt))
          go_quiet (fail)
          go_wp2
          go_roundw
          case rel => exact ⟨j + 1, m, by omega, by omega, by go_num, rfl, LnQ.mk (w := w3.alloc (.cells #[.bool false, .bool false, .int .i64 0, .int .i64 0] 33)) rfl (hM3.al _) L' (hf3.alo _) (hg3.alo _) (hO3.alo _) HN.out.symm (by rw [hv']; rfl) hP' hm0 (by omega) (by omega) (by rw [HN.out]; omega) (((hFt.qu hF3 hGw).alloc _).drewN _)⟩
          case measure => simp [intOf]; omega
      · have hkp : (0 : Int) < (k : Int) := by omega
        have hkz : ((k : Int) == 0) = false := by simp; omega
        have hk8' : (k : Int) < 8 := by omega
        have hkn : 0 < k := by omega
        have hd1 : decide (0 < k) = true := decide_eq_true hkn
        have hd2 : decide ((0 : Int) < (k : Int)) = true := decide_eq_true hkp
        have hlt1 := hf.lt
        have hlt2 := hg.lt
        have hne1 := hM.is.lt
        have f1 := hf.free k
        have f2 := hg.free k
        by_cases hp : 0 < (q.th k).pc
        · obtain ⟨hpm1, hpm2⟩ := (hP k hk8).2 hp
          rcases put_pc hM.wf hk0 hp (hP k hk8).1 with ⟨x, hr⟩ | ⟨x, p, hr⟩
          · --D
            obtain ⟨q', p, hq, L', ⟨hv', hi', ht'⟩, hz⟩ := ev_p2 L hM.wf hk0 hr
            have hs := fun (w1 : World) (h1 : Mp w1 G (G + 1) q) => mstep h1 hk8 hp
            rw [hq] at hs
            have HS := hide hs
            rw [hr] at hpm1 hpm2
            replace hpm1 : f k = 1 := hpm1
            have hgk : g k = q.v x := hpm2 x rfl hk0
            have hP' : PM q' (upd f k 2) g := hP.step hv' ht' 2 (by rw [hz]; show (3 : Nat) ≠ 1; omega) (by rw [hz]; intro _; exact ⟨rfl, fun y hy _ => by cases hy; exact hgk⟩)
            have hi2 : q'.ids.length ≤ j + 1 := by rw [hi']; exact hid
            have hrr : (R ++ [x]).map q'.v = R.map q.v ++ [q.v x] := by rw [hv']; simp
            have hR1 : (R ++ [x]).length = N + 1 := by simp [HN.out]
            have c1 := hf.cell hk8
            rw [hpm1] at c1
            have hMs := hM.setI hf (by decide) (by decide) k (.int .i64 2)
            have hfs := hf.set hk8 2
            have hgs := hg.st (B' := B1) (i := k) (u := .int .i64 2) (by omega)
            have hOs := hO.st (B := B1) (i := k) (u := .int .i64 2) (by omega)
            have hFs := hF.setN (B := B1) (i := k) (u := .int .i64 2) (by omega)
            have HRR := hide hrr
            have HR1 := hide hR1
            have HGK := hide hgk
            generalize q.v x = vx at *
            have hbz : (0 < (q.th k).pc) ↔ true = true := by simp [hp]
            have hone : ∀ u ∈ rowV2 (R.map q.v), u.oneCell' = true := by unfold rowV2; simp [Value.oneCell']
            have HON := hide hone
            clear hs hq hpm1 hpm2 hz hlc3 L hP hp hr hrr hgk hR1 hone
            go_wp2_with (first
              | (go_at_call 16; refine (busy_in hM.is hk8 true hbz).mono ?_; rintro e w' ⟨rfl, rfl⟩)
              | (go_at_call 14; refine (unhide HS _ hMs).mono ?_; rintro e w3 ⟨rfl, hM3, hF3⟩; unfold qnV Qn.none; dsimp only; have hf3 := hfs.q hF3 (by decide) (by decide); have hg3 := hgs.q hF3 (by decide) (by decide); have hO3 := hOs.q hF3 (by decide) (by decide); have hc3 := hf3.cell hk8; rw [upd_at] at hc3; have hc4 := hg3.cell hk8; rw [unhide HGK] at hc4; have hl3 := hf3.lt; have hl4 := hg3.lt))
            go_quiet (fail)
            go_upto_region 25 with fail
            have hO5 := (hO3.alo (.cells #[.bool false, .bool false, .int .i64 0, .int .i64 0] 33)).same (w' := (w3.alloc (.cells #[.bool false, .bool false, .int .i64 0, .int .i64 0] 33)).drewN nq) rfl
            have hM5 := (hM3.al (.cells #[.bool false, .bool false, .int .i64 0, .int .i64 0] 33)).same (w' := (w3.alloc (.cells #[.bool false, .bool false, .int .i64 0, .int .i64 0] 33)).drewN nq) rfl
            have hf5 := (hf3.alo (.cells #[.bool false, .bool false, .int .i64 0, .int .i64 0] 33)).same (w' := (w3.alloc (.cells #[.bool false, .bool false, .int .i64 0, .int .i64 0] 33)).drewN nq) rfl
            have hg5 := (hg3.alo (.cells #[.bool false, .bool false, .int .i64 0, .int .i64 0] 33)).same (w' := (w3.alloc (.cells #[.bool false, .bool false, .int .i64 0, .int .i64 0] 33)).drewN nq) rfl
            have hF5 := (((hFs.qu hF3 hGw).alloc (.cells #[.bool false, .bool false, .int .i64 0, .int .i64 0] 33)).drewN nq)
            have hb5 : ((w3.alloc (.cells #[.bool false, .bool false, .int .i64 0, .int .i64 0] 33)).drewN nq).heap[w3.heap.size]? = some (.cells #[.bool false, .bool false, .int .i64 0, .int .i64 0] 33 (0, 0)) := blk_new w3 _
            have x2 := hg5.cell hk8
            rw [unhide HGK] at x2
            clear hO3 hM3 hf3 hg3 hc3 hc4 hF3 hMs hfs hgs hOs hFs
            generalize (w3.alloc (.cells #[.bool false, .bool false, .int .i64 0, .int .i64 0] 33)).drewN nq = w5 at *
            generalize w3.heap.size = bx at *
            have hlx := lt_of_blk hb5
            have hl5 := hg5.lt
            have HO5 := hide hO5
            have hNb : N ≤ 50000 := by omega
            clear hO5
            go_region_law (first
              | (refine step_append_os rfl _ _ 42 rfl 2 (.int .i64 0) 1 8 Try.underlying42 Try.infoLong rfl _ (.slice none 0 0) 0 [] rfl (OS.nil _ _ _ _) (.slice la N lc) N (rowV2 (R.map q.v)) rfl (by first | exact OS.src HO5.out Try.underlying42 HON.out | exact OS.src (OS.al HO5.out (.cells #[.int .i64 vx] 2) rfl) Try.underlying42 HON.out) (by unfold maxLen; omega) (by omega) (Nat.le_refl _) ?_; intro vA wA hOA hFA0; have hFA := hFA0.mono (T := fun _ => False) (fun i hi h => absurd h.1 (by omega)); rw [Nat.zero_add, List.nil_append] at hOA; obtain ⟨aA, cA, rfl, -⟩ := hOA.cell; (try have x2A := cell_fr hFA (fun h => h) x2); have HOA := hide hOA)
              | (refine step_append_os rfl _ _ 42 rfl 2 (.int .i64 0) 1 8 Try.underlying42 Try.infoLong rfl _ (.slice aA N cA) N (rowV2 (R.map q.v)) rfl (by first | exact HOA.out | exact OS.al HOA.out (.cells #[.int .i64 vx] 2) rfl) _ 1 [.int .i64 vx] rfl (by first | exact Src.ofSlice _ Try.underlying42 _ 1 1 _ rfl (one_at (W := wA) rfl) (by simp [Value.oneCell']) | exact Src.ofSlice _ Try.underlying42 _ 1 1 _ rfl (one_keep (W := w5) hFA rfl) (by simp [Value.oneCell'])) (by unfold maxLen; omega) (by omega) (by have := hFA.size; simp at *; omega) ?_; intro vB wB hOB hFB; obtain ⟨aB, cB, rfl, -⟩ := hOB.cell))
            all_goals
              have hZ : Fr (fun _ => False) w5 wB := by
                first
                  | exact ((⟨hFA.os, hFA.tape, hFA.output, hFA.size, hFA.block⟩ : Fr (fun _ => False) w5 wA).alloc (.cells #[.int .i64 vx] 2)).trans hFB (fun _ _ h => h) (fun i hi h => absurd h.1 (Nat.not_le.2 hi))
                  | exact (((((Fr.refl (fun _ => False) w5).alloc (.cells #[.int .i64 vx] 2)).drew).trans hFA (fun _ _ h => h) (fun _ _ h => h)).trans hFB (fun _ _ h => h) (fun i hi h => absurd (Nat.le_trans (show w5.heap.size ≤ (w5.alloc (.cells #[.int .i64 vx] 2)).heap.size by rw [World.size_alloc]; omega) h.1) (Nat.not_le.2 hi)))
              have e : rowV2 (R.map q.v ++ [vx]) = rowV2 (R.map q.v) ++ [.int .i64 vx] := by simp [rowV2]
              have hLB : OS wB (B1 + 1 + 1) 2 1 (.slice aB (N + 1) cB) (N + 1) (rowV2 (R.map q.v ++ [vx])) := by
                rw [e]
                first
                  | exact OS.lower hOB (show B1 + 1 + 1 ≤ w5.heap.size by omega)
                  | exact OS.lower hOB (Nat.le_trans (show B1 + 1 + 1 ≤ w5.heap.size by omega) (show w5.heap.size ≤ (w5.alloc (.cells #[.int .i64 vx] 2)).heap.size by rw [World.size_alloc]; omega))
              have hbB := hZ.blk hb5 (fun h => h)
              have d0 := cell_at hbB 0
              have d1 := cell_at hbB 1
              have d2 := cell_at hbB 2
              have d3 := cell_at hbB 3
              simp at d0 d1 d2 d3
              have hMB := hM5.up hZ
              have hfB := hf5.fr hZ (fun h => h)
              have hgB := hg5.fr hZ (fun h => h)
              have hFB2 := hF5.trans hZ (T := fun _ => False) (fun _ _ h => h) (fun _ _ h => h)
              clear hOB hbB hb5 hM5 hf5 hg5 hF5 x2 e HOA hFA hFB hZ hFA0 hlx hl3 hl4 hl5 HO5
              (try clear x2A)
              go_simp
              go_wp2
              go_quiet (fail)
              go_wp2
              go_roundw
              case rel => exact ⟨j + 1, m, by omega, by omega, by go_num, rfl, LnQ.mk (w := wB) rfl hMB L' hfB hgB hLB HR1.out.symm HRR.out hP' hm0 (by omega) (by omega) (by rw [HR1.out]; omega) (hFB2.drewN _)⟩
              case measure => simp [intOf]; omega
          · --E
            obtain ⟨q', hq, L', ⟨hv', hi', ht'⟩, hz⟩ := ev_p3 L hk0 hr
            have hs := fun (w1 : World) (h1 : Mp w1 G (G + 1) q) => mstep h1 hk8 hp
            rw [hq] at hs
            have HS := hide hs
            rw [hr] at hpm1 hpm2
            replace hpm1 : f k = 2 := hpm1
            have hgk : g k = q.v x := hpm2 x rfl hk0
            have hP' : PM q' (upd f k 3) g := hP.step hv' ht' 3 (by rw [hz]; show (0 : Nat) ≠ 1; omega) (by rw [hz]; intro h; exact absurd h (by show ¬ 0 < 0; omega))
            have hi2 : q'.ids.length ≤ j + 1 := by rw [hi']; exact hid
            have hrr : R.map q.v = R.map q'.v := by rw [hv']
            have c1 := hf.cell hk8
            rw [hpm1] at c1
            have hMs := hM.setI hf (by decide) (by decide) k (.int .i64 3)
            have hfs := hf.set hk8 3
            have hgs := hg.st (B' := B1) (i := k) (u := .int .i64 3) (by omega)
            have hOs := hO.st (B := B1) (i := k) (u := .int .i64 3) (by omega)
            have hFs := hF.setN (B := B1) (i := k) (u := .int .i64 3) (by omega)
            have HRR := hide hrr
            have HGK := hide hgk
            generalize q.v x = vx at *
            have hbz : (0 < (q.th k).pc) ↔ true = true := by simp [hp]
            clear hs hq hpm1 hpm2 hz hlc3 L hP hp hr hrr hgk
            go_wp2_with (first
              | (go_at_call 16; refine (busy_in hM.is hk8 true hbz).mono ?_; rintro e w' ⟨rfl, rfl⟩)
              | (go_at_call 14; refine (unhide HS _ hMs).mono ?_; rintro e w3 ⟨rfl, hM3, hF3⟩; unfold qnV; dsimp only; have hf3 := hfs.q hF3 (by decide) (by decide); have hg3 := hgs.q hF3 (by decide) (by decide); have hO3 := hOs.q hF3 (by decide) (by decide); have hc3 := hf3.cell hk8; rw [upd_at] at hc3; have hc4 := hg3.cell hk8; rw [unhide HGK] at hc4; have hl3 := hf3.lt; have hl4 := hg3.lt))
            go_quiet (fail)
            go_wp2
            go_quiet (fail)
            go_wp2
            go_roundw
            case rel => exact ⟨j + 1, m, by omega, by omega, by go_num, rfl, LnQ.mk (w := w3.alloc (.cells #[.bool true, .bool false, .int .i64 vx, .int .i64 0] 33)) rfl (hM3.al _) L' (hf3.alo _) (hg3.alo _) (hO3.alo _) HN.out.symm HRR.out.symm hP' hm0 (by omega) (by omega) (by rw [HN.out]; omega) (((hFs.qu hF3 hGw).alloc _).drewN _)⟩
            case measure => simp [intOf]; omega
        · --C
          have hidle : (q.th k).pc = 0 := by omega
          have hth0 := L.idle k hidle
          have hMs := (hM.setI hf (by decide) (by decide) k (.int .i64 0)).setI (hg.st (B' := B1) (i := k) (u := .int .i64 0) (by omega)) (by decide) (by decide) k (.int .i64 (m + 1))
          have hfs := (hf.set hk8 0).st (B' := B1 + 1) (i := k) (u := .int .i64 (m + 1)) (by omega)
          have hgs := (hg.st (B' := B1) (i := k) (u := .int .i64 0) (by omega)).set hk8 (m + 1)
          have hOs := (hO.st (B := B1) (i := k) (u := .int .i64 0) (by omega)).st (B := B1 + 1) (i := k) (u := .int .i64 (m + 1)) (by omega)
          have hFs := (hF.setN (B := B1) (i := k) (u := .int .i64 0) (by omega)).setN (B := B1 + 1) (i := k) (u := .int .i64 (m + 1)) (by omega)
          have HB := hide (mbegin hMs hk8 hk0 hth0 (by omega) (m + 1))
          have hS := fun (x : Nat) (hx : x ∉ q.ids) => ev_p1 (L.beg hM.wf hx hk0 hth0 (m + 1)) ((hM.wf.born x (m + 1)).set (k := k) (r := ⟨1, some x, none⟩) (fun y e => (by cases e; exact List.mem_append_right _ (by simp))) (fun y e => (by cases e)) (Pc.p1 hk0 x)) hk0 (qset_th _ _ _)
          have HSS := hide hS
          have hRv : ∀ (x : Nat) (q' : Qu), x ∉ q.ids → q'.v = ((q.born x (m + 1)).set k ⟨1, some x, none⟩).v → R.map q'.v = R.map q.v := fun x q' hx hv => by
            apply List.map_congr_left
            intro y hy
            have hne : y ≠ x := fun e => hx (e ▸ L.mem y (List.mem_cons_of_mem _ hy))
            rw [hv]
            simp [Qu.set, Qu.born, hne]
          have HRV := hide hRv
          have HPP := hide hP
          have hwf := hM.wf
          have hbz : (0 < (q.th k).pc) ↔ false = true := by simp [hidle]
          have c1 := hf.cell hk8
          have c2 := hg.cell hk8
          have hm1 : m ≤ 50000 := by omega
          clear L hp hlc3 hP hS hRv hidle
          generalize f k = u0 at c1
          generalize g k = u1 at c2
          go_wp2_with (first
            | (go_at_call 16; refine (busy_in hM.is hk8 false hbz).mono ?_; rintro e w' ⟨rfl, rfl⟩)
            | (go_at_call 12; refine (unhide HB).mono ?_; rintro e w2 ⟨x, hx, rfl, hM2, hF2⟩; have hf2 := hfs.q hF2 (by decide) (by decide); have hg2 := hgs.q hF2 (by decide) (by decide); have hO2 := hOs.q hF2 (by decide) (by decide); have hc2 := hf2.cell hk8; rw [upd_at] at hc2; have hl2 := hf2.lt; have fr2 := hf2.free k; have hMt := hM2.setI hf2 (by decide) (by decide) k (.int .i64 1); have hft := hf2.set hk8 1; have hgt := hg2.st (B' := B1) (i := k) (u := .int .i64 1) (by omega); have hOt := hO2.st (B := B1) (i := k) (u := .int .i64 1) (by omega); have hFt := (hFs.qu hF2 hGw).setN (B := B1) (i := k) (u := .int .i64 1) (by omega); obtain ⟨q', hq, L', ⟨hv', hi', ht'⟩, hz⟩ := unhide HSS x hx; have HST := hide (mstep hMt hk8 (by rw [qset_th]; exact Nat.zero_lt_one)); rw [hq] at HST; have HL' := hide L'; have HV' := hide hv'; have HI' := hide hi'; have HT' := hide ht'; have HZ := hide hz; clear L' hv' hi' ht' hz hq)
            | (go_at_call 14; refine (unhide HST).mono ?_; rintro e w3 ⟨rfl, hM3, hF3⟩; unfold qnV Qn.none; dsimp only; have hf3 := hft.q hF3 (by decide) (by decide); have hg3 := hgt.q hF3 (by decide) (by decide); have hO3 := hOt.q hF3 (by decide) (by decide); have hc3 := hf3.cell hk8; rw [upd_at] at hc3; have hl3 := hf3.lt; have hc4 := hg3.cell hk8; rw [upd_at] at hc4; have hl4 := hg3.lt))
          go_quiet (fail)
          go_wp2
          go_quiet (fail)
          go_wp2
          go_roundw
          case rel =>
            have hP' : PM q' (upd (upd f k 0) k 1) (upd g k (m + 1)) := by
              have e : upd (upd f k 0) k 1 = upd f k 1 := by funext i; by_cases h : i = k <;> simp [upd, h]
              rw [e]
              exact PM.beg HPP.out hwf hx HV'.out (fun j hj => (HT'.out j hj).trans (qset_ne _ _ hj)) HZ.out rfl
            have hid' : q'.ids.length ≤ j + 1 + 1 := by
              rw [HI'.out]
              show (q.ids ++ [x]).length ≤ _
              simp
              omega
            exact ⟨j + 1, m + 1, by omega, by omega, by go_num, rfl, LnQ.mk (w := w3.alloc (.cells #[.bool false, .bool false, .int .i64 0, .int .i64 0] 33)) rfl (hM3.al _) HL'.out (hf3.alo _) (hg3.alo _) (hO3.alo _) HN.out.symm (HRV.out x q' hx HV'.out) hP' (by omega) (by omega) hid' (by rw [HN.out]; omega) (((hFt.qu hF3 hGw).alloc _).drewN _)⟩
          case measure => simp [intOf]; omega
    · --END
      have hend : ¬ ((j : Int) < (n1 : Int)) ∨ ¬ ((j : Int) < 50000) := by omega
      clear L hP hlc3
      by_cases hj1 : (j : Int) < (n1 : Int)
      · have hj2 : ¬ ((j : Int) < 50000) := by omega
        clear hend
        go_wp2
        go_ret
        exact ⟨rfl, hF⟩
      · clear hend
        go_wp2
        go_ret
        exact ⟨rfl, hF⟩

end Go.Proofs.Ytingpopcdihclab
