/-
  The document's Read of a module: what it finds in any text.
-/
import Derived.Test.YtkcljnfalimlgaaMoRefRdPure
import Derived.Test.YtkcljnfalimlgaaMoRefRdB
import Derived.Test.YtkcljnfalimlgaaMoRefRightM
import Derived.Test.YtkcljnfalimlgaaMoRdMo
import Derived.Deep.DeepCutAuto
namespace Go.Proofs.Ytkcljnfalimlgaa
open Go.RowKit
set_option linter.unusedVariables false
set_option maxRecDepth 100000

/-- whether the three first bytes are the right ones; it stops at the first that isn't -/
def xHead (s : XS) : Bool × XS :=
  if (xBy s).1 = 67 then
    if (xBy (xBy s).2).1 = 66 then (decide ((xBy (xBy (xBy s).2).2).1 = 49), (xBy (xBy (xBy s).2).2).2) else (false, (xBy (xBy s).2).2)
  else (false, (xBy s).2)
def acsB (m : List Ac) : List UInt8 := Lib.uvarint m.length ++ m.flatMap acB
def xActors (s : XS) : List Ac × XS := xW xActor (xUp 8 s).1 (xUp 8 s).2
def okY (h : Bool) (m : List Ac) (s : XS) : Bool := h && (rend s.1 s.2 == 0) && (rightE m == 0)
def readY (l : List UInt8) : List Ac × Int :=
  if l.length > 65536 then ([], 3)
  else if okY (xHead (l, 0)).1 (xActors (xHead (l, 0)).2).1 (xActors (xHead (l, 0)).2).2 then ((xActors (xHead (l, 0)).2).1, 0) else ([], 5)

theorem xActors_sound : XSound xActors acsB := xcount_sound (xW_sound xActor_sound) 8

theorem xHead_sound {s : XS} (h : (xHead s).1 = true) (h0 : (xHead s).2.2 = 0) : s.1 = magB ++ (xHead s).2.1 := by
  have e1 := xBy_sound s
  have e2 := xBy_sound (xBy s).2
  have e3 := xBy_sound (xBy (xBy s).2).2
  unfold xHead at h h0 ⊢
  split at h
  · rename_i c1
    rw [if_pos c1] at h0 ⊢
    split at h
    · rename_i c2
      rw [if_pos c2] at h0 ⊢
      have c3 := of_decide_eq_true h
      obtain ⟨g3, e3⟩ := e3 h0
      obtain ⟨g2, e2⟩ := e2 g3
      obtain ⟨g1, e1⟩ := e1 g2
      rw [e1, e2, e3, c1, c2, c3]
      rfl
    · simp at h
  · simp at h

theorem xHead_whole (r : List UInt8) : xHead (magB ++ r, 0) = (true, (r, 0)) := by
  have e1 := xBy_whole 67 (66 :: 49 :: r) (by omega)
  have e2 := xBy_whole 66 (49 :: r) (by omega)
  have e3 := xBy_whole 49 r (by omega)
  have f1 : xBy (magB ++ r, 0) = (67, (66 :: 49 :: r, 0)) := e1
  have f2 : xBy (66 :: 49 :: r, 0) = (66, (49 :: r, 0)) := e2
  have f3 : xBy (49 :: r, 0) = (49, (r, 0)) := e3
  unfold xHead
  rw [f1]; dsimp only
  rw [if_pos rfl, f2]; dsimp only
  rw [if_pos rfl, f3]; rfl

theorem readY_sound {l : List UInt8} {m : List Ac} (h : readY l = (m, 0)) : rightE m = 0 ∧ l = moB m := by
  unfold readY at h
  split at h
  · simp at h
  · split at h
    · rename_i hk
      simp only [Prod.mk.injEq, and_true] at h
      subst h
      simp only [okY, Bool.and_eq_true, beq_iff_eq] at hk
      obtain ⟨⟨h1, h2⟩, h3⟩ := hk
      obtain ⟨h4, h5⟩ := rend_ok h2
      obtain ⟨h6, e⟩ := xActors_sound _ h4
      rw [h5, List.append_nil] at e
      have e' := xHead_sound (s := (l, 0)) h1 h6
      refine ⟨h3, ?_⟩
      unfold moB
      rw [e] at e'
      exact e'
    · simp at h

theorem readY_whole {m : List Ac} (h : rightE m = 0) : readY (moB m) = (m, 0) := by
  have hl := moB_le h
  have hh : xHead (moB m, 0) = (true, (acsB m, 0)) := xHead_whole _
  have ha : xActors (acsB m, 0) = (m, ([], 0)) := by
    obtain ⟨g1, g2⟩ := rightE_ok h
    obtain ⟨a1, a2⟩ := longM_no g1
    obtain ⟨b1, b2⟩ := rightM_yes g2
    have e := xcount_whole (xW_whole (xActor_whole m.length)) 8 (by omega) m [] ⟨a1, fun x hx => ⟨a2 x hx, b2 x hx⟩⟩
    rw [List.append_nil] at e
    exact e
  unfold readY
  rw [if_neg (by omega), hh]
  dsimp only
  rw [ha, if_pos (by simp [okY, rend, h])]

theorem readY_readX (l : List UInt8) : readY l = readX l := by
  rcases readX_cases l with ⟨m, h1, h2, h3⟩ | ⟨h1, h2⟩
  · rw [h3, h2, readY_whole h1]
  · rw [h2]
    have hn : (readY l).2 ≠ 0 := fun e => by
      obtain ⟨g1, g2⟩ := readY_sound (l := l) (m := (readY l).1) (by rw [← e])
      exact h1 _ g1 g2
    unfold readY at hn ⊢
    split
    · rfl
    · rename_i hl
      rw [if_neg hl] at hn
      split at hn
      · simp at hn
      · rename_i hk; rw [if_neg hk]

/-- what the loop of Read keeps: the list of actors, its variable at M, the answer's at R, the reader at b -/
structure RL (w0 : World) (R b M : Nat) (N : Nat) (s1 : XS) (w : World) (k : Nat) (pre : List Ac) (cells : List Value) (cur : XS) (v : Value) : Prop where
  le : pre.length + k ≤ N
  m : w.heap[M]? = some (.cells #[v] 24 (0, 0))
  r : w.heap[R]? = some (.cells #[.slice none 0 0] 24 (0, 0))
  own : w.ownsRow 0 42 5 v pre.length cells
  lo : ∀ g, v.ownBlock = some g → M < g
  nest : Nest AcV 5 (M + 1) v w cells pre
  rd : XM w b cur
  e1 : pre ++ (xW xActor k cur).1 = (xW xActor N s1).1
  e2 : (xW xActor k cur).2 = (xW xActor N s1).2
  fr : Q0 w0 w

theorem five_one {v0 v1 v2 v3 v4 : Value} (h0 : v0.oneCell' = true) (h1 : v1.oneCell' = true) (h2 : v2.oneCell' = true) (h3 : v3.oneCell' = true) (h4 : v4.oneCell' = true) : ∀ (u : Value), u ∈ [v0, v1, v2, v3, v4] → u.oneCell' = true := by
  intro u h
  simp only [List.mem_cons, List.not_mem_nil, or_false] at h
  rcases h with rfl | rfl | rfl | rfl | rfl <;> assumption

theorem five_c1 (wr : World) (v0 v1 v2 v3 v4 : Value) (t : TypeId) : ∀ (j : Nat) (u : Value), [v0, v1, v2, v3, v4][j]? = some u → (wr.alloc (Obj.cells #[v0, v1, v2, v3, v4] t)).cell? ((⟨wr.heap.size, 0, none⟩ : Addr).add j) = some u := by
  intro j u h
  have ea : (⟨wr.heap.size, 0, none⟩ : Addr).add j = ⟨wr.heap.size, j, none⟩ := by unfold Addr.add; split <;> simp_all
  rw [ea, cell_at (blk_new wr _)]
  simpa using h

/-- an actor is appended -/
theorem RL.more {w0 w W w' : World} {R b M N k : Nat} {s1 : XS} {pre : List Ac} {cells vs : List Value} {cur cur' : XS} {v v' : Value} {x : Ac} (h : RL w0 R b M N s1 w (k + 1) pre cells cur v) (hR : R < M) (hb : b < M) (hw0 : w0.heap.size ≤ R) (hb0 : w0.heap.size ≤ b)
    (hf : Fr (fun i => i = b) w W) (hx : AcV (w.heap.size + 1) W.heap.size W vs x) (hvs : vs.length = 5) (hM : XM W b cur') (hcur : cur.2 = 0) (hxa : xActor cur = (x, cur'))
    (ho : w'.ownsRow 0 42 5 v' (pre.length + 1) (cells ++ vs)) (hgr : W.grownBy w' v.ownBlock) (ha : v'.ownBlock = v.ownBlock ∨ v'.ownBlock = some W.heap.size) :
    RL w0 R b M N s1 (w'.setCell ⟨M, 0, none⟩ v') k (pre ++ [x]) (cells ++ vs) cur' v' := by
  have hml := lt_of_blk h.m
  have hz := hf.size
  have q : Q0 w0 W := h.fr.trans hf (fun _ _ h => h) (fun i hi e => by omega)
  have fs : Fr (fun i => i = M) w' (w'.setCell ⟨M, 0, none⟩ v') := (Fr.refl (fun i => i = M) w').setAt _ _ _ (.inr rfl)
  have hM' : w'.heap[M]? = some (.cells #[v] 24 (0, 0)) := (frGrown hgr).blk (hf.blk h.m (by omega)) (fun e => by have := h.lo M e.symm; omega)
  have hR' : w'.heap[R]? = some (.cells #[.slice none 0 0] 24 (0, 0)) := (frGrown hgr).blk (hf.blk h.r (by intro e; subst e; have := h.r; have h2 := h.rd.rd; unfold IsM at h2; rw [this] at h2; simp at h2)) (fun e => by have := h.lo R e.symm; omega)
  have hlo' : ∀ g, v'.ownBlock = some g → M < g := by
    intro g hg
    rcases ha with e | e
    · rw [e] at hg; exact h.lo g hg
    · rw [e] at hg; cases hg; omega
  have hlt := owns_lt h.own
  have hst := xW_step xActor k cur hcur
  have e1 := h.e1
  have e2 := h.e2
  rw [hst, hxa] at e1 e2
  have hn := (h.nest.fr niceAc hf (fun i e => .inl (by omega))).snoc (lo' := w.heap.size + 1) (hi' := W.heap.size) niceAc h.own.1 hgr ha hvs (by omega) (Nat.le_refl _) (fun g hg => .inl (by have := hlt g hg; omega)) hx
  refine ⟨by have := h.le; simp; omega, by rw [blk_setCell hM']; rfl, fs.blk hR' (by omega), ?_, hlo', hn.fr niceAc fs (fun i e => .inl (by omega)), ?_, by simpa using e1, e2, ?_⟩
  · rw [List.length_append]; exact owns_fr ho fs (fun g hg e => by have := hlo' g hg; omega)
  · exact (hM.fr (frGrown hgr) (fun e => by have := h.lo b e.symm; omega)).fr fs (by omega)
  · exact (q.grown hgr (fun g hg => .inl (by have := h.lo g hg; omega))).trans fs (fun _ _ h => h) (fun i hi e => by omega)

/-- an actor that is being read: its variable behind the blocks of wr, the reader at b -/
structure AB (wr : World) (b : Nat) (W : World) (vs : Array Value) (s : XS) : Prop where
  k : W.heap[wr.heap.size]? = some (.cells vs 42 (0, 0))
  rd : XM W b s
  fr : Fr (fun i => i = b) wr W

theorem AB.call {wr W W' : World} {b : Nat} {vs : Array Value} {s s' : XS} (h : AB wr b W vs s) (hb : b < wr.heap.size) (hf : Fr (fun i => i = b) W W') (hM : XM W' b s') : AB wr b W' vs s' :=
  ⟨hf.blk h.k (by omega), hM, h.fr.trans hf (fun _ _ h => h) (fun _ _ h => h)⟩

theorem AB.store {wr W : World} {b : Nat} {vs : Array Value} {s : XS} (h : AB wr b W vs s) (hb : b < wr.heap.size) (i : Nat) (u : Value) : AB wr b (W.setCell ⟨wr.heap.size, i, none⟩ u) (vs.setIfInBounds i u) s := by
  have fs : Fr (fun k => k = wr.heap.size) W (W.setCell ⟨wr.heap.size, i, none⟩ u) := (Fr.refl (fun k => k = wr.heap.size) W).setAt _ _ _ (.inr rfl)
  exact ⟨blk_setCell h.k, h.rd.fr fs (by omega), h.fr.trans fs (fun _ _ h => h) (fun i hi e => by omega)⟩

theorem bt_store (W : World) (b tb i : Nat) (u : Value) : Fr (fun k => k = b ∨ k = tb) W (W.setCell ⟨tb, i, none⟩ u) := (Fr.refl (fun k => k = b ∨ k = tb) W).setAt _ _ _ (.inr (.inr rfl))
theorem bt_call {W W' W'' : World} {b tb : Nat} (h : Fr (fun k => k = b ∨ k = tb) W W') (h' : Fr (fun k => k = b) W' W'') : Fr (fun k => k = b ∨ k = tb) W W'' := h.trans h' (fun _ _ h => h) (fun _ _ h => .inl h)
theorem bt_then {W W' W'' : World} {b tb : Nat} (h : Fr (fun k => k = b ∨ k = tb) W W') (h' : Fr (fun k => k = b ∨ k = tb) W' W'') : Fr (fun k => k = b ∨ k = tb) W W'' := h.trans h' (fun _ _ h => h) (fun _ _ h => h)

set_option maxHeartbeats 8000000 in
theorem xmread_calls (t : ByteArray) (w : World) (ht : t.size ≤ 9223372036854775807) :
    Calls Try.prog 24 #[.string t] w fun e w' => ∃ a n c, e = .returned (.tuple #[moV a n c, .int .i64 (readY t.data.toList).2]) ∧ AcA w.heap.size w'.heap.size w' a n (readY t.data.toList).1 ∧ Q0 w w' := by
  have hts : t.data.toList.length = t.size := by simp
  by_cases hlong : t.size > 65536
  · have hY : readY t.data.toList = ([], 3) := by unfold readY; rw [if_pos (by omega)]
    rw [hY]
    have hl2 : (t.size : Int) > 65536 := by omega
    have r0 := blk_new w (.cells #[.slice none 0 0] 24)
    have c0 := cell_at r0 0
    have f0 := free_at r0 0
    simp at c0
    clear hlong hts hY
    go_enter Try.func24, Try.ntmps24
    go_wp2
    refine bodyPost_ret (results_mo2 rfl _ _ _ rfl (load_mo (w := w.alloc (.cells #[.slice none 0 0] 24)) (b := w.heap.size) (a := none) (n := 0) (c := 0) r0)) rfl ⟨none, 0, 0, rfl, Arr.nil _ _ _ _ _ _, (Fr.refl _ w).alloc _⟩
  · have hl2 : ¬ (t.size : Int) > 65536 := by omega
    have hY : readY t.data.toList = if okY (xHead (t.data.toList, 0)).1 (xActors (xHead (t.data.toList, 0)).2).1 (xActors (xHead (t.data.toList, 0)).2).2 then ((xActors (xHead (t.data.toList, 0)).2).1, 0) else ([], 5) := by unfold readY; rw [if_neg (by omega)]
    generalize readY t.data.toList = res at *
    have hts2 : t.data.toList.length ≤ 65536 := by omega
    have hba : ba t.data.toList = t := ba_of t
    generalize t.data.toList = l at *
    have HRes := hide hY
    clear hY hts hlong
    have q0 : Q0 w (((w.alloc (.cells #[.slice none 0 0] 24)).alloc (.cells #[.string t, .int .i64 0] 91)).alloc (.cells #[.slice none 0 0] 24)) := (((Fr.refl _ w).alloc _).alloc _).alloc _
    have bR : (((w.alloc (.cells #[.slice none 0 0] 24)).alloc (.cells #[.string t, .int .i64 0] 91)).alloc (.cells #[.slice none 0 0] 24)).heap[w.heap.size]? = some (.cells #[.slice none 0 0] 24 (0, 0)) := blk_alloc (blk_alloc (blk_new w _))
    have bB : IsM (((w.alloc (.cells #[.slice none 0 0] 24)).alloc (.cells #[.string t, .int .i64 0] 91)).alloc (.cells #[.slice none 0 0] 24)) (w.heap.size + 1) l 0 := by
      have := blk_new (w.alloc (.cells #[.slice none 0 0] 24)) (.cells #[.string t, .int .i64 0] 91)
      unfold IsM
      rw [hba]
      exact blk_alloc (by simpa using this)
    have bM : (((w.alloc (.cells #[.slice none 0 0] 24)).alloc (.cells #[.string t, .int .i64 0] 91)).alloc (.cells #[.slice none 0 0] 24)).heap[w.heap.size + 2]? = some (.cells #[.slice none 0 0] 24 (0, 0)) := by
      have := blk_new ((w.alloc (.cells #[.slice none 0 0] 24)).alloc (.cells #[.string t, .int .i64 0] 91)) (.cells #[.slice none 0 0] 24)
      simpa using this
    have HB := hide (show XM (((w.alloc (.cells #[.slice none 0 0] 24)).alloc (.cells #[.string t, .int .i64 0] 91)).alloc (.cells #[.slice none 0 0] 24)) (w.heap.size + 1) (l, 0) from ⟨bB, hts2⟩)
    have BR := hide bR
    have BM := hide bM
    have HH := hide (show xHead (l, 0) = if (xBy (l, 0)).1 = 67 then if (xBy (xBy (l, 0)).2).1 = 66 then (decide ((xBy (xBy (xBy (l, 0)).2).2).1 = 49), (xBy (xBy (xBy (l, 0)).2).2).2) else (false, (xBy (xBy (l, 0)).2).2) else (false, (xBy (l, 0)).2) from rfl)
    clear bB bR bM hba
    go_enter Try.func24, Try.ntmps24
    go_upto_region 5 with fail
    generalize ((w.alloc (.cells #[.slice none 0 0] 24)).alloc (.cells #[.string t, .int .i64 0] 91)).alloc (.cells #[.slice none 0 0] 24) = w1 at *
    go_cut [6] (fun hv wx => hv = .bool (xHead (l, 0)).1 ∧ XM wx (w.heap.size + 1) (xHead (l, 0)).2 ∧ Fr (fun k => k = w.heap.size + 1) w1 wx)
    case first =>
      have HX1 := hide (xby_calls (unhide HB))
      have HX2 := hide (fun (w' : World) (h : XM w' (w.heap.size + 1) (xBy (l, 0)).2) => xby_calls h)
      have HX3 := hide (fun (w' : World) (h : XM w' (w.heap.size + 1) (xBy (xBy (l, 0)).2).2) => xby_calls h)
      generalize xBy (l, 0) = p1 at *
      obtain ⟨x1, s1⟩ := p1
      dsimp only at *
      generalize xBy s1 = p2 at *
      obtain ⟨x2, s2⟩ := p2
      dsimp only at *
      generalize xBy s2 = p3 at *
      obtain ⟨x3, s3⟩ := p3
      dsimp only at *
      by_cases c1 : x1 = 67
      · by_cases c2 : x2 = 66
        · rw [if_pos c1, if_pos c2] at HH
          have b1 : (x1 == 67) = true := beq_iff_eq.2 c1
          have b2 : (x2 == 66) = true := beq_iff_eq.2 c2
          clear c1 c2
          go_wp2_with fail
          refine (unhide HX1).mono ?_
          rintro e w2 ⟨rfl, hM2, hF2⟩
          have HM2 := hide hM2
          clear hM2
          go_wp2_with fail
          refine (unhide HX2 _ (unhide HM2)).mono ?_
          rintro e w3 ⟨rfl, hM3, hF3⟩
          have HM3 := hide hM3
          clear hM3
          go_wp2_with fail
          refine (unhide HX3 _ (unhide HM3)).mono ?_
          rintro e w4 ⟨rfl, hM4, hF4⟩
          have HM4 := hide hM4
          clear hM4
          go_wp2_with fail
          go_meet
          case rel =>
            rw [unhide HH]
            exact ⟨congrArg Value.bool (by rw [Bool.eq_iff_iff]; simp), unhide HM4, (hF2.trans hF3 (fun _ _ h => h) (fun _ _ h => h)).trans hF4 (fun _ _ h => h) (fun _ _ h => h)⟩
        · rw [if_pos c1, if_neg c2] at HH
          have b1 : (x1 == 67) = true := beq_iff_eq.2 c1
          have b2 : (x2 == 66) = false := beq_eq_false_iff_ne.2 c2
          clear c1 c2
          go_wp2_with fail
          refine (unhide HX1).mono ?_
          rintro e w2 ⟨rfl, hM2, hF2⟩
          have HM2 := hide hM2
          clear hM2
          go_wp2_with fail
          refine (unhide HX2 _ (unhide HM2)).mono ?_
          rintro e w3 ⟨rfl, hM3, hF3⟩
          have HM3 := hide hM3
          clear hM3
          go_wp2_with fail
          go_meet
          case rel =>
            rw [unhide HH]
            exact ⟨rfl, unhide HM3, hF2.trans hF3 (fun _ _ h => h) (fun _ _ h => h)⟩
      · rw [if_neg c1] at HH
        have b1 : (x1 == 67) = false := beq_eq_false_iff_ne.2 c1
        clear c1
        go_wp2_with fail
        refine (unhide HX1).mono ?_
        rintro e w2 ⟨rfl, hM2, hF2⟩
        have HM2 := hide hM2
        clear hM2
        go_wp2_with fail
        go_meet
        case rel =>
          rw [unhide HH]
          exact ⟨rfl, unhide HM2, hF2⟩
    case rest =>
      obtain ⟨rfl, hM2, hF2⟩ := hcut
      have BR2 := hide (hF2.blk (unhide BR) (by omega))
      have BM2 := hide (hF2.blk (unhide BM) (by omega))
      have Q2 : Q0 w wc := q0.trans hF2 (fun _ _ h => h) (fun i hi e => by omega)
      have hle := xUp_le 8 (xHead (l, 0)).2
      have hup := xcount_calls hM2 8 (by omega)
      have hXA : xActors (xHead (l, 0)).2 = xW xActor (xUp 8 (xHead (l, 0)).2).1 (xUp 8 (xHead (l, 0)).2).2 := rfl
      rw [hXA] at HRes
      clear HH HB BR BM q0 hF2 hM2 hXA
      generalize xHead (l, 0) = p at *
      obtain ⟨hd, sh⟩ := p
      dsimp only at *
      generalize xUp 8 sh = p at *
      obtain ⟨N, s1⟩ := p
      dsimp only at *
      have HU := hide hup
      clear hup
      go_wp2_with fail
      refine (unhide HU).mono ?_
      rintro e w3 ⟨rfl, hM3, hF3⟩
      have HRL := hide (show RL w w.heap.size (w.heap.size + 1) (w.heap.size + 2) N s1 w3 N [] [] s1 (.slice none 0 0) from
        ⟨by simp, hF3.blk (unhide BM2) (by omega), hF3.blk (unhide BR2) (by omega), World.ownsRow_nil _ _ _ _, fun g hg => by simp [Value.ownBlock] at hg, Nest.nil, hM3, rfl, rfl, Q2.trans hF3 (fun _ _ h => h) (fun i hi e => by omega)⟩)
      clear hM3 hF3 BR2 BM2 HU Q2
      go_wp2
      go_loopw [7] (fun nv w' => ∃ (k : Nat) (pre : List Ac) (cells : List Value) (cur : XS) (v : Value), nv = .int .i64 k ∧ RL w w.heap.size (w.heap.size + 1) (w.heap.size + 2) N s1 w' k pre cells cur v) (fun nv w' => (intOf nv).toNat)
      case atStart => exact ⟨N, [], [], s1, _, rfl, unhide HRL⟩
      case round =>
        clear HRL
        obtain ⟨k, pre, cells, cur, v, rfl, hR⟩ := hrel
        have HR := hide hR
        have hk := hR.le
        obtain ⟨av, cv, rfl⟩ := slice_of hR.own
        have r1 := hR.rd.rd.c1
        have m0 := cell_at hR.m 0
        simp at m0
        clear hR
        by_cases hend : k = 0 ∨ cur.2 ≠ 0
        · have hb : k = 0 ∨ ((cur.2 == 0) = false ∧ (k : Int) > 0) := by
            by_cases h0 : k = 0
            · exact .inl h0
            · exact .inr ⟨beq_eq_false_iff_ne.2 (hend.resolve_left h0), by omega⟩
          have hstop := xW_stop xActor _ _ hend
          have e1 := (unhide HR).e1
          have e2 := (unhide HR).e2
          rw [hstop] at e1 e2
          simp only [List.append_nil] at e1
          rw [← e1, ← e2] at HRes
          obtain ⟨a', c', ev, hA⟩ := Nest.arr niceAc (unhide HR).nest (unhide HR).own rfl (fun g hg => by have := (unhide HR).lo g hg; omega) (by omega)
          simp only [Value.slice.injEq, true_and] at ev
          obtain ⟨rfl, rfl⟩ := ev
          have HA := hide hA
          have R0 := hide (unhide HR).r
          have M0 := hide (unhide HR).m
          have F0 := (unhide HR).fr
          have HE := hide (mend_calls (unhide HR).rd.rd)
          have y0 := cell_at (unhide R0) 0
          have y1 := free_at (unhide R0) 0
          simp at y0
          clear hstop e1 e2 hend hA HR
          have HO : Hid (∀ (h : Bool), okY h pre cur = (h && (rend cur.1 cur.2 == 0) && (rightE pre == 0))) := hide (fun _ => rfl)
          generalize rend cur.1 cur.2 = re at *
          have HRi := hide (xmright_calls (unhide HA) cv)
          generalize rightE pre = ri at *
          have fin : ∀ (w6 : World), Q0 wr w6 → (w6.setCell ⟨w.heap.size, 0, none⟩ (.slice none 0 0)).heap[w.heap.size]? = some (.cells #[.slice none 0 0] 24 (0, 0)) ∧ Q0 w (w6.setCell ⟨w.heap.size, 0, none⟩ (.slice none 0 0)) := by
            intro w6 h6
            refine ⟨blk_setCell (h6.blk (unhide R0) (fun h => h)), (F0.then h6).trans (Fr.set1 w6 w.heap.size 0 _) (fun _ _ h => h) (fun i hi e => by omega)⟩
          have FIN := hide fin
          clear fin
          have er := unhide HRes
          rw [unhide HO] at er
          rcases hb with rfl | ⟨hb, hk0⟩
          all_goals cases hd
          all_goals first
            | (have er' : res = ([], 5) := by simpa using er
               subst er'
               go_wp2_with fail
               exact bodyPost_ret (results_mo2 rfl _ _ _ rfl (load_mo (unhide FIN _ (Fr.refl _ _)).1)) rfl ⟨none, 0, ⟨0, rfl⟩, Arr.nil _ _ _ _ _ _, (unhide FIN _ (Fr.refl _ _)).2⟩)
            | (by_cases hre : re = 0
               · have hre' : (re != 0) = false := by simp [hre]
                 by_cases hri : ri = 0
                 · have hri' : (ri != 0) = false := by simp [hri]
                   have er' : res = (pre, 0) := by simpa [hre, hri] using er
                   clear er hre hri
                   subst er'
                   go_wp2_with (first
                     | (go_at_call 46; refine (unhide HE).mono ?_; rintro e w5 ⟨rfl, rfl⟩)
                     | (go_at_call 20; refine (unhide HRi).mono ?_; rintro e w6 ⟨rfl, hF6⟩; have d6 := cell_at (hF6.blk (unhide M0) (fun h => h)) 0; have R6 := hide (hF6.blk (unhide R0) (fun h => h)); have y6 := cell_at (unhide R6) 0; have y7 := free_at (unhide R6) 0; simp at y6 d6))
                   have fs := Fr.set1 w6 w.heap.size 0 (.slice av pre.length cv)
                   have hz := fs.size
                   have hz6 := hF6.size
                   have hz0 := F0.size
                   have hb : (w6.setCell ⟨w.heap.size, 0, none⟩ (.slice av pre.length cv)).heap[w.heap.size]? = some (.cells #[.slice av pre.length cv] 24 (0, 0)) := blk_setCell (unhide R6)
                   exact bodyPost_ret (results_mo2 rfl _ _ _ rfl (load_mo hb)) rfl ⟨av, pre.length, ⟨cv, rfl⟩, AcA.wide (AcA.fr (AcA.fr (unhide HA) hF6 q0_no) fs (fun k hk => by omega)) (by omega) (by omega), (F0.then hF6).trans fs (fun _ _ h => h) (fun i hi e => by omega)⟩
                 · have hri' : (ri != 0) = true := by simp [hri]
                   have er' : res = ([], 5) := by simpa [hre, hri] using er
                   clear er hre hri
                   subst er'
                   go_wp2_with (first
                     | (go_at_call 46; refine (unhide HE).mono ?_; rintro e w5 ⟨rfl, rfl⟩)
                     | (go_at_call 20; refine (unhide HRi).mono ?_; rintro e w6 ⟨rfl, hF6⟩; have R6 := hide (hF6.blk (unhide R0) (fun h => h)); have y6 := cell_at (unhide R6) 0; have y7 := free_at (unhide R6) 0; simp at y6))
                   exact bodyPost_ret (results_mo2 rfl _ _ _ rfl (load_mo (unhide FIN _ hF6).1)) rfl ⟨none, 0, ⟨0, rfl⟩, Arr.nil _ _ _ _ _ _, (unhide FIN _ hF6).2⟩
               · have hre' : (re != 0) = true := by simp [hre]
                 have er' : res = ([], 5) := by simpa [hre] using er
                 clear er hre
                 subst er'
                 go_wp2_with (go_at_call 46; refine (unhide HE).mono ?_; rintro e w5 ⟨rfl, rfl⟩)
                 exact bodyPost_ret (results_mo2 rfl _ _ _ rfl (load_mo (unhide FIN _ (Fr.refl _ _)).1)) rfl ⟨none, 0, ⟨0, rfl⟩, Arr.nil _ _ _ _ _ _, (unhide FIN _ (Fr.refl _ _)).2⟩)
        · have hE0 : cur.2 = 0 := by
            rcases Classical.em (cur.2 = 0) with h | h
            · exact h
            · exact absurd (.inr h) hend
          obtain ⟨j, rfl⟩ : ∃ j, k = j + 1 := ⟨k - 1, by omega⟩
          have hgt : ((j + 1 : Nat) : Int) > 0 := by omega
          rw [hE0] at r1
          have hwr := lt_of_blk (unhide HR).m
          have qa : Q0 wr (wr.alloc (.cells #[.slice none 0 0, .slice none 0 0, .slice none 0 0, .slice none 0 0, .slice none 0 0] 42)) := (Fr.refl _ wr).alloc _
          have K0 := hide (blk_new wr (.cells #[.slice none 0 0, .slice none 0 0, .slice none 0 0, .slice none 0 0, .slice none 0 0] 42))
          have H1 := hide (xtypes_calls ((unhide HR).rd.fr qa (fun h => h)) 4 (by omega))
          have H2 := hide (fun (w' : World) (h : XM w' (w.heap.size + 1) (xTypes 4 cur).2) => xtypes_calls h 16 (by omega))
          have H3 := hide (fun (w' : World) (h : XM w' (w.heap.size + 1) (xTypes 16 (xTypes 4 cur).2).2) => xtypes_calls h 8 (by omega))
          have H4 := hide (fun (w' : World) (h : XM w' (w.heap.size + 1) (xTypes 8 (xTypes 16 (xTypes 4 cur).2).2).2) => xcode_calls h)
          have H5 := hide (fun (w' : World) (h : XM w' (w.heap.size + 1) (xCode (xTypes 8 (xTypes 16 (xTypes 4 cur).2).2).2).2) => xtables_calls h)
          have HXA := hide (show xActor cur = (⟨(xTypes 4 cur).1, (xTypes 16 (xTypes 4 cur).2).1, (xTypes 8 (xTypes 16 (xTypes 4 cur).2).2).1, (xCode (xTypes 8 (xTypes 16 (xTypes 4 cur).2).2).2).1, (xTables (xCode (xTypes 8 (xTypes 16 (xTypes 4 cur).2).2).2).2).1⟩, (xTables (xCode (xTypes 8 (xTypes 16 (xTypes 4 cur).2).2).2).2).2) from rfl)
          clear hend
          generalize xTypes 4 cur = p1 at *
          obtain ⟨l1, s2⟩ := p1
          dsimp only at *
          generalize xTypes 16 s2 = p2 at *
          obtain ⟨l2, s3⟩ := p2
          dsimp only at *
          generalize xTypes 8 s3 = p3 at *
          obtain ⟨l3, s4⟩ := p3
          dsimp only at *
          generalize xCode s4 = p4 at *
          obtain ⟨l4, s5⟩ := p4
          dsimp only at *
          generalize xTables s5 = p5 at *
          obtain ⟨l5, s6⟩ := p5
          dsimp only at *
          have hbw : w.heap.size + 1 < wr.heap.size := by omega
          have za : (wr.alloc (.cells #[.slice none 0 0, .slice none 0 0, .slice none 0 0, .slice none 0 0, .slice none 0 0] 42)).heap.size = wr.heap.size + 1 := by simp
          have A0 : Hid (AB wr (w.heap.size + 1) (wr.alloc (.cells #[.slice none 0 0, .slice none 0 0, .slice none 0 0, .slice none 0 0, .slice none 0 0] 42)) #[.slice none 0 0, .slice none 0 0, .slice none 0 0, .slice none 0 0, .slice none 0 0] cur) :=
            hide ⟨unhide K0, (unhide HR).rd.fr qa (fun h => h), qa.mono (fun _ _ h => h.elim)⟩
          clear K0
          go_wp2_with fail
          refine (unhide H1).mono ?_
          rintro e w1 ⟨a1, n1, c1, rfl, hC1, hA1, hM1, hF1⟩
          have B1 := (unhide A0).call hbw hF1 hM1
          have d1 := cell_at B1.k 0
          have f1 := free_at B1.k 0
          simp at d1
          have A1 := hide (B1.store hbw 0 (.slice a1 n1 c1))
          have T1 := hide hA1
          have z1 := hF1.size
          have g1 := bt_store w1 (w.heap.size + 1) wr.heap.size 0 (.slice a1 n1 c1)
          have y1 := g1.size
          clear hA1 hM1 hF1 B1 A0 H1 qa
          go_wp2_with fail
          refine (unhide H2 _ (unhide A1).rd).mono ?_
          rintro e w2 ⟨a2, n2, c2, rfl, hC2, hA2, hM2, hF2⟩
          have B2 := (unhide A1).call hbw hF2 hM2
          have d2 := cell_at B2.k 1
          have f2 := free_at B2.k 1
          simp at d2
          have A2 := hide (B2.store hbw 1 (.slice a2 n2 c2))
          have T2 := hide hA2
          have z2 := hF2.size
          have g1b := bt_call g1 hF2
          have g2 := bt_store w2 (w.heap.size + 1) wr.heap.size 1 (.slice a2 n2 c2)
          have y2 := g2.size
          clear hA2 hM2 hF2 B2 A1 H2 g1 d1 f1
          go_wp2_with fail
          refine (unhide H3 _ (unhide A2).rd).mono ?_
          rintro e w3 ⟨a3, n3, c3, rfl, hC3, hA3, hM3, hF3⟩
          have B3 := (unhide A2).call hbw hF3 hM3
          have d3 := cell_at B3.k 2
          have f3 := free_at B3.k 2
          simp at d3
          have A3 := hide (B3.store hbw 2 (.slice a3 n3 c3))
          have T3 := hide hA3
          have z3 := hF3.size
          have g2b := bt_call g2 hF3
          have g3 := bt_store w3 (w.heap.size + 1) wr.heap.size 2 (.slice a3 n3 c3)
          have y3 := g3.size
          clear hA3 hM3 hF3 B3 A2 H3 g2 d2 f2
          go_wp2_with fail
          refine (unhide H4 _ (unhide A3).rd).mono ?_
          rintro e w4 ⟨a4, n4, c4, rfl, hA4, hM4, hF4⟩
          have B4 := (unhide A3).call hbw hF4 hM4
          have d4 := cell_at B4.k 3
          have f4 := free_at B4.k 3
          simp at d4
          have A4 := hide (B4.store hbw 3 (.slice a4 n4 c4))
          have T4 := hide hA4
          have z4 := hF4.size
          have g3b := bt_call g3 hF4
          have g4 := bt_store w4 (w.heap.size + 1) wr.heap.size 3 (.slice a4 n4 c4)
          have y4 := g4.size
          clear hA4 hM4 hF4 B4 A3 H4 g3 d3 f3
          go_wp2_with fail
          refine (unhide H5 _ (unhide A4).rd).mono ?_
          rintro e w5 ⟨a5, n5, c5, rfl, hA5, hM5, hF5⟩
          have B5 := (unhide A4).call hbw hF5 hM5
          have d5 := cell_at B5.k 4
          have f5 := free_at B5.k 4
          simp at d5
          have A5 := hide (B5.store hbw 4 (.slice a5 n5 c5))
          have T5 := hide hA5
          have z5 := hF5.size
          have g4b := bt_call g4 hF5
          have g5 := bt_store w5 (w.heap.size + 1) wr.heap.size 4 (.slice a5 n5 c5)
          have y5 := g5.size
          clear hA5 hM5 hF5 B5 A4 H5 g4 d4 f4
          have m5 := cell_at ((unhide A5).fr.blk (unhide HR).m (by omega)) 0
          have d60 := cell_at (unhide A5).k 0
          have d61 := cell_at (unhide A5).k 1
          have d62 := cell_at (unhide A5).k 2
          have d63 := cell_at (unhide A5).k 3
          have d64 := cell_at (unhide A5).k 4
          simp at m5 d60 d61 d62 d63 d64
          have H5 := unhide A5
          have fW := H5.fr.alloc (.cells #[.slice a1 n1 c1, .slice a2 n2 c2, .slice a3 n3 c3, .slice a4 n4 c4, .slice a5 n5 c5] 42)
          have g5W := g5.alloc (.cells #[.slice a1 n1 c1, .slice a2 n2 c2, .slice a3 n3 c3, .slice a4 n4 c4, .slice a5 n5 c5] 42)
          have zW := g5W.size
          have g4W := bt_then g4b g5W
          have g3W := bt_then g3b g4W
          have g2W := bt_then g2b g3W
          have g1W := bt_then g1b g2W
          have hMW := H5.rd.fr ((Fr.refl (fun _ => False) (w5.setCell ⟨wr.heap.size, 4, none⟩ (.slice a5 n5 c5))).alloc (.cells #[.slice a1 n1 c1, .slice a2 n2 c2, .slice a3 n3 c3, .slice a4 n4 c4, .slice a5 n5 c5] 42)) (fun h => h)
          have hOW : World.ownsRow _ 0 42 5 (.slice av pre.length cv) pre.length cells := owns_fr (unhide HR).own fW (fun g hg e => by have := (unhide HR).lo g hg; omega)
          have hmW := fW.blk (unhide HR).m (by omega)
          have hzW : ((w5.setCell ⟨wr.heap.size, 4, none⟩ (.slice a5 n5 c5)).alloc (.cells #[.slice a1 n1 c1, .slice a2 n2 c2, .slice a3 n3 c3, .slice a4 n4 c4, .slice a5 n5 c5] 42)).heap.size = w5.heap.size + 1 := by simp [World.setCell]
          have hX : AcV (wr.heap.size + 1) ((w5.setCell ⟨wr.heap.size, 4, none⟩ (.slice a5 n5 c5)).alloc (.cells #[.slice a1 n1 c1, .slice a2 n2 c2, .slice a3 n3 c3, .slice a4 n4 c4, .slice a5 n5 c5] 42)).heap.size ((w5.setCell ⟨wr.heap.size, 4, none⟩ (.slice a5 n5 c5)).alloc (.cells #[.slice a1 n1 c1, .slice a2 n2 c2, .slice a3 n3 c3, .slice a4 n4 c4, .slice a5 n5 c5] 42))
              [.slice a1 n1 c1, .slice a2 n2 c2, .slice a3 n3 c3, .slice a4 n4 c4, .slice a5 n5 c5] ⟨l1, l2, l3, l4, l5⟩ := by
            refine ⟨fun i => match i with | 0 => (a1, n1, c1) | 1 => (a2, n2, c2) | 2 => (a3, n3, c3) | 3 => (a4, n4, c4) | 4 => (a5, n5, c5), rfl, ?_, ?_, ?_, ?_, ?_, hC2⟩
            · exact TyA.wide (TyA.fr (unhide T1) g1W (fun k hk => by omega)) (by omega) (by omega)
            · exact TyA.wide (TyA.fr (unhide T2) g2W (fun k hk => by omega)) (by omega) (by omega)
            · exact TyA.wide (TyA.fr (unhide T3) g3W (fun k hk => by omega)) (by omega) (by omega)
            · exact PrA.wide (PrA.fr (unhide T4) g4W (fun k hk => by omega)) (by omega) (by omega)
            · exact TbA.wide (TbA.fr (unhide T5) g5W (fun k hk => by omega)) (by omega) (by omega)
          have HOW := hide hOW
          have HX := hide hX
          have HMW := hide hMW
          have FW := hide fW
          have MW := hide hmW
          clear hOW hX hMW fW hmW H5 g5W g4W g3W g2W g1W g1b g2b g3b g4b g5 T1 T2 T3 T4 T5
          go_wp2_with (at_builtin; refine wpList_append_info _ rfl _ _ 22 rfl 42 (.agg #[.slice none 0 0, .slice none 0 0, .slice none 0 0, .slice none 0 0, .slice none 0 0]) 5 120 Try.underlying22 infoAc rfl (by decide) (.slice av pre.length cv) _ _ rfl (unhide HOW) ⟨w5.heap.size, 0, none⟩ 1 1 [.slice a1 n1 c1, .slice a2 n2 c2, .slice a3 n3 c3, .slice a4 n4 c4, .slice a5 n5 c5] rfl rfl ?c1 (five_one rfl rfl rfl rfl rfl) ?c3 ?c4 ?_)
          case c1 =>
            have := five_c1 (w5.setCell ⟨wr.heap.size, 4, none⟩ (.slice a5 n5 c5)) (.slice a1 n1 c1) (.slice a2 n2 c2) (.slice a3 n3 c3) (.slice a4 n4 c4) (.slice a5 n5 c5) 42
            simpa [World.setCell] using this
          case c3 => unfold maxLen; omega
          case c4 => omega
          intro v' w' ho hgr ha
          have RM := hide (RL.more (unhide HR) (by omega) (by omega) (Nat.le_refl _) (by omega) (unhide FW) (unhide HX) rfl (unhide HMW) hE0 (unhide HXA) ho hgr (by rcases ha with e | e; exact .inl e; exact .inr (by rw [e]; simp [World.setCell])))
          have mm := (frGrown hgr).blk (unhide MW) (fun e => by have := (unhide HR).lo _ e.symm; omega)
          have mm0 := cell_at mm 0
          have mm1 := free_at mm 0
          simp at mm0
          obtain ⟨a', c', rfl⟩ := slice_of ho
          clear ho hgr ha mm
          go_wp2
          go_roundw
          case rel => exact ⟨j, pre ++ [⟨l1, l2, l3, l4, l5⟩], _, s6, _, by go_num, unhide RM⟩
          case measure => simp [intOf]

end Go.Proofs.Ytkcljnfalimlgaa
