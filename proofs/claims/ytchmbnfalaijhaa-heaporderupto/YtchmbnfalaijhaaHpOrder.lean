/-
  HeapOrder walked.
-/
import Derived.Test.YtchmbnfalaijhaaHpModel
import Derived.Laws.MakeOwn
import Derived.Laws.OwnMore
namespace Go.Proofs.Ytchmbnfalaijhaa
open Go.RowKit
set_option linter.unusedVariables false
set_option maxRecDepth 100000

/-- 'make([]T, n)', T of one cell: a new block of n zero values. -/
theorem wpList_make_val {P : Program} (w : World) {ops : Array Oper} {rest : List Oper} {o : Oper} {a : Act} {Q : Exit → Act → World → Prop}
    (hg : o.guard = none) (l c : Operand) (t : TypeId) (hop : o.op = Op.makeSlice t l c)
    (e : TypeId) (z : Value) (bytes : Nat) (h1 : P.underlying t = some (.slice e)) (hin : (P.info? e).map (fun i => (i.zero, i.size, i.bytes)) = some (some z, 1, bytes)) (hz : z.cells = #[z])
    (kl kc : IntKind) (n : Nat) (m m' : Int) (hl : a.eval l = .int kl m) (hc : a.eval c = .int kc m') (hm : m = n) (hm' : m' = n) (b2 : bytes * n ≤ 281474976710656) (b3 : n ≤ maxLen)
    (hK : wpList P ops Q rest (a.put o.dst (.slice (some ⟨w.heap.size, 0, none⟩) n n)) (w.alloc (.cells (Array.replicate n z) e))) :
    wpList P ops Q (o :: rest) a w := by
  subst hm hm'
  obtain ⟨i, h2, h3, h4, h5⟩ := info_parts hin
  refine wpList_plain hg fun K hK' => ?_
  have h63 : (n : Int) ≤ 9223372036854775807 := by simp only [maxLen] at b3; omega
  have hb : (i.bytes : Int) * (n : Int) ≤ 281474976710656 := by
    rw [h5]
    have h : ((bytes * n : Nat) : Int) ≤ 281474976710656 := by omega
    rwa [Int.natCast_mul] at h
  have hr := run_make (P := P) w t e i z h1 h2 h3 kl kc n n (by omega) (Int.le_refl _) hb h63
  simp only [Int.toNat_natCast, h4, Nat.mul_one, hz] at hr
  have he : madeCells #[z] n = Array.replicate n z := by
    apply Array.toList_inj.1
    rw [toList_madeCells_one, Array.toList_replicate]
  rw [he] at hr
  unfold Oper.wp
  simp [execOp, hop, hl, hc, hr, Result.andThen]
  exact hK' _ _ hK

theorem infoBool : (Try.prog.info? 4).map (fun i => (i.zero, i.size, i.bytes)) = some (some (.bool false), 1, 1) := by kernel_rfl

/-- each thing is its ticket's number, with the tick of its place in the row -/
structure OrI (l : List Int) (M : List (En Int)) (m : Nat) : Prop where
  tk : Tk M m
  eq : ∀ e ∈ M, ∃ i : Nat, e.k = (i : Int) + 1 ∧ l[i]? = some e.t ∧ e.x = e.k

theorem OrI.put {l : List Int} {M : List (En Int)} {m : Nat} (h : OrI l M m) {t : Int} (ht : l[m]? = some t) : OrI l (M ++ [⟨t, (m : Int) + 1, (m : Int) + 1⟩]) (m + 1) :=
  ⟨h.tk.put t _, fun e he => by
    rcases List.mem_append.1 he with he | he
    · exact h.eq e he
    · simp at he; subst he; exact ⟨m, rfl, ht, rfl⟩⟩

theorem OrI.del {l : List Int} {M : List (En Int)} {m : Nat} (h : OrI l M m) (k : Int) : OrI l (del M k) m := ⟨h.tk.del k, fun e he => h.eq e (List.mem_filter.1 he).1⟩

theorem hasK_del {X : Type} {M : List (En X)} {k j : Int} (h : j ≠ k) : hasK (del M k) j = hasK M j := by
  rw [Bool.eq_iff_iff, hasK_iff, hasK_iff]
  constructor
  · rintro ⟨e, he, hk⟩; exact ⟨e, (List.mem_filter.1 he).1, hk⟩
  · rintro ⟨e, he, hk⟩; exact ⟨e, List.mem_filter.2 ⟨he, by simp only [decide_eq_true_eq]; omega⟩, hk⟩

theorem hasK_put {X : Type} (M : List (En X)) (e : En X) (j : Int) : hasK (M ++ [e]) j = (hasK M j || decide (e.k = j)) := by
  unfold hasK; rw [List.any_append]; simp

/-- which have gone -/
def OutOk (cs : Array Value) (n : Nat) (M : List (En Int)) : Prop := cs.size = n + 1 ∧ ∀ k : Nat, 1 ≤ k → k ≤ n → cs[k]? = some (.bool (!hasK M (k : Int)))

theorem OutOk.cut {cs : Array Value} {n : Nat} {M : List (En Int)} (h : OutOk cs n M) {k : Nat} (h1 : 1 ≤ k) (h2 : k ≤ n) : OutOk (cs.setIfInBounds k (.bool true)) n (del M (k : Int)) := by
  obtain ⟨a, b⟩ := h
  refine ⟨by simpa using a, fun j j1 j2 => ?_⟩
  rw [Array.getElem?_setIfInBounds]
  by_cases e : k = j
  · subst e
    rw [if_pos rfl, if_pos (by omega), Tk.gone]; rfl
  · rw [if_neg e, hasK_del (by omega)]
    exact b j j1 j2

def OrA (l : List Int) (w0 : World) (b k : Nat) (w : World) : Prop := ∃ M, Hp w w0.heap.size b k M ∧ OrI l M k ∧ M.length = k ∧ (∀ j : Nat, 1 ≤ j → j ≤ k → hasK M (j : Int) = true) ∧ FrL w0.heap.size w0 w
def OrB (l : List Int) (w0 : World) (b q n L : Nat) (w : World) : Prop := ∃ M cs, Hp w w0.heap.size b n M ∧ OrI l M n ∧ M.length = L ∧ w.heap[q]? = some (.cells cs 4 (0, 0)) ∧ OutOk cs n M ∧ FrL w0.heap.size w0 w
def OrC (l : List Int) (w0 : World) (b q n L : Nat) (t x : Int) (w : World) : Prop := ∃ M cs, Hp w w0.heap.size b n M ∧ OrI l M n ∧ M.length = L ∧ w.heap[q]? = some (.cells cs 4 (0, 0)) ∧ OutOk cs n M ∧ FrL w0.heap.size w0 w ∧ ∀ e ∈ M, lt3 (⟨t, x, 0⟩ : En Int) e

theorem nohkB {w : World} {lo q : Nat} {cs : Array Value} (h : w.heap[q]? = some (.cells cs 4 (0, 0))) : ¬ (lo ≤ q ∧ HK w q) := by
  rintro ⟨_, h1⟩
  rcases h1 with ⟨es, c, h1⟩ | ⟨cs', h1⟩ | ⟨cs', h1⟩ <;> (rw [h] at h1; simp at h1)

theorem Arr.numb {hi : Nat} {w : World} {a : Option Addr} {n : Nat} {l : List Int} (h : NA hi w a n l) {i : Nat} (hi' : i < n) :
    ∃ b off x, a = some ⟨b, off, none⟩ ∧ b < hi ∧ l[i]? = some x ∧ w.cell? ⟨b, off + i, none⟩ = some (.int .i64 x) ∧ I64 x := by
  obtain ⟨b, off, x, vs, h1, h2, h3, h4, rfl, h5⟩ := h.at hi'
  have := h4 0 _ rfl
  simp at this
  exact ⟨b, off, x, h1, h2, h3, this, h5⟩

theorem out_start {M : List (En Int)} {n : Nat} (h : ∀ j : Nat, 1 ≤ j → j ≤ n → hasK M (j : Int) = true) : OutOk (Array.replicate (n + 1) (Value.bool false)) n M := by
  refine ⟨by simp, fun k h1 h2 => ?_⟩
  rw [h k h1 h2, Array.getElem?_replicate, if_pos (by omega)]
  rfl

/-- a heap stands where no block of a heap's has turned -/
theorem Hp.frK {P : Nat → Prop} {w w' : World} {lo b n : Nat} {M : List (En Int)} (h : Hp w lo b n M) (hf : Fr P w w') (hP : ∀ k, HK w k → ¬ P k) : Hp w' lo b n M := by
  obtain ⟨⟨g, bm, h1, h2, h3⟩, h4⟩ := h
  exact ⟨⟨g, bm, h1.fr hf (hP _ (h1.hk (.inl rfl))) (hP _ (h1.hk (.inr (.inl rfl)))) (hP _ (h1.hk (.inr (.inr rfl)))), h2, h3⟩, h4⟩

theorem set_q {w0 w : World} {b q n : Nat} {M : List (En Int)} {cs : Array Value} (hH : Hp w w0.heap.size b n M) (hq : w.heap[q]? = some (.cells cs 4 (0, 0))) (hq0 : w0.heap.size ≤ q) (hF : FrL w0.heap.size w0 w) (k : Nat) (u : Value) :
    Hp (w.setCell ⟨q, k, none⟩ u) w0.heap.size b n M ∧ (w.setCell ⟨q, k, none⟩ u).heap[q]? = some (.cells (cs.setIfInBounds k u) 4 (0, 0)) ∧ FrL w0.heap.size w0 (w.setCell ⟨q, k, none⟩ u) := by
  refine ⟨hH.frK (Fr.set1 w q k u) (fun j hj e => nohkB (lo := 0) hq ⟨Nat.zero_le _, e ▸ hj⟩), blk_setCell hq, hF.setAt q k u (.inr hq0)⟩

theorem nextC {M : List (En Int)} {e : En Int} (he : Le M e) : ∀ d ∈ del M e.k, lt3 (⟨e.t, e.k, 0⟩ : En Int) d := by
  intro d hd
  unfold del at hd
  rw [List.mem_filter] at hd
  have h1 := he.2 d hd.1
  have h2 : d.k ≠ e.k := by simpa using hd.2
  unfold lt3 at *
  dsimp only
  omega

set_option maxHeartbeats 8000000 in
theorem order_law {w : World} {a a2 : Option Addr} {n c n2 c2 : Nat} {l l2 : List Int} (A : NA w.heap.size w a n l) (B : NA w.heap.size w a2 n2 l2) (hn : n ≤ 1048576) (hn2 : n2 ≤ 1048576) :
    Calls Try.prog 5 #[.slice a n c, .slice a2 n2 c2] w fun e w' => e = .returned (.bool true) ∧ Fr (fun _ => False) w w' := by
  go_enter Try.func5, Try.ntmps5
  go_wp2_with fail
  refine (lives_calls _).mono ?_
  rintro e w1 ⟨rfl, hF1⟩
  go_wp2_with fail
  refine (gnew _).mono ?_
  rintro e w2 ⟨rfl, hH2, hF2⟩
  have hs1 := hF1.size
  have h0 : OrA l w w1.heap.size 0 w2 := ⟨[], hH2.lower hs1, ⟨Tk.nil, fun e he => by cases he⟩, rfl, fun j j1 j2 => by omega, (hF1.trans hF2 (fun _ _ h => h.elim) (fun _ _ h => h.elim))⟩
  generalize w1.heap.size = b at *
  clear hH2 hF2 hF1 hs1
  go_wp2_with fail
  go_loopw [6] (fun i wr => ∃ (k : Nat), i = .int .i64 k ∧ k ≤ n ∧ OrA l w b k wr) (fun i _ => n - (intOf i).toNat)
  case atStart => exact ⟨0, rfl, by omega, h0⟩
  case round =>
    obtain ⟨k, rfl, hk, M, hH, hT, hlen, hall, hF⟩ := hrel
    clear h0
    have hsz := hF.size
    by_cases hlt : k < n
    · have hlt' : (k : Int) < (n : Int) := by omega
      obtain ⟨bb, off, x, rfl, hbb, hls, hx⟩ := (A.fr hF (fun _ h => h)).num hlt
      have HPU := hide (gput hH hsz (by omega) x ((k : Int) + 1))
      have hT2 := hT.put hls
      clear A B
      go_wp2_with (go_at_call 25; refine (unhide HPU).mono ?_; rintro e w4 ⟨rfl, hH4, hF4⟩)
      exact ⟨⟨k + 1, by go_num, by omega, _, hH4, hT2, by simp; omega, fun j j1 j2 => by
        rw [hasK_put]
        by_cases e : j ≤ k
        · rw [hall j j1 e]; rfl
        · have : ((k : Int) + 1 = (j : Int)) := by omega
          simp [this], hF.trans hF4.l (fun _ _ h => h) (fun _ _ h => h)⟩, by simp [intOf]; omega⟩
    · have hlt' : ¬ (k : Int) < (n : Int) := by omega
      obtain rfl : k = n := by omega
      go_wp2_with (at_make; refine wpList_make_val _ rfl _ _ 62 rfl 4 (.bool false) 1 Try.underlying62 infoBool rfl _ _ (k + 1) _ _ rfl rfl (by omega) (by omega) (by omega) (by unfold maxLen; omega) ?_)
      have hq := blk_new wr (.cells (Array.replicate (k + 1) (Value.bool false)) 4)
      have hF3 : Fr (fun _ => False) wr (wr.alloc (.cells (Array.replicate (k + 1) (Value.bool false)) 4)) := (Fr.refl _ wr).alloc _
      have h1 : OrB l w b wr.heap.size k k (wr.alloc (.cells (Array.replicate (k + 1) (Value.bool false)) 4)) := ⟨M, _, hH.up hF3, hT, hlen, hq, out_start hall, hF.trans hF3 (fun _ _ h => h) (fun _ _ h => h.elim)⟩
      generalize wr.alloc (.cells (Array.replicate (k + 1) (Value.bool false)) 4) = wa at *
      have hq0 : w.heap.size ≤ wr.heap.size := hsz
      generalize wr.heap.size = q at *
      clear hH hT hlen hall hF hsz hq hF3
      go_loopw [8, 9] (fun v i ws => ∃ (L j : Nat), v = .int .i64 L ∧ i = .int .i64 j ∧ j ≤ n2 ∧ L ≤ k ∧ OrB l w b q k L ws) (fun _ i _ => n2 - (intOf i).toNat)
      case atStart => exact ⟨k, 0, rfl, rfl, by omega, by omega, h1⟩
      case round =>
        obtain ⟨L, j, rfl, rfl, hj, hLk, M, cs, hH, hT, hlen, hq, hO, hF⟩ := hrel
        clear h1
        have hsz := hF.size
        by_cases hjl : j < n2
        · have hjl' : (j : Int) < (n2 : Int) := by omega
          obtain ⟨bb, off, x, rfl, hbb, hls, hx, hx64⟩ := (B.fr hF (fun _ h => h)).numb hjl
          have HCA := gcancel hH x hx64
          by_cases hx1 : 1 ≤ x ∧ x ≤ (k : Int)
          · obtain ⟨x1, x2⟩ := hx1
            obtain ⟨kx, rfl⟩ : ∃ kx : Nat, x = (kx : Int) := ⟨x.toNat, by omega⟩
            have hcell := hO.2 kx (by omega) (by omega)
            have hOc := hO.cut (k := kx) (by omega) (by omega)
            have hq1 := cell_at hq kx
            rw [hcell] at hq1
            have hgx : (kx : Int) ≥ 1 := x1
            cases hhk : hasK M (kx : Int)
            · rw [hhk] at HCA hq1
              simp only [Bool.not_false] at hq1
              have HC := hide HCA
              have hdn := del_of_not hhk
              clear HCA hx64
              go_wp2_with (go_at_call 27; refine (unhide HC).mono ?_; rintro e w4 ⟨rfl, hH4, hF4⟩)
              rw [hdn] at hH4
              exact ⟨⟨L, j + 1, rfl, by go_num, by omega, hLk, M, cs, hH4, hT, hlen, hF4.blk hq (nohkB hq), hO, hF.trans hF4.l (fun _ _ h => h) (fun _ _ h => h)⟩, by simp [intOf]; omega⟩
            · rw [hhk] at HCA hq1
              simp only [Bool.not_true] at hq1
              have HC := hide HCA
              have hdl := Tk.delLen hT.tk.rise _ hhk
              have HQ := hide (fun (w' : World) (hf : FrH w.heap.size wr w') => hf.blk hq (nohkB hq))
              have hin : (kx : Int) < (k : Int) + 1 := by omega
              clear HCA hx64
              go_wp2_with (go_at_call 27; refine (unhide HC).mono ?_; rintro e w4 ⟨rfl, hH4, hF4⟩; have hq4 := unhide HQ _ hF4; have hq5 := cell_at hq4 kx; rw [hcell] at hq5; have hq6 := free_at hq4 kx)
              obtain ⟨r1, r2, r3⟩ := set_q (w0 := w) hH4 hq4 hq0 (hF.trans hF4.l (fun _ _ h => h) (fun _ _ h => h)) kx (.bool true)
              exact ⟨⟨L - 1, j + 1, by go_num, by go_num, by omega, by omega, _, _, r1, hT.del _, by omega, r2, hOc, r3⟩, by simp [intOf]; omega⟩
          · have hhk : hasK M x = false := by
              cases hq2 : hasK M x
              · rfl
              · obtain ⟨e, he, hk⟩ := (hasK_iff M x).1 hq2
                have := hT.tk.bd e he
                omega
            rw [hhk] at HCA
            have HC := hide HCA
            have hdn := del_of_not hhk
            clear HCA hx64
            by_cases hx2 : 1 ≤ x
            · have hx3 : ¬ x ≤ (k : Int) := by omega
              have hgx : x ≥ 1 := hx2
              clear hx1
              go_wp2_with (go_at_call 27; refine (unhide HC).mono ?_; rintro e w4 ⟨rfl, hH4, hF4⟩)
              rw [hdn] at hH4
              exact ⟨⟨L, j + 1, rfl, by go_num, by omega, hLk, M, cs, hH4, hT, hlen, hF4.blk hq (nohkB hq), hO, hF.trans hF4.l (fun _ _ h => h) (fun _ _ h => h)⟩, by simp [intOf]; omega⟩
            · have hgx : ¬ x ≥ 1 := hx2
              clear hx1
              go_wp2_with (go_at_call 27; refine (unhide HC).mono ?_; rintro e w4 ⟨rfl, hH4, hF4⟩)
              rw [hdn] at hH4
              exact ⟨⟨L, j + 1, rfl, by go_num, by omega, hLk, M, cs, hH4, hT, hlen, hF4.blk hq (nohkB hq), hO, hF.trans hF4.l (fun _ _ h => h) (fun _ _ h => h)⟩, by simp [intOf]; omega⟩
        · have hjl' : ¬ (j : Int) < (n2 : Int) := by omega
          have h2 : OrC l w b q k L (-9223372036854775808) 0 wr := ⟨M, cs, hH, hT, hlen, hq, hO, hF, fun e he => by
            obtain ⟨i, hi, hli, _⟩ := hT.eq e he
            have hil := (List.getElem?_eq_some_iff.1 hli).1
            have hAl := A.len
            obtain ⟨_, _, x, _, _, hx, _, hx64⟩ := A.numb (i := i) (by omega)
            rw [hli] at hx
            cases hx
            have := hx64.1
            unfold lt3
            dsimp only
            omega⟩
          clear hH hT hlen hq hO hF hsz
          go_wp2_with fail
          go_loopw [8, 12, 13] (fun v t x ws => ∃ (L : Nat) (t' x' : Int), v = .int .i64 L ∧ t = .int .i64 t' ∧ x = .int .i64 x' ∧ L ≤ k ∧ OrC l w b q k L t' x' ws) (fun v _ _ _ => (intOf v).toNat)
          case atStart => exact ⟨L, _, _, rfl, rfl, rfl, hLk, h2⟩
          case round =>
            clear h2
            obtain ⟨L, t, x, rfl, rfl, rfl, hLk, M, cs, hH, hT, hlen, hq, hO, hF, hlast⟩ := hrel
            have hsz := hF.size
            by_cases hM0 : M = []
            · subst hM0
              have HP := hide (gpop_none hH 9223372036854775807)
              have HL := hide (glen hH)
              obtain rfl : L = 0 := by simpa using hlen.symm
              clear hO hlast hlen
              go_wp2_with (first
                | (go_at_call 29; refine (unhide HP).mono ?_; rintro e w4 ⟨rfl, rfl⟩)
                | (go_at_call 33; refine (unhide HL).mono ?_; rintro e w4 ⟨rfl, rfl⟩))
              go_ret
              exact ⟨by simp, hF.mono (fun i hi h => by omega)⟩
            · obtain ⟨e, he⟩ := le_ex M hM0
              obtain ⟨i, hi, hli, hx⟩ := hT.eq e he.1
              have hbd := hT.tk.bd e he.1
              have hil : i < k := by omega
              obtain ⟨bb, off, y, rfl, hbb, hls, hy, hy64⟩ := (A.fr hF (fun _ h => h)).numb hil
              rw [hli] at hls
              cases hls
              have HPO := gpop_yes hH e he 9223372036854775807 hy64.2
              have hhk : hasK M e.k = true := (hasK_iff _ _).2 ⟨e, he.1, rfl⟩
              have hdl := Tk.delLen hT.tk.rise _ hhk
              have hlt := hlast e he.1
              have hnext := nextC he
              rw [hx] at HPO
              have hT2 := hT.del e.k
              have hcell := hO.2 (i + 1) (by omega) (by omega)
              have hOc := hO.cut (k := i + 1) (by omega) (by omega)
              rw [show ((i + 1 : Nat) : Int) = e.k by omega] at hcell hOc
              rw [hhk] at hcell
              simp only [Bool.not_true] at hcell
              have hlt2 : t < e.t ∨ t = e.t ∧ x < e.k := hlt
              rw [hi] at HPO hOc hT2 hnext hdl hlt2
              have HP := hide HPO
              have HQ := hide (fun (w' : World) (hf : FrH w.heap.size wr w') => hf.blk hq (nohkB hq))
              have HY := hide (fun (w' : World) (hf : FrH w.heap.size wr w') => cell_fr hf (show ¬ (w.heap.size ≤ bb ∧ HK wr bb) from fun h => by omega) hy)
              have hin : (i : Int) + 1 < (k : Int) + 1 := by omega
              have hin2 : (i : Int) < (k : Int) := by omega
              have hk1 : ¬ (i : Int) + 1 < 1 := by omega
              have hk2 : ¬ (i : Int) + 1 > (k : Int) := by omega
              have hk3 : ¬ e.t < t := by omega
              have HI := hide hi
              clear HPO hi hx hbd hhk hli hlt hlast hM0 hy hH hT A B
              rcases hlt2 with h3 | ⟨h3, h4⟩
              · have hk4 : (e.t == t) = false := by simp; omega
                go_wp2_with (go_at_call 29; refine (unhide HP).mono ?_; rintro e' w4 ⟨rfl, hH4, hF4⟩; have hq4 := unhide HQ _ hF4; have hq5 := cell_at hq4 (i + 1); rw [hcell] at hq5; have hq6 := free_at hq4 (i + 1); have hy4 := unhide HY _ hF4)
                obtain ⟨r1, r2, r3⟩ := set_q (w0 := w) hH4 hq4 hq0 (hF.trans hF4.l (fun _ _ h => h) (fun _ _ h => h)) (i + 1) (.bool true)
                exact ⟨⟨L - 1, e.t, (i : Int) + 1, by go_num, rfl, rfl, by omega, _, _, r1, hT2, by omega, r2, hOc, r3, hnext⟩, by simp [intOf]; omega⟩
              · have hk4 : ¬ (i : Int) + 1 ≤ x := by omega
                subst h3
                go_wp2_with (go_at_call 29; refine (unhide HP).mono ?_; rintro e' w4 ⟨rfl, hH4, hF4⟩; have hq4 := unhide HQ _ hF4; have hq5 := cell_at hq4 (i + 1); rw [hcell] at hq5; have hq6 := free_at hq4 (i + 1); have hy4 := unhide HY _ hF4)
                obtain ⟨r1, r2, r3⟩ := set_q (w0 := w) hH4 hq4 hq0 (hF.trans hF4.l (fun _ _ h => h) (fun _ _ h => h)) (i + 1) (.bool true)
                exact ⟨⟨L - 1, e.t, (i : Int) + 1, by go_num, rfl, rfl, by omega, _, _, r1, hT2, by omega, r2, hOc, r3, hnext⟩, by simp [intOf]; omega⟩

end Go.Proofs.Ytchmbnfalaijhaa
