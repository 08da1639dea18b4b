/-
  How a module that came in is read, with what the reach says of its lists.
-/
import Derived.Test.YthdpgachdegcgaaMoFrame
namespace Go.Proofs.Ythdpgachdegcgaa
open Go.ChangeShapes Go.WideShapes Go.ChangeAt Go.RowKit Go.Deep
set_option linter.unusedVariables false
set_option maxRecDepth 100000

theorem bytesIns : Try.prog.bytesOf 37 = 16 := by kernel_rfl
theorem bytesAc : Try.prog.bytesOf 42 = 120 := by kernel_rfl

theorem weightsAll_mem {H : Type} {P : Program} {e : TypeId} : ∀ {l : List (DataW H)} {d : DataW H}, d ∈ l → ∀ n ∈ d.weights P e, n ∈ DataW.weightsAll P e l
  | d' :: r, d, hd, n, hn => by
    rw [DataW.weightsAll]
    rcases List.mem_cons.1 hd with rfl | h
    · exact List.mem_append.2 (.inl hn)
    · exact List.mem_append.2 (.inr (weightsAll_mem h n hn))

section
variable {H : Type} {enc : TypeId × Value → H} {W : World} {sp : Nat → Bool} {held : Bool}

theorem slice_len {t e : TypeId} (ht : Try.prog.underlying t = some (.slice e)) {fuel : Nat} {cs : List Value} {x : DataW H × List MemPlace} (h : DataW.trod enc Try.prog W 0 sp held fuel t cs = some x) :
    ∃ a n c, cs = [.slice a n c] ∧ ((x.1 = .nil ∧ n = 0) ∨ ∃ el r, x.1 = .slice el r ∧ el.length = n) := by
  rcases open_slice ht h with ⟨hcs, hx⟩ | ⟨ad, len, cap, m, n, D, Pl, hcs, hb, hl, hm, hmm, hx, hel⟩
  · exact ⟨none, 0, 0, hcs, .inl ⟨by rw [hx], rfl⟩⟩
  · exact ⟨some ad, len, cap, hcs, .inr ⟨_, _, by rw [hx], by simp⟩⟩

/-- with something that is known of the elements' data -/
theorem arr_w {α : Type} [Inhabited α] {PV : World → List Value → α → Prop} {sz : Nat} {t e : TypeId} (Q : DataW H → Prop) (ht : Try.prog.underlying t = some (.slice e)) (hc : Try.prog.cellsOf e = sz) (hpos : 0 < sz)
    (each : ∀ fuel cs x, DataW.trod enc Try.prog W 0 sp held fuel e cs = some x → cs.length = sz → Q x.1 → ∃ y : α, PV W cs y) {fuel : Nat} {cs : List Value} {x : DataW H × List MemPlace}
    (h : DataW.trod enc Try.prog W 0 sp held fuel t cs = some x) (hQ : ∀ el r, x.1 = .slice el r → ∀ d ∈ el, Q d) : ∃ a n c l, cs = [.slice a n c] ∧ Arr PV sz 0 W.heap.size W a n l := by
  rcases open_slice ht h with ⟨hcs, _⟩ | ⟨ad, len, cap, m, n, D, Pl, hcs, hb, hl, hm, hmm, hx, hel⟩
  · exact ⟨none, 0, 0, [], hcs, Arr.nil _ _ _ _ _ _⟩
  · have hlm : len ≤ m := by rw [hmm]; split <;> omega
    unfold maxLen at hm
    have hQ' : ∀ i, i < len → Q (D i) := fun i hi => hQ _ _ (by rw [hx]) _ (List.mem_map.2 ⟨i, List.mem_range.2 hi, rfl⟩)
    refine ⟨some ad, len, cap, ?_⟩
    have each' : ∀ i, i < len → ∃ y : α, ∃ cs', (∀ j v, cs'[j]? = some v → W.cell? (ad.add (i * sz + j)) = some v) ∧ cs'.length = sz ∧ PV W cs' y := by
      intro i hi
      obtain ⟨cs', h1, h2⟩ := hel i (by omega)
      rw [hc] at h1
      obtain ⟨_, hlen, hcell⟩ := World.cells?_some h1
      obtain ⟨y, hy⟩ := each _ _ _ h2 hlen (hQ' i hi)
      refine ⟨y, cs', fun j v hj => ?_, hlen, hy⟩
      have hjl := (List.getElem?_eq_some_iff.1 hj).1
      have := hcell j (by omega)
      rw [Addr.add_add] at this
      rw [this]; exact hj
    obtain ⟨Y, hY⟩ := choose_lt each'
    refine ⟨(List.range len).map Y, hcs, by simp, by omega, ?_⟩
    by_cases h0 : len = 0
    · exact .inl h0
    · right
      obtain ⟨cs0, g1, g2, _⟩ := hY 0 (by omega)
      obtain ⟨b, off, spot⟩ := ad
      have hc0 := g1 0 (cs0[0]'(by omega)) (List.getElem?_eq_getElem (by omega))
      have hspot : spot = none := by simpa [Addr.add] using World.cell?_spot hc0
      subst hspot
      have ea : ∀ j, (⟨b, off, none⟩ : Addr).add j = ⟨b, off + j, none⟩ := fun j => by unfold Addr.add; split <;> simp_all
      refine ⟨b, off, rfl, Nat.zero_le _, World.block_lt_of_cell? W _ (by rw [ea] at hc0; exact hc0), fun i y hy => ?_⟩
      have hi : i < len := by have := (List.getElem?_eq_some_iff.1 hy).1; simpa using this
      rw [List.getElem?_map, List.getElem?_range hi] at hy
      simp only [Option.map_some, Option.some.injEq] at hy
      subst hy
      obtain ⟨cs', g1, g2, g3⟩ := hY i hi
      exact ⟨cs', fun j v hj => by have := g1 j v hj; rw [ea, ← Nat.add_assoc] at this; exact this, g3⟩
end

theorem Arr.part {α : Type} {PV PV' : World → List Value → α → Prop} {sz lo hi : Nat} {w : World} {a : Option Addr} {n : Nat} {l : List α} (h : Arr PV sz lo hi w a n l) (hP : ∀ vs x, PV w vs x → PV' w vs x) : Arr PV' sz lo hi w a n l := by
  refine ⟨h.len, h.small, ?_⟩
  rcases h.at' with h0 | ⟨b, off, rfl, h1, h2, hc⟩
  · exact .inl h0
  · refine .inr ⟨b, off, rfl, h1, h2, fun i x hx => ?_⟩
    obtain ⟨vs, g1, g2⟩ := hc i x hx
    exact ⟨vs, g1, hP vs x g2⟩

theorem Arr.all {α : Type} {PV : World → List Value → α → Prop} {sz lo hi : Nat} {w : World} {a : Option Addr} {n : Nat} {l : List α} (h : Arr PV sz lo hi w a n l) {p : α → Prop} (hP : ∀ vs x, PV w vs x → p x) : ∀ x ∈ l, p x := by
  intro x hx
  obtain ⟨i, hi, rfl⟩ := List.getElem_of_mem hx
  have hl := h.len
  rcases h.at' with h0 | ⟨b, off, rfl, h1, h2, hc⟩
  · omega
  · obtain ⟨vs, _, g2⟩ := hc i _ (List.getElem?_eq_getElem hi)
    exact hP vs _ g2

/-- a module that came in, and what the reach says of its lists -/
theorem open_mo_sized {H : Type} {enc : TypeId × Value → H} {W : World} {base : Nat} {v : Value} {d : DataW H} {p : List MemPlace}
    (hv : Value.okWide Try.prog W .any base 25 v) (h : DataW.Trod enc Try.prog W 0 (fun _ => true) true 25 v d p) (hw : ∀ k ∈ d.weights Try.prog 25, k ≤ reachBytes) :
    ∃ a n c m, v = moV a n c ∧ AcA 0 W.heap.size W a n m ∧ n ≤ 5864062014805 ∧ ∀ x ∈ m, x.cs.length ≤ 8796093022208 := by
  obtain ⟨cs, rfl, hsz⟩ := okWide_struct Try.underlying25 hv
  rw [cellsMo] at hsz
  obtain ⟨l⟩ := cs
  match l, hsz with
  | [v0], _ =>
    obtain ⟨fuel, hf⟩ := h
    obtain ⟨y0, n, hx, _, h0⟩ := trod_struct1 Try.underlying25 hf
    simp only [cellsAcs] at h0
    simp [Value.cells] at h0
    have hd : d = .agg [y0.1] := congrArg Prod.fst hx
    have hw0 : ∀ k ∈ y0.1.weights Try.prog 23, k ≤ reachBytes := fun k hk => hw k (by
      rw [hd]
      simp only [DataW.weights, Try.underlying25]
      exact DataW.weights_mem_each (j := 0) rfl rfl k hk)
    obtain ⟨a, k, c, m, e, hA⟩ := arr_w (α := Ac) (PV := fun W vs y => AcV 0 W.heap.size W vs y ∧ y.cs.length ≤ 8796093022208) (fun d => ∀ k ∈ d.weights Try.prog 42, k ≤ reachBytes) Try.underlying23 cellsAc (by omega) (fun fuel cs x h hl hq => by
      obtain ⟨xs, n, _, hx, _, hlen, hf⟩ := DataW.trod_struct Try.underlying42 h
      have hlen' : xs.length = 5 := hlen
      match cs, hl, xs, hlen', hx with
      | [v0, v1, v2, v3, v4], _, [y0, y1, y2, y3, y4], _, hx =>
        have g0 : DataW.trod enc Try.prog W 0 (fun _ => true) true n 38 [v0] = some y0 := hf 0 _ rfl
        have g1 : DataW.trod enc Try.prog W 0 (fun _ => true) true n 38 [v1] = some y1 := hf 1 _ rfl
        have g2 : DataW.trod enc Try.prog W 0 (fun _ => true) true n 38 [v2] = some y2 := hf 2 _ rfl
        have g3 : DataW.trod enc Try.prog W 0 (fun _ => true) true n 39 [v3] = some y3 := hf 3 _ rfl
        have g4 : DataW.trod enc Try.prog W 0 (fun _ => true) true n 40 [v4] = some y4 := hf 4 _ rfl
        obtain ⟨a0, n0, c0, l0, e0, _, A0⟩ := tys_of g0
        obtain ⟨a1, n1, c1, l1, e1, k1, A1⟩ := tys_of g1
        obtain ⟨a2, n2, c2, l2, e2, _, A2⟩ := tys_of g2
        obtain ⟨a3, n3, c3, l3, e3, _, A3⟩ := inss_of g3
        obtain ⟨a4, n4, c4, l4, e4, _, A4⟩ := tbs_of g4
        have hb : l3.length ≤ 8796093022208 := by
          obtain ⟨a', n', c', e', hh⟩ := slice_len Try.underlying39 g3
          rw [e3] at e'
          simp at e'
          obtain ⟨_, rfl, _⟩ := e'
          have h3 := A3.len
          rcases hh with ⟨_, h0⟩ | ⟨el, r, hs, hel⟩
          · omega
          · have hk := hq ((el.length + r.length) * Try.prog.bytesOf 37) (by
              rw [hx]
              simp only [DataW.weights, Try.underlying42]
              refine DataW.weights_mem_each (j := 3) (t := 39) (d := y3.1) rfl rfl _ ?_
              rw [hs]
              simp only [DataW.weights, Try.underlying39]
              exact List.mem_cons_self)
            rw [bytesIns] at hk
            simp only [reachBytes] at hk
            omega
        simp at e0 e1 e2 e3 e4
        subst e0 e1 e2 e3 e4
        exact ⟨⟨l0, l1, l2, l3, l4⟩, ⟨s5 (a0, n0, c0) (a1, n1, c1) (a2, n2, c2) (a3, n3, c3) (a4, n4, c4), rfl, A0, A1, A2, A3, A4, k1⟩, hb⟩) h0 (fun el r he d hd k hk => hw0 k (by
          rw [he]
          simp only [DataW.weights, Try.underlying23]
          exact List.mem_cons_of_mem _ (List.mem_append.2 (.inl (weightsAll_mem hd k hk)))))
    have hn : k ≤ 5864062014805 := by
      obtain ⟨a', n', c', e', hh⟩ := slice_len Try.underlying23 h0
      rw [e] at e'
      simp at e'
      obtain ⟨_, rfl, _⟩ := e'
      rcases hh with ⟨_, h0⟩ | ⟨el, r, hs, hel⟩
      · omega
      · have hk := hw0 ((el.length + r.length) * Try.prog.bytesOf 42) (by
          rw [hs]
          simp only [DataW.weights, Try.underlying23]
          exact List.mem_cons_self)
        rw [bytesAc] at hk
        simp only [reachBytes] at hk
        omega
    simp at e
    subst e
    exact ⟨a, k, c, m, rfl, hA.part (fun _ _ h => h.1), hn, hA.all (fun _ _ h => h.2)⟩

end Go.Proofs.Ythdpgachdegcgaa
