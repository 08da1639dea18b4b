/-
  The document's ParseAll: it answers as the plain function says; it makes memory of its own, and touches nothing else.
-/
import Derived.Test.YtbckmmodobennaaDoorKnRef
import Derived.Test.YtbckmmodobennaaDoorKnList
namespace Go.Proofs.YtbckmmodobennaaDoor
open Go.RowKit
set_option linter.unusedVariables false

/-- what is known ahead of place i: the pieces ahead of place f are read; behind it, up to i, there is no comma -/
def Ahead (l : List UInt8) (f i : Nat) (ys : List Int) : Prop :=
  ∃ dn : List (List UInt8), (∀ p ∈ dn, parseB p = true) ∧ ys = dn.map parseT ∧
    ((i ≤ l.length ∧ f ≤ i ∧ pieces l = dn ++ pieces (l.drop f) ∧ (44 : UInt8) ∉ (l.drop f).take (i - f)) ∨ (i = l.length + 1 ∧ pieces l = dn))

theorem Ahead.start (l : List UInt8) : Ahead l 0 0 [] := ⟨[], by simp, rfl, .inl ⟨by omega, by omega, by simp, by simp⟩⟩

theorem Ahead.len {l : List UInt8} {f i : Nat} {ys : List Int} (h : Ahead l f i ys) : ys.length ≤ l.length + 1 := by
  obtain ⟨dn, _, rfl, h⟩ := h
  have hp := pieces_len l
  rcases h with ⟨_, _, e, _⟩ | ⟨_, e⟩
  · rw [e] at hp; simp at hp ⊢; omega
  · rw [e] at hp; simp at hp ⊢; omega

theorem Ahead.range {l : List UInt8} {f i : Nat} {ys : List Int} (h : Ahead l f i ys) : ∀ y ∈ ys, -9223372036854775808 ≤ y ∧ y ≤ 9223372036854775807 := by
  obtain ⟨dn, _, rfl, _⟩ := h
  intro y hy
  obtain ⟨p, _, rfl⟩ := List.mem_map.1 hy
  exact parseT_range p

theorem take_more {l : List UInt8} {f i : Nat} (hf : f ≤ i) (hi : i < l.length) : (l.drop f).take (i + 1 - f) = (l.drop f).take (i - f) ++ [l[i]] := by
  rw [show i + 1 - f = (i - f) + 1 by omega, List.take_add_one, List.getElem?_drop, show f + (i - f) = i by omega, List.getElem?_eq_getElem hi]
  rfl

/-- no comma at i -/
theorem Ahead.on {l : List UInt8} {f i : Nat} {ys : List Int} (h : Ahead l f i ys) (hi : i < l.length) (hc : l[i] ≠ 44) : Ahead l f (i + 1) ys := by
  obtain ⟨dn, h1, h2, h⟩ := h
  rcases h with ⟨_, hf, e, hn⟩ | ⟨e, _⟩
  · refine ⟨dn, h1, h2, .inl ⟨by omega, by omega, e, ?_⟩⟩
    rw [take_more hf hi]
    simp only [List.mem_append, List.mem_singleton, not_or]
    exact ⟨hn, fun e => hc e.symm⟩
  · omega

theorem drop_cut {l : List UInt8} {f i : Nat} (hf : f ≤ i) (hi : i < l.length) (hc : l[i] = 44) : l.drop f = (l.drop f).take (i - f) ++ 44 :: l.drop (i + 1) := by
  have h := List.take_append_drop (i - f) (l.drop f)
  rw [List.drop_drop, show f + (i - f) = i by omega, List.drop_eq_getElem_cons hi, hc] at h
  exact h.symm

/-- a comma at i: the piece ahead of it -/
theorem Ahead.cut {l : List UInt8} {f i : Nat} {ys : List Int} (h : Ahead l f i ys) (hi : i < l.length) (hc : l[i] = 44) (hp : parseB ((l.drop f).take (i - f)) = true) :
    Ahead l (i + 1) (i + 1) (ys ++ [parseT ((l.drop f).take (i - f))]) := by
  obtain ⟨dn, h1, h2, h⟩ := h
  rcases h with ⟨_, hf, e, hn⟩ | ⟨e, _⟩
  · refine ⟨dn ++ [(l.drop f).take (i - f)], ?_, by rw [h2]; simp, .inl ⟨by omega, by omega, ?_, by simp⟩⟩
    · intro p hp'
      rcases List.mem_append.1 hp' with h | h
      · exact h1 p h
      · rw [List.mem_singleton.1 h]; exact hp
    · rw [e]
      conv => lhs; rw [drop_cut hf hi hc, pieces_cut hn]
      simp
  · omega

/-- the end: the last piece -/
theorem Ahead.last {l : List UInt8} {f i : Nat} {ys : List Int} (h : Ahead l f i ys) (hi : i = l.length) (hp : parseB ((l.drop f).take (i - f)) = true) :
    Ahead l (i + 1) (i + 1) (ys ++ [parseT ((l.drop f).take (i - f))]) := by
  obtain ⟨dn, h1, h2, h⟩ := h
  rcases h with ⟨_, hf, e, hn⟩ | ⟨e, _⟩
  · refine ⟨dn ++ [(l.drop f).take (i - f)], ?_, by rw [h2]; simp, .inr ⟨by omega, ?_⟩⟩
    · intro p hp'
      rcases List.mem_append.1 hp' with h | h
      · exact h1 p h
      · rw [List.mem_singleton.1 h]; exact hp
    · have ht : (l.drop f).take (i - f) = l.drop f := List.take_of_length_le (by simp; omega)
      rw [ht] at hn ⊢
      rw [e, pieces_free hn]
  · omega

/-- a piece that is none -/
theorem Ahead.none {l : List UInt8} {f i : Nat} {ys : List Int} (h : Ahead l f i ys) (h1 : l ≠ [45]) (hi : i = l.length ∨ ∃ hi : i < l.length, l[i] = 44) (hp : parseB ((l.drop f).take (i - f)) = false) :
    listB l = false ∧ listL l = [] := by
  obtain ⟨dn, _, _, h⟩ := h
  have hmem : (l.drop f).take (i - f) ∈ pieces l := by
    rcases h with ⟨_, hf, e, hn⟩ | ⟨e, _⟩
    · rw [e]
      rcases hi with hi | ⟨hi, hc⟩
      · have ht : (l.drop f).take (i - f) = l.drop f := List.take_of_length_le (by simp; omega)
        rw [ht] at hn ⊢
        rw [pieces_free hn]; simp
      · have : pieces (l.drop f) = (l.drop f).take (i - f) :: pieces (l.drop (i + 1)) := by
          conv => lhs; rw [drop_cut hf hi hc, pieces_cut hn]
        rw [this]; simp
    · rcases hi with hi | ⟨hi, _⟩ <;> omega
  have ha : (pieces l).all parseB = false := by
    rw [List.all_eq_false]; exact ⟨_, hmem, by simp [hp]⟩
  unfold listB listL
  rw [if_neg h1, if_neg h1, ha]
  exact ⟨rfl, rfl⟩

/-- all is read -/
theorem Ahead.done {l : List UInt8} {f i : Nat} {ys : List Int} (h : Ahead l f i ys) (h1 : l ≠ [45]) (hi : l.length < i) : listB l = true ∧ listL l = ys := by
  obtain ⟨dn, h2, h3, h⟩ := h
  rcases h with ⟨_, _, _, _⟩ | ⟨_, e⟩
  · omega
  · have ha : (pieces l).all parseB = true := by rw [e, List.all_eq_true]; exact h2
    unfold listB listL
    rw [if_neg h1, if_neg h1, if_pos ha, e, h3]
    exact ⟨e ▸ ha, rfl⟩

theorem owns_below {w w' : World} {base : Nat} {e : TypeId} {size : Nat} {v : Value} {n : Nat} {xs : List Value} (h : w.ownsRow base e size v n xs) (hb : Below w.heap.size w w') : w'.ownsRow base e size v n xs := by
  refine ⟨h.1, ?_⟩
  rcases h.2 with h2 | ⟨g, cap, cur, rfl, hb', hg, rest⟩
  · exact .inl h2
  · exact .inr ⟨g, cap, cur, rfl, hb', (hb.block g (lt_of_blk hg)).trans hg, rest⟩

theorem listX_getD (ys : List Int) : listX (fun i => ys.getD i 0) ys.length = ys := by
  have := range_get ys 0 id
  simpa [listX] using this

set_option maxHeartbeats 4000000 in
theorem refParseAll_calls (s : ByteArray) (w : World) (hs : s.size ≤ 8388608) :
    Calls Tryd.prog 20 #[.string s] w fun e w' => ∃ v n c Y, e = .returned (.tuple #[.slice v n c, .bool (listB s.data.toList)]) ∧ Row w' v n Y ∧ listX Y n = listL s.data.toList ∧ Below w.heap.size w w' := by
  by_cases h1 : s.data.toList = [45]
  · obtain rfl := bytes_of h1
    clear h1
    go_enter Tryd.func20, Tryd.ntmps20
    go_wp2
    go_ret2
    exact ⟨none, 0, 0, fun _ => 0, rfl, ⟨by omega, .inl rfl⟩, rfl, Below.refl _ _⟩
  have hb1 : (s.toList == [45]) = false := by rw [ByteArray.toList_eq]; exact beq_eq_false_iff_ne.2 h1
  have H1 := hide h1
  clear h1
  have hl : s.data.toList.length = s.size := by simp
  have HL := hide hl
  clear hl
  obtain ⟨i, hi, hz0, hz1, hz2⟩ := info_parts infoType
  go_enter Tryd.func20, Tryd.ntmps20
  go_wp2
  go_loopw [4, 5, 6] (fun v fr ix w' => ∃ (f k : Nat) (ys : List Int), fr = .int .i64 f ∧ ix = .int .i64 k ∧ f ≤ k ∧ k ≤ s.size + 1 ∧ w'.ownsRow w.heap.size 22 1 v ys.length (ys.map (Value.int .i64)) ∧ Ahead s.data.toList f k ys ∧ Below w.heap.size w w') (fun v fr ix w' => s.size + 1 - (intOf ix).toNat)
  case atStart => exact ⟨0, 0, [], rfl, rfl, by omega, by omega, ⟨rfl, .inl ⟨rfl, rfl⟩⟩, Ahead.start _, Below.refl _ _⟩
  case round =>
    obtain ⟨f, k, ys, rfl, rfl, hfk, hk, hown, hA, hbel⟩ := hrel
    have hyl := hA.len
    rw [unhide HL] at hyl
    have HA := hide hA
    clear hA
    by_cases hle : k ≤ s.size
    · by_cases hlt : k < s.size
      · by_cases hc : s[k] = 44
        · have hcb : ((s[k].toNat : Int) != 44) = false := by rw [hc]; rfl
          have HE : Hid (k = s.data.toList.length ∨ ∃ hi : k < s.data.toList.length, s.data.toList[k] = 44) := hide (.inr ⟨by rw [unhide HL]; exact hlt, hc⟩)
          have HS : Hid (parseB ((s.data.toList.drop f).take (k - f)) = true → Ahead s.data.toList (k + 1) (k + 1) (ys ++ [parseT ((s.data.toList.drop f).take (k - f))])) := hide (fun hp => (unhide HA).cut (by rw [unhide HL]; exact hlt) hc hp)
          clear hc
          have hex := hide (Lib.extract_data s f k)
          cases hpb : parseB ((s.data.toList.drop f).take (k - f))
          · have HP := hide hpb
            have HN := hide ((unhide HA).none (unhide H1) (unhide HE) hpb)
            clear hpb
            go_wp2_with (go_at_call 18; refine (refParse_calls _ _).mono ?_; rw [unhide hex, unhide HP]; rintro e w1 ⟨rfl, hb2⟩)
            go_ret2
            exact ⟨none, 0, 0, fun _ => 0, by rw [(unhide HN).1]; rfl, ⟨by omega, .inl rfl⟩, (unhide HN).2.symm, hbel.trans (hb2.mono hbel.size)⟩
          · have HP := hide hpb
            have HA2 := hide (unhide HS hpb)
            clear hpb
            go_wp2_with fail
            refine (refParse_calls _ _).mono ?_
            rw [unhide hex, unhide HP]
            rintro e w1 ⟨rfl, hb2⟩
            have hown1 := owns_below hown hb2
            have hbel1 := hbel.trans (hb2.mono hbel.size)
            clear hown hbel hb2
            generalize parseT ((s.data.toList.drop f).take (k - f)) = t at *
            go_wp2_with (at_builtin; refine wpList_append_own _ rfl _ _ 23 rfl w.heap.size 22 i (.int .i64 0) 1 8 Tryd.underlying23 hi hz0 hz1 hz2 rfl (by decide) _ _ _ rfl (hown1.alloc _) ⟨w1.heap.size, 0, none⟩ 1 1 [.int .i64 t] rfl rfl (new_c1 _ _ _) (new_c2 _ _) (by unfold maxLen; omega) (by omega) (by have := hbel1.size; simp; omega) ?_)
            intro v' w' ho hgr hnn
            have hb' : Below w.heap.size w w' := (hbel1.alloc hbel1.size _).grown hgr (by have := hbel1.size; simp; omega) (fun g hg => (hown1.lt g hg).1)
            have ho' : w'.ownsRow w.heap.size 22 1 v' (ys ++ [t]).length ((ys ++ [t]).map (Value.int .i64)) := by
              rw [List.map_append, List.length_append]; exact ho
            clear ho hgr hnn hown1 hbel1
            go_wp2
            exact ⟨⟨k + 1, k + 1, ys ++ [t], by go_num, by go_num, by omega, by omega, ho', unhide HA2, hb'⟩, by simp [intOf]; omega⟩
        · have hcb : ((s[k].toNat : Int) != 44) = true := by
            rw [bne_iff_ne]; intro e; exact hc (UInt8.toNat_inj.1 (by simpa using (by omega : s[k].toNat = 44)))
          have HA2 := hide ((unhide HA).on (by rw [unhide HL]; exact hlt) hc)
          clear hc
          go_wp2
          exact ⟨⟨f, k + 1, ys, rfl, by go_num, by omega, by omega, hown, unhide HA2, hbel⟩, by simp [intOf]; omega⟩
      · have hks : k = s.size := by omega
        have HE : Hid (k = s.data.toList.length ∨ ∃ hi : k < s.data.toList.length, s.data.toList[k] = 44) := hide (.inl (by rw [unhide HL]; exact hks))
        have HS : Hid (parseB ((s.data.toList.drop f).take (k - f)) = true → Ahead s.data.toList (k + 1) (k + 1) (ys ++ [parseT ((s.data.toList.drop f).take (k - f))])) := hide (fun hp => (unhide HA).last (by rw [unhide HL]; exact hks) hp)
        clear hks
        have hex := hide (Lib.extract_data s f k)
        cases hpb : parseB ((s.data.toList.drop f).take (k - f))
        · have HP := hide hpb
          have HN := hide ((unhide HA).none (unhide H1) (unhide HE) hpb)
          clear hpb
          go_wp2_with (go_at_call 18; refine (refParse_calls _ _).mono ?_; rw [unhide hex, unhide HP]; rintro e w1 ⟨rfl, hb2⟩)
          go_ret2
          exact ⟨none, 0, 0, fun _ => 0, by rw [(unhide HN).1]; rfl, ⟨by omega, .inl rfl⟩, (unhide HN).2.symm, hbel.trans (hb2.mono hbel.size)⟩
        · have HP := hide hpb
          have HA2 := hide (unhide HS hpb)
          clear hpb
          go_wp2_with fail
          refine (refParse_calls _ _).mono ?_
          rw [unhide hex, unhide HP]
          rintro e w1 ⟨rfl, hb2⟩
          have hown1 := owns_below hown hb2
          have hbel1 := hbel.trans (hb2.mono hbel.size)
          clear hown hbel hb2
          generalize parseT ((s.data.toList.drop f).take (k - f)) = t at *
          go_wp2_with (at_builtin; refine wpList_append_own _ rfl _ _ 23 rfl w.heap.size 22 i (.int .i64 0) 1 8 Tryd.underlying23 hi hz0 hz1 hz2 rfl (by decide) _ _ _ rfl (hown1.alloc _) ⟨w1.heap.size, 0, none⟩ 1 1 [.int .i64 t] rfl rfl (new_c1 _ _ _) (new_c2 _ _) (by unfold maxLen; omega) (by omega) (by have := hbel1.size; simp; omega) ?_)
          intro v' w' ho hgr hnn
          have hb' : Below w.heap.size w w' := (hbel1.alloc hbel1.size _).grown hgr (by have := hbel1.size; simp; omega) (fun g hg => (hown1.lt g hg).1)
          have ho' : w'.ownsRow w.heap.size 22 1 v' (ys ++ [t]).length ((ys ++ [t]).map (Value.int .i64)) := by
            rw [List.map_append, List.length_append]; exact ho
          clear ho hgr hnn hown1 hbel1
          go_wp2
          exact ⟨⟨k + 1, k + 1, ys ++ [t], by go_num, by go_num, by omega, by omega, ho', unhide HA2, hb'⟩, by simp [intOf]; omega⟩
    · have HD := hide ((unhide HA).done (unhide H1) (by rw [unhide HL]; omega))
      obtain ⟨a, c, rfl, hR, -⟩ := row_of_owns hown (unhide HA).range (by omega)
      go_wp2
      go_ret2
      exact ⟨a, ys.length, c, _, by rw [(unhide HD).1]; rfl, hR, by rw [(unhide HD).2]; exact listX_getD ys, hbel⟩
end Go.Proofs.YtbckmmodobennaaDoor
