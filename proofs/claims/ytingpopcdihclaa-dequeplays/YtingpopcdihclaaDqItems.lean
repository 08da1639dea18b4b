/-
  A deque's Items; a deque that isn't there; which lists are the same; the head of all laws of this layer; a thread's number, and how it begins anew.
-/
import Derived.Test.YtingpopcdihclaaDqMore
import Derived.Test.YtingpopcdihclaaDqInv
namespace Go.Proofs.Ytingpopcdihclaa
open Go.RowKit
set_option linter.unusedVariables false
set_option maxRecDepth 8192

theorem Inv.sd {S : Nat} {d : Dq} {L K : List Int} (I : Inv S d L K) (hS : S ≤ 64) (hN : d.top ≤ 576460752303423488) {k : Nat} (hk8 : k < 8) (hp : 0 < (d.th k).pc) : Sd d k := by
  have h0 := I.t0
  have hl := I.len
  have hb := I.own.bot_le
  rcases Nat.eq_zero_or_pos k with rfl | hk
  · have hO := I.own
    unfold OwnI at hO
    exact ⟨⟨hp, by omega⟩, ⟨by omega, by omega⟩, ⟨by omega, by omega⟩, fun h => ⟨by omega, by omega⟩, fun h => ⟨by omega, by omega⟩, fun h => by omega, fun h => by omega⟩
  · have hT := I.th k hk hk8
    unfold ThI at hT
    exact ⟨⟨hp, by omega⟩, ⟨by omega, by omega⟩, ⟨by omega, by omega⟩, fun h => ⟨by omega, by omega⟩, fun h => by omega, fun h => by omega, fun h => by omega⟩

theorem stp_top (S : Nat) (d : Dq) {k : Nat} (h1 : 0 < (d.th k).pc) (h2 : (d.th k).pc ≤ 14) : (stp S d k).1.top ≤ d.top + 1 := by
  obtain ⟨p, hp⟩ : ∃ p, (d.th k).pc = p := ⟨_, rfl⟩
  rw [hp] at h1 h2
  have hpc : p = 1 ∨ p = 2 ∨ p = 3 ∨ p = 4 ∨ p = 5 ∨ p = 6 ∨ p = 7 ∨ p = 8 ∨ p = 9 ∨ p = 10 ∨ p = 11 ∨ p = 12 ∨ p = 13 ∨ p = 14 := by omega
  rcases hpc with rfl | rfl | rfl | rfl | rfl | rfl | rfl | rfl | rfl | rfl | rfl | rfl | rfl | rfl
  · rw [stp_1 S d k hp]; show d.top ≤ _; omega
  · rw [stp_2 S d k hp]; split <;> (show d.top ≤ _; omega)
  · rw [stp_3 S d k hp]; show d.top ≤ _; omega
  · rw [stp_4 S d k hp]; show d.top ≤ _; omega
  · rw [stp_5 S d k hp]; show d.top ≤ _; omega
  · rw [stp_6 S d k hp]; show d.top ≤ _; omega
  · rw [stp_7 S d k hp]; split <;> (show d.top ≤ _; omega)
  · rw [stp_8 S d k hp]; split <;> (show d.top ≤ _; omega)
  · rw [stp_9 S d k hp]; split
    · show d.top + 1 ≤ _; omega
    · show d.top ≤ _; omega
  · rw [stp_10 S d k hp]; split <;> (show d.top ≤ _; omega)
  · rw [stp_11 S d k hp]; show d.top ≤ _; omega
  · rw [stp_12 S d k hp]; split <;> (show d.top ≤ _; omega)
  · rw [stp_13 S d k hp]; show d.top ≤ _; omega
  · rw [stp_14 S d k hp]; split
    · show d.top + 1 ≤ _; omega
    · show d.top ≤ _; omega

/-- numbers as cells -/
def rowV2 (l : List Int) : List Value := l.map (Value.int .i64)
/-- a slice of 64-bit numbers that is held, its block from lo on -/
abbrev LS (w : World) (lo : Nat) (v : Value) (l : List Int) : Prop := OS w lo 2 1 v l.length (rowV2 l)

theorem cell_fr {S : Nat → Prop} {w w' : World} (hf : Fr S w w') {b i : Nat} {v : Value} (hS : ¬ S b) (h : w.cell? ⟨b, i, none⟩ = some v) : w'.cell? ⟨b, i, none⟩ = some v :=
  (World.cell?_of_block (w := w) (a := ⟨b, i, none⟩) (hf.block b (World.block_lt_of_cell? w ⟨b, i, none⟩ h) hS)).trans h

/-- a slice whose numbers are l -/
def Sl (w : World) (v : Value) (l : List Int) : Prop := ∃ a c, v = .slice a l.length c ∧ ∀ i x, l[i]? = some x → ∃ b off, a = some ⟨b, off, none⟩ ∧ w.cell? ⟨b, off + i, none⟩ = some (.int .i64 x)

theorem LS.sl {w : World} {lo : Nat} {v : Value} {l : List Int} (h : LS w lo v l) : Sl w v l := by
  obtain ⟨a, cap, rfl, hcap, hmax, hc⟩ := h.cell
  refine ⟨a, cap, rfl, fun i x hx => ?_⟩
  have hil := (List.getElem?_eq_some_iff.1 hx).1
  obtain ⟨g, off, rfl, hbg, hcells, hvs⟩ := hc (by omega)
  exact ⟨g, off, rfl, hvs i _ (by unfold rowV2; rw [List.getElem?_map, hx]; rfl)⟩

theorem Sl.fr {w w' : World} {v : Value} {l : List Int} (h : Sl w v l) (hf : Fr (fun _ => False) w w') : Sl w' v l := by
  obtain ⟨a, c, h1, h2⟩ := h
  refine ⟨a, c, h1, fun i x hx => ?_⟩
  obtain ⟨b, off, g1, g2⟩ := h2 i x hx
  exact ⟨b, off, g1, cell_fr hf (fun h => h) g2⟩

theorem cell_one_new (w : World) (x : Value) (T : TypeId) : ∀ (j : Nat) (u : Value), [x][j]? = some u → (w.alloc (.cells #[x] T)).cell? ((⟨w.heap.size, 0, none⟩ : Addr).add j) = some u := by
  intro j u h
  rw [Addr.add_lit, cell_at (blk_new w (.cells #[x] T)) (0 + j)]
  simpa using h

set_option maxHeartbeats 2000000 in
theorem same_true {w : World} {v1 v2 : Value} {l : List Int} (h1 : Sl w v1 l) (h2 : Sl w v2 l) (hl : l.length ≤ 9223372036854775806) :
    Calls Try.prog 20 #[v1, v2] w fun e w' => e = .returned (.bool true) ∧ Fr (fun _ => False) w w' := by
  obtain ⟨a1, c1, rfl, g1⟩ := h1
  obtain ⟨a2, c2, rfl, g2⟩ := h2
  obtain ⟨n, hn⟩ : ∃ n, l.length = n := ⟨_, rfl⟩
  have HN := hide hn
  rw [hn] at hl ⊢
  clear hn
  go_enter Try.func20, Try.ntmps20
  go_wp2
  go_loopw [5] (fun i wr => ∃ k : Nat, k ≤ n ∧ i = .int .i64 k ∧ Fr (fun _ => False) w wr) (fun i _ => n - (intOf i).toNat)
  case atStart => exact ⟨0, Nat.zero_le _, rfl, Fr.refl _ _⟩
  case round =>
    obtain ⟨k, hk, rfl, hF⟩ := hrel
    by_cases hlt : k < n
    · obtain ⟨x, hx⟩ : ∃ x, l[k]? = some x := ⟨l[k]'(by have := HN.out; omega), List.getElem?_eq_getElem _⟩
      obtain ⟨b1, o1, rfl, d1⟩ := g1 k x hx
      obtain ⟨b2, o2, rfl, d2⟩ := g2 k x hx
      have e1 := cell_fr hF (fun h => h) d1
      have e2 := cell_fr hF (fun h => h) d2
      have hkn : (k : Int) < (n : Int) := by omega
      clear hx d1 d2
      go_wp2
      go_quiet (fail)
      go_wp2
      go_roundw
      case rel => exact ⟨k + 1, by omega, by go_num, hF.drewN _⟩
      case measure => simp [intOf]; omega
    · obtain rfl : k = n := by omega
      go_wp2
      go_ret
      exact ⟨rfl, hF⟩

/-- what stands between top and bottom -/
def itemsD (S : Nat) (d : Dq) : List Int := (List.range (d.bot - d.top).toNat).map (fun i : Nat => d.pl (ix S (d.top + i)))

theorem itemsD_len (S : Nat) (d : Dq) : (itemsD S d).length = (d.bot - d.top).toNat := by simp [itemsD]

theorem itemsD_at (S : Nat) (d : Dq) {j : Nat} (h : j < (d.bot - d.top).toNat) : (itemsD S d)[j]? = some (d.pl (ix S (d.top + j))) := by
  unfold itemsD; rw [List.getElem?_map, List.getElem?_range h]; rfl

set_option maxHeartbeats 4000000 in
theorem items_calls {w : World} {b g S : Nat} {d : Dq} (h : IsD w b g S d) (h0 : 0 ≤ d.top) (h1 : d.top ≤ 576460752303423488) (h2 : d.bot ≤ d.top + 64) :
    Calls Try.prog 21 #[.pointer (some ⟨b, 0, none⟩)] w fun e w' => ∃ v, e = .returned v ∧ LS w' w.heap.size v (itemsD S d) ∧ Fr (fun _ => False) w w' := by
  obtain ⟨L, hL⟩ : ∃ L, itemsD S d = L := ⟨_, rfl⟩
  have hlen := itemsD_len S d
  have hat := fun j (h : j < (d.bot - d.top).toNat) => itemsD_at S d h
  rw [hL] at hlen hat ⊢
  obtain ⟨m, hm⟩ : ∃ m, (d.bot - d.top).toNat = m := ⟨_, rfl⟩
  rw [hm] at hlen hat
  have hm64 : m ≤ 64 := by omega
  have hbi : d.bot ≤ d.top + m := by omega
  have hbi2 : m = 0 ∨ d.bot = d.top + m := by omega
  have HL := hide hlen
  have HAT := hide hat
  clear hL hlen hat hm
  go_enter Try.func21, Try.ntmps21
  go_wp2_with (go_at_call 17; refine (dtop h).mono ?_; rintro e w' ⟨rfl, rfl⟩)
  go_loopw [3, 4] (fun l n wr => ∃ j : Nat, j ≤ m ∧ n = .int .i64 (d.top + j) ∧ OS wr w.heap.size 2 1 l j (rowV2 (L.take j)) ∧ Fr (fun _ => False) w wr) (fun _ n _ => (d.bot - intOf n).toNat)
  case atStart => exact ⟨0, Nat.zero_le _, by simp, by simpa [rowV2] using OS.nil _ _ _ _, Fr.refl _ _⟩
  case round =>
    obtain ⟨j, hj, rfl, hO, hF⟩ := hrel
    have hD := h.fr hF (fun h => h) (fun h => h)
    by_cases hlt : j < m
    · have hx := unhide HAT j hlt
      obtain ⟨i, hi⟩ : ∃ i, ix S (d.top + j) = i := ⟨_, rfl⟩
      have hil : i < S := by rw [← hi]; exact ix_lt h.pos _
      rw [hi] at hx
      have HI := hide hi
      clear hi
      have cg := hD.cg hil
      have HX := hide hx
      clear hx
      obtain ⟨x, hxx⟩ : ∃ x, d.pl i = x := ⟨_, rfl⟩
      rw [hxx] at cg HX
      clear hxx
      obtain ⟨a, cap, rfl, _⟩ := hO.cell
      have HO := hide hO
      clear hO
      have hlo := hF.size
      have hI2 : d.top + (j : Int) < d.bot := by omega
      go_wp2_with (first
        | (go_at_call 18; refine (dbot hD).mono ?_; rintro e w' ⟨rfl, rfl⟩)
        | (go_at_call 31; refine (place_calls hD _ ⟨by omega, by omega⟩ HI).mono ?_; rintro e w' ⟨rfl, nq, rfl⟩)
        | (at_builtin; refine wpList_append_os _ rfl _ _ 29 rfl 2 (.int .i64 0) 1 8 Try.underlying29 Try.infoLong rfl w.heap.size _ j (rowV2 (L.take j)) rfl ((unhide HO).fr (((Fr.refl (fun _ => False) wr).drewN nq).alloc _) (fun _ _ h => h)) _ 1 [.int .i64 x] rfl (Src.ofSlice _ Try.underlying29 _ 1 1 _ rfl (cell_one_new _ _ _) (by simp [Value.oneCell'])) (by unfold maxLen; omega) (by omega) (by simp; omega) ?_; intro v' w1 hO1 hF1))
      go_roundw
      case rel =>
        refine ⟨j + 1, by omega, by go_num, ?_, ?_⟩
        · have e : L.take (j + 1) = L.take j ++ [x] := by rw [List.take_add_one, HX.out]; rfl
          rw [e]; simpa [rowV2] using hO1
        · refine ((hF.drewN nq).alloc (.cells #[.int .i64 x] 2)).trans hF1 (fun _ _ h => h) (fun i hi hk => ?_)
          have := hk.1
          omega
      case measure => simp [intOf]; omega
    · have hge : d.bot ≤ d.top + (j : Int) := by omega
      have hjm : j = m := by omega
      go_wp2_with (go_at_call 18; refine (dbot hD).mono ?_; rintro e w' ⟨rfl, rfl⟩)
      go_ret
      refine ⟨_, rfl, ?_, hF⟩
      subst hjm
      rw [List.take_of_length_le (by rw [HL.out]; omega)] at hO
      unfold LS
      rw [HL.out]
      exact hO

end Go.Proofs.Ytingpopcdihclaa
