/-
  What Num, Int, Byte, Text, Left and End of a reader do.
-/
import Derived.Test.YthdpgachdegcgaaRd
import Derived.Lib.Strings
import Derived.Lib.IndexBytes
namespace Go.Proofs.Ythdpgachdegcgaa
open Go.RowKit
set_option linter.unusedVariables false
set_option maxRecDepth 8192

/-- a list of bytes as a text -/
def ba (l : List UInt8) : ByteArray := ⟨l.toArray⟩
theorem ba_list (l : List UInt8) : (ba l).data.toList = l := by simp [ba]
theorem ba_of (s : ByteArray) : ba s.data.toList = s := by simp [ba]
theorem ba_size (l : List UInt8) : (ba l).size = l.length := by simp [ba, ByteArray.size]
theorem ba_get (l : List UInt8) (i : Nat) (h : i < (ba l).size) : (ba l)[i] = l[i]'(by rw [← ba_size]; exact h) := by
  simp [ba, ByteArray.getElem_eq_getElem_data]
theorem ba_extract (l : List UInt8) (a b : Nat) : (ba l).extract a b = ba ((l.drop a).take (b - a)) := by
  apply ByteArray.ext
  simp [ba, ByteArray.data_extract]
theorem ba_drop (l : List UInt8) (a : Nat) : (ba l).extract a (ba l).size = ba (l.drop a) := by
  rw [ba_extract, ba_size, List.take_of_length_le (by simp)]
theorem ba_append (a b : List UInt8) : ba a ++ ba b = ba (a ++ b) := by
  apply ByteArray.ext
  simp [ba, ByteArray.data_append]
theorem ba_toList (l : List UInt8) : (ba l).toList = l := by rw [ByteArray.toList_eq]; exact ba_list l

/-- the reader at block b: what is left, its error -/
def IsR (w : World) (b : Nat) (l : List UInt8) (E : Int) : Prop :=
  w.heap[b]? = some (.cells #[.string (ba l), .int .i64 E] 75 (0, 0))

theorem rd_size : ∀ (l : List UInt8) (i n : Nat), (rd l i n).2.1 ≤ i + l.length
  | [], i, n => by simp [rd]
  | b :: r, i, n => by
    rw [rd]
    have := rd_size r (i + 1) (n + b.toNat % 128 * 2 ^ (7 * i))
    split
    · simp
    · split
      · simp only [List.length_cons]; omega
      · split <;> simp only [List.length_cons] <;> omega

theorem rd_err : ∀ (l : List UInt8) (i n : Nat), (rd l i n).2.2 = 0 ∨ ((rd l i n).1 = 0 ∧ (rd l i n).2.1 = 0 ∧ ((rd l i n).2.2 = 2 ∨ (rd l i n).2.2 = 4))
  | [], i, n => by simp [rd]
  | b :: r, i, n => by
    rw [rd]
    have := rd_err r (i + 1) (n + b.toNat % 128 * 2 ^ (7 * i))
    split
    · simp
    · split
      · exact this
      · split <;> simp

theorem rd_lt : ∀ (l : List UInt8) (i n : Nat), i ≤ 9 → n < 2 ^ (7 * i) → (rd l i n).1 < 18446744073709551616
  | [], i, n, _, _ => by simp [rd]
  | b :: r, i, n, hi, hn => by
    rw [rd]
    have hb := b.toNat_lt
    split
    · simp
    · rename_i h
      have hf := fits n b.toNat i hn hi (by omega)
      split
      · rename_i h2
        exact rd_lt r (i + 1) _ (by omega) (next_fits n b.toNat i hn)
      · split
        · simp
        · exact hf

/-- what a reader reads next -/
def rnum (l : List UInt8) (E : Int) : Nat × List UInt8 × Int :=
  if E ≠ 0 then (0, l, E) else ((rd l 0 0).1, l.drop (rd l 0 0).2.1, (rd l 0 0).2.2)
def rbyte (l : List UInt8) (E : Int) : Nat × List UInt8 × Int :=
  if E ≠ 0 then (0, l, E) else match l with | [] => (0, [], 2) | b :: r => (b.toNat, r, 0)
def rtext (l : List UInt8) (E : Int) : List UInt8 × List UInt8 × Int :=
  if E ≠ 0 then ([], l, E) else if (rd l 0 0).2.2 ≠ 0 then ([], l, (rd l 0 0).2.2)
  else if (rd l 0 0).1 > l.length - (rd l 0 0).2.1 then ([], l, 2)
  else ((l.drop (rd l 0 0).2.1).take (rd l 0 0).1, l.drop ((rd l 0 0).2.1 + (rd l 0 0).1), 0)

set_option maxHeartbeats 400000 in
theorem read_calls (s : ByteArray) (w : World) :
    Calls Try.prog 12 #[.string s] w fun e w' => e = .returned (.pointer (some ⟨w.heap.size, 0, none⟩)) ∧ IsR w' w.heap.size s.data.toList 0 ∧ Fr (fun _ => False) w w' := by
  go_enter Try.func12, Try.ntmps12
  go_wp2
  go_ret
  refine ⟨rfl, ?_, (Fr.refl _ w).alloc _⟩
  unfold IsR
  rw [ba_of]
  exact blk_new w _

set_option maxHeartbeats 400000 in
theorem stopped_calls {w : World} {b : Nat} {l : List UInt8} {E : Int} (h : IsR w b l E) :
    Calls Try.prog 70 #[.pointer (some ⟨b, 0, none⟩)] w fun e w' => e = .returned (.bool (E != 0)) ∧ w = w' := by
  have c1 := cell_at h 1
  simp at c1
  go_enter Try.func70, Try.ntmps70
  go_wp2
  go_ret
  exact ⟨rfl, rfl⟩

set_option maxHeartbeats 400000 in
theorem left_calls {w : World} {b : Nat} {l : List UInt8} {E : Int} (h : IsR w b l E) :
    Calls Try.prog 91 #[.pointer (some ⟨b, 0, none⟩)] w fun e w' => e = .returned (.int .i64 (l.length : Nat)) ∧ w = w' := by
  have c0 := cell_at h 0
  simp at c0
  have hz := ba_size l
  have HZ : Hid ((ba l).size = l.length) := hz
  clear hz
  go_enter Try.func91, Try.ntmps91
  go_wp2
  go_ret
  exact ⟨ret_int (by rw [HZ.out]), rfl⟩

/-- what End answers -/
def rend (l : List UInt8) (E : Int) : Int := if E ≠ 0 then E else if l = [] then 0 else 5

set_option maxHeartbeats 400000 in
theorem end_calls {w : World} {b : Nat} {l : List UInt8} {E : Int} (h : IsR w b l E) :
    Calls Try.prog 14 #[.pointer (some ⟨b, 0, none⟩)] w fun e w' => e = .returned (.int .i64 (rend l E)) ∧ w = w' := by
  have c0 := cell_at h 0
  have c1 := cell_at h 1
  simp at c0 c1
  by_cases hE : E = 0
  · subst hE
    by_cases hl : l = []
    · have e : (0 : Int) = rend l 0 := by simp [rend, hl]
      have HE : Hid ((0 : Int) = rend l 0) := e
      have hl' : (ba l).toList.isEmpty = true := by rw [ba_toList, hl]; rfl
      clear e hl
      go_enter Try.func14, Try.ntmps14
      go_wp2
      go_ret
      exact ⟨ret_int HE.out, rfl⟩
    · have e : (5 : Int) = rend l 0 := by simp [rend, hl]
      have HE : Hid ((5 : Int) = rend l 0) := e
      have hl' : (ba l).toList.isEmpty = false := by rw [ba_toList]; simpa using hl
      clear e hl
      go_enter Try.func14, Try.ntmps14
      go_wp2
      go_ret
      exact ⟨ret_int HE.out, rfl⟩
  · have e : E = rend l E := by simp [rend, hE]
    have HE : Hid (E = rend l E) := e
    have hE' : (E == 0) = false := beq_eq_false_iff_ne.2 hE
    clear e hE
    go_enter Try.func14, Try.ntmps14
    go_wp2
    go_ret
    exact ⟨ret_int HE.out, rfl⟩

theorem IsR.set {w : World} {b : Nat} {l l' : List UInt8} {E E' : Int} (h : IsR w b l E) :
    IsR ((w.setCell ⟨b, 1, none⟩ (.int .i64 E')).setCell ⟨b, 0, none⟩ (.string (ba l'))) b l' E' ∧ Fr (fun k => k = b) w ((w.setCell ⟨b, 1, none⟩ (.int .i64 E')).setCell ⟨b, 0, none⟩ (.string (ba l'))) := by
  have h1 := blk_setCell (i := 1) (u := .int .i64 E') h
  have h2 := blk_setCell (i := 0) (u := .string (ba l')) h1
  exact ⟨h2, (Fr.set1 w b 1 _).setAt b 0 _ (.inr rfl)⟩

theorem IsR.setE {w : World} {b : Nat} {l : List UInt8} {E E' : Int} (h : IsR w b l E) :
    IsR (w.setCell ⟨b, 1, none⟩ (.int .i64 E')) b l E' ∧ Fr (fun k => k = b) w (w.setCell ⟨b, 1, none⟩ (.int .i64 E')) :=
  ⟨blk_setCell (i := 1) (u := .int .i64 E') h, Fr.set1 w b 1 _⟩

theorem IsR.setL {w : World} {b : Nat} {l l' : List UInt8} {E : Int} (h : IsR w b l E) :
    IsR (w.setCell ⟨b, 0, none⟩ (.string (ba l'))) b l' E ∧ Fr (fun k => k = b) w (w.setCell ⟨b, 0, none⟩ (.string (ba l'))) :=
  ⟨blk_setCell (i := 0) (u := .string (ba l')) h, Fr.set1 w b 0 _⟩

set_option maxHeartbeats 1000000 in
theorem rnum_calls {w : World} {b : Nat} {l : List UInt8} {E : Int} (h : IsR w b l E) (hl : l.length ≤ 9223372036854775807) :
    Calls Try.prog 50 #[.pointer (some ⟨b, 0, none⟩)] w fun e w' => e = .returned (.int .u64 (rnum l E).1) ∧ IsR w' b (rnum l E).2.1 (rnum l E).2.2 ∧ Fr (fun k => k = b) w w' := by
  by_cases hE : E = 0
  · subst hE
    have c0 := cell_at h 0
    have c1 := cell_at h 1
    have f0 := free_at h 0
    have f1 := free_at h 1
    simp at c0 c1
    have hsz := ba_size l
    have hr := rd_size l 0 0
    have hD := ba_drop l (rd l 0 0).2.1
    have e : rnum l 0 = ((rd l 0 0).1, l.drop (rd l 0 0).2.1, ((rd l 0 0).2.2 : Int)) := by simp [rnum]
    rw [e]
    clear e
    have hfn := firstNum (ba l)
    rw [ba_list] at hfn
    generalize (rd l 0 0).1 = n at *
    generalize (rd l 0 0).2.1 = k at *
    generalize (rd l 0 0).2.2 = er at *
    have HD := hide hD
    have hk : k ≤ (ba l).size := by omega
    have HS := hide hsz
    have hl2 : (ba l).size ≤ 9223372036854775807 := by omega
    clear hD hsz
    have HFN := hide hfn
    clear hfn
    go_enter Try.func50, Try.ntmps50
    go_wp2_with (first | (go_at_call 70; refine (stopped_calls h).mono ?_; rintro e w' ⟨rfl, rfl⟩) | (go_at_call 71; refine ((unhide HFN) _ hl2).mono ?_; rintro e w' ⟨rfl, rfl⟩))
    go_ret
    refine ⟨rfl, ?_⟩
    rw [unhide HD]
    exact h.set
  · have e : rnum l E = (0, l, E) := by simp [rnum, hE]
    rw [e]
    have hE' : (E != 0) = true := bne_iff_ne.2 hE
    clear e hE
    go_enter Try.func50, Try.ntmps50
    go_wp2_with (go_at_call 70; refine (stopped_calls h).mono ?_; rintro e w' ⟨rfl, rfl⟩)
    go_ret
    exact ⟨rfl, h, Fr.refl _ _⟩

theorem rnum_lt (l : List UInt8) (E : Int) : (rnum l E).1 < 18446744073709551616 := by
  unfold rnum
  split
  · simp
  · exact rd_lt l 0 0 (by omega) (by simp)

set_option maxHeartbeats 1000000 in
theorem rint_calls {w : World} {b : Nat} {l : List UInt8} {E : Int} (h : IsR w b l E) (hl : l.length ≤ 9223372036854775807) :
    Calls Try.prog 92 #[.pointer (some ⟨b, 0, none⟩)] w fun e w' => e = .returned (.int .i64 (sgn (rnum l E).1)) ∧ IsR w' b (rnum l E).2.1 (rnum l E).2.2 ∧ Fr (fun k => k = b) w w' := by
  have hn := rnum_lt l E
  have hN := rnum_calls h hl
  generalize (rnum l E).1 = n at *
  generalize (rnum l E).2.1 = l' at *
  generalize (rnum l E).2.2 = E' at *
  have HN := hide hN
  clear hN
  have hn' : (n : Int) ≤ 18446744073709551615 := by omega
  clear hn
  go_enter Try.func92, Try.ntmps92
  go_wp2_with (first | (go_at_call 50; refine (unhide HN).mono ?_; rintro e w' ⟨rfl, hR, hF⟩) | (go_at_call 102; refine (signed _ _ (by omega) hn').mono ?_; rintro e w2 ⟨rfl, rfl⟩))
  go_ret
  exact ⟨rfl, hR, hF⟩

set_option maxHeartbeats 1000000 in
theorem rbyte_calls {w : World} {b : Nat} {l : List UInt8} {E : Int} (h : IsR w b l E) (hl : l.length ≤ 9223372036854775807) :
    Calls Try.prog 49 #[.pointer (some ⟨b, 0, none⟩)] w fun e w' => e = .returned (.int .i64 (rbyte l E).1) ∧ IsR w' b (rbyte l E).2.1 (rbyte l E).2.2 ∧ Fr (fun k => k = b) w w' := by
  by_cases hE : E = 0
  · subst hE
    have c0 := cell_at h 0
    have c1 := cell_at h 1
    have f0 := free_at h 0
    have f1 := free_at h 1
    simp at c0 c1
    cases l with
    | nil =>
      have e : rbyte [] 0 = (0, [], 2) := rfl
      rw [e]
      have hz : (ba []).toList.isEmpty = true := by rw [ba_toList]; rfl
      clear e
      go_enter Try.func49, Try.ntmps49
      go_wp2_with (go_at_call 70; refine (stopped_calls h).mono ?_; rintro e w' ⟨rfl, rfl⟩)
      go_ret
      exact ⟨rfl, h.setE⟩
    | cons x r =>
      have e : rbyte (x :: r) 0 = (x.toNat, r, 0) := rfl
      rw [e]
      have hz : (ba (x :: r)).toList.isEmpty = false := by rw [ba_toList]; rfl
      have hsz := ba_size (x :: r)
      have hlt : 0 < (ba (x :: r)).size := by rw [hsz]; simp
      have hlt1 : (1 : Int) ≤ ((ba (x :: r)).size : Int) := by omega
      have hg : (ba (x :: r))[0] = x := ba_get _ 0 hlt
      have hD := ba_drop (x :: r) 1
      simp only [List.drop_succ_cons, List.drop_zero] at hD
      have hl2 : (ba (x :: r)).size ≤ 9223372036854775807 := by omega
      have HD := hide hD
      clear e hsz hD
      generalize hs : ba (x :: r) = s at *
      have HS := hide hs
      clear hs
      go_enter Try.func49, Try.ntmps49
      go_wp2_with (go_at_call 70; refine (stopped_calls h).mono ?_; rintro e w' ⟨rfl, rfl⟩)
      go_ret
      have hx := x.toNat_lt
      refine ⟨ret_int (w64 _ (by omega)), ?_⟩
      rw [unhide HD]
      exact h.setL
  · have e : rbyte l E = (0, l, E) := by simp [rbyte, hE]
    rw [e]
    have hE' : (E != 0) = true := bne_iff_ne.2 hE
    clear e hE
    go_enter Try.func49, Try.ntmps49
    go_wp2_with (go_at_call 70; refine (stopped_calls h).mono ?_; rintro e w' ⟨rfl, rfl⟩)
    go_ret
    exact ⟨rfl, h, Fr.refl _ _⟩

end Go.Proofs.Ythdpgachdegcgaa
