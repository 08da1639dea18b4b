/-
  What holds of a queue at whatever interleaving: the nodes behind tail in the order in which head was changed. Of no program.
-/
import Derived.Test.YtingpopcdihclabMqPlain
namespace Go.Proofs.Ytingpopcdihclab
set_option linter.unusedVariables false

/-- R: the nodes that were put (their second access is done) and not taken -/
structure Lin (q : Qu) (R : List Nat) : Prop where
  hd : (q.tail :: R).getLast? = some q.head
  nodup : (q.tail :: R).Nodup
  mem : ∀ x, x ∈ q.tail :: R → x ∈ q.ids
  link : ∀ i x y, (q.tail :: R)[i]? = some x → (q.tail :: R)[i + 1]? = some y → q.nx x = some y ∨ (q.nx x = none ∧ ∃ k, k ≠ 0 ∧ q.th k = ⟨3, some y, some x⟩)
  last : q.nx q.head = none
  fresh : ∀ k x, k ≠ 0 → (q.th k = ⟨1, some x, none⟩ ∨ q.th k = ⟨2, some x, none⟩) → x ∉ q.tail :: R ∧ q.nx x = none
  own : ∀ k j x, k ≠ j → k ≠ 0 → j ≠ 0 → (q.th k).node = some x → (q.th j).node = some x → False
  half : ∀ k x p, k ≠ 0 → q.th k = ⟨3, some x, some p⟩ → ∃ i, (q.tail :: R)[i]? = some p ∧ (q.tail :: R)[i + 1]? = some x ∧ q.nx p = none
  tk : ∀ n, q.th 0 = ⟨2, some n, none⟩ → q.nx q.tail = some n
  idle : ∀ k, (q.th k).pc = 0 → q.th k = Rq.zero

theorem nodup_at {A : List Nat} (h : A.Nodup) {i j x : Nat} (hi : A[i]? = some x) (hj : A[j]? = some x) : i = j := by
  obtain ⟨a, ha⟩ := List.getElem?_eq_some_iff.1 hi
  obtain ⟨b, hb⟩ := List.getElem?_eq_some_iff.1 hj
  exact (List.getElem_inj h).1 (ha.trans hb.symm)

theorem last_at {A : List Nat} {x : Nat} (h : A.getLast? = some x) : A[A.length - 1]? = some x := by rw [← List.getLast?_eq_getElem?]; exact h

/-- who has a next in the row is not the head -/
theorem Lin.ne_head {q : Qu} {R : List Nat} (h : Lin q R) {i p x : Nat} (hp : (q.tail :: R)[i]? = some p) (hx : (q.tail :: R)[i + 1]? = some x) : p ≠ q.head := by
  rintro rfl
  have h1 := nodup_at h.nodup hp (last_at h.hd)
  have := (List.getElem?_eq_some_iff.1 hx).1
  omega

theorem lin_new (g : Nat) : Lin (Qu.new g) [] := by
  refine ⟨rfl, by simp, fun x h => by simpa [Qu.new] using h, fun i x y hx hy => ?_, rfl, fun k x _ h => ?_, fun k j x _ _ _ h => (by cases h), fun k x p _ h => (by cases h), fun n h => (by cases h), fun k _ => rfl⟩
  · simp at hy
  · rcases h with h | h <;> cases h

/-- a thread's record alone changes, and not to what others speak of -/
theorem Lin.set {q : Qu} {R : List Nat} (h : Lin q R) {k : Nat} {r : Rq} (hold : k ≠ 0 → ∀ y x, q.th k ≠ ⟨3, some y, some x⟩)
    (hfr : k ≠ 0 → ∀ x, (r = ⟨1, some x, none⟩ ∨ r = ⟨2, some x, none⟩) → x ∉ q.tail :: R ∧ q.nx x = none)
    (hown : k ≠ 0 → ∀ j x, j ≠ k → j ≠ 0 → r.node = some x → (q.th j).node = some x → False)
    (hhalf : k ≠ 0 → ∀ x p, r = ⟨3, some x, some p⟩ → ∃ i, (q.tail :: R)[i]? = some p ∧ (q.tail :: R)[i + 1]? = some x ∧ q.nx p = none)
    (htk : k = 0 → ∀ n, r = ⟨2, some n, none⟩ → q.nx q.tail = some n) (hid : r.pc = 0 → r = Rq.zero) : Lin (q.set k r) R := by
  refine ⟨h.hd, h.nodup, h.mem, fun i x y hx hy => ?_, h.last, fun j x hj e => ?_, fun j j' x hne hj hj' e e' => ?_, fun j x p hj e => ?_, fun n e => ?_, fun j e => ?_⟩
  · rcases h.link i x y hx hy with e | ⟨e, j, hj, e2⟩
    · exact .inl e
    · refine .inr ⟨e, j, hj, ?_⟩
      rw [qset_ne q r (fun ek => by subst ek; exact hold hj y x e2)]
      exact e2
  · by_cases ek : j = k
    · subst ek; rw [qset_th] at e; exact hfr hj x e
    · rw [qset_ne q r ek] at e; exact h.fresh j x hj e
  · by_cases ek : j = k
    · subst ek
      rw [qset_th] at e
      rw [qset_ne q r (fun e => hne e.symm)] at e'
      exact hown hj j' x (fun e => hne e.symm) hj' e e'
    · rw [qset_ne q r ek] at e
      by_cases ek' : j' = k
      · subst ek'
        rw [qset_th] at e'
        exact hown hj' j x ek hj e' e
      · rw [qset_ne q r ek'] at e'
        exact h.own j j' x hne hj hj' e e'
  · by_cases ek : j = k
    · subst ek; rw [qset_th] at e; exact hhalf hj x p e
    · rw [qset_ne q r ek] at e; exact h.half j x p hj e
  · by_cases ek : 0 = k
    · subst ek; rw [qset_th] at e; exact htk rfl n e
    · rw [qset_ne q r ek] at e; exact h.tk n e
  · by_cases ek : j = k
    · subst ek; rw [qset_th] at e ⊢; exact hid e
    · rw [qset_ne q r ek] at e ⊢; exact h.idle j e

theorem nxt_same {q : Qu} {x : Nat} {y : Option Nat} (h : q.nx x = y) : q.nxt x y = q := by
  unfold Qu.nxt
  have : (fun i => if i = x then y else q.nx i) = q.nx := by
    funext i
    by_cases e : i = x
    · subst e; rw [if_pos rfl, h]
    · rw [if_neg e]
  rw [this]

/-- a node more, which is nobody's yet -/
theorem Lin.born {q : Qu} {R : List Nat} (h : Lin q R) (W : Wf q) {x : Nat} (hx : x ∉ q.ids) (u : Int) : Lin (q.born x u) R := by
  have hne : ∀ z, z ∈ q.tail :: R → z ≠ x := fun z hz e => hx (e ▸ h.mem z hz)
  have hin : ∀ i z, (q.tail :: R)[i]? = some z → z ≠ x := fun i z hz => hne z (List.mem_of_getElem? hz)
  have nxe : ∀ z, z ≠ x → (q.born x u).nx z = q.nx z := fun z hz => by simp [Qu.born, hz]
  refine ⟨h.hd, h.nodup, fun z hz => List.mem_append_left _ (h.mem z hz), fun i a c ha hc => ?_, ?_, fun k z hk e => ?_, h.own, fun k z p hk e => ?_, fun n e => ?_, h.idle⟩
  · rw [nxe a (hin i a ha)]; exact h.link i a c ha hc
  · show (q.born x u).nx q.head = none
    rw [nxe _ (hin _ _ (last_at h.hd))]; exact h.last
  · have hz := h.fresh k z hk e
    refine ⟨hz.1, ?_⟩
    rw [nxe z (fun ez => ?_)]
    · exact hz.2
    · subst ez
      exact hx (W.node k z (by rcases e with e | e <;> (have e' : q.th k = _ := e; rw [e'])))
  · obtain ⟨i, h1, h2, h3⟩ := h.half k z p hk e
    exact ⟨i, h1, h2, by rw [nxe p (hin i p h1)]; exact h3⟩
  · show (q.born x u).nx q.tail = some n
    rw [nxe _ (hin 0 _ rfl)]; exact h.tk n e

/-- the taker begins -/
theorem Lin.beg0 {q : Qu} {R : List Nat} (h : Lin q R) : Lin (q.set 0 ⟨1, none, none⟩) R :=
  h.set (fun e => absurd rfl e) (fun e => absurd rfl e) (fun e => absurd rfl e) (fun e => absurd rfl e) (fun _ n e => (by cases e)) (fun e => (by simp at e))
/-- a putter begins -/
theorem Lin.beg {q : Qu} {R : List Nat} (h : Lin q R) (W : Wf q) {x k : Nat} (hx : x ∉ q.ids) (hk : k ≠ 0) (hp : q.th k = Rq.zero) (u : Int) : Lin ((q.born x u).set k ⟨1, some x, none⟩) R := by
  refine (h.born W hx u).set (fun _ y z e => ?_) (fun _ z e => ?_) (fun _ j z hj hj0 e e' => ?_) (fun _ z p e => (by cases e)) (fun e => absurd e hk) (fun e => (by simp at e))
  · have e' : q.th k = _ := e
    rw [hp] at e'; cases e'
  · rcases e with e | e
    · cases e
      exact ⟨fun hm => hx (h.mem _ hm), by simp [Qu.born]⟩
    · cases e
  · cases e
    exact hx (W.node j x e')

/-- what an access does to the nodes that are put and not taken, and tells -/
inductive Evq (q : Qu) : Nat → List Nat → List Nat → Qn → Prop
  | t1 (R) : q.th 0 = ⟨1, none, none⟩ → Evq q 0 R R Qn.none
  | t2 (n R) : q.th 0 = ⟨2, some n, none⟩ → Evq q 0 (n :: R) R ⟨true, true, q.v n, 0⟩
  | t3 : q.th 0 = ⟨2, none, none⟩ → Evq q 0 [] [] ⟨true, true, 0, 8⟩
  | t4 (R) : q.th 0 = ⟨2, none, none⟩ → R ≠ [] → Evq q 0 R R ⟨true, true, 0, 14⟩
  | p1 (k x R) : k ≠ 0 → q.th k = ⟨1, some x, none⟩ → Evq q k R R Qn.none
  | p2 (k x R) : k ≠ 0 → q.th k = ⟨2, some x, none⟩ → Evq q k R (R ++ [x]) Qn.none
  | p3 (k x p R) : k ≠ 0 → q.th k = ⟨3, some x, some p⟩ → Evq q k R R ⟨true, false, q.v x, 0⟩

/-- a Take's last access -/
theorem Lin.pop {q : Qu} {n : Nat} {R : List Nat} (h : Lin q (n :: R)) (hn : q.nx q.tail = some n) (h0 : q.th 0 = Rq.zero) : Lin (q.wtail n) R := by
  refine ⟨?_, ?_, ?_, ?_, h.last, ?_, h.own, ?_, ?_, h.idle⟩
  · show (n :: R).getLast? = some q.head
    have := h.hd
    simpa using this
  · exact (List.nodup_cons.1 h.nodup).2
  · exact fun x hx => h.mem x (List.mem_cons_of_mem _ hx)
  · intro i x z hx hz
    exact h.link (i + 1) x z (by simpa [Qu.wtail] using hx) (by simpa [Qu.wtail] using hz)
  · intro k x hk e
    have := h.fresh k x hk e
    exact ⟨fun hm => this.1 (List.mem_cons_of_mem _ hm), this.2⟩
  · intro k x p hk e
    obtain ⟨i, h1, h2, h3⟩ := h.half k x p hk e
    cases i with
    | zero => simp at h1; rw [← h1, hn] at h3; cases h3
    | succ i => exact ⟨i, by simpa [Qu.wtail] using h1, by simpa [Qu.wtail] using h2, h3⟩
  · intro m e
    have e' : q.th 0 = _ := e
    rw [h0] at e'
    cases e'

/-- a Put's second access -/
theorem Lin.swap {q : Qu} {R : List Nat} (h : Lin q R) {k x : Nat} (hxm : x ∈ q.ids) (hk : k ≠ 0) (hr : q.th k = ⟨2, some x, none⟩) : Lin ((q.whead x).set k ⟨3, some x, some q.head⟩) (R ++ [x]) := by
  obtain ⟨hx, hxn⟩ := h.fresh k x hk (.inr hr)
  have hA : (q.tail :: (R ++ [x])) = (q.tail :: R) ++ [x] := rfl
  have hl := last_at h.hd
  have th : ∀ j, j ≠ k → ((q.whead x).set k ⟨3, some x, some q.head⟩).th j = q.th j := fun j hj => qset_ne _ _ hj
  have thk : ((q.whead x).set k ⟨3, some x, some q.head⟩).th k = ⟨3, some x, some q.head⟩ := qset_th _ _ _
  have up : ∀ {i z}, (q.tail :: R)[i]? = some z → (q.tail :: (R ++ [x]))[i]? = some z := fun {i z} hz => by
    rw [hA, List.getElem?_append_left (List.getElem?_eq_some_iff.1 hz).1]; exact hz
  have hL : (q.tail :: R).length - 1 + 1 = (q.tail :: R).length := by simp
  refine ⟨?_, ?_, ?_, ?_, hxn, ?_, ?_, ?_, ?_, ?_⟩
  · show (q.tail :: (R ++ [x])).getLast? = some x
    rw [hA, List.getLast?_append]; rfl
  · show (q.tail :: (R ++ [x])).Nodup
    rw [hA]
    refine List.nodup_append.2 ⟨h.nodup, by simp, fun a ha c hc => ?_⟩
    have : c = x := by simpa using hc
    subst this
    exact fun e => hx (e ▸ ha)
  · intro z hz
    have hz' : z ∈ (q.tail :: R) ++ [x] := hz
    rcases List.mem_append.1 hz' with hz | hz
    · exact h.mem z hz
    · have : z = x := by simpa using hz
      subst this
      exact hxm
  · intro i a c ha hc
    have ha' : ((q.tail :: R) ++ [x])[i]? = some a := ha
    have hc' : ((q.tail :: R) ++ [x])[i + 1]? = some c := hc
    by_cases hi : i + 1 < (q.tail :: R).length
    · rw [List.getElem?_append_left (by omega)] at ha'
      rw [List.getElem?_append_left hi] at hc'
      rcases h.link i a c ha' hc' with e | ⟨e, j, hj, e2⟩
      · exact .inl e
      · refine .inr ⟨e, j, hj, ?_⟩
        rw [th j (fun ej => by subst ej; rw [hr] at e2; cases e2)]
        exact e2
    · have hlen := (List.getElem?_eq_some_iff.1 hc').1
      have hi2 : i + 1 = (q.tail :: R).length := by simp at hlen hi ⊢; omega
      rw [hi2, List.getElem?_append_right (Nat.le_refl _)] at hc'
      rw [List.getElem?_append_left (by omega)] at ha'
      have : i = (q.tail :: R).length - 1 := by omega
      rw [this, hl] at ha'
      cases ha'
      have : x = c := by simpa using hc'
      subst this
      exact .inr ⟨h.last, k, hk, thk⟩
  · intro j z hj e
    by_cases ej : j = k
    · subst ej; rw [thk] at e; rcases e with e | e <;> cases e
    · rw [th j ej] at e
      have hz := h.fresh j z hj e
      refine ⟨fun hm => ?_, hz.2⟩
      have hm' : z ∈ (q.tail :: R) ++ [x] := hm
      rcases List.mem_append.1 hm' with hm | hm
      · exact hz.1 hm
      · have : z = x := by simpa using hm
        subst this
        exact h.own j k z ej hj hk (by rcases e with e | e <;> rw [e]) (by rw [hr])
  · have nd : ∀ j, (((q.whead x).set k ⟨3, some x, some q.head⟩).th j).node = (q.th j).node := fun j => by
      by_cases ej : j = k
      · subst ej; rw [thk, hr]
      · rw [th j ej]
    intro j j' z hne hj hj' e e'
    rw [nd] at e e'
    exact h.own j j' z hne hj hj' e e'
  · intro j z p hj e
    by_cases ej : j = k
    · subst ej
      rw [thk] at e
      cases e
      refine ⟨(q.tail :: R).length - 1, up hl, ?_, h.last⟩
      show ((q.tail :: R) ++ [x])[(q.tail :: R).length - 1 + 1]? = some x
      rw [hL]; simp
    · rw [th j ej] at e
      obtain ⟨i, h1, h2, h3⟩ := h.half j z p hj e
      exact ⟨i, up h1, up h2, h3⟩
  · intro n e
    rw [th 0 (fun e => hk e.symm)] at e
    exact h.tk n e
  · intro j e
    by_cases ej : j = k
    · subst ej; rw [thk] at e; simp at e
    · rw [th j ej] at e ⊢; exact h.idle j e

/-- a Put's third access -/
theorem Lin.join {q : Qu} {R : List Nat} (h : Lin q R) {k x p : Nat} (hk : k ≠ 0) (hr : q.th k = ⟨3, some x, some p⟩) : Lin ((q.nxt p (some x)).set k Rq.zero) R := by
  obtain ⟨i, h1, h2, h3⟩ := h.half k x p hk hr
  have th : ∀ j, j ≠ k → ((q.nxt p (some x)).set k Rq.zero).th j = q.th j := fun j hj => qset_ne _ _ hj
  have thk : ((q.nxt p (some x)).set k Rq.zero).th k = Rq.zero := qset_th _ _ _
  have nxp : ((q.nxt p (some x)).set k Rq.zero).nx p = some x := by simp [Qu.nxt, Qu.set]
  have nxe : ∀ z, z ≠ p → ((q.nxt p (some x)).set k Rq.zero).nx z = q.nx z := fun z hz => by simp [Qu.nxt, Qu.set, hz]
  refine ⟨h.hd, h.nodup, h.mem, fun j a c ha hc => ?_, ?_, fun j z hj e => ?_, fun j j' z hne hj hj' e e' => ?_, fun j z r hj e => ?_, fun n e => ?_, fun j e => ?_⟩
  · by_cases ea : a = p
    · subst ea
      obtain rfl := nodup_at h.nodup ha h1
      have hc' : (q.tail :: R)[j + 1]? = some c := hc
      rw [h2] at hc'
      cases hc'
      exact .inl nxp
    · rcases h.link j a c ha hc with e | ⟨e, j', hj', e2⟩
      · exact .inl ((nxe a ea).trans e)
      · refine .inr ⟨(nxe a ea).trans e, j', hj', ?_⟩
        rw [th j' (fun ej => by subst ej; rw [hr] at e2; cases e2; exact ea rfl)]
        exact e2
  · show ((q.nxt p (some x)).set k Rq.zero).nx q.head = none
    rw [nxe _ (fun e => h.ne_head h1 h2 e.symm)]; exact h.last
  · by_cases ej : j = k
    · subst ej; rw [thk] at e; rcases e with e | e <;> cases e
    · rw [th j ej] at e
      have hz := h.fresh j z hj e
      exact ⟨hz.1, (nxe z (fun ez => hz.1 (ez ▸ List.mem_of_getElem? h1))).trans hz.2⟩
  · have nd : ∀ j y, (((q.nxt p (some x)).set k Rq.zero).th j).node = some y → (q.th j).node = some y := fun j y e => by
      by_cases ej : j = k
      · subst ej; rw [thk] at e; cases e
      · rw [th j ej] at e; exact e
    exact h.own j j' z hne hj hj' (nd _ _ e) (nd _ _ e')
  · by_cases ej : j = k
    · subst ej; rw [thk] at e; cases e
    · rw [th j ej] at e
      obtain ⟨i', g1, g2, g3⟩ := h.half j z r hj e
      refine ⟨i', g1, g2, (nxe r (fun er => ?_)).trans g3⟩
      subst er
      obtain rfl := nodup_at h.nodup g1 h1
      rw [h2] at g2
      cases g2
      exact h.own j k x ej hj hk (by rw [e]) (by rw [hr])
  · rw [th 0 (fun e => hk e.symm)] at e
    have ht := h.tk n e
    show ((q.nxt p (some x)).set k Rq.zero).nx q.tail = some n
    rw [nxe _ (fun et => by rw [et, h3] at ht; cases ht)]
    exact ht
  · by_cases ej : j = k
    · subst ej; exact thk
    · rw [th j ej] at e ⊢; exact h.idle j e

theorem lin_step {q : Qu} {R : List Nat} (h : Lin q R) (W : Wf q) {k : Nat} (hp : 0 < (q.th k).pc) :
    ∃ R', Lin (qstp q k).1 R' ∧ Evq q k R R' (qstp q k).2 := by
  have hc := W.pc k
  generalize hr : q.th k = r at hc
  cases hc with
  | idle => rw [hr] at hp; simp [Rq.zero] at hp
  | t1 =>
    rw [qstp_t1 q hr]
    exact ⟨R, h.set (fun e => absurd rfl e) (fun e => absurd rfl e) (fun e => absurd rfl e) (fun e => absurd rfl e) (fun _ n e => (by injection e)) (fun e => (by simp at e)), .t1 R hr⟩
  | t2 n =>
    cases n with
    | none =>
      rw [qstp_t3 q hr]
      have hz : Lin (q.set 0 Rq.zero) R := h.set (fun e => absurd rfl e) (fun e => absurd rfl e) (fun e => absurd rfl e) (fun e => absurd rfl e) (fun _ n e => (by cases e)) (fun e => rfl)
      cases R with
      | nil =>
        have : q.head = q.tail := by have := h.hd; simp at this; exact this.symm
        rw [if_pos this]
        exact ⟨[], hz, .t3 hr⟩
      | cons y R =>
        have : q.head ≠ q.tail := fun e => h.ne_head (i := 0) (p := q.tail) (x := y) rfl rfl e.symm
        rw [if_neg this]
        exact ⟨_, hz, .t4 _ hr (by simp)⟩
    | some n =>
      rw [qstp_t2 q hr]
      have hn := h.tk n hr
      cases R with
      | nil =>
        have e : q.head = q.tail := by have := h.hd; simp at this; exact this.symm
        have := h.last
        rw [e, hn] at this; cases this
      | cons y R =>
        obtain rfl : n = y := by
          rcases h.link 0 q.tail y rfl rfl with e | ⟨e, _⟩
          · rw [hn] at e; cases e; rfl
          · rw [hn] at e; cases e
        refine ⟨R, ?_, .t2 n R hr⟩
        have hz : Lin (q.set 0 Rq.zero) (n :: R) := h.set (fun e => absurd rfl e) (fun e => absurd rfl e) (fun e => absurd rfl e) (fun e => absurd rfl e) (fun _ n e => (by cases e)) (fun e => rfl)
        exact hz.pop hn (qset_th q 0 _)
  | p1 hk x =>
    have hx := h.fresh k x hk (.inl hr)
    rw [qstp_p1 q hk hr, nxt_same hx.2]
    exact ⟨R, h.set (fun _ y z e => by rw [hr] at e; cases e) (fun _ y e => by rcases e with e | e <;> cases e; exact hx) (fun _ j y hj hj0 e e' => by cases e; exact h.own k j x (fun e => hj e.symm) hk hj0 (by rw [hr]) e') (fun _ y p e => (by cases e)) (fun e => absurd e hk) (fun e => (by simp at e)), .p1 k x R hk hr⟩
  | p2 hk x => rw [qstp_p2 q hk hr]; exact ⟨_, h.swap (W.node k x (by rw [hr])) hk hr, .p2 k x R hk hr⟩
  | p3 hk x p => rw [qstp_p3 q hk hr]; exact ⟨R, h.join hk hr, .p3 k x p R hk hr⟩

/-- what of them can be come to: next by next -/
def Chn (q : Qu) : Option Nat → List Nat → Prop
  | o, [] => o = none
  | o, x :: l => o = some x ∧ x ∈ q.ids ∧ Chn q (q.nx x) l

theorem chn_of (q : Qu) : ∀ (R : List Nat) (x : Nat), (∀ i a c, (x :: R)[i]? = some a → (x :: R)[i + 1]? = some c → q.nx a = some c ∨ q.nx a = none) → (∀ a, a ∈ x :: R → a ∈ q.ids) →
    (∀ a, (x :: R).getLast? = some a → q.nx a = none) → ∃ l, Chn q (q.nx x) l ∧ l <+: R ∧ ((∀ i a c, (x :: R)[i]? = some a → (x :: R)[i + 1]? = some c → q.nx a = some c) → l = R)
  | [], x, _, _, hl => ⟨[], hl x rfl, List.prefix_refl _, fun _ => rfl⟩
  | y :: R, x, h1, h2, hl => by
    rcases h1 0 x y rfl rfl with e | e
    · obtain ⟨l, c1, c2, c3⟩ := chn_of q R y (fun i a c ha hc => h1 (i + 1) a c (by simpa using ha) (by simpa using hc)) (fun a ha => h2 a (List.mem_cons_of_mem _ ha)) (fun a ha => hl a (by simpa using ha))
      refine ⟨y :: l, ⟨e, h2 y (by simp), c1⟩, List.cons_prefix_cons.2 ⟨rfl, c2⟩, fun hA => ?_⟩
      rw [c3 (fun i a c ha hc => hA (i + 1) a c (by simpa using ha) (by simpa using hc))]
    · exact ⟨[], e, List.nil_prefix, fun hA => by have := hA 0 x y rfl rfl; rw [e] at this; cases this⟩

theorem Lin.chn {q : Qu} {R : List Nat} (h : Lin q R) : ∃ l, Chn q (q.nx q.tail) l ∧ l <+: R ∧ ((∀ k, k ≠ 0 → (q.th k).pc ≠ 3) → l = R) := by
  obtain ⟨l, c1, c2, c3⟩ := chn_of q R q.tail (fun i a c ha hc => (h.link i a c ha hc).imp id And.left) h.mem (fun a ha => by rw [h.hd] at ha; cases ha; exact h.last)
  refine ⟨l, c1, c2, fun hA => c3 fun i a c ha hc => ?_⟩
  rcases h.link i a c ha hc with e | ⟨_, k, hk, e⟩
  · exact e
  · exact absurd (by rw [e]) (hA k hk)

/-- an access leaves the values, and all other threads -/
theorem Evq.rest {q : Qu} {k : Nat} {R R' : List Nat} {y : Qn} (h : Evq q k R R' y) : (qstp q k).1.v = q.v ∧ (qstp q k).1.ids = q.ids ∧ ∀ j, j ≠ k → (qstp q k).1.th j = q.th j := by
  cases h with
  | t1 R hr => rw [qstp_t1 q hr]; exact ⟨rfl, rfl, fun j hj => qset_ne _ _ hj⟩
  | t2 n R hr => rw [qstp_t2 q hr]; exact ⟨rfl, rfl, fun j hj => qset_ne _ _ hj⟩
  | t3 hr => rw [qstp_t3 q hr]; exact ⟨rfl, rfl, fun j hj => qset_ne _ _ hj⟩
  | t4 R hr _ => rw [qstp_t3 q hr]; exact ⟨rfl, rfl, fun j hj => qset_ne _ _ hj⟩
  | p1 k x R hk hr => rw [qstp_p1 q hk hr]; exact ⟨rfl, rfl, fun j hj => qset_ne _ _ hj⟩
  | p2 k x R hk hr => rw [qstp_p2 q hk hr]; exact ⟨rfl, rfl, fun j hj => qset_ne _ _ hj⟩
  | p3 k x p R hk hr => rw [qstp_p3 q hk hr]; exact ⟨rfl, rfl, fun j hj => qset_ne _ _ hj⟩

end Go.Proofs.Ytingpopcdihclab
