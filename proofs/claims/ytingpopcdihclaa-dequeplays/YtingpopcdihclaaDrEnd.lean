/-
  The document's push, pop and steal, walked way by way.
-/
import Derived.Test.YtingpopcdihclaaDrMem
namespace Go.Proofs.Ytingpopcdihclaa
open Go.RowKit
set_option linter.unusedVariables false
set_option maxRecDepth 8192

/-- what an access of the document's leaves and tells -/
def AM (w : World) (b g h S : Nat) (d' : Mq) (y : Dn) (e : Ending) (w' : World) : Prop := e = .returned (dnV y) ∧ IsM w' b g h S d' ∧ FrM b g h w w'

theorem DmAt.new4 {W W' : World} {n : Nat} (hs : W.heap.size = n) (e : W'.heap = (W.alloc (.cells #[.bool false, .int .i64 0, .int .i64 0, .int .i64 0] 41)).heap) : DmAt W' n Dn.none := by
  have := DmAt.new2 (W := W) hs
  unfold DmAt at *
  rw [e]; exact this

theorem dm_fr (w : World) (b : Nat) (y : Dn) : Fr (fun k => k = b) w ((((w.setCell ⟨b, 0, none⟩ (.bool y.over)).setCell ⟨b, 1, none⟩ (.int .i64 y.op)).setCell ⟨b, 2, none⟩ (.int .i64 y.v)).setCell ⟨b, 3, none⟩ (.int .i64 y.err)) := dn_fr w b y

theorem mset7_size (w : World) (h o : Nat) (r : Mt) : (mset7 w h o r).heap.size = w.heap.size := by unfold mset7; simp

/-- the last lines where the thread is laid back -/
theorem end_set {w W : World} {b g h S : Nat} {d' : Mq} (T : Obj) (hR : W.heap.size = w.heap.size) (m : IsM W b g h S d') (hF : FrM b g h w W) :
    DmAt ((W.alloc T).alloc (.cells #[.bool false, .int .i64 0, .int .i64 0, .int .i64 0] 41)).drew (w.heap.size + 1) Dn.none ∧ IsM ((W.alloc T).alloc (.cells #[.bool false, .int .i64 0, .int .i64 0, .int .i64 0] 41)).drew b g h S d' ∧ FrM b g h w ((W.alloc T).alloc (.cells #[.bool false, .int .i64 0, .int .i64 0, .int .i64 0] 41)).drew :=
  ⟨DmAt.new2 (W := W.alloc T) (by rw [World.size_alloc, hR]), ((m.al _).al _).same rfl, ((hF.alloc T).alloc _).drew⟩

theorem end_set3 {w W : World} {b g h S : Nat} {d' : Mq} (T : Obj) (hR : W.heap.size = w.heap.size) (m : IsM W b g h S d') (hF : FrM b g h w W) :
    DmAt ((W.alloc T).alloc (.cells #[.bool false, .int .i64 0, .int .i64 0, .int .i64 0] 41)).drew.drew (w.heap.size + 1) Dn.none ∧ IsM ((W.alloc T).alloc (.cells #[.bool false, .int .i64 0, .int .i64 0, .int .i64 0] 41)).drew.drew b g h S d' ∧ FrM b g h w ((W.alloc T).alloc (.cells #[.bool false, .int .i64 0, .int .i64 0, .int .i64 0] 41)).drew.drew :=
  ⟨DmAt.new2 (W := W.alloc T) (by rw [World.size_alloc, hR]), ((m.al _).al _).same rfl, ((hF.alloc T).alloc _).drew.drew⟩

/-- where a region stood ahead: W is what it left -/
theorem end_set2 {w W : World} {b g h S : Nat} {d' : Mq} (hb : b < w.heap.size) (hg : g < w.heap.size) (hh : h < w.heap.size) (o : Nat) (r : Mt) (hq : DmAt W (w.heap.size + 1) Dn.none) (m : IsM (mset7 W h o r) b g h S d') (hF : FrM b g h w W) :
    DmAt (((((mset7 W h o r).setCell ⟨w.heap.size + 1, 0, none⟩ (.bool false)).setCell ⟨w.heap.size + 1, 1, none⟩ (.int .i64 0)).setCell ⟨w.heap.size + 1, 2, none⟩ (.int .i64 0)).setCell ⟨w.heap.size + 1, 3, none⟩ (.int .i64 0)) (w.heap.size + 1) Dn.none ∧
    IsM (((((mset7 W h o r).setCell ⟨w.heap.size + 1, 0, none⟩ (.bool false)).setCell ⟨w.heap.size + 1, 1, none⟩ (.int .i64 0)).setCell ⟨w.heap.size + 1, 2, none⟩ (.int .i64 0)).setCell ⟨w.heap.size + 1, 3, none⟩ (.int .i64 0)) b g h S d' ∧
    FrM b g h w (((((mset7 W h o r).setCell ⟨w.heap.size + 1, 0, none⟩ (.bool false)).setCell ⟨w.heap.size + 1, 1, none⟩ (.int .i64 0)).setCell ⟨w.heap.size + 1, 2, none⟩ (.int .i64 0)).setCell ⟨w.heap.size + 1, 3, none⟩ (.int .i64 0)) :=
  ⟨(hq.fr (mset7_fr W h o r) (by omega)).set Dn.none, m.fr (dm_fr (mset7 W h o r) (w.heap.size + 1) Dn.none) (by omega) (by omega) (by omega),
    (hF.trans (mset7_fr W h o r) (fun _ _ h => h) (fun _ _ h => .inr (.inr h))).trans (dm_fr (mset7 W h o r) (w.heap.size + 1) Dn.none) (fun _ _ h => h) (fun i hi e => by omega)⟩

theorem DmAt.drew {w : World} {b : Nat} {x : Dn} (h : DmAt w b x) : DmAt w.drew b x := h
theorem IsM.drew {w : World} {b g h S : Nat} {d : Mq} (m : IsM w b g h S d) : IsM w.drew b g h S d := m.same rfl

theorem end_set4 {w W : World} {b g h S : Nat} {d' : Mq} (hb : b < w.heap.size) (hg : g < w.heap.size) (hh : h < w.heap.size) (o : Nat) (r : Mt) (hq : DmAt W (w.heap.size + 1) Dn.none) (m : IsM (mset7 W h o r) b g h S d') (hF : FrM b g h w W) :
    DmAt (((((mset7 W h o r).setCell ⟨w.heap.size + 1, 0, none⟩ (.bool false)).setCell ⟨w.heap.size + 1, 1, none⟩ (.int .i64 0)).setCell ⟨w.heap.size + 1, 2, none⟩ (.int .i64 0)).setCell ⟨w.heap.size + 1, 3, none⟩ (.int .i64 0)).drew (w.heap.size + 1) Dn.none ∧
    IsM (((((mset7 W h o r).setCell ⟨w.heap.size + 1, 0, none⟩ (.bool false)).setCell ⟨w.heap.size + 1, 1, none⟩ (.int .i64 0)).setCell ⟨w.heap.size + 1, 2, none⟩ (.int .i64 0)).setCell ⟨w.heap.size + 1, 3, none⟩ (.int .i64 0)).drew b g h S d' ∧
    FrM b g h w (((((mset7 W h o r).setCell ⟨w.heap.size + 1, 0, none⟩ (.bool false)).setCell ⟨w.heap.size + 1, 1, none⟩ (.int .i64 0)).setCell ⟨w.heap.size + 1, 2, none⟩ (.int .i64 0)).setCell ⟨w.heap.size + 1, 3, none⟩ (.int .i64 0)).drew :=
  have he := end_set2 hb hg hh o r hq m hF
  ⟨he.1.drew, he.2.1.drew, he.2.2.drew⟩

theorem DmAt.new5 {W : World} {n : Nat} (hs : W.heap.size = n) (q : Nat) : DmAt ((W.alloc (.cells #[.bool false, .int .i64 0, .int .i64 0, .int .i64 0] 41)).drewN q) n Dn.none := DmAt.new2 hs

/-- and where the operation is over: w1 is what the other call has left -/
theorem end_over {w W1 w1 : World} {b g h S : Nat} {d' : Mq} (hb : b < w.heap.size) (hg : g < w.heap.size) (hh : h < w.heap.size) (hD : IsM w1 b g h S d') (h0 : FrM b g h w W1) (hF : Fr (fun k => k = h) W1 w1) (hq : DmAt w1 (w.heap.size + 1) Dn.none) (y : Dn) (T : Obj) :
    DmAt (((((w1.setCell ⟨w.heap.size + 1, 0, none⟩ (.bool y.over)).setCell ⟨w.heap.size + 1, 1, none⟩ (.int .i64 y.op)).setCell ⟨w.heap.size + 1, 2, none⟩ (.int .i64 y.v)).setCell ⟨w.heap.size + 1, 3, none⟩ (.int .i64 y.err)).alloc T) (w.heap.size + 1) y ∧
    IsM (((((w1.setCell ⟨w.heap.size + 1, 0, none⟩ (.bool y.over)).setCell ⟨w.heap.size + 1, 1, none⟩ (.int .i64 y.op)).setCell ⟨w.heap.size + 1, 2, none⟩ (.int .i64 y.v)).setCell ⟨w.heap.size + 1, 3, none⟩ (.int .i64 y.err)).alloc T) b g h S d' ∧
    FrM b g h w (((((w1.setCell ⟨w.heap.size + 1, 0, none⟩ (.bool y.over)).setCell ⟨w.heap.size + 1, 1, none⟩ (.int .i64 y.op)).setCell ⟨w.heap.size + 1, 2, none⟩ (.int .i64 y.v)).setCell ⟨w.heap.size + 1, 3, none⟩ (.int .i64 y.err)).alloc T) :=
  ⟨(hq.set y).fr ((Fr.refl (fun _ => False) _).alloc T) (fun h => h), (hD.fr (dm_fr w1 (w.heap.size + 1) y) (by omega) (by omega) (by omega)).al T,
    ((h0.trans hF (fun _ _ h => h) (fun _ _ h => .inr (.inr h))).trans (dm_fr w1 (w.heap.size + 1) y) (fun _ _ h => h) (fun i hi e => by omega)).alloc T⟩


end Go.Proofs.Ytingpopcdihclaa
