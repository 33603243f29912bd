/-
  The reference's expression and Text, for every valid expression.
-/
import Derived.Test.YtbgpboiblggmiaaGreatDoorQVrj
set_option linter.unusedVariables false
set_option linter.unusedSimpArgs false
namespace Go.Proofs.YtbgpboiblggmiaaGreatDoor
open Go.RowKit
open Px (St T D Res)

theorem rtx_any : ∀ n : Nat, n ≤ 8000 → (∀ t, Px.size t ≤ n → EV t → TxSaid t) ∧ (∀ t, Px.size t ≤ n → RV t → TxSaid t)
  | 0, _ => ⟨fun t h => by cases t; rw [Px.size] at h; omega, fun t h => by cases t; rw [Px.size] at h; omega⟩
  | n + 1, hn => by
    obtain ⟨ih1, ih2⟩ := rtx_any n (by omega)
    have hlen : ∀ t, Px.size t ≤ n → EV t → (tx t).length ≤ 900000 := fun t h hv => by have := (tx_len n).1 t h hv; omega
    have hlenR : ∀ t, Px.size t ≤ n → RV t → (tx t).length ≤ 900000 := fun t h hv => by have := (tx_len n).2 t h hv; omega
    have hr : ∀ t, Px.size t ≤ n + 1 → RV t → TxSaid t := by
      intro t h hv
      cases hv with
      | ref x o hx => exact rtx_ref x o hx
      | idx x o e hx he =>
        rw [Px.size, Px.sizes, Px.sizes] at h
        exact rtx_idx x o e hx (ih1 e (by omega) he) (hlen e (by omega) he)
    refine ⟨fun t h hv => ?_, hr⟩
    cases hv with
    | num m o hm => exact rtx_num m o hm
    | up _ hv => exact hr t h hv
    | all k x m e o hk hx hm he =>
      rw [Px.size, Px.sizes, Px.sizes] at h
      rcases hk with rfl | rfl
      · exact rtx_all x m e o hx hm (ih1 e (by omega) he) (hlen e (by omega) he)
      · exact rtx_some x m e o hx hm (ih1 e (by omega) he) (hlen e (by omega) he)
    | cond a b c o ha hb hc =>
      rw [Px.size, Px.sizes, Px.sizes, Px.sizes, Px.sizes] at h
      exact rtx_cond a b c o (ih1 a (by omega) ha) (ih1 b (by omega) hb) (ih1 c (by omega) hc) (hlen a (by omega) ha) (hlen b (by omega) hb) (hlen c (by omega) hc)
    | bin x a b o hx ha hb =>
      rw [Px.size, Px.sizes, Px.sizes, Px.sizes] at h
      exact rtx_bin x a b o hx (ih1 a (by omega) ha) (ih1 b (by omega) hb) (hlen a (by omega) ha) (hlen b (by omega) hb)
    | not a o ha =>
      rw [Px.size, Px.sizes, Px.sizes] at h
      exact rtx_not a o (ih1 a (by omega) ha) (hlen a (by omega) ha)
    | old a o ha =>
      rw [Px.size, Px.sizes, Px.sizes] at h
      exact rtx_old a o (ih2 a (by omega) ha) (hlenR a (by omega) ha)

set_option maxRecDepth 100000 in
set_option maxHeartbeats 1000000 in
theorem rtext_any (t : T) (hv : EV t) (hs : Px.size t ≤ 8000) (hk8 : 1 ≤ t.kind ∧ t.kind ≤ 8) (a : Option Addr) (cap : Nat) (w : World) (hk : RRow w.heap.size w t.kids (.slice a t.kids.length cap)) :
    Calls Tryz.prog 19 #[nodeVal t (.slice a t.kids.length cap)] w fun e w' => e = .returned (.string ⟨(tx t).toArray⟩) ∧ Below w.heap.size w w' := by
  have c1 : decide (1 ≤ t.kind) = true := decide_eq_true hk8.1
  have c2 : decide (t.kind ≤ 8) = true := decide_eq_true hk8.2
  have He := Lib.hid ((rtx_any 8000 (Nat.le_refl _)).1 t hs hv a cap)
  have Hk := Lib.hid hk
  obtain ⟨x, hx⟩ : ∃ x, x = tx t := ⟨_, rfl⟩
  rw [← hx] at He ⊢
  clear hk hv hs hk8 hx
  unfold nodeVal at He ⊢
  go_enter Tryz.func19, Tryz.ntmps19
  go_wp2_with fail
  obtain ⟨W, hW⟩ : ∃ W, W = w.alloc (.cells #[.int .i64 t.kind, .string ⟨t.name.toArray⟩, .string ⟨t.other.toArray⟩, .int .i64 t.n, .int .i64 t.len, .int .i64 t.init, .bool t.ghost, .slice a t.kids.length cap, .int .i64 t.off] 25) := ⟨_, rfl⟩
  have hWs : w.heap.size < W.heap.size := by rw [hW]; simp
  have Hb := Lib.hid (show Below w.heap.size w W by rw [hW]; exact (Below.refl _ _).alloc (Nat.le_refl _) _)
  have HWn := Lib.hid (show NineAt W w.heap.size 0 t (.slice a t.kids.length cap) by rw [hW]; exact NineAt.var w t _)
  have z0 : Var 25 W w.heap.size #[.int .i64 t.kind, .string ⟨t.name.toArray⟩, .string ⟨t.other.toArray⟩, .int .i64 t.n, .int .i64 t.len, .int .i64 t.init, .bool t.ghost, .slice a t.kids.length cap, .int .i64 t.off] := by rw [hW]; exact Var.new _ _ _
  have Hz := Lib.hid z0
  clear z0
  rw [← hW]
  clear hW
  obtain ⟨e0, e1, e2, e3, e4, e5, e6, e7, e8⟩ := HWn.out
  simp only [Nat.zero_add] at e0 e1 e2 e3 e4 e5 e6 e7 e8
  go_wp2_with fail
  refine (He.out W ((Hk.out.below Hb.out).mono (by omega))).mono ?_
  rintro e w1 ⟨rfl, hb1⟩
  have Hb1 := Lib.hid (Hb.out.trans (hb1.mono Hb.out.size))
  clear hb1
  go_wp2_with fail
  go_ret
  exact ⟨rfl, Hb1.out⟩
end Go.Proofs.YtbgpboiblggmiaaGreatDoor

