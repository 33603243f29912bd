/-
  The reference's paren, expression, Text.
-/
import Derived.Test.YtbgpboiblggmiaaGreatDoorQVrg
import Derived.Test.YtbgpboiblggmiaaGreatDoorQRgn
set_option linter.unusedVariables false
set_option linter.unusedSimpArgs false
namespace Go.Proofs.YtbgpboiblggmiaaGreatDoor
open Go.RowKit
open Px (St T D Res)

/-- expression's contract for a tree -/
def TxSaid (t : T) : Prop := ∀ (a : Option Addr) (cap : Nat) (w : World), RRow w.heap.size w t.kids (.slice a t.kids.length cap) → Calls Tryz.prog 44 #[nodeVal t (.slice a t.kids.length cap)] w fun e w' => e = .returned (.string ⟨(tx t).toArray⟩) ∧ Below w.heap.size w w'
def ptx (t : T) : List UInt8 := [40] ++ tx t ++ [41]

theorem ret_strX {s s' : ByteArray} (h : s = s') : Ending.returned (.string s) = .returned (.string s') := by rw [h]
set_option maxRecDepth 100000 in
set_option maxHeartbeats 1000000 in
theorem paren_any (t : T) (h : TxSaid t) (hl : (tx t).length ≤ 900000) (a : Option Addr) (cap : Nat) (w : World) (hk : RRow w.heap.size w t.kids (.slice a t.kids.length cap)) : Calls Tryz.prog 67 #[nodeVal t (.slice a t.kids.length cap)] w fun e w' => e = .returned (.string ⟨(ptx t).toArray⟩) ∧ Below w.heap.size w w' := by
  have H := Lib.hid h
  have Hk := Lib.hid hk
  have hp : ptx t = [40] ++ tx t ++ [41] := rfl
  obtain ⟨x, hx⟩ : ∃ x, x = tx t := ⟨_, rfl⟩
  rw [← hx] at hl hp
  rw [hp]
  have Hx := Lib.hid hx
  clear h hk hx hp
  unfold nodeVal
  go_enter Tryz.func67, Tryz.ntmps67
  go_wp2_with fail
  obtain ⟨W, hW⟩ : ∃ W, W = w.alloc (.cells #[.int .i64 t.kind, .string ⟨t.name.toArray⟩, .string ⟨t.other.toArray⟩, .int .i64 t.n, .int .i64 t.len, .int .i64 t.init, .bool t.ghost, .slice a t.kids.length cap, .int .i64 t.off] 25) := ⟨_, rfl⟩
  have hWs : w.heap.size < W.heap.size := by rw [hW]; simp
  have Hb := Lib.hid (show Below w.heap.size w W by rw [hW]; exact (Below.refl _ _).alloc (Nat.le_refl _) _)
  have HWn := Lib.hid (show NineAt W w.heap.size 0 t (.slice a t.kids.length cap) by rw [hW]; exact NineAt.var w t _)
  have z0 : Var 25 W w.heap.size #[.int .i64 t.kind, .string ⟨t.name.toArray⟩, .string ⟨t.other.toArray⟩, .int .i64 t.n, .int .i64 t.len, .int .i64 t.init, .bool t.ghost, .slice a t.kids.length cap, .int .i64 t.off] := by rw [hW]; exact Var.new _ _ _
  have Hz := Lib.hid z0
  clear z0
  rw [← hW]
  clear hW
  obtain ⟨e0, e1, e2, e3, e4, e5, e6, e7, e8⟩ := HWn.out
  simp only [Nat.zero_add] at e0 e1 e2 e3 e4 e5 e6 e7 e8
  go_wp2_with fail
  refine (H.out a cap W ((Hk.out.below Hb.out).mono (by omega))).mono ?_
  rintro e w1 ⟨rfl, hb1⟩
  rw [← Hx.out]
  have Hb1 := Lib.hid (Hb.out.trans (hb1.mono (by omega)))
  have ht1 : ¬ (9223372036854775807 < 1 + x.length) := by omega
  have ht2 : ¬ (9223372036854775807 < 1 + x.length + 1) := by omega
  clear hb1
  go_wp2_with fail
  go_ret
  refine ⟨ret_strX ?_, Hb1.out⟩
  apply ByteArray.ext
  simp
theorem fl_names : ∀ (a : Px.Str) (r : List Px.Str), fl (pthN (a :: r)) = joinN a r
  | a, [] => by rw [joinN]; show a ++ [] = a; simp
  | a, b :: r => by
    have := fl_names b r
    show a ++ ([46] ++ fl (pthN (b :: r))) = _
    rw [this, joinN]
    rfl
theorem fl_path {x : Px.Str} (h : PathV x) : fl (pth x) = x := by
  obtain ⟨a, r, rfl, h1, _⟩ := h
  rw [path_pieces a r h1, fl_names]
theorem fl_par (sp : Bool) (p : List Pc) : fl (par sp p) = (if sp then [32] else []) ++ ([40] ++ fl p ++ [41]) := by
  unfold par
  cases sp <;> simp [fl, fl_app]
theorem tx_num (n o : Int) : tx (.mk 1 [] [] n 0 0 false [] o) = dig n.toNat := by show dig n.toNat ++ [] = _; simp
theorem tx_ref {x : Px.Str} (o : Int) (h : PathV x) : tx (.mk 2 x [] 0 0 0 false [] o) = x := fl_path h
theorem tx_idx {x : Px.Str} (o : Int) (e : T) (h : PathV x) : tx (.mk 2 x [] 0 0 0 false [e] o) = x ++ [91] ++ tx e ++ [93] := by
  show fl (pth x ++ (false, 3, [91]) :: (pcs e ++ [(false, 3, [93])])) = _
  rw [fl_app, fl_path h]
  simp [fl, fl_app, tx]
theorem tx_old (a : T) (o : Int) : tx (.mk 3 [] [] 0 0 0 false [a] o) = [111, 108, 100, 40] ++ tx a ++ [41] := by
  show fl ((false, 1, [111, 108, 100]) :: par false (pcs a)) = _
  simp [fl, fl_par, tx]
theorem tx_not (a : T) (o : Int) : tx (.mk 4 [] [] 0 0 0 false [a] o) = [33] ++ ptx a := by
  show fl ((false, 3, [33]) :: par false (pcs a)) = _
  simp [fl, fl_par, tx, ptx]
theorem tx_bin (x : Px.Str) (a b : T) (o : Int) : tx (.mk 5 x [] 0 0 0 false [a, b] o) = ptx a ++ [32] ++ x ++ [32] ++ ptx b := by
  show fl (par false (pcs a) ++ (true, 3, x) :: par true (pcs b)) = _
  simp [fl, fl_app, fl_par, tx, ptx]
theorem tx_cond (a b c : T) (o : Int) : tx (.mk 6 [] [] 0 0 0 false [a, b, c] o) = ptx a ++ [32, 63, 32] ++ ptx b ++ [32, 58, 32] ++ ptx c := by
  show fl (par false (pcs a) ++ (true, 3, [63]) :: (par true (pcs b) ++ (true, 3, [58]) :: par true (pcs c))) = _
  simp [fl, fl_app, fl_par, tx, ptx]
theorem tx_all (x : Px.Str) (n : Int) (e : T) (o : Int) : tx (.mk 7 x [] n 0 0 false [e] o) = [97, 108, 108, 32] ++ x ++ [32, 60, 32] ++ dig n.toNat ++ [32, 58, 32] ++ ptx e := by
  show fl ((false, 1, [97, 108, 108]) :: (true, 1, x) :: (true, 3, [60]) :: (true, 2, dig n.toNat) :: (true, 3, [58]) :: par true (pcs e)) = _
  simp [fl, fl_par, tx, ptx]
theorem tx_some (x : Px.Str) (n : Int) (e : T) (o : Int) : tx (.mk 8 x [] n 0 0 false [e] o) = [115, 111, 109, 101, 32] ++ x ++ [32, 60, 32] ++ dig n.toNat ++ [32, 58, 32] ++ ptx e := by
  show fl ((false, 1, [115, 111, 109, 101]) :: (true, 1, x) :: (true, 3, [60]) :: (true, 2, dig n.toNat) :: (true, 3, [58]) :: par true (pcs e)) = _
  simp [fl, fl_par, tx, ptx]
theorem path_len {x : Px.Str} (h : PathV x) : x.length ≤ 51 := by
  obtain ⟨a, r, rfl, h1, h2⟩ := h
  have := join_len a r h1
  omega
theorem dig_len {n : Int} (h : NumOk n) : (dig n.toNat).length ≤ 9 := by
  unfold NumOk at h
  obtain ⟨_, _, d3, _⟩ := dig_all 9 n.toNat (by rw [show (10 : Nat) ^ 9 = 1000000000 from rfl]; omega)
  omega
theorem op_len {x : Px.Str} (h : 0 < Px.level x) : x.length ≤ 3 := by
  have hc : x = [61, 61, 62] ∨ x = [124, 124] ∨ x = [38, 38] ∨ x = [61, 61] ∨ x = [33, 61] ∨ x = [60] ∨ x = [60, 61] ∨ x = [124] ∨ x = [94] ∨ x = [38] ∨ x = [43] ∨ x = [45] ∨ x = [42] := by
    unfold Px.level at h
    repeat' split at h
    all_goals (first | omega | (simp_all; done) | (rename_i hh; rcases hh with rfl | rfl | rfl | rfl <;> simp) | (rename_i hh; rcases hh with rfl | rfl <;> simp))
  rcases hc with rfl | rfl | rfl | rfl | rfl | rfl | rfl | rfl | rfl | rfl | rfl | rfl | rfl <;> decide
theorem tx_len : ∀ n : Nat, (∀ t, Px.size t ≤ n → EV t → (tx t).length ≤ 100 * Px.size t) ∧ (∀ t, Px.size t ≤ n → RV t → (tx t).length ≤ 100 * Px.size t)
  | 0 => ⟨fun t h => by cases t; rw [Px.size] at h; omega, fun t h => by cases t; rw [Px.size] at h; omega⟩
  | n + 1 => by
    obtain ⟨ih1, ih2⟩ := tx_len n
    have hr : ∀ t, Px.size t ≤ n + 1 → RV t → (tx t).length ≤ 100 * Px.size t := by
      intro t h hv
      cases hv with
      | ref x o hx => rw [tx_ref o hx, Px.size]; have := path_len hx; omega
      | idx x o e hx he =>
        rw [Px.size, Px.sizes, Px.sizes] at h ⊢
        have h1 := ih1 e (by omega) he
        have h2 := path_len hx
        rw [tx_idx o e hx]
        simp only [List.length_append, List.length_cons, List.length_nil]
        omega
    refine ⟨fun t h hv => ?_, hr⟩
    cases hv with
    | num n o hn => rw [tx_num, Px.size]; have := dig_len hn; omega
    | up _ hv => exact hr t h hv
    | all k x n e o hk hx hn he =>
      rw [Px.size, Px.sizes, Px.sizes] at h ⊢
      have h1 := ih1 e (by omega) he
      have h2 := hx.len
      have h3 := dig_len hn
      rcases hk with rfl | rfl
      · rw [tx_all]
        simp only [ptx, List.length_append, List.length_cons, List.length_nil]
        omega
      · rw [tx_some]
        simp only [ptx, List.length_append, List.length_cons, List.length_nil]
        omega
    | cond a b c o ha hb hc =>
      rw [Px.size, Px.sizes, Px.sizes, Px.sizes, Px.sizes] at h ⊢
      have h1 := ih1 a (by omega) ha
      have h2 := ih1 b (by omega) hb
      have h3 := ih1 c (by omega) hc
      rw [tx_cond]
      simp only [ptx, List.length_append, List.length_cons, List.length_nil]
      omega
    | bin x a b o hx ha hb =>
      rw [Px.size, Px.sizes, Px.sizes, Px.sizes] at h ⊢
      have h1 := ih1 a (by omega) ha
      have h2 := ih1 b (by omega) hb
      have h3 := op_len hx
      rw [tx_bin]
      simp only [ptx, List.length_append, List.length_cons, List.length_nil]
      omega
    | not a o ha =>
      rw [Px.size, Px.sizes, Px.sizes] at h ⊢
      have h1 := ih1 a (by omega) ha
      rw [tx_not]
      simp only [ptx, List.length_append, List.length_cons, List.length_nil]
      omega
    | old a o ha =>
      rw [Px.size, Px.sizes, Px.sizes] at h ⊢
      have h1 := ih2 a (by omega) ha
      rw [tx_old]
      simp only [List.length_append, List.length_cons, List.length_nil]
      omega
end Go.Proofs.YtbgpboiblggmiaaGreatDoor

