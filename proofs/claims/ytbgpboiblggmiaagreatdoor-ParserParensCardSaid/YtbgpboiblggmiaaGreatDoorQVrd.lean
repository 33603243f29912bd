/-
  The reference's only.
-/
import Derived.Test.YtbgpboiblggmiaaGreatDoorQVrc
set_option linter.unusedVariables false
set_option linter.unusedSimpArgs false
namespace Go.Proofs.YtbgpboiblggmiaaGreatDoor
open Go.RowKit
open Px (St T D Res)

/-- no fields but those of some letters -/
structure OnlyOk (L : List UInt8) (t : T) : Prop where
  name : L.contains 110 = false → t.name = []
  other : L.contains 111 = false → t.other = []
  ghost : L.contains 103 = false → t.ghost = false
  n : L.contains 35 = false → t.n = 0
  len : L.contains 108 = false → t.len = 0
  init : L.contains 105 = false → t.init = 0
  rn : NumOk t.n
  rl : NumOk t.len
  ri : NumOk t.init
theorem str_ne {a : List UInt8} (h : a ≠ []) : ¬ ((⟨a.toArray⟩ : ByteArray) = ⟨#[]⟩) := text_ne h
theorem num_yes {n : Int} (h : NumOk n) : (decide (0 ≤ n) && decide (n ≤ 999999999)) = true := by unfold NumOk at h; simp; omega
theorem num_no {n : Int} (h : ¬ NumOk n) : (decide (0 ≤ n) && decide (n ≤ 999999999)) = false := by unfold NumOk at h; simp; omega
set_option maxRecDepth 100000 in
set_option maxHeartbeats 4000000 in
theorem ronly_num (t : T) (a : Option Addr) (cap : Nat) (w : World) : Calls Tryz.prog 63 #[nodeVal t (.slice a t.kids.length cap), .string ⟨#[35]⟩] w (RB (OnlyOk [35] t) w) := by
  unfold nodeVal
  go_enter Tryz.func63, Tryz.ntmps63
  go_wp2_with fail
  obtain ⟨W, hW⟩ : ∃ W, W = w.alloc (.cells #[.int .i64 t.kind, .string ⟨t.name.toArray⟩, .string ⟨t.other.toArray⟩, .int .i64 t.n, .int .i64 t.len, .int .i64 t.init, .bool t.ghost, .slice a t.kids.length cap, .int .i64 t.off] 25) := ⟨_, rfl⟩
  have hWs : w.heap.size < W.heap.size := by rw [hW]; simp
  have Hb := Lib.hid (show Below w.heap.size w W by rw [hW]; exact (Below.refl _ _).alloc (Nat.le_refl _) _)
  have HWn := Lib.hid (show NineAt W w.heap.size 0 t (.slice a t.kids.length cap) by rw [hW]; exact NineAt.var w t _)
  have z0 : Var 25 W w.heap.size #[.int .i64 t.kind, .string ⟨t.name.toArray⟩, .string ⟨t.other.toArray⟩, .int .i64 t.n, .int .i64 t.len, .int .i64 t.init, .bool t.ghost, .slice a t.kids.length cap, .int .i64 t.off] := by rw [hW]; exact Var.new _ _ _
  have Hz := Lib.hid z0
  clear z0
  rw [← hW]
  clear hW
  obtain ⟨e0, e1, e2, e3, e4, e5, e6, e7, e8⟩ := HWn.out
  simp only [Nat.zero_add] at e0 e1 e2 e3 e4 e5 e6 e7 e8
  refine (rhas_any [35] 110 W (by decide)).mono ?_
  rintro e w1 ⟨rfl, hw⟩
  rw [hw, show ([35] : List UInt8).contains 110 = false from rfl]
  clear hw
  by_cases hz0 : t.name = []
  rotate_left
  · have h1 := text_ne hz0
    have h2 := text_beq hz0
    have h3 := str_ne hz0
    go_wp2_with fail
    go_ret
    exact ⟨false, rfl, fun h => (by cases h), Hb.out⟩
  have Hz0 := Lib.hid hz0
  rw [hz0] at e1
  clear hz0
  go_wp2_with fail
  refine (rhas_any [35] 111 W (by decide)).mono ?_
  rintro e w1 ⟨rfl, hw⟩
  rw [hw, show ([35] : List UInt8).contains 111 = false from rfl]
  clear hw
  by_cases hz1 : t.other = []
  rotate_left
  · have h1 := text_ne hz1
    have h2 := text_beq hz1
    have h3 := str_ne hz1
    go_wp2_with fail
    go_ret
    exact ⟨false, rfl, fun h => (by cases h), Hb.out⟩
  have Hz1 := Lib.hid hz1
  rw [hz1] at e2
  clear hz1
  go_wp2_with fail
  refine (rhas_any [35] 103 W (by decide)).mono ?_
  rintro e w1 ⟨rfl, hw⟩
  rw [hw, show ([35] : List UInt8).contains 103 = false from rfl]
  clear hw
  by_cases hz2 : t.ghost = true
  · rw [hz2] at e6
    go_wp2_with fail
    go_ret
    exact ⟨false, rfl, fun h => (by cases h), Hb.out⟩
  have hz2 : t.ghost = false := by simpa using hz2
  have Hz2 := Lib.hid hz2
  rw [hz2] at e6
  clear hz2
  go_wp2_with fail
  refine (rhas_any [35] 35 W (by decide)).mono ?_
  rintro e w1 ⟨rfl, hw⟩
  rw [hw, show ([35] : List UInt8).contains 35 = true from rfl]
  clear hw
  go_wp2_with fail
  refine (rhas_any [35] 108 W (by decide)).mono ?_
  rintro e w1 ⟨rfl, hw⟩
  rw [hw, show ([35] : List UInt8).contains 108 = false from rfl]
  clear hw
  by_cases hz4 : t.len = 0
  rotate_left
  · have h1 : (t.len != 0) = true := bne_iff_ne.2 hz4
    have h2 : (t.len == 0) = false := beq_eq_false_iff_ne.2 hz4
    go_wp2_with fail
    go_ret
    exact ⟨false, rfl, fun h => (by cases h), Hb.out⟩
  have Hz4 := Lib.hid hz4
  have h41 : (t.len != 0) = false := by rw [hz4]; rfl
  clear hz4
  go_wp2_with fail
  refine (rhas_any [35] 105 W (by decide)).mono ?_
  rintro e w1 ⟨rfl, hw⟩
  rw [hw, show ([35] : List UInt8).contains 105 = false from rfl]
  clear hw
  by_cases hz5 : t.init = 0
  rotate_left
  · have h1 : (t.init != 0) = true := bne_iff_ne.2 hz5
    have h2 : (t.init == 0) = false := beq_eq_false_iff_ne.2 hz5
    go_wp2_with fail
    go_ret
    exact ⟨false, rfl, fun h => (by cases h), Hb.out⟩
  have Hz5 := Lib.hid hz5
  have h51 : (t.init != 0) = false := by rw [hz5]; rfl
  clear hz5
  go_wp2_with fail
  refine (rnumber_any t.n W).mono ?_
  rintro e w1 ⟨rfl, hw⟩
  rw [hw]
  clear hw
  by_cases hm0 : NumOk t.n
  rotate_left
  · rw [num_no hm0]
    go_wp2_with fail
    go_ret
    exact ⟨false, rfl, fun h => (by cases h), Hb.out⟩
  rw [num_yes hm0]
  have Hm0 := Lib.hid hm0
  clear hm0
  go_wp2_with fail
  refine (rnumber_any t.len W).mono ?_
  rintro e w1 ⟨rfl, hw⟩
  rw [hw]
  clear hw
  by_cases hm1 : NumOk t.len
  rotate_left
  · rw [num_no hm1]
    go_wp2_with fail
    go_ret
    exact ⟨false, rfl, fun h => (by cases h), Hb.out⟩
  rw [num_yes hm1]
  have Hm1 := Lib.hid hm1
  clear hm1
  go_wp2_with fail
  refine (rnumber_any t.init W).mono ?_
  rintro e w1 ⟨rfl, hw⟩
  rw [hw]
  clear hw
  by_cases hm2 : NumOk t.init
  rotate_left
  · rw [num_no hm2]
    go_wp2_with fail
    go_ret
    exact ⟨false, rfl, fun h => (by cases h), Hb.out⟩
  rw [num_yes hm2]
  have Hm2 := Lib.hid hm2
  clear hm2
  go_wp2_with fail
  go_ret
  exact ⟨true, rfl, fun _ => ⟨fun _ => Hz0.out, fun _ => Hz1.out, fun _ => Hz2.out, fun h => (by cases h), fun _ => Hz4.out, fun _ => Hz5.out, Hm0.out, Hm1.out, Hm2.out⟩, Hb.out⟩

set_option maxRecDepth 100000 in
set_option maxHeartbeats 4000000 in
theorem ronly_name (t : T) (a : Option Addr) (cap : Nat) (w : World) : Calls Tryz.prog 63 #[nodeVal t (.slice a t.kids.length cap), .string ⟨#[110]⟩] w (RB (OnlyOk [110] t) w) := by
  unfold nodeVal
  go_enter Tryz.func63, Tryz.ntmps63
  go_wp2_with fail
  obtain ⟨W, hW⟩ : ∃ W, W = w.alloc (.cells #[.int .i64 t.kind, .string ⟨t.name.toArray⟩, .string ⟨t.other.toArray⟩, .int .i64 t.n, .int .i64 t.len, .int .i64 t.init, .bool t.ghost, .slice a t.kids.length cap, .int .i64 t.off] 25) := ⟨_, rfl⟩
  have hWs : w.heap.size < W.heap.size := by rw [hW]; simp
  have Hb := Lib.hid (show Below w.heap.size w W by rw [hW]; exact (Below.refl _ _).alloc (Nat.le_refl _) _)
  have HWn := Lib.hid (show NineAt W w.heap.size 0 t (.slice a t.kids.length cap) by rw [hW]; exact NineAt.var w t _)
  have z0 : Var 25 W w.heap.size #[.int .i64 t.kind, .string ⟨t.name.toArray⟩, .string ⟨t.other.toArray⟩, .int .i64 t.n, .int .i64 t.len, .int .i64 t.init, .bool t.ghost, .slice a t.kids.length cap, .int .i64 t.off] := by rw [hW]; exact Var.new _ _ _
  have Hz := Lib.hid z0
  clear z0
  rw [← hW]
  clear hW
  obtain ⟨e0, e1, e2, e3, e4, e5, e6, e7, e8⟩ := HWn.out
  simp only [Nat.zero_add] at e0 e1 e2 e3 e4 e5 e6 e7 e8
  refine (rhas_any [110] 110 W (by decide)).mono ?_
  rintro e w1 ⟨rfl, hw⟩
  rw [hw, show ([110] : List UInt8).contains 110 = true from rfl]
  clear hw
  go_wp2_with fail
  refine (rhas_any [110] 111 W (by decide)).mono ?_
  rintro e w1 ⟨rfl, hw⟩
  rw [hw, show ([110] : List UInt8).contains 111 = false from rfl]
  clear hw
  by_cases hz1 : t.other = []
  rotate_left
  · have h1 := text_ne hz1
    have h2 := text_beq hz1
    have h3 := str_ne hz1
    go_wp2_with fail
    go_ret
    exact ⟨false, rfl, fun h => (by cases h), Hb.out⟩
  have Hz1 := Lib.hid hz1
  rw [hz1] at e2
  clear hz1
  go_wp2_with fail
  refine (rhas_any [110] 103 W (by decide)).mono ?_
  rintro e w1 ⟨rfl, hw⟩
  rw [hw, show ([110] : List UInt8).contains 103 = false from rfl]
  clear hw
  by_cases hz2 : t.ghost = true
  · rw [hz2] at e6
    go_wp2_with fail
    go_ret
    exact ⟨false, rfl, fun h => (by cases h), Hb.out⟩
  have hz2 : t.ghost = false := by simpa using hz2
  have Hz2 := Lib.hid hz2
  rw [hz2] at e6
  clear hz2
  go_wp2_with fail
  refine (rhas_any [110] 35 W (by decide)).mono ?_
  rintro e w1 ⟨rfl, hw⟩
  rw [hw, show ([110] : List UInt8).contains 35 = false from rfl]
  clear hw
  by_cases hz3 : t.n = 0
  rotate_left
  · have h1 : (t.n != 0) = true := bne_iff_ne.2 hz3
    have h2 : (t.n == 0) = false := beq_eq_false_iff_ne.2 hz3
    go_wp2_with fail
    go_ret
    exact ⟨false, rfl, fun h => (by cases h), Hb.out⟩
  have Hz3 := Lib.hid hz3
  have h31 : (t.n != 0) = false := by rw [hz3]; rfl
  clear hz3
  go_wp2_with fail
  refine (rhas_any [110] 108 W (by decide)).mono ?_
  rintro e w1 ⟨rfl, hw⟩
  rw [hw, show ([110] : List UInt8).contains 108 = false from rfl]
  clear hw
  by_cases hz4 : t.len = 0
  rotate_left
  · have h1 : (t.len != 0) = true := bne_iff_ne.2 hz4
    have h2 : (t.len == 0) = false := beq_eq_false_iff_ne.2 hz4
    go_wp2_with fail
    go_ret
    exact ⟨false, rfl, fun h => (by cases h), Hb.out⟩
  have Hz4 := Lib.hid hz4
  have h41 : (t.len != 0) = false := by rw [hz4]; rfl
  clear hz4
  go_wp2_with fail
  refine (rhas_any [110] 105 W (by decide)).mono ?_
  rintro e w1 ⟨rfl, hw⟩
  rw [hw, show ([110] : List UInt8).contains 105 = false from rfl]
  clear hw
  by_cases hz5 : t.init = 0
  rotate_left
  · have h1 : (t.init != 0) = true := bne_iff_ne.2 hz5
    have h2 : (t.init == 0) = false := beq_eq_false_iff_ne.2 hz5
    go_wp2_with fail
    go_ret
    exact ⟨false, rfl, fun h => (by cases h), Hb.out⟩
  have Hz5 := Lib.hid hz5
  have h51 : (t.init != 0) = false := by rw [hz5]; rfl
  clear hz5
  go_wp2_with fail
  refine (rnumber_any t.n W).mono ?_
  rintro e w1 ⟨rfl, hw⟩
  rw [hw]
  clear hw
  by_cases hm0 : NumOk t.n
  rotate_left
  · rw [num_no hm0]
    go_wp2_with fail
    go_ret
    exact ⟨false, rfl, fun h => (by cases h), Hb.out⟩
  rw [num_yes hm0]
  have Hm0 := Lib.hid hm0
  clear hm0
  go_wp2_with fail
  refine (rnumber_any t.len W).mono ?_
  rintro e w1 ⟨rfl, hw⟩
  rw [hw]
  clear hw
  by_cases hm1 : NumOk t.len
  rotate_left
  · rw [num_no hm1]
    go_wp2_with fail
    go_ret
    exact ⟨false, rfl, fun h => (by cases h), Hb.out⟩
  rw [num_yes hm1]
  have Hm1 := Lib.hid hm1
  clear hm1
  go_wp2_with fail
  refine (rnumber_any t.init W).mono ?_
  rintro e w1 ⟨rfl, hw⟩
  rw [hw]
  clear hw
  by_cases hm2 : NumOk t.init
  rotate_left
  · rw [num_no hm2]
    go_wp2_with fail
    go_ret
    exact ⟨false, rfl, fun h => (by cases h), Hb.out⟩
  rw [num_yes hm2]
  have Hm2 := Lib.hid hm2
  clear hm2
  go_wp2_with fail
  go_ret
  exact ⟨true, rfl, fun _ => ⟨fun h => (by cases h), fun _ => Hz1.out, fun _ => Hz2.out, fun _ => Hz3.out, fun _ => Hz4.out, fun _ => Hz5.out, Hm0.out, Hm1.out, Hm2.out⟩, Hb.out⟩

set_option maxRecDepth 100000 in
set_option maxHeartbeats 4000000 in
theorem ronly_none (t : T) (a : Option Addr) (cap : Nat) (w : World) : Calls Tryz.prog 63 #[nodeVal t (.slice a t.kids.length cap), .string ⟨#[]⟩] w (RB (OnlyOk [] t) w) := by
  unfold nodeVal
  go_enter Tryz.func63, Tryz.ntmps63
  go_wp2_with fail
  obtain ⟨W, hW⟩ : ∃ W, W = w.alloc (.cells #[.int .i64 t.kind, .string ⟨t.name.toArray⟩, .string ⟨t.other.toArray⟩, .int .i64 t.n, .int .i64 t.len, .int .i64 t.init, .bool t.ghost, .slice a t.kids.length cap, .int .i64 t.off] 25) := ⟨_, rfl⟩
  have hWs : w.heap.size < W.heap.size := by rw [hW]; simp
  have Hb := Lib.hid (show Below w.heap.size w W by rw [hW]; exact (Below.refl _ _).alloc (Nat.le_refl _) _)
  have HWn := Lib.hid (show NineAt W w.heap.size 0 t (.slice a t.kids.length cap) by rw [hW]; exact NineAt.var w t _)
  have z0 : Var 25 W w.heap.size #[.int .i64 t.kind, .string ⟨t.name.toArray⟩, .string ⟨t.other.toArray⟩, .int .i64 t.n, .int .i64 t.len, .int .i64 t.init, .bool t.ghost, .slice a t.kids.length cap, .int .i64 t.off] := by rw [hW]; exact Var.new _ _ _
  have Hz := Lib.hid z0
  clear z0
  rw [← hW]
  clear hW
  obtain ⟨e0, e1, e2, e3, e4, e5, e6, e7, e8⟩ := HWn.out
  simp only [Nat.zero_add] at e0 e1 e2 e3 e4 e5 e6 e7 e8
  refine (rhas_any [] 110 W (by decide)).mono ?_
  rintro e w1 ⟨rfl, hw⟩
  rw [hw, show ([] : List UInt8).contains 110 = false from rfl]
  clear hw
  by_cases hz0 : t.name = []
  rotate_left
  · have h1 := text_ne hz0
    have h2 := text_beq hz0
    have h3 := str_ne hz0
    go_wp2_with fail
    go_ret
    exact ⟨false, rfl, fun h => (by cases h), Hb.out⟩
  have Hz0 := Lib.hid hz0
  rw [hz0] at e1
  clear hz0
  go_wp2_with fail
  refine (rhas_any [] 111 W (by decide)).mono ?_
  rintro e w1 ⟨rfl, hw⟩
  rw [hw, show ([] : List UInt8).contains 111 = false from rfl]
  clear hw
  by_cases hz1 : t.other = []
  rotate_left
  · have h1 := text_ne hz1
    have h2 := text_beq hz1
    have h3 := str_ne hz1
    go_wp2_with fail
    go_ret
    exact ⟨false, rfl, fun h => (by cases h), Hb.out⟩
  have Hz1 := Lib.hid hz1
  rw [hz1] at e2
  clear hz1
  go_wp2_with fail
  refine (rhas_any [] 103 W (by decide)).mono ?_
  rintro e w1 ⟨rfl, hw⟩
  rw [hw, show ([] : List UInt8).contains 103 = false from rfl]
  clear hw
  by_cases hz2 : t.ghost = true
  · rw [hz2] at e6
    go_wp2_with fail
    go_ret
    exact ⟨false, rfl, fun h => (by cases h), Hb.out⟩
  have hz2 : t.ghost = false := by simpa using hz2
  have Hz2 := Lib.hid hz2
  rw [hz2] at e6
  clear hz2
  go_wp2_with fail
  refine (rhas_any [] 35 W (by decide)).mono ?_
  rintro e w1 ⟨rfl, hw⟩
  rw [hw, show ([] : List UInt8).contains 35 = false from rfl]
  clear hw
  by_cases hz3 : t.n = 0
  rotate_left
  · have h1 : (t.n != 0) = true := bne_iff_ne.2 hz3
    have h2 : (t.n == 0) = false := beq_eq_false_iff_ne.2 hz3
    go_wp2_with fail
    go_ret
    exact ⟨false, rfl, fun h => (by cases h), Hb.out⟩
  have Hz3 := Lib.hid hz3
  have h31 : (t.n != 0) = false := by rw [hz3]; rfl
  clear hz3
  go_wp2_with fail
  refine (rhas_any [] 108 W (by decide)).mono ?_
  rintro e w1 ⟨rfl, hw⟩
  rw [hw, show ([] : List UInt8).contains 108 = false from rfl]
  clear hw
  by_cases hz4 : t.len = 0
  rotate_left
  · have h1 : (t.len != 0) = true := bne_iff_ne.2 hz4
    have h2 : (t.len == 0) = false := beq_eq_false_iff_ne.2 hz4
    go_wp2_with fail
    go_ret
    exact ⟨false, rfl, fun h => (by cases h), Hb.out⟩
  have Hz4 := Lib.hid hz4
  have h41 : (t.len != 0) = false := by rw [hz4]; rfl
  clear hz4
  go_wp2_with fail
  refine (rhas_any [] 105 W (by decide)).mono ?_
  rintro e w1 ⟨rfl, hw⟩
  rw [hw, show ([] : List UInt8).contains 105 = false from rfl]
  clear hw
  by_cases hz5 : t.init = 0
  rotate_left
  · have h1 : (t.init != 0) = true := bne_iff_ne.2 hz5
    have h2 : (t.init == 0) = false := beq_eq_false_iff_ne.2 hz5
    go_wp2_with fail
    go_ret
    exact ⟨false, rfl, fun h => (by cases h), Hb.out⟩
  have Hz5 := Lib.hid hz5
  have h51 : (t.init != 0) = false := by rw [hz5]; rfl
  clear hz5
  go_wp2_with fail
  refine (rnumber_any t.n W).mono ?_
  rintro e w1 ⟨rfl, hw⟩
  rw [hw]
  clear hw
  by_cases hm0 : NumOk t.n
  rotate_left
  · rw [num_no hm0]
    go_wp2_with fail
    go_ret
    exact ⟨false, rfl, fun h => (by cases h), Hb.out⟩
  rw [num_yes hm0]
  have Hm0 := Lib.hid hm0
  clear hm0
  go_wp2_with fail
  refine (rnumber_any t.len W).mono ?_
  rintro e w1 ⟨rfl, hw⟩
  rw [hw]
  clear hw
  by_cases hm1 : NumOk t.len
  rotate_left
  · rw [num_no hm1]
    go_wp2_with fail
    go_ret
    exact ⟨false, rfl, fun h => (by cases h), Hb.out⟩
  rw [num_yes hm1]
  have Hm1 := Lib.hid hm1
  clear hm1
  go_wp2_with fail
  refine (rnumber_any t.init W).mono ?_
  rintro e w1 ⟨rfl, hw⟩
  rw [hw]
  clear hw
  by_cases hm2 : NumOk t.init
  rotate_left
  · rw [num_no hm2]
    go_wp2_with fail
    go_ret
    exact ⟨false, rfl, fun h => (by cases h), Hb.out⟩
  rw [num_yes hm2]
  have Hm2 := Lib.hid hm2
  clear hm2
  go_wp2_with fail
  go_ret
  exact ⟨true, rfl, fun _ => ⟨fun _ => Hz0.out, fun _ => Hz1.out, fun _ => Hz2.out, fun _ => Hz3.out, fun _ => Hz4.out, fun _ => Hz5.out, Hm0.out, Hm1.out, Hm2.out⟩, Hb.out⟩

set_option maxRecDepth 100000 in
set_option maxHeartbeats 4000000 in
theorem ronly_both (t : T) (a : Option Addr) (cap : Nat) (w : World) : Calls Tryz.prog 63 #[nodeVal t (.slice a t.kids.length cap), .string ⟨#[110, 35]⟩] w (RB (OnlyOk [110, 35] t) w) := by
  unfold nodeVal
  go_enter Tryz.func63, Tryz.ntmps63
  go_wp2_with fail
  obtain ⟨W, hW⟩ : ∃ W, W = w.alloc (.cells #[.int .i64 t.kind, .string ⟨t.name.toArray⟩, .string ⟨t.other.toArray⟩, .int .i64 t.n, .int .i64 t.len, .int .i64 t.init, .bool t.ghost, .slice a t.kids.length cap, .int .i64 t.off] 25) := ⟨_, rfl⟩
  have hWs : w.heap.size < W.heap.size := by rw [hW]; simp
  have Hb := Lib.hid (show Below w.heap.size w W by rw [hW]; exact (Below.refl _ _).alloc (Nat.le_refl _) _)
  have HWn := Lib.hid (show NineAt W w.heap.size 0 t (.slice a t.kids.length cap) by rw [hW]; exact NineAt.var w t _)
  have z0 : Var 25 W w.heap.size #[.int .i64 t.kind, .string ⟨t.name.toArray⟩, .string ⟨t.other.toArray⟩, .int .i64 t.n, .int .i64 t.len, .int .i64 t.init, .bool t.ghost, .slice a t.kids.length cap, .int .i64 t.off] := by rw [hW]; exact Var.new _ _ _
  have Hz := Lib.hid z0
  clear z0
  rw [← hW]
  clear hW
  obtain ⟨e0, e1, e2, e3, e4, e5, e6, e7, e8⟩ := HWn.out
  simp only [Nat.zero_add] at e0 e1 e2 e3 e4 e5 e6 e7 e8
  refine (rhas_any [110, 35] 110 W (by decide)).mono ?_
  rintro e w1 ⟨rfl, hw⟩
  rw [hw, show ([110, 35] : List UInt8).contains 110 = true from rfl]
  clear hw
  go_wp2_with fail
  refine (rhas_any [110, 35] 111 W (by decide)).mono ?_
  rintro e w1 ⟨rfl, hw⟩
  rw [hw, show ([110, 35] : List UInt8).contains 111 = false from rfl]
  clear hw
  by_cases hz1 : t.other = []
  rotate_left
  · have h1 := text_ne hz1
    have h2 := text_beq hz1
    have h3 := str_ne hz1
    go_wp2_with fail
    go_ret
    exact ⟨false, rfl, fun h => (by cases h), Hb.out⟩
  have Hz1 := Lib.hid hz1
  rw [hz1] at e2
  clear hz1
  go_wp2_with fail
  refine (rhas_any [110, 35] 103 W (by decide)).mono ?_
  rintro e w1 ⟨rfl, hw⟩
  rw [hw, show ([110, 35] : List UInt8).contains 103 = false from rfl]
  clear hw
  by_cases hz2 : t.ghost = true
  · rw [hz2] at e6
    go_wp2_with fail
    go_ret
    exact ⟨false, rfl, fun h => (by cases h), Hb.out⟩
  have hz2 : t.ghost = false := by simpa using hz2
  have Hz2 := Lib.hid hz2
  rw [hz2] at e6
  clear hz2
  go_wp2_with fail
  refine (rhas_any [110, 35] 35 W (by decide)).mono ?_
  rintro e w1 ⟨rfl, hw⟩
  rw [hw, show ([110, 35] : List UInt8).contains 35 = true from rfl]
  clear hw
  go_wp2_with fail
  refine (rhas_any [110, 35] 108 W (by decide)).mono ?_
  rintro e w1 ⟨rfl, hw⟩
  rw [hw, show ([110, 35] : List UInt8).contains 108 = false from rfl]
  clear hw
  by_cases hz4 : t.len = 0
  rotate_left
  · have h1 : (t.len != 0) = true := bne_iff_ne.2 hz4
    have h2 : (t.len == 0) = false := beq_eq_false_iff_ne.2 hz4
    go_wp2_with fail
    go_ret
    exact ⟨false, rfl, fun h => (by cases h), Hb.out⟩
  have Hz4 := Lib.hid hz4
  have h41 : (t.len != 0) = false := by rw [hz4]; rfl
  clear hz4
  go_wp2_with fail
  refine (rhas_any [110, 35] 105 W (by decide)).mono ?_
  rintro e w1 ⟨rfl, hw⟩
  rw [hw, show ([110, 35] : List UInt8).contains 105 = false from rfl]
  clear hw
  by_cases hz5 : t.init = 0
  rotate_left
  · have h1 : (t.init != 0) = true := bne_iff_ne.2 hz5
    have h2 : (t.init == 0) = false := beq_eq_false_iff_ne.2 hz5
    go_wp2_with fail
    go_ret
    exact ⟨false, rfl, fun h => (by cases h), Hb.out⟩
  have Hz5 := Lib.hid hz5
  have h51 : (t.init != 0) = false := by rw [hz5]; rfl
  clear hz5
  go_wp2_with fail
  refine (rnumber_any t.n W).mono ?_
  rintro e w1 ⟨rfl, hw⟩
  rw [hw]
  clear hw
  by_cases hm0 : NumOk t.n
  rotate_left
  · rw [num_no hm0]
    go_wp2_with fail
    go_ret
    exact ⟨false, rfl, fun h => (by cases h), Hb.out⟩
  rw [num_yes hm0]
  have Hm0 := Lib.hid hm0
  clear hm0
  go_wp2_with fail
  refine (rnumber_any t.len W).mono ?_
  rintro e w1 ⟨rfl, hw⟩
  rw [hw]
  clear hw
  by_cases hm1 : NumOk t.len
  rotate_left
  · rw [num_no hm1]
    go_wp2_with fail
    go_ret
    exact ⟨false, rfl, fun h => (by cases h), Hb.out⟩
  rw [num_yes hm1]
  have Hm1 := Lib.hid hm1
  clear hm1
  go_wp2_with fail
  refine (rnumber_any t.init W).mono ?_
  rintro e w1 ⟨rfl, hw⟩
  rw [hw]
  clear hw
  by_cases hm2 : NumOk t.init
  rotate_left
  · rw [num_no hm2]
    go_wp2_with fail
    go_ret
    exact ⟨false, rfl, fun h => (by cases h), Hb.out⟩
  rw [num_yes hm2]
  have Hm2 := Lib.hid hm2
  clear hm2
  go_wp2_with fail
  go_ret
  exact ⟨true, rfl, fun _ => ⟨fun h => (by cases h), fun _ => Hz1.out, fun _ => Hz2.out, fun h => (by cases h), fun _ => Hz4.out, fun _ => Hz5.out, Hm0.out, Hm1.out, Hm2.out⟩, Hb.out⟩

end Go.Proofs.YtbgpboiblggmiaaGreatDoor

