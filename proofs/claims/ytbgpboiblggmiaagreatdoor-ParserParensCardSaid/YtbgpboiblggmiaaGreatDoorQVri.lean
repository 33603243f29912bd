/-
  The reference's expression, kind by kind.
-/
import Derived.Test.YtbgpboiblggmiaaGreatDoorQVrh
set_option linter.unusedVariables false
set_option linter.unusedSimpArgs false
namespace Go.Proofs.YtbgpboiblggmiaaGreatDoor
open Go.RowKit
open Px (St T D Res)

set_option maxRecDepth 100000 in
set_option maxHeartbeats 1000000 in
theorem rtx_num (n o : Int) (h : NumOk n) : TxSaid (.mk 1 [] [] n 0 0 false [] o) := by
  intro a cap w hk
  have Hd := Lib.hid (digits_any n h)
  rw [tx_num]
  clear hk
  unfold nodeVal
  go_enter Tryz.func44, Tryz.ntmps44
  go_wp2_with fail
  refine (Hd.out _).mono ?_
  rintro e w1 ⟨rfl, hb1⟩
  have Hb1 := Lib.hid (((Below.refl w.heap.size w).alloc (Nat.le_refl _) _).trans (hb1.mono (by simp)))
  clear hb1
  go_wp2_with fail
  go_ret
  exact ⟨rfl, Hb1.out⟩
set_option maxRecDepth 100000 in
set_option maxHeartbeats 1000000 in
theorem rtx_ref (x : Px.Str) (o : Int) (h : PathV x) : TxSaid (.mk 2 x [] 0 0 0 false [] o) := by
  intro a cap w hk
  rw [tx_ref o h]
  clear hk
  unfold nodeVal
  go_enter Tryz.func44, Tryz.ntmps44
  go_wp2_with fail
  go_ret
  exact ⟨rfl, (Below.refl w.heap.size w).alloc (Nat.le_refl _) _⟩
set_option maxRecDepth 100000 in
set_option maxHeartbeats 1000000 in
theorem rtx_old (e : T) (o : Int) (h : TxSaid e) (hl : (tx e).length ≤ 900000) : TxSaid (.mk 3 [] [] 0 0 0 false [e] o) := by
  intro a cap w hk
  rw [tx_old]
  obtain ⟨t, ht⟩ : ∃ t, t = T.mk 3 [] [] 0 0 0 false [e] o := ⟨_, rfl⟩
  have htk : t.kids = [e] := by rw [ht]; rfl
  have h3 : t.kind = 3 := by rw [ht]; rfl
  rw [← ht] at hk ⊢
  obtain ⟨x, hx⟩ : ∃ x, x = tx e := ⟨_, rfl⟩
  rw [← hx] at hl ⊢
  obtain ⟨b1, o1, ka, kc, ha, hb1, hrow1, h9⟩ := hk.get (k := 0) (t := e) (by rw [htk]; rfl)
  subst ha
  have c1 : (t.kind == 1) = false := by rw [h3]; rfl
  have c2 : (t.kind == 2) = false := by rw [h3]; rfl
  have c3 : (t.kind == 3) = true := by rw [h3]; rfl
  have hk1 : (0 : Int) < (t.kids.length : Int) := by rw [htk]; exact (by decide : (0 : Int) < ((1 : Nat) : Int))
  have H := Lib.hid h
  have Hx := Lib.hid hx
  have Hrow := Lib.hid hrow1
  have H9 := Lib.hid h9
  clear h hx hk htk h3 ht hrow1 h9
  unfold nodeVal
  go_enter Tryz.func44, Tryz.ntmps44
  go_upto_region 9 with (fail)
  obtain ⟨W, hW⟩ : ∃ W, W = w.alloc (.cells #[.int .i64 t.kind, .string ⟨t.name.toArray⟩, .string ⟨t.other.toArray⟩, .int .i64 t.n, .int .i64 t.len, .int .i64 t.init, .bool t.ghost, .slice (some ⟨b1, o1, none⟩) t.kids.length cap, .int .i64 t.off] 25) := ⟨_, rfl⟩
  have hWs : w.heap.size < W.heap.size := by rw [hW]; simp
  have Hb := Lib.hid (show Below w.heap.size w W by rw [hW]; exact (Below.refl _ _).alloc (Nat.le_refl _) _)
  have HWn := Lib.hid (show NineAt W w.heap.size 0 t (.slice (some ⟨b1, o1, none⟩) t.kids.length cap) by rw [hW]; exact NineAt.var w t _)
  have z0 : Var 25 W w.heap.size #[.int .i64 t.kind, .string ⟨t.name.toArray⟩, .string ⟨t.other.toArray⟩, .int .i64 t.n, .int .i64 t.len, .int .i64 t.init, .bool t.ghost, .slice (some ⟨b1, o1, none⟩) t.kids.length cap, .int .i64 t.off] := by rw [hW]; exact Var.new _ _ _
  have Hz := Lib.hid z0
  clear z0
  rw [← hW]
  clear hW
  obtain ⟨e0, e1, e2, e3, e4, e5, e6, e7, e8⟩ := HWn.out
  simp only [Nat.zero_add] at e0 e1 e2 e3 e4 e5 e6 e7 e8
  obtain ⟨d0, d1, d2, d3, d4, d5, d6, d7, d8⟩ := H9.out.below Hb.out hb1
  simp only [Nat.zero_mul, Nat.add_zero] at d0 d1 d2 d3 d4 d5 d6 d7 d8
  have hcall := H.out ka kc W ((Hrow.out.below Hb.out).mono (by omega))
  unfold nodeVal at hcall
  have Hcall := Lib.hid hcall
  clear hcall
  go_wp2_with fail
  refine Hcall.out.mono ?_
  rintro e' w1 ⟨rfl, hq⟩
  rw [← Hx.out]
  have Hb1 := Lib.hid (Hb.out.trans (hq.mono (by omega)))
  have ht1 : ¬ (9223372036854775807 < 4 + x.length) := by omega
  have ht2 : ¬ (9223372036854775807 < 4 + x.length + 1) := by omega
  clear hq
  go_wp2_with fail
  go_ret
  refine ⟨ret_strX ?_, Hb1.out⟩
  apply ByteArray.ext
  simp
set_option maxRecDepth 100000 in
set_option maxHeartbeats 1000000 in
theorem rtx_not (e : T) (o : Int) (h : TxSaid e) (hl : (tx e).length ≤ 900000) : TxSaid (.mk 4 [] [] 0 0 0 false [e] o) := by
  intro a cap w hk
  rw [tx_not]
  obtain ⟨t, ht⟩ : ∃ t, t = T.mk 4 [] [] 0 0 0 false [e] o := ⟨_, rfl⟩
  have htk : t.kids = [e] := by rw [ht]; rfl
  have h3 : t.kind = 4 := by rw [ht]; rfl
  rw [← ht] at hk ⊢
  have hpl : (ptx e).length ≤ 900002 := by simp only [ptx, List.length_append, List.length_cons, List.length_nil]; omega
  have hpar := paren_any e h hl
  obtain ⟨x, hx⟩ : ∃ x, x = ptx e := ⟨_, rfl⟩
  rw [← hx] at hpl ⊢
  obtain ⟨b1, o1, ka, kc, ha, hb1, hrow1, h9⟩ := hk.get (k := 0) (t := e) (by rw [htk]; rfl)
  subst ha
  have c1 : (t.kind == 1) = false := by rw [h3]; rfl
  have c2 : (t.kind == 2) = false := by rw [h3]; rfl
  have c3 : (t.kind == 3) = false := by rw [h3]; rfl
  have c4 : (t.kind == 4) = true := by rw [h3]; rfl
  have hk1 : (0 : Int) < (t.kids.length : Int) := by rw [htk]; exact (by decide : (0 : Int) < ((1 : Nat) : Int))
  have H := Lib.hid hpar
  have Hx := Lib.hid hx
  have Hrow := Lib.hid hrow1
  have H9 := Lib.hid h9
  clear h hpar hl hx hk htk h3 ht hrow1 h9
  unfold nodeVal
  go_enter Tryz.func44, Tryz.ntmps44
  go_upto_region 11 with (fail)
  obtain ⟨W, hW⟩ : ∃ W, W = w.alloc (.cells #[.int .i64 t.kind, .string ⟨t.name.toArray⟩, .string ⟨t.other.toArray⟩, .int .i64 t.n, .int .i64 t.len, .int .i64 t.init, .bool t.ghost, .slice (some ⟨b1, o1, none⟩) t.kids.length cap, .int .i64 t.off] 25) := ⟨_, rfl⟩
  have hWs : w.heap.size < W.heap.size := by rw [hW]; simp
  have Hb := Lib.hid (show Below w.heap.size w W by rw [hW]; exact (Below.refl _ _).alloc (Nat.le_refl _) _)
  have HWn := Lib.hid (show NineAt W w.heap.size 0 t (.slice (some ⟨b1, o1, none⟩) t.kids.length cap) by rw [hW]; exact NineAt.var w t _)
  have z0 : Var 25 W w.heap.size #[.int .i64 t.kind, .string ⟨t.name.toArray⟩, .string ⟨t.other.toArray⟩, .int .i64 t.n, .int .i64 t.len, .int .i64 t.init, .bool t.ghost, .slice (some ⟨b1, o1, none⟩) t.kids.length cap, .int .i64 t.off] := by rw [hW]; exact Var.new _ _ _
  have Hz := Lib.hid z0
  clear z0
  rw [← hW]
  clear hW
  obtain ⟨e0, e1, e2, e3, e4, e5, e6, e7, e8⟩ := HWn.out
  simp only [Nat.zero_add] at e0 e1 e2 e3 e4 e5 e6 e7 e8
  obtain ⟨d0, d1, d2, d3, d4, d5, d6, d7, d8⟩ := H9.out.below Hb.out hb1
  simp only [Nat.zero_mul, Nat.add_zero] at d0 d1 d2 d3 d4 d5 d6 d7 d8
  have hcall := H.out ka kc W ((Hrow.out.below Hb.out).mono (by omega))
  unfold nodeVal at hcall
  have Hcall := Lib.hid hcall
  clear hcall
  go_wp2_with fail
  refine Hcall.out.mono ?_
  rintro e' w1 ⟨rfl, hq⟩
  rw [← Hx.out]
  have Hb1 := Lib.hid (Hb.out.trans (hq.mono (by omega)))
  have ht1 : ¬ (9223372036854775807 < 1 + x.length) := by omega
  clear hq
  go_wp2_with fail
  go_ret
  refine ⟨ret_strX ?_, Hb1.out⟩
  apply ByteArray.ext
  simp
end Go.Proofs.YtbgpboiblggmiaaGreatDoor

