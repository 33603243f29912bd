/-
  The reference's expression: the kinds whose operations draw their order.
-/
import Derived.Test.YtbgpboiblggmiaaGreatDoorQVri
set_option linter.unusedVariables false
set_option linter.unusedSimpArgs false
namespace Go.Proofs.YtbgpboiblggmiaaGreatDoor
open Go.RowKit
open Px (St T D Res)

set_option maxRecDepth 100000 in
set_option maxHeartbeats 2000000 in
theorem rtx_idx (x : Px.Str) (o : Int) (e : T) (hp : PathV x) (h : TxSaid e) (hl : (tx e).length ≤ 900000) : TxSaid (.mk 2 x [] 0 0 0 false [e] o) := by
  intro a cap w hk
  rw [tx_idx o e hp]
  obtain ⟨t, ht⟩ : ∃ t, t = (.mk 2 x [] 0 0 0 false [e] o : T) := ⟨_, rfl⟩
  have htk : t.kids = [e] := by rw [ht]; rfl
  have h3 : t.kind = 2 := by rw [ht]; rfl
  rw [← ht] at hk ⊢
  have hx9 := path_len hp
  have hnm : t.name = x := by rw [ht]; rfl
  obtain ⟨y, hy⟩ : ∃ y, y = tx e := ⟨_, rfl⟩
  rw [← hy] at hl ⊢
  rw [← hnm] at hx9 ⊢
  have Hy := Lib.hid hy
  clear hy hnm hp
  obtain ⟨b0, o0, ka0, kc0, ha0, hbl0, hrow0, hn0⟩ := hk.get (k := 0) (t := e) (by rw [htk]; rfl)
  have hlen : t.kids.length = 1 := by rw [htk]; rfl
  subst ha0
  have c1 : (t.kind == 1) = false := by rw [h3]; rfl
  have c2 : (t.kind == 2) = true := by rw [h3]; rfl
  have Hlen := Lib.hid hlen
  have Hrow0 := Lib.hid hrow0
  have Hn0 := Lib.hid hn0
  clear hrow0 hn0
  have hk0 : (0 : Int) < (t.kids.length : Int) := by rw [hlen]; exact (by decide : (0 : Int) < ((1 : Nat) : Int))
  have hne : ¬ t.kids = [] := by intro h; rw [h] at hlen; cases hlen
  have hk9 : decide ((0 : Int) < (t.kids.length : Int)) = true := decide_eq_true hk0
  clear hk htk h3 ht hlen
  unfold nodeVal
  go_enter Tryz.func44, Tryz.ntmps44
  go_upto_region 6 with (fail)
  obtain ⟨W, hW⟩ : ∃ W, W = w.alloc (.cells #[.int .i64 t.kind, .string ⟨t.name.toArray⟩, .string ⟨t.other.toArray⟩, .int .i64 t.n, .int .i64 t.len, .int .i64 t.init, .bool t.ghost, .slice (some ⟨b0, o0, none⟩) t.kids.length cap, .int .i64 t.off] 25) := ⟨_, rfl⟩
  have hWs : w.heap.size < W.heap.size := by rw [hW]; simp
  have Hb := Lib.hid (show Below w.heap.size w W by rw [hW]; exact (Below.refl _ _).alloc (Nat.le_refl _) _)
  have HWn := Lib.hid (show NineAt W w.heap.size 0 t (.slice (some ⟨b0, o0, none⟩) t.kids.length cap) by rw [hW]; exact NineAt.var w t _)
  have z0 : Var 25 W w.heap.size #[.int .i64 t.kind, .string ⟨t.name.toArray⟩, .string ⟨t.other.toArray⟩, .int .i64 t.n, .int .i64 t.len, .int .i64 t.init, .bool t.ghost, .slice (some ⟨b0, o0, none⟩) t.kids.length cap, .int .i64 t.off] := by rw [hW]; exact Var.new _ _ _
  have Hz := Lib.hid z0
  clear z0
  rw [← hW]
  clear hW
  obtain ⟨e0, e1, e2, e3, e4, e5, e6, e7, e8⟩ := HWn.out
  simp only [Nat.zero_add] at e0 e1 e2 e3 e4 e5 e6 e7 e8
  have hn0 := Hn0.out.below Hb.out (by assumption)
  have hw0 : b0 < W.heap.size := by omega
  simp only [Nat.zero_mul, Nat.one_mul, Nat.add_zero] at hn0
  refine wp_region_held_drew (S := (fun w' => Below W.heap.size W w')) (by as_aux_lemma => kernel_rfl) ((Below.refl _ _).drew) (fun hHeld => ?_)
  obtain ⟨v0, hv0⟩ : ∃ V, V = W.drew := ⟨_, rfl⟩
  rw [← hv0] at hHeld ⊢
  clear hv0
  have q1 : ¬ (9223372036854775807 < t.name.length + 1) := by omega
  have q2 : ¬ (9223372036854775807 < t.name.length + 1 + y.length) := by omega
  have q3 : ¬ (9223372036854775807 < t.name.length + 1 + y.length + 1) := by omega
  refine take_in (i := 0) (v := .pointer (some ⟨w.heap.size, 1, none⟩)) rfl (by as_aux_lemma => kernel_rfl) (by as_aux_lemma => kernel_rfl) (by as_aux_lemma => kernel_rfl) (fun _ _ _ h => h) (by rfl) (fun _ _ => by first | rfl | (go_simp; done) | (go_simp; rfl)) hHeld ?_
  (try simp only [Act.put, List.setIfInBounds_toArray, List.set_cons_zero, List.set_cons_succ])
  refine take_in (i := 1) (v := .string ⟨t.name.toArray⟩) rfl (by as_aux_lemma => kernel_rfl) (by as_aux_lemma => kernel_rfl) (by as_aux_lemma => kernel_rfl) (fun _ _ _ h => h) (by rfl) (fun w' hb => by have hc := (hb.cell (p := ⟨w.heap.size, 1, none⟩) hWs).trans e1; go_simp) hHeld ?_
  (try simp only [Act.put, List.setIfInBounds_toArray, List.set_cons_zero, List.set_cons_succ])
  refine take_in (i := 2) (v := .string ((⟨t.name.toArray⟩ : ByteArray) ++ ⟨#[91]⟩)) rfl (by as_aux_lemma => kernel_rfl) (by as_aux_lemma => kernel_rfl) (by as_aux_lemma => kernel_rfl) (fun _ _ _ h => h) (by rfl) (fun _ _ => by first | rfl | (go_simp; done) | (go_simp; rfl)) hHeld ?_
  (try simp only [Act.put, List.setIfInBounds_toArray, List.set_cons_zero, List.set_cons_succ])
  refine take_in (i := 3) (v := .pointer (some ⟨w.heap.size, 7, none⟩)) rfl (by as_aux_lemma => kernel_rfl) (by as_aux_lemma => kernel_rfl) (by as_aux_lemma => kernel_rfl) (fun _ _ _ h => h) (by rfl) (fun _ _ => by first | rfl | (go_simp; done) | (go_simp; rfl)) hHeld ?_
  (try simp only [Act.put, List.setIfInBounds_toArray, List.set_cons_zero, List.set_cons_succ])
  refine take_in (i := 4) (v := .slice (some ⟨b0, o0, none⟩) t.kids.length cap) rfl (by as_aux_lemma => kernel_rfl) (by as_aux_lemma => kernel_rfl) (by as_aux_lemma => kernel_rfl) (fun _ _ _ h => h) (by rfl) (fun w' hb => by have hc := (hb.cell (p := ⟨w.heap.size, 7, none⟩) hWs).trans e7; go_simp) hHeld ?_
  (try simp only [Act.put, List.setIfInBounds_toArray, List.set_cons_zero, List.set_cons_succ])
  refine take_in (i := 5) (v := .pointer (some ⟨b0, o0, none⟩)) rfl (by as_aux_lemma => kernel_rfl) (by as_aux_lemma => kernel_rfl) (by as_aux_lemma => kernel_rfl) (fun _ _ _ h => h) (by rfl) (fun _ _ => by first | rfl | (go_simp; done) | (go_simp; rfl)) hHeld ?_
  (try simp only [Act.put, List.setIfInBounds_toArray, List.set_cons_zero, List.set_cons_succ])
  refine take_in (i := 6) (v := .agg #[.int .i64 e.kind, .string ⟨e.name.toArray⟩, .string ⟨e.other.toArray⟩, .int .i64 e.n, .int .i64 e.len, .int .i64 e.init, .bool e.ghost, .slice ka0 e.kids.length kc0, .int .i64 e.off]) rfl (by as_aux_lemma => kernel_rfl) (by as_aux_lemma => kernel_rfl) (by as_aux_lemma => kernel_rfl) (fun _ _ _ h => h) (by rfl) (fun w' hb => by obtain ⟨d0, d1, d2, d3, d4, d5, d6, d7, d8⟩ := (hn0).below hb hw0; go_simp) hHeld ?_
  (try simp only [Act.put, List.setIfInBounds_toArray, List.set_cons_zero, List.set_cons_succ])
  refine call_in (i := 7) (f := 44) (args := #[nodeVal e (.slice ka0 e.kids.length kc0)]) (by as_aux_lemma => kernel_rfl) rfl (by rfl) (by first | rfl | (go_simp; done) | (simp only [nodeVal]; go_simp; done)) ?_
  refine (h ka0 kc0 v0 ((Hrow0.out.below (Hb.out.trans (hHeld.mono (by omega)))).mono (Nat.le_trans (by omega) hHeld.size))).mono ?_
  rintro e' v1 ⟨rfl, hq⟩
  rw [← Hy.out]
  refine ⟨_, rfl, (below_step hHeld hq), fun hHeld => ?_⟩
  (try simp only [Act.put, List.setIfInBounds_toArray, List.set_cons_zero, List.set_cons_succ])
  clear hq
  refine take_in (i := 8) (v := .string ((⟨t.name.toArray⟩ : ByteArray) ++ ⟨#[91]⟩ ++ ⟨y.toArray⟩)) rfl (by as_aux_lemma => kernel_rfl) (by as_aux_lemma => kernel_rfl) (by as_aux_lemma => kernel_rfl) (fun _ _ _ h => h) (by rfl) (fun _ _ => by first | rfl | (go_simp; done) | (go_simp; rfl)) hHeld ?_
  (try simp only [Act.put, List.setIfInBounds_toArray, List.set_cons_zero, List.set_cons_succ])
  refine take_in (i := 9) (v := .string ((⟨t.name.toArray⟩ : ByteArray) ++ ⟨#[91]⟩ ++ ⟨y.toArray⟩ ++ ⟨#[93]⟩)) rfl (by as_aux_lemma => kernel_rfl) (by as_aux_lemma => kernel_rfl) (by as_aux_lemma => kernel_rfl) (fun _ _ _ h => h) (by rfl) (fun _ _ => by first | rfl | (go_simp; done) | (go_simp; rfl)) hHeld ?_
  (try simp only [Act.put, List.setIfInBounds_toArray, List.set_cons_zero, List.set_cons_succ])
  refine take_in (i := 10) (v := .string ((⟨t.name.toArray⟩ : ByteArray) ++ ⟨#[91]⟩ ++ ⟨y.toArray⟩ ++ ⟨#[93]⟩)) rfl (by as_aux_lemma => kernel_rfl) (by as_aux_lemma => kernel_rfl) (by as_aux_lemma => kernel_rfl) (fun _ _ _ h => h) (by rfl) (fun _ _ => by first | rfl | (go_simp; done) | (go_simp; rfl)) hHeld ?_
  (try simp only [Act.put, List.setIfInBounds_toArray, List.set_cons_zero, List.set_cons_succ])
  refine wpAnyH_done (by as_aux_lemma => kernel_rfl) ?_ _
  go_wp2_with fail
  go_ret
  refine ⟨ret_strX ?_, Hb.out.trans (hHeld.mono (by omega))⟩
  apply ByteArray.ext
  simp
  
set_option maxRecDepth 100000 in
set_option maxHeartbeats 2000000 in
theorem rtx_bin (x : Px.Str) (p q : T) (o : Int) (hx : 0 < Px.level x) (hp : TxSaid p) (hq' : TxSaid q) (hlp : (tx p).length ≤ 900000) (hlq' : (tx q).length ≤ 900000) : TxSaid (.mk 5 x [] 0 0 0 false [p, q] o) := by
  intro a cap w hk
  rw [tx_bin]
  obtain ⟨t, ht⟩ : ∃ t, t = (.mk 5 x [] 0 0 0 false [p, q] o : T) := ⟨_, rfl⟩
  have htk : t.kids = [p, q] := by rw [ht]; rfl
  have h3 : t.kind = 5 := by rw [ht]; rfl
  rw [← ht] at hk ⊢
  have hx9 := op_len hx
  have hnm : t.name = x := by rw [ht]; rfl
  rw [← hnm] at hx9 ⊢
  clear hnm hx
  have hq := hq'
  have hlq := hlq'
  clear hq' hlq'
  have hplp : (ptx p).length ≤ 900002 := by simp only [ptx, List.length_append, List.length_cons, List.length_nil]; omega
  have hparp := paren_any p hp hlp
  obtain ⟨y, hyp⟩ : ∃ y, y = ptx p := ⟨_, rfl⟩
  rw [← hyp] at hplp ⊢
  have Hyp := Lib.hid hyp
  clear hyp hlp
  have hplq : (ptx q).length ≤ 900002 := by simp only [ptx, List.length_append, List.length_cons, List.length_nil]; omega
  have hparq := paren_any q hq hlq
  obtain ⟨z, hyq⟩ : ∃ y, y = ptx q := ⟨_, rfl⟩
  rw [← hyq] at hplq ⊢
  have Hyq := Lib.hid hyq
  clear hyq hlq
  clear hp hq
  obtain ⟨b0, o0, ka0, kc0, ha0, hbl0, hrow0, hn0⟩ := hk.get (k := 0) (t := p) (by rw [htk]; rfl)
  obtain ⟨b1, o1, ka1, kc1, ha1, hbl1, hrow1, hn1⟩ := hk.get (k := 1) (t := q) (by rw [htk]; rfl)
  have hlen : t.kids.length = 2 := by rw [htk]; rfl
  subst ha0
  have hae1 := Option.some.inj ha1
  have hbe1 : b0 = b1 := by cases hae1; rfl
  have hoe1 : o0 = o1 := by cases hae1; rfl
  subst hbe1 hoe1
  clear ha1 hae1
  have c1 : (t.kind == 1) = false := by rw [h3]; rfl
  have c2 : (t.kind == 2) = false := by rw [h3]; rfl
  have c3 : (t.kind == 3) = false := by rw [h3]; rfl
  have c4 : (t.kind == 4) = false := by rw [h3]; rfl
  have c5 : (t.kind == 5) = true := by rw [h3]; rfl
  have Hlen := Lib.hid hlen
  have Hrow0 := Lib.hid hrow0
  have Hn0 := Lib.hid hn0
  clear hrow0 hn0
  have Hrow1 := Lib.hid hrow1
  have Hn1 := Lib.hid hn1
  clear hrow1 hn1
  have hk0 : (0 : Int) < (t.kids.length : Int) := by rw [hlen]; exact (by decide : (0 : Int) < ((2 : Nat) : Int))
  have hk1 : (1 : Int) < (t.kids.length : Int) := by rw [hlen]; exact (by decide : (1 : Int) < ((2 : Nat) : Int))
  have hne : ¬ t.kids = [] := by intro h; rw [h] at hlen; cases hlen
  clear hk htk h3 ht hlen
  unfold nodeVal
  go_enter Tryz.func44, Tryz.ntmps44
  go_upto_region 13 with (fail)
  obtain ⟨W, hW⟩ : ∃ W, W = w.alloc (.cells #[.int .i64 t.kind, .string ⟨t.name.toArray⟩, .string ⟨t.other.toArray⟩, .int .i64 t.n, .int .i64 t.len, .int .i64 t.init, .bool t.ghost, .slice (some ⟨b0, o0, none⟩) t.kids.length cap, .int .i64 t.off] 25) := ⟨_, rfl⟩
  have hWs : w.heap.size < W.heap.size := by rw [hW]; simp
  have Hb := Lib.hid (show Below w.heap.size w W by rw [hW]; exact (Below.refl _ _).alloc (Nat.le_refl _) _)
  have HWn := Lib.hid (show NineAt W w.heap.size 0 t (.slice (some ⟨b0, o0, none⟩) t.kids.length cap) by rw [hW]; exact NineAt.var w t _)
  have z0 : Var 25 W w.heap.size #[.int .i64 t.kind, .string ⟨t.name.toArray⟩, .string ⟨t.other.toArray⟩, .int .i64 t.n, .int .i64 t.len, .int .i64 t.init, .bool t.ghost, .slice (some ⟨b0, o0, none⟩) t.kids.length cap, .int .i64 t.off] := by rw [hW]; exact Var.new _ _ _
  have Hz := Lib.hid z0
  clear z0
  rw [← hW]
  clear hW
  obtain ⟨e0, e1, e2, e3, e4, e5, e6, e7, e8⟩ := HWn.out
  simp only [Nat.zero_add] at e0 e1 e2 e3 e4 e5 e6 e7 e8
  have hn0 := Hn0.out.below Hb.out (by assumption)
  have hw0 : b0 < W.heap.size := by omega
  have hn1 := Hn1.out.below Hb.out (by assumption)
  have hw1 : b0 < W.heap.size := by omega
  simp only [Nat.zero_mul, Nat.one_mul, Nat.add_zero] at hn0 hn1
  refine wp_region_held_drew (S := (fun w' => Below W.heap.size W w')) (by as_aux_lemma => kernel_rfl) ((Below.refl _ _).drew) (fun hHeld => ?_)
  obtain ⟨v0, hv0⟩ : ∃ V, V = W.drew := ⟨_, rfl⟩
  rw [← hv0] at hHeld ⊢
  clear hv0
  have q1 : ¬ (9223372036854775807 < y.length + 1) := by omega
  have q2 : ¬ (9223372036854775807 < y.length + 1 + t.name.length) := by omega
  have q3 : ¬ (9223372036854775807 < y.length + 1 + t.name.length + 1) := by omega
  have q4 : ¬ (9223372036854775807 < y.length + 1 + t.name.length + 1 + z.length) := by omega
  refine take_in (i := 0) (v := .pointer (some ⟨w.heap.size, 7, none⟩)) rfl (by as_aux_lemma => kernel_rfl) (by as_aux_lemma => kernel_rfl) (by as_aux_lemma => kernel_rfl) (fun _ _ _ h => h) (by rfl) (fun _ _ => by first | rfl | (go_simp; done) | (go_simp; rfl)) hHeld ?_
  (try simp only [Act.put, List.setIfInBounds_toArray, List.set_cons_zero, List.set_cons_succ])
  refine take_in (i := 1) (v := .slice (some ⟨b0, o0, none⟩) t.kids.length cap) rfl (by as_aux_lemma => kernel_rfl) (by as_aux_lemma => kernel_rfl) (by as_aux_lemma => kernel_rfl) (fun _ _ _ h => h) (by rfl) (fun w' hb => by have hc := (hb.cell (p := ⟨w.heap.size, 7, none⟩) hWs).trans e7; go_simp) hHeld ?_
  (try simp only [Act.put, List.setIfInBounds_toArray, List.set_cons_zero, List.set_cons_succ])
  refine take_in (i := 2) (v := .pointer (some ⟨b0, o0, none⟩)) rfl (by as_aux_lemma => kernel_rfl) (by as_aux_lemma => kernel_rfl) (by as_aux_lemma => kernel_rfl) (fun _ _ _ h => h) (by rfl) (fun _ _ => by first | rfl | (go_simp; done) | (go_simp; rfl)) hHeld ?_
  (try simp only [Act.put, List.setIfInBounds_toArray, List.set_cons_zero, List.set_cons_succ])
  refine take_in (i := 3) (v := .agg #[.int .i64 p.kind, .string ⟨p.name.toArray⟩, .string ⟨p.other.toArray⟩, .int .i64 p.n, .int .i64 p.len, .int .i64 p.init, .bool p.ghost, .slice ka0 p.kids.length kc0, .int .i64 p.off]) rfl (by as_aux_lemma => kernel_rfl) (by as_aux_lemma => kernel_rfl) (by as_aux_lemma => kernel_rfl) (fun _ _ _ h => h) (by rfl) (fun w' hb => by obtain ⟨d0, d1, d2, d3, d4, d5, d6, d7, d8⟩ := (hn0).below hb hw0; go_simp) hHeld ?_
  (try simp only [Act.put, List.setIfInBounds_toArray, List.set_cons_zero, List.set_cons_succ])
  refine take_in (i := 6) (v := .pointer (some ⟨w.heap.size, 1, none⟩)) rfl (by as_aux_lemma => kernel_rfl) (by as_aux_lemma => kernel_rfl) (by as_aux_lemma => kernel_rfl) (fun _ _ _ h => h) (by rfl) (fun _ _ => by first | rfl | (go_simp; done) | (go_simp; rfl)) hHeld ?_
  (try simp only [Act.put, List.setIfInBounds_toArray, List.set_cons_zero, List.set_cons_succ])
  refine take_in (i := 7) (v := .string ⟨t.name.toArray⟩) rfl (by as_aux_lemma => kernel_rfl) (by as_aux_lemma => kernel_rfl) (by as_aux_lemma => kernel_rfl) (fun _ _ _ h => h) (by rfl) (fun w' hb => by have hc := (hb.cell (p := ⟨w.heap.size, 1, none⟩) hWs).trans e1; go_simp) hHeld ?_
  (try simp only [Act.put, List.setIfInBounds_toArray, List.set_cons_zero, List.set_cons_succ])
  refine take_in (i := 10) (v := .pointer (some ⟨w.heap.size, 7, none⟩)) rfl (by as_aux_lemma => kernel_rfl) (by as_aux_lemma => kernel_rfl) (by as_aux_lemma => kernel_rfl) (fun _ _ _ h => h) (by rfl) (fun _ _ => by first | rfl | (go_simp; done) | (go_simp; rfl)) hHeld ?_
  (try simp only [Act.put, List.setIfInBounds_toArray, List.set_cons_zero, List.set_cons_succ])
  refine take_in (i := 11) (v := .slice (some ⟨b0, o0, none⟩) t.kids.length cap) rfl (by as_aux_lemma => kernel_rfl) (by as_aux_lemma => kernel_rfl) (by as_aux_lemma => kernel_rfl) (fun _ _ _ h => h) (by rfl) (fun w' hb => by have hc := (hb.cell (p := ⟨w.heap.size, 7, none⟩) hWs).trans e7; go_simp) hHeld ?_
  (try simp only [Act.put, List.setIfInBounds_toArray, List.set_cons_zero, List.set_cons_succ])
  refine take_in (i := 12) (v := .pointer (some ⟨b0, o0 + 9, none⟩)) rfl (by as_aux_lemma => kernel_rfl) (by as_aux_lemma => kernel_rfl) (by as_aux_lemma => kernel_rfl) (fun _ _ _ h => h) (by rfl) (fun _ _ => by first | rfl | (go_simp; done) | (go_simp; rfl)) hHeld ?_
  (try simp only [Act.put, List.setIfInBounds_toArray, List.set_cons_zero, List.set_cons_succ])
  refine take_in (i := 13) (v := .agg #[.int .i64 q.kind, .string ⟨q.name.toArray⟩, .string ⟨q.other.toArray⟩, .int .i64 q.n, .int .i64 q.len, .int .i64 q.init, .bool q.ghost, .slice ka1 q.kids.length kc1, .int .i64 q.off]) rfl (by as_aux_lemma => kernel_rfl) (by as_aux_lemma => kernel_rfl) (by as_aux_lemma => kernel_rfl) (fun _ _ _ h => h) (by rfl) (fun w' hb => by obtain ⟨d0, d1, d2, d3, d4, d5, d6, d7, d8⟩ := (hn1).below hb hw1; go_simp) hHeld ?_
  (try simp only [Act.put, List.setIfInBounds_toArray, List.set_cons_zero, List.set_cons_succ])
  refine call_in (i := 4) (f := 67) (args := #[nodeVal p (.slice ka0 p.kids.length kc0)]) (by as_aux_lemma => kernel_rfl) rfl (by rfl) (by first | rfl | (go_simp; done) | (simp only [nodeVal]; go_simp; done)) ?_
  refine (hparp ka0 kc0 v0 ((Hrow0.out.below (Hb.out.trans (hHeld.mono (by omega)))).mono (Nat.le_trans (by omega) hHeld.size))).mono ?_
  rintro e' v1 ⟨rfl, hq⟩
  rw [← Hyp.out]
  refine ⟨_, rfl, (below_step hHeld hq), fun hHeld => ?_⟩
  (try simp only [Act.put, List.setIfInBounds_toArray, List.set_cons_zero, List.set_cons_succ])
  clear hq
  refine take_in (i := 5) (v := .string ((⟨y.toArray⟩ : ByteArray) ++ ⟨#[32]⟩)) rfl (by as_aux_lemma => kernel_rfl) (by as_aux_lemma => kernel_rfl) (by as_aux_lemma => kernel_rfl) (fun _ _ _ h => h) (by rfl) (fun _ _ => by first | rfl | (go_simp; done) | (go_simp; rfl)) hHeld ?_
  (try simp only [Act.put, List.setIfInBounds_toArray, List.set_cons_zero, List.set_cons_succ])
  refine take_in (i := 8) (v := .string ((⟨y.toArray⟩ : ByteArray) ++ ⟨#[32]⟩ ++ ⟨t.name.toArray⟩)) rfl (by as_aux_lemma => kernel_rfl) (by as_aux_lemma => kernel_rfl) (by as_aux_lemma => kernel_rfl) (fun _ _ _ h => h) (by rfl) (fun _ _ => by first | rfl | (go_simp; done) | (go_simp; rfl)) hHeld ?_
  (try simp only [Act.put, List.setIfInBounds_toArray, List.set_cons_zero, List.set_cons_succ])
  refine take_in (i := 9) (v := .string ((⟨y.toArray⟩ : ByteArray) ++ ⟨#[32]⟩ ++ ⟨t.name.toArray⟩ ++ ⟨#[32]⟩)) rfl (by as_aux_lemma => kernel_rfl) (by as_aux_lemma => kernel_rfl) (by as_aux_lemma => kernel_rfl) (fun _ _ _ h => h) (by rfl) (fun _ _ => by first | rfl | (go_simp; done) | (go_simp; rfl)) hHeld ?_
  (try simp only [Act.put, List.setIfInBounds_toArray, List.set_cons_zero, List.set_cons_succ])
  refine call_in (i := 14) (f := 67) (args := #[nodeVal q (.slice ka1 q.kids.length kc1)]) (by as_aux_lemma => kernel_rfl) rfl (by rfl) (by first | rfl | (go_simp; done) | (simp only [nodeVal]; go_simp; done)) ?_
  refine (hparq ka1 kc1 v1 ((Hrow1.out.below (Hb.out.trans (hHeld.mono (by omega)))).mono (Nat.le_trans (by omega) hHeld.size))).mono ?_
  rintro e' v2 ⟨rfl, hq⟩
  rw [← Hyq.out]
  refine ⟨_, rfl, (below_step hHeld hq), fun hHeld => ?_⟩
  (try simp only [Act.put, List.setIfInBounds_toArray, List.set_cons_zero, List.set_cons_succ])
  clear hq
  refine take_in (i := 15) (v := .string ((⟨y.toArray⟩ : ByteArray) ++ ⟨#[32]⟩ ++ ⟨t.name.toArray⟩ ++ ⟨#[32]⟩ ++ ⟨z.toArray⟩)) rfl (by as_aux_lemma => kernel_rfl) (by as_aux_lemma => kernel_rfl) (by as_aux_lemma => kernel_rfl) (fun _ _ _ h => h) (by rfl) (fun _ _ => by first | rfl | (go_simp; done) | (go_simp; rfl)) hHeld ?_
  (try simp only [Act.put, List.setIfInBounds_toArray, List.set_cons_zero, List.set_cons_succ])
  refine take_in (i := 16) (v := .string ((⟨y.toArray⟩ : ByteArray) ++ ⟨#[32]⟩ ++ ⟨t.name.toArray⟩ ++ ⟨#[32]⟩ ++ ⟨z.toArray⟩)) rfl (by as_aux_lemma => kernel_rfl) (by as_aux_lemma => kernel_rfl) (by as_aux_lemma => kernel_rfl) (fun _ _ _ h => h) (by rfl) (fun _ _ => by first | rfl | (go_simp; done) | (go_simp; rfl)) hHeld ?_
  (try simp only [Act.put, List.setIfInBounds_toArray, List.set_cons_zero, List.set_cons_succ])
  refine wpAnyH_done (by as_aux_lemma => kernel_rfl) ?_ _
  go_wp2_with fail
  go_ret
  refine ⟨ret_strX ?_, Hb.out.trans (hHeld.mono (by omega))⟩
  apply ByteArray.ext
  simp
  
set_option maxRecDepth 100000 in
set_option maxHeartbeats 2000000 in
theorem rtx_cond (p q r : T) (o : Int) (hp : TxSaid p) (hq' : TxSaid q) (hr : TxSaid r) (hlp : (tx p).length ≤ 900000) (hlq' : (tx q).length ≤ 900000) (hlr : (tx r).length ≤ 900000) : TxSaid (.mk 6 [] [] 0 0 0 false [p, q, r] o) := by
  intro a cap w hk
  rw [tx_cond]
  obtain ⟨t, ht⟩ : ∃ t, t = (.mk 6 [] [] 0 0 0 false [p, q, r] o : T) := ⟨_, rfl⟩
  have htk : t.kids = [p, q, r] := by rw [ht]; rfl
  have h3 : t.kind = 6 := by rw [ht]; rfl
  rw [← ht] at hk ⊢
  have hq := hq'
  have hlq := hlq'
  clear hq' hlq'
  have hplp : (ptx p).length ≤ 900002 := by simp only [ptx, List.length_append, List.length_cons, List.length_nil]; omega
  have hparp := paren_any p hp hlp
  obtain ⟨y, hyp⟩ : ∃ y, y = ptx p := ⟨_, rfl⟩
  rw [← hyp] at hplp ⊢
  have Hyp := Lib.hid hyp
  clear hyp hlp
  have hplq : (ptx q).length ≤ 900002 := by simp only [ptx, List.length_append, List.length_cons, List.length_nil]; omega
  have hparq := paren_any q hq hlq
  obtain ⟨z, hyq⟩ : ∃ y, y = ptx q := ⟨_, rfl⟩
  rw [← hyq] at hplq ⊢
  have Hyq := Lib.hid hyq
  clear hyq hlq
  have hplr : (ptx r).length ≤ 900002 := by simp only [ptx, List.length_append, List.length_cons, List.length_nil]; omega
  have hparr := paren_any r hr hlr
  obtain ⟨u, hyr⟩ : ∃ y, y = ptx r := ⟨_, rfl⟩
  rw [← hyr] at hplr ⊢
  have Hyr := Lib.hid hyr
  clear hyr hlr
  clear hp hq hr
  obtain ⟨b0, o0, ka0, kc0, ha0, hbl0, hrow0, hn0⟩ := hk.get (k := 0) (t := p) (by rw [htk]; rfl)
  obtain ⟨b1, o1, ka1, kc1, ha1, hbl1, hrow1, hn1⟩ := hk.get (k := 1) (t := q) (by rw [htk]; rfl)
  obtain ⟨b2, o2, ka2, kc2, ha2, hbl2, hrow2, hn2⟩ := hk.get (k := 2) (t := r) (by rw [htk]; rfl)
  have hlen : t.kids.length = 3 := by rw [htk]; rfl
  subst ha0
  have hae1 := Option.some.inj ha1
  have hbe1 : b0 = b1 := by cases hae1; rfl
  have hoe1 : o0 = o1 := by cases hae1; rfl
  subst hbe1 hoe1
  clear ha1 hae1
  have hae2 := Option.some.inj ha2
  have hbe2 : b0 = b2 := by cases hae2; rfl
  have hoe2 : o0 = o2 := by cases hae2; rfl
  subst hbe2 hoe2
  clear ha2 hae2
  have c1 : (t.kind == 1) = false := by rw [h3]; rfl
  have c2 : (t.kind == 2) = false := by rw [h3]; rfl
  have c3 : (t.kind == 3) = false := by rw [h3]; rfl
  have c4 : (t.kind == 4) = false := by rw [h3]; rfl
  have c5 : (t.kind == 5) = false := by rw [h3]; rfl
  have c6 : (t.kind == 6) = true := by rw [h3]; rfl
  have Hlen := Lib.hid hlen
  have Hrow0 := Lib.hid hrow0
  have Hn0 := Lib.hid hn0
  clear hrow0 hn0
  have Hrow1 := Lib.hid hrow1
  have Hn1 := Lib.hid hn1
  clear hrow1 hn1
  have Hrow2 := Lib.hid hrow2
  have Hn2 := Lib.hid hn2
  clear hrow2 hn2
  have hk0 : (0 : Int) < (t.kids.length : Int) := by rw [hlen]; exact (by decide : (0 : Int) < ((3 : Nat) : Int))
  have hk1 : (1 : Int) < (t.kids.length : Int) := by rw [hlen]; exact (by decide : (1 : Int) < ((3 : Nat) : Int))
  have hk2 : (2 : Int) < (t.kids.length : Int) := by rw [hlen]; exact (by decide : (2 : Int) < ((3 : Nat) : Int))
  have hne : ¬ t.kids = [] := by intro h; rw [h] at hlen; cases hlen
  clear hk htk h3 ht hlen
  unfold nodeVal
  go_enter Tryz.func44, Tryz.ntmps44
  go_upto_region 15 with (fail)
  obtain ⟨W, hW⟩ : ∃ W, W = w.alloc (.cells #[.int .i64 t.kind, .string ⟨t.name.toArray⟩, .string ⟨t.other.toArray⟩, .int .i64 t.n, .int .i64 t.len, .int .i64 t.init, .bool t.ghost, .slice (some ⟨b0, o0, none⟩) t.kids.length cap, .int .i64 t.off] 25) := ⟨_, rfl⟩
  have hWs : w.heap.size < W.heap.size := by rw [hW]; simp
  have Hb := Lib.hid (show Below w.heap.size w W by rw [hW]; exact (Below.refl _ _).alloc (Nat.le_refl _) _)
  have HWn := Lib.hid (show NineAt W w.heap.size 0 t (.slice (some ⟨b0, o0, none⟩) t.kids.length cap) by rw [hW]; exact NineAt.var w t _)
  have z0 : Var 25 W w.heap.size #[.int .i64 t.kind, .string ⟨t.name.toArray⟩, .string ⟨t.other.toArray⟩, .int .i64 t.n, .int .i64 t.len, .int .i64 t.init, .bool t.ghost, .slice (some ⟨b0, o0, none⟩) t.kids.length cap, .int .i64 t.off] := by rw [hW]; exact Var.new _ _ _
  have Hz := Lib.hid z0
  clear z0
  rw [← hW]
  clear hW
  obtain ⟨e0, e1, e2, e3, e4, e5, e6, e7, e8⟩ := HWn.out
  simp only [Nat.zero_add] at e0 e1 e2 e3 e4 e5 e6 e7 e8
  have hn0 := Hn0.out.below Hb.out (by assumption)
  have hw0 : b0 < W.heap.size := by omega
  have hn1 := Hn1.out.below Hb.out (by assumption)
  have hw1 : b0 < W.heap.size := by omega
  have hn2 := Hn2.out.below Hb.out (by assumption)
  have hw2 : b0 < W.heap.size := by omega
  simp only [Nat.zero_mul, Nat.one_mul, Nat.add_zero] at hn0 hn1 hn2
  refine wp_region_held_drew (S := (fun w' => Below W.heap.size W w')) (by as_aux_lemma => kernel_rfl) ((Below.refl _ _).drew) (fun hHeld => ?_)
  obtain ⟨v0, hv0⟩ : ∃ V, V = W.drew := ⟨_, rfl⟩
  rw [← hv0] at hHeld ⊢
  clear hv0
  have q1 : ¬ (9223372036854775807 < y.length + 3) := by omega
  have q2 : ¬ (9223372036854775807 < y.length + 3 + z.length) := by omega
  have q3 : ¬ (9223372036854775807 < y.length + 3 + z.length + 3) := by omega
  have q4 : ¬ (9223372036854775807 < y.length + 3 + z.length + 3 + u.length) := by omega
  refine take_in (i := 0) (v := .pointer (some ⟨w.heap.size, 7, none⟩)) rfl (by as_aux_lemma => kernel_rfl) (by as_aux_lemma => kernel_rfl) (by as_aux_lemma => kernel_rfl) (fun _ _ _ h => h) (by rfl) (fun _ _ => by first | rfl | (go_simp; done) | (go_simp; rfl)) hHeld ?_
  (try simp only [Act.put, List.setIfInBounds_toArray, List.set_cons_zero, List.set_cons_succ])
  refine take_in (i := 1) (v := .slice (some ⟨b0, o0, none⟩) t.kids.length cap) rfl (by as_aux_lemma => kernel_rfl) (by as_aux_lemma => kernel_rfl) (by as_aux_lemma => kernel_rfl) (fun _ _ _ h => h) (by rfl) (fun w' hb => by have hc := (hb.cell (p := ⟨w.heap.size, 7, none⟩) hWs).trans e7; go_simp) hHeld ?_
  (try simp only [Act.put, List.setIfInBounds_toArray, List.set_cons_zero, List.set_cons_succ])
  refine take_in (i := 2) (v := .pointer (some ⟨b0, o0, none⟩)) rfl (by as_aux_lemma => kernel_rfl) (by as_aux_lemma => kernel_rfl) (by as_aux_lemma => kernel_rfl) (fun _ _ _ h => h) (by rfl) (fun _ _ => by first | rfl | (go_simp; done) | (go_simp; rfl)) hHeld ?_
  (try simp only [Act.put, List.setIfInBounds_toArray, List.set_cons_zero, List.set_cons_succ])
  refine take_in (i := 3) (v := .agg #[.int .i64 p.kind, .string ⟨p.name.toArray⟩, .string ⟨p.other.toArray⟩, .int .i64 p.n, .int .i64 p.len, .int .i64 p.init, .bool p.ghost, .slice ka0 p.kids.length kc0, .int .i64 p.off]) rfl (by as_aux_lemma => kernel_rfl) (by as_aux_lemma => kernel_rfl) (by as_aux_lemma => kernel_rfl) (fun _ _ _ h => h) (by rfl) (fun w' hb => by obtain ⟨d0, d1, d2, d3, d4, d5, d6, d7, d8⟩ := (hn0).below hb hw0; go_simp) hHeld ?_
  (try simp only [Act.put, List.setIfInBounds_toArray, List.set_cons_zero, List.set_cons_succ])
  refine take_in (i := 6) (v := .pointer (some ⟨w.heap.size, 7, none⟩)) rfl (by as_aux_lemma => kernel_rfl) (by as_aux_lemma => kernel_rfl) (by as_aux_lemma => kernel_rfl) (fun _ _ _ h => h) (by rfl) (fun _ _ => by first | rfl | (go_simp; done) | (go_simp; rfl)) hHeld ?_
  (try simp only [Act.put, List.setIfInBounds_toArray, List.set_cons_zero, List.set_cons_succ])
  refine take_in (i := 7) (v := .slice (some ⟨b0, o0, none⟩) t.kids.length cap) rfl (by as_aux_lemma => kernel_rfl) (by as_aux_lemma => kernel_rfl) (by as_aux_lemma => kernel_rfl) (fun _ _ _ h => h) (by rfl) (fun w' hb => by have hc := (hb.cell (p := ⟨w.heap.size, 7, none⟩) hWs).trans e7; go_simp) hHeld ?_
  (try simp only [Act.put, List.setIfInBounds_toArray, List.set_cons_zero, List.set_cons_succ])
  refine take_in (i := 8) (v := .pointer (some ⟨b0, o0 + 9, none⟩)) rfl (by as_aux_lemma => kernel_rfl) (by as_aux_lemma => kernel_rfl) (by as_aux_lemma => kernel_rfl) (fun _ _ _ h => h) (by rfl) (fun _ _ => by first | rfl | (go_simp; done) | (go_simp; rfl)) hHeld ?_
  (try simp only [Act.put, List.setIfInBounds_toArray, List.set_cons_zero, List.set_cons_succ])
  refine take_in (i := 9) (v := .agg #[.int .i64 q.kind, .string ⟨q.name.toArray⟩, .string ⟨q.other.toArray⟩, .int .i64 q.n, .int .i64 q.len, .int .i64 q.init, .bool q.ghost, .slice ka1 q.kids.length kc1, .int .i64 q.off]) rfl (by as_aux_lemma => kernel_rfl) (by as_aux_lemma => kernel_rfl) (by as_aux_lemma => kernel_rfl) (fun _ _ _ h => h) (by rfl) (fun w' hb => by obtain ⟨d0, d1, d2, d3, d4, d5, d6, d7, d8⟩ := (hn1).below hb hw1; go_simp) hHeld ?_
  (try simp only [Act.put, List.setIfInBounds_toArray, List.set_cons_zero, List.set_cons_succ])
  refine take_in (i := 13) (v := .pointer (some ⟨w.heap.size, 7, none⟩)) rfl (by as_aux_lemma => kernel_rfl) (by as_aux_lemma => kernel_rfl) (by as_aux_lemma => kernel_rfl) (fun _ _ _ h => h) (by rfl) (fun _ _ => by first | rfl | (go_simp; done) | (go_simp; rfl)) hHeld ?_
  (try simp only [Act.put, List.setIfInBounds_toArray, List.set_cons_zero, List.set_cons_succ])
  refine take_in (i := 14) (v := .slice (some ⟨b0, o0, none⟩) t.kids.length cap) rfl (by as_aux_lemma => kernel_rfl) (by as_aux_lemma => kernel_rfl) (by as_aux_lemma => kernel_rfl) (fun _ _ _ h => h) (by rfl) (fun w' hb => by have hc := (hb.cell (p := ⟨w.heap.size, 7, none⟩) hWs).trans e7; go_simp) hHeld ?_
  (try simp only [Act.put, List.setIfInBounds_toArray, List.set_cons_zero, List.set_cons_succ])
  refine take_in (i := 15) (v := .pointer (some ⟨b0, o0 + 18, none⟩)) rfl (by as_aux_lemma => kernel_rfl) (by as_aux_lemma => kernel_rfl) (by as_aux_lemma => kernel_rfl) (fun _ _ _ h => h) (by rfl) (fun _ _ => by first | rfl | (go_simp; done) | (go_simp; rfl)) hHeld ?_
  (try simp only [Act.put, List.setIfInBounds_toArray, List.set_cons_zero, List.set_cons_succ])
  refine take_in (i := 16) (v := .agg #[.int .i64 r.kind, .string ⟨r.name.toArray⟩, .string ⟨r.other.toArray⟩, .int .i64 r.n, .int .i64 r.len, .int .i64 r.init, .bool r.ghost, .slice ka2 r.kids.length kc2, .int .i64 r.off]) rfl (by as_aux_lemma => kernel_rfl) (by as_aux_lemma => kernel_rfl) (by as_aux_lemma => kernel_rfl) (fun _ _ _ h => h) (by rfl) (fun w' hb => by obtain ⟨d0, d1, d2, d3, d4, d5, d6, d7, d8⟩ := (hn2).below hb hw2; go_simp) hHeld ?_
  (try simp only [Act.put, List.setIfInBounds_toArray, List.set_cons_zero, List.set_cons_succ])
  refine call_in (i := 4) (f := 67) (args := #[nodeVal p (.slice ka0 p.kids.length kc0)]) (by as_aux_lemma => kernel_rfl) rfl (by rfl) (by first | rfl | (go_simp; done) | (simp only [nodeVal]; go_simp; done)) ?_
  refine (hparp ka0 kc0 v0 ((Hrow0.out.below (Hb.out.trans (hHeld.mono (by omega)))).mono (Nat.le_trans (by omega) hHeld.size))).mono ?_
  rintro e' v1 ⟨rfl, hq⟩
  rw [← Hyp.out]
  refine ⟨_, rfl, (below_step hHeld hq), fun hHeld => ?_⟩
  (try simp only [Act.put, List.setIfInBounds_toArray, List.set_cons_zero, List.set_cons_succ])
  clear hq
  refine take_in (i := 5) (v := .string ((⟨y.toArray⟩ : ByteArray) ++ ⟨#[32, 63, 32]⟩)) rfl (by as_aux_lemma => kernel_rfl) (by as_aux_lemma => kernel_rfl) (by as_aux_lemma => kernel_rfl) (fun _ _ _ h => h) (by rfl) (fun _ _ => by first | rfl | (go_simp; done) | (go_simp; rfl)) hHeld ?_
  (try simp only [Act.put, List.setIfInBounds_toArray, List.set_cons_zero, List.set_cons_succ])
  refine call_in (i := 10) (f := 67) (args := #[nodeVal q (.slice ka1 q.kids.length kc1)]) (by as_aux_lemma => kernel_rfl) rfl (by rfl) (by first | rfl | (go_simp; done) | (simp only [nodeVal]; go_simp; done)) ?_
  refine (hparq ka1 kc1 v1 ((Hrow1.out.below (Hb.out.trans (hHeld.mono (by omega)))).mono (Nat.le_trans (by omega) hHeld.size))).mono ?_
  rintro e' v2 ⟨rfl, hq⟩
  rw [← Hyq.out]
  refine ⟨_, rfl, (below_step hHeld hq), fun hHeld => ?_⟩
  (try simp only [Act.put, List.setIfInBounds_toArray, List.set_cons_zero, List.set_cons_succ])
  clear hq
  refine take_in (i := 11) (v := .string ((⟨y.toArray⟩ : ByteArray) ++ ⟨#[32, 63, 32]⟩ ++ ⟨z.toArray⟩)) rfl (by as_aux_lemma => kernel_rfl) (by as_aux_lemma => kernel_rfl) (by as_aux_lemma => kernel_rfl) (fun _ _ _ h => h) (by rfl) (fun _ _ => by first | rfl | (go_simp; done) | (go_simp; rfl)) hHeld ?_
  (try simp only [Act.put, List.setIfInBounds_toArray, List.set_cons_zero, List.set_cons_succ])
  refine take_in (i := 12) (v := .string ((⟨y.toArray⟩ : ByteArray) ++ ⟨#[32, 63, 32]⟩ ++ ⟨z.toArray⟩ ++ ⟨#[32, 58, 32]⟩)) rfl (by as_aux_lemma => kernel_rfl) (by as_aux_lemma => kernel_rfl) (by as_aux_lemma => kernel_rfl) (fun _ _ _ h => h) (by rfl) (fun _ _ => by first | rfl | (go_simp; done) | (go_simp; rfl)) hHeld ?_
  (try simp only [Act.put, List.setIfInBounds_toArray, List.set_cons_zero, List.set_cons_succ])
  refine call_in (i := 17) (f := 67) (args := #[nodeVal r (.slice ka2 r.kids.length kc2)]) (by as_aux_lemma => kernel_rfl) rfl (by rfl) (by first | rfl | (go_simp; done) | (simp only [nodeVal]; go_simp; done)) ?_
  refine (hparr ka2 kc2 v2 ((Hrow2.out.below (Hb.out.trans (hHeld.mono (by omega)))).mono (Nat.le_trans (by omega) hHeld.size))).mono ?_
  rintro e' v3 ⟨rfl, hq⟩
  rw [← Hyr.out]
  refine ⟨_, rfl, (below_step hHeld hq), fun hHeld => ?_⟩
  (try simp only [Act.put, List.setIfInBounds_toArray, List.set_cons_zero, List.set_cons_succ])
  clear hq
  refine take_in (i := 18) (v := .string ((⟨y.toArray⟩ : ByteArray) ++ ⟨#[32, 63, 32]⟩ ++ ⟨z.toArray⟩ ++ ⟨#[32, 58, 32]⟩ ++ ⟨u.toArray⟩)) rfl (by as_aux_lemma => kernel_rfl) (by as_aux_lemma => kernel_rfl) (by as_aux_lemma => kernel_rfl) (fun _ _ _ h => h) (by rfl) (fun _ _ => by first | rfl | (go_simp; done) | (go_simp; rfl)) hHeld ?_
  (try simp only [Act.put, List.setIfInBounds_toArray, List.set_cons_zero, List.set_cons_succ])
  refine take_in (i := 19) (v := .string ((⟨y.toArray⟩ : ByteArray) ++ ⟨#[32, 63, 32]⟩ ++ ⟨z.toArray⟩ ++ ⟨#[32, 58, 32]⟩ ++ ⟨u.toArray⟩)) rfl (by as_aux_lemma => kernel_rfl) (by as_aux_lemma => kernel_rfl) (by as_aux_lemma => kernel_rfl) (fun _ _ _ h => h) (by rfl) (fun _ _ => by first | rfl | (go_simp; done) | (go_simp; rfl)) hHeld ?_
  (try simp only [Act.put, List.setIfInBounds_toArray, List.set_cons_zero, List.set_cons_succ])
  refine wpAnyH_done (by as_aux_lemma => kernel_rfl) ?_ _
  go_wp2_with fail
  go_ret
  refine ⟨ret_strX ?_, Hb.out.trans (hHeld.mono (by omega))⟩
  apply ByteArray.ext
  simp
  
set_option maxRecDepth 100000 in
set_option maxHeartbeats 2000000 in
theorem rtx_all (x : Px.Str) (n : Int) (p : T) (o : Int) (hx : NameOk x) (hn : NumOk n) (hp : TxSaid p) (hlp : (tx p).length ≤ 900000) : TxSaid (.mk 7 x [] n 0 0 false [p] o) := by
  intro a cap w hk
  rw [tx_all]
  obtain ⟨t, ht⟩ : ∃ t, t = (.mk 7 x [] n 0 0 false [p] o : T) := ⟨_, rfl⟩
  have htk : t.kids = [p] := by rw [ht]; rfl
  have h3 : t.kind = 7 := by rw [ht]; rfl
  rw [← ht] at hk ⊢
  have hx9 := hx.len.2
  have hd9 := dig_len hn
  have hnm : t.name = x := by rw [ht]; rfl
  have hnn : t.n = n := by rw [ht]; rfl
  rw [← hnm] at hx9 ⊢
  rw [← hnn] at hn hd9 ⊢
  have hdig := digits_any t.n hn
  obtain ⟨d, hd⟩ : ∃ d, d = dig t.n.toNat := ⟨_, rfl⟩
  rw [← hd] at hd9 hdig ⊢
  clear hnm hnn hx hn hd
  have hplp : (ptx p).length ≤ 900002 := by simp only [ptx, List.length_append, List.length_cons, List.length_nil]; omega
  have hparp := paren_any p hp hlp
  obtain ⟨y, hyp⟩ : ∃ y, y = ptx p := ⟨_, rfl⟩
  rw [← hyp] at hplp ⊢
  have Hyp := Lib.hid hyp
  clear hyp hlp
  clear hp
  obtain ⟨b0, o0, ka0, kc0, ha0, hbl0, hrow0, hn0⟩ := hk.get (k := 0) (t := p) (by rw [htk]; rfl)
  have hlen : t.kids.length = 1 := by rw [htk]; rfl
  subst ha0
  have c1 : (t.kind == 1) = false := by rw [h3]; rfl
  have c2 : (t.kind == 2) = false := by rw [h3]; rfl
  have c3 : (t.kind == 3) = false := by rw [h3]; rfl
  have c4 : (t.kind == 4) = false := by rw [h3]; rfl
  have c5 : (t.kind == 5) = false := by rw [h3]; rfl
  have c6 : (t.kind == 6) = false := by rw [h3]; rfl
  have c7 : (t.kind == 7) = true := by rw [h3]; rfl
  have Hlen := Lib.hid hlen
  have Hrow0 := Lib.hid hrow0
  have Hn0 := Lib.hid hn0
  clear hrow0 hn0
  have hk0 : (0 : Int) < (t.kids.length : Int) := by rw [hlen]; exact (by decide : (0 : Int) < ((1 : Nat) : Int))
  have hne : ¬ t.kids = [] := by intro h; rw [h] at hlen; cases hlen
  clear hk htk h3 ht hlen
  unfold nodeVal
  go_enter Tryz.func44, Tryz.ntmps44
  go_upto_region 17 with (fail)
  obtain ⟨W, hW⟩ : ∃ W, W = w.alloc (.cells #[.int .i64 t.kind, .string ⟨t.name.toArray⟩, .string ⟨t.other.toArray⟩, .int .i64 t.n, .int .i64 t.len, .int .i64 t.init, .bool t.ghost, .slice (some ⟨b0, o0, none⟩) t.kids.length cap, .int .i64 t.off] 25) := ⟨_, rfl⟩
  have hWs : w.heap.size < W.heap.size := by rw [hW]; simp
  have Hb := Lib.hid (show Below w.heap.size w W by rw [hW]; exact (Below.refl _ _).alloc (Nat.le_refl _) _)
  have HWn := Lib.hid (show NineAt W w.heap.size 0 t (.slice (some ⟨b0, o0, none⟩) t.kids.length cap) by rw [hW]; exact NineAt.var w t _)
  have z0 : Var 25 W w.heap.size #[.int .i64 t.kind, .string ⟨t.name.toArray⟩, .string ⟨t.other.toArray⟩, .int .i64 t.n, .int .i64 t.len, .int .i64 t.init, .bool t.ghost, .slice (some ⟨b0, o0, none⟩) t.kids.length cap, .int .i64 t.off] := by rw [hW]; exact Var.new _ _ _
  have Hz := Lib.hid z0
  clear z0
  rw [← hW]
  clear hW
  obtain ⟨e0, e1, e2, e3, e4, e5, e6, e7, e8⟩ := HWn.out
  simp only [Nat.zero_add] at e0 e1 e2 e3 e4 e5 e6 e7 e8
  have hn0 := Hn0.out.below Hb.out (by assumption)
  have hw0 : b0 < W.heap.size := by omega
  simp only [Nat.zero_mul, Nat.one_mul, Nat.add_zero] at hn0
  refine wp_region_held_drew (S := (fun w' => Below W.heap.size W w')) (by as_aux_lemma => kernel_rfl) ((Below.refl _ _).drew) (fun hHeld => ?_)
  obtain ⟨v0, hv0⟩ : ∃ V, V = W.drew := ⟨_, rfl⟩
  rw [← hv0] at hHeld ⊢
  clear hv0
  have q1 : ¬ (9223372036854775807 < 4 + t.name.length) := by omega
  have q2 : ¬ (9223372036854775807 < 4 + t.name.length + 3) := by omega
  have q3 : ¬ (9223372036854775807 < 4 + t.name.length + 3 + d.length) := by omega
  have q4 : ¬ (9223372036854775807 < 4 + t.name.length + 3 + d.length + 3) := by omega
  have q5 : ¬ (9223372036854775807 < 4 + t.name.length + 3 + d.length + 3 + y.length) := by omega
  refine take_in (i := 0) (v := .pointer (some ⟨w.heap.size, 1, none⟩)) rfl (by as_aux_lemma => kernel_rfl) (by as_aux_lemma => kernel_rfl) (by as_aux_lemma => kernel_rfl) (fun _ _ _ h => h) (by rfl) (fun _ _ => by first | rfl | (go_simp; done) | (go_simp; rfl)) hHeld ?_
  (try simp only [Act.put, List.setIfInBounds_toArray, List.set_cons_zero, List.set_cons_succ])
  refine take_in (i := 1) (v := .string ⟨t.name.toArray⟩) rfl (by as_aux_lemma => kernel_rfl) (by as_aux_lemma => kernel_rfl) (by as_aux_lemma => kernel_rfl) (fun _ _ _ h => h) (by rfl) (fun w' hb => by have hc := (hb.cell (p := ⟨w.heap.size, 1, none⟩) hWs).trans e1; go_simp) hHeld ?_
  (try simp only [Act.put, List.setIfInBounds_toArray, List.set_cons_zero, List.set_cons_succ])
  refine take_in (i := 2) (v := .string ((⟨#[97, 108, 108, 32]⟩ : ByteArray) ++ ⟨t.name.toArray⟩)) rfl (by as_aux_lemma => kernel_rfl) (by as_aux_lemma => kernel_rfl) (by as_aux_lemma => kernel_rfl) (fun _ _ _ h => h) (by rfl) (fun _ _ => by first | rfl | (go_simp; done) | (go_simp; rfl)) hHeld ?_
  (try simp only [Act.put, List.setIfInBounds_toArray, List.set_cons_zero, List.set_cons_succ])
  refine take_in (i := 3) (v := .string ((⟨#[97, 108, 108, 32]⟩ : ByteArray) ++ ⟨t.name.toArray⟩ ++ ⟨#[32, 60, 32]⟩)) rfl (by as_aux_lemma => kernel_rfl) (by as_aux_lemma => kernel_rfl) (by as_aux_lemma => kernel_rfl) (fun _ _ _ h => h) (by rfl) (fun _ _ => by first | rfl | (go_simp; done) | (go_simp; rfl)) hHeld ?_
  (try simp only [Act.put, List.setIfInBounds_toArray, List.set_cons_zero, List.set_cons_succ])
  refine take_in (i := 4) (v := .pointer (some ⟨w.heap.size, 3, none⟩)) rfl (by as_aux_lemma => kernel_rfl) (by as_aux_lemma => kernel_rfl) (by as_aux_lemma => kernel_rfl) (fun _ _ _ h => h) (by rfl) (fun _ _ => by first | rfl | (go_simp; done) | (go_simp; rfl)) hHeld ?_
  (try simp only [Act.put, List.setIfInBounds_toArray, List.set_cons_zero, List.set_cons_succ])
  refine take_in (i := 5) (v := .int .i64 t.n) rfl (by as_aux_lemma => kernel_rfl) (by as_aux_lemma => kernel_rfl) (by as_aux_lemma => kernel_rfl) (fun _ _ _ h => h) (by rfl) (fun w' hb => by have hc := (hb.cell (p := ⟨w.heap.size, 3, none⟩) hWs).trans e3; go_simp) hHeld ?_
  (try simp only [Act.put, List.setIfInBounds_toArray, List.set_cons_zero, List.set_cons_succ])
  refine take_in (i := 9) (v := .pointer (some ⟨w.heap.size, 7, none⟩)) rfl (by as_aux_lemma => kernel_rfl) (by as_aux_lemma => kernel_rfl) (by as_aux_lemma => kernel_rfl) (fun _ _ _ h => h) (by rfl) (fun _ _ => by first | rfl | (go_simp; done) | (go_simp; rfl)) hHeld ?_
  (try simp only [Act.put, List.setIfInBounds_toArray, List.set_cons_zero, List.set_cons_succ])
  refine take_in (i := 10) (v := .slice (some ⟨b0, o0, none⟩) t.kids.length cap) rfl (by as_aux_lemma => kernel_rfl) (by as_aux_lemma => kernel_rfl) (by as_aux_lemma => kernel_rfl) (fun _ _ _ h => h) (by rfl) (fun w' hb => by have hc := (hb.cell (p := ⟨w.heap.size, 7, none⟩) hWs).trans e7; go_simp) hHeld ?_
  (try simp only [Act.put, List.setIfInBounds_toArray, List.set_cons_zero, List.set_cons_succ])
  refine take_in (i := 11) (v := .pointer (some ⟨b0, o0, none⟩)) rfl (by as_aux_lemma => kernel_rfl) (by as_aux_lemma => kernel_rfl) (by as_aux_lemma => kernel_rfl) (fun _ _ _ h => h) (by rfl) (fun _ _ => by first | rfl | (go_simp; done) | (go_simp; rfl)) hHeld ?_
  (try simp only [Act.put, List.setIfInBounds_toArray, List.set_cons_zero, List.set_cons_succ])
  refine take_in (i := 12) (v := .agg #[.int .i64 p.kind, .string ⟨p.name.toArray⟩, .string ⟨p.other.toArray⟩, .int .i64 p.n, .int .i64 p.len, .int .i64 p.init, .bool p.ghost, .slice ka0 p.kids.length kc0, .int .i64 p.off]) rfl (by as_aux_lemma => kernel_rfl) (by as_aux_lemma => kernel_rfl) (by as_aux_lemma => kernel_rfl) (fun _ _ _ h => h) (by rfl) (fun w' hb => by obtain ⟨d0, d1, d2, d3, d4, d5, d6, d7, d8⟩ := (hn0).below hb hw0; go_simp) hHeld ?_
  (try simp only [Act.put, List.setIfInBounds_toArray, List.set_cons_zero, List.set_cons_succ])
  refine call_in (i := 6) (f := 66) (args := #[.int .i64 t.n]) (by as_aux_lemma => kernel_rfl) rfl (by rfl) (by first | rfl | (go_simp; done) | (simp only [nodeVal]; go_simp; done)) ?_
  refine (hdig v0).mono ?_
  rintro e' v1 ⟨rfl, hq⟩
  refine ⟨_, rfl, (below_step hHeld hq), fun hHeld => ?_⟩
  (try simp only [Act.put, List.setIfInBounds_toArray, List.set_cons_zero, List.set_cons_succ])
  clear hq
  refine take_in (i := 7) (v := .string ((⟨#[97, 108, 108, 32]⟩ : ByteArray) ++ ⟨t.name.toArray⟩ ++ ⟨#[32, 60, 32]⟩ ++ ⟨d.toArray⟩)) rfl (by as_aux_lemma => kernel_rfl) (by as_aux_lemma => kernel_rfl) (by as_aux_lemma => kernel_rfl) (fun _ _ _ h => h) (by rfl) (fun _ _ => by first | rfl | (go_simp; done) | (go_simp; rfl)) hHeld ?_
  (try simp only [Act.put, List.setIfInBounds_toArray, List.set_cons_zero, List.set_cons_succ])
  refine take_in (i := 8) (v := .string ((⟨#[97, 108, 108, 32]⟩ : ByteArray) ++ ⟨t.name.toArray⟩ ++ ⟨#[32, 60, 32]⟩ ++ ⟨d.toArray⟩ ++ ⟨#[32, 58, 32]⟩)) rfl (by as_aux_lemma => kernel_rfl) (by as_aux_lemma => kernel_rfl) (by as_aux_lemma => kernel_rfl) (fun _ _ _ h => h) (by rfl) (fun _ _ => by first | rfl | (go_simp; done) | (go_simp; rfl)) hHeld ?_
  (try simp only [Act.put, List.setIfInBounds_toArray, List.set_cons_zero, List.set_cons_succ])
  refine call_in (i := 13) (f := 67) (args := #[nodeVal p (.slice ka0 p.kids.length kc0)]) (by as_aux_lemma => kernel_rfl) rfl (by rfl) (by first | rfl | (go_simp; done) | (simp only [nodeVal]; go_simp; done)) ?_
  refine (hparp ka0 kc0 v1 ((Hrow0.out.below (Hb.out.trans (hHeld.mono (by omega)))).mono (Nat.le_trans (by omega) hHeld.size))).mono ?_
  rintro e' v2 ⟨rfl, hq⟩
  rw [← Hyp.out]
  refine ⟨_, rfl, (below_step hHeld hq), fun hHeld => ?_⟩
  (try simp only [Act.put, List.setIfInBounds_toArray, List.set_cons_zero, List.set_cons_succ])
  clear hq
  refine take_in (i := 14) (v := .string ((⟨#[97, 108, 108, 32]⟩ : ByteArray) ++ ⟨t.name.toArray⟩ ++ ⟨#[32, 60, 32]⟩ ++ ⟨d.toArray⟩ ++ ⟨#[32, 58, 32]⟩ ++ ⟨y.toArray⟩)) rfl (by as_aux_lemma => kernel_rfl) (by as_aux_lemma => kernel_rfl) (by as_aux_lemma => kernel_rfl) (fun _ _ _ h => h) (by rfl) (fun _ _ => by first | rfl | (go_simp; done) | (go_simp; rfl)) hHeld ?_
  (try simp only [Act.put, List.setIfInBounds_toArray, List.set_cons_zero, List.set_cons_succ])
  refine take_in (i := 15) (v := .string ((⟨#[97, 108, 108, 32]⟩ : ByteArray) ++ ⟨t.name.toArray⟩ ++ ⟨#[32, 60, 32]⟩ ++ ⟨d.toArray⟩ ++ ⟨#[32, 58, 32]⟩ ++ ⟨y.toArray⟩)) rfl (by as_aux_lemma => kernel_rfl) (by as_aux_lemma => kernel_rfl) (by as_aux_lemma => kernel_rfl) (fun _ _ _ h => h) (by rfl) (fun _ _ => by first | rfl | (go_simp; done) | (go_simp; rfl)) hHeld ?_
  (try simp only [Act.put, List.setIfInBounds_toArray, List.set_cons_zero, List.set_cons_succ])
  refine wpAnyH_done (by as_aux_lemma => kernel_rfl) ?_ _
  go_wp2_with fail
  go_ret
  refine ⟨ret_strX ?_, Hb.out.trans (hHeld.mono (by omega))⟩
  apply ByteArray.ext
  simp
  
set_option maxRecDepth 100000 in
set_option maxHeartbeats 2000000 in
theorem rtx_some (x : Px.Str) (n : Int) (p : T) (o : Int) (hx : NameOk x) (hn : NumOk n) (hp : TxSaid p) (hlp : (tx p).length ≤ 900000) : TxSaid (.mk 8 x [] n 0 0 false [p] o) := by
  intro a cap w hk
  rw [tx_some]
  obtain ⟨t, ht⟩ : ∃ t, t = (.mk 8 x [] n 0 0 false [p] o : T) := ⟨_, rfl⟩
  have htk : t.kids = [p] := by rw [ht]; rfl
  have h3 : t.kind = 8 := by rw [ht]; rfl
  rw [← ht] at hk ⊢
  have hx9 := hx.len.2
  have hd9 := dig_len hn
  have hnm : t.name = x := by rw [ht]; rfl
  have hnn : t.n = n := by rw [ht]; rfl
  rw [← hnm] at hx9 ⊢
  rw [← hnn] at hn hd9 ⊢
  have hdig := digits_any t.n hn
  obtain ⟨d, hd⟩ : ∃ d, d = dig t.n.toNat := ⟨_, rfl⟩
  rw [← hd] at hd9 hdig ⊢
  clear hnm hnn hx hn hd
  have hplp : (ptx p).length ≤ 900002 := by simp only [ptx, List.length_append, List.length_cons, List.length_nil]; omega
  have hparp := paren_any p hp hlp
  obtain ⟨y, hyp⟩ : ∃ y, y = ptx p := ⟨_, rfl⟩
  rw [← hyp] at hplp ⊢
  have Hyp := Lib.hid hyp
  clear hyp hlp
  clear hp
  obtain ⟨b0, o0, ka0, kc0, ha0, hbl0, hrow0, hn0⟩ := hk.get (k := 0) (t := p) (by rw [htk]; rfl)
  have hlen : t.kids.length = 1 := by rw [htk]; rfl
  subst ha0
  have c1 : (t.kind == 1) = false := by rw [h3]; rfl
  have c2 : (t.kind == 2) = false := by rw [h3]; rfl
  have c3 : (t.kind == 3) = false := by rw [h3]; rfl
  have c4 : (t.kind == 4) = false := by rw [h3]; rfl
  have c5 : (t.kind == 5) = false := by rw [h3]; rfl
  have c6 : (t.kind == 6) = false := by rw [h3]; rfl
  have c7 : (t.kind == 7) = false := by rw [h3]; rfl
  have Hlen := Lib.hid hlen
  have Hrow0 := Lib.hid hrow0
  have Hn0 := Lib.hid hn0
  clear hrow0 hn0
  have hk0 : (0 : Int) < (t.kids.length : Int) := by rw [hlen]; exact (by decide : (0 : Int) < ((1 : Nat) : Int))
  have hne : ¬ t.kids = [] := by intro h; rw [h] at hlen; cases hlen
  clear hk htk h3 ht hlen
  unfold nodeVal
  go_enter Tryz.func44, Tryz.ntmps44
  go_upto_region 18 with (fail)
  obtain ⟨W, hW⟩ : ∃ W, W = w.alloc (.cells #[.int .i64 t.kind, .string ⟨t.name.toArray⟩, .string ⟨t.other.toArray⟩, .int .i64 t.n, .int .i64 t.len, .int .i64 t.init, .bool t.ghost, .slice (some ⟨b0, o0, none⟩) t.kids.length cap, .int .i64 t.off] 25) := ⟨_, rfl⟩
  have hWs : w.heap.size < W.heap.size := by rw [hW]; simp
  have Hb := Lib.hid (show Below w.heap.size w W by rw [hW]; exact (Below.refl _ _).alloc (Nat.le_refl _) _)
  have HWn := Lib.hid (show NineAt W w.heap.size 0 t (.slice (some ⟨b0, o0, none⟩) t.kids.length cap) by rw [hW]; exact NineAt.var w t _)
  have z0 : Var 25 W w.heap.size #[.int .i64 t.kind, .string ⟨t.name.toArray⟩, .string ⟨t.other.toArray⟩, .int .i64 t.n, .int .i64 t.len, .int .i64 t.init, .bool t.ghost, .slice (some ⟨b0, o0, none⟩) t.kids.length cap, .int .i64 t.off] := by rw [hW]; exact Var.new _ _ _
  have Hz := Lib.hid z0
  clear z0
  rw [← hW]
  clear hW
  obtain ⟨e0, e1, e2, e3, e4, e5, e6, e7, e8⟩ := HWn.out
  simp only [Nat.zero_add] at e0 e1 e2 e3 e4 e5 e6 e7 e8
  have hn0 := Hn0.out.below Hb.out (by assumption)
  have hw0 : b0 < W.heap.size := by omega
  simp only [Nat.zero_mul, Nat.one_mul, Nat.add_zero] at hn0
  refine wp_region_held_drew (S := (fun w' => Below W.heap.size W w')) (by as_aux_lemma => kernel_rfl) ((Below.refl _ _).drew) (fun hHeld => ?_)
  obtain ⟨v0, hv0⟩ : ∃ V, V = W.drew := ⟨_, rfl⟩
  rw [← hv0] at hHeld ⊢
  clear hv0
  have q1 : ¬ (9223372036854775807 < 5 + t.name.length) := by omega
  have q2 : ¬ (9223372036854775807 < 5 + t.name.length + 3) := by omega
  have q3 : ¬ (9223372036854775807 < 5 + t.name.length + 3 + d.length) := by omega
  have q4 : ¬ (9223372036854775807 < 5 + t.name.length + 3 + d.length + 3) := by omega
  have q5 : ¬ (9223372036854775807 < 5 + t.name.length + 3 + d.length + 3 + y.length) := by omega
  refine take_in (i := 0) (v := .pointer (some ⟨w.heap.size, 1, none⟩)) rfl (by as_aux_lemma => kernel_rfl) (by as_aux_lemma => kernel_rfl) (by as_aux_lemma => kernel_rfl) (fun _ _ _ h => h) (by rfl) (fun _ _ => by first | rfl | (go_simp; done) | (go_simp; rfl)) hHeld ?_
  (try simp only [Act.put, List.setIfInBounds_toArray, List.set_cons_zero, List.set_cons_succ])
  refine take_in (i := 1) (v := .string ⟨t.name.toArray⟩) rfl (by as_aux_lemma => kernel_rfl) (by as_aux_lemma => kernel_rfl) (by as_aux_lemma => kernel_rfl) (fun _ _ _ h => h) (by rfl) (fun w' hb => by have hc := (hb.cell (p := ⟨w.heap.size, 1, none⟩) hWs).trans e1; go_simp) hHeld ?_
  (try simp only [Act.put, List.setIfInBounds_toArray, List.set_cons_zero, List.set_cons_succ])
  refine take_in (i := 2) (v := .string ((⟨#[115, 111, 109, 101, 32]⟩ : ByteArray) ++ ⟨t.name.toArray⟩)) rfl (by as_aux_lemma => kernel_rfl) (by as_aux_lemma => kernel_rfl) (by as_aux_lemma => kernel_rfl) (fun _ _ _ h => h) (by rfl) (fun _ _ => by first | rfl | (go_simp; done) | (go_simp; rfl)) hHeld ?_
  (try simp only [Act.put, List.setIfInBounds_toArray, List.set_cons_zero, List.set_cons_succ])
  refine take_in (i := 3) (v := .string ((⟨#[115, 111, 109, 101, 32]⟩ : ByteArray) ++ ⟨t.name.toArray⟩ ++ ⟨#[32, 60, 32]⟩)) rfl (by as_aux_lemma => kernel_rfl) (by as_aux_lemma => kernel_rfl) (by as_aux_lemma => kernel_rfl) (fun _ _ _ h => h) (by rfl) (fun _ _ => by first | rfl | (go_simp; done) | (go_simp; rfl)) hHeld ?_
  (try simp only [Act.put, List.setIfInBounds_toArray, List.set_cons_zero, List.set_cons_succ])
  refine take_in (i := 4) (v := .pointer (some ⟨w.heap.size, 3, none⟩)) rfl (by as_aux_lemma => kernel_rfl) (by as_aux_lemma => kernel_rfl) (by as_aux_lemma => kernel_rfl) (fun _ _ _ h => h) (by rfl) (fun _ _ => by first | rfl | (go_simp; done) | (go_simp; rfl)) hHeld ?_
  (try simp only [Act.put, List.setIfInBounds_toArray, List.set_cons_zero, List.set_cons_succ])
  refine take_in (i := 5) (v := .int .i64 t.n) rfl (by as_aux_lemma => kernel_rfl) (by as_aux_lemma => kernel_rfl) (by as_aux_lemma => kernel_rfl) (fun _ _ _ h => h) (by rfl) (fun w' hb => by have hc := (hb.cell (p := ⟨w.heap.size, 3, none⟩) hWs).trans e3; go_simp) hHeld ?_
  (try simp only [Act.put, List.setIfInBounds_toArray, List.set_cons_zero, List.set_cons_succ])
  refine take_in (i := 9) (v := .pointer (some ⟨w.heap.size, 7, none⟩)) rfl (by as_aux_lemma => kernel_rfl) (by as_aux_lemma => kernel_rfl) (by as_aux_lemma => kernel_rfl) (fun _ _ _ h => h) (by rfl) (fun _ _ => by first | rfl | (go_simp; done) | (go_simp; rfl)) hHeld ?_
  (try simp only [Act.put, List.setIfInBounds_toArray, List.set_cons_zero, List.set_cons_succ])
  refine take_in (i := 10) (v := .slice (some ⟨b0, o0, none⟩) t.kids.length cap) rfl (by as_aux_lemma => kernel_rfl) (by as_aux_lemma => kernel_rfl) (by as_aux_lemma => kernel_rfl) (fun _ _ _ h => h) (by rfl) (fun w' hb => by have hc := (hb.cell (p := ⟨w.heap.size, 7, none⟩) hWs).trans e7; go_simp) hHeld ?_
  (try simp only [Act.put, List.setIfInBounds_toArray, List.set_cons_zero, List.set_cons_succ])
  refine take_in (i := 11) (v := .pointer (some ⟨b0, o0, none⟩)) rfl (by as_aux_lemma => kernel_rfl) (by as_aux_lemma => kernel_rfl) (by as_aux_lemma => kernel_rfl) (fun _ _ _ h => h) (by rfl) (fun _ _ => by first | rfl | (go_simp; done) | (go_simp; rfl)) hHeld ?_
  (try simp only [Act.put, List.setIfInBounds_toArray, List.set_cons_zero, List.set_cons_succ])
  refine take_in (i := 12) (v := .agg #[.int .i64 p.kind, .string ⟨p.name.toArray⟩, .string ⟨p.other.toArray⟩, .int .i64 p.n, .int .i64 p.len, .int .i64 p.init, .bool p.ghost, .slice ka0 p.kids.length kc0, .int .i64 p.off]) rfl (by as_aux_lemma => kernel_rfl) (by as_aux_lemma => kernel_rfl) (by as_aux_lemma => kernel_rfl) (fun _ _ _ h => h) (by rfl) (fun w' hb => by obtain ⟨d0, d1, d2, d3, d4, d5, d6, d7, d8⟩ := (hn0).below hb hw0; go_simp) hHeld ?_
  (try simp only [Act.put, List.setIfInBounds_toArray, List.set_cons_zero, List.set_cons_succ])
  refine call_in (i := 6) (f := 66) (args := #[.int .i64 t.n]) (by as_aux_lemma => kernel_rfl) rfl (by rfl) (by first | rfl | (go_simp; done) | (simp only [nodeVal]; go_simp; done)) ?_
  refine (hdig v0).mono ?_
  rintro e' v1 ⟨rfl, hq⟩
  refine ⟨_, rfl, (below_step hHeld hq), fun hHeld => ?_⟩
  (try simp only [Act.put, List.setIfInBounds_toArray, List.set_cons_zero, List.set_cons_succ])
  clear hq
  refine take_in (i := 7) (v := .string ((⟨#[115, 111, 109, 101, 32]⟩ : ByteArray) ++ ⟨t.name.toArray⟩ ++ ⟨#[32, 60, 32]⟩ ++ ⟨d.toArray⟩)) rfl (by as_aux_lemma => kernel_rfl) (by as_aux_lemma => kernel_rfl) (by as_aux_lemma => kernel_rfl) (fun _ _ _ h => h) (by rfl) (fun _ _ => by first | rfl | (go_simp; done) | (go_simp; rfl)) hHeld ?_
  (try simp only [Act.put, List.setIfInBounds_toArray, List.set_cons_zero, List.set_cons_succ])
  refine take_in (i := 8) (v := .string ((⟨#[115, 111, 109, 101, 32]⟩ : ByteArray) ++ ⟨t.name.toArray⟩ ++ ⟨#[32, 60, 32]⟩ ++ ⟨d.toArray⟩ ++ ⟨#[32, 58, 32]⟩)) rfl (by as_aux_lemma => kernel_rfl) (by as_aux_lemma => kernel_rfl) (by as_aux_lemma => kernel_rfl) (fun _ _ _ h => h) (by rfl) (fun _ _ => by first | rfl | (go_simp; done) | (go_simp; rfl)) hHeld ?_
  (try simp only [Act.put, List.setIfInBounds_toArray, List.set_cons_zero, List.set_cons_succ])
  refine call_in (i := 13) (f := 67) (args := #[nodeVal p (.slice ka0 p.kids.length kc0)]) (by as_aux_lemma => kernel_rfl) rfl (by rfl) (by first | rfl | (go_simp; done) | (simp only [nodeVal]; go_simp; done)) ?_
  refine (hparp ka0 kc0 v1 ((Hrow0.out.below (Hb.out.trans (hHeld.mono (by omega)))).mono (Nat.le_trans (by omega) hHeld.size))).mono ?_
  rintro e' v2 ⟨rfl, hq⟩
  rw [← Hyp.out]
  refine ⟨_, rfl, (below_step hHeld hq), fun hHeld => ?_⟩
  (try simp only [Act.put, List.setIfInBounds_toArray, List.set_cons_zero, List.set_cons_succ])
  clear hq
  refine take_in (i := 14) (v := .string ((⟨#[115, 111, 109, 101, 32]⟩ : ByteArray) ++ ⟨t.name.toArray⟩ ++ ⟨#[32, 60, 32]⟩ ++ ⟨d.toArray⟩ ++ ⟨#[32, 58, 32]⟩ ++ ⟨y.toArray⟩)) rfl (by as_aux_lemma => kernel_rfl) (by as_aux_lemma => kernel_rfl) (by as_aux_lemma => kernel_rfl) (fun _ _ _ h => h) (by rfl) (fun _ _ => by first | rfl | (go_simp; done) | (go_simp; rfl)) hHeld ?_
  (try simp only [Act.put, List.setIfInBounds_toArray, List.set_cons_zero, List.set_cons_succ])
  refine take_in (i := 15) (v := .string ((⟨#[115, 111, 109, 101, 32]⟩ : ByteArray) ++ ⟨t.name.toArray⟩ ++ ⟨#[32, 60, 32]⟩ ++ ⟨d.toArray⟩ ++ ⟨#[32, 58, 32]⟩ ++ ⟨y.toArray⟩)) rfl (by as_aux_lemma => kernel_rfl) (by as_aux_lemma => kernel_rfl) (by as_aux_lemma => kernel_rfl) (fun _ _ _ h => h) (by rfl) (fun _ _ => by first | rfl | (go_simp; done) | (go_simp; rfl)) hHeld ?_
  (try simp only [Act.put, List.setIfInBounds_toArray, List.set_cons_zero, List.set_cons_succ])
  refine wpAnyH_done (by as_aux_lemma => kernel_rfl) ?_ _
  go_wp2_with fail
  go_ret
  refine ⟨ret_strX ?_, Hb.out.trans (hHeld.mono (by omega))⟩
  apply ByteArray.ext
  simp
  
end Go.Proofs.YtbgpboiblggmiaaGreatDoor

