/-
  The walk over ParserParens.
-/
import Derived.Test.YtbgpboiblggmiaaGreatDoorQVrk
import Derived.Test.YtbgpboiblggmiaaGreatDoorQPec
set_option linter.unusedVariables false
set_option linter.unusedSimpArgs false
namespace Go.Proofs.YtbgpboiblggmiaaGreatDoor
open Go.RowKit
open Px (St T D Res)

mutual
/-- a count that stays within its limit is the size -/
theorem cntT_exact : ∀ (t : T) (m : Int), cntT t m ≤ m → (Px.size t : Int) ≤ cntT t m
  | .mk _ _ _ _ _ _ _ kids _, m, h => by
    rw [cntT] at h ⊢
    rw [Px.size]
    have := cntL_exact kids m 1 h
    omega
theorem cntL_exact : ∀ (l : List T) (m c : Int), cntL l m c ≤ m → c + (Px.sizes l : Int) ≤ cntL l m c
  | [], m, c, h => by rw [cntL, Px.sizes]; omega
  | t :: r, m, c, h => by
    rw [cntL] at h ⊢
    rw [Px.sizes]
    split at h
    · rename_i hc
      rw [if_pos hc]
      have h1 := cntL_exact r m (c + cntT t (m - c)) h
      have h2 := cntT_exact t (m - c) (by omega)
      omega
    · omega
end
theorem ev_valid {t : T} (hv : EV t) (hf : Px.fits t = true) : ValidOk t ∧ 1 ≤ t.kind ∧ t.kind ≤ 8 := by
  obtain ⟨h1, h2⟩ := (ev_ok (Px.size t)).1 t (Nat.le_refl _) hv
  unfold Pr.isExpr at h2
  simp only [Bool.and_eq_true, decide_eq_true_eq] at h2
  have hs : Px.size t ≤ 1500 := by
    unfold Px.fits at hf
    simp only [Bool.and_eq_true, decide_eq_true_eq] at hf
    omega
  exact ⟨⟨.inr h2, hf, wf_of (Px.size t) t (Nat.le_refl _) (by omega) h1⟩, h2⟩

set_option maxRecDepth 100000 in
set_option maxHeartbeats 8000000 in
theorem parensp_walk (t : T) (hB : TBt t) (a : Option Addr) (cap : Nat) (w : World) (hS : SymsAt w) (hM : MaxAt w) (hk : RRow w.heap.size w t.kids (.slice a t.kids.length cap)) :
    Calls Tryz.prog 4 #[nodeVal t (.slice a t.kids.length cap)] w fun e w' => e = .returned (.bool true) ∧ Below w.heap.size w w' := by
  have HS0 := Lib.hid hS
  have HM0 := Lib.hid hM
  have HTB := Lib.hid hB
  have Hk := Lib.hid hk
  clear hS hM hB hk
  unfold nodeVal
  go_enter Tryz.func4, Tryz.ntmps4
  go_wp2_with fail
  obtain ⟨W, hW⟩ : ∃ W, W = w.alloc (.cells #[.int .i64 t.kind, .string ⟨t.name.toArray⟩, .string ⟨t.other.toArray⟩, .int .i64 t.n, .int .i64 t.len, .int .i64 t.init, .bool t.ghost, .slice a t.kids.length cap, .int .i64 t.off] 25) := ⟨_, rfl⟩
  have hWs : w.heap.size < W.heap.size := by rw [hW]; simp
  have Hb := Lib.hid (show Below w.heap.size w W by rw [hW]; exact (Below.refl _ _).alloc (Nat.le_refl _) _)
  have HWn := Lib.hid (show NineAt W w.heap.size 0 t (.slice a t.kids.length cap) by rw [hW]; exact NineAt.var w t _)
  have z0 : Var 25 W w.heap.size #[.int .i64 t.kind, .string ⟨t.name.toArray⟩, .string ⟨t.other.toArray⟩, .int .i64 t.n, .int .i64 t.len, .int .i64 t.init, .bool t.ghost, .slice a t.kids.length cap, .int .i64 t.off] := by rw [hW]; exact Var.new _ _ _
  have Hz := Lib.hid z0
  clear z0
  rw [← hW]
  clear hW
  obtain ⟨e0, e1, e2, e3, e4, e5, e6, e7, e8⟩ := HWn.out
  simp only [Nat.zero_add] at e0 e1 e2 e3 e4 e5 e6 e7 e8
  clear e0 e1 e2 e3 e4 e5 e6 e7 e8
  have HB := Hb
  have HS := Lib.hid (symsAt_below HS0.out Hb.out (symsAt_lt HS0.out))
  have HM := Lib.hid (HM0.out.below Hb.out HM0.out.lt)
  have T6 := Lib.hid (show Tr W w.heap.size t from ⟨a, cap, Hz.out, (Hk.out.below Hb.out).mono (by omega)⟩)
  clear Hb Hz Hk HWn HS0 HM0
  refine (head_any W HS.out HM.out).mono ?_
  rintro e w1 ⟨rfl, hb1⟩
  have HS' := Lib.hid (symsAt_below HS.out hb1 (symsAt_lt HS.out))
  clear HS
  have HS := HS'
  clear HS'
  have HM' := Lib.hid (HM.out.below hb1 HM.out.lt)
  clear HM
  have HM := HM'
  clear HM'
  have HB' := Lib.hid (HB.out.trans (hb1.mono HB.out.size))
  clear HB
  have HB := HB'
  clear HB'
  have T6' := Lib.hid (T6.out.below hb1)
  clear T6
  have T6 := T6'
  clear T6'
  clear hb1
  obtain ⟨a6, c6, z6, r6⟩ := T6.out
  have z6l := z6.lt
  obtain ⟨z6c, z6f⟩ := obj_facts z6
  have R6 := Lib.hid r6
  clear r6
  go_wp2_with fail
  refine (few_any t 400 a6 c6 w1 (by decide) (by decide) R6.out).mono ?_
  rintro e w2 ⟨rfl, hb2⟩
  clear z6 z6l z6c z6f R6
  have HS' := Lib.hid (symsAt_below HS.out hb2 (symsAt_lt HS.out))
  clear HS
  have HS := HS'
  clear HS'
  have HM' := Lib.hid (HM.out.below hb2 HM.out.lt)
  clear HM
  have HM := HM'
  clear HM'
  have HB' := Lib.hid (HB.out.trans (hb2.mono HB.out.size))
  clear HB
  have HB := HB'
  clear HB'
  have T6' := Lib.hid (T6.out.below hb2)
  clear T6
  have T6 := T6'
  clear T6'
  clear hb2
  by_cases hfew : cntT t 400 ≤ 400
  rotate_left
  · rw [decide_eq_false hfew]
    go_wp2_with fail
    go_ret
    exact ⟨ret_bool (by simp), HB.out⟩
  rw [decide_eq_true hfew]
  have hsz : Px.size t ≤ 400 := by have := cntT_exact t 400 hfew; omega
  have Hsz := Lib.hid hsz
  clear hfew hsz
  by_cases h62 : t.kind = 62
  · have c62 : (t.kind == 62) = true := by rw [h62]; rfl
    clear h62
    obtain ⟨a6, c6, z6, r6⟩ := T6.out
    have z6l := z6.lt
    obtain ⟨z6c, z6f⟩ := obj_facts z6
    have R6 := Lib.hid r6
    clear r6
    go_wp2_with fail
    go_ret
    exact ⟨ret_bool (by simp), HB.out⟩
  have c62 : (t.kind == 62) = false := beq_eq_false_iff_ne.2 h62
  have H62 := Lib.hid h62
  clear h62
  obtain ⟨a6, c6, z6, r6⟩ := T6.out
  have z6l := z6.lt
  obtain ⟨z6c, z6f⟩ := obj_facts z6
  have R6 := Lib.hid r6
  clear r6
  go_wp2_with fail
  refine (rvalid_any t (by have := Hsz.out; omega) HTB.out H62.out a6 c6 w2 R6.out).mono ?_
  rintro e w3 ⟨b, rfl, hb, hb3⟩
  clear z6 z6l z6c z6f R6
  have HS' := Lib.hid (symsAt_below HS.out hb3 (symsAt_lt HS.out))
  clear HS
  have HS := HS'
  clear HS'
  have HM' := Lib.hid (HM.out.below hb3 HM.out.lt)
  clear HM
  have HM := HM'
  clear HM'
  have HB' := Lib.hid (HB.out.trans (hb3.mono HB.out.size))
  clear HB
  have HB := HB'
  clear HB'
  have T6' := Lib.hid (T6.out.below hb3)
  clear T6
  have T6 := T6'
  clear T6'
  have Hbb := Lib.hid hb
  clear hb hb3
  cases b with
  | false =>
    go_wp2_with fail
    go_ret
    exact ⟨ret_bool (by simp), HB.out⟩
  | true =>
  have HV := Lib.hid (Hbb.out (by first | rfl | trivial))
  clear Hbb
  have HVK := Lib.hid (ev_valid HV.out.2 HV.out.1)
  obtain ⟨a6, c6, z6, r6⟩ := T6.out
  have z6l := z6.lt
  obtain ⟨z6c, z6f⟩ := obj_facts z6
  have R6 := Lib.hid r6
  clear r6
  go_wp2_with fail
  refine (rtext_any t HV.out.2 (by have := Hsz.out; omega) HVK.out.2 a6 c6 w3 R6.out).mono ?_
  rintro e w4 ⟨rfl, hb4⟩
  clear z6 z6l z6c z6f R6
  have HS' := Lib.hid (symsAt_below HS.out hb4 (symsAt_lt HS.out))
  clear HS
  have HS := HS'
  clear HS'
  have HM' := Lib.hid (HM.out.below hb4 HM.out.lt)
  clear HM
  have HM := HM'
  clear HM'
  have HB' := Lib.hid (HB.out.trans (hb4.mono HB.out.size))
  clear HB
  have HB := HB'
  clear HB'
  have T6' := Lib.hid (T6.out.below hb4)
  clear T6
  have T6 := T6'
  clear T6'
  clear hb4
  obtain ⟨s, hs⟩ : ∃ s : ByteArray, s = ⟨(tx t).toArray⟩ := ⟨_, rfl⟩
  rw [← hs]
  have Hs := Lib.hid (show s.data.toList = tx t by rw [hs])
  have hsl : s.size ≤ maxLen := by
    have h1 := (tx_len (Px.size t)).1 t (Nat.le_refl _) HV.out.2
    have h2 := Hsz.out
    have : s.size = (tx t).length := by rw [hs]; show (tx t).toArray.size = _; simp
    unfold maxLen
    omega
  have Hsl := Lib.hid hsl
  clear hs hsl
  rcases short_cases s with ⟨ts, hsh⟩ | hno
  rotate_left
  · go_wp2_with fail
    refine (short_no s w4 Hsl.out hno).mono ?_
    rintro e w5 ⟨rfl, hb5⟩
    have HB := Lib.hid (HB.out.trans (hb5.mono HB.out.size))
    go_wp2_with fail
    go_ret
    exact ⟨ret_bool (by simp), HB.out⟩
  have Hsh := Lib.hid hsh
  clear hsh
  go_wp2_with fail
  refine (short_yes s w4 Hsh.out).mono ?_
  rintro e w5 ⟨rfl, hb5⟩
  have HS' := Lib.hid (symsAt_below HS.out hb5 (symsAt_lt HS.out))
  clear HS
  have HS := HS'
  clear HS'
  have HM' := Lib.hid (HM.out.below hb5 HM.out.lt)
  clear HM
  have HM := HM'
  clear HM'
  have HB' := Lib.hid (HB.out.trans (hb5.mono HB.out.size))
  clear HB
  have HB := HB'
  clear HB'
  have T6' := Lib.hid (T6.out.below hb5)
  clear T6
  have T6 := T6'
  clear T6'
  clear hb5
  obtain ⟨X, hX1, hX2⟩ := parse_tx HV.out.2 HV.out.1 (by rw [← Hs.out]; exact Hsh.out.2)
  have HX1 := Lib.hid hX1
  have HX2 := Lib.hid hX2
  clear hX1 hX2
  go_wp2_with fail
  refine (parseExpr_any s w5 HS.out Hsl.out).mono ?_
  intro e' w6 hp
  rw [Hs.out, HX1.out] at hp
  obtain ⟨hb6, a6', c6', dp, dq, rfl, hr6, hd6⟩ := hp
  have HS' := Lib.hid (symsAt_below HS.out hb6 (symsAt_lt HS.out))
  clear HS
  have HS := HS'
  clear HS'
  have HM' := Lib.hid (HM.out.below hb6 HM.out.lt)
  clear HM
  have HM := HM'
  clear HM'
  have HB' := Lib.hid (HB.out.trans (hb6.mono HB.out.size))
  clear HB
  have HB := HB'
  clear HB'
  have T6' := Lib.hid (T6.out.below hb6)
  clear T6
  have T6 := T6'
  clear T6'
  obtain ⟨w7, hw7⟩ : ∃ W, W = w6.alloc (.cells #[.int .i64 X.kind, .string ⟨X.name.toArray⟩, .string ⟨X.other.toArray⟩, .int .i64 X.n, .int .i64 X.len, .int .i64 X.init, .bool X.ghost, .slice a6' X.kids.length c6', .int .i64 X.off] 25) := ⟨_, rfl⟩
  have hb7 : Below w6.heap.size w6 w7 := by rw [hw7]; exact (Below.refl _ _).alloc (Nat.le_refl _) _
  have T8 := Lib.hid (show Tr w7 w6.heap.size X by rw [hw7]; exact Tr.new hr6 rfl)
  have HS' := Lib.hid (symsAt_below HS.out hb7 (symsAt_lt HS.out))
  clear HS
  have HS := HS'
  clear HS'
  have HM' := Lib.hid (HM.out.below hb7 HM.out.lt)
  clear HM
  have HM := HM'
  clear HM'
  have HB' := Lib.hid (HB.out.trans (hb7.mono HB.out.size))
  clear HB
  have HB := HB'
  clear HB'
  have T6' := Lib.hid (T6.out.below hb7)
  clear T6
  have T6 := T6'
  clear T6'
  clear hb6 hr6 hd6 hb7
  unfold nodeVal
  go_upto_region 8 with (fail)
  rw [← hw7]
  clear hw7
  obtain ⟨a6, c6, z6, r6⟩ := T6.out
  have z6l := z6.lt
  have R6 := Lib.hid r6
  clear r6
  obtain ⟨a8, c8, z8, r8⟩ := T8.out
  have z8l := z8.lt
  have R8 := Lib.hid r8
  clear r8
  have hXs : Px.size X = Px.size t := by rw [← stripT_size X, ← stripT_size t, HX2.out]
  have hfx : decide (cntT X 4000 ≤ 4000) = true := decide_eq_true (by have h2 := cntT_size _ X 4000 (Nat.le_refl _); have := Hsz.out; omega)
  have Hfx := Lib.hid hfx
  have Hzx := Lib.hid (show Px.size X ≤ 900000 by have := Hsz.out; omega)
  have Hzt := Lib.hid (show Px.size t ≤ 900000 by have := Hsz.out; omega)
  clear hXs hfx
  go_cut [2] (fun v wx => v = .bool true ∧ Hid (Below w7.heap.size w7 wx))
  case first => as_aux_lemma =>
    refine wp_region_held_drew (S := (fun w' => Below w7.heap.size w7 w')) (by as_aux_lemma => kernel_rfl) ((Below.refl _ _).drew) (fun hHeld => ?_)
    obtain ⟨v0, hv0⟩ : ∃ V, V = w7.drew := ⟨_, rfl⟩
    rw [← hv0] at hHeld ⊢
    clear hv0
    refine take_in (i := 0) (v := .bool true) rfl (by as_aux_lemma => kernel_rfl) (by as_aux_lemma => kernel_rfl) (by as_aux_lemma => kernel_rfl) (fun _ _ _ h => h) (by rfl) (fun _ _ => by first | rfl | (go_simp; done) | (go_simp; rfl)) hHeld ?_
    (try simp only [Act.put, List.setIfInBounds_toArray, List.set_cons_zero, List.set_cons_succ])
    refine take_in (i := 1) (v := .bool true) rfl (by as_aux_lemma => kernel_rfl) (by as_aux_lemma => kernel_rfl) (by as_aux_lemma => kernel_rfl) (fun _ _ _ h => h) (by rfl) (fun _ _ => by first | rfl | (go_simp; done) | (go_simp; rfl)) hHeld ?_
    (try simp only [Act.put, List.setIfInBounds_toArray, List.set_cons_zero, List.set_cons_succ])
    refine take_in (i := 2) (v := .slice dp 0 dq) rfl (by as_aux_lemma => kernel_rfl) (by as_aux_lemma => kernel_rfl) (by as_aux_lemma => kernel_rfl) (fun _ _ _ h => h) (by rfl) (fun _ _ => by first | rfl | (go_simp; done) | (go_simp; rfl)) hHeld ?_
    (try simp only [Act.put, List.setIfInBounds_toArray, List.set_cons_zero, List.set_cons_succ])
    refine take_in (i := 3) (v := .int .i64 0) rfl (by as_aux_lemma => kernel_rfl) (by as_aux_lemma => kernel_rfl) (by as_aux_lemma => kernel_rfl) (fun _ _ _ h => h) (by rfl) (fun _ _ => by first | rfl | (go_simp; done) | (go_simp; rfl)) hHeld ?_
    (try simp only [Act.put, List.setIfInBounds_toArray, List.set_cons_zero, List.set_cons_succ])
    refine take_in (i := 4) (v := .bool true) rfl (by as_aux_lemma => kernel_rfl) (by as_aux_lemma => kernel_rfl) (by as_aux_lemma => kernel_rfl) (fun _ _ _ h => h) (by rfl) (fun _ _ => by first | rfl | (go_simp; done) | (go_simp; rfl)) hHeld ?_
    (try simp only [Act.put, List.setIfInBounds_toArray, List.set_cons_zero, List.set_cons_succ])
    refine take_in (i := 5) (v := .bool true) rfl (by as_aux_lemma => kernel_rfl) (by as_aux_lemma => kernel_rfl) (by as_aux_lemma => kernel_rfl) (fun _ _ _ h => h) (by rfl) (fun _ _ => by first | rfl | (go_simp; done) | (go_simp; rfl)) hHeld ?_
    (try simp only [Act.put, List.setIfInBounds_toArray, List.set_cons_zero, List.set_cons_succ])
    refine take_in (i := 6) (v := .bool true) rfl (by as_aux_lemma => kernel_rfl) (by as_aux_lemma => kernel_rfl) (by as_aux_lemma => kernel_rfl) (fun _ _ _ h => h) (by rfl) (fun _ _ => by first | rfl | (go_simp; done) | (go_simp; rfl)) hHeld ?_
    (try simp only [Act.put, List.setIfInBounds_toArray, List.set_cons_zero, List.set_cons_succ])
    refine take_in (i := 7) rfl (by as_aux_lemma => kernel_rfl) (by as_aux_lemma => kernel_rfl) (by as_aux_lemma => kernel_rfl) (fun _ _ _ h => h) (by rfl) (fun w' hb => run_loadN (b := w6.heap.size) (by rfl) (by rfl) ((hb.block _ z8l).trans z8)) hHeld ?_
    (try simp only [Act.put, List.setIfInBounds_toArray, List.set_cons_zero, List.set_cons_succ])
    refine call_in (i := 8) (f := 13) (args := #[nodeVal X (.slice a8 X.kids.length c8), .int .i64 4000]) (by as_aux_lemma => kernel_rfl) rfl (by rfl) (by first | rfl | (go_simp; done) | (simp only [nodeVal]; go_simp; done)) ?_
    refine (few_any X 4000 a8 c8 _ (by decide) (by decide) (R8.out.next hHeld)).mono ?_
    rw [Hfx.out]
    rintro e' v1 ⟨rfl, hq⟩
    refine ⟨_, rfl, (below_step hHeld hq), fun hHeld => ?_⟩
    (try simp only [Act.put, List.setIfInBounds_toArray, List.set_cons_zero, List.set_cons_succ])
    clear hq
    refine take_in (i := 9) (v := .bool true) rfl (by as_aux_lemma => kernel_rfl) (by as_aux_lemma => kernel_rfl) (by as_aux_lemma => kernel_rfl) (fun _ _ _ h => h) (by rfl) (fun _ _ => by first | rfl | (go_simp; done) | (go_simp; rfl)) hHeld ?_
    (try simp only [Act.put, List.setIfInBounds_toArray, List.set_cons_zero, List.set_cons_succ])
    refine take_in (i := 10) (v := .bool true) rfl (by as_aux_lemma => kernel_rfl) (by as_aux_lemma => kernel_rfl) (by as_aux_lemma => kernel_rfl) (fun _ _ _ h => h) (by rfl) (fun _ _ => by first | rfl | (go_simp; done) | (go_simp; rfl)) hHeld ?_
    (try simp only [Act.put, List.setIfInBounds_toArray, List.set_cons_zero, List.set_cons_succ])
    refine take_in (i := 11) rfl (by as_aux_lemma => kernel_rfl) (by as_aux_lemma => kernel_rfl) (by as_aux_lemma => kernel_rfl) (fun _ _ _ h => h) (by rfl) (fun w' hb => run_loadN (b := w6.heap.size) (by rfl) (by rfl) ((hb.block _ z8l).trans z8)) hHeld ?_
    (try simp only [Act.put, List.setIfInBounds_toArray, List.set_cons_zero, List.set_cons_succ])
    refine take_in (i := 13) rfl (by as_aux_lemma => kernel_rfl) (by as_aux_lemma => kernel_rfl) (by as_aux_lemma => kernel_rfl) (fun _ _ _ h => h) (by rfl) (fun w' hb => run_loadN (b := w.heap.size) (by rfl) (by rfl) ((hb.block _ z6l).trans z6)) hHeld ?_
    (try simp only [Act.put, List.setIfInBounds_toArray, List.set_cons_zero, List.set_cons_succ])
    refine call_in (i := 12) (f := 21) (args := #[nodeVal X (.slice a8 X.kids.length c8)]) (by as_aux_lemma => kernel_rfl) rfl (by rfl) (by first | rfl | (go_simp; done) | (simp only [nodeVal]; go_simp; done)) ?_
    refine (rstrip_any (Px.size X) X a8 c8 _ (Nat.le_refl _) Hzx.out (R8.out.next hHeld)).mono ?_
    rw [HX2.out]
    rintro e' v2 ⟨hq, ax, cx, rfl, hrx⟩
    have HRx := Lib.hid hrx.read
    refine ⟨_, rfl, (below_step hHeld hq), fun hHeld => ?_⟩
    (try simp only [Act.put, List.setIfInBounds_toArray, List.set_cons_zero, List.set_cons_succ])
    clear hq hrx
    refine call_in (i := 14) (f := 21) (args := #[nodeVal t (.slice a6 t.kids.length c6)]) (by as_aux_lemma => kernel_rfl) rfl (by rfl) (by first | rfl | (go_simp; done) | (simp only [nodeVal]; go_simp; done)) ?_
    refine (rstrip_any (Px.size t) t a6 c6 _ (Nat.le_refl _) Hzt.out (R6.out.next hHeld)).mono ?_
    rintro e' v3 ⟨hq, ay, cy, rfl, hry⟩
    have HRy := Lib.hid hry.read
    have HRx2 := Lib.hid (HRx.out.next hq)
    refine ⟨_, rfl, (below_step hHeld hq), fun hHeld => ?_⟩
    (try simp only [Act.put, List.setIfInBounds_toArray, List.set_cons_zero, List.set_cons_succ])
    clear hq hry
    refine call_in (i := 15) (f := 17) (args := #[nodeVal (stripT t) (.slice ax (stripT t).kids.length cx), nodeVal (stripT t) (.slice ay (stripT t).kids.length cy)]) (by as_aux_lemma => kernel_rfl) rfl (by rfl) (by first | rfl | (go_simp; done) | (simp only [nodeVal]; go_simp; done)) ?_
    refine (same_any (Px.size (stripT t)) (stripT t) ax ay cx cy _ (Nat.le_refl _) HRx2.out HRy.out).mono ?_
    rintro e' v4 ⟨rfl, hq⟩
    refine ⟨_, rfl, (below_step hHeld hq), fun hHeld => ?_⟩
    (try simp only [Act.put, List.setIfInBounds_toArray, List.set_cons_zero, List.set_cons_succ])
    clear hq
    refine take_in (i := 16) (v := .bool true) rfl (by as_aux_lemma => kernel_rfl) (by as_aux_lemma => kernel_rfl) (by as_aux_lemma => kernel_rfl) (fun _ _ _ h => h) (by rfl) (fun _ _ => by first | rfl | (go_simp; done) | (go_simp; rfl)) hHeld ?_
    (try simp only [Act.put, List.setIfInBounds_toArray, List.set_cons_zero, List.set_cons_succ])
    refine take_in (i := 17) (v := .bool true) rfl (by as_aux_lemma => kernel_rfl) (by as_aux_lemma => kernel_rfl) (by as_aux_lemma => kernel_rfl) (fun _ _ _ h => h) (by rfl) (fun _ _ => by first | rfl | (go_simp; done) | (go_simp; rfl)) hHeld ?_
    (try simp only [Act.put, List.setIfInBounds_toArray, List.set_cons_zero, List.set_cons_succ])
    refine take_in (i := 18) rfl (by as_aux_lemma => kernel_rfl) (by as_aux_lemma => kernel_rfl) (by as_aux_lemma => kernel_rfl) (fun _ _ _ h => h) (by rfl) (fun w' hb => run_loadN (b := w.heap.size) (by rfl) (by rfl) ((hb.block _ z6l).trans z6)) hHeld ?_
    (try simp only [Act.put, List.setIfInBounds_toArray, List.set_cons_zero, List.set_cons_succ])
    refine call_in (i := 19) (f := 15) (args := #[nodeVal t (.slice a6 t.kids.length c6)]) (by as_aux_lemma => kernel_rfl) rfl (by rfl) (by first | rfl | (go_simp; done) | (simp only [nodeVal]; go_simp; done)) ?_
    refine (valid_expr t a6 c6 _ HVK.out.2 HVK.out.1 (R6.out.next hHeld) (HM.out.below hHeld HM.out.lt)).mono ?_
    rintro e' v5 ⟨rfl, hq⟩
    refine ⟨_, rfl, (below_step hHeld hq), fun hHeld => ?_⟩
    (try simp only [Act.put, List.setIfInBounds_toArray, List.set_cons_zero, List.set_cons_succ])
    clear hq
    refine take_in (i := 20) (v := .bool true) rfl (by as_aux_lemma => kernel_rfl) (by as_aux_lemma => kernel_rfl) (by as_aux_lemma => kernel_rfl) (fun _ _ _ h => h) (by rfl) (fun _ _ => by first | rfl | (go_simp; done) | (go_simp; rfl)) hHeld ?_
    (try simp only [Act.put, List.setIfInBounds_toArray, List.set_cons_zero, List.set_cons_succ])
    refine take_in (i := 21) (v := .bool true) rfl (by as_aux_lemma => kernel_rfl) (by as_aux_lemma => kernel_rfl) (by as_aux_lemma => kernel_rfl) (fun _ _ _ h => h) (by rfl) (fun _ _ => by first | rfl | (go_simp; done) | (go_simp; rfl)) hHeld ?_
    (try simp only [Act.put, List.setIfInBounds_toArray, List.set_cons_zero, List.set_cons_succ])
    refine wpAnyH_done (by as_aux_lemma => kernel_rfl) ?_ _
    go_wp2_with fail
    go_meet
    exact ⟨rfl, Lib.hid hHeld⟩
  obtain ⟨rfl, Hb8⟩ := hcut
  have HB := Lib.hid (HB.out.trans (Hb8.out.mono HB.out.size))
  clear T6 T8 z6 z6l R6 z8 z8l R8
  go_wp2_with fail
  go_ret
  exact ⟨ret_bool (by simp), HB.out⟩
end Go.Proofs.YtbgpboiblggmiaaGreatDoor

