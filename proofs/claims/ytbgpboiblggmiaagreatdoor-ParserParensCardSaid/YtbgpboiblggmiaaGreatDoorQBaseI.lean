/-
  Merged texts of the base: Pra Prb.
-/
import Derived.Test.YtbgpboiblggmiaaGreatDoorQBaseF
import Derived.Test.YtbgpboiblggmiaaGreatDoorQBaseE

set_option linter.unusedVariables false
set_option linter.unusedSimpArgs false
/-
  A walk over Parse.
-/
namespace Go.Proofs.YtbgpboiblggmiaaGreatDoor
open Go.RowKit
open Px (St T D Res left Takes)

set_option maxRecDepth 100000 in
set_option maxHeartbeats 2000000 in
theorem parse_any (s : ByteArray) (w : World) (hS : SymsAt w) (hm : s.size ≤ maxLen) : Calls Tryz.prog 12 #[.string s] w (TreeSaid (Px.parse s.data.toList) w) := by
  obtain ⟨⟨ts, k, p⟩, hlex⟩ : ∃ r, r = Lx.lex s.data.toList := ⟨_, rfl⟩
  obtain ⟨R, hR⟩ : ∃ R, R = Px.parse s.data.toList := ⟨_, rfl⟩
  rw [← hR]
  unfold Px.parse at hR
  rw [← hlex] at hR
  have hmf : ∀ (fn : Fn) (first cap : Array Value) (w : World), (Instr.makeFunc fn first cap).run Tryz.prog w = .ok (.func fn first cap) w := fun _ _ _ _ => rfl
  cases k with
  | succ k =>
    have HR := Lib.hid (show R = (Px.source [], [⟨((k + 1 : Nat) : Int), p⟩]) by rw [hR]; exact if_pos (by intro h; cases h))
    have Hl := Lib.hid hlex.symm
    clear hR hlex
    go_enter Tryz.func12, Tryz.ntmps12
    go_wp2_with fail
    refine (open_bad s _ (symsAt_alloc hS _) hm Hl.out).mono ?_
    rintro e w1 ⟨da, dc, rfl, ho, hb⟩
    have hs1 := hb.size
    (try simp at hs1)
    have Hb := Lib.hid (((Below.refl w.heap.size w).alloc (Nat.le_refl _) _).trans (hb.mono (by simp)))
    have z0 : Var 25 w1 w.heap.size #[.int .i64 0, .string ⟨#[]⟩, .string ⟨#[]⟩, .int .i64 0, .int .i64 0, .int .i64 0, .bool false, .slice none 0 0, .int .i64 0] := (hb.block w.heap.size (by simp)).trans (Var.new _ _ _)
    have Ho := Lib.hid (DiagsAt.of ho)
    clear hb ho
    have z0l := z0.lt
    obtain ⟨z0c, z0f⟩ := obj_facts z0
    go_wp2_with fail
    (rw [storeN]; rotate_left; (exact HasN.au))
    refine ret_pair (by rfl) (by rfl) (by rfl) (Var.row_same z0 _) (by rfl) (by rfl) ?_
    rw [HR.out]
    exact ⟨below_setRow Hb.out (Nat.le_refl _) _, none, 0, da, dc, rfl, RRow.nil _ _, diagsAt_setRow (Ho.out.keep (by simp [World.setRow]) (fun _ _ => rfl)) z0 (by decide) _⟩
  | zero =>
    obtain ⟨U, hU⟩ : ∃ U, U = Px.unitsGo (Px.unit s.data.toList.length) (ts.length + 1) [] (Px.start ts) := ⟨_, rfl⟩
    have HR := Lib.hid (show R = if U.2.diags = [] ∧ Px.fits (Px.source U.1) = false then (Px.source [], [⟨2, 0⟩]) else (Px.source U.1, U.2.diags) by rw [hR, hU]; exact if_neg (by intro h; exact h rfl))
    have Hl := Lib.hid hlex.symm
    have HU := Lib.hid hU
    clear hR hlex hU
    go_enter Tryz.func12, Tryz.ntmps12
    go_wp2_with fail
    refine (open_ok s _ (symsAt_alloc hS _) hm Hl.out).mono ?_
    rintro e w1 ⟨g, rfl, hRd, hb⟩
    have hs1 := hb.size
    (try simp at hs1)
    have Hb := Lib.hid (((Below.refl w.heap.size w).alloc (Nat.le_refl _) _).trans (hb.mono (by simp)))
    have z0 : Var 25 w1 w.heap.size #[.int .i64 0, .string ⟨#[]⟩, .string ⟨#[]⟩, .int .i64 0, .int .i64 0, .int .i64 0, .bool false, .slice none 0 0, .int .i64 0] := (hb.block w.heap.size (by simp)).trans (Var.new _ _ _)
    have HRd := Lib.hid (show RdAt (w.heap.size + 1) s.size g w1 (Px.start ts) from by have := hRd; simp at this; exact this)
    clear hb hRd
    go_wp2_with fail
    refine (units_rd (N := 1500) HRd.out (Px.unit s.size) Px.takes_unit (fun _ _ h _ => unit_any h) HRd.out.ok.len).mono ?_
    intro e w2 hu
    rw [show Px.unitsGo (Px.unit s.size) ((Px.start ts).toks.length + 1) [] (Px.start ts) = U from HU.out.symm] at hu
    obtain ⟨hS2, a, cap, rfl, hrow, hRd2⟩ := hu
    obtain ⟨l, s2⟩ := U
    simp only at hrow hRd2 HR
    have hs2 := hS2.size
    have z1 : Var 25 w2 w.heap.size #[.int .i64 0, .string ⟨#[]⟩, .string ⟨#[]⟩, .int .i64 0, .int .i64 0, .int .i64 0, .bool false, .slice none 0 0, .int .i64 0] := Var.stays z0 hS2
    have Hb2 := Lib.hid (Hb.out.trans ((stays_below hS2 (by simp) (by omega)).mono (by omega)))
    obtain ⟨da, dc, hd4, hda⟩ := hRd2.diagsAt
    have Hda := Lib.hid hda
    have Hrow := Lib.hid hrow.row.read
    have HrowX := Lib.hid hrow.row
    have hg2 := hRd2.lt
    have hgB := hRd2.le
    have hgne : w.heap.size ≠ g := by omega
    have hgne' : g ≠ w.heap.size := by omega
    have hdl := hRd2.ok.diags
    obtain ⟨n, hn⟩ : ∃ n : Nat, n = s2.diags.length := ⟨_, rfl⟩
    rw [← hn] at hd4 hdl
    have z1l := z1.lt
    obtain ⟨z1c, z1f⟩ := obj_facts z1
    clear hS2 hrow hRd2 hda z0
    by_cases hn0 : n = 0
    · subst hn0
      have hnil : s2.diags = [] := List.length_eq_zero_iff.1 hn.symm
      clear hn
      go_wp2_with fail
      refine (fits_any (Px.source l) a cap _ ((Hrow.out.below ((Below.refl _ _).alloc (Nat.le_refl _) _)).mono (by simp))).mono ?_
      rintro e w3 ⟨rfl, hb3⟩
      have hs3 := hb3.size
      (try simp at hs3)
      have Hb3 := Lib.hid (Hb2.out.trans (((Below.refl w2.heap.size w2).alloc (Nat.le_refl _) _).trans (hb3.mono (by simp)) |>.mono (by omega)))
      have z3 : Var 25 w3 w.heap.size #[.int .i64 0, .string ⟨#[]⟩, .string ⟨#[]⟩, .int .i64 0, .int .i64 0, .int .i64 0, .bool false, .slice none 0 0, .int .i64 0] := (hb3.block _ (by simp; omega)).trans (z1.alloc _)
      have z4 : Var 25 w3 w2.heap.size _ := (hb3.block _ (by simp)).trans (Var.new _ _ _)
      have hd5 := (hb3.cell (p := ⟨g, 4, none⟩) (by simp; omega)).trans ((Below.cell ((Below.refl w2.heap.size w2).alloc (Nat.le_refl _) _) (p := ⟨g, 4, none⟩) hg2).trans hd4)
      have Hrow3 := Lib.hid (((Hrow.out.below ((Below.refl _ _).alloc (Nat.le_refl _) _)).mono (by simp)).below hb3)
      have z3l := z3.lt
      have z4l := z4.lt
      obtain ⟨z3c, z3f⟩ := obj_facts z3
      obtain ⟨z4c, z4f⟩ := obj_facts z4
      cases hfit : Px.fits (Px.source l) with
      | false =>
        have HR2 := Lib.hid (show R = (Px.source [], [⟨2, 0⟩]) by rw [HR.out]; exact if_pos ⟨hnil, hfit⟩)
        clear hfit
        go_wp2_with fail
        (rw [storeN]; rotate_left; (exact HasN.au))
        refine ret_pair (by rfl) (by rfl) (by rfl) (Var.alloc (Var.row_same z3 _) _) (by rfl) (by rfl) ?_
        rw [HR2.out]
        have := diag_row (w3.setRow w.heap.size #[.int .i64 62, .string ⟨#[]⟩, .string ⟨#[]⟩, .int .i64 0, .int .i64 0, .int .i64 0, .bool false, .slice none 0 0, .int .i64 0]) (Nat.le_refl _) ⟨2, 0⟩
        exact ⟨(below_setRow Hb3.out (Nat.le_refl _) _).alloc (by simp [World.setRow]; omega) _, none, 0, some ⟨w3.heap.size, 0, none⟩, 1, rfl, RRow.nil _ _, DiagsAt.of (by simpa [World.setRow] using this)⟩
      | true =>
        have HR2 := Lib.hid (show R = (Px.source l, []) by rw [HR.out, if_neg (fun h => by have := h.2; rw [hfit] at this; cases this), hnil])
        have Hw3 := Lib.hid (show ∀ b o, w2.heap[b]? = some o → w3.heap[b]? = some o from fun b o ho => (hb3.block b (by have := lt_heap ho; simp; omega)).trans (obj_old ho _))
        clear hfit hb3
        go_wp2_with fail
        go_region
        go_wp2_with fail
        (rw [storeN]; rotate_left; (exact HasN.au))
        refine ret_pair (by rfl) (by rfl) (by rfl) (Var.row_same z3 _) (by rfl) (by rfl) ?_
        rw [HR2.out]
        exact ⟨(below_setRow Hb3.out (Nat.le_refl _) _).drew, a, cap, da, dc, rfl, row_final HrowX.out (fun b o hb ho => obj_row_other (Hw3.out b o ho) (by omega) _), .inl rfl⟩
    · have hnil : ¬ s2.diags = [] := by intro e; rw [e] at hn; exact hn0 hn
      have hn1 : ((n : Int) == 0) = false := by simp; omega
      have HR2 := Lib.hid (show R = (Px.source l, s2.diags) by rw [HR.out]; exact if_neg (fun h => hnil h.1))
      have z3 : Var 25 (w2.alloc (.cells #[.int .i64 62, .string ⟨#[]⟩, .string ⟨#[]⟩, .int .i64 0, .int .i64 0, .int .i64 0, .bool false, .slice a l.length cap, .int .i64 0] 25)) w.heap.size #[.int .i64 0, .string ⟨#[]⟩, .string ⟨#[]⟩, .int .i64 0, .int .i64 0, .int .i64 0, .bool false, .slice none 0 0, .int .i64 0] := z1.alloc _
      have z4 : Var 25 (w2.alloc (.cells #[.int .i64 62, .string ⟨#[]⟩, .string ⟨#[]⟩, .int .i64 0, .int .i64 0, .int .i64 0, .bool false, .slice a l.length cap, .int .i64 0] 25)) w2.heap.size _ := Var.new _ _ _
      have hd5 := (Below.cell ((Below.refl w2.heap.size w2).alloc (Nat.le_refl _) (.cells #[.int .i64 62, .string ⟨#[]⟩, .string ⟨#[]⟩, .int .i64 0, .int .i64 0, .int .i64 0, .bool false, .slice a l.length cap, .int .i64 0] 25)) (p := ⟨g, 4, none⟩) hg2).trans hd4
      obtain ⟨W, hW⟩ : ∃ W, W = w2.alloc (.cells #[.int .i64 62, .string ⟨#[]⟩, .string ⟨#[]⟩, .int .i64 0, .int .i64 0, .int .i64 0, .bool false, .slice a l.length cap, .int .i64 0] 25) := ⟨_, rfl⟩
      have hWs : W.heap.size = w2.heap.size + 1 := by rw [hW]; simp
      have HW := Lib.hid hW
      clear z1c z1f z1
      go_wp2_with fail
      rw [← hW] at z3 z4 hd5 ⊢
      clear hW
      obtain ⟨z3c, z3f⟩ := obj_facts z3
      obtain ⟨z4c, z4f⟩ := obj_facts z4
      go_region
      go_wp2_with fail
      (rw [storeN]; rotate_left; (exact HasN.au))
      refine ret_pair (by rfl) (by rfl) (by rfl) (Var.row_same z3 _) (by rfl) (by rfl) ?_
      rw [HR2.out]
      have Hw3 := Lib.hid (show ∀ b o, w2.heap[b]? = some o → W.heap[b]? = some o from fun b o ho => by rw [HW.out]; exact obj_old ho _)
      refine ⟨(below_setRow (by rw [HW.out]; exact Hb2.out.alloc (by omega) _) (Nat.le_refl _) _).drew, a, cap, da, dc, rfl, row_final HrowX.out (fun b o hb ho => obj_row_other (Hw3.out b o ho) (by omega) _), ?_⟩
      exact diagsAt_final Hda.out (fun b o hb ho => obj_row_other (Hw3.out b o ho) (by omega) _)
end Go.Proofs.YtbgpboiblggmiaaGreatDoor

/-
  ParseExpr: what chapter 2 says.
-/
namespace Go.Proofs.YtbgpboiblggmiaaGreatDoor
open Go.RowKit
open Px (St T D Res left Takes)

set_option maxRecDepth 100000 in
set_option maxHeartbeats 2000000 in
theorem parseExpr_any (s : ByteArray) (w : World) (hS : SymsAt w) (hm : s.size ≤ maxLen) : Calls Tryz.prog 16 #[.string s] w (TreeSaid (Px.parseExpr s.data.toList) w) := by
  obtain ⟨⟨ts, k, p⟩, hlex⟩ : ∃ r, r = Lx.lex s.data.toList := ⟨_, rfl⟩
  obtain ⟨R, hR⟩ : ∃ R, R = Px.parseExpr s.data.toList := ⟨_, rfl⟩
  rw [← hR]
  unfold Px.parseExpr at hR
  rw [← hlex] at hR
  have hmf : ∀ (fn : Fn) (first cap : Array Value) (w : World), (Instr.makeFunc fn first cap).run Tryz.prog w = .ok (.func fn first cap) w := fun _ _ _ _ => rfl
  have Hcf := Lib.hid (show ∀ (args : Array Value) (w : World), (callFunc 42 args).run Tryz.prog w = .ok (.enter 42 args) w from fun _ _ => by simp [go_sem])
  cases k with
  | succ k =>
    have HR := Lib.hid (show R = (T.zero, [⟨((k + 1 : Nat) : Int), p⟩]) by rw [hR]; exact if_pos (by intro h; cases h))
    have Hl := Lib.hid hlex.symm
    clear hR hlex
    go_enter Tryz.func16, Tryz.ntmps16
    go_wp2_with fail
    refine (open_bad s _ (symsAt_alloc hS _) hm Hl.out).mono ?_
    rintro e w1 ⟨da, dc, rfl, ho, hb⟩
    have hs1 := hb.size
    (try simp at hs1)
    have Hb := Lib.hid (((Below.refl w.heap.size w).alloc (Nat.le_refl _) _).trans (hb.mono (by simp)))
    have z0 : Var 25 w1 w.heap.size #[.int .i64 0, .string ⟨#[]⟩, .string ⟨#[]⟩, .int .i64 0, .int .i64 0, .int .i64 0, .bool false, .slice none 0 0, .int .i64 0] := (hb.block w.heap.size (by simp)).trans (Var.new _ _ _)
    have Ho := Lib.hid (DiagsAt.of ho)
    clear hb ho
    have z0l := z0.lt
    obtain ⟨z0c, z0f⟩ := obj_facts z0
    go_wp2_with fail
    (rw [storeN]; rotate_left; (exact HasN.au))
    refine ret_pair (by rfl) (by rfl) (by rfl) (Var.row_same z0 _) (by rfl) (by rfl) ?_
    rw [HR.out]
    exact ⟨below_setRow Hb.out (Nat.le_refl _) _, none, 0, da, dc, rfl, RRow.nil _ _, diagsAt_setRow (Ho.out.keep (by simp [World.setRow]) (fun _ _ => rfl)) z0 (by decide) _⟩
  | zero =>
    have HR := Lib.hid (show R = match Px.item (Px.whole s.data.toList.length) false (Px.start ts) with
      | (.none, s) => (T.zero, s.diags)
      | (some t, _) => if Px.fits t then (t, []) else (T.zero, [⟨2, 0⟩]) by rw [hR]; exact if_neg (by intro h; exact h rfl))
    have Hl := Lib.hid hlex.symm
    clear hR hlex
    go_enter Tryz.func16, Tryz.ntmps16
    go_wp2_with fail
    refine (open_ok s _ (symsAt_alloc hS _) hm Hl.out).mono ?_
    rintro e w1 ⟨g, rfl, hRd, hb⟩
    have hs1 := hb.size
    (try simp at hs1)
    have Hb := Lib.hid (((Below.refl w.heap.size w).alloc (Nat.le_refl _) _).trans (hb.mono (by simp)))
    have z0 : Var 25 w1 w.heap.size #[.int .i64 0, .string ⟨#[]⟩, .string ⟨#[]⟩, .int .i64 0, .int .i64 0, .int .i64 0, .bool false, .slice none 0 0, .int .i64 0] := (hb.block w.heap.size (by simp)).trans (Var.new _ _ _)
    have HRd := Lib.hid (show RdAt (w.heap.size + 1) s.size g w1 (Px.start ts) from by have := hRd; simp at this; exact this)
    clear hb hRd
    go_wp2_with fail
    refine (item_rd HRd.out 42 Hcf.out (Px.whole s.size (Px.start ts)) (fun w' h => whole_rd h) false).mono ?_
    intro e w2 hu
    obtain ⟨hS2, hu⟩ := hu
    have hs2 := hS2.size
    have z1 : Var 25 w2 w.heap.size #[.int .i64 0, .string ⟨#[]⟩, .string ⟨#[]⟩, .int .i64 0, .int .i64 0, .int .i64 0, .bool false, .slice none 0 0, .int .i64 0] := Var.stays z0 hS2
    have Hb2 := Lib.hid (Hb.out.trans ((stays_below hS2 (by simp) (by omega)).mono (by omega)))
    have z1l := z1.lt
    cases hwh : Px.whole s.size (Px.start ts) with
    | bad d sb =>
      rw [hwh] at hu
      obtain ⟨rfl, hRd2⟩ := hu
      have HR2 := Lib.hid (show R = (T.zero, Px.report d sb.diags) by rw [HR.out]; unfold Px.item; rw [show Px.whole s.data.toList.length (Px.start ts) = _ from hwh])
      obtain ⟨da, dc, hd4, hda⟩ := hRd2.diagsAt
      have hdl := hRd2.ok.diags
      have Hda := Lib.hid hda
      have hg2 := hRd2.lt
      have hgB := hRd2.le
      have hgne : w.heap.size ≠ g := by omega
      have hgne' : g ≠ w.heap.size := by omega
      simp only at hd4 hdl
      clear hS2 hRd2 hda z0 hwh
      unfold nodeVal
      obtain ⟨W, hW⟩ : ∃ W, W = w2.alloc (.cells #[.int .i64 T.zero.kind, .string ⟨T.zero.name.toArray⟩, .string ⟨T.zero.other.toArray⟩, .int .i64 T.zero.n, .int .i64 T.zero.len, .int .i64 T.zero.init, .bool T.zero.ghost, .slice none 0 0, .int .i64 T.zero.off] 25) := ⟨_, rfl⟩
      have hWs : W.heap.size = w2.heap.size + 1 := by rw [hW]; simp
      have HW := Lib.hid hW
      go_wp2_with fail
      rw [← hW]
      have z3 : Var 25 W w.heap.size #[.int .i64 0, .string ⟨#[]⟩, .string ⟨#[]⟩, .int .i64 0, .int .i64 0, .int .i64 0, .bool false, .slice none 0 0, .int .i64 0] := by rw [hW]; exact z1.alloc _
      have hd5 : W.cell? ⟨g, 4, none⟩ = some (.slice da (Px.report d sb.diags).length dc) := by rw [hW]; exact (Below.cell ((Below.refl w2.heap.size w2).alloc (Nat.le_refl _) _) (p := ⟨g, 4, none⟩) hg2).trans hd4
      clear hW
      obtain ⟨z3c, z3f⟩ := obj_facts z3
      go_region
      go_wp2_with fail
      (rw [storeN]; rotate_left; (exact HasN.au))
      refine ret_pair (by rfl) (by rfl) (by rfl) (Var.row_same z3 _) (by rfl) (by rfl) ?_
      rw [HR2.out]
      have Hw3 := Lib.hid (show ∀ b o, w2.heap[b]? = some o → W.heap[b]? = some o from fun b o ho => by rw [HW.out]; exact obj_old ho _)
      refine ⟨(below_setRow (by rw [HW.out]; exact Hb2.out.alloc (by omega) _) (Nat.le_refl _) _).drew, none, 0, da, dc, rfl, RRow.nil _ _, ?_⟩
      exact diagsAt_final Hda.out (fun b o hb ho => obj_row_other (Hw3.out b o ho) (by omega) _)
    | ok t s1 =>
      rw [hwh] at hu
      obtain ⟨a, cap, rfl, hrow, hRd2⟩ := hu
      have HR2 := Lib.hid (show R = if Px.fits t then (t, []) else (T.zero, [⟨2, 0⟩]) by rw [HR.out]; unfold Px.item; rw [show Px.whole s.data.toList.length (Px.start ts) = _ from hwh])
      have Hrow := Lib.hid hrow.read
      have HrowX := Lib.hid hrow
      clear hS2 hrow hRd2 z0 hwh
      unfold nodeVal
      obtain ⟨W, hW⟩ : ∃ W, W = w2.alloc (.cells #[.int .i64 t.kind, .string ⟨t.name.toArray⟩, .string ⟨t.other.toArray⟩, .int .i64 t.n, .int .i64 t.len, .int .i64 t.init, .bool t.ghost, .slice a t.kids.length cap, .int .i64 t.off] 25) := ⟨_, rfl⟩
      have hWs : W.heap.size = w2.heap.size + 1 := by rw [hW]; simp
      have HW := Lib.hid hW
      go_wp2_with fail
      rw [← hW]
      have z3 : Var 25 W w.heap.size #[.int .i64 0, .string ⟨#[]⟩, .string ⟨#[]⟩, .int .i64 0, .int .i64 0, .int .i64 0, .bool false, .slice none 0 0, .int .i64 0] := by rw [hW]; exact z1.alloc _
      have z4 : Var 25 W w2.heap.size #[.int .i64 t.kind, .string ⟨t.name.toArray⟩, .string ⟨t.other.toArray⟩, .int .i64 t.n, .int .i64 t.len, .int .i64 t.init, .bool t.ghost, .slice a t.kids.length cap, .int .i64 t.off] := by rw [hW]; exact Var.new _ _ _
      have Hrow2 := Lib.hid (show RRow W.heap.size W t.kids (.slice a t.kids.length cap) by rw [hW]; exact (Hrow.out.below ((Below.refl _ _).alloc (Nat.le_refl _) _)).mono (by simp))
      clear hW
      refine (fits_any t a cap _ Hrow2.out).mono ?_
      rintro e w3 ⟨rfl, hb3⟩
      have hs3 := hb3.size
      have Hb3 := Lib.hid ((show Below w.heap.size w W by rw [HW.out]; exact Hb2.out.alloc (by omega) _).trans (hb3.mono (by omega)))
      have z5 : Var 25 w3 w.heap.size #[.int .i64 0, .string ⟨#[]⟩, .string ⟨#[]⟩, .int .i64 0, .int .i64 0, .int .i64 0, .bool false, .slice none 0 0, .int .i64 0] := (hb3.block _ (by omega)).trans z3
      have z6 : Var 25 w3 w2.heap.size _ := (hb3.block _ (by omega)).trans z4
      have Hw3 := Lib.hid (show ∀ b o, w2.heap[b]? = some o → w3.heap[b]? = some o from fun b o ho => (hb3.block b (by have := lt_heap ho; omega)).trans (by rw [HW.out]; exact obj_old ho _))
      have z5l := z5.lt
      have z6l := z6.lt
      obtain ⟨z5c, z5f⟩ := obj_facts z5
      obtain ⟨z6c, z6f⟩ := obj_facts z6
      clear hb3 z3 z4 z1
      cases hfit : Px.fits t with
      | false =>
        have HR3 := Lib.hid (show R = (T.zero, [⟨2, 0⟩]) by rw [HR2.out, hfit]; rfl)
        clear hfit
        go_wp2_with fail
        (rw [storeN]; rotate_left; (exact HasN.au))
        refine ret_pair (by rfl) (by rfl) (by rfl) (Var.alloc (Var.row_same z5 _) _) (by rfl) (by rfl) ?_
        rw [HR3.out]
        have := diag_row (w3.setRow w.heap.size #[.int .i64 0, .string ⟨#[]⟩, .string ⟨#[]⟩, .int .i64 0, .int .i64 0, .int .i64 0, .bool false, .slice none 0 0, .int .i64 0]) (Nat.le_refl _) ⟨2, 0⟩
        exact ⟨(below_setRow Hb3.out (Nat.le_refl _) _).alloc (by simp [World.setRow]; omega) _, none, 0, some ⟨w3.heap.size, 0, none⟩, 1, rfl, RRow.nil _ _, DiagsAt.of (by simpa [World.setRow] using this)⟩
      | true =>
        have HR3 := Lib.hid (show R = (t, []) by rw [HR2.out, hfit]; rfl)
        clear hfit
        go_wp2_with fail
        (rw [storeN]; rotate_left; (exact HasN.au))
        refine ret_pair (by rfl) (by rfl) (by rfl) (Var.row_same z5 _) (by rfl) (by rfl) ?_
        rw [HR3.out]
        exact ⟨below_setRow Hb3.out (Nat.le_refl _) _, a, cap, none, 0, rfl, row_final HrowX.out (fun b o hb ho => obj_row_other (Hw3.out b o ho) (by omega) _), .inl rfl⟩
end Go.Proofs.YtbgpboiblggmiaaGreatDoor

