/-
  The reference's few and Fits.
-/
import Derived.Test.YtbgpboiblggmiaaGreatDoorQLwu
set_option linter.unusedVariables false
set_option linter.unusedSimpArgs false
namespace Go.Proofs.YtbgpboiblggmiaaGreatDoor
open Go.RowKit
open Px (St T D Res)

mutual
def fewT : T → Int → Nat → Int × Bool
  | .mk _ _ _ _ _ _ _ _ _, _, 0 => (1, false)
  | .mk _ _ _ _ _ _ _ kids _, most, d + 1 => fewL kids most d 1
def fewL : List T → Int → Nat → Int → Int × Bool
  | [], _, _, sum => (sum, true)
  | t :: r, most, d, sum => if sum ≤ most then (if (fewT t (most - sum) d).2 = true then fewL r most d (sum + (fewT t (most - sum) d).1) else (sum, false)) else (sum, true)
end
mutual
theorem fewT_le : ∀ (t : T) (m : Int) (d : Nat), 1 ≤ (fewT t m d).1 ∧ ((fewT t m d).1 ≤ 1 ∨ (fewT t m d).1 ≤ m + 1)
  | .mk _ _ _ _ _ _ _ _ _, m, 0 => by rw [fewT]; simp
  | .mk _ _ _ _ _ _ _ kids _, m, d + 1 => by
    rw [fewT]
    have := fewL_le kids m d 1
    omega
theorem fewL_le : ∀ (l : List T) (m : Int) (d : Nat) (c : Int), c ≤ (fewL l m d c).1 ∧ ((fewL l m d c).1 ≤ c ∨ (fewL l m d c).1 ≤ m + 1)
  | [], m, d, c => by rw [fewL]; simp
  | t :: r, m, d, c => by
    rw [fewL]
    split
    · have h1 := fewT_le t (m - c) d
      split
      · have h2 := fewL_le r m d (c + (fewT t (m - c) d).1)
        omega
      · simp
    · simp
end
mutual
theorem fewT_yes : ∀ (t : T) (m : Int) (d : Nat), (Px.size t : Int) ≤ m → Px.depth t ≤ d → fewT t m d = ((Px.size t : Int), true)
  | .mk _ _ _ _ _ _ _ _ _, m, 0, _, h => by rw [Px.depth] at h; omega
  | .mk _ _ _ _ _ _ _ kids _, m, d + 1, h1, h2 => by
    rw [Px.size] at h1 ⊢
    rw [Px.depth] at h2
    rw [fewT, fewL_yes kids m d 1 (by omega) (by omega)]
    simp
theorem fewL_yes : ∀ (l : List T) (m : Int) (d : Nat) (c : Int), c + (Px.sizes l : Int) ≤ m → Px.depths l ≤ d → fewL l m d c = (c + (Px.sizes l : Int), true)
  | [], m, d, c, _, _ => by rw [fewL, Px.sizes]; simp
  | t :: r, m, d, c, h1, h2 => by
    rw [Px.sizes] at h1 ⊢
    rw [Px.depths] at h2
    obtain ⟨h4, h5⟩ := Nat.max_le.1 h2
    have h3 := fewT_yes t (m - c) d (by omega) h4
    rw [fewL, if_pos (by omega), h3, if_pos rfl, fewL_yes r m d _ (by simp only []; omega) h5]
    simp only [Prod.mk.injEq, and_true]
    omega
end
mutual
theorem fewT_of : ∀ (t : T) (m : Int) (d : Nat), (fewT t m d).2 = true → (fewT t m d).1 ≤ m → (fewT t m d).1 = (Px.size t : Int) ∧ Px.depth t ≤ d
  | .mk _ _ _ _ _ _ _ _ _, m, 0, h, _ => by rw [fewT] at h; cases h
  | .mk _ _ _ _ _ _ _ kids _, m, d + 1, h1, h2 => by
    rw [fewT] at h1 h2 ⊢
    rw [Px.size, Px.depth]
    have := fewL_of kids m d 1 h1 h2
    omega
theorem fewL_of : ∀ (l : List T) (m : Int) (d : Nat) (c : Int), (fewL l m d c).2 = true → (fewL l m d c).1 ≤ m → (fewL l m d c).1 = c + (Px.sizes l : Int) ∧ Px.depths l ≤ d
  | [], m, d, c, _, _ => by rw [fewL, Px.sizes, Px.depths]; simp
  | t :: r, m, d, c, h1, h2 => by
    rw [Px.sizes, Px.depths]
    by_cases hc : c ≤ m
    · by_cases ht : (fewT t (m - c) d).2 = true
      · have e : fewL (t :: r) m d c = fewL r m d (c + (fewT t (m - c) d).1) := by rw [fewL, if_pos hc, if_pos ht]
        rw [e] at h1 h2 ⊢
        have h3 := fewL_of r m d _ h1 h2
        have h4 := fewL_le r m d (c + (fewT t (m - c) d).1)
        have h5 := fewT_of t (m - c) d ht (by omega)
        exact ⟨by omega, Nat.max_le.2 ⟨h5.2, h3.2⟩⟩
      · have e : fewL (t :: r) m d c = (c, false) := by rw [fewL, if_pos hc, if_neg ht]
        rw [e] at h1
        cases h1
    · have e : fewL (t :: r) m d c = (c, true) := by rw [fewL, if_neg hc]
      rw [e] at h2
      exact absurd h2 hc
end
/-- what Fits says is what fits says -/
theorem few_fits (t : T) : ((fewT t 1500 40).2 && decide ((fewT t 1500 40).1 ≤ 1500)) = Px.fits t := by
  unfold Px.fits
  by_cases h : Px.size t ≤ 1500 ∧ Px.depth t ≤ 40
  · rw [fewT_yes t 1500 40 (by omega) h.2]
    simp only [Bool.true_and]
    rw [decide_eq_true (by omega : (Px.size t : Int) ≤ 1500)]
    simp [h.1, h.2]
  · have h1 : (decide (Px.size t ≤ 1500) && decide (Px.depth t ≤ 40)) = false := by
      simp only [Bool.and_eq_false_iff, decide_eq_false_iff_not]
      omega
    rw [h1, Bool.and_eq_false_iff, decide_eq_false_iff_not]
    by_cases h2 : (fewT t 1500 40).2 = true
    · right
      intro h3
      have := fewT_of t 1500 40 h2 h3
      omega
    · left
      simpa using h2

set_option maxRecDepth 100000 in
set_option maxHeartbeats 2000000 in
theorem few_ref : ∀ (n : Nat) (t : T) (most : Int) (d : Nat) (a : Option Addr) (cap : Nat) (w : World), Px.size t ≤ n → most ≤ 1000000 → -1000000 ≤ most → d ≤ 40 → RRow w.heap.size w t.kids (.slice a t.kids.length cap) →
    Calls Tryz.prog 37 #[nodeVal t (.slice a t.kids.length cap), .int .i64 most, .int .i64 d] w fun e w' => e = .returned (.tuple #[.int .i64 (fewT t most d).1, .bool (fewT t most d).2]) ∧ Below w.heap.size w w'
  | 0, t, most, d, a, cap, w, hn, _, _, _, _ => by cases t; rw [Px.size] at hn; omega
  | n + 1, t, most, 0, a, cap, w, hn, hm1, hm2, hd, hk => by
    obtain ⟨R, hR⟩ : ∃ R, R = fewT t most 0 := ⟨_, rfl⟩
    rw [← hR]
    have HR := Lib.hid (show R = (1, false) by rw [hR]; cases t; rw [fewT])
    clear hR
    unfold nodeVal
    go_enter Tryz.func37, Tryz.ntmps37
    go_wp2_with fail
    refine bodyPost_ret (v := .tuple #[.int .i64 1, .bool false]) ?_ rfl ⟨by rw [HR.out], (Below.refl _ _).alloc (Nat.le_refl _) _⟩
    simp [results, Tryz.results37, go_sem]
  | n + 1, t, most, d + 1, a, cap, w, hn, hm1, hm2, hd, hk => by
    have ih := Lib.hid (few_ref n)
    have Hk := Lib.hid hk
    obtain ⟨R, hR⟩ : ∃ R, R = fewT t most (d + 1) := ⟨_, rfl⟩
    rw [← hR]
    have hs : Px.sizes t.kids ≤ n := by cases t; rw [Px.size] at hn; show Px.sizes _ ≤ _; simp only [Px.T.kids]; omega
    have HR := Lib.hid (show R = fewL t.kids most d 1 by rw [hR]; cases t; rw [fewT]; rfl)
    have HC := Lib.hid (show CntOk most 1 from ⟨by omega, by omega, by omega⟩)
    clear hR hk hn
    unfold nodeVal
    have hlen : t.kids.length ≤ maxLen := Hk.out.len
    have hmax : maxLen ≤ 9223372036854775807 := by decide
    obtain ⟨E, hE⟩ : ∃ E : Int, E = ((d + 1 : Nat) : Int) := ⟨_, rfl⟩
    have hE1 : decide (E < 1) = false := decide_eq_false (by omega)
    have hE2 : IntKind.i64.wrap (E - 1) = (d : Int) := by rw [IntWalk.i64_in _ (by omega)]; omega
    rw [← hE]
    have hdd : d ≤ 40 := by omega
    clear hE hd
    go_enter Tryz.func37, Tryz.ntmps37
    go_wp2_with fail
    obtain ⟨W, hW⟩ : ∃ W, W = w.alloc (.cells #[.int .i64 t.kind, .string ⟨t.name.toArray⟩, .string ⟨t.other.toArray⟩, .int .i64 t.n, .int .i64 t.len, .int .i64 t.init, .bool t.ghost, .slice a t.kids.length cap, .int .i64 t.off] 25) := ⟨_, rfl⟩
    have hW1 : W.heap.size = w.heap.size + 1 := by rw [hW]; simp
    have HW := Lib.hid hW
    have hW7 : W.cell? ⟨w.heap.size, 7, none⟩ = some (.slice a t.kids.length cap) := by rw [hW]; exact cell_of_obj (obj_new _ _) 7
    rw [← hW]
    clear hW
    go_loopw [8, 9] (fun c i wr => ∃ (k : Nat) (s : Int), k ≤ t.kids.length ∧ c = .int .i64 s ∧ i = .int .i64 k ∧ Hid (R = fewL (t.kids.drop k) most d s) ∧ Hid (CntOk most s) ∧ Hid (Below W.heap.size W wr)) (fun _ i _ => t.kids.length - (intOf i).toNat)
    case atStart => exact ⟨0, 1, by omega, rfl, rfl, HR, HC, Lib.hid (Below.refl _ _)⟩
    case round =>
      clear HR HC
      obtain ⟨k, s, hk, rfl, rfl, HR, HC, Hb⟩ := hrel
      have c7 : wr.cell? ⟨w.heap.size, 7, none⟩ = some (.slice a t.kids.length cap) := (Hb.out.cell (p := ⟨w.heap.size, 7, none⟩) (by show w.heap.size < _; omega)).trans hW7
      have HBw := Lib.hid (show Below w.heap.size w wr by have h := Hb.out; rw [HW.out] at h; exact ((Below.refl _ _).alloc (Nat.le_refl _) _).trans (h.mono (by simp)))
      by_cases hlt : k < t.kids.length
      · obtain ⟨u, hu⟩ : ∃ u, t.kids[k]? = some u := ⟨_, List.getElem?_eq_getElem hlt⟩
        have hd := sizes_drop hu
        have hlt' : decide ((k : Int) < (t.kids.length : Int)) = true := by simp; omega
        by_cases hsm : s ≤ most
        · have hsm' : decide (s ≤ most) = true := by simp; omega
          obtain ⟨b, o, ka, kc, ha, hb, hrow, h9⟩ := Hk.out.get hu
          subst ha
          obtain ⟨d0, d1, d2, d3, d4, d5, d6, d7, d8⟩ := (h9.below (w' := W) (N := w.heap.size) (by rw [HW.out]; exact (Below.refl _ _).alloc (Nat.le_refl _) _) hb).below Hb.out (by omega)
          have hc := HC.out
          have hwr : IntKind.i64.wrap (most - s) = most - s := IntWalk.i64_in _ (by have := hc.lo; have := hc.hi; omega)
          have hk0 : (0 : Int) ≤ (k : Int) := Int.natCast_nonneg _
          have hk1 : (k : Int) < (t.kids.length : Int) := by omega
          have hbs := Hb.out.size
          have hus : Px.size u ≤ n := by have : Px.sizes (t.kids.drop k) ≤ Px.sizes t.kids := sizes_drop_le t.kids k; rw [hd, Px.sizes] at this; omega
          have hcnt := fewT_le u (most - s) d
          have hcall := ih.out u (most - s) d ka kc wr hus (by have := hc.lo; omega) (by have := hc.lo; have := hc.hi; omega) hdd ((hrow.below HBw.out).mono (by omega))
          have hwr2 : IntKind.i64.wrap (s + (fewT u (most - s) d).1) = s + (fewT u (most - s) d).1 := IntWalk.i64_in _ (by have := hc.lo; have := hc.hi; omega)
          have HR2 := Lib.hid (show R = if (fewT u (most - s) d).2 = true then fewL (t.kids.drop (k + 1)) most d (s + (fewT u (most - s) d).1) else (s, false) by have := HR.out; rw [hd, fewL, if_pos hsm] at this; exact this)
          have HC2 := Lib.hid (show CntOk most (s + (fewT u (most - s) d).1) from ⟨by have := hc.lo; omega, by have := hc.hi; omega, hc.most⟩)
          obtain ⟨C, hC⟩ : ∃ C, C = fewT u (most - s) d := ⟨_, rfl⟩
          rw [← hC] at hcall hwr2 HR2 HC2
          obtain ⟨C1, C2⟩ := C
          have Hcall := Lib.hid hcall
          clear hcall hC hcnt hc hd hu
          go_wp2_with fail
          refine Hcall.out.mono ?_
          rintro e w2 ⟨rfl, hb2⟩
          have Hb2 := Lib.hid hb2
          clear hb2
          cases C2 with
          | true =>
            go_wp2_with fail
            go_roundw
            case rel => exact ⟨k + 1, _, by omega, rfl, by go_num, Lib.hid (HR2.out.trans (if_pos trivial)), HC2, Lib.hid (Hb.out.trans (Hb2.out.mono hbs))⟩
            case measure => simp [intOf]; omega
          | false =>
            go_wp2_with fail
            refine bodyPost_ret (v := .tuple #[.int .i64 s, .bool false]) ?_ rfl ⟨by rw [HR2.out]; rfl, HBw.out.trans (Hb2.out.mono HBw.out.size)⟩
            simp [results, Tryz.results37, go_sem]
        · have hsm' : decide (s ≤ most) = false := by simp; omega
          have HR2 := Lib.hid (show R = (s, true) by have := HR.out; rw [hd, fewL, if_neg hsm] at this; exact this)
          go_wp2_with fail
          refine bodyPost_ret (v := .tuple #[.int .i64 s, .bool true]) ?_ rfl ⟨by rw [HR2.out], HBw.out⟩
          simp [results, Tryz.results37, go_sem]
      · have hlt' : decide ((k : Int) < (t.kids.length : Int)) = false := by simp; omega
        have HR2 := Lib.hid (show R = (s, true) by have := HR.out; rw [List.drop_of_length_le (by omega), fewL] at this; exact this)
        go_wp2_with fail
        refine bodyPost_ret (v := .tuple #[.int .i64 s, .bool true]) ?_ rfl ⟨by rw [HR2.out], HBw.out⟩
        simp [results, Tryz.results37, go_sem]

set_option maxRecDepth 100000 in
set_option maxHeartbeats 1000000 in
theorem rfits_any (t : T) (a : Option Addr) (cap : Nat) (w : World) (hk : RRow w.heap.size w t.kids (.slice a t.kids.length cap)) :
    Calls Tryz.prog 14 #[nodeVal t (.slice a t.kids.length cap)] w fun e w' => e = .returned (.bool (Px.fits t)) ∧ Below w.heap.size w w' := by
  have Hk := Lib.hid hk
  have HF := Lib.hid (few_fits t)
  have Hc := Lib.hid (few_ref (Px.size t) t 1500 40)
  obtain ⟨R, hR⟩ : ∃ R, R = fewT t 1500 40 := ⟨_, rfl⟩
  rw [← hR] at HF Hc
  obtain ⟨R1, R2⟩ := R
  obtain ⟨F, hF⟩ : ∃ F, F = Px.fits t := ⟨_, rfl⟩
  rw [← hF] at HF ⊢
  clear hk hR hF
  unfold nodeVal at *
  go_enter Tryz.func14, Tryz.ntmps14
  go_wp2_with fail
  refine (Hc.out a cap _ (Nat.le_refl _) (by decide) (by decide) (by decide) (Hk.out.next ((Below.refl _ _).alloc (Nat.le_refl _) _))).mono ?_
  rintro e w2 ⟨rfl, hb2⟩
  have Hb2 := Lib.hid (((Below.refl _ _).alloc (Nat.le_refl _) _ : Below w.heap.size w _).trans (hb2.mono (by simp)))
  clear hb2
  cases R2 with
  | true =>
    go_wp2_with fail
    refine bodyPost_ret (v := .bool (decide (R1 ≤ 1500))) ?_ rfl ⟨by rw [← HF.out]; simp, Hb2.out⟩
    simp [results, Tryz.results14, go_sem]
  | false =>
    go_wp2_with fail
    refine bodyPost_ret (v := .bool false) ?_ rfl ⟨by rw [← HF.out]; simp, Hb2.out⟩
    simp [results, Tryz.results14, go_sem]
end Go.Proofs.YtbgpboiblggmiaaGreatDoor

