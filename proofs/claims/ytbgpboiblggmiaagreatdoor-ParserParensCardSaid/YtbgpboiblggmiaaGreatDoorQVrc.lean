/-
  The reference's Path and only.
-/
import Derived.Test.YtbgpboiblggmiaaGreatDoorQVrb
set_option linter.unusedVariables false
set_option linter.unusedSimpArgs false
namespace Go.Proofs.YtbgpboiblggmiaaGreatDoor
open Go.RowKit
open Px (St T D Res)

theorem cut_seg (x : Px.Str) (f k : Nat) : (⟨x.toArray⟩ : ByteArray).extract f k = ⟨((x.drop f).take (k - f)).toArray⟩ := by
  apply ByteArray.ext
  apply Array.ext'
  rw [Lib.extract_data]
theorem run_seg (x : Px.Str) (f k : Nat) (h : f ≤ k) (hk : k ≤ x.length) (W : World) : (Instr.slice 9 (.string ⟨x.toArray⟩) (some (.int .i64 (f : Int))) (some (.int .i64 (k : Int))) none).run Tryz.prog W = .ok (.string ⟨((x.drop f).take (k - f)).toArray⟩) W := by
  rw [run_slice_string W _ _ _ _ _ _ Tryz.underlying9 (by omega) (by omega) (by show (k : Int) ≤ (x.toArray.size : Int); rw [List.size_toArray]; omega)]
  rw [← cut_seg]
  rfl
theorem run_tail (x : Px.Str) (f : Nat) (h : f ≤ x.length) (W : World) : (Instr.slice 9 (.string ⟨x.toArray⟩) (some (.int .i64 (f : Int))) none none).run Tryz.prog W = .ok (.string ⟨(x.drop f).toArray⟩) W := by
  have hs : ((⟨x.toArray⟩ : ByteArray).size : Int) = x.length := by show (x.toArray.size : Int) = _; rw [List.size_toArray]
  rw [run_slice_string_from_if W _ _ _ _ Tryz.underlying9, if_pos ⟨by omega, by rw [hs]; omega⟩]
  have hn : (⟨x.toArray⟩ : ByteArray).size = x.length := by show x.toArray.size = _; rw [List.size_toArray]
  rw [hn, show ((f : Int)).toNat = f by omega, cut_seg, List.take_of_length_le (by rw [List.length_drop]; omega)]
/-- names, each with a point behind it -/
def preN : List Px.Str → List UInt8
  | [] => []
  | a :: r => a ++ 46 :: preN r
theorem preN_snoc (q : Px.Str) : ∀ r : List Px.Str, preN (r ++ [q]) = preN r ++ (q ++ [46])
  | [] => by simp [preN]
  | a :: r => by rw [List.cons_append, preN, preN, preN_snoc q r]; simp
theorem preN_len : ∀ r : List Px.Str, (∀ n ∈ r, NameOk n) → 2 * r.length ≤ (preN r).length
  | [], _ => by simp
  | a :: r, h => by
    have := preN_len r (fun n hn => h n (by simp [hn]))
    have h1 := (h a (by simp)).len
    rw [preN, List.length_append, List.length_cons, List.length_cons]
    omega
theorem preN_join : ∀ (r : List Px.Str) (l : Px.Str), ∃ a q, preN r ++ l = joinN a q ∧ q.length = r.length ∧ ∀ n, n ∈ a :: q ↔ n ∈ r ∨ n = l
  | [], l => ⟨l, [], rfl, rfl, fun n => by simp⟩
  | b :: r, l => by
    obtain ⟨a, q, h1, h2, h3⟩ := preN_join r l
    refine ⟨b, a :: q, ?_, by simp [h2], fun n => ?_⟩
    · rw [preN, joinN, ← h1]; simp
    · rw [List.mem_cons, h3 n, List.mem_cons]
      constructor
      · rintro (h | h | h)
        · exact .inl (.inl h)
        · exact .inl (.inr h)
        · exact .inr h
      · rintro ((h | h) | h)
        · exact .inl h
        · exact .inr (.inl h)
        · exact .inr (.inr h)
structure PInv (x : Px.Str) (m f : Nat) : Prop where
  ex : ∃ r : List Px.Str, (∀ n ∈ r, NameOk n) ∧ x.take f = preN r ∧ m = r.length + 1
theorem pinv_two {x : Px.Str} {m f : Nat} (h : PInv x m f) (hf : f ≤ x.length) : 2 * m ≤ f + 2 := by
  obtain ⟨r, h1, h2, h3⟩ := h.ex
  have := preN_len r h1
  rw [← h2, List.length_take] at this
  omega
theorem pinv_step {x : Px.Str} {m f k : Nat} (h : PInv x m f) (hf : f ≤ k) (hk : x[k]? = some 46) (hn : NameOk ((x.drop f).take (k - f))) : PInv x (m + 1) (k + 1) := by
  obtain ⟨r, h1, h2, h3⟩ := h.ex
  refine ⟨r ++ [(x.drop f).take (k - f)], fun n hn' => ?_, ?_, by simp [h3]⟩
  · rcases List.mem_append.1 hn' with h | h
    · exact h1 n h
    · rw [List.mem_singleton.1 h]; exact hn
  · rw [preN_snoc, ← h2, take_snoc x k 46 hk, ← List.append_assoc]
    congr 1
    have e : x.take k = x.take f ++ (x.drop f).take (k - f) := by
      rw [← List.take_append_drop f (x.take k), List.take_take, Nat.min_eq_left hf, List.drop_take]
    exact e
theorem pinv_end {x : Px.Str} {m f : Nat} (h : PInv x m f) (h3 : m ≤ 3) (hn : NameOk (x.drop f)) : PathV x := by
  obtain ⟨r, h1, h2, h4⟩ := h.ex
  obtain ⟨a, q, j1, j2, j3⟩ := preN_join r (x.drop f)
  refine ⟨a, q, ?_, fun n hn' => ?_, by omega⟩
  · rw [← j1, ← h2, List.take_append_drop]
  · rcases (j3 n).1 hn' with h | h
    · exact h1 n h
    · rw [h]; exact hn

set_option maxRecDepth 100000 in
set_option maxHeartbeats 4000000 in
theorem rpath_any (x : Px.Str) (w : World) (hx : x.length ≤ maxLen) : Calls Tryz.prog 131 #[.string ⟨x.toArray⟩] w (RB (PathV x) w) := by
  have hmax : maxLen ≤ 9223372036854775807 := by decide
  have hx9 : x.length ≤ 9223372036854775807 := by omega
  have Hx := Lib.hid hx
  clear hx hmax
  go_enter Tryz.func131, Tryz.ntmps131
  go_wp2_with fail
  go_loopw [3, 4, 5] (fun p q i wr => ∃ m f k : Nat, k ≤ x.length ∧ f ≤ k ∧ p = .int .i64 m ∧ q = .int .i64 f ∧ i = .int .i64 k ∧ Hid (PInv x m f) ∧ Hid (Below w.heap.size w wr)) (fun _ _ i _ => x.length - (intOf i).toNat)
  case atStart => exact ⟨1, 0, 0, by omega, by omega, rfl, rfl, rfl, Lib.hid ⟨[], fun n hn => (by cases hn), rfl, rfl⟩, Lib.hid (Below.refl _ _)⟩
  case round =>
    obtain ⟨m, f, k, hk', hf, rfl, rfl, rfl, Hinv, Hb⟩ := hrel
    have h2 := pinv_two Hinv.out (by omega)
    have hm0 : (0 : Int) ≤ (m : Int) := Int.natCast_nonneg _
    by_cases hlt : k < x.length
    · have hrunk : ∀ W, (Instr.index 9 (.string ⟨x.toArray⟩) (.int .i64 (k : Int))).run Tryz.prog W = .ok (.int .u8 ((x[k]'hlt).toNat : Int)) W := idx_str ⟨x.toArray⟩ _ k rfl hlt
      obtain ⟨c, hc⟩ : ∃ c, c = x[k]'hlt := ⟨_, rfl⟩
      rw [← hc] at hrunk
      have Hk := Lib.hid (show x[k]? = some c by rw [hc]; exact List.getElem?_eq_getElem hlt)
      clear hc
      by_cases h46 : c = 46
      · subst h46
        have hseg := fun W => run_seg x f k hf hk' W
        obtain ⟨q, hq⟩ : ∃ q, q = (x.drop f).take (k - f) := ⟨_, rfl⟩
        rw [← hq] at hseg
        have hql : q.length ≤ maxLen := by have := Hx.out; rw [hq, List.length_take, List.length_drop]; omega
        have Hq := Lib.hid hq
        have Hql := Lib.hid hql
        clear hq hql
        go_wp2_with fail
        refine (rname_any q wr Hql.out).mono ?_
        rintro e w2 ⟨b, rfl, hb, hb2⟩
        have Hb2 := Lib.hid (Hb.out.trans (hb2.mono Hb.out.size))
        have Hbb := Lib.hid hb
        clear hb hb2
        cases b with
        | false =>
          go_wp2_with fail
          go_ret
          exact ⟨false, rfl, fun h => (by cases h), Hb2.out⟩
        | true =>
          have hnm := Hbb.out (by first | rfl | trivial)
          rw [Hq.out] at hnm
          have Hst := Lib.hid (pinv_step Hinv.out hf Hk.out hnm)
          clear hnm
          go_wp2_with fail
          go_roundw
          case rel => exact ⟨m + 1, k + 1, k + 1, by omega, by omega, by go_num, by go_num, by go_num, Hst, Hb2⟩
          case measure => simp [intOf]; omega
      · have hne : ((c.toNat : Int) != 46) = true := bne_iff_ne.2 (fun e => h46 (UInt8.toNat_inj.1 (by show c.toNat = 46; omega)))
        clear h46
        go_wp2_with fail
        go_roundw
        case rel => exact ⟨m, f, k + 1, by omega, by omega, rfl, rfl, by go_num, Hinv, Hb⟩
        case measure => simp [intOf]; omega
    · obtain rfl : k = x.length := by omega
      by_cases h3 : m ≤ 3
      · have d1 : decide ((m : Int) ≤ 3) = true := decide_eq_true (by omega)
        have hseg := fun W => run_tail x f hf W
        obtain ⟨q, hq⟩ : ∃ q, q = x.drop f := ⟨_, rfl⟩
        rw [← hq] at hseg
        have hql : q.length ≤ maxLen := by have := Hx.out; rw [hq, List.length_drop]; omega
        have Hq := Lib.hid hq
        have Hql := Lib.hid hql
        clear hq hql
        go_wp2_with fail
        refine (rname_any q wr Hql.out).mono ?_
        rintro e w2 ⟨b, rfl, hb, hb2⟩
        have Hb2 := Lib.hid (Hb.out.trans (hb2.mono Hb.out.size))
        have Hbb := Lib.hid hb
        clear hb hb2
        cases b with
        | false =>
          go_wp2_with fail
          go_ret
          exact ⟨false, rfl, fun h => (by cases h), Hb2.out⟩
        | true =>
          go_wp2_with fail
          go_ret
          exact ⟨true, rfl, fun _ => pinv_end Hinv.out h3 (by rw [← Hq.out]; exact Hbb.out (by first | rfl | trivial)), Hb2.out⟩
      · have d1 : decide ((m : Int) ≤ 3) = false := decide_eq_false (by omega)
        go_wp2_with fail
        go_ret
        exact ⟨false, rfl, fun h => (by cases h), Hb.out⟩
end Go.Proofs.YtbgpboiblggmiaaGreatDoor

