/-
  Paths are names with points between; what a reader hands back is well formed: fields, kids.
-/
import Derived.Test.YtbgpboiblggmiaaGreatDoorQWfa
import Derived.Test.YtbgpboiblggmiaaGreatDoorQRcc
import Derived.Lib.SplitLaws
set_option linter.unusedVariables false
set_option linter.unusedSimpArgs false
namespace Go.Proofs.YtbgpboiblggmiaaGreatDoor
open Go.RowKit
open Px (St T D Res left)

theorem index_name (r : List UInt8) : ∀ n : List UInt8, (∀ c ∈ n, c ≠ 46) → Lib.index (n ++ 46 :: r) [46] = (n.length : Int)
  | [], _ => by rw [List.nil_append, Lib.index]; simp [List.isPrefixOf]
  | c :: n, h => by
    rw [List.cons_append, Lib.index]
    have hc : c ≠ 46 := h c (by simp)
    have hp : ([46] : List UInt8).isPrefixOf (c :: (n ++ 46 :: r)) = false := by simp [List.isPrefixOf, Ne.symm hc]
    rw [hp, index_name r n (fun d hd => h d (by simp [hd]))]
    have h9 : ¬ ((n.length : Int) == -1) = true := fun e => by have := beq_iff_eq.1 e; omega
    rw [if_neg (by simp), if_neg h9]
    simp
theorem splitK_name {n : List UInt8} (h : ∀ c ∈ n, c ≠ 46) (k : Nat) (r : List UInt8) : Lib.splitK [46] 0 (k + 1) (n ++ 46 :: r) = n :: Lib.splitK [46] 0 k r := by
  rw [Lib.splitK, index_name r n h]
  have h9 : ¬ ((n.length : Int) == -1) = true := fun e => by have := beq_iff_eq.1 e; omega
  rw [if_neg h9, Int.toNat_natCast, Nat.add_zero, List.take_left' rfl]
  rw [show (n ++ 46 :: r).drop (n.length + ([46] : List UInt8).length) = r by
    rw [show n ++ 46 :: r = (n ++ [46]) ++ r by simp]
    exact List.drop_left' (by simp)]
theorem name_no46 {n : Px.Str} (h : NameOk n) : ∀ c ∈ n, c ≠ 46 := fun c hc e => by
  have := h.word c hc
  rw [e] at this
  exact absurd this (by decide)
/-- names with points between -/
def joinN : Px.Str → List Px.Str → Px.Str
  | a, [] => a
  | a, b :: r => a ++ 46 :: joinN b r
theorem count_no {n : List UInt8} (h : ∀ c ∈ n, c ≠ 46) : n.count 46 = 0 := List.count_eq_zero.2 (fun hc => h 46 hc rfl)
theorem join_count : ∀ (a : Px.Str) (r : List Px.Str), (∀ n ∈ a :: r, NameOk n) → (joinN a r).count 46 = r.length
  | a, [], h => by rw [joinN]; exact count_no (name_no46 (h a (by simp)))
  | a, b :: r, h => by
    rw [joinN, List.count_append, count_no (name_no46 (h a (by simp))), List.count_cons_self, join_count b r (fun n hn => h n (by simp at hn ⊢; right; exact hn)), List.length_cons]
    omega
theorem join_len : ∀ (a : Px.Str) (r : List Px.Str), (∀ n ∈ a :: r, NameOk n) → (joinN a r).length ≤ 17 * (r.length + 1)
  | a, [], h => by rw [joinN]; have := (h a (by simp)).len; simp; omega
  | a, b :: r, h => by
    have h1 := join_len b r (fun n hn => h n (by simp at hn ⊢; right; exact hn))
    have := (h a (by simp)).len
    rw [joinN, List.length_append, List.length_cons, List.length_cons]
    omega
theorem join_split : ∀ (a : Px.Str) (r : List Px.Str), (∀ n ∈ a :: r, NameOk n) → Lib.splitK [46] 0 r.length (joinN a r) = a :: r
  | a, [], h => rfl
  | a, b :: r, h => by rw [joinN, List.length_cons, splitK_name (name_no46 (h a (by simp))), join_split b r (fun n hn => h n (by simp at hn ⊢; right; exact hn))]
theorem path_join (a : Px.Str) (r : List Px.Str) (h : ∀ n ∈ a :: r, NameOk n) (hr : r.length ≤ 2) : PathOk (joinN a r) := by
  obtain ⟨s, hs⟩ : ∃ s, s = joinN a r := ⟨_, rfl⟩
  have hc := join_count a r h
  have hl := join_len a r h
  have hsp := join_split a r h
  rw [← hs] at hc hl hsp ⊢
  have hd : (dots s).map (·.data.toList) = a :: r := by
    unfold dots
    rw [Lib.splitB_data]
    show Lib.splitK [46] 0 (Lib.count s [46]) s = _
    rw [Lib.count_one, hc]
    exact hsp
  refine ⟨by omega, by omega, ?_, fun p hp => h _ ?_⟩
  · have := congrArg List.length hd
    rw [List.length_map, List.length_cons] at this
    omega
  · rw [← hd]
    exact List.mem_map.2 ⟨p, hp, rfl⟩
variable {E : Nat}
/-- kids that a row allows, one by one -/
def KidsV (r : Rw) (kids : List T) : Prop := ∃ j, (r.more = [] → j = 0) ∧ PropsYes (r.kids ++ rep r.more j ++ r.last) kids
mutual
/-- fields and kids are right everywhere -/
def VT : T → Prop
  | .mk k a b n l i g kids o => FieldsOk (rowP (.mk k a b n l i g kids o)) (.mk k a b n l i g kids o) ∧ KidsV (rowP (.mk k a b n l i g kids o)) kids ∧ VL kids
def VL : List T → Prop
  | [] => True
  | t :: r => VT t ∧ VL r
end
theorem vt_mk {t : T} (hf : FieldsOk (rowP t) t) (hk : KidsV (rowP t) t.kids) (hl : VL t.kids) : VT t := by
  cases t
  rw [VT]
  exact ⟨hf, hk, hl⟩
theorem vl_nil : VL [] := by rw [VL]; trivial
theorem vl_cons {t : T} {r : List T} (h : VT t) (hr : VL r) : VL (t :: r) := by rw [VL]; exact ⟨h, hr⟩
theorem vt_open {t : T} (h : VT t) : FieldsOk (rowP t) t ∧ KidsV (rowP t) t.kids ∧ VL t.kids := by
  cases t
  rw [VT] at h
  exact h
theorem vl_mem : ∀ {l : List T}, VL l → ∀ t ∈ l, VT t
  | x :: r, h, t, ht => by
    rw [VL] at h
    rcases List.mem_cons.1 ht with rfl | ht
    · exact h.1
    · exact vl_mem h.2 t ht
theorem wfL_all : ∀ {m : List T}, (∀ t ∈ m, WfT t) → WfL m
  | [], _ => by rw [WfL]; trivial
  | t :: r, h => by rw [WfL]; exact ⟨h t (by simp), wfL_all (fun u hu => h u (by simp [hu]))⟩
theorem size_mem : ∀ {l : List T} {t : T}, t ∈ l → Px.size t ≤ Px.sizes l
  | x :: r, t, h => by
    rw [Px.sizes]
    rcases List.mem_cons.1 h with rfl | h
    · omega
    · have := size_mem h; omega
/-- a tree that is not too large -/
theorem wf_of : ∀ (n : Nat) (t : T), Px.size t ≤ n → n ≤ 3001 → VT t → WfT t
  | 0, t, h, _, _ => by cases t; rw [Px.size] at h; omega
  | n + 1, t, h, hn, hv => by
    obtain ⟨h1, ⟨j, hj, h2⟩, h3⟩ := vt_open hv
    have hs : Px.sizes t.kids ≤ n := by cases t; rw [Px.size] at h; show Px.sizes _ ≤ _; simp only [Px.T.kids]; omega
    rw [wfT_iff]
    refine ⟨h1, kidsOk_of _ _ j hj (by have := len_sizes t.kids; omega) h2, wfL_all (fun u hu => wf_of n u ?_ (by omega) (vl_mem h3 u hu))⟩
    have := size_mem hu
    omega
end Go.Proofs.YtbgpboiblggmiaaGreatDoor

