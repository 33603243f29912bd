/-
  Paths are names with points between; what a reader hands back is well formed: fields, kids.
-/
import Derived.Test.YtbgpboiblggmiaaGreatDoorWfa
import Derived.Test.YtbgpboiblggmiaaGreatDoorRcc
import Derived.Lib.SplitLaws
set_option linter.unusedVariables false
set_option linter.unusedSimpArgs false
namespace Go.Proofs.YtbgpboiblggmiaaGreatDoor
open Go.RowKit
open Px (St T D Res left)

theorem index_name (r : List UInt8) : ∀ n : List UInt8, (∀ c ∈ n, c ≠ 46) → Lib.index (n ++ 46 :: r) [46] = (n.length : Int)
  | [], _ => by rw [List.nil_append, Lib.index]; simp [List.isPrefixOf]
  | c :: n, h => by
    rw [List.cons_append, Lib.index]
    have hc : c ≠ 46 := h c (by simp)
    have hp : ([46] : List UInt8).isPrefixOf (c :: (n ++ 46 :: r)) = false := by simp [List.isPrefixOf, Ne.symm hc]
    rw [hp, index_name r n (fun d hd => h d (by simp [hd]))]
    have h9 : ¬ ((n.length : Int) == -1) = true := fun e => by have := beq_iff_eq.1 e; omega
    rw [if_neg (by simp), if_neg h9]
    simp
theorem splitK_name {n : List UInt8} (h : ∀ c ∈ n, c ≠ 46) (k : Nat) (r : List UInt8) : Lib.splitK [46] 0 (k + 1) (n ++ 46 :: r) = n :: Lib.splitK [46] 0 k r := by
  rw [Lib.splitK, index_name r n h]
  have h9 : ¬ ((n.length : Int) == -1) = true := fun e => by have := beq_iff_eq.1 e; omega
  rw [if_neg h9, Int.toNat_natCast, Nat.add_zero, List.take_left' rfl]
  rw [show (n ++ 46 :: r).drop (n.length + ([46] : List UInt8).length) = r by
    rw [show n ++ 46 :: r = (n ++ [46]) ++ r by simp]
    exact List.drop_left' (by simp)]
theorem name_no46 {n : Px.Str} (h : NameOk n) : ∀ c ∈ n, c ≠ 46 := fun c hc e => by
  have := h.word c hc
  rw [e] at this
  exact absurd this (by decide)
/-- names with points between -/
def joinN : Px.Str → List Px.Str → Px.Str
  | a, [] => a
  | a, b :: r => a ++ 46 :: joinN b r
theorem join_snoc (q : Px.Str) : ∀ (a : Px.Str) (r : List Px.Str), joinN a (r ++ [q]) = joinN a r ++ ([46] ++ q)
  | a, [] => by simp [joinN]
  | a, b :: r => by rw [List.cons_append, joinN, joinN, join_snoc q b r]; simp
theorem count_no {n : List UInt8} (h : ∀ c ∈ n, c ≠ 46) : n.count 46 = 0 := List.count_eq_zero.2 (fun hc => h 46 hc rfl)
theorem join_count : ∀ (a : Px.Str) (r : List Px.Str), (∀ n ∈ a :: r, NameOk n) → (joinN a r).count 46 = r.length
  | a, [], h => by rw [joinN]; exact count_no (name_no46 (h a (by simp)))
  | a, b :: r, h => by
    rw [joinN, List.count_append, count_no (name_no46 (h a (by simp))), List.count_cons_self, join_count b r (fun n hn => h n (by simp at hn ⊢; right; exact hn)), List.length_cons]
    omega
theorem join_len : ∀ (a : Px.Str) (r : List Px.Str), (∀ n ∈ a :: r, NameOk n) → (joinN a r).length ≤ 17 * (r.length + 1)
  | a, [], h => by rw [joinN]; have := (h a (by simp)).len; simp; omega
  | a, b :: r, h => by
    have h1 := join_len b r (fun n hn => h n (by simp at hn ⊢; right; exact hn))
    have := (h a (by simp)).len
    rw [joinN, List.length_append, List.length_cons, List.length_cons]
    omega
theorem join_split : ∀ (a : Px.Str) (r : List Px.Str), (∀ n ∈ a :: r, NameOk n) → Lib.splitK [46] 0 r.length (joinN a r) = a :: r
  | a, [], h => rfl
  | a, b :: r, h => by rw [joinN, List.length_cons, splitK_name (name_no46 (h a (by simp))), join_split b r (fun n hn => h n (by simp at hn ⊢; right; exact hn))]
theorem path_join (a : Px.Str) (r : List Px.Str) (h : ∀ n ∈ a :: r, NameOk n) (hr : r.length ≤ 2) : PathOk (joinN a r) := by
  obtain ⟨s, hs⟩ : ∃ s, s = joinN a r := ⟨_, rfl⟩
  have hc := join_count a r h
  have hl := join_len a r h
  have hsp := join_split a r h
  rw [← hs] at hc hl hsp ⊢
  have hd : (dots s).map (·.data.toList) = a :: r := by
    unfold dots
    rw [Lib.splitB_data]
    show Lib.splitK [46] 0 (Lib.count s [46]) s = _
    rw [Lib.count_one, hc]
    exact hsp
  refine ⟨by omega, by omega, ?_, fun p hp => h _ ?_⟩
  · have := congrArg List.length hd
    rw [List.length_map, List.length_cons] at this
    omega
  · rw [← hd]
    exact List.mem_map.2 ⟨p, hp, rfl⟩
variable {E : Nat}
theorem wr_if {α : Type} {Φ : α → Prop} {c : Prop} [Decidable c] {r1 r2 : Res α} {s : St} (h1 : c → Wr Φ r1 s) (h2 : ¬ c → Wr Φ r2 s) : Wr Φ (if c then r1 else r2) s := by
  split
  · exact h1 (by assumption)
  · exact h2 (by assumption)
theorem wr_mono {α : Type} {Φ Ψ : α → Prop} {r : Res α} {s : St} (h : Wr Φ r s) (hf : ∀ a, Φ a → Ψ a) : Wr Ψ r s := fun hv a s1 e => ⟨hf a (h hv a s1 e).1, (h hv a s1 e).2⟩
theorem wr_rest {α : Type} {Φ : α → Prop} {r : Res α} {s : St} (h : Wr Φ r (Px.rest s)) : Wr Φ r s := wr_of h (Px.suf_rest s)
theorem acc_suf (x : Px.Str) (s : St) : (Px.accepted E x s).toks <:+ s.toks := by
  unfold Px.accepted
  split
  · exact Px.suf_rest s
  · exact List.suffix_refl _
theorem wr_acc {α : Type} {Φ : α → Prop} {x : Px.Str} {r : Res α} {s : St} (h : Wr Φ r (Px.accepted E x s)) : Wr Φ r s := wr_of h (acc_suf x s)
theorem wr_pathGo : ∀ (k : Nat) (p : Px.Str) (s : St), (∃ a r, p = joinN a r ∧ (∀ n ∈ a :: r, NameOk n) ∧ r.length + k ≤ 2) → Wr PathOk (Px.pathGo E k p s) s
  | 0, p, s, ⟨a, r, hp, hn, hl⟩ => by
    rw [Px.pathGo, hp]
    exact wr_ok (path_join a r hn (by omega))
  | k + 1, p, s, ⟨a, r, hp, hn, hl⟩ => by
    rw [Px.pathGo]
    refine wr_if (fun _ => wr_rest (wr_bind (wr_name _) (fun q s1 _ _ hq => wr_pathGo k _ s1 ⟨a, r ++ [q], by rw [hp, join_snoc], ?_, by simp; omega⟩))) (fun _ => by rw [hp]; exact wr_ok (path_join a r hn (by omega)))
    intro n hn'
    rcases List.mem_cons.1 hn' with rfl | hn'
    · exact hn _ (by simp)
    · rcases List.mem_append.1 hn' with hn' | hn'
      · exact hn n (by simp [hn'])
      · rw [List.mem_singleton.1 hn']; exact hq
theorem wr_path (s : St) : Wr PathOk (Px.path E s) s := by
  unfold Px.path
  exact wr_bind (wr_name s) (fun p s1 _ _ hp => wr_pathGo 2 p s1 ⟨p, [], rfl, fun n hn => by rw [List.mem_singleton.1 hn]; exact hp, by simp⟩)

/-- kids that a row allows, one by one -/
def KidsV (r : Rw) (kids : List T) : Prop := ∃ j, (r.more = [] → j = 0) ∧ PropsYes (r.kids ++ rep r.more j ++ r.last) kids
mutual
/-- fields and kids are right everywhere -/
def VT : T → Prop
  | .mk k a b n l i g kids o => FieldsOk (rowP (.mk k a b n l i g kids o)) (.mk k a b n l i g kids o) ∧ KidsV (rowP (.mk k a b n l i g kids o)) kids ∧ VL kids
def VL : List T → Prop
  | [] => True
  | t :: r => VT t ∧ VL r
end
theorem vt_mk {t : T} (hf : FieldsOk (rowP t) t) (hk : KidsV (rowP t) t.kids) (hl : VL t.kids) : VT t := by
  cases t
  rw [VT]
  exact ⟨hf, hk, hl⟩
theorem vl_nil : VL [] := by rw [VL]; trivial
theorem vl_cons {t : T} {r : List T} (h : VT t) (hr : VL r) : VL (t :: r) := by rw [VL]; exact ⟨h, hr⟩
theorem vl_app : ∀ {l m : List T}, VL l → VL m → VL (l ++ m)
  | [], m, _, h => h
  | t :: l, m, h, hm => by rw [VL] at h; exact vl_cons h.1 (vl_app h.2 hm)
theorem vl_all : ∀ {m : List T}, (∀ t ∈ m, VT t) → VL m
  | [], _ => vl_nil
  | t :: r, h => vl_cons (h t (by simp)) (vl_all (fun u hu => h u (by simp [hu])))
theorem propsYes_app : ∀ {fs gs : List FuncId} {l m : List T}, PropsYes fs l → PropsYes gs m → PropsYes (fs ++ gs) (l ++ m)
  | [], gs, [], m, _, h => h
  | f :: fs, gs, t :: l, m, h, h2 => by
    rw [PropsYes] at h
    rw [List.cons_append, List.cons_append, PropsYes]
    exact ⟨h.1, propsYes_app h.2 h2⟩
  | [], gs, t :: l, m, h, _ => by rw [PropsYes] at h; exact h.elim; all_goals (intros; simp_all)
  | f :: fs, gs, [], m, h, _ => by rw [PropsYes] at h; exact h.elim; all_goals (intros; simp_all)
theorem rep_one (f : FuncId) : ∀ j, rep [f] j = List.replicate j f
  | 0 => rfl
  | j + 1 => by rw [rep, rep_one f j, List.replicate_succ']
theorem props_rep {f : FuncId} : ∀ (m : List T), (∀ t ∈ m, PropYes f t) → PropsYes (rep [f] m.length) m
  | [], _ => trivial
  | t :: r, h => by
    have ih := props_rep r (fun u hu => h u (by simp [hu]))
    rw [rep_one] at ih ⊢
    rw [List.length_cons, List.replicate_succ, PropsYes]
    exact ⟨h t (by simp), ih⟩
theorem kv_more {r : Rw} {kids : List T} (j : Nat) (hj : r.more = [] → j = 0) (hl : r.last = []) (h : PropsYes (r.kids ++ rep r.more j) kids) : KidsV r kids := ⟨j, hj, by rw [hl, List.append_nil]; exact h⟩
/-- all kids obey one property -/
theorem kv_all {r : Rw} {f : FuncId} {kids : List T} (h0 : r.kids = []) (h1 : r.more = [f]) (h2 : r.last = []) (h : ∀ t ∈ kids, PropYes f t) : KidsV r kids :=
  kv_more kids.length (fun e => by rw [h1] at e; cases e) h2 (by rw [h0, h1, List.nil_append]; exact props_rep kids h)
theorem vt_open {t : T} (h : VT t) : FieldsOk (rowP t) t ∧ KidsV (rowP t) t.kids ∧ VL t.kids := by
  cases t
  rw [VT] at h
  exact h
theorem vl_mem : ∀ {l : List T}, VL l → ∀ t ∈ l, VT t
  | x :: r, h, t, ht => by
    rw [VL] at h
    rcases List.mem_cons.1 ht with rfl | ht
    · exact h.1
    · exact vl_mem h.2 t ht
theorem wfL_all : ∀ {m : List T}, (∀ t ∈ m, WfT t) → WfL m
  | [], _ => by rw [WfL]; trivial
  | t :: r, h => by rw [WfL]; exact ⟨h t (by simp), wfL_all (fun u hu => h u (by simp [hu]))⟩
theorem size_mem : ∀ {l : List T} {t : T}, t ∈ l → Px.size t ≤ Px.sizes l
  | x :: r, t, h => by
    rw [Px.sizes]
    rcases List.mem_cons.1 h with rfl | h
    · omega
    · have := size_mem h; omega
/-- a tree that is not too large -/
theorem wf_of : ∀ (n : Nat) (t : T), Px.size t ≤ n → n ≤ 3001 → VT t → WfT t
  | 0, t, h, _, _ => by cases t; rw [Px.size] at h; omega
  | n + 1, t, h, hn, hv => by
    obtain ⟨h1, ⟨j, hj, h2⟩, h3⟩ := vt_open hv
    have hs : Px.sizes t.kids ≤ n := by cases t; rw [Px.size] at h; show Px.sizes _ ≤ _; simp only [Px.T.kids]; omega
    rw [wfT_iff]
    refine ⟨h1, kidsOk_of _ _ j hj (by have := len_sizes t.kids; omega) h2, wfL_all (fun u hu => wf_of n u ?_ (by omega) (vl_mem h3 u hu))⟩
    have := size_mem hu
    omega
end Go.Proofs.YtbgpboiblggmiaaGreatDoor
