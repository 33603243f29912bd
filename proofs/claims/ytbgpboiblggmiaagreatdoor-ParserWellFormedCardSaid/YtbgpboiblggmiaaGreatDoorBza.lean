/-
  Outside of an atomic's braces no brace is open: what a reader that ends well leaves.
-/
import Derived.Test.YtbgpboiblggmiaaGreatDoorLya
set_option linter.unusedVariables false
set_option linter.unusedSimpArgs false
namespace Go.Proofs.YtbgpboiblggmiaaGreatDoor.Px
open Lx (Tok)
variable {E : Nat}
def Z0 (s s1 : St) : Prop := s.braces = 0 → s1.braces = 0
def Zb {α : Type} (r : Res α) (s : St) : Prop := ∀ a s1, r = .ok a s1 → s.braces = 0 → s1.braces = 0
def Zs (rd : St → Res T) : Prop := ∀ s, Zb (rd s) s
theorem z_bind {α β : Type} {r : Res α} {s : St} {f : α → St → Res β} (h : Zb r s) (hf : ∀ a s1, r = .ok a s1 → Zb (f a s1) s1) : Zb (r.bind f) s := by
  intro b s2 e h0
  obtain ⟨a, s1, e1, e2⟩ := bind_inv e
  exact hf a s1 e1 b s2 e2 (h a s1 e1 h0)
theorem z_rest (s : St) : Z0 s (rest s) := id
theorem z_of {α : Type} {r : Res α} {s s1 : St} (h : Zb r s1) (h1 : Z0 s s1) : Zb r s := fun a s2 e h0 => h a s2 e (h1 h0)
theorem z_ok {α : Type} {s s1 : St} (a : α) (h : Z0 s s1) : Zb (.ok a s1) s := fun b s2 e h0 => by cases e; exact h h0
theorem z_same {α : Type} {s : St} (a : α) : Zb (.ok a s) s := z_ok a id
theorem z_bad {α : Type} {s s1 : St} (d : D) : Zb (.bad d s1 : Res α) s := fun b s2 e h0 => by cases e
theorem z_wrong {α : Type} (s : St) : Zb (wrong E s : Res α) s := z_bad _
theorem z_expect  (x : Str) (s : St) : Zb (expect E x s) s := by
  unfold expect
  split
  · exact z_ok _ id
  · exact z_wrong s
theorem z_name  (s : St) : Zb (name E s) s := by
  unfold name
  split
  · exact z_ok _ id
  · exact z_wrong s
theorem z_number  (s : St) : Zb (number E s) s := by
  unfold number
  split
  · exact z_ok _ id
  · exact z_wrong s
theorem z_length  (s : St) : Zb (length E s) s := by
  unfold length
  split
  · exact z_bad _
  · exact z_number s
theorem z_pathGo  : ∀ (k : Nat) (p : Str) (s : St), Zb (pathGo E k p s) s
  | 0, p, s => by rw [pathGo]; exact z_same _
  | k + 1, p, s => by
    rw [pathGo]
    split
    · exact z_of (z_bind (z_name _) (fun a s1 _ => z_pathGo k _ s1)) (z_rest s)
    · exact z_same _
theorem z_path  (s : St) : Zb (path E s) s := by
  unfold path
  exact z_bind (z_name s) (fun a s1 _ => z_pathGo 2 _ s1)
theorem z_numeral  (s : St) : Zb (numeral E s) s := by
  unfold numeral
  exact z_bind (z_number s) (fun a s1 _ => z_same _)
theorem z_pvar  (s : St) : Zb (pvar E s) s := by
  unfold pvar
  exact z_bind (z_path s) (fun a s1 _ => z_same _)
theorem z_run  : ∀ (k : Nat) (p : P) (s : St), Zb (run E k p s) s
  | 0, p, s => by rw [run]; exact z_wrong s
  | k + 1, .expr, s => by
    rw [run]
    split
    · exact z_of (z_bind (z_name _) fun _ _ _ => z_bind (z_expect _ _) fun _ _ _ => z_bind (z_number _) fun _ _ _ => z_bind (z_expect _ _) fun _ _ _ => z_bind (z_run k _ _) fun _ _ _ => z_same _) (z_rest s)
    · exact z_run k _ s
  | k + 1, .cond, s => by
    rw [run]
    refine z_bind (z_run k _ _) fun _ s1 _ => ?_
    split
    · exact z_of (z_bind (z_run k _ _) fun _ _ _ => z_bind (z_expect _ _) fun _ _ _ => z_bind (z_run k _ _) fun _ _ _ => z_same _) (z_rest s1)
    · exact z_same _
  | k + 1, .bin least, s => by
    rw [run]
    exact z_bind (z_run k _ _) fun _ s1 _ => z_run k _ s1
  | k + 1, .loop least most n, s => by
    rw [run]
    try simp only
    split
    · exact z_same _
    · exact z_of (z_bind (z_run k _ _) fun _ _ _ => z_run k _ _) (z_rest s)
  | k + 1, .unary, s => by
    rw [run]
    split
    · exact z_of (z_bind (z_run k _ _) fun _ _ _ => z_same _) (z_rest s)
    · split
      · exact z_of (z_bind (z_expect _ _) fun _ _ _ => z_bind (z_run k _ _) fun _ _ _ => z_bind (z_expect _ _) fun _ _ _ => z_same _) (z_rest s)
      · split
        · exact z_of (z_bind (z_run k _ _) fun _ _ _ => z_bind (z_expect _ _) fun _ _ _ => z_same _) (z_rest s)
        · split
          · exact z_numeral s
          · exact z_run k _ s
  | k + 1, .ref, s => by
    rw [run]
    refine z_bind (z_pvar _) fun _ s1 _ => ?_
    split
    · exact z_of (z_bind (z_run k _ _) fun _ _ _ => z_bind (z_expect _ _) fun _ _ _ => z_same _) (z_rest s1)
    · exact z_same _
theorem z_expr  (s : St) : Zb (expr E s) s := z_run _ _ s
theorem z_refr  (s : St) : Zb (refr E s) s := z_run _ _ s
theorem z_sepGo  {part : St → Res T} (hp : ∀ s, Zb (part s) s) : ∀ (k : Nat) (l : List T) (s : St), Zb (sepGo E part k l s) s
  | 0, l, s => by rw [sepGo]; exact z_same _
  | k + 1, l, s => by
    rw [sepGo]
    split
    · exact z_of (z_bind (hp _) fun _ s1 _ => z_sepGo hp k _ s1) (z_rest s)
    · exact z_same _
theorem z_separated  {part : St → Res T} (hp : ∀ s, Zb (part s) s) (s : St) : Zb (separated E part s) s := by
  unfold separated
  exact z_bind (hp s) fun _ s1 _ => z_sepGo hp _ _ s1
theorem z_tuple  {part : St → Res T} (hp : ∀ s, Zb (part s) s) (s : St) : Zb (tuple E part s) s := by
  unfold tuple
  refine z_bind (z_expect _ _) fun _ s1 _ => ?_
  split
  · exact z_ok _ (id)
  · exact z_bind (z_separated hp _) fun _ _ _ => z_bind (z_expect _ _) fun _ _ _ => z_same _

theorem z_typed  (s : St) : Zb (typed E s) s := by
  unfold typed
  exact z_bind (z_name _) fun _ _ _ => z_bind (z_expect _ _) fun _ _ _ => z_bind (z_number _) fun _ _ _ => z_same _
theorem zs_field  : Zs (field E) := fun s => by
  unfold field
  exact z_bind (z_typed _) fun _ _ _ => z_bind (z_expect _ _) fun _ _ _ => z_same _
theorem z_param  (s : St) : Zb (param E s) s := by
  unfold param
  exact z_bind (z_typed _) fun _ _ _ => z_same _
theorem z_item  {rd : St → Res T} (h : Zs rd) (q : Bool) (s : St) : Z0 s (item rd q s).2 := by
  unfold item
  intro h0
  have h1 := h s
  cases hr : rd s with
  | ok t s1 => exact h1 t s1 hr h0
  | bad d s1 => rfl
theorem z_listGo  {rd : St → Res T} (h : Zs rd) : ∀ (k : Nat) (l : List T) (s : St), Zb (listGo E rd k l s) s
  | 0, l, s => by rw [listGo]; exact z_wrong s
  | k + 1, l, s => by
    rw [listGo]
    split
    · exact z_ok _ id
    · cases hs : s.toks with
      | nil => exact z_wrong s
      | cons t r =>
        simp only
        exact z_of (z_listGo h k _ _) (z_item h true s)
theorem z_unitsGo  {rd : St → Res T} (h : Zs rd) : ∀ (k : Nat) (l : List T) (s : St), Z0 s (unitsGo rd k l s).2
  | 0, l, s => by rw [unitsGo]; exact id
  | k + 1, l, s => by
    rw [unitsGo]
    cases hs : s.toks with
    | nil => exact id
    | cons t r => exact fun h0 => (z_unitsGo h k _ _) (z_item h false s h0)
theorem z_accepted  (x : Str) (s : St) : Z0 s (accepted E x s) := by
  unfold accepted
  split
  · exact id
  · exact id
theorem z_list  {rd : St → Res T} (h : Zs rd) (s : St) : Zb (list E rd s) s := by
  unfold list
  exact z_bind (z_expect _ _) fun _ _ _ => z_listGo h _ _ _
theorem z_block  {rd : St → Res T} (h : Zs rd) (s : St) : Zb (block E rd s) s := by
  unfold block
  exact z_bind (z_list h _) fun _ _ _ => z_same _
theorem z_assign  (l : List T) (s : St) : Zb (assign E l s) s := by
  unfold assign
  exact z_bind (z_refr _) fun _ _ _ => z_bind (z_expect _ _) fun _ _ _ => z_bind (z_expr _) fun _ _ _ => z_same _
theorem z_assignsGo  : ∀ (k : Nat) (l : List T) (s : St), Zb (assignsGo E k l s) s
  | 0, l, s => by rw [assignsGo]; exact z_same _
  | k + 1, l, s => by
    rw [assignsGo]
    split
    · exact z_of (z_bind (z_assign _ _) fun _ _ _ => z_assignsGo k _ _) (z_rest s)
    · exact z_same _
theorem z_assigns  (l : List T) (s : St) : Zb (assigns E l s) s := by
  unfold assigns
  exact z_bind (z_assign _ _) fun _ _ _ => z_assignsGo _ _ _
theorem z_withs  (l : List T) (s : St) : Zb (withs E l s) s := by
  unfold withs
  split
  · exact z_of (z_assigns _ _) (z_rest s)
  · exact z_same _
theorem z_claim  (q : Int) (s : St) : Zb (claim E q s) (rest s) := by
  unfold claim
  exact z_bind (z_expr _) fun _ _ _ => z_bind (z_expect _ _) fun _ _ _ => z_same _
theorem z_bare  (q : Int) (s : St) : Zb (bare E q s) (rest s) := by
  unfold bare
  exact z_bind (z_expect _ _) fun _ _ _ => z_same _
theorem z_named  (q : Int) (m : St → Res Str) (hm : ∀ s, Zb (m s) s) (s : St) : Zb (named E q m s) (rest s) := by
  unfold named
  exact z_bind (hm _) fun _ _ _ => z_bind (z_expect _ _) fun _ _ _ => z_same _
theorem z_call  (s : St) : Zb (call E s) (rest s) := by
  unfold call
  exact z_bind (z_path _) fun _ _ _ => z_bind (z_tuple z_expr _) fun _ _ _ => z_bind (z_expect _ _) fun _ _ _ => z_same _
theorem z_cas  (s : St) : Zb (cas E s) (rest s) := by
  unfold cas
  exact z_bind (z_refr _) fun _ _ _ => z_bind (z_expect _ _) fun _ _ _ => z_bind (z_expr _) fun _ _ _ => z_bind (z_expect _ _) fun _ _ _ => z_bind (z_expr _) fun _ _ _ => z_bind (z_expect _ _) fun _ _ _ =>
    z_bind (z_refr _) fun _ _ _ => z_bind (z_withs _ _) fun _ _ _ => z_bind (z_expect _ _) fun _ _ _ => z_same _
theorem z_atomic  (s : St) : Zb (atomic E s) (rest s) := by
  unfold atomic
  intro t s1 h h0
  obtain ⟨a1, s1, e1, h⟩ := bind_inv h
  obtain ⟨a2, s2, e2, h⟩ := bind_inv h
  obtain ⟨a3, s3, e3, h⟩ := bind_inv h
  obtain ⟨a4, s4, e4, h⟩ := bind_inv h
  obtain ⟨a5, s5, e5, h⟩ := bind_inv h
  cases h
  have h4 : s4.braces = 0 := by
    split at e4
    · obtain ⟨g, s6, e6, e7⟩ := bind_inv e4
      cases e7
      exact z_expr _ _ _ e6 rfl
    · cases e4
      rfl
  exact z_expect _ _ _ _ e5 h4
theorem z_plocal  (s : St) : Zb (plocal E s) s := by
  unfold plocal
  exact z_of (z_bind (z_expect _ _) fun _ _ _ => z_bind (z_typed _) fun _ _ _ => z_bind (z_expect _ _) fun _ _ _ => z_same _) (z_accepted _ s)
theorem z_assignment  (s : St) : Zb (assignment E s) s := by
  unfold assignment
  exact z_of (z_bind (z_assign _ _) fun _ _ _ => z_bind (z_withs _ _) fun _ _ _ => z_bind (z_expect _ _) fun _ _ _ => z_same _) (z_accepted _ s)
theorem z_branch  {rd : St → Res T} (h : Zs rd) (s : St) : Zb (branch E rd s) (rest s) := by
  unfold branch
  refine z_bind (z_expr _) fun _ _ _ => z_bind (z_block h _) fun _ s2 _ => z_bind ?_ fun _ _ _ => z_same _
  split
  · exact z_of (z_block h _) (z_rest s2)
  · exact z_same _
theorem z_loop  {rd : St → Res T} (h : Zs rd) (s : St) : Zb (loop E rd s) (rest s) := by
  unfold loop
  refine z_bind (z_expr _) fun _ s1 _ => z_bind ?_ fun _ _ _ => z_bind (z_block h _) fun _ _ _ => z_same _
  split
  · exact z_of (z_expr _) (z_rest s1)
  · exact z_same _
theorem zs_statement  : ∀ k, Zs (statement E k)
  | 0 => fun s => by rw [statement]; exact z_wrong s
  | k + 1 => fun s => by
    rw [statement]
    by_cases hc : accepts E [97, 115, 115, 101, 114, 116] s = true
    · rw [if_pos hc]; exact z_of (z_claim _ _) id
    rw [if_neg hc]
    clear hc
    by_cases hc : accepts E [97, 119, 97, 105, 116] s = true
    · rw [if_pos hc]; exact z_of (z_claim _ _) id
    rw [if_neg hc]
    clear hc
    by_cases hc : accepts E [102, 101, 110, 99, 101] s = true
    · rw [if_pos hc]; exact z_of (z_bare _ _) id
    rw [if_neg hc]
    clear hc
    by_cases hc : accepts E [115, 107, 105, 112] s = true
    · rw [if_pos hc]; exact z_of (z_bare _ _) id
    rw [if_neg hc]
    clear hc
    by_cases hc : accepts E [97, 116, 111, 109, 105, 99] s = true
    · rw [if_pos hc]; exact z_of (z_atomic _) id
    rw [if_neg hc]
    clear hc
    by_cases hc : accepts E [99, 97, 115] s = true
    · rw [if_pos hc]; exact z_of (z_cas _) id
    rw [if_neg hc]
    clear hc
    by_cases hc : accepts E [97, 99, 113, 117, 105, 114, 101] s = true
    · rw [if_pos hc]; exact z_of (z_named _ _ z_path _) id
    rw [if_neg hc]
    clear hc
    by_cases hc : accepts E [102, 114, 101, 101] s = true
    · rw [if_pos hc]; exact z_of (z_named _ _ z_path _) id
    rw [if_neg hc]
    clear hc
    by_cases hc : accepts E [115, 112, 97, 119, 110] s = true
    · rw [if_pos hc]; exact z_of (z_named _ _ z_name _) id
    rw [if_neg hc]
    clear hc
    by_cases hc : accepts E [106, 111, 105, 110] s = true
    · rw [if_pos hc]; exact z_of (z_named _ _ z_name _) id
    rw [if_neg hc]
    clear hc
    by_cases hc : accepts E [105, 102] s = true
    · rw [if_pos hc]; exact z_of (z_branch (zs_statement k) _) id
    rw [if_neg hc]
    clear hc
    by_cases hc : accepts E [119, 104, 105, 108, 101] s = true
    · rw [if_pos hc]; exact z_of (z_loop (zs_statement k) _) id
    rw [if_neg hc]
    clear hc
    by_cases hc : accepts E [99, 97, 108, 108] s = true
    · rw [if_pos hc]; exact z_of (z_call _) id
    rw [if_neg hc]
    clear hc
    by_cases hc : accepts E [103, 104, 111, 115, 116] s = true ∨ accepts E [108, 111, 99, 97, 108] s = true
    · rw [if_pos hc]; exact z_plocal s
    · rw [if_neg hc]; exact z_assignment s
theorem zs_stmt  : Zs (stmt E) := fun s => zs_statement _ s
theorem z_record  (s : St) : Zb (record E s) (rest s) := by
  unfold record
  exact z_bind (z_name _) fun _ _ _ => z_bind (z_list zs_field _) fun _ _ _ => z_same _
theorem z_lock  (s : St) : Zb (lock E s) (rest s) := by
  unfold lock
  exact z_bind (z_name _) fun _ _ _ => z_bind (z_expect _ _) fun _ _ _ => z_bind (z_expr _) fun _ _ _ => z_bind (z_expect _ _) fun _ _ _ => z_same _
theorem z_frame  (s : St) : Zb (frame E s) (rest s) := by
  unfold frame
  exact z_bind (z_separated z_pvar _) fun _ _ _ => z_bind (z_expect _ _) fun _ _ _ => z_same _
theorem z_proc  (s : St) : Zb (proc E s) (rest s) := by
  unfold proc
  refine z_bind (z_name _) fun _ _ _ => z_bind (z_tuple z_param _) fun _ s2 _ => z_bind ?_ fun _ _ _ => z_bind (z_block zs_stmt _) fun _ _ _ => z_same _
  split
  · exact z_of (z_name _) (z_rest s2)
  · exact z_same _
theorem z_shared_tail  (s1 : St) (g : Bool) (o : Int) : Zb ((name E s1).bind fun x s2 =>
  (if accepts E [91] s2 then (length E (rest s2)).bind fun m s3 => (expect E [93] s3).bind fun _ s4 => .ok m s4 else .ok 0 s2).bind fun len s5 =>
  (expect E [58] s5).bind fun _ s6 =>
  (if kindOf E s6 = 2 then (number E s6).bind fun m s7 => .ok ([], m) s7 else (name E s6).bind fun y s7 => .ok (y, 0) s7).bind fun q s8 =>
  (if accepts E [61] s8 then number E (rest s8) else .ok 0 s8).bind fun i s9 =>
  (expect E [59] s9).bind fun _ s10 => .ok (T.mk 50 x q.1 q.2 len i g [] o) s10) s1 := by
  refine z_bind (z_name _) fun _ s2 _ => z_bind ?_ fun _ _ _ => z_bind (z_expect _ _) fun _ s6 _ => z_bind ?_ fun _ s8 _ => z_bind ?_ fun _ _ _ => z_bind (z_expect _ _) fun _ _ _ => z_same _
  · split
    · exact z_of (z_bind (z_length _) fun _ _ _ => z_bind (z_expect _ _) fun _ _ _ => z_same _) (z_rest s2)
    · exact z_same _
  · split
    · exact z_bind (z_number _) fun _ _ _ => z_same _
    · exact z_bind (z_name _) fun _ _ _ => z_same _
  · split
    · exact z_of (z_number _) (z_rest s8)
    · exact z_same _
theorem z_shared  (s : St) : Zb (shared E s) s := by
  unfold shared
  exact z_of (z_bind (z_expect _ _) fun _ s1 _ => z_shared_tail s1 _ _) (z_accepted _ s)
theorem zs_declaration  : Zs (declaration E) := fun s => by
  unfold declaration
  split
  · rename_i hc; exact z_of (z_record _) id
  split
  · rename_i hc; exact z_of (z_lock _) id
  split
  · rename_i hc; exact z_of (z_claim _ _) id
  split
  · rename_i hc; exact z_of (z_claim _ _) id
  split
  · rename_i hc; exact z_of (z_frame _) id
  split
  · rename_i hc; exact z_of (z_proc _) id
  · exact z_shared s
theorem z_module  (s : St) : Zb (module E s) (rest s) := by
  unfold module
  exact z_bind (z_name _) fun _ _ _ => z_bind (z_expect _ _) fun _ _ _ => z_bind (z_name _) fun _ _ _ => z_bind (z_list zs_declaration _) fun _ _ _ => z_same _
theorem z_thread_tail  (s1 : St) (q o : Int) : Zb ((name E s1).bind fun x s2 => (expect E [61] s2).bind fun _ s3 =>
  (path E s3).bind fun p s4 => (tuple E (numeral E) s4).bind fun l s5 => (expect E [59] s5).bind fun _ s6 => .ok (T.mk 61 x p q 0 0 false l o) s6) s1 :=
  z_bind (z_name _) fun _ _ _ => z_bind (z_expect _ _) fun _ _ _ => z_bind (z_path _) fun _ _ _ => z_bind (z_tuple z_numeral _) fun _ _ _ => z_bind (z_expect _ _) fun _ _ _ => z_same _
theorem zs_unit  : Zs (unit E) := fun s => by
  unfold unit
  split
  · rename_i hc; exact z_of (z_module _) id
  · unfold thread
    exact z_of (z_bind (z_expect _ _) fun _ s1 _ => z_thread_tail s1 _ _) (z_accepted _ s)
end Go.Proofs.YtbgpboiblggmiaaGreatDoor.Px
