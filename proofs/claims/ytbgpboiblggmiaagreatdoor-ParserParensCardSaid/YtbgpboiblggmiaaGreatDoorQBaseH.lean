/-
  Merged texts of the base: Vaa Vab Vba Vbb Vbc Vbd Vbe Vbf Vbg Vbh Vbi Vbj.
-/
import Derived.Test.YtbgpboiblggmiaaGreatDoorQBaseF
import Derived.Test.YtbgpboiblggmiaaGreatDoorQBaseA
import Derived.Lib.SplitLaws
import Derived.WalkSpells
import Derived.Deep.RegionLaw

set_option linter.unusedVariables false
set_option linter.unusedSimpArgs false
/-
  What a node's texts are: isLetter, isDigit, isUpTo, isName, isPath, fits of a label.
-/
namespace Go.Proofs.YtbgpboiblggmiaaGreatDoor
open Go.RowKit
open Px (St T D Res)

set_option maxRecDepth 100000 in
set_option maxHeartbeats 1000000 in
theorem isLetter_any (c : UInt8) (w : World) : Calls Tryz.prog 140 #[.int .u8 c.toNat] w fun e w' => e = .returned (.bool (Lx.letterU c)) ∧ w' = w := by
  obtain ⟨x, hx⟩ : ∃ x : Int, x = (c.toNat : Int) := ⟨_, rfl⟩
  unfold Lx.letterU Lx.letter
  rw [← hx]
  clear hx
  go_enter Tryz.func140, Tryz.ntmps140
  go_wp2_with fail
  all_goals (go_ret; exact ⟨ret_bool (by first | rfl | (rw [Bool.eq_iff_iff]; simp; omega) | (simp; omega)), rfl⟩)

set_option maxRecDepth 100000 in
set_option maxHeartbeats 1000000 in
theorem isDigit_any (c : UInt8) (w : World) : Calls Tryz.prog 141 #[.int .u8 c.toNat] w fun e w' => e = .returned (.bool (Lx.digitU c)) ∧ w' = w := by
  obtain ⟨x, hx⟩ : ∃ x : Int, x = (c.toNat : Int) := ⟨_, rfl⟩
  unfold Lx.digitU Lx.digit
  rw [← hx]
  clear hx
  go_enter Tryz.func141, Tryz.ntmps141
  go_wp2_with fail
  all_goals (go_ret; exact ⟨ret_bool (by first | rfl | (rw [Bool.eq_iff_iff]; simp; omega) | (simp; omega)), rfl⟩)

set_option maxRecDepth 100000 in
set_option maxHeartbeats 1000000 in
theorem isUpTo_yes (n m : Int) (w : World) (h0 : 0 ≤ n) (h1 : n ≤ m) : Calls Tryz.prog 97 #[.int .i64 n, .int .i64 m] w fun e w' => e = .returned (.bool true) ∧ w' = w := by
  have h0' : decide (0 ≤ n) = true := by simp; omega
  have h1' : decide (n ≤ m) = true := by simp; omega
  go_enter Tryz.func97, Tryz.ntmps97
  go_wp2_with fail
  all_goals (go_ret; exact ⟨rfl, rfl⟩)

/-- a name that is no key word -/
structure NameOk (s : Px.Str) : Prop where
  len : 1 ≤ s.length ∧ s.length ≤ 16
  first : ∀ c r, s = c :: r → Lx.letterU c = true
  word : ∀ c ∈ s, Lx.wordU c = true
  key : Px.isKey s = false

/-- the map of the key words lies at block m -/
def KeysIn (w : World) (m : Nat) : Prop := ∃ es k, w.heap[m]? = some (.map es k) ∧ ∀ (W : World) (s : ByteArray), W.heap[m]? = some (.map es k) → (Instr.lookup 64 (.map (some m)) (.string s) false).run Tryz.prog W = .ok (.bool (Px.isKey s.data.toList)) W
theorem KeysIn.below {N : Nat} {w w' : World} {m : Nat} (h : KeysIn w m) (hb : Below N w w') (hm : m < N) : KeysIn w' m := by
  obtain ⟨es, k, h1, h2⟩ := h
  exact ⟨es, k, by rw [hb.block m hm]; exact h1, h2⟩
theorem KeysIn.look {w : World} {m : Nat} (h : KeysIn w m) (s : ByteArray) : (Instr.lookup 64 (.map (some m)) (.string s) false).run Tryz.prog w = .ok (.bool (Px.isKey s.data.toList)) w := by
  obtain ⟨es, k, h1, h2⟩ := h
  exact h2 w s h1
theorem KeysMade.keysIn {w w' : World} {b : Nat} (h : KeysMade w b Px.keys w') : KeysIn w' b := ⟨_, _, h.map, fun _ s hW => look_keys hW s⟩

set_option maxRecDepth 100000 in
set_option maxHeartbeats 1000000 in
theorem isName_yes (x : Px.Str) (m : Nat) (w : World) (h : NameOk x) (hk : KeysIn w m) : Calls Tryz.prog 123 #[.string ⟨x.toArray⟩, .map (some m)] w fun e w' => e = .returned (.bool true) ∧ w' = w := by
  have hlook := hk.look ⟨x.toArray⟩
  rw [show (⟨x.toArray⟩ : ByteArray).data.toList = x from rfl, h.key] at hlook
  have h0 : 0 < x.length := by have := h.len; omega
  have h16 : decide (16 < (x.length : Int)) = false := by have := h.len; simp; omega
  have hx : ¬ x = [] := by rintro rfl; simp at h0
  have hrun : ∀ W, (Instr.index 9 (.string ⟨x.toArray⟩) (.int .i64 0)).run Tryz.prog W = .ok (.int .u8 ((x[0]'h0).toNat : Int)) W := idx_str ⟨x.toArray⟩ 0 0 rfl h0
  have hfirst : Lx.letterU (x[0]'h0) = true := by
    cases x with
    | nil => simp at h0
    | cons c r => exact h.first c r rfl
  have hemp : List.isEmpty x = false := by cases x with
    | nil => simp at h0
    | cons c r => rfl
  have Hw := Lib.hid h.word
  have hmax : x.length ≤ 16 := h.len.2
  clear h hx
  go_enter Tryz.func123, Tryz.ntmps123
  go_wp2_with fail
  refine (isLetter_any (x[0]'h0) w).mono ?_
  rw [hfirst]
  rintro e w1 ⟨rfl, rfl⟩
  go_wp2_with fail
  go_loopw [27] (fun i wr => ∃ k : Nat, k ≤ x.length ∧ i = .int .i64 k ∧ wr = w1) (fun i _ => x.length - (intOf i).toNat)
  case atStart => exact ⟨0, by omega, rfl, rfl⟩
  case round =>
    obtain ⟨k, hk', rfl, rfl⟩ := hrel
    by_cases hlt : k < x.length
    · have hrunk : ∀ W, (Instr.index 9 (.string ⟨x.toArray⟩) (.int .i64 (k : Int))).run Tryz.prog W = .ok (.int .u8 ((x[k]'hlt).toNat : Int)) W := idx_str ⟨x.toArray⟩ _ k rfl hlt
      obtain ⟨c, hc⟩ : ∃ c, c = x[k]'hlt := ⟨_, rfl⟩
      have hwd : Lx.wordU c = true := Hw.out c (by rw [hc]; exact List.getElem_mem hlt)
      rw [← hc] at hrunk
      clear hc
      go_wp2_with fail
      refine (isLetter_any c wr).mono ?_
      rintro e w2 ⟨rfl, rfl⟩
      cases hlc : Lx.letterU c with
      | true =>
        go_wp2_with fail
        go_roundw
        case rel => exact ⟨k + 1, by omega, by go_num, by first | trivial | rfl⟩
        case measure => simp [intOf]; omega
      | false =>
        go_wp2_with fail
        refine (isDigit_any c w2).mono ?_
        rintro e w3 ⟨rfl, rfl⟩
        cases hdc : Lx.digitU c with
        | true =>
          go_wp2_with fail
          go_roundw
          case rel => exact ⟨k + 1, by omega, by go_num, by first | trivial | rfl⟩
          case measure => simp [intOf]; omega
        | false =>
          have h95 : ((c.toNat : Int) != 95) = false := by
            unfold Lx.wordU Lx.word at hwd
            unfold Lx.letterU at hlc
            unfold Lx.digitU at hdc
            rw [hlc, hdc] at hwd
            simpa using hwd
          go_wp2_with fail
          go_roundw
          case rel => exact ⟨k + 1, by omega, by go_num, by first | trivial | rfl⟩
          case measure => simp [intOf]; omega
    · go_wp2_with fail
      go_ret
      exact ⟨rfl, rfl⟩
end Go.Proofs.YtbgpboiblggmiaaGreatDoor

/-
  A path's names; a label's text.
-/
namespace Go.Proofs.YtbgpboiblggmiaaGreatDoor
open Go.RowKit
open Px (St T D Res)

/-- the parts of a text between points -/
def dots (s : Px.Str) : List ByteArray := Lib.splitB ⟨#[46]⟩ 0 (Lib.countB ⟨s.toArray⟩ ⟨#[46]⟩) ⟨s.toArray⟩
structure PathOk (s : Px.Str) : Prop where
  len : s.length ≤ 4000
  few : s.count 46 < 3
  short : (dots s).length ≤ 3
  parts : ∀ p ∈ dots s, NameOk p.data.toList

/-- bytealg.MaxLen holds some number -/
def MaxAt (w : World) : Prop := ∃ m : Int, w.cell? ⟨1, 0, none⟩ = some (.int .i64 m)
theorem MaxAt.lt {w : World} (h : MaxAt w) : 1 < w.heap.size := by
  obtain ⟨m, h⟩ := h
  rcases Nat.lt_or_ge 1 w.heap.size with h0 | h0
  · exact h0
  · have h2 : w.heap[1]? = none := Array.getElem?_eq_none (by omega)
    simp [World.cell?, h2] at h
theorem MaxAt.below {N : Nat} {w w' : World} (h : MaxAt w) (hb : Below N w w') (hN : 1 < N) : MaxAt w' := by
  obtain ⟨m, h⟩ := h
  exact ⟨m, (hb.cell (p := ⟨1, 0, none⟩) hN).trans h⟩
theorem MaxAt.alloc {w : World} (h : MaxAt w) (o : Obj) : MaxAt (w.alloc o) := h.below ((Below.refl w.heap.size w).alloc (Nat.le_refl _) o) h.lt

set_option maxRecDepth 100000 in
set_option maxHeartbeats 1000000 in
theorem isPath_yes (x : Px.Str) (m : Nat) (w : World) (h : PathOk x) (hk : KeysIn w m) (hM : MaxAt w) : Calls Tryz.prog 124 #[.string ⟨x.toArray⟩, .map (some m)] w fun e w' => e = .returned (.bool true) ∧ Below w.heap.size w w' := by
  have hfew : decide (3 ≤ ((Lib.countByte x 46 : Nat) : Int)) = false := by have := h.few; unfold Lib.countByte; simp; omega
  obtain ⟨q, hq⟩ := hM
  have hlen : (dots x).length = Lib.countB ⟨x.toArray⟩ ⟨#[46]⟩ + 1 := Lib.splitB_all _ (by decide) 0 _ _ rfl
  have hmw : m < w.heap.size := by obtain ⟨es, k, h1, _⟩ := hk; exact lt_heap h1
  have Hk := Lib.hid hk
  have Hp := Lib.hid h.parts
  have hxl : (⟨x.toArray⟩ : ByteArray).size < 4294967281 := by have := h.len; show x.length < _; omega
  go_enter Tryz.func124, Tryz.ntmps124
  go_wp2_with fail
  refine (Tryz.strings_Count_one ⟨x.toArray⟩ 46 w).mono ?_
  rintro e w1 ⟨rfl, rfl⟩
  go_wp2_with fail
  refine (Tryz.strings_Split ⟨x.toArray⟩ ⟨#[46]⟩ q w1 hxl hq (by decide)).mono ?_
  rintro e w2 ⟨rfl, hw2⟩
  obtain ⟨n, hn⟩ : ∃ n, n = (dots x).length := ⟨_, rfl⟩
  rw [← hlen, ← hn]
  have hw2' : w2 = w1.alloc (.cells ((dots x).map Value.string).toArray 9) := hw2
  have hbw : Below w1.heap.size w1 w2 := by rw [hw2']; exact (Below.refl _ _).alloc (Nat.le_refl _) _
  have hnl : n ≤ 3 := by rw [hn]; exact h.short
  have Hcell := Lib.hid (show ∀ k p, (dots x)[k]? = some p → w2.cell? ⟨w1.heap.size, k, none⟩ = some (.string p) by
    intro k p hp
    rw [hw2', cell_of_obj (obj_new _ _)]
    simp [hp])
  have Hn := Lib.hid hn
  clear hw2 hw2' hq hfew hlen hn h
  go_wp2_with fail
  go_loopw [13] (fun i wr => ∃ k : Nat, k ≤ n ∧ i = .int .i64 k ∧ wr = w2) (fun i _ => n - (intOf i).toNat)
  case atStart => exact ⟨0, by omega, rfl, rfl⟩
  case round =>
    obtain ⟨k, hk', rfl, rfl⟩ := hrel
    by_cases hlt : k < n
    · obtain ⟨p, hp⟩ : ∃ p, (dots x)[k]? = some p := ⟨_, List.getElem?_eq_getElem (by rw [← Hn.out]; exact hlt)⟩
      have hcell := Hcell.out k p hp
      have hok := Hp.out p (List.mem_of_getElem? hp)
      have hk0 : (0 : Int) ≤ (k : Int) := Int.natCast_nonneg _
      have hk1 : (k : Int) < (n : Int) := by omega
      clear hp
      go_wp2_with fail
      refine (isName_yes p.data.toList m wr hok (Hk.out.below hbw hmw)).mono ?_
      rintro e w3 ⟨rfl, rfl⟩
      go_wp2_with fail
      go_roundw
      case rel => exact ⟨k + 1, by omega, by go_num, by first | trivial | rfl⟩
      case measure => simp [intOf]; omega
    · go_wp2_with fail
      refine bodyPost_ret (v := .bool true) ?_ rfl ⟨rfl, hbw⟩
      simp [results, Tryz.results124, go_sem]

/-- a text that a label wants -/
def LabelOk (k : Int) (s : Px.Str) : Prop := (k = 0 ∧ s = []) ∨ (k = 1 ∧ NameOk s) ∨ (k = 2 ∧ PathOk s) ∨ (k = 3 ∧ 0 < Px.level s)

set_option maxRecDepth 100000 in
set_option maxHeartbeats 1000000 in
theorem label_yes (k : Int) (x : Px.Str) (m : Nat) (w : World) (h : LabelOk k x) (hk : KeysIn w m) (hM : MaxAt w) : Calls Tryz.prog 96 #[.int .i64 k, .string ⟨x.toArray⟩, .map (some m)] w fun e w' => e = .returned (.bool true) ∧ Below w.heap.size w w' := by
  rcases h with ⟨rfl, rfl⟩ | ⟨rfl, h⟩ | ⟨rfl, h⟩ | ⟨rfl, h⟩
  · go_enter Tryz.func96, Tryz.ntmps96
    go_wp2_with fail
    go_ret
    exact ⟨rfl, Below.refl _ _⟩
  · go_enter Tryz.func96, Tryz.ntmps96
    go_wp2_with fail
    refine (isName_yes x m w h hk).mono ?_
    rintro e w1 ⟨rfl, rfl⟩
    go_wp2_with fail
    go_ret
    exact ⟨rfl, Below.refl _ _⟩
  · go_enter Tryz.func96, Tryz.ntmps96
    go_wp2_with fail
    refine (isPath_yes x m w h hk hM).mono ?_
    rintro e w1 ⟨rfl, hb⟩
    go_wp2_with fail
    go_ret
    exact ⟨rfl, hb⟩
  · go_enter Tryz.func96, Tryz.ntmps96
    go_wp2_with fail
    refine (level_any x w).mono ?_
    rintro e w1 ⟨rfl, rfl⟩
    have hl : decide (0 < Px.level x) = true := by simpa using h
    go_wp2_with fail
    go_ret
    exact ⟨rfl, Below.refl _ _⟩
end Go.Proofs.YtbgpboiblggmiaaGreatDoor

/-
  The rows of nodes: what fields and kids a node may have.
-/
namespace Go.Proofs.YtbgpboiblggmiaaGreatDoor
open Go.RowKit
open Px (St T D Res)

/-- a row: labels, greatest numbers, and the numbers of the functions that the kids obey -/
structure Rw where
  name : Int := 0
  other : Int := 0
  number : Int := 0
  len : Int := 0
  init : Int := 0
  ghost : Bool := false
  kids : List FuncId := []
  more : List FuncId := []
  last : List FuncId := []

/-- a function as a value -/
def fnV (f : FuncId) : Value := .func (Fn.func f) #[] #[]
/-- functions in a slice, below block N -/
def FnsAt (N : Nat) (w : World) (a : Option Addr) (cap : Nat) (l : List FuncId) : Prop :=
  (l = [] ∧ a = none ∧ cap = 0) ∨ ∃ b, a = some ⟨b, 0, none⟩ ∧ cap = l.length ∧ l.length ≤ 8 ∧ b < N ∧ Var 103 w b (l.map fnV).toArray
/-- a row as a value -/
def RowIs (N : Nat) (w : World) (r : Rw) (v : Value) : Prop :=
  ∃ ka kc ma mc la lc, v = .agg #[.int .i64 r.name, .int .i64 r.other, .int .i64 r.number, .int .i64 r.len, .int .i64 r.init, .bool r.ghost, .slice ka r.kids.length kc, .slice ma r.more.length mc, .slice la r.last.length lc] ∧
    FnsAt N w ka kc r.kids ∧ FnsAt N w ma mc r.more ∧ FnsAt N w la lc r.last
def RowSaid (r : Rw) (w : World) (e : Ending) (w' : World) : Prop := Below w.heap.size w w' ∧ ∃ v, e = .returned v ∧ RowIs w'.heap.size w' r v

theorem infoR : (Tryz.prog.info? 85).map (·.size) = some 9 := by kernel_rfl
/-- a function's result in a variable that is a row -/
theorem ret_row {fn : Func} {p : Tmp} (h : fn.results = #[.cell p 85]) {a : Act} {w : World} {g : Nat} {cs : Array Value} {R : Ending → World → Prop} (hp : a.tmps.getD p undef = .pointer (some ⟨g, 0, none⟩))
    (hv : Var 85 w g cs) (h9 : cs.size = 9) (hd : a.defers = []) (hR : R (.returned (.agg cs)) w) : bodyPost Tryz.prog fn R .ret a w :=
  bodyPost_ret (results_cell_row h _ w g _ cs (0, 0) _ hp hv Tryz.underlying85 rfl (by rw [infoR, h9])) hd hR

/-- the row of an expression -/
def rowE (t : T) : Rw :=
  if t.kind = 1 then { number := 999999999 }
  else if t.kind = 2 then (if t.kids = [] then { name := 2 } else { name := 2, kids := [38] })
  else if t.kind = 3 then { kids := [117] }
  else if t.kind = 4 then { kids := [38] }
  else if t.kind = 5 then { name := 3, kids := [38, 38] }
  else if t.kind = 6 then { kids := [38, 38, 38] }
  else { name := 1, number := 999999999, kids := [38] }

set_option maxRecDepth 100000 in
set_option maxHeartbeats 4000000 in
theorem exprRow_any (t : T) (a : Option Addr) (cap : Nat) (w : World) (h : 1 ≤ t.kind ∧ t.kind ≤ 8) : Calls Tryz.prog 89 #[nodeVal t (.slice a t.kids.length cap)] w (RowSaid (rowE t) w) := by
  have hcase : t.kind = 1 ∨ (t.kind = 2 ∧ t.kids.length = 0) ∨ (t.kind = 2 ∧ t.kids.length ≠ 0) ∨ t.kind = 3 ∨ t.kind = 4 ∨ t.kind = 5 ∨ t.kind = 6 ∨ t.kind = 7 ∨ t.kind = 8 := by omega
  obtain ⟨R, hR⟩ : ∃ R, R = rowE t := ⟨_, rfl⟩
  rw [← hR]
  unfold rowE at hR
  unfold nodeVal
  rcases hcase with hk | ⟨hk, hz⟩ | ⟨hk, hz⟩ | hk | hk | hk | hk | hk | hk
  · rw [hk] at hR ⊢
    simp at hR
    subst hR
    go_enter Tryz.func89, Tryz.ntmps89
    go_wp2_with fail
    refine ret_row (by rfl) (by rfl) (by (first | exact Var.new' (by simp <;> omega) | exact Var.alloc (Var.new' (by simp <;> omega)) _ | exact Var.alloc (Var.alloc (Var.new' (by simp <;> omega)) _) _ | exact Var.alloc (Var.alloc (Var.alloc (Var.new' (by simp <;> omega)) _) _) _ | exact Var.alloc (Var.alloc (Var.alloc (Var.alloc (Var.new' (by simp <;> omega)) _) _) _) _)) (by rfl) (by rfl) ?_
    refine ⟨(by (repeat (first | exact Below.refl _ _ | refine Below.alloc ?_ (by simp <;> omega) _))), _, rfl, _, _, _, _, _, _, rfl, ?_, ?_, ?_⟩
    all_goals (first | exact .inl ⟨rfl, rfl, rfl⟩ | (refine .inr ⟨_, rfl, rfl, (by decide), ?_, ?_⟩; (focus (simp <;> omega)); (first | (refine Var.new' ?_; (focus (simp <;> omega))) | (refine Var.alloc (Var.new' ?_) _; (focus (simp <;> omega))) | (refine Var.alloc (Var.alloc (Var.new' ?_) _) _; (focus (simp <;> omega))) | (refine Var.alloc (Var.alloc (Var.alloc (Var.new' ?_) _) _) _; (focus (simp <;> omega))))))
  · have hz' : t.kids = [] := List.length_eq_zero_iff.1 hz
    rw [hz'] at hR ⊢
    clear hz
    rw [hk] at hR ⊢
    simp at hR
    subst hR
    go_enter Tryz.func89, Tryz.ntmps89
    go_wp2_with fail
    refine ret_row (by rfl) (by rfl) (by (first | exact Var.new' (by simp <;> omega) | exact Var.alloc (Var.new' (by simp <;> omega)) _ | exact Var.alloc (Var.alloc (Var.new' (by simp <;> omega)) _) _ | exact Var.alloc (Var.alloc (Var.alloc (Var.new' (by simp <;> omega)) _) _) _ | exact Var.alloc (Var.alloc (Var.alloc (Var.alloc (Var.new' (by simp <;> omega)) _) _) _) _)) (by rfl) (by rfl) ?_
    refine ⟨(by (repeat (first | exact Below.refl _ _ | refine Below.alloc ?_ (by simp <;> omega) _))), _, rfl, _, _, _, _, _, _, rfl, ?_, ?_, ?_⟩
    all_goals (first | exact .inl ⟨rfl, rfl, rfl⟩ | (refine .inr ⟨_, rfl, rfl, (by decide), ?_, ?_⟩; (focus (simp <;> omega)); (first | (refine Var.new' ?_; (focus (simp <;> omega))) | (refine Var.alloc (Var.new' ?_) _; (focus (simp <;> omega))) | (refine Var.alloc (Var.alloc (Var.new' ?_) _) _; (focus (simp <;> omega))) | (refine Var.alloc (Var.alloc (Var.alloc (Var.new' ?_) _) _) _; (focus (simp <;> omega))))))
  · have hz' : ¬ t.kids = [] := fun e => hz (by rw [e]; rfl)
    have hz2 : ((t.kids.length : Int) == 0) = false := by simp; omega
    rw [if_neg hz'] at hR
    clear hz hz'
    rw [hk] at hR ⊢
    simp at hR
    subst hR
    go_enter Tryz.func89, Tryz.ntmps89
    go_wp2_with fail
    refine ret_row (by rfl) (by rfl) (by (first | exact Var.new' (by simp <;> omega) | exact Var.alloc (Var.new' (by simp <;> omega)) _ | exact Var.alloc (Var.alloc (Var.new' (by simp <;> omega)) _) _ | exact Var.alloc (Var.alloc (Var.alloc (Var.new' (by simp <;> omega)) _) _) _ | exact Var.alloc (Var.alloc (Var.alloc (Var.alloc (Var.new' (by simp <;> omega)) _) _) _) _)) (by rfl) (by rfl) ?_
    refine ⟨(by (repeat (first | exact Below.refl _ _ | refine Below.alloc ?_ (by simp <;> omega) _))), _, rfl, _, _, _, _, _, _, rfl, ?_, ?_, ?_⟩
    all_goals (first | exact .inl ⟨rfl, rfl, rfl⟩ | (refine .inr ⟨_, rfl, rfl, (by decide), ?_, ?_⟩; (focus (simp <;> omega)); (first | (refine Var.new' ?_; (focus (simp <;> omega))) | (refine Var.alloc (Var.new' ?_) _; (focus (simp <;> omega))) | (refine Var.alloc (Var.alloc (Var.new' ?_) _) _; (focus (simp <;> omega))) | (refine Var.alloc (Var.alloc (Var.alloc (Var.new' ?_) _) _) _; (focus (simp <;> omega))))))
  · rw [hk] at hR ⊢
    simp at hR
    subst hR
    go_enter Tryz.func89, Tryz.ntmps89
    go_wp2_with fail
    refine ret_row (by rfl) (by rfl) (by (first | exact Var.new' (by simp <;> omega) | exact Var.alloc (Var.new' (by simp <;> omega)) _ | exact Var.alloc (Var.alloc (Var.new' (by simp <;> omega)) _) _ | exact Var.alloc (Var.alloc (Var.alloc (Var.new' (by simp <;> omega)) _) _) _ | exact Var.alloc (Var.alloc (Var.alloc (Var.alloc (Var.new' (by simp <;> omega)) _) _) _) _)) (by rfl) (by rfl) ?_
    refine ⟨(by (repeat (first | exact Below.refl _ _ | refine Below.alloc ?_ (by simp <;> omega) _))), _, rfl, _, _, _, _, _, _, rfl, ?_, ?_, ?_⟩
    all_goals (first | exact .inl ⟨rfl, rfl, rfl⟩ | (refine .inr ⟨_, rfl, rfl, (by decide), ?_, ?_⟩; (focus (simp <;> omega)); (first | (refine Var.new' ?_; (focus (simp <;> omega))) | (refine Var.alloc (Var.new' ?_) _; (focus (simp <;> omega))) | (refine Var.alloc (Var.alloc (Var.new' ?_) _) _; (focus (simp <;> omega))) | (refine Var.alloc (Var.alloc (Var.alloc (Var.new' ?_) _) _) _; (focus (simp <;> omega))))))
  · rw [hk] at hR ⊢
    simp at hR
    subst hR
    go_enter Tryz.func89, Tryz.ntmps89
    go_wp2_with fail
    refine ret_row (by rfl) (by rfl) (by (first | exact Var.new' (by simp <;> omega) | exact Var.alloc (Var.new' (by simp <;> omega)) _ | exact Var.alloc (Var.alloc (Var.new' (by simp <;> omega)) _) _ | exact Var.alloc (Var.alloc (Var.alloc (Var.new' (by simp <;> omega)) _) _) _ | exact Var.alloc (Var.alloc (Var.alloc (Var.alloc (Var.new' (by simp <;> omega)) _) _) _) _)) (by rfl) (by rfl) ?_
    refine ⟨(by (repeat (first | exact Below.refl _ _ | refine Below.alloc ?_ (by simp <;> omega) _))), _, rfl, _, _, _, _, _, _, rfl, ?_, ?_, ?_⟩
    all_goals (first | exact .inl ⟨rfl, rfl, rfl⟩ | (refine .inr ⟨_, rfl, rfl, (by decide), ?_, ?_⟩; (focus (simp <;> omega)); (first | (refine Var.new' ?_; (focus (simp <;> omega))) | (refine Var.alloc (Var.new' ?_) _; (focus (simp <;> omega))) | (refine Var.alloc (Var.alloc (Var.new' ?_) _) _; (focus (simp <;> omega))) | (refine Var.alloc (Var.alloc (Var.alloc (Var.new' ?_) _) _) _; (focus (simp <;> omega))))))
  · rw [hk] at hR ⊢
    simp at hR
    subst hR
    go_enter Tryz.func89, Tryz.ntmps89
    go_wp2_with fail
    refine ret_row (by rfl) (by rfl) (by (first | exact Var.new' (by simp <;> omega) | exact Var.alloc (Var.new' (by simp <;> omega)) _ | exact Var.alloc (Var.alloc (Var.new' (by simp <;> omega)) _) _ | exact Var.alloc (Var.alloc (Var.alloc (Var.new' (by simp <;> omega)) _) _) _ | exact Var.alloc (Var.alloc (Var.alloc (Var.alloc (Var.new' (by simp <;> omega)) _) _) _) _)) (by rfl) (by rfl) ?_
    refine ⟨(by (repeat (first | exact Below.refl _ _ | refine Below.alloc ?_ (by simp <;> omega) _))), _, rfl, _, _, _, _, _, _, rfl, ?_, ?_, ?_⟩
    all_goals (first | exact .inl ⟨rfl, rfl, rfl⟩ | (refine .inr ⟨_, rfl, rfl, (by decide), ?_, ?_⟩; (focus (simp <;> omega)); (first | (refine Var.new' ?_; (focus (simp <;> omega))) | (refine Var.alloc (Var.new' ?_) _; (focus (simp <;> omega))) | (refine Var.alloc (Var.alloc (Var.new' ?_) _) _; (focus (simp <;> omega))) | (refine Var.alloc (Var.alloc (Var.alloc (Var.new' ?_) _) _) _; (focus (simp <;> omega))))))
  · rw [hk] at hR ⊢
    simp at hR
    subst hR
    go_enter Tryz.func89, Tryz.ntmps89
    go_wp2_with fail
    refine ret_row (by rfl) (by rfl) (by (first | exact Var.new' (by simp <;> omega) | exact Var.alloc (Var.new' (by simp <;> omega)) _ | exact Var.alloc (Var.alloc (Var.new' (by simp <;> omega)) _) _ | exact Var.alloc (Var.alloc (Var.alloc (Var.new' (by simp <;> omega)) _) _) _ | exact Var.alloc (Var.alloc (Var.alloc (Var.alloc (Var.new' (by simp <;> omega)) _) _) _) _)) (by rfl) (by rfl) ?_
    refine ⟨(by (repeat (first | exact Below.refl _ _ | refine Below.alloc ?_ (by simp <;> omega) _))), _, rfl, _, _, _, _, _, _, rfl, ?_, ?_, ?_⟩
    all_goals (first | exact .inl ⟨rfl, rfl, rfl⟩ | (refine .inr ⟨_, rfl, rfl, (by decide), ?_, ?_⟩; (focus (simp <;> omega)); (first | (refine Var.new' ?_; (focus (simp <;> omega))) | (refine Var.alloc (Var.new' ?_) _; (focus (simp <;> omega))) | (refine Var.alloc (Var.alloc (Var.new' ?_) _) _; (focus (simp <;> omega))) | (refine Var.alloc (Var.alloc (Var.alloc (Var.new' ?_) _) _) _; (focus (simp <;> omega))))))
  · rw [hk] at hR ⊢
    simp at hR
    subst hR
    go_enter Tryz.func89, Tryz.ntmps89
    go_wp2_with fail
    refine ret_row (by rfl) (by rfl) (by (first | exact Var.new' (by simp <;> omega) | exact Var.alloc (Var.new' (by simp <;> omega)) _ | exact Var.alloc (Var.alloc (Var.new' (by simp <;> omega)) _) _ | exact Var.alloc (Var.alloc (Var.alloc (Var.new' (by simp <;> omega)) _) _) _ | exact Var.alloc (Var.alloc (Var.alloc (Var.alloc (Var.new' (by simp <;> omega)) _) _) _) _)) (by rfl) (by rfl) ?_
    refine ⟨(by (repeat (first | exact Below.refl _ _ | refine Below.alloc ?_ (by simp <;> omega) _))), _, rfl, _, _, _, _, _, _, rfl, ?_, ?_, ?_⟩
    all_goals (first | exact .inl ⟨rfl, rfl, rfl⟩ | (refine .inr ⟨_, rfl, rfl, (by decide), ?_, ?_⟩; (focus (simp <;> omega)); (first | (refine Var.new' ?_; (focus (simp <;> omega))) | (refine Var.alloc (Var.new' ?_) _; (focus (simp <;> omega))) | (refine Var.alloc (Var.alloc (Var.new' ?_) _) _; (focus (simp <;> omega))) | (refine Var.alloc (Var.alloc (Var.alloc (Var.new' ?_) _) _) _; (focus (simp <;> omega))))))
  · rw [hk] at hR ⊢
    simp at hR
    subst hR
    go_enter Tryz.func89, Tryz.ntmps89
    go_wp2_with fail
    refine ret_row (by rfl) (by rfl) (by (first | exact Var.new' (by simp <;> omega) | exact Var.alloc (Var.new' (by simp <;> omega)) _ | exact Var.alloc (Var.alloc (Var.new' (by simp <;> omega)) _) _ | exact Var.alloc (Var.alloc (Var.alloc (Var.new' (by simp <;> omega)) _) _) _ | exact Var.alloc (Var.alloc (Var.alloc (Var.alloc (Var.new' (by simp <;> omega)) _) _) _) _)) (by rfl) (by rfl) ?_
    refine ⟨(by (repeat (first | exact Below.refl _ _ | refine Below.alloc ?_ (by simp <;> omega) _))), _, rfl, _, _, _, _, _, _, rfl, ?_, ?_, ?_⟩
    all_goals (first | exact .inl ⟨rfl, rfl, rfl⟩ | (refine .inr ⟨_, rfl, rfl, (by decide), ?_, ?_⟩; (focus (simp <;> omega)); (first | (refine Var.new' ?_; (focus (simp <;> omega))) | (refine Var.alloc (Var.new' ?_) _; (focus (simp <;> omega))) | (refine Var.alloc (Var.alloc (Var.new' ?_) _) _; (focus (simp <;> omega))) | (refine Var.alloc (Var.alloc (Var.alloc (Var.new' ?_) _) _) _; (focus (simp <;> omega))))))
end Go.Proofs.YtbgpboiblggmiaaGreatDoor

/-
  The properties of kids: of what kind a node is.
-/
namespace Go.Proofs.YtbgpboiblggmiaaGreatDoor
open Go.RowKit
open Px (St T D Res)

namespace Pr
def isExpr (t : T) : Bool := decide (1 ≤ t.kind) && decide (t.kind ≤ 8)
def isUnit (t : T) : Bool := t.kind == 60 || t.kind == 61
def isRef (t : T) : Bool := t.kind == 2
def isBlock (t : T) : Bool := t.kind == 34
def isField (t : T) : Bool := t.kind == 52
def isStatement (t : T) : Bool := decide (20 ≤ t.kind) && decide (t.kind ≤ 35) && !(t.kind == 34)
def isDeclaration (t : T) : Bool := decide (50 ≤ t.kind) && decide (t.kind ≤ 57) && !(t.kind == 52)
end Pr

set_option maxRecDepth 100000 in
set_option maxHeartbeats 1000000 in
theorem isExpr_any (t : T) (a : Option Addr) (cap : Nat) (w : World) : Calls Tryz.prog 38 #[nodeVal t (.slice a t.kids.length cap)] w fun e w' => e = .returned (.bool (Pr.isExpr t)) ∧ Below w.heap.size w w' := by
  unfold nodeVal Pr.isExpr
  go_enter Tryz.func38, Tryz.ntmps38
  go_wp2_with fail
  all_goals (go_ret; exact ⟨ret_bool (by first | rfl | (rw [Bool.eq_iff_iff]; simp; omega) | (simp; omega) | simp_all), (by (repeat (first | exact Below.refl _ _ | refine Below.alloc ?_ (by simp <;> omega) _)))⟩)

set_option maxRecDepth 100000 in
set_option maxHeartbeats 1000000 in
theorem isUnit_any (t : T) (a : Option Addr) (cap : Nat) (w : World) : Calls Tryz.prog 95 #[nodeVal t (.slice a t.kids.length cap)] w fun e w' => e = .returned (.bool (Pr.isUnit t)) ∧ Below w.heap.size w w' := by
  unfold nodeVal Pr.isUnit
  go_enter Tryz.func95, Tryz.ntmps95
  go_wp2_with fail
  all_goals (go_ret; exact ⟨ret_bool (by first | rfl | (rw [Bool.eq_iff_iff]; simp; omega) | (simp; omega) | simp_all), (by (repeat (first | exact Below.refl _ _ | refine Below.alloc ?_ (by simp <;> omega) _)))⟩)

set_option maxRecDepth 100000 in
set_option maxHeartbeats 1000000 in
theorem isRef_any (t : T) (a : Option Addr) (cap : Nat) (w : World) : Calls Tryz.prog 117 #[nodeVal t (.slice a t.kids.length cap)] w fun e w' => e = .returned (.bool (Pr.isRef t)) ∧ Below w.heap.size w w' := by
  unfold nodeVal Pr.isRef
  go_enter Tryz.func117, Tryz.ntmps117
  go_wp2_with fail
  all_goals (go_ret; exact ⟨ret_bool (by first | rfl | (rw [Bool.eq_iff_iff]; simp; omega) | (simp; omega) | simp_all), (by (repeat (first | exact Below.refl _ _ | refine Below.alloc ?_ (by simp <;> omega) _)))⟩)

set_option maxRecDepth 100000 in
set_option maxHeartbeats 1000000 in
theorem isBlock_any (t : T) (a : Option Addr) (cap : Nat) (w : World) : Calls Tryz.prog 118 #[nodeVal t (.slice a t.kids.length cap)] w fun e w' => e = .returned (.bool (Pr.isBlock t)) ∧ Below w.heap.size w w' := by
  unfold nodeVal Pr.isBlock
  go_enter Tryz.func118, Tryz.ntmps118
  go_wp2_with fail
  all_goals (go_ret; exact ⟨ret_bool (by first | rfl | (rw [Bool.eq_iff_iff]; simp; omega) | (simp; omega) | simp_all), (by (repeat (first | exact Below.refl _ _ | refine Below.alloc ?_ (by simp <;> omega) _)))⟩)

set_option maxRecDepth 100000 in
set_option maxHeartbeats 1000000 in
theorem isField_any (t : T) (a : Option Addr) (cap : Nat) (w : World) : Calls Tryz.prog 120 #[nodeVal t (.slice a t.kids.length cap)] w fun e w' => e = .returned (.bool (Pr.isField t)) ∧ Below w.heap.size w w' := by
  unfold nodeVal Pr.isField
  go_enter Tryz.func120, Tryz.ntmps120
  go_wp2_with fail
  all_goals (go_ret; exact ⟨ret_bool (by first | rfl | (rw [Bool.eq_iff_iff]; simp; omega) | (simp; omega) | simp_all), (by (repeat (first | exact Below.refl _ _ | refine Below.alloc ?_ (by simp <;> omega) _)))⟩)

set_option maxRecDepth 100000 in
set_option maxHeartbeats 1000000 in
theorem isStatement_any (t : T) (a : Option Addr) (cap : Nat) (w : World) : Calls Tryz.prog 90 #[nodeVal t (.slice a t.kids.length cap)] w fun e w' => e = .returned (.bool (Pr.isStatement t)) ∧ Below w.heap.size w w' := by
  have hc := isBlock_any t a cap
  unfold nodeVal at hc ⊢
  have Hc := Lib.hid hc
  clear hc
  unfold Pr.isStatement
  go_enter Tryz.func90, Tryz.ntmps90
  go_wp2_with fail
  · refine (Hc.out _).mono ?_
    rintro e w1 ⟨rfl, hb⟩
    have Hb := Lib.hid (((Below.refl w.heap.size w).alloc (Nat.le_refl _) _).trans (hb.mono (by simp)))
    clear hb
    unfold Pr.isBlock
    go_wp2_with fail
    all_goals (go_ret; exact ⟨ret_bool (by first | rfl | (rw [Bool.eq_iff_iff]; simp; omega) | (simp; omega) | simp_all), (by first | exact Hb.out | ((repeat (first | exact Below.refl _ _ | refine Below.alloc ?_ (by simp <;> omega) _))))⟩)
  all_goals (go_ret; exact ⟨ret_bool (by first | rfl | (rw [Bool.eq_iff_iff]; simp; omega) | (simp; omega) | simp_all), (by (repeat (first | exact Below.refl _ _ | refine Below.alloc ?_ (by simp <;> omega) _)))⟩)

set_option maxRecDepth 100000 in
set_option maxHeartbeats 1000000 in
theorem isDeclaration_any (t : T) (a : Option Addr) (cap : Nat) (w : World) : Calls Tryz.prog 92 #[nodeVal t (.slice a t.kids.length cap)] w fun e w' => e = .returned (.bool (Pr.isDeclaration t)) ∧ Below w.heap.size w w' := by
  have hc := isField_any t a cap
  unfold nodeVal at hc ⊢
  have Hc := Lib.hid hc
  clear hc
  unfold Pr.isDeclaration
  go_enter Tryz.func92, Tryz.ntmps92
  go_wp2_with fail
  · refine (Hc.out _).mono ?_
    rintro e w1 ⟨rfl, hb⟩
    have Hb := Lib.hid (((Below.refl w.heap.size w).alloc (Nat.le_refl _) _).trans (hb.mono (by simp)))
    clear hb
    unfold Pr.isField
    go_wp2_with fail
    all_goals (go_ret; exact ⟨ret_bool (by first | rfl | (rw [Bool.eq_iff_iff]; simp; omega) | (simp; omega) | simp_all), (by first | exact Hb.out | ((repeat (first | exact Below.refl _ _ | refine Below.alloc ?_ (by simp <;> omega) _))))⟩)
  all_goals (go_ret; exact ⟨ret_bool (by first | rfl | (rw [Bool.eq_iff_iff]; simp; omega) | (simp; omega) | simp_all), (by (repeat (first | exact Below.refl _ _ | refine Below.alloc ?_ (by simp <;> omega) _)))⟩)

end Go.Proofs.YtbgpboiblggmiaaGreatDoor

/-
  The rows of statements and of declarations; the row of a node.
-/
namespace Go.Proofs.YtbgpboiblggmiaaGreatDoor
open Go.RowKit
open Px (St T D Res)

def rowS (t : T) : Rw :=
  if t.kind = 20 then { kids := [38] }
  else if t.kind = 29 then { kids := [38] }
  else if t.kind = 21 then { number := 1, kids := [117, 38], more := [117, 38] }
  else if t.kind = 22 then { kids := [119], more := [117, 38] }
  else if t.kind = 23 then { kids := [117, 38, 38, 117], more := [117, 38] }
  else if t.kind = 24 then { name := 2 }
  else if t.kind = 25 then { name := 2 }
  else if t.kind = 27 then { name := 1 }
  else if t.kind = 28 then { name := 1 }
  else if t.kind = 31 then { kids := [38, 118, 118] }
  else if t.kind = 32 then { kids := [38, 119, 118] }
  else if t.kind = 33 then { name := 2, more := [38] }
  else if t.kind = 34 then { more := [90] }
  else if t.kind = 35 then { name := 1, number := 999999999, ghost := true }
  else if t.kind = 26 then { }
  else if t.kind = 30 then { }
  else { }
def rowD (t : T) : Rw :=
  if t.kind = 50 then (if t.other = [] then { name := 1, number := 999999999, len := 999999999, init := 999999999, ghost := true } else { name := 1, other := 1, len := 999999999, init := 999999999, ghost := true })
  else if t.kind = 51 then { name := 1, more := [120] }
  else if t.kind = 53 then { name := 1, kids := [38] }
  else if t.kind = 54 then { kids := [38] }
  else if t.kind = 55 then { kids := [38] }
  else if t.kind = 56 then { kids := [121], more := [121] }
  else if t.kind = 57 then (if t.other = [] then { name := 1, more := [122], last := [118] } else { name := 1, other := 1, more := [122], last := [118] })
  else { }

set_option maxRecDepth 100000 in
set_option maxHeartbeats 4000000 in
theorem stmtRow_any (t : T) (a : Option Addr) (cap : Nat) (w : World) (h : 20 ≤ t.kind ∧ t.kind ≤ 35) : Calls Tryz.prog 91 #[nodeVal t (.slice a t.kids.length cap)] w (RowSaid (rowS t) w) := by
  have hcase : t.kind = 20 ∨ t.kind = 29 ∨ t.kind = 21 ∨ t.kind = 22 ∨ t.kind = 23 ∨ t.kind = 24 ∨ t.kind = 25 ∨ t.kind = 27 ∨ t.kind = 28 ∨ t.kind = 31 ∨ t.kind = 32 ∨ t.kind = 33 ∨ t.kind = 34 ∨ t.kind = 35 ∨ t.kind = 26 ∨ t.kind = 30 := by omega
  obtain ⟨R, hR⟩ : ∃ R, R = rowS t := ⟨_, rfl⟩
  rw [← hR]
  unfold rowS at hR
  unfold nodeVal
  rcases hcase with hk | hk | hk | hk | hk | hk | hk | hk | hk | hk | hk | hk | hk | hk | hk | hk
  · rw [hk] at hR ⊢
    simp at hR
    subst hR
    go_enter Tryz.func91, Tryz.ntmps91
    go_wp2_with fail
    refine ret_row (by rfl) (by rfl) (by (first | exact Var.new' (by simp <;> omega) | exact Var.alloc (Var.new' (by simp <;> omega)) _ | exact Var.alloc (Var.alloc (Var.new' (by simp <;> omega)) _) _ | exact Var.alloc (Var.alloc (Var.alloc (Var.new' (by simp <;> omega)) _) _) _ | exact Var.alloc (Var.alloc (Var.alloc (Var.alloc (Var.new' (by simp <;> omega)) _) _) _) _)) (by rfl) (by rfl) ?_
    refine ⟨(by (repeat (first | exact Below.refl _ _ | refine Below.alloc ?_ (by simp <;> omega) _))), _, rfl, _, _, _, _, _, _, rfl, ?_, ?_, ?_⟩
    all_goals (first | exact .inl ⟨rfl, rfl, rfl⟩ | (refine .inr ⟨_, rfl, rfl, (by decide), ?_, ?_⟩; (focus (simp <;> omega)); (first | (refine Var.new' ?_; (focus (simp <;> omega))) | (refine Var.alloc (Var.new' ?_) _; (focus (simp <;> omega))) | (refine Var.alloc (Var.alloc (Var.new' ?_) _) _; (focus (simp <;> omega))) | (refine Var.alloc (Var.alloc (Var.alloc (Var.new' ?_) _) _) _; (focus (simp <;> omega))))))
  · rw [hk] at hR ⊢
    simp at hR
    subst hR
    go_enter Tryz.func91, Tryz.ntmps91
    go_wp2_with fail
    refine ret_row (by rfl) (by rfl) (by (first | exact Var.new' (by simp <;> omega) | exact Var.alloc (Var.new' (by simp <;> omega)) _ | exact Var.alloc (Var.alloc (Var.new' (by simp <;> omega)) _) _ | exact Var.alloc (Var.alloc (Var.alloc (Var.new' (by simp <;> omega)) _) _) _ | exact Var.alloc (Var.alloc (Var.alloc (Var.alloc (Var.new' (by simp <;> omega)) _) _) _) _)) (by rfl) (by rfl) ?_
    refine ⟨(by (repeat (first | exact Below.refl _ _ | refine Below.alloc ?_ (by simp <;> omega) _))), _, rfl, _, _, _, _, _, _, rfl, ?_, ?_, ?_⟩
    all_goals (first | exact .inl ⟨rfl, rfl, rfl⟩ | (refine .inr ⟨_, rfl, rfl, (by decide), ?_, ?_⟩; (focus (simp <;> omega)); (first | (refine Var.new' ?_; (focus (simp <;> omega))) | (refine Var.alloc (Var.new' ?_) _; (focus (simp <;> omega))) | (refine Var.alloc (Var.alloc (Var.new' ?_) _) _; (focus (simp <;> omega))) | (refine Var.alloc (Var.alloc (Var.alloc (Var.new' ?_) _) _) _; (focus (simp <;> omega))))))
  · rw [hk] at hR ⊢
    simp at hR
    subst hR
    go_enter Tryz.func91, Tryz.ntmps91
    go_wp2_with fail
    refine ret_row (by rfl) (by rfl) (by (first | exact Var.new' (by simp <;> omega) | exact Var.alloc (Var.new' (by simp <;> omega)) _ | exact Var.alloc (Var.alloc (Var.new' (by simp <;> omega)) _) _ | exact Var.alloc (Var.alloc (Var.alloc (Var.new' (by simp <;> omega)) _) _) _ | exact Var.alloc (Var.alloc (Var.alloc (Var.alloc (Var.new' (by simp <;> omega)) _) _) _) _)) (by rfl) (by rfl) ?_
    refine ⟨(by (repeat (first | exact Below.refl _ _ | refine Below.alloc ?_ (by simp <;> omega) _))), _, rfl, _, _, _, _, _, _, rfl, ?_, ?_, ?_⟩
    all_goals (first | exact .inl ⟨rfl, rfl, rfl⟩ | (refine .inr ⟨_, rfl, rfl, (by decide), ?_, ?_⟩; (focus (simp <;> omega)); (first | (refine Var.new' ?_; (focus (simp <;> omega))) | (refine Var.alloc (Var.new' ?_) _; (focus (simp <;> omega))) | (refine Var.alloc (Var.alloc (Var.new' ?_) _) _; (focus (simp <;> omega))) | (refine Var.alloc (Var.alloc (Var.alloc (Var.new' ?_) _) _) _; (focus (simp <;> omega))))))
  · rw [hk] at hR ⊢
    simp at hR
    subst hR
    go_enter Tryz.func91, Tryz.ntmps91
    go_wp2_with fail
    refine ret_row (by rfl) (by rfl) (by (first | exact Var.new' (by simp <;> omega) | exact Var.alloc (Var.new' (by simp <;> omega)) _ | exact Var.alloc (Var.alloc (Var.new' (by simp <;> omega)) _) _ | exact Var.alloc (Var.alloc (Var.alloc (Var.new' (by simp <;> omega)) _) _) _ | exact Var.alloc (Var.alloc (Var.alloc (Var.alloc (Var.new' (by simp <;> omega)) _) _) _) _)) (by rfl) (by rfl) ?_
    refine ⟨(by (repeat (first | exact Below.refl _ _ | refine Below.alloc ?_ (by simp <;> omega) _))), _, rfl, _, _, _, _, _, _, rfl, ?_, ?_, ?_⟩
    all_goals (first | exact .inl ⟨rfl, rfl, rfl⟩ | (refine .inr ⟨_, rfl, rfl, (by decide), ?_, ?_⟩; (focus (simp <;> omega)); (first | (refine Var.new' ?_; (focus (simp <;> omega))) | (refine Var.alloc (Var.new' ?_) _; (focus (simp <;> omega))) | (refine Var.alloc (Var.alloc (Var.new' ?_) _) _; (focus (simp <;> omega))) | (refine Var.alloc (Var.alloc (Var.alloc (Var.new' ?_) _) _) _; (focus (simp <;> omega))))))
  · rw [hk] at hR ⊢
    simp at hR
    subst hR
    go_enter Tryz.func91, Tryz.ntmps91
    go_wp2_with fail
    refine ret_row (by rfl) (by rfl) (by (first | exact Var.new' (by simp <;> omega) | exact Var.alloc (Var.new' (by simp <;> omega)) _ | exact Var.alloc (Var.alloc (Var.new' (by simp <;> omega)) _) _ | exact Var.alloc (Var.alloc (Var.alloc (Var.new' (by simp <;> omega)) _) _) _ | exact Var.alloc (Var.alloc (Var.alloc (Var.alloc (Var.new' (by simp <;> omega)) _) _) _) _)) (by rfl) (by rfl) ?_
    refine ⟨(by (repeat (first | exact Below.refl _ _ | refine Below.alloc ?_ (by simp <;> omega) _))), _, rfl, _, _, _, _, _, _, rfl, ?_, ?_, ?_⟩
    all_goals (first | exact .inl ⟨rfl, rfl, rfl⟩ | (refine .inr ⟨_, rfl, rfl, (by decide), ?_, ?_⟩; (focus (simp <;> omega)); (first | (refine Var.new' ?_; (focus (simp <;> omega))) | (refine Var.alloc (Var.new' ?_) _; (focus (simp <;> omega))) | (refine Var.alloc (Var.alloc (Var.new' ?_) _) _; (focus (simp <;> omega))) | (refine Var.alloc (Var.alloc (Var.alloc (Var.new' ?_) _) _) _; (focus (simp <;> omega))))))
  · rw [hk] at hR ⊢
    simp at hR
    subst hR
    go_enter Tryz.func91, Tryz.ntmps91
    go_wp2_with fail
    refine ret_row (by rfl) (by rfl) (by (first | exact Var.new' (by simp <;> omega) | exact Var.alloc (Var.new' (by simp <;> omega)) _ | exact Var.alloc (Var.alloc (Var.new' (by simp <;> omega)) _) _ | exact Var.alloc (Var.alloc (Var.alloc (Var.new' (by simp <;> omega)) _) _) _ | exact Var.alloc (Var.alloc (Var.alloc (Var.alloc (Var.new' (by simp <;> omega)) _) _) _) _)) (by rfl) (by rfl) ?_
    refine ⟨(by (repeat (first | exact Below.refl _ _ | refine Below.alloc ?_ (by simp <;> omega) _))), _, rfl, _, _, _, _, _, _, rfl, ?_, ?_, ?_⟩
    all_goals (first | exact .inl ⟨rfl, rfl, rfl⟩ | (refine .inr ⟨_, rfl, rfl, (by decide), ?_, ?_⟩; (focus (simp <;> omega)); (first | (refine Var.new' ?_; (focus (simp <;> omega))) | (refine Var.alloc (Var.new' ?_) _; (focus (simp <;> omega))) | (refine Var.alloc (Var.alloc (Var.new' ?_) _) _; (focus (simp <;> omega))) | (refine Var.alloc (Var.alloc (Var.alloc (Var.new' ?_) _) _) _; (focus (simp <;> omega))))))
  · rw [hk] at hR ⊢
    simp at hR
    subst hR
    go_enter Tryz.func91, Tryz.ntmps91
    go_wp2_with fail
    refine ret_row (by rfl) (by rfl) (by (first | exact Var.new' (by simp <;> omega) | exact Var.alloc (Var.new' (by simp <;> omega)) _ | exact Var.alloc (Var.alloc (Var.new' (by simp <;> omega)) _) _ | exact Var.alloc (Var.alloc (Var.alloc (Var.new' (by simp <;> omega)) _) _) _ | exact Var.alloc (Var.alloc (Var.alloc (Var.alloc (Var.new' (by simp <;> omega)) _) _) _) _)) (by rfl) (by rfl) ?_
    refine ⟨(by (repeat (first | exact Below.refl _ _ | refine Below.alloc ?_ (by simp <;> omega) _))), _, rfl, _, _, _, _, _, _, rfl, ?_, ?_, ?_⟩
    all_goals (first | exact .inl ⟨rfl, rfl, rfl⟩ | (refine .inr ⟨_, rfl, rfl, (by decide), ?_, ?_⟩; (focus (simp <;> omega)); (first | (refine Var.new' ?_; (focus (simp <;> omega))) | (refine Var.alloc (Var.new' ?_) _; (focus (simp <;> omega))) | (refine Var.alloc (Var.alloc (Var.new' ?_) _) _; (focus (simp <;> omega))) | (refine Var.alloc (Var.alloc (Var.alloc (Var.new' ?_) _) _) _; (focus (simp <;> omega))))))
  · rw [hk] at hR ⊢
    simp at hR
    subst hR
    go_enter Tryz.func91, Tryz.ntmps91
    go_wp2_with fail
    refine ret_row (by rfl) (by rfl) (by (first | exact Var.new' (by simp <;> omega) | exact Var.alloc (Var.new' (by simp <;> omega)) _ | exact Var.alloc (Var.alloc (Var.new' (by simp <;> omega)) _) _ | exact Var.alloc (Var.alloc (Var.alloc (Var.new' (by simp <;> omega)) _) _) _ | exact Var.alloc (Var.alloc (Var.alloc (Var.alloc (Var.new' (by simp <;> omega)) _) _) _) _)) (by rfl) (by rfl) ?_
    refine ⟨(by (repeat (first | exact Below.refl _ _ | refine Below.alloc ?_ (by simp <;> omega) _))), _, rfl, _, _, _, _, _, _, rfl, ?_, ?_, ?_⟩
    all_goals (first | exact .inl ⟨rfl, rfl, rfl⟩ | (refine .inr ⟨_, rfl, rfl, (by decide), ?_, ?_⟩; (focus (simp <;> omega)); (first | (refine Var.new' ?_; (focus (simp <;> omega))) | (refine Var.alloc (Var.new' ?_) _; (focus (simp <;> omega))) | (refine Var.alloc (Var.alloc (Var.new' ?_) _) _; (focus (simp <;> omega))) | (refine Var.alloc (Var.alloc (Var.alloc (Var.new' ?_) _) _) _; (focus (simp <;> omega))))))
  · rw [hk] at hR ⊢
    simp at hR
    subst hR
    go_enter Tryz.func91, Tryz.ntmps91
    go_wp2_with fail
    refine ret_row (by rfl) (by rfl) (by (first | exact Var.new' (by simp <;> omega) | exact Var.alloc (Var.new' (by simp <;> omega)) _ | exact Var.alloc (Var.alloc (Var.new' (by simp <;> omega)) _) _ | exact Var.alloc (Var.alloc (Var.alloc (Var.new' (by simp <;> omega)) _) _) _ | exact Var.alloc (Var.alloc (Var.alloc (Var.alloc (Var.new' (by simp <;> omega)) _) _) _) _)) (by rfl) (by rfl) ?_
    refine ⟨(by (repeat (first | exact Below.refl _ _ | refine Below.alloc ?_ (by simp <;> omega) _))), _, rfl, _, _, _, _, _, _, rfl, ?_, ?_, ?_⟩
    all_goals (first | exact .inl ⟨rfl, rfl, rfl⟩ | (refine .inr ⟨_, rfl, rfl, (by decide), ?_, ?_⟩; (focus (simp <;> omega)); (first | (refine Var.new' ?_; (focus (simp <;> omega))) | (refine Var.alloc (Var.new' ?_) _; (focus (simp <;> omega))) | (refine Var.alloc (Var.alloc (Var.new' ?_) _) _; (focus (simp <;> omega))) | (refine Var.alloc (Var.alloc (Var.alloc (Var.new' ?_) _) _) _; (focus (simp <;> omega))))))
  · rw [hk] at hR ⊢
    simp at hR
    subst hR
    go_enter Tryz.func91, Tryz.ntmps91
    go_wp2_with fail
    refine ret_row (by rfl) (by rfl) (by (first | exact Var.new' (by simp <;> omega) | exact Var.alloc (Var.new' (by simp <;> omega)) _ | exact Var.alloc (Var.alloc (Var.new' (by simp <;> omega)) _) _ | exact Var.alloc (Var.alloc (Var.alloc (Var.new' (by simp <;> omega)) _) _) _ | exact Var.alloc (Var.alloc (Var.alloc (Var.alloc (Var.new' (by simp <;> omega)) _) _) _) _)) (by rfl) (by rfl) ?_
    refine ⟨(by (repeat (first | exact Below.refl _ _ | refine Below.alloc ?_ (by simp <;> omega) _))), _, rfl, _, _, _, _, _, _, rfl, ?_, ?_, ?_⟩
    all_goals (first | exact .inl ⟨rfl, rfl, rfl⟩ | (refine .inr ⟨_, rfl, rfl, (by decide), ?_, ?_⟩; (focus (simp <;> omega)); (first | (refine Var.new' ?_; (focus (simp <;> omega))) | (refine Var.alloc (Var.new' ?_) _; (focus (simp <;> omega))) | (refine Var.alloc (Var.alloc (Var.new' ?_) _) _; (focus (simp <;> omega))) | (refine Var.alloc (Var.alloc (Var.alloc (Var.new' ?_) _) _) _; (focus (simp <;> omega))))))
  · rw [hk] at hR ⊢
    simp at hR
    subst hR
    go_enter Tryz.func91, Tryz.ntmps91
    go_wp2_with fail
    refine ret_row (by rfl) (by rfl) (by (first | exact Var.new' (by simp <;> omega) | exact Var.alloc (Var.new' (by simp <;> omega)) _ | exact Var.alloc (Var.alloc (Var.new' (by simp <;> omega)) _) _ | exact Var.alloc (Var.alloc (Var.alloc (Var.new' (by simp <;> omega)) _) _) _ | exact Var.alloc (Var.alloc (Var.alloc (Var.alloc (Var.new' (by simp <;> omega)) _) _) _) _)) (by rfl) (by rfl) ?_
    refine ⟨(by (repeat (first | exact Below.refl _ _ | refine Below.alloc ?_ (by simp <;> omega) _))), _, rfl, _, _, _, _, _, _, rfl, ?_, ?_, ?_⟩
    all_goals (first | exact .inl ⟨rfl, rfl, rfl⟩ | (refine .inr ⟨_, rfl, rfl, (by decide), ?_, ?_⟩; (focus (simp <;> omega)); (first | (refine Var.new' ?_; (focus (simp <;> omega))) | (refine Var.alloc (Var.new' ?_) _; (focus (simp <;> omega))) | (refine Var.alloc (Var.alloc (Var.new' ?_) _) _; (focus (simp <;> omega))) | (refine Var.alloc (Var.alloc (Var.alloc (Var.new' ?_) _) _) _; (focus (simp <;> omega))))))
  · rw [hk] at hR ⊢
    simp at hR
    subst hR
    go_enter Tryz.func91, Tryz.ntmps91
    go_wp2_with fail
    refine ret_row (by rfl) (by rfl) (by (first | exact Var.new' (by simp <;> omega) | exact Var.alloc (Var.new' (by simp <;> omega)) _ | exact Var.alloc (Var.alloc (Var.new' (by simp <;> omega)) _) _ | exact Var.alloc (Var.alloc (Var.alloc (Var.new' (by simp <;> omega)) _) _) _ | exact Var.alloc (Var.alloc (Var.alloc (Var.alloc (Var.new' (by simp <;> omega)) _) _) _) _)) (by rfl) (by rfl) ?_
    refine ⟨(by (repeat (first | exact Below.refl _ _ | refine Below.alloc ?_ (by simp <;> omega) _))), _, rfl, _, _, _, _, _, _, rfl, ?_, ?_, ?_⟩
    all_goals (first | exact .inl ⟨rfl, rfl, rfl⟩ | (refine .inr ⟨_, rfl, rfl, (by decide), ?_, ?_⟩; (focus (simp <;> omega)); (first | (refine Var.new' ?_; (focus (simp <;> omega))) | (refine Var.alloc (Var.new' ?_) _; (focus (simp <;> omega))) | (refine Var.alloc (Var.alloc (Var.new' ?_) _) _; (focus (simp <;> omega))) | (refine Var.alloc (Var.alloc (Var.alloc (Var.new' ?_) _) _) _; (focus (simp <;> omega))))))
  · rw [hk] at hR ⊢
    simp at hR
    subst hR
    go_enter Tryz.func91, Tryz.ntmps91
    go_wp2_with fail
    refine ret_row (by rfl) (by rfl) (by (first | exact Var.new' (by simp <;> omega) | exact Var.alloc (Var.new' (by simp <;> omega)) _ | exact Var.alloc (Var.alloc (Var.new' (by simp <;> omega)) _) _ | exact Var.alloc (Var.alloc (Var.alloc (Var.new' (by simp <;> omega)) _) _) _ | exact Var.alloc (Var.alloc (Var.alloc (Var.alloc (Var.new' (by simp <;> omega)) _) _) _) _)) (by rfl) (by rfl) ?_
    refine ⟨(by (repeat (first | exact Below.refl _ _ | refine Below.alloc ?_ (by simp <;> omega) _))), _, rfl, _, _, _, _, _, _, rfl, ?_, ?_, ?_⟩
    all_goals (first | exact .inl ⟨rfl, rfl, rfl⟩ | (refine .inr ⟨_, rfl, rfl, (by decide), ?_, ?_⟩; (focus (simp <;> omega)); (first | (refine Var.new' ?_; (focus (simp <;> omega))) | (refine Var.alloc (Var.new' ?_) _; (focus (simp <;> omega))) | (refine Var.alloc (Var.alloc (Var.new' ?_) _) _; (focus (simp <;> omega))) | (refine Var.alloc (Var.alloc (Var.alloc (Var.new' ?_) _) _) _; (focus (simp <;> omega))))))
  · rw [hk] at hR ⊢
    simp at hR
    subst hR
    go_enter Tryz.func91, Tryz.ntmps91
    go_wp2_with fail
    refine ret_row (by rfl) (by rfl) (by (first | exact Var.new' (by simp <;> omega) | exact Var.alloc (Var.new' (by simp <;> omega)) _ | exact Var.alloc (Var.alloc (Var.new' (by simp <;> omega)) _) _ | exact Var.alloc (Var.alloc (Var.alloc (Var.new' (by simp <;> omega)) _) _) _ | exact Var.alloc (Var.alloc (Var.alloc (Var.alloc (Var.new' (by simp <;> omega)) _) _) _) _)) (by rfl) (by rfl) ?_
    refine ⟨(by (repeat (first | exact Below.refl _ _ | refine Below.alloc ?_ (by simp <;> omega) _))), _, rfl, _, _, _, _, _, _, rfl, ?_, ?_, ?_⟩
    all_goals (first | exact .inl ⟨rfl, rfl, rfl⟩ | (refine .inr ⟨_, rfl, rfl, (by decide), ?_, ?_⟩; (focus (simp <;> omega)); (first | (refine Var.new' ?_; (focus (simp <;> omega))) | (refine Var.alloc (Var.new' ?_) _; (focus (simp <;> omega))) | (refine Var.alloc (Var.alloc (Var.new' ?_) _) _; (focus (simp <;> omega))) | (refine Var.alloc (Var.alloc (Var.alloc (Var.new' ?_) _) _) _; (focus (simp <;> omega))))))
  · rw [hk] at hR ⊢
    simp at hR
    subst hR
    go_enter Tryz.func91, Tryz.ntmps91
    go_wp2_with fail
    refine ret_row (by rfl) (by rfl) (by (first | exact Var.new' (by simp <;> omega) | exact Var.alloc (Var.new' (by simp <;> omega)) _ | exact Var.alloc (Var.alloc (Var.new' (by simp <;> omega)) _) _ | exact Var.alloc (Var.alloc (Var.alloc (Var.new' (by simp <;> omega)) _) _) _ | exact Var.alloc (Var.alloc (Var.alloc (Var.alloc (Var.new' (by simp <;> omega)) _) _) _) _)) (by rfl) (by rfl) ?_
    refine ⟨(by (repeat (first | exact Below.refl _ _ | refine Below.alloc ?_ (by simp <;> omega) _))), _, rfl, _, _, _, _, _, _, rfl, ?_, ?_, ?_⟩
    all_goals (first | exact .inl ⟨rfl, rfl, rfl⟩ | (refine .inr ⟨_, rfl, rfl, (by decide), ?_, ?_⟩; (focus (simp <;> omega)); (first | (refine Var.new' ?_; (focus (simp <;> omega))) | (refine Var.alloc (Var.new' ?_) _; (focus (simp <;> omega))) | (refine Var.alloc (Var.alloc (Var.new' ?_) _) _; (focus (simp <;> omega))) | (refine Var.alloc (Var.alloc (Var.alloc (Var.new' ?_) _) _) _; (focus (simp <;> omega))))))
  · rw [hk] at hR ⊢
    simp at hR
    subst hR
    go_enter Tryz.func91, Tryz.ntmps91
    go_wp2_with fail
    refine ret_row (by rfl) (by rfl) (by (first | exact Var.new' (by simp <;> omega) | exact Var.alloc (Var.new' (by simp <;> omega)) _ | exact Var.alloc (Var.alloc (Var.new' (by simp <;> omega)) _) _ | exact Var.alloc (Var.alloc (Var.alloc (Var.new' (by simp <;> omega)) _) _) _ | exact Var.alloc (Var.alloc (Var.alloc (Var.alloc (Var.new' (by simp <;> omega)) _) _) _) _)) (by rfl) (by rfl) ?_
    refine ⟨(by (repeat (first | exact Below.refl _ _ | refine Below.alloc ?_ (by simp <;> omega) _))), _, rfl, _, _, _, _, _, _, rfl, ?_, ?_, ?_⟩
    all_goals (first | exact .inl ⟨rfl, rfl, rfl⟩ | (refine .inr ⟨_, rfl, rfl, (by decide), ?_, ?_⟩; (focus (simp <;> omega)); (first | (refine Var.new' ?_; (focus (simp <;> omega))) | (refine Var.alloc (Var.new' ?_) _; (focus (simp <;> omega))) | (refine Var.alloc (Var.alloc (Var.new' ?_) _) _; (focus (simp <;> omega))) | (refine Var.alloc (Var.alloc (Var.alloc (Var.new' ?_) _) _) _; (focus (simp <;> omega))))))
end Go.Proofs.YtbgpboiblggmiaaGreatDoor

/-
  The rows of declarations.
-/
namespace Go.Proofs.YtbgpboiblggmiaaGreatDoor
open Go.RowKit
open Px (St T D Res)

set_option maxRecDepth 100000 in
set_option maxHeartbeats 800000 in
theorem declRow_any (t : T) (a : Option Addr) (cap : Nat) (w : World) (h : 50 ≤ t.kind ∧ t.kind ≤ 57 ∧ t.kind ≠ 52) : Calls Tryz.prog 93 #[nodeVal t (.slice a t.kids.length cap)] w (RowSaid (rowD t) w) := by
  have hcase : t.kind = 50 ∨ t.kind = 51 ∨ t.kind = 53 ∨ t.kind = 54 ∨ t.kind = 55 ∨ t.kind = 56 ∨ t.kind = 57 := by omega
  obtain ⟨R, hR⟩ : ∃ R, R = rowD t := ⟨_, rfl⟩
  rw [← hR]
  unfold rowD at hR
  unfold nodeVal
  rcases hcase with hk | hk | hk | hk | hk | hk | hk
  · by_cases hz : t.other = []
    · rw [hz] at hR ⊢
      rw [hk] at hR ⊢
      simp at hR
      subst hR
      go_enter Tryz.func93, Tryz.ntmps93
      go_wp2_with fail
      refine ret_row (by rfl) (by rfl) (by (first | exact Var.new' (by simp <;> omega) | exact Var.alloc (Var.new' (by simp <;> omega)) _ | exact Var.alloc (Var.alloc (Var.new' (by simp <;> omega)) _) _ | exact Var.alloc (Var.alloc (Var.alloc (Var.new' (by simp <;> omega)) _) _) _ | exact Var.alloc (Var.alloc (Var.alloc (Var.alloc (Var.new' (by simp <;> omega)) _) _) _) _)) (by rfl) (by rfl) ?_
      refine ⟨(by (repeat (first | exact Below.refl _ _ | refine Below.alloc ?_ (by simp <;> omega) _))), _, rfl, _, _, _, _, _, _, rfl, ?_, ?_, ?_⟩
      all_goals (first | exact .inl ⟨rfl, rfl, rfl⟩ | (refine .inr ⟨_, rfl, rfl, (by decide), ?_, ?_⟩; (focus (simp <;> omega)); (first | (refine Var.new' ?_; (focus (simp <;> omega))) | (refine Var.alloc (Var.new' ?_) _; (focus (simp <;> omega))) | (refine Var.alloc (Var.alloc (Var.new' ?_) _) _; (focus (simp <;> omega))) | (refine Var.alloc (Var.alloc (Var.alloc (Var.new' ?_) _) _) _; (focus (simp <;> omega))))))
    · have hemp : List.isEmpty t.other = false := by cases hh : t.other with
        | nil => exact absurd hh hz
        | cons c r => rfl
      simp only [hz, if_false] at hR
      rw [hk] at hR ⊢
      simp at hR
      subst hR
      go_enter Tryz.func93, Tryz.ntmps93
      go_wp2_with fail
      refine ret_row (by rfl) (by rfl) (by (first | exact Var.new' (by simp <;> omega) | exact Var.alloc (Var.new' (by simp <;> omega)) _ | exact Var.alloc (Var.alloc (Var.new' (by simp <;> omega)) _) _ | exact Var.alloc (Var.alloc (Var.alloc (Var.new' (by simp <;> omega)) _) _) _ | exact Var.alloc (Var.alloc (Var.alloc (Var.alloc (Var.new' (by simp <;> omega)) _) _) _) _)) (by rfl) (by rfl) ?_
      refine ⟨(by (repeat (first | exact Below.refl _ _ | refine Below.alloc ?_ (by simp <;> omega) _))), _, rfl, _, _, _, _, _, _, rfl, ?_, ?_, ?_⟩
      all_goals (first | exact .inl ⟨rfl, rfl, rfl⟩ | (refine .inr ⟨_, rfl, rfl, (by decide), ?_, ?_⟩; (focus (simp <;> omega)); (first | (refine Var.new' ?_; (focus (simp <;> omega))) | (refine Var.alloc (Var.new' ?_) _; (focus (simp <;> omega))) | (refine Var.alloc (Var.alloc (Var.new' ?_) _) _; (focus (simp <;> omega))) | (refine Var.alloc (Var.alloc (Var.alloc (Var.new' ?_) _) _) _; (focus (simp <;> omega))))))
  · rw [hk] at hR ⊢
    simp at hR
    subst hR
    go_enter Tryz.func93, Tryz.ntmps93
    go_wp2_with fail
    refine ret_row (by rfl) (by rfl) (by (first | exact Var.new' (by simp <;> omega) | exact Var.alloc (Var.new' (by simp <;> omega)) _ | exact Var.alloc (Var.alloc (Var.new' (by simp <;> omega)) _) _ | exact Var.alloc (Var.alloc (Var.alloc (Var.new' (by simp <;> omega)) _) _) _ | exact Var.alloc (Var.alloc (Var.alloc (Var.alloc (Var.new' (by simp <;> omega)) _) _) _) _)) (by rfl) (by rfl) ?_
    refine ⟨(by (repeat (first | exact Below.refl _ _ | refine Below.alloc ?_ (by simp <;> omega) _))), _, rfl, _, _, _, _, _, _, rfl, ?_, ?_, ?_⟩
    all_goals (first | exact .inl ⟨rfl, rfl, rfl⟩ | (refine .inr ⟨_, rfl, rfl, (by decide), ?_, ?_⟩; (focus (simp <;> omega)); (first | (refine Var.new' ?_; (focus (simp <;> omega))) | (refine Var.alloc (Var.new' ?_) _; (focus (simp <;> omega))) | (refine Var.alloc (Var.alloc (Var.new' ?_) _) _; (focus (simp <;> omega))) | (refine Var.alloc (Var.alloc (Var.alloc (Var.new' ?_) _) _) _; (focus (simp <;> omega))))))
  · rw [hk] at hR ⊢
    simp at hR
    subst hR
    go_enter Tryz.func93, Tryz.ntmps93
    go_wp2_with fail
    refine ret_row (by rfl) (by rfl) (by (first | exact Var.new' (by simp <;> omega) | exact Var.alloc (Var.new' (by simp <;> omega)) _ | exact Var.alloc (Var.alloc (Var.new' (by simp <;> omega)) _) _ | exact Var.alloc (Var.alloc (Var.alloc (Var.new' (by simp <;> omega)) _) _) _ | exact Var.alloc (Var.alloc (Var.alloc (Var.alloc (Var.new' (by simp <;> omega)) _) _) _) _)) (by rfl) (by rfl) ?_
    refine ⟨(by (repeat (first | exact Below.refl _ _ | refine Below.alloc ?_ (by simp <;> omega) _))), _, rfl, _, _, _, _, _, _, rfl, ?_, ?_, ?_⟩
    all_goals (first | exact .inl ⟨rfl, rfl, rfl⟩ | (refine .inr ⟨_, rfl, rfl, (by decide), ?_, ?_⟩; (focus (simp <;> omega)); (first | (refine Var.new' ?_; (focus (simp <;> omega))) | (refine Var.alloc (Var.new' ?_) _; (focus (simp <;> omega))) | (refine Var.alloc (Var.alloc (Var.new' ?_) _) _; (focus (simp <;> omega))) | (refine Var.alloc (Var.alloc (Var.alloc (Var.new' ?_) _) _) _; (focus (simp <;> omega))))))
  · rw [hk] at hR ⊢
    simp at hR
    subst hR
    go_enter Tryz.func93, Tryz.ntmps93
    go_wp2_with fail
    refine ret_row (by rfl) (by rfl) (by (first | exact Var.new' (by simp <;> omega) | exact Var.alloc (Var.new' (by simp <;> omega)) _ | exact Var.alloc (Var.alloc (Var.new' (by simp <;> omega)) _) _ | exact Var.alloc (Var.alloc (Var.alloc (Var.new' (by simp <;> omega)) _) _) _ | exact Var.alloc (Var.alloc (Var.alloc (Var.alloc (Var.new' (by simp <;> omega)) _) _) _) _)) (by rfl) (by rfl) ?_
    refine ⟨(by (repeat (first | exact Below.refl _ _ | refine Below.alloc ?_ (by simp <;> omega) _))), _, rfl, _, _, _, _, _, _, rfl, ?_, ?_, ?_⟩
    all_goals (first | exact .inl ⟨rfl, rfl, rfl⟩ | (refine .inr ⟨_, rfl, rfl, (by decide), ?_, ?_⟩; (focus (simp <;> omega)); (first | (refine Var.new' ?_; (focus (simp <;> omega))) | (refine Var.alloc (Var.new' ?_) _; (focus (simp <;> omega))) | (refine Var.alloc (Var.alloc (Var.new' ?_) _) _; (focus (simp <;> omega))) | (refine Var.alloc (Var.alloc (Var.alloc (Var.new' ?_) _) _) _; (focus (simp <;> omega))))))
  · rw [hk] at hR ⊢
    simp at hR
    subst hR
    go_enter Tryz.func93, Tryz.ntmps93
    go_wp2_with fail
    refine ret_row (by rfl) (by rfl) (by (first | exact Var.new' (by simp <;> omega) | exact Var.alloc (Var.new' (by simp <;> omega)) _ | exact Var.alloc (Var.alloc (Var.new' (by simp <;> omega)) _) _ | exact Var.alloc (Var.alloc (Var.alloc (Var.new' (by simp <;> omega)) _) _) _ | exact Var.alloc (Var.alloc (Var.alloc (Var.alloc (Var.new' (by simp <;> omega)) _) _) _) _)) (by rfl) (by rfl) ?_
    refine ⟨(by (repeat (first | exact Below.refl _ _ | refine Below.alloc ?_ (by simp <;> omega) _))), _, rfl, _, _, _, _, _, _, rfl, ?_, ?_, ?_⟩
    all_goals (first | exact .inl ⟨rfl, rfl, rfl⟩ | (refine .inr ⟨_, rfl, rfl, (by decide), ?_, ?_⟩; (focus (simp <;> omega)); (first | (refine Var.new' ?_; (focus (simp <;> omega))) | (refine Var.alloc (Var.new' ?_) _; (focus (simp <;> omega))) | (refine Var.alloc (Var.alloc (Var.new' ?_) _) _; (focus (simp <;> omega))) | (refine Var.alloc (Var.alloc (Var.alloc (Var.new' ?_) _) _) _; (focus (simp <;> omega))))))
  · rw [hk] at hR ⊢
    simp at hR
    subst hR
    go_enter Tryz.func93, Tryz.ntmps93
    go_wp2_with fail
    refine ret_row (by rfl) (by rfl) (by (first | exact Var.new' (by simp <;> omega) | exact Var.alloc (Var.new' (by simp <;> omega)) _ | exact Var.alloc (Var.alloc (Var.new' (by simp <;> omega)) _) _ | exact Var.alloc (Var.alloc (Var.alloc (Var.new' (by simp <;> omega)) _) _) _ | exact Var.alloc (Var.alloc (Var.alloc (Var.alloc (Var.new' (by simp <;> omega)) _) _) _) _)) (by rfl) (by rfl) ?_
    refine ⟨(by (repeat (first | exact Below.refl _ _ | refine Below.alloc ?_ (by simp <;> omega) _))), _, rfl, _, _, _, _, _, _, rfl, ?_, ?_, ?_⟩
    all_goals (first | exact .inl ⟨rfl, rfl, rfl⟩ | (refine .inr ⟨_, rfl, rfl, (by decide), ?_, ?_⟩; (focus (simp <;> omega)); (first | (refine Var.new' ?_; (focus (simp <;> omega))) | (refine Var.alloc (Var.new' ?_) _; (focus (simp <;> omega))) | (refine Var.alloc (Var.alloc (Var.new' ?_) _) _; (focus (simp <;> omega))) | (refine Var.alloc (Var.alloc (Var.alloc (Var.new' ?_) _) _) _; (focus (simp <;> omega))))))
  · by_cases hz : t.other = []
    · rw [hz] at hR ⊢
      rw [hk] at hR ⊢
      simp at hR
      subst hR
      go_enter Tryz.func93, Tryz.ntmps93
      go_wp2_with fail
      refine ret_row (by rfl) (by rfl) (by (first | exact Var.new' (by simp <;> omega) | exact Var.alloc (Var.new' (by simp <;> omega)) _ | exact Var.alloc (Var.alloc (Var.new' (by simp <;> omega)) _) _ | exact Var.alloc (Var.alloc (Var.alloc (Var.new' (by simp <;> omega)) _) _) _ | exact Var.alloc (Var.alloc (Var.alloc (Var.alloc (Var.new' (by simp <;> omega)) _) _) _) _)) (by rfl) (by rfl) ?_
      refine ⟨(by (repeat (first | exact Below.refl _ _ | refine Below.alloc ?_ (by simp <;> omega) _))), _, rfl, _, _, _, _, _, _, rfl, ?_, ?_, ?_⟩
      all_goals (first | exact .inl ⟨rfl, rfl, rfl⟩ | (refine .inr ⟨_, rfl, rfl, (by decide), ?_, ?_⟩; (focus (simp <;> omega)); (first | (refine Var.new' ?_; (focus (simp <;> omega))) | (refine Var.alloc (Var.new' ?_) _; (focus (simp <;> omega))) | (refine Var.alloc (Var.alloc (Var.new' ?_) _) _; (focus (simp <;> omega))) | (refine Var.alloc (Var.alloc (Var.alloc (Var.new' ?_) _) _) _; (focus (simp <;> omega))))))
    · have hemp : List.isEmpty t.other = false := by cases hh : t.other with
        | nil => exact absurd hh hz
        | cons c r => rfl
      simp only [hz, if_false] at hR
      rw [hk] at hR ⊢
      simp at hR
      subst hR
      go_enter Tryz.func93, Tryz.ntmps93
      go_wp2_with fail
      refine ret_row (by rfl) (by rfl) (by (first | exact Var.new' (by simp <;> omega) | exact Var.alloc (Var.new' (by simp <;> omega)) _ | exact Var.alloc (Var.alloc (Var.new' (by simp <;> omega)) _) _ | exact Var.alloc (Var.alloc (Var.alloc (Var.new' (by simp <;> omega)) _) _) _ | exact Var.alloc (Var.alloc (Var.alloc (Var.alloc (Var.new' (by simp <;> omega)) _) _) _) _)) (by rfl) (by rfl) ?_
      refine ⟨(by (repeat (first | exact Below.refl _ _ | refine Below.alloc ?_ (by simp <;> omega) _))), _, rfl, _, _, _, _, _, _, rfl, ?_, ?_, ?_⟩
      all_goals (first | exact .inl ⟨rfl, rfl, rfl⟩ | (refine .inr ⟨_, rfl, rfl, (by decide), ?_, ?_⟩; (focus (simp <;> omega)); (first | (refine Var.new' ?_; (focus (simp <;> omega))) | (refine Var.alloc (Var.new' ?_) _; (focus (simp <;> omega))) | (refine Var.alloc (Var.alloc (Var.new' ?_) _) _; (focus (simp <;> omega))) | (refine Var.alloc (Var.alloc (Var.alloc (Var.new' ?_) _) _) _; (focus (simp <;> omega))))))
end Go.Proofs.YtbgpboiblggmiaaGreatDoor

/-
  The row of a node.
-/
namespace Go.Proofs.YtbgpboiblggmiaaGreatDoor
open Go.RowKit
open Px (St T D Res)

theorem FnsAt.keep {N N' : Nat} {w w' : World} {a : Option Addr} {cap : Nat} {l : List FuncId} (h : FnsAt N w a cap l) (hN : N ≤ N') (hw : ∀ b c, b < N → Var 103 w b c → Var 103 w' b c) : FnsAt N' w' a cap l := by
  rcases h with h | ⟨b, h1, hc, h8, h2, h3⟩
  · exact .inl h
  · exact .inr ⟨b, h1, hc, h8, Nat.lt_of_lt_of_le h2 hN, hw b _ h2 h3⟩
theorem FnsAt.own {N : Nat} {w : World} {a : Option Addr} {cap : Nat} {l : List FuncId} (h : FnsAt N w a cap l) : w.ownsRow 0 103 1 (.slice a l.length cap) l.length (l.map fnV) := by
  rcases h with ⟨rfl, rfl, rfl⟩ | ⟨b, rfl, rfl, h8, h2, h3⟩
  · exact World.ownsRow_nil _ _ _ _
  · exact ⟨by simp, .inr ⟨b, l.length, _, rfl, Nat.zero_le _, h3, Nat.le_refl _, by unfold maxLen; omega, by simp, by rw [List.take_of_length_le (by simp)]⟩⟩
theorem RowIs.keep {N N' : Nat} {w w' : World} {r : Rw} {v : Value} (h : RowIs N w r v) (hN : N ≤ N') (hw : ∀ b c, b < N → Var 103 w b c → Var 103 w' b c) : RowIs N' w' r v := by
  obtain ⟨ka, kc, ma, mc, la, lc, h1, h2, h3, h4⟩ := h
  exact ⟨ka, kc, ma, mc, la, lc, h1, h2.keep hN hw, h3.keep hN hw, h4.keep hN hw⟩
theorem RowIs.setRow {N : Nat} {w : World} {r : Rw} {v : Value} (h : RowIs N w r v) {g : Nat} {cs : Array Value} {t : TypeId} (hv : Var t w g cs) (ht : t ≠ 103) (c : Array Value) : RowIs N (w.setRow g c) r v :=
  h.keep (Nat.le_refl _) (fun b c' _ hc => obj_row_other hc (by
    rintro rfl
    have h1 : w.heap[b]? = some (.cells c' 103 (0, 0)) := hc
    have h2 : w.heap[b]? = some (.cells cs t (0, 0)) := hv
    rw [h1] at h2
    cases h2
    exact ht rfl) c)
/-- block b is a variable that is a row -/
theorem storeR {w : World} {b : Nat} {cs : Array Value} (c0 c1 c2 c3 c4 c5 c6 c7 c8 : Value) (h : Var 85 w b cs) (h9 : cs.size = 9) :
    (((((((((w.setCell ⟨b, 0, none⟩ c0).setCell ⟨b, 1, none⟩ c1).setCell ⟨b, 2, none⟩ c2).setCell ⟨b, 3, none⟩ c3).setCell ⟨b, 4, none⟩ c4).setCell ⟨b, 5, none⟩ c5).setCell ⟨b, 6, none⟩ c6).setCell ⟨b, 7, none⟩ c7).setCell ⟨b, 8, none⟩ c8) = w.setRow b #[c0, c1, c2, c3, c4, c5, c6, c7, c8] :=
  store9 h h9 _ _ _ _ _ _ _ _ _

/-- the row of a node -/
def rowP (t : T) : Rw :=
  if 1 ≤ t.kind ∧ t.kind ≤ 8 then rowE t
  else if 20 ≤ t.kind ∧ t.kind ≤ 35 then rowS t
  else if 50 ≤ t.kind ∧ t.kind ≤ 57 ∧ t.kind ≠ 52 then rowD t
  else if t.kind = 52 then { name := 1, number := 999999999 }
  else if t.kind = 58 then { name := 1, number := 999999999 }
  else if t.kind = 60 then { name := 1, other := 1, more := [92] }
  else if t.kind = 61 then { name := 1, other := 2, number := 1, more := [94] }
  else if t.kind = 62 then { more := [95] }
  else { }

set_option maxRecDepth 100000 in
set_option maxHeartbeats 4000000 in
theorem rowOf_any (t : T) (a : Option Addr) (cap : Nat) (w : World) : Calls Tryz.prog 55 #[nodeVal t (.slice a t.kids.length cap)] w (RowSaid (rowP t) w) := by
  have h1 := isExpr_any t a cap
  have h2 := isStatement_any t a cap
  have h3 := isDeclaration_any t a cap
  have h4 := exprRow_any t a cap
  have h5 := stmtRow_any t a cap
  have h6 := declRow_any t a cap
  obtain ⟨R, hR⟩ : ∃ R, R = rowP t := ⟨_, rfl⟩
  rw [← hR]
  unfold rowP at hR
  unfold nodeVal at *
  have H1 := Lib.hid h1
  have H2 := Lib.hid h2
  have H3 := Lib.hid h3
  have H4 := Lib.hid h4
  have H5 := Lib.hid h5
  have H6 := Lib.hid h6
  have HR := Lib.hid hR
  clear h1 h2 h3 h4 h5 h6 hR
  go_enter Tryz.func55, Tryz.ntmps55
  go_wp2_with fail
  refine (H1.out _).mono ?_
  rintro e w1 ⟨rfl, hb1⟩
  have hs1 := hb1.size
  (try simp at hs1)
  have Hb1 := Lib.hid ((((Below.refl w.heap.size w).alloc (Nat.le_refl _) _).alloc (by simp) _).trans (hb1.mono (by simp; omega)))
  have hn0 : NineAt w1 w.heap.size 0 t (.slice a t.kids.length cap) := (NineAt.var w t _).below (((Below.refl (w.heap.size + 1) _).alloc (by simp) _).trans (hb1.mono (by simp))) (by omega)
  have z1 : Var 85 w1 (w.heap.size + 1) _ := (hb1.block _ (by simp)).trans (Var.new' (by simp))
  have z1l := z1.lt
  obtain ⟨z1c, z1f⟩ := obj_facts z1
  have Hn1 := Lib.hid hn0
  obtain ⟨e0, e1, e2, e3, e4, e5, e6, e7, e8⟩ := hn0
  simp only [Nat.zero_add] at e0 e1 e2 e3 e4 e5 e6 e7 e8
  clear hb1
  cases hP : Pr.isExpr t with
  | true =>
    unfold Pr.isExpr at hP
    have hk : 1 ≤ t.kind ∧ t.kind ≤ 8 := by simpa using hP
    have HR2 := Lib.hid (HR.out.trans (if_pos hk))
    clear hP
    go_wp2_with fail
    refine (H4.out w1 hk).mono ?_
    rintro e w2 ⟨hb2, v, rfl, hrow⟩
    obtain ⟨ka, kc, ma, mc, la, lc, rfl, f1, f2, f3⟩ := hrow
    have Hrow := Lib.hid (show RowIs w2.heap.size w2 _ _ from ⟨ka, kc, ma, mc, la, lc, rfl, f1, f2, f3⟩)
    clear f1 f2 f3
    have hs2 := hb2.size
    have Hb2 := Lib.hid (Hb1.out.trans (hb2.mono (by omega)))
    have z2 : Var 85 w2 (w.heap.size + 1) _ := (hb2.block _ (by omega)).trans z1
    have Hn2 := Lib.hid (Hn1.out.below hb2 (by omega))
    have z2l := z2.lt
    clear z1c z1f e0 e1 e2 e3 e4 e5 e6 e7 e8
    obtain ⟨z2c, z2f⟩ := obj_facts z2
    obtain ⟨e0, e1, e2, e3, e4, e5, e6, e7, e8⟩ := Hn2.out
    simp only [Nat.zero_add] at e0 e1 e2 e3 e4 e5 e6 e7 e8
    clear hb2
    go_wp2_with fail
    rw [storeR _ _ _ _ _ _ _ _ _ z2 (by rfl)]
    refine ret_row (by rfl) (by rfl) (Var.row_same z2 _) (by rfl) (by rfl) ?_
    rw [HR2.out]
    exact ⟨below_setRow Hb2.out (by omega) _, _, rfl, (Hrow.out.setRow z2 (by decide) _).keep (by simp [World.setRow]) (fun _ _ _ h => h)⟩
  | false =>
    unfold Pr.isExpr at hP
    have hk : ¬ (1 ≤ t.kind ∧ t.kind ≤ 8) := by simpa using hP
    have HR := Lib.hid (HR.out.trans (if_neg hk))
    clear hP
    go_wp2_with fail
    refine (H2.out _).mono ?_
    rintro e w2 ⟨rfl, hb2⟩
    have hs2 := hb2.size
    have Hb2 := Lib.hid (Hb1.out.trans (hb2.mono (by omega)))
    have z2 : Var 85 w2 (w.heap.size + 1) _ := (hb2.block _ (by omega)).trans z1
    have Hn2 := Lib.hid (Hn1.out.below hb2 (by omega))
    have z2l := z2.lt
    clear z1c z1f e0 e1 e2 e3 e4 e5 e6 e7 e8
    obtain ⟨z2c, z2f⟩ := obj_facts z2
    obtain ⟨e0, e1, e2, e3, e4, e5, e6, e7, e8⟩ := Hn2.out
    simp only [Nat.zero_add] at e0 e1 e2 e3 e4 e5 e6 e7 e8
    clear hb2
    cases hP : Pr.isStatement t with
    | true =>
      unfold Pr.isStatement at hP
      have hk2 : 20 ≤ t.kind ∧ t.kind ≤ 35 := by simp at hP; omega
      have HR2 := Lib.hid (HR.out.trans (if_pos hk2))
      clear hP
      go_wp2_with fail
      refine (H5.out w2 hk2).mono ?_
      rintro e w3 ⟨hb3, v, rfl, hrow⟩
      obtain ⟨ka, kc, ma, mc, la, lc, rfl, f1, f2, f3⟩ := hrow
      have Hrow := Lib.hid (show RowIs w3.heap.size w3 _ _ from ⟨ka, kc, ma, mc, la, lc, rfl, f1, f2, f3⟩)
      clear f1 f2 f3
      have hs3 := hb3.size
      have Hb3 := Lib.hid (Hb2.out.trans (hb3.mono (by omega)))
      have z3 : Var 85 w3 (w.heap.size + 1) _ := (hb3.block _ (by omega)).trans z2
      have Hn3 := Lib.hid (Hn2.out.below hb3 (by omega))
      have z3l := z3.lt
      clear z2c z2f e0 e1 e2 e3 e4 e5 e6 e7 e8
      obtain ⟨z3c, z3f⟩ := obj_facts z3
      obtain ⟨e0, e1, e2, e3, e4, e5, e6, e7, e8⟩ := Hn3.out
      simp only [Nat.zero_add] at e0 e1 e2 e3 e4 e5 e6 e7 e8
      clear hb3
      go_wp2_with fail
      rw [storeR _ _ _ _ _ _ _ _ _ z3 (by rfl)]
      refine ret_row (by rfl) (by rfl) (Var.row_same z3 _) (by rfl) (by rfl) ?_
      rw [HR2.out]
      exact ⟨below_setRow Hb3.out (by omega) _, _, rfl, (Hrow.out.setRow z3 (by decide) _).keep (by simp [World.setRow]) (fun _ _ _ h => h)⟩
    | false =>
      by_cases h34 : t.kind = 34
      · have hk2 : 20 ≤ t.kind ∧ t.kind ≤ 35 := by omega
        have HR2 := Lib.hid (HR.out.trans (if_pos hk2))
        have h34' : (t.kind == 34) = true := by simp [h34]
        clear hP h34
        go_wp2_with fail
        refine (H5.out w2 hk2).mono ?_
        rintro e w3 ⟨hb3, v, rfl, hrow⟩
        obtain ⟨ka, kc, ma, mc, la, lc, rfl, f1, f2, f3⟩ := hrow
        have Hrow := Lib.hid (show RowIs w3.heap.size w3 _ _ from ⟨ka, kc, ma, mc, la, lc, rfl, f1, f2, f3⟩)
        clear f1 f2 f3
        have hs3 := hb3.size
        have Hb3 := Lib.hid (Hb2.out.trans (hb3.mono (by omega)))
        have z3 : Var 85 w3 (w.heap.size + 1) _ := (hb3.block _ (by omega)).trans z2
        have Hn3 := Lib.hid (Hn2.out.below hb3 (by omega))
        have z3l := z3.lt
        clear z2c z2f e0 e1 e2 e3 e4 e5 e6 e7 e8
        obtain ⟨z3c, z3f⟩ := obj_facts z3
        obtain ⟨e0, e1, e2, e3, e4, e5, e6, e7, e8⟩ := Hn3.out
        simp only [Nat.zero_add] at e0 e1 e2 e3 e4 e5 e6 e7 e8
        clear hb3
        go_wp2_with fail
        rw [storeR _ _ _ _ _ _ _ _ _ z3 (by rfl)]
        refine ret_row (by rfl) (by rfl) (Var.row_same z3 _) (by rfl) (by rfl) ?_
        rw [HR2.out]
        exact ⟨below_setRow Hb3.out (by omega) _, _, rfl, (Hrow.out.setRow z3 (by decide) _).keep (by simp [World.setRow]) (fun _ _ _ h => h)⟩
      · have hk2 : ¬ (20 ≤ t.kind ∧ t.kind ≤ 35) := by unfold Pr.isStatement at hP; simp at hP; omega
        have HR := Lib.hid (HR.out.trans (if_neg hk2))
        have h34' : (t.kind == 34) = false := by simp [h34]
        clear hP h34
        go_wp2_with fail
        refine (H3.out _).mono ?_
        rintro e w3 ⟨rfl, hb3⟩
        have hs3 := hb3.size
        have Hb3 := Lib.hid (Hb2.out.trans (hb3.mono (by omega)))
        have z3 : Var 85 w3 (w.heap.size + 1) _ := (hb3.block _ (by omega)).trans z2
        have Hn3 := Lib.hid (Hn2.out.below hb3 (by omega))
        have z3l := z3.lt
        clear z2c z2f e0 e1 e2 e3 e4 e5 e6 e7 e8
        obtain ⟨z3c, z3f⟩ := obj_facts z3
        obtain ⟨e0, e1, e2, e3, e4, e5, e6, e7, e8⟩ := Hn3.out
        simp only [Nat.zero_add] at e0 e1 e2 e3 e4 e5 e6 e7 e8
        clear hb3
        cases hP : Pr.isDeclaration t with
        | true =>
          unfold Pr.isDeclaration at hP
          have hk3 : 50 ≤ t.kind ∧ t.kind ≤ 57 ∧ t.kind ≠ 52 := by simp at hP; omega
          have HR2 := Lib.hid (HR.out.trans (if_pos hk3))
          clear hP
          go_wp2_with fail
          refine (H6.out w3 hk3).mono ?_
          rintro e w4 ⟨hb4, v, rfl, hrow⟩
          obtain ⟨ka, kc, ma, mc, la, lc, rfl, f1, f2, f3⟩ := hrow
          have Hrow := Lib.hid (show RowIs w4.heap.size w4 _ _ from ⟨ka, kc, ma, mc, la, lc, rfl, f1, f2, f3⟩)
          clear f1 f2 f3
          have hs4 := hb4.size
          have Hb4 := Lib.hid (Hb3.out.trans (hb4.mono (by omega)))
          have z4 : Var 85 w4 (w.heap.size + 1) _ := (hb4.block _ (by omega)).trans z3
          have Hn4 := Lib.hid (Hn3.out.below hb4 (by omega))
          have z4l := z4.lt
          clear z3c z3f e0 e1 e2 e3 e4 e5 e6 e7 e8
          obtain ⟨z4c, z4f⟩ := obj_facts z4
          obtain ⟨e0, e1, e2, e3, e4, e5, e6, e7, e8⟩ := Hn4.out
          simp only [Nat.zero_add] at e0 e1 e2 e3 e4 e5 e6 e7 e8
          clear hb4
          go_wp2_with fail
          rw [storeR _ _ _ _ _ _ _ _ _ z4 (by rfl)]
          refine ret_row (by rfl) (by rfl) (Var.row_same z4 _) (by rfl) (by rfl) ?_
          rw [HR2.out]
          exact ⟨below_setRow Hb4.out (by omega) _, _, rfl, (Hrow.out.setRow z4 (by decide) _).keep (by simp [World.setRow]) (fun _ _ _ h => h)⟩
        | false =>
          have hk3 : ¬ (50 ≤ t.kind ∧ t.kind ≤ 57 ∧ t.kind ≠ 52) := by unfold Pr.isDeclaration at hP; simp at hP; omega
          have HR := Lib.hid (HR.out.trans (if_neg hk3))
          clear hP h34' hk hk2 hk3
          obtain ⟨K, hK⟩ : ∃ K, K = t.kind := ⟨_, rfl⟩
          rw [← hK] at HR e0
          by_cases h52 : K = 52
          · have HR2 := Lib.hid (HR.out.trans (if_pos h52))
            subst h52
            clear hK
            go_wp2_with fail
            rw [storeR _ _ _ _ _ _ _ _ _ z3 (by rfl)]
            rw [HR2.out]
            first
              | (refine ret_row (by rfl) (by rfl) (Var.row_same z3 _) (by rfl) (by rfl) ?_; refine ⟨below_setRow Hb3.out (by omega) _, _, rfl, _, _, _, _, _, _, rfl, ?_, ?_, ?_⟩)
              | (refine ret_row (by rfl) (by rfl) (Var.alloc (Var.row_same z3 _) _) (by rfl) (by rfl) ?_; refine ⟨(below_setRow Hb3.out (by omega) _).alloc (by simp [World.setRow]; omega) _, _, rfl, _, _, _, _, _, _, rfl, ?_, ?_, ?_⟩)
            all_goals (first | exact .inl ⟨rfl, rfl, rfl⟩ | (refine .inr ⟨_, rfl, rfl, (by decide), ?_, ?_⟩; (focus (simp [World.setRow] <;> omega)); (refine Var.new' ?_; (focus (simp [World.setRow] <;> omega)))))
          · have HR := Lib.hid (HR.out.trans (if_neg h52))
            by_cases h58 : K = 58
            · have HR2 := Lib.hid (HR.out.trans (if_pos h58))
              subst h58
              clear hK
              go_wp2_with fail
              rw [storeR _ _ _ _ _ _ _ _ _ z3 (by rfl)]
              rw [HR2.out]
              first
                | (refine ret_row (by rfl) (by rfl) (Var.row_same z3 _) (by rfl) (by rfl) ?_; refine ⟨below_setRow Hb3.out (by omega) _, _, rfl, _, _, _, _, _, _, rfl, ?_, ?_, ?_⟩)
                | (refine ret_row (by rfl) (by rfl) (Var.alloc (Var.row_same z3 _) _) (by rfl) (by rfl) ?_; refine ⟨(below_setRow Hb3.out (by omega) _).alloc (by simp [World.setRow]; omega) _, _, rfl, _, _, _, _, _, _, rfl, ?_, ?_, ?_⟩)
              all_goals (first | exact .inl ⟨rfl, rfl, rfl⟩ | (refine .inr ⟨_, rfl, rfl, (by decide), ?_, ?_⟩; (focus (simp [World.setRow] <;> omega)); (refine Var.new' ?_; (focus (simp [World.setRow] <;> omega)))))
            · have HR := Lib.hid (HR.out.trans (if_neg h58))
              by_cases h60 : K = 60
              · have HR2 := Lib.hid (HR.out.trans (if_pos h60))
                subst h60
                clear hK
                go_wp2_with fail
                rw [storeR _ _ _ _ _ _ _ _ _ z3 (by rfl)]
                rw [HR2.out]
                first
                  | (refine ret_row (by rfl) (by rfl) (Var.row_same z3 _) (by rfl) (by rfl) ?_; refine ⟨below_setRow Hb3.out (by omega) _, _, rfl, _, _, _, _, _, _, rfl, ?_, ?_, ?_⟩)
                  | (refine ret_row (by rfl) (by rfl) (Var.alloc (Var.row_same z3 _) _) (by rfl) (by rfl) ?_; refine ⟨(below_setRow Hb3.out (by omega) _).alloc (by simp [World.setRow]; omega) _, _, rfl, _, _, _, _, _, _, rfl, ?_, ?_, ?_⟩)
                all_goals (first | exact .inl ⟨rfl, rfl, rfl⟩ | (refine .inr ⟨_, rfl, rfl, (by decide), ?_, ?_⟩; (focus (simp [World.setRow] <;> omega)); (refine Var.new' ?_; (focus (simp [World.setRow] <;> omega)))))
              · have HR := Lib.hid (HR.out.trans (if_neg h60))
                by_cases h61 : K = 61
                · have HR2 := Lib.hid (HR.out.trans (if_pos h61))
                  subst h61
                  clear hK
                  go_wp2_with fail
                  rw [storeR _ _ _ _ _ _ _ _ _ z3 (by rfl)]
                  rw [HR2.out]
                  first
                    | (refine ret_row (by rfl) (by rfl) (Var.row_same z3 _) (by rfl) (by rfl) ?_; refine ⟨below_setRow Hb3.out (by omega) _, _, rfl, _, _, _, _, _, _, rfl, ?_, ?_, ?_⟩)
                    | (refine ret_row (by rfl) (by rfl) (Var.alloc (Var.row_same z3 _) _) (by rfl) (by rfl) ?_; refine ⟨(below_setRow Hb3.out (by omega) _).alloc (by simp [World.setRow]; omega) _, _, rfl, _, _, _, _, _, _, rfl, ?_, ?_, ?_⟩)
                  all_goals (first | exact .inl ⟨rfl, rfl, rfl⟩ | (refine .inr ⟨_, rfl, rfl, (by decide), ?_, ?_⟩; (focus (simp [World.setRow] <;> omega)); (refine Var.new' ?_; (focus (simp [World.setRow] <;> omega)))))
                · have HR := Lib.hid (HR.out.trans (if_neg h61))
                  by_cases h62 : K = 62
                  · have HR2 := Lib.hid (HR.out.trans (if_pos h62))
                    subst h62
                    clear hK
                    go_wp2_with fail
                    rw [storeR _ _ _ _ _ _ _ _ _ z3 (by rfl)]
                    rw [HR2.out]
                    first
                      | (refine ret_row (by rfl) (by rfl) (Var.row_same z3 _) (by rfl) (by rfl) ?_; refine ⟨below_setRow Hb3.out (by omega) _, _, rfl, _, _, _, _, _, _, rfl, ?_, ?_, ?_⟩)
                      | (refine ret_row (by rfl) (by rfl) (Var.alloc (Var.row_same z3 _) _) (by rfl) (by rfl) ?_; refine ⟨(below_setRow Hb3.out (by omega) _).alloc (by simp [World.setRow]; omega) _, _, rfl, _, _, _, _, _, _, rfl, ?_, ?_, ?_⟩)
                    all_goals (first | exact .inl ⟨rfl, rfl, rfl⟩ | (refine .inr ⟨_, rfl, rfl, (by decide), ?_, ?_⟩; (focus (simp [World.setRow] <;> omega)); (refine Var.new' ?_; (focus (simp [World.setRow] <;> omega)))))
                  · have HR2 := Lib.hid (HR.out.trans (if_neg h62))
                    have q52 : (K == 52) = false := by simp [h52]
                    have q58 : (K == 58) = false := by simp [h58]
                    have q60 : (K == 60) = false := by simp [h60]
                    have q61 : (K == 61) = false := by simp [h61]
                    have q62 : (K == 62) = false := by simp [h62]
                    clear h52 h58 h60 h61 h62 hK
                    go_wp2_with fail
                    rw [storeR _ _ _ _ _ _ _ _ _ z3 (by rfl)]
                    rw [HR2.out]
                    first
                      | (refine ret_row (by rfl) (by rfl) (Var.row_same z3 _) (by rfl) (by rfl) ?_; refine ⟨below_setRow Hb3.out (by omega) _, _, rfl, _, _, _, _, _, _, rfl, ?_, ?_, ?_⟩)
                      | (refine ret_row (by rfl) (by rfl) (Var.alloc (Var.row_same z3 _) _) (by rfl) (by rfl) ?_; refine ⟨(below_setRow Hb3.out (by omega) _).alloc (by simp [World.setRow]; omega) _, _, rfl, _, _, _, _, _, _, rfl, ?_, ?_, ?_⟩)
                    all_goals (first | exact .inl ⟨rfl, rfl, rfl⟩ | (refine .inr ⟨_, rfl, rfl, (by decide), ?_, ?_⟩; (focus (simp [World.setRow] <;> omega)); (refine Var.new' ?_; (focus (simp [World.setRow] <;> omega)))))
end Go.Proofs.YtbgpboiblggmiaaGreatDoor

/-
  A node whose fields are right (hasFields).
-/
namespace Go.Proofs.YtbgpboiblggmiaaGreatDoor
open Go.RowKit
open Px (St T D Res)

/-- fields that a row allows -/
structure FieldsOk (r : Rw) (t : T) : Prop where
  name : LabelOk r.name t.name
  other : LabelOk r.other t.other
  n : 0 ≤ t.n ∧ t.n ≤ r.number
  len : 0 ≤ t.len ∧ t.len ≤ r.len
  init : 0 ≤ t.init ∧ t.init ≤ r.init
  ghost : r.ghost = true ∨ t.ghost = false

set_option maxRecDepth 100000 in
set_option maxHeartbeats 2000000 in
theorem hasFields_yes (r : Rw) (t : T) (kv : Value) (k1 k2 k3 : Value) (m : Nat) (w : World) (h : FieldsOk r t) (hk : KeysIn w m) (hM : MaxAt w) :
    Calls Tryz.prog 56 #[.agg #[.int .i64 r.name, .int .i64 r.other, .int .i64 r.number, .int .i64 r.len, .int .i64 r.init, .bool r.ghost, k1, k2, k3], nodeVal t kv, .map (some m)] w fun e w' => e = .returned (.bool true) ∧ Below w.heap.size w w' := by
  have hmw : m < w.heap.size := by obtain ⟨es, k, h1, _⟩ := hk; exact lt_heap h1
  have hMl := hM.lt
  have Hk := Lib.hid hk
  have HM := Lib.hid hM
  have H := Lib.hid h
  clear hk hM h
  unfold nodeVal
  obtain ⟨W, hW⟩ : ∃ W, W = (w.alloc (.cells #[.int .i64 r.name, .int .i64 r.other, .int .i64 r.number, .int .i64 r.len, .int .i64 r.init, .bool r.ghost, k1, k2, k3] 85)).alloc (.cells #[.int .i64 t.kind, .string ⟨t.name.toArray⟩, .string ⟨t.other.toArray⟩, .int .i64 t.n, .int .i64 t.len, .int .i64 t.init, .bool t.ghost, kv, .int .i64 t.off] 25) := ⟨_, rfl⟩
  have hWs : W.heap.size = w.heap.size + 1 + 1 := by rw [hW]; simp
  have HWb := Lib.hid (show Below w.heap.size w W by rw [hW]; exact ((Below.refl _ _).alloc (Nat.le_refl _) _).alloc (by simp) _)
  have z1 : Var 85 W w.heap.size #[.int .i64 r.name, .int .i64 r.other, .int .i64 r.number, .int .i64 r.len, .int .i64 r.init, .bool r.ghost, k1, k2, k3] := by rw [hW]; exact Var.alloc (Var.new _ _ _) _
  have z2 : Var 25 W (w.heap.size + 1) #[.int .i64 t.kind, .string ⟨t.name.toArray⟩, .string ⟨t.other.toArray⟩, .int .i64 t.n, .int .i64 t.len, .int .i64 t.init, .bool t.ghost, kv, .int .i64 t.off] := by rw [hW]; exact Var.new' (by simp)
  have HW := Lib.hid hW
  go_enter Tryz.func56, Tryz.ntmps56
  go_wp2_with fail
  rw [← hW]
  clear hW
  refine (label_yes r.name t.name m W H.out.name (Hk.out.below HWb.out hmw) (HM.out.below HWb.out hMl)).mono ?_
  rintro e w1 ⟨rfl, hb1⟩
  have hs1 := hb1.size
  have Hb1 := Lib.hid (HWb.out.trans (hb1.mono (by omega)))
  have y1 : Var 85 w1 w.heap.size _ := (hb1.block _ (by omega)).trans z1
  have y2 : Var 25 w1 (w.heap.size + 1) _ := (hb1.block _ (by omega)).trans z2
  have y1l := y1.lt
  have y2l := y2.lt
  obtain ⟨y1c, y1f⟩ := obj_facts y1
  obtain ⟨y2c, y2f⟩ := obj_facts y2
  clear hb1 z1 z2
  go_wp2_with fail
  refine (label_yes r.other t.other m w1 H.out.other (Hk.out.below Hb1.out hmw) (HM.out.below Hb1.out hMl)).mono ?_
  rintro e w2 ⟨rfl, hb2⟩
  have hs2 := hb2.size
  have Hb2 := Lib.hid (Hb1.out.trans (hb2.mono (by omega)))
  have x1 : Var 85 w2 w.heap.size _ := (hb2.block _ (by omega)).trans y1
  have x2 : Var 25 w2 (w.heap.size + 1) _ := (hb2.block _ (by omega)).trans y2
  have x1l := x1.lt
  have x2l := x2.lt
  obtain ⟨x1c, x1f⟩ := obj_facts x1
  obtain ⟨x2c, x2f⟩ := obj_facts x2
  clear hb2 y1c y1f y2c y2f y1 y2
  go_wp2_with fail
  refine (isUpTo_yes t.n r.number w2 H.out.n.1 H.out.n.2).mono ?_
  rintro e w3 ⟨rfl, rfl⟩
  go_wp2_with fail
  refine (isUpTo_yes t.len r.len _ H.out.len.1 H.out.len.2).mono ?_
  rintro e w4 ⟨rfl, rfl⟩
  go_wp2_with fail
  refine (isUpTo_yes t.init r.init _ H.out.init.1 H.out.init.2).mono ?_
  rintro e w5 ⟨rfl, rfl⟩
  have hg := H.out.ghost
  cases hrg : r.ghost with
  | true =>
    go_wp2_with fail
    refine bodyPost_ret (v := .bool true) ?_ rfl ⟨rfl, Hb2.out⟩
    simp [results, Tryz.results56, go_sem]
  | false =>
    have htg : t.ghost = false := by rw [hrg] at hg; simpa using hg
    go_wp2_with fail
    refine bodyPost_ret (v := .bool true) ?_ rfl ⟨rfl, Hb2.out⟩
    simp [results, Tryz.results56, go_sem]
end Go.Proofs.YtbgpboiblggmiaaGreatDoor

/-
  The kids that a row allows (slices.Clone).
-/
namespace Go.Proofs.YtbgpboiblggmiaaGreatDoor
open Go.RowKit
open Px (St T D Res)

theorem infoP : (Tryz.prog.info? 103).map (fun i => (i.zero, i.size, i.bytes)) = some (some .nilFunc, 1, 8) := by kernel_rfl
theorem fn_ones (l : List FuncId) : ∀ u ∈ l.map fnV, u.oneCell' = true := by
  intro u hu
  obtain ⟨f, _, rfl⟩ := List.mem_map.1 hu
  rfl

set_option maxRecDepth 100000 in
set_option maxHeartbeats 2000000 in
theorem clone_any (l : List FuncId) (a : Option Addr) (cap : Nat) (w : World) (h : FnsAt w.heap.size w a cap l) :
    Calls Tryz.prog 98 #[.slice a l.length cap] w fun e w' => ∃ v, e = .returned v ∧ w'.ownsRow w.heap.size 103 1 v l.length (l.map fnV) ∧ Below w.heap.size w w' := by
  obtain ⟨i0, hi, hz0, hz1, hz2⟩ := info_parts infoP
  have H := Lib.hid h
  have hq := fun (W : World) (a : Option Addr) (n c : Nat) => Lib.run_eql_slice_nil (P := Tryz.prog) W 83 103 a n c 0 0 Tryz.underlying83
  rcases h with ⟨rfl, rfl, rfl⟩ | ⟨b, rfl, hcap, h8, h2, h3⟩
  · have hq0 := hq w none 0 0
    clear hq
    go_enter Tryz.func98, Tryz.ntmps98
    go_wp2_with fail
    refine bodyPost_ret (v := .slice none 0 0) ?_ rfl ⟨_, rfl, World.ownsRow_nil _ _ _ _, Below.refl _ _⟩
    simp [results, Tryz.results98, go_sem]
  · clear h3
    have hq0 := hq w (some ⟨b, 0, none⟩) l.length cap
    obtain ⟨n, hn⟩ : ∃ n, n = l.length := ⟨_, rfl⟩
    have HH := Lib.hid (show w.ownsRow 0 103 1 (.slice (some ⟨b, 0, none⟩) n cap) n (l.map fnV) by rw [hn]; exact H.out.own)
    have Hn := Lib.hid hn
    rw [← hn] at hq0 h8 ⊢
    clear hq hn hcap
    go_enter Tryz.func98, Tryz.ntmps98
    go_wp2_with (first | (at_builtin; (refine wpList_append_rows _ rfl (.tmp 5) (.tmp 6) 83 rfl w.heap.size 103 i0 .nilFunc 1 8 Tryz.underlying83 hi hz0 hz1 hz2 rfl (by decide) _ 0 [] rfl (World.ownsRow_lit w #[] 0 (Nat.le_refl _) (by decide) rfl) 0 _ n (l.map fnV) rfl (HH.out.alloc _) (fn_ones l) (by unfold maxLen; omega) (by omega) (by simp) ?_); intro v' w' hown hgrow))
    have hv := hown
    go_wp2_with fail
    refine bodyPost_ret (v := v') ?_ rfl ⟨_, rfl, by rw [Nat.zero_add, List.nil_append] at hown; exact hown, ((Below.refl w.heap.size w).alloc (Nat.le_refl _) _).grown hgrow (by simp) (fun k hk => by cases hk; exact Nat.le_refl _)⟩
    simp [results, Tryz.results98, go_sem]
end Go.Proofs.YtbgpboiblggmiaaGreatDoor

/-
  The kids that a row allows (hasKids).
-/
namespace Go.Proofs.YtbgpboiblggmiaaGreatDoor
open Go.RowKit
open Px (St T D Res)

/-- a property holds of a tree -/
def PropYes (f : FuncId) (t : T) : Prop :=
  (∀ (args : Array Value) (w : World), (callFunc f args).run Tryz.prog w = .ok (.enter f args) w) ∧
  ∀ (a : Option Addr) (cap : Nat) (w : World), Calls Tryz.prog f #[nodeVal t (.slice a t.kids.length cap)] w fun e w' => e = .returned (.bool true) ∧ Below w.heap.size w w'

/-- more, j times -/
def rep (l : List FuncId) : Nat → List FuncId
  | 0 => []
  | j + 1 => rep l j ++ l
theorem rep_len (l : List FuncId) : ∀ j, (rep l j).length = j * l.length
  | 0 => by simp [rep]
  | j + 1 => by rw [rep, List.length_append, rep_len l j, Nat.succ_mul]

/-- kids that a row allows -/
def KidsOk (r : Rw) (kids : List T) : Prop :=
  ∃ j, (r.more = [] → j = 0) ∧ kids.length = r.kids.length + j * r.more.length + r.last.length ∧ kids.length ≤ 3000 ∧
    ∀ (i : Nat) (f : FuncId) (t : T), (r.kids ++ rep r.more j ++ r.last)[i]? = some f → kids[i]? = some t → PropYes f t

def lenOf : Value → Nat
  | .slice _ n _ => n
  | _ => 0
theorem fns_map (l m : List FuncId) : l.map fnV ++ m.map fnV = (l ++ m).map fnV := by rw [List.map_append]

set_option maxRecDepth 100000 in
set_option maxHeartbeats 4000000 in
theorem hasKids_yes (r : Rw) (v : Value) (kids : List T) (a : Option Addr) (cap : Nat) (w : World) (hr : RowIs w.heap.size w r v) (hk : RRow w.heap.size w kids (.slice a kids.length cap)) (h : KidsOk r kids) :
    Calls Tryz.prog 57 #[v, .slice a kids.length cap] w fun e w' => e = .returned (.bool true) ∧ Below w.heap.size w w' := by
  obtain ⟨i0, hi, hz0, hz1, hz2⟩ := info_parts infoP
  obtain ⟨ka, kc, ma, mc, la, lc, rfl, f1, f2, f3⟩ := hr
  obtain ⟨j, hj0, hlen, hmax, hprop⟩ := h
  have Hprop := Lib.hid hprop
  have Hk := Lib.hid hk
  have F1 := Lib.hid f1
  have F2 := Lib.hid f2
  have F3 := Lib.hid f3
  have Hlen := Lib.hid hlen
  have Hj0 := Lib.hid hj0
  obtain ⟨n, hn⟩ : ∃ n, n = kids.length := ⟨_, rfl⟩
  obtain ⟨nk, hnk⟩ : ∃ x, x = r.kids.length := ⟨_, rfl⟩
  obtain ⟨nm, hnm⟩ : ∃ x, x = r.more.length := ⟨_, rfl⟩
  obtain ⟨nl, hnl⟩ : ∃ x, x = r.last.length := ⟨_, rfl⟩
  have Hn := Lib.hid hn
  have Hnk := Lib.hid hnk
  have Hnm := Lib.hid hnm
  have Hnl := Lib.hid hnl
  have Hsum := Lib.hid (show n = nk + j * nm + nl by rw [hn, hlen, hnk, hnm, hnl])
  have hmx : n ≤ 3000 := by omega
  have hnk8 : nk ≤ 8 := by rcases f1 with ⟨h, _⟩ | ⟨b, _, _, h8, _⟩; · rw [h] at hnk; simp at hnk; omega
                           · omega
  have hnm8 : nm ≤ 8 := by rcases f2 with ⟨h, _⟩ | ⟨b, _, _, h8, _⟩; · rw [h] at hnm; simp at hnm; omega
                           · omega
  have hnl8 : nl ≤ 8 := by rcases f3 with ⟨h, _⟩ | ⟨b, _, _, h8, _⟩; · rw [h] at hnl; simp at hnl; omega
                           · omega
  rw [← hn, ← hnk, ← hnm, ← hnl]
  clear hlen hmax hprop hk f1 f2 f3 hn hnk hnm hnl hj0
  go_enter Tryz.func57, Tryz.ntmps57
  go_wp2_with fail
  obtain ⟨W, hW⟩ : ∃ W, W = w.alloc (.cells #[.int .i64 r.name, .int .i64 r.other, .int .i64 r.number, .int .i64 r.len, .int .i64 r.init, .bool r.ghost, .slice ka nk kc, .slice ma nm mc, .slice la nl lc] 85) := ⟨_, rfl⟩
  have hWs : W.heap.size = w.heap.size + 1 := by rw [hW]; simp
  have HWb := Lib.hid (show Below w.heap.size w W by rw [hW]; exact (Below.refl _ _).alloc (Nat.le_refl _) _)
  have z0 : Var 85 W w.heap.size #[.int .i64 r.name, .int .i64 r.other, .int .i64 r.number, .int .i64 r.len, .int .i64 r.init, .bool r.ghost, .slice ka nk kc, .slice ma nm mc, .slice la nl lc] := by rw [hW]; exact Var.new _ _ _
  have G1 := F1.out.keep (w' := W) (N' := W.heap.size) (by omega) (fun b c hb hv => (HWb.out.block b hb).trans hv)
  have G2 := Lib.hid (F2.out.keep (w' := W) (N' := W.heap.size) (by omega) (fun b c hb hv => (HWb.out.block b hb).trans hv))
  have G3 := Lib.hid (F3.out.keep (w' := W) (N' := W.heap.size) (by omega) (fun b c hb hv => (HWb.out.block b hb).trans hv))
  rw [← hW]
  clear hW
  have hc := clone_any r.kids ka kc W G1
  rw [← Hnk.out] at hc
  clear G1
  refine hc.mono ?_
  rintro e w1 ⟨v1, rfl, hown1, hb1⟩
  clear hc
  obtain ⟨a1, c1, rfl⟩ := ownsRow_form hown1
  have Hz := Lib.hid z0
  have Hown1 := Lib.hid hown1
  have Hb1 := Lib.hid hb1
  clear z0 hown1 hb1
  go_wp2_with fail
  go_loopw [5] (fun v wr => ∃ (i q : Nat) (a' : Option Addr) (c' : Nat), i ≤ j ∧ Hid (q = nk + i * nm) ∧ v = .slice a' q c' ∧ Hid (wr.ownsRow W.heap.size 103 1 (.slice a' q c') q ((r.kids ++ rep r.more i).map fnV)) ∧ Hid (Below W.heap.size W wr)) (fun v _ => n + 1 - lenOf v)
  case atStart => exact ⟨0, nk, a1, c1, Nat.zero_le _, Lib.hid (by omega), rfl, Lib.hid (by rw [rep, List.append_nil]; exact Hown1.out), Hb1⟩
  case round =>
    obtain ⟨i, q, a', c', hij, Hq, rfl, Hown, Hb⟩ := hrel
    have hbs := Hb.out.size
    have z : Var 85 wr w.heap.size _ := (Hb.out.block _ (by omega)).trans Hz.out
    obtain ⟨zc, zf⟩ := obj_facts z
    by_cases hlt : i < j
    · have hm0 : 0 < nm := by
        rcases Nat.eq_zero_or_pos nm with h0 | h0
        · have := Hj0.out (List.length_eq_zero_iff.1 (Hnm.out.symm.trans h0))
          omega
        · exact h0
      have hqn : q + nm + nl ≤ n := by
        have hle : (i + 1) * nm ≤ j * nm := Nat.mul_le_mul_right _ hlt
        have hstep : (i + 1) * nm = i * nm + nm := Nat.succ_mul _ _
        have h1 := Hq.out
        have h2 := Hsum.out
        omega
      have hc1 : decide (0 < (nm : Int)) = true := by simp; omega
      have hc2 : decide ((q : Int) + (nl : Int) < (n : Int)) = true := by simp; omega
      have hsrc := Lib.hid (show wr.ownsRow 0 103 1 (.slice ma nm mc) nm (r.more.map fnV) by rw [Hnm.out]; exact (G2.out.keep (w' := wr) (N' := W.heap.size) (Nat.le_refl _) (fun b c hb hv => (Hb.out.block b hb).trans hv)).own)
      go_wp2_with (at_builtin; (refine wpList_append_rows _ rfl (.tmp 26) (.tmp 28) 83 rfl W.heap.size 103 i0 .nilFunc 1 8 Tryz.underlying83 hi hz0 hz1 hz2 rfl (by decide) _ q _ rfl Hown.out 0 _ nm (r.more.map fnV) rfl hsrc.out (fn_ones r.more) (by unfold maxLen; omega) (by omega) hbs ?_); intro v' w' hown hgrow)
      obtain ⟨a2, c2, rfl⟩ := ownsRow_form hown
      have hgr : wr.grownBy w' (Value.slice a' q c').ownBlock := hgrow
      have Hown2 := Lib.hid (show w'.ownsRow W.heap.size 103 1 (.slice a2 (q + nm) c2) (q + nm) ((r.kids ++ rep r.more (i + 1)).map fnV) by rw [rep, ← List.append_assoc, ← fns_map]; exact hown)
      have Hb2 := Lib.hid (Hb.out.grown hgr hbs (fun k hk => (Hown.out.lt k hk).1))
      have Hq2 := Lib.hid (show q + nm = nk + (i + 1) * nm by have := Hq.out; rw [Nat.succ_mul]; omega)
      clear hown hgrow hgr
      go_wp2_with fail
      go_roundw
      case rel => exact ⟨i + 1, q + nm, a2, c2, by omega, Hq2, rfl, Hown2, Hb2⟩
      case measure => simp [lenOf]; omega
    · obtain rfl : i = j := by omega
      have hqn : q + nl = n := by have h1 := Hq.out; have h2 := Hsum.out; omega
      have Hqn := Lib.hid hqn
      have hc2 : decide ((q : Int) + (nl : Int) < (n : Int)) = false := by simp; omega
      have hq3 : q ≤ 3000 := by omega
      have hsrc := Lib.hid (show wr.ownsRow 0 103 1 (.slice la nl lc) nl (r.last.map fnV) by rw [Hnl.out]; exact (G3.out.keep (w' := wr) (N' := W.heap.size) (Nat.le_refl _) (fun b c hb hv => (Hb.out.block b hb).trans hv)).own)
      clear hqn
      go_wp2_with (at_builtin; (refine wpList_append_rows _ rfl (.tmp 30) (.tmp 32) 83 rfl W.heap.size 103 i0 .nilFunc 1 8 Tryz.underlying83 hi hz0 hz1 hz2 rfl (by decide) _ q _ rfl Hown.out 0 _ nl (r.last.map fnV) rfl hsrc.out (fn_ones r.last) (by unfold maxLen; omega) (by omega) hbs ?_); intro v' w' hown hgrow; rw [Hqn.out] at hown; obtain ⟨a2, c2, hv⟩ := ownsRow_form hown; subst hv)
      all_goals
        have hgr : wr.grownBy w' (Value.slice a' q c').ownBlock := hgrow
        have Hown2 := Lib.hid (show w'.ownsRow W.heap.size 103 1 (.slice a2 n c2) n ((r.kids ++ rep r.more i ++ r.last).map fnV) by rw [← fns_map]; exact hown)
        have Hb2 := Lib.hid (Hb.out.grown hgr hbs (fun k hk => (Hown.out.lt k hk).1))
        have hb2s := Hb2.out.size
        clear hown hgrow hgr z zc zf hc2
        go_loopw [41] (fun iv wk => ∃ k : Nat, k ≤ n ∧ iv = .int .i64 k ∧ Hid (Below w'.heap.size w' wk)) (fun iv _ => n - (intOf iv).toNat)
        case atStart => exact ⟨0, by omega, rfl, Lib.hid (Below.refl _ _)⟩
        case round =>
          obtain ⟨k, hk', rfl, Hbk⟩ := hrel
          have hbks := Hbk.out.size
          by_cases hkn : k < n
          · obtain ⟨t, ht⟩ : ∃ t, kids[k]? = some t := ⟨_, List.getElem?_eq_getElem (by rw [← Hn.out]; exact hkn)⟩
            obtain ⟨f, hf⟩ : ∃ f, (r.kids ++ rep r.more i ++ r.last)[k]? = some f := by
              refine ⟨_, List.getElem?_eq_getElem ?_⟩
              rw [List.length_append, List.length_append, rep_len, ← Hnk.out, ← Hnm.out, ← Hnl.out, ← Hsum.out]
              exact hkn
            obtain ⟨hcf, hcall⟩ := Hprop.out k f t hf ht
            obtain ⟨b, o, ua, uc, ha, hb, hrow, h9⟩ := (show RRow w.heap.size w kids (.slice a kids.length cap) from Hk.out).get ht
            subst ha
            have hbel : Below w.heap.size w wr := HWb.out.trans ((Hb2.out.mono (by omega)).trans (Hbk.out.mono (by omega)))
            obtain ⟨d0, d1, d2, d3, d4, d5, d6, d7, d8⟩ := h9.below hbel hb
            obtain ⟨g, hg, hgl, hfc⟩ : ∃ g, a2 = some ⟨g, 0, none⟩ ∧ g < wr.heap.size ∧ wr.cell? ⟨g, k, none⟩ = some (fnV f) := by
              rcases Hown2.out.2 with ⟨_, h0⟩ | ⟨g, cap', cur, hv, _, hcur, _⟩
              · omega
              · cases hv
                have hlt := lt_heap hcur
                refine ⟨g, rfl, by omega, ?_⟩
                rw [Hbk.out.cell (p := ⟨g, k, none⟩) hlt]
                rw [Hown2.out.cellAt k (by omega)]
                rw [List.getElem?_map, hf]
                rfl
            subst hg
            unfold fnV at hfc
            have hcall2 := Lib.hid (hcall ua uc)
            have hcf2 := hcf
            unfold nodeVal at hcall2
            have hk0 : (0 : Int) ≤ (k : Int) := Int.natCast_nonneg _
            have hk1 : (k : Int) < (n : Int) := by omega
            clear hcall hf ht h9 hrow
            obtain ⟨V, hV⟩ : ∃ V, V = wr.alloc (.cells #[.int .i64 t.kind, .string ⟨t.name.toArray⟩, .string ⟨t.other.toArray⟩, .int .i64 t.n, .int .i64 t.len, .int .i64 t.init, .bool t.ghost, .slice ua t.kids.length uc, .int .i64 t.off] 25) := ⟨_, rfl⟩
            have hVs : V.heap.size = wr.heap.size + 1 := by rw [hV]; simp
            have hVb : Below wr.heap.size wr V := by rw [hV]; exact (Below.refl _ _).alloc (Nat.le_refl _) _
            have hnV : NineAt V wr.heap.size 0 t (.slice ua t.kids.length uc) := by rw [hV]; exact NineAt.var wr t _
            have hfV : V.cell? ⟨g, k, none⟩ = some (.func (Fn.func f) #[] #[]) := (hVb.cell (p := ⟨g, k, none⟩) hgl).trans hfc
            go_wp2_with fail
            rw [← hV]
            have HVb := Lib.hid (Hbk.out.trans (hVb.mono hbks))
            obtain ⟨g0, g1, g2, g3, g4, g5, g6, g7, g8⟩ := hnV
            simp only [Nat.zero_add] at g0 g1 g2 g3 g4 g5 g6 g7 g8
            clear hV hVb hfc d0 d1 d2 d3 d4 d5 d6 d7 d8 hbel
            have hVs2 : w'.heap.size ≤ V.heap.size := by omega
            go_region_law (go_simp; refine (hcall2.out _).mono ?_; rintro e w2 ⟨rfl, hb2⟩; have Hb3 := Lib.hid hb2; clear hb2)
            all_goals
              go_wp2_with fail
              go_roundw
              case rel => exact ⟨k + 1, by omega, by go_num, Lib.hid (HVb.out.trans ((Below.drew (Below.refl _ _)).trans (Hb3.out.mono (by show w'.heap.size ≤ V.heap.size; omega))))⟩
              case measure => simp [intOf]; omega
          · go_wp2_with fail
            refine bodyPost_ret (v := .bool true) ?_ rfl ⟨rfl, HWb.out.trans ((Hb2.out.mono (by omega)).trans (Hbk.out.mono (by omega)))⟩
            simp [results, Tryz.results57, go_sem]
end Go.Proofs.YtbgpboiblggmiaaGreatDoor

/-
  A tree that is well formed (wellFormed), and valid (Valid).
-/
namespace Go.Proofs.YtbgpboiblggmiaaGreatDoor
open Go.RowKit
open Px (St T D Res)

mutual
/-- fields and kids are right everywhere -/
def WfT : T → Prop
  | .mk k a b n l i g kids o => FieldsOk (rowP (.mk k a b n l i g kids o)) (.mk k a b n l i g kids o) ∧ KidsOk (rowP (.mk k a b n l i g kids o)) kids ∧ WfL kids
def WfL : List T → Prop
  | [] => True
  | t :: r => WfT t ∧ WfL r
end
theorem wfT_iff (t : T) : WfT t ↔ FieldsOk (rowP t) t ∧ KidsOk (rowP t) t.kids ∧ WfL t.kids := by
  cases t
  rw [WfT]
  rfl
theorem wfL_at : ∀ (l : List T) (k : Nat) (t : T), WfL l → l[k]? = some t → WfT t
  | [], k, t, _, h => by simp at h
  | x :: r, 0, t, hl, h => by rw [WfL] at hl; simp at h; subst h; exact hl.1
  | x :: r, k + 1, t, hl, h => by rw [WfL] at hl; exact wfL_at r k t hl.2 (by simpa using h)

set_option maxRecDepth 100000 in
set_option maxHeartbeats 4000000 in
theorem wellFormed_yes : ∀ (n : Nat) (t : T) (a : Option Addr) (cap m : Nat) (w : World), Px.size t ≤ n → WfT t → RRow w.heap.size w t.kids (.slice a t.kids.length cap) → KeysIn w m → MaxAt w →
    Calls Tryz.prog 39 #[nodeVal t (.slice a t.kids.length cap), .map (some m)] w fun e w' => e = .returned (.bool true) ∧ Below w.heap.size w w'
  | 0, t, a, cap, m, w, hn, _, _, _, _ => by cases t; rw [Px.size] at hn; omega
  | n + 1, t, a, cap, m, w, hn, hwf, hk, hm, hM => by
    have ih := Lib.hid (wellFormed_yes n)
    have hs : Px.sizes t.kids ≤ n := by cases t; rw [Px.size] at hn; show Px.sizes _ ≤ _; simp only [Px.T.kids]; omega
    have hlen : t.kids.length ≤ maxLen := hk.len
    have hmax : maxLen ≤ 9223372036854775807 := by decide
    have hmw : m < w.heap.size := by obtain ⟨es, k, h1, _⟩ := hm; exact lt_heap h1
    have hMl := hM.lt
    have Hwf := Lib.hid ((wfT_iff t).1 hwf)
    have Hk := Lib.hid hk
    have Hm := Lib.hid hm
    have HM := Lib.hid hM
    have hrow := rowOf_any t a cap
    have hfl := hasFields_yes (rowP t) t (.slice a t.kids.length cap)
    unfold nodeVal at hrow hfl ⊢
    have Hrow := Lib.hid hrow
    have Hfl := Lib.hid hfl
    clear hn hwf hk hm hM hrow hfl
    go_enter Tryz.func39, Tryz.ntmps39
    go_wp2_with fail
    obtain ⟨W, hW⟩ : ∃ W, W = w.alloc (.cells #[.int .i64 t.kind, .string ⟨t.name.toArray⟩, .string ⟨t.other.toArray⟩, .int .i64 t.n, .int .i64 t.len, .int .i64 t.init, .bool t.ghost, .slice a t.kids.length cap, .int .i64 t.off] 25) := ⟨_, rfl⟩
    have hWs : W.heap.size = w.heap.size + 1 := by rw [hW]; simp
    have HWb := Lib.hid (show Below w.heap.size w W by rw [hW]; exact (Below.refl _ _).alloc (Nat.le_refl _) _)
    have HWn := Lib.hid (show NineAt W w.heap.size 0 t (.slice a t.kids.length cap) by rw [hW]; exact NineAt.var w t _)
    rw [← hW]
    clear hW
    refine (Hrow.out W).mono ?_
    rintro e w1 ⟨hb1, v, rfl, hr⟩
    have hs1 := hb1.size
    have Hb1 := Lib.hid (HWb.out.trans (hb1.mono (by omega)))
    have Hn1 := Lib.hid (HWn.out.below hb1 (by omega))
    have Hr := Lib.hid hr
    obtain ⟨ka, kc, ma, mc, la, lc, rfl, f1, f2, f3⟩ := hr
    obtain ⟨e0, e1, e2, e3, e4, e5, e6, e7, e8⟩ := Hn1.out
    simp only [Nat.zero_add] at e0 e1 e2 e3 e4 e5 e6 e7 e8
    have hl1 : w.heap.size < w1.heap.size := by omega
    clear hb1 f1 f2 f3
    obtain ⟨V, hV⟩ : ∃ V, V = w1.alloc (.cells #[.int .i64 (rowP t).name, .int .i64 (rowP t).other, .int .i64 (rowP t).number, .int .i64 (rowP t).len, .int .i64 (rowP t).init, .bool (rowP t).ghost, .slice ka (rowP t).kids.length kc, .slice ma (rowP t).more.length mc, .slice la (rowP t).last.length lc] 85) := ⟨_, rfl⟩
    have hVs : V.heap.size = w1.heap.size + 1 := by rw [hV]; simp
    have hVb : Below w1.heap.size w1 V := by rw [hV]; exact (Below.refl _ _).alloc (Nat.le_refl _) _
    have HVb := Lib.hid (Hb1.out.trans (hVb.mono (by omega)))
    have HVn := Lib.hid (Hn1.out.below hVb hl1)
    have HVr := Lib.hid (Hr.out.keep (w' := V) (N' := V.heap.size) (by omega) (fun b c hb hv => (hVb.block b hb).trans hv))
    have z : Var 85 V w1.heap.size #[.int .i64 (rowP t).name, .int .i64 (rowP t).other, .int .i64 (rowP t).number, .int .i64 (rowP t).len, .int .i64 (rowP t).init, .bool (rowP t).ghost, .slice ka (rowP t).kids.length kc, .slice ma (rowP t).more.length mc, .slice la (rowP t).last.length lc] := by rw [hV]; exact Var.new _ _ _
    go_wp2_with fail
    rw [← hV]
    clear hV hVb e0 e1 e2 e3 e4 e5 e6 e7 e8
    refine (Hfl.out _ _ _ m V Hwf.out.1 (Hm.out.below HVb.out hmw) (HM.out.below HVb.out hMl)).mono ?_
    rintro e w2 ⟨rfl, hb2⟩
    have hs2 := hb2.size
    have Hb2 := Lib.hid (HVb.out.trans (hb2.mono (by omega)))
    have hn2 := HVn.out.below hb2 (by omega)
    have hr2 := HVr.out.keep (w' := w2) (N' := w2.heap.size) (by omega) (fun b c hb hv => (hb2.block b hb).trans hv)
    have z2 : Var 85 w2 w1.heap.size _ := (hb2.block _ (by omega)).trans z
    have hl2 : w.heap.size < w2.heap.size := by omega
    have hl3 : w1.heap.size < w2.heap.size := by omega
    have hkids := hasKids_yes (rowP t) _ t.kids a cap w2 hr2 ((Hk.out.below Hb2.out).mono (by omega)) Hwf.out.2.1
    have Hkids := Lib.hid hkids
    have Hn2 := Lib.hid hn2
    obtain ⟨zc, zf⟩ := obj_facts z2
    obtain ⟨e0, e1, e2, e3, e4, e5, e6, e7, e8⟩ := hn2
    simp only [Nat.zero_add] at e0 e1 e2 e3 e4 e5 e6 e7 e8
    clear hb2 hr2 z hkids
    go_wp2_with fail
    refine Hkids.out.mono ?_
    rintro e w3 ⟨rfl, hb3⟩
    have hs3 := hb3.size
    have Hb3 := Lib.hid (Hb2.out.trans (hb3.mono (by omega)))
    have Hn3 := Lib.hid (Hn2.out.below hb3 hl2)
    clear zc zf e0 e1 e2 e3 e4 e5 e6 e7 e8 z2
    obtain ⟨e0, e1, e2, e3, e4, e5, e6, e7, e8⟩ := Hn3.out
    simp only [Nat.zero_add] at e0 e1 e2 e3 e4 e5 e6 e7 e8
    clear hb3
    have hl4 : w.heap.size < w3.heap.size := by omega
    go_wp2_with fail
    go_loopw [25] (fun i wr => ∃ k : Nat, k ≤ t.kids.length ∧ i = .int .i64 k ∧ Hid (Below w3.heap.size w3 wr)) (fun i _ => t.kids.length - (intOf i).toNat)
    case atStart => exact ⟨0, by omega, rfl, Lib.hid (Below.refl _ _)⟩
    case round =>
      obtain ⟨k, hk', rfl, Hb⟩ := hrel
      have hbs := Hb.out.size
      by_cases hlt : k < t.kids.length
      · obtain ⟨u, hu⟩ : ∃ u, t.kids[k]? = some u := ⟨_, List.getElem?_eq_getElem hlt⟩
        have hus : Px.size u ≤ n := by
          have h1 : Px.sizes (t.kids.drop k) ≤ Px.sizes t.kids := sizes_drop_le t.kids k
          rw [sizes_drop hu, Px.sizes] at h1
          omega
        have hbel : Below w.heap.size w wr := Hb3.out.trans (Hb.out.mono (by omega))
        obtain ⟨b1, o1, xa, xc, ha, hb1, hrow1, h9⟩ := Hk.out.get hu
        subst ha
        obtain ⟨d0, d1, d2, d3, d4, d5, d6, d7, d8⟩ := h9.below hbel hb1
        have hbel2 : Below w.heap.size w (wr.alloc (.cells #[.int .i64 u.kind, .string ⟨u.name.toArray⟩, .string ⟨u.other.toArray⟩, .int .i64 u.n, .int .i64 u.len, .int .i64 u.init, .bool u.ghost, .slice xa u.kids.length xc, .int .i64 u.off] 25)) := hbel.alloc (by omega) _
        have hcall := ih.out u xa xc m _ hus (wfL_at _ _ _ Hwf.out.2.2 hu) ((hrow1.below hbel2).mono (by simp; omega)) (Hm.out.below hbel2 hmw) (HM.out.below hbel2 hMl)
        unfold nodeVal at hcall
        have Hcall := Lib.hid hcall
        have hk0 : (0 : Int) ≤ (k : Int) := Int.natCast_nonneg _
        have hk1 : (k : Int) < (t.kids.length : Int) := by omega
        clear hcall hrow1 h9 hu hbel2
        go_wp2_with fail
        refine Hcall.out.mono ?_
        rintro e w4 ⟨rfl, hb4⟩
        have Hb4 := Lib.hid hb4
        clear hb4
        go_wp2_with fail
        go_roundw
        case rel => exact ⟨k + 1, by omega, by go_num, Lib.hid (Hb.out.trans (((Below.refl wr.heap.size wr).alloc (Nat.le_refl _) _).trans (Hb4.out.mono (by simp)) |>.mono (by omega)))⟩
        case measure => simp [intOf]; omega
      · go_wp2_with fail
        refine bodyPost_ret (v := .bool true) ?_ rfl ⟨rfl, Hb3.out.trans (Hb.out.mono (by omega))⟩
        simp [results, Tryz.results39, go_sem]
end Go.Proofs.YtbgpboiblggmiaaGreatDoor

/-
  A tree that is valid (Valid).
-/
namespace Go.Proofs.YtbgpboiblggmiaaGreatDoor
open Go.RowKit
open Px (St T D Res)

/-- a tree that Valid accepts -/
structure ValidOk (t : T) : Prop where
  top : t.kind = 62 ∨ (1 ≤ t.kind ∧ t.kind ≤ 8)
  fits : Px.fits t = true
  wf : WfT t

set_option maxRecDepth 100000 in
set_option maxHeartbeats 4000000 in
theorem valid_source (t : T) (a : Option Addr) (cap : Nat) (w : World) (h62 : t.kind = 62) (h : ValidOk t) (hk : RRow w.heap.size w t.kids (.slice a t.kids.length cap)) (hM : MaxAt w) :
    Calls Tryz.prog 15 #[nodeVal t (.slice a t.kids.length cap)] w fun e w' => e = .returned (.bool true) ∧ Below w.heap.size w w' := by
  have hMl := hM.lt
  have H := Lib.hid h
  have Hk := Lib.hid hk
  have HM := Lib.hid hM
  have hf := fits_any t a cap
  have hwf := wellFormed_yes (Px.size t) t a cap
  unfold nodeVal at hf hwf ⊢
  rw [h62] at hf hwf ⊢
  have Hf := Lib.hid hf
  have Hwf := Lib.hid hwf
  clear h hk hM hf hwf
  go_enter Tryz.func15, Tryz.ntmps15
  go_wp2_with fail
  obtain ⟨W, hW⟩ : ∃ W, W = w.alloc (.cells #[.int .i64 t.kind, .string ⟨t.name.toArray⟩, .string ⟨t.other.toArray⟩, .int .i64 t.n, .int .i64 t.len, .int .i64 t.init, .bool t.ghost, .slice a t.kids.length cap, .int .i64 t.off] 25) := ⟨_, rfl⟩
  have hWs : W.heap.size = w.heap.size + 1 := by rw [hW]; simp
  have HWb := Lib.hid (show Below w.heap.size w W.drew by rw [hW]; exact ((Below.refl _ _).alloc (Nat.le_refl _) _).drew)
  have HWn := Lib.hid (show NineAt W w.heap.size 0 t (.slice a t.kids.length cap) by rw [hW]; exact NineAt.var w t _)
  rw [h62] at hW
  rw [← hW]
  clear hW
  obtain ⟨e0, e1, e2, e3, e4, e5, e6, e7, e8⟩ := HWn.out
  simp only [Nat.zero_add] at e0 e1 e2 e3 e4 e5 e6 e7 e8
  rw [h62] at e0
  have hlW : w.heap.size < W.heap.size := by omega
  go_region_law (first
    | (go_simp; go_at_call 35; refine (Hf.out W.drew ((Hk.out.below HWb.out).mono (by show w.heap.size ≤ W.heap.size; omega))).mono ?_; rw [H.out.fits]; rintro e w2 ⟨rfl, hb2⟩; have hs2 : W.heap.size ≤ w2.heap.size := hb2.size; have Hb2 := Lib.hid (HWb.out.trans (hb2.mono (by show w.heap.size ≤ W.heap.size; omega))); have Hn2 := Lib.hid ((HWn.out.below (w' := W.drew) (N := W.heap.size) ((Below.refl _ _).drew) hlW).below hb2 (by show w.heap.size < W.heap.size; omega)); clear hb2 e0 e1 e2 e3 e4 e5 e6 e7 e8; obtain ⟨e0, e1, e2, e3, e4, e5, e6, e7, e8⟩ := Hn2.out; simp only [Nat.zero_add] at e0 e1 e2 e3 e4 e5 e6 e7 e8; have hl2 : w.heap.size < w2.heap.size := by omega)
    | (go_simp; go_at_call 40; refine (keyWords_any w2).mono ?_; rintro e w3 ⟨rfl, hk3⟩; have hb3 := hk3.below; have hs3 : w2.heap.size ≤ w3.heap.size := hb3.size; have hs3' := hk3.size; have Hb3 := Lib.hid (Hb2.out.trans (hb3.mono (by omega))); have Hk3 := Lib.hid hk3.keysIn; have Hn3 := Lib.hid (Hn2.out.below hb3 hl2); clear hb3 hk3 e0 e1 e2 e3 e4 e5 e6 e7 e8; obtain ⟨e0, e1, e2, e3, e4, e5, e6, e7, e8⟩ := Hn3.out; simp only [Nat.zero_add] at e0 e1 e2 e3 e4 e5 e6 e7 e8; have hl3 : w.heap.size < w3.heap.size := by omega)
    | (go_simp; go_at_call 39; refine (Hwf.out w2.heap.size w3 (Nat.le_refl _) H.out.wf ((Hk.out.below Hb3.out).mono (by omega)) Hk3.out (HM.out.below Hb3.out hMl)).mono ?_; rintro e w4 ⟨rfl, hb4⟩; have Hb4 := Lib.hid (Hb3.out.trans (hb4.mono (by omega))); clear hb4))
  all_goals
    go_wp2_with fail
    refine bodyPost_ret (v := .bool true) ?_ rfl ⟨rfl, Hb4.out⟩
    simp [results, Tryz.results15, go_sem]

set_option maxRecDepth 100000 in
set_option maxHeartbeats 4000000 in
theorem valid_expr (t : T) (a : Option Addr) (cap : Nat) (w : World) (hE : 1 ≤ t.kind ∧ t.kind ≤ 8) (h : ValidOk t) (hk : RRow w.heap.size w t.kids (.slice a t.kids.length cap)) (hM : MaxAt w) :
    Calls Tryz.prog 15 #[nodeVal t (.slice a t.kids.length cap)] w fun e w' => e = .returned (.bool true) ∧ Below w.heap.size w w' := by
  have hMl := hM.lt
  have h62 : (t.kind == 62) = false := by simp; omega
  have hPE : Pr.isExpr t = true := by unfold Pr.isExpr; simp; omega
  have hie := isExpr_any t a cap
  have H := Lib.hid h
  have Hk := Lib.hid hk
  have HM := Lib.hid hM
  have hf := fits_any t a cap
  have hwf := wellFormed_yes (Px.size t) t a cap
  unfold nodeVal at hf hwf hie ⊢
  rw [hPE] at hie
  have Hie := Lib.hid hie
  have Hf := Lib.hid hf
  have Hwf := Lib.hid hwf
  clear h hk hM hf hwf hie hPE hE
  go_enter Tryz.func15, Tryz.ntmps15
  go_wp2_with fail
  obtain ⟨W, hW⟩ : ∃ W, W = w.alloc (.cells #[.int .i64 t.kind, .string ⟨t.name.toArray⟩, .string ⟨t.other.toArray⟩, .int .i64 t.n, .int .i64 t.len, .int .i64 t.init, .bool t.ghost, .slice a t.kids.length cap, .int .i64 t.off] 25) := ⟨_, rfl⟩
  have hWs : W.heap.size = w.heap.size + 1 := by rw [hW]; simp
  have HWb := Lib.hid (show Below w.heap.size w W.drew by rw [hW]; exact ((Below.refl _ _).alloc (Nat.le_refl _) _).drew)
  have HWn := Lib.hid (show NineAt W w.heap.size 0 t (.slice a t.kids.length cap) by rw [hW]; exact NineAt.var w t _)
  rw [← hW]
  clear hW
  obtain ⟨e0, e1, e2, e3, e4, e5, e6, e7, e8⟩ := HWn.out
  simp only [Nat.zero_add] at e0 e1 e2 e3 e4 e5 e6 e7 e8
  have hlW : w.heap.size < W.heap.size := by omega
  go_region_law (first
    | (go_simp; go_at_call 38; refine (Hie.out W.drew).mono ?_; rintro e w1 ⟨rfl, hb1⟩; have hs1 : W.heap.size ≤ w1.heap.size := hb1.size; have Hb1 := Lib.hid (HWb.out.trans (hb1.mono (by show w.heap.size ≤ W.heap.size; omega))); have Hn1 := Lib.hid ((HWn.out.below (w' := W.drew) (N := W.heap.size) ((Below.refl _ _).drew) hlW).below hb1 (by show w.heap.size < W.heap.size; omega)); clear hb1 e0 e1 e2 e3 e4 e5 e6 e7 e8; obtain ⟨e0, e1, e2, e3, e4, e5, e6, e7, e8⟩ := Hn1.out; simp only [Nat.zero_add] at e0 e1 e2 e3 e4 e5 e6 e7 e8; have hl1 : w.heap.size < w1.heap.size := by omega)
    | (go_simp; go_at_call 35; refine (Hf.out w1 ((Hk.out.below Hb1.out).mono (by omega))).mono ?_; rw [H.out.fits]; rintro e w2 ⟨rfl, hb2⟩; have hs2 := hb2.size; have Hb2 := Lib.hid (Hb1.out.trans (hb2.mono (by omega))); have Hn2 := Lib.hid (Hn1.out.below hb2 hl1); clear hb2 e0 e1 e2 e3 e4 e5 e6 e7 e8; obtain ⟨e0, e1, e2, e3, e4, e5, e6, e7, e8⟩ := Hn2.out; simp only [Nat.zero_add] at e0 e1 e2 e3 e4 e5 e6 e7 e8; have hl2 : w.heap.size < w2.heap.size := by omega)
    | (go_simp; go_at_call 40; refine (keyWords_any w2).mono ?_; rintro e w3 ⟨rfl, hk3⟩; have hb3 := hk3.below; have hs3 : w2.heap.size ≤ w3.heap.size := hb3.size; have hs3' := hk3.size; have Hb3 := Lib.hid (Hb2.out.trans (hb3.mono (by omega))); have Hk3 := Lib.hid hk3.keysIn; have Hn3 := Lib.hid (Hn2.out.below hb3 hl2); clear hb3 hk3 e0 e1 e2 e3 e4 e5 e6 e7 e8; obtain ⟨e0, e1, e2, e3, e4, e5, e6, e7, e8⟩ := Hn3.out; simp only [Nat.zero_add] at e0 e1 e2 e3 e4 e5 e6 e7 e8; have hl3 : w.heap.size < w3.heap.size := by omega)
    | (go_simp; go_at_call 39; refine (Hwf.out w2.heap.size w3 (Nat.le_refl _) H.out.wf ((Hk.out.below Hb3.out).mono (by omega)) Hk3.out (HM.out.below Hb3.out hMl)).mono ?_; rintro e w4 ⟨rfl, hb4⟩; have Hb4 := Lib.hid (Hb3.out.trans (hb4.mono (by omega))); clear hb4))
  all_goals
    go_wp2_with fail
    refine bodyPost_ret (v := .bool true) ?_ rfl ⟨rfl, Hb4.out⟩
    simp [results, Tryz.results15, go_sem]

set_option maxRecDepth 100000 in
set_option maxHeartbeats 4000000 in
theorem valid_no (t : T) (a : Option Addr) (cap : Nat) (w : World) (hE : ¬ (1 ≤ t.kind ∧ t.kind ≤ 8)) (hS : t.kind ≠ 62) :
    Calls Tryz.prog 15 #[nodeVal t (.slice a t.kids.length cap)] w fun e w' => e = .returned (.bool false) ∧ Below w.heap.size w w' := by
  have h62 : (t.kind == 62) = false := by simp; omega
  have hPE : Pr.isExpr t = false := by unfold Pr.isExpr; simp; omega
  have hie := isExpr_any t a cap
  unfold nodeVal at hie ⊢
  rw [hPE] at hie
  have Hie := Lib.hid hie
  clear hie hPE hE hS
  go_enter Tryz.func15, Tryz.ntmps15
  go_wp2_with fail
  obtain ⟨W, hW⟩ : ∃ W, W = w.alloc (.cells #[.int .i64 t.kind, .string ⟨t.name.toArray⟩, .string ⟨t.other.toArray⟩, .int .i64 t.n, .int .i64 t.len, .int .i64 t.init, .bool t.ghost, .slice a t.kids.length cap, .int .i64 t.off] 25) := ⟨_, rfl⟩
  have hWs : W.heap.size = w.heap.size + 1 := by rw [hW]; simp
  have HWb := Lib.hid (show Below w.heap.size w W.drew by rw [hW]; exact ((Below.refl _ _).alloc (Nat.le_refl _) _).drew)
  have HWn := Lib.hid (show NineAt W w.heap.size 0 t (.slice a t.kids.length cap) by rw [hW]; exact NineAt.var w t _)
  rw [← hW]
  clear hW
  obtain ⟨e0, e1, e2, e3, e4, e5, e6, e7, e8⟩ := HWn.out
  simp only [Nat.zero_add] at e0 e1 e2 e3 e4 e5 e6 e7 e8
  have hlW : w.heap.size < W.heap.size := by omega
  go_region_law ((go_simp; go_at_call 38; refine (Hie.out W.drew).mono ?_; rintro e w1 ⟨rfl, hb1⟩; have hs1 : W.heap.size ≤ w1.heap.size := hb1.size; have Hb1 := Lib.hid (HWb.out.trans (hb1.mono (by show w.heap.size ≤ W.heap.size; omega))); have Hn1 := Lib.hid ((HWn.out.below (w' := W.drew) (N := W.heap.size) ((Below.refl _ _).drew) hlW).below hb1 (by show w.heap.size < W.heap.size; omega)); clear hb1 e0 e1 e2 e3 e4 e5 e6 e7 e8; obtain ⟨e0, e1, e2, e3, e4, e5, e6, e7, e8⟩ := Hn1.out; simp only [Nat.zero_add] at e0 e1 e2 e3 e4 e5 e6 e7 e8; have hl1 : w.heap.size < w1.heap.size := by omega))
  all_goals
    go_wp2_with fail
    refine bodyPost_ret (v := .bool false) ?_ rfl ⟨rfl, Hb1.out⟩
    simp [results, Tryz.results15, go_sem]
end Go.Proofs.YtbgpboiblggmiaaGreatDoor

