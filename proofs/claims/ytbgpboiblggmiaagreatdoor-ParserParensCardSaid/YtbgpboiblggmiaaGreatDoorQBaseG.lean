/-
  Merged texts of the base: Hda Hdb Hdc Hde Hdd Spa Lwa.
-/
import Derived.Test.YtbgpboiblggmiaaGreatDoorQBaseH
import Derived.Test.YtbgpboiblggmiaaGreatDoorQBaseI
import Derived.Test.YtbgpboiblggmiaaGreatDoorQBaseP
import Derived.Deep.AppendLies

set_option linter.unusedVariables false
set_option linter.unusedSimpArgs false
/-
  Strip of a tree without kids.
-/
namespace Go.Proofs.YtbgpboiblggmiaaGreatDoor
open Go.RowKit
open Px (St T D Res)

set_option maxRecDepth 100000 in
set_option maxHeartbeats 2000000 in
theorem strip_leaf (kind : Int) (x y : Px.Str) (n l i : Int) (g : Bool) (p : Int) (w : World) :
    Calls Tryz.prog 32 #[nodeVal (.mk kind x y n l i g [] p) (.slice none 0 0)] w fun e w' => e = .returned (nodeVal (.mk kind x y n l i g [] 0) (.slice none 0 0)) ∧ Below w.heap.size w w' := by
  simp only [nodeVal, Px.T.kind, Px.T.name, Px.T.other, Px.T.n, Px.T.len, Px.T.init, Px.T.ghost, Px.T.off]
  go_enter Tryz.func32, Tryz.ntmps32
  go_wp2_with fail
  go_loopw [12] (fun iv wr => iv = .int .i64 0 ∧ Hid (Var 25 wr w.heap.size #[.int .i64 kind, .string ⟨x.toArray⟩, .string ⟨y.toArray⟩, .int .i64 n, .int .i64 l, .int .i64 i, .bool g, .slice none 0 0, .int .i64 0]) ∧ Hid (Var 25 wr (w.heap.size + 1) #[.int .i64 0, .string ⟨#[]⟩, .string ⟨#[]⟩, .int .i64 0, .int .i64 0, .int .i64 0, .bool false, .slice none 0 0, .int .i64 0]) ∧ Hid (Below w.heap.size w wr)) (fun _ _ => 0)
  case atStart => exact ⟨rfl, Lib.hid (Var.alloc (Var.new _ _ _) _), Lib.hid (Var.new' (by simp)), Lib.hid (((Below.refl _ _).alloc (Nat.le_refl _) _).alloc (by simp) _)⟩
  case round =>
    obtain ⟨rfl, H1, H2, Hb⟩ := hrel
    have h1 := H1.out
    have h2 := H2.out
    have l1 := h1.lt
    have l2 := h2.lt
    obtain ⟨c1, f1⟩ := obj_facts h1
    obtain ⟨c2, f2⟩ := obj_facts h2
    go_wp2_with fail
    rw [storeN]
    rotate_left
    · exact HasN.of h2 (by rfl)
    refine ret_node (by rfl) (by rfl) (Var.row_same h2 _) (by rfl) (by rfl) ⟨rfl, below_setRow Hb.out (by omega) _⟩
end Go.Proofs.YtbgpboiblggmiaaGreatDoor

/-
  What the parser's plain functions say of the head's fixed texts.
-/
namespace Go.Proofs.YtbgpboiblggmiaaGreatDoor.Hd
open Px (T D)

def rf (x : Px.Str) (p : Int) : T := T.named 2 p x []
def bin (x : Px.Str) (p : Int) (a b : T) : T := T.named 5 p x [a, b]
def sum : T := bin [43] 2 (rf [97] 0) (bin [42] 6 (rf [98] 4) (rf [99] 8))
def neg : T := .mk 4 [] [] 0 0 0 false [rf [101] 19] 18
def tree : T := bin [38, 38] 15 (bin [61, 61] 10 sum (rf [100] 13)) neg
def y : T := .mk 50 [121] [] 1 0 0 false [] 32
def want : T := Px.source [.mk 60 [77] [65] 0 0 0 false [y] 0]

theorem lex_ok : Lx.lex [97, 32, 43, 32, 98] = ([⟨1, [97], 0⟩, ⟨3, [43], 2⟩, ⟨1, [98], 4⟩], 0, 0) := by decide
theorem expr_ok : Px.parseExpr [97, 32, 43, 32, 98, 32, 42, 32, 99, 32, 61, 61, 32, 100, 32, 38, 38, 32, 33, 101] = (tree, []) := by rfl
theorem expr_twice : Px.parseExpr [97, 32, 61, 61, 32, 98, 32, 61, 61, 32, 99] = (T.zero, [⟨20, 7⟩]) := by rfl
theorem src_ok : Px.parse [109, 111, 100, 117, 108, 101, 32, 77, 32, 111, 119, 110, 101, 114, 32, 65, 32, 123, 32, 115, 104, 97, 114, 101, 100, 32, 120, 32, 58, 32, 59, 32, 115, 104, 97, 114, 101, 100, 32, 121, 32, 58, 32, 49, 59, 32, 125] = (want, [⟨20, 30⟩]) := by rfl
theorem src_end : Px.parse [116, 104, 114, 101, 97, 100, 32, 116, 32, 61, 32, 77, 46, 112, 40, 49] = (Px.source [], [⟨21, 16⟩]) := by rfl
end Go.Proofs.YtbgpboiblggmiaaGreatDoor.Hd

/-
  The head's trees are valid.
-/
namespace Go.Proofs.YtbgpboiblggmiaaGreatDoor
open Go.RowKit
open Px (St T D Res)

theorem yes_isExpr {t : T} (h : Pr.isExpr t = true) : PropYes 38 t :=
  ⟨fun _ _ => by simp [go_sem], fun a cap w => by have := isExpr_any t a cap w; rw [h] at this; exact this⟩
theorem yes_isUnit {t : T} (h : Pr.isUnit t = true) : PropYes 95 t :=
  ⟨fun _ _ => by simp [go_sem], fun a cap w => by have := isUnit_any t a cap w; rw [h] at this; exact this⟩
theorem yes_isRef {t : T} (h : Pr.isRef t = true) : PropYes 117 t :=
  ⟨fun _ _ => by simp [go_sem], fun a cap w => by have := isRef_any t a cap w; rw [h] at this; exact this⟩
theorem yes_isDeclaration {t : T} (h : Pr.isDeclaration t = true) : PropYes 92 t :=
  ⟨fun _ _ => by simp [go_sem], fun a cap w => by have := isDeclaration_any t a cap w; rw [h] at this; exact this⟩
/-- the properties hold of the kids, one by one -/
def PropsYes : List FuncId → List T → Prop
  | [], [] => True
  | f :: fs, t :: ts => PropYes f t ∧ PropsYes fs ts
  | _, _ => False
theorem PropsYes.len : ∀ (fs : List FuncId) (ts : List T), PropsYes fs ts → ts.length = fs.length
  | [], [], _ => rfl
  | f :: fs, t :: ts, h => by rw [PropsYes] at h; simp [PropsYes.len fs ts h.2]
  | [], t :: ts, h => by rw [PropsYes] at h; exact h.elim; all_goals (intros; simp_all)
  | f :: fs, [], h => by rw [PropsYes] at h; exact h.elim; all_goals (intros; simp_all)
theorem PropsYes.at : ∀ (fs : List FuncId) (ts : List T), PropsYes fs ts → ∀ (i : Nat) (f : FuncId) (t : T), fs[i]? = some f → ts[i]? = some t → PropYes f t
  | [], ts, _, i, f, t, h1, _ => by simp at h1
  | g :: fs, [], _, i, f, t, _, h2 => by simp at h2
  | g :: fs, u :: ts, h, i, f, t, h1, h2 => by
    rw [PropsYes] at h
    cases i with
    | zero => simp at h1 h2; subst h1; subst h2; exact h.1
    | succ i => exact PropsYes.at fs ts h.2 i f t (by simpa using h1) (by simpa using h2)
theorem kidsOk_of (r : Rw) (kids : List T) (j : Nat) (hj : r.more = [] → j = 0) (hl : kids.length ≤ 3000) (h : PropsYes (r.kids ++ rep r.more j ++ r.last) kids) : KidsOk r kids :=
  ⟨j, hj, by rw [PropsYes.len _ _ h, List.length_append, List.length_append, rep_len], hl, PropsYes.at _ _ h⟩

theorem pathOk_dec (s : Px.Str) (ps : List ByteArray) (h : dots s = ps) (h2 : decide (s.length ≤ 4000) && decide (s.count 46 < 3) && decide (ps.length ≤ 3) = true) (h3 : ∀ p ∈ ps, NameOk p.data.toList) : PathOk s := by
  simp only [Bool.and_eq_true, decide_eq_true_eq] at h2
  exact ⟨h2.1.1, h2.1.2, by rw [h]; exact h2.2, by rw [h]; exact h3⟩

theorem dots_one (c : UInt8) (h : dots [c] = [⟨#[c]⟩]) (hn : NameOk [c]) : PathOk [c] :=
  pathOk_dec [c] _ h (by
    have : decide ([c].count 46 < 3) = true := by
      have := List.count_le_length (a := (46 : UInt8)) (l := [c])
      simp at this ⊢
      omega
    rw [this]
    rfl) (fun p hp => by simp at hp; subst hp; exact hn)

theorem z00 : (0 : Int) ≤ 0 := by decide
theorem fields_ref (x : Px.Str) (p : Int) (h : PathOk x) : FieldsOk (rowP (Hd.rf x p)) (Hd.rf x p) :=
  ⟨.inr (.inr (.inl ⟨rfl, h⟩)), .inl ⟨rfl, rfl⟩, ⟨z00, z00⟩, ⟨z00, z00⟩, ⟨z00, z00⟩, .inr rfl⟩
theorem wf_ref (x : Px.Str) (p : Int) (h : PathOk x) : WfT (Hd.rf x p) := by
  rw [wfT_iff]
  exact ⟨fields_ref x p h, kidsOk_of _ _ 0 (fun _ => rfl) (by show 0 ≤ 3000; decide) trivial, by rw [show (Hd.rf x p).kids = [] from rfl, WfL]; trivial⟩
theorem wf_bin (x : Px.Str) (p : Int) (a b : T) (hx : 0 < Px.level x) (ha : Pr.isExpr a = true) (hb : Pr.isExpr b = true) (wa : WfT a) (wb : WfT b) : WfT (Hd.bin x p a b) := by
  rw [wfT_iff]
  refine ⟨⟨.inr (.inr (.inr ⟨rfl, hx⟩)), .inl ⟨rfl, rfl⟩, ⟨z00, z00⟩, ⟨z00, z00⟩, ⟨z00, z00⟩, .inr rfl⟩, kidsOk_of _ _ 0 (fun _ => rfl) (by show 2 ≤ 3000; decide) ⟨yes_isExpr ha, yes_isExpr hb, trivial⟩, ?_⟩
  rw [show (Hd.bin x p a b).kids = [a, b] from rfl, WfL, WfL, WfL]
  exact ⟨wa, wb, trivial⟩

theorem name1 (c : UInt8) (h : Lx.letterU c = true) (hk : Px.isKey [c] = false) : NameOk [c] :=
  ⟨⟨by simp, by simp⟩, fun d r e => by cases e; exact h, fun d hd => by simp at hd; subst hd; exact Lx.word_letter d h, hk⟩
theorem path1 (c : UInt8) (h : Lx.letterU c = true) (hk : Px.isKey [c] = false) (hd : dots [c] = [⟨#[c]⟩]) : PathOk [c] := dots_one c hd (name1 c h hk)
theorem pa : PathOk [97] := path1 97 (by decide) (by decide) (by rfl)
theorem pb : PathOk [98] := path1 98 (by decide) (by decide) (by rfl)
theorem pc : PathOk [99] := path1 99 (by decide) (by decide) (by rfl)
theorem pd : PathOk [100] := path1 100 (by decide) (by decide) (by rfl)
theorem pe : PathOk [101] := path1 101 (by decide) (by decide) (by rfl)

theorem wf_neg : WfT Hd.neg := by
  rw [wfT_iff]
  refine ⟨⟨.inl ⟨rfl, rfl⟩, .inl ⟨rfl, rfl⟩, ⟨z00, z00⟩, ⟨z00, z00⟩, ⟨z00, z00⟩, .inr rfl⟩, kidsOk_of _ _ 0 (fun _ => rfl) (by decide) ⟨yes_isExpr (by decide), trivial⟩, ?_⟩
  rw [show Hd.neg.kids = [Hd.rf [101] 19] from rfl, WfL, WfL]
  exact ⟨wf_ref _ _ pe, trivial⟩
theorem wf_sum : WfT Hd.sum := wf_bin _ _ _ _ (by decide) (by decide) (by decide) (wf_ref _ _ pa) (wf_bin _ _ _ _ (by decide) (by decide) (by decide) (wf_ref _ _ pb) (wf_ref _ _ pc))
theorem wf_tree : WfT Hd.tree := wf_bin _ _ _ _ (by decide) (by decide) (by decide) (wf_bin _ _ _ _ (by decide) (by decide) (by decide) wf_sum (wf_ref _ _ pd)) wf_neg
theorem valid_tree : ValidOk Hd.tree := ⟨.inr (by decide), by decide, wf_tree⟩
theorem wf_want : WfT Hd.want := by
  rw [wfT_iff]
  refine ⟨⟨.inl ⟨rfl, rfl⟩, .inl ⟨rfl, rfl⟩, ⟨z00, z00⟩, ⟨z00, z00⟩, ⟨z00, z00⟩, .inr rfl⟩, kidsOk_of _ _ 1 (fun h => by cases h) (by decide) ⟨yes_isUnit (by decide), trivial⟩, ?_⟩
  rw [show Hd.want.kids = [.mk 60 [77] [65] 0 0 0 false [Hd.y] 0] from rfl, WfL, WfL]
  refine ⟨?_, trivial⟩
  rw [wfT_iff]
  refine ⟨⟨.inr (.inl ⟨rfl, name1 77 (by decide) (by decide)⟩), .inr (.inl ⟨rfl, name1 65 (by decide) (by decide)⟩), ⟨z00, z00⟩, ⟨z00, z00⟩, ⟨z00, z00⟩, .inr rfl⟩, kidsOk_of _ _ 1 (fun h => by cases h) (by decide) ⟨yes_isDeclaration (by decide), trivial⟩, ?_⟩
  rw [show (T.mk 60 [77] [65] 0 0 0 false [Hd.y] 0).kids = [Hd.y] from rfl, WfL, WfL]
  refine ⟨?_, trivial⟩
  rw [wfT_iff]
  exact ⟨⟨.inr (.inl ⟨rfl, name1 121 (by decide) (by decide)⟩), .inl ⟨rfl, rfl⟩, ⟨by decide, by decide⟩, ⟨by decide, by decide⟩, ⟨by decide, by decide⟩, .inr rfl⟩, kidsOk_of _ _ 0 (fun _ => rfl) (by decide) trivial, by rw [show Hd.y.kids = [] from rfl, WfL]; trivial⟩
theorem valid_want : ValidOk Hd.want := ⟨.inl rfl, by decide, wf_want⟩
end Go.Proofs.YtbgpboiblggmiaaGreatDoor

/-
  Rows of trees of which none is zero stay while a variable that is zero is written.
-/
namespace Go.Proofs.YtbgpboiblggmiaaGreatDoor
open Go.RowKit
open Px (St T D Res)

mutual
/-- no node is of kind 0 -/
def nzT : T → Bool
  | .mk k _ _ _ _ _ _ kids _ => k != 0 && nzL kids
def nzL : List T → Bool
  | [] => true
  | t :: r => nzT t && nzL r
end

theorem zero_cells {o : Nat} {k : Int} {s : ByteArray} (h0 : (#[.int .i64 0, .string ⟨#[]⟩, .string ⟨#[]⟩, .int .i64 0, .int .i64 0, .int .i64 0, .bool false, .slice none 0 0, .int .i64 0] : Array Value)[o]? = some (.int .i64 k)) (h1 : (#[.int .i64 0, .string ⟨#[]⟩, .string ⟨#[]⟩, .int .i64 0, .int .i64 0, .int .i64 0, .bool false, .slice none 0 0, .int .i64 0] : Array Value)[o + 1]? = some (.string s)) : k = 0 := by
  match o with
  | 0 => simp at h0; exact h0.symm
  | 1 => simp at h0
  | 2 => simp at h0
  | 3 => simp at h1
  | 4 => simp at h1
  | 5 => simp at h1
  | 6 => simp at h1
  | 7 => simp at h1
  | 8 => simp at h1
  | n + 9 => simp at h0

theorem CellsAt.put {N : Nat} {w : World} {a : Option Addr} {xs : List Value} {b : Nat} (hz : Var 25 w b #[.int .i64 0, .string ⟨#[]⟩, .string ⟨#[]⟩, .int .i64 0, .int .i64 0, .int .i64 0, .bool false, .slice none 0 0, .int .i64 0]) (cs : Array Value) (h : CellsAt N w a xs) (h1 : xs ≠ [] → ∃ k s, xs[0]? = some (.int .i64 k) ∧ k ≠ 0 ∧ xs[1]? = some (.string s)) : CellsAt N (w.setRow b cs) a xs := by
  rcases h with h | ⟨b', o, cur, fz, ha, hb, hc, hx⟩
  · exact .inl h
  · rcases xs with _ | ⟨x, xs⟩
    · exact .inl rfl
    · obtain ⟨k, s, q0, hk, q1⟩ := h1 (by simp)
      refine .inr ⟨b', o, cur, fz, ha, hb, obj_row_other hc ?_ cs, hx⟩
      rintro rfl
      have h2 : w.heap[b']? = some (.cells #[.int .i64 0, .string ⟨#[]⟩, .string ⟨#[]⟩, .int .i64 0, .int .i64 0, .int .i64 0, .bool false, .slice none 0 0, .int .i64 0] 25 (0, 0)) := hz
      rw [hc] at h2
      obtain rfl := (Obj.cells.inj (Option.some.inj h2)).1
      exact hk (zero_cells (hx 0 _ q0) (hx 1 _ q1))

theorem nodes_first {N : Nat} {w : World} : ∀ (l : List T) (xs : List Value), nzL l = true → RNodes N w l xs → xs ≠ [] → ∃ k s, xs[0]? = some (.int .i64 k) ∧ k ≠ 0 ∧ xs[1]? = some (.string s)
  | [], xs, _, h, hne => by rw [RNodes] at h; exact absurd h hne
  | .mk k x y n len init g kids off :: r, xs, hz, h, _ => by
    rw [RNodes] at h
    obtain ⟨kv, rest, rfl, _, _⟩ := h
    rw [nzL, nzT] at hz
    simp only [Bool.and_eq_true, bne_iff_ne, ne_eq] at hz
    exact ⟨k, ⟨x.toArray⟩, rfl, hz.1.1, rfl⟩

mutual
theorem RKids.put {N : Nat} {w : World} {b : Nat} (hz : Var 25 w b #[.int .i64 0, .string ⟨#[]⟩, .string ⟨#[]⟩, .int .i64 0, .int .i64 0, .int .i64 0, .bool false, .slice none 0 0, .int .i64 0]) (cs : Array Value) : ∀ (t : T) (kv : Value), nzT t = true → RKids N w t kv → RKids N (w.setRow b cs) t kv
  | .mk _ _ _ _ _ _ _ kids _, kv, hn, h => by
    rw [RKids] at h ⊢
    rw [nzT, Bool.and_eq_true] at hn
    obtain ⟨a, cap, xs, h1, hm, h2, h3⟩ := h
    exact ⟨a, cap, xs, h1, hm, h2.put hz cs (nodes_first kids xs hn.2 h3), RNodes.put hz cs kids xs hn.2 h3⟩
theorem RNodes.put {N : Nat} {w : World} {b : Nat} (hz : Var 25 w b #[.int .i64 0, .string ⟨#[]⟩, .string ⟨#[]⟩, .int .i64 0, .int .i64 0, .int .i64 0, .bool false, .slice none 0 0, .int .i64 0]) (cs : Array Value) : ∀ (l : List T) (xs : List Value), nzL l = true → RNodes N w l xs → RNodes N (w.setRow b cs) l xs
  | [], xs, _, h => by rw [RNodes] at h ⊢; exact h
  | t :: r, xs, hn, h => by
    rw [RNodes] at h ⊢
    rw [nzL, Bool.and_eq_true] at hn
    obtain ⟨kv, rest, h1, h2, h3⟩ := h
    exact ⟨kv, rest, h1, RKids.put hz cs t kv hn.1 h2, RNodes.put hz cs r rest hn.2 h3⟩
end
theorem RRow.put {N : Nat} {w : World} {b : Nat} (hz : Var 25 w b #[.int .i64 0, .string ⟨#[]⟩, .string ⟨#[]⟩, .int .i64 0, .int .i64 0, .int .i64 0, .bool false, .slice none 0 0, .int .i64 0]) (cs : Array Value) {l : List T} {kv : Value} (hn : nzL l = true) (h : RRow N w l kv) : RRow N (w.setRow b cs) l kv := by
  obtain ⟨a, cap, xs, h1, hm, h2, h3⟩ := h
  exact ⟨a, cap, xs, h1, hm, h2.put hz cs (nodes_first l xs hn h3), RNodes.put hz cs l xs hn h3⟩
end Go.Proofs.YtbgpboiblggmiaaGreatDoor

/-
  The head of every law of this layer returns true.
-/
namespace Go.Proofs.YtbgpboiblggmiaaGreatDoor
open Go.RowKit
open Px (St T D Res)

theorem DiagsAt.below {w w' : World} {a : Option Addr} {l : List D} (h : DiagsAt w.heap.size w a l) (hb : Below w.heap.size w w') : DiagsAt w'.heap.size w' a l := h.keep hb.size hb.block
theorem RRow.next {w w' : World} {l : List T} {kv : Value} (h : RRow w.heap.size w l kv) (hb : Below w.heap.size w w') : RRow w'.heap.size w' l kv := (h.below hb).mono hb.size

theorem with_fact {p q : Prop} (h : p) (k : p → q) : q := k h
theorem below_step {a x w : World} (h : Below a.heap.size a x) (k : Below x.heap.size x w) : Below a.heap.size a w := h.trans (k.mono h.size)

/-- a variable that holds a tree -/
def Tr (w : World) (b : Nat) (t : T) : Prop :=
  ∃ a cap, Var 25 w b #[.int .i64 t.kind, .string ⟨t.name.toArray⟩, .string ⟨t.other.toArray⟩, .int .i64 t.n, .int .i64 t.len, .int .i64 t.init, .bool t.ghost, .slice a t.kids.length cap, .int .i64 t.off] ∧ RRow w.heap.size w t.kids (.slice a t.kids.length cap)
theorem Tr.below {w w' : World} {b : Nat} {t : T} (h : Tr w b t) (hb : Below w.heap.size w w') : Tr w' b t := by
  obtain ⟨a, cap, z, r⟩ := h
  exact ⟨a, cap, (hb.block b z.lt).trans z, r.next hb⟩
theorem Tr.new {w : World} {t : T} {a : Option Addr} {cap b : Nat} (h : RRow w.heap.size w t.kids (.slice a t.kids.length cap)) (hb : b = w.heap.size) : Tr (w.alloc (.cells #[.int .i64 t.kind, .string ⟨t.name.toArray⟩, .string ⟨t.other.toArray⟩, .int .i64 t.n, .int .i64 t.len, .int .i64 t.init, .bool t.ghost, .slice a t.kids.length cap, .int .i64 t.off] 25)) b t := by
  subst hb
  exact ⟨a, cap, Var.new _ _ _, h.next ((Below.refl _ _).alloc (Nat.le_refl _) _)⟩

theorem Tr.put {w : World} {b b' : Nat} {t : T} (h : Tr w b' t) (hz : Var 25 w b #[.int .i64 0, .string ⟨#[]⟩, .string ⟨#[]⟩, .int .i64 0, .int .i64 0, .int .i64 0, .bool false, .slice none 0 0, .int .i64 0]) (hne : b' ≠ b) (hn : nzL t.kids = true) (cs : Array Value) : Tr (w.setRow b cs) b' t := by
  obtain ⟨a, cap, z, r⟩ := h
  exact ⟨a, cap, obj_row_other z hne cs, (r.put hz cs hn).mono (by simp [World.setRow])⟩
/-- a tree is stored in a variable that was zero; what else is held stays -/
theorem put_head {w v x : World} {b b4 : Nat} {tree : T} {a : Option Addr} {cap : Nat} (zz : Var 25 x b #[.int .i64 0, .string ⟨#[]⟩, .string ⟨#[]⟩, .int .i64 0, .int .i64 0, .int .i64 0, .bool false, .slice none 0 0, .int .i64 0]) (hn : nzL tree.kids = true) (R : RRow x.heap.size x tree.kids (.slice a tree.kids.length cap)) (T4 : Tr x b4 tree) (h4 : b4 < b) (hS : SymsAt x) (hM : MaxAt x) (hB : Below w.heap.size w x) (hb : w.heap.size ≤ b) (h2 : 2 ≤ b) (hv : v = x.setRow b #[.int .i64 tree.kind, .string ⟨tree.name.toArray⟩, .string ⟨tree.other.toArray⟩, .int .i64 tree.n, .int .i64 tree.len, .int .i64 tree.init, .bool tree.ghost, .slice a tree.kids.length cap, .int .i64 tree.off]) :
    ∃ b' : Nat, (Value.pointer (some ⟨b, 0, none⟩)) = .pointer (some ⟨b', 0, none⟩) ∧ Hid (Tr v b' tree) ∧ Hid (Tr v b4 tree) ∧ Hid (SymsAt v) ∧ Hid (MaxAt v) ∧ Hid (Below w.heap.size w v) := by
  subst hv
  refine ⟨b, rfl, Lib.hid ⟨a, cap, Var.row_same zz _, (R.put zz _ hn).mono (by simp [World.setRow])⟩, Lib.hid (T4.put zz (by omega) hn _), Lib.hid ?_, Lib.hid ?_, Lib.hid (below_setRow hB hb _)⟩
  · exact symsAt_below hS (below_setRow (Below.refl 1 x) (by omega) _) (by omega)
  · exact hM.below (below_setRow (Below.refl 2 x) h2 _) (by omega)

theorem new_head {w x : World} {b4 : Nat} {tree : T} {a : Option Addr} {cap : Nat} (R : RRow x.heap.size x tree.kids (.slice a tree.kids.length cap)) (T4 : Tr x b4 tree) (hS : SymsAt x) (hM : MaxAt x) (hB : Below w.heap.size w x) :
    ∃ b' : Nat, (Value.pointer (some ⟨x.heap.size, 0, none⟩)) = .pointer (some ⟨b', 0, none⟩) ∧ Hid (Tr (x.alloc (.cells #[.int .i64 tree.kind, .string ⟨tree.name.toArray⟩, .string ⟨tree.other.toArray⟩, .int .i64 tree.n, .int .i64 tree.len, .int .i64 tree.init, .bool tree.ghost, .slice a tree.kids.length cap, .int .i64 tree.off] 25)) b' tree) ∧ Hid (Tr (x.alloc (.cells #[.int .i64 tree.kind, .string ⟨tree.name.toArray⟩, .string ⟨tree.other.toArray⟩, .int .i64 tree.n, .int .i64 tree.len, .int .i64 tree.init, .bool tree.ghost, .slice a tree.kids.length cap, .int .i64 tree.off] 25)) b4 tree) ∧
      Hid (SymsAt (x.alloc (.cells #[.int .i64 tree.kind, .string ⟨tree.name.toArray⟩, .string ⟨tree.other.toArray⟩, .int .i64 tree.n, .int .i64 tree.len, .int .i64 tree.init, .bool tree.ghost, .slice a tree.kids.length cap, .int .i64 tree.off] 25))) ∧ Hid (MaxAt (x.alloc (.cells #[.int .i64 tree.kind, .string ⟨tree.name.toArray⟩, .string ⟨tree.other.toArray⟩, .int .i64 tree.n, .int .i64 tree.len, .int .i64 tree.init, .bool tree.ghost, .slice a tree.kids.length cap, .int .i64 tree.off] 25))) ∧
      Hid (Below w.heap.size w (x.alloc (.cells #[.int .i64 tree.kind, .string ⟨tree.name.toArray⟩, .string ⟨tree.other.toArray⟩, .int .i64 tree.n, .int .i64 tree.len, .int .i64 tree.init, .bool tree.ghost, .slice a tree.kids.length cap, .int .i64 tree.off] 25))) :=
  ⟨_, rfl, Lib.hid (Tr.new R rfl), Lib.hid (T4.below ((Below.refl _ _).alloc (Nat.le_refl _) _)), Lib.hid (symsAt_alloc hS _), Lib.hid (hM.alloc _), Lib.hid (hB.alloc hB.size _)⟩

/-- a tree that a call hands back -/
def TreeGot (r : T) (w : World) (e : Ending) (w' : World) : Prop :=
  Below w.heap.size w w' ∧ ∃ a cap, e = .returned (.agg #[.int .i64 r.kind, .string ⟨r.name.toArray⟩, .string ⟨r.other.toArray⟩, .int .i64 r.n, .int .i64 r.len, .int .i64 r.init, .bool r.ghost, .slice a r.kids.length cap, .int .i64 r.off]) ∧ RRow w'.heap.size w' r.kids (.slice a r.kids.length cap)
theorem ref_got (r : T) (x : Px.Str) (p : Int) (w : World) (hr : r = Hd.rf x p) : Calls Tryz.prog 23 #[.string ⟨x.toArray⟩, .int .i64 p] w (TreeGot r w) := by
  subst hr
  refine (ref_law x p w).mono ?_
  rintro e w1 ⟨rfl, hb⟩
  exact ⟨hb, none, 0, rfl, RRow.nil _ _⟩
theorem two_got (r : T) (x : Px.Str) (p : Int) (t u : T) (a b : Option Addr) (ca cb : Nat) (w : World) (hr : r = Hd.bin x p t u) (ht : RRow w.heap.size w t.kids (.slice a t.kids.length ca)) (hu : RRow w.heap.size w u.kids (.slice b u.kids.length cb)) :
    Calls Tryz.prog 25 #[.string ⟨x.toArray⟩, .int .i64 p, nodeVal t (.slice a t.kids.length ca), nodeVal u (.slice b u.kids.length cb)] w (TreeGot r w) := by
  subst hr
  refine (two_law x p t u a b _ _ ca cb w ht hu).mono ?_
  rintro e w1 ⟨c, rfl, hrow, hb⟩
  exact ⟨hb, c, 2, rfl, hrow⟩
theorem RRow.one {w : World} {t : T} {kv : Value} (ht : RRow w.heap.size w t.kids kv) {b : Nat} (hb : b = w.heap.size) :
    RRow (b + 1) (w.alloc (.cells (nodeCells t kv).toArray 25)) [t] (.slice (some ⟨b, 0, none⟩) 1 1) := by
  subst hb
  have hw : ∀ k, k < w.heap.size → (w.alloc (.cells (nodeCells t kv).toArray 25)).heap[k]? = w.heap[k]? := fun k hk => Below.heap_alloc _ _ _ hk
  refine ⟨_, _, nodeCells t kv, rfl, (by show 1 ≤ maxLen; decide), .inr ⟨w.heap.size, 0, _, (25, (0, 0)), rfl, Nat.lt_succ_self _, obj_new _ _, fun j v hv => by rw [Nat.zero_add]; simpa using hv⟩, ?_⟩
  rw [RNodes]
  refine ⟨kv, [], by simp, (rkids_iff _ _ _ _).2 (ht.keep (Nat.le_succ _) hw), by rw [RNodes]⟩

set_option maxRecDepth 100000 in
set_option maxHeartbeats 8000000 in
theorem head_any (w : World) (hS : SymsAt w) (hM : MaxAt w) : Calls Tryz.prog 11 #[] w fun e w' => e = .returned (.bool true) ∧ Below w.heap.size w w' := by
  have HS := Lib.hid hS
  have HM := Lib.hid hM
  have HB := Lib.hid (Below.refl w.heap.size w)
  clear hS hM
  obtain ⟨tree, htree⟩ : ∃ t, t = Hd.tree := ⟨_, rfl⟩
  obtain ⟨want, hwant⟩ : ∃ t, t = Hd.want := ⟨_, rfl⟩
  have Htree := Lib.hid htree
  have Hwant := Lib.hid hwant
  clear htree hwant
  go_enter Tryz.func11, Tryz.ntmps11
  go_wp2_with fail
  refine (lexP ⟨[97, 32, 43, 32, 98].toArray⟩ w HS.out (by decide)).mono ?_
  intro e w1 hl
  obtain ⟨a1, c1, rfl, hb1, ho1⟩ := lexSaid_open Hd.lex_ok hl
  have HS' := Lib.hid (symsAt_below HS.out hb1 (symsAt_lt HS.out))
  clear HS
  have HS := HS'
  clear HS'
  have HM' := Lib.hid (HM.out.below hb1 HM.out.lt)
  clear HM
  have HM := HM'
  clear HM'
  have HB' := Lib.hid (HB.out.trans (hb1.mono HB.out.size))
  clear HB
  have HB := HB'
  clear HB'
  clear hl ho1 hb1
  go_wp2_with fail
  refine (parseExpr_any ⟨[97, 32, 43, 32, 98, 32, 42, 32, 99, 32, 61, 61, 32, 100, 32, 38, 38, 32, 33, 101].toArray⟩ w1 HS.out (by decide)).mono ?_
  intro e w2 hp
  rw [show Px.parseExpr (⟨[97, 32, 43, 32, 98, 32, 42, 32, 99, 32, 61, 61, 32, 100, 32, 38, 38, 32, 33, 101].toArray⟩ : ByteArray).data.toList = (tree, []) from by rw [Htree.out]; exact Hd.expr_ok] at hp
  obtain ⟨hb2, a2, c2, d2, e2, rfl, hr2, hd2⟩ := hp
  have HS' := Lib.hid (symsAt_below HS.out hb2 (symsAt_lt HS.out))
  clear HS
  have HS := HS'
  clear HS'
  have HM' := Lib.hid (HM.out.below hb2 HM.out.lt)
  clear HM
  have HM := HM'
  clear HM'
  have HB' := Lib.hid (HB.out.trans (hb2.mono HB.out.size))
  clear HB
  have HB := HB'
  clear HB'
  obtain ⟨w3, hw3⟩ : ∃ W, W = w2.alloc (.cells #[.int .i64 tree.kind, .string ⟨tree.name.toArray⟩, .string ⟨tree.other.toArray⟩, .int .i64 tree.n, .int .i64 tree.len, .int .i64 tree.init, .bool tree.ghost, .slice a2 tree.kids.length c2, .int .i64 tree.off] 25) := ⟨_, rfl⟩
  have hb3 : Below w2.heap.size w2 w3 := by rw [hw3]; exact (Below.refl _ _).alloc (Nat.le_refl _) _
  have T4 := Lib.hid (show Tr w3 w2.heap.size tree by rw [hw3]; exact Tr.new hr2 rfl)
  have HS' := Lib.hid (symsAt_below HS.out hb3 (symsAt_lt HS.out))
  clear HS
  have HS := HS'
  clear HS'
  have HM' := Lib.hid (HM.out.below hb3 HM.out.lt)
  clear HM
  have HM := HM'
  clear HM'
  have HB' := Lib.hid (HB.out.trans (hb3.mono HB.out.size))
  clear HB
  have HB := HB'
  clear HB'
  have D5 := Lib.hid (show DiagsAt w3.heap.size w3 d2 [] from .inl rfl)
  clear hb2 hr2 hd2 hb3
  unfold nodeVal
  go_wp2_with fail
  rw [← hw3]
  clear hw3
  refine (ref_got (Hd.rf [97] 0) [97] 0 w3 rfl).mono ?_
  rintro e w4 ⟨hb4, a4, c4, rfl, hr4⟩
  have R4 := Lib.hid hr4
  clear hr4
  have HS' := Lib.hid (symsAt_below HS.out hb4 (symsAt_lt HS.out))
  clear HS
  have HS := HS'
  clear HS'
  have HM' := Lib.hid (HM.out.below hb4 HM.out.lt)
  clear HM
  have HM := HM'
  clear HM'
  have HB' := Lib.hid (HB.out.trans (hb4.mono HB.out.size))
  clear HB
  have HB := HB'
  clear HB'
  have T4' := Lib.hid (T4.out.below hb4)
  clear T4
  have T4 := T4'
  clear T4'
  clear hb4
  go_wp2_with fail
  refine (ref_got (Hd.rf [98] 4) [98] 4 w4 rfl).mono ?_
  rintro e w5 ⟨hb5, a5, c5, rfl, hr5⟩
  have R5 := Lib.hid hr5
  clear hr5
  have HS' := Lib.hid (symsAt_below HS.out hb5 (symsAt_lt HS.out))
  clear HS
  have HS := HS'
  clear HS'
  have HM' := Lib.hid (HM.out.below hb5 HM.out.lt)
  clear HM
  have HM := HM'
  clear HM'
  have HB' := Lib.hid (HB.out.trans (hb5.mono HB.out.size))
  clear HB
  have HB := HB'
  clear HB'
  have T4' := Lib.hid (T4.out.below hb5)
  clear T4
  have T4 := T4'
  clear T4'
  have R4' := Lib.hid (R4.out.next hb5)
  clear R4
  have R4 := R4'
  clear R4'
  clear hb5
  go_wp2_with fail
  refine (ref_got (Hd.rf [99] 8) [99] 8 w5 rfl).mono ?_
  rintro e w6 ⟨hb6, a6, c6, rfl, hr6⟩
  have R6 := Lib.hid hr6
  clear hr6
  have HS' := Lib.hid (symsAt_below HS.out hb6 (symsAt_lt HS.out))
  clear HS
  have HS := HS'
  clear HS'
  have HM' := Lib.hid (HM.out.below hb6 HM.out.lt)
  clear HM
  have HM := HM'
  clear HM'
  have HB' := Lib.hid (HB.out.trans (hb6.mono HB.out.size))
  clear HB
  have HB := HB'
  clear HB'
  have T4' := Lib.hid (T4.out.below hb6)
  clear T4
  have T4 := T4'
  clear T4'
  have R4' := Lib.hid (R4.out.next hb6)
  clear R4
  have R4 := R4'
  clear R4'
  have R5' := Lib.hid (R5.out.next hb6)
  clear R5
  have R5 := R5'
  clear R5'
  clear hb6
  go_wp2_with fail
  refine (two_got (Hd.bin [42] 6 (Hd.rf [98] 4) (Hd.rf [99] 8)) [42] 6 (Hd.rf [98] 4) (Hd.rf [99] 8) a5 a6 c5 c6 w6 rfl R5.out R6.out).mono ?_
  rintro e w7 ⟨hb7, a7, c7, rfl, hr7⟩
  have R7 := Lib.hid hr7
  clear hr7
  have HS' := Lib.hid (symsAt_below HS.out hb7 (symsAt_lt HS.out))
  clear HS
  have HS := HS'
  clear HS'
  have HM' := Lib.hid (HM.out.below hb7 HM.out.lt)
  clear HM
  have HM := HM'
  clear HM'
  have HB' := Lib.hid (HB.out.trans (hb7.mono HB.out.size))
  clear HB
  have HB := HB'
  clear HB'
  have T4' := Lib.hid (T4.out.below hb7)
  clear T4
  have T4 := T4'
  clear T4'
  have R4' := Lib.hid (R4.out.next hb7)
  clear R4
  have R4 := R4'
  clear R4'
  clear hb7 R5 R6
  go_wp2_with fail
  refine (two_got Hd.sum [43] 2 (Hd.rf [97] 0) (Hd.bin [42] 6 (Hd.rf [98] 4) (Hd.rf [99] 8)) a4 a7 c4 c7 w7 rfl R4.out R7.out).mono ?_
  rintro e w8 ⟨hb8, a8, c8, rfl, hr8⟩
  have R8 := Lib.hid hr8
  clear hr8
  have HS' := Lib.hid (symsAt_below HS.out hb8 (symsAt_lt HS.out))
  clear HS
  have HS := HS'
  clear HS'
  have HM' := Lib.hid (HM.out.below hb8 HM.out.lt)
  clear HM
  have HM := HM'
  clear HM'
  have HB' := Lib.hid (HB.out.trans (hb8.mono HB.out.size))
  clear HB
  have HB := HB'
  clear HB'
  have T4' := Lib.hid (T4.out.below hb8)
  clear T4
  have T4 := T4'
  clear T4'
  clear hb8 R4 R7
  obtain ⟨sum, hsum⟩ : ∃ t, t = Hd.sum := ⟨_, rfl⟩
  rw [← hsum] at R8 ⊢
  have Hsum := Lib.hid hsum
  clear hsum
  obtain ⟨w9, hw9⟩ : ∃ W, W = w8.alloc (.cells #[.int .i64 sum.kind, .string ⟨sum.name.toArray⟩, .string ⟨sum.other.toArray⟩, .int .i64 sum.n, .int .i64 sum.len, .int .i64 sum.init, .bool sum.ghost, .slice a8 sum.kids.length c8, .int .i64 sum.off] 25) := ⟨_, rfl⟩
  have hb9 : Below w8.heap.size w8 w9 := by rw [hw9]; exact (Below.refl _ _).alloc (Nat.le_refl _) _
  have T6 := Lib.hid (show Tr w9 w8.heap.size sum by rw [hw9]; exact Tr.new R8.out rfl)
  have HS' := Lib.hid (symsAt_below HS.out hb9 (symsAt_lt HS.out))
  clear HS
  have HS := HS'
  clear HS'
  have HM' := Lib.hid (HM.out.below hb9 HM.out.lt)
  clear HM
  have HM := HM'
  clear HM'
  have HB' := Lib.hid (HB.out.trans (hb9.mono HB.out.size))
  clear HB
  have HB := HB'
  clear HB'
  have T4' := Lib.hid (T4.out.below hb9)
  clear T4
  have T4 := T4'
  clear T4'
  clear hb9 R8
  go_upto_region 4 with (fail)
  rw [← hw9]
  clear hw9
  go_cut [7] (fun p wx => ∃ b : Nat, p = .pointer (some ⟨b, 0, none⟩) ∧ Hid (Tr wx b tree) ∧ Hid (Tr wx w2.heap.size tree) ∧ Hid (SymsAt wx) ∧ Hid (MaxAt wx) ∧ Hid (Below w.heap.size w wx))
  rotate_left
  · clear T4 T6 HS HM HB
    obtain ⟨b7, rfl, T7, T4, HS, HM, HB⟩ := hcut
    obtain ⟨w15, hw15⟩ : ∃ W, W = wc := ⟨_, rfl⟩
    subst hw15
    obtain ⟨zt, hzt⟩ : ∃ t, t = T.zero := ⟨_, rfl⟩
    obtain ⟨st, hst⟩ : ∃ t, t = Px.source [] := ⟨_, rfl⟩
    have Hst := Lib.hid hst
    have p16 := Hd.expr_twice
    rw [← hzt] at p16
    have p24 := Hd.src_end
    rw [← hst] at p24
    have P16 := Lib.hid p16
    have P24 := Lib.hid p24
    clear hzt hst p16 p24
    go_wp2_with fail
    refine (parseExpr_any ⟨[97, 32, 61, 61, 32, 98, 32, 61, 61, 32, 99].toArray⟩ w15 HS.out (by decide)).mono ?_
    intro e w16 hp
    rw [show Px.parseExpr (⟨[97, 32, 61, 61, 32, 98, 32, 61, 61, 32, 99].toArray⟩ : ByteArray).data.toList = (zt, [⟨20, 7⟩]) from P16.out] at hp
    obtain ⟨hb16, a16, c16, d9, e9, rfl, hr16, hd9⟩ := hp
    have HS' := Lib.hid (symsAt_below HS.out hb16 (symsAt_lt HS.out))
    clear HS
    have HS := HS'
    clear HS'
    have HM' := Lib.hid (HM.out.below hb16 HM.out.lt)
    clear HM
    have HM := HM'
    clear HM'
    have HB' := Lib.hid (HB.out.trans (hb16.mono HB.out.size))
    clear HB
    have HB := HB'
    clear HB'
    have T4' := Lib.hid (T4.out.below hb16)
    clear T4
    have T4 := T4'
    clear T4'
    have T7' := Lib.hid (T7.out.below hb16)
    clear T7
    have T7 := T7'
    clear T7'
    have D9 := Lib.hid hd9
    obtain ⟨w17, hw17⟩ : ∃ W, W = w16.alloc (.cells #[.int .i64 zt.kind, .string ⟨zt.name.toArray⟩, .string ⟨zt.other.toArray⟩, .int .i64 zt.n, .int .i64 zt.len, .int .i64 zt.init, .bool zt.ghost, .slice a16 zt.kids.length c16, .int .i64 zt.off] 25) := ⟨_, rfl⟩
    have hb17 : Below w16.heap.size w16 w17 := by rw [hw17]; exact (Below.refl _ _).alloc (Nat.le_refl _) _
    have T8 := Lib.hid (show Tr w17 w16.heap.size zt by rw [hw17]; exact Tr.new hr16 rfl)
    have HS' := Lib.hid (symsAt_below HS.out hb17 (symsAt_lt HS.out))
    clear HS
    have HS := HS'
    clear HS'
    have HM' := Lib.hid (HM.out.below hb17 HM.out.lt)
    clear HM
    have HM := HM'
    clear HM'
    have HB' := Lib.hid (HB.out.trans (hb17.mono HB.out.size))
    clear HB
    have HB := HB'
    clear HB'
    have T4' := Lib.hid (T4.out.below hb17)
    clear T4
    have T4 := T4'
    clear T4'
    have T7' := Lib.hid (T7.out.below hb17)
    clear T7
    have T7 := T7'
    clear T7'
    have D9' := Lib.hid (D9.out.below hb17)
    clear D9
    have D9 := D9'
    clear D9'
    clear hb16 hb17 hr16 hd9 T8
    unfold nodeVal
    go_wp2_with fail
    rw [← hw17]
    clear hw17
    refine (parse_any ⟨[109, 111, 100, 117, 108, 101, 32, 77, 32, 111, 119, 110, 101, 114, 32, 65, 32, 123, 32, 115, 104, 97, 114, 101, 100, 32, 120, 32, 58, 32, 59, 32, 115, 104, 97, 114, 101, 100, 32, 121, 32, 58, 32, 49, 59, 32, 125].toArray⟩ w17 HS.out (by decide)).mono ?_
    intro e w18 hp
    rw [show Px.parse (⟨[109, 111, 100, 117, 108, 101, 32, 77, 32, 111, 119, 110, 101, 114, 32, 65, 32, 123, 32, 115, 104, 97, 114, 101, 100, 32, 120, 32, 58, 32, 59, 32, 115, 104, 97, 114, 101, 100, 32, 121, 32, 58, 32, 49, 59, 32, 125].toArray⟩ : ByteArray).data.toList = (want, [⟨20, 30⟩]) from by rw [Hwant.out]; exact Hd.src_ok] at hp
    obtain ⟨hb18, a18, c18, d11, e11, rfl, hr18, hd11⟩ := hp
    have HS' := Lib.hid (symsAt_below HS.out hb18 (symsAt_lt HS.out))
    clear HS
    have HS := HS'
    clear HS'
    have HM' := Lib.hid (HM.out.below hb18 HM.out.lt)
    clear HM
    have HM := HM'
    clear HM'
    have HB' := Lib.hid (HB.out.trans (hb18.mono HB.out.size))
    clear HB
    have HB := HB'
    clear HB'
    have T4' := Lib.hid (T4.out.below hb18)
    clear T4
    have T4 := T4'
    clear T4'
    have T7' := Lib.hid (T7.out.below hb18)
    clear T7
    have T7 := T7'
    clear T7'
    have D9' := Lib.hid (D9.out.below hb18)
    clear D9
    have D9 := D9'
    clear D9'
    have D11 := Lib.hid hd11
    obtain ⟨w19, hw19⟩ : ∃ W, W = w18.alloc (.cells #[.int .i64 want.kind, .string ⟨want.name.toArray⟩, .string ⟨want.other.toArray⟩, .int .i64 want.n, .int .i64 want.len, .int .i64 want.init, .bool want.ghost, .slice a18 want.kids.length c18, .int .i64 want.off] 25) := ⟨_, rfl⟩
    have hb19 : Below w18.heap.size w18 w19 := by rw [hw19]; exact (Below.refl _ _).alloc (Nat.le_refl _) _
    have T10 := Lib.hid (show Tr w19 w18.heap.size want by rw [hw19]; exact Tr.new hr18 rfl)
    have HS' := Lib.hid (symsAt_below HS.out hb19 (symsAt_lt HS.out))
    clear HS
    have HS := HS'
    clear HS'
    have HM' := Lib.hid (HM.out.below hb19 HM.out.lt)
    clear HM
    have HM := HM'
    clear HM'
    have HB' := Lib.hid (HB.out.trans (hb19.mono HB.out.size))
    clear HB
    have HB := HB'
    clear HB'
    have T4' := Lib.hid (T4.out.below hb19)
    clear T4
    have T4 := T4'
    clear T4'
    have T7' := Lib.hid (T7.out.below hb19)
    clear T7
    have T7 := T7'
    clear T7'
    have D9' := Lib.hid (D9.out.below hb19)
    clear D9
    have D9 := D9'
    clear D9'
    have D11' := Lib.hid (D11.out.below hb19)
    clear D11
    have D11 := D11'
    clear D11'
    clear hb18 hb19 hr18 hd11
    unfold nodeVal
    go_upto_region 7 with (fail)
    rw [← hw19]
    clear hw19
    obtain ⟨w20, hw20⟩ : ∃ W, W = w19.alloc (.cells #[.int .i64 50, .string ⟨#[121]⟩, .string ⟨#[]⟩, .int .i64 1, .int .i64 0, .int .i64 0, .bool false, .slice none 0 0, .int .i64 32] 25) := ⟨_, rfl⟩
    have hb20 : Below w19.heap.size w19 w20 := by rw [hw20]; exact (Below.refl _ _).alloc (Nat.le_refl _) _
    have T12 := Lib.hid (show Tr w20 w19.heap.size Hd.y by rw [hw20]; exact Tr.new (t := Hd.y) (RRow.nil _ _) rfl)
    have z12 : Var 25 w20 w19.heap.size #[.int .i64 50, .string ⟨#[121]⟩, .string ⟨#[]⟩, .int .i64 1, .int .i64 0, .int .i64 0, .bool false, .slice none 0 0, .int .i64 32] := by rw [hw20]; exact Var.new _ _ _
    have z12l := z12.lt
    obtain ⟨z12c, z12f⟩ := obj_facts z12
    have HS' := Lib.hid (symsAt_below HS.out hb20 (symsAt_lt HS.out))
    clear HS
    have HS := HS'
    clear HS'
    have HM' := Lib.hid (HM.out.below hb20 HM.out.lt)
    clear HM
    have HM := HM'
    clear HM'
    have HB' := Lib.hid (HB.out.trans (hb20.mono HB.out.size))
    clear HB
    have HB := HB'
    clear HB'
    have T4' := Lib.hid (T4.out.below hb20)
    clear T4
    have T4 := T4'
    clear T4'
    have T7' := Lib.hid (T7.out.below hb20)
    clear T7
    have T7 := T7'
    clear T7'
    have T10' := Lib.hid (T10.out.below hb20)
    clear T10
    have T10 := T10'
    clear T10'
    have D9' := Lib.hid (D9.out.below hb20)
    clear D9
    have D9 := D9'
    clear D9'
    have D11' := Lib.hid (D11.out.below hb20)
    clear D11
    have D11 := D11'
    clear D11'
    clear hb20
    go_upto_region 8 with (fail)
    rw [← hw20]
    clear hw20
    obtain ⟨w23, hw23⟩ : ∃ W, W = ((w20.alloc (.cells #[.int .i64 50, .string ⟨#[121]⟩, .string ⟨#[]⟩, .int .i64 1, .int .i64 0, .int .i64 0, .bool false, .slice none 0 0, .int .i64 32] 25)).alloc (.cells #[.int .i64 60, .string ⟨#[77]⟩, .string ⟨#[65]⟩, .int .i64 0, .int .i64 0, .int .i64 0, .bool false, .slice (some ⟨w20.heap.size, 0, none⟩) 1 1, .int .i64 0] 25)).alloc (.cells #[.int .i64 62, .string ⟨#[]⟩, .string ⟨#[]⟩, .int .i64 0, .int .i64 0, .int .i64 0, .bool false, .slice (some ⟨w20.heap.size + 1, 0, none⟩) 1 1, .int .i64 0] 25) := ⟨_, rfl⟩
    have hb23 : Below w20.heap.size w20 w23 := by rw [hw23]; exact (((Below.refl _ _).alloc (Nat.le_refl _) _).alloc (by simp) _).alloc (by simp; omega) _
    have T13 := Lib.hid (show Tr w23 (w20.heap.size + 1 + 1) want by
      rw [Hwant.out, hw23]
      have r1 := RRow.one (w := w20) (t := Hd.y) (kv := .slice none 0 0) (RRow.nil _ _) rfl
      have r2 := RRow.one (w := w20.alloc (.cells #[.int .i64 50, .string ⟨#[121]⟩, .string ⟨#[]⟩, .int .i64 1, .int .i64 0, .int .i64 0, .bool false, .slice none 0 0, .int .i64 32] 25)) (t := .mk 60 [77] [65] 0 0 0 false [Hd.y] 0) (kv := .slice (some ⟨w20.heap.size, 0, none⟩) 1 1) (b := w20.heap.size + 1) (r1.mono (by simp)) (by simp)
      exact Tr.new (t := Hd.want) (cap := 1) (r2.mono (by simp)) (by simp))
    have HS' := Lib.hid (symsAt_below HS.out hb23 (symsAt_lt HS.out))
    clear HS
    have HS := HS'
    clear HS'
    have HM' := Lib.hid (HM.out.below hb23 HM.out.lt)
    clear HM
    have HM := HM'
    clear HM'
    have HB' := Lib.hid (HB.out.trans (hb23.mono HB.out.size))
    clear HB
    have HB := HB'
    clear HB'
    have T4' := Lib.hid (T4.out.below hb23)
    clear T4
    have T4 := T4'
    clear T4'
    have T7' := Lib.hid (T7.out.below hb23)
    clear T7
    have T7 := T7'
    clear T7'
    have T10' := Lib.hid (T10.out.below hb23)
    clear T10
    have T10 := T10'
    clear T10'
    have T12' := Lib.hid (T12.out.below hb23)
    clear T12
    have T12 := T12'
    clear T12'
    have D9' := Lib.hid (D9.out.below hb23)
    clear D9
    have D9 := D9'
    clear D9'
    have D11' := Lib.hid (D11.out.below hb23)
    clear D11
    have D11 := D11'
    clear D11'
    clear hb23
    go_wp2_with fail
    rw [← hw23]
    clear hw23 z12 z12l z12c z12f
    refine (parse_any ⟨[116, 104, 114, 101, 97, 100, 32, 116, 32, 61, 32, 77, 46, 112, 40, 49].toArray⟩ w23 HS.out (by decide)).mono ?_
    intro e w24 hp
    rw [show Px.parse (⟨[116, 104, 114, 101, 97, 100, 32, 116, 32, 61, 32, 77, 46, 112, 40, 49].toArray⟩ : ByteArray).data.toList = (st, [⟨21, 16⟩]) from P24.out] at hp
    obtain ⟨hb24, a24, c24, d15, e15, rfl, hr24, hd15⟩ := hp
    have HS' := Lib.hid (symsAt_below HS.out hb24 (symsAt_lt HS.out))
    clear HS
    have HS := HS'
    clear HS'
    have HM' := Lib.hid (HM.out.below hb24 HM.out.lt)
    clear HM
    have HM := HM'
    clear HM'
    have HB' := Lib.hid (HB.out.trans (hb24.mono HB.out.size))
    clear HB
    have HB := HB'
    clear HB'
    have T4' := Lib.hid (T4.out.below hb24)
    clear T4
    have T4 := T4'
    clear T4'
    have T7' := Lib.hid (T7.out.below hb24)
    clear T7
    have T7 := T7'
    clear T7'
    have T10' := Lib.hid (T10.out.below hb24)
    clear T10
    have T10 := T10'
    clear T10'
    have T12' := Lib.hid (T12.out.below hb24)
    clear T12
    have T12 := T12'
    clear T12'
    have T13' := Lib.hid (T13.out.below hb24)
    clear T13
    have T13 := T13'
    clear T13'
    have D9' := Lib.hid (D9.out.below hb24)
    clear D9
    have D9 := D9'
    clear D9'
    have D11' := Lib.hid (D11.out.below hb24)
    clear D11
    have D11 := D11'
    clear D11'
    have D15 := Lib.hid hd15
    obtain ⟨w25, hw25⟩ : ∃ W, W = w24.alloc (.cells #[.int .i64 st.kind, .string ⟨st.name.toArray⟩, .string ⟨st.other.toArray⟩, .int .i64 st.n, .int .i64 st.len, .int .i64 st.init, .bool st.ghost, .slice a24 st.kids.length c24, .int .i64 st.off] 25) := ⟨_, rfl⟩
    have hb25 : Below w24.heap.size w24 w25 := by rw [hw25]; exact (Below.refl _ _).alloc (Nat.le_refl _) _
    have T14 := Lib.hid (show Tr w25 w24.heap.size st by rw [hw25]; exact Tr.new hr24 rfl)
    have HS' := Lib.hid (symsAt_below HS.out hb25 (symsAt_lt HS.out))
    clear HS
    have HS := HS'
    clear HS'
    have HM' := Lib.hid (HM.out.below hb25 HM.out.lt)
    clear HM
    have HM := HM'
    clear HM'
    have HB' := Lib.hid (HB.out.trans (hb25.mono HB.out.size))
    clear HB
    have HB := HB'
    clear HB'
    have T4' := Lib.hid (T4.out.below hb25)
    clear T4
    have T4 := T4'
    clear T4'
    have T7' := Lib.hid (T7.out.below hb25)
    clear T7
    have T7 := T7'
    clear T7'
    have T10' := Lib.hid (T10.out.below hb25)
    clear T10
    have T10 := T10'
    clear T10'
    have T12' := Lib.hid (T12.out.below hb25)
    clear T12
    have T12 := T12'
    clear T12'
    have T13' := Lib.hid (T13.out.below hb25)
    clear T13
    have T13 := T13'
    clear T13'
    have D9' := Lib.hid (D9.out.below hb25)
    clear D9
    have D9 := D9'
    clear D9'
    have D11' := Lib.hid (D11.out.below hb25)
    clear D11
    have D11 := D11'
    clear D11'
    have D15' := Lib.hid (D15.out.below hb25)
    clear D15
    have D15 := D15'
    clear D15'
    clear hb24 hb25 hr24 hd15
    unfold nodeVal
    obtain ⟨a4, c4, z4, r4⟩ := T4.out
    have z4l := z4.lt
    obtain ⟨z4c, z4f⟩ := obj_facts z4
    have R4 := Lib.hid r4
    clear r4
    obtain ⟨a7, c7, z7, r7⟩ := T7.out
    have z7l := z7.lt
    obtain ⟨z7c, z7f⟩ := obj_facts z7
    have R7 := Lib.hid r7
    clear r7
    go_upto_region 10 with (fail)
    rw [← hw25]
    clear hw25
    go_wp2_with fail
    refine (same_any _ tree a4 a7 c4 c7 w25 (Nat.le_refl _) R4.out R7.out).mono ?_
    rintro e w26 ⟨rfl, hb26⟩
    have HS' := Lib.hid (symsAt_below HS.out hb26 (symsAt_lt HS.out))
    clear HS
    have HS := HS'
    clear HS'
    have HM' := Lib.hid (HM.out.below hb26 HM.out.lt)
    clear HM
    have HM := HM'
    clear HM'
    have HB' := Lib.hid (HB.out.trans (hb26.mono HB.out.size))
    clear HB
    have HB := HB'
    clear HB'
    have T7' := Lib.hid (T7.out.below hb26)
    clear T7
    have T7 := T7'
    clear T7'
    have T10' := Lib.hid (T10.out.below hb26)
    clear T10
    have T10 := T10'
    clear T10'
    have T12' := Lib.hid (T12.out.below hb26)
    clear T12
    have T12 := T12'
    clear T12'
    have T13' := Lib.hid (T13.out.below hb26)
    clear T13
    have T13 := T13'
    clear T13'
    have T14' := Lib.hid (T14.out.below hb26)
    clear T14
    have T14 := T14'
    clear T14'
    have D9' := Lib.hid (D9.out.below hb26)
    clear D9
    have D9 := D9'
    clear D9'
    have D11' := Lib.hid (D11.out.below hb26)
    clear D11
    have D11 := D11'
    clear D11'
    have D15' := Lib.hid (D15.out.below hb26)
    clear D15
    have D15 := D15'
    clear D15'
    clear hb26 z4 z4l z4c z4f R4 z7 z7l z7c z7f R7 T4
    go_wp2_with fail
    refine (one_any 20 7 d9 e9 w26 D9.out).mono ?_
    rintro e w27 ⟨rfl, hb27⟩
    have HS' := Lib.hid (symsAt_below HS.out hb27 (symsAt_lt HS.out))
    clear HS
    have HS := HS'
    clear HS'
    have HM' := Lib.hid (HM.out.below hb27 HM.out.lt)
    clear HM
    have HM := HM'
    clear HM'
    have HB' := Lib.hid (HB.out.trans (hb27.mono HB.out.size))
    clear HB
    have HB := HB'
    clear HB'
    have T7' := Lib.hid (T7.out.below hb27)
    clear T7
    have T7 := T7'
    clear T7'
    have T10' := Lib.hid (T10.out.below hb27)
    clear T10
    have T10 := T10'
    clear T10'
    have T12' := Lib.hid (T12.out.below hb27)
    clear T12
    have T12 := T12'
    clear T12'
    have T13' := Lib.hid (T13.out.below hb27)
    clear T13
    have T13 := T13'
    clear T13'
    have T14' := Lib.hid (T14.out.below hb27)
    clear T14
    have T14 := T14'
    clear T14'
    have D11' := Lib.hid (D11.out.below hb27)
    clear D11
    have D11 := D11'
    clear D11'
    have D15' := Lib.hid (D15.out.below hb27)
    clear D15
    have D15 := D15'
    clear D15'
    clear hb27 D9
    go_wp2_with fail
    refine (one_any 20 30 d11 e11 w27 D11.out).mono ?_
    rintro e w28 ⟨rfl, hb28⟩
    have HS' := Lib.hid (symsAt_below HS.out hb28 (symsAt_lt HS.out))
    clear HS
    have HS := HS'
    clear HS'
    have HM' := Lib.hid (HM.out.below hb28 HM.out.lt)
    clear HM
    have HM := HM'
    clear HM'
    have HB' := Lib.hid (HB.out.trans (hb28.mono HB.out.size))
    clear HB
    have HB := HB'
    clear HB'
    have T7' := Lib.hid (T7.out.below hb28)
    clear T7
    have T7 := T7'
    clear T7'
    have T10' := Lib.hid (T10.out.below hb28)
    clear T10
    have T10 := T10'
    clear T10'
    have T12' := Lib.hid (T12.out.below hb28)
    clear T12
    have T12 := T12'
    clear T12'
    have T13' := Lib.hid (T13.out.below hb28)
    clear T13
    have T13 := T13'
    clear T13'
    have T14' := Lib.hid (T14.out.below hb28)
    clear T14
    have T14 := T14'
    clear T14'
    have D15' := Lib.hid (D15.out.below hb28)
    clear D15
    have D15 := D15'
    clear D15'
    clear hb28 D11
    obtain ⟨a10, c10, z10, r10⟩ := T10.out
    have z10l := z10.lt
    obtain ⟨z10c, z10f⟩ := obj_facts z10
    have R10 := Lib.hid r10
    clear r10
    obtain ⟨a13, c13, z13, r13⟩ := T13.out
    have z13l := z13.lt
    obtain ⟨z13c, z13f⟩ := obj_facts z13
    have R13 := Lib.hid r13
    clear r13
    go_wp2_with fail
    refine (same_any _ want a10 a13 c10 c13 w28 (Nat.le_refl _) R10.out R13.out).mono ?_
    rintro e w29 ⟨rfl, hb29⟩
    have HS' := Lib.hid (symsAt_below HS.out hb29 (symsAt_lt HS.out))
    clear HS
    have HS := HS'
    clear HS'
    have HM' := Lib.hid (HM.out.below hb29 HM.out.lt)
    clear HM
    have HM := HM'
    clear HM'
    have HB' := Lib.hid (HB.out.trans (hb29.mono HB.out.size))
    clear HB
    have HB := HB'
    clear HB'
    have T7' := Lib.hid (T7.out.below hb29)
    clear T7
    have T7 := T7'
    clear T7'
    have T12' := Lib.hid (T12.out.below hb29)
    clear T12
    have T12 := T12'
    clear T12'
    have T13' := Lib.hid (T13.out.below hb29)
    clear T13
    have T13 := T13'
    clear T13'
    have T14' := Lib.hid (T14.out.below hb29)
    clear T14
    have T14 := T14'
    clear T14'
    have D15' := Lib.hid (D15.out.below hb29)
    clear D15
    have D15 := D15'
    clear D15'
    clear hb29 z10 z10l z10c z10f R10 z13 z13l z13c z13f R13 T10
    go_wp2_with fail
    refine (one_any 21 16 d15 e15 w29 D15.out).mono ?_
    rintro e w30 ⟨rfl, hb30⟩
    have HS' := Lib.hid (symsAt_below HS.out hb30 (symsAt_lt HS.out))
    clear HS
    have HS := HS'
    clear HS'
    have HM' := Lib.hid (HM.out.below hb30 HM.out.lt)
    clear HM
    have HM := HM'
    clear HM'
    have HB' := Lib.hid (HB.out.trans (hb30.mono HB.out.size))
    clear HB
    have HB := HB'
    clear HB'
    have T7' := Lib.hid (T7.out.below hb30)
    clear T7
    have T7 := T7'
    clear T7'
    have T12' := Lib.hid (T12.out.below hb30)
    clear T12
    have T12 := T12'
    clear T12'
    have T13' := Lib.hid (T13.out.below hb30)
    clear T13
    have T13 := T13'
    clear T13'
    have T14' := Lib.hid (T14.out.below hb30)
    clear T14
    have T14 := T14'
    clear T14'
    clear hb30 D15
    obtain ⟨a14, c14, z14, r14⟩ := T14.out
    have z14l := z14.lt
    obtain ⟨z14c, z14f⟩ := obj_facts z14
    have R14 := Lib.hid r14
    clear r14
    have k14 : st.kind = 62 := by rw [Hst.out]; rfl
    have l14 : st.kids.length = 0 := by rw [Hst.out]; rfl
    rw [k14, l14] at z14 z14c
    clear k14 l14
    obtain ⟨a7, c7, z7, r7⟩ := T7.out
    have z7l := z7.lt
    obtain ⟨z7c, z7f⟩ := obj_facts z7
    have R7 := Lib.hid r7
    clear r7
    go_wp2_with fail
    refine (valid_expr tree a7 c7 w30 (by rw [Htree.out]; decide) (by rw [Htree.out]; exact valid_tree) R7.out HM.out).mono ?_
    rintro e w31 ⟨rfl, hb31⟩
    have HS' := Lib.hid (symsAt_below HS.out hb31 (symsAt_lt HS.out))
    clear HS
    have HS := HS'
    clear HS'
    have HM' := Lib.hid (HM.out.below hb31 HM.out.lt)
    clear HM
    have HM := HM'
    clear HM'
    have HB' := Lib.hid (HB.out.trans (hb31.mono HB.out.size))
    clear HB
    have HB := HB'
    clear HB'
    have T12' := Lib.hid (T12.out.below hb31)
    clear T12
    have T12 := T12'
    clear T12'
    have T13' := Lib.hid (T13.out.below hb31)
    clear T13
    have T13 := T13'
    clear T13'
    clear hb31 z7 z7l z7c z7f R7 T7 z14 z14l z14c z14f R14 T14
    obtain ⟨a13, c13, z13, r13⟩ := T13.out
    have z13l := z13.lt
    obtain ⟨z13c, z13f⟩ := obj_facts z13
    have R13 := Lib.hid r13
    clear r13
    go_wp2_with fail
    refine (valid_source want a13 c13 w31 (by rw [Hwant.out]; rfl) (by rw [Hwant.out]; exact valid_want) R13.out HM.out).mono ?_
    rintro e w32 ⟨rfl, hb32⟩
    have HS' := Lib.hid (symsAt_below HS.out hb32 (symsAt_lt HS.out))
    clear HS
    have HS := HS'
    clear HS'
    have HM' := Lib.hid (HM.out.below hb32 HM.out.lt)
    clear HM
    have HM := HM'
    clear HM'
    have HB' := Lib.hid (HB.out.trans (hb32.mono HB.out.size))
    clear HB
    have HB := HB'
    clear HB'
    have T12' := Lib.hid (T12.out.below hb32)
    clear T12
    have T12 := T12'
    clear T12'
    clear hb32 z13 z13l z13c z13f R13 T13
    obtain ⟨a12, c12, z12, r12⟩ := T12.out
    have z12l := z12.lt
    obtain ⟨z12c, z12f⟩ := obj_facts z12
    have R12 := Lib.hid r12
    clear r12
    go_wp2_with fail
    refine (valid_no Hd.y a12 c12 w32 (by decide) (by decide)).mono ?_
    rintro e w33 ⟨rfl, hb33⟩
    have HS' := Lib.hid (symsAt_below HS.out hb33 (symsAt_lt HS.out))
    clear HS
    have HS := HS'
    clear HS'
    have HM' := Lib.hid (HM.out.below hb33 HM.out.lt)
    clear HM
    have HM := HM'
    clear HM'
    have HB' := Lib.hid (HB.out.trans (hb33.mono HB.out.size))
    clear HB
    have HB := HB'
    clear HB'
    clear hb33 z12 z12l z12c z12f R12 T12
    go_wp2_with fail
    refine (ref_law [120] 7 w33).mono ?_
    rintro e w34 ⟨rfl, hb34⟩
    have HS' := Lib.hid (symsAt_below HS.out hb34 (symsAt_lt HS.out))
    clear HS
    have HS := HS'
    clear HS'
    have HM' := Lib.hid (HM.out.below hb34 HM.out.lt)
    clear HM
    have HM := HM'
    clear HM'
    have HB' := Lib.hid (HB.out.trans (hb34.mono HB.out.size))
    clear HB
    have HB := HB'
    clear HB'
    clear hb34
    go_wp2_with fail
    refine (strip_leaf 2 [120] [] 0 0 0 false 7 w34).mono ?_
    rintro e w35 ⟨rfl, hb35⟩
    have HS' := Lib.hid (symsAt_below HS.out hb35 (symsAt_lt HS.out))
    clear HS
    have HS := HS'
    clear HS'
    have HM' := Lib.hid (HM.out.below hb35 HM.out.lt)
    clear HM
    have HM := HM'
    clear HM'
    have HB' := Lib.hid (HB.out.trans (hb35.mono HB.out.size))
    clear HB
    have HB := HB'
    clear HB'
    clear hb35
    go_wp2_with fail
    refine (ref_law [120] 0 w35).mono ?_
    rintro e w36 ⟨rfl, hb36⟩
    have HS' := Lib.hid (symsAt_below HS.out hb36 (symsAt_lt HS.out))
    clear HS
    have HS := HS'
    clear HS'
    have HM' := Lib.hid (HM.out.below hb36 HM.out.lt)
    clear HM
    have HM := HM'
    clear HM'
    have HB' := Lib.hid (HB.out.trans (hb36.mono HB.out.size))
    clear HB
    have HB := HB'
    clear HB'
    clear hb36
    go_wp2_with fail
    refine (same_any _ (T.named 2 0 [120] []) none none 0 0 w36 (Nat.le_refl _) (RRow.nil _ _) (RRow.nil _ _)).mono ?_
    rintro e w37 ⟨rfl, hb37⟩
    have HS' := Lib.hid (symsAt_below HS.out hb37 (symsAt_lt HS.out))
    clear HS
    have HS := HS'
    clear HS'
    have HM' := Lib.hid (HM.out.below hb37 HM.out.lt)
    clear HM
    have HM := HM'
    clear HM'
    have HB' := Lib.hid (HB.out.trans (hb37.mono HB.out.size))
    clear HB
    have HB := HB'
    clear HB'
    clear hb37
    go_wp2_with fail
    refine bodyPost_ret (v := .bool true) ?_ rfl ⟨rfl, HB.out⟩
    simp [results, Tryz.results11, go_sem]
  have Hnz := Lib.hid (show nzL tree.kids = true by rw [Htree.out]; rfl)
  have hl4 : w2.heap.size < w9.heap.size := by obtain ⟨_, _, z, _⟩ := T4.out; exact z.lt
  have hlw : w.heap.size ≤ w9.heap.size := HB.out.size
  have hl2 : 2 ≤ w9.heap.size := HM.out.lt
  obtain ⟨a6, c6, z6, r6⟩ := T6.out
  have z6l := z6.lt
  obtain ⟨z6c, z6f⟩ := obj_facts z6
  have R6 := Lib.hid r6
  clear r6
  obtain ⟨rd, hrd⟩ : ∃ t, t = Hd.rf [100] 13 := ⟨_, rfl⟩
  obtain ⟨re, hre⟩ : ∃ t, t = Hd.rf [101] 19 := ⟨_, rfl⟩
  obtain ⟨ee, hee⟩ : ∃ t, t = Hd.bin [61, 61] 10 sum rd := ⟨_, rfl⟩
  have Hrd := Lib.hid (show ∀ W : World, Calls Tryz.prog 23 #[.string ⟨[100].toArray⟩, .int .i64 13] W (TreeGot rd W) from fun W => ref_got rd [100] 13 W hrd)
  have Hre := Lib.hid (show ∀ W : World, Calls Tryz.prog 23 #[.string ⟨[101].toArray⟩, .int .i64 19] W (TreeGot re W) from fun W => ref_got re [101] 19 W hre)
  have Hq := Lib.hid (show ∀ (a b : Option Addr) (ca cb : Nat) (W : World), RRow W.heap.size W sum.kids (.slice a sum.kids.length ca) → RRow W.heap.size W rd.kids (.slice b rd.kids.length cb) → Calls Tryz.prog 25 #[.string ⟨[61, 61].toArray⟩, .int .i64 10, .agg #[.int .i64 sum.kind, .string ⟨sum.name.toArray⟩, .string ⟨sum.other.toArray⟩, .int .i64 sum.n, .int .i64 sum.len, .int .i64 sum.init, .bool sum.ghost, .slice a sum.kids.length ca, .int .i64 sum.off], .agg #[.int .i64 rd.kind, .string ⟨rd.name.toArray⟩, .string ⟨rd.other.toArray⟩, .int .i64 rd.n, .int .i64 rd.len, .int .i64 rd.init, .bool rd.ghost, .slice b rd.kids.length cb, .int .i64 rd.off]] W (TreeGot ee W) from fun a b ca cb W h1 h2 => two_got ee [61, 61] 10 sum rd a b ca cb W hee h1 h2)
  have Htr := Htree.out
  have Hand := Lib.hid (show ∀ (a b : Option Addr) (ca cb : Nat) (W : World), RRow W.heap.size W ee.kids (.slice a ee.kids.length ca) → RRow W.heap.size W [re] (.slice b 1 cb) → Calls Tryz.prog 25 #[.string ⟨[38, 38].toArray⟩, .int .i64 15, .agg #[.int .i64 ee.kind, .string ⟨ee.name.toArray⟩, .string ⟨ee.other.toArray⟩, .int .i64 ee.n, .int .i64 ee.len, .int .i64 ee.init, .bool ee.ghost, .slice a ee.kids.length ca, .int .i64 ee.off], .agg #[.int .i64 4, .string ⟨#[]⟩, .string ⟨#[]⟩, .int .i64 0, .int .i64 0, .int .i64 0, .bool false, .slice b 1 cb, .int .i64 18]] W (TreeGot tree W) from fun a b ca cb W h1 h2 => two_got tree [38, 38] 15 ee (.mk 4 [] [] 0 0 0 false [re] 18) a b ca cb W (by rw [Htr, hee, Hsum.out, hrd, hre]; rfl) h1 h2)
  clear hrd hre hee Htr
  have M1 : True := trivial
  have M2 : True := trivial
  have M3 : True := trivial
  have M4 : True := trivial
  go_wp2_with fail
  go_region_law (first
    | (go_simp; go_at_call 25; clear M4; have hh := R12.out; refine (Hand.out a11 (some ⟨_, 0, none⟩) c11 1 _ (R11.out.next (by (repeat (first | exact Below.refl _ _ | refine Below.drew ?_ | refine Below.alloc ?_ (by simp <;> omega) _)))) (by first | exact (RRow.one hh rfl).mono (by simp) | exact ((RRow.one hh rfl).mono (by simp)).next ((Below.refl _ _).alloc (Nat.le_refl _) _) | exact (RRow.one (hh.next ((Below.refl _ _).alloc (Nat.le_refl _) _)) (by simp)).mono (by simp))).mono ?_; rintro e w14 ⟨hq14, a14, c14, rfl, hr14⟩; have hb14 : Below w12.heap.size w12 w14 := below_step (by (repeat (first | exact Below.refl _ _ | refine Below.drew ?_ | refine Below.alloc ?_ (by simp <;> omega) _))) hq14; have R14 := Lib.hid hr14; clear hr14; have hs14 := hb14.size; (first | (have zz2 : Var 25 w14 _ #[.int .i64 0, .string ⟨#[]⟩, .string ⟨#[]⟩, .int .i64 0, .int .i64 0, .int .i64 0, .bool false, .slice none 0 0, .int .i64 0] := (hb14.block _ zzl).trans zz; clear zz zzl; have zz := zz2; clear zz2; have zzl := zz.lt) | (refine with_fact (p := Var 25 w14 (w12.heap.size) #[.int .i64 0, .string ⟨#[]⟩, .string ⟨#[]⟩, .int .i64 0, .int .i64 0, .int .i64 0, .bool false, .slice none 0 0, .int .i64 0]) ?_ (fun zz => ?_); (focus (refine (hq14.block _ ?_).trans (Var.new' ?_) <;> (simp <;> omega))); have zzl := zz.lt) | (refine with_fact (p := Var 25 w14 (w12.heap.size) #[.int .i64 0, .string ⟨#[]⟩, .string ⟨#[]⟩, .int .i64 0, .int .i64 0, .int .i64 0, .bool false, .slice none 0 0, .int .i64 0]) ?_ (fun zz => ?_); (focus (refine (hq14.block _ ?_).trans (Var.alloc (Var.new' ?_) _) <;> (simp <;> omega))); have zzl := zz.lt) | (refine with_fact (p := Var 25 w14 (w12.heap.size + 1) #[.int .i64 0, .string ⟨#[]⟩, .string ⟨#[]⟩, .int .i64 0, .int .i64 0, .int .i64 0, .bool false, .slice none 0 0, .int .i64 0]) ?_ (fun zz => ?_); (focus (refine (hq14.block _ ?_).trans (Var.new' ?_) <;> (simp <;> omega))); have zzl := zz.lt) | skip); (first | (have zzq := zz; obtain ⟨zzc, zzf⟩ := obj_facts zzq) | skip); clear hq14 hh; have HS' := Lib.hid (symsAt_below HS.out hb14 (symsAt_lt HS.out)); clear HS; have HS := HS'; clear HS'; have HM' := Lib.hid (HM.out.below hb14 HM.out.lt); clear HM; have HM := HM'; clear HM'; have HB' := Lib.hid (HB.out.trans (hb14.mono HB.out.size)); clear HB; have HB := HB'; clear HB'; have T4' := Lib.hid (T4.out.below hb14); clear T4; have T4 := T4'; clear T4'; clear hb14 R11 R12)
    | (go_simp; go_at_call 23; clear M3; refine (Hre.out _).mono ?_; rintro e w12 ⟨hq12, a12, c12, rfl, hr12⟩; have hb12 : Below w11.heap.size w11 w12 := below_step (by (repeat (first | exact Below.refl _ _ | refine Below.drew ?_ | refine Below.alloc ?_ (by simp <;> omega) _))) hq12; have R12 := Lib.hid hr12; clear hr12; have hs12 := hb12.size; (first | (have zz2 : Var 25 w12 _ #[.int .i64 0, .string ⟨#[]⟩, .string ⟨#[]⟩, .int .i64 0, .int .i64 0, .int .i64 0, .bool false, .slice none 0 0, .int .i64 0] := (hb12.block _ zzl).trans zz; clear zz zzl; have zz := zz2; clear zz2; have zzl := zz.lt) | (refine with_fact (p := Var 25 w12 (w11.heap.size) #[.int .i64 0, .string ⟨#[]⟩, .string ⟨#[]⟩, .int .i64 0, .int .i64 0, .int .i64 0, .bool false, .slice none 0 0, .int .i64 0]) ?_ (fun zz => ?_); (focus (refine (hq12.block _ ?_).trans (Var.new' ?_) <;> (simp <;> omega))); have zzl := zz.lt) | (refine with_fact (p := Var 25 w12 (w11.heap.size) #[.int .i64 0, .string ⟨#[]⟩, .string ⟨#[]⟩, .int .i64 0, .int .i64 0, .int .i64 0, .bool false, .slice none 0 0, .int .i64 0]) ?_ (fun zz => ?_); (focus (refine (hq12.block _ ?_).trans (Var.alloc (Var.new' ?_) _) <;> (simp <;> omega))); have zzl := zz.lt) | (refine with_fact (p := Var 25 w12 (w11.heap.size + 1) #[.int .i64 0, .string ⟨#[]⟩, .string ⟨#[]⟩, .int .i64 0, .int .i64 0, .int .i64 0, .bool false, .slice none 0 0, .int .i64 0]) ?_ (fun zz => ?_); (focus (refine (hq12.block _ ?_).trans (Var.new' ?_) <;> (simp <;> omega))); have zzl := zz.lt) | skip); clear hq12; have HS' := Lib.hid (symsAt_below HS.out hb12 (symsAt_lt HS.out)); clear HS; have HS := HS'; clear HS'; have HM' := Lib.hid (HM.out.below hb12 HM.out.lt); clear HM; have HM := HM'; clear HM'; have HB' := Lib.hid (HB.out.trans (hb12.mono HB.out.size)); clear HB; have HB := HB'; clear HB'; have T4' := Lib.hid (T4.out.below hb12); clear T4; have T4 := T4'; clear T4'; have R11' := Lib.hid (R11.out.next hb12); clear R11; have R11 := R11'; clear R11'; clear hb12)
    | (go_simp; go_at_call 25; clear M2; refine (Hq.out a6 a10 c6 c10 _ (R6.out.next (by (repeat (first | exact Below.refl _ _ | refine Below.drew ?_ | refine Below.alloc ?_ (by simp <;> omega) _)))) (R10.out.next (by (repeat (first | exact Below.refl _ _ | refine Below.drew ?_ | refine Below.alloc ?_ (by simp <;> omega) _))))).mono ?_; rintro e w11 ⟨hq11, a11, c11, rfl, hr11⟩; have hb11 : Below w10.heap.size w10 w11 := below_step (by (repeat (first | exact Below.refl _ _ | refine Below.drew ?_ | refine Below.alloc ?_ (by simp <;> omega) _))) hq11; have R11 := Lib.hid hr11; clear hr11; have hs11 := hb11.size; (first | (have zz2 : Var 25 w11 _ #[.int .i64 0, .string ⟨#[]⟩, .string ⟨#[]⟩, .int .i64 0, .int .i64 0, .int .i64 0, .bool false, .slice none 0 0, .int .i64 0] := (hb11.block _ zzl).trans zz; clear zz zzl; have zz := zz2; clear zz2; have zzl := zz.lt) | (refine with_fact (p := Var 25 w11 (w10.heap.size) #[.int .i64 0, .string ⟨#[]⟩, .string ⟨#[]⟩, .int .i64 0, .int .i64 0, .int .i64 0, .bool false, .slice none 0 0, .int .i64 0]) ?_ (fun zz => ?_); (focus (refine (hq11.block _ ?_).trans (Var.new' ?_) <;> (simp <;> omega))); have zzl := zz.lt) | (refine with_fact (p := Var 25 w11 (w10.heap.size) #[.int .i64 0, .string ⟨#[]⟩, .string ⟨#[]⟩, .int .i64 0, .int .i64 0, .int .i64 0, .bool false, .slice none 0 0, .int .i64 0]) ?_ (fun zz => ?_); (focus (refine (hq11.block _ ?_).trans (Var.alloc (Var.new' ?_) _) <;> (simp <;> omega))); have zzl := zz.lt) | (refine with_fact (p := Var 25 w11 (w10.heap.size + 1) #[.int .i64 0, .string ⟨#[]⟩, .string ⟨#[]⟩, .int .i64 0, .int .i64 0, .int .i64 0, .bool false, .slice none 0 0, .int .i64 0]) ?_ (fun zz => ?_); (focus (refine (hq11.block _ ?_).trans (Var.new' ?_) <;> (simp <;> omega))); have zzl := zz.lt) | skip); clear hq11; have HS' := Lib.hid (symsAt_below HS.out hb11 (symsAt_lt HS.out)); clear HS; have HS := HS'; clear HS'; have HM' := Lib.hid (HM.out.below hb11 HM.out.lt); clear HM; have HM := HM'; clear HM'; have HB' := Lib.hid (HB.out.trans (hb11.mono HB.out.size)); clear HB; have HB := HB'; clear HB'; have T4' := Lib.hid (T4.out.below hb11); clear T4; have T4 := T4'; clear T4'; clear hb11)
    | (go_simp; go_at_call 23; clear M1; refine (Hrd.out _).mono ?_; rintro e w10 ⟨hq10, a10, c10, rfl, hr10⟩; have hb10 : Below w9.heap.size w9 w10 := below_step (by (repeat (first | exact Below.refl _ _ | refine Below.drew ?_ | refine Below.alloc ?_ (by simp <;> omega) _))) hq10; have R10 := Lib.hid hr10; clear hr10; have hs10 := hb10.size; (first | (have zz2 : Var 25 w10 _ #[.int .i64 0, .string ⟨#[]⟩, .string ⟨#[]⟩, .int .i64 0, .int .i64 0, .int .i64 0, .bool false, .slice none 0 0, .int .i64 0] := (hb10.block _ zzl).trans zz; clear zz zzl; have zz := zz2; clear zz2; have zzl := zz.lt) | (refine with_fact (p := Var 25 w10 (w9.heap.size) #[.int .i64 0, .string ⟨#[]⟩, .string ⟨#[]⟩, .int .i64 0, .int .i64 0, .int .i64 0, .bool false, .slice none 0 0, .int .i64 0]) ?_ (fun zz => ?_); (focus (refine (hq10.block _ ?_).trans (Var.new' ?_) <;> (simp <;> omega))); have zzl := zz.lt) | (refine with_fact (p := Var 25 w10 (w9.heap.size) #[.int .i64 0, .string ⟨#[]⟩, .string ⟨#[]⟩, .int .i64 0, .int .i64 0, .int .i64 0, .bool false, .slice none 0 0, .int .i64 0]) ?_ (fun zz => ?_); (focus (refine (hq10.block _ ?_).trans (Var.alloc (Var.new' ?_) _) <;> (simp <;> omega))); have zzl := zz.lt) | (refine with_fact (p := Var 25 w10 (w9.heap.size + 1) #[.int .i64 0, .string ⟨#[]⟩, .string ⟨#[]⟩, .int .i64 0, .int .i64 0, .int .i64 0, .bool false, .slice none 0 0, .int .i64 0]) ?_ (fun zz => ?_); (focus (refine (hq10.block _ ?_).trans (Var.new' ?_) <;> (simp <;> omega))); have zzl := zz.lt) | skip); clear hq10; have HS' := Lib.hid (symsAt_below HS.out hb10 (symsAt_lt HS.out)); clear HS; have HS := HS'; clear HS'; have HM' := Lib.hid (HM.out.below hb10 HM.out.lt); clear HM; have HM := HM'; clear HM'; have HB' := Lib.hid (HB.out.trans (hb10.mono HB.out.size)); clear HB; have HB := HB'; clear HB'; have T4' := Lib.hid (T4.out.below hb10); clear T4; have T4 := T4'; clear T4'; have z6' : Var 25 w10 w8.heap.size _ := (hb10.block _ z6l).trans z6; have R6' := Lib.hid (R6.out.next hb10); clear z6c z6f z6 z6l R6; have z6 := z6'; have R6 := R6'; clear z6' R6'; have z6l := z6.lt; obtain ⟨z6c, z6f⟩ := obj_facts z6; clear hb10))
  all_goals go_wp2_with fail
  all_goals go_meet
  all_goals (first
    | (rw [storeN _ _ _ _ _ _ _ _ _ (HasN.of zz (by rfl))]; exact put_head zz Hnz.out R14.out T4.out (by omega) HS.out HM.out HB.out (by omega) (by omega) rfl)
    | exact new_head R14.out T4.out HS.out HM.out HB.out)
end Go.Proofs.YtbgpboiblggmiaaGreatDoor

/-
  The reference's Strip: a tree with all offsets 0.
-/
namespace Go.Proofs.YtbgpboiblggmiaaGreatDoor
open Go.RowKit
open Px (St T D Res)

mutual
/-- a tree with all offsets 0 -/
def stripT : T → T
  | .mk k x y n l i g kids _ => .mk k x y n l i g (stripL kids) 0
def stripL : List T → List T
  | [] => []
  | t :: r => stripT t :: stripL r
end
theorem stripL_len : ∀ l : List T, (stripL l).length = l.length
  | [] => by rw [stripL]
  | t :: r => by rw [stripL, List.length_cons, stripL_len r, List.length_cons]
theorem stripL_snoc (t : T) : ∀ l : List T, stripL (l ++ [t]) = stripL l ++ [stripT t]
  | [] => by rw [List.nil_append, stripL, stripL, stripL]; rfl
  | u :: r => by rw [List.cons_append, stripL, stripL, stripL_snoc t r]; rfl
theorem strip_kids (t : T) : (stripT t).kids = stripL t.kids := by cases t; rw [stripT]; rfl
theorem take_snoc {α : Type} (l : List α) (k : Nat) (t : α) (h : l[k]? = some t) : l.take (k + 1) = l.take k ++ [t] := by
  obtain ⟨hk, rfl⟩ := List.getElem?_eq_some_iff.1 h
  exact List.take_succ_eq_append_getElem hk

/-- a tree of the call's own -/
def TreeMade (r : T) (w : World) (e : Ending) (w' : World) : Prop :=
  Below w.heap.size w w' ∧ ∃ a cap, e = .returned (.agg #[.int .i64 r.kind, .string ⟨r.name.toArray⟩, .string ⟨r.other.toArray⟩, .int .i64 r.n, .int .i64 r.len, .int .i64 r.init, .bool r.ghost, .slice a r.kids.length cap, .int .i64 r.off]) ∧ Row (fun b => w.heap.size ≤ b) w' r.kids (.slice a r.kids.length cap)

set_option maxRecDepth 100000 in
set_option maxHeartbeats 4000000 in
theorem rstrip_any : ∀ (n : Nat) (t : T) (a : Option Addr) (cap : Nat) (w : World), Px.size t ≤ n → n ≤ 900000 → RRow w.heap.size w t.kids (.slice a t.kids.length cap) →
    Calls Tryz.prog 21 #[nodeVal t (.slice a t.kids.length cap)] w (TreeMade (stripT t) w)
  | 0, t, a, cap, w, hn, _, _ => by cases t; rw [Px.size] at hn; omega
  | n + 1, t, a, cap, w, hn, hn2, hk => by
    obtain ⟨i0, hi, hz0, hz1, hz2⟩ := info_parts infoNode
    have ih := Lib.hid (rstrip_any n)
    have hs : Px.sizes t.kids ≤ n := by cases t; rw [Px.size] at hn; show Px.sizes _ ≤ _; simp only [Px.T.kids]; omega
    have hlen : t.kids.length ≤ 900000 := by have := len_sizes t.kids; omega
    have Hk := Lib.hid hk
    obtain ⟨R, hR⟩ : ∃ R, R = stripT t := ⟨_, rfl⟩
    rw [← hR]
    have HR := Lib.hid hR
    clear hn hk hR
    unfold nodeVal
    go_enter Tryz.func21, Tryz.ntmps21
    go_wp2_with fail
    go_loopw [4] (fun i wr => ∃ (k : Nat) (a' : Option Addr) (c' : Nat), k ≤ t.kids.length ∧ i = .int .i64 k ∧ Hid (NineAt wr w.heap.size 0 t (.slice a t.kids.length cap)) ∧ Hid (Var 25 wr (w.heap.size + 1) #[.int .i64 0, .string ⟨#[]⟩, .string ⟨#[]⟩, .int .i64 0, .int .i64 0, .int .i64 0, .bool false, .slice none 0 0, .int .i64 0]) ∧
      Hid (Var 25 wr (w.heap.size + 2) #[.int .i64 t.kind, .string ⟨t.name.toArray⟩, .string ⟨t.other.toArray⟩, .int .i64 t.n, .int .i64 t.len, .int .i64 t.init, .bool t.ghost, .slice a' k c', .int .i64 0]) ∧
      Hid (RowX (fun b => w.heap.size + 3 ≤ b) wr (stripL (t.kids.take k)) (.slice a' k c')) ∧ Hid (Below w.heap.size w wr) ∧ w.heap.size + 3 ≤ wr.heap.size) (fun i _ => t.kids.length - (intOf i).toNat)
    case atStart =>
      refine ⟨0, none, 0, by omega, rfl, Lib.hid ?_, Lib.hid ?_, Lib.hid ?_, Lib.hid (RowX.nil _ _), Lib.hid ?_, by simp⟩
      · exact ((NineAt.var w t _).below ((Below.refl (w.heap.size + 1) _).alloc (by simp) _) (by omega)).below ((Below.refl (w.heap.size + 1) _).alloc (by simp <;> omega) _) (by omega)
      · exact Var.alloc (Var.new' (by simp)) _
      · exact Var.new' (by simp)
      · exact (((Below.refl _ _).alloc (Nat.le_refl _) _).alloc (by simp) _).alloc (by simp <;> omega) _
    case round =>
      obtain ⟨k, a', c', hk', rfl, Hn, H2, H3, HX, Hb, hsz⟩ := hrel
      have z3 := H3.out
      have z3l := z3.lt
      have hl1 : w.heap.size < wr.heap.size := by omega
      obtain ⟨z3c, z3f⟩ := obj_facts z3
      obtain ⟨e0, e1, e2, e3, e4, e5, e6, e7, e8⟩ := Hn.out
      simp only [Nat.zero_add] at e0 e1 e2 e3 e4 e5 e6 e7 e8
      by_cases hlt : k < t.kids.length
      · obtain ⟨u, hu⟩ : ∃ u, t.kids[k]? = some u := ⟨_, List.getElem?_eq_getElem hlt⟩
        have hus : Px.size u ≤ n := by
          have h1 : Px.sizes (t.kids.drop k) ≤ Px.sizes t.kids := sizes_drop_le t.kids k
          rw [sizes_drop hu, Px.sizes] at h1
          omega
        obtain ⟨b1, o1, ka, kc, ha, hb1, hrow1, h9⟩ := Hk.out.get hu
        subst ha
        obtain ⟨d0, d1, d2, d3, d4, d5, d6, d7, d8⟩ := h9.below Hb.out hb1
        have hdb : Below wr.heap.size wr wr.drew := (Below.refl _ _).drew
        have hcall := ih.out u ka kc wr.drew hus (by omega) ((hrow1.below (Hb.out.drew)).mono (by show w.heap.size ≤ wr.heap.size; omega))
        unfold nodeVal at hcall
        obtain ⟨su, hsu⟩ : ∃ s, s = stripT u := ⟨_, rfl⟩
        rw [← hsu] at hcall
        have Hcall := Lib.hid hcall
        have Htake := Lib.hid (show stripL (t.kids.take (k + 1)) = stripL (t.kids.take k) ++ [su] by rw [take_snoc _ _ _ hu, stripL_snoc, hsu])
        have hk0 : (0 : Int) ≤ (k : Int) := Int.natCast_nonneg _
        have hk1 : (k : Int) < (t.kids.length : Int) := by omega
        obtain ⟨l, hl⟩ : ∃ l, l = stripL (t.kids.take k) := ⟨_, rfl⟩
        have hll : l.length = k := by rw [hl, stripL_len, List.length_take]; omega
        have Hll := Lib.hid hll
        have HX := Lib.hid (show RowX (fun b => w.heap.size + 3 ≤ b) wr l (.slice a' k c') by rw [hl]; exact HX.out)
        rw [← hl] at Htake
        clear hcall hrow1 h9 hu hsu hl hll
        go_wp2_with fail
        go_region_law (first
          | (go_simp; go_at_call 21; refine Hcall.out.mono ?_; rintro e w2 ⟨hq2, a2, c2, rfl, hr2⟩; have hb2 : Below wr.heap.size wr w2 := (Below.drew (Below.refl _ _)).trans hq2; have hs2 := hb2.size; have Hr2 := Lib.hid (show Row (fun b => wr.heap.size ≤ b ∧ b < w2.heap.size) w2 su.kids (.slice a2 su.kids.length c2) from hr2.lt); have z3' : Var 25 w2 (w.heap.size + 2) _ := (hb2.block _ (by omega)).trans z3; have Hn2 := Lib.hid (Hn.out.below hb2 hl1); clear z3 z3c z3f z3l e0 e1 e2 e3 e4 e5 e6 e7 e8; have z3 := z3'; clear z3'; have z3l := z3.lt; obtain ⟨z3c, z3f⟩ := obj_facts z3; obtain ⟨e0, e1, e2, e3, e4, e5, e6, e7, e8⟩ := Hn2.out; simp only [Nat.zero_add] at e0 e1 e2 e3 e4 e5 e6 e7 e8; have hl2 : w.heap.size < w2.heap.size := (by omega); obtain ⟨xs, hx1, hx2, hx3⟩ := (HX.out.lt.keep (S' := fun b => w.heap.size + 3 ≤ b ∧ b < wr.heap.size) (fun b h _ => h) (fun b c hS hc => (hb2.block b hS.2).trans hc)); have Hx1 := Lib.hid hx1; have Hx2 := Lib.hid hx2; have Hx3 := Lib.hid hx3; have Hb2 := Lib.hid (Hb.out.trans (hb2.mono (by omega))); have Hb2r := Lib.hid hb2; rw [Hll.out] at hx1; have Hx1k := Lib.hid hx1; clear hq2 hr2 hx1 hx2 hx3 hb2)
          | (refine step_append_lies _ (by rfl) (.tmp 16) (.tmp 23) 23 (by rfl) 0 25 i0 _ 9 104 Tryz.underlying23 hi hz0 hz1 hz2 (by rfl) (by omega) (.slice a' k c') k xs (by rfl) (Hx1k.out.alloc _) ⟨w2.heap.size, 0, none⟩ 1 1 (nodeCells su (.slice a2 su.kids.length c2)) (by rfl) (by rfl) (World.news_of_block (cs := (nodeCells su (.slice a2 su.kids.length c2)).toArray) (t := 25) (fr := (0, 0)) (heap_alloc_new w2 _)) (node_ones _ _ _ _) (by omega) (by unfold maxLen; omega) (by omega) (by omega) (w2.heap.size + 1) (by simp) ?_; intro gA capA wA hownA hgrowA hatA hltA; have HownA := Lib.hid hownA; have HgrowA := Lib.hid hgrowA; have HatA := Lib.hid hatA; have hneA : (Value.slice a' k c').ownBlock ≠ some (w.heap.size + 2) := (by intro hh; have := (Hx2.out _ hh).1; omega); have z3' := Var.grown z3 hgrowA hneA; clear z3 z3c z3f z3l; have z3 := z3'; clear z3'; have z3l := z3.lt; obtain ⟨z3c, z3f⟩ := obj_facts z3; clear hownA hgrowA hatA))
        all_goals
          go_wp2_with fail
          have z4 : Var 25 wA (w.heap.size + 1 + 1) _ := z3
          rw [storeF z4]
          have hbA : Below (w.heap.size + 3) w2 wA := ((Below.refl (w.heap.size + 3) w2).alloc (by omega) _).grown HgrowA.out (by simp <;> omega) (fun j hj => (Hx2.out j hj).1)
          have hbS := fun cs => below_setRow (Below.refl (w.heap.size + 2) wA) (b := w.heap.size + 1 + 1) (Nat.le_refl _) cs
          have hsA := hbA.size
          have hrow := append_row Hx1.out Hx2.out Hx3.out Hr2.out (by omega) (by omega) (by rw [Hll.out]; exact HownA.out) HgrowA.out HatA.out
          rw [Hll.out] at hrow
          refine ⟨⟨k + 1, some ⟨gA, 0, none⟩, capA, by omega, by go_num, Lib.hid ((Hn2.out.below hbA (by omega)).below (hbS _) (by omega)), Lib.hid (((hbS _).block _ (by omega)).trans ((hbA.block _ (by omega)).trans ((Hb2r.out.block _ (by omega)).trans H2.out))), Lib.hid (Var.row_same z4 _), Lib.hid ?_, Lib.hid ?_, ?_⟩, ?_⟩
          · rw [Htake.out]
            exact hrow.setRow (by omega) _
          · exact below_setRow ((Hb2.out.alloc (by omega) _).grown HgrowA.out (by simp <;> omega) (fun j hj => by have := (Hx2.out j hj).1; omega)) (by omega) _
          · simp [World.setRow]
            omega
          · simp [intOf]
            omega
      · obtain rfl : k = t.kids.length := by omega
        have z2 := H2.out
        have z2l := z2.lt
        obtain ⟨z2c, z2f⟩ := obj_facts z2
        go_wp2_with fail
        rw [storeN _ _ _ _ _ _ _ _ _ (HasN.of z2 (by rfl))]
        refine ret_node (by rfl) (by rfl) (Var.row_same z2 _) (by rfl) (by rfl) ?_
        rw [HR.out]
        refine ⟨below_setRow Hb.out (by omega) _, a', c', ?_, ?_⟩
        · cases t
          simp only [stripT, Px.T.kind, Px.T.name, Px.T.other, Px.T.n, Px.T.len, Px.T.init, Px.T.ghost, Px.T.off, Px.T.kids, stripL_len]
        · rw [strip_kids, stripL_len]
          have h1 := HX.out
          rw [List.take_length] at h1
          exact (h1.setRow (by omega) _).row.mono (fun b hb => by omega)
end Go.Proofs.YtbgpboiblggmiaaGreatDoor

/-
  Walks over the laws' small function short.
-/
namespace Go.Proofs.YtbgpboiblggmiaaGreatDoor
open Go.RowKit
open Px (St T D Res)

/-- the lexer accepts a text -/
def Short (s : ByteArray) (ts : List Lx.Tok) : Prop := s.size ≤ 4000 ∧ Lx.lex s.data.toList = (ts, 0, 0)
theorem short_cases (s : ByteArray) : (∃ ts, Short s ts) ∨ (∀ ts p, Lx.lex s.data.toList ≠ (ts, 0, p)) := by
  obtain ⟨ts, k, p, h⟩ : ∃ ts k p, Lx.lex s.data.toList = (ts, k, p) := ⟨_, _, _, rfl⟩
  by_cases hk : k = 0
  · subst hk
    obtain ⟨rfl, hl, _⟩ := Lx.lex_go h
    exact .inl ⟨ts, hl, h⟩
  · exact .inr fun ts' p' h' => by rw [h] at h'; cases h'; exact hk rfl

set_option maxRecDepth 100000 in
set_option maxHeartbeats 1000000 in
theorem short_yes (s : ByteArray) (w : World) {ts : List Lx.Tok} (h : Short s ts) :
    Calls Tryz.prog 20 #[.string s] w fun e w' => e = .returned (.bool true) ∧ Below w.heap.size w w' := by
  have hs := h.1
  have H := Lib.hid h.2
  have hm : s.size ≤ maxLen := by unfold maxLen; omega
  clear h
  go_enter Tryz.func20, Tryz.ntmps20
  go_wp2_with fail
  refine (lexR s _ hm).mono ?_
  intro e w' hl
  obtain ⟨a, cap, rfl, hb, ho⟩ := lexSaid_open H.out hl
  clear hl ho
  go_wp2_with fail
  go_ret
  exact ⟨ret_bool (by simp), hb⟩
set_option maxRecDepth 100000 in
set_option maxHeartbeats 1000000 in
theorem short_no (s : ByteArray) (w : World) (hm : s.size ≤ maxLen) (h : ∀ ts p, Lx.lex s.data.toList ≠ (ts, 0, p)) :
    Calls Tryz.prog 20 #[.string s] w fun e w' => e = .returned (.bool false) ∧ Below w.heap.size w w' := by
  obtain ⟨ts, k, p, hl⟩ : ∃ ts k p, Lx.lex s.data.toList = (ts, k, p) := ⟨_, _, _, rfl⟩
  have hk : ¬ k = 0 := fun e => h ts p (e ▸ hl)
  have H := Lib.hid hl
  have hk' : ((k : Int) == 0) = false := beq_eq_false_iff_ne.2 (by omega)
  clear h hl
  by_cases h6 : (6000 : Int) < s.size
  · go_enter Tryz.func20, Tryz.ntmps20
    go_wp2_with fail
    go_ret
    exact ⟨ret_bool (by simp), Below.refl _ _⟩
  · go_enter Tryz.func20, Tryz.ntmps20
    go_wp2_with fail
    refine (lexR s _ hm).mono ?_
    intro e w' hl
    obtain ⟨a, cap, rfl, hb, ho⟩ := lexSaid_open H.out hl
    clear hl ho
    go_wp2_with fail
    go_ret
    exact ⟨ret_bool (by simp), hb⟩
end Go.Proofs.YtbgpboiblggmiaaGreatDoor

