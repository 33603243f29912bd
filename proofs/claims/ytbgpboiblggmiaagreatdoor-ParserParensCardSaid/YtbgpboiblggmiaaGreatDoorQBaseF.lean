/-
  Merged texts of the base: Kwa Opa Tra Trb Trc Fta Apr Prh.
-/
import Derived.Test.YtbgpboiblggmiaaGreatDoorQBaseB
import Derived.Test.YtbgpboiblggmiaaGreatDoorQBaseP
import Derived.Test.YtbgpboiblggmiaaGreatDoorQBaseC
import Derived.Carry
import Derived.MapKept
import Derived.Deep.RegionLaw
import Derived.Deep.QuietTactic
import Derived.BigQuiet
import Derived.Laws.AppendOwnNone
import Derived.Laws.OwnMore

set_option linter.unusedVariables false
set_option linter.unusedSimpArgs false
/-
  The key words' map: what keyWords makes, entry by entry, and what a look-up in it yields.
-/
namespace Go.Proofs.YtbgpboiblggmiaaGreatDoor
open Go.RowKit

/-- the entries of a set of strings, the first of which was born at n -/
def keyEntries : List Px.Str → Nat → List MapEntry
  | [], _ => []
  | k :: r, n => { key := .string ⟨k.toArray⟩, val := .bool true, born := n } :: keyEntries r (n + 1)
/-- block b is the map of these strings -/
def KeyMap (w : World) (b : Nat) (ks : List Px.Str) : Prop := w.heap[b]? = some (.map (keyEntries ks 0).toArray ks.length)

theorem keyEntries_push (k : Px.Str) : ∀ (ks : List Px.Str) (n : Nat), keyEntries (ks ++ [k]) n = keyEntries ks n ++ [{ key := .string ⟨k.toArray⟩, val := .bool true, born := n + ks.length }]
  | [], n => rfl
  | x :: r, n => by
    show _ :: keyEntries (r ++ [k]) (n + 1) = _
    rw [keyEntries_push k r (n + 1)]
    simp [keyEntries, Nat.add_assoc, Nat.add_comm 1]

theorem sameKey (s : ByteArray) (k : Px.Str) : Instr.sameNow .string (.string s) (.string ⟨k.toArray⟩) = some (s.data.toList == k) := by
  show some (s == (⟨k.toArray⟩ : ByteArray)) = _
  congr 1
  have e : (s == (⟨k.toArray⟩ : ByteArray)) = (s.data == k.toArray) := rfl
  rw [e, Bool.eq_iff_iff, beq_iff_eq, beq_iff_eq]
  constructor
  · rintro h; rw [h]
  · intro h; rw [← h]

theorem findNow_keys (s : ByteArray) : ∀ (ks : List Px.Str) (n i : Nat),
    (ks.contains s.data.toList = false → Instr.findNow .string (.string s) (keyEntries ks n) i = some none) ∧
    (ks.contains s.data.toList = true → ∃ j, Instr.findNow .string (.string s) (keyEntries ks n) i = some (some (j, .bool true)))
  | [], n, i => ⟨fun _ => rfl, fun h => by cases h⟩
  | k :: r, n, i => by
    obtain ⟨h1, h2⟩ := findNow_keys s r (n + 1) (i + 1)
    unfold keyEntries Instr.findNow
    rw [sameKey s k]
    cases e : (s.data.toList == k) with
    | true =>
      refine ⟨fun h => ?_, fun _ => ⟨i, rfl⟩⟩
      rw [List.contains_cons, e] at h
      cases h
    | false =>
      rw [List.contains_cons, e, Bool.false_or]
      exact ⟨h1, h2⟩

theorem zeroBool (W : World) : (zeroValue 4).run Tryz.prog W = .ok (.bool false) W := by
  simp [go_sem]

/-- what a look-up in the map yields -/
theorem look_keys {W : World} {b : Nat} {ks : List Px.Str} {c : Nat} (h : W.heap[b]? = some (.map (keyEntries ks 0).toArray c)) (s : ByteArray) :
    (Instr.lookup 64 (.map (some b)) (.string s) false).run Tryz.prog W = .ok (.bool (ks.contains s.data.toList)) W := by
  obtain ⟨h1, h2⟩ := findNow_keys s ks 0 0
  cases e : ks.contains s.data.toList with
  | false =>
    have hf : (Instr.findKey 9 (.string s) (keyEntries ks 0)).run Tryz.prog W = .ok none W := MapKept.run_findKey Tryz.underlying9 (h1 e)
    simp [Instr.lookup, run_underlying Tryz.underlying64, MapKept.run_getObj_map h, MapKept.run_checkKey Tryz.underlying9 (k := .string s) trivial, hf, zeroBool, Result.andThen]
  | true =>
    obtain ⟨j, hj⟩ := h2 e
    have hf : (Instr.findKey 9 (.string s) (keyEntries ks 0)).run Tryz.prog W = .ok (some (j, .bool true)) W := MapKept.run_findKey Tryz.underlying9 hj
    simp [Instr.lookup, run_underlying Tryz.underlying64, MapKept.run_getObj_map h, MapKept.run_checkKey Tryz.underlying9 (k := .string s) trivial, hf, Result.andThen]

/-- the world with one more string in the map -/
def addKey (w : World) (b : Nat) (ks : List Px.Str) : World := { w with heap := w.heap.setIfInBounds b (.map (keyEntries ks 0).toArray ks.length) }

theorem run_insert {W : World} {b : Nat} {ks : List Px.Str} (h : KeyMap W b ks) (k : Px.Str) (hk : ks.contains k = false) :
    (Instr.mapUpdate 64 (.map (some b)) (.string ⟨k.toArray⟩) (.bool true)).run Tryz.prog W = .ok () (addKey W b (ks ++ [k])) := by
  have hf : (Instr.findKey 9 (.string ⟨k.toArray⟩) (keyEntries ks 0)).run Tryz.prog W = .ok none W := MapKept.run_findKey Tryz.underlying9 ((findNow_keys ⟨k.toArray⟩ ks 0 0).1 hk)
  have hs := MapKept.run_setObj_map (P := Tryz.prog) (.map (keyEntries (ks ++ [k]) 0).toArray (ks ++ [k]).length) h
  simp [Instr.mapUpdate, run_underlying Tryz.underlying64, MapKept.run_getObj_map h, MapKept.run_checkKey Tryz.underlying9 (k := .string ⟨k.toArray⟩) trivial, hf, Result.andThen]
  rw [keyEntries_push, Nat.zero_add, List.length_append] at hs
  unfold addKey
  rw [keyEntries_push, Nat.zero_add, List.length_append]
  exact hs

/-- a world that holds the map at b, and is else what it was -/
structure KeysMade (w : World) (b : Nat) (ks : List Px.Str) (w' : World) : Prop where
  os : w'.os = w.os
  tape : w'.tape = w.tape
  output : w'.output = w.output
  size : w'.heap.size = b + 1
  old : b = w.heap.size
  map : KeyMap w' b ks
  block : ∀ k, k < b → w'.heap[k]? = w.heap[k]?

theorem KeysMade.first (w : World) : KeysMade w w.heap.size [] (w.alloc (.map #[] 0)) :=
  ⟨rfl, rfl, rfl, by simp, rfl, by show (w.heap.push _)[w.heap.size]? = _; simp [keyEntries], fun k hk => Below.heap_alloc _ _ _ hk⟩

theorem KeysMade.next {w w' : World} {b : Nat} {ks : List Px.Str} (h : KeysMade w b ks w') (k : Px.Str) : KeysMade w b (ks ++ [k]) (addKey w' b (ks ++ [k])) := by
  obtain ⟨h1, h2, h3, h4, h5, h6, h7⟩ := h
  have hset := MapKept.heap_set (o' := .map (keyEntries (ks ++ [k]) 0).toArray (ks ++ [k]).length) h6
  exact ⟨h1, h2, h3, by show (w'.heap.setIfInBounds _ _).size = _; simp [h4], h5, hset.1, fun j hj => (hset.2 j (by omega)).trans (h7 j hj)⟩

theorem KeysMade.below {w w' : World} {b : Nat} {ks : List Px.Str} (h : KeysMade w b ks w') : Below w.heap.size w w' :=
  ⟨h.os, h.tape, h.output, by rw [h.size, h.old]; omega, fun k hk => h.block k (by rw [h.old]; exact hk)⟩

/-- one entry more, in the walk -/
theorem wpList_insert_key {w0 w : World} {ops : Array Oper} {rest : List Oper} {o : Oper} {a : Act} {Q : Exit → Act → World → Prop}
    (hg : o.guard = none) (m x v : Operand) (hop : o.op = Op.insert 64 m x v)
    (b : Nat) (ks : List Px.Str) (k : Px.Str) (hm : a.eval m = .map (some b)) (hx : a.eval x = .string ⟨k.toArray⟩) (hv : a.eval v = .bool true)
    (h : KeysMade w0 b ks w) (hk : ks.contains k = false)
    (hK : ∀ w', KeysMade w0 b (ks ++ [k]) w' → wpList Tryz.prog ops Q rest (a.put o.dst undef) w') :
    wpList Tryz.prog ops Q (o :: rest) a w := by
  refine wpList_plain hg fun K' hK' => ?_
  have hrun := run_insert h.map k hk
  unfold Oper.wp
  simp [execOp, hop, hm, hx, hv, hrun, Result.andThen]
  exact hK' _ _ (hK _ (h.next k))

set_option maxRecDepth 100000 in
set_option maxHeartbeats 4000000 in
theorem keyWords_any (w : World) : Calls Tryz.prog 40 #[] w fun e w' => e = .returned (.map (some w.heap.size)) ∧ KeysMade w w.heap.size Px.keys w' := by
  have hmm := @run_makeMap Tryz.prog
  have h0 := KeysMade.first w
  go_enter Tryz.func40, Tryz.ntmps40
  go_wp2_with (refine wpList_insert_key (by rfl) _ _ _ (by rfl) _ _ _ (by rfl) (by rfl) (by rfl) h0 (by decide) ?_; clear h0; intro w1 h0)
  refine bodyPost_ret (v := .map (some w.heap.size)) ?_ rfl ⟨rfl, h0⟩
  simp [results, Tryz.results40, go_sem]

/-- a reader's view of the map -/
theorem KeysMade.keysAt {w w' : World} {b : Nat} (h : KeysMade w b Px.keys w') {g : Nat} (hg : b < g) : KeysAt g w' b :=
  ⟨hg, _, _, h.map, fun _ s hW _ => look_keys hW s⟩
end Go.Proofs.YtbgpboiblggmiaaGreatDoor

/-
  open: the tokens of a text as a reader, or the lexer's diagnostic.
-/
namespace Go.Proofs.YtbgpboiblggmiaaGreatDoor
open Go.RowKit
open Px (St T D Res)

theorem tok_num (l : List UInt8) (n : Nat) (h : Lx.tok l = some (2, n)) : n ≤ 9 ∧ ∀ c ∈ l.take n, Lx.digitU c = true := by
  cases l with
  | nil => simp [Lx.tok] at h
  | cons c r =>
    unfold Lx.tok at h
    simp only at h
    split at h
    · split at h
      · simp at h
      · cases h
    · split at h
      · split at h
        · rename_i hn
          simp only [Option.some.injEq, Prod.mk.injEq, true_and] at h
          subst h
          refine ⟨?_, ?_⟩
          · unfold Lx.numOk at hn
            simp only [Bool.and_eq_true, decide_eq_true_eq] at hn
            exact hn.1.1
          · intro d hd
            unfold Lx.run at hd
            have e : (c :: r).take ((c :: r).takeWhile Lx.digitU).length = (c :: r).takeWhile Lx.digitU := by
              exact List.prefix_iff_eq_take.1 (List.takeWhile_prefix _) |>.symm
            rw [e] at hd
            exact List.all_eq_true.1 List.all_takeWhile d hd
        · cases h
      · cases hs : Lx.sym (c :: r) with
        | none => rw [hs] at h; cases h
        | some t => rw [hs] at h; simp at h

theorem lex_ok {l : List UInt8} {ts : List Lx.Tok} {p : Nat} (h : Lx.lex l = (ts, 0, p)) : l.length ≤ 4000 ∧ (∀ t ∈ ts, TokOk t) ∧ ts.length ≤ 1500 := by
  have hl : l.length ≤ 4000 := by
    rcases Nat.lt_or_ge 4000 l.length with h1 | h1
    · rw [Lx.lex_big l h1] at h; simp at h
    · exact h1
  refine ⟨hl, fun t ht => ?_, Lx.lex_len_of h⟩
  obtain ⟨h1, h2⟩ := Lx.lex_toks h t ht
  have h3 := Lx.tok_pos _ _ _ h1
  rw [List.length_drop] at h3
  refine ⟨fun e => ?_, by omega, by omega, fun hk => ?_⟩
  · rw [e] at h3; simp at h3
  · rw [hk] at h1
    obtain ⟨h4, h5⟩ := tok_num _ _ h1
    exact ⟨h4, by rw [h2]; exact h5⟩

theorem ownsRow_cap {w : World} {base : Nat} {e : TypeId} {size : Nat} {a : Option Addr} {m cap n : Nat} {xs : List Value} (h : w.ownsRow base e size (.slice a m cap) n xs) : n ≤ cap ∧ cap ≤ maxLen := by
  rcases h.2 with ⟨h1, h0⟩ | ⟨b, cap', cur, hv, _, hc, h1, h2, _⟩
  · cases h1; subst h0; exact ⟨Nat.le_refl _, Nat.zero_le _⟩
  · cases hv; exact ⟨h1, h2⟩

theorem diag_row (w : World) {base : Nat} (hb : base ≤ w.heap.size) (d : D) :
    (w.alloc (.cells #[.int .i64 d.err, .int .i64 d.off] 33)).ownsRow base 33 2 (.slice (some ⟨w.heap.size, 0, none⟩) 1 1) 1 (diagCells [d]) :=
  ⟨rfl, .inr ⟨w.heap.size, 1, #[.int .i64 d.err, .int .i64 d.off], rfl, hb, by show (w.heap.push _)[w.heap.size]? = _; simp, Nat.le_refl _, by decide, rfl, rfl⟩⟩

theorem toksAt_of {w : World} {base g : Nat} {a : Option Addr} {cap : Nat} {ts : List Lx.Tok} (h : w.ownsRow base 53 3 (.slice a ts.length cap) ts.length (toksCells ts)) (hg : w.heap.size ≤ g) : ToksAt g w a ts := by
  rcases h.2 with ⟨_, h0⟩ | ⟨b, cap', cur, hv, _, hc, _⟩
  · exact .inl (List.length_eq_zero_iff.1 h0)
  · cases hv
    refine .inr ⟨b, 0, cur, (0, 0), rfl, Nat.lt_of_lt_of_le (lt_heap hc) hg, hc, fun j u hu => ?_⟩
    have hj := (List.getElem?_eq_some_iff.1 hu).1
    have := h.cellAt j (by rw [h.1] at hj; exact hj)
    rw [cell_of_obj hc, hu] at this
    rw [Nat.zero_add]
    exact this

set_option maxRecDepth 100000 in
set_option maxHeartbeats 1000000 in
theorem open_ok (s : ByteArray) (w : World) (hS : SymsAt w) (hm : s.size ≤ maxLen) {ts : List Lx.Tok} {p : Nat} (hx : Lx.lex s.data.toList = (ts, 0, p)) :
    Calls Tryz.prog 33 #[.string s] w fun e w' => ∃ g, e = .returned (.tuple #[.pointer (some ⟨g, 0, none⟩), .slice none 0 0]) ∧ RdAt w.heap.size s.size g w' ⟨ts, 0, []⟩ ∧ Below w.heap.size w w' := by
  have hok := lex_ok hx
  have hE : s.size ≤ 4000 := hok.1
  have Hx := Lib.hid hx
  go_enter Tryz.func33, Tryz.ntmps33
  go_wp2_with fail
  refine (lexP s w hS hm).mono ?_
  intro e w1 hl
  obtain ⟨a, cap, rfl, hb, ho⟩ := lexSaid_open Hx.out hl
  have Hb := Lib.hid hb
  have Ho := Lib.hid ho
  clear hl hb ho
  go_wp2_with fail
  refine (keyWords_any w1).mono ?_
  rintro e w2 ⟨rfl, hk⟩
  have Hk := Lib.hid hk
  clear hk
  go_wp2_with fail
  obtain ⟨g, hg⟩ : ∃ g, g = w2.heap.size := ⟨_, rfl⟩
  have hs2 : w2.heap.size = w1.heap.size + 1 := by rw [Hk.out.size]
  have b12 := Hk.out.below
  have bw2 : Below w.heap.size w w2 := Hb.out.trans (b12.mono Hb.out.size)
  have htok := Ho.out
  refine bodyPost_ret (v := .tuple #[.pointer (some ⟨w2.heap.size, 0, none⟩), .slice none 0 0]) ?_ rfl ⟨w2.heap.size, rfl, ⟨a, cap, w1.heap.size, .slice none 0 0, ?_, ?_, ?_, ?_, ?_, ?_, ?_⟩, ?_⟩
  · simp [results, Tryz.results33, go_sem]
  · have := Hb.out.size; omega
  · show (w2.heap.push _)[w2.heap.size]? = _
    simp
  · have := toksAt_of htok (g := w2.heap.size) (by omega)
    rcases this with h0 | ⟨b, o, cur, fz, ha, hb, hc, hr⟩
    · exact .inl h0
    · have hlt := lt_heap hc
      exact .inr ⟨b, o, cur, fz, ha, hb, by rw [Below.heap_alloc _ _ _ (by omega), b12.block b hlt]; exact hc, hr⟩
  · obtain ⟨h1, es, k, h2, h3⟩ := Hk.out.keysAt (g := w2.heap.size) (by omega)
    exact ⟨h1, es, k, by rw [Below.heap_alloc _ _ _ h1]; exact h2, h3⟩
  · exact World.ownsRow_nil _ _ _ _
  · exact ⟨hok.2.1, hok.2.2, Nat.zero_le _, hE, by show (0 : Int) ≤ 0 ∧ (0 : Int) ≤ 1; decide⟩
  · exact ownsRow_cap htok
  · exact bw2.alloc bw2.size _

set_option maxRecDepth 100000 in
set_option maxHeartbeats 1000000 in
theorem open_bad (s : ByteArray) (w : World) (hS : SymsAt w) (hm : s.size ≤ maxLen) {ts : List Lx.Tok} {k p : Nat} (hx : Lx.lex s.data.toList = (ts, k + 1, p)) :
    Calls Tryz.prog 33 #[.string s] w fun e w' => ∃ a cap, e = .returned (.tuple #[.pointer none, .slice a 1 cap]) ∧ w'.ownsRow w.heap.size 33 2 (.slice a 1 cap) 1 (diagCells [⟨((k + 1 : Nat) : Int), p⟩]) ∧ Below w.heap.size w w' := by
  have Hx := Lib.hid hx
  have hne : ((((k + 1 : Nat) : Int) != 0)) = true := by simp; omega
  obtain ⟨K, hK⟩ : ∃ K : Int, K = ((k + 1 : Nat) : Int) := ⟨_, rfl⟩
  rw [← hK] at hne ⊢
  go_enter Tryz.func33, Tryz.ntmps33
  go_wp2_with fail
  refine (lexP s w hS hm).mono ?_
  intro e w1 hl
  obtain ⟨a, cap, rfl, hb, ho⟩ := lexSaid_open Hx.out hl
  rw [← hK]
  have Hb := Lib.hid hb
  clear hl hb ho hK hx
  go_wp2_with fail
  refine bodyPost_ret (v := .tuple #[.pointer none, .slice (some ⟨w1.heap.size, 0, none⟩) 1 1]) ?_ rfl ⟨_, _, rfl, diag_row w1 Hb.out.size ⟨K, p⟩, Hb.out.alloc Hb.out.size _⟩
  simp [results, Tryz.results33, go_sem]
end Go.Proofs.YtbgpboiblggmiaaGreatDoor

/-
  Trees that are only read: rows of nodes at any place of memory below a bound; the law's count and Few.
-/
namespace Go.Proofs.YtbgpboiblggmiaaGreatDoor
open Go.RowKit
open Px (St T D Res)

/-- these cells stand at an address below block N -/
def CellsAt (N : Nat) (w : World) (a : Option Addr) (xs : List Value) : Prop :=
  xs = [] ∨ ∃ (b o : Nat) (cur : Array Value) (fz : TypeId × (Nat × Nat)), a = some ⟨b, o, none⟩ ∧ b < N ∧ w.heap[b]? = some (.cells cur fz.1 fz.2) ∧ ∀ j u, xs[j]? = some u → cur[o + j]? = some u

mutual
/-- the kids of a tree, in rows below block N -/
def RKids (N : Nat) (w : World) : T → Value → Prop
  | .mk _ _ _ _ _ _ _ kids _, kv => ∃ a cap xs, kv = .slice a kids.length cap ∧ kids.length ≤ maxLen ∧ CellsAt N w a xs ∧ RNodes N w kids xs
def RNodes (N : Nat) (w : World) : List T → List Value → Prop
  | [], xs => xs = []
  | t :: r, xs => ∃ kv rest, xs = nodeCells t kv ++ rest ∧ RKids N w t kv ∧ RNodes N w r rest
end
/-- a slice of trees -/
def RRow (N : Nat) (w : World) (l : List T) (kv : Value) : Prop := ∃ a cap xs, kv = .slice a l.length cap ∧ l.length ≤ maxLen ∧ CellsAt N w a xs ∧ RNodes N w l xs
theorem rkids_iff (N : Nat) (w : World) (t : T) (kv : Value) : RKids N w t kv ↔ RRow N w t.kids kv := by
  cases t
  rw [RKids]
  rfl

theorem CellsAt.keepT {N N' : Nat} {w w' : World} {a : Option Addr} {xs : List Value} (h : CellsAt N w a xs) (hN : N ≤ N') (hw : ∀ (k : Nat) (c : Array Value) (fz : TypeId × (Nat × Nat)), k < N → w.heap[k]? = some (.cells c fz.1 fz.2) → w'.heap[k]? = some (.cells c fz.1 fz.2)) : CellsAt N' w' a xs := by
  rcases h with h | ⟨b, o, cur, fz, ha, hb, hc, hx⟩
  · exact .inl h
  · exact .inr ⟨b, o, cur, fz, ha, Nat.lt_of_lt_of_le hb hN, hw b _ _ hb hc, hx⟩

mutual
theorem RKids.keepT {N N' : Nat} {w w' : World} (hN : N ≤ N') (hw : ∀ (k : Nat) (c : Array Value) (fz : TypeId × (Nat × Nat)), k < N → w.heap[k]? = some (.cells c fz.1 fz.2) → w'.heap[k]? = some (.cells c fz.1 fz.2)) : ∀ (t : T) (kv : Value), RKids N w t kv → RKids N' w' t kv
  | .mk _ _ _ _ _ _ _ kids _, kv, h => by
    rw [RKids] at h ⊢
    obtain ⟨a, cap, xs, h1, hm, h2, h3⟩ := h
    exact ⟨a, cap, xs, h1, hm, h2.keepT hN hw, RNodes.keepT hN hw kids xs h3⟩
theorem RNodes.keepT {N N' : Nat} {w w' : World} (hN : N ≤ N') (hw : ∀ (k : Nat) (c : Array Value) (fz : TypeId × (Nat × Nat)), k < N → w.heap[k]? = some (.cells c fz.1 fz.2) → w'.heap[k]? = some (.cells c fz.1 fz.2)) : ∀ (l : List T) (xs : List Value), RNodes N w l xs → RNodes N' w' l xs
  | [], xs, h => by rw [RNodes] at h ⊢; exact h
  | t :: r, xs, h => by
    rw [RNodes] at h ⊢
    obtain ⟨kv, rest, h1, h2, h3⟩ := h
    exact ⟨kv, rest, h1, RKids.keepT hN hw t kv h2, RNodes.keepT hN hw r rest h3⟩
end
theorem RRow.keepT {N N' : Nat} {w w' : World} {l : List T} {kv : Value} (h : RRow N w l kv) (hN : N ≤ N') (hw : ∀ (k : Nat) (c : Array Value) (fz : TypeId × (Nat × Nat)), k < N → w.heap[k]? = some (.cells c fz.1 fz.2) → w'.heap[k]? = some (.cells c fz.1 fz.2)) : RRow N' w' l kv := by
  obtain ⟨a, cap, xs, h1, hm, h2, h3⟩ := h
  exact ⟨a, cap, xs, h1, hm, h2.keepT hN hw, RNodes.keepT hN hw l xs h3⟩
theorem RRow.keep {N N' : Nat} {w w' : World} {l : List T} {kv : Value} (h : RRow N w l kv) (hN : N ≤ N') (hw : ∀ k, k < N → w'.heap[k]? = w.heap[k]?) : RRow N' w' l kv := h.keepT hN (fun k _ _ hk hc => (hw k hk).trans hc)
theorem rnodes_two {N : Nat} {w : World} : ∀ (l : List T) (xs : List Value), RNodes N w l xs → xs = [] ∨ 2 ≤ xs.length
  | [], xs, h => by rw [RNodes] at h; exact .inl h
  | t :: r, xs, h => by
    rw [RNodes] at h
    obtain ⟨kv, rest, rfl, _⟩ := h
    right
    rw [List.length_append, show (nodeCells t kv).length = 9 from rfl]
    omega
theorem CellsAt.keepS {N N' : Nat} {w w' : World} {a : Option Addr} {xs : List Value} (h : CellsAt N w a xs) (hN : N ≤ N') (h2 : xs = [] ∨ 2 ≤ xs.length) (hw : ∀ (k : Nat) (c : Array Value) (fz : TypeId × (Nat × Nat)), k < N → 2 ≤ c.size → w.heap[k]? = some (.cells c fz.1 fz.2) → w'.heap[k]? = some (.cells c fz.1 fz.2)) : CellsAt N' w' a xs := by
  rcases h with h | ⟨b, o, cur, fz, ha, hb, hc, hx⟩
  · exact .inl h
  · rcases h2 with h2 | h2
    · exact .inl h2
    · refine .inr ⟨b, o, cur, fz, ha, Nat.lt_of_lt_of_le hb hN, hw b _ _ hb ?_ hc, hx⟩
      have := (Array.getElem?_eq_some_iff.1 (hx 1 _ (List.getElem?_eq_getElem h2))).1
      omega
mutual
theorem RKids.keepS {N N' : Nat} {w w' : World} (hN : N ≤ N') (hw : ∀ (k : Nat) (c : Array Value) (fz : TypeId × (Nat × Nat)), k < N → 2 ≤ c.size → w.heap[k]? = some (.cells c fz.1 fz.2) → w'.heap[k]? = some (.cells c fz.1 fz.2)) : ∀ (t : T) (kv : Value), RKids N w t kv → RKids N' w' t kv
  | .mk _ _ _ _ _ _ _ kids _, kv, h => by
    rw [RKids] at h ⊢
    obtain ⟨a, cap, xs, h1, hm, h2, h3⟩ := h
    exact ⟨a, cap, xs, h1, hm, h2.keepS hN (rnodes_two kids xs h3) hw, RNodes.keepS hN hw kids xs h3⟩
theorem RNodes.keepS {N N' : Nat} {w w' : World} (hN : N ≤ N') (hw : ∀ (k : Nat) (c : Array Value) (fz : TypeId × (Nat × Nat)), k < N → 2 ≤ c.size → w.heap[k]? = some (.cells c fz.1 fz.2) → w'.heap[k]? = some (.cells c fz.1 fz.2)) : ∀ (l : List T) (xs : List Value), RNodes N w l xs → RNodes N' w' l xs
  | [], xs, h => by rw [RNodes] at h ⊢; exact h
  | t :: r, xs, h => by
    rw [RNodes] at h ⊢
    obtain ⟨kv, rest, h1, h2, h3⟩ := h
    exact ⟨kv, rest, h1, RKids.keepS hN hw t kv h2, RNodes.keepS hN hw r rest h3⟩
end
/-- a variable of one cell may have been written -/
theorem RRow.grown {N p : Nat} {w w' : World} {l : List T} {kv : Value} (h : RRow N w l kv) (hN : N ≤ w.heap.size) (hg : w.grownBy w' (some p)) {c : Array Value} {t : TypeId} {fz : Nat × Nat} (hp : w.heap[p]? = some (.cells c t fz)) (hs : c.size ≤ 1) : RRow N w' l kv := by
  obtain ⟨a, cap, xs, h1, hm, h2, h3⟩ := h
  have hw : ∀ (k : Nat) (c' : Array Value) (fz' : TypeId × (Nat × Nat)), k < N → 2 ≤ c'.size → w.heap[k]? = some (.cells c' fz'.1 fz'.2) → w'.heap[k]? = some (.cells c' fz'.1 fz'.2) := by
    intro k c' fz' hk h2 hc
    rw [hg.block k (by omega) ?_]
    · exact hc
    · intro e
      cases e
      rw [hc] at hp
      have := (Obj.cells.inj (Option.some.inj hp)).1
      rw [this] at h2
      omega
  exact ⟨a, cap, xs, h1, hm, h2.keepS (Nat.le_refl _) (rnodes_two l xs h3) hw, RNodes.keepS (Nat.le_refl _) hw l xs h3⟩
theorem RRow.below {N : Nat} {w w' : World} {l : List T} {kv : Value} (h : RRow N w l kv) (hb : Below N w w') : RRow N w' l kv := h.keep (Nat.le_refl _) hb.block
theorem RRow.mono {N N' : Nat} {w : World} {l : List T} {kv : Value} (h : RRow N w l kv) (hN : N ≤ N') : RRow N' w l kv := h.keep hN (fun _ _ => rfl)
theorem RRow.form {N : Nat} {w : World} {l : List T} {kv : Value} (h : RRow N w l kv) : ∃ a cap, kv = .slice a l.length cap := by
  obtain ⟨a, cap, xs, h1, _⟩ := h
  exact ⟨a, cap, h1⟩
theorem RRow.len {N : Nat} {w : World} {l : List T} {kv : Value} (h : RRow N w l kv) : l.length ≤ maxLen := by
  obtain ⟨a, cap, xs, _, h1, _⟩ := h
  exact h1
theorem RRow.nil (N : Nat) (w : World) : RRow N w [] (.slice none 0 0) := ⟨none, 0, [], rfl, Nat.zero_le _, .inl rfl, by rw [RNodes]⟩

theorem ownsRow_len {w : World} {base : Nat} {e : TypeId} {size : Nat} {v : Value} {n : Nat} {xs : List Value} (h : w.ownsRow base e size v n xs) : n ≤ maxLen := by
  rcases h.2 with ⟨_, h0⟩ | ⟨b, cap', cur, _, _, _, h1, h2, _⟩
  · rw [h0]; exact Nat.zero_le _
  · exact Nat.le_trans h1 h2
mutual
theorem Kids.read {S : Nat → Prop} {w : World} : ∀ (t : T) (kv : Value), Kids S w t kv → RKids w.heap.size w t kv
  | .mk _ _ _ _ _ _ _ kids _, kv, h => by
    rw [Kids] at h
    rw [RKids]
    obtain ⟨xs, h1, h2, h3⟩ := h
    obtain ⟨a, cap, rfl⟩ := ownsRow_form h1
    refine ⟨a, cap, xs, rfl, (by have := ownsRow_len h1; exact this), ?_, Nodes.read kids xs h3⟩
    rcases h1.2 with ⟨hv, h0⟩ | ⟨b, cap', cur, hv, _, hc, _, _, _, ht⟩
    · refine .inl (List.length_eq_zero_iff.1 (by rw [h1.1, h0]))
    · cases hv
      refine .inr ⟨b, 0, cur, (25, (0, 0)), rfl, lt_heap hc, hc, fun j u hu => ?_⟩
      rw [Nat.zero_add]
      rw [← ht, List.getElem?_take] at hu
      split at hu
      · rw [Array.getElem?_toList] at hu; exact hu
      · cases hu
theorem Nodes.read {S : Nat → Prop} {w : World} : ∀ (l : List T) (xs : List Value), Nodes S w l xs → RNodes w.heap.size w l xs
  | [], xs, h => by rw [Nodes] at h; rw [RNodes]; exact h
  | t :: r, xs, h => by
    rw [Nodes] at h
    rw [RNodes]
    obtain ⟨kv, rest, h1, h2, h3⟩ := h
    exact ⟨kv, rest, h1, Kids.read t kv h2, Nodes.read r rest h3⟩
end
theorem Row.read {S : Nat → Prop} {w : World} {l : List T} {kv : Value} (h : Row S w l kv) : RRow w.heap.size w l kv := by
  have := Kids.read (S := S) (w := w) (.mk 0 [] [] 0 0 0 false l 0) kv ((kids_iff S w _ kv).2 h)
  exact (rkids_iff _ _ _ _).1 this

theorem RNodes.at {N : Nat} {w : World} : ∀ (l : List T) (xs : List Value), RNodes N w l xs → ∀ (k : Nat) (t : T), l[k]? = some t → ∃ kv, RRow N w t.kids kv ∧ ∀ j, j < 9 → xs[k * 9 + j]? = (nodeCells t kv)[j]?
  | [], xs, h, k, t, ht => by simp at ht
  | x :: r, xs, h, k, t, ht => by
    rw [RNodes] at h
    obtain ⟨kv, rest, rfl, h1, h2⟩ := h
    cases k with
    | zero =>
      simp only [List.getElem?_cons_zero, Option.some.injEq] at ht
      subst ht
      refine ⟨kv, (rkids_iff _ _ _ _).1 h1, fun j hj => ?_⟩
      rw [List.getElem?_append_left (by simp [nodeCells]; omega)]
      simp
    | succ k =>
      obtain ⟨kv', h3, h4⟩ := RNodes.at r rest h2 k t (by simpa using ht)
      refine ⟨kv', h3, fun j hj => ?_⟩
      rw [List.getElem?_append_right (by simp [nodeCells]; omega)]
      rw [show (k + 1) * 9 + j - (nodeCells x kv).length = k * 9 + j from by simp [nodeCells]; omega]
      exact h4 j hj

/-- one tree of a slice: its cells, and its kids -/
theorem RRow.at {N : Nat} {w : World} {l : List T} {a : Option Addr} {n cap : Nat} (h : RRow N w l (.slice a n cap)) {k : Nat} {t : T} (ht : l[k]? = some t) :
    ∃ b o ka kc, a = some ⟨b, o, none⟩ ∧ b < N ∧ RRow N w t.kids (.slice ka t.kids.length kc) ∧ ∀ j v, (nodeCells t (.slice ka t.kids.length kc))[j]? = some v → w.cell? ⟨b, o + k * 9 + j, none⟩ = some v := by
  obtain ⟨a', cap', xs, h1, -, h2, h3⟩ := h
  cases h1
  obtain ⟨kv, hk, hc⟩ := RNodes.at l xs h3 k t ht
  obtain ⟨ka, kc, rfl⟩ := hk.form
  rcases h2 with h2 | ⟨b, o, cur, fz, rfl, hb, hcur, hx⟩
  · have := hc 0 (by omega)
    rw [h2] at this
    simp [nodeCells] at this
  · refine ⟨b, o, ka, kc, rfl, hb, hk, fun j v hv => ?_⟩
    have hj : j < 9 := by
      have := (List.getElem?_eq_some_iff.1 hv).1
      simpa [nodeCells] using this
    rw [cell_of_obj hcur, Nat.add_assoc]
    exact hx _ _ ((hc j hj).trans hv)

/-- the nine cells of a tree that stands at a place -/
structure NineAt (w : World) (b o : Nat) (t : T) (kv : Value) : Prop where
  c0 : w.cell? ⟨b, o, none⟩ = some (.int .i64 t.kind)
  c1 : w.cell? ⟨b, o + 1, none⟩ = some (.string ⟨t.name.toArray⟩)
  c2 : w.cell? ⟨b, o + 2, none⟩ = some (.string ⟨t.other.toArray⟩)
  c3 : w.cell? ⟨b, o + 3, none⟩ = some (.int .i64 t.n)
  c4 : w.cell? ⟨b, o + 4, none⟩ = some (.int .i64 t.len)
  c5 : w.cell? ⟨b, o + 5, none⟩ = some (.int .i64 t.init)
  c6 : w.cell? ⟨b, o + 6, none⟩ = some (.bool t.ghost)
  c7 : w.cell? ⟨b, o + 7, none⟩ = some kv
  c8 : w.cell? ⟨b, o + 8, none⟩ = some (.int .i64 t.off)
theorem NineAt.below {N : Nat} {w w' : World} {b o : Nat} {t : T} {kv : Value} (h : NineAt w b o t kv) (hb : Below N w w') (hN : b < N) : NineAt w' b o t kv := by
  obtain ⟨h0, h1, h2, h3, h4, h5, h6, h7, h8⟩ := h
  exact ⟨(hb.cell (p := ⟨b, _, none⟩) hN).trans h0, (hb.cell (p := ⟨b, _, none⟩) hN).trans h1, (hb.cell (p := ⟨b, _, none⟩) hN).trans h2, (hb.cell (p := ⟨b, _, none⟩) hN).trans h3, (hb.cell (p := ⟨b, _, none⟩) hN).trans h4, (hb.cell (p := ⟨b, _, none⟩) hN).trans h5, (hb.cell (p := ⟨b, _, none⟩) hN).trans h6, (hb.cell (p := ⟨b, _, none⟩) hN).trans h7, (hb.cell (p := ⟨b, _, none⟩) hN).trans h8⟩
theorem NineAt.var (w : World) (t : T) (kv : Value) : NineAt (w.alloc (.cells #[.int .i64 t.kind, .string ⟨t.name.toArray⟩, .string ⟨t.other.toArray⟩, .int .i64 t.n, .int .i64 t.len, .int .i64 t.init, .bool t.ghost, kv, .int .i64 t.off] 25)) w.heap.size 0 t kv :=
  ⟨cell_of_obj (obj_new _ _) 0, cell_of_obj (obj_new _ _) 1, cell_of_obj (obj_new _ _) 2, cell_of_obj (obj_new _ _) 3, cell_of_obj (obj_new _ _) 4, cell_of_obj (obj_new _ _) 5, cell_of_obj (obj_new _ _) 6, cell_of_obj (obj_new _ _) 7, cell_of_obj (obj_new _ _) 8⟩
/-- one tree of a slice, in a later world -/
theorem RRow.get {N : Nat} {w : World} {l : List T} {a : Option Addr} {n cap : Nat} (h : RRow N w l (.slice a n cap)) {k : Nat} {t : T} (ht : l[k]? = some t) :
    ∃ b o ka kc, a = some ⟨b, o, none⟩ ∧ b < N ∧ RRow N w t.kids (.slice ka t.kids.length kc) ∧ NineAt w b (o + k * 9) t (.slice ka t.kids.length kc) := by
  obtain ⟨b, o, ka, kc, h1, h2, h3, h4⟩ := h.at ht
  exact ⟨b, o, ka, kc, h1, h2, h3, h4 0 _ rfl, h4 1 _ rfl, h4 2 _ rfl, h4 3 _ rfl, h4 4 _ rfl, h4 5 _ rfl, h4 6 _ rfl, h4 7 _ rfl, h4 8 _ rfl⟩

mutual
/-- what count counts: all nodes, or some number above most -/
def cntT : T → Int → Int
  | .mk _ _ _ _ _ _ _ kids _, most => cntL kids most 1
def cntL : List T → Int → Int → Int
  | [], _, sum => sum
  | t :: r, most, sum => if sum ≤ most then cntL r most (sum + cntT t (most - sum)) else sum
end

mutual
theorem cntT_le : ∀ (t : T) (m : Int), 1 ≤ cntT t m ∧ (cntT t m ≤ 1 ∨ cntT t m ≤ m + 1)
  | .mk _ _ _ _ _ _ _ kids _, m => by
    rw [cntT]
    have := cntL_le kids m 1
    omega
theorem cntL_le : ∀ (l : List T) (m c : Int), c ≤ cntL l m c ∧ (cntL l m c ≤ c ∨ cntL l m c ≤ m + 1)
  | [], m, c => by rw [cntL]; omega
  | t :: r, m, c => by
    rw [cntL]
    split
    · have h1 := cntT_le t (m - c)
      have h2 := cntL_le r m (c + cntT t (m - c))
      omega
    · omega
end

theorem sizes_drop {l : List T} {k : Nat} {t : T} (h : l[k]? = some t) : l.drop k = t :: l.drop (k + 1) := by
  obtain ⟨hk, rfl⟩ := List.getElem?_eq_some_iff.1 h
  exact List.drop_eq_getElem_cons hk

theorem sizes_drop_le : ∀ (l : List T) (k : Nat), Px.sizes (l.drop k) ≤ Px.sizes l
  | [], k => by simp
  | t :: r, 0 => by simp
  | t :: r, k + 1 => by
    rw [List.drop_succ_cons]
    have := sizes_drop_le r k
    rw [show Px.sizes (t :: r) = Px.size t + Px.sizes r from by rw [Px.sizes]]
    omega

theorem len_sizes : ∀ l : List T, l.length ≤ Px.sizes l
  | [] => by simp
  | t :: r => by
    have := len_sizes r
    rw [Px.sizes]
    have : 1 ≤ Px.size t := by cases t; rw [Px.size]; omega
    simp; omega

/-- a sum under way is small -/
structure CntOk (most c : Int) : Prop where
  lo : 1 ≤ c
  hi : c ≤ 1 ∨ c ≤ most + 1
  most : most ≤ 1000000 ∧ -1000000 ≤ most

set_option maxRecDepth 100000 in
set_option maxHeartbeats 1000000 in
theorem count_any : ∀ (n : Nat) (t : T) (most : Int) (a : Option Addr) (cap : Nat) (w : World), Px.size t ≤ n → most ≤ 1000000 → -1000000 ≤ most → RRow w.heap.size w t.kids (.slice a t.kids.length cap) →
    Calls Tryz.prog 36 #[nodeVal t (.slice a t.kids.length cap), .int .i64 most] w fun e w' => e = .returned (.int .i64 (cntT t most)) ∧ Below w.heap.size w w'
  | 0, t, most, a, cap, w, hn, _, _, _ => by cases t; rw [Px.size] at hn; omega
  | n + 1, t, most, a, cap, w, hn, hm1, hm2, hk => by
    have ih := Lib.hid (count_any n)
    have Hk := Lib.hid hk
    obtain ⟨R, hR⟩ : ∃ R, R = cntT t most := ⟨_, rfl⟩
    rw [← hR]
    have hs : Px.sizes t.kids ≤ n := by cases t; rw [Px.size] at hn; show Px.sizes _ ≤ _; simp only [Px.T.kids]; omega
    have HR := Lib.hid (show R = cntL t.kids most 1 by rw [hR]; cases t; rw [cntT]; rfl)
    have HC := Lib.hid (show CntOk most 1 from ⟨by omega, by omega, by omega⟩)
    clear hR hk hn
    unfold nodeVal
    have hlen : t.kids.length ≤ maxLen := Hk.out.len
    have hmax : maxLen ≤ 9223372036854775807 := by decide
    go_enter Tryz.func36, Tryz.ntmps36
    go_wp2_with fail
    obtain ⟨W, hW⟩ : ∃ W, W = w.alloc (.cells #[.int .i64 t.kind, .string ⟨t.name.toArray⟩, .string ⟨t.other.toArray⟩, .int .i64 t.n, .int .i64 t.len, .int .i64 t.init, .bool t.ghost, .slice a t.kids.length cap, .int .i64 t.off] 25) := ⟨_, rfl⟩
    have hW1 : W.heap.size = w.heap.size + 1 := by rw [hW]; simp
    have HW := Lib.hid hW
    have hW7 : W.cell? ⟨w.heap.size, 7, none⟩ = some (.slice a t.kids.length cap) := by rw [hW]; exact cell_of_obj (obj_new _ _) 7
    rw [← hW]
    clear hW
    go_loopw [5, 6] (fun c i wr => ∃ (k : Nat) (s : Int), k ≤ t.kids.length ∧ c = .int .i64 s ∧ i = .int .i64 k ∧ Hid (R = cntL (t.kids.drop k) most s) ∧ Hid (CntOk most s) ∧ Hid (Below W.heap.size W wr)) (fun _ i _ => t.kids.length - (intOf i).toNat)
    case atStart => exact ⟨0, 1, by omega, rfl, rfl, HR, HC, Lib.hid (Below.refl _ _)⟩
    case round =>
      clear HR HC
      obtain ⟨k, s, hk, rfl, rfl, HR, HC, Hb⟩ := hrel
      have c7 : wr.cell? ⟨w.heap.size, 7, none⟩ = some (.slice a t.kids.length cap) := (Hb.out.cell (p := ⟨w.heap.size, 7, none⟩) (by show w.heap.size < _; omega)).trans hW7
      by_cases hlt : k < t.kids.length
      · obtain ⟨u, hu⟩ : ∃ u, t.kids[k]? = some u := ⟨_, List.getElem?_eq_getElem hlt⟩
        have hd := sizes_drop hu
        have hlt' : decide ((k : Int) < (t.kids.length : Int)) = true := by simp; omega
        by_cases hsm : s ≤ most
        · have hsm' : decide (s ≤ most) = true := by simp; omega
          obtain ⟨b, o, ka, kc, ha, hb, hrow, h9⟩ := Hk.out.get hu
          subst ha
          obtain ⟨d0, d1, d2, d3, d4, d5, d6, d7, d8⟩ := (h9.below (w' := W) (N := w.heap.size) (by rw [HW.out]; exact (Below.refl _ _).alloc (Nat.le_refl _) _) hb).below Hb.out (by omega)
          have hc := HC.out
          have hwr : IntKind.i64.wrap (most - s) = most - s := IntWalk.i64_in _ (by have := hc.lo; have := hc.hi; omega)
          have hk0 : (0 : Int) ≤ (k : Int) := Int.natCast_nonneg _
          have hk1 : (k : Int) < (t.kids.length : Int) := by omega
          have hbs := Hb.out.size
          have hus : Px.size u ≤ n := by have : Px.sizes (t.kids.drop k) ≤ Px.sizes t.kids := sizes_drop_le t.kids k; rw [hd, Px.sizes] at this; omega
          have hcnt := cntT_le u (most - s)
          have hwr2 : IntKind.i64.wrap (s + cntT u (most - s)) = s + cntT u (most - s) := IntWalk.i64_in _ (by have := hc.lo; have := hc.hi; omega)
          have HR2 := Lib.hid (show R = cntL (t.kids.drop (k + 1)) most (s + cntT u (most - s)) by have := HR.out; rw [hd, cntL, if_pos hsm] at this; exact this)
          have HC2 := Lib.hid (show CntOk most (s + cntT u (most - s)) from ⟨by have := hc.lo; omega, by have := hc.hi; omega, hc.most⟩)
          have hcall := ih.out u (most - s) ka kc wr hus (by have := hc.lo; omega) (by have := hc.lo; have := hc.hi; omega) ((hrow.below (((Below.refl _ _).alloc (Nat.le_refl _) _).trans ((by rw [← HW.out]; exact Hb.out.mono (by omega))))).mono (by omega))
          obtain ⟨C, hC⟩ : ∃ C, C = cntT u (most - s) := ⟨_, rfl⟩
          rw [← hC] at hcall hwr2 HR2 HC2
          have Hcall := Lib.hid hcall
          clear hcall hC hcnt hc hd hu
          go_wp2_with fail
          refine Hcall.out.mono ?_
          rintro e w2 ⟨rfl, hb2⟩
          have Hb2 := Lib.hid hb2
          clear hb2
          go_wp2_with fail
          go_roundw
          case rel => exact ⟨k + 1, _, by omega, rfl, by go_num, HR2, HC2, Lib.hid (Hb.out.trans (Hb2.out.mono hbs))⟩
          case measure => simp [intOf]; omega
        · have hsm' : decide (s ≤ most) = false := by simp; omega
          have HR2 := Lib.hid (show R = s by have := HR.out; rw [hd, cntL, if_neg hsm] at this; exact this)
          go_wp2_with fail
          refine bodyPost_ret (v := .int .i64 s) ?_ rfl ⟨by rw [HR2.out], (by rw [HW.out] at Hb; exact ((Below.refl _ _).alloc (Nat.le_refl _) _).trans (Hb.out.mono (by simp)))⟩
          simp [results, Tryz.results36, go_sem]
      · have hlt' : decide ((k : Int) < (t.kids.length : Int)) = false := by simp; omega
        have HR2 := Lib.hid (show R = s by have := HR.out; rw [List.drop_of_length_le (by omega), cntL] at this; exact this)
        go_wp2_with fail
        refine bodyPost_ret (v := .int .i64 s) ?_ rfl ⟨by rw [HR2.out], (by rw [HW.out] at Hb; exact ((Below.refl _ _).alloc (Nat.le_refl _) _).trans (Hb.out.mono (by simp)))⟩
        simp [results, Tryz.results36, go_sem]
end Go.Proofs.YtbgpboiblggmiaaGreatDoor

/-
  Few; equal trees are the same (Same).
-/
namespace Go.Proofs.YtbgpboiblggmiaaGreatDoor
open Go.RowKit
open Px (St T D Res)

set_option maxRecDepth 100000 in
set_option maxHeartbeats 1000000 in
theorem few_any (t : T) (most : Int) (a : Option Addr) (cap : Nat) (w : World) (hm1 : most ≤ 1000000) (hm2 : -1000000 ≤ most) (hk : RRow w.heap.size w t.kids (.slice a t.kids.length cap)) :
    Calls Tryz.prog 13 #[nodeVal t (.slice a t.kids.length cap), .int .i64 most] w fun e w' => e = .returned (.bool (decide (cntT t most ≤ most))) ∧ Below w.heap.size w w' := by
  have Hk := Lib.hid hk
  clear hk
  unfold nodeVal
  go_enter Tryz.func13, Tryz.ntmps13
  go_wp2_with fail
  refine (count_any _ t most a cap _ (Nat.le_refl _) hm1 hm2 ((Hk.out.below ((Below.refl _ _).alloc (Nat.le_refl _) _)).mono (by simp))).mono ?_
  rintro e w1 ⟨rfl, hb⟩
  have Hb := Lib.hid hb
  clear hb
  go_wp2_with fail
  refine bodyPost_ret (v := .bool (decide (cntT t most ≤ most))) ?_ rfl ⟨rfl, ((Below.refl _ _).alloc (Nat.le_refl _) _).trans (Hb.out.mono (by simp))⟩
  simp [results, Tryz.results13, go_sem]

set_option maxRecDepth 100000 in
set_option maxHeartbeats 2000000 in
theorem same_any : ∀ (n : Nat) (t : T) (a b : Option Addr) (ca cb : Nat) (w : World), Px.size t ≤ n → RRow w.heap.size w t.kids (.slice a t.kids.length ca) → RRow w.heap.size w t.kids (.slice b t.kids.length cb) →
    Calls Tryz.prog 17 #[nodeVal t (.slice a t.kids.length ca), nodeVal t (.slice b t.kids.length cb)] w fun e w' => e = .returned (.bool true) ∧ Below w.heap.size w w'
  | 0, t, a, b, ca, cb, w, hn, _, _ => by cases t; rw [Px.size] at hn; omega
  | n + 1, t, a, b, ca, cb, w, hn, hka, hkb => by
    have ih := Lib.hid (same_any n)
    have Hka := Lib.hid hka
    have Hkb := Lib.hid hkb
    have hs : Px.sizes t.kids ≤ n := by cases t; rw [Px.size] at hn; show Px.sizes _ ≤ _; simp only [Px.T.kids]; omega
    have hlen : t.kids.length ≤ maxLen := hka.len
    have hmax : maxLen ≤ 9223372036854775807 := by decide
    clear hka hkb hn
    unfold nodeVal
    go_enter Tryz.func17, Tryz.ntmps17
    go_wp2_with fail
    go_loopw [5] (fun i wr => ∃ (k : Nat) (W : World), k ≤ t.kids.length ∧ i = .int .i64 k ∧ Hid (NineAt W w.heap.size 0 t (.slice a t.kids.length ca)) ∧ Hid (NineAt W (w.heap.size + 1) 0 t (.slice b t.kids.length cb)) ∧ Hid (Below w.heap.size w W) ∧ W.heap.size = w.heap.size + 2 ∧ Hid (Below W.heap.size W wr)) (fun i _ => t.kids.length - (intOf i).toNat)
    case atStart =>
      refine ⟨0, _, by omega, rfl, Lib.hid ?_, Lib.hid ?_, Lib.hid ?_, by simp, Lib.hid (Below.refl _ _)⟩
      · exact (NineAt.var w t _).below ((Below.refl (w.heap.size + 1) _).alloc (by simp) _) (by omega)
      · have := NineAt.var (w.alloc (.cells #[.int .i64 t.kind, .string ⟨t.name.toArray⟩, .string ⟨t.other.toArray⟩, .int .i64 t.n, .int .i64 t.len, .int .i64 t.init, .bool t.ghost, (.slice a t.kids.length ca), .int .i64 t.off] 25)) t (.slice b t.kids.length cb)
        simpa using this
      · exact ((Below.refl _ _).alloc (Nat.le_refl _) _).alloc (by simp) _
    case round =>
      obtain ⟨k, W, hk, rfl, Hx, Hy, HW, hWs, Hb⟩ := hrel
      have hbs := Hb.out.size
      have c7 := (Hx.out.below Hb.out (by omega)).c7
      have e7 := (Hy.out.below Hb.out (by omega)).c7
      simp only [Nat.zero_add] at c7 e7
      by_cases hlt : k < t.kids.length
      · obtain ⟨u, hu⟩ : ∃ u, t.kids[k]? = some u := ⟨_, List.getElem?_eq_getElem hlt⟩
        have hus : Px.size u ≤ n := by
          have h1 : Px.sizes (t.kids.drop k) ≤ Px.sizes t.kids := sizes_drop_le t.kids k
          rw [sizes_drop hu, Px.sizes] at h1
          omega
        have hkb : Below w.heap.size w wr := HW.out.trans (Hb.out.mono (by omega))
        obtain ⟨b1, o1, ka, kc, ha, hb1, hrow1, h9⟩ := Hka.out.get hu
        obtain ⟨b2, o2, ka2, kc2, hb', hb2, hrow2, g9⟩ := Hkb.out.get hu
        subst ha hb'
        obtain ⟨d0, d1, d2, d3, d4, d5, d6, d7, d8⟩ := h9.below hkb hb1
        obtain ⟨e0, e1, e2, e3, e4, e5, e6, f7, e8⟩ := g9.below hkb hb2
        have hcall := ih.out u ka ka2 kc kc2 wr.drew hus ((hrow1.below hkb.drew).mono (by show w.heap.size ≤ wr.heap.size; omega)) ((hrow2.below hkb.drew).mono (by show w.heap.size ≤ wr.heap.size; omega))
        unfold nodeVal at hcall
        have Hcall := Lib.hid hcall
        have hk0 : (0 : Int) ≤ (k : Int) := Int.natCast_nonneg _
        have hk1 : (k : Int) < (t.kids.length : Int) := by omega
        clear hcall hrow1 hrow2 h9 g9 hu hkb
        go_wp2_with fail
        go_region_law (go_simp; go_at_call 17; refine Hcall.out.mono ?_; rintro e w2 ⟨rfl, hb2⟩; have Hb2 := Lib.hid hb2; clear hb2)
        all_goals
          go_wp2_with fail
          go_roundw
          case rel => exact ⟨k + 1, W, by omega, by go_num, Hx, Hy, HW, hWs, Lib.hid (Hb.out.trans ((Below.drew (Below.refl _ _)).trans (Hb2.out.mono (by show W.heap.size ≤ wr.heap.size; omega))))⟩
          case measure => simp [intOf]; omega
      · go_wp2_with fail
        refine bodyPost_ret (v := .bool true) ?_ rfl ⟨rfl, HW.out.trans (Hb.out.mono (by omega))⟩
        simp [results, Tryz.results17, go_sem]
end Go.Proofs.YtbgpboiblggmiaaGreatDoor

/-
  Equal rows of diagnostics are the same (Diags, one); the law's small makers of trees.
-/
namespace Go.Proofs.YtbgpboiblggmiaaGreatDoor
open Go.RowKit
open Px (St T D Res)

theorem Below.drewN' {B : Nat} {a w : World} (h : Below B a w) (n : Nat) : Below B a (w.drewN n) := ⟨h.os, h.tape, h.output, h.size, h.block⟩

/-- rows of diagnostics, wherever they stand -/
def DiagsAt (N : Nat) (w : World) (a : Option Addr) (l : List D) : Prop :=
  l = [] ∨ ∃ b o cur fz, a = some ⟨b, o, none⟩ ∧ b < N ∧ w.heap[b]? = some (.cells cur 33 fz) ∧ ∀ j u, (diagCells l)[j]? = some u → cur[o + j]? = some u
theorem DiagsAt.keep {N N' : Nat} {w w' : World} {a : Option Addr} {l : List D} (h : DiagsAt N w a l) (hN : N ≤ N') (hw : ∀ k, k < N → w'.heap[k]? = w.heap[k]?) : DiagsAt N' w' a l := by
  rcases h with h | ⟨b, o, cur, fz, ha, hb, hc, hx⟩
  · exact .inl h
  · exact .inr ⟨b, o, cur, fz, ha, Nat.lt_of_lt_of_le hb hN, by rw [hw b hb]; exact hc, hx⟩
theorem DiagsAt.of {w : World} {base : Nat} {a : Option Addr} {cap : Nat} {l : List D} (h : w.ownsRow base 33 2 (.slice a l.length cap) l.length (diagCells l)) : DiagsAt w.heap.size w a l := by
  rcases h.2 with ⟨_, h0⟩ | ⟨b, cap', cur, hv, _, hc, _⟩
  · exact .inl (List.length_eq_zero_iff.1 h0)
  · cases hv
    refine .inr ⟨b, 0, cur, (0, 0), rfl, lt_heap hc, hc, fun j u hu => ?_⟩
    have hj := (List.getElem?_eq_some_iff.1 hu).1
    have := h.cellAt j (by rw [h.1] at hj; exact hj)
    rw [cell_of_obj hc, hu] at this
    rw [Nat.zero_add]
    exact this
theorem diagCells_two : ∀ (l : List D) (k : Nat) (d : D), l[k]? = some d → (diagCells l)[k * 2]? = some (.int .i64 d.err) ∧ (diagCells l)[k * 2 + 1]? = some (.int .i64 d.off)
  | [], k, d, h => by simp at h
  | x :: r, k, d, h => by
    have e : diagCells (x :: r) = [.int .i64 x.err, .int .i64 x.off] ++ diagCells r := by simp [diagCells]
    rw [e]
    cases k with
    | zero =>
      simp only [List.getElem?_cons_zero, Option.some.injEq] at h
      subst h
      exact ⟨rfl, rfl⟩
    | succ k =>
      obtain ⟨h1, h2⟩ := diagCells_two r k d (by simpa using h)
      rw [show (k + 1) * 2 = k * 2 + 2 from by omega]
      exact ⟨h1, h2⟩
theorem DiagsAt.get {N : Nat} {w : World} {a : Option Addr} {l : List D} (h : DiagsAt N w a l) {k : Nat} {d : D} (hd : l[k]? = some d) :
    ∃ b o, a = some ⟨b, o, none⟩ ∧ b < N ∧ w.cell? ⟨b, o + k * 2, none⟩ = some (.int .i64 d.err) ∧ w.cell? ⟨b, o + k * 2 + 1, none⟩ = some (.int .i64 d.off) := by
  rcases h with h | ⟨b, o, cur, fz, ha, hb, hc, hx⟩
  · rw [h] at hd; simp at hd
  · obtain ⟨h1, h2⟩ := diagCells_two l k d hd
    exact ⟨b, o, ha, hb, by rw [cell_of_obj hc]; exact hx _ _ h1, by rw [cell_of_obj hc, Nat.add_assoc]; exact hx _ _ h2⟩

set_option maxRecDepth 100000 in
set_option maxHeartbeats 1000000 in
theorem diags_any (l : List D) (a b : Option Addr) (ca cb : Nat) (w : World) (hn : l.length ≤ 900000) (ha : DiagsAt w.heap.size w a l) (hb : DiagsAt w.heap.size w b l) :
    Calls Tryz.prog 29 #[.slice a l.length ca, .slice b l.length cb] w fun e w' => e = .returned (.bool true) ∧ Below w.heap.size w w' := by
  have Ha := Lib.hid ha
  have Hb := Lib.hid hb
  clear ha hb
  go_enter Tryz.func29, Tryz.ntmps29
  go_wp2_with fail
  go_loopw [5] (fun i wr => ∃ (k : Nat), k ≤ l.length ∧ i = .int .i64 k ∧ Hid (Below w.heap.size w wr)) (fun i _ => l.length - (intOf i).toNat)
  case atStart => exact ⟨0, by omega, rfl, Lib.hid (Below.refl _ _)⟩
  case round =>
    obtain ⟨k, hk, rfl, Hbr⟩ := hrel
    by_cases hlt : k < l.length
    · obtain ⟨d, hd⟩ : ∃ d, l[k]? = some d := ⟨_, List.getElem?_eq_getElem hlt⟩
      obtain ⟨b1, o1, ha, hb1, h1, h2⟩ := Ha.out.get hd
      obtain ⟨b2, o2, hb', hb2, h3, h4⟩ := Hb.out.get hd
      subst ha hb'
      rw [← Hbr.out.cell (p := ⟨b1, o1 + k * 2, none⟩) hb1] at h1
      rw [← Hbr.out.cell (p := ⟨b1, o1 + k * 2 + 1, none⟩) hb1] at h2
      rw [← Hbr.out.cell (p := ⟨b2, o2 + k * 2, none⟩) hb2] at h3
      rw [← Hbr.out.cell (p := ⟨b2, o2 + k * 2 + 1, none⟩) hb2] at h4
      have hk0 : (0 : Int) ≤ (k : Int) := Int.natCast_nonneg _
      have hk1 : (k : Int) < (l.length : Int) := by omega
      clear hd
      go_wp2_with fail
      go_quiet (fail)
      go_wp2_with fail
      go_roundw
      case rel => exact ⟨k + 1, by omega, by go_num, Lib.hid (by first | exact Below.drewN' Hbr.out _ | exact Hbr.out)⟩
      case measure => simp [intOf]; omega
    · go_wp2_with fail
      refine bodyPost_ret (v := .bool true) ?_ rfl ⟨rfl, Hbr.out⟩
      simp [results, Tryz.results29, go_sem]

set_option maxRecDepth 100000 in
set_option maxHeartbeats 1000000 in
theorem one_any (e p : Int) (a : Option Addr) (ca : Nat) (w : World) (ha : DiagsAt w.heap.size w a [⟨e, p⟩]) :
    Calls Tryz.prog 24 #[.slice a 1 ca, .int .i64 e, .int .i64 p] w fun x w' => x = .returned (.bool true) ∧ Below w.heap.size w w' := by
  have Ha := Lib.hid ha
  clear ha
  go_enter Tryz.func24, Tryz.ntmps24
  go_wp2_with fail
  refine (diags_any [⟨e, p⟩] a (some ⟨w.heap.size, 0, none⟩) ca 1 _ (by simp) (Ha.out.keep (by simp) (fun k hk => Below.heap_alloc _ _ _ hk)) (DiagsAt.of (base := w.heap.size) (diag_row w (Nat.le_refl _) ⟨e, p⟩))).mono ?_
  rintro x w1 ⟨rfl, hb⟩
  have Hb := Lib.hid hb
  clear hb
  go_wp2_with fail
  refine bodyPost_ret (v := .bool true) ?_ rfl ⟨rfl, ((Below.refl _ _).alloc (Nat.le_refl _) _).trans (Hb.out.mono (by simp))⟩
  simp [results, Tryz.results24, go_sem]

/-- the cells of a node's value -/
theorem RRow.pair {w : World} {t u : T} {kv ku : Value} (ht : RRow w.heap.size w t.kids kv) (hu : RRow w.heap.size w u.kids ku) {b : Nat} (hb : b = w.heap.size) :
    RRow (b + 1) (w.alloc (.cells (nodeCells t kv ++ nodeCells u ku).toArray 25)) [t, u] (.slice (some ⟨b, 0, none⟩) 2 2) := by
  subst hb
  have hw : ∀ k, k < w.heap.size → (w.alloc (.cells (nodeCells t kv ++ nodeCells u ku).toArray 25)).heap[k]? = w.heap[k]? := fun k hk => Below.heap_alloc _ _ _ hk
  refine ⟨_, _, nodeCells t kv ++ nodeCells u ku, rfl, (by show 2 ≤ maxLen; decide), .inr ⟨w.heap.size, 0, _, (25, (0, 0)), rfl, Nat.lt_succ_self _, obj_new _ _, fun j v hv => by rw [Nat.zero_add]; simpa using hv⟩, ?_⟩
  rw [RNodes]
  refine ⟨kv, nodeCells u ku, rfl, (rkids_iff _ _ _ _).2 (ht.keep (Nat.le_succ _) hw), ?_⟩
  rw [RNodes]
  exact ⟨ku, [], by simp, (rkids_iff _ _ _ _).2 (hu.keep (Nat.le_succ _) hw), by rw [RNodes]⟩

set_option maxRecDepth 100000 in
set_option maxHeartbeats 1000000 in
theorem ref_law (x : Px.Str) (p : Int) (w : World) :
    Calls Tryz.prog 23 #[.string ⟨x.toArray⟩, .int .i64 p] w fun e w' => e = .returned (nodeVal (T.named 2 p x []) (.slice none 0 0)) ∧ Below w.heap.size w w' := by
  go_enter Tryz.func23, Tryz.ntmps23
  go_wp2_with fail
  ((try simp only [Exit.inBlock, Exit.then]); refine ret_node (by rfl) (by rfl) (by (exact Var.au)) (by first | rfl | simp) (by rfl) ?_)
  exact ⟨rfl, (Below.refl _ _).alloc (Nat.le_refl _) _⟩

set_option maxRecDepth 100000 in
set_option maxHeartbeats 1000000 in
theorem two_law (x : Px.Str) (p : Int) (t u : T) (a b : Option Addr) (na nb ca cb : Nat) (w : World) (ht : RRow w.heap.size w t.kids (.slice a na ca)) (hu : RRow w.heap.size w u.kids (.slice b nb cb)) :
    Calls Tryz.prog 25 #[.string ⟨x.toArray⟩, .int .i64 p, nodeVal t (.slice a na ca), nodeVal u (.slice b nb cb)] w fun e w' => ∃ c, e = .returned (nodeVal (T.named 5 p x [t, u]) (.slice c 2 2)) ∧ RRow w'.heap.size w' [t, u] (.slice c 2 2) ∧ Below w.heap.size w w' := by
  have Ht := Lib.hid ht
  have Hu := Lib.hid hu
  clear ht hu
  unfold nodeVal
  go_enter Tryz.func25, Tryz.ntmps25
  go_wp2_with fail
  ((try simp only [Exit.inBlock, Exit.then]); refine ret_node (by rfl) (by rfl) (Var.alloc (Var.new' (by simp)) _) (by first | rfl | simp) (by rfl) ?_)
  refine ⟨_, rfl, ?_, (((((Below.refl _ _).alloc (Nat.le_refl _) _).alloc (by simp) _).alloc (by simp; omega) _).alloc (by simp; omega) _)⟩
  obtain ⟨W, hW, hWb⟩ : ∃ W, W = ((w.alloc (.cells (nodeCells t (.slice a na ca)).toArray 25)).alloc (.cells (nodeCells u (.slice b nb cb)).toArray 25)).alloc (.cells (nodeCells (T.named 5 p x [t, u]) (.slice (some ⟨w.heap.size + 1 + 1 + 1, 0, none⟩) 2 2)).toArray 25) ∧ Below w.heap.size w W :=
    ⟨_, rfl, (((Below.refl _ _).alloc (Nat.le_refl _) _).alloc (by simp) _).alloc (by simp; omega) _⟩
  have hs : W.heap.size = w.heap.size + 1 + 1 + 1 := by rw [hW]; simp
  have := RRow.pair (w := W) ((Ht.out.below hWb).mono hWb.size) ((Hu.out.below hWb).mono hWb.size) rfl
  rw [hs] at this
  have e : (W.alloc (.cells (nodeCells t (.slice a na ca) ++ nodeCells u (.slice b nb cb)).toArray 25)).heap.size = w.heap.size + 1 + 1 + 1 + 1 := by simp [hs]
  rw [← e, hW] at this
  exact this
end Go.Proofs.YtbgpboiblggmiaaGreatDoor

/-
  fits: a tree keeps within the limits of nodes and depth.
-/
namespace Go.Proofs.YtbgpboiblggmiaaGreatDoor
open Go.RowKit
open Px (St T D Res)

mutual
/-- nodes left when a tree was counted, or none if a limit is exceeded -/
def fitT : T → Int → Int → Option Int
  | .mk _ _ _ _ _ _ _ kids _, d, left => if d = 0 ∨ left - 1 < 0 then none else fitL kids (d - 1) (left - 1)
def fitL : List T → Int → Int → Option Int
  | [], _, left => some left
  | t :: r, d, left => match fitT t d left with
    | none => none
    | some x => fitL r d x
end
theorem fitT_eq (t : T) (d left : Int) : fitT t d left = if d = 0 ∨ left - 1 < 0 then none else fitL t.kids (d - 1) (left - 1) := by
  cases t
  rw [fitT]
  rfl

mutual
theorem fitT_le : ∀ (t : T) (d left x : Int), fitT t d left = some x → 0 ≤ x ∧ x ≤ left
  | .mk _ _ _ _ _ _ _ kids _, d, left, x, h => by
    rw [fitT] at h
    split at h
    · cases h
    · have := fitL_le kids (d - 1) (left - 1) x (by omega) h
      omega
theorem fitL_le : ∀ (l : List T) (d left x : Int), 0 ≤ left → fitL l d left = some x → 0 ≤ x ∧ x ≤ left
  | [], d, left, x, h0, h => by rw [fitL] at h; cases h; omega
  | t :: r, d, left, x, h0, h => by
    rw [fitL] at h
    cases e : fitT t d left with
    | none => rw [e] at h; cases h
    | some y =>
      rw [e] at h
      have h1 := fitT_le t d left y e
      have h2 := fitL_le r d y x h1.1 h
      omega
end

mutual
/-- what fitT says in terms of size and depth -/
theorem fitT_iff : ∀ (t : T) (d left : Nat), fitT t d left = if Px.depth t ≤ d ∧ Px.size t ≤ left then some ((left : Int) - (Px.size t : Int)) else none
  | .mk _ _ _ _ _ _ _ kids _, d, left => by
    rw [fitT, Px.depth, Px.size]
    by_cases h0 : (d : Int) = 0 ∨ (left : Int) - 1 < 0
    · rw [if_pos h0, if_neg (by omega)]
    · rw [if_neg h0]
      have := fitL_iff kids (d - 1) (left - 1)
      rw [show ((d - 1 : Nat) : Int) = (d : Int) - 1 from by omega, show ((left - 1 : Nat) : Int) = (left : Int) - 1 from by omega] at this
      rw [this]
      by_cases h1 : Px.depths kids ≤ d - 1 ∧ Px.sizes kids ≤ left - 1
      · rw [if_pos h1, if_pos (by omega)]
        congr 1
        omega
      · rw [if_neg h1, if_neg (by omega)]
theorem fitL_iff : ∀ (l : List T) (d left : Nat), fitL l d left = if Px.depths l ≤ d ∧ Px.sizes l ≤ left then some ((left : Int) - (Px.sizes l : Int)) else none
  | [], d, left => by
    rw [fitL, Px.depths, Px.sizes, if_pos ⟨Nat.zero_le _, Nat.zero_le _⟩]
    simp
  | t :: r, d, left => by
    rw [fitL, fitT_iff t d left, Px.depths, Px.sizes]
    have hmax : Nat.max (Px.depth t) (Px.depths r) ≤ d ↔ Px.depth t ≤ d ∧ Px.depths r ≤ d := Nat.max_le
    by_cases h1 : Px.depth t ≤ d ∧ Px.size t ≤ left
    · rw [if_pos h1]
      show fitL r d ((left : Int) - (Px.size t : Int)) = _
      rw [show (left : Int) - (Px.size t : Int) = ((left - Px.size t : Nat) : Int) from by omega, fitL_iff r d (left - Px.size t)]
      by_cases h2 : Px.depths r ≤ d ∧ Px.sizes r ≤ left - Px.size t
      · rw [if_pos h2, if_pos ⟨hmax.2 ⟨h1.1, h2.1⟩, by omega⟩]
        congr 1
        omega
      · rw [if_neg h2, if_neg (fun h => h2 ⟨(hmax.1 h.1).2, by omega⟩)]
    · rw [if_neg h1, if_neg (fun h => h1 ⟨(hmax.1 h.1).1, by omega⟩)]
end
theorem fit_fits (t : T) : (fitT t 40 1500).isSome = Px.fits t := by
  rw [show (40 : Int) = ((40 : Nat) : Int) from rfl, show (1500 : Int) = ((1500 : Nat) : Int) from rfl, fitT_iff]
  unfold Px.fits
  by_cases h : Px.depth t ≤ 40 ∧ Px.size t ≤ 1500
  · rw [if_pos h]; simp [h]
  · rw [if_neg h]
    simp
    omega

/-- what fitsIn says -/
def FitSaid (p : Nat) (w : World) (r : Option Int) (e : Ending) (w' : World) : Prop :=
  w.grownBy w' (some p) ∧ match r with
  | none => e = .returned (.bool false)
  | some x => e = .returned (.bool true) ∧ Var 3 w' p #[.int .i64 x]

theorem setVar {ty : TypeId} {w : World} {p : Nat} {v0 : Value} (hp : Var ty w p #[v0]) (v : Value) : Var ty (w.setCell ⟨p, 0, none⟩ v) p #[v] := heap_setCell_same hp 0 v
theorem grownSet {w : World} {p : Nat} (v : Value) : w.grownBy (w.setCell ⟨p, 0, none⟩ v) (some p) :=
  ⟨rfl, rfl, rfl, by simp [World.setCell], fun k _ hk => Below.heap_setCell _ _ _ _ (by rintro rfl; exact hk rfl)⟩
theorem NineAt.grown {w w' : World} {b o p : Nat} {t : T} {kv : Value} (h : NineAt w b o t kv) (hg : w.grownBy w' (some p)) (hb : b < w.heap.size) (hne : b ≠ p) : NineAt w' b o t kv := by
  have e : ∀ j : Nat, w'.cell? ⟨b, j, none⟩ = w.cell? ⟨b, j, none⟩ := fun j => World.cell?_of_block (a := ⟨b, j, none⟩) (hg.block b hb (by simpa using hne))
  obtain ⟨h0, h1, h2, h3, h4, h5, h6, h7, h8⟩ := h
  exact ⟨(e _).trans h0, (e _).trans h1, (e _).trans h2, (e _).trans h3, (e _).trans h4, (e _).trans h5, (e _).trans h6, (e _).trans h7, (e _).trans h8⟩
theorem row_not_int {N : Nat} {w : World} {b o : Nat} {t : T} {kv : Value} (h : NineAt w b o t kv) {p : Nat} {v : Value} (hp : Var 3 w p #[v]) (hv : ∀ x, v ≠ .string x) : b ≠ p := by
  rintro rfl
  have := h.c1
  rw [cell_of_obj hp] at this
  have e := (Array.getElem?_eq_some_iff.1 this).1
  simp at e

set_option maxRecDepth 100000 in
set_option maxHeartbeats 2000000 in
theorem fitsIn_any : ∀ (d : Nat) (t : T) (left : Int) (a : Option Addr) (cap p : Nat) (w : World), d ≤ 40 → 0 ≤ left → left ≤ 1500 → RRow w.heap.size w t.kids (.slice a t.kids.length cap) → Var 3 w p #[.int .i64 left] →
    Calls Tryz.prog 54 #[nodeVal t (.slice a t.kids.length cap), .int .i64 d, .pointer (some ⟨p, 0, none⟩)] w (FitSaid p w (fitT t d left)) := by
  intro d
  induction d with
  | zero =>
    intro t left a cap p w hd hl0 hl1 hk hp
    have hp0 := lt_heap hp
    have hw : IntKind.i64.wrap (left - 1) = left - 1 := IntWalk.i64_in _ (by omega)
    obtain ⟨c0, f0⟩ := obj_facts hp
    rw [fitT_eq, if_pos (.inl rfl)]
    unfold nodeVal
    go_enter Tryz.func54, Tryz.ntmps54
    go_wp2_with fail
    refine bodyPost_ret (v := .bool false) ?_ rfl ⟨(grownSet _).trans (World.grownBy_alloc _ _ _), rfl⟩
    simp [results, Tryz.results54, go_sem]
  | succ d ih =>
    intro t left a cap p w hd hl0 hl1 hk hp
    have hp0 := lt_heap hp
    have hw : IntKind.i64.wrap (left - 1) = left - 1 := IntWalk.i64_in _ (by omega)
    have hd0 : (((d + 1 : Nat) : Int) == 0) = false := by simp; omega
    have hwd : IntKind.i64.wrap (((d + 1 : Nat) : Int) - 1) = (d : Int) := by rw [show ((d + 1 : Nat) : Int) - 1 = (d : Int) from by omega]; exact IntWalk.i64_in _ (by omega)
    obtain ⟨c0, f0⟩ := obj_facts hp
    have hlen : t.kids.length ≤ maxLen := hk.len
    have hmax : maxLen ≤ 9223372036854775807 := by decide
    obtain ⟨D, hD⟩ : ∃ D : Int, D = ((d + 1 : Nat) : Int) := ⟨_, rfl⟩
    rw [← hD] at hd0 hwd ⊢
    rw [fitT_eq]
    have hD0 : ¬ D = 0 := by omega
    by_cases hneg : left - 1 < 0
    · rw [if_pos (.inr hneg)]
      have hneg' : decide (left - 1 < 0) = true := by simp; omega
      unfold nodeVal
      clear ih hD
      go_enter Tryz.func54, Tryz.ntmps54
      go_wp2_with fail
      refine bodyPost_ret (v := .bool false) ?_ rfl ⟨(grownSet _).trans (World.grownBy_alloc _ _ _), rfl⟩
      simp [results, Tryz.results54, go_sem]
    · rw [if_neg (by omega)]
      have hneg' : decide (left - 1 < 0) = false := by simp; omega
      have hDd : D - 1 = (d : Int) := by omega
      rw [hDd]
      obtain ⟨R, hR⟩ : ∃ R, R = fitL t.kids d (left - 1) := ⟨_, rfl⟩
      rw [← hR]
      have HR := Lib.hid hR
      have Ih := Lib.hid ih
      have Hk := Lib.hid hk
      have Hp := Lib.hid hp
      clear hR ih hD hDd hk hp
      unfold nodeVal
      go_enter Tryz.func54, Tryz.ntmps54
      go_wp2_with fail
      go_loopw [25] (fun i wr => ∃ (k : Nat) (x : Int), k ≤ t.kids.length ∧ i = .int .i64 k ∧ 0 ≤ x ∧ x ≤ 1500 ∧ Hid (R = fitL (t.kids.drop k) d x) ∧ Hid (w.grownBy wr (some p)) ∧ Hid (NineAt wr w.heap.size 0 t (.slice a t.kids.length cap)) ∧ Hid (Var 3 wr p #[.int .i64 x]) ∧ w.heap.size + 1 ≤ wr.heap.size) (fun i _ => t.kids.length - (intOf i).toNat)
      case atStart =>
        refine ⟨0, left - 1, by omega, rfl, by omega, by omega, HR, Lib.hid ((grownSet _).trans (World.grownBy_alloc _ _ _)), Lib.hid ?_, Lib.hid ((setVar Hp.out _).alloc _), by simp [World.setCell]⟩
        have := NineAt.var (w.setCell ⟨p, 0, none⟩ (.int .i64 (left - 1))) t (.slice a t.kids.length cap)
        simpa [World.setCell] using this
      case round =>
        clear HR
        obtain ⟨k, x, hk, rfl, hx0, hx1, HR, Hg, Hn, Hv, hsz⟩ := hrel
        by_cases hlt : k < t.kids.length
        · obtain ⟨u, hu⟩ : ∃ u, t.kids[k]? = some u := ⟨_, List.getElem?_eq_getElem hlt⟩
          obtain ⟨b, o, ka, kc, ha, hb, hrow, h9⟩ := Hk.out.get hu
          subst ha
          have hbp : b ≠ p := row_not_int (N := 0) h9 Hp.out (by simp)
          obtain ⟨d0, d1, d2, d3, d4, d5, d6, d7, d8⟩ := h9.grown Hg.out hb hbp
          have Hrow := Lib.hid hrow
          have Hd := Lib.hid (sizes_drop hu)
          have hk0 : (0 : Int) ≤ (k : Int) := Int.natCast_nonneg _
          have hk1 : (k : Int) < (t.kids.length : Int) := by omega
          clear hu hrow h9
          go_wp2_with fail
          refine (Ih.out u x ka kc p _ (by omega) hx0 hx1 (((Hrow.out.grown (Nat.le_refl _) Hg.out Hp.out (by simp)).below ((Below.refl _ _).alloc (by omega) _)).mono (by simp; omega)) (Hv.out.alloc _)).mono ?_
          intro e w2 hf
          obtain ⟨hg2, hm⟩ := hf
          have hg3 := Hg.out.trans ((World.grownBy_alloc wr _ (some p)).trans hg2)
          have Hg3 := Lib.hid hg3
          have hsz3 : w.heap.size + 1 ≤ w2.heap.size := by have := hg2.size; simp at this; omega
          have hpw : w.heap.size ≠ p := by omega
          have Hn3 := Lib.hid ((Hn.out.grown (World.grownBy_alloc wr (.cells #[Value.int IntKind.i64 u.kind, Value.string ⟨u.name.toArray⟩, Value.string ⟨u.other.toArray⟩, Value.int IntKind.i64 u.n, Value.int IntKind.i64 u.len, Value.int IntKind.i64 u.init, Value.bool u.ghost, Value.slice ka u.kids.length kc, Value.int IntKind.i64 u.off] 25) (some p)) (by omega) hpw).grown hg2 (by simp; omega) hpw)
          clear hg2 hg3
          cases hfit : fitT u d x with
          | none =>
            rw [hfit] at hm
            have HR2 := Lib.hid (show R = none by have := HR.out; rw [Hd.out, fitL, hfit] at this; exact this)
            subst hm
            clear hfit
            go_wp2_with fail
            refine bodyPost_ret (v := .bool false) ?_ rfl (by rw [HR2.out]; exact ⟨Hg3.out, rfl⟩)
            simp [results, Tryz.results54, go_sem]
          | some y =>
            rw [hfit] at hm
            have hy := fitT_le u d x y hfit
            have HR2 := Lib.hid (show R = fitL (t.kids.drop (k + 1)) d y by have := HR.out; rw [Hd.out, fitL, hfit] at this; exact this)
            obtain ⟨rfl, hv⟩ := hm
            have Hv3 := Lib.hid hv
            clear hfit hv
            go_wp2_with fail
            go_roundw
            case rel => exact ⟨k + 1, y, by omega, by go_num, by omega, by omega, HR2, Hg3, Hn3, Hv3, hsz3⟩
            case measure => simp [intOf]; omega
        · have HR2 := Lib.hid (show R = some x by have := HR.out; rw [List.drop_of_length_le (by omega), fitL] at this; exact this)
          go_wp2_with fail
          refine bodyPost_ret (v := .bool true) ?_ rfl (by rw [HR2.out]; exact ⟨Hg.out, rfl, Hv.out⟩)
          simp [results, Tryz.results54, go_sem]

set_option maxRecDepth 100000 in
set_option maxHeartbeats 1000000 in
theorem fits_any (t : T) (a : Option Addr) (cap : Nat) (w : World) (hk : RRow w.heap.size w t.kids (.slice a t.kids.length cap)) :
    Calls Tryz.prog 35 #[nodeVal t (.slice a t.kids.length cap)] w fun e w' => e = .returned (.bool (Px.fits t)) ∧ Below w.heap.size w w' := by
  have Hk := Lib.hid hk
  have HF := Lib.hid (fit_fits t)
  clear hk
  unfold nodeVal
  go_enter Tryz.func35, Tryz.ntmps35
  go_wp2_with fail
  refine (fitsIn_any 40 t 1500 a cap (w.heap.size + 1) _ (by omega) (by omega) (by omega) ((Hk.out.below (((Below.refl _ _).alloc (Nat.le_refl _) _).alloc (by simp) _)).mono (by simp; omega)) (Var.new' (by simp))).mono ?_
  intro e w2 hf
  obtain ⟨hg, hm⟩ := hf
  have hg2 : Below w.heap.size w w2 := (((Below.refl _ _).alloc (Nat.le_refl _) _).alloc (by simp) _).grown hg (by simp; omega) (by intro k hk; cases hk; omega)
  have he : e = .returned (.bool (Px.fits t)) := by
    rw [← HF.out]
    rw [show fitT t ((40 : Nat) : Int) 1500 = fitT t 40 1500 from rfl] at hm
    cases hfit : fitT t 40 1500 with
    | none => rw [hfit] at hm; exact hm
    | some y => rw [hfit] at hm; exact hm.1
  subst he
  have Hg2 := Lib.hid hg2
  clear hg hm hg2
  go_wp2_with fail
  refine bodyPost_ret (v := .bool (Px.fits t)) ?_ rfl ⟨rfl, Hg2.out⟩
  simp [results, Tryz.results35, go_sem]
end Go.Proofs.YtbgpboiblggmiaaGreatDoor

/-
  An append of a row of the call's own, nil or not.
-/
namespace Go.Proofs.YtbgpboiblggmiaaGreatDoor
open Go.RowKit

section
variable {P : Program} (w : World)
/-- an append of a row of the call's own, nil or not -/
theorem wpList_append_rows {ops : Array Oper} {rest : List Oper} {o : Oper} {a : Act} {Q : Exit → Act → World → Prop} (hgd : o.guard = none) (s x : Operand) (t : TypeId)
    (ho : o.op = .call { callee := .builtin .append, args := #[s, x], argTypes := #[t, t] })
    (base : Nat) (e : TypeId) (i : TypeInfo) (z : Value) (size bytes : Nat) (ht : P.underlying t = some (.slice e)) (hi : P.info? e = some i) (hz : i.zero = some z)
    (hsize : i.size = size) (hby : i.bytes = bytes) (hzs : z.cells.size = size) (hsz : 0 < size)
    (v : Value) (n : Nat) (xs : List Value) (hs : a.eval s = v) (hown : w.ownsRow base e size v n xs)
    (B2 : Nat) (src : Value) (m : Nat) (news : List Value) (hx : a.eval x = src) (hsrc : w.ownsRow B2 e size src m news) (h1 : ∀ u ∈ news, u.oneCell' = true)
    (h63 : n + m ≤ maxLen) (hbytes : (n + m) * bytes ≤ 140737488355328) (hbase : base ≤ w.heap.size)
    (h : ∀ v' w', w'.ownsRow base e size v' (n + m) (xs ++ news) → w.grownBy w' v.ownBlock → wpList P ops Q rest (a.put o.dst v') w') : wpList P ops Q (o :: rest) a w := by
  have hsrc' := hsrc
  rcases hsrc'.2 with ⟨rfl, h0⟩ | ⟨g, cap, cur, rfl, hr⟩
  · subst h0
    have hnews : news = [] := List.eq_nil_of_length_eq_zero (by rw [hsrc.1, Nat.zero_mul])
    subst hnews
    refine wpList_append_own_none hgd s x t ho base e i size ht hi v n xs hs hown hx (h v w ?_ ⟨rfl, rfl, rfl, Nat.le_refl _, fun _ _ _ => rfl⟩)
    rw [List.append_nil]
    exact hown
  · exact wpList_append_own w hgd s x t ho base e i z size bytes ht hi hz hsize hby hzs hsz v n xs hs hown ⟨g, 0, none⟩ m cap news hx hsrc.1 (hsrc.cells rfl) h1 h63 hbytes hbase (fun v' w' h2 h3 _ => h v' w' h2 h3)
end
end Go.Proofs.YtbgpboiblggmiaaGreatDoor

/-
  Parse and ParseExpr: what chapter 2 says.
-/
namespace Go.Proofs.YtbgpboiblggmiaaGreatDoor
open Go.RowKit
open Px (St T D Res left Takes)

/-- a tree and diagnostics, handed back -/
def TreeSaid (r : T × List D) (w : World) (e : Ending) (w' : World) : Prop :=
  Below w.heap.size w w' ∧ ∃ a cap da dc, e = .returned (.tuple #[nodeVal r.1 (.slice a r.1.kids.length cap), .slice da r.2.length dc]) ∧ RRow w'.heap.size w' r.1.kids (.slice a r.1.kids.length cap) ∧ DiagsAt w'.heap.size w' da r.2

theorem stays_below {B : Nat} {x : Option Nat} {w w' : World} (h : Stays B x w w') (hx : ∀ k, x = some k → B ≤ k) (hB : B ≤ w.heap.size) : Below B w w' :=
  ⟨h.os, h.tape, h.output, h.size, fun k hk => by
    have hlt : k < w.heap.size := by omega
    obtain ⟨o, ho⟩ : ∃ o, w.heap[k]? = some o := ⟨_, Array.getElem?_eq_getElem hlt⟩
    rw [ho]
    exact h.block k o ho (.inl hk) (fun e => by have := hx k e.symm; omega)⟩

/-- what a reader holds in its fifth field -/
theorem RdAt.diagsAt {B E g : Nat} {w : World} {s : St} (h : RdAt B E g w s) : ∃ da dc, w.cell? ⟨g, 4, none⟩ = some (.slice da s.diags.length dc) ∧ w.ownsRow B 33 2 (.slice da s.diags.length dc) s.diags.length (diagCells s.diags) := by
  obtain ⟨ta, tc, km, dv, hB, hg, ht, hk, hd, ho, h1, h2⟩ := h
  obtain ⟨da, dc, rfl⟩ := ownsRow_form hd
  exact ⟨da, dc, cell_of_obj hg 4, hd⟩

theorem symsAt_lt {w : World} (h : SymsAt w) : 0 < w.heap.size := by
  rcases Nat.eq_zero_or_pos w.heap.size with h0 | h0
  · have h1 := h 0 _ (by rfl : symTab[0]? = some _)
    have h2 : w.heap[0]? = none := Array.getElem?_eq_none (by omega)
    simp [World.cell?, h2] at h1
  · exact h0
theorem symsAt_alloc {w : World} (h : SymsAt w) (o : Obj) : SymsAt (w.alloc o) := symsAt_below h ((Below.refl w.heap.size w).alloc (Nat.le_refl _) o) (symsAt_lt h)

/-- two results, the first of which is a tree in a variable -/
theorem ret_pair {fn : Func} (h : fn.results = #[.cell 2 25, .tmp 3]) {a : Act} {w : World} {g : Nat} {cs : Array Value} {v : Value} {R : Ending → World → Prop} (hp : a.tmps.getD 2 undef = .pointer (some ⟨g, 0, none⟩)) (h3 : a.tmps.getD 3 undef = v)
    (hv : Var 25 w g cs) (h9 : cs.size = 9) (hd : a.defers = []) (hR : R (.returned (.tuple #[.agg cs, v])) w) : bodyPost Tryz.prog fn R .ret a w := by
  refine bodyPost_ret ?_ hd hR
  rw [results_cell_tmp h]
  rw [hp, h3]
  simp [asAddr, run_loadVar_row w g 25 25 cs (0, 0) _ hv Tryz.underlying25 rfl (by rw [infoN, h9])]
theorem below_setRow {N : Nat} {a w : World} (h : Below N a w) {b : Nat} (hb : N ≤ b) (cs : Array Value) : Below N a (w.setRow b cs) :=
  ⟨h.os, h.tape, h.output, by have := h.size; simp [World.setRow]; exact this, fun k hk => by
    rw [← h.block k hk]
    cases e : w.heap[k]? with
    | none =>
      have e1 : w.heap.size ≤ k := by rcases Nat.lt_or_ge k w.heap.size with h1 | h1; · rw [Array.getElem?_eq_getElem h1] at e; cases e
                                      · exact h1
      exact Array.getElem?_eq_none (by simp [World.setRow]; exact e1)
    | some o => exact obj_row_other e (by omega) cs⟩
theorem diagsAt_setRow {N : Nat} {w : World} {a : Option Addr} {l : List D} (h : DiagsAt N w a l) {b : Nat} {c : Array Value} {t : TypeId} (hv : Var t w b c) (ht : t ≠ 33) (cs : Array Value) : DiagsAt N (w.setRow b cs) a l := by
  rcases h with h | ⟨b', o, cur, fz, ha, hb, hc, hx⟩
  · exact .inl h
  · refine .inr ⟨b', o, cur, fz, ha, hb, obj_row_other hc ?_ cs, hx⟩
    rintro rfl
    have hv' : w.heap[b']? = some (.cells c t (0, 0)) := hv
    rw [hc] at hv'
    cases hv'
    exact ht rfl

theorem row_final {w2 W : World} {n : Nat} {l : List T} {kv : Value} (h : Row (fun b => n ≤ b) w2 l kv) (hW : ∀ b o, n ≤ b → w2.heap[b]? = some o → W.heap[b]? = some o) : RRow W.heap.size W l kv :=
  (h.keep (S' := fun b => n ≤ b) (fun b hb _ => hb) (fun b c hb hc => hW b _ hb hc)).read
theorem diagsAt_final {w2 W : World} {n : Nat} {a : Option Addr} {l : List D} {cap : Nat} (h : w2.ownsRow n 33 2 (.slice a l.length cap) l.length (diagCells l)) (hW : ∀ b o, n ≤ b → w2.heap[b]? = some o → W.heap[b]? = some o) : DiagsAt W.heap.size W a l := by
  refine DiagsAt.of (base := n) (cap := cap) ?_
  refine ⟨h.1, ?_⟩
  rcases h.2 with hn | ⟨g, cap', cur, hv, hB, hg, rest⟩
  · exact .inl hn
  · exact .inr ⟨g, cap', cur, hv, hB, hW g _ hB hg, rest⟩

end Go.Proofs.YtbgpboiblggmiaaGreatDoor

