/-
  Merged texts of the base: Rd Rda Rdb Num Rdc Rdn Rdo Rde Rdf Exa Exb Exc Exd Exf Exg.
-/
import Derived.Test.YtbgpboiblggmiaaGreatDoorQBaseA
import Derived.Test.YtbgpboiblggmiaaGreatDoorQBaseP
import Derived.Deep.QuietTactic
import Derived.BigQuiet
import Derived.Lib.Atoi
import Derived.Lib.AtoiErrMem

set_option linter.unusedVariables false
set_option linter.unusedSimpArgs false
/-
  What a reader of tokens holds in memory, and what a tree's rows are; how both stay while other memory is written.
-/
namespace Go.Proofs.YtbgpboiblggmiaaGreatDoor
open Go.RowKit
open Px (St T D Res)

/-- blocks that a reader may turn: itself, and rows of diagnostics -/
def loose : Obj → Bool
  | .cells _ t _ => t == 66 || t == 33
  | _ => false

/-- what a reader's call leaves as it was: all but its own blocks from B on, and but one row -/
structure Stays (B : Nat) (x : Option Nat) (w w' : World) : Prop where
  os : w'.os = w.os
  tape : w'.tape = w.tape
  output : w'.output = w.output
  size : w.heap.size ≤ w'.heap.size
  block : ∀ k o, w.heap[k]? = some o → (k < B ∨ loose o = false) → some k ≠ x → w'.heap[k]? = some o

theorem lt_heap {w : World} {k : Nat} {o : Obj} (h : w.heap[k]? = some o) : k < w.heap.size := (Array.getElem?_eq_some_iff.1 h).1

namespace Stays
variable {B : Nat} {x : Option Nat} {a b c : World}
theorem refl (B : Nat) (x : Option Nat) (w : World) : Stays B x w w := ⟨rfl, rfl, rfl, Nat.le_refl _, fun _ _ h _ _ => h⟩
theorem trans (h : Stays B x a b) (k : Stays B x b c) : Stays B x a c :=
  ⟨k.os.trans h.os, k.tape.trans h.tape, k.output.trans h.output, Nat.le_trans h.size k.size, fun i o hi hl hx => k.block i o (h.block i o hi hl hx) hl hx⟩
theorem weak (h : Stays B none a b) (x : Option Nat) : Stays B x a b := ⟨h.os, h.tape, h.output, h.size, fun i o hi hl _ => h.block i o hi hl (by simp)⟩
/-- behind a call that may also write a row that is new -/
theorem trans_new {y : Option Nat} (h : Stays B x a b) (k : Stays B y b c) (hy : ∀ i, y = some i → a.heap.size ≤ i) : Stays B x a c :=
  ⟨k.os.trans h.os, k.tape.trans h.tape, k.output.trans h.output, Nat.le_trans h.size k.size, fun i o hi hl hx => k.block i o (h.block i o hi hl hx) hl
    (fun e => by have := hy i e.symm; have := lt_heap hi; omega)⟩
theorem alloc (h : Stays B x a b) (o : Obj) : Stays B x a (b.alloc o) :=
  h.trans ⟨rfl, rfl, rfl, by simp, fun k u hk _ _ => by rw [Below.heap_alloc _ _ _ (lt_heap hk)]; exact hk⟩
theorem drew (h : Stays B x a b) : Stays B x a b.drew := ⟨h.os, h.tape, h.output, h.size, h.block⟩
theorem setCell (h : Stays B x a b) {p : Addr} (hp : a.heap.size ≤ p.block) (v : Value) : Stays B x a (b.setCell p v) :=
  ⟨h.os, h.tape, h.output, by have := h.size; simp [World.setCell]; exact this, fun k o hk hl hx => by
    have := lt_heap hk
    rw [Below.heap_setCell _ _ _ _ (by omega)]
    exact h.block k o hk hl hx⟩
theorem below {n : Nat} (h : Stays B x a b) (k : Below n b c) (hn : a.heap.size ≤ n) : Stays B x a c :=
  ⟨k.os.trans h.os, k.tape.trans h.tape, k.output.trans h.output, Nat.le_trans h.size k.size, fun i o hi hl hx => by
    have := lt_heap hi
    rw [k.block i (by omega)]; exact h.block i o hi hl hx⟩
theorem grown {row : Option Nat} (h : Stays B x a b) (hg : b.grownBy c row) (hr : ∀ k, row = some k → a.heap.size ≤ k ∨ x = some k) : Stays B x a c :=
  ⟨hg.os.trans h.os, hg.tape.trans h.tape, hg.output.trans h.output, Nat.le_trans h.size hg.size, fun k o hk hl hx => by
    have hlt := lt_heap hk
    rw [hg.block k (Nat.lt_of_lt_of_le hlt h.size) (fun e => by rcases hr k e.symm with h1 | h1; · omega
                                                                · exact hx h1.symm)]
    exact h.block k o hk hl hx⟩
end Stays

/-- local memory alone was written: behind block g, and no row of diagnostics -/
structure Locals (g : Nat) (w w' : World) : Prop where
  size : w.heap.size ≤ w'.heap.size
  block : ∀ k o, w.heap[k]? = some o → (k ≤ g ∨ ∃ c fz, o = .cells c 33 fz) → w'.heap[k]? = some o

namespace Locals
variable {g : Nat} {a b c : World}
theorem refl (g : Nat) (w : World) : Locals g w w := ⟨Nat.le_refl _, fun _ _ h _ => h⟩
theorem trans (h : Locals g a b) (k : Locals g b c) : Locals g a c := ⟨Nat.le_trans h.size k.size, fun i o hi hl => k.block i o (h.block i o hi hl) hl⟩
theorem alloc (h : Locals g a b) (o : Obj) : Locals g a (b.alloc o) :=
  h.trans ⟨by simp, fun k u hk _ => by rw [Below.heap_alloc _ _ _ (lt_heap hk)]; exact hk⟩
theorem drew (h : Locals g a b) : Locals g a b.drew := ⟨h.size, h.block⟩
theorem below {n : Nat} (h : Locals g a b) (k : Below n b c) (hn : b.heap.size ≤ n) : Locals g a c :=
  h.trans ⟨k.size, fun i o hi _ => by have := lt_heap hi; rw [k.block i (by omega)]; exact hi⟩
theorem setCell (h : Locals g a b) {p : Addr} {cs : Array Value} {t : TypeId} {fz : Nat × Nat} (hp : b.heap[p.block]? = some (.cells cs t fz)) (ht : t ≠ 33) (hg : g < p.block) (v : Value) : Locals g a (b.setCell p v) :=
  h.trans ⟨by simp [World.setCell], fun k o hk hl => by
    rw [Below.heap_setCell _ _ _ _ ?_]
    · exact hk
    · rintro rfl
      rcases hl with hl | ⟨c1, f1, rfl⟩
      · omega
      · rw [hk] at hp
        cases hp
        exact ht rfl⟩
theorem grown {row : Option Nat} (h : Locals g a b) (hg : b.grownBy c row) (hr : ∀ k, row = some k → g < k ∧ ∀ cs t fz, b.heap[k]? = some (.cells cs t fz) → t ≠ 33) : Locals g a c :=
  h.trans ⟨hg.size, fun k o hk hl => by
    rw [hg.block k (lt_heap hk) ?_]
    · exact hk
    · intro e
      obtain ⟨h1, h2⟩ := hr k e.symm
      rcases hl with hl | ⟨c1, f1, rfl⟩
      · omega
      · exact h2 _ _ _ hk rfl⟩
end Locals

/-- the cells of the diagnostics -/
def diagCells (l : List D) : List Value := l.flatMap fun d => [.int .i64 d.err, .int .i64 d.off]
/-- a diagnostic as a panic's value -/
def diagI (d : D) : Value := .iface 33 (.agg #[.int .i64 d.err, .int .i64 d.off])

/-- a token that the lexer can yield -/
structure TokOk (t : Lx.Tok) : Prop where
  ne : t.text ≠ []
  len : t.text.length ≤ 4000
  off : t.off ≤ 4000
  num : t.kind = 2 → t.text.length ≤ 9 ∧ ∀ c ∈ t.text, Lx.digitU c = true

/-- the tokens of a slice, below block g -/
def ToksAt (g : Nat) (w : World) (a : Option Addr) (ts : List Lx.Tok) : Prop :=
  ts = [] ∨ ∃ b o cur fz, a = some ⟨b, o, none⟩ ∧ b < g ∧ w.heap[b]? = some (.cells cur 53 fz) ∧ ∀ j u, (toksCells ts)[j]? = some u → cur[o + j]? = some u

/-- the key words' map, below block g -/
def KeysAt (g : Nat) (w : World) (m : Nat) : Prop :=
  m < g ∧ ∃ es k, w.heap[m]? = some (.map es k) ∧ ∀ (W : World) (s : ByteArray), W.heap[m]? = some (.map es k) → s.size ≤ maxLen → (Instr.lookup 64 (.map (some m)) (.string s) false).run Tryz.prog W = .ok (.bool (Px.isKey s.data.toList)) W

structure StOk (E : Nat) (s : St) : Prop where
  toks : ∀ t ∈ s.toks, TokOk t
  len : s.toks.length ≤ 1500
  diags : s.diags.length ≤ 20
  fin : E ≤ 4000
  br : 0 ≤ s.braces ∧ s.braces ≤ 1

/-- block g is a reader -/
def RdAt (B E g : Nat) (w : World) (s : St) : Prop :=
  ∃ (ta : Option Addr) (tc km : Nat) (dv : Value), B ≤ g ∧
    w.heap[g]? = some (.cells #[.slice ta s.toks.length tc, .int .i64 E, .map (some km), .int .i64 s.braces, dv] 66 (0, 0)) ∧
    ToksAt g w ta s.toks ∧ KeysAt g w km ∧ w.ownsRow B 33 2 dv s.diags.length (diagCells s.diags) ∧ StOk E s ∧ s.toks.length ≤ tc ∧ tc ≤ maxLen

theorem ownsRow_obj {w w' : World} {B : Nat} {e : TypeId} {size : Nat} {v : Value} {n : Nat} {xs : List Value} (h : w.ownsRow B e size v n xs)
    (hb : ∀ k c, v.ownBlock = some k → w.heap[k]? = some (.cells c e (0, 0)) → w'.heap[k]? = some (.cells c e (0, 0))) : w'.ownsRow B e size v n xs := by
  refine ⟨h.1, ?_⟩
  rcases h.2 with hn | ⟨g, cap, cur, rfl, hB, hg, rest⟩
  · exact .inl hn
  · exact .inr ⟨g, cap, cur, rfl, hB, hb g cur rfl hg, rest⟩

theorem RdAt.locals {B E g : Nat} {w w' : World} {s : St} (h : RdAt B E g w s) (k : Locals g w w') : RdAt B E g w' s := by
  obtain ⟨ta, tc, km, dv, hB, hg, ht, ⟨hkm, es, ck, hk, hl⟩, hd, ho, h1, h2⟩ := h
  refine ⟨ta, tc, km, dv, hB, k.block _ _ hg (.inl (Nat.le_refl _)), ?_, ⟨hkm, es, ck, k.block _ _ hk (.inl (by omega)), hl⟩, ?_, ho, h1, h2⟩
  · rcases ht with h0 | ⟨b, o, cur, fz, ha, hb, hc, hr⟩
    · exact .inl h0
    · exact .inr ⟨b, o, cur, fz, ha, hb, k.block _ _ hc (.inl (by omega)), hr⟩
  · exact ownsRow_obj hd (fun i c _ hi => k.block _ _ hi (.inr ⟨_, _, rfl⟩))

theorem RdAt.ok {B E g : Nat} {w : World} {s : St} (h : RdAt B E g w s) : StOk E s := by
  obtain ⟨ta, tc, km, dv, hB, hg, ht, hk, hd, ho, h1, h2⟩ := h
  exact ho
theorem RdAt.lt {B E g : Nat} {w : World} {s : St} (h : RdAt B E g w s) : g < w.heap.size := by
  obtain ⟨ta, tc, km, dv, hB, hg, ht, hk, hd, ho, h1, h2⟩ := h
  exact lt_heap hg
theorem RdAt.le {B E g : Nat} {w : World} {s : St} (h : RdAt B E g w s) : B ≤ g := h.elim fun _ h => h.elim fun _ h => h.elim fun _ h => h.elim fun _ h => h.1

/-- the cells of a tree whose kids lie in a slice -/
def nodeCells (t : T) (kv : Value) : List Value :=
  [.int .i64 t.kind, .string ⟨t.name.toArray⟩, .string ⟨t.other.toArray⟩, .int .i64 t.n, .int .i64 t.len, .int .i64 t.init, .bool t.ghost, kv, .int .i64 t.off]
/-- .. as a value -/
def nodeVal (t : T) (kv : Value) : Value :=
  .agg #[.int .i64 t.kind, .string ⟨t.name.toArray⟩, .string ⟨t.other.toArray⟩, .int .i64 t.n, .int .i64 t.len, .int .i64 t.init, .bool t.ghost, kv, .int .i64 t.off]

mutual
/-- the kids of a tree, in rows whose blocks are among S -/
def Kids (S : Nat → Prop) (w : World) : T → Value → Prop
  | .mk _ _ _ _ _ _ _ kids _, kv => ∃ xs, w.ownsRow 0 25 9 kv kids.length xs ∧ (∀ b, kv.ownBlock = some b → S b) ∧ Nodes S w kids xs
def Nodes (S : Nat → Prop) (w : World) : List T → List Value → Prop
  | [], xs => xs = []
  | t :: r, xs => ∃ kv rest, xs = nodeCells t kv ++ rest ∧ Kids S w t kv ∧ Nodes S w r rest
end
/-- a row of trees -/
def Row (S : Nat → Prop) (w : World) (l : List T) (kv : Value) : Prop := ∃ xs, w.ownsRow 0 25 9 kv l.length xs ∧ (∀ b, kv.ownBlock = some b → S b) ∧ Nodes S w l xs
theorem kids_iff (S : Nat → Prop) (w : World) (t : T) (kv : Value) : Kids S w t kv ↔ Row S w t.kids kv := by
  cases t
  rw [Kids]
  rfl

mutual
theorem Kids.keep {S S' : Nat → Prop} {w w' : World} (hS : ∀ b, S b → b < w.heap.size → S' b) (hw : ∀ b c, S b → w.heap[b]? = some (.cells c 25 (0, 0)) → w'.heap[b]? = some (.cells c 25 (0, 0))) : ∀ (t : T) (kv : Value), Kids S w t kv → Kids S' w' t kv
  | .mk _ _ _ _ _ _ _ kids _, kv, h => by
    rw [Kids] at h ⊢
    obtain ⟨xs, h1, h2, h3⟩ := h
    exact ⟨xs, ownsRow_obj h1 (fun k c hk hc => hw k c (h2 k hk) hc), fun b hb => hS b (h2 b hb) (h1.lt b hb).2, Nodes.keep hS hw kids xs h3⟩
theorem Nodes.keep {S S' : Nat → Prop} {w w' : World} (hS : ∀ b, S b → b < w.heap.size → S' b) (hw : ∀ b c, S b → w.heap[b]? = some (.cells c 25 (0, 0)) → w'.heap[b]? = some (.cells c 25 (0, 0))) : ∀ (l : List T) (xs : List Value), Nodes S w l xs → Nodes S' w' l xs
  | [], xs, h => by rw [Nodes] at h ⊢; exact h
  | t :: r, xs, h => by
    rw [Nodes] at h ⊢
    obtain ⟨kv, rest, h1, h2, h3⟩ := h
    exact ⟨kv, rest, h1, Kids.keep hS hw t kv h2, Nodes.keep hS hw r rest h3⟩
end
theorem Row.keep {S S' : Nat → Prop} {w w' : World} {l : List T} {kv : Value} (h : Row S w l kv) (hS : ∀ b, S b → b < w.heap.size → S' b)
    (hw : ∀ b c, S b → w.heap[b]? = some (.cells c 25 (0, 0)) → w'.heap[b]? = some (.cells c 25 (0, 0))) : Row S' w' l kv := by
  obtain ⟨xs, h1, h2, h3⟩ := h
  exact ⟨xs, ownsRow_obj h1 (fun k c hk hc => hw k c (h2 k hk) hc), fun b hb => hS b (h2 b hb) (h1.lt b hb).2, Nodes.keep hS hw l xs h3⟩

/-- what a reader's call says, whatever its result's kind -/
def Says {α : Type} (B E g : Nat) (w : World) (Enc : World → α → Value → Prop) (r : Res α) (e : Ending) (w' : World) : Prop :=
  Stays B none w w' ∧ match r with
  | .ok a s => ∃ v, e = .returned v ∧ Enc w' a v ∧ RdAt B E g w' s
  | .bad d s => e = .panicked [{ v := diagI d, recovered := false }] ∧ RdAt B E g w' s

theorem Says.cases {α : Type} {B E g : Nat} {w : World} {Enc : World → α → Value → Prop} {r : Res α} {e : Ending} {w' : World} (h : Says B E g w Enc r e w') {G : Prop}
    (h1 : ∀ a s v, r = .ok a s → e = .returned v → Enc w' a v → RdAt B E g w' s → Stays B none w w' → G)
    (h2 : ∀ d s, r = .bad d s → e = .panicked [{ v := diagI d, recovered := false }] → RdAt B E g w' s → Stays B none w w' → G) : G := by
  obtain ⟨hs, h⟩ := h
  cases r with
  | ok a s => obtain ⟨v, he, hv, hr⟩ := h; exact h1 a s v rfl he hv hr hs
  | bad d s => obtain ⟨he, hr⟩ := h; exact h2 d s rfl he hr hs
theorem Says.ok {α : Type} {B E g : Nat} {w : World} {Enc : World → α → Value → Prop} {r : Res α} {a : α} {s : St} {v : Value} {w' : World} (hr : r = .ok a s) (hs : Stays B none w w') (hv : Enc w' a v) (h : RdAt B E g w' s) : Says B E g w Enc r (.returned v) w' := by
  subst hr
  exact ⟨hs, v, rfl, hv, h⟩
theorem Says.bad {α : Type} {B E g : Nat} {w : World} {Enc : World → α → Value → Prop} {r : Res α} {d : D} {s : St} {w' : World} (hr : r = .bad d s) (hs : Stays B none w w') (h : RdAt B E g w' s) : Says B E g w Enc r (.panicked [{ v := diagI d, recovered := false }]) w' := by
  subst hr
  exact ⟨hs, rfl, h⟩
/-- encodings -/
def encU : World → Unit → Value → Prop := fun _ _ v => v = .tuple #[]
def encS : World → Px.Str → Value → Prop := fun _ a v => v = .string ⟨a.toArray⟩
def encI : World → Int → Value → Prop := fun _ a v => v = .int .i64 a
def encT (n : Nat) : World → T → Value → Prop := fun w t v => ∃ a cap, v = nodeVal t (.slice a t.kids.length cap) ∧ Row (fun b => n ≤ b) w t.kids (.slice a t.kids.length cap)
end Go.Proofs.YtbgpboiblggmiaaGreatDoor

/-
  Walks over the reader's smallest methods: ended, peek, take, wrong, accept, expect.
-/
namespace Go.Proofs.YtbgpboiblggmiaaGreatDoor
open Go.RowKit
open Px (St T D Res)

theorem cell_of_obj {w : World} {b : Nat} {cs : Array Value} {t : TypeId} {fz : Nat × Nat} (h : w.heap[b]? = some (.cells cs t fz)) (o : Nat) : w.cell? ⟨b, o, none⟩ = cs[o]? := by
  simp [World.cell?, h]
theorem frozen_of_obj {w : World} {b : Nat} {cs : Array Value} {t : TypeId} (h : w.heap[b]? = some (.cells cs t (0, 0))) (o : Nat) : w.frozen? ⟨b, o, none⟩ = false := by
  simp [World.frozen?, h]

/-- block k is a variable, or a row, of type t -/
def IsVar (w : World) (k : Nat) (t : TypeId) : Prop := ∃ cs fz, w.heap[k]? = some (.cells cs t fz)
theorem IsVar.of {w : World} {k : Nat} {t : TypeId} {cs : Array Value} {fz : Nat × Nat} (h : w.heap[k]? = some (.cells cs t fz)) : IsVar w k t := ⟨cs, fz, h⟩
theorem IsVar.setCell {w : World} {k : Nat} {t : TypeId} (h : IsVar w k t) (a : Addr) (v : Value) : IsVar (w.setCell a v) k t := by
  obtain ⟨cs, fz, h⟩ := h
  by_cases e : k = a.block
  · subst e
    refine ⟨if a.spot.isSome then cs else cs.setIfInBounds a.off v, fz, ?_⟩
    simp only [World.setCell, Array.getElem?_modify, h]
    simp
  · exact ⟨cs, fz, by rw [Below.heap_setCell _ _ _ _ e]; exact h⟩
theorem IsVar.alloc {w : World} {k : Nat} {t : TypeId} (h : IsVar w k t) (o : Obj) : IsVar (w.alloc o) k t := by
  obtain ⟨cs, fz, h⟩ := h
  exact ⟨cs, fz, by rw [Below.heap_alloc _ _ _ (lt_heap h)]; exact h⟩
theorem IsVar.new (w : World) (cs : Array Value) (t : TypeId) (fz : Nat × Nat) : IsVar (w.alloc (.cells cs t fz)) w.heap.size t := ⟨cs, fz, by show (w.heap.push _)[w.heap.size]? = _; simp⟩
theorem Locals.setVar {g : Nat} {a b : World} (h : Locals g a b) {p : Addr} {t : TypeId} (hv : IsVar b p.block t) (ht : t ≠ 33) (hg : g < p.block) (v : Value) : Locals g a (b.setCell p v) := by
  obtain ⟨cs, fz, hp⟩ := hv
  exact h.setCell hp ht hg v
theorem Locals.setVarT {g : Nat} {a b : World} {p : Addr} (h : Locals g a b) (hv : IsVar b p.block 53) (hg : g < p.block) (v : Value) : Locals g a (b.setCell p v) := h.setVar hv (by decide) hg v
theorem Stays.setRd {B : Nat} {x : Option Nat} {a b : World} {p : Addr} {cs : Array Value} {fz : Nat × Nat} (h : Stays B x a b) (ha : a.heap[p.block]? = some (.cells cs 66 fz)) (hB : B ≤ p.block) (v : Value) : Stays B x a (b.setCell p v) :=
  ⟨h.os, h.tape, h.output, by have := h.size; simp [World.setCell]; exact this, fun k o hk hl hx => by
    rw [Below.heap_setCell _ _ _ _ ?_]
    · exact h.block k o hk hl hx
    · rintro rfl
      rw [ha] at hk
      cases hk
      rcases hl with hl | hl
      · omega
      · simp [loose] at hl⟩

/-- a token as a value -/
def tokVal (t : Lx.Tok) : Value := .agg #[.int .i64 t.kind, .string ⟨t.text.toArray⟩, .int .i64 t.off]

set_option maxRecDepth 100000 in
set_option maxHeartbeats 400000 in
theorem ended_any {B E g : Nat} {w : World} {s : St} (h : RdAt B E g w s) :
    Calls Tryz.prog 52 #[.pointer (some ⟨g, 0, none⟩)] w fun e w' => e = .returned (.bool s.toks.isEmpty) ∧ w = w' := by
  obtain ⟨ta, tc, km, dv, hB, hg, ht, hk, hd, ho, h1, h2⟩ := h
  have c0 : w.cell? ⟨g, 0, none⟩ = some (.slice ta s.toks.length tc) := cell_of_obj hg 0
  have hl := ho.len
  clear hg ht hk hd ho
  go_enter Tryz.func52, Tryz.ntmps52
  go_wp2
  go_ret
  exact ⟨ret_bool (by cases s.toks <;> simp <;> omega), rfl⟩


theorem toks_head {g : Nat} {w : World} {a : Option Addr} {t : Lx.Tok} {r : List Lx.Tok} (h : ToksAt g w a (t :: r)) :
    ∃ b o, a = some ⟨b, o, none⟩ ∧ b < g ∧ b < w.heap.size ∧ w.cell? ⟨b, o, none⟩ = some (.int .i64 t.kind) ∧ w.cell? ⟨b, o + 1, none⟩ = some (.string ⟨t.text.toArray⟩) ∧ w.cell? ⟨b, o + 2, none⟩ = some (.int .i64 t.off) ∧ ToksAt g w (some ⟨b, o + 3, none⟩) r := by
  rcases h with h | ⟨b, o, cur, fz, rfl, hb, hc, hr⟩
  · cases h
  have hx : ∀ j u, (tokCells t ++ toksCells r)[j]? = some u → cur[o + j]? = some u := hr
  refine ⟨b, o, rfl, hb, lt_heap hc, ?_, ?_, ?_, .inr ⟨b, o + 3, cur, fz, rfl, hb, hc, fun j u hu => ?_⟩⟩
  · rw [cell_of_obj hc]; exact hx 0 _ rfl
  · rw [cell_of_obj hc]; exact hx 1 _ rfl
  · rw [cell_of_obj hc]; exact hx 2 _ rfl
  · rw [Nat.add_assoc]
    refine hx (3 + j) u ?_
    rw [List.getElem?_append_right (by simp [tokCells])]
    rw [show 3 + j - (tokCells t).length = j from by simp [tokCells]]
    exact hu

set_option maxRecDepth 100000 in
set_option maxHeartbeats 400000 in
theorem peek_any {B E g : Nat} {w : World} {s : St} (h : RdAt B E g w s) :
    Calls Tryz.prog 86 #[.pointer (some ⟨g, 0, none⟩)] w fun e w' => e = .returned (tokVal (Px.peek E s)) ∧ Below w.heap.size w w' := by
  obtain ⟨R, hR⟩ : ∃ R, R = Px.peek E s := ⟨_, rfl⟩
  have HR := Lib.hid hR
  rw [← hR]
  clear hR
  have H := Lib.hid h
  obtain ⟨ta, tc, km, dv, hB, hg, ht, hk, hd, ho, h1, h2⟩ := h
  have hlt := lt_heap hg
  have c0 : w.cell? ⟨g, 0, none⟩ = some (.slice ta s.toks.length tc) := cell_of_obj hg 0
  have c1 : w.cell? ⟨g, 1, none⟩ = some (.int .i64 E) := cell_of_obj hg 1
  have hl := ho.len
  clear hg hk hd ho
  have Hb := Lib.hid (fun T : Array Value => (Below.refl w.heap.size w).alloc (Nat.le_refl _) (.cells T 53))
  cases hs : s.toks with
  | nil =>
    have he : s.toks.isEmpty = true := by rw [hs]; rfl
    have HR2 := Lib.hid (show R = ⟨0, [], E⟩ by rw [HR.out]; unfold Px.peek; rw [hs])
    rw [hs] at c0 hl
    clear hs ht
    go_enter Tryz.func86, Tryz.ntmps86
    go_wp2_with (go_at_call 52; refine (ended_any (H.out.locals ((Locals.refl _ _).alloc _))).mono ?_; rintro e w1 ⟨rfl, rfl⟩)
    refine bodyPost_ret (v := tokVal R) ?_ rfl ⟨rfl, Hb.out _⟩
    rw [HR2.out]
    simp [results, Tryz.results86, go_sem, tokVal]
  | cons t r =>
    have he : s.toks.isEmpty = false := by rw [hs]; rfl
    have HR2 := Lib.hid (show R = t by rw [HR.out]; unfold Px.peek; rw [hs])
    rw [hs] at ht c0 hl
    obtain ⟨b, o, rfl, hb, hb', c2, c3, c4, -⟩ := toks_head ht
    have hlen : (t :: r).length = r.length + 1 := rfl
    rw [hlen] at c0 hl
    clear hs ht hlen
    go_enter Tryz.func86, Tryz.ntmps86
    go_wp2_with (go_at_call 52; refine (ended_any (H.out.locals ((Locals.refl _ _).alloc _))).mono ?_; rintro e w1 ⟨rfl, rfl⟩)
    refine bodyPost_ret (v := tokVal R) ?_ rfl ⟨rfl, Hb.out _⟩
    rw [HR2.out]
    simp [results, Tryz.results86, go_sem, tokVal]

theorem heap_setCell_same {w : World} {g : Nat} {cs : Array Value} {t : TypeId} {fz : Nat × Nat} (h : w.heap[g]? = some (.cells cs t fz)) (o : Nat) (v : Value) : (w.setCell ⟨g, o, none⟩ v).heap[g]? = some (.cells (cs.setIfInBounds o v) t fz) := by
  simp only [World.setCell, Array.getElem?_modify, h]
  simp

theorem obj_new (w : World) (o : Obj) : (w.alloc o).heap[w.heap.size]? = some o := by
  show (w.heap.push o)[w.heap.size]? = _
  simp
theorem obj_old {w : World} {k : Nat} {o : Obj} (h : w.heap[k]? = some o) (u : Obj) : (w.alloc u).heap[k]? = some o := by
  rw [Below.heap_alloc _ _ _ (lt_heap h)]; exact h
theorem obj_below {w w' : World} {n k : Nat} {o : Obj} (hb : Below n w w') (h : w.heap[k]? = some o) (hk : k < n) : w'.heap[k]? = some o := (hb.block k hk).trans h
/-- what is known of the cells of a block -/
theorem obj_facts {w : World} {b : Nat} {cs : Array Value} {t : TypeId} (h : w.heap[b]? = some (.cells cs t (0, 0))) : (∀ o, w.cell? ⟨b, o, none⟩ = cs[o]?) ∧ (∀ o, w.frozen? ⟨b, o, none⟩ = false) := ⟨cell_of_obj h, frozen_of_obj h⟩

theorem obj_row_same {w : World} {b : Nat} {c : Array Value} {t : TypeId} {fz : Nat × Nat} (h : w.heap[b]? = some (.cells c t fz)) (cs : Array Value) : (w.setRow b cs).heap[b]? = some (.cells cs t fz) := by
  simp only [World.setRow, Array.getElem?_modify, h]
  simp
theorem obj_row_other {w : World} {b g : Nat} {o : Obj} (h : w.heap[b]? = some o) (hne : b ≠ g) (cs : Array Value) : (w.setRow g cs).heap[b]? = some o := by
  simp only [World.setRow, Array.getElem?_modify]
  rw [if_neg (by omega)]
  exact h
theorem obj_cell_other {w : World} {b : Nat} {p : Addr} {o : Obj} (h : w.heap[b]? = some o) (hne : b ≠ p.block) (v : Value) : (w.setCell p v).heap[b]? = some o := by
  rw [Below.heap_setCell _ _ _ _ hne]; exact h
theorem obj_cell_same {w : World} {b i : Nat} {c : Array Value} {t : TypeId} {fz : Nat × Nat} (h : w.heap[b]? = some (.cells c t fz)) (v : Value) : (w.setCell ⟨b, i, none⟩ v).heap[b]? = some (.cells (c.setIfInBounds i v) t fz) := by
  simp only [World.setCell, Array.getElem?_modify, h]
  simp
theorem RdAt.obj {B E g : Nat} {w : World} {s : St} (h : RdAt B E g w s) : B ≤ g ∧ ∃ cs, w.heap[g]? = some (.cells cs 66 (0, 0)) := by
  obtain ⟨ta, tc, km, dv, hB, hg, _⟩ := h
  exact ⟨hB, _, hg⟩
theorem RdAt.taken {B E g : Nat} {w : World} {s : St} (h : RdAt B E g w s) {t : Lx.Tok} {r : List Lx.Tok} (hs : s.toks = t :: r) :
    ∃ b o tc, w.cell? ⟨g, 0, none⟩ = some (.slice (some ⟨b, o, none⟩) (r.length + 1) tc) ∧ w.frozen? ⟨g, 0, none⟩ = false ∧ r.length + 1 ≤ tc ∧ tc ≤ maxLen ∧ r.length + 1 ≤ 1500 ∧
      ∀ w' na, Locals g w w' → (r ≠ [] → na = some ⟨b, o + 3, none⟩) → RdAt B E g (w'.setCell ⟨g, 0, none⟩ (.slice na r.length (tc - 1))) (Px.rest s) := by
  obtain ⟨ta, tc, km, dv, hB, hg, ht, ⟨hkm, es, ck, hk, hl⟩, hd, ho, h1, h2⟩ := h
  rw [hs] at ht h1
  obtain ⟨b, o, rfl, hb, hb', -, -, -, htr⟩ := toks_head ht
  have ho' := ho.len
  rw [hs] at ho'
  simp only [List.length_cons] at h1 ho'
  refine ⟨b, o, tc, ?_, frozen_of_obj hg 0, h1, h2, ho', fun w' na hL hna => ?_⟩
  · rw [cell_of_obj hg, hs]; rfl
  · have hr : (Px.rest s).toks = r := by unfold Px.rest; rw [hs]; rfl
    have hgs := hL.block _ _ hg (.inl (Nat.le_refl _))
    have hblk : ∀ k u, w.heap[k]? = some u → (k < g ∨ ∃ c fz, u = .cells c 33 fz) → (w'.setCell ⟨g, 0, none⟩ (.slice na r.length (tc - 1))).heap[k]? = some u := by
      intro k u hk hor
      rw [Below.heap_setCell]
      · exact hL.block _ _ hk (by rcases hor with h | h; · exact .inl (by omega)
                                  · exact .inr h)
      · rintro rfl
        rcases hor with h | ⟨c, fz, rfl⟩
        · exact absurd h (Nat.lt_irrefl _)
        · rw [hg] at hk; cases hk
    refine ⟨na, tc - 1, km, dv, hB, ?_, ?_, ⟨hkm, es, ck, hblk _ _ hk (.inl hkm), hl⟩, ?_, ⟨?_, ?_, ho.diags, ho.fin, ho.br⟩, ?_, ?_⟩
    · rw [heap_setCell_same hgs, hr]; rfl
    · rw [hr]
      rcases htr with h0 | ⟨b1, o1, cur, fz, ha, hb1, hc, hx⟩
      · exact .inl h0
      · cases ha
        by_cases hr0 : r = []
        · exact .inl hr0
        · exact .inr ⟨b, o + 3, cur, fz, hna hr0, hb1, hblk _ _ hc (.inl hb1), hx⟩
    · exact ownsRow_obj hd (fun k c _ hi => hblk _ _ hi (.inr ⟨_, _, rfl⟩))
    · intro u hu; rw [hr] at hu; exact ho.toks u (by rw [hs]; exact List.mem_cons_of_mem _ hu)
    · rw [hr]; omega
    · rw [hr]; omega
    · omega

set_option maxRecDepth 100000 in
set_option maxHeartbeats 400000 in
theorem take_any {B E g : Nat} {w : World} {s : St} (h : RdAt B E g w s) {t : Lx.Tok} {r : List Lx.Tok} (hs : s.toks = t :: r) :
    Calls Tryz.prog 99 #[.pointer (some ⟨g, 0, none⟩)] w fun e w' => e = .returned (tokVal t) ∧ Stays B none w w' ∧ RdAt B E g w' (Px.rest s) := by
  have H := Lib.hid h
  have Hp := Lib.hid (show Px.peek E s = t by unfold Px.peek; rw [hs])
  have hlt := h.lt
  obtain ⟨hB, cs0, hg⟩ := h.obj
  obtain ⟨b, o, tc, c0, f0, h1', h2, h3, hK⟩ := h.taken hs
  have HK := Lib.hid hK
  clear hK hs
  go_enter Tryz.func99, Tryz.ntmps99
  go_wp2_with fail
  refine (peek_any (H.out.locals ((Locals.refl _ _).alloc _))).mono ?_
  rintro e w1 ⟨rfl, hb⟩
  rw [Hp.out]
  unfold tokVal
  obtain ⟨hc, hf⟩ := bcell hb
  have c1 : w1.cell? ⟨g, 0, none⟩ = some (.slice (some ⟨b, o, none⟩) (r.length + 1) tc) := by rw [hc g 0 (by simp; omega), World.cell?_alloc_past _ _ _ hlt]; exact c0
  have f1 : w1.frozen? ⟨g, 0, none⟩ = false := by rw [hf g 0 (by simp; omega), World.frozen?_alloc_old _ _ _ (by simp; omega)]; exact f0
  have hL1 := ((Locals.refl g w).alloc (.cells #[.int .i64 0, .string ByteArray.empty, .int .i64 0] 53)).below hb (Nat.le_refl _)
  have hS1 := ((Stays.refl B none w).alloc (.cells #[.int .i64 0, .string ByteArray.empty, .int .i64 0] 53)).below hb (by simp)
  have hlt1 : w.heap.size < w1.heap.size := by have := hb.size; simp at this; omega
  have hg1 : g < w1.heap.size := by omega
  obtain ⟨q0, q1⟩ := obj_facts (obj_below hb (obj_new _ _) (by simp))
  have HL1 := Lib.hid hL1
  have HS1 := Lib.hid hS1
  have Hq := Lib.hid (obj_below hb (obj_new _ _) (by simp))
  have hv0 : IsVar w1 w.heap.size 53 := .of (obj_below hb (obj_new _ _) (by simp))
  clear hb hc hf hL1 hS1
  by_cases h1 : tc = 1
  · have hr : r = [] := List.eq_nil_of_length_eq_zero (by omega)
    subst h1
    subst hr
    have HK1 := Lib.hid (show RdAt B E g (w1.setCell ⟨g, 0, none⟩ (.slice (some ⟨b, o, none⟩) 0 0)) (Px.rest s) from HK.out w1 (some ⟨b, o, none⟩) HL1.out (fun h => absurd rfl h))
    go_wp2_with fail
    refine bodyPost_ret (v := tokVal t) ?_ rfl ⟨rfl, ?_, ?_⟩
    · refine results_cell_row (fr := (0, 0)) (by rfl) _ _ w.heap.size 53 _ _ (by rfl) (obj_old (obj_cell_same (obj_cell_same (obj_cell_same (obj_cell_other Hq.out (by simp; omega) _) _) _) _) _) Tryz.underlying53 rfl (by kernel_rfl)
    · (repeat (first | with_reducible exact HS.out | with_reducible refine Stays.alloc ?_ _ | (with_reducible refine Stays.setCell ?_ ?_ _; rotate_left; (focus (first | with_reducible exact Nat.le_refl _ | with_reducible assumption | omega | (simp; omega)))) | with_reducible exact Stays.refl _ _ _))
      exact Stays.setRd HS1.out hg hB _
    · refine HK1.out.locals ?_
      (repeat (first | with_reducible exact HL.out | with_reducible refine Locals.alloc ?_ _ | (with_reducible refine Locals.setVarT ?_ ?_ ?_ _; rotate_left; (focus ((repeat (first | with_reducible assumption | with_reducible refine IsVar.setCell ?_ _ _ | with_reducible refine IsVar.alloc ?_ _ | with_reducible exact IsVar.new _ _ _ _)); done)); (focus (first | with_reducible exact Nat.le_refl _ | with_reducible assumption | omega | (simp; omega)))) | with_reducible exact Locals.refl _ _))
  · go_wp2_with fail
    refine bodyPost_ret (v := tokVal t) ?_ rfl ⟨rfl, ?_, ?_⟩
    · refine results_cell_row (fr := (0, 0)) (by rfl) _ _ w.heap.size 53 _ _ (by rfl) (obj_old (obj_cell_same (obj_cell_same (obj_cell_same (obj_cell_other Hq.out (by simp; omega) _) _) _) _) _) Tryz.underlying53 rfl (by kernel_rfl)
    · (repeat (first | with_reducible exact HS.out | with_reducible refine Stays.alloc ?_ _ | (with_reducible refine Stays.setCell ?_ ?_ _; rotate_left; (focus (first | with_reducible exact Nat.le_refl _ | with_reducible assumption | omega | (simp; omega)))) | with_reducible exact Stays.refl _ _ _))
      exact Stays.setRd HS1.out hg hB _
    · refine (HK.out w1 _ HL1.out (fun _ => rfl)).locals ?_
      (repeat (first | with_reducible exact HL.out | with_reducible refine Locals.alloc ?_ _ | (with_reducible refine Locals.setVarT ?_ ?_ ?_ _; rotate_left; (focus ((repeat (first | with_reducible assumption | with_reducible refine IsVar.setCell ?_ _ _ | with_reducible refine IsVar.alloc ?_ _ | with_reducible exact IsVar.new _ _ _ _)); done)); (focus (first | with_reducible exact Nat.le_refl _ | with_reducible assumption | omega | (simp; omega)))) | with_reducible exact Locals.refl _ _))

/-- the fields of a token's value -/
theorem tokF0 (a b c : Value) (w : World) : (Instr.field 53 (.agg #[a, b, c]) 0).run Tryz.prog w = .ok a w := by kernel_rfl
theorem tokF1 (a b c : Value) (w : World) : (Instr.field 53 (.agg #[a, b, c]) 1).run Tryz.prog w = .ok b w := by kernel_rfl
theorem tokF2 (a b c : Value) (w : World) : (Instr.field 53 (.agg #[a, b, c]) 2).run Tryz.prog w = .ok c w := by kernel_rfl
theorem post_panic {P : Program} {fn : Func} {R : Ending → World → Prop} {a : Act} {w : World} {ch : List PanicEntry} (h : a.defers = []) (hR : R (.panicked ch) w) : bodyPost P fn R (.panic ch) a w := ⟨h, hR⟩
theorem RdAt.of_below {B E g n : Nat} {w w' : World} {s : St} (h : RdAt B E g w s) (hb : Below n w w') (hn : w.heap.size ≤ n) : RdAt B E g w' s := h.locals ((Locals.refl _ _).below hb hn)

set_option maxRecDepth 100000 in
set_option maxHeartbeats 400000 in
theorem wrong_any {B E g : Nat} {w : World} {s : St} (h : RdAt B E g w s) :
    Calls Tryz.prog 62 #[.pointer (some ⟨g, 0, none⟩)] w fun e w' => e = .panicked [{ v := diagI (Px.wrongD E s), recovered := false }] ∧ Stays B none w w' ∧ RdAt B E g w' s := by
  have H := Lib.hid h
  obtain ⟨R, hR⟩ : ∃ R, R = s.toks.isEmpty := ⟨_, rfl⟩
  have HD := Lib.hid (show Px.wrongD E s = ⟨if R then 21 else 20, Px.offOf E s⟩ by rw [hR]; unfold Px.wrongD; cases s.toks <;> rfl)
  have HR := Lib.hid hR
  clear hR h
  rw [HD.out]
  unfold Px.offOf
  have hF := tokF2
  go_enter Tryz.func62, Tryz.ntmps62
  go_wp2_with fail
  refine (ended_any H.out).mono ?_
  rintro e w1 ⟨rfl, rfl⟩
  rw [← HR.out]
  clear HR
  cases R
  · go_wp2_with fail
    refine (peek_any H.out).mono ?_
    rintro e w1 ⟨rfl, hb⟩
    unfold tokVal
    go_wp2_with fail
    ((try simp only [Exit.inBlock, Exit.then]); refine post_panic rfl ?_)
    exact ⟨by rfl, (Stays.refl _ _ _).below hb (Nat.le_refl _), H.out.of_below hb (Nat.le_refl _)⟩
  · go_wp2_with fail
    refine (peek_any H.out).mono ?_
    rintro e w1 ⟨rfl, hb⟩
    unfold tokVal
    go_wp2_with fail
    ((try simp only [Exit.inBlock, Exit.then]); refine post_panic rfl ?_)
    exact ⟨by rfl, (Stays.refl _ _ _).below hb (Nat.le_refl _), H.out.of_below hb (Nat.le_refl _)⟩

theorem text_ne {a b : List UInt8} (h : a ≠ b) : ¬ ((⟨a.toArray⟩ : ByteArray) = ⟨b.toArray⟩) := by
  intro e
  have := congrArg (fun x => x.data.toList) e
  simp at this
  exact h this
theorem text_beq {a b : List UInt8} (h : a ≠ b) : (a == b) = false := beq_eq_false_iff_ne.2 h

set_option maxRecDepth 100000 in
set_option maxHeartbeats 400000 in
theorem accept_any {B E g : Nat} {w : World} {s : St} (h : RdAt B E g w s) (x : List UInt8) (hx0 : x ≠ []) :
    Calls Tryz.prog 100 #[.pointer (some ⟨g, 0, none⟩), .string ⟨x.toArray⟩] w fun e w' => e = .returned (.bool (Px.accepts E x s)) ∧ Stays B none w w' ∧ RdAt B E g w' (Px.accepted E x s) := by
  have H := Lib.hid h
  have hF := tokF1
  by_cases hx : Px.text E s = x
  · have hac : Px.accepts E x s = true := by unfold Px.accepts; simp [hx]
    have had : Px.accepted E x s = Px.rest s := by unfold Px.accepted; rw [if_pos hac]
    rw [hac, had]
    cases hs : s.toks with
    | nil => exact absurd (show x = [] by rw [← hx]; unfold Px.text Px.peek; rw [hs]) hx0
    | cons t r =>
      have Hp := Lib.hid (show Px.peek E s = ⟨t.kind, x, t.off⟩ by rw [← hx]; unfold Px.text Px.peek; rw [hs])
      have Ht := Lib.hid hs
      clear hs hac had hx h
      go_enter Tryz.func100, Tryz.ntmps100
      go_wp2_with fail
      refine (peek_any H.out).mono ?_
      rintro e w1 ⟨rfl, hb⟩
      rw [Hp.out]
      unfold tokVal
      have H1 := Lib.hid (H.out.of_below hb (Nat.le_refl _))
      have HS := Lib.hid ((Stays.refl B none w).below hb (Nat.le_refl _))
      clear hb
      go_wp2_with fail
      refine (take_any H1.out Ht.out).mono ?_
      rintro e w2 ⟨rfl, hs2, hr2⟩
      unfold tokVal
      have HS2 := Lib.hid hs2
      have HR2 := Lib.hid hr2
      clear hs2 hr2
      go_wp2_with fail
      go_ret
      exact ⟨rfl, HS.out.trans HS2.out, HR2.out⟩
  · have hac : Px.accepts E x s = false := by unfold Px.accepts; simp [hx]
    have had : Px.accepted E x s = s := by unfold Px.accepted; rw [if_neg (by rw [hac]; decide)]
    rw [hac, had]
    have hn := text_ne hx
    have hn2 := text_beq hx
    unfold Px.text at hn hn2
    clear hac had hx h
    go_enter Tryz.func100, Tryz.ntmps100
    go_wp2_with fail
    refine (peek_any H.out).mono ?_
    rintro e w1 ⟨rfl, hb⟩
    unfold tokVal
    have H1 := Lib.hid (H.out.of_below hb (Nat.le_refl _))
    have HS := Lib.hid ((Stays.refl B none w).below hb (Nat.le_refl _))
    clear hb
    go_wp2_with fail
    go_ret
    exact ⟨rfl, HS.out, H1.out⟩

set_option maxRecDepth 100000 in
set_option maxHeartbeats 400000 in
theorem expect_any {B E g : Nat} {w : World} {s : St} (h : RdAt B E g w s) (x : List UInt8) (hx0 : x ≠ []) :
    Calls Tryz.prog 111 #[.pointer (some ⟨g, 0, none⟩), .string ⟨x.toArray⟩] w (Says B E g w encU (Px.expect E x s)) := by
  have H := Lib.hid h
  have Hx0 := Lib.hid hx0
  obtain ⟨R, hR⟩ : ∃ R, R = Px.expect E x s := ⟨_, rfl⟩
  have HR := Lib.hid hR
  rw [← hR]
  clear hR h hx0
  go_enter Tryz.func111, Tryz.ntmps111
  go_wp2_with fail
  refine (accept_any H.out x Hx0.out).mono ?_
  rintro e w1 ⟨rfl, hs, hr⟩
  have HS := Lib.hid hs
  have H1 := Lib.hid hr
  clear hs hr
  cases hac : Px.accepts E x s
  · have HD := Lib.hid (show R = .bad (Px.wrongD E s) s by rw [HR.out]; unfold Px.expect Px.wrong; rw [if_neg (by rw [hac]; decide)])
    have had : Px.accepted E x s = s := by unfold Px.accepted; rw [if_neg (by rw [hac]; decide)]
    rw [had] at H1
    clear had hac
    go_wp2_with fail
    refine (wrong_any H1.out).mono ?_
    rintro e w2 ⟨rfl, hs2, hr2⟩
    go_wp2_with fail
    ((try simp only [Exit.inBlock, Exit.then]); refine post_panic rfl ?_)
    exact Says.bad HD.out (HS.out.trans hs2) hr2
  · have HD := Lib.hid (show R = .ok () (Px.rest s) by rw [HR.out]; unfold Px.expect; rw [if_pos hac])
    have had : Px.accepted E x s = Px.rest s := by unfold Px.accepted; rw [if_pos hac]
    rw [had] at H1
    clear had hac
    go_wp2_with fail
    go_end0
    exact Says.ok HD.out HS.out rfl H1.out
end Go.Proofs.YtbgpboiblggmiaaGreatDoor

/-
  Walks over the reader's methods that take one token: name, number, length; and begin.
-/
namespace Go.Proofs.YtbgpboiblggmiaaGreatDoor
open Go.RowKit
open Px (St T D Res)

theorem RdAt.keys {B E g : Nat} {w : World} {s : St} (h : RdAt B E g w s) : ∃ km, w.cell? ⟨g, 2, none⟩ = some (.map (some km)) ∧ ∀ w', Locals g w w' → ∀ x : ByteArray, x.size ≤ maxLen →
    (Instr.lookup 64 (.map (some km)) (.string x) false).run Tryz.prog w' = .ok (.bool (Px.isKey x.data.toList)) w' := by
  obtain ⟨ta, tc, km, dv, hB, hg, ht, ⟨hkm, es, ck, hk, hl⟩, hd, ho, h1, h2⟩ := h
  exact ⟨km, cell_of_obj hg 2, fun w' hL x hx => hl w' x (hL.block _ _ hk (.inl (by omega))) hx⟩

theorem Locals.drewN {g : Nat} {a b : World} (h : Locals g a b) (n : Nat) : Locals g a (b.drewN n) := ⟨h.size, h.block⟩
theorem Stays.drewN {B : Nat} {x : Option Nat} {a b : World} (h : Stays B x a b) (n : Nat) : Stays B x a (b.drewN n) := ⟨h.os, h.tape, h.output, h.size, h.block⟩
theorem text_len {E : Nat} {s : St} (h : StOk E s) : (Px.peek E s).text.length ≤ 4000 := by
  unfold Px.peek
  cases hs : s.toks with
  | nil => simp
  | cons t r => exact (h.toks t (by rw [hs]; exact List.mem_cons_self)).len

set_option maxRecDepth 100000 in
set_option maxHeartbeats 1000000 in
theorem name_rd {B E g : Nat} {w : World} {s : St} (h : RdAt B E g w s) :
    Calls Tryz.prog 110 #[.pointer (some ⟨g, 0, none⟩)] w (Says B E g w encS (Px.name E s)) := by
  have H := Lib.hid h
  have hlt := h.lt
  have Hlen := Lib.hid (text_len h.ok)
  obtain ⟨R, hR⟩ : ∃ R, R = Px.name E s := ⟨_, rfl⟩
  have HR := Lib.hid hR
  rw [← hR]
  clear hR h
  have hF := tokF1
  by_cases hk : Px.kindOf E s = 1
  · have hk1 : ((Px.peek E s).kind : Int) = 1 := by unfold Px.kindOf at hk; omega
    have Hk := Lib.hid hk
    clear hk
    go_enter Tryz.func110, Tryz.ntmps110
    go_wp2_with fail
    refine (peek_any H.out).mono ?_
    rintro e w1 ⟨rfl, hb⟩
    unfold tokVal
    rw [hk1]
    have H1 := Lib.hid (H.out.of_below hb (Nat.le_refl _))
    have HS := Lib.hid ((Stays.refl B none w).below hb (Nat.le_refl _))
    have hlt1 : g < w1.heap.size := H1.out.lt
    obtain ⟨km, c2, hK⟩ := H1.out.keys
    have hlk := fun n => hK ((w1.alloc (.cells #[.int .i64 1, .string ⟨(Px.peek E s).text.toArray⟩, .int .i64 (Px.peek E s).off] 53)).drewN n) (((Locals.refl _ _).alloc _).drewN n) ⟨(Px.peek E s).text.toArray⟩ (by have := Hlen.out; simp [maxLen, ByteArray.size]; omega)
    have HK := Lib.hid hK
    clear hb hK hk1
    go_wp2_with fail
    go_quiet (fail)
    have H2 := Lib.hid (H1.out.locals ((((Locals.refl g w1).alloc (.cells #[.int .i64 1, .string ⟨(Px.peek E s).text.toArray⟩, .int .i64 (Px.peek E s).off] 53)).drewN nq)))
    have HS2 := Lib.hid ((HS.out.alloc (.cells #[.int .i64 1, .string ⟨(Px.peek E s).text.toArray⟩, .int .i64 (Px.peek E s).off] 53)).drewN nq)
    cases hik : Px.isKey (Px.peek E s).text
    · have Hik := Lib.hid hik
      clear hlk hik
      cases hs : s.toks with
      | nil => exact absurd Hk.out (by unfold Px.kindOf Px.peek; rw [hs]; simp)
      | cons t r =>
        have Ht := Lib.hid hs
        have HD := Lib.hid (show R = .ok t.text (Px.rest s) by
          have ht : Px.peek E s = t := by unfold Px.peek; rw [hs]
          rw [HR.out]; unfold Px.name Px.text
          rw [if_pos ⟨Hk.out, Hik.out⟩, ht])
        clear hs
        go_wp2_with fail
        refine (take_any H2.out Ht.out).mono ?_
        rintro e w2 ⟨rfl, hs2, hr2⟩
        unfold tokVal
        have HS3 := Lib.hid hs2
        have HR3 := Lib.hid hr2
        clear hs2 hr2
        go_wp2_with fail
        go_ret
        exact Says.ok HD.out (HS2.out.trans HS3.out) rfl HR3.out
    · have HD := Lib.hid (show R = .bad (Px.wrongD E s) s by
        rw [HR.out]; unfold Px.name Px.wrong Px.text
        rw [if_neg (fun h => by rw [hik] at h; exact absurd h.2 (by decide))])
      clear hlk hik
      go_wp2_with fail
      refine (wrong_any H2.out).mono ?_
      rintro e wz ⟨rfl, hsz, hrz⟩
      go_wp2_with fail
      ((try simp only [Exit.inBlock, Exit.then]); refine post_panic rfl ?_)
      exact Says.bad HD.out (HS2.out.trans hsz) hrz
  · have hk1 : ¬ ((Px.peek E s).kind : Int) = 1 := by unfold Px.kindOf at hk; omega
    have HD := Lib.hid (show R = .bad (Px.wrongD E s) s by
      rw [HR.out]; unfold Px.name Px.wrong
      rw [if_neg (fun h => hk h.1)])
    clear hk
    go_enter Tryz.func110, Tryz.ntmps110
    go_wp2_with fail
    refine (peek_any H.out).mono ?_
    rintro e w1 ⟨rfl, hb⟩
    unfold tokVal
    have H1 := Lib.hid (H.out.of_below hb (Nat.le_refl _))
    have HS := Lib.hid ((Stays.refl B none w).below hb (Nat.le_refl _))
    clear hb
    go_wp2_with fail
    go_quiet (fail)
    have H2 := Lib.hid (H1.out.locals ((((Locals.refl g w1).alloc (.cells #[.int .i64 (Px.peek E s).kind, .string ⟨(Px.peek E s).text.toArray⟩, .int .i64 (Px.peek E s).off] 53)).drewN nq)))
    have HS2 := Lib.hid ((HS.out.alloc (.cells #[.int .i64 (Px.peek E s).kind, .string ⟨(Px.peek E s).text.toArray⟩, .int .i64 (Px.peek E s).off] 53)).drewN nq)
    go_wp2_with fail
    refine (wrong_any H2.out).mono ?_
    rintro e wz ⟨rfl, hsz, hrz⟩
    go_wp2_with fail
    ((try simp only [Exit.inBlock, Exit.then]); refine post_panic rfl ?_)
    exact Says.bad HD.out (HS2.out.trans hsz) hrz
end Go.Proofs.YtbgpboiblggmiaaGreatDoor

/-
  What strconv.Atoi says of a short row of digits.
-/
namespace Go.Proofs.YtbgpboiblggmiaaGreatDoor
open Go.RowKit

theorem digit_of_U (c : UInt8) (h : Lx.digitU c = true) : Lib.digitVal c = some (c.toNat - 48) ∧ 48 ≤ c.toNat ∧ (c == 45) = false ∧ (c == 43) = false := by
  unfold Lx.digitU Lx.digit at h
  simp only [Bool.and_eq_true, decide_eq_true_eq] at h
  have h1 : 48 ≤ c.toNat := by omega
  have h2 : c.toNat ≤ 57 := by omega
  refine ⟨by unfold Lib.digitVal; rw [if_pos ⟨h1, h2⟩], h1, ?_, ?_⟩
  · apply beq_eq_false_iff_ne.2
    rintro rfl
    exact absurd h1 (by decide)
  · apply beq_eq_false_iff_ne.2
    rintro rfl
    exact absurd h1 (by decide)

theorem decFrom_num (l : List UInt8) : ∀ acc : Nat, (∀ c ∈ l, Lx.digitU c = true) → ∃ n, Lib.decFrom acc l = some n ∧ (n : Int) = l.foldl (fun a c => 10 * a + ((c.toNat : Int) - 48)) (acc : Int) := by
  induction l with
  | nil => intro acc _; exact ⟨acc, rfl, rfl⟩
  | cons c r ih =>
    intro acc h
    obtain ⟨h1, h2, -, -⟩ := digit_of_U c (h c List.mem_cons_self)
    obtain ⟨n, h3, h4⟩ := ih (acc * 10 + (c.toNat - 48)) (fun x hx => h x (List.mem_cons_of_mem _ hx))
    refine ⟨n, ?_, ?_⟩
    · rw [Lib.decFrom, h1]; exact h3
    · rw [h4, List.foldl_cons]
      congr 1
      omega

theorem atoi_num (l : List UInt8) (hne : l ≠ []) (h : ∀ c ∈ l, Lx.digitU c = true) : Lib.atoi l = some (Px.numVal l) := by
  cases l with
  | nil => exact absurd rfl hne
  | cons c r =>
    obtain ⟨-, -, h1, h2⟩ := digit_of_U c (h c List.mem_cons_self)
    obtain ⟨n, h3, h4⟩ := decFrom_num (c :: r) 0 h
    unfold Lib.atoi Lib.decNat
    simp only [h1, h2, Bool.false_eq_true, if_false, List.isEmpty_cons, h3, Option.map_some]
    rw [h4]
    rfl

theorem atoi_any (t : List UInt8) (w : World) (hne : t ≠ []) (hl : t.length ≤ 9) (h : ∀ c ∈ t, Lx.digitU c = true) :
    Calls Tryz.prog 144 #[.string ⟨t.toArray⟩] w fun e w' => e = .returned (.tuple #[.int .i64 (Px.numVal t), .nilIface]) ∧ Below w.heap.size w w' := by
  refine (Tryz.strconv_Atoi ⟨t.toArray⟩ (Px.numVal t) (by simp [ByteArray.size]; omega) (atoi_num t hne h) w).mono ?_
  rintro e w' ⟨he, u, rfl⟩
  exact ⟨he, Lib.bytesWorld_below _ _ _⟩
end Go.Proofs.YtbgpboiblggmiaaGreatDoor

/-
  Walks over the reader's methods: number, length, begin, numeral, path, variable.
-/
namespace Go.Proofs.YtbgpboiblggmiaaGreatDoor
open Go.RowKit
open Px (St T D Res)

set_option maxRecDepth 100000 in
set_option maxHeartbeats 1000000 in
theorem number_rd {B E g : Nat} {w : World} {s : St} (h : RdAt B E g w s) :
    Calls Tryz.prog 126 #[.pointer (some ⟨g, 0, none⟩)] w (Says B E g w encI (Px.number E s)) := by
  have H := Lib.hid h
  have Hok := Lib.hid h.ok
  obtain ⟨R, hR⟩ : ∃ R, R = Px.number E s := ⟨_, rfl⟩
  have HR := Lib.hid hR
  rw [← hR]
  clear hR
  clear h
  have hF := tokF0
  have hF1 := tokF1
  by_cases hk : Px.kindOf E s = 2
  · have hk1 : ((Px.peek E s).kind : Int) = 2 := by unfold Px.kindOf at hk; omega
    have Hk := Lib.hid hk
    clear hk
    cases hs : s.toks with
    | nil => exact absurd Hk.out (by unfold Px.kindOf Px.peek; rw [hs]; simp)
    | cons t r =>
      have Ht := Lib.hid hs
      have ht : Px.peek E s = t := by unfold Px.peek; rw [hs]
      have HD := Lib.hid (show R = .ok (Px.numVal t.text) (Px.rest s) by
        rw [HR.out]; unfold Px.number Px.text
        rw [if_pos Hk.out, ht])
      have Hn := Lib.hid ((Hok.out.toks t (by rw [hs]; exact List.mem_cons_self)).num (by have := Hk.out; unfold Px.kindOf at this; rw [ht] at this; exact this))
      have Hne := Lib.hid ((Hok.out.toks t (by rw [hs]; exact List.mem_cons_self)).ne)
      clear hs ht
      go_enter Tryz.func126, Tryz.ntmps126
      go_wp2_with fail
      refine (peek_any H.out).mono ?_
      rintro e w1 ⟨rfl, hb⟩
      unfold tokVal
      rw [hk1]
      clear hk1
      have H1 := Lib.hid (H.out.of_below hb (Nat.le_refl _))
      have HS := Lib.hid ((Stays.refl B none w).below hb (Nat.le_refl _))
      clear hb
      go_wp2_with fail
      refine (take_any H1.out Ht.out).mono ?_
      rintro e w2 ⟨rfl, hs2, hr2⟩
      unfold tokVal
      have HS2 := Lib.hid hs2
      have HR2 := Lib.hid hr2
      clear hs2 hr2
      go_wp2_with fail
      refine (atoi_any t.text w2 Hne.out Hn.out.1 Hn.out.2).mono ?_
      rintro e w3 ⟨rfl, hb3⟩
      go_wp2_with fail
      go_ret
      exact Says.ok HD.out ((HS.out.trans HS2.out).below hb3 (by have := (HS.out.trans HS2.out).size; omega)) rfl (HR2.out.of_below hb3 (Nat.le_refl _))
  · have hk1 : ¬ ((Px.peek E s).kind : Int) = 2 := by unfold Px.kindOf at hk; omega
    have HD := Lib.hid (show R = .bad (Px.wrongD E s) s by
      rw [HR.out]; unfold Px.number Px.wrong
      rw [if_neg hk])
    clear hk
    go_enter Tryz.func126, Tryz.ntmps126
    go_wp2_with fail
    refine (peek_any H.out).mono ?_
    rintro e w1 ⟨rfl, hb⟩
    unfold tokVal
    have H1 := Lib.hid (H.out.of_below hb (Nat.le_refl _))
    have HS := Lib.hid ((Stays.refl B none w).below hb (Nat.le_refl _))
    clear hb
    go_wp2_with fail
    refine (wrong_any H1.out).mono ?_
    rintro e wz ⟨rfl, hsz, hrz⟩
    go_wp2_with fail
    ((try simp only [Exit.inBlock, Exit.then]); refine post_panic rfl ?_)
    exact Says.bad HD.out (HS.out.trans hsz) hrz

end Go.Proofs.YtbgpboiblggmiaaGreatDoor

/-
  Local variables that are trees or tokens: laws for the walk at their loads and stores; how what is known of them, of a reader and of rows stays.
-/
namespace Go.Proofs.YtbgpboiblggmiaaGreatDoor
open Go.RowKit
open Px (St T D Res)

/-- block b is a variable of type t that holds cs -/
def Var (t : TypeId) (w : World) (b : Nat) (cs : Array Value) : Prop := w.heap[b]? = some (.cells cs t (0, 0))
namespace Var
variable {t : TypeId} {w : World} {b : Nat} {cs : Array Value}
theorem new (w : World) (t : TypeId) (cs : Array Value) : Var t (w.alloc (.cells cs t)) w.heap.size cs := obj_new _ _
theorem alloc (h : Var t w b cs) (o : Obj) : Var t (w.alloc o) b cs := obj_old h o
theorem drew (h : Var t w b cs) : Var t w.drew b cs := h
theorem row_same (h : Var t w b cs) (c2 : Array Value) : Var t (w.setRow b c2) b c2 := obj_row_same h c2
theorem row_other (h : Var t w b cs) {g : Nat} (hne : b ≠ g) (c2 : Array Value) : Var t (w.setRow g c2) b cs := obj_row_other h hne c2
theorem stays {B : Nat} {w' : World} (h : Var 25 w b cs) (k : Stays B none w w') : Var 25 w' b cs := k.block _ _ h (.inr rfl) (by simp)
theorem staysT {B : Nat} {w' : World} (h : Var 53 w b cs) (k : Stays B none w w') : Var 53 w' b cs := k.block _ _ h (.inr rfl) (by simp)
theorem below {n : Nat} {w' : World} (h : Var t w b cs) (k : Below n w w') (hn : w.heap.size ≤ n) : Var t w' b cs := obj_below k h (by have := lt_heap h; omega)
theorem lt (h : Var t w b cs) : b < w.heap.size := lt_heap h
theorem isVar (h : Var t w b cs) : IsVar w b t := ⟨cs, _, h⟩
end Var

/-- block b is a variable of type t -/
def HasV (t : TypeId) (w : World) (b : Nat) : Prop := ∃ cs, Var t w b cs
namespace HasV
variable {t : TypeId} {w : World} {b : Nat}
theorem of {cs : Array Value} (h : Var t w b cs) : HasV t w b := ⟨cs, h⟩
theorem new (w : World) (t : TypeId) (cs : Array Value) : HasV t (w.alloc (.cells cs t)) w.heap.size := ⟨cs, .new _ _ _⟩
theorem alloc (h : HasV t w b) (o : Obj) : HasV t (w.alloc o) b := h.elim fun cs h => ⟨cs, h.alloc o⟩
theorem setRow (h : HasV t w b) (g : Nat) (c2 : Array Value) : HasV t (w.setRow g c2) b := h.elim fun cs h => by
  by_cases e : b = g
  · subst e; exact ⟨_, h.row_same c2⟩
  · exact ⟨cs, h.row_other e c2⟩
end HasV
theorem Var.row_new {t : TypeId} {w : World} {b : Nat} (h : HasV t w b) (c2 : Array Value) : Var t (w.setRow b c2) b c2 := h.elim fun _ h => h.row_same c2
theorem infoN : (Tryz.prog.info? 25).map (·.size) = some 9 := by kernel_rfl
theorem row_setCell {w : World} {b : Nat} {old : Array Value} {fz : Nat × Nat} {ty : TypeId} (h : w.heap[b]? = some (.cells old ty fz)) (cs : Array Value) (i : Nat) (v : Value) : (w.setRow b cs).setCell ⟨b, i, none⟩ v = w.setRow b (cs.setIfInBounds i v) := by
  rw [setCell_eq_setRow _ _ _ _ _ _ _ (obj_row_same h cs), setRow_setRow]
theorem arr9 (old : Array Value) (h9 : old.size = 9) (c0 c1 c2 c3 c4 c5 c6 c7 c8 : Value) :
    ((((((((old.setIfInBounds 0 c0).setIfInBounds 1 c1).setIfInBounds 2 c2).setIfInBounds 3 c3).setIfInBounds 4 c4).setIfInBounds 5 c5).setIfInBounds 6 c6).setIfInBounds 7 c7).setIfInBounds 8 c8 = #[c0, c1, c2, c3, c4, c5, c6, c7, c8] := by
  obtain ⟨l⟩ := old
  have h9' : l.length = 9 := h9
  rcases l with _ | ⟨x0, _ | ⟨x1, _ | ⟨x2, _ | ⟨x3, _ | ⟨x4, _ | ⟨x5, _ | ⟨x6, _ | ⟨x7, _ | ⟨x8, _ | ⟨x9, l⟩⟩⟩⟩⟩⟩⟩⟩⟩⟩
  all_goals first | (simp only [List.length_cons, List.length_nil] at h9'; omega) | (apply Array.ext'; simp only [Array.toList_setIfInBounds, List.set_cons_succ, List.set_cons_zero])
/-- a tree stored into a variable -/
theorem store9 {w : World} {b : Nat} {old : Array Value} {fz : Nat × Nat} {ty : TypeId} (h : w.heap[b]? = some (.cells old ty fz)) (h9 : old.size = 9) (c0 c1 c2 c3 c4 c5 c6 c7 c8 : Value) :
    (((((((((w.setCell ⟨b, 0, none⟩ c0).setCell ⟨b, 1, none⟩ c1).setCell ⟨b, 2, none⟩ c2).setCell ⟨b, 3, none⟩ c3).setCell ⟨b, 4, none⟩ c4).setCell ⟨b, 5, none⟩ c5).setCell ⟨b, 6, none⟩ c6).setCell ⟨b, 7, none⟩ c7).setCell ⟨b, 8, none⟩ c8) = w.setRow b #[c0, c1, c2, c3, c4, c5, c6, c7, c8] := by
  rw [setCell_eq_setRow _ _ _ _ _ _ _ h]
  simp only [row_setCell h]
  rw [arr9 old h9]

/-- block b is a variable that is a tree -/
def HasN (w : World) (b : Nat) : Prop := ∃ cs, cs.size = 9 ∧ Var 25 w b cs
namespace HasN
variable {w : World} {b : Nat}
theorem of {cs : Array Value} (h : Var 25 w b cs) (h9 : cs.size = 9) : HasN w b := ⟨cs, h9, h⟩
theorem alloc (h : HasN w b) (o : Obj) : HasN (w.alloc o) b := h.elim fun cs h => ⟨cs, h.1, h.2.alloc o⟩
theorem setRow (h : HasN w b) (g : Nat) (c2 : Array Value) (h2 : c2.size = 9) : HasN (w.setRow g c2) b := h.elim fun cs h => by
  by_cases e : b = g
  · subst e; exact ⟨_, h2, h.2.row_same c2⟩
  · exact ⟨cs, h.1, h.2.row_other e c2⟩
end HasN
theorem storeN {w : World} {b : Nat} (c0 c1 c2 c3 c4 c5 c6 c7 c8 : Value) (h : HasN w b) :
    (((((((((w.setCell ⟨b, 0, none⟩ c0).setCell ⟨b, 1, none⟩ c1).setCell ⟨b, 2, none⟩ c2).setCell ⟨b, 3, none⟩ c3).setCell ⟨b, 4, none⟩ c4).setCell ⟨b, 5, none⟩ c5).setCell ⟨b, 6, none⟩ c6).setCell ⟨b, 7, none⟩ c7).setCell ⟨b, 8, none⟩ c8) = w.setRow b #[c0, c1, c2, c3, c4, c5, c6, c7, c8] := by
  obtain ⟨cs, h9, h⟩ := h
  exact store9 h h9 _ _ _ _ _ _ _ _ _
theorem storeF {t : TypeId} {w : World} {b : Nat} {cs : Array Value} (h : Var t w b cs) (i : Nat) (v : Value) : w.setCell ⟨b, i, none⟩ v = w.setRow b (cs.setIfInBounds i v) := setCell_eq_setRow _ _ _ _ _ _ _ h
/-- a function's result in a variable that is a tree -/
theorem ret_node {fn : Func} {p : Tmp} (h : fn.results = #[.cell p 25]) {a : Act} {w : World} {g : Nat} {cs : Array Value} {R : Ending → World → Prop} (hp : a.tmps.getD p undef = .pointer (some ⟨g, 0, none⟩))
    (hv : Var 25 w g cs) (h9 : cs.size = 9) (hd : a.defers = []) (hR : R (.returned (.agg cs)) w) : bodyPost Tryz.prog fn R .ret a w :=
  bodyPost_ret (results_cell_row h _ w g _ cs (0, 0) _ hp hv Tryz.underlying25 rfl (by rw [infoN, h9])) hd hR

/-- how Stays, Locals go on over a row that is written -/
theorem Stays.setRow {B : Nat} {x : Option Nat} {a b : World} (h : Stays B x a b) {g : Nat} (hg : a.heap.size ≤ g) (cs : Array Value) : Stays B x a (b.setRow g cs) :=
  ⟨h.os, h.tape, h.output, by have := h.size; simp [World.setRow]; exact this, fun k o hk hl hx => by
    have := lt_heap hk
    exact obj_row_other (h.block k o hk hl hx) (by omega) cs⟩
theorem Locals.setRowVar {g : Nat} {a b : World} (h : Locals g a b) {k : Nat} {t : TypeId} (hv : IsVar b k t) (ht : t ≠ 33) (hg : g < k) (cs : Array Value) : Locals g a (b.setRow k cs) :=
  h.trans ⟨by simp [World.setRow], fun i o hi hl => obj_row_other hi (by
    rintro rfl
    rcases hl with hl | ⟨c1, f1, rfl⟩
    · omega
    · obtain ⟨cs0, fz, hp⟩ := hv
      rw [hi] at hp
      cases hp
      exact ht rfl) cs⟩
theorem Locals.setRowN {g : Nat} {a b : World} (h : Locals g a b) {k : Nat} (hv : HasV 25 b k) (hg : g < k) (cs : Array Value) : Locals g a (b.setRow k cs) := h.setRowVar (hv.elim fun _ h => h.isVar) (by decide) hg cs
theorem Locals.setRowT {g : Nat} {a b : World} (h : Locals g a b) {k : Nat} (hv : HasV 53 b k) (hg : g < k) (cs : Array Value) : Locals g a (b.setRow k cs) := h.setRowVar (hv.elim fun _ h => h.isVar) (by decide) hg cs
@[simp] theorem World.size_setRow' (w : World) (g : Nat) (cs : Array Value) : (w.setRow g cs).heap.size = w.heap.size := by simp [World.setRow]

theorem Res.bind_of_ok {α β : Type} {m : Res α} {a : α} {s : St} (h : m = .ok a s) (f : α → St → Res β) : m.bind f = f a s := by rw [h]; rfl
theorem Res.bind_of_bad {α β : Type} {m : Res α} {d : D} {s : St} (h : m = .bad d s) (f : α → St → Res β) : m.bind f = .bad d s := by rw [h]; rfl

/-- rows stay over what is written elsewhere -/
theorem Row.alloc {S : Nat → Prop} {w : World} {l : List T} {kv : Value} (h : Row S w l kv) (o : Obj) : Row S (w.alloc o) l kv := h.keep (fun _ h _ => h) (fun _ _ _ hb => obj_old hb o)
theorem Row.setRow {S : Nat → Prop} {w : World} {l : List T} {kv : Value} (h : Row S w l kv) {g : Nat} (hg : ¬ S g) (cs : Array Value) : Row S (w.setRow g cs) l kv := h.keep (fun _ h _ => h) (fun _ _ hS hb => obj_row_other hb (by rintro rfl; exact hg hS) cs)
theorem Row.stays {S : Nat → Prop} {B : Nat} {w w' : World} {l : List T} {kv : Value} (h : Row S w l kv) (k : Stays B none w w') : Row S w' l kv := h.keep (fun _ h _ => h) (fun _ _ _ hb => k.block _ _ hb (.inr rfl) (by simp))
theorem Row.lt {S : Nat → Prop} {w : World} {l : List T} {kv : Value} (h : Row S w l kv) : Row (fun b => S b ∧ b < w.heap.size) w l kv := h.keep (fun _ h1 h2 => ⟨h1, h2⟩) (fun _ _ _ hb => hb)
theorem Row.mono {S S' : Nat → Prop} {w : World} {l : List T} {kv : Value} (h : Row S w l kv) (hS : ∀ b, S b → S' b) : Row S' w l kv := h.keep (fun b hb _ => hS b hb) (fun _ _ _ hb => hb)
theorem Row.nil (S : Nat → Prop) (w : World) : Row S w [] (.slice none 0 0) := ⟨[], World.ownsRow_nil _ _ _ _, (by intro b hb; cases hb), by rw [Nodes]⟩
end Go.Proofs.YtbgpboiblggmiaaGreatDoor

/-
  The searches for frames, variables and rows, each as an argument that fills itself in.
-/
namespace Go.Proofs.YtbgpboiblggmiaaGreatDoor
open Go.RowKit
open Px (T)

theorem HasN.au {w : World} {b : Nat} (h : HasN w b := by (focus ((repeat (first | (with_reducible refine HasN.setRow ?_ _ _ ?_; rotate_left; focus (first | rfl | simp)) | with_reducible refine HasN.alloc ?_ _ | with_reducible refine HasN.setCell ?_ _ _ | exact HasN.of (by assumption) (by rfl))); done))) : HasN w b := h
theorem Var.au {t : TypeId} {w : World} {b : Nat} {cs : Array Value} (h : Var t w b cs := by (focus ((repeat (first | with_reducible assumption | with_reducible exact Var.new _ _ _ | (with_reducible refine Var.row_new ?_ _; (focus ((repeat (first | with_reducible exact HasV.new _ _ _ | with_reducible refine HasV.setRow ?_ _ _ | with_reducible refine HasV.alloc ?_ _ | with_reducible exact HasV.of (by assumption))); done))) | with_reducible apply Var.row_other | with_reducible apply Var.alloc | omega | (simp; omega))); done))) : Var t w b cs := h
theorem Locals.au {g : Nat} {a w : World} (h : Locals g a w := by (repeat (first | with_reducible exact HL.out | with_reducible refine Locals.alloc ?_ _ | (with_reducible refine Locals.setRowN ?_ ?_ ?_ _; rotate_left; (focus ((repeat (first | with_reducible exact HasV.new _ _ _ | with_reducible refine HasV.setRow ?_ _ _ | with_reducible refine HasV.alloc ?_ _ | with_reducible exact HasV.of (by assumption))); done)); (focus (first | with_reducible exact Nat.le_refl _ | with_reducible assumption | omega | (simp; omega)))) | (with_reducible refine Locals.setRowT ?_ ?_ ?_ _; rotate_left; (focus ((repeat (first | with_reducible exact HasV.new _ _ _ | with_reducible refine HasV.setRow ?_ _ _ | with_reducible refine HasV.alloc ?_ _ | with_reducible exact HasV.of (by assumption))); done)); (focus (first | with_reducible exact Nat.le_refl _ | with_reducible assumption | omega | (simp; omega)))) | with_reducible exact Locals.refl _ _))) : Locals g a w := h
theorem Stays.au {B : Nat} {x : Option Nat} {a w : World} (h : Stays B x a w := by (repeat (first | with_reducible exact HS.out | with_reducible refine Stays.alloc ?_ _ | (with_reducible refine Stays.setRow ?_ ?_ _; rotate_left; (focus (first | with_reducible exact Nat.le_refl _ | with_reducible assumption | omega | (simp; omega)))) | with_reducible exact Stays.refl _ _ _))) : Stays B x a w := h
theorem Row.au {S : Nat → Prop} {w : World} {l : List T} {kv : Value} (h : Row S w l kv := by (focus ((repeat (first | with_reducible exact QQ.out | with_reducible apply Row.alloc | with_reducible apply Row.setRow | (intro hSb; first | (simp at hSb; done) | (simp at hSb; omega) | omega))); done))) : Row S w l kv := h
end Go.Proofs.YtbgpboiblggmiaaGreatDoor

/-
  Walks over the reader's methods that make a tree of one token.
-/
namespace Go.Proofs.YtbgpboiblggmiaaGreatDoor
open Go.RowKit
open Px (St T D Res)

set_option maxRecDepth 100000 in
set_option maxHeartbeats 1000000 in
theorem begin_rd {B E g : Nat} {w : World} {s : St} (h : RdAt B E g w s) (k : Int) {t : Lx.Tok} {r : List Lx.Tok} (hs : s.toks = t :: r) :
    Calls Tryz.prog 109 #[.pointer (some ⟨g, 0, none⟩), .int .i64 k] w fun e w' => e = .returned (nodeVal (T.of k (Px.offOf E s) []) (.slice none 0 0)) ∧ Stays B none w w' ∧ RdAt B E g w' (Px.rest s) := by
  have H := Lib.hid h
  have hlt := h.lt
  have Hs := Lib.hid hs
  have Ho := Lib.hid (show Px.offOf E s = (t.off : Int) by unfold Px.offOf Px.peek; rw [hs])
  have hF := tokF2
  clear h hs
  rw [Ho.out]
  go_enter Tryz.func109, Tryz.ntmps109
  go_wp2_with fail
  refine (take_any (H.out.locals ((Locals.refl _ _).alloc _)) Hs.out).mono ?_
  rintro e w1 ⟨rfl, hs1, hr1⟩
  unfold tokVal
  have hv := (Var.new w 25 _).stays hs1
  have HS := Lib.hid (((Stays.refl B none w).alloc _).trans hs1)
  have HR := Lib.hid hr1
  clear hs1 hr1
  obtain ⟨q0, q1⟩ := obj_facts hv
  go_wp2_with fail
  rw [store9 hv (by rfl)]
  ((try simp only [Exit.inBlock, Exit.then]); refine ret_node (by rfl) (by rfl) (by (exact Var.au)) (by first | rfl | simp) (by rfl) ?_)
  refine ⟨rfl, by (exact Stays.au), HR.out.locals ?_⟩
  (exact Locals.au)

set_option maxRecDepth 100000 in
set_option maxHeartbeats 1000000 in
theorem numeral_rd {B E g : Nat} {w : World} {s : St} (h : RdAt B E g w s) :
    Calls Tryz.prog 116 #[.pointer (some ⟨g, 0, none⟩)] w (Says B E g w (encT w.heap.size) (Px.numeral E s)) := by
  have hF := tokF2
  have hlt := h.lt
  have hB := h.le
  have HR := Lib.hid h
  have HS := Lib.hid (Stays.refl B none w)
  clear h
  obtain ⟨R, hR⟩ : ∃ R, R = Px.numeral E s := ⟨_, rfl⟩
  rw [← hR]
  unfold Px.numeral Px.offOf at hR
  have HX := Lib.hid hR
  clear hR
  go_enter Tryz.func116, Tryz.ntmps116
  go_wp2_with fail
  refine (peek_any (HR.out.locals (by (exact Locals.au)))).mono ?_
  rintro e w1 ⟨rfl, hb⟩
  unfold tokVal
  have hs1 : w.heap.size < w1.heap.size := by have := hb.size; simp at this; omega
  have v0 : Var 25 w1 w.heap.size _ := Var.below (by (exact Var.au)) hb (Nat.le_refl _)
  have HR := Lib.hid (HR.out.locals (((Locals.refl g w).alloc _).below hb (Nat.le_refl _)))
  have HS := Lib.hid ((HS.out.alloc _).below hb (by simp))
  clear hb
  go_wp2_with fail
  refine (number_rd (HR.out.locals (by (exact Locals.au)))).mono ?_
  intro e2 w2 hm2
  refine hm2.cases ?_ ?_
  rotate_left
  focus (intro db sb hrb heb hRb hSb; subst heb; go_wp2_with fail; ((try simp only [Exit.inBlock, Exit.then]); refine post_panic rfl ?_); exact Says.bad (HX.out.trans (Res.bind_of_bad hrb _)) (Stays.trans (a := w) (by (exact Stays.au)) hSb) hRb)
  intro a2 s2 v2 hr2 he2 hv2 hR2 hS2
  subst he2
  have HX := Lib.hid (HX.out.trans (Res.bind_of_ok hr2 _))
  have HR := Lib.hid hR2
  have HS := Lib.hid (Stays.trans (a := w) (by (exact Stays.au)) hS2)
  have Hr2 := Lib.hid hr2
  have hs2 := hS2.size
  (try simp at hs2)
  clear hm2 hr2 hR2
  obtain rfl := hv2
  have z0 : Var 25 w2 w.heap.size _ := Var.stays (by (exact Var.au)) hS2
  have z0l := z0.lt
  obtain ⟨z0c, z0f⟩ := obj_facts z0
  have z1 : Var 25 w2 w1.heap.size _ := Var.stays (by (exact Var.au)) hS2
  have z1l := z1.lt
  obtain ⟨z1c, z1f⟩ := obj_facts z1
  go_wp2_with fail
  rw [storeF z1]
  (rw [storeN]; rotate_left; (exact HasN.au))
  ((try simp only [Exit.inBlock, Exit.then]); refine ret_node (by rfl) (by rfl) (by (exact Var.au)) (by first | rfl | simp) (by rfl) ?_)
  refine Says.ok HX.out (by (exact Stays.au)) ⟨none, 0, rfl, Row.nil _ _⟩ (HR.out.locals ?_)
  (exact Locals.au)
end Go.Proofs.YtbgpboiblggmiaaGreatDoor

/-
  Walks over the reader's path and variable.
-/
namespace Go.Proofs.YtbgpboiblggmiaaGreatDoor
open Go.RowKit
open Px (St T D Res)

theorem str_app (a b : List UInt8) : (⟨a.toArray⟩ : ByteArray) ++ ⟨b.toArray⟩ = ⟨(a ++ b).toArray⟩ := by
  apply ByteArray.ext
  simp [ByteArray.data_append]

/-- a path that is read is not too long -/
structure LenOk (q : Px.Str) (k : Nat) : Prop where
  h : q.length + 4001 * k ≤ 20000
theorem name_len {E : Nat} {s s2 : St} {a : Px.Str} (h : StOk E s) (hr : Px.name E s = .ok a s2) : a.length ≤ 4000 := by
  unfold Px.name at hr
  split at hr
  · cases hr; exact text_len h
  · cases hr

set_option maxRecDepth 100000 in
set_option maxHeartbeats 1000000 in
theorem path_rd {B E g : Nat} {w : World} {s : St} (h : RdAt B E g w s) :
    Calls Tryz.prog 114 #[.pointer (some ⟨g, 0, none⟩)] w (Says B E g w encS (Px.path E s)) := by
  have Hok := Lib.hid h.ok
  have hlt := h.lt
  have hB := h.le
  have HR := Lib.hid h
  have HS := Lib.hid (Stays.refl B none w)
  clear h
  obtain ⟨R, hR⟩ : ∃ R, R = Px.path E s := ⟨_, rfl⟩
  rw [← hR]
  unfold Px.path at hR
  have HX := Lib.hid hR
  clear hR
  go_enter Tryz.func114, Tryz.ntmps114
  go_wp2_with fail
  refine (name_rd (HR.out.locals (by (exact Locals.au)))).mono ?_
  intro e1 w1 hm1
  refine hm1.cases ?_ ?_
  rotate_left
  focus (intro db sb hrb heb hRb hSb; subst heb; go_wp2_with fail; ((try simp only [Exit.inBlock, Exit.then]); refine post_panic rfl ?_); exact Says.bad (HX.out.trans (Res.bind_of_bad hrb _)) (Stays.trans (a := w) (by (exact Stays.au)) hSb) hRb)
  intro a1 s1 v1 hr1 he1 hv1 hR1 hS1
  subst he1
  have HX := Lib.hid (HX.out.trans (Res.bind_of_ok hr1 _))
  have HR := Lib.hid hR1
  have HS := Lib.hid (Stays.trans (a := w) (by (exact Stays.au)) hS1)
  have Hr1 := Lib.hid hr1
  have hs1 := hS1.size
  (try simp at hs1)
  clear hm1 hr1 hR1
  obtain rfl := hv1
  have Hl1 := Lib.hid (name_len Hok.out Hr1.out)
  clear Hr1 Hok
  go_wp2_with fail
  go_loopw [3, 4] (fun p n wr => ∃ (k : Nat) (q : Px.Str) (sr : St), k ≤ 2 ∧ LenOk q k ∧ p = .string ⟨q.toArray⟩ ∧ n = .int .i64 (3 - (k : Int)) ∧ Hid (R = Px.pathGo E k q sr) ∧ Hid (RdAt B E g wr sr) ∧ Hid (Stays B none w wr)) (fun _ n _ => (3 - intOf n).toNat)
  case atStart => exact ⟨2, a1, s1, by omega, ⟨by have := Hl1.out; omega⟩, rfl, rfl, HX, HR, HS⟩
  case round =>
    obtain ⟨k, q, sr, hk, Hq, rfl, rfl, HX, HR, HS⟩ := hrel
    cases k with
    | zero =>
      go_wp2_with fail
      go_ret
      exact Says.ok HX.out HS.out rfl HR.out
    | succ k =>
      have h3 : 3 - ((k + 1 : Nat) : Int) < 3 := by omega
      have HX := Lib.hid (show R = if Px.accepts E [46] sr then (Px.name E (Px.rest sr)).bind fun q2 s => Px.pathGo E k (q ++ ([46] ++ q2)) s else .ok q sr from HX.out)
      go_wp2_with fail
      refine (accept_any (HR.out.locals (by (exact Locals.au))) [46] (by decide)).mono ?_
      rintro e2 w2 ⟨rfl, hS2, hR2⟩
      have HR := Lib.hid hR2
      have HS := Lib.hid (Stays.trans (a := w) (by (exact Stays.au)) hS2)
      have hs2 := hS2.size
      (try simp at hs2)
      clear hR2
      cases hac : Px.accepts E [46] sr
      · have HR := Lib.hid (show RdAt B E g w2 sr by have := HR.out; unfold Px.accepted at this; rw [if_neg (by rw [hac]; decide)] at this; exact this)
        have HX := Lib.hid (HX.out.trans (if_neg (by rw [hac]; decide)))
        clear hac
        go_wp2_with fail
        go_ret
        exact Says.ok HX.out HS.out rfl HR.out
      · have HR := Lib.hid (show RdAt B E g w2 (Px.rest sr) by have := HR.out; unfold Px.accepted at this; rw [if_pos hac] at this; exact this)
        have HX := Lib.hid (HX.out.trans (if_pos hac))
        clear hac
        have Hok2 := Lib.hid HR.out.ok
        go_wp2_with fail
        refine (name_rd (HR.out.locals (by (exact Locals.au)))).mono ?_
        intro e3 w3 hm3
        refine hm3.cases ?_ ?_
        rotate_left
        focus (intro db sb hrb heb hRb hSb; subst heb; go_wp2_with fail; ((try simp only [Exit.inBlock, Exit.then]); refine post_panic rfl ?_); exact Says.bad (HX.out.trans (Res.bind_of_bad hrb _)) (Stays.trans (a := w) (by (exact Stays.au)) hSb) hRb)
        intro a3 s3 v3 hr3 he3 hv3 hR3 hS3
        subst he3
        have HX := Lib.hid (HX.out.trans (Res.bind_of_ok hr3 _))
        have HR := Lib.hid hR3
        have HS := Lib.hid (Stays.trans (a := w) (by (exact Stays.au)) hS3)
        have Hr3 := Lib.hid hr3
        have hs3 := hS3.size
        (try simp at hs3)
        clear hm3 hr3 hR3
        obtain rfl := hv3
        have hl3 := name_len Hok2.out Hr3.out
        have Hl3 := Lib.hid hl3
        have hq := Hq.h
        have g1 : ¬ 9223372036854775807 < 1 + List.length a3 := by omega
        have g2 : ¬ 9223372036854775807 < List.length q + (1 + List.length a3) := by omega
        clear hq hl3
        go_wp2_with fail
        go_round
        case rel =>
          refine ⟨k, q ++ ([46] ++ a3), s3, by omega, ⟨?_⟩, ?_, by go_num, HX, HR, HS⟩
          · have hq := Hq.h; have hl3 := Hl3.out; simp; omega
          · exact congrArg Value.string ((congrArg (fun x => (⟨q.toArray⟩ : ByteArray) ++ x) (str_app [46] a3)).trans (str_app q _))
        case measure => simp [intOf]; omega

set_option maxRecDepth 100000 in
set_option maxHeartbeats 1000000 in
theorem variable_rd {B E g : Nat} {w : World} {s : St} (h : RdAt B E g w s) :
    Calls Tryz.prog 153 #[.pointer (some ⟨g, 0, none⟩)] w (Says B E g w (encT w.heap.size) (Px.pvar E s)) := by
  have hF := tokF2
  have hlt := h.lt
  have hB := h.le
  have HR := Lib.hid h
  have HS := Lib.hid (Stays.refl B none w)
  clear h
  obtain ⟨R, hR⟩ : ∃ R, R = Px.pvar E s := ⟨_, rfl⟩
  rw [← hR]
  unfold Px.pvar Px.offOf at hR
  have HX := Lib.hid hR
  clear hR
  go_enter Tryz.func153, Tryz.ntmps153
  go_wp2_with fail
  refine (peek_any (HR.out.locals (by (exact Locals.au)))).mono ?_
  rintro e w1 ⟨rfl, hb⟩
  unfold tokVal
  have hs1 : w.heap.size < w1.heap.size := by have := hb.size; simp at this; omega
  have v0 : Var 25 w1 w.heap.size _ := Var.below (by (exact Var.au)) hb (Nat.le_refl _)
  have HR := Lib.hid (HR.out.locals (((Locals.refl g w).alloc _).below hb (Nat.le_refl _)))
  have HS := Lib.hid ((HS.out.alloc _).below hb (by simp))
  clear hb
  go_wp2_with fail
  refine (path_rd (HR.out.locals (by (exact Locals.au)))).mono ?_
  intro e2 w2 hm2
  refine hm2.cases ?_ ?_
  rotate_left
  focus (intro db sb hrb heb hRb hSb; subst heb; go_wp2_with fail; ((try simp only [Exit.inBlock, Exit.then]); refine post_panic rfl ?_); exact Says.bad (HX.out.trans (Res.bind_of_bad hrb _)) (Stays.trans (a := w) (by (exact Stays.au)) hSb) hRb)
  intro a2 s2 v2 hr2 he2 hv2 hR2 hS2
  subst he2
  have HX := Lib.hid (HX.out.trans (Res.bind_of_ok hr2 _))
  have HR := Lib.hid hR2
  have HS := Lib.hid (Stays.trans (a := w) (by (exact Stays.au)) hS2)
  have Hr2 := Lib.hid hr2
  have hs2 := hS2.size
  (try simp at hs2)
  clear hm2 hr2 hR2
  obtain rfl := hv2
  have z0 : Var 25 w2 w.heap.size _ := Var.stays (by (exact Var.au)) hS2
  have z0l := z0.lt
  obtain ⟨z0c, z0f⟩ := obj_facts z0
  have z1 : Var 25 w2 w1.heap.size _ := Var.stays (by (exact Var.au)) hS2
  have z1l := z1.lt
  obtain ⟨z1c, z1f⟩ := obj_facts z1
  go_wp2_with fail
  rw [storeF z1]
  (rw [storeN]; rotate_left; (exact HasN.au))
  ((try simp only [Exit.inBlock, Exit.then]); refine ret_node (by rfl) (by rfl) (by (exact Var.au)) (by first | rfl | simp) (by rfl) ?_)
  refine Says.ok HX.out (by (exact Stays.au)) ⟨none, 0, rfl, Row.nil _ _⟩ (HR.out.locals ?_)
  (exact Locals.au)
end Go.Proofs.YtbgpboiblggmiaaGreatDoor

/-
  The expressions' walks: what is assumed of the calls with less left; small functions; ref.
-/
namespace Go.Proofs.YtbgpboiblggmiaaGreatDoor
open Go.RowKit
open Px (St T D Res left)

/-- the reader's five recursive methods at a fuel -/
structure AllE (B E g k : Nat) : Prop where
  expr : ∀ (w : World) (s : St), RdAt B E g w s → 6 * left s + 5 ≤ k → Calls Tryz.prog 61 #[.pointer (some ⟨g, 0, none⟩)] w (Says B E g w (encT w.heap.size) (Px.run E k .expr s))
  cond : ∀ (w : World) (s : St), RdAt B E g w s → 6 * left s + 4 ≤ k → Calls Tryz.prog 102 #[.pointer (some ⟨g, 0, none⟩)] w (Says B E g w (encT w.heap.size) (Px.run E k .cond s))
  bin : ∀ (w : World) (s : St) (n : Int), 1 ≤ n → n ≤ 10 → RdAt B E g w s → 6 * left s + 3 ≤ k → Calls Tryz.prog 127 #[.pointer (some ⟨g, 0, none⟩), .int .i64 n] w (Says B E g w (encT w.heap.size) (Px.run E k (.bin n) s))
  unary : ∀ (w : World) (s : St), RdAt B E g w s → 6 * left s + 2 ≤ k → Calls Tryz.prog 145 #[.pointer (some ⟨g, 0, none⟩)] w (Says B E g w (encT w.heap.size) (Px.run E k .unary s))
  ref : ∀ (w : World) (s : St), RdAt B E g w s → 6 * left s + 1 ≤ k → Calls Tryz.prog 165 #[.pointer (some ⟨g, 0, none⟩)] w (Says B E g w (encT w.heap.size) (Px.run E k .ref s))

theorem nodes_one {S : Nat → Prop} {w : World} {t : T} {kv : Value} (h : Row S w t.kids kv) : Nodes S w [t] (nodeCells t kv) := by
  rw [Nodes]
  exact ⟨kv, [], by simp, (kids_iff _ _ _ _).2 h, by rw [Nodes]⟩
theorem nodes_cons {S : Nat → Prop} {w : World} {t : T} {kv : Value} (h : Row S w t.kids kv) {l : List T} {xs : List Value} (hl : Nodes S w l xs) : Nodes S w (t :: l) (nodeCells t kv ++ xs) := by
  rw [Nodes]
  exact ⟨kv, xs, rfl, (kids_iff _ _ _ _).2 h, hl⟩
theorem Nodes.len {S : Nat → Prop} {w : World} : ∀ (l : List T) (xs : List Value), Nodes S w l xs → xs.length = l.length * 9
  | [], xs, h => by rw [Nodes] at h; subst h; rfl
  | t :: r, xs, h => by
    rw [Nodes] at h
    obtain ⟨kv, rest, rfl, _, h⟩ := h
    have := Nodes.len r rest h
    simp [nodeCells, this]
    omega
/-- a new row of trees -/
theorem row_new {S : Nat → Prop} {w : World} {l : List T} {xs : List Value} (h : Nodes S w l xs) (hm : l.length ≤ maxLen) :
    Row (fun b => S b ∨ b = w.heap.size) (w.alloc (.cells xs.toArray 25)) l (.slice (some ⟨w.heap.size, 0, none⟩) l.length l.length) := by
  refine ⟨xs, ⟨Nodes.len l xs h, .inr ⟨w.heap.size, l.length, xs.toArray, rfl, Nat.zero_le _, obj_new _ _, Nat.le_refl _, hm, by simp [Nodes.len l xs h], by rw [← Nodes.len l xs h]; simp⟩⟩, fun b hb => .inr (by cases hb; rfl), ?_⟩
  exact Nodes.keep (fun b hb _ => .inl hb) (fun _ _ _ hb => obj_old hb _) l xs h
theorem row_new' {S : Nat → Prop} {w : World} {l : List T} {xs : List Value} (h : Nodes S w l xs) (hm : l.length ≤ maxLen) {b : Nat} (hb : b = w.heap.size) {cs : Array Value} (hcs : cs = xs.toArray) :
    Row (fun i => S i ∨ i = b) (w.alloc (.cells cs 25)) l (.slice (some ⟨b, 0, none⟩) l.length l.length) := by
  subst hb; subst hcs
  exact row_new h hm
theorem pvar_form {E : Nat} {s s2 : St} {a : T} (h : Px.pvar E s = .ok a s2) : ∃ o nm, a = T.named 2 o nm [] := by
  unfold Px.pvar at h
  obtain ⟨q, s1, h1, h2⟩ := Px.bind_inv h
  cases h2
  exact ⟨_, _, rfl⟩

set_option maxRecDepth 100000 in
set_option maxHeartbeats 1000000 in
theorem ref_rd {B E g k : Nat} (ih : AllE B E g k) {w : World} {s : St} (h : RdAt B E g w s) (hk : 6 * left s + 1 ≤ k + 1) :
    Calls Tryz.prog 165 #[.pointer (some ⟨g, 0, none⟩)] w (Says B E g w (encT w.heap.size) (Px.run E (k + 1) .ref s)) := by
  have IH := Lib.hid ih
  have Hk := Lib.hid hk
  clear ih hk
  have hlt := h.lt
  have hB := h.le
  have HR := Lib.hid h
  have HS := Lib.hid (Stays.refl B none w)
  clear h
  obtain ⟨R, hR⟩ : ∃ R, R = Px.run E (k + 1) .ref s := ⟨_, rfl⟩
  rw [← hR]
  rw [Px.run] at hR
  have HX := Lib.hid hR
  clear hR
  go_enter Tryz.func165, Tryz.ntmps165
  go_wp2_with fail
  refine (variable_rd (HR.out.locals (by (exact Locals.au)))).mono ?_
  intro e1 w1 hm1
  refine hm1.cases ?_ ?_
  rotate_left
  focus (intro db sb hrb heb hRb hSb; subst heb; go_wp2_with fail; ((try simp only [Exit.inBlock, Exit.then]); refine post_panic rfl ?_); exact Says.bad (HX.out.trans (Res.bind_of_bad hrb _)) (Stays.trans (a := w) (by (exact Stays.au)) hSb) hRb)
  intro a1 s1 v1 hr1 he1 hv1 hR1 hS1
  subst he1
  have HX := Lib.hid (HX.out.trans (Res.bind_of_ok hr1 _))
  have HR := Lib.hid hR1
  have HS := Lib.hid (Stays.trans (a := w) (by (exact Stays.au)) hS1)
  have Hr1 := Lib.hid hr1
  have hs1 := hS1.size
  (try simp at hs1)
  clear hm1 hr1 hR1
  obtain ⟨o1, m1, rfl⟩ := pvar_form Hr1.out
  obtain ⟨p1, c1, rfl, hw1⟩ := hv1
  have Hw1 := Lib.hid hw1.lt
  clear hw1
  unfold nodeVal
  have hz1 : w.heap.size < w1.heap.size := by have := hS1.size; simp at this; omega
  have z0 : Var 25 w1 w.heap.size _ := Var.stays (by (exact Var.au)) hS1
  have z0l := z0.lt
  obtain ⟨z0c, z0f⟩ := obj_facts z0
  go_wp2_with fail
  refine (accept_any (HR.out.locals (by (exact Locals.au))) [91] (by decide)).mono ?_
  rintro e2 w2 ⟨rfl, hS2, hR2⟩
  have HR := Lib.hid hR2
  have HS := Lib.hid (Stays.trans (a := w) (by (exact Stays.au)) hS2)
  have hs2 := hS2.size
  (try simp at hs2)
  clear hR2
  have hz2 : w1.heap.size < w2.heap.size := by have := hS2.size; simp at this; omega
  have z0' : Var 25 w2 w.heap.size _ := Var.stays (by (exact Var.au)) hS2
  clear z0 z0c z0f
  have z0 := z0'
  clear z0'
  have z0l := z0.lt
  obtain ⟨z0c, z0f⟩ := obj_facts z0
  have z1 : Var 25 w2 w1.heap.size _ := Var.stays (by (exact Var.au)) hS2
  have z1l := z1.lt
  obtain ⟨z1c, z1f⟩ := obj_facts z1
  have Hw1 := Lib.hid (Row.stays (by (have QQ := Hw1; exact Row.au)) hS2)
  cases hac : Px.accepts E [91] s1
  · have HR := Lib.hid (show RdAt B E g w2 s1 by have := HR.out; unfold Px.accepted at this; rw [if_neg (by rw [hac]; decide)] at this; exact this)
    have HX := Lib.hid (HX.out.trans (if_neg (by rw [hac]; decide)))
    clear hac
    go_wp2_with fail
    (rw [storeN]; rotate_left; (exact HasN.au))
    ((try simp only [Exit.inBlock, Exit.then]); refine ret_node (by rfl) (by rfl) (by (exact Var.au)) (by first | rfl | simp) (by rfl) ?_)
    refine Says.ok HX.out (by (exact Stays.au)) ⟨_, _, rfl, Row.mono (by (have QQ := Hw1; exact Row.au)) ?_⟩ (HR.out.locals ?_)
    · intro b hb; simp at hb; omega
    · (exact Locals.au)
  · have HR := Lib.hid (show RdAt B E g w2 (Px.rest s1) by have := HR.out; unfold Px.accepted at this; rw [if_pos hac] at this; exact this)
    have HX := Lib.hid (HX.out.trans (if_pos hac))
    have hl1 := Px.pvar_left Hr1.out
    have hl2 := Px.acc_left hac (by decide)
    clear hac
    have hf3 : 6 * left (Px.rest s1) + 5 ≤ k := by have := Hk.out; omega
    clear hl1 hl2
    go_wp2_with fail
    refine (IH.out.expr _ _ (HR.out.locals (by (exact Locals.au))) hf3).mono ?_
    intro e3 w3 hm3
    refine hm3.cases ?_ ?_
    rotate_left
    focus (intro db sb hrb heb hRb hSb; subst heb; go_wp2_with fail; ((try simp only [Exit.inBlock, Exit.then]); refine post_panic rfl ?_); exact Says.bad (HX.out.trans (Res.bind_of_bad hrb _)) (Stays.trans (a := w) (by (exact Stays.au)) hSb) hRb)
    intro a3 s3 v3 hr3 he3 hv3 hR3 hS3
    subst he3
    have HX := Lib.hid (HX.out.trans (Res.bind_of_ok hr3 _))
    have HR := Lib.hid hR3
    have HS := Lib.hid (Stays.trans (a := w) (by (exact Stays.au)) hS3)
    have Hr3 := Lib.hid hr3
    have hs3 := hS3.size
    (try simp at hs3)
    clear hm3 hr3 hR3
    obtain ⟨p3, c3, rfl, hw3⟩ := hv3
    have Hw3 := Lib.hid hw3.lt
    clear hw3
    unfold nodeVal
    have hz3 : w1.heap.size < w3.heap.size := by have := hS3.size; (try simp at this); omega
    have hz30 : w.heap.size < w3.heap.size := by omega
    have z0' : Var 25 w3 w.heap.size _ := Var.stays (by (exact Var.au)) hS3
    clear z0 z0c z0f
    have z0 := z0'
    clear z0'
    have z0l := z0.lt
    obtain ⟨z0c, z0f⟩ := obj_facts z0
    have z1' : Var 25 w3 w1.heap.size _ := Var.stays (by (exact Var.au)) hS3
    clear z1 z1c z1f
    have z1 := z1'
    clear z1'
    have z1l := z1.lt
    obtain ⟨z1c, z1f⟩ := obj_facts z1
    go_wp2_with fail
    rw [storeF z1]
    go_wp2_with fail
    refine (expect_any (HR.out.locals (by (exact Locals.au))) [93] (by decide)).mono ?_
    intro e4 w4 hm4
    refine hm4.cases ?_ ?_
    rotate_left
    focus (intro db sb hrb heb hRb hSb; subst heb; go_wp2_with fail; ((try simp only [Exit.inBlock, Exit.then]); refine post_panic rfl ?_); exact Says.bad (HX.out.trans (Res.bind_of_bad hrb _)) (Stays.trans (a := w) (by (exact Stays.au)) hSb) hRb)
    intro a4 s4 v4 hr4 he4 hv4 hR4 hS4
    subst he4
    have HX := Lib.hid (HX.out.trans (Res.bind_of_ok hr4 _))
    have HR := Lib.hid hR4
    have HS := Lib.hid (Stays.trans (a := w) (by (exact Stays.au)) hS4)
    have Hr4 := Lib.hid hr4
    have hs4 := hS4.size
    (try simp at hs4)
    clear hm4 hr4 hR4
    obtain rfl := hv4
    have hz4 : w3.heap.size < w4.heap.size := by have := hS4.size; (try simp at this); omega
    have hz40 : w1.heap.size < w4.heap.size := by omega
    have hz400 : w.heap.size < w4.heap.size := by omega
    have z0' : Var 25 w4 w.heap.size _ := Var.stays (by (exact Var.au)) hS4
    clear z0 z0c z0f
    have z0 := z0'
    clear z0'
    have z0l := z0.lt
    obtain ⟨z0c, z0f⟩ := obj_facts z0
    have z1' : Var 25 w4 w1.heap.size _ := Var.stays (by (exact Var.au)) hS4
    clear z1 z1c z1f
    have z1 := z1'
    clear z1'
    have z1l := z1.lt
    obtain ⟨z1c, z1f⟩ := obj_facts z1
    have Hn : Hid (Row _ w4 [a3] (.slice (some ⟨w3.heap.size, 0, none⟩) 1 1)) := Lib.hid (Row.stays (row_new' (l := [a3]) (b := w3.heap.size) (nodes_one (by (have QQ := Hw3; exact Row.au))) (by simp [maxLen]) (by simp) rfl) hS4)
    go_wp2_with fail
    (rw [storeN]; rotate_left; (exact HasN.au))
    ((try simp only [Exit.inBlock, Exit.then]); refine ret_node (by rfl) (by rfl) (by (exact Var.au)) (by first | rfl | simp) (by rfl) ?_)
    refine Says.ok HX.out (by (exact Stays.au)) ⟨_, _, rfl, (show Row _ _ [a3] (.slice (some ⟨w3.heap.size, 0, none⟩) 1 1) from Row.mono (by (have QQ := Hn; exact Row.au)) ?_)⟩ (HR.out.locals ?_)
    · intro b hb; (try simp at hb); omega
    · (exact Locals.au)
end Go.Proofs.YtbgpboiblggmiaaGreatDoor

/-
  The expressions' walks: enclosed, old.
-/
namespace Go.Proofs.YtbgpboiblggmiaaGreatDoor
open Go.RowKit
open Px (St T D Res left)

theorem acc_cons {E : Nat} {x : Px.Str} {s : St} (h : Px.accepts E x s = true) (hx : x ≠ []) : ∃ t r, s.toks = t :: r := by
  unfold Px.accepts Px.text Px.peek at h
  cases hs : s.toks with
  | nil => rw [hs] at h; exact absurd (eq_of_beq h).symm hx
  | cons t r => exact ⟨t, r, rfl⟩
theorem expect_of {E : Nat} {x : Px.Str} {s : St} (h : Px.accepts E x s = true) : Px.expect E x s = .ok () (Px.rest s) := by
  unfold Px.expect
  rw [if_pos h]

set_option maxRecDepth 100000 in
set_option maxHeartbeats 1000000 in
theorem enclosed_rd {B E g k : Nat} (ih : AllE B E g k) {w : World} {s : St} (h : RdAt B E g w s) (hac : Px.accepts E [40] s = true) (hk : 6 * left (Px.rest s) + 5 ≤ k) :
    Calls Tryz.prog 164 #[.pointer (some ⟨g, 0, none⟩)] w (Says B E g w (encT w.heap.size) ((Px.run E k .expr (Px.rest s)).bind fun n s1 => (Px.expect E [41] s1).bind fun _ s2 => .ok n s2)) := by
  have IH := Lib.hid ih
  have Hk := Lib.hid hk
  have He := Lib.hid (expect_of hac)
  clear ih hk hac
  have hlt := h.lt
  have hB := h.le
  have HR := Lib.hid h
  have HS := Lib.hid (Stays.refl B none w)
  clear h
  obtain ⟨R, hR⟩ : ∃ R, R = (Px.run E k .expr (Px.rest s)).bind fun n s1 => (Px.expect E [41] s1).bind fun _ s2 => .ok n s2 := ⟨_, rfl⟩
  rw [← hR]
  have HX := Lib.hid hR
  clear hR
  have HX := Lib.hid (HX.out.trans (Res.bind_of_ok He.out fun _ s => (Px.run E k .expr s).bind fun n s1 => (Px.expect E [41] s1).bind fun _ s2 => .ok n s2).symm)
  go_enter Tryz.func164, Tryz.ntmps164
  go_wp2_with fail
  refine (expect_any (HR.out.locals (by (exact Locals.au))) [40] (by decide)).mono ?_
  intro e1 w1 hm1
  refine hm1.cases ?_ ?_
  rotate_left
  focus (intro db sb hrb heb hRb hSb; subst heb; go_wp2_with fail; ((try simp only [Exit.inBlock, Exit.then]); refine post_panic rfl ?_); exact Says.bad (HX.out.trans (Res.bind_of_bad hrb _)) (Stays.trans (a := w) (by (exact Stays.au)) hSb) hRb)
  intro a1 s1 v1 hr1 he1 hv1 hR1 hS1
  subst he1
  have HX := Lib.hid (HX.out.trans (Res.bind_of_ok hr1 _))
  have HR := Lib.hid hR1
  have HS := Lib.hid (Stays.trans (a := w) (by (exact Stays.au)) hS1)
  have Hr1 := Lib.hid hr1
  have hs1 := hS1.size
  (try simp at hs1)
  clear hm1 hr1 hR1
  obtain rfl := hv1
  obtain rfl : s1 = Px.rest s := by have := He.out.symm.trans Hr1.out; cases this; rfl
  have z0 : Var 25 w1 w.heap.size _ := Var.stays (by (exact Var.au)) hS1
  have z0l := z0.lt
  obtain ⟨z0c, z0f⟩ := obj_facts z0
  go_wp2_with fail
  refine (IH.out.expr _ _ (HR.out.locals (by (exact Locals.au))) Hk.out).mono ?_
  intro e2 w2 hm2
  refine hm2.cases ?_ ?_
  rotate_left
  focus (intro db sb hrb heb hRb hSb; subst heb; go_wp2_with fail; ((try simp only [Exit.inBlock, Exit.then]); refine post_panic rfl ?_); exact Says.bad (HX.out.trans (Res.bind_of_bad hrb _)) (Stays.trans (a := w) (by (exact Stays.au)) hSb) hRb)
  intro a2 s2 v2 hr2 he2 hv2 hR2 hS2
  subst he2
  have HX := Lib.hid (HX.out.trans (Res.bind_of_ok hr2 _))
  have HR := Lib.hid hR2
  have HS := Lib.hid (Stays.trans (a := w) (by (exact Stays.au)) hS2)
  have Hr2 := Lib.hid hr2
  have hs2 := hS2.size
  (try simp at hs2)
  clear hm2 hr2 hR2
  obtain ⟨p2, c2, rfl, hw2⟩ := hv2
  have Hw2 := Lib.hid hw2.lt
  clear hw2
  unfold nodeVal
  have z0' : Var 25 w2 w.heap.size _ := Var.stays (by (exact Var.au)) hS2
  clear z0 z0c z0f
  have z0 := z0'
  clear z0'
  have z0l := z0.lt
  obtain ⟨z0c, z0f⟩ := obj_facts z0
  go_wp2_with fail
  refine (expect_any (HR.out.locals (by (exact Locals.au))) [41] (by decide)).mono ?_
  intro e3 w3 hm3
  refine hm3.cases ?_ ?_
  rotate_left
  focus (intro db sb hrb heb hRb hSb; subst heb; go_wp2_with fail; ((try simp only [Exit.inBlock, Exit.then]); refine post_panic rfl ?_); exact Says.bad (HX.out.trans (Res.bind_of_bad hrb _)) (Stays.trans (a := w) (by (exact Stays.au)) hSb) hRb)
  intro a3 s3 v3 hr3 he3 hv3 hR3 hS3
  subst he3
  have HX := Lib.hid (HX.out.trans (Res.bind_of_ok hr3 _))
  have HR := Lib.hid hR3
  have HS := Lib.hid (Stays.trans (a := w) (by (exact Stays.au)) hS3)
  have Hr3 := Lib.hid hr3
  have hs3 := hS3.size
  (try simp at hs3)
  clear hm3 hr3 hR3
  obtain rfl := hv3
  have z0' : Var 25 w3 w.heap.size _ := Var.stays (by (exact Var.au)) hS3
  clear z0 z0c z0f
  have z0 := z0'
  clear z0'
  have z0l := z0.lt
  obtain ⟨z0c, z0f⟩ := obj_facts z0
  have z1 : Var 25 w3 w2.heap.size _ := Var.stays (by (exact Var.au)) hS3
  have z1l := z1.lt
  obtain ⟨z1c, z1f⟩ := obj_facts z1
  have Hw2 := Lib.hid (Row.stays (by (have QQ := Hw2; exact Row.au)) hS3)
  go_wp2_with fail
  (rw [storeN]; rotate_left; (exact HasN.au))
  ((try simp only [Exit.inBlock, Exit.then]); refine ret_node (by rfl) (by rfl) (by (exact Var.au)) (by first | rfl | simp) (by rfl) ?_)
  refine Says.ok HX.out (by (exact Stays.au)) ⟨_, _, rfl, (show Row _ _ a2.kids (.slice p2 a2.kids.length c2) from Row.mono (by (have QQ := Hw2; exact Row.au)) ?_)⟩ (HR.out.locals ?_)
  · intro b hb; (try simp at hb); omega
  · (exact Locals.au)

set_option maxRecDepth 100000 in
set_option maxHeartbeats 1000000 in
theorem old_rd {B E g k : Nat} (ih : AllE B E g k) {w : World} {s : St} (h : RdAt B E g w s) (hac : Px.accepts E [111, 108, 100] s = true) (hk : 6 * left (Px.rest s) ≤ k) :
    Calls Tryz.prog 163 #[.pointer (some ⟨g, 0, none⟩)] w (Says B E g w (encT w.heap.size) ((Px.expect E [40] (Px.rest s)).bind fun _ s1 => (Px.run E k .ref s1).bind fun n s2 => (Px.expect E [41] s2).bind fun _ s3 => .ok (T.of 3 (Px.offOf E s) [n]) s3)) := by
  have IH := Lib.hid ih
  have Hk := Lib.hid hk
  obtain ⟨t, r, ht⟩ := acc_cons hac (by decide)
  have Ht := Lib.hid ht
  clear ih hk hac ht
  have hlt := h.lt
  have hB := h.le
  have HR := Lib.hid h
  have HS := Lib.hid (Stays.refl B none w)
  clear h
  obtain ⟨R, hR⟩ : ∃ R, R = (Px.expect E [40] (Px.rest s)).bind fun _ s1 => (Px.run E k .ref s1).bind fun n s2 => (Px.expect E [41] s2).bind fun _ s3 => .ok (T.of 3 (Px.offOf E s) [n]) s3 := ⟨_, rfl⟩
  rw [← hR]
  have HX := Lib.hid hR
  clear hR
  go_enter Tryz.func163, Tryz.ntmps163
  go_wp2_with fail
  refine (begin_rd (HR.out.locals (by (exact Locals.au))) 3 Ht.out).mono ?_
  rintro e1 w1 ⟨rfl, hS1, hR1⟩
  unfold nodeVal
  have HR := Lib.hid hR1
  have HS := Lib.hid (Stays.trans (a := w) (by (exact Stays.au)) hS1)
  have hs1 := hS1.size
  (try simp at hs1)
  clear hR1
  have z0 : Var 25 w1 w.heap.size _ := Var.stays (by (exact Var.au)) hS1
  have z0l := z0.lt
  obtain ⟨z0c, z0f⟩ := obj_facts z0
  go_wp2_with fail
  refine (expect_any (HR.out.locals (by (exact Locals.au))) [40] (by decide)).mono ?_
  intro e2 w2 hm2
  refine hm2.cases ?_ ?_
  rotate_left
  focus (intro db sb hrb heb hRb hSb; subst heb; go_wp2_with fail; ((try simp only [Exit.inBlock, Exit.then]); refine post_panic rfl ?_); exact Says.bad (HX.out.trans (Res.bind_of_bad hrb _)) (Stays.trans (a := w) (by (exact Stays.au)) hSb) hRb)
  intro a2 s2 v2 hr2 he2 hv2 hR2 hS2
  subst he2
  have HX := Lib.hid (HX.out.trans (Res.bind_of_ok hr2 _))
  have HR := Lib.hid hR2
  have HS := Lib.hid (Stays.trans (a := w) (by (exact Stays.au)) hS2)
  have Hr2 := Lib.hid hr2
  have hs2 := hS2.size
  (try simp at hs2)
  clear hm2 hr2 hR2
  obtain rfl := hv2
  have hl := Px.expect_left Hr2.out (by decide)
  have hf3 : 6 * left s2 + 1 ≤ k := by have := Hk.out; omega
  clear hl
  have z0' : Var 25 w2 w.heap.size _ := Var.stays (by (exact Var.au)) hS2
  clear z0 z0c z0f
  have z0 := z0'
  clear z0'
  have z0l := z0.lt
  obtain ⟨z0c, z0f⟩ := obj_facts z0
  have z1 : Var 25 w2 w1.heap.size _ := Var.stays (by (exact Var.au)) hS2
  have z1l := z1.lt
  obtain ⟨z1c, z1f⟩ := obj_facts z1
  go_wp2_with fail
  refine (IH.out.ref _ _ (HR.out.locals (by (exact Locals.au))) hf3).mono ?_
  intro e3 w3 hm3
  refine hm3.cases ?_ ?_
  rotate_left
  focus (intro db sb hrb heb hRb hSb; subst heb; go_wp2_with fail; ((try simp only [Exit.inBlock, Exit.then]); refine post_panic rfl ?_); exact Says.bad (HX.out.trans (Res.bind_of_bad hrb _)) (Stays.trans (a := w) (by (exact Stays.au)) hSb) hRb)
  intro a3 s3 v3 hr3 he3 hv3 hR3 hS3
  subst he3
  have HX := Lib.hid (HX.out.trans (Res.bind_of_ok hr3 _))
  have HR := Lib.hid hR3
  have HS := Lib.hid (Stays.trans (a := w) (by (exact Stays.au)) hS3)
  have Hr3 := Lib.hid hr3
  have hs3 := hS3.size
  (try simp at hs3)
  clear hm3 hr3 hR3
  obtain ⟨p3, c3, rfl, hw3⟩ := hv3
  have Hw3 := Lib.hid hw3.lt
  clear hw3
  unfold nodeVal
  have z0' : Var 25 w3 w.heap.size _ := Var.stays (by (exact Var.au)) hS3
  clear z0 z0c z0f
  have z0 := z0'
  clear z0'
  have z0l := z0.lt
  obtain ⟨z0c, z0f⟩ := obj_facts z0
  have z1' : Var 25 w3 w1.heap.size _ := Var.stays (by (exact Var.au)) hS3
  clear z1 z1c z1f
  have z1 := z1'
  clear z1'
  have z1l := z1.lt
  obtain ⟨z1c, z1f⟩ := obj_facts z1
  go_wp2_with fail
  rw [storeF z1]
  go_wp2_with fail
  refine (expect_any (HR.out.locals (by (exact Locals.au))) [41] (by decide)).mono ?_
  intro e4 w4 hm4
  refine hm4.cases ?_ ?_
  rotate_left
  focus (intro db sb hrb heb hRb hSb; subst heb; go_wp2_with fail; ((try simp only [Exit.inBlock, Exit.then]); refine post_panic rfl ?_); exact Says.bad (HX.out.trans (Res.bind_of_bad hrb _)) (Stays.trans (a := w) (by (exact Stays.au)) hSb) hRb)
  intro a4 s4 v4 hr4 he4 hv4 hR4 hS4
  subst he4
  have HX := Lib.hid (HX.out.trans (Res.bind_of_ok hr4 _))
  have HR := Lib.hid hR4
  have HS := Lib.hid (Stays.trans (a := w) (by (exact Stays.au)) hS4)
  have Hr4 := Lib.hid hr4
  have hs4 := hS4.size
  (try simp at hs4)
  clear hm4 hr4 hR4
  obtain rfl := hv4
  have z0' : Var 25 w4 w.heap.size _ := Var.stays (by (exact Var.au)) hS4
  clear z0 z0c z0f
  have z0 := z0'
  clear z0'
  have z0l := z0.lt
  obtain ⟨z0c, z0f⟩ := obj_facts z0
  have z1' : Var 25 w4 w1.heap.size _ := Var.stays (by (exact Var.au)) hS4
  clear z1 z1c z1f
  have z1 := z1'
  clear z1'
  have z1l := z1.lt
  obtain ⟨z1c, z1f⟩ := obj_facts z1
  have Hn : Hid (Row _ w4 [a3] (.slice (some ⟨w3.heap.size, 0, none⟩) 1 1)) := Lib.hid (Row.stays (row_new' (l := [a3]) (b := w3.heap.size) (nodes_one (by (have QQ := Hw3; exact Row.au))) (by simp [maxLen]) (by simp) rfl) hS4)
  go_wp2_with fail
  (rw [storeN]; rotate_left; (exact HasN.au))
  ((try simp only [Exit.inBlock, Exit.then]); refine ret_node (by rfl) (by rfl) (by (exact Var.au)) (by first | rfl | simp) (by rfl) ?_)
  refine Says.ok HX.out (by (exact Stays.au)) ⟨_, _, rfl, (show Row _ _ [a3] (.slice (some ⟨w3.heap.size, 0, none⟩) 1 1) from Row.mono (by (have QQ := Hn; exact Row.au)) ?_)⟩ (HR.out.locals ?_)
  · intro b hb; (try simp at hb); omega
  · (exact Locals.au)
end Go.Proofs.YtbgpboiblggmiaaGreatDoor

/-
  The expressions' walks: quantifier, cond.
-/
namespace Go.Proofs.YtbgpboiblggmiaaGreatDoor
open Go.RowKit
open Px (St T D Res left)

set_option maxRecDepth 100000 in
set_option maxHeartbeats 2000000 in
theorem quantifier_rd {B E g k : Nat} (ih : AllE B E g k) {w : World} {s : St} (h : RdAt B E g w s) (q : Int) {t : Lx.Tok} {r : List Lx.Tok} (ht : s.toks = t :: r) (hk : 6 * left (Px.rest s) ≤ k) :
    Calls Tryz.prog 101 #[.pointer (some ⟨g, 0, none⟩), .int .i64 q] w (Says B E g w (encT w.heap.size) ((Px.name E (Px.rest s)).bind fun x s1 => (Px.expect E [60] s1).bind fun _ s2 => (Px.number E s2).bind fun m s3 => (Px.expect E [58] s3).bind fun _ s4 =>
      (Px.run E k .expr s4).bind fun e s5 => .ok (T.mk q x [] m 0 0 false [e] (Px.offOf E s)) s5)) := by
  have IH := Lib.hid ih
  have Hk := Lib.hid hk
  have Ht := Lib.hid ht
  clear ih hk ht
  have hlt := h.lt
  have hB := h.le
  have HR := Lib.hid h
  have HS := Lib.hid (Stays.refl B none w)
  clear h
  obtain ⟨R, hR⟩ : ∃ R, R = (Px.name E (Px.rest s)).bind fun x s1 => (Px.expect E [60] s1).bind fun _ s2 => (Px.number E s2).bind fun m s3 => (Px.expect E [58] s3).bind fun _ s4 => (Px.run E k .expr s4).bind fun e s5 => .ok (T.mk q x [] m 0 0 false [e] (Px.offOf E s)) s5 := ⟨_, rfl⟩
  rw [← hR]
  have HX := Lib.hid hR
  clear hR
  go_enter Tryz.func101, Tryz.ntmps101
  go_wp2_with fail
  refine (begin_rd (HR.out.locals (by (exact Locals.au))) q Ht.out).mono ?_
  rintro e1 w1 ⟨rfl, hS1, hR1⟩
  unfold nodeVal
  have HR := Lib.hid hR1
  have HS := Lib.hid (Stays.trans (a := w) (by (exact Stays.au)) hS1)
  have hs1 := hS1.size
  (try simp at hs1)
  clear hR1
  have z0 : Var 25 w1 w.heap.size _ := Var.stays (by (exact Var.au)) hS1
  have z0l := z0.lt
  obtain ⟨z0c, z0f⟩ := obj_facts z0
  go_wp2_with fail
  refine (name_rd (HR.out.locals (by (exact Locals.au)))).mono ?_
  intro e2 w2 hm2
  refine hm2.cases ?_ ?_
  rotate_left
  focus (intro db sb hrb heb hRb hSb; subst heb; go_wp2_with fail; ((try simp only [Exit.inBlock, Exit.then]); refine post_panic rfl ?_); exact Says.bad (HX.out.trans (Res.bind_of_bad hrb _)) (Stays.trans (a := w) (by (exact Stays.au)) hSb) hRb)
  intro a2 s2 v2 hr2 he2 hv2 hR2 hS2
  subst he2
  have HX := Lib.hid (HX.out.trans (Res.bind_of_ok hr2 _))
  have HR := Lib.hid hR2
  have HS := Lib.hid (Stays.trans (a := w) (by (exact Stays.au)) hS2)
  have Hr2 := Lib.hid hr2
  have hs2 := hS2.size
  (try simp at hs2)
  clear hm2 hr2 hR2
  obtain rfl := hv2
  have hl2 := Lib.hid (Px.name_left Hr2.out)
  have z0' : Var 25 w2 w.heap.size _ := Var.stays (by (exact Var.au)) hS2
  clear z0 z0c z0f
  have z0 := z0'
  clear z0'
  have z0l := z0.lt
  obtain ⟨z0c, z0f⟩ := obj_facts z0
  have z1 : Var 25 w2 w1.heap.size _ := Var.stays (by (exact Var.au)) hS2
  have z1l := z1.lt
  obtain ⟨z1c, z1f⟩ := obj_facts z1
  go_wp2_with fail
  rw [storeF z1]
  go_wp2_with fail
  refine (expect_any (HR.out.locals (by (exact Locals.au))) [60] (by decide)).mono ?_
  intro e3 w3 hm3
  refine hm3.cases ?_ ?_
  rotate_left
  focus (intro db sb hrb heb hRb hSb; subst heb; go_wp2_with fail; ((try simp only [Exit.inBlock, Exit.then]); refine post_panic rfl ?_); exact Says.bad (HX.out.trans (Res.bind_of_bad hrb _)) (Stays.trans (a := w) (by (exact Stays.au)) hSb) hRb)
  intro a3 s3 v3 hr3 he3 hv3 hR3 hS3
  subst he3
  have HX := Lib.hid (HX.out.trans (Res.bind_of_ok hr3 _))
  have HR := Lib.hid hR3
  have HS := Lib.hid (Stays.trans (a := w) (by (exact Stays.au)) hS3)
  have Hr3 := Lib.hid hr3
  have hs3 := hS3.size
  (try simp at hs3)
  clear hm3 hr3 hR3
  obtain rfl := hv3
  have hl3 := Lib.hid (Px.expect_left Hr3.out (by decide))
  have z0' : Var 25 w3 w.heap.size _ := Var.stays (by (exact Var.au)) hS3
  clear z0 z0c z0f
  have z0 := z0'
  clear z0'
  have z0l := z0.lt
  obtain ⟨z0c, z0f⟩ := obj_facts z0
  have z1' : Var 25 w3 w1.heap.size _ := Var.stays (by (exact Var.au)) hS3
  clear z1 z1c z1f
  have z1 := z1'
  clear z1'
  have z1l := z1.lt
  obtain ⟨z1c, z1f⟩ := obj_facts z1
  go_wp2_with fail
  refine (number_rd (HR.out.locals (by (exact Locals.au)))).mono ?_
  intro e4 w4 hm4
  refine hm4.cases ?_ ?_
  rotate_left
  focus (intro db sb hrb heb hRb hSb; subst heb; go_wp2_with fail; ((try simp only [Exit.inBlock, Exit.then]); refine post_panic rfl ?_); exact Says.bad (HX.out.trans (Res.bind_of_bad hrb _)) (Stays.trans (a := w) (by (exact Stays.au)) hSb) hRb)
  intro a4 s4 v4 hr4 he4 hv4 hR4 hS4
  subst he4
  have HX := Lib.hid (HX.out.trans (Res.bind_of_ok hr4 _))
  have HR := Lib.hid hR4
  have HS := Lib.hid (Stays.trans (a := w) (by (exact Stays.au)) hS4)
  have Hr4 := Lib.hid hr4
  have hs4 := hS4.size
  (try simp at hs4)
  clear hm4 hr4 hR4
  obtain rfl := hv4
  have hl4 := Lib.hid (Px.number_left Hr4.out)
  have z0' : Var 25 w4 w.heap.size _ := Var.stays (by (exact Var.au)) hS4
  clear z0 z0c z0f
  have z0 := z0'
  clear z0'
  have z0l := z0.lt
  obtain ⟨z0c, z0f⟩ := obj_facts z0
  have z1' : Var 25 w4 w1.heap.size _ := Var.stays (by (exact Var.au)) hS4
  clear z1 z1c z1f
  have z1 := z1'
  clear z1'
  have z1l := z1.lt
  obtain ⟨z1c, z1f⟩ := obj_facts z1
  go_wp2_with fail
  rw [storeF z1]
  go_wp2_with fail
  refine (expect_any (HR.out.locals (by (exact Locals.au))) [58] (by decide)).mono ?_
  intro e5 w5 hm5
  refine hm5.cases ?_ ?_
  rotate_left
  focus (intro db sb hrb heb hRb hSb; subst heb; go_wp2_with fail; ((try simp only [Exit.inBlock, Exit.then]); refine post_panic rfl ?_); exact Says.bad (HX.out.trans (Res.bind_of_bad hrb _)) (Stays.trans (a := w) (by (exact Stays.au)) hSb) hRb)
  intro a5 s5 v5 hr5 he5 hv5 hR5 hS5
  subst he5
  have HX := Lib.hid (HX.out.trans (Res.bind_of_ok hr5 _))
  have HR := Lib.hid hR5
  have HS := Lib.hid (Stays.trans (a := w) (by (exact Stays.au)) hS5)
  have Hr5 := Lib.hid hr5
  have hs5 := hS5.size
  (try simp at hs5)
  clear hm5 hr5 hR5
  obtain rfl := hv5
  have hl5 := Lib.hid (Px.expect_left Hr5.out (by decide))
  have hf6 : 6 * left s5 + 5 ≤ k := by have := Hk.out; have := hl2.out; have := hl3.out; have := hl4.out; have := hl5.out; omega
  have z0' : Var 25 w5 w.heap.size _ := Var.stays (by (exact Var.au)) hS5
  clear z0 z0c z0f
  have z0 := z0'
  clear z0'
  have z0l := z0.lt
  obtain ⟨z0c, z0f⟩ := obj_facts z0
  have z1' : Var 25 w5 w1.heap.size _ := Var.stays (by (exact Var.au)) hS5
  clear z1 z1c z1f
  have z1 := z1'
  clear z1'
  have z1l := z1.lt
  obtain ⟨z1c, z1f⟩ := obj_facts z1
  go_wp2_with fail
  refine (IH.out.expr _ _ (HR.out.locals (by (exact Locals.au))) hf6).mono ?_
  intro e6 w6 hm6
  refine hm6.cases ?_ ?_
  rotate_left
  focus (intro db sb hrb heb hRb hSb; subst heb; go_wp2_with fail; ((try simp only [Exit.inBlock, Exit.then]); refine post_panic rfl ?_); exact Says.bad (HX.out.trans (Res.bind_of_bad hrb _)) (Stays.trans (a := w) (by (exact Stays.au)) hSb) hRb)
  intro a6 s6 v6 hr6 he6 hv6 hR6 hS6
  subst he6
  have HX := Lib.hid (HX.out.trans (Res.bind_of_ok hr6 _))
  have HR := Lib.hid hR6
  have HS := Lib.hid (Stays.trans (a := w) (by (exact Stays.au)) hS6)
  have Hr6 := Lib.hid hr6
  have hs6 := hS6.size
  (try simp at hs6)
  clear hm6 hr6 hR6
  obtain ⟨p6, c6, rfl, hw6⟩ := hv6
  have Hw6 := Lib.hid hw6.lt
  clear hw6
  unfold nodeVal
  have z0' : Var 25 w6 w.heap.size _ := Var.stays (by (exact Var.au)) hS6
  clear z0 z0c z0f
  have z0 := z0'
  clear z0'
  have z0l := z0.lt
  obtain ⟨z0c, z0f⟩ := obj_facts z0
  have z1' : Var 25 w6 w1.heap.size _ := Var.stays (by (exact Var.au)) hS6
  clear z1 z1c z1f
  have z1 := z1'
  clear z1'
  have z1l := z1.lt
  obtain ⟨z1c, z1f⟩ := obj_facts z1
  go_wp2_with fail
  rw [storeF z1]
  (rw [storeN]; rotate_left; (exact HasN.au))
  ((try simp only [Exit.inBlock, Exit.then]); refine ret_node (by rfl) (by rfl) (by (exact Var.au)) (by first | rfl | simp) (by rfl) ?_)
  refine Says.ok HX.out (by (exact Stays.au)) ⟨_, _, rfl, (show Row _ _ [a6] (.slice (some ⟨w6.heap.size, 0, none⟩) 1 1) from Row.mono (row_new' (l := [a6]) (b := w6.heap.size) (nodes_one (by (have QQ := Hw6; exact Row.au))) (by simp [maxLen]) (by simp) rfl) ?_)⟩ (HR.out.locals ?_)
  · intro b hb; (try simp at hb); omega
  · (exact Locals.au)

set_option maxRecDepth 100000 in
set_option maxHeartbeats 2000000 in
theorem cond_rd {B E g k : Nat} (ih : AllE B E g k) {w : World} {s : St} (h : RdAt B E g w s) (hk : 6 * left s + 4 ≤ k + 1) :
    Calls Tryz.prog 102 #[.pointer (some ⟨g, 0, none⟩)] w (Says B E g w (encT w.heap.size) (Px.run E (k + 1) .cond s)) := by
  have IH := Lib.hid ih
  have Hk := Lib.hid hk
  have hf1 : 6 * left s + 3 ≤ k := by omega
  clear ih hk
  have hF := tokF2
  have hlt := h.lt
  have hB := h.le
  have HR := Lib.hid h
  have HS := Lib.hid (Stays.refl B none w)
  clear h
  obtain ⟨R, hR⟩ : ∃ R, R = Px.run E (k + 1) .cond s := ⟨_, rfl⟩
  rw [← hR]
  rw [Px.run] at hR
  have HX := Lib.hid hR
  clear hR
  go_enter Tryz.func102, Tryz.ntmps102
  go_wp2_with fail
  refine (IH.out.bin _ _ 1 (by decide) (by decide) (HR.out.locals (by (exact Locals.au))) hf1).mono ?_
  intro e1 w1 hm1
  refine hm1.cases ?_ ?_
  rotate_left
  focus (intro db sb hrb heb hRb hSb; subst heb; go_wp2_with fail; ((try simp only [Exit.inBlock, Exit.then]); refine post_panic rfl ?_); exact Says.bad (HX.out.trans (Res.bind_of_bad hrb _)) (Stays.trans (a := w) (by (exact Stays.au)) hSb) hRb)
  intro a1 s1 v1 hr1 he1 hv1 hR1 hS1
  subst he1
  have HX := Lib.hid (HX.out.trans (Res.bind_of_ok hr1 _))
  have HR := Lib.hid hR1
  have HS := Lib.hid (Stays.trans (a := w) (by (exact Stays.au)) hS1)
  have Hr1 := Lib.hid hr1
  have hs1 := hS1.size
  (try simp at hs1)
  clear hm1 hr1 hR1
  obtain ⟨p1, c1, rfl, hw1⟩ := hv1
  have Hw1 := Lib.hid hw1.lt
  clear hw1
  unfold nodeVal
  have hl1 := Lib.hid (Px.run_left _ _ Hr1.out)
  have z0 : Var 25 w1 w.heap.size _ := Var.stays (by (exact Var.au)) hS1
  have z0l := z0.lt
  obtain ⟨z0c, z0f⟩ := obj_facts z0
  go_wp2_with fail
  refine (peek_any (HR.out.locals (by (exact Locals.au)))).mono ?_
  rintro e2 w2 ⟨rfl, hb2⟩
  unfold tokVal
  have hS2 := (Stays.refl B none _).below hb2 (Nat.le_refl _)
  have HR := Lib.hid (RdAt.of_below (HR.out.locals (by (exact Locals.au))) hb2 (Nat.le_refl _))
  have HS := Lib.hid (Stays.trans (a := w) (by (exact Stays.au)) hS2)
  have hs2 := hS2.size
  (try simp at hs2)
  clear hb2
  have z0' : Var 25 w2 w.heap.size _ := Var.stays (by (exact Var.au)) hS2
  clear z0 z0c z0f
  have z0 := z0'
  clear z0'
  have z0l := z0.lt
  obtain ⟨z0c, z0f⟩ := obj_facts z0
  have z1 : Var 25 w2 w1.heap.size _ := Var.stays (by (exact Var.au)) hS2
  have z1l := z1.lt
  obtain ⟨z1c, z1f⟩ := obj_facts z1
  have Hw1 := Lib.hid (Row.stays (by (have QQ := Hw1; exact Row.au)) hS2)
  go_wp2_with fail
  refine (accept_any (HR.out.locals (by (exact Locals.au))) [63] (by decide)).mono ?_
  rintro e3 w3 ⟨rfl, hS3, hR3⟩
  have HR := Lib.hid hR3
  have HS := Lib.hid (Stays.trans (a := w) (by (exact Stays.au)) hS3)
  have hs3 := hS3.size
  (try simp at hs3)
  clear hR3
  have z0' : Var 25 w3 w.heap.size _ := Var.stays (by (exact Var.au)) hS3
  clear z0 z0c z0f
  have z0 := z0'
  clear z0'
  have z0l := z0.lt
  obtain ⟨z0c, z0f⟩ := obj_facts z0
  have z1' : Var 25 w3 w1.heap.size _ := Var.stays (by (exact Var.au)) hS3
  clear z1 z1c z1f
  have z1 := z1'
  clear z1'
  have z1l := z1.lt
  obtain ⟨z1c, z1f⟩ := obj_facts z1
  have Hw1 := Lib.hid (Row.stays (by (have QQ := Hw1; exact Row.au)) hS3)
  cases hac : Px.accepts E [63] s1
  · have HR := Lib.hid (show RdAt B E g w3 s1 by have := HR.out; unfold Px.accepted at this; rw [if_neg (by rw [hac]; decide)] at this; exact this)
    have HX := Lib.hid (HX.out.trans (if_neg (by rw [hac]; decide)))
    clear hac
    go_wp2_with fail
    (rw [storeN]; rotate_left; (exact HasN.au))
    ((try simp only [Exit.inBlock, Exit.then]); refine ret_node (by rfl) (by rfl) (by (exact Var.au)) (by first | rfl | simp) (by rfl) ?_)
    refine Says.ok HX.out (by (exact Stays.au)) ⟨_, _, rfl, (show Row _ _ a1.kids (.slice p1 a1.kids.length c1) from Row.mono (by (have QQ := Hw1; exact Row.au)) ?_)⟩ (HR.out.locals ?_)
    · intro b hb; (try simp at hb); omega
    · (exact Locals.au)
  · have HR := Lib.hid (show RdAt B E g w3 (Px.rest s1) by have := HR.out; unfold Px.accepted at this; rw [if_pos hac] at this; exact this)
    have HX := Lib.hid (HX.out.trans (if_pos hac))
    have hl3 := Px.acc_left hac (by decide)
    have hf4 : 6 * left (Px.rest s1) + 4 ≤ k := by have := Hk.out; have := hl1.out; simp [Px.takes] at this; omega
    have hl3 := Lib.hid hl3
    clear hac
    go_wp2_with fail
    refine (IH.out.cond _ _ (HR.out.locals (by (exact Locals.au))) hf4).mono ?_
    intro e4 w4 hm4
    refine hm4.cases ?_ ?_
    rotate_left
    focus (intro db sb hrb heb hRb hSb; subst heb; go_wp2_with fail; ((try simp only [Exit.inBlock, Exit.then]); refine post_panic rfl ?_); exact Says.bad (HX.out.trans (Res.bind_of_bad hrb _)) (Stays.trans (a := w) (by (exact Stays.au)) hSb) hRb)
    intro a4 s4 v4 hr4 he4 hv4 hR4 hS4
    subst he4
    have HX := Lib.hid (HX.out.trans (Res.bind_of_ok hr4 _))
    have HR := Lib.hid hR4
    have HS := Lib.hid (Stays.trans (a := w) (by (exact Stays.au)) hS4)
    have Hr4 := Lib.hid hr4
    have hs4 := hS4.size
    (try simp at hs4)
    clear hm4 hr4 hR4
    obtain ⟨p4, c4, rfl, hw4⟩ := hv4
    have Hw4 := Lib.hid hw4.lt
    clear hw4
    unfold nodeVal
    have hl4 := Lib.hid (Px.run_left _ _ Hr4.out)
    have z0' : Var 25 w4 w.heap.size _ := Var.stays (by (exact Var.au)) hS4
    clear z0 z0c z0f
    have z0 := z0'
    clear z0'
    have z0l := z0.lt
    obtain ⟨z0c, z0f⟩ := obj_facts z0
    have z1' : Var 25 w4 w1.heap.size _ := Var.stays (by (exact Var.au)) hS4
    clear z1 z1c z1f
    have z1 := z1'
    clear z1'
    have z1l := z1.lt
    obtain ⟨z1c, z1f⟩ := obj_facts z1
    have Hw1 := Lib.hid (Row.stays (by (have QQ := Hw1; exact Row.au)) hS4)
    go_wp2_with fail
    refine (expect_any (HR.out.locals (by (exact Locals.au))) [58] (by decide)).mono ?_
    intro e5 w5 hm5
    refine hm5.cases ?_ ?_
    rotate_left
    focus (intro db sb hrb heb hRb hSb; subst heb; go_wp2_with fail; ((try simp only [Exit.inBlock, Exit.then]); refine post_panic rfl ?_); exact Says.bad (HX.out.trans (Res.bind_of_bad hrb _)) (Stays.trans (a := w) (by (exact Stays.au)) hSb) hRb)
    intro a5 s5 v5 hr5 he5 hv5 hR5 hS5
    subst he5
    have HX := Lib.hid (HX.out.trans (Res.bind_of_ok hr5 _))
    have HR := Lib.hid hR5
    have HS := Lib.hid (Stays.trans (a := w) (by (exact Stays.au)) hS5)
    have Hr5 := Lib.hid hr5
    have hs5 := hS5.size
    (try simp at hs5)
    clear hm5 hr5 hR5
    obtain rfl := hv5
    have hl5 := Px.expect_left Hr5.out (by decide)
    have hf6 : 6 * left s5 + 4 ≤ k := by have := hl4.out; simp [Px.takes] at this; have := hl3.out; omega
    clear hl5
    have z0' : Var 25 w5 w.heap.size _ := Var.stays (by (exact Var.au)) hS5
    clear z0 z0c z0f
    have z0 := z0'
    clear z0'
    have z0l := z0.lt
    obtain ⟨z0c, z0f⟩ := obj_facts z0
    have z1' : Var 25 w5 w1.heap.size _ := Var.stays (by (exact Var.au)) hS5
    clear z1 z1c z1f
    have z1 := z1'
    clear z1'
    have z1l := z1.lt
    obtain ⟨z1c, z1f⟩ := obj_facts z1
    have z4 : Var 25 w5 w4.heap.size _ := Var.stays (by (exact Var.au)) hS5
    have z4l := z4.lt
    obtain ⟨z4c, z4f⟩ := obj_facts z4
    have Hw1 := Lib.hid (Row.stays (by (have QQ := Hw1; exact Row.au)) hS5)
    have Hw4 := Lib.hid (Row.stays (by (have QQ := Hw4; exact Row.au)) hS5)
    go_wp2_with fail
    refine (IH.out.cond _ _ (HR.out.locals (by (exact Locals.au))) hf6).mono ?_
    intro e6 w6 hm6
    refine hm6.cases ?_ ?_
    rotate_left
    focus (intro db sb hrb heb hRb hSb; subst heb; go_wp2_with fail; ((try simp only [Exit.inBlock, Exit.then]); refine post_panic rfl ?_); exact Says.bad (HX.out.trans (Res.bind_of_bad hrb _)) (Stays.trans (a := w) (by (exact Stays.au)) hSb) hRb)
    intro a6 s6 v6 hr6 he6 hv6 hR6 hS6
    subst he6
    have HX := Lib.hid (HX.out.trans (Res.bind_of_ok hr6 _))
    have HR := Lib.hid hR6
    have HS := Lib.hid (Stays.trans (a := w) (by (exact Stays.au)) hS6)
    have Hr6 := Lib.hid hr6
    have hs6 := hS6.size
    (try simp at hs6)
    clear hm6 hr6 hR6
    obtain ⟨p6, c6, rfl, hw6⟩ := hv6
    have Hw6 := Lib.hid hw6.lt
    clear hw6
    unfold nodeVal
    have z0' : Var 25 w6 w.heap.size _ := Var.stays (by (exact Var.au)) hS6
    clear z0 z0c z0f
    have z0 := z0'
    clear z0'
    have z0l := z0.lt
    obtain ⟨z0c, z0f⟩ := obj_facts z0
    have z1' : Var 25 w6 w1.heap.size _ := Var.stays (by (exact Var.au)) hS6
    clear z1 z1c z1f
    have z1 := z1'
    clear z1'
    have z1l := z1.lt
    obtain ⟨z1c, z1f⟩ := obj_facts z1
    have z4' : Var 25 w6 w4.heap.size _ := Var.stays (by (exact Var.au)) hS6
    clear z4 z4c z4f
    have z4 := z4'
    clear z4'
    have z4l := z4.lt
    obtain ⟨z4c, z4f⟩ := obj_facts z4
    have Hw1 := Lib.hid (Row.stays (by (have QQ := Hw1; exact Row.au)) hS6)
    have Hw4 := Lib.hid (Row.stays (by (have QQ := Hw4; exact Row.au)) hS6)
    go_wp2_with fail
    (rw [storeN]; rotate_left; (exact HasN.au))
    ((try simp only [Exit.inBlock, Exit.then]); refine ret_node (by rfl) (by rfl) (by (exact Var.au)) (by first | rfl | simp) (by rfl) ?_)
    refine Says.ok HX.out (by (exact Stays.au)) ⟨_, _, rfl, (show Row _ _ [a1, a4, a6] (.slice (some ⟨w6.heap.size + 1, 0, none⟩) 3 3) from Row.mono (row_new' (S := fun b => w.heap.size < b ∧ b < w6.heap.size) (l := [a1, a4, a6]) (b := w6.heap.size + 1) (nodes_cons (Row.mono (by (have QQ := Hw1; exact Row.au)) (by intro b hb; (try simp at hb); (try simp); omega)) (nodes_cons (Row.mono (by (have QQ := Hw4; exact Row.au)) (by intro b hb; (try simp at hb); (try simp); omega)) (nodes_one (Row.mono (by (have QQ := Hw6; exact Row.au)) (by intro b hb; (try simp at hb); (try simp); omega))))) (by simp [maxLen]) (by simp) rfl) ?_)⟩ (HR.out.locals ?_)
    · intro b hb; (try simp at hb); omega
    · (exact Locals.au)
end Go.Proofs.YtbgpboiblggmiaaGreatDoor

/-
  The expressions' walks: levels of operators, binary.
-/
namespace Go.Proofs.YtbgpboiblggmiaaGreatDoor
open Go.RowKit
open Px (St T D Res left)

set_option maxRecDepth 100000 in
set_option maxHeartbeats 1000000 in
theorem level_any (x : Px.Str) (w : World) : Calls Tryz.prog 125 #[.string ⟨x.toArray⟩] w fun e w' => e = .returned (.int .i64 (Px.level x)) ∧ w = w' := by
  obtain ⟨R, hR⟩ : ∃ R, R = Px.level x := ⟨_, rfl⟩
  have HR := Lib.hid hR
  rw [← hR]
  clear hR
  go_enter Tryz.func125, Tryz.ntmps125
  go_wp2
  all_goals go_ret
  all_goals refine ⟨?_, rfl⟩
  all_goals rw [HR.out]
  all_goals clear HR
  all_goals first | (rename_i h; have h' := eq_of_beq h; subst h'; rfl) | simp_all [Px.level]
set_option maxRecDepth 100000 in
set_option maxHeartbeats 1000000 in
theorem least_any (n : Int) (h0 : 0 ≤ n) (h9 : n ≤ 9) (w : World) : Calls Tryz.prog 146 #[.int .i64 n] w fun e w' => e = .returned (.int .i64 (Px.leastOnTheRight n)) ∧ w = w' := by
  by_cases h : n = 1
  · subst h
    go_enter Tryz.func146, Tryz.ntmps146
    go_wp2
    go_ret
    exact ⟨rfl, rfl⟩
  · have HD := Lib.hid (show Px.leastOnTheRight n = n + 1 by unfold Px.leastOnTheRight; rw [if_neg h])
    rw [HD.out]
    go_enter Tryz.func146, Tryz.ntmps146
    go_wp2
    go_ret
    exact ⟨by go_num, rfl⟩
set_option maxRecDepth 100000 in
set_option maxHeartbeats 1000000 in
theorem most_any (n : Int) (h0 : 0 ≤ n) (h9 : n ≤ 9) (w : World) : Calls Tryz.prog 147 #[.int .i64 n] w fun e w' => e = .returned (.int .i64 (Px.mostAfter n)) ∧ w = w' := by
  by_cases h : n = 4
  · subst h
    go_enter Tryz.func147, Tryz.ntmps147
    go_wp2
    go_ret
    exact ⟨rfl, rfl⟩
  · have HD := Lib.hid (show Px.mostAfter n = n by unfold Px.mostAfter; rw [if_neg h])
    rw [HD.out]
    go_enter Tryz.func147, Tryz.ntmps147
    go_wp2
    go_ret
    exact ⟨rfl, rfl⟩
theorem level_range (x : Px.Str) : 0 ≤ Px.level x ∧ Px.level x ≤ 9 := by
  unfold Px.level
  repeat' split
  all_goals decide
theorem level_pos {E : Nat} {s : St} (h : 1 ≤ Px.level (Px.text E s)) : ∃ t r, s.toks = t :: r := by
  cases hs : s.toks with
  | cons t r => exact ⟨t, r, rfl⟩
  | nil =>
    unfold Px.text Px.peek at h
    rw [hs] at h
    exact absurd (show 1 ≤ Px.level [] from h) (by decide)
theorem cons_left {s : St} {t : Lx.Tok} {r : List Lx.Tok} (h : s.toks = t :: r) : left (Px.rest s) + 1 = left s := by
  unfold Px.left Px.rest
  rw [h]
  rfl

/-- how many tokens a reader has left, out of its cells -/
def tokLen (g : Nat) (w : World) : Nat := match w.cell? ⟨g, 0, none⟩ with | some (.slice _ n _) => n | _ => 0
theorem RdAt.tokLen {B E g : Nat} {w : World} {s : St} (h : RdAt B E g w s) : tokLen g w = left s := by
  obtain ⟨ta, tc, km, dv, hB, hg, _⟩ := h
  unfold Proofs.YtbgpboiblggmiaaGreatDoor.tokLen
  rw [cell_of_obj hg]
  rfl
/-- the fuel of a loop's round -/
structure LoopOk (k kk : Nat) (s : St) : Prop where
  a : 6 * left s + 1 ≤ kk
  b : kk ≤ k
end Go.Proofs.YtbgpboiblggmiaaGreatDoor

/-
  The expressions' walks: binary.
-/
namespace Go.Proofs.YtbgpboiblggmiaaGreatDoor
open Go.RowKit
open Px (St T D Res left)

set_option maxRecDepth 100000 in
set_option maxHeartbeats 4000000 in
theorem binary_rd {B E g k : Nat} (ih : ∀ j, j ≤ k → AllE B E g j) {w : World} {s : St} (least : Int) (h1 : 1 ≤ least) (h10 : least ≤ 10) (h : RdAt B E g w s) (hk : 6 * left s + 3 ≤ k + 1) :
    Calls Tryz.prog 127 #[.pointer (some ⟨g, 0, none⟩), .int .i64 least] w (Says B E g w (encT w.heap.size) (Px.run E (k + 1) (.bin least) s)) := by
  have IH := Lib.hid ih
  have hf1 : 6 * left s + 2 ≤ k := by omega
  have Hf := Lib.hid hf1
  clear ih hk
  have hlt := h.lt
  have hB := h.le
  have HR := Lib.hid h
  have HS := Lib.hid (Stays.refl B none w)
  clear h
  obtain ⟨R, hR⟩ : ∃ R, R = Px.run E (k + 1) (.bin least) s := ⟨_, rfl⟩
  rw [← hR]
  rw [Px.run] at hR
  have HX := Lib.hid hR
  clear hR
  go_enter Tryz.func127, Tryz.ntmps127
  go_wp2_with fail
  refine ((IH.out k (Nat.le_refl _)).unary _ _ (HR.out.locals (by (exact Locals.au))) hf1).mono ?_
  intro e1 w1 hm1
  refine hm1.cases ?_ ?_
  rotate_left
  focus (intro db sb hrb heb hRb hSb; subst heb; go_wp2_with fail; ((try simp only [Exit.inBlock, Exit.then]); refine post_panic rfl ?_); exact Says.bad (HX.out.trans (Res.bind_of_bad hrb _)) (Stays.trans (a := w) (by (exact Stays.au)) hSb) hRb)
  intro a1 s1 v1 hr1 he1 hv1 hR1 hS1
  subst he1
  have HX := Lib.hid (HX.out.trans (Res.bind_of_ok hr1 _))
  have HR := Lib.hid hR1
  have HS := Lib.hid (Stays.trans (a := w) (by (exact Stays.au)) hS1)
  have Hr1 := Lib.hid hr1
  have hs1 := hS1.size
  (try simp at hs1)
  clear hm1 hr1 hR1
  obtain ⟨p1, c1, rfl, hw1⟩ := hv1
  have Hw1 := Lib.hid hw1.lt
  clear hw1
  unfold nodeVal
  have hl1 := Px.run_left _ _ Hr1.out
  have HL0 : LoopOk k k s1 := ⟨by have := Hf.out; simp [Px.takes] at hl1; omega, Nat.le_refl _⟩
  clear hl1 hf1
  have z0 : Var 25 w1 w.heap.size _ := Var.stays (by (exact Var.au)) hS1
  have z0l := z0.lt
  obtain ⟨z0c, z0f⟩ := obj_facts z0
  go_wp2_with fail
  go_loopw [6] (fun mo wr => ∃ (kk : Nat) (sr : St) (n : T) (most : Int) (pn : Option Addr) (cn : Nat), mo = .int .i64 most ∧ Hid (R = Px.run E kk (.loop least most n) sr) ∧ Hid (RdAt B E g wr sr) ∧ Hid (Stays B none w wr) ∧ Hid (LoopOk k kk sr) ∧
    Hid (Var 25 wr w1.heap.size #[.int .i64 n.kind, .string ⟨n.name.toArray⟩, .string ⟨n.other.toArray⟩, .int .i64 n.n, .int .i64 n.len, .int .i64 n.init, .bool n.ghost, .slice pn n.kids.length cn, .int .i64 n.off]) ∧
    Hid (Var 25 wr w.heap.size #[.int .i64 0, .string ⟨#[]⟩, .string ⟨#[]⟩, .int .i64 0, .int .i64 0, .int .i64 0, .bool false, .slice none 0 0, .int .i64 0]) ∧ Hid (Row (fun b => w.heap.size < b ∧ b < wr.heap.size ∧ b ≠ w1.heap.size) wr n.kids (.slice pn n.kids.length cn))) (fun _ wr => tokLen g wr)
  case atStart =>
    refine ⟨k, s1, a1, 9, p1, c1, rfl, HX, Lib.hid (HR.out.locals (by (exact Locals.au))), Lib.hid (by (exact Stays.au)), Lib.hid HL0, Lib.hid (by (exact Var.au)), Lib.hid (by (exact Var.au)), Lib.hid (Row.mono (by (have QQ := Hw1; exact Row.au)) ?_)⟩
    intro b hb; (try simp at hb); (try simp); omega
  case round =>
    obtain ⟨kk, sr, n, most, pn, cn, rfl, HX, HR, HS, HL, Hv1, Hv0, Hw⟩ := hrel
    obtain ⟨k2, rfl⟩ : ∃ k2, kk = k2 + 1 := ⟨kk - 1, by have := HL.out.a; omega⟩
    have z0 := Hv0.out
    have z1 := Hv1.out
    obtain ⟨z0c, z0f⟩ := obj_facts z0
    have z0l := z0.lt
    obtain ⟨z1c, z1f⟩ := obj_facts z1
    have z1l := z1.lt
    have Ht0 := Lib.hid (HR.out.tokLen)
    have HX := Lib.hid (show R = if Px.level (Px.text E sr) < least ∨ most < Px.level (Px.text E sr) then .ok n sr else (Px.run E k2 (.bin (Px.leastOnTheRight (Px.level (Px.text E sr)))) (Px.rest sr)).bind fun m s1 => Px.run E k2 (.loop least (Px.mostAfter (Px.level (Px.text E sr))) (T.named 5 (Px.offOf E sr) (Px.text E sr) [n, m])) s1 from HX.out.trans (by rw [Px.run]))
    clear Hv0 Hv1
    go_wp2_with fail
    refine (peek_any (HR.out.locals (by (exact Locals.au)))).mono ?_
    rintro e2 w2 ⟨rfl, hb2⟩
    unfold tokVal
    have hS2 := (Stays.refl B none _).below hb2 (Nat.le_refl _)
    have HR := Lib.hid (RdAt.of_below (HR.out.locals (by (exact Locals.au))) hb2 (Nat.le_refl _))
    have HS := Lib.hid (Stays.trans (a := w) (by (exact Stays.au)) hS2)
    have hs2 := hS2.size
    (try simp at hs2)
    clear hb2
    have z0' : Var 25 w2 w.heap.size _ := Var.stays (by (exact Var.au)) hS2
    clear z0 z0c z0f
    have z0 := z0'
    clear z0'
    have z0l := z0.lt
    obtain ⟨z0c, z0f⟩ := obj_facts z0
    have z1' : Var 25 w2 w1.heap.size _ := Var.stays (by (exact Var.au)) hS2
    clear z1 z1c z1f
    have z1 := z1'
    clear z1'
    have z1l := z1.lt
    obtain ⟨z1c, z1f⟩ := obj_facts z1
    have Hw := Lib.hid (Row.stays (by (have QQ := Hw; exact Row.au)) hS2)
    go_wp2_with fail
    refine (level_any _ _).mono ?_
    rintro e3 w3 ⟨rfl, rfl⟩
    by_cases ha : Px.level (Px.peek E sr).text < least
    · have HX := Lib.hid (HX.out.trans (if_pos (.inl ha)))
      go_wp2_with fail
      (rw [storeN]; rotate_left; (exact HasN.au))
      ((try simp only [Exit.inBlock, Exit.then]); refine ret_node (by rfl) (by rfl) (by (exact Var.au)) (by first | rfl | simp) (by rfl) ?_)
      refine Says.ok HX.out (by (exact Stays.au)) ⟨_, _, rfl, (show Row _ _ n.kids (.slice pn n.kids.length cn) from Row.mono (by (have QQ := Hw; exact Row.au)) ?_)⟩ (HR.out.locals ?_)
      · intro b hb; (try simp at hb); omega
      · (exact Locals.au)
    · by_cases hb : most < Px.level (Px.peek E sr).text
      · have HX := Lib.hid (HX.out.trans (if_pos (.inr hb)))
        go_wp2_with fail
        (rw [storeN]; rotate_left; (exact HasN.au))
        ((try simp only [Exit.inBlock, Exit.then]); refine ret_node (by rfl) (by rfl) (by (exact Var.au)) (by first | rfl | simp) (by rfl) ?_)
        refine Says.ok HX.out (by (exact Stays.au)) ⟨_, _, rfl, (show Row _ _ n.kids (.slice pn n.kids.length cn) from Row.mono (by (have QQ := Hw; exact Row.au)) ?_)⟩ (HR.out.locals ?_)
        · intro b hb; (try simp at hb); omega
        · (exact Locals.au)
      · have HX := Lib.hid (HX.out.trans (if_neg (by rintro (h | h); exact ha h; exact hb h)))
        obtain ⟨t, r, ht⟩ := level_pos (E := E) (s := sr) (by unfold Px.text; omega)
        have hlt4 := cons_left ht
        have hfb : 6 * left (Px.rest sr) + 3 ≤ k2 := by have := HL.out.a; omega
        have Hlev := Lib.hid (level_range (Px.peek E sr).text)
        have Ht := Lib.hid ht
        have Hlt4 := Lib.hid hlt4
        clear hlt4 ht
        go_wp2_with fail
        refine (take_any (HR.out.locals (by (exact Locals.au))) Ht.out).mono ?_
        rintro e4 w4 ⟨rfl, hS4, hR4⟩
        have HR := Lib.hid hR4
        have HS := Lib.hid (Stays.trans (a := w) (by (exact Stays.au)) hS4)
        have hs4 := hS4.size
        (try simp at hs4)
        clear hR4
        have z0' : Var 25 w4 w.heap.size _ := Var.stays (by (exact Var.au)) hS4
        clear z0 z0c z0f
        have z0 := z0'
        clear z0'
        have z0l := z0.lt
        obtain ⟨z0c, z0f⟩ := obj_facts z0
        have z1' : Var 25 w4 w1.heap.size _ := Var.stays (by (exact Var.au)) hS4
        clear z1 z1c z1f
        have z1 := z1'
        clear z1'
        have z1l := z1.lt
        obtain ⟨z1c, z1f⟩ := obj_facts z1
        have z2 : Var 53 w4 w2.heap.size _ := Var.staysT (by (exact Var.au)) hS4
        have z2l := z2.lt
        obtain ⟨z2c, z2f⟩ := obj_facts z2
        have Hw := Lib.hid (Row.stays (by (have QQ := Hw; exact Row.au)) hS4)
        unfold tokVal
        go_wp2_with fail
        refine (least_any _ Hlev.out.1 Hlev.out.2 _).mono ?_
        rintro e5 w5 ⟨rfl, rfl⟩
        have hkb : k2 ≤ k := by have := HL.out.b; omega
        have HLR := Lib.hid (show 1 ≤ Px.leastOnTheRight (Px.level (Px.peek E sr).text) ∧ Px.leastOnTheRight (Px.level (Px.peek E sr).text) ≤ 10 by
          have := Hlev.out
          unfold Px.leastOnTheRight
          split <;> omega)
        go_wp2_with fail
        refine ((IH.out k2 hkb).bin _ _ _ HLR.out.1 HLR.out.2 (HR.out.locals (by (exact Locals.au))) hfb).mono ?_
        intro e6 w6 hm6
        refine hm6.cases ?_ ?_
        rotate_left
        focus (intro db sb hrb heb hRb hSb; subst heb; go_wp2_with fail; ((try simp only [Exit.inBlock, Exit.then]); refine post_panic rfl ?_); exact Says.bad (HX.out.trans (Res.bind_of_bad hrb _)) (Stays.trans (a := w) (by (exact Stays.au)) hSb) hRb)
        intro a6 s6 v6 hr6 he6 hv6 hR6 hS6
        subst he6
        have HX := Lib.hid (HX.out.trans (Res.bind_of_ok hr6 _))
        have HR := Lib.hid hR6
        have HS := Lib.hid (Stays.trans (a := w) (by (exact Stays.au)) hS6)
        have Hr6 := Lib.hid hr6
        have hs6 := hS6.size
        (try simp at hs6)
        clear hm6 hr6 hR6
        obtain ⟨p6, c6, rfl, hw6⟩ := hv6
        have Hw6 := Lib.hid hw6.lt
        clear hw6
        unfold nodeVal
        have z0' : Var 25 w6 w.heap.size _ := Var.stays (by (exact Var.au)) hS6
        clear z0 z0c z0f
        have z0 := z0'
        clear z0'
        have z0l := z0.lt
        obtain ⟨z0c, z0f⟩ := obj_facts z0
        have z1' : Var 25 w6 w1.heap.size _ := Var.stays (by (exact Var.au)) hS6
        clear z1 z1c z1f
        have z1 := z1'
        clear z1'
        have z1l := z1.lt
        obtain ⟨z1c, z1f⟩ := obj_facts z1
        have z2' : Var 53 w6 w2.heap.size _ := Var.staysT (by (exact Var.au)) hS6
        clear z2 z2c z2f
        have z2 := z2'
        clear z2'
        have z2l := z2.lt
        obtain ⟨z2c, z2f⟩ := obj_facts z2
        have Hw := Lib.hid (Row.stays (by (have QQ := Hw; exact Row.au)) hS6)
        have hl6 := Px.run_left _ _ Hr6.out
        have HL6 := Lib.hid (show LoopOk k k2 s6 from ⟨by have := HL.out.a; have := Hlt4.out; simp [Px.takes] at hl6; omega, hkb⟩)
        have Hl6 := Lib.hid hl6
        clear hl6 hfb hkb
        go_wp2_with fail
        refine (most_any _ Hlev.out.1 Hlev.out.2 _).mono ?_
        rintro e7 w7 ⟨rfl, rfl⟩
        go_wp2_with fail
        (rw [storeN]; rotate_left; (exact HasN.au))
        have HRe := Lib.hid (HR.out.locals (w' := ((w6.setRow w1.heap.size #[.int .i64 5, .string ⟨(Px.peek E sr).text.toArray⟩, .string ⟨#[]⟩, .int .i64 0, .int .i64 0, .int .i64 0, .bool false, .slice (some ⟨w6.heap.size + 1, 0, none⟩) 2 2, .int .i64 (Px.peek E sr).off]).alloc (.cells #[.int .i64 a6.kind, .string ⟨a6.name.toArray⟩, .string ⟨a6.other.toArray⟩, .int .i64 a6.n, .int .i64 a6.len, .int .i64 a6.init, .bool a6.ghost, .slice p6 a6.kids.length c6, .int .i64 a6.off] 25)).alloc (.cells #[.int .i64 n.kind, .string ⟨n.name.toArray⟩, .string ⟨n.other.toArray⟩, .int .i64 n.n, .int .i64 n.len, .int .i64 n.init, .bool n.ghost, .slice pn n.kids.length cn, .int .i64 n.off, .int .i64 a6.kind, .string ⟨a6.name.toArray⟩, .string ⟨a6.other.toArray⟩, .int .i64 a6.n, .int .i64 a6.len, .int .i64 a6.init, .bool a6.ghost, .slice p6 a6.kids.length c6, .int .i64 a6.off] 25)) (by (exact Locals.au)))
        refine ⟨⟨k2, s6, T.named 5 (Px.offOf E sr) (Px.text E sr) [n, a6], Px.mostAfter (Px.level (Px.text E sr)), some ⟨w6.heap.size + 1, 0, none⟩, 2, rfl, HX, HRe, Lib.hid (by (exact Stays.au)), HL6, Lib.hid (show Var 25 _ w1.heap.size #[.int .i64 5, .string ⟨(Px.peek E sr).text.toArray⟩, .string ⟨#[]⟩, .int .i64 0, .int .i64 0, .int .i64 0, .bool false, .slice (some ⟨w6.heap.size + 1, 0, none⟩) 2 2, .int .i64 (Px.peek E sr).off] from by (exact Var.au)), Lib.hid (by (exact Var.au)), Lib.hid ?_⟩, ?_⟩
        · refine (show Row _ _ [n, a6] (.slice (some ⟨w6.heap.size + 1, 0, none⟩) 2 2) from Row.mono (row_new' (S := fun b => w.heap.size < b ∧ b < w6.heap.size ∧ b ≠ w1.heap.size) (l := [n, a6]) (b := w6.heap.size + 1) (nodes_cons (Row.mono (by (have QQ := Hw; exact Row.au)) (by intro b hb; (try simp at hb); (try simp); omega)) (nodes_one (Row.mono (by (have QQ := Hw6; exact Row.au)) (by intro b hb; (try simp at hb); (try simp); omega)))) (by simp [maxLen]) (by simp) rfl) ?_)
          intro b hb; (try simp at hb); (try simp); omega
        · rw [HRe.out.tokLen, Ht0.out]
          have := Hl6.out
          have := Hlt4.out
          simp [Px.takes] at *
          omega
end Go.Proofs.YtbgpboiblggmiaaGreatDoor

/-
  The expressions' walks: unary, expr; all of them, by induction.
-/
namespace Go.Proofs.YtbgpboiblggmiaaGreatDoor
open Go.RowKit
open Px (St T D Res left)

theorem Res.bind_id {α : Type} (m : Res α) : m.bind .ok = m := by cases m <;> rfl

set_option maxRecDepth 100000 in
set_option maxHeartbeats 2000000 in
theorem unary_rd {B E g k : Nat} (ih : AllE B E g k) {w : World} {s : St} (h : RdAt B E g w s) (hk : 6 * left s + 2 ≤ k + 1) :
    Calls Tryz.prog 145 #[.pointer (some ⟨g, 0, none⟩)] w (Says B E g w (encT w.heap.size) (Px.run E (k + 1) .unary s)) := by
  have IH := Lib.hid ih
  have Hk := Lib.hid hk
  clear ih hk
  have hF := tokF1
  have hF0 := tokF0
  have hlt := h.lt
  have hB := h.le
  have HR := Lib.hid h
  have HS := Lib.hid (Stays.refl B none w)
  clear h
  obtain ⟨R, hR⟩ : ∃ R, R = Px.run E (k + 1) .unary s := ⟨_, rfl⟩
  rw [← hR]
  rw [Px.run] at hR
  have HX := Lib.hid hR
  clear hR
  go_enter Tryz.func145, Tryz.ntmps145
  go_wp2_with fail
  refine (peek_any (HR.out.locals (by (exact Locals.au)))).mono ?_
  rintro e1 w1 ⟨rfl, hb1⟩
  unfold tokVal
  have hS1 := (Stays.refl B none _).below hb1 (Nat.le_refl _)
  have HR := Lib.hid (RdAt.of_below (HR.out.locals (by (exact Locals.au))) hb1 (Nat.le_refl _))
  have HS := Lib.hid (Stays.trans (a := w) (by (exact Stays.au)) hS1)
  have hs1 := hS1.size
  (try simp at hs1)
  clear hb1
  have z0 : Var 25 w1 w.heap.size _ := Var.stays (by (exact Var.au)) hS1
  have z0l := z0.lt
  obtain ⟨z0c, z0f⟩ := obj_facts z0
  cases h1 : Px.accepts E [33] s
  · have HX := Lib.hid (HX.out.trans (if_neg (by rw [h1]; decide)))
    have x1 : ((Px.peek E s).text == [33]) = false := h1
    cases h2 : Px.accepts E [111, 108, 100] s
    · have HX := Lib.hid (HX.out.trans (if_neg (by rw [h2]; decide)))
      have x2 : ((Px.peek E s).text == [111, 108, 100]) = false := h2
      cases h3 : Px.accepts E [40] s
      · have HX := Lib.hid (HX.out.trans (if_neg (by rw [h3]; decide)))
        have x3 : ((Px.peek E s).text == [40]) = false := h3
        by_cases h4 : Px.kindOf E s = 2
        · have HX := Lib.hid (HX.out.trans (if_pos h4))
          have x4 : ((Px.peek E s).kind : Int) = 2 := by unfold Px.kindOf at h4; omega
          clear h1 h2 h3 h4
          rw [x4]
          have HX := Lib.hid (HX.out.trans (Res.bind_id _).symm)
          go_wp2_with fail
          refine (numeral_rd (HR.out.locals (by (exact Locals.au)))).mono ?_
          intro e2 w2 hm2
          refine hm2.cases ?_ ?_
          rotate_left
          focus (intro db sb hrb heb hRb hSb; subst heb; go_wp2_with fail; ((try simp only [Exit.inBlock, Exit.then]); refine post_panic rfl ?_); exact Says.bad (HX.out.trans (Res.bind_of_bad hrb _)) (Stays.trans (a := w) (by (exact Stays.au)) hSb) hRb)
          intro a2 s2 v2 hr2 he2 hv2 hR2 hS2
          subst he2
          have HX := Lib.hid (HX.out.trans (Res.bind_of_ok hr2 _))
          have HR := Lib.hid hR2
          have HS := Lib.hid (Stays.trans (a := w) (by (exact Stays.au)) hS2)
          have Hr2 := Lib.hid hr2
          have hs2 := hS2.size
          (try simp at hs2)
          clear hm2 hr2 hR2
          obtain ⟨p2, c2, rfl, hw2⟩ := hv2
          have Hw2 := Lib.hid hw2.lt
          clear hw2
          unfold nodeVal
          have z0' : Var 25 w2 w.heap.size _ := Var.stays (by (exact Var.au)) hS2
          clear z0 z0c z0f
          have z0 := z0'
          clear z0'
          have z0l := z0.lt
          obtain ⟨z0c, z0f⟩ := obj_facts z0
          go_wp2_with fail
          (rw [storeN]; rotate_left; (exact HasN.au))
          ((try simp only [Exit.inBlock, Exit.then]); refine ret_node (by rfl) (by rfl) (by (exact Var.au)) (by first | rfl | simp) (by rfl) ?_)
          refine Says.ok HX.out (by (exact Stays.au)) ⟨_, _, rfl, (show Row _ _ a2.kids (.slice p2 a2.kids.length c2) from Row.mono (by (have QQ := Hw2; exact Row.au)) ?_)⟩ (HR.out.locals ?_)
          · intro b hb; (try simp at hb); omega
          · (exact Locals.au)
        · have HX := Lib.hid (HX.out.trans (if_neg h4))
          have x4 : ¬ ((Px.peek E s).kind : Int) = 2 := by unfold Px.kindOf at h4; omega
          have hf : 6 * left s + 1 ≤ k := by have := Hk.out; omega
          clear h1 h2 h3 h4
          have HX := Lib.hid (HX.out.trans (Res.bind_id _).symm)
          go_wp2_with fail
          refine (IH.out.ref _ _ (HR.out.locals (by (exact Locals.au))) hf).mono ?_
          intro e2 w2 hm2
          refine hm2.cases ?_ ?_
          rotate_left
          focus (intro db sb hrb heb hRb hSb; subst heb; go_wp2_with fail; ((try simp only [Exit.inBlock, Exit.then]); refine post_panic rfl ?_); exact Says.bad (HX.out.trans (Res.bind_of_bad hrb _)) (Stays.trans (a := w) (by (exact Stays.au)) hSb) hRb)
          intro a2 s2 v2 hr2 he2 hv2 hR2 hS2
          subst he2
          have HX := Lib.hid (HX.out.trans (Res.bind_of_ok hr2 _))
          have HR := Lib.hid hR2
          have HS := Lib.hid (Stays.trans (a := w) (by (exact Stays.au)) hS2)
          have Hr2 := Lib.hid hr2
          have hs2 := hS2.size
          (try simp at hs2)
          clear hm2 hr2 hR2
          obtain ⟨p2, c2, rfl, hw2⟩ := hv2
          have Hw2 := Lib.hid hw2.lt
          clear hw2
          unfold nodeVal
          have z0' : Var 25 w2 w.heap.size _ := Var.stays (by (exact Var.au)) hS2
          clear z0 z0c z0f
          have z0 := z0'
          clear z0'
          have z0l := z0.lt
          obtain ⟨z0c, z0f⟩ := obj_facts z0
          go_wp2_with fail
          (rw [storeN]; rotate_left; (exact HasN.au))
          ((try simp only [Exit.inBlock, Exit.then]); refine ret_node (by rfl) (by rfl) (by (exact Var.au)) (by first | rfl | simp) (by rfl) ?_)
          refine Says.ok HX.out (by (exact Stays.au)) ⟨_, _, rfl, (show Row _ _ a2.kids (.slice p2 a2.kids.length c2) from Row.mono (by (have QQ := Hw2; exact Row.au)) ?_)⟩ (HR.out.locals ?_)
          · intro b hb; (try simp at hb); omega
          · (exact Locals.au)
      · have HX := Lib.hid (HX.out.trans (if_pos h3))
        have x3 : ((Px.peek E s).text == [40]) = true := h3
        have hl := Px.acc_left h3 (by decide)
        have hf : 6 * left (Px.rest s) + 5 ≤ k := by have := Hk.out; omega
        have Ha := Lib.hid h3
        clear h1 h2 h3 hl
        have HX := Lib.hid (HX.out.trans (Res.bind_id _).symm)
        go_wp2_with fail
        refine (enclosed_rd IH.out (HR.out.locals (by (exact Locals.au))) Ha.out hf).mono ?_
        intro e2 w2 hm2
        refine hm2.cases ?_ ?_
        rotate_left
        focus (intro db sb hrb heb hRb hSb; subst heb; go_wp2_with fail; ((try simp only [Exit.inBlock, Exit.then]); refine post_panic rfl ?_); exact Says.bad (HX.out.trans (Res.bind_of_bad hrb _)) (Stays.trans (a := w) (by (exact Stays.au)) hSb) hRb)
        intro a2 s2 v2 hr2 he2 hv2 hR2 hS2
        subst he2
        have HX := Lib.hid (HX.out.trans (Res.bind_of_ok hr2 _))
        have HR := Lib.hid hR2
        have HS := Lib.hid (Stays.trans (a := w) (by (exact Stays.au)) hS2)
        have Hr2 := Lib.hid hr2
        have hs2 := hS2.size
        (try simp at hs2)
        clear hm2 hr2 hR2
        obtain ⟨p2, c2, rfl, hw2⟩ := hv2
        have Hw2 := Lib.hid hw2.lt
        clear hw2
        unfold nodeVal
        have z0' : Var 25 w2 w.heap.size _ := Var.stays (by (exact Var.au)) hS2
        clear z0 z0c z0f
        have z0 := z0'
        clear z0'
        have z0l := z0.lt
        obtain ⟨z0c, z0f⟩ := obj_facts z0
        go_wp2_with fail
        (rw [storeN]; rotate_left; (exact HasN.au))
        ((try simp only [Exit.inBlock, Exit.then]); refine ret_node (by rfl) (by rfl) (by (exact Var.au)) (by first | rfl | simp) (by rfl) ?_)
        refine Says.ok HX.out (by (exact Stays.au)) ⟨_, _, rfl, (show Row _ _ a2.kids (.slice p2 a2.kids.length c2) from Row.mono (by (have QQ := Hw2; exact Row.au)) ?_)⟩ (HR.out.locals ?_)
        · intro b hb; (try simp at hb); omega
        · (exact Locals.au)
    · have HX := Lib.hid (HX.out.trans (if_pos h2))
      have x2 : ((Px.peek E s).text == [111, 108, 100]) = true := h2
      have hl := Px.acc_left h2 (by decide)
      have hf : 6 * left (Px.rest s) ≤ k := by have := Hk.out; omega
      have Ha := Lib.hid h2
      clear h1 h2 hl
      have HX := Lib.hid (HX.out.trans (Res.bind_id _).symm)
      go_wp2_with fail
      refine (old_rd IH.out (HR.out.locals (by (exact Locals.au))) Ha.out hf).mono ?_
      intro e2 w2 hm2
      refine hm2.cases ?_ ?_
      rotate_left
      focus (intro db sb hrb heb hRb hSb; subst heb; go_wp2_with fail; ((try simp only [Exit.inBlock, Exit.then]); refine post_panic rfl ?_); exact Says.bad (HX.out.trans (Res.bind_of_bad hrb _)) (Stays.trans (a := w) (by (exact Stays.au)) hSb) hRb)
      intro a2 s2 v2 hr2 he2 hv2 hR2 hS2
      subst he2
      have HX := Lib.hid (HX.out.trans (Res.bind_of_ok hr2 _))
      have HR := Lib.hid hR2
      have HS := Lib.hid (Stays.trans (a := w) (by (exact Stays.au)) hS2)
      have Hr2 := Lib.hid hr2
      have hs2 := hS2.size
      (try simp at hs2)
      clear hm2 hr2 hR2
      obtain ⟨p2, c2, rfl, hw2⟩ := hv2
      have Hw2 := Lib.hid hw2.lt
      clear hw2
      unfold nodeVal
      have z0' : Var 25 w2 w.heap.size _ := Var.stays (by (exact Var.au)) hS2
      clear z0 z0c z0f
      have z0 := z0'
      clear z0'
      have z0l := z0.lt
      obtain ⟨z0c, z0f⟩ := obj_facts z0
      go_wp2_with fail
      (rw [storeN]; rotate_left; (exact HasN.au))
      ((try simp only [Exit.inBlock, Exit.then]); refine ret_node (by rfl) (by rfl) (by (exact Var.au)) (by first | rfl | simp) (by rfl) ?_)
      refine Says.ok HX.out (by (exact Stays.au)) ⟨_, _, rfl, (show Row _ _ a2.kids (.slice p2 a2.kids.length c2) from Row.mono (by (have QQ := Hw2; exact Row.au)) ?_)⟩ (HR.out.locals ?_)
      · intro b hb; (try simp at hb); omega
      · (exact Locals.au)
  · have HX := Lib.hid (HX.out.trans (if_pos h1))
    have x1 : ((Px.peek E s).text == [33]) = true := h1
    have hl := Px.acc_left h1 (by decide)
    have hf : 6 * left (Px.rest s) + 2 ≤ k := by have := Hk.out; omega
    obtain ⟨t, r, ht⟩ := acc_cons h1 (by decide)
    have Ht := Lib.hid ht
    clear h1 hl ht
    go_wp2_with fail
    refine (begin_rd (HR.out.locals (by (exact Locals.au))) 4 Ht.out).mono ?_
    rintro e2 w2 ⟨rfl, hS2, hR2⟩
    unfold nodeVal
    have HR := Lib.hid hR2
    have HS := Lib.hid (Stays.trans (a := w) (by (exact Stays.au)) hS2)
    have hs2 := hS2.size
    (try simp at hs2)
    clear hR2
    have z0' : Var 25 w2 w.heap.size _ := Var.stays (by (exact Var.au)) hS2
    clear z0 z0c z0f
    have z0 := z0'
    clear z0'
    have z0l := z0.lt
    obtain ⟨z0c, z0f⟩ := obj_facts z0
    go_wp2_with fail
    refine (IH.out.unary _ _ (HR.out.locals (by (exact Locals.au))) hf).mono ?_
    intro e3 w3 hm3
    refine hm3.cases ?_ ?_
    rotate_left
    focus (intro db sb hrb heb hRb hSb; subst heb; go_wp2_with fail; ((try simp only [Exit.inBlock, Exit.then]); refine post_panic rfl ?_); exact Says.bad (HX.out.trans (Res.bind_of_bad hrb _)) (Stays.trans (a := w) (by (exact Stays.au)) hSb) hRb)
    intro a3 s3 v3 hr3 he3 hv3 hR3 hS3
    subst he3
    have HX := Lib.hid (HX.out.trans (Res.bind_of_ok hr3 _))
    have HR := Lib.hid hR3
    have HS := Lib.hid (Stays.trans (a := w) (by (exact Stays.au)) hS3)
    have Hr3 := Lib.hid hr3
    have hs3 := hS3.size
    (try simp at hs3)
    clear hm3 hr3 hR3
    obtain ⟨p3, c3, rfl, hw3⟩ := hv3
    have Hw3 := Lib.hid hw3.lt
    clear hw3
    unfold nodeVal
    have z0' : Var 25 w3 w.heap.size _ := Var.stays (by (exact Var.au)) hS3
    clear z0 z0c z0f
    have z0 := z0'
    clear z0'
    have z0l := z0.lt
    obtain ⟨z0c, z0f⟩ := obj_facts z0
    have z1 : Var 25 w3 w2.heap.size _ := Var.stays (by (exact Var.au)) hS3
    have z1l := z1.lt
    obtain ⟨z1c, z1f⟩ := obj_facts z1
    go_wp2_with fail
    rw [storeF z1]
    (rw [storeN]; rotate_left; (exact HasN.au))
    ((try simp only [Exit.inBlock, Exit.then]); refine ret_node (by rfl) (by rfl) (by (exact Var.au)) (by first | rfl | simp) (by rfl) ?_)
    refine Says.ok HX.out (by (exact Stays.au)) ⟨_, _, rfl, (show Row _ _ [a3] (.slice (some ⟨w3.heap.size, 0, none⟩) 1 1) from Row.mono (row_new' (l := [a3]) (b := w3.heap.size) (nodes_one (by (have QQ := Hw3; exact Row.au))) (by simp [maxLen]) (by simp) rfl) ?_)⟩ (HR.out.locals ?_)
    · intro b hb; (try simp at hb); omega
    · (exact Locals.au)

set_option maxRecDepth 100000 in
set_option maxHeartbeats 2000000 in
theorem expr_rd {B E g k : Nat} (ih : AllE B E g k) {w : World} {s : St} (h : RdAt B E g w s) (hk : 6 * left s + 5 ≤ k + 1) :
    Calls Tryz.prog 61 #[.pointer (some ⟨g, 0, none⟩)] w (Says B E g w (encT w.heap.size) (Px.run E (k + 1) .expr s)) := by
  have IH := Lib.hid ih
  have Hk := Lib.hid hk
  clear ih hk
  have hF := tokF1
  have hlt := h.lt
  have hB := h.le
  have HR := Lib.hid h
  have HS := Lib.hid (Stays.refl B none w)
  clear h
  obtain ⟨R, hR⟩ : ∃ R, R = Px.run E (k + 1) .expr s := ⟨_, rfl⟩
  rw [← hR]
  rw [Px.run] at hR
  have HX := Lib.hid hR
  clear hR
  go_enter Tryz.func61, Tryz.ntmps61
  go_wp2_with fail
  refine (peek_any (HR.out.locals (by (exact Locals.au)))).mono ?_
  rintro e1 w1 ⟨rfl, hb1⟩
  unfold tokVal
  have hS1 := (Stays.refl B none _).below hb1 (Nat.le_refl _)
  have HR := Lib.hid (RdAt.of_below (HR.out.locals (by (exact Locals.au))) hb1 (Nat.le_refl _))
  have HS := Lib.hid (Stays.trans (a := w) (by (exact Stays.au)) hS1)
  have hs1 := hS1.size
  (try simp at hs1)
  clear hb1
  have z0 : Var 25 w1 w.heap.size _ := Var.stays (by (exact Var.au)) hS1
  have z0l := z0.lt
  obtain ⟨z0c, z0f⟩ := obj_facts z0
  cases h1 : Px.accepts E [97, 108, 108] s
  · have x1 : ((Px.peek E s).text == [97, 108, 108]) = false := h1
    cases h2 : Px.accepts E [115, 111, 109, 101] s
    · have HX := Lib.hid (HX.out.trans (if_neg (by rw [h1, h2]; decide)))
      have x2 : ((Px.peek E s).text == [115, 111, 109, 101]) = false := h2
      have hf : 6 * left s + 4 ≤ k := by have := Hk.out; omega
      clear h1 h2
      have HX := Lib.hid (HX.out.trans (Res.bind_id _).symm)
      go_wp2_with fail
      refine (IH.out.cond _ _ (HR.out.locals (by (exact Locals.au))) hf).mono ?_
      intro e2 w2 hm2
      refine hm2.cases ?_ ?_
      rotate_left
      focus (intro db sb hrb heb hRb hSb; subst heb; go_wp2_with fail; ((try simp only [Exit.inBlock, Exit.then]); refine post_panic rfl ?_); exact Says.bad (HX.out.trans (Res.bind_of_bad hrb _)) (Stays.trans (a := w) (by (exact Stays.au)) hSb) hRb)
      intro a2 s2 v2 hr2 he2 hv2 hR2 hS2
      subst he2
      have HX := Lib.hid (HX.out.trans (Res.bind_of_ok hr2 _))
      have HR := Lib.hid hR2
      have HS := Lib.hid (Stays.trans (a := w) (by (exact Stays.au)) hS2)
      have Hr2 := Lib.hid hr2
      have hs2 := hS2.size
      (try simp at hs2)
      clear hm2 hr2 hR2
      obtain ⟨p2, c2, rfl, hw2⟩ := hv2
      have Hw2 := Lib.hid hw2.lt
      clear hw2
      unfold nodeVal
      have z0' : Var 25 w2 w.heap.size _ := Var.stays (by (exact Var.au)) hS2
      clear z0 z0c z0f
      have z0 := z0'
      clear z0'
      have z0l := z0.lt
      obtain ⟨z0c, z0f⟩ := obj_facts z0
      go_wp2_with fail
      (rw [storeN]; rotate_left; (exact HasN.au))
      ((try simp only [Exit.inBlock, Exit.then]); refine ret_node (by rfl) (by rfl) (by (exact Var.au)) (by first | rfl | simp) (by rfl) ?_)
      refine Says.ok HX.out (by (exact Stays.au)) ⟨_, _, rfl, (show Row _ _ a2.kids (.slice p2 a2.kids.length c2) from Row.mono (by (have QQ := Hw2; exact Row.au)) ?_)⟩ (HR.out.locals ?_)
      · intro b hb; (try simp at hb); omega
      · (exact Locals.au)
    · have HX := Lib.hid (HX.out.trans (if_pos (.inr h2)))
      have x2 : ((Px.peek E s).text == [115, 111, 109, 101]) = true := h2
      have hl := Px.acc_left h2 (by decide)
      have hf : 6 * left (Px.rest s) ≤ k := by have := Hk.out; omega
      obtain ⟨t, r, ht⟩ := acc_cons h2 (by decide)
      have Ht := Lib.hid ht
      have HX := Lib.hid (show R = (Px.name E (Px.rest s)).bind fun x s1 => (Px.expect E [60] s1).bind fun _ s2 => (Px.number E s2).bind fun m s3 => (Px.expect E [58] s3).bind fun _ s4 => (Px.run E k .expr s4).bind fun e s5 => .ok (T.mk 8 x [] m 0 0 false [e] (Px.offOf E s)) s5 from by have := HX.out; rw [h1] at this; exact this)
      clear h1 h2 hl ht
      have HX := Lib.hid (HX.out.trans (Res.bind_id _).symm)
      go_wp2_with fail
      refine (quantifier_rd IH.out (HR.out.locals (by (exact Locals.au))) 8 Ht.out hf).mono ?_
      intro e2 w2 hm2
      refine hm2.cases ?_ ?_
      rotate_left
      focus (intro db sb hrb heb hRb hSb; subst heb; go_wp2_with fail; ((try simp only [Exit.inBlock, Exit.then]); refine post_panic rfl ?_); exact Says.bad (HX.out.trans (Res.bind_of_bad hrb _)) (Stays.trans (a := w) (by (exact Stays.au)) hSb) hRb)
      intro a2 s2 v2 hr2 he2 hv2 hR2 hS2
      subst he2
      have HX := Lib.hid (HX.out.trans (Res.bind_of_ok hr2 _))
      have HR := Lib.hid hR2
      have HS := Lib.hid (Stays.trans (a := w) (by (exact Stays.au)) hS2)
      have Hr2 := Lib.hid hr2
      have hs2 := hS2.size
      (try simp at hs2)
      clear hm2 hr2 hR2
      obtain ⟨p2, c2, rfl, hw2⟩ := hv2
      have Hw2 := Lib.hid hw2.lt
      clear hw2
      unfold nodeVal
      have z0' : Var 25 w2 w.heap.size _ := Var.stays (by (exact Var.au)) hS2
      clear z0 z0c z0f
      have z0 := z0'
      clear z0'
      have z0l := z0.lt
      obtain ⟨z0c, z0f⟩ := obj_facts z0
      go_wp2_with fail
      (rw [storeN]; rotate_left; (exact HasN.au))
      ((try simp only [Exit.inBlock, Exit.then]); refine ret_node (by rfl) (by rfl) (by (exact Var.au)) (by first | rfl | simp) (by rfl) ?_)
      refine Says.ok HX.out (by (exact Stays.au)) ⟨_, _, rfl, (show Row _ _ a2.kids (.slice p2 a2.kids.length c2) from Row.mono (by (have QQ := Hw2; exact Row.au)) ?_)⟩ (HR.out.locals ?_)
      · intro b hb; (try simp at hb); omega
      · (exact Locals.au)
  · have HX := Lib.hid (HX.out.trans (if_pos (.inl h1)))
    have x1 : ((Px.peek E s).text == [97, 108, 108]) = true := h1
    have hl := Px.acc_left h1 (by decide)
    have hf : 6 * left (Px.rest s) ≤ k := by have := Hk.out; omega
    obtain ⟨t, r, ht⟩ := acc_cons h1 (by decide)
    have Ht := Lib.hid ht
    have HX := Lib.hid (show R = (Px.name E (Px.rest s)).bind fun x s1 => (Px.expect E [60] s1).bind fun _ s2 => (Px.number E s2).bind fun m s3 => (Px.expect E [58] s3).bind fun _ s4 => (Px.run E k .expr s4).bind fun e s5 => .ok (T.mk 7 x [] m 0 0 false [e] (Px.offOf E s)) s5 from by have := HX.out; rw [h1] at this; exact this)
    clear h1 hl ht
    have HX := Lib.hid (HX.out.trans (Res.bind_id _).symm)
    go_wp2_with fail
    refine (quantifier_rd IH.out (HR.out.locals (by (exact Locals.au))) 7 Ht.out hf).mono ?_
    intro e2 w2 hm2
    refine hm2.cases ?_ ?_
    rotate_left
    focus (intro db sb hrb heb hRb hSb; subst heb; go_wp2_with fail; ((try simp only [Exit.inBlock, Exit.then]); refine post_panic rfl ?_); exact Says.bad (HX.out.trans (Res.bind_of_bad hrb _)) (Stays.trans (a := w) (by (exact Stays.au)) hSb) hRb)
    intro a2 s2 v2 hr2 he2 hv2 hR2 hS2
    subst he2
    have HX := Lib.hid (HX.out.trans (Res.bind_of_ok hr2 _))
    have HR := Lib.hid hR2
    have HS := Lib.hid (Stays.trans (a := w) (by (exact Stays.au)) hS2)
    have Hr2 := Lib.hid hr2
    have hs2 := hS2.size
    (try simp at hs2)
    clear hm2 hr2 hR2
    obtain ⟨p2, c2, rfl, hw2⟩ := hv2
    have Hw2 := Lib.hid hw2.lt
    clear hw2
    unfold nodeVal
    have z0' : Var 25 w2 w.heap.size _ := Var.stays (by (exact Var.au)) hS2
    clear z0 z0c z0f
    have z0 := z0'
    clear z0'
    have z0l := z0.lt
    obtain ⟨z0c, z0f⟩ := obj_facts z0
    go_wp2_with fail
    (rw [storeN]; rotate_left; (exact HasN.au))
    ((try simp only [Exit.inBlock, Exit.then]); refine ret_node (by rfl) (by rfl) (by (exact Var.au)) (by first | rfl | simp) (by rfl) ?_)
    refine Says.ok HX.out (by (exact Stays.au)) ⟨_, _, rfl, (show Row _ _ a2.kids (.slice p2 a2.kids.length c2) from Row.mono (by (have QQ := Hw2; exact Row.au)) ?_)⟩ (HR.out.locals ?_)
    · intro b hb; (try simp at hb); omega
    · (exact Locals.au)

theorem allE (B E g : Nat) : ∀ k, AllE B E g k := by
  intro k
  induction k using Nat.strongRecOn with
  | _ k ih =>
    cases k with
    | zero => exact ⟨fun w s h hk => absurd hk (by omega), fun w s h hk => absurd hk (by omega), fun w s n _ _ h hk => absurd hk (by omega), fun w s h hk => absurd hk (by omega), fun w s h hk => absurd hk (by omega)⟩
    | succ k =>
      have i1 := ih k (Nat.lt_succ_self _)
      exact ⟨fun w s h hk => expr_rd i1 h hk, fun w s h hk => cond_rd i1 h hk, fun w s n h1 h10 h hk => binary_rd (fun j hj => ih j (by omega)) n h1 h10 h hk, fun w s h hk => unary_rd i1 h hk, fun w s h hk => ref_rd i1 h hk⟩
theorem expr_any {B E g : Nat} {w : World} {s : St} (h : RdAt B E g w s) : Calls Tryz.prog 61 #[.pointer (some ⟨g, 0, none⟩)] w (Says B E g w (encT w.heap.size) (Px.expr E s)) :=
  (allE B E g (Px.fuel s)).expr w s h (by unfold Px.fuel Px.left; omega)
theorem ref_any {B E g : Nat} {w : World} {s : St} (h : RdAt B E g w s) : Calls Tryz.prog 165 #[.pointer (some ⟨g, 0, none⟩)] w (Says B E g w (encT w.heap.size) (Px.refr E s)) :=
  (allE B E g (Px.fuel s)).ref w s h (by unfold Px.fuel Px.left; omega)
end Go.Proofs.YtbgpboiblggmiaaGreatDoor

