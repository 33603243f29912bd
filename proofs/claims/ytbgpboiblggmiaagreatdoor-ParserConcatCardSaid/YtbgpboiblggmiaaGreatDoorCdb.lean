/-
  A row of the region's own, made of a tree's kids and of moved kids.
-/
import Derived.Test.YtbgpboiblggmiaaGreatDoorApn
set_option linter.unusedVariables false
set_option linter.unusedSimpArgs false
namespace Go.Proofs.YtbgpboiblggmiaaGreatDoor
open Go.RowKit
open Px (St T D Res)

/-- a row in blocks from B on that holds l (its trees' kids lie below B) and m (its trees' kids lie in blocks of S); the row's block is one of k -/
def Own (B : Nat) (S : Nat → Prop) (w : World) (k : Nat → Prop) (v : Value) (l m : List T) : Prop :=
  ∃ xs ys, w.ownsRow B 25 9 v (l.length + m.length) (xs ++ ys) ∧ RNodes B w l xs ∧ Nodes S w m ys ∧ (∀ b, v.ownBlock = some b → k b) ∧ B ≤ w.heap.size
theorem Own.below {B : Nat} {S k : Nat → Prop} {w w' : World} {v : Value} {l m : List T} (h : Own B S w k v l m) (hb : Below w.heap.size w w') : Own B S w' k v l m := by
  obtain ⟨xs, ys, h1, h2, h3, h4, h5⟩ := h
  refine ⟨xs, ys, ownsRow_obj h1 (fun j c hj hc => (hb.block j (lt_heap hc)).trans hc), RNodes.keepT (Nat.le_refl _) (fun j c fz hj hc => (hb.block j (lt_heap hc)).trans hc) l xs h2, Nodes.keep (fun b hb _ => hb) (fun b c hS hc => (hb.block b (lt_heap hc)).trans hc) m ys h3, h4, Nat.le_trans h5 hb.size⟩
theorem Own.mono {B : Nat} {S k k' : Nat → Prop} {w : World} {v : Value} {l m : List T} (h : Own B S w k v l m) (hk : ∀ b, k b → k' b) : Own B S w k' v l m := by
  obtain ⟨xs, ys, h1, h2, h3, h4, h5⟩ := h
  exact ⟨xs, ys, h1, h2, h3, fun b hb => hk b (h4 b hb), h5⟩
theorem Own.put {B g : Nat} {S k : Nat → Prop} {w : World} {v : Value} {l m : List T} (h : Own B S w k v l m) (hB : B ≤ g) (hS : ¬ S g) (hk : ¬ k g) (cs : Array Value) : Own B S (w.setRow g cs) k v l m := by
  obtain ⟨xs, ys, h1, h2, h3, h4, h5⟩ := h
  have hw : ∀ (j : Nat) (c : Array Value) (fz : Nat × Nat), j ≠ g → w.heap[j]? = some (.cells c 25 fz) → (w.setRow g cs).heap[j]? = some (.cells c 25 fz) := fun j c fz hj hc => obj_row_other hc hj cs
  refine ⟨xs, ys, ownsRow_obj h1 (fun j c hj hc => hw j c _ (by rintro rfl; exact hk (h4 _ hj)) hc), RNodes.keepT (Nat.le_refl _) (fun j c fz hj hc => hw j c fz (by omega) hc) l xs h2, Nodes.keep (fun b hb _ => hb) (fun b c hb hc => hw b c _ (by rintro rfl; exact hS hb) hc) m ys h3, h4, by simpa [World.setRow] using h5⟩
/-- an empty row -/
theorem Own.start {B : Nat} {w v : World} (hB : B ≤ w.heap.size) (hv : v = w.alloc (.cells #[] 25)) : Own B (fun _ => False) v (fun b => b = w.heap.size) (.slice (some ⟨w.heap.size, 0, none⟩) 0 0) [] [] := by
  subst hv
  refine ⟨[], [], World.ownsRow_lit w #[] 0 hB (Nat.zero_le _) rfl, by rw [RNodes], by rw [Nodes], fun b hb => (Option.some.inj hb).symm, by simp; omega⟩
/-- the kids of a tree are appended to an empty row -/
theorem Own.first {B : Nat} {S k : Nat → Prop} {w : World} {v : Value} {l : List T} {a : Option Addr} {n c : Nat} (ty : TypeId) (h : Own B S w k v [] []) (hr : RRow B w l (.slice a n c)) (hl : l.length ≤ 450000) :
    ∃ v' w', (Builtin.append_ #[23, 23] ty #[v, .slice a n c]).run Tryz.prog w = .ok v' w' ∧ Own B S w' (fun b => (k b ∨ b = w.heap.size) ∧ b < w'.heap.size) v' l [] ∧ w.grownBy w' v.ownBlock ∧ w.heap.size ≤ w'.heap.size := by
  obtain ⟨xs, ys, h1, h2, h3, h4, h5⟩ := h
  rw [RNodes] at h2
  rw [Nodes] at h3
  subst h2 h3
  obtain ⟨hn, zs, r1, r2, r3, r4, r5⟩ := row_cells hr
  subst hn
  obtain ⟨v', w', e1, e2, e3, e4⟩ := run_append_row w ty B v _ _ h1 a l.length c zs r3 r2 r4 r5 (by simp; omega) h5
  refine ⟨v', w', e1, ⟨zs, [], ?_, ?_, by rw [Nodes], ?_, Nat.le_trans h5 e3.size⟩, e3, e3.size⟩
  · simpa using e2
  · refine RNodes.keepT (Nat.le_refl _) (fun j cc fz hj hc => ?_) l zs r1
    rw [e3.block j (by omega) (by intro hh; have := (h1.lt j hh.symm).1; omega)]
    exact hc
  · intro b hb
    refine ⟨?_, (e2.lt b hb).2⟩
    rcases e4 with e4 | e4
    · rw [e4] at hb; exact .inl (h4 b hb)
    · rw [e4] at hb; exact .inr (Option.some.inj hb).symm
/-- moved kids are appended -/
theorem Own.second {B : Nat} {S k : Nat → Prop} {w : World} {v : Value} {l m : List T} {a : Option Addr} {n c : Nat} (ty : TypeId) (h : Own B (fun _ => False) w k v l []) (hr : Row S w m (.slice a n c)) (hd : ∀ b, k b → ¬ S b) (hl : l.length ≤ 450000) (hm : m.length ≤ 450000) :
    ∃ v' w', (Builtin.append_ #[23, 23] ty #[v, .slice a n c]).run Tryz.prog w = .ok v' w' ∧ Own B S w' (fun b => (k b ∨ b = w.heap.size) ∧ b < w'.heap.size) v' l m ∧ w.grownBy w' v.ownBlock ∧ w.heap.size ≤ w'.heap.size := by
  obtain ⟨xs, ys, h1, h2, h3, h4, h5⟩ := h
  rw [Nodes] at h3
  subst h3
  obtain ⟨zs, k1, k2, k3⟩ := hr
  obtain ⟨hn, zs', r1, r2, r3, r4, r5⟩ := row_cells (Row.read (S := S) ⟨zs, k1, k2, k3⟩)
  subst hn
  have hz : zs.length = m.length * 9 := Nodes.len m zs k3
  obtain ⟨v', w', e1, e2, e3, e4⟩ := run_append_row w ty B v _ _ h1 a m.length c zs r3 hz
    (fun ad ha j u hu => by
      rcases k1.2 with ⟨q, _⟩ | ⟨g, cap, cur, q, _⟩
      · have h9 := (Value.slice.inj q).1
        rw [ha] at h9
        cases h9
      · have h9 := (Value.slice.inj q).1
        rw [ha] at h9
        obtain rfl := Option.some.inj h9
        exact k1.cells (g := g) (by rw [q]; rfl) j u hu)
    (fun u hu => RNodes.ones m zs (Nodes.read m zs k3) u hu) (by simp; omega) h5
  refine ⟨v', w', e1, ⟨xs, zs, ?_, ?_, ?_, ?_, Nat.le_trans h5 e3.size⟩, e3, e3.size⟩
  · simpa using e2
  · refine RNodes.keepT (Nat.le_refl _) (fun j cc fz hj hc => ?_) l xs h2
    rw [e3.block j (by omega) (by intro hh; have := (h1.lt j hh.symm).1; omega)]
    exact hc
  · refine Nodes.keep (fun b hb _ => hb) (fun b cc hb hc => ?_) m zs k3
    rw [e3.block b (lt_heap hc) (by intro hh; exact hd b (h4 b hh.symm) hb)]
    exact hc
  · intro b hb
    refine ⟨?_, (e2.lt b hb).2⟩
    rcases e4 with e4 | e4
    · rw [e4] at hb; exact .inl (h4 b hb)
    · rw [e4] at hb; exact .inr (Option.some.inj hb).symm
theorem Own.form {B : Nat} {S k : Nat → Prop} {w : World} {v : Value} {l m : List T} (h : Own B S w k v l m) : ∃ a cap, v = .slice a (l.length + m.length) cap := by
  obtain ⟨xs, ys, h1, _⟩ := h
  exact ownsRow_form h1
theorem Own.row {B : Nat} {S k : Nat → Prop} {w : World} {v : Value} {l m : List T} (h : Own B S w k v l m) (hm : l.length + m.length ≤ maxLen) : RRow w.heap.size w (l ++ m) v := by
  obtain ⟨xs, ys, h1, h2, h3, h4, h5⟩ := h
  obtain ⟨a, cap, _, hr⟩ := rrow_own (l := l ++ m) (by rw [List.length_append]; exact h1) (RNodes.app l m xs ys (RNodes.keepT h5 (fun _ _ _ _ hc => hc) l xs h2) (Nodes.read m ys h3)) (by rw [List.length_append]; exact hm)
  exact hr
/-- what a write to a row leaves: rows elsewhere -/
theorem Row.grown {S : Nat → Prop} {w w' : World} {l : List T} {kv : Value} {row : Option Nat} (h : Row S w l kv) (hg : w.grownBy w' row) (hS : ∀ b, row = some b → ¬ S b) : Row S w' l kv :=
  h.keep (fun _ h _ => h) (fun b c hb hc => (hg.block b (lt_heap hc) (by intro e; exact hS b e.symm hb)).trans hc)
theorem Var.grown' {t : TypeId} {w w9 : World} {b : Nat} {cs : Array Value} {row : Option Nat} (h : Var t w b cs) (hg : w.grownBy w9 row) (hne : ∀ j, row = some j → j ≠ b) : Var t w9 b cs :=
  (hg.block b h.lt (by intro e; exact hne b e.symm rfl)).trans h
theorem Own.kb {B : Nat} {S k : Nat → Prop} {w : World} {v : Value} {l m : List T} (h : Own B S w k v l m) : ∀ b, v.ownBlock = some b → k b ∧ B ≤ b ∧ b < w.heap.size := by
  obtain ⟨xs, ys, h1, _, _, h4, _⟩ := h
  exact fun b hb => ⟨h4 b hb, h1.lt b hb⟩
/-- a write to a row of the region's own is no write to what stood before -/
theorem below_own {B : Nat} {S k : Nat → Prop} {u w w' : World} {v : Value} {l m : List T} (h : Own B S w k v l m) (hB : Below B u w) (hg : w.grownBy w' v.ownBlock) (hs : B ≤ w.heap.size) : Below B u w' :=
  hB.grown hg hs (fun j hj => (h.kb j hj).2.1)
/-- the row is stored in a variable, as the kids of a source -/
theorem Own.tr {B g : Nat} {S k : Nat → Prop} {w : World} {l m : List T} {a : Option Addr} {cap : Nat} {old : Array Value} (h : Own B S w k (.slice a (l.length + m.length) cap) l m) (z : Var 25 w g old) (hm : l.length + m.length ≤ maxLen) (hB : B ≤ g) (hS : ¬ S g) (hk : ¬ k g) :
    Tr (w.setRow g (nodeCells (Px.source (l ++ m)) (.slice a (l.length + m.length) cap)).toArray) g (Px.source (l ++ m)) := by
  have e : l.length + m.length = (Px.source (l ++ m)).kids.length := (List.length_append : (l ++ m).length = _).symm
  have hr := (h.put hB hS hk (nodeCells (Px.source (l ++ m)) (.slice a (l.length + m.length) cap)).toArray).row hm
  rw [e] at hr ⊢
  exact ⟨a, cap, Var.row_same z _, hr⟩
section
variable {P : Program} {md : Region.Mode} {ops : Array Oper} {Q : Exit → Act → World → Prop} {S : World → Prop} {fuel : Nat} {listed : Array Bool} {a : Act} {w : World}
/-- three operations may come up -/
theorem ready3 {i j m : Nat} (hr : Region.ready md ops listed = [i, j, m]) (h1 : AllReadyH P md ops Q S fuel listed a w [i]) (h2 : AllReadyH P md ops Q S fuel listed a w [j]) (h3 : AllReadyH P md ops Q S fuel listed a w [m]) : wpAnyH P md ops Q S (fuel + 1) listed a w :=
  wpAnyH_ready hr (by simp) (fun k hk => by
    rcases List.mem_cons.1 hk with rfl | hk
    · exact h1 _ (List.mem_singleton.2 rfl)
    · rcases List.mem_cons.1 hk with rfl | hk
      · exact h2 _ (List.mem_singleton.2 rfl)
      · exact h3 _ hk)
end
end Go.Proofs.YtbgpboiblggmiaaGreatDoor
