/-
  ParserLevels: variables whose trees' rows lie in known blocks; operations of a region, one by one.
-/
import Derived.Test.YtdiogcedlppioaaGreatDoorLvb
import Derived.Test.YtdiogcedlppioaaGreatDoorRgn
set_option linter.unusedVariables false
set_option linter.unusedSimpArgs false
namespace Go.Proofs.YtdiogcedlppioaaGreatDoor
open Go.RowKit
open Px (St T D Res)

theorem Row.under {S : Nat → Prop} {w w' : World} {l : List T} {kv : Value} (h : Row S w l kv) (hb : Below w.heap.size w w') : Row S w' l kv :=
  h.keep (fun _ h _ => h) (fun b _ _ hc => (hb.block b (lt_heap hc)).trans hc)
theorem Row.underN {N : Nat} {w w' : World} {l : List T} {kv : Value} (h : Row (fun i => i < N) w l kv) (hb : Below N w w') : Row (fun i => i < N) w' l kv :=
  h.keep (fun _ h _ => h) (fun b _ hS hc => (hb.block b hS).trans hc)
theorem Row.ltne {S : Nat → Prop} {w : World} {l : List T} {kv : Value} (h : Row S w l kv) : Row (fun i => i ≠ w.heap.size) w l kv := h.lt.mono (fun _ hi => Nat.ne_of_lt hi.2)
theorem Row.oldne {S : Nat → Prop} {u w : World} {g : Nat} {l : List T} {kv : Value} (h : Row S u l kv) (hb : Below u.heap.size u w) (hg : u.heap.size ≤ g) : Row (fun i => i ≠ g) w l kv := (h.lt.under hb).mono (fun _ hi => Nat.ne_of_lt (Nat.lt_of_lt_of_le hi.2 hg))
theorem Row.newne {N g : Nat} {w : World} {l : List T} {kv : Value} (h : Row (fun i => i ≠ g ∨ N ≤ i) w l kv) (hg : g < N) : Row (fun i => i ≠ g) w l kv := h.mono (fun _ hi => hi.elim id (fun h => Nat.ne_of_gt (Nat.lt_of_lt_of_le hg h)))
theorem Row.ltg {g : Nat} {w w' : World} {l : List T} {kv : Value} (h : Row (fun i => i < g) w l kv) (hb : Below g w w') : Row (fun i => i ≠ g) w' l kv := (h.underN hb).mono (fun _ hi => Nat.ne_of_lt hi)
theorem Row.any {S : Nat → Prop} {w : World} {l : List T} {kv : Value} (h : Row S w l kv) : Row (fun _ => True) w l kv := h.mono (fun _ _ => trivial)
/-- a variable with a tree whose rows lie in blocks of S -/
def TrR (S : Nat → Prop) (w : World) (b : Nat) (t : T) : Prop :=
  ∃ a cap, Var 25 w b #[.int .i64 t.kind, .string ⟨t.name.toArray⟩, .string ⟨t.other.toArray⟩, .int .i64 t.n, .int .i64 t.len, .int .i64 t.init, .bool t.ghost, .slice a t.kids.length cap, .int .i64 t.off] ∧ Row S w t.kids (.slice a t.kids.length cap)
theorem TrR.below {S : Nat → Prop} {w w' : World} {b : Nat} {t : T} (h : TrR S w b t) (hb : Below w.heap.size w w') : TrR S w' b t := by
  obtain ⟨a, cap, z, r⟩ := h
  exact ⟨a, cap, (hb.block b z.lt).trans z, r.under hb⟩
theorem TrR.lt {S : Nat → Prop} {w : World} {b : Nat} {t : T} (h : TrR S w b t) : TrR (fun i => S i ∧ i < w.heap.size) w b t := by
  obtain ⟨a, cap, z, r⟩ := h
  exact ⟨a, cap, z, r.lt⟩
theorem TrR.mono {S S' : Nat → Prop} {w : World} {b : Nat} {t : T} (h : TrR S w b t) (hS : ∀ i, S i → S' i) : TrR S' w b t := by
  obtain ⟨a, cap, z, r⟩ := h
  exact ⟨a, cap, z, r.mono hS⟩
theorem TrR.put {S : Nat → Prop} {w : World} {b g : Nat} {t : T} (h : TrR S w b t) (hne : b ≠ g) (hg : ¬ S g) (cs : Array Value) : TrR S (w.setRow g cs) b t := by
  obtain ⟨a, cap, z, r⟩ := h
  exact ⟨a, cap, obj_row_other z hne cs, r.setRow hg cs⟩
theorem TrR.leaf {S : Nat → Prop} {w : World} {b : Nat} (x : Px.Str) (p : Int) (hb : b = w.heap.size) : TrR S (w.alloc (.cells (nodeCells (Hd.rf x p) (.slice none 0 0)).toArray 25)) b (Hd.rf x p) := by
  subst hb
  exact ⟨none, 0, Var.new _ _ _, Row.nil _ _⟩
/-- a tree is stored in a variable -/
theorem TrR.store {S : Nat → Prop} {w : World} {g : Nat} {cs : Array Value} {t : T} {a : Option Addr} {cap : Nat} (z : Var 25 w g cs) (hr : Row S w t.kids (.slice a t.kids.length cap)) (hg : ¬ S g) :
    TrR S (w.setRow g (nodeCells t (.slice a t.kids.length cap)).toArray) g t := ⟨a, cap, Var.row_same z _, hr.setRow hg _⟩

theorem TrR.storeB {S : Nat → Prop} {w : World} {g c : Nat} {cs : Array Value} {x : Px.Str} {p : Int} {a b : T} (z : Var 25 w g cs) (hr : Row S w [a, b] (.slice (some ⟨c, 0, none⟩) 2 2)) (hg : ¬ S g) :
    TrR S (w.setRow g (nodeCells (Hd.bin x p a b) (.slice (some ⟨c, 0, none⟩) 2 2)).toArray) g (Hd.bin x p a b) := TrR.store (t := Hd.bin x p a b) z hr hg
theorem TrR.storeC {S : Nat → Prop} {w : World} {g c : Nat} {cs : Array Value} {x y : Px.Str} {p q : Nat} {neg : Bool} (z : Var 25 w g cs) (hr : Row S w [Lv.want x y p q neg, Hd.rf [97] 0, Hd.rf [98] 0] (.slice (some ⟨c, 0, none⟩) 3 3)) (hg : ¬ S g) :
    TrR S (w.setRow g (nodeCells (Lv.cond x y p q neg) (.slice (some ⟨c, 0, none⟩) 3 3)).toArray) g (Lv.cond x y p q neg) := TrR.store (t := Lv.cond x y p q neg) z hr hg

section
variable {P : Program} {md : Region.Mode} {ops : Array Oper} {Q : Exit → Act → World → Prop} {S : World → Prop} {fuel : Nat} {listed : Array Bool} {a : Act} {w : World}
/-- two operations may come up -/
theorem ready2 {i j : Nat} (hr : Region.ready md ops listed = [i, j]) (h1 : AllReadyH P md ops Q S fuel listed a w [i]) (h2 : AllReadyH P md ops Q S fuel listed a w [j]) : wpAnyH P md ops Q S (fuel + 1) listed a w :=
  wpAnyH_ready hr (by simp) (fun k hk => by
    rcases List.mem_cons.1 hk with rfl | hk
    · exact h1 _ (List.mem_singleton.2 rfl)
    · exact h2 _ hk)
theorem ready1 {i : Nat} (hr : Region.ready md ops listed = [i]) (h1 : AllReadyH P md ops Q S fuel listed a w [i]) : wpAnyH P md ops Q S (fuel + 1) listed a w := wpAnyH_ready hr (by simp) h1
theorem at_call {i : Nat} {dst : Option Tmp} {op : Op} {ty : TypeId} {pos : String} {after : Array Edge} {guard : Option (Nat × Bool)} {f : FuncId} {args : Array Value}
    (ho : ops[i]? = some ⟨dst, op, ty, pos, after, guard⟩) (hw : Region.wanted ⟨dst, op, ty, pos, after, guard⟩ (yielded ops a.tmps) = true) (he : (execOp a.eval ⟨dst, op, ty, pos, after, guard⟩).run P w = .ok (.enter f args) w)
    (h : Calls P f args w fun e w' => ∃ v, e = .returned v ∧ S w' ∧ (S w' → wpAnyH P md ops Q S fuel (listed.setIfInBounds i true) (a.put dst v) w')) : AllReadyH P md ops Q S fuel listed a w [i] := by
  refine AllReadyH.cons ho (fun K hK => ?_) AllReadyH.nil
  rw [if_pos hw]
  unfold Oper.wp
  rw [he]
  refine h.mono fun e w' hk => ?_
  obtain ⟨v, rfl, hS, hk⟩ := hk
  exact hK.out _ _ hS hk
theorem at_op {i : Nat} {dst : Option Tmp} {op : Op} {ty : TypeId} {pos : String} {after : Array Edge} {guard : Option (Nat × Bool)} {v : Value} {w1 : World}
    (ho : ops[i]? = some ⟨dst, op, ty, pos, after, guard⟩) (hw : Region.wanted ⟨dst, op, ty, pos, after, guard⟩ (yielded ops a.tmps) = true) (he : (execOp a.eval ⟨dst, op, ty, pos, after, guard⟩).run P w = .ok (.value v) w1)
    (hS : S w1) (h : S w1 → wpAnyH P md ops Q S fuel (listed.setIfInBounds i true) (a.put dst v) w1) : AllReadyH P md ops Q S fuel listed a w [i] := by
  refine AllReadyH.cons ho (fun K hK => ?_) AllReadyH.nil
  rw [if_pos hw]
  unfold Oper.wp
  rw [he]
  exact hK.out _ _ hS h
theorem at_skip {i : Nat} {op : Op} {ty : TypeId} {pos : String} {after : Array Edge} {guard : Option (Nat × Bool)} {w1 : World}
    (ho : ops[i]? = some ⟨none, op, ty, pos, after, guard⟩) (hw : Region.wanted ⟨none, op, ty, pos, after, guard⟩ (yielded ops a.tmps) = true) (he : (execOp a.eval ⟨none, op, ty, pos, after, guard⟩).run P w = .ok .skip w1)
    (hS : S w1) (h : S w1 → wpAnyH P md ops Q S fuel (listed.setIfInBounds i true) a w1) : AllReadyH P md ops Q S fuel listed a w [i] := by
  refine AllReadyH.cons ho (fun K hK => ?_) AllReadyH.nil
  rw [if_pos hw]
  unfold Oper.wp
  rw [he]
  exact hK.out _ _ hS h
end
theorem run_allocN {a : Act} {dst : Option Tmp} {ty : TypeId} {pos : String} {after : Array Edge} {guard : Option (Nat × Bool)} {w : World} :
    (execOp a.eval ⟨dst, .alloc 25, ty, pos, after, guard⟩).run Tryz.prog w = .ok (.value (.pointer (some ⟨w.heap.size, 0, none⟩))) (w.alloc (.cells #[.int .i64 0, .string ⟨#[]⟩, .string ⟨#[]⟩, .int .i64 0, .int .i64 0, .int .i64 0, .bool false, .slice none 0 0, .int .i64 0] 25)) := by
  go_simp
theorem run_storeN {a : Act} {b : Nat} {cs old : Array Value} {p x : Operand} {ty : TypeId} {pos : String} {after : Array Edge} {guard : Option (Nat × Bool)} {w : World}
    (hp : a.eval p = .pointer (some ⟨b, 0, none⟩)) (hx : a.eval x = .agg cs) (h9 : cs.size = 9) (ho : old.size = 9) (h1 : cs.all (·.oneCell') = true) (hS : Var 25 w b old) :
    (execOp a.eval ⟨none, .store 25 p x, ty, pos, after, guard⟩).run Tryz.prog w = .ok .skip (w.setRow b cs) := by
  have h2 := run_storeVar_row (P := Tryz.prog) w b 25 25 old cs hS (by rw [infoN, h9]) (by rw [ho, h9]) h1
  simp [execOp, hp, hx, Instr.storeAt, Instr.sureAddr, h2]
theorem run_storeT {a : Act} {b : Nat} {t : T} {ad : Option Addr} {n cap : Nat} {old : Array Value} {p x : Operand} {ty : TypeId} {pos : String} {after : Array Edge} {guard : Option (Nat × Bool)} {w : World}
    (hp : a.eval p = .pointer (some ⟨b, 0, none⟩)) (hx : a.eval x = nodeVal t (.slice ad n cap)) (ho : old.size = 9) (hS : Var 25 w b old) :
    (execOp a.eval ⟨none, .store 25 p x, ty, pos, after, guard⟩).run Tryz.prog w = .ok .skip (w.setRow b (nodeCells t (.slice ad n cap)).toArray) :=
  run_storeN hp hx rfl ho (by simp [nodeCells, Value.oneCell']) hS
/-- ref, its value written out -/
theorem ref_leaf (x : Px.Str) (p : Int) (w : World) : Calls Tryz.prog 23 #[.string ⟨x.toArray⟩, .int .i64 p] w fun e w' =>
    e = .returned (.agg #[.int .i64 (Hd.rf x p).kind, .string ⟨(Hd.rf x p).name.toArray⟩, .string ⟨(Hd.rf x p).other.toArray⟩, .int .i64 (Hd.rf x p).n, .int .i64 (Hd.rf x p).len, .int .i64 (Hd.rf x p).init, .bool (Hd.rf x p).ghost, .slice none 0 0, .int .i64 (Hd.rf x p).off]) ∧ Below w.heap.size w w' :=
  (ref_law x p w).mono fun _ _ h => h
theorem zero_nine : (#[.int .i64 0, .string ⟨#[]⟩, .string ⟨#[]⟩, .int .i64 0, .int .i64 0, .int .i64 0, .bool false, .slice none 0 0, .int .i64 0] : Array Value).size = 9 := rfl
theorem ba_app (a b : List UInt8) : (⟨a.toArray⟩ : ByteArray) ++ ⟨b.toArray⟩ = ⟨(a ++ b).toArray⟩ := by
  apply ByteArray.ext
  simp

set_option maxRecDepth 100000 in
set_option maxHeartbeats 1000000 in
theorem two_row (x : Px.Str) (p : Int) (t u : T) (a b : Option Addr) (ca cb : Nat) (w : World) (S : Nat → Prop) (ht : Row S w t.kids (.slice a t.kids.length ca)) (hu : Row S w u.kids (.slice b u.kids.length cb)) :
    Calls Tryz.prog 25 #[.string ⟨x.toArray⟩, .int .i64 p, nodeVal t (.slice a t.kids.length ca), nodeVal u (.slice b u.kids.length cb)] w fun e w' => Below w.heap.size w w' ∧ ∃ c, e = .returned (nodeVal (Hd.bin x p t u) (.slice (some ⟨c, 0, none⟩) 2 2)) ∧ Row (fun i => S i ∨ w.heap.size ≤ i) w' [t, u] (.slice (some ⟨c, 0, none⟩) 2 2) := by
  have Ht := Lib.hid ht
  have Hu := Lib.hid hu
  clear ht hu
  unfold nodeVal
  go_enter Tryz.func25, Tryz.ntmps25
  go_wp2_with fail
  ((try simp only [Exit.inBlock, Exit.then]); refine ret_node (by rfl) (by rfl) (Var.alloc (Var.new' (by simp)) _) (by first | rfl | simp) (by rfl) ?_)
  refine ⟨(((((Below.refl _ _).alloc (Nat.le_refl _) _).alloc (by simp) _).alloc (by simp; omega) _).alloc (by simp; omega) _), w.heap.size + 1 + 1 + 1, by first | rfl | (simp [Hd.bin, nodeVal]; done), ?_⟩
  obtain ⟨W, hW, hWb⟩ : ∃ W, W = ((w.alloc (.cells (nodeCells t (.slice a t.kids.length ca)).toArray 25)).alloc (.cells (nodeCells u (.slice b u.kids.length cb)).toArray 25)).alloc (.cells (nodeCells (T.named 5 p x [t, u]) (.slice (some ⟨w.heap.size + 1 + 1 + 1, 0, none⟩) 2 2)).toArray 25) ∧ Below w.heap.size w W :=
    ⟨_, rfl, (((Below.refl _ _).alloc (Nat.le_refl _) _).alloc (by simp) _).alloc (by simp; omega) _⟩
  have hs : W.heap.size = w.heap.size + 1 + 1 + 1 := by rw [hW]; simp
  have := row_new' (b := w.heap.size + 1 + 1 + 1) (nodes_cons (t := t) (Ht.out.under hWb) (nodes_one (t := u) (Hu.out.under hWb))) (by show 2 ≤ maxLen; decide) hs.symm (cs := (nodeCells t (.slice a t.kids.length ca) ++ nodeCells u (.slice b u.kids.length cb)).toArray) rfl
  rw [hW] at this
  refine Row.mono this ?_
  intro i hi
  rcases hi with h | h
  · exact .inl h
  · right
    omega
/-- the two rows of operators and levels -/
structure RowsAt (w : World) (b1 b2 : Nat) : Prop where
  c1 : ∀ i x, (opsL 8 0)[i]? = some x → w.cell? ⟨b1, i, none⟩ = some (.string ⟨x.toArray⟩)
  c2 : ∀ (i : Nat) (n : Nat), (levL 8 0)[i]? = some n → w.cell? ⟨b2, i, none⟩ = some (.int .i64 (n : Int))
  l1 : b1 < w.heap.size
  l2 : b2 < w.heap.size
theorem RowsAt.below {w w' : World} {b1 b2 : Nat} (h : RowsAt w b1 b2) (hb : Below w.heap.size w w') : RowsAt w' b1 b2 :=
  ⟨fun i x hx => (hb.cell (p := ⟨b1, i, none⟩) h.l1).trans (h.c1 i x hx), fun i n hn => (hb.cell (p := ⟨b2, i, none⟩) h.l2).trans (h.c2 i n hn), Nat.lt_of_lt_of_le h.l1 hb.size, Nat.lt_of_lt_of_le h.l2 hb.size⟩
theorem RowsAt.of {w : World} {N b1 b2 c1 c2 : Nat} (h1 : w.ownsRow N 9 1 (.slice (some ⟨b1, 0, none⟩) 13 c1) 13 ((opsL 8 0).map opV)) (h2 : w.ownsRow N 3 1 (.slice (some ⟨b2, 0, none⟩) 13 c2) 13 ((levL 8 0).map levV)) : RowsAt w b1 b2 := by
  refine ⟨fun i x hx => ?_, fun i n hn => ?_, (h1.lt b1 rfl).2, (h2.lt b2 rfl).2⟩
  · have hi : i < 13 := (List.getElem?_eq_some_iff.1 hx).1
    rw [h1.cellAt i (by omega), List.getElem?_map, hx]
    rfl
  · have hi : i < 13 := (List.getElem?_eq_some_iff.1 hn).1
    rw [h2.cellAt i (by omega), List.getElem?_map, hn]
    rfl

theorem RowsAt.belowN {N : Nat} {w w' : World} {b1 b2 : Nat} (h : RowsAt w b1 b2) (hb : Below N w w') (h1 : b1 < N) (h2 : b2 < N) : RowsAt w' b1 b2 :=
  ⟨fun i x hx => (hb.cell (p := ⟨b1, i, none⟩) h1).trans (h.c1 i x hx), fun i n hn => (hb.cell (p := ⟨b2, i, none⟩) h2).trans (h.c2 i n hn), Nat.lt_of_lt_of_le h.l1 hb.size, Nat.lt_of_lt_of_le h.l2 hb.size⟩
/-- the first operand is negated in its variable -/
theorem put_not {w v W : World} {A b1 b2 : Nat} {c0 : Array Value} {kv : Value} (z : Var 25 v A c0) (hr : Row (fun i => i ≠ A) v [] kv)
    (T13 : TrR (fun i => i ≠ A) v (A + 1) (Hd.rf [98] 0)) (T14 : TrR (fun i => i ≠ A) v (A + 1 + 1) (Hd.rf [99] 0)) (hS : SymsAt v) (hM : MaxAt v) (hB : Below w.heap.size w v) (RW : RowsAt v b1 b2)
    (hA : b1 < A ∧ b2 < A ∧ 1 < A ∧ w.heap.size ≤ A)
    (hW : W = (v.setRow A (nodeCells (Lv.first true) (.slice (some ⟨v.heap.size, 0, none⟩) 1 1)).toArray).alloc (.cells (nodeCells (Hd.rf [97] 0) kv).toArray 25)) :
    Hid (TrR (fun i => i ≠ A) W A (Lv.first true)) ∧ Hid (TrR (fun i => i ≠ A) W (A + 1) (Hd.rf [98] 0)) ∧ Hid (TrR (fun i => i ≠ A) W (A + 1 + 1) (Hd.rf [99] 0)) ∧ Hid (SymsAt W) ∧ Hid (MaxAt W) ∧ Hid (Below w.heap.size w W) ∧ Hid (RowsAt W b1 b2) := by
  have hzl := z.lt
  obtain ⟨V, hV⟩ : ∃ V, V = v.setRow A (nodeCells (Lv.first true) (.slice (some ⟨v.heap.size, 0, none⟩) 1 1)).toArray := ⟨_, rfl⟩
  have hVs : V.heap.size = v.heap.size := by rw [hV]; simp [World.setRow]
  have h1 : Below V.heap.size V W := by rw [hW, ← hV]; exact (Below.refl _ _).alloc (Nat.le_refl _) _
  have h0 : Below A v V := by rw [hV]; exact below_setRow (Below.refl _ _) (Nat.le_refl _) _
  have hb : Below A v W := h0.trans (h1.mono (by omega))
  have hrow : Row (fun i => i ≠ A) W (Lv.first true).kids (.slice (some ⟨v.heap.size, 0, none⟩) 1 1) := by
    rw [hW, ← hV]
    refine Row.mono (row_new' (b := v.heap.size) (nodes_one (S := fun i => i ≠ A) (t := Hd.rf [97] 0) (w := V) (by rw [hV]; exact hr.setRow (fun h => h rfl) _)) (by show 1 ≤ maxLen; decide) hVs.symm (cs := (nodeCells (Hd.rf [97] 0) kv).toArray) rfl) ?_
    intro i hi
    rcases hi with h | h
    · exact h
    · omega
  refine ⟨Lib.hid ?_, Lib.hid ?_, Lib.hid ?_, Lib.hid (symsAt_below hS hb (by omega)), Lib.hid (hM.below hb (by omega)), Lib.hid (hB.trans (hb.mono hA.2.2.2)), Lib.hid (RW.belowN hb hA.1 hA.2.1)⟩
  · refine ⟨_, _, ?_, hrow⟩
    rw [hW]
    exact Var.alloc (Var.row_same z _) _
  · exact TrR.below (by rw [hV]; exact T13.put (by omega) (fun h => h rfl) _) h1
  · exact TrR.below (by rw [hV]; exact T14.put (by omega) (fun h => h rfl) _) h1
end Go.Proofs.YtdiogcedlppioaaGreatDoor
