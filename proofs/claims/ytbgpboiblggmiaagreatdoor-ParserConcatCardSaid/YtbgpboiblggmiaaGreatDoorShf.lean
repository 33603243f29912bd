/-
  The reference's Shift: a tree with its offsets moved.
-/
import Derived.Test.YtbgpboiblggmiaaGreatDoorLwu
import Derived.Test.YtbgpboiblggmiaaGreatDoorCca
import Derived.Deep.AppendLies
set_option linter.unusedVariables false
set_option linter.unusedSimpArgs false
namespace Go.Proofs.YtbgpboiblggmiaaGreatDoor
open Go.RowKit
open Px (St T D Res)

mutual
/-- all offsets are small -/
def InT : T → Prop
  | .mk _ _ _ _ _ _ _ kids o => 0 ≤ o ∧ o ≤ 100000 ∧ InL kids
def InL : List T → Prop
  | [] => True
  | t :: r => InT t ∧ InL r
end
theorem InT.open {t : T} (h : InT t) : 0 ≤ t.off ∧ t.off ≤ 100000 ∧ InL t.kids := by cases t; rw [InT] at h; exact h
theorem InL.get : ∀ {l : List T} {k : Nat} {u : T}, InL l → l[k]? = some u → 0 ≤ u.off ∧ u.off ≤ 100000 ∧ InL u.kids
  | t :: r, 0, u, h, hu => by
    rw [InL] at h
    simp only [List.getElem?_cons_zero, Option.some.injEq] at hu
    subst hu
    exact h.1.open
  | t :: r, k + 1, u, h, hu => by
    rw [InL] at h
    exact InL.get h.2 (by simpa using hu)
  | [], k, u, _, hu => by simp at hu
/-- a tree whose kids are moved, with an offset of its own -/
def shK (K b : Int) (t : T) : T := .mk t.kind t.name t.other t.n t.len t.init t.ghost (Px.shL b t.kids) K
theorem shK_shT (b : Int) (t : T) : shK (t.off + b) b t = Px.shT b t := by cases t; rw [Px.shT]; rfl
theorem shK_kids (K b : Int) (t : T) : (shK K b t).kids = Px.shL b t.kids := rfl
theorem shL_len (b : Int) : ∀ l : List T, (Px.shL b l).length = l.length
  | [] => by rw [Px.shL]
  | t :: r => by rw [Px.shL, List.length_cons, shL_len b r, List.length_cons]
theorem shL_snoc (b : Int) (t : T) : ∀ l : List T, Px.shL b (l ++ [t]) = Px.shL b l ++ [Px.shT b t]
  | [] => by rw [List.nil_append, Px.shL, Px.shL, Px.shL]; rfl
  | u :: r => by rw [List.cons_append, Px.shL, Px.shL, shL_snoc b t r]; rfl

set_option maxRecDepth 100000 in
set_option maxHeartbeats 8000000 in
theorem rshift_any : ∀ (n : Nat) (t : T) (b : Int) (keep : Bool) (K : Int) (a : Option Addr) (cap : Nat) (w : World), Px.size t ≤ n → n ≤ 900000 → 0 ≤ b → b ≤ 100000 → InL t.kids →
    ((keep = true ∧ K = t.off) ∨ (keep = false ∧ K = t.off + b ∧ 0 ≤ t.off ∧ t.off ≤ 100000)) → RRow w.heap.size w t.kids (.slice a t.kids.length cap) →
    Calls Tryz.prog 28 #[nodeVal t (.slice a t.kids.length cap), .int .i64 b, .bool keep] w (TreeMade (shK K b t) w)
  | 0, t, b, keep, K, a, cap, w, hn, _, _, _, _, _, _ => by cases t; rw [Px.size] at hn; omega
  | n + 1, t, b, keep, K, a, cap, w, hn, hn2, hb0, hb9, hin, hkk, hk => by
    obtain ⟨i0, hi, hz0, hz1, hz2⟩ := info_parts infoNode
    have ih := Lib.hid (rshift_any n)
    have hs : Px.sizes t.kids ≤ n := by cases t; rw [Px.size] at hn; show Px.sizes _ ≤ _; simp only [Px.T.kids]; omega
    have hlen : t.kids.length ≤ 900000 := by have := len_sizes t.kids; omega
    have Hk := Lib.hid hk
    have Hin := Lib.hid hin
    obtain ⟨R, hR⟩ : ∃ R, R = shK K b t := ⟨_, rfl⟩
    rw [← hR]
    have HR := Lib.hid hR
    clear hn hk hR hin
    rcases hkk with ⟨rfl, rfl⟩ | ⟨rfl, rfl, ho0, ho9⟩
    · unfold nodeVal
      go_enter Tryz.func28, Tryz.ntmps28
      go_wp2_with fail
      go_loopw [8] (fun i wr => ∃ (k : Nat) (a' : Option Addr) (c' : Nat), k ≤ t.kids.length ∧ i = .int .i64 k ∧ Hid (NineAt wr w.heap.size 0 t (.slice a t.kids.length cap)) ∧ Hid (Var 25 wr (w.heap.size + 1) #[.int .i64 0, .string ⟨#[]⟩, .string ⟨#[]⟩, .int .i64 0, .int .i64 0, .int .i64 0, .bool false, .slice none 0 0, .int .i64 0]) ∧
        Hid (Var 25 wr (w.heap.size + 2) #[.int .i64 t.kind, .string ⟨t.name.toArray⟩, .string ⟨t.other.toArray⟩, .int .i64 t.n, .int .i64 t.len, .int .i64 t.init, .bool t.ghost, .slice a' k c', .int .i64 t.off]) ∧
        Hid (RowX (fun b => w.heap.size + 3 ≤ b) wr (Px.shL b (t.kids.take k)) (.slice a' k c')) ∧ Hid (Below w.heap.size w wr) ∧ w.heap.size + 3 ≤ wr.heap.size) (fun i _ => t.kids.length - (intOf i).toNat)
      case atStart =>
        refine ⟨0, none, 0, by omega, rfl, Lib.hid ?_, Lib.hid ?_, Lib.hid ?_, Lib.hid (RowX.nil _ _), Lib.hid ?_, by simp⟩
        · exact ((NineAt.var w t _).below ((Below.refl (w.heap.size + 1) _).alloc (by simp) _) (by omega)).below ((Below.refl (w.heap.size + 1) _).alloc (by simp <;> omega) _) (by omega)
        · exact Var.alloc (Var.new' (by simp)) _
        · exact Var.new' (by simp)
        · exact (((Below.refl _ _).alloc (Nat.le_refl _) _).alloc (by simp) _).alloc (by simp <;> omega) _
      case round =>
        obtain ⟨k, a', c', hk', rfl, Hn, H2, H3, HX, Hb, hsz⟩ := hrel
        have z3 := H3.out
        have z3l := z3.lt
        have hl1 : w.heap.size < wr.heap.size := by omega
        obtain ⟨z3c, z3f⟩ := obj_facts z3
        obtain ⟨e0, e1, e2, e3, e4, e5, e6, e7, e8⟩ := Hn.out
        simp only [Nat.zero_add] at e0 e1 e2 e3 e4 e5 e6 e7 e8
        by_cases hlt : k < t.kids.length
        · obtain ⟨u, hu⟩ : ∃ u, t.kids[k]? = some u := ⟨_, List.getElem?_eq_getElem hlt⟩
          have hus : Px.size u ≤ n := by
            have h1 : Px.sizes (t.kids.drop k) ≤ Px.sizes t.kids := sizes_drop_le t.kids k
            rw [sizes_drop hu, Px.sizes] at h1
            omega
          obtain ⟨b1, o1, ka, kc, ha, hb1, hrow1, h9⟩ := Hk.out.get hu
          subst ha
          obtain ⟨d0, d1, d2, d3, d4, d5, d6, d7, d8⟩ := h9.below Hb.out hb1
          have hdb : Below wr.heap.size wr wr.drew := (Below.refl _ _).drew
          have hin := (Hin.out).get hu
          have hcall := ih.out u b false (u.off + b) ka kc wr.drew hus (by omega) hb0 hb9 hin.2.2 (.inr ⟨rfl, rfl, hin.1, hin.2.1⟩) ((hrow1.below (Hb.out.drew)).mono (by show w.heap.size ≤ wr.heap.size; omega))
          unfold nodeVal at hcall
          obtain ⟨su, hsu⟩ : ∃ s, s = shK (u.off + b) b u := ⟨_, rfl⟩
          rw [← hsu] at hcall
          have Hcall := Lib.hid hcall
          have Htake := Lib.hid (show Px.shL b (t.kids.take (k + 1)) = Px.shL b (t.kids.take k) ++ [su] by rw [take_snoc _ _ _ hu, shL_snoc, hsu, shK_shT])
          have hk0 : (0 : Int) ≤ (k : Int) := Int.natCast_nonneg _
          have hk1 : (k : Int) < (t.kids.length : Int) := by omega
          obtain ⟨l, hl⟩ : ∃ l, l = Px.shL b (t.kids.take k) := ⟨_, rfl⟩
          have hll : l.length = k := by rw [hl, shL_len, List.length_take]; omega
          have Hll := Lib.hid hll
          have HX := Lib.hid (show RowX (fun b => w.heap.size + 3 ≤ b) wr l (.slice a' k c') by rw [hl]; exact HX.out)
          rw [← hl] at Htake
          clear hcall hrow1 h9 hu hsu hl hll
          go_wp2_with fail
          go_region_law (first
            | (go_simp; go_at_call 28; refine Hcall.out.mono ?_; rintro e w2 ⟨hq2, a2, c2, rfl, hr2⟩; have hb2 : Below wr.heap.size wr w2 := (Below.drew (Below.refl _ _)).trans hq2; have hs2 := hb2.size; have Hr2 := Lib.hid (show Row (fun b => wr.heap.size ≤ b ∧ b < w2.heap.size) w2 su.kids (.slice a2 su.kids.length c2) from hr2.lt); have z3' : Var 25 w2 (w.heap.size + 2) _ := (hb2.block _ (by omega)).trans z3; have Hn2 := Lib.hid (Hn.out.below hb2 hl1); clear z3 z3c z3f z3l e0 e1 e2 e3 e4 e5 e6 e7 e8; have z3 := z3'; clear z3'; have z3l := z3.lt; obtain ⟨z3c, z3f⟩ := obj_facts z3; obtain ⟨e0, e1, e2, e3, e4, e5, e6, e7, e8⟩ := Hn2.out; simp only [Nat.zero_add] at e0 e1 e2 e3 e4 e5 e6 e7 e8; have hl2 : w.heap.size < w2.heap.size := (by omega); obtain ⟨xs, hx1, hx2, hx3⟩ := (HX.out.lt.keep (S' := fun b => w.heap.size + 3 ≤ b ∧ b < wr.heap.size) (fun b h _ => h) (fun b c hS hc => (hb2.block b hS.2).trans hc)); have Hx1 := Lib.hid hx1; have Hx2 := Lib.hid hx2; have Hx3 := Lib.hid hx3; have Hb2 := Lib.hid (Hb.out.trans (hb2.mono (by omega))); have Hb2r := Lib.hid hb2; rw [Hll.out] at hx1; have Hx1k := Lib.hid hx1; clear hq2 hr2 hx1 hx2 hx3 hb2)
            | (refine step_append_lies _ (by rfl) (.tmp 26) (.tmp 34) 23 (by rfl) 0 25 i0 _ 9 104 Tryz.underlying23 hi hz0 hz1 hz2 (by rfl) (by omega) (.slice a' k c') k xs (by rfl) (Hx1k.out.alloc _) ⟨w2.heap.size, 0, none⟩ 1 1 (nodeCells su (.slice a2 su.kids.length c2)) (by rfl) (by rfl) (World.news_of_block (cs := (nodeCells su (.slice a2 su.kids.length c2)).toArray) (t := 25) (fr := (0, 0)) (heap_alloc_new w2 _)) (node_ones _ _ _ _) (by omega) (by unfold maxLen; omega) (by omega) (by omega) (w2.heap.size + 1) (by simp) ?_; intro gA capA wA hownA hgrowA hatA hltA; have HownA := Lib.hid hownA; have HgrowA := Lib.hid hgrowA; have HatA := Lib.hid hatA; have hneA : (Value.slice a' k c').ownBlock ≠ some (w.heap.size + 2) := (by intro hh; have := (Hx2.out _ hh).1; omega); have z3' := Var.grown z3 hgrowA hneA; clear z3 z3c z3f z3l; have z3 := z3'; clear z3'; have z3l := z3.lt; obtain ⟨z3c, z3f⟩ := obj_facts z3; clear hownA hgrowA hatA))
          all_goals
            go_wp2_with fail
            have z4 : Var 25 wA (w.heap.size + 1 + 1) _ := z3
            rw [storeF z4]
            have hbA : Below (w.heap.size + 3) w2 wA := ((Below.refl (w.heap.size + 3) w2).alloc (by omega) _).grown HgrowA.out (by simp <;> omega) (fun j hj => (Hx2.out j hj).1)
            have hbS := fun cs => below_setRow (Below.refl (w.heap.size + 2) wA) (b := w.heap.size + 1 + 1) (Nat.le_refl _) cs
            have hsA := hbA.size
            have hrow := append_row Hx1.out Hx2.out Hx3.out Hr2.out (by omega) (by omega) (by rw [Hll.out]; exact HownA.out) HgrowA.out HatA.out
            rw [Hll.out] at hrow
            refine ⟨⟨k + 1, some ⟨gA, 0, none⟩, capA, by omega, by go_num, Lib.hid ((Hn2.out.below hbA (by omega)).below (hbS _) (by omega)), Lib.hid (((hbS _).block _ (by omega)).trans ((hbA.block _ (by omega)).trans ((Hb2r.out.block _ (by omega)).trans H2.out))), Lib.hid (Var.row_same z4 _), Lib.hid ?_, Lib.hid ?_, ?_⟩, ?_⟩
            · rw [Htake.out]
              exact hrow.setRow (by omega) _
            · exact below_setRow ((Hb2.out.alloc (by omega) _).grown HgrowA.out (by simp <;> omega) (fun j hj => by have := (Hx2.out j hj).1; omega)) (by omega) _
            · simp [World.setRow]
              omega
            · simp [intOf]
              omega
        · obtain rfl : k = t.kids.length := by omega
          have z2 := H2.out
          have z2l := z2.lt
          obtain ⟨z2c, z2f⟩ := obj_facts z2
          go_wp2_with fail
          rw [storeN _ _ _ _ _ _ _ _ _ (HasN.of z2 (by rfl))]
          refine ret_node (by rfl) (by rfl) (Var.row_same z2 _) (by rfl) (by rfl) ?_
          rw [HR.out]
          refine ⟨below_setRow Hb.out (by omega) _, a', c', ?_, ?_⟩
          · cases t
            simp only [shK, Px.T.kind, Px.T.name, Px.T.other, Px.T.n, Px.T.len, Px.T.init, Px.T.ghost, Px.T.off, Px.T.kids, shL_len]
          · rw [shK_kids, shL_len]
            have h1 := HX.out
            rw [List.take_length] at h1
            exact (h1.setRow (by omega) _).row.mono (fun b hb => by omega)
    · have hwo : IntKind.i64.wrap (t.off + b) = t.off + b := IntWalk.i64_in _ (by omega)
      unfold nodeVal
      go_enter Tryz.func28, Tryz.ntmps28
      go_wp2_with fail
      go_loopw [8] (fun i wr => ∃ (k : Nat) (a' : Option Addr) (c' : Nat), k ≤ t.kids.length ∧ i = .int .i64 k ∧ Hid (NineAt wr w.heap.size 0 t (.slice a t.kids.length cap)) ∧ Hid (Var 25 wr (w.heap.size + 1) #[.int .i64 0, .string ⟨#[]⟩, .string ⟨#[]⟩, .int .i64 0, .int .i64 0, .int .i64 0, .bool false, .slice none 0 0, .int .i64 0]) ∧
        Hid (Var 25 wr (w.heap.size + 2) #[.int .i64 t.kind, .string ⟨t.name.toArray⟩, .string ⟨t.other.toArray⟩, .int .i64 t.n, .int .i64 t.len, .int .i64 t.init, .bool t.ghost, .slice a' k c', .int .i64 (t.off + b)]) ∧
        Hid (RowX (fun b => w.heap.size + 3 ≤ b) wr (Px.shL b (t.kids.take k)) (.slice a' k c')) ∧ Hid (Below w.heap.size w wr) ∧ w.heap.size + 3 ≤ wr.heap.size) (fun i _ => t.kids.length - (intOf i).toNat)
      case atStart =>
        refine ⟨0, none, 0, by omega, rfl, Lib.hid ?_, Lib.hid ?_, Lib.hid ?_, Lib.hid (RowX.nil _ _), Lib.hid ?_, by simp⟩
        · exact ((NineAt.var w t _).below ((Below.refl (w.heap.size + 1) _).alloc (by simp) _) (by omega)).below ((Below.refl (w.heap.size + 1) _).alloc (by simp <;> omega) _) (by omega)
        · exact Var.alloc (Var.new' (by simp)) _
        · exact Var.new' (by simp)
        · exact (((Below.refl _ _).alloc (Nat.le_refl _) _).alloc (by simp) _).alloc (by simp <;> omega) _
      case round =>
        obtain ⟨k, a', c', hk', rfl, Hn, H2, H3, HX, Hb, hsz⟩ := hrel
        have z3 := H3.out
        have z3l := z3.lt
        have hl1 : w.heap.size < wr.heap.size := by omega
        obtain ⟨z3c, z3f⟩ := obj_facts z3
        obtain ⟨e0, e1, e2, e3, e4, e5, e6, e7, e8⟩ := Hn.out
        simp only [Nat.zero_add] at e0 e1 e2 e3 e4 e5 e6 e7 e8
        by_cases hlt : k < t.kids.length
        · obtain ⟨u, hu⟩ : ∃ u, t.kids[k]? = some u := ⟨_, List.getElem?_eq_getElem hlt⟩
          have hus : Px.size u ≤ n := by
            have h1 : Px.sizes (t.kids.drop k) ≤ Px.sizes t.kids := sizes_drop_le t.kids k
            rw [sizes_drop hu, Px.sizes] at h1
            omega
          obtain ⟨b1, o1, ka, kc, ha, hb1, hrow1, h9⟩ := Hk.out.get hu
          subst ha
          obtain ⟨d0, d1, d2, d3, d4, d5, d6, d7, d8⟩ := h9.below Hb.out hb1
          have hdb : Below wr.heap.size wr wr.drew := (Below.refl _ _).drew
          have hin := (Hin.out).get hu
          have hcall := ih.out u b false (u.off + b) ka kc wr.drew hus (by omega) hb0 hb9 hin.2.2 (.inr ⟨rfl, rfl, hin.1, hin.2.1⟩) ((hrow1.below (Hb.out.drew)).mono (by show w.heap.size ≤ wr.heap.size; omega))
          unfold nodeVal at hcall
          obtain ⟨su, hsu⟩ : ∃ s, s = shK (u.off + b) b u := ⟨_, rfl⟩
          rw [← hsu] at hcall
          have Hcall := Lib.hid hcall
          have Htake := Lib.hid (show Px.shL b (t.kids.take (k + 1)) = Px.shL b (t.kids.take k) ++ [su] by rw [take_snoc _ _ _ hu, shL_snoc, hsu, shK_shT])
          have hk0 : (0 : Int) ≤ (k : Int) := Int.natCast_nonneg _
          have hk1 : (k : Int) < (t.kids.length : Int) := by omega
          obtain ⟨l, hl⟩ : ∃ l, l = Px.shL b (t.kids.take k) := ⟨_, rfl⟩
          have hll : l.length = k := by rw [hl, shL_len, List.length_take]; omega
          have Hll := Lib.hid hll
          have HX := Lib.hid (show RowX (fun b => w.heap.size + 3 ≤ b) wr l (.slice a' k c') by rw [hl]; exact HX.out)
          rw [← hl] at Htake
          clear hcall hrow1 h9 hu hsu hl hll
          go_wp2_with fail
          go_region_law (first
            | (go_simp; go_at_call 28; refine Hcall.out.mono ?_; rintro e w2 ⟨hq2, a2, c2, rfl, hr2⟩; have hb2 : Below wr.heap.size wr w2 := (Below.drew (Below.refl _ _)).trans hq2; have hs2 := hb2.size; have Hr2 := Lib.hid (show Row (fun b => wr.heap.size ≤ b ∧ b < w2.heap.size) w2 su.kids (.slice a2 su.kids.length c2) from hr2.lt); have z3' : Var 25 w2 (w.heap.size + 2) _ := (hb2.block _ (by omega)).trans z3; have Hn2 := Lib.hid (Hn.out.below hb2 hl1); clear z3 z3c z3f z3l e0 e1 e2 e3 e4 e5 e6 e7 e8; have z3 := z3'; clear z3'; have z3l := z3.lt; obtain ⟨z3c, z3f⟩ := obj_facts z3; obtain ⟨e0, e1, e2, e3, e4, e5, e6, e7, e8⟩ := Hn2.out; simp only [Nat.zero_add] at e0 e1 e2 e3 e4 e5 e6 e7 e8; have hl2 : w.heap.size < w2.heap.size := (by omega); obtain ⟨xs, hx1, hx2, hx3⟩ := (HX.out.lt.keep (S' := fun b => w.heap.size + 3 ≤ b ∧ b < wr.heap.size) (fun b h _ => h) (fun b c hS hc => (hb2.block b hS.2).trans hc)); have Hx1 := Lib.hid hx1; have Hx2 := Lib.hid hx2; have Hx3 := Lib.hid hx3; have Hb2 := Lib.hid (Hb.out.trans (hb2.mono (by omega))); have Hb2r := Lib.hid hb2; rw [Hll.out] at hx1; have Hx1k := Lib.hid hx1; clear hq2 hr2 hx1 hx2 hx3 hb2)
            | (refine step_append_lies _ (by rfl) (.tmp 26) (.tmp 34) 23 (by rfl) 0 25 i0 _ 9 104 Tryz.underlying23 hi hz0 hz1 hz2 (by rfl) (by omega) (.slice a' k c') k xs (by rfl) (Hx1k.out.alloc _) ⟨w2.heap.size, 0, none⟩ 1 1 (nodeCells su (.slice a2 su.kids.length c2)) (by rfl) (by rfl) (World.news_of_block (cs := (nodeCells su (.slice a2 su.kids.length c2)).toArray) (t := 25) (fr := (0, 0)) (heap_alloc_new w2 _)) (node_ones _ _ _ _) (by omega) (by unfold maxLen; omega) (by omega) (by omega) (w2.heap.size + 1) (by simp) ?_; intro gA capA wA hownA hgrowA hatA hltA; have HownA := Lib.hid hownA; have HgrowA := Lib.hid hgrowA; have HatA := Lib.hid hatA; have hneA : (Value.slice a' k c').ownBlock ≠ some (w.heap.size + 2) := (by intro hh; have := (Hx2.out _ hh).1; omega); have z3' := Var.grown z3 hgrowA hneA; clear z3 z3c z3f z3l; have z3 := z3'; clear z3'; have z3l := z3.lt; obtain ⟨z3c, z3f⟩ := obj_facts z3; clear hownA hgrowA hatA))
          all_goals
            go_wp2_with fail
            have z4 : Var 25 wA (w.heap.size + 1 + 1) _ := z3
            rw [storeF z4]
            have hbA : Below (w.heap.size + 3) w2 wA := ((Below.refl (w.heap.size + 3) w2).alloc (by omega) _).grown HgrowA.out (by simp <;> omega) (fun j hj => (Hx2.out j hj).1)
            have hbS := fun cs => below_setRow (Below.refl (w.heap.size + 2) wA) (b := w.heap.size + 1 + 1) (Nat.le_refl _) cs
            have hsA := hbA.size
            have hrow := append_row Hx1.out Hx2.out Hx3.out Hr2.out (by omega) (by omega) (by rw [Hll.out]; exact HownA.out) HgrowA.out HatA.out
            rw [Hll.out] at hrow
            refine ⟨⟨k + 1, some ⟨gA, 0, none⟩, capA, by omega, by go_num, Lib.hid ((Hn2.out.below hbA (by omega)).below (hbS _) (by omega)), Lib.hid (((hbS _).block _ (by omega)).trans ((hbA.block _ (by omega)).trans ((Hb2r.out.block _ (by omega)).trans H2.out))), Lib.hid (Var.row_same z4 _), Lib.hid ?_, Lib.hid ?_, ?_⟩, ?_⟩
            · rw [Htake.out]
              exact hrow.setRow (by omega) _
            · exact below_setRow ((Hb2.out.alloc (by omega) _).grown HgrowA.out (by simp <;> omega) (fun j hj => by have := (Hx2.out j hj).1; omega)) (by omega) _
            · simp [World.setRow]
              omega
            · simp [intOf]
              omega
        · obtain rfl : k = t.kids.length := by omega
          have z2 := H2.out
          have z2l := z2.lt
          obtain ⟨z2c, z2f⟩ := obj_facts z2
          go_wp2_with fail
          rw [storeN _ _ _ _ _ _ _ _ _ (HasN.of z2 (by rfl))]
          refine ret_node (by rfl) (by rfl) (Var.row_same z2 _) (by rfl) (by rfl) ?_
          rw [HR.out]
          refine ⟨below_setRow Hb.out (by omega) _, a', c', ?_, ?_⟩
          · cases t
            simp only [shK, Px.T.kind, Px.T.name, Px.T.other, Px.T.n, Px.T.len, Px.T.init, Px.T.ghost, Px.T.off, Px.T.kids, shL_len]
          · rw [shK_kids, shL_len]
            have h1 := HX.out
            rw [List.take_length] at h1
            exact (h1.setRow (by omega) _).row.mono (fun b hb => by omega)
end Go.Proofs.YtbgpboiblggmiaaGreatDoor
