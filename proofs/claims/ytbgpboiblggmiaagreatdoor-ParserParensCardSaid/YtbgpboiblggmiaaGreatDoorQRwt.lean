/-
  An argument that is a tree: what it holds.
-/
import Derived.Test.YtbgpboiblggmiaaGreatDoorQRwb
import Derived.Test.YtbgpboiblggmiaaGreatDoorQVre
import Derived.ProofKit
set_option linter.unusedVariables false
set_option linter.unusedSimpArgs false
namespace Go.Proofs.YtbgpboiblggmiaaGreatDoor
open Go.ChangeShapes Go.WideShapes Go.ChangeAt Go.RowKit Go.ChangeMaps
open Px (St T D Res)

theorem cellsN9 : Tryz.prog.cellsOf 25 = 9 := by kernel_rfl
theorem cellsI1 : Tryz.prog.cellsOf 3 = 1 := by kernel_rfl
theorem cellsS1 : Tryz.prog.cellsOf 9 = 1 := by kernel_rfl
theorem cellsB1 : Tryz.prog.cellsOf 4 = 1 := by kernel_rfl
theorem cellsK1 : Tryz.prog.cellsOf 23 = 1 := by kernel_rfl

theorem rnodes_snoc {N : Nat} {w : World} {t : T} {kv : Value} (ht : RKids N w t kv) : ∀ (l : List T) (xs : List Value), RNodes N w l xs → RNodes N w (l ++ [t]) (xs ++ nodeCells t kv)
  | [], xs, h => by
    rw [RNodes] at h
    subst h
    rw [List.nil_append, RNodes]
    exact ⟨kv, [], by simp, ht, by rw [RNodes]⟩
  | u :: r, xs, h => by
    rw [RNodes] at h
    obtain ⟨kv', rest, rfl, h1, h2⟩ := h
    rw [List.cons_append, RNodes]
    exact ⟨kv', rest ++ nodeCells t kv, List.append_assoc _ _ _, h1, rnodes_snoc ht r rest h2⟩
theorem tbl_snoc : ∀ {l : List T} {t : T}, TBl l → TBt t → TBl (l ++ [t])
  | [], t, _, h => by rw [List.nil_append, TBl]; exact ⟨h, by rw [TBl]; trivial⟩
  | u :: r, t, h, ht => by
    rw [TBl] at h
    rw [List.cons_append, TBl]
    exact ⟨h.1, tbl_snoc h.2 ht⟩
theorem addr_add (a : Addr) (i j : Nat) : (a.add i).add j = a.add (i + j) := by
  unfold Addr.add
  by_cases hi : i = 0 <;> by_cases hj : j = 0 <;> simp [hi, hj, Nat.add_assoc]
theorem bytes_list (s : ByteArray) : s = ⟨s.data.toList.toArray⟩ := by cases s; simp

set_option maxRecDepth 100000 in
set_option maxHeartbeats 1000000 in
theorem read_tree {H : Type} {enc : TypeId × Value → H} {W : World} {sp : Nat → Bool} {held : Bool} : ∀ (fuel : Nat) (cs : List Value) (x : DataW H × List MemPlace), DataW.trod enc Tryz.prog W 0 sp held fuel 25 cs = some x →
    ∃ (t : T) (kv : Value), cs = nodeCells t kv ∧ RRow W.heap.size W t.kids kv ∧ TBt t := by
  intro fuel
  induction fuel using Nat.strongRecOn with
  | ind fuel ih =>
    intro cs x h
    obtain ⟨xs, n, rfl, _, hl, hlen, hf⟩ := DataW.trod_struct Tryz.underlying25 h
    rw [cellsN9] at hl
    have g : ∀ i, i < 9 → ∃ y, xs[i]? = some y := fun i hi => ⟨_, List.getElem?_eq_getElem (by rw [hlen]; exact hi)⟩
    obtain ⟨c0, c1, c2, c3, c4, c5, c6, c7, c8, rfl⟩ : ∃ c0 c1 c2 c3 c4 c5 c6 c7 c8, cs = [c0, c1, c2, c3, c4, c5, c6, c7, c8] := by
      match cs, hl with
      | [c0, c1, c2, c3, c4, c5, c6, c7, c8], _ => exact ⟨c0, c1, c2, c3, c4, c5, c6, c7, c8, rfl⟩
    obtain ⟨y0, g0⟩ := g 0 (by omega)
    obtain ⟨y1, g1⟩ := g 1 (by omega)
    obtain ⟨y2, g2⟩ := g 2 (by omega)
    obtain ⟨y3, g3⟩ := g 3 (by omega)
    obtain ⟨y4, g4⟩ := g 4 (by omega)
    obtain ⟨y5, g5⟩ := g 5 (by omega)
    obtain ⟨y6, g6⟩ := g 6 (by omega)
    obtain ⟨y7, g7⟩ := g 7 (by omega)
    obtain ⟨y8, g8⟩ := g 8 (by omega)
    have f0 : DataW.trod enc Tryz.prog W 0 sp held n 3 (([c0, c1, c2, c3, c4, c5, c6, c7, c8].drop 0).take (Tryz.prog.cellsOf 3)) = some y0 := (hf 0 _ rfl).trans g0
    rw [cellsI1] at f0
    change DataW.trod enc Tryz.prog W 0 sp held n 3 [c0] = some y0 at f0
    have f1 : DataW.trod enc Tryz.prog W 0 sp held n 9 (([c0, c1, c2, c3, c4, c5, c6, c7, c8].drop 1).take (Tryz.prog.cellsOf 9)) = some y1 := (hf 1 _ rfl).trans g1
    rw [cellsS1] at f1
    change DataW.trod enc Tryz.prog W 0 sp held n 9 [c1] = some y1 at f1
    have f2 : DataW.trod enc Tryz.prog W 0 sp held n 9 (([c0, c1, c2, c3, c4, c5, c6, c7, c8].drop 2).take (Tryz.prog.cellsOf 9)) = some y2 := (hf 2 _ rfl).trans g2
    rw [cellsS1] at f2
    change DataW.trod enc Tryz.prog W 0 sp held n 9 [c2] = some y2 at f2
    have f3 : DataW.trod enc Tryz.prog W 0 sp held n 3 (([c0, c1, c2, c3, c4, c5, c6, c7, c8].drop 3).take (Tryz.prog.cellsOf 3)) = some y3 := (hf 3 _ rfl).trans g3
    rw [cellsI1] at f3
    change DataW.trod enc Tryz.prog W 0 sp held n 3 [c3] = some y3 at f3
    have f4 : DataW.trod enc Tryz.prog W 0 sp held n 3 (([c0, c1, c2, c3, c4, c5, c6, c7, c8].drop 4).take (Tryz.prog.cellsOf 3)) = some y4 := (hf 4 _ rfl).trans g4
    rw [cellsI1] at f4
    change DataW.trod enc Tryz.prog W 0 sp held n 3 [c4] = some y4 at f4
    have f5 : DataW.trod enc Tryz.prog W 0 sp held n 3 (([c0, c1, c2, c3, c4, c5, c6, c7, c8].drop 5).take (Tryz.prog.cellsOf 3)) = some y5 := (hf 5 _ rfl).trans g5
    rw [cellsI1] at f5
    change DataW.trod enc Tryz.prog W 0 sp held n 3 [c5] = some y5 at f5
    have f6 : DataW.trod enc Tryz.prog W 0 sp held n 4 (([c0, c1, c2, c3, c4, c5, c6, c7, c8].drop 6).take (Tryz.prog.cellsOf 4)) = some y6 := (hf 6 _ rfl).trans g6
    rw [cellsB1] at f6
    change DataW.trod enc Tryz.prog W 0 sp held n 4 [c6] = some y6 at f6
    have f7 : DataW.trod enc Tryz.prog W 0 sp held n 23 (([c0, c1, c2, c3, c4, c5, c6, c7, c8].drop 7).take (Tryz.prog.cellsOf 23)) = some y7 := (hf 7 _ rfl).trans g7
    rw [cellsK1] at f7
    change DataW.trod enc Tryz.prog W 0 sp held n 23 [c7] = some y7 at f7
    have f8 : DataW.trod enc Tryz.prog W 0 sp held n 3 (([c0, c1, c2, c3, c4, c5, c6, c7, c8].drop 8).take (Tryz.prog.cellsOf 3)) = some y8 := (hf 8 _ rfl).trans g8
    rw [cellsI1] at f8
    change DataW.trod enc Tryz.prog W 0 sp held n 3 [c8] = some y8 at f8
    obtain ⟨k, h0, _, _⟩ := DataW.trod_int Tryz.underlying3 f0
    obtain ⟨s1, h1, _, b1⟩ := DataW.trod_string Tryz.underlying9 f1
    obtain ⟨s2, h2, _, b2⟩ := DataW.trod_string Tryz.underlying9 f2
    obtain ⟨n3, h3, _, _⟩ := DataW.trod_int Tryz.underlying3 f3
    obtain ⟨n4, h4, _, _⟩ := DataW.trod_int Tryz.underlying3 f4
    obtain ⟨n5, h5, _, _⟩ := DataW.trod_int Tryz.underlying3 f5
    obtain ⟨b6, h6, _⟩ := DataW.trod_bool Tryz.underlying4 f6
    obtain ⟨n8, h8, _, _⟩ := DataW.trod_int Tryz.underlying3 f8
    cases h0; cases h1; cases h2; cases h3; cases h4; cases h5; cases h6; cases h8
    have hbs : ∀ s : ByteArray, s.size ≤ maxLen → s.data.toList.length ≤ maxLen := fun s h => by
      have : s.data.toList.length = s.size := by show s.data.toList.length = s.data.size; simp
      omega
    rcases DataW.trod_slice Tryz.underlying23 f7 with ⟨h7, _⟩ | ⟨a, len, cap, elems, rest, n', hn, h7, _, _, hlc, hcm, hel, hat, _, _⟩
    · cases h7
      refine ⟨.mk k s1.data.toList s2.data.toList n3 n4 n5 b6 [] n8, .slice none 0 0, ?_, RRow.nil _ _, ?_⟩
      · rw [nodeCells]
        show _ = [_, Value.string ⟨s1.data.toList.toArray⟩, Value.string ⟨s2.data.toList.toArray⟩, _, _, _, _, _, _]
        rw [← bytes_list, ← bytes_list]
        rfl
      · rw [TBt]; exact ⟨hbs s1 b1, hbs s2 b2, by rw [TBl]; trivial⟩
    · cases h7
      have hkids : ∀ m, m ≤ len → ∃ (l : List T) (xs : List Value), l.length = m ∧ RNodes W.heap.size W l xs ∧ xs.length = m * 9 ∧ (∀ i u, xs[i]? = some u → W.cell? (a.add i) = some u) ∧ TBl l := by
        intro m
        induction m with
        | zero => intro _; exact ⟨[], [], rfl, by rw [RNodes], rfl, fun i u hu => by simp at hu, by rw [TBl]; trivial⟩
        | succ m ihm =>
          intro hm
          obtain ⟨l, xs, l1, l2, l3, l4, l5⟩ := ihm (by omega)
          have hem := hat m (by omega)
          rw [List.getElem?_eq_getElem (by rw [hel]; omega)] at hem
          obtain ⟨cs', q1, q2⟩ := Option.bind_eq_some_iff.1 hem
          obtain ⟨t, kv, t1, t2, t3⟩ := ih n' (by omega) cs' _ q2
          rw [cellsN9] at q1
          obtain ⟨_, c1, c2⟩ := World.cells?_some q1
          refine ⟨l ++ [t], xs ++ nodeCells t kv, by simp [l1], rnodes_snoc ((rkids_iff _ _ _ _).2 t2) l xs l2, by rw [List.length_append, l3, show (nodeCells t kv).length = 9 from rfl]; omega, fun i u hu => ?_, tbl_snoc l5 t3⟩
          by_cases hi : i < m * 9
          · rw [List.getElem?_append_left (by omega)] at hu
            exact l4 i u hu
          · rw [List.getElem?_append_right (by omega), l3] at hu
            have hi9 : i - m * 9 < 9 := by
              have := (List.getElem?_eq_some_iff.1 hu).1
              exact this
            have := c2 (i - m * 9) hi9
            rw [addr_add, show m * 9 + (i - m * 9) = i by omega, t1] at this
            rw [this]
            exact hu
      obtain ⟨l, ys, l1, l2, l3, l4, l5⟩ := hkids len (Nat.le_refl _)
      refine ⟨.mk k s1.data.toList s2.data.toList n3 n4 n5 b6 l n8, .slice (some a) len cap, ?_, ⟨some a, cap, ys, by show _ = Value.slice (some a) l.length cap; rw [l1], by show l.length ≤ _; omega, ?_, l2⟩, ?_⟩
      · rw [nodeCells]
        show _ = [_, Value.string ⟨s1.data.toList.toArray⟩, Value.string ⟨s2.data.toList.toArray⟩, _, _, _, _, _, _]
        rw [← bytes_list, ← bytes_list]
        rfl
      · cases ys with
        | nil => exact .inl rfl
        | cons u ys =>
          right
          have h0 := l4 0 u rfl
          have ha0 : a.add 0 = a := by unfold Addr.add; simp
          rw [ha0] at h0
          obtain ⟨b, o, sp⟩ := a
          unfold World.cell? at h0
          cases hh : W.heap[b]? with
          | none => rw [hh] at h0; cases h0
          | some ob =>
            rw [hh] at h0
            cases ob with
            | cells c ty fz =>
              simp only at h0
              cases sp with
              | some q => simp at h0
              | none =>
                refine ⟨b, o, c, (ty, fz), rfl, lt_heap hh, hh, fun j v hv => ?_⟩
                have h9 := l4 j v hv
                have hadd : (⟨b, o, none⟩ : Addr).add j = ⟨b, o + j, none⟩ := by unfold Addr.add; split <;> simp_all
                rw [hadd, cell_of_obj hh] at h9
                exact h9
            | _ => cases h0
      · rw [TBt]; exact ⟨hbs s1 b1, hbs s2 b2, l5⟩
end Go.Proofs.YtbgpboiblggmiaaGreatDoor

